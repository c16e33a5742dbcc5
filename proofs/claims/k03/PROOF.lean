import PyProof.Rows.All
import Wide.All
import OpenK.AllK
import Wide.FinOn
import Lean
import PyProof.EqAt
import PyProof.EqKinds
import PyProof.TupleCall
import PyProof.Logic
import PyProof.Cells
import PyProof.ZipIter
import PyProof.ListNew
import PyProof.TupleIter
import PyProof.WalksMore
import KE.KIntText
import PyProof.Rows.EqBoolInt
import PyProof.Rows.ZipGen
import PyProof.ExcInit
import PyProof.InstStoreFacts
import PyProof.ExcArgsOwn
import PyProof.ExcAttrAll.ValueError
import PyProof.ExcBaseAll.ValueError
import PyProof.EnumMake
import PyProof.Rows.EnumRows
import PySem.Str
import PyProof.StrLawsTight
import PyProof.StrLawsIdx
import PyProof.StrLawsIn
import PyProof.StationsW
import PyProof.RulesAs
import PyProof.NsDelKeeps
import PyProof.Rows.SetFrom
import KE.KDictSum
import PyProof.Rows.SortWalk
import PyProof.NeKinds
import KE.KDictList
import KE.KRevIter
import PyProof.ConsumeWalk
import PyProof.AttrMissHeap
import KE.KItemsList
import KE.KEqDict
import PyProof.ListMulRoad
import PyProof.FactsAll.tuple
import KE.IntTextText
import PyProof.StrLawsNeg
import PyProof.StrReplace2
import OpenK.KOwn
import PyProof.StrBlockI
import PySem.Challenge.RW_swapstride_k03_texts_of_no_term
set_option Elab.async false
set_option linter.all false
set_option maxRecDepth 100000
set_option maxHeartbeats 4000000
section
set_option maxHeartbeats 1000000
namespace L2
open PySem
theorem runs_up {M:Model} {Γ:Ctx} {p:Pos} {t:Sem Fin} {fs:List Frame} {s s':Shared} {e:End} (h:Runs M Γ p t fs s e s'):s.toks ≤ s'.toks:=by
 induction h with
 | done | raise | yield=>exact Nat.le_refl _
 | again _ _ ih | rule _ ih | «at» _ ih | load _ _ ih | update _ _ ih | loadIfAlive _ ih | point _ ih | alloc _ ih | ask _ ih | choose _ _ ih | os _ ih | handled _ ih | genState _ _ ih | stack _ ih | thread _ ih | newGen _ ih | callSusp _ ih | resumeJustStarted _ _ _ ih | resumeThrowFresh _ _ ih | resumeRunning _ _ ih | resumeFinished _ _ ih | segSuspOut _ _ ih=>exact ih
 | fresh _ ih=>exact Nat.le_trans (Nat.le_succ _) ih
 | call _ _ i1 i2 | resumeFresh _ _ _ _ i1 i2 | resumeSuspended _ _ _ _ i1 i2 | segRet _ _ i1 i2 | segGen _ _ i1 i2 | segSuspGen _ _ _ _ i1 i2=>exact Nat.le_trans i1 i2
theorem wakes_up {M:Model} {Γ:Ctx} {p:Pos} {g:Nat} {r:Resume} {s s':Shared} {res:GenResult} (h:Wakes M Γ p g r s res s'):s.toks ≤ s'.toks:=by
 unfold Wakes at h
 split at h
 ·exact h.elim
 ·split at h
  ·obtain ⟨_,_,h,_,_,rfl⟩:=h
   have:=runs_up h
   exact this
  ·rw [h.2]; exact Nat.le_refl _
  ·rw [h.2]; exact Nat.le_refl _
 ·obtain ⟨_,_,h,_,_,rfl⟩:=h
  have:=runs_up h
  exact this
 ·rw [h.2]; exact Nat.le_refl _
 ·rw [h.2]; exact Nat.le_refl _
theorem wp_up {α:Type} {M:Model} {Γ:Ctx} {n:Nat} {Q:α→Pos→Shared→Prop} {E:Value→Pos→Shared→Prop} (t:Sem α):∀ (p:Pos) (s:Shared),n ≤ s.toks→Sem.wp M Γ t (fun a p' s'=>n ≤ s'.toks→Q a p' s') (fun e p' s'=>n ≤ s'.toks→E e p' s') p s→Sem.wp M Γ t Q E p s:=by
 induction t with
 | pure x=>exact fun p s hn h=>h hn
 | raise v=>exact fun p s hn h=>h hn
 | unsupported | finish | yield | fork | await | register=>exact fun p s hn h=>h
 | rule _ k ih | «at» _ k ih | alloc _ k ih | loadIfAlive _ k ih | point _ k ih | ask k ih | os _ _ k ih | handled _ k ih | newGen _ k ih | stack k ih | thread k ih=>exact fun p s hn h=>ih _ _ _ hn h
 | fresh k ih=>exact fun p s hn h=>ih _ _ _ (Nat.le_succ_of_le hn) h
 | load a _ k ih | genState a k ih=>exact fun p s hn ⟨o,ho,h⟩=>⟨o,ho,ih _ _ _ hn h⟩
 | update a _ f k ih | choose _ _ k ih=>exact fun p s hn ⟨ha,h⟩=>⟨ha,ih _ _ _ hn h⟩
 | call c h g l k ih=>exact fun p s hn ⟨r,s',hr,h⟩=>⟨r,s',hr,ih _ _ _ (Nat.le_trans hn (runs_up hr)) h⟩
 | resume g r l k ih=>exact fun p s hn ⟨res,s',hw,h⟩=>⟨res,s',hw,ih _ _ _ (Nat.le_trans hn (wakes_up hw)) h⟩
theorem up {α:Type} {M:Model} {A:Around} {t:Sem α} {Q:α→Shared→Prop} {E:Value→Shared→Prop} {s:Shared} (h:wpAny M A t (fun v s'=>s.toks ≤ s'.toks→Q v s') (fun e s'=>s.toks ≤ s'.toks→E e s') s):wpAny M A t Q E s:=fun Γ p hΓ=>wp_up t p s (Nat.le_refl _) (h Γ p hΓ)
theorem upQ {α:Type} {M:Model} {A:Around} {t:Sem α} {Q:α→Shared→Prop} {E:Value→Shared→Prop} {s:Shared} (h:wpAny M A t (fun v s'=>s.toks ≤ s'.toks→Q v s') E s):wpAny M A t Q E s:=up (wpAny_mono h (fun _ _ h=>h) fun _ _ h _=>h)
section
variable {M:Model} {A:Around} {E:Value→Shared→Prop}
theorem st1 {b0 s:Shared} {m cm:Str→Option Value} {env:Env} {n:Str} {v:Value} {Q:Unit→Shared→Prop} (x:InCallC b0 env.locals m env.cells cm s) (hk:env.scope.kind=.function) (hl:env.kindOf n=some .local)
  (h:∀ s',0 < s'.toks→InCallC b0 env.locals (fun y=>if y=n then some v else m y) env.cells cm s'→Q () s'):wpAny M A (storeName env n v) Q E s:=by
 have hz:(env.scope.kind == .class || (env.scope.kind == .module && env.locals != env.globals))=false:=by
  rw [hk]
  rfl
 refine wpAny_storeName_local hl x.toInCall.ns (fun h2 n2 sb=>?_) hz
 have y:InCall b0 env.locals (fun y=>if y=n then some v else m y) { s with heap:=h2,toks:=s.toks + 1 }:=by
  refine ⟨?_,n2,fun b o e=>?_,x.toInCall.fresh⟩
  ·obtain ⟨_,_,q⟩:=x.toInCall.same
   exact ⟨h2,s.toks + 1,by rw [q]⟩
  ·have lt:b < env.locals:=Nat.lt_of_lt_of_le (Heap.lt_size e) x.toInCall.fresh
   exact sb.extBut b o (Nat.ne_of_lt lt) (x.toInCall.keep b o e)
 refine h _ (Nat.succ_pos _) ⟨y,fun k c hc=>?_,x.apart,x.above⟩
 have gt:=x.above k c (mem_of_lookup hc)
 exact (x.cell k c hc).sameBut sb (Nat.ne_of_gt gt)
theorem newEnv1 {s:Shared} {scope:Scope} {g bt:Addr} {n:Str} {v:Value} {r:List (Str×Value)} {qual:Str} {f:Option Addr} {cd:Value} {Q:Env→Shared→Prop} (hk:scope.kind=.function) (hl:scope.names.lookup n=some .local)
  (hr:∀ y∈(n,v) :: r,scope.names.lookup y.1=some .local∨(scope.names.lookup y.1=some .cell∧((cellsFrom (s.heap.objs.size + 1) scope.names []).lookup y.1).isSome=true))
  (hQ:∀ env,env=newEnv scope s.heap.objs.size g (cellsFrom (s.heap.objs.size + 1) scope.names []) qual f cd none bt→∀ s',0 < s'.toks →
   InCallC s env.locals (bindL env.kindOf ((n,v) :: r) fun _=>none) env.cells (bindC env.kindOf ((n,v) :: r) fun _=>none) s'→Q env s') :
  wpAny M A (newFunctionEnv scope g [] ((n,v) :: r) qual f cd none bt) Q E s:=by
 have cs:=cellsFrom_ok scope.names (s.heap.push ⟨.type "frame",none,.dict #[],#[]⟩) (s.heap.objs.size + 1) [] ⟨(by intro _ _ z; cases z),.nil⟩ (Nat.le_of_eq (Heap.size_push _ _).symm)
 rw [Heap.size_push] at cs
 simp only [newFunctionEnv,Option.isSome_none,Bool.false_eq_true,if_false]
 refine wpAny_bind (wpAny_alloc (wpAny_bind (wpAny_layCells _ (fun _ kind _=>by cases q:kind == NameKind.cell <;> simp [q]) _ _ _ _ ?_)))
 rw [show ({ s with heap:=s.heap.push ⟨.type "frame",none,.dict #[],#[]⟩ }:Shared).heap.objs.size=s.heap.objs.size + 1 from Heap.size_push ..]
 have kp:∀ b o,s.heap.get? b=some o→(pushCells (s.heap.push ⟨.type "frame",none,.dict #[],#[]⟩) scope.names).get? b=some o:=fun b o q=>pushCells_keeps _ _ b o (Heap.get?_push_of_some _ q)
 have ic:InCall s s.heap.objs.size (fun _=>none) { s with heap:=pushCells (s.heap.push ⟨.type "frame",none,.dict #[],#[]⟩) scope.names }:=⟨⟨_,_,rfl⟩,(Heap.Ns.new s.heap (.type "frame")).keeps (pushCells_keeps _ _),kp,Nat.le_refl _⟩
 have x0:InCallC s s.heap.objs.size (fun _=>none) (cellsFrom (s.heap.objs.size + 1) scope.names []) (fun _=>none) { s with heap:=pushCells (s.heap.push ⟨.type "frame",none,.dict #[],#[]⟩) scope.names }:=
  ⟨ic,fun k c q=>(cs.empty k c (mem_of_lookup q)).1,cs.apart,fun k c q=>(cs.empty k c q).2⟩
 refine wpAny_bind ?_
 rw [List.forIn_cons]
 refine wpAny_bind (wpAny_bind (st1 (env:=newEnv scope s.heap.objs.size g (cellsFrom (s.heap.objs.size + 1) scope.names []) qual f cd none bt) x0 hk hl fun s1 h1 x1=>wpAny_pure ?_))
 refine upQ (wpAny_bindParams (env:=newEnv scope s.heap.objs.size g (cellsFrom (s.heap.objs.size + 1) scope.names []) qual f cd none bt) _ (fun _ _ _=>rfl) hk r _ _ _ _ x1 (fun y hy=>hr y (List.mem_cons_of_mem _ hy)) fun s2 x2 up=>wpAny_pure (hQ _ rfl s2 (Nat.lt_of_lt_of_le h1 up) ?_))
 have e:(newEnv scope s.heap.objs.size g (cellsFrom (s.heap.objs.size + 1) scope.names []) qual f cd none bt).kindOf n=some .local:=hl
 unfold bindL bindC
 rw [if_pos e,if_pos e]
 exact x2
theorem newEnvT {s:Shared} {scope:Scope} {g bt:Addr} {ps:List Str} {us:List Value} {qual:Str} {f:Option Addr} {cd:Value} {Q:Env→Shared→Prop} (hk:scope.kind=.function) (ht:0 < s.toks∨(ps.head?.bind fun x=>scope.names.lookup x)=some .local) (hl:us.length=ps.length)
  (hr:∀ y∈ps.zip us,scope.names.lookup y.1=some .local∨(scope.names.lookup y.1=some .cell∧((cellsFrom (s.heap.objs.size + 1) scope.names []).lookup y.1).isSome=true))
  (hQ:∀ env,env=newEnv scope s.heap.objs.size g (cellsFrom (s.heap.objs.size + 1) scope.names []) qual f cd none bt→∀ s',0 < s'.toks→InCallC s env.locals (bindL env.kindOf (ps.zip us) fun _=>none) env.cells (bindC env.kindOf (ps.zip us) fun _=>none) s'→Q env s') :
  wpAny M A (newFunctionEnv scope g [] (ps.zip us) qual f cd none bt) Q E s:=by
 rcases ht with ht | ht
 ·exact upQ (wpAny_newFunctionEnv_cells hk hr fun env he s' x up=>hQ env he s' (Nat.lt_of_lt_of_le ht up) x)
 ·match ps,us,hl,ht,hr,hQ with
  | p :: pr,u :: ur,_,ht,hr,hQ=>exact newEnv1 hk ht hr hQ
end
end L2
end
section
namespace L2
open PySem PySem.Spec PyProof.Rows
abbrev Key:=Sum Int Str
def keyIs:Key→Value→Bool
 | .inl k,v=>Value.isInt k v
 | .inr x,v=>Value.isStrOf x v
def keyH (w:World):Key→Int
 | .inl k=>hashInt k
 | .inr x=>hashStr w x
theorem keyIs_shape:∀ {k:Key} {v:Value},keyIs k v=true→(∃ i t,k=Sum.inl i∧v=Value.int i t)∨(∃ x t,k=Sum.inr x∧v=Value.str x t)
 | .inl i,v,h=>by
  obtain ⟨t,e⟩:=Value.isInt_shape (k:=i) (v:=v) h
  exact .inl ⟨i,t,rfl,e⟩
 | .inr x,v,h=>by
  obtain ⟨t,e⟩:=Value.isStrOf_shape (x:=x) (v:=v) h
  exact .inr ⟨x,t,rfl,e⟩
theorem keyIs_int (i:Int) (t:Tok):keyIs (.inl i) (.int i t)=true:=by simp [keyIs,Value.isInt]
theorem keyIs_str (x:Str) (t:Tok):keyIs (.inr x) (.str x t)=true:=by simp [keyIs,Value.isStrOf]
theorem key_ll (a b:Int):decide ((Sum.inl a:Key)=Sum.inl b)=(a == b):=by
 by_cases e:a=b
 ·subst e; simp
 ·have h:¬ (Sum.inl a:Key)=Sum.inl b:=fun q=>e (Sum.inl.inj q)
  rw [decide_eq_false h]
  exact (beq_eq_false_iff_ne.mpr e).symm
theorem key_rr (a b:Str):decide ((Sum.inr a:Key)=Sum.inr b)=decide (a=b):=by
 by_cases e:a=b
 ·subst e; simp
 ·have h:¬ (Sum.inr a:Key)=Sum.inr b:=fun q=>e (Sum.inr.inj q)
  rw [decide_eq_false h,decide_eq_false e]
theorem key_lr (a:Int) (b:Str):decide ((Sum.inl a:Key)=Sum.inr b)=false:=decide_eq_false (fun q=>nomatch q)
theorem key_rl (a:Str) (b:Int):decide ((Sum.inr a:Key)=Sum.inl b)=false:=decide_eq_false (fun q=>nomatch q)
def mixKind (prog:Program) (w:World):PySem.KeyKind prog w Key where
 is:=keyIs
 hash:=keyH w
 inj:=fun v a b ha hb=>by
  rcases keyIs_shape ha with ⟨i,t,rfl,rfl⟩ | ⟨x,t,rfl,rfl⟩
  ·rcases keyIs_shape hb with ⟨j,u,rfl,e⟩ | ⟨y,u,rfl,e⟩
   ·injection e with e1 _; rw [e1]
   ·exact nomatch e
  ·rcases keyIs_shape hb with ⟨j,u,rfl,e⟩ | ⟨y,u,rfl,e⟩
   ·exact nomatch e
   ·injection e with e1 _; rw [e1]
 byValue:=fun k v h=>by
  rcases keyIs_shape h with ⟨i,t,rfl,rfl⟩ | ⟨x,t,rfl,rfl⟩ <;> rfl
 pyHash:=fun hv h=>by
  rcases keyIs_shape hv with ⟨i,t,rfl,rfl⟩ | ⟨x,t,rfl,rfl⟩
  ·exact wpAny_pyHash_int h
  ·exact wpAny_pyHash_str h
 eqBool:=fun hu hv h=>by
  rcases keyIs_shape hu with ⟨i,t,rfl,rfl⟩ | ⟨x,t,rfl,rfl⟩
  ·rcases keyIs_shape hv with ⟨j,u,rfl,rfl⟩ | ⟨y,u,rfl,rfl⟩
   ·rw [key_ll] at h; exact wpAny_eqBool_int h
   ·rw [key_lr] at h; exact SeqAt.EqAt.int_str i t y u _ _ _ _ h
  ·rcases keyIs_shape hv with ⟨j,u,rfl,rfl⟩ | ⟨y,u,rfl,rfl⟩
   ·rw [key_rl] at h; exact SeqAt.EqAt.str_int x t j u _ _ _ _ h
   ·rw [key_rr] at h; exact wpAny_eqBool_str h
 «strs»:=fun k x t v h=>by
  rcases keyIs_shape h with ⟨i,u,rfl,e⟩ | ⟨y,u,rfl,e⟩
  ·exact nomatch e
  ·injection e with e1 _
   subst e1
   cases v <;> rfl
theorem mixKind_int (prog:Program) (w:World) (i:Int) (t:Tok):(mixKind prog w).is (.inl i) (.int i t)=true:=keyIs_int i t
theorem mixKind_str (prog:Program) (w:World) (x:Str) (t:Tok):(mixKind prog w).is (.inr x) (.str x t)=true:=keyIs_str x t
end L2
namespace L2
open PySem PySem.Spec PyProof.Rows
inductive V where
 | non | bl (b:Bool) | int (i:Int) | str (x:Str) | byt (b:Array UInt8) | flt (b:UInt64) | ref (a:Addr) | ty (n:String)
 deriving DecidableEq
abbrev PTok:={ t:Tok // t≠0 }
def RelV:V→Value→Prop
 | .non,u=>u=Value.none
 | .bl b,u=>u=Value.bool b
 | .int i,u=>∃ t,u=Value.int i t
 | .str x,u=>∃ t:PTok,u=Value.str x t.1
 | .byt b,u=>∃ t,u=Value.bytes b t
 | .flt b,u=>∃ t,u=Value.float b t
 | .ref a,u=>u=Value.ref a
 | .ty n,u=>u=Value.type n
abbrev Vals:List V→List Value→Prop:=Paired RelV
theorem Vals.length {xs:List V} {us:List Value} (r:Vals xs us):xs.length=us.length:=Paired.length r
theorem Vals.get:∀ {xs:List V} {us:List Value} {i:Nat} {x:V},Vals xs us→xs[i]?=some x→∃ u,us[i]?=some u∧RelV x u
 | _,_,_,_,.nil,e=>by simp at e
 | _,_,0,_,.cons r _,e=>by simp at e; subst e; exact ⟨_,rfl,r⟩
 | _,_,i + 1,x,.cons _ t,e=>by
  obtain ⟨u,h1,h2⟩:=Vals.get (i:=i) (x:=x) t (by simpa using e)
  exact ⟨u,by simpa using h1,h2⟩
theorem Vals.set {x:V} {u:Value} (r:RelV x u):∀ {xs:List V} {us:List Value} (i:Nat),Vals xs us→Vals (xs.set i x) (us.set i u)
 | _,_,_,.nil=>.nil
 | _,_,0,.cons _ t=>.cons r t
 | _,_,i + 1,.cons q t=>.cons q (Vals.set r i t)
theorem Vals.append:∀ {xs ys:List V} {us ws:List Value},Vals xs us→Vals ys ws→Vals (xs++ys) (us++ws)
 | _,_,_,_,.nil,s=>s
 | _,_,_,_,.cons r t,s=>.cons r (Vals.append t s)
theorem Vals.take:∀ {xs:List V} {us:List Value} (n:Nat),Vals xs us→Vals (xs.take n) (us.take n)
 | _,_,0,_=>.nil
 | _,_,_ + 1,.nil=>.nil
 | _,_,n + 1,.cons r t=>.cons r (Vals.take n t)
theorem Vals.drop:∀ {xs:List V} {us:List Value} (n:Nat),Vals xs us→Vals (xs.drop n) (us.drop n)
 | _,_,0,r=>r
 | _,_,_ + 1,.nil=>.nil
 | _,_,n + 1,.cons _ t=>Vals.drop n t
def RelO:Option V→Option Value→Prop
 | some v,some u=>RelV v u
 | none,none=>True
 | _,_=>False
def KV {κ:Type}:List (κ×V)→List (κ×Value)→Prop:=Paired fun (p:κ×V) (q:κ×Value)=>p.1=q.1∧RelV p.2 q.2
def kV:Key→V
 | .inl i=>.int i
 | .inr x=>.str x
inductive HO where
 | lst (xs:List V)
 | tup (xs:List V)
 | dK (kvs:List (Key×V)) | dT (kvs:List (List Key×V))
 | set (S:Int→Bool) (n:Nat)
 | ins (C dx:Addr) (fs:List (Str×V))
 | own (x:Addr)
 | xd (fs:List (Str×V))
 | met (f x:Addr)
 | rng (lo hi:Int)
 | frz (o:Obj) (u:HO)
 | tbl (ps:Array Value)
 | ext (φ:Heap→Prop)
abbrev Hp:=Addr→Option HO
def upd (H:Hp) (a:Addr) (o:HO):Hp:=fun b=>if b=a then some o else H b
theorem upd_same {H:Hp} {a:Addr} {o:HO}:upd H a o a=some o:=by unfold upd; rw [if_pos rfl]
theorem upd_ne {H:Hp} {a b:Addr} {o:HO} (h:b≠a):upd H a o b=H b:=by unfold upd; rw [if_neg h]
theorem upd_upd {H:Hp} {a:Addr} {o u:HO}:upd (upd H a o) a u=upd H a u:=by
 funext b; unfold upd; split <;> rfl
theorem ne_of_none {H:Hp} {a b:Addr} {o:HO} (h:H a=some o) (h':H b=none):a≠b:=by
 intro e; subst e; rw [h] at h'; cases h'
section
variable (P:Program) (w:World)
def ObjOk (H:Hp) (h:Heap) (a:Addr):HO→Prop
 | .lst xs=>xs.length ≤ sizeLine∧∃ (its:List Value) (n:Nat),Vals xs its∧h.get? a=some { cls:=.type "list",data:=.seq its.toArray n }
 | .tup xs=>xs.length ≤ sizeLine∧∃ its:List Value,Vals xs its∧∃ o,h.get? a=some o∧o.cls=.type "tuple"∧∃ n,o.data=.seq its.toArray n∧o.dict=none
 | .dK kvs=>kvs.length ≤ sizeLine∧(a == sysModules)=false∧∃ vs,KV kvs vs∧h.DictOf (mixKind P w) a vs
 | .dT kvs=>kvs.length ≤ sizeLine∧(a == sysModules)=false∧∃ xs:List (List Key×Addr×Value),
   Paired (fun (p:List Key×V) (q:List Key×Addr×Value)=>p.1=q.1∧H q.2.1=some (.tup (p.1.map kV))∧RelV p.2 q.2.2) kvs xs ∧
   ∃ o es ep,h.get? a=some o∧o.ExactDict∧o.data=.dict es ep∧es.toList=xs.map (entryOfKey (tupleKind (mixKind P w)))∧(xs.map (·.1)).Nodup
 | .set S n=>h.SetOf (intKind P w) a S n
 | .ins C dx fs=>H dx=some (.own a)∧fs.length ≤ 1000∧dx≠a∧h.get? a=some (PySem.W.instObj C dx) ∧
   ∃ mA,h.Ns1 dx mA∧(∀ f,RelO (fs.lookup f) (mA f))∧PySem.Within mA (fs.map (·.1))
 | .own _=>∃ o,h.get? a=some o
 | .xd fs=>∃ mA,h.Ns1 a mA∧∀ f,RelO (fs.lookup f) (mA f)
 | .rng lo hi=>∃ t u v,h.get? a=some { cls:=.type "range",data:=.fields #[.int lo t,.int hi u,.int 1 v] }
 | .frz o u=>h.get? a=some o∧ObjOk H h a u
 | .tbl ps=>h.get? a=some { cls:=.none,data:=.fields ps }
 | .met f x=>h.get? a=some (PySem.W.methodObj (.ref f) (.ref x))
 | .ext φ=>φ h∧(∃ o,h.get? a=some o)∧∀ h1 h2:Heap,φ h1→(∀ o,h1.get? a=some o→h2.get? a=some o)→φ h2
def HOk (H:Hp) (h:Heap):Prop:=∀ a o,H a=some o→ObjOk P w H h a o
end
section
variable {P:Program} {w:World} {H H':Hp} {h h':Heap} {a:Addr} {o:HO}
theorem ObjOk.lt (x:ObjOk P w H h a o):a < h.objs.size:=by
 cases o with
 | lst xs=>obtain ⟨_,_,_,_,e⟩:=x; exact Heap.lt_size e
 | tup xs=>obtain ⟨_,_,_,_,e,_⟩:=x; exact Heap.lt_size e
 | dK kvs=>obtain ⟨_,_,_,_,o,_,_,e,_⟩:=x; exact Heap.lt_size e
 | dT kvs=>obtain ⟨_,_,_,_,o,_,_,e,_⟩:=x; exact Heap.lt_size e
 | set S n=>obtain ⟨o,_,_,_,e,_⟩:=x; exact Heap.lt_size e
 | ins C dx fs=>obtain ⟨_,_,_,e,_⟩:=x; exact Heap.lt_size e
 | own y=>obtain ⟨_,e⟩:=x; exact Heap.lt_size e
 | xd fs=>obtain ⟨_,⟨_,_,_,e,_⟩,_⟩:=x; exact Heap.lt_size e
 | rng lo hi=>obtain ⟨_,_,_,e⟩:=x; exact Heap.lt_size e
 | frz ob u=>obtain ⟨e,_⟩:=x; exact Heap.lt_size e
 | tbl ps=>exact Heap.lt_size (show h.get? a=some _ from x)
 | met f y=>exact Heap.lt_size (show h.get? a=some _ from x)
 | ext φ=>obtain ⟨_,⟨_,e⟩,_⟩:=x; exact Heap.lt_size e
theorem Paired.mapP {α β:Type} {F G:α→β→Prop}:∀ {l₁:List α} {l₂:List β},Paired F l₁ l₂→(∀ a b,F a b→G a b)→Paired G l₁ l₂
 | _,_,.nil,_=>.nil
 | _,_,.cons r t,f=>.cons (f _ _ r) (Paired.mapP t f)
theorem ObjOk.stay (x:ObjOk P w H h a o) (k:∀ b u,(b=a∨H b=some (.own a))→h.get? b=some u→h'.get? b=some u)
  (ho:∀ b,H b=some (.own a)→H' b=some (.own a)) (ht:∀ b xs,H b=some (.tup xs)→H' b=some (.tup xs)):ObjOk P w H' h' a o:=by
 induction o with
 | lst xs=>obtain ⟨z,its,n,r,e⟩:=x; exact ⟨z,its,n,r,k _ _ (.inl rfl) e⟩
 | tup xs=>obtain ⟨z,its,r,ob,e,c⟩:=x; exact ⟨z,its,r,ob,k _ _ (.inl rfl) e,c⟩
 | dK kvs=>obtain ⟨z,y,vs,r,ob,es,ep,e,c⟩:=x; exact ⟨z,y,vs,r,ob,es,ep,k _ _ (.inl rfl) e,c⟩
 | dT kvs=>
  obtain ⟨z,y,xs,r,ob,es,ep,e,c⟩:=x
  exact ⟨z,y,xs,Paired.mapP r fun p q z=>⟨z.1,ht _ _ z.2.1,z.2.2⟩,ob,es,ep,k _ _ (.inl rfl) e,c⟩
 | set S n=>obtain ⟨ob,es,ep,t,e,c⟩:=x; exact ⟨ob,es,ep,t,k _ _ (.inl rfl) e,c⟩
 | ins C dx fs=>
  obtain ⟨d,z,ne,e,mA,⟨od,es,ep,e2,c⟩,r⟩:=x
  exact ⟨ho _ d,z,ne,k _ _ (.inl rfl) e,mA,⟨od,es,ep,k _ _ (.inr d) e2,c⟩,r⟩
 | own y=>obtain ⟨ob,e⟩:=x; exact ⟨ob,k _ _ (.inl rfl) e⟩
 | xd fs=>obtain ⟨mA,⟨od,es,ep,e,c⟩,r⟩:=x; exact ⟨mA,⟨od,es,ep,k _ _ (.inl rfl) e,c⟩,r⟩
 | rng lo hi=>obtain ⟨t,u,v,e⟩:=x; exact ⟨t,u,v,k _ _ (.inl rfl) e⟩
 | frz ob u ih=>obtain ⟨e,q⟩:=x; exact ⟨k _ _ (.inl rfl) e,ih q⟩
 | tbl ps=>
  have e:h.get? a=some { cls:=.none,data:=.fields ps }:=x
  show h'.get? a=some { cls:=.none,data:=.fields ps }
  exact k a _ (.inl rfl) e
 | met f y=>
  have e:h.get? a=some (PySem.W.methodObj (.ref f) (.ref y)):=x
  show h'.get? a=some (PySem.W.methodObj (.ref f) (.ref y))
  exact k a _ (.inl rfl) e
 | ext φ=>obtain ⟨p,⟨o,e⟩,st⟩:=x; exact ⟨st _ _ p fun o q=>k _ _ (.inl rfl) q,⟨o,k _ _ (.inl rfl) e⟩,st⟩
theorem HOk.lt (x:HOk P w H h) (e:H a=some o):a < h.objs.size:=(x a o e).lt
theorem HOk.fresh (x:HOk P w H h) (e:h.objs.size ≤ a):H a=none:=by
 cases q:H a with
 | none=>rfl
 | some u=>exact absurd (Nat.lt_of_lt_of_le (x.lt q) e) (Nat.lt_irrefl _)
theorem HOk.kept (x:HOk P w H h) (k:∀ b u,h.get? b=some u→h'.get? b=some u):HOk P w H h':=fun a o e=>
 (x a o e).stay (fun b u _ q=>k b u q) (fun _ q=>q) fun _ _ q=>q
theorem HOk.laid (x:HOk P w H h) (k:∀ b u,h.get? b=some u→h'.get? b=some u) (hp:h.objs.size ≤ a) (new:ObjOk P w (upd H a o) h' a o):HOk P w (upd H a o) h':=fun b u e=>by
 have hn:=x.fresh hp
 by_cases hb:b=a
 ·subst hb; rw [upd_same] at e; cases e; exact new
 ·rw [upd_ne hb] at e
  exact (x b u e).stay (fun c v _ q=>k c v q) (fun c q=>by rw [upd_ne (ne_of_none q hn)]; exact q) fun c xs q=>by rw [upd_ne (ne_of_none q hn)]; exact q
end
def Rd (H:Hp) (a:Addr) (u:HO):Prop:=H a=some u∨∃ o,H a=some (.frz o u)
theorem Rd.ok {P:Program} {w:World} {H:Hp} {h:Heap} {a:Addr} {u:HO} (r:Rd H a u) (x:HOk P w H h):ObjOk P w H h a u:=by
 rcases r with r | ⟨o,r⟩
 ·exact x a u r
 ·obtain ⟨_,q⟩:=x a _ r
  exact q
def Mut:Option HO→Prop
 | some (.lst _)=>True
 | some (.dK _)=>True
 | some (.dT _)=>True
 | some (.set _ _)=>True
 | some (.ins _ _ _)=>True
 | some (.ext _)=>True
 | _=>False
section
variable {P:Program} {w:World} {H:Hp} {h h':Heap} {x e:Addr} {o':HO}
theorem HOk.write (ok:HOk P w H h) (mu:Mut (H x)) (he:e=x∨H e=some (.own x)) (k:∀ b u,b≠e→h.get? b=some u→h'.get? b=some u) (heo:∃ u,h'.get? e=some u)
  (new:ObjOk P w (upd H x o') h' x o'):HOk P w (upd H x o') h':=fun b u q=>by
 have nown:∀ c y,H c=some (.own y)→c≠x:=fun c y r z=>by subst z; rw [r] at mu; exact mu
 have ntup:∀ c xs,H c=some (.tup xs)→c≠x:=fun c xs r z=>by subst z; rw [r] at mu; exact mu
 by_cases hb:b=x
 ·subst hb; rw [upd_same] at q; cases q; exact new
 ·rw [upd_ne hb] at q
  by_cases hbe:b=e
  ·have q':H b=some (.own x):=by
    rcases he with z | z
    ·exact absurd (hbe.trans z) hb
    ·rw [hbe]; exact z
   rw [q] at q'; cases q'
   obtain ⟨v,hv⟩:=heo
   exact ⟨v,by rw [hbe]; exact hv⟩
  ·refine (ok b u q).stay (fun c v hc r=>k c v ?_ r) (fun c r=>by rw [upd_ne (nown c b r)]; exact r) fun c xs r=>by rw [upd_ne (ntup c xs r)]; exact r
   rcases hc with rfl | hc
   ·exact hbe
   ·rintro rfl
    rcases he with z | z
    ·exact nown c b hc z
    ·rw [hc] at z; cases z; exact hb rfl
end
structure Un (fs ex:List Addr) (H H':Hp) (h h':Heap):Prop where
 keep:∀ b o,h.get? b=some o→H b=none→b ∉ fs→b ∉ ex→h'.get? b=some o
 slot:∀ b o,h.get? b=some o→H b=none→b∈fs→b ∉ ex→∃ sl,h'.get? b=some { o with slots:=sl }
 free:∀ b o,h.get? b=some o→H b=none→b ∉ ex→H' b=none
 there:∀ b o,h.get? b=some o→b ∉ ex→∃ o',h'.get? b=some o'
 tups:∀ b xs,H b=some (.tup xs)→H' b=some (.tup xs)
 frzs:∀ b o u,H b=some (.frz o u)→H' b=some (.frz o u)
 tbls:∀ b ps,H b=some (.tbl ps)→∃ more,H' b=some (.tbl (ps++more))
section
variable {fs fs' ex ex':List Addr} {H H1 H2:Hp} {h h1 h2 h':Heap} {a x e:Addr} {o:HO}
theorem Un.any (u:Un fs ex H H1 h h1) {b:Addr} {ob:Obj} (q:h.get? b=some ob) (n:H b=none) (hx:b ∉ ex):∃ sl,h1.get? b=some { ob with slots:=sl }:=by
 by_cases hb:b∈fs
 ·exact u.slot b ob q n hb hx
 ·exact ⟨ob.slots,u.keep b ob q n hb hx⟩
theorem Un.kept (k:∀ b u,h.get? b=some u→h'.get? b=some u):Un fs ex H H h h':=
 ⟨fun b ob q _ _ _=>k b ob q,fun b ob q _ _ _=>⟨ob.slots,k b ob q⟩,fun _ _ _ n _=>n,fun b ob q _=>⟨ob,k b ob q⟩,fun _ _ q=>q,fun _ _ _ q=>q,fun _ ps q=>⟨#[],by rw [q]; simp⟩⟩
theorem Un.refl:Un fs ex H H h h:=Un.kept fun _ _ q=>q
theorem Un.laid (k:∀ b u,h.get? b=some u→h'.get? b=some u) (hp:h.objs.size ≤ a) (hn:H a=none):Un fs ex H (upd H a o) h h' where
 keep:=fun b u q _ _ _=>k b u q
 slot:=fun b u q _ _ _=>⟨u.slots,k b u q⟩
 free:=fun b u q n _=>by rw [upd_ne (Nat.ne_of_lt (Nat.lt_of_lt_of_le (Heap.lt_size q) hp))]; exact n
 there:=fun b u q _=>⟨u,k b u q⟩
 tups:=fun b xs q=>by rw [upd_ne (ne_of_none q hn)]; exact q
 frzs:=fun b u xs q=>by rw [upd_ne (ne_of_none q hn)]; exact q
 tbls:=fun b ps q=>⟨#[],by rw [upd_ne (ne_of_none q hn),q]; simp⟩
theorem Un.write (mu:Mut (H x)) (he:e=x∨H e=some (.own x)) (k:∀ b u,b≠e→h.get? b=some u→h'.get? b=some u) (heo:∃ u,h'.get? e=some u):Un fs ex H (upd H x o) h h':=by
 have hx:∀ b,H b=none→b≠x:=fun b n z=>by subst z; rw [n] at mu; exact mu
 have hb:∀ b,H b=none→b≠e:=fun b n z=>by
  subst z
  rcases he with r | r
  ·exact hx b n r
  ·rw [n] at r; cases r
 have hm:∀ b u,H b=some u→¬ Mut (some u)→b≠x:=fun b u q nm z=>by subst z; rw [q] at mu; exact nm mu
 refine ⟨fun b u q n _ _=>k b u (hb b n) q,fun b u q n _ _=>⟨u.slots,k b u (hb b n) q⟩,fun b u q n _=>by rw [upd_ne (hx b n)]; exact n,fun b u q _=>?_,
  fun b xs q=>by rw [upd_ne (hm b _ q fun z=>z)]; exact q,fun b u xs q=>by rw [upd_ne (hm b _ q fun z=>z)]; exact q,fun b ps q=>⟨#[],by rw [upd_ne (hm b _ q fun z=>z),q]; simp⟩⟩
 by_cases hbe:b=e
 ·subst hbe; exact heo
 ·exact ⟨u,k b u hbe q⟩
end
def trk (h:Heap) (H:Hp):List Addr:=(List.range h.objs.size).filter fun a=>(H a).isSome
def hidT (h:Heap) (H:Hp):Heap:=PySem.W.hideAll h (trk h H)
theorem hidT_size (h:Heap) (H:Hp):(hidT h H).objs.size=h.objs.size:=PySem.W.hideAll_size _ _
theorem hidT_get {h:Heap} {H:Hp} {b:Addr} {o:Obj} (e:h.get? b=some o) (n:H b=none):(hidT h H).get? b=some o:=
 PySem.W.hideAll_get _ e fun hm=>by
  have q:(H b).isSome=true:=(List.mem_filter.mp hm).2
  rw [n] at q; simp at q
theorem of_hidT {h:Heap} {H:Hp} {b:Addr} {o:Obj} (e:(hidT h H).get? b=some o):h.get? b=some o∧H b=none:=by
 have e':h.get? b=some o:=PySem.W.of_hideAll (trk h H) e
 refine ⟨e',?_⟩
 cases q:H b with
 | none=>rfl
 | some x=>
  have hm:b∈trk h H:=List.mem_filter.mpr ⟨List.mem_range.mpr (Heap.lt_size e'),by simp [q]⟩
  have z:(hidT h H).get? b=none:=PySem.W.hideAll_none (trk h H) hm
  rw [z] at e; cases e
end L2
namespace L2
open PySem PySem.Spec PyProof.Rows
structure Mod (K:PySem.W.Frag) (mg:Str→Option Value) (base:Heap):Prop where
 kin:K.In base
 glob:base.Ns mainGlobals mg
 blt:∃ mb,base.Ns builtinsNs mb∧∀ x:Str,x≠"__name__"→mb x=bootBuiltins x
 nolimit:base.NoLimit
structure Cx where
 prog:Program
 w:World
 K:PySem.W.Frag
 mg:Str→Option Value
 base:Heap
 A:Around
 N:List Str
 s₀:Shared
 H₀:Hp
 env:Env
 outer:List Env
 stack:List Env
 ex:List Addr
 fn:Str→Bool
 calm:Bool
 pn:List (Addr×Obj)
 xe:Value→Shared→Prop
def frs (l:List Env):List Addr:=l.filterMap (·.frame)
abbrev Cx.fs (X:Cx):List Addr:=frs X.outer
def Vis (sc:Scope) (x:Str):Prop:=sc.names.lookup x=some .local∨sc.names.lookup x=some .cell∨sc.names.lookup x=some .free
def Loc (sc:Scope) (x:Str):Prop:=sc.names.lookup x=some .local∨sc.names.lookup x=some .cell
def Look (env:Env) (h:Heap) (m:Str→Option Value) (x:Str) (u:Value):Prop:=
 (env.kindOf x=some .local∧m x=some u)∨((env.kindOf x=some .cell∨env.kindOf x=some .free)∧∃ c,env.cells.lookup x=some c∧h.IsCell c (some u))
structure Cx.Ok (X:Cx):Prop where
 mod:Mod X.K X.mg X.base
 kind:X.env.scope.kind=.function
 glob:X.env.globals=mainGlobals
 blt:X.env.builtins=builtinsNs
 above:X.s₀.heap.objs.size ≤ X.env.locals
 inj:∀ x y c,X.env.cells.lookup x=some c→X.env.cells.lookup y=some c→x=y
 has:∀ x,(X.env.kindOf x=some .cell∨X.env.kindOf x=some .free)→∃ c,X.env.cells.lookup x=some c
 cab:∀ x c,X.fn x=true→X.env.cells.lookup x=some c→X.s₀.heap.objs.size ≤ c
 hd:X.calm=true→X.A.handled=none
 frames:X.A.frames=some X.stack
 stk:X.stack=X.outer∨(X.stack=X.env :: X.outer∧X.env.frame=some X.env.locals)
 exf:∀ b∈X.ex,b≠X.env.locals∧∀ x c,X.env.cells.lookup x=some c→c≠b
 bs:∀ b o,X.base.get? b=some o→X.s₀.heap.get? b=some o∧X.H₀ b=none
 bsz:X.base.objs.size ≤ X.s₀.heap.objs.size
 noex:∀ b o,X.base.get? b=some o→b ∉ X.ex
 exfs:∀ b∈X.ex,b ∉ X.fs
 funs:X.s₀.heap.FunFrames X.base X.outer
 frf:∀ b∈X.fs,X.H₀ b=none
structure Inv (X:Cx) (pins:List (Addr×Obj)) (σ:List (Option V)) (H:Hp) (s:Shared):Prop where
 ok:X.Ok
 os:s.os=X.s₀.os
 bare:AllBare s.gens
 base:Un X.fs X.ex X.H₀ H X.s₀.heap s.heap
 loc:∃ m,s.heap.Ns X.env.locals m∧∀ (i:Nat) (x:Str) (v:V),X.N[i]?=some x→σ[i]?=some (some v)→Vis X.env.scope x→∃ u,RelV v u∧Look X.env s.heap m x u
 cell:∀ x c,X.env.cells.lookup x=some c→∃ v,s.heap.IsCell c v
 free:H X.env.locals=none
 freeC:∀ x c,X.env.cells.lookup x=some c→H c=none
 pin:∀ p∈X.pn++pins,s.heap.get? p.1=some p.2∧H p.1=none∧p.1≠X.env.locals∧p.1 ∉ X.fs∧∀ v,p.2.data≠.cell v
 hok:HOk X.prog X.w H s.heap
 len:σ.length=X.N.length
 tk:0 < s.toks
section
variable {X:Cx} {pins:List (Addr×Obj)} {σ:List (Option V)} {H H':Hp} {s:Shared} {h':Heap}
theorem Cx.Ok.nofr (ok:X.Ok) {b:Addr} {o:Obj} (e:X.base.get? b=some o):b ∉ X.fs:=fun hb=>by
 have:=(ok.funs.mem hb).1
 rw [e] at this; cases this
theorem Inv.st (I:Inv X pins σ H s) {x:Str}:RelV (.str x) (.str x s.toks):=⟨⟨s.toks,Nat.ne_of_gt I.tk⟩,rfl⟩
theorem Inv.bs (I:Inv X pins σ H s):∀ b o,X.base.get? b=some o→s.heap.get? b=some o∧H b=none:=fun b o e=>
 ⟨I.base.keep b o (I.ok.bs b o e).1 (I.ok.bs b o e).2 (I.ok.nofr e) (I.ok.noex b o e),I.base.free b o (I.ok.bs b o e).1 (I.ok.bs b o e).2 (I.ok.noex b o e)⟩
theorem Inv.bk (I:Inv X pins σ H s):∀ b o,X.base.get? b=some o→s.heap.get? b=some o:=fun b o e=>(I.bs b o e).1
theorem Inv.mod (I:Inv X pins σ H s):Mod X.K X.mg X.base:=I.ok.mod
theorem Inv.kIn (I:Inv X pins σ H s):X.K.In s.heap:=I.ok.mod.kin.keeps I.bk
theorem Inv.lt (I:Inv X pins σ H s):X.env.locals < s.heap.objs.size:=let ⟨_,hn,_⟩:=I.loc; hn.lt
theorem Inv.sz (I:Inv X pins σ H s):X.s₀.heap.objs.size ≤ s.heap.objs.size:=Nat.le_trans I.ok.above (Nat.le_of_lt I.lt)
theorem Inv.nofs (I:Inv X pins σ H s) {a:Addr} (h:s.heap.objs.size ≤ a):a ∉ X.fs:=fun hb=>by
 obtain ⟨_,o,ho,_⟩:=I.ok.funs.mem hb
 exact absurd (Nat.lt_of_lt_of_le (Heap.lt_size ho) (Nat.le_trans I.sz h)) (Nat.lt_irrefl _)
theorem Inv.cne (I:Inv X pins σ H s):∀ x c,X.env.cells.lookup x=some c→c≠X.env.locals:=fun x c e z=>by
 obtain ⟨v,o,ho,hd⟩:=I.cell x c e
 obtain ⟨m,⟨o',es,ep,ho',hd',_⟩,_⟩:=I.loc
 rw [z,ho'] at ho; cases ho; rw [hd'] at hd; cases hd
theorem Inv.funs (I:Inv X pins σ H s):s.heap.FunFrames X.base X.outer:=by
 have all:∀ (l:List Env),(∀ b∈frs l,b∈X.fs)→X.s₀.heap.FunFrames X.base l→s.heap.FunFrames X.base l:=by
  intro l
  induction l with
  | nil=>intro _ _; trivial
  | cons env r ih=>
   intro hs hl
   obtain ⟨hk,⟨L,o,hf,hn,ho,hd⟩,hr⟩:=hl
   have hL:L∈X.fs:=hs L (by unfold frs; rw [List.filterMap_cons,hf]; exact List.mem_cons_self)
   obtain ⟨sl,e⟩:=I.base.slot L o ho (I.ok.frf L hL) hL fun z=>I.ok.exfs L z hL
   exact ⟨hk,⟨L,_,hf,hn,e,hd⟩,ih (fun b hb=>hs b (by unfold frs; rw [List.filterMap_cons,hf]; exact List.mem_cons_of_mem _ hb)) hr⟩
 exact all X.outer (fun _ hb=>hb) I.ok.funs
theorem Inv.stack (I:Inv X pins σ H s):s.heap.FunFrames X.base X.stack:=by
 rcases I.ok.stk with e | ⟨e,hf⟩
 ·rw [e]; exact I.funs
 ·rw [e]
  obtain ⟨m,hn,_⟩:=I.loc
  refine .cons (by rw [I.ok.kind]; decide) hf hn ?_ I.funs
  exact Heap.get?_none_of_le (Nat.le_trans I.ok.bsz I.ok.above)
theorem Inv.stkSub (I:Inv X pins σ H s):∀ b∈frs X.stack,b∈X.env.locals :: X.fs:=fun b hb=>by
 rcases I.ok.stk with e | ⟨e,hf⟩
 ·rw [e] at hb; exact List.mem_cons_of_mem _ hb
 ·rw [e] at hb
  unfold frs at hb
  rw [List.filterMap_cons,hf] at hb
  exact hb
theorem Inv.stkFree (I:Inv X pins σ H s):∀ b∈frs X.stack,H b=none:=fun b hb=>by
 rcases List.mem_cons.mp (I.stkSub b hb) with e | hb
 ·rw [e]; exact I.free
 ·obtain ⟨_,o,ho,_⟩:=I.ok.funs.mem hb
  exact I.base.free b o ho (I.ok.frf b hb) fun z=>I.ok.exfs b z hb
theorem Inv.step {g':Array GenState} {t':Nat} {d':Drawn} {ch:List Addr} (I:Inv X pins σ H s)
  (hch:∀ b∈ch,(b∈X.ex∨X.s₀.heap.objs.size ≤ b)∧b≠X.env.locals∧(∀ x c,X.env.cells.lookup x=some c→c≠b)∧∀ p∈X.pn++pins,p.1≠b)
  (keep:∀ b o,b≠X.env.locals→b ∉ X.fs→b ∉ ch→s.heap.get? b=some o→H b=none→h'.get? b=some o)
  (slot:∀ b o,b≠X.env.locals→b∈X.fs→b ∉ ch→s.heap.get? b=some o→H b=none→∃ sl,h'.get? b=some { o with slots:=sl }) (free:∀ b o,b ∉ ch→s.heap.get? b=some o→H b=none→H' b=none)
  (there:∀ b o,b ∉ ch→s.heap.get? b=some o→∃ o',h'.get? b=some o')
  (tups:∀ b xs,H b=some (.tup xs)→H' b=some (.tup xs)) (frzs:∀ b o u,H b=some (.frz o u)→H' b=some (.frz o u)) (tbls:∀ b ps,H b=some (.tbl ps)→∃ more,H' b=some (.tbl (ps++more)))
  (ns:∀ m,s.heap.Ns X.env.locals m→h'.Ns X.env.locals m) (hok:HOk X.prog X.w H' h') (hg:AllBare g') (ht:0 < t':=by first | exact Nat.succ_pos _ | assumption | exact L2.Inv.tk (by assumption) | exact Nat.lt_of_lt_of_le (L2.Inv.tk (by assumption)) (by assumption)) :
  Inv X pins σ H' { s with heap:=h',gens:=g',drawn:=d',toks:=t' }:=by
 have neL:∀ b o,X.s₀.heap.get? b=some o→b≠X.env.locals:=fun b o e=>Nat.ne_of_lt (Nat.lt_of_lt_of_le (Heap.lt_size e) I.ok.above)
 have neC:∀ b o,X.s₀.heap.get? b=some o→b ∉ X.ex→b ∉ ch:=fun b o e hx hb=>by
  rcases (hch b hb).1 with z | z
  ·exact hx z
  ·exact absurd (Nat.lt_of_lt_of_le (Heap.lt_size e) z) (Nat.lt_irrefl _)
 have cellK:∀ x c,X.env.cells.lookup x=some c→∀ v,s.heap.IsCell c v→h'.IsCell c v:=fun x c e v ⟨o,ho,hd⟩=>by
  have nch:c ∉ ch:=fun z=>(hch c z).2.2.1 x c e rfl
  by_cases hc:c∈X.fs
  ·obtain ⟨sl,q⟩:=slot c o (I.cne x c e) hc nch ho (I.freeC x c e)
   exact ⟨_,q,hd⟩
  ·exact ⟨o,keep c o (I.cne x c e) hc nch ho (I.freeC x c e),hd⟩
 refine ⟨I.ok,I.os,hg,⟨fun b o e n hb hx=>?_,fun b o e n hb hx=>?_,fun b o e n hx=>?_,fun b o e hx=>?_,fun b xs e=>tups b xs (I.base.tups b xs e),fun b o xs e=>frzs b o xs (I.base.frzs b o xs e),fun b ps e=>?_⟩,?_,fun x c e=>?_,?_,fun x c e=>?_,fun p hp=>?_,hok,I.len,ht⟩
 ·exact keep b o (neL b o e) hb (neC b o e hx) (I.base.keep b o e n hb hx) (I.base.free b o e n hx)
 ·obtain ⟨sl,e1⟩:=I.base.slot b o e n hb hx
  obtain ⟨sl',e2⟩:=slot b _ (neL b o e) hb (neC b o e hx) e1 (I.base.free b o e n hx)
  exact ⟨sl',e2⟩
 ·obtain ⟨o',e1⟩:=I.base.there b o e hx
  exact free b o' (neC b o e hx) e1 (I.base.free b o e n hx)
 ·obtain ⟨o',e1⟩:=I.base.there b o e hx
  exact there b o' (neC b o e hx) e1
 ·obtain ⟨m1,e1⟩:=I.base.tbls b ps e
  obtain ⟨m2,e2⟩:=tbls b _ e1
  exact ⟨m1++m2,by rw [e2,Array.append_assoc]⟩
 ·obtain ⟨m,hn,hl⟩:=I.loc
  refine ⟨m,ns m hn,fun i x v e1 e2 e3=>?_⟩
  obtain ⟨u,r,l⟩:=hl i x v e1 e2 e3
  refine ⟨u,r,?_⟩
  rcases l with l | ⟨k,c,e,z⟩
  ·exact .inl l
  ·exact .inr ⟨k,c,e,cellK x c e _ z⟩
 ·obtain ⟨v,z⟩:=I.cell x c e
  exact ⟨v,cellK x c e v z⟩
 ·obtain ⟨m,⟨o,_,_,ho,_⟩,_⟩:=I.loc
  exact free _ o (fun z=>(hch _ z).2.1 rfl) ho I.free
 ·obtain ⟨v,o,ho,hd⟩:=I.cell x c e
  exact free c o (fun z=>(hch c z).2.2.1 x c e rfl) ho (I.freeC x c e)
 ·obtain ⟨e,n,ne,nf,d⟩:=I.pin p hp
  have nch:p.1 ∉ ch:=fun z=>(hch p.1 z).2.2.2 p hp rfl
  exact ⟨keep p.1 p.2 ne nf nch e n,free p.1 p.2 nch e n,ne,nf,d⟩
theorem Inv.un {t':Nat} (I:Inv X pins σ H s) (u:Un X.fs [] H H' s.heap h') (hok:HOk X.prog X.w H' h') (ht:0 < t':=by first | exact Nat.succ_pos _ | assumption | exact L2.Inv.tk (by assumption) | exact Nat.lt_of_lt_of_le (L2.Inv.tk (by assumption)) (by assumption)):Inv X pins σ H' { s with heap:=h',toks:=t' }:=by
 obtain ⟨m,⟨o,es,ep,ho,r⟩,_⟩:=id I.loc
 obtain ⟨sl,hL⟩:=u.any ho I.free (by simp)
 exact I.step (g':=s.gens) (d':=s.drawn) (ch:=[]) (fun _ z=>nomatch z) (fun b o _ hb _ e n=>u.keep b o e n hb (by simp)) (fun b o _ hb _ e n=>u.slot b o e n hb (by simp)) (fun b o _ e n=>u.free b o e n (by simp)) (fun b o _ e=>u.there b o e (by simp)) u.tups u.frzs u.tbls (fun m' hm=>by
  obtain ⟨o',es',ep',ho',r'⟩:=hm
  rw [ho] at ho'; cases ho'
  exact ⟨_,es',ep',hL,r'⟩) hok I.bare
theorem Inv.call {g':Array GenState} {t':Nat} {d':Drawn} {ch:List Addr} (I:Inv X pins σ H s) (u:Un (frs X.stack) ch H H' s.heap h') (hok:HOk X.prog X.w H' h') (hg:AllBare g')
  (hch:∀ b∈ch,(b∈X.ex∨X.s₀.heap.objs.size ≤ b)∧b≠X.env.locals∧(∀ x c,X.env.cells.lookup x=some c→c≠b)∧∀ p∈X.pn++pins,p.1≠b) (ht:0 < t':=by first | exact Nat.succ_pos _ | assumption | exact L2.Inv.tk (by assumption) | exact Nat.lt_of_lt_of_le (L2.Inv.tk (by assumption)) (by assumption)) :
  Inv X pins σ H' { s with heap:=h',gens:=g',drawn:=d',toks:=t' }:=by
 obtain ⟨m,⟨o,es,ep,ho,r⟩,_⟩:=id I.loc
 obtain ⟨sl,hL⟩:=u.any ho I.free fun z=>(hch _ z).2.1 rfl
 exact I.step (ch:=ch) hch (fun b o hL hb hc e n=>u.keep b o e n (fun z=>(List.mem_cons.mp (I.stkSub b z)).elim hL hb) hc) (fun b o _ _ hc e n=>u.any e n hc) (fun b o hc e n=>u.free b o e n hc) (fun b o hc e=>u.there b o e hc) u.tups u.frzs u.tbls (fun m' hm=>by
  obtain ⟨o',es',ep',ho',r'⟩:=hm
  rw [ho] at ho'; cases ho'
  exact ⟨_,es',ep',hL,r'⟩) hok hg
theorem Inv.turned {t':Nat} {it:Addr} (I:Inv X pins σ H s) (k:∀ b o,b≠it→s.heap.get? b=some o→h'.get? b=some o) (hn:H it=none) (hL:it≠X.env.locals)
  (h1:it∈X.ex∨X.s₀.heap.objs.size ≤ it) (h2:∀ x c,X.env.cells.lookup x=some c→c≠it) (h3:∀ p∈X.pn++pins,p.1≠it) (ht:0 < t':=by first | exact Nat.succ_pos _ | assumption | exact L2.Inv.tk (by assumption) | exact Nat.lt_of_lt_of_le (L2.Inv.tk (by assumption)) (by assumption)):Inv X pins σ H { s with heap:=h',toks:=t' }:=by
 have nit:∀ b u,H b=some u→b≠it:=fun b u e z=>by rw [z,hn] at e; cases e
 refine I.step (g':=s.gens) (d':=s.drawn) (ch:=[it]) (fun b hb=>?_) (fun b o _ _ hc e _=>k b o (fun z=>hc (by simp [z])) e) (fun b o _ _ hc e _=>⟨o.slots,k b o (fun z=>hc (by simp [z])) e⟩) (fun _ _ _ _ n=>n)
  (fun b o hc e=>⟨o,k b o (fun z=>hc (by simp [z])) e⟩) (fun _ _ e=>e) (fun _ _ _ e=>e) (fun b ps e=>⟨#[],by rw [e]; simp⟩) (fun m hm=>?_) (fun b u e=>?_) I.bare
 ·have e:b=it:=by simpa using hb
  subst e
  exact ⟨h1,hL,h2,h3⟩
 ·obtain ⟨o,es,ep,ho,r⟩:=hm
  exact ⟨o,es,ep,k _ o (Ne.symm hL) ho,r⟩
 ·refine (I.hok b u e).stay (fun c v hc q=>k c v ?_ q) (fun _ q=>q) fun _ _ q=>q
  rcases hc with z | z
  ·rw [z]; exact nit b u e
  ·exact nit c _ z
theorem Inv.tok (I:Inv X pins σ H s) (t:Nat) (ht:0 < t:=by first | exact Nat.succ_pos _ | assumption | exact L2.Inv.tk (by assumption) | exact Nat.lt_of_lt_of_le (L2.Inv.tk (by assumption)) (by assumption)):Inv X pins σ H { s with toks:=t }:=I.un (h':=s.heap) (t':=t) Un.refl I.hok
theorem Inv.kept {t':Nat} (I:Inv X pins σ H s) (k:∀ b u,s.heap.get? b=some u→h'.get? b=some u) (ht:0 < t':=by first | exact Nat.succ_pos _ | assumption | exact L2.Inv.tk (by assumption) | exact Nat.lt_of_lt_of_le (L2.Inv.tk (by assumption)) (by assumption)):Inv X pins σ H { s with heap:=h',toks:=t' }:=I.un (Un.kept k) (I.hok.kept k)
theorem Inv.laid {a:Addr} {o:HO} {t':Nat} (I:Inv X pins σ H s) (k:∀ b u,s.heap.get? b=some u→h'.get? b=some u) (hp:s.heap.objs.size ≤ a) (new:ObjOk X.prog X.w (upd H a o) h' a o) (ht:0 < t':=by first | exact Nat.succ_pos _ | assumption | exact L2.Inv.tk (by assumption) | exact Nat.lt_of_lt_of_le (L2.Inv.tk (by assumption)) (by assumption)) :
  Inv X pins σ (upd H a o) { s with heap:=h',toks:=t' }:=I.un (Un.laid k hp (I.hok.fresh hp)) (I.hok.laid k hp new)
theorem Inv.write {x e:Addr} {o:HO} {t':Nat} (I:Inv X pins σ H s) (mu:Mut (H x)) (he:e=x∨H e=some (.own x)) (k:∀ b u,b≠e→s.heap.get? b=some u→h'.get? b=some u) (heo:∃ u,h'.get? e=some u)
  (new:ObjOk X.prog X.w (upd H x o) h' x o) (ht:0 < t':=by first | exact Nat.succ_pos _ | assumption | exact L2.Inv.tk (by assumption) | exact Nat.lt_of_lt_of_le (L2.Inv.tk (by assumption)) (by assumption)):Inv X pins σ (upd H x o) { s with heap:=h',toks:=t' }:=I.un (Un.write mu he k heo) (I.hok.write mu he k heo new)
theorem Inv.weak {σ':List (Option V)} (I:Inv X pins σ H s) (hl:σ'.length=σ.length) (w:∀ (i:Nat) v,σ'[i]?=some (some v)→σ[i]?=some (some v)):Inv X pins σ' H s:=
 ⟨I.ok,I.os,I.bare,I.base,let ⟨m,hn,hl'⟩:=I.loc; ⟨m,hn,fun i x v e1 e2 e3=>hl' i x v e1 (w i v e2) e3⟩,I.cell,I.free,I.freeC,I.pin,I.hok,hl.trans I.len,I.tk⟩
theorem Inv.pins_of {pins':List (Addr×Obj)} (I:Inv X pins σ H s) (h:∀ p∈pins',s.heap.get? p.1=some p.2∧H p.1=none∧p.1≠X.env.locals∧p.1 ∉ X.fs∧∀ v,p.2.data≠.cell v):Inv X pins' σ H s:=
 ⟨I.ok,I.os,I.bare,I.base,I.loc,I.cell,I.free,I.freeC,fun p hp=>(List.mem_append.mp hp).elim (fun z=>I.pin p (List.mem_append_left _ z)) (h p),I.hok,I.len,I.tk⟩
theorem nodup_ix {N:List Str} (hN:N.Nodup) {i j:Nat} {x:Str} (a:N[i]?=some x) (b:N[j]?=some x):i=j:=by
 obtain ⟨h1,e1⟩:=List.getElem?_eq_some_iff.mp a
 obtain ⟨h2,e2⟩:=List.getElem?_eq_some_iff.mp b
 exact (List.getElem_inj hN).mp (e1.trans e2.symm)
theorem store_ok2 {M:Model} {A:Around} {E:Value→Shared→Prop} {i:Nat} {x:Str} {v:V} {u:Value} {Q:Unit→Shared→Prop} (I:Inv X pins σ H s) (hN:X.N.Nodup) (hi:X.N[i]?=some x) (hx:Loc X.env.scope x) (r:RelV v u)
  (h:∀ s',Inv X pins (σ.set i (some v)) H s'→(∃ a,Heap.SameBut a s.heap s'.heap∧(a=X.env.locals∨X.env.cells.lookup x=some a))→Q () s') (hf:X.fn x=true∨X.env.scope.names.lookup x=some .local:=by first | exact .inl rfl | exact .inr rfl | assumption):wpAny M A (storeName X.env x u) Q E s:=by
 obtain ⟨m,hn,hl⟩:=id I.loc
 have hcls:(X.env.scope.kind == .class || (X.env.scope.kind == .module && X.env.locals != X.env.globals))=false:=by rw [I.ok.kind]; rfl
 have hiσ:i < σ.length:=by rw [I.len]; exact (List.getElem?_eq_some_iff.mp hi).1
 have cne:=I.cne
 have tracked:∀ {a:Addr} {h':Heap},(∃ o,s.heap.get? a=some o∧H a=none)→Heap.SameBut a s.heap h'→HOk X.prog X.w H h':=fun {a h'} ha hs b ob e=>by
  obtain ⟨_,_,hfree⟩:=ha
  refine (I.hok b ob e).stay (fun c w' hc q=>(hs.2 c ?_).trans q) (fun _ q=>q) fun _ _ q=>q
  rintro rfl
  rcases hc with rfl | hc
  ·rw [hfree] at e; cases e
  ·rw [hfree] at hc; cases hc
 rcases hx with hk | hk
 ·refine wpAny_storeName_local hk hn (fun h' hn' hs=>?_) hcls
  obtain ⟨oL,_,_,hoL,_⟩:=id hn
  refine h _ ⟨I.ok,I.os,I.bare,⟨fun b o e n hb hx=>?_,fun b o e n hb hx=>?_,I.base.free,fun b o e hx=>?_,I.base.tups,I.base.frzs,I.base.tbls⟩,⟨_,hn',fun j y v' e1 e2 e3=>?_⟩,fun y c e=>?_,I.free,I.freeC,fun p hp=>?_,tracked ⟨oL,hoL,I.free⟩ hs,by simpa using I.len,Nat.succ_pos _⟩ ⟨_,hs,.inl rfl⟩
  ·exact (hs.2 b (Nat.ne_of_lt (Nat.lt_of_lt_of_le (Heap.lt_size e) I.ok.above))).trans (I.base.keep b o e n hb hx)
  ·obtain ⟨sl,e1⟩:=I.base.slot b o e n hb hx
   exact ⟨sl,(hs.2 b (Nat.ne_of_lt (Nat.lt_of_lt_of_le (Heap.lt_size e) I.ok.above))).trans e1⟩
  ·obtain ⟨o',e1⟩:=I.base.there b o e hx
   exact ⟨o',(hs.2 b (Nat.ne_of_lt (Nat.lt_of_lt_of_le (Heap.lt_size e) I.ok.above))).trans e1⟩
  ·by_cases hj:j=i
   ·subst hj
    rw [hi] at e1; cases e1
    rw [List.getElem?_set_self hiσ] at e2
    cases e2
    exact ⟨u,r,.inl ⟨hk,by simp⟩⟩
   ·rw [List.getElem?_set_ne (Ne.symm hj)] at e2
    obtain ⟨u',r',q⟩:=hl j y v' e1 e2 e3
    refine ⟨u',r',?_⟩
    rcases q with ⟨k,e⟩ | ⟨k,c,e,z⟩
    ·refine .inl ⟨k,?_⟩
     have:y≠x:=fun e=>hj (nodup_ix hN e1 (e ▸ hi))
     simp [this,e]
    ·exact .inr ⟨k,c,e,z.sameBut hs (cne y c e)⟩
  ·obtain ⟨w',z⟩:=I.cell y c e
   exact ⟨w',z.sameBut hs (cne y c e)⟩
  ·obtain ⟨e,n,ne,nf,d⟩:=I.pin p hp
   exact ⟨(hs.2 p.1 ne).trans e,n,ne,nf,d⟩
 ·have hfn:X.fn x=true:=by
   rcases hf with z | z
   ·exact z
   ·rw [z] at hk; cases hk
  obtain ⟨c,hc⟩:=I.ok.has x (.inl hk)
  obtain ⟨w',z⟩:=I.cell x c hc
  refine wpAny_storeName_cell I.ok.kind hk hc z (fun h' hc' hs=>?_)
  obtain ⟨oc,hoc,hocd⟩:=id z
  refine h { s with heap:=h' } ⟨I.ok,I.os,I.bare,⟨fun b o e n hb hx=>?_,fun b o e n hb hx=>?_,I.base.free,fun b o e hx=>?_,I.base.tups,I.base.frzs,I.base.tbls⟩,⟨m,hn.sameBut hs (Ne.symm (cne x c hc)),fun j y v' e1 e2 e3=>?_⟩,fun y c' e=>?_,I.free,I.freeC,fun p hp=>?_,tracked ⟨oc,hoc,I.freeC x c hc⟩ hs,by simpa using I.len,I.tk⟩ ⟨c,hs,.inr hc⟩
  ·exact (hs.2 b (Nat.ne_of_lt (Nat.lt_of_lt_of_le (Heap.lt_size e) (I.ok.cab x c hfn hc)))).trans (I.base.keep b o e n hb hx)
  ·obtain ⟨sl,e1⟩:=I.base.slot b o e n hb hx
   exact ⟨sl,(hs.2 b (Nat.ne_of_lt (Nat.lt_of_lt_of_le (Heap.lt_size e) (I.ok.cab x c hfn hc)))).trans e1⟩
  ·obtain ⟨o',e1⟩:=I.base.there b o e hx
   exact ⟨o',(hs.2 b (Nat.ne_of_lt (Nat.lt_of_lt_of_le (Heap.lt_size e) (I.ok.cab x c hfn hc)))).trans e1⟩
  ·by_cases hj:j=i
   ·subst hj
    rw [hi] at e1; cases e1
    rw [List.getElem?_set_self hiσ] at e2
    cases e2
    exact ⟨u,r,.inr ⟨.inl hk,c,hc,hc'⟩⟩
   ·rw [List.getElem?_set_ne (Ne.symm hj)] at e2
    obtain ⟨u',r',q⟩:=hl j y v' e1 e2 e3
    refine ⟨u',r',?_⟩
    rcases q with q | ⟨k,c',e,z'⟩
    ·exact .inl q
    ·refine .inr ⟨k,c',e,z'.sameBut hs ?_⟩
     rintro rfl
     exact hj (nodup_ix hN e1 (I.ok.inj _ _ _ e hc ▸ hi))
  ·by_cases hcc:c'=c
   ·subst hcc; exact ⟨_,hc'⟩
   ·obtain ⟨w2,z2⟩:=I.cell y c' e
    exact ⟨w2,z2.sameBut hs hcc⟩
  ·obtain ⟨e,n,ne,nf,d⟩:=I.pin p hp
   refine ⟨(hs.2 p.1 ?_).trans e,n,ne,nf,d⟩
   intro q
   rw [q,hoc] at e
   have q':oc=p.2:=Option.some.inj e
   exact d w' (by rw [← q']; exact hocd)
theorem store_ok {M:Model} {A:Around} {E:Value→Shared→Prop} {i:Nat} {x:Str} {v:V} {u:Value} {Q:Unit→Shared→Prop} (I:Inv X pins σ H s) (hN:X.N.Nodup) (hi:X.N[i]?=some x) (hx:Loc X.env.scope x) (r:RelV v u)
  (h:∀ s',Inv X pins (σ.set i (some v)) H s'→Q () s') (hf:X.fn x=true∨X.env.scope.names.lookup x=some .local:=by first | exact .inl rfl | exact .inr rfl | assumption):wpAny M A (storeName X.env x u) Q E s:=
 store_ok2 I hN hi hx r (fun s' I' _=>h s' I') hf
theorem Inv.call' {s':Shared} {ch:List Addr} (I:Inv X pins σ H s) (ho:s'.os=s.os) (u:Un (frs X.stack) ch H H' s.heap s'.heap) (hok:HOk X.prog X.w H' s'.heap) (hg:AllBare s'.gens)
  (hch:∀ b∈ch,(b∈X.ex∨X.s₀.heap.objs.size ≤ b)∧b≠X.env.locals∧(∀ x c,X.env.cells.lookup x=some c→c≠b)∧∀ p∈X.pn++pins,p.1≠b) (ht:0 < s'.toks):Inv X pins σ H' s':=by
 obtain ⟨h',g',d',t',o'⟩:=s'
 have e:o'=s.os:=ho
 subst e
 exact I.call (g':=g') (t':=t') (d':=d') u hok hg hch
end
abbrev XK:=Value→Option Addr→Hp→Prop
abbrev St:=List (Option V)
abbrev VK:=V→Hp→Prop
abbrev TE:=St→Hp→VK→Prop
abbrev TT:=St→Hp→(Bool→Hp→Prop)→Prop
abbrev TA:=St→Hp→(List V→Hp→Prop)→Prop
structure Ends where
 nx:St→Hp→Prop
 rt:VK
 bk:St→Hp→Prop:=fun _ _=>False
 ct:St→Hp→Prop:=fun _ _=>False
abbrev TS:=Ends→St→Hp→Prop
def EP (X:Cx) (pins:List (Addr×Obj)) (σ:St) (Q:VK) (u:Value) (s':Shared):Prop:=∃ v H',Inv X pins σ H' s'∧RelV v u∧Q v H'
def TP (X:Cx) (pins:List (Addr×Obj)) (σ:St) (Q:Bool→Hp→Prop) (b:Bool) (s':Shared):Prop:=∃ H',Inv X pins σ H' s'∧Q b H'
def AP (X:Cx) (pins:List (Addr×Obj)) (σ:St) (Q:List V→Hp→Prop) (us:List Value) (s':Shared):Prop:=∃ vs H',Inv X pins σ H' s'∧Vals vs us∧Q vs H'
def SP (X:Cx) (pins:List (Addr×Obj)) (D:Ends) (f:Flow) (s':Shared):Prop:=
 match f with
 | .next=>∃ σ' H',Inv X pins σ' H' s'∧D.nx σ' H'
 | .brk=>∃ σ' H',Inv X pins σ' H' s'∧D.bk σ' H'
 | .cont=>∃ σ' H',Inv X pins σ' H' s'∧D.ct σ' H'
 | .ret u=>∃ v σ' H',Inv X pins σ' H' s'∧RelV v u∧D.rt v H'
def PE (X:Cx) (e:Expr) (t:TE):Prop:=
 ∀ (pins:List (Addr×Obj)) (s:Shared) (σ:St) (H:Hp) (Q:VK),Inv X pins σ H s→t σ H Q→wpAny (model X.prog X.w) X.A (eval e X.env) (EP X pins σ Q) X.xe s
def PT (X:Cx) (e:Expr) (t:TT):Prop:=
 ∀ (pins:List (Addr×Obj)) (s:Shared) (σ:St) (H:Hp) (Q:Bool→Hp→Prop),Inv X pins σ H s→t σ H Q→wpAny (model X.prog X.w) X.A (isTrue e X.env (eval e X.env)) (TP X pins σ Q) X.xe s
def PW (X:Cx) (e:Expr) (t:TT):Prop:=
 ∀ (whole:Sem Value) (pins:List (Addr×Obj)) (s:Shared) (σ:St) (H:Hp) (Q:Bool→Hp→Prop),Inv X pins σ H s→t σ H Q→wpAny (model X.prog X.w) X.A (isTrue e X.env whole) (TP X pins σ Q) X.xe s
theorem PW.pt {X:Cx} {e:Expr} {t:TT} (h:PW X e t):PT X e t:=h _
def PA (X:Cx) (es:List Expr) (t:TA):Prop:=
 ∀ (pos:Pos) (pins:List (Addr×Obj)) (s:Shared) (σ:St) (H:Hp) (Q:List V→Hp→Prop),Inv X pins σ H s→t σ H Q→wpAny (model X.prog X.w) X.A (spliced (backTo pos (starEach es X.env))) (AP X pins σ Q) X.xe s
def PS (X:Cx) (st:Stmt) (t:TS):Prop:=
 ∀ (pins:List (Addr×Obj)) (s:Shared) (σ:St) (H:Hp) (D:Ends),Inv X pins σ H s→t D σ H→wpAny (model X.prog X.w) X.A (exec st X.env) (SP X pins D) X.xe s
def PSs (X:Cx) (st:List Stmt) (t:TS):Prop:=
 ∀ (pins:List (Addr×Obj)) (s:Shared) (σ:St) (H:Hp) (D:Ends),Inv X pins σ H s→t D σ H→wpAny (model X.prog X.w) X.A (execs st X.env) (SP X pins D) X.xe s
theorem thn {α:Type} {t:Sem α} {Q Q':α→Shared→Prop} {M:Model} {A:Around} {E:Value→Shared→Prop} {s:Shared} (h:wpAny M A t Q E s) (hQ:∀ a s,Q a s→Q' a s):wpAny M A t Q' E s:=wpAny_mono h hQ fun _ _ x=>x
end L2
namespace L2
open PySem PySem.Spec PyProof.Rows
section
variable {X:Cx}
def tVar (i:Nat):TE:=fun σ H Q=>∃ v,σ[i]?=some (some v)∧Q v H
def tC (v:V):TE:=fun _ H Q=>Q v H
theorem pe_var {i:Nat} {x:Str} {pos:Pos} (hN:X.N[i]?=some x) (hv:Vis X.env.scope x) (hd:(x == ("__debug__":Str))=false:=by decide) (hcd:(x == ("__classdict__":Str))=false:=by decide):PE X (.Name x pos) (tVar i):=by
 intro pins s σ H Q I h
 obtain ⟨v,e,h⟩:=h
 obtain ⟨m,hn,hl⟩:=I.loc
 obtain ⟨u,r,l⟩:=hl i x v hN e hv
 have fin:EP X pins σ Q u s:=⟨v,H,I,r,h⟩
 rcases l with ⟨hk,hm⟩ | ⟨hk,c,hc,hcell⟩
 ·exact wpAny_Name (wpAny_loadName_local I.ok.kind hk hn hm fin) hd
 ·rcases hk with hk | hk
  ·exact wpAny_Name (wpAny_loadName_cell I.ok.kind hk hc hcell fin) hd
  ·exact wpAny_Name (wpAny_loadName_free I.ok.kind hk hc hcell fin hcd) hd
theorem pe_int {i j pos}:PE X (.Constant (.int i) j pos) (tC (.int i)):=fun _ _ _ H _ I h=>wpAny_Constant_int ⟨.int i,H,I.tok _,⟨_,rfl⟩,h⟩
theorem pe_bl {b j pos}:PE X (.Constant (.bool b) j pos) (tC (.bl b)):=fun _ _ _ H _ I h=>Constant_bool ⟨.bl b,H,I,rfl,h⟩
theorem pe_non {j pos}:PE X (.Constant .none j pos) (tC .non):=fun _ _ _ H _ I h=>Constant_none ⟨.non,H,I,rfl,h⟩
theorem pe_str {x j pos}:PE X (.Constant (.str x) j pos) (tC (.str x)):=fun _ _ _ H _ I h=>Calls.Constant_str ⟨.str x,H,I.tok _,I.st,h⟩
def Gl (X:Cx) (x:Str):Prop:=X.env.kindOf x=some .globalImplicit
theorem ld_glob {E:Value→Shared→Prop} {pins:List (Addr×Obj)} {s:Shared} {σ:St} {H:Hp} {x:Str} {u:Value} {pos:Pos} {Q:Value→Shared→Prop} (I:Inv X pins σ H s) (hg:Gl X x) (hm:X.mg x=some u) (h:Q u s)
  (hd:(x == ("__debug__":Str))=false:=by decide):wpAny (model X.prog X.w) X.A (eval (.Name x pos) X.env) Q E s:=
 Calls.Name_function_global I.ok.kind hg (Calls.loadGlobal_global (by rw [I.ok.glob]; exact I.mod.glob.keeps I.bk) hm h) hd
theorem ld_blt {E:Value→Shared→Prop} {pins:List (Addr×Obj)} {s:Shared} {σ:St} {H:Hp} {x:Str} {u:Value} {pos:Pos} {Q:Value→Shared→Prop} (I:Inv X pins σ H s) (hg:Gl X x) (hm:X.mg x=none) (hv:bootBuiltins x=some u) (h:Q u s)
  (hn:x≠"__name__":=by decide) (hd:(x == ("__debug__":Str))=false:=by decide):wpAny (model X.prog X.w) X.A (eval (.Name x pos) X.env) Q E s:=by
 obtain ⟨mb,h1,h2⟩:=I.mod.blt
 exact Calls.Name_function_global I.ok.kind hg (Calls.loadGlobal_builtin (by rw [I.ok.glob]; exact I.mod.glob.keeps I.bk) hm (by rw [I.ok.blt]; exact h1.keeps I.bk) ((h2 x hn).trans hv) h) hd
theorem pe_glob {x:Str} {v:V} {u:Value} {pos:Pos} (hg:Gl X x) (hm:X.mg x=some u) (r:RelV v u) (hd:(x == ("__debug__":Str))=false:=by decide):PE X (.Name x pos) (tC v):=
 fun _ _ _ H _ I h=>ld_glob I hg hm ⟨v,H,I,r,h⟩ hd
theorem pe_bltn {x:Str} {v:V} {u:Value} {pos:Pos} (hg:Gl X x) (hm:X.mg x=none) (hv:bootBuiltins x=some u) (r:RelV v u) (hn:x≠"__name__":=by decide) (hd:(x == ("__debug__":Str))=false:=by decide):PE X (.Name x pos) (tC v):=
 fun _ _ _ H _ I h=>ld_blt I hg hm hv ⟨v,H,I,r,h⟩ hn hd
variable {a b:Expr} {ta tb:TE} {pos:Pos}
def tB (t:TE):TT:=fun σ H Q=>t σ H fun x H1=>∃ c,x=.bl c∧Q c H1
theorem pt_val {e:Expr} {t:TE} (h:PE X e t) (he:∀ whole,isTrue e X.env whole=(do let v ← whole; standAt e.pos; holding [v] (truthy v)):=by intro _; rfl):PT X e (tB t):=by
 intro pins s σ H Q I hw
 refine isTrue_plain (thn (h pins s σ H _ I hw) fun v s1 ⟨x,H1,I1,r1,q1⟩=>?_) (he _)
 obtain ⟨d,rfl,q⟩:=q1
 cases r1
 exact wpAny_truthy_bool ⟨H1,I1,q⟩
variable {tA tB':TT} {rest:List Expr}
def tAnd (t u:TT):TT:=fun σ H Q=>t σ H fun c H1=>if c=true then u σ H1 Q else Q false H1
def tOr (t u:TT):TT:=fun σ H Q=>t σ H fun c H1=>if c=true then Q true H1 else u σ H1 Q
def tNot (t:TT):TT:=fun σ H Q=>t σ H fun c H1=>Q (!c) H1
theorem pw_and1 (ha:PT X a tA):PW X (.BoolOp .And [a] pos) tA:=by
 intro wh pins s σ H Q I h
 refine isTrue_and (thn (ha pins s σ H Q I h) fun c s1 e=>?_)
 cases c with
 | true=>exact isTrue_and_nil e
 | false=>exact e
theorem pw_or1 (ha:PT X a tA):PW X (.BoolOp .Or [a] pos) tA:=by
 intro wh pins s σ H Q I h
 refine isTrue_or (thn (ha pins s σ H Q I h) fun c s1 e=>?_)
 cases c with
 | false=>exact isTrue_or_nil e
 | true=>exact e
theorem pw_and (ha:PT X a tA) (hb:PW X (.BoolOp .And (b :: rest) pos) tB'):PW X (.BoolOp .And (a :: b :: rest) pos) (tAnd tA tB'):=by
 intro wh pins s σ H Q I h
 refine isTrue_and (thn (ha pins s σ H _ I h) fun c s1 ⟨H1,I1,q1⟩=>?_)
 cases c with
 | true=>exact hb wh pins s1 σ H1 Q I1 q1
 | false=>exact ⟨H1,I1,q1⟩
theorem pw_or (ha:PT X a tA) (hb:PW X (.BoolOp .Or (b :: rest) pos) tB'):PW X (.BoolOp .Or (a :: b :: rest) pos) (tOr tA tB'):=by
 intro wh pins s σ H Q I h
 refine isTrue_or (thn (ha pins s σ H _ I h) fun c s1 ⟨H1,I1,q1⟩=>?_)
 cases c with
 | true=>exact ⟨H1,I1,q1⟩
 | false=>exact hb wh pins s1 σ H1 Q I1 q1
theorem pt_not (ha:PT X a tA):PT X (.UnaryOp .Not a pos) (tNot tA):=by
 intro pins s σ H Q I h
 exact isTrue_not (ha pins s σ H (fun c H1=>Q (!c) H1) I h)
def tAndV (ta tb:TE):TE:=fun σ H Q=>ta σ H fun x H1=>∃ c,x=.bl c∧if c=true then tb σ H1 Q else Q (.bl false) H1
def tOrV (ta tb:TE):TE:=fun σ H Q=>ta σ H fun x H1=>∃ c,x=.bl c∧if c=true then Q (.bl true) H1 else tb σ H1 Q
theorem pe_one {op} {t:TE} (h:PE X a t):PE X (.BoolOp op [a] pos) t:=fun pins s σ H Q I hw=>BoolOp_one (h pins s σ H Q I hw)
theorem pe_and (ha:PE X a ta) (hb:PE X (.BoolOp .And (b :: rest) pos) tb):PE X (.BoolOp .And (a :: b :: rest) pos) (tAndV ta tb):=by
 intro pins s σ H Q I h
 refine BoolOp_and (thn (ha pins s σ H _ I h) fun v s1 ⟨x,H1,I1,r1,q1⟩=>?_)
 obtain ⟨c,rfl,q1⟩:=q1
 cases r1
 refine wpAny_truthy_bool ?_
 cases c with
 | true=>exact hb pins s1 σ H1 Q I1 q1
 | false=>exact ⟨.bl false,H1,I1,rfl,q1⟩
theorem pe_or (ha:PE X a ta) (hb:PE X (.BoolOp .Or (b :: rest) pos) tb):PE X (.BoolOp .Or (a :: b :: rest) pos) (tOrV ta tb):=by
 intro pins s σ H Q I h
 refine BoolOp_or (thn (ha pins s σ H _ I h) fun v s1 ⟨x,H1,I1,r1,q1⟩=>?_)
 obtain ⟨c,rfl,q1⟩:=q1
 cases r1
 refine wpAny_truthy_bool ?_
 cases c with
 | false=>exact hb pins s1 σ H1 Q I1 q1
 | true=>exact ⟨.bl true,H1,I1,rfl,q1⟩
end
end L2
namespace L2
open PySem PySem.Spec PyProof.Rows
def SqL (K:PySem.W.Frag) (H:Hp) (a:Addr) (xs:List V):Prop:=
 Rd H a (.lst xs) ∨
  ∃ (o:Obj) (its:Array Value) (n:Nat),K.lookup a=some o∧o.cls=.type "list"∧o.dict=none∧o.data=.seq its n∧its.size ≤ sizeLine∧Vals xs its.toList
def SqT (K:PySem.W.Frag) (H:Hp) (a:Addr) (xs:List V):Prop:=
 Rd H a (.tup xs) ∨
  ∃ (o:Obj) (its:Array Value) (n:Nat),K.lookup a=some o∧o.cls=.type "tuple"∧o.data=.seq its n∧its.size ≤ sizeLine∧Vals xs its.toList
def absV:Value→Option V
 | .none=>some .non
 | .bool b=>some (.bl b)
 | .int i _=>some (.int i)
 | .str x _=>some (.str x)
 | .bytes b _=>some (.byt b)
 | .float b _=>some (.flt b)
 | .ref a=>some (.ref a)
 | .type n=>some (.ty n)
 | _=>none
theorem RelV.abs {x:V} {u:Value} (r:RelV x u):absV u=some x:=by
 cases x with
 | non=>cases r; rfl
 | bl _=>cases r; rfl
 | int _=>obtain ⟨t,rfl⟩:=r; rfl
 | str _=>obtain ⟨t,rfl⟩:=r; rfl
 | byt _=>obtain ⟨t,rfl⟩:=r; rfl
 | flt _=>obtain ⟨t,rfl⟩:=r; rfl
 | ref _=>cases r; rfl
 | ty _=>cases r; rfl
theorem RelV.inj {x y:V} {u:Value} (r:RelV x u) (q:RelV y u):x=y:=Option.some.inj (r.abs.symm.trans q.abs)
theorem Vals.inj:∀ {xs ys:List V} {us:List Value},Vals xs us→Vals ys us→xs=ys
 | _,_,_,.nil,.nil=>rfl
 | _,_,_,.cons r t,.cons r' t'=>by rw [r.inj r',Vals.inj t t']
section
variable {X:Cx} {pins:List (Addr×Obj)} {σ:St} {H:Hp} {s:Shared} {a:Addr} {xs ys:List V}
theorem SqL.of {K:PySem.W.Frag} (h:H a=some (.lst xs)):SqL K H a xs:=.inl (.inl h)
theorem SqT.of {K:PySem.W.Frag} (h:H a=some (.tup xs)):SqT K H a xs:=.inl (.inl h)
theorem Inv.list (I:Inv X pins σ H s) (h:SqL X.K H a xs):∃ its:List Value,Vals xs its∧PlainL s.heap a its.toArray∧xs.length ≤ sizeLine:=by
 rcases h with h | ⟨o,its,n,hk,hc,hd,hs,hz,r⟩
 ·obtain ⟨z,its,n,r,e⟩:=h.ok I.hok
  exact ⟨its,r,⟨_,n,e,rfl,rfl,rfl⟩,z⟩
 ·refine ⟨its.toList,r,⟨o,n,I.kIn a o hk,hc,hd,by simpa using hs⟩,?_⟩
  have e:=r.length
  simp only [Array.length_toList] at e
  omega
theorem Inv.tuple (I:Inv X pins σ H s) (h:SqT X.K H a xs):∃ its:List Value,Vals xs its∧IsTup s.heap a its.toArray∧xs.length ≤ sizeLine:=by
 rcases h with h | ⟨o,its,n,hk,hc,hs,hz,r⟩
 ·obtain ⟨z,its,r,o,e,c,n,d,_⟩:=h.ok I.hok
  exact ⟨its,r,⟨o,e,c,n,d⟩,z⟩
 ·refine ⟨its.toList,r,⟨o,I.kIn a o hk,hc,n,by simpa using hs⟩,?_⟩
  have e:=r.length
  simp only [Array.length_toList] at e
  omega
theorem Inv.list_inj (I:Inv X pins σ H s) (h:SqL X.K H a xs) (h':SqL X.K H a ys):xs=ys:=by
 obtain ⟨its,r,⟨o,n,e,_,_,d⟩,_⟩:=I.list h
 obtain ⟨its',r',⟨o',n',e',_,_,d'⟩,_⟩:=I.list h'
 rw [e] at e'; cases e'
 rw [d] at d'
 injection d' with d1 _
 have:its=its':=by simpa using congrArg Array.toList d1
 subst this
 exact r.inj r'
theorem Inv.tuple_inj (I:Inv X pins σ H s) (h:SqT X.K H a xs) (h':SqT X.K H a ys):xs=ys:=by
 obtain ⟨its,r,⟨o,e,_,n,d⟩,_⟩:=I.tuple h
 obtain ⟨its',r',⟨o',e',_,n',d'⟩,_⟩:=I.tuple h'
 rw [e] at e'; cases e'
 rw [d] at d'
 injection d' with d1 _
 have:its=its':=by simpa using congrArg Array.toList d1
 subst this
 exact r.inj r'
end
abbrev Cx.wish (X:Cx) (E:Value→Shared→Prop):Cx:={ X with xe:=E }
abbrev Cx.nox (X:Cx):Cx:=X.wish fun _ _=>False
theorem Cx.Ok.wish {X:Cx} (ok:X.Ok) (E:Value→Shared→Prop):(X.wish E).Ok:=
 ⟨ok.mod,ok.kind,ok.glob,ok.blt,ok.above,ok.inj,ok.has,ok.cab,ok.hd,ok.frames,ok.stk,ok.exf,ok.bs,ok.bsz,ok.noex,ok.exfs,ok.funs,ok.frf⟩
theorem Cx.Ok.unwish {X:Cx} {E:Value→Shared→Prop} (ok:(X.wish E).Ok):X.Ok:=
 ⟨ok.mod,ok.kind,ok.glob,ok.blt,ok.above,ok.inj,ok.has,ok.cab,ok.hd,ok.frames,ok.stk,ok.exf,ok.bs,ok.bsz,ok.noex,ok.exfs,ok.funs,ok.frf⟩
section
variable {X:Cx} {pins:List (Addr×Obj)} {σ:St} {H:Hp} {s:Shared} {E:Value→Shared→Prop}
theorem Inv.wish (I:Inv X pins σ H s) (E:Value→Shared→Prop):Inv (X.wish E) pins σ H s:=⟨I.ok.wish E,I.os,I.bare,I.base,I.loc,I.cell,I.free,I.freeC,I.pin,I.hok,I.len,I.tk⟩
theorem Inv.unwish (I:Inv (X.wish E) pins σ H s):Inv X pins σ H s:=⟨I.ok.unwish,I.os,I.bare,I.base,I.loc,I.cell,I.free,I.freeC,I.pin,I.hok,I.len,I.tk⟩
theorem SP.unwish {D:Ends} {f:Flow} {s':Shared} (h:SP (X.wish E) pins D f s'):SP X pins D f s':=by
 cases f with
 | next=>obtain ⟨σ',H',I,q⟩:=h; exact ⟨σ',H',I.unwish,q⟩
 | brk=>obtain ⟨σ',H',I,q⟩:=h; exact ⟨σ',H',I.unwish,q⟩
 | cont=>obtain ⟨σ',H',I,q⟩:=h; exact ⟨σ',H',I.unwish,q⟩
 | ret u=>obtain ⟨v,σ',H',I,r,q⟩:=h; exact ⟨v,σ',H',I.unwish,r,q⟩
theorem PSs.nox {st:List Stmt} {t:TS} (h:PSs X.nox st t):PSs X st t:=fun pins s σ H D I hw=>
 wpAny_mono (h pins s σ H D (I.wish _) hw) (fun _ _ q=>q.unwish) fun _ _ z=>False.elim z
end
section
variable {X:Cx} {st:Stmt} {rest:List Stmt} {t u:TS} {e:Expr} {te:TE} {pos:Pos}
def tNext:TS:=fun D σ H=>D.nx σ H
def tSeq (t u:TS):TS:=fun D σ H=>t { D with nx:=u D } σ H
theorem pss_nil:PSs X [] tNext:=fun _ _ σ H _ I h=>wpAny_execs_nil ⟨σ,H,I,h⟩
theorem pss_cons (h1:PS X st t) (h2:PSs X rest u):PSs X (st :: rest) (tSeq t u):=by
 intro pins s σ H D I h
 refine wpAny_execs_cons (thn (h1 pins s σ H { D with nx:=u D } I h) fun f s1 q=>?_)
 cases f with
 | next=>
  obtain ⟨σ',H',I',q⟩:=q
  exact h2 pins s1 σ' H' D I' q
 | ret v=>exact q
 | brk=>exact q
 | cont=>exact q
theorem pss_one (h1:PS X st t):PSs X [st] t:=by
 intro pins s σ H D I h
 refine wpAny_execs_cons (thn (h1 pins s σ H D I h) fun f s1 q=>?_)
 cases f with
 | next=>exact wpAny_execs_nil q
 | ret v=>exact q
 | brk=>exact q
 | cont=>exact q
theorem Inv.quiet {pins:List (Addr×Obj)} {σ:St} {H:Hp} {s:Shared} (I:Inv X pins σ H s):interactive X.env=false:=by simp [interactive,I.ok.kind]
def tDrop (te:TE):TS:=fun D σ H=>te σ H fun _ H1=>D.nx σ H1
theorem ps_expr (he:PE X e te) (hs:swapsWith e none pos.line X.env=pure false:=by rfl):PS X (.Expr e pos) (tDrop te):=by
 intro pins s σ H D I h
 exact wpAny_Expr_any (thn (he pins s σ H _ I h) fun v s1 ⟨x,H1,I1,r1,q1⟩=>⟨σ,H1,I1,q1⟩) I.quiet hs
def tRet (te:TE):TS:=fun D σ H=>te σ H D.rt
theorem ps_ret (he:PE X e te):PS X (.Return (some e) pos) (tRet te):=by
 intro pins s σ H D I h
 exact wpAny_Return_some (thn (he pins s σ H _ I h) fun v s1 ⟨x,H1,I1,r1,q1⟩=>⟨x,σ,H1,I1,r1,q1⟩)
def tIfS (c:TT) (t u:TS):TS:=fun D σ H=>c σ H fun b H1=>if b=true then t D σ H1 else u D σ H1
theorem ps_if {c:Expr} {a b:List Stmt} {tc:TT} (hc:PT X c tc) (ha:PSs X a t) (hb:PSs X b u):PS X (.If c a b pos) (tIfS tc t u):=by
 intro pins s σ H D I h
 refine wpAny_If (thn (hc pins s σ H _ I h) fun d s1 ⟨H1,I1,q1⟩=>?_)
 cases d with
 | true=>exact ha pins s1 σ H1 D I1 q1
 | false=>exact hb pins s1 σ H1 D I1 q1
end
abbrev TG:=V→St→Hp→(St→Hp→Prop)→Prop
abbrev TGs:=List V→St→Hp→(St→Hp→Prop)→Prop
def PG (X:Cx) (target:Expr) (t:TG):Prop:=
 ∀ (pins:List (Addr×Obj)) (s:Shared) (σ:St) (H:Hp) (v:V) (u:Value) (Q:St→Hp→Prop),Inv X pins σ H s→RelV v u→t v σ H Q →
  wpAny (model X.prog X.w) X.A (assign target X.env u) (fun _ s'=>∃ σ' H',Inv X pins σ' H' s'∧Q σ' H') X.xe s
def PGs (X:Cx) (ts:List Expr) (t:TGs):Prop:=
 ∀ (pins:List (Addr×Obj)) (s:Shared) (σ:St) (H:Hp) (vs:List V) (us:List Value) (Q:St→Hp→Prop),Inv X pins σ H s→Vals vs us→t vs σ H Q →
  wpAny (model X.prog X.w) X.A (assignInOrder ((assignEach ts X.env).map (·.2)) us) (fun _ s'=>∃ σ' H',Inv X pins σ' H' s'∧Q σ' H') X.xe s
abbrev TSet:=V→V→V→Hp→(Hp→Prop)→Prop
def PSet (X:Cx) (t:TSet):Prop:=
 ∀ (pins:List (Addr×Obj)) (s:Shared) (σ:St) (H:Hp) (o i v:V) (ov iv u:Value) (Q:Hp→Prop),Inv X pins σ H s→RelV o ov→RelV i iv→RelV v u→t o i v H Q →
  wpAny (model X.prog X.w) X.A (setItem ov iv u) (fun _ s'=>∃ H',Inv X pins σ H' s'∧Q H') X.xe s
section
variable {X:Cx} {pos:Pos}
def gName (i:Nat):TG:=fun v σ H Q=>Q (σ.set i (some v)) H
theorem pg_name {i:Nat} {x:Str} (hN:X.N.Nodup) (hi:X.N[i]?=some x) (hx:Loc X.env.scope x) (hf:X.fn x=true∨X.env.scope.names.lookup x=some .local:=by first | exact .inl rfl | exact .inr rfl | assumption):PG X (.Name x pos) (gName i):=by
 intro pins s σ H v u Q I r h
 exact wpAny_assign_Name (store_ok I hN hi hx r (fun s' I'=>⟨_,H,I',h⟩) hf)
def gNil:TGs:=fun vs σ H Q=>vs=[]∧Q σ H
def gCons (t:TG) (u:TGs):TGs:=fun vs σ H Q=>∃ v r,vs=v :: r∧t v σ H fun σ' H'=>u r σ' H' Q
theorem pgs_nil:PGs X [] gNil:=by
 intro pins s σ H vs us Q I r h
 obtain ⟨e,h⟩:=h
 subst e
 cases r
 exact assignInOrder_nil ⟨σ,H,I,h⟩
theorem pgs_cons {e:Expr} {es:List Expr} {t:TG} {u:TGs} (h1:PG X e t) (h2:PGs X es u)
  (hs:(assignEach (e :: es) X.env).map (·.2)=assign e X.env :: (assignEach es X.env).map (·.2):=by rfl):PGs X (e :: es) (gCons t u):=by
 intro pins s σ H vs us Q I r h
 obtain ⟨v,vr,e1,h⟩:=h
 subst e1
 cases r with
 | cons r rr=>
  rw [hs]
  refine assignInOrder_cons (thn (h1 pins s σ H _ _ _ I r h) fun _ s1 ⟨σ1,H1,I1,q1⟩=>?_)
  exact h2 pins s1 σ1 H1 _ _ Q I1 rr q1
def gTup (K:PySem.W.Frag) (n:Nat) (t:TGs):TG:=fun v σ H Q=>∃ a xs,v=.ref a∧SqT K H a xs∧xs.length=n∧t xs σ H Q
theorem pg_tup {es:List Expr} {k:Nat} {t:TGs} {n:Nat} (hc:X.calm=true) (h:PGs X es t)
  (hn:(assignEach es X.env).length=n:=by rfl) (hst:(assignEach es X.env).findIdx? (·.1)=none:=by rfl):PG X (.Tuple es k pos) (gTup X.K n t):=by
 intro pins s σ H v u Q I r hw
 obtain ⟨a,xs,e1,hq,hl,hw⟩:=hw
 subst e1
 cases r
 obtain ⟨its,rv,ht,hz⟩:=I.tuple hq
 refine assign_Tuple_tuple (I.ok.hd hc) ht (by simp [hn,← hl,rv.length]) hst fun h' hx=>?_
 have I1:Inv X pins σ H { s with heap:=h' }:=I.kept (t':=s.toks) fun b o e=>hx b o (Nat.ne_of_lt (Heap.lt_size e)) e
 exact h pins _ σ H xs _ Q I1 (by simpa using rv) hw
def gSub (to ti:TE) (t:TSet):TG:=fun v σ H Q=>to σ H fun o H1=>ti σ H1 fun i H2=>t o i v H2 fun H3=>Q σ H3
theorem pg_sub {o i:Expr} {to ti:TE} {t:TSet} (ho:PE X o to) (hi:PE X i ti) (hs:PSet X t)
  (ha:∀ v,assign (.Subscript o i pos) X.env v=(do
   let ov ← holding [v] (eval o X.env)
   let iv ← holding [v,ov] (eval i X.env)
   standAt pos
   holding [v,ov,iv] (setItem ov iv v)
   release [v,ov,iv] []):=by intro _; rfl):PG X (.Subscript o i pos) (gSub to ti t):=by
 intro pins s σ H v u Q I r h
 rw [ha]
 refine wpAny_bind (wpAny_holding (thn (ho pins s σ H _ I h) fun ov s1 ⟨x,H1,I1,r1,q1⟩=>?_))
 refine wpAny_bind (wpAny_holding (thn (hi pins s1 σ H1 _ I1 q1) fun iv s2 ⟨y,H2,I2,r2,q2⟩=>?_))
 refine wpAny_bind (wpAny_standAt (wpAny_bind (wpAny_holding (thn (hs pins s2 σ H2 x y v ov iv u _ I2 r1 r2 r q2) fun _ s3 ⟨H3,I3,q3⟩=>?_))))
 exact wpAny_release ⟨σ,H3,I3,q3⟩
def tAsg (te:TE) (g:TG):TS:=fun D σ H=>te σ H fun x H1=>g x σ H1 D.nx
theorem ps_asg {tg e:Expr} {te:TE} {g:TG} (he:PE X e te) (hg:PG X tg g) (hs:swapsWithSole [tg] e pos.line X.env=pure false:=by rfl) (hw:swappedStores [tg] e X.env=pure none:=by rfl)
  (h1:(assignEach [tg] X.env).map (·.2)=[assign tg X.env]:=by rfl):PS X (.Assign [tg] e pos) (tAsg te g):=by
 intro pins s σ H D I h
 refine wpAny_Assign_stores (thn (he pins s σ H _ I h) fun v s1 ⟨x,H1,I1,r1,q1⟩=>?_) hs hw
 rw [h1]
 exact thn (hg pins s1 σ H1 x v _ I1 r1 q1) fun _ s2 q=>q
theorem ps_set {i:Nat} {x:Str} {e:Expr} {te:TE} {pos':Pos} (hN:X.N.Nodup) (hi:X.N[i]?=some x) (hx:Loc X.env.scope x) (he:PE X e te) (hs:swapsWith e (some (.Name x pos')) pos.line X.env=pure false:=by rfl) (hf:X.fn x=true∨X.env.scope.names.lookup x=some .local:=by first | exact .inl rfl | exact .inr rfl | assumption) :
  PS X (.Assign [.Name x pos'] e pos) (tAsg te (gName i)):=by
 intro pins s σ H D I h
 refine wpAny_Assign_Name (thn (he pins s σ H _ I h) fun v s1 ⟨y,H1,I1,r1,q1⟩=>?_) hs
 exact store_ok I1 hN hi hx r1 (fun s2 I2=>⟨_,H1,I2,q1⟩) hf
end
section
variable {X:Cx} {pos:Pos}
def tWhile (c:TT) (tb:TS):TS:=fun D σ H=>∃ W:Nat→St→Hp→Prop,(∃ m,W m σ H)∧∀ m σ H,W m σ H →
 c σ H fun b H1=>if b=true then ∃ N:St→Hp→Prop,(∀ σ' H',N σ' H'→∃ m',m' < m∧W m' σ' H')∧tb { D with nx:=N,ct:=N,bk:=D.nx } σ H1 else D.nx σ H1
theorem ps_while {c:Expr} {body:List Stmt} {tc:TT} {tb:TS} (hp:PassesOwn (model X.prog X.w) X.A X.env X.xe) (hc:PT X c tc) (hb:PSs X body tb):PS X (.While c body [] pos) (tWhile tc tb):=by
 intro pins s σ H D I h
 obtain ⟨W,⟨m0,w0⟩,turn⟩:=h
 refine wpAny_While (codeAny_whileLoop (fun n s'=>∃ σ' H',Inv X pins σ' H' s'∧W n σ' H') ?_ m0 ⟨σ,H,I,w0⟩)
 rintro n s1 ⟨σ1,H1,I1,w1⟩
 refine wpAny_passesOwn hp (thn (hc pins s1 σ1 H1 _ I1 (turn n σ1 H1 w1)) fun b s2 ⟨H2,I2,q2⟩=>?_)
 cases b with
 | true=>
  obtain ⟨N,hN,q2⟩:=q2
  rw [if_pos rfl]
  refine wpAny_passesOwn hp (thn (hb pins s2 σ1 H2 _ I2 q2) fun f s3 q3=>?_)
  cases f with
  | next=>
   obtain ⟨σ3,H3,I3,n3⟩:=q3
   obtain ⟨m',hm,w3⟩:=hN σ3 H3 n3
   exact ⟨m',hm,σ3,H3,I3,w3⟩
  | cont=>
   obtain ⟨σ3,H3,I3,n3⟩:=q3
   obtain ⟨m',hm,w3⟩:=hN σ3 H3 n3
   exact ⟨m',hm,σ3,H3,I3,w3⟩
  | brk=>exact q3
  | ret v=>exact q3
 | false=>
  rw [if_neg Bool.false_ne_true]
  exact wpAny_execs_nil ⟨σ1,H2,I2,q2⟩
end
structure It where
 go:Nat→Hp→Prop
 yld:Nat→Hp→V→Hp→Prop
 stop:Nat→Hp→Prop
def FpOk (X:Cx) (pins:List (Addr×Obj)) (H:Hp) (b:Addr):Prop:=
 H b=none∧b≠X.env.locals∧b ∉ X.fs∧(b∈X.ex∨X.s₀.heap.objs.size ≤ b)∧(∀ x c,X.env.cells.lookup x=some c→c≠b)∧∀ p∈X.pn++pins,p.1≠b
theorem Inv.fpOk {X:Cx} {pins:List (Addr×Obj)} {σ:St} {H H':Hp} {s:Shared} {b:Addr} (I:Inv X pins σ H s) (hb:s.heap.objs.size ≤ b) (hn:H' b=none):FpOk X pins H' b:=by
 refine ⟨hn,Nat.ne_of_gt (Nat.lt_of_lt_of_le I.lt hb),I.nofs hb,.inr (Nat.le_trans I.sz hb),fun x c e z=>?_,fun p hp z=>?_⟩
 ·obtain ⟨v,q⟩:=I.cell x c e
  exact absurd (Nat.lt_of_lt_of_le q.lt (by rw [z]; exact hb)) (Nat.lt_irrefl _)
 ·exact absurd (Nat.lt_of_lt_of_le (Heap.lt_size (I.pin p hp).1) (by rw [z]; exact hb)) (Nat.lt_irrefl _)
structure Turn (P:Program) (w:World) (K:PySem.W.Frag) (tg:Expr) (J:It) (fp:List Addr) (it:Addr) (tn:Nat→Heap→Prop) (Cp:Cx→Prop:=fun X=>X.calm=true):Prop where
 mem:it∈fp
 obj:∀ i h,tn i h→∀ b∈fp,∃ o,h.get? b=some o∧∀ v,o.data≠.cell v
 keep:∀ i h h',tn i h→(∀ b∈fp,∀ o,h.get? b=some o→h'.get? b=some o)→tn i h'
 item:∀ (X:Cx),X.prog=P→X.w=w→X.K=K→Cp X→∀ (i:Nat) (pins:List (Addr×Obj)) (s:Shared) (σ:St) (H:Hp) (E:Value→Shared→Prop),Inv X pins σ H s→(∀ b∈fp,FpOk X pins H b)→tn i s.heap→J.go i H →
  wpAny (model P w) X.A (pyNext (.ref it)) (fun r s1=>∃ u,r=some u ∧
   wpAny (model P w) X.A (letOwnedTupleGo tg (.ref it) u) (fun _ s2=>∃ x H',Inv X pins σ H' s2∧RelV x u∧J.yld i H x H'∧tn (i + 1) s2.heap∧∀ b∈fp,H' b=none) E s1) E s
 done:∀ (X:Cx),X.prog=P→X.w=w→X.K=K→Cp X→∀ (i:Nat) (pins:List (Addr×Obj)) (s:Shared) (σ:St) (H:Hp) (E:Value→Shared→Prop),Inv X pins σ H s→(∀ b∈fp,FpOk X pins H b)→tn i s.heap→J.stop i H →
  wpAny (model P w) X.A (pyNext (.ref it)) (fun r s1=>r=none∧Inv X pins σ H s1) E s
 self:∀ (A:Around) (i:Nat) (s:Shared) (Q:Value→Shared→Prop) (E:Value→Shared→Prop),tn i s.heap→Q (.ref it) s→wpAny (model P w) A (pyIter (.ref it)) Q E s
abbrev TI:=St→Hp→(It→Hp→Prop)→Prop
def PIEQ (Cp:Cx→Prop) (X:Cx) (pins:List (Addr×Obj)) (σ:St) (tg:Expr) (R:It→Hp→Prop) (itv:Value) (s2:Shared):Prop:=
 ∃ (it:Addr) (fp:List Addr) (tn:Nat→Heap→Prop) (J:It) (H':Hp),itv=.ref it∧Inv X pins σ H' s2∧Turn X.prog X.w X.K tg J fp it tn Cp∧tn 0 s2.heap∧(∀ b∈fp,FpOk X pins H' b)∧R J H'
def PIE (X:Cx) (pins:List (Addr×Obj)) (σ:St) (tg:Expr) (R:It→Hp→Prop) (itv:Value) (s2:Shared):Prop:=
 ∃ (it:Addr) (fp:List Addr) (tn:Nat→Heap→Prop) (J:It) (H':Hp),itv=.ref it∧Inv X pins σ H' s2∧Turn X.prog X.w X.K tg J fp it tn∧tn 0 s2.heap∧(∀ b∈fp,FpOk X pins H' b)∧R J H'
def PI (X:Cx) (tg iter:Expr) (wi:TI):Prop:=
 ∀ (pins:List (Addr×Obj)) (s:Shared) (σ:St) (H:Hp) (R:It→Hp→Prop),Inv X pins σ H s→wi σ H R →
  wpAny (model X.prog X.w) X.A (eval iter X.env) (fun v s1=>wpAny (model X.prog X.w) X.A (pyIter v) (PIE X pins σ tg R) X.xe s1) X.xe s
theorem go_of {M:Model} {A:Around} {E:Value→Shared→Prop} {s:Shared} {tg:Expr} {it:Addr} {u:Value} {o:Obj} {n:String} {vs:Array Value} {Q:Unit→Shared→Prop} (ho:s.heap.get? it=some o) (hc:o.cls=.type n) (hd:o.data=.fields vs)
    (hn:["enumerate","zip","dict_itemiterator","dict_reverseitemiterator","odict_iterator","itertools.zip_longest","itertools.pairwise"].contains n=false) (hQ:Q () s):wpAny M A (letOwnedTupleGo tg (.ref it) u) Q E s:=by
  unfold letOwnedTupleGo
  cases tg <;> first
    | exact wpAny_pure hQ
    | (cases u <;> first
        | exact wpAny_pure hQ
        | (refine wpAny_bind (wpAny_load ho ?_)
           rw [hc,hd]
           show wpAny M A (if (["enumerate","zip","dict_itemiterator","dict_reverseitemiterator","odict_iterator","itertools.zip_longest","itertools.pairwise"].contains n && vs[0]? == some (rawInt _))=true then _ else _) Q E s
           rw [if_neg (by intro h; rw [hn,Bool.false_and] at h; cases h)]
           exact wpAny_pure hQ))
def Itl (K:PySem.W.Frag) (a:Addr):It:=
 ⟨fun i H=>∃ xs x,SqL K H a xs∧xs[i]?=some x,fun i H x H'=>H'=H∧∀ xs,SqL K H a xs→xs[i]?=some x,fun i H=>∃ xs,SqL K H a xs∧xs.length ≤ i⟩
def Itt (K:PySem.W.Frag) (a:Addr):It:=
 ⟨fun i H=>∃ xs x,SqT K H a xs∧xs[i]?=some x,fun i H x H'=>H'=H∧∀ xs,SqT K H a xs→xs[i]?=some x,fun i H=>∃ xs,SqT K H a xs∧xs.length ≤ i⟩
def Itr (lo:Int) (n:Nat):It:=⟨fun i _=>i < n,fun i H x H'=>H'=H∧x=.int (lo + i),fun i _=>n ≤ i⟩
theorem turn_list {P:Program} {w:World} {K:PySem.W.Frag} {tg:Expr} (a it:Addr):Turn P w K tg (Itl K a) [it] it (fun i h=>h.IsListIter it a i) where
 mem:=by simp
 obj:=fun i h st b hb=>by
  have e:b=it:=by simpa using hb
  subst e
  obtain ⟨o,e,c,d⟩:=st
  exact ⟨o,e,fun v z=>by rw [d] at z; cases z⟩
 keep:=fun i h h' st k=>st.at fun o e=>k it (by simp) o e
 item:=by
  intro X hP hw hK hc i pins s σ H E I hf st hg
  subst hP hw hK
  obtain ⟨xs,x,hq,hx⟩:=hg
  obtain ⟨its,rv,p,hz⟩:=I.list hq
  obtain ⟨u,hu,ru⟩:=rv.get hx
  obtain ⟨f0,f1,f2,f3,f4,f5⟩:=hf it (by simp)
  refine wpAny_pyNext_list_item st p.isList (x:=u) (by simpa using hu) fun h' st' sb=>?_
  have I1:Inv X pins σ H { s with heap:=h' }:=I.turned (t':=s.toks) (fun b o hb e=>(sb.2 b hb).trans e) f0 f1 f3 f4 f5
  obtain ⟨o,e,c,d⟩:=id st'
  exact ⟨u,rfl,go_of (s:={ s with heap:=h' }) e c d (by decide) ⟨x,H,I1,ru,⟨rfl,fun ys hy=>by rw [I.list_inj hy hq]; exact hx⟩,st',fun b hb=>(hf b hb).1⟩⟩
 done:=by
  intro X hP hw hK hc i pins s σ H E I hf st hg
  subst hP hw hK
  obtain ⟨xs,hq,hx⟩:=hg
  obtain ⟨its,rv,p,hz⟩:=I.list hq
  obtain ⟨f0,f1,f2,f3,f4,f5⟩:=hf it (by simp)
  have hl:=rv.length
  exact wpAny_pyNext_list_end (I.ok.hd hc) st p.isList (by simp; omega) fun h' eb=>⟨rfl,I.turned (t':=s.toks) (fun b o hb e=>eb b o hb e) f0 f1 f3 f4 f5⟩
 self:=fun _ _ _ _ _ st h=>wpAny_pyIter_listiter st h
theorem turn_tuple {P:Program} {w:World} {K:PySem.W.Frag} {tg:Expr} (a it:Addr):Turn P w K tg (Itt K a) [it] it (fun i h=>h.IsTupleIter it a i) where
 mem:=by simp
 obj:=fun i h st b hb=>by
  have e:b=it:=by simpa using hb
  subst e
  obtain ⟨o,e,c,d⟩:=st
  exact ⟨o,e,fun v z=>by rw [d] at z; cases z⟩
 keep:=fun i h h' st k=>st.at fun o e=>k it (by simp) o e
 item:=by
  intro X hP hw hK hc i pins s σ H E I hf st hg
  subst hP hw hK
  obtain ⟨xs,x,hq,hx⟩:=hg
  obtain ⟨its,rv,p,hz⟩:=I.tuple hq
  obtain ⟨u,hu,ru⟩:=rv.get hx
  obtain ⟨f0,f1,f2,f3,f4,f5⟩:=hf it (by simp)
  refine wpAny_pyNext_tuple_item st (show s.heap.IsTuple a its.toArray from p) (x:=u) (by simpa using hu) fun h' st' sb=>?_
  have I1:Inv X pins σ H { s with heap:=h' }:=I.turned (t':=s.toks) (fun b o hb e=>(sb.2 b hb).trans e) f0 f1 f3 f4 f5
  obtain ⟨o,e,c,d⟩:=id st'
  exact ⟨u,rfl,go_of (s:={ s with heap:=h' }) e c d (by decide) ⟨x,H,I1,ru,⟨rfl,fun ys hy=>by rw [I.tuple_inj hy hq]; exact hx⟩,st',fun b hb=>(hf b hb).1⟩⟩
 done:=by
  intro X hP hw hK hc i pins s σ H E I hf st hg
  subst hP hw hK
  obtain ⟨xs,hq,hx⟩:=hg
  obtain ⟨its,rv,p,hz⟩:=I.tuple hq
  obtain ⟨f0,f1,f2,f3,f4,f5⟩:=hf it (by simp)
  have hl:=rv.length
  exact wpAny_pyNext_tuple_end (I.ok.hd hc) st (show s.heap.IsTuple a its.toArray from p) (by simp; omega) fun h' eb=>⟨rfl,I.turned (t':=s.toks) (fun b o hb e=>eb b o hb e) f0 f1 f3 f4 f5⟩
 self:=fun _ _ _ _ _ st h=>wpAny_pyIter_tupleiter st h
theorem turn_range {P:Program} {w:World} {K:PySem.W.Frag} {tg:Expr} (it:Addr) (lo:Int) (n:Nat):Turn P w K tg (Itr lo n) [it] it (fun i h=>IsRangeIter h it (lo + (i:Nat) * 1) ((n:Int) - (i:Nat)) 1) where
 mem:=by simp
 obj:=fun i h st b hb=>by
  have e:b=it:=by simpa using hb
  subst e
  exact ⟨_,st,fun v z=>by
   have z':Data.fields _=Data.cell v:=z
   cases z'⟩
 keep:=fun i h h' st k=>k it (by simp) _ st
 item:=by
  intro X hP hw hK hc i pins s σ H E I hf st hg
  subst hP hw hK
  obtain ⟨f0,f1,f2,f3,f4,f5⟩:=hf it (by simp)
  have W:=Walks.range (prog:=X.prog) (w:=X.w) (I.ok.hd hc) it lo 1 n
  refine upQ (W.item i s _ _ hg st fun v h' tk hv st' kk (hup:s.toks ≤ tk)=>?_)
  obtain ⟨t,rfl⟩:=hv
  have I1:Inv X pins σ H { s with heap:=h',toks:=tk }:=I.turned (fun b o hb e=>kk b o (by simpa using hb) e) f0 f1 f3 f4 f5
  refine ⟨_,rfl,go_of (s:={ s with heap:=h',toks:=tk }) (n:="range_iterator") st' rfl rfl (by decide) ⟨.int (lo + i),H,I1,⟨t,?_⟩,⟨rfl,rfl⟩,st',fun b hb=>(hf b hb).1⟩⟩
  rw [Int.mul_one]
 done:=by
  intro X hP hw hK hc i pins s σ H E I hf st hg
  subst hP hw hK
  obtain ⟨f0,f1,f2,f3,f4,f5⟩:=hf it (by simp)
  exact wpAny_pyNext_range_end (I.ok.hd hc) st (by have:n ≤ i:=hg; omega) fun h' eb=>⟨rfl,I.turned (t':=s.toks) (fun b o hb e=>eb b o hb e) f0 f1 f3 f4 f5⟩
 self:=fun _ _ _ _ _ st h=>wpAny_pyIter_rangeiter st h
end L2
namespace L2
open PySem PySem.Spec PyProof.Rows
section
variable {X:Cx} {tg:Expr}
def iList (K:PySem.W.Frag) (tl:TE):TI:=fun σ H R=>tl σ H fun x H1=>∃ a,x=.ref a∧(∃ xs,SqL K H1 a xs)∧R (Itl K a) H1
def iTup (K:PySem.W.Frag) (tl:TE):TI:=fun σ H R=>tl σ H fun x H1=>∃ a,x=.ref a∧(∃ xs,SqT K H1 a xs)∧R (Itt K a) H1
theorem pi_list {l:Expr} {tl:TE} (hl:PE X l tl):PI X tg l (iList X.K tl):=by
 intro pins s σ H R I h
 refine thn (hl pins s σ H _ I h) fun v s1 ⟨x,H1,I1,r1,q1⟩=>?_
 obtain ⟨a,e,⟨xs,hq⟩,q⟩:=q1
 subst e
 cases r1
 obtain ⟨its,rv,p,hz⟩:=I1.list hq
 refine wpAny_pyIter_list p.isList ?_
 refine ⟨s1.heap.objs.size,[s1.heap.objs.size],_,_,H1,rfl,I1.kept (t':=s1.toks) fun b o e=>Heap.get?_push_of_some _ e,turn_list a _,⟨_,Heap.get?_push_size _ rfl,rfl,rfl⟩,fun b hb=>?_,q⟩
 have e:b=s1.heap.objs.size:=by simpa using hb
 subst e
 exact I1.fpOk (Nat.le_refl _) (I1.hok.fresh (Nat.le_refl _))
theorem pi_tup {l:Expr} {tl:TE} (hl:PE X l tl):PI X tg l (iTup X.K tl):=by
 intro pins s σ H R I h
 refine thn (hl pins s σ H _ I h) fun v s1 ⟨x,H1,I1,r1,q1⟩=>?_
 obtain ⟨a,e,⟨xs,hq⟩,q⟩:=q1
 subst e
 cases r1
 obtain ⟨its,rv,p,hz⟩:=I1.tuple hq
 refine wpAny_pyIter_tuple (show s1.heap.IsTuple a its.toArray from p) ?_
 refine ⟨s1.heap.objs.size,[s1.heap.objs.size],_,_,H1,rfl,I1.kept (t':=s1.toks) fun b o e=>Heap.get?_push_of_some _ e,turn_tuple a _,⟨_,Heap.get?_push_size _ rfl,rfl,rfl⟩,fun b hb=>?_,q⟩
 have e:b=s1.heap.objs.size:=by simpa using hb
 subst e
 exact I1.fpOk (Nat.le_refl _) (I1.hok.fresh (Nat.le_refl _))
theorem range_it {pins:List (Addr×Obj)} {σ:St} {H:Hp} {s:Shared} {R:It→Hp→Prop} {E:Value→Shared→Prop} {lo hi:Int} {t u v:Tok} {tk:Nat} (I:Inv X pins σ H s) (htk:0 < tk) (h1:-(2 ^ 62) ≤ lo) (h2:lo < 2 ^ 62) (h3:-(2 ^ 62) ≤ hi) (h4:hi < 2 ^ 62)
  (q:R (Itr lo (hi - lo).toNat) H):wpAny (model X.prog X.w) X.A (pyIter (.ref s.heap.objs.size)) (PIE X pins σ tg R) E { s with heap:=s.heap.push { cls:=.type "range",data:=.fields #[.int lo t,.int hi u,.int 1 v] },toks:=tk }:=by
 refine wpAny_pyIter_range (IsRange.new ..) (small_one h1 h2 h3 h4) ?_
 have I1:Inv X pins σ H { s with heap:=s.heap.push { cls:=.type "range",data:=.fields #[.int lo t,.int hi u,.int 1 v] },toks:=tk }:=I.kept fun b o e=>Heap.get?_push_of_some _ e
 refine ⟨(s.heap.push { cls:=.type "range",data:=.fields #[.int lo t,.int hi u,.int 1 v] }).objs.size,[(s.heap.push { cls:=.type "range",data:=.fields #[.int lo t,.int hi u,.int 1 v] }).objs.size],_,_,H,rfl,
  I1.kept (t':=tk) fun b o e=>Heap.get?_push_of_some _ e,turn_range _ lo (hi - lo).toNat,?_,fun b hb=>?_,q⟩
 ·have e1:lo + ((0:Nat):Int) * 1=lo:=by simp
  have e2:(((hi - lo).toNat:Nat):Int) - ((0:Nat):Int)=Builtin.Range.rangeSize lo hi 1:=by rw [rangeSize_one]; split <;> omega
  show IsRangeIter _ _ (lo + ((0:Nat):Int) * 1) ((((hi - lo).toNat:Nat):Int) - ((0:Nat):Int)) 1
  rw [e1,e2]
  exact Heap.get?_push_size _ rfl
 ·have e:b=(s.heap.push { cls:=.type "range",data:=.fields #[.int lo t,.int hi u,.int 1 v] }).objs.size:=by simpa using hb
  subst e
  exact I1.fpOk (Nat.le_refl _) (I1.hok.fresh (Nat.le_refl _))
def iRng1 (ta:TA):TI:=fun σ H R=>ta σ H fun vs H1=>∃ j:Int,vs=[.int j]∧-(2 ^ 62) ≤ j∧j < 2 ^ 62∧R (Itr 0 j.toNat) H1
theorem pi_range1 {a:Expr} {ta:TA} {p pos:Pos} (hg:Gl X "range") (hm:X.mg "range"=none) (ha:PA X [a] ta) (hs:starEach [a] X.env=[(false,eval a X.env)]:=by rfl):PI X tg (.Call (.Name "range" p) [a] [] pos) (iRng1 ta):=by
 intro pins s σ H R I h
 refine Call_ (ld_blt I hg hm boot_range (PyProof.Rows.callWith_type1 (thn (ha pos pins s σ H _ I h) fun us s1 ⟨vs,H1,I1,r1,q1⟩=>?_) hs rfl))
 obtain ⟨j,e,q1,q2,q⟩:=q1
 subst e
 cases r1 with
 | cons r rr=>
  cases rr
  obtain ⟨t,rfl⟩:=r
  exact call_range_1 (range_it I1 (Nat.succ_pos _) (by omega) (by omega) q1 q2 (by simpa using q))
def tFor (wi:TI) (g:TG) (tb:TS):TS:=fun D σ H=>wi σ H fun J H1=>∃ W:Nat→Nat→St→Hp→Prop,(∃ m,W 0 m σ H1)∧∀ i m σ H,W i m σ H →
 (J.stop i H∧D.nx σ H)∨(J.go i H∧∃ N:St→Hp→Prop,(∀ σ' H',N σ' H'→∃ m',m' < m∧W (i + 1) m' σ' H')∧∀ x H',J.yld i H x H'→g x σ H' fun σ2 H2=>tb { D with nx:=N,ct:=N,bk:=D.nx } σ2 H2)
def pinsAt (fp:List Addr) (h:Heap):List (Addr×Obj):=fp.filterMap fun b=>(h.get? b).map fun o=>(b,o)
theorem mem_pinsAt {fp:List Addr} {h:Heap} {b:Addr} {o:Obj} (hb:b∈fp) (e:h.get? b=some o):(b,o)∈pinsAt fp h:=List.mem_filterMap.mpr ⟨b,hb,by rw [e]; rfl⟩
theorem of_pinsAt {fp:List Addr} {h:Heap} {p:Addr×Obj} (hp:p∈pinsAt fp h):p.1∈fp∧h.get? p.1=some p.2:=by
 obtain ⟨b,hb,e⟩:=List.mem_filterMap.mp hp
 cases q:h.get? b with
 | none=>rw [q] at e; cases e
 | some o=>
  rw [q] at e
  have e':(b,o)=p:=Option.some.inj e
  subst e'
  exact ⟨hb,q⟩
theorem Inv.pinned {pins:List (Addr×Obj)} {σ:St} {H:Hp} {s:Shared} {fp:List Addr} (I:Inv X pins σ H s) (hf:∀ b∈fp,FpOk X pins H b) (ho:∀ b∈fp,∃ o,s.heap.get? b=some o∧∀ v,o.data≠.cell v):Inv X (pins++pinsAt fp s.heap) σ H s:=
 I.pins_of fun p hp=>(List.mem_append.mp hp).elim (fun z=>I.pin p (List.mem_append_right _ z)) fun z=>by
  obtain ⟨hb,e⟩:=of_pinsAt z
  obtain ⟨f0,f1,f2,_⟩:=hf p.1 hb
  obtain ⟨o,e',d⟩:=ho p.1 hb
  rw [e] at e'; cases e'
  exact ⟨e,f0,f1,f2,d⟩
theorem Inv.unpinned {pins pl:List (Addr×Obj)} {σ:St} {H:Hp} {s:Shared} (I:Inv X (pins++pl) σ H s):Inv X pins σ H s:=I.pins_of fun p hp=>I.pin p (List.mem_append_right _ (List.mem_append_left _ hp))
theorem ps_for {iter:Expr} {body:List Stmt} {wi:TI} {g:TG} {tb:TS} {pos:Pos} (hp:PassesOwn (model X.prog X.w) X.A X.env X.xe) (hc:X.calm=true) (hi:PI X tg iter wi) (hg:PG X tg g) (hb:PSs X body tb)
  (hs:∀ x,foldedSetIterable iter X.env x=pure x:=by intro _; rfl):PS X (.For tg iter body [] pos) (tFor wi g tb):=by
 intro pins s σ H D I h
 refine wpAny_For (thn (hi pins s σ H _ I h) fun v s1 h1=>thn h1 fun itv s2 h2=>?_) hs
 obtain ⟨it,fp,tn,J,H2,e,I2,T,st2,f2,W,⟨m0,w0⟩,turn⟩:=h2
 subst e
 have stat:∀ {H':Hp},(∀ b∈fp,H' b=none)→∀ b∈fp,FpOk X pins H' b:=fun hn b hb=>⟨hn b hb,(f2 b hb).2⟩
 refine codeAny_forLoop_any (fun n s'=>∃ i σ' H',Inv X pins σ' H' s'∧tn i s'.heap∧(∀ b∈fp,H' b=none)∧W i n σ' H') ?_ m0 ⟨0,σ,H2,I2,st2,fun b hb=>(f2 b hb).1,w0⟩
 rintro n s3 ⟨i,σ3,H3,I3,st3,fr3,w3⟩
 rcases turn i n σ3 H3 w3 with ⟨stop,qn⟩ | ⟨go,N,hN,step⟩
 ·refine wpAny_passesOwn hp (thn (T.done X rfl rfl rfl hc i pins s3 σ3 H3 X.xe I3 (stat fr3) st3 stop) fun r s4 ⟨hr,I4⟩=>?_)
  subst hr
  exact wpAny_execs_nil ⟨σ3,H3,I4,qn⟩
 ·refine wpAny_passesOwn hp (thn (T.item X rfl rfl rfl hc i pins s3 σ3 H3 X.xe I3 (stat fr3) st3 go) fun r s4 ⟨u,hr,h4⟩=>?_)
  subst hr
  refine wpAny_passesOwn hp (thn h4 fun _ s5 ⟨x,H5,I5,r5,y5,st5,fr5⟩=>?_)
  have I5':=I5.pinned (stat fr5) (T.obj _ _ st5)
  refine wpAny_passesOwn hp (thn (hg _ s5 σ3 H5 x u _ I5' r5 (step x H5 y5)) fun _ s6 ⟨σ6,H6,I6,q6⟩=>?_)
  refine wpAny_passesOwn hp (thn (hb _ s6 σ6 H6 _ I6 q6) fun f s7 q7=>?_)
  have again:∀ {σ7:St} {H7:Hp},Inv X (pins++pinsAt fp s5.heap) σ7 H7 s7→N σ7 H7→∃ m,m < n∧∃ i σ' H',Inv X pins σ' H' s7∧tn i s7.heap∧(∀ b∈fp,H' b=none)∧W i m σ' H':=fun {σ7 H7} I7 n7=>by
   obtain ⟨m',hm,w7⟩:=hN σ7 H7 n7
   refine ⟨m',hm,i + 1,σ7,H7,I7.unpinned,T.keep _ _ _ st5 fun b hb o e=>(I7.pin (b,o) (List.mem_append_right _ (List.mem_append_right _ (mem_pinsAt hb e)))).1,fun b hb=>?_,w7⟩
   obtain ⟨o,e,d⟩:=T.obj _ _ st5 b hb
   exact (I7.pin (b,o) (List.mem_append_right _ (List.mem_append_right _ (mem_pinsAt hb e)))).2.1
  cases f with
  | next=>obtain ⟨σ7,H7,I7,n7⟩:=q7; exact again I7 n7
  | cont=>obtain ⟨σ7,H7,I7,n7⟩:=q7; exact again I7 n7
  | brk=>obtain ⟨σ7,H7,I7,q7⟩:=q7; exact ⟨σ7,H7,I7.unpinned,q7⟩
  | ret v=>obtain ⟨x7,σ7,H7,I7,r7,q7⟩:=q7; exact ⟨x7,σ7,H7,I7.unpinned,r7,q7⟩
end
theorem for_list {K:PySem.W.Frag} {a:Addr} {xs:List V} {g:TG} {tb:TS} {D:Ends} {σ:St} {H:Hp} (Pv:Nat→St→Hp→Prop) (h0:Pv 0 σ H) (hl:∀ i σ H,i ≤ xs.length→Pv i σ H→SqL K H a xs)
  (hs:∀ i x σ H,xs[i]?=some x→Pv i σ H→g x σ H fun σ2 H2=>tb { D with nx:=Pv (i + 1),ct:=Pv (i + 1),bk:=D.nx } σ2 H2) (hd:∀ σ H,Pv xs.length σ H→D.nx σ H) :
  ∃ W:Nat→Nat→St→Hp→Prop,(∃ m,W 0 m σ H)∧∀ i m σ H,W i m σ H →
   ((Itl K a).stop i H∧D.nx σ H)∨((Itl K a).go i H∧∃ N:St→Hp→Prop,(∀ σ' H',N σ' H'→∃ m',m' < m∧W (i + 1) m' σ' H')∧∀ x H',(Itl K a).yld i H x H'→g x σ H' fun σ2 H2=>tb { D with nx:=N,ct:=N,bk:=D.nx } σ2 H2):=by
 refine ⟨fun i m σ H=>m=xs.length - i∧i ≤ xs.length∧Pv i σ H,⟨xs.length,by simp,Nat.zero_le _,h0⟩,?_⟩
 rintro i m σ H ⟨rfl,hi,p⟩
 have q:=hl i σ H hi p
 by_cases hlt:i < xs.length
 ·refine .inr ⟨⟨xs,xs[i],q,by simp [hlt]⟩,Pv (i + 1),fun σ' H' p'=>⟨xs.length - (i + 1),by omega,rfl,hlt,p'⟩,fun x H' y=>?_⟩
  obtain ⟨e,y⟩:=y
  subst e
  exact hs i x σ _ (y xs q) p
 ·have e:i=xs.length:=by omega
  subst e
  exact .inl ⟨⟨xs,q,Nat.le_refl _⟩,hd σ H p⟩
theorem for_tup {K:PySem.W.Frag} {a:Addr} {xs:List V} {g:TG} {tb:TS} {D:Ends} {σ:St} {H:Hp} (Pv:Nat→St→Hp→Prop) (h0:Pv 0 σ H) (hl:∀ i σ H,i ≤ xs.length→Pv i σ H→SqT K H a xs)
  (hs:∀ i x σ H,xs[i]?=some x→Pv i σ H→g x σ H fun σ2 H2=>tb { D with nx:=Pv (i + 1),ct:=Pv (i + 1),bk:=D.nx } σ2 H2) (hd:∀ σ H,Pv xs.length σ H→D.nx σ H) :
  ∃ W:Nat→Nat→St→Hp→Prop,(∃ m,W 0 m σ H)∧∀ i m σ H,W i m σ H →
   ((Itt K a).stop i H∧D.nx σ H)∨((Itt K a).go i H∧∃ N:St→Hp→Prop,(∀ σ' H',N σ' H'→∃ m',m' < m∧W (i + 1) m' σ' H')∧∀ x H',(Itt K a).yld i H x H'→g x σ H' fun σ2 H2=>tb { D with nx:=N,ct:=N,bk:=D.nx } σ2 H2):=by
 refine ⟨fun i m σ H=>m=xs.length - i∧i ≤ xs.length∧Pv i σ H,⟨xs.length,by simp,Nat.zero_le _,h0⟩,?_⟩
 rintro i m σ H ⟨rfl,hi,p⟩
 have q:=hl i σ H hi p
 by_cases hlt:i < xs.length
 ·refine .inr ⟨⟨xs,xs[i],q,by simp [hlt]⟩,Pv (i + 1),fun σ' H' p'=>⟨xs.length - (i + 1),by omega,rfl,hlt,p'⟩,fun x H' y=>?_⟩
  obtain ⟨e,y⟩:=y
  subst e
  exact hs i x σ _ (y xs q) p
 ·have e:i=xs.length:=by omega
  subst e
  exact .inl ⟨⟨xs,q,Nat.le_refl _⟩,hd σ H p⟩
theorem for_range {lo:Int} {n:Nat} {g:TG} {tb:TS} {D:Ends} {σ:St} {H:Hp} (Pv:Nat→St→Hp→Prop) (h0:Pv 0 σ H)
  (hs:∀ i σ H,i < n→Pv i σ H→g (.int (lo + i)) σ H fun σ2 H2=>tb { D with nx:=Pv (i + 1),ct:=Pv (i + 1),bk:=D.nx } σ2 H2) (hd:∀ σ H,Pv n σ H→D.nx σ H) :
  ∃ W:Nat→Nat→St→Hp→Prop,(∃ m,W 0 m σ H)∧∀ i m σ H,W i m σ H →
   ((Itr lo n).stop i H∧D.nx σ H)∨((Itr lo n).go i H∧∃ N:St→Hp→Prop,(∀ σ' H',N σ' H'→∃ m',m' < m∧W (i + 1) m' σ' H')∧∀ x H',(Itr lo n).yld i H x H'→g x σ H' fun σ2 H2=>tb { D with nx:=N,ct:=N,bk:=D.nx } σ2 H2):=by
 refine ⟨fun i m σ H=>m=n - i∧i ≤ n∧Pv i σ H,⟨n,by simp,Nat.zero_le _,h0⟩,?_⟩
 rintro i m σ H ⟨rfl,hi,p⟩
 by_cases hlt:i < n
 ·refine .inr ⟨hlt,Pv (i + 1),fun σ' H' p'=>⟨n - (i + 1),by omega,rfl,hlt,p'⟩,fun x H' y=>?_⟩
  obtain ⟨e,y⟩:=y
  subst e y
  exact hs i σ _ hlt p
 ·have e:i=n:=by omega
  subst e
  exact .inl ⟨Nat.le_refl _,hd σ H p⟩
theorem while_by {c:TT} {tb:TS} {D:Ends} {σ:St} {H:Hp} (Pv:St→Hp→Prop) (μ:St→Hp→Nat) (h0:Pv σ H)
  (hs:∀ σ H,Pv σ H→c σ H fun b H1=>if b=true then tb { D with nx:=fun σ' H'=>Pv σ' H'∧μ σ' H' < μ σ H,ct:=fun σ' H'=>Pv σ' H'∧μ σ' H' < μ σ H,bk:=D.nx } σ H1 else D.nx σ H1)
  (mono:∀ σ H Q Q',(∀ b H1,Q b H1→Q' b H1)→c σ H Q→c σ H Q'):tWhile c tb D σ H:=by
 refine ⟨fun m σ H=>m=μ σ H∧Pv σ H,⟨_,rfl,h0⟩,?_⟩
 rintro m σ H ⟨rfl,p⟩
 refine mono σ H _ _ (fun b H1 q=>?_) (hs σ H p)
 cases b with
 | true=>exact ⟨_,fun σ' H' ⟨p',l⟩=>⟨_,l,rfl,p'⟩,q⟩
 | false=>exact q
end L2
namespace L2
open PySem PySem.Spec PyProof.Rows
abbrev R2:=V→V→Hp→VK→Prop
def OpR (X:Cx) (f:Value→Value→Sem Value) (r:R2):Prop:=
 ∀ (pins:List (Addr×Obj)) (s:Shared) (σ:St) (H:Hp) (x y:V) (v u:Value) (Q:VK),Inv X pins σ H s→RelV x v→RelV y u→r x y H Q →
  wpAny (model X.prog X.w) X.A (f v u) (EP X pins σ Q) X.xe s
def UnR (X:Cx) (f:Value→Sem Value) (r:V→Hp→VK→Prop):Prop:=
 ∀ (pins:List (Addr×Obj)) (s:Shared) (σ:St) (H:Hp) (x:V) (v:Value) (Q:VK),Inv X pins σ H s→RelV x v→r x H Q →
  wpAny (model X.prog X.w) X.A (f v) (EP X pins σ Q) X.xe s
def CallR (X:Cx) (f:Value) (r:List V→Hp→VK→Prop):Prop:=
 ∀ (pins:List (Addr×Obj)) (s:Shared) (σ:St) (H:Hp) (xs:List V) (us:List Value) (Q:VK),Inv X pins σ H s→Vals xs us→r xs H Q →
  wpAny (model X.prog X.w) X.A (call f us) (EP X pins σ Q) X.xe s
def tOp (r:R2) (ta tb:TE):TE:=fun σ H Q=>ta σ H fun x H1=>tb σ H1 fun y H2=>r x y H2 Q
def tUn (r:V→Hp→VK→Prop) (ta:TE):TE:=fun σ H Q=>ta σ H fun x H1=>r x H1 Q
def rI (C:Int→Int→Prop) (g:Int→Int→V):R2:=fun x y H Q=>∃ i j,x=.int i∧y=.int j∧C i j∧Q (g i j) H
def rI0 (g:Int→Int→V):R2:=fun x y H Q=>∃ i j,x=.int i∧y=.int j∧Q (g i j) H
def rU (g:Int→V):V→Hp→VK→Prop:=fun x H Q=>∃ i,x=.int i∧Q (g i) H
section
variable {X:Cx} {a b c:Expr} {ta tb tc:TE} {pos:Pos}
theorem binT (ha:PE X a ta) (hb:PE X b tb) {pins:List (Addr×Obj)} {s:Shared} {σ:St} {H:Hp} {R:V→V→Hp→Prop} (I:Inv X pins σ H s)
  (h:ta σ H fun x H1=>tb σ H1 fun y H2=>R x y H2) {Q:Value→Shared→Prop} {f:Value→Value→Sem Value}
  (hf:∀ v u s2 x y H2,Inv X pins σ H2 s2→RelV x v→RelV y u→R x y H2→wpAny (model X.prog X.w) X.A (f v u) Q X.xe s2) :
  wpAny (model X.prog X.w) X.A (eval a X.env) (fun v s₁=>wpAny (model X.prog X.w) X.A (eval b X.env) (fun u s₂=>wpAny (model X.prog X.w) X.A (f v u) Q X.xe s₂) X.xe s₁) X.xe s:=by
 refine thn (ha pins s σ H _ I h) fun v s1 ⟨x,H1,I1,r1,q1⟩=>?_
 refine thn (hb pins s1 σ H1 _ I1 q1) fun u s2 ⟨y,H2,I2,r2,q2⟩=>?_
 exact hf v u s2 x y H2 I2 r1 r2 q2
theorem pe_op {op:Operator} {r:R2} (ho:OpR X (binaryOp op) r) (ha:PE X a ta) (hb:PE X b tb):PE X (.BinOp a op b pos) (tOp r ta tb):=by
 intro pins s σ H Q I h
 exact wpAny_BinOp (binT ha hb I h fun v u s2 x y H2 I2 rx ry q=>ho pins s2 σ H2 x y v u Q I2 rx ry q)
theorem pe_un {op:UnaryOp} {r:V→Hp→VK→Prop} (ho:UnR X (unaryOp op) r) (ha:PE X a ta):PE X (.UnaryOp op a pos) (tUn r ta):=by
 intro pins s σ H Q I h
 exact UnaryOp_ (thn (ha pins s σ H _ I h) fun v s1 ⟨x,H1,I1,r1,q1⟩=>ho pins s1 σ H1 x v Q I1 r1 q1)
theorem opI {f:Value→Value→Sem Value} {C:Int→Int→Prop} {g:Int→Int→Int}
  (rule:∀ (i j:Int) (t u:Tok) (s:Shared) (Q:Value→Shared→Prop) (E:Value→Shared→Prop),C i j→Q (.int (g i j) s.toks) { s with toks:=s.toks + 1 }→wpAny (model X.prog X.w) X.A (f (.int i t) (.int j u)) Q E s) :
  OpR X f (rI C fun i j=>.int (g i j)):=by
 intro pins s σ H x y v u Q I rx ry h
 obtain ⟨i,j,rfl,rfl,hc,q⟩:=h
 obtain ⟨t,rfl⟩:=rx
 obtain ⟨t',rfl⟩:=ry
 exact rule i j t t' s _ _ hc ⟨.int (g i j),H,I.tok _,⟨_,rfl⟩,q⟩
theorem opI0 {f:Value→Value→Sem Value} {g:Int→Int→Int}
  (rule:∀ (i j:Int) (t u:Tok) (s:Shared) (Q:Value→Shared→Prop) (E:Value→Shared→Prop),Q (.int (g i j) s.toks) { s with toks:=s.toks + 1 }→wpAny (model X.prog X.w) X.A (f (.int i t) (.int j u)) Q E s) :
  OpR X f (rI0 fun i j=>.int (g i j)):=by
 intro pins s σ H x y v u Q I rx ry h
 obtain ⟨i,j,rfl,rfl,q⟩:=h
 obtain ⟨t,rfl⟩:=rx
 obtain ⟨t',rfl⟩:=ry
 exact rule i j t t' s _ _ ⟨.int (g i j),H,I.tok _,⟨_,rfl⟩,q⟩
theorem opB0 {f:Value→Value→Sem Value} {g:Int→Int→Bool}
  (rule:∀ (i j:Int) (t u:Tok) (s:Shared) (Q:Value→Shared→Prop) (E:Value→Shared→Prop),Q (.bool (g i j)) s→wpAny (model X.prog X.w) X.A (f (.int i t) (.int j u)) Q E s) :
  OpR X f (rI0 fun i j=>.bl (g i j)):=by
 intro pins s σ H x y v u Q I rx ry h
 obtain ⟨i,j,rfl,rfl,q⟩:=h
 obtain ⟨t,rfl⟩:=rx
 obtain ⟨t',rfl⟩:=ry
 exact rule i j t t' s _ _ ⟨.bl (g i j),H,I,rfl,q⟩
def CPow (i j:Int):Prop:=0 ≤ j∧j ≤ 1000000∧i.natAbs < 2 ^ 64
def CMul (i j:Int):Prop:=(-(2 ^ 64) < i∧i < 2 ^ 64)∨(-(2 ^ 64) < j∧j < 2 ^ 64)
theorem CMul.ok {i j:Int} (h:CMul i j):IntMulOk i j:=by
 rcases h with ⟨h1,h2⟩ | ⟨h1,h2⟩
 ·exact .of_left (intBits_le_64 h1 h2)
 ·exact .of_right (intBits_le_64 h1 h2)
theorem op_add:OpR X (binaryOp .Add) (rI0 fun i j=>.int (i + j)):=opI0 fun _ _ _ _ _ _ _ q=>add_int q
theorem op_sub:OpR X (binaryOp .Sub) (rI0 fun i j=>.int (i - j)):=opI0 fun _ _ _ _ _ _ _ q=>sub_int q
theorem op_mul:OpR X (binaryOp .Mult) (rI CMul fun i j=>.int (i * j)):=opI fun _ _ _ _ _ _ _ hc q=>mul_int q hc.ok
theorem op_mod:OpR X (binaryOp .Mod) (rI (fun _ j=>0 < j) fun i j=>.int (i % j)):=opI fun i j _ _ _ _ _ hc q=>by
 have h1:(0:Int) < j:=hc
 exact mod_int' (by omega) (by rw [Int.fmod_eq_emod_of_nonneg i (by omega)]; exact q)
theorem op_pow:OpR X (binaryOp .Pow) (rI CPow fun i j=>.int (i ^ j.toNat)):=opI fun _ _ _ _ _ _ _ hc q=>pow_int_small hc.1 hc.2.1 hc.2.2 q
theorem unI {f:Value→Sem Value} {g:Int→Int}
  (rule:∀ (i:Int) (t:Tok) (s:Shared) (Q:Value→Shared→Prop) (E:Value→Shared→Prop),Q (.int (g i) s.toks) { s with toks:=s.toks + 1 }→wpAny (model X.prog X.w) X.A (f (.int i t)) Q E s) :
  UnR X f (rU fun i=>.int (g i)):=by
 intro pins s σ H x v Q I rx h
 obtain ⟨i,rfl,q⟩:=h
 obtain ⟨t,rfl⟩:=rx
 exact rule i t s _ _ ⟨.int (g i),H,I.tok _,⟨_,rfl⟩,q⟩
theorem un_neg:UnR X (unaryOp .USub) (rU fun i=>.int (-i)):=unI fun _ _ _ _ _ q=>neg_int q
end
def scal:V→V→Bool
 | .non,.non=>true | .non,.int _=>true | .int _,.non=>true | .non,.bl _=>true | .bl _,.non=>true | .non,.str _=>true | .str _,.non=>true
 | .int _,.int _=>true | .bl _,.bl _=>true | .str _,.str _=>true | .byt _,.byt _=>true
 | .int _,.str _=>true | .str _,.int _=>true | .bl _,.str _=>true | .str _,.bl _=>true
 | _,_=>false
def rEq:R2:=fun x y H Q=>scal x y=true∧Q (.bl (decide (x=y))) H
def rNe:R2:=fun x y H Q=>scal x y=true∧Q (.bl (!decide (x=y))) H
theorem dec_int {i j:Int}:decide (V.int i=V.int j)=(i == j):=by
 rw [Bool.eq_iff_iff]
 simp
theorem dec_bl {i j:Bool}:decide (V.bl i=V.bl j)=(i == j):=by
 rw [Bool.eq_iff_iff]
 simp
theorem dec_str {i j:Str}:decide (V.str i=V.str j)=(i == j):=by
 rw [Bool.eq_iff_iff]
 simp
theorem dec_byt {i j:Array UInt8}:decide (V.byt i=V.byt j)=(i.toList == j.toList):=by
 rw [Bool.eq_iff_iff]
 cases i
 cases j
 simp
section
variable {X:Cx} {a b c:Expr} {ta tb tc:TE} {pos:Pos}
theorem fin_bl {pins:List (Addr×Obj)} {σ:St} {H:Hp} {s:Shared} {Q:VK} {k k':Bool} (I:Inv X pins σ H s) (q:Q (.bl k) H) (e:k=k'):EP X pins σ Q (.bool k') s:=by
 subst e
 exact ⟨.bl k,H,I,rfl,q⟩
theorem op_eq:OpR X (compareOp .Eq) rEq:=by
 intro pins s σ H x y v u Q I rx ry h
 obtain ⟨hs,q⟩:=h
 cases x with
 | non=>
  cases rx
  cases y with
  | non=>cases ry; exact PySem.EqNone.eq_none_none (fin_bl I q (by simp))
  | bl j=>cases ry; exact PySem.EqNone.eq_none_bool (fin_bl I q (by simp))
  | int j=>obtain ⟨t',rfl⟩:=ry; exact PySem.EqNone.eq_none_int (fin_bl I q (by simp))
  | str j=>obtain ⟨t',rfl⟩:=ry; exact PySem.EqNone.eq_none_str (fin_bl I q (by simp))
  | _=>exact absurd (show false=true from hs) Bool.false_ne_true
 | bl i=>
  cases rx
  cases y with
  | non=>cases ry; exact PySem.EqNone.eq_bool_none (fin_bl I q (by simp))
  | bl j=>cases ry; exact eq_bool (fin_bl I q dec_bl)
  | str j=>obtain ⟨t',rfl⟩:=ry; exact PySem.EqMixed.eq_bool_str (fin_bl I q (by simp))
  | _=>exact absurd (show false=true from hs) Bool.false_ne_true
 | int i=>
  obtain ⟨t,rfl⟩:=rx
  cases y with
  | non=>cases ry; exact PySem.EqNone.eq_int_none (fin_bl I q (by simp))
  | int j=>obtain ⟨t',rfl⟩:=ry; exact eq_int (fin_bl I q dec_int)
  | str j=>obtain ⟨t',rfl⟩:=ry; exact PySem.EqMixed.eq_int_str (fin_bl I q (by simp))
  | _=>exact absurd (show false=true from hs) Bool.false_ne_true
 | str i=>
  obtain ⟨t,rfl⟩:=rx
  cases y with
  | non=>cases ry; exact PySem.EqNone.eq_str_none (fin_bl I q (by simp))
  | bl j=>cases ry; exact PySem.EqMixed.eq_str_bool (fin_bl I q (by simp))
  | int j=>obtain ⟨t',rfl⟩:=ry; exact PySem.EqMixed.eq_str_int (fin_bl I q (by simp))
  | str j=>obtain ⟨t',rfl⟩:=ry; exact eq_str (fin_bl I q dec_str)
  | _=>exact absurd (show false=true from hs) Bool.false_ne_true
 | byt i=>
  obtain ⟨t,rfl⟩:=rx
  cases y with
  | byt j=>obtain ⟨t',rfl⟩:=ry; exact PySem.W.eq_bytes (fin_bl I q dec_byt)
  | _=>exact absurd (show false=true from hs) Bool.false_ne_true
 | _=>cases y <;> exact absurd (show false=true from hs) Bool.false_ne_true
theorem op_ne:OpR X (compareOp .NotEq) rNe:=by
 intro pins s σ H x y v u Q I rx ry h
 obtain ⟨hs,q⟩:=h
 cases x with
 | non=>
  cases rx
  cases y with
  | non=>cases ry; exact PySem.EqNone.ne_none_none (fin_bl I q (by simp))
  | bl j=>cases ry; exact PySem.EqNone.ne_none_bool (fin_bl I q (by simp))
  | int j=>obtain ⟨t',rfl⟩:=ry; exact PySem.EqNone.ne_none_int (fin_bl I q (by simp))
  | str j=>obtain ⟨t',rfl⟩:=ry; exact PySem.EqNone.ne_none_str (fin_bl I q (by simp))
  | _=>exact absurd (show false=true from hs) Bool.false_ne_true
 | bl i=>
  cases rx
  cases y with
  | non=>cases ry; exact PySem.EqNone.ne_bool_none (fin_bl I q (by simp))
  | bl j=>cases ry; exact ne_bool (fin_bl I q (congrArg not dec_bl))
  | str j=>obtain ⟨t',rfl⟩:=ry; exact PySem.EqMixed.ne_bool_str (fin_bl I q (by simp))
  | _=>exact absurd (show false=true from hs) Bool.false_ne_true
 | int i=>
  obtain ⟨t,rfl⟩:=rx
  cases y with
  | non=>cases ry; exact PySem.EqNone.ne_int_none (fin_bl I q (by simp))
  | int j=>obtain ⟨t',rfl⟩:=ry; exact ne_int (fin_bl I q (congrArg not dec_int))
  | str j=>obtain ⟨t',rfl⟩:=ry; exact PySem.EqMixed.ne_int_str (fin_bl I q (by simp))
  | _=>exact absurd (show false=true from hs) Bool.false_ne_true
 | str i=>
  obtain ⟨t,rfl⟩:=rx
  cases y with
  | non=>cases ry; exact PySem.EqNone.ne_str_none (fin_bl I q (by simp))
  | bl j=>cases ry; exact PySem.EqMixed.ne_str_bool (fin_bl I q (by simp))
  | int j=>obtain ⟨t',rfl⟩:=ry; exact PySem.EqMixed.ne_str_int (fin_bl I q (by simp))
  | str j=>obtain ⟨t',rfl⟩:=ry; exact ne_str (fin_bl I q (congrArg not dec_str))
  | _=>exact absurd (show false=true from hs) Bool.false_ne_true
 | byt i=>
  obtain ⟨t,rfl⟩:=rx
  cases y with
  | byt j=>obtain ⟨t',rfl⟩:=ry; exact PySem.W.ne_bytes (fin_bl I q (congrArg not dec_byt))
  | _=>exact absurd (show false=true from hs) Bool.false_ne_true
 | _=>cases y <;> exact absurd (show false=true from hs) Bool.false_ne_true
theorem op_lt:OpR X (compareOp .Lt) (rI0 fun i j=>.bl (decide (i < j))):=opB0 fun _ _ _ _ _ _ _ q=>lt_int q
theorem op_le:OpR X (compareOp .LtE) (rI0 fun i j=>.bl (decide (i ≤ j))):=opB0 fun _ _ _ _ _ _ _ q=>le_int q
theorem op_gt:OpR X (compareOp .Gt) (rI0 fun i j=>.bl (decide (j < i))):=opB0 fun _ _ _ _ _ _ _ q=>gt_int q
theorem op_ge:OpR X (compareOp .GtE) (rI0 fun i j=>.bl (decide (j ≤ i))):=opB0 fun _ _ _ _ _ _ _ q=>ge_int q
theorem op_in_str:OpR X (compareOp .In) (fun x y H Q=>∃ i j,x=.str i∧y=.str j∧Q (.bl (!(Builtin.Str.occurrences j i 0 j.length 1).isEmpty)) H):=by
 intro pins s σ H x y v u Q I rx ry h
 obtain ⟨i,j,rfl,rfl,q⟩:=h
 obtain ⟨t,rfl⟩:=rx
 obtain ⟨t',rfl⟩:=ry
 exact in_str (fin_bl I q rfl)
theorem op_isN:OpR X (compareOp .Is) (fun x y H Q=>y=.non∧Q (.bl (decide (x=.non))) H):=by
 intro pins s σ H x y v u Q I rx ry h
 obtain ⟨rfl,q⟩:=h
 cases ry
 refine is_none_gen (fin_bl I q ?_)
 cases x <;> first
  | (cases rx; rfl)
  | (obtain ⟨t,rfl⟩:=rx; rfl)
theorem nomark (b:Expr) {op:CmpOp} (h:op≠.In:=by decide) (h2:op≠.NotIn:=by decide):behindInMarks op b=false:=by
 have e1:(op == CmpOp.In)=false:=by cases op <;> first | rfl | exact absurd rfl h
 have e2:(op == CmpOp.NotIn)=false:=by cases op <;> first | rfl | exact absurd rfl h2
 cases b <;> simp [behindInMarks,e1,e2]
theorem pe_cmpR {op:CmpOp} {r:R2} (ho:OpR X (compareOp op) r) (ha:PE X a ta) (hb:PE X b tb) (hm:behindInMarks op b=false):PE X (.Compare a [op] [b] pos) (tOp r ta tb):=by
 intro pins s σ H Q I h
 exact wpAny_Compare1 (binT ha hb I h fun v u s2 x y H2 I2 rx ry q=>ho pins s2 σ H2 x y v u Q I2 rx ry q) hm
def tTest (t:TE):TT:=fun σ H Q=>t σ H fun x H'=>∃ k,x=.bl k∧Q k H'
theorem pt_cmpR {op:CmpOp} {r:R2} (ho:OpR X (compareOp op) r) (ha:PE X a ta) (hb:PE X b tb) (hm:behindInMarks op b=false):PT X (.Compare a [op] [b] pos) (tTest (tOp r ta tb)):=by
 intro pins s σ H Q I h
 refine wpAny_isTrue_Compare1 (thn (ha pins s σ H _ I h) fun v s1 ⟨x,H1,I1,r1,q1⟩=>thn (hb pins s1 σ H1 _ I1 q1) fun u s2 ⟨y,H2,I2,r2,q2⟩=>
  thn (ho pins s2 σ H2 x y v u _ I2 r1 r2 q2) fun c s3 ⟨z,H3,I3,r3,k,e,q3⟩=>?_) hm
 subst e
 cases r3
 exact wpAny_truthy_bool ⟨H3,I3,q3⟩
def tChain (r r':R2) (ta tb tc:TE):TE:=fun σ H Q=>ta σ H fun x H1=>tb σ H1 fun y H2=>r x y H2 fun z H3=>∃ k,z=.bl k ∧
 (if k=true then tc σ H3 fun w' H4=>r' y w' H4 Q else Q (.bl false) H3)
theorem pe_chain {op op':CmpOp} {r r':R2} (ho:OpR X (compareOp op) r) (ho':OpR X (compareOp op') r') (ha:PE X a ta) (hb:PE X b tb) (hc:PE X c tc)
  (hm:lastMarks [op,op'] [b,c]=false:=by with_unfolding_all rfl):PE X (.Compare a [op,op'] [b,c] pos) (tChain r r' ta tb tc):=by
 intro pins s σ H Q I h
 refine Compare_chain (thn (ha pins s σ H _ I h) fun v s1 ⟨x,H1,I1,r1,q1⟩=>chain_link (thn (hb pins s1 σ H1 _ I1 q1) fun u s2 ⟨y,H2,I2,r2,q2⟩=>
  thn (ho pins s2 σ H2 x y v u _ I2 r1 r2 q2) fun d s3 ⟨z,H3,I3,r3,k,e,q3⟩=>?_)) hm
 subst e
 cases r3
 refine wpAny_truthy_bool ?_
 cases k with
 | false=>exact ite_ff ⟨.bl false,H3,I3,rfl,q3⟩
 | true=>exact ite_tt (chain_last (thn (hc pins s3 σ H3 _ I3 q3) fun w' s4 ⟨z',H4,I4,r4,q4⟩=>ho' pins s4 σ H4 y z' u w' Q I4 r2 r4 q4))
theorem line63:(sizeLine:Nat) < 2 ^ 63:=by rw [sizeLine_eq]; decide
theorem str_nil {x:Str} (h:(x.length == 0)=true):x=⟨#[]⟩:=by
 obtain ⟨c⟩:=x
 have:c.size=0:=eq_of_beq h
 rw [Array.eq_empty_of_size_eq_zero this]
theorem add_made {pins:List (Addr×Obj)} {s:Shared} {σ:St} {H:Hp} {Q:VK} {i j:Str} {t t':PTok} (I:Inv X pins σ H s) (hz:i.length + j.length ≤ sizeLine) (q:Q (.str (i++j)) H) :
  (if i.length == 0 then Made.val (.str j t'.1) else if j.length == 0 then Made.val (.str i t.1) else Made.str (i++j)).post (EP X pins σ Q) s:=by
 split
 ·rename_i h
  refine ⟨.str (i++j),H,I,⟨t',?_⟩,q⟩
  rw [str_nil h]
  exact congrArg (fun x=>Value.str x t'.1) (Str.empty_append j).symm
 ·split
  ·rename_i h
   refine ⟨.str (i++j),H,I,⟨t,?_⟩,q⟩
   rw [str_nil h]
   exact congrArg (fun x=>Value.str x t.1) (Str.append_empty i).symm
  ·exact ⟨by rw [Str.length_append]; exact hz,.str (i++j),H,I.tok _,I.st,q⟩
theorem op_add_str:OpR X (binaryOp .Add) (fun x y H Q=>∃ i j,x=.str i∧y=.str j∧i.length + j.length ≤ sizeLine∧Q (.str (i++j)) H):=by
 intro pins s σ H x y v u Q I rx ry h
 obtain ⟨i,j,rfl,rfl,hz,q⟩:=h
 obtain ⟨t,rfl⟩:=rx
 obtain ⟨t',rfl⟩:=ry
 exact PySem.P.add_str (add_made I hz q)
theorem vals1 {x:V} {us:List Value} (r:Vals [x] us):∃ u,us=[u]∧RelV x u:=by
 cases r with
 | cons r1 r2=>cases r2; exact ⟨_,rfl,r1⟩
theorem vals2 {x y:V} {us:List Value} (r:Vals [x,y] us):∃ u w',us=[u,w']∧RelV x u∧RelV y w':=by
 cases r with
 | cons r1 r2=>
  cases r2 with
  | cons r3 r4=>cases r4; exact ⟨_,_,rfl,r1,r3⟩
theorem call_max2 (hc:X.calm=true):CallR X (.builtin "max") (fun xs H Q=>∃ i j,xs=[.int i,.int j]∧Q (.int (if j > i then j else i)) H):=by
 intro pins s σ H xs us Q I r h
 obtain ⟨i,j,rfl,q⟩:=h
 obtain ⟨u,w',rfl,⟨t,rfl⟩,⟨t',rfl⟩⟩:=vals2 r
 refine upQ (max_two_ints (I.ok.hd hc) fun h' tk k (hup:s.toks ≤ tk)=>⟨_,H,I.kept k,?_,q⟩)
 by_cases hj:j > i
 ·rw [if_pos hj,if_pos hj]; exact ⟨_,rfl⟩
 ·rw [if_neg hj,if_neg hj]; exact ⟨_,rfl⟩
theorem call_int1:CallR X (.type "int") (fun xs H Q=>(∃ i,xs=[.int i]∧Q (.int i) H)∨∃ k,xs=[.bl k]∧Q (.int (if k then 1 else 0)) H):=by
 intro pins s σ H xs us Q I r h
 rcases h with ⟨i,rfl,q⟩ | ⟨k,rfl,q⟩
 ·obtain ⟨u,rfl,t,rfl⟩:=vals1 r
  exact call_int_int ⟨.int i,H,I,⟨_,rfl⟩,q⟩
 ·obtain ⟨u,rfl,r1⟩:=vals1 r
  cases r1
  exact call_int_bool ⟨.int (if k then 1 else 0),H,I.tok _,⟨_,rfl⟩,q⟩
theorem call_str_int:CallR X (.type "str") (fun xs H Q=>∃ i,xs=[.int i]∧i.natAbs.log2 < 1920∧Q (.str (toString i)) H):=by
 intro pins s σ H xs us Q I r h
 obtain ⟨i,rfl,hz,q⟩:=h
 obtain ⟨u,rfl,t,rfl⟩:=vals1 r
 exact PySem.P.str_of_int hz ⟨.str _,H,I.tok _,I.st,q⟩
end
end L2
namespace L2
open PySem PySem.Spec PyProof.Rows
structure ObjM (h:Heap) (x dx C:Addr) (mA:Str→Option Value):Prop where
 obj:h.get? x=some (PySem.W.instObj C dx)
 ns:h.Ns1 dx mA
 ne:dx≠x
theorem lookIn_ns {h:Heap} {dx:Addr} {mA:Str→Option Value} (n:h.Ns1 dx mA):∃ od,h.get? dx=some od∧∀ name,PySem.W.lookIn name od=some (mA name):=by
 obtain ⟨o,es,ep,ho,hd,hk,_,hm⟩:=n
 refine ⟨o,ho,fun name=>?_⟩
 have e:=hm name
 unfold nsFind findBy at e
 rw [← Array.find?_toList] at e
 unfold PySem.W.lookIn
 rw [hd]
 dsimp only
 split
 ·rename_i y q
  rw [q] at e
  exact congrArg some e
 ·rename_i q
  rw [q] at e
  have a:es.toList.any (·.refKey)=false:=by
   rw [List.any_eq_false]
   intro y hy
   obtain ⟨z,t,hkey⟩:=hk y (Array.mem_toList_iff.mp hy)
   simp [DictEntry.refKey,hkey]
  have a':¬ es.toList.any (·.refKey)=true:=by rw [a]; exact Bool.false_ne_true
  rw [if_neg a']
  exact congrArg some e
theorem ObjM.look {h:Heap} {x dx C:Addr} {mA:Str→Option Value} (I:ObjM h x dx C mA):∃ od,PySem.W.InstAt h x (PySem.W.instObj C dx) C (some od)∧∀ name,PySem.W.lookIn name od=some (mA name):=
 let ⟨od,ho,hl⟩:=lookIn_ns I.ns
 ⟨od,⟨I.obj,rfl,rfl,ho⟩,hl⟩
section
variable {prog:Program} {w:World} {A:Around} {E:Value→Shared→Prop} {s:Shared} {K:PySem.W.Frag} {x dx C f:Addr} {mA:Str→Option Value} {name:Str} {v:Value}
end
theorem RelO.some_of {v:V} {o:Option Value} (r:RelO (some v) o):∃ u,o=some u∧RelV v u:=by
 cases o with
 | none=>exact (show False from r).elim
 | some u=>exact ⟨u,rfl,r⟩
theorem handed_of {v:V} {u:Value} (r:RelV v u):PySem.W.handedIn u=true:=by
 cases v with
 | non=>cases (show u=Value.none from r); rfl
 | bl b=>cases (show u=Value.bool b from r); rfl
 | int i=>obtain ⟨t,e⟩:=(show ∃ t,u=Value.int i t from r); cases e; rfl
 | str x=>obtain ⟨t,e⟩:=(show ∃ t:PTok,u=Value.str x t.1 from r); cases e; rfl
 | byt b=>obtain ⟨t,e⟩:=(show ∃ t,u=Value.bytes b t from r); cases e; rfl
 | flt b=>obtain ⟨t,e⟩:=(show ∃ t,u=Value.float b t from r); cases e; rfl
 | ref a=>cases (show u=Value.ref a from r); rfl
 | ty n=>cases (show u=Value.type n from r); rfl
section
variable {P:Program} {w:World} {H H':Hp} {h h':Heap} {a C dx:Addr} {fs fs':List (Str×V)}
theorem ins_get (hok:HOk P w H h) (e:H a=some (.ins C dx fs)):∃ mA,ObjM h a dx C mA∧(∀ f,RelO (fs.lookup f) (mA f))∧PySem.Within mA (fs.map (·.1))∧fs.length ≤ 1000∧H dx=some (.own a):=by
 obtain ⟨d,z,ne,ob,mA,n,r,q⟩:=(show ObjOk P w H h a (.ins C dx fs) from hok a _ e)
 exact ⟨mA,⟨ob,n,ne⟩,r,q,z,d⟩
end
structure Cls (K:PySem.W.Frag) (C:Addr):Prop where
 pg:PySem.W.plainGet K C Str.empty=true
 hd:PySem.W.hasDictIn K C=true
 po:PySem.W.plainOver K C=true
 sa:PySem.W.findIn K (.ref C) "__setattr__"=some (some (.builtin "object.__setattr__"))
theorem Cls.get {K:PySem.W.Frag} {C:Addr} (c:Cls K C) (f:Str):PySem.W.plainGet K C f=true:=c.pg
def NoAttr (K:PySem.W.Frag) (C:Addr) (f:Str):Prop:=PySem.W.findIn K (.ref C) f=some none
section
variable {X:Cx} {pins:List (Addr×Obj)} {σ:St} {H:Hp} {s:Shared} {a C dx:Addr} {fs:List (Str×V)} {f:Str} {v:V} {A:Around} {E:Value→Shared→Prop}
theorem attr_of {prog:Program} {w:World} {env:Env} {e:Expr} {f:Str} {pos:Pos} {s:Shared} {Q:Value→Shared→Prop} (hb:attributeBase e f env (eval e env)=eval e env)
  (h:wpAny (model prog w) A (eval e env) (fun o s₁=>wpAny (model prog w) A (getAttr o f true) Q E s₁) E s):wpAny (model prog w) A (eval (.Attribute e f pos) env) Q E s:=
 Attribute_any_ h (by rw [arm_eval_Attribute,hb])
end
section
variable {X:Cx} {o e value:Expr} {f:Str} {pos pos' tpos:Pos} {ta tv:TE}
end
section
variable {X:Cx} {pins:List (Addr×Obj)} {σ:St} {H:Hp} {s:Shared} {A:Around} {E:Value→Shared→Prop} {Q:Value→Shared→Prop} {c:Value} {b:Bool}
inductive TyOf (K:PySem.W.Frag) (H:Hp):V→Value→Prop where
 | non:TyOf K H .non (.type "NoneType")
 | bl (x:Bool):TyOf K H (.bl x) (.type "bool")
 | int (i:Int):TyOf K H (.int i) (.type "int")
 | str (x:Str):TyOf K H (.str x) (.type "str")
 | flt (x:UInt64):TyOf K H (.flt x) (.type "float")
 | lst {a:Addr} {xs:List V} (e:H a=some (.lst xs)):TyOf K H (.ref a) (.type "list")
 | frz {a:Addr} {o:Obj} {xs:List V} (e:H a=some (.frz o (.lst xs))):TyOf K H (.ref a) (.type "list")
 | tup {a:Addr} {xs:List V} (e:H a=some (.tup xs)):TyOf K H (.ref a) (.type "tuple")
 | dK {a:Addr} {kvs:List (Key×V)} (e:H a=some (.dK kvs)):TyOf K H (.ref a) (.type "dict")
 | dT {a:Addr} {kvs:List (List Key×V)} (e:H a=some (.dT kvs)):TyOf K H (.ref a) (.type "dict")
 | ins {a C dx:Addr} {fs:List (Str×V)} (e:H a=some (.ins C dx fs)) (cl:Cls K C) (ha:PySem.W.findIn K (.ref C) "__class__"=some (some (.builtin "object.__class__")))
   (hn:PySem.W.specialIn K (.builtin "object.__class__") "__get__"=some (some (.builtin "getset_descriptor.__get__"))) (htk:PySem.W.takesIn K (.builtin "object.__class__")=some true)
   (hm:PySem.W.mroIn K C (.type "object")=some true):TyOf K H (.ref a) (.ref C)
theorem isinst_ok {x:V} {u t:Value} (I:Inv X pins σ H s) (rx:RelV x u) (ty:TyOf X.K H x t) (e:PySem.W.kitOne X.K t c=some b) (h:∀ tk,Q (.bool b) { s with toks:=tk }) :
  wpAny (model X.prog X.w) A (call (.builtin "isinstance") [u,c]) Q E s:=by
 cases ty with
 | non=>cases (show u=Value.none from rx); exact PySem.W.kia_one PySem.W.kitx_none I.kIn True.intro e (fun z=>nomatch z) h
 | bl y=>cases (show u=Value.bool y from rx); exact PySem.W.kia_one PySem.W.kitx_bool I.kIn True.intro e (fun z=>nomatch z) h
 | int i=>obtain ⟨t,q⟩:=(show ∃ t,u=Value.int i t from rx); cases q; exact PySem.W.kia_one PySem.W.kitx_int I.kIn True.intro e (fun z=>nomatch z) h
 | str y=>obtain ⟨t,q⟩:=(show ∃ t:PTok,u=Value.str y t.1 from rx); cases q; exact PySem.W.kia_one PySem.W.kitx_str I.kIn True.intro e (fun z=>nomatch z) h
 | flt y=>obtain ⟨t,q⟩:=(show ∃ t,u=Value.float y t from rx); cases q; exact PySem.W.kia_one PySem.W.kitx_float I.kIn True.intro e (fun z=>nomatch z) h
 | @lst a xs ea=>
  cases (show u=Value.ref a from rx)
  obtain ⟨_,_,n,_,h1⟩:=(show ObjOk X.prog X.w H s.heap a (.lst xs) from I.hok a _ ea)
  exact PySem.W.kia_one PySem.W.kitx_list I.kIn ⟨_,h1,rfl⟩ e (fun z=>nomatch z) h
 | @frz a ob xs ea=>
  cases (show u=Value.ref a from rx)
  obtain ⟨_,_,_,n,_,h1⟩:=(show ObjOk X.prog X.w H s.heap a (.frz ob (.lst xs)) from I.hok a _ ea)
  exact PySem.W.kia_one PySem.W.kitx_list I.kIn ⟨_,h1,rfl⟩ e (fun z=>nomatch z) h
 | @tup a xs ea=>
  cases (show u=Value.ref a from rx)
  obtain ⟨_,_,_,p⟩:=(show ObjOk X.prog X.w H s.heap a (.tup xs) from I.hok a _ ea)
  obtain ⟨o,h1,h2,_⟩:=p
  exact PySem.W.kia_one PySem.W.kitx_tuple I.kIn ⟨o,h1,h2⟩ e (fun z=>nomatch z) h
 | @dK a kvs ea=>
  cases (show u=Value.ref a from rx)
  obtain ⟨_,_,vs,_,p⟩:=(show ObjOk X.prog X.w H s.heap a (.dK kvs) from I.hok a _ ea)
  obtain ⟨o,es,ep,h1,h2,_⟩:=p
  exact PySem.W.kia_one PySem.W.kitx_dict I.kIn ⟨o,h1,h2.1⟩ e (fun z=>nomatch z) h
 | @dT a kvs ea=>
  cases (show u=Value.ref a from rx)
  obtain ⟨_,_,xs,_,o,es,ep,h1,h2,_⟩:=(show ObjOk X.prog X.w H s.heap a (.dT kvs) from I.hok a _ ea)
  exact PySem.W.kia_one PySem.W.kitx_dict I.kIn ⟨o,h1,h2.1⟩ e (fun z=>nomatch z) h
 | @ins a C dx fs ea cl ha hn htk hm=>
  cases (show u=Value.ref a from rx)
  obtain ⟨mA,O,_⟩:=ins_get I.hok ea
  obtain ⟨od,J,_⟩:=O.look
  exact PySem.W.kia_one (PySem.W.kitx_own (cl.get _) cl.hd ha hn htk hm) I.kIn J e (fun z=>nomatch z) h
end
end L2
namespace L2
open PySem PySem.Spec PyProof.Rows
structure Room (k:Nat) (A:Around):Prop where
 hd:(A.handled,A.guards)=(none,some [])
 dp:A.depth + 3 * k + 5 < recursionLimit
 un:A.units + 16 * k + 200 < cLine
theorem Room.mono {j k:Nat} {A:Around} (r:Room k A) (h:j ≤ k):Room j A:=⟨r.hd,by have:=r.dp; omega,by have:=r.un; omega⟩
theorem Room.deeper {k:Nat} {A:Around} (r:Room (k + 1) A) (env:Env):Room k (A.deeper env):=
 ⟨r.hd,by have:=r.dp; show A.depth + 1 + 3 * k + 5 < _; omega,by have:=r.un; show A.units + 3 + 16 * k + 200 < _; omega⟩
theorem make_depth {A:Around} {C:Addr} {us:List Value} {kw:List (Str×Value)}:(A.under (.builtin "type.__call__" ⟨.ref C :: us,kw⟩)).depth=A.depth + 1:=by
 first | rfl | simp [Around.under,Code.weight,Code.isCreation,Code.isGuard,Code.isCaller,Code.frames,Code.isFrame,guardIds]
theorem make_units {A:Around} {C:Addr} {us:List Value} {kw:List (Str×Value)}:(A.under (.builtin "type.__call__" ⟨.ref C :: us,kw⟩)).units=A.units + 1:=by
 first | rfl | simp [Around.under,Code.cUnits,Code.frames,Code.isFrame]
theorem make_guards {A:Around} {C:Addr} {us:List Value} {kw:List (Str×Value)}:(A.under (.builtin "type.__call__" ⟨.ref C :: us,kw⟩)).guards=A.guards:=by
 first | rfl | (cases h:A.guards <;> simp [Around.under,Code.guards,Code.isGuard,guardIds,pushGuards,h])
theorem Room.make {k:Nat} {A:Around} (r:Room (k + 1) A) (C:Addr) (us:List Value) (kw:List (Str×Value)):Room k (A.under (.builtin "type.__call__" ⟨.ref C :: us,kw⟩)):=
 ⟨by show (A.handled,_)=_; rw [make_guards]; exact r.hd,by have:=r.dp; rw [make_depth]; omega,by have:=r.un; rw [make_units]; omega⟩
theorem Room.depth {k:Nat} {A:Around} (r:Room k A):A.depth < recursionLimit:=by have:=r.dp; omega
theorem Room.units {k:Nat} {A:Around} (r:Room k A):A.units + 64 < cLine:=by have:=r.un; omega
def tNil:TA:=fun _ H Q=>Q [] H
def tCons (ta:TE) (tr:TA):TA:=fun σ H Q=>ta σ H fun x H1=>tr σ H1 fun xs H2=>Q (x :: xs) H2
section
variable {X:Cx} {e:Expr} {es:List Expr} {te:TE} {t:TA} {pos:Pos}
theorem pa_nil:PA X [] tNil:=fun _ _ _ _ H Q I h=>Calls.spliced_nil ⟨[],H,I,.nil,h⟩
theorem pa_cons (ha:PE X e te) (hr:PA X es t) (hs:starEach (e :: es) X.env=(false,eval e X.env) :: starEach es X.env:=by rfl):PA X (e :: es) (tCons te t):=by
 intro pos pins s σ H Q I h
 rw [hs]
 show wpAny _ _ (spliced ((false,eval e X.env) :: backTo pos (starEach es X.env))) _ _ s
 refine Calls.spliced_cons (thn (ha pins s σ H _ I h) fun u s1 ⟨x,H1,I1,r1,q1⟩=>?_)
 exact thn (hr pos pins s1 σ H1 _ I1 q1) fun us s2 ⟨xs,H2,I2,r2,q2⟩=>⟨x :: xs,H2,I2,.cons r1 r2,q2⟩
def tTup (t:TA):TE:=fun σ H Q=>t σ H fun xs H1=>xs.length ≤ sizeLine∧∀ p,H1 p=none→Q (.ref p) (upd H1 p (.tup xs))
def tLst (t:TA):TE:=fun σ H Q=>t σ H fun xs H1=>xs.length ≤ sizeLine∧∀ p,H1 p=none→Q (.ref p) (upd H1 p (.lst xs))
theorem pe_tup {x1} (h:PA X es t):PE X (.Tuple es x1 pos) (tTup t):=by
 intro pins s σ H Q I hq
 refine wpAny_Tuple_spliced (thn (h pos pins s σ H _ I hq) fun us s1 ⟨xs,H1,I1,r,z,q⟩=>⟨by rw [← r.length]; exact z,?_⟩)
 have hf:H1 s1.heap.objs.size=none:=I1.hok.fresh (Nat.le_refl _)
 refine ⟨.ref s1.heap.objs.size,upd H1 s1.heap.objs.size (.tup xs),I1.laid (t':=s1.toks) (fun b u e=>Heap.get?_push_of_some _ e) (Nat.le_refl _) ?_,rfl,q _ hf⟩
 exact ⟨z,us,r,⟨_,Heap.get?_push_size _ rfl,rfl,_,rfl,rfl⟩⟩
theorem pe_lst (h:PA X es t):PE X (.List es pos) (tLst t):=by
 intro pins s σ H Q I hq
 refine wpAny_List_spliced (thn (h pos pins s σ H _ I hq) fun us s1 ⟨xs,H1,I1,r,z,q⟩=>⟨by rw [← r.length]; exact z,?_⟩)
 have hf:H1 s1.heap.objs.size=none:=I1.hok.fresh (Nat.le_refl _)
 refine ⟨.ref s1.heap.objs.size,upd H1 s1.heap.objs.size (.lst xs),I1.laid (t':=s1.toks) (fun b u e=>Heap.get?_push_of_some _ e) (Nat.le_refl _) ?_,rfl,q _ hf⟩
 exact ⟨z,us,0,r,Heap.get?_push_size _ rfl⟩
end
abbrev Sp:=List V→Hp→VK→XK→Prop
abbrev CXT:=List Env→Hp→Shared→XK→Value→Shared→Prop
structure Env0 (P:Program) (w:World) (K:PySem.W.Frag) (mg:Str→Option Value) (base:Heap) (A:Around) (outer:List Env) (s:Shared) (H:Hp):Prop where
 frames:A.frames=some outer
 mod:Mod K mg base
 bs:∀ b o,base.get? b=some o→s.heap.get? b=some o∧H b=none
 bsz:base.objs.size ≤ s.heap.objs.size
 funs:s.heap.FunFrames base outer
 frf:∀ b∈frs outer,H b=none
 hok:HOk P w H s.heap
 bare:AllBare s.gens
def CE (outer:List Env) (P:Program) (w:World) (H:Hp) (s:Shared) (Q:VK) (u:Value) (s':Shared):Prop:=
 ∃ v H',s'.os=s.os∧AllBare s'.gens∧Un (frs outer) [] H H' s.heap s'.heap∧HOk P w H' s'.heap∧RelV v u∧Q v H'∧0 < s'.toks
def CR (CX:CXT) (outer:List Env) (P:Program) (w:World) (H:Hp) (s:Shared) (Q:VK) (E:XK) (r:Result) (s':Shared):Prop:=
 match r with
 | .ok (.ret u)=>CE outer P w H s Q u s'
 | .ok _=>False
 | .error e=>CX outer H s E e s'
def Tk1 (s:Shared) (fd:FuncData) (ps:List Str):Prop:=0 < s.toks∨(ps.head?.bind fun x=>fd.scope.names.lookup x)=some .local
structure FnOk (P:Program) (w:World) (K:PySem.W.Frag) (mg:Str→Option Value) (base:Heap) (CX:CXT) (k:Nat) (f:Addr) (fd:FuncData) (ps:List Str) (sp:Sp):Prop where
 len:∀ vs H Q E,sp vs H Q E→vs.length=ps.length
 run:∀ (A:Around) (outer:List Env) (s:Shared) (H:Hp) (args:Args) (us:List Value) (vs:List V) (Q:VK) (E:XK),Room k A→Env0 P w K mg base A outer s H→BindsTo s fd args (ps.zip us)∧Tk1 s fd ps→Vals vs us→sp vs H Q E →
  codeAny (model P w) A (.call (.ref f) args) (CR CX outer P w H s Q E) s
theorem FnOk.mono {P:Program} {w:World} {K:PySem.W.Frag} {mg:Str→Option Value} {base:Heap} {CX:CXT} {j k:Nat} {f:Addr} {fd:FuncData} {ps:List Str} {sp:Sp} (F:FnOk P w K mg base CX j f fd ps sp) (h:j ≤ k) :
  FnOk P w K mg base CX k f fd ps sp:=⟨F.len,fun A outer s H args us vs Q E hr=>F.run A outer s H args us vs Q E (hr.mono h)⟩
theorem FnOk.imp {P:Program} {w:World} {K:PySem.W.Frag} {mg:Str→Option Value} {base:Heap} {CX:CXT} {k:Nat} {f:Addr} {fd:FuncData} {ps:List Str} {sp sp':Sp} (F:FnOk P w K mg base CX k f fd ps sp)
  (h:∀ vs H Q E,sp' vs H Q E→sp vs H Q E):FnOk P w K mg base CX k f fd ps sp':=
 ⟨fun vs H Q E q=>F.len vs H Q E (h _ _ _ _ q),fun A outer s H args us vs Q E hr he hb hv hs=>F.run A outer s H args us vs Q E hr he hb hv (h _ _ _ _ hs)⟩
theorem Env0.make {P:Program} {w:World} {K:PySem.W.Frag} {mg:Str→Option Value} {base:Heap} {A:Around} {outer:List Env} {s:Shared} {H:Hp} (e:Env0 P w K mg base A outer s H) (C:Addr) (us:List Value) (kw:List (Str×Value)) :
  Env0 P w K mg base (A.under (.builtin "type.__call__" ⟨.ref C :: us,kw⟩)) outer s H:=⟨by first | exact e.frames | (simpa [Around.under,Code.envs,Code.isFrame,pushEnvs] using e.frames),e.mod,e.bs,e.bsz,e.funs,e.frf,e.hok,e.bare⟩
section
variable {X:Cx} {pins:List (Addr×Obj)} {σ:St} {H:Hp} {s s':Shared}
theorem Inv.env0 (I:Inv X pins σ H s):Env0 X.prog X.w X.K X.mg X.base X.A X.stack s H:=
 ⟨I.ok.frames,I.ok.mod,I.bs,Nat.le_trans I.ok.bsz I.sz,I.stack,I.stkFree,I.hok,I.bare⟩
theorem Inv.after {Q:VK} {u:Value} (I:Inv X pins σ H s) (h:CE X.stack X.prog X.w H s Q u s'):EP X pins σ Q u s':=by
 obtain ⟨v,H',os,bare,un,hok,r,q,ht⟩:=h
 obtain ⟨hh,g,d,t,os'⟩:=s'
 obtain rfl:os'=s.os:=os
 change 0 < t at ht
 exact ⟨v,H',I.call (h':=hh) (g':=g) (d':=d) (t':=t) (ch:=[]) un hok bare (fun b z=>absurd z (by simp)),r,q⟩
end
def tCall (sp:Sp) (dvs:List V) (E:XK) (t:TA):TE:=fun σ H Q=>t σ H fun vs H1=>sp (vs++dvs) H1 Q E
def Binds (K:PySem.W.Frag) (fd:FuncData) (ps:List Str) (ds:List Value):Prop:=
 ∀ (s:Shared) (us:List Value),K.In s.heap→(us++ds).length=ps.length→BindsTo s fd ⟨us,[]⟩ (ps.zip (us++ds))
theorem Binds.all {K:PySem.W.Frag} {fd:FuncData} {ps:List Str} (h:∀ us:List Value,us.length=ps.length→bindArgs fd ⟨us,[]⟩=pure (ps.zip us)):Binds K fd ps []:=fun s us _ hl=>by
 rw [List.append_nil] at hl ⊢
 exact .of_eq (h us hl)
def Passes (CX:CXT) (X:Cx) (E:XK):Prop:=∀ (pins:List (Addr×Obj)) (σ:St) (H:Hp) (s:Shared) (e:Value) (s':Shared),Inv X pins σ H s→CX X.stack H s E e s'→X.xe e s'
section
variable {X:Cx} {CX:CXT} {k:Nat} {f C:Addr} {fd:FuncData} {ps:List Str} {sp:Sp} {dvs:List V} {ds:List Value} {E:XK} {x m:Str} {p pos apos:Pos} {e o:Expr} {es:List Expr} {ta:TE} {t:TA}
theorem run_fn {pins:List (Addr×Obj)} {σ:St} {H:Hp} {s:Shared} {Q:VK} {us:List Value} {vs:List V} (F:FnOk X.prog X.w X.K X.mg X.base CX k f fd ps sp) (hr:Room k X.A) (hb:Binds X.K fd ps ds) (hd:Vals dvs ds) (hx:Passes CX X E)
  (I:Inv X pins σ H s) (r:Vals vs us) (h:sp (vs++dvs) H Q E):wpAny (model X.prog X.w) X.A (call (.ref f) us) (EP X pins σ Q) X.xe s:=by
 have r2:Vals (vs++dvs) (us++ds):=r.append hd
 have hl:(us++ds).length=ps.length:=by rw [← r2.length]; exact F.len _ _ _ _ h
 refine wpAny_call (codeAny_mono (F.run X.A X.stack s H ⟨us,[]⟩ (us++ds) (vs++dvs) Q E hr I.env0 ⟨hb s us I.kIn hl,.inl I.tk⟩ r2 h) fun r s' hq=>?_)
 cases r with
 | error e=>exact hx pins σ H s e s' I hq
 | ok fl=>
  cases fl with
  | ret u=>exact I.after hq
  | next=>exact False.elim hq
  | brk=>exact False.elim hq
  | cont=>exact False.elim hq
theorem pe_call (F:FnOk X.prog X.w X.K X.mg X.base CX k f fd ps sp) (hr:Room k X.A) (hg:Gl X x) (hm:X.mg x=some (.ref f)) (hk:PySem.W.keepIn X.K (.ref f)=true) (hb:Binds X.K fd ps ds) (hd:Vals dvs ds) (hx:Passes CX X E)
  (ha:PA X (e :: es) t) (hdb:(x == ("__debug__":Str))=false:=by decide) (he:starEach (e :: es) X.env=(false,eval e X.env) :: starEach es X.env:=by rfl) (hpl:(backTo pos (starEach es X.env)).any (·.1)=false:=by rfl) :
  PE X (.Call (.Name x p) (e :: es) [] pos) (tCall sp dvs E t):=by
 intro pins s σ H Q I h
 refine wpAny_Call_Name_kw (ld_glob I hg hm ?_ hdb)
 refine PySem.W.callWith_K (h₀:=X.base) I.ok.mod.kin hk (thn (ha pos pins s σ H _ I h) fun us s1 ⟨vs,H1,I1,r,q⟩=>⟨I1.kIn,?_⟩) he hpl
 exact run_fn F hr hb hd hx I1 r q
end
section
variable {X:Cx} {CX:CXT} {k:Nat} {f C:Addr} {fd:FuncData} {ps ks:List Str} {sp:Sp} {E:XK} {x m:Str} {p pos apos kpos:Pos} {e o:Expr} {es:List Expr} {kws:List Keyword} {te ta:TE} {t tk:TA} {nm:Option Str}
variable {g:List Value→List Value→List Value} {gV:List V→List V→List V}
end
structure FnScope (N P:List Str) (sc:Scope):Prop where
 kind:sc.kind=.function
 co:sc.isCoroutine=false
 gen:sc.isGenerator=false
 nd:N.Nodup
 pre:N.take P.length=P
 par:∀ x∈P,sc.names.lookup x=some .local∨sc.names.lookup x=some .cell
 nofree:∀ y∈sc.names,y.2≠.free
theorem bindL_out {kindOf:Str→Option NameKind} {x:Str}:∀ {binds:List (Str×Value)} {m:Str→Option Value},(∀ v,(x,v) ∉ binds)→bindL kindOf binds m x=m x
 | [],_,_=>rfl
 | (n,v) :: r,m,h=>by
  unfold bindL
  rw [bindL_out fun w hw=>h w (List.mem_cons_of_mem _ hw)]
  split
  ·have:x≠n:=by rintro rfl; exact h v List.mem_cons_self
   simp [this]
  ·rfl
theorem bindC_out {kindOf:Str→Option NameKind} {x:Str}:∀ {binds:List (Str×Value)} {m:Str→Option Value},(∀ v,(x,v) ∉ binds)→bindC kindOf binds m x=m x
 | [],_,_=>rfl
 | (n,v) :: r,m,h=>by
  unfold bindC
  rw [bindC_out fun w hw=>h w (List.mem_cons_of_mem _ hw)]
  split
  ·rfl
  ·have:x≠n:=by rintro rfl; exact h v List.mem_cons_self
   simp [this]
theorem bindL_get {kindOf:Str→Option NameKind} {x:Str} {v:Value}:∀ {P:List Str} {vs:List Value} {i:Nat} {m:Str→Option Value},P.Nodup→P[i]?=some x→vs[i]?=some v→kindOf x=some .local →
  bindL kindOf (P.zip vs) m x=some v
 | [],_,_,_,_,h,_,_=>by simp at h
 | _ :: _,[],_,_,_,_,h,_=>by simp at h
 | p :: P,w :: vs,0,m,nd,h1,h2,hk=>by
  simp at h1 h2; subst h1; subst h2
  show bindL kindOf ((p,w) :: P.zip vs) m p=_
  unfold bindL
  rw [bindL_out fun v hv=>(List.nodup_cons.mp nd).1 (List.of_mem_zip hv).1,if_pos hk]
  simp
 | p :: P,w :: vs,i + 1,m,nd,h1,h2,hk=>by
  show bindL kindOf ((p,w) :: P.zip vs) m x=_
  unfold bindL
  exact bindL_get (i:=i) (List.nodup_cons.mp nd).2 (by simpa using h1) (by simpa using h2) hk
theorem bindC_get {kindOf:Str→Option NameKind} {x:Str} {v:Value}:∀ {P:List Str} {vs:List Value} {i:Nat} {m:Str→Option Value},P.Nodup→P[i]?=some x→vs[i]?=some v→kindOf x≠some .local →
  bindC kindOf (P.zip vs) m x=some v
 | [],_,_,_,_,h,_,_=>by simp at h
 | _ :: _,[],_,_,_,_,h,_=>by simp at h
 | p :: P,w :: vs,0,m,nd,h1,h2,hk=>by
  simp at h1 h2; subst h1; subst h2
  show bindC kindOf ((p,w) :: P.zip vs) m p=_
  unfold bindC
  rw [bindC_out fun v hv=>(List.nodup_cons.mp nd).1 (List.of_mem_zip hv).1,if_neg hk]
  simp
 | p :: P,w :: vs,i + 1,m,nd,h1,h2,hk=>by
  show bindC kindOf ((p,w) :: P.zip vs) m x=_
  unfold bindC
  exact bindC_get (i:=i) (List.nodup_cons.mp nd).2 (by simpa using h1) (by simpa using h2) hk
def start (N:List Str) (vs:List V):St:=vs.map some++List.replicate (N.length - vs.length) none
def cxOf (CX:CXT) (P:Program) (w:World) (K:PySem.W.Frag) (mg:Str→Option Value) (base:Heap) (N:List Str) (qual:Str) (scope:Scope) (f:Addr) (cd:Value) (A:Around) (outer:List Env) (s:Shared) (H:Hp) (E:XK):Cx where
 prog:=P
 w:=w
 K:=K
 mg:=mg
 base:=base
 A:=A.deeper (envOfC qual scope s.heap.objs.size f cd)
 N:=N
 s₀:=s
 H₀:=H
 env:=envOfC qual scope s.heap.objs.size f cd
 outer:=outer
 stack:=envOfC qual scope s.heap.objs.size f cd :: outer
 ex:=[]
 calm:=true
 fn:=fun _=>true
 pn:=[]
 xe:=fun e s'=>wpAny (model P w) (A.deeper (envOfC qual scope s.heap.objs.size f cd)) (leaving (envOfC qual scope s.heap.objs.size f cd) e) (fun _ s''=>CX outer H s E e s'') (fun e' s''=>CX outer H s E e' s'') s'
theorem cell_has {sc:Scope} {n:Nat} {x:Str} (h:sc.names.lookup x=some .cell):∃ c,(cellsFrom n sc.names []).lookup x=some c:=by
 have q:=PySem.W.cellsFrom_some sc.names n [] (.inl h)
 exact Option.isSome_iff_exists.mp q
theorem inv_start {CX:CXT} {P:Program} {w:World} {K:PySem.W.Frag} {mg:Str→Option Value} {base:Heap} {N ps:List Str} {qual:Str} {scope:Scope} {f:Addr} {cd:Value} {A:Around} {outer:List Env} {s s1:Shared} {H:Hp} {E:XK} {us:List Value} {vs:List V}
  (S:FnScope N ps scope) (hd:A.handled=none) (e0:Env0 P w K mg base A outer s H) (hl:vs.length=ps.length) (r:Vals vs us)
  (x:InCallC s s.heap.objs.size (bindL (envOfC qual scope s.heap.objs.size f cd).kindOf (ps.zip us) fun _=>none) (cellsFrom (s.heap.objs.size + 1) scope.names []) (bindC (envOfC qual scope s.heap.objs.size f cd).kindOf (ps.zip us) fun _=>none) s1) (hup:0 < s1.toks) :
  Inv (cxOf CX P w K mg base N qual scope f cd A outer s H E) [] (start N vs) H s1:=by
 have hpl:ps.length ≤ N.length:=by have:=congrArg List.length S.pre; rw [List.length_take] at this; omega
 obtain ⟨h1,tk,rfl,hk⟩:=x.done
 change 0 < tk at hup
 have noA:∀ b:Addr,b ∉ (cxOf CX P w K mg base N qual scope f cd A outer s H E).ex:=fun b z=>absurd (show b∈([]:List Addr) from z) (by simp)
 refine ⟨⟨e0.mod,S.kind,rfl,rfl,Nat.le_refl _,fun y z c h1 h2=>?_,fun y hy=>?_,fun y c _ h=>?_,fun _=>hd,Around.frames_deeper e0.frames,.inr ⟨rfl,rfl⟩,fun b z=>absurd z (noA b),e0.bs,e0.bsz,fun b _ _=>noA b,fun b z=>absurd z (noA b),e0.funs,e0.frf⟩,
  rfl,e0.bare,Un.kept hk,⟨_,x.toInCall.ns,fun i y v h1 h2 h3=>?_⟩,fun y c h=>⟨_,x.cell y c h⟩,e0.hok.fresh (Nat.le_refl _),fun y c h=>?_,fun p hp=>absurd (show p∈([]:List (Addr×Obj)) from hp) (by simp),e0.hok.kept hk,?_,hup⟩
 ·exact name_of_addr x.apart (PySem.mem_of_lookup h1) (PySem.mem_of_lookup h2)
 ·have hy:scope.names.lookup y=some .cell∨scope.names.lookup y=some .free:=hy
  rcases hy with hy | hy
  ·exact cell_has hy
  ·exact absurd rfl (S.nofree _ (PySem.mem_of_lookup hy))
 ·exact Nat.le_of_lt (x.above y c (PySem.mem_of_lookup h))
 ·have hi:i < vs.length:=by
   unfold start at h2
   by_cases hi:i < vs.length
   ·exact hi
   ·rw [List.getElem?_append_right (by simpa using hi)] at h2
    rw [List.getElem?_replicate] at h2
    split at h2 <;> cases h2
  have ha:vs[i]?=some v:=by
   unfold start at h2
   rw [List.getElem?_append_left (by simpa using hi),List.getElem?_map] at h2
   cases e:vs[i]? with
   | none=>rw [e] at h2; cases h2
   | some a=>rw [e] at h2; cases h2; rfl
  obtain ⟨u,hu,rv⟩:=r.get ha
  have hp:ps[i]?=some y:=by
   rw [← S.pre,List.getElem?_take_of_lt (by omega)]; exact h1
  have ndP:ps.Nodup:=by rw [← S.pre]; exact S.nd.sublist (List.take_sublist _ _)
  refine ⟨u,rv,?_⟩
  rcases S.par y (List.mem_of_getElem? hp) with k | k
  ·exact .inl ⟨k,bindL_get ndP hp hu k⟩
  ·obtain ⟨c,e⟩:=cell_has (n:=s.heap.objs.size + 1) k
   refine .inr ⟨.inl k,c,e,?_⟩
   have q:=x.cell y c e
   rw [bindC_get ndP hp hu (by show scope.names.lookup y≠_; rw [k]; decide)] at q
   exact q
 ·exact e0.hok.fresh (Nat.le_of_lt (x.above y c (PySem.mem_of_lookup h)))
 ·unfold start
  show _=N.length
  rw [List.length_append,List.length_map,List.length_replicate]
  omega
theorem fn_of {CX:CXT} {P:Program} {w:World} {K:PySem.W.Frag} {mg:Str→Option Value} {base:Heap} {k:Nat} {f:Addr} {name qual:Str} {params:Arguments} {body:List Stmt} {scope:Scope} {dV kV doc pm cdv ct oc:Value} {an od:Option Addr}
  {osl:Array (Option Value)} {N ps:List Str} {sp:Sp} (lk:K.lookup f=some ⟨oc,od,.func (PySem.W.fnOf name qual params body scope dV kV doc pm an cdv ct),osl⟩) (hcd:PySem.W.codeIn K cdv qual=true) (S:FnScope N ps scope)
  (len:∀ vs H Q E,sp vs H Q E→vs.length=ps.length)
  (hbody:∀ (A:Around) (outer:List Env) (s:Shared) (H:Hp) (vs:List V) (Q:VK) (E:XK),Room k (A.deeper (envOfC qual scope s.heap.objs.size f cdv))→sp vs H Q E →
   ∃ t,PSs (cxOf CX P w K mg base N qual scope f cdv A outer s H E) body t∧t { nx:=fun _ H'=>Q .non H',rt:=Q } (start N vs) H) :
  FnOk P w K mg base CX (k + 1) f (PySem.W.fnOf name qual params body scope dV kV doc pm an cdv ct) ps sp:=by
 refine ⟨len,fun A outer s H args us vs Q E hr e0 hb r hsp=>?_⟩
 have hl:=len _ _ _ _ hsp
 have KX:K.In s.heap:=e0.mod.kin.keeps fun b o e=>(e0.bs b o e).1
 have lim:s.heap.NoLimit:=e0.mod.nolimit.keeps fun b o e=>(e0.bs b o e).1
 have hkind:∀ y∈ps.zip us,scope.names.lookup y.1=some .local∨(scope.names.lookup y.1=some .cell∧((cellsFrom (s.heap.objs.size + 1) scope.names []).lookup y.1).isSome=true):=fun ⟨n,v⟩ hy=>by
  rcases S.par n (List.of_mem_zip hy).1 with q | q
  ·exact .inl q
  ·exact .inr ⟨q,PySem.W.cellsFrom_some _ _ _ (.inl q)⟩
 refine codeAny_call_function hr.depth (KX _ _ lk) rfl S.co S.gen rfl (PySem.W.codeRec_of KX hcd) (hb.1 _ _ _ _ ?_)
 refine newEnvT S.kind hb.2 (by rw [← r.length]; exact hl) hkind fun env he s1 hup x=>?_
 subst he
 refine ⟨lim.keeps x.toInCall.keep,codeAny_func ?_⟩
 obtain ⟨t,ht,hq⟩:=hbody A outer s H vs Q E (hr.deeper _) hsp
 have I:Inv (cxOf CX P w K mg base N qual scope f cdv A outer s H E) [] (start N vs) H s1:=inv_start S (Prod.mk.inj hr.hd).1 e0 hl r x hup
 refine wpAny_mono (ht [] s1 (start N vs) H _ I hq) (fun fl s' hs=>?_) fun e s' hs=>hs
 have fin:∀ {σ':St} {H':Hp} {v:V} {u:Value},Inv (cxOf CX P w K mg base N qual scope f cdv A outer s H E) [] σ' H' s'→RelV v u→Q v H'→CE outer P w H s Q u s':=
  fun {σ' H' v u} J rv q=>⟨v,H',J.os,J.bare,J.base,J.hok,rv,q,J.tk⟩
 cases fl with
 | ret u=>
  obtain ⟨v,σ',H',J,rv,q⟩:=hs
  exact fin J rv q
 | next=>
  obtain ⟨σ',H',J,q⟩:=hs
  exact fin (v:=V.non) (u:=Value.none) J rfl q
 | brk=>
  obtain ⟨_,_,_,q⟩:=hs
  exact False.elim q
 | cont=>
  obtain ⟨_,_,_,q⟩:=hs
  exact False.elim q
end L2
namespace L2
open PySem PySem.Spec PyProof.Rows
section
variable {X:Cx} {x:Str} {p pos:Pos} {e:Expr} {es:List Expr} {t:TA} {id T:String} {r:List V→Hp→VK→Prop}
def tCB (r:List V→Hp→VK→Prop) (t:TA):TE:=fun σ H Q=>t σ H fun vs H1=>r vs H1 Q
theorem pe_callB (hc:CallR X (.builtin id) r) (hg:Gl X x) (hm:X.mg x=none) (hv:bootBuiltins x=some (.builtin id)) (ha:PA X (e :: es) t) (hn:x≠"__name__":=by decide) (hdb:(x == ("__debug__":Str))=false:=by decide)
  (he:starEach (e :: es) X.env=(false,eval e X.env) :: starEach es X.env:=by rfl) (hpl:(backTo pos (starEach es X.env)).any (·.1)=false:=by rfl):PE X (.Call (.Name x p) (e :: es) [] pos) (tCB r t):=by
 intro pins s σ H Q I h
 refine wpAny_Call_Name_kw (ld_blt I hg hm hv ?_ hn hdb)
 exact PyProof.Rows.callWith_builtin1 (thn (ha pos pins s σ H _ I h) fun us s1 ⟨vs,H1,I1,r1,q1⟩=>hc pins s1 σ H1 vs us Q I1 r1 q1) he hpl
theorem pe_callTy (hc:CallR X (.type T) r) (hg:Gl X x) (hm:X.mg x=none) (hv:bootBuiltins x=some (.type T)) (ha:PA X (e :: es) t) (hn:x≠"__name__":=by decide) (hdb:(x == ("__debug__":Str))=false:=by decide)
  (he:starEach (e :: es) X.env=(false,eval e X.env) :: starEach es X.env:=by rfl) (hpl:(backTo pos (starEach es X.env)).any (·.1)=false:=by rfl):PE X (.Call (.Name x p) (e :: es) [] pos) (tCB r t):=by
 intro pins s σ H Q I h
 refine wpAny_Call_Name_kw (ld_blt I hg hm hv ?_ hn hdb)
 exact PyProof.Rows.callWith_type1 (thn (ha pos pins s σ H _ I h) fun us s1 ⟨vs,H1,I1,r1,q1⟩=>hc pins s1 σ H1 vs us Q I1 r1 q1) he hpl
end
end L2
namespace HT
open PySem PyProof.Rows
section
open PySem.SeqAt
open PySem.AutoSeq1 (wpAny_loadPart')
open PySem.MeetsSeq PySem.MeetsSeq2 PySem.MeetsSeq3
end
section
variable {prog:Program} {w:World} {A:Around} {E:Value→Shared→Prop} {s:Shared}
theorem cat_tup {t b:Addr} {vs ws:List Value} {Q:Value→Shared→Prop} (ht:IsTup s.heap t vs.toArray) (hb:IsTup s.heap b ws.toArray) (hv:vs≠[])
  (h1:ws=[]→Q (.ref t) s) (h2:ws≠[]→Q (.ref s.heap.objs.size) { s with heap:=s.heap.push { cls:=.type "tuple",data:=.seq (vs++ws).toArray } })
  (hsz:vs.length + ws.length ≤ sizeLine):wpAny (model prog w) A (binaryOp .Add (.ref t) (.ref b)) Q E s:=by
 obtain ⟨⟨cls,dd,data,sl⟩,ho,hc,n,hd⟩:=id ht
 obtain ⟨⟨cls2,dd2,data2,sl2⟩,ho2,hc2,n2,hd2⟩:=id hb
 simp only at hc hd hc2 hd2
 subst hc hd hc2 hd2
 have e:vs.toArray++ws.toArray=(vs++ws).toArray:=by simp
 by_cases hw:ws=[]
 ·exact concat_meets ⟨_,ho,rfl⟩ ⟨_,ho2,rfl⟩ noFill_tuple_add seq_tuple_add PySem.F.slot_tuple_add PySem.F.entry_tuple_add (PySem.F.args_tuple_add_2 _ _)
   (tuple_addW1 t b vs.toArray ws.toArray n n2 dd dd2 sl sl2 (by simpa using hv) (by simp [hw])) ⟨ho,ho2,h1 hw⟩
 ·refine concat_meets ⟨_,ho,rfl⟩ ⟨_,ho2,rfl⟩ noFill_tuple_add seq_tuple_add PySem.F.slot_tuple_add PySem.F.entry_tuple_add (PySem.F.args_tuple_add_2 _ _)
   (tuple_addW2 t b vs.toArray ws.toArray n n2 dd dd2 sl sl2 (by simpa using hv) (by simpa using hw) (by rw [List.size_toArray,List.size_toArray]; exact hsz)) ⟨ho,ho2,?_⟩
  rw [e]
  exact h2 hw
def sIx (n d:Nat):Option Int→Nat
 | none=>d
 | some v=>if v < 0 then (v + (n:Int)).toNat else min v.toNat n
theorem sIx_none (n d:Nat):sIx n d none=d:=rfl
theorem sIx_nat (n d k:Nat):sIx n d (some (k:Int))=min k n:=by
 show (if (k:Int) < 0 then ((k:Int) + (n:Int)).toNat else min (k:Int).toNat n)=min k n
 rw [if_neg (by omega),Int.toNat_natCast]
theorem sIx_le (n d:Nat) (hd:d ≤ n) (o:Option Int):sIx n d o ≤ n:=by
 cases o with
 | none=>exact hd
 | some v=>
  show (if v < 0 then (v + (n:Int)).toNat else min v.toNat n) ≤ n
  by_cases hv:v < 0
  ·rw [if_pos hv]; omega
  ·rw [if_neg hv]; exact Nat.min_le_right _ _
theorem clip_eq (v:Int) (n d:Nat):(if v < 0 then max (v + (n:Int)) 0 else min v (n:Int))=((sIx n d (some v):Nat):Int):=by
 show (if v < 0 then max (v + (n:Int)) 0 else min v (n:Int))=(((if v < 0 then (v + (n:Int)).toNat else min v.toNat n):Nat):Int)
 by_cases hv:v < 0
 ·simp only [if_pos hv]; omega
 ·simp only [if_neg hv]; omega
theorem adjust_gen (lo hi:Option Int) (n:Nat):Builtin.Slice.sliceAdjust lo hi 1 (n:Int)=(((sIx n 0 lo:Nat):Int),((sIx n n hi:Nat):Int)):=by
 have h1:¬ ((1:Int) < 0):=by omega
 unfold Builtin.Slice.sliceAdjust
 simp only [h1,if_false]
 refine Prod.ext ?_ ?_
 ·cases lo with
  | none=>rfl
  | some v=>exact clip_eq v n 0
 ·cases hi with
  | none=>rfl
  | some v=>exact clip_eq v n n
theorem places_gen (i j:Nat):Builtin.Slice.slicePlaces (i:Int) (j:Int) 1=j - i:=by
 unfold Builtin.Slice.slicePlaces
 have h1:(1:Int) > 0:=by omega
 simp only [h1,if_true,Int.ediv_one]
 split <;> omega
theorem slicePart_ {v:Value} {o:Option Int} {Q:Option Int→Shared→Prop} (p:IsPart v o) (h:Q o s):wpAny (model prog w) A (Builtin.Slice.slicePartIndex v) Q E s:=by
 cases p with
 | none=>exact slicePart_none h
 | int i t=>exact slicePart_int h
theorem sliceApplied_gen {sl:Addr} {vl vu:Value} {lo hi:Option Int} {n:Nat} {Q:Int×Int×Nat→Shared→Prop} (hs:s.heap.IsSliceOf sl vl vu .none) (pl:IsPart vl lo) (pu:IsPart vu hi)
  (h:Q (((sIx n 0 lo:Nat):Int),1,sIx n n hi - sIx n 0 lo) s):wpAny (model prog w) A (Builtin.Slice.sliceApplied (.ref sl) (pure (n:Int))) Q E s:=by
 obtain ⟨os,hos,hcs,hds⟩:=id hs
 unfold Builtin.Slice.sliceApplied Builtin.Slice.sliceFields
 refine wpAny_bind (wpAny_bind (wpAny_field hos hds (x:=vl) rfl (wpAny_bind (wpAny_field hos hds (x:=vu) rfl (wpAny_bind (wpAny_field hos hds (x:=.none) rfl (wpAny_pure ?_)))))))
 refine wpAny_bind (slicePart_none ?_)
 show wpAny _ _ (if ((1:Int) == 0)=true then _ else _) _ _ s
 rw [if_neg (by decide)]
 refine wpAny_bind (slicePart_ pl (wpAny_bind (slicePart_ pu (wpAny_bind (wpAny_pure ?_)))))
 show wpAny _ _ (match Builtin.Slice.sliceAdjust lo hi 1 (n:Int) with | (lo,hi)=>pure (lo,(1:Int),Builtin.Slice.slicePlaces lo hi 1)) _ _ s
 rw [adjust_gen lo hi n]
 show wpAny _ _ (pure (((sIx n 0 lo:Nat):Int),(1:Int),Builtin.Slice.slicePlaces ((sIx n 0 lo:Nat):Int) ((sIx n n hi:Nat):Int) 1)) _ _ s
 rw [places_gen]
 exact wpAny_pure h
theorem pick_gen (xs:Array Value) (i k:Nat):((List.range k).filterMap fun (m:Nat)=>xs[((i:Int) + (m:Int) * 1).toNat]?).toArray=((xs.toList.drop i).take k).toArray:=by
 have e:(fun (m:Nat)=>xs[((i:Int) + (m:Int) * 1).toNat]?)=fun m=>xs[i + m]?:=by
  funext m
  have:((i:Int) + (m:Int) * 1).toNat=i + m:=by omega
  rw [this]
 rw [e]
 have:=pick_run xs i k
 rw [List.filterMap_map] at this
 have e2:((fun x=>xs[x]?) ∘ fun x=>i + x)=fun m=>xs[i + m]?:=rfl
 rw [e2] at this
 rw [this]
theorem getItem_tuple_cut {t sl:Addr} {items:Array Value} {vl vu:Value} {lo hi:Option Int} {Q:Value→Shared→Prop} (ht:IsTup s.heap t items) (hs:s.heap.IsSliceOf sl vl vu .none) (pl:IsPart vl lo) (pu:IsPart vu hi)
  (hw:¬ (sIx items.size 0 lo=0∧sIx items.size items.size hi=items.size))
  (h:Q (.ref s.heap.objs.size) { s with heap:=s.heap.push { cls:=.type "tuple",data:=.seq ((items.toList.drop (sIx items.size 0 lo)).take (sIx items.size items.size hi - sIx items.size 0 lo)).toArray } })
  (hsz:items.size ≤ sizeLine):wpAny (model prog w) A (getItem (.ref t) (.ref sl)) Q E s:=by
 have htake:sizeOk (.seq ((items.toList.drop (sIx items.size 0 lo)).take (sIx items.size items.size hi - sIx items.size 0 lo)).toArray):=by
  show ((items.toList.drop (sIx items.size 0 lo)).take (sIx items.size items.size hi - sIx items.size 0 lo)).toArray.size ≤ sizeLine
  rw [List.size_toArray,List.length_take,List.length_drop,Array.length_toList]
  omega
 have hj:sIx items.size items.size hi ≤ items.size:=sIx_le _ _ (Nat.le_refl _) hi
 obtain ⟨os,hos,hcs,hds⟩:=id hs
 have hTs:s.TypeIs (.ref sl) "slice":=⟨os,hos,hcs⟩
 unfold getItem
 try with_reducible refine wpAny_holding ?_
 first | refine wpAny_bind (wpAny_pure ?_) | skip
 refine wpAny_bind (wpAny_sequenceKey ht.typeIs (by decide) ?_)
 refine wpAny_bind (wpAny_callSpecial?_slot (name:=Str.ofString "__getitem__") ht.typeIs PyProof.Rows.slot_tuple_getitem
  (wpAny_call_entry PyProof.Rows.slot_tuple_getitem ht.typeIs entry_tuple_getitem ?_ (args_tuple_getitem _ _)))
 show wpAny _ _ (Builtin.Tuple.tupleItemsOf (.ref t) >>= _) _ _ s
 refine wpAny_bind (tupleItemsOf_ ht ?_)
 refine wpAny_bind (wpAny_typeOf hTs ?_)
 rw [if_pos (by decide)]
 refine wpAny_bind (sliceApplied_gen hs pl pu ?_)
 have hno:¬ ((((sIx items.size 0 lo:Nat):Int) == 0 && (1:Int) == 1 && (sIx items.size items.size hi - sIx items.size 0 lo) == items.size)=true):=by
  intro q
  rw [Bool.and_eq_true,Bool.and_eq_true] at q
  have q1:((sIx items.size 0 lo:Nat):Int)=0:=eq_of_beq q.1.1
  have q2:sIx items.size items.size hi - sIx items.size 0 lo=items.size:=eq_of_beq q.2
  exact hw ⟨by omega,by omega⟩
 show wpAny _ _ (if (((sIx items.size 0 lo:Nat):Int) == 0 && (1:Int) == 1 && (sIx items.size items.size hi - sIx items.size 0 lo) == items.size)=true then _ else _) _ _ s
 rw [if_neg hno,pick_gen]
 first
  | exact wpAny_bind (m:=Builtin.Tuple.tupleExact _) (wpAny_newObj_type (wpAny_pure ⟨_,rfl,wpAny_pure h⟩) htake)
  | exact wpAny_bind (m:=Builtin.Tuple.tupleExact _) (wpAny_newObj_type (wpAny_bind (wpAny_pure (wpAny_pure ⟨_,rfl,wpAny_pure h⟩))) htake)
  | exact wpAny_bind (wpAny_bind (m:=Builtin.Tuple.tupleExact _) (wpAny_newObj_type (wpAny_pure (wpAny_pure ⟨_,rfl,wpAny_pure h⟩)) htake))
  | exact wpAny_bind (wpAny_bind (m:=Builtin.Tuple.tupleExact _) (wpAny_newObj_type (wpAny_pure ⟨_,rfl,wpAny_pure h⟩) htake))
end
end HT
namespace L2
open PySem PySem.Spec PyProof.Rows
abbrev TO:=St→Hp→(Option Int→Hp→Prop)→Prop
def PO (X:Cx) (e:Option Expr) (t:TO):Prop:=
 ∀ (pins:List (Addr×Obj)) (s:Shared) (σ:St) (H:Hp) (Q:Option Int→Hp→Prop),Inv X pins σ H s→t σ H Q →
  wpAny (model X.prog X.w) X.A (evalPart e X.env) (fun u s'=>∃ o H',Inv X pins σ H' s'∧IsPart u o∧Q o H') X.xe s
def tNoPart:TO:=fun _ H Q=>Q none H
def tPart (t:TE):TO:=fun σ H Q=>t σ H fun x H1=>∃ i,x=.int i∧Q (some i) H1
section
variable {X:Cx} {e:Expr} {te:TE} {lo hi:Option Expr} {tl th:TO} {pos p2:Pos}
theorem po_none:PO X none tNoPart:=by
 intro pins s σ H Q I h
 rw [evalPart_none]
 exact wpAny_pure ⟨none,H,I,.none,h⟩
theorem po_some (h:PE X e te):PO X (some e) (tPart te):=by
 intro pins s σ H Q I hw
 rw [evalPart_some]
 refine thn (h pins s σ H _ I hw) fun u s1 ⟨x,H1,I1,r1,q1⟩=>?_
 obtain ⟨i,rfl,q⟩:=q1
 obtain ⟨t,rfl⟩:=r1
 exact ⟨some i,H1,I1,.int i t,q⟩
def SlR (X:Cx) (r:V→Option Int→Option Int→Hp→VK→Prop):Prop:=
 ∀ (pins:List (Addr×Obj)) (s:Shared) (σ:St) (H:Hp) (x:V) (v vl vu:Value) (lo hi:Option Int) (sl:Addr) (Q:VK),Inv X pins σ H s→RelV x v→s.heap.IsSliceOf sl vl vu .none→IsPart vl lo→IsPart vu hi→r x lo hi H Q →
  ∃ T id,typeLookup (.type T) "__getitem__"=pure (some (.builtin id))∧s.TypeIs v T∧wpAny (model X.prog X.w) X.A (getItem v (.ref sl)) (EP X pins σ Q) X.xe s
def tSl (r:V→Option Int→Option Int→Hp→VK→Prop) (te:TE) (tl th:TO):TE:=fun σ H Q=>te σ H fun x H1=>tl σ H1 fun l H2=>th σ H2 fun u H3=>r x l u H3 Q
theorem pe_slice {r:V→Option Int→Option Int→Hp→VK→Prop} (hr:SlR X r) (he:PE X e te) (hl:PO X lo tl) (hu:PO X hi th):PE X (.Subscript e (.Slice lo hi none p2) pos) (tSl r te tl th):=by
 intro pins s σ H Q I h
 refine Subscript_ (thn (he pins s σ H _ I h) fun v s1 ⟨x,H1,I1,r1,q1⟩=>?_)
 refine wpAny_Slice (thn (hl pins s1 σ H1 _ I1 q1) fun vl s2 ⟨l,H2,I2,pl,q2⟩=>thn (hu pins s2 σ H2 _ I2 q2) fun vu s3 ⟨u,H3,I3,pu,q3⟩=>?_)
 rw [evalPart_none]
 refine wpAny_pure ?_
 have I4:Inv X pins σ H3 { s3 with heap:=s3.heap.push { cls:=.type "slice",data:=.fields #[vl,vu,.none] } }:=I3.kept (t':=s3.toks) fun b ob q=>Heap.get?_push_of_some _ q
 obtain ⟨T,id,hT,ht,hg⟩:=hr pins { s3 with heap:=s3.heap.push { cls:=.type "slice",data:=.fields #[vl,vu,.none] } } σ H3 x v vl vu l u s3.heap.objs.size Q I4 r1 (Heap.IsSliceOf.new ..) pl pu q3
 show wpAny (model X.prog X.w) X.A (subscriptTail e (.Slice lo hi none p2) v (.ref s3.heap.objs.size)) (EP X pins σ Q) X.xe { s3 with heap:=s3.heap.push { cls:=.type "slice",data:=.fields #[vl,vu,.none] } }
 exact tail_any (ops:=[.ref s3.heap.objs.size,v]) ht hT hg (by with_unfolding_all rfl)
def cutV (xs:List V) (lo hi:Option Int):List V:=(xs.drop (HT.sIx xs.length 0 lo)).take (HT.sIx xs.length xs.length hi - HT.sIx xs.length 0 lo)
theorem cutV_length (xs:List V) (lo hi:Option Int):(cutV xs lo hi).length ≤ xs.length:=by
 unfold cutV
 rw [List.length_take,List.length_drop]
 omega
def rSlT (K:PySem.W.Frag):V→Option Int→Option Int→Hp→VK→Prop:=fun x lo hi H Q=>∃ a xs,x=.ref a∧SqT K H a xs ∧
 ¬ (HT.sIx xs.length 0 lo=0∧HT.sIx xs.length xs.length hi=xs.length)∧∀ p,H p=none→Q (.ref p) (upd H p (.tup (cutV xs lo hi)))
theorem sl_tup:SlR X (rSlT X.K):=by
 intro pins s σ H x v vl vu lo hi sl Q I rx hs pl pu h
 obtain ⟨a,xs,rfl,hx,hw,q⟩:=h
 cases rx
 obtain ⟨its,r,ht,hz⟩:=I.tuple hx
 have hlen:its.toArray.size=xs.length:=by rw [List.size_toArray]; exact r.length.symm
 refine ⟨"tuple",_,PyProof.Rows.slot_tuple_getitem.lookup,ht.typeIs,?_⟩
 refine HT.getItem_tuple_cut ht hs pl pu (by rw [hlen]; exact hw) ?_ (by rw [hlen]; exact hz)
 rw [hlen]
 refine ⟨.ref s.heap.objs.size,_,I.laid (t':=s.toks) (o:=.tup (cutV xs lo hi)) (fun b ob q=>Heap.get?_push_of_some _ q) (Nat.le_refl _) ?_,rfl,q _ (I.hok.fresh (Nat.le_refl _))⟩
 exact ⟨Nat.le_trans (cutV_length xs lo hi) hz,_,(r.drop (HT.sIx xs.length 0 lo)).take (HT.sIx xs.length xs.length hi - HT.sIx xs.length 0 lo),_,Heap.get?_push_size _ rfl,rfl,_,rfl,rfl⟩
def rCatT (K:PySem.W.Frag):R2:=fun x y H Q=>∃ a b xs ys,x=.ref a∧y=.ref b∧SqT K H a xs∧SqT K H b ys∧xs≠[]∧xs.length + ys.length ≤ sizeLine ∧
 (ys=[]→Q (.ref a) H)∧(ys≠[]→∀ p,H p=none→Q (.ref p) (upd H p (.tup (xs++ys))))
theorem Vals.nil_iff {xs:List V} {us:List Value} (r:Vals xs us):us=[] ↔ xs=[]:=by
 cases r with
 | nil=>simp
 | cons _ _=>simp
theorem op_catT:OpR X (binaryOp .Add) (rCatT X.K):=by
 intro pins s σ H x y v u Q I rx ry h
 obtain ⟨a,b,xs,ys,rfl,rfl,ha,hb,hx,hz,q1,q2⟩:=h
 cases rx
 cases ry
 obtain ⟨its,r1,p1,_⟩:=I.tuple ha
 obtain ⟨its2,r2,p2,_⟩:=I.tuple hb
 refine HT.cat_tup p1 p2 (fun z=>hx (r1.nil_iff.mp z)) (fun z=>⟨.ref a,H,I,rfl,q1 (r2.nil_iff.mp z)⟩) (fun z=>?_) (by rw [← r1.length,← r2.length]; exact hz)
 refine ⟨.ref s.heap.objs.size,_,I.laid (t':=s.toks) (o:=.tup (xs++ys)) (fun b ob q=>Heap.get?_push_of_some _ q) (Nat.le_refl _) ?_,rfl,q2 (fun w=>z (r2.nil_iff.mpr w)) _ (I.hok.fresh (Nat.le_refl _))⟩
 exact ⟨by rw [List.length_append]; exact hz,_,r1.append r2,_,Heap.get?_push_size _ rfl,rfl,_,rfl,rfl⟩
end
end L2
namespace L2
open PySem PySem.Spec PyProof.Rows
def ixN (n:Nat) (i:Int):Option Nat:=if 0 ≤ i then (if i < n then some i.toNat else none) else if -(n:Int) ≤ i then some (i + n).toNat else none
def atI {α:Type} (xs:List α) (i:Int):Option α:=(ixN xs.length i).bind fun j=>xs[j]?
theorem ixN_seq {n:Nat} {i:Int} {j:Nat} (h:ixN n i=some j):seqIndex? i n=some j∧j < n∧-(n:Int) ≤ i∧i < n:=by
 unfold ixN at h
 by_cases h0:0 ≤ i
 ·rw [if_pos h0] at h
  by_cases h1:i < n
  ·rw [if_pos h1] at h
   have e:i.toNat=j:=Option.some.inj h
   exact ⟨by rw [seqIndex_of h0 h1,e],by omega,by omega,h1⟩
  ·rw [if_neg h1] at h; cases h
 ·rw [if_neg h0] at h
  by_cases h1:-(n:Int) ≤ i
  ·rw [if_pos h1] at h
   have e:(i + n).toNat=j:=Option.some.inj h
   exact ⟨by rw [seqIndex_neg (by omega) h1,e],by omega,h1,by omega⟩
  ·rw [if_neg h1] at h; cases h
theorem atI_get {α:Type} {xs:List α} {i:Int} {v:α} (h:atI xs i=some v):∃ j,seqIndex? i xs.length=some j∧xs[j]?=some v∧j < xs.length∧-(xs.length:Int) ≤ i∧i < xs.length:=by
 unfold atI at h
 cases e:ixN xs.length i with
 | none=>rw [e] at h; cases h
 | some j=>
  rw [e] at h
  obtain ⟨h1,h2,h3,h4⟩:=ixN_seq e
  exact ⟨j,h1,h,h2,h3,h4⟩
theorem atI_nat {α:Type} {xs:List α} {j:Nat} {v:α} (h:xs[j]?=some v):atI xs (j:Int)=some v:=by
 have hj:j < xs.length:=(List.getElem?_eq_some_iff.mp h).1
 have e:ixN xs.length (j:Int)=some j:=by
  unfold ixN
  rw [if_pos (by omega),if_pos (by omega)]; simp
 unfold atI; rw [e]; exact h
theorem atI_last {α:Type} (xs:List α) (v:α):atI (xs++[v]) (-1)=some v:=by
 have hl:(xs++[v]).length=xs.length + 1:=by simp
 have e:ixN (xs++[v]).length (-1)=some xs.length:=by
  unfold ixN
  rw [hl,if_neg (by decide),if_pos (by omega)]
  congr 1
  omega
 unfold atI
 rw [e]
 show (xs++[v])[xs.length]?=some v
 simp
def PlainIx (b:Expr):Prop:=∀ o i,subscripted b false o i=operate [o,i] (getItem o i)
def IxR (X:Cx) (r:R2):Prop:=
 ∀ (value slice:Expr) (pins:List (Addr×Obj)) (s:Shared) (σ:St) (H:Hp) (x y:V) (v u:Value) (Q:VK),Inv X pins σ H s→RelV x v→RelV y u→r x y H Q →
  subscripted slice false v u=operate [v,u] (getItem v u)→wpAny (model X.prog X.w) X.A (subscriptTail value slice v u) (EP X pins σ Q) X.xe s
def MtR (X:Cx) (id:String) (r:V→List V→Hp→VK→Prop):Prop:=
 ∀ (pins:List (Addr×Obj)) (s:Shared) (σ:St) (H:Hp) (x:V) (xs:List V) (v:Value) (us:List Value) (Q:VK),Inv X pins σ H s→RelV x v→Vals xs us→r x xs H Q →
  wpAny (model X.prog X.w) X.A (call (.builtin id) (v :: us)) (EP X pins σ Q) X.xe s
section
variable {X:Cx} {a b:Expr} {ta tb:TE} {pos:Pos}
theorem pe_ix {r:R2} (hr:IxR X r) (ha:PE X a ta) (hb:PE X b tb) (hs:PlainIx b):PE X (.Subscript a b pos) (tOp r ta tb):=by
 intro pins s σ H Q I h
 exact Subscript_ (binT ha hb I h fun v u s2 x y H2 I2 rx ry q=>hr a b pins s2 σ H2 x y v u Q I2 rx ry q (hs _ _))
def rIxL (K:PySem.W.Frag):R2:=fun x y H Q=>∃ p xs i v,x=.ref p∧y=.int i∧SqL K H p xs∧atI xs i=some v∧Q v H
def rIxT (K:PySem.W.Frag):R2:=fun x y H Q=>∃ p xs i v,x=.ref p∧y=.int i∧SqT K H p xs∧atI xs i=some v∧Q v H
def rIxS:R2:=fun x y H Q=>∃ z i c,x=.str z∧y=.int i∧z.length ≤ sizeLine∧atI z.cps.toList i=some c∧Q (.str ⟨#[c]⟩) H
theorem ix_list:IxR X (rIxL X.K):=by
 intro value slice pins s σ H x y v u Q I rx ry h hs
 obtain ⟨p,xs,i,z,rfl,rfl,hq,he,q⟩:=h
 cases rx
 obtain ⟨t,rfl⟩:=ry
 obtain ⟨its,r,pl,hz⟩:=I.list hq
 obtain ⟨j,h1,h2,h3,h4,h5⟩:=atI_get he
 obtain ⟨w,ew,rw'⟩:=r.get h2
 have hl:=r.length
 have hn:=line63
 have fin:EP X pins σ Q w s:=⟨z,H,I,rw',q⟩
 by_cases h0:0 ≤ i
 ·have hj:i.toNat=j:=by
   rw [seqIndex_of h0 h5] at h1
   exact Option.some.inj h1
  exact item_listR pl.isList h0 (by omega) (by rw [hj]; simpa using ew) fin hs
 ·have hj:(i + (its.toArray.size:Int)).toNat=j:=by
   rw [seqIndex_neg (by omega) h4] at h1
   rw [List.size_toArray,← hl]
   exact Option.some.inj h1
  exact subscriptTail_builtinR (x:=w) pl.isList.typeIs slot_list_getitem.lookup
   (wpAny_getItem_list_neg (Q:=fun r s'=>r=w∧EP X pins σ Q r s') pl.isList (by omega) (by rw [List.size_toArray] <;> omega) (by omega) (by rw [hj]; simpa using ew) ⟨rfl,fin⟩) hs
theorem ix_tup:IxR X (rIxT X.K):=by
 intro value slice pins s σ H x y v u Q I rx ry h hs
 obtain ⟨p,xs,i,z,rfl,rfl,hq,he,q⟩:=h
 cases rx
 obtain ⟨t,rfl⟩:=ry
 obtain ⟨its,r,pl,hz⟩:=I.tuple hq
 obtain ⟨j,h1,h2,h3,h4,h5⟩:=atI_get he
 obtain ⟨w,ew,rw'⟩:=r.get h2
 have hl:=r.length
 have hn:=line63
 have fin:EP X pins σ Q w s:=⟨z,H,I,rw',q⟩
 exact subscriptTail_builtinR (x:=w) pl.typeIs slot_tuple_getitem.lookup
  (getItem_tuple (j:=j) (Q:=fun r s'=>r=w∧EP X pins σ Q r s') pl (by omega) (by omega) (by rw [List.size_toArray,← hl]; exact h1) (by simpa using ew) ⟨rfl,fin⟩) hs
theorem ix_str:IxR X rIxS:=by
 intro value slice pins s σ H x y v u Q I rx ry h hs
 obtain ⟨z,i,c,rfl,rfl,hz,he,q⟩:=h
 obtain ⟨t,rfl⟩:=rx
 obtain ⟨t',rfl⟩:=ry
 obtain ⟨j,h1,h2,h3,h4,h5⟩:=atI_get he
 have hl:z.cps.toList.length=z.length:=by simp [Str.length]
 rw [hl] at h1 h4 h5
 have hn:=line63
 exact tail_any (typeIs_str s z t) slot_str_getitem.lookup (getItem_str (c:=c) (by
  have e1:decide (i < -(2 ^ 63:Int))=false:=decide_eq_false (by omega)
  have e2:decide (i ≥ 2 ^ 63)=false:=decide_eq_false (by omega)
  rw [e1,e2,Bool.or_false]) (by rw [h1]; simpa using h2) ⟨.str ⟨#[c]⟩,H,I.tok _,I.st,q⟩) hs
theorem mapSeq_set (its:List Value) (n j:Nat) (u:Value):Obj.mapSeq (·.setIfInBounds j u) { cls:=.type "list",data:=.seq its.toArray n }={ cls:=.type "list",data:=.seq (its.set j u).toArray n }:=by
 simp [Obj.mapSeq]
theorem Inv.lst {pins:List (Addr×Obj)} {σ:St} {H:Hp} {s:Shared} {p:Addr} {xs:List V} (I:Inv X pins σ H s) (h:H p=some (.lst xs)) :
  ∃ (its:List Value) (n:Nat),Vals xs its∧s.heap.get? p=some { cls:=.type "list",data:=.seq its.toArray n }∧xs.length ≤ sizeLine:=by
 obtain ⟨z,its,n,r,e⟩:=I.hok p _ h
 exact ⟨its,n,r,e,z⟩
theorem Inv.lstUpd {pins:List (Addr×Obj)} {σ:St} {H:Hp} {s:Shared} {p:Addr} {xs ys:List V} {its its':List Value} {n n':Nat} {f:Obj→Obj} (I:Inv X pins σ H s) (h:H p=some (.lst xs))
  (ho:s.heap.get? p=some { cls:=.type "list",data:=.seq its.toArray n }) (hf:f { cls:=.type "list",data:=.seq its.toArray n }={ cls:=.type "list",data:=.seq its'.toArray n' }) (r:Vals ys its') (hz:ys.length ≤ sizeLine) (t:Nat) (ht:0 < t:=by first | exact Nat.succ_pos _ | assumption | exact L2.Inv.tk (by assumption) | exact Nat.lt_of_lt_of_le (L2.Inv.tk (by assumption)) (by assumption)) :
  Inv X pins σ (upd H p (.lst ys)) { s with heap:=s.heap.update p f,toks:=t }:=by
 have e:(s.heap.update p f).get? p=some { cls:=.type "list",data:=.seq its'.toArray n' }:=by
  rw [Heap.get?_update_self f ho (by rw [hf] <;> rfl),hf]
 refine I.write (x:=p) (e:=p) (by rw [h]; trivial) (.inl rfl) (fun b u hb q=>(Heap.get?_update_other _ _ (Ne.symm hb)).trans q) ⟨_,e⟩ ?_
 exact ⟨hz,its',n',r,e⟩
def rSetL:V→V→V→Hp→(Hp→Prop)→Prop:=fun o i v H Q=>∃ p xs k j,o=.ref p∧i=.int k∧H p=some (.lst xs)∧ixN xs.length k=some j∧Q (upd H p (.lst (xs.set j v)))
theorem set_list:PSet X rSetL:=by
 intro pins s σ H o i v ov iv u Q I ro ri rv h
 obtain ⟨p,xs,k,j,rfl,rfl,hp,hj,q⟩:=h
 cases ro
 obtain ⟨t,rfl⟩:=ri
 obtain ⟨its,n,r,ho,hz⟩:=I.lst hp
 obtain ⟨h1,h2,h3,h4⟩:=ixN_seq hj
 have hl:=r.length
 have hn:=line63
 have I':Inv X pins σ (upd H p (.lst (xs.set j v))) { s with heap:=s.heap.update p (Obj.mapSeq (·.setIfInBounds j u)) }:=
  I.lstUpd hp ho (mapSeq_set its n j u) (r.set rv j) (by rw [List.length_set]; exact hz) s.toks
 by_cases h0:0 ≤ k
 ·have hk:k.toNat=j:=by
   rw [seqIndex_of h0 h4] at h1
   exact Option.some.inj h1
  exact PySem.W.ki_setAt ho h0 (by omega) (by rw [List.size_toArray,← hl]; exact h4) (by rw [hk]; exact ⟨_,I',q⟩)
 ·have hk:(k + (its.toArray.size:Int)).toNat=j:=by
   rw [seqIndex_neg (by omega) h3] at h1
   rw [List.size_toArray,← hl]
   exact Option.some.inj h1
  exact PySem.W.ki_setBack ho (by omega) (by rw [List.size_toArray,← hl]; exact h3) (by omega) (by rw [hk]; exact ⟨_,I',q⟩)
theorem slice_bounds (lo hi:Option Int) (n:Nat):(sliceBounds lo hi none n).1=((HT.sIx n 0 lo:Nat):Int)∧(sliceBounds lo hi none n).2.1=((HT.sIx n n hi:Nat):Int)∧(sliceBounds lo hi none n).2.2=1:=by
 refine ⟨?_,?_,rfl⟩
 ·cases lo with
  | none=>simp [sliceBounds,HT.sIx]
  | some i=>
   simp only [sliceBounds,HT.sIx,Option.getD_none,show (1:Int) > 0 by decide,if_true]
   by_cases h:i < 0
   ·simp only [h,if_true] <;> omega
   ·simp only [h,if_false] <;> omega
 ·cases hi with
  | none=>simp [sliceBounds,HT.sIx]
  | some i=>
   simp only [sliceBounds,HT.sIx,Option.getD_none,show (1:Int) > 0 by decide,if_true]
   by_cases h:i < 0
   ·simp only [h,if_true] <;> omega
   ·simp only [h,if_false] <;> omega
theorem slicePick_cut (its:List Value) (lo hi:Option Int):slicePick its.toArray lo hi none=((its.drop (HT.sIx its.length 0 lo)).take (HT.sIx its.length its.length hi - HT.sIx its.length 0 lo)).toArray:=by
 obtain ⟨h1,h2,h3⟩:=slice_bounds lo hi its.toArray.size
 unfold slicePick
 rw [h1,h2,h3]
 simp only [sliceRange_one,pick_run,List.size_toArray] <;> rfl
def rSlL (K:PySem.W.Frag):V→Option Int→Option Int→Hp→VK→Prop:=fun x lo hi H Q=>∃ a xs,x=.ref a∧SqL K H a xs∧∀ p,H p=none→Q (.ref p) (upd H p (.lst (cutV xs lo hi)))
theorem sl_list:SlR X (rSlL X.K):=by
 intro pins s σ H x v vl vu lo hi sl Q I rx hs pl pu h
 obtain ⟨a,xs,rfl,hx,q⟩:=h
 cases rx
 obtain ⟨its,r,ht,hz⟩:=I.list hx
 have hlen:=r.length
 refine ⟨"list",_,slot_list_getitem.lookup,ht.isList.typeIs,?_⟩
 refine wpAny_getItem_list_slice ht.isList hs pl pu .none (by simp) ?_ (by rw [List.size_toArray] <;> omega)
 rw [slicePick_cut,← hlen]
 refine ⟨.ref s.heap.objs.size,_,I.laid (t':=s.toks) (o:=.lst (cutV xs lo hi)) (fun b ob q=>Heap.get?_push_of_some _ q) (Nat.le_refl _) ?_,rfl,q _ (I.hok.fresh (Nat.le_refl _))⟩
 exact ⟨Nat.le_trans (cutV_length xs lo hi) hz,_,0,(r.drop (HT.sIx xs.length 0 lo)).take (HT.sIx xs.length xs.length hi - HT.sIx xs.length 0 lo),Heap.get?_push_size _ rfl⟩
def flatV:V→Bool
 | .non=>true
 | .bl _=>true
 | .int _=>true
 | .str _=>true
 | _=>false
def eqV:V→V→Bool
 | .non,.non=>true
 | .bl a,.bl b=>a == b
 | .bl a,.int b=>(if a then 1 else 0) == b
 | .int a,.bl b=>a == (if b then 1 else 0)
 | .int a,.int b=>a == b
 | .str a,.str b=>a == b
 | _,_=>false
theorem eqAt_V {A:Around} {s:Shared} {y x:V} {u v:Value} (ry:RelV y u) (rx:RelV x v) (fy:flatV y=true) (fx:flatV x=true):SeqAt.EqAt A s u v (eqV y x):=by
 cases y with
 | non=>
  cases ry
  cases x with
  | non=>cases rx; exact SeqAt.EqAt.same _
  | bl b=>cases rx; exact SeqAt.EqAt.none_bool b
  | int b=>obtain ⟨t,rfl⟩:=rx; exact SeqAt.EqAt.none_int b t
  | str b=>obtain ⟨t,rfl⟩:=rx; exact SeqAt.EqAt.none_str b t
  | _=>exact absurd (show false=true from fx) Bool.false_ne_true
 | bl a=>
  cases ry
  cases x with
  | non=>cases rx; exact SeqAt.EqAt.bool_none a
  | bl b=>cases rx; exact SeqAt.EqAt.bool_bool a b
  | int b=>obtain ⟨t,rfl⟩:=rx; exact SeqAt.EqAt.bool_int a b t
  | str b=>obtain ⟨t,rfl⟩:=rx; exact SeqAt.EqAt.bool_str a b t
  | _=>exact absurd (show false=true from fx) Bool.false_ne_true
 | int a=>
  obtain ⟨t',rfl⟩:=ry
  cases x with
  | non=>cases rx; exact SeqAt.EqAt.int_none a t'
  | bl b=>cases rx; exact SeqAt.EqAt.int_bool a t' b
  | int b=>obtain ⟨t,rfl⟩:=rx; exact SeqAt.EqAt.int_int a t' b t
  | str b=>obtain ⟨t,rfl⟩:=rx; exact SeqAt.EqAt.int_str a t' b t
  | _=>exact absurd (show false=true from fx) Bool.false_ne_true
 | str a=>
  obtain ⟨t',rfl⟩:=ry
  cases x with
  | non=>cases rx; exact SeqAt.EqAt.str_none a t'
  | bl b=>cases rx; exact SeqAt.EqAt.str_bool a t' b
  | int b=>obtain ⟨t,rfl⟩:=rx; exact SeqAt.EqAt.str_int a t' b t
  | str b=>obtain ⟨t,rfl⟩:=rx; exact SeqAt.EqAt.str_str a t' b t
  | _=>exact absurd (show false=true from fx) Bool.false_ne_true
 | _=>exact absurd (show false=true from fy) Bool.false_ne_true
def eqU (x:V) (u:Value):Bool:=match u with
 | .none=>eqV .non x
 | .bool b=>eqV (.bl b) x
 | .int i _=>eqV (.int i) x
 | .str z _=>eqV (.str z) x
 | _=>false
theorem eqU_of {x y:V} {u:Value} (r:RelV y u) (f:flatV y=true):eqU x u=eqV y x:=by
 cases y with
 | non=>cases r; rfl
 | bl b=>cases r; rfl
 | int i=>obtain ⟨t,rfl⟩:=r; rfl
 | str z=>obtain ⟨t,rfl⟩:=r; rfl
 | _=>exact absurd (show false=true from f) Bool.false_ne_true
theorem any_eqU {x:V}:∀ {xs:List V} {us:List Value},Vals xs us→xs.all flatV=true→us.any (eqU x)=xs.any fun y=>eqV y x
 | _,_,.nil,_=>rfl
 | y :: xs,u :: us,.cons r t,f=>by
  rw [List.all_cons,Bool.and_eq_true] at f
  rw [List.any_cons,List.any_cons,eqU_of r f.1,any_eqU t f.2]
theorem mem_eqAt {A:Around} {s:Shared} {x:V} {v:Value} (rx:RelV x v) (fx:flatV x=true):∀ {xs:List V} {us:List Value},Vals xs us→xs.all flatV=true→∀ u∈us,SeqAt.EqAt A s u v (eqU x u)
 | _,_,.nil,_=>fun u hu=>by cases hu
 | y :: xs,u :: us,.cons r t,f=>fun u' hu=>by
  rw [List.all_cons,Bool.and_eq_true] at f
  rcases List.mem_cons.mp hu with rfl | hu
  ·rw [eqU_of r f.1]; exact eqAt_V r rx f.1 fx
  ·exact mem_eqAt rx fx t f.2 u' hu
def inV (x:V) (xs:List V):Bool:=xs.any fun y=>eqV y x
def rIn (K:PySem.W.Frag) (neg:Bool):R2:=fun x y H Q=>∃ p xs,y=.ref p∧(SqL K H p xs∨SqT K H p xs)∧flatV x=true∧xs.all flatV=true∧Q (.bl (if neg then !inV x xs else inV x xs)) H
theorem op_in_seq:OpR X (compareOp .In) (rIn X.K false):=by
 intro pins s σ H x y v u Q I rx ry h
 obtain ⟨p,xs,rfl,hq,fx,fs,q⟩:=h
 cases ry
 rcases hq with hq | hq
 ·obtain ⟨its,r,pl,hz⟩:=I.list hq
  refine SeqAt.in_listAt (eqU x) pl.isList (fun w hw=>mem_eqAt rx fx r fs w (by simpa using hw)) ⟨.bl _,H,I,rfl,?_⟩
  rw [show its.toArray.any (eqU x)=its.any (eqU x) by simp,any_eqU r fs]
  exact q
 ·obtain ⟨its,r,pl,hz⟩:=I.tuple hq
  refine SeqAt.in_tupleAt (eqU x) pl (fun w hw=>mem_eqAt rx fx r fs w (by simpa using hw)) ⟨.bl _,H,I,rfl,?_⟩
  rw [show its.toArray.any (eqU x)=its.any (eqU x) by simp,any_eqU r fs]
  exact q
theorem op_notIn_seq:OpR X (compareOp .NotIn) (rIn X.K true):=by
 intro pins s σ H x y v u Q I rx ry h
 obtain ⟨p,xs,rfl,hq,fx,fs,q⟩:=h
 cases ry
 rcases hq with hq | hq
 ·obtain ⟨its,r,pl,hz⟩:=I.list hq
  refine SeqAt.notIn_listAt (eqU x) pl.isList (fun w hw=>mem_eqAt rx fx r fs w (by simpa using hw)) ⟨.bl _,H,I,rfl,?_⟩
  rw [show its.toArray.any (eqU x)=its.any (eqU x) by simp,any_eqU r fs]
  exact q
 ·obtain ⟨its,r,pl,hz⟩:=I.tuple hq
  refine SeqAt.notIn_tupleAt (eqU x) pl (fun w hw=>mem_eqAt rx fx r fs w (by simpa using hw)) ⟨.bl _,H,I,rfl,?_⟩
  rw [show its.toArray.any (eqU x)=its.any (eqU x) by simp,any_eqU r fs]
  exact q
theorem op_notIn_str:OpR X (compareOp .NotIn) (fun x y H Q=>∃ i j,x=.str i∧y=.str j∧Q (.bl (!(!(Builtin.Str.occurrences j i 0 j.length 1).isEmpty))) H):=by
 intro pins s σ H x y v u Q I rx ry h
 obtain ⟨i,j,rfl,rfl,q⟩:=h
 obtain ⟨t,rfl⟩:=rx
 obtain ⟨t',rfl⟩:=ry
 exact notIn_str ⟨.bl _,H,I,rfl,q⟩
theorem call_len_seq:CallR X (.builtin "len") (fun xs H Q=>∃ p ys,xs=[.ref p]∧(SqL X.K H p ys∨SqT X.K H p ys)∧Q (.int ys.length) H):=by
 intro pins s σ H xs us Q I r h
 obtain ⟨p,ys,rfl,hq,q⟩:=h
 obtain ⟨u,rfl,rx⟩:=vals1 r
 cases rx
 have hn:=line63
 rcases hq with hq | hq
 ·obtain ⟨its,r',pl,hz⟩:=I.list hq
  have hlen:=r'.length
  exact Calls.call_len_list pl.isList (by simp only [List.size_toArray] <;> omega) ⟨.int ys.length,H,I.tok _,⟨s.toks + 1,by rw [List.size_toArray,hlen]⟩,q⟩
 ·obtain ⟨its,r',pl,hz⟩:=I.tuple hq
  have hlen:=r'.length
  exact len_tuple pl (by simp only [List.size_toArray] <;> omega) ⟨.int ys.length,H,I.tok _,⟨s.toks + 1,by rw [List.size_toArray,hlen]⟩,q⟩
theorem call_len_str:CallR X (.builtin "len") (fun xs H Q=>∃ z,xs=[.str z]∧z.length ≤ sizeLine∧Q (.int z.length) H):=by
 intro pins s σ H xs us Q I r h
 obtain ⟨z,rfl,hz,q⟩:=h
 obtain ⟨u,rfl,t,rfl⟩:=vals1 r
 have hn:=line63
 exact len_str (by omega) ⟨.int z.length,H,I.tok _,⟨_,rfl⟩,q⟩
theorem CallR.or {f:Value} {r r':List V→Hp→VK→Prop} (h:CallR X f r) (h':CallR X f r'):CallR X f (fun xs H Q=>r xs H Q∨r' xs H Q):=by
 intro pins s σ H xs us Q I rs q
 rcases q with q | q
 ·exact h pins s σ H xs us Q I rs q
 ·exact h' pins s σ H xs us Q I rs q
theorem call_tuple_of:CallR X (.type "tuple") (fun xs H Q=>∃ p ys,xs=[.ref p]∧((SqL X.K H p ys∧∀ l,H l=none→Q (.ref l) (upd H l (.tup ys)))∨(SqT X.K H p ys∧Q (.ref p) H))):=by
 intro pins s σ H xs us Q I r h
 obtain ⟨p,ys,rfl,h⟩:=h
 obtain ⟨u,rfl,rx⟩:=vals1 r
 cases rx
 rcases h with ⟨hq,q⟩ | ⟨hq,q⟩
 ·obtain ⟨its,r',pl,hz⟩:=I.list hq
  have hlen:=r'.length
  refine call_tuple_list pl.isList (fun h' kp=>?_) (by simp only [List.size_toArray] <;> omega)
  have I1:Inv X pins σ H { s with heap:=h' }:=I.kept (t':=s.toks) kp
  have I2:Inv X pins σ (upd H h'.objs.size (.tup ys)) { s with heap:=h'.push { cls:=.type "tuple",data:=.seq its.toArray } }:=
   I1.laid (t':=s.toks) (fun b o e=>Heap.get?_push_of_some _ e) (Nat.le_refl _) (show ObjOk X.prog X.w _ _ _ (.tup ys) from ⟨hz,its,r',_,Heap.get?_push_size _ rfl,rfl,_,rfl,rfl⟩)
  exact ⟨.ref h'.objs.size,_,I2,rfl,q _ (I1.hok.fresh (Nat.le_refl _))⟩
 ·obtain ⟨its,r',pl,hz⟩:=I.tuple hq
  exact call_tuple_same pl ⟨.ref p,H,I,rfl,q⟩
def tyV (K:PySem.W.Frag) (T:String) (x:V) (H:Hp):Prop:=match x with
 | .str _=>T="str"
 | .int _=>T="int"
 | .ref p=>(T="list"∧∃ xs,SqL K H p xs)∨(T="tuple"∧∃ o,K.lookup p=some o∧o.cls=.type "tuple"∧o.dict=none) ∨
   (T="dict"∧((∃ kvs,H p=some (.dK kvs))∨∃ kvs,H p=some (.dT kvs)))∨(T="set"∧∃ S n,H p=some (.set S n))
 | _=>False
theorem tyV_is {pins:List (Addr×Obj)} {σ:St} {H:Hp} {s:Shared} {T:String} {x:V} {v:Value} (I:Inv X pins σ H s) (r:RelV x v) (ty:tyV X.K T x H) :
  s.TypeIs v T∧∀ a,v=.ref a→∃ ob,s.heap.get? a=some ob∧ob.dict=none:=by
 cases x with
 | str z=>
  obtain ⟨t,rfl⟩:=r
  cases (show T="str" from ty)
  exact ⟨typeIs_str s z t,fun _ e=>nomatch e⟩
 | int i=>
  obtain ⟨t,rfl⟩:=r
  cases (show T="int" from ty)
  exact ⟨typeIs_int s i t,fun _ e=>nomatch e⟩
 | ref p=>
  cases r
  rcases ty with ⟨rfl,xs,hq⟩ | ⟨rfl,o,hk,hc,hd⟩ | ⟨rfl,hk⟩ | ⟨rfl,S,n,hk⟩
  ·obtain ⟨its,_,pl,_⟩:=I.list hq
   refine ⟨pl.isList.typeIs,fun a e=>?_⟩
   cases e
   obtain ⟨o,n,e,c,hd,_⟩:=pl
   exact ⟨o,e,hd⟩
  ·refine ⟨⟨o,I.kIn p o hk,hc⟩,fun a e=>?_⟩
   cases e
   exact ⟨o,I.kIn _ o hk,hd⟩
  ·have z:∃ o,s.heap.get? p=some o∧o.ExactDict:=by
    rcases hk with ⟨kvs,hk⟩ | ⟨kvs,hk⟩
    ·obtain ⟨_,_,_,_,o,_,_,e,ex,_⟩:=I.hok p _ hk
     exact ⟨o,e,ex⟩
    ·obtain ⟨_,_,_,_,o,_,_,e,ex,_⟩:=I.hok p _ hk
     exact ⟨o,e,ex⟩
   obtain ⟨o,e,ex⟩:=z
   refine ⟨⟨o,e,ex.1⟩,fun a e2=>?_⟩
   cases e2
   exact ⟨o,e,ex.2.1⟩
  ·obtain ⟨o,_,_,_,e,ex,_⟩:=I.hok p _ hk
   refine ⟨⟨o,e,ex.1⟩,fun a e2=>?_⟩
   cases e2
   exact ⟨o,e,ex.2.1⟩
 | _=>exact False.elim ty
def tBM0 (K:PySem.W.Frag) (T:String) (r:V→List V→Hp→VK→Prop) (to:TE):TE:=fun σ H Q=>to σ H fun x H1=>tyV K T x H1∧r x [] H1 Q
def tBM (K:PySem.W.Frag) (T:String) (r:V→List V→Hp→VK→Prop) (to:TE) (t:TA):TE:=fun σ H Q=>to σ H fun x H1=>tyV K T x H1∧t σ H1 fun xs H2=>r x xs H2 Q
variable {o e:Expr} {es:List Expr} {to:TE} {t:TA} {name:Str} {apos cpos:Pos} {T id:String} {r:V→List V→Hp→VK→Prop}
theorem pe_bm0 (pa:PlainAttrs T) (slot:Slot T name id) (hty:typeOf (.builtin id)=pure (.type "method_descriptor")) (hm:MtR X id r) (ho:PE X o to)
  (hbase:attributeBase o name X.env (eval o X.env)=eval o X.env:=by rfl) (hline:(apos.endLine == cpos.line)=true:=by rfl):PE X (.Call (.Attribute o name apos) [] [] cpos) (tBM0 X.K T r to):=by
 intro pins s σ H Q I h
 refine wpAny_Call_method0_late hbase hline (thn (ho pins s σ H _ I h) fun v s1 ⟨x,H1,I1,r1,ty,q1⟩=>?_)
 obtain ⟨h1,h2⟩:=tyV_is I1 r1 ty
 exact ⟨T,id,pa,slot,hty,h1,h2,Calls.callWith_builtin rfl (PySem.evalArgs_none (hm pins s1 σ H1 x [] v [] Q I1 r1 .nil q1))⟩
theorem pe_bm (pa:PlainAttrs T) (slot:Slot T name id) (hty:typeOf (.builtin id)=pure (.type "method_descriptor")) (hm:MtR X id r) (ho:PE X o to) (ha:PA X (e :: es) t)
  (hbase:attributeBase o name X.env (eval o X.env)=eval o X.env:=by rfl)
  (hfew:((backTo cpos (starEach (e :: es) X.env)).all (fun x=>!x.1) && (backToKw cpos (keywordEach [] X.env)).all (fun x=>x.1.isSome)
   && decide ((e :: es).length + ([]:List Keyword).length + (if ([]:List Keyword).isEmpty then 0 else 1) < 30))=true:=by rfl)
  (hline:(apos.endLine == cpos.line)=true:=by rfl) (hs:starEach (e :: es) X.env=(false,eval e X.env) :: starEach es X.env:=by rfl) (hplain:(backTo cpos (starEach es X.env)).any (·.1)=false:=by rfl) :
  PE X (.Call (.Attribute o name apos) (e :: es) [] cpos) (tBM X.K T r to t):=by
 intro pins s σ H Q I h
 refine wpAny_Call_method_late hbase hfew hline rfl (thn (ho pins s σ H _ I h) fun v s1 ⟨x,H1,I1,r1,ty,q1⟩=>?_)
 obtain ⟨h1,h2⟩:=tyV_is I1 r1 ty
 refine ⟨T,id,pa,slot,hty,h1,h2,?_⟩
 have hA:=ha cpos pins s1 σ H1 _ I1 q1
 rw [hs] at hA ⊢
 refine Calls.callWith_builtin (by show (false || (backTo cpos (starEach es X.env)).any (·.1))=false; rw [hplain] <;> rfl) (Calls.evalArgs_plain ?_)
 exact thn hA fun us s2 ⟨vs,H2,I2,r2,q2⟩=>hm pins s2 σ H2 x vs v us Q I2 r1 r2 q2
end
end L2
namespace L2
open PySem PySem.Spec PyProof.Rows
def MtM (X:Cx) (id:String) (r:V→List V→Hp→VK→Prop):Prop:=
 ∀ (pins:List (Addr×Obj)) (s:Shared) (σ:St) (H:Hp) (x:V) (xs:List V) (v:Value) (us:List Value) (Q:VK),Inv X pins σ H s→RelV x v→Vals xs us→r x xs H Q →
  wpAny (model X.prog X.w) X.A (call (.builtin id) (v :: us)) (EP X pins σ Q) X.xe s
theorem Vals.one:∀ {x:V} {us:List Value},Vals [x] us→∃ u,us=[u]∧RelV x u
 | _,_,.cons r .nil=>⟨_,rfl,r⟩
theorem Vals.two:∀ {x y:V} {us:List Value},Vals [x,y] us→∃ u v,us=[u,v]∧RelV x u∧RelV y v
 | _,_,_,.cons r (.cons q .nil)=>⟨_,_,rfl,r,q⟩
theorem Vals.zero:∀ {us:List Value},Vals [] us→us=[]
 | _,.nil=>rfl
theorem Vals.dropLast {xs:List V} {us:List Value} (h:Vals xs us):Vals xs.dropLast us.dropLast:=by
 induction h with
 | nil=>exact .nil
 | cons r t ih=>
  cases t with
  | nil=>exact .nil
  | cons q t'=>exact .cons r ih
theorem erase_last {α:Type} (l:List α):l.eraseIdx (l.length - 1)=l.dropLast:=by
 induction l with
 | nil=>rfl
 | cons a r ih=>
  cases r with
  | nil=>rfl
  | cons b r=>
   have e:(a :: b :: r).length - 1=((b :: r).length - 1) + 1:=by
    have h1:(a :: b :: r).length=r.length + 2:=rfl
    have h2:(b :: r).length=r.length + 1:=rfl
    omega
   rw [e,List.eraseIdx_cons_succ,ih]
   all_goals rfl
section
variable {X:Cx} {pins:List (Addr×Obj)} {σ:St} {H:Hp} {s:Shared} {l b:Addr} {xs ys zs:List V}
theorem Inv.lset {its its':List Value} {n:Nat} {f:Array Value→Array Value} {t':Nat} (I:Inv X pins σ H s) (hH:H l=some (.lst xs))
  (e:s.heap.get? l=some { cls:=.type "list",data:=.seq its.toArray n }) (hf:f its.toArray=its'.toArray) (hv:Vals ys its') (hz:ys.length ≤ sizeLine) (ht:0 < t':=by first | exact Nat.succ_pos _ | assumption | exact L2.Inv.tk (by assumption) | exact Nat.lt_of_lt_of_le (L2.Inv.tk (by assumption)) (by assumption)) :
  Inv X pins σ (upd H l (.lst ys)) { s with heap:=s.heap.update l (Obj.mapSeq f),toks:=t' }:=by
 have q:=PySem.IsL.update e f
 rw [hf] at q
 refine I.write (x:=l) (e:=l) (by rw [hH]; exact trivial) (.inl rfl) (fun b' u hb hu=>(Heap.get?_update_other s.heap (Obj.mapSeq f) (Ne.symm hb)).trans hu) ⟨_,q⟩ ?_
 exact ⟨hz,its',_,hv,q⟩
theorem Inv.lnew {its:List Value} {t':Nat} (I:Inv X pins σ H s) (hv:Vals ys its) (hz:ys.length ≤ sizeLine) (ht:0 < t':=by first | exact Nat.succ_pos _ | assumption | exact L2.Inv.tk (by assumption) | exact Nat.lt_of_lt_of_le (L2.Inv.tk (by assumption)) (by assumption)) :
  Inv X pins σ (upd H s.heap.objs.size (.lst ys)) { s with heap:=s.heap.push { cls:=.type "list",data:=.seq its.toArray },toks:=t' }:=
 I.laid (fun _ _ q=>Heap.get?_push_of_some _ q) (Nat.le_refl _) ⟨hz,its,0,hv,Heap.get?_push_size _ rfl⟩
theorem Inv.fresh (I:Inv X pins σ H s):H s.heap.objs.size=none:=I.hok.fresh (Nat.le_refl _)
theorem Inv.lstM (I:Inv X pins σ H s) (hH:H l=some (.lst xs)):xs.length ≤ sizeLine∧∃ (its:List Value) (n:Nat),Vals xs its∧xs.length=its.length∧s.heap.get? l=some { cls:=.type "list",data:=.seq its.toArray n }:=by
 obtain ⟨z,its,n,r,e⟩:=I.hok l _ hH
 exact ⟨z,its,n,r,r.length,e⟩
end
section
variable {X:Cx}
def rAppend:V→List V→Hp→VK→Prop:=fun x vs H Q=>∃ l xs y,x=.ref l∧vs=[y]∧H l=some (.lst xs)∧xs.length < sizeLine∧Q .non (upd H l (.lst (xs++[y])))
theorem mt_append:MtM X "list.append" rAppend:=by
 intro pins s σ H x vs v us Q I rx rv h
 obtain ⟨l,xs,y,rfl,rfl,hH,hz,q⟩:=h
 cases rx
 obtain ⟨u,rfl,ru⟩:=rv.one
 obtain ⟨z,its,n,r,hl,e⟩:=I.lstM hH
 refine call_meets F.slot_list_append ⟨_,e,rfl⟩ F.entry_list_append (F.args_list_append_2 _ _) (PySem.list_append l its.toArray n u (by rw [List.size_toArray]; omega)) ⟨e,?_⟩
 refine ⟨.non,_,I.lset (its':=its++[u]) hH e (by simp) (r.append (.cons ru .nil)) ?_,rfl,q⟩
 rw [List.length_append,List.length_singleton]
 omega
def rPop:V→List V→Hp→VK→Prop:=fun x vs H Q=>∃ l xs y,x=.ref l∧vs=[]∧H l=some (.lst xs)∧xs[xs.length - 1]?=some y∧Q y (upd H l (.lst xs.dropLast))
theorem mt_pop:MtM X "list.pop" rPop:=by
 intro pins s σ H x vs v us Q I rx rv h
 obtain ⟨l,xs,y,rfl,rfl,hH,hy,q⟩:=h
 cases rx
 have hus:=rv.zero
 subst hus
 obtain ⟨z,its,n,r,hl,e⟩:=I.lstM hH
 obtain ⟨u,hu,ru⟩:=r.get hy
 have hy':its.toArray[its.toArray.size - 1]?=some u:=by
  show its.toArray[its.length - 1]?=some u
  rw [← Array.getElem?_toList,← hl]
  exact hu
 refine call_meets F.slot_list_pop ⟨_,e,rfl⟩ F.entry_list_pop (F.args_list_pop_1 _) (MeetsSeq.list_pop_last l its.toArray n u hy' (by rw [List.size_toArray]; omega)) ⟨e,?_⟩
 refine ⟨y,_,I.lset (its':=its.dropLast) hH e ?_ r.dropLast ?_,ru,q⟩
 ·show its.toArray.eraseIdxIfInBounds (its.toArray.size - 1)=its.dropLast.toArray
  rw [List.size_toArray,List.eraseIdxIfInBounds_toArray,erase_last]
 ·rw [List.length_dropLast]
  omega
def rCat:R2:=fun x y H Q=>∃ l b xs zs,x=.ref l∧y=.ref b∧H l=some (.lst xs)∧H b=some (.lst zs)∧xs.length + zs.length ≤ sizeLine∧∀ p,H p=none→Q (.ref p) (upd H p (.lst (xs++zs)))
theorem op_cat:OpR X (binaryOp .Add) rCat:=by
 intro pins s σ H x y v u Q I rx ry h
 obtain ⟨l,b,xs,zs,rfl,rfl,hH,hB,hz,q⟩:=h
 cases rx
 cases ry
 obtain ⟨z,its,n,r,hl,e⟩:=I.lstM hH
 obtain ⟨z2,its2,n2,r2,hl2,e2⟩:=I.lstM hB
 refine PySem.P.add_list e e2 ?_ (by rw [List.size_toArray,List.size_toArray]; omega)
 have ea:its.toArray++its2.toArray=(its++its2).toArray:=by simp
 rw [ea]
 exact ⟨.ref _,_,I.lnew (t':=s.toks) (r.append r2) (by rw [List.length_append]; omega),rfl,q _ I.fresh⟩
end
section
variable {prog:Program} {w:World} {A:Around} {E:Value→Shared→Prop} {s:Shared}
end
section
variable {X:Cx}
end
end L2
namespace Att
open PySem PySem.W PySem.Calls PyProof.Rows
theorem ints_of_wellAll {P:Params} {h:Heap}:∀ (ns:List Int) (vs:List Value),WellAll P h vs (ns.map WData.int)→IntsAre vs ns:=by
 intro ns
 induction ns with
 | nil=>
  intro vs w
  rw [List.map_nil] at w
  cases w
  exact .nil
 | cons n ns ih=>
  intro vs w
  rw [List.map_cons] at w
  cases w with
  | cons a b=>
   cases a
   exact .cons _ _ (ih _ b)
theorem script_of {l:OpenLaw} {n:Nat} (hn:l.most=some n) {P:Params} {h:Heap} {args:List WData} {vals:List Value}
  (hpre:l.row.toRowW.claim.pre args=true) (hwl:WellAll P h vals args) :
  ∃ a vs ns,vals=[Value.ref a]∧args=[WData.list (ns.map WData.int)]∧h.get? a=some { cls:=.type "list",data:=.seq vs.toArray }∧IntsAre vs ns∧ns.length ≤ n:=by
 have hsh:WShape.hasAll [] args [.list .int]=true:=(pre_splitW hpre).1
 have hc:l.pre.holds [] { args:=args }=true:=(pre_splitW hpre).2
 obtain ⟨d,r,rfl,h1,h2⟩:=hasAllW_cons hsh
 obtain rfl:=hasAllW_nil h2
 obtain ⟨xs,rfl,h3⟩:=hasW_list h1
 obtain ⟨ns,rfl⟩:=items_int h3
 have hlen:ns.length ≤ n:=by
  unfold OpenLaw.pre at hc
  have h4:(WTm.not (.lt (.lit (.int (n:Int))) (.len (.arg 0)))).holds [] { args:=[.list (ns.map .int)] }=true:=by
   have h4:=(holds_andW hc).1
   rw [hn] at h4
   exact h4
  have h5:=condW_of h4 (w_not (w_lt w_lit (w_len_list (w_arg rfl))))
  rw [List.length_map] at h5
  refine Nat.le_of_not_lt fun q=>?_
  have q':(n:Int) < ((ns.length:Nat):Int):=by omega
  first
   | (rw [decide_eq_true q'] at h5; exact absurd h5 (by decide))
   | (simp at h5; omega)
 cases hwl with
 | cons w1 w2=>
  cases w2
  cases w1 with
  | list ho hall=>exact ⟨_,_,ns,rfl,rfl,ho,ints_of_wellAll ns _ hall,hlen⟩
theorem post_true (l:OpenLaw) (args:List WData):l.row.toRowW.claim.post args (.bool true) args=true:=
 postW_of (r:=l.row.toRowW) (X:=(true == true))
  (show WShape.has [] (.bool true) .bool=true by first | rfl | decide | simp [WShape.has,WShape.arms,WShape.armsAll])
  (show (WTm.eq .res (.lit (.bool true))).value [] { args:=args,res:=some (.bool true),after:=args }=some (.bool (true == true)) from w_eq_bool (w_res rfl) w_lit) rfl
theorem attach_call {l:OpenLaw} {n:Nat} {q:Program} {loose:List Str} {XP:(Str→Option Value)→Heap→Prop} {YP:World→Heap→Prop} {d:DefRec}
  (hn:l.most=some n) (hdf:d.params.defaults=[])
  (call:∀ (w:World) (s₀ s₁:Shared) (mg mb:Str→Option Value) (fa:Addr) (o:Obj) (pm cd doc:Value) (a:Addr) (vs:List Value) (ns:List Int),
   Ground q loose [] XP w s₀ mg mb s₁.heap→YP w s₁.heap →
   s₁.heap.get? fa=some o→o.data=.func (docDef d.name d.params d.body d.scope pm cd doc)→s₁.heap.CodeRec cd d.name→mg d.name=some (.ref fa) →
   s₁.heap.get? a=some { cls:=.type "list",data:=.seq vs.toArray }→IntsAre vs ns→ns.length ≤ n→s₁.gens=#[] →
   codeAny (model l.prog w) callerA (.call (.ref fa) ⟨[.ref a],[]⟩) (fun r s'=>r=.ok (.ret (.bool true))∧OldK s₁.heap s'.heap∧s'.os=s₁.os∧AllBare s'.gens) s₁) :
  WalkO q loose XP YP l.row.toRowW d [] (fun f vs=>PySem.call f vs):=by
 intro w s₀ s₁ mg mb G Y fa o pm cd doc dV kV ho hd hcd hD hmg hg args vals as hpre hlay hrd hwl hlo
 obtain rfl:dV=.none:=Dflts.none hD hdf
 obtain rfl:kV=.none:=Dflts.noKw hD
 obtain ⟨a,vs,ns,rfl,rfl,hobj,hints,hlen⟩:=script_of hn hpre hwl
 refine enter_call (codeAny_mono (call w s₀ s₁ mg mb fa o pm cd doc a vs ns G Y ho (fd_plain hd) hcd hmg hobj hints hlen hg) fun r s' hq=>?_)
 obtain ⟨rfl,h2,h3,h4⟩:=hq
 exact ⟨.inl ⟨.bool true,.bool true,[],rfl,fun _=>rfl,.bool true,post_true l _,fun _=>⟨List.Pairwise.nil,fun _ hm=>(nomatch hm)⟩⟩,h2,h3,h4⟩
section
variable {prog:Program} {w:World} {A:Around} {E:Value→Shared→Prop} {s:Shared} {K:Frag}
end
end Att
namespace L2
open PySem PySem.Spec PyProof.Rows
theorem vals_ints:∀ {vs:List Value} {ns:List Int},IntsAre vs ns→Vals (ns.map V.int) vs
 | _,_,.nil=>.nil
 | _,_,.cons n t h=>.cons ⟨t,rfl⟩ (vals_ints h)
def Only (H:Hp):Prop:=∀ b,H b=none∨∃ o xs,H b=some (.frz o (.lst xs))
theorem law_call {P:Program} {w:World} {K:PySem.W.Frag} {mg mb:Str→Option Value} {CX:CXT} {k:Nat} {fa a:Addr} {fd:FuncData} {x:Str} {sp:Sp} {s₁:Shared} {vs:List Value} {ns:List Int}
  (KX:K.In s₁.heap) (hns:s₁.heap.Ns mainGlobals mg) (hb:s₁.heap.Ns builtinsNs mb) (hbb:∀ x:Str,x≠"__name__"→mb x=bootBuiltins x) (hlim:s₁.heap.NoLimit) (hg:s₁.gens=#[])
  (ha:s₁.heap.get? a=some { cls:=.type "list",data:=.seq vs.toArray }) (hi:IntsAre vs ns) (hl:ns.length ≤ sizeLine) (hr:Room k callerA)
  (F:∀ base:Heap,K.In base→base.Ns mainGlobals mg→FnOk P w K mg base CX k fa fd [x] sp) (hbind:∀ (s:Shared) (u:Value),BindsTo s fd ⟨[u],[]⟩ [(x,u)]) (hloc:fd.scope.names.lookup x=some .local)
  (hsp:∀ H:Hp,Only H→SqL K H a (ns.map V.int)→sp [.ref a] H (fun v _=>v=.bl true) fun _ _ _=>False)
  (hCX:∀ H e s',CX [] H s₁ (fun _ _ _=>False) e s'→False) :
  codeAny (model P w) callerA (.call (.ref fa) ⟨[.ref a],[]⟩) (fun r s'=>r=.ok (.ret (.bool true))∧OldK s₁.heap s'.heap∧s'.os=s₁.os∧AllBare s'.gens) s₁:=by
 have rv:=vals_ints hi
 have lenV:=hi.length
 have core:∀ H:Hp,Only H→SqL K H a (ns.map V.int)→HOk P w H s₁.heap→(∀ b,H b≠none→b=a)→(H a≠none→K.lookup a=none) →
   codeAny (model P w) callerA (.call (.ref fa) ⟨[.ref a],[]⟩) (fun r s'=>r=.ok (.ret (.bool true))∧OldK s₁.heap s'.heap∧s'.os=s₁.os∧AllBare s'.gens) s₁:=by
  intro H hO hS hok hA hK
  have base_of:∀ {b:Addr} {o:Obj},s₁.heap.get? b=some o→H b=none→(hidT s₁.heap H).get? b=some o:=fun e n=>hidT_get e n
  have noA:∀ {b:Addr} {o:Obj} {es:Array DictEntry} {ep:Nat},s₁.heap.get? b=some o→o.data=.dict es ep→H b=none:=fun {b o es ep} e d=>by
   cases q:H b with
   | none=>rfl
   | some u=>
    have e':b=a:=hA b (by rw [q]; simp)
    subst e'
    rw [ha] at e; cases e
    have d':Data.seq vs.toArray _=Data.dict es ep:=d
    cases d'
  have nsK:∀ {b:Addr} {m:Str→Option Value},s₁.heap.Ns b m→(hidT s₁.heap H).Ns b m:=fun {b m} ⟨o,es,ep,e,d,r⟩=>⟨o,es,ep,base_of e (noA e d),d,r⟩
  have hKb:K.In (hidT s₁.heap H):=fun b o e=>base_of (KX b o e) (by
   cases q:H b with
   | none=>rfl
   | some u=>
    have e':b=a:=hA b (by rw [q]; simp)
    subst e'
    rw [hK (by rw [q]; simp)] at e; cases e)
  have hM:Mod K mg (hidT s₁.heap H):=⟨hKb,nsK hns,⟨mb,nsK hb,hbb⟩,let ⟨mc,h1,h2⟩:=hlim; ⟨mc,nsK h1,h2⟩⟩
  have e0:Env0 P w K mg (hidT s₁.heap H) callerA [] s₁ H:=⟨rfl,hM,fun b o e=>of_hidT e,Nat.le_of_eq (hidT_size _ _),trivial,fun b hb=>absurd (show b∈([]:List Addr) from hb) (by simp),hok,.of_eq hg⟩
  refine codeAny_mono ((F _ hKb (nsK hns)).run callerA [] s₁ H ⟨[.ref a],[]⟩ [.ref a] [.ref a] _ _ hr e0 ⟨hbind s₁ (.ref a),.inr hloc⟩ (.cons rfl .nil) (hsp H hO hS)) fun r s' h=>?_
  cases r with
  | error e=>exact (hCX H e s' h).elim
  | ok fl=>
   cases fl with
   | next=>exact False.elim h
   | brk=>exact False.elim h
   | cont=>exact False.elim h
   | ret u=>
    obtain ⟨v,H',os,bare,un,hok',r',q,_⟩:=h
    have q':v=.bl true:=q
    subst q'
    obtain rfl:u=Value.bool true:=r'
    refine ⟨rfl,OldK.of_keep fun b o e=>?_,os,bare⟩
    cases q:H b with
    | none=>exact un.keep b o e q (by intro z; exact absurd (show b∈([]:List Addr) from z) (by simp)) (by simp)
    | some u=>
     rcases hO b with z | ⟨ob,xs,z⟩
     ·rw [q] at z; cases z
     ·have z2:=un.frzs b ob _ z
      obtain ⟨e1,_⟩:=hok b _ z
      obtain ⟨e2,_⟩:=hok' b _ z2
      rw [e] at e1; cases e1
      exact e2
 cases hk:K.lookup a with
 | some o=>
  have e:=KX a o hk
  rw [ha] at e
  cases e
  refine core (fun _=>none) (fun _=>.inl rfl) (.inr ⟨_,vs.toArray,_,hk,rfl,rfl,rfl,by rw [List.size_toArray,lenV]; exact hl,by simpa using rv⟩) (fun b u z=>by have z':(none:Option HO)=some u:=z; cases z') (fun b z=>absurd rfl z) fun z=>absurd rfl z
 | none=>
  refine core (fun b=>if b=a then some (.frz { cls:=.type "list",data:=.seq vs.toArray } (.lst (ns.map V.int))) else none) (fun b=>?_) (.inl (.inr ⟨{ cls:=.type "list",data:=.seq vs.toArray },if_pos rfl⟩)) (fun b u z=>?_) (fun b z=>?_) fun _=>hk
  ·by_cases hb:b=a
   ·exact .inr ⟨_,_,if_pos hb⟩
   ·exact .inl (if_neg hb)
  ·by_cases hb:b=a
   ·have z':=(if_pos hb).symm.trans z
    cases z'
    subst hb
    exact ⟨ha,by rw [List.length_map]; exact hl,vs,_,rv,ha⟩
   ·have z':=(if_neg hb).symm.trans z
    cases z'
  ·by_cases hb:b=a
   ·exact hb
   ·exact absurd (if_neg hb) z
end L2
namespace L2
open PySem PySem.Spec PyProof.Rows
abbrev KOf {K:PySem.W.Frag} {h:Heap} (_:K.In h):PySem.W.Frag:=K
theorem walk_of {l:PySem.W.OpenLaw} {n k:Nat} {q:Program} {loose:List Str} {XP:(Str→Option Value)→Heap→Prop} {YP:World→Heap→Prop} {d:DefRec} {K:Params→PySem.W.Frag} {CX:World→CXT} {sp:World→Sp} {x:Str}
  (hn:l.most=some n) (hn2:n ≤ sizeLine) (hdf:d.params.defaults=[]) (hr:Room k callerA)
  (hY:∀ (w:World) (h:Heap),YP w h→(K w.params).In h)
  (F:∀ (w:World) (mg:Str→Option Value) (fa:Addr) (h:Heap),(K w.params).In h→h.Ns mainGlobals mg→mg d.name=some (.ref fa) →
   ∃ fd:FuncData,((∀ (s:Shared) (u:Value),BindsTo s fd ⟨[u],[]⟩ [(x,u)])∧fd.scope.names.lookup x=some .local) ∧
    ∀ base:Heap,(K w.params).In base→base.Ns mainGlobals mg→FnOk l.prog w (K w.params) mg base (CX w) k fa fd [x] (sp w))
  (hsp:∀ (w:World) (H:Hp) (a:Addr) (ns:List Int),ns.length ≤ n→Only H→SqL (K w.params) H a (ns.map V.int)→sp w [.ref a] H (fun v _=>v=.bl true) fun _ _ _=>False)
  (hCX:∀ (w:World) (H:Hp) (s:Shared) (e:Value) (s':Shared),CX w [] H s (fun _ _ _=>False) e s'→False) :
  PySem.W.WalkO q loose XP YP l.row.toRowW d [] (fun f vs=>PySem.call f vs):=by
 refine Att.attach_call hn hdf fun w s₀ s₁ mg mb fa o pm cd doc a vs ns G Y ho hd hcd hmg hobj hints hlen hg=>?_
 have KX:=hY w _ Y
 obtain ⟨fd,hb,hF⟩:=F w mg fa _ KX G.T.g hmg
 exact law_call KX G.T.g G.T.b G.T.builtins G.T.nolimit hg hobj hints (Nat.le_trans hlen hn2) hr hF hb.1 hb.2 (fun H hO hS=>hsp w H a ns hlen hO hS) fun H e s'=>hCX w H s₁ e s'
end L2
namespace L2
open PySem PySem.Spec PyProof.Rows
def defArgs (s:Stmt):Arguments:=match s with
 | .FunctionDef _ a _ _ _ _ _ _ _ _=>a
 | _=>{ posonlyargs:=[],args:=[],vararg:=none,kwonlyargs:=[],kw_defaults:=[],kwarg:=none,defaults:=[] }
def defBody (s:Stmt):List Stmt:=match s with
 | .FunctionDef _ _ b _ _ _ _ _ _ _=>b
 | _=>[]
def defScope (s:Stmt):Scope:=match s with
 | .FunctionDef _ _ _ _ _ _ sc _ _ _=>sc
 | _=>{ kind:=.function,names:=[],isGenerator:=false,isCoroutine:=false }
abbrev CX0:CXT:=fun _ _ _ _ _ _=>False
abbrev E0:XK:=fun _ _ _=>False
theorem pass0 {X:Cx}:Passes CX0 X E0:=fun _ _ _ _ _ _ _ h=>h.elim
structure Fun (K:PySem.W.Frag) (x qual:Str) (st:Stmt) (f:Addr) (fd:FuncData):Prop where
 ex:∃ (oc:Value) (od:Option Addr) (kV doc pm:Value) (an:Option Addr) (cdv ct:Value) (osl:Array (Option Value)),
  fd=PySem.W.fnOf x qual (defArgs st) (defBody st) (defScope st) .none kV doc pm an cdv ct∧K.lookup f=some ⟨oc,od,.func fd,osl⟩∧PySem.W.codeIn K cdv qual=true
 kp:PySem.W.keepIn K (.ref f)=true
section
variable {P:Program} {w:World} {K:PySem.W.Frag} {mg:Str→Option Value} {base:Heap}
theorem Fun.ok {x qual:Str} {st:Stmt} {f:Addr} {fd:FuncData} {N ps:List Str} {k:Nat} {sp:Sp} (F:Fun K x qual st f fd) (S:FnScope N ps (defScope st)) (len:∀ vs H Q E,sp vs H Q E→vs.length=ps.length)
  (hbody:∀ (cdv:Value) (A:Around) (outer:List Env) (s:Shared) (H:Hp) (vs:List V) (Q:VK) (E:XK),Room k (A.deeper (envOfC qual (defScope st) s.heap.objs.size f cdv))→sp vs H Q E →
   ∃ t,PSs (cxOf CX0 P w K mg base N qual (defScope st) f cdv A outer s H E).nox (defBody st) t∧t { nx:=fun _ H'=>Q .non H',rt:=Q } (start N vs) H):FnOk P w K mg base CX0 (k + 1) f fd ps sp:=by
 obtain ⟨oc,od,kV,doc,pm,an,cdv,ct,osl,rfl,lk,hcd⟩:=F.ex
 refine fn_of lk hcd S len fun A outer s H vs Q E hr hsp=>?_
 obtain ⟨t,h,q⟩:=hbody cdv A outer s H vs Q E hr hsp
 exact ⟨t,h.nox,q⟩
theorem fun_mk {x qual:Str} {st:Stmt} {f:Addr} {oc:Value} {od an:Option Addr} {osl:Array (Option Value)} {kV doc pm cdv ct:Value} (l:K.lookup f=some ⟨oc,od,.func (PySem.W.fnOf x qual (defArgs st) (defBody st) (defScope st) .none kV doc pm an cdv ct),osl⟩)
  (c:PySem.W.codeIn K cdv qual=true) (k:PySem.W.keepIn K (.ref f)=true):Fun K x qual st f (PySem.W.fnOf x qual (defArgs st) (defBody st) (defScope st) .none kV doc pm an cdv ct):=⟨⟨oc,od,kV,doc,pm,an,cdv,ct,osl,rfl,l,c⟩,k⟩
end
theorem hu_of {A:Around} {k:Nat} (hr:Room k A):A.units + 1 < cLine:=Nat.lt_of_le_of_lt (Nat.add_le_add_left (by decide:1 ≤ 64) _) hr.units
section
variable {X:Cx}
theorem pv (i:Nat) {x:Str} {pos:Pos} (hN:X.N[i]?=some x:=by rfl) (hv:Vis X.env.scope x:=by first | exact Or.inl rfl | exact Or.inr (Or.inl rfl) | exact Or.inr (Or.inr rfl)) (hd:(x == ("__debug__":Str))=false:=by decide)
  (hcd:(x == ("__classdict__":Str))=false:=by decide):PE X (.Name x pos) (tVar i):=pe_var hN hv hd hcd
end
theorem iteF {A B:Prop} (h:B):if false=true then A else B:=by
 rw [if_neg Bool.false_ne_true]
 exact h
theorem iteT {A B:Prop} (h:A):if true=true then A else B:=by
 rw [if_pos rfl]
 exact h
theorem ite2 {c A B:Prop} [Decidable c] (h1:c→A) (h2:¬ c→B):if c then A else B:=by
 by_cases h:c
 ·rw [if_pos h]
  exact h1 h
 ·rw [if_neg h]
  exact h2 h
def Same (H H':Hp):Prop:=∀ b o,H b=some o→H' b=some o
theorem Same.refl (H:Hp):Same H H:=fun _ _ h=>h
theorem Same.trans {H H1 H2:Hp} (a:Same H H1) (b:Same H1 H2):Same H H2:=fun c o h=>b c o (a c o h)
theorem Same.seq {K:PySem.W.Frag} {H H':Hp} {a:Addr} {xs:List V} (e:Same H H') (h:SqL K H a xs):SqL K H' a xs:=by
 rcases h with (h | ⟨o,h⟩) | h
 ·exact .inl (.inl (e _ _ h))
 ·exact .inl (.inr ⟨o,e _ _ h⟩)
 ·exact .inr h
end L2
end
section
namespace L2
open PySem PySem.Spec PyProof.Rows
def Its (x:Str):It:=⟨fun i _=>i < x.cps.size,fun i H v H'=>H'=H∧∃ c,x.cps[i]?=some c∧v=.str ⟨#[c]⟩,fun i _=>i=x.cps.size⟩
theorem turn_str {P:Program} {w:World} {K:PySem.W.Frag} {y:Str} {py:Pos} (it:Addr) (x:Str) (t:Tok) {ty:String}
  (W:∀ A:Around,A.handled=none→Walks P w A it [it] [it] x.cps.size (SignAt x) (fun i h=>h.IsStrIter it ty x t i))
  (N:∀ (A:Around) (i:Nat) (s:Shared) (Q:Option Value→Shared→Prop) (E:Value→Shared→Prop) (c:Nat),x.cps[i]?=some c→s.heap.IsStrIter it ty x t i →
   (∀ h',h'.IsStrIter it ty x t (i + 1)→Heap.SameBut it s.heap h'→Q (some (.str ⟨#[c]⟩ s.toks)) { s with heap:=h',toks:=s.toks + 1 })→wpAny (model P w) A (pyNext (.ref it)) Q E s)
  (S:∀ (A:Around) (i:Nat) (s:Shared) (Q:Value→Shared→Prop) (E:Value→Shared→Prop),s.heap.IsStrIter it ty x t i→Q (.ref it) s→wpAny (model P w) A (pyIter (.ref it)) Q E s) :
  Turn P w K (.Name y py) (Its x) [it] it (fun i h=>h.IsStrIter it ty x t i) where
 mem:=by simp
 obj:=fun i h st b hb=>by
  have e:b=it:=by simpa using hb
  subst e
  obtain ⟨o,e,c,d⟩:=st
  exact ⟨o,e,fun v z=>by rw [d] at z; cases z⟩
 keep:=fun i h h' st k=>let ⟨o,ho,r⟩:=st; ⟨o,k it (by simp) o ho,r⟩
 item:=by
  intro X hP hw hK hc i pins s σ H E I hf st hg
  subst hP hw hK
  obtain ⟨f0,f1,f2,f3,f4,f5⟩:=hf it (by simp)
  have hc':x.cps[i]?=some (x.cps[i]'hg):=Array.getElem?_eq_getElem hg
  refine N X.A i s _ _ _ hc' st fun h' st' kk=>?_
  have I1:Inv X pins σ H { s with heap:=h',toks:=s.toks + 1 }:=I.turned (fun b o hb e=>kk.extBut b o hb e) f0 f1 f3 f4 f5
  exact ⟨_,rfl,wpAny_pure ⟨.str ⟨#[x.cps[i]'hg]⟩,H,I1,I.st,⟨rfl,_,hc',rfl⟩,st',fun b hb=>(hf b hb).1⟩⟩
 done:=by
  intro X hP hw hK hc i pins s σ H E I hf st hg
  subst hP hw hK
  obtain ⟨f0,f1,f2,f3,f4,f5⟩:=hf it (by simp)
  have e:i=x.cps.size:=hg
  subst e
  exact upQ ((W X.A (I.ok.hd hc)).done s _ _ st fun h' tk kk (hup:s.toks ≤ tk)=>⟨rfl,I.turned (fun b o hb e=>kk b o (by simpa using hb) e) f0 f1 f3 f4 f5⟩)
 self:=fun A i s Q E st h=>S A i s Q E st h
section
variable {X:Cx}
def iStr (tl:TE):TI:=fun σ H R=>tl σ H fun v H1=>∃ x,v=.str x∧R (Its x) H1
theorem pi_str {l:Expr} {tl:TE} {y:Str} {py:Pos} (hl:PE X l tl):PI X (.Name y py) l (iStr tl):=by
 intro pins s σ H R I h
 refine thn (hl pins s σ H _ I h) fun v s1 ⟨z,H1,I1,r1,q1⟩=>?_
 obtain ⟨x,rfl,q⟩:=q1
 obtain ⟨t,rfl⟩:=r1
 have fin:∀ (o:Obj) (ty:String),(∀ A:Around,A.handled=none→Walks X.prog X.w A s1.heap.objs.size [s1.heap.objs.size] [s1.heap.objs.size] x.cps.size (SignAt x) (fun i h=>h.IsStrIter s1.heap.objs.size ty x t i)) →
   (∀ (A:Around) (i:Nat) (s:Shared) (Q:Option Value→Shared→Prop) (E:Value→Shared→Prop) (c:Nat),x.cps[i]?=some c→s.heap.IsStrIter s1.heap.objs.size ty x t i →
    (∀ h',h'.IsStrIter s1.heap.objs.size ty x t (i + 1)→Heap.SameBut s1.heap.objs.size s.heap h'→Q (some (.str ⟨#[c]⟩ s.toks)) { s with heap:=h',toks:=s.toks + 1 })→wpAny (model X.prog X.w) A (pyNext (.ref s1.heap.objs.size)) Q E s) →
   (∀ (A:Around) (i:Nat) (s:Shared) (Q:Value→Shared→Prop) (E:Value→Shared→Prop),s.heap.IsStrIter s1.heap.objs.size ty x t i→Q (.ref s1.heap.objs.size) s→wpAny (model X.prog X.w) A (pyIter (.ref s1.heap.objs.size)) Q E s) →
   (s1.heap.push o).IsStrIter s1.heap.objs.size ty x t 0→PIE X pins σ (.Name y py) R (.ref s1.heap.objs.size) { s1 with heap:=s1.heap.push o }:=fun o ty W N S st=>by
  refine ⟨s1.heap.objs.size,[s1.heap.objs.size],_,_,H1,rfl,I1.kept (t':=s1.toks) fun b o e=>Heap.get?_push_of_some _ e,turn_str s1.heap.objs.size x t W N S,st,fun b hb=>?_,q⟩
  have e:b=s1.heap.objs.size:=by simpa using hb
  subst e
  exact I1.fpOk (Nat.le_refl _) (I1.hok.fresh (Nat.le_refl _))
 cases ha:x.cps.all (· < 128)
 ·exact wpAny_pyIter_wide ha (fin _ "str_iterator" (fun A hA=>Walks.strWide hA _ x t) (fun A i s Q E c hc st h=>wpAny_pyNext_wide_item st (c:=c) hc h) (fun _ _ _ _ _ st h=>wpAny_pyIter_striter_wide st h) ⟨_,Heap.get?_push_size _ rfl,rfl,rfl⟩)
 ·exact wpAny_pyIter_ascii ha (fin _ "str_ascii_iterator" (fun A hA=>Walks.strAscii hA _ x t) (fun A i s Q E c hc st h=>wpAny_pyNext_ascii_item st (c:=c) hc h) (fun _ _ _ _ _ st h=>wpAny_pyIter_striter_ascii st h) ⟨_,Heap.get?_push_size _ rfl,rfl,rfl⟩)
end
theorem for_str {x:Str} {g:TG} {tb:TS} {D:Ends} {σ:St} {H:Hp} (Pv:Nat→St→Hp→Prop) (h0:Pv 0 σ H)
  (hs:∀ i c σ H,x.cps[i]?=some c→Pv i σ H→g (.str ⟨#[c]⟩) σ H fun σ2 H2=>tb { D with nx:=Pv (i + 1),ct:=Pv (i + 1),bk:=D.nx } σ2 H2) (hd:∀ σ H,Pv x.cps.size σ H→D.nx σ H) :
  ∃ W:Nat→Nat→St→Hp→Prop,(∃ m,W 0 m σ H)∧∀ i m σ H,W i m σ H →
   ((Its x).stop i H∧D.nx σ H)∨((Its x).go i H∧∃ N:St→Hp→Prop,(∀ σ' H',N σ' H'→∃ m',m' < m∧W (i + 1) m' σ' H')∧∀ v H',(Its x).yld i H v H'→g v σ H' fun σ2 H2=>tb { D with nx:=N,ct:=N,bk:=D.nx } σ2 H2):=by
 refine ⟨fun i m σ H=>m=x.cps.size - i∧i ≤ x.cps.size∧Pv i σ H,⟨x.cps.size,by simp,Nat.zero_le _,h0⟩,?_⟩
 rintro i m σ H ⟨rfl,hi,p⟩
 by_cases hlt:i < x.cps.size
 ·refine .inr ⟨hlt,Pv (i + 1),fun σ' H' p'=>⟨x.cps.size - (i + 1),by omega,rfl,hlt,p'⟩,fun v H' y=>?_⟩
  obtain ⟨e,c,hc,ev⟩:=y
  subst e ev
  exact hs i c σ _ hc p
 ·have e:i=x.cps.size:=by omega
  subst e
  exact .inl ⟨rfl,hd σ H p⟩
def clOf (env:Env):List (Str×NameKind)→List (Str×Addr)→List (Str×Addr)
 | [],cs=>cs
 | (n,k) :: r,cs=>clOf env r (if k == .free then match env.cells.lookup n with | some a=>(n,a) :: cs | none=>cs else cs)
theorem clOf_from {env:Env} {x:Str} {c:Addr}:∀ {ns:List (Str×NameKind)} {cs:List (Str×Addr)},(∀ p∈cs,env.cells.lookup p.1=some p.2)→(clOf env ns cs).lookup x=some c→env.cells.lookup x=some c
 | [],cs,h,e=>by
  unfold clOf at e
  exact h (x,c) (PySem.mem_of_lookup e)
 | (n,k) :: r,cs,h,e=>by
  unfold clOf at e
  refine clOf_from (ns:=r) ?_ e
  intro p hp
  split at hp
  ·split at hp
   ·rename_i a ea
    rcases List.mem_cons.mp hp with rfl | hp
    ·exact ea
    ·exact h p hp
   ·exact h p hp
  ·exact h p hp
theorem lookup_ne_none {x:Str}:∀ {cs:List (Str×Addr)},(∃ c,(x,c)∈cs)→∃ c,cs.lookup x=some c
 | [],⟨_,h⟩=>nomatch h
 | (n,a) :: r,⟨c,h⟩=>by
  rw [List.lookup_cons]
  cases e:x == n with
  | true=>exact ⟨a,rfl⟩
  | false=>
   rcases List.mem_cons.mp h with h | h
   ·cases h
    rw [beq_self_eq_true] at e; cases e
   ·exact lookup_ne_none ⟨c,h⟩
theorem clOf_has {env:Env} {x:Str}:∀ {ns:List (Str×NameKind)} {cs:List (Str×Addr)},((∃ c,(x,c)∈cs)∨((x,NameKind.free)∈ns∧∃ c,env.cells.lookup x=some c))→∃ c,(x,c)∈clOf env ns cs
 | [],cs,h=>by
  unfold clOf
  rcases h with h | ⟨h,_⟩
  ·exact h
  ·cases h
 | (n,k) :: r,cs,h=>by
  unfold clOf
  refine clOf_has (ns:=r) ?_
  rcases h with ⟨c,h⟩ | ⟨h,c,hc⟩
  ·refine .inl ⟨c,?_⟩
   split
   ·split
    ·exact List.mem_cons_of_mem _ h
    ·exact h
   ·exact h
  ·rcases List.mem_cons.mp h with h | h
   ·cases h
    refine .inl ⟨c,?_⟩
    rw [if_pos (by decide),hc]
    exact List.mem_cons_self
   ·exact .inr ⟨h,c,hc⟩
theorem closureFor_eq {sc:Scope} {env:Env} (h:∀ p∈sc.names,p.2=NameKind.free→∃ c,env.cells.lookup p.1=some c):closureFor sc env=pure (clOf env sc.names []):=by
 have go:∀ (ns:List (Str×NameKind)) (cs:List (Str×Addr)),(∀ p∈ns,p.2=NameKind.free→∃ c,env.cells.lookup p.1=some c) →
   (forIn ns cs fun (x:Str×NameKind) (r:List (Str×Addr))=>(if (x.2 == NameKind.free)=true then do
     let y ← cellOf env x.1
     pure (ForInStep.yield ((x.1,y) :: r)) else pure (ForInStep.yield r):Sem (ForInStep (List (Str×Addr)))))=(pure (clOf env ns cs):Sem (List (Str×Addr))):=by
  intro ns
  induction ns with
  | nil=>intro cs _; rfl
  | cons p r ih=>
   intro cs hp
   obtain ⟨n,k⟩:=p
   rw [List.forIn_cons]
   unfold clOf
   by_cases hk:k=NameKind.free
   ·subst hk
    obtain ⟨c,hc⟩:=hp (n,.free) List.mem_cons_self rfl
    have e1:cellOf env n=pure c:=by unfold cellOf; rw [hc]
    simp only [beq_self_eq_true,if_true,e1,hc,pure_bind]
    exact ih _ fun q hq=>hp q (List.mem_cons_of_mem _ hq)
   ·have hb:(k == NameKind.free)=false:=by simpa using hk
    simp only [hb,Bool.false_eq_true,if_false,pure_bind]
    exact ih _ fun q hq=>hp q (List.mem_cons_of_mem _ hq)
 unfold closureFor
 have:=go sc.names [] h
 simp only [bind_pure_comp,id_map'] at this ⊢
 rw [this]
 rfl
end L2
end
section
namespace L2
open PySem PySem.Spec PyProof.Rows
theorem relabel_lookup {env:Env} {x:Str} {k':NameKind}:∀ {ns:List (Str×NameKind)},
  (ns.map fun (n,k)=>if (k == NameKind.free && env.scope.kind == .function && env.kindOf n == some .cell) then (n,NameKind.cell) else (n,k)).lookup x=some k' →
  ∃ k,ns.lookup x=some k∧(k'=k∨(k=.free∧k'=.cell))
 | [],h=>by simp at h
 | (n,k) :: r,h=>by
  have h':List.lookup x ((if (k == NameKind.free && env.scope.kind == .function && env.kindOf n == some .cell)=true then (n,NameKind.cell) else (n,k)) :: (r.map fun (n,k)=>if (k == NameKind.free && env.scope.kind == .function && env.kindOf n == some .cell) then (n,NameKind.cell) else (n,k)))=some k':=h
  rw [List.lookup_cons]
  by_cases hc:(k == NameKind.free && env.scope.kind == .function && env.kindOf n == some .cell)=true
  ·rw [if_pos hc,List.lookup_cons] at h'
   cases e:x == n with
   | true=>
    rw [e] at h'
    cases h'
    refine ⟨k,rfl,.inr ⟨?_,rfl⟩⟩
    rw [Bool.and_eq_true,Bool.and_eq_true] at hc
    exact eq_of_beq hc.1.1
   | false=>
    rw [e] at h'
    exact relabel_lookup h'
  ·rw [if_neg hc,List.lookup_cons] at h'
   cases e:x == n with
   | true=>
    rw [e] at h'
    cases h'
    exact ⟨_,rfl,.inl rfl⟩
   | false=>
    rw [e] at h'
    exact relabel_lookup h'
theorem relabel_has {env:Env} {x:Str} {k:NameKind}:∀ {ns:List (Str×NameKind)},ns.lookup x=some k →
  ∃ k',(ns.map fun (n,k)=>if (k == NameKind.free && env.scope.kind == .function && env.kindOf n == some .cell) then (n,NameKind.cell) else (n,k)).lookup x=some k'∧(k'=k∨(k=.free∧k'=.cell))
 | [],h=>by simp at h
 | (n,k0) :: r,h=>by
  show ∃ k',List.lookup x ((if (k0 == NameKind.free && env.scope.kind == .function && env.kindOf n == some .cell)=true then (n,NameKind.cell) else (n,k0)) :: (r.map fun (n,k)=>if (k == NameKind.free && env.scope.kind == .function && env.kindOf n == some .cell) then (n,NameKind.cell) else (n,k)))=some k'∧_
  rw [List.lookup_cons] at h
  by_cases hc:(k0 == NameKind.free && env.scope.kind == .function && env.kindOf n == some .cell)=true
  ·rw [if_pos hc,List.lookup_cons]
   cases e:x == n with
   | true=>
    rw [e] at h
    cases h
    refine ⟨_,rfl,.inr ⟨?_,rfl⟩⟩
    rw [Bool.and_eq_true,Bool.and_eq_true] at hc
    exact eq_of_beq hc.1.1
   | false=>
    rw [e] at h
    exact relabel_has h
  ·rw [if_neg hc,List.lookup_cons]
   cases e:x == n with
   | true=>
    rw [e] at h
    cases h
    exact ⟨_,rfl,.inl rfl⟩
   | false=>
    rw [e] at h
    exact relabel_has h
abbrev Cap:=List (Option Nat)
def capt (ix:Cap) (σ:St):St:=ix.map fun o=>(o.bind fun j=>σ[j]?).join
def capOk (N N':List Str) (sc sc':Scope) (ix:Cap):Bool:=
 (ix.length == N'.length) && (sc'.kind == .function) &&
 (sc'.names.all fun p=>p.2 != .cell && (p.2 != .local || sc'.names.lookup p.1 == some .local) && (p.2 != .free || (sc.names.lookup p.1 == some .cell || sc.names.lookup p.1 == some .free))) &&
 (List.range ix.length).all fun k=>match ix[k]? with
  | some (some j)=>match N'[k]? with
   | some x=>N[j]? == some x && sc'.names.lookup x == some .free
   | none=>false
  | _=>true
structure CapOk (N N':List Str) (sc sc':Scope) (ix:Cap):Prop where
 len:ix.length=N'.length
 kind:sc'.kind=.function
 nocell:∀ p∈sc'.names,p.2≠.cell
 loc:∀ p∈sc'.names,p.2=.local→sc'.names.lookup p.1=some .local
 fre:∀ p∈sc'.names,p.2=.free→sc.names.lookup p.1=some .cell∨sc.names.lookup p.1=some .free
 cap:∀ (k j:Nat),ix[k]?=some (some j)→∃ x,N'[k]?=some x∧N[j]?=some x∧sc'.names.lookup x=some .free
theorem capOk_of {N N':List Str} {sc sc':Scope} {ix:Cap} (h:capOk N N' sc sc' ix=true):CapOk N N' sc sc' ix:=by
 unfold capOk at h
 simp only [Bool.and_eq_true,List.all_eq_true,beq_iff_eq] at h
 obtain ⟨⟨⟨h1,h2⟩,h3⟩,h4⟩:=h
 refine ⟨h1,h2,fun p hp=>?_,fun p hp hl=>?_,fun p hp hf=>?_,fun k j hk=>?_⟩
 ·have:=(h3 p hp).1.1
  simpa using this
 ·have:=(h3 p hp).1.2
  rw [hl] at this
  simpa using this
 ·have:=(h3 p hp).2
  rw [hf] at this
  simpa using this
 ·have hlt:k < ix.length:=(List.getElem?_eq_some_iff.mp hk).1
  have:=h4 k (List.mem_range.mpr hlt)
  rw [hk] at this
  simp only at this
  cases e:N'[k]? with
  | none=>rw [e] at this; simp at this
  | some x=>
   rw [e] at this
   simp only [Bool.and_eq_true,beq_iff_eq] at this
   exact ⟨x,rfl,this.1,this.2⟩
abbrev Cx.comp (X:Cx) (sc:Scope) (N':List Str) (C:Addr) (s₀:Shared) (H₀:Hp) (ex:List Addr):Cx:=
 { X with N:=N',s₀:=s₀,H₀:=H₀,env:=compEnvC sc (clOf X.env sc.names []) C X.env,outer:=X.stack,stack:=X.stack,ex:=ex,fn:=fun _=>false,pn:=[],xe:=fun _ _=>False }
def Ext (σ σ':St):Prop:=σ.length=σ'.length∧∀ (i:Nat) v,σ[i]?=some (some v)→σ'[i]?=some (some v)
theorem ext_set {σ:St} {i:Nat} {v:Option V} (h:σ[i]?=some none):Ext σ (σ.set i v):=by
 refine ⟨by simp,fun j w e=>?_⟩
 by_cases hj:i=j
 ·subst hj; rw [h] at e; cases e
 ·rw [List.getElem?_set_ne hj]; exact e
def PTs (X:Cx) (ifs:List Expr) (t:TT):Prop:=
 ∀ (pins:List (Addr×Obj)) (s:Shared) (σ:St) (H:Hp) (Q:Bool→Hp→Prop),Inv X pins σ H s→t σ H Q →
  wpAny (model X.prog X.w) X.A (forIn ifs true fun c r=>if r=true then do let ok ← isTrue c X.env (eval c X.env); pure (ForInStep.yield ok) else pure (ForInStep.yield r)) (TP X pins σ Q) X.xe s
def tYes:TT:=fun _ H Q=>Q true H
theorem pts_nil {X:Cx}:PTs X [] tYes:=fun _ _ _ H _ I h=>wpAny_tests_nil ⟨H,I,h⟩
theorem pts_one {X:Cx} {c:Expr} {t:TT} (h:PT X c t):PTs X [c] t:=fun pins s σ H Q I hw=>wpAny_tests_one (h pins s σ H Q I hw)
def CompGo (J:It) (ix:Cap) (g:TG) (tt:TT) (te:TE) (σ:St) (H1:Hp) (Q:VK):Prop:=∃ W:Nat→Nat→List V→Hp→Prop,(∃ m,W 0 m [] H1)∧∀ i m ys H,W i m ys H →
 (J.stop i H∧∀ D,H D=none→Q (.ref D) (upd H D (.lst ys))) ∨
 (J.go i H∧ys.length < sizeLine∧∀ x H',J.yld i H x H'→g x (capt ix σ) H' fun σ2 H2=>Ext (capt ix σ) σ2∧tt σ2 H2 fun b H3=>
  if b=true then te σ2 H3 fun y H4=>∃ m',m' < m∧W (i + 1) m' (ys++[y]) H4 else ∃ m',m' < m∧W (i + 1) m' ys H3)
def tComp (ix:Cap) (wi:TI) (g:TG) (tt:TT) (te:TE):TE:=fun σ H Q=>wi σ H fun J H1=>CompGo J ix g tt te σ H1 Q
theorem HOk.track {P:Program} {w:World} {H:Hp} {h:Heap} {a:Addr} {o:HO} (x:HOk P w H h) (hn:H a=none) (new:ObjOk P w (upd H a o) h a o):HOk P w (upd H a o) h:=fun b u e=>by
 by_cases hb:b=a
 ·subst hb; rw [upd_same] at e; cases e; exact new
 ·rw [upd_ne hb] at e
  exact (x b u e).stay (fun c v _ q=>q) (fun c q=>by rw [upd_ne (ne_of_none q hn)]; exact q) fun c xs q=>by rw [upd_ne (ne_of_none q hn)]; exact q
theorem codeAny_compLoop_own {prog:Program} {w:World} {A:Around} {R:Result→Shared→Prop} {s:Shared} {elt target iter:Expr} {ifs:List Expr} {scope:Scope} {pos:Pos} {it acc:Value} {env:Env} (I:Nat→Shared→Prop)
  (turn:∀ n s,I n s→wpAny (model prog w) A (pyNext it) (fun r s₁=>match r with
   | none=>R (.ok .next) s₁
   | some v=>wpAny (model prog w) A (letOwnedTupleGo target it v) (fun _ s₁'=>wpAny (model prog w) A (assign target env v) (fun _ s₂=>
     wpAny (model prog w) A (forIn ifs true fun c r=>if r=true then do let ok ← isTrue c env (eval c env); pure (ForInStep.yield ok) else pure (ForInStep.yield r)) (fun ok s₃=>
      if ok=true then wpAny (model prog w) A (eval elt env) (fun x s₄=>
       wpAny (model prog w) A (call (.builtin "list.append") [acc,x]) (fun _ s₅=>∃ m,m < n∧I m s₅) (notedBy (model prog w) A env fun e s'=>R (.error e) s') s₄) (notedBy (model prog w) A env fun e s'=>R (.error e) s') s₃
      else ∃ m,m < n∧I m s₃) (notedBy (model prog w) A env fun e s'=>R (.error e) s') s₂) (notedBy (model prog w) A env fun e s'=>R (.error e) s') s₁') (notedBy (model prog w) A env fun e s'=>R (.error e) s') s₁) (notedBy (model prog w) A env fun e s'=>R (.error e) s') s)
  (n:Nat) (h:I n s) :
  codeAny (model prog w) A (.compLoop (.ListComp elt [⟨target,iter,ifs,0⟩] scope pos) 0 it acc env) R s:=by
 refine codeAny_loop rfl I (fun n s hI=>?_) n h
 show wpAny _ A ((compTurn (.ListComp elt [⟨target,iter,ifs,0⟩] scope pos) 0 it acc env).onRaise (fun x=>do noteFrame x env; theTreesLotGoes x)) _ _ s
 refine wpAny_noted ?_
 rw [compTurn_list]
 refine wpAny_bind (wpAny_standAt (wpAny_bind (wpAny_mono (turn n s hI) (fun r s₁ h₁=>?_) fun _ _ h'=>h')))
 cases r with
 | none=>exact wpAny_pure h₁
 | some v=>
  refine wpAny_bind (wpAny_mono h₁ (fun _ s₁' h₁'=>?_) fun _ _ h'=>h')
  refine wpAny_bind (wpAny_mono h₁' (fun _ s₂ h₂=>wpAny_bind (wpAny_mono h₂ (fun ok s₃ h₃=>?_) fun _ _ h'=>h')) fun _ _ h'=>h')
  cases ok with
  | false=>exact wpAny_pure ⟨rfl,h₃⟩
  | true=>
   exact wpAny_bind (wpAny_bind (wpAny_mono h₃ (fun x s₄ h₄=>wpAny_bind (wpAny_mono h₄ (fun _ s₅ h₅=>wpAny_pure (wpAny_pure ⟨rfl,h₅⟩)) fun _ _ h'=>h')) fun _ _ h'=>h'))
section
variable {X:Cx}
theorem no_exc {M:Model} {A:Around} {α:Type} {t:Sem α} {Q:α→Shared→Prop} {E:Value→Shared→Prop} {s:Shared} (h:wpAny M A t Q (fun _ _=>False) s):wpAny M A t Q E s:=wpAny_mono h (fun _ _ q=>q) fun _ _ z=>z.elim
theorem comp_blockC {Cp:Cx→Prop} {elt tg iter:Expr} {ifs:List Expr} {sc:Scope} {pos:Pos} {N':List Str} {ix:Cap} {g:TG} {tt:TT} {te:TE} {pins:List (Addr×Obj)} {σ:St} {s:Shared} {Q:VK} {RR:Value→Addr→Result→Shared→Prop} {E:Value→Shared→Prop}
  {itv:Value} (hc:∀ C s₀ H₀ ex,Cp (X.comp sc N' C s₀ H₀ ex)) (ok:CapOk X.N N' X.env.scope sc ix)
  (hg:∀ C s₀ H₀ ex,PG (X.comp sc N' C s₀ H₀ ex) tg g) (ht:∀ C s₀ H₀ ex,PTs (X.comp sc N' C s₀ H₀ ex) ifs tt) (he:∀ C s₀ H₀ ex,PE (X.comp sc N' C s₀ H₀ ex) elt te)
  (hi:PIEQ Cp X pins σ tg (fun J H1=>CompGo J ix g tt te σ H1 Q) itv s)
  (fin:∀ (D C:Addr) (s':Shared) (H':Hp) (m:Str→Option Value),Inv X pins σ H' s'→Q (.ref D) H'→s'.heap.Ns C m→H' C=none→C≠X.env.locals→X.s₀.heap.objs.size ≤ C→(∀ x c,X.env.cells.lookup x=some c→c≠C)→(∀ p∈X.pn++pins,p.1≠C) →
   RR (.ref D) C (.ok .next) s') :
  wpAny (model X.prog X.w) X.A (newList []) (fun acc s₃=>wpAny (model X.prog X.w) X.A (newFunctionEnv sc X.env.globals (clOf X.env sc.names []) [] X.env.qual none .none (some X.env)) (fun cenv s₄=>
   codeAny (model X.prog X.w) X.A (.compStart (.ListComp elt [⟨tg,iter,ifs,0⟩] sc pos) 0 itv acc { cenv with scope:=relabel sc X.env }) (RR acc cenv.locals) s₄) E s₃) E s:=by
 obtain ⟨it,fp,tn,J,H2,rfl,I2,T,st2,f2,W,⟨m0,w0⟩,turn⟩:=hi
 refine wpAny_newObj_type (wpAny_newFunctionEnv ok.nocell (by intro y hy; simp at hy) (fun h₁ hns₁ hsb₁=>?_) ok.kind)
 dsimp only at hns₁ hsb₁ ⊢
 generalize hHD:s.heap.push { cls:=.type "list",dict:=none,data:=.seq ([]:List Value).toArray }=hD at hns₁ hsb₁ ⊢
 have hCs:hD.objs.size=s.heap.objs.size + 1:=by rw [← hHD,Heap.size_push]
 have upC:s.heap.objs.size < hD.objs.size:=by rw [hCs]; exact Nat.lt_succ_self _
 have hDC:s.heap.objs.size≠hD.objs.size:=by rw [hCs]; exact Nat.ne_of_lt (Nat.lt_succ_self _)
 have below:∀ b o,s.heap.get? b=some o→b≠hD.objs.size∧b≠s.heap.objs.size:=fun b o e=>by
  have:=Heap.lt_size e
  exact ⟨Nat.ne_of_lt (by rw [hCs]; exact Nat.lt_succ_of_lt this),Nat.ne_of_lt this⟩
 have old:∀ b o,s.heap.get? b=some o→h₁.get? b=some o:=fun b o e=>hsb₁.extBut b o (below b o e).1 (Heap.get?_push_of_some _ (hHD ▸ Heap.get?_push_of_some _ e))
 have hacc:h₁.get? s.heap.objs.size=some { cls:=.type "list",data:=.seq ([]:List Value).toArray 0 }:=hsb₁.extBut _ _ hDC (Heap.get?_push_of_some _ (hHD ▸ Heap.get?_push_size _ rfl))
 have fpo:∀ b∈fp,b < s.heap.objs.size:=fun b hb=>let ⟨o,e,_⟩:=T.obj _ _ st2 b hb; Heap.lt_size e
 have cellX:∀ x c,(clOf X.env sc.names []).lookup x=some c→X.env.cells.lookup x=some c:=fun x c e=>clOf_from (fun p hp=>absurd hp (by simp)) e
 have cellLt:∀ x c,X.env.cells.lookup x=some c→c < s.heap.objs.size:=fun x c e=>let ⟨v,z⟩:=I2.cell x c e; z.lt
 have hasC:∀ x,(x,NameKind.free)∈sc.names→∃ c,(clOf X.env sc.names []).lookup x=some c:=fun x hx=>by
  have h1:=I2.ok.has x (ok.fre (x,.free) hx rfl)
  exact lookup_ne_none (clOf_has (.inr ⟨hx,h1⟩))
 have okX:(X.comp sc N' hD.objs.size s H2 fp).Ok:=by
  refine ⟨I2.ok.mod,ok.kind,I2.ok.glob,I2.ok.blt,?_,?_,?_,?_,I2.ok.hd,I2.ok.frames,.inl rfl,?_,I2.bs,Nat.le_trans I2.ok.bsz I2.sz,?_,?_,I2.stack,I2.stkFree⟩
  ·exact Nat.le_of_lt upC
  ·intro x y c h1 h2
   exact I2.ok.inj x y c (cellX x c h1) (cellX y c h2)
  ·intro x hx
   have hx':(relabel sc X.env).names.lookup x=some .cell∨(relabel sc X.env).names.lookup x=some .free:=hx
   have:∃ k,sc.names.lookup x=some k∧(k=.free∨k=.cell):=by
    rcases hx' with h | h
    ·obtain ⟨k,e,z⟩:=relabel_lookup h
     rcases z with z | ⟨z,_⟩
     ·exact ⟨k,e,.inr z.symm⟩
     ·exact ⟨k,e,.inl z⟩
    ·obtain ⟨k,e,z⟩:=relabel_lookup h
     rcases z with z | ⟨_,z⟩
     ·exact ⟨k,e,.inl z.symm⟩
     ·cases z
   obtain ⟨k,e,z⟩:=this
   rcases z with rfl | rfl
   ·exact hasC x (PySem.mem_of_lookup e)
   ·exact absurd rfl (ok.nocell _ (PySem.mem_of_lookup e))
  ·intro x c h _
   cases h
  ·intro b hb
   refine ⟨?_,fun x c e=>(f2 b hb).2.2.2.2.1 x c (cellX x c e)⟩
   exact Nat.ne_of_lt (by rw [hCs]; exact Nat.lt_succ_of_lt (fpo b hb))
  ·intro b o e hb
   rcases (f2 b hb).2.2.2.1 with z | z
   ·exact I2.ok.noex b o e z
   ·exact absurd (Nat.lt_of_lt_of_le (Heap.lt_size (I2.ok.bs b o e).1) z) (Nat.lt_irrefl _)
  ·intro b hb z
   rcases List.mem_cons.mp (I2.stkSub b z) with z | z
   ·exact (f2 b hb).2.1 z
   ·exact (f2 b hb).2.2.1 z
 have hnD:H2 s.heap.objs.size=none:=I2.hok.fresh (Nat.le_refl _)
 have hnC:H2 hD.objs.size=none:=I2.hok.fresh (Nat.le_of_lt upC)
 have nofsD:∀ a,s.heap.objs.size ≤ a→a ∉ frs X.stack:=fun a ha z=>by
  rcases List.mem_cons.mp (I2.stkSub a z) with z | z
  ·exact absurd (Nat.lt_of_lt_of_le I2.lt ha) (by rw [z]; exact Nat.lt_irrefl _)
  ·exact I2.nofs ha z
 have start:Inv (X.comp sc N' hD.objs.size s H2 fp) [(s.heap.objs.size,{ cls:=.type "list",data:=.seq ([]:List Value).toArray 0 })] (capt ix σ) H2 { s with heap:=h₁,toks:=s.toks + ([]:List (Str×Value)).length }:=by
  refine ⟨okX,rfl,I2.bare,Un.kept old,⟨_,hns₁,?_⟩,fun x c e=>?_,hnC,fun x c e=>I2.freeC x c (cellX x c e),fun p hp=>?_,I2.hok.kept old,?_,Nat.lt_of_lt_of_le I2.tk (Nat.le_add_right _ _)⟩
  ·intro i x v hN hv hvis
   have hl:i < ix.length:=by rw [ok.len]; exact (List.getElem?_eq_some_iff.mp hN).1
   have hv':(ix.map fun o=>(o.bind fun j=>σ[j]?).join)[i]?=some (some v):=hv
   rw [List.getElem?_map,List.getElem?_eq_getElem hl] at hv'
   have hv'':((ix[i].bind fun j=>σ[j]?).join)=some v:=Option.some.inj hv'
   cases ej:ix[i] with
   | none=>rw [ej] at hv''; cases hv''
   | some j=>
    rw [ej] at hv''
    have hσ:σ[j]?=some (some v):=by
     have z:(σ[j]?).join=some v:=hv''
     cases q:σ[j]? with
     | none=>rw [q] at z; cases z
     | some o=>rw [q] at z; exact congrArg some z
    obtain ⟨x',e1,e2,e3⟩:=ok.cap i j (by rw [List.getElem?_eq_getElem hl,ej])
    rw [show N'[i]?=some x from hN] at e1
    cases e1
    have hk:=ok.fre (x,.free) (PySem.mem_of_lookup e3) rfl
    obtain ⟨m,hm,hl'⟩:=I2.loc
    obtain ⟨u,ru,lk⟩:=hl' j x v e2 hσ (hk.elim (fun z=>.inr (.inl z)) fun z=>.inr (.inr z))
    refine ⟨u,ru,.inr ⟨?_,?_⟩⟩
    ·show (relabel sc X.env).names.lookup x=some .cell∨(relabel sc X.env).names.lookup x=some .free
     obtain ⟨k',q1,q2⟩:=relabel_has (env:=X.env) e3
     rcases q2 with q2 | ⟨_,q2⟩
     ·exact .inr (q1.trans (congrArg some q2))
     ·exact .inl (q1.trans (congrArg some q2))
    ·obtain ⟨c,hc'⟩:=hasC x (PySem.mem_of_lookup e3)
     refine ⟨c,hc',?_⟩
     rcases lk with ⟨z,_⟩ | ⟨_,c',ec,⟨o,ho,hd⟩⟩
     ·have z':X.env.scope.names.lookup x=some .local:=z
      rcases hk with hk | hk
      ·rw [z'] at hk; cases hk
      ·rw [z'] at hk; cases hk
     ·rw [cellX x c hc'] at ec
      cases ec
      exact ⟨o,old _ _ ho,hd⟩
  ·obtain ⟨v,o,ho,hd⟩:=I2.cell x c (cellX x c e)
   exact ⟨v,o,old _ _ ho,hd⟩
  ·have e:p=(s.heap.objs.size,{ cls:=.type "list",data:=.seq ([]:List Value).toArray 0 }):=by simpa using hp
   subst e
   exact ⟨hacc,hnD,hDC,nofsD _ (Nat.le_refl _),fun v z=>by cases z⟩
  ·show (ix.map _).length=N'.length
   rw [List.length_map]
   exact ok.len
 have st1:tn 0 h₁:=T.keep _ _ _ st2 fun b hb o e=>old b o e
 have loop:∀ s₃:Shared,s₃={ s with heap:=h₁,toks:=s.toks + ([]:List (Str×Value)).length } →
   codeAny (model X.prog X.w) X.A (.compLoop (.ListComp elt [⟨tg,iter,ifs,0⟩] sc pos) 0 (.ref it) (.ref s.heap.objs.size) (compEnvC sc (clOf X.env sc.names []) hD.objs.size X.env))
    (RR (.ref s.heap.objs.size) hD.objs.size) s₃:=by
  rintro s₃ rfl
  have fpI:∀ {H':Hp} {o:Obj},(∀ b∈fp,H' b=none)→∀ b∈fp,FpOk (X.comp sc N' hD.objs.size s H2 fp) [(s.heap.objs.size,o)] H' b:=fun {H' o} hn b hb=>by
   have hlt:=fpo b hb
   refine ⟨hn b hb,(okX.exf b hb).1,okX.exfs b hb,.inl hb,(okX.exf b hb).2,fun p hp=>?_⟩
   have e:p=(s.heap.objs.size,o):=by simpa using hp
   subst e
   exact Nat.ne_of_gt hlt
  refine codeAny_compLoop_own (fun n s'=>∃ i ys its k H',Inv (X.comp sc N' hD.objs.size s H2 fp) [(s.heap.objs.size,{ cls:=.type "list",data:=.seq its.toArray k })] (capt ix σ) H' s'∧Vals ys its∧ys.length ≤ sizeLine∧tn i s'.heap∧(∀ b∈fp,H' b=none)∧W i n ys H')
   ?_ m0 ⟨0,[],[],0,H2,start,.nil,Nat.zero_le _,st1,fun b hb=>(f2 b hb).1,w0⟩
  rintro n s4 ⟨i,ys,its,k,H4,I4,r4,z4,st4,fr4,w4⟩
  rcases turn i n ys H4 w4 with ⟨stop,q⟩ | ⟨go,hz,step⟩
  ·refine no_exc (thn (T.done (X.comp sc N' hD.objs.size s H2 fp) rfl rfl rfl (hc _ _ _ _) i _ s4 _ H4 (fun _ _=>False) I4 (fpI fr4) st4 stop) fun r s5 ⟨hr,I5⟩=>?_)
   subst hr
   show RR (.ref s.heap.objs.size) hD.objs.size (.ok .next) s5
   obtain ⟨pD,nD,_,_,_⟩:=I5.pin (s.heap.objs.size,{ cls:=.type "list",data:=.seq its.toArray k }) (by simp)
   obtain ⟨m5,hm5,_⟩:=I5.loc
   have okD:HOk X.prog X.w (upd H4 s.heap.objs.size (.lst ys)) s5.heap:=I5.hok.track nD ⟨z4,its,k,r4,pD⟩
   have un:Un (frs X.stack) fp H2 (upd H4 s.heap.objs.size (.lst ys)) s.heap s5.heap:=by
    have B:Un (frs X.stack) fp H2 H4 s.heap s5.heap:=I5.base
    have ne:∀ b u,H2 b=some u→b≠s.heap.objs.size:=fun b u e=>ne_of_none e hnD
    refine ⟨B.keep,B.slot,fun b o e n hb=>?_,B.there,fun b xs e=>?_,fun b o u e=>?_,fun b ps e=>?_⟩
    ·rw [upd_ne (below b o e).2]; exact B.free b o e n hb
    ·rw [upd_ne (ne b _ e)]; exact B.tups b xs e
    ·rw [upd_ne (ne b _ e)]; exact B.frzs b o u e
    ·rw [upd_ne (ne b _ e)]; exact B.tbls b ps e
   have IX:Inv X pins σ (upd H4 s.heap.objs.size (.lst ys)) s5:=I2.call' (ch:=fp) I5.os un okD I5.bare (fun b hb=>⟨(f2 b hb).2.2.2.1,(f2 b hb).2.1,(f2 b hb).2.2.2.2.1,(f2 b hb).2.2.2.2.2⟩) I5.tk
   refine fin _ _ s5 _ m5 IX (q _ nD) hm5 ?_ (Nat.ne_of_gt (Nat.lt_trans I2.lt upC)) (Nat.le_of_lt (Nat.lt_of_le_of_lt I2.sz upC)) (fun x c e=>Nat.ne_of_lt (Nat.lt_trans (cellLt x c e) upC)) (fun p hp=>Nat.ne_of_lt (Nat.lt_trans (Heap.lt_size (I2.pin p hp).1) upC))
   rw [upd_ne (Ne.symm hDC)]; exact I5.free
  ·refine no_exc (thn (T.item (X.comp sc N' hD.objs.size s H2 fp) rfl rfl rfl (hc _ _ _ _) i _ s4 _ H4 (fun _ _=>False) I4 (fpI fr4) st4 go) fun r s5 ⟨u,hr,h5⟩=>?_)
   subst hr
   refine no_exc (thn h5 fun _ s6 ⟨x,H6,I6,r6,y6,st6,fr6⟩=>?_)
   have I6':=I6.pinned (fpI fr6) (T.obj _ _ st6)
   refine no_exc (thn (hg _ _ _ _ _ s6 _ H6 x u _ I6' r6 (step x H6 y6)) fun _ s7 ⟨σ7,H7,I7,x7,q7⟩=>?_)
   refine no_exc (thn (ht _ _ _ _ _ s7 σ7 H7 _ I7 q7) fun b s8 ⟨H8,I8,q8⟩=>?_)
   have back:∀ {s9:Shared} {H9:Hp},Inv (X.comp sc N' hD.objs.size s H2 fp) ([(s.heap.objs.size,{ cls:=.type "list",data:=.seq its.toArray k })]++pinsAt fp s6.heap) σ7 H9 s9 →
     Inv (X.comp sc N' hD.objs.size s H2 fp) [(s.heap.objs.size,{ cls:=.type "list",data:=.seq its.toArray k })] (capt ix σ) H9 s9∧tn (i + 1) s9.heap∧(∀ b∈fp,H9 b=none):=fun {s9 H9} J9=>by
    refine ⟨(J9.unpinned).weak x7.1 x7.2,T.keep _ _ _ st6 fun b hb o e=>(J9.pin (b,o) (List.mem_append_right _ (List.mem_append_right _ (mem_pinsAt hb e)))).1,fun b hb=>?_⟩
    obtain ⟨o,e,d⟩:=T.obj _ _ st6 b hb
    exact (J9.pin (b,o) (List.mem_append_right _ (List.mem_append_right _ (mem_pinsAt hb e)))).2.1
   cases b with
   | false=>
    rw [if_neg Bool.false_ne_true] at q8 ⊢
    obtain ⟨m',hm,w8⟩:=q8
    obtain ⟨J8,st8,fr8⟩:=back I8
    exact ⟨m',hm,i + 1,ys,its,k,H8,J8,r4,z4,st8,fr8,w8⟩
   | true=>
    rw [if_pos rfl] at q8 ⊢
    refine no_exc (thn (he _ _ _ _ _ s8 σ7 H8 _ I8 q8) fun y s9 ⟨v9,H9,I9,r9,q9⟩=>?_)
    obtain ⟨m',hm,w9⟩:=q9
    obtain ⟨J9,st9,fr9⟩:=back I9
    obtain ⟨pD,nD,neC,nf,_⟩:=J9.pin (s.heap.objs.size,{ cls:=.type "list",data:=.seq its.toArray k }) (by simp)
    have hlen:=r4.length
    refine call_meets F.slot_list_append ⟨_,pD,rfl⟩ F.entry_list_append (F.args_list_append_2 _ _) (PySem.list_append s.heap.objs.size its.toArray k y (by rw [List.size_toArray]; omega)) ⟨pD,?_⟩
    have q:=PySem.IsL.update pD (·.push y)
    have ep:its.toArray.push y=(its++[y]).toArray:=by simp
    dsimp only at q
    rw [ep] at q
    obtain ⟨k',q⟩:∃ k',(s9.heap.update s.heap.objs.size (Obj.mapSeq (·.push y))).get? s.heap.objs.size=some { cls:=.type "list",data:=.seq (its++[y]).toArray k' }:=⟨_,q⟩
    have J0:Inv (X.comp sc N' hD.objs.size s H2 fp) [] (capt ix σ) H9 s9:=J9.pins_of fun p hp=>absurd hp (by simp)
    have J1:Inv (X.comp sc N' hD.objs.size s H2 fp) [] (capt ix σ) H9 { s9 with heap:=s9.heap.update s.heap.objs.size (Obj.mapSeq (·.push y)) }:=
     J0.turned (it:=s.heap.objs.size) (t':=s9.toks) (fun b o hb e=>(Heap.get?_update_other _ _ (Ne.symm hb)).trans e) nD neC (.inr (Nat.le_refl _)) (fun x c e=>Nat.ne_of_lt (cellLt x c (cellX x c e))) fun p hp=>absurd hp (by simp)
    refine ⟨m',hm,i + 1,ys++[v9],its++[y],k',H9,J1.pins_of fun p hp=>?_,r4.append (.cons r9 .nil),?_,T.keep _ _ _ st9 fun b hb o e=>(Heap.get?_update_other _ _ ?_).trans e,fr9,w9⟩
    ·have e:p=_:=List.mem_singleton.mp hp
     subst e
     exact ⟨q,nD,neC,nf,fun v z=>by cases z⟩
    ·rw [List.length_append,List.length_singleton]; omega
    ·exact Nat.ne_of_gt (fpo b hb)
 exact codeAny_compStart_list (loop _ rfl) (T.self _ 0 _ _ _ st1 (loop _ rfl))
theorem Inv.letGo {pins:List (Addr×Obj)} {σ:St} {H:Hp} {s:Shared} {C:Addr} {h':Heap} (I:Inv X pins σ H s) (hs:Heap.SameBut C s.heap h') (h0:H C=none) (h1:C≠X.env.locals) (h2:X.s₀.heap.objs.size ≤ C) (h3:∀ x c,X.env.cells.lookup x=some c→c≠C)
  (h4:∀ p∈X.pn++pins,p.1≠C):Inv X pins σ H { s with heap:=h' }:=I.turned (t':=s.toks) (fun b o hb e=>(hs.2 b hb).trans e) h0 h1 (.inr h2) h3 h4
theorem pe_comp {elt tg iter:Expr} {ifs:List Expr} {sc:Scope} {pos:Pos} (N':List Str) (ix:Cap) {wi:TI} {g:TG} {tt:TT} {te:TE} (hc:X.calm=true) (hok:capOk X.N N' X.env.scope sc ix=true)
  (hi:PI X tg iter wi) (hg:∀ C s₀ H₀ ex,PG (X.comp sc N' C s₀ H₀ ex) tg g) (ht:∀ C s₀ H₀ ex,PTs (X.comp sc N' C s₀ H₀ ex) ifs tt) (he:∀ C s₀ H₀ ex,PE (X.comp sc N' C s₀ H₀ ex) elt te)
  (hs:∀ x,foldedSetIterable iter X.env x=pure x:=by intro _; rfl):PE X (.ListComp elt [⟨tg,iter,ifs,0⟩] sc pos) (tComp ix wi g tt te):=by
 intro pins s σ H Q I h
 have ok:=capOk_of hok
 rw [eval_ListComp]
 refine wpAny_comprehension_free (use:=none) rfl hs (closureFor_eq fun p hp hk=>I.ok.has p.1 (ok.fre p hp hk)) ok.kind ok.loc (thn (hi pins s σ H _ I h) fun v s1 h1=>thn h1 fun itv s2 h2=>?_)
 refine comp_blockC (Cp:=fun X=>X.calm=true) (RR:=fun acc C=>compPost (model X.prog X.w) X.A X.xe none (EP X pins σ Q) acc C) (fun _ _ _ _=>hc) ok hg ht he h2 ?_
 intro D C s' H' m I' q hm h0 h1 h2 h3 h4
 exact ⟨m,hm,fun h' hsb=>⟨.ref D,H',I'.letGo hsb h0 h1 h2 h3 h4,rfl,q⟩⟩
theorem ps_setComp {elt tg iter:Expr} {ifs:List Expr} {sc:Scope} {pos spos py:Pos} {i:Nat} {y:Str} (N':List Str) (ix:Cap) {wi:TI} {g:TG} {tt:TT} {te:TE} (hc:X.calm=true) (hok:capOk X.N N' X.env.scope sc ix=true)
  (hN:X.N.Nodup) (hy:X.N[i]?=some y) (hx:Loc X.env.scope y)
  (hi:PI X tg iter wi) (hg:∀ C s₀ H₀ ex,PG (X.comp sc N' C s₀ H₀ ex) tg g) (ht:∀ C s₀ H₀ ex,PTs (X.comp sc N' C s₀ H₀ ex) ifs tt) (he:∀ C s₀ H₀ ex,PE (X.comp sc N' C s₀ H₀ ex) elt te)
  (hs:∀ x,foldedSetIterable iter X.env x=pure x:=by intro _; rfl) (hsw:swapsWith (.ListComp elt [⟨tg,iter,ifs,0⟩] sc pos) (some (.Name y py)) spos.line X.env=pure true:=by rfl)
  (hf:X.fn y=true∨X.env.scope.names.lookup y=some .local:=by first | exact .inl rfl | exact .inr rfl | assumption) :
  PS X (.Assign [.Name y py] (.ListComp elt [⟨tg,iter,ifs,0⟩] sc pos) spos) (tAsg (tComp ix wi g tt te) (gName i)):=by
 intro pins s σ H D I h
 have ok:=capOk_of hok
 rw [exec_Assign_Name_used _ _ _ _ hsw]
 refine wpAny_bind (wpAny_standAt (wpAny_bind ?_))
 show wpAny _ X.A (do let _ ← comprehension (.ListComp elt [⟨tg,iter,ifs,0⟩] sc pos) sc X.env _ (newList []) false (eval iter X.env) (some (assign (.Name y py) X.env))) _ _ s
 refine wpAny_bind (wpAny_mono (wpAny_comprehension_free (use:=some (assign (.Name y py) X.env)) (Q:=fun _ s'=>SP X pins D .next s') rfl hs (closureFor_eq fun p hp hk=>I.ok.has p.1 (ok.fre p hp hk)) ok.kind ok.loc
  (thn (hi pins s σ H _ I h) fun v s1 h1=>thn h1 fun itv s2 h2=>?_)) (fun _ s' hq=>wpAny_pure (wpAny_pure hq)) fun _ _ e=>e)
 refine comp_blockC (Cp:=fun X=>X.calm=true) (Q:=fun x H1=>gName i x σ H1 D.nx) (RR:=fun acc C=>compPost (model X.prog X.w) X.A X.xe (some (assign (.Name y py) X.env)) (fun _ s'=>SP X pins D .next s') acc C) (fun _ _ _ _=>hc) ok hg ht he h2 ?_
 intro Dl C s' H' m I' q hm h0 h1 h2 h3 h4
 refine wpAny_assign_Name (store_ok2 I' hN hy hx (v:=.ref Dl) rfl (fun s3 I3 sb=>?_) hf)
 obtain ⟨a,hsb,ha⟩:=sb
 have hne:C≠a:=by
  rcases ha with e | e
  ·rw [e]; exact h1
  ·exact Ne.symm (h3 y a e)
 exact ⟨m,hm.sameBut hsb hne,fun h' hs'=>⟨_,H',I3.letGo hs' h0 h1 h2 h3 h4,q⟩⟩
end
section
variable {ix:Cap} {tt:TT} {te:TE} {g:TG} {σ:St} {H:Hp} {Q:VK}
def Nxt (Pv:Nat→List V→Hp→Prop) (n i:Nat) (ys:List V):VK:=fun y H2=>∃ m',m' < n - i∧m'=n - (i + 1)∧i + 1 ≤ n∧(ys++[y]).length=i + 1∧Pv (i + 1) (ys++[y]) H2
theorem nxt {Pv:Nat→List V→Hp→Prop} {n i:Nat} {ys:List V} {y:V} {H2:Hp} (hi:i < n) (hl:ys.length=i) (h:Pv (i + 1) (ys++[y]) H2):Nxt Pv n i ys y H2:=
 ⟨n - (i + 1),by omega,rfl,hi,by rw [List.length_append,List.length_singleton,hl],h⟩
theorem comp_range {lo:Int} {n j:Nat} (Pv:Nat→List V→Hp→Prop) (hj:(capt ix σ)[j]?=some none) (h0:Pv 0 [] H) (hn:n < sizeLine)
  (hs:∀ i ys H,i < n→ys.length=i→Pv i ys H→te ((capt ix σ).set j (some (.int (lo + i)))) H (Nxt Pv n i ys))
  (hd:∀ ys H,ys.length=n→Pv n ys H→∀ D,H D=none→Q (.ref D) (upd H D (.lst ys))):CompGo (Itr lo n) ix (gName j) tYes te σ H Q:=by
 refine ⟨fun i m ys H=>m=n - i∧i ≤ n∧ys.length=i∧Pv i ys H,⟨n,by simp,Nat.zero_le _,rfl,h0⟩,?_⟩
 rintro i m ys H ⟨rfl,hi,hl,p⟩
 by_cases hlt:i < n
 ·refine .inr ⟨hlt,by omega,fun x H' y=>?_⟩
  obtain ⟨e,y⟩:=y
  subst e y
  refine ⟨ext_set hj,?_⟩
  unfold tYes
  dsimp only
  rw [if_pos rfl]
  exact hs i ys _ hlt hl p
 ·have e:i=n:=by omega
  subst e
  exact .inl ⟨Nat.le_refl _,hd ys H hl p⟩
theorem comp_str {x:Str} {j:Nat} (Pv:Nat→List V→Hp→Prop) (hj:(capt ix σ)[j]?=some none) (h0:Pv 0 [] H) (hn:x.cps.size < sizeLine)
  (hs:∀ i c ys H,x.cps[i]?=some c→ys.length=i→Pv i ys H→te ((capt ix σ).set j (some (.str ⟨#[c]⟩))) H (Nxt Pv x.cps.size i ys))
  (hd:∀ ys H,ys.length=x.cps.size→Pv x.cps.size ys H→∀ D,H D=none→Q (.ref D) (upd H D (.lst ys))):CompGo (Its x) ix (gName j) tYes te σ H Q:=by
 refine ⟨fun i m ys H=>m=x.cps.size - i∧i ≤ x.cps.size∧ys.length=i∧Pv i ys H,⟨x.cps.size,by simp,Nat.zero_le _,rfl,h0⟩,?_⟩
 rintro i m ys H ⟨rfl,hi,hl,p⟩
 by_cases hlt:i < x.cps.size
 ·refine .inr ⟨hlt,by omega,fun v H' y=>?_⟩
  obtain ⟨e,c,hc,ev⟩:=y
  subst e ev
  refine ⟨ext_set hj,?_⟩
  unfold tYes
  dsimp only
  rw [if_pos rfl]
  exact hs i c ys _ hc hl p
 ·have e:i=x.cps.size:=by omega
  subst e
  exact .inl ⟨rfl,hd ys H hl p⟩
theorem comp_list {K:PySem.W.Frag} {a:Addr} {xs:List V} {j:Nat} (Pv:Nat→List V→Hp→Prop) (hj:(capt ix σ)[j]?=some none) (h0:Pv 0 [] H) (hn:xs.length < sizeLine) (hl':∀ i ys H,i ≤ xs.length→Pv i ys H→SqL K H a xs)
  (hs:∀ i x ys H,xs[i]?=some x→ys.length=i→Pv i ys H→te ((capt ix σ).set j (some x)) H (Nxt Pv xs.length i ys))
  (hd:∀ ys H,ys.length=xs.length→Pv xs.length ys H→∀ D,H D=none→Q (.ref D) (upd H D (.lst ys))):CompGo (Itl K a) ix (gName j) tYes te σ H Q:=by
 refine ⟨fun i m ys H=>m=xs.length - i∧i ≤ xs.length∧ys.length=i∧Pv i ys H,⟨xs.length,by simp,Nat.zero_le _,rfl,h0⟩,?_⟩
 rintro i m ys H ⟨rfl,hi,hl,p⟩
 have q:=hl' i ys H hi p
 by_cases hlt:i < xs.length
 ·refine .inr ⟨⟨xs,xs[i],q,by simp [hlt]⟩,by omega,fun v H' y=>?_⟩
  obtain ⟨e,y⟩:=y
  subst e
  refine ⟨ext_set hj,?_⟩
  unfold tYes
  dsimp only
  rw [if_pos rfl]
  exact hs i v ys _ (y xs q) hl p
 ·have e:i=xs.length:=by omega
  subst e
  exact .inl ⟨⟨xs,q,Nat.le_refl _⟩,hd ys H hl p⟩
theorem comp_tup {K:PySem.W.Frag} {a:Addr} {xs:List V} {j:Nat} (Pv:Nat→List V→Hp→Prop) (hj:(capt ix σ)[j]?=some none) (h0:Pv 0 [] H) (hn:xs.length < sizeLine) (hl':∀ i ys H,i ≤ xs.length→Pv i ys H→SqT K H a xs)
  (hs:∀ i x ys H,xs[i]?=some x→ys.length=i→Pv i ys H→te ((capt ix σ).set j (some x)) H (Nxt Pv xs.length i ys))
  (hd:∀ ys H,ys.length=xs.length→Pv xs.length ys H→∀ D,H D=none→Q (.ref D) (upd H D (.lst ys))):CompGo (Itt K a) ix (gName j) tYes te σ H Q:=by
 refine ⟨fun i m ys H=>m=xs.length - i∧i ≤ xs.length∧ys.length=i∧Pv i ys H,⟨xs.length,by simp,Nat.zero_le _,rfl,h0⟩,?_⟩
 rintro i m ys H ⟨rfl,hi,hl,p⟩
 have q:=hl' i ys H hi p
 by_cases hlt:i < xs.length
 ·refine .inr ⟨⟨xs,xs[i],q,by simp [hlt]⟩,by omega,fun v H' y=>?_⟩
  obtain ⟨e,y⟩:=y
  subst e
  refine ⟨ext_set hj,?_⟩
  unfold tYes
  dsimp only
  rw [if_pos rfl]
  exact hs i v ys _ (y xs q) hl p
 ·have e:i=xs.length:=by omega
  subst e
  exact .inl ⟨⟨xs,q,Nat.le_refl _⟩,hd ys H hl p⟩
end
end L2
end
section
namespace L2
open PySem PySem.Spec PyProof.Rows
section
variable {X:Cx}
def CDivB (i j:Int):Prop:=0 < j∧j < 2 ^ 64
theorem op_fdivB:OpR X (binaryOp .FloorDiv) (rI CDivB fun i j=>.int (i / j)):=opI fun i j _ _ _ _ _ hc q=>by
 have h1:(0:Int) < j:=hc.1
 have h2:j < 2 ^ 64:=hc.2
 refine floordiv_int (by omega) (by rw [Int.fdiv_eq_ediv_of_nonneg i (by omega)]; exact q) (.inl (PyProof.noPylong_of_log2 ?_))
 have h3:j.natAbs < 2 ^ 64:=by omega
 have h0:j.natAbs≠0:=by omega
 have h4:j.natAbs.log2 < 64:=(Nat.log2_lt h0).mpr h3
 omega
theorem post_nz {s:Shared} {c:Prop} [Decidable c] {y z:Str} {t:PTok} {Q:Value→Shared→Prop} (tk:0 < s.toks) (h:(if c then y else z).length ≤ sizeLine∧∀ (t':PTok) k,0 < k→Q (.str (if c then y else z) t'.1) { s with toks:=k }) :
  (if c then Made.val (.str y t.1) else Made.str z).post Q s:=by
 split
 ·rename_i hc
  have:=h.2 t s.toks tk
  rw [if_pos hc] at this
  exact this
 ·rename_i hc
  obtain ⟨h1,h2⟩:=h
  have:=h2 ⟨s.toks,Nat.ne_of_gt tk⟩ (s.toks + 1) (Nat.succ_pos _)
  rw [if_neg hc] at this h1
  exact ⟨h1,this⟩
theorem strs_nz:∀ {ys:List Str} {us:List Value},Vals (ys.map V.str) us→∃ l:List (Str×Tok),us=strValues l∧l.map (·.1)=ys∧∀ p∈l,p.2≠0
 | [],[],.nil=>⟨[],rfl,rfl,fun p h=>by cases h⟩
 | y :: ys,u :: us,.cons ⟨t,e⟩ r=>by
  obtain ⟨l,h1,h2,h3⟩:=strs_nz r
  refine ⟨(y,t.1) :: l,by rw [h1,e]; rfl,by rw [← h2]; rfl,fun p hp=>?_⟩
  rcases List.mem_cons.mp hp with rfl | hp
  ·exact t.2
  ·exact h3 p hp
theorem join_nz {s:Shared} {sep:Str} {Q:Value→Shared→Prop} (tk:0 < s.toks) {l:List (Str×Tok)} (hl:∀ p∈l,p.2≠0) (h:(Txt.join sep (l.map (·.1))).length ≤ sizeLine∧∀ (t':PTok) k,0 < k→Q (.str (Txt.join sep (l.map (·.1))) t'.1) { s with toks:=k }):(joinMade sep l).post Q s:=by
 match l,hl,h with
 | [],_,h=>exact ⟨h.1,h.2 ⟨s.toks,Nat.ne_of_gt tk⟩ _ (Nat.succ_pos _)⟩
 | [p],hl,h=>exact h.2 ⟨p.2,hl p List.mem_cons_self⟩ s.toks tk
 | _ :: _ :: _,_,h=>exact ⟨h.1,h.2 ⟨s.toks,Nat.ne_of_gt tk⟩ _ (Nat.succ_pos _)⟩
def rJoin (K:PySem.W.Frag):V→List V→Hp→VK→Prop:=fun x vs H Q=>∃ (sep:Str) (p:Addr) (ys:List Str),x=.str sep∧vs=[.ref p]∧SqL K H p (ys.map V.str)∧(ys.map (·.length)).sum + ys.length * sep.length ≤ 16777216∧Q (.str (Txt.join sep ys)) H
theorem mt_join:MtR X "str.join" (rJoin X.K):=by
 intro pins s σ H x vs v us Q I rx rv h
 obtain ⟨sep,p,ys,rfl,rfl,hq,hz,q⟩:=h
 obtain ⟨t,rfl⟩:=rx
 obtain ⟨u,rfl,ru⟩:=rv.one
 cases ru
 obtain ⟨its,r,pl,_⟩:=I.list hq
 obtain ⟨l,rfl,rfl,nz⟩:=strs_nz r
 have ok:=joinOk_of hz
 unfold JoinOk at ok
 rw [Bool.not_eq_true'] at ok
 exact call_meets F.slot_str_join (typeIs_str _ _ _) F.entry_str_join (F.args_str_join_2 _ _) (meets_str_join_list sep t p l ok) ⟨pl.isList,join_nz I.tk nz ⟨joinFit_length ok,fun t' k hk=>⟨.str _,H,I.tok k,⟨t',rfl⟩,q⟩⟩⟩
def rSlS:V→Option Int→Option Int→Hp→VK→Prop:=fun x lo hi H Q=>∃ z:Str,x=.str z∧z.length ≤ sizeLine∧Q (.str (Txt.slice z lo hi)) H
theorem sl_str:SlR X rSlS:=by
 intro pins s σ H x v vl vu lo hi sl Q I rx hs pl pu h
 obtain ⟨z,rfl,hz,q⟩:=h
 obtain ⟨t,rfl⟩:=rx
 refine ⟨"str",_,F.slot_str_getitem.lookup,typeIs_str _ _ _,?_⟩
 have hq:∀ (o:Str),o=Txt.slice z lo hi→o.length ≤ sizeLine∧∀ (t':PTok) k,0 < k→EP X pins σ Q (.str o t'.1) { s with toks:=k }:=fun o e=>by
  subst e
  exact ⟨Nat.le_trans (Txt.slice_le z _ _) hz,fun t' k hk=>⟨.str _,H,I.tok k,⟨t',rfl⟩,q⟩⟩
 obtain ⟨os,hos,hcs,hds⟩:=hs
 cases pl with
 | none=>
  cases pu with
  | none=>exact wpAny_getItem_str_slice (l:=none) (u:=none) (st:=none) ⟨os,hos,hcs,hds⟩ rfl (post_nz I.tk (hq _ rfl))
  | int j uj=>exact wpAny_getItem_str_slice (l:=none) (u:=some (j,uj)) (st:=none) ⟨os,hos,hcs,hds⟩ rfl (post_nz I.tk (hq _ rfl))
 | int i ui=>
  cases pu with
  | none=>exact wpAny_getItem_str_slice (l:=some (i,ui)) (u:=none) (st:=none) ⟨os,hos,hcs,hds⟩ rfl (post_nz I.tk (hq _ rfl))
  | int j uj=>exact wpAny_getItem_str_slice (l:=some (i,ui)) (u:=some (j,uj)) (st:=none) ⟨os,hos,hcs,hds⟩ rfl (post_nz I.tk (hq _ rfl))
theorem call_all (hc:X.calm=true):CallR X (.builtin "all") (fun xs H Q=>∃ (p:Addr) (bs:List Bool),xs=[.ref p]∧SqL X.K H p (bs.map V.bl)∧Q (.bl (bs.all id)) H):=by
 intro pins s σ H xs us Q I r h
 obtain ⟨p,bs,rfl,hq,q⟩:=h
 obtain ⟨u,rfl,ru⟩:=vals1 r
 cases ru
 obtain ⟨its,rv,pl,hz⟩:=I.list hq
 have hlen:=rv.length
 rw [List.length_map] at hlen
 have hlt:p < s.heap.objs.size:=by obtain ⟨_,e,_⟩:=pl.isList; exact Heap.lt_size e
 refine upQ (call_all_walk (wpAny_pyIter_list pl.isList ?_))
 refine ⟨s.heap.objs.size,_,_,_,_,_,fun i=>bs.getD i true,rfl,Walks.list (A:=X.A.in1) (I.ok.hd hc) s.heap.objs.size p (Nat.ne_of_lt hlt) its.toArray,⟨⟨_,Heap.get?_push_size _ rfl,rfl,rfl⟩,pl.isList.push _⟩,?_,?_⟩
 ·intro i v s' Q' E' hv hQ
  have hv':its[i]?=some v:=by simpa using hv
  have hi:i < bs.length:=by
   have:=(List.getElem?_eq_some_iff.mp hv').1
   omega
  obtain ⟨u',e,ru⟩:=rv.get (i:=i) (x:=V.bl bs[i]) (by rw [List.getElem?_map,List.getElem?_eq_getElem hi] <;> rfl)
  rw [hv'] at e
  cases e
  cases ru
  dsimp only at hQ
  rw [List.getD_eq_getElem?_getD,List.getElem?_eq_getElem hi] at hQ
  exact wpAny_truthy_bool hQ
 ·intro h' tk kk hup
  change s.toks ≤ tk at hup
  have I1:Inv X pins σ H { s with heap:=s.heap.push { cls:=.type "list_iterator",data:=.fields #[.ref p,.int 0 0] } }:=I.kept (t':=s.toks) fun b o e=>Heap.get?_push_of_some _ e
  obtain ⟨f0,f1,f2,f3,f4,f5⟩:=I.fpOk (b:=s.heap.objs.size) (Nat.le_refl _) (I.hok.fresh (Nat.le_refl _))
  have I2:Inv X pins σ H { s with heap:=h',toks:=tk }:=I1.turned (fun b o hb e=>kk b o (by simpa using hb) e) f0 f1 f3 f4 f5
  refine ⟨.bl _,H,I2,rfl,?_⟩
  have e:(List.range its.toArray.size).all (fun i=>bs.getD i true)=bs.all id:=by
   rw [List.size_toArray,← hlen]
   rw [Bool.eq_iff_iff]
   simp only [List.all_eq_true,List.mem_range,id]
   constructor
   ·intro h b hb
    obtain ⟨i,hi,e⟩:=List.mem_iff_getElem.mp hb
    have:=h i hi
    rw [List.getD_eq_getElem?_getD,List.getElem?_eq_getElem hi] at this
    rw [← e]
    exact this
   ·intro h i hi
    rw [List.getD_eq_getElem?_getD,List.getElem?_eq_getElem hi]
    exact h _ (List.getElem_mem hi)
  rw [e]
  exact q
theorem call_isinst:CallR X (.builtin "isinstance") (fun xs H Q=>∃ x y c t b,xs=[x,y]∧(∀ u,RelV y u→u=c)∧TyOf X.K H x t∧PySem.W.kitOne X.K t c=some b∧Q (.bl b) H):=by
 intro pins s σ H xs us Q I r h
 obtain ⟨x,y,c,t,b,rfl,hy,ty,e,q⟩:=h
 obtain ⟨u,v,rfl,ru,rv⟩:=r.two
 obtain rfl:=hy v rv
 exact upQ (isinst_ok I ru ty e fun tk (hup:s.toks ≤ tk)=>⟨.bl b,H,I.tok tk,rfl,q⟩)
end
def SameBut (a:Addr) (H H':Hp):Prop:=∀ b o,H b=some o→b≠a→H' b=some o
theorem SameBut.refl (a:Addr) (H:Hp):SameBut a H H:=fun _ _ h _=>h
theorem SameBut.trans {a:Addr} {H H1 H2:Hp} (h:SameBut a H H1) (k:SameBut a H1 H2):SameBut a H H2:=fun b o e n=>k b o (h b o e n) n
theorem SameBut.upd (a:Addr) (H:Hp) (o:HO):SameBut a H (upd H a o):=fun b u e n=>by rw [upd_ne n]; exact e
theorem Same.but {a:Addr} {H H':Hp} (h:Same H H'):SameBut a H H':=fun b o e _=>h b o e
theorem Same.new {H:Hp} {p:Addr} (h:H p=none) (o:HO):Same H (upd H p o):=fun b u q=>by rw [upd_ne (ne_of_none q h)]; exact q
theorem none_of_same {H H':Hp} {p:Addr} (h:Same H H') (n:H' p=none):H p=none:=by
 cases e:H p with
 | none=>rfl
 | some o=>rw [h p o e] at n; cases n
end L2
end
section
namespace L2
open PySem PySem.Spec PyProof.Rows
structure DefTx (K:PySem.W.Frag) (mg:Str→Option Value) (x:Str) (st:Stmt) (ps:List Str):Prop where
 ex:∃ (f:Addr) (fd:FuncData),Fun K x x st f fd∧mg x=some (.ref f)∧∀ us:List Value,us.length=ps.length→bindArgs fd ⟨us,[]⟩=pure (ps.zip us)
structure DefIs (P:Program) (w:World) (K:PySem.W.Frag) (mg:Str→Option Value) (base:Heap) (n:Nat) (x:Str) (ps:List Str) (sp:Sp):Prop where
 ex:∃ (f:Addr) (fd:FuncData),FnOk P w K mg base CX0 n f fd ps sp∧Binds K fd ps []∧PySem.W.keepIn K (.ref f)=true∧mg x=some (.ref f)∧∃ oc od osl,K.lookup f=some ⟨oc,od,.func fd,osl⟩
theorem fun_at {K:PySem.W.Frag} {x:Str} {st:Stmt} {f:Addr} {fd:FuncData} (F:Fun K x x st f fd):∃ oc od osl,K.lookup f=some ⟨oc,od,.func fd,osl⟩:=by
 obtain ⟨oc,od,kV,doc,pm,an,cdv,ct,osl,_,l,_⟩:=F.ex
 exact ⟨oc,od,osl,l⟩
section
variable {P:Program} {w:World} {K:PySem.W.Frag} {mg:Str→Option Value} {base:Heap} {n m:Nat} {x:Str} {ps N:List Str} {sp:Sp} {st:Stmt}
theorem DefIs.mono (D:DefIs P w K mg base n x ps sp) (h:n ≤ m):DefIs P w K mg base m x ps sp:=by
 obtain ⟨f,fd,F,r⟩:=D.ex
 exact ⟨f,fd,F.mono h,r⟩
theorem DefIs.imp {sp':Sp} (D:DefIs P w K mg base n x ps sp) (h:∀ vs H Q E,sp' vs H Q E→sp vs H Q E):DefIs P w K mg base n x ps sp':=by
 obtain ⟨f,fd,F,r⟩:=D.ex
 exact ⟨f,fd,F.imp h,r⟩
theorem DefIs.of (T:DefTx K mg x st ps) (S:FnScope N ps (defScope st)) (len:∀ vs H Q E,sp vs H Q E→vs.length=ps.length)
  (hbody:∀ (f:Addr) (cdv:Value) (A:Around) (outer:List Env) (s:Shared) (H:Hp) (vs:List V) (Q:VK) (E:XK),Room n (A.deeper (envOfC x (defScope st) s.heap.objs.size f cdv))→sp vs H Q E →
   ∃ t,PSs (cxOf CX0 P w K mg base N x (defScope st) f cdv A outer s H E).nox (defBody st) t∧t { nx:=fun _ H'=>Q .non H',rt:=Q } (start N vs) H):DefIs P w K mg base (n + 1) x ps sp:=by
 obtain ⟨f,fd,F,m,b⟩:=T.ex
 exact ⟨f,fd,F.ok S len (fun cdv A outer s H vs Q E hr h=>hbody f cdv A outer s H vs Q E hr h),Binds.all b,F.kp,m,fun_at F⟩
theorem DefIs.none (T:DefTx K mg x st ps) (no:∀ vs H Q E,¬ sp vs H Q E):DefIs P w K mg base n x ps sp:=by
 obtain ⟨f,fd,F,m,b⟩:=T.ex
 exact ⟨f,fd,⟨fun vs H Q E h=>absurd h (no vs H Q E),fun A outer s H args us vs Q E _ _ _ _ h=>absurd h (no vs H Q E)⟩,Binds.all b,F.kp,m,fun_at F⟩
end
section
variable {X:Cx} {n:Nat} {x:Str} {ps:List Str} {sp:Sp} {e:Expr} {es:List Expr} {p pos:Pos} {t:TA}
theorem pe_dcall (D:DefIs X.prog X.w X.K X.mg X.base n x ps sp) (hr:Room n X.A) (ha:PA X (e :: es) t) (hg:Gl X x:=by rfl) (hdb:(x == ("__debug__":Str))=false:=by decide)
  (he:starEach (e :: es) X.env=(false,eval e X.env) :: starEach es X.env:=by rfl) (hpl:(backTo pos (starEach es X.env)).any (·.1)=false:=by rfl):PE X (.Call (.Name x p) (e :: es) [] pos) (tCall sp [] E0 t):=by
 obtain ⟨f,fd,F,b,k,m,_⟩:=D.ex
 exact pe_call F hr hg m k b .nil pass0 ha hdb he hpl
theorem pe_gint {i:Int} (hm:∃ t,X.mg x=some (.int i t)) (hg:Gl X x:=by rfl) (hd:(x == ("__debug__":Str))=false:=by decide):PE X (.Name x pos) (tC (.int i)):=by
 obtain ⟨t,h⟩:=hm
 exact pe_glob hg h ⟨t,rfl⟩ hd
theorem pe_gstr {z:Str} (hm:∃ t:PTok,X.mg x=some (.str z t.1)) (hg:Gl X x:=by rfl) (hd:(x == ("__debug__":Str))=false:=by decide):PE X (.Name x pos) (tC (.str z)):=by
 obtain ⟨t,h⟩:=hm
 exact pe_glob hg h ⟨t,rfl⟩ hd
theorem pe_gref {a:Addr} (hm:X.mg x=some (.ref a)) (hg:Gl X x:=by rfl) (hd:(x == ("__debug__":Str))=false:=by decide):PE X (.Name x pos) (tC (.ref a)):=pe_glob hg hm rfl hd
theorem pe_gty {T:String} (hm:X.mg x=none) (hv:bootBuiltins x=some (.type T)) (hg:Gl X x:=by rfl) (hn:x≠"__name__":=by decide) (hd:(x == ("__debug__":Str))=false:=by decide):PE X (.Name x pos) (tC (.ty T)):=pe_bltn hg hm hv rfl hn hd
end
def Fed (a:Addr) (H H':Hp):Prop:=SameBut a H H'∧∃ p q:Int,H' a=some (.lst [.int p,.int q])
theorem Fed.trans {a:Addr} {H H1 H2:Hp} (h:Fed a H H1) (k:Fed a H1 H2):Fed a H H2:=⟨h.1.trans k.1,k.2⟩
theorem Fed.of {a:Addr} {H:Hp} {p q:Int}:Fed a H (upd H a (.lst [.int p,.int q])):=⟨SameBut.upd a H _,p,q,upd_same⟩
theorem Fed.refl {a:Addr} {H:Hp} {p q:Int} (h:H a=some (.lst [.int p,.int q])):Fed a H H:=⟨SameBut.refl a H,p,q,h⟩
theorem Fed.new {a D:Addr} {H H':Hp} (h:Fed a H H') (n:H' D=none) (o:HO):Fed a H (upd H' D o):=by
 obtain ⟨s,p,q,e⟩:=h
 exact ⟨s.trans (Same.new n o).but,p,q,Same.new n o _ _ e⟩
theorem Fed.same {a:Addr} {H H' H'':Hp} (h:Fed a H H') (s:Same H' H''):Fed a H H'':=by
 obtain ⟨k,p,q,e⟩:=h
 exact ⟨k.trans s.but,p,q,s _ _ e⟩
theorem Fed.back {a:Addr} {H H0 H':Hp} (n:H a=none) (s:Same H H0) (h:Fed a H0 H'):Same H H':=fun b o e=>h.1 b o (s b o e) (ne_of_none e n)
end L2
namespace L2
open PySem PySem.Spec PyProof.Rows
theorem deftx_mk {K:PySem.W.Frag} {h:Heap} {mg:Str→Option Value} (X:K.In h) (G:h.Ns mainGlobals mg) {x:Str} {st:Stmt} {ps:List Str} {f:Addr} {oc:Value} {od an:Option Addr} {osl:Array (Option Value)} {kV doc pm cdv ct:Value}
  (a:PySem.W.nsIn K mainGlobals x=some (some (.ref f))) (l:K.lookup f=some ⟨oc,od,.func (PySem.W.fnOf x x (defArgs st) (defBody st) (defScope st) .none kV doc pm an cdv ct),osl⟩)
  (c:PySem.W.codeIn K cdv x=true) (k:PySem.W.keepIn K (.ref f)=true)
  (b:∀ (kV doc pm:Value) (an:Option Addr) (cdv ct:Value) (us:List Value),us.length=ps.length→bindArgs (PySem.W.fnOf x x (defArgs st) (defBody st) (defScope st) .none kV doc pm an cdv ct) ⟨us,[]⟩=pure (ps.zip us)):DefTx K mg x st ps:=by
 have F:=fun_mk (st:=st) l c k
 exact ⟨f,_,F,PySem.W.mg_of X G a,b kV doc pm an cdv ct⟩
theorem law_top {P:Program} {w:World} {K:PySem.W.Frag} {mg:Str→Option Value} {n:Nat} {x y:Str} {st:Stmt} {sp:Sp} {fa:Addr} (T:DefTx K mg x st [y]) (hmg:mg x=some (.ref fa)) (D:∀ base,DefIs P w K mg base n x [y] sp) (hl:(defScope st).names.lookup y=some .local:=by decide +kernel) :
  ∃ fd:FuncData,((∀ (s:Shared) (u:Value),BindsTo s fd ⟨[u],[]⟩ [(y,u)])∧fd.scope.names.lookup y=some .local)∧∀ base:Heap,K.In base→base.Ns mainGlobals mg→FnOk P w K mg base CX0 n fa fd [y] sp:=by
 obtain ⟨f,fd,F,m,b⟩:=T.ex
 rw [hmg] at m
 cases m
 refine ⟨fd,⟨fun s u=>.of_eq (b [u] rfl),by obtain ⟨_,_,_,_,_,_,_,_,_,e,_⟩:=F.ex; rw [e]; exact hl⟩,fun base _ _=>?_⟩
 obtain ⟨f',fd',G,_,_,m',oc,od,osl,l⟩:=(D base).ex
 rw [hmg] at m'
 cases m'
 obtain ⟨oc2,od2,osl2,l2⟩:=fun_at F
 rw [l] at l2
 cases l2
 exact G
theorem gint_mk {K:PySem.W.Frag} {h:Heap} {mg:Str→Option Value} (X:K.In h) (G:h.Ns mainGlobals mg) {x:Str} {i:Int} {t:Tok} (a:PySem.W.nsIn K mainGlobals x=some (some (.int i t))):∃ t,mg x=some (.int i t):=⟨t,PySem.W.mg_of X G a⟩
theorem gstr_mk {K:PySem.W.Frag} {h:Heap} {mg:Str→Option Value} (X:K.In h) (G:h.Ns mainGlobals mg) {x:Str} {i:Str} {t:Tok} (a:PySem.W.nsIn K mainGlobals x=some (some (.str i t))) (ht:t≠0:=by decide):∃ t:PTok,mg x=some (.str i t.1):=⟨⟨t,ht⟩,PySem.W.mg_of X G a⟩
theorem gtup_mk {K:PySem.W.Frag} {h:Heap} {mg:Str→Option Value} (X:K.In h) (G:h.Ns mainGlobals mg) {x:Str} {p:Addr} {od:Option Addr} {its:Array Value} {n:Nat} {osl:Array (Option Value)} {xs:List V}
  (a:PySem.W.nsIn K mainGlobals x=some (some (.ref p))) (l:K.lookup p=some ⟨.type "tuple",od,.seq its n,osl⟩) (z:its.size ≤ sizeLine) (r:Vals xs its.toList):∃ a,mg x=some (.ref a)∧∀ H,SqT K H a xs:=
 ⟨p,PySem.W.mg_of X G a,fun _=>.inr ⟨_,its,n,l,rfl,rfl,z,r⟩⟩
end L2
end
section
namespace Zt
open PySem
section
variable {prog:Program} {w:World} {A:Around} {E:Value→Shared→Prop} {s:Shared}
theorem next_item {it l:Addr} {i:Nat} {items} {x:Value} {Q:Value→Shared→Prop} (hit:s.heap.IsTupleIter it l i)
  (hl:s.heap.IsTuple l items) (hx:items[i]?=some x)
  (hQ:∀ h',h'.IsTupleIter it l (i + 1)→Heap.SameBut it s.heap h'→Q x { s with heap:=h' }) :
  wpAny (model prog w) A (Builtin.SmallTypes.nextOf (.ref it)) Q E s:=by
 obtain ⟨o,ho,hc,hd⟩:=id hit
 obtain ⟨ol,hol,_,nl,hdl⟩:=hl
 unfold Builtin.SmallTypes.nextOf
 refine wpAny_bind (wpAny_callSpecial?_slot (name:=Str.ofString "__next__") hit.typeIs F.slot_tuple_iterator_next
  (wpAny_call_entry F.slot_tuple_iterator_next hit.typeIs F.entry_tuple_iterator_next ?_ (F.args_tuple_iterator_next_1 _)))
 show wpAny _ _ (field (.ref it) 0 >>= _) _ _ s
 refine wpAny_bind (wpAny_field ho hd (x:=.ref l) rfl ?_)
 show wpAny _ _ (if (Value.ref l == Value.none)=true then _ else _) _ _ s
 rw [if_neg (show ¬ ((Value.ref l == Value.none)=true) from Bool.false_ne_true)]
 show wpAny _ _ (field (.ref it) 1 >>= _) _ _ s
 refine wpAny_bind (wpAny_field ho hd (x:=.int i 0) rfl ?_)
 show wpAny _ _ (seqItems? (.ref l) >>= _) _ _ s
 refine wpAny_bind (wpAny_seqItems hol hdl ?_)
 simp only [Int.toNat_natCast,hx]
 refine wpAny_bind (wpAny_setField ho hd (by simp) (wpAny_pure ⟨x,rfl,wpAny_pure (hQ _ ?_ (Heap.SameBut.update ..))⟩))
 exact ⟨_,Heap.get?_update_self _ ho (Obj.isFreed_of_fields (Obj.data_mapFields hd _)),(Obj.cls_mapFields ..).trans hc,by
  rw [Obj.data_mapFields hd]; simp [rawInt]⟩
theorem next_end {it l:Addr} {i:Nat} {items} {Q:Value→Shared→Prop} (hh:A.handled=none)
  (hit:s.heap.IsTupleIter it l i) (hl:s.heap.IsTuple l items) (hx:items[i]?=none)
  (hE:∀ h' e,Heap.ExtBut it s.heap h'→(∃ o,h'.get? e=some o∧o.cls=.type "StopIteration")→E (.ref e) { s with heap:=h' }) :
  wpAny (model prog w) A (Builtin.SmallTypes.nextOf (.ref it)) Q E s:=by
 obtain ⟨o,ho,hc,hd⟩:=id hit
 obtain ⟨ol,hol,_,nl,hdl⟩:=hl
 unfold Builtin.SmallTypes.nextOf
 refine wpAny_bind (wpAny_callSpecial?_slot (name:=Str.ofString "__next__") hit.typeIs F.slot_tuple_iterator_next
  (wpAny_call_entry F.slot_tuple_iterator_next hit.typeIs F.entry_tuple_iterator_next ?_ (F.args_tuple_iterator_next_1 _)))
 show wpAny _ _ (field (.ref it) 0 >>= _) _ _ s
 refine wpAny_bind (wpAny_field ho hd (x:=.ref l) rfl ?_)
 show wpAny _ _ (if (Value.ref l == Value.none)=true then _ else _) _ _ s
 rw [if_neg (show ¬ ((Value.ref l == Value.none)=true) from Bool.false_ne_true)]
 show wpAny _ _ (field (.ref it) 1 >>= _) _ _ s
 refine wpAny_bind (wpAny_field ho hd (x:=.int i 0) rfl ?_)
 show wpAny _ _ (seqItems? (.ref l) >>= _) _ _ s
 refine wpAny_bind (wpAny_seqItems hol hdl ?_)
 simp only [Int.toNat_natCast,hx]
 refine wpAny_bind (wpAny_rule (wpAny_bind (wpAny_setField ho hd (by simp) ?_)))
 show wpAny _ _ (newExc (.type "StopIteration") [] >>= _) _ _ _
 refine wpAny_bind ?_
 simp only [newExc,newTuple]
 refine wpAny_bind (wpAny_newObj_type ?_ (by size_fits))
 refine wpAny_bind (m:=firstArgMember _ _) (wpAny_of_eq (a:=Value.none) (by first | rfl | (simp only [firstArgMember]; rfl)) ?_)
 refine wpAny_newObj_type ?_ (by size_fits)
 simp only [raiseNew]
 refine wpAny_bind (wpAny_handled ?_)
 first | rw [show A.in1.handled=none from hh] | rw [hh]
 refine wpAny_bind (wpAny_pure (wpAny_throw ?_))
 exact hE _ _ (((Heap.SameBut.update ..).extBut.push _).push _) ⟨_,Heap.get?_push_size _ rfl,rfl⟩
abbrev IsZipF (h:Heap) (z TI TO:Addr) (f0 f1:Value):Prop:=
 h.get? z=some { cls:=.type "zip",dict:=none,data:=.fields #[f0,f1,.bool false,.ref TI,.ref TO],slots:=#[] }
def Free (h:Heap) (z TI TO:Addr):Prop:=IsZipF h z TI TO .none (.bool false)∨∃ (T:Addr) (b:Bool) (o:Obj),IsZipF h z TI TO (rawInt T) (.bool b)∧h.get? T=some o∧T≠z
structure Zs (h:Heap) (z TI TO i1 i2 l1 l2:Addr) (xs ys:Array Value) (k:Nat):Prop where
 zip:Free h z TI TO
 ti:IsPair h TI (.ref i1) (.ref i2)
 to:∃ a b,IsPair h TO a b
 it1:h.IsTupleIter i1 l1 k
 it2:h.IsTupleIter i2 l2 k
 t1:h.IsTuple l1 xs
 t2:h.IsTuple l2 ys
structure Nx (prog:Program) (w:World) (it l:Addr) (xs:Array Value) (P:Heap→Nat→Prop):Prop where
 item:∀ {A:Around} {E:Value→Shared→Prop} {s:Shared} {Q:Value→Shared→Prop} {i:Nat} {x:Value},P s.heap i→xs[i]?=some x→(∀ h',P h' (i + 1)→Heap.SameBut it s.heap h'→Q x { s with heap:=h' })→wpAny (model prog w) A (Builtin.SmallTypes.nextOf (.ref it)) Q E s
 last:∀ {A:Around} {E:Value→Shared→Prop} {s:Shared} {Q:Value→Shared→Prop} {i:Nat},A.handled=none→P s.heap i→xs[i]?=none→(∀ h' e,Heap.ExtBut it s.heap h'→(∃ o,h'.get? e=some o∧o.cls=.type "StopIteration")→E (.ref e) { s with heap:=h' })→wpAny (model prog w) A (Builtin.SmallTypes.nextOf (.ref it)) Q E s
 kept:∀ {h h':Heap} {i:Nat},P h i→(∀ o,h.get? it=some o→h'.get? it=some o)→(∀ o,h.get? l=some o→h'.get? l=some o)→P h' i
 there:∀ {h:Heap} {i:Nat},P h i→∃ o,h.get? it=some o
theorem Nx.ext {it l a:Addr} {xs:Array Value} {P:Heap→Nat→Prop} (N:Nx prog w it l xs P) {h h':Heap} {i:Nat} (p:P h i) (e:Heap.ExtBut a h h') (ha:it≠a) (hl:l≠a):P h' i:=N.kept p (fun o q=>e _ _ ha q) fun o q=>e _ _ hl q
structure Zg (P1:Heap→Nat→Prop) (h:Heap) (z TI TO i1 i2 l2:Addr) (ys:Array Value) (k:Nat):Prop where
 zip:Free h z TI TO
 ti:IsPair h TI (.ref i1) (.ref i2)
 to:∃ a b,IsPair h TO a b
 p1:P1 h k
 it2:h.IsTupleIter i2 l2 k
 t2:h.IsTuple l2 ys
theorem gFirst {P1:Heap→Nat→Prop} {z TI TO i1 i2 l1 l2:Addr} {k1 k2:Nat} {xs ys:Array Value} {x y a b:Value} {Q:Value→Shared→Prop} (D:ZipApart z TI TO i1 i2 l1 l2)
  (hz:IsZip s.heap z TI TO .none) (hTI:IsPair s.heap TI (.ref i1) (.ref i2)) (hTO:IsPair s.heap TO a b)
  (N1:Nx prog w i1 l1 xs P1) (h1:P1 s.heap k1) (h2:s.heap.IsTupleIter i2 l2 k2) (hl2:s.heap.IsTuple l2 ys) (hx:xs[k1]?=some x) (hy:ys[k2]?=some y)
  (hQ:∀ h',IsZip h' z TI TO (rawInt s.heap.objs.size)→IsPair h' TO x y→P1 h' (k1 + 1)→h'.IsTupleIter i2 l2 (k2 + 1)→IsPair h' s.heap.objs.size x y→h'.objs.size=s.heap.objs.size + 1 →
   (∀ c o,c≠z→c≠TO→c≠i1→c≠i2→s.heap.get? c=some o→h'.get? c=some o)→Q (.ref s.heap.objs.size) { s with heap:=h' }) :
  wpAny (model prog w) A (Builtin.«zip.__next__» ⟨[.ref z],[]⟩) (fun fin s'=>∃ v,fin=.done (.ret v)∧Q v s') E s:=by
 show wpAny _ _ (field (.ref z) 2 >>= _) _ _ _
 refine wpAny_bind (wpAny_field hz rfl (x:=.bool false) rfl ?_)
 show wpAny _ _ (field (.ref z) 3 >>= _) _ _ _
 refine wpAny_bind (wpAny_field hz rfl (x:=.ref TI) rfl ?_)
 refine wpAny_bind (wpAny_seqItems hTI rfl ?_)
 show wpAny _ _ (Builtin.SmallTypes.ownedTupleIsFree (.ref z) >>= _) _ _ _
 refine wpAny_bind ?_
 unfold Builtin.SmallTypes.ownedTupleIsFree
 refine wpAny_bind (wpAny_field hz rfl (x:=.none) rfl (wpAny_pure ?_))
 simp only [if_true]
 refine wpAny_bind (wpAny_rule ?_)
 refine wpAny_bind (wpAny_field hz rfl (x:=.ref TO) rfl ?_)
 refine wpAny_bind (wpAny_setField_rec hz (by simp) fun h₁ hz₁ hs₁=>?_)
 replace hz₁:IsZip h₁ z TI TO .ellipsis:=hz₁
 refine wpAny_bind ?_
 simp only [List.zipIdx_cons,List.zipIdx_nil,List.forIn_cons,List.forIn_nil]
 refine wpAny_bind (wpAny_bind (wpAny_onRaise ?_))
 show wpAny _ _ (Builtin.SmallTypes.nextOf (.ref i1) >>= _) _ _ _
 refine wpAny_bind (N1.item (N1.ext h1 hs₁.extBut D.i1z D.l1z) hx fun h₂ h1₂ hs₂=>wpAny_pure ?_)
 have hTO₂:IsPair h₂ TO a b:=hs₂.extBut _ _ D.TOi1 (hs₁.extBut _ _ D.TOz hTO)
 refine wpAny_bind (wpAny_seqItems hTO₂ rfl ?_)
 refine wpAny_bind (wpAny_updateSeq_pair hTO₂ fun h₃ hTO₃ hs₃=>?_)
 replace hTO₃:IsPair h₃ TO x b:=hTO₃
 refine wpAny_bind (wpAny_letGo (wpAny_pure ?_))
 refine wpAny_bind (wpAny_bind (wpAny_onRaise ?_))
 show wpAny _ _ (Builtin.SmallTypes.nextOf (.ref i2) >>= _) _ _ _
 refine wpAny_bind (next_item (((h2.extBut hs₁.extBut D.i2z).extBut hs₂.extBut D.i12.symm).extBut hs₃.extBut D.TOi2.symm)
  (((hl2.extBut hs₁.extBut D.l2z).extBut hs₂.extBut D.l2i1).extBut hs₃.extBut D.l2TO) hy fun h₄ h2₄ hs₄=>wpAny_pure ?_)
 have hTO₄:IsPair h₄ TO x b:=hs₄.extBut _ _ D.TOi2 hTO₃
 refine wpAny_bind (wpAny_seqItems hTO₄ rfl ?_)
 refine wpAny_bind (wpAny_updateSeq_pair hTO₄ fun h₅ hTO₅ hs₅=>?_)
 replace hTO₅:IsPair h₅ TO x y:=hTO₅
 refine wpAny_bind (wpAny_letGo (wpAny_pure (wpAny_pure ?_)))
 refine wpAny_bind (wpAny_seqItems hTO₅ rfl ?_)
 refine wpAny_bind (wpAny_newTuple ?_)
 have hsz:h₅.objs.size=s.heap.objs.size:=by rw [hs₅.1,hs₄.1,hs₃.1,hs₂.1,hs₁.1]
 have hz₅:IsZip h₅ z TI TO .ellipsis:=hs₅.extBut _ _ D.TOz.symm (hs₄.extBut _ _ D.i2z.symm (hs₃.extBut _ _ D.TOz.symm (hs₂.extBut _ _ D.i1z.symm hz₁)))
 have hk₅:∀ c o,c≠z→c≠TO→c≠i1→c≠i2→s.heap.get? c=some o→h₅.get? c=some o:=fun c o c1 c2 c3 c4 e=>
  hs₅.extBut _ _ c2 (hs₄.extBut _ _ c4 (hs₃.extBut _ _ c2 (hs₂.extBut _ _ c3 (hs₁.extBut _ _ c1 e))))
 have h1₅:P1 h₅ (k1 + 1):=N1.ext (N1.ext (N1.ext h1₂ hs₃.extBut D.TOi1.symm D.l1TO) hs₄.extBut D.i12 D.l1i2) hs₅.extBut D.TOi1.symm D.l1TO
 have h2₅:h₅.IsTupleIter i2 l2 (k2 + 1):=h2₄.extBut hs₅.extBut D.TOi2.symm
 have hzlt:z < h₅.objs.size:=Heap.lt_size hz₅
 show wpAny _ _ (Builtin.SmallTypes.ownedTupleHandOut (.ref z) (.ref h₅.objs.size) >>= _) _ _ _
 refine wpAny_bind ?_
 unfold Builtin.SmallTypes.ownedTupleHandOut
 have hz₆:IsZip (h₅.push { cls:=.type "tuple",data:=.seq #[x,y] }) z TI TO .ellipsis:=Heap.get?_push_of_some _ hz₅
 refine wpAny_bind (wpAny_setField_rec hz₆ (by simp) fun h₇ hz₇ hs₇=>?_)
 replace hz₇:IsZip h₇ z TI TO (rawInt h₅.objs.size):=hz₇
 refine wpAny_setField_rec hz₇ (by simp) fun h₈ hz₈ hs₈=>?_
 replace hz₈:IsZip h₈ z TI TO (rawInt h₅.objs.size):=hz₈
 have up:∀ c o,c≠z→h₅.get? c=some o→h₈.get? c=some o:=fun c o c1 e=>hs₈.extBut _ _ c1 (hs₇.extBut _ _ c1 (Heap.get?_push_of_some _ e))
 have hT₈:IsPair h₈ h₅.objs.size x y:=hs₈.extBut _ _ (Nat.ne_of_gt hzlt) (hs₇.extBut _ _ (Nat.ne_of_gt hzlt) (Heap.get?_push_size _ rfl))
 have hz8:h₈.objs.size=h₅.objs.size + 1:=by rw [hs₈.1,hs₇.1,Heap.size_push]
 rw [hsz] at hz₈ hT₈ hz8
 refine wpAny_pure ⟨_,rfl,?_⟩
 show Q (.ref h₅.objs.size) _
 rw [hsz]
 exact hQ h₈ hz₈ (up _ _ D.TOz hTO₅) (N1.kept h1₅ (fun o e=>up _ o D.i1z e) fun o e=>up _ o D.l1z e) (h2₅.at fun o e=>up _ o D.i2z e) hT₈ hz8 fun c o c1 c2 c3 c4 e=>up c o c1 (hk₅ c o c1 c2 c3 c4 e)
theorem alive {a:Addr} {o:Obj} {Q:Option Obj→Shared→Prop} (ho:s.heap.get? a=some o) (h:Q (some o) s):wpAny (model prog w) A (loadIfAlive a) Q E s:=by
 intro Γ p hΓ
 unfold loadIfAlive
 first
  | (rw [Sem.wp_loadIfAlive,ho]; exact h)
  | (simp only [Sem.wp_loadIfAlive,ho]; exact h)
theorem gAgain {P1:Heap→Nat→Prop} {z TI TO i1 i2 l1 l2 T:Addr} {k1 k2:Nat} {xs ys:Array Value} {x y:Value} {bb:Bool} {oT:Obj} {Q:Value→Shared→Prop} (D:ZipApart z TI TO i1 i2 l1 l2)
  (hz:IsZipF s.heap z TI TO (rawInt T) (.bool bb)) (hT:s.heap.get? T=some oT) (hTI:IsPair s.heap TI (.ref i1) (.ref i2))
  (N1:Nx prog w i1 l1 xs P1) (h1:P1 s.heap k1) (h2:s.heap.IsTupleIter i2 l2 k2) (hl2:s.heap.IsTuple l2 ys) (hx:xs[k1]?=some x) (hy:ys[k2]?=some y)
  (hQ:∀ h',IsZipF h' z TI TO (rawInt T) (.bool true)→P1 h' (k1 + 1)→h'.IsTupleIter i2 l2 (k2 + 1)→IsPair h' s.heap.objs.size x y→h'.objs.size=s.heap.objs.size + 1 →
   (∀ c o,c≠z→c≠i1→c≠i2→s.heap.get? c=some o→h'.get? c=some o)→Q (.ref s.heap.objs.size) { s with heap:=h' }) :
  wpAny (model prog w) A (Builtin.«zip.__next__» ⟨[.ref z],[]⟩) (fun fin s'=>∃ v,fin=.done (.ret v)∧Q v s') E s:=by
 show wpAny _ _ (field (.ref z) 2 >>= _) _ _ _
 refine wpAny_bind (wpAny_field hz rfl (x:=.bool false) rfl ?_)
 show wpAny _ _ (field (.ref z) 3 >>= _) _ _ _
 refine wpAny_bind (wpAny_field hz rfl (x:=.ref TI) rfl ?_)
 refine wpAny_bind (wpAny_seqItems hTI rfl ?_)
 show wpAny _ _ (Builtin.SmallTypes.ownedTupleIsFree (.ref z) >>= _) _ _ _
 refine wpAny_bind ?_
 unfold Builtin.SmallTypes.ownedTupleIsFree
 refine wpAny_bind (wpAny_field hz rfl (x:=rawInt T) rfl ?_)
 show wpAny _ _ (loadIfAlive ((T:Int).toNat) >>= _) _ _ _
 rw [Int.toNat_natCast]
 refine wpAny_bind (alive hT ?_)
 simp only [Option.isNone_some,Bool.false_eq_true,if_false]
 refine wpAny_bind (wpAny_field hz rfl (x:=.bool bb) rfl ?_)
 cases bb with
 | true=>
  have gz:IsZipF s.heap z TI TO (rawInt T) (.bool true):=hz
  have g1:=h1
  have g2:=h2
  have gl2:=hl2
  have gsz:s.heap.objs.size=s.heap.objs.size:=rfl
  have gk:∀ c o,c≠z→s.heap.get? c=some o→s.heap.get? c=some o:=fun _ _ _ e=>e
  simp only [bne_self_eq_false,Bool.false_eq_true,if_false]
  refine wpAny_pure ?_
  simp only [Bool.false_eq_true,if_false,List.forIn_toArray,List.forIn_cons,List.forIn_nil]
  refine wpAny_bind (wpAny_bind (wpAny_bind (wpAny_holding ?_)))
  show wpAny _ _ (Builtin.SmallTypes.nextOf (.ref i1) >>= _) _ _ _
  refine wpAny_bind (N1.item g1 hx fun h₂ h1₂ hs₂=>wpAny_pure (wpAny_pure ?_))
  refine wpAny_bind (wpAny_bind (wpAny_holding ?_))
  show wpAny _ _ (Builtin.SmallTypes.nextOf (.ref i2) >>= _) _ _ _
  refine wpAny_bind (next_item (g2.extBut hs₂.extBut D.i12.symm) (gl2.extBut hs₂.extBut D.l2i1) hy fun h₃ h2₃ hs₃=>wpAny_pure (wpAny_pure ?_))
  refine wpAny_pure ?_
  refine wpAny_bind (wpAny_newTuple ?_ (by show 2 ≤ sizeLine; decide))
  have hsz:h₃.objs.size=s.heap.objs.size:=(hs₃.1.trans hs₂.1).trans gsz
  have hz₃:IsZipF h₃ z TI TO (rawInt T) (.bool true):=hs₃.extBut _ _ D.i2z.symm (hs₂.extBut _ _ D.i1z.symm gz)
  have h1₃:P1 h₃ (k1 + 1):=N1.ext h1₂ hs₃.extBut D.i12 D.l1i2
  refine wpAny_pure ⟨_,rfl,?_⟩
  show Q (.ref h₃.objs.size) _
  have hP:IsPair (h₃.push { cls:=.type "tuple",data:=.seq #[x,y] }) h₃.objs.size x y:=Heap.get?_push_size _ rfl
  have hz8:(h₃.push { cls:=.type "tuple",data:=.seq #[x,y] }).objs.size=h₃.objs.size + 1:=Heap.size_push ..
  rw [hsz] at hP hz8 ⊢
  exact hQ _ (Heap.get?_push_of_some _ hz₃) (N1.kept h1₃ (fun o e=>Heap.get?_push_of_some _ e) fun o e=>Heap.get?_push_of_some _ e) (h2₃.at fun o e=>Heap.get?_push_of_some _ e) hP hz8 fun c o c1 c2 c3 e=>
   Heap.get?_push_of_some _ (hs₃.extBut _ _ c3 (hs₂.extBut _ _ c2 (gk c o c1 e)))
 | false=>
  rw [if_pos (by rfl)]
  refine wpAny_bind (wpAny_setField_rec hz (by simp) fun h₁ hz₁ hs₁=>?_)
  have gz:IsZipF h₁ z TI TO (rawInt T) (.bool true):=hz₁
  have g1:=N1.ext h1 hs₁.extBut D.i1z D.l1z
  have g2:=h2.extBut hs₁.extBut D.i2z
  have gl2:=hl2.extBut hs₁.extBut D.l2z
  have gsz:h₁.objs.size=s.heap.objs.size:=hs₁.1
  have gk:∀ c o,c≠z→s.heap.get? c=some o→h₁.get? c=some o:=fun c o n e=>hs₁.extBut _ _ n e
  refine wpAny_pure ?_
  simp only [Bool.false_eq_true,if_false,List.forIn_toArray,List.forIn_cons,List.forIn_nil]
  refine wpAny_bind (wpAny_bind (wpAny_bind (wpAny_holding ?_)))
  show wpAny _ _ (Builtin.SmallTypes.nextOf (.ref i1) >>= _) _ _ _
  refine wpAny_bind (N1.item g1 hx fun h₂ h1₂ hs₂=>wpAny_pure (wpAny_pure ?_))
  refine wpAny_bind (wpAny_bind (wpAny_holding ?_))
  show wpAny _ _ (Builtin.SmallTypes.nextOf (.ref i2) >>= _) _ _ _
  refine wpAny_bind (next_item (g2.extBut hs₂.extBut D.i12.symm) (gl2.extBut hs₂.extBut D.l2i1) hy fun h₃ h2₃ hs₃=>wpAny_pure (wpAny_pure ?_))
  refine wpAny_pure ?_
  refine wpAny_bind (wpAny_newTuple ?_ (by show 2 ≤ sizeLine; decide))
  have hsz:h₃.objs.size=s.heap.objs.size:=(hs₃.1.trans hs₂.1).trans gsz
  have hz₃:IsZipF h₃ z TI TO (rawInt T) (.bool true):=hs₃.extBut _ _ D.i2z.symm (hs₂.extBut _ _ D.i1z.symm gz)
  have h1₃:P1 h₃ (k1 + 1):=N1.ext h1₂ hs₃.extBut D.i12 D.l1i2
  refine wpAny_pure ⟨_,rfl,?_⟩
  show Q (.ref h₃.objs.size) _
  have hP:IsPair (h₃.push { cls:=.type "tuple",data:=.seq #[x,y] }) h₃.objs.size x y:=Heap.get?_push_size _ rfl
  have hz8:(h₃.push { cls:=.type "tuple",data:=.seq #[x,y] }).objs.size=h₃.objs.size + 1:=Heap.size_push ..
  rw [hsz] at hP hz8 ⊢
  exact hQ _ (Heap.get?_push_of_some _ hz₃) (N1.kept h1₃ (fun o e=>Heap.get?_push_of_some _ e) fun o e=>Heap.get?_push_of_some _ e) (h2₃.at fun o e=>Heap.get?_push_of_some _ e) hP hz8 fun c o c1 c2 c3 e=>
   Heap.get?_push_of_some _ (hs₃.extBut _ _ c3 (hs₂.extBut _ _ c2 (gk c o c1 e)))
theorem gEnds {P1:Heap→Nat→Prop} {z TI TO i1 i2 l1 l2:Addr} {k:Nat} {xs ys:Array Value} {Q:Fin→Shared→Prop} (hh:A.handled=none) (D:ZipApart z TI TO i1 i2 l1 l2) (N1:Nx prog w i1 l1 xs P1) (S:Zg P1 s.heap z TI TO i1 i2 l2 ys k) (hx:xs[k]?=none)
  (hE:∀ h' e,(∀ c o,c≠z→c≠i1→s.heap.get? c=some o→h'.get? c=some o)→(∃ o,h'.get? e=some o∧o.cls=.type "StopIteration")→E (.ref e) { s with heap:=h' }) :
  wpAny (model prog w) A (Builtin.«zip.__next__» ⟨[.ref z],[]⟩) Q E s:=by
 obtain ⟨hz,hTI,⟨a,b,hTO⟩,h1,h2,hl2⟩:=S
 rcases hz with hz | ⟨T,bb,oT,hz,hT,hTz⟩
 ·show wpAny _ _ (field (.ref z) 2 >>= _) _ _ _
  refine wpAny_bind (wpAny_field hz rfl (x:=.bool false) rfl ?_)
  show wpAny _ _ (field (.ref z) 3 >>= _) _ _ _
  refine wpAny_bind (wpAny_field hz rfl (x:=.ref TI) rfl ?_)
  refine wpAny_bind (wpAny_seqItems hTI rfl ?_)
  show wpAny _ _ (Builtin.SmallTypes.ownedTupleIsFree (.ref z) >>= _) _ _ _
  refine wpAny_bind ?_
  unfold Builtin.SmallTypes.ownedTupleIsFree
  refine wpAny_bind (wpAny_field hz rfl (x:=.none) rfl (wpAny_pure ?_))
  simp only [if_true]
  refine wpAny_bind (wpAny_rule ?_)
  refine wpAny_bind (wpAny_field hz rfl (x:=.ref TO) rfl ?_)
  refine wpAny_bind (wpAny_setField_rec hz (by simp) fun h₁ hz₁ hs₁=>?_)
  replace hz₁:IsZip h₁ z TI TO .ellipsis:=hz₁
  refine wpAny_bind ?_
  simp only [List.zipIdx_cons,List.zipIdx_nil,List.forIn_cons,List.forIn_nil]
  refine wpAny_bind (wpAny_bind (wpAny_onRaise ?_))
  show wpAny _ _ (Builtin.SmallTypes.nextOf (.ref i1) >>= _) _ _ _
  refine wpAny_bind (N1.last hh (N1.ext h1 hs₁.extBut D.i1z D.l1z) hx fun h₂ e hs₂ he=>?_)
  obtain ⟨oe,hoe,hce⟩:=he
  have hz₂:IsZip h₂ z TI TO .ellipsis:=hs₂ _ _ D.i1z.symm hz₁
  have hez:e≠z:=fun x=>by subst x; rw [hz₂] at hoe; cases hoe; simp at hce
  refine wpAny_setField_rec hz₂ (by simp) fun h₃ _ hs₃=>hE h₃ e (fun c o c1 c3 x=>hs₃.extBut _ _ c1 (hs₂ _ _ c3 (hs₁.extBut _ _ c1 x))) ⟨oe,hs₃.extBut _ _ hez hoe,hce⟩
 ·show wpAny _ _ (field (.ref z) 2 >>= _) _ _ _
  refine wpAny_bind (wpAny_field hz rfl (x:=.bool false) rfl ?_)
  show wpAny _ _ (field (.ref z) 3 >>= _) _ _ _
  refine wpAny_bind (wpAny_field hz rfl (x:=.ref TI) rfl ?_)
  refine wpAny_bind (wpAny_seqItems hTI rfl ?_)
  show wpAny _ _ (Builtin.SmallTypes.ownedTupleIsFree (.ref z) >>= _) _ _ _
  refine wpAny_bind ?_
  unfold Builtin.SmallTypes.ownedTupleIsFree
  refine wpAny_bind (wpAny_field hz rfl (x:=rawInt T) rfl ?_)
  show wpAny _ _ (loadIfAlive ((T:Int).toNat) >>= _) _ _ _
  rw [Int.toNat_natCast]
  refine wpAny_bind (alive hT ?_)
  simp only [Option.isNone_some,Bool.false_eq_true,if_false]
  refine wpAny_bind (wpAny_field hz rfl (x:=.bool bb) rfl ?_)
  cases bb with
  | true=>
   simp only [bne_self_eq_false,Bool.false_eq_true,if_false]
   refine wpAny_pure ?_
   simp only [Bool.false_eq_true,if_false,List.forIn_toArray,List.forIn_cons,List.forIn_nil]
   refine wpAny_bind (wpAny_bind (wpAny_bind (wpAny_holding ?_)))
   show wpAny _ _ (Builtin.SmallTypes.nextOf (.ref i1) >>= _) _ _ _
   exact wpAny_bind (N1.last hh h1 hx fun h₂ e hs₂ he=>hE h₂ e (fun c o c1 c3 x=>hs₂ _ _ c3 x) he)
  | false=>
   rw [if_pos (by rfl)]
   refine wpAny_bind (wpAny_setField_rec hz (by simp) fun h₁ hz₁ hs₁=>?_)
   refine wpAny_pure ?_
   simp only [Bool.false_eq_true,if_false,List.forIn_toArray,List.forIn_cons,List.forIn_nil]
   refine wpAny_bind (wpAny_bind (wpAny_bind (wpAny_holding ?_)))
   show wpAny _ _ (Builtin.SmallTypes.nextOf (.ref i1) >>= _) _ _ _
   exact wpAny_bind (N1.last hh (N1.ext h1 hs₁.extBut D.i1z D.l1z) hx fun h₂ e hs₂ he=>hE h₂ e (fun c o c1 c3 x=>hs₂ _ _ c3 (hs₁.extBut _ _ c1 x)) he)
theorem gItem {P1:Heap→Nat→Prop} {z TI TO i1 i2 l1 l2:Addr} {k:Nat} {xs ys:Array Value} {x y:Value} {Q:Option Value→Shared→Prop} (D:ZipApart z TI TO i1 i2 l1 l2) (hlt:l1 < s.heap.objs.size∧l2 < s.heap.objs.size) (N1:Nx prog w i1 l1 xs P1) (S:Zg P1 s.heap z TI TO i1 i2 l2 ys k)
  (hl1T:l1≠TO∧l2≠TO) (hx:xs[k]?=some x) (hy:ys[k]?=some y)
  (hQ:∀ h',Zg P1 h' z TI TO i1 i2 l2 ys (k + 1)→IsPair h' s.heap.objs.size x y→h'.objs.size=s.heap.objs.size + 1 →
   (∀ c o,c≠z→c≠TO→c≠i1→c≠i2→s.heap.get? c=some o→h'.get? c=some o)→Q (some (.ref s.heap.objs.size)) { s with heap:=h' }) :
  wpAny (model prog w) A (pyNext (.ref z)) Q E s:=by
 have ⟨hz,hTI,⟨a,b,hTO⟩,h1,h2,hl2⟩:=S
 have hT:s.TypeIs (.ref z) "zip":=by
  rcases hz with hz | ⟨T,bb,oT,hz,_⟩ <;> exact ⟨_,hz,rfl⟩
 have zlt:z < s.heap.objs.size:=by
  rcases hz with hz | ⟨T,bb,oT,hz,_⟩ <;> exact Heap.lt_size hz
 unfold pyNext
 rcases hz with hz | ⟨T,bb,oT,hz,hTo,hTz⟩
 ·refine wpAny_bind (wpAny_attempt (wpAny_callSpecial?_slot (name:=Str.ofString "__next__") hT F.slot_zip_next
   (wpAny_call_entry F.slot_zip_next hT F.entry_zip_next
    (gFirst D hz hTI hTO N1 h1 h2 hl2 hx hy fun h' a1 a2 a3 a4 a5 a6 a7=>wpAny_pure (hQ h' ?_ a5 a6 a7)) (F.args_zip_next_1 _))))
  refine ⟨.inr ⟨_,_,_,a1,a5,Nat.ne_of_gt zlt⟩,a7 _ _ D.TIz D.TITO D.TIi1 D.TIi2 hTI,⟨_,_,a2⟩,a3,a4,hl2.at fun o e=>a7 _ o D.l2z hl1T.2 D.l2i1 D.l2i2 e⟩
 ·refine wpAny_bind (wpAny_attempt (wpAny_callSpecial?_slot (name:=Str.ofString "__next__") hT F.slot_zip_next
   (wpAny_call_entry F.slot_zip_next hT F.entry_zip_next
    (gAgain D hz hTo hTI N1 h1 h2 hl2 hx hy fun h' a1 a3 a4 a5 a6 a7=>wpAny_pure (hQ h' ?_ a5 a6 fun c o c1 _ c3 c4 e=>a7 c o c1 c3 c4 e)) (F.args_zip_next_1 _))))
  have hTi:∃ o,h'.get? T=some o:=by
   by_cases e1:T=i1
   ·subst e1; exact N1.there a3
   ·by_cases e2:T=i2
    ·subst e2; obtain ⟨o,e,_⟩:=a4; exact ⟨o,e⟩
    ·exact ⟨_,a7 _ _ hTz e1 e2 hTo⟩
  obtain ⟨oT',hTo'⟩:=hTi
  refine ⟨.inr ⟨_,_,_,a1,hTo',hTz⟩,a7 _ _ D.TIz D.TIi1 D.TIi2 hTI,⟨_,_,a7 _ _ D.TOz D.TOi1 D.TOi2 hTO⟩,a3,a4,hl2.at fun o e=>a7 _ o D.l2z D.l2i1 D.l2i2 e⟩
theorem gEnd {P1:Heap→Nat→Prop} {z TI TO i1 i2 l1 l2:Addr} {k:Nat} {xs ys:Array Value} {Q:Option Value→Shared→Prop} (hh:A.handled=none) (D:ZipApart z TI TO i1 i2 l1 l2) (N1:Nx prog w i1 l1 xs P1) (S:Zg P1 s.heap z TI TO i1 i2 l2 ys k) (hx:xs[k]?=none)
  (hQ:∀ h',(∀ c o,c≠z→c≠i1→s.heap.get? c=some o→h'.get? c=some o)→Q none { s with heap:=h' }):wpAny (model prog w) A (pyNext (.ref z)) Q E s:=by
 have hT:s.TypeIs (.ref z) "zip":=by
  rcases S.zip with hz | ⟨T,bb,oT,hz,_⟩ <;> exact ⟨_,hz,rfl⟩
 unfold pyNext
 refine wpAny_bind (wpAny_attempt (wpAny_callSpecial?_slot (name:=Str.ofString "__next__") hT F.slot_zip_next
  (wpAny_call_entry F.slot_zip_next hT F.entry_zip_next (gEnds hh D N1 S hx fun h' e hk he=>?_) (F.args_zip_next_1 _))))
 obtain ⟨o,ho,hc⟩:=he
 refine wpAny_bind (wpAny_isInstance (T:="StopIteration") (b:=true) ⟨o,ho,hc⟩ isSubtype_stop ?_)
 exact wpAny_pure (hQ _ hk)
theorem nxT {it l:Addr} {xs:Array Value} (hne:l≠it):Nx prog w it l xs fun h k=>h.IsTupleIter it l k∧h.IsTuple l xs where
 item:=fun p hx hQ=>next_item p.1 p.2 hx fun h' a s=>hQ h' ⟨a,p.2.extBut s.extBut hne⟩ s
 last:=fun hh p hx hE=>next_end hh p.1 p.2 hx hE
 kept:=fun p a b=>⟨p.1.at a,p.2.at b⟩
 there:=fun p=>by obtain ⟨o,e,_⟩:=p.1; exact ⟨o,e⟩
theorem pyNext_item {z TI TO i1 i2 l1 l2:Addr} {k:Nat} {xs ys:Array Value} {x y:Value} {Q:Option Value→Shared→Prop} (D:ZipApart z TI TO i1 i2 l1 l2) (hlt:l1 < s.heap.objs.size∧l2 < s.heap.objs.size) (S:Zs s.heap z TI TO i1 i2 l1 l2 xs ys k)
  (hl1T:l1≠TO∧l2≠TO) (hx:xs[k]?=some x) (hy:ys[k]?=some y)
  (hQ:∀ h',Zs h' z TI TO i1 i2 l1 l2 xs ys (k + 1)→IsPair h' s.heap.objs.size x y→h'.objs.size=s.heap.objs.size + 1 →
   (∀ c o,c≠z→c≠TO→c≠i1→c≠i2→s.heap.get? c=some o→h'.get? c=some o)→Q (some (.ref s.heap.objs.size)) { s with heap:=h' }) :
  wpAny (model prog w) A (pyNext (.ref z)) Q E s:=gItem D hlt (nxT D.l1i1) ⟨S.zip,S.ti,S.to,⟨S.it1,S.t1⟩,S.it2,S.t2⟩ hl1T hx hy fun h' Z b1 b2 b3=>hQ h' ⟨Z.zip,Z.ti,Z.to,Z.p1.1,Z.it2,Z.p1.2,Z.t2⟩ b1 b2 b3
theorem pyNext_end {z TI TO i1 i2 l1 l2:Addr} {k:Nat} {xs ys:Array Value} {Q:Option Value→Shared→Prop} (hh:A.handled=none) (D:ZipApart z TI TO i1 i2 l1 l2) (S:Zs s.heap z TI TO i1 i2 l1 l2 xs ys k) (hx:xs[k]?=none)
  (hQ:∀ h',(∀ c o,c≠z→c≠i1→s.heap.get? c=some o→h'.get? c=some o)→Q none { s with heap:=h' }):wpAny (model prog w) A (pyNext (.ref z)) Q E s:=gEnd hh D (nxT D.l1i1) ⟨S.zip,S.ti,S.to,⟨S.it1,S.t1⟩,S.it2,S.t2⟩ hx hQ
end
structure Got (h:Heap) (B:Nat) (bad:List Addr) (acc:Array Value) (xs ys:Array Value) (i:Nat) (Ts:List Addr):Prop where
 acc:acc.toList=Ts.map Value.ref
 len:Ts.length=i
 nodup:Ts.Nodup
 lt:∀ T∈Ts,B ≤ T∧T < h.objs.size∧T ∉ bad
 pair:∀ (j:Nat) T x y,Ts[j]?=some T→xs[j]?=some x→ys[j]?=some y→IsPair h T x y
theorem Got.keep {h h':Heap} {B:Nat} {bad:List Addr} {acc xs ys:Array Value} {i:Nat} {Ts:List Addr} (g:Got h B bad acc xs ys i Ts) (hs:h.objs.size ≤ h'.objs.size) (k:∀ b o,b ∉ bad→h.get? b=some o→h'.get? b=some o):Got h' B bad acc xs ys i Ts:=
 ⟨g.acc,g.len,g.nodup,fun T hT=>⟨(g.lt T hT).1,Nat.lt_of_lt_of_le (g.lt T hT).2.1 hs,(g.lt T hT).2.2⟩,fun j T x y e1 e2 e3=>k _ _ (g.lt T (List.mem_of_getElem? e1)).2.2 (g.pair j T x y e1 e2 e3)⟩
theorem Got.more {h:Heap} {B:Nat} {bad:List Addr} {acc xs ys:Array Value} {i:Nat} {Ts:List Addr} {T:Addr} {x y:Value} (g:Got h B bad acc xs ys i Ts) (hT:B ≤ T∧T < h.objs.size∧T ∉ bad) (hn:T ∉ Ts) (p:IsPair h T x y) (hx:xs[i]?=some x) (hy:ys[i]?=some y) :
  Got h B bad (acc.push (.ref T)) xs ys (i + 1) (Ts++[T]) where
 acc:=by rw [Array.toList_push,g.acc,List.map_append]; rfl
 len:=by rw [List.length_append,g.len]; rfl
 nodup:=List.nodup_append.mpr ⟨g.nodup,by simp,fun a ha b hb=>by rw [List.mem_singleton.mp hb]; rintro rfl; exact hn ha⟩
 lt:=fun U hU=>by
  rcases List.mem_append.mp hU with hU | hU
  ·exact g.lt U hU
  ·rw [List.mem_singleton.mp hU]; exact hT
 pair:=fun j U a b e1 e2 e3=>by
  by_cases hj:j < Ts.length
  ·rw [List.getElem?_append_left hj] at e1
   exact g.pair j U a b e1 e2 e3
  ·have hl:=g.len
   rw [List.getElem?_append_right (by omega)] at e1
   have:j - Ts.length=0:=by
    by_cases h0:j - Ts.length=0
    ·exact h0
    ·rw [List.getElem?_eq_none (by simp; omega)] at e1; cases e1
   have hji:j=i:=by omega
   subst hji
   rw [this] at e1
   simp at e1
   subst e1
   rw [hx] at e2
   rw [hy] at e3
   cases e2
   cases e3
   exact p
section
variable {prog:Program} {w:World} {A:Around} {R:Result→Shared→Prop} {S z TI TO i1 i2 l1 l2:Addr} {xs ys:Array Value} {n B:Nat}
theorem Zs.keep {h h':Heap} {k:Nat} (Z:Zs h z TI TO i1 i2 l1 l2 xs ys k) (e:∀ b o,b≠S→h.get? b=some o→h'.get? b=some o) (hS:z≠S∧TI≠S∧TO≠S∧i1≠S∧i2≠S∧l1≠S∧l2≠S) (hSo:∃ o,h'.get? S=some o):Zs h' z TI TO i1 i2 l1 l2 xs ys k:=by
 obtain ⟨hz,hTI,⟨a,b,hTO⟩,h1,h2,hl1,hl2⟩:=Z
 obtain ⟨s1,s2,s3,s4,s5,s6,s7⟩:=hS
 refine ⟨?_,e _ _ s2 hTI,⟨a,b,e _ _ s3 hTO⟩,h1.at fun o q=>e _ o s4 q,h2.at fun o q=>e _ o s5 q,hl1.at fun o q=>e _ o s6 q,hl2.at fun o q=>e _ o s7 q⟩
 rcases hz with hz | ⟨T,bb,oT,hz,hT,hTz⟩
 ·exact .inl (e _ _ s1 hz)
 ·by_cases hTS:T=S
  ·obtain ⟨o,ho⟩:=hSo
   exact .inr ⟨T,bb,o,e _ _ s1 hz,by rw [hTS]; exact ho,hTz⟩
  ·exact .inr ⟨T,bb,oT,e _ _ s1 hz,e _ _ hTS hT,hTz⟩
theorem loop (hh:A.handled=none) (D:ZipApart z TI TO i1 i2 l1 l2) (hlT:l1≠TO∧l2≠TO) (hS:z≠S∧TI≠S∧TO≠S∧i1≠S∧i2≠S∧l1≠S∧l2≠S) (hxn:xs.size=n) (hyn:ys.size=n) (hn:n ≤ sizeLine) (res:Value) :
  ∀ (k i:Nat) (s:Shared) (acc:Array Value) (c:Nat) (Ts:List Addr),n - i=k→i ≤ n→B ≤ s.heap.objs.size→Zs s.heap z TI TO i1 i2 l1 l2 xs ys i→s.heap.get? S=some { cls:=.type "list",dict:=none,data:=.seq acc c,slots:=#[] } →
  Got s.heap B [S,z,TO,i1,i2] acc xs ys i Ts →
  (∀ h' acc' c' Ts',(∀ b o,b ∉ [S,z,TO,i1,i2]→s.heap.get? b=some o→h'.get? b=some o)→h'.get? S=some { cls:=.type "list",dict:=none,data:=.seq acc' c',slots:=#[] }→Got h' B [S,z,TO,i1,i2] acc' xs ys n Ts'→R (.ok (.ret res)) { s with heap:=h' }) →
  codeAny (model prog w) A (.builtin "list.extend.loop" ⟨[.ref S,.ref z,res],[]⟩) R s:=by
 intro k
 induction k with
 | zero=>
  intro i s acc c Ts hk hi hB hst hSo hacc hR
  have hin:i=n:=by omega
  subst hin
  refine codeAny_builtin F.entry_extend_loop ?_
  rw [Around.under_plainId F.plain_extend_loop _]
  show wpAny _ A.in1 (pyNext (.ref z) >>= _) _ _ s
  have hlt:s.heap.objs.size ≤ s.heap.objs.size:=Nat.le_refl _
  refine wpAny_bind (pyNext_end (A:=A.in1) hh D hst (by rw [Array.getElem?_eq_none]; omega) fun h' hm=>?_)
  have hm':∀ b o,b ∉ [S,z,TO,i1,i2]→s.heap.get? b=some o→h'.get? b=some o:=fun b o hb e=>hm b o (fun q=>hb (by simp [q])) (fun q=>hb (by simp [q])) e
  have hsz:∀ T∈Ts,T < h'.objs.size:=fun T hT=>by
   obtain ⟨j,hj⟩:=List.getElem?_of_mem hT
   have hjl:j < Ts.length:=(List.getElem?_eq_some_iff.mp hj).1
   have hl:=hacc.len
   have p:=hacc.pair j T xs[j] ys[j] hj (by simp [show j < xs.size by omega]) (by simp [show j < ys.size by omega])
   exact Heap.lt_size (hm' _ _ (hacc.lt T hT).2.2 p)
  exact wpAny_pure (hR h' acc c Ts hm' (hm S _ hS.1.symm hS.2.2.2.1.symm hSo) ⟨hacc.acc,hacc.len,hacc.nodup,fun T hT=>⟨(hacc.lt T hT).1,hsz T hT,(hacc.lt T hT).2.2⟩,fun j T x y e1 e2 e3=>hm' _ _ (hacc.lt T (List.mem_of_getElem? e1)).2.2 (hacc.pair j T x y e1 e2 e3)⟩)
 | succ k ih=>
  intro i s acc c Ts hk hi hB hst hSo hacc hR
  have hlt:i < n:=by omega
  refine codeAny_builtin F.entry_extend_loop ?_
  rw [Around.under_plainId F.plain_extend_loop _]
  show wpAny _ A.in1 (pyNext (.ref z) >>= _) _ _ s
  have l1lt:l1 < s.heap.objs.size:=by obtain ⟨o,e,_⟩:=hst.t1; exact Heap.lt_size e
  have l2lt:l2 < s.heap.objs.size:=by obtain ⟨o,e,_⟩:=hst.t2; exact Heap.lt_size e
  refine wpAny_bind (pyNext_item (A:=A.in1) (x:=xs[i]) (y:=ys[i]) D ⟨l1lt,l2lt⟩ hst hlT (by simp [show i < xs.size by omega]) (by simp [show i < ys.size by omega]) fun h' Z' p hsz hm=>?_)
  have hm':∀ b o,b ∉ [S,z,TO,i1,i2]→s.heap.get? b=some o→h'.get? b=some o:=fun b o hb e=>hm b o (fun q=>hb (by simp [q])) (fun q=>hb (by simp [q])) (fun q=>hb (by simp [q])) (fun q=>hb (by simp [q])) e
  have hS':=hm S _ hS.1.symm hS.2.2.1.symm hS.2.2.2.1.symm hS.2.2.2.2.1.symm hSo
  have Slt:S < s.heap.objs.size:=Heap.lt_size hSo
  have nb:s.heap.objs.size ∉ [S,z,TO,i1,i2]:=by
   obtain ⟨hz,hTI,⟨a,b,hTO⟩,h1,h2,hl1,hl2⟩:=hst
   have a1:z < s.heap.objs.size:=by
    rcases hz with hz | ⟨T,bb,oT,hz,_⟩ <;> exact Heap.lt_size hz
   have a2:TO < s.heap.objs.size:=Heap.lt_size hTO
   have a3:i1 < s.heap.objs.size:=by obtain ⟨o,e,_⟩:=h1; exact Heap.lt_size e
   have a4:i2 < s.heap.objs.size:=by obtain ⟨o,e,_⟩:=h2; exact Heap.lt_size e
   intro hb
   simp only [List.mem_cons,List.not_mem_nil,or_false] at hb
   rcases hb with e | e | e | e | e
   ·exact Nat.ne_of_gt Slt e
   ·exact Nat.ne_of_gt a1 e
   ·exact Nat.ne_of_gt a2 e
   ·exact Nat.ne_of_gt a3 e
   ·exact Nat.ne_of_gt a4 e
  have nT:s.heap.objs.size ∉ Ts:=fun hT=>Nat.lt_irrefl _ (hacc.lt _ hT).2.1
  have g':=(hacc.keep (h':=h') (by omega) hm').more (T:=s.heap.objs.size) (x:=xs[i]) (y:=ys[i]) ⟨hB,(by rw [hsz]; exact Nat.lt_succ_self _),nb⟩ nT p (by simp [show i < xs.size by omega]) (by simp [show i < ys.size by omega])
  show wpAny _ A.in1 (updateSeq S (·.push (.ref s.heap.objs.size)) >>= _) _ _ _
  refine wpAny_bind ?_
  have hal:acc.size=i:=by
   have:=congrArg List.length hacc.acc
   rw [Array.length_toList,List.length_map,hacc.len] at this
   exact this
  have oth:∀ b o,b≠S→h'.get? b=some o→(h'.update S (Obj.mapSeq (·.push (.ref s.heap.objs.size)))).get? b=some o:=fun b o hb e=>(Heap.get?_update_other _ _ (Ne.symm hb)).trans e
  have upS:=Heap.get?_update_self (Obj.mapSeq (·.push (.ref s.heap.objs.size))) hS' rfl
  refine wpAny_updateSeq hS' rfl (wpAny_pure ⟨plainId_quiet F.plain_extend_loop _,ih (i + 1) _ (acc.push (.ref s.heap.objs.size)) _ (Ts++[s.heap.objs.size]) (by omega) hlt ?_ (Z'.keep oth hS ⟨_,upS⟩) upS (g'.keep ?_ fun b o hb e=>oth b o (fun q=>hb (by simp [q])) e) fun h'' acc' c' Ts' hm'' hS'' hacc'=>?_⟩)
   (by rw [hal]; omega) (by show (acc.push _).size ≤ sizeLine + 1; rw [Array.size_push,hal]; omega)
  ·show B ≤ (h'.update S _).objs.size
   rw [(Heap.SameBut.update ..).1]; omega
  ·show h'.objs.size ≤ (h'.update S _).objs.size
   rw [(Heap.SameBut.update ..).1]; exact Nat.le_refl _
  ·exact hR h'' acc' c' Ts' (fun b o hb e=>hm'' b o hb (oth b o (fun q=>hb (by simp [q])) (hm' b o hb e))) hS'' hacc'
end
theorem zip_no_len:typeLookup (.type "zip") "__len__"=pure none:=by rw [typeLookup_type,builtinLookup_eq_fast]; kernel_rfl
theorem zip_no_hint:typeLookup (.type "zip") "__length_hint__"=pure none:=by rw [typeLookup_type,builtinLookup_eq_fast]; kernel_rfl
section
variable {prog:Program} {w:World} {A:Around} {R:Result→Shared→Prop} {s:Shared} {S z TI TO i1 i2 l1 l2:Addr} {xs ys:Array Value} {n B:Nat}
theorem extend (hh:A.handled=none) (D:ZipApart z TI TO i1 i2 l1 l2) (hlT:l1≠TO∧l2≠TO) (hS:z≠S∧TI≠S∧TO≠S∧i1≠S∧i2≠S∧l1≠S∧l2≠S) (hxn:xs.size=n) (hyn:ys.size=n) (hn:n ≤ sizeLine) (res:Value) (c₀:Nat) (hB:B ≤ s.heap.objs.size)
  (hst:Zs s.heap z TI TO i1 i2 l1 l2 xs ys 0) (hSo:s.heap.get? S=some { cls:=.type "list",data:=.seq #[] c₀ })
  (hR:∀ h' acc' c' Ts',(∀ b o,b ∉ [S,z,TO,i1,i2]→s.heap.get? b=some o→h'.get? b=some o)→h'.get? S=some { cls:=.type "list",dict:=none,data:=.seq acc' c',slots:=#[] }→Got h' B [S,z,TO,i1,i2] acc' xs ys n Ts'→R (.ok (.ret res)) { s with heap:=h' }) :
  wpAny (model prog w) A.in1 (Builtin.List.listExtendWith (.ref S) (.ref z) res)
   (fun fin s'=>match fin with | .done f=>R (.ok f) s' | .again c'=>c'.quiet=true∧codeAny (model prog w) A c' R s') (fun e s'=>R (.error e) s') s:=by
 have hT:s.TypeIs (.ref z) "zip":=by
  rcases hst.zip with hz | ⟨T,bb,oT,hz,_⟩ <;> exact ⟨_,hz,rfl⟩
 unfold Builtin.List.listExtendWith
 refine wpAny_bind (wpAny_typeOf hT ?_)
 have h1:Builtin.List.listSameRef (.ref S) (.ref z)=false:=by simp [Builtin.List.listSameRef,hS.1.symm]
 have h2:(Value.type "zip" == Value.type "list")=false:=by decide
 have h3:(Value.type "zip" == Value.type "tuple")=false:=by decide
 simp only [h1,h2,h3,Bool.or_false,Bool.false_eq_true,if_false]
 have hself:∀ (Q:Value→Shared→Prop) (E:Value→Shared→Prop),Q (.ref z) s→wpAny (model prog w) A.in1 (pyIter (.ref z)) Q E s:=fun Q E h=>by
  refine wpAny_pyIter_slot hT F.slot_zip_iter (wpAny_call_entry F.slot_zip_iter hT F.entry_zip_iter ?_ (F.args_zip_iter_1 _))
  show wpAny _ _ (ret (.ref z)) _ _ s
  exact wpAny_pure ⟨_,rfl,"zip",_,hT,F.slot_zip_next.lookup,h⟩
 refine wpAny_bind (hself _ _ ?_)
 refine wpAny_bind (wpAny_holding ?_)
 unfold Builtin.List.listLengthHint
 refine wpAny_bind (wpAny_specialOf hT zip_no_len ?_)
 show wpAny _ A.in1 (specialOf (Value.ref z) (Str.ofString "__length_hint__") >>= _) _ _ _
 refine wpAny_bind (wpAny_specialOf hT zip_no_hint ?_)
 refine wpAny_pure ?_
 show wpAny _ A.in1 (rule "list.extend.makes-room" >>= fun _=>Builtin.List.listTouch (.ref S) >>= fun _=>
  again (.builtin "list.extend.loop" ⟨[.ref S,.ref z,res],[]⟩)) _ _ _
 refine wpAny_bind (wpAny_rule ?_)
 refine wpAny_bind ?_
 show wpAny _ A.in1 (updateSeq S (·.push .none) >>= fun _=>updateSeq S (·.pop)) _ _ _
 refine wpAny_bind (wpAny_updateSeq hSo rfl ?_)
 have hS₂:=Heap.get?_update_self (Obj.mapSeq (·.push Value.none)) hSo rfl
 refine wpAny_updateSeq (hz:=by seq_fits) hS₂ rfl ?_
 have hS₃:=Heap.get?_update_self (Obj.mapSeq (·.pop)) hS₂ rfl
 have oth:∀ b o,b≠S→s.heap.get? b=some o→((s.heap.update S (Obj.mapSeq (·.push Value.none))).update S (Obj.mapSeq (·.pop))).get? b=some o:=
  fun b o hb e=>(Heap.get?_update_other _ _ (Ne.symm hb)).trans ((Heap.get?_update_other _ _ (Ne.symm hb)).trans e)
 refine wpAny_pure ⟨plainId_quiet F.plain_extend_loop _,loop (B:=B) hh D hlT hS hxn hyn hn res n 0 _ _ _ [] (by omega) (Nat.zero_le _) ?_ (hst.keep oth hS ⟨_,hS₃⟩) hS₃ ⟨rfl,rfl,List.nodup_nil,fun T hT=>(nomatch hT),fun j T x y e=>by simp at e⟩ fun h' acc' c' Ts' hm hS' hacc=>?_⟩
 ·show B ≤ ((s.heap.update S _).update S _).objs.size
  rw [(Heap.SameBut.update ..).1,(Heap.SameBut.update ..).1]
  exact hB
 ·exact hR h' acc' c' Ts' (fun b o hb e=>hm b o hb (oth b o (fun q=>hb (by simp [q])) e)) hS' hacc
theorem init (hh:A.handled=none) (D:ZipApart z TI TO i1 i2 l1 l2) (hlT:l1≠TO∧l2≠TO) (hS:z≠S∧TI≠S∧TO≠S∧i1≠S∧i2≠S∧l1≠S∧l2≠S) (hxn:xs.size=n) (hyn:ys.size=n) (hn:n ≤ sizeLine) (hB:B ≤ s.heap.objs.size)
  (hst:Zs s.heap z TI TO i1 i2 l1 l2 xs ys 0) (hSo:s.heap.get? S=some { cls:=.type "list",data:=.seq #[] })
  (hR:∀ h' acc' c' Ts',(∀ b o,b ∉ [S,z,TO,i1,i2]→s.heap.get? b=some o→h'.get? b=some o)→h'.get? S=some { cls:=.type "list",dict:=none,data:=.seq acc' c',slots:=#[] }→Got h' B [S,z,TO,i1,i2] acc' xs ys n Ts'→R (.ok (.ret .none)) { s with heap:=h' }) :
  wpAny (model prog w) A.in1 (Builtin.«list.__init__» ⟨[.ref S,.ref z],[]⟩)
   (fun fin s'=>match fin with | .done f=>R (.ok f) s' | .again c'=>c'.quiet=true∧codeAny (model prog w) A c' R s') (fun e s'=>R (.error e) s') s:=by
 show wpAny _ A.in1 (do let old ← Builtin.List.listItems (.ref S); Builtin.List.listUpdate (.ref S) (fun _=>#[]); letGo old.toList.reverse; Builtin.List.listExtendWith (.ref S) (.ref z) .none) _ _ s
 refine wpAny_bind ?_
 unfold Builtin.List.listItems
 refine wpAny_bind (wpAny_seqItems hSo rfl (wpAny_pure ?_))
 show wpAny _ A.in1 (updateSeq S (fun _=>#[]) >>= fun _=>letGo (#[]:Array Value).toList.reverse >>= fun _=>Builtin.List.listExtendWith (.ref S) (.ref z) .none) _ _ s
 refine wpAny_bind (wpAny_updateSeq hSo rfl ?_)
 have hS₂:=Heap.get?_update_self (Obj.mapSeq (fun _=>(#[]:Array Value))) hSo rfl
 have oth:∀ b o,b≠S→s.heap.get? b=some o→(s.heap.update S (Obj.mapSeq (fun _=>(#[]:Array Value)))).get? b=some o:=
  fun b o hb e=>(Heap.get?_update_other _ _ (Ne.symm hb)).trans e
 refine wpAny_bind (wpAny_letGo ?_)
 refine extend (B:=B) hh D hlT hS hxn hyn hn .none _ ?_ (hst.keep oth hS ⟨_,hS₂⟩) hS₂ fun h' acc' c' Ts' hm hS' hacc=>?_
 ·show B ≤ (s.heap.update S _).objs.size
  rw [(Heap.SameBut.update ..).1]
  exact hB
 ·exact hR h' acc' c' Ts' (fun b o hb e=>hm b o hb (oth b o (fun q=>hb (by simp [q])) e)) hS' hacc
end
section
variable {prog:Program} {w:World} {A:Around} {E:Value→Shared→Prop} {s:Shared} {z TI TO i1 i2 l1 l2:Addr} {xs ys:Array Value} {n B:Nat}
theorem call_list {Q:Value→Shared→Prop} (hh:A.handled=none) (D:ZipApart z TI TO i1 i2 l1 l2) (hlT:l1≠TO∧l2≠TO) (hxn:xs.size=n) (hyn:ys.size=n) (hn:n ≤ sizeLine) (hB:B ≤ s.heap.objs.size) (hst:Zs s.heap z TI TO i1 i2 l1 l2 xs ys 0)
  (hQ:∀ h' acc' c' Ts',(∀ b o,b ∉ [z,TO,i1,i2]→s.heap.get? b=some o→h'.get? b=some o)→h'.get? s.heap.objs.size=some { cls:=.type "list",dict:=none,data:=.seq acc' c',slots:=#[] }→Got h' B [s.heap.objs.size,z,TO,i1,i2] acc' xs ys n Ts'→Q (.ref s.heap.objs.size) { s with heap:=h' }) :
  wpAny (model prog w) A (call (.type "list") [.ref z]) Q E s:=by
 have hlt:∀ b o,s.heap.get? b=some o→b≠s.heap.objs.size:=fun b o e=>Nat.ne_of_lt (Heap.lt_size e)
 have hS:z≠s.heap.objs.size∧TI≠s.heap.objs.size∧TO≠s.heap.objs.size∧i1≠s.heap.objs.size∧i2≠s.heap.objs.size∧l1≠s.heap.objs.size∧l2≠s.heap.objs.size:=by
  obtain ⟨hz,hTI,⟨a,b,hTO⟩,h1,h2,hl1,hl2⟩:=hst
  refine ⟨?_,hlt _ _ hTI,hlt _ _ hTO,?_,?_,?_,?_⟩
  ·rcases hz with hz | ⟨T,bb,oT,hz,_⟩ <;> exact hlt _ _ hz
  ·obtain ⟨o,e,_⟩:=h1; exact hlt _ _ e
  ·obtain ⟨o,e,_⟩:=h2; exact hlt _ _ e
  ·obtain ⟨o,e,_⟩:=hl1; exact hlt _ _ e
  ·obtain ⟨o,e,_⟩:=hl2; exact hlt _ _ e
 refine callType_codes (Q₁:=fun obj s₁=>obj=.ref s.heap.objs.size∧s₁={ s with heap:=s.heap.push { cls:=.type "list",data:=.seq #[] } }) F.called_list (F.typeCall_list_1 _) F.entry_list_init
  (code_list_new _ ⟨rfl,rfl⟩) fun obj s₁ h₁=>?_
 obtain ⟨rfl,rfl⟩:=h₁
 have hSo:(s.heap.push { cls:=.type "list",data:=.seq #[] }).get? s.heap.objs.size=some { cls:=.type "list",data:=.seq #[] }:=Heap.get?_push_size _ rfl
 refine ⟨⟨_,hSo,rfl⟩,F.args_list_init_2 _ _,init (A:=A.in1) (B:=B) hh D hlT hS hxn hyn hn ?_ (hst.keep (S:=s.heap.objs.size) (fun b o _ e=>Heap.get?_push_of_some _ e) hS ⟨_,hSo⟩) hSo fun h' acc' c' Ts' hm hS' hacc=>?_⟩
 ·show B ≤ (s.heap.push _).objs.size
  rw [Heap.size_push]
  exact Nat.le_succ_of_le hB
 ·exact ⟨rfl,hQ h' acc' c' Ts' (fun b o hb e=>hm b o (fun q=>by
   rcases List.mem_cons.mp q with q | q
   ·exact hlt _ _ e q
   ·exact hb q) (Heap.get?_push_of_some _ e)) hS' hacc⟩
end
abbrev zH1 (h:Heap) (l1:Addr):Heap:=h.push { cls:=.type "tuple_iterator",data:=.fields #[.ref l1,.int 0 0] }
abbrev zH2 (h:Heap) (l1 l2:Addr):Heap:=(zH1 h l1).push { cls:=.type "tuple_iterator",data:=.fields #[.ref l2,.int 0 0] }
abbrev zH3 (h:Heap) (l1 l2:Addr):Heap:=(zH2 h l1 l2).push { cls:=.type "tuple",data:=.seq #[.ref h.objs.size,.ref (zH1 h l1).objs.size] }
abbrev zH4 (h:Heap) (l1 l2:Addr):Heap:=(zH3 h l1 l2).push { cls:=.type "tuple",data:=.seq #[.none,.none] }
abbrev zH5 (h:Heap) (l1 l2:Addr):Heap:=(zH4 h l1 l2).push { cls:=.type "zip",data:=.fields #[.none,.bool false,.bool false,.ref (zH2 h l1 l2).objs.size,.ref (zH3 h l1 l2).objs.size] }
theorem meets_new (l1 l2:Addr) (xs ys:Array Value) :
  Meets (Builtin.«zip.__new__» ⟨[.type "zip",.ref l1,.ref l2],[]⟩) (fun _ R s=>s.heap.IsTuple l1 xs∧s.heap.IsTuple l2 ys ∧
   R (.ok (.ret (.ref (zH4 s.heap l1 l2).objs.size))) { s with heap:=zH5 s.heap l1 l2 }):=
 .of_wp fun prog w A R s h=>by
  obtain ⟨hp,g,d,tk,os⟩:=s; obtain ⟨hl1,hl2,h⟩:=h
  have hsub:=sub_zip
  have hL1:Heap.IsTuple (Shared.heap ⟨hp,g,d,tk,os⟩) l1 xs:=hl1
  have hL2:Heap.IsTuple (Shared.heap ⟨hp.push { cls:=.type "tuple_iterator",data:=.fields #[.ref l1,.int 0 0] },g,d,tk,os⟩) l2 ys:=Heap.IsTuple.push hl2 _
  wp_walk using wpAny_pyIter_tuple hL1,wpAny_pyIter_tuple hL2
  exact ⟨_,rfl,h⟩
section
variable {prog:Program} {w:World} {A:Around} {E:Value→Shared→Prop} {s:Shared}
theorem call_zip {l1 l2:Addr} {xs ys:Array Value} {Q:Value→Shared→Prop} (hl1:s.heap.IsTuple l1 xs) (hl2:s.heap.IsTuple l2 ys)
  (h:∀ h',Zs h' (s.heap.objs.size + 4) (s.heap.objs.size + 2) (s.heap.objs.size + 3) s.heap.objs.size (s.heap.objs.size + 1) l1 l2 xs ys 0→h'.objs.size=s.heap.objs.size + 5 →
   (∀ c o,s.heap.get? c=some o→h'.get? c=some o)→Q (.ref (s.heap.objs.size + 4)) { s with heap:=h' }) :
  wpAny (model prog w) A (call (.type "zip") [.ref l1,.ref l2]) Q E s:=by
 refine callType_new F.called_zip (by decide) (F.typeCall_zip_2 _ _) (F.newCall_zip_2 _ _) (fun obj=>F.args_object_init_3 obj _ _) F.entry_zip_new
  (meets_new l1 l2 xs ys) ⟨hl1,hl2,?_⟩
 have z1:(zH1 s.heap l1).objs.size=s.heap.objs.size + 1:=Heap.size_push ..
 have z2:(zH2 s.heap l1 l2).objs.size=s.heap.objs.size + 2:=by rw [Heap.size_push,z1]
 have z3:(zH3 s.heap l1 l2).objs.size=s.heap.objs.size + 3:=by rw [Heap.size_push,z2]
 have z4:(zH4 s.heap l1 l2).objs.size=s.heap.objs.size + 4:=by rw [Heap.size_push,z3]
 have z5:(zH5 s.heap l1 l2).objs.size=s.heap.objs.size + 5:=by rw [Heap.size_push,z4]
 have g5:(zH5 s.heap l1 l2).get? (zH4 s.heap l1 l2).objs.size=some _:=Heap.get?_push_size _ rfl
 have g4:(zH5 s.heap l1 l2).get? (zH3 s.heap l1 l2).objs.size=some _:=Heap.get?_push_of_some _ (Heap.get?_push_size _ rfl)
 have g3:(zH5 s.heap l1 l2).get? (zH2 s.heap l1 l2).objs.size=some _:=Heap.get?_push_of_some _ (Heap.get?_push_of_some _ (Heap.get?_push_size _ rfl))
 have g2:(zH5 s.heap l1 l2).get? (zH1 s.heap l1).objs.size=some _:=Heap.get?_push_of_some _ (Heap.get?_push_of_some _ (Heap.get?_push_of_some _ (Heap.get?_push_size _ rfl)))
 have g1:(zH5 s.heap l1 l2).get? s.heap.objs.size=some _:=Heap.get?_push_of_some _ (Heap.get?_push_of_some _ (Heap.get?_push_of_some _ (Heap.get?_push_of_some _ (Heap.get?_push_size _ rfl))))
 have kp:∀ c o,s.heap.get? c=some o→(zH5 s.heap l1 l2).get? c=some o:=fun c o e=>Heap.get?_push_of_some _ (Heap.get?_push_of_some _ (Heap.get?_push_of_some _ (Heap.get?_push_of_some _ (Heap.get?_push_of_some _ e))))
 show _∧_
 rw [z2,z3,z4] at g5
 rw [z1,z2] at g3
 rw [z3] at g4
 rw [z1] at g2
 rw [z4]
 exact ⟨⟨_,g5,rfl⟩,h _ ⟨.inl g5,g3,⟨_,_,g4⟩,⟨_,g1,rfl,rfl⟩,⟨_,g2,rfl,rfl⟩,hl1.at fun o e=>kp _ o e,hl2.at fun o e=>kp _ o e⟩ z5 kp⟩
end
end Zt
end
section
namespace L2
open PySem PySem.Spec PyProof.Rows
abbrev TJ:=St→Hp→Str→VK→Prop
def PJ (X:Cx) (es:List Expr) (t:TJ):Prop:=
 ∀ (pins:List (Addr×Obj)) (s:Shared) (σ:St) (H:Hp) (out:Str) (Q:VK),Inv X pins σ H s→t σ H out Q→wpAny (model X.prog X.w) X.A (joinParts out (evalEach es X.env)) (EP X pins σ Q) X.xe s
def jNil:TJ:=fun _ H out Q=>out.length ≤ sizeLine∧Q (.str out) H
def jLit (x:Str) (t:TJ):TJ:=fun σ H out Q=>(out++x).length ≤ sizeLine∧t σ H (out++x) Q
def jStr (te:TE) (t:TJ):TJ:=fun σ H out Q=>te σ H fun v H1=>∃ x,v=.str x∧x.length ≤ sizeLine∧(out++x).length ≤ sizeLine∧t σ H1 (out++x) Q
def jInt (te:TE) (t:TJ):TJ:=fun σ H out Q=>te σ H fun v H1=>∃ i:Int,v=.int i∧i.natAbs.log2 < 1920∧(out++Str.ofString (toString i)).length ≤ sizeLine∧t σ H1 (out++Str.ofString (toString i)) Q
section
variable {X:Cx} {e e1 e2:Expr} {es:List Expr} {te:TE} {t:TJ} {pos:Pos}
theorem pj_nil:PJ X [] jNil:=fun _ _ _ H out _ I h=>joinParts_nilE (joinParts_nil ⟨.str out,H,I.tok _,I.st,h.2⟩ h.1)
theorem pj_lit {x:Str} {j} (h:PJ X es t):PJ X (.Constant (.str x) j pos :: es) (jLit x t):=by
 intro pins s σ H out Q I hw
 refine joinParts_consE (joinParts_cons (thn (pe_str (X:=X) pins s σ H (fun v H'=>v=.str x∧H'=H) I ⟨rfl,rfl⟩) fun v s1 ⟨z,H1,I1,r,e1,e2⟩=>?_))
 subst e1 e2
 obtain ⟨t',rfl⟩:=r
 exact ⟨hw.1,h pins s1 σ _ _ Q I1 hw.2⟩
theorem pj_str (he:PE X e te) (h:PJ X es t):PJ X (.FormattedValue e (-1) none pos :: es) (jStr te t):=by
 intro pins s σ H out Q I hw
 refine joinParts_consE (joinParts_cons (FormattedValue_plain (thn (he pins s σ H _ I hw) fun v s1 ⟨z,H1,I1,r,x,e,hz,hl,q⟩=>?_)))
 subst e
 obtain ⟨t',rfl⟩:=r
 exact upQ (formatField_str (fun t'' tk (hup:s1.toks ≤ tk)=>⟨hl,h pins _ σ H1 _ Q (I1.tok tk) q⟩) hz)
theorem pj_int (he:PE X e te) (h:PJ X es t):PJ X (.FormattedValue e (-1) none pos :: es) (jInt te t):=by
 intro pins s σ H out Q I hw
 refine joinParts_consE (joinParts_cons (FormattedValue_plain (thn (he pins s σ H _ I hw) fun v s1 ⟨z,H1,I1,r,i,e,hz,hl,q⟩=>?_)))
 subst e
 obtain ⟨t',rfl⟩:=r
 exact formatField_int_small hz ⟨hl,h pins _ σ H1 _ Q (I1.tok _) q⟩
theorem pe_fstr (h:PJ X (e1 :: e2 :: es) t):PE X (.JoinedStr (e1 :: e2 :: es) pos) (fun σ H Q=>t σ H Str.empty Q):=fun pins s σ H Q I hw=>JoinedStr_many (h pins s σ H _ Q I hw)
end
section
variable {X:Cx}
theorem strVals_of:∀ {l:List (Str×Tok)} {ys:List Str},(∀ p∈l,p.2≠0)→l.map (·.1)=ys→Vals (ys.map V.str) (strValues l)
 | [],ys,_,h=>by subst h; exact .nil
 | (x,t) :: l,ys,z,h=>by
  subst h
  exact .cons ⟨⟨t,z _ List.mem_cons_self⟩,rfl⟩ (strVals_of (fun p hp=>z p (List.mem_cons_of_mem _ hp)) rfl)
theorem numbered_nz:∀ (ys:List Str) (n:Nat),0 < n→∀ p∈numbered n ys,p.2≠0
 | [],_,_=>fun p h=>by cases h
 | y :: ys,n,hn=>fun p hp=>by
  rcases List.mem_cons.mp hp with rfl | hp
  ·exact Nat.ne_of_gt hn
  ·exact numbered_nz ys (n + 1) (Nat.succ_pos _) p hp
def rSplit:V→List V→Hp→VK→Prop:=fun x vs H Q=>∃ z y:Str,x=.str z∧vs=[.str y]∧(y.length == 0)=false∧z.length + 2 ≤ sizeLine∧∀ p,H p=none→Q (.ref p) (upd H p (.lst ((Txt.split z y).map V.str)))
theorem split_few {z y:Str} (h:z.length + 2 ≤ sizeLine):(Builtin.Str.partsBetween z (Builtin.Str.occurrences z y 0 z.length (z.length + 1)) y.length).length ≤ sizeLine:=by
 rw [StrLaws.partsBetween_eq]
 have pl:∀ (cuts:List Nat) (a:Nat),(StrLaws.partsFrom z y.length a cuts).length=cuts.length + 1:=by
  intro cuts
  induction cuts with
  | nil=>intro a; rfl
  | cons c r ih=>intro a; show (StrLaws.partsFrom z y.length (c + y.length) r).length + 1=_; rw [ih]; rfl
 rw [pl]
 have:=StrLaws.occ_length_le_len z y 0 z.length (z.length + 1)
 omega
theorem split_len {z y:Str} (h:z.length + 2 ≤ sizeLine):(Txt.split z y).length ≤ sizeLine:=by
 unfold Txt.split
 split
 ·show 1 ≤ sizeLine; omega
 ·split
  ·show 1 ≤ sizeLine; omega
  ·exact split_few h
theorem mt_split:MtR X "str.split" rSplit:=by
 intro pins s σ H x xs v us Q I rx rv h
 obtain ⟨z,y,rfl,rfl,hy,hz,q⟩:=h
 obtain ⟨t,rfl⟩:=rx
 obtain ⟨u,rfl,ru⟩:=rv.one
 obtain ⟨t',rfl⟩:=ru
 have fin:∀ (l:List (Str×Tok)) (k:Nat),0 < k→(∀ p∈l,p.2≠0)→l.map (·.1)=Txt.split z y→EP X pins σ Q (.ref s.heap.objs.size) { s with heap:=s.heap.push { cls:=.type "list",data:=.seq (strValues l).toArray },toks:=k }:=fun l k hk nz e=>by
  have r:=strVals_of nz e
  have hl:((Txt.split z y).map V.str).length ≤ sizeLine:=by rw [List.length_map]; exact split_len hz
  exact ⟨.ref s.heap.objs.size,upd H s.heap.objs.size (.lst ((Txt.split z y).map V.str)),I.laid (t':=k) (fun b o e=>Heap.get?_push_of_some _ e) (Nat.le_refl _) ⟨hl,strValues l,0,r,Heap.get?_push_size _ rfl⟩,rfl,q _ (I.hok.fresh (Nat.le_refl _))⟩
 have hsz:z.length ≤ sizeLine:=by omega
 cases h1:(decide (z.length < y.length) || decide (Builtin.Str.strKind z < Builtin.Str.strKind y))
 ·cases hf:(Builtin.Str.occurrences z y 0 z.length (z.length + 1)).isEmpty
  ·refine call_meets F.slot_str_split (typeIs_str _ _ _) F.entry_str_split (F.args_str_split_2 _ _) (meets_str_split_sep z y t t' h1 hy hf hsz (split_few hz)) ?_
   show EP X pins σ Q _ { s with toks:=_,heap:=s.heap.push { cls:=.type "list",data:=.seq (strsFrom s.toks (Builtin.Str.partsBetween z (Builtin.Str.occurrences z y 0 z.length (z.length + 1)) y.length)).toArray } }
   rw [strsFrom_eq]
   exact fin (numbered s.toks _) _ (Nat.lt_of_lt_of_le I.tk (Nat.le_add_right _ _)) (numbered_nz _ _ I.tk) ((numbered_texts _ _).trans ((if_neg (ne_true_of_eq_false h1)).trans (if_neg (ne_true_of_eq_false hf))).symm)
  ·exact call_meets F.slot_str_split (typeIs_str _ _ _) F.entry_str_split (F.args_str_split_2 _ _) (meets_str_split_not_found z y t t' h1 hy hf)
    (fin [(z,t.1)] _ I.tk (fun p hp=>by rw [List.mem_singleton.mp hp]; exact t.2) ((if_neg (ne_true_of_eq_false h1)).trans (if_pos hf)).symm)
 ·exact call_meets F.slot_str_split (typeIs_str _ _ _) F.entry_str_split (F.args_str_split_2 _ _) (meets_str_split_cannot_occur z y t t' h1)
   (fin [(z,t.1)] _ I.tk (fun p hp=>by rw [List.mem_singleton.mp hp]; exact t.2) (if_pos h1).symm)
theorem made_nz {s:Shared} {c:Prop} [Decidable c] {y z:Str} {t:PTok} {Q:Value→Shared→Prop} (tk:0 < s.toks) (hz:¬ c→z.length ≤ sizeLine) (h:∀ (t':PTok) k,0 < k→Q (.str (if c then y else z) t'.1) { s with toks:=k }) :
  (if c then Made.val (.str y t.1) else Made.str z).post Q s:=by
 split
 ·rename_i hc
  have:=h t s.toks tk
  rw [if_pos hc] at this
  exact this
 ·rename_i hc
  have:=h ⟨s.toks,Nat.ne_of_gt tk⟩ (s.toks + 1) (Nat.succ_pos _)
  rw [if_neg hc] at this
  exact ⟨hz hc,this⟩
def rRstrip:V→List V→Hp→VK→Prop:=fun x vs H Q=>∃ z y:Str,x=.str z∧vs=[.str y]∧z.length ≤ sizeLine∧Q (.str (Txt.rstripChars z y)) H
theorem mt_rstrip:MtR X "str.rstrip" rRstrip:=by
 intro pins s σ H x xs v us Q I rx rv h
 obtain ⟨z,y,rfl,rfl,hz,q⟩:=h
 obtain ⟨t,rfl⟩:=rx
 obtain ⟨u,rfl,ru⟩:=rv.one
 obtain ⟨t',rfl⟩:=ru
 exact call_gives F.slot_str_rstrip (typeIs_str _ _ _) F.entry_str_rstrip (F.args_str_rstrip_2 _ _) (gives_str_rstrip_chars z y t.1 t'.1) (made_nz I.tk (fun _=>fits_stripped _ _ _ hz) fun t'' k hk=>⟨.str _,H,I.tok k,⟨t'',rfl⟩,q⟩)
def rStarts:V→List V→Hp→VK→Prop:=fun x vs H Q=>∃ z y:Str,x=.str z∧vs=[.str y]∧Q (.bl (Txt.startswith z y)) H
theorem mt_startswith:MtR X "str.startswith" rStarts:=by
 intro pins s σ H x xs v us Q I rx rv h
 obtain ⟨z,y,rfl,rfl,q⟩:=h
 obtain ⟨t,rfl⟩:=rx
 obtain ⟨u,rfl,ru⟩:=rv.one
 obtain ⟨t',rfl⟩:=ru
 exact SC.startswith ⟨.bl _,H,I,rfl,q⟩
theorem call_int_str:CallR X (.type "int") (fun xs H Q=>∃ (x:Str) (n:Int),xs=[.str x]∧intText? x=some n∧x.length ≤ 640∧Q (.int n) H):=by
 intro pins s σ H xs us Q I r h
 obtain ⟨x,n,rfl,hn,hl,q⟩:=h
 obtain ⟨u,rfl,ru⟩:=vals1 r
 obtain ⟨t,rfl⟩:=ru
 exact PySem.W.KIN.call_text hn hl ⟨.int n,H,I.tok _,⟨_,rfl⟩,q⟩
theorem call_str_str:CallR X (.type "str") (fun xs H Q=>∃ x:Str,xs=[.str x]∧Q (.str x) H):=by
 intro pins s σ H xs us Q I r h
 obtain ⟨x,rfl,q⟩:=h
 obtain ⟨u,rfl,ru⟩:=vals1 r
 obtain ⟨t,rfl⟩:=ru
 exact P.str_of_str ⟨.str x,H,I,⟨_,rfl⟩,q⟩
def rNeE (K:PySem.W.Frag):R2:=fun x y H Q=>∃ a b xs,x=.ref a∧y=.ref b∧SqL K H a xs∧SqL K H b []∧Q (.bl (!xs.isEmpty)) H
theorem op_neE (hu:X.A.units < cLine):OpR X (compareOp .NotEq) (rNeE X.K):=by
 intro pins s σ H x y v u Q I rx ry h
 obtain ⟨a,b,xs,rfl,rfl,ha,hb,q⟩:=h
 cases rx
 cases ry
 obtain ⟨its,r1,p1,_⟩:=I.list ha
 obtain ⟨its2,r2,p2,_⟩:=I.list hb
 have l1:=r1.length
 have l2:=r2.length
 cases xs with
 | nil=>
  refine PySem.EqBoolInt.of_rcne (SeqAt.RcNeAt.lists (e:=fun _=>true) p1.isList p2.isList (by simp only [List.size_toArray]; omega) hu fun j h1 h2=>?_) ⟨.bl _,H,I,rfl,?_⟩
  ·simp only [List.size_toArray] at h1
   simp at l1
   omega
  ·have:its=[]:=List.eq_nil_of_length_eq_zero (by simpa using l1.symm)
   subst this
   exact q
 | cons x xs=>
  refine PySem.EqBoolInt.of_rcne (SeqAt.RcNeAt.lists_lengths p1.isList p2.isList (by simp only [List.size_toArray]; simp at l1 l2 ⊢; omega) hu) ⟨.bl _,H,I,rfl,?_⟩
  simpa using q
end
theorem Inv.lays {X:Cx} {pins:List (Addr×Obj)} {σ:St} {H H':Hp} {s:Shared} {h':Heap} {t':Nat} (I:Inv X pins σ H s) (k:∀ b o,s.heap.get? b=some o→h'.get? b=some o) (old:∀ b,b < s.heap.objs.size→H' b=H b) (hok:HOk X.prog X.w H' h') (ht:0 < t':=by first | exact Nat.succ_pos _ | assumption | exact L2.Inv.tk (by assumption) | exact Nat.lt_of_lt_of_le (L2.Inv.tk (by assumption)) (by assumption) | exact Nat.lt_of_lt_of_le (L2.Inv.tk (by assumption)) (Nat.le_add_right _ _)) :
  Inv X pins σ H' { s with heap:=h',toks:=t' }:=by
 have sm:∀ b o,H b=some o→H' b=some o:=fun b o e=>by rw [old b (I.hok.lt e)]; exact e
 exact I.un ⟨fun b u q _ _ _=>k b u q,fun b u q _ _ _=>⟨u.slots,k b u q⟩,fun b u q n _=>by rw [old b (Heap.lt_size q)]; exact n,fun b u q _=>⟨u,k b u q⟩,fun b xs q=>sm b _ q,fun b u xs q=>sm b _ q,fun b ps q=>⟨#[],by rw [sm b _ q]; simp⟩⟩ hok
def pairsAt (Ts:List Addr) (ps:List (V×V)) (H:Hp):Hp:=fun b=>match Ts.idxOf? b with | some j=>(ps[j]?).map fun p=>.tup [p.1,p.2] | none=>H b
def tListZip (K:PySem.W.Frag) (ta tb:TE):TE:=fun σ H Q=>ta σ H fun x H1=>tb σ H1 fun y H2=>∃ a b xs ys,x=.ref a∧y=.ref b∧SqT K H2 a xs∧SqT K H2 b ys∧xs.length=ys.length ∧
 ∀ (l:Addr) (H':Hp) (Ts:List Addr),H2 l=none→Same H2 H'→Ts.length=xs.length→H' l=some (.lst (Ts.map V.ref))→(∀ (j:Nat) T u v,Ts[j]?=some T→xs[j]?=some u→ys[j]?=some v→H' T=some (.tup [u,v]))→Q (.ref l) H'
theorem idx_of {Ts:List Addr} {j:Nat} {T:Addr} (nd:Ts.Nodup) (h:Ts[j]?=some T):Ts.idxOf? T=some j:=by
 induction Ts generalizing j with
 | nil=>simp at h
 | cons U Us ih=>
  rw [List.idxOf?_cons]
  cases j with
  | zero=>
   simp at h
   subst h
   simp
  | succ j=>
   have h':Us[j]?=some T:=by simpa using h
   have hm:=List.mem_of_getElem? h'
   have hne:¬ (U == T)=true:=by
    intro e
    have:=eq_of_beq e
    subst this
    exact (List.nodup_cons.mp nd).1 hm
   rw [if_neg hne,ih (List.nodup_cons.mp nd).2 h']
   rfl
theorem idx_some {Ts:List Addr} {j:Nat} {T:Addr} (h:Ts.idxOf? T=some j):Ts[j]?=some T:=by
 induction Ts generalizing j with
 | nil=>simp at h
 | cons U Us ih=>
  rw [List.idxOf?_cons] at h
  split at h
  ·rename_i e
   cases h
   have:=eq_of_beq e
   subst this
   rfl
  ·cases hk:Us.idxOf? T with
   | none=>rw [hk] at h; cases h
   | some k=>
    rw [hk] at h
    cases h
    simpa using ih hk
section
variable {X:Cx} {a b:Expr} {ta tb:TE} {p1 p2 q1 q2:Pos}
theorem pe_listzip (hc:X.calm=true) (hg1:Gl X "list") (hm1:X.mg "list"=none) (hg2:Gl X "zip") (hm2:X.mg "zip"=none) (ha:PE X a ta) (hb:PE X b tb)
  (hs2:starEach [a,b] X.env=(false,eval a X.env) :: starEach [b] X.env:=by rfl) (hs3:starEach [b] X.env=[(false,eval b X.env)]:=by rfl)
  (hs1:starEach [Expr.Call (.Name "zip" p2) [a,b] [] q2] X.env=[(false,eval (.Call (.Name "zip" p2) [a,b] [] q2) X.env)]:=by rfl)
  (hp2:(backTo q2 (starEach [b] X.env)).any (·.1)=false:=by rfl) :
  PE X (.Call (.Name "list" p1) [.Call (.Name "zip" p2) [a,b] [] q2] [] q1) (tListZip X.K ta tb):=by
 intro pins s σ H Q I h
 refine wpAny_Call_Name_kw (ld_blt I hg1 hm1 PyProof.Rows.boot_list ?_ (by decide) (by decide))
 refine PyProof.Rows.callWith_type1 ?_ hs1 rfl
 rw [hs1]
 refine Calls.spliced_cons ?_
 refine wpAny_Call_Name_kw (ld_blt I hg2 hm2 PyProof.Rows.boot_zip ?_ (by decide) (by decide))
 refine PyProof.Rows.callWith_type1 (thn ((pa_cons ha (pa_cons hb pa_nil hs3) hs2) q2 pins s σ H (fun vs H2=>match vs with
  | [x,y]=>∃ a b xs ys,x=.ref a∧y=.ref b∧SqT X.K H2 a xs∧SqT X.K H2 b ys∧xs.length=ys.length ∧
   ∀ (l:Addr) (H':Hp) (Ts:List Addr),H2 l=none→Same H2 H'→Ts.length=xs.length→H' l=some (.lst (Ts.map V.ref))→(∀ (j:Nat) T u v,Ts[j]?=some T→xs[j]?=some u→ys[j]?=some v→H' T=some (.tup [u,v]))→Q (.ref l) H'
  | _=>False) I h) fun us s1 ⟨vs,H1,I1,r1,q⟩=>?_) hs2 hp2
 match vs,r1,q with
 | [x,y],r1,q=>
  obtain ⟨l1,l2,xs,ys,rfl,rfl,hx,hy,hl,q⟩:=q
  obtain ⟨u1,u2,rfl,e1,e2⟩:=r1.two
  cases e1
  cases e2
  obtain ⟨its,rx,tx,hzx⟩:=I1.tuple hx
  obtain ⟨jts,ry,ty,hzy⟩:=I1.tuple hy
  have lx:=rx.length
  have ly:=ry.length
  have a1:l1 < s1.heap.objs.size:=by obtain ⟨_,e,_⟩:=tx; exact Heap.lt_size e
  have a2:l2 < s1.heap.objs.size:=by obtain ⟨_,e,_⟩:=ty; exact Heap.lt_size e
  refine Zt.call_zip tx ty fun h1 Z hsz kp=>Calls.spliced_nil ?_
  have D:=PyProof.Rows.zipApart_new a1 a2
  refine Zt.call_list (n:=xs.length) (B:=s1.heap.objs.size) (I.ok.hd hc) D ⟨D.l1TO,D.l2TO⟩ (by rw [List.size_toArray]; omega) (by rw [List.size_toArray]; omega) hzx (by show s1.heap.objs.size ≤ h1.objs.size; rw [hsz]; exact Nat.le_add_right _ 5) Z fun h2 acc c Ts kp2 hS G=>?_
  have hS0:h1.objs.size=s1.heap.objs.size + 5:=hsz
  have kept:∀ b o,s1.heap.get? b=some o→h2.get? b=some o:=fun b o e=>by
   have hb:b < s1.heap.objs.size:=Heap.lt_size e
   refine kp2 b o ?_ (kp b o e)
   simp only [List.mem_cons,List.not_mem_nil,or_false]
   rintro (z | z | z | z) <;> exact absurd (z ▸ hb) (Nat.not_lt.mpr (by first | exact Nat.le_add_right _ _ | exact Nat.le_refl _))
  have hpair:∀ b j,Ts.idxOf? b=some j→Ts[j]?=some b∧j < xs.length:=fun b j e=>⟨idx_some e,by rw [← G.len]; exact (List.getElem?_eq_some_iff.mp (idx_some e)).1⟩
  have HH:∃ H':Hp,H'=upd (pairsAt Ts (xs.zip ys) H1) h1.objs.size (.lst (Ts.map V.ref)):=⟨_,rfl⟩
  obtain ⟨H',eH⟩:=HH
  have nS:∀ T∈Ts,T≠h1.objs.size:=fun T hT e=>(G.lt T hT).2.2 (by rw [e]; exact List.mem_cons_self)
  have old:∀ b,b < s1.heap.objs.size→H' b=H1 b:=fun b hb=>by
   rw [eH,upd_ne (fun e=>absurd (e ▸ hb) (Nat.not_lt.mpr (by rw [hS0]; exact Nat.le_add_right _ 5)))]
   unfold pairsAt
   cases e:Ts.idxOf? b with
   | none=>rfl
   | some j=>exact absurd hb (Nat.not_lt.mpr (G.lt b (List.mem_of_getElem? (idx_some e))).1)
  have atT:∀ (j:Nat) T u v,Ts[j]?=some T→xs[j]?=some u→ys[j]?=some v→H' T=some (.tup [u,v]):=fun j T u v e1 e2 e3=>by
   rw [eH,upd_ne (nS T (List.mem_of_getElem? e1))]
   unfold pairsAt
   rw [idx_of G.nodup e1]
   show ((xs.zip ys)[j]?).map _=_
   rw [show (xs.zip ys)[j]?=some (u,v) from List.getElem?_zip_eq_some.mpr ⟨e2,e3⟩]
   rfl
  have hok:HOk X.prog X.w H' h2:=fun b o e=>by
   by_cases hb:b=h1.objs.size
   ·subst hb
    rw [eH,upd_same] at e
    cases e
    refine ⟨by rw [List.length_map,G.len]; exact hzx,acc.toList,c,?_,by rw [Array.toArray_toList]; exact hS⟩
    rw [G.acc]
    have hh:∀ Us:List Addr,Vals (Us.map V.ref) (Us.map Value.ref):=fun Us=>by
     induction Us with
     | nil=>exact .nil
     | cons U Us ih=>exact .cons rfl ih
    exact hh Ts
   ·rw [eH,upd_ne hb] at e
    unfold pairsAt at e
    cases ei:Ts.idxOf? b with
    | none=>
     rw [ei] at e
     have e':H1 b=some o:=e
     refine (I1.hok b o e').stay (fun c v _ z=>kept c v z) (fun c z=>?_) fun c zs z=>?_
     ·rw [old c (I1.hok.lt z)]; exact z
     ·rw [old c (I1.hok.lt z)]; exact z
    | some j=>
     rw [ei] at e
     obtain ⟨eb,hj⟩:=hpair b j ei
     have ex:xs[j]?=some xs[j]:=List.getElem?_eq_getElem hj
     have ey:ys[j]?=some (ys[j]'(by omega)):=List.getElem?_eq_getElem (by omega)
     have ez:(xs.zip ys)[j]?=some (xs[j],ys[j]'(by omega)):=List.getElem?_zip_eq_some.mpr ⟨ex,ey⟩
     have e':((xs.zip ys)[j]?).map (fun p=>HO.tup [p.1,p.2])=some o:=e
     rw [ez] at e'
     cases e'
     obtain ⟨ux,hux,rux⟩:=rx.get ex
     obtain ⟨uy,huy,ruy⟩:=ry.get ey
     have p:=G.pair j b ux uy eb (by simpa using hux) (by simpa using huy)
     exact ⟨by show 2 ≤ sizeLine; decide,[ux,uy],.cons rux (.cons ruy .nil),⟨_,p,rfl,_,rfl,rfl⟩⟩
  refine ⟨.ref h1.objs.size,H',I1.lays (t':=s1.toks) kept old hok,rfl,q _ H' Ts ?_ (fun b o e=>by rw [old b (I1.hok.lt e)]; exact e) G.len (by rw [eH,upd_same]) atT⟩
  exact I1.hok.fresh (by rw [hS0]; exact Nat.le_add_right _ 5)
 | [],_,q=>exact q.elim
 | [_],_,q=>exact q.elim
 | _ :: _ :: _ :: _,_,q=>exact q.elim
end
end L2
end
section
namespace L2
open PySem PySem.Spec PyProof.Rows
section
variable {es:List Expr} {env:Env}
theorem star_const {c k p}:starEach (.Constant c k p :: es) env=(false,eval (.Constant c k p) env) :: starEach es env:=rfl
theorem star_name {x p}:starEach (.Name x p :: es) env=(false,eval (.Name x p) env) :: starEach es env:=rfl
theorem star_call {a b c d}:starEach (.Call a b c d :: es) env=(false,eval (.Call a b c d) env) :: starEach es env:=rfl
theorem star_bin {a b c d}:starEach (.BinOp a b c d :: es) env=(false,eval (.BinOp a b c d) env) :: starEach es env:=rfl
theorem star_sub {a b c}:starEach (.Subscript a b c :: es) env=(false,eval (.Subscript a b c) env) :: starEach es env:=rfl
theorem star_tup {a b c}:starEach (.Tuple a b c :: es) env=(false,eval (.Tuple a b c) env) :: starEach es env:=rfl
theorem star_lst {a b}:starEach (.List a b :: es) env=(false,eval (.List a b) env) :: starEach es env:=rfl
theorem star_cmp {a b c d}:starEach (.Compare a b c d :: es) env=(false,eval (.Compare a b c d) env) :: starEach es env:=rfl
theorem star_bool {a b c}:starEach (.BoolOp a b c :: es) env=(false,eval (.BoolOp a b c) env) :: starEach es env:=rfl
theorem star_fstr {a b}:starEach (.JoinedStr a b :: es) env=(false,eval (.JoinedStr a b) env) :: starEach es env:=rfl
theorem star_comp {a b c d}:starEach (.ListComp a b c d :: es) env=(false,eval (.ListComp a b c d) env) :: starEach es env:=rfl
theorem star_attr {a b c}:starEach (.Attribute a b c :: es) env=(false,eval (.Attribute a b c) env) :: starEach es env:=rfl
end
end L2
namespace L2
open PySem PySem.Spec PyProof.Rows
def str1:Expr→Option Str
 | .Constant (.str x) _ _=>some x
 | _=>none
def strsOf:List Expr→Option (List Str)
 | []=>some []
 | e :: es=>(str1 e).bind fun x=>(strsOf es).map (x :: ·)
theorem str1_is {e:Expr} {x:Str} (h:str1 e=some x):∃ j p,e=.Constant (.str x) j p:=by
 unfold str1 at h
 split at h
 ·cases h; exact ⟨_,_,rfl⟩
 ·cases h
def tStrs (xs:List Str):TA:=fun _ H Q=>Q (xs.map V.str) H
theorem pa_imp {X:Cx} {es:List Expr} {t t':TA} (h:PA X es t) (i:∀ σ H Q,t' σ H Q→t σ H Q):PA X es t':=fun pos pins s σ H Q I hw=>h pos pins s σ H Q I (i σ H Q hw)
theorem pa_strs {X:Cx}:∀ {es:List Expr} (xs:List Str),strsOf es=some xs→PA X es (tStrs xs)
 | [],xs,h=>by
  cases h
  exact pa_nil
 | e :: es,xs,h=>by
  cases e1:str1 e with
  | none=>rw [strsOf,e1] at h; cases h
  | some x=>
   cases e2:strsOf es with
   | none=>rw [strsOf,e1,e2] at h; cases h
   | some ys=>
    rw [strsOf,e1,e2] at h
    cases h
    obtain ⟨j,p,rfl⟩:=str1_is e1
    exact pa_imp (pa_cons (pe_str (x:=x) (j:=j) (pos:=p)) (pa_strs (X:=X) ys e2) star_const) fun σ H Q hw=>hw
end L2
end
section
set_option maxHeartbeats 1000000
namespace L2
open PySem PySem.Spec PySem.W PySem.Calls PyProof.Rows
open Builtin Builtin.ObjectAttr
section
variable {prog:Program} {w:World} {A:Around} {E:Value→Shared→Prop} {s:Shared} {K:Frag} {x C:Addr} {ox:Obj} {od:Option Obj} {name:Str}
structure XCls (K:Frag) (C:Addr):Prop where
 ga:findIn K (.ref C) "__getattribute__"=some (some (.builtin "BaseException.__getattribute__"))
 gk:findIn K (.ref C) "__getattr__"=some none
 mb:mroIn K C (.type "BaseException")=some true
 mo:mroIn K C (.type "object")=some true
 hd:hasDictIn K C=true
 ca:findIn K (.ref C) "__class__"=some (some (.builtin "object.__class__"))
 cn:specialIn K (.builtin "object.__class__") "__get__"=some (some (.builtin "getset_descriptor.__get__"))
 ct:takesIn K (.builtin "object.__class__")=some true
theorem exc_by {tk:Tok} {fill expr:Bool} {Q P:Value→Shared→Prop} (X:K.In s.heap) (I:InstAt s.heap x ox C od) (c:XCls K C)
  (h:∀ (A' A'':Around) (R:Result→Shared→Prop),(∀ v s',P v s'→R (.ok (.ret v)) s')→wpAny (model prog w) A' (Builtin.«object.__getattribute__» ⟨[.ref x,.str name tk],[]⟩)
   (fun fin s'=>match fin with | .done f=>R (.ok f) s' | .again c'=>c'.quiet=true∧codeAny (model prog w) A'' c' R s') (fun e s'=>R (.error e) s') s)
  (hP:∀ v s',P v s'→wpAny (model prog w) A (handedOut v) Q E s') :
  wpAny (model prog w) A (getAttrBy (.ref x) (.str name tk) fill expr) Q E s:=by
 obtain ⟨hh,g,d,t,os⟩:=s
 have L0:=I.type (M:=model prog w)
 have L1:=looks_findIn (M:=model prog w) X c.ga
 have L2:=looks_findIn (M:=model prog w) X c.gk
 have L3:=looks_mroIn (M:=model prog w) X c.mb
 have hx2:(Value.builtin "BaseException.__getattribute__" == Value.builtin "object.__getattribute__")=false:=by decide +kernel
 have hx1:(onTheHeap (Value.ref C) && Value.builtin "BaseException.__getattribute__" == Value.builtin "object.__getattribute__")=false:=by rw [hx2]; rfl
 have hx0:(expr && onTheHeap (Value.builtin "BaseException.__getattribute__"))=false:=by cases expr <;> rfl
 unfold getAttrBy
 refine wpAny_holding (wpAny_bind (L0.at (wpAny_bind (L1.at ?_))))
 dsimp only
 rw [if_neg (by rw [hx1]; decide)]
 have FB:=PySem.F.attrBase_ValueError
 have hk:builtinKind "BaseException.__getattribute__"=some .slot:=by decide +kernel
 have hsplit:splitId "BaseException.__getattribute__"=some ("BaseException","__getattribute__"):=by decide +kernel
 unfold getAttrByItsOwn
 refine wpAny_bind ?_
 unfold hookBefore
 rw [if_pos (show onTheHeap (Value.ref C)=true from rfl)]
 refine L2.at ?_
 refine wpAny_bind (wpAny_attempt (wpAny_holding ?_))
 unfold callGetattribute
 rw [if_neg (by rw [hx0]; decide)]
 unfold boundAndCalled
 rw [FB.ga.bind (.ref x)]
 refine wpAny_bind (wpAny_pure ?_)
 refine wpAny_call (codeAny_mono (R:=fun r s'=>∃ v,r=.ok (.ret v)∧P v s') (codeAny_call_builtin FB.ga.plain PySem.F.entry_bexc_ga ?_) fun r s' ⟨v,e,p⟩=>?_)
 ·show wpAny _ _ (checkBuiltinCall "BaseException.__getattribute__" ⟨[.ref x,.str name tk],[]⟩) _ _ _
  have ha:argsOk "BaseException.__getattribute__" ⟨[.ref x,.str name tk],[]⟩:=PySem.F.args_bexc_ga (.ref x) (.str name tk)
  have hI:Looks (model prog w) hh (isInstance (.ref x) (.type "BaseException")) true:=L0.andThen L3
  refine check_slot (i:="BaseException.__getattribute__") (owner:="BaseException") (n:="__getattribute__") (self:=.ref x) (rest:=[.str name tk]) (kw:=[]) hk hsplit hI ha ?_
  exact h _ _ (fun r s'=>∃ v,r=.ok (.ret v)∧P v s') fun v s' p=>⟨v,rfl,p⟩
 ·subst e
  exact hP v s' p
theorem exc_attr {expr:Bool} {v:Value} {Q:Value→Shared→Prop} (X:K.In s.heap) (I:InstAt s.heap x ox C od) (c:XCls K C) (hf:findObj K C od name=some (.value v)) (hh:handedIn v=true)
  (h:Q v { s with toks:=s.toks + 1 }):wpAny (model prog w) A (getAttr (.ref x) name expr) Q E s:=by
 unfold getAttr
 refine wpAny_bind (wpAny_mkText ?_)
 refine exc_by (s:={ s with toks:=s.toks + 1 }) (P:=fun v' s'=>v'=v∧s'={ s with toks:=s.toks + 1 }) X I c (fun A' A'' R hR=>?_) fun v' s' ⟨e1,e2⟩=>?_
 ·obtain ⟨h0,g,d,t,os⟩:=s
  have L0:=I.type (M:=model prog w)
  have L1:=looks_find (M:=model prog w) X I hf
  unfold Builtin.«object.__getattribute__»
  refine wpAny_bind (wpAny_pure ?_)
  refine wpAny_bind (wpAny_pure (wpAny_bind (L0.at (wpAny_bind (L1.at ?_)))))
  exact wpAny_pure (hR _ _ ⟨rfl,rfl⟩)
 ·subst e1 e2
  rw [handedOut_of hh]
  exact wpAny_pure h
theorem exc_class {Q:Option Value→Shared→Prop} (X:K.In s.heap) (I:InstAt s.heap x ox C od) (c:XCls K C) (h:Q (some (.ref C)) { s with toks:=s.toks + 1 }) :
  wpAny (model prog w) A (getAttr? (.ref x) "__class__") Q E s:=by
 have hf:findObj K C od "__class__"=some (.bind (.builtin "getset_descriptor.__get__") (.builtin "object.__class__")):=by
  obtain ⟨cd,hc,_⟩:=any_some c.hd
  unfold findObj
  rw [hc,Option.bind_some,c.ca,Option.bind_some]
  dsimp only
  rw [c.cn,Option.bind_some]
  dsimp only
  rw [c.ct,Option.bind_some]
 unfold getAttr?
 refine wpAny_bind (wpAny_mkText ?_)
 unfold getAttrBy?
 refine wpAny_bind (wpAny_attempt ?_)
 refine exc_by (s:={ s with toks:=s.toks + 1 }) (P:=fun v' s'=>v'=.ref C∧s'={ s with toks:=s.toks + 1 }) X I c (fun A' A'' R hR=>?_) fun v' s' ⟨e1,e2⟩=>?_
 ·obtain ⟨h0,g,d,t,os⟩:=s
  have L0:=I.type (M:=model prog w)
  have L1:=looks_find (M:=model prog w) X I hf
  unfold Builtin.«object.__getattribute__»
  refine wpAny_bind (wpAny_pure ?_)
  refine wpAny_bind (wpAny_pure (wpAny_bind (L0.at (wpAny_bind (L1.at ?_)))))
  show wpAny _ _ (bindTo (Value.builtin "getset_descriptor.__get__") (Value.builtin "object.__class__") (.ref x) (.ref C)) _ _ _
  unfold bindTo
  dsimp only
  exact wpAny_bind (wpAny_holding (wpAny_call (class_get (s:=⟨h0,g,d,t + 1,os⟩) (ox:=ox) (od:=od) X I c.mo (wpAny_pure (hR _ _ ⟨rfl,rfl⟩)))))
 ·subst e1 e2
  exact wpAny_pure (wpAny_pure h)
theorem kitx_exc (c:XCls K C):KitX K (.ref x) (.ref C) (fun h=>∃ ox od,InstAt h x ox C od) where
 ty:=fun _ _ _ ⟨_,_,I⟩=>I.type
 it:=fun _ _ X _=>by
  obtain ⟨cdD,hcD,_⟩:=any_some c.hd
  unfold clsIn at hcD
  split at hcD
  ·rename_i c' d' cd' sl' ho
   intro A' Q' E' s' k q
   unfold isType loadHead
   exact wpAny_bind (wpAny_loadPart (k _ _ (X _ _ ho)) (wpAny_pure q))
  ·cases hcD
 ne:=fun h tp dd its n sl X htp=>by
  obtain ⟨cdD,hcD,_⟩:=any_some c.hd
  refine Bool.eq_false_iff.mpr fun q=>?_
  have e:C=tp:=Value.ref.inj (beq_iff_eq.mp q)
  subst e
  unfold clsIn at hcD
  split at hcD
  ·rename_i c' d' cd' sl' ho
   have z:=(X _ _ ho).symm.trans htp
   cases z
  ·cases hcD
 ca:=fun X ⟨_,_,I⟩ k=>exc_class X I c k
end
section
variable {prog:Program} {w:World} {A:Around} {E:Value→Shared→Prop} {h:Heap} {g:Array GenState} {d:Drawn} {t:Nat} {os:OsState}
variable {nm q:Str} {C N:Addr} {bs bm bmB:List Value} {hdct:Bool} {sn:List Str} {sub:List Value} {ab:Bool} {col:Option Bool} {dd:Option Addr} {k0 k1 k2 k3 k5:Option Value} {B newId initId:String}
abbrev newExc (C t:Addr) (dx:Option Addr):Obj:={ cls:=.ref C,dict:=dx,data:=.fields #[.ref t,.none,.none,.none,.bool false,.none] }
abbrev newArgs (rest:List Value):Obj:={ cls:=.type "tuple",data:=.seq rest.toArray }
theorem exc_type_call (F:ExcBaseFacts B newId initId bmB) (T:OwnTail h bmB bm) {rest:List Value} {init:Value} {Q:Fin→Shared→Prop}
  (hC:h.get? C=some (excClassObj nm q C N bs bm hdct sn sub ab col dd k0 k1 k2 k3 k5 newId)) (hi:Looks (model prog w) h (typeLookup (.ref C) "__init__") (some init))
  (hb:∀ self,Looks (model prog w) h (bindSpecial init self) (init,[self]))
  (hq:wpAny (model prog w) A (call init (.ref (h.objs.size + 1) :: rest)) (fun r s'=>r=.none∧Q (.done (.ret (.ref (h.objs.size + 1)))) s') E ⟨(h.push (newArgs rest)).push (newExc C h.objs.size none),g,d,t,os⟩) (hrest:rest.length ≤ sizeLine) :
  wpAny (model prog w) A (Builtin.«type.__call__» ⟨.ref C :: rest,[]⟩) Q E ⟨h,g,d,t,os⟩:=by
 repeat (first | with_reducible refine wpAny_loadPart_at hC ?_ | with_reducible refine wpAny_madeBy_exc hC ?_ | wp_step)
 refine codeAny_call_builtin_code (Code.quiet_builtin _ F.quiet) (wpAny_check_new_subT F T hC ?_)
 refine codeAny_exc_new_subT F T hC ?_ hrest
 show wpAny _ _ _ _ _ _
 have up:∀ b o,h.get? b=some o→((h.push (newArgs rest)).push (newExc C h.objs.size none)).get? b=some o:=fun b o e=>Heap.get?_push_of_some _ (Heap.get?_push_of_some _ e)
 have hC₁:=up _ _ hC
 have hget:((h.push (newArgs rest)).push (newExc C h.objs.size none)).get? (h.objs.size + 1)=some (newExc C h.objs.size none):=by heap_get
 have hcC:(Value.ref C :: bm).contains (.ref C)=true:=by simp
 unfold isInstance
 repeat (first | with_reducible refine wpAny_loadPart_at hget ?_ | (with_reducible refine wpAny_isSubtype_exc hC₁ ?_; rw [hcC]) | wp_step)
 show wpAny _ _ (typeLookup (.ref C) _) _ _ _
 refine hi _ _ _ _ up ?_
 refine wpAny_holding (wpAny_bind (hb _ _ _ _ _ up ?_))
 refine wpAny_bind (wpAny_mono hq (fun r s' hr=>?_) fun _ _ x=>x)
 obtain ⟨rfl,hQ⟩:=hr
 wp_walk
 exact hQ
theorem exc_call (F:ExcBaseFacts B newId initId bmB) (T:OwnTail h bmB bm) {rest:List Value} {init:Value} {Q:Value→Shared→Prop}
  (hC:h.get? C=some (excClassObj nm q C N bs bm hdct sn sub ab col dd k0 k1 k2 k3 k5 newId)) (hi:Looks (model prog w) h (typeLookup (.ref C) "__init__") (some init))
  (hb:∀ self,Looks (model prog w) h (bindSpecial init self) (init,[self]))
  (hq:wpAny (model prog w) (A.under (.builtin "type.__call__" ⟨.ref C :: rest,[]⟩)) (call init (.ref (h.objs.size + 1) :: rest)) (fun r s'=>r=.none∧Q (.ref (h.objs.size + 1)) s') E
   ⟨(h.push (newArgs rest)).push (newExc C h.objs.size none),g,d,t,os⟩) (hrest:rest.length ≤ sizeLine) :
  wpAny (model prog w) A (call (.ref C) rest) Q E ⟨h,g,d,t,os⟩:=by
 have f1:=tc_lookup
 have f2:=tc_bind (.ref C)
 have hT:(⟨h,g,d,t,os⟩:Shared).TypeIs (.ref C) "type":=⟨_,hC,rfl⟩
 refine wpAny_call (codeAny_of_tree ?_)
 show wpAny _ _ (callAny (.ref C) _) _ _ _
 repeat (any_goals (first | assumption | with_reducible refine wpAny_loadPart_at hC ?_ | wp_step))
 refine ⟨rfl,?_⟩
 refine codeAny_call_builtin_at (Code.quiet_builtin _ (by decide +kernel)) entry_typeCall (wpAny_check_type_call_sub hC (exc_type_call F T hC hi hb ?_ hrest))
 exact wpAny_mono hq (fun r s' z=>z) fun _ _ z=>z
theorem exc_init (F:ExcBaseFacts B newId initId bmB) (T:OwnTail h bmB bm) {e t0:Addr} {rest:List Value} {Q:Value→Shared→Prop}
  (hC:h.get? C=some (excClassObj nm q C N bs bm hdct sn sub ab col dd k0 k1 k2 k3 k5 newId)) (he:h.get? e=some (newExc C t0 none))
  (hq:∀ h',(∀ b o,b≠e→h.get? b=some o→h'.get? b=some o)→h'.get? e=some (newExc C h.objs.size none)→Q .none ⟨h',g,d,t,os⟩) (hrest:rest.length ≤ sizeLine) :
  wpAny (model prog w) A (call (.builtin initId) (.ref e :: rest)) Q E ⟨h,g,d,t,os⟩:=by
 refine wpAny_call (codeAny_call_builtin F.init.plain F.initEntry (wpAny_check_init_subT F T hC he rfl ?_))
 wp_walk
 show Q .none _
 refine hq _ (fun b o hb e0=>?_) ?_
 ·rw [Heap.get?_update_other _ _ (Ne.symm hb)]
  exact Heap.get?_push_of_some _ e0
 ·exact Heap.get?_update_self _ (Heap.get?_push_of_some _ he) rfl
end
end L2
end
section
set_option maxHeartbeats 1000000
namespace L2
open PySem PySem.Spec PySem.W PySem.Calls PyProof.Rows
open Builtin Builtin.ObjectAttr
def xIn (K:Frag) (C:Addr) (bmB:List Value) (newId:String):Bool:=match K.lookup C with
 | some ⟨.type "type",_,.cls cd,sl⟩=>(match cd.mro,sl.toList with
  | .ref C' :: bm,[_,_,_,_,some (.builtin n),_]=>C' == C && n == newId && !cd.hasDel && cd.hasDict && tailIn K bmB bm
  | _,_=>false)
 | _=>false
def XObj (h:Heap) (C:Addr) (bmB:List Value) (newId:String):Prop:=
 ∃ nm q N bs bm sn sub ab col dd k0 k1 k2 k3 k5,h.get? C=some (excClassObj nm q C N bs bm true sn sub ab col dd k0 k1 k2 k3 k5 newId)∧OwnTail h bmB bm
theorem x_of_in {K:Frag} {h:Heap} {C:Addr} {bmB:List Value} {newId:String} (X:K.In h) (e:xIn K C bmB newId=true):XObj h C bmB newId:=by
 unfold xIn at e
 split at e
 ·rename_i dd cd sl ho
  split at e
  ·rename_i C' bm k0 k1 k2 k3 n k5 hm hs
   simp only [Bool.and_eq_true,beq_iff_eq,Bool.not_eq_true'] at e
   obtain ⟨⟨⟨⟨rfl,rfl⟩,hdel⟩,hd⟩,ht⟩:=e
   obtain ⟨nm,bs,mro,ns,qn,hdct,sn,sub,ab,col,del⟩:=cd
   dsimp only at hm hdel hd
   subst hm hdel hd
   obtain ⟨sl⟩:=sl
   dsimp only at hs
   subst hs
   exact ⟨nm,qn,ns,bs,bm,sn,sub,ab,col,dd,k0,k1,k2,k3,k5,X _ _ ho,tail_of_in X ht⟩
  ·cases e
 ·cases e
theorem refuse_tail {h:Heap} {bmB tl:List Value} {self:Value} {what:Str} (T:OwnTail h bmB tl):refuseLoop self what tl=refuseLoop self what bmB:=by
 induction T with
 | base=>rfl
 | own _ _ _ _ ih=>rw [refuseLoop_ref]; exact ih
section
variable {prog:Program} {w:World} {A:Around} {E:Value→Shared→Prop} {h:Heap} {g:Array GenState} {d:Drawn} {t:Nat} {os:OsState} {K:Frag} {x C t0:Addr} {name:Str} {v:Value} {bmB:List Value} {newId:String} {B sa owner:String}
theorem exc_store_entry {tk:Tok} {Q:Fin→Shared→Prop} (SF:StoreFacts B bmB sa owner) (X:K.In h) (O:XObj h C bmB newId) (hn:findIn K (.ref C) name=some none) (hx:h.get? x=some (newExc C t0 none))
  (hq:∀ h' tk',(∀ b o,b≠x→h.get? b=some o→h'.get? b=some o)→h'.get? x=some (newExc C t0 (some h.objs.size))→h'.Ns1 h.objs.size (fun y=>if y=name then some v else none)→Q (.done (.ret .none)) ⟨h',g,d,tk',os⟩) :
  wpAny (model prog w) A (Builtin.«object.__setattr__» ⟨[.ref x,.str name tk,v],[]⟩) Q E ⟨h,g,d,t,os⟩:=by
 obtain ⟨nm,qn,N,bs,bm,sn,sub,ab,col,dd,k0,k1,k2,k3,k5,hC,T⟩:=O
 have hpass:=(refuse_tail (self:=.ref x) (what:="__setattr__") T).trans (SF.passes (.ref x))
 have LN:=looks_findIn (M:=model prog w) X hn
 obtain ⟨o,ho⟩:∃ o,o=newExc C t0 none:=⟨_,rfl⟩
 have hc:o.cls=.ref C:=by rw [ho]
 have hdn:o.dict=none:=by rw [ho]
 have hnc:∀ c,o.data≠.cls c:=fun c z=>by rw [ho] at z; cases z
 rw [← ho] at hx
 unfold Builtin.«object.__setattr__»
 repeat (first | rw [refuse_eq] | (rw [refuseLoop_ref,hpass]) | (with_reducible refine wpAny_loadPart_at hx ?_; rw [hc]) | with_reducible refine wpAny_mroOf_exc hC ?_ | with_reducible refine LN.at ?_ | wp_step)
 rw [hdn,if_neg (by simp [typeHasDict])]
 split
 ·rename_i hcd
  cases hcd
 split
 ·rename_i c hcd
  exact absurd hcd (hnc c)
 ·have hx₁:(h.push { cls:=.type "dict",data:=.dict #[] }).get? x=some o:=Heap.get?_push_of_some _ hx
  have hxs:x≠h.objs.size:=Nat.ne_of_lt (Heap.lt_size hx)
  refine wpAny_bind (wpAny_alloc' ?_)
  refine wpAny_bind (wpAny_update' hx₁ ?_)
  refine wpAny_pure ?_
  have hgd:((h.push { cls:=.type "dict",data:=.dict #[] }).update x fun o=>{ cls:=o.cls,dict:=some h.objs.size,data:=o.data,slots:=o.slots }).get? h.objs.size
    = some { cls:=.type "dict",data:=.dict #[] }:=
   (Heap.get?_update_ne _ _ _ _ hxs.symm).trans (Heap.get?_push_at rfl rfl)
  have hnd:((h.push { cls:=.type "dict",data:=.dict #[] }).update x fun o=>{ cls:=o.cls,dict:=some h.objs.size,data:=o.data,slots:=o.slots }).Ns h.objs.size (fun _=>none):=
   ⟨_,#[],_,hgd,rfl,fun e he=>absurd he (by simp),fun _=>rfl⟩
  show wpAny _ _ (storeInDict h.objs.size (.str name tk) name v) _ _ _
  unfold storeInDict newKeyGuard
  refine wpAny_bind (wpAny_pure (wpAny_bind (wpAny_nsSet1 (Heap.Ns1.of_empty hnd) fun h' hn' hs=>?_)))
  obtain ⟨oD,esD,epD,hoD,hdD,hcD⟩:=hn'.count (Within.cons name v Within.nil)
  refine wpAny_bind (wpAny_lookBehind hoD (by rw [hdD]; exact pastItsLine_dict (Nat.le_trans hcD (by rw [List.length_cons,List.length_nil,sizeLine_eq]; omega))) ?_)
  wp_walk
  refine hq h' _ (fun b ob hbx hb=>?_) ?_ hn'
  ·exact (hs.2 b (Nat.ne_of_lt (Heap.lt_size hb))).trans ((Heap.get?_update_ne _ _ _ _ hbx).trans (Heap.get?_push_of_some _ hb))
  ·subst ho
   exact (hs.2 x hxs).trans (Heap.get?_update_self _ hx₁ rfl)
theorem exc_store {Q:Unit→Shared→Prop} (SF:StoreFacts B bmB sa owner) (X:K.In h) (O:XObj h C bmB newId) (hs:findIn K (.ref C) "__setattr__"=some (some (.builtin sa))) (hw:mroIn K C (.type owner)=some true)
  (hn:findIn K (.ref C) name=some none) (hx:h.get? x=some (newExc C t0 none))
  (hq:∀ h' tk',(∀ b o,b≠x→h.get? b=some o→h'.get? b=some o)→h'.get? x=some (newExc C t0 (some h.objs.size))→h'.Ns1 h.objs.size (fun y=>if y=name then some v else none)→Q () ⟨h',g,d,tk',os⟩) :
  wpAny (model prog w) A (setAttr (.ref x) name v) Q E ⟨h,g,d,t,os⟩:=by
 have L0:Looks (model prog w) h (typeOf (.ref x)) (.ref C):=(Looks.ld hx).andThen .now
 have LS:=looks_findIn (M:=model prog w) X hs
 have LW:=looks_mroIn (M:=model prog w) X hw
 have f3:=SF.slot.bind (.ref x)
 unfold setAttr callSpecial? specialOf
 refine wpAny_bind (wpAny_mkText ?_)
 refine wpAny_bind (wpAny_bind (wpAny_bind (L0.at (LS.at ?_))))
 refine wpAny_holding ?_
 rw [f3]
 refine wpAny_bind (wpAny_pure ?_)
 have ha:argsOk sa ⟨[.ref x,.str name t,v],[]⟩:=SF.args (.ref x) (.str name t) v
 have hI:Looks (model prog w) h (isInstance (.ref x) (.type owner)) true:=L0.andThen LW
 refine wpAny_bind (wpAny_call (codeAny_call_builtin SF.slot.plain SF.entry ?_))
 show wpAny _ _ (checkBuiltinCall sa ⟨[.ref x,.str name t,v],[]⟩) _ _ _
 refine check_slot (i:=sa) (owner:=owner) (n:="__setattr__") (self:=.ref x) (rest:=[.str name t,v]) (kw:=[]) SF.kind SF.split hI ha ?_
 refine exc_store_entry SF X O hn hx fun h' tk' k1 k2 k3=>?_
 exact wpAny_pure (wpAny_pure (hq h' tk' k1 k2 k3))
end
end L2
end
section
set_option maxHeartbeats 1000000
namespace L2
open PySem PySem.Spec PyProof.Rows
def excO (e C:Addr) (d:Option Addr):HO:=.ext fun h=>∃ t:Addr,h.get? e=some (newExc C t d)
abbrev bmV:List Value:=[.type "ValueError",.type "Exception",.type "BaseException",.type "object"]
structure XCl (K:PySem.W.Frag) (C:Addr):Prop where
 cls:XCls K C
 obj:xIn K C bmV "ValueError.__new__"=true
 kp:PySem.W.keepIn K (.ref C)=true
 sa:PySem.W.findIn K (.ref C) "__setattr__"=some (some (.builtin "object.__setattr__"))
theorem ObjOk.exc {P:Program} {w:World} {H:Hp} {h:Heap} {e C t:Addr} {d:Option Addr} (he:h.get? e=some (newExc C t d)):ObjOk P w H h e (excO e C d):=
 ⟨⟨t,he⟩,⟨_,he⟩,fun h1 h2 ⟨t',a⟩ k=>⟨t',k _ a⟩⟩
theorem HOk.exc {P:Program} {w:World} {H:Hp} {h:Heap} {e C:Addr} {d:Option Addr} (x:HOk P w H h) (q:H e=some (excO e C d)):∃ t,h.get? e=some (newExc C t d):=
 (show ObjOk P w H h e (excO e C d) from x e _ q).1
section
variable {X:Cx} {pins:List (Addr×Obj)} {σ:St} {H:Hp} {s:Shared} {C:Addr} {Q:VK} {us:List Value} {vs:List V} {CX:CXT} {k:Nat} {f:Addr} {fd:FuncData} {ps:List Str} {sp:Sp} {E:XK}
theorem get_push_ne {h:Heap} {o u:Obj} {b:Addr} (e:(h.push o).get? b=some u) (q:b≠h.objs.size):h.get? b=some u:=by
 rwa [Heap.get?_push_ne h b o q] at e
theorem get_new {h:Heap} {rest:List Value} {C:Addr}:((h.push (newArgs rest)).push (newExc C h.objs.size none)).get? (h.objs.size + 1)=some (newExc C h.objs.size none):=by heap_get
theorem Inv.newExc (I:Inv X pins σ H s):Inv X pins σ (upd H (s.heap.objs.size + 1) (excO (s.heap.objs.size + 1) C none)) { s with heap:=(s.heap.push (newArgs us)).push (newExc C s.heap.objs.size none) }:=
 I.laid (t':=s.toks) (fun b u e=>Heap.get?_push_of_some _ (Heap.get?_push_of_some _ e)) (Nat.le_succ _) (ObjOk.exc get_new)
theorem run_excI (M:XCl X.K C) (hi:PySem.W.findIn X.K (.ref C) "__init__"=some (some (.ref f))) (hf:PySem.W.isFn X.K (.ref f)=true) (F:FnOk X.prog X.w X.K X.mg X.base CX k f fd ps sp) (hr:Room (k + 1) X.A) (hb:Binds X.K fd ps [])
  (hx:Passes CX X E) (I:Inv X pins σ H s) (r:Vals vs us) (hl:vs.length ≤ sizeLine)
  (h:∀ e,H e=none→sp (.ref e :: vs) (upd H e (excO e C none)) (fun v H2=>v=.non∧Q (.ref e) H2) E):wpAny (model X.prog X.w) X.A (call (.ref C) us) (EP X pins σ Q) X.xe s:=by
 have hl':us.length ≤ sizeLine:=by rw [← r.length]; exact hl
 have kin:=I.kIn
 obtain ⟨nm,qn,N,bs,bm,sn,sub,ab,col,dd,k0,k1,k2,k3,k5,hC,T⟩:=x_of_in kin M.obj
 have hq:=h (s.heap.objs.size + 1) (I.hok.fresh (Nat.le_succ _))
 have I2:=Inv.newExc (C:=C) (us:=us) I
 have r2:Vals (V.ref (s.heap.objs.size + 1) :: vs) (Value.ref (s.heap.objs.size + 1) :: us):=.cons rfl r
 have hlen:(Value.ref (s.heap.objs.size + 1) :: us++[]).length=ps.length:=by
  rw [List.append_nil,← r2.length]; exact F.len _ _ _ _ hq
 have hbd:=hb _ (Value.ref (s.heap.objs.size + 1) :: us) I2.kIn hlen
 rw [List.append_nil] at hbd
 obtain ⟨hh,g,d,t,os⟩:=s
 refine exc_call PySem.F.excBase_ValueError T hC (PySem.W.looks_findIn kin hi) (fun self=>PySem.W.bind_fn kin self (beq_iff_eq.mp hf)) ?_ hl'
 refine wpAny_call (codeAny_mono (F.run _ X.stack _ _ ⟨Value.ref (hh.objs.size + 1) :: us,[]⟩ (Value.ref (hh.objs.size + 1) :: us) _ _ E (hr.make C us []) (I2.env0.make C us []) ⟨hbd,.inl I2.tk⟩ r2 hq) fun r s' hq'=>?_)
 cases r with
 | error e=>exact hx pins σ _ _ e s' I2 hq'
 | ok fl=>
  cases fl with
  | ret u=>
   obtain ⟨v,H',I3,rv,ev,q3⟩:=I2.after hq'
   subst ev
   exact ⟨rv,⟨V.ref (hh.objs.size + 1),H',I3,rfl,q3⟩⟩
  | next=>exact False.elim hq'
  | brk=>exact False.elim hq'
  | cont=>exact False.elim hq'
variable {x:Str} {p pos:Pos} {e:Expr} {es:List Expr} {t:TA}
def tExcI (C:Addr) (sp:Sp) (E:XK) (t:TA):TE:=fun σ H Q=>t σ H fun vs H1=>vs.length ≤ sizeLine∧∀ e,H1 e=none→sp (.ref e :: vs) (upd H1 e (excO e C none)) (fun v H2=>v=.non∧Q (.ref e) H2) E
theorem pe_excI (M:XCl X.K C) (hi:PySem.W.findIn X.K (.ref C) "__init__"=some (some (.ref f))) (hf:PySem.W.isFn X.K (.ref f)=true) (F:FnOk X.prog X.w X.K X.mg X.base CX k f fd ps sp) (hr:Room (k + 1) X.A) (hb:Binds X.K fd ps [])
  (hx:Passes CX X E) (hg:Gl X x) (hm:X.mg x=some (.ref C)) (ha:PA X (e :: es) t)
  (hdb:(x == ("__debug__":Str))=false:=by decide) (he:starEach (e :: es) X.env=(false,eval e X.env) :: starEach es X.env:=by rfl) (hpl:(backTo pos (starEach es X.env)).any (·.1)=false:=by rfl) :
  PE X (.Call (.Name x p) (e :: es) [] pos) (tExcI C sp E t):=by
 intro pins s σ H Q I h
 refine wpAny_Call_Name_kw (ld_glob I hg hm ?_ hdb)
 refine PySem.W.callWith_K (h₀:=X.base) I.ok.mod.kin M.kp (thn (ha pos pins s σ H _ I h) fun us s1 ⟨vs,H1,I1,r,q⟩=>⟨I1.kIn,?_⟩) he hpl
 exact run_excI M hi hf F hr hb hx I1 r q.1 q.2
def tInitX (K:PySem.W.Frag) (t:TA):TE:=fun σ H Q=>t σ H fun vs H1=>∃ e C rest,vs=.ref e :: rest∧H1 e=some (excO e C none)∧XCl K C∧rest.length ≤ sizeLine∧Q .non (upd H1 e (excO e C none))
structure XSup (K:PySem.W.Frag) (C:Addr):Prop where
 reads:PySem.W.readsIn K C (.type "type")=true
 ga:PySem.W.specialIn K (.ref C) "__getattribute__"=some (some (.builtin "type.__getattribute__"))
 init:PySem.W.findCls K (.ref C) (.type "type") "__init__"=some (.val (.builtin "ValueError.__init__"))
theorem pe_initX {pl:Sem Bool} {apos:Pos} (S:XSup X.K C) (hg:Gl X x) (hm:X.mg x=some (.ref C)) (ha:PA X (e :: es) t)
  (hdb:(x == ("__debug__":Str))=false:=by decide) (he:starEach (e :: es) X.env=(false,eval e X.env) :: starEach es X.env:=by rfl) (hpl:(backTo pos (starEach es X.env)).any (·.1)=false:=by rfl)
  (ht:eval (.Call (.Attribute (.Name x p) "__init__" apos) (e :: es) [] pos) X.env=(do
   let ov ← eval (.Name x p) X.env
   standAt apos.atName
   let (f,first) ← holding [ov] (getMethod ov "__init__" pl)
   callWith pos f first (backTo pos (starEach (e :: es) X.env)) (backToKw pos (keywordEach [] X.env))):=by rfl) :
  PE X (.Call (.Attribute (.Name x p) "__init__" apos) (e :: es) [] pos) (tInitX X.K t):=by
 intro pins s σ H Q I h
 refine PySem.W.methodCall_KW (pl:=pl) (ld_glob I hg hm ?_ hdb) ht
 refine PySem.W.method_cls I.kIn S.ga (PySem.W.cls_value I.kIn S.reads S.init (by decide) ?_)
 have I0:Inv X pins σ H { s with toks:=s.toks + 1 }:=I.tok _
 refine PyProof.Rows.callWith_builtin1 (thn (ha pos pins _ σ H _ I0 h) fun us s1 ⟨vs,H1,I1,r,e0,C0,rest,ev,ea,M,hl,q⟩=>?_) he hpl
 subst ev
 obtain ⟨u,us',rfl,r1,r2⟩:∃ u us',us=u :: us'∧RelV (.ref e0) u∧Vals rest us':=by cases r with | cons a b=>exact ⟨_,_,rfl,a,b⟩
 obtain rfl:u=Value.ref e0:=r1
 ·
  obtain ⟨t0,hx⟩:=I1.hok.exc ea
  obtain ⟨nm,qn,N,bs,bm,sn,sub,ab,col,dd,k0,k1,k2,k3,k5,hC,T⟩:=x_of_in I1.kIn M.obj
  have mu:Mut (H1 e0):=by rw [ea]; exact True.intro
  have hl':us'.length ≤ sizeLine:=by rw [← r2.length]; exact hl
  obtain ⟨hh,g,d,tk,os⟩:=s1
  refine exc_init PySem.F.excBase_ValueError T hC hx (fun h' kk e'=>?_) hl'
  exact ⟨.non,_,I1.write (t':=tk) mu (.inl rfl) kk ⟨_,e'⟩ (ObjOk.exc e'),rfl,q⟩
def sFldX (K:PySem.W.Frag) (ta tv:TE) (f:Str):TS:=fun D σ H=>tv σ H fun y H1=>ta σ H1 fun x H2=>∃ e C,x=.ref e∧H2 e=some (excO e C none)∧XCl K C∧NoAttr K C f ∧
 ∀ dx,H2 dx=none→dx≠e→D.nx σ (upd (upd H2 dx (.xd [(f,y)])) e (excO e C (some dx)))
theorem setattrX {a:Addr} {fl:Str} {y:V} {u:Value} {A:Around} {E':Value→Shared→Prop} {Q:Unit→Shared→Prop} (I:Inv X pins σ H s) (ea:H a=some (excO a C none)) (M:XCl X.K C) (n:NoAttr X.K C fl) (ry:RelV y u)
  (h:∀ dx s',H dx=none→dx≠a→Inv X pins σ (upd (upd H dx (.xd [(fl,y)])) a (excO a C (some dx))) s'→Q () s'):wpAny (model X.prog X.w) A (setAttr (.ref a) fl u) Q E' s:=by
 obtain ⟨t0,hx⟩:=I.hok.exc ea
 have kin:=I.kIn
 have hne:s.heap.objs.size≠a:=fun z=>by have:=Heap.lt_size hx; rw [← z] at this; exact Nat.lt_irrefl _ this
 have hfr:H s.heap.objs.size=none:=I.hok.fresh (Nat.le_refl _)
 obtain ⟨hh,g,d,tk,os⟩:=s
 refine upQ (exc_store PySem.F.store_ValueError kin (x_of_in kin M.obj) M.sa M.cls.mo n hx fun h' tk' k1 k2 k3 (hup:tk ≤ tk')=>h hh.objs.size _ hfr hne ?_)
 have tk0:0 < tk':=Nat.lt_of_lt_of_le I.tk hup
 obtain ⟨oD,es,ep,e1,e2,e3,eu,e4⟩:=id k3
 have g1:(hh.push oD).get? hh.objs.size=some oD:=Heap.get?_push_at rfl (Heap.get?_some_iff.mp e1).2
 have I1:Inv X pins σ (upd H hh.objs.size (.xd [(fl,y)])) ⟨hh.push oD,g,d,tk,os⟩:=
  I.laid (t':=tk) (fun b u e=>Heap.get?_push_of_some _ e) (Nat.le_refl _) ⟨_,⟨oD,es,ep,g1,e2,e3,eu,e4⟩,fun z=>by
   by_cases q:z=fl
   ·subst q; simp [RelO,ry]
   ·have q':(z == fl)=false:=by simpa using q
    simp [RelO,q,List.lookup,q']⟩
 have ea':upd H hh.objs.size (.xd [(fl,y)]) a=some (excO a C none):=by rw [upd_ne (Ne.symm hne)]; exact ea
 exact I1.write (t':=tk') (x:=a) (e:=a) (by rw [ea']; exact True.intro) (.inl rfl) (fun b u hb e=>by
  by_cases q:b=hh.objs.size
  ·subst q
   have e':(hh.push oD).get? hh.objs.size=some u:=e
   rw [g1] at e'
   cases e'
   exact e1
  ·exact k1 b u hb (get_push_ne e q)) ⟨_,k2⟩ (ObjOk.exc k2)
variable {o value:Expr} {fl:Str} {pos':Pos} {ta tv:TE}
theorem ps_fldX (ha:PE X o ta) (hv:PE X value tv) (hs:swapsWith value (some (.Attribute o fl pos')) pos.line X.env=pure false):PS X (.Assign [.Attribute o fl pos'] value pos) (sFldX X.K ta tv fl):=by
 intro pins s σ H D I h
 refine plainObj_wpAny_Assign_Attribute (thn (hv pins s σ H _ I h) fun u s1 ⟨y,H1,I1,ry,q⟩=>thn (ha pins s1 σ H1 _ I1 q) fun ov s2 ⟨x,H2,I2,rx,a,C,ex,ea,c,n,q2⟩=>?_) hs
 subst ex
 obtain rfl:ov=Value.ref a:=rx
 exact setattrX I2 ea c n ry fun dx s3 z1 z2 I3=>⟨σ,_,I3,q2 dx z1 z2⟩
end
end L2
end
section
set_option maxHeartbeats 1000000
namespace L2
open PySem PySem.Spec PyProof.Rows
section
variable {X:Cx} {pins:List (Addr×Obj)} {σ:St} {H:Hp} {s:Shared} {h':Heap}
end
end L2
end
section
namespace M
open PySem
inductive Tr where
 | w (x:List Nat)
 | l (ts:List Tr)
mutual
def Tr.cs:Tr→List Nat
 | .w x=>x
 | .l ts=>40 :: (bs ts).tail++[41]
def bs:List Tr→List Nat
 | []=>[]
 | t :: ts=>32 :: (t.cs++bs ts)
end
mutual
def Tr.nest:Tr→Nat
 | .w _=>0
 | .l ts=>nests ts + 1
def nests:List Tr→Nat
 | []=>0
 | t :: ts=>max t.nest (nests ts)
end
def Plain (x:List Nat):Prop:=x≠[]∧∀ c∈x,c≠32∧c≠40∧c≠41
mutual
def Tr.Good:Tr→Prop
 | .w x=>Plain x
 | .l ts=>2 ≤ ts.length∧(∃ h r,ts=.w h :: r)∧Goods ts
def Goods:List Tr→Prop
 | []=>True
 | t :: ts=>t.Good∧Goods ts
end
abbrev Pile:=List (List Tr)
def push (t:Tr):Pile→Pile
 | []=>[]
 | top :: st=>(top++[t]) :: st
def close:Nat→Pile→Pile
 | 0,st=>st
 | k + 1,top :: par :: st=>close k ((par++[.l top]) :: st)
 | _ + 1,st=>st
def coreOf (x:List Nat):List Nat:=(x.reverse.dropWhile (· == 41)).reverse
def closeN (c:Nat) (st:Pile):Option Pile:=if c < st.length then some (close c st) else none
def putC (core:List Nat) (c:Nat) (st:Pile):Option Pile:=
 if core.head?=some 40 then (if st.length ≤ 20 then closeN c (push (.w core.tail) ([] :: st)) else none) else closeN c (push (.w core) st)
def putW (x:List Nat) (st:Pile):Option Pile:=putC (coreOf x) (x.length - (coreOf x).length) st
def runW:List (List Nat)→Pile→Option Pile
 | [],st=>some st
 | x :: xs,st=>(putW x st).bind (runW xs)
theorem runW_append:∀ (a b:List (List Nat)) (st:Pile),runW (a++b) st=(runW a st).bind (runW b)
 | [],_,_=>rfl
 | x :: a,b,st=>by
  show (putW x st).bind (runW (a++b))=((putW x st).bind (runW a)).bind (runW b)
  cases putW x st with
  | none=>rfl
  | some st'=>exact runW_append a b st'
theorem push_length (t:Tr) (st:Pile):(push t st).length=st.length:=by
 cases st <;> rfl
theorem coreOf_rep {x:List Nat} (k:Nat) (h:x≠[]) (hx:∀ c∈x,c≠41):coreOf (x++List.replicate k 41)=x:=by
 unfold coreOf
 rw [List.reverse_append,List.reverse_replicate]
 have e:∀ k:Nat,((List.replicate k 41++x.reverse).dropWhile (· == 41))=x.reverse:=by
  intro k
  induction k with
  | zero=>
   rw [List.replicate_zero,List.nil_append]
   cases hr:x.reverse with
   | nil=>rfl
   | cons c r=>
    have hc:c∈x:=by
     have:c∈x.reverse:=by rw [hr]; exact List.mem_cons_self
     exact List.mem_reverse.mp this
    rw [List.dropWhile_cons,if_neg]
    simpa using hx c hc
  | succ k ih=>
   rw [List.replicate_succ,List.cons_append,List.dropWhile_cons,if_pos (by rfl)]
   exact ih
 rw [e,List.reverse_reverse]
theorem put_plain {x:List Nat} (k:Nat) (st:Pile) (h:Plain x):putW (x++List.replicate k 41) st=closeN k (push (.w x) st):=by
 have e:=coreOf_rep k h.1 (fun c hc=>(h.2 c hc).2.2)
 unfold putW
 rw [e]
 unfold putC
 rw [if_neg,List.length_append,List.length_replicate,Nat.add_sub_cancel_left]
 intro hh
 cases x with
 | nil=>cases hh
 | cons c r=>
  have:=(h.2 c List.mem_cons_self).2.1
  simp at hh
  exact this hh
theorem put_open {x:List Nat} (k:Nat) (st:Pile) (h:Plain x) (hs:st.length ≤ 20):putW (40 :: x++List.replicate k 41) st=closeN k (push (.w x) ([] :: st)):=by
 have e:=coreOf_rep (x:=40 :: x) k (by simp) (fun c hc=>by
  rcases List.mem_cons.mp hc with rfl | hc
  ·decide
  ·exact (h.2 c hc).2.2)
 unfold putW
 rw [e]
 unfold putC
 rw [if_pos (show (40 :: x).head?=some 40 from rfl),if_pos hs,List.length_append,List.length_replicate,Nat.add_sub_cancel_left]
 rfl
def joinB:List (List Nat)→List Nat
 | []=>[]
 | [x]=>x
 | x :: y :: r=>x++32 :: joinB (y :: r)
theorem joinB_append:∀ (a b:List (List Nat)),a≠[]→b≠[]→joinB (a++b)=joinB a++32 :: joinB b
 | [],_,h,_=>absurd rfl h
 | [x],b,_,h=>by
  cases b with
  | nil=>exact absurd rfl h
  | cons y r=>rfl
 | x :: y :: a,b,_,h=>by
  show x++32 :: joinB ((y :: a)++b)=(x++32 :: joinB (y :: a))++32 :: joinB b
  rw [joinB_append (y :: a) b (by simp) h]
  simp
theorem joinB_last (a:List (List Nat)) (x y:List Nat):joinB (a++[x++y])=joinB (a++[x])++y:=by
 cases a with
 | nil=>rfl
 | cons z r=>
  rw [joinB_append _ _ (by simp) (by simp),joinB_append _ _ (by simp) (by simp)]
  show _++32 :: (x++y)=(_++32 :: x)++y
  simp
theorem close_length:∀ (a:Nat) (st:Pile),a < st.length→(close a st).length + a=st.length
 | 0,st,_=>rfl
 | a + 1,st,h=>by
  match st,h with
  | [],h=>simp at h
  | [_],h=>simp at h
  | top :: par :: st,h=>
   have:=close_length a ((par++[.l top]) :: st) (by simp at h ⊢; omega)
   show (close a ((par++[.l top]) :: st)).length + (a + 1)=_
   simp at this ⊢
   omega
structure Words (t:Tr) (pre:List (List Nat)) (last:List Nat):Prop where
 join:joinB (pre++[last])=t.cs
 free:∀ x∈pre++[last],32 ∉ x
 run:∀ (k:Nat) (st:Pile),1 ≤ st.length→st.length + t.nest ≤ 21→k < st.length→runW (pre++[last++List.replicate k 41]) st=some (close k (push t st))
structure WordsL (ts:List Tr) (pre:List (List Nat)) (last:List Nat):Prop where
 join:joinB (pre++[last])=(bs ts).tail
 free:∀ x∈pre++[last],32 ∉ x
 run:∀ (k:Nat) (top:List Tr) (st:Pile),st.length + 1 + nests ts ≤ 21→k < st.length + 1→runW (pre++[last++List.replicate k 41]) (top :: st)=some (close k ((top++ts) :: st))
theorem closeN_some {k:Nat} {st:Pile} (h:k < st.length):closeN k st=some (close k st):=by
 unfold closeN
 rw [if_pos h]
theorem words_w {x:List Nat} (h:Plain x):Words (.w x) [] x where
 join:=rfl
 free:=fun y hy=>by
  simp at hy
  subst hy
  intro hm
  exact (h.2 _ hm).1 rfl
 run:=fun k st h1 _ hk=>by
  show (putW (x++List.replicate k 41) st).bind (runW [])=_
  rw [put_plain k st h,closeN_some (by rw [push_length]; exact hk)]
  rfl
theorem bs_tail (t:Tr) (ts:List Tr):(bs (t :: ts)).tail=t.cs++bs ts:=rfl
theorem bs_cons {ts:List Tr} (h:ts≠[]):bs ts=32 :: (bs ts).tail:=by
 cases ts with
 | nil=>exact absurd rfl h
 | cons t r=>rfl
mutual
theorem words:∀ (t:Tr),t.Good→∃ pre last,Words t pre last
 | .w x,h=>⟨[],x,words_w h⟩
 | .l [],h=>by have:=h.1; simp at this
 | .l (t :: ts),h=>by
  obtain ⟨h2,⟨hd,r,e⟩,g⟩:=h
  cases e
  have hne:ts≠[]:=by
   intro e
   subst e
   simp at h2
  have g0:Plain hd:=g.1
  obtain ⟨pre,last,W⟩:=wordsL ts hne g.2
  refine ⟨(40 :: hd) :: pre,last++[41],?_,?_,?_⟩
  ·show joinB (((40 :: hd) :: pre)++[last++[41]])=40 :: (bs (.w hd :: ts)).tail++[41]
   rw [joinB_last,bs_tail,List.cons_append]
   rw [show (40 :: hd) :: (pre++[last])=[40 :: hd]++(pre++[last]) from rfl,joinB_append _ _ (by simp) (by simp),W.join,bs_cons hne]
   show (40 :: hd++_)++[41]=40 :: (hd++_)++[41]
   simp
  ·intro x hx
   rw [List.cons_append] at hx
   rcases List.mem_cons.mp hx with rfl | hx
   ·intro hm
    rcases List.mem_cons.mp hm with e | hm
    ·exact absurd e (by decide)
    ·exact (g0.2 _ hm).1 rfl
   ·rcases List.mem_append.mp hx with hx | hx
    ·exact W.free x (List.mem_append_left _ hx)
    ·have:=List.mem_singleton.mp hx
     subst this
     intro hm
     rcases List.mem_append.mp hm with hm | hm
     ·exact W.free last (List.mem_append_right _ (by simp)) hm
     ·simp at hm
  ·intro k st h1 hn hk
   have hn':st.length + (max 0 (nests ts) + 1) ≤ 21:=hn
   have hn2:st.length + 1 + nests ts ≤ 21:=by omega
   have e:last++[41]++List.replicate k 41=last++List.replicate (k + 1) 41:=by
    rw [List.append_assoc,List.replicate_succ]
    rfl
   rw [List.cons_append]
   show (putW (40 :: hd) st).bind (runW (pre++[last++[41]++List.replicate k 41]))=_
   rw [e]
   have p:=put_open 0 st g0 (by omega)
   rw [List.replicate_zero,List.append_nil] at p
   rw [p,closeN_some (by rw [push_length]; simp)]
   show runW (pre++[last++List.replicate (k + 1) 41]) ([.w hd] :: st)=_
   rw [W.run (k + 1) [.w hd] st (by omega) (by omega)]
   cases st with
   | nil=>simp at h1
   | cons par st'=>rfl
theorem wordsL:∀ (ts:List Tr),ts≠[]→Goods ts→∃ pre last,WordsL ts pre last
 | [],h,_=>absurd rfl h
 | t :: ts,_,g=>by
  obtain ⟨pre,last,W⟩:=words t g.1
  by_cases hne:ts=[]
  ·subst hne
   refine ⟨pre,last,?_,W.free,?_⟩
   ·rw [W.join,bs_tail]
    show _=t.cs++[]
    simp
   ·intro k top st hn hk
    have hn':st.length + 1 + max t.nest 0 ≤ 21:=hn
    rw [W.run k (top :: st) (by simp) (by simp; omega) (by simpa using hk)]
    rfl
  ·obtain ⟨pre2,last2,W2⟩:=wordsL ts hne g.2
   refine ⟨pre++[last]++pre2,last2,?_,?_,?_⟩
   ·rw [List.append_assoc,joinB_append _ _ (by simp) (by simp),W.join,W2.join,bs_tail,← bs_cons hne]
   ·intro x hx
    rw [List.append_assoc] at hx
    rcases List.mem_append.mp hx with hx | hx
    ·exact W.free x hx
    ·exact W2.free x hx
   ·intro k top st hn hk
    have hn':st.length + 1 + max t.nest (nests ts) ≤ 21:=hn
    rw [List.append_assoc,runW_append]
    have r1:=W.run 0 (top :: st) (by simp) (by simp; omega) (by simp)
    rw [List.replicate_zero,List.append_nil] at r1
    rw [r1]
    show runW (pre2++[last2++List.replicate k 41]) ((top++[t]) :: st)=_
    rw [W2.run k (top++[t]) st (by omega) hk]
    simp
end
end M
end
section
namespace M
open PySem
inductive D where
 | int (i:Int)
 | str (x:Str)
 | tup (ds:List D)
mutual
def D.size:D→Nat
 | .int _=>1
 | .str _=>1
 | .tup ds=>sizes ds + 1
def sizes:List D→Nat
 | []=>0
 | d :: ds=>d.size + sizes ds
end
theorem sizes_append:∀ (a b:List D),sizes (a++b)=sizes a + sizes b
 | [],b=>by simp [sizes]
 | d :: a,b=>by
  show d.size + sizes (a++b)=d.size + sizes a + sizes b
  rw [sizes_append a b]
  omega
theorem size_pos (d:D):1 ≤ d.size:=by
 cases d <;> simp [D.size]
theorem length_le_sizes:∀ (ds:List D),ds.length ≤ sizes ds
 | []=>Nat.le_refl _
 | d :: ds=>by
  have:=length_le_sizes ds
  have:=size_pos d
  show ds.length + 1 ≤ d.size + sizes ds
  omega
inductive All2 {α β:Type} (R:α→β→Prop):List α→List β→Prop where
 | nil:All2 R [] []
 | cons {a b as bs} (h:R a b) (t:All2 R as bs):All2 R (a :: as) (b :: bs)
theorem All2.length {α β:Type} {R:α→β→Prop} {as:List α} {bs:List β} (h:All2 R as bs):as.length=bs.length:=by
 induction h with
 | nil=>rfl
 | cons _ _ ih=>simp [ih]
theorem All2.append {α β:Type} {R:α→β→Prop} {as as':List α} {bs bs':List β} (h:All2 R as bs) (k:All2 R as' bs'):All2 R (as++as') (bs++bs'):=by
 induction h with
 | nil=>exact k
 | cons h _ ih=>exact .cons h ih
theorem All2.imp {α β:Type} {R S:α→β→Prop} {as:List α} {bs:List β} (h:All2 R as bs) (f:∀ a b,R a b→S a b):All2 S as bs:=by
 induction h with
 | nil=>exact .nil
 | cons h _ ih=>exact .cons (f _ _ h) ih
theorem All2.get {α β:Type} {R:α→β→Prop} {as:List α} {bs:List β} (h:All2 R as bs):∀ {i:Nat} {a:α},as[i]?=some a→∃ b,bs[i]?=some b∧R a b:=by
 induction h with
 | nil=>intro i a e; simp at e
 | cons h _ ih=>
  intro i a e
  cases i with
  | zero=>simp at e; subst e; exact ⟨_,by simp,h⟩
  | succ i=>simpa using ih (i:=i) (a:=a) (by simpa using e)
def S (s:String):Str:=Str.ofString s
def isLetter (c:Nat):Bool:=97 ≤ c && c ≤ 122
def isFigure (c:Nat):Bool:=48 ≤ c && c ≤ 57
def nameL (x:List Nat):Bool:=1 ≤ x.length && x.length ≤ 6 && x.all isLetter && x != [110,117,109] && x != [105,116]
def Name (x:Str):Prop:=nameL x.cps.toList=true
def ops:List Str:=[S "+",S "-",S "*",S "<",S "="]
def tx (x:Str):Tr:=.w x.cps.toList
theorem letter_plain {c:Nat} (h:isLetter c=true):c≠32∧c≠40∧c≠41:=by
 simp [isLetter] at h
 omega
theorem figure_plain {c:Nat} (h:isFigure c=true):c≠32∧c≠40∧c≠41:=by
 simp [isFigure] at h
 omega
theorem Name.letters {x:Str} (h:Name x):∀ c∈x.cps.toList,isLetter c=true:=by
 unfold Name nameL at h
 simp only [Bool.and_eq_true,List.all_eq_true] at h
 exact h.1.1.2
theorem Name.pos {x:Str} (h:Name x):x.cps.toList≠[]:=by
 unfold Name nameL at h
 simp only [Bool.and_eq_true,decide_eq_true_eq] at h
 intro e
 rw [e] at h
 simp at h
theorem Name.le {x:Str} (h:Name x):x.cps.toList.length ≤ 6:=by
 unfold Name nameL at h
 simp only [Bool.and_eq_true,decide_eq_true_eq] at h
 exact h.1.1.1.2
theorem Name.plain {x:Str} (h:Name x):Plain x.cps.toList:=⟨h.pos,fun c hc=>letter_plain (h.letters c hc)⟩
def numS (n:Int):Str:=Str.ofString (toString n)
def Leaf (d:D) (t:Tr):Prop:=
 (∃ n:Int,0 ≤ n∧n < 10 ^ 10∧d=.tup [.str (S "num"),.int n]∧t=tx (numS n))∨(∃ x:Str,Name x∧d=.tup [.str (S "box"),.str x]∧t=tx x)
def Arm (R:D→Tr→Prop) (d:D) (t:Tr):Prop:=∃ g x e te,Name g∧Name x∧R e te∧d=.tup [.str g,.str x,e]∧t=.l [tx g,tx x,te]
def Node (R:D→Tr→Prop) (d:D) (t:Tr):Prop:=
  (∃ s a b ta tb,s∈ops∧R a ta∧R b tb∧d=.tup [.str (S "op"),.str s,a,b]∧t=.l [tx s,ta,tb])
  ∨ (∃ k es ts,Name k∧es.length ≤ 5∧All2 R es ts∧d=.tup [.str (S "rec"),.str k,.tup es]∧t=.l (tx (S "rec") :: tx k :: ts))
  ∨ (∃ a ta f,Name f∧R a ta∧d=.tup [.str (S "get"),a,.str f]∧t=.l [tx (S "get"),ta,tx f])
  ∨ (∃ k g a ta,Name k∧Name g∧R a ta∧d=.tup [.str (S "tag"),.str k,.str g,a]∧t=.l [tx (S "tag"),tx k,tx g,ta])
  ∨ (∃ a ta arms ts,R a ta∧1 ≤ arms.length∧arms.length ≤ 4∧All2 (Arm R) arms ts∧d=.tup [.str (S "case"),a,.tup arms]∧t=.l (tx (S "case") :: ta :: ts))
  ∨ (∃ a b c ta tb tc,R a ta∧R b tb∧R c tc∧d=.tup [.str (S "if"),a,b,c]∧t=.l [tx (S "if"),ta,tb,tc])
def T2:Nat→D→Tr→Prop
 | 0,d,t=>Leaf d t
 | n + 1,d,t=>Leaf d t∨Node (T2 n) d t
theorem T2.leaf {n:Nat} {d:D} {t:Tr} (h:Leaf d t):T2 n d t:=by
 cases n with
 | zero=>exact h
 | succ n=>exact .inl h
theorem num_reads (m:Nat):(numS (m:Int)).cps.toList=(Nat.toDigits 10 m).map Char.toNat:=by
 unfold numS
 rw [Str.ofString_eq_toList]
 show (Nat.repr m).toList.map Char.toNat=_
 rw [Nat.toList_repr]
theorem num_figures {n:Int} (h:0 ≤ n):∀ c∈(numS n).cps.toList,isFigure c=true:=by
 obtain ⟨m,rfl⟩:=Int.eq_ofNat_of_zero_le h
 intro c hc
 rw [num_reads] at hc
 obtain ⟨ch,hch,e⟩:=List.mem_map.mp hc
 have r:=Nat.isDigit_of_mem_toDigits (by decide) (by decide) hch
 subst e
 simp [isFigure]
 simp [Char.isDigit] at r
 have h1:(48:Nat) ≤ ch.val.toNat:=r.1
 have h2:ch.val.toNat ≤ 57:=r.2
 exact ⟨h1,h2⟩
theorem num_ne {n:Int} (h:0 ≤ n):(numS n).cps.toList≠[]:=by
 obtain ⟨m,rfl⟩:=Int.eq_ofNat_of_zero_le h
 rw [num_reads]
 intro e
 have:=Nat.length_toDigits_pos (b:=10) (n:=m)
 rw [List.map_eq_nil_iff.mp e] at this
 simp at this
theorem num_len {n:Int} (h:0 ≤ n) (h1:n < 10 ^ 10):(numS n).cps.toList.length ≤ 10:=by
 obtain ⟨m,rfl⟩:=Int.eq_ofNat_of_zero_le h
 rw [num_reads,List.length_map]
 have hm:m < 10 ^ 10:=by omega
 exact (Nat.length_toDigits_le_iff (b:=10) (k:=10) (by decide) (by decide)).mpr hm
end M
end
section
namespace M
open PySem
theorem goods_of {R:D→Tr→Prop} {es:List D} {ts:List Tr} (h:All2 R es ts) (g:∀ d t,R d t→t.Good):Goods ts:=by
 induction h with
 | nil=>exact True.intro
 | cons h _ ih=>exact ⟨g _ _ h,ih⟩
theorem bs_len_of {R:D→Tr→Prop} {m:Nat} {es:List D} {ts:List Tr} (h:All2 R es ts) (g:∀ d t,R d t→t.cs.length ≤ m):(bs ts).length ≤ ts.length * (m + 1):=by
 induction h with
 | nil=>exact Nat.zero_le _
 | @cons a b as bs' h _ ih=>
  have:=g _ _ h
  show (32 :: (b.cs++bs bs')).length ≤ (bs'.length + 1) * (m + 1)
  rw [List.length_cons,List.length_append,Nat.succ_mul]
  omega
theorem leaf_good {d:D} {t:Tr} (h:Leaf d t):t.Good:=by
 rcases h with ⟨n,h0,h1,_,rfl⟩ | ⟨x,hx,_,rfl⟩
 ·exact ⟨num_ne h0,fun c hc=>figure_plain (num_figures h0 c hc)⟩
 ·exact hx.plain
theorem plain_ops:∀ s∈ops,Plain s.cps.toList:=by
 have e:∀ s∈ops,(decide (s.cps.toList≠[]) && s.cps.toList.all fun c=>c != 32 && c != 40 && c != 41)=true:=by decide +kernel
 intro s hs
 have:=e s hs
 simp only [Bool.and_eq_true,decide_eq_true_eq,List.all_eq_true,bne_iff_ne] at this
 exact ⟨this.1,fun c hc=>⟨(this.2 c hc).1.1,(this.2 c hc).1.2,(this.2 c hc).2⟩⟩
def heads:List Str:=[S "rec",S "get",S "tag",S "case",S "if"]
theorem plain_heads:∀ s∈heads,Plain s.cps.toList:=by
 have e:∀ s∈heads,(decide (s.cps.toList≠[]) && s.cps.toList.all fun c=>c != 32 && c != 40 && c != 41)=true:=by decide +kernel
 intro s hs
 have:=e s hs
 simp only [Bool.and_eq_true,decide_eq_true_eq,List.all_eq_true,bne_iff_ne] at this
 exact ⟨this.1,fun c hc=>⟨(this.2 c hc).1.1,(this.2 c hc).1.2,(this.2 c hc).2⟩⟩
theorem arm_good {R:D→Tr→Prop} (g:∀ d t,R d t→t.Good) {d:D} {t:Tr} (h:Arm R d t):t.Good:=by
 obtain ⟨a,x,e,te,ha,hx,he,_,rfl⟩:=h
 exact ⟨by simp,⟨_,_,rfl⟩,ha.plain,hx.plain,g _ _ he,True.intro⟩
theorem nest_tx (x:Str):(tx x).nest=0:=rfl
theorem leaf_len {d:D} {t:Tr} (h:Leaf d t):t.cs.length ≤ 10:=by
 rcases h with ⟨n,h0,h1,_,rfl⟩ | ⟨x,hx,_,rfl⟩
 ·exact num_len h0 h1
 ·have:=hx.le
  show x.cps.toList.length ≤ 10
  omega
theorem cs_tx (x:Str):(tx x).cs=x.cps.toList:=rfl
theorem ops_len:∀ s∈ops,s.cps.toList.length=1:=by decide +kernel
theorem heads_len:∀ s∈heads,s.cps.toList.length ≤ 4:=by decide +kernel
theorem T2.len:∀ {n:Nat} {d:D} {t:Tr},T2 n d t→t.cs.length + 20 ≤ 30 * 5 ^ n
 | 0,d,t,h=>by have:=leaf_len h; omega
 | n + 1,d,t,h=>by
  have ih:∀ d t,T2 n d t→t.cs.length ≤ 30 * 5 ^ n - 20:=fun d t h=>by have:=T2.len h; omega
  have hp:1 ≤ 5 ^ n:=Nat.pow_pos (by decide)
  have e5:5 ^ (n + 1)=5 * 5 ^ n:=by rw [Nat.pow_succ,Nat.mul_comm]
  generalize hP:5 ^ n=P at *
  have hr:=heads_len (S "rec") (by decide +kernel)
  have hge:=heads_len (S "get") (by decide +kernel)
  have hta:=heads_len (S "tag") (by decide +kernel)
  have hca:=heads_len (S "case") (by decide +kernel)
  have hif:=heads_len (S "if") (by decide +kernel)
  rcases h with h | ⟨s,a,b,ta,tb,hs,ha,hb,_,rfl⟩ | ⟨k,es,ts,hk,h5,hes,_,rfl⟩ | ⟨a,ta,f,hf,ha,_,rfl⟩ | ⟨k,g,a,ta,hk,hg,ha,_,rfl⟩ | ⟨a,ta,arms,ts,ha,h1,h4,hs,_,rfl⟩ | ⟨a,b,c,ta,tb,tc,ha,hb,hc,_,rfl⟩
  ·have:=leaf_len h; omega
  ·have:=ih _ _ ha; have:=ih _ _ hb; have:=ops_len s hs
   simp only [Tr.cs,bs,List.tail_cons,List.length_cons,List.length_append,List.length_nil,cs_tx]; omega
  ·have hb:=bs_len_of (m:=30 * P - 20) hes ih
   have:=hk.le
   have hl:=hes.length
   have:ts.length * (30 * P - 20 + 1) ≤ 5 * (30 * P - 20 + 1):=Nat.mul_le_mul_right _ (by omega)
   simp only [Tr.cs,bs,List.tail_cons,List.length_cons,List.length_append,List.length_nil,cs_tx]; omega
  ·have:=ih _ _ ha; have:=hf.le
   simp only [Tr.cs,bs,List.tail_cons,List.length_cons,List.length_append,List.length_nil,cs_tx]; omega
  ·have:=ih _ _ ha; have:=hk.le; have:=hg.le
   simp only [Tr.cs,bs,List.tail_cons,List.length_cons,List.length_append,List.length_nil,cs_tx]; omega
  ·have:=ih _ _ ha
   have hb:=bs_len_of (m:=30 * P - 4) hs fun d t h=>by
    obtain ⟨g,x,e,te,hg,hx,he,_,rfl⟩:=h
    have:=ih _ _ he; have:=hg.le; have:=hx.le
    simp only [Tr.cs,bs,List.tail_cons,List.length_cons,List.length_append,List.length_nil,cs_tx]; omega
   have hl:=hs.length
   have:ts.length * (30 * P - 4 + 1) ≤ 4 * (30 * P - 4 + 1):=Nat.mul_le_mul_right _ (by omega)
   simp only [Tr.cs,bs,List.tail_cons,List.length_cons,List.length_append,List.length_nil,cs_tx]; omega
  ·have:=ih _ _ ha; have:=ih _ _ hb; have:=ih _ _ hc
   simp only [Tr.cs,bs,List.tail_cons,List.length_cons,List.length_append,List.length_nil,cs_tx]; omega
end M
end
section
namespace M
open PySem
def L (x:Str):List Nat:=x.cps.toList
def ofL (l:List Nat):Str:=⟨l.toArray⟩
theorem L_ofL (l:List Nat):L (ofL l)=l:=rfl
theorem ofL_L (x:Str):ofL (L x)=x:=by
 cases x
 rfl
theorem L_inj {x y:Str} (h:L x=L y):x=y:=by
 rw [← ofL_L x,← ofL_L y,h]
theorem L_append (x y:Str):L (x++y)=L x++L y:=by
 show (x.cps++y.cps).toList=_
 simp [L]
theorem L_length (x:Str):(L x).length=x.length:=by
 simp [L,Str.length]
theorem L_join (sep:Nat):∀ ys:List Str,sep=32→L (Str.join ⟨#[sep]⟩ ys)=joinB (ys.map L)
 | [],_=>rfl
 | [x],_=>rfl
 | x :: y :: r,h=>by
  subst h
  show L (x++⟨#[32]⟩++Str.join ⟨#[32]⟩ (y :: r))=L x++32 :: joinB ((y :: r).map L)
  rw [L_append,L_append,L_join 32 (y :: r) rfl,List.append_assoc]
  rfl
theorem joinB_bs:∀ ts:List Tr,joinB (ts.map Tr.cs)=(bs ts).tail
 | []=>rfl
 | [t]=>by
  show t.cs=t.cs++bs []
  simp [bs]
 | t :: u :: r=>by
  show t.cs++32 :: joinB ((u :: r).map Tr.cs)=t.cs++bs (u :: r)
  rw [joinB_bs (u :: r),← bs_cons (by simp)]
theorem cut_eq {x y a b:List Nat} (hx:32 ∉ x) (hy:32 ∉ y) (h:x++32 :: a=y++32 :: b):x=y∧a=b:=by
 induction x generalizing y with
 | nil=>
  cases y with
  | nil=>simpa using h
  | cons c y=>
   simp at h
   exact absurd (by rw [h.1]; simp) hy
 | cons c x ih=>
  cases y with
  | nil=>
   simp at h
   exact absurd (by rw [h.1]; simp) hx
  | cons d y=>
   simp at h
   obtain ⟨h1,h2⟩:=h
   obtain ⟨e1,e2⟩:=ih (y:=y) (fun hm=>hx (List.mem_cons_of_mem _ hm)) (fun hm=>hy (List.mem_cons_of_mem _ hm)) (by simpa using h2)
   exact ⟨by rw [h1,e1],e2⟩
theorem joinB_inj:∀ (a b:List (List Nat)),a≠[]→b≠[]→(∀ x∈a,32 ∉ x)→(∀ x∈b,32 ∉ x)→joinB a=joinB b→a=b
 | [],_,h,_,_,_,_=>absurd rfl h
 | _,[],_,h,_,_,_=>absurd rfl h
 | [x],[y],_,_,_,_,h=>by
  have:x=y:=h
  rw [this]
 | [x],y :: z :: r,_,_,ha,_,h=>by
  have h':x=y++32 :: joinB (z :: r):=h
  exact absurd (by rw [h']; simp) (ha x (by simp))
 | x :: z :: r,[y],_,_,_,hb,h=>by
  have h':x++32 :: joinB (z :: r)=y:=h
  exact absurd (by rw [← h']; simp) (hb y (by simp))
 | x :: z :: r,y :: z' :: r',_,_,ha,hb,h=>by
  obtain ⟨e1,e2⟩:=cut_eq (ha x (by simp)) (hb y (by simp)) h
  have:=joinB_inj (z :: r) (z' :: r') (by simp) (by simp) (fun u hu=>ha u (List.mem_cons_of_mem _ hu)) (fun u hu=>hb u (List.mem_cons_of_mem _ hu)) e2
  rw [e1,this]
theorem split_ne (x y:Str):Txt.split x y≠[]:=by
 unfold Txt.split
 split
 ·simp
 ·split
  ·simp
  ·rw [StrLaws.partsBetween_eq]
   obtain ⟨p,r,e⟩:=StrLaws.partsFrom_ne x y.length 0 (Builtin.Str.occurrences x y 0 x.length (x.length + 1))
   rw [e]
   simp
theorem split_is {x:Str} {ws:List (List Nat)} (hn:ws≠[]) (hf:∀ z∈ws,32 ∉ z) (hj:joinB ws=L x):(Txt.split x ⟨#[32]⟩).map L=ws:=by
 refine joinB_inj _ _ ?_ hn ?_ hf ?_
 ·intro e
  exact split_ne x ⟨#[32]⟩ (List.map_eq_nil_iff.mp e)
 ·intro z hz
  obtain ⟨p,hp,rfl⟩:=List.mem_map.mp hz
  exact StrLaws.split_free x 32 p hp
 ·rw [← L_join 32 _ rfl,StrLaws.join_split,hj]
theorem parts_len (x:Str) (w:Nat):∀ (cuts:List Nat) (a:Nat),(StrLaws.partsFrom x w a cuts).length=cuts.length + 1
 | [],_=>rfl
 | c :: r,a=>by
  show (StrLaws.partsFrom x w (c + w) r).length + 1=_
  rw [parts_len x w r]
  rfl
theorem read_tree {t:Tr} (g:t.Good) (hn:t.nest ≤ 20) {x:Str} (hx:L x=t.cs):∃ ws,(Txt.split x ⟨#[32]⟩).map L=ws∧runW ws [[]]=some [[t]]:=by
 obtain ⟨pre,last,W⟩:=words t g
 refine ⟨pre++[last],split_is (by simp) W.free (by rw [W.join,hx]),?_⟩
 have:=W.run 0 [[]] (by simp) (by simp; omega) (by simp)
 rw [List.replicate_zero,List.append_nil] at this
 rw [this]
 rfl
end M
end
section
namespace M
open PySem
theorem take_core (p:Nat→Bool) (l:List Nat):l.take (l.length - (l.reverse.takeWhile p).length)=(l.reverse.dropWhile p).reverse:=by
 have e:l=(l.reverse.dropWhile p).reverse++(l.reverse.takeWhile p).reverse:=by
  rw [← List.reverse_append,List.takeWhile_append_dropWhile,List.reverse_reverse]
 generalize ha:(l.reverse.dropWhile p).reverse=a at *
 generalize hb:(l.reverse.takeWhile p)=b at *
 rw [e,List.length_append,List.length_reverse,Nat.add_sub_cancel]
 simp
theorem contains41 (c:Nat):(⟨#[41]⟩:Str).cps.contains c=(c == 41):=by
 show (#[41]:Array Nat).contains c=_
 simp
 rfl
theorem rstrip_core (x:Str):L (Txt.rstripChars x ⟨#[41]⟩)=coreOf (L x):=by
 have hp:(⟨#[41]⟩:Str).cps.contains=fun c=>c == 41:=funext contains41
 have key:L (stripped (⟨#[41]⟩:Str).cps.contains false true x)=coreOf (L x):=by
  unfold stripped
  show (Builtin.Str.strSub x _ _).cps.toList=_
  rw [StrLaws.strSub_toList,hp]
  unfold stripLo stripHi coreOf L
  simp only [Bool.false_eq_true,if_false,if_true,List.drop_zero,Nat.sub_zero]
  have hl:x.length=x.cps.toList.length:=by simp [Str.length]
  rw [hl]
  exact take_core _ _
 unfold Txt.rstripChars Txt.stripBy
 split
 ·rename_i h
  unfold stripSame at h
  rw [Bool.and_eq_true,beq_iff_eq,beq_iff_eq] at h
  rw [← key]
  unfold stripped
  have h1:=h.1
  have h2:=h.2
  rw [h1] at h2
  rw [h1,h2,StrLaws.sub_whole]
 ·exact key
theorem rstrip_len (x:Str):(Txt.rstripChars x ⟨#[41]⟩).length ≤ x.length:=by
 have h:=rstrip_core x
 rw [← L_length,h,← L_length]
 unfold coreOf
 rw [List.length_reverse]
 have:=(List.dropWhile_suffix (l:=(L x).reverse) (· == 41)).length_le
 simpa using this
theorem starts_open (x:Str):Txt.startswith x ⟨#[40]⟩=decide ((L x).head?=some 40):=by
 unfold Txt.startswith
 rw [StrLaws.subAt_eq]
 have hl:x.length=(L x).length:=(L_length x).symm
 show (decide (0 + 1 ≤ x.length) && ((L x).drop 0).take 1 == [40])=_
 rw [hl]
 cases L x with
 | nil=>rfl
 | cons c r=>
  simp
  rw [Bool.eq_iff_iff]
  simp
theorem slice_tail (x:Str) (h:1 ≤ x.length):L (Txt.slice x (some 1) none)=(L x).tail:=by
 have e:Txt.slice x (some 1) none=StrLaws.sliceText x (some 1) none:=rfl
 rw [e,StrLaws.sliceText_from ⟨by decide,by rw [show x.cps.toList.length=x.length by simp [Str.length]]; omega⟩]
 show ((L x).drop 1).take _=_
 rw [List.drop_one]
 refine List.take_of_length_le ?_
 rw [List.length_tail]
 show (L x).length - 1 ≤ (((L x).length:Int) - 1).toNat
 omega
end M
end
section
namespace M
open PySem
def letters:Str:=S "abcdefghijklmnopqrstuvwxyz"
def figures:Str:=S "0123456789"
def inS (y:Str) (c:Nat):Bool:=!(Builtin.Str.occurrences y ⟨#[c]⟩ 0 y.length 1).isEmpty
theorem inS_mem (y:Str) (c:Nat):inS y c=decide (c∈L y):=StrLaws.found_one y c
def madeOf (x y:Str) (m:Int):Bool:=decide (1 ≤ x.length) && decide ((x.length:Int) ≤ m) && (L x).all (inS y)
theorem letters_is (c:Nat):inS letters c=isLetter c:=by
 rw [inS_mem]
 have e:L letters=List.range' 97 26:=by decide +kernel
 rw [e,Bool.eq_iff_iff]
 simp [isLetter,List.mem_range']
 constructor
 ·rintro ⟨i,h1,h2⟩; omega
 ·rintro ⟨h1,h2⟩; exact ⟨c - 97,by omega,by omega⟩
theorem figures_is (c:Nat):inS figures c=isFigure c:=by
 rw [inS_mem]
 have e:L figures=List.range' 48 10:=by decide +kernel
 rw [e,Bool.eq_iff_iff]
 simp [isFigure,List.mem_range']
 constructor
 ·rintro ⟨i,h1,h2⟩; omega
 ·rintro ⟨h1,h2⟩; exact ⟨c - 48,by omega,by omega⟩
def numL (x:List Nat):Bool:=decide (1 ≤ x.length) && decide (x.length ≤ 10) && x.all isFigure && (decide (x=[48]) || decide (x.head?≠some 48))
theorem made_letters (x:Str):madeOf x letters 6=(decide (1 ≤ (L x).length) && decide ((L x).length ≤ 6) && (L x).all isLetter):=by
 unfold madeOf
 rw [show inS letters=isLetter from funext letters_is,L_length]
 congr 2
 rw [Bool.eq_iff_iff]
 simp
 omega
theorem made_figures (x:Str):madeOf x figures 10=(decide (1 ≤ (L x).length) && decide ((L x).length ≤ 10) && (L x).all isFigure):=by
 unfold madeOf
 rw [show inS figures=isFigure from funext figures_is,L_length]
 congr 2
 rw [Bool.eq_iff_iff]
 simp
 omega
theorem name_is (x:Str):nameL (L x)=(madeOf x letters 6 && !(decide (x=S "num") || decide (x=S "it"))):=by
 rw [made_letters]
 unfold nameL
 have e1:(L x != [110,117,109])=!decide (x=S "num"):=by
  by_cases h:x=S "num"
  ·subst h
   decide +kernel
  ·rw [decide_eq_false h]
   have:L x≠[110,117,109]:=fun e=>h (L_inj (e.trans (by decide +kernel)))
   simpa using this
 have e2:(L x != [105,116])=!decide (x=S "it"):=by
  by_cases h:x=S "it"
  ·subst h
   decide +kernel
  ·rw [decide_eq_false h]
   have:L x≠[105,116]:=fun e=>h (L_inj (e.trans (by decide +kernel)))
   simpa using this
 rw [e1,e2,Bool.not_or,Bool.and_assoc]
theorem number_is (x:Str):numL (L x)=(madeOf x figures 10 && (decide (x=S "0") || !decide ((⟨#[(L x).getD 0 0]⟩:Str)=S "0"))):=by
 rw [made_figures]
 unfold numL
 cases h:(decide (1 ≤ (L x).length) && decide ((L x).length ≤ 10) && (L x).all isFigure)
 ·rfl
 ·rw [Bool.true_and,Bool.true_and]
  have h1:1 ≤ (L x).length:=by
   simp only [Bool.and_eq_true,decide_eq_true_eq] at h
   exact h.1.1
  have e1:decide (L x=[48])=decide (x=S "0"):=by
   rw [decide_eq_decide]
   constructor
   ·intro e; exact L_inj (e.trans (by decide +kernel))
   ·intro e; rw [e]; decide +kernel
  have e2:decide ((L x).head?≠some 48)=!decide ((⟨#[(L x).getD 0 0]⟩:Str)=S "0"):=by
   cases hx:L x with
   | nil=>rw [hx] at h1; simp at h1
   | cons c r=>
    by_cases hc:c=48
    ·subst hc
     have:(⟨#[(48 :: r).getD 0 0]⟩:Str)=S "0":=by
      show (⟨#[48]⟩:Str)=S "0"
      decide +kernel
     rw [decide_eq_true this]
     simp
    ·have:¬ (⟨#[(c :: r).getD 0 0]⟩:Str)=S "0":=by
      show ¬ (⟨#[c]⟩:Str)=S "0"
      intro e
      have:=congrArg L e
      have e0:L (S "0")=[48]:=by decide +kernel
      rw [e0] at this
      have:[c]=[48]:=this
      simp at this
      exact hc this
     rw [decide_eq_false this]
     simpa using hc
  rw [e1,e2]
theorem digits_head:∀ (m:Nat),0 < m→((Nat.toDigits 10 m).map Char.toNat).head?≠some 48:=by
 intro m
 induction m using Nat.strongRecOn with
 | _ m ih=>
  intro h0
  by_cases h:m < 10
  ·rw [Nat.toDigits_of_lt_base h]
   have:∀ m:Nat,m < 10→0 < m→[(Nat.digitChar m).toNat].head?≠some 48:=by decide
   exact this m h h0
  ·have hm:m % 10 < 10:=Nat.mod_lt m (by decide)
   have t:Nat.toDigits 10 (m / 10)++Nat.toDigits 10 (m % 10)=Nat.toDigits 10 (10 * (m / 10) + m % 10):=Nat.toDigits_append_toDigits (by decide) (by omega) hm
   rw [Nat.div_add_mod] at t
   have hi:=ih (m / 10) (by omega) (by omega)
   rw [← t,List.map_append]
   have hp:=Nat.length_toDigits_pos (b:=10) (n:=m / 10)
   cases hd:Nat.toDigits 10 (m / 10) with
   | nil=>rw [hd] at hp; simp at hp
   | cons c r=>
    rw [hd] at hi
    simpa using hi
theorem num_number {n:Int} (h:0 ≤ n) (h1:n < 10 ^ 10):numL (L (numS n))=true:=by
 have hf:=num_figures h
 have hl:=num_len h h1
 have hn:=num_ne h
 unfold numL
 have a1:1 ≤ (L (numS n)).length:=by
  cases e:L (numS n) with
  | nil=>exact absurd e hn
  | cons c r=>simp
 rw [decide_eq_true a1,decide_eq_true (show (L (numS n)).length ≤ 10 from hl)]
 have a2:(L (numS n)).all isFigure=true:=List.all_eq_true.mpr hf
 rw [a2,Bool.true_and,Bool.true_and]
 obtain ⟨m,rfl⟩:=Int.eq_ofNat_of_zero_le h
 by_cases hm:m=0
 ·subst hm
  decide +kernel
 ·have:=digits_head m (by omega)
  rw [← num_reads] at this
  rw [Bool.true_and,Bool.or_eq_true]
  exact .inr (decide_eq_true this)
theorem name_no_number {x:Str} (h:Name x):numL (L x)=false:=by
 cases e:L x with
 | nil=>exact absurd e h.pos
 | cons c r=>
  have:=h.letters c (by show c∈L x; rw [e]; exact List.mem_cons_self)
  have:isFigure c=false:=by
   simp [isLetter] at this
   simp [isFigure]
   omega
  unfold numL
  simp [this]
end M
end
section
namespace M
open PySem L2
mutual
def RelD (H:Hp):V→D→Prop
 | v,.int i=>v=.int i
 | v,.str x=>v=.str x
 | v,.tup ds=>∃ a vs,v=.ref a∧H a=some (.tup vs)∧RelDs H vs ds
def RelDs (H:Hp):List V→List D→Prop
 | vs,[]=>vs=[]
 | vs,d :: ds=>∃ v r,vs=v :: r∧RelD H v d∧RelDs H r ds
end
mutual
def RelT (H:Hp):V→Tr→Prop
 | v,.w x=>v=.str (ofL x)
 | v,.l ts=>∃ a vs,v=.ref a∧H a=some (.lst vs)∧RelTs H vs ts
def RelTs (H:Hp):List V→List Tr→Prop
 | vs,[]=>vs=[]
 | vs,t :: ts=>∃ v r,vs=v :: r∧RelT H v t∧RelTs H r ts
end
mutual
theorem RelD.same {H H':Hp} (s:Same H H'):∀ {v:V} (d:D),RelD H v d→RelD H' v d
 | v,.int i,h=>h
 | v,.str x,h=>h
 | v,.tup ds,⟨a,vs,e,ha,h⟩=>⟨a,vs,e,s _ _ ha,RelDs.same s ds h⟩
theorem RelDs.same {H H':Hp} (s:Same H H'):∀ {vs:List V} (ds:List D),RelDs H vs ds→RelDs H' vs ds
 | vs,[],h=>h
 | vs,d :: ds,⟨v,r,e,h1,h2⟩=>⟨v,r,e,RelD.same s d h1,RelDs.same s ds h2⟩
end
mutual
theorem RelT.same {H H':Hp} (s:Same H H'):∀ {v:V} (t:Tr),RelT H v t→RelT H' v t
 | v,.w x,h=>h
 | v,.l ts,⟨a,vs,e,ha,h⟩=>⟨a,vs,e,s _ _ ha,RelTs.same s ts h⟩
theorem RelTs.same {H H':Hp} (s:Same H H'):∀ {vs:List V} (ts:List Tr),RelTs H vs ts→RelTs H' vs ts
 | vs,[],h=>h
 | vs,t :: ts,⟨v,r,e,h1,h2⟩=>⟨v,r,e,RelT.same s t h1,RelTs.same s ts h2⟩
end
theorem RelDs.length {H:Hp}:∀ {vs:List V} {ds:List D},RelDs H vs ds→vs.length=ds.length
 | vs,[],h=>by rw [show vs=[] from h]; rfl
 | vs,d :: ds,⟨v,r,e,_,h2⟩=>by rw [e,List.length_cons,List.length_cons,RelDs.length h2]
theorem RelTs.length {H:Hp}:∀ {vs:List V} {ds:List Tr},RelTs H vs ds→vs.length=ds.length
 | vs,[],h=>by rw [show vs=[] from h]; rfl
 | vs,d :: ds,⟨v,r,e,_,h2⟩=>by rw [e,List.length_cons,List.length_cons,RelTs.length h2]
theorem RelDs.append {H:Hp}:∀ {vs us:List V} {ds es:List D},RelDs H vs ds→RelDs H us es→RelDs H (vs++us) (ds++es)
 | vs,us,[],es,h,k=>by rw [show vs=[] from h]; exact k
 | vs,us,d :: ds,es,⟨v,r,e,h1,h2⟩,k=>by subst e; exact ⟨v,r++us,rfl,h1,RelDs.append h2 k⟩
theorem RelTs.append {H:Hp}:∀ {vs us:List V} {ds es:List Tr},RelTs H vs ds→RelTs H us es→RelTs H (vs++us) (ds++es)
 | vs,us,[],es,h,k=>by rw [show vs=[] from h]; exact k
 | vs,us,d :: ds,es,⟨v,r,e,h1,h2⟩,k=>by subst e; exact ⟨v,r++us,rfl,h1,RelTs.append h2 k⟩
theorem RelDs.get {H:Hp}:∀ {vs:List V} {ds:List D} {i:Nat} {v:V},RelDs H vs ds→vs[i]?=some v→∃ d,ds[i]?=some d∧RelD H v d
 | vs,[],i,v,h,e=>by rw [show vs=[] from h] at e; simp at e
 | vs,d :: ds,0,v,⟨u,r,e0,h1,_⟩,e=>by
  subst e0
  simp at e
  subst e
  exact ⟨d,rfl,h1⟩
 | vs,d :: ds,i + 1,v,⟨u,r,e0,_,h2⟩,e=>by
  subst e0
  obtain ⟨x,hx,hr⟩:=RelDs.get (i:=i) (v:=v) h2 (by simpa using e)
  exact ⟨x,by simpa using hx,hr⟩
theorem RelTs.get {H:Hp}:∀ {vs:List V} {ds:List Tr} {i:Nat} {v:V},RelTs H vs ds→vs[i]?=some v→∃ d,ds[i]?=some d∧RelT H v d
 | vs,[],i,v,h,e=>by rw [show vs=[] from h] at e; simp at e
 | vs,d :: ds,0,v,⟨u,r,e0,h1,_⟩,e=>by
  subst e0
  simp at e
  subst e
  exact ⟨d,rfl,h1⟩
 | vs,d :: ds,i + 1,v,⟨u,r,e0,_,h2⟩,e=>by
  subst e0
  obtain ⟨x,hx,hr⟩:=RelTs.get (i:=i) (v:=v) h2 (by simpa using e)
  exact ⟨x,by simpa using hx,hr⟩
end M
namespace M
open PySem L2
def strOf (t:Tr):Str:=ofL t.cs
def vOf (t:Tr):V:=.str (strOf t)
theorem blank_is:S " "=⟨#[32]⟩:=by decide +kernel
theorem L_txtjoin (ys:List Str):L (Txt.join (S " ") ys)=joinB (ys.map L):=by
 rw [blank_is]
 show L (Builtin.Str.glued ⟨#[32]⟩ ys)=_
 rw [StrLaws.glued_eq_join,L_join 32 ys rfl]
theorem map_strOf (ts:List Tr):(ts.map strOf).map L=ts.map Tr.cs:=by
 rw [List.map_map]
 rfl
theorem join_trees (ts:List Tr):L (Txt.join (S " ") (ts.map strOf))=(bs ts).tail:=by
 rw [L_txtjoin,map_strOf,joinB_bs]
theorem open_is:L (S "(")=[40]:=by decide +kernel
theorem shut_is:L (S ")")=[41]:=by decide +kernel
theorem bracket_text (ts:List Tr):S "("++Txt.join (S " ") (ts.map strOf)++S ")"=strOf (.l ts):=by
 apply L_inj
 rw [L_append,L_append,join_trees,open_is,shut_is]
 rfl
theorem sum_trees:∀ ts:List Tr,((ts.map strOf).map (·.length)).sum + ts.length=(bs ts).length
 | []=>rfl
 | t :: ts=>by
  have:=sum_trees ts
  show (strOf t).length + ((ts.map strOf).map (·.length)).sum + (ts.length + 1)=(32 :: (t.cs++bs ts)).length
  rw [List.length_cons,List.length_append,← this,show (strOf t).length=t.cs.length from by rw [← L_length]; rfl]
  omega
theorem bs_le (ts:List Tr):(bs ts).length ≤ (Tr.l ts).cs.length:=by
 show _ ≤ (40 :: (bs ts).tail++[41]).length
 rw [List.length_append,List.length_cons,List.length_tail]
 simp
 omega
theorem cs_l (ts:List Tr):(Tr.l ts).cs.length=(bs ts).tail.length + 2:=by
 show (40 :: (bs ts).tail++[41]).length=_
 simp
theorem strOf_len (t:Tr):(strOf t).length=t.cs.length:=by
 rw [← L_length]
 rfl
theorem strOf_tx (x:Str):strOf (tx x)=x:=ofL_L x
theorem iteKF {c A B:Prop} [Decidable c] (h:decide c=false) (b:B):if decide c=true then A else B:=by
 rw [h]
 exact b
theorem iteKT {c A B:Prop} [Decidable c] (h:decide c=true) (a:A):if decide c=true then A else B:=by
 rw [h]
 exact a
theorem iteBF {c:Bool} {A B:Prop} (h:c=false) (b:B):if c=true then A else B:=by
 rw [h]
 exact b
theorem iteBT {c:Bool} {A B:Prop} (h:c=true) (a:A):if c=true then A else B:=by
 rw [h]
 exact a
theorem pow7 {n:Nat} (h:n ≤ 7):5 ^ n ≤ 78125:=Nat.le_trans (Nat.pow_le_pow_right (by decide) h) (by decide)
theorem T2.short {n:Nat} {d:D} {t:Tr} (h:T2 n d t) (hn:n ≤ 7):t.cs.length ≤ 2400000:=by
 have:=h.len
 have:=pow7 hn
 omega
end M
end
section
namespace M
open PySem L2
def hide (bad:List Addr) (H:Hp):Hp:=fun b=>if b∈bad then none else H b
theorem hide_get {bad:List Addr} {H:Hp} {b:Addr} {o:HO}:hide bad H b=some o ↔ b ∉ bad∧H b=some o:=by
 unfold hide
 by_cases h:b∈bad
 ·rw [if_pos h]; simp [h]
 ·rw [if_neg h]; simp [h]
structure PileAt (H:Hp) (p:Addr) (as:List Addr) (st:Pile):Prop where
 pile:H p=some (.lst (as.map V.ref).reverse)
 nd:as.Nodup
 np:p ∉ as
 lists:All2 (fun a ts=>∃ vs,H a=some (.lst vs)∧RelTs (hide (p :: as) H) vs ts) as st
def sumP (st:Pile):Nat:=(st.map List.length).sum
theorem PileAt.len {H:Hp} {p:Addr} {as:List Addr} {st:Pile} (h:PileAt H p as st):as.length=st.length:=h.lists.length
theorem All2.mono_mem {α β:Type} {R S:α→β→Prop} {as:List α} {bs:List β} (h:All2 R as bs) (f:∀ a b,a∈as→R a b→S a b):All2 S as bs:=by
 induction h with
 | nil=>exact .nil
 | cons h t ih=>exact .cons (f _ _ List.mem_cons_self h) (ih fun a b ha=>f a b (List.mem_cons_of_mem _ ha))
theorem hide_other {bad:List Addr} {H:Hp} {a:Addr} {o:HO} (ha:a∈bad):hide bad (upd H a o)=hide bad H:=by
 funext b
 unfold hide
 by_cases h:b∈bad
 ·rw [if_pos h,if_pos h]
 ·rw [if_neg h,if_neg h,upd_ne (fun (e:b=a)=>h (e ▸ ha))]
theorem PileAt.push {H:Hp} {p a:Addr} {as:List Addr} {top:List Tr} {st:Pile} {vs:List V} {v:V} {t:Tr} (h:PileAt H p (a :: as) (top :: st)) (ha:H a=some (.lst vs)) (hv:RelT (hide (p :: a :: as) H) v t) :
  PileAt (upd H a (.lst (vs++[v]))) p (a :: as) ((top++[t]) :: st) where
 pile:=by rw [upd_ne (fun e=>h.np (by rw [e]; exact List.mem_cons_self))]; exact h.pile
 nd:=h.nd
 np:=h.np
 lists:=by
  have hh:hide (p :: a :: as) (upd H a (.lst (vs++[v])))=hide (p :: a :: as) H:=hide_other (by simp)
  rw [hh]
  cases h.lists with
  | cons h1 h2=>
   obtain ⟨vs',e,r⟩:=h1
   rw [ha] at e
   cases e
   refine .cons ⟨_,upd_same,r.append ⟨v,[],rfl,hv,rfl⟩⟩ (h2.mono_mem fun b ts hb ⟨us,e,r⟩=>⟨us,?_,r⟩)
   rw [upd_ne (fun (e:b=a)=>(List.nodup_cons.mp h.nd).1 (e ▸ hb))]
   exact e
theorem PileAt.push_same {H:Hp} {p a:Addr} {as:List Addr} {o:HO}:Same (hide (p :: a :: as) H) (hide (p :: a :: as) (upd H a o)):=by
 rw [hide_other (by simp)]
 exact Same.refl _
theorem PileAt.opens {H:Hp} {p n:Addr} {as:List Addr} {st:Pile} (h:PileAt H p as st) (hn:H n=none) :
  PileAt (upd (upd H n (.lst [])) p (.lst ((as.map V.ref).reverse++[.ref n]))) p (n :: as) ([] :: st)∧Same (hide (p :: as) H) (hide (p :: n :: as) (upd (upd H n (.lst [])) p (.lst ((as.map V.ref).reverse++[.ref n])))):=by
 have pn:p≠n:=fun e=>by have:=h.pile; rw [e,hn] at this; cases this
 have na:n ∉ as:=fun hm=>by
  obtain ⟨i,hi⟩:=List.getElem?_of_mem hm
  obtain ⟨ts,_,vs,e,_⟩:=h.lists.get hi
  rw [hn] at e; cases e
 have sm:Same (hide (p :: as) H) (hide (p :: n :: as) (upd (upd H n (.lst [])) p (.lst ((as.map V.ref).reverse++[.ref n])))):=fun b o e=>by
  obtain ⟨hb,e⟩:=hide_get.mp e
  have b1:b≠p:=fun q=>hb (by rw [q]; exact List.mem_cons_self)
  have b2:b≠n:=fun q=>by rw [q,hn] at e; cases e
  refine hide_get.mpr ⟨fun hm=>?_,by rw [upd_ne b1,upd_ne b2]; exact e⟩
  rcases List.mem_cons.mp hm with q | hm
  ·exact b1 q
  ·rcases List.mem_cons.mp hm with q | hm
   ·exact b2 q
   ·exact hb (List.mem_cons_of_mem _ hm)
 refine ⟨⟨by rw [upd_same]; simp,List.nodup_cons.mpr ⟨na,h.nd⟩,fun hm=>?_,.cons ⟨[],?_,rfl⟩ (h.lists.mono_mem fun b ts hb ⟨us,e,r⟩=>⟨us,?_,r.same sm _⟩)⟩,sm⟩
 ·rcases List.mem_cons.mp hm with q | hm
  ·exact pn q
  ·exact h.np hm
 ·rw [upd_ne pn.symm,upd_same]
 ·rw [upd_ne (fun (q:b=p)=>h.np (q ▸ hb)),upd_ne (fun (q:b=n)=>na (q ▸ hb))]
  exact e
theorem PileAt.shuts {H:Hp} {p a b:Addr} {as:List Addr} {top par:List Tr} {st:Pile} {vs:List V} (h:PileAt H p (a :: b :: as) (top :: par :: st)) (hb:H b=some (.lst vs)) :
  PileAt (upd (upd H p (.lst ((b :: as).map V.ref).reverse)) b (.lst (vs++[.ref a]))) p (b :: as) ((par++[.l top]) :: st) ∧
  Same (hide (p :: a :: b :: as) H) (hide (p :: b :: as) (upd (upd H p (.lst ((b :: as).map V.ref).reverse)) b (.lst (vs++[.ref a])))):=by
 have pb:b≠p:=fun e=>h.np (by rw [← e]; simp)
 have pa:a≠p:=fun e=>h.np (by rw [← e]; simp)
 have ab:a≠b:=fun e=>(List.nodup_cons.mp h.nd).1 (by rw [e]; simp)
 have sm:Same (hide (p :: a :: b :: as) H) (hide (p :: b :: as) (upd (upd H p (.lst ((b :: as).map V.ref).reverse)) b (.lst (vs++[.ref a])))):=fun c o e=>by
  obtain ⟨hc,e⟩:=hide_get.mp e
  refine hide_get.mpr ⟨fun hm=>hc ?_,?_⟩
  ·rcases List.mem_cons.mp hm with q | hm
   ·rw [q]; simp
   ·exact List.mem_cons_of_mem _ (List.mem_cons_of_mem _ hm)
  ·rw [upd_ne (fun q=>hc (by rw [q]; simp)),upd_ne (fun q=>hc (by rw [q]; simp))]
   exact e
 cases h.lists with
 | cons h1 h2=>
  cases h2 with
  | cons h2 h3=>
   obtain ⟨us,ea,ra⟩:=h1
   obtain ⟨vs',eb,rb⟩:=h2
   rw [hb] at eb
   cases eb
   have nd2:=List.nodup_cons.mp h.nd
   have nd3:=List.nodup_cons.mp nd2.2
   refine ⟨⟨by rw [upd_ne pb.symm,upd_same],nd2.2,fun hm=>h.np (List.mem_cons_of_mem _ hm),.cons ⟨_,upd_same,?_⟩ (h3.mono_mem fun c ts hc ⟨ws,e,r⟩=>⟨ws,?_,r.same sm _⟩)⟩,sm⟩
   ·refine (rb.same sm _).append ⟨.ref a,[],rfl,⟨a,us,rfl,?_,ra.same sm _⟩,rfl⟩
    refine hide_get.mpr ⟨fun hm=>?_,by rw [upd_ne ab,upd_ne pa]; exact ea⟩
    rcases List.mem_cons.mp hm with q | hm
    ·exact pa q
    ·exact nd2.1 hm
   ·rw [upd_ne (fun (q:c=b)=>nd3.1 (q ▸ hc)),upd_ne (fun q=>h.np (by rw [← q]; exact List.mem_cons_of_mem _ (List.mem_cons_of_mem _ hc)))]
    exact e
theorem sum_close:∀ (k:Nat) (st:Pile),(∀ top r,st=top :: r→1 ≤ top.length)→sumP (close k st) ≤ sumP st
 | 0,st,_=>Nat.le_refl _
 | k + 1,[],_=>Nat.le_refl _
 | k + 1,[x],_=>Nat.le_refl _
 | k + 1,top :: par :: st,h=>by
  have:=sum_close k ((par++[.l top]) :: st) fun t r e=>by cases e; simp
  have h1:=h top (par :: st) rfl
  show sumP (close k ((par++[.l top]) :: st)) ≤ _
  refine Nat.le_trans this ?_
  simp [sumP]
  omega
theorem sum_closeN {k:Nat} {st st':Pile} (h:closeN k st=some st') (ht:∀ top r,st=top :: r→1 ≤ top.length):sumP st' ≤ sumP st:=by
 unfold closeN at h
 split at h
 ·cases h; exact sum_close k st ht
 ·cases h
theorem sum_push (t:Tr) (st:Pile):sumP (push t st) ≤ sumP st + 1:=by
 cases st with
 | nil=>simp [push,sumP]
 | cons top r=>simp [push,sumP]; omega
theorem push_ne (t:Tr) (st:Pile):∀ top r,push t st=top :: r→1 ≤ top.length:=by
 intro top r e
 cases st with
 | nil=>cases e
 | cons a b=>cases e; simp
theorem sum_put {x:List Nat} {st st':Pile} (h:putW x st=some st'):sumP st' ≤ sumP st + 1:=by
 unfold putW putC at h
 split at h
 ·split at h
  ·have:=sum_closeN h (push_ne _ _)
   have h2:=sum_push (.w (coreOf x).tail) ([] :: st)
   have h3:sumP ([] :: st)=sumP st:=by simp [sumP]
   omega
  ·cases h
 ·have:=sum_closeN h (push_ne _ _)
  have h2:=sum_push (.w (coreOf x)) st
  omega
theorem len_closeN {k:Nat} {st st':Pile} (h:closeN k st=some st'):st'.length + k=st.length:=by
 unfold closeN at h
 split at h
 ·cases h; exact close_length k st (by assumption)
 ·cases h
theorem len_put {x:List Nat} {st st':Pile} (h:putW x st=some st') (h1:1 ≤ st.length) (h2:st.length ≤ 21):1 ≤ st'.length∧st'.length ≤ 21:=by
 unfold putW putC at h
 split at h
 ·split at h
  ·rename_i hl
   have:=len_closeN h
   rw [push_length,List.length_cons] at this
   unfold closeN at h
   split at h
   ·rename_i hk
    rw [push_length,List.length_cons] at hk
    omega
   ·cases h
  ·cases h
 ·have:=len_closeN h
  rw [push_length] at this
  unfold closeN at h
  split at h
  ·rename_i hk
   rw [push_length] at hk
   omega
  ·cases h
theorem top_le {top:List Tr} {st:Pile}:top.length ≤ sumP (top :: st):=by simp [sumP]
theorem runW_snoc (a:List (List Nat)) (x:List Nat) (st:Pile):runW (a++[x]) st=(runW a st).bind (putW x):=by
 rw [runW_append]
 congr 1
 funext s
 show (putW x s).bind (runW [])=putW x s
 cases putW x s <;> rfl
theorem Txt_split_len (x:Str):(Txt.split x (S " ")).length ≤ x.length + 2:=by
 unfold Txt.split
 split
 ·simp
 ·split
  ·simp
  ·rw [StrLaws.partsBetween_eq,parts_len]
   have:=StrLaws.occ_length_le_len x (S " ") 0 x.length (x.length + 1)
   omega
theorem joinB_len:∀ {ws:List (List Nat)} {z:List Nat},z∈ws→z.length ≤ (joinB ws).length
 | [x],z,h=>by
  rw [List.mem_singleton.mp h]
  exact Nat.le_refl _
 | x :: y :: r,z,h=>by
  show z.length ≤ (x++32 :: joinB (y :: r)).length
  rw [List.length_append,List.length_cons]
  rcases List.mem_cons.mp h with e | h
  ·rw [e]; omega
  ·have:=joinB_len (ws:=y :: r) h
   omega
theorem Txt_split_part (x y:Str) (h:y∈Txt.split x (S " ")):y.length ≤ x.length:=by
 have e:joinB ((Txt.split x (S " ")).map L)=L x:=by
  rw [blank_is,← L_join 32 _ rfl,StrLaws.join_split]
 have:=joinB_len (ws:=(Txt.split x (S " ")).map L) (z:=L y) (List.mem_map.mpr ⟨y,h,rfl⟩)
 rw [e,L_length,L_length] at this
 exact this
end M
end
section
namespace M
open PySem L2
mutual
theorem RelD.tups {H H':Hp} (s:∀ b vs,H b=some (.tup vs)→H' b=some (.tup vs)):∀ {v:V} (d:D),RelD H v d→RelD H' v d
 | v,.int i,h=>h
 | v,.str x,h=>h
 | v,.tup ds,⟨a,vs,e,ha,h⟩=>⟨a,vs,e,s _ _ ha,RelDs.tups s ds h⟩
theorem RelDs.tups {H H':Hp} (s:∀ b vs,H b=some (.tup vs)→H' b=some (.tup vs)):∀ {vs:List V} (ds:List D),RelDs H vs ds→RelDs H' vs ds
 | vs,[],h=>h
 | vs,d :: ds,⟨v,r,e,h1,h2⟩=>⟨v,r,e,RelD.tups s d h1,RelDs.tups s ds h2⟩
end
structure Src (H:Hp) (a b:Addr):Prop where
 ne:a≠b
 feed:∃ p q:Int,H a=some (.lst [.int p,.int q])
 pool:∃ ys:List Str,H b=some (.lst (ys.map V.str))∧ys.length=8∧∀ y∈ys,Name y
theorem fed_tups {a:Addr} {H H':Hp} (hf:∃ p q:Int,H a=some (.lst [.int p,.int q])) (f:Fed a H H'):∀ b vs,H b=some (.tup vs)→H' b=some (.tup vs):=fun b vs e=>f.1 b _ e fun z=>by
 obtain ⟨p,q,h⟩:=hf
 rw [z,h] at e
 cases e
theorem Src.fed {H H':Hp} {a b:Addr} (s:Src H a b) (f:Fed a H H'):Src H' a b:=by
 obtain ⟨ys,e,h⟩:=s.pool
 exact ⟨s.ne,f.2,ys,f.1 b _ e s.ne.symm,h⟩
theorem Src.same {H H':Hp} {a b:Addr} (s:Src H a b) (f:Same H H'):Src H' a b:=by
 obtain ⟨ys,e,h⟩:=s.pool
 obtain ⟨p,q,e2⟩:=s.feed
 exact ⟨s.ne,⟨p,q,f _ _ e2⟩,ys,f _ _ e,h⟩
theorem Src.relD {H H':Hp} {a b:Addr} (s:Src H a b) (f:Fed a H H') {v:V} {d:D} (h:RelD H v d):RelD H' v d:=h.tups (fed_tups s.feed f) _
theorem Src.relDs {H H':Hp} {a b:Addr} (s:Src H a b) (f:Fed a H H') {v:List V} {d:List D} (h:RelDs H v d):RelDs H' v d:=h.tups (fed_tups s.feed f) _
theorem Src.refl {H:Hp} {a b:Addr} (s:Src H a b):Fed a H H:=by
 obtain ⟨p,q,e⟩:=s.feed
 exact Fed.refl e
def single (c:Nat):Str:=⟨#[c]⟩
theorem join_singles:∀ cs:List Nat,Txt.join (S "") (cs.map single)=ofL cs:=by
 have h:∀ cs:List Nat,L (Str.join (S "") (cs.map single))=cs:=by
  intro cs
  induction cs with
  | nil=>rfl
  | cons c r ih=>
   cases r with
   | nil=>rfl
   | cons d r=>
    show L (single c++S ""++Str.join (S "") ((d :: r).map single))=_
    rw [L_append,L_append,ih]
    have e:L (S "")=[]:=by decide +kernel
    rw [e]
    rfl
 intro cs
 apply L_inj
 show L (Builtin.Str.glued (S "") (cs.map single))=cs
 rw [StrLaws.glued_eq_join,h]
theorem sum_singles (cs:List Nat):((cs.map single).map (·.length)).sum=cs.length:=by
 induction cs with
 | nil=>rfl
 | cons c r ih=>
  show (single c).length + ((r.map single).map (·.length)).sum=r.length + 1
  rw [ih,show (single c).length=1 from rfl]
  omega
abbrev nA:List Str:=[Str.ofString "rec",Str.ofString "alt",Str.ofString "hand",Str.ofString "box",Str.ofString "set",Str.ofString "send",Str.ofString "take",Str.ofString "tell",Str.ofString "go",Str.ofString "if",Str.ofString "end",Str.ofString "get",Str.ofString "tag",Str.ofString "case"]
abbrev nB:List Str:=[Str.ofString "numx",Str.ofString "recq",Str.ofString "takes",Str.ofString "iff",Str.ofString "itq",Str.ofString "goes",Str.ofString "sends",Str.ofString "tags",Str.ofString "ends",Str.ofString "gets",Str.ofString "way",Str.ofString "with"]
theorem names26_all:∀ y∈nA++nB,nameL (L y)=true:=by decide +kernel
theorem name_drawn {cs:List Nat} (h1:1 ≤ cs.length) (h6:cs.length ≤ 6) (hl:∀ c∈cs,isLetter c=true) (n1:ofL cs≠S "num") (n2:ofL cs≠S "it"):Name (ofL cs):=by
 show nameL cs=true
 unfold nameL
 have e1:(cs != [110,117,109])=true:=by
  rw [bne_iff_ne]
  intro e
  apply n1
  rw [e]
  decide +kernel
 have e2:(cs != [105,116])=true:=by
  rw [bne_iff_ne]
  intro e
  apply n2
  rw [e]
  decide +kernel
 rw [e1,e2,decide_eq_true h1,decide_eq_true h6,List.all_eq_true.mpr hl]
 rfl
theorem letter_at {r:Int} {c:Nat} (h:atI (S "abcdefghijklmnopqrstuvwxyz").cps.toList r=some c):isLetter c=true:=by
 obtain ⟨j,_,e,_⟩:=atI_get h
 have hm:=List.mem_of_getElem? e
 have all:∀ c∈(S "abcdefghijklmnopqrstuvwxyz").cps.toList,isLetter c=true:=by decide +kernel
 exact all c hm
theorem at_codes {α:Type} {cs:List α} {r:Int} (h0:0 ≤ r) (h:r < (cs.length:Int)):∃ c∈cs,atI cs r=some c:=by
 have hk:r.toNat < cs.length:=by omega
 have ek:r=((r.toNat:Nat):Int):=by omega
 refine ⟨cs[r.toNat],List.getElem_mem hk,?_⟩
 have q:atI cs ((r.toNat:Nat):Int)=some cs[r.toNat]:=atI_nat (List.getElem?_eq_getElem hk)
 rw [← ek] at q
 exact q
theorem at26 {r:Int} (h0:0 ≤ r) (h:r < 26):∃ y∈nA++nB,atI (nA.map V.str++nB.map V.str) r=some (.str y):=by
 have e:nA.map V.str++nB.map V.str=(nA++nB).map V.str:=List.map_append.symm
 obtain ⟨z,hz,hv⟩:=at_codes (cs:=(nA++nB).map V.str) h0 (by rw [List.length_map]; exact h)
 obtain ⟨y,hy,rfl⟩:=List.mem_map.mp hz
 exact ⟨y,hy,by rw [e]; exact hv⟩
end M
end
section
set_option maxHeartbeats 1000000
namespace L2
open PySem PySem.Spec PyProof.Rows
section
variable {X:Cx}
end
open PySem.W in
def ad (K:Frag) (x:Str):Addr:=match nsIn K mainGlobals x with | some (some (.ref C))=>C | _=>0
theorem ad_of {K:PySem.W.Frag} {x:Str} {C:Addr} (e:PySem.W.nsIn K mainGlobals x=some (some (.ref C))):ad K x=C:=by unfold ad; rw [e]
def names11:List Str:=["BadText","Twice","NoName","NoCount","WrongKind","Lacks","NotOwn","Falls","TooBig","NoFit","NoCode"]
def cAt (K:PySem.W.Frag) (i:Nat):Addr:=ad K (names11.getD i "")
open PySem.W in
def xclIn (K:Frag) (C:Addr):Bool:=
 findIn K (.ref C) "__getattribute__" == some (some (.builtin "BaseException.__getattribute__")) && (findIn K (.ref C) "__getattr__" == some none && (mroIn K C (.type "BaseException") == some true && (mroIn K C (.type "object") == some true &&
 (hasDictIn K C && (findIn K (.ref C) "__class__" == some (some (.builtin "object.__class__")) && (specialIn K (.builtin "object.__class__") "__get__" == some (some (.builtin "getset_descriptor.__get__")) && (takesIn K (.builtin "object.__class__") == some true &&
 (xIn K C bmV "ValueError.__new__" && (keepIn K (.ref C) && findIn K (.ref C) "__setattr__" == some (some (.builtin "object.__setattr__")))))))))))
theorem xcl_of {K:PySem.W.Frag} {C:Addr} (e:xclIn K C=true):XCl K C:=by
 unfold xclIn at e
 simp only [Bool.and_eq_true,beq_iff_eq] at e
 obtain ⟨e1,e2,e3,e4,e5,e6,e7,e8,e9,e10,e11⟩:=e
 exact ⟨⟨e1,e2,e3,e4,e5,e6,e7,e8⟩,e9,e10,e11⟩
open PySem.W in
def xTable (K:Frag):Bool:=
 (List.range 11).all (fun i=>xclIn K (cAt K i)) && ((List.range 11).all (fun i=>i == 0 || findIn K (.ref (cAt K i)) "__init__" == some (some (.builtin "ValueError.__init__"))) &&
 ((List.range 11).all (fun i=>(List.range 11).all fun j=>kitOne K (.ref (cAt K i)) (.ref (cAt K j)) == some (decide (i=j))) &&
 ((List.range 11).all (fun i=>kitOne K (.ref (cAt K i)) (.ref (ad K "SwapError")) == some true && kitOne K (.ref (cAt K i)) (.type "ValueError") == some true) &&
 (readsIn K (ad K "SwapError") (.type "type") && (specialIn K (.ref (ad K "SwapError")) "__getattribute__" == some (some (.builtin "type.__getattribute__")) &&
 ((match findCls K (.ref (ad K "SwapError")) (.type "type") "__init__" with | some (.val v)=>v == .builtin "ValueError.__init__" | _=>false) &&
 (findIn K (.ref (cAt K 0)) "at" == some none)))))))
structure XTab (K:PySem.W.Frag):Prop where
 cl:∀ i,i < 11→XCl K (cAt K i)
 ini:∀ i,i < 11→i≠0→PySem.W.findIn K (.ref (cAt K i)) "__init__"=some (some (.builtin "ValueError.__init__"))
 kit:∀ i j,i < 11→j < 11→PySem.W.kitOne K (.ref (cAt K i)) (.ref (cAt K j))=some (decide (i=j))
 kS:∀ i,i < 11→PySem.W.kitOne K (.ref (cAt K i)) (.ref (ad K "SwapError"))=some true
 kV:∀ i,i < 11→PySem.W.kitOne K (.ref (cAt K i)) (.type "ValueError")=some true
 sup:XSup K (ad K "SwapError")
 na:NoAttr K (cAt K 0) "at"
theorem xtab_of {K:PySem.W.Frag} (e:xTable K=true):XTab K:=by
 unfold xTable at e
 simp only [Bool.and_eq_true,List.all_eq_true,List.mem_range,beq_iff_eq,Bool.or_eq_true] at e
 obtain ⟨e1,e2,e3,e4,e5,e6,e7,e9⟩:=e
 refine ⟨fun i h=>xcl_of (e1 i h),fun i h n=>(e2 i h).resolve_left n,fun i j h h'=>e3 i h j h',fun i h=>(e4 i h).1,fun i h=>(e4 i h).2,⟨e5,e6,?_⟩,e9⟩
 split at e7
 ·rename_i v q
  rw [q,beq_iff_eq.mp e7]
 ·cases e7
def clsDef (s:Stmt) (j:Nat):Stmt:=match s with
 | .ClassDef _ _ _ b _ _ _ _ _ _ _=>b.getD j (.Pass ⟨0,0,0,0⟩)
 | _=>.Pass ⟨0,0,0,0⟩
structure InitTx (K:PySem.W.Frag) (q:Str) (C:Addr) (st:Stmt) (ps:List Str):Prop where
 ex:∃ (f:Addr) (fd:FuncData),PySem.W.findIn K (.ref C) "__init__"=some (some (.ref f))∧PySem.W.isFn K (.ref f)=true∧Fun K "__init__" q st f fd∧∀ us:List Value,us.length=ps.length→bindArgs fd ⟨us,[]⟩=pure (ps.zip us)
theorem init_mk {K:PySem.W.Frag} {x q:Str} {C f:Addr} {st:Stmt} {ps:List Str} {oc:Value} {od an:Option Addr} {osl:Array (Option Value)} {kV doc pm cdv ct:Value} (a:PySem.W.nsIn K mainGlobals x=some (some (.ref C)))
  (i:PySem.W.findIn K (.ref C) "__init__"=some (some (.ref f))) (n:PySem.W.isFn K (.ref f)=true)
  (l:K.lookup f=some ⟨oc,od,.func (PySem.W.fnOf "__init__" q (defArgs st) (defBody st) (defScope st) .none kV doc pm an cdv ct),osl⟩) (c:PySem.W.codeIn K cdv q=true) (k:PySem.W.keepIn K (.ref f)=true)
  (b:∀ (kV doc pm:Value) (an:Option Addr) (cdv ct:Value) (us:List Value),us.length=ps.length→bindArgs (PySem.W.fnOf "__init__" q (defArgs st) (defBody st) (defScope st) .none kV doc pm an cdv ct) ⟨us,[]⟩=pure (ps.zip us)):InitTx K q (ad K x) st ps:=by
 rw [ad_of a]
 exact ⟨f,_,i,n,fun_mk (st:=st) l c k,b kV doc pm an cdv ct⟩
structure InitIs (P:Program) (w:World) (K:PySem.W.Frag) (mg:Str→Option Value) (base:Heap) (n:Nat) (C:Addr) (ps:List Str) (sp:Sp):Prop where
 ex:∃ (f:Addr) (fd:FuncData),PySem.W.findIn K (.ref C) "__init__"=some (some (.ref f))∧PySem.W.isFn K (.ref f)=true∧FnOk P w K mg base CX0 n f fd ps sp∧Binds K fd ps []
theorem InitIs.of {P:Program} {w:World} {K:PySem.W.Frag} {mg:Str→Option Value} {base:Heap} {n:Nat} {q:Str} {C:Addr} {st:Stmt} {ps N:List Str} {sp:Sp} (T:InitTx K q C st ps) (S:FnScope N ps (defScope st)) (len:∀ vs H Q E,sp vs H Q E→vs.length=ps.length)
  (hbody:∀ (f:Addr) (cdv:Value) (A:Around) (outer:List Env) (s:Shared) (H:Hp) (vs:List V) (Q:VK) (E:XK),Room n (A.deeper (envOfC q (defScope st) s.heap.objs.size f cdv))→sp vs H Q E →
   ∃ t,PSs (cxOf CX0 P w K mg base N q (defScope st) f cdv A outer s H E).nox (defBody st) t∧t { nx:=fun _ H'=>Q .non H',rt:=Q } (start N vs) H):InitIs P w K mg base (n + 1) C ps sp:=by
 obtain ⟨f,fd,i,nn,F,b⟩:=T.ex
 exact ⟨f,fd,i,nn,F.ok S len (fun cdv A outer s H vs Q E hr h=>hbody f cdv A outer s H vs Q E hr h),Binds.all b⟩
section
variable {X:Cx} {n:Nat} {x:Str} {C:Addr} {ps:List Str} {sp:Sp} {e:Expr} {es:List Expr} {p pos:Pos} {t:TA}
theorem pe_dexc (D:InitIs X.prog X.w X.K X.mg X.base n C ps sp) (M:XCl X.K C) (hr:Room (n + 1) X.A) (hm:X.mg x=some (.ref C)) (ha:PA X (e :: es) t) (hg:Gl X x:=by rfl) (hdb:(x == ("__debug__":Str))=false:=by decide)
  (he:starEach (e :: es) X.env=(false,eval e X.env) :: starEach es X.env:=by rfl) (hpl:(backTo pos (starEach es X.env)).any (·.1)=false:=by rfl):PE X (.Call (.Name x p) (e :: es) [] pos) (tExcI C sp E0 t):=by
 obtain ⟨f,fd,i,nn,F,b⟩:=D.ex
 exact pe_excI M i nn F hr b pass0 hg hm ha hdb he hpl
end
end L2
end
section
set_option maxHeartbeats 1000000
namespace L2
open PySem PySem.Spec PyProof.Rows
def Trc (h:Heap) (e C:Addr) (d:Option Addr) (c2:Value) (T:Option Addr) (fl:Value):Prop:=
 ∃ vs:Array Value,(vs.size=6∧vs[2]?=some c2)∧h.get? e=some { cls:=.ref C,dict:=d,data:=.fields vs } ∧
  match T with
  | none=>vs[1]?=some .none
  | some T=>vs[1]?=some (.ref T)∧T≠e∧∃ oT ts,h.get? T=some oT∧oT.data=.fields ts∧ts[3]?=some fl
structure FlyTo (fs:List Addr) (e:Addr) (T:Option Addr) (h h':Heap):Prop where
 keep:∀ b o,b ∉ fs→b≠e→T≠some b→h.get? b=some o→h'.get? b=some o
 slot:∀ b o,b∈fs→b≠e→T≠some b→h.get? b=some o→∃ sl,h'.get? b=some { o with slots:=sl }
 size:h.objs.size ≤ h'.objs.size
theorem FlyTo.refl {fs:List Addr} {e:Addr} {T:Option Addr} {h:Heap}:FlyTo fs e T h h:=⟨fun _ _ _ _ _ q=>q,fun _ o _ _ _ q=>⟨o.slots,q⟩,Nat.le_refl _⟩
theorem FlyTo.trans {fs:List Addr} {e T':Addr} {T:Option Addr} {h h1 h2:Heap} (a:FlyTo fs e T h h1) (b:FlyTo fs e (some T') h1 h2) (t:T=some T'∨h.objs.size ≤ T'):FlyTo fs e T h h2:=by
 have nt:∀ c o,T≠some c→h.get? c=some o→(some T':Option Addr)≠some c:=fun c o n q z=>by
  have z':T'=c:=Option.some.inj z
  rcases t with t | t
  ·exact n (by rw [t,z'])
  ·exact absurd (Heap.lt_size q) (Nat.not_lt.mpr (by rw [← z']; exact t))
 refine ⟨fun c o n1 n2 n3 q=>b.keep c o n1 n2 (nt c o n3 q) (a.keep c o n1 n2 n3 q),fun c o n1 n2 n3 q=>?_,Nat.le_trans a.size b.size⟩
 obtain ⟨sl,q1⟩:=a.slot c o n1 n2 n3 q
 obtain ⟨sl',q2⟩:=b.slot c _ n1 n2 (nt c o n3 q) q1
 exact ⟨sl',q2⟩
section
variable {M:Model} {A:Around} {E:Value→Shared→Prop} {s:Shared} {c2:Value}
theorem fly_flight {fs:List Addr} {e C T:Addr} {d fr:Option Addr} {fl:Value} {Q:Unit→Shared→Prop} (t:Trc s.heap e C d c2 (some T) fl)
  (h:∀ h',FlyTo fs e (some T) s.heap h'→Trc h' e C d c2 (some T) (fr.elim .none fun f=>rawInt f)→Q () { s with heap:=h' }):wpAny M A (setFlight (.ref e) fr) Q E s:=by
 obtain ⟨vs,hz,he,h1,hTe,oT,ts,hT,hdT,h3⟩:=t
 have h1:vs[1]?=some (.ref T):=h1
 have other:∀ b,b≠T→(s.heap.update T (Obj.mapFields (·.setIfInBounds 3 (fr.elim Value.none fun f=>rawInt f)))).get? b=s.heap.get? b:=fun b hb=>Heap.get?_update_other _ _ (Ne.symm hb)
 unfold setFlight
 refine wpAny_bind (wpAny_field he rfl h1 ?_)
 rw [if_pos (show (Value.ref T != Value.none)=true from by simp)]
 have h3s:3 < ts.size:=(Array.getElem?_eq_some_iff.mp h3).1
 refine wpAny_setField hT hdT h3s (h _ ⟨fun b o _ _ n q=>(other b fun z=>n (by rw [z])).trans q,fun b o _ _ n q=>⟨o.slots,(other b fun z=>n (by rw [z])).trans q⟩,?_⟩ ?_)
 ·rw [Heap.size_after_update]; exact Nat.le_refl _
 ·exact ⟨vs,hz,(other e (Ne.symm hTe)).trans he,h1,hTe,_,_,Heap.get?_update_self _ hT (Obj.isFreed_of_fields (Obj.data_mapFields hdT _)),Obj.data_mapFields hdT _,by simp [h3s]⟩
theorem fly_new {base:Heap} {env:Env} {outer:List Env} {L e C:Addr} {d:Option Addr} {vs:Array Value} {head:Value} {hadNext:Bool} {Q:Unit→Shared→Prop}
  (hfr:A.frames=some (env :: outer)) (hl:s.heap.FunFrames base (env :: outer)) (hf:env.frame=some L)
  (he:s.heap.get? e=some { cls:=.ref C,dict:=d,data:=.fields vs }) (hz:vs.size=6∧vs[2]?=some c2)
  (h:∀ h',FlyTo (frs (env :: outer)) e none s.heap h'→Trc h' e C d c2 (some s.heap.objs.size) (rawInt L)→Q () { s with heap:=h' }) :
  wpAny M A (do let a ← frameOf env; let pl ← entryPlaceOf L hadNext; let b ← EntryCells.newEntry head a .none (rawInt L) .none pl; setField (.ref e) 1 b) Q E s:=by
 have hene:e ∉ frs (env :: outer):=fun hm=>by
  obtain ⟨_,o,ho,hnf⟩:=hl.mem hm
  rw [he] at ho; injection ho with ho; subst ho; exact hnf vs rfl
 refine wpAny_bind (wpAny_frameOf_fun hfr hl hf fun h₁ hs₁=>?_)
 refine wpAny_bind (wpAny_entryPlaceOf fun pl hpl=>?_)
 unfold EntryCells.newEntry newFields
 refine wpAny_bind (wpAny_newObj_type ?_ (hpl.sizeOk5 _ _ _ _ _))
 have he₁:h₁.get? e=some { cls:=.ref C,dict:=d,data:=.fields vs }:=(hs₁.2.1 e hene).trans he
 have hz₁:h₁.objs.size=s.heap.objs.size:=hs₁.1
 have he₂:=Heap.get?_push_of_some (h:=h₁) { cls:=.type "traceback",dict:=none,data:=.fields ([head,.ref L,.none,rawInt L,.none]++(if pl.isEmpty then List.replicate 6 Value.none else pl)).toArray } he₁
 refine wpAny_setField he₂ rfl (by rw [hz.1]; decide) ?_
 have hTe:h₁.objs.size≠e:=Nat.ne_of_gt (Heap.lt_size he₁)
 have he₃:=Heap.get?_update_self (Obj.mapFields (·.setIfInBounds 1 (Value.ref h₁.objs.size))) he₂ rfl
 have hT₃:=(Heap.get?_update_other (h₁.push { cls:=.type "traceback",dict:=none,data:=.fields ([head,.ref L,.none,rawInt L,.none]++(if pl.isEmpty then List.replicate 6 Value.none else pl)).toArray })
  (Obj.mapFields (·.setIfInBounds 1 (Value.ref h₁.objs.size))) (Ne.symm hTe)).trans (Heap.get?_push_size h₁ rfl)
 have keep:∀ b o,b≠e→h₁.get? b=some o →
   ((h₁.push { cls:=.type "traceback",dict:=none,data:=.fields ([head,.ref L,.none,rawInt L,.none]++(if pl.isEmpty then List.replicate 6 Value.none else pl)).toArray }).update e (Obj.mapFields (·.setIfInBounds 1 (Value.ref h₁.objs.size)))).get? b=some o:=fun b o hbe hb=>by
  rw [Heap.get?_update_other _ _ (Ne.symm hbe)]
  exact Heap.get?_push_of_some _ hb
 refine h _ ⟨fun b o hb n _ q=>keep b o n ((hs₁.2.1 b hb).trans q),fun b o hb n _ q=>?_,?_⟩ ?_
 ·obtain ⟨sl,hs⟩:=hs₁.2.2 b o q
  exact ⟨sl,keep b _ n hs⟩
 ·rw [Heap.size_after_update,Heap.size_push,hz₁]; exact Nat.le_succ _
 ·refine ⟨vs.setIfInBounds 1 (Value.ref h₁.objs.size),⟨by simpa using hz.1,by rw [Array.getElem?_setIfInBounds_ne (by decide)]; exact hz.2⟩,?_,?_,?_,?_⟩
  ·exact he₃
  ·rw [hz₁]; simp [hz.1]
  ·rw [← hz₁]; exact hTe
  ·refine ⟨{ cls:=.type "traceback",dict:=none,data:=.fields ([head,.ref L,.none,rawInt L,.none]++(if pl.isEmpty then List.replicate 6 Value.none else pl)).toArray },_,by rw [← hz₁]; exact hT₃,rfl,?_⟩
   first | (simp; done) | (rcases hpl with rfl | ⟨_,_,_,_,_,_,_,rfl⟩ <;> simp)
theorem fly_note {base:Heap} {env:Env} {outer:List Env} {L e C:Addr} {d T:Option Addr} {fl:Value} {Q:Unit→Shared→Prop}
  (hfr:A.frames=some (env :: outer)) (hl:s.heap.FunFrames base (env :: outer)) (hf:env.frame=some L) (t:Trc s.heap e C d c2 T fl)
  (h:∀ h' T',FlyTo (frs (env :: outer)) e T s.heap h'→(T=some T'∨s.heap.objs.size ≤ T')→Trc h' e C d c2 (some T') (rawInt L)→Q () { s with heap:=h' }):wpAny M A (noteFrame (.ref e) env) Q E s:=by
 obtain ⟨vs,hz,he,tt⟩:=id t
 unfold noteFrame
 simp only [hf]
 cases T with
 | none=>
  refine wpAny_bind (wpAny_field he rfl tt ?_)
  rw [if_neg (by decide)]
  exact fly_new hfr hl hf he hz fun h' a b=>h h' _ a (.inr (Nat.le_refl _)) b
 | some T=>
  obtain ⟨h1,hTe,oT,ts,hT,hdT,h3⟩:=tt
  have h1:vs[1]?=some (.ref T):=h1
  refine wpAny_bind (wpAny_field he rfl h1 ?_)
  rw [if_pos (show (Value.ref T != Value.none)=true from by simp)]
  refine wpAny_bind (wpAny_field hT hdT h3 ?_)
  by_cases q:(fl == rawInt L)=true
  ·rw [if_pos q]
   obtain rfl:=beq_iff_eq.mp q
   exact wpAny_pure (h _ T FlyTo.refl (.inl rfl) t)
  ·rw [if_neg q]
   have h3s:3 < ts.size:=(Array.getElem?_eq_some_iff.mp h3).1
   refine wpAny_bind (wpAny_setField hT hdT h3s ?_)
   have other:∀ b,b≠T→(s.heap.update T (Obj.mapFields (·.setIfInBounds 3 Value.none))).get? b=s.heap.get? b:=fun b hb=>Heap.get?_update_other _ _ (Ne.symm hb)
   have noRecord:∀ b o,s.heap.get? b=some o→(∀ vs,o.data≠.fields vs)→b≠T:=fun b o hb hnf q=>by
    rw [q,hT] at hb; injection hb with hb; subst hb; exact hnf ts hdT
   have hsz:(s.heap.update T (Obj.mapFields (·.setIfInBounds 3 Value.none))).objs.size=s.heap.objs.size:=Heap.size_after_update ..
   refine fly_new (s:={ s with heap:=s.heap.update T (Obj.mapFields (·.setIfInBounds 3 Value.none)) }) hfr (hl.of_keeps fun b o hb hnf=>⟨o,(other b (noRecord b o hb hnf)).trans hb,rfl⟩) hf ((other e (Ne.symm hTe)).trans he) hz fun h' a b=>?_
   refine h h' _ ⟨fun c o n1 n2 n3 w=>a.keep c o n1 n2 (fun z=>nomatch z) ((other c fun z=>n3 (by rw [z])).trans w),fun c o n1 n2 n3 w=>a.slot c o n1 n2 (fun z=>nomatch z) ((other c fun z=>n3 (by rw [z])).trans w),?_⟩ (.inr (Nat.le_refl _)) ?_
   ·rw [← hsz]; exact a.size
   ·rw [← hsz]; exact b
theorem fly_leave {base:Heap} {env:Env} {outer:List Env} {L e C:Addr} {d T:Option Addr} {fl:Value} {Q:Unit→Shared→Prop}
  (hfr:A.frames=some (env :: outer)) (hl:s.heap.FunFrames base (env :: outer)) (hf:env.frame=some L) (t:Trc s.heap e C d c2 T fl)
  (h:∀ h' T',FlyTo (frs (env :: outer)) e T s.heap h'→(T=some T'∨s.heap.objs.size ≤ T')→Trc h' e C d c2 (some T') .none→Q () { s with heap:=h' }):wpAny M A (leaving env (.ref e)) Q E s:=by
 unfold leaving
 refine wpAny_bind (fly_note hfr hl hf t fun h1 T' a w b=>?_)
 exact fly_flight (s:={ s with heap:=h1 }) (fs:=frs (env :: outer)) (fr:=none) b fun h2 a2 b2=>h h2 T' (a.trans a2 w) w b2
end
end L2
end
section
set_option maxHeartbeats 1000000
namespace L2
open PySem PySem.Spec PyProof.Rows
def excF (e C:Addr) (d:Option Addr) (c2:Value):HO:=.ext fun h=>∃ vs:Array Value,(vs.size=6∧vs[2]?=some c2)∧h.get? e=some { cls:=.ref C,dict:=d,data:=.fields vs }
theorem ObjOk.excF {P:Program} {w:World} {H:Hp} {h:Heap} {e C:Addr} {d:Option Addr} {c2:Value} {vs:Array Value} (hz:vs.size=6∧vs[2]?=some c2) (he:h.get? e=some { cls:=.ref C,dict:=d,data:=.fields vs }):ObjOk P w H h e (L2.excF e C d c2):=
 ⟨⟨vs,hz,he⟩,⟨_,he⟩,fun h1 h2 ⟨v,z,a⟩ k=>⟨v,z,k _ a⟩⟩
theorem HOk.excF {P:Program} {w:World} {H:Hp} {h:Heap} {e C:Addr} {d:Option Addr} {c2:Value} (x:HOk P w H h) (q:H e=some (L2.excF e C d c2)):∃ vs:Array Value,(vs.size=6∧vs[2]?=some c2)∧h.get? e=some { cls:=.ref C,dict:=d,data:=.fields vs }:=
 (show ObjOk P w H h e (L2.excF e C d c2) from x e _ q).1
section
variable {X:Cx} {pins:List (Addr×Obj)} {σ:St} {H:Hp} {s:Shared} {h':Heap} {x C:Addr} {d T T1:Option Addr} {fl c2:Value}
theorem Inv.flight (I:Inv X pins σ H s) (hx:H x=some (excF x C d c2)) (hT:∀ T',T=some T'→FpOk X pins H T') (a:FlyTo (frs X.stack) x T s.heap h') (t:Trc h' x C d c2 T1 fl):Inv X pins σ H { s with heap:=h' }:=by
 obtain ⟨vs,hz,he,_⟩:=t
 have nT:∀ b u,H b=some u→T≠some b:=fun b u e z=>by rw [(hT b z).1] at e; cases e
 have nF:∀ b u,H b=some u→b ∉ frs X.stack:=fun b u e z=>by rw [I.stkFree b z] at e; cases e
 have nx:∀ b,H b=none→b≠x:=fun b n z=>by rw [z,hx] at n; cases n
 have there:∀ b o,T≠some b→s.heap.get? b=some o→∃ o',h'.get? b=some o':=fun b o n q=>by
  by_cases z:b=x
  ·exact ⟨_,by rw [z]; exact he⟩
  ·by_cases f:b∈frs X.stack
   ·obtain ⟨sl,w⟩:=a.slot b o f z n q
    exact ⟨_,w⟩
   ·exact ⟨_,a.keep b o f z n q⟩
 have tl:∀ b,b ∉ T.toList→T≠some b:=fun b n z=>n (by rw [z]; simp)
 refine I.call (g':=s.gens) (t':=s.toks) (d':=s.drawn) (ch:=T.toList) ⟨fun b o q n hb hc=>a.keep b o hb (nx b n) (tl b hc) q,fun b o q n hb hc=>a.slot b o hb (nx b n) (tl b hc) q,fun _ _ _ n _=>n,fun b o q hc=>there b o (tl b hc) q,fun _ _ q=>q,fun _ _ _ q=>q,fun b ps q=>⟨#[],by rw [q]; simp⟩⟩ (fun b u e=>?_) I.bare (fun b hb=>?_)
 ·by_cases z:b=x
  ·subst z
   rw [hx] at e
   cases e
   exact ObjOk.excF hz he
  ·refine (I.hok b u e).stay (fun c v hc q=>?_) (fun _ q=>q) fun _ _ q=>q
   rcases hc with w | w
   ·rw [w]
    rw [w] at q
    exact a.keep b v (nF b u e) z (nT b u e) q
   ·have cx:c≠x:=fun z=>by rw [z,hx] at w; cases w
    exact a.keep c v (nF c _ w) cx (nT c _ w) q
 ·have hb':T=some b:=by simpa using hb
  obtain ⟨f0,f1,f2,f3,f4,f5⟩:=hT b hb'
  exact ⟨f3,f1,f4,f5⟩
abbrev XS:=Value→Option Addr→St→Hp→Prop
def Thrown (X:Cx) (E:XS) (e:Value) (s:Shared):Prop:=
 ∃ (x C:Addr) (d T:Option Addr) (c2 fl:Value) (pins:List (Addr×Obj)) (σ:St) (H:Hp),e=.ref x∧Inv X pins σ H s∧H x=some (excF x C d c2)∧(∀ T',T=some T'→FpOk X pins H T')∧Trc s.heap x C d c2 T fl∧E (.ref x) d σ H
abbrev Cx.thr (X:Cx) (E:XS):Cx:=X.wish (Thrown X E)
def CX1 (P:Program) (w:World):CXT:=fun outer H s E e s'=>
 ∃ (x C:Addr) (d T:Option Addr) (c2 fl:Value) (H':Hp),e=.ref x∧s'.os=s.os∧AllBare s'.gens∧Un (frs outer) [] H H' s.heap s'.heap∧HOk P w H' s'.heap∧H' x=some (excF x C d c2) ∧
  (∀ T',T=some T'→s.heap.objs.size ≤ T'∧H' T'=none)∧Trc s'.heap x C d c2 T fl∧E (.ref x) d H'∧0 < s'.toks
theorem pass1 {E:XS} {e:Value} {s':Shared} (I0:Inv X pins σ H s) (h:CX1 X.prog X.w X.stack H s (fun v d H'=>E v d σ H') e s'):Thrown X E e s':=by
 obtain ⟨x,C,d,T,c2,fl,H',rfl,os,bare,un,hok,hx,hT,t,q,tk0⟩:=h
 have I1:Inv X pins σ H' s':=by
  obtain ⟨hh,g,dr,tk,os'⟩:=s'
  obtain rfl:os'=s.os:=os
  change 0 < tk at tk0
  exact I0.call (h':=hh) (g':=g) (d':=dr) (t':=tk) (ch:=[]) un hok bare (fun b z=>absurd z (by simp))
 exact ⟨x,C,d,T,c2,fl,pins,σ,H',rfl,I1,hx,fun T' z=>I0.fpOk (hT T' z).1 (hT T' z).2,t,q⟩
end
section
variable {P:Program} {w:World} {K:PySem.W.Frag} {mg:Str→Option Value} {base:Heap} {N:List Str} {qual:Str} {scope:Scope} {f:Addr} {cd:Value} {A:Around} {outer:List Env} {s:Shared} {H:Hp} {E:XK}
theorem thr_leave {e:Value} {s':Shared} (h:Thrown (cxOf (CX1 P w) P w K mg base N qual scope f cd A outer s H E) (fun v d _ H'=>E v d H') e s'):(cxOf (CX1 P w) P w K mg base N qual scope f cd A outer s H E).xe e s':=by
 obtain ⟨x,C,d,T,c2,fl,pins,σ,H',rfl,I,hx,hT,t,q⟩:=h
 show wpAny (model P w) (A.deeper (envOfC qual scope s.heap.objs.size f cd)) (leaving (envOfC qual scope s.heap.objs.size f cd) (.ref x)) _ _ s'
 refine fly_leave (base:=base) I.ok.frames I.stack rfl t fun h2 T' a w2 t2=>?_
 have I2:=I.flight hx hT a t2
 refine ⟨x,C,d,some T',c2,.none,H',rfl,I2.os,I2.bare,I2.base,I2.hok,hx,fun T2 z=>?_,t2,q,I2.tk⟩
 cases z
 rcases w2 with z | z
 ·obtain ⟨f0,f1,f2,f3,f4,f5⟩:=hT T' z
  refine ⟨?_,f0⟩
  rcases f3 with y | y
  ·exact absurd y (by show T' ∉ ([]:List Addr); simp)
  ·exact y
 ·exact ⟨Nat.le_trans I.sz z,I.hok.fresh z⟩
theorem PSs.thr {E:XS} {X:Cx} {st:List Stmt} {t:TS} (h:PSs (X.thr E) st t) (hx:∀ e s',Thrown X E e s'→X.xe e s'):PSs X st t:=fun pins s σ H D I hw=>
 wpAny_mono (h pins s σ H D (I.wish _) hw) (fun _ _ q=>q.unwish) fun e s' z=>hx e s' z
end
section
variable {X:Cx} {E:XS}
theorem thr_own (hs:X.stack=X.env :: X.outer) (hf:X.env.frame=some X.env.locals):PassesOwn (model X.prog X.w) X.A X.env (Thrown X E):=by
 intro e s h
 obtain ⟨x,C,d,T,c2,fl,pins,σ,H,rfl,I,hx,hT,t,q⟩:=h
 have fr:X.A.frames=some (X.env :: X.outer):=by rw [I.ok.frames,hs]
 have fn:s.heap.FunFrames X.base (X.env :: X.outer):=by rw [← hs]; exact I.stack
 refine fly_note (base:=X.base) fr fn hf t fun h1 T' a w t1=>?_
 rw [← hs] at a
 have I1:=I.flight hx hT a t1
 have hT1:FpOk X pins H T':=by
  rcases w with z | z
  ·exact hT T' z
  ·exact I.fpOk z (I.hok.fresh z)
 show wpAny _ _ _ _ _ _
 obtain ⟨vs,hz,he,h1',_⟩:=id t1
 have h1':vs[1]?=some (.ref T'):=h1'
 refine wpAny_bind (wpAny_field he rfl h1' ?_)
 rw [if_neg (show ¬ ((Value.ref T' == Value.none)=true) from Bool.false_ne_true)]
 show wpAny _ _ (setFlight (.ref x) X.env.frame) _ _ _
 refine fly_flight (fs:=frs X.stack) t1 fun h2 a2 t2=>?_
 exact ⟨x,C,d,some T',c2,_,pins,σ,H,rfl,I1.flight hx (fun T2 z=>by cases z; exact hT1) a2 t2,hx,fun T2 z=>by cases z; exact hT1,t2,q⟩
end
end L2
end
section
set_option maxHeartbeats 1000000
namespace L2
open PySem PySem.Spec PyProof.Rows
section
variable {M:Model} {A:Around} {E':Value→Shared→Prop} {env:Env}
theorem raise_made {s:Shared} {x:Sem Value} {Q:Flow→Shared→Prop} (hh:A.handled=none)
  (h:wpAny M A x (fun v s₁=>∃ e t C d bmB,v=.ref e∧bmB.contains (.type "BaseException")=true∧XObj s₁.heap C bmB "ValueError.__new__"∧s₁.heap.get? e=some (newExc C t d)∧E' (.ref e) s₁) E' s) :
  wpAny M A (raiseStmt env (some x) none) Q E' s:=by
 unfold raiseStmt
 refine wpAny_bind (wpAny_mono h (fun v s₁ h₁=>?_) fun _ _ x=>x)
 obtain ⟨e,t,C,d,bmB,rfl,hbase,⟨nm,qn,N,bs,bm,sn,sub,ab,col,dd,k0,k1,k2,k3,k5,hC,T⟩,he,hE⟩:=h₁
 have hcB:(Value.ref C :: bm).contains (.type "BaseException")=true:=by rw [List.contains_cons,T.hasType hbase,Bool.or_true]
 obtain ⟨hp,g,d,tk,os⟩:=s₁
 repeat (first | with_reducible refine wpAny_loadPart_at he ?_ | with_reducible refine wpAny_loadPart_at hC ?_ | (with_reducible refine wpAny_isSubtype_exc hC ?_; rw [hcB]) | wp_step)
 exact wpAny_raiseNew_none hh hE
end
section
variable {X:Cx} {E:XS} {ex:Expr} {te:TE} {pos:Pos}
def sRaise (K:PySem.W.Frag) (E:XS) (te:TE):TS:=fun _ σ H=>te σ H fun v H1=>∃ x C d,v=.ref x∧H1 x=some (excO x C d)∧XCl K C∧E (.ref x) d σ (upd H1 x (excF x C d .none))
theorem ps_raise (hc:X.calm=true) (he:PE (X.thr E) ex te):PS (X.thr E) (.Raise (some ex) none pos) (sRaise X.K E te):=by
 intro pins s σ H D I h
 rw [arm_exec_Raise]
 simp only [evalOpt,Option.map]
 refine wpAny_bind (wpAny_standAt (raise_made (I.ok.hd hc) ?_))
 refine wpAny_bind (wpAny_mono (he pins s σ H _ I h) (fun v s1 h1=>wpAny_bind (wpAny_standAt (wpAny_pure ?_))) fun _ _ z=>z)
 obtain ⟨u,H1,I1,r,x,C,d,ex,ea,c,q⟩:=h1
 subst ex
 obtain rfl:v=Value.ref x:=r
 obtain ⟨t0,hx⟩:=I1.hok.exc ea
 refine ⟨x,t0,C,d,bmV,rfl,by decide,x_of_in I1.kIn c.obj,hx,?_⟩
 have I2:Inv X pins σ (upd H1 x (excF x C d .none)) s1:=by
  have mu:Mut (H1 x):=by rw [ea]; exact True.intro
  exact I1.unwish.write (h':=s1.heap) (t':=s1.toks) (x:=x) (e:=x) mu (.inl rfl) (fun _ _ _ q=>q) ⟨_,hx⟩ (ObjOk.excF (vs:=#[.ref t0,.none,.none,.none,.bool false,.none]) ⟨rfl,rfl⟩ hx)
 exact ⟨x,C,d,none,.none,.none,pins,σ,_,rfl,I2,upd_same,fun T' z=>(nomatch z),⟨#[.ref t0,.none,.none,.none,.bool false,.none],⟨rfl,rfl⟩,hx,rfl⟩,q⟩
end
structure DefXs (P:Program) (w:World) (K:PySem.W.Frag) (mg:Str→Option Value) (base:Heap) (n:Nat) (x:Str) (ps:List Str) (sp:Sp):Prop where
 ex:∃ (f:Addr) (fd:FuncData),FnOk P w K mg base (CX1 P w) n f fd ps sp∧Binds K fd ps []∧PySem.W.keepIn K (.ref f)=true∧mg x=some (.ref f)∧∃ oc od osl,K.lookup f=some ⟨oc,od,.func fd,osl⟩
section
variable {P:Program} {w:World} {K:PySem.W.Frag} {mg:Str→Option Value} {base:Heap} {n m:Nat} {x:Str} {ps N:List Str} {sp:Sp} {st:Stmt}
theorem DefXs.mono (D:DefXs P w K mg base n x ps sp) (h:n ≤ m):DefXs P w K mg base m x ps sp:=by
 obtain ⟨f,fd,F,r⟩:=D.ex
 exact ⟨f,fd,F.mono h,r⟩
theorem DefXs.imp {sp':Sp} (D:DefXs P w K mg base n x ps sp) (h:∀ vs H Q E,sp' vs H Q E→sp vs H Q E):DefXs P w K mg base n x ps sp':=by
 obtain ⟨f,fd,F,r⟩:=D.ex
 exact ⟨f,fd,F.imp h,r⟩
theorem DefXs.of (T:DefTx K mg x st ps) (S:FnScope N ps (defScope st)) (len:∀ vs H Q E,sp vs H Q E→vs.length=ps.length)
  (hbody:∀ (f:Addr) (cdv:Value) (A:Around) (outer:List Env) (s:Shared) (H:Hp) (vs:List V) (Q:VK) (E:XK),Room n (A.deeper (envOfC x (defScope st) s.heap.objs.size f cdv))→sp vs H Q E →
   ∃ t,PSs ((cxOf (CX1 P w) P w K mg base N x (defScope st) f cdv A outer s H E).thr fun v d _ H'=>E v d H') (defBody st) t∧t { nx:=fun _ H'=>Q .non H',rt:=Q } (start N vs) H):DefXs P w K mg base (n + 1) x ps sp:=by
 obtain ⟨f,fd,F,m,b⟩:=T.ex
 refine ⟨f,fd,?_,Binds.all b,F.kp,m,fun_at F⟩
 obtain ⟨oc,od,kV,doc,pm,an,cdv,ct,osl,rfl,lk,hcd⟩:=F.ex
 refine fn_of lk hcd S len fun A outer s H vs Q E hr hsp=>?_
 obtain ⟨t,h,q⟩:=hbody f cdv A outer s H vs Q E hr hsp
 exact ⟨t,h.thr fun e s' z=>thr_leave z,q⟩
theorem DefXs.none (T:DefTx K mg x st ps) (no:∀ vs H Q E,¬ sp vs H Q E):DefXs P w K mg base n x ps sp:=by
 obtain ⟨f,fd,F,m,b⟩:=T.ex
 exact ⟨f,fd,⟨fun vs H Q E h=>absurd h (no vs H Q E),fun A outer s H args us vs Q E _ _ _ _ h=>absurd h (no vs H Q E)⟩,Binds.all b,F.kp,m,fun_at F⟩
end
section
variable {X:Cx} {E:XS} {n:Nat} {x:Str} {ps:List Str} {sp:Sp} {e:Expr} {es:List Expr} {p pos:Pos} {t:TA}
def tCallX (sp:Sp) (E:XS) (t:TA):TE:=fun σ H Q=>t σ H fun vs H1=>sp vs H1 Q fun v d H'=>E v d σ H'
theorem pe_xcall (D:DefXs X.prog X.w X.K X.mg X.base n x ps sp) (hr:Room n X.A) (ha:PA (X.thr E) (e :: es) t) (hg:Gl X x:=by rfl) (hdb:(x == ("__debug__":Str))=false:=by decide)
  (he:starEach (e :: es) X.env=(false,eval e X.env) :: starEach es X.env:=by rfl) (hpl:(backTo pos (starEach es X.env)).any (·.1)=false:=by rfl):PE (X.thr E) (.Call (.Name x p) (e :: es) [] pos) (tCallX sp E t):=by
 obtain ⟨f,fd,F,b,k,m,_⟩:=D.ex
 intro pins s σ H Q I h
 refine wpAny_Call_Name_kw (ld_glob (X:=X.thr E) I hg m ?_ hdb)
 refine PySem.W.callWith_K (h₀:=X.base) I.ok.mod.kin k (thn (ha pos pins s σ H _ I h) fun us s1 ⟨vs,H1,I1,r,q⟩=>⟨I1.kIn,?_⟩) he hpl
 have hl:(us++[]).length=ps.length:=by rw [List.append_nil,← r.length]; exact F.len _ _ _ _ q
 have hb:=b s1 us I1.kIn hl
 rw [List.append_nil] at hb
 refine wpAny_call (codeAny_mono (F.run X.A X.stack s1 H1 ⟨us,[]⟩ us vs Q _ hr I1.unwish.env0 ⟨hb,.inl I1.tk⟩ r q) fun r s' hq=>?_)
 cases r with
 | error e=>exact pass1 I1.unwish hq
 | ok fl=>
  cases fl with
  | ret u=>exact I1.after hq
  | next=>exact False.elim hq
  | brk=>exact False.elim hq
  | cont=>exact False.elim hq
end
end L2
end
section
set_option maxHeartbeats 1000000
namespace L2
open PySem PySem.Spec PyProof.Rows
abbrev Cx.mkd (X:Cx) (e:Value):Cx:={ X with A:=X.A.mark (some e),calm:=false }
abbrev Cx.pnd (X:Cx) (pn:List (Addr×Obj)):Cx:={ X with pn:=pn }
section
variable {X:Cx} {pins pn:List (Addr×Obj)} {σ:St} {H:Hp} {s:Shared} {e:Value}
theorem Cx.Ok.mkd (ok:X.Ok) (e:Value):(X.mkd e).Ok:=
 ⟨ok.mod,ok.kind,ok.glob,ok.blt,ok.above,ok.inj,ok.has,ok.cab,fun z=>Bool.noConfusion z,ok.frames,ok.stk,ok.exf,ok.bs,ok.bsz,ok.noex,ok.exfs,ok.funs,ok.frf⟩
theorem Cx.Ok.pnd (ok:X.Ok) (pn:List (Addr×Obj)):(X.pnd pn).Ok:=
 ⟨ok.mod,ok.kind,ok.glob,ok.blt,ok.above,ok.inj,ok.has,ok.cab,ok.hd,ok.frames,ok.stk,ok.exf,ok.bs,ok.bsz,ok.noex,ok.exfs,ok.funs,ok.frf⟩
theorem Inv.mkd (I:Inv X pins σ H s) (e:Value):Inv (X.mkd e) pins σ H s:=⟨I.ok.mkd e,I.os,I.bare,I.base,I.loc,I.cell,I.free,I.freeC,I.pin,I.hok,I.len,I.tk⟩
theorem Inv.unmkd (ok:X.Ok) (I:Inv (X.mkd e) pins σ H s):Inv X pins σ H s:=⟨ok,I.os,I.bare,I.base,I.loc,I.cell,I.free,I.freeC,I.pin,I.hok,I.len,I.tk⟩
theorem Inv.pnd (I:Inv X pins σ H s):Inv (X.pnd (X.pn++pins)) [] σ H s:=
 ⟨I.ok.pnd _,I.os,I.bare,I.base,I.loc,I.cell,I.free,I.freeC,fun p hp=>I.pin p (by simpa using hp),I.hok,I.len,I.tk⟩
theorem Inv.unpnd {pins':List (Addr×Obj)} (ok:X.Ok) (I:Inv (X.pnd (X.pn++pins)) pins' σ H s):Inv X pins σ H s:=
 ⟨ok,I.os,I.bare,I.base,I.loc,I.cell,I.free,I.freeC,fun p hp=>I.pin p (List.mem_append_left _ hp),I.hok,I.len,I.tk⟩
theorem FpOk.unpnd {pins':List (Addr×Obj)} {b:Addr} (h:FpOk (X.pnd (X.pn++pins)) pins' H b):FpOk X pins H b:=
 ⟨h.1,h.2.1,h.2.2.1,h.2.2.2.1,h.2.2.2.2.1,fun p hp=>h.2.2.2.2.2 p (List.mem_append_left _ hp)⟩
theorem SP.unpnd {D:Ends} {f:Flow} {s':Shared} (ok:X.Ok) (h:SP (X.pnd (X.pn++pins)) [] D f s'):SP X pins D f s':=by
 cases f with
 | next=>obtain ⟨σ',H',I,q⟩:=h; exact ⟨σ',H',I.unpnd ok,q⟩
 | brk=>obtain ⟨σ',H',I,q⟩:=h; exact ⟨σ',H',I.unpnd ok,q⟩
 | cont=>obtain ⟨σ',H',I,q⟩:=h; exact ⟨σ',H',I.unpnd ok,q⟩
 | ret u=>obtain ⟨v,σ',H',I,r,q⟩:=h; exact ⟨v,σ',H',I.unpnd ok,r,q⟩
theorem Inv.forget {h':Heap} {t' i:Nat} {x:Str} {m:Str→Option Value} {u:Option Value} (I:Inv X pins σ H s) (hN:X.N.Nodup) (hi:X.N[i]?=some x) (hk:X.env.scope.names.lookup x=some .local)
  (hm:∀ m,s.heap.Ns X.env.locals m→∃ u,h'.Ns X.env.locals (fun y=>if y=x then u else m y)) (hs:∀ b,b≠X.env.locals→h'.get? b=s.heap.get? b) (ht:0 < t':=by first | exact Nat.succ_pos _ | assumption | exact L2.Inv.tk (by assumption) | exact Nat.lt_of_lt_of_le (L2.Inv.tk (by assumption)) (by assumption) | exact Nat.lt_of_lt_of_le (L2.Inv.tk (by assumption)) (Nat.le_add_right _ _)):Inv X pins (σ.set i none) H { s with heap:=h',toks:=t' }:=by
 obtain ⟨m,hn,hl⟩:=id I.loc
 have hiσ:i < σ.length:=by rw [I.len]; exact (List.getElem?_eq_some_iff.mp hi).1
 have cne:=I.cne
 obtain ⟨u,hn'⟩:=hm m hn
 obtain ⟨oL,_,_,hoL,_⟩:=id hn
 refine ⟨I.ok,I.os,I.bare,⟨fun b o e n hb hx=>?_,fun b o e n hb hx=>?_,I.base.free,fun b o e hx=>?_,I.base.tups,I.base.frzs,I.base.tbls⟩,⟨_,hn',fun j y v' e1 e2 e3=>?_⟩,fun y c e=>?_,I.free,I.freeC,fun p hp=>?_,fun b ob e=>?_,by simpa using I.len,ht⟩
 ·exact (hs b (Nat.ne_of_lt (Nat.lt_of_lt_of_le (Heap.lt_size e) I.ok.above))).trans (I.base.keep b o e n hb hx)
 ·obtain ⟨sl,e1⟩:=I.base.slot b o e n hb hx
  exact ⟨sl,(hs b (Nat.ne_of_lt (Nat.lt_of_lt_of_le (Heap.lt_size e) I.ok.above))).trans e1⟩
 ·obtain ⟨o',e1⟩:=I.base.there b o e hx
  exact ⟨o',(hs b (Nat.ne_of_lt (Nat.lt_of_lt_of_le (Heap.lt_size e) I.ok.above))).trans e1⟩
 ·by_cases hj:j=i
  ·subst hj
   rw [List.getElem?_set_self hiσ] at e2
   cases e2
  ·rw [List.getElem?_set_ne (Ne.symm hj)] at e2
   obtain ⟨u',r',q⟩:=hl j y v' e1 e2 e3
   refine ⟨u',r',?_⟩
   rcases q with ⟨k,e⟩ | ⟨k,c,e,z⟩
   ·refine .inl ⟨k,?_⟩
    have:y≠x:=fun e=>hj (nodup_ix hN e1 (e ▸ hi))
    simp [this,e]
   ·obtain ⟨o,ho,hd⟩:=z
    exact .inr ⟨k,c,e,⟨o,(hs c (cne y c e)).trans ho,hd⟩⟩
 ·obtain ⟨w',o,ho,hd⟩:=I.cell y c e
  exact ⟨w',o,(hs c (cne y c e)).trans ho,hd⟩
 ·obtain ⟨e,n,ne,nf,d⟩:=I.pin p hp
  exact ⟨(hs p.1 ne).trans e,n,ne,nf,d⟩
 ·refine (I.hok b ob e).stay (fun c w' hc q=>(hs c ?_).trans q) (fun _ q=>q) fun _ _ q=>q
  rintro rfl
  rcases hc with rfl | hc
  ·rw [I.free] at e; cases e
  ·rw [I.free] at hc; cases hc
theorem exc_match {M:Model} {A:Around} {E':Value→Shared→Prop} {s:Shared} {K:PySem.W.Frag} {x C C0:Addr} {d:Option Addr} {vs:Array Value} {Q:Bool→Shared→Prop} (hx:s.heap.get? x=some { cls:=.ref C,dict:=d,data:=.fields vs })
  (O:XObj s.heap C bmV "ValueError.__new__") (O0:XObj s.heap C0 bmV "ValueError.__new__") (kin:K.In s.heap) (hsub:PySem.W.mroIn K C (.ref C0)=some true) (hq:Q true s):wpAny M A (excMatches (.ref x) (.ref C0)) Q E' s:=by
 obtain ⟨nm,qn,N,bs,bm,sn,sub,ab,col,dd,k0,k1,k2,k3,k5,hC,T⟩:=O
 obtain ⟨nm',qn',N',bs',bm',sn',sub',ab',col',dd',k0',k1',k2',k3',k5',hC0,T'⟩:=O0
 have hcB:(Value.ref C0 :: bm').contains (.type "BaseException")=true:=by rw [List.contains_cons,T'.hasType (show bmV.contains (.type "BaseException")=true by decide),Bool.or_true]
 have LS:=PySem.W.looks_mroIn (M:=M) kin hsub
 have f:=tc_notTuple
 obtain ⟨hp,g,dr,tk,os⟩:=s
 unfold excMatches
 repeat (first | with_reducible refine wpAny_loadPart_at hx ?_ | with_reducible refine wpAny_loadPart_at hC0 ?_ | (with_reducible refine wpAny_isSubtype_exc hC0 ?_; rw [hcB]) | with_reducible refine LS.at ?_ | wp_step)
 exact hq
end
end L2
end
section
set_option maxHeartbeats 1000000
namespace L2
open PySem PySem.Spec PyProof.Rows
section
variable {X:Cx} {pins:List (Addr×Obj)} {σ:St} {H:Hp} {s:Shared}
theorem name_goes {M:Model} {A:Around} {E':Value→Shared→Prop} {Q:Unit→Shared→Prop} {i:Nat} {n:Str} {hpos:Pos} (I:Inv X pins σ H s) (hN:X.N.Nodup) (hi:X.N[i]?=some n) (hk:X.env.scope.names.lookup n=some .local)
  (h:∀ s',Inv X pins (σ.set i none) H s'→Q () s'):wpAny M A (do bindName X.env n .none; unbindBehindTheSuite X.env n hpos) Q E' s:=by
 obtain ⟨m,hn,_⟩:=id I.loc
 have hcls:(X.env.scope.kind == .class || (X.env.scope.kind == .module && X.env.locals != X.env.globals))=false:=by rw [I.ok.kind]; rfl
 refine wpAny_nameGoes_keeps hk hn hcls fun h' v hn' hs=>h _ ?_
 refine I.forget (m:=m) (u:=v) hN hi hk (fun m2 hm2=>?_) (fun b hb=>hs.2 b hb)
 obtain ⟨o,es,ep,ho,hd,hkk,hm⟩:=hn
 obtain ⟨o2,es2,ep2,ho2,hd2,hkk2,hm2⟩:=hm2
 rw [ho] at ho2
 cases ho2
 rw [hd] at hd2
 cases hd2
 have e:m2=m:=funext fun y=>by rw [← hm y,← hm2 y]
 exact ⟨v,by rw [e]; exact hn'⟩
def sTryAs (K:PySem.W.Frag) (C0:Addr) (i:Nat) (tb:XS→TS) (ts:TS):TS:=fun D σ H=>∃ Es:XS,tb Es D σ H∧∀ x C d c2 σ' H',Es (.ref x) d σ' H'→H' x=some (excF x C d c2) →
 XCl K C∧PySem.W.mroIn K C (.ref C0)=some true ∧
 ts { nx:=fun σ2 H2=>D.nx (σ2.set i none) H2,rt:=D.rt,bk:=fun σ2 H2=>D.bk (σ2.set i none) H2,ct:=fun σ2 H2=>D.ct (σ2.set i none) H2 } (σ'.set i (some (.ref x))) H'
theorem ps_tryAs {body:List Stmt} {b0:Stmt} {suite:List Stmt} {tb:XS→TS} {ts:TS} {i:Nat} {n y:Str} {C0:Addr} {np hpos pos:Pos} (hs:X.stack=X.env :: X.outer) (hf:X.env.frame=some X.env.locals) (hN:X.N.Nodup) (hi:X.N[i]?=some n)
  (hk:X.env.scope.names.lookup n=some .local) (hm:X.mg y=some (.ref C0)) (M0:xIn X.K C0 bmV "ValueError.__new__"=true) (hb:∀ pn Es,PSs ((X.pnd pn).thr Es) body (tb Es)) (hsu:∀ e,PSs ((X.mkd e).nox) (b0 :: suite) ts)
  (hg:Gl X y:=by rfl) (hdb:(y == ("__debug__":Str))=false:=by decide):PS X (.Try body [.ExceptHandler (some (.Name y np)) (some n) (b0 :: suite) hpos] [] [] pos) (sTryAs X.K C0 i tb ts):=by
 intro pins s σ H D I h
 obtain ⟨Es,hb',hh⟩:=h
 refine wpAny_Try_except ?_
 refine wpAny_mono (hb (X.pn++pins) Es [] s σ H D (I.pnd.wish _) hb') (fun f s1 q=>?_) (fun e s1 q=>?_)
 ·have q':SP X pins D f s1:=SP.unpnd I.ok q.unwish
  cases f with
  | next=>exact wpAny_execs_nil q'
  | brk=>exact q'
  | cont=>exact q'
  | ret u=>exact q'
 ·obtain ⟨x,C,d,T,c2,fl,pins',σ',H',rfl,I1,hx,hT,t,qe⟩:=q
  have I1':Inv X pins σ' H' s1:=I1.unpnd I.ok
  have hT':∀ T',T=some T'→FpOk X pins H' T':=fun T' z=>(hT T' z).unpnd
  obtain ⟨M,hsub,qs⟩:=hh x C d c2 σ' H' qe hx
  have fr:X.A.frames=some (X.env :: X.outer):=by rw [I.ok.frames,hs]
  have fn:s1.heap.FunFrames X.base (X.env :: X.outer):=by rw [← hs]; exact I1'.stack
  refine fly_note (base:=X.base) fr fn hf t fun h1 T' a w t1=>?_
  rw [← hs] at a
  have I2:=I1'.flight hx hT' a t1
  have hT1:∀ T2,some T'=some T2→FpOk X pins H' T2:=fun T2 z=>by
   cases z
   rcases w with z | z
   ·exact hT' T' z
   ·exact I1'.fpOk z (I1'.hok.fresh z)
  refine fly_flight (s:={ s1 with heap:=h1 }) (fs:=frs X.stack) (fr:=none) t1 fun h2 a2 t2=>?_
  have I3:=I2.flight hx hT1 a2 t2
  refine wpAny_handleBy_cons (codeAny_handlers_test ?_) (by intro q; cases q)
  refine ld_glob (X:=X.mkd (.ref x)) (I3.mkd _) hg hm ?_ hdb
  obtain ⟨vs,hz,he,_⟩:=id t2
  refine exc_match he (x_of_in I3.kIn M.obj) (x_of_in I3.kIn M0) I3.kIn hsub ?_
  refine codeAny_handlers_suite_as ?_
  refine fly_flight (s:={ s1 with heap:=h2 }) (fs:=frs X.stack) (fr:=none) t2 fun h3 a3 t3=>?_
  have I4:=I3.flight hx hT1 a3 t3
  refine store_ok (X:=X.mkd (.ref x)) (I4.mkd _) hN hi (.inl hk) (v:=.ref x) rfl (fun s5 I5=>?_) (.inr hk)
  refine wpAny_mono (hsu (.ref x) pins s5 _ H' _ (I5.wish _) qs) (fun f s6 q6=>?_) (fun _ _ z=>False.elim z)
  have q7:=q6.unwish
  show wpAny _ _ (do bindName X.env n .none; unbindBehindTheSuite X.env n hpos) (fun _ s3=>SP X pins D f s3) _ s6
  cases f with
  | next=>obtain ⟨σ2,H2,I6,q⟩:=q7; exact name_goes (I6.unmkd I.ok) hN hi hk fun s7 I7=>⟨_,H2,I7,q⟩
  | brk=>obtain ⟨σ2,H2,I6,q⟩:=q7; exact name_goes (I6.unmkd I.ok) hN hi hk fun s7 I7=>⟨_,H2,I7,q⟩
  | cont=>obtain ⟨σ2,H2,I6,q⟩:=q7; exact name_goes (I6.unmkd I.ok) hN hi hk fun s7 I7=>⟨_,H2,I7,q⟩
  | ret u=>obtain ⟨v,σ2,H2,I6,r,q⟩:=q7; exact name_goes (I6.unmkd I.ok) hN hi hk fun s7 I7=>⟨v,_,H2,I7,r,q⟩
end
end L2
end
section
set_option maxHeartbeats 1000000
namespace L2
open PySem PySem.Spec PyProof.Rows
section
variable {X:Cx} {pins:List (Addr×Obj)} {σ:St} {H:Hp} {s:Shared} {C:Addr} {o:Expr} {fl:Str} {pos:Pos} {ta:TE}
def tFldF (K:PySem.W.Frag) (ta:TE) (f:Str):TE:=fun σ H Q=>ta σ H fun x H1=>∃ a C dx c2 fs v,x=.ref a∧H1 a=some (excF a C (some dx) c2)∧H1 dx=some (.xd fs)∧XCl K C∧NoAttr K C f∧fs.lookup f=some v∧Q v H1
theorem pe_fldF (he:PE X o ta) (hb:attributeBase o fl X.env (eval o X.env)=eval o X.env):PE X (.Attribute o fl pos) (tFldF X.K ta fl):=by
 intro pins s σ H Q I h
 refine attr_of hb (thn (he pins s σ H _ I h) fun u s1 ⟨x,H1,I1,rx,a,C,dx,c2,fs,v,ex,ea,ed,c,n,l,q⟩=>?_)
 subst ex
 obtain rfl:u=Value.ref a:=rx
 obtain ⟨vs,hz,hx⟩:=I1.hok.excF ea
 obtain ⟨mA,hn,hr⟩:=(show ObjOk X.prog X.w H1 s1.heap dx (.xd fs) from I1.hok dx _ ed)
 obtain ⟨od,hod,hl⟩:=lookIn_ns hn
 obtain ⟨u',hu,ru⟩:=RelO.some_of (v:=v) (o:=mA fl) (by rw [← l]; exact hr fl)
 have J:PySem.W.InstAt s1.heap a { cls:=.ref C,dict:=some dx,data:=.fields vs } C (some od):=⟨hx,rfl,rfl,hod⟩
 exact exc_attr I1.kIn J c.cls (PySem.W.findObj_own c.cls.hd n rfl (by rw [hl,hu])) (handed_of ru) ⟨v,H1,I1.tok _,ru,q⟩
theorem excF_inst {a:Addr} {dx:Option Addr} {c2:Value} (I:Inv X pins σ H s) (ea:H a=some (excF a C dx c2)) (hd:∀ d,dx=some d→∃ fs,H d=some (.xd fs)):∃ ox od,PySem.W.InstAt s.heap a ox C od:=by
 obtain ⟨vs,hz,hx⟩:=I.hok.excF ea
 cases dx with
 | none=>exact ⟨_,none,hx,rfl,rfl,True.intro⟩
 | some d=>
  obtain ⟨fs,ed⟩:=hd d rfl
  obtain ⟨mA,hn,hr⟩:=(show ObjOk X.prog X.w H s.heap d (.xd fs) from I.hok d _ ed)
  obtain ⟨od,hod,hl⟩:=lookIn_ns hn
  exact ⟨_,some od,hx,rfl,rfl,hod⟩
theorem call_isinstF:CallR X (.builtin "isinstance") (fun xs H Q=>∃ a C dx c2 y c b,xs=[.ref a,y]∧(∀ u,RelV y u→u=c)∧H a=some (excF a C dx c2)∧(∀ d,dx=some d→∃ fs,H d=some (.xd fs))∧XCl X.K C ∧
  PySem.W.kitOne X.K (.ref C) c=some b∧Q (.bl b) H):=by
 intro pins s σ H xs us Q I r h
 obtain ⟨a,C,dx,c2,y,c,b,rfl,hy,ea,hd,M,e,q⟩:=h
 obtain ⟨u,v,rfl,ru,rv⟩:=r.two
 obtain rfl:=hy v rv
 obtain rfl:u=Value.ref a:=ru
 exact upQ (PySem.W.kia_one (kitx_exc M.cls) I.kIn (excF_inst I ea hd) e (fun z=>nomatch z) fun tk (hup:s.toks ≤ tk)=>⟨.bl b,H,I.tok tk,rfl,q⟩)
theorem refs_of:∀ {cs:List Addr} {us:List Value},Vals (cs.map V.ref) us→us=cs.map Value.ref
 | [],_,.nil=>rfl
 | c :: cs,_,.cons r t=>by
  rw [List.map_cons,← refs_of t]
  exact congrArg (· :: _) r
theorem call_isinstFT:CallR X (.builtin "isinstance") (fun xs H Q=>∃ (a C:Addr) (dx:Option Addr) (c2:Value) (tp:Addr) (cs:List Addr) (b:Bool),xs=[.ref a,.ref tp]∧H tp=some (.tup (cs.map V.ref))∧H a=some (excF a C dx c2)∧(∀ d,dx=some d→∃ fs,H d=some (.xd fs))∧XCl X.K C ∧
  PySem.W.kitAny X.K (.ref C) (cs.map Value.ref)=some b∧Q (.bl b) H):=by
 intro pins s σ H xs us Q I r h
 obtain ⟨a,C,dx,c2,tp,cs,b,rfl,et,ea,hd,M,e,q⟩:=h
 obtain ⟨u,v,rfl,ru,rv⟩:=r.two
 obtain rfl:u=Value.ref a:=ru
 obtain rfl:v=Value.ref tp:=rv
 obtain ⟨_,its,rv2,⟨oc,od,dt,sl⟩,h1,h2,n,h3,_⟩:=(show ObjOk X.prog X.w H s.heap tp (.tup (cs.map V.ref)) from I.hok tp _ et)
 obtain rfl:=refs_of rv2
 dsimp only at h2 h3
 subst h2 h3
 exact upQ (PySem.W.kia_tup (kitx_exc M.cls) I.kIn (excF_inst I ea hd) h1 e (fun z=>nomatch z) fun tk (hup:s.toks ≤ tk)=>⟨.bl b,H,I.tok tk,rfl,q⟩)
end
end L2
end
section
set_option maxHeartbeats 1000000
namespace L2
open PySem PySem.Spec PyProof.Rows
section
variable {X:Cx} {pins:List (Addr×Obj)} {σ:St} {H:Hp} {s:Shared} {C:Addr} {Q:VK} {us:List Value} {vs:List V} {k:Nat} {ps:List Str} {sp:Sp}
variable {x:Str} {p pos:Pos} {e:Expr} {es:List Expr} {t:TA}
end
section
variable {prog:Program} {w:World} {A:Around} {E':Value→Shared→Prop} {env:Env}
end
section
variable {X:Cx} {E:XS}
theorem thr_ownT (hs:X.stack=X.env :: X.outer) (hf:X.env.frame=some X.env.locals):PassesOwn (model (X.thr E).prog (X.thr E).w) (X.thr E).A (X.thr E).env (X.thr E).xe:=thr_own hs hf
end
end L2
end
section
set_option maxHeartbeats 1000000
namespace L2
open PySem PySem.Spec PyProof.Rows
theorem DefXs.is {P:Program} {w:World} {K:PySem.W.Frag} {mg:Str→Option Value} {base:Heap} {n:Nat} {x:Str} {ps:List Str} {sp:Sp} (D:DefXs P w K mg base n x ps sp) (h:∀ vs H Q E,sp vs H Q E→sp vs H Q E0):DefIs P w K mg base n x ps sp:=by
 obtain ⟨f,fd,F,r⟩:=D.ex
 refine ⟨f,fd,⟨F.len,fun A outer s H args us vs Q E hr he hb hv hs=>codeAny_mono (F.run A outer s H args us vs Q E0 hr he hb hv (h _ _ _ _ hs)) fun r s' q=>?_⟩,r⟩
 cases r with
 | error e=>
  obtain ⟨_,_,_,_,_,_,_,_,_,_,_,_,_,_,_,z⟩:=q
  exact z.1.elim
 | ok fl=>cases fl <;> exact q
end L2
end
section
namespace L2
open PySem PySem.Spec PyProof.Rows
section
variable {X:Cx} {n:Nat} {x:Str} {ps:List Str} {sp:Sp} {p pos:Pos} {fs:List Str}
end
end L2
end
section
namespace L2
open PySem PySem.Spec PyProof.Rows
section
variable {κ:Type} [DecidableEq κ]
def valV (kvs:List (κ×V)) (k:κ):Option V:=(kvs.find? fun kv=>decide (kv.1=k)).map (·.2)
def putK (kvs:List (κ×V)) (k:κ) (v:V):List (κ×V):=
 if (kvs.any fun kv=>decide (kv.1=k))=true then kvs.map (fun kv=>if kv.1=k then (kv.1,v) else kv) else kvs++[(k,v)]
theorem valV_pos {p:κ×V} {r:List (κ×V)} {k:κ} (e:p.1=k):valV (p :: r) k=some p.2:=by simp [valV,List.find?_cons,e]
theorem valV_neg {p:κ×V} {r:List (κ×V)} {k:κ} (e:¬ p.1=k):valV (p :: r) k=valV r k:=by simp [valV,List.find?_cons,e]
theorem length_putK (kvs:List (κ×V)) (k:κ) (v:V):(putK kvs k v).length ≤ kvs.length + 1:=by
 unfold putK
 split
 ·rw [List.length_map]; omega
 ·rw [List.length_append,List.length_cons,List.length_nil]; omega
theorem RelO.getD {o:Option V} {u:Option Value} {d:V} {d':Value} (r:RelO o u) (rd:RelV d d'):RelV (o.getD d) (u.getD d'):=by
 cases o with
 | none=>cases u with
  | none=>exact rd
  | some _=>exact (show False from r).elim
 | some _=>cases u with
  | none=>exact (show False from r).elim
  | some _=>exact r
theorem KV.val {kvs:List (κ×V)} {vs:List (κ×Value)} (r:KV kvs vs) (k:κ):RelO (valV kvs k) (valueAt vs k):=by
 unfold KV at r
 induction r with
 | nil=>exact True.intro
 | @cons p q ps qs h t ih=>
  obtain ⟨h1,h2⟩:=h
  by_cases e:p.1=k
  ·have e':q.1=k:=h1.symm.trans e
   have b:valueAt (q :: qs) k=some q.2:=by simp [valueAt,List.find?_cons,e']
   rw [valV_pos e,b]; exact h2
  ·have e':¬ q.1=k:=fun z=>e (h1.trans z)
   have b:valueAt (q :: qs) k=valueAt qs k:=by simp [valueAt,List.find?_cons,e']
   rw [valV_neg e,b]; exact ih
theorem KV.any {kvs:List (κ×V)} {vs:List (κ×Value)} (r:KV kvs vs) (k:κ):(kvs.any fun kv=>decide (kv.1=k))=vs.any fun kv=>decide (kv.1=k):=by
 unfold KV at r
 induction r with
 | nil=>rfl
 | cons h t ih=>rw [List.any_cons,List.any_cons,ih,h.1]
theorem KV.repl {kvs:List (κ×V)} {vs:List (κ×Value)} (r:KV kvs vs) (k:κ) {y:V} {u:Value} (ry:RelV y u) :
  KV (kvs.map fun kv=>if kv.1=k then (kv.1,y) else kv) (vs.map fun kv=>if kv.1=k then (kv.1,u) else kv):=by
 unfold KV at r ⊢
 induction r with
 | nil=>exact .nil
 | @cons p q ps qs h t ih=>
  rw [List.map_cons,List.map_cons]
  refine .cons ?_ ih
  obtain ⟨h1,h2⟩:=h
  by_cases e:p.1=k
  ·rw [if_pos e,if_pos (h1.symm.trans e)]; exact ⟨h1,ry⟩
  ·rw [if_neg e,if_neg (fun z=>e (h1.trans z))]; exact ⟨h1,h2⟩
theorem KV.put {kvs:List (κ×V)} {vs:List (κ×Value)} (r:KV kvs vs) (k:κ) {y:V} {u:Value} (ry:RelV y u):KV (putK kvs k y) (stored vs k u):=by
 unfold putK stored
 rw [r.any k]
 by_cases e:(vs.any fun kv=>decide (kv.1=k))=true
 ·rw [if_pos e,if_pos e]; exact r.repl k ry
 ·rw [if_neg e,if_neg e]; exact Paired.snoc r ⟨rfl,ry⟩
end
theorem kV_is {P:Program} {w:World} {k:Key} {u:Value} (r:RelV (kV k) u):(mixKind P w).is k u=true:=by
 cases k with
 | inl i=>obtain ⟨t,e⟩:=(show ∃ t,u=Value.int i t from r); subst e; exact mixKind_int P w i t
 | inr x=>obtain ⟨t,e⟩:=(show ∃ t:PTok,u=Value.str x t.1 from r); subst e; exact mixKind_str P w x t
theorem items_are {P:Program} {w:World}:∀ {ks:List Key} {us:List Value},Vals (ks.map kV) us→ItemsAre (mixKind P w) ks us
 | [],_,r=>by rw [List.map_nil] at r; cases r; exact .nil
 | k :: ks,_,r=>by
  rw [List.map_cons] at r
  cases r with
  | cons h t=>exact .cons (kV_is h) (items_are t)
abbrev KT (H:Hp):List (List Key×V)→List (List Key×Addr×Value)→Prop:=Paired fun p q=>p.1=q.1∧H q.2.1=some (.tup (p.1.map kV))∧RelV p.2 q.2.2
theorem KT.val {H:Hp} {kvs:List (List Key×V)} {xs:List (List Key×Addr×Value)} (r:KT H kvs xs) (k:List Key):RelO (valV kvs k) ((atKey xs k).map (·.2)):=by
 induction r with
 | nil=>exact True.intro
 | @cons p q ps qs h t ih=>
  obtain ⟨h1,_,h2⟩:=h
  by_cases e:p.1=k
  ·have e':q.1=k:=h1.symm.trans e
   have b:atKey (q :: qs) k=some q.2:=by simp [atKey,List.find?_cons,e']
   rw [valV_pos e,b]; exact h2
  ·have e':¬ q.1=k:=fun z=>e (h1.trans z)
   have b:atKey (q :: qs) k=atKey qs k:=by simp [atKey,List.find?_cons,e']
   rw [valV_neg e,b]; exact ih
section
variable {P:Program} {w:World} {H:Hp} {h:Heap} {a:Addr}
theorem rd_of {u:HO} (ok:HOk P w H h) (e:Rd H a u):ObjOk P w H h a u:=e.ok ok
theorem dk_rd {kvs:List (Key×V)} (ok:HOk P w H h) (e:Rd H a (.dK kvs)):kvs.length ≤ sizeLine∧(a == sysModules)=false∧∃ vs,KV kvs vs∧h.DictOf (mixKind P w) a vs:=
 show ObjOk P w H h a (.dK kvs) from rd_of ok e
theorem dk_of {kvs:List (Key×V)} (ok:HOk P w H h) (e:H a=some (.dK kvs)):kvs.length ≤ sizeLine∧(a == sysModules)=false∧∃ vs,KV kvs vs∧h.DictOf (mixKind P w) a vs:=dk_rd ok (.inl e)
theorem key_of {ks:List Key} (ok:HOk P w H h) (e:H a=some (.tup (ks.map kV))):(tupleKind (mixKind P w)).is h ks a:=by
 obtain ⟨_,its,r,o,h1,h2,n,h3,_⟩:=(show ObjOk P w H h a (.tup (ks.map kV)) from ok a _ e)
 exact ⟨o,its.toArray,n,h1,h2,h3,by simpa using items_are r⟩
theorem dt_rd {kvs:List (List Key×V)} (ok:HOk P w H h) (e:Rd H a (.dT kvs)):kvs.length ≤ sizeLine∧(a == sysModules)=false ∧
  ∃ xs,KT H kvs xs∧h.DictOfH (tupleKind (mixKind P w)) a xs:=by
 obtain ⟨z,y,xs,r,o,es,ep,h1,h2,h3,h4,h5⟩:=(show ObjOk P w H h a (.dT kvs) from rd_of ok e)
 refine ⟨z,y,xs,r,o,es,ep,h1,h2,h3,h4,fun x hx=>?_,h5⟩
 have all:∀ {l:List (List Key×V)} {m:List (List Key×Addr×Value)},KT H l m→∀ x∈m,(tupleKind (mixKind P w)).is h x.1 x.2.1:=by
  intro l m q
  induction q with
  | nil=>intro x hx; exact nomatch hx
  | @cons p q ps qs hq t ih=>
   intro x hx
   rcases List.mem_cons.mp hx with e | hx
   ·subst e
    exact key_of ok (by rw [← hq.1]; exact hq.2.1)
   ·exact ih x hx
 exact all r x hx
end
def DGet (H:Hp) (a:Addr) (y:V) (r:Option V):Prop:=
 (∃ kvs k,Rd H a (.dK kvs)∧y=kV k∧r=valV kvs k)∨∃ kvs k b,Rd H a (.dT kvs)∧y=.ref b∧H b=some (.tup (k.map kV))∧r=valV kvs k
theorem DGet.k {H:Hp} {a:Addr} {kvs:List (Key×V)} {k:Key} (e:H a=some (.dK kvs)):DGet H a (kV k) (valV kvs k):=.inl ⟨kvs,k,.inl e,rfl,rfl⟩
section
variable {X:Cx} {pins:List (Addr×Obj)} {σ:St} {H:Hp} {s:Shared} {a:Addr} {y v:V} {u r:Value} {o:Option V} {A:Around} {E:Value→Shared→Prop}
theorem Inv.big (I:Inv X pins σ H s):sysModules < s.heap.objs.size:=by
 have h:mainGlobals < s.heap.objs.size:=(I.mod.glob.keeps I.bk).lt
 exact Nat.lt_trans (by decide) h
theorem d_write {h':Heap} {t':Nat} {ob:HO} (I:Inv X pins σ H s) (mu:Mut (H a)) (hs:Heap.SameBut a s.heap h') (he:∃ q,h'.get? a=some q) (new:ObjOk X.prog X.w (upd H a ob) h' a ob) (ht:0 < t':=by first | exact Nat.succ_pos _ | assumption | exact L2.Inv.tk (by assumption) | exact Nat.lt_of_lt_of_le (L2.Inv.tk (by assumption)) (by assumption) | exact Nat.lt_of_lt_of_le (L2.Inv.tk (by assumption)) (Nat.le_add_right _ _)) :
  Inv X pins σ (upd H a ob) { s with heap:=h',toks:=t' }:=
 I.write (x:=a) (e:=a) mu (.inl rfl) (fun b q hb z=>(hs.2 b hb).trans z) he new
theorem dk_new {P:Program} {w:World} {H':Hp} {h':Heap} {kvs:List (Key×V)} {vs:List (Key×Value)} (z:kvs.length ≤ sizeLine) (hd:(a == sysModules)=false) (rel:KV kvs vs) (dd:h'.DictOf (mixKind P w) a vs) :
  ObjOk P w H' h' a (.dK kvs):=⟨z,hd,vs,rel,dd⟩
end
section
variable {X:Cx} {pins:List (Addr×Obj)} {σ:St} {H:Hp} {s:Shared} {a:Addr} {kvs:List (Key×V)} {k:Key} {u:Value} {A:Around} {E:Value→Shared→Prop}
end
section
variable {X:Cx} {o i e value:Expr} {pos pos' tpos:Pos} {td ty tv:TE}
end
theorem dk_empty {P:Program} {w:World} {H:Hp} (h:Heap) (hb:sysModules < h.objs.size):ObjOk P w H (h.push { cls:=.type "dict",data:=.dict #[] }) h.objs.size (.dK []):=
 ⟨Nat.zero_le _,beq_eq_false_iff_ne.mpr (Ne.symm (Nat.ne_of_lt hb)),[],.nil,Heap.DictOf.new h⟩
section
variable {X:Cx} {pos:Pos}
end
def tPairs:List (TE×TE)→St→Hp→(List (V×V)→Hp→Prop)→Prop
 | [],_,H,Q=>Q [] H
 | (tk,tv) :: r,σ,H,Q=>tk σ H fun x H1=>tv σ H1 fun y H2=>tPairs r σ H2 fun ps H3=>Q ((x,y) :: ps) H3
abbrev VV:List (V×V)→List (Value×Value)→Prop:=Paired fun p q=>RelV p.1 q.1∧RelV p.2 q.2
def PPs (X:Cx) (pos:Pos) (keys:List (Option Expr)) (values:List Expr) (trs:List (TE×TE)):Prop:=
 ∀ (pins:List (Addr×Obj)) (s:Shared) (σ:St) (H:Hp) (Q:List (V×V)→Hp→Prop),Inv X pins σ H s→tPairs trs σ H Q →
  wpAny (model X.prog X.w) X.A (evalPairs (pairTrees keys values X.env pos)) (fun vs s'=>∃ ps H',Inv X pins σ H' s'∧VV ps vs∧Q ps H') X.xe s
theorem pps_nil {X:Cx} {pos:Pos}:PPs X pos [] [] []:=fun pins s σ H Q I h=>pairTrees_nil_walk ⟨[],H,I,.nil,h⟩
theorem pps_cons {X:Cx} {pos:Pos} {k v:Expr} {ks:List (Option Expr)} {vs:List Expr} {tk tv:TE} {trs:List (TE×TE)} (hk:PE X k tk) (hv:PE X v tv) (hr:PPs X pos ks vs trs) :
  PPs X pos (some k :: ks) (v :: vs) ((tk,tv) :: trs):=fun pins s σ H Q I h=>
 pairTrees_cons_walk (thn (hk pins s σ H _ I h) fun u s1 ⟨x,H1,I1,rx,q1⟩=>thn (hv pins s1 σ H1 _ I1 q1) fun w2 s2 ⟨y,H2,I2,ry,q2⟩=>
  thn (hr pins s2 σ H2 _ I2 q2) fun ws s3 ⟨ps,H3,I3,rel,q3⟩=>⟨(x,y) :: ps,H3,I3,.cons ⟨rx,ry⟩ rel,q3⟩)
def mergeK (kvs more:List (Key×V)):List (Key×V):=more.foldl (fun acc kv=>putK acc kv.1 kv.2) kvs
theorem KV.merge:∀ {more:List (Key×V)} {rs:List (Key×Value)} {kvs:List (Key×V)} {vs:List (Key×Value)},KV more rs→KV kvs vs→KV (mergeK kvs more) (merged vs rs):=by
 intro more rs kvs vs r
 unfold KV at r
 induction r generalizing kvs vs with
 | nil=>intro q; exact q
 | @cons p q ps qs h t ih=>
  intro r0
  have e:KV (putK kvs p.1 p.2) (stored vs q.1 q.2):=by
   have:=r0.put p.1 h.2
   rw [← h.1]; exact this
  exact ih e
theorem length_mergeK:∀ (more kvs:List (Key×V)),(mergeK kvs more).length ≤ kvs.length + more.length
 | [],kvs=>by show kvs.length ≤ kvs.length + 0; omega
 | p :: r,kvs=>by
  have h1:=length_mergeK r (putK kvs p.1 p.2)
  have h2:=length_putK kvs p.1 p.2
  show (mergeK (putK kvs p.1 p.2) r).length ≤ _
  rw [List.length_cons]; omega
theorem carries_of {P:Program} {w:World}:∀ {kvs:List (Key×V)} {ws:List (Value×Value)},VV (kvs.map fun kv=>(kV kv.1,kv.2)) ws→∃ rs,Carries (mixKind P w) ws rs∧KV kvs rs
 | [],_,r=>by rw [List.map_nil] at r; cases r; exact ⟨[],True.intro,.nil⟩
 | p :: kvs,_,r=>by
  rw [List.map_cons] at r
  cases r with
  | @cons a b as bs h t=>
   obtain ⟨rs,c,q⟩:=carries_of (P:=P) (w:=w) t
   obtain ⟨b1,b2⟩:=b
   exact ⟨(p.1,b2) :: rs,⟨kV_is h.1,rfl,c⟩,.cons ⟨rfl,h.2⟩ q⟩
def tDisp (trs:List (TE×TE)):TE:=fun σ H Q=>∀ p,H p=none→tPairs trs σ (upd H p (.dK [])) fun ps H2=>H2 p=some (.dK [])∧∃ kvs:List (Key×V),ps=kvs.map (fun kv=>(kV kv.1,kv.2))∧kvs.length ≤ 15∧Q (.ref p) (upd H2 p (.dK (mergeK [] kvs)))
theorem pe_disp {X:Cx} {pos:Pos} {keys:List (Option Expr)} {values:List Expr} {trs:List (TE×TE)} (h:PPs X pos keys values trs) (hall:keys.all (·.isSome)=true) (hl:keys.length=values.length) (h0:keys≠[])
  (h15:keys.length ≤ 15):PE X (.Dict keys values pos) (tDisp trs):=by
 intro pins s σ H Q I q
 have hn:=I.hok.fresh (Nat.le_refl s.heap.objs.size)
 have I1:=I.laid (a:=s.heap.objs.size) (o:=.dK []) (h':=s.heap.push { cls:=.type "dict",data:=.dict #[] }) (t':=s.toks) (fun _ _ q=>Heap.get?_push_of_some _ q) (Nat.le_refl _) (dk_empty s.heap I.big)
 refine wpAny_Dict_walk (knd:=mixKind X.prog X.w) hall hl h0 h15 (thn (h pins _ σ _ _ I1 (q _ hn)) fun ws s2 ⟨ps,H2,I2,rel,e,kvs,ep,lk,q2⟩=>?_)
 subst ep
 obtain ⟨rs,c,rk⟩:=carries_of (P:=X.prog) (w:=X.w) rel
 obtain ⟨z,hd,vs0,r0,dd⟩:=dk_of I2.hok e
 cases r0
 refine ⟨rs,c,dd,fun h' dd' hs=>⟨.ref s.heap.objs.size,_,?_,rfl,q2⟩⟩
 have hz:(mergeK [] kvs).length ≤ sizeLine:=by
  have h1:=length_mergeK kvs []
  rw [List.length_nil] at h1
  rw [sizeLine_eq]; omega
 have he:∃ q,h'.get? s.heap.objs.size=some q:=let ⟨q,_,_,hq,_⟩:=dd'; ⟨q,hq⟩
 exact d_write I2 (by rw [e]; exact True.intro) hs he (dk_new hz hd (rk.merge .nil) dd')
structure M2 (X:Cx) (o:Expr) (m:Str) (apos:Pos) (e f:Expr) (cpos:Pos):Prop where
 base:attributeBase o m X.env (eval o X.env)=eval o X.env
 few:((backTo cpos (starEach [e,f] X.env)).all (fun x=>!x.1) && (backToKw cpos (keywordEach [] X.env)).all (fun x=>x.1.isSome)
  && decide (([e,f]:List Expr).length + ([]:List Keyword).length + (if ([]:List Keyword).isEmpty then 0 else 1) < 30))=true
 line:(apos.endLine == cpos.line)=true
 trees:backTo cpos (starEach [e,f] X.env)=[(false,eval e X.env),(false,eval f X.env)]
def IsD (H:Hp) (a:Addr):Prop:=(∃ kvs,Rd H a (.dK kvs))∨∃ kvs,Rd H a (.dT kvs)
theorem isD_at {X:Cx} {pins:List (Addr×Obj)} {σ:St} {H:Hp} {s:Shared} {a:Addr} (I:Inv X pins σ H s) (d:IsD H a) :
  s.TypeIs (.ref a) "dict"∧(∀ b,Value.ref a=.ref b→∃ ob,s.heap.get? b=some ob∧ob.dict=none)∧(a == sysModules)=false:=by
 rcases d with ⟨kvs,e⟩ | ⟨kvs,e⟩
 ·obtain ⟨_,hd,vs,_,dd⟩:=dk_rd I.hok e
  refine ⟨dd.typeIs,fun b q=>?_,hd⟩
  cases q
  obtain ⟨ob,_,_,h1,h2,_⟩:=dd
  exact ⟨ob,h1,h2.2.1⟩
 ·obtain ⟨_,hd,xs,_,dd⟩:=dt_rd I.hok e
  refine ⟨dd.typeIs,fun b q=>?_,hd⟩
  cases q
  obtain ⟨ob,_,_,h1,h2,_⟩:=dd
  exact ⟨ob,h1,h2.2.1⟩
section
variable {X:Cx} {pins:List (Addr×Obj)} {σ:St} {H:Hp} {s:Shared} {a:Addr} {y d:V} {u r:Value} {o:Option V} {A:Around} {E:Value→Shared→Prop}
theorem d_get2 {Q:Value→Shared→Prop} (hu:A.units + 1 < cLine) (I:Inv X pins σ H s) (g:DGet H a y o) (ry:RelV y u) (rd:RelV d r) (h:∀ w' s',Inv X pins σ H s'→RelV (o.getD d) w'→Q w' s') :
  wpAny (model X.prog X.w) A (call (.builtin "dict.get") [.ref a,u,r]) Q E s:=by
 rcases g with ⟨kvs,k,e,ey,l⟩ | ⟨kvs,k,b,e,ey,eb,l⟩
 ·subst ey
  obtain ⟨z,hd,vs,rel,dd⟩:=dk_rd I.hok e
  refine call_meetsIn PySem.F.slot_dict_get dd.typeIs PySem.F.entry_dict_get (PySem.F.args_dict_get_3 _ _ _) (meets_dict_get_default (mixKind X.prog X.w) a (kV_is ry) hd r) ⟨_,dd.mapOf,h _ _ (I.tok _) ?_⟩
  rw [l]
  exact (rel.val k).getD rd
 ·subst ey
  cases (show u=Value.ref b from ry)
  obtain ⟨z,hd,xs,rel,dd⟩:=dt_rd I.hok e
  refine call_meetsIn PySem.F.slot_dict_get dd.typeIs PySem.F.entry_dict_get (PySem.F.args_dict_get_3 _ _ _) (meetsH_dict_get_default (tupleKind (mixKind X.prog X.w)) a b hd r) ⟨tupleKind_room_in1 hu,k,xs,key_of I.hok eb,dd,h _ _ (I.tok _) ?_⟩
  rw [l]
  exact (rel.val k).getD rd
end
def tDGet2 (td ty tx:TE):TE:=fun σ H Q=>td σ H fun x H1=>∃ a,x=.ref a∧IsD H1 a∧ty σ H1 fun y H2=>tx σ H2 fun z H3=>∃ o,DGet H3 a y o∧Q (o.getD z) H3
section
variable {X:Cx} {o e f:Expr} {apos cpos:Pos} {td ty tx:TE}
theorem pe_dget2 (hu:X.A.units + 1 < cLine) (ho:PE X o td) (he:PE X e ty) (hf:PE X f tx) (m:M2 X o "get" apos e f cpos):PE X (.Call (.Attribute o "get" apos) [e,f] [] cpos) (tDGet2 td ty tx):=by
 intro pins s σ H Q I h
 refine wpAny_Call_method m.base m.few m.line PySem.F.plainAttrs_dict PySem.F.slot_dict_get PySem.F.type_dict_get (thn (ho pins s σ H _ I h) fun u s1 ⟨x,H1,I1,rx,a,ex,d,q1⟩=>?_)
 subst ex
 obtain rfl:u=Value.ref a:=rx
 obtain ⟨t1,t2,_⟩:=isD_at I1 d
 refine ⟨t1,t2,?_⟩
 rw [m.trees]
 refine Calls.callWith_builtin rfl (Calls.evalArgs_plain (Calls.spliced_cons (thn (he pins s1 σ H1 _ I1 q1) fun iv s2 ⟨y,H2,I2,ry,q2⟩=>
  Calls.spliced_cons (thn (hf pins s2 σ H2 _ I2 q2) fun fv s3 ⟨z,H3,I3,rz,ov,g,q3⟩=>Calls.spliced_nil ?_))))
 exact d_get2 hu I3 g ry rz fun w' s4 I4 rw'=>⟨_,H3,I4,rw',q3⟩
end
section
variable {X:Cx} {pins:List (Addr×Obj)} {σ:St} {H:Hp} {s:Shared} {a:Addr} {kvs:List (Key×V)} {A:Around} {E:Value→Shared→Prop}
end
section
variable {X:Cx} {pins:List (Addr×Obj)} {σ:St} {H:Hp} {s:Shared} {a:Addr} {y:V} {u:Value} {A:Around} {E:Value→Shared→Prop}
end
end L2
namespace L2
open PySem PySem.Spec PyProof.Rows
section
variable {X:Cx}
end
section
variable {κ:Type} [DecidableEq κ]
end
end L2
end
section
namespace L2
open PySem PySem.Spec PyProof.Rows
section
variable {es:List Expr} {env:Env}
end
section
variable {X:Cx}
end
section
variable {ix:Cap} {tt:TT} {te:TE} {g:TG} {σ:St} {H:Hp} {Q:VK}
def NxtG (Pv:Nat→List V→Hp→Prop) (n i:Nat) (ys:List V):VK:=fun y H2=>∃ m',m' < n - i∧m'=n - (i + 1)∧i + 1 ≤ n∧(ys++[y]).length ≤ i + 1∧Pv (i + 1) (ys++[y]) H2
def NxtN (Pv:Nat→List V→Hp→Prop) (n i:Nat) (ys:List V):Hp→Prop:=fun H2=>∃ m',m' < n - i∧m'=n - (i + 1)∧i + 1 ≤ n∧ys.length ≤ i + 1∧Pv (i + 1) ys H2
theorem nxtG {Pv:Nat→List V→Hp→Prop} {n i:Nat} {ys:List V} {y:V} {H2:Hp} (hi:i < n) (hl:ys.length ≤ i) (h:Pv (i + 1) (ys++[y]) H2):NxtG Pv n i ys y H2:=
 ⟨n - (i + 1),by omega,rfl,hi,by rw [List.length_append,List.length_singleton]; omega,h⟩
theorem nxtN {Pv:Nat→List V→Hp→Prop} {n i:Nat} {ys:List V} {H2:Hp} (hi:i < n) (hl:ys.length ≤ i) (h:Pv (i + 1) ys H2):NxtN Pv n i ys H2:=
 ⟨n - (i + 1),by omega,rfl,hi,by omega,h⟩
theorem comp_listG {K:PySem.W.Frag} {a:Addr} {xs:List V} (Pv:Nat→List V→Hp→Prop) (h0:Pv 0 [] H) (hn:xs.length < sizeLine) (hl':∀ i ys H,i ≤ xs.length→Pv i ys H→SqL K H a xs)
  (hs:∀ i x ys H,xs[i]?=some x→i < xs.length→ys.length ≤ i→Pv i ys H→g x (capt ix σ) H fun σ2 H2=>Ext (capt ix σ) σ2∧tt σ2 H2 fun b H3=>if b=true then te σ2 H3 (NxtG Pv xs.length i ys) else NxtN Pv xs.length i ys H3)
  (hd:∀ ys H,ys.length ≤ xs.length→Pv xs.length ys H→∀ D,H D=none→Q (.ref D) (upd H D (.lst ys))):CompGo (Itl K a) ix g tt te σ H Q:=by
 refine ⟨fun i m ys H=>m=xs.length - i∧i ≤ xs.length∧ys.length ≤ i∧Pv i ys H,⟨xs.length,by simp,Nat.zero_le _,Nat.le_refl _,h0⟩,?_⟩
 rintro i m ys H ⟨rfl,hi,hl,p⟩
 have q:=hl' i ys H hi p
 by_cases hlt:i < xs.length
 ·refine .inr ⟨⟨xs,xs[i],q,by simp [hlt]⟩,by omega,fun v H' y=>?_⟩
  obtain ⟨e,y⟩:=y
  subst e
  exact hs i v ys _ (y xs q) hlt hl p
 ·have e:i=xs.length:=by omega
  subst e
  exact .inl ⟨⟨xs,q,Nat.le_refl _⟩,hd ys H hl p⟩
end
section
variable {X:Cx}
end
end L2
namespace L2
open PySem PySem.Spec PyProof.Rows
section
variable {X:Cx}
end
end L2
namespace L2
open PySem PySem.Spec PyProof.Rows
section
variable {X:Cx} {K:PySem.W.Frag}
theorem ix_tupC (h:X.K=K):IxR X (rIxT K):=by subst h; exact ix_tup
theorem ix_listC (h:X.K=K):IxR X (rIxL K):=by subst h; exact ix_list
theorem call_len_seqC (h:X.K=K):CallR X (.builtin "len") (fun xs H Q=>∃ p ys,xs=[.ref p]∧(SqL K H p ys∨SqT K H p ys)∧Q (.int ys.length) H):=by subst h; exact call_len_seq
theorem pg_tupC {es:List Expr} {k:Nat} {t:TGs} {n:Nat} {pos:Pos} (hK:X.K=K) (hc:X.calm=true) (h:PGs X es t)
  (hn:(assignEach es X.env).length=n:=by rfl) (hst:(assignEach es X.env).findIdx? (·.1)=none:=by rfl):PG X (.Tuple es k pos) (gTup K n t):=by subst hK; exact pg_tup hc h hn hst
end
end L2
end
section
namespace Zt
open PySem PySem.Spec PyProof.Rows
section
variable {prog:Program} {w:World} {A:Around} {E:Value→Shared→Prop} {s:Shared}
end
end Zt
namespace L2
open PySem PySem.Spec PyProof.Rows
section
variable {X:Cx} {pins:List (Addr×Obj)} {σ:St} {H:Hp} {s:Shared} {h':Heap}
end
section
variable {X:Cx}
end
section
variable {ix:Cap} {tt:TT} {te:TE} {g:TG} {σ:St} {H:Hp} {Q:VK}
end
end L2
end
section
namespace M
open PySem L2
end M
end
section
namespace St
open PySem PySem.Spec PyProof.Rows
section
variable {prog:Program} {w:World} {A:Around} {R:Result→Shared→Prop} {I:Addr} {fp wr:List Addr} {G:Array GenState→Array GenState→Prop} {n:Nat} {P:Nat→Value→Prop} {St:Nat→Shared→Prop}
end
section
variable {prog:Program} {w:World} {A:Around} {E:Value→Shared→Prop} {s:Shared}
end
end St
end
section
namespace St
open PySem PySem.Spec PyProof.Rows
section
variable {prog:Program} {w:World} {A:Around} {E:Value→Shared→Prop} {s:Shared} {a:Addr} {ep:Nat} {t:SetTable}
end
end St
namespace L2
open PySem PySem.Spec PyProof.Rows
end L2
end
section
namespace M
open PySem L2
section
variable {X:Cx} {pins:List (Addr×Obj)} {σ:St} {H:Hp} {s:Shared}
end
end M
end
section
namespace M
open PySem L2
end M
namespace L2
open PySem PySem.Spec PyProof.Rows
end L2
end
section
namespace M
open PySem L2
end M
namespace L2
open PySem PySem.Spec PyProof.Rows
end L2
namespace L2
end L2
namespace M
open PySem L2
end M
namespace M
open PySem L2
end M
end
section
namespace M
open PySem L2
end M
end
section
namespace M
open PySem L2
end M
end
section
end
section
end
section
namespace St
open PySem PySem.Spec PyProof.Rows
end St
namespace L2
open PySem PySem.Spec PyProof.Rows
end L2
end
section
namespace M
open PySem L2
end M
end
section
namespace M
open PySem L2
end M
end
section
namespace M
open PySem L2
end M
end
section
namespace M
open PySem L2
end M
end
section
namespace Nt
open PySem
section
variable {prog:Program} {w:World} {A:Around} {E:Value→Shared→Prop} {s:Shared}
end
section
variable {prog:Program} {w:World} {A:Around} {E:Value→Shared→Prop} {s:Shared}
end
end Nt
end
section
namespace L2
open PySem PySem.Spec PyProof.Rows
section
variable {X:Cx}
end
end L2
end
section
namespace L2
open PySem PySem.Spec PyProof.Rows M
section
variable {X:Cx}
end
section
variable {ix:Cap} {tt:TT} {te:TE} {g:TG} {σ:St} {H:Hp} {Q:VK}
end
end L2
end
section
namespace L2
open PySem PySem.Spec PyProof.Rows M
section
variable {X:Cx}
end
end L2
namespace HT
open PySem PySem.Spec PyProof.Rows L2
section
variable {prog:Program} {w:World} {A:Around} {E:Value→Shared→Prop} {s:Shared}
end
end HT
namespace L2
open PySem PySem.Spec PyProof.Rows M
section
variable {X:Cx}
end
end L2
end
section
end
section
end
section
namespace M
open PySem L2
end M
end
section
namespace L2
open PySem PySem.Spec PyProof.Rows M
section
variable {X:Cx}
def rEqE (K:PySem.W.Frag):R2:=fun x y H Q=>∃ a b xs,x=.ref a∧y=.ref b∧SqL K H a xs∧SqL K H b []∧Q (.bl xs.isEmpty) H
theorem op_eqE (hu:X.A.units < cLine):OpR X (compareOp .Eq) (rEqE X.K):=by
 intro pins s σ H x y v u Q I rx ry h
 obtain ⟨a,b,xs,rfl,rfl,ha,hb,q⟩:=h
 cases rx
 cases ry
 obtain ⟨its,r1,p1,_⟩:=I.list ha
 obtain ⟨its2,r2,p2,_⟩:=I.list hb
 have l1:=r1.length
 have l2:=r2.length
 cases xs with
 | nil=>
  refine SeqAt.eq_listAt (e:=fun _=>true) p1.isList p2.isList (by simp only [List.size_toArray]; omega) hu (fun j h1 h2=>?_) ⟨.bl _,H,I,rfl,?_⟩
  ·simp only [List.size_toArray] at h1
   simp at l1
   omega
  ·have:its=[]:=List.eq_nil_of_length_eq_zero (by simpa using l1.symm)
   subst this
   exact q
 | cons x xs=>
  refine PySem.EqBoolInt.of_rc (SeqAt.RcAt.lists_lengths p1.isList p2.isList (by simp only [List.size_toArray]; simp at l1 l2 ⊢; omega) hu) ⟨.bl _,H,I,rfl,?_⟩
  simpa using q
end
end L2
end
section
namespace St
open PySem PySem.Spec PyProof.Rows
end St
namespace L2
open PySem PySem.Spec PyProof.Rows
theorem kit_none {K:PySem.W.Frag} {t:Value}:∀ {cs:List Value},(∀ c∈cs,PySem.W.kitOne K t c=some false)→PySem.W.kitAny K t cs=some false
 | [],_=>rfl
 | c :: cs,h=>by
  unfold PySem.W.kitAny
  rw [h c (by simp)]
  exact kit_none fun d hd=>h d (by simp [hd])
open PySem.W in
def xTable2 (K:Frag):Bool:=xIn K (ad K "SwapError") bmV "ValueError.__new__" && (List.range 11).all (fun i=>mroIn K (cAt K i) (.ref (ad K "SwapError")) == some true)
structure XTab2 (K:PySem.W.Frag):Prop where
 obj:xIn K (ad K "SwapError") bmV "ValueError.__new__"=true
 mro:∀ i,i < 11→PySem.W.mroIn K (cAt K i) (.ref (ad K "SwapError"))=some true
theorem xtab2_of {K:PySem.W.Frag} (e:xTable2 K=true):XTab2 K:=by
 unfold xTable2 at e
 simp only [Bool.and_eq_true,List.all_eq_true,List.mem_range,beq_iff_eq] at e
 exact ⟨e.1,e.2⟩
end L2
namespace L2
open PySem PySem.Spec PyProof.Rows
theorem excF_inj {e C C':Addr} {d d':Option Addr} {c c':Value} (h:excF e C d c=excF e C' d' c'):C=C'∧d=d':=by
 unfold excF at h
 injection h with h
 let o:Obj:={ cls:=.ref C,dict:=d,data:=.fields #[.none,.none,c,.none,.none,.none] }
 let hp:Heap:={ objs:=Array.replicate (e + 1) o }
 have hg:hp.get? e=some o:=by
  unfold Heap.get?
  have:hp.objs[e]?=some o:=by
   show (Array.replicate (e + 1) o)[e]?=some o
   simp
  rw [this]
 have h1:=congrFun h hp
 have h2:∃ vs:Array Value,(vs.size=6∧vs[2]?=some c)∧hp.get? e=some { cls:=.ref C,dict:=d,data:=.fields vs }:=⟨_,⟨rfl,rfl⟩,hg⟩
 rw [h1] at h2
 obtain ⟨vs,_,h3⟩:=h2
 rw [hg] at h3
 have h4:=Option.some.inj h3
 have h5:Value.ref C=Value.ref C':=congrArg Obj.cls h4
 have h6:d=d':=congrArg Obj.dict h4
 exact ⟨by injection h5,h6⟩
end L2
end
section
namespace L2
open PySem PySem.Spec PyProof.Rows
section
variable {X:Cx}
theorem comp_blockX {Cp:Cx→Prop} {Er:Addr→Shared→Hp→List Addr→Value→Shared→Prop} {elt tg iter:Expr} {ifs:List Expr} {sc:Scope} {pos:Pos} {N':List Str} {ix:Cap} {g:TG} {tt:TT} {te:TE} {pins:List (Addr×Obj)} {σ:St} {s:Shared} {Q:VK} {RR:Value→Addr→Result→Shared→Prop} {E:Value→Shared→Prop}
  {itv:Value} (hc:∀ C s₀ H₀ ex,Cp (X.comp sc N' C s₀ H₀ ex)) (ok:CapOk X.N N' X.env.scope sc ix)
  (hg:∀ C s₀ H₀ ex,PG (X.comp sc N' C s₀ H₀ ex) tg g) (ht:∀ C s₀ H₀ ex,PTs (X.comp sc N' C s₀ H₀ ex) ifs tt) (he:∀ C s₀ H₀ ex,PE ((X.comp sc N' C s₀ H₀ ex).wish (Er C s₀ H₀ ex)) elt te)
  (hi:PIEQ Cp X pins σ tg (fun J H1=>CompGo J ix g tt te σ H1 Q) itv s)
  (fin:∀ (D C:Addr) (s':Shared) (H':Hp) (m:Str→Option Value),Inv X pins σ H' s'→Q (.ref D) H'→s'.heap.Ns C m→H' C=none→C≠X.env.locals→X.s₀.heap.objs.size ≤ C→(∀ x c,X.env.cells.lookup x=some c→c≠C)→(∀ p∈X.pn++pins,p.1≠C) →
   RR (.ref D) C (.ok .next) s')
  (bad:∀ (D C:Addr) (H2:Hp) (fp:List Addr) (e:Value) (s':Shared),Inv X pins σ H2 s→(∀ b∈fp,FpOk X pins H2 b)→s.heap.objs.size ≤ C→Er C s H2 fp e s'→notedBy (model X.prog X.w) X.A (compEnvC sc (clOf X.env sc.names []) C X.env) (fun e s'=>RR (.ref D) C (.error e) s') e s') :
  wpAny (model X.prog X.w) X.A (newList []) (fun acc s₃=>wpAny (model X.prog X.w) X.A (newFunctionEnv sc X.env.globals (clOf X.env sc.names []) [] X.env.qual none .none (some X.env)) (fun cenv s₄=>
   codeAny (model X.prog X.w) X.A (.compStart (.ListComp elt [⟨tg,iter,ifs,0⟩] sc pos) 0 itv acc { cenv with scope:=relabel sc X.env }) (RR acc cenv.locals) s₄) E s₃) E s:=by
 obtain ⟨it,fp,tn,J,H2,rfl,I2,T,st2,f2,W,⟨m0,w0⟩,turn⟩:=hi
 refine wpAny_newObj_type (wpAny_newFunctionEnv ok.nocell (by intro y hy; simp at hy) (fun h₁ hns₁ hsb₁=>?_) ok.kind)
 dsimp only at hns₁ hsb₁ ⊢
 generalize hHD:s.heap.push { cls:=.type "list",dict:=none,data:=.seq ([]:List Value).toArray }=hD at hns₁ hsb₁ ⊢
 have hCs:hD.objs.size=s.heap.objs.size + 1:=by rw [← hHD,Heap.size_push]
 have upC:s.heap.objs.size < hD.objs.size:=by rw [hCs]; exact Nat.lt_succ_self _
 have hDC:s.heap.objs.size≠hD.objs.size:=by rw [hCs]; exact Nat.ne_of_lt (Nat.lt_succ_self _)
 have below:∀ b o,s.heap.get? b=some o→b≠hD.objs.size∧b≠s.heap.objs.size:=fun b o e=>by
  have:=Heap.lt_size e
  exact ⟨Nat.ne_of_lt (by rw [hCs]; exact Nat.lt_succ_of_lt this),Nat.ne_of_lt this⟩
 have old:∀ b o,s.heap.get? b=some o→h₁.get? b=some o:=fun b o e=>hsb₁.extBut b o (below b o e).1 (Heap.get?_push_of_some _ (hHD ▸ Heap.get?_push_of_some _ e))
 have hacc:h₁.get? s.heap.objs.size=some { cls:=.type "list",data:=.seq ([]:List Value).toArray 0 }:=hsb₁.extBut _ _ hDC (Heap.get?_push_of_some _ (hHD ▸ Heap.get?_push_size _ rfl))
 have fpo:∀ b∈fp,b < s.heap.objs.size:=fun b hb=>let ⟨o,e,_⟩:=T.obj _ _ st2 b hb; Heap.lt_size e
 have cellX:∀ x c,(clOf X.env sc.names []).lookup x=some c→X.env.cells.lookup x=some c:=fun x c e=>clOf_from (fun p hp=>absurd hp (by simp)) e
 have cellLt:∀ x c,X.env.cells.lookup x=some c→c < s.heap.objs.size:=fun x c e=>let ⟨v,z⟩:=I2.cell x c e; z.lt
 have hasC:∀ x,(x,NameKind.free)∈sc.names→∃ c,(clOf X.env sc.names []).lookup x=some c:=fun x hx=>by
  have h1:=I2.ok.has x (ok.fre (x,.free) hx rfl)
  exact lookup_ne_none (clOf_has (.inr ⟨hx,h1⟩))
 have okX:(X.comp sc N' hD.objs.size s H2 fp).Ok:=by
  refine ⟨I2.ok.mod,ok.kind,I2.ok.glob,I2.ok.blt,?_,?_,?_,?_,I2.ok.hd,I2.ok.frames,.inl rfl,?_,I2.bs,Nat.le_trans I2.ok.bsz I2.sz,?_,?_,I2.stack,I2.stkFree⟩
  ·exact Nat.le_of_lt upC
  ·intro x y c h1 h2
   exact I2.ok.inj x y c (cellX x c h1) (cellX y c h2)
  ·intro x hx
   have hx':(relabel sc X.env).names.lookup x=some .cell∨(relabel sc X.env).names.lookup x=some .free:=hx
   have:∃ k,sc.names.lookup x=some k∧(k=.free∨k=.cell):=by
    rcases hx' with h | h
    ·obtain ⟨k,e,z⟩:=relabel_lookup h
     rcases z with z | ⟨z,_⟩
     ·exact ⟨k,e,.inr z.symm⟩
     ·exact ⟨k,e,.inl z⟩
    ·obtain ⟨k,e,z⟩:=relabel_lookup h
     rcases z with z | ⟨_,z⟩
     ·exact ⟨k,e,.inl z.symm⟩
     ·cases z
   obtain ⟨k,e,z⟩:=this
   rcases z with rfl | rfl
   ·exact hasC x (PySem.mem_of_lookup e)
   ·exact absurd rfl (ok.nocell _ (PySem.mem_of_lookup e))
  ·intro x c h _
   cases h
  ·intro b hb
   refine ⟨?_,fun x c e=>(f2 b hb).2.2.2.2.1 x c (cellX x c e)⟩
   exact Nat.ne_of_lt (by rw [hCs]; exact Nat.lt_succ_of_lt (fpo b hb))
  ·intro b o e hb
   rcases (f2 b hb).2.2.2.1 with z | z
   ·exact I2.ok.noex b o e z
   ·exact absurd (Nat.lt_of_lt_of_le (Heap.lt_size (I2.ok.bs b o e).1) z) (Nat.lt_irrefl _)
  ·intro b hb z
   rcases List.mem_cons.mp (I2.stkSub b z) with z | z
   ·exact (f2 b hb).2.1 z
   ·exact (f2 b hb).2.2.1 z
 have hnD:H2 s.heap.objs.size=none:=I2.hok.fresh (Nat.le_refl _)
 have hnC:H2 hD.objs.size=none:=I2.hok.fresh (Nat.le_of_lt upC)
 have nofsD:∀ a,s.heap.objs.size ≤ a→a ∉ frs X.stack:=fun a ha z=>by
  rcases List.mem_cons.mp (I2.stkSub a z) with z | z
  ·exact absurd (Nat.lt_of_lt_of_le I2.lt ha) (by rw [z]; exact Nat.lt_irrefl _)
  ·exact I2.nofs ha z
 have start:Inv (X.comp sc N' hD.objs.size s H2 fp) [(s.heap.objs.size,{ cls:=.type "list",data:=.seq ([]:List Value).toArray 0 })] (capt ix σ) H2 { s with heap:=h₁,toks:=s.toks + ([]:List (Str×Value)).length }:=by
  refine ⟨okX,rfl,I2.bare,Un.kept old,⟨_,hns₁,?_⟩,fun x c e=>?_,hnC,fun x c e=>I2.freeC x c (cellX x c e),fun p hp=>?_,I2.hok.kept old,?_,Nat.lt_of_lt_of_le I2.tk (Nat.le_add_right _ _)⟩
  ·intro i x v hN hv hvis
   have hl:i < ix.length:=by rw [ok.len]; exact (List.getElem?_eq_some_iff.mp hN).1
   have hv':(ix.map fun o=>(o.bind fun j=>σ[j]?).join)[i]?=some (some v):=hv
   rw [List.getElem?_map,List.getElem?_eq_getElem hl] at hv'
   have hv'':((ix[i].bind fun j=>σ[j]?).join)=some v:=Option.some.inj hv'
   cases ej:ix[i] with
   | none=>rw [ej] at hv''; cases hv''
   | some j=>
    rw [ej] at hv''
    have hσ:σ[j]?=some (some v):=by
     have z:(σ[j]?).join=some v:=hv''
     cases q:σ[j]? with
     | none=>rw [q] at z; cases z
     | some o=>rw [q] at z; exact congrArg some z
    obtain ⟨x',e1,e2,e3⟩:=ok.cap i j (by rw [List.getElem?_eq_getElem hl,ej])
    rw [show N'[i]?=some x from hN] at e1
    cases e1
    have hk:=ok.fre (x,.free) (PySem.mem_of_lookup e3) rfl
    obtain ⟨m,hm,hl'⟩:=I2.loc
    obtain ⟨u,ru,lk⟩:=hl' j x v e2 hσ (hk.elim (fun z=>.inr (.inl z)) fun z=>.inr (.inr z))
    refine ⟨u,ru,.inr ⟨?_,?_⟩⟩
    ·show (relabel sc X.env).names.lookup x=some .cell∨(relabel sc X.env).names.lookup x=some .free
     obtain ⟨k',q1,q2⟩:=relabel_has (env:=X.env) e3
     rcases q2 with q2 | ⟨_,q2⟩
     ·exact .inr (q1.trans (congrArg some q2))
     ·exact .inl (q1.trans (congrArg some q2))
    ·obtain ⟨c,hc'⟩:=hasC x (PySem.mem_of_lookup e3)
     refine ⟨c,hc',?_⟩
     rcases lk with ⟨z,_⟩ | ⟨_,c',ec,⟨o,ho,hd⟩⟩
     ·have z':X.env.scope.names.lookup x=some .local:=z
      rcases hk with hk | hk
      ·rw [z'] at hk; cases hk
      ·rw [z'] at hk; cases hk
     ·rw [cellX x c hc'] at ec
      cases ec
      exact ⟨o,old _ _ ho,hd⟩
  ·obtain ⟨v,o,ho,hd⟩:=I2.cell x c (cellX x c e)
   exact ⟨v,o,old _ _ ho,hd⟩
  ·have e:p=(s.heap.objs.size,{ cls:=.type "list",data:=.seq ([]:List Value).toArray 0 }):=by simpa using hp
   subst e
   exact ⟨hacc,hnD,hDC,nofsD _ (Nat.le_refl _),fun v z=>by cases z⟩
  ·show (ix.map _).length=N'.length
   rw [List.length_map]
   exact ok.len
 have st1:tn 0 h₁:=T.keep _ _ _ st2 fun b hb o e=>old b o e
 have loop:∀ s₃:Shared,s₃={ s with heap:=h₁,toks:=s.toks + ([]:List (Str×Value)).length } →
   codeAny (model X.prog X.w) X.A (.compLoop (.ListComp elt [⟨tg,iter,ifs,0⟩] sc pos) 0 (.ref it) (.ref s.heap.objs.size) (compEnvC sc (clOf X.env sc.names []) hD.objs.size X.env))
    (RR (.ref s.heap.objs.size) hD.objs.size) s₃:=by
  rintro s₃ rfl
  have fpI:∀ {H':Hp} {o:Obj},(∀ b∈fp,H' b=none)→∀ b∈fp,FpOk (X.comp sc N' hD.objs.size s H2 fp) [(s.heap.objs.size,o)] H' b:=fun {H' o} hn b hb=>by
   have hlt:=fpo b hb
   refine ⟨hn b hb,(okX.exf b hb).1,okX.exfs b hb,.inl hb,(okX.exf b hb).2,fun p hp=>?_⟩
   have e:p=(s.heap.objs.size,o):=by simpa using hp
   subst e
   exact Nat.ne_of_gt hlt
  refine codeAny_compLoop_own (fun n s'=>∃ i ys its k H',Inv (X.comp sc N' hD.objs.size s H2 fp) [(s.heap.objs.size,{ cls:=.type "list",data:=.seq its.toArray k })] (capt ix σ) H' s'∧Vals ys its∧ys.length ≤ sizeLine∧tn i s'.heap∧(∀ b∈fp,H' b=none)∧W i n ys H')
   ?_ m0 ⟨0,[],[],0,H2,start,.nil,Nat.zero_le _,st1,fun b hb=>(f2 b hb).1,w0⟩
  rintro n s4 ⟨i,ys,its,k,H4,I4,r4,z4,st4,fr4,w4⟩
  rcases turn i n ys H4 w4 with ⟨stop,q⟩ | ⟨go,hz,step⟩
  ·refine no_exc (thn (T.done (X.comp sc N' hD.objs.size s H2 fp) rfl rfl rfl (hc _ _ _ _) i _ s4 _ H4 (fun _ _=>False) I4 (fpI fr4) st4 stop) fun r s5 ⟨hr,I5⟩=>?_)
   subst hr
   show RR (.ref s.heap.objs.size) hD.objs.size (.ok .next) s5
   obtain ⟨pD,nD,_,_,_⟩:=I5.pin (s.heap.objs.size,{ cls:=.type "list",data:=.seq its.toArray k }) (by simp)
   obtain ⟨m5,hm5,_⟩:=I5.loc
   have okD:HOk X.prog X.w (upd H4 s.heap.objs.size (.lst ys)) s5.heap:=I5.hok.track nD ⟨z4,its,k,r4,pD⟩
   have un:Un (frs X.stack) fp H2 (upd H4 s.heap.objs.size (.lst ys)) s.heap s5.heap:=by
    have B:Un (frs X.stack) fp H2 H4 s.heap s5.heap:=I5.base
    have ne:∀ b u,H2 b=some u→b≠s.heap.objs.size:=fun b u e=>ne_of_none e hnD
    refine ⟨B.keep,B.slot,fun b o e n hb=>?_,B.there,fun b xs e=>?_,fun b o u e=>?_,fun b ps e=>?_⟩
    ·rw [upd_ne (below b o e).2]; exact B.free b o e n hb
    ·rw [upd_ne (ne b _ e)]; exact B.tups b xs e
    ·rw [upd_ne (ne b _ e)]; exact B.frzs b o u e
    ·rw [upd_ne (ne b _ e)]; exact B.tbls b ps e
   have IX:Inv X pins σ (upd H4 s.heap.objs.size (.lst ys)) s5:=I2.call' (ch:=fp) I5.os un okD I5.bare (fun b hb=>⟨(f2 b hb).2.2.2.1,(f2 b hb).2.1,(f2 b hb).2.2.2.2.1,(f2 b hb).2.2.2.2.2⟩) I5.tk
   refine fin _ _ s5 _ m5 IX (q _ nD) hm5 ?_ (Nat.ne_of_gt (Nat.lt_trans I2.lt upC)) (Nat.le_of_lt (Nat.lt_of_le_of_lt I2.sz upC)) (fun x c e=>Nat.ne_of_lt (Nat.lt_trans (cellLt x c e) upC)) (fun p hp=>Nat.ne_of_lt (Nat.lt_trans (Heap.lt_size (I2.pin p hp).1) upC))
   rw [upd_ne (Ne.symm hDC)]; exact I5.free
  ·refine no_exc (thn (T.item (X.comp sc N' hD.objs.size s H2 fp) rfl rfl rfl (hc _ _ _ _) i _ s4 _ H4 (fun _ _=>False) I4 (fpI fr4) st4 go) fun r s5 ⟨u,hr,h5⟩=>?_)
   subst hr
   refine no_exc (thn h5 fun _ s6 ⟨x,H6,I6,r6,y6,st6,fr6⟩=>?_)
   have I6':=I6.pinned (fpI fr6) (T.obj _ _ st6)
   refine no_exc (thn (hg _ _ _ _ _ s6 _ H6 x u _ I6' r6 (step x H6 y6)) fun _ s7 ⟨σ7,H7,I7,x7,q7⟩=>?_)
   refine no_exc (thn (ht _ _ _ _ _ s7 σ7 H7 _ I7 q7) fun b s8 ⟨H8,I8,q8⟩=>?_)
   have back:∀ {s9:Shared} {H9:Hp},Inv (X.comp sc N' hD.objs.size s H2 fp) ([(s.heap.objs.size,{ cls:=.type "list",data:=.seq its.toArray k })]++pinsAt fp s6.heap) σ7 H9 s9 →
     Inv (X.comp sc N' hD.objs.size s H2 fp) [(s.heap.objs.size,{ cls:=.type "list",data:=.seq its.toArray k })] (capt ix σ) H9 s9∧tn (i + 1) s9.heap∧(∀ b∈fp,H9 b=none):=fun {s9 H9} J9=>by
    refine ⟨(J9.unpinned).weak x7.1 x7.2,T.keep _ _ _ st6 fun b hb o e=>(J9.pin (b,o) (List.mem_append_right _ (List.mem_append_right _ (mem_pinsAt hb e)))).1,fun b hb=>?_⟩
    obtain ⟨o,e,d⟩:=T.obj _ _ st6 b hb
    exact (J9.pin (b,o) (List.mem_append_right _ (List.mem_append_right _ (mem_pinsAt hb e)))).2.1
   cases b with
   | false=>
    rw [if_neg Bool.false_ne_true] at q8 ⊢
    obtain ⟨m',hm,w8⟩:=q8
    obtain ⟨J8,st8,fr8⟩:=back I8
    exact ⟨m',hm,i + 1,ys,its,k,H8,J8,r4,z4,st8,fr8,w8⟩
   | true=>
    rw [if_pos rfl] at q8 ⊢
    refine wpAny_mono (he _ _ _ _ _ s8 σ7 H8 _ (I8.wish _) q8) (fun y s9 ⟨v9,H9,I9',r9,q9⟩=>?_) (fun e s9 hx=>bad _ _ H2 fp e s9 I2 f2 (Nat.le_of_lt upC) hx)
    have I9:=I9'.unwish
    obtain ⟨m',hm,w9⟩:=q9
    obtain ⟨J9,st9,fr9⟩:=back I9
    obtain ⟨pD,nD,neC,nf,_⟩:=J9.pin (s.heap.objs.size,{ cls:=.type "list",data:=.seq its.toArray k }) (by simp)
    have hlen:=r4.length
    refine call_meets F.slot_list_append ⟨_,pD,rfl⟩ F.entry_list_append (F.args_list_append_2 _ _) (PySem.list_append s.heap.objs.size its.toArray k y (by rw [List.size_toArray]; omega)) ⟨pD,?_⟩
    have q:=PySem.IsL.update pD (·.push y)
    have ep:its.toArray.push y=(its++[y]).toArray:=by simp
    dsimp only at q
    rw [ep] at q
    obtain ⟨k',q⟩:∃ k',(s9.heap.update s.heap.objs.size (Obj.mapSeq (·.push y))).get? s.heap.objs.size=some { cls:=.type "list",data:=.seq (its++[y]).toArray k' }:=⟨_,q⟩
    have J0:Inv (X.comp sc N' hD.objs.size s H2 fp) [] (capt ix σ) H9 s9:=J9.pins_of fun p hp=>absurd hp (by simp)
    have J1:Inv (X.comp sc N' hD.objs.size s H2 fp) [] (capt ix σ) H9 { s9 with heap:=s9.heap.update s.heap.objs.size (Obj.mapSeq (·.push y)) }:=
     J0.turned (it:=s.heap.objs.size) (t':=s9.toks) (fun b o hb e=>(Heap.get?_update_other _ _ (Ne.symm hb)).trans e) nD neC (.inr (Nat.le_refl _)) (fun x c e=>Nat.ne_of_lt (cellLt x c (cellX x c e))) fun p hp=>absurd hp (by simp)
    refine ⟨m',hm,i + 1,ys++[v9],its++[y],k',H9,J1.pins_of fun p hp=>?_,r4.append (.cons r9 .nil),?_,T.keep _ _ _ st9 fun b hb o e=>(Heap.get?_update_other _ _ ?_).trans e,fr9,w9⟩
    ·have e:p=_:=List.mem_singleton.mp hp
     subst e
     exact ⟨q,nD,neC,nf,fun v z=>by cases z⟩
    ·rw [List.length_append,List.length_singleton]; omega
    ·exact Nat.ne_of_gt (fpo b hb)
 exact codeAny_compStart_list (loop _ rfl) (T.self _ 0 _ _ _ st1 (loop _ rfl))
def tCompX (ix:Cap) (wi:TI) (g:TG) (tt:TT) (te:XS→TE) (E:XS):TE:=fun σ H Q=>wi σ H fun J H1=>CompGo J ix g tt (te fun v d _ H'=>E v d σ H') σ H1 Q
theorem pe_compX {E:XS} {elt tg iter:Expr} {ifs:List Expr} {sc:Scope} {pos:Pos} (N':List Str) (ix:Cap) {wi:TI} {g:TG} {tt:TT} {te:XS→TE} (hst:X.stack=X.env :: X.outer) (hf:X.env.frame=some X.env.locals) (hc:X.calm=true) (hok:capOk X.N N' X.env.scope sc ix=true)
  (hi:PI (X.thr E) tg iter wi) (hg:∀ C s₀ H₀ ex,PG (X.comp sc N' C s₀ H₀ ex) tg g) (ht:∀ C s₀ H₀ ex,PTs (X.comp sc N' C s₀ H₀ ex) ifs tt) (he:∀ E' C s₀ H₀ ex,PE ((X.comp sc N' C s₀ H₀ ex).thr E') elt (te E'))
  (hs:∀ x,foldedSetIterable iter X.env x=pure x:=by intro _; rfl):PE (X.thr E) (.ListComp elt [⟨tg,iter,ifs,0⟩] sc pos) (tCompX ix wi g tt te E):=by
 intro pins s σ H Q I h
 have ok:=capOk_of hok
 rw [eval_ListComp]
 refine wpAny_comprehension_free (use:=none) rfl hs (closureFor_eq fun p hp hk=>I.ok.has p.1 (ok.fre p hp hk)) ok.kind ok.loc (thn (hi pins s σ H _ I h) fun v s1 h1=>thn h1 fun itv s2 h2=>?_)
 refine comp_blockX (X:=X.thr E) (Cp:=fun X=>X.calm=true) (Er:=fun C s₀ H₀ ex=>Thrown (X.comp sc N' C s₀ H₀ ex) fun v d _ H'=>E v d σ H') (RR:=fun acc C=>compPost (model X.prog X.w) X.A (X.thr E).xe none (EP (X.thr E) pins σ Q) acc C) (fun _ _ _ _=>hc) ok hg ht (he _) h2 ?_ ?_
 ·intro D C s' H' m I' q hm h0 h1 h2 h3 h4
  exact ⟨m,hm,fun h' hsb=>⟨.ref D,H',I'.letGo hsb h0 h1 h2 h3 h4,rfl,q⟩⟩
 intro D C H2 fp e s' I2 f2 hC hx
 obtain ⟨x,Cl,d,T,c2,fl,ps,σ',H',rfl,J,hx,hT,t,q⟩:=hx
 have I3:=I2.unwish
 have fr:X.A.frames=some (X.env :: X.outer):=by rw [← hst]; exact J.ok.frames
 have fn:s'.heap.FunFrames X.base (X.env :: X.outer):=by rw [← hst]; exact J.stack
 show wpAny (model X.prog X.w) X.A (noteFrame (.ref x) X.env) _ _ s'
 refine fly_note (base:=X.base) fr fn hf t fun h1 T' a w t1=>?_
 rw [← hst] at a
 have J1:=J.flight hx hT a t1
 have hT1:FpOk (X.comp sc N' C s2 H2 fp) ps H' T':=by
  rcases w with z | z
  ·exact hT T' z
  ·exact J.fpOk z (J.hok.fresh z)
 obtain ⟨m,hm,_⟩:=J1.loc
 have IX:Inv X pins σ H' { s' with heap:=h1 }:=I3.call' (ch:=fp) J1.os J1.base J1.hok J1.bare (fun b hb=>⟨(f2 b hb).2.2.2.1,(f2 b hb).2.1,(f2 b hb).2.2.2.2.1,(f2 b hb).2.2.2.2.2⟩) J1.tk
 refine ⟨m,hm,fun h' hsb cenv hcl=>?_⟩
 have IL:=IX.letGo hsb J1.free (Nat.ne_of_gt (Nat.lt_of_lt_of_le I3.lt hC)) (Nat.le_trans I3.sz hC) (fun x c e=>let ⟨_,z⟩:=I3.cell x c e; Nat.ne_of_lt (Nat.lt_of_lt_of_le z.lt hC)) (fun p hp=>Nat.ne_of_lt (Nat.lt_of_lt_of_le (Heap.lt_size (I3.pin p hp).1) hC))
 have hT2:∀ T2,some T'=some T2→FpOk X pins H' T2:=by
  rintro _ ⟨⟩
  obtain ⟨g0,g1,g2,g3,g4,g5⟩:=hT1
  rcases g3 with z | z
  ·exact ⟨g0,(f2 _ z).2⟩
  ·exact I3.fpOk z g0
 have xC:x≠C:=fun z=>by
  have y:H' C=none:=J1.free
  rw [← z,hx] at y; cases y
 have t2:Trc h' x Cl d c2 (some T') (rawInt X.env.locals):=by
  obtain ⟨vs,hz,he,h1',hTe,oT,ts,hTg,hdT,h3⟩:=t1
  exact ⟨vs,hz,(hsb.2 x xC).trans he,h1',hTe,oT,ts,(hsb.2 T' hT1.2.1).trans hTg,hdT,h3⟩
 obtain ⟨vs,hz,he,h1',_⟩:=id t2
 have h1':vs[1]?=some (.ref T'):=h1'
 unfold PySem.passOn
 refine wpAny_bind (wpAny_field he rfl h1' ?_)
 rw [if_neg (show ¬ ((Value.ref T' == Value.none)=true) from Bool.false_ne_true)]
 refine wpAny_bind (fly_flight (fs:=frs X.stack) t2 fun h2 a2 t3=>?_)
 refine wpAny_throw ?_
 exact ⟨x,Cl,d,some T',c2,_,pins,σ,H',rfl,IL.flight hx hT2 a2 t3,hx,hT2,t3,q⟩
end
end L2
end
section
namespace M
open PySem L2
end M
namespace M
open PySem L2
end M
end
section
set_option maxHeartbeats 400000
namespace M
open PySem L2
section
variable {X:Cx} {pins:List (Addr×Obj)} {σ:St} {H:Hp} {s:Shared}
end
end M
end
section
end
section
end
section
namespace L2
open PySem PySem.Spec PyProof.Rows M
section
variable {X:Cx} {K:PySem.W.Frag}
theorem gk_pi_tup {tg:Expr} (hK:X.K=K) {l:Expr} {tl:TE} (hl:PE X l tl):PI X tg l (iTup K tl):=by subst hK; exact pi_tup hl
theorem gk_pi_list {tg:Expr} (hK:X.K=K) {l:Expr} {tl:TE} (hl:PE X l tl):PI X tg l (iList K tl):=by subst hK; exact pi_list hl
theorem gk_tuple_of (hK:X.K=K):CallR X (.type "tuple") (fun xs H Q=>∃ p ys,xs=[.ref p]∧((SqL K H p ys∧∀ l,H l=none→Q (.ref l) (upd H l (.tup ys)))∨(SqT K H p ys∧Q (.ref p) H))):=by subst hK; exact call_tuple_of
theorem gk_in (hK:X.K=K):OpR X (compareOp .In) (rIn K false):=by subst hK; exact op_in_seq
theorem gk_slT (hK:X.K=K):SlR X (rSlT K):=by subst hK; exact sl_tup
end
end L2
end
section
namespace L2
open PySem PySem.Spec PyProof.Rows M
section
variable {X:Cx}
theorem va (i:Nat) {x:Str} {p:Pos} {es:List Expr} {t:TA} (hr:PA X es t) (hN:X.N[i]?=some x:=by rfl) (hv:Vis X.env.scope x:=by first | exact Or.inl rfl | exact Or.inr (Or.inl rfl) | exact Or.inr (Or.inr rfl)) (hd:(x == ("__debug__":Str))=false:=by decide) (hcd:(x == ("__classdict__":Str))=false:=by decide):PA X (.Name x p :: es) (tCons (tVar i) t):=pa_cons (pv i hN hv hd hcd) hr star_name
theorem v1 (i:Nat) {x:Str} {p:Pos} (hN:X.N[i]?=some x:=by rfl) (hv:Vis X.env.scope x:=by first | exact Or.inl rfl | exact Or.inr (Or.inl rfl) | exact Or.inr (Or.inr rfl)) (hd:(x == ("__debug__":Str))=false:=by decide) (hcd:(x == ("__classdict__":Str))=false:=by decide):PA X [.Name x p] (tCons (tVar i) tNil):=va i pa_nil hN hv hd hcd
theorem psn (i:Nat) {x:Str} {e:Expr} {te:TE} {pos pos':Pos} (hN:X.N.Nodup) (he:PE X e te) (hi:X.N[i]?=some x:=by rfl) (hx:Loc X.env.scope x:=by first | exact Or.inl rfl | exact Or.inr rfl) (hs:swapsWith e (some (.Name x pos')) pos.line X.env=pure false:=by rfl) (hf:X.fn x=true∨X.env.scope.names.lookup x=some .local:=by first | exact .inl rfl | exact .inr rfl | assumption):PS X (.Assign [.Name x pos'] e pos) (tAsg te (gName i)):=ps_set hN hi hx he hs hf
theorem pgn (i:Nat) {x:Str} {pos:Pos} (hN:X.N.Nodup) (hi:X.N[i]?=some x:=by rfl) (hx:Loc X.env.scope x:=by first | exact Or.inl rfl | exact Or.inr rfl) (hf:X.fn x=true∨X.env.scope.names.lookup x=some .local:=by first | exact .inl rfl | exact .inr rfl | assumption):PG X (.Name x pos) (gName i):=pg_name hN hi hx hf
theorem px (K:PySem.W.Frag) {a b:Expr} {ta tb:TE} {pos:Pos} (ha:PE X a ta) (hb:PE X b tb) (hK:X.K=K:=by rfl) (hs:PlainIx b:=by exact fun _ _=>rfl):PE X (.Subscript a b pos) (tOp (rIxT K) ta tb):=pe_ix (ix_tupC hK) ha hb hs
theorem pxl (K:PySem.W.Frag) {a b:Expr} {ta tb:TE} {pos:Pos} (ha:PE X a ta) (hb:PE X b tb) (hK:X.K=K:=by rfl) (hs:PlainIx b:=by exact fun _ _=>rfl):PE X (.Subscript a b pos) (tOp (rIxL K) ta tb):=pe_ix (ix_listC hK) ha hb hs
theorem pgc (i:Nat) {x:Str} {pos:Pos} (hi:X.N[i]?=some x:=by rfl) (hN:X.N.Nodup:=by exact of_decide_eq_true (by kernel_rfl)) (hx:Loc X.env.scope x:=by exact Or.inl rfl) (hf:X.fn x=true∨X.env.scope.names.lookup x=some .local:=by first | exact .inl rfl | exact .inr rfl | assumption):PG X (.Name x pos) (gName i):=pg_name hN hi hx hf
end
end L2
end
section
namespace M
open PySem
def NodeU (R:D→Tr→Prop) (d:D) (t:Tr):Prop:=
  (∃ s a b ta tb,s∈ops∧R a ta∧R b tb∧d=.tup [.str (S "op"),.str s,a,b]∧t=.l [tx s,ta,tb])
  ∨ (∃ k es ts,Name k∧All2 R es ts∧d=.tup [.str (S "rec"),.str k,.tup es]∧t=.l (tx (S "rec") :: tx k :: ts))
  ∨ (∃ a ta f,Name f∧R a ta∧d=.tup [.str (S "get"),a,.str f]∧t=.l [tx (S "get"),ta,tx f])
  ∨ (∃ k g a ta,Name k∧Name g∧R a ta∧d=.tup [.str (S "tag"),.str k,.str g,a]∧t=.l [tx (S "tag"),tx k,tx g,ta])
  ∨ (∃ a ta arms ts,R a ta∧1 ≤ arms.length∧arms.length ≤ 4∧All2 (Arm R) arms ts∧d=.tup [.str (S "case"),a,.tup arms]∧t=.l (tx (S "case") :: ta :: ts))
  ∨ (∃ a b c ta tb tc,R a ta∧R b tb∧R c tc∧d=.tup [.str (S "if"),a,b,c]∧t=.l [tx (S "if"),ta,tb,tc])
def T3:Nat→D→Tr→Prop
 | 0,d,t=>Leaf d t
 | n + 1,d,t=>Leaf d t∨NodeU (T3 n) d t
theorem Arm.imp {R R':D→Tr→Prop} (f:∀ d t,R d t→R' d t) {d:D} {t:Tr} (h:Arm R d t):Arm R' d t:=by
 obtain ⟨g,x,e,te,h1,h2,h3,h4,h5⟩:=h
 exact ⟨g,x,e,te,h1,h2,f _ _ h3,h4,h5⟩
theorem NodeU.imp {R R':D→Tr→Prop} (f:∀ d t,R d t→R' d t) {d:D} {t:Tr} (h:NodeU R d t):NodeU R' d t:=by
 rcases h with ⟨s,a,b,ta,tb,hs,ha,hb,h⟩ | ⟨k,es,ts,hk,hes,h⟩ | ⟨a,ta,g,hg,ha,h⟩ | ⟨k,g,a,ta,hk,hg,ha,h⟩ | ⟨a,ta,arms,ts,ha,l1,l4,hs,h⟩ | ⟨a,b,c,ta,tb,tc,ha,hb,hc,h⟩
 ·exact .inl ⟨s,a,b,ta,tb,hs,f _ _ ha,f _ _ hb,h⟩
 ·exact .inr (.inl ⟨k,es,ts,hk,hes.imp f,h⟩)
 ·exact .inr (.inr (.inl ⟨a,ta,g,hg,f _ _ ha,h⟩))
 ·exact .inr (.inr (.inr (.inl ⟨k,g,a,ta,hk,hg,f _ _ ha,h⟩)))
 ·exact .inr (.inr (.inr (.inr (.inl ⟨a,ta,arms,ts,f _ _ ha,l1,l4,hs.imp fun d t h=>h.imp f,h⟩))))
 ·exact .inr (.inr (.inr (.inr (.inr ⟨a,b,c,ta,tb,tc,f _ _ ha,f _ _ hb,f _ _ hc,h⟩))))
theorem T3.succ:∀ {n:Nat} {d:D} {t:Tr},T3 n d t→T3 (n + 1) d t
 | 0,_,_,h=>.inl h
 | n + 1,_,_,h=>h.elim .inl fun h=>.inr (h.imp fun _ _ h=>T3.succ h)
theorem T3.mono {n m:Nat} (hm:n ≤ m) {d:D} {t:Tr} (h:T3 n d t):T3 m d t:=by
 induction hm with
 | refl=>exact h
 | step _ ih=>exact ih.succ
theorem NodeU.good {R:D→Tr→Prop} (ih:∀ d t,R d t→t.Good) {d:D} {t:Tr} (h:NodeU R d t):t.Good:=by
 rcases h with ⟨s,a,b,ta,tb,hs,ha,hb,_,rfl⟩ | ⟨k,es,ts,hk,hes,_,rfl⟩ | ⟨a,ta,f,hf,ha,_,rfl⟩ | ⟨k,g,a,ta,hk,hg,ha,_,rfl⟩ | ⟨a,ta,arms,ts,ha,_,_,hs,_,rfl⟩ | ⟨a,b,c,ta,tb,tc,ha,hb,hc,_,rfl⟩
 ·exact ⟨by simp,⟨_,_,rfl⟩,plain_ops s hs,ih _ _ ha,ih _ _ hb,True.intro⟩
 ·exact ⟨by simp,⟨_,_,rfl⟩,plain_heads _ (by decide +kernel),hk.plain,goods_of hes ih⟩
 ·exact ⟨by simp,⟨_,_,rfl⟩,plain_heads _ (by decide +kernel),ih _ _ ha,hf.plain,True.intro⟩
 ·exact ⟨by simp,⟨_,_,rfl⟩,plain_heads _ (by decide +kernel),hk.plain,hg.plain,ih _ _ ha,True.intro⟩
 ·exact ⟨by simp,⟨_,_,rfl⟩,plain_heads _ (by decide +kernel),ih _ _ ha,goods_of hs fun d t h=>arm_good ih h⟩
 ·exact ⟨by simp,⟨_,_,rfl⟩,plain_heads _ (by decide +kernel),ih _ _ ha,ih _ _ hb,ih _ _ hc,True.intro⟩
theorem T3.good:∀ {n:Nat} {d:D} {t:Tr},T3 n d t→t.Good
 | 0,_,_,h=>leaf_good h
 | n + 1,_,_,h=>h.elim leaf_good fun h=>h.good fun _ _ h=>T3.good h
def consH (c:Nat):List (List Nat)→List (List Nat)
 | []=>[]
 | w :: ws=>(c :: w) :: ws
def preH (p:List Nat):List (List Nat)→List (List Nat)
 | []=>[]
 | w :: ws=>(p++w) :: ws
theorem preH_nil (ws:List (List Nat)):preH [] ws=ws:=by cases ws <;> rfl
theorem preH_cons (c:Nat) (p:List Nat) (ws:List (List Nat)):preH (c :: p) ws=consH c (preH p ws):=by cases ws <;> rfl
def wsp:List Nat→Nat→Option (List (List Nat))
 | [],k=>if k=0 then some [[]] else none
 | c :: r,k=>
  if c=40 then (wsp r (k + 1)).map (consH 40)
  else if c=41 then (if k=0 then none else (wsp r (k - 1)).map (consH 41))
  else if c=32∧k=0 then (wsp r 0).map ([] :: ·)
  else (wsp r k).map (consH c)
theorem map_map' {α β γ:Type} (o:Option α) (f:α→β) (g:β→γ):(o.map f).map g=o.map fun x=>g (f x):=by cases o <;> rfl
theorem wsp_plain {x:List Nat} (h:∀ c∈x,c≠32∧c≠40∧c≠41) (r:List Nat) (k:Nat):wsp (x++r) k=(wsp r k).map (preH x):=by
 induction x with
 | nil=>rw [List.nil_append]; cases wsp r k <;> simp [preH_nil]
 | cons c x ih=>
  obtain ⟨h1,h2,h3⟩:=h c List.mem_cons_self
  rw [List.cons_append,wsp,if_neg h2,if_neg h3,if_neg (fun z=>h1 z.1),ih fun c hc=>h c (List.mem_cons_of_mem _ hc),map_map']
  congr 1
  funext ws
  rw [preH_cons]
mutual
theorem wsp_tree:∀ (t:Tr),t.Good→∀ (r:List Nat) (k:Nat),wsp (t.cs++r) k=(wsp r k).map (preH t.cs)
 | .w x,h,r,k=>wsp_plain h.2 r k
 | .l [],h,_,_=>by have:=h.1; simp at this
 | .l (t :: ts),h,r,k=>by
  have g:=h.2.2
  have e1:(Tr.l (t :: ts)).cs=40 :: ((t.cs++bs ts)++[41]):=by simp [Tr.cs,bs]
  rw [e1,List.cons_append,wsp,if_pos rfl,List.append_assoc,List.append_assoc,wsp_tree t g.1,wsp_trees ts g.2,map_map',map_map',List.singleton_append,wsp,if_neg (by decide),if_pos rfl,if_neg (by omega),show k + 1 - 1=k from rfl,map_map']
  congr 1
  funext ws
  cases ws with
  | nil=>rfl
  | cons w ws=>simp [preH,consH]
theorem wsp_trees:∀ (ts:List Tr),Goods ts→∀ (r:List Nat) (k:Nat),wsp (bs ts++r) (k + 1)=(wsp r (k + 1)).map (preH (bs ts))
 | [],_,r,k=>by
  show wsp r (k + 1)=_
  cases wsp r (k + 1) <;> simp [bs,preH_nil]
 | t :: ts,h,r,k=>by
  have e1:bs (t :: ts)=32 :: (t.cs++bs ts):=by simp [bs]
  rw [e1,List.cons_append,wsp,if_neg (by decide),if_neg (by decide),if_neg (by omega),List.append_assoc,wsp_tree t h.1,wsp_trees ts h.2,map_map',map_map']
  congr 1
  funext ws
  cases ws with
  | nil=>rfl
  | cons w ws=>simp [preH,consH]
end
theorem wsp_words:∀ (t:Tr) (ts:List Tr),t.Good→Goods ts→wsp (t.cs++bs ts) 0=some (t.cs :: ts.map Tr.cs)
 | t,[],h,_=>by
  rw [wsp_tree t h]
  simp [bs,wsp,preH]
 | t,u :: ts,h,g=>by
  have e1:bs (u :: ts)=32 :: (u.cs++bs ts):=by simp [bs]
  rw [wsp_tree t h,e1,wsp,if_neg (by decide),if_neg (by decide),if_pos ⟨rfl,rfl⟩,wsp_words u ts g.1 g.2]
  simp [preH]
theorem wsp_join:∀ (s:List Nat) (k:Nat) (ws:List (List Nat)),wsp s k=some ws→ws≠[]∧joinB ws=s
 | [],k,ws,h=>by
  unfold wsp at h
  split at h
  ·cases h; exact ⟨by simp,rfl⟩
  ·cases h
 | c :: r,k,ws,h=>by
  have key:∀ k',(wsp r k').map (consH c)=some ws→ws≠[]∧joinB ws=c :: r:=fun k' e=>by
   obtain ⟨us,hu,rfl⟩:=Option.map_eq_some_iff.mp e
   obtain ⟨n,j⟩:=wsp_join r k' us hu
   match us,n,j with
   | [w],_,j=>exact ⟨by simp [consH],by show c :: w=_; rw [← j]; rfl⟩
   | w :: v :: us,_,j=>exact ⟨by simp [consH],by show c :: w++32 :: joinB (v :: us)=_; rw [← j]; rfl⟩
  unfold wsp at h
  split at h
  ·rename_i e; subst e; exact key _ h
  split at h
  ·rename_i e; subst e
   split at h
   ·cases h
   ·exact key _ h
  split at h
  ·rename_i e
   obtain ⟨us,hu,rfl⟩:=Option.map_eq_some_iff.mp h
   obtain ⟨n,j⟩:=wsp_join r 0 us hu
   refine ⟨by simp,?_⟩
   match us,n,j with
   | w :: us,_,j=>show []++32 :: joinB (w :: us)=_; rw [j,e.1]; rfl
  ·exact key _ h
end M
end
section
namespace M
open PySem
def PT (x:List Nat) (d:D):Prop:=∃ n t,T3 n d t∧t.cs=x
def PA (w:List Nat) (d:D):Prop:=∃ n t,Arm (T3 n) d t∧t.cs=w
def NW (ws:List (List Nat)) (d:D):Prop:=
  (∃ s a b w1 w2,s∈ops∧PT w1 a∧PT w2 b∧d=.tup [.str (S "op"),.str s,a,b]∧ws=[L s,w1,w2])
  ∨ (∃ k es r,Name k∧All2 (fun e w=>PT w e) es r∧d=.tup [.str (S "rec"),.str k,.tup es]∧ws=L (S "rec") :: L k :: r)
  ∨ (∃ a w f,Name f∧PT w a∧d=.tup [.str (S "get"),a,.str f]∧ws=[L (S "get"),w,L f])
  ∨ (∃ k g a w,Name k∧Name g∧PT w a∧d=.tup [.str (S "tag"),.str k,.str g,a]∧ws=[L (S "tag"),L k,L g,w])
  ∨ (∃ a w arms r,PT w a∧1 ≤ arms.length∧arms.length ≤ 4∧All2 (fun e w=>PA w e) arms r∧d=.tup [.str (S "case"),a,.tup arms]∧ws=L (S "case") :: w :: r)
  ∨ (∃ a b c w1 w2 w3,PT w1 a∧PT w2 b∧PT w3 c∧d=.tup [.str (S "if"),a,b,c]∧ws=[L (S "if"),w1,w2,w3])
theorem pts_of {n:Nat} {es:List D} {ts:List Tr} (h:All2 (T3 n) es ts):All2 (fun e w=>PT w e) es (ts.map Tr.cs):=by
 induction h with
 | nil=>exact .nil
 | cons h _ ih=>exact .cons ⟨n,_,h,rfl⟩ ih
theorem pas_of {n:Nat} {es:List D} {ts:List Tr} (h:All2 (Arm (T3 n)) es ts):All2 (fun e w=>PA w e) es (ts.map Tr.cs):=by
 induction h with
 | nil=>exact .nil
 | cons h _ ih=>exact .cons ⟨n,_,h,rfl⟩ ih
theorem pts_to {es:List D} {ws:List (List Nat)} (h:All2 (fun e w=>PT w e) es ws):∃ n ts,All2 (T3 n) es ts∧ts.map Tr.cs=ws:=by
 induction h with
 | nil=>exact ⟨0,[],.nil,rfl⟩
 | cons h _ ih=>
  obtain ⟨n,t,h1,rfl⟩:=h
  obtain ⟨m,ts,h2,rfl⟩:=ih
  exact ⟨max n m,t :: ts,.cons (h1.mono (Nat.le_max_left _ _)) (h2.imp fun _ _ h=>h.mono (Nat.le_max_right _ _)),rfl⟩
theorem pas_to {es:List D} {ws:List (List Nat)} (h:All2 (fun e w=>PA w e) es ws):∃ n ts,All2 (Arm (T3 n)) es ts∧ts.map Tr.cs=ws:=by
 induction h with
 | nil=>exact ⟨0,[],.nil,rfl⟩
 | cons h _ ih=>
  obtain ⟨n,t,h1,rfl⟩:=h
  obtain ⟨m,ts,h2,rfl⟩:=ih
  exact ⟨max n m,t :: ts,.cons (h1.imp fun _ _ h=>h.mono (Nat.le_max_left _ _)) (h2.imp fun _ _ h=>h.imp fun _ _ h=>h.mono (Nat.le_max_right _ _)),rfl⟩
theorem mid_of {mid:List Nat} {ts:List Tr} (g:(Tr.l ts).Good) (e:(Tr.l ts).cs=40 :: mid++[41]):wsp mid 0=some (ts.map Tr.cs):=by
 match ts,g with
 | [],g=>have:=g.1; simp at this
 | t :: ts,g=>
  have e1:(Tr.l (t :: ts)).cs=40 :: (t.cs++bs ts)++[41]:=by simp [Tr.cs,bs]
  rw [e1] at e
  have e2:=List.append_cancel_right e
  cases e2
  exact wsp_words t ts g.2.2.1 g.2.2.2
theorem cs_lU {ts:List Tr} {mid:List Nat} (h:joinB (ts.map Tr.cs)=mid):(Tr.l ts).cs=40 :: mid++[41]:=by
 rw [joinB_bs] at h
 show 40 :: (bs ts).tail++[41]=_
 rw [h]
theorem leaf_plain {d:D} {t:Tr} (h:Leaf d t):Plain t.cs:=by
 have g:=leaf_good h
 rcases h with ⟨n,_,_,_,rfl⟩ | ⟨x,_,_,rfl⟩
 ·exact g
 ·exact g
theorem leaf_no {d:D} {t:Tr} {mid:List Nat} (h:Leaf d t) (e:t.cs=40 :: mid++[41]):False:=by
 have p:=leaf_plain h
 rw [e] at p
 exact (p.2 40 (by simp)).2.1 rfl
theorem pt_node {mid:List Nat} {d:D}:PT (40 :: mid++[41]) d ↔ ∃ ws,wsp mid 0=some ws∧NW ws d:=by
 constructor
 ·rintro ⟨n,t,h,e⟩
  match n,h with
  | 0,h=>exact (leaf_no h e).elim
  | n + 1,.inl h=>exact (leaf_no h e).elim
  | n + 1,.inr h=>
   have g:=h.good fun _ _ h=>T3.good h
   rcases h with ⟨s,a,b,ta,tb,hs,ha,hb,hd,rfl⟩ | ⟨k,es,ts,hk,hes,hd,rfl⟩ | ⟨a,ta,f,hf,ha,hd,rfl⟩ | ⟨k,q,a,ta,hk,hg,ha,hd,rfl⟩ | ⟨a,ta,arms,ts,ha,l1,l4,hs,hd,rfl⟩ | ⟨a,b,c,ta,tb,tc,ha,hb,hc,hd,rfl⟩
   ·exact ⟨_,mid_of g e,.inl ⟨s,a,b,_,_,hs,⟨n,_,ha,rfl⟩,⟨n,_,hb,rfl⟩,hd,rfl⟩⟩
   ·exact ⟨_,mid_of g e,.inr (.inl ⟨k,es,_,hk,pts_of hes,hd,rfl⟩)⟩
   ·exact ⟨_,mid_of g e,.inr (.inr (.inl ⟨a,_,f,hf,⟨n,_,ha,rfl⟩,hd,rfl⟩))⟩
   ·exact ⟨_,mid_of g e,.inr (.inr (.inr (.inl ⟨k,q,a,_,hk,hg,⟨n,_,ha,rfl⟩,hd,rfl⟩)))⟩
   ·exact ⟨_,mid_of g e,.inr (.inr (.inr (.inr (.inl ⟨a,_,arms,_,⟨n,_,ha,rfl⟩,l1,l4,pas_of hs,hd,rfl⟩))))⟩
   ·exact ⟨_,mid_of g e,.inr (.inr (.inr (.inr (.inr ⟨a,b,c,_,_,_,⟨n,_,ha,rfl⟩,⟨n,_,hb,rfl⟩,⟨n,_,hc,rfl⟩,hd,rfl⟩))))⟩
 ·rintro ⟨ws,hw,h⟩
  have j:=(wsp_join _ _ _ hw).2
  rcases h with ⟨s,a,b,w1,w2,hs,⟨n1,t1,h1,rfl⟩,⟨n2,t2,h2,rfl⟩,hd,rfl⟩ | ⟨k,es,r,hk,hes,hd,rfl⟩ | ⟨a,w,f,hf,⟨n,t,h1,rfl⟩,hd,rfl⟩ | ⟨k,q,a,w,hk,hg,⟨n,t,h1,rfl⟩,hd,rfl⟩ | ⟨a,w,arms,r,⟨n,t,h1,rfl⟩,l1,l4,hs,hd,rfl⟩ | ⟨a,b,c,w1,w2,w3,⟨n1,t1,h1,rfl⟩,⟨n2,t2,h2,rfl⟩,⟨n3,t3,h3,rfl⟩,hd,rfl⟩
  ·exact ⟨max n1 n2 + 1,.l [tx s,t1,t2],.inr (.inl ⟨s,a,b,t1,t2,hs,h1.mono (Nat.le_max_left _ _),h2.mono (Nat.le_max_right _ _),hd,rfl⟩),cs_lU j⟩
  ·obtain ⟨n,ts,h1,rfl⟩:=pts_to hes
   exact ⟨n + 1,.l (tx (S "rec") :: tx k :: ts),.inr (.inr (.inl ⟨k,es,ts,hk,h1,hd,rfl⟩)),cs_lU j⟩
  ·exact ⟨n + 1,.l [tx (S "get"),t,tx f],.inr (.inr (.inr (.inl ⟨a,t,f,hf,h1,hd,rfl⟩))),cs_lU j⟩
  ·exact ⟨n + 1,.l [tx (S "tag"),tx k,tx q,t],.inr (.inr (.inr (.inr (.inl ⟨k,q,a,t,hk,hg,h1,hd,rfl⟩)))),cs_lU j⟩
  ·obtain ⟨m,ts,h2,rfl⟩:=pas_to hs
   exact ⟨max n m + 1,.l (tx (S "case") :: t :: ts),.inr (.inr (.inr (.inr (.inr (.inl ⟨a,t,arms,ts,h1.mono (Nat.le_max_left _ _),l1,l4,h2.imp fun _ _ h=>h.imp fun _ _ h=>h.mono (Nat.le_max_right _ _),hd,rfl⟩))))),cs_lU j⟩
  ·exact ⟨max n1 (max n2 n3) + 1,.l [tx (S "if"),t1,t2,t3],.inr (.inr (.inr (.inr (.inr (.inr ⟨a,b,c,t1,t2,t3,h1.mono (by omega),h2.mono (by omega),h3.mono (by omega),hd,rfl⟩))))),cs_lU j⟩
theorem pa_arm {mid:List Nat} {d:D}:PA (40 :: mid++[41]) d ↔ ∃ g x e w,wsp mid 0=some [L g,L x,w]∧Name g∧Name x∧PT w e∧d=.tup [.str g,.str x,e]:=by
 constructor
 ·rintro ⟨n,t,h,e⟩
  have gd:=arm_good (fun _ _ h=>T3.good h) h
  obtain ⟨g,x,a,ta,hg,hx,ha,hd,rfl⟩:=h
  exact ⟨g,x,a,ta.cs,mid_of gd e,hg,hx,⟨n,ta,ha,rfl⟩,hd⟩
 ·rintro ⟨g,x,a,w,hw,hg,hx,⟨n,ta,ha,rfl⟩,hd⟩
  exact ⟨n,.l [tx g,tx x,ta],⟨g,x,a,ta,hg,hx,ha,hd,rfl⟩,cs_lU (ts:=[tx g,tx x,ta]) (wsp_join _ _ _ hw).2⟩
theorem pa_shape {w:List Nat} {d:D} (h:PA w d):∃ mid,w=40 :: mid++[41]:=by
 obtain ⟨n,t,⟨g,x,e,te,_,_,_,_,rfl⟩,rfl⟩:=h
 exact ⟨_,rfl⟩
theorem pt_shape {x:List Nat} {d:D} (h:PT x d):(∃ t,Leaf d t∧t.cs=x)∨∃ mid,x=40 :: mid++[41]:=by
 obtain ⟨n,t,h,rfl⟩:=h
 match n,h with
 | 0,h=>exact .inl ⟨t,h,rfl⟩
 | n + 1,.inl h=>exact .inl ⟨t,h,rfl⟩
 | n + 1,.inr h=>
  rcases h with ⟨s,a,b,ta,tb,hs,ha,hb,hd,rfl⟩ | ⟨k,es,ts,hk,hes,hd,rfl⟩ | ⟨a,ta,f,hf,ha,hd,rfl⟩ | ⟨k,q,a,ta,hk,hg,ha,hd,rfl⟩ | ⟨a,ta,arms,ts,ha,l1,l4,hs,hd,rfl⟩ | ⟨a,b,c,ta,tb,tc,ha,hb,hc,hd,rfl⟩ <;> exact .inr ⟨_,rfl⟩
end M
end
section
namespace M
open PySem
def stepD (x:Nat) (c:Int):Int:=c + (if x=40 then 1 else 0) - (if x=41 then 1 else 0)
def dm:List Nat→Int→Int→Int
 | [],_,m=>m
 | x :: r,c,m=>dm r (stepD x c) (max m (stepD x c))
theorem step_plain {x:Nat} (h1:x≠40) (h2:x≠41) (c:Int):stepD x c=c:=by
 unfold stepD
 rw [if_neg h1,if_neg h2]; omega
theorem step_open (c:Int):stepD 40 c=c + 1:=by
 unfold stepD
 rw [if_pos rfl,if_neg (by decide)]; omega
theorem step_shut (c:Int):stepD 41 c=c - 1:=by
 unfold stepD
 rw [if_neg (by decide),if_pos rfl]; omega
theorem stepD_add (x:Nat) (c i:Int):stepD x (c + i)=stepD x c + i:=by unfold stepD; omega
theorem dm_plain {x:List Nat} (h:∀ c∈x,c≠32∧c≠40∧c≠41) {c m:Int} (hc:c ≤ m) (r:List Nat):dm (x++r) c m=dm r c m:=by
 induction x with
 | nil=>rfl
 | cons y x ih=>
  obtain ⟨_,h2,h3⟩:=h y List.mem_cons_self
  rw [List.cons_append,dm,step_plain h2 h3,Int.max_eq_left hc]
  exact ih fun c hc=>h c (List.mem_cons_of_mem _ hc)
mutual
theorem dm_tree:∀ (t:Tr),t.Good→∀ {c m:Int},c ≤ m→∀ r:List Nat,dm (t.cs++r) c m=dm r c (max m (c + t.nest))
 | .w x,h,c,m,hc,r=>by
  rw [show (Tr.w x).nest=0 from rfl,show c + ((0:Nat):Int)=c by omega,Int.max_eq_left hc]
  exact dm_plain h.2 hc r
 | .l [],h,_,_,_,_=>by have:=h.1; simp at this
 | .l (t :: ts),h,c,m,hc,r=>by
  have g:=h.2.2
  have e1:(Tr.l (t :: ts)).cs=40 :: ((t.cs++bs ts)++[41]):=by simp [Tr.cs,bs]
  have e2:(Tr.l (t :: ts)).nest=max t.nest (nests ts) + 1:=rfl
  rw [e1,e2,List.cons_append,dm,step_open,List.append_assoc,List.append_assoc,dm_tree t g.1 (Int.le_max_right _ _),dm_trees ts g.2 (by omega),List.singleton_append,dm,step_shut,show c + 1 - 1=c by omega]
  congr 1
  omega
theorem dm_trees:∀ (ts:List Tr),Goods ts→∀ {c m:Int},c ≤ m→∀ r:List Nat,dm (bs ts++r) c m=dm r c (max m (c + nests ts))
 | [],_,c,m,hc,r=>by
  show dm r c m=_
  rw [show nests []=0 from rfl,show c + ((0:Nat):Int)=c by omega,Int.max_eq_left hc]
 | t :: ts,h,c,m,hc,r=>by
  have e1:bs (t :: ts)=32 :: (t.cs++bs ts):=by simp [bs]
  have e2:nests (t :: ts)=max t.nest (nests ts):=rfl
  rw [e1,e2,List.cons_append,dm,step_plain (by decide) (by decide),Int.max_eq_left hc,List.append_assoc,dm_tree t h.1 hc,dm_trees ts h.2 (by omega)]
  congr 1
  omega
end
theorem dm_nest {t:Tr} (h:t.Good):dm t.cs 0 0=t.nest:=by
 have:=dm_tree t h (Int.le_refl 0) []
 rw [List.append_nil] at this
 rw [this]
 show max 0 (0 + (t.nest:Int))=_
 omega
theorem dm_ge:∀ (s:List Nat) (c m:Int),m ≤ dm s c m
 | [],_,_=>Int.le_refl _
 | x :: r,c,m=>Int.le_trans (Int.le_max_left _ _) (dm_ge r _ _)
theorem dm_mono:∀ (s:List Nat) (c:Int) {m m':Int},m ≤ m'→dm s c m ≤ dm s c m'
 | [],_,_,_,h=>h
 | x :: r,c,m,m',h=>dm_mono r _ (by omega)
theorem dm_shift:∀ (s:List Nat) (c m i:Int),dm s (c + i) (m + i)=dm s c m + i
 | [],_,_,_=>rfl
 | x :: r,c,m,i=>by
  rw [dm,stepD_add,show max (m + i) (stepD x c + i)=max m (stepD x c) + i by omega]
  exact dm_shift r _ _ i
theorem dm_append:∀ (s r:List Nat) (c m:Int),dm s c m ≤ dm (s++r) c m
 | [],r,c,m=>dm_ge r c m
 | x :: s,r,c,m=>dm_append s r _ _
theorem dm_mid (mid:List Nat):dm mid 0 0 + 1 ≤ dm (40 :: mid++[41]) 0 0:=by
 rw [List.cons_append,dm,step_open]
 have h1:dm mid (0 + 1) (max 0 (0 + 1))=dm mid 0 0 + 1:=dm_shift mid 0 0 1
 have h2:=dm_append mid [41] (0 + 1) (max 0 (0 + 1))
 omega
theorem dm_words:∀ (s:List Nat) (k:Nat) (w:List Nat) (ws:List (List Nat)),wsp s k=some (w :: ws)→dm w k k ≤ dm s k k∧∀ v∈ws,dm v 0 0 ≤ dm s k k
 | [],k,w,ws,h=>by
  unfold wsp at h
  split at h
  ·cases h; exact ⟨Int.le_refl _,fun v hv=>by simp at hv⟩
  ·cases h
 | c :: r,k,w,ws,h=>by
  have key:∀ k':Nat,stepD c k=k'→(wsp r k').map (consH c)=some (w :: ws)→dm w k k ≤ dm (c :: r) k k∧∀ v∈ws,dm v 0 0 ≤ dm (c :: r) k k:=fun k' sd e=>by
   obtain ⟨us,hu,e⟩:=Option.map_eq_some_iff.mp e
   match us,hu,e with
   | u :: us,hu,e=>
    have e1:c :: u=w:=(List.cons.inj e).1
    have e2:us=ws:=(List.cons.inj e).2
    subst e1 e2
    obtain ⟨i1,i2⟩:=dm_words r k' u us hu
    have m1:dm r k' k' ≤ dm (c :: r) k k:=by
     rw [dm,sd]
     exact dm_mono _ _ (Int.le_max_right _ _)
    refine ⟨?_,fun v hv=>Int.le_trans (i2 v hv) m1⟩
    rw [dm,dm,sd]
    by_cases q:(k:Int) ≤ k'
    ·rw [Int.max_eq_right q]; exact i1
    ·
     have q1:max (k:Int) k'=k:=by omega
     rw [q1]
     have a1:dm u k' k=max (k:Int) (dm u k' k'):=by
      have:∀ (s:List Nat) (c m i:Int),dm s c (max i m)=max i (dm s c m):=by
       intro s
       induction s with
       | nil=>intro c m i; rfl
       | cons x s ih=>
        intro c m i
        rw [dm,dm,show max (max i m) (stepD x c)=max i (max m (stepD x c)) by omega]
        exact ih _ _ _
      rw [← this,q1]
     have a2:dm r k' k=max (k:Int) (dm r k' k'):=by
      have:∀ (s:List Nat) (c m i:Int),dm s c (max i m)=max i (dm s c m):=by
       intro s
       induction s with
       | nil=>intro c m i; rfl
       | cons x s ih=>
        intro c m i
        rw [dm,dm,show max (max i m) (stepD x c)=max i (max m (stepD x c)) by omega]
        exact ih _ _ _
      rw [← this,q1]
     rw [a1,a2]; omega
  unfold wsp at h
  split at h
  ·rename_i e; subst e
   exact key (k + 1) (by rw [step_open]; omega) h
  split at h
  ·rename_i e; subst e
   split at h
   ·cases h
   ·exact key (k - 1) (by rw [step_shut]; omega) h
  split at h
  ·rename_i e
   obtain ⟨rfl,rfl⟩:=e
   obtain ⟨us,hu,e⟩:=Option.map_eq_some_iff.mp h
   have e1:[]=w:=(List.cons.inj e).1
   have e2:us=ws:=(List.cons.inj e).2
   subst e1 e2
   have m1:dm (32 :: r) ((0:Nat):Int) ((0:Nat):Int)=dm r 0 0:=by
    rw [dm,step_plain (by decide) (by decide)]; rfl
   rw [m1]
   refine ⟨dm_ge r 0 0,fun v hv=>?_⟩
   match us,hu,hv with
   | u :: us,hu,hv=>
    obtain ⟨i1,i2⟩:=dm_words r 0 u us hu
    rcases List.mem_cons.mp hv with rfl | hv
    ·exact i1
    ·exact i2 v hv
  ·rename_i e1 e2 e3
   exact key k (by rw [step_plain e1 e2]) h
theorem dm_word {mid w:List Nat} {ws:List (List Nat)} (h:wsp mid 0=some ws) (hw:w∈ws):dm w 0 0 + 1 ≤ dm (40 :: mid++[41]) 0 0:=by
 have m:=dm_mid mid
 match ws,h,hw with
 | u :: us,h,hw=>
  obtain ⟨i1,i2⟩:=dm_words mid 0 u us h
  rcases List.mem_cons.mp hw with rfl | hw
  ·have:dm w 0 0 ≤ dm mid 0 0:=i1
   omega
  ·have:dm w 0 0 ≤ dm mid 0 0:=i2 w hw
   omega
end M
end
section
namespace M
open PySem
def pileB:Pile→List Nat
 | []=>[]
 | [top]=>bs top
 | top :: par :: st=>pileB (par :: st)++32 :: 40 :: (bs top).tail
def pileNe:Pile→Prop
 | []=>False
 | [_]=>True
 | top :: par :: st=>top≠[]∧pileNe (par :: st)
theorem bs_append:∀ (a b:List Tr),bs (a++b)=bs a++bs b
 | [],_=>rfl
 | t :: a,b=>by
  have e1:∀ t ts,bs (t :: ts)=32 :: (t.cs++bs ts):=fun t ts=>by simp [bs]
  rw [List.cons_append,e1,e1,bs_append a b,List.cons_append,List.append_assoc]
theorem bs_one (t:Tr):bs [t]=32 :: t.cs:=by simp [bs]
theorem tail_append {a b:List Nat} (h:a≠[]):(a++b).tail=a.tail++b:=by
 cases a with
 | nil=>exact absurd rfl h
 | cons x a=>rfl
theorem bs_ne {ts:List Tr} (h:ts≠[]):bs ts≠[]:=by
 cases ts with
 | nil=>exact absurd rfl h
 | cons t ts=>simp [bs]
theorem pile_push {top:List Tr} {st:Pile} (t:Tr) (h:pileNe (top :: st)):pileB ((top++[t]) :: st)=pileB (top :: st)++32 :: t.cs:=by
 cases st with
 | nil=>
  show bs (top++[t])=bs top++_
  rw [bs_append,bs_one]
 | cons par st=>
  show pileB (par :: st)++32 :: 40 :: (bs (top++[t])).tail=(pileB (par :: st)++32 :: 40 :: (bs top).tail)++32 :: t.cs
  rw [bs_append,bs_one,tail_append (bs_ne h.1)]
  simp
theorem pileNe_push {top:List Tr} {st:Pile} (t:Tr) (h:pileNe (top :: st)):pileNe ((top++[t]) :: st):=by
 cases st with
 | nil=>exact True.intro
 | cons par st=>exact ⟨by simp,h.2⟩
theorem pile_close:∀ (k:Nat) (st:Pile),pileNe st→k < st.length→pileB (close k st)=pileB st++List.replicate k 41∧pileNe (close k st)
 | 0,st,h,_=>by
  rw [List.replicate_zero,List.append_nil]
  exact ⟨rfl,h⟩
 | k + 1,[],h,_=>h.elim
 | k + 1,[_],_,hk=>by simp at hk
 | k + 1,top :: par :: st,h,hk=>by
  show pileB (close k ((par++[.l top]) :: st))=_∧pileNe (close k ((par++[.l top]) :: st))
  obtain ⟨e,n⟩:=pile_close k ((par++[.l top]) :: st) (pileNe_push _ h.2) (by simp at hk ⊢; omega)
  refine ⟨?_,n⟩
  rw [e,pile_push _ h.2]
  show (pileB (par :: st)++32 :: (40 :: (bs top).tail++[41]))++List.replicate k 41=(pileB (par :: st)++32 :: 40 :: (bs top).tail)++List.replicate (k + 1) 41
  rw [List.replicate_succ]
  simp
theorem core_eq (x:List Nat):coreOf x++List.replicate (x.length - (coreOf x).length) 41=x:=by
 have key:∀ y:List Nat,(List.replicate (y.length - (y.dropWhile (· == 41)).length) 41)++y.dropWhile (· == 41)=y:=by
  intro y
  induction y with
  | nil=>rfl
  | cons c y ih=>
   rw [List.dropWhile_cons]
   split
   ·rename_i e
    have:c=41:=by simpa using e
    subst this
    have hle:(y.dropWhile (· == 41)).length ≤ y.length:=List.dropWhile_sublist _ |>.length_le
    rw [List.length_cons,show y.length + 1 - (y.dropWhile (· == 41)).length=(y.length - (y.dropWhile (· == 41)).length) + 1 by omega,List.replicate_succ,List.cons_append,ih]
   ·rw [Nat.sub_self,List.replicate_zero,List.nil_append]
 have h:=congrArg List.reverse (key x.reverse)
 rw [List.reverse_append,List.reverse_reverse,List.reverse_replicate,List.length_reverse] at h
 unfold coreOf
 rw [List.length_reverse]
 exact h
theorem pile_put {x:List Nat} {st st':Pile} (h:pileNe st) (e:putW x st=some st'):pileB st'=pileB st++32 :: x∧pileNe st':=by
 unfold putW putC at e
 have ce:=core_eq x
 generalize x.length - (coreOf x).length=k at e ce
 have fin:∀ st1:Pile,pileNe st1→pileB st1=pileB st++32 :: coreOf x→closeN k st1=some st'→pileB st'=pileB st++32 :: x∧pileNe st':=fun st1 n1 b1 c1=>by
  unfold closeN at c1
  split at c1
  ·rename_i hk
   cases c1
   obtain ⟨e2,n2⟩:=pile_close k st1 n1 hk
   refine ⟨?_,n2⟩
   rw [e2,b1]
   conv=>rhs; rw [← ce]
   simp
  ·cases c1
 match st,h with
 | top :: st,h=>
  split at e
  ·rename_i hh
   split at e
   ·have hc:coreOf x=40 :: (coreOf x).tail:=by
     cases hx:coreOf x with
     | nil=>rw [hx] at hh; cases hh
     | cons c r=>rw [hx] at hh; cases hh; rfl
    refine fin ([.w (coreOf x).tail] :: top :: st) ⟨by simp,h⟩ ?_ e
    show pileB (top :: st)++32 :: 40 :: (bs [.w (coreOf x).tail]).tail=_
    rw [bs_one]
    conv=>rhs; rw [hc]
    rfl
   ·cases e
  ·exact fin ((top++[Tr.w (coreOf x)]) :: st) (pileNe_push (Tr.w (coreOf x)) h) (pile_push (Tr.w (coreOf x)) h) e
theorem pile_run:∀ (ws:List (List Nat)) {st st':Pile},pileNe st→runW ws st=some st'→pileB st'=pileB st++(ws.map fun w=>32 :: w).flatten∧pileNe st'
 | [],st,st',h,e=>by
  cases e
  exact ⟨by simp,h⟩
 | x :: ws,st,st',h,e=>by
  obtain ⟨s1,e1,e2⟩:=Option.bind_eq_some_iff.mp (show (putW x st).bind (runW ws)=some st' from e)
  obtain ⟨b1,n1⟩:=pile_put h e1
  obtain ⟨b2,n2⟩:=pile_run ws n1 e2
  refine ⟨?_,n2⟩
  rw [b2,b1]
  simp
theorem flat_join:∀ (ws:List (List Nat)),ws≠[]→(ws.map fun w=>32 :: w).flatten=32 :: joinB ws
 | [],h=>absurd rfl h
 | [x],_=>by simp [joinB]
 | x :: y :: r,_=>by
  rw [List.map_cons,List.flatten_cons,flat_join (y :: r) (by simp)]
  rfl
theorem run_text {ws:List (List Nat)} {t:Tr} (hn:ws≠[]) (h:runW ws [[]]=some [[t]]):t.cs=joinB ws:=by
 obtain ⟨b,_⟩:=pile_run ws (st:=[[]]) True.intro h
 rw [flat_join ws hn] at b
 have e:(32 :: t.cs:List Nat)=32 :: joinB ws:=by
  have:pileB [[t]]=32 :: t.cs:=bs_one t
  rw [← this,b]
  rfl
 exact (List.cons.inj e).2
end M
end
section
namespace M
open PySem PySem.NumText
theorem numL_parts {x:List Nat} (h:numL x=true):1 ≤ x.length∧x.length ≤ 10∧(∀ c∈x,isFigure c=true)∧(x=[48]∨x.head?≠some 48):=by
 unfold numL at h
 simp only [Bool.and_eq_true,Bool.or_eq_true,decide_eq_true_eq,List.all_eq_true] at h
 exact ⟨h.1.1.1,h.1.1.2,h.1.2,h.2⟩
theorem val_lt:∀ (x:List Nat),AllDigits x→digitsVal x < 10 ^ x.length:=by
 have key:∀ (x:List Nat) (a:Nat),AllDigits x→x.foldl (fun acc c=>acc * 10 + (c - 48)) a < (a + 1) * 10 ^ x.length:=by
  intro x
  induction x with
  | nil=>intro a _; simp
  | cons c x ih=>
   intro a h
   have hc:=h c List.mem_cons_self
   have:=ih (a * 10 + (c - 48)) fun c hc=>h c (List.mem_cons_of_mem _ hc)
   refine Nat.lt_of_lt_of_le this ?_
   rw [List.length_cons,Nat.pow_succ,Nat.mul_comm (10 ^ x.length) 10,← Nat.mul_assoc]
   exact Nat.mul_le_mul_right _ (by omega)
 intro x h
 have:=key x 0 h
 simpa [digitsVal] using this
theorem num_told {x:List Nat} (h:numL x=true):∃ n:Int,0 ≤ n∧n < 10 ^ 10∧intText? (ofL x)=some n∧L (numS n)=x:=by
 obtain ⟨h1,h2,h3,h4⟩:=numL_parts h
 have ad:AllDigits x:=fun c hc=>by
  have:=h3 c hc
  unfold isFigure at this
  simp only [Bool.and_eq_true,decide_eq_true_eq] at this
  exact this
 have ne:x≠[]:=by intro e; rw [e] at h1; simp at h1
 have lt:digitsVal x < 10 ^ 10:=Nat.lt_of_lt_of_le (val_lt x ad) (Nat.pow_le_pow_right (by decide) h2)
 refine ⟨(digitsVal x:Nat),by omega,by exact_mod_cast lt,intText_digits (x:=ofL x) ad ne (by show x.toArray.size ≤ 4300; rw [List.size_toArray]; omega),?_⟩
 show (numS ((digitsVal x:Nat):Int)).cps.toList=x
 rw [num_reads]
 have e:=toDigits_digitsVal (x.length - 1) x (by omega) ad (by
  rcases h4 with rfl | h4
  ·exact .inl rfl
  ·cases x with
   | nil=>exact absurd rfl ne
   | cons c r=>
    refine .inr ⟨c,r,rfl,?_⟩
    have a:=ad c List.mem_cons_self
    have b:c≠48:=fun z=>h4 (by rw [z]; rfl)
    omega)
 rw [e,List.map_map]
 conv=>rhs; rw [← List.map_id x]
 refine List.map_congr_left fun c hc=>?_
 have a:=ad c hc
 show (Char.ofNat c).toNat=c
 have:c.isValidChar:=Or.inl (by omega)
 simp [Char.ofNat,this,Char.toNat,Char.ofNatAux]
theorem numS_inj {n m:Int} (h0:0 ≤ n) (h1:n < 10 ^ 10) (k0:0 ≤ m) (k1:m < 10 ^ 10) (e:numS n=numS m):n=m:=by
 have a:intText? (numS n)=some n:=PySem.W.KIN.num_reads h0 h1
 have b:intText? (numS m)=some m:=PySem.W.KIN.num_reads k0 k1
 rw [e,b] at a
 exact (Option.some.inj a).symm
end M
end
section
namespace M
open PySem
def TD (t:Tr) (d:D):Prop:=∃ n,T3 n d t
def AD (t:Tr) (d:D):Prop:=∃ n,Arm (T3 n) d t
def NT (ts:List Tr) (d:D):Prop:=
  (∃ s a b ta tb,s∈ops∧TD ta a∧TD tb b∧d=.tup [.str (S "op"),.str s,a,b]∧ts=[tx s,ta,tb])
  ∨ (∃ k es r,Name k∧All2 (fun e t=>TD t e) es r∧d=.tup [.str (S "rec"),.str k,.tup es]∧ts=tx (S "rec") :: tx k :: r)
  ∨ (∃ a t f,Name f∧TD t a∧d=.tup [.str (S "get"),a,.str f]∧ts=[tx (S "get"),t,tx f])
  ∨ (∃ k g a t,Name k∧Name g∧TD t a∧d=.tup [.str (S "tag"),.str k,.str g,a]∧ts=[tx (S "tag"),tx k,tx g,t])
  ∨ (∃ a t arms r,TD t a∧1 ≤ arms.length∧arms.length ≤ 4∧All2 (fun e t=>AD t e) arms r∧d=.tup [.str (S "case"),a,.tup arms]∧ts=tx (S "case") :: t :: r)
  ∨ (∃ a b c t1 t2 t3,TD t1 a∧TD t2 b∧TD t3 c∧d=.tup [.str (S "if"),a,b,c]∧ts=[tx (S "if"),t1,t2,t3])
theorem tds_of {n:Nat} {es:List D} {ts:List Tr} (h:All2 (T3 n) es ts):All2 (fun e t=>TD t e) es ts:=h.imp fun _ _ h=>⟨n,h⟩
theorem ads_of {n:Nat} {es:List D} {ts:List Tr} (h:All2 (Arm (T3 n)) es ts):All2 (fun e t=>AD t e) es ts:=h.imp fun _ _ h=>⟨n,h⟩
theorem tds_to {es:List D} {ts:List Tr} (h:All2 (fun e t=>TD t e) es ts):∃ n,All2 (T3 n) es ts:=by
 induction h with
 | nil=>exact ⟨0,.nil⟩
 | cons h _ ih=>
  obtain ⟨n,h1⟩:=h
  obtain ⟨m,h2⟩:=ih
  exact ⟨max n m,.cons (h1.mono (Nat.le_max_left _ _)) (h2.imp fun _ _ h=>h.mono (Nat.le_max_right _ _))⟩
theorem ads_to {es:List D} {ts:List Tr} (h:All2 (fun e t=>AD t e) es ts):∃ n,All2 (Arm (T3 n)) es ts:=by
 induction h with
 | nil=>exact ⟨0,.nil⟩
 | cons h _ ih=>
  obtain ⟨n,h1⟩:=h
  obtain ⟨m,h2⟩:=ih
  exact ⟨max n m,.cons (h1.imp fun _ _ h=>h.mono (Nat.le_max_left _ _)) (h2.imp fun _ _ h=>h.imp fun _ _ h=>h.mono (Nat.le_max_right _ _))⟩
theorem leaf_w {d:D} {ts:List Tr} (h:Leaf d (.l ts)):False:=by
 rcases h with ⟨n,_,_,_,e⟩ | ⟨x,_,_,e⟩ <;> cases e
theorem td_word {x:List Nat} {d:D}:TD (.w x) d ↔ Leaf d (.w x):=by
 constructor
 ·rintro ⟨n,h⟩
  match n,h with
  | 0,h=>exact h
  | n + 1,.inl h=>exact h
  | n + 1,.inr h=>
   rcases h with ⟨_,_,_,_,_,_,_,_,_,e⟩ | ⟨_,_,_,_,_,_,e⟩ | ⟨_,_,_,_,_,_,e⟩ | ⟨_,_,_,_,_,_,_,_,e⟩ | ⟨_,_,_,_,_,_,_,_,_,e⟩ | ⟨_,_,_,_,_,_,_,_,_,_,e⟩ <;> cases e
 ·exact fun h=>⟨0,h⟩
theorem td_node {ts:List Tr} {d:D}:TD (.l ts) d ↔ NT ts d:=by
 constructor
 ·rintro ⟨n,h⟩
  match n,h with
  | 0,h=>exact (leaf_w h).elim
  | n + 1,.inl h=>exact (leaf_w h).elim
  | n + 1,.inr h=>
   rcases h with ⟨s,a,b,ta,tb,hs,ha,hb,hd,e⟩ | ⟨k,es,ts,hk,hes,hd,e⟩ | ⟨a,ta,f,hf,ha,hd,e⟩ | ⟨k,q,a,ta,hk,hg,ha,hd,e⟩ | ⟨a,ta,arms,ts,ha,l1,l4,hs,hd,e⟩ | ⟨a,b,c,ta,tb,tc,ha,hb,hc,hd,e⟩ <;> cases e
   ·exact .inl ⟨s,a,b,_,_,hs,⟨n,ha⟩,⟨n,hb⟩,hd,rfl⟩
   ·exact .inr (.inl ⟨k,es,_,hk,tds_of hes,hd,rfl⟩)
   ·exact .inr (.inr (.inl ⟨a,_,f,hf,⟨n,ha⟩,hd,rfl⟩))
   ·exact .inr (.inr (.inr (.inl ⟨k,q,a,_,hk,hg,⟨n,ha⟩,hd,rfl⟩)))
   ·exact .inr (.inr (.inr (.inr (.inl ⟨a,_,arms,_,⟨n,ha⟩,l1,l4,ads_of hs,hd,rfl⟩))))
   ·exact .inr (.inr (.inr (.inr (.inr ⟨a,b,c,_,_,_,⟨n,ha⟩,⟨n,hb⟩,⟨n,hc⟩,hd,rfl⟩))))
 ·rintro (⟨s,a,b,ta,tb,hs,⟨n1,h1⟩,⟨n2,h2⟩,hd,rfl⟩ | ⟨k,es,r,hk,hes,hd,rfl⟩ | ⟨a,t,f,hf,⟨n,h1⟩,hd,rfl⟩ | ⟨k,q,a,t,hk,hg,⟨n,h1⟩,hd,rfl⟩ | ⟨a,t,arms,r,⟨n,h1⟩,l1,l4,hs,hd,rfl⟩ | ⟨a,b,c,t1,t2,t3,⟨n1,h1⟩,⟨n2,h2⟩,⟨n3,h3⟩,hd,rfl⟩)
  ·exact ⟨max n1 n2 + 1,.inr (.inl ⟨s,a,b,ta,tb,hs,h1.mono (Nat.le_max_left _ _),h2.mono (Nat.le_max_right _ _),hd,rfl⟩)⟩
  ·obtain ⟨n,h1⟩:=tds_to hes
   exact ⟨n + 1,.inr (.inr (.inl ⟨k,es,r,hk,h1,hd,rfl⟩))⟩
  ·exact ⟨n + 1,.inr (.inr (.inr (.inl ⟨a,t,f,hf,h1,hd,rfl⟩)))⟩
  ·exact ⟨n + 1,.inr (.inr (.inr (.inr (.inl ⟨k,q,a,t,hk,hg,h1,hd,rfl⟩))))⟩
  ·obtain ⟨m,h2⟩:=ads_to hs
   exact ⟨max n m + 1,.inr (.inr (.inr (.inr (.inr (.inl ⟨a,t,arms,r,h1.mono (Nat.le_max_left _ _),l1,l4,h2.imp fun _ _ h=>h.imp fun _ _ h=>h.mono (Nat.le_max_right _ _),hd,rfl⟩)))))⟩
  ·exact ⟨max n1 (max n2 n3) + 1,.inr (.inr (.inr (.inr (.inr (.inr ⟨a,b,c,t1,t2,t3,h1.mono (by omega),h2.mono (by omega),h3.mono (by omega),hd,rfl⟩)))))⟩
def hclW (h:List Nat):Nat:=if ofL h∈ops then 1 else if h=L (S "rec") then 2 else if h=L (S "get") then 3 else if h=L (S "tag") then 4 else if h=L (S "case") then 5 else if h=L (S "if") then 6 else 0
def hcls:List Tr→Nat
 | .w h :: _=>hclW h
 | _=>0
theorem hcls_op {s:Str} {r:List Tr} (h:s∈ops):hcls (tx s :: r)=1:=by
 show (if ofL (L s)∈ops then 1 else _)=1
 rw [ofL_L,if_pos h]
theorem hcls_rec {r:List Tr}:hcls (tx (S "rec") :: r)=2:=by show hclW _=_; decide +kernel
theorem hcls_get {r:List Tr}:hcls (tx (S "get") :: r)=3:=by show hclW _=_; decide +kernel
theorem hcls_tag {r:List Tr}:hcls (tx (S "tag") :: r)=4:=by show hclW _=_; decide +kernel
theorem hcls_case {r:List Tr}:hcls (tx (S "case") :: r)=5:=by show hclW _=_; decide +kernel
theorem hcls_if {r:List Tr}:hcls (tx (S "if") :: r)=6:=by show hclW _=_; decide +kernel
theorem tx_inj {x y:Str} (h:tx x=tx y):x=y:=L_inj (Tr.w.inj h)
theorem det2 {R R':D→Tr→Prop} (f:∀ d d' t,R d t→R' d' t→d=d'):∀ {es es':List D} {ts:List Tr},All2 R es ts→All2 R' es' ts→es=es'
 | _,_,[],.nil,.nil=>rfl
 | _,_,_ :: _,.cons h t,.cons h' t'=>by rw [f _ _ _ h h',det2 f t t']
theorem leaf_det {d d':D} {t:Tr} (h:Leaf d t) (h':Leaf d' t):d=d':=by
 rcases h with ⟨n,h0,h1,rfl,rfl⟩ | ⟨x,hx,rfl,rfl⟩ <;> rcases h' with ⟨m,k0,k1,rfl,e⟩ | ⟨y,hy,rfl,e⟩
 ·rw [numS_inj h0 h1 k0 k1 (tx_inj e)]
 ·have:=num_number h0 h1
  rw [tx_inj e,name_no_number hy] at this
  cases this
 ·have:=num_number k0 k1
  rw [← tx_inj e,name_no_number hx] at this
  cases this
 ·rw [tx_inj e]
theorem T3.det:∀ {n m:Nat} {d d':D} {t:Tr},T3 n d t→T3 m d' t→d=d':=by
  have arm:∀ {n m:Nat},(∀ d d' t,T3 n d t→T3 m d' t→d=d')→∀ d d' t,Arm (T3 n) d t→Arm (T3 m) d' t→d=d':=by
    rintro n m f d d' t ⟨g,x,e,te,_,_,h,rfl,e1⟩ ⟨g',x',e',te',_,_,h',rfl,e2⟩
    rw [e1] at e2
    have e3:=Tr.l.inj e2
    injection e3 with q1 q2
    injection q2 with q2 q3
    injection q3 with q3 _
    subst q3
    rw [tx_inj q1,tx_inj q2,f _ _ _ h h']
  have lf:∀ {m:Nat} {d d':D} {t:Tr},Leaf d t→T3 m d' t→d=d':=by
    intro m d d' t h h'
    have w:∃ x,t=.w x:=by rcases h with ⟨n,_,_,_,rfl⟩ | ⟨x,_,_,rfl⟩ <;> exact ⟨_,rfl⟩
    obtain ⟨x,rfl⟩:=w
    exact leaf_det h (td_word.mp ⟨m,h'⟩)
  intro n
  induction n with
  | zero=>intro m d d' t h h'; exact lf h h'
  | succ n ih=>
    intro m d d' t h h'
    rcases h with h | h
    · exact lf h h'
    match m,h' with
    | 0,h'=>exact (lf (m:=n + 1) h' (.inr h)).symm
    | m + 1,.inl h'=>exact (lf (m:=n + 1) h' (.inr h)).symm
    | m + 1,.inr h'=>
      have f:∀ d d' t,T3 n d t→T3 m d' t→d=d':=fun d d' t h h'=>ih h h'
      rcases h with ⟨s,a,b,ta,tb,hs,ha,hb,rfl,rfl⟩ | ⟨k,es,ts,hk,hes,rfl,rfl⟩ | ⟨a,ta,g,hg,ha,rfl,rfl⟩ | ⟨k,q,a,ta,hk,hq,ha,rfl,rfl⟩ | ⟨a,ta,arms,ts,ha,l1,l4,hs,rfl,rfl⟩ | ⟨a,b,c,ta,tb,tc,ha,hb,hc,rfl,rfl⟩ <;>
      rcases h' with ⟨s',a',b',ta',tb',hs',ha',hb',rfl,e⟩ | ⟨k',es',ts',hk',hes',rfl,e⟩ | ⟨a',ta',g',hg',ha',rfl,e⟩ | ⟨k',q',a',ta',hk',hq',ha',rfl,e⟩ | ⟨a',ta',arms',ts',ha',l1',l4',hs',rfl,e⟩ | ⟨a',b',c',ta',tb',tc',ha',hb',hc',rfl,e⟩ <;>
      first
        | (have c:=congrArg hcls (Tr.l.inj e); first | rw [hcls_op hs] at c | rw [hcls_rec] at c | rw [hcls_get] at c | rw [hcls_tag] at c | rw [hcls_case] at c | rw [hcls_if] at c
           first | (rw [hcls_op hs'] at c; exact absurd c (by decide)) | (rw [hcls_rec] at c; exact absurd c (by decide)) | (rw [hcls_get] at c; exact absurd c (by decide)) | (rw [hcls_tag] at c; exact absurd c (by decide)) | (rw [hcls_case] at c; exact absurd c (by decide)) | (rw [hcls_if] at c; exact absurd c (by decide)))
        | skip
      · injection e with e; injection e with e1 e; injection e with e2 e; injection e with e3 _
        subst e2 e3
        rw [tx_inj e1,f _ _ _ ha ha',f _ _ _ hb hb']
      · injection e with e; injection e with e1 e; injection e with e2 e
        subst e
        rw [tx_inj e2,det2 f hes hes']
      · injection e with e; injection e with e1 e; injection e with e2 e; injection e with e3 _
        subst e2
        rw [tx_inj e3,f _ _ _ ha ha']
      · injection e with e; injection e with e1 e; injection e with e2 e; injection e with e3 e; injection e with e4 _
        subst e4
        rw [tx_inj e2,tx_inj e3,f _ _ _ ha ha']
      · injection e with e; injection e with e1 e; injection e with e2 e
        subst e2 e
        rw [f _ _ _ ha ha',det2 (arm f) hs hs']
      · injection e with e; injection e with e1 e; injection e with e2 e; injection e with e3 e; injection e with e4 _
        subst e2 e3 e4
        rw [f _ _ _ ha ha',f _ _ _ hb hb',f _ _ _ hc hc']
end M
end
section
namespace M
open PySem
mutual
def Tr.Hd:Tr→Prop
 | .w _=>True
 | .l ts=>(∃ h r,ts=.w h :: r)∧Hds ts
def Hds:List Tr→Prop
 | []=>True
 | t :: ts=>t.Hd∧Hds ts
end
theorem Hds.append:∀ {a b:List Tr},Hds a→Hds b→Hds (a++b)
 | [],_,_,h=>h
 | _ :: _,_,⟨h,t⟩,h'=>⟨h,Hds.append t h'⟩
theorem Hds.get:∀ {a:List Tr},Hds a→∀ t∈a,t.Hd
 | [],_,t,h=>by simp at h
 | u :: a,⟨h,k⟩,t,ht=>by
  rcases List.mem_cons.mp ht with rfl | ht
  ·exact h
  ·exact Hds.get k t ht
def pileHd:Pile→Prop
 | []=>True
 | [top]=>Hds top
 | top :: par :: st=>((∃ h r,top=.w h :: r)∧Hds top)∧pileHd (par :: st)
theorem pileHd_push {top:List Tr} {st:Pile} {t:Tr} (ht:t.Hd) (h:pileHd (top :: st)):pileHd ((top++[t]) :: st):=by
 cases st with
 | nil=>exact Hds.append (show Hds top from h) ⟨ht,True.intro⟩
 | cons par st=>
  obtain ⟨⟨⟨w,r,rfl⟩,h2⟩,h3⟩:=h
  exact ⟨⟨⟨w,r++[t],rfl⟩,Hds.append h2 ⟨ht,True.intro⟩⟩,h3⟩
theorem pileHd_close:∀ (k:Nat) (st:Pile),pileHd st→pileHd (close k st)
 | 0,st,h=>h
 | k + 1,[],h=>h
 | k + 1,[_],h=>h
 | k + 1,top :: par :: st,h=>by
  show pileHd (close k ((par++[.l top]) :: st))
  exact pileHd_close k _ (pileHd_push (t:=.l top) h.1 h.2)
theorem pileHd_put {x:List Nat} {st st':Pile} (h:pileHd st) (hn:st≠[]) (e:putW x st=some st'):pileHd st':=by
 unfold putW putC at e
 generalize x.length - (coreOf x).length=k at e
 have fin:∀ st1:Pile,pileHd st1→closeN k st1=some st'→pileHd st':=fun st1 n1 c1=>by
  unfold closeN at c1
  split at c1
  ·cases c1
   exact pileHd_close k st1 n1
  ·cases c1
 match st,h,hn with
 | top :: st,h,_=>
  split at e
  ·split at e
   ·exact fin ([Tr.w (coreOf x).tail] :: top :: st) ⟨⟨⟨_,_,rfl⟩,True.intro,True.intro⟩,h⟩ e
   ·cases e
  ·exact fin ((top++[Tr.w (coreOf x)]) :: st) (pileHd_push (t:=Tr.w (coreOf x)) True.intro h) e
theorem pileHd_run:∀ (ws:List (List Nat)) {st st':Pile},pileNe st→pileHd st→runW ws st=some st'→pileHd st'
 | [],st,st',_,h,e=>by cases e; exact h
 | x :: ws,st,st',hn,h,e=>by
  obtain ⟨s1,e1,e2⟩:=Option.bind_eq_some_iff.mp (show (putW x st).bind (runW ws)=some st' from e)
  exact pileHd_run ws (pile_put hn e1).2 (pileHd_put h (by rintro rfl; exact hn) e1) e2
theorem run_hd {ws:List (List Nat)} {top:List Tr} (h:runW ws [[]]=some [top]):Hds top:=pileHd_run ws (st:=[[]]) (st':=[top]) True.intro True.intro h
theorem split_join (x:Str):joinB ((Txt.split x ⟨#[32]⟩).map L)=L x:=by
 rw [← L_join 32 _ rfl]
 exact congrArg L (StrLaws.join_split x ⟨#[32]⟩)
theorem pt_tree {x:Str} {d:D} (h:PT (L x) d) (hd:dm (L x) 0 0 ≤ 20):∃ t,runW ((Txt.split x ⟨#[32]⟩).map L) [[]]=some [[t]]∧TD t d∧t.cs=L x:=by
 obtain ⟨n,t,h1,e⟩:=h
 have g:=h1.good
 have hn:t.nest ≤ 20:=by
  rw [← e,dm_nest g] at hd
  omega
 obtain ⟨ws,e1,e2⟩:=read_tree g hn e.symm
 rw [e1]
 exact ⟨t,e2,⟨n,h1⟩,e⟩
theorem tree_pt {x:Str} {t:Tr} {d:D} (h:runW ((Txt.split x ⟨#[32]⟩).map L) [[]]=some [[t]]) (hd:TD t d):PT (L x) d:=by
 obtain ⟨n,h1⟩:=hd
 have hn:(Txt.split x ⟨#[32]⟩).map L≠[]:=by
  intro e
  exact split_ne x ⟨#[32]⟩ (List.map_eq_nil_iff.mp e)
 exact ⟨n,t,h1,by rw [run_text hn h,split_join]⟩
theorem pt_det {x:Str} {d d':D} (h:PT (L x) d) (h':PT (L x) d') (hd:dm (L x) 0 0 ≤ 20):d=d':=by
 obtain ⟨t,e1,⟨n,h1⟩,_⟩:=pt_tree h hd
 obtain ⟨t',e2,⟨m,h2⟩,_⟩:=pt_tree h' hd
 rw [e1] at e2
 cases e2
 exact h1.det h2
end M
end
section
set_option maxHeartbeats 400000
namespace M
open PySem
def IsNm (t:Tr) (x:Str):Prop:=t=tx x∧Name x
theorem nt_op {s:Str} (hs:s∈ops) {r:List Tr} {d:D}:NT (tx s :: r) d ↔ ∃ a b ta tb,r=[ta,tb]∧TD ta a∧TD tb b∧d=.tup [.str (S "op"),.str s,a,b]:=by
 constructor
 ·rintro (⟨s',a,b,ta,tb,hs',ha,hb,hd,e⟩ | ⟨k,es,r',hk,hes,hd,e⟩ | ⟨a,t,f,hf,ha,hd,e⟩ | ⟨k,g,a,t,hk,hg,ha,hd,e⟩ | ⟨a,t,arms,r',ha,l1,l4,har,hd,e⟩ | ⟨a,b,c,t1,t2,t3,ha,hb,hc,hd,e⟩)
  ·injection e with e1 e
   rw [← tx_inj e1] at hd
   exact ⟨a,b,ta,tb,e,ha,hb,hd⟩
  ·have c:=congrArg hcls e; rw [hcls_op hs,hcls_rec] at c; cases c
  ·have c:=congrArg hcls e; rw [hcls_op hs,hcls_get] at c; cases c
  ·have c:=congrArg hcls e; rw [hcls_op hs,hcls_tag] at c; cases c
  ·have c:=congrArg hcls e; rw [hcls_op hs,hcls_case] at c; cases c
  ·have c:=congrArg hcls e; rw [hcls_op hs,hcls_if] at c; cases c
 ·rintro ⟨a,b,ta,tb,rfl,ha,hb,hd⟩
  exact .inl ⟨s,a,b,ta,tb,hs,ha,hb,hd,rfl⟩
theorem nt_rec {r:List Tr} {d:D}:NT (tx (S "rec") :: r) d ↔ ∃ t1 r' k es,r=t1 :: r'∧IsNm t1 k∧All2 (fun e t=>TD t e) es r'∧d=.tup [.str (S "rec"),.str k,.tup es]:=by
 constructor
 ·rintro (⟨s',a,b,ta,tb,hs',ha,hb,hd,e⟩ | ⟨k,es,r',hk,hes,hd,e⟩ | ⟨a,t,f,hf,ha,hd,e⟩ | ⟨k,g,a,t,hk,hg,ha,hd,e⟩ | ⟨a,t,arms,r',ha,l1,l4,har,hd,e⟩ | ⟨a,b,c,t1,t2,t3,ha,hb,hc,hd,e⟩)
  ·have c:=congrArg hcls e; rw [hcls_op hs',hcls_rec] at c; cases c
  ·injection e with e1 e
   exact ⟨_,_,k,es,e,⟨rfl,hk⟩,hes,hd⟩
  ·have c:=congrArg hcls e; rw [hcls_rec,hcls_get] at c; cases c
  ·have c:=congrArg hcls e; rw [hcls_rec,hcls_tag] at c; cases c
  ·have c:=congrArg hcls e; rw [hcls_rec,hcls_case] at c; cases c
  ·have c:=congrArg hcls e; rw [hcls_rec,hcls_if] at c; cases c
 ·rintro ⟨t1,r',k,es,rfl,⟨rfl,hk⟩,hes,hd⟩
  exact .inr (.inl ⟨k,es,r',hk,hes,hd,rfl⟩)
theorem nt_get {r:List Tr} {d:D}:NT (tx (S "get") :: r) d ↔ ∃ t1 t2 a f,r=[t1,t2]∧TD t1 a∧IsNm t2 f∧d=.tup [.str (S "get"),a,.str f]:=by
 constructor
 ·rintro (⟨s',a,b,ta,tb,hs',ha,hb,hd,e⟩ | ⟨k,es,r',hk,hes,hd,e⟩ | ⟨a,t,f,hf,ha,hd,e⟩ | ⟨k,g,a,t,hk,hg,ha,hd,e⟩ | ⟨a,t,arms,r',ha,l1,l4,har,hd,e⟩ | ⟨a,b,c,t1,t2,t3,ha,hb,hc,hd,e⟩)
  ·have c:=congrArg hcls e; rw [hcls_op hs',hcls_get] at c; cases c
  ·have c:=congrArg hcls e; rw [hcls_rec,hcls_get] at c; cases c
  ·injection e with e1 e
   exact ⟨_,_,a,f,e,ha,⟨rfl,hf⟩,hd⟩
  ·have c:=congrArg hcls e; rw [hcls_get,hcls_tag] at c; cases c
  ·have c:=congrArg hcls e; rw [hcls_get,hcls_case] at c; cases c
  ·have c:=congrArg hcls e; rw [hcls_get,hcls_if] at c; cases c
 ·rintro ⟨t1,t2,a,f,rfl,ha,⟨rfl,hf⟩,hd⟩
  exact .inr (.inr (.inl ⟨a,t1,f,hf,ha,hd,rfl⟩))
theorem nt_tag {r:List Tr} {d:D}:NT (tx (S "tag") :: r) d ↔ ∃ t1 t2 t3 k g a,r=[t1,t2,t3]∧IsNm t1 k∧IsNm t2 g∧TD t3 a∧d=.tup [.str (S "tag"),.str k,.str g,a]:=by
 constructor
 ·rintro (⟨s',a,b,ta,tb,hs',ha,hb,hd,e⟩ | ⟨k,es,r',hk,hes,hd,e⟩ | ⟨a,t,f,hf,ha,hd,e⟩ | ⟨k,g,a,t,hk,hg,ha,hd,e⟩ | ⟨a,t,arms,r',ha,l1,l4,har,hd,e⟩ | ⟨a,b,c,t1,t2,t3,ha,hb,hc,hd,e⟩)
  ·have c:=congrArg hcls e; rw [hcls_op hs',hcls_tag] at c; cases c
  ·have c:=congrArg hcls e; rw [hcls_rec,hcls_tag] at c; cases c
  ·have c:=congrArg hcls e; rw [hcls_get,hcls_tag] at c; cases c
  ·injection e with e1 e
   exact ⟨_,_,_,k,g,a,e,⟨rfl,hk⟩,⟨rfl,hg⟩,ha,hd⟩
  ·have c:=congrArg hcls e; rw [hcls_tag,hcls_case] at c; cases c
  ·have c:=congrArg hcls e; rw [hcls_tag,hcls_if] at c; cases c
 ·rintro ⟨t1,t2,t3,k,g,a,rfl,⟨rfl,hk⟩,⟨rfl,hg⟩,ha,hd⟩
  exact .inr (.inr (.inr (.inl ⟨k,g,a,t3,hk,hg,ha,hd,rfl⟩)))
theorem nt_case {r:List Tr} {d:D}:NT (tx (S "case") :: r) d ↔ ∃ t1 r' a arms,r=t1 :: r'∧TD t1 a∧1 ≤ arms.length∧arms.length ≤ 4∧All2 (fun e t=>AD t e) arms r'∧d=.tup [.str (S "case"),a,.tup arms]:=by
 constructor
 ·rintro (⟨s',a,b,ta,tb,hs',ha,hb,hd,e⟩ | ⟨k,es,r',hk,hes,hd,e⟩ | ⟨a,t,f,hf,ha,hd,e⟩ | ⟨k,g,a,t,hk,hg,ha,hd,e⟩ | ⟨a,t,arms,r',ha,l1,l4,har,hd,e⟩ | ⟨a,b,c,t1,t2,t3,ha,hb,hc,hd,e⟩)
  ·have c:=congrArg hcls e; rw [hcls_op hs',hcls_case] at c; cases c
  ·have c:=congrArg hcls e; rw [hcls_rec,hcls_case] at c; cases c
  ·have c:=congrArg hcls e; rw [hcls_get,hcls_case] at c; cases c
  ·have c:=congrArg hcls e; rw [hcls_tag,hcls_case] at c; cases c
  ·injection e with e1 e
   exact ⟨t,r',a,arms,e,ha,l1,l4,har,hd⟩
  ·have c:=congrArg hcls e; rw [hcls_case,hcls_if] at c; cases c
 ·rintro ⟨t1,r',a,arms,rfl,ha,l1,l4,har,hd⟩
  exact .inr (.inr (.inr (.inr (.inl ⟨a,t1,arms,r',ha,l1,l4,har,hd,rfl⟩))))
theorem nt_if {r:List Tr} {d:D}:NT (tx (S "if") :: r) d ↔ ∃ t1 t2 t3 a b c,r=[t1,t2,t3]∧TD t1 a∧TD t2 b∧TD t3 c∧d=.tup [.str (S "if"),a,b,c]:=by
 constructor
 ·rintro (⟨s',a,b,ta,tb,hs',ha,hb,hd,e⟩ | ⟨k,es,r',hk,hes,hd,e⟩ | ⟨a,t,f,hf,ha,hd,e⟩ | ⟨k,g,a,t,hk,hg,ha,hd,e⟩ | ⟨a,t,arms,r',ha,l1,l4,har,hd,e⟩ | ⟨a,b,c,t1,t2,t3,ha,hb,hc,hd,e⟩)
  ·have c:=congrArg hcls e; rw [hcls_op hs',hcls_if] at c; cases c
  ·have c:=congrArg hcls e; rw [hcls_rec,hcls_if] at c; cases c
  ·have c:=congrArg hcls e; rw [hcls_get,hcls_if] at c; cases c
  ·have c:=congrArg hcls e; rw [hcls_tag,hcls_if] at c; cases c
  ·have c:=congrArg hcls e; rw [hcls_case,hcls_if] at c; cases c
  ·injection e with e1 e
   exact ⟨t1,t2,t3,a,b,c,e,ha,hb,hc,hd⟩
 ·rintro ⟨t1,t2,t3,a,b,c,rfl,ha,hb,hc,hd⟩
  exact .inr (.inr (.inr (.inr (.inr ⟨a,b,c,t1,t2,t3,ha,hb,hc,hd,rfl⟩))))
theorem nt_other {h:Str} {r:List Tr} {d:D} (h0:h ∉ ops) (h1:h≠S "rec") (h2:h≠S "get") (h3:h≠S "tag") (h4:h≠S "case") (h5:h≠S "if"):¬ NT (tx h :: r) d:=by
 rintro (⟨s',a,b,ta,tb,hs',ha,hb,hd,e⟩ | ⟨k,es,r',hk,hes,hd,e⟩ | ⟨a,t,f,hf,ha,hd,e⟩ | ⟨k,g,a,t,hk,hg,ha,hd,e⟩ | ⟨a,t,arms,r',ha,l1,l4,har,hd,e⟩ | ⟨a,b,c,t1,t2,t3,ha,hb,hc,hd,e⟩) <;> injection e with e1 e
 ·exact h0 (by rw [tx_inj e1]; exact hs')
 ·exact h1 (tx_inj e1)
 ·exact h2 (tx_inj e1)
 ·exact h3 (tx_inj e1)
 ·exact h4 (tx_inj e1)
 ·exact h5 (tx_inj e1)
end M
end
section
namespace K3
open PySem L2 M
seal L2.PE L2.PA L2.PS L2.PSs L2.PT L2.PW L2.PI L2.PG L2.PJ L2.PTs
def top (i:Nat):Stmt:=PySem.Challenge.pw_swapstride_k03_texts_of_no_term.main.body.getD i (.Pass ⟨0,0,0,0⟩)
abbrev s_is_name:Stmt:=top 19
theorem sc_is_name:FnScope ["text"] ["text"] (defScope s_is_name):=⟨rfl,rfl,rfl,by decide +kernel,rfl,by decide +kernel,by decide +kernel⟩
abbrev s_is_number:Stmt:=top 20
theorem sc_is_number:FnScope ["text"] ["text"] (defScope s_is_number):=⟨rfl,rfl,rfl,by decide +kernel,rfl,by decide +kernel,by decide +kernel⟩
abbrev s_is_made_of:Stmt:=top 21
theorem sc_is_made_of:FnScope ["text","signs","most"] ["text","signs","most"] (defScope s_is_made_of):=⟨rfl,rfl,rfl,by decide +kernel,rfl,by decide +kernel,by decide +kernel⟩
abbrev s_term_text:Stmt:=top 26
theorem sc_term_text:FnScope ["term"] ["term"] (defScope s_term_text):=⟨rfl,rfl,rfl,by decide +kernel,rfl,by decide +kernel,by decide +kernel⟩
abbrev s_bracketed:Stmt:=top 27
theorem sc_bracketed:FnScope ["texts","inside"] ["texts"] (defScope s_bracketed):=⟨rfl,rfl,rfl,by decide +kernel,rfl,by decide +kernel,by decide +kernel⟩
abbrev s_inner_texts:Stmt:=top 28
theorem sc_inner_texts:FnScope ["term","head"] ["term"] (defScope s_inner_texts):=⟨rfl,rfl,rfl,by decide +kernel,rfl,by decide +kernel,by decide +kernel⟩
abbrev s_term_texts:Stmt:=top 29
theorem sc_term_texts:FnScope ["terms"] ["terms"] (defScope s_term_texts):=⟨rfl,rfl,rfl,by decide +kernel,rfl,by decide +kernel,by decide +kernel⟩
abbrev s_arm_text:Stmt:=top 30
theorem sc_arm_text:FnScope ["arm"] ["arm"] (defScope s_arm_text):=⟨rfl,rfl,rfl,by decide +kernel,rfl,by decide +kernel,by decide +kernel⟩
abbrev s_term_of:Stmt:=top 31
theorem sc_term_of:FnScope ["text"] ["text"] (defScope s_term_of):=⟨rfl,rfl,rfl,by decide +kernel,rfl,by decide +kernel,by decide +kernel⟩
abbrev s_term_with:Stmt:=top 32
theorem sc_term_with:FnScope ["text","more","trees"] ["text","more"] (defScope s_term_with):=⟨rfl,rfl,rfl,by decide +kernel,rfl,by decide +kernel,by decide +kernel⟩
abbrev s_need:Stmt:=top 33
theorem sc_need:FnScope ["holds"] ["holds"] (defScope s_need):=⟨rfl,rfl,rfl,by decide +kernel,rfl,by decide +kernel,by decide +kernel⟩
abbrev s_trees_of:Stmt:=top 34
theorem sc_trees_of:FnScope ["text","pile","word"] ["text"] (defScope s_trees_of):=⟨rfl,rfl,rfl,by decide +kernel,rfl,by decide +kernel,by decide +kernel⟩
abbrev s_put_word:Stmt:=top 35
theorem sc_put_word:FnScope ["pile","word","core","closed"] ["pile","word"] (defScope s_put_word):=⟨rfl,rfl,rfl,by decide +kernel,rfl,by decide +kernel,by decide +kernel⟩
abbrev s_close_brackets:Stmt:=top 36
theorem sc_close_brackets:FnScope ["pile","many","inner"] ["pile","many"] (defScope s_close_brackets):=⟨rfl,rfl,rfl,by decide +kernel,rfl,by decide +kernel,by decide +kernel⟩
abbrev s_term_from:Stmt:=top 37
theorem sc_term_from:FnScope ["tree","more","head"] ["tree","more"] (defScope s_term_from):=⟨rfl,rfl,rfl,by decide +kernel,rfl,by decide +kernel,by decide +kernel⟩
abbrev s_terms_from:Stmt:=top 38
theorem sc_terms_from:FnScope ["trees","more"] ["trees","more"] (defScope s_terms_from):=⟨rfl,rfl,rfl,by decide +kernel,rfl,by decide +kernel,by decide +kernel⟩
abbrev s_leaf_from:Stmt:=top 39
theorem sc_leaf_from:FnScope ["word","more"] ["word","more"] (defScope s_leaf_from):=⟨rfl,rfl,rfl,by decide +kernel,rfl,by decide +kernel,by decide +kernel⟩
abbrev s_name_from:Stmt:=top 40
theorem sc_name_from:FnScope ["tree"] ["tree"] (defScope s_name_from):=⟨rfl,rfl,rfl,by decide +kernel,rfl,by decide +kernel,by decide +kernel⟩
abbrev s_arm_from:Stmt:=top 41
theorem sc_arm_from:FnScope ["tree","more"] ["tree","more"] (defScope s_arm_from):=⟨rfl,rfl,rfl,by decide +kernel,rfl,by decide +kernel,by decide +kernel⟩
abbrev s__law_feed:Stmt:=top 43
theorem sc__law_feed:FnScope ["_law_script","_law_k","_law_cell"] ["_law_script","_law_k"] (defScope s__law_feed):=⟨rfl,rfl,rfl,by decide +kernel,rfl,by decide +kernel,by decide +kernel⟩
abbrev s__law_take:Stmt:=top 44
theorem sc__law_take:FnScope ["_law_feed_here","_law_many","_law_digit","_law_one"] ["_law_feed_here","_law_many"] (defScope s__law_take):=⟨rfl,rfl,rfl,by decide +kernel,rfl,by decide +kernel,by decide +kernel⟩
abbrev s__law_name:Stmt:=top 45
theorem sc__law_name:FnScope ["_law_feed_here","_law_letters","_law_some_here","_law_name_here"] ["_law_feed_here"] (defScope s__law_name):=⟨rfl,rfl,rfl,by decide +kernel,rfl,by decide +kernel,by decide +kernel⟩
abbrev s__law_whole:Stmt:=top 46
theorem sc__law_whole:FnScope ["_law_feed_here","_law_form"] ["_law_feed_here"] (defScope s__law_whole):=⟨rfl,rfl,rfl,by decide +kernel,rfl,by decide +kernel,by decide +kernel⟩
abbrev s__law_some:Stmt:=top 47
theorem sc__law_some:FnScope ["_law_feed_here","_law_pool"] ["_law_feed_here","_law_pool"] (defScope s__law_some):=⟨rfl,rfl,rfl,by decide +kernel,rfl,by decide +kernel,by decide +kernel⟩
abbrev s__law_leaf:Stmt:=top 48
theorem sc__law_leaf:FnScope ["_law_feed_here","_law_pool"] ["_law_feed_here","_law_pool"] (defScope s__law_leaf):=⟨rfl,rfl,rfl,by decide +kernel,rfl,by decide +kernel,by decide +kernel⟩
abbrev s__law_term:Stmt:=top 49
theorem sc__law_term:FnScope ["_law_feed_here","_law_pool","_law_room","_law_deep_here","_law_form","_law_many","_law_some_here","_law_arms"] ["_law_feed_here","_law_pool","_law_room","_law_deep_here"] (defScope s__law_term):=⟨rfl,rfl,rfl,by decide +kernel,rfl,by decide +kernel,by decide +kernel⟩
abbrev s__law_text:Stmt:=top 50
theorem sc__law_text:FnScope ["_law_term_here","_law_word","_law_words","_law_t","_law_x","_law_one"] ["_law_term_here"] (defScope s__law_text):=⟨rfl,rfl,rfl,by decide +kernel,rfl,by decide +kernel,by decide +kernel⟩
abbrev s__law_words_of:Stmt:=top 51
theorem sc__law_words_of:FnScope ["_law_text_here","_law_found","_law_deep_here","_law_sign_here"] ["_law_text_here"] (defScope s__law_words_of):=⟨rfl,rfl,rfl,by decide +kernel,rfl,by decide +kernel,by decide +kernel⟩
abbrev s__law_all_of:Stmt:=top 52
theorem sc__law_all_of:FnScope ["_law_text_here","_law_signs"] ["_law_text_here","_law_signs"] (defScope s__law_all_of):=⟨rfl,rfl,rfl,by decide +kernel,rfl,by decide +kernel,by decide +kernel⟩
abbrev s__law_is_name:Stmt:=top 53
theorem sc__law_is_name:FnScope ["_law_text_here"] ["_law_text_here"] (defScope s__law_is_name):=⟨rfl,rfl,rfl,by decide +kernel,rfl,by decide +kernel,by decide +kernel⟩
abbrev s__law_is_figures:Stmt:=top 54
theorem sc__law_is_figures:FnScope ["_law_text_here"] ["_law_text_here"] (defScope s__law_is_figures):=⟨rfl,rfl,rfl,by decide +kernel,rfl,by decide +kernel,by decide +kernel⟩
abbrev s__law_arm:Stmt:=top 55
theorem sc__law_arm:FnScope ["_law_text_here","_law_words","_law_term_here"] ["_law_text_here"] (defScope s__law_arm):=⟨rfl,rfl,rfl,by decide +kernel,rfl,by decide +kernel,by decide +kernel⟩
abbrev s__law_case:Stmt:=top 56
theorem sc__law_case:FnScope ["_law_words","_law_term_here","_law_arms"] ["_law_words"] (defScope s__law_case):=⟨rfl,rfl,rfl,by decide +kernel,rfl,by decide +kernel,by decide +kernel⟩
abbrev s__law_parsed:Stmt:=top 57
theorem sc__law_parsed:FnScope ["_law_text_here","_law_words","_law_word","_law_names","_law_some_here"] ["_law_text_here"] (defScope s__law_parsed):=⟨rfl,rfl,rfl,by decide +kernel,rfl,by decide +kernel,by decide +kernel⟩
abbrev s__law_alike:Stmt:=top 58
theorem sc__law_alike:FnScope ["_law_found","_law_due","_law_left","_law_one","_law_other"] ["_law_found","_law_due"] (defScope s__law_alike):=⟨rfl,rfl,rfl,by decide +kernel,rfl,by decide +kernel,by decide +kernel⟩
abbrev s__law_bad_at:Stmt:=top 59
theorem sc__law_bad_at:FnScope ["_law_text_here","_law_caught","e"] ["_law_text_here"] (defScope s__law_bad_at):=⟨rfl,rfl,rfl,by decide +kernel,rfl,by decide +kernel,by decide +kernel⟩
abbrev s__law_sign:Stmt:=top 60
theorem sc__law_sign:FnScope ["_law_feed_here","_law_signs"] ["_law_feed_here"] (defScope s__law_sign):=⟨rfl,rfl,rfl,by decide +kernel,rfl,by decide +kernel,by decide +kernel⟩
abbrev s__law_spoilt:Stmt:=top 61
theorem sc__law_spoilt:FnScope ["_law_feed_here","_law_text_here","_law_form","_law_at","_law_tokens","_law_others","_law_words","_law_k","_law_other"] ["_law_feed_here","_law_text_here"] (defScope s__law_spoilt):=⟨rfl,rfl,rfl,by decide +kernel,rfl,by decide +kernel,by decide +kernel⟩
abbrev s__law_deep:Stmt:=top 62
theorem sc__law_deep:FnScope ["_law_text_here","_law_most","_law_deep_here","_law_sign_here"] ["_law_text_here"] (defScope s__law_deep):=⟨rfl,rfl,rfl,by decide +kernel,rfl,by decide +kernel,by decide +kernel⟩
abbrev s__law_right:Stmt:=top 63
theorem sc__law_right:FnScope ["_law_text_here","_law_due","_law_found"] ["_law_text_here"] (defScope s__law_right):=⟨rfl,rfl,rfl,by decide +kernel,rfl,by decide +kernel,by decide +kernel⟩
abbrev s_law:Stmt:=top 64
theorem sc_law:FnScope ["_law_script","_law_names","_law_pool","_law_text_here","_law_feed_here","_law_spoilt_here","_law_k","_law_odd","_law_one"] ["_law_script"] (defScope s_law):=⟨rfl,rfl,rfl,by decide +kernel,rfl,by decide +kernel,by decide +kernel⟩
abbrev s_init:Stmt:=clsDef (top 2) 0
theorem sc_init:FnScope ["self","at"] ["self","at"] (defScope s_init):=⟨rfl,rfl,rfl,by decide +kernel,rfl,by decide +kernel,by decide +kernel⟩
structure Tx (K:PySem.W.Frag) (mg:Str→Option Value):Prop where
 d_is_name:DefTx K mg "is_name" s_is_name ["text"]
 d_is_number:DefTx K mg "is_number" s_is_number ["text"]
 d_is_made_of:DefTx K mg "is_made_of" s_is_made_of ["text","signs","most"]
 d_term_text:DefTx K mg "term_text" s_term_text ["term"]
 d_bracketed:DefTx K mg "bracketed" s_bracketed ["texts"]
 d_inner_texts:DefTx K mg "inner_texts" s_inner_texts ["term"]
 d_term_texts:DefTx K mg "term_texts" s_term_texts ["terms"]
 d_arm_text:DefTx K mg "arm_text" s_arm_text ["arm"]
 d_term_of:DefTx K mg "term_of" s_term_of ["text"]
 d_term_with:DefTx K mg "term_with" s_term_with ["text","more"]
 d_need:DefTx K mg "need" s_need ["holds"]
 d_trees_of:DefTx K mg "trees_of" s_trees_of ["text"]
 d_put_word:DefTx K mg "put_word" s_put_word ["pile","word"]
 d_close_brackets:DefTx K mg "close_brackets" s_close_brackets ["pile","many"]
 d_term_from:DefTx K mg "term_from" s_term_from ["tree","more"]
 d_terms_from:DefTx K mg "terms_from" s_terms_from ["trees","more"]
 d_leaf_from:DefTx K mg "leaf_from" s_leaf_from ["word","more"]
 d_name_from:DefTx K mg "name_from" s_name_from ["tree"]
 d_arm_from:DefTx K mg "arm_from" s_arm_from ["tree","more"]
 d__law_feed:DefTx K mg "_law_feed" s__law_feed ["_law_script","_law_k"]
 d__law_take:DefTx K mg "_law_take" s__law_take ["_law_feed_here","_law_many"]
 d__law_name:DefTx K mg "_law_name" s__law_name ["_law_feed_here"]
 d__law_whole:DefTx K mg "_law_whole" s__law_whole ["_law_feed_here"]
 d__law_some:DefTx K mg "_law_some" s__law_some ["_law_feed_here","_law_pool"]
 d__law_leaf:DefTx K mg "_law_leaf" s__law_leaf ["_law_feed_here","_law_pool"]
 d__law_term:DefTx K mg "_law_term" s__law_term ["_law_feed_here","_law_pool","_law_room","_law_deep_here"]
 d__law_text:DefTx K mg "_law_text" s__law_text ["_law_term_here"]
 d__law_words_of:DefTx K mg "_law_words_of" s__law_words_of ["_law_text_here"]
 d__law_all_of:DefTx K mg "_law_all_of" s__law_all_of ["_law_text_here","_law_signs"]
 d__law_is_name:DefTx K mg "_law_is_name" s__law_is_name ["_law_text_here"]
 d__law_is_figures:DefTx K mg "_law_is_figures" s__law_is_figures ["_law_text_here"]
 d__law_arm:DefTx K mg "_law_arm" s__law_arm ["_law_text_here"]
 d__law_case:DefTx K mg "_law_case" s__law_case ["_law_words"]
 d__law_parsed:DefTx K mg "_law_parsed" s__law_parsed ["_law_text_here"]
 d__law_alike:DefTx K mg "_law_alike" s__law_alike ["_law_found","_law_due"]
 d__law_bad_at:DefTx K mg "_law_bad_at" s__law_bad_at ["_law_text_here"]
 d__law_sign:DefTx K mg "_law_sign" s__law_sign ["_law_feed_here"]
 d__law_spoilt:DefTx K mg "_law_spoilt" s__law_spoilt ["_law_feed_here","_law_text_here"]
 d__law_deep:DefTx K mg "_law_deep" s__law_deep ["_law_text_here"]
 d__law_right:DefTx K mg "_law_right" s__law_right ["_law_text_here"]
 d_law:DefTx K mg "law" s_law ["_law_script"]
 g_LONGEST_NAME:∃ t,mg "LONGEST_NAME"=some (.int 6 t)
 g_LONGEST_NUMBER:∃ t,mg "LONGEST_NUMBER"=some (.int 10 t)
 g_DEEPEST:∃ t,mg "DEEPEST"=some (.int 20 t)
 g_MOST_ARMS:∃ t,mg "MOST_ARMS"=some (.int 4 t)
 g_LETTERS:∃ t:PTok,mg "LETTERS"=some (.str (Str.ofString "abcdefghijklmnopqrstuvwxyz") t.1)
 g_FIGURES:∃ t:PTok,mg "FIGURES"=some (.str (Str.ofString "0123456789") t.1)
 g_NO_NAMES:∃ a,mg "NO_NAMES"=some (.ref a)∧∀ H,SqT K H a [.str (Str.ofString "num"),.str (Str.ofString "it")]
 g_OPS:∃ a,mg "OPS"=some (.ref a)∧∀ H,SqT K H a [.str (Str.ofString "+"),.str (Str.ofString "-"),.str (Str.ofString "*"),.str (Str.ofString "<"),.str (Str.ofString "=")]
 z_ValueError:mg "ValueError"=none
 z_all:mg "all"=none
 z_bool:mg "bool"=none
 z_int:mg "int"=none
 z_isinstance:mg "isinstance"=none
 z_len:mg "len"=none
 z_list:mg "list"=none
 z_max:mg "max"=none
 z_range:mg "range"=none
 z_str:mg "str"=none
 z_tuple:mg "tuple"=none
 z_zip:mg "zip"=none
 c_BadText:mg "BadText"=some (.ref (cAt K 0))
 c_Twice:mg "Twice"=some (.ref (cAt K 1))
 c_NoName:mg "NoName"=some (.ref (cAt K 2))
 c_NoCount:mg "NoCount"=some (.ref (cAt K 3))
 c_WrongKind:mg "WrongKind"=some (.ref (cAt K 4))
 c_Lacks:mg "Lacks"=some (.ref (cAt K 5))
 c_NotOwn:mg "NotOwn"=some (.ref (cAt K 6))
 c_Falls:mg "Falls"=some (.ref (cAt K 7))
 c_TooBig:mg "TooBig"=some (.ref (cAt K 8))
 c_NoFit:mg "NoFit"=some (.ref (cAt K 9))
 c_NoCode:mg "NoCode"=some (.ref (cAt K 10))
 c_SwapError:mg "SwapError"=some (.ref (ad K "SwapError"))
 mr0:PySem.W.mroIn K (cAt K 0) (.ref (cAt K 0))=some true
 nb:PySem.W.nsIn K PySem.cStatics PySem.sharingNotToldKey=some none
 xt2:XTab2 K
 xt:XTab K
 it:InitTx K "BadText.__init__" (cAt K 0) s_init ["self","at"]
theorem fits {n:Nat} (h:n ≤ 4000000):n ≤ sizeLine:=Nat.le_trans h (by decide)
theorem fitsLt {n:Nat} (h:n ≤ 4000000):n < sizeLine:=Nat.lt_of_le_of_lt h (by decide)
theorem boot_VE:bootBuiltins "ValueError"=some (.type "ValueError"):=by decide +kernel
end K3
end
section
local macro_rules | `(tactic| walk_at "rd1")=>`(tactic| first
 | refine ⟨_,rfl,?_⟩
 | refine ⟨_,_,rfl,rfl,?_⟩
 | refine ⟨_,_,_,_,rfl,rfl,(by assumption),(by first | rfl | assumption),?_⟩
 | refine ⟨_,_,rfl,.inl (by assumption),?_⟩
 | refine ⟨(by first | exact .inr ⟨by decide,by decide⟩ | exact .inl ⟨by decide,by decide⟩ | exact ⟨by decide,by decide,by decide⟩ | exact ⟨by decide,by decide⟩ | exact ⟨by assumption,by assumption⟩ | (show (0:Int) < _; first | decide | assumption)),?_⟩
 | refine ⟨rfl,?_⟩)
local macro_rules | `(tactic| walk_at "rd")=>`(tactic| repeat walk_at "rd1")
namespace K3
open PySem L2 M
seal L2.PE L2.PA L2.PS L2.PSs L2.PT L2.PW L2.PI L2.PG L2.PJ L2.PTs
def spFeed (K:PySem.W.Frag):Sp:=fun vs H Q _=>∃ (a:Addr) (ns:List Int) (k:Int),vs=[.ref a,.int k]∧SqL K H a (ns.map V.int)∧ns.length ≤ 63∧0 ≤ k∧∀ (r:Addr) (p q:Int),H r=none→Q (.ref r) (upd H r (.lst [.int p,.int q]))
def spTake:Sp:=fun vs H Q _=>∃ (a:Addr) (p q m:Int),vs=[.ref a,.int m]∧H a=some (.lst [.int p,.int q])∧0 < m∧m < 2 ^ 64∧∀ (r:Int) (H':Hp),0 ≤ r→r < m→Fed a H H'→Q (.int r) H'
section
variable {P:Program} {w:World} {K:PySem.W.Frag} {mg:Str→Option Value} {base:Heap} {n:Nat}
theorem at_ints {ns:List Int} {k:Int} (h0:0 ≤ k) (h:k < (ns.length:Int)):∃ v:Int,atI (ns.map V.int) k=some (.int v):=by
 have hk:k.toNat < ns.length:=by omega
 have ek:k=((k.toNat:Nat):Int):=by omega
 refine ⟨ns[k.toNat],?_⟩
 have q:atI (ns.map V.int) ((k.toNat:Nat):Int)=some (.int ns[k.toNat]):=atI_nat (by rw [List.getElem?_map,List.getElem?_eq_getElem hk] <;> rfl)
 rw [← ek] at q
 exact q
theorem two_fits:2 ≤ sizeLine:=by decide
theorem ok__law_feed (T:Tx K mg):DefIs P w K mg base (n + 1) "_law_feed" ["_law_script","_law_k"] (spFeed K):=by
 refine DefIs.of T.d__law_feed sc__law_feed (fun vs H Q E h=>?_) (fun f cdv A outer s H vs Q E hr h=>?_)
 ·obtain ⟨a,ns,k,rfl,_⟩:=h
  rfl
 obtain ⟨a,ns,k,rfl,hS,h63,hk,q⟩:=h
 have nd:=sc__law_feed.nd
 have hl:(ns.map V.int).length=ns.length:=List.length_map _
 refine ⟨_,(pss_cons (psn 2 nd pe_int)
   (pss_cons (ps_if (pt_cmpR op_lt (pv 1) (pe_callB (call_len_seqC (K:=K) rfl) rfl T.z_len PySem.boot_len (v1 0)) (nomark _)) (pss_one (psn 2 nd (pxl K (pv 0) (pv 1)))) pss_nil)
   (pss_cons (ps_if (PW.pt (pw_and (pt_cmpR op_gt (pe_callB (call_len_seqC (K:=K) rfl) rfl T.z_len PySem.boot_len (v1 0)) pe_int (nomark _)) (pw_and1 (pt_cmpR op_eq (pe_op op_mod (pxl K (pv 0) pe_int) pe_int) pe_int (nomark _))))) (pss_one (ps_ret (pe_lst (va 2 (pa_cons (pe_op op_add (pe_op op_mod (pe_op op_add (pe_op op_mul (pe_op op_mod (pv 2) pe_int) pe_int) (pe_op op_mul pe_int (pv 1))) pe_int) pe_int) pa_nil star_bin))))) pss_nil)
   (pss_cons (ps_if (PW.pt (pw_and (pt_cmpR op_ge (pv 1) (pe_callB (call_len_seqC (K:=K) rfl) rfl T.z_len PySem.boot_len (v1 0)) (nomark _)) (pw_and1 (pt_cmpR op_gt (pe_callB (call_len_seqC (K:=K) rfl) rfl T.z_len PySem.boot_len (v1 0)) pe_int (nomark _))))) (pss_one (psn 2 nd (pe_op op_add (pxl K (pv 0) (pe_op op_mod (pv 1) (pe_callB (call_len_seqC (K:=K) rfl) rfl T.z_len PySem.boot_len (v1 0)))) (pe_op op_mul pe_int (pv 1))))) pss_nil)
   (pss_one (ps_ret (pe_lst (pa_cons pe_int (pa_cons (pe_op op_add (pe_op op_mod (pe_op op_add (pe_op op_mul (pe_op op_mod (pv 2) pe_int) pe_int) (pe_op op_mul pe_int (pv 1))) pe_int) pe_int) pa_nil star_bin) star_const)))))))),?_⟩
 have h0:0 < ns.length→∃ v:Int,atI (ns.map V.int) 0=some (.int v):=fun h=>at_ints (Int.le_refl 0) (by omega)
 walk_at "rd"
 refine ite2 (fun c=>?_) (fun c=>?_)
 ·have c':=of_decide_eq_true c
  rw [hl] at c'
  obtain ⟨v,hv⟩:=at_ints (ns:=ns) hk c'
  obtain ⟨v0,hv0⟩:=h0 (by omega)
  walk_at "rd"
  refine ite2 (fun c2=>?_) (fun c2=>?_)
  ·walk_at "rd"
   refine ite2 (fun c3=>?_) (fun c3=>?_)
   ·walk_at "rd"
    exact ⟨two_fits,fun l hl'=>q l _ _ hl'⟩
   ·walk_at "rd"
    refine ite2 (fun c4=>?_) (fun c4=>?_)
    ·have c4':=of_decide_eq_true c4
     rw [hl] at c4'
     omega
    ·refine iteF ?_
     walk_at "rd"
     exact ⟨two_fits,fun l hl'=>q l _ _ hl'⟩
  ·have c2':=of_decide_eq_false (Bool.eq_false_iff.mpr c2)
   rw [hl] at c2'
   omega
 ·have c':=of_decide_eq_false (Bool.eq_false_iff.mpr c)
  rw [hl] at c'
  walk_at "rd"
  refine ite2 (fun c2=>?_) (fun c2=>?_)
  ·have c2':=of_decide_eq_true c2
   rw [hl] at c2'
   obtain ⟨v0,hv0⟩:=h0 (by omega)
   walk_at "rd"
   refine ite2 (fun c3=>?_) (fun c3=>?_)
   ·walk_at "rd"
    exact ⟨two_fits,fun l hl'=>q l _ _ hl'⟩
   ·walk_at "rd"
    refine ite2 (fun c4=>?_) (fun c4=>?_)
    ·walk_at "rd"
     refine ite2 (fun c5=>?_) (fun c5=>?_)
     ·obtain ⟨v,hv⟩:=at_ints (ns:=ns) (k:=k % (ns.length:Int)) (Int.emod_nonneg _ (by omega)) (Int.emod_lt_of_pos _ (by omega))
      rw [← hl] at hv
      have hp:(0:Int) < ((ns.map V.int).length:Nat):=by rw [hl]; omega
      walk_at "rd"
      exact ⟨two_fits,fun l hl'=>q l _ _ hl'⟩
     ·walk_at "rd"
      exact ⟨two_fits,fun l hl'=>q l _ _ hl'⟩
    ·refine iteF ?_
     walk_at "rd"
     exact ⟨two_fits,fun l hl'=>q l _ _ hl'⟩
  ·refine iteF ?_
   walk_at "rd"
   refine ite2 (fun c4=>?_) (fun c4=>?_)
   ·walk_at "rd"
    refine ite2 (fun c5=>?_) (fun c5=>?_)
    ·have c2':=of_decide_eq_false (Bool.eq_false_iff.mpr c2)
     exact absurd (of_decide_eq_true c5) c2'
    ·walk_at "rd"
     exact ⟨two_fits,fun l hl'=>q l _ _ hl'⟩
   ·refine iteF ?_
    walk_at "rd"
    exact ⟨two_fits,fun l hl'=>q l _ _ hl'⟩
theorem ok__law_take (T:Tx K mg):DefIs P w K mg base (n + 1) "_law_take" ["_law_feed_here","_law_many"] spTake:=by
 refine DefIs.of T.d__law_take sc__law_take (fun vs H Q E h=>?_) (fun f cdv A outer s H vs Q E hr h=>?_)
 ·obtain ⟨a,p,q,m,rfl,_⟩:=h
  rfl
 obtain ⟨a,p,q,m,rfl,ha,m0,m1,k⟩:=h
 have nd:=sc__law_take.nd
 have hS:SqL K H a [.int p,.int q]:=SqL.of ha
 refine ⟨_,(pss_cons (ps_if (pt_cmpR op_gt (pxl K (pv 0) pe_int) pe_int (nomark _)) (pss_cons (psn 2 nd (pe_op op_mod (pxl K (pv 0) pe_int) (pv 1)))
   (pss_cons (ps_asg (pe_op op_fdivB (pxl K (pv 0) pe_int) (pv 1)) (pg_sub (pv 0) pe_int set_list))
   (pss_one (ps_ret (pv 2))))) pss_nil)
   (pss_cons (psn 3 nd (pe_op op_mod (pe_op op_mul (pxl K (pv 0) pe_int) pe_int) pe_int))
   (pss_cons (ps_asg (pe_op op_add (pe_op op_mod (pe_op op_add (pe_op op_mul (pv 3) pe_int) pe_int) pe_int) pe_int) (pg_sub (pv 0) pe_int set_list))
   (pss_one (ps_ret (pe_op op_mod (pe_op op_fdivB (pe_op op_add (pe_op op_mul (pv 3) pe_int) (pxl K (pv 0) pe_int)) pe_int) (pv 1))))))),?_⟩
 walk_at "rd"
 refine ite2 (fun c=>?_) (fun c=>?_)
 ·walk_at "rd"
  refine k _ _ (Int.emod_nonneg _ (by omega)) (Int.emod_lt_of_pos _ m0) Fed.of
 ·walk_at "rd"
  refine ⟨_,_,_,_,rfl,rfl,SqL.of upd_same,rfl,?_⟩
  walk_at "rd"
  refine k _ _ (Int.emod_nonneg _ (by omega)) (Int.emod_lt_of_pos _ m0) Fed.of
end
def spLName:Sp:=fun vs H Q _=>∃ (a:Addr) (p q:Int),vs=[.ref a]∧H a=some (.lst [.int p,.int q])∧∀ (x:Str) (H':Hp),Name x→Fed a H H'→Q (.str x) H'
def spWhole:Sp:=fun vs H Q _=>∃ (a:Addr) (p q:Int),vs=[.ref a]∧H a=some (.lst [.int p,.int q])∧∀ (i:Int) (H':Hp),0 ≤ i→i < 10 ^ 10→Fed a H H'→Q (.int i) H'
def spSome:Sp:=fun vs H Q _=>∃ (a b:Addr),vs=[.ref a,.ref b]∧Src H a b∧∀ (x:Str) (H':Hp),Name x→Fed a H H'→Q (.str x) H'
def spLeaf:Sp:=fun vs H Q _=>∃ (a b:Addr),vs=[.ref a,.ref b]∧Src H a b∧∀ v d t (H':Hp),Leaf d t→RelD H' v d→Fed a H H'→Q v H'
section
variable {P:Program} {w:World} {K:PySem.W.Frag} {mg:Str→Option Value} {base:Heap} {n m:Nat}
theorem ok__law_name (T:Tx K mg) (D__law_take:DefIs P w K mg base n "_law_take" ["_law_feed_here","_law_many"] spTake):DefIs P w K mg base (n + 1) "_law_name" ["_law_feed_here"] spLName:=by
 refine DefIs.of T.d__law_name sc__law_name (fun vs H Q E h=>?_) (fun f cdv A outer s H vs Q E hr h=>?_)
 ·obtain ⟨a,p,q,rfl,_⟩:=h
  rfl
 obtain ⟨a,p,q,rfl,ha,k⟩:=h
 have nd:=sc__law_name.nd
 refine ⟨_,(pss_cons (psn 1 nd pe_str)
   (pss_cons (ps_if (pt_cmpR op_eq (pe_dcall D__law_take hr (va 0 (pa_cons pe_int pa_nil star_const))) pe_int (nomark _)) (pss_cons (psn 2 nd (pe_lst (pa_strs [Str.ofString "rec",Str.ofString "alt",Str.ofString "hand",Str.ofString "box",Str.ofString "set",Str.ofString "send",Str.ofString "take",Str.ofString "tell",Str.ofString "go",Str.ofString "if",Str.ofString "end",Str.ofString "get",Str.ofString "tag",Str.ofString "case"] rfl)))
   (pss_cons (psn 2 nd (pe_op op_cat (pv 2) (pe_lst (pa_strs [Str.ofString "numx",Str.ofString "recq",Str.ofString "takes",Str.ofString "iff",Str.ofString "itq",Str.ofString "goes",Str.ofString "sends",Str.ofString "tags",Str.ofString "ends",Str.ofString "gets",Str.ofString "way",Str.ofString "with"] rfl))))
   (pss_one (ps_ret (pxl K (pv 2) (pe_dcall D__law_take hr (va 0 (pa_cons pe_int pa_nil star_const)))))))) pss_nil)
   (pss_cons (psn 3 nd (pe_bm PySem.F.plainAttrs_str PySem.F.slot_str_join PySem.F.type_str_join mt_join pe_str (pa_cons (pe_comp ["_law_k","_law_letters","_law_feed_here"] [none,some 1,some 0] rfl (by kernel_rfl) (pi_range1 rfl T.z_range (pa_cons (pe_op op_add pe_int (pe_dcall D__law_take hr (va 0 (pa_cons pe_int pa_nil star_const)))) pa_nil star_bin)) (fun _ _ _ _=>(pgc 0)) (fun _ _ _ _=>pts_nil) (fun _ _ _ _=>(pe_ix ix_str (pv 1) (pe_dcall D__law_take hr (va 2 (pa_cons pe_int pa_nil star_const))) (fun _ _=>rfl)))) pa_nil star_comp)))
   (pss_cons (ps_if (PW.pt (pw_or (pt_cmpR op_eq (pv 3) pe_str (nomark _)) (pw_or1 (pt_cmpR op_eq (pv 3) pe_str (nomark _))))) (pss_one (ps_ret (pe_op op_add_str (pv 3) pe_str))) pss_nil)
   (pss_one (ps_ret (pv 3))))))),?_⟩
 refine ⟨_,rfl,a,p,q,6,rfl,ha,by decide,by decide,fun r1 H1 r10 r11 f1=>⟨rfl,_,rfl,?_⟩⟩
 obtain ⟨p1,q1,h1⟩:=f1.2
 refine ite2 (fun c=>?_) (fun c=>?_)
 ·refine ⟨(by show 14 ≤ sizeLine; decide),fun l1 hl1=>?_⟩
  refine ⟨_,rfl,(by show 12 ≤ sizeLine; decide),fun l2 hl2=>⟨l1,l2,_,_,rfl,rfl,Same.new hl2 _ _ _ upd_same,upd_same,(by show 26 ≤ sizeLine; decide),fun l3 hl3=>?_⟩⟩
  have h3:=Same.new hl2 (.lst (nB.map V.str)) _ _ (Same.new hl1 (.lst (nA.map V.str)) _ _ h1)
  refine ⟨_,rfl,_,rfl,a,p1,q1,26,rfl,Same.new hl3 _ _ _ h3,by decide,by decide,fun r2 H2 r20 r21 f2=>?_⟩
  obtain ⟨y,hy,hv⟩:=at26 r20 r21
  have hla:l3≠a:=fun e=>by
   rw [e] at hl3
   exact absurd (h3.symm.trans hl3) (by simp)
  refine ⟨l3,_,_,_,rfl,rfl,SqL.of (f2.1 l3 _ upd_same hla),hv,?_⟩
  refine k y _ (names26_all y hy) (f1.trans ⟨fun b o e nb=>f2.1 b o (Same.new hl3 _ _ _ (Same.new hl2 _ _ _ (Same.new hl1 _ _ _ e))) nb,f2.2⟩)
 ·refine ⟨rfl,_,rfl,a,p1,q1,6,rfl,h1,by decide,by decide,fun r2 H2 r20 r21 f2=>⟨_,_,rfl,rfl,_,rfl,by omega,by omega,?_⟩⟩
  refine comp_range (j:=0) (fun i ys H'=>Fed a H H'∧∃ cs:List Nat,ys=(cs.map single).map V.str∧∀ c∈cs,isLetter c=true) (by rfl) ⟨f1.trans f2,[],rfl,fun _ h=>nomatch h⟩ ?_ ?_ ?_
  ·exact fitsLt (by omega)
  ·rintro i ys H3 hi hl ⟨f3,cs,rfl,hcs⟩
   obtain ⟨p3,q3,h3⟩:=f3.2
   refine ⟨_,rfl,_,rfl,a,p3,q3,26,rfl,h3,by decide,by decide,fun r4 H4 r40 r41 f4=>?_⟩
   obtain ⟨ch,_,hc⟩:=at_codes (cs:=(S "abcdefghijklmnopqrstuvwxyz").cps.toList) r40 (by rw [show (S "abcdefghijklmnopqrstuvwxyz").cps.toList.length=26 by decide +kernel]; exact r41)
   refine ⟨_,_,ch,rfl,rfl,by decide +kernel,hc,?_⟩
   exact nxt hi hl ⟨f3.trans f4,cs++[ch],by simp [single],fun c hcm=>by
    rcases List.mem_append.mp hcm with hcm | hcm
    ·exact hcs c hcm
    ·rw [List.mem_singleton.mp hcm]; exact letter_at hc⟩
  ·rintro ys H3 hl ⟨f3,cs,rfl,hcs⟩ D3 hD
   rw [List.length_map,List.length_map] at hl
   refine ⟨S "",D3,cs.map single,rfl,rfl,SqL.of upd_same,?_,?_⟩
   ·rw [sum_singles,show (S "").length=0 by decide +kernel]
    omega
   rw [join_singles]
   have f4:=f3.new hD (.lst ((cs.map single).map V.str))
   refine ⟨_,rfl,rfl,_,rfl,?_⟩
   refine ite2 (fun c1=>?_) (fun c1=>?_)
   ·have c1':ofL cs=S "num":=V.str.inj (of_decide_eq_true c1)
    refine iteT ?_
    rw [c1']
    exact ⟨_,rfl,_,_,rfl,rfl,(by decide +kernel),k _ _ (show nameL _=true by decide +kernel) f4⟩
   ·have c1':ofL cs≠S "num":=fun e=>of_decide_eq_false (Bool.eq_false_iff.mpr c1) (congrArg V.str e)
    refine ⟨_,rfl,rfl,_,rfl,?_⟩
    refine ite2 (fun c2=>?_) (fun c2=>?_)
    ·have c2':ofL cs=S "it":=V.str.inj (of_decide_eq_true c2)
     rw [c2']
     exact ⟨_,rfl,_,_,rfl,rfl,(by decide +kernel),k _ _ (show nameL _=true by decide +kernel) f4⟩
    ·have c2':ofL cs≠S "it":=fun e=>of_decide_eq_false (Bool.eq_false_iff.mpr c2) (congrArg V.str e)
     exact ⟨_,rfl,k _ _ (name_drawn (by omega) (by omega) hcs c1' c2') f4⟩
theorem ok__law_whole (T:Tx K mg) (D__law_take:DefIs P w K mg base n "_law_take" ["_law_feed_here","_law_many"] spTake):DefIs P w K mg base (n + 1) "_law_whole" ["_law_feed_here"] spWhole:=by
 refine DefIs.of T.d__law_whole sc__law_whole (fun vs H Q E h=>?_) (fun f cdv A outer s H vs Q E hr h=>?_)
 ·obtain ⟨a,p,q,rfl,_⟩:=h
  rfl
 obtain ⟨a,p,q,rfl,ha,k⟩:=h
 have nd:=sc__law_whole.nd
 have e1:(10:Int) ^ (10:Int).toNat=10000000000:=by decide
 have e2:(2:Int) ^ (32:Int).toNat=4294967296:=by decide
 refine ⟨_,(pss_cons (psn 1 nd (pe_dcall D__law_take hr (va 0 (pa_cons pe_int pa_nil star_const))))
   (pss_cons (ps_if (pt_cmpR op_eq (pv 1) pe_int (nomark _)) (pss_one (ps_ret (pe_dcall D__law_take hr (va 0 (pa_cons pe_int pa_nil star_const))))) pss_nil)
   (pss_cons (ps_if (pt_cmpR op_eq (pv 1) pe_int (nomark _)) (pss_one (ps_ret (pe_op op_sub (pe_op op_sub (pe_op op_pow pe_int pe_int) pe_int) (pe_dcall D__law_take hr (va 0 (pa_cons pe_int pa_nil star_const)))))) pss_nil)
   (pss_cons (ps_if (pt_cmpR op_eq (pv 1) pe_int (nomark _)) (pss_one (ps_ret (pe_op op_add (pe_op op_sub (pe_op op_pow pe_int pe_int) pe_int) (pe_dcall D__law_take hr (va 0 (pa_cons pe_int pa_nil star_const)))))) pss_nil)
   (pss_one (ps_ret (pe_dcall D__law_take hr (va 0 (pa_cons (pe_op op_pow pe_int pe_int) pa_nil star_bin))))))))),?_⟩
 refine ⟨_,rfl,a,p,q,4,rfl,ha,by decide,by decide,fun r1 H1 r10 r11 f1=>?_⟩
 obtain ⟨p1,q1,h1⟩:=f1.2
 refine ⟨_,rfl,rfl,_,rfl,?_⟩
 refine ite2 (fun c=>?_) (fun c=>?_)
 ·exact ⟨_,rfl,a,p1,q1,12,rfl,h1,by decide,by decide,fun r2 H2 r20 r21 f2=>k _ _ r20 (by omega) (f1.trans f2)⟩
 refine ⟨_,rfl,rfl,_,rfl,?_⟩
 refine ite2 (fun c=>?_) (fun c=>?_)
 ·refine ⟨_,_,rfl,rfl,⟨by decide,by decide,by decide⟩,_,_,rfl,rfl,_,rfl,a,p1,q1,5,rfl,h1,by decide,by decide,fun r2 H2 r20 r21 f2=>⟨_,_,rfl,rfl,k _ _ (by omega) (by omega) (f1.trans f2)⟩⟩
 refine ⟨_,rfl,rfl,_,rfl,?_⟩
 refine ite2 (fun c=>?_) (fun c=>?_)
 ·refine ⟨_,_,rfl,rfl,⟨by decide,by decide,by decide⟩,_,_,rfl,rfl,_,rfl,a,p1,q1,5,rfl,h1,by decide,by decide,fun r2 H2 r20 r21 f2=>⟨_,_,rfl,rfl,k _ _ (by omega) (by omega) (f1.trans f2)⟩⟩
 ·refine ⟨_,rfl,_,_,rfl,rfl,⟨by decide,by decide,by decide⟩,a,p1,q1,_,rfl,h1,by omega,by omega,fun r2 H2 r20 r21 f2=>k _ _ r20 (by omega) (f1.trans f2)⟩
theorem ok__law_some (T:Tx K mg) (D__law_take:DefIs P w K mg base n "_law_take" ["_law_feed_here","_law_many"] spTake):DefIs P w K mg base (n + 1) "_law_some" ["_law_feed_here","_law_pool"] spSome:=by
 refine DefIs.of T.d__law_some sc__law_some (fun vs H Q E h=>?_) (fun f cdv A outer s H vs Q E hr h=>?_)
 ·obtain ⟨a,b,rfl,_⟩:=h
  rfl
 obtain ⟨a,b,rfl,src,k⟩:=h
 obtain ⟨p,q,ha⟩:=src.feed
 obtain ⟨ys,hb,h8,hN⟩:=src.pool
 refine ⟨_,(pss_one (ps_ret (pxl K (pv 1) (pe_dcall D__law_take hr (va 0 (pa_cons (pe_callB (call_len_seqC (K:=K) rfl) rfl T.z_len PySem.boot_len (v1 1)) pa_nil star_call)))))),?_⟩
 have hl:(ys.map V.str).length=8:=by rw [List.length_map,h8]
 refine ⟨_,rfl,_,rfl,_,rfl,b,_,rfl,.inl (SqL.of hb),a,p,q,_,rfl,ha,by omega,by omega,fun r2 H2 r20 r21 f2=>?_⟩
 obtain ⟨z,hz,hv⟩:=at_codes (cs:=ys.map V.str) r20 r21
 obtain ⟨y,hy,rfl⟩:=List.mem_map.mp hz
 exact ⟨b,_,_,_,rfl,rfl,SqL.of (f2.1 b _ hb src.ne.symm),hv,k y _ (hN y hy) f2⟩
theorem ok__law_leaf (T:Tx K mg) (D__law_take:DefIs P w K mg base n "_law_take" ["_law_feed_here","_law_many"] spTake) (D__law_whole:DefIs P w K mg base n "_law_whole" ["_law_feed_here"] spWhole) (D__law_some:DefIs P w K mg base n "_law_some" ["_law_feed_here","_law_pool"] spSome):DefIs P w K mg base (n + 1) "_law_leaf" ["_law_feed_here","_law_pool"] spLeaf:=by
 refine DefIs.of T.d__law_leaf sc__law_leaf (fun vs H Q E h=>?_) (fun f cdv A outer s H vs Q E hr h=>?_)
 ·obtain ⟨a,b,rfl,_⟩:=h
  rfl
 obtain ⟨a,b,rfl,src,k⟩:=h
 obtain ⟨p,q,ha⟩:=src.feed
 refine ⟨_,(pss_cons (ps_if (pt_cmpR op_eq (pe_dcall D__law_take hr (va 0 (pa_cons pe_int pa_nil star_const))) pe_int (nomark _)) (pss_one (ps_ret (pe_tup (pa_cons pe_str (pa_cons (pe_dcall D__law_whole hr (v1 0)) pa_nil star_call) star_const)))) pss_nil)
   (pss_one (ps_ret (pe_tup (pa_cons pe_str (pa_cons (pe_dcall D__law_some hr (va 0 (v1 1))) pa_nil star_call) star_const))))),?_⟩
 refine ⟨_,rfl,a,p,q,2,rfl,ha,by decide,by decide,fun r1 H1 r10 r11 f1=>⟨rfl,_,rfl,?_⟩⟩
 obtain ⟨p1,q1,h1⟩:=f1.2
 refine ite2 (fun c=>?_) (fun c=>?_)
 ·refine ⟨_,rfl,a,p1,q1,rfl,h1,fun i H2 i0 i1 f2=>⟨(by show 2 ≤ sizeLine; decide),fun l hl=>?_⟩⟩
  exact k _ _ _ _ (.inl ⟨i,i0,i1,rfl,rfl⟩) ⟨l,_,rfl,upd_same,_,_,rfl,rfl,_,_,rfl,rfl,rfl⟩ ((f1.trans f2).new hl _)
 ·refine ⟨_,rfl,_,rfl,a,b,rfl,src.fed f1,fun x H2 hx f2=>⟨(by show 2 ≤ sizeLine; decide),fun l hl=>?_⟩⟩
  exact k _ _ _ _ (.inr ⟨x,hx,rfl,rfl⟩) ⟨l,_,rfl,upd_same,_,_,rfl,rfl,_,_,rfl,rfl,rfl⟩ ((f1.trans f2).new hl _)
end
def Bad (K:PySem.W.Frag) (H:Hp) (v:Value) (d:Option Addr) (i:Int):Prop:=∃ x dx,v=.ref x∧d=some dx∧H x=some (excF x (cAt K 0) (some dx) .none)∧H dx=some (.xd [("at",.int i)])
def spInit (K:PySem.W.Frag):Sp:=fun vs H Q _=>∃ (e:Addr) (i:Int),vs=[.ref e,.int i]∧H e=some (excO e (cAt K 0) none)∧0 ≤ i∧i < 10 ^ 18 ∧
 ∀ H' dx,SameBut e H H'→H' e=some (excO e (cAt K 0) (some dx))→H' dx=some (.xd [("at",.int i)])→Q .non H'
theorem log_small {i:Int} (h:i.natAbs < 2 ^ 64):i.natAbs.log2 < 1920:=by
 by_cases h0:i.natAbs=0
 ·rw [h0]; decide
 ·have:=(Nat.log2_lt h0).mpr h
  omega
theorem len_num {i:Int} (h0:0 ≤ i) (h:i < 10 ^ 18):(Str.ofString (toString i)).length ≤ 18:=by
 obtain ⟨m,rfl⟩:=Int.eq_ofNat_of_zero_le h0
 have e:=congrArg List.length (num_reads m)
 rw [List.length_map] at e
 show (numS (m:Int)).cps.size ≤ 18
 rw [← Array.length_toList,e]
 exact (Nat.length_toDigits_le_iff (b:=10) (k:=18) (by decide) (by decide)).mpr (by omega)
section
variable {P:Program} {w:World} {K:PySem.W.Frag} {mg:Str→Option Value} {base:Heap} {n m:Nat}
theorem init_rd (T:Tx K mg) {e:Addr} {i:Int} {H:Hp} {Q:VK} (he:H e=some (excO e (cAt K 0) none)) (i0:0 ≤ i) (i1:i < 10 ^ 18)
  (k:∀ H' dx,SameBut e H H'→H' e=some (excO e (cAt K 0) (some dx))→H' dx=some (.xd [("at",.int i)])→Q .non H') :
  tSeq (tDrop (tInitX K (tCons (tVar 0) (tCons (fun σ H Q=>jLit (Str.ofString "no such text, by its row ") (jInt (tVar 1) jNil) σ H Str.empty Q) tNil)))) (sFldX K (tVar 0) (tVar 1) "at") { nx:=fun _ H'=>Q .non H',rt:=Q } (start ["self","at"] [.ref e,.int i]) H:=by
 have hl:=len_num i0 i1
 have hlen:((Str.empty++Str.ofString "no such text, by its row ")++Str.ofString (toString i)).length ≤ sizeLine:=by
  refine fits ?_
  show ((Str.empty++Str.ofString "no such text, by its row ").cps++(Str.ofString (toString i)).cps).size ≤ 4000000
  rw [Array.size_append]
  have e1:(Str.empty++Str.ofString "no such text, by its row ").cps.size=25:=by decide +kernel
  have e2:(Str.ofString (toString i)).cps.size ≤ 18:=hl
  omega
 refine ⟨_,rfl,(by decide +kernel),_,rfl,i,rfl,log_small (by omega),hlen,hlen,e,cAt K 0,_,rfl,he,T.xt.cl 0 (by decide),(by show 1 ≤ sizeLine; decide),?_⟩
 have e0:(upd H e (excO e (cAt K 0) none)) e=some (excO e (cAt K 0) none):=upd_same
 refine ⟨_,rfl,_,rfl,e,cAt K 0,rfl,e0,T.xt.cl 0 (by decide),T.xt.na,fun dx hd ne=>?_⟩
 refine k _ dx (fun b o hb nb=>?_) upd_same ?_
 ·have nd':b≠dx:=fun z=>by rw [z] at hb nb; rw [upd_ne nb] at hd; rw [hb] at hd; cases hd
  rw [upd_ne nb,upd_ne nd',upd_ne nb]
  exact hb
 ·rw [upd_ne ne,upd_same]
theorem ok_init (T:Tx K mg):InitIs P w K mg base (n + 1) (cAt K 0) ["self","at"] (spInit K):=by
 refine InitIs.of T.it sc_init (fun vs H Q E h=>?_) (fun f cdv A outer s H vs Q E hr h=>?_)
 ·obtain ⟨_,_,rfl,_⟩:=h
  rfl
 obtain ⟨e,i,rfl,he,i0,i1,k⟩:=h
 exact ⟨_,(pss_cons (ps_expr (pe_initX T.xt.sup rfl T.c_SwapError (pa_cons (pv 0) (pa_cons (pe_fstr (pj_lit (pj_int (pv 1) pj_nil))) pa_nil star_fstr) star_name))) (pss_one (ps_fldX (pv 0) (pv 1) rfl))),init_rd T he i0 i1 k⟩
def spNeed (K:PySem.W.Frag):Sp:=fun vs H Q E=>∃ b,vs=[.bl b]∧(b=true→Q .non H)∧(b=false→∀ v d H',Same H H'→Bad K H' v d 0→E v d H')
theorem ok_need (T:Tx K mg) (D_init:InitIs P w K mg base n (cAt K 0) ["self","at"] (spInit K)):DefXs P w K mg base (n + 2) "need" ["holds"] (spNeed K):=by
 refine DefXs.of T.d_need sc_need (fun vs H Q E h=>?_) (fun f cdv A outer s H vs Q E hr h=>?_)
 ·obtain ⟨_,rfl,_⟩:=h
  rfl
 obtain ⟨b,rfl,k1,k2⟩:=h
 refine ⟨_,(pss_one (ps_if (pt_not (pt_val (pv 0))) (pss_one (ps_raise rfl (pe_dexc D_init (T.xt.cl 0 (by decide)) hr T.c_BadText (pa_cons pe_int pa_nil star_const)))) pss_nil)),?_⟩
 cases b with
 | true=>exact ⟨_,rfl,_,rfl,iteF (k1 rfl)⟩
 | false=>
  refine ⟨_,rfl,_,rfl,iteT ?_⟩
  refine ⟨(by show 1 ≤ sizeLine; decide),fun e he=>⟨e,0,rfl,upd_same,by decide,by decide,fun H' dx sb h1 h2=>⟨rfl,e,cAt K 0,some dx,rfl,h1,T.xt.cl 0 (by decide),?_⟩⟩⟩
  have nx:dx≠e:=fun z=>by rw [z,h1] at h2; cases h2
  refine k2 rfl _ _ _ (fun c o hc=>?_) ⟨e,dx,rfl,rfl,upd_same,by rw [upd_ne nx]; exact h2⟩
  have nc:c≠e:=fun z=>by rw [z,he] at hc; cases hc
  rw [upd_ne nc]
  exact sb c o (by rw [upd_ne nc]; exact hc) nc
end
end K3
end
section
local macro_rules | `(tactic| walk_at "rd1")=>`(tactic| first
 | refine ⟨_,rfl,?_⟩
 | refine ⟨_,_,rfl,rfl,?_⟩
 | refine ⟨_,_,_,_,rfl,rfl,(by assumption),(by first | rfl | assumption),?_⟩
 | refine ⟨_,_,rfl,.inl (by assumption),?_⟩
 | refine ⟨_,_,rfl,.inr (by assumption),?_⟩
 | refine ⟨rfl,?_⟩
 | refine M.iteKF (by decide +kernel) ?_
 | refine M.iteKT (by decide +kernel) ?_)
local macro_rules | `(tactic| walk_at "rd")=>`(tactic| repeat walk_at "rd1")
namespace K3
open PySem L2 M
seal L2.PE L2.PA L2.PS L2.PSs L2.PT L2.PW L2.PI L2.PG L2.PJ L2.PTs
def spClose (K:PySem.W.Frag):Sp:=fun vs H Q E=>∃ p as st k,vs=[.ref p,.int k]∧PileAt H p as st∧0 ≤ k∧sumP st ≤ 3900000∧(∀ top r,st=top :: r→1 ≤ top.length) ∧
 (k.toNat < st.length→∀ as' H',PileAt H' p as' (close k.toNat st)→Same (hide (p :: as) H) (hide (p :: as') H')→Q .non H')∧(¬ k.toNat < st.length→∀ v d H',Same H H'→Bad K H' v d 0→E v d H')
def spPut (K:PySem.W.Frag):Sp:=fun vs H Q E=>∃ p as st x,vs=[.ref p,.str x]∧PileAt H p as st∧1 ≤ st.length∧st.length ≤ 21∧sumP st ≤ 3800000∧x.length ≤ 3000000 ∧
 (∀ st',putW (L x) st=some st'→∀ as' H',PileAt H' p as' st'→Same (hide (p :: as) H) (hide (p :: as') H')→Q .non H')∧(putW (L x) st=none→∀ v d H',Same (hide (p :: as) H) H'→Bad K H' v d 0→E v d H')
section
variable {P:Program} {w:World} {K:PySem.W.Frag} {mg:Str→Option Value} {base:Heap} {n m:Nat}
theorem pile_last {as:List Addr} {a:Addr}:atI (((a :: as).map V.ref).reverse) (-1)=some (.ref a):=by
 rw [List.map_cons,List.reverse_cons]
 exact atI_last _ _
theorem ok_close_brackets (T:Tx K mg) (D_need:DefXs P w K mg base n "need" ["holds"] (spNeed K)):DefXs P w K mg base (n + 1) "close_brackets" ["pile","many"] (spClose K):=by
 refine DefXs.of T.d_close_brackets sc_close_brackets (fun vs H Q E h=>?_) (fun f cdv A outer s H vs Q E hr h=>?_)
 ·obtain ⟨_,_,_,_,rfl,_⟩:=h
  rfl
 obtain ⟨p,as,st,k,rfl,hp,k0,hsum,htop,q,qe⟩:=h
 have nd:=sc_close_brackets.nd
 refine ⟨_,(pss_cons (ps_expr (pe_xcall D_need hr (pa_cons (pe_cmpR op_lt (pv 1) (pe_callB (call_len_seqC (K:=K) rfl) rfl T.z_len PySem.boot_len (v1 0)) (nomark _)) pa_nil star_cmp)))
   (pss_one (ps_while (thr_ownT rfl rfl) (pt_cmpR op_gt (pv 1) pe_int (nomark _))
   (pss_cons (psn 2 nd (pe_bm0 PySem.F.plainAttrs_list PySem.F.slot_list_pop PySem.F.type_list_pop mt_pop (pv 0)))
   (pss_cons (ps_expr (pe_bm PySem.F.plainAttrs_list PySem.F.slot_list_append PySem.F.type_list_append mt_append (pxl K (pv 0) (pe_un un_neg pe_int)) (v1 2)))
   (pss_one (psn 1 nd (pe_op op_sub (pv 1) pe_int)))))))),?_⟩
 have hl:=hp.len
 have hpl:((as.map V.ref).reverse).length=st.length:=by rw [List.length_reverse,List.length_map,hp.len]
 refine ⟨_,rfl,_,rfl,p,_,rfl,.inl (SqL.of hp.pile),_,_,rfl,rfl,_,rfl,fun hb=>?_,fun hb v d H' sm bd=>qe (fun z=>of_decide_eq_false hb (by rw [hpl]; omega)) v d H' sm bd⟩
 have k1:k.toNat < st.length:=by have:=of_decide_eq_true hb; rw [hpl] at this; omega
 refine while_by (fun σ H'=>∃ (j:Int) (v:Option V) (as':List Addr) (st':Pile),σ=[some (.ref p),some (.int j),v]∧0 ≤ j∧PileAt H' p as' st'∧j.toNat < st'.length∧close j.toNat st'=close k.toNat st∧sumP st' ≤ 3900000∧(∀ top r,st'=top :: r→1 ≤ top.length)∧Same (hide (p :: as) H) (hide (p :: as') H'))
  (fun σ _=>match σ with | [_,some (.int j),_]=>j.toNat | _=>0) ⟨k,none,as,st,rfl,k0,hp,k1,rfl,hsum,htop,Same.refl _⟩ ?_ ?_
 ·rintro σ H1 ⟨j,v,as1,st1,rfl,j0,hp1,j1,ec,hs1,ht1,sm1⟩
  refine ⟨_,rfl,_,_,rfl,rfl,_,rfl,?_⟩
  refine ite2 (fun c=>?_) (fun c=>?_)
  ·have c':(0:Int) < j:=of_decide_eq_true c
   have hl1:=hp1.len
   match as1,st1,hp1,j1,ec,hs1,ht1,hl1 with
   | [],st1,hp1,j1,_,_,_,hl1=>simp at hl1; omega
   | [a],st1,hp1,j1,_,_,_,hl1=>simp at hl1; omega
   | a :: b :: as2,[],hp1,j1,_,_,_,hl1=>simp at hl1
   | a :: b :: as2,[top],hp1,j1,_,_,_,hl1=>simp at hl1
   | a :: b :: as2,top :: par :: st2,hp1,j1,ec,hs1,ht1,hl1=>
    have pb:b≠p:=fun e=>hp1.np (by rw [← e]; simp)
    obtain ⟨vs,hb,lenb⟩:∃ vs,H1 b=some (.lst vs)∧vs.length=par.length:=by
     cases hp1.lists with
     | cons h1 h2=>cases h2 with
      | cons h2 h3=>obtain ⟨vs,e,r⟩:=h2; exact ⟨vs,e,r.length⟩
    obtain ⟨hp2,sm2⟩:=hp1.shuts hb
    have el:((a :: b :: as2).map V.ref).reverse=((b :: as2).map V.ref).reverse++[.ref a]:=by simp
    have hpile:=hp1.pile
    rw [el] at hpile
    refine ⟨_,rfl,.inl ⟨rfl,_,SqL.of hpile⟩,p,_,.ref a,rfl,rfl,hpile,?_,?_⟩
    ·rw [List.length_append,List.length_singleton,Nat.add_sub_cancel,List.getElem?_append_right (Nat.le_refl _),Nat.sub_self]
     rfl
    rw [List.dropLast_concat]
    refine ⟨_,rfl,_,rfl,p,_,-1,.ref b,rfl,rfl,SqL.of upd_same,pile_last,.inl ⟨rfl,vs,SqL.of (by rw [upd_ne pb]; exact hb)⟩,_,rfl,b,vs,.ref a,rfl,rfl,?_,?_,?_⟩
    ·rw [upd_ne pb]; exact hb
    ·have:par.length ≤ sumP (top :: par :: st2):=by simp [sumP]; omega
     rw [lenb]
     exact fitsLt (by omega)
    refine ⟨_,rfl,_,_,rfl,rfl,?_⟩
    refine ⟨⟨j - 1,_,_,_,rfl,by omega,hp2,?_,?_,?_,?_,sm1.trans sm2⟩,?_⟩
    ·simp at j1 ⊢; omega
    ·rw [← ec]
     have ej:j.toNat=(j - 1).toNat + 1:=by omega
     rw [ej]
     rfl
    ·have h1:=ht1 top (par :: st2) rfl
     simp [sumP] at hs1 ⊢
     omega
    ·intro t r e
     cases e
     simp
    ·show (j - 1).toNat < j.toNat
     omega
  ·have c':¬ (0:Int) < j:=of_decide_eq_false (Bool.eq_false_iff.mpr c)
   have ej:j.toNat=0:=by omega
   rw [ej] at ec
   exact q k1 as1 H1 (by rw [← ec]; exact hp1) sm1
 ·rintro σ H1 Q1 Q2 hQ ⟨x,e,y,z,e1,e2,c,e3,h⟩
  exact ⟨x,e,y,z,e1,e2,c,e3,hQ _ _ h⟩
theorem shut41:S ")"=⟨#[41]⟩:=by decide +kernel
theorem open40:S "("=⟨#[40]⟩:=by decide +kernel
theorem ok_put_word (T:Tx K mg) (D_need:DefXs P w K mg base n "need" ["holds"] (spNeed K)) (D_close_brackets:DefXs P w K mg base n "close_brackets" ["pile","many"] (spClose K)):DefXs P w K mg base (n + 1) "put_word" ["pile","word"] (spPut K):=by
 refine DefXs.of T.d_put_word sc_put_word (fun vs H Q E h=>?_) (fun f cdv A outer s H vs Q E hr h=>?_)
 ·obtain ⟨_,_,_,_,rfl,_⟩:=h
  rfl
 obtain ⟨p,as,st,x,rfl,hp,l1,l21,hsum,hx,q,qe⟩:=h
 have nd:=sc_put_word.nd
 refine ⟨_,(pss_cons (psn 2 nd (pe_bm PySem.F.plainAttrs_str PySem.F.slot_str_rstrip PySem.F.type_str_rstrip mt_rstrip (pv 1) (pa_cons pe_str pa_nil star_const)))
   (pss_cons (psn 3 nd (pe_op op_sub (pe_callB call_len_str rfl T.z_len PySem.boot_len (v1 1)) (pe_callB call_len_str rfl T.z_len PySem.boot_len (v1 2))))
   (pss_cons (ps_if (pt_val (pe_bm PySem.F.plainAttrs_str PySem.F.slot_str_startswith PySem.F.type_str_startswith mt_startswith (pv 2) (pa_cons pe_str pa_nil star_const))) (pss_cons (ps_expr (pe_xcall D_need hr (pa_cons (pe_cmpR op_le (pe_callB (call_len_seqC (K:=K) rfl) rfl T.z_len PySem.boot_len (v1 0)) (pe_gint T.g_DEEPEST) (nomark _)) pa_nil star_cmp)))
   (pss_cons (ps_expr (pe_bm PySem.F.plainAttrs_list PySem.F.slot_list_append PySem.F.type_list_append mt_append (pv 0) (pa_cons (pe_lst pa_nil) pa_nil star_lst)))
   (pss_one (psn 2 nd (pe_slice sl_str (pv 2) (po_some pe_int) po_none))))) pss_nil)
   (pss_cons (ps_expr (pe_bm PySem.F.plainAttrs_list PySem.F.slot_list_append PySem.F.type_list_append mt_append (pxl K (pv 0) (pe_un un_neg pe_int)) (v1 2)))
   (pss_one (ps_expr (pe_xcall D_close_brackets hr (va 0 (v1 3))))))))),?_⟩
 have hcore:=rstrip_core x
 have hclen:=rstrip_len x
 rw [← shut41] at hcore hclen
 have hlc:(coreOf (L x)).length=(Txt.rstripChars x (S ")")).length:=by rw [← hcore,L_length]
 have hlx:=L_length x
 have hpl:((as.map V.ref).reverse).length=st.length:=by rw [List.length_reverse,List.length_map,hp.len]
 refine ⟨_,rfl,rfl,x,S ")",rfl,rfl,fits (by omega),?_⟩
 refine ⟨_,rfl,x,rfl,fits (by omega),_,rfl,_,rfl,fits (by show (Txt.rstripChars x (S ")")).length ≤ _; omega),_,_,rfl,rfl,?_⟩
 refine ⟨_,rfl,rfl,_,S "(",rfl,rfl,_,rfl,?_⟩
 have hst:=starts_open (Txt.rstripChars x (S ")"))
 rw [hcore,← open40] at hst
 have tail:∀ (core:Str) (as1:List Addr) (st1:Pile) (H1:Hp),PileAt H1 p as1 st1→1 ≤ st1.length→sumP st1 ≤ 3800000→Same (hide (p :: as) H) (hide (p :: as1) H1) →
   ∃ a as2,as1=a :: as2∧∃ vs,H1 a=some (.lst vs)∧vs.length < sizeLine∧PileAt (upd H1 a (.lst (vs++[.str core]))) p as1 (push (.w (L core)) st1)∧sumP (push (.w (L core)) st1) ≤ 3900000∧(∀ top r,push (.w (L core)) st1=top :: r→1 ≤ top.length) ∧
    Same (hide (p :: as) H) (hide (p :: as1) (upd H1 a (.lst (vs++[.str core])))):=by
  intro core as1 st1 H1 hp1 h1 hs1 sm
  match as1,st1,hp1,h1,hs1 with
  | [],st1,hp1,h1,_=>have:=hp1.len; simp at this; omega
  | a :: as2,[],hp1,h1,_=>simp at h1
  | a :: as2,top :: st2,hp1,h1,hs1=>
   obtain ⟨vs,ha,hr⟩:∃ vs,H1 a=some (.lst vs)∧vs.length=top.length:=by
    cases hp1.lists with
    | cons g1 _=>obtain ⟨vs,e,r⟩:=g1; exact ⟨vs,e,r.length⟩
   have hpu:=hp1.push (v:=.str core) (t:=.w (L core)) ha (by show V.str core=V.str (ofL (L core)); rw [ofL_L])
   have ht:=@top_le top st2
   refine ⟨a,as2,rfl,vs,ha,fitsLt (by omega),hpu,?_,?_,sm.trans PileAt.push_same⟩
   ·have:=sum_push (.w (L core)) (top :: st2)
    exact Nat.le_trans this (by omega)
   ·intro t r e; cases e; simp
 have hsub:∀ l (H0:Hp),Same (hide l H0) H0:=fun l H0 b o e=>(hide_get.mp e).2
 have he0:(x.length:Int) - ((Txt.rstripChars x (S ")")).length:Nat)=((x.length - (coreOf (L x)).length:Nat):Int):=by omega
 have fin:∀ (core:Str) (as1:List Addr) (st1:Pile) (H2:Hp),PileAt H2 p as1 (push (.w (L core)) st1)→sumP (push (.w (L core)) st1) ≤ 3900000→(∀ top r,push (.w (L core)) st1=top :: r→1 ≤ top.length)→Same (hide (p :: as) H) (hide (p :: as1) H2) →
   putW (L x) st=closeN (x.length - (coreOf (L x)).length) (push (.w (L core)) st1)→spClose K [.ref p,.int ((x.length:Int) - ((Txt.rstripChars x (S ")")).length:Nat))] H2 (fun _ H'=>Q .non H') E:=by
  intro core as1 st1 H2 hp2 hs2 ht2 sm2 hval
  refine ⟨p,as1,_,_,rfl,hp2,by rw [he0]; omega,hs2,ht2,fun hk as' H' hp' sm'=>?_,fun hk v d H' sm' bd=>?_⟩
  ·rw [he0,Int.toNat_natCast] at hk hp'
   exact q _ (by rw [hval]; unfold closeN; rw [if_pos hk]) as' H' hp' (sm2.trans sm')
  ·rw [he0,Int.toNat_natCast] at hk
   exact qe (by rw [hval]; unfold closeN; rw [if_neg hk]) v d H' ((sm2.trans (hsub _ _)).trans sm') bd
 have hval:putW (L x) st=putC (coreOf (L x)) (x.length - (coreOf (L x)).length) st:=by unfold putW; rw [hlx]
 unfold putC at hval
 by_cases ho:(coreOf (L x)).head?=some 40
 ·rw [if_pos ho] at hval
  rw [decide_eq_true ho] at hst
  refine iteBT hst ?_
  refine ⟨_,rfl,p,_,rfl,.inl (SqL.of hp.pile),_,_,rfl,rfl,_,rfl,fun hb=>?_,fun hb v d H' sm bd=>?_⟩
  ·have h20:st.length ≤ 20:=by have:=of_decide_eq_true hb; rw [hpl] at this; omega
   rw [if_pos h20] at hval
   refine ⟨_,rfl,.inl ⟨rfl,_,SqL.of hp.pile⟩,Nat.zero_le _,fun nn hn=>⟨p,_,.ref nn,rfl,rfl,Same.new hn _ _ _ hp.pile,?_,?_⟩⟩
   ·rw [hpl]; exact fitsLt (by omega)
   obtain ⟨hp1,sm1⟩:=hp.opens hn
   have h1c:1 ≤ (Txt.rstripChars x (S ")")).length:=by
    rw [← hlc]
    cases hh:coreOf (L x) with
    | nil=>rw [hh] at ho; cases ho
    | cons c r=>simp
   have esl:L (Txt.slice (Txt.rstripChars x (S ")")) (some 1) none)=(coreOf (L x)).tail:=by rw [slice_tail _ h1c,hcore]
   obtain ⟨a,as2,e1,vs,ha,hvl,hp2,hs2,ht2,sm2⟩:=tail (Txt.slice (Txt.rstripChars x (S ")")) (some 1) none) _ _ _ hp1 (by simp) (by simp [sumP] at hsum ⊢; omega) sm1
   refine ⟨_,rfl,_,rfl,_,rfl,fits (by omega),?_⟩
   have hpile:=hp1.pile
   rw [e1] at hpile
   refine ⟨_,rfl,_,rfl,p,_,-1,.ref a,rfl,rfl,SqL.of hpile,pile_last,.inl ⟨rfl,_,SqL.of ha⟩,_,rfl,a,vs,_,rfl,rfl,ha,hvl,?_⟩
   exact ⟨_,rfl,_,rfl,fin _ _ _ _ hp2 hs2 ht2 sm2 (by rw [hval,esl])⟩
  ·have h20:¬ st.length ≤ 20:=by have:=of_decide_eq_false hb; rw [hpl] at this; omega
   rw [if_neg h20] at hval
   exact qe hval v d H' ((hsub _ _).trans sm) bd
 ·rw [if_neg ho] at hval
  rw [decide_eq_false ho] at hst
  refine iteBF hst ?_
  obtain ⟨a,as2,e1,vs,ha,hvl,hp2,hs2,ht2,sm2⟩:=tail (Txt.rstripChars x (S ")")) _ _ _ hp l1 hsum (Same.refl _)
  have hpile:=hp.pile
  rw [e1] at hpile
  refine ⟨_,rfl,_,rfl,p,_,-1,.ref a,rfl,rfl,SqL.of hpile,pile_last,.inl ⟨rfl,_,SqL.of ha⟩,_,rfl,a,vs,_,rfl,rfl,ha,hvl,?_⟩
  exact ⟨_,rfl,_,rfl,fin _ _ _ _ hp2 hs2 ht2 sm2 (by rw [hval,hcore])⟩
end
end K3
end
section
local macro_rules | `(tactic| walk_at "rd1")=>`(tactic| first
 | refine ⟨_,rfl,?_⟩
 | refine ⟨_,_,rfl,rfl,?_⟩
 | refine ⟨_,_,_,_,rfl,rfl,(by assumption),(by first | rfl | assumption),?_⟩
 | refine ⟨_,_,rfl,.inl (by assumption),?_⟩
 | refine ⟨_,_,rfl,.inr (by assumption),?_⟩
 | refine ⟨rfl,?_⟩
 | refine M.iteKF (by decide +kernel) ?_
 | refine M.iteKT (by decide +kernel) ?_)
local macro_rules | `(tactic| walk_at "rd")=>`(tactic| repeat walk_at "rd1")
namespace K3
open PySem L2 M
seal L2.PE L2.PA L2.PS L2.PSs L2.PT L2.PW L2.PI L2.PG L2.PJ L2.PTs
def topOf:Option Pile→Option (List Tr)
 | some [top]=>some top
 | _=>none
theorem topOf_no {st:Pile} (h:¬ st.length=1):topOf (some st)=none:=by
 unfold topOf
 split
 ·rename_i top e
  cases e
  exact absurd rfl h
 ·rfl
def runsP (x:Str):Option (List Tr):=topOf (runW ((Txt.split x (S " ")).map L) [[]])
def spTreesOf (K:PySem.W.Frag):Sp:=fun vs H Q E=>∃ x,vs=[.str x]∧x.length ≤ 3000000∧(∀ top a us H',runsP x=some top→Same H H'→H' a=some (.lst us)→RelTs H' us top→Q (.ref a) H')∧(runsP x=none→∀ v d H',Same H H'→Bad K H' v d 0→E v d H')
section
variable {P:Program} {w:World} {K:PySem.W.Frag} {mg:Str→Option Value} {base:Heap} {n m:Nat}
theorem ok_trees_of (T:Tx K mg) (D_need:DefXs P w K mg base n "need" ["holds"] (spNeed K)) (D_put_word:DefXs P w K mg base n "put_word" ["pile","word"] (spPut K)):DefXs P w K mg base (n + 1) "trees_of" ["text"] (spTreesOf K):=by
 refine DefXs.of T.d_trees_of sc_trees_of (fun vs H Q E h=>?_) (fun f cdv A outer s H vs Q E hr h=>?_)
 ·obtain ⟨_,rfl,_⟩:=h
  rfl
 obtain ⟨x,rfl,hlen,q,qe⟩:=h
 have nd:=sc_trees_of.nd
 obtain ⟨ws,hws⟩:∃ ws,(Txt.split x (S " ")).map L=ws:=⟨_,rfl⟩
 have hrn:runsP x=topOf (runW ws [[]]):=by unfold runsP; rw [hws]
 refine ⟨_,(pss_cons (psn 1 nd (pe_lst (pa_cons (pe_lst pa_nil) pa_nil star_lst)))
   (pss_cons (ps_for (thr_ownT rfl rfl) rfl (gk_pi_list (K:=K) rfl (pe_bm PySem.F.plainAttrs_str PySem.F.slot_str_split PySem.F.type_str_split mt_split (pv 0) (pa_cons pe_str pa_nil star_const))) (pgn 2 nd)
   (pss_one (ps_expr (pe_xcall D_put_word hr (va 1 (v1 2))))))
   (pss_cons (ps_expr (pe_xcall D_need hr (pa_cons (pe_cmpR op_eq (pe_callB (call_len_seqC (K:=K) rfl) rfl T.z_len PySem.boot_len (v1 1)) pe_int (nomark _)) pa_nil star_cmp)))
   (pss_one (ps_ret (pxl K (pv 1) pe_int)))))),?_⟩
 refine ⟨Nat.zero_le _,fun a0 h0=>⟨(by show 1 ≤ sizeLine; decide),fun p hp0=>?_⟩⟩
 have ap:a0≠p:=fun e=>by rw [← e,upd_same] at hp0; cases hp0
 have hp1:PileAt (upd (upd H a0 (.lst [])) p (.lst [.ref a0])) p [a0] [[]]:=
  ⟨by rw [upd_same]; rfl,by simp,by simp [ap.symm],.cons ⟨[],by rw [upd_ne ap,upd_same],rfl⟩ .nil⟩
 have sm0:Same H (hide [p,a0] (upd (upd H a0 (.lst [])) p (.lst [.ref a0]))):=fun b o e=>by
  have b1:b≠a0:=fun z=>by rw [z,h0] at e; cases e
  have b2:b≠p:=fun z=>by rw [upd_ne ap.symm] at hp0; rw [z,hp0] at e; cases e
  exact hide_get.mpr ⟨by simp [b1,b2],by rw [upd_ne b2,upd_ne b1]; exact e⟩
 have hsl:(Txt.split x (S " ")).length=ws.length:=by rw [← hws,List.length_map]
 have hwl:ws.length ≤ 3000002:=by
  have:=Txt_split_len x
  omega
 refine ⟨_,rfl,rfl,x,S " ",rfl,rfl,(by decide +kernel),fits (by omega),fun wl hwl0=>⟨wl,rfl,⟨_,SqL.of upd_same⟩,?_⟩⟩
 have hww:∀ (i:Nat) z,((Txt.split x (S " ")).map V.str)[i]?=some z→∃ y,z=.str y∧ws[i]?=some (L y)∧y.length ≤ 3000000:=fun i z e=>by
  rw [List.getElem?_map] at e
  cases e1:(Txt.split x (S " "))[i]? with
  | none=>rw [e1] at e; cases e
  | some y=>
   rw [e1] at e
   cases e
   refine ⟨y,rfl,?_,?_⟩
   ·rw [← hws,List.getElem?_map,e1]; rfl
   ·have:=Txt_split_part x y (List.mem_of_getElem? e1)
    omega
 have wlp:wl≠p:=fun e=>by rw [e,upd_same] at hwl0; cases hwl0
 have wla:wl≠a0:=fun e=>by rw [e,upd_ne ap,upd_same] at hwl0; cases hwl0
 refine for_list (xs:=(Txt.split x (S " ")).map V.str) (fun i σ H'=>∃ as st v,σ=[some (.str x),some (.ref p),v]∧PileAt H' p as st∧runW (ws.take i) [[]]=some st∧1 ≤ st.length∧st.length ≤ 21∧sumP st ≤ i∧hide (p :: as) H' wl=some (.lst ((Txt.split x (S " ")).map V.str))∧Same H (hide (p :: as) H')) ?_ ?_ ?_ ?_
 ·have sm1:Same (hide [p,a0] (upd (upd H a0 (.lst [])) p (.lst [.ref a0]))) (hide [p,a0] (upd (upd (upd H a0 (.lst [])) p (.lst [.ref a0])) wl (.lst ((Txt.split x (S " ")).map V.str)))):=fun b o e=>by
   obtain ⟨e1,e2⟩:=hide_get.mp e
   exact hide_get.mpr ⟨e1,Same.new hwl0 _ _ _ e2⟩
  refine ⟨[a0],[[]],none,rfl,⟨Same.new hwl0 _ _ _ hp1.pile,hp1.nd,hp1.np,.cons ⟨[],Same.new hwl0 _ _ _ (by rw [upd_ne ap,upd_same]),rfl⟩ .nil⟩,rfl,by simp,by simp,by simp [sumP],hide_get.mpr ⟨by simp [wlp,wla],upd_same⟩,sm0.trans sm1⟩
 ·rintro i σ H' _ ⟨as,st,v,_,_,_,_,_,_,hw,_⟩
  exact SqL.of (hide_get.mp hw).2
 ·rintro i z σ H' hz ⟨as,st,v,rfl,hp',hr',l1,l21,hs',hw,sm⟩
  obtain ⟨y,rfl,hy,hyl⟩:=hww i z hz
  have hi:i < ws.length:=(List.getElem?_eq_some_iff.mp hy).1
  have hstep:runW (ws.take (i + 1)) [[]]=putW (L y) st:=by
   rw [List.take_add_one,hy]
   simp only [Option.toList_some]
   rw [runW_snoc,hr']
   rfl
  refine ⟨_,rfl,_,rfl,p,as,st,y,rfl,hp',l1,l21,by omega,hyl,fun st' hput as' H2 hp2 sm2=>?_,fun hno v d H2 sm2 bd=>?_⟩
  ·have hl2:=len_put hput l1 l21
   have hs2:=sum_put hput
   exact ⟨as',st',_,rfl,hp2,hstep.trans hput,hl2.1,hl2.2,by omega,sm2 _ _ hw,sm.trans sm2⟩
  ·refine qe ?_ v d H2 (sm.trans sm2) bd
   rw [hrn,← List.take_append_drop (i + 1) ws,runW_append,hstep,hno]
   rfl
 ·rintro σ H' ⟨as,st,v,rfl,hp',hr',l1,l21,hs',hw,sm⟩
  rw [List.length_map,hsl,List.take_length] at hr'
  rw [hr'] at hrn
  have hl:=hp'.len
  have hpl:((as.map V.ref).reverse).length=st.length:=by rw [List.length_reverse,List.length_map,hl]
  have smH:∀ l,Same (hide l H') H':=fun l b o e=>(hide_get.mp e).2
  refine ⟨_,rfl,p,_,rfl,.inl (SqL.of hp'.pile),rfl,?_⟩
  refine ⟨_,rfl,fun hb=>?_,fun hb v d H2 sm2 bd=>?_⟩
  ·have c1:st.length=1:=by have:=of_decide_eq_true hb; rw [hpl] at this; have:=V.int.inj this; omega
   obtain ⟨top,rfl⟩:∃ top,st=[top]:=by
    match st,c1 with
    | [t],_=>exact ⟨t,rfl⟩
   obtain ⟨a,rfl⟩:∃ a,as=[a]:=by
    match as,hl with
    | [a],_=>exact ⟨a,rfl⟩
   cases hp'.lists with
   | cons g1 _=>
    obtain ⟨vs,ha,rv⟩:=g1
    have hpile:H' p=some (.lst [.ref a]):=hp'.pile
    refine ⟨_,rfl,p,_,0,.ref a,rfl,rfl,SqL.of hpile,rfl,?_⟩
    exact q top a vs H' hrn (sm.trans (smH _)) ha (rv.same (smH _) _)
  ·have c1:¬ st.length=1:=fun z=>of_decide_eq_false hb (by rw [hpl,z]; rfl)
   refine qe ?_ v d H2 (sm.trans ((smH _).trans sm2)) bd
   rw [hrn]
   exact topOf_no c1
end
end K3
end
section
namespace K3.R
open PySem L2 M K3
seal L2.PE L2.PA L2.PS L2.PSs L2.PT L2.PW L2.PI L2.PG L2.PJ L2.PTs
def spMade:Sp:=fun vs H Q _=>∃ (x y:Str) (m:Int),vs=[.str x,.str y,.int m]∧x.length ≤ 3000000∧∀ H',Same H H'→Q (.bl (madeOf x y m)) H'
def spName:Sp:=fun vs H Q _=>∃ x:Str,vs=[.str x]∧x.length ≤ 3000000∧∀ H',Same H H'→Q (.bl (nameL (L x))) H'
def spNumber:Sp:=fun vs H Q _=>∃ x:Str,vs=[.str x]∧x.length ≤ 3000000∧∀ H',Same H H'→Q (.bl (numL (L x))) H'
section
variable {P:Program} {w:World} {K:PySem.W.Frag} {mg:Str→Option Value} {base:Heap} {n:Nat}
theorem ok_is_made_of (T:Tx K mg):DefIs P w K mg base (n + 1) "is_made_of" ["text","signs","most"] spMade:=by
 refine DefIs.of T.d_is_made_of sc_is_made_of (fun vs H Q E h=>?_) (fun f cdv A outer s H vs Q E hr h=>?_)
 ·obtain ⟨x,y,m,rfl,_⟩:=h
  rfl
 obtain ⟨x,y,m,rfl,hx,k⟩:=h
 have nd:=sc_is_made_of.nd
 have hu:=hu_of hr
 refine ⟨_,(pss_one (ps_ret (pe_and (pe_chain op_le op_le pe_int (pe_callB call_len_str rfl T.z_len PySem.boot_len (v1 0)) (pv 2)) (pe_one (pe_callB (call_all rfl) rfl T.z_all PyProof.Rows.boot_all (pa_cons (pe_comp ["sign","signs"] [none,some 1] rfl (by kernel_rfl) (pi_str (pv 0)) (fun _ _ _ _=>(pgc 0)) (fun _ _ _ _=>pts_nil) (fun _ _ _ _=>(pe_cmpR op_in_str (pv 0) (pv 1) (by with_unfolding_all rfl)))) pa_nil star_comp)))))),?_⟩
 refine ⟨_,rfl,x,rfl,fits (by omega),_,_,rfl,rfl,_,rfl,?_⟩
 refine ite2 (fun c1=>?_) (fun c1=>?_)
 ·have d1:(1:Int) ≤ x.length:=of_decide_eq_true c1
  refine ⟨_,rfl,_,_,rfl,rfl,_,rfl,?_⟩
  refine ite2 (fun c2=>?_) (fun c2=>?_)
  ·have d2:=of_decide_eq_true c2
   refine ⟨_,rfl,x,rfl,?_⟩
   refine comp_str (j:=0) (fun i ys H'=>Same H H'∧ys=((L x).take i).map fun c=>V.bl (inS y c)) (by rfl) ⟨Same.refl _,rfl⟩ ?_ ?_ ?_
   ·have:x.cps.size=x.length:=rfl
    exact fitsLt (by omega)
   ·rintro i c ys H' hc hl ⟨sm,rfl⟩
    have hi:i < x.cps.size:=(Array.getElem?_eq_some_iff.mp hc).1
    refine ⟨_,rfl,_,rfl,_,_,rfl,rfl,?_⟩
    refine nxt hi hl ⟨sm,?_⟩
    rw [List.take_add_one,show (L x)[i]?=some c by rw [L,Array.getElem?_toList]; exact hc]
    simp [inS]
   ·rintro ys H' hl ⟨sm,rfl⟩ D hD
    refine ⟨D,(L x).map (inS y),rfl,SqL.of ?_,?_⟩
    ·rw [upd_same,List.map_map]
     congr 2
     rw [List.take_of_length_le (by simp [L])]
     rfl
    ·have e:madeOf x y m=((L x).map (inS y)).all id:=by
      unfold madeOf
      rw [decide_eq_true (show 1 ≤ x.length by omega),decide_eq_true d2,List.all_map]
      rfl
     rw [← e]
     exact k _ (sm.trans (Same.new hD _))
  ·have d2:=of_decide_eq_false (Bool.eq_false_iff.mpr c2)
   have e:madeOf x y m=false:=by
    unfold madeOf
    rw [decide_eq_false d2,Bool.and_false,Bool.false_and]
   rw [← e]
   exact k _ (Same.refl _)
 ·have d1:¬ (1:Int) ≤ x.length:=of_decide_eq_false (Bool.eq_false_iff.mpr c1)
  refine ⟨_,rfl,?_⟩
  have e:madeOf x y m=false:=by
   unfold madeOf
   rw [decide_eq_false (show ¬ 1 ≤ x.length by omega),Bool.false_and,Bool.false_and]
  refine iteF ?_
  rw [← e]
  exact k _ (Same.refl _)
theorem inNames (x:Str):inV (.str x) [.str (S "num"),.str (S "it")]=(decide (x=S "num") || decide (x=S "it")):=by
 unfold inV
 show ((S "num" == x) || ((S "it" == x) || false))=_
 rw [Bool.or_false]
 have h:∀ y:Str,(y == x)=decide (x=y):=fun y=>by
  rw [Bool.eq_iff_iff]
  simp
  exact eq_comm
 rw [h,h]
theorem ok_is_name (T:Tx K mg) (D_is_made_of:DefIs P w K mg base n "is_made_of" ["text","signs","most"] spMade):DefIs P w K mg base (n + 1) "is_name" ["text"] spName:=by
 obtain ⟨o,g_NO_NAMES,hO⟩:=T.g_NO_NAMES
 refine DefIs.of T.d_is_name sc_is_name (fun vs H Q E h=>?_) (fun f cdv A outer s H vs Q E hr h=>?_)
 ·obtain ⟨x,rfl,_⟩:=h
  rfl
 obtain ⟨x,rfl,hx,k⟩:=h
 refine ⟨_,(pss_one (ps_ret (pe_and (pe_dcall D_is_made_of hr (va 0 (pa_cons (pe_gstr T.g_LETTERS) (pa_cons (pe_gint T.g_LONGEST_NAME) pa_nil star_name) star_name))) (pe_one (pe_cmpR op_notIn_seq (pv 0) (pe_gref g_NO_NAMES) (by with_unfolding_all rfl)))))),?_⟩
 refine ⟨_,rfl,x,_,_,rfl,hx,fun H1 s1=>⟨_,rfl,?_⟩⟩
 have k1:=k H1 s1
 rw [name_is] at k1
 refine ite2 (fun c=>?_) (fun c=>?_)
 ·refine ⟨_,rfl,o,_,rfl,.inr (hO _),rfl,by decide +kernel,?_⟩
  rw [show madeOf x letters 6=true from c,Bool.true_and,← inNames] at k1
  exact k1
 ·rw [show madeOf x letters 6=false from Bool.eq_false_iff.mpr c,Bool.false_and] at k1
  exact k1
theorem first_at {x:Str} (h:1 ≤ x.length):atI x.cps.toList 0=some ((L x).getD 0 0):=by
 have:0 < x.cps.toList.length:=by rw [Array.length_toList]; exact h
 refine atI_nat (j:=0) ?_
 rw [List.getElem?_eq_getElem this]
 show _=some ((L x).getD 0 0)
 rw [List.getD_eq_getElem?_getD,show (L x)[0]?=some x.cps.toList[0] from List.getElem?_eq_getElem this]
 rfl
theorem ok_is_number (T:Tx K mg) (D_is_made_of:DefIs P w K mg base n "is_made_of" ["text","signs","most"] spMade):DefIs P w K mg base (n + 1) "is_number" ["text"] spNumber:=by
 refine DefIs.of T.d_is_number sc_is_number (fun vs H Q E h=>?_) (fun f cdv A outer s H vs Q E hr h=>?_)
 ·obtain ⟨x,rfl,_⟩:=h
  rfl
 obtain ⟨x,rfl,hx,k⟩:=h
 refine ⟨_,(pss_one (ps_ret (pe_and (pe_dcall D_is_made_of hr (va 0 (pa_cons (pe_gstr T.g_FIGURES) (pa_cons (pe_gint T.g_LONGEST_NUMBER) pa_nil star_name) star_name))) (pe_one (pe_or (pe_cmpR op_eq (pv 0) pe_str (nomark _)) (pe_one (pe_cmpR op_ne (pe_ix ix_str (pv 0) pe_int (fun _ _=>rfl)) pe_str (nomark _)))))))),?_⟩
 refine ⟨_,rfl,x,_,_,rfl,hx,fun H1 s1=>⟨_,rfl,?_⟩⟩
 have K1:=k H1 s1
 rw [number_is] at K1
 refine ite2 (fun c=>?_) (fun c=>?_)
 ·have c':madeOf x figures 10=true:=c
  rw [c',Bool.true_and] at K1
  have hp:1 ≤ x.length:=by
   unfold madeOf at c'
   simp only [Bool.and_eq_true,decide_eq_true_eq] at c'
   exact c'.1.1
  refine ⟨_,rfl,rfl,_,rfl,?_⟩
  refine ite2 (fun c2=>?_) (fun c2=>?_)
  ·have d2:V.str x=V.str (S "0"):=of_decide_eq_true c2
   rw [decide_eq_true (V.str.inj d2),Bool.true_or] at K1
   exact K1
  ·have d2:¬ V.str x=V.str (S "0"):=of_decide_eq_false (Bool.eq_false_iff.mpr c2)
   rw [decide_eq_false (fun e=>d2 (congrArg V.str e)),Bool.false_or] at K1
   refine ⟨_,rfl,x,0,_,rfl,rfl,fits (by omega),first_at hp,rfl,?_⟩
   have e:decide (V.str (⟨#[(L x).getD 0 0]⟩:Str)=V.str (S "0"))=decide ((⟨#[(L x).getD 0 0]⟩:Str)=S "0"):=by
    rw [Bool.eq_iff_iff]
    simp
   rw [← e] at K1
   exact K1
 ·rw [show madeOf x figures 10=false from Bool.eq_false_iff.mpr c,Bool.false_and] at K1
  exact K1
end
end K3.R
end
section
namespace K3
open PySem L2 M
seal L2.PE L2.PA L2.PS L2.PSs L2.PT L2.PW L2.PI L2.PG L2.PJ L2.PTs
def Flx (K:PySem.W.Frag) (H:Hp) (E:XK):Prop:=∀ v d H',Same H H'→Bad K H' v d 0→E v d H'
theorem Flx.same {K:PySem.W.Frag} {H H':Hp} {E:XK} (h:Flx K H E) (s:Same H H'):Flx K H' E:=fun v d H2 s2 b=>h v d H2 (s.trans s2) b
def spNameX (K:PySem.W.Frag):Sp:=fun vs H Q E=>∃ v t,vs=[v]∧RelT H v t∧t.cs.length ≤ 3000000∧(∀ x:Str,IsNm t x→∀ H',Same H H'→Q (.str x) H')∧((¬ ∃ x,IsNm t x)→Flx K H E)
def spLeafX (K:PySem.W.Frag):Sp:=fun vs H Q E=>∃ (x:Str) (mr:Addr),vs=[.str x,.ref mr]∧H mr=some (.tup [])∧x.length ≤ 3000000∧(∀ d,Leaf d (tx x)→∀ v H',Same H H'→RelD H' v d→Q v H')∧((¬ ∃ d,Leaf d (tx x))→Flx K H E)
section
variable {P:Program} {w:World} {K:PySem.W.Frag} {mg:Str→Option Value} {base:Heap} {n m:Nat}
theorem ok_name_from (T:Tx K mg) (D_need:DefXs P w K mg base n "need" ["holds"] (spNeed K)) (D_is_name:DefIs P w K mg base n "is_name" ["text"] R.spName):DefXs P w K mg base (n + 1) "name_from" ["tree"] (spNameX K):=by
 refine DefXs.of T.d_name_from sc_name_from (fun vs H Q E h=>?_) (fun f cdv A outer s H vs Q E hr h=>?_)
 ·obtain ⟨_,_,rfl,_⟩:=h
  rfl
 obtain ⟨v,t,rfl,ht,hl,q,qe⟩:=h
 refine ⟨_,(pss_cons (ps_expr (pe_xcall D_need hr (pa_cons (pe_and (pe_callB call_isinst rfl T.z_isinstance PyProof.Rows.boot_isinstance (va 0 (pa_cons (pe_gty T.z_str PyProof.Rows.boot_str) pa_nil star_name))) (pe_one (pe_dcall D_is_name hr (v1 0)))) pa_nil star_bool)))
   (pss_one (ps_ret (pv 0)))),?_⟩
 cases t with
 | l ts=>
  obtain ⟨a,us,rfl,ha,hts⟩:=ht
  refine ⟨_,rfl,_,_,_,_,_,rfl,fun u hu'=>hu',TyOf.lst ha,rfl,_,rfl,iteF ?_⟩
  refine ⟨_,rfl,fun z=>(by cases z),fun _ v d H' s' b=>?_⟩
  exact qe (fun ⟨x,e,_⟩=>by cases e) v d H' s' b
 | w x=>
  obtain rfl:v=.str (ofL x):=ht
  have hx:(ofL x).length ≤ 3000000:=by
   show x.toArray.size ≤ _
   rw [List.size_toArray]; exact hl
  refine ⟨_,rfl,_,_,_,_,_,rfl,fun u hu'=>hu',TyOf.str _,rfl,_,rfl,iteT ?_⟩
  refine ⟨_,rfl,ofL x,rfl,hx,fun H1 s1=>?_⟩
  refine ⟨_,rfl,fun z=>⟨_,rfl,q (ofL x) ⟨rfl,z⟩ H1 s1⟩,fun z v d H' s' b=>?_⟩
  refine qe (fun ⟨y,e,hy⟩=>?_) v d H' (s1.trans s') b
  have:ofL x=y:=by rw [← ofL_L y]; exact congrArg ofL (Tr.w.inj e)
  subst this
  have hy:nameL (L (ofL x))=true:=hy
  rw [hy] at z; cases z
theorem ok_leaf_from (T:Tx K mg) (D_name_from:DefXs P w K mg base n "name_from" ["tree"] (spNameX K)) (D_is_number:DefIs P w K mg base n "is_number" ["text"] R.spNumber):DefXs P w K mg base (n + 1) "leaf_from" ["word","more"] (spLeafX K):=by
 refine DefXs.of T.d_leaf_from sc_leaf_from (fun vs H Q E h=>?_) (fun f cdv A outer s H vs Q E hr h=>?_)
 ·obtain ⟨_,_,rfl,_⟩:=h
  rfl
 obtain ⟨x,mr,rfl,hm,hl,q,qe⟩:=h
 refine ⟨_,(pss_cons (ps_if (pt_val (pe_dcall D_is_number hr (v1 0))) (pss_one (ps_ret (pe_tup (pa_cons pe_str (pa_cons (pe_callTy call_int_str rfl T.z_int PyProof.Rows.boot_int (v1 0)) pa_nil star_call) star_const)))) pss_nil)
   (pss_cons (ps_if (pt_cmpR (gk_in (K:=K) rfl) (pv 0) (pv 1) (by with_unfolding_all rfl)) (pss_one (ps_ret (pe_tup (pa_cons pe_str (v1 0) star_const)))) pss_nil)
   (pss_one (ps_ret (pe_tup (pa_cons pe_str (pa_cons (pe_xcall D_name_from hr (v1 0)) pa_nil star_call) star_const)))))),?_⟩
 refine ⟨_,rfl,x,rfl,hl,fun H1 s1=>⟨_,rfl,ite2 (fun c=>?_) (fun c=>?_)⟩⟩
 ·obtain ⟨i,i0,i1,hi,he⟩:=num_told c
  rw [ofL_L] at hi
  obtain rfl:numS i=x:=L_inj he
  have hn:=num_len i0 i1
  have hl:(numS i).length ≤ 10:=by rw [← L_length]; exact hn
  refine ⟨_,rfl,_,i,rfl,hi,by omega,(by show 2 ≤ sizeLine; decide),fun l hl'=>?_⟩
  exact q _ (.inl ⟨i,i0,i1,rfl,rfl⟩) _ _ (s1.trans (Same.new hl' _)) ⟨l,_,rfl,upd_same,_,_,rfl,rfl,_,_,rfl,rfl,rfl⟩
 ·refine ⟨_,rfl,_,rfl,mr,_,rfl,.inr (SqT.of (s1 _ _ hm)),rfl,(by decide +kernel),_,rfl,iteBF rfl ?_⟩
  refine ⟨_,rfl,_,tx x,rfl,(by show V.str x=V.str (ofL (L x)); rw [ofL_L]),(by show (L x).length ≤ _; rw [L_length]; exact hl),fun y ⟨e,hy⟩ H2 s2=>⟨(by show 2 ≤ sizeLine; decide),fun l hl'=>?_⟩,fun no=>?_⟩
  ·obtain rfl:=tx_inj e
   exact q _ (.inr ⟨x,hy,rfl,rfl⟩) _ _ (s1.trans (s2.trans (Same.new hl' _))) ⟨l,_,rfl,upd_same,_,_,rfl,rfl,_,_,rfl,rfl,rfl⟩
  ·refine (Flx.same (qe fun ⟨d,h⟩=>?_) s1)
   rcases h with ⟨i,i0,i1,_,e⟩ | ⟨y,hy,_,e⟩
   ·have:=num_number i0 i1
    rw [← tx_inj e] at this
    exact c this
   ·exact no ⟨y,e,hy⟩
end
end K3
end
section
set_option maxHeartbeats 400000
namespace K3
open PySem L2 M
seal L2.PE L2.PA L2.PS L2.PSs L2.PT L2.PW L2.PI L2.PG L2.PJ L2.PTs
theorem bs_mem:∀ {ts:List Tr} {t:Tr},t∈ts→t.cs.length + 1 ≤ (bs ts).length
 | [],_,h=>by simp at h
 | u :: ts,t,h=>by
  have e1:bs (u :: ts)=32 :: (u.cs++bs ts):=by simp [bs]
  rw [e1,List.length_cons,List.length_append]
  rcases List.mem_cons.mp h with rfl | h
  ·omega
  ·have:=bs_mem h
   omega
theorem bs_len:∀ (ts:List Tr),ts.length ≤ (bs ts).length
 | []=>Nat.zero_le _
 | u :: ts=>by
  have e1:bs (u :: ts)=32 :: (u.cs++bs ts):=by simp [bs]
  have:=bs_len ts
  rw [e1,List.length_cons,List.length_cons,List.length_append]
  omega
theorem cs_bs (ts:List Tr):(bs ts).length ≤ (Tr.l ts).cs.length:=by
 show _ ≤ (40 :: (bs ts).tail++[41]).length
 simp
 omega
theorem nest_mem:∀ {ts:List Tr} {t:Tr},t∈ts→t.nest ≤ nests ts
 | [],_,h=>by simp at h
 | u :: ts,t,h=>by
  have e1:nests (u :: ts)=max u.nest (nests ts):=rfl
  rcases List.mem_cons.mp h with rfl | h
  ·omega
  ·have:=nest_mem h
   omega
theorem All2.getR {α β:Type} {R:α→β→Prop} {as:List α} {bs:List β} (h:All2 R as bs):∀ {i:Nat} {b:β},bs[i]?=some b→∃ a,as[i]?=some a∧R a b:=by
 induction h with
 | nil=>intro i b e; simp at e
 | cons h _ ih=>
  intro i b e
  cases i with
  | zero=>cases e; exact ⟨_,rfl,h⟩
  | succ i=>exact ih e
def spTermX (m:Nat) (K:PySem.W.Frag):Sp:=fun vs H Q E=>∃ v mr t,vs=[v,.ref mr]∧H mr=some (.tup [])∧RelT H v t∧t.Hd∧t.cs.length ≤ 3000000∧t.nest < m∧(∀ d,TD t d→∀ v' H',Same H H'→RelD H' v' d→Q v' H')∧((¬ ∃ d,TD t d)→Flx K H E)
def spArmX (m:Nat) (K:PySem.W.Frag):Sp:=fun vs H Q E=>∃ v mr t,vs=[v,.ref mr]∧H mr=some (.tup [])∧RelT H v t∧t.Hd∧t.cs.length ≤ 3000000∧t.nest < m∧(∀ d,AD t d→∀ v' H',Same H H'→RelD H' v' d→Q v' H')∧((¬ ∃ d,AD t d)→Flx K H E)
def spTermsX (m:Nat) (K:PySem.W.Frag):Sp:=fun vs H Q E=>∃ a mr us ts,vs=[.ref a,.ref mr]∧H mr=some (.tup [])∧H a=some (.lst us)∧RelTs H us ts∧Hds ts∧(bs ts).length ≤ 3000000∧nests ts < m ∧
 (∀ ds p ys H',All2 (fun e t=>TD t e) ds ts→Same H H'→H' p=some (.tup ys)→RelDs H' ys ds→Q (.ref p) H')∧((¬ ∃ ds,All2 (fun e t=>TD t e) ds ts)→Flx K H E)
section
variable {P:Program} {w:World} {K:PySem.W.Frag} {mg:Str→Option Value} {base:Heap} {n m:Nat}
theorem comp_readX {R:Tr→D→Prop} {sp:Sp} {a mr:Addr} {us:List V} {ts:List Tr} {H:Hp} {s0:Option V} {σ:St} {Q:VK} {E:XK}
  (hsp:∀ v t H Q E,H mr=some (.tup [])→RelT H v t→t∈ts→(∀ d,R t d→∀ v' H',Same H H'→RelD H' v' d→Q v' H')→((¬ ∃ d,R t d)→Flx K H E)→sp [v,.ref mr] H Q E)
  (ha:H a=some (.lst us)) (hm:H mr=some (.tup [])) (ht:RelTs H us ts) (hl:ts.length ≤ 3000000)
  (q:∀ ds D vs H',All2 (fun e t=>R t e) ds ts→Same H H'→H' D=some (.lst vs)→RelDs H' vs ds→Q (.ref D) H') (qe:(¬ ∃ ds,All2 (fun e t=>R t e) ds ts)→Flx K H E) :
  CompGo (Itl K a) [none,some 1] (gName 0) tYes (tCallX sp (fun v d _ H'=>E v d H') (tCons (tVar 0) (tCons (tVar 1) tNil))) (s0 :: some (.ref mr) :: σ) H Q:=by
 have e1:=ht.length
 refine comp_list (j:=0) (xs:=us) (fun i ys H'=>Same H H'∧∃ ds,All2 (fun e t=>R t e) ds (ts.take i)∧RelDs H' ys ds) (by rfl) ⟨Same.refl _,[],by rw [List.take_zero]; exact .nil,by simp [RelDs]⟩ (fitsLt (by omega)) (fun i ys H' _ p=>SqL.of (p.1 _ _ ha)) ?_ ?_
 ·rintro i x ys H' hx hly ⟨sm,ds,hds,rd⟩
  obtain ⟨t,hti,rt⟩:=ht.get hx
  have hi:i < us.length:=(List.getElem?_eq_some_iff.mp hx).1
  refine ⟨_,rfl,_,rfl,hsp x t H' _ _ (sm _ _ hm) (rt.same sm _) (List.mem_of_getElem? hti) (fun d hd v2 H2 s2 r2=>nxt hi hly ⟨sm.trans s2,ds++[d],?_,?_⟩) fun no=>?_⟩
  ·rw [List.take_add_one,hti]
   exact hds.append (.cons hd .nil)
  ·exact (rd.same s2 _).append ⟨v2,[],rfl,r2,rfl⟩
  ·refine Flx.same (qe fun ⟨es,h⟩=>?_) sm
   obtain ⟨d,_,hd⟩:=All2.getR h hti
   exact no ⟨d,hd⟩
 ·rintro ys H' hly ⟨sm,ds,hds,rd⟩ D hD
  rw [List.take_of_length_le (by omega)] at hds
  exact q ds D ys _ hds (sm.trans (Same.new hD _)) upd_same (rd.same (Same.new hD _) _)
theorem ok_terms_from (T:Tx K mg) (D_term_from:DefXs P w K mg base n "term_from" ["tree","more"] (spTermX m K)):DefXs P w K mg base (n + 1) "terms_from" ["trees","more"] (spTermsX m K):=by
 refine DefXs.of T.d_terms_from sc_terms_from (fun vs H Q E h=>?_) (fun f cdv A outer s H vs Q E hr h=>?_)
 ·obtain ⟨_,_,_,_,rfl,_⟩:=h
  rfl
 obtain ⟨a,mr,us,ts,rfl,hm,ha,ht,hd,hl,hn,q,qe⟩:=h
 refine ⟨_,(pss_one (ps_ret (pe_callTy (gk_tuple_of (K:=K) rfl) rfl T.z_tuple PyProof.Rows.boot_tuple (pa_cons (pe_compX ["tree","more"] [none,some 1] rfl rfl rfl (by kernel_rfl) (gk_pi_list (K:=K) rfl (pv 0)) (fun _ _ _ _=>(pgc 0)) (fun _ _ _ _=>pts_nil) (fun _ _ _ _ _=>(pe_xcall D_term_from hr (va 0 (v1 1))))) pa_nil star_comp)))),?_⟩
 have hb:=bs_len ts
 refine ⟨_,rfl,a,rfl,⟨_,SqL.of ha⟩,comp_readX (R:=TD) (E:=E) (fun v t H Q E hm hr ht q qe=>?_) ha hm ht (by omega) (fun ds D vs H1 h2 s1 e1 r1=>?_) qe⟩
 ·have:=bs_mem ht
  have:=nest_mem ht
  exact ⟨v,mr,t,rfl,hm,hr,hd.get t ht,by omega,by omega,q,qe⟩
 refine ⟨D,vs,rfl,.inl ⟨SqL.of e1,fun t2 ht2=>?_⟩⟩
 have st:=Same.new ht2 (.tup vs)
 exact q ds t2 vs _ h2 (s1.trans st) upd_same (r1.same st _)
theorem ad_l3 {t0 t1 t2:Tr} {d:D}:AD (.l [t0,t1,t2]) d ↔ ∃ g x e,IsNm t0 g∧IsNm t1 x∧TD t2 e∧d=.tup [.str g,.str x,e]:=by
 constructor
 ·rintro ⟨n,g,x,e,te,hg,hx,he,hd,e1⟩
  cases e1
  exact ⟨g,x,e,⟨rfl,hg⟩,⟨rfl,hx⟩,⟨n,he⟩,hd⟩
 ·rintro ⟨g,x,e,⟨rfl,hg⟩,⟨rfl,hx⟩,⟨n,he⟩,hd⟩
  exact ⟨n,g,x,e,t2,hg,hx,he,hd,rfl⟩
theorem ad_len {t:Tr} {d:D} (h:AD t d):∃ t0 t1 t2,t=.l [t0,t1,t2]:=by
 obtain ⟨n,g,x,e,te,_,_,_,_,rfl⟩:=h
 exact ⟨_,_,_,rfl⟩
theorem rel3 {H:Hp} {us:List V} {ts:List Tr} (h:RelTs H us ts) (hu:us.length=3):∃ u0 u1 u2 t0 t1 t2,us=[u0,u1,u2]∧ts=[t0,t1,t2]∧RelT H u0 t0∧RelT H u1 t1∧RelT H u2 t2:=by
 have e:=h.length
 match ts,h,e with
 | [t0,t1,t2],⟨u0,_,e0,r0,u1,_,e1,r1,u2,_,e2,r2,e3⟩,_=>
  subst e3 e2 e1 e0
  exact ⟨u0,u1,u2,t0,t1,t2,rfl,rfl,r0,r1,r2⟩
 | [],_,e=>rw [hu] at e; simp at e
 | [_],_,e=>rw [hu] at e; simp at e
 | [_,_],_,e=>rw [hu] at e; simp at e
 | _ :: _ :: _ :: _ :: _,_,e=>rw [hu] at e; simp at e
theorem ok_arm_from (T:Tx K mg) (D_need:DefXs P w K mg base n "need" ["holds"] (spNeed K)) (D_name_from:DefXs P w K mg base n "name_from" ["tree"] (spNameX K)) (D_term_from:DefXs P w K mg base n "term_from" ["tree","more"] (spTermX m K)) :
  DefXs P w K mg base (n + 1) "arm_from" ["tree","more"] (spArmX (m + 1) K):=by
 refine DefXs.of T.d_arm_from sc_arm_from (fun vs H Q E h=>?_) (fun f cdv A outer s H vs Q E hr h=>?_)
 ·obtain ⟨_,_,_,rfl,_⟩:=h
  rfl
 obtain ⟨v,mr,t,rfl,hm,hv,hd,hl,hn,q,qe⟩:=h
 refine ⟨_,(pss_cons (ps_expr (pe_xcall D_need hr (pa_cons (pe_and (pe_callB call_isinst rfl T.z_isinstance PyProof.Rows.boot_isinstance (va 0 (pa_cons (pe_gty T.z_list PyProof.Rows.boot_list) pa_nil star_name))) (pe_one (pe_cmpR op_eq (pe_callB (call_len_seqC (K:=K) rfl) rfl T.z_len PySem.boot_len (v1 0)) pe_int (nomark _)))) pa_nil star_bool)))
   (pss_one (ps_ret (pe_tup (pa_cons (pe_xcall D_name_from hr (pa_cons (pxl K (pv 0) pe_int) pa_nil star_sub)) (pa_cons (pe_xcall D_name_from hr (pa_cons (pxl K (pv 0) pe_int) pa_nil star_sub)) (pa_cons (pe_xcall D_term_from hr (pa_cons (pxl K (pv 0) pe_int) (v1 1) star_sub)) pa_nil star_call) star_call) star_call))))),?_⟩
 cases t with
 | w x=>
  obtain rfl:v=.str (ofL x):=hv
  refine ⟨_,rfl,_,_,_,_,_,rfl,fun u hu'=>hu',TyOf.str _,rfl,_,rfl,iteF ?_⟩
  exact ⟨_,rfl,fun z=>(by cases z),fun _=>qe fun ⟨d,h⟩=>by obtain ⟨_,_,_,e⟩:=ad_len h; cases e⟩
 | l ts=>
  obtain ⟨a,us,rfl,ha,hts⟩:=hv
  have hS:SqL K H a us:=SqL.of ha
  have e1:=hts.length
  refine ⟨_,rfl,_,_,_,_,_,rfl,fun u hu'=>hu',TyOf.lst ha,rfl,_,rfl,iteT ?_⟩
  refine ⟨_,rfl,a,_,rfl,.inl hS,rfl,_,rfl,fun z=>?_,fun z=>qe fun ⟨d,h⟩=>?_⟩
  ·have hu:us.length=3:=by
    have:=of_decide_eq_true z
    have z2:=V.int.inj this
    omega
   obtain ⟨u0,u1,u2,t0,t1,t2,rfl,rfl,r0,r1,r2⟩:=rel3 hts hu
   have hb:=cs_bs [t0,t1,t2]
   have b0:=bs_mem (ts:=[t0,t1,t2]) (t:=t0) (by simp)
   have b1:=bs_mem (ts:=[t0,t1,t2]) (t:=t1) (by simp)
   have b2:=bs_mem (ts:=[t0,t1,t2]) (t:=t2) (by simp)
   have n2:t2.nest < m:=by
    have:=nest_mem (ts:=[t0,t1,t2]) (t:=t2) (by simp)
    have hn:nests [t0,t1,t2] + 1 < m + 1:=hn
    omega
   have bad:(¬ ∃ g,IsNm t0 g)∨(¬ ∃ x,IsNm t1 x)∨(¬ ∃ e,TD t2 e)→Flx K H E:=fun no=>qe fun ⟨d,h⟩=>by
    obtain ⟨g,x,e,h0,h1,h2,_⟩:=ad_l3.mp h
    rcases no with no | no | no
    ·exact no ⟨g,h0⟩
    ·exact no ⟨x,h1⟩
    ·exact no ⟨e,h2⟩
   refine ⟨_,rfl,a,_,_,_,rfl,rfl,hS,rfl,u0,t0,rfl,r0,by omega,fun g hg H1 s1=>?_,fun no=>bad (.inl no)⟩
   refine ⟨_,rfl,a,_,_,_,rfl,rfl,SqL.of (s1 _ _ ha),rfl,u1,t1,rfl,r1.same s1 _,by omega,fun x hx H2 s2=>?_,fun no=>(bad (.inr (.inl no))).same s1⟩
   have s12:=s1.trans s2
   refine ⟨_,rfl,a,_,_,_,rfl,rfl,SqL.of (s12 _ _ ha),rfl,_,rfl,u2,mr,t2,rfl,s12 _ _ hm,r2.same s12 _,(hd.2.get t2 (by simp)),by omega,n2,fun e he v3 H3 s3 r3=>⟨(by show 3 ≤ sizeLine; decide),fun l hl=>?_⟩,fun no=>(bad (.inr (.inr no))).same s12⟩
   exact q _ (ad_l3.mpr ⟨g,x,e,hg,hx,he,rfl⟩) _ _ (s12.trans (s3.trans (Same.new hl _))) ⟨l,_,rfl,upd_same,_,_,rfl,rfl,_,_,rfl,rfl,v3,_,rfl,r3.same (Same.new hl _) _,rfl⟩
  ·obtain ⟨t0,t1,t2,e⟩:=ad_len h
   cases e
   have z2:=of_decide_eq_false z
   exact z2 (by rw [show us.length=3 from e1.trans rfl]; rfl)
end
end K3
end
section
set_option maxHeartbeats 400000
namespace K3
open PySem L2 M
seal L2.PE L2.PA L2.PS L2.PSs L2.PT L2.PW L2.PI L2.PG L2.PJ L2.PTs
theorem opsV_is (h:Str):inV (.str h) [.str (Str.ofString "+"),.str (Str.ofString "-"),.str (Str.ofString "*"),.str (Str.ofString "<"),.str (Str.ofString "=")]=decide (h∈ops):=by
 show inV (.str h) (ops.map V.str)=_
 unfold inV
 rw [List.any_map]
 rw [Bool.eq_iff_iff,decide_eq_true_eq,List.any_eq_true]
 constructor
 ·rintro ⟨y,hy,e⟩
  have:y=h:=by simpa [eqV] using e
  rw [← this]; exact hy
 ·intro hh
  exact ⟨h,hh,by simp [eqV]⟩
theorem cut2 (x y:V) (r:List V):cutV (x :: y :: r) (some 2) none=r:=by
 unfold cutV
 have e1:HT.sIx (x :: y :: r).length 0 (some 2)=2:=by
  rw [show ((2:Int))=((2:Nat):Int) from rfl,HT.sIx_nat]
  simp
 rw [e1,HT.sIx_none]
 show List.take (_ - 2) r=r
 exact List.take_of_length_le (by simp)
theorem cutA (x:V) (r:List V):cutV (x :: r) (some 1) none=r:=by
 unfold cutV
 have e1:HT.sIx (x :: r).length 0 (some 1)=1:=by
  rw [show ((1:Int))=((1:Nat):Int) from rfl,HT.sIx_nat]
  simp
 rw [e1,HT.sIx_none]
 show List.take (_ - 1) r=r
 exact List.take_of_length_le (by simp)
theorem catT_to {K:PySem.W.Frag} {H:Hp} {Q:VK} {a b:Addr} {x:V} {xs ys:List V} (ha:H a=some (.tup (x :: xs))) (hb:H b=some (.tup ys)) (hz:(x :: xs).length + ys.length ≤ sizeLine) (hy:ys≠[]) (q:∀ c H',Same H H'→H' c=some (.tup (x :: xs++ys))→Q (.ref c) H'):rCatT K (.ref a) (.ref b) H Q:=
 ⟨a,b,_,ys,rfl,rfl,SqT.of ha,SqT.of hb,by simp,hz,fun z=>absurd z hy,fun _ p hp=>q p _ (Same.new hp _) upd_same⟩
section
variable {P:Program} {w:World} {K:PySem.W.Frag} {mg:Str→Option Value} {base:Heap} {n m:Nat}
theorem rel2 {H:Hp} {us:List V} {ts:List Tr} (h:RelTs H us ts) (hu:us.length=2):∃ u0 u1 t0 t1,us=[u0,u1]∧ts=[t0,t1]∧RelT H u0 t0∧RelT H u1 t1:=by
 have e:=h.length
 match ts,h,e with
 | [t0,t1],⟨u0,_,e0,r0,u1,_,e1,r1,e3⟩,_=>
  subst e3 e1 e0
  exact ⟨u0,u1,t0,t1,rfl,rfl,r0,r1⟩
 | [],_,e=>rw [hu] at e; simp at e
 | [_],_,e=>rw [hu] at e; simp at e
 | _ :: _ :: _ :: _,_,e=>rw [hu] at e; simp at e
theorem ok_term_from (T:Tx K mg) (D_need:DefXs P w K mg base n "need" ["holds"] (spNeed K)) (D_name_from:DefXs P w K mg base n "name_from" ["tree"] (spNameX K)) (D_leaf_from:DefXs P w K mg base n "leaf_from" ["word","more"] (spLeafX K))
  (D_terms_from:DefXs P w K mg base n "terms_from" ["trees","more"] (spTermsX m K)) (D_arm_from:DefXs P w K mg base n "arm_from" ["tree","more"] (spArmX m K)) (D_term_from:DefXs P w K mg base n "term_from" ["tree","more"] (spTermX m K)) :
  DefXs P w K mg base (n + 1) "term_from" ["tree","more"] (spTermX (m + 1) K):=by
 obtain ⟨o,g_OPS,hO⟩:=T.g_OPS
 refine DefXs.of T.d_term_from sc_term_from (fun vs H Q E h=>?_) (fun f cdv A outer s H vs Q E hr h=>?_)
 ·obtain ⟨_,_,_,rfl,_⟩:=h
  rfl
 obtain ⟨v,mr,t,rfl,hm,hv,hd,hl,hn,q,qe⟩:=h
 have nd:=sc_term_from.nd
 refine ⟨_,(pss_cons (ps_if (pt_val (pe_callB call_isinst rfl T.z_isinstance PyProof.Rows.boot_isinstance (va 0 (pa_cons (pe_gty T.z_str PyProof.Rows.boot_str) pa_nil star_name)))) (pss_one (ps_ret (pe_xcall D_leaf_from hr (va 0 (v1 1))))) pss_nil)
   (pss_cons (psn 2 nd (pxl K (pv 0) pe_int))
   (pss_cons (ps_if (pt_cmpR (gk_in (K:=K) rfl) (pv 2) (pe_gref g_OPS) (by with_unfolding_all rfl)) (pss_cons (ps_expr (pe_xcall D_need hr (pa_cons (pe_cmpR op_eq (pe_callB (call_len_seqC (K:=K) rfl) rfl T.z_len PySem.boot_len (v1 0)) pe_int (nomark _)) pa_nil star_cmp)))
   (pss_one (ps_ret (pe_op op_catT (pe_tup (pa_cons pe_str (v1 2) star_const)) (pe_xcall D_terms_from hr (pa_cons (pe_slice sl_list (pv 0) (po_some pe_int) po_none) (v1 1) star_sub)))))) pss_nil)
   (pss_cons (ps_if (pt_cmpR op_eq (pv 2) pe_str (nomark _)) (pss_cons (ps_expr (pe_xcall D_need hr (pa_cons (pe_cmpR op_ge (pe_callB (call_len_seqC (K:=K) rfl) rfl T.z_len PySem.boot_len (v1 0)) pe_int (nomark _)) pa_nil star_cmp)))
   (pss_one (ps_ret (pe_tup (pa_cons pe_str (pa_cons (pe_xcall D_name_from hr (pa_cons (pxl K (pv 0) pe_int) pa_nil star_sub)) (pa_cons (pe_xcall D_terms_from hr (pa_cons (pe_slice sl_list (pv 0) (po_some pe_int) po_none) (v1 1) star_sub)) pa_nil star_call) star_call) star_const))))) pss_nil)
   (pss_cons (ps_if (pt_cmpR op_eq (pv 2) pe_str (nomark _)) (pss_cons (ps_expr (pe_xcall D_need hr (pa_cons (pe_cmpR op_eq (pe_callB (call_len_seqC (K:=K) rfl) rfl T.z_len PySem.boot_len (v1 0)) pe_int (nomark _)) pa_nil star_cmp)))
   (pss_one (ps_ret (pe_tup (pa_cons pe_str (pa_cons (pe_xcall D_term_from hr (pa_cons (pxl K (pv 0) pe_int) (v1 1) star_sub)) (pa_cons (pe_xcall D_name_from hr (pa_cons (pxl K (pv 0) pe_int) pa_nil star_sub)) pa_nil star_call) star_call) star_const))))) pss_nil)
   (pss_cons (ps_if (pt_cmpR op_eq (pv 2) pe_str (nomark _)) (pss_cons (ps_expr (pe_xcall D_need hr (pa_cons (pe_cmpR op_eq (pe_callB (call_len_seqC (K:=K) rfl) rfl T.z_len PySem.boot_len (v1 0)) pe_int (nomark _)) pa_nil star_cmp)))
   (pss_one (ps_ret (pe_tup (pa_cons pe_str (pa_cons (pe_xcall D_name_from hr (pa_cons (pxl K (pv 0) pe_int) pa_nil star_sub)) (pa_cons (pe_xcall D_name_from hr (pa_cons (pxl K (pv 0) pe_int) pa_nil star_sub)) (pa_cons (pe_xcall D_term_from hr (pa_cons (pxl K (pv 0) pe_int) (v1 1) star_sub)) pa_nil star_call) star_call) star_call) star_const))))) pss_nil)
   (pss_cons (ps_if (pt_cmpR op_eq (pv 2) pe_str (nomark _)) (pss_cons (ps_expr (pe_xcall D_need hr (pa_cons (pe_chain op_le op_le pe_int (pe_callB (call_len_seqC (K:=K) rfl) rfl T.z_len PySem.boot_len (v1 0)) (pe_op op_add pe_int (pe_gint T.g_MOST_ARMS))) pa_nil star_cmp)))
   (pss_one (ps_ret (pe_tup (pa_cons pe_str (pa_cons (pe_xcall D_term_from hr (pa_cons (pxl K (pv 0) pe_int) (v1 1) star_sub)) (pa_cons (pe_callTy (gk_tuple_of (K:=K) rfl) rfl T.z_tuple PyProof.Rows.boot_tuple (pa_cons (pe_compX ["each","more"] [none,some 1] rfl rfl rfl (by kernel_rfl) (gk_pi_list (K:=K) rfl (pe_slice sl_list (pv 0) (po_some pe_int) po_none)) (fun _ _ _ _=>(pgc 0)) (fun _ _ _ _=>pts_nil) (fun _ _ _ _ _=>(pe_xcall D_arm_from hr (va 0 (v1 1))))) pa_nil star_comp)) pa_nil star_call) star_call) star_const))))) pss_nil)
   (pss_cons (ps_expr (pe_xcall D_need hr (pa_cons (pe_and (pe_cmpR op_eq (pv 2) pe_str (nomark _)) (pe_one (pe_cmpR op_eq (pe_callB (call_len_seqC (K:=K) rfl) rfl T.z_len PySem.boot_len (v1 0)) pe_int (nomark _)))) pa_nil star_bool)))
   (pss_one (ps_ret (pe_op op_catT (pe_tup (pa_cons pe_str pa_nil star_const)) (pe_xcall D_terms_from hr (pa_cons (pe_slice sl_list (pv 0) (po_some pe_int) po_none) (v1 1) star_sub))))))))))))),?_⟩
 cases t with
 | w x=>
  obtain rfl:v=.str (ofL x):=hv
  refine ⟨_,rfl,_,_,_,_,_,rfl,fun u hu'=>hu',TyOf.str _,rfl,_,rfl,iteT ?_⟩
  refine ⟨_,rfl,_,rfl,ofL x,mr,rfl,hm,?_,fun d h=>q d (td_word.mpr h),fun no=>qe fun ⟨d,h⟩=>no ⟨d,td_word.mp h⟩⟩
  show x.toArray.size ≤ _
  rw [List.size_toArray]; exact hl
 | l ts=>
  obtain ⟨⟨h,r,rfl⟩,hds⟩:=hd
  obtain ⟨a,us,rfl,ha,v0,rest,rfl,r0,rr⟩:=hv
  obtain rfl:v0=.str (ofL h):=r0
  have q':∀ d,NT (.w h :: r) d→∀ v' H',Same H H'→RelD H' v' d→Q v' H':=fun d h=>q d (td_node.mpr h)
  have qe':(¬ ∃ d,NT (.w h :: r) d)→Flx K H E:=fun no=>qe fun ⟨d,h⟩=>no ⟨d,td_node.mp h⟩
  clear q qe
  have hS:SqL K H a (.str (ofL h) :: rest):=SqL.of ha
  have er:=rr.length
  have hb:=cs_bs (.w h :: r)
  have hbr:(bs r).length ≤ (bs (.w h :: r)).length:=by
   have e1:bs (.w h :: r)=32 :: (h++bs r):=by simp [bs,Tr.cs]
   rw [e1,List.length_cons,List.length_append]; omega
  have hnr:nests r < m:=by
   have e1:nests (.w h :: r)=max 0 (nests r):=rfl
   have hn:nests (.w h :: r) + 1 < m + 1:=hn
   omega
  obtain ⟨hs,hh⟩:∃ hs:Str,ofL h=hs:=⟨_,rfl⟩
  have hw:Tr.w h=tx hs:=by rw [← hh]; rfl
  rw [hh] at ha hS
  rw [hw] at q' qe'
  refine ⟨_,rfl,_,_,_,_,_,rfl,fun u hu'=>hu',TyOf.lst ha,rfl,_,rfl,iteF ?_⟩
  refine ⟨_,rfl,a,_,_,_,rfl,rfl,hS,atI_nat (j:=0) rfl,?_⟩
  refine ⟨_,rfl,o,_,rfl,.inr (hO H),rfl,(by decide +kernel),_,rfl,?_⟩
  rw [opsV_is]
  refine ite2 (fun c=>?_) (fun c=>?_)
  ·
   have hop:hs∈ops:=of_decide_eq_true c
   refine ⟨_,rfl,a,_,rfl,.inl hS,rfl,_,rfl,fun z=>?_,fun z=>qe' fun ⟨d,h⟩=>?_⟩
   ·have z2:=V.int.inj (of_decide_eq_true z)
    have l2:rest.length=2:=by rw [List.length_cons] at z2; omega
    refine ⟨_,rfl,(by show 2 ≤ sizeLine; decide),fun l hl=>?_⟩
    have sl:=Same.new hl (.tup [.str (S "op"),.str hs])
    refine ⟨_,rfl,_,rfl,a,_,rfl,SqL.of (sl _ _ ha),fun c hc=>?_⟩
    rw [cutA]
    have sc:=Same.new hc (.lst rest)
    have slc:=sl.trans sc
    refine ⟨_,rfl,c,mr,rest,r,rfl,slc _ _ hm,upd_same,rr.same slc _,hds.2,by omega,hnr,fun ds p ys H3 h3 s3 hp r3=>?_,fun no=>(qe' fun ⟨d,h⟩=>?_).same slc⟩
    ·have ld:=h3.length
     have ly:=r3.length
     refine catT_to (s3 _ _ (sc _ _ upd_same)) hp (by show 2 + ys.length ≤ sizeLine; exact fits (by omega)) (by intro e; rw [e] at ly; simp at ly; omega) fun c2 H4 s4 h4=>?_
     match ds,r,h3,ld with
     | [x,y],[tx',ty'],.cons h1 (.cons h2 .nil),_=>
      obtain ⟨u1,_,rfl,p1,u2,_,rfl,p2,rfl⟩:=r3
      exact q' _ ((nt_op hop).mpr ⟨x,y,tx',ty',rfl,h1,h2,rfl⟩) _ _ (slc.trans (s3.trans s4)) ⟨c2,_,rfl,h4,_,_,rfl,rfl,_,_,rfl,rfl,u1,_,rfl,p1.same s4 _,u2,_,rfl,p2.same s4 _,rfl⟩
     | [],_,_,ld=>exact absurd ld (by simp; omega)
     | [_],_,_,ld=>exact absurd ld (by simp; omega)
     | _ :: _ :: _ :: _,_,_,ld=>exact absurd ld (by simp; omega)
    ·obtain ⟨x,y,tx',ty',rfl,h1,h2,_⟩:=(nt_op hop).mp h
     exact no ⟨[x,y],.cons h1 (.cons h2 .nil)⟩
   ·obtain ⟨x,y,tx',ty',rfl,h1,h2,_⟩:=(nt_op hop).mp h
    have z2:=of_decide_eq_false z
    refine z2 (congrArg V.int ?_)
    rw [List.length_cons,er]; rfl
  have nop:hs ∉ ops:=of_decide_eq_false (by simpa using c)
  refine ⟨_,rfl,rfl,_,rfl,ite2 (fun c=>?_) (fun c=>?_)⟩
  ·
   obtain rfl:hs=S "rec":=V.str.inj (of_decide_eq_true c)
   refine ⟨_,rfl,a,_,rfl,.inl hS,_,_,rfl,rfl,_,rfl,fun z=>?_,fun z=>qe' fun ⟨d,h⟩=>?_⟩
   ·have z2:=of_decide_eq_true z
    have l1:1 ≤ rest.length:=by rw [List.length_cons] at z2; omega
    obtain ⟨u1,rest',t1,r',rfl,rfl,r1,rr'⟩:∃ u1 rest' t1 r',rest=u1 :: rest'∧r=t1 :: r'∧RelT H u1 t1∧RelTs H rest' r':=by
     match r,rr,er with
     | [],_,er=>rw [er] at l1; simp at l1
     | t1 :: r',⟨u1,rest',e,r1,rr'⟩,_=>exact ⟨u1,rest',t1,r',e,rfl,r1,rr'⟩
    have b1:=bs_mem (ts:=t1 :: r') (t:=t1) (by simp)
    have b2:(bs r').length ≤ (bs (t1 :: r')).length:=by
     have e1:bs (t1 :: r')=32 :: (t1.cs++bs r'):=by simp [bs]
     rw [e1,List.length_cons,List.length_append]; omega
    have n2:nests r' < m:=by
     have e1:nests (t1 :: r')=max t1.nest (nests r'):=rfl
     omega
    refine ⟨_,rfl,a,_,_,_,rfl,rfl,hS,atI_nat (j:=1) rfl,u1,t1,rfl,r1,by omega,fun k hk H1 s1=>?_,fun no=>qe' fun ⟨d,h⟩=>?_⟩
    ·refine ⟨_,rfl,_,rfl,a,_,rfl,SqL.of (s1 _ _ ha),fun c hc=>?_⟩
     rw [cut2]
     have sc:=Same.new hc (.lst rest')
     have s1c:=s1.trans sc
     refine ⟨_,rfl,c,mr,rest',r',rfl,s1c _ _ hm,upd_same,rr'.same s1c _,hds.2.2,by omega,n2,fun ds p ys H3 h3 s3 hp r3=>⟨(by show 3 ≤ sizeLine; decide),fun l hl=>?_⟩,fun no=>(qe' fun ⟨d,h⟩=>?_).same s1c⟩
     ·have sl:=Same.new hl (.tup [.str (S "rec"),.str k,.ref p])
      exact q' _ (nt_rec.mpr ⟨t1,r',k,ds,rfl,hk,h3,rfl⟩) _ _ (s1c.trans (s3.trans sl)) ⟨l,_,rfl,upd_same,_,_,rfl,rfl,_,_,rfl,rfl,.ref p,_,rfl,⟨p,ys,rfl,sl _ _ hp,r3.same sl _⟩,rfl⟩
     ·obtain ⟨_,_,k,es,e,_,h3,_⟩:=nt_rec.mp h
      cases e
      exact no ⟨es,h3⟩
    ·obtain ⟨_,_,k,es,e,hk,_,_⟩:=nt_rec.mp h
     cases e
     exact no ⟨k,hk⟩
   ·obtain ⟨t1,r',k,es,rfl,_,_,_⟩:=nt_rec.mp h
    have z2:=of_decide_eq_false z
    refine z2 ?_
    rw [List.length_cons,er,List.length_cons]; omega
  have n1:hs≠S "rec":=fun e=>c (decide_eq_true (congrArg V.str e))
  refine ⟨_,rfl,rfl,_,rfl,ite2 (fun c=>?_) (fun c=>?_)⟩
  ·
   obtain rfl:hs=S "get":=V.str.inj (of_decide_eq_true c)
   refine ⟨_,rfl,a,_,rfl,.inl hS,rfl,_,rfl,fun z=>?_,fun z=>qe' fun ⟨d,h⟩=>?_⟩
   ·have z2:=V.int.inj (of_decide_eq_true z)
    have l2:rest.length=2:=by rw [List.length_cons] at z2; omega
    obtain ⟨u1,u2,t1,t2,rfl,rfl,r1,r2⟩:=rel2 rr l2
    have b1:=bs_mem (ts:=[t1,t2]) (t:=t1) (by simp)
    have b2:=bs_mem (ts:=[t1,t2]) (t:=t2) (by simp)
    have m1:=nest_mem (ts:=[t1,t2]) (t:=t1) (by simp)
    refine ⟨_,rfl,a,_,_,_,rfl,rfl,hS,rfl,_,rfl,u1,mr,t1,rfl,hm,r1,hds.2.1,by omega,by omega,fun x hx v1 H1 s1 p1=>?_,fun no=>qe' fun ⟨d,h⟩=>?_⟩
    ·refine ⟨_,rfl,a,_,_,_,rfl,rfl,SqL.of (s1 _ _ ha),rfl,u2,t2,rfl,r2.same s1 _,by omega,fun g hg H2 s2=>⟨(by show 3 ≤ sizeLine; decide),fun l hl=>?_⟩,fun no=>(qe' fun ⟨d,h⟩=>?_).same s1⟩
     ·have sl:=Same.new hl (.tup [.str (S "get"),v1,.str g])
      exact q' _ (nt_get.mpr ⟨t1,t2,x,g,rfl,hx,hg,rfl⟩) _ _ (s1.trans (s2.trans sl)) ⟨l,_,rfl,upd_same,_,_,rfl,rfl,v1,_,rfl,p1.same (s2.trans sl) _,_,_,rfl,rfl,rfl⟩
     ·obtain ⟨_,_,x,g,e,_,hg,_⟩:=nt_get.mp h
      cases e
      exact no ⟨g,hg⟩
    ·obtain ⟨_,_,x,g,e,hx,_,_⟩:=nt_get.mp h
     cases e
     exact no ⟨x,hx⟩
   ·obtain ⟨t1,t2,x,g,rfl,_,_,_⟩:=nt_get.mp h
    have z2:=of_decide_eq_false z
    refine z2 (congrArg V.int ?_)
    rw [List.length_cons,er]; rfl
  have n2:hs≠S "get":=fun e=>c (decide_eq_true (congrArg V.str e))
  refine ⟨_,rfl,rfl,_,rfl,ite2 (fun c=>?_) (fun c=>?_)⟩
  ·
   obtain rfl:hs=S "tag":=V.str.inj (of_decide_eq_true c)
   refine ⟨_,rfl,a,_,rfl,.inl hS,rfl,_,rfl,fun z=>?_,fun z=>qe' fun ⟨d,h⟩=>?_⟩
   ·have z2:=V.int.inj (of_decide_eq_true z)
    have l2:rest.length=3:=by rw [List.length_cons] at z2; omega
    obtain ⟨u1,u2,u3,t1,t2,t3,rfl,rfl,r1,r2,r3⟩:=rel3 rr l2
    have b1:=bs_mem (ts:=[t1,t2,t3]) (t:=t1) (by simp)
    have b2:=bs_mem (ts:=[t1,t2,t3]) (t:=t2) (by simp)
    have b3:=bs_mem (ts:=[t1,t2,t3]) (t:=t3) (by simp)
    have m3:=nest_mem (ts:=[t1,t2,t3]) (t:=t3) (by simp)
    refine ⟨_,rfl,a,_,_,_,rfl,rfl,hS,rfl,u1,t1,rfl,r1,by omega,fun k hk H1 s1=>?_,fun no=>qe' fun ⟨d,h⟩=>?_⟩
    ·refine ⟨_,rfl,a,_,_,_,rfl,rfl,SqL.of (s1 _ _ ha),rfl,u2,t2,rfl,r2.same s1 _,by omega,fun g hg H2 s2=>?_,fun no=>(qe' fun ⟨d,h⟩=>?_).same s1⟩
     ·have s12:=s1.trans s2
      refine ⟨_,rfl,a,_,_,_,rfl,rfl,SqL.of (s12 _ _ ha),rfl,_,rfl,u3,mr,t3,rfl,s12 _ _ hm,r3.same s12 _,hds.2.2.2.1,by omega,by omega,fun x hx v3 H3 s3 p3=>⟨(by show 4 ≤ sizeLine; decide),fun l hl=>?_⟩,fun no=>(qe' fun ⟨d,h⟩=>?_).same s12⟩
      ·have sl:=Same.new hl (.tup [.str (S "tag"),.str k,.str g,v3])
       exact q' _ (nt_tag.mpr ⟨t1,t2,t3,k,g,x,rfl,hk,hg,hx,rfl⟩) _ _ (s12.trans (s3.trans sl)) ⟨l,_,rfl,upd_same,_,_,rfl,rfl,_,_,rfl,rfl,_,_,rfl,rfl,v3,_,rfl,p3.same sl _,rfl⟩
      ·obtain ⟨_,_,_,k,g,x,e,_,_,hx,_⟩:=nt_tag.mp h
       cases e
       exact no ⟨x,hx⟩
     ·obtain ⟨_,_,_,k,g,x,e,_,hg,_,_⟩:=nt_tag.mp h
      cases e
      exact no ⟨g,hg⟩
    ·obtain ⟨_,_,_,k,g,x,e,hk,_,_,_⟩:=nt_tag.mp h
     cases e
     exact no ⟨k,hk⟩
   ·obtain ⟨t1,t2,t3,k,g,x,rfl,_,_,_,_⟩:=nt_tag.mp h
    have z2:=of_decide_eq_false z
    refine z2 (congrArg V.int ?_)
    rw [List.length_cons,er]; rfl
  have n3:hs≠S "tag":=fun e=>c (decide_eq_true (congrArg V.str e))
  refine ⟨_,rfl,rfl,_,rfl,ite2 (fun c=>?_) (fun c=>?_)⟩
  ·
   obtain rfl:hs=S "case":=V.str.inj (of_decide_eq_true c)
   have lens:(¬ (2 ≤ rest.length∧rest.length ≤ 5))→Flx K H E:=fun no=>qe' fun ⟨d,h⟩=>by
    obtain ⟨t1,r',x,arms,rfl,_,l1,l4,har,_⟩:=nt_case.mp h
    have:=har.length
    rw [List.length_cons] at er
    exact no (by omega)
   refine ⟨_,rfl,a,_,rfl,.inl hS,_,_,rfl,rfl,_,rfl,ite2 (fun z=>?_) (fun z=>?_)⟩
   ·refine ⟨_,_,rfl,rfl,_,_,rfl,rfl,_,rfl,fun y=>?_,fun y=>lens fun l=>?_⟩
    ·have z2:=of_decide_eq_true z
     have y2:=of_decide_eq_true y
     have l2:2 ≤ rest.length:=by rw [List.length_cons] at z2; omega
     have l5:rest.length ≤ 5:=by rw [List.length_cons] at y2; omega
     obtain ⟨u1,rest',t1,r',rfl,rfl,r1,rr'⟩:∃ u1 rest' t1 r',rest=u1 :: rest'∧r=t1 :: r'∧RelT H u1 t1∧RelTs H rest' r':=by
      match r,rr,er with
      | [],_,er=>rw [er] at l2; simp at l2
      | t1 :: r',⟨u1,rest',e,r1,rr'⟩,_=>exact ⟨u1,rest',t1,r',e,rfl,r1,rr'⟩
     have b1:=bs_mem (ts:=t1 :: r') (t:=t1) (by simp)
     have b2:(bs r').length ≤ (bs (t1 :: r')).length:=by
      have e1:bs (t1 :: r')=32 :: (t1.cs++bs r'):=by simp [bs]
      rw [e1,List.length_cons,List.length_append]; omega
     have e1:nests (t1 :: r')=max t1.nest (nests r'):=rfl
     have er':=rr'.length
     refine ⟨_,rfl,a,_,_,_,rfl,rfl,hS,atI_nat (j:=1) rfl,_,rfl,u1,mr,t1,rfl,hm,r1,hds.2.1,by omega,by omega,fun x hx v1 H1 s1 p1=>?_,fun no=>qe' fun ⟨d,h⟩=>?_⟩
     ·refine ⟨_,rfl,_,rfl,a,_,rfl,SqL.of (s1 _ _ ha),fun c hc=>?_⟩
      rw [cut2]
      have sc:=Same.new hc (.lst rest')
      have s1c:=s1.trans sc
      refine ⟨c,rfl,⟨_,SqL.of upd_same⟩,comp_readX (R:=AD) (E:=E) (fun v t H Q E hm hr ht q qe=>?_) upd_same (s1c _ _ hm) (rr'.same s1c _) (by rw [List.length_cons] at l5; omega) (fun ds D vs H3 h3 s3 e3 r3=>?_) fun no=>(qe' fun ⟨d,h⟩=>?_).same s1c⟩
      ·have:=bs_mem ht
       have:=nest_mem ht
       exact ⟨v,mr,t,rfl,hm,hr,hds.2.2.get t ht,by omega,by omega,q,qe⟩
      ·refine ⟨D,vs,rfl,.inl ⟨SqL.of e3,fun t2 ht2=>⟨(by show 3 ≤ sizeLine; decide),fun l hl=>?_⟩⟩⟩
       have st:=Same.new ht2 (.tup vs)
       have sl:=Same.new hl (.tup [.str (S "case"),v1,.ref t2])
       have ld:=h3.length
       rw [List.length_cons] at l2 l5
       exact q' _ (nt_case.mpr ⟨t1,r',x,ds,rfl,hx,by omega,by omega,h3,rfl⟩) _ _ (s1c.trans (s3.trans (st.trans sl))) ⟨l,_,rfl,upd_same,_,_,rfl,rfl,v1,_,rfl,p1.same (sc.trans (s3.trans (st.trans sl))) _,.ref t2,_,rfl,⟨t2,vs,rfl,sl _ _ upd_same,r3.same (st.trans sl) _⟩,rfl⟩
      ·obtain ⟨_,_,x,arms,e,_,_,_,har,_⟩:=nt_case.mp h
       cases e
       exact no ⟨arms,har⟩
     ·obtain ⟨_,_,x,arms,e,hx,_,_,_,_⟩:=nt_case.mp h
      cases e
      exact no ⟨x,hx⟩
    ·have y2:=of_decide_eq_false y
     rw [List.length_cons] at y2
     omega
   ·refine ⟨_,rfl,fun y=>absurd y (by simp),fun y=>lens fun l=>?_⟩
    have z2:¬ _:=fun y=>z (decide_eq_true y)
    rw [List.length_cons] at z2
    omega
  have n4:hs≠S "case":=fun e=>c (decide_eq_true (congrArg V.str e))
  refine ⟨_,rfl,rfl,_,rfl,ite2 (fun c=>?_) (fun c=>?_)⟩
  ·obtain rfl:hs=S "if":=V.str.inj (of_decide_eq_true c)
   refine ⟨_,rfl,a,_,rfl,.inl hS,rfl,_,rfl,fun z=>?_,fun z=>qe' fun ⟨d,h⟩=>?_⟩
   ·have z2:=V.int.inj (of_decide_eq_true z)
    have l2:rest.length=3:=by rw [List.length_cons] at z2; omega
    refine ⟨(by show 1 ≤ sizeLine; decide),fun l hl=>?_⟩
    have sl:=Same.new hl (.tup [.str (S "if")])
    refine ⟨_,rfl,_,rfl,a,_,rfl,SqL.of (sl _ _ ha),fun c hc=>?_⟩
    rw [cutA]
    have sc:=Same.new hc (.lst rest)
    have slc:=sl.trans sc
    refine ⟨_,rfl,c,mr,rest,r,rfl,slc _ _ hm,upd_same,rr.same slc _,hds.2,by omega,hnr,fun ds p ys H3 h3 s3 hp r3=>?_,fun no=>(qe' fun ⟨d,h⟩=>?_).same slc⟩
    ·have ld:=h3.length
     have ly:=r3.length
     refine catT_to (s3 _ _ (sc _ _ upd_same)) hp (by show 1 + ys.length ≤ sizeLine; exact fits (by omega)) (by intro e; rw [e] at ly; simp at ly; omega) fun c2 H4 s4 h4=>?_
     match ds,r,h3,ld with
     | [x,y,z],[t1,t2,t3],.cons h1 (.cons h2 (.cons h3 .nil)),_=>
      obtain ⟨u1,_,rfl,p1,u2,_,rfl,p2,u3,_,rfl,p3,rfl⟩:=r3
      exact q' _ (nt_if.mpr ⟨t1,t2,t3,x,y,z,rfl,h1,h2,h3,rfl⟩) _ _ (slc.trans (s3.trans s4)) ⟨c2,_,rfl,h4,_,_,rfl,rfl,u1,_,rfl,p1.same s4 _,u2,_,rfl,p2.same s4 _,u3,_,rfl,p3.same s4 _,rfl⟩
     | [],_,_,ld=>exact absurd ld (by simp; omega)
     | [_],_,_,ld=>exact absurd ld (by simp; omega)
     | [_,_],_,_,ld=>exact absurd ld (by simp; omega)
     | _ :: _ :: _ :: _ :: _,_,_,ld=>exact absurd ld (by simp; omega)
    ·obtain ⟨t1,t2,t3,x,y,z,rfl,h1,h2,h3,_⟩:=nt_if.mp h
     exact no ⟨[x,y,z],.cons h1 (.cons h2 (.cons h3 .nil))⟩
   ·obtain ⟨t1,t2,t3,x,y,z',rfl,_,_,_,_⟩:=nt_if.mp h
    have z2:=of_decide_eq_false z
    refine z2 (congrArg V.int ?_)
    rw [List.length_cons,er]; rfl
  ·refine ⟨_,rfl,fun y=>absurd y (by simp),fun y=>qe' fun ⟨d,h⟩=>nt_other nop n1 n2 n3 n4 (fun e=>c (decide_eq_true (congrArg V.str e))) h⟩
end
end K3
end
section
set_option maxHeartbeats 400000
namespace M
open PySem
def pileN:Pile→Prop
 | []=>True
 | top :: st=>nests top + (st.length + 1) ≤ 21∧pileN st
theorem nests_append:∀ (a b:List Tr),nests (a++b)=max (nests a) (nests b)
 | [],b=>by show nests b=max 0 (nests b); omega
 | t :: a,b=>by
  show max t.nest (nests (a++b))=max (max t.nest (nests a)) (nests b)
  rw [nests_append a b]; omega
theorem nests_one (t:Tr):nests [t]=t.nest:=by show max t.nest 0=_; omega
theorem pileN_close:∀ (k:Nat) (st:Pile),pileN st→pileN (close k st)
 | 0,st,h=>h
 | k + 1,[],h=>h
 | k + 1,[_],h=>h
 | k + 1,top :: par :: st,h=>by
  show pileN (close k ((par++[.l top]) :: st))
  refine pileN_close k _ ⟨?_,h.2.2⟩
  have h1:nests top + ((par :: st).length + 1) ≤ 21:=h.1
  have h2:nests par + (st.length + 1) ≤ 21:=h.2.1
  rw [nests_append,nests_one,show (Tr.l top).nest=nests top + 1 from rfl]
  rw [List.length_cons] at h1
  omega
theorem pileN_put {x:List Nat} {st st':Pile} (h:pileN st) (hn:st≠[]) (e:putW x st=some st'):pileN st':=by
 unfold putW putC at e
 generalize x.length - (coreOf x).length=k at e
 have fin:∀ st1:Pile,pileN st1→closeN k st1=some st'→pileN st':=fun st1 n1 c1=>by
  unfold closeN at c1
  split at c1
  ·cases c1
   exact pileN_close k st1 n1
  ·cases c1
 match st,h,hn with
 | top :: st,h,_=>
  split at e
  ·split at e
   ·rename_i hl
    refine fin ([Tr.w (coreOf x).tail] :: top :: st) ⟨?_,h⟩ e
    rw [nests_one]
    show 0 + ((top :: st).length + 1) ≤ 21
    omega
   ·cases e
  ·refine fin ((top++[Tr.w (coreOf x)]) :: st) ⟨?_,h.2⟩ e
   rw [nests_append,nests_one]
   have:=h.1
   show max (nests top) 0 + _ ≤ _
   omega
theorem pileN_run:∀ (ws:List (List Nat)) {st st':Pile},pileNe st→pileN st→runW ws st=some st'→pileN st'
 | [],st,st',_,h,e=>by cases e; exact h
 | x :: ws,st,st',hn,h,e=>by
  obtain ⟨s1,e1,e2⟩:=Option.bind_eq_some_iff.mp (show (putW x st).bind (runW ws)=some st' from e)
  exact pileN_run ws (pile_put hn e1).2 (pileN_put h (by rintro rfl; exact hn) e1) e2
theorem run_nest {ws:List (List Nat)} {t:Tr} (h:runW ws [[]]=some [[t]]):t.nest ≤ 20:=by
 have:=pileN_run ws (st:=[[]]) (st':=[[t]]) True.intro ⟨by show 0 + 1 ≤ 21; omega,True.intro⟩ h
 have h1:nests [t] + 1 ≤ 21:=this.1
 rw [nests_one] at h1
 omega
end M
end
section
set_option maxHeartbeats 400000
namespace K3
open PySem L2 M
seal L2.PE L2.PA L2.PS L2.PSs L2.PT L2.PW L2.PI L2.PG L2.PJ L2.PTs
theorem blank:S " "=⟨#[32]⟩:=by decide +kernel
theorem runsP_one {x:Str} {t:Tr} (h:runsP x=some [t]):runW ((Txt.split x ⟨#[32]⟩).map L) [[]]=some [[t]]:=by
 unfold runsP topOf at h
 split at h
 ·rename_i q e
  cases h
  rw [blank] at e
  exact e
 ·cases h
theorem runsP_of {x:Str} {t:Tr} (h:runW ((Txt.split x ⟨#[32]⟩).map L) [[]]=some [[t]]):runsP x=some [t]:=by
 unfold runsP
 rw [blank,h]
 rfl
def spWithX (K:PySem.W.Frag):Sp:=fun vs H Q E=>∃ x mr,vs=[.str x,.ref mr]∧H mr=some (.tup [])∧x.length ≤ 3000000∧dm (L x) 0 0 ≤ 20∧(∀ d,PT (L x) d→∀ v H',Same H H'→RelD H' v d→Q v H')∧((¬ ∃ d,PT (L x) d)→Flx K H E)
def spOfX (K:PySem.W.Frag):Sp:=fun vs H Q E=>∃ x,vs=[.str x]∧x.length ≤ 3000000∧dm (L x) 0 0 ≤ 20∧(∀ d,PT (L x) d→∀ v H',Same H H'→RelD H' v d→Q v H')∧((¬ ∃ d,PT (L x) d)→Flx K H E)
section
variable {P:Program} {w:World} {K:PySem.W.Frag} {mg:Str→Option Value} {base:Heap} {n m:Nat}
theorem ok_term_with (T:Tx K mg) (D_need:DefXs P w K mg base n "need" ["holds"] (spNeed K)) (D_trees_of:DefXs P w K mg base n "trees_of" ["text"] (spTreesOf K)) (D_term_from:DefXs P w K mg base n "term_from" ["tree","more"] (spTermX 21 K)):DefXs P w K mg base (n + 1) "term_with" ["text","more"] (spWithX K):=by
 refine DefXs.of T.d_term_with sc_term_with (fun vs H Q E h=>?_) (fun f cdv A outer s H vs Q E hr h=>?_)
 ·obtain ⟨_,_,rfl,_⟩:=h
  rfl
 obtain ⟨x,mr,rfl,hm,hl,hd,q,qe⟩:=h
 have nd:=sc_term_with.nd
 refine ⟨_,(pss_cons (psn 2 nd (pe_xcall D_trees_of hr (v1 0)))
   (pss_cons (ps_expr (pe_xcall D_need hr (pa_cons (pe_cmpR op_eq (pe_callB (call_len_seqC (K:=K) rfl) rfl T.z_len PySem.boot_len (v1 2)) pe_int (nomark _)) pa_nil star_cmp)))
   (pss_one (ps_ret (pe_xcall D_term_from hr (pa_cons (pxl K (pv 2) pe_int) (v1 1) star_sub)))))),?_⟩
 refine ⟨_,rfl,x,rfl,hl,fun top a us H' ht sm ha rv=>?_,fun no=>qe fun ⟨d,h⟩=>?_⟩
 ·have hvl:=rv.length
  refine ⟨_,rfl,a,_,rfl,.inl (SqL.of ha),rfl,_,rfl,fun hb=>?_,fun hb=>(qe fun ⟨d,h⟩=>?_).same sm⟩
  ·have l1:us.length=1:=by have:=V.int.inj (of_decide_eq_true hb); omega
   match top,rv,hvl with
   | [t],⟨u,_,e,rt,e'⟩,_=>
    subst e' e
    have run:=runsP_one ht
    have hx:t.cs=L x:=by
     rw [run_text (fun e=>split_ne x ⟨#[32]⟩ (List.map_eq_nil_iff.mp e)) run,split_join]
    have hds:=run_hd run
    have hn:=run_nest run
    refine ⟨_,rfl,a,_,_,_,rfl,rfl,SqL.of ha,rfl,_,rfl,u,mr,t,rfl,sm _ _ hm,rt,hds.1,by rw [hx,L_length]; exact hl,by omega,fun d h v' H2 s2 r2=>q d (tree_pt run h) v' H2 (sm.trans s2) r2,fun no=>(qe fun ⟨d,h⟩=>?_).same sm⟩
    obtain ⟨t',e1,h1,_⟩:=pt_tree h hd
    rw [run] at e1
    cases e1
    exact no ⟨d,h1⟩
   | [],_,hvl=>rw [l1] at hvl; simp at hvl
   | _ :: _ :: _,_,hvl=>rw [l1] at hvl; simp at hvl
  ·obtain ⟨t',e1,h1,_⟩:=pt_tree h hd
   have e2:=runsP_of e1
   rw [ht] at e2
   cases e2
   have z2:=of_decide_eq_false hb
   exact z2 (congrArg V.int (by rw [hvl]; rfl))
 ·obtain ⟨t',e1,h1,_⟩:=pt_tree h hd
  have e2:=runsP_of e1
  rw [no] at e2
  cases e2
theorem ok_term_of (T:Tx K mg) (D_term_with:DefXs P w K mg base n "term_with" ["text","more"] (spWithX K)):DefXs P w K mg base (n + 1) "term_of" ["text"] (spOfX K):=by
 refine DefXs.of T.d_term_of sc_term_of (fun vs H Q E h=>?_) (fun f cdv A outer s H vs Q E hr h=>?_)
 ·obtain ⟨_,rfl,_⟩:=h
  rfl
 obtain ⟨x,rfl,hl,hd,q,qe⟩:=h
 refine ⟨_,(pss_one (ps_ret (pe_xcall D_term_with hr (va 0 (pa_cons (pe_tup pa_nil) pa_nil star_tup))))),?_⟩
 exact ⟨_,rfl,Nat.zero_le _,fun mr hmr=>⟨x,mr,rfl,upd_same,hl,hd,fun d h v H' s r=>q d h v H' ((Same.new hmr _).trans s) r,fun no=>(qe no).same (Same.new hmr _)⟩⟩
end
end K3
end
section
set_option maxHeartbeats 400000
namespace M
open PySem
theorem preH_snoc (p:List Nat) (c:Nat) (us:List (List Nat)):preH p (consH c us)=preH (p++[c]) us:=by
 cases us with
 | nil=>rfl
 | cons u us=>show (p++c :: u) :: us=(p++[c]++u) :: us; simp
def Rd (p:List Nat) (init:List (List Nat)) (last:List Nat) (k:Nat):Prop:=∀ r,wsp (p++r) 0=(wsp r k).map fun us=>init++preH last us
theorem Rd.nil:Rd [] [] [] 0:=fun r=>by
 rw [List.nil_append]
 cases wsp r 0 with
 | none=>rfl
 | some us=>show some us=some ([]++preH [] us); rw [preH_nil]; rfl
theorem Rd.keep {p init last:_} {k k' c:Nat} (h:Rd p init last k) (hc:∀ r,wsp (c :: r) k=(wsp r k').map (consH c)):Rd (p++[c]) init (last++[c]) k':=fun r=>by
 rw [List.append_assoc,List.singleton_append,h,hc,map_map']
 congr 1
 funext us
 rw [preH_snoc]
theorem Rd.open_ {p init last:_} {k:Nat} (h:Rd p init last k):Rd (p++[40]) init (last++[40]) (k + 1):=h.keep fun r=>by rw [wsp,if_pos rfl]
theorem Rd.shut {p init last:_} {k:Nat} (h:Rd p init last (k + 1)):Rd (p++[41]) init (last++[41]) k:=h.keep fun r=>by rw [wsp,if_neg (by decide),if_pos rfl,if_neg (by omega)]; rfl
theorem Rd.plain {p init last:_} {k c:Nat} (h:Rd p init last k) (h1:c≠40) (h2:c≠41) (h3:¬ (c=32∧k=0)):Rd (p++[c]) init (last++[c]) k:=h.keep fun r=>by rw [wsp,if_neg h1,if_neg h2,if_neg h3]
theorem Rd.blank {p init last:_} (h:Rd p init last 0):Rd (p++[32]) (init++[last]) [] 0:=fun r=>by
 rw [List.append_assoc,List.singleton_append,h,wsp,if_neg (by decide),if_neg (by decide),if_pos ⟨rfl,rfl⟩,map_map']
 congr 1
 funext us
 show init++(last++[]) :: us=init++[last]++preH [] us
 rw [preH_nil]; simp
theorem Rd.bad {p init last r:_} (h:Rd p init last 0):wsp (p++41 :: r) 0=none:=by
 rw [h,wsp,if_neg (by decide),if_pos rfl,if_pos rfl]; rfl
theorem Rd.end0 {p init last:_} (h:Rd p init last 0):wsp p 0=some (init++[last]):=by
 have:=h []
 rw [List.append_nil] at this
 rw [this,wsp,if_pos rfl]
 show some (init++[last++[]])=_
 rw [List.append_nil]
theorem Rd.endS {p init last:_} {k:Nat} (h:Rd p init last (k + 1)):wsp p 0=none:=by
 have:=h []
 rw [List.append_nil] at this
 rw [this,wsp,if_neg (by omega)]
 rfl
end M
end
section
set_option maxHeartbeats 400000
namespace K3
open PySem L2 M
seal L2.PE L2.PA L2.PS L2.PSs L2.PT L2.PW L2.PI L2.PG L2.PJ L2.PTs
abbrev txs (ws:List (List Nat)):List V:=ws.map fun w=>V.str (ofL w)
def spWordsOf:Sp:=fun vs H Q _=>∃ x:Str,vs=[.str x]∧x.length ≤ 3000000∧(∀ a ws H',wsp (L x) 0=some ws→Same H H'→H' a=some (.lst (txs ws))→Q (.ref a) H')∧(wsp (L x) 0=none→∀ a H',Same H H'→H' a=some (.lst (txs [[]]))→Q (.ref a) H')
theorem ofL_app (a:List Nat) (c:Nat):ofL a++(⟨#[c]⟩:Str)=ofL (a++[c]):=L_inj (by rw [L_append]; rfl)
theorem take_succ' {x:Str} {i c:Nat} (h:x.cps[i]?=some c):(L x).take (i + 1)=(L x).take i++[c]∧(L x)=(L x).take i++c :: (L x).drop (i + 1):=by
 have h':(L x)[i]?=some c:=by show x.cps.toList[i]?=_; rw [Array.getElem?_toList]; exact h
 refine ⟨by rw [List.take_add_one,h']; rfl,?_⟩
 have hi:=(List.getElem?_eq_some_iff.mp h').1
 conv=>lhs; rw [← List.take_append_drop i (L x)]
 rw [List.drop_eq_getElem_cons hi,(List.getElem?_eq_some_iff.mp h').2]
section
variable {P:Program} {w:World} {K:PySem.W.Frag} {mg:Str→Option Value} {base:Heap} {n m:Nat}
theorem one_eq {c d:Nat}:decide (V.str ⟨#[c]⟩=V.str ⟨#[d]⟩)=decide (c=d):=by
 by_cases e:c=d
 ·subst e; simp
 ·rw [decide_eq_false e,decide_eq_false]
  intro z
  exact e (by simpa using congrArg Str.cps (V.str.inj z))
theorem ok__law_words_of (T:Tx K mg):DefIs P w K mg base (n + 1) "_law_words_of" ["_law_text_here"] spWordsOf:=by
 refine DefIs.of T.d__law_words_of sc__law_words_of (fun vs H Q E h=>?_) (fun f cdv A outer s H vs Q E hr h=>?_)
 ·obtain ⟨_,rfl,_⟩:=h
  rfl
 obtain ⟨x,rfl,hl,q,qe⟩:=h
 have nd:=sc__law_words_of.nd
 have hsz:x.cps.size ≤ 3000000:=hl
 have hLl:(L x).length=x.cps.size:=L_length x
 refine ⟨_,(pss_cons (psn 1 nd (pe_lst (pa_cons pe_str pa_nil star_const)))
   (pss_cons (psn 2 nd pe_int)
   (pss_cons (ps_for PassesOwn.never rfl (pi_str (pv 0)) (pgn 3 nd)
   (pss_cons (psn 2 nd (pe_op op_sub (pe_op op_add (pv 2) (pe_callTy call_int1 rfl T.z_int PyProof.Rows.boot_int (pa_cons (pe_cmpR op_eq (pv 3) pe_str (nomark _)) pa_nil star_cmp))) (pe_callTy call_int1 rfl T.z_int PyProof.Rows.boot_int (pa_cons (pe_cmpR op_eq (pv 3) pe_str (nomark _)) pa_nil star_cmp))))
   (pss_cons (ps_if (pt_cmpR op_lt (pv 2) pe_int (nomark _)) (pss_one (ps_ret (pe_lst (pa_cons pe_str pa_nil star_const)))) pss_nil)
   (pss_one (ps_if (PW.pt (pw_and (pt_cmpR op_eq (pv 3) pe_str (nomark _)) (pw_and1 (pt_cmpR op_eq (pv 2) pe_int (nomark _))))) (pss_one (ps_expr (pe_bm PySem.F.plainAttrs_list PySem.F.slot_list_append PySem.F.type_list_append mt_append (pv 1) (pa_cons pe_str pa_nil star_const)))) (pss_one (ps_asg (pe_op op_add_str (pxl K (pv 1) (pe_un un_neg pe_int)) (pv 3)) (pg_sub (pv 1) (pe_un un_neg pe_int) set_list))))))))
   (pss_cons (ps_if (pt_cmpR op_gt (pv 2) pe_int (nomark _)) (pss_one (ps_ret (pe_lst (pa_cons pe_str pa_nil star_const)))) pss_nil)
   (pss_one (ps_ret (pv 1))))))),?_⟩
 refine ⟨(by show 1 ≤ sizeLine; decide),fun p hp=>?_⟩
 have new1:∀ {H2:Hp} {a:Addr},SameBut p H H2→H2 a=none→wsp (L x) 0=none→Q (.ref a) (upd H2 a (.lst [.str (Str.ofString "")])):=fun {H2 a} sb ha e=>by
  refine qe e a _ (fun b o hb=>?_) (by rw [upd_same]; rfl)
  have bp:b≠p:=fun z=>by rw [z,hp] at hb; cases hb
  have ba:b≠a:=fun z=>by rw [z] at hb bp; have:=sb a o hb bp; rw [ha] at this; cases this
  rw [upd_ne ba]
  exact sb b o hb bp
 refine ⟨_,rfl,x,rfl,for_str (fun i σ H2=>∃ init last k o3,σ=[some (.str x),some (.ref p),some (.int ((k:Nat):Int)),o3]∧SameBut p H H2∧H2 p=some (.lst (txs (init++[last])))∧Rd ((L x).take i) init last k∧last.length ≤ i∧init.length ≤ i∧k ≤ i) ⟨[],[],0,none,rfl,SameBut.upd _ _ _,by rw [upd_same]; rfl,by rw [List.take_zero]; exact Rd.nil,by simp,by simp,by simp⟩ ?_ ?_⟩
 ·rintro i c σ H2 hc ⟨init,last,k,o3,rfl,sb,hp2,rd,l1,l2,l3⟩
  have hi:i < x.cps.size:=(Array.getElem?_eq_some_iff.mp hc).1
  obtain ⟨et,ea⟩:=take_succ' hc
  refine ⟨_,rfl,_,rfl,rfl,.inr ⟨_,rfl,_,_,rfl,rfl,_,rfl,rfl,.inr ⟨_,rfl,_,_,rfl,rfl,?_⟩⟩⟩
  have op:Str.ofString "("=⟨#[40]⟩:=by decide +kernel
  have cl:Str.ofString ")"=⟨#[41]⟩:=by decide +kernel
  have bl:Str.ofString " "=⟨#[32]⟩:=by decide +kernel
  generalize hA:((k:Int) + if decide (V.str ⟨#[c]⟩=V.str (Str.ofString "("))=true then 1 else 0)=A1
  generalize hB:(if decide (V.str ⟨#[c]⟩=V.str (Str.ofString ")"))=true then (1:Int) else 0)=B1
  show tSeq _ _ _ [some (V.str x),some (V.ref p),some (V.int (A1 - B1)),some (V.str ⟨#[c]⟩)] H2
  have hst:A1 - B1=stepD c k:=by
   rw [← hA,← hB,op,cl,one_eq,one_eq]
   unfold stepD
   simp only [decide_eq_true_eq]
  generalize A1 - B1=dv at hst ⊢
  clear hA hB
  refine ⟨_,rfl,_,_,rfl,rfl,_,rfl,ite2 (fun z=>?_) (fun z=>?_)⟩
  ·have neg:dv < 0:=of_decide_eq_true z
   refine ⟨(by show 1 ≤ sizeLine; decide),fun a ha=>?_⟩
   refine new1 sb ha ?_
   rw [hst] at neg
   unfold stepD at neg
   have c41:c=41:=by
    by_cases h:c=41
    ·exact h
    ·rw [if_neg h] at neg; split at neg <;> omega
   subst c41
   have k0:k=0:=by rw [if_neg (by decide),if_pos rfl] at neg; omega
   subst k0
   rw [ea]
   exact rd.bad
  have nn:0 ≤ dv:=by
   have:¬ _:=fun y=>z (decide_eq_true y)
   omega
  obtain ⟨k',rfl⟩:=Int.eq_ofNat_of_zero_le nn
  have low:∀ j:Nat,j=init.length→ixN (txs (init++[last])).length (-1)=some j:=by
   rintro _ rfl
   unfold ixN
   rw [List.length_map,List.length_append,List.length_singleton,if_neg (by omega),if_pos (by omega)]
   congr 1
   omega
  have at1:atI (txs (init++[last])) (-1)=some (.str (ofL last)):=by
   unfold atI
   rw [low _ rfl]
   show (txs (init++[last]))[init.length]?=_
   rw [List.getElem?_map,List.getElem?_append_right (Nat.le_refl _),Nat.sub_self]
   rfl
  have set1:(txs (init++[last])).set init.length (.str (ofL last++⟨#[c]⟩))=txs (init++[last++[c]]):=by
   rw [ofL_app]
   show ((init++[last]).map _).set _ _=(init++[last++[c]]).map _
   rw [List.map_append,List.map_append,List.set_append_right _ _ (by rw [List.length_map]; exact Nat.le_refl _),List.length_map,Nat.sub_self]
   rfl
  have kle:k' ≤ i + 1:=by
   unfold stepD at hst
   split at hst <;> split at hst <;> omega
  have nx:¬ (c=32∧k'=0)→Rd ((L x).take i++[c]) init (last++[c]) k':=fun no=>by
   by_cases h40:c=40
   ·subst h40
    have:k'=k + 1:=by rw [step_open] at hst; omega
    subst this
    exact rd.open_
   by_cases h41:c=41
   ·subst h41
    have:k=k' + 1:=by rw [step_shut] at hst; omega
    subst this
    exact rd.shut
   have:k'=k:=by rw [step_plain h40 h41] at hst; omega
   subst this
   exact rd.plain h40 h41 no
  refine ⟨_,rfl,rfl,_,rfl,ite2 (fun y=>?_) (fun y=>?_)⟩
  ·have c32:c=32:=by
    rw [bl,one_eq] at y
    exact of_decide_eq_true y
   refine ⟨_,rfl,rfl,_,rfl,ite2 (fun y2=>?_) (fun y2=>?_)⟩
   ·have k0:k'=0:=by have:=V.int.inj (of_decide_eq_true y2); omega
    subst c32 k0
    have kk:k=0:=by rw [step_plain (by decide) (by decide)] at hst; omega
    subst kk
    refine ⟨_,rfl,.inl ⟨rfl,_,SqL.of hp2⟩,p,_,_,rfl,rfl,hp2,fitsLt (by rw [List.length_map,List.length_append,List.length_singleton]; omega),?_⟩
    refine ⟨init++[last],[],0,_,rfl,sb.trans (SameBut.upd _ _ _),by rw [upd_same]; show some (HO.lst (txs (init++[last])++[V.str (ofL [])]))=_; rw [show txs (init++[last]++[[]])=txs (init++[last])++[V.str (ofL [])] from List.map_append ..],?_,by simp,by rw [List.length_append,List.length_singleton]; omega,by omega⟩
    rw [et]
    exact rd.blank
   ·refine ⟨_,rfl,_,rfl,p,_,_,_,rfl,rfl,SqL.of hp2,at1,_,rfl,_,_,rfl,rfl,(fits (by show (ofL last).length + 1 ≤ _; rw [show (ofL last).length=last.length from List.size_toArray ..]; omega)),_,rfl,_,rfl,p,_,_,init.length,rfl,rfl,hp2,low _ rfl,?_⟩
    refine ⟨init,last++[c],k',_,rfl,sb.trans (SameBut.upd _ _ _),by rw [upd_same,set1],?_,by rw [List.length_append,List.length_singleton]; omega,by omega,kle⟩
    rw [et]
    exact nx fun h=>y2 (decide_eq_true (by rw [h.2]; rfl))
  ·refine iteF ?_
   refine ⟨_,rfl,_,rfl,p,_,_,_,rfl,rfl,SqL.of hp2,at1,_,rfl,_,_,rfl,rfl,(fits (by show (ofL last).length + 1 ≤ _; rw [show (ofL last).length=last.length from List.size_toArray ..]; omega)),_,rfl,_,rfl,p,_,_,init.length,rfl,rfl,hp2,low _ rfl,?_⟩
   refine ⟨init,last++[c],k',_,rfl,sb.trans (SameBut.upd _ _ _),by rw [upd_same,set1],?_,by rw [List.length_append,List.length_singleton]; omega,by omega,kle⟩
   rw [et]
   exact nx fun h=>y (by rw [bl,one_eq]; exact decide_eq_true h.1)
 ·rintro σ H2 ⟨init,last,k,o3,rfl,sb,hp2,rd,l1,l2,l3⟩
  rw [← hLl,List.take_length] at rd
  refine ⟨_,rfl,_,_,rfl,rfl,_,rfl,ite2 (fun c=>?_) (fun c=>?_)⟩
  ·refine ⟨(by show 1 ≤ sizeLine; decide),fun a ha=>?_⟩
   have k1:0 < k:=by have:=of_decide_eq_true c; omega
   obtain ⟨k',rfl⟩:∃ k',k=k' + 1:=⟨k - 1,by omega⟩
   exact new1 sb ha rd.endS
  ·have k0:k=0:=by
    have:¬ _:=fun y=>c (decide_eq_true y)
    omega
   subst k0
   refine ⟨_,rfl,q p _ H2 rd.end0 (fun b o hb=>sb b o hb (fun z=>by rw [z,hp] at hb; cases hb)) hp2⟩
end
end K3
end
section
namespace L2
open PySem PySem.Spec PyProof.Rows
section
variable {ix:Cap} {tt:TT} {te:TE} {g:TG} {σ:St} {H:Hp} {Q:VK}
theorem comp_strG {x:Str} (Pv:Nat→List V→Hp→Prop) (h0:Pv 0 [] H) (hn:x.cps.size < sizeLine)
  (hs:∀ i c ys H,x.cps[i]?=some c→i < x.cps.size→ys.length ≤ i→Pv i ys H→g (.str ⟨#[c]⟩) (capt ix σ) H fun σ2 H2=>Ext (capt ix σ) σ2∧tt σ2 H2 fun b H3=>if b=true then te σ2 H3 (NxtG Pv x.cps.size i ys) else NxtN Pv x.cps.size i ys H3)
  (hd:∀ ys H,ys.length ≤ x.cps.size→Pv x.cps.size ys H→∀ D,H D=none→Q (.ref D) (upd H D (.lst ys))):CompGo (Its x) ix g tt te σ H Q:=by
 refine ⟨fun i m ys H=>m=x.cps.size - i∧i ≤ x.cps.size∧ys.length ≤ i∧Pv i ys H,⟨x.cps.size,by simp,Nat.zero_le _,Nat.le_refl _,h0⟩,?_⟩
 rintro i m ys H ⟨rfl,hi,hl,p⟩
 by_cases hlt:i < x.cps.size
 ·refine .inr ⟨hlt,by omega,fun v H' y=>?_⟩
  obtain ⟨e,c,hc,ev⟩:=y
  subst e ev
  exact hs i c ys _ hc hlt hl p
 ·have e:i=x.cps.size:=by omega
  subst e
  exact .inl ⟨rfl,hd ys H hl p⟩
end
end L2
end
section
set_option maxHeartbeats 400000
namespace K3
open PySem L2 M
seal L2.PE L2.PA L2.PS L2.PSs L2.PT L2.PW L2.PI L2.PG L2.PJ L2.PTs
def spDeep:Sp:=fun vs H Q _=>∃ x:Str,vs=[.str x]∧Q (.int (dm (L x) 0 0)) H
section
variable {P:Program} {w:World} {K:PySem.W.Frag} {mg:Str→Option Value} {base:Heap} {n m:Nat}
theorem ok__law_deep (T:Tx K mg):DefIs P w K mg base (n + 1) "_law_deep" ["_law_text_here"] spDeep:=by
 refine DefIs.of T.d__law_deep sc__law_deep (fun vs H Q E h=>?_) (fun f cdv A outer s H vs Q E hr h=>?_)
 ·obtain ⟨_,rfl,_⟩:=h
  rfl
 obtain ⟨x,rfl,q⟩:=h
 have nd:=sc__law_deep.nd
 have hLl:(L x).length=x.cps.size:=L_length x
 refine ⟨_,(pss_cons (psn 1 nd pe_int)
   (pss_cons (psn 2 nd pe_int)
   (pss_cons (ps_for PassesOwn.never rfl (pi_str (pv 0)) (pgn 3 nd)
   (pss_cons (psn 2 nd (pe_op op_sub (pe_op op_add (pv 2) (pe_callTy call_int1 rfl T.z_int PyProof.Rows.boot_int (pa_cons (pe_cmpR op_eq (pv 3) pe_str (nomark _)) pa_nil star_cmp))) (pe_callTy call_int1 rfl T.z_int PyProof.Rows.boot_int (pa_cons (pe_cmpR op_eq (pv 3) pe_str (nomark _)) pa_nil star_cmp))))
   (pss_one (psn 1 nd (pe_callB (call_max2 rfl) rfl T.z_max PyProof.Rows.boot_max (va 1 (v1 2)))))))
   (pss_one (ps_ret (pv 1)))))),?_⟩
 refine ⟨_,rfl,x,rfl,for_str (fun i σ H2=>H2=H∧∃ (m c:Int) (o3:Option V),σ=[some (.str x),some (.int m),some (.int c),o3]∧dm (L x) 0 0=dm ((L x).drop i) c m) ⟨rfl,0,0,none,rfl,by rw [List.drop_zero]⟩ ?_ ?_⟩
 ·rintro i c σ H2 hc ⟨rfl,m,k,o3,rfl,e⟩
  have h':(L x)[i]?=some c:=by show x.cps.toList[i]?=_; rw [Array.getElem?_toList]; exact hc
  have hi:=(List.getElem?_eq_some_iff.mp h').1
  rw [List.drop_eq_getElem_cons hi,(List.getElem?_eq_some_iff.mp h').2,dm] at e
  refine ⟨_,rfl,_,rfl,rfl,.inr ⟨_,rfl,_,_,rfl,rfl,_,rfl,rfl,.inr ⟨_,rfl,_,_,rfl,rfl,?_⟩⟩⟩
  have op:Str.ofString "("=⟨#[40]⟩:=by decide +kernel
  have cl:Str.ofString ")"=⟨#[41]⟩:=by decide +kernel
  generalize hA:(k + if decide (V.str ⟨#[c]⟩=V.str (Str.ofString "("))=true then 1 else 0)=A1
  generalize hB:(if decide (V.str ⟨#[c]⟩=V.str (Str.ofString ")"))=true then (1:Int) else 0)=B1
  have hst:A1 - B1=stepD c k:=by
   rw [← hA,← hB,op,cl,one_eq,one_eq]
   unfold stepD
   simp only [decide_eq_true_eq]
  refine ⟨_,rfl,_,rfl,_,_,rfl,?_⟩
  refine ⟨rfl,_,_,_,rfl,?_⟩
  rw [e,hst]
  congr 1
  split <;> omega
 ·rintro σ H2 ⟨rfl,m,k,o3,rfl,e⟩
  rw [← hLl,List.drop_length] at e
  refine ⟨_,rfl,?_⟩
  rw [show m=dm (L x) 0 0 from e.symm]
  exact q
def allOf (x y:Str):Bool:=decide (x≠S "") && (L x).all (inS y)
def spAllOf:Sp:=fun vs H Q _=>∃ x y:Str,vs=[.str x,.str y]∧x.length ≤ 3000000∧∀ H',Same H H'→Q (.bl (allOf x y)) H'
theorem ok__law_all_of (T:Tx K mg):DefIs P w K mg base (n + 1) "_law_all_of" ["_law_text_here","_law_signs"] spAllOf:=by
 refine DefIs.of T.d__law_all_of sc__law_all_of (fun vs H Q E h=>?_) (fun f cdv A outer s H vs Q E hr h=>?_)
 ·obtain ⟨_,_,rfl,_⟩:=h
  rfl
 obtain ⟨x,y,rfl,hl,q⟩:=h
 have hu:=hu_of hr
 have hsz:x.cps.size ≤ 3000000:=hl
 have hLl:(L x).length=x.cps.size:=L_length x
 refine ⟨_,(pss_one (ps_ret (pe_and (pe_cmpR op_ne (pv 0) pe_str (nomark _)) (pe_one (pe_cmpR (op_eqE (Nat.lt_of_succ_lt hu)) (pe_comp ["_law_sign_here","_law_signs"] [none,some 1] rfl (by kernel_rfl) (pi_str (pv 0)) (fun _ _ _ _=>(pgc 0)) (fun _ _ _ _=>(pts_one (pt_cmpR op_notIn_str (pv 0) (pv 1) (by with_unfolding_all rfl)))) (fun _ _ _ _=>(pv 0))) (pe_lst pa_nil) (nomark _)))))),?_⟩
 refine ⟨_,rfl,rfl,_,rfl,ite2 (fun c=>?_) (fun c=>?_)⟩
 ·have ne:x≠S "":=fun e=>by
   subst e
   revert c
   decide +kernel
  refine ⟨_,rfl,x,rfl,comp_strG (fun i ys H2=>H2=H∧(ys=[] ↔ ((L x).take i).all (inS y)=true)) ⟨rfl,by simp⟩ (fitsLt (by omega)) ?_ ?_⟩
  ·rintro i c ys H2 hc hi hly ⟨rfl,iff⟩
   obtain ⟨et,ea⟩:=take_succ' hc
   have all1:((L x).take (i + 1)).all (inS y)=(((L x).take i).all (inS y) && inS y c):=by rw [et,List.all_append]; simp
   refine ⟨ext_set rfl,_,rfl,_,rfl,_,_,rfl,rfl,_,rfl,ite2 (fun z=>?_) (fun z=>?_)⟩
   ·have zc:inS y c=false:=by
     have z:(!(inS y c))=true:=z
     simpa using z
    refine ⟨_,rfl,nxtG hi hly ⟨rfl,?_⟩⟩
    rw [all1,zc,Bool.and_false]
    simp
   ·have zc:inS y c=true:=by
     have z:¬ ((!(inS y c))=true):=z
     simpa using z
    refine nxtN hi hly ⟨rfl,?_⟩
    rw [all1,zc,Bool.and_true]
    exact iff
  ·rintro ys H2 hly ⟨rfl,iff⟩ D hD
   rw [← hLl,List.take_length] at iff
   refine ⟨Nat.zero_le _,fun e he=>⟨D,e,ys,rfl,rfl,SqL.of ?_,SqL.of upd_same,?_⟩⟩
   ·have:D≠e:=fun z=>by rw [z,upd_same] at he; cases he
    rw [upd_ne this,upd_same]
   ·have v:allOf x y=ys.isEmpty:=by
     unfold allOf
     rw [decide_eq_true ne,Bool.true_and,Bool.eq_iff_iff,List.isEmpty_iff]
     exact iff.symm
    rw [← v]
    exact q _ ((Same.new hD _).trans (Same.new he _))
 ·have v:allOf x y=false:=by
   unfold allOf
   have:x=S "":=by
    have c':¬ ((!(decide (V.str x=V.str (S ""))))=true):=c
    have:decide (V.str x=V.str (S ""))=true:=by simpa using c'
    exact V.str.inj (of_decide_eq_true this)
   rw [decide_eq_false (fun z=>z this),Bool.false_and]
  have:=q H (Same.refl _)
  rw [v] at this
  exact this
def spIsNm:Sp:=fun vs H Q _=>∃ x:Str,vs=[.str x]∧x.length ≤ 3000000∧∀ H',Same H H'→Q (.bl (nameL (L x))) H'
def spIsFg:Sp:=fun vs H Q _=>∃ x:Str,vs=[.str x]∧x.length ≤ 3000000∧∀ H',Same H H'→Q (.bl (numL (L x))) H'
theorem empty_len {x:Str}:x=S "" ↔ (L x).length=0:=by
 constructor
 ·rintro rfl; decide +kernel
 ·intro h
  apply L_inj
  rw [List.length_eq_zero_iff.mp h]
  decide +kernel
theorem all_letters (x:Str):allOf x letters=(decide (1 ≤ (L x).length) && (L x).all isLetter):=by
 unfold allOf
 congr 1
 ·rw [Bool.eq_iff_iff,decide_eq_true_eq,decide_eq_true_eq,ne_eq,empty_len]; omega
 ·congr 1; funext c; exact letters_is c
theorem all_figures (x:Str):allOf x figures=(decide (1 ≤ (L x).length) && (L x).all isFigure):=by
 unfold allOf
 congr 1
 ·rw [Bool.eq_iff_iff,decide_eq_true_eq,decide_eq_true_eq,ne_eq,empty_len]; omega
 ·congr 1; funext c; exact figures_is c
theorem ok__law_is_name (T:Tx K mg) (D__law_all_of:DefIs P w K mg base n "_law_all_of" ["_law_text_here","_law_signs"] spAllOf):DefIs P w K mg base (n + 1) "_law_is_name" ["_law_text_here"] spIsNm:=by
 refine DefIs.of T.d__law_is_name sc__law_is_name (fun vs H Q E h=>?_) (fun f cdv A outer s H vs Q E hr h=>?_)
 ·obtain ⟨_,rfl,_⟩:=h
  rfl
 obtain ⟨x,rfl,hl,q⟩:=h
 refine ⟨_,(pss_cons (ps_if (pt_not (pt_val (pe_dcall D__law_all_of hr (va 0 (pa_cons pe_str pa_nil star_const))))) (pss_one (ps_ret pe_bl)) pss_nil)
   (pss_one (ps_ret (pe_and (pe_cmpR op_lt (pe_callB call_len_str rfl T.z_len PySem.boot_len (v1 0)) pe_int (nomark _)) (pe_and (pe_cmpR op_ne (pv 0) pe_str (nomark _)) (pe_one (pe_cmpR op_ne (pv 0) pe_str (nomark _)))))))),?_⟩
 have hz:x.length ≤ sizeLine:=fits (by omega)
 refine ⟨_,rfl,x,letters,rfl,hl,fun H1 s1=>⟨_,rfl,ite2 (fun c=>?_) (fun c=>?_)⟩⟩
 ·have v:nameL (L x)=false:=by
   have c:(!(allOf x letters))=true:=c
   rw [all_letters] at c
   rw [name_is,made_letters]
   cases h1:decide (1 ≤ (L x).length) <;> cases h2:(L x).all isLetter <;> simp_all
  have:=q H1 s1
  rw [v] at this
  exact this
 ·have c:¬ ((!(allOf x letters))=true):=c
  have c1:allOf x letters=true:=by simpa using c
  rw [all_letters,Bool.and_eq_true] at c1
  have nm:nameL (L x)=(decide (x.length < 7) && (!(decide (V.str x=V.str (S "num"))) && !(decide (V.str x=V.str (S "it"))))):=by
   rw [name_is,made_letters,c1.1,c1.2,Bool.true_and,Bool.and_true]
   have e1:∀ y:Str,decide (V.str x=V.str y)=decide (x=y):=fun y=>by
    by_cases e:x=y
    ·subst e; simp
    ·rw [decide_eq_false e,decide_eq_false fun z=>e (V.str.inj z)]
   rw [e1,e1,show decide ((L x).length ≤ 6)=decide (x.length < 7) by rw [L_length,Bool.eq_iff_iff,decide_eq_true_eq,decide_eq_true_eq]; omega,Bool.not_or]
  have q1:=q H1 s1
  rw [nm] at q1
  refine ⟨_,rfl,x,rfl,hz,_,_,rfl,rfl,_,rfl,ite2 (fun d=>?_) (fun d=>?_)⟩
  ·have d1:x.length < 7:=by have:=of_decide_eq_true d; omega
   rw [decide_eq_true d1,Bool.true_and] at q1
   refine ⟨_,rfl,rfl,_,rfl,ite2 (fun e=>?_) (fun e=>?_)⟩
   ·have e:(!(decide (V.str x=V.str (S "num"))))=true:=e
    rw [e,Bool.true_and] at q1
    exact ⟨_,rfl,rfl,q1⟩
   ·have e:¬ ((!(decide (V.str x=V.str (S "num"))))=true):=e
    have e:(!(decide (V.str x=V.str (S "num"))))=false:=by simpa using e
    rw [e,Bool.false_and] at q1
    exact q1
  ·have d1:¬ x.length < 7:=fun y=>d (decide_eq_true (by omega))
   rw [decide_eq_false d1,Bool.false_and] at q1
   exact q1
theorem ok__law_is_figures (T:Tx K mg) (D__law_all_of:DefIs P w K mg base n "_law_all_of" ["_law_text_here","_law_signs"] spAllOf):DefIs P w K mg base (n + 1) "_law_is_figures" ["_law_text_here"] spIsFg:=by
 refine DefIs.of T.d__law_is_figures sc__law_is_figures (fun vs H Q E h=>?_) (fun f cdv A outer s H vs Q E hr h=>?_)
 ·obtain ⟨_,rfl,_⟩:=h
  rfl
 obtain ⟨x,rfl,hl,q⟩:=h
 refine ⟨_,(pss_one (ps_ret (pe_and (pe_dcall D__law_all_of hr (va 0 (pa_cons pe_str pa_nil star_const))) (pe_and (pe_cmpR op_lt (pe_callB call_len_str rfl T.z_len PySem.boot_len (v1 0)) pe_int (nomark _)) (pe_one (pe_or (pe_cmpR op_ne (pe_ix ix_str (pv 0) pe_int (fun _ _=>rfl)) pe_str (nomark _)) (pe_one (pe_cmpR op_eq (pv 0) pe_str (nomark _))))))))),?_⟩
 have hz:x.length ≤ sizeLine:=fits (by omega)
 refine ⟨_,rfl,x,figures,rfl,hl,fun H1 s1=>⟨_,rfl,ite2 (fun c=>?_) (fun c=>?_)⟩⟩
 ·have c1:allOf x figures=true:=c
  rw [all_figures,Bool.and_eq_true] at c1
  have ne:1 ≤ (L x).length:=of_decide_eq_true c1.1
  have nm:numL (L x)=(decide (x.length < 11) && ((!(decide (V.str ⟨#[(L x).getD 0 0]⟩=V.str (S "0")))) || decide (V.str x=V.str (S "0")))):=by
   rw [number_is,made_figures,c1.1,c1.2,Bool.true_and,Bool.and_true]
   have e1:∀ y z:Str,decide (V.str y=V.str z)=decide (y=z):=fun y z=>by
    by_cases e:y=z
    ·subst e; simp
    ·rw [decide_eq_false e,decide_eq_false fun u=>e (V.str.inj u)]
   rw [e1,e1,show decide ((L x).length ≤ 10)=decide (x.length < 11) by rw [L_length,Bool.eq_iff_iff,decide_eq_true_eq,decide_eq_true_eq]; omega,Bool.or_comm]
  have q1:=q H1 s1
  rw [nm] at q1
  refine ⟨_,rfl,x,rfl,hz,_,_,rfl,rfl,_,rfl,ite2 (fun d=>?_) (fun d=>?_)⟩
  ·have d1:x.length < 11:=by have:=of_decide_eq_true d; omega
   rw [decide_eq_true d1,Bool.true_and] at q1
   have at0:atI x.cps.toList 0=some ((L x).getD 0 0):=by
    show atI (L x) 0=_
    cases hx:L x with
    | nil=>rw [hx] at ne; simp at ne
    | cons c r=>exact atI_nat (j:=0) rfl
   refine ⟨_,rfl,x,0,_,rfl,rfl,hz,at0,rfl,_,rfl,ite2 (fun e=>?_) (fun e=>?_)⟩
   ·have e:(!(decide (V.str ⟨#[(L x).getD 0 0]⟩=V.str (S "0"))))=true:=e
    rw [e,Bool.true_or] at q1
    exact q1
   ·have e:¬ ((!(decide (V.str ⟨#[(L x).getD 0 0]⟩=V.str (S "0"))))=true):=e
    have e:(!(decide (V.str ⟨#[(L x).getD 0 0]⟩=V.str (S "0"))))=false:=by simpa using e
    rw [e,Bool.false_or] at q1
    exact ⟨_,rfl,rfl,q1⟩
  ·have d1:¬ x.length < 11:=fun y=>d (decide_eq_true (by omega))
   rw [decide_eq_false d1,Bool.false_and] at q1
   exact q1
 ·have c1:allOf x figures=false:=by simpa using c
  have v:numL (L x)=false:=by
   rw [all_figures] at c1
   rw [number_is,made_figures]
   cases h1:decide (1 ≤ (L x).length) <;> cases h2:(L x).all isFigure <;> simp_all
  have q1:=q H1 s1
  rw [v] at q1
  exact q1
end
end K3
end
section
set_option maxHeartbeats 400000
namespace M
open PySem
theorem str_cases (x:Str):x=⟨#[]⟩∨(∃ c,x=⟨#[c]⟩)∨2 ≤ (L x).length:=by
 cases h:L x with
 | nil=>exact .inl (L_inj h)
 | cons c r=>
  cases r with
  | nil=>exact .inr (.inl ⟨c,L_inj h⟩)
  | cons d r=>exact .inr (.inr (by simp))
theorem mid_is (x:Str):L (Txt.slice x (some 1) (some (-1)))=((L x).drop 1).dropLast:=by
 rcases str_cases x with rfl | ⟨c,rfl⟩ | h
 ·decide +kernel
 ·rfl
 ·have hl:=L_length x
  have e:Txt.slice x (some 1) (some (-1))=StrLaws.sliceText x (some 1) (some (-1)):=rfl
  rw [e,StrLaws.sliceText_neg_hi x _ (by decide) (by omega),StrLaws.sliceText_plain ⟨by decide,by omega,by rw [show x.cps.toList.length=x.length by simp [Str.length]]; omega⟩]
  show ((L x).drop 1).take _=_
  rw [List.dropLast_eq_take,List.length_drop]
  congr 1
  omega
theorem first_is (x:Str):Txt.slice x none (some 1)=ofL ((L x).take 1):=by
 apply L_inj
 rw [L_ofL]
 rcases str_cases x with rfl | ⟨c,rfl⟩ | h
 ·decide +kernel
 ·rfl
 ·have hl:=L_length x
  have e:Txt.slice x none (some 1)=StrLaws.sliceText x none (some 1):=rfl
  rw [e,StrLaws.sliceText_to ⟨by decide,by rw [show x.cps.toList.length=x.length by simp [Str.length]]; omega⟩]
  rfl
theorem last_is (x:Str):Txt.slice x (some (-1)) none=ofL ((L x).drop ((L x).length - 1)):=by
 apply L_inj
 rw [L_ofL]
 by_cases h0:x=⟨#[]⟩
 ·subst h0
  decide +kernel
 have h:1 ≤ (L x).length:=by
  rcases str_cases x with e | ⟨c,rfl⟩ | h
  ·exact absurd e h0
  ·exact Nat.le_refl _
  ·omega
 have hl:=L_length x
 have e:Txt.slice x (some (-1)) none=StrLaws.sliceText x (some (-1)) none:=rfl
 rw [e,StrLaws.sliceText_neg_lo x _ (by decide) (by omega),StrLaws.sliceText_from ⟨by omega,by rw [show x.cps.toList.length=x.length by simp [Str.length]]; omega⟩]
 show ((L x).drop _).take _=_
 rw [show ((-1:Int) + x.length).toNat=(L x).length - 1 by omega]
 refine List.take_of_length_le ?_
 rw [List.length_drop]
 show _ ≤ (((L x).length:Int) - _).toNat
 omega
theorem in_brackets (x:Str):(Txt.slice x none (some 1)=⟨#[40]⟩∧Txt.slice x (some (-1)) none=⟨#[41]⟩) ↔ ∃ mid,L x=40 :: mid++[41]:=by
 rw [first_is,last_is]
 constructor
 ·rintro ⟨h1,h2⟩
  have h1:(L x).take 1=[40]:=congrArg L h1
  have h2:(L x).drop ((L x).length - 1)=[41]:=congrArg L h2
  cases hx:L x with
  | nil=>rw [hx] at h1; simp at h1
  | cons c r=>
   rw [hx] at h1 h2
   obtain rfl:c=40:=by simpa using h1
   have rn:r≠[]:=by rintro rfl; simp at h2
   have er:=List.dropLast_concat_getLast rn
   rw [← er] at h2
   have:r.getLast rn=41:=by simpa using h2
   refine ⟨r.dropLast,?_⟩
   rw [← this,List.cons_append,er]
 ·rintro ⟨mid,e⟩
  rw [e]
  refine ⟨rfl,?_⟩
  have:(40 :: mid++[41]).drop ((40 :: mid++[41]).length - 1)=[41]:=by
   simp
  rw [this]; rfl
theorem mid_of_brackets {x:Str} {mid:List Nat} (e:L x=40 :: mid++[41]):L (Txt.slice x (some 1) (some (-1)))=mid:=by
 rw [mid_is,e]
 simp
theorem pt_tup {x:List Nat} {d:D} (h:PT x d):∃ ds,d=.tup ds:=by
 obtain ⟨n,t,h,_⟩:=h
 have lf:Leaf d t→∃ ds,d=.tup ds:=by
  rintro (⟨_,_,_,rfl,_⟩ | ⟨_,_,rfl,_⟩) <;> exact ⟨_,rfl⟩
 match n,h with
 | 0,h=>exact lf h
 | n + 1,.inl h=>exact lf h
 | n + 1,.inr h=>
  rcases h with ⟨_,_,_,_,_,_,_,_,rfl,_⟩ | ⟨_,_,_,_,_,rfl,_⟩ | ⟨_,_,_,_,_,rfl,_⟩ | ⟨_,_,_,_,_,_,_,rfl,_⟩ | ⟨_,_,_,_,_,_,_,_,rfl,_⟩ | ⟨_,_,_,_,_,_,_,_,_,rfl,_⟩ <;> exact ⟨_,rfl⟩
theorem pa_tup {x:List Nat} {d:D} (h:PA x d):∃ ds,d=.tup ds:=by
 obtain ⟨n,t,⟨_,_,_,_,_,_,_,rfl,_⟩,_⟩:=h
 exact ⟨_,rfl⟩
end M
end
section
set_option maxHeartbeats 400000
namespace K3
open PySem L2 M
seal L2.PE L2.PA L2.PS L2.PSs L2.PT L2.PW L2.PI L2.PG L2.PJ L2.PTs
def spParsed (m:Nat):Sp:=fun vs H Q _=>∃ x:Str,vs=[.str x]∧x.length ≤ 3000000∧dm (L x) 0 0 < m∧(∀ d,PT (L x) d→∀ v H',Same H H'→RelD H' v d→Q v H')∧((¬ ∃ d,PT (L x) d)→∀ H',Same H H'→Q .non H')
def spWords1:Sp:=fun vs H Q _=>∃ x:Str,vs=[.str x]∧x.length ≤ 3000000∧∀ a H',Same H H'→H' a=some (.lst (txs ((wsp (L x) 0).getD [[]])))→Q (.ref a) H'
def spArm (m:Nat):Sp:=fun vs H Q _=>∃ x:Str,vs=[.str x]∧x.length ≤ 3000000∧dm (L x) 0 0 < m∧(∀ d,PA (L x) d→∀ v H',Same H H'→RelD H' v d→Q v H')∧((¬ ∃ d,PA (L x) d)→∀ H',Same H H'→Q .non H')
theorem word_len {s:List Nat} {ws:List (List Nat)} (h:wsp s 0=some ws):∀ w∈ws,w.length ≤ s.length:=by
 have j:=(wsp_join _ _ _ h).2
 intro w hw
 rw [← j]
 clear h j
 induction ws with
 | nil=>simp at hw
 | cons a r ih=>
  cases r with
  | nil=>
   have:w=a:=by simpa using hw
   rw [this]; exact Nat.le_refl _
  | cons b r=>
   show _ ≤ (a++32 :: joinB (b :: r)).length
   rw [List.length_append,List.length_cons]
   rcases List.mem_cons.mp hw with rfl | hw
   ·omega
   ·have:=ih hw
    omega
theorem relD_tup {H:Hp} {v:V} {ds:List D} (h:RelD H v (.tup ds)):∃ a,v=.ref a:=by
 obtain ⟨a,_,e,_⟩:=h
 exact ⟨a,e⟩
theorem txs_get {ws:List (List Nat)} {i:Nat} {w:List Nat} (h:ws[i]?=some w):atI (txs ws) (i:Nat)=some (.str (ofL w)):=atI_nat (j:=i) (by rw [List.getElem?_map,h]; rfl)
section
variable {P:Program} {w:World} {K:PySem.W.Frag} {mg:Str→Option Value} {base:Heap} {n m:Nat}
theorem words1 (D:DefIs P w K mg base n "_law_words_of" ["_law_text_here"] spWordsOf):DefIs P w K mg base n "_law_words_of" ["_law_text_here"] spWords1:=
 D.imp fun vs H Q E ⟨x,e,hl,q⟩=>⟨x,e,hl,fun a ws H' hw s ha=>q a H' s (by rw [hw]; exact ha),fun hw a H' s ha=>q a H' s (by rw [hw]; exact ha)⟩
theorem ok__law_arm (T:Tx K mg) (D__law_words_of:DefIs P w K mg base n "_law_words_of" ["_law_text_here"] spWords1) (D__law_is_name:DefIs P w K mg base n "_law_is_name" ["_law_text_here"] spIsNm) (D__law_parsed:DefIs P w K mg base n "_law_parsed" ["_law_text_here"] (spParsed m)) :
  DefIs P w K mg base (n + 1) "_law_arm" ["_law_text_here"] (spArm (m + 1)):=by
 refine DefIs.of T.d__law_arm sc__law_arm (fun vs H Q E h=>?_) (fun f cdv A outer s H vs Q E hr h=>?_)
 ·obtain ⟨_,rfl,_⟩:=h
  rfl
 obtain ⟨x,rfl,hl,hd,q,qe⟩:=h
 have nd:=sc__law_arm.nd
 have hz:x.length ≤ sizeLine:=fits (by omega)
 refine ⟨_,(pss_cons (psn 1 nd (pe_dcall D__law_words_of hr (pa_cons (pe_slice sl_str (pv 0) (po_some pe_int) (po_some (pe_un un_neg pe_int))) pa_nil star_sub)))
   (pss_cons (ps_if (PW.pt (pw_or (pt_cmpR op_ne (pe_slice sl_str (pv 0) po_none (po_some pe_int)) pe_str (nomark _)) (pw_or (pt_cmpR op_ne (pe_slice sl_str (pv 0) (po_some (pe_un un_neg pe_int)) po_none) pe_str (nomark _)) (pw_or (pt_cmpR op_ne (pe_callB (call_len_seqC (K:=K) rfl) rfl T.z_len PySem.boot_len (v1 1)) pe_int (nomark _)) (pw_or1 (pt_not (pt_val (pe_dcall D__law_is_name hr (pa_cons (pxl K (pv 1) pe_int) pa_nil star_sub))))))))) (pss_one (ps_ret pe_non)) pss_nil)
   (pss_cons (psn 2 nd (pe_dcall D__law_parsed hr (pa_cons (pxl K (pv 1) pe_int) pa_nil star_sub)))
   (pss_cons (ps_if (PW.pt (pw_or (pt_not (pt_val (pe_dcall D__law_is_name hr (pa_cons (pxl K (pv 1) pe_int) pa_nil star_sub)))) (pw_or1 (pt_cmpR op_isN (pv 2) pe_non (nomark _))))) (pss_one (ps_ret pe_non)) pss_nil)
   (pss_one (ps_ret (pe_tup (pa_cons (pxl K (pv 1) pe_int) (pa_cons (pxl K (pv 1) pe_int) (v1 2) star_sub) star_sub)))))))),?_⟩
 have hml:(Txt.slice x (some 1) (some (-1))).length ≤ 3000000:=Nat.le_trans (Txt.slice_le x _ _) hl
 refine ⟨_,rfl,_,rfl,_,rfl,_,rfl,x,rfl,hz,Txt.slice x (some 1) (some (-1)),rfl,hml,fun a H1 s1 ha=>?_⟩
 generalize hws:(wsp (L (Txt.slice x (some 1) (some (-1)))) 0).getD [[]]=ws at ha
 have hS:SqL K H1 a (txs ws):=SqL.of ha
 have no:(¬ ∃ d,PA (L x) d)→Q .non H1:=fun h=>qe h H1 s1
 have no2:(¬ ∃ d,PA (L x) d)→∀ H2,Same H1 H2→Q .non H2:=fun h H2 s=>qe h H2 (s1.trans s)
 have op:Str.ofString "("=⟨#[40]⟩:=by decide +kernel
 have cl:Str.ofString ")"=⟨#[41]⟩:=by decide +kernel
 have nt:∀ {y z:Str},¬ ((!(decide (V.str y=V.str z)))=true)→y=z:=fun {y z} h=>by
  have:decide (V.str y=V.str z)=true:=by simpa using h
  exact V.str.inj (of_decide_eq_true this)
 have tr:∀ {y z:Str},(!(decide (V.str y=V.str z)))=true→y≠z:=fun {y z} h e=>by
  rw [decide_eq_true (congrArg V.str e)] at h; cases h
 have shape:∀ d,PA (L x) d→Txt.slice x none (some 1)=⟨#[40]⟩∧Txt.slice x (some (-1)) none=⟨#[41]⟩:=fun d h=>(in_brackets x).mpr (pa_shape h)
 refine ⟨_,rfl,_,rfl,x,rfl,hz,rfl,_,rfl,ite2 (fun c=>?_) (fun c=>?_)⟩
 ·exact iteT (no fun ⟨d,h⟩=>tr c (by rw [op]; exact (shape d h).1))
 have c1:=nt c
 refine ⟨_,rfl,_,rfl,_,rfl,x,rfl,hz,rfl,_,rfl,ite2 (fun c=>?_) (fun c=>?_)⟩
 ·exact iteT (no fun ⟨d,h⟩=>tr c (by rw [cl]; exact (shape d h).2))
 have c2:=nt c
 rw [op] at c1
 rw [cl] at c2
 obtain ⟨mid,hx⟩:=(in_brackets x).mp ⟨c1,c2⟩
 rw [mid_of_brackets hx] at hws
 rw [hx] at no no2 q hd
 have arm3:∀ d,PA (40 :: mid++[41]) d→∃ g y e w,ws=[L g,L y,w]∧Name g∧Name y∧PT w e∧d=.tup [.str g,.str y,e]:=fun d h=>by
  obtain ⟨g,y,e,w,hw,r⟩:=pa_arm.mp h
  rw [hw] at hws
  exact ⟨g,y,e,w,hws.symm,r⟩
 refine ⟨_,rfl,a,_,rfl,.inl hS,rfl,_,rfl,ite2 (fun c=>?_) (fun c=>?_)⟩
 ·refine iteT (no fun ⟨d,h⟩=>?_)
  obtain ⟨g,y,e,w,rfl,_⟩:=arm3 d h
  revert c
  simp
 have l3:ws.length=3:=by
  have:decide (V.int ((txs ws).length:Int)=V.int 3)=true:=by simpa using c
  have:=V.int.inj (of_decide_eq_true this)
  rw [List.length_map] at this
  omega
 match ws,l3 with
 | [w0,w1,w2],_=>
 have hw:wsp mid 0=some [w0,w1,w2]:=by
  cases e:wsp mid 0 with
  | none=>rw [e] at hws; cases hws
  | some us=>rw [e] at hws; exact congrArg some hws
 have wl:=word_len hw
 have xl:mid.length + 2=x.length:=by rw [← L_length x,hx]; simp
 have b0:=wl w0 (by simp)
 have b1:=wl w1 (by simp)
 have b2:=wl w2 (by simp)
 have len:∀ u:List Nat,(ofL u).length=u.length:=fun u=>List.size_toArray ..
 have nm:∀ u:List Nat,(∃ g:Str,u=L g∧Name g) ↔ nameL u=true:=fun u=>⟨fun ⟨g,e,h⟩=>by rw [e]; exact h,fun h=>⟨ofL u,rfl,h⟩⟩
 have fail:(nameL w0=false∨nameL w1=false∨¬ ∃ e,PT w2 e)→∀ H2,Same H1 H2→Q .non H2:=fun f=>no2 fun ⟨d,h⟩=>by
  obtain ⟨g,y,e,w,eq,hg,hy,he,_⟩:=arm3 d h
  cases eq
  rcases f with f | f | f
  ·rw [show nameL (L g)=true from hg] at f; cases f
  ·rw [show nameL (L y)=true from hy] at f; cases f
  ·exact f ⟨e,he⟩
 refine ⟨_,rfl,a,_,_,_,rfl,rfl,hS,rfl,ofL w0,rfl,by rw [len]; omega,fun H2 s2=>⟨_,rfl,ite2 (fun c=>?_) (fun c=>?_)⟩⟩
 ·exact fail (.inl (by simpa [L_ofL] using c)) H2 s2
 have n0:nameL w0=true:=by simpa [L_ofL] using c
 have d2:=dm_word hw (w:=w2) (by simp)
 refine ⟨_,rfl,a,_,_,_,rfl,rfl,SqL.of (s2 _ _ ha),rfl,ofL w2,rfl,by rw [len]; omega,by show dm w2 0 0 < _; omega,fun e he v3 H3 s3 r3=>?_,fun f H3 s3=>?_⟩
 ·obtain ⟨ds,rfl⟩:=pt_tup he
  obtain ⟨va,rfl⟩:=relD_tup r3
  have s23:=s2.trans s3
  refine ⟨_,rfl,a,_,_,_,rfl,rfl,SqL.of (s23 _ _ ha),rfl,ofL w1,rfl,by rw [len]; omega,fun H4 s4=>⟨_,rfl,ite2 (fun c=>?_) (fun c=>?_)⟩⟩
  ·exact iteT (fail (.inr (.inl (by simpa [L_ofL] using c))) H4 (s23.trans s4))
  have n1:nameL w1=true:=by simpa [L_ofL] using c
  have s234:=s23.trans s4
  refine ⟨_,rfl,rfl,_,rfl,iteKF (decide_eq_false (fun z=>by cases z)) ?_⟩
  refine ⟨_,rfl,a,_,_,_,rfl,rfl,SqL.of (s234 _ _ ha),rfl,_,rfl,a,_,_,_,rfl,rfl,SqL.of (s234 _ _ ha),rfl,_,rfl,(by show 3 ≤ sizeLine; decide),fun l hl'=>?_⟩
  have sl:=Same.new hl' (.tup [.str (ofL w0),.str (ofL w1),.ref va])
  exact q _ (pa_arm.mpr ⟨ofL w0,ofL w1,.tup ds,w2,hw,n0,n1,he,rfl⟩) _ _ (s1.trans (s234.trans sl)) ⟨l,_,rfl,upd_same,_,_,rfl,rfl,_,_,rfl,rfl,.ref va,_,rfl,r3.same (s4.trans sl) _,rfl⟩
 ·have s23:=s2.trans s3
  refine ⟨_,rfl,a,_,_,_,rfl,rfl,SqL.of (s23 _ _ ha),rfl,ofL w1,rfl,by rw [len]; omega,fun H4 s4=>⟨_,rfl,ite2 (fun c=>?_) (fun c=>?_)⟩⟩
  ·exact iteT (fail (.inr (.inr f)) H4 (s23.trans s4))
  ·refine ⟨_,rfl,rfl,_,rfl,iteKT (by decide +kernel) ?_⟩
   exact fail (.inr (.inr f)) H4 (s23.trans s4)
end
end K3
end
section
set_option maxHeartbeats 400000
namespace M
open PySem
def IsNw (w:List Nat) (x:Str):Prop:=w=L x∧Name x
def wcls:List (List Nat)→Nat
 | h :: _=>hclW h
 | _=>0
theorem wcls_op {s:Str} {r:List (List Nat)} (h:s∈ops):wcls (L s :: r)=1:=by
 show (if ofL (L s)∈ops then 1 else _)=1
 rw [ofL_L,if_pos h]
theorem wcls_rec {r:List (List Nat)}:wcls (L (S "rec") :: r)=2:=by show hclW _=_; decide +kernel
theorem wcls_get {r:List (List Nat)}:wcls (L (S "get") :: r)=3:=by show hclW _=_; decide +kernel
theorem wcls_tag {r:List (List Nat)}:wcls (L (S "tag") :: r)=4:=by show hclW _=_; decide +kernel
theorem wcls_case {r:List (List Nat)}:wcls (L (S "case") :: r)=5:=by show hclW _=_; decide +kernel
theorem wcls_if {r:List (List Nat)}:wcls (L (S "if") :: r)=6:=by show hclW _=_; decide +kernel
theorem nw_op {s:Str} (hs:s∈ops) {r:List (List Nat)} {d:D}:NW (L s :: r) d ↔ ∃ a b ta tb,r=[ta,tb]∧PT ta a∧PT tb b∧d=.tup [.str (S "op"),.str s,a,b]:=by
 constructor
 ·rintro (⟨s',a,b,ta,tb,hs',ha,hb,hd,e⟩ | ⟨k,es,r',hk,hes,hd,e⟩ | ⟨a,t,f,hf,ha,hd,e⟩ | ⟨k,g,a,t,hk,hg,ha,hd,e⟩ | ⟨a,t,arms,r',ha,l1,l4,har,hd,e⟩ | ⟨a,b,c,t1,t2,t3,ha,hb,hc,hd,e⟩)
  ·injection e with e1 e
   rw [← L_inj e1] at hd
   exact ⟨a,b,ta,tb,e,ha,hb,hd⟩
  ·have c:=congrArg wcls e; rw [wcls_op hs,wcls_rec] at c; cases c
  ·have c:=congrArg wcls e; rw [wcls_op hs,wcls_get] at c; cases c
  ·have c:=congrArg wcls e; rw [wcls_op hs,wcls_tag] at c; cases c
  ·have c:=congrArg wcls e; rw [wcls_op hs,wcls_case] at c; cases c
  ·have c:=congrArg wcls e; rw [wcls_op hs,wcls_if] at c; cases c
 ·rintro ⟨a,b,ta,tb,rfl,ha,hb,hd⟩
  exact .inl ⟨s,a,b,ta,tb,hs,ha,hb,hd,rfl⟩
theorem nw_rec {r:List (List Nat)} {d:D}:NW (L (S "rec") :: r) d ↔ ∃ t1 r' k es,r=t1 :: r'∧IsNw t1 k∧All2 (fun e t=>PT t e) es r'∧d=.tup [.str (S "rec"),.str k,.tup es]:=by
 constructor
 ·rintro (⟨s',a,b,ta,tb,hs',ha,hb,hd,e⟩ | ⟨k,es,r',hk,hes,hd,e⟩ | ⟨a,t,f,hf,ha,hd,e⟩ | ⟨k,g,a,t,hk,hg,ha,hd,e⟩ | ⟨a,t,arms,r',ha,l1,l4,har,hd,e⟩ | ⟨a,b,c,t1,t2,t3,ha,hb,hc,hd,e⟩)
  ·have c:=congrArg wcls e; rw [wcls_op hs',wcls_rec] at c; cases c
  ·injection e with e1 e
   exact ⟨_,_,k,es,e,⟨rfl,hk⟩,hes,hd⟩
  ·have c:=congrArg wcls e; rw [wcls_rec,wcls_get] at c; cases c
  ·have c:=congrArg wcls e; rw [wcls_rec,wcls_tag] at c; cases c
  ·have c:=congrArg wcls e; rw [wcls_rec,wcls_case] at c; cases c
  ·have c:=congrArg wcls e; rw [wcls_rec,wcls_if] at c; cases c
 ·rintro ⟨t1,r',k,es,rfl,⟨rfl,hk⟩,hes,hd⟩
  exact .inr (.inl ⟨k,es,r',hk,hes,hd,rfl⟩)
theorem nw_get {r:List (List Nat)} {d:D}:NW (L (S "get") :: r) d ↔ ∃ t1 t2 a f,r=[t1,t2]∧PT t1 a∧IsNw t2 f∧d=.tup [.str (S "get"),a,.str f]:=by
 constructor
 ·rintro (⟨s',a,b,ta,tb,hs',ha,hb,hd,e⟩ | ⟨k,es,r',hk,hes,hd,e⟩ | ⟨a,t,f,hf,ha,hd,e⟩ | ⟨k,g,a,t,hk,hg,ha,hd,e⟩ | ⟨a,t,arms,r',ha,l1,l4,har,hd,e⟩ | ⟨a,b,c,t1,t2,t3,ha,hb,hc,hd,e⟩)
  ·have c:=congrArg wcls e; rw [wcls_op hs',wcls_get] at c; cases c
  ·have c:=congrArg wcls e; rw [wcls_rec,wcls_get] at c; cases c
  ·injection e with e1 e
   exact ⟨_,_,a,f,e,ha,⟨rfl,hf⟩,hd⟩
  ·have c:=congrArg wcls e; rw [wcls_get,wcls_tag] at c; cases c
  ·have c:=congrArg wcls e; rw [wcls_get,wcls_case] at c; cases c
  ·have c:=congrArg wcls e; rw [wcls_get,wcls_if] at c; cases c
 ·rintro ⟨t1,t2,a,f,rfl,ha,⟨rfl,hf⟩,hd⟩
  exact .inr (.inr (.inl ⟨a,t1,f,hf,ha,hd,rfl⟩))
theorem nw_tag {r:List (List Nat)} {d:D}:NW (L (S "tag") :: r) d ↔ ∃ t1 t2 t3 k g a,r=[t1,t2,t3]∧IsNw t1 k∧IsNw t2 g∧PT t3 a∧d=.tup [.str (S "tag"),.str k,.str g,a]:=by
 constructor
 ·rintro (⟨s',a,b,ta,tb,hs',ha,hb,hd,e⟩ | ⟨k,es,r',hk,hes,hd,e⟩ | ⟨a,t,f,hf,ha,hd,e⟩ | ⟨k,g,a,t,hk,hg,ha,hd,e⟩ | ⟨a,t,arms,r',ha,l1,l4,har,hd,e⟩ | ⟨a,b,c,t1,t2,t3,ha,hb,hc,hd,e⟩)
  ·have c:=congrArg wcls e; rw [wcls_op hs',wcls_tag] at c; cases c
  ·have c:=congrArg wcls e; rw [wcls_rec,wcls_tag] at c; cases c
  ·have c:=congrArg wcls e; rw [wcls_get,wcls_tag] at c; cases c
  ·injection e with e1 e
   exact ⟨_,_,_,k,g,a,e,⟨rfl,hk⟩,⟨rfl,hg⟩,ha,hd⟩
  ·have c:=congrArg wcls e; rw [wcls_tag,wcls_case] at c; cases c
  ·have c:=congrArg wcls e; rw [wcls_tag,wcls_if] at c; cases c
 ·rintro ⟨t1,t2,t3,k,g,a,rfl,⟨rfl,hk⟩,⟨rfl,hg⟩,ha,hd⟩
  exact .inr (.inr (.inr (.inl ⟨k,g,a,t3,hk,hg,ha,hd,rfl⟩)))
theorem nw_case {r:List (List Nat)} {d:D}:NW (L (S "case") :: r) d ↔ ∃ t1 r' a arms,r=t1 :: r'∧PT t1 a∧1 ≤ arms.length∧arms.length ≤ 4∧All2 (fun e t=>PA t e) arms r'∧d=.tup [.str (S "case"),a,.tup arms]:=by
 constructor
 ·rintro (⟨s',a,b,ta,tb,hs',ha,hb,hd,e⟩ | ⟨k,es,r',hk,hes,hd,e⟩ | ⟨a,t,f,hf,ha,hd,e⟩ | ⟨k,g,a,t,hk,hg,ha,hd,e⟩ | ⟨a,t,arms,r',ha,l1,l4,har,hd,e⟩ | ⟨a,b,c,t1,t2,t3,ha,hb,hc,hd,e⟩)
  ·have c:=congrArg wcls e; rw [wcls_op hs',wcls_case] at c; cases c
  ·have c:=congrArg wcls e; rw [wcls_rec,wcls_case] at c; cases c
  ·have c:=congrArg wcls e; rw [wcls_get,wcls_case] at c; cases c
  ·have c:=congrArg wcls e; rw [wcls_tag,wcls_case] at c; cases c
  ·injection e with e1 e
   exact ⟨t,r',a,arms,e,ha,l1,l4,har,hd⟩
  ·have c:=congrArg wcls e; rw [wcls_case,wcls_if] at c; cases c
 ·rintro ⟨t1,r',a,arms,rfl,ha,l1,l4,har,hd⟩
  exact .inr (.inr (.inr (.inr (.inl ⟨a,t1,arms,r',ha,l1,l4,har,hd,rfl⟩))))
theorem nw_if {r:List (List Nat)} {d:D}:NW (L (S "if") :: r) d ↔ ∃ t1 t2 t3 a b c,r=[t1,t2,t3]∧PT t1 a∧PT t2 b∧PT t3 c∧d=.tup [.str (S "if"),a,b,c]:=by
 constructor
 ·rintro (⟨s',a,b,ta,tb,hs',ha,hb,hd,e⟩ | ⟨k,es,r',hk,hes,hd,e⟩ | ⟨a,t,f,hf,ha,hd,e⟩ | ⟨k,g,a,t,hk,hg,ha,hd,e⟩ | ⟨a,t,arms,r',ha,l1,l4,har,hd,e⟩ | ⟨a,b,c,t1,t2,t3,ha,hb,hc,hd,e⟩)
  ·have c:=congrArg wcls e; rw [wcls_op hs',wcls_if] at c; cases c
  ·have c:=congrArg wcls e; rw [wcls_rec,wcls_if] at c; cases c
  ·have c:=congrArg wcls e; rw [wcls_get,wcls_if] at c; cases c
  ·have c:=congrArg wcls e; rw [wcls_tag,wcls_if] at c; cases c
  ·have c:=congrArg wcls e; rw [wcls_case,wcls_if] at c; cases c
  ·injection e with e1 e
   exact ⟨t1,t2,t3,a,b,c,e,ha,hb,hc,hd⟩
 ·rintro ⟨t1,t2,t3,a,b,c,rfl,ha,hb,hc,hd⟩
  exact .inr (.inr (.inr (.inr (.inr ⟨a,b,c,t1,t2,t3,ha,hb,hc,hd,rfl⟩))))
theorem nw_other {h:Str} {r:List (List Nat)} {d:D} (h0:h ∉ ops) (h1:h≠S "rec") (h2:h≠S "get") (h3:h≠S "tag") (h4:h≠S "case") (h5:h≠S "if"):¬ NW (L h :: r) d:=by
 rintro (⟨s',a,b,ta,tb,hs',ha,hb,hd,e⟩ | ⟨k,es,r',hk,hes,hd,e⟩ | ⟨a,t,f,hf,ha,hd,e⟩ | ⟨k,g,a,t,hk,hg,ha,hd,e⟩ | ⟨a,t,arms,r',ha,l1,l4,har,hd,e⟩ | ⟨a,b,c,t1,t2,t3,ha,hb,hc,hd,e⟩) <;> injection e with e1 e
 ·exact h0 (by rw [L_inj e1]; exact hs')
 ·exact h1 (L_inj e1)
 ·exact h2 (L_inj e1)
 ·exact h3 (L_inj e1)
 ·exact h4 (L_inj e1)
 ·exact h5 (L_inj e1)
end M
end
section
namespace L2
open PySem PySem.Spec PyProof.Rows
section
variable {X:Cx}
def rInN (K:PySem.W.Frag):R2:=fun x y H Q=>∃ p xs,x=.non∧y=.ref p∧SqL K H p xs∧(∀ v∈xs,v=.non∨∃ a ys,v=.ref a∧SqT K H a ys)∧Q (.bl (decide (V.non∈xs))) H
def isNo:Value→Bool
 | .none=>true
 | _=>false
theorem any_isNo:∀ {xs:List V} {its:List Value},Vals xs its→(∀ v∈xs,v=.non∨∃ a,v=V.ref a)→its.any isNo=decide (V.non∈xs)
 | _,_,.nil,_=>by simp
 | x :: xs,u :: us,.cons h t,f=>by
  rw [List.any_cons,any_isNo t fun v hv=>f v (List.mem_cons_of_mem _ hv)]
  rcases f _ List.mem_cons_self with e | ⟨a,e⟩
  ·subst e
   cases h
   simp [isNo]
  ·subst e
   cases h
   simp [isNo]
theorem mem_no {A:Around} {s:Shared} (hn:SeqAt.EqAt A s .none .none true):∀ {xs:List V} {us:List Value},Vals xs us→(∀ x∈xs,x=.non∨∃ a,x=V.ref a∧SeqAt.EqAt A s (.ref a) .none false)→∀ u∈us,SeqAt.EqAt A s u .none (isNo u)
 | _,_,.nil,_=>fun u hu=>by cases hu
 | y :: xs,u :: us,.cons r t,f=>fun u' hu=>by
  rcases List.mem_cons.mp hu with rfl | hu
  ·rcases f y List.mem_cons_self with e | ⟨a,e,h⟩
   ·subst e
    cases r
    exact hn
   ·subst e
    cases r
    exact h
  ·exact mem_no hn t (fun x hx=>f x (List.mem_cons_of_mem _ hx)) u' hu
theorem op_inN (hu:X.A.units + 1 < cLine):OpR X (compareOp .In) (rInN X.K):=by
 intro pins s σ H x y v u Q I rx ry h
 obtain ⟨p,xs,rfl,rfl,hq,hf,q⟩:=h
 cases ry
 cases rx
 obtain ⟨its,r,pl,hz⟩:=I.list hq
 refine SeqAt.in_listAt isNo pl.isList (fun w hw=>?_) ⟨.bl _,H,I,rfl,?_⟩
 ·have hw:w∈its:=by simpa using hw
  refine mem_no (eqAt_V (y:=.non) (x:=.non) rfl rfl rfl rfl) r (fun x hx=>(hf x hx).imp id fun ⟨a,ys,e,ht⟩=>⟨a,e,?_⟩) w hw
  obtain ⟨ts,rt,pt,_⟩:=I.tuple ht
  exact SeqAt.EqAt.tuple_none pt hu
 ·rw [show its.toArray.any isNo=its.any isNo by simp,any_isNo r fun v hv=>(hf v hv).imp id fun ⟨a,_,e,_⟩=>⟨a,e⟩]
  exact q
end
end L2
end
section
set_option maxHeartbeats 400000
namespace K3
open PySem L2 M
seal L2.PE L2.PA L2.PS L2.PSs L2.PT L2.PW L2.PI L2.PG L2.PJ L2.PTs
def WOk (m:Nat) (ws:List (List Nat)):Prop:=ws.length ≤ 3000000∧∀ w∈ws,w.length ≤ 3000000∧dm w 0 0 < m
def spCase (m:Nat):Sp:=fun vs H Q _=>∃ (a:Addr) (w1:List Nat) (r:List (List Nat)),vs=[.ref a]∧H a=some (.lst (txs (L (S "case") :: w1 :: r)))∧WOk m (w1 :: r) ∧
 (∀ d,NW (L (S "case") :: w1 :: r) d→∀ v H',Same H H'→RelD H' v d→Q v H')∧((¬ ∃ d,NW (L (S "case") :: w1 :: r) d)→∀ H',Same H H'→Q .non H')
def Opt (R:List Nat→D→Prop) (H:Hp) (v:V) (w:List Nat):Prop:=(∃ d,R w d∧RelD H v d)∨(v=.non∧¬ ∃ d,R w d)
theorem Opt.same {R:List Nat→D→Prop} {H H':Hp} {v:V} {w:List Nat} (h:Opt R H v w) (s:Same H H'):Opt R H' v w:=by
 rcases h with ⟨d,h1,h2⟩ | h
 ·exact .inl ⟨d,h1,h2.same s _⟩
 ·exact .inr h
theorem opts_all {R:List Nat→D→Prop} (ht:∀ w d,R w d→∃ ds,d=.tup ds) {H:Hp}:∀ {vs:List V} {ws:List (List Nat)},All2 (Opt R H) vs ws→(V.non∈vs∧¬ ∃ ds,All2 (fun e w=>R w e) ds ws)∨(V.non ∉ vs∧∃ ds,All2 (fun e w=>R w e) ds ws∧RelDs H vs ds)
 | [],[],.nil=>.inr ⟨by simp,[],.nil,rfl⟩
 | v :: vs,w :: ws,.cons h t=>by
  rcases opts_all ht t with ⟨h1,h2⟩ | ⟨h1,ds,h2,h3⟩
  ·exact .inl ⟨List.mem_cons_of_mem _ h1,fun ⟨es,q⟩=>by cases q with | cons a b=>exact h2 ⟨_,b⟩⟩
  ·rcases h with ⟨d,hd,rd⟩ | ⟨rfl,no⟩
   ·refine .inr ⟨fun z=>?_,d :: ds,.cons hd h2,v,vs,rfl,rd,h3⟩
    rcases List.mem_cons.mp z with e | z
    ·obtain ⟨es,rfl⟩:=ht w d hd
     obtain ⟨a,_,e2,_⟩:=rd
     rw [← e] at e2; cases e2
    ·exact h1 z
   ·exact .inl ⟨List.mem_cons_self,fun ⟨es,q⟩=>by cases q with | cons a b=>exact no ⟨_,a⟩⟩
section
variable {P:Program} {w:World} {K:PySem.W.Frag} {mg:Str→Option Value} {base:Heap} {n m:Nat}
theorem ok__law_case (T:Tx K mg) (D__law_parsed:DefIs P w K mg base n "_law_parsed" ["_law_text_here"] (spParsed m)) (D__law_arm:DefIs P w K mg base n "_law_arm" ["_law_text_here"] (spArm m)) :
  DefIs P w K mg base (n + 1) "_law_case" ["_law_words"] (spCase m):=by
 refine DefIs.of T.d__law_case sc__law_case (fun vs H Q E h=>?_) (fun f cdv A outer s H vs Q E hr h=>?_)
 ·obtain ⟨_,_,_,rfl,_⟩:=h
  rfl
 obtain ⟨a,w1,r,rfl,ha,ok,q,qe⟩:=h
 have nd:=sc__law_case.nd
 have hu:=hu_of hr
 have len:∀ u:List Nat,(ofL u).length=u.length:=fun u=>List.size_toArray ..
 refine ⟨_,(pss_cons (psn 1 nd (pe_dcall D__law_parsed hr (pa_cons (pxl K (pv 0) pe_int) pa_nil star_sub)))
   (pss_cons (ps_setComp (i:=2) ["_law_word"] [none] rfl (by kernel_rfl) nd rfl (by first | exact Or.inl rfl | exact Or.inr rfl) (gk_pi_list (K:=K) rfl (pe_slice sl_list (pv 0) (po_some pe_int) po_none)) (fun _ _ _ _=>(pgc 0)) (fun _ _ _ _=>pts_nil) (fun _ _ _ _=>(pe_dcall D__law_arm hr (v1 0))))
   (pss_cons (ps_if (PW.pt (pw_or (pt_cmpR op_isN (pv 1) pe_non (nomark _)) (pw_or (pt_cmpR (op_inN hu) pe_non (pv 2) (by with_unfolding_all rfl)) (pw_or (pt_cmpR op_eq (pe_callB (call_len_seqC (K:=K) rfl) rfl T.z_len PySem.boot_len (v1 2)) pe_int (nomark _)) (pw_or1 (pt_cmpR op_gt (pe_callB (call_len_seqC (K:=K) rfl) rfl T.z_len PySem.boot_len (v1 2)) pe_int (nomark _))))))) (pss_one (ps_ret pe_non)) pss_nil)
   (pss_one (ps_ret (pe_tup (pa_cons pe_str (va 1 (pa_cons (pe_callTy (gk_tuple_of (K:=K) rfl) rfl T.z_tuple PyProof.Rows.boot_tuple (v1 2)) pa_nil star_call)) star_const))))))),?_⟩
 have k1:=ok.2 w1 (by simp)
 have go:∀ (v1:V) (H1:Hp),Same H H1→Opt PT H1 v1 w1→∀ c,H1 c=none→∀ Q',(∀ D vs H2,Same H1 H2→H2 D=some (.lst vs)→All2 (Opt PA H2) vs r→Q' (.ref D) H2)→CompGo (Itl K c) [none] (gName 0) tYes (tCall (spArm m) [] E0 (tCons (tVar 0) tNil)) [some (.ref a),some v1,none] (upd H1 c (.lst (txs r))) Q':=fun v1 H1 s1 o1 c hc Q' q'=>by
  have sc:=Same.new hc (.lst (txs r))
  refine comp_list (j:=0) (xs:=txs r) (fun i ys H'=>Same (upd H1 c (.lst (txs r))) H'∧All2 (Opt PA H') ys (r.take i)) (by rfl) ⟨Same.refl _,by rw [List.take_zero]; exact .nil⟩ (fitsLt (by have:=ok.1; rw [List.length_cons] at this; rw [List.length_map]; omega)) (fun i ys H' _ p=>SqL.of (p.1 _ _ upd_same)) ?_ ?_
  ·rintro i x ys H' hx hly ⟨sm,al⟩
   rw [List.getElem?_map] at hx
   obtain ⟨w,hw,rfl⟩:=Option.map_eq_some_iff.mp hx
   have hi:i < (txs r).length:=by rw [List.length_map]; exact (List.getElem?_eq_some_iff.mp hw).1
   obtain ⟨l1,l2⟩:=ok.2 w (List.mem_cons_of_mem _ (List.mem_of_getElem? hw))
   have al':∀ {H2:Hp} {v:V},Same H' H2→Opt PA H2 v w→All2 (Opt PA H2) (ys++[v]) (r.take (i + 1)):=fun {H2 v} s2 o=>by
    rw [List.take_add_one,hw]
    exact (al.imp fun _ _ h=>h.same s2).append (.cons o .nil)
   refine ⟨_,rfl,ofL w,rfl,by rw [len]; exact l1,l2,fun d hd v2 H2 s2 r2=>nxt hi hly ⟨sm.trans s2,al' s2 (.inl ⟨d,hd,r2⟩)⟩,fun no H2 s2=>nxt hi hly ⟨sm.trans s2,al' s2 (.inr ⟨rfl,no⟩)⟩⟩
  ·rintro ys H' hly ⟨sm,al⟩ D hD
   rw [List.take_of_length_le (by rw [List.length_map]; exact Nat.le_refl _)] at al
   have sD:=Same.new hD (.lst ys)
   exact q' D ys _ (sc.trans (sm.trans sD)) upd_same (al.imp fun _ _ h=>h.same sD)
 have no:(¬ (∃ e,PT w1 e)∨¬ (∃ ds,All2 (fun e w=>PA w e) ds r)∨¬ (1 ≤ r.length∧r.length ≤ 4))→∀ H2,Same H H2→Q .non H2:=fun f=>qe fun ⟨d,h⟩=>by
  obtain ⟨_,_,e,arms,eq,he,l1,l4,har,_⟩:=nw_case.mp h
  cases eq
  have:=har.length
  rcases f with f | f | f
  ·exact f ⟨e,he⟩
  ·exact f ⟨arms,har⟩
  ·exact f (by omega)
 refine ⟨_,rfl,a,_,_,_,rfl,rfl,SqL.of ha,atI_nat (j:=1) rfl,ofL w1,rfl,by rw [len]; exact k1.1,k1.2,fun e he v1 H1 s1 r1=>?_,fun f H1 s1=>?_⟩
 ·refine ⟨_,rfl,_,rfl,a,_,rfl,SqL.of (s1 _ _ ha),fun c hc=>?_⟩
  rw [show cutV (txs (L (S "case") :: w1 :: r)) (some 2) none=txs r from cut2 _ _ _]
  refine ⟨c,rfl,⟨_,SqL.of upd_same⟩,go v1 H1 s1 (.inl ⟨e,he,r1⟩) c hc _ fun D vs H2 s2 hD al=>?_⟩
  obtain ⟨ds1,rfl⟩:=pt_tup he
  obtain ⟨va,rfl⟩:=relD_tup r1
  have s12:=s1.trans s2
  have al':=al.length
  have items:∀ v∈vs,v=.non∨∃ a ys,v=.ref a∧SqT K H2 a ys:=fun v hv=>by
   obtain ⟨i,hi⟩:=List.getElem?_of_mem hv
   obtain ⟨w,_,o⟩:=al.get hi
   rcases o with ⟨d,hd,rd⟩ | ⟨rfl,_⟩
   ·obtain ⟨es,rfl⟩:=pa_tup hd
    obtain ⟨b,ys,e,hb,_⟩:=rd
    exact .inr ⟨b,ys,e,SqT.of hb⟩
   ·exact .inl rfl
  refine ⟨_,rfl,rfl,_,rfl,iteKF (decide_eq_false (fun z=>by cases z)) ?_⟩
  refine ⟨_,rfl,D,vs,rfl,rfl,SqL.of hD,items,_,rfl,ite2 (fun y=>?_) (fun y=>?_)⟩
  ·refine iteT (no (.inr (.inl ?_)) H2 s12)
   rcases opts_all (fun w d h=>pa_tup h) al with ⟨_,h⟩ | ⟨h,_⟩
   ·exact h
   ·exact absurd (of_decide_eq_true y) h
  obtain ⟨ds,hds,rds⟩:∃ ds,All2 (fun e w=>PA w e) ds r∧RelDs H2 vs ds:=by
   rcases opts_all (fun w d h=>pa_tup h) al with ⟨h,_⟩ | ⟨_,h⟩
   ·exact absurd (decide_eq_true h) y
   ·exact h
  refine ⟨_,rfl,D,_,rfl,.inl (SqL.of hD),rfl,_,rfl,ite2 (fun y=>?_) (fun y=>?_)⟩
  ·refine iteT (no (.inr (.inr fun z=>?_)) H2 s12)
   have:=V.int.inj (of_decide_eq_true y)
   omega
  have l1:1 ≤ r.length:=by
   have:¬ vs.length=0:=fun z=>y (decide_eq_true (by rw [z]; rfl))
   omega
  refine ⟨_,rfl,D,_,rfl,.inl (SqL.of hD),_,_,rfl,rfl,_,rfl,ite2 (fun y=>?_) (fun y=>?_)⟩
  ·refine no (.inr (.inr fun z=>?_)) H2 s12
   have:=of_decide_eq_true y
   omega
  have l4:r.length ≤ 4:=by
   have:¬ (4 < vs.length):=fun z=>y (decide_eq_true (by omega))
   omega
  have ld:=hds.length
  refine ⟨_,rfl,_,rfl,D,vs,rfl,.inl ⟨SqL.of hD,fun t2 ht2=>⟨(by show 3 ≤ sizeLine; decide),fun l hl=>?_⟩⟩⟩
  have st:=Same.new ht2 (.tup vs)
  have sl:=Same.new hl (.tup [.str (S "case"),.ref va,.ref t2])
  exact q _ (nw_case.mpr ⟨w1,r,.tup ds1,ds,rfl,he,by omega,by omega,hds,rfl⟩) _ _ (s12.trans (st.trans sl)) ⟨l,_,rfl,upd_same,_,_,rfl,rfl,.ref va,_,rfl,r1.same (s2.trans (st.trans sl)) _,.ref t2,_,rfl,⟨t2,vs,rfl,sl _ _ upd_same,rds.same (st.trans sl) _⟩,rfl⟩
 ·refine ⟨_,rfl,_,rfl,a,_,rfl,SqL.of (s1 _ _ ha),fun c hc=>?_⟩
  rw [show cutV (txs (L (S "case") :: w1 :: r)) (some 2) none=txs r from cut2 _ _ _]
  refine ⟨c,rfl,⟨_,SqL.of upd_same⟩,go .non H1 s1 (.inr ⟨rfl,f⟩) c hc _ fun D vs H2 s2 hD al=>?_⟩
  refine ⟨_,rfl,rfl,_,rfl,iteKT (by decide +kernel) (iteT ?_)⟩
  exact no (.inl f) H2 (s1.trans s2)
end
end K3
end
section
set_option maxHeartbeats 400000
namespace M
open PySem L2
def nN (h:Str):Nat:=if h=S "rec" then 1 else if h=S "tag" then 2 else 0
def gN (h:Str):Nat:=if h=S "get" then 1 else 0
def swOf (h:Str) (r:List (List Nat)):List (List Nat):=(r.drop (nN h)).take (r.length - gN h - nN h)
theorem nN_le (h:Str):nN h ≤ 2:=by
 unfold nN
 split
 ·omega
 ·split <;> omega
theorem gN_le (h:Str):gN h ≤ 1:=by
 unfold gN
 split <;> omega
theorem nN_rec:nN (S "rec")=1:=by decide +kernel
theorem nN_tag:nN (S "tag")=2:=by decide +kernel
theorem nN_get:nN (S "get")=0:=by decide +kernel
theorem nN_if:nN (S "if")=0:=by decide +kernel
theorem gN_rec:gN (S "rec")=0:=by decide +kernel
theorem gN_tag:gN (S "tag")=0:=by decide +kernel
theorem gN_get:gN (S "get")=1:=by decide +kernel
theorem gN_if:gN (S "if")=0:=by decide +kernel
theorem ops_all:∀ s∈ops,nN s=0∧gN s=0∧s≠S "case"∧s≠S "rec"∧s≠S "get"∧s≠S "tag"∧s≠S "if":=by decide +kernel
theorem sw_rec {w:List Nat} {r:List (List Nat)}:swOf (S "rec") (w :: r)=r:=by
 unfold swOf
 rw [nN_rec,gN_rec]
 exact List.take_of_length_le (by simp)
theorem sw_tag {w1 w2 w3:List Nat}:swOf (S "tag") [w1,w2,w3]=[w3]:=by
 unfold swOf
 rw [nN_tag,gN_tag]
 rfl
theorem sw_get {w1 w2:List Nat}:swOf (S "get") [w1,w2]=[w1]:=by
 unfold swOf
 rw [nN_get,gN_get]
 rfl
theorem sw_if {r:List (List Nat)}:swOf (S "if") r=r:=by
 unfold swOf
 rw [nN_if,gN_if]
 exact List.take_of_length_le (by simp)
theorem sw_op {s:Str} (hs:s∈ops) {r:List (List Nat)}:swOf s r=r:=by
 unfold swOf
 rw [(ops_all s hs).1,(ops_all s hs).2.1]
 exact List.take_of_length_le (by simp)
theorem sw_mem {h:Str} {r:List (List Nat)} {w:List Nat} (m:w∈swOf h r):w∈r:=List.mem_of_mem_drop (List.mem_of_mem_take m)
theorem sw_len {h:Str} {r:List (List Nat)}:(swOf h r).length ≤ r.length:=by
 unfold swOf
 rw [List.length_take,List.length_drop]
 omega
theorem nw_needs {h:Str} {r:List (List Nat)} {d:D} (c:¬ (h=S "case"∧2 ≤ r.length)) (n:NW (L h :: r) d) :
  (∃ ds,All2 (fun e w=>PT w e) ds (swOf h r))∧(∀ w∈r.take (nN h),nameL w=true)∧nN h ≤ r.length:=by
 by_cases hr:h=S "rec"
 ·subst hr
  obtain ⟨t1,r',k,es,rfl,⟨rfl,hk⟩,hes,_⟩:=nw_rec.mp n
  rw [sw_rec,nN_rec]
  refine ⟨⟨es,hes⟩,fun w hw=>?_,by simp⟩
  obtain rfl:w=L k:=by simpa using hw
  exact hk
 by_cases hg:h=S "get"
 ·subst hg
  obtain ⟨t1,t2,a,f,rfl,ha,_,_⟩:=nw_get.mp n
  rw [sw_get,nN_get]
  exact ⟨⟨[a],.cons ha .nil⟩,fun w hw=>by simp at hw,by simp⟩
 by_cases ht:h=S "tag"
 ·subst ht
  obtain ⟨t1,t2,t3,k,g,a,rfl,⟨rfl,hk⟩,⟨rfl,hg⟩,ha,_⟩:=nw_tag.mp n
  rw [sw_tag,nN_tag]
  refine ⟨⟨[a],.cons ha .nil⟩,fun w hw=>?_,by simp⟩
  have:w=L k∨w=L g:=by simpa using hw
  rcases this with rfl | rfl
  ·exact hk
  ·exact hg
 by_cases hi:h=S "if"
 ·subst hi
  obtain ⟨t1,t2,t3,a,b,e,rfl,ha,hb,hc,_⟩:=nw_if.mp n
  rw [sw_if,nN_if]
  exact ⟨⟨[a,b,e],.cons ha (.cons hb (.cons hc .nil))⟩,fun w hw=>by simp at hw,by simp⟩
 by_cases ho:h∈ops
 ·obtain ⟨a,b,ta,tb,rfl,ha,hb,_⟩:=(nw_op ho).mp n
  rw [sw_op ho,(ops_all h ho).1]
  exact ⟨⟨[a,b],.cons ha (.cons hb .nil)⟩,fun w hw=>by simp at hw,by simp⟩
 by_cases hc:h=S "case"
 ·subst hc
  obtain ⟨t1,r',a,arms,rfl,_,l1,_,har,_⟩:=nw_case.mp n
  have:=har.length
  exact absurd ⟨rfl,by rw [List.length_cons]; omega⟩ c
 exact absurd n (nw_other ho hr hg ht hc hi)
theorem nw_one {h:Str} {r:List (List Nat)} {d:D} (n:NW (L h :: r) d) :
  h=S "rec"∨(h=S "get"∧r.length=2∧∃ w,r[1]?=some w∧nameL w=true)∨(h=S "tag"∧r.length=3)∨(h=S "if"∧r.length=3)∨(h∈ops∧r.length=2)∨(h=S "case"∧2 ≤ r.length):=by
 by_cases hr:h=S "rec"
 ·exact .inl hr
 by_cases hg:h=S "get"
 ·subst hg
  obtain ⟨t1,t2,a,f,rfl,ha,⟨rfl,hf⟩,_⟩:=nw_get.mp n
  exact .inr (.inl ⟨rfl,rfl,_,rfl,hf⟩)
 by_cases ht:h=S "tag"
 ·subst ht
  obtain ⟨t1,t2,t3,k,g,a,rfl,_⟩:=nw_tag.mp n
  exact .inr (.inr (.inl ⟨rfl,rfl⟩))
 by_cases hi:h=S "if"
 ·subst hi
  obtain ⟨t1,t2,t3,a,b,c,rfl,_⟩:=nw_if.mp n
  exact .inr (.inr (.inr (.inl ⟨rfl,rfl⟩)))
 by_cases ho:h∈ops
 ·obtain ⟨a,b,ta,tb,rfl,_⟩:=(nw_op ho).mp n
  exact .inr (.inr (.inr (.inr (.inl ⟨ho,rfl⟩))))
 by_cases hc:h=S "case"
 ·subst hc
  obtain ⟨t1,r',a,arms,rfl,_,l1,_,har,_⟩:=nw_case.mp n
  have:=har.length
  exact .inr (.inr (.inr (.inr (.inr ⟨rfl,by rw [List.length_cons]; omega⟩))))
 exact absurd n (nw_other ho hr hg ht hc hi)
theorem cut_mid (us:List V) (i j:Nat):cutV us (some (i:Int)) (some (j:Int))=(us.drop i).take (j - i):=by
 unfold cutV
 rw [HT.sIx_nat,HT.sIx_nat]
 by_cases h:i ≤ us.length
 ·rw [Nat.min_eq_left h]
  by_cases g:j ≤ us.length
  ·rw [Nat.min_eq_left g]
  ·rw [show min j us.length=us.length from by omega,List.take_of_length_le (by rw [List.length_drop]; omega),List.take_of_length_le (by rw [List.length_drop]; omega)]
 ·rw [show min i us.length=us.length from by omega,List.drop_eq_nil_of_le (Nat.le_refl _),List.drop_eq_nil_of_le (by omega)]
  simp
end M
end
section
set_option maxHeartbeats 1000000
namespace K3
open PySem L2 M
seal L2.PE L2.PA L2.PS L2.PSs L2.PT L2.PW L2.PI L2.PG L2.PJ L2.PTs
theorem nw_len {ws:List (List Nat)} {d:D} (h:NW ws d):2 ≤ ws.length:=by
 rcases h with ⟨_,_,_,_,_,_,_,_,_,rfl⟩ | ⟨_,_,_,_,_,_,rfl⟩ | ⟨_,_,_,_,_,_,rfl⟩ | ⟨_,_,_,_,_,_,_,_,rfl⟩ | ⟨_,_,_,_,_,_,_,_,_,rfl⟩ | ⟨_,_,_,_,_,_,_,_,_,_,rfl⟩ <;> simp
theorem words_len {s:List Nat} {ws:List (List Nat)} (h:wsp s 0=some ws):ws.length ≤ s.length + 1:=by
 have j:=(wsp_join _ _ _ h)
 rw [← j.2]
 have n:=j.1
 clear h j
 induction ws with
 | nil=>exact absurd rfl n
 | cons a r ih=>
  cases r with
  | nil=>simp
  | cons b r=>
   have:=ih (by simp)
   show _ ≤ (a++32 :: joinB (b :: r)).length + 1
   have e:(a++32 :: joinB (b :: r)).length=a.length + ((joinB (b :: r)).length + 1):=by rw [List.length_append,List.length_cons]
   rw [e,List.length_cons]
   omega
theorem seq_cut {t u:TS} {D:Ends} {σ:St} {H:Hp} (h:∀ R:St→Hp→Prop,(∀ σ H,u D σ H→R σ H)→t { D with nx:=R } σ H):tSeq t u D σ H:=h (u D) fun _ _ h=>h
theorem names_got (hs:Str):(valV (mergeK [] [((Sum.inr (S "rec"):Key),V.int 1),(Sum.inr (S "tag"),V.int 2)]) (Sum.inr hs)).getD (.int 0)=V.int (nN hs):=by
 have e:mergeK [] [((Sum.inr (S "rec"):Key),V.int 1),(Sum.inr (S "tag"),V.int 2)]=[(Sum.inr (S "rec"),V.int 1),(Sum.inr (S "tag"),V.int 2)]:=by
  have:¬ ((Sum.inr (S "rec"):Key)=Sum.inr (S "tag")):=by decide +kernel
  unfold mergeK
  simp [putK,this]
 rw [e]
 unfold nN
 by_cases h1:hs=S "rec"
 ·subst h1
  rw [valV_pos rfl,if_pos rfl]
  rfl
 ·rw [valV_neg (fun z=>h1 (Sum.inr.inj z).symm),if_neg h1]
  by_cases h2:hs=S "tag"
  ·subst h2
   rw [valV_pos rfl,if_pos rfl]
   rfl
  ·rw [valV_neg (fun z=>h2 (Sum.inr.inj z).symm),if_neg h2]
   rfl
theorem cut_sw (hs:Str) (r:List (List Nat)):cutV (txs (L hs :: r)) (some (1 + ↑(nN hs))) (some (↑(txs (L hs :: r)).length - if decide (V.str hs=V.str (Str.ofString "get"))=true then 1 else 0))=txs (swOf hs r):=by
 have g:(if decide (V.str hs=V.str (Str.ofString "get"))=true then (1:Int) else 0)=(gN hs:Int):=by
  unfold gN
  by_cases h:hs=S "get"
  ·rw [if_pos h,if_pos (decide_eq_true (by rw [h]; rfl))]
   rfl
  ·have h':¬ (decide (V.str hs=V.str (Str.ofString "get"))=true):=fun z=>h (V.str.inj (of_decide_eq_true z))
   rw [if_neg h,if_neg h']
   rfl
 have g1:=gN_le hs
 rw [g,show (1:Int) + ↑(nN hs)=((nN hs + 1:Nat):Int) from by omega,show (↑(txs (L hs :: r)).length - ↑(gN hs):Int)=((r.length + 1 - gN hs:Nat):Int) from by rw [List.length_map,List.length_cons]; omega,cut_mid]
 unfold swOf
 show List.take _ (List.drop (nN hs) (txs r))=_
 unfold txs
 rw [List.map_take,List.map_drop]
 congr 1
 omega
theorem cut_nm (hs:Str) (r:List (List Nat)):cutV (txs (L hs :: r)) (some 1) (some (1 + ↑(nN hs)))=txs (r.take (nN hs)):=by
 rw [show (1:Int) + ↑(nN hs)=((nN hs + 1:Nat):Int) from by omega,show (1:Int)=((1:Nat):Int) from rfl,cut_mid]
 show List.take (nN hs + 1 - 1) (txs r)=_
 unfold txs
 rw [List.map_take]
 rfl
theorem two_of {r:List (List Nat)} (h:r.length=2):∃ a b,r=[a,b]:=by
 match r,h with
 | [a,b],_=>exact ⟨a,b,rfl⟩
theorem three_of {r:List (List Nat)} (h:r.length=3):∃ a b c,r=[a,b,c]:=by
 match r,h with
 | [a,b,c],_=>exact ⟨a,b,c,rfl⟩
section
variable {P:Program} {w:World} {K:PySem.W.Frag} {mg:Str→Option Value} {base:Heap} {n m:Nat}
theorem ok__law_parsed (T:Tx K mg) (D__law_words_of:DefIs P w K mg base n "_law_words_of" ["_law_text_here"] spWords1) (D__law_is_name:DefIs P w K mg base n "_law_is_name" ["_law_text_here"] spIsNm) (D__law_is_figures:DefIs P w K mg base n "_law_is_figures" ["_law_text_here"] spIsFg)
  (D__law_case:DefIs P w K mg base n "_law_case" ["_law_words"] (spCase m)) (D__law_parsed:DefIs P w K mg base n "_law_parsed" ["_law_text_here"] (spParsed m)) :
  DefIs P w K mg base (n + 1) "_law_parsed" ["_law_text_here"] (spParsed (m + 1)):=by
 refine DefIs.of T.d__law_parsed sc__law_parsed (fun vs H Q E h=>?_) (fun f cdv A outer s H vs Q E hr h=>?_)
 ·obtain ⟨_,rfl,_⟩:=h
  rfl
 obtain ⟨x,rfl,hl,hd,q,qe⟩:=h
 have nd:=sc__law_parsed.nd
 have hu:=hu_of hr
 have hz:x.length ≤ sizeLine:=fits (by omega)
 have len:∀ u:List Nat,(ofL u).length=u.length:=fun u=>List.size_toArray ..
 refine ⟨_,(pss_cons (ps_if (pt_val (pe_dcall D__law_is_figures hr (v1 0))) (pss_one (ps_ret (pe_tup (pa_cons pe_str (pa_cons (pe_callTy call_int_str rfl T.z_int PyProof.Rows.boot_int (v1 0)) pa_nil star_call) star_const)))) pss_nil)
   (pss_cons (ps_if (pt_val (pe_dcall D__law_is_name hr (v1 0))) (pss_one (ps_ret (pe_tup (pa_cons pe_str (v1 0) star_const)))) pss_nil)
   (pss_cons (psn 1 nd (pe_dcall D__law_words_of hr (pa_cons (pe_slice sl_str (pv 0) (po_some pe_int) (po_some (pe_un un_neg pe_int))) pa_nil star_sub)))
   (pss_cons (ps_if (PW.pt (pw_or (pt_cmpR op_ne (pe_slice sl_str (pv 0) po_none (po_some pe_int)) pe_str (nomark _)) (pw_or (pt_cmpR op_ne (pe_slice sl_str (pv 0) (po_some (pe_un un_neg pe_int)) po_none) pe_str (nomark _)) (pw_or1 (pt_cmpR op_lt (pe_callB (call_len_seqC (K:=K) rfl) rfl T.z_len PySem.boot_len (v1 1)) pe_int (nomark _)))))) (pss_one (ps_ret pe_non)) pss_nil)
   (pss_cons (psn 2 nd (pxl K (pv 1) pe_int))
   (pss_cons (ps_if (PW.pt (pw_and (pt_cmpR op_eq (pv 2) pe_str (nomark _)) (pw_and1 (pt_cmpR op_gt (pe_callB (call_len_seqC (K:=K) rfl) rfl T.z_len PySem.boot_len (v1 1)) pe_int (nomark _))))) (pss_one (ps_ret (pe_dcall D__law_case hr (v1 1)))) pss_nil)
   (pss_cons (psn 3 nd (pe_dget2 hu (pe_disp (pps_cons pe_str pe_int (pps_cons pe_str pe_int pps_nil)) rfl rfl (fun z=>by cases z) (by decide)) (pv 2) pe_int ⟨rfl,rfl,rfl,rfl⟩))
   (pss_cons (ps_setComp (i:=4) ["_law_one"] [none] rfl (by kernel_rfl) nd rfl (by first | exact Or.inl rfl | exact Or.inr rfl) (gk_pi_list (K:=K) rfl (pe_slice sl_list (pv 1) (po_some (pe_op op_add pe_int (pv 3))) (po_some (pe_op op_sub (pe_callB (call_len_seqC (K:=K) rfl) rfl T.z_len PySem.boot_len (v1 1)) (pe_callTy call_int1 rfl T.z_int PyProof.Rows.boot_int (pa_cons (pe_cmpR op_eq (pv 2) pe_str (nomark _)) pa_nil star_cmp)))))) (fun _ _ _ _=>(pgc 0)) (fun _ _ _ _=>pts_nil) (fun _ _ _ _=>(pe_dcall D__law_parsed hr (v1 0))))
   (pss_cons (ps_if (PW.pt (pw_or (pt_cmpR (op_inN hu) pe_non (pv 4) (by with_unfolding_all rfl)) (pw_or (pt_cmpR (op_neE (Nat.lt_of_succ_lt hu)) (pe_comp ["_law_one"] [none] rfl (by kernel_rfl) (gk_pi_list (K:=K) rfl (pe_slice sl_list (pv 1) (po_some pe_int) (po_some (pe_op op_add pe_int (pv 3))))) (fun _ _ _ _=>(pgc 0)) (fun _ _ _ _=>(pts_one (pt_not (pt_val (pe_dcall D__law_is_name hr (v1 0)))))) (fun _ _ _ _=>(pv 0))) (pe_lst pa_nil) (nomark _)) (pw_or1 (pt_cmpR op_lt (pe_callB (call_len_seqC (K:=K) rfl) rfl T.z_len PySem.boot_len (v1 1)) (pe_op op_add pe_int (pv 3)) (nomark _)))))) (pss_one (ps_ret pe_non)) pss_nil)
   (pss_cons (ps_if (pt_cmpR op_eq (pv 2) pe_str (nomark _)) (pss_one (ps_ret (pe_tup (pa_cons pe_str (pa_cons (pxl K (pv 1) pe_int) (pa_cons (pe_callTy (gk_tuple_of (K:=K) rfl) rfl T.z_tuple PyProof.Rows.boot_tuple (v1 4)) pa_nil star_call) star_sub) star_const)))) pss_nil)
   (pss_cons (ps_if (PW.pt (pw_and (pt_cmpR op_eq (pv 2) pe_str (nomark _)) (pw_and (pt_cmpR op_eq (pe_callB (call_len_seqC (K:=K) rfl) rfl T.z_len PySem.boot_len (v1 1)) pe_int (nomark _)) (pw_and1 (pt_val (pe_dcall D__law_is_name hr (pa_cons (pxl K (pv 1) pe_int) pa_nil star_sub))))))) (pss_one (ps_ret (pe_tup (pa_cons pe_str (pa_cons (pxl K (pv 4) pe_int) (pa_cons (pxl K (pv 1) pe_int) pa_nil star_sub) star_sub) star_const)))) pss_nil)
   (pss_cons (ps_if (PW.pt (pw_and (pt_cmpR op_eq (pv 2) pe_str (nomark _)) (pw_and1 (pt_cmpR op_eq (pe_callB (call_len_seqC (K:=K) rfl) rfl T.z_len PySem.boot_len (v1 1)) pe_int (nomark _))))) (pss_one (ps_ret (pe_tup (pa_cons pe_str (pa_cons (pxl K (pv 1) pe_int) (pa_cons (pxl K (pv 1) pe_int) (pa_cons (pxl K (pv 4) pe_int) pa_nil star_sub) star_sub) star_sub) star_const)))) pss_nil)
   (pss_cons (ps_if (PW.pt (pw_and (pt_cmpR op_eq (pv 2) pe_str (nomark _)) (pw_and1 (pt_cmpR op_eq (pe_callB (call_len_seqC (K:=K) rfl) rfl T.z_len PySem.boot_len (v1 1)) pe_int (nomark _))))) (pss_one (ps_ret (pe_tup (pa_cons pe_str (pa_cons (pxl K (pv 4) pe_int) (pa_cons (pxl K (pv 4) pe_int) (pa_cons (pxl K (pv 4) pe_int) pa_nil star_sub) star_sub) star_sub) star_const)))) pss_nil)
   (pss_cons (ps_if (PW.pt (pw_and (pt_cmpR (gk_in (K:=K) rfl) (pv 2) (pe_lst (pa_strs [Str.ofString "+",Str.ofString "-",Str.ofString "*",Str.ofString "<",Str.ofString "="] rfl)) (by with_unfolding_all rfl)) (pw_and1 (pt_cmpR op_eq (pe_callB (call_len_seqC (K:=K) rfl) rfl T.z_len PySem.boot_len (v1 1)) pe_int (nomark _))))) (pss_one (ps_ret (pe_tup (pa_cons pe_str (va 2 (pa_cons (pxl K (pv 4) pe_int) (pa_cons (pxl K (pv 4) pe_int) pa_nil star_sub) star_sub)) star_const)))) pss_nil)
   (pss_one (ps_ret pe_non)))))))))))))))),seq_cut fun R1 hR1=>?_⟩
 refine ⟨_,rfl,x,rfl,hl,fun H1 s1=>⟨_,rfl,ite2 (fun c=>?_) (fun c=>?_)⟩⟩
 ·obtain ⟨i,i0,i1,hi,he⟩:=num_told c
  rw [ofL_L] at hi
  obtain rfl:numS i=x:=L_inj he
  have hn:=num_len i0 i1
  have hl:(numS i).length ≤ 10:=by rw [← L_length]; exact hn
  refine ⟨_,rfl,_,i,rfl,hi,by omega,(by show 2 ≤ sizeLine; decide),fun l hl'=>?_⟩
  exact q _ ⟨0,tx (numS i),.inl ⟨i,i0,i1,rfl,rfl⟩,rfl⟩ _ _ (s1.trans (Same.new hl' _)) ⟨l,_,rfl,upd_same,_,_,rfl,rfl,_,_,rfl,rfl,rfl⟩
 have nn:numL (L x)=false:=by simpa using c
 refine hR1 _ _ (seq_cut fun R2 hR2=>?_)
 refine ⟨_,rfl,x,rfl,hl,fun H2 s2=>⟨_,rfl,ite2 (fun c=>?_) (fun c=>?_)⟩⟩
 ·refine ⟨_,rfl,(by show 2 ≤ sizeLine; decide),fun l hl'=>?_⟩
  exact q _ ⟨0,tx x,.inr ⟨x,c,rfl,rfl⟩,rfl⟩ _ _ (s1.trans (s2.trans (Same.new hl' _))) ⟨l,_,rfl,upd_same,_,_,rfl,rfl,_,_,rfl,rfl,rfl⟩
 have nb:nameL (L x)=false:=by simpa using c
 have hml:(Txt.slice x (some 1) (some (-1))).length ≤ 3000000:=Nat.le_trans (Txt.slice_le x _ _) hl
 refine hR2 _ _ (seq_cut fun R3 hR3=>?_)
 refine ⟨_,rfl,_,rfl,_,rfl,_,rfl,x,rfl,hz,Txt.slice x (some 1) (some (-1)),rfl,hml,fun a H3 s3 ha=>hR3 _ _ (seq_cut fun R4 hR4=>?_)⟩
 clear hR1 hR2 hR3 R1 R2 R3
 have s13:=s1.trans (s2.trans s3)
 generalize hws:(wsp (L (Txt.slice x (some 1) (some (-1)))) 0).getD [[]]=ws at ha
 have hS:SqL K H3 a (txs ws):=SqL.of ha
 have no:(¬ ∃ d,PT (L x) d)→∀ H4,Same H3 H4→Q .non H4:=fun h H4 s4=>qe h H4 (s13.trans s4)
 have op:Str.ofString "("=⟨#[40]⟩:=by decide +kernel
 have cl:Str.ofString ")"=⟨#[41]⟩:=by decide +kernel
 have nt:∀ {y z:Str},¬ ((!(decide (V.str y=V.str z)))=true)→y=z:=fun {y z} h=>by
  have:decide (V.str y=V.str z)=true:=by simpa using h
  exact V.str.inj (of_decide_eq_true this)
 have tr:∀ {y z:Str},(!(decide (V.str y=V.str z)))=true→y≠z:=fun {y z} h e=>by
  rw [decide_eq_true (congrArg V.str e)] at h; cases h
 have shape:∀ d,PT (L x) d→Txt.slice x none (some 1)=⟨#[40]⟩∧Txt.slice x (some (-1)) none=⟨#[41]⟩:=fun d h=>(in_brackets x).mpr (by
  rcases pt_shape h with ⟨t,hl,e⟩ | h
  ·rcases hl with ⟨i,i0,i1,_,rfl⟩ | ⟨y,hy,_,rfl⟩
   ·have:=num_number i0 i1
    rw [show L (numS i)=L x from e,nn] at this; cases this
   ·have hy:nameL (L y)=true:=hy
    rw [show L y=L x from e,nb] at hy; cases hy
  ·exact h)
 refine ⟨_,rfl,_,rfl,x,rfl,hz,rfl,_,rfl,ite2 (fun c=>?_) (fun c=>?_)⟩
 ·exact iteT (no (fun ⟨d,h⟩=>tr c (by rw [op]; exact (shape d h).1)) _ (Same.refl _))
 have c1:=nt c
 refine ⟨_,rfl,_,rfl,_,rfl,x,rfl,hz,rfl,_,rfl,ite2 (fun c=>?_) (fun c=>?_)⟩
 ·exact iteT (no (fun ⟨d,h⟩=>tr c (by rw [cl]; exact (shape d h).2)) _ (Same.refl _))
 have c2:=nt c
 rw [op] at c1
 rw [cl] at c2
 obtain ⟨mid,hx⟩:=(in_brackets x).mp ⟨c1,c2⟩
 rw [mid_of_brackets hx] at hws
 rw [hx] at no q hd
 clear shape qe nn nb
 have nw:∀ d,PT (40 :: mid++[41]) d→wsp mid 0=some ws∧NW ws d:=fun d h=>by
  obtain ⟨us,hu,h⟩:=pt_node.mp h
  rw [hu] at hws
  cases hws
  exact ⟨hu,h⟩
 refine ⟨_,rfl,a,_,rfl,.inl hS,_,_,rfl,rfl,_,rfl,ite2 (fun c=>?_) (fun c=>?_)⟩
 ·refine no (fun ⟨d,h⟩=>?_) _ (Same.refl _)
  have l2:=nw_len (nw d h).2
  have:=of_decide_eq_true c
  rw [List.length_map] at this
  omega
 have l2:2 ≤ ws.length:=by
  have:¬ ((ws.length:Int) < 2):=fun z=>c (decide_eq_true (by rw [List.length_map]; exact z))
  omega
 refine hR4 _ _ (seq_cut fun R5 hR5=>?_)
 clear hR4 R4
 have hw:wsp mid 0=some ws:=by
  cases e:wsp mid 0 with
  | none=>rw [e] at hws; rw [← hws] at l2; simp at l2
  | some us=>rw [e] at hws; exact congrArg some hws
 have xl:mid.length + 2=x.length:=by rw [← L_length x,hx]; simp
 have wl:=word_len hw
 have wn:=words_len hw
 have wok:WOk m ws:=⟨by omega,fun w h=>⟨by have:=wl w h; omega,by have:=dm_word hw h; omega⟩⟩
 have q':∀ d,NW ws d→∀ v H',Same H3 H'→RelD H' v d→Q v H':=fun d h v H' s r=>q d (pt_node.mpr ⟨ws,hw,h⟩) v H' (s13.trans s) r
 have no':(¬ ∃ d,NW ws d)→∀ H4,Same H3 H4→Q .non H4:=fun f=>no fun ⟨d,h⟩=>f ⟨d,(nw d h).2⟩
 clear nw no q hws
 obtain ⟨hs,r,rfl⟩:∃ (hs:Str) (r:List (List Nat)),ws=L hs :: r:=by
  cases ws with
  | nil=>simp at l2
  | cons w0 r=>exact ⟨ofL w0,r,rfl⟩
 have at0:atI (txs (L hs :: r)) ((0:Nat):Int)=some (V.str hs):=(txs_get (i:=0) rfl).trans (by rw [ofL_L])
 refine ⟨_,rfl,a,_,_,_,rfl,rfl,hS,at0,hR5 _ _ (seq_cut fun R6 hR6=>?_)⟩
 clear hR5 R5
 have key:¬ (hs=S "case"∧2 ≤ r.length)→R6 [some (.str x),some (.ref a),some (.str hs),none,none] H3:=by
  intro nc
  refine hR6 _ _ (seq_cut fun R7 hR7=>?_)
  refine fun p hp=>⟨upd_same,[(Sum.inr (S "rec"),.int 1),(Sum.inr (S "tag"),.int 2)],rfl,by decide,p,rfl,.inl ⟨_,.inl upd_same⟩,_,rfl,_,DGet.k (k:=Sum.inr hs) upd_same,?_⟩
  rw [names_got]
  have sp:Same H3 (upd (upd H3 p (.dK [])) p (.dK (mergeK [] [((Sum.inr (S "rec"):Key),V.int 1),(Sum.inr (S "tag"),V.int 2)]))):=fun b o z=>by
   have nb:b≠p:=fun e=>by rw [e,hp] at z; cases z
   rw [upd_ne nb,upd_ne nb]
   exact z
  generalize upd (upd H3 p (.dK [])) p (.dK (mergeK [] [((Sum.inr (S "rec"):Key),V.int 1),(Sum.inr (S "tag"),V.int 2)]))=H4 at sp ⊢
  refine hR7 _ _ (seq_cut fun R8 hR8=>?_)
  clear hR6 hR7 R6 R7
  have s34:=sp
  have ha4:=s34 _ _ ha
  refine ⟨_,rfl,_,rfl,_,_,rfl,rfl,_,rfl,_,rfl,a,_,rfl,.inl (SqL.of ha4),_,rfl,rfl,.inr ⟨_,rfl,_,_,rfl,rfl,_,rfl,a,_,rfl,SqL.of ha4,fun c hc=>?_⟩⟩
  rw [cut_sw]
  have hsl:(swOf hs r).length ≤ r.length:=sw_len
  have rl:r.length + 1 ≤ 3000000:=wok.1
  refine ⟨c,rfl,⟨_,SqL.of upd_same⟩,?_⟩
  have sc:=Same.new hc (.lst (txs (swOf hs r)))
  refine comp_list (j:=0) (xs:=txs (swOf hs r)) (fun i ys H'=>Same (upd H4 c (.lst (txs (swOf hs r)))) H'∧All2 (Opt PT H') ys ((swOf hs r).take i)) (by rfl) ⟨Same.refl _,by rw [List.take_zero]; exact .nil⟩ (fitsLt (by rw [List.length_map]; omega)) (fun i ys H' _ p=>SqL.of (p.1 _ _ upd_same)) ?_ ?_
  ·rintro i x ys H' hx hly ⟨sm,al⟩
   rw [List.getElem?_map] at hx
   obtain ⟨w,hw,rfl⟩:=Option.map_eq_some_iff.mp hx
   have hi:i < (txs (swOf hs r)).length:=by rw [List.length_map]; exact (List.getElem?_eq_some_iff.mp hw).1
   obtain ⟨l1,l2⟩:=wok.2 w (List.mem_cons_of_mem _ (sw_mem (List.mem_of_getElem? hw)))
   have al':∀ {H2:Hp} {v:V},Same H' H2→Opt PT H2 v w→All2 (Opt PT H2) (ys++[v]) ((swOf hs r).take (i + 1)):=fun {H2 v} s2 o=>by
    rw [List.take_add_one,hw]
    exact (al.imp fun _ _ h=>h.same s2).append (.cons o .nil)
   refine ⟨_,rfl,ofL w,rfl,by rw [len]; exact l1,l2,fun d hd v2 H2 s2 r2=>nxt hi hly ⟨sm.trans s2,al' s2 (.inl ⟨d,hd,r2⟩)⟩,fun no H2 s2=>nxt hi hly ⟨sm.trans s2,al' s2 (.inr ⟨rfl,no⟩)⟩⟩
  rintro ys H' hly ⟨sm,al⟩ D hD
  rw [List.take_of_length_le (by rw [List.length_map]; exact Nat.le_refl _)] at al
  have sD:=Same.new hD (.lst ys)
  have s35:=s34.trans (sc.trans (sm.trans sD))
  have al5:All2 (Opt PT (upd H' D (.lst ys))) ys (swOf hs r):=al.imp fun _ _ h=>h.same sD
  have hD5:(upd H' D (.lst ys)) D=some (.lst ys):=upd_same
  generalize upd H' D (.lst ys)=H5 at s35 al5 hD5 ⊢
  refine hR8 _ _ (seq_cut fun R9 hR9=>?_)
  clear hR8 R8 al sD sm sc hD hc ha4 s34 sp hp
  have ha5:=s35 _ _ ha
  have items:∀ v∈ys,v=.non∨∃ a zs,v=.ref a∧SqT K H5 a zs:=fun v hv=>by
   obtain ⟨i,hi⟩:=List.getElem?_of_mem hv
   obtain ⟨w,_,o⟩:=al5.get hi
   rcases o with ⟨d,hd,rd⟩ | ⟨rfl,_⟩
   ·obtain ⟨es,rfl⟩:=pt_tup hd
    obtain ⟨b,zs,e,hb,_⟩:=rd
    exact .inr ⟨b,zs,e,SqT.of hb⟩
   ·exact .inl rfl
  have fail:((¬ ∃ ds,All2 (fun e w=>PT w e) ds (swOf hs r))∨(∃ w∈r.take (nN hs),nameL w=false)∨¬ nN hs ≤ r.length)→∀ H6,Same H5 H6→Q .non H6:=fun f H6 s6=>no' (fun ⟨d,h⟩=>by
   obtain ⟨h1,h2,h3⟩:=nw_needs nc h
   rcases f with f | ⟨w,hw,hf⟩ | f
   ·exact f h1
   ·rw [h2 w hw] at hf; cases hf
   ·exact f h3) H6 (s35.trans s6)
  refine ⟨_,rfl,D,ys,rfl,rfl,SqL.of hD5,items,_,rfl,ite2 (fun y=>?_) (fun y=>?_)⟩
  ·refine iteT (fail (.inl ?_) H5 (Same.refl _))
   rcases opts_all (fun w d h=>pt_tup h) al5 with ⟨_,h⟩ | ⟨h,_⟩
   ·exact h
   ·exact absurd (of_decide_eq_true y) h
  obtain ⟨ds,hds,rds⟩:∃ ds,All2 (fun e w=>PT w e) ds (swOf hs r)∧RelDs H5 ys ds:=by
   rcases opts_all (fun w d h=>pt_tup h) al5 with ⟨h,_⟩ | ⟨_,h⟩
   ·exact absurd (decide_eq_true h) y
   ·exact h
  refine ⟨_,rfl,_,rfl,_,rfl,_,_,rfl,rfl,_,rfl,a,_,rfl,SqL.of ha5,fun c hc=>?_⟩
  rw [cut_nm]
  have sc:=Same.new hc (.lst (txs (r.take (nN hs))))
  refine ⟨c,rfl,⟨_,SqL.of upd_same⟩,?_⟩
  have tl:(txs (r.take (nN hs))).length ≤ 2:=by have:=nN_le hs; rw [List.length_map,List.length_take]; omega
  refine comp_listG (xs:=txs (r.take (nN hs))) (fun i zs H'=>Same (upd H5 c (.lst (txs (r.take (nN hs))))) H'∧(zs=[] ↔ ∀ w∈(r.take (nN hs)).take i,nameL w=true)) ⟨Same.refl _,by simp⟩ (fitsLt (by omega)) (fun i ys H' _ p=>SqL.of (p.1 _ _ upd_same)) ?_ ?_
  ·rintro i x zs H' hx hi hly ⟨sm,iff⟩
   rw [List.getElem?_map] at hx
   obtain ⟨w,hw,rfl⟩:=Option.map_eq_some_iff.mp hx
   obtain ⟨l1,l2⟩:=wok.2 w (List.mem_cons_of_mem _ (List.mem_of_mem_take (List.mem_of_getElem? hw)))
   refine ⟨ext_set rfl,?_⟩
   refine ⟨_,rfl,ofL w,rfl,by rw [len]; exact l1,fun H2 s2=>?_⟩
   have tk:(r.take (nN hs)).take (i + 1)=(r.take (nN hs)).take i++[w]:=by rw [List.take_add_one,hw]; rfl
   refine ⟨_,rfl,ite2 (fun c=>?_) (fun c=>?_)⟩
   ·have nw:nameL w=false:=by simpa [L_ofL] using c
    exact ⟨_,rfl,nxtG hi hly ⟨sm.trans s2,fun z=>absurd z (by simp),fun z=>by rw [z w (by rw [tk]; simp)] at nw; cases nw⟩⟩
   ·have nw:nameL w=true:=by simpa [L_ofL] using c
    refine nxtN hi hly ⟨sm.trans s2,?_⟩
    rw [tk,iff]
    refine ⟨fun h v hv=>?_,fun h v hv=>h v (List.mem_append_left _ hv)⟩
    rcases List.mem_append.mp hv with hv | hv
    ·exact h v hv
    ·rw [List.mem_singleton.mp hv]; exact nw
  rintro zs H' hly ⟨sm,iff⟩ D2 hD2
  rw [List.take_of_length_le (by rw [List.length_map]; exact Nat.le_refl _)] at iff
  have sD2:=Same.new hD2 (.lst zs)
  have s56:=sc.trans (sm.trans sD2)
  refine ⟨(by show 0 ≤ sizeLine; decide),fun e he=>?_⟩
  have se:=Same.new he (.lst [])
  refine ⟨D2,e,zs,rfl,rfl,SqL.of (se _ _ upd_same),SqL.of upd_same,_,rfl,ite2 (fun c=>?_) (fun c=>?_)⟩
  ·refine iteT (fail (.inr (.inl ?_)) _ (s56.trans se))
   have:¬ zs=[]:=fun z=>by rw [z] at c; cases c
   have:=mt iff.mpr this
   simpa using this
  have nms:∀ w∈r.take (nN hs),nameL w=true:=iff.mp (by simpa using c)
  have s6:=s56.trans se
  generalize upd (upd H' D2 (.lst zs)) e (.lst [])=H6 at s6 ⊢
  clear se he sD2 hD2 sm iff sc hc s56
  have ha6:=s6 _ _ ha5
  refine ⟨_,rfl,a,_,rfl,.inl (SqL.of ha6),_,rfl,_,_,rfl,rfl,_,_,rfl,rfl,_,rfl,ite2 (fun c=>?_) (fun c=>?_)⟩
  ·refine fail (.inr (.inr ?_)) _ s6
   have:=of_decide_eq_true c
   rw [List.length_map,List.length_cons] at this
   omega
  have nl:nN hs ≤ r.length:=by
   have:¬ (((txs (L hs :: r)).length:Int) < 1 + (nN hs:Int)):=fun z=>c (decide_eq_true z)
   rw [List.length_map,List.length_cons] at this
   omega
  refine hR9 _ _ (seq_cut fun R10 hR10=>?_)
  clear hR9 R9 fail items
  have hD6:=s6 _ _ hD5
  have rds6:=rds.same s6 _
  have s36:=s35.trans s6
  have yl:=al5.length
  have dl:=hds.length
  have vd:∀ (j:Nat) (v:V),ys[j]?=some v→∃ d,ds[j]?=some d∧RelD H6 v d:=fun j v h=>rds6.get h
  have three':∀ {n:Nat},¬ (decide (V.int ((txs (L hs :: r)).length:Int)=V.int ((n + 1:Nat):Int))=true)→¬ r.length=n:=fun {n} c z=>c (decide_eq_true (by rw [List.length_map,List.length_cons,z]))
  have three2:∀ {n:Nat},decide (V.int ((txs (L hs :: r)).length:Int)=V.int ((n + 1:Nat):Int))=true→r.length=n:=fun {n} c=>by
   have:=V.int.inj (of_decide_eq_true c)
   rw [List.length_map,List.length_cons] at this
   omega
  refine ⟨_,rfl,rfl,_,rfl,ite2 (fun c=>?_) (fun c=>?_)⟩
  ·obtain rfl:hs=S "rec":=V.str.inj (of_decide_eq_true c)
   rw [nN_rec] at nl nms
   obtain ⟨w1,r1,rfl⟩:∃ w1 r1,r=w1 :: r1:=by
    cases r with
    | nil=>simp at nl
    | cons w1 r1=>exact ⟨w1,r1,rfl⟩
   rw [sw_rec] at hds
   refine ⟨_,rfl,a,_,_,_,rfl,rfl,SqL.of ha6,txs_get (i:=1) rfl,_,rfl,D,ys,rfl,.inl ⟨SqL.of hD6,fun t2 ht2=>⟨(by show 3 ≤ sizeLine; decide),fun l hl=>?_⟩⟩⟩
   have st:=Same.new ht2 (.tup ys)
   have sl:=Same.new hl (.tup [.str (S "rec"),.str (ofL w1),.ref t2])
   exact q' _ (nw_rec.mpr ⟨w1,r1,ofL w1,ds,rfl,⟨rfl,nms w1 (by simp)⟩,hds,rfl⟩) _ _ (s36.trans (st.trans sl)) ⟨l,_,rfl,upd_same,_,_,rfl,rfl,_,_,rfl,rfl,.ref t2,_,rfl,⟨t2,ys,rfl,sl _ _ upd_same,rds6.same (st.trans sl) _⟩,rfl⟩
  have f1:hs≠S "rec":=fun z=>c (decide_eq_true (by rw [z]; rfl))
  refine hR10 _ _ (seq_cut fun R11 hR11=>?_)
  clear hR10 R10 c
  have key2:∀ H7,Same H6 H7→¬ (hs=S "get"∧r.length=2∧∃ w,r[1]?=some w∧nameL w=true)→R11 [some (.str x),some (.ref a),some (.str hs),some (.int (nN hs)),some (.ref D)] H7:=by
   intro H7 s7 f2
   refine hR11 _ _ (seq_cut fun R12 hR12=>?_)
   clear hR11 R11
   have ha7:=s7 _ _ ha6
   have hD7:=s7 _ _ hD6
   have s37:=s36.trans s7
   have key3:¬ (hs=S "tag"∧r.length=3)→R12 [some (.str x),some (.ref a),some (.str hs),some (.int (nN hs)),some (.ref D)] H7:=by
    intro f3
    refine hR12 _ _ (seq_cut fun R13 hR13=>?_)
    clear hR12 R12
    have key4:¬ (hs=S "if"∧r.length=3)→R13 [some (.str x),some (.ref a),some (.str hs),some (.int (nN hs)),some (.ref D)] H7:=by
     intro f4
     refine hR13 _ _ (seq_cut fun R14 hR14=>?_)
     clear hR13 R13
     have last:∀ H8,Same H7 H8→¬ (hs∈ops∧r.length=2)→R14 [some (.str x),some (.ref a),some (.str hs),some (.int (nN hs)),some (.ref D)] H8:=fun H8 s8 f5=>hR14 _ _ (no' (fun ⟨d,h⟩=>by
      rcases nw_one h with h | h | h | h | h | h
      ·exact f1 h
      ·exact f2 h
      ·exact f3 h
      ·exact f4 h
      ·exact f5 h
      ·exact nc h) H8 (s37.trans s8))
     refine ⟨_,rfl,(by show 5 ≤ sizeLine; decide),fun l hl=>?_⟩
     have sl:=Same.new hl (.lst [.str (Str.ofString "+"),.str (Str.ofString "-"),.str (Str.ofString "*"),.str (Str.ofString "<"),.str (Str.ofString "=")])
     refine ⟨l,_,rfl,.inl (SqL.of upd_same),rfl,rfl,_,rfl,?_⟩
     refine ite2 (fun c=>?_) (fun c=>?_)
     ·have ho:hs∈ops:=of_decide_eq_true ((opsV_is hs).symm.trans c)
      refine ⟨_,rfl,a,_,rfl,.inl (SqL.of (sl _ _ ha7)),rfl,_,rfl,ite2 (fun c=>?_) (fun c=>?_)⟩
      ·obtain ⟨ta,tb,rfl⟩:=two_of (three2 (n:=2) c)
       rw [sw_op ho] at hds
       cases hds with
       | @cons d0 _ _ _ h0 t=>
        cases t with
        | @cons d1 _ _ _ h1 t=>
         cases t
         obtain ⟨v0,_,rfl,r0,v1,_,rfl,r1,rfl⟩:=rds6
         refine ⟨_,rfl,_,rfl,D,_,0,v0,rfl,rfl,SqL.of (sl _ _ hD7),rfl,_,rfl,D,_,1,v1,rfl,rfl,SqL.of (sl _ _ hD7),rfl,(by show 4 ≤ sizeLine; decide),fun l3 hl3=>?_⟩
         have s9:=sl.trans (Same.new hl3 (.tup [.str (S "op"),.str hs,v0,v1]))
         exact q' _ ((nw_op ho).mpr ⟨d0,d1,ta,tb,rfl,h0,h1,rfl⟩) _ _ (s37.trans s9) ⟨l3,_,rfl,upd_same,_,_,rfl,rfl,_,_,rfl,rfl,v0,_,rfl,r0.same (s7.trans s9) _,v1,_,rfl,r1.same (s7.trans s9) _,rfl⟩
      ·exact last _ sl fun ⟨_,z⟩=>three' (n:=2) c z
     ·exact iteF (last _ sl fun ⟨z,_⟩=>c ((opsV_is hs).trans (decide_eq_true z)))
    refine ⟨_,rfl,rfl,_,rfl,ite2 (fun c=>?_) (fun c=>?_)⟩
    ·obtain rfl:hs=S "if":=V.str.inj (of_decide_eq_true c)
     refine ⟨_,rfl,a,_,rfl,.inl (SqL.of ha7),rfl,_,rfl,ite2 (fun c=>?_) (fun c=>?_)⟩
     ·obtain ⟨ta,tb,tc,rfl⟩:=three_of (three2 (n:=3) c)
      rw [sw_if] at hds
      cases hds with
      | @cons d0 _ _ _ h0 t=>
       cases t with
       | @cons d1 _ _ _ h1 t=>
        cases t with
        | @cons d2 _ _ _ h2 t=>
         cases t
         obtain ⟨v0,_,rfl,r0,v1,_,rfl,r1,v2,_,rfl,r2,rfl⟩:=rds6
         refine ⟨_,rfl,D,_,0,v0,rfl,rfl,SqL.of hD7,rfl,_,rfl,D,_,1,v1,rfl,rfl,SqL.of hD7,rfl,_,rfl,D,_,2,v2,rfl,rfl,SqL.of hD7,rfl,(by show 4 ≤ sizeLine; decide),fun l3 hl3=>?_⟩
         have s9:=Same.new hl3 (.tup [.str (S "if"),v0,v1,v2])
         have s79:=s7.trans s9
         exact q' _ (nw_if.mpr ⟨ta,tb,tc,d0,d1,d2,rfl,h0,h1,h2,rfl⟩) _ _ (s37.trans s9) ⟨l3,_,rfl,upd_same,_,_,rfl,rfl,v0,_,rfl,r0.same s79 _,v1,_,rfl,r1.same s79 _,v2,_,rfl,r2.same s79 _,rfl⟩
     ·exact key4 fun ⟨_,z⟩=>three' (n:=3) c z
    ·exact iteF (key4 fun ⟨z,_⟩=>c (decide_eq_true (by rw [z]; rfl)))
   refine ⟨_,rfl,rfl,_,rfl,ite2 (fun c=>?_) (fun c=>?_)⟩
   ·obtain rfl:hs=S "tag":=V.str.inj (of_decide_eq_true c)
    refine ⟨_,rfl,a,_,rfl,.inl (SqL.of ha7),rfl,_,rfl,ite2 (fun c=>?_) (fun c=>?_)⟩
    ·obtain ⟨ta,tb,tc,rfl⟩:=three_of (three2 (n:=3) c)
     rw [sw_tag] at hds
     rw [nN_tag] at nms
     cases hds with
     | @cons d0 _ _ _ h0 t=>
      cases t
      obtain ⟨v0,_,rfl,r0,rfl⟩:=rds6
      refine ⟨_,rfl,a,_,_,_,rfl,rfl,SqL.of ha7,txs_get (i:=1) rfl,_,rfl,a,_,_,_,rfl,rfl,SqL.of ha7,txs_get (i:=2) rfl,_,rfl,D,_,0,v0,rfl,rfl,SqL.of hD7,rfl,(by show 4 ≤ sizeLine; decide),fun l3 hl3=>?_⟩
      have s9:=Same.new hl3 (.tup [.str (S "tag"),.str (ofL ta),.str (ofL tb),v0])
      exact q' _ (nw_tag.mpr ⟨ta,tb,tc,ofL ta,ofL tb,d0,rfl,⟨rfl,nms ta (by simp)⟩,⟨rfl,nms tb (by simp)⟩,h0,rfl⟩) _ _ (s37.trans s9) ⟨l3,_,rfl,upd_same,_,_,rfl,rfl,_,_,rfl,rfl,_,_,rfl,rfl,v0,_,rfl,r0.same (s7.trans s9) _,rfl⟩
    ·exact key3 fun ⟨_,z⟩=>three' (n:=3) c z
   ·exact iteF (key3 fun ⟨z,_⟩=>c (decide_eq_true (by rw [z]; rfl)))
  refine ⟨_,rfl,rfl,_,rfl,ite2 (fun c=>?_) (fun c=>?_)⟩
  ·obtain rfl:hs=S "get":=V.str.inj (of_decide_eq_true c)
   refine ⟨_,rfl,a,_,rfl,.inl (SqL.of ha6),rfl,_,rfl,ite2 (fun c=>?_) (fun c=>?_)⟩
   ·obtain ⟨ta,tb,rfl⟩:=two_of (three2 (n:=2) c)
    rw [sw_get] at hds
    obtain ⟨l1,l2⟩:=wok.2 tb (by simp)
    refine ⟨_,rfl,a,_,_,_,rfl,rfl,SqL.of ha6,txs_get (i:=2) rfl,ofL tb,rfl,by rw [len]; exact l1,fun H7 s7=>⟨_,rfl,ite2 (fun c=>?_) (fun c=>?_)⟩⟩
    ·have nt:nameL tb=true:=by simpa [L_ofL] using c
     cases hds with
     | @cons d0 _ _ _ h0 t=>
      cases t
      obtain ⟨v0,_,rfl,r0,rfl⟩:=rds6
      have ha7:=s7 _ _ ha6
      have hD7:=s7 _ _ hD6
      refine ⟨_,rfl,D,_,0,v0,rfl,rfl,SqL.of hD7,rfl,_,rfl,a,_,_,_,rfl,rfl,SqL.of ha7,txs_get (i:=2) rfl,(by show 3 ≤ sizeLine; decide),fun l3 hl3=>?_⟩
      have s9:=s7.trans (Same.new hl3 (.tup [.str (S "get"),v0,.str (ofL tb)]))
      exact q' _ (nw_get.mpr ⟨ta,tb,d0,ofL tb,rfl,h0,⟨rfl,nt⟩,rfl⟩) _ _ (s36.trans s9) ⟨l3,_,rfl,upd_same,_,_,rfl,rfl,v0,_,rfl,r0.same s9 _,_,_,rfl,rfl,rfl⟩
    ·refine key2 _ s7 fun ⟨_,_,w,hw,nw⟩=>?_
     cases hw
     exact c (by rw [L_ofL]; exact nw)
   ·exact iteF (key2 _ (Same.refl _) fun ⟨_,z,_⟩=>three' (n:=2) c z)
  ·exact iteF (key2 _ (Same.refl _) fun ⟨z,_⟩=>c (decide_eq_true (by rw [z]; rfl)))
 refine ⟨_,rfl,rfl,_,rfl,ite2 (fun c=>?_) (fun c=>?_)⟩
 ·obtain rfl:hs=S "case":=V.str.inj (of_decide_eq_true c)
  refine ⟨_,rfl,a,_,rfl,.inl hS,_,_,rfl,rfl,_,rfl,ite2 (fun z=>?_) (fun z=>?_)⟩
  ·have:=of_decide_eq_true z
   rw [List.length_map,List.length_cons] at this
   obtain ⟨w1,r1,rfl⟩:∃ w1 r1,r=w1 :: r1:=by
    cases r with
    | nil=>simp at this
    | cons w1 r1=>exact ⟨w1,r1,rfl⟩
   exact ⟨_,rfl,a,w1,r1,rfl,ha,⟨by have:=wok.1; rw [List.length_cons] at this; omega,fun w h=>wok.2 w (List.mem_cons_of_mem _ h)⟩,q',no'⟩
  ·refine key fun ⟨_,y⟩=>z (decide_eq_true ?_)
   rw [List.length_map,List.length_cons]
   omega
 ·exact iteF (key fun ⟨y,_⟩=>c (decide_eq_true (by rw [y]; rfl)))
end
end K3
end
section
set_option maxHeartbeats 1000000
namespace L2
open PySem PySem.Spec PyProof.Rows Builtin Builtin.Str
def cutR (x y z:Str) (n:Nat):Str:=glued z (partsBetween x (occurrences x y 0 x.length n) y.length)
theorem cutR_len (x y z:Str) (n:Nat):(cutR x y z n).length ≤ x.length + n * z.length:=by
 unfold cutR
 have h1:=StrLaws.occ_length_le x y 0 x.length n
 have hy:(glued y (partsBetween x (occurrences x y 0 x.length n) y.length)).length=x.length:=by rw [StrLaws.glued_between_self]
 rw [size_glued,length_partsBetween,Nat.add_sub_cancel] at hy
 rw [size_glued,length_partsBetween,Nat.add_sub_cancel]
 have:=Nat.mul_le_mul_right z.length h1
 omega
theorem rep_tail {x y z:Str} {t u v:Tok} {n:Nat} (hu:u≠0) (hv:v≠0) (hb:x.length + n * z.length ≤ 16777216) :
  GivesAt (fun s=>NoneBooked s.heap) (if ((occurrences x y 0 x.length n).isEmpty || (y.length == 0 && z.length == 0))=true then (rule "str.replace.nothing" >>= fun _=>ret (.str x t)) else isSame (.str y u) (.str z v) >>= fun same=>if same=true then (rule "str.replace.old-is-new" >>= fun _=>ret (.str x t)) else if tooLong (x.length + (occurrences x y 0 x.length n).length * z.length)=true then unsupported "str.replace:memory" else retStr (cutR x y z n)) (.either (.val (.str x t)) (.str (cutR x y z n))):=by
 have hl:tooLong (x.length + (occurrences x y 0 x.length n).length * z.length)=false:=by
  have h1:=StrLaws.occ_length_le x y 0 x.length n
  have:=Nat.mul_le_mul_right z.length h1
  unfold tooLong
  rw [sizeLine_eq]
  exact decide_eq_false (by omega)
 rw [hl]
 intro prog w A R s nb hq
 obtain ⟨h1,h2,h3⟩:=hq
 split
 ·exact wpAny_bind (wpAny_rule (wpAny_pure h1))
 ·refine wpAny_bind (wpAny_isSame_str (by simp [hu,hv]) nb fun b=>?_)
  cases b
  ·exact wpAny_bind (wpAny_mkStr (wpAny_pure h3) h2)
  ·exact wpAny_bind (wpAny_rule (wpAny_pure h1))
section
variable {X:Cx}
theorem Inv.booked {pins:List (Addr×Obj)} {σ:St} {H:Hp} {s:Shared} (I:Inv X pins σ H s) (e:PySem.W.nsIn X.K cStatics sharingNotToldKey=some none):NoneBooked s.heap:=by
 obtain ⟨mc,hn,_⟩:=I.mod.nolimit.keeps I.bk
 exact ⟨mc,hn,PySem.W.ns_none_of I.kIn hn e⟩
def rRepl2:V→List V→Hp→VK→Prop:=fun x vs H Q=>∃ a b c:Str,x=.str a∧vs=[.str b,.str c]∧a.length + (a.length + 1) * c.length ≤ 16777216∧∀ r:Str,r.length ≤ a.length + (a.length + 1) * c.length→Q (.str r) H
def rRepl3:V→List V→Hp→VK→Prop:=fun x vs H Q=>∃ a b c:Str,x=.str a∧vs=[.str b,.str c,.int 1]∧a.length + c.length ≤ 16777216∧∀ r:Str,r.length ≤ a.length + c.length→Q (.str r) H
theorem mt_replace2 (e:PySem.W.nsIn X.K cStatics sharingNotToldKey=some none):MtR X "str.replace" rRepl2:=by
 intro pins s σ H x xs v us Q I rx rv h
 obtain ⟨a,b,c,rfl,rfl,hz,q⟩:=h
 obtain ⟨t,rfl⟩:=rx
 obtain ⟨u1,u2,rfl,⟨tb,rfl⟩,⟨tc,rfl⟩⟩:=rv.two
 refine call_givesAt F.slot_str_replace (typeIs_str _ _ _) F.entry_str_replace (F.args_str_replace_3 _ _ _) (rep_tail (n:=a.length + 1) tb.2 tc.2 hz) (I.booked e) ?_
 have hc:=cutR_len a b c (a.length + 1)
 exact ⟨⟨.str a,H,I,⟨t,rfl⟩,q a (by omega)⟩,by rw [sizeLine_eq]; omega,.str _,H,I.tok _,I.st,q _ hc⟩
theorem mt_replace3 (e:PySem.W.nsIn X.K cStatics sharingNotToldKey=some none):MtR X "str.replace" rRepl3:=by
 intro pins s σ H x xs v us Q I rx rv h
 obtain ⟨a,b,c,rfl,rfl,hz,q⟩:=h
 obtain ⟨t,rfl⟩:=rx
 match us,rv with
 | [_,_,_],.cons ⟨tb,e1⟩ (.cons ⟨tc,e2⟩ (.cons ⟨ti,e3⟩ .nil))=>
 subst e1 e2 e3
 have g:GivesAt (fun s=>NoneBooked s.heap) («str.replace» ⟨[.str a t.1,.str b tb.1,.str c tc.1,.int 1 ti],[]⟩) (.either (.val (.str a t.1)) (.str (cutR a b c 1))):=rep_tail (n:=1) tb.2 tc.2 (by omega)
 refine call_givesAt F.slot_str_replace (typeIs_str _ _ _) F.entry_str_replace (F.args_str_replace_4 _ _ _ _) g (I.booked e) ?_
 have hc:=cutR_len a b c 1
 exact ⟨⟨.str a,H,I,⟨t,rfl⟩,q a (by omega)⟩,by rw [sizeLine_eq]; omega,.str _,H,I.tok _,I.st,q _ (by omega)⟩
theorem op_mulN:OpR X (binaryOp .Mult) (fun x y H Q=>∃ (i:Str) (n:Int),x=.str i∧y=.int n∧1 ≤ n∧n ≤ 9∧i.length ≤ 1000000∧∀ r:Str,r.length ≤ 9 * i.length→Q (.str r) H):=by
 intro pins s σ H x y v u Q I rx ry h
 obtain ⟨i,n,rfl,rfl,h1,h9,hz,q⟩:=h
 obtain ⟨t,rfl⟩:=rx
 obtain ⟨t',rfl⟩:=ry
 obtain ⟨k,rfl⟩:=Int.eq_ofNat_of_zero_le (show 0 ≤ n by omega)
 have k9:k ≤ 9:=by omega
 have hm:i.length * k ≤ i.length * 9:=Nat.mul_le_mul_left _ k9
 have hl:tooLong (i.length * (k:Int).toNat)=false:=by
  unfold tooLong
  rw [sizeLine_eq,Int.toNat_natCast]
  exact decide_eq_false (by omega)
 refine PySem.P.mul_str (by rw [decide_eq_false (by omega),decide_eq_false (by omega)]; rfl) (fun _ _ z=>?_) (fun _ _=>hl) ?_
 ·have:(2 ^ 63 - 1:Int) / 9 ≤ (2 ^ 63 - 1) / (k:Int):=by
   have k1:k=1∨k=2∨k=3∨k=4∨k=5∨k=6∨k=7∨k=8∨k=9:=by omega
   rcases k1 with rfl | rfl | rfl | rfl | rfl | rfl | rfl | rfl | rfl <;> decide
  have e:(2 ^ 63 - 1:Int) / 9=1024819115206086200:=by decide
  omega
 rw [if_neg (by omega)]
 split
 ·exact ⟨.str i,H,I,⟨t,rfl⟩,q i (by omega)⟩
 ·refine ⟨fits_reps hl,.str _,H,I.tok _,I.st,q _ ?_⟩
  show ((List.replicate _ i.cps).foldl (·++·) #[]).size ≤ _
  rw [size_reps,Int.toNat_natCast]
  have e:k * i.cps.size=i.length * k:=Nat.mul_comm _ _
  rw [e]
  simp only [Array.size_empty,Nat.zero_add]
  omega
end
end L2
end
section
namespace M
open PySem
theorem joinB_sum:∀ ws:List (List Nat),ws≠[]→(ws.map List.length).sum + ws.length=(joinB ws).length + 1
 | [],h=>absurd rfl h
 | [x],_=>by simp [joinB]
 | x :: y :: r,_=>by
  have ih:=joinB_sum (y :: r) (by simp)
  show _=(x++32 :: joinB (y :: r)).length + 1
  rw [List.length_append,List.length_cons]
  simp only [List.map_cons,List.sum_cons,List.length_cons] at ih ⊢
  omega
theorem words_sum (x:Str):((Txt.split x (S " ")).map (·.length)).sum + (Txt.split x (S " ")).length=x.length + 1:=by
 have h:=joinB_sum ((Txt.split x (S " ")).map L) (fun e=>split_ne x (S " ") (List.map_eq_nil_iff.mp e))
 have e:joinB ((Txt.split x (S " ")).map L)=L x:=by rw [blank_is,← L_join 32 _ rfl,StrLaws.join_split]
 rw [e,L_length,List.length_map,List.map_map] at h
 rw [show (fun y:Str=>y.length)=(List.length ∘ L) from funext fun y=>(L_length y).symm]
 exact h
end M
end
section
set_option maxHeartbeats 400000
namespace M
open PySem Builtin Builtin.Str
theorem count_len (x:Str) (l u:Option Int):(Txt.slice x l u).length ≤ (strSliceIndices l u 1 x.length).length:=by
 unfold Txt.slice
 split
 ·rename_i h
  have:(strSliceIndices l u 1 x.length).length=x.length:=by simpa using h
  omega
 ·show (List.filterMap _ (strSliceIndices l u 1 x.length)).toArray.size ≤ _
  rw [List.size_toArray]
  exact List.length_filterMap_le _ _
theorem to_len (x:Str) {j:Int} (h:0 ≤ j):((Txt.slice x none (some j)).length:Int) ≤ j:=by
 have:=count_len x none (some j)
 unfold strSliceIndices sliceRange at this
 simp only [show (1:Int) > 0 by decide,if_true,List.length_map,List.length_range] at this
 split at this <;> (try split at this) <;> (try simp only [Int.ediv_one] at this) <;> omega
theorem from_len (x:Str) {j:Int} (h:0 ≤ j):((Txt.slice x (some j) none).length:Int) ≤ max 0 (x.length - j):=by
 have:=count_len x (some j) none
 unfold strSliceIndices sliceRange at this
 simp only [show (1:Int) > 0 by decide,if_true,List.length_map,List.length_range] at this
 split at this <;> (try split at this) <;> (try simp only [Int.ediv_one] at this) <;> omega
def wt (ys:List Str):Nat:=(ys.map (·.length)).sum + ys.length
theorem wt_append (a b:List Str):wt (a++b)=wt a + wt b:=by
 unfold wt
 rw [List.map_append,List.sum_append,List.length_append]
 omega
theorem wt_take (a:List Str) (k:Nat):wt (a.take k) + wt (a.drop k)=wt a:=by
 rw [← wt_append,List.take_append_drop]
theorem wt_words (x:Str):wt (Txt.split x (S " "))=x.length + 1:=words_sum x
theorem join_wt (ys:List Str):(Txt.join (S " ") ys).length ≤ wt ys:=by
 rw [← L_length,L_txtjoin]
 by_cases h:ys=[]
 ·subst h
  exact Nat.zero_le _
 ·have:=joinB_sum (ys.map L) (fun e=>h (List.map_eq_nil_iff.mp e))
  rw [List.length_map,List.map_map] at this
  unfold wt
  rw [show (fun y:Str=>y.length)=(List.length ∘ L) from funext fun y=>(L_length y).symm]
  omega
theorem wt_len (ys:List Str):ys.length ≤ wt ys:=by unfold wt; omega
theorem wt_set (ys:List Str) (i:Nat) (y z:Str) (h:ys[i]?=some y):wt (ys.set i z) + y.length=wt ys + z.length:=by
 induction ys generalizing i with
 | nil=>simp at h
 | cons a r ih=>
  have e:∀ (a:Str) r,wt (a :: r)=a.length + 1 + wt r:=fun a r=>by
   unfold wt
   simp only [List.map_cons,List.sum_cons,List.length_cons]
   omega
  cases i with
  | zero=>
   have:a=y:=by simpa using h
   subst this
   rw [List.set_cons_zero,e,e]
   omega
  | succ i=>
   have:=ih i (by simpa using h)
   rw [List.set_cons_succ,e,e]
   omega
end M
end
section
set_option maxHeartbeats 1000000
namespace K3
open PySem L2 M
seal L2.PE L2.PA L2.PS L2.PSs L2.PT L2.PW L2.PI L2.PG L2.PJ L2.PTs
def spSomeV:Sp:=fun vs H Q _=>∃ (a b:Addr) (p q:Int) (ys:List V),vs=[.ref a,.ref b]∧H a=some (.lst [.int p,.int q])∧H b=some (.lst ys)∧b≠a∧0 < ys.length∧ys.length < 4000000∧∀ v∈ys,∀ H',Fed a H H'→Q v H'
def spSign:Sp:=fun vs H Q _=>∃ (a:Addr) (p q:Int),vs=[.ref a]∧H a=some (.lst [.int p,.int q])∧∀ (c:Nat) H',Fed a H H'→Q (.str ⟨#[c]⟩) H'
def spSpoilt:Sp:=fun vs H Q _=>∃ (a:Addr) (x:Str) (p q:Int),vs=[.ref a,.str x]∧H a=some (.lst [.int p,.int q])∧x.length ≤ 180000∧∀ (y:Str) H',y.length ≤ x.length + 10→Fed a H H'→Q (.str y) H'
theorem cut_upto (us:List Str) (k:Nat):cutV (us.map V.str) none (some (k:Int))=(us.take k).map V.str:=by
 unfold cutV
 rw [HT.sIx_none,HT.sIx_nat,List.drop_zero,Nat.sub_zero,List.map_take]
 by_cases h:k ≤ (us.map V.str).length
 ·rw [Nat.min_eq_left h]
 ·rw [show min k (us.map V.str).length=(us.map V.str).length from by omega,List.take_of_length_le (Nat.le_refl _),List.take_of_length_le (by omega)]
theorem cut_past (us:List Str) (k:Nat):cutV (us.map V.str) (some ((k:Int) + 1)) none=(us.drop (k + 1)).map V.str:=by
 unfold cutV
 rw [show ((k:Int) + 1)=((k + 1:Nat):Int) from rfl,HT.sIx_none,HT.sIx_nat,List.map_drop]
 by_cases h:k + 1 ≤ (us.map V.str).length
 ·rw [Nat.min_eq_left h]
  exact List.take_of_length_le (by rw [List.length_drop]; omega)
 ·rw [show min (k + 1) (us.map V.str).length=(us.map V.str).length from by omega,List.drop_eq_nil_of_le (Nat.le_refl _),List.drop_eq_nil_of_le (by omega)]
  simp
theorem ixN_of {n i:Nat} (h:i < n):ixN n (i:Int)=some i:=by
 unfold ixN
 rw [if_pos (by omega),if_pos (by omega),Int.toNat_natCast]
theorem sign_at {x:Str} {r:Int} (h0:0 ≤ r) (h1:r < (x.length:Int)):∃ c,atI x.cps.toList r=some c:=by
 obtain ⟨c,_,hc⟩:=at_codes (cs:=x.cps.toList) h0 (by simpa [Str.length] using h1)
 exact ⟨c,hc⟩
section
variable {P:Program} {w:World} {K:PySem.W.Frag} {mg:Str→Option Value} {base:Heap} {n m:Nat}
theorem ok__law_someV (T:Tx K mg) (D__law_take:DefIs P w K mg base n "_law_take" ["_law_feed_here","_law_many"] spTake):DefIs P w K mg base (n + 1) "_law_some" ["_law_feed_here","_law_pool"] spSomeV:=by
 refine DefIs.of T.d__law_some sc__law_some (fun vs H Q E h=>?_) (fun f cdv A outer s H vs Q E hr h=>?_)
 ·obtain ⟨a,b,_,_,_,rfl,_⟩:=h
  rfl
 obtain ⟨a,b,p,q,ys,rfl,ha,hb,ne,l0,l1,k⟩:=h
 refine ⟨_,(pss_one (ps_ret (pxl K (pv 1) (pe_dcall D__law_take hr (va 0 (pa_cons (pe_callB (call_len_seqC (K:=K) rfl) rfl T.z_len PySem.boot_len (v1 1)) pa_nil star_call)))))),?_⟩
 refine ⟨_,rfl,_,rfl,_,rfl,b,_,rfl,.inl (SqL.of hb),a,p,q,_,rfl,ha,by omega,by omega,fun r2 H2 r20 r21 f2=>?_⟩
 obtain ⟨z,hz,hv⟩:=at_codes (cs:=ys) r20 r21
 exact ⟨b,_,_,_,rfl,rfl,SqL.of (f2.1 b _ hb ne),hv,k z hz _ f2⟩
theorem ok__law_sign (T:Tx K mg) (D__law_take:DefIs P w K mg base n "_law_take" ["_law_feed_here","_law_many"] spTake):DefIs P w K mg base (n + 1) "_law_sign" ["_law_feed_here"] spSign:=by
 refine DefIs.of T.d__law_sign sc__law_sign (fun vs H Q E h=>?_) (fun f cdv A outer s H vs Q E hr h=>?_)
 ·obtain ⟨_,_,_,rfl,_⟩:=h
  rfl
 obtain ⟨a,p,q,rfl,ha,k⟩:=h
 have nd:=sc__law_sign.nd
 refine ⟨_,(pss_cons (psn 1 nd pe_str)
   (pss_cons (ps_if (pt_cmpR op_gt (pe_dcall D__law_take hr (va 0 (pa_cons pe_int pa_nil star_const))) pe_int (nomark _)) (pss_one (psn 1 nd pe_str)) pss_nil)
   (pss_one (ps_ret (pe_ix ix_str (pv 1) (pe_dcall D__law_take hr (va 0 (pa_cons (pe_callB call_len_str rfl T.z_len PySem.boot_len (v1 1)) pa_nil star_call))) (fun _ _=>rfl)))))),seq_cut fun R1 hR1=>hR1 _ _ (seq_cut fun R2 hR2=>?_)⟩
 have key:∀ (x:Str) H1,0 < x.length→x.length < 1000→Fed a H H1→R2 [some (.ref a),some (.str x)] H1:=fun x H1 x0 x1 f1=>hR2 _ _ (by
  obtain ⟨p1,q1,h1⟩:=f1.2
  refine ⟨_,rfl,_,rfl,_,rfl,x,rfl,fits (by omega),a,p1,q1,_,rfl,h1,by omega,by omega,fun r H2 r0 r1 f2=>?_⟩
  obtain ⟨c,hc⟩:=sign_at r0 r1
  exact ⟨_,_,c,rfl,rfl,fits (by omega),hc,k c _ (f1.trans f2)⟩)
 refine ⟨_,rfl,a,p,q,3,rfl,ha,by decide,by decide,fun r H1 r0 r1 f1=>⟨_,_,rfl,rfl,_,rfl,ite2 (fun c=>?_) (fun c=>?_)⟩⟩
 ·exact key _ _ (by decide +kernel) (by decide +kernel) f1
 ·exact key _ _ (by decide +kernel) (by decide +kernel) f1
theorem ok__law_spoilt (T:Tx K mg) (D__law_take:DefIs P w K mg base n "_law_take" ["_law_feed_here","_law_many"] spTake) (D__law_some:DefIs P w K mg base n "_law_some" ["_law_feed_here","_law_pool"] spSomeV) (D__law_sign:DefIs P w K mg base n "_law_sign" ["_law_feed_here"] spSign):DefIs P w K mg base (n + 1) "_law_spoilt" ["_law_feed_here","_law_text_here"] spSpoilt:=by
 refine DefIs.of T.d__law_spoilt sc__law_spoilt (fun vs H Q E h=>?_) (fun f cdv A outer s H vs Q E hr h=>?_)
 ·obtain ⟨_,_,_,_,rfl,_⟩:=h
  rfl
 obtain ⟨a,x,p,q,rfl,ha,hl,k⟩:=h
 have nd:=sc__law_spoilt.nd
 have hz:x.length ≤ sizeLine:=fits (by omega)
 refine ⟨_,(pss_cons (psn 2 nd (pe_dcall D__law_take hr (va 0 (pa_cons pe_int pa_nil star_const))))
   (pss_cons (psn 3 nd (pe_dcall D__law_take hr (va 0 (pa_cons (pe_op op_add (pe_callB call_len_str rfl T.z_len PySem.boot_len (v1 1)) pe_int) pa_nil star_bin))))
   (pss_cons (ps_setComp (i:=4) ["_law_word"] [none] rfl (by kernel_rfl) nd rfl (by first | exact Or.inl rfl | exact Or.inr rfl) (gk_pi_list (K:=K) rfl (pe_bm PySem.F.plainAttrs_str PySem.F.slot_str_split PySem.F.type_str_split mt_split (pe_bm PySem.F.plainAttrs_str PySem.F.slot_str_replace PySem.F.type_str_replace (mt_replace2 T.nb) (pe_bm PySem.F.plainAttrs_str PySem.F.slot_str_replace PySem.F.type_str_replace (mt_replace2 T.nb) (pv 1) (pa_cons pe_str (pa_cons pe_str pa_nil star_const) star_const)) (pa_cons pe_str (pa_cons pe_str pa_nil star_const) star_const)) (pa_cons pe_str pa_nil star_const))) (fun _ _ _ _=>(pgc 0)) (fun _ _ _ _=>(pts_one (pt_cmpR op_ne (pv 0) pe_str (nomark _)))) (fun _ _ _ _=>(pv 0)))
   (pss_cons (ps_if (PW.pt (pw_and (pt_cmpR op_eq (pv 2) pe_int (nomark _)) (pw_and1 (pt_cmpR op_gt (pe_callB (call_len_seqC (K:=K) rfl) rfl T.z_len PySem.boot_len (v1 4)) pe_int (nomark _))))) (pss_cons (psn 5 nd (pe_lst (pa_strs [Str.ofString "num",Str.ofString "it",Str.ofString "abcdef",Str.ofString "abcdefg",Str.ofString "01",Str.ofString "+1",Str.ofString "1_0",Str.ofString "-0"] rfl)))
   (pss_one (ps_ret (pe_bm PySem.F.plainAttrs_str PySem.F.slot_str_replace PySem.F.type_str_replace (mt_replace3 T.nb) (pv 1) (pa_cons (pe_dcall D__law_some hr (va 0 (v1 4))) (pa_cons (pe_dcall D__law_some hr (va 0 (v1 5))) (pa_cons pe_int pa_nil star_const) star_call) star_call))))) pss_nil)
   (pss_cons (ps_if (pt_cmpR op_eq (pv 2) pe_int (nomark _)) (pss_one (ps_ret (pe_op op_add_str (pe_slice sl_str (pv 1) po_none (po_some (pv 3))) (pe_slice sl_str (pv 1) (po_some (pe_op op_add (pv 3) pe_int)) po_none)))) pss_nil)
   (pss_cons (ps_if (pt_cmpR op_eq (pv 2) pe_int (nomark _)) (pss_one (ps_ret (pe_op op_add_str (pe_op op_add_str (pe_slice sl_str (pv 1) po_none (po_some (pv 3))) (pe_dcall D__law_sign hr (v1 0))) (pe_slice sl_str (pv 1) (po_some (pv 3)) po_none)))) pss_nil)
   (pss_cons (ps_if (pt_cmpR op_eq (pv 2) pe_int (nomark _)) (pss_one (ps_ret (pe_op op_add_str (pe_op op_add_str (pe_slice sl_str (pv 1) po_none (po_some (pv 3))) (pe_dcall D__law_sign hr (v1 0))) (pe_slice sl_str (pv 1) (po_some (pe_op op_add (pv 3) pe_int)) po_none)))) pss_nil)
   (pss_cons (psn 6 nd (pe_bm PySem.F.plainAttrs_str PySem.F.slot_str_split PySem.F.type_str_split mt_split (pv 1) (pa_cons pe_str pa_nil star_const)))
   (pss_cons (psn 7 nd (pe_dcall D__law_take hr (va 0 (pa_cons (pe_callB (call_len_seqC (K:=K) rfl) rfl T.z_len PySem.boot_len (v1 6)) pa_nil star_call))))
   (pss_cons (ps_if (pt_cmpR op_eq (pv 2) pe_int (nomark _)) (pss_one (ps_ret (pe_bm PySem.F.plainAttrs_str PySem.F.slot_str_join PySem.F.type_str_join mt_join pe_str (pa_cons (pe_op op_cat (pe_slice sl_list (pv 6) po_none (po_some (pv 7))) (pe_slice sl_list (pv 6) (po_some (pe_op op_add (pv 7) pe_int)) po_none)) pa_nil star_bin)))) pss_nil)
   (pss_cons (psn 8 nd (pe_dcall D__law_take hr (va 0 (pa_cons (pe_callB (call_len_seqC (K:=K) rfl) rfl T.z_len PySem.boot_len (v1 6)) pa_nil star_call))))
   (pss_cons (ps_asg (pe_tup (pa_cons (pxl K (pv 6) (pv 8)) (pa_cons (pxl K (pv 6) (pv 7)) pa_nil star_sub) star_sub)) (pg_tupC (K:=K) rfl rfl (pgs_cons (pg_sub (pv 6) (pv 7) set_list) (pgs_cons (pg_sub (pv 6) (pv 8) set_list) pgs_nil))))
   (pss_one (ps_ret (pe_bm PySem.F.plainAttrs_str PySem.F.slot_str_join PySem.F.type_str_join mt_join pe_str (v1 6)))))))))))))))),seq_cut fun R1 hR1=>?_⟩
 refine ⟨_,rfl,a,p,q,6,rfl,ha,by decide,by decide,fun fm H1 m0 m1 f1=>hR1 _ _ (seq_cut fun R2 hR2=>?_)⟩
 obtain ⟨p1,q1,h1⟩:=f1.2
 refine ⟨_,rfl,_,rfl,x,rfl,hz,_,_,rfl,rfl,a,p1,q1,_,rfl,h1,by omega,by omega,fun at' H2 a0 a1 f2=>hR2 _ _ (seq_cut fun R3 hR3=>?_)⟩
 clear hR1 hR2 R1 R2
 have f12:=f1.trans f2
 obtain ⟨p2,q2,h2⟩:=f12.2
 have one:(Str.ofString " ").length=1:=by decide +kernel
 refine ⟨_,rfl,rfl,x,_,_,rfl,rfl,by rw [one]; omega,fun y1 hy1=>⟨rfl,y1,_,_,rfl,rfl,by rw [one] at hy1 ⊢; omega,fun y2 hy2=>⟨rfl,y2,S " ",rfl,rfl,(by decide +kernel),fits (by rw [one] at hy1 hy2; omega),fun wl hwl=>⟨wl,rfl,⟨_,SqL.of upd_same⟩,?_⟩⟩⟩⟩
 rw [one] at hy1 hy2
 have ww:=wt_words y2
 have wn:=wt_len (Txt.split y2 (S " "))
 have sw:=Same.new hwl (.lst ((Txt.split y2 (S " ")).map V.str))
 refine comp_listG (xs:=(Txt.split y2 (S " ")).map V.str) (fun i zs H'=>Same (upd H2 wl (.lst ((Txt.split y2 (S " ")).map V.str))) H'∧∃ ts:List Str,zs=ts.map V.str) ⟨Same.refl _,[],rfl⟩ (fitsLt (by rw [List.length_map]; omega)) (fun i ys H' _ p=>SqL.of (p.1 _ _ upd_same)) ?_ ?_
 ·rintro i v zs H' hx hi hly ⟨sm,ts,rfl⟩
  rw [List.getElem?_map] at hx
  obtain ⟨w,hw,rfl⟩:=Option.map_eq_some_iff.mp hx
  refine ⟨ext_set rfl,?_⟩
  refine ⟨_,rfl,rfl,_,rfl,ite2 (fun c=>?_) (fun c=>?_)⟩
  ·exact ⟨_,rfl,nxtG hi hly ⟨sm,ts++[w],by simp⟩⟩
  ·exact nxtN hi hly ⟨sm,ts,rfl⟩
 rintro zs H' hly ⟨sm,ts,rfl⟩ D hD
 have tl:ts.length ≤ 800000:=by
  rw [List.length_map,List.length_map] at hly
  omega
 have sD:=Same.new hD (.lst (ts.map V.str))
 have s3:=sw.trans (sm.trans sD)
 have f3:=f12.same s3
 have hD3:(upd H' D (.lst (ts.map V.str))) D=some (.lst (ts.map V.str)):=upd_same
 have Da:D≠a:=fun z=>by
  rw [z] at hD
  have:=(sw.trans sm) _ _ h2
  rw [hD] at this
  cases this
 generalize upd H' D (.lst (ts.map V.str))=H3 at s3 f3 hD3 ⊢
 have h3:=s3 _ _ h2
 clear sD sm sw hD hwl
 refine hR3 _ _ (seq_cut fun R4 hR4=>?_)
 clear hR3 R3
 have key:R4 [some (.ref a),some (.str x),some (.int fm),some (.int at'),some (.ref D),none,none,none,none] H3:=by
  refine hR4 _ _ (seq_cut fun R5 hR5=>?_)
  clear hR4 R4
  have lto:=to_len x a0
  have lfr:=from_len x a0
  have lfr1:=from_len x (show 0 ≤ at' + 1 by omega)
  refine ⟨_,rfl,rfl,_,rfl,ite2 (fun c=>?_) (fun c=>hR5 _ _ (seq_cut fun R6 hR6=>?_))⟩
  ·refine ⟨_,rfl,_,rfl,_,rfl,x,rfl,hz,_,rfl,_,rfl,_,_,rfl,rfl,_,rfl,x,rfl,hz,_,_,rfl,rfl,fits (by omega),?_⟩
   exact k _ _ (by rw [Str.length_append]; omega) f3
  clear hR5 R5
  refine ⟨_,rfl,rfl,_,rfl,ite2 (fun c=>?_) (fun c=>hR6 _ _ (seq_cut fun R7 hR7=>?_))⟩
  ·refine ⟨_,rfl,_,rfl,_,rfl,x,rfl,hz,_,rfl,a,p2,q2,rfl,h3,fun ch H4 f4=>?_⟩
   have l1:(⟨#[ch]⟩:Str).length=1:=rfl
   refine ⟨_,_,rfl,rfl,fits (by omega),_,rfl,_,rfl,_,rfl,x,rfl,hz,_,_,rfl,rfl,fits (by rw [Str.length_append]; omega),?_⟩
   exact k _ _ (by rw [Str.length_append,Str.length_append]; omega) (f3.trans f4)
  clear hR6 R6
  refine ⟨_,rfl,rfl,_,rfl,ite2 (fun c=>?_) (fun c=>hR7 _ _ (seq_cut fun R8 hR8=>?_))⟩
  ·refine ⟨_,rfl,_,rfl,_,rfl,x,rfl,hz,_,rfl,a,p2,q2,rfl,h3,fun ch H4 f4=>?_⟩
   have l1:(⟨#[ch]⟩:Str).length=1:=rfl
   refine ⟨_,_,rfl,rfl,fits (by omega),_,rfl,_,rfl,_,_,rfl,rfl,_,rfl,x,rfl,hz,_,_,rfl,rfl,fits (by rw [Str.length_append]; omega),?_⟩
   exact k _ _ (by rw [Str.length_append,Str.length_append]; omega) (f3.trans f4)
  clear hR7 R7
  refine ⟨_,rfl,rfl,x,S " ",rfl,rfl,(by decide +kernel),fits (by omega),fun wl hwl=>hR8 _ _ (seq_cut fun R9 hR9=>?_)⟩
  clear hR8 R8
  have wx:=wt_words x
  have wlen:=wt_len (Txt.split x (S " "))
  have wne:=split_ne x (S " ")
  generalize Txt.split x (S " ")=ws at wx wlen wne ⊢
  have wp:0 < ws.length:=List.length_pos_iff.mpr wne
  have sw:=Same.new hwl (.lst (ws.map V.str))
  have wa:wl≠a:=fun z=>by rw [z,h3] at hwl; cases hwl
  have f4:=f3.same sw
  have hw4:(upd H3 wl (.lst (ws.map V.str))) wl=some (.lst (ws.map V.str)):=upd_same
  have h4:=sw _ _ h3
  generalize upd H3 wl (.lst (ws.map V.str))=H4 at sw f4 hw4 h4 ⊢
  refine ⟨_,rfl,_,rfl,wl,_,rfl,.inl (SqL.of hw4),a,p2,q2,_,rfl,h4,by rw [List.length_map]; omega,by rw [List.length_map]; omega,fun kk H5 k0 k1 f5=>hR9 _ _ (seq_cut fun R10 hR10=>?_)⟩
  clear hR9 R9
  rw [List.length_map] at k1
  obtain ⟨kn,rfl⟩:=Int.eq_ofNat_of_zero_le k0
  have f45:=f4.trans f5
  have hw5:=f5.1 wl _ hw4 wa
  obtain ⟨p5,q5,h5⟩:=f5.2
  refine ⟨_,rfl,rfl,_,rfl,ite2 (fun c=>?_) (fun c=>hR10 _ _ (seq_cut fun R11 hR11=>?_))⟩
  ·refine ⟨rfl,_,rfl,_,rfl,_,rfl,wl,_,rfl,SqL.of hw5,fun c1 hc1=>?_⟩
   have t1:=Same.new hc1 (.lst (cutV (ws.map V.str) none (some (kn:Int))))
   refine ⟨_,rfl,_,rfl,_,_,rfl,rfl,_,rfl,wl,_,rfl,SqL.of (t1 _ _ hw5),fun c2 hc2=>?_⟩
   rw [cut_upto,cut_past] at *
   have t2:=Same.new hc2 (.lst ((ws.drop (kn + 1)).map V.str))
   have wt1:=wt_take ws kn
   have wt2:=wt_take ws (kn + 1)
   have wl1:=wt_len (ws.take kn)
   have wl2:=wt_len (ws.drop (kn + 1))
   have le:wt (ws.take kn) + wt (ws.drop (kn + 1)) ≤ wt ws:=by
    have e:wt (ws.drop kn) ≥ wt (ws.drop (kn + 1)):=by
     rw [List.drop_eq_getElem_cons (by omega)]
     unfold wt
     simp only [List.map_cons,List.sum_cons,List.length_cons]
     omega
    omega
   refine ⟨c1,c2,_,_,rfl,rfl,t2 _ _ upd_same,upd_same,?_,fun pp hpp=>?_⟩
   ·rw [List.length_map,List.length_map]
    exact fits (by omega)
   have t3:=Same.new hpp (.lst ((ws.take kn).map V.str++(ws.drop (kn + 1)).map V.str))
   have e1:(S " ").length=1:=by decide +kernel
   have jl:=join_wt (ws.take kn++ws.drop (kn + 1))
   rw [wt_append] at jl
   refine ⟨S " ",pp,ws.take kn++ws.drop (kn + 1),rfl,rfl,SqL.of (by rw [upd_same,List.map_append]),?_,?_⟩
   ·have:=wt_append (ws.take kn) (ws.drop (kn + 1))
    unfold wt at this
    rw [e1]
    unfold wt at le wl1 wl2 wx
    omega
   ·exact k _ _ (by omega) (f45.same (t1.trans (t2.trans t3)))
  clear hR10 R10
  refine ⟨_,rfl,_,rfl,wl,_,rfl,.inl (SqL.of hw5),a,p5,q5,_,rfl,h5,by rw [List.length_map]; omega,by rw [List.length_map]; omega,fun oo H6 o0 o1 f6=>hR11 _ _ (seq_cut fun R12 hR12=>?_)⟩
  clear hR11 R11
  rw [List.length_map] at o1
  obtain ⟨on,rfl⟩:=Int.eq_ofNat_of_zero_le o0
  have f46:=f45.trans f6
  have hw6:=f6.1 wl _ hw5 wa
  obtain ⟨p6,q6,h6⟩:=f6.2
  obtain ⟨w1,hw1⟩:∃ w1,ws[on]?=some w1:=⟨_,List.getElem?_eq_getElem (by omega)⟩
  obtain ⟨w2,hw2⟩:∃ w2,ws[kn]?=some w2:=⟨_,List.getElem?_eq_getElem (by omega)⟩
  refine ⟨_,rfl,_,rfl,wl,_,_,_,rfl,rfl,SqL.of hw6,atI_nat (j:=on) (by rw [List.getElem?_map,hw1]; rfl),_,rfl,_,rfl,wl,_,_,_,rfl,rfl,SqL.of hw6,atI_nat (j:=kn) (by rw [List.getElem?_map,hw2]; rfl),(by show 2 ≤ sizeLine; decide),fun tp htp=>?_⟩
  have t1:=Same.new htp (.tup [.str w1,.str w2])
  have hw7:=t1 _ _ hw6
  have h7:=t1 _ _ h6
  have f7:=f46.same t1
  have tpt:(upd H6 tp (.tup [.str w1,.str w2])) tp=some (.tup [.str w1,.str w2]):=upd_same
  generalize upd H6 tp (.tup [.str w1,.str w2])=H7 at hw7 h7 f7 tpt ⊢
  have e1:=wt_set ws kn w2 w1 hw2
  have hz1:(ws.set kn w1)[on]?=some w1:=by
   by_cases e:kn=on
   ·subst e
    rw [List.getElem?_set_self (by omega)]
   ·rw [List.getElem?_set_ne e,hw1]
  have e2:=wt_set (ws.set kn w1) on w1 w2 hz1
  have ms:∀ (l:List Str) (i:Nat) (z:Str),(l.map V.str).set i (.str z)=(l.set i z).map V.str:=fun l i z=>by rw [List.map_set]
  refine ⟨tp,_,rfl,SqT.of tpt,rfl,_,_,rfl,_,rfl,_,rfl,wl,_,_,kn,rfl,rfl,hw7,ixN_of (by rw [List.length_map]; omega),?_⟩
  rw [ms]
  refine ⟨_,_,rfl,_,rfl,_,rfl,wl,_,_,on,rfl,rfl,upd_same,ixN_of (by rw [List.length_map,List.length_set]; omega),?_⟩
  rw [ms,upd_upd]
  refine ⟨rfl,hR12 _ _ ?_⟩
  generalize (ws.set kn w1).set on w2=zs at e2 ⊢
  have jl:=join_wt zs
  have one':(S " ").length=1:=by decide +kernel
  refine ⟨rfl,_,rfl,S " ",wl,zs,rfl,rfl,SqL.of upd_same,?_,k _ _ (by omega) ⟨fun b o hb nb=>?_,p6,q6,?_⟩⟩
  ·rw [one']
   unfold wt at e1 e2 wx
   omega
  ·have nw:b≠wl:=fun z=>by
    have:=f3.1 b o hb nb
    rw [z,hwl] at this
    cases this
   rw [upd_ne nw]
   exact f7.1 b o hb nb
  ·rw [upd_ne (Ne.symm wa)]
   exact h7
 refine ⟨_,rfl,rfl,_,rfl,ite2 (fun c=>?_) (fun c=>?_)⟩
 ·refine ⟨_,rfl,D,_,rfl,.inl (SqL.of hD3),_,_,rfl,rfl,_,rfl,ite2 (fun z=>?_) (fun z=>?_)⟩
  ·have tp:0 < ts.length:=by have:=of_decide_eq_true z; rw [List.length_map] at this; omega
   refine ⟨(by show 8 ≤ sizeLine; decide),fun o ho=>?_⟩
   have so:=Same.new ho (.lst ([Str.ofString "num",Str.ofString "it",Str.ofString "abcdef",Str.ofString "abcdefg",Str.ofString "01",Str.ofString "+1",Str.ofString "1_0",Str.ofString "-0"].map V.str))
   have oa:o≠a:=fun z=>by rw [z,h3] at ho; cases ho
   refine ⟨_,rfl,rfl,_,rfl,_,rfl,a,D,p2,q2,ts.map V.str,rfl,so _ _ h3,so _ _ hD3,Da,by rw [List.length_map]; exact tp,by rw [List.length_map]; omega,fun v hv H4 f4=>?_⟩
   obtain ⟨tk,_,rfl⟩:=List.mem_map.mp hv
   obtain ⟨p4,q4,h4⟩:=f4.2
   refine ⟨_,rfl,_,rfl,a,o,p4,q4,_,rfl,h4,f4.1 o _ upd_same oa,oa,by decide,by decide,fun v2 hv2 H5 f5=>?_⟩
   obtain ⟨ot,hot,rfl⟩:=List.mem_map.mp hv2
   have ol:∀ z∈[Str.ofString "num",Str.ofString "it",Str.ofString "abcdef",Str.ofString "abcdefg",Str.ofString "01",Str.ofString "+1",Str.ofString "1_0",Str.ofString "-0"],z.length ≤ 7:=by decide +kernel
   have:=ol ot hot
   exact ⟨x,tk,ot,rfl,rfl,by omega,fun r hr=>k r _ (by omega) (f3.trans ((Fed.refl h3).same so |>.trans (f4.trans f5)))⟩
  ·exact key
 ·exact iteF key
end
end K3
end
section
set_option maxHeartbeats 1000000
namespace K3
open PySem L2 M
seal L2.PE L2.PA L2.PS L2.PSs L2.PT L2.PW L2.PI L2.PG L2.PJ L2.PTs
section
variable {P:Program} {w:World} {K:PySem.W.Frag} {mg:Str→Option Value} {base:Heap} {n m:Nat}
theorem parsed_is (T:Tx K mg):∀ m,DefIs P w K mg base (2 * m + 3) "_law_parsed" ["_law_text_here"] (spParsed m)∧DefIs P w K mg base (2 * m + 3) "_law_arm" ["_law_text_here"] (spArm m)
 | 0=>⟨DefIs.none T.d__law_parsed fun _ _ _ _ ⟨_,_,_,h,_⟩=>absurd h (Int.not_lt.mpr (dm_ge _ _ _)),DefIs.none T.d__law_arm fun _ _ _ _ ⟨_,_,_,h,_⟩=>absurd h (Int.not_lt.mpr (dm_ge _ _ _))⟩
 | m + 1=>by
  obtain ⟨p,a⟩:=parsed_is T m
  have all:∀ k,DefIs P w K mg base (k + 1) "_law_all_of" ["_law_text_here","_law_signs"] spAllOf:=fun k=>ok__law_all_of T
  have nm:∀ k,DefIs P w K mg base (k + 2) "_law_is_name" ["_law_text_here"] spIsNm:=fun k=>ok__law_is_name T (all k)
  have fg:∀ k,DefIs P w K mg base (k + 2) "_law_is_figures" ["_law_text_here"] spIsFg:=fun k=>ok__law_is_figures T (all k)
  have wo:∀ k,DefIs P w K mg base (k + 1) "_law_words_of" ["_law_text_here"] spWords1:=fun k=>words1 (ok__law_words_of T)
  have a1:=ok__law_arm (n:=2 * m + 3) T (wo (2 * m + 2)) (nm (2 * m + 1)) p
  have c1:=ok__law_case (n:=2 * m + 3) T p a
  have p1:=ok__law_parsed (n:=2 * m + 4) T (wo (2 * m + 3)) (nm (2 * m + 2)) (fg (2 * m + 2)) c1 (p.mono (by omega))
  exact ⟨p1,a1.mono (by omega)⟩
theorem need_x (T:Tx K mg) (k:Nat):DefXs P w K mg base (k + 3) "need" ["holds"] (spNeed K):=ok_need T (ok_init T)
theorem trees_x (T:Tx K mg) (k:Nat):DefXs P w K mg base (k + 6) "trees_of" ["text"] (spTreesOf K):=
 ok_trees_of T (need_x T (k + 2)) (ok_put_word T (need_x T (k + 1)) (ok_close_brackets T (need_x T k)))
theorem nam_x (T:Tx K mg) (k:Nat):DefXs P w K mg base (k + 4) "name_from" ["tree"] (spNameX K):=ok_name_from T (need_x T k) (R.ok_is_name T (R.ok_is_made_of (n:=k + 1) T))
theorem lea_x (T:Tx K mg) (k:Nat):DefXs P w K mg base (k + 5) "leaf_from" ["word","more"] (spLeafX K):=ok_leaf_from T (nam_x T k) (R.ok_is_number T (R.ok_is_made_of (n:=k + 2) T))
theorem term_x (T:Tx K mg):∀ m,DefXs P w K mg base (2 * m + 7) "term_from" ["tree","more"] (spTermX m K)∧DefXs P w K mg base (2 * m + 8) "arm_from" ["tree","more"] (spArmX m K)
 | 0=>⟨DefXs.none T.d_term_from fun _ _ _ _ ⟨_,_,_,_,_,_,_,_,h,_⟩=>absurd h (Nat.not_lt_zero _),DefXs.none T.d_arm_from fun _ _ _ _ ⟨_,_,_,_,_,_,_,_,h,_⟩=>absurd h (Nat.not_lt_zero _)⟩
 | m + 1=>by
  obtain ⟨p,a⟩:=term_x T m
  have a1:=ok_arm_from (n:=2 * m + 7) T (need_x T (2 * m + 4)) (nam_x T (2 * m + 3)) p
  exact ⟨ok_term_from (n:=2 * m + 8) T (need_x T (2 * m + 5)) (nam_x T (2 * m + 4)) (lea_x T (2 * m + 3)) (ok_terms_from T p) a (p.mono (by omega)),a1.mono (by omega)⟩
theorem of_x (T:Tx K mg):DefXs P w K mg base 51 "term_of" ["text"] (spOfX K):=ok_term_of T (ok_term_with (n:=49) T (need_x T 46) (trees_x T 43) (term_x T 21).1)
end
end K3
end
section
set_option maxHeartbeats 1000000
namespace L2
open PySem PySem.Spec PyProof.Rows
theorem pe_fldFK {X:Cx} {K:PySem.W.Frag} {o:Expr} {fl:Str} {pos:Pos} {ta:TE} (hK:X.K=K) (he:PE X o ta) (hb:attributeBase o fl X.env (eval o X.env)=eval o X.env):PE X (.Attribute o fl pos) (tFldF K ta fl):=by
 subst hK
 exact pe_fldF he hb
theorem call_isinstFK {X:Cx} {K:PySem.W.Frag} (hK:X.K=K):CallR X (.builtin "isinstance") (fun xs H Q=>∃ a C dx c2 y c b,xs=[.ref a,y]∧(∀ u,RelV y u→u=c)∧H a=some (excF a C dx c2)∧(∀ d,dx=some d→∃ fs,H d=some (.xd fs))∧XCl K C ∧
  PySem.W.kitOne K (.ref C) c=some b∧Q (.bl b) H):=by
 subst hK
 exact call_isinstF
theorem call_isinstFTK {X:Cx} {K:PySem.W.Frag} (hK:X.K=K):CallR X (.builtin "isinstance") (fun xs H Q=>∃ (a C:Addr) (dx:Option Addr) (c2:Value) (tp:Addr) (cs:List Addr) (b:Bool),xs=[.ref a,.ref tp]∧H tp=some (.tup (cs.map V.ref))∧H a=some (excF a C dx c2)∧(∀ d,dx=some d→∃ fs,H d=some (.xd fs))∧XCl K C ∧
  PySem.W.kitAny K (.ref C) (cs.map Value.ref)=some b∧Q (.bl b) H):=by
 subst hK
 exact call_isinstFT
end L2
namespace K3
open PySem L2 M
seal L2.PE L2.PA L2.PS L2.PSs L2.PT L2.PW L2.PI L2.PG L2.PJ L2.PTs
theorem only (a:Addr):∀ u,RelV (.ref a) u→u=Value.ref a:=fun _ h=>h
def spBadAt:Sp:=fun vs H Q _=>∃ x:Str,vs=[.str x]∧x.length ≤ 3000000∧dm (L x) 0 0 ≤ 20∧(¬ ∃ d,PT (L x) d)∧∀ H',Same H H'→Q (.int 0) H'
section
variable {P:Program} {w:World} {K:PySem.W.Frag} {mg:Str→Option Value} {base:Heap} {n m:Nat}
theorem kit10 (T:Tx K mg):PySem.W.kitAny K (.ref (cAt K 0)) ([cAt K 7,cAt K 5,cAt K 10,cAt K 3,cAt K 9,cAt K 2,cAt K 6,cAt K 8,cAt K 1,cAt K 4].map Value.ref)=some false:=by
 refine kit_none fun v hv=>?_
 have hj:∃ j,j < 11∧v=.ref (cAt K j)∧0≠j:=by
  simp only [List.map_cons,List.map_nil,List.mem_cons,List.not_mem_nil,or_false] at hv
  rcases hv with h | h | h | h | h | h | h | h | h | h
  ·exact ⟨7,by decide,h,by omega⟩
  ·exact ⟨5,by decide,h,by omega⟩
  ·exact ⟨10,by decide,h,by omega⟩
  ·exact ⟨3,by decide,h,by omega⟩
  ·exact ⟨9,by decide,h,by omega⟩
  ·exact ⟨2,by decide,h,by omega⟩
  ·exact ⟨6,by decide,h,by omega⟩
  ·exact ⟨8,by decide,h,by omega⟩
  ·exact ⟨1,by decide,h,by omega⟩
  ·exact ⟨4,by decide,h,by omega⟩
 obtain ⟨j,h1,rfl,h3⟩:=hj
 rw [T.xt.kit 0 j (by omega) h1,decide_eq_false h3]
theorem ok__law_bad_at (T:Tx K mg) (D_term_of:DefXs P w K mg base n "term_of" ["text"] (spOfX K)):DefIs P w K mg base (n + 1) "_law_bad_at" ["_law_text_here"] spBadAt:=by
 refine DefIs.of T.d__law_bad_at sc__law_bad_at (fun vs H Q E h=>?_) (fun f cdv A outer s H vs Q E hr h=>?_)
 ·obtain ⟨_,rfl,_⟩:=h
  rfl
 obtain ⟨x,rfl,hl,hd,no,q⟩:=h
 have nd:=sc__law_bad_at.nd
 refine ⟨_,(pss_cons (psn 1 nd pe_non)
   (pss_cons (ps_tryAs (i:=2) rfl rfl nd rfl rfl T.c_SwapError T.xt2.obj (fun pn Es=>(pss_one (ps_expr (pe_xcall D_term_of hr (v1 0))))) (fun e=>(pss_one (psn 1 nd (pv 2)))))
   (pss_cons (ps_if (PW.pt (pw_or (pt_not (pt_val (pe_callB (call_isinstFK (K:=K) rfl) rfl T.z_isinstance PyProof.Rows.boot_isinstance (va 1 (pa_cons (pe_gref T.c_BadText) pa_nil star_name))))) (pw_or1 (pt_not (pt_val (pe_callB (call_isinstFK (K:=K) rfl) rfl T.z_isinstance PyProof.Rows.boot_isinstance (va 1 (pa_cons (pe_gty T.z_ValueError boot_VE) pa_nil star_name)))))))) (pss_one (ps_ret pe_non)) pss_nil)
   (pss_cons (ps_if (pt_val (pe_callB (call_isinstFTK (K:=K) rfl) rfl T.z_isinstance PyProof.Rows.boot_isinstance (va 1 (pa_cons (pe_tup (pa_cons (pe_gref T.c_Falls) (pa_cons (pe_gref T.c_Lacks) (pa_cons (pe_gref T.c_NoCode) (pa_cons (pe_gref T.c_NoCount) (pa_cons (pe_gref T.c_NoFit) (pa_cons (pe_gref T.c_NoName) (pa_cons (pe_gref T.c_NotOwn) (pa_cons (pe_gref T.c_TooBig) (pa_cons (pe_gref T.c_Twice) (pa_cons (pe_gref T.c_WrongKind) pa_nil star_name) star_name) star_name) star_name) star_name) star_name) star_name) star_name) star_name) star_name)) pa_nil star_tup)))) (pss_one (ps_ret pe_non)) pss_nil)
   (pss_cons (ps_if (PW.pt (pw_or (pt_not (pt_val (pe_callB call_isinst rfl T.z_isinstance PyProof.Rows.boot_isinstance (pa_cons (pe_fldFK (K:=K) rfl (pv 1) rfl) (pa_cons (pe_gty T.z_int PyProof.Rows.boot_int) pa_nil star_name) star_attr)))) (pw_or1 (pt_val (pe_callB call_isinst rfl T.z_isinstance PyProof.Rows.boot_isinstance (pa_cons (pe_fldFK (K:=K) rfl (pv 1) rfl) (pa_cons (pe_gty T.z_bool PyProof.Rows.boot_bool) pa_nil star_name) star_attr)))))) (pss_one (ps_ret pe_non)) pss_nil)
   (pss_one (ps_ret (pe_fldFK (K:=K) rfl (pv 1) rfl)))))))),?_⟩
 refine ⟨fun v d σ' H'=>σ'=[some (.str x),some .non,none]∧Same H H'∧Bad K H' v d 0,?_,?_⟩
 ·exact ⟨_,rfl,x,rfl,hl,hd,fun d h=>absurd ⟨d,h⟩ no,fun _ v d H1 s1 bd=>⟨rfl,s1,bd⟩⟩
 ·rintro y C d c2 σ' H1 ⟨rfl,s1,y',dy,ey,rfl,hy,hdy⟩ hy2
  cases ey
  rw [hy] at hy2
  obtain ⟨rfl,-⟩:=excF_inj (Option.some.inj hy2)
  clear hy2
  have M:=T.xt.cl 0 (by decide)
  refine ⟨M,T.xt2.mro 0 (by decide),_,rfl,?_⟩
  have hd1:∀ {H':Hp},H' dy=some (.xd [("at",.int 0)])→∀ d,some dy=some d→∃ fs,H' d=some (.xd fs):=fun h d z=>by cases z; exact ⟨_,h⟩
  refine ⟨_,rfl,y,cAt K 0,some dy,.none,_,_,_,rfl,only _,hy,hd1 hdy,M,T.xt.kit 0 0 (by decide) (by decide),_,rfl,iteF ?_⟩
  refine ⟨_,rfl,y,cAt K 0,some dy,.none,_,_,_,rfl,(fun _ h=>h),hy,hd1 hdy,M,T.xt.kV 0 (by decide),_,rfl,iteF ?_⟩
  refine ⟨_,rfl,(by show 10 ≤ sizeLine; decide),fun tp htp=>?_⟩
  have t1:=Same.new htp (.tup ([cAt K 7,cAt K 5,cAt K 10,cAt K 3,cAt K 9,cAt K 2,cAt K 6,cAt K 8,cAt K 1,cAt K 4].map V.ref))
  have hy1:=t1 _ _ hy
  have hdy1:=t1 _ _ hdy
  refine ⟨y,cAt K 0,some dy,.none,tp,_,_,rfl,upd_same,hy1,hd1 hdy1,M,kit10 T,?_⟩
  have lk:List.lookup ("at":Str) [((("at":Str),V.int 0):Str×V)]=some (V.int 0):=by
   simp only [List.lookup_cons]
   rw [show (("at":Str) == ("at":Str))=true by decide +kernel]
  refine ⟨_,rfl,iteF ?_⟩
  refine ⟨_,rfl,y,cAt K 0,dy,.none,_,.int 0,rfl,hy1,hdy1,M,T.xt.na,lk,_,_,_,_,_,rfl,fun u hu'=>hu',TyOf.int _,rfl,_,rfl,iteF ?_⟩
  refine ⟨_,rfl,y,cAt K 0,dy,.none,_,.int 0,rfl,hy1,hdy1,M,T.xt.na,lk,_,_,_,_,_,rfl,fun u hu'=>hu',TyOf.int _,rfl,_,rfl,iteF ?_⟩
  exact ⟨_,rfl,y,cAt K 0,dy,.none,_,.int 0,rfl,hy1,hdy1,M,T.xt.na,lk,q _ (s1.trans t1)⟩
end
end K3
end
section
local macro_rules | `(tactic| walk_at "rd1")=>`(tactic| first
 | refine ⟨_,rfl,?_⟩
 | refine ⟨_,_,rfl,rfl,?_⟩
 | refine ⟨_,_,_,_,rfl,rfl,(by assumption),(by first | rfl | assumption),?_⟩
 | refine ⟨_,_,rfl,.inl (by assumption),?_⟩
 | refine ⟨_,_,rfl,.inr (by assumption),?_⟩
 | refine ⟨rfl,?_⟩
 | refine M.iteKF (by decide +kernel) ?_
 | refine M.iteKT (by decide +kernel) ?_)
local macro_rules | `(tactic| walk_at "rd")=>`(tactic| repeat walk_at "rd1")
namespace K3
open PySem L2 M
seal L2.PE L2.PA L2.PS L2.PSs L2.PT L2.PW L2.PI L2.PG L2.PJ L2.PTs
def spText (R:D→Tr→Prop):Sp:=fun vs H Q _=>∃ v d t,vs=[v]∧RelD H v d∧R d t∧∀ H',Same H H'→Q (vOf t) H'
def spBracketed:Sp:=fun vs H Q _=>∃ a ts,vs=[.ref a]∧H a=some (.lst (ts.map vOf))∧(Tr.l ts).cs.length ≤ 3000000∧∀ H',Same H H'→Q (vOf (.l ts)) H'
def spInner (R:D→Tr→Prop):Sp:=fun vs H Q _=>∃ v d ts,vs=[v]∧RelD H v d∧R d (.l ts)∧∀ a H',Same H H'→H' a=some (.lst (ts.map vOf))→Q (.ref a) H'
def spTexts (R:D→Tr→Prop):Sp:=fun vs H Q _=>∃ a us ds ts,vs=[.ref a]∧H a=some (.tup us)∧RelDs H us ds∧All2 R ds ts∧ds.length ≤ 3000000∧∀ b H',Same H H'→H' b=some (.lst (ts.map vOf))→Q (.ref b) H'
theorem mapV (ts:List Tr):ts.map vOf=(ts.map strOf).map V.str:=by
 rw [List.map_map]
 rfl
section
variable {P:Program} {w:World} {K:PySem.W.Frag} {mg:Str→Option Value} {base:Heap} {n m:Nat}
theorem ok_bracketed (T:Tx K mg):DefIs P w K mg base (n + 1) "bracketed" ["texts"] spBracketed:=by
 refine DefIs.of T.d_bracketed sc_bracketed (fun vs H Q E h=>?_) (fun f cdv A outer s H vs Q E hr h=>?_)
 ·obtain ⟨x,y,rfl,_⟩:=h
  rfl
 obtain ⟨a,ts,rfl,ha,hz,k⟩:=h
 have nd:=sc_bracketed.nd
 refine ⟨_,(pss_cons (psn 1 nd (pe_bm PySem.F.plainAttrs_str PySem.F.slot_str_join PySem.F.type_str_join mt_join pe_str (v1 0)))
   (pss_one (ps_ret (pe_fstr (pj_lit (pj_str (pv 1) (pj_lit pj_nil))))))),?_⟩
 rw [mapV] at ha
 have h1:=sum_trees ts
 have h2:=bs_le ts
 have h3:=cs_l ts
 have hj:(Txt.join (S " ") (ts.map strOf)).length=(bs ts).tail.length:=by rw [← L_length,join_trees]
 refine ⟨rfl,_,rfl,S " ",a,ts.map strOf,rfl,rfl,SqL.of ha,?_,?_⟩
 ·have e:(S " ").length=1:=by decide +kernel
  rw [e,List.length_map]
  omega
 have l1:(Str.empty++S "(").length=1:=by decide +kernel
 have l2:(S ")").length=1:=by decide +kernel
 refine ⟨fits (by show (Str.empty++S "(").length ≤ _; omega),_,rfl,_,rfl,fits (by rw [hj]; omega),?_,?_,?_,?_⟩
 ·refine fits ?_
  rw [Str.length_append,show (Str.empty++Str.ofString "(").length=1 from l1,hj]
  omega
 ·refine fits ?_
  rw [Str.length_append,Str.length_append,show (Str.empty++Str.ofString "(").length=1 from l1,show (Str.ofString ")").length=1 from l2,hj]
  omega
 ·refine fits ?_
  rw [Str.length_append,Str.length_append,show (Str.empty++Str.ofString "(").length=1 from l1,show (Str.ofString ")").length=1 from l2,hj]
  omega
 ·have:=k H (Same.refl _)
  unfold vOf at this
  rw [← bracket_text] at this
  rw [Str.empty_append]
  exact this
theorem ok_term_texts (T:Tx K mg) (R:D→Tr→Prop) (D_term_text:DefIs P w K mg base n "term_text" ["term"] (spText R)):DefIs P w K mg base (n + 1) "term_texts" ["terms"] (spTexts R):=by
 refine DefIs.of T.d_term_texts sc_term_texts (fun vs H Q E h=>?_) (fun f cdv A outer s H vs Q E hr h=>?_)
 ·obtain ⟨_,_,_,_,rfl,_⟩:=h
  rfl
 obtain ⟨a,us,ds,ts,rfl,ha,hd,hR,hl,k⟩:=h
 refine ⟨_,(pss_one (ps_ret (pe_comp ["term"] [none] rfl (by kernel_rfl) (gk_pi_tup (K:=K) rfl (pv 0)) (fun _ _ _ _=>(pgc 0)) (fun _ _ _ _=>pts_nil) (fun _ _ _ _=>(pe_dcall D_term_text hr (v1 0)))))),?_⟩
 refine ⟨_,rfl,a,rfl,⟨_,SqT.of ha⟩,?_⟩
 have e1:=hd.length
 have e2:=hR.length
 refine comp_tup (j:=0) (xs:=us) (fun i ys H'=>Same H H'∧ys=(ts.take i).map vOf) (by rfl) ⟨Same.refl _,rfl⟩ (fitsLt (by omega)) (fun i ys H' _ p=>SqT.of (p.1 _ _ ha)) ?_ ?_
 ·rintro i x ys H' hx hl ⟨sm,rfl⟩
  obtain ⟨d,hdi,rd⟩:=hd.get hx
  obtain ⟨t,hti,rt⟩:=hR.get hdi
  have hi:i < us.length:=(List.getElem?_eq_some_iff.mp hx).1
  refine ⟨_,rfl,x,d,t,rfl,rd.same sm _,rt,fun H2 s2=>nxt hi hl ⟨sm.trans s2,?_⟩⟩
  rw [List.take_add_one,hti]
  simp
 ·rintro ys H' hl ⟨sm,rfl⟩ D hD
  refine k D _ (sm.trans (Same.new hD _)) ?_
  rw [upd_same,List.take_of_length_le (by omega)]
def spArmText (R:D→Tr→Prop):Sp:=fun vs H Q _=>∃ v d t,vs=[v]∧RelD H v d∧Arm R d t∧t.cs.length ≤ 3000000∧∀ H',Same H H'→Q (vOf t) H'
theorem vOf_tx (x:Str):vOf (tx x)=.str x:=by
 unfold vOf
 rw [strOf_tx]
theorem three:3 ≤ sizeLine:=by decide
theorem few {n:Nat} (h:n ≤ 100):n ≤ sizeLine:=Nat.le_trans h (by decide)
theorem ok_arm_text (T:Tx K mg) (R:D→Tr→Prop) (D_term_text:DefIs P w K mg base n "term_text" ["term"] (spText R)) (D_bracketed:DefIs P w K mg base n "bracketed" ["texts"] spBracketed):DefIs P w K mg base (n + 1) "arm_text" ["arm"] (spArmText R):=by
 refine DefIs.of T.d_arm_text sc_arm_text (fun vs H Q E h=>?_) (fun f cdv A outer s H vs Q E hr h=>?_)
 ·obtain ⟨_,_,_,rfl,_⟩:=h
  rfl
 obtain ⟨v,d,t,rfl,hv,⟨g,x,e,te,hg,hx,he,rfl,rfl⟩,hz,k⟩:=h
 obtain ⟨a,us,rfl,ha,_,_,rfl,rfl,_,_,rfl,rfl,ve,_,rfl,re,rfl⟩:=hv
 have hS:SqT K H a [.str g,.str x,ve]:=SqT.of ha
 refine ⟨_,(pss_one (ps_ret (pe_dcall D_bracketed hr (pa_cons (pe_lst (pa_cons (px K (pv 0) pe_int) (pa_cons (px K (pv 0) pe_int) (pa_cons (pe_dcall D_term_text hr (pa_cons (px K (pv 0) pe_int) pa_nil star_sub)) pa_nil star_call) star_sub) star_sub)) pa_nil star_lst)))),?_⟩
 walk_at "rd"
 refine ⟨_,e,te,rfl,re,he,fun H1 s1=>⟨three,fun l hl=>?_⟩⟩
 refine ⟨l,[tx g,tx x,te],rfl,?_,hz,fun H2 s2=>k H2 (s1.trans ((Same.new hl _).trans s2))⟩
 rw [upd_same]
 show some (HO.lst [V.str g,V.str x,vOf te])=some (HO.lst [vOf (tx g),vOf (tx x),vOf te])
 rw [vOf_tx,vOf_tx]
theorem ok_term_text (T:Tx K mg) (R:D→Tr→Prop) (hz:∀ d t,R d t→t.cs.length ≤ 3000000) (D_inner_texts:DefIs P w K mg base n "inner_texts" ["term"] (spInner R)) (D_bracketed:DefIs P w K mg base n "bracketed" ["texts"] spBracketed)
  (hN:∀ d t,R d t→∃ ts a r,t=.l ts∧d=.tup (.str a :: r)∧a≠S "num"∧a≠S "box"):DefIs P w K mg base (n + 1) "term_text" ["term"] (spText fun d t=>Leaf d t∨R d t):=by
 refine DefIs.of T.d_term_text sc_term_text (fun vs H Q E h=>?_) (fun f cdv A outer s H vs Q E hr h=>?_)
 ·obtain ⟨_,_,_,rfl,_⟩:=h
  rfl
 obtain ⟨v,d,t,rfl,hv,hR,k⟩:=h
 refine ⟨_,(pss_cons (ps_if (pt_cmpR op_eq (px K (pv 0) pe_int) pe_str (nomark _)) (pss_one (ps_ret (pe_callTy (call_str_int.or call_str_str) rfl T.z_str PyProof.Rows.boot_str (pa_cons (px K (pv 0) pe_int) pa_nil star_sub)))) pss_nil)
   (pss_cons (ps_if (pt_cmpR op_eq (px K (pv 0) pe_int) pe_str (nomark _)) (pss_one (ps_ret (px K (pv 0) pe_int))) pss_nil)
   (pss_one (ps_ret (pe_dcall D_bracketed hr (pa_cons (pe_dcall D_inner_texts hr (v1 0)) pa_nil star_call)))))),?_⟩
 rcases hR with (⟨i,i0,i1,rfl,rfl⟩ | ⟨x,hx,rfl,rfl⟩) | hR
 ·obtain ⟨a,us,rfl,ha,_,_,rfl,rfl,_,_,rfl,rfl,rfl⟩:=hv
  have hS:SqT K H a [.str (S "num"),.int i]:=SqT.of ha
  walk_at "rd"
  refine .inl ⟨i,rfl,log_small (by omega),?_⟩
  have:=k H (Same.refl _)
  rw [vOf_tx] at this
  exact this
 ·obtain ⟨a,us,rfl,ha,_,_,rfl,rfl,_,_,rfl,rfl,rfl⟩:=hv
  have hS:SqT K H a [.str (S "box"),.str x]:=SqT.of ha
  walk_at "rd"
  have:=k H (Same.refl _)
  rw [vOf_tx] at this
  exact this
 ·have hz':=hz d t hR
  obtain ⟨ts,h0,r,rfl,rfl,hn,hb⟩:=hN d t hR
  have hv':=hv
  obtain ⟨a,us,rfl,ha,_,rest,rfl,rfl,_⟩:=hv
  have hS:SqT K H a (.str h0 :: rest):=SqT.of ha
  have hx:atI (V.str h0 :: rest) 0=some (.str h0):=atI_nat (j:=0) rfl
  refine ⟨_,rfl,a,_,0,_,rfl,rfl,hS,hx,rfl,_,rfl,iteKF (decide_eq_false fun e=>hn (V.str.inj e)) ?_⟩
  refine ⟨_,rfl,a,_,0,_,rfl,rfl,hS,hx,rfl,_,rfl,iteKF (decide_eq_false fun e=>hb (V.str.inj e)) ?_⟩
  refine ⟨_,rfl,_,_,ts,rfl,hv',hR,fun l H1 s1 hl=>?_⟩
  exact ⟨l,ts,rfl,hl,hz',fun H2 s2=>k H2 (s1.trans s2)⟩
end
end K3
end
section
set_option maxHeartbeats 1000000
namespace M
open PySem
theorem bs_len_nil:(bs []).length=0:=rfl
theorem bs_len_cons (t:Tr) (ts:List Tr):(bs (t :: ts)).length=1 + t.cs.length + (bs ts).length:=by
 show (32 :: (t.cs++bs ts)).length=_
 rw [List.length_cons,List.length_append]
 omega
theorem cs_cons (t:Tr) (ts:List Tr):(Tr.l (t :: ts)).cs.length=t.cs.length + (bs ts).length + 2:=by
 rw [cs_l,bs_tail,List.length_append]
theorem cs_ne3:∀ {n:Nat} {d:D} {t:Tr},T3 n d t→t.cs≠[]
 | 0,d,t,h=>by
  rcases h with ⟨n,h0,h1,_,rfl⟩ | ⟨x,hx,_,rfl⟩
  ·exact num_ne h0
  ·exact hx.pos
 | n + 1,d,t,h=>by
  have key:∀ ts:List Tr,(Tr.l ts).cs≠[]:=fun ts=>by
   show 40 :: ((bs ts).tail++[41])≠[]
   simp
  rcases h with h | h
  ·exact cs_ne3 (n:=0) h
  ·rcases h with ⟨_,_,_,_,_,_,_,_,_,rfl⟩ | ⟨_,_,_,_,_,_,_,rfl⟩ | ⟨_,_,_,_,_,_,rfl⟩ | ⟨_,_,_,_,_,_,_,_,rfl⟩ | ⟨_,_,_,_,_,_,_,_,_,rfl⟩ | ⟨_,_,_,_,_,_,_,_,_,_,rfl⟩ <;> exact key _
theorem sizes_bs3 {R:D→Tr→Prop} {es:List D} {ts:List Tr} (h:All2 R es ts) (g:∀ d t,R d t→d.size ≤ 3 * t.cs.length):sizes es ≤ 3 * (bs ts).length:=by
 induction h with
 | nil=>exact Nat.zero_le _
 | cons h1 _ ih=>
  have:=g _ _ h1
  rw [bs_len_cons]
  show D.size _ + sizes _ ≤ _
  omega
theorem arm_size3 {R:D→Tr→Prop} (g:∀ d t,R d t→d.size ≤ 3 * t.cs.length) {d:D} {t:Tr} (h:Arm R d t):d.size ≤ 3 * t.cs.length:=by
 obtain ⟨a,x,e,te,ha,hx,he,rfl,rfl⟩:=h
 have:=g _ _ he
 rw [cs_cons,bs_len_cons,bs_len_cons,bs_len_nil]
 simp only [D.size,sizes]
 omega
theorem T3.size3:∀ {n:Nat} {d:D} {t:Tr},T3 n d t→d.size ≤ 3 * t.cs.length
 | 0,d,t,h=>by
  have hp:=List.length_pos_iff.mpr (cs_ne3 h)
  rcases h with ⟨n,_,_,rfl,_⟩ | ⟨x,_,rfl,_⟩
  ·simp only [D.size,sizes]
   omega
  ·simp only [D.size,sizes]
   omega
 | n + 1,d,t,h=>by
  have ih:∀ d t,T3 n d t→d.size ≤ 3 * t.cs.length:=fun d t h=>T3.size3 h
  rcases h with h | ⟨s,a,b,ta,tb,hs,ha,hb,rfl,rfl⟩ | ⟨k,es,ts,hk,hes,rfl,rfl⟩ | ⟨a,ta,f,hf,ha,rfl,rfl⟩ | ⟨k,g,a,ta,hk,hg,ha,rfl,rfl⟩ | ⟨a,ta,arms,ts,ha,h1,_,hs,rfl,rfl⟩ | ⟨a,b,c,ta,tb,tc,ha,hb,hc,rfl,rfl⟩
  ·exact T3.size3 (n:=0) h
  ·have e1:=ih _ _ ha
   have e2:=ih _ _ hb
   rw [cs_cons,bs_len_cons,bs_len_cons,bs_len_nil]
   simp only [D.size,sizes]
   omega
  ·have e1:=sizes_bs3 hes ih
   rw [cs_cons,bs_len_cons]
   simp only [D.size,sizes]
   omega
  ·have e1:=ih _ _ ha
   rw [cs_cons,bs_len_cons,bs_len_cons,bs_len_nil]
   simp only [D.size,sizes]
   omega
  ·have e1:=ih _ _ ha
   rw [cs_cons,bs_len_cons,bs_len_cons,bs_len_cons,bs_len_nil]
   simp only [D.size,sizes]
   omega
  ·have e1:=ih _ _ ha
   have e2:=sizes_bs3 hs fun d t h=>arm_size3 ih h
   rw [cs_cons,bs_len_cons]
   simp only [D.size,sizes]
   omega
  ·have e1:=ih _ _ ha
   have e2:=ih _ _ hb
   have e3:=ih _ _ hc
   rw [cs_cons,bs_len_cons,bs_len_cons,bs_len_cons,bs_len_nil]
   simp only [D.size,sizes]
   omega
def Lt (N:Nat) (R:D→Tr→Prop):D→Tr→Prop:=fun d t=>R d t∧t.cs.length ≤ N
theorem all2_lt {R:D→Tr→Prop} {N:Nat} {es:List D} {ts:List Tr} (h:All2 R es ts) (hl:(bs ts).length ≤ N):All2 (Lt N R) es ts:=by
 induction h with
 | nil=>exact .nil
 | cons h1 _ ih=>
  rw [bs_len_cons] at hl
  exact .cons ⟨h1,by omega⟩ (ih (by omega))
theorem arm_lt {R:D→Tr→Prop} {N:Nat} {d:D} {t:Tr} (h:Arm R d t) (hl:t.cs.length ≤ N):Arm (Lt N R) d t:=by
 obtain ⟨g,x,e,te,hg,hx,he,rfl,rfl⟩:=h
 rw [cs_cons,bs_len_cons,bs_len_cons,bs_len_nil] at hl
 exact ⟨g,x,e,te,hg,hx,⟨he,by omega⟩,rfl,rfl⟩
theorem arms_lt {R:D→Tr→Prop} {N:Nat} {es:List D} {ts:List Tr} (h:All2 (Arm R) es ts) (hl:(bs ts).length ≤ N):All2 (Arm (Lt N R)) es ts:=by
 induction h with
 | nil=>exact .nil
 | cons h1 _ ih=>
  rw [bs_len_cons] at hl
  exact .cons (arm_lt h1 (by omega)) (ih (by omega))
theorem all2_few {R:D→Tr→Prop} {es:List D} {ts:List Tr} (h:All2 R es ts):es.length ≤ (bs ts).length:=by
 induction h with
 | nil=>exact Nat.zero_le _
 | cons h1 _ ih=>
  rw [bs_len_cons,List.length_cons]
  omega
theorem node_lt {R:D→Tr→Prop} {N:Nat} {d:D} {t:Tr} (h:NodeU R d t) (hl:t.cs.length ≤ N):NodeU (Lt N R) d t:=by
 rcases h with ⟨s,a,b,ta,tb,hs,ha,hb,rfl,rfl⟩ | ⟨k,es,ts,hk,hes,rfl,rfl⟩ | ⟨a,ta,f,hf,ha,rfl,rfl⟩ | ⟨k,g,a,ta,hk,hg,ha,rfl,rfl⟩ | ⟨a,ta,arms,ts,ha,h1,h4,hs,rfl,rfl⟩ | ⟨a,b,c,ta,tb,tc,ha,hb,hc,rfl,rfl⟩
 ·rw [cs_cons,bs_len_cons,bs_len_cons,bs_len_nil] at hl
  exact .inl ⟨s,a,b,ta,tb,hs,⟨ha,by omega⟩,⟨hb,by omega⟩,rfl,rfl⟩
 ·rw [cs_cons,bs_len_cons] at hl
  exact .inr (.inl ⟨k,es,ts,hk,all2_lt hes (by omega),rfl,rfl⟩)
 ·rw [cs_cons,bs_len_cons,bs_len_cons,bs_len_nil] at hl
  exact .inr (.inr (.inl ⟨a,ta,f,hf,⟨ha,by omega⟩,rfl,rfl⟩))
 ·rw [cs_cons,bs_len_cons,bs_len_cons,bs_len_cons,bs_len_nil] at hl
  exact .inr (.inr (.inr (.inl ⟨k,g,a,ta,hk,hg,⟨ha,by omega⟩,rfl,rfl⟩)))
 ·rw [cs_cons,bs_len_cons] at hl
  exact .inr (.inr (.inr (.inr (.inl ⟨a,ta,arms,ts,⟨ha,by omega⟩,h1,h4,arms_lt hs (by omega),rfl,rfl⟩))))
 ·rw [cs_cons,bs_len_cons,bs_len_cons,bs_len_cons,bs_len_nil] at hl
  exact .inr (.inr (.inr (.inr (.inr ⟨a,b,c,ta,tb,tc,⟨ha,by omega⟩,⟨hb,by omega⟩,⟨hc,by omega⟩,rfl,rfl⟩))))
end M
namespace M
open PySem
theorem leaf3 {n:Nat} {d:D} {t:Tr} (h:Leaf d t):T3 n d t:=by
 cases n with
 | zero=>exact h
 | succ n=>exact .inl h
def Nt (m:Nat) (R:D→Tr→Prop):D→Tr→Prop:=fun d t=>R d t∧t.nest ≤ m
theorem all2_nt {R:D→Tr→Prop} {m:Nat} {es:List D} {ts:List Tr} (h:All2 R es ts) (hl:nests ts ≤ m):All2 (Nt m R) es ts:=by
 induction h with
 | nil=>exact .nil
 | cons h1 _ ih=>
  simp only [nests] at hl
  exact .cons ⟨h1,by omega⟩ (ih (by omega))
theorem arms_nt {R:D→Tr→Prop} {m:Nat} {es:List D} {ts:List Tr} (h:All2 (Arm R) es ts) (hl:nests ts ≤ m):All2 (Arm (Nt m R)) es ts:=by
 induction h with
 | nil=>exact .nil
 | cons h1 _ ih=>
  obtain ⟨g,x,e,te,hg,hx,he,rfl,rfl⟩:=h1
  simp only [nests,Tr.nest] at hl
  exact .cons ⟨g,x,e,te,hg,hx,⟨he,by omega⟩,rfl,rfl⟩ (ih (by omega))
theorem node_nt {R:D→Tr→Prop} {m:Nat} {d:D} {t:Tr} (h:NodeU R d t) (hl:t.nest ≤ m + 1):NodeU (Nt m R) d t:=by
 rcases h with ⟨s,a,b,ta,tb,hs,ha,hb,rfl,rfl⟩ | ⟨k,es,ts,hk,hes,rfl,rfl⟩ | ⟨a,ta,f,hf,ha,rfl,rfl⟩ | ⟨k,g,a,ta,hk,hg,ha,rfl,rfl⟩ | ⟨a,ta,arms,ts,ha,h1,h4,hs,rfl,rfl⟩ | ⟨a,b,c,ta,tb,tc,ha,hb,hc,rfl,rfl⟩ <;> simp only [nests,Tr.nest] at hl
 ·exact .inl ⟨s,a,b,ta,tb,hs,⟨ha,by omega⟩,⟨hb,by omega⟩,rfl,rfl⟩
 ·exact .inr (.inl ⟨k,es,ts,hk,all2_nt hes (by omega),rfl,rfl⟩)
 ·exact .inr (.inr (.inl ⟨a,ta,f,hf,⟨ha,by omega⟩,rfl,rfl⟩))
 ·exact .inr (.inr (.inr (.inl ⟨k,g,a,ta,hk,hg,⟨ha,by omega⟩,rfl,rfl⟩)))
 ·exact .inr (.inr (.inr (.inr (.inl ⟨a,ta,arms,ts,⟨ha,by omega⟩,h1,h4,arms_nt hs (by omega),rfl,rfl⟩))))
 ·exact .inr (.inr (.inr (.inr (.inr ⟨a,b,c,ta,tb,tc,⟨ha,by omega⟩,⟨hb,by omega⟩,⟨hc,by omega⟩,rfl,rfl⟩))))
theorem node_pos {R:D→Tr→Prop} {d:D} {t:Tr} (h:NodeU R d t):1 ≤ t.nest:=by
 rcases h with ⟨_,_,_,_,_,_,_,_,_,rfl⟩ | ⟨_,_,_,_,_,_,rfl⟩ | ⟨_,_,_,_,_,_,rfl⟩ | ⟨_,_,_,_,_,_,_,_,rfl⟩ | ⟨_,_,_,_,_,_,_,_,_,rfl⟩ | ⟨_,_,_,_,_,_,_,_,_,_,rfl⟩ <;> (simp only [Tr.nest]; omega)
theorem T3.low:∀ {n:Nat} {d:D} {t:Tr},T3 n d t→∀ m,t.nest ≤ m→T3 m d t
 | 0,d,t,h,m,_=>leaf3 h
 | n + 1,d,t,h,m,hm=>by
  rcases h with h | h
  ·exact leaf3 h
  ·obtain ⟨k,rfl⟩:∃ k,m=k + 1:=⟨m - 1,by have:=node_pos h; omega⟩
   exact .inr ((node_nt h hm).imp fun d t h=>T3.low h.1 k h.2)
theorem pt_low {x:Str} {d:D} (h:PT (L x) d) (hd:dm (L x) 0 0 ≤ 20):∃ t,T3 20 d t∧t.cs=L x∧d.size ≤ 3 * x.length:=by
 obtain ⟨n,t,h3,e⟩:=h
 have hn:=dm_nest h3.good
 rw [e] at hn
 refine ⟨t,h3.low 20 (by omega),e,?_⟩
 have:=h3.size3
 rw [e,L_length] at this
 exact this
end M
end
section
namespace K3
open PySem L2 M
seal L2.PE L2.PA L2.PS L2.PSs L2.PT L2.PW L2.PI L2.PG L2.PJ L2.PTs
section
variable {P:Program} {w:World} {K:PySem.W.Frag} {mg:Str→Option Value} {base:Heap} {n m:Nat}
theorem arm_len {R:D→Tr→Prop} (hz:∀ d t,R d t→t.cs.length ≤ 2400000) {d:D} {t:Tr} (h:Arm R d t):t.cs.length ≤ 3000000:=by
 obtain ⟨g,x,e,te,hg,hx,he,rfl,rfl⟩:=h
 have:=hz _ _ he
 have:=hg.le
 have:=hx.le
 simp only [Tr.cs,bs,List.tail_cons,List.length_cons,List.length_append,List.length_nil,cs_tx]
 omega
theorem ok_inner_texts (T:Tx K mg) (R:D→Tr→Prop) (hz:∀ d t,R d t→t.cs.length ≤ 2400000) (D_term_texts:DefIs P w K mg base n "term_texts" ["terms"] (spTexts R)) (D_term_text:DefIs P w K mg base n "term_text" ["term"] (spText R))
  (D_arm_text:DefIs P w K mg base n "arm_text" ["arm"] (spArmText R)):DefIs P w K mg base (n + 1) "inner_texts" ["term"] (spInner (Lt 2400000 (NodeU R))):=by
 refine DefIs.of T.d_inner_texts sc_inner_texts (fun vs H Q E h=>?_) (fun f cdv A outer s H vs Q E hr h=>?_)
 ·obtain ⟨_,_,_,rfl,_⟩:=h
  rfl
 obtain ⟨v,d,ts,rfl,hv,⟨hR,hzz⟩,q⟩:=h
 have nd:=sc_inner_texts.nd
 refine ⟨_,(pss_cons (psn 1 nd (px K (pv 0) pe_int))
   (pss_cons (ps_if (pt_cmpR op_eq (pv 1) pe_str (nomark _)) (pss_one (ps_ret (pe_op op_cat (pe_lst (pa_cons (px K (pv 0) pe_int) pa_nil star_sub)) (pe_dcall D_term_texts hr (pa_cons (pe_slice (gk_slT (K:=K) rfl) (pv 0) (po_some pe_int) po_none) pa_nil star_sub))))) pss_nil)
   (pss_cons (ps_if (pt_cmpR op_eq (pv 1) pe_str (nomark _)) (pss_one (ps_ret (pe_op op_cat (pe_lst (va 1 (pa_cons (px K (pv 0) pe_int) pa_nil star_sub))) (pe_dcall D_term_texts hr (pa_cons (px K (pv 0) pe_int) pa_nil star_sub))))) pss_nil)
   (pss_cons (ps_if (pt_cmpR op_eq (pv 1) pe_str (nomark _)) (pss_one (ps_ret (pe_lst (va 1 (pa_cons (pe_dcall D_term_text hr (pa_cons (px K (pv 0) pe_int) pa_nil star_sub)) (pa_cons (px K (pv 0) pe_int) pa_nil star_sub) star_call))))) pss_nil)
   (pss_cons (ps_if (pt_cmpR op_eq (pv 1) pe_str (nomark _)) (pss_one (ps_ret (pe_lst (va 1 (pa_cons (px K (pv 0) pe_int) (pa_cons (px K (pv 0) pe_int) (pa_cons (pe_dcall D_term_text hr (pa_cons (px K (pv 0) pe_int) pa_nil star_sub)) pa_nil star_call) star_sub) star_sub))))) pss_nil)
   (pss_cons (ps_if (pt_cmpR op_eq (pv 1) pe_str (nomark _)) (pss_one (ps_ret (pe_op op_cat (pe_lst (va 1 (pa_cons (pe_dcall D_term_text hr (pa_cons (px K (pv 0) pe_int) pa_nil star_sub)) pa_nil star_call))) (pe_comp ["arm"] [none] rfl (by kernel_rfl) (gk_pi_tup (K:=K) rfl (px K (pv 0) pe_int)) (fun _ _ _ _=>(pgc 0)) (fun _ _ _ _=>pts_nil) (fun _ _ _ _=>(pe_dcall D_arm_text hr (v1 0))))))) pss_nil)
   (pss_one (ps_ret (pe_op op_cat (pe_lst (v1 1)) (pe_dcall D_term_texts hr (pa_cons (pe_slice (gk_slT (K:=K) rfl) (pv 0) (po_some pe_int) po_none) pa_nil star_sub))))))))))),?_⟩
 rcases hR with ⟨sg,x,y,tx',ty',hs,hx,hy,rfl,e⟩ | ⟨k,es,ts',hk,hes,rfl,e⟩ | ⟨x,tx',g,hg,hx,rfl,e⟩ | ⟨k,g,x,tx',hk,hg,hx,rfl,e⟩ | ⟨x,tx',arms,ts',hx,h1,h4,har,rfl,e⟩ | ⟨x,y,z,tx',ty',tz',hx,hy,hz',rfl,e⟩
 ·cases e
  obtain ⟨a,us,rfl,ha,_,_,rfl,rfl,_,_,rfl,rfl,v1,_,rfl,r1,v2,_,rfl,r2,rfl⟩:=hv
  have hS:SqT K H a [.str (S "op"),.str sg,v1,v2]:=SqT.of ha
  refine ⟨_,rfl,a,_,_,_,rfl,rfl,hS,rfl,?_⟩
  refine ⟨_,rfl,rfl,_,rfl,iteKT (by decide +kernel) ?_⟩
  refine ⟨_,rfl,a,_,_,_,rfl,rfl,hS,rfl,(by show 1 ≤ sizeLine; decide),fun l hl=>?_⟩
  have sl:=Same.new hl (.lst [.str sg])
  refine ⟨_,rfl,_,rfl,a,_,rfl,SqT.of (sl _ _ ha),(fun z=>absurd (show (2:Nat)=0 from z.1) (by decide)),fun c hc=>?_⟩
  have sc:=Same.new hc (.tup (cutV [V.str (S "op"),.str sg,v1,v2] (some 2) none))
  refine ⟨c,[v1,v2],[x,y],[tx',ty'],rfl,upd_same,⟨v1,_,rfl,r1.same (sl.trans sc) _,v2,_,rfl,r2.same (sl.trans sc) _,rfl⟩,.cons hx (.cons hy .nil),(by simp),fun b H2 s2 hb=>?_⟩
  refine ⟨l,b,[.str sg],[vOf tx',vOf ty'],rfl,rfl,s2 _ _ (sc _ _ upd_same),hb,(by show 3 ≤ sizeLine; decide),fun p hp=>?_⟩
  refine q p _ (sl.trans (sc.trans (s2.trans (Same.new hp _)))) ?_
  rw [upd_same]
  show some (HO.lst [V.str sg,vOf tx',vOf ty'])=some (HO.lst [vOf (tx sg),vOf tx',vOf ty'])
  rw [vOf_tx]
 ·cases e
  obtain ⟨a,us,rfl,ha,_,_,rfl,rfl,_,_,rfl,rfl,v1,_,rfl,⟨b1,us1,rfl,hb1,rr⟩,rfl⟩:=hv
  have hS:SqT K H a [.str (S "rec"),.str k,.ref b1]:=SqT.of ha
  have l1:=hes.length
  have l2:=rr.length
  have l3:=all2_few hes
  rw [cs_cons,bs_len_cons] at hzz
  refine ⟨_,rfl,a,_,_,_,rfl,rfl,hS,rfl,?_⟩
  refine ⟨_,rfl,rfl,_,rfl,iteKF (by decide +kernel) ?_⟩
  refine ⟨_,rfl,rfl,_,rfl,iteKT (by decide +kernel) ?_⟩
  refine ⟨_,rfl,_,rfl,a,_,_,_,rfl,rfl,hS,rfl,(by show 2 ≤ sizeLine; decide),fun l hl=>?_⟩
  have sl:=Same.new hl (.lst [.str (S "rec"),.str k])
  refine ⟨_,rfl,a,_,_,_,rfl,rfl,SqT.of (sl _ _ ha),rfl,b1,us1,es,ts',rfl,sl _ _ hb1,rr.same sl _,hes,by omega,fun b H2 s2 hb=>?_⟩
  refine ⟨l,b,[.str (S "rec"),.str k],ts'.map vOf,rfl,rfl,s2 _ _ upd_same,hb,?_,fun p hp=>?_⟩
  ·rw [List.length_map]; exact fits (by simp; omega)
  refine q p _ (sl.trans (s2.trans (Same.new hp _))) ?_
  rw [upd_same]
  show some (HO.lst (V.str (S "rec") :: V.str k :: ts'.map vOf))=some (HO.lst (vOf (tx (S "rec")) :: vOf (tx k) :: ts'.map vOf))
  rw [vOf_tx,vOf_tx]
 ·cases e
  obtain ⟨a,us,rfl,ha,_,_,rfl,rfl,v1,_,rfl,r1,_,_,rfl,rfl,rfl⟩:=hv
  have hS:SqT K H a [.str (S "get"),v1,.str g]:=SqT.of ha
  refine ⟨_,rfl,a,_,_,_,rfl,rfl,hS,rfl,?_⟩
  refine ⟨_,rfl,rfl,_,rfl,iteKF (by decide +kernel) ?_⟩
  refine ⟨_,rfl,rfl,_,rfl,iteKF (by decide +kernel) ?_⟩
  refine ⟨_,rfl,rfl,_,rfl,iteKT (by decide +kernel) ?_⟩
  refine ⟨_,rfl,_,rfl,a,_,_,_,rfl,rfl,hS,rfl,v1,x,tx',rfl,r1,hx,fun H1 s1=>?_⟩
  refine ⟨_,rfl,a,_,_,_,rfl,rfl,SqT.of (s1 _ _ ha),rfl,(by show 3 ≤ sizeLine; decide),fun l hl=>?_⟩
  refine q l _ (s1.trans (Same.new hl _)) ?_
  rw [upd_same]
  show some (HO.lst [V.str (S "get"),vOf tx',V.str g])=some (HO.lst [vOf (tx (S "get")),vOf tx',vOf (tx g)])
  rw [vOf_tx,vOf_tx]
 ·cases e
  obtain ⟨a,us,rfl,ha,_,_,rfl,rfl,_,_,rfl,rfl,_,_,rfl,rfl,v1,_,rfl,r1,rfl⟩:=hv
  have hS:SqT K H a [.str (S "tag"),.str k,.str g,v1]:=SqT.of ha
  refine ⟨_,rfl,a,_,_,_,rfl,rfl,hS,rfl,?_⟩
  refine ⟨_,rfl,rfl,_,rfl,iteKF (by decide +kernel) ?_⟩
  refine ⟨_,rfl,rfl,_,rfl,iteKF (by decide +kernel) ?_⟩
  refine ⟨_,rfl,rfl,_,rfl,iteKF (by decide +kernel) ?_⟩
  refine ⟨_,rfl,rfl,_,rfl,iteKT (by decide +kernel) ?_⟩
  refine ⟨_,rfl,_,rfl,a,_,_,_,rfl,rfl,hS,rfl,_,rfl,a,_,_,_,rfl,rfl,hS,rfl,_,rfl,a,_,_,_,rfl,rfl,hS,rfl,v1,x,tx',rfl,r1,hx,fun H1 s1=>⟨(by show 4 ≤ sizeLine; decide),fun l hl=>?_⟩⟩
  refine q l _ (s1.trans (Same.new hl _)) ?_
  rw [upd_same]
  show some (HO.lst [V.str (S "tag"),V.str k,V.str g,vOf tx'])=some (HO.lst [vOf (tx (S "tag")),vOf (tx k),vOf (tx g),vOf tx'])
  rw [vOf_tx,vOf_tx,vOf_tx]
 ·cases e
  obtain ⟨a,us,rfl,ha,_,_,rfl,rfl,v1,_,rfl,r1,_,_,rfl,⟨b1,us1,rfl,hb1,rr⟩,rfl⟩:=hv
  have hS:SqT K H a [.str (S "case"),v1,.ref b1]:=SqT.of ha
  have l1:=har.length
  have l2:=rr.length
  refine ⟨_,rfl,a,_,_,_,rfl,rfl,hS,rfl,?_⟩
  refine ⟨_,rfl,rfl,_,rfl,iteKF (by decide +kernel) ?_⟩
  refine ⟨_,rfl,rfl,_,rfl,iteKF (by decide +kernel) ?_⟩
  refine ⟨_,rfl,rfl,_,rfl,iteKF (by decide +kernel) ?_⟩
  refine ⟨_,rfl,rfl,_,rfl,iteKF (by decide +kernel) ?_⟩
  refine ⟨_,rfl,rfl,_,rfl,iteKT (by decide +kernel) ?_⟩
  refine ⟨_,rfl,_,rfl,a,_,_,_,rfl,rfl,hS,rfl,v1,x,tx',rfl,r1,hx,fun H1 s1=>⟨(by show 2 ≤ sizeLine; decide),fun l hl=>?_⟩⟩
  have sl:=Same.new hl (.lst [.str (S "case"),vOf tx'])
  have s1l:=s1.trans sl
  refine ⟨_,rfl,a,_,_,_,rfl,rfl,SqT.of (s1l _ _ ha),rfl,b1,rfl,⟨_,SqT.of (s1l _ _ hb1)⟩,?_⟩
  refine comp_tup (j:=0) (xs:=us1) (fun i ys H'=>Same (upd H1 l (.lst [.str (S "case"),vOf tx'])) H'∧ys=(ts'.take i).map vOf) (by rfl) ⟨Same.refl _,rfl⟩ (fitsLt (by omega)) (fun i ys H' _ p=>SqT.of (p.1 _ _ (s1l _ _ hb1))) ?_ ?_
  ·rintro i v ys H' hv' hl' ⟨sm,rfl⟩
   obtain ⟨d',hdi,rd⟩:=rr.get hv'
   obtain ⟨t',hti,rt⟩:=har.get hdi
   have hi:i < us1.length:=(List.getElem?_eq_some_iff.mp hv').1
   refine ⟨_,rfl,v,d',t',rfl,rd.same (s1l.trans sm) _,rt,arm_len hz rt,fun H2 s2=>nxt hi hl' ⟨sm.trans s2,?_⟩⟩
   rw [List.take_add_one,hti]
   simp
  ·rintro ys H' hl' ⟨sm,rfl⟩ b hb
   have sb:=Same.new hb (.lst ((ts'.take us1.length).map vOf))
   refine ⟨l,b,[.str (S "case"),vOf tx'],(ts'.take us1.length).map vOf,rfl,rfl,sb _ _ (sm _ _ upd_same),upd_same,?_,fun p hp=>?_⟩
   ·rw [List.length_map,List.length_take]; exact fits (by simp; omega)
   refine q p _ (s1l.trans (sm.trans (sb.trans (Same.new hp _)))) ?_
   rw [upd_same,List.take_of_length_le (by omega)]
   show some (HO.lst (V.str (S "case") :: vOf tx' :: ts'.map vOf))=some (HO.lst (vOf (tx (S "case")) :: vOf tx' :: ts'.map vOf))
   rw [vOf_tx]
 ·cases e
  obtain ⟨a,us,rfl,ha,_,_,rfl,rfl,v1,_,rfl,r1,v2,_,rfl,r2,v3,_,rfl,r3,rfl⟩:=hv
  have hS:SqT K H a [.str (S "if"),v1,v2,v3]:=SqT.of ha
  refine ⟨_,rfl,a,_,_,_,rfl,rfl,hS,rfl,?_⟩
  refine ⟨_,rfl,rfl,_,rfl,iteKF (by decide +kernel) ?_⟩
  refine ⟨_,rfl,rfl,_,rfl,iteKF (by decide +kernel) ?_⟩
  refine ⟨_,rfl,rfl,_,rfl,iteKF (by decide +kernel) ?_⟩
  refine ⟨_,rfl,rfl,_,rfl,iteKF (by decide +kernel) ?_⟩
  refine ⟨_,rfl,rfl,_,rfl,iteKF (by decide +kernel) ?_⟩
  refine ⟨_,rfl,(by show 1 ≤ sizeLine; decide),fun l hl=>?_⟩
  have sl:=Same.new hl (.lst [.str (S "if")])
  refine ⟨_,rfl,_,rfl,a,_,rfl,SqT.of (sl _ _ ha),(fun z=>absurd (show (1:Nat)=0 from z.1) (by decide)),fun c hc=>?_⟩
  have sc:=Same.new hc (.tup (cutV [V.str (S "if"),v1,v2,v3] (some 1) none))
  have slc:=sl.trans sc
  refine ⟨c,[v1,v2,v3],[x,y,z],[tx',ty',tz'],rfl,upd_same,⟨v1,_,rfl,r1.same slc _,v2,_,rfl,r2.same slc _,v3,_,rfl,r3.same slc _,rfl⟩,.cons hx (.cons hy (.cons hz' .nil)),(by simp),fun b H2 s2 hb=>?_⟩
  refine ⟨l,b,[.str (S "if")],[vOf tx',vOf ty',vOf tz'],rfl,rfl,s2 _ _ (sc _ _ upd_same),hb,(by show 4 ≤ sizeLine; decide),fun p hp=>?_⟩
  refine q p _ (slc.trans (s2.trans (Same.new hp _))) ?_
  rw [upd_same]
  show some (HO.lst [V.str (S "if"),vOf tx',vOf ty',vOf tz'])=some (HO.lst [vOf (tx (S "if")),vOf tx',vOf ty',vOf tz'])
  rw [vOf_tx]
theorem node_head {R:D→Tr→Prop}:∀ d t,NodeU R d t→∃ ts a r,t=.l ts∧d=.tup (.str a :: r)∧a≠S "num"∧a≠S "box":=by
 intro d t h
 rcases h with ⟨sg,x,y,tx',ty',hs,hx,hy,rfl,rfl⟩ | ⟨k,es,ts',hk,hes,rfl,rfl⟩ | ⟨x,tx',g,hg,hx,rfl,rfl⟩ | ⟨k,g,x,tx',hk,hg,hx,rfl,rfl⟩ | ⟨x,tx',arms,ts',hx,h1,h4,har,rfl,rfl⟩ | ⟨x,y,z,tx',ty',tz',hx,hy,hz',rfl,rfl⟩ <;> exact ⟨_,_,_,rfl,rfl,by decide +kernel,by decide +kernel⟩
def RT (n:Nat):D→Tr→Prop:=Lt 2000000 (T3 n)
theorem rt_imp {n:Nat} {d:D} {t:Tr} (h:Lt 2000000 (NodeU (T3 n)) d t):Lt 2400000 (NodeU (RT n)) d t:=⟨node_lt h.1 h.2,by have:=h.2; omega⟩
theorem writer3 (T:Tx K mg):∀ m,DefIs P w K mg base (3 * m + 2) "term_text" ["term"] (spText (RT m))
 | 0=>by
  refine (ok_term_text (n:=1) T (fun _ _=>False) (fun _ _ h=>h.elim) (DefIs.none T.d_inner_texts ?_) (ok_bracketed (n:=0) T) fun _ _ h=>h.elim).imp ?_
  ·rintro vs H Q E ⟨_,_,_,_,_,h,_⟩
   exact h
  ·rintro vs H Q E ⟨v,d,t,h1,h2,h3,h4⟩
   exact ⟨v,d,t,h1,h2,.inl h3.1,h4⟩
 | m + 1=>by
  have ih:=writer3 T m
  have hz:∀ d t,RT m d t→t.cs.length ≤ 2400000:=fun d t h=>by have:=h.2; omega
  have b1:∀ k,DefIs P w K mg base (k + 1) "bracketed" ["texts"] spBracketed:=fun k=>ok_bracketed T
  have tt:=ok_term_texts T (RT m) ih
  have at':=ok_arm_text T (RT m) ih (b1 (3 * m + 1))
  have it:=ok_inner_texts T (RT m) hz tt (ih.mono (by omega)) at'
  have:=ok_term_text T (Lt 2400000 (NodeU (RT m))) (fun d t h=>by have:=h.2; omega) it (b1 (3 * m + 3)) (fun d t h=>node_head d t h.1)
  refine this.imp ?_
  rintro vs H Q E ⟨v,d,t,h1,h2,h3,h4⟩
  refine ⟨v,d,t,h1,h2,?_,h4⟩
  rcases h3.1 with h | h
  ·exact .inl h
  ·exact .inr (rt_imp ⟨h,h3.2⟩)
end
end K3
end
section
local macro_rules | `(tactic| walk_at "no")=>`(tactic| refine ⟨_,rfl,rfl,_,rfl,M.iteKF (by decide +kernel) ?_⟩)
local macro_rules | `(tactic| walk_at "yes")=>`(tactic| refine ⟨_,rfl,rfl,_,rfl,M.iteKT (by decide +kernel) ?_⟩)
namespace K3
open PySem L2 M
seal L2.PE L2.PA L2.PS L2.PSs L2.PT L2.PW L2.PI L2.PG L2.PJ L2.PTs
section
variable {P:Program} {w:World} {K:PySem.W.Frag} {mg:Str→Option Value} {base:Heap} {n m:Nat}
theorem text_sizes {ts:List Tr} (hz:(Tr.l ts).cs.length ≤ 2400000):((ts.map strOf).map (·.length)).sum + (ts.map strOf).length * (S " ").length ≤ 16777216∧(S "(").length + (Txt.join (S " ") (ts.map strOf)).length ≤ sizeLine∧(S "("++Txt.join (S " ") (ts.map strOf)).length + (S ")").length ≤ sizeLine:=by
 have h1:=sum_trees ts
 have h2:=bs_le ts
 have h3:=cs_l ts
 have hj:(Txt.join (S " ") (ts.map strOf)).length=(bs ts).tail.length:=by rw [← L_length,join_trees]
 have l1:(S "(").length=1:=by decide +kernel
 have l2:(S ")").length=1:=by decide +kernel
 have l3:(S " ").length=1:=by decide +kernel
 refine ⟨?_,fits ?_,fits ?_⟩
 ·rw [l3,List.length_map]
  omega
 ·omega
 ·rw [Str.length_append]
  omega
theorem text_is {ts:List Tr} {H:Hp} {Q:VK} (q:Q (vOf (.l ts)) H):Q (.str (S "("++Txt.join (S " ") (ts.map strOf)++S ")")) H:=by
 unfold vOf at q
 rw [← bracket_text] at q
 exact q
theorem ok__law_text (T:Tx K mg) (R:D→Tr→Prop) (hz:∀ d t,R d t→t.cs.length ≤ 2400000) (hzN:∀ d t,Node R d t→t.cs.length ≤ 2400000) (D__law_text:DefIs P w K mg base n "_law_text" ["_law_term_here"] (spText R)):DefIs P w K mg base (n + 1) "_law_text" ["_law_term_here"] (spText fun d t=>Leaf d t∨Node R d t):=by
 refine DefIs.of T.d__law_text sc__law_text (fun vs H Q E h=>?_) (fun f cdv A outer s H vs Q E hr h=>?_)
 ·obtain ⟨_,_,_,rfl,_⟩:=h
  rfl
 obtain ⟨v,d,t,rfl,hv,hR,k⟩:=h
 have nd:=sc__law_text.nd
 refine ⟨_,(pss_cons (psn 1 nd (px K (pv 0) pe_int))
   (pss_cons (ps_if (PW.pt (pw_or (pt_cmpR op_eq (pv 1) pe_str (nomark _)) (pw_or1 (pt_cmpR op_eq (pv 1) pe_str (nomark _))))) (pss_one (ps_ret (pe_callTy (call_str_int.or call_str_str) rfl T.z_str PyProof.Rows.boot_str (pa_cons (px K (pv 0) pe_int) pa_nil star_sub)))) pss_nil)
   (pss_cons (psn 2 nd (pe_lst (v1 1)))
   (pss_cons (ps_if (pt_cmpR op_eq (pv 1) pe_str (nomark _)) (pss_one (psn 2 nd (pe_lst (pa_cons (px K (pv 0) pe_int) (pa_cons (pe_dcall D__law_text hr (pa_cons (px K (pv 0) pe_int) pa_nil star_sub)) (pa_cons (pe_dcall D__law_text hr (pa_cons (px K (pv 0) pe_int) pa_nil star_sub)) pa_nil star_call) star_call) star_sub)))) pss_nil)
   (pss_cons (ps_if (pt_cmpR op_eq (pv 1) pe_str (nomark _)) (pss_one (psn 2 nd (pe_op op_cat (pe_op op_cat (pv 2) (pe_lst (pa_cons (px K (pv 0) pe_int) pa_nil star_sub))) (pe_comp ["_law_one"] [none] rfl (by kernel_rfl) (gk_pi_tup (K:=K) rfl (px K (pv 0) pe_int)) (fun _ _ _ _=>(pgc 0)) (fun _ _ _ _=>pts_nil) (fun _ _ _ _=>(pe_dcall D__law_text hr (v1 0))))))) pss_nil)
   (pss_cons (ps_if (pt_cmpR op_eq (pv 1) pe_str (nomark _)) (pss_one (psn 2 nd (pe_op op_cat (pv 2) (pe_lst (pa_cons (pe_dcall D__law_text hr (pa_cons (px K (pv 0) pe_int) pa_nil star_sub)) (pa_cons (px K (pv 0) pe_int) pa_nil star_sub) star_call))))) pss_nil)
   (pss_cons (ps_if (pt_cmpR op_eq (pv 1) pe_str (nomark _)) (pss_one (psn 2 nd (pe_op op_cat (pv 2) (pe_lst (pa_cons (px K (pv 0) pe_int) (pa_cons (px K (pv 0) pe_int) (pa_cons (pe_dcall D__law_text hr (pa_cons (px K (pv 0) pe_int) pa_nil star_sub)) pa_nil star_call) star_sub) star_sub))))) pss_nil)
   (pss_cons (ps_if (pt_cmpR op_eq (pv 1) pe_str (nomark _)) (pss_cons (psn 2 nd (pe_op op_cat (pv 2) (pe_lst (pa_cons (pe_dcall D__law_text hr (pa_cons (px K (pv 0) pe_int) pa_nil star_sub)) pa_nil star_call))))
   (pss_one (ps_for PassesOwn.never rfl (gk_pi_tup (K:=K) rfl (px K (pv 0) pe_int)) (pg_tupC (K:=K) rfl rfl (pgs_cons (pgn 3 nd) (pgs_cons (pgn 4 nd) (pgs_cons (pgn 5 nd) pgs_nil))))
   (pss_one (ps_expr (pe_bm PySem.F.plainAttrs_list PySem.F.slot_list_append PySem.F.type_list_append mt_append (pv 2) (pa_cons (pe_fstr (pj_lit (pj_str (pv 3) (pj_lit (pj_str (pv 4) (pj_lit (pj_str (pe_dcall D__law_text hr (v1 5)) (pj_lit pj_nil)))))))) pa_nil star_fstr))))))) pss_nil)
   (pss_cons (ps_if (pt_cmpR op_eq (pv 1) pe_str (nomark _)) (pss_one (psn 2 nd (pe_op op_cat (pv 2) (pe_comp ["_law_one"] [none] rfl (by kernel_rfl) (gk_pi_tup (K:=K) rfl (pe_slice (gk_slT (K:=K) rfl) (pv 0) (po_some pe_int) po_none)) (fun _ _ _ _=>(pgc 0)) (fun _ _ _ _=>pts_nil) (fun _ _ _ _=>(pe_dcall D__law_text hr (v1 0))))))) pss_nil)
   (pss_one (ps_ret (pe_op op_add_str (pe_op op_add_str pe_str (pe_bm PySem.F.plainAttrs_str PySem.F.slot_str_join PySem.F.type_str_join mt_join pe_str (v1 2))) pe_str)))))))))))),?_⟩
 rcases hR with (⟨i,i0,i1,rfl,rfl⟩ | ⟨x,hx,rfl,rfl⟩) | hR
 ·obtain ⟨a,us,rfl,ha,_,_,rfl,rfl,_,_,rfl,rfl,rfl⟩:=hv
  have hS:SqT K H a [.str (S "num"),.int i]:=SqT.of ha
  refine ⟨_,rfl,a,_,_,_,rfl,rfl,hS,rfl,?_⟩
  refine ⟨_,rfl,rfl,_,rfl,iteKT (by decide +kernel) (iteT ?_)⟩
  refine ⟨_,rfl,a,_,_,_,rfl,rfl,hS,rfl,.inl ⟨i,rfl,log_small (by omega),?_⟩⟩
  have:=k H (Same.refl _)
  rw [vOf_tx] at this
  exact this
 ·obtain ⟨a,us,rfl,ha,_,_,rfl,rfl,_,_,rfl,rfl,rfl⟩:=hv
  have hS:SqT K H a [.str (S "box"),.str x]:=SqT.of ha
  refine ⟨_,rfl,a,_,_,_,rfl,rfl,hS,rfl,?_⟩
  refine ⟨_,rfl,rfl,_,rfl,iteKF (by decide +kernel) ?_⟩
  refine ⟨_,rfl,rfl,_,rfl,iteKT (by decide +kernel) ?_⟩
  refine ⟨_,rfl,a,_,_,_,rfl,rfl,hS,rfl,.inr ⟨x,rfl,?_⟩⟩
  have:=k H (Same.refl _)
  rw [vOf_tx] at this
  exact this
 have hzt:=hzN d t hR
 rcases hR with ⟨sg,x,y,tx',ty',hs,hx,hy,rfl,rfl⟩ | ⟨kk,es,ts',hk,h5,hes,rfl,rfl⟩ | ⟨x,tx',g,hg,hx,rfl,rfl⟩ | ⟨kk,g,x,tx',hk,hg,hx,rfl,rfl⟩ | ⟨x,tx',arms,ts',hx,h1,h4,har,rfl,rfl⟩ | ⟨x,y,z,tx',ty',tz',hx,hy,hz',rfl,rfl⟩
 ·obtain ⟨a,us,rfl,ha,_,_,rfl,rfl,_,_,rfl,rfl,v1,_,rfl,r1,v2,_,rfl,r2,rfl⟩:=hv
  have jz:=text_sizes hzt
  have hS:SqT K H a [.str (S "op"),.str sg,v1,v2]:=SqT.of ha
  refine ⟨_,rfl,a,_,_,_,rfl,rfl,hS,rfl,?_⟩
  refine ⟨_,rfl,rfl,_,rfl,iteKF (by decide +kernel) ?_⟩
  walk_at "no"
  refine ⟨_,rfl,(by show 1 ≤ sizeLine; decide),fun l hl=>?_⟩
  have sl:=Same.new hl (.lst [.str (S "op")])
  walk_at "yes"
  refine ⟨_,rfl,a,_,_,_,rfl,rfl,SqT.of (sl _ _ ha),rfl,_,rfl,a,_,_,_,rfl,rfl,SqT.of (sl _ _ ha),rfl,v1,x,tx',rfl,r1.same sl _,hx,fun H1 s1=>?_⟩
  have s1':=sl.trans s1
  refine ⟨_,rfl,a,_,_,_,rfl,rfl,SqT.of (s1' _ _ ha),rfl,v2,y,ty',rfl,r2.same s1' _,hy,fun H2 s2=>⟨(by show 3 ≤ sizeLine; decide),fun l2 hl2=>?_⟩⟩
  have s2':=s1'.trans (s2.trans (Same.new hl2 (.lst [.str sg,vOf tx',vOf ty'])))
  walk_at "no"
  walk_at "no"
  walk_at "no"
  walk_at "no"
  walk_at "no"
  exact ⟨rfl,_,rfl,S " ",l2,List.map strOf [tx sg,tx',ty'],rfl,rfl,SqL.of (by rw [upd_same,← mapV]; show some (HO.lst [V.str sg,vOf tx',vOf ty'])=some (HO.lst [vOf (tx sg),vOf tx',vOf ty']); rw [vOf_tx]),jz.1,_,_,rfl,rfl,jz.2.1,_,_,rfl,rfl,jz.2.2,text_is (k _ (s2'))⟩
 ·obtain ⟨a,us,rfl,ha,_,_,rfl,rfl,_,_,rfl,rfl,v1,_,rfl,⟨b1,us1,rfl,hb1,rr⟩,rfl⟩:=hv
  have jz:=text_sizes hzt
  have lE:=hes.length
  have lU:=rr.length
  have hS:SqT K H a [.str (S "rec"),.str kk,.ref b1]:=SqT.of ha
  refine ⟨_,rfl,a,_,_,_,rfl,rfl,hS,rfl,?_⟩
  refine ⟨_,rfl,rfl,_,rfl,iteKF (by decide +kernel) ?_⟩
  walk_at "no"
  refine ⟨_,rfl,(by show 1 ≤ sizeLine; decide),fun l hl=>?_⟩
  have sl:=Same.new hl (.lst [.str (S "rec")])
  walk_at "no"
  walk_at "yes"
  refine ⟨_,rfl,_,rfl,a,_,_,_,rfl,rfl,SqT.of (sl _ _ ha),rfl,(by show 1 ≤ sizeLine; decide),fun l2 hl2=>⟨l,l2,_,_,rfl,rfl,Same.new hl2 _ _ _ upd_same,upd_same,(by show 2 ≤ sizeLine; decide),fun l3 hl3=>?_⟩⟩
  have s3:=sl.trans ((Same.new hl2 (.lst [.str kk])).trans (Same.new hl3 (.lst [V.str (S "rec"),.str kk])))
  refine ⟨_,rfl,a,_,_,_,rfl,rfl,SqT.of (s3 _ _ ha),rfl,b1,rfl,⟨_,SqT.of (s3 _ _ hb1)⟩,?_⟩
  refine comp_tup (j:=0) (xs:=us1) (fun i ys H'=>Same (upd (upd (upd H l (.lst [.str (S "rec")])) l2 (.lst [.str kk])) l3 (.lst [V.str (S "rec"),.str kk])) H'∧ys=(ts'.take i).map vOf) (by rfl) ⟨Same.refl _,rfl⟩ (fitsLt (by omega)) (fun i ys H' _ p=>SqT.of (p.1 _ _ (s3 _ _ hb1))) ?_ ?_
  ·rintro i v ys H' hv' hl' ⟨sm,rfl⟩
   obtain ⟨d',hdi,rd⟩:=rr.get hv'
   obtain ⟨t',hti,rt⟩:=hes.get hdi
   have hi:i < us1.length:=(List.getElem?_eq_some_iff.mp hv').1
   refine ⟨_,rfl,v,d',t',rfl,rd.same (s3.trans sm) _,rt,fun H2 s2=>nxt hi hl' ⟨sm.trans s2,?_⟩⟩
   rw [List.take_add_one,hti]
   simp
  rintro ys H' hl' ⟨sm,rfl⟩ b hb
  have sb:=Same.new hb (.lst ((ts'.take us1.length).map vOf))
  refine ⟨l3,b,[.str (S "rec"),.str kk],(ts'.take us1.length).map vOf,rfl,rfl,sb _ _ (sm _ _ upd_same),upd_same,?_,fun p hp=>?_⟩
  ·rw [List.length_map,List.length_take]; exact fits (by simp; omega)
  have s4:=s3.trans (sm.trans (sb.trans (Same.new hp (.lst ([V.str (S "rec"),.str kk]++(ts'.take us1.length).map vOf)))))
  walk_at "no"
  walk_at "no"
  walk_at "no"
  walk_at "no"
  have eL:(upd (upd H' b (.lst ((ts'.take us1.length).map vOf))) p (.lst ([V.str (S "rec"),.str kk]++(ts'.take us1.length).map vOf))) p=some (.lst ((List.map strOf (tx (S "rec") :: tx kk :: ts')).map V.str)):=by
   rw [upd_same,← mapV,List.take_of_length_le (by omega)]
   show some (HO.lst (V.str (S "rec") :: V.str kk :: ts'.map vOf))=some (HO.lst (vOf (tx (S "rec")) :: vOf (tx kk) :: ts'.map vOf))
   rw [vOf_tx,vOf_tx]
  exact ⟨rfl,_,rfl,S " ",p,List.map strOf (tx (S "rec") :: tx kk :: ts'),rfl,rfl,SqL.of (eL),jz.1,_,_,rfl,rfl,jz.2.1,_,_,rfl,rfl,jz.2.2,text_is (k _ (s4))⟩
 ·obtain ⟨a,us,rfl,ha,_,_,rfl,rfl,v1,_,rfl,r1,_,_,rfl,rfl,rfl⟩:=hv
  have jz:=text_sizes hzt
  have hS:SqT K H a [.str (S "get"),v1,.str g]:=SqT.of ha
  refine ⟨_,rfl,a,_,_,_,rfl,rfl,hS,rfl,?_⟩
  refine ⟨_,rfl,rfl,_,rfl,iteKF (by decide +kernel) ?_⟩
  walk_at "no"
  refine ⟨_,rfl,(by show 1 ≤ sizeLine; decide),fun l hl=>?_⟩
  have sl:=Same.new hl (.lst [.str (S "get")])
  walk_at "no"
  walk_at "no"
  walk_at "yes"
  refine ⟨_,rfl,_,rfl,a,_,_,_,rfl,rfl,SqT.of (sl _ _ ha),rfl,v1,x,tx',rfl,r1.same sl _,hx,fun H1 s1=>?_⟩
  have s1':=sl.trans s1
  refine ⟨_,rfl,a,_,_,_,rfl,rfl,SqT.of (s1' _ _ ha),rfl,(by show 2 ≤ sizeLine; decide),fun l2 hl2=>⟨l,l2,_,_,rfl,rfl,Same.new hl2 _ _ _ (s1 _ _ upd_same),upd_same,(by show 3 ≤ sizeLine; decide),fun l3 hl3=>?_⟩⟩
  have s3:=s1'.trans ((Same.new hl2 (.lst [vOf tx',.str g])).trans (Same.new hl3 (.lst ([V.str (S "get")]++[vOf tx',.str g]))))
  walk_at "no"
  walk_at "no"
  walk_at "no"
  exact ⟨rfl,_,rfl,S " ",l3,List.map strOf [tx (S "get"),tx',tx g],rfl,rfl,SqL.of (by rw [upd_same,← mapV]; show some (HO.lst [V.str (S "get"),vOf tx',V.str g])=some (HO.lst [vOf (tx (S "get")),vOf tx',vOf (tx g)]); rw [vOf_tx,vOf_tx]),jz.1,_,_,rfl,rfl,jz.2.1,_,_,rfl,rfl,jz.2.2,text_is (k _ (s3))⟩
 ·obtain ⟨a,us,rfl,ha,_,_,rfl,rfl,_,_,rfl,rfl,_,_,rfl,rfl,v1,_,rfl,r1,rfl⟩:=hv
  have jz:=text_sizes hzt
  have hS:SqT K H a [.str (S "tag"),.str kk,.str g,v1]:=SqT.of ha
  refine ⟨_,rfl,a,_,_,_,rfl,rfl,hS,rfl,?_⟩
  refine ⟨_,rfl,rfl,_,rfl,iteKF (by decide +kernel) ?_⟩
  walk_at "no"
  refine ⟨_,rfl,(by show 1 ≤ sizeLine; decide),fun l hl=>?_⟩
  have sl:=Same.new hl (.lst [.str (S "tag")])
  walk_at "no"
  walk_at "no"
  walk_at "no"
  walk_at "yes"
  refine ⟨_,rfl,_,rfl,a,_,_,_,rfl,rfl,SqT.of (sl _ _ ha),rfl,_,rfl,a,_,_,_,rfl,rfl,SqT.of (sl _ _ ha),rfl,_,rfl,a,_,_,_,rfl,rfl,SqT.of (sl _ _ ha),rfl,v1,x,tx',rfl,r1.same sl _,hx,fun H1 s1=>?_⟩
  have s1':=sl.trans s1
  refine ⟨(by show 3 ≤ sizeLine; decide),fun l2 hl2=>⟨l,l2,_,_,rfl,rfl,Same.new hl2 _ _ _ (s1 _ _ upd_same),upd_same,(by show 4 ≤ sizeLine; decide),fun l3 hl3=>?_⟩⟩
  have s3:=s1'.trans ((Same.new hl2 (.lst [.str kk,.str g,vOf tx'])).trans (Same.new hl3 (.lst ([V.str (S "tag")]++[.str kk,.str g,vOf tx']))))
  walk_at "no"
  walk_at "no"
  exact ⟨rfl,_,rfl,S " ",l3,List.map strOf [tx (S "tag"),tx kk,tx g,tx'],rfl,rfl,SqL.of (by rw [upd_same,← mapV]; show some (HO.lst [V.str (S "tag"),V.str kk,V.str g,vOf tx'])=some (HO.lst [vOf (tx (S "tag")),vOf (tx kk),vOf (tx g),vOf tx']); rw [vOf_tx,vOf_tx,vOf_tx]),jz.1,_,_,rfl,rfl,jz.2.1,_,_,rfl,rfl,jz.2.2,text_is (k _ (s3))⟩
 ·obtain ⟨a,us,rfl,ha,_,_,rfl,rfl,v1,_,rfl,r1,_,_,rfl,⟨b1,us1,rfl,hb1,rr⟩,rfl⟩:=hv
  have jz:=text_sizes hzt
  have lE:=har.length
  have lU:=rr.length
  have hS:SqT K H a [.str (S "case"),v1,.ref b1]:=SqT.of ha
  refine ⟨_,rfl,a,_,_,_,rfl,rfl,hS,rfl,?_⟩
  refine ⟨_,rfl,rfl,_,rfl,iteKF (by decide +kernel) ?_⟩
  walk_at "no"
  refine ⟨_,rfl,(by show 1 ≤ sizeLine; decide),fun l hl=>?_⟩
  have sl:=Same.new hl (.lst [.str (S "case")])
  walk_at "no"
  walk_at "no"
  walk_at "no"
  walk_at "no"
  walk_at "yes"
  refine ⟨_,rfl,_,rfl,a,_,_,_,rfl,rfl,SqT.of (sl _ _ ha),rfl,v1,x,tx',rfl,r1.same sl _,hx,fun H1 s1=>?_⟩
  have s1':=sl.trans s1
  refine ⟨(by show 1 ≤ sizeLine; decide),fun l2 hl2=>⟨l,l2,_,_,rfl,rfl,Same.new hl2 _ _ _ (s1 _ _ upd_same),upd_same,(by show 2 ≤ sizeLine; decide),fun l3 hl3=>?_⟩⟩
  have s2:=s1'.trans (Same.new hl2 (.lst [vOf tx']))
  have n3:H l3=none:=none_of_same s2 hl3
  have s3:=s2.trans (Same.new hl3 (.lst ([V.str (S "case")]++[vOf tx'])))
  refine ⟨_,rfl,a,_,_,_,rfl,rfl,SqT.of (s3 _ _ ha),rfl,b1,rfl,⟨_,SqT.of (s3 _ _ hb1)⟩,?_⟩
  refine for_tup (xs:=us1) (fun i σ H'=>∃ o1 o2 o3,σ=[some (.ref a),some (.str (S "case")),some (.ref l3),o1,o2,o3]∧Same H H'∧H' l3=some (.lst ([V.str (S "case"),vOf tx']++(ts'.take i).map vOf))) ?_ (fun i σ H' _ p=>?_) ?_ ?_
  ·exact ⟨none,none,none,rfl,s3,by rw [upd_same]; rfl⟩
  ·obtain ⟨_,_,_,_,sm,_⟩:=p
   exact SqT.of (sm _ _ hb1)
  ·rintro i v σ H' hv' ⟨o1,o2,o3,rfl,sm,hw⟩
   obtain ⟨d',hdi,rd⟩:=rr.get hv'
   obtain ⟨t',hti,g,y,e,te,hg,hy,he,rfl,rfl⟩:=har.get hdi
   obtain ⟨c1,vs1,rfl,hc1,_,_,rfl,rfl,_,_,rfl,rfl,ve,_,rfl,re,rfl⟩:=rd
   have hi:i < us1.length:=(List.getElem?_eq_some_iff.mp hv').1
   have lg:=hg.le
   have ly:=hy.le
   have lt:=hz _ _ he
   have eg:g.length=g.cps.toList.length:=by simp [Str.length]
   have ey:y.length=y.cps.toList.length:=by simp [Str.length]
   have et:=strOf_len te
   have k1:(Str.empty++S "(").length=1:=by decide +kernel
   have k2:(S " ").length=1:=by decide +kernel
   have k3:(S ")").length=1:=by decide +kernel
   refine ⟨c1,_,rfl,SqT.of (sm _ _ hc1),rfl,_,_,rfl,_,_,rfl,_,_,rfl,rfl,?_⟩
   refine ⟨_,rfl,.inl ⟨rfl,_,SqL.of hw⟩,?_⟩
   refine ⟨few (by show (Str.empty++S "(").length ≤ 100; omega),_,rfl,g,rfl,few (by omega),?_,?_,_,rfl,y,rfl,few (by omega),?_,?_,_,rfl,ve,e,te,rfl,re.same sm _,he,fun H2 s2=>⟨strOf te,rfl,fits (by omega),?_,?_,?_,?_⟩⟩
   ·rw [Str.length_append]; exact few (by show (Str.empty++S "(").length + _ ≤ _; omega)
   ·rw [Str.length_append,Str.length_append]; exact few (by show (Str.empty++S "(").length + _ + (S " ").length ≤ _; omega)
   ·rw [Str.length_append,Str.length_append,Str.length_append]; exact few (by show (Str.empty++S "(").length + _ + (S " ").length + _ ≤ _; omega)
   ·rw [Str.length_append,Str.length_append,Str.length_append,Str.length_append]; exact few (by show (Str.empty++S "(").length + _ + (S " ").length + _ + (S " ").length ≤ _; omega)
   ·rw [Str.length_append,Str.length_append,Str.length_append,Str.length_append,Str.length_append]; exact fits (by show (Str.empty++S "(").length + _ + (S " ").length + _ + (S " ").length + _ ≤ _; omega)
   ·rw [Str.length_append,Str.length_append,Str.length_append,Str.length_append,Str.length_append,Str.length_append]; exact fits (by show (Str.empty++S "(").length + _ + (S " ").length + _ + (S " ").length + _ + (S ")").length ≤ _; omega)
   ·rw [Str.length_append,Str.length_append,Str.length_append,Str.length_append,Str.length_append,Str.length_append]; exact fits (by show (Str.empty++S "(").length + _ + (S " ").length + _ + (S " ").length + _ + (S ")").length ≤ _; omega)
   refine ⟨l3,_,_,rfl,rfl,s2 _ _ hw,?_,_,_,_,rfl,?_,?_⟩
   ·rw [List.length_append,List.length_map,List.length_take]; exact fitsLt (by simp; omega)
   ·intro b o eb
    have hb3:b≠l3:=fun z=>by rw [z,n3] at eb; cases eb
    rw [upd_ne hb3]
    exact s2 _ _ (sm _ _ eb)
   ·rw [upd_same,List.take_add_one,hti]
    have arm_is:Str.empty++S "("++g++S " "++y++S " "++strOf te++S ")"=strOf (.l [tx g,tx y,te]):=by
     apply L_inj
     simp only [L_append]
     rw [show L Str.empty=[] from rfl,open_is,shut_is,show L (S " ")=[32] by decide +kernel]
     show _=40 :: (bs [tx g,tx y,te]).tail++[41]
     simp only [bs,List.tail_cons,cs_tx]
     show []++[40]++L g++[32]++L y++[32]++te.cs++[41]=40 :: (L g++32 :: (L y++32 :: (te.cs++[])))++[41]
     simp
    have:V.str (Str.empty++S "("++g++S " "++y++S " "++strOf te++S ")")=vOf (.l [tx g,tx y,te]):=by rw [arm_is]; rfl
    show some (HO.lst (([V.str (S "case"),vOf tx']++(ts'.take i).map vOf)++[V.str (Str.empty++S "("++g++S " "++y++S " "++strOf te++S ")")]))=_
    rw [this]
    simp
  ·rintro σ H' ⟨o1,o2,o3,rfl,sm,hw⟩
   rw [List.take_of_length_le (by omega)] at hw
   walk_at "no"
   have eL:H' l3=some (.lst ((List.map strOf (tx (S "case") :: tx' :: ts')).map V.str)):=by
    rw [hw,← mapV]
    show some (HO.lst (V.str (S "case") :: vOf tx' :: ts'.map vOf))=some (HO.lst (vOf (tx (S "case")) :: vOf tx' :: ts'.map vOf))
    rw [vOf_tx]
   exact ⟨rfl,_,rfl,S " ",l3,List.map strOf (tx (S "case") :: tx' :: ts'),rfl,rfl,SqL.of (eL),jz.1,_,_,rfl,rfl,jz.2.1,_,_,rfl,rfl,jz.2.2,text_is (k _ (sm))⟩
 ·obtain ⟨a,us,rfl,ha,_,_,rfl,rfl,v1,_,rfl,r1,v2,_,rfl,r2,v3,_,rfl,r3,rfl⟩:=hv
  have jz:=text_sizes hzt
  have hS:SqT K H a [.str (S "if"),v1,v2,v3]:=SqT.of ha
  refine ⟨_,rfl,a,_,_,_,rfl,rfl,hS,rfl,?_⟩
  refine ⟨_,rfl,rfl,_,rfl,iteKF (by decide +kernel) ?_⟩
  walk_at "no"
  refine ⟨_,rfl,(by show 1 ≤ sizeLine; decide),fun l hl=>?_⟩
  have sl:=Same.new hl (.lst [.str (S "if")])
  walk_at "no"
  walk_at "no"
  walk_at "no"
  walk_at "no"
  walk_at "no"
  walk_at "yes"
  refine ⟨_,rfl,_,rfl,_,rfl,a,_,rfl,SqT.of (sl _ _ ha),(fun z=>absurd (show (1:Nat)=0 from z.1) (by decide)),fun c hc=>?_⟩
  have sc:=Same.new hc (.tup (cutV [V.str (S "if"),v1,v2,v3] (some 1) none))
  have slc:=sl.trans sc
  have hcc:(upd (upd H l (.lst [.str (S "if")])) c (.tup (cutV [V.str (S "if"),v1,v2,v3] (some 1) none))) c=some (.tup [v1,v2,v3]):=upd_same
  have hll:(upd (upd H l (.lst [.str (S "if")])) c (.tup (cutV [V.str (S "if"),v1,v2,v3] (some 1) none))) l=some (.lst [.str (S "if")]):=sc _ _ upd_same
  generalize upd (upd H l (.lst [.str (S "if")])) c (.tup (cutV [V.str (S "if"),v1,v2,v3] (some 1) none))=H2 at sc slc hcc hll ⊢
  refine ⟨c,rfl,⟨_,SqT.of hcc⟩,?_⟩
  have al:All2 R [x,y,z] [tx',ty',tz']:=.cons hx (.cons hy (.cons hz' .nil))
  have rr:RelDs H2 [v1,v2,v3] [x,y,z]:=⟨v1,_,rfl,r1.same slc _,v2,_,rfl,r2.same slc _,v3,_,rfl,r3.same slc _,rfl⟩
  refine comp_tup (j:=0) (xs:=[v1,v2,v3]) (fun i ys H'=>Same H2 H'∧ys=([tx',ty',tz'].take i).map vOf) (by rfl) ⟨Same.refl _,rfl⟩ (fitsLt (by simp)) (fun i ys H' _ p=>SqT.of (p.1 _ _ hcc)) ?_ ?_
  ·rintro i v ys H' hv' hl' ⟨sm,rfl⟩
   obtain ⟨d',hdi,rd⟩:=rr.get hv'
   obtain ⟨t',hti,rt⟩:=al.get hdi
   have hi:i < [v1,v2,v3].length:=(List.getElem?_eq_some_iff.mp hv').1
   refine ⟨_,rfl,v,d',t',rfl,rd.same sm _,rt,fun H2 s2=>nxt hi hl' ⟨sm.trans s2,?_⟩⟩
   rw [List.take_add_one,hti]
   simp
  rintro ys H' hl' ⟨sm,rfl⟩ b hb
  have sb:=Same.new hb (.lst (([tx',ty',tz'].take 3).map vOf))
  refine ⟨l,b,[.str (S "if")],[vOf tx',vOf ty',vOf tz'],rfl,rfl,sb _ _ (sm _ _ hll),upd_same,(by show 4 ≤ sizeLine; decide),fun p hp=>?_⟩
  have s4:=slc.trans (sm.trans (sb.trans (Same.new hp (.lst ([V.str (S "if")]++[vOf tx',vOf ty',vOf tz'])))))
  exact ⟨rfl,_,rfl,S " ",p,List.map strOf [tx (S "if"),tx',ty',tz'],rfl,rfl,SqL.of (by rw [upd_same,← mapV]; show some (HO.lst [V.str (S "if"),vOf tx',vOf ty',vOf tz'])=some (HO.lst [vOf (tx (S "if")),vOf tx',vOf ty',vOf tz']); rw [vOf_tx]),jz.1,_,_,rfl,rfl,jz.2.1,_,_,rfl,rfl,jz.2.2,text_is (k _ (s4))⟩
theorem law_writer (T:Tx K mg):∀ m,m ≤ 7→DefIs P w K mg base (m + 1) "_law_text" ["_law_term_here"] (spText (T2 m))
 | 0,_=>by
  refine (ok__law_text (n:=0) T (fun _ _=>False) (fun _ _ h=>h.elim) (fun d t h=>?_) (DefIs.none T.d__law_text ?_)).imp ?_
  ·rcases h with ⟨sg,x,y,tx',ty',hs,hx,_⟩ | ⟨kk,es,ts',hk,h5,hes,rfl,rfl⟩ | ⟨x,tx',g,hg,hx,_⟩ | ⟨kk,g,x,tx',hk,hg,hx,_⟩ | ⟨x,tx',arms,ts',hx,_⟩ | ⟨x,y,z,tx',ty',tz',hx,_⟩
   ·exact hx.elim
   ·cases hes with
    | nil=>
     have:=hk.le
     have:=heads_len (S "rec") (by decide +kernel)
     simp only [Tr.cs,bs,List.tail_cons,List.length_cons,List.length_append,List.length_nil,cs_tx]
     omega
    | cons h _=>exact h.elim
   ·exact hx.elim
   ·exact hx.elim
   ·exact hx.elim
   ·exact hx.elim
  ·rintro vs H Q E ⟨_,_,_,_,_,h,_⟩
   exact h
  ·rintro vs H Q E ⟨v,d,t,h1,h2,h3,h4⟩
   exact ⟨v,d,t,h1,h2,.inl h3,h4⟩
 | m + 1,hm=>ok__law_text T (T2 m) (fun d t h=>h.short (by omega)) (fun d t h=>T2.short (n:=m + 1) (.inr h) hm) (law_writer T m (by omega))
end
def spTerm (m:Nat):Sp:=fun vs H Q _=>∃ (a b:Addr) (r e:Int),vs=[.ref a,.ref b,.int r,.int e]∧e=m∧Src H a b∧∀ v d t (H':Hp),T2 m d t→RelD H' v d→Fed a H H'→Q v H'
section
variable {P:Program} {w:World} {K:PySem.W.Frag} {mg:Str→Option Value} {base:Heap} {n m:Nat}
theorem many_at {f t6 t4:Int} (h1:1 ≤ f) (h7:f < 8) (a0:0 ≤ t6) (a1:t6 < 6) (b0:0 ≤ t4) (b1:t4 < 4):∃ k:Nat,atI [V.int 0,.int 2,.int t6,.int 1,.int 1,.int (2 + t4),.int 3,.int 2] f=some (.int k)∧k ≤ 5 ∧
  ((f=1∨f=7)→k=2)∧((f=3∨f=4)→k=1)∧(f=5→2 ≤ k)∧(f=6→k=3):=by
 have hf:f=1∨f=2∨f=3∨f=4∨f=5∨f=6∨f=7:=by omega
 rcases hf with rfl | rfl | rfl | rfl | rfl | rfl | rfl
 ·exact ⟨2,rfl,by omega,by omega,by omega,by omega,by omega⟩
 ·refine ⟨t6.toNat,?_,by omega,by omega,by omega,by omega,by omega⟩
  show some (V.int t6)=_
  rw [Int.toNat_of_nonneg a0]
 ·exact ⟨1,rfl,by omega,by omega,by omega,by omega,by omega⟩
 ·exact ⟨1,rfl,by omega,by omega,by omega,by omega,by omega⟩
 ·refine ⟨(2 + t4).toNat,?_,by omega,by omega,by omega,by omega,by omega⟩
  show some (V.int (2 + t4))=_
  rw [Int.toNat_of_nonneg (by omega)]
 ·exact ⟨3,rfl,by omega,by omega,by omega,by omega,by omega⟩
 ·exact ⟨2,rfl,by omega,by omega,by omega,by omega,by omega⟩
theorem ops_at {r:Int} {c:Nat} (h:atI (Str.ofString "+-*<=").cps.toList r=some c):(⟨#[c]⟩:Str)∈ops:=by
 obtain ⟨j,_,e,_⟩:=atI_get h
 have hm:=List.mem_of_getElem? e
 have all:∀ c∈(Str.ofString "+-*<=").cps.toList,(⟨#[c]⟩:Str)∈ops:=by decide +kernel
 exact all c hm
theorem cut1 (x:V) (r:List V):cutV (x :: r) (some 1) none=r:=by
 unfold cutV
 have e1:HT.sIx (x :: r).length 0 (some 1)=1:=by
  rw [show ((1:Int))=((1:Nat):Int) from rfl,HT.sIx_nat]
  simp
 rw [e1,HT.sIx_none]
 show List.take (_ - 1) r=r
 exact List.take_of_length_le (by simp)
theorem ok__law_term (T:Tx K mg) (sp0:Sp) (D__law_take:DefIs P w K mg base n "_law_take" ["_law_feed_here","_law_many"] spTake) (D__law_leaf:DefIs P w K mg base n "_law_leaf" ["_law_feed_here","_law_pool"] spLeaf) (D__law_some:DefIs P w K mg base n "_law_some" ["_law_feed_here","_law_pool"] spSome)
  (D__law_term:DefIs P w K mg base n "_law_term" ["_law_feed_here","_law_pool","_law_room","_law_deep_here"] sp0) (hsp:∀ k,m=k + 1→sp0=spTerm k):DefIs P w K mg base (n + 1) "_law_term" ["_law_feed_here","_law_pool","_law_room","_law_deep_here"] (spTerm m):=by
 refine DefIs.of T.d__law_term sc__law_term (fun vs H Q E h=>?_) (fun f cdv A outer s H vs Q E hr h=>?_)
 ·obtain ⟨a,b,r,e,rfl,_⟩:=h
  rfl
 obtain ⟨a,b,r,e,rfl,rfl,src,k⟩:=h
 have nd:=sc__law_term.nd
 obtain ⟨p,q,ha⟩:=src.feed
 refine ⟨_,(pss_cons (psn 4 nd (pe_dcall D__law_take hr (va 0 (pa_cons pe_int pa_nil star_const))))
   (pss_cons (ps_if (PW.pt (pw_or (pt_cmpR op_lt (pv 2) pe_int (nomark _)) (pw_or (pt_cmpR op_eq (pv 3) pe_int (nomark _)) (pw_or1 (pt_cmpR op_eq (pv 4) pe_int (nomark _)))))) (pss_one (ps_ret (pe_dcall D__law_leaf hr (va 0 (v1 1))))) pss_nil)
   (pss_cons (psn 5 nd (pxl K (pe_lst (pa_cons pe_int (pa_cons pe_int (pa_cons (pe_dcall D__law_take hr (va 0 (pa_cons pe_int pa_nil star_const))) (pa_cons pe_int (pa_cons pe_int (pa_cons (pe_op op_add pe_int (pe_dcall D__law_take hr (va 0 (pa_cons pe_int pa_nil star_const)))) (pa_cons pe_int (pa_cons pe_int pa_nil star_const) star_const) star_bin) star_const) star_const) star_call) star_const) star_const)) (pv 4)))
   (pss_cons (ps_setComp (i:=6) ["_law_k","_law_feed_here","_law_pool","_law_deep_here","_law_room","_law_many"] [none,some 0,some 1,some 3,some 2,some 5] rfl (by kernel_rfl) nd rfl (by first | exact Or.inl rfl | exact Or.inr rfl) (pi_range1 rfl T.z_range (v1 5)) (fun _ _ _ _=>(pgc 0)) (fun _ _ _ _=>pts_nil) (fun _ _ _ _=>(pe_dcall D__law_term hr (va 1 (va 2 (pa_cons (pe_op op_fdivB (pe_op op_sub (pv 4) pe_int) (pe_callB (call_max2 rfl) rfl T.z_max PyProof.Rows.boot_max (pa_cons pe_int (v1 5) star_const))) (pa_cons (pe_op op_sub (pv 3) pe_int) pa_nil star_bin) star_bin))))))
   (pss_cons (ps_if (pt_cmpR op_eq (pv 4) pe_int (nomark _)) (pss_one (ps_ret (pe_tup (pa_cons pe_str (pa_cons (pe_dcall D__law_some hr (va 0 (v1 1))) (pa_cons (pe_callTy (gk_tuple_of (K:=K) rfl) rfl T.z_tuple PyProof.Rows.boot_tuple (v1 6)) pa_nil star_call) star_call) star_const)))) pss_nil)
   (pss_cons (ps_if (pt_cmpR op_eq (pv 4) pe_int (nomark _)) (pss_one (ps_ret (pe_tup (pa_cons pe_str (pa_cons (pxl K (pv 6) pe_int) (pa_cons (pe_dcall D__law_some hr (va 0 (v1 1))) pa_nil star_call) star_sub) star_const)))) pss_nil)
   (pss_cons (ps_if (pt_cmpR op_eq (pv 4) pe_int (nomark _)) (pss_one (ps_ret (pe_tup (pa_cons pe_str (pa_cons (pe_dcall D__law_some hr (va 0 (v1 1))) (pa_cons (pe_dcall D__law_some hr (va 0 (v1 1))) (pa_cons (pxl K (pv 6) pe_int) pa_nil star_sub) star_call) star_call) star_const)))) pss_nil)
   (pss_cons (ps_if (pt_cmpR op_eq (pv 4) pe_int (nomark _)) (pss_cons (ps_setComp (i:=7) ["_law_one","_law_feed_here","_law_pool"] [none,some 0,some 1] rfl (by kernel_rfl) nd rfl (by first | exact Or.inl rfl | exact Or.inr rfl) (gk_pi_list (K:=K) rfl (pe_slice sl_list (pv 6) (po_some pe_int) po_none)) (fun _ _ _ _=>(pgc 0)) (fun _ _ _ _=>pts_nil) (fun _ _ _ _=>(pe_tup (pa_cons (pe_dcall D__law_some hr (va 1 (v1 2))) (pa_cons (pe_dcall D__law_some hr (va 1 (v1 2))) (v1 0) star_call) star_call))))
   (pss_one (ps_ret (pe_tup (pa_cons pe_str (pa_cons (pxl K (pv 6) pe_int) (pa_cons (pe_callTy (gk_tuple_of (K:=K) rfl) rfl T.z_tuple PyProof.Rows.boot_tuple (v1 7)) pa_nil star_call) star_sub) star_const))))) pss_nil)
   (pss_cons (ps_if (pt_cmpR op_eq (pv 4) pe_int (nomark _)) (pss_one (ps_ret (pe_tup (pa_cons pe_str (pa_cons (pxl K (pv 6) pe_int) (pa_cons (pxl K (pv 6) pe_int) (pa_cons (pxl K (pv 6) pe_int) pa_nil star_sub) star_sub) star_sub) star_const)))) pss_nil)
   (pss_one (ps_ret (pe_tup (pa_cons pe_str (pa_cons (pe_ix ix_str pe_str (pe_dcall D__law_take hr (va 0 (pa_cons pe_int pa_nil star_const))) (fun _ _=>rfl)) (pa_cons (pxl K (pv 6) pe_int) (pa_cons (pxl K (pv 6) pe_int) pa_nil star_sub) star_sub) star_sub) star_const))))))))))))),?_⟩
 refine ⟨_,rfl,a,p,q,8,rfl,ha,by decide,by decide,fun f1 H1 f10 f11 g1=>?_⟩
 have src1:=src.fed g1
 have leaf:∀ H2:Hp,Fed a H H2→Src H2 a b→spLeaf [.ref a,.ref b] H2 Q E0:=fun H2 g2 src2=>⟨a,b,rfl,src2,fun v d t H3 hl hr3 g3=>k v d t H3 (.leaf hl) hr3 (g2.trans g3)⟩
 refine ⟨_,rfl,_,_,rfl,rfl,_,rfl,?_⟩
 refine ite2 (fun c1=>?_) (fun c1=>?_)
 ·exact iteT ⟨_,rfl,_,rfl,leaf H1 g1 src1⟩
 refine ⟨_,rfl,rfl,_,rfl,?_⟩
 refine ite2 (fun c2=>?_) (fun c2=>?_)
 ·exact iteT ⟨_,rfl,_,rfl,leaf H1 g1 src1⟩
 refine ⟨_,rfl,rfl,_,rfl,?_⟩
 refine ite2 (fun c3=>?_) (fun c3=>?_)
 ·exact ⟨_,rfl,_,rfl,leaf H1 g1 src1⟩
 have d2:(m:Int)≠0:=fun e=>of_decide_eq_false (Bool.eq_false_iff.mpr c2) (by rw [e])
 have d3:f1≠0:=fun e=>of_decide_eq_false (Bool.eq_false_iff.mpr c3) (by rw [e])
 obtain ⟨m',rfl⟩:∃ m',m=m' + 1:=⟨m - 1,by omega⟩
 have hsp':=hsp m' rfl
 subst hsp'
 obtain ⟨p1,q1,h1⟩:=src1.feed
 refine ⟨_,rfl,a,p1,q1,6,rfl,h1,by decide,by decide,fun t6 H2 a0 a1 g2=>?_⟩
 have src2:=src1.fed g2
 obtain ⟨p2,q2,h2⟩:=src2.feed
 refine ⟨_,rfl,a,p2,q2,4,rfl,h2,by decide,by decide,fun t4 H3 b0 b1 g3=>?_⟩
 have src3:=src2.fed g3
 refine ⟨_,_,rfl,rfl,(by show 8 ≤ sizeLine; decide),fun l hl=>?_⟩
 obtain ⟨mk,hmk,mk5,k17,k34,k5,k6⟩:=many_at (f:=f1) (by omega) f11 a0 a1 b0 b1
 refine ⟨_,rfl,l,_,_,_,rfl,rfl,SqL.of upd_same,hmk,?_⟩
 have s4:=Same.new hl (.lst [V.int 0,.int 2,.int t6,.int 1,.int 1,.int (2 + t4),.int 3,.int 2])
 have src4:=src3.same s4
 have g4:Fed a H (upd H3 l (.lst [V.int 0,.int 2,.int t6,.int 1,.int 1,.int (2 + t4),.int 3,.int 2])):=(g1.trans (g2.trans g3)).new hl _
 generalize upd H3 l (.lst [V.int 0,.int 2,.int t6,.int 1,.int 1,.int (2 + t4),.int 3,.int 2])=H4 at s4 src4 g4 ⊢
 refine ⟨_,rfl,_,rfl,by omega,by omega,?_⟩
 rw [Int.toNat_natCast]
 refine comp_range (j:=0) (fun i ys H'=>Fed a H4 H'∧∃ ds ts,RelDs H' ys ds∧All2 (T2 m') ds ts∧ds.length=i) (by rfl) ⟨src4.refl,[],[],rfl,.nil,rfl⟩ (fitsLt (by omega)) ?_ ?_
 ·rintro i ys H5 hi hly ⟨g5,ds,ts,rd,al,el⟩
  have src5:=src4.fed g5
  refine ⟨_,rfl,_,rfl,_,rfl,_,_,rfl,rfl,_,rfl,_,_,rfl,_,_,rfl,rfl,?_,_,rfl,_,_,rfl,rfl,a,b,_,_,rfl,by omega,src5,fun v d t H6 h6 r6 g6=>nxt hi hly ⟨g5.trans g6,ds++[d],ts++[t],?_,al.append (.cons h6 .nil),by rw [List.length_append,el]; rfl⟩⟩
  ·unfold CDivB
   split <;> omega
  ·exact (src5.relDs g6 rd).append ⟨v,[],rfl,r6,rfl⟩
 rintro ys H5 hly ⟨g5,ds,ts,rd,al,el⟩ D hD
 have sD:=Same.new hD (.lst ys)
 have src5:=(src4.fed g5).same sD
 have g6:Fed a H (upd H5 D (.lst ys)):=(g4.trans g5).new hD _
 have rd6:=rd.same sD _
 have hDa:D≠a:=fun e=>by
  obtain ⟨p5,q5,h5⟩:=(src4.fed g5).feed
  rw [e,h5] at hD; cases hD
 have hys:(upd H5 D (.lst ys)) D=some (.lst ys):=upd_same
 have lenT:=al.length
 have lenY:=rd.length
 generalize upd H5 D (.lst ys)=H6 at sD src5 g6 rd6 hys ⊢
 have item:∀ (j:Nat),j < mk→∃ v d t,ys[j]?=some v∧ds[j]?=some d∧ts[j]?=some t∧RelD H6 v d∧T2 m' d t:=fun j hj=>by
  have hv:ys[j]?=some ys[j]:=List.getElem?_eq_getElem (by omega)
  obtain ⟨d,hd,rv⟩:=rd6.get hv
  obtain ⟨t,ht,h2⟩:=al.get hd
  exact ⟨_,d,t,hv,hd,ht,rv,h2⟩
 refine ⟨_,rfl,rfl,_,rfl,?_⟩
 refine ite2 (fun c=>?_) (fun c=>?_)
 ·refine ⟨_,rfl,_,rfl,a,b,rfl,src5,fun x H7 hx g7=>?_⟩
  refine ⟨_,rfl,D,ys,rfl,.inl ⟨SqL.of (g7.1 D _ hys hDa),fun t2 ht2=>⟨(by show 3 ≤ sizeLine; decide),fun l3 hl3=>?_⟩⟩⟩
  have st:=Same.new ht2 (.tup ys)
  have sl:=Same.new hl3 (.tup [.str (S "rec"),.str x,.ref t2])
  refine k _ _ _ _ (.inr (.inr (.inl ⟨x,ds,ts,hx,by omega,al,rfl,rfl⟩))) ⟨l3,_,rfl,upd_same,_,_,rfl,rfl,_,_,rfl,rfl,_,_,rfl,⟨t2,ys,rfl,sl _ _ upd_same,?_⟩,rfl⟩ (((g6.trans g7).new ht2 _).new hl3 _)
  exact (src5.relDs g7 rd6).same (st.trans sl) _
 refine ⟨_,rfl,rfl,_,rfl,?_⟩
 refine ite2 (fun c'=>?_) (fun c'=>?_)
 ·have ef:f1=3:=V.int.inj (of_decide_eq_true c')
  have hk:=k34 (.inl ef)
  obtain ⟨v0,d0,t0,hv0,hd0,ht0,r0,h0⟩:=item 0 (by omega)
  refine ⟨_,rfl,D,ys,0,v0,rfl,rfl,SqL.of hys,atI_nat (j:=0) hv0,?_⟩
  refine ⟨_,rfl,_,rfl,a,b,rfl,src5,fun x H7 hx g7=>⟨(by show 3 ≤ sizeLine; decide),fun l3 hl3=>?_⟩⟩
  exact k _ _ _ _ (.inr (.inr (.inr (.inl ⟨d0,t0,x,hx,h0,rfl,rfl⟩)))) ⟨l3,_,rfl,upd_same,_,_,rfl,rfl,v0,_,rfl,(src5.relD g7 r0).same (Same.new hl3 _) _,_,_,rfl,rfl,rfl⟩ ((g6.trans g7).new hl3 _)
 refine ⟨_,rfl,rfl,_,rfl,?_⟩
 refine ite2 (fun c''=>?_) (fun c''=>?_)
 ·have ef:f1=4:=V.int.inj (of_decide_eq_true c'')
  have hk:=k34 (.inr ef)
  obtain ⟨v0,d0,t0,hv0,hd0,ht0,r0,h0⟩:=item 0 (by omega)
  refine ⟨_,rfl,_,rfl,a,b,rfl,src5,fun x H7 hx g7=>?_⟩
  refine ⟨_,rfl,_,rfl,a,b,rfl,src5.fed g7,fun y H8 hy g8=>?_⟩
  have g78:=g7.trans g8
  refine ⟨_,rfl,D,ys,0,v0,rfl,rfl,SqL.of (g78.1 D _ hys hDa),atI_nat (j:=0) hv0,(by show 4 ≤ sizeLine; decide),fun l3 hl3=>?_⟩
  exact k _ _ _ _ (.inr (.inr (.inr (.inr (.inl ⟨x,y,d0,t0,hx,hy,h0,rfl,rfl⟩))))) ⟨l3,_,rfl,upd_same,_,_,rfl,rfl,_,_,rfl,rfl,_,_,rfl,rfl,v0,_,rfl,(src5.relD g78 r0).same (Same.new hl3 _) _,rfl⟩ ((g6.trans g78).new hl3 _)
 refine ⟨_,rfl,rfl,_,rfl,?_⟩
 refine ite2 (fun c5=>?_) (fun c5=>?_)
 ·have ef:f1=5:=V.int.inj (of_decide_eq_true c5)
  have hk:=k5 ef
  obtain ⟨v0,d0,t0,hv0,hd0,ht0,r0,h0⟩:=item 0 (by omega)
  match ys,ds,ts,rd6,al,hv0,hd0,ht0 with
  | u0 :: us,e0 :: es,w0 :: ws,rd6,.cons al0 al,hv0,hd0,ht0=>
   cases hv0
   cases hd0
   cases ht0
   obtain ⟨_,_,e1,_,rds⟩:=rd6
   cases e1
   refine ⟨_,rfl,_,rfl,D,_,rfl,SqL.of hys,fun c hc=>?_⟩
   rw [cut1]
   have sc:=Same.new hc (.lst us)
   have src6:=src5.same sc
   have g7:Fed a H (upd H6 c (.lst us)):=g6.new hc _
   have hca:c≠a:=fun z=>by
    obtain ⟨p5,q5,h5⟩:=src5.feed
    rw [z,h5] at hc; cases hc
   have hcl:(upd H6 c (.lst us)) c=some (.lst us):=upd_same
   have hyl:(upd H6 c (.lst us)) D=some (.lst (v0 :: us)):=sc _ _ hys
   have rds7:=rds.same sc _
   have r07:=r0.same sc _
   have lU:=rds.length
   have lA:=al.length
   simp only [List.length_cons] at el lenT lenY
   generalize upd H6 c (.lst us)=H7 at sc src6 g7 hcl hyl rds7 r07 ⊢
   refine ⟨c,rfl,⟨_,SqL.of hcl⟩,?_⟩
   refine comp_list (j:=0) (xs:=us) (fun i zs H'=>Fed a H7 H'∧∃ arms tas,RelDs H' zs arms∧All2 (Arm (T2 m')) arms tas∧arms.length=i) (by rfl) ⟨src6.refl,[],[],rfl,.nil,rfl⟩ (fitsLt (by omega)) (fun i zs H' _ p=>SqL.of (p.1.1 c _ hcl hca)) ?_ ?_
   ·rintro i u zs H8 hu hlz ⟨g8,arms,tas,rda,ala,ela⟩
    obtain ⟨du,hdu,ru⟩:=rds7.get hu
    obtain ⟨tu,htu,h2u⟩:=al.get hdu
    have hi:i < us.length:=(List.getElem?_eq_some_iff.mp hu).1
    have src8:=src6.fed g8
    refine ⟨_,rfl,_,rfl,a,b,rfl,src8,fun x H9 hx g9=>?_⟩
    have src9:=src8.fed g9
    refine ⟨_,rfl,_,rfl,a,b,rfl,src9,fun y H10 hy g10=>?_⟩
    refine ⟨_,rfl,(by show 3 ≤ sizeLine; decide),fun l3 hl3=>?_⟩
    have sl:=Same.new hl3 (.tup [.str x,.str y,u])
    have g810:=g9.trans g10
    refine nxt hi hlz ⟨(g8.trans g810).new hl3 _,arms++[.tup [.str x,.str y,du]],tas++[.l [tx x,tx y,tu]],?_,ala.append (.cons ⟨x,y,du,tu,hx,hy,h2u,rfl,rfl⟩ .nil),by rw [List.length_append,ela]; rfl⟩
    refine ((src8.relDs g810 rda).same sl _).append ⟨_,[],rfl,⟨l3,_,rfl,upd_same,_,_,rfl,rfl,_,_,rfl,rfl,u,_,rfl,((src6.relD (g8.trans g810) ru).same sl _),rfl⟩,rfl⟩
   ·rintro zs H8 hlz ⟨g8,arms,tas,rda,ala,ela⟩ Da hDa'
    have sDa:=Same.new hDa' (.lst zs)
    have yD:D≠a:=hDa
    refine ⟨_,rfl,D,_,0,v0,rfl,rfl,SqL.of (sDa _ _ (g8.1 D _ hyl yD)),atI_nat (j:=0) rfl,?_⟩
    refine ⟨_,rfl,Da,zs,rfl,.inl ⟨SqL.of upd_same,fun t2 ht2=>⟨(by show 3 ≤ sizeLine; decide),fun l3 hl3=>?_⟩⟩⟩
    have st:=Same.new ht2 (.tup zs)
    have sl:=Same.new hl3 (.tup [.str (S "case"),v0,.ref t2])
    refine k _ _ _ _ (.inr (.inr (.inr (.inr (.inr (.inl ⟨d0,t0,arms,tas,al0,by omega,by omega,ala,rfl,rfl⟩)))))) ⟨l3,_,rfl,upd_same,_,_,rfl,rfl,v0,_,rfl,?_,_,_,rfl,⟨t2,zs,rfl,sl _ _ upd_same,?_⟩,rfl⟩ ((((g7.trans g8).new hDa' _).new ht2 _).new hl3 _)
    ·exact (src6.relD g8 r07).same (sDa.trans (st.trans sl)) _
    ·exact rda.same (sDa.trans (st.trans sl)) _
  | [],_,_,_,_,hv0,_,_=>cases hv0
  | _ :: _,[],_,_,_,_,hd0,_=>cases hd0
  | _ :: _,_ :: _,[],_,_,_,_,ht0=>cases ht0
 refine ⟨_,rfl,rfl,_,rfl,?_⟩
 refine ite2 (fun c6=>?_) (fun c6=>?_)
 ·have ef:f1=6:=V.int.inj (of_decide_eq_true c6)
  have hk:=k6 ef
  obtain ⟨v0,d0,t0,hv0,hd0,ht0,r0,h0⟩:=item 0 (by omega)
  obtain ⟨v1,d1,t1,hv1,hd1,ht1,r1,h1'⟩:=item 1 (by omega)
  obtain ⟨v2,d2',t2,hv2,hd2,ht2,r2,h2'⟩:=item 2 (by omega)
  refine ⟨_,rfl,D,ys,0,v0,rfl,rfl,SqL.of hys,atI_nat (j:=0) hv0,_,rfl,D,ys,1,v1,rfl,rfl,SqL.of hys,atI_nat (j:=1) hv1,_,rfl,D,ys,2,v2,rfl,rfl,SqL.of hys,atI_nat (j:=2) hv2,(by show 4 ≤ sizeLine; decide),fun l3 hl3=>?_⟩
  have sl:=Same.new hl3 (.tup [.str (S "if"),v0,v1,v2])
  exact k _ _ _ _ (.inr (.inr (.inr (.inr (.inr (.inr ⟨d0,d1,d2',t0,t1,t2,h0,h1',h2',rfl,rfl⟩)))))) ⟨l3,_,rfl,upd_same,_,_,rfl,rfl,v0,_,rfl,r0.same sl _,v1,_,rfl,r1.same sl _,v2,_,rfl,r2.same sl _,rfl⟩ (g6.new hl3 _)
 ·have ef:f1=1∨f1=7:=by
   have n2:f1≠2:=fun e=>of_decide_eq_false (Bool.eq_false_iff.mpr c) (by rw [e])
   have n3:f1≠3:=fun e=>of_decide_eq_false (Bool.eq_false_iff.mpr c') (by rw [e])
   have n4:f1≠4:=fun e=>of_decide_eq_false (Bool.eq_false_iff.mpr c'') (by rw [e])
   have n5:f1≠5:=fun e=>of_decide_eq_false (Bool.eq_false_iff.mpr c5) (by rw [e])
   have n6:f1≠6:=fun e=>of_decide_eq_false (Bool.eq_false_iff.mpr c6) (by rw [e])
   omega
  have hk:=k17 ef
  obtain ⟨v0,d0,t0,hv0,hd0,ht0,r0,h0⟩:=item 0 (by omega)
  obtain ⟨v1,d1,t1,hv1,hd1,ht1,r1,h1'⟩:=item 1 (by omega)
  obtain ⟨p5,q5,h5⟩:=src5.feed
  refine ⟨_,rfl,a,p5,q5,5,rfl,h5,by decide,by decide,fun r7 H7 r70 r71 g7=>?_⟩
  obtain ⟨ch,_,hc⟩:=at_codes (cs:=(Str.ofString "+-*<=").cps.toList) r70 (by rw [show (Str.ofString "+-*<=").cps.toList.length=5 by decide +kernel]; exact r71)
  refine ⟨_,_,ch,rfl,rfl,by decide +kernel,hc,?_⟩
  refine ⟨_,rfl,D,ys,0,v0,rfl,rfl,SqL.of (g7.1 D _ hys hDa),atI_nat (j:=0) hv0,_,rfl,D,ys,1,v1,rfl,rfl,SqL.of (g7.1 D _ hys hDa),atI_nat (j:=1) hv1,(by show 4 ≤ sizeLine; decide),fun l3 hl3=>?_⟩
  have sl:=Same.new hl3 (.tup [.str (S "op"),.str ⟨#[ch]⟩,v0,v1])
  exact k _ _ _ _ (.inr (.inl ⟨_,d0,d1,t0,t1,ops_at hc,h0,h1',rfl,rfl⟩)) ⟨l3,_,rfl,upd_same,_,_,rfl,rfl,_,_,rfl,rfl,v0,_,rfl,(src5.relD g7 r0).same sl _,v1,_,rfl,(src5.relD g7 r1).same sl _,rfl⟩ ((g6.trans g7).new hl3 _)
end
inductive Left (H:Hp):List V→List D→Prop where
 | nil:Left H [] []
 | cons {T:Addr} {u v:V} {d:D} {vs:List V} {ds:List D} (hT:H T=some (.tup [u,v])) (h1:RelD H u d) (h2:RelD H v d) (r:Left H vs ds):Left H (.ref T :: vs) (d :: ds)
theorem Left.tups {H H':Hp} {vs:List V} {ds:List D} (h:Left H vs ds) (s:∀ b vs,H b=some (.tup vs)→H' b=some (.tup vs)):Left H' vs ds:=by
 induction h with
 | nil=>exact .nil
 | cons hT h1 h2 _ ih=>exact .cons (s _ _ hT) (h1.tups s _) (h2.tups s _) ih
theorem Left.append {H:Hp} {vs us:List V} {ds es:List D} (h:Left H vs ds) (k:Left H us es):Left H (vs++us) (ds++es):=by
 induction h with
 | nil=>exact k
 | cons hT h1 h2 _ ih=>exact .cons hT h1 h2 ih
theorem Left.length {H:Hp} {vs:List V} {ds:List D} (h:Left H vs ds):vs.length=ds.length:=by
 induction h with
 | nil=>rfl
 | cons _ _ _ _ ih=>simp [ih]
theorem Left.last {H:Hp}:∀ {vs:List V} {ds:List D},Left H vs ds→vs≠[]→∃ vs' ds' T u v d,vs=vs'++[.ref T]∧ds=ds'++[d]∧Left H vs' ds'∧H T=some (.tup [u,v])∧RelD H u d∧RelD H v d
 | _,_,.nil,h=>absurd rfl h
 | _,_,.cons (T:=T) (u:=u) (v:=v) (d:=d) (vs:=vs) (ds:=ds) hT h1 h2 r,_=>by
  by_cases hn:vs=[]
  ·subst hn
   have:ds=[]:=List.eq_nil_of_length_eq_zero (by rw [← r.length]; rfl)
   subst this
   exact ⟨[],[],T,u,v,d,rfl,rfl,.nil,hT,h1,h2⟩
  ·obtain ⟨vs',ds',T',u',v',d',e1,e2,r',hT',h1',h2'⟩:=Left.last r hn
   exact ⟨.ref T :: vs',d :: ds',T',u',v',d',by rw [e1]; rfl,by rw [e2]; rfl,.cons hT h1 h2 r',hT',h1',h2'⟩
theorem left_zip {H:Hp}:∀ {Ts:List Addr} {us vs:List V} {ds:List D},Ts.length=us.length→RelDs H us ds→RelDs H vs ds→(∀ (j:Nat) T u v,Ts[j]?=some T→us[j]?=some u→vs[j]?=some v→H T=some (.tup [u,v]))→Left H (Ts.map V.ref) ds
 | [],us,vs,ds,hl,h1,h2,_=>by
  have e:us=[]:=List.eq_nil_of_length_eq_zero hl.symm
  subst e
  have:=h1.length
  have e2:ds=[]:=List.eq_nil_of_length_eq_zero this.symm
  subst e2
  exact .nil
 | T :: Ts,us,vs,[],hl,h1,h2,hp=>by
  rw [show us=[] from h1] at hl
  simp at hl
 | T :: Ts,us,vs,d :: ds,hl,⟨u,us',e1,r1,h1⟩,⟨v,vs',e2,r2,h2⟩,hp=>by
  subst e1 e2
  exact .cons (hp 0 T u v rfl rfl rfl) r1 r2 (left_zip (Ts:=Ts) (by simpa using hl) h1 h2 fun j T' u' v' a b c=>hp (j + 1) T' u' v' (by simpa using a) (by simpa using b) (by simpa using c))
def spAlike:Sp:=fun vs H Q _=>∃ u v d,vs=[u,v]∧RelD H u d∧RelD H v d∧d.size ≤ 600000∧∀ H',Same H H'→Q (.bl true) H'
section
variable {P:Program} {w:World} {K:PySem.W.Frag} {mg:Str→Option Value} {base:Heap} {n m:Nat}
theorem ok__law_alike (T:Tx K mg):DefIs P w K mg base (n + 1) "_law_alike" ["_law_found","_law_due"] spAlike:=by
 refine DefIs.of T.d__law_alike sc__law_alike (fun vs H Q E h=>?_) (fun f cdv A outer s H vs Q E hr h=>?_)
 ·obtain ⟨_,_,_,rfl,_⟩:=h
  rfl
 obtain ⟨u,v,d,rfl,hu',hv',hd,k⟩:=h
 have nd:=sc__law_alike.nd
 have hu:=hu_of hr
 refine ⟨_,(pss_cons (psn 2 nd (pe_lst (pa_cons (pe_tup (va 0 (v1 1))) pa_nil star_tup)))
   (pss_cons (ps_while PassesOwn.never (pt_cmpR (op_neE (Nat.lt_of_succ_lt hu)) (pv 2) (pe_lst pa_nil) (nomark _))
   (pss_cons (ps_asg (pe_bm0 PySem.F.plainAttrs_list PySem.F.slot_list_pop PySem.F.type_list_pop mt_pop (pv 2)) (pg_tupC (K:=K) rfl rfl (pgs_cons (pgn 3 nd) (pgs_cons (pgn 4 nd) pgs_nil))))
   (pss_one (ps_if (pt_val (pe_callB call_isinst rfl T.z_isinstance PyProof.Rows.boot_isinstance (va 4 (pa_cons (pe_gty T.z_tuple PyProof.Rows.boot_tuple) pa_nil star_name)))) (pss_cons (ps_if (PW.pt (pw_or (pt_not (pt_val (pe_callB call_isinst rfl T.z_isinstance PyProof.Rows.boot_isinstance (va 3 (pa_cons (pe_gty T.z_tuple PyProof.Rows.boot_tuple) pa_nil star_name))))) (pw_or1 (pt_cmpR op_ne (pe_callB (call_len_seqC (K:=K) rfl) rfl T.z_len PySem.boot_len (v1 3)) (pe_callB (call_len_seqC (K:=K) rfl) rfl T.z_len PySem.boot_len (v1 4)) (nomark _))))) (pss_one (ps_ret pe_bl)) pss_nil)
   (pss_one (psn 2 nd (pe_op op_cat (pv 2) (pe_listzip rfl rfl T.z_list rfl T.z_zip (pv 3) (pv 4)))))) (pss_one (ps_if (PW.pt (pw_or (pt_val (pe_callB call_isinst rfl T.z_isinstance PyProof.Rows.boot_isinstance (va 3 (pa_cons (pe_gty T.z_bool PyProof.Rows.boot_bool) pa_nil star_name)))) (pw_or (pt_cmpR op_ne (pe_callB call_isinst rfl T.z_isinstance PyProof.Rows.boot_isinstance (va 3 (pa_cons (pe_gty T.z_int PyProof.Rows.boot_int) pa_nil star_name))) (pe_callB call_isinst rfl T.z_isinstance PyProof.Rows.boot_isinstance (va 4 (pa_cons (pe_gty T.z_int PyProof.Rows.boot_int) pa_nil star_name))) (nomark _)) (pw_or1 (pt_cmpR op_ne (pv 3) (pv 4) (nomark _)))))) (pss_one (ps_ret pe_bl)) pss_nil))))))
   (pss_one (ps_ret pe_bl)))),?_⟩
 refine ⟨_,rfl,_,rfl,(by show 2 ≤ sizeLine; decide),fun t0 ht0=>⟨(by show 1 ≤ sizeLine; decide),fun l0 hl0=>?_⟩⟩
 have s0:=(Same.new ht0 (.tup [u,v])).trans (Same.new hl0 (.lst [.ref t0]))
 refine ⟨fun j σ H'=>∃ l vs ds o3 o4,j=sizes ds∧σ=[some u,some v,some (.ref l),o3,o4]∧H l=none∧H' l=some (.lst vs)∧Left H' vs ds∧sizes ds ≤ 600000∧Same H H',⟨_,l0,[.ref t0],[d],none,none,rfl,rfl,none_of_same (Same.new ht0 _) hl0,upd_same,?_,?_,s0⟩,?_⟩
 ·exact .cons (Same.new hl0 _ _ _ upd_same) (hu'.same s0 _) (hv'.same s0 _) .nil
 ·show d.size + 0 ≤ _
  omega
 rintro j σ H1 ⟨l,vs,ds,o3,o4,rfl,rfl,hl,hl1,hL,hsz,sm⟩
 refine ⟨_,rfl,Nat.zero_le _,fun e he=>?_⟩
 have se:=Same.new he (.lst [])
 refine ⟨l,e,vs,rfl,rfl,SqL.of (se _ _ hl1),SqL.of upd_same,_,rfl,?_⟩
 have hL2:=hL.tups (fun b us z=>se b _ z)
 have hl2:=se _ _ hl1
 have sm2:=sm.trans se
 generalize upd H1 e (.lst [])=H2 at hL2 hl2 sm2 ⊢
 by_cases hn:vs=[]
 ·subst hn
  exact iteF (k H2 sm2)
 have hne:(!vs.isEmpty)=true:=by
  cases vs with
  | nil=>exact absurd rfl hn
  | cons _ _=>rfl
 refine iteBT hne ?_
 refine ⟨fun σ' H'=>∃ l vs ds' o3 o4,sizes ds' < sizes ds∧σ'=[some u,some v,some (.ref l),o3,o4]∧H l=none∧H' l=some (.lst vs)∧Left H' vs ds'∧sizes ds' ≤ 600000∧Same H H',fun σ' H' ⟨l',vs',ds',p3,p4,q0,q1,q2,q3,q4,q5,q6⟩=>⟨_,q0,l',vs',ds',p3,p4,rfl,q1,q2,q3,q4,q5,q6⟩,?_⟩
 obtain ⟨vs',ds',T1,u1,v1,d1,rfl,rfl,hL3,hT1,r1,r2⟩:=hL2.last hn
 have lL:=hL3.length
 have lS:=length_le_sizes ds'
 rw [sizes_append] at hsz ⊢
 have e1:sizes [d1]=d1.size:=by show d1.size + 0=d1.size; omega
 rw [e1] at hsz ⊢
 refine ⟨_,rfl,.inl ⟨rfl,_,SqL.of hl2⟩,l,_,.ref T1,rfl,rfl,hl2,?_,?_⟩
 ·rw [List.length_append,List.length_singleton,Nat.add_sub_cancel,List.getElem?_append_right (Nat.le_refl _),Nat.sub_self]
  rfl
 rw [List.dropLast_concat]
 have tp:∀ b us,H2 b=some (.tup us)→(upd H2 l (.lst vs')) b=some (.tup us):=fun b us z=>by
  rw [upd_ne (fun q=>by rw [q,hl2] at z; cases z)]
  exact z
 have hT2:=tp _ _ hT1
 have r1':=r1.tups tp _
 have r2':=r2.tups tp _
 have hL4:=hL3.tups tp
 have hl4:(upd H2 l (.lst vs')) l=some (.lst vs'):=upd_same
 have sm4:Same H (upd H2 l (.lst vs')):=fun b o z=>by
  rw [upd_ne (fun q=>by rw [q,hl] at z; cases z)]
  exact sm2 b o z
 generalize upd H2 l (.lst vs')=H4 at hT2 r1' r2' hL4 hl4 sm4 ⊢
 refine ⟨T1,[u1,v1],rfl,SqT.of hT2,rfl,_,_,rfl,_,_,rfl,rfl,?_⟩
 match d1,r1',r2',hsz with
 | .tup es,⟨a1,us,e3,ha1,h1⟩,⟨a2,ws,e4,ha2,h2⟩,hsz=>
  subst e3 e4
  have l1:=h1.length
  have l2:=h2.length
  refine ⟨_,rfl,_,_,_,_,_,rfl,fun u hu'=>hu',TyOf.tup ha2,rfl,_,rfl,iteT ?_⟩
  refine ⟨_,rfl,_,_,_,_,_,rfl,fun u hu'=>hu',TyOf.tup ha1,rfl,_,rfl,iteF ?_⟩
  refine ⟨_,rfl,a1,_,rfl,.inr (SqT.of ha1),_,rfl,a2,_,rfl,.inr (SqT.of ha2),rfl,_,rfl,iteBF ?_ ?_⟩
  ·rw [decide_eq_true]
   ·rfl
   ·rw [l1,l2]
  refine ⟨_,rfl,_,rfl,_,rfl,a1,a2,us,ws,rfl,rfl,SqT.of ha1,SqT.of ha2,by omega,fun z H5 Ts hz s5 lT hz5 hp=>?_⟩
  have lSe:=length_le_sizes es
  have hse:(D.tup es).size=sizes es + 1:=rfl
  refine ⟨l,z,vs',Ts.map V.ref,rfl,rfl,s5 _ _ hl4,hz5,?_,fun p hp5=>?_⟩
  ·rw [List.length_map]; exact fits (by omega)
  have sp:=Same.new hp5 (.lst (vs'++Ts.map V.ref))
  refine ⟨p,_,ds'++es,_,_,?_,rfl,none_of_same (sm4.trans s5) hp5,upd_same,?_,?_,sm4.trans (s5.trans sp)⟩
  ·rw [sizes_append]; omega
  ·refine (hL4.tups fun b us' z'=>(s5.trans sp) _ _ z').append (left_zip (by omega) (h1.same (s5.trans sp) _) (h2.same (s5.trans sp) _) fun j T' u' v' b1 b2 b3=>sp _ _ (hp j T' u' v' b1 b2 b3))
  ·rw [sizes_append]; omega
 | .int i,e3,e4,hsz=>
  have e3':u1=.int i:=e3
  have e4':v1=.int i:=e4
  subst e3' e4'
  refine ⟨_,rfl,_,_,_,_,_,rfl,fun u hu'=>hu',TyOf.int _,rfl,_,rfl,iteF ?_⟩
  refine ⟨_,rfl,_,_,_,_,_,rfl,fun u hu'=>hu',TyOf.int _,rfl,_,rfl,iteF ?_⟩
  refine ⟨_,rfl,_,_,_,_,_,rfl,fun u hu'=>hu',TyOf.int _,rfl,_,rfl,_,_,_,_,_,rfl,fun u hu'=>hu',TyOf.int _,rfl,rfl,_,rfl,iteBF (by decide +kernel) ?_⟩
  refine ⟨_,rfl,_,rfl,rfl,_,rfl,iteBF ?_ ?_⟩
  ·rw [decide_eq_true rfl]; rfl
  exact ⟨l,vs',ds',_,_,by show sizes ds' < sizes ds' + 1; omega,rfl,hl,hl4,hL4,by omega,sm4⟩
 | .str x,e3,e4,hsz=>
  have e3':u1=.str x:=e3
  have e4':v1=.str x:=e4
  subst e3' e4'
  refine ⟨_,rfl,_,_,_,_,_,rfl,fun u hu'=>hu',TyOf.str _,rfl,_,rfl,iteF ?_⟩
  refine ⟨_,rfl,_,_,_,_,_,rfl,fun u hu'=>hu',TyOf.str _,rfl,_,rfl,iteF ?_⟩
  refine ⟨_,rfl,_,_,_,_,_,rfl,fun u hu'=>hu',TyOf.str _,rfl,_,rfl,_,_,_,_,_,rfl,fun u hu'=>hu',TyOf.str _,rfl,rfl,_,rfl,iteBF (by decide +kernel) ?_⟩
  refine ⟨_,rfl,_,rfl,rfl,_,rfl,iteBF ?_ ?_⟩
  ·rw [decide_eq_true rfl]; rfl
  exact ⟨l,vs',ds',_,_,by show sizes ds' < sizes ds' + 1; omega,rfl,hl,hl4,hL4,by omega,sm4⟩
end
end K3
end
section
set_option maxHeartbeats 1000000
namespace K3
open PySem L2 M
seal L2.PE L2.PA L2.PS L2.PSs L2.PT L2.PW L2.PI L2.PG L2.PJ L2.PTs
def spOfG:Sp:=fun vs H Q _=>∃ x d,vs=[.str x]∧x.length ≤ 3000000∧dm (L x) 0 0 ≤ 20∧PT (L x) d∧∀ v H',Same H H'→RelD H' v d→Q v H'
def spRight:Sp:=fun vs H Q _=>∃ x:Str,vs=[.str x]∧x.length ≤ 190000∧dm (L x) 0 0 ≤ 20∧∀ H',Same H H'→Q (.bl true) H'
section
variable {P:Program} {w:World} {K:PySem.W.Frag} {mg:Str→Option Value} {base:Heap} {n m:Nat}
theorem of_g (T:Tx K mg):DefIs P w K mg base 51 "term_of" ["text"] spOfG:=by
 refine DefXs.is ((of_x T).imp fun vs H Q E h=>?_) fun _ _ _ _ h=>h
 obtain ⟨x,d,e,hl,hd,hp,q⟩:=h
 exact ⟨x,e,hl,hd,fun d' hp' v H' s r=>q v H' s (by rw [pt_det hp hp' (by exact hd)]; exact r),fun no=>absurd ⟨d,hp⟩ no⟩
theorem ok__law_right (T:Tx K mg) (D__law_parsed:DefIs P w K mg base n "_law_parsed" ["_law_text_here"] (spParsed 21)) (D__law_bad_at:DefIs P w K mg base n "_law_bad_at" ["_law_text_here"] spBadAt) (D_term_of:DefIs P w K mg base n "term_of" ["text"] spOfG)
  (D__law_alike:DefIs P w K mg base n "_law_alike" ["_law_found","_law_due"] spAlike) (D_term_text:DefIs P w K mg base n "term_text" ["term"] (spText (RT 20))):DefIs P w K mg base (n + 1) "_law_right" ["_law_text_here"] spRight:=by
 refine DefIs.of T.d__law_right sc__law_right (fun vs H Q E h=>?_) (fun f cdv A outer s H vs Q E hr h=>?_)
 ·obtain ⟨_,rfl,_⟩:=h
  rfl
 obtain ⟨x,rfl,hl,hd,q⟩:=h
 have nd:=sc__law_right.nd
 refine ⟨_,(pss_cons (psn 1 nd (pe_dcall D__law_parsed hr (v1 0)))
   (pss_cons (ps_if (pt_cmpR op_isN (pv 1) pe_non (nomark _)) (pss_one (ps_ret (pe_cmpR op_eq (pe_dcall D__law_bad_at hr (v1 0)) pe_int (nomark _)))) pss_nil)
   (pss_cons (psn 2 nd (pe_dcall D_term_of hr (v1 0)))
   (pss_one (ps_ret (pe_and (pe_dcall D__law_alike hr (va 2 (v1 1))) (pe_one (pe_cmpR op_eq (pe_dcall D_term_text hr (v1 2)) (pv 0) (nomark _))))))))),?_⟩
 refine ⟨_,rfl,x,rfl,by omega,by omega,fun d hp v1 H1 s1 r1=>?_,fun no H1 s1=>?_⟩
 ·obtain ⟨ds,rfl⟩:=pt_tup hp
  obtain ⟨t,h3,ht,hsz⟩:=pt_low hp hd
  obtain ⟨va,rfl⟩:=relD_tup r1
  refine ⟨_,rfl,rfl,_,rfl,iteKF (decide_eq_false (fun z=>by cases z)) ?_⟩
  refine ⟨_,rfl,x,_,rfl,by omega,hd,hp,fun v2 H2 s2 r2=>?_⟩
  refine ⟨_,rfl,_,rfl,v2,.ref va,_,rfl,r2,r1.same s2 _,by omega,fun H3 s3=>⟨_,rfl,iteT ?_⟩⟩
  have hlen:t.cs.length ≤ 2000000:=by rw [ht,L_length]; omega
  refine ⟨_,rfl,v2,_,t,rfl,r2.same s3 _,⟨h3,hlen⟩,fun H4 s4=>⟨_,rfl,rfl,?_⟩⟩
  have e:vOf t=.str x:=by
   unfold vOf strOf
   rw [ht]
   exact congrArg V.str (ofL_L x)
  rw [e,decide_eq_true rfl]
  exact q _ (s1.trans (s2.trans (s3.trans s4)))
 ·refine ⟨_,rfl,rfl,_,rfl,iteKT (by decide +kernel) ?_⟩
  refine ⟨_,rfl,x,rfl,by omega,hd,no,fun H2 s2=>⟨rfl,?_⟩⟩
  exact q _ (s1.trans s2)
end
end K3
end
section
set_option maxHeartbeats 1000000
namespace K3
open PySem L2 M
section
seal L2.PE L2.PA L2.PS L2.PSs L2.PT L2.PW L2.PI L2.PG L2.PJ L2.PTs
def spLaw (K:PySem.W.Frag):Sp:=fun vs H Q _=>∃ (a:Addr) (ns:List Int),vs=[.ref a]∧SqL K H a (ns.map V.int)∧ns.length ≤ 63∧∀ H',Q (.bl true) H'
variable {P:Program} {w:World} {K:PySem.W.Frag} {mg:Str→Option Value} {base:Heap} {n m:Nat}
theorem ok_law (T:Tx K mg) (D__law_feed:DefIs P w K mg base n "_law_feed" ["_law_script","_law_k"] (spFeed K)) (D__law_name:DefIs P w K mg base n "_law_name" ["_law_feed_here"] spLName) (D__law_term:DefIs P w K mg base n "_law_term" ["_law_feed_here","_law_pool","_law_room","_law_deep_here"] (spTerm 5))
  (D__law_text:DefIs P w K mg base n "_law_text" ["_law_term_here"] (spText (T2 5))) (D__law_take:DefIs P w K mg base n "_law_take" ["_law_feed_here","_law_many"] spTake) (D__law_spoilt:DefIs P w K mg base n "_law_spoilt" ["_law_feed_here","_law_text_here"] spSpoilt) (D__law_deep:DefIs P w K mg base n "_law_deep" ["_law_text_here"] spDeep) (D__law_right:DefIs P w K mg base n "_law_right" ["_law_text_here"] spRight) :
  DefIs P w K mg base (n + 1) "law" ["_law_script"] (spLaw K):=by
 refine DefIs.of T.d_law sc_law (fun vs H Q E h=>?_) (fun f cdv A outer s H vs Q E hr h=>?_)
 ·obtain ⟨_,_,rfl,_⟩:=h
  rfl
 obtain ⟨a,ns,rfl,hS,h63,k⟩:=h
 have nd:=sc_law.nd
 refine ⟨_,(pss_cons (psn 1 nd (pe_dcall D__law_feed hr (va 0 (pa_cons pe_int pa_nil star_const))))
   (pss_cons (ps_setComp (i:=2) ["_law_k","_law_names"] [none,some 1] rfl (by kernel_rfl) nd rfl (by first | exact Or.inl rfl | exact Or.inr rfl) (pi_range1 rfl T.z_range (pa_cons pe_int pa_nil star_const)) (fun _ _ _ _=>(pgc 0)) (fun _ _ _ _=>pts_nil) (fun _ _ _ _=>(pe_dcall D__law_name hr (v1 1))))
   (pss_cons (psn 3 nd (pe_dcall D__law_text hr (pa_cons (pe_dcall D__law_term hr (pa_cons (pe_dcall D__law_feed hr (va 0 (pa_cons pe_int pa_nil star_const))) (va 2 (pa_cons pe_int (pa_cons pe_int pa_nil star_const) star_const)) star_call)) pa_nil star_call)))
   (pss_cons (psn 4 nd (pe_dcall D__law_feed hr (va 0 (pa_cons pe_int pa_nil star_const))))
   (pss_cons (psn 5 nd (pv 3))
   (pss_cons (ps_for PassesOwn.never rfl (pi_range1 rfl T.z_range (pa_cons (pe_op op_add pe_int (pe_dcall D__law_take hr (va 4 (pa_cons pe_int pa_nil star_const)))) pa_nil star_bin)) (pgn 6 nd)
   (pss_one (psn 5 nd (pe_dcall D__law_spoilt hr (va 4 (v1 5))))))
   (pss_cons (psn 7 nd (pe_lst (pa_strs [Str.ofString "",Str.ofString " ",Str.ofString "()",Str.ofString "(",Str.ofString "(rec)",Str.ofString "(rec a)",Str.ofString "(rec a )",Str.ofString "(case a)",Str.ofString "num",Str.ofString "it",Str.ofString "(+ 1)",Str.ofString "(get a)",Str.ofString "a b"] rfl)))
   (pss_cons (psn 7 nd (pe_op op_cat (pe_op op_cat (pv 7) (pe_comp ["_law_many"] [none] rfl (by kernel_rfl) (gk_pi_list (K:=K) rfl (pe_lst (pa_cons pe_int (pa_cons pe_int (pa_cons pe_int (pa_cons pe_int pa_nil star_const) star_const) star_const) star_const))) (fun _ _ _ _=>(pgc 0)) (fun _ _ _ _=>pts_nil) (fun _ _ _ _=>(pe_op op_add_str (pe_op op_add_str pe_str (pe_op op_mulN pe_str (pv 0))) pe_str)))) (pe_lst (pa_cons (pe_op op_add_str (pe_op op_add_str pe_str (pe_op op_mulN pe_str pe_int)) pe_str) pa_nil star_bin))))
   (pss_cons (psn 7 nd (pe_op op_cat (pv 7) (pe_lst (pa_strs [Str.ofString "(+- 1 2)",Str.ofString "( 1 2)",Str.ofString "(< 1 +1)",Str.ofString "(* 1_0 1)",Str.ofString "(= -0 0)",Str.ofString "(- 01 1)",Str.ofString "(- 1 2 3)",Str.ofString "(if 1 2)",Str.ofString "+1"] rfl))))
   (pss_cons (ps_for PassesOwn.never rfl (gk_pi_tup (K:=K) rfl (pe_tup (va 5 (va 3 (pa_cons (pe_op op_add_str (pv 3) pe_str) (pa_cons (pxl K (pv 7) (pe_dcall D__law_take hr (va 4 (pa_cons (pe_callB (call_len_seqC (K:=K) rfl) rfl T.z_len PySem.boot_len (v1 7)) pa_nil star_call)))) (v1 5) star_sub) star_bin))))) (pgn 8 nd)
   (pss_one (ps_if (PW.pt (pw_and (pt_cmpR op_lt (pe_dcall D__law_deep hr (v1 8)) pe_int (nomark _)) (pw_and1 (pt_not (pt_val (pe_dcall D__law_right hr (v1 8))))))) (pss_one (ps_ret pe_bl)) pss_nil)))
   (pss_one (ps_ret pe_bl)))))))))))),seq_cut fun R1 hR1=>?_⟩
 refine ⟨_,rfl,a,ns,1,rfl,hS,h63,by decide,fun r1 p1 q1 n1=>hR1 _ _ (seq_cut fun R2 hR2=>?_)⟩
 have s1:=Same.new n1 (.lst [.int p1,.int q1])
 have f1:(upd H r1 (.lst [.int p1,.int q1])) r1=some (.lst [.int p1,.int q1]):=upd_same
 refine ⟨_,rfl,by decide,by decide,?_⟩
 refine comp_range (j:=0) (fun i ys H'=>Fed r1 (upd H r1 (.lst [.int p1,.int q1])) H'∧∃ zs:List Str,ys=zs.map V.str∧∀ z∈zs,Name z) (by rfl) ⟨Fed.refl f1,[],rfl,fun _ h=>nomatch h⟩ (fitsLt (by decide)) ?_ ?_
 ·rintro i ys H2 hi hl ⟨g2,zs,rfl,hz⟩
  obtain ⟨p2,q2,h2⟩:=g2.2
  refine ⟨_,rfl,r1,p2,q2,rfl,h2,fun x H3 hx g3=>nxt hi hl ⟨g2.trans g3,zs++[x],by simp,fun z hzm=>?_⟩⟩
  rcases List.mem_append.mp hzm with hzm | hzm
  ·exact hz z hzm
  ·rw [List.mem_singleton.mp hzm]; exact hx
 rintro ys H2 hl ⟨g2,zs,rfl,hz⟩ b hb
 have sH2:Same H H2:=Fed.back n1 s1 g2
 have sb:=Same.new hb (.lst (zs.map V.str))
 have s2:=sH2.trans sb
 have h8:zs.length=8:=by rw [List.length_map] at hl; exact hl
 have hbl:(upd H2 b (.lst (zs.map V.str))) b=some (.lst (zs.map V.str)):=upd_same
 generalize upd H2 b (.lst (zs.map V.str))=H3 at sb s2 hbl ⊢
 refine hR2 _ _ (seq_cut fun R3 hR3=>?_)
 refine ⟨_,rfl,a,ns,2,rfl,s2.seq hS,h63,by decide,fun r3 p3 q3 n3=>?_⟩
 have s3:=Same.new n3 (.lst [.int p3,.int q3])
 have ne3:r3≠b:=fun e=>by rw [e,hbl] at n3; cases n3
 have src3:Src (upd H3 r3 (.lst [.int p3,.int q3])) r3 b:=⟨ne3,⟨p3,q3,upd_same⟩,zs,s3 _ _ hbl,h8,hz⟩
 refine ⟨_,rfl,r3,b,22,5,rfl,rfl,src3,fun v1 d1 t1 H4 h41 r41 g4=>?_⟩
 have s34:Same H3 H4:=Fed.back n3 s3 g4
 refine ⟨v1,d1,t1,rfl,r41,h41,fun H5 s5=>hR3 _ _ (seq_cut fun R4 hR4=>?_)⟩
 clear hR1 hR2 hR3 R1 R2 R3
 have tl:=h41.len
 have xl:(strOf t1).length ≤ 94000:=by
  rw [← L_length]
  show t1.cs.length ≤ _
  omega
 unfold vOf
 generalize strOf t1=x at xl ⊢
 have sHs:Same H H5:=s2.trans (s34.trans s5)
 refine ⟨_,rfl,a,ns,3,rfl,sHs.seq hS,h63,by decide,fun r5 p5 q5 n5=>hR4 _ _ (seq_cut fun R5 hR5=>?_)⟩
 have s6:=Same.new n5 (.lst [.int p5,.int q5])
 have f6:(upd H5 r5 (.lst [.int p5,.int q5])) r5=some (.lst [.int p5,.int q5]):=upd_same
 generalize upd H5 r5 (.lst [.int p5,.int q5])=H6 at s6 f6 ⊢
 refine ⟨_,rfl,hR5 _ _ (seq_cut fun R6 hR6=>?_)⟩
 clear hR4 hR5 R4 R5
 refine ⟨_,rfl,r5,p5,q5,3,rfl,f6,by decide,by decide,fun rr H7 rr0 rr1 f7=>?_⟩
 refine ⟨_,_,rfl,rfl,_,rfl,by omega,by omega,?_⟩
 have rn:(1 + rr).toNat ≤ 3:=by omega
 refine for_range (fun i σ H'=>∃ (y:Str) (o6:Option V),σ=[some (.ref a),some (.ref r1),some (.ref b),some (.str x),some (.ref r5),some (.str y),o6,none,none]∧y.length ≤ 94000 + 10 * i∧Fed r5 H6 H') ⟨x,none,rfl,by omega,f7⟩ ?_ ?_
 ·rintro i σ H8 hi ⟨y,o6,rfl,hy,f8⟩
  obtain ⟨p8,q8,h8'⟩:=f8.2
  refine ⟨_,rfl,_,rfl,r5,y,p8,q8,rfl,h8',by omega,fun y2 H9 hy2 f9=>?_⟩
  exact ⟨y2,_,rfl,by omega,f8.trans f9⟩
 rintro σ H8 ⟨y,o6,rfl,hy,f8⟩
 obtain ⟨p8,q8,h8'⟩:=f8.2
 refine hR6 _ _ (seq_cut fun R7 hR7=>?_)
 clear hR6 R6
 have ol1:∀ z∈[Str.ofString "",Str.ofString " ",Str.ofString "()",Str.ofString "(",Str.ofString "(rec)",Str.ofString "(rec a)",Str.ofString "(rec a )",Str.ofString "(case a)",Str.ofString "num",Str.ofString "it",Str.ofString "(+ 1)",Str.ofString "(get a)",Str.ofString "a b"],z.length ≤ 200:=by decide +kernel
 generalize ho1:[Str.ofString "",Str.ofString " ",Str.ofString "()",Str.ofString "(",Str.ofString "(rec)",Str.ofString "(rec a)",Str.ofString "(rec a )",Str.ofString "(case a)",Str.ofString "num",Str.ofString "it",Str.ofString "(+ 1)",Str.ofString "(get a)",Str.ofString "a b"]=os1 at ol1 ⊢
 have on1:os1.length=13:=by rw [← ho1]; rfl
 clear ho1
 refine ⟨by rw [List.length_map,on1]; decide,fun o1 ho=>hR7 _ _ (seq_cut fun R8 hR8=>?_)⟩
 clear hR7 R7
 have t1:=Same.new ho (.lst (os1.map V.str))
 have hO1:(upd H8 o1 (.lst (os1.map V.str))) o1=some (.lst (os1.map V.str)):=upd_same
 generalize upd H8 o1 (.lst (os1.map V.str))=H9 at t1 hO1 ⊢
 have fin:∀ (o4:Addr) (os2:List Str) H10,Same H8 H10→H10 o4=some (.lst (os2.map V.str))→(∀ z∈os2,z.length ≤ 200)→os2.length=18→R8 [some (.ref a),some (.ref r1),some (.ref b),some (.str x),some (.ref r5),some (.str y),o6,some (.ref o4),none] H10:=by
  intro o4 os2 H10 t9 hO4 ol2 on2
  refine hR8 _ _ (seq_cut fun R9 hR9=>?_)
  clear hR8 R8
  have ol3:∀ z∈[Str.ofString "(+- 1 2)",Str.ofString "( 1 2)",Str.ofString "(< 1 +1)",Str.ofString "(* 1_0 1)",Str.ofString "(= -0 0)",Str.ofString "(- 01 1)",Str.ofString "(- 1 2 3)",Str.ofString "(if 1 2)",Str.ofString "+1"],z.length ≤ 200:=by decide +kernel
  generalize ho3:[Str.ofString "(+- 1 2)",Str.ofString "( 1 2)",Str.ofString "(< 1 +1)",Str.ofString "(* 1_0 1)",Str.ofString "(= -0 0)",Str.ofString "(- 01 1)",Str.ofString "(- 1 2 3)",Str.ofString "(if 1 2)",Str.ofString "+1"]=os3 at ol3 ⊢
  have on3:os3.length=9:=by rw [← ho3]; rfl
  clear ho3
  refine ⟨_,rfl,by rw [List.length_map,on3]; decide,fun o5 ho5=>?_⟩
  have u1:=Same.new ho5 (.lst (os3.map V.str))
  refine ⟨o4,o5,_,_,rfl,rfl,u1 _ _ hO4,upd_same,by rw [List.length_map,List.length_map,on2,on3]; decide,fun o7 ho7=>?_⟩
  rw [← List.map_append] at *
  have u2:=Same.new ho7 (.lst ((os2++os3).map V.str))
  have t10:=t9.trans (u1.trans u2)
  have ol4:∀ z∈os2++os3,z.length ≤ 200:=fun z hz'=>by
   rcases List.mem_append.mp hz' with hz' | hz'
   ·exact ol2 z hz'
   ·exact ol3 z hz'
  have on4:(os2++os3).length=27:=by rw [List.length_append,on2,on3]
  have hO7:(upd (upd H10 o5 (.lst (os3.map V.str))) o7 (.lst ((os2++os3).map V.str))) o7=some (.lst ((os2++os3).map V.str)):=upd_same
  refine hR9 _ _ (seq_cut fun R10 hR10=>?_)
  generalize upd (upd H10 o5 (.lst (os3.map V.str))) o7 (.lst ((os2++os3).map V.str))=H11 at t10 hO7 ⊢
  generalize os2++os3=os4 at ol4 on4 hO7
  clear hR9 R9
  have h11:=t10 _ _ h8'
  have o7r:o7≠r5:=fun z=>by
   rw [z,h11] at hO7
   have e:=congrArg List.length (HO.lst.inj (Option.some.inj hO7))
   rw [List.length_map,on4] at e
   cases e
  have c6:(Str.ofString "\n").length=1:=by decide +kernel
  refine ⟨_,rfl,_,rfl,_,rfl,_,_,rfl,rfl,fits (by omega),_,rfl,_,rfl,_,rfl,o7,_,rfl,.inl (SqL.of hO7),r5,p8,q8,_,rfl,h11,by rw [List.length_map,on4]; decide,by rw [List.length_map,on4]; decide,fun r H12 r0 r1' f12=>?_⟩
  obtain ⟨z4,hz4,hv4⟩:=at_codes (cs:=os4.map V.str) r0 r1'
  obtain ⟨w4,hw4,rfl⟩:=List.mem_map.mp hz4
  have lw4:=ol4 w4 hw4
  refine ⟨o7,_,_,_,rfl,rfl,SqL.of (f12.1 o7 _ hO7 o7r),hv4,_,rfl,(by show 5 ≤ sizeLine; decide),fun tp htp=>⟨tp,rfl,⟨_,SqT.of upd_same⟩,?_⟩⟩
  generalize hxs:[V.str y,.str x,.str (x++Str.ofString "\n"),.str w4,.str y]=xs at htp ⊢
  have all:∀ v∈xs,∃ z:Str,v=.str z∧z.length ≤ 190000:=by
   rw [← hxs]
   intro v hv
   simp only [List.mem_cons,List.not_mem_nil,or_false] at hv
   rcases hv with rfl | rfl | rfl | rfl | rfl
   ·exact ⟨_,rfl,by omega⟩
   ·exact ⟨_,rfl,by omega⟩
   ·exact ⟨_,rfl,by rw [Str.length_append]; omega⟩
   ·exact ⟨_,rfl,by omega⟩
   ·exact ⟨_,rfl,by omega⟩
  have xn:xs.length=5:=by rw [← hxs]; rfl
  refine for_tup (xs:=xs) (fun i σ H'=>∃ o8,σ=[some (.ref a),some (.ref r1),some (.ref b),some (.str x),some (.ref r5),some (.str y),o6,some (.ref o7),o8]∧Same (upd H12 tp (.tup xs)) H') ⟨none,rfl,Same.refl _⟩ (fun i σ H' _ p=>?_) ?_ ?_
  ·obtain ⟨_,_,sm⟩:=p
   exact SqT.of (sm _ _ upd_same)
  ·rintro i v σ H' hv ⟨o8,rfl,sm⟩
   obtain ⟨z,rfl,lz⟩:=all v (List.mem_of_getElem? hv)
   refine ⟨_,rfl,z,rfl,_,_,rfl,rfl,_,rfl,ite2 (fun c=>?_) (fun c=>?_)⟩
   ·have:=of_decide_eq_true c
    refine ⟨_,rfl,z,rfl,lz,by omega,fun H13 s13=>⟨_,rfl,iteF ?_⟩⟩
    exact ⟨_,rfl,sm.trans s13⟩
   ·exact iteF ⟨_,rfl,sm⟩
  ·rintro σ H' ⟨o8,rfl,sm⟩
   exact hR10 _ _ (k H')
 refine ⟨_,rfl,(by show 4 ≤ sizeLine; decide),fun l4 hl4=>⟨l4,rfl,⟨_,SqL.of upd_same⟩,?_⟩⟩
 have t2:=Same.new hl4 (.lst [.int 1,.int 4,.int 5,.int 6])
 have c1:(Str.ofString "(case a").length=7:=by decide +kernel
 have c2:(Str.ofString " (b c 1)").length=8:=by decide +kernel
 have c3:(Str.ofString ")").length=1:=by decide +kernel
 refine comp_list (j:=0) (xs:=[.int 1,.int 4,.int 5,.int 6]) (fun i zs H'=>Same (upd H9 l4 (.lst [.int 1,.int 4,.int 5,.int 6])) H'∧∃ os:List Str,zs=os.map V.str∧∀ z∈os,z.length ≤ 200) (by rfl) ⟨Same.refl _,[],rfl,fun _ h=>nomatch h⟩ (fitsLt (by decide)) (fun i ys H' _ p=>SqL.of (p.1 _ _ upd_same)) ?_ ?_
 ·rintro i v zs H' hv hly ⟨sm,os,rfl,hos⟩
  have hi:i < [V.int 1,.int 4,.int 5,.int 6].length:=(List.getElem?_eq_some_iff.mp hv).1
  obtain ⟨nn,rfl,n1',n9⟩:∃ nn:Int,v=.int nn∧1 ≤ nn∧nn ≤ 9:=by
   match i,hv with
   | 0,hv=>cases hv; exact ⟨1,rfl,by decide,by decide⟩
   | 1,hv=>cases hv; exact ⟨4,rfl,by decide,by decide⟩
   | 2,hv=>cases hv; exact ⟨5,rfl,by decide,by decide⟩
   | 3,hv=>cases hv; exact ⟨6,rfl,by decide,by decide⟩
   | i + 4,hv=>simp at hv
  refine ⟨_,rfl,_,nn,rfl,rfl,n1',n9,by omega,fun r hr=>?_⟩
  refine ⟨_,_,rfl,rfl,fits (by omega),_,_,rfl,rfl,fits (by rw [Str.length_append]; omega),?_⟩
  refine nxt hi hly ⟨sm,os++[_],by rw [List.map_append]; rfl,fun z hz'=>?_⟩
  rcases List.mem_append.mp hz' with hz' | hz'
  ·exact hos z hz'
  ·rw [List.mem_singleton.mp hz',Str.length_append,Str.length_append]
   omega
 rintro zs' H' hly ⟨sm,os,rfl,hos⟩ D hD
 have osn:os.length=4:=by rw [List.length_map] at hly; exact hly
 have t3:=Same.new hD (.lst (os.map V.str))
 have t23:=t2.trans (sm.trans t3)
 refine ⟨o1,D,_,_,rfl,rfl,t23 _ _ hO1,upd_same,by rw [List.length_map,List.length_map,on1,osn]; decide,fun o2 ho2=>?_⟩
 have t4:=Same.new ho2 (.lst (os1.map V.str++os.map V.str))
 have c4:(Str.ofString "(rec a").length=6:=by decide +kernel
 have c5:(Str.ofString " 1").length=2:=by decide +kernel
 refine ⟨_,9,rfl,rfl,by decide,by decide,by omega,fun r hr=>⟨_,_,rfl,rfl,fits (by omega),_,_,rfl,rfl,fits (by rw [Str.length_append]; omega),(by show 1 ≤ sizeLine; decide),fun o3 ho3=>?_⟩⟩
 have lq:(Str.ofString "(rec a"++r++Str.ofString ")").length ≤ 200:=by rw [Str.length_append,Str.length_append]; omega
 generalize Str.ofString "(rec a"++r++Str.ofString ")"=qq at lq ho3 ⊢
 have t5:=Same.new ho3 (.lst [.str qq])
 refine ⟨o2,o3,_,_,rfl,rfl,t5 _ _ upd_same,upd_same,(by rw [List.length_append,List.length_map,List.length_map,on1,osn]; show 18 ≤ sizeLine; decide),fun o4 ho4=>?_⟩
 have em:os1.map V.str++os.map V.str++[V.str qq]=(os1++os++[qq]).map V.str:=by rw [List.map_append,List.map_append]; rfl
 rw [em] at *
 have t6:=Same.new ho4 (.lst ((os1++os++[qq]).map V.str))
 have t9:=t1.trans (t23.trans (t4.trans (t5.trans t6)))
 have ol2:∀ z∈os1++os++[qq],z.length ≤ 200:=fun z hz'=>by
  rcases List.mem_append.mp hz' with hz' | hz'
  ·rcases List.mem_append.mp hz' with hz' | hz'
   ·exact ol1 z hz'
   ·exact hos z hz'
  ·rw [List.mem_singleton.mp hz']; exact lq
 have on2:(os1++os++[qq]).length=18:=by rw [List.length_append,List.length_append,on1,osn]; rfl
 exact fin o4 _ _ t9 upd_same ol2 on2
theorem law_is (T:Tx K mg):DefIs P w K mg base 70 "law" ["_law_script"] (spLaw K):=by
 have feed:∀ k,DefIs P w K mg base (k + 1) "_law_feed" ["_law_script","_law_k"] (spFeed K):=fun k=>ok__law_feed T
 have take:∀ k,DefIs P w K mg base (k + 1) "_law_take" ["_law_feed_here","_law_many"] spTake:=fun k=>ok__law_take T
 have name:∀ k,DefIs P w K mg base (k + 2) "_law_name" ["_law_feed_here"] spLName:=fun k=>ok__law_name T (take k)
 have whole:∀ k,DefIs P w K mg base (k + 2) "_law_whole" ["_law_feed_here"] spWhole:=fun k=>ok__law_whole T (take k)
 have some':∀ k,DefIs P w K mg base (k + 2) "_law_some" ["_law_feed_here","_law_pool"] spSome:=fun k=>ok__law_some T (take k)
 have someV:∀ k,DefIs P w K mg base (k + 2) "_law_some" ["_law_feed_here","_law_pool"] spSomeV:=fun k=>ok__law_someV T (take k)
 have sign:∀ k,DefIs P w K mg base (k + 2) "_law_sign" ["_law_feed_here"] spSign:=fun k=>ok__law_sign T (take k)
 have leaf:∀ k,DefIs P w K mg base (k + 3) "_law_leaf" ["_law_feed_here","_law_pool"] spLeaf:=fun k=>ok__law_leaf T (take (k + 1)) (whole k) (some' k)
 have term:∀ m:Nat,DefIs P w K mg base (m + 4) "_law_term" ["_law_feed_here","_law_pool","_law_room","_law_deep_here"] (spTerm m):=by
  intro m
  induction m with
  | zero=>exact ok__law_term (n:=3) T (fun _ _ _ _=>False) (take 2) (leaf 0) (some' 1) (DefIs.none T.d__law_term fun _ _ _ _ h=>h) (fun k e=>by cases e)
  | succ m ih=>exact ok__law_term (n:=m + 4) T (spTerm m) (take (m + 3)) (leaf (m + 1)) (some' (m + 2)) ih (fun k e=>by cases e; rfl)
 have right:DefIs P w K mg base 69 "_law_right" ["_law_text_here"] spRight:=ok__law_right (n:=68) T ((parsed_is T 21).1.mono (by omega)) (ok__law_bad_at (n:=67) T ((of_x T).mono (by omega))) ((of_g T).mono (by omega)) (ok__law_alike (n:=67) T) ((writer3 T 20).mono (by omega))
 exact ok_law (n:=69) T (feed 68) (name 67) ((term 5).mono (by omega)) ((law_writer T 5 (by omega)).mono (by omega)) (take 68) (ok__law_spoilt (n:=68) T (take 67) (someV 66) (sign 66)) (ok__law_deep (n:=68) T) right
end
end K3
end
namespace PySem.W.Fast
def tw1450158165944331427:0=0:=rfl
def tw2532107304522191765:0=0:=rfl
def tw5644161882160731229:0=0:=rfl
def tw7082464551631607024:0=0:=rfl
def tw17507728304536145604:0=0:=rfl
def tw11907476933066412394:0=0:=rfl
def tw8212971794801454841:0=0:=rfl
def tw4290822982826599080:0=0:=rfl
def tw1450411811111097584:0=0:=rfl
def tw17753118458136529983:0=0:=rfl
def tw12748298813785743701:0=0:=rfl
def tw6581595052282412933:0=0:=rfl
def tw1454348524217151097:0=0:=rfl
def tw11280982958793588449:0=0:=rfl
def tw16674545319090675392:0=0:=rfl
def tw12763528148009094683:0=0:=rfl
def tw2250571592617520770:0=0:=rfl
def tw9928770017105111683:0=0:=rfl
def tw10863396258657238897:0=0:=rfl
def tw18030270547886846372:0=0:=rfl
def tw10519581472615596081:0=0:=rfl
def tw6308888188416858311:0=0:=rfl
def tw996530537808870720:0=0:=rfl
def tw5664855637161539488:0=0:=rfl
def tw10284024021452021236:0=0:=rfl
def tw1369156053189078405:0=0:=rfl
def tw17086407377544403197:0=0:=rfl
def tw11328679713505014464:0=0:=rfl
def tw13902562495583231594:0=0:=rfl
def tw5729237933031624565:0=0:=rfl
def tw16566936287426255410:0=0:=rfl
def tw15795704443342463251:0=0:=rfl
def tw3199691388239551781:0=0:=rfl
def tw11300002853129993976:0=0:=rfl
def tw2381022908772431642:0=0:=rfl
def tw1485966994771169131:0=0:=rfl
def tw5701272817703369775:0=0:=rfl
def tw13438618821923720204:0=0:=rfl
def tw17527370393200677485:0=0:=rfl
def tw15499174412419401477:0=0:=rfl
def tw11795257735109935963:0=0:=rfl
def tw5478905669178289999:0=0:=rfl
def tw4042705061372719008:0=0:=rfl
def tw16562573406836935857:0=0:=rfl
def tw11638614326793702259:0=0:=rfl
def tw8281032810544446798:0=0:=rfl
def tw3075678278863569536:0=0:=rfl
def tw4669379097578694779:0=0:=rfl
def tw149340374644982643:0=0:=rfl
def tw9611997524045255998:0=0:=rfl
def tw6888208078691218259:0=0:=rfl
def tw12368185260458381326:0=0:=rfl
def tw6078263870668760753:0=0:=rfl
def tw1650632632298893251:0=0:=rfl
def tw6659749281230799332:0=0:=rfl
def tw15486575351569827137:0=0:=rfl
def tw13467038586251858233:0=0:=rfl
def tw12850739380328901780:0=0:=rfl
def tw7444306682472474449:0=0:=rfl
def tw14203702675003518685:0=0:=rfl
def tw7988692589366681637:0=0:=rfl
def tw4943961534636992856:0=0:=rfl
def tw9043889165898829209:0=0:=rfl
def tw15346905116424814493:0=0:=rfl
def tw14928470152905385138:0=0:=rfl
def tw13253929978229559900:0=0:=rfl
def tw12395588174356761730:0=0:=rfl
def tw11425162504011993760:0=0:=rfl
def tw6252905650007075887:0=0:=rfl
def tw4659847298288665553:0=0:=rfl
def tw10728871057534568118:0=0:=rfl
def tw1239877642007319240:0=0:=rfl
def tw14892276864503348306:0=0:=rfl
def tw6949063891931712120:0=0:=rfl
def tw9887555482958144763:0=0:=rfl
def tw12363694966098117461:0=0:=rfl
def tw500978649155352505:0=0:=rfl
def tw15099780294066914452:0=0:=rfl
def tw11991865497043310291:0=0:=rfl
def tw11859330331791892622:0=0:=rfl
def tw1151288394812292009:0=0:=rfl
def tw10835098030267061652:0=0:=rfl
def tw6384619241304699086:0=0:=rfl
def tw12342897308827784043:0=0:=rfl
def tw11849231368355271041:0=0:=rfl
def tw2808781029668506752:0=0:=rfl
def tw12843646258890095092:0=0:=rfl
def tw1294672475138005643:0=0:=rfl
def tw9392397841650006414:0=0:=rfl
def tw1065672284192739916:0=0:=rfl
def tw1591694345562540679:0=0:=rfl
def tw4439671096273020514:0=0:=rfl
def tw2461041256174556405:0=0:=rfl
def tw252849618833869402:0=0:=rfl
def tw12635850908848395961:0=0:=rfl
def tw16668794364833694379:0=0:=rfl
def tw8423968903847580071:0=0:=rfl
def tw10851572113152700949:0=0:=rfl
def tw8544893830604109584:0=0:=rfl
def tw9204278755813351761:0=0:=rfl
def tw17058742360939471071:0=0:=rfl
def tw14277619637511139454:0=0:=rfl
def tw3508263065296432337:0=0:=rfl
def tw16036427345766566226:0=0:=rfl
def tw9290216160873276380:0=0:=rfl
def tw6838777650105284863:0=0:=rfl
def tw5142302067864682565:0=0:=rfl
def tw18103482730742426368:0=0:=rfl
def tw14216225024549940686:0=0:=rfl
def tw17583134389190043412:0=0:=rfl
def tw8928250250739745813:0=0:=rfl
def tw6343558017409672449:0=0:=rfl
def tw3107415799766303221:0=0:=rfl
def tw14489113874928243624:0=0:=rfl
def tw7792702362448385289:0=0:=rfl
def tw2358581450757148689:0=0:=rfl
def tw15378316455007153386:0=0:=rfl
def tw16311611811852069652:0=0:=rfl
def tw3920857666970005835:0=0:=rfl
def tw12819291153609267540:0=0:=rfl
def tw13989492866521701376:0=0:=rfl
def tw13447435112811412374:0=0:=rfl
def tw6648399675706125672:0=0:=rfl
def tw10223420464637453536:0=0:=rfl
def tw2382622386222734185:0=0:=rfl
def tw14712924699273877534:0=0:=rfl
def tw13449147280796096798:0=0:=rfl
def tw5067917933421294240:0=0:=rfl
def tw16986459024934747284:0=0:=rfl
def tw14195375975295958448:0=0:=rfl
def tw11795711528589109813:0=0:=rfl
def tw8588753245757636709:0=0:=rfl
def tw12464399435609624816:0=0:=rfl
def tw7919453830846723153:0=0:=rfl
def tw15989600695673998331:0=0:=rfl
def tw4383522644203395599:0=0:=rfl
def tw17441438918181289350:0=0:=rfl
def tw12718404438289571366:0=0:=rfl
def tw14866059819222206612:0=0:=rfl
def tw6251156242743610548:0=0:=rfl
def tw2546059508062178109:0=0:=rfl
def tw18082872031021063400:0=0:=rfl
def tw2755824033321384760:0=0:=rfl
def tw2490218249110409401:0=0:=rfl
def tw6851392822169031398:0=0:=rfl
def tw10834680505737538044:0=0:=rfl
def tw7065004923135871675:0=0:=rfl
def tw7983633759578038118:0=0:=rfl
def tw5390236005926123670:0=0:=rfl
def tw13154743493751105827:0=0:=rfl
def tw1832679158402536929:0=0:=rfl
def tw2274205597836202171:0=0:=rfl
def tw7912778100296360061:0=0:=rfl
def tw1748090635794476918:0=0:=rfl
def tw10411946197905326298:0=0:=rfl
def tw4272404425058290240:0=0:=rfl
def tw9196597116819739472:0=0:=rfl
def tw2389285134159086531:0=0:=rfl
def tw13563642509574706247:0=0:=rfl
def tw10841836187289831358:0=0:=rfl
def tw17312919451514897782:0=0:=rfl
def tw9994115963632793098:0=0:=rfl
def tw11223507073254287162:0=0:=rfl
def tw18209646521566235625:0=0:=rfl
def tw5434005782147014857:0=0:=rfl
def tw10225879523955973091:0=0:=rfl
def tw14759742454480316080:0=0:=rfl
def tw9996916775716101864:0=0:=rfl
def tw11450571494955871025:0=0:=rfl
def tw2886856343171322848:0=0:=rfl
def tw7308033634432114189:0=0:=rfl
def tw281001168848101716:0=0:=rfl
def tw6390015188535566350:0=0:=rfl
def tw2911346722720169336:0=0:=rfl
def tw8902772133276383649:0=0:=rfl
def tw10093090110493788265:0=0:=rfl
def tw3331326759599551682:0=0:=rfl
def tw15906757457189832485:0=0:=rfl
def tw7931082740191118845:0=0:=rfl
def tw3599199998507650727:0=0:=rfl
def tw4243771718818961136:0=0:=rfl
def tw15013827997997789807:0=0:=rfl
def tw18270973723452105047:0=0:=rfl
def tw2805885164338628755:0=0:=rfl
def tw15553192762038434054:0=0:=rfl
def tw1730556836050360982:0=0:=rfl
def tw8404369443919824965:0=0:=rfl
def tw16561619331655444301:0=0:=rfl
def tw9046492229523425350:0=0:=rfl
def tw9960994037964160131:0=0:=rfl
def tw18175071791361465081:0=0:=rfl
def tw11442888177936685237:0=0:=rfl
def tw4298073573219893337:0=0:=rfl
def tw14054936435545218526:0=0:=rfl
def tw2213095726508126031:0=0:=rfl
def tw6215991030118582962:0=0:=rfl
def tw12742490213811290562:0=0:=rfl
def tw2622700824888586256:0=0:=rfl
def tw15267041661538652802:0=0:=rfl
def tw5718309311378109610:0=0:=rfl
def tw12413644361241738997:0=0:=rfl
def tw4358562402022462032:0=0:=rfl
def tw6025133119439581513:0=0:=rfl
def tw17598329510500834793:0=0:=rfl
def tw16380793363141015266:0=0:=rfl
def tw18208155771520389191:0=0:=rfl
def tw17166342701189983077:0=0:=rfl
def tw10165698811117509335:0=0:=rfl
def tw9301949899534007023:0=0:=rfl
def tw8878215230609291924:0=0:=rfl
def tw10529916552045402333:0=0:=rfl
def tw12651627912029925678:0=0:=rfl
def tw11355910316008737583:0=0:=rfl
def tw7264941501293863736:0=0:=rfl
def tw1884900374733890887:0=0:=rfl
def tw16473723511631037110:0=0:=rfl
def tw6863744913732741376:0=0:=rfl
def tw1441308765833153351:0=0:=rfl
def tw5219285755136024642:0=0:=rfl
def tw1487456376083848258:0=0:=rfl
def tw564193600131024434:0=0:=rfl
def tw15690527776147904009:0=0:=rfl
def tw6031691553942324261:0=0:=rfl
def tw7197084972968556450:0=0:=rfl
def tw6320466747470398730:0=0:=rfl
def tw11056016222182196984:0=0:=rfl
def tw2876303544966004509:0=0:=rfl
def tw6855035755865670178:0=0:=rfl
def tw6075948963868070440:0=0:=rfl
def tw2730148340273689950:0=0:=rfl
def tw9556498628134062551:0=0:=rfl
def tw5647901965123094439:0=0:=rfl
def tw2666786552552105719:0=0:=rfl
def tw16059993112105822420:0=0:=rfl
def tw7558543285368822032:0=0:=rfl
def tw8301607935230073957:0=0:=rfl
def tw4769812058300068342:0=0:=rfl
def tw7299128226706367063:0=0:=rfl
def tw12001550353681548889:0=0:=rfl
def tw6273162054642590693:0=0:=rfl
def tw1369576987808796202:0=0:=rfl
def tw4433108013919525142:0=0:=rfl
def tw10789007865397113037:0=0:=rfl
def tw13184193599820484192:0=0:=rfl
def tw11354938376342671232:0=0:=rfl
def tw10191306996803768985:0=0:=rfl
def tw8018282040490473422:0=0:=rfl
def tw16857024583076269313:0=0:=rfl
def tw5344400384305181592:0=0:=rfl
def tw306765967804308079:0=0:=rfl
def tw8997524881710559236:0=0:=rfl
def tw6644474330244882133:0=0:=rfl
def tw3020753496574199022:0=0:=rfl
def tw16367014487336121377:0=0:=rfl
def tw17525191081006167992:0=0:=rfl
def tw3147107224233837061:0=0:=rfl
def tw14432874813057895341:0=0:=rfl
def tw12631347095065712392:0=0:=rfl
def tw8775887456597849511:0=0:=rfl
def tw2608718559188299905:0=0:=rfl
def tw8074569222318123575:0=0:=rfl
def tw17556235033763400910:0=0:=rfl
def tw10557839838152613812:0=0:=rfl
def tw16104185290657263959:0=0:=rfl
def tw1296991561733964947:0=0:=rfl
def tw1562653652460478607:0=0:=rfl
def tw6884652424454650965:0=0:=rfl
def tw17349396615260411001:0=0:=rfl
def tw9928159029883771044:0=0:=rfl
def tw18436167469997040185:0=0:=rfl
def tw8420563993725468871:0=0:=rfl
def tw16345864786760100627:0=0:=rfl
def tw10591601382395952461:0=0:=rfl
def tw7287181063280127292:0=0:=rfl
def tw8526791083007444373:0=0:=rfl
def tw1656754389553073439:0=0:=rfl
end PySem.W.Fast
open PySem PySem.W PyProof.Rows
set_option maxRecDepth 100000 in
set_option maxHeartbeats 0 in
theorem PySem.Challenge.cw_swapstride_k03_texts_of_no_term_holds : PySem.Challenge.rw_swapstride_k03_texts_of_no_term.Holds := by
 w_on; o_law; k_head; (case hw=>w_witness2)
 k_fill
 refine L2.walk_of (l:=PySem.Challenge.rw_swapstride_k03_texts_of_no_term) (n:=63) (k:=70) (x:="_law_script") (CX:=fun _=>L2.CX0) (sp:=fun _=>K3.spLaw _) rfl (by decide) rfl ⟨rfl,by decide,by decide⟩ (fun w h Y=>PySem.W.kIn_of Y) ?F (fun _ _ a ns hl _ hS=>⟨a,ns,rfl,hS,hl,fun _=>rfl⟩) fun _ _ _ _ _ z=>z
 case F=>
  intro w mg fa h KX G hmg
  have d_is_name:L2.DefTx (L2.KOf KX) mg "is_name" K3.s_is_name ["text"]:=by
   dsimp only [L2.KOf]
   refine' L2.deftx_mk KX G ?a ?l ?c ?k ?b
   (case a=>k_is); (case l=>k_is); (case c=>k_is); (case k=>k_is)
   (case b=>exact fun _ _ _ _ _ _ us hl=>match us,hl with | [_],_=>rfl)
  have d_is_number:L2.DefTx (L2.KOf KX) mg "is_number" K3.s_is_number ["text"]:=by
   dsimp only [L2.KOf]
   refine' L2.deftx_mk KX G ?a ?l ?c ?k ?b
   (case a=>k_is); (case l=>k_is); (case c=>k_is); (case k=>k_is)
   (case b=>exact fun _ _ _ _ _ _ us hl=>match us,hl with | [_],_=>rfl)
  have d_is_made_of:L2.DefTx (L2.KOf KX) mg "is_made_of" K3.s_is_made_of ["text","signs","most"]:=by
   dsimp only [L2.KOf]
   refine' L2.deftx_mk KX G ?a ?l ?c ?k ?b
   (case a=>k_is); (case l=>k_is); (case c=>k_is); (case k=>k_is)
   (case b=>exact fun _ _ _ _ _ _ us hl=>match us,hl with | [_,_,_],_=>rfl)
  have d_term_text:L2.DefTx (L2.KOf KX) mg "term_text" K3.s_term_text ["term"]:=by
   dsimp only [L2.KOf]
   refine' L2.deftx_mk KX G ?a ?l ?c ?k ?b
   (case a=>k_is); (case l=>k_is); (case c=>k_is); (case k=>k_is)
   (case b=>exact fun _ _ _ _ _ _ us hl=>match us,hl with | [_],_=>rfl)
  have d_bracketed:L2.DefTx (L2.KOf KX) mg "bracketed" K3.s_bracketed ["texts"]:=by
   dsimp only [L2.KOf]
   refine' L2.deftx_mk KX G ?a ?l ?c ?k ?b
   (case a=>k_is); (case l=>k_is); (case c=>k_is); (case k=>k_is)
   (case b=>exact fun _ _ _ _ _ _ us hl=>match us,hl with | [_],_=>rfl)
  have d_inner_texts:L2.DefTx (L2.KOf KX) mg "inner_texts" K3.s_inner_texts ["term"]:=by
   dsimp only [L2.KOf]
   refine' L2.deftx_mk KX G ?a ?l ?c ?k ?b
   (case a=>k_is); (case l=>k_is); (case c=>k_is); (case k=>k_is)
   (case b=>exact fun _ _ _ _ _ _ us hl=>match us,hl with | [_],_=>rfl)
  have d_term_texts:L2.DefTx (L2.KOf KX) mg "term_texts" K3.s_term_texts ["terms"]:=by
   dsimp only [L2.KOf]
   refine' L2.deftx_mk KX G ?a ?l ?c ?k ?b
   (case a=>k_is); (case l=>k_is); (case c=>k_is); (case k=>k_is)
   (case b=>exact fun _ _ _ _ _ _ us hl=>match us,hl with | [_],_=>rfl)
  have d_arm_text:L2.DefTx (L2.KOf KX) mg "arm_text" K3.s_arm_text ["arm"]:=by
   dsimp only [L2.KOf]
   refine' L2.deftx_mk KX G ?a ?l ?c ?k ?b
   (case a=>k_is); (case l=>k_is); (case c=>k_is); (case k=>k_is)
   (case b=>exact fun _ _ _ _ _ _ us hl=>match us,hl with | [_],_=>rfl)
  have d_term_of:L2.DefTx (L2.KOf KX) mg "term_of" K3.s_term_of ["text"]:=by
   dsimp only [L2.KOf]
   refine' L2.deftx_mk KX G ?a ?l ?c ?k ?b
   (case a=>k_is); (case l=>k_is); (case c=>k_is); (case k=>k_is)
   (case b=>exact fun _ _ _ _ _ _ us hl=>match us,hl with | [_],_=>rfl)
  have d_term_with:L2.DefTx (L2.KOf KX) mg "term_with" K3.s_term_with ["text","more"]:=by
   dsimp only [L2.KOf]
   refine' L2.deftx_mk KX G ?a ?l ?c ?k ?b
   (case a=>k_is); (case l=>k_is); (case c=>k_is); (case k=>k_is)
   (case b=>exact fun _ _ _ _ _ _ us hl=>match us,hl with | [_,_],_=>rfl)
  have d_need:L2.DefTx (L2.KOf KX) mg "need" K3.s_need ["holds"]:=by
   dsimp only [L2.KOf]
   refine' L2.deftx_mk KX G ?a ?l ?c ?k ?b
   (case a=>k_is); (case l=>k_is); (case c=>k_is); (case k=>k_is)
   (case b=>exact fun _ _ _ _ _ _ us hl=>match us,hl with | [_],_=>rfl)
  have d_trees_of:L2.DefTx (L2.KOf KX) mg "trees_of" K3.s_trees_of ["text"]:=by
   dsimp only [L2.KOf]
   refine' L2.deftx_mk KX G ?a ?l ?c ?k ?b
   (case a=>k_is); (case l=>k_is); (case c=>k_is); (case k=>k_is)
   (case b=>exact fun _ _ _ _ _ _ us hl=>match us,hl with | [_],_=>rfl)
  have d_put_word:L2.DefTx (L2.KOf KX) mg "put_word" K3.s_put_word ["pile","word"]:=by
   dsimp only [L2.KOf]
   refine' L2.deftx_mk KX G ?a ?l ?c ?k ?b
   (case a=>k_is); (case l=>k_is); (case c=>k_is); (case k=>k_is)
   (case b=>exact fun _ _ _ _ _ _ us hl=>match us,hl with | [_,_],_=>rfl)
  have d_close_brackets:L2.DefTx (L2.KOf KX) mg "close_brackets" K3.s_close_brackets ["pile","many"]:=by
   dsimp only [L2.KOf]
   refine' L2.deftx_mk KX G ?a ?l ?c ?k ?b
   (case a=>k_is); (case l=>k_is); (case c=>k_is); (case k=>k_is)
   (case b=>exact fun _ _ _ _ _ _ us hl=>match us,hl with | [_,_],_=>rfl)
  have d_term_from:L2.DefTx (L2.KOf KX) mg "term_from" K3.s_term_from ["tree","more"]:=by
   dsimp only [L2.KOf]
   refine' L2.deftx_mk KX G ?a ?l ?c ?k ?b
   (case a=>k_is); (case l=>k_is); (case c=>k_is); (case k=>k_is)
   (case b=>exact fun _ _ _ _ _ _ us hl=>match us,hl with | [_,_],_=>rfl)
  have d_terms_from:L2.DefTx (L2.KOf KX) mg "terms_from" K3.s_terms_from ["trees","more"]:=by
   dsimp only [L2.KOf]
   refine' L2.deftx_mk KX G ?a ?l ?c ?k ?b
   (case a=>k_is); (case l=>k_is); (case c=>k_is); (case k=>k_is)
   (case b=>exact fun _ _ _ _ _ _ us hl=>match us,hl with | [_,_],_=>rfl)
  have d_leaf_from:L2.DefTx (L2.KOf KX) mg "leaf_from" K3.s_leaf_from ["word","more"]:=by
   dsimp only [L2.KOf]
   refine' L2.deftx_mk KX G ?a ?l ?c ?k ?b
   (case a=>k_is); (case l=>k_is); (case c=>k_is); (case k=>k_is)
   (case b=>exact fun _ _ _ _ _ _ us hl=>match us,hl with | [_,_],_=>rfl)
  have d_name_from:L2.DefTx (L2.KOf KX) mg "name_from" K3.s_name_from ["tree"]:=by
   dsimp only [L2.KOf]
   refine' L2.deftx_mk KX G ?a ?l ?c ?k ?b
   (case a=>k_is); (case l=>k_is); (case c=>k_is); (case k=>k_is)
   (case b=>exact fun _ _ _ _ _ _ us hl=>match us,hl with | [_],_=>rfl)
  have d_arm_from:L2.DefTx (L2.KOf KX) mg "arm_from" K3.s_arm_from ["tree","more"]:=by
   dsimp only [L2.KOf]
   refine' L2.deftx_mk KX G ?a ?l ?c ?k ?b
   (case a=>k_is); (case l=>k_is); (case c=>k_is); (case k=>k_is)
   (case b=>exact fun _ _ _ _ _ _ us hl=>match us,hl with | [_,_],_=>rfl)
  have d__law_feed:L2.DefTx (L2.KOf KX) mg "_law_feed" K3.s__law_feed ["_law_script","_law_k"]:=by
   dsimp only [L2.KOf]
   refine' L2.deftx_mk KX G ?a ?l ?c ?k ?b
   (case a=>k_is); (case l=>k_is); (case c=>k_is); (case k=>k_is)
   (case b=>exact fun _ _ _ _ _ _ us hl=>match us,hl with | [_,_],_=>rfl)
  have d__law_take:L2.DefTx (L2.KOf KX) mg "_law_take" K3.s__law_take ["_law_feed_here","_law_many"]:=by
   dsimp only [L2.KOf]
   refine' L2.deftx_mk KX G ?a ?l ?c ?k ?b
   (case a=>k_is); (case l=>k_is); (case c=>k_is); (case k=>k_is)
   (case b=>exact fun _ _ _ _ _ _ us hl=>match us,hl with | [_,_],_=>rfl)
  have d__law_name:L2.DefTx (L2.KOf KX) mg "_law_name" K3.s__law_name ["_law_feed_here"]:=by
   dsimp only [L2.KOf]
   refine' L2.deftx_mk KX G ?a ?l ?c ?k ?b
   (case a=>k_is); (case l=>k_is); (case c=>k_is); (case k=>k_is)
   (case b=>exact fun _ _ _ _ _ _ us hl=>match us,hl with | [_],_=>rfl)
  have d__law_whole:L2.DefTx (L2.KOf KX) mg "_law_whole" K3.s__law_whole ["_law_feed_here"]:=by
   dsimp only [L2.KOf]
   refine' L2.deftx_mk KX G ?a ?l ?c ?k ?b
   (case a=>k_is); (case l=>k_is); (case c=>k_is); (case k=>k_is)
   (case b=>exact fun _ _ _ _ _ _ us hl=>match us,hl with | [_],_=>rfl)
  have d__law_some:L2.DefTx (L2.KOf KX) mg "_law_some" K3.s__law_some ["_law_feed_here","_law_pool"]:=by
   dsimp only [L2.KOf]
   refine' L2.deftx_mk KX G ?a ?l ?c ?k ?b
   (case a=>k_is); (case l=>k_is); (case c=>k_is); (case k=>k_is)
   (case b=>exact fun _ _ _ _ _ _ us hl=>match us,hl with | [_,_],_=>rfl)
  have d__law_leaf:L2.DefTx (L2.KOf KX) mg "_law_leaf" K3.s__law_leaf ["_law_feed_here","_law_pool"]:=by
   dsimp only [L2.KOf]
   refine' L2.deftx_mk KX G ?a ?l ?c ?k ?b
   (case a=>k_is); (case l=>k_is); (case c=>k_is); (case k=>k_is)
   (case b=>exact fun _ _ _ _ _ _ us hl=>match us,hl with | [_,_],_=>rfl)
  have d__law_term:L2.DefTx (L2.KOf KX) mg "_law_term" K3.s__law_term ["_law_feed_here","_law_pool","_law_room","_law_deep_here"]:=by
   dsimp only [L2.KOf]
   refine' L2.deftx_mk KX G ?a ?l ?c ?k ?b
   (case a=>k_is); (case l=>k_is); (case c=>k_is); (case k=>k_is)
   (case b=>exact fun _ _ _ _ _ _ us hl=>match us,hl with | [_,_,_,_],_=>rfl)
  have d__law_text:L2.DefTx (L2.KOf KX) mg "_law_text" K3.s__law_text ["_law_term_here"]:=by
   dsimp only [L2.KOf]
   refine' L2.deftx_mk KX G ?a ?l ?c ?k ?b
   (case a=>k_is); (case l=>k_is); (case c=>k_is); (case k=>k_is)
   (case b=>exact fun _ _ _ _ _ _ us hl=>match us,hl with | [_],_=>rfl)
  have d__law_words_of:L2.DefTx (L2.KOf KX) mg "_law_words_of" K3.s__law_words_of ["_law_text_here"]:=by
   dsimp only [L2.KOf]
   refine' L2.deftx_mk KX G ?a ?l ?c ?k ?b
   (case a=>k_is); (case l=>k_is); (case c=>k_is); (case k=>k_is)
   (case b=>exact fun _ _ _ _ _ _ us hl=>match us,hl with | [_],_=>rfl)
  have d__law_all_of:L2.DefTx (L2.KOf KX) mg "_law_all_of" K3.s__law_all_of ["_law_text_here","_law_signs"]:=by
   dsimp only [L2.KOf]
   refine' L2.deftx_mk KX G ?a ?l ?c ?k ?b
   (case a=>k_is); (case l=>k_is); (case c=>k_is); (case k=>k_is)
   (case b=>exact fun _ _ _ _ _ _ us hl=>match us,hl with | [_,_],_=>rfl)
  have d__law_is_name:L2.DefTx (L2.KOf KX) mg "_law_is_name" K3.s__law_is_name ["_law_text_here"]:=by
   dsimp only [L2.KOf]
   refine' L2.deftx_mk KX G ?a ?l ?c ?k ?b
   (case a=>k_is); (case l=>k_is); (case c=>k_is); (case k=>k_is)
   (case b=>exact fun _ _ _ _ _ _ us hl=>match us,hl with | [_],_=>rfl)
  have d__law_is_figures:L2.DefTx (L2.KOf KX) mg "_law_is_figures" K3.s__law_is_figures ["_law_text_here"]:=by
   dsimp only [L2.KOf]
   refine' L2.deftx_mk KX G ?a ?l ?c ?k ?b
   (case a=>k_is); (case l=>k_is); (case c=>k_is); (case k=>k_is)
   (case b=>exact fun _ _ _ _ _ _ us hl=>match us,hl with | [_],_=>rfl)
  have d__law_arm:L2.DefTx (L2.KOf KX) mg "_law_arm" K3.s__law_arm ["_law_text_here"]:=by
   dsimp only [L2.KOf]
   refine' L2.deftx_mk KX G ?a ?l ?c ?k ?b
   (case a=>k_is); (case l=>k_is); (case c=>k_is); (case k=>k_is)
   (case b=>exact fun _ _ _ _ _ _ us hl=>match us,hl with | [_],_=>rfl)
  have d__law_case:L2.DefTx (L2.KOf KX) mg "_law_case" K3.s__law_case ["_law_words"]:=by
   dsimp only [L2.KOf]
   refine' L2.deftx_mk KX G ?a ?l ?c ?k ?b
   (case a=>k_is); (case l=>k_is); (case c=>k_is); (case k=>k_is)
   (case b=>exact fun _ _ _ _ _ _ us hl=>match us,hl with | [_],_=>rfl)
  have d__law_parsed:L2.DefTx (L2.KOf KX) mg "_law_parsed" K3.s__law_parsed ["_law_text_here"]:=by
   dsimp only [L2.KOf]
   refine' L2.deftx_mk KX G ?a ?l ?c ?k ?b
   (case a=>k_is); (case l=>k_is); (case c=>k_is); (case k=>k_is)
   (case b=>exact fun _ _ _ _ _ _ us hl=>match us,hl with | [_],_=>rfl)
  have d__law_alike:L2.DefTx (L2.KOf KX) mg "_law_alike" K3.s__law_alike ["_law_found","_law_due"]:=by
   dsimp only [L2.KOf]
   refine' L2.deftx_mk KX G ?a ?l ?c ?k ?b
   (case a=>k_is); (case l=>k_is); (case c=>k_is); (case k=>k_is)
   (case b=>exact fun _ _ _ _ _ _ us hl=>match us,hl with | [_,_],_=>rfl)
  have d__law_bad_at:L2.DefTx (L2.KOf KX) mg "_law_bad_at" K3.s__law_bad_at ["_law_text_here"]:=by
   dsimp only [L2.KOf]
   refine' L2.deftx_mk KX G ?a ?l ?c ?k ?b
   (case a=>k_is); (case l=>k_is); (case c=>k_is); (case k=>k_is)
   (case b=>exact fun _ _ _ _ _ _ us hl=>match us,hl with | [_],_=>rfl)
  have d__law_sign:L2.DefTx (L2.KOf KX) mg "_law_sign" K3.s__law_sign ["_law_feed_here"]:=by
   dsimp only [L2.KOf]
   refine' L2.deftx_mk KX G ?a ?l ?c ?k ?b
   (case a=>k_is); (case l=>k_is); (case c=>k_is); (case k=>k_is)
   (case b=>exact fun _ _ _ _ _ _ us hl=>match us,hl with | [_],_=>rfl)
  have d__law_spoilt:L2.DefTx (L2.KOf KX) mg "_law_spoilt" K3.s__law_spoilt ["_law_feed_here","_law_text_here"]:=by
   dsimp only [L2.KOf]
   refine' L2.deftx_mk KX G ?a ?l ?c ?k ?b
   (case a=>k_is); (case l=>k_is); (case c=>k_is); (case k=>k_is)
   (case b=>exact fun _ _ _ _ _ _ us hl=>match us,hl with | [_,_],_=>rfl)
  have d__law_deep:L2.DefTx (L2.KOf KX) mg "_law_deep" K3.s__law_deep ["_law_text_here"]:=by
   dsimp only [L2.KOf]
   refine' L2.deftx_mk KX G ?a ?l ?c ?k ?b
   (case a=>k_is); (case l=>k_is); (case c=>k_is); (case k=>k_is)
   (case b=>exact fun _ _ _ _ _ _ us hl=>match us,hl with | [_],_=>rfl)
  have d__law_right:L2.DefTx (L2.KOf KX) mg "_law_right" K3.s__law_right ["_law_text_here"]:=by
   dsimp only [L2.KOf]
   refine' L2.deftx_mk KX G ?a ?l ?c ?k ?b
   (case a=>k_is); (case l=>k_is); (case c=>k_is); (case k=>k_is)
   (case b=>exact fun _ _ _ _ _ _ us hl=>match us,hl with | [_],_=>rfl)
  have d_law:L2.DefTx (L2.KOf KX) mg "law" K3.s_law ["_law_script"]:=by
   dsimp only [L2.KOf]
   refine' L2.deftx_mk KX G ?a ?l ?c ?k ?b
   (case a=>k_is); (case l=>k_is); (case c=>k_is); (case k=>k_is)
   (case b=>exact fun _ _ _ _ _ _ us hl=>match us,hl with | [_],_=>rfl)
  have g_LONGEST_NAME:∃ t,mg "LONGEST_NAME"=some (.int 6 t):=by
   refine' L2.gint_mk KX G ?a
   (case a=>k_is)
  have g_LONGEST_NUMBER:∃ t,mg "LONGEST_NUMBER"=some (.int 10 t):=by
   refine' L2.gint_mk KX G ?a
   (case a=>k_is)
  have g_DEEPEST:∃ t,mg "DEEPEST"=some (.int 20 t):=by
   refine' L2.gint_mk KX G ?a
   (case a=>k_is)
  have g_MOST_ARMS:∃ t,mg "MOST_ARMS"=some (.int 4 t):=by
   refine' L2.gint_mk KX G ?a
   (case a=>k_is)
  have g_LETTERS:∃ t:L2.PTok,mg "LETTERS"=some (.str (PySem.Str.ofString "abcdefghijklmnopqrstuvwxyz") t.1):=by
   refine' L2.gstr_mk KX G ?a ?h
   (case a=>k_is)
   (case h=>decide)
  have g_FIGURES:∃ t:L2.PTok,mg "FIGURES"=some (.str (PySem.Str.ofString "0123456789") t.1):=by
   refine' L2.gstr_mk KX G ?a ?h
   (case a=>k_is)
   (case h=>decide)
  have g_NO_NAMES:∃ a,mg "NO_NAMES"=some (.ref a)∧∀ H,L2.SqT (L2.KOf KX) H a [.str (PySem.Str.ofString "num"),.str (PySem.Str.ofString "it")]:=by
   dsimp only [L2.KOf]
   refine' L2.gtup_mk KX G ?a ?l ?z ?r
   (case a=>k_is); (case l=>k_is); (case z=>decide)
   (case r=>exact (.cons ⟨⟨_,by decide⟩,rfl⟩ (.cons ⟨⟨_,by decide⟩,rfl⟩ .nil)))
  have g_OPS:∃ a,mg "OPS"=some (.ref a)∧∀ H,L2.SqT (L2.KOf KX) H a [.str (PySem.Str.ofString "+"),.str (PySem.Str.ofString "-"),.str (PySem.Str.ofString "*"),.str (PySem.Str.ofString "<"),.str (PySem.Str.ofString "=")]:=by
   dsimp only [L2.KOf]
   refine' L2.gtup_mk KX G ?a ?l ?z ?r
   (case a=>k_is); (case l=>k_is); (case z=>decide)
   (case r=>exact (.cons ⟨⟨_,by decide⟩,rfl⟩ (.cons ⟨⟨_,by decide⟩,rfl⟩ (.cons ⟨⟨_,by decide⟩,rfl⟩ (.cons ⟨⟨_,by decide⟩,rfl⟩ (.cons ⟨⟨_,by decide⟩,rfl⟩ .nil))))))
  have z_ValueError:mg "ValueError"=none:=by
   refine' PySem.W.mg_none_of KX G ?a
   (case a=>k_is)
  have z_all:mg "all"=none:=by
   refine' PySem.W.mg_none_of KX G ?a
   (case a=>k_is)
  have z_bool:mg "bool"=none:=by
   refine' PySem.W.mg_none_of KX G ?a
   (case a=>k_is)
  have z_int:mg "int"=none:=by
   refine' PySem.W.mg_none_of KX G ?a
   (case a=>k_is)
  have z_isinstance:mg "isinstance"=none:=by
   refine' PySem.W.mg_none_of KX G ?a
   (case a=>k_is)
  have z_len:mg "len"=none:=by
   refine' PySem.W.mg_none_of KX G ?a
   (case a=>k_is)
  have z_list:mg "list"=none:=by
   refine' PySem.W.mg_none_of KX G ?a
   (case a=>k_is)
  have z_max:mg "max"=none:=by
   refine' PySem.W.mg_none_of KX G ?a
   (case a=>k_is)
  have z_range:mg "range"=none:=by
   refine' PySem.W.mg_none_of KX G ?a
   (case a=>k_is)
  have z_str:mg "str"=none:=by
   refine' PySem.W.mg_none_of KX G ?a
   (case a=>k_is)
  have z_tuple:mg "tuple"=none:=by
   refine' PySem.W.mg_none_of KX G ?a
   (case a=>k_is)
  have z_zip:mg "zip"=none:=by
   refine' PySem.W.mg_none_of KX G ?a
   (case a=>k_is)
  have c_BadText:mg "BadText"=some (.ref (L2.cAt (L2.KOf KX) 0)):=by
   refine' PySem.W.mg_of KX G ?a
   (case a=>kernel_rfl)
  have c_Twice:mg "Twice"=some (.ref (L2.cAt (L2.KOf KX) 1)):=by
   refine' PySem.W.mg_of KX G ?a
   (case a=>kernel_rfl)
  have c_NoName:mg "NoName"=some (.ref (L2.cAt (L2.KOf KX) 2)):=by
   refine' PySem.W.mg_of KX G ?a
   (case a=>kernel_rfl)
  have c_NoCount:mg "NoCount"=some (.ref (L2.cAt (L2.KOf KX) 3)):=by
   refine' PySem.W.mg_of KX G ?a
   (case a=>kernel_rfl)
  have c_WrongKind:mg "WrongKind"=some (.ref (L2.cAt (L2.KOf KX) 4)):=by
   refine' PySem.W.mg_of KX G ?a
   (case a=>kernel_rfl)
  have c_Lacks:mg "Lacks"=some (.ref (L2.cAt (L2.KOf KX) 5)):=by
   refine' PySem.W.mg_of KX G ?a
   (case a=>kernel_rfl)
  have c_NotOwn:mg "NotOwn"=some (.ref (L2.cAt (L2.KOf KX) 6)):=by
   refine' PySem.W.mg_of KX G ?a
   (case a=>kernel_rfl)
  have c_Falls:mg "Falls"=some (.ref (L2.cAt (L2.KOf KX) 7)):=by
   refine' PySem.W.mg_of KX G ?a
   (case a=>kernel_rfl)
  have c_TooBig:mg "TooBig"=some (.ref (L2.cAt (L2.KOf KX) 8)):=by
   refine' PySem.W.mg_of KX G ?a
   (case a=>kernel_rfl)
  have c_NoFit:mg "NoFit"=some (.ref (L2.cAt (L2.KOf KX) 9)):=by
   refine' PySem.W.mg_of KX G ?a
   (case a=>kernel_rfl)
  have c_NoCode:mg "NoCode"=some (.ref (L2.cAt (L2.KOf KX) 10)):=by
   refine' PySem.W.mg_of KX G ?a
   (case a=>kernel_rfl)
  have c_SwapError:mg "SwapError"=some (.ref (L2.ad (L2.KOf KX) "SwapError")):=by
   refine' PySem.W.mg_of KX G ?a
   (case a=>kernel_rfl)
  have mr0:PySem.W.mroIn (L2.KOf KX) (L2.cAt (L2.KOf KX) 0) (.ref (L2.cAt (L2.KOf KX) 0))=some true:=by
   kernel_rfl
  have nb:PySem.W.nsIn (L2.KOf KX) PySem.cStatics PySem.sharingNotToldKey=some none:=by
   dsimp only [L2.KOf]
   k_is
  have xt2:L2.XTab2 (L2.KOf KX):=by
   refine' L2.xtab2_of ?a
   (case a=>kernel_rfl)
  have xt:L2.XTab (L2.KOf KX):=by
   refine' L2.xtab_of ?a
   (case a=>kernel_rfl)
  have it:L2.InitTx (L2.KOf KX) "BadText.__init__" (L2.ad (L2.KOf KX) "BadText") K3.s_init ["self","at"]:=by
   dsimp only [L2.KOf]
   refine' L2.init_mk ?a ?i ?n ?l ?c ?k ?b
   (case a=>k_is); (case i=>k_is); (case n=>k_is); (case l=>k_is); (case c=>k_is); (case k=>k_is)
   (case b=>exact fun _ _ _ _ _ _ us hl=>match us,hl with | [_,_],_=>rfl)
  have T:K3.Tx (L2.KOf KX) mg:=⟨d_is_name,d_is_number,d_is_made_of,d_term_text,d_bracketed,d_inner_texts,d_term_texts,d_arm_text,d_term_of,d_term_with,d_need,d_trees_of,d_put_word,d_close_brackets,d_term_from,d_terms_from,d_leaf_from,d_name_from,d_arm_from,d__law_feed,d__law_take,d__law_name,d__law_whole,d__law_some,d__law_leaf,d__law_term,d__law_text,d__law_words_of,d__law_all_of,d__law_is_name,d__law_is_figures,d__law_arm,d__law_case,d__law_parsed,d__law_alike,d__law_bad_at,d__law_sign,d__law_spoilt,d__law_deep,d__law_right,d_law,g_LONGEST_NAME,g_LONGEST_NUMBER,g_DEEPEST,g_MOST_ARMS,g_LETTERS,g_FIGURES,g_NO_NAMES,g_OPS,z_ValueError,z_all,z_bool,z_int,z_isinstance,z_len,z_list,z_max,z_range,z_str,z_tuple,z_zip,c_BadText,c_Twice,c_NoName,c_NoCount,c_WrongKind,c_Lacks,c_NotOwn,c_Falls,c_TooBig,c_NoFit,c_NoCode,c_SwapError,mr0,nb,xt2,xt,it⟩
  exact L2.law_top d_law hmg fun base=>K3.law_is T
