import Derived.Test.YtpibpdpedjinhabGreatDoorP02
import Derived.Test.YtpibpdpedjinhabGreatDoorP08
import Derived.Test.YtpibpdpedjinhabGreatDoorP09
import Derived.Test.YtpibpdpedjinhabGreatDoorProg
import Derived.Test.YtpibpdpedjinhabGreatDoorChecked
import Derived.WalkSpells
import Derived.BigCall
import Derived.Deep.QuietTactic
import Derived.BigQuiet
import Derived.Deep.DeepCutAuto
import Derived.Deep.RegionWith
import Derived.Deep.AppendLies
import Derived.Deep.RegionHeld3
import Derived.RangeFuncBox
import Derived.OwnWalkIn
import Init
import Derived.RangeFuncNested
import Derived.RangeFuncBound
import Derived.RangeFuncCalls
import Derived.RangeFuncLeaves
import Derived.Below
import Derived.Laws.Bits64b
import Derived.Shelf.Abstract
import Derived.Shelf.Strconv.Clone
import Derived.TacticsInMore
import Derived.LoopNIn
import Derived.LoopIn
import Derived.Great.BuildSlice
import Derived.Laws.MakeOwn
import Derived.OwnWalk
import Derived.Conc.Own4
import Derived.Maps.RangeWalk
import Derived.Maps.OwnOps
set_option maxRecDepth 100000
set_option maxHeartbeats 8000000
set_option linter.all false
open Array renaming replicate->lO
open BitVec renaming ofInt->n8,ofInt_natCast->ov,toNat_ofNat->oT
open Bool renaming false->aL,true->aR
open Go renaming Addr->eM,Code->eE,Event->jz,Exit->p9,Frame->cR,Func->pZ,FuncId->ph,Goroutine->cA,IntKind->ki,Item->pS,KeepsFrom->rr,MapEntry->gR,Obj->nL,Oper->ij,Operand->jN,Program->cU,TypeId->cG,Value->X,World->U,callFunc->iA,events_store->pw,execOp->bN,heap_alloc_new->cT,run_endLoop->rN,run_underlying->eJ,stepG->eC,undef->aE
open Go.Act renaming eval->kp,put->dC
open Go.Builtin renaming append_->jb,copy_->ot,delete_->kv,firstCells->oo,lenOf->pv,len_->mw,unsafeString_->nW
open Go.Code renaming seq->bR
open Go.Conc renaming Goes->iv,atRel_refl->mS,mem_listed->gN,stepG_block->pQ,stepG_region_end->aM,stepG_seq->cE,stepG_skip->gF
open Go.Conc.Goes renaming stop->cL
open Go.ConcN renaming PayAt->pL,WgLive->iB
open Go.ConcR.Gen renaming base_kind->eD
open Go.Extern.BytealgMakeNoZero renaming makeNoZero->mA
open Go.Fence renaming wide->gP
open Go.Frame renaming enter->iS,finish_at->mz
open Go.FrameMode renaming returning->kz
open Go.Instr renaming buildSlice->lL,findNow->mr,index->mb,keyThatStays->oY,mapUpdate->ol,slice->lA,sliceBounds->nw
open Go.IntKind renaming i64->ab,u16->lB,u32->eA,u64->p8,wrap_i64->eT
open Go.Item renaming inRegion->bL
open Go.Lib renaming byteCells->lw,byteCells_length->o6,bytesCells->rv,bytesWorld->rI,bytesWorld_size->rL,cell_of_heap->eR,frozen_of_heap->jj,size_eq->rk
open Go.MapKept renaming run_getObj_map->fT,run_setObj_map->ix
open Go.Obj renaming cells->aG,deferred->eI
open Go.Operand renaming tmp->cN
open Go.Proofs.Tryz renaming func112->mT,prog->bA,underlying106->lR,underlying199->gL,underlying223->o3,underlying3->gT,underlying4->oe,underlying5->il,underlying9->eO
open Go.Region renaming ready->fR,schedule->n9,wanted->cP
open Go.Result renaming andThen->fS
open Go.RowKit.Below renaming heap_alloc->gE,heap_setCell->mU
open Go.Sem renaming bind->fY,runT->cS
open Go.Target renaming collected->px
open Go.Value renaming bool->cK,int->N,ownBlock->cV,pointer->aD,slice->aH,string->bB,tuple->cQ
open Go.Value.slice renaming injEq->dT
open Go.World renaming alloc_heap_new->rA,cell?->eB,freeze->iN,frozen?->iX,putObj_heap_other->qT,putObj_heap_same->ri,putObj_size->rh,setCell->eQ,setCells->oE,shape?->gA
open List renaming mem_append_left->qi,range->ir,sublist_append_right->pE
open Ne renaming symm->mn
open Option renaming none->Z,some->M
open Or renaming inl->bE,inr->cD
open Prod renaming fst->cI
namespace Go.Proofs.YtpibpdpedjinhabGreatDoor
section
open Go
section
variable {k:Nat}{f:pZ}
section
variable (P:cU)(L:ph->Bool)(t:cG)(w:U)
def rQ:cU:={ P with funcs:=P.funcs.mapIdx λi f=>if L i then f else { f with body:=Z,name:= "",origin:= "" } }
def W9(h:P.funcs[k]? =M f)(hk:L k=aR):(rQ P L).funcs[k]? =M f:=by
 show(P.funcs.mapIdx _)[k]? =M f
 rw[Array.getElem?_mapIdx,h];simp only[cO,hk,if_true]
def Ls:(rQ P L).info? t=P.info? t:=rfl
def zi:(rQ P L).underlying t=P.underlying t:=rfl
def Bc:(underlying t).run (rQ P L) w=(underlying t).run P w:=by simp only[underlying,program,bind,fY,Sem.run,zi];cases P.underlying t<;>rfl
def Pq:(sizeOf t).run (rQ P L) w=(sizeOf t).run P w:=by simp only[sizeOf,typeInfo,program,bind,fY,Sem.run,Ls];cases P.info? t<;>rfl
def Vd:(isAgg t).run (rQ P L) w=(isAgg t).run P w:=by
 simp only[isAgg,underlying,program,bind,fY,Sem.run,zi];cases P.underlying t with
 |none=>rfl
 |some d=>cases d<;>rfl
def EN:(zeroValue t).run (rQ P L) w=(zeroValue t).run P w:=by
 simp only[zeroValue,typeInfo,program,bind,fY,Sem.run,Ls];cases P.info? t with
 |none=>rfl
 |some i=>
  show Sem.run (rQ P L) (match i.zero with|some v=>pure v|none=>_) w=Sem.run P (match i.zero with|some v=>pure v|none=>_) w
  cases i.zero<;>rfl
def Yg(h:P.funcs[k]? =M f)(hk:L k=aR)(E:(f.name == "runtime.NumGoroutine")=aL)(z:f.body.isNone=aL)(args:Array X):(iA k args).run (rQ P L) w=.ok (.enter k args) w:=by simp only[iA,program,bind,fY,Sem.run,W9 P L h hk,E,z];rfl
end
def DC(k:ph):Bool:=!([0,1,50,70,71,74,99,100,101,102,103,104,105,106,107,108,109,110,111,113,114,115,116,117,132,133,134,135,137,161,162,163,164,165,166,167,168,169,170,171,172,173,174,175,176,177,178,179,181,182,183,184]:List Nat).contains k
noncomputable def PQ:cU:=rQ bA DC
def fq(h:Tryz.prog.funcs[k]? =M f)(hk:DC k=aR):PQ.funcs[k]? =M f:=W9 _ _ h hk
section
variable (t:cG)(w:U)
@[simp] def ZP:PQ.underlying t=Tryz.prog.underlying t:=zi ..
@[simp] def ZI:(underlying t).run PQ w=(underlying t).run bA w:=Bc ..
@[simp] def Xz:(sizeOf t).run PQ w=(sizeOf t).run bA w:=Pq ..
@[simp] def ZK:(isAgg t).run PQ w=(isAgg t).run bA w:=Vd ..
@[simp] def KD:(zeroValue t).run PQ w=(zeroValue t).run bA w:=EN ..
end
section
variable {t:cG}
def uq{d:Option TypeDesc}(h:Tryz.prog.underlying t=d):PQ.underlying t=d:=(ZP t).trans h
def Di{d:Nat}(h:∀w,(sizeOf t).run bA w=.ok d w)(w:U):(sizeOf t).run PQ w=.ok d w:=(Xz t w).trans (h w)
def DL{d:Bool}(h:∀w,(isAgg t).run bA w=.ok d w)(w:U):(isAgg t).run PQ w=.ok d w:=(ZK t w).trans (h w)
def BL{d:X}(h:∀w,(zeroValue t).run bA w=.ok d w)(w:U):(zeroValue t).run PQ w=.ok d w:=(KD t w).trans (h w)
end
abbrev YT:Nat:=50572354309897307802473086500525809114090795055137685500
def agB:((ir 186).all λk=>(YT >>> k)%2 != 1 || match Tryz.prog.funcs[k]? with
  |some f=>DC k&&!(f.name == "runtime.NumGoroutine")&&!f.body.isNone
  |none=>aL)=aR:=XN
@[simp] def ahs(h:(50572354309897307802473086500525809114090795055137685500 >>> k)%2=1)(a:Array X)(w:U):(iA k a).run PQ w=.ok (.enter k a) w:=by
 have h:(YT >>> k)%2=1:=h
 have hk:k<186:=by
  apply Nat.lt_of_not_le;intro hk;obtain⟨j,rfl⟩:=Nat.exists_eq_add_of_le hk;rw[Nat.shiftRight_add,show YT >>> 186=0 by decide,Nat.zero_shiftRight]at h;cases h
 have:=fF.1 agB k (gV.2 hk);rw[h]at this;cases hf:Tryz.prog.funcs[k]? with
 |none=>grind
 |some f=>
  rw[hf]at this;simp only[bne_self_eq_false,Bool.false_or,dF,Bool.not_eq_true']at this;exact Yg _ _ w hf this.1.1 this.1.2 this.2 a
end
end
namespace Fr
open Go.RowKit Go.Joins
def toList_empty(s:ByteArray):s.toList.isEmpty=decide (s.size=0):=by rw[ByteArray.toList_eq,rk];cases s.data.toList<;>simp
def getD_byte(s:ByteArray)(f:Nat)(h:f<s.size):s.data.toList.getD f 0=s[f]:=by have z:=rk s;rw[aY,aO aA,Array.getElem_toList];rfl
def ext_list(s:ByteArray)(a b:Nat):(s.extract a b).data.toList=(s.data.toList.take b).drop a:=by simp[ByteArray.data_extract,Array.toList_extract,List.drop_take]
def below_drewN{B:Nat}{a w:U}(h:Below B a w)(n:Nat):Below B a (w.drewN n):=h.trans ⟨rfl,rfl,rfl,jB,λ_ _=>rfl⟩
end Fr
section
open Go.Conc
def mZ{w:U}{n i:Nat}{c:Array X}{t:cG}{f:Nat×Nat}{v:X}(h:w.heap[n]? =M (aG c t f))(k:c[i]? =M v):w.cell? ⟨n,i,Z⟩=M v:=(eR h i).trans k
abbrev aI:=@Go.Lib.cell_of_heap
abbrev aJ:=@Go.RowKit.Below.refl
abbrev aQ:=@Go.Lib.frozen_of_heap
abbrev aT:=@Go.Calls.mono
abbrev aW:=@Go.RowKit.Below.heap_setCell
abbrev aZ:=@gE
abbrev bD:=@Go.Lib.size_eq
abbrev fB:=@Go.World.size_alloc
abbrev fG:=@Go.World.block_lt_of_cell?
abbrev fO:=@Go.Frame.finish_at
abbrev fV:=@gE
abbrev iq:=@Go.Result.andThen_ok
abbrev iU:=@Go.Sem.run_bind
end
namespace Fr
section
variable {s:List UInt8}{p:Nat}
structure F where
 chan:Nat
 num:Nat
 data:List UInt8
 last:Bool
variable {l:List F}
def big(s:List UInt8)(p:Nat):Nat->Nat
 |0=>0
 |k+1=>256*big s p k+(s.getD (p+k) 0).toNat
def uD(s:List UInt8)(p:Nat):∀k,big s p k<256 ^ k
 |0=>by simp[big]
 |k+1=>by
  have z:=uD s p k;have h2:=(s.getD (p+k) 0).toNat_lt;rw[big,Nat.pow_succ];omega
def one(s:List UInt8)(p:Nat):Option (F×Nat):=
 if s.length<p+9 then Z
 else if s.length<p+9+big s (p+6) 2 then Z
 else if 1<(s.getD (p+8+big s (p+6) 2) 0).toNat then Z
 else M (⟨big s p 4,big s (p+4) 2,(s.take (p+8+big s (p+6) 2)).drop (p+8),(s.getD (p+8+big s (p+6) 2) 0).toNat == 1⟩,9+big s (p+6) 2)
def abb(h:¬s.length<p+9):one s p=if s.length<p+9+big s (p+6) 2 then Z
 else if 1<(s.getD (p+8+big s (p+6) 2) 0).toNat then Z
 else M (⟨big s p 4,big s (p+4) 2,(s.take (p+8+big s (p+6) 2)).drop (p+8),(s.getD (p+8+big s (p+6) 2) 0).toNat == 1⟩,9+big s (p+6) 2):=by
 unfold one;rw[Zs h]
def KN(h:s.length<p+9):one s p=Z:=by unfold one;rw[ZD h]
def rest:Nat->List UInt8->Nat->Option (List F)
 |0,s,p=>if s.length<=p then M []else Z
 |f+1,s,p=>if s.length<=p then M []else match one s p with
  |none=>Z
  |some (x,n)=>(rest f s (p+n)).map (x::·)
def frames(s:List UInt8):Option (List F):=if s.length<2\/s.getD 0 0≠0 then Z else rest s.length s 1
def one_le{x:F}{n:Nat}(h:one s p=M (x,n)):9<=n/\p+n<=s.length:=by
 unfold one at h
 grind
inductive qO(s:List UInt8):List F->Nat->Prop
 |nil:qO s [] 1
 |snoc {l:List F} {p:Nat} {x:F} {n:Nat}:qO s l p->p<s.length->one s p=M (x,n)->qO s (l++[x]) (p+n)
def qO.le(hs:1<=s.length)(h:qO s l p):p<=s.length/\l.length<p:=by
 induction h with
 |nil=>grind
 |snoc h hp ho ih=>
  have:=one_le ho
  grind
def qO.rest(h:qO s l p):∀f,l.length<=f->Fr.rest f s 1=(Fr.rest (f-l.length) s p).map (λr=>l++r):=by
 induction h with
 |nil=>intro f _;simp
 |@snoc l p x n h hp ho ih=>
  intro f I;simp only[aS,aU,bY]at I⊢;rw[ih f aA];obtain⟨z,E⟩:∃z,f-l.length=z+1:=⟨f-l.length-1,aA⟩
  rw[E,Fr.rest,Zs aA,ho];simp only;rw[show f-(l.length+(0+1))=z from by omega];cases Fr.rest z s (p+n)<;>simp
def qO.all(h2:¬(s.length<2\/s.getD 0 0≠0))(h:qO s l p)(hp:s.length<=p):frames s=M l:=by have:=h.le aA;rw[frames,Zs h2,h.rest s.length aA];cases s.length-l.length<;>simp[Fr.rest,hp]
def qO.stuck(h2:¬(s.length<2\/s.getD 0 0≠0))(h:qO s l p)(hp:p<s.length)(z:one s p=Z):frames s=Z:=by
 have:=h.le aA;rw[frames,Zs h2,h.rest s.length aA];cases s.length-l.length with
 |zero=>rw[Fr.rest,Zs aA];rfl
 |succ f=>rw[Fr.rest,Zs aA,z];rfl
def yV(h:s.length<2\/s.getD 0 0≠0):frames s=Z:=by rw[frames,ZD h]
end
open Go.RowKit Go.Joins
def wU(x:F):List X:=[N eA x.chan,N lB x.num,bB ⟨x.data.toArray⟩,.bool x.last]
def flat:List F->List X
 |[]=>[]
 |x::l=>wU x++flat l
def zT:∀(a b:List F),flat (a++b)=flat a++flat b
 |[],_=>rfl
 |x::a,b=>by rw[dN,flat,flat,zT a b,fM]
def flat_length:∀l:List F,(flat l).length=l.length*4
 |[]=>rfl
 |x::l=>by rw[flat,aS,flat_length l];simp[wU];omega
end Fr
section
open Go.RowKit
section
variable {B gf:Nat}{P:cU}{g:jN}{ps:Array Tmp}{assign body:eE}{Q:p9->Act->U->Prop}{w w0:U}{lb:Array X}{ks:Nat->Prop}
def yt{a b:U}(h:Below B a b)(l:Nat)(o:nL)(z:l<↑a):Below B (a.putObj l o) (b.putObj l o):=
 ⟨h.os,h.tape,h.output,by simp;exact h.size,λk hk=>by
  by_cases e:k=l
  .subst e;rw[ri z,ri (aP z h.size)]
  .rw[qT e,qT e];exact h.block k hk⟩
def yw(w:U)(l:Nat)(o o':nL)(I:l<↑w):(w.alloc o).putObj l o'=(w.putObj l o').alloc o:=by
 have:(w.heap.push o).setIfInBounds l o'=(w.heap.setIfInBounds l o').push o:=by
  apply gB;intro i;simp only[aV,iy,Array.size_push,jh];by_cases e:l=i
  .grind
  .simp[e]
 show { (w.alloc o)with heap:=(w.alloc o).heap.setIfInBounds l o' }={ (w.putObj l o')with heap:=(w.putObj l o').heap.push o }
 have z:(w.alloc o).heap=w.heap.push o:=rfl;have E:(w.putObj l o').heap=w.heap.setIfInBounds l o':=rfl;rw[z,E,this];rfl
def Gives{α:Type}(P:cU)(g:Nat)(lb:Array X)(encs:α->Array X)(ks:Nat->Prop)(Y:List α->α->Nat->U->Prop)(S Sp:List α->Prop)(w:U):Prop:=
 ∀(l:Nat)(J R:List α->U->Prop)(W:U),Below ↑w w W->
  (∀z x E I,J z E->Below ↑E E I->Y z x ↑E I->YieldAt gP 1 P l (encs x) I λe W'=>
   (e=.returned (cK aR)/\J (z++[x]) W'/\↑I<=W'.heap.size/\∀k,ks k->W'.heap[k]? =I.heap[k]?)\/(e=.returned (cK aL)/\R (z++[x]) W'))->
  J [] W->
  CallsIn gP 2 P g (#[.func (.yield l) #[] #[]]++lb) W λe W'=>(∃v,e=.returned v)/\((∃xs E,S xs/\J xs E/\Below ↑E E W')\/(∃z E,Sp z/\R z E/\Below ↑E E W'))
def NC(W:U)(k:Nat):Prop:=∀(cs:Array X)(t:Nat)(z:Nat×Nat),W.heap[k]?≠M (aG cs t z)
def QK{k:Nat}{W z:U}{o':nL}(h:rr B (W.alloc o') z)(hk:k<↑W)(I:NC W k)(E:B<=k):z.heap[k]? =(W.alloc o').heap[k]?:=by
 obtain⟨o,ho⟩:∃o,W.heap[k]? =M o:=⟨_,dA hk⟩
 have e:=(gE W o' k hk).trans ho;refine(h.same k o E e ?_).trans e.symm;cases o with
 |cells cs t fz=>exact Xs ho (I cs t fz)
 |_=>rfl
structure qm(B:Nat)(W W':U):Prop where
 size:↑W<=W'.heap.size
 one:W'.heap[B]? =W.heap[B]?
 two:W'.heap[B+1]? =W.heap[B+1]?
def ac0{α:Type}(B:Nat)(ks:Nat->Prop)(I:List α->U->Prop)(z:eE->List α->U->Prop)(xs:List α)(W:U):p9->Act->U->Prop
 |.normal,_,W'=>qm B W W'/\(∀k,ks k->W'.heap[k]? =W.heap[k]?)/\I xs W'
 |.ret,_,W'=>qm B W W'/\z .ret xs W'
 |.exit id,_,W'=>qm B W W'/\z (.exit id) xs W'
 |.goto t,_,W'=>qm B W W'/\z (.goto t) xs W'
 |.panic _,_,_=>False
 |.outgrown,_,_=>False
def xK{α:Type}{a:Act}(hg:a.eval g=.func (.func gf) #[] lb)(eg:∀args w,(iA gf args).run P w=.ok (.enter gf args) w){encs:α->Array X}{Y:List α->α->Nat->U->Prop}{S Sp:List α->Prop}(ap:Gives P gf lb encs ks Y S Sp w0)(an:Below ↑w0 w0 w)(aw:∀k,ks k->k<w.heap.size)(hY:∀z x lo W W',(∀k,lo<=k->W'.heap[k]? =W.heap[k]?)->↑W'=W.heap.size->Y z x lo W->Y z x lo W')(aq:∀x,(encs x).size=ps.size)(I:List α->U->Prop)(Ix:eE->List α->U->Prop)(hI:∀xs A r o,I xs A->A.heap[w.heap.size+1]? =M (.loop r)->I xs (A.putObj (w.heap.size+1) (.loop o)))(ae:∀c xs A r o,Ix c xs A->A.heap[w.heap.size+1]? =M (.loop r)->Ix c xs (A.putObj (w.heap.size+1) (.loop o)))(h0:∀o1 o2,I [] ((w.alloc o1).alloc o2))(ag:α->Nat->Act)(ox:α->nL)(ac:∀(l:Nat)(x:α)(W:U)(K:Act->U->Prop),K (ag x ↑W) (W.alloc (ox x))->assign.wpIn (Fence.wide.inRound l) 1 P (Exit.then K (λ_ _ _=>False)) { tmps:=(ps.zip (encs x)).foldl (λt (p,v)=>t.setIfInBounds p v) a.tmps,defers:=[] } W)(ah:∀(l:Nat)(z:List α)(x:α)(J W1:U),l=w.heap.size+1->l<↑J->NC W1 w.heap.size->NC W1 (w.heap.size+1)->I z J->Below ↑J J W1->Y z x ↑J W1->body.wpIn (Fence.wide.inRound l) 1 P (ac0 ↑w ks I Ix (z++[x]) (W1.alloc (ox x))) (ag x ↑W1) (W1.alloc (ox x)))(ai:∀(D:Nat)(xs:List α)(J W:U),D=w.heap.size->D<J.heap.size->S xs->I xs J->Below ↑J J W->W.heap[D]? =M (eI (M []))->Q .normal { a with defers:={ target:=px D,args:=#[] }::a.defers } W)(ak:∀(D:Nat)(c:eE)(z:List α)(J W:U),D=w.heap.size->D<J.heap.size->Sp z->Ix c z J->Below ↑J J W->W.heap[D]? =M (eI (M []))->c.wpIn gP 3 P Q { a with defers:={ target:=px D,args:=#[] }::a.defers } W):(Code.rangeFunc g ps assign body).wpIn gP 3 P Q a w:=by
 refine wpIn_rangeFunc λfn av=>?_;obtain⟨rc,R⟩:∃rc:LoopState->Option eE->Loop,rc=λst pe=>{ state:=st,pending:=pe,fn,tmps:=a.tmps,params:=ps,assign,body,defers:=w.heap.size }:=⟨_,rfl⟩
 obtain⟨V,hV⟩:∃V,(w.alloc (eI (M []))).alloc (.loop (rc .ready Z))=V:=⟨_,rfl⟩
 have vl:V.heap[w.heap.size+1]? =M (.loop (rc .ready Z)):=by
  have:=rA (w.alloc (eI (M []))) (.loop (rc .ready Z));rw[World.size_alloc,hV]at this;exact this
 have vd:V.heap[w.heap.size]? =M (eI (M [])):=by rw[<-hV];exact(gE _ _ _ aC).trans (rA w _)
 have vI:I [] V:=by rw[<-hV];exact h0 _ _
 have vb:Below ↑w0 w0 V:=by rw[<-hV];exact an.trans ((((Below.refl _ w).alloc jB _).alloc aC _).mono an.size)
 refine⟨w.heap.size+1,[{ target:=px ↑w,args:=#[] }],V,{ target:=.fn (.func gf) lb,args:=#[.func (.yield (w.heap.size+1)) #[] #[]] },V,gf,
  #[.func (.yield (w.heap.size+1)) #[] #[]]++lb,V,?_,?_,λ_ _=>trivial,by simp[invoke,go_sem,eg],λh=>by simp[gP]at h,?_⟩
 .rw[<-hV,R];exact run_enterLoop_outer _ _ _ _ _
 .simp only[resolve,hg];simp[go_sem]
 refine(ap _
  (λz W=>I z W/\W.heap[w.heap.size+1]? =M _/\W.heap[w.heap.size]? =M _)
  (λz W=>∃c,Ix c z W/\W.heap[w.heap.size+1]? =M (.loop (rc .done (M c)))/\W.heap[w.heap.size]? =M (eI (M []))) V vb ?_ ⟨vI,vl,vd⟩).mono ?_
 .rintro z x J W1 ⟨i0,l0,d0⟩ hb hy;have aa:=(jE l0)
  have l1:=(hb.block _ aa).trans l0;have d1:=(hb.block _ (by omega:↑w<J.heap.size)).trans d0;have af:=(jE l1)
  have ry:=run_yield (P:=P) (args:=encs x) l1 (by rw[R];exact aq x);rw[R]at ry;refine⟨fn,_,assign,body,ry,roundIn_of_wpIn av (ac _ x W1 _ ⟨_,run_beginRound ((gE _ _ _ af).trans l1) (by rw[R]),?_⟩)⟩;clear ry;rw[yw _ _ _ _ af];obtain⟨o,ho⟩:∃o:nL,Obj.loop { rc .ready Z with state:=.busy }=o:=⟨_,rfl⟩
  rw[ho];have b1:=yt hb _ o aa
  have y1:Y z x (J.putObj (w.heap.size+1) o).heap.size (W1.putObj (w.heap.size+1) o):=by
   rw[rh];exact hY z x _ W1 _ (λk hk=>qT aA) aC hy
  have aj:=ah _ z x _ _ rfl aF (λcs t fz hk=>by rw[qT aA,d1]at hk;cases hk) (λcs t fz hk=>by rw[ri af,<-ho]at hk;cases hk) (by grind) (by simpa using b1) y1;rw[rh]at aj;refine wpIn_mono aj ?_;clear aj;have au:((W1.putObj (w.heap.size+1) o).alloc (ox x)).heap[w.heap.size+1]? =M o:=(gE _ _ _ aF).trans (ri af);have ar:((W1.putObj (w.heap.size+1) o).alloc (ox x)).heap[w.heap.size]? =M (eI (M [])):=(gE _ _ _ aF).trans ((qT aA).trans d1)
  have fin:∀(E:Option eE)(W3:U),qm ↑w ((W1.putObj (w.heap.size+1) o).alloc (ox x)) W3->
    (Instr.endRound (w.heap.size+1) E).run P W3=.ok (.bool E.isNone) (W3.putObj (w.heap.size+1) (.loop (rc (if E.isNone then .ready else .done) E)))/\
    W3.heap[w.heap.size+1]? =M o/\
    (W3.putObj (w.heap.size+1) (.loop (rc (if E.isNone then .ready else .done) E))).heap[w.heap.size+1]? =M (.loop (rc (if E.isNone then .ready else .done) E))/\
    (W3.putObj (w.heap.size+1) (.loop (rc (if E.isNone then .ready else .done) E))).heap[w.heap.size]? =M (eI (M [])):=λE W3 ao=>by
   have q1:=ao.two.trans au;have q2:=ao.one.trans ar;have am:=q1;rw[<-ho]at am;have:=run_endRound (P:=P) E am;refine⟨?_,q1,ri (jE q1),(qT aA).trans q2⟩;rw[R]at this⊢;exact this
  rintro e a3 W3 hp;cases e with
  |normal=>
   obtain⟨k3,kk,i3⟩:=hp;obtain⟨hr,l3,l4,d4⟩:=fin Z W3 k3;refine⟨_,_,hr,bE ⟨rfl,⟨hI _ _ _ _ i3 (l3.trans (Z1 M ho.symm)),l4,d4⟩,by have:=k3.size;simp at this⊢;omega,λk hk=>?_⟩⟩;have ay:=aw k hk;rw[qT aA,kk k hk,gE _ _ _ aF,qT aA]
  |ret=>
   obtain⟨k3,i3⟩:=hp;obtain⟨hr,l3,l4,d4⟩:=fin (M .ret) W3 k3;exact⟨_,_,hr,cD ⟨rfl,_,ae _ _ _ _ _ i3 (l3.trans (Z1 M ho.symm)),l4,d4⟩⟩
  |exit id=>
   obtain⟨k3,i3⟩:=hp;obtain⟨hr,l3,l4,d4⟩:=fin (M (.exit id)) W3 k3;exact⟨_,_,hr,cD ⟨rfl,_,ae _ _ _ _ _ i3 (l3.trans (Z1 M ho.symm)),l4,d4⟩⟩
  |goto t=>
   obtain⟨k3,i3⟩:=hp;obtain⟨hr,l3,l4,d4⟩:=fin (M (.goto t)) W3 k3;exact⟨_,_,hr,cD ⟨rfl,_,ae _ _ _ _ _ i3 (l3.trans (Z1 M ho.symm)),l4,d4⟩⟩
  |panic ch=>exact hp.elim
  |outgrown=>exact hp.elim
 .rintro e W2 ⟨⟨v,rfl⟩,(⟨xs,J,hS,⟨i0,l0,d0⟩,hb⟩|⟨z,J,hS,⟨c,i0,l0,d0⟩,hb⟩)⟩
  .have aa:=(jE l0)
   have l2:=(hb.block _ aa).trans l0;have d2:=(hb.block _ (by omega:↑w<J.heap.size)).trans d0;refine⟨Z,_,by have:=rN (P:=P) l2 (by rw[R];simp);rw[R]at this;exact this,?_⟩;exact ai _ xs _ _ rfl aF hS (hI _ _ _ _ i0 l0) (by simpa using yt hb (w.heap.size+1) _ aa) ((qT aA).trans d2)
  .have aa:=(jE l0)
   have l2:=(hb.block _ aa).trans l0;have d2:=(hb.block _ (by omega:↑w<J.heap.size)).trans d0;refine⟨M c,_,by have:=rN (P:=P) l2 (by rw[R];simp);rw[R]at this;exact this,?_⟩;exact ak _ c z _ _ rfl aF hS (ae c _ _ _ _ i0 l0) (by simpa using yt hb (w.heap.size+1) _ aa) ((qT aA).trans d2)
def abQ{α:Type}(B:Nat)(ks:Nat->Prop)(I:List α->U->Prop)(z:eE->List α->U->Prop)(xs:List α)(W:U):p9->Act->U->Prop
 |.normal,_,W'=>rr B W W'/\(∀k,ks k->W'.heap[k]? =W.heap[k]?)/\I xs W'
 |.ret,_,W'=>rr B W W'/\z .ret xs W'
 |.exit id,_,W'=>rr B W W'/\z (.exit id) xs W'
 |.goto t,_,W'=>rr B W W'/\z (.goto t) xs W'
 |.panic _,_,_=>False
 |.outgrown,_,_=>False
def zO{α:Type}{a:Act}(hg:a.eval g=.func (.func gf) #[] lb)(eg:∀args w,(iA gf args).run P w=.ok (.enter gf args) w){encs:α->Array X}{Y:List α->α->Nat->U->Prop}{S Sp:List α->Prop}(af:Gives P gf lb encs ks Y S Sp w0)(ah:Below ↑w0 w0 w)(ag:∀k,ks k->k<w.heap.size)(hY:∀z x lo W W',(∀k,lo<=k->W'.heap[k]? =W.heap[k]?)->↑W'=W.heap.size->Y z x lo W->Y z x lo W')(aj:∀x,(encs x).size=ps.size)(I:List α->U->Prop)(Ix:eE->List α->U->Prop)(hI:OwnFrom ↑w I)(ai:∀c,OwnFrom ↑w (Ix c))(h0:I [] w)(J:α->Nat->Act)(ox:α->nL)(R:∀(l:Nat)(x:α)(W:U)(K:Act->U->Prop),K (J x ↑W) (W.alloc (ox x))->assign.wpIn (Fence.wide.inRound l) 1 P (Exit.then K (λ_ _ _=>False)) { tmps:=(ps.zip (encs x)).foldl (λt (p,v)=>t.setIfInBounds p v) a.tmps,defers:=[] } W)(ae:∀(l:Nat)(z:List α)(x:α)(E W1:U),↑w<E.heap.size->I z E->Below ↑E E W1->Y z x ↑E W1->body.wpIn (Fence.wide.inRound l) 1 P (abQ ↑w ks I Ix (z++[x]) (W1.alloc (ox x))) (J x ↑W1) (W1.alloc (ox x)))(aa:∀(D:Nat)(xs:List α)(E W:U),w.heap.size<=D->D<E.heap.size->S xs->I xs E->Below ↑E E W->W.heap[D]? =M (eI (M []))->Q .normal { a with defers:={ target:=px D,args:=#[] }::a.defers } W)(ac:∀(D:Nat)(c:eE)(z:List α)(E W:U),w.heap.size<=D->D<E.heap.size->Sp z->Ix c z E->Below ↑E E W->W.heap[D]? =M (eI (M []))->c.wpIn gP 3 P Q { a with defers:={ target:=px D,args:=#[] }::a.defers } W):(Code.rangeFunc g ps assign body).wpIn gP 3 P Q a w:=by
 refine xK hg eg af ah ag hY aj I Ix (λ_ _ _ _ h hl=>hI.putObj _ h aA hl rfl) (λc _ _ _ _ h hl=>(ai c).putObj _ h aA hl rfl) (λ_ _=>hI.alloc _ (hI.alloc _ h0)) J ox R (λl z x E W1 e hl n1 n2 hi hb hy=>wpIn_mono (ae l z x E W1 aA hi hb hy) ?_) (λD xs E W e=>aa D xs E W aA) (λD c z E W e=>ac D c z E W aA);have sz:=hb.size;have kt:∀{W3},rr ↑w (W1.alloc (ox x)) W3->qm ↑w (W1.alloc (ox x)) W3:=λk=>⟨k.size,QK k aA n1 jB,QK k aA n2 aA⟩
 rintro e a3 W3 hp;cases e with
 |normal=>exact⟨kt hp.1,hp.2⟩
 |ret=>exact⟨kt hp.1,hp.2⟩
 |exit id=>exact⟨kt hp.1,hp.2⟩
 |goto t=>exact⟨kt hp.1,hp.2⟩
 |panic ch=>exact hp
 |outgrown=>exact hp
end
end
namespace Fr
open Go.RowKit Go.Joins Go.Shelf
def AO(a c:Nat)(hc:c<256):(a*256) |||c=256*a+c:=by have:=Nat.two_pow_add_eq_or_of_lt (i:=8) (b:=c) aA a;rw[show a*256=2 ^ 8*a from by omega,<-this]
def Ak(a b:Nat)(E:a<4294967296)(I:b<4294967296):bits .or eA (a:Int) (b:Int)=((a |||b:Nat):Int):=by
 have J:a |||b<2 ^ 32:=Nat.or_lt_two_pow aA aA
 have z:(n8 32 (a:Int)).toNat=a:=by
  rw[ov,oT];exact Nat.mod_eq_of_lt aA
 have h2:(n8 32 (b:Int)).toNat=b:=by
  rw[ov,oT];exact Nat.mod_eq_of_lt aA
 show IntKind.u32.wrap ((n8 32 (a:Int) |||BitVec.ofInt 32 (b:Int)).toNat:Int)=_
 rw[BitVec.toNat_or,z,h2,IntKind.wrap_u32];omega
def below_bytesWorld{B:Nat}{w u:U}(h:Below B w u)(E:B<=u.heap.size)(e:cG)(s:ByteArray):Below B w (rI u e s):=
 h.trans ⟨rfl,rfl,rfl,by rw[rL];omega,λm z=>Lib.bytesWorld_at_old u e s m aA⟩
def uh(s:List UInt8)(p q:Nat):∀k,big (s.drop p) q k=big s (p+q) k
 |0=>rfl
 |k+1=>by
  rw[big,big,uh s p q k,aY,aY,iV,dV]
def Lm(s:List UInt8)(q m:Nat):∀k,q+k<=m->big (s.take m) q k=big s q k
 |0,_=>rfl
 |k+1,h=>by
  rw[big,big,Lm s q m k aA,aY,aY,iI aA]
def IU{s:List UInt8}(p k:Nat):big ((s.take (p+k)).drop p) 0 k=big s p k:=by rw[uh,Nat.add_zero,Lm _ _ _ _ jB]
def BK(s:List UInt8)(p:Nat)(hp:p<=s.length):one s p=one (s.drop p) 0:=by
 unfold one;rw[uh,uh,uh,dW];simp only[Nat.add_zero,fJ]
 have e:(s.drop p).getD (8+big s (p+6) 2) 0=s.getD (p+8+big s (p+6) 2) 0:=by
  rw[aY,aY,iV,dV]
 have z:((s.drop p).take (8+big s (p+6) 2)).drop 8=(s.take (p+8+big s (p+6) 2)).drop (p+8):=by
  rw[List.take_drop,iC]
  congr 1
  rw[dV]
 rw[e,z];by_cases E:s.length<p+9
 .grind
 .grind
def Xi:Go.Shelf.Ren:=⟨fun|316=>129|n=>n,fun|0=>0|3=>3|4=>4|5=>5|9=>9|37=>199|127=>223|n=>n,fun|n=>n⟩
def Jq:Go.Proofs.LaysM.n316 PQ Xi:={
 mixed:=XN
 f316:=(fq Tryz.func129 rfl).trans (Z1 M XN)
 t0:=(uq Tryz.underlying0)
 a0:=(DL Tryz.isAgg0)
 z0:=(Di Tryz.sizeOf0)
 v0:=(BL Tryz.zeroValue0)
 t3:=(uq gT)
 a3:=(DL Tryz.isAgg3)
 z3:=(Di Tryz.sizeOf3)
 v3:=(BL Tryz.zeroValue3)
 t4:=(uq oe)
 a4:=(DL Tryz.isAgg4)
 z4:=(Di Tryz.sizeOf4)
 v4:=(BL Tryz.zeroValue4)
 t5:=(uq il)
 a5:=(DL Tryz.isAgg5)
 z5:=(Di Tryz.sizeOf5)
 v5:=(BL Tryz.zeroValue5)
 t9:=(uq eO)
 a9:=(DL Tryz.isAgg9)
 z9:=(Di Tryz.sizeOf9)
 v9:=(BL Tryz.zeroValue9)
 t37:=(uq gL)
 a37:=(DL Tryz.isAgg199)
 z37:=(Di Tryz.sizeOf199)
 v37:=(BL Tryz.zeroValue199)
 t127:=(uq o3)
 a127:=(DL Tryz.isAgg223)
 z127:=(Di Tryz.sizeOf223)
 v127:=(BL Tryz.zeroValue223)
 i0:=XN
 i3:=XN
 i4:=XN
 i5:=XN
 i9:=XN
 i37:=XN
 i127:=by kernel_rfl }
def clone_any(s:ByteArray)(w:U)(hs:s.size<=16777216):Calls PQ 92 #[bB s] w λe w'=>e=.returned (bB s)/\Below ↑w w w':=by go_enter (fq Tryz.func92 rfl),Tryz.ntmps92;go_wp2_with fail;refine(Any.stringslite_Clone (ρ:=Xi) Jq s w aA).mono ?_;rintro e w1 ⟨rfl,z⟩;go_wp2_with fail;go_ret;exact⟨rfl,z⟩
open Go.RowKit Go.Joins
def fv:Option (F×Nat)->X
 |none=>cQ #[.agg #[N eA 0,N lB 0,bB ⟨#[]⟩,cK aL],N ab 0,cK aL]
 |some x=>cQ #[.agg #[N eA x.1.chan,N lB x.1.num,bB ⟨x.1.data.toArray⟩,.bool x.1.last],N ab x.2,cK aR]
end Fr
namespace Fr
open Go.RowKit Go.Joins
attribute [local go_sem] Oper.semAt_some
inductive Vk(s:List UInt8):List F->Nat->Prop
 |nil:Vk s [] 0
 |snoc {l:List F} {p:Nat} {x:F} {n:Nat}:Vk s l p->one s p=M (x,n)->Vk s (l++[x]) (p+n)
def Vk.le{s:List UInt8}{l:List F}{p:Nat}(h:Vk s l p):p<=s.length/\l.length<=p:=by
 induction h with
 |nil=>simp
 |snoc h ho ih=>
  have:=one_le ho;simp only[aS,aU,bY];omega
end Fr
namespace Fr
open Go.RowKit Go.Joins
attribute [local go_sem] Oper.semAt_some
variable {s:List UInt8}{l:List F}
def Kv(s:List UInt8)(p:Nat)(hp:p+1<=s.length):one s (p+1)=one (s.drop 1) p:=by rw[BK s (p+1) hp,BK (s.drop 1) p (by grind),iC,Nat.add_comm 1 p]
def Vk.ae6(hs:1<=s.length){p:Nat}(h:Vk (s.drop 1) l p):qO s l (p+1):=by
 induction h with
 |nil=>exact qO.nil
 |@snoc l p x n h ho ih=>
  have z:=one_le ho;rw[dW]at z;rw[show p+n+1=p+1+n from by omega];exact qO.snoc ih aA (by rw[Kv s p aA];exact ho)
def zl(hs:1<=s.length)(R:s.getD 0 0=0){p:Nat}(E:Vk (s.drop 1) l p)(Y:one (s.drop 1) p=Z):
  frames s=if l.length=0\/p<s.length-1 then Z else M l:=by
 have J:=E.ae6 hs;have I:=E.le;rw[dW]at I;by_cases h2:s.length<2
 .rw[yV (bE h2),ZD (bE aA)]
 .have z:¬(s.length<2\/s.getD 0 0≠0):=by
   rintro(h|h)
   .exact h2 h
   .exact h R
  by_cases hp:p<s.length-1
  .rw[ZD (cD hp)];exact J.stuck z aA (by rw[Kv s p aA];exact Y)
  .rw[Zs]
   .exact J.all z aA
   .rintro(h|h)
    .cases E with
     |nil=>omega
     |snoc=>simp at h
    .exact hp h
end Fr
namespace Cr
open Go
abbrev link:Go.Conc.Lib.WgLink:={ add:=70,done:=72,wait:=74,relMerge:=99,disable:=100,enable:=101,inBubble:=102,associate:=103,fatal:=104,uOr:=105,uAdd:=106,raceRead:=107,uLoad:=108,uStore:=109,disassociate:=110,semrelease:=111,acquire:=113,isAssociated:=114,uCas:=115,raceWrite:=116,semacquire:=117,orU64:=132,addU64:=133,loadU64:=134,storeU64:=135,casU64:=137,tWgP:=178,tUP:=180,tAssoc:=181,tWg:=150,tAU:=148,tU64:=146,tUint:=185,tU32:=22,tPU32:=186,tPAU:=214,tPU64:=216,tNoCopy:=143,tANoCopy:=144,tAlign64:=145 }
def wgLib:Go.Conc.Lib.WgLib bA link:=
 ⟨Tryz.func70,Tryz.func72,Tryz.func74,Tryz.func99,Tryz.func100,Tryz.func101,Tryz.func102,Tryz.func103,Tryz.func104,Tryz.func105,Tryz.func106,Tryz.func107,Tryz.func108,Tryz.func109,Tryz.func110,Tryz.func111,Tryz.func113,Tryz.func114,Tryz.func115,Tryz.func116,Tryz.func117,Tryz.func132,Tryz.func133,Tryz.func134,Tryz.func135,Tryz.func137,Tryz.underlying178,Tryz.runUnderlying178,Tryz.sizeOf178,Tryz.isAgg178,Tryz.zeroValue178,Tryz.underlying180,Tryz.runUnderlying180,Tryz.sizeOf180,Tryz.isAgg180,Tryz.zeroValue180,Tryz.underlying181,Tryz.runUnderlying181,Tryz.sizeOf181,Tryz.isAgg181,Tryz.zeroValue181,Tryz.underlying150,Tryz.runUnderlying150,Tryz.sizeOf150,Tryz.isAgg150,Tryz.zeroValue150,Tryz.underlying148,Tryz.runUnderlying148,Tryz.sizeOf148,Tryz.isAgg148,Tryz.zeroValue148,Tryz.underlying146,Tryz.runUnderlying146,Tryz.sizeOf146,Tryz.isAgg146,Tryz.zeroValue146,Tryz.underlying185,Tryz.runUnderlying185,Tryz.sizeOf185,Tryz.isAgg185,Tryz.zeroValue185,Tryz.underlying22,Tryz.runUnderlying22,Tryz.sizeOf22,Tryz.isAgg22,Tryz.zeroValue22,Tryz.underlying186,Tryz.runUnderlying186,Tryz.sizeOf186,Tryz.isAgg186,Tryz.zeroValue186,Tryz.underlying214,Tryz.runUnderlying214,Tryz.sizeOf214,Tryz.isAgg214,Tryz.zeroValue214,Tryz.underlying216,Tryz.runUnderlying216,Tryz.sizeOf216,Tryz.isAgg216,Tryz.zeroValue216,Tryz.underlying0,Tryz.runUnderlying0,Tryz.sizeOf0,Tryz.isAgg0,Tryz.zeroValue0,gT,Tryz.runUnderlying3,Tryz.sizeOf3,Tryz.isAgg3,Tryz.zeroValue3,oe,Tryz.runUnderlying4,Tryz.sizeOf4,Tryz.isAgg4,Tryz.zeroValue4,eO,Tryz.runUnderlying9,Tryz.sizeOf9,Tryz.isAgg9,Tryz.zeroValue9,Tryz.underlying20,Tryz.runUnderlying20,Tryz.sizeOf20,Tryz.isAgg20,Tryz.zeroValue20,Tryz.underlying21,Tryz.runUnderlying21,Tryz.sizeOf21,Tryz.isAgg21,Tryz.zeroValue21,XN,XN⟩
end Cr
namespace Fr
def mg(inbox batcher fr ad:Int)(data:List UInt8):List F:=if ad=inbox/\fr=batcher then(frames data).getD []else []
end Fr
namespace Cr
open Go Go.Conc Go.ConcN Go.RowKit Go.Conc.Lib Go.ConcR.Gen Go.ConcN.Gen
open Go.ConcR (KK WgAt stA smA Payload DC0)
instance payFrames:Payload:=⟨106⟩
def qY(O:Nat->Prop)(w:U)(v:X)(fs:List Fr.F):Prop:=
 (v=aH Z 0 0/\fs=[])\/∃g cap z,v=aH (M ⟨g,0,Z⟩) fs.length cap/\O g/\w.heap[g]? =M (aG z 109 (0,0))/\fs.length<=cap/\cap<=maxLen/\z.size=cap*4/\z.toList.take (fs.length*4)=Fr.flat fs
def qY.stands{O I:Nat->Prop}{w z:U}{v:X}{fs:List Fr.F}(h:qY O w v fs)(R:∀b,O b->I b)(Y:∀b,O b->z.heap[b]? =w.heap[b]?):qY I z v fs:=
 h.imp id λ⟨g,cap,E,e,J,h2,r⟩=>⟨g,cap,E,e,R g J,(Y g J).trans h2,r⟩
def leftOf(fs:Nat->List Fr.F):Left:=λi v O w=>qY O w v (fs i)
def Ez(fs:Nat->List Fr.F):(leftOf fs).nR:=λ_ _ _ _ _ z h=>qY.stands h (λ_=>id) z
abbrev cfg(inbox batcher t0 t1 t2 t3 t4:Int):Array X:=#[N eA inbox,N eA batcher,N ab t0,N ab t1,N ab t2,N ab t3,N ab t4]
abbrev Ad(fr ad:Int)(data:ByteArray):Array X:=#[N eA fr,N eA ad,bB data]
def ReadW:Prop:=∀(S:Who)(m:Nat)(R:kC->cA->U->Prop)(K:kC)(w:U)(b:cR)(a:Act)(k:List pS)(cs:List cR)(ops:Array ij)(j:Nat)(rest:List Nat)(o:ij)(x y:jN)(J:Array cG)(inbox batcher t0 t1 t2 t3 t4 fr ad:Int)(data:ByteArray),
 ops[j]? =M o->cP o (yielded ops a.tmps)=aR->b.kind≠.early->o.op=.call { callee:=.value (.func 73),args:=#[x,y],argTypes:=J }->a.eval x=.agg (cfg inbox batcher t0 t1 t2 t3 t4)->a.eval y=.agg (Ad fr ad data)->data.size<=1048576->
 (∀x,K.W x->K.O x)->(∀x,K.O x->x<w.heap.size)->S.C<w.heap.size->S.Wg<w.heap.size->Tryz.prog.globals.size<=w.heap.size->
 (∀E,En S (M m) K w E->∀v I z,qY I.O z v (Fr.mg inbox batcher fr ad data.data.toList)->(∀x,K.O x->I.O x)->(∀x,I.W x->I.O x)->↑E<=z.heap.size->(∀x,K.O x->z.heap[x]? =E.heap[x]?)->(∀x,I.O x->x<z.heap.size/\(K.O x\/E.heap.size<=x))->
  (iB S.ty S.Wg E->iB S.ty S.Wg z)->(pL S.C S.n E->pL S.C S.n z)->kY bA aL S (M m) R I (G (b.at (a.put o.dst v) (bL ops rest::k)) cs) z)->
 kY bA aL S (M m) R K (G (b.at a (bL ops (j::rest)::k)) cs) w
end Cr
namespace Cr
open Go Go.Conc Go.ConcN Go.RowKit Go.Conc.Lib Go.ConcR.Gen Go.ConcN.Gen
open Go.ConcR (KK WgAt stA smA Payload DC0)
open Fr (big)
section
def Ret(f:ph)(args:Array X)(v:X):Prop:=∀(S:Who)(m:Nat)(St:kC->cA->U->Prop)(K0:kC)(w0:U)(L:List (Nat×nL))(b:cR)(a:Act)(k:List pS)(cs:List cR)(ops:Array ij)(i:Nat)(rest:List Nat)(o:ij)(xs:Array jN)(z:Array cG),
 ops[i]? =M o->cP o (yielded ops a.tmps)=aR->b.kind≠.early->o.op=.call { callee:=.value (.func f),args:=xs,argTypes:=z }->xs.map a.eval=args->Wc bA S m St K0 w0 L (G (b.at (a.put o.dst v) (bL ops rest::k)) cs)->Wc bA S m St K0 w0 L (G (b.at a (bL ops (i::rest)::k)) cs)
noncomputable def Yk:eE:=match Tryz.f153.body with
 |some (bR _ (bR _ (bR (bR _ (.block _ (.loop c))) _)))=>c
 |_=>.skip
noncomputable def adQ:eE:=match Tryz.f153.body with
 |some (bR _ (bR _ (bR _ c)))=>c
 |_=>.skip
section
variable {S:Who}{m:Nat}{St:kC->cA->U->Prop}{K0:kC}{w0:U}{L:List (Nat×nL)}{cs:List cR}{cf:cR}
def oC{p:Nat×nL}{w:U}(h:Lies (p::L) ↑w0 w):w.heap[p.1]? =M p.2:=(h.mem p (.head _)).2
def Jm{n:Nat}{ob:nL}{j X1 z:Nat}{wr:Bool}:EvA ((n,ob)::L) X1 z ⟨.cell ⟨n,j,Z⟩,wr,aL⟩:=bE ⟨_,_,rfl,bE ⟨_,.head _,rfl⟩⟩
def LM(s:ByteArray)(hs:s.size<=4)(n cap:Nat)(c:Array X){fz:Nat×Nat}(hc:∀j,j<s.size->c[j]? =M (N .u8 (s.data.toList.getD j 0).toNat))(nx:Wc bA S m St K0 w0 ((n,aG c 5 fz)::L) (G (cf.finish (N eA (big s.data.toList 0 s.size:Nat))) cs)):∀r k,k+r=s.size->∀u5 Y R ac ah ag ai ae aa af:X,Wc bA S m St K0 w0 ((n,aG c 5 fz)::L) (G ((base 153).at { tmps:=#[bB s,aE,N eA 0,N eA (big s.data.toList 0 k:Nat),aE,u5,bB s,aH (M ⟨n,0,Z⟩) s.size cap,N ab s.size,N ab k,Y,R,ac,ah,ag,ai,ae,aa,af,aE],defers:=[] } [.code Yk,.inLoop Yk,.inBlock 0,.code adQ]) (cf::cs)):=by
 intro r
 induction r with
 |zero=>
  intro k hk u5 Y R ac ah ag ai ae aa af;obtain rfl:k=s.size:=aA
  simp only[Yk,Tryz.f153];refine Wc.go 30 λK w z=>?_;u_c cE At.en z;u_reg At.en z;u_op At.en z;u_c aM At.en z;u_c cE At.en z;u_cond aL At.en z;u_exit At.en z;simp only[adQ,Tryz.f153];u_c cE At.en z;u_reg At.en z
  iterate 2 u_op At.en z
  u_c aM At.en z;refine cL λ_ E=>Wc.use ?_ (z.en E);exact .ret λtodo=>.zQ rfl rfl rfl Tryz.func153 rfl rfl nx
 |succ r ih=>
  intro k hk u5 Y R ac ah ag ai ae aa af;have ak:(k:Int)<s.size:=aA
  have am:big s.data.toList 0 k<16777216:=by
   have:=Fr.uD s.data.toList 0 k;have:=iK (n:=256) aB (show k<=3 by omega);omega
  have hc:=hc k aA;have J:big s.data.toList 0 (k+1)=256*big s.data.toList 0 k+(s.data.toList.getD k 0).toNat:=by rw[big,fJ]
  generalize hb:(s.data.toList.getD k 0).toNat=y at hc J;have aj:y<256:=by rw[<-hb];exact UInt8.toNat_lt _
  have ih:=ih (k+1) aA;rw[J]at ih;generalize big s.data.toList 0 k=V at *;have IH:Hid _:=ih;have NX:Hid _:=nx;clear ih nx hb J;simp only[Yk,Tryz.f153];refine Wc.go 30 λK w z=>?_;u_c cE At.en z;u_reg At.en z;u_op At.en z;u_c aM At.en z;u_c cE At.en z;u_cond aR At.en z;u_c gF At.en z;u_c cE At.en z;u_c pQ At.en z;u_c cE At.en z;u_reg At.en z;u_op At.en z;refine cL λ_ E=>Wc.use ?_ (z.en E);clear z;refine Wc.rd (N .u8 y) rfl rfl (eD _) (λw hl=>?_) ?_
  .have h1:=oC hl;have I:w.cell? ⟨n,k,Z⟩=M (N .u8 y):=by simp[eB,h1,hc]
   refine⟨by simp[go_sem,I],λe he=>?_⟩;simp[go_sem,I]at he;subst he;exact Jm
  walk_nrm;refine Wc.go 30 λK w z=>?_;u_op At.en z;u_c aM At.en z;u_reg At.en z
  iterate 6 u_op At.en z
  u_c aM At.en z;u_c stepG_inBlock At.en z;u_reg At.en z
  iterate 2 u_op At.en z
  u_c aM At.en z;u_c stepG_inLoop At.en z;refine cL λ_ E=>Wc.use ?_ (z.en E);clear z
  have e:bits .or eA ((V:Int)*256) (y:Int)=((256*V+y:Nat):Int):=by
   rw[show(V:Int)*256=((V*256:Nat):Int) from by omega,Fr.Ak _ _ aA aA,Fr.AO V y aj]
  rw[show(V:Int)*256%4294967296=V*256 by omega,show(y:Int)%4294967296=y by omega,e,show IntKind.i64.wrap ((k:Int)+1)=((k+1:Nat):Int) by rw[eT];omega];exact IH.out _ _ _ _ _ _ _ _ _ _
end
def wu(s:ByteArray)(hs:s.size<=4):Ret 153 #[bB s] (N eA (big s.data.toList 0 s.size:Nat)):=by
 intro S m St K0 w0 L b a k cs ops i rest o xs aa ho hw hk I hx nx;refine Wc.call ho hw hk I Tryz.func153 rfl (show Tryz.f153.body=M (bR _ (bR _ (bR (bR _ (.block 0 (.loop Yk))) adQ))) from rfl) ?_;rw[hx];simp only[Tryz.ntmps153,dR,aU,bY,Nat.reduceAdd,Nat.reduceSub,dH,dG,dU,dI,dS,dN];have NX:Hid _:=nx;clear nx;refine Wc.go 30 λK w z=>?_;u_c cE At.en z;u_reg At.en z;u_op At.en z;u_c aM At.en z;u_c cE At.en z;u_reg At.en z;u_op At.en z;u_c aM At.en z
 iterate 2 u_c cE At.en z
 u_reg At.en z;u_op At.en z;refine cL λ_ E=>Wc.use ?_ (z.en E);clear z;refine Wc.op rfl rfl (eD _) λw Y=>⟨aH (M ⟨↑w,0,Z⟩) s.size (grownCap w s.size 0 5),rI w 5 s,(w.heap.size,aG (rv w 5 s) 5 ((rv w 5 s).size,(rv w 5 s).size+1))::L,bE ?run,?turn,?_⟩
 case run=>
  have:=Lib.run_convert_string_bytes (P:=bA) w 9 199 5 s eO gL il;simp[go_sem,this]
 case turn=>
  refine .lay Y (rL _ _ _) (Lib.bytesWorld_at_old _ _ _) (Lib.bytesWorld_at_new _ _ _) rfl rfl rfl λe R=>?_;have R:=gN R
  have J:∀c:Array X,(w.alloc (aG c 5)).shape? w.heap.size=M (5,c.size):=by
   intro c;simp[gA,World.alloc,-World.alloc_eq]
  simp[go_sem,convert,eJ (P:=bA) eO,eJ (P:=bA) gL,eJ (P:=bA) il,Conv.stringToBytes,newRow,markStringish,Question.forced,J]at R
 have hc:∀j,j<s.size->(rv w 5 s)[j]? =M (N .u8 (s.data.toList.getD j 0).toNat):=λj hj=>by simp[rv,Array.getElem?_append,List.getD,hj]
 generalize rv w 5 s=c at hc;generalize w.heap.size=n;generalize grownCap w s.size 0 5=cap;clear Y;walk_nrm;refine Wc.go 30 λK w z=>?_
 iterate 2 u_op At.en z
 u_c aM At.en z;u_c pQ At.en z;u_c stepG_loop At.en z;refine cL λ_ E=>Wc.use ?_ (z.en E);refine LM s hs n cap c hc ?_ s.size 0 aA _ _ _ _ _ _ _ _ _ _;refine Wc.drop (iT _ _) ?_;rw[mz,ho];exact NX.out
end
section
variable {e:jz}{P:cU}{w:U}
def WX{L:List (Nat×nL)}{X1 E:Nat}{ad:eM}(hp:pl e)(z:e.loc=.cell ad)(I:∃p∈L,p.1=ad.block):EvA L X1 E e:=by obtain⟨J,wr,R⟩:=e;cases z;cases hp ad rfl;exact bE ⟨ad,wr,rfl,bE I⟩
def xJ{P:cU}{w:U}:∀(l:List UInt8)(a:eM)(E:ByteArray)(es:Array jz),(∀j x,l[j]? =M x->w.cell? (a.add j)=M (N .u8 x.toNat))->∀e∈(loadBytes a E l.length).events P w es,e∈es\/∃a',e=⟨.cell a',aL,aL⟩/\a'.block=a.block
 |[],_,_,_,_=>λe z=>bE (by simpa[loadBytes]using z)
 |x::l,a,E,es,h=>λe z=>by
  have J:w.cell? a=M (N .u8 x.toNat):=by
   have:=h 0 x rfl;simpa[Addr.add]using this
  simp only[aU,loadBytes,Sem.events_bind]at z;simp[J]at z;obtain k|⟨a',rfl,k⟩:=xJ l (a.add 1) _ _ (λj y I=>by have:=h (j+1) y (by simpa using I);rw[show(a.add 1).add j=a.add (j+1) from by unfold Addr.add;split<;>split<;>simp_all<;>omega];exact this) e z
  .grind
  .exact cD ⟨a',rfl,k.trans (addBlock a 1)⟩
def afi(pt it ty e:cG)(hp:P.underlying pt=M (.pointer e))(hc:P.cellsOf e=1)(g cells:Nat)(Y:w.shape? g=M (e,cells)){l:List UInt8}(h0:l≠[])(hn:l.length<=cells)(ac:l.length<=9223372036854775807)(z:∀j x,l[j]? =M x->w.cell? ((⟨g,0,Z⟩:eM).add j)=M (N .u8 x.toNat)):∀ev∈(nW #[pt,it] ty #[aD (M ⟨g,0,Z⟩),N ab l.length]).events P w #[],∃a',ev=⟨.cell a',aL,aL⟩/\a'.block=g:=by
 have hl:l.length≠0:=by simpa using h0
 have aa:=Lib.run_loadBytes (P:=P) w l _ .empty z;have E:=Lib.liesAt_bytes (P:=P) hc (cells/P.cellsOf e) l.length (by rw[hc];simpa using hn);have J:¬(9223372036854775807:Int)<(l.length:Int):=aA
 have I:IntKind.i64.max=9223372036854775807:=rfl;have R:¬(l.length:Int)<0:=aA
 intro ev he;change ev∈(asInt (N ab l.length) >>= _).events P w #[]at he;simp[asInt,asIntOf,I,J,R,hl,variablesAt,Y,elemOf,eJ hp,E,aa]at he;obtain k|k:=xJ l ⟨g,0,Z⟩ .empty #[] z ev he
 .simp at k
 .exact k
def Ip(ty:cG)(s:ByteArray)(w:U)(es:Array jz):(mw #[9] ty #[bB s]).events bA w es=es:=by simp[mw,eJ eO]
def Ol{α:Type}{s:Sem α}(h:na s)(z:e∈s.events P w #[]):pl e:=aeO h w #[] aC e z
def abo:(Tryz.prog.info? 5).map (λi=>(i.zero,i.size,i.bytes))=M (M (N .u8 0),1,1):=XN
def Ve(s:ByteArray)(hs:s.size<=16777216):Ret 129 #[bB s] (bB s):=by
 intro S m St K0 w0 L b a k cs ops i rest o xs av ho hw hk am hx nx;refine Wc.call ho hw hk am Tryz.func129 rfl rfl ?_;rw[hx];simp only[Tryz.ntmps129,dR,aU,bY,Nat.reduceAdd,Nat.reduceSub,dH,dG,dU,dI,dS,dN];have NX:Hid _:=nx;have el:=Ip;clear nx;by_cases h0:s.size=0
 .obtain rfl:s=⟨#[]⟩:=ByteArray.ext (Array.eq_empty_of_size_eq_zero h0);refine Wc.go 30 λK w z=>?_;u_c cE At.en z;u_reg At.en z;u_op At.en z;u_c aM At.en z
  iterate 2 u_c cE At.en z
  u_reg At.en z
  iterate 3 u_op At.en z
  u_c aM At.en z;u_cond aR At.en z;u_c cE At.en z;u_reg At.en z;u_op At.en z;u_c aM At.en z;refine cL λ_ E=>Wc.use ?_ (z.en E);refine .ret λtodo=>.zQ rfl rfl rfl Tryz.func129 rfl rfl ?_;rw[mz,ho];exact NX.out
 have ar:((s.size:Int) == 0)=aL:=by rw[beq_eq_false_iff_ne];omega
 refine Wc.go 30 λK w z=>?_;u_c cE At.en z;u_reg At.en z;u_op At.en z;u_c aM At.en z
 iterate 2 u_c cE At.en z
 u_reg At.en z
 iterate 3 u_op At.en z
 u_c aM At.en z;u_cond aL At.en z;u_c gF At.en z;u_c cE At.en z;u_reg At.en z
 iterate 2 u_op At.en z
 refine cL λ_ E=>Wc.use ?_ (z.en E);clear z
 obtain⟨ie,hi,af,ah,aa⟩:∃i,Tryz.prog.info? 5=M i/\i.zero=M (N .u8 0)/\i.size=1/\i.bytes=1:=by
  have:=abo;cases h:Tryz.prog.info? 5 with
  |none=>grind
  |some i=>
   grind
 obtain⟨XS,hM⟩:∃XS,XS=madeCells (N .u8 0).cells (((s.size:Nat):Int).toNat*ie.size):=⟨_,rfl⟩
 have ao:XS.size=s.size:=by rw[hM,size_madeCells,ah];simp
 refine Wc.al (aG XS 5) (λn=>aH (M ⟨n,0,Z⟩) s.size s.size) rfl rfl (eD _) (λw I=>?_) λn=>?_
 .have ai:=run_make (P:=bA) w 199 5 ie _ gL hi af ab ab s.size s.size aA aA (by rw[aa];omega) aA;have an:=events_make (P:=bA) w 199 5 ie _ gL hi af ab ab s.size s.size aA aA (by rw[aa];omega) aA (by rw[aa];omega) #[];rw[<-hM]at ai;refine⟨by simp[go_sem,ai],λe J=>?_⟩;simp[go_sem,an]at J
 clear hM;walk_nrm;refine Wc.go 30 λK w z=>?_;u_op At.en z;u_c aM At.en z;u_c cE At.en z;u_reg At.en z
 iterate 2 u_op At.en z
 refine cL λ_ E=>Wc.use ?_ (z.en E);clear z;obtain⟨Y,hY⟩:∃Y,Y=(XS.toList.take 0++lw s.data.toList++XS.toList.drop (0+s.size)).toArray:=⟨_,rfl⟩
 have ag:Y.toList=lw s.data.toList:=by
  rw[hY,List.toList_toArray,List.take_zero,dS,List.drop_of_length_le (by grind),gI]
 have au:Y.size=s.size:=by rw[<-Array.length_toList,ag,o6,<-rk]
 refine Wc.op rfl rfl (eD _) λw I=>⟨goInt s.size,w.setRow n Y,(n,aG Y 5)::L,bE ?run,?turn,?_⟩
 case run=>
  have ae:=Lib.run_copy_row_string (P:=bA) w 199 9 3 5 n 0 _ s.size s XS 5 gL (by rw[hi];simp[ah]) (oC I) jB aA;rw[<-hY]at ae;simp[go_sem,ae]
 case turn=>
  refine Turn.set (i:=0) I rfl aC (λx hx=>setRow_other _ _ _ _ hx) (setRow_heap _ _ XS _ _ _ (oC I)) rfl rfl rfl λe J=>?_;have J:e∈(ot #[199,9] 3 #[aH (M ⟨n,0,Z⟩) s.size s.size,bB s]).events bA w #[]:=by simpa[go_sem]using gN J
  have hp:=Ol (acT) J;simp[ot,eJ gL,pv,oo,sizeOf,typeInfo,hi]at J
  have ak:List.take s.size (List.map (λb:UInt8=>N IntKind.u8 (b.toNat:Int)) s.data.toList)=lw s.data.toList:=by
   rw[eH aC];rfl
  rw[ak]at J;have aq:(lw s.data.toList).length=s.size:=by rw[o6,<-rk]
  obtain k|⟨ad,k1,k2⟩:=events_storeCells_at n 0 5 (lw s.data.toList) 0 XS w #[] (oC I) aA (Lib.byteCells_one _) e J
  .simp at k
  .exact WX hp k1 ⟨_,.head _,k2.symm⟩
 clear I hY ao XS;walk_nrm;have ap:0<s.size:=aA
 refine Wc.go 30 λK w z=>?_;u_c aM At.en z;u_c cE At.en z;u_reg At.en z
 iterate 4 u_op At.en z
 refine cL λ_ E=>Wc.use ?_ (z.en E);clear z;have R:s.data.toList≠[]:=λe=>h0 (by rw[rk,e];rfl);have aj:∀(w:U),w.heap[n]? =M (aG Y 5 (0,0))->∀j x,s.data.toList[j]? =M x->w.cell? ((⟨n,0,Z⟩:eM).add j)=M (N .u8 x.toNat):=λw hg j x hx=>Lib.cells_of_row hg Y.size j _ (by rw[eH aC,ag];simp[lw,hx]);refine Wc.op rfl rfl (eD _) λw I=>⟨bB s,w.freeze ⟨n,0,Z⟩ s.size,(n,aG Y 5 (0,s.size))::L,bE ?run,?turn,?_⟩
 case run=>
  have ac:=Lib.run_unsafeString_row (P:=bA) w 223 3 9 5 o3 XN n Y.size (by unfold gA;rw[oC I]) _ R (by rw[<-rk];omega) (by rw[<-rk];omega) (aj w (oC I));rw[<-rk]at ac;simp[go_sem,ac]
 case turn=>
  have hf:(w.freeze ⟨n,0,Z⟩ s.size).heap=w.heap.modify n λo=>match o with|aG c e (lo,hi)=>aG c e (if lo == hi then(0,0+s.size)else(min lo 0,max hi (0+s.size)))|o=>o:=by simp only[iN,Zs h0];rfl
  refine Turn.set (i:=0) I rfl (by rw[hf];simp) (λx hx=>by grind) (by rw[hf,bT,ZD rfl,oC I];simp) (by simp[iN,h0]) (by simp[iN,h0]) (by simp[iN,h0]) λe J=>?_;have J:e∈(nW #[223,3] 9 #[aD (M ⟨n,0,Z⟩),N ab s.size]).events bA w #[]:=by simpa[go_sem]using gN J
  rw[rk]at J;obtain⟨a',rfl,k⟩:=afi 223 3 9 5 o3 XN n Y.size (by unfold gA;rw[oC I]) R (by rw[<-rk];omega) (by rw[<-rk];omega) (aj w (oC I)) e J;exact bE ⟨a',aL,rfl,bE ⟨_,.head _,k.symm⟩⟩
 clear I;walk_nrm;refine Wc.go 30 λK w z=>?_;u_op At.en z;u_c aM At.en z;refine cL λ_ E=>Wc.use ?_ (z.en E);refine .ret λtodo=>.zQ rfl rfl rfl Tryz.func129 rfl rfl (Wc.drop (iT _ _) ?_);rw[mz,ho];exact NX.out
def Tj(s:ByteArray)(hs:s.size<=16777216):Ret 92 #[bB s] (bB s):=by intro S m St K0 w0 L b a k cs ops i rest o xs aa ho hw hk I Y J;refine Wc.call ho hw hk I Tryz.func92 rfl rfl ?_;rw[Y];simp only[Tryz.ntmps92,dR,aU,bY,Nat.reduceAdd,Nat.reduceSub,dH,dG,dU,dI,dS,dN];have R:Hid _:=J;clear J;refine Wc.go 30 λK w z=>?_;u_c cE At.en z;u_reg At.en z;u_op At.en z;u_c aM At.en z;u_c cE At.en z;u_reg At.en z;u_op At.en z;refine cL λ_ E=>Wc.use ?_ (z.en E);clear z;refine Ve s hs _ _ _ _ _ _ _ _ _ _ _ _ _ _ _ _ rfl rfl (eD _) rfl (by simp[kp]) ?_;walk_nrm;refine Wc.go 30 λK w z=>?_;u_op At.en z;u_c aM At.en z;refine cL λ_ E=>Wc.use ?_ (z.en E);refine .ret λtodo=>.zQ rfl rfl rfl Tryz.func92 rfl rfl ?_;rw[mz,ho];exact R.out
end
end Cr
namespace Cr
open Go Go.Conc Go.ConcN Go.RowKit Go.Conc.Lib Go.ConcR.Gen Go.ConcN.Gen
open Go.ConcR (KK WgAt stA smA Payload DC0)
open Fr (big one fv)
variable {n:Nat}{t:cG}{w:U}
def wn{o:ij}{y:Nat->Option Bool}(h:o.guard=Z):cP o y=aR:=by simp[cP,h]
def abZ(u:U)(s:ByteArray)(i:Int)(j:Nat)(z:j<s.size)(e:i=(j:Int)):(mb 9 (bB s) (N ab i)).run bA u=.ok (N .u8 (s[j].toNat:Int)) u:=by subst e;rw[run_index_string u _ s ab _ eO,dif_pos aA];simp
def yg(l:Int)(n:Nat)(c:BoundsCode)(w:U)(es:Array jz)(E:0<=l)(z:l<=n):(Instr.sliceBound (N ab l) n c).events bA w es=es:=by
 have h2:¬l<0:=aA
 have h3:¬(n:Int)<l:=aA
 simp[Instr.sliceBound,asIntOf,asInt,E,z,h2,h3]
def CU(s:ByteArray)(l h:Int)(w:U)(es:Array jz)(z:0<=l)(E:l<=h)(h2:h<=s.size):(lA 9 (bB s) (M (N ab l)) (M (N ab h)) Z).events bA w es=es:=by have k:=λc=>yg l h.toNat c w es z aA;simp[lA,eJ eO,nw,run_sliceBound,yg,sliced,E,h2,(by omega:0<=h),z,k]
def PI(s:ByteArray)(h:Int)(w:U)(es:Array jz)(z:0<=h)(h2:h<=s.size):(lA 9 (bB s) Z (M (N ab h)) Z).events bA w es=es:=by simp[lA,eJ eO,nw,run_sliceBound,yg,sliced,h2,z]
def Ci(s:ByteArray)(l:Int)(w:U)(es:Array jz)(E:0<=l)(z:l<=s.size):(lA 9 (bB s) (M (N ab l)) Z Z).events bA w es=es:=by simp[lA,eJ eO,nw,run_sliceBound,yg,sliced,z,E]
def oJ(s:ByteArray){lo z:Option X}(w:U)(es:Array jz)(h:(lA 9 (bB s) lo z Z).events bA w es=es):(Instr.sliceAt 9 (bB s) lo z Z).events bA w es=es:=by simp[Instr.sliceAt,h]
def Ef(s:ByteArray)(i:Int)(w:U)(es:Array jz)(E:0<=i)(z:i<s.size):(mb 9 (bB s) (N ab i)).events bA w es=es:=by simp[mb,eJ eO,go_sem,E,z]
abbrev LD(ch z:Int)(d:ByteArray)(l:Bool):Array X:=#[N eA ch,N lB z,bB d,.bool l]
abbrev JC:Array X:=LD 0 0 ⟨#[]⟩ aL
noncomputable def Gl:Array ij:=match Tryz.f146.body with
 |some (bR _ (bR _ (bR _ (bR _ (bR (.region _ ops _) _)))))=>ops
 |_=>#[]
def ada:fills 47 Gl=aR:=XN
section
variable {S:Who}{m:Nat}{St:kC->cA->U->Prop}{K0:kC}{w0:U}{L:List (Nat×nL)}{cs:List cR}
def uS{j:Nat}{c:Array X}{z:Nat×Nat}(h:Lies ((n,aG c t z)::L) ↑w0 w):w.cell? ⟨n,j,Z⟩=c[j]?:=by have:=oC h;simp[eB,this]
def ahc{a b c d x y z u:X}(h:w.heap[n]? =M (aG #[a,b,c,d] t)):(((w.setCell ⟨n,0,Z⟩ x).setCell ⟨n,1,Z⟩ y).setCell ⟨n,2,Z⟩ z).setCell ⟨n,3,Z⟩ u=w.putObj n (aG #[x,y,z,u] t):=by
 simp only[eQ,World.putObj]
 congr 1
 apply gB;intro j;by_cases e:n=j
 .subst e;have E:=(jE h)
  rw[bT,ZD rfl,bT,ZD rfl,bT,ZD rfl,bT,ZD rfl,h,aV,ZD rfl,ZD E];rfl
 .grind
def qB{c0 n0 z E:Int}{d0 Y:ByteArray}{l0 l1:Bool}{p q:jN}{a:Act}{o:ij}(hp:a.eval p=aD (M ⟨n,0,Z⟩))(hq:a.eval q=.agg (LD z E Y l1))(R:o.op=.store 109 p q)(w:U)(hl:Lies ((n,aG (LD c0 n0 d0 l0) 109)::L) ↑w0 w):(bN a.eval o).run bA w=.ok .skip (w.putObj n (aG (LD z E Y l1) 109))/\∀e∈(bN a.eval o).events bA w #[],EvA ((n,aG (LD c0 n0 d0 l0) 109)::L) ↑w ↑w e:=by
 have h:=oC hl;have b1:(w.setCell ⟨n,0,Z⟩ (N eA z)).heap[n]? =M (aG #[N eA z,N lB n0,bB d0,.bool l0] 109):=by simp[eQ,bT,h]
 have b2:((w.setCell ⟨n,0,Z⟩ (N eA z)).setCell ⟨n,1,Z⟩ (N lB E)).heap[n]? =M (aG #[N eA z,N lB E,bB d0,.bool l0] 109):=by simp[eQ,bT,h]
 have b3:(((w.setCell ⟨n,0,Z⟩ (N eA z)).setCell ⟨n,1,Z⟩ (N lB E)).setCell ⟨n,2,Z⟩ (bB Y)).heap[n]? =M (aG #[N eA z,N lB E,bB Y,.bool l0] 109):=by simp[eQ,bT,h]
 have I:=eR h 0;have J:=eR b1 1;have aa:=eR b2 2;have ac:=eR b3 3;have z0:=jj h 0;have z1:=jj b1 1;have z2:=jj b2 2;have z3:=jj b3 3;constructor
 .unfold bN;simp only[R,hp,hq];rw[<-ahc h];simp[go_sem,stored,I,z0,J,z1,aa,z2,ac,z3]
 .unfold bN;simp only[R,hp,hq];intro e he;simp[go_sem,stored,storedEv,I,z0,J,z1,aa,z2,ac,z3,pw _ _ _ _ _ _ (show(bB Y).oneCell'=aR from rfl),pw _ _ _ _ _ _ (show(cK l1).oneCell'=aR from rfl)]at he;rcases he with rfl|rfl|rfl|rfl<;>exact Jm
def qL{c R:Int}{d:ByteArray}{l:Bool}{E v4:X}{a:Act}{todo:List pS}{cf:cR}(hd:a.defers=[])(t2:a.tmps[2]? =M (aD (M ⟨n,0,Z⟩)))(t3:a.tmps[3]? =M E)(t4:a.tmps[4]? =M v4)(nx:Wc bA S m St K0 w0 L (G (cf.finish (cQ #[.agg (LD c R d l),E,v4])) cs)):Wc bA S m St K0 w0 ((n,aG (LD c R d l) 109)::L) (G { (base 146).at a todo with mode:=kz } (cf::cs)):=by
 refine Wc.leave _ rfl hd rfl Tryz.func146 (λw z=>?_) (Wc.drop (iT _ _) nx);have c0:=uS (j:=0) z;have I:=uS (j:=1) z;have J:=uS (j:=2) z;have Y:=uS (j:=3) z;refine⟨by simp[results,Tryz.results146,go_sem,Frame.at,t2,t3,t4,c0,I,J,Y],λe he=>?_⟩;simp[results,Tryz.results146,go_sem,Frame.at,t2,t3,t4,c0,I,J,Y]at he;rcases he with rfl|rfl|rfl|rfl<;>exact Jm
end
def Aj(s D:ByteArray)(E z c X1:Nat)(lb:Bool)(i:Nat):X:=(#[bB s,bB (s.extract 0 4),N eA E,bB s,bB (s.extract 4 6),N eA z,N lB z,bB s,N ab (8+(X1:Int)+1),N ab (8+(X1:Int)),bB D,bB D,bB s,N ab (8+(X1:Int)+1),N ab (8+(X1:Int)),N .u8 c,.bool lb,.agg (LD E z D lb),N ab (8+(X1:Int)+1),aE,N ab (8+(X1:Int)+1),cK aR]:Array X).getD i aE
def jl6(n E z:Nat)(D:ByteArray)(lb:Bool)(L:List (Nat×nL))(l:Array Bool):List (Nat×nL):=(n,if l.getD 19 aL then aG (LD E z D lb) 109 else aG JC 109)::L
section
variable {S:Who}{m:Nat}{St:kC->cA->U->Prop}{K0:kC}{w0:U}{L:List (Nat×nL)}{cs:List cR}{cf:cR}
def acP{s D:ByteArray}{C4 Y c X1:Nat}{lb:Bool}(hs:s.size<=16777216)(ah:(8:Int)<=(s.size:Int))(aw:8+X1<s.size)(l4:Y<65536)(ar:∀u:U,(mb 9 (bB s) (N ab (8+(X1:Int)))).run bA u=.ok (N .u8 (c:Int)) u)(av:((c:Int) == 1)=lb)(hD:s.extract 8 (8+X1)=D)(aq:D.size<=16777216)(n4:Ret 153 #[bB (s.extract 4 6)] (N eA Y))(n0:Ret 153 #[bB (s.extract 0 4)] (N eA C4))(nx:Wc bA S m St K0 w0 L (G (cf.finish (cQ #[.agg (LD C4 Y D lb),N ab (8+(X1:Int)+1),cK aR])) cs))(a:Act)(ha:a.tmps.size=47/\a.defers=[]/\a.tmps[2]? =M (aD (M ⟨n,0,Z⟩))/\a.tmps[0]? =M (bB s)/\a.tmps[5]? =M (N ab (8+(X1:Int)+1))):Wc bA S m St K0 w0 ((n,aG JC 109)::L) (G ((base 146).at a [.code (bR (.region 6 Gl aR) .ret)]) (cf::cs)):=by
 refine Wc.seq (Wc.fill (V:=Aj s D C4 Y c X1 lb) (L':=(n,aG (LD C4 Y D lb) 109)::L) (by rw[ha.1];exact ada) (λl a' hl hF=>?_) (jl6 n C4 Y D lb L) rfl (λl hl=>by rw[jl6,hl 19 aB];rfl) λl a' i o rest ho hi ap hF R=>?_)
 .have e:∀{i t},i<22->nN Gl i=M t->a'.tmps[t]? =M (Aj s D C4 Y c X1 lb i):=λhi hd=>hF.got _ _ hd (hl _ hi);exact .ret λtodo=>qL (hF.defers.trans ha.2.1) ((hF.slot XN).trans ha.2.2.1) (e (i:=20) aB rfl) (e (i:=21) aB rfl) nx
 .have keep:i≠19->jl6 n C4 Y D lb L (l.setIfInBounds i aR)=jl6 n C4 Y D lb L l:=λe=>by simp only[jl6,getD_set_ne aL e]
  have go:i≠19->o.guard=Z->(∀w,(bN a'.eval o).run bA w=.ok (.value (Aj s D C4 Y c X1 lb i)) w)->(∀w,∀e∈(bN a'.eval o).events bA w #[],False)->Wc bA S m St K0 w0 (jl6 n C4 Y D lb L l) (G ((base 146).at a' (bL Gl (i::rest)::[.code .ret])) (cf::cs)):=λe J hr E=>
   Wc.rd _ ho (wn J) (eD _) (λw _=>⟨hr w,λe h=>(E w e h).elim⟩) (by grind)
  have am:=(jE ho)
  have I:∀j t,waits Gl i j=aR->nN Gl j=M t->a'.eval (cN t)=Aj s D C4 Y c X1 lb j:=λj t hw hd=>hF.ev hd (ap j hw);have e0:=hF.old (s:=0) XN ha.2.2.2.1;have e5:=hF.old (s:=5) XN ha.2.2.2.2;have ai:(4:Int)<=(s.size:Int):=aA
  have aj:(6:Int)<=(s.size:Int):=aA
  have hN:8+(X1:Int)<=s.size:=aA
  have ag:IntKind.u16.wrap (Y:Int)=Y:=by rw[IntKind.wrap_u16];omega
  have ae:IntKind.i64.wrap (8+(X1:Int))=8+(X1:Int):=by rw[eT];omega
  have ac:IntKind.i64.wrap (8+(X1:Int)+1-1)=8+(X1:Int):=by rw[eT];omega
  have aa:8+(X1:Int)+1-1=8+(X1:Int):=aA
  have an:=λw es=>oJ s w es (PI s 4 w es aA ai);have au:=λw es=>oJ s w es (CU s 4 6 w es aA aA aj);have ak:=λw es=>oJ s w es (CU s 8 _ w es aA aA hN);have ao:=λw es=>Ef s (8+X1) w es aA aA;have sl:∀u:U,(lA 9 (bB s) (M (N ab 8)) (M (N ab (8+(X1:Int)))) Z).run bA u=.ok (bB D) u:=λu=>by rw[run_slice_string u _ s ab ab _ _ eO aA aA hN,show s.extract (8:Int).toNat (8+(X1:Int)).toNat=D by rw[<-hD];congr 1]
  have bd:∀w:U,(Instr.build 109 #[(0,N eA C4),(1,N lB Y),(2,bB D),(3,.bool lb)]).run bA w=.ok (.agg (LD C4 Y D lb)) w:=λw=>run_build w _ _ _ XN
  match i,am with
  |0,_=>
   obtain⟨z,J⟩:=kM (.move (cN 0),Z) ho rfl;refine go aB J (λw=>?_) λw e E=>?_
   .unfold bN;simp only[z,e0];rfl
   .unfold bN at E;simp only[z,e0]at E;simp[go_sem]at E
  |1,_=>
   obtain⟨z,J⟩:=kM (.slice 9 (cN 28) Z _ Z,Z) ho rfl;refine go aB J (λw=>?_) λw e E=>?_
   .unfold bN;simp only[z,jf,cO,I 0 28 rfl rfl];simp[Aj,go_sem,ah,ai]
   .unfold bN at E;simp only[z,jf,cO,I 0 28 rfl rfl]at E;simp[Aj,go_sem,an]at E
  |2,_=>
   obtain⟨z,J⟩:=kM (.call { callee:=.value (.func 153),args:=#[cN 29],argTypes:=#[9] },Z) ho rfl;have hn:=R;rw[keep aB]at hn;exact n0 _ _ _ _ _ _ _ _ _ _ _ _ _ _ _ _ ho (wn J) (eD _) z (by simp[I 1 29 rfl rfl,Aj]) hn
  |3,_=>
   obtain⟨z,J⟩:=kM (.move (cN 0),Z) ho rfl;refine go aB J (λw=>?_) λw e E=>?_
   .unfold bN;simp only[z,e0];rfl
   .unfold bN at E;simp only[z,e0]at E;simp[go_sem]at E
  |4,_=>
   obtain⟨z,J⟩:=kM (.slice 9 (cN 31) _ _ Z,Z) ho rfl;refine go aB J (λw=>?_) λw e E=>?_
   .unfold bN;simp only[z,jf,cO,I 3 31 rfl rfl];simp[Aj,go_sem,ah,aj]
   .unfold bN at E;simp only[z,jf,cO,I 3 31 rfl rfl]at E;simp[Aj,go_sem,au]at E
  |5,_=>
   obtain⟨z,J⟩:=kM (.call { callee:=.value (.func 153),args:=#[cN 32],argTypes:=#[9] },Z) ho rfl;have hn:=R;rw[keep aB]at hn;exact n4 _ _ _ _ _ _ _ _ _ _ _ _ _ _ _ _ ho (wn J) (eD _) z (by simp[I 4 32 rfl rfl,Aj]) hn
  |6,_=>
   obtain⟨z,J⟩:=kM (.convert 22 107 (cN 33),Z) ho rfl;refine go aB J (λw=>?_) λw e E=>?_
   .unfold bN;simp only[z,I 5 33 rfl rfl];simp[Aj,go_sem,ag]
   .unfold bN at E;simp only[z,I 5 33 rfl rfl]at E;simp[Aj,go_sem]at E
  |7,_=>
   obtain⟨z,J⟩:=kM (.move (cN 0),Z) ho rfl;refine go aB J (λw=>?_) λw e E=>?_
   .unfold bN;simp only[z,e0];rfl
   .unfold bN at E;simp only[z,e0]at E;simp[go_sem]at E
  |8,_=>
   obtain⟨z,J⟩:=kM (.move (cN 5),Z) ho rfl;refine go aB J (λw=>?_) λw e E=>?_
   .unfold bN;simp only[z,e5];rfl
   .unfold bN at E;simp only[z,e5]at E;simp[go_sem]at E
  |9,_=>
   obtain⟨z,J⟩:=kM (.binOp _ 3 (cN 36) _ 3,Z) ho rfl;refine go aB J (λw=>?_) λw e E=>?_
   .unfold bN;simp only[z,I 8 36 rfl rfl];simp[Aj,go_sem,ac,aa,ae]
   .unfold bN at E;simp only[z,I 8 36 rfl rfl]at E;simp[Aj,go_sem]at E
  |10,_=>
   obtain⟨z,J⟩:=kM (.slice 9 (cN 35) _ (M (cN 37)) Z,Z) ho rfl;refine go aB J (λw=>?_) λw e E=>?_
   .unfold bN;simp only[z,jf,cO,I 7 35 rfl rfl,I 9 37 rfl rfl];simp[Aj,go_sem,sl w]
   .unfold bN at E;simp only[z,jf,cO,I 7 35 rfl rfl,I 9 37 rfl rfl]at E;simp[Aj,go_sem,ak]at E
  |11,_=>
   obtain⟨z,J⟩:=kM (.call { callee:=.value (.func 92),args:=#[cN 38],argTypes:=#[9] },Z) ho rfl;have hn:=R;rw[keep aB]at hn;exact Tj D aq _ _ _ _ _ _ _ _ _ _ _ _ _ _ _ _ ho (wn J) (eD _) z (by simp[I 10 38 rfl rfl,Aj]) hn
  |12,_=>
   obtain⟨z,J⟩:=kM (.move (cN 0),Z) ho rfl;refine go aB J (λw=>?_) λw e E=>?_
   .unfold bN;simp only[z,e0];rfl
   .unfold bN at E;simp only[z,e0]at E;simp[go_sem]at E
  |13,_=>
   obtain⟨z,J⟩:=kM (.move (cN 5),Z) ho rfl;refine go aB J (λw=>?_) λw e E=>?_
   .unfold bN;simp only[z,e5];rfl
   .unfold bN at E;simp only[z,e5]at E;simp[go_sem]at E
  |14,_=>
   obtain⟨z,J⟩:=kM (.binOp _ 3 (cN 41) _ 3,Z) ho rfl;refine go aB J (λw=>?_) λw e E=>?_
   .unfold bN;simp only[z,I 13 41 rfl rfl];simp[Aj,go_sem,ac,aa,ae]
   .unfold bN at E;simp only[z,I 13 41 rfl rfl]at E;simp[Aj,go_sem]at E
  |15,_=>
   obtain⟨z,J⟩:=kM (.index 9 (cN 40) (cN 42),Z) ho rfl;refine go aB J (λw=>?_) λw e E=>?_
   .unfold bN;simp only[z,I 12 40 rfl rfl,I 14 42 rfl rfl];simp[Aj,go_sem,ar]
   .unfold bN at E;simp only[z,I 12 40 rfl rfl,I 14 42 rfl rfl]at E;simp[Aj,go_sem,ao]at E
  |16,_=>
   obtain⟨z,J⟩:=kM (.binOp _ 5 (cN 43) _ 5,Z) ho rfl;refine go aB J (λw=>?_) λw e E=>?_
   .unfold bN;simp only[z,I 15 43 rfl rfl];simp[Aj,go_sem,av]
   .unfold bN at E;simp only[z,I 15 43 rfl rfl]at E;simp[Aj,go_sem]at E
  |17,_=>
   obtain⟨z,J⟩:=kM (.build 109 #[(0,cN 30),(1,cN 34),(2,cN 39),(3,cN 44)],Z) ho rfl;refine go aB J (λw=>?_) λw e E=>?_
   .unfold bN;simp only[z,fQ,eP,fP,I 2 30 rfl rfl,I 6 34 rfl rfl,I 11 39 rfl rfl,I 16 44 rfl rfl];simp[Aj,go_sem,bd]
   .unfold bN at E;simp only[z,fQ,eP,fP,I 2 30 rfl rfl,I 6 34 rfl rfl,I 11 39 rfl rfl,I 16 44 rfl rfl]at E;simp[Aj,go_sem]at E
  |18,_=>
   obtain⟨z,J⟩:=kM (.move (cN 5),Z) ho rfl;refine go aB J (λw=>?_) λw e E=>?_
   .unfold bN;simp only[z,e5];rfl
   .unfold bN at E;simp only[z,e5]at E;simp[go_sem]at E
  |19,_=>
   obtain⟨z,J⟩:=kM (.store 109 (cN 2) (cN 45),Z) ho rfl;have af:=AP hi;have hn:=R;simp only[jl6,af.1,af.2,if_true,if_false,bU]at hn⊢;exact Wc.st (j:=0) _ rfl ho (wn J) (eD _) (λw hl=>qB (hF.old (s:=2) XN ha.2.2.1) (I 17 45 rfl rfl) z w hl) hn
  |20,_=>
   obtain⟨z,J⟩:=kM (.assign (cN 46),Z) ho rfl;refine go aB J (λw=>?_) λw e E=>?_
   .unfold bN;simp only[z,I 18 46 rfl rfl];rfl
   .unfold bN at E;simp only[z,I 18 46 rfl rfl]at E;simp[go_sem]at E
  |21,_=>
   obtain⟨z,J⟩:=kM (.assign _,Z) ho rfl;refine go aB J (λw=>?_) λw e E=>?_
   .unfold bN;simp only[z];rfl
   .unfold bN at E;simp only[z]at E;simp[go_sem]at E
end
def TA(s:ByteArray)(hs:s.size<=16777216):Ret 146 #[bB s] (fv (one s.data.toList 0)):=by
 intro S m St K0 w0 L b a k cs ops i rest o xs a2 ho hw hk aj hx nx;refine Wc.call ho hw hk aj Tryz.func146 rfl rfl ?_;rw[hx];simp only[Tryz.ntmps146,dR,aU,bY,Nat.reduceAdd,Nat.reduceSub,dH,dG,dU,dI,dS,dN]
 have nx:Wc bA S m St K0 w0 L (G ((b.at a (bL ops (i::rest)::k)).finish (fv (one s.data.toList 0))) cs):=by
  rw[mz,ho];exact nx
 have hl:=rk s;obtain⟨R,hR⟩:∃R,one s.data.toList 0=R:=⟨_,rfl⟩
 rw[hR]at nx;generalize b.at a (bL ops (i::rest)::k)=cf at nx;have NX:Hid _:=nx;have el:=Ip;clear nx ho hw hk aj hx;refine Wc.seq (Wc.reg [0,1,2] rfl ?_);refine Wc.al (aG JC 109) (λn=>aD (M ⟨n,0,Z⟩)) rfl rfl (eD _) (λw hl=>⟨by simp[go_sem],λe he=>by simp[go_sem]at he⟩) λn=>?_;walk_nrm;by_cases h8:s.size<8
 .obtain rfl:R=Z:=hR.symm.trans (Fr.KN aA);have ar:(s.size:Int)<8:=by omega
  clear hl hR;refine Wc.go 30 λK w z=>?_
  iterate 2 u_op At.en z
  u_c aM At.en z
  iterate 2 u_c cE At.en z
  u_reg At.en z
  iterate 3 u_op At.en z
  u_c aM At.en z;u_cond aR At.en z;u_c cE At.en z;u_reg At.en z;u_op At.en z;refine cL λ_ E=>Wc.use ?_ (z.en E);clear z;refine Wc.st (j:=0) (aG JC 109) rfl rfl rfl (eD _) (λw hl=>qB rfl rfl rfl w hl) ?_;walk_nrm;refine Wc.go 30 λK w z=>?_
  iterate 2 u_op At.en z
  u_c aM At.en z;refine cL λ_ E=>Wc.use ?_ (z.en E);exact .ret λtodo=>qL rfl rfl rfl rfl NX.out
 have ar:¬(s.size:Int)<8:=aA
 have ae:(8:Int)<=(s.size:Int):=aA
 have e6:big (s.extract 6 8).data.toList 0 (s.extract 6 8).size=big s.data.toList 6 2:=by
  rw[Fr.ext_list,show(s.extract 6 8).size=2 from by simp[fA];omega];exact Fr.IU 6 2
 have e4:big (s.extract 4 6).data.toList 0 (s.extract 4 6).size=big s.data.toList 4 2:=by
  rw[Fr.ext_list,show(s.extract 4 6).size=2 from by simp[fA];omega];exact Fr.IU 4 2
 have e0:big (s.extract 0 4).data.toList 0 (s.extract 0 4).size=big s.data.toList 0 4:=by
  rw[Fr.ext_list,show(s.extract 0 4).size=4 from by simp[fA];omega];exact Fr.IU 0 4
 have n6:=wu (s.extract 6 8) (by simp[fA];omega);have n4:=wu (s.extract 4 6) (by simp[fA];omega);have n0:=wu (s.extract 0 4) (by simp[fA];omega);rw[e6]at n6;rw[e4]at n4;rw[e0]at n0;clear e6 e4 e0;have l6:=Fr.uD s.data.toList 6 2;have l0:=Fr.uD s.data.toList 0 4;have l4:=Fr.uD s.data.toList 4 2;simp only[Nat.reducePow]at l6 l0 l4;have I:s.size≠8->one s.data.toList 0=_:=λh=>Fr.abb (s:=s.data.toList) (p:=0) aA;simp only[fJ]at I;generalize hN:big s.data.toList 6 2=X1 at *;generalize av:big s.data.toList 0 4=C4 at *;generalize an:big s.data.toList 4 2=C2 at *;have N6:Hid _:=n6;have N4:Hid _:=n4;have N0:Hid _:=n0;have J:Hid _:=I;have Hl:Hid _:=hl;have HR:Hid _:=hR;clear n6 n4 n0 I hl hN av an hR;refine Wc.go 30 λK w z=>?_
 iterate 2 u_op At.en z
 u_c aM At.en z
 iterate 2 u_c cE At.en z
 u_reg At.en z
 iterate 3 u_op At.en z
 u_c aM At.en z;u_cond aL At.en z;u_c gF At.en z;u_c cE At.en z;u_reg At.en z;u_op At.en z;have ev:=λw es=>oJ s w es (CU s 6 8 w es aA aA ae);u_op At.en z;refine cL λ_ E=>Wc.use ?_ (z.en E);clear z ev;refine N6.out _ _ _ _ _ _ _ _ _ _ _ _ _ _ _ _ rfl rfl (eD _) rfl (by simp[kp]) ?_;walk_nrm;have a1:IntKind.i64.wrap (X1:Int)=X1:=by rw[eT];omega
 have ay:IntKind.i64.wrap (8+(X1:Int))=8+(X1:Int):=by rw[eT];omega
 have a0:IntKind.i64.wrap (8+(X1:Int)+1)=8+(X1:Int)+1:=by rw[eT];omega
 by_cases hn:s.size<9+X1
 .have ao:(s.size:Int)<8+(X1:Int)+1:=by omega
  obtain rfl:R=Z:=HR.out.symm.trans (by
   by_cases h:s.size=8
   .exact Fr.KN (by rw[<-Hl.out];omega)
   .rw[J.out h,ZD (by rw[<-Hl.out];exact hn)])
  refine Wc.go 40 λK w z=>?_
  iterate 4 u_op At.en z
  u_c aM At.en z
  iterate 2 u_c cE At.en z
  u_reg At.en z
  iterate 5 u_op At.en z
  iterate 5 u_skip At.en z
  u_op At.en z;u_c aM At.en z;u_cond aR At.en z;u_c cE At.en z;u_reg At.en z;u_op At.en z;refine cL λ_ E=>Wc.use ?_ (z.en E);clear z;refine Wc.st (j:=0) (aG JC 109) rfl rfl rfl (eD _) (λw hl=>qB rfl rfl rfl w hl) ?_;walk_nrm;refine Wc.go 30 λK w z=>?_
  iterate 2 u_op At.en z
  u_c aM At.en z;refine cL λ_ E=>Wc.use ?_ (z.en E);exact .ret λtodo=>qL rfl rfl rfl rfl NX.out
 have ao:¬(s.size:Int)<8+(X1:Int)+1:=aA
 have ac:8+X1<s.size:=aA
 have ai:=λu=>abZ u s (8+X1) _ ac aA;have a3:=λw es=>Ef s (8+X1) w es aA aA;have ah:=Fr.getD_byte s _ ac;obtain⟨c,hc⟩:∃c:Nat,s[8+X1].toNat=c:=⟨_,rfl⟩
 have a4:c<256:=by rw[<-hc];exact UInt8.toNat_lt _
 rw[hc]at ai;have Y:=J.out aA;rw[Zs (by rw[<-Hl.out];omega),ah,hc]at Y;have aa:Hid _:=Y;have aw:IntKind.i64.wrap (8+(X1:Int)+1-1)=8+(X1:Int):=by rw[eT];omega
 have az:8+(X1:Int)+1-1=8+(X1:Int):=aA
 clear ah hc Y J;by_cases ak:1<c
 .have af:(1:Int)<(c:Int):=by omega
  obtain rfl:R=Z:=HR.out.symm.trans (by rw[aa.out,ZD ak]);refine Wc.go 40 λK w z=>?_
  iterate 4 u_op At.en z
  u_c aM At.en z
  iterate 2 u_c cE At.en z
  u_reg At.en z
  iterate 11 u_op At.en z
  u_c aM At.en z;u_cond aR At.en z;u_c cE At.en z;u_reg At.en z;u_op At.en z;refine cL λ_ E=>Wc.use ?_ (z.en E);clear z;refine Wc.st (j:=0) (aG JC 109) rfl rfl rfl (eD _) (λw hl=>qB rfl rfl rfl w hl) ?_;walk_nrm;refine Wc.go 30 λK w z=>?_
  iterate 2 u_op At.en z
  u_c aM At.en z;refine cL λ_ E=>Wc.use ?_ (z.en E);exact .ret λtodo=>qL rfl rfl rfl rfl NX.out
 .have af:¬(1:Int)<(c:Int):=by omega
  obtain⟨lb,am⟩:∃lb:Bool,((c:Int) == 1)=lb:=⟨_,rfl⟩
  have ag:(c == 1)=lb:=by
   rw[<-am];rcases(by omega:c=0\/c=1)with rfl|rfl<;>rfl
  obtain⟨D,hD⟩:∃D:ByteArray,s.extract 8 (8+X1)=D:=⟨_,rfl⟩
  have ap:(⟨((s.data.toList.take (8+X1)).drop 8).toArray⟩:ByteArray)=D:=by rw[<-hD,<-Fr.ext_list]
  have aq:D.size<=16777216:=by rw[<-hD];simp[fA];omega
  have au:fv R=cQ #[.agg (LD C4 C2 D lb),N ab (8+(X1:Int)+1),cK aR]:=by
   rw[<-HR.out,aa.out,Zs ak,ag];simp only[fv,ap,LD]
   congr 5
   omega
  rw[au]at NX;refine Wc.go 40 λK w z=>?_
  iterate 4 u_op At.en z
  u_c aM At.en z
  iterate 2 u_c cE At.en z
  u_reg At.en z
  iterate 11 u_op At.en z
  u_c aM At.en z;u_cond aL At.en z;u_c gF At.en z;refine cL λ_ E=>Wc.use ?_ (z.en E);clear z;exact acP (c:=c) hs ae ac l4 ai am hD aq N4.out N0.out NX.out _ ⟨rfl,rfl,rfl,rfl,rfl⟩
end Cr
namespace Hm
open Go.RowKit Go.Joins
section
variable {g off cap:Nat}
def jX{w:U}{b:Nat}{z:Array X}{e:cG}{E:Nat×Nat}(h:w.heap[b]? =M (aG z e E))(i:Nat)(v:X):(w.setCell ⟨b,i,Z⟩ v).heap[b]? =M (aG (z.setIfInBounds i v) e E):=block_setCell h v
def oK:∀(vs:List X)(o:Nat){w:U}{b:Nat}{E:Array X}{e:cG}{I:Nat×Nat},w.heap[b]? =M (aG E e I)->
  ∃z,(w.setCells b o vs).heap[b]? =M (aG z e I)/\z.size=E.size/\(∀j,j<o\/o+vs.length<=j->z[j]? =E[j]?)/\∀j u,vs[j]? =M u->o+j<E.size->z[o+j]? =M u
 |[],o,w,b,E,e,I,h=>⟨E,h,rfl,λ_ _=>rfl,λj u J=>by simp at J⟩
 |v::vs,o,w,b,E,e,I,h=>by
  obtain⟨z,Y,h2,h3,h4⟩:=oK vs (o+1) (jX h o v);refine⟨z,Y,by rw[h2];simp,λj J=>?_,λj u J R=>?_⟩
  .grind
  grind
def kH(b:Nat):∀(vs:List X)(o:Nat)(w:U),w.grownBy (w.setCells b o vs) (M b)/\(w.setCells b o vs).heap.size=w.heap.size
 |[],o,w=>⟨⟨rfl,rfl,rfl,jB,λ_ _ _=>rfl⟩,rfl⟩
 |v::vs,o,w=>by
  obtain⟨h,hs⟩:=kH b vs (o+1) (w.setCell ⟨b,o,Z⟩ v);have E:(w.setCell ⟨b,o,Z⟩ v).heap.size=w.heap.size:=aC
  refine⟨⟨h.os.trans ?_,h.tape.trans ?_,h.output.trans ?_,by rw[oE,hs,E];exact jB,λk hk z=>(h.block k (by rw[E];exact hk) z).trans (mU _ _ _ _ (λI=>z (by rw[I])))⟩,by rw[oE,hs,E]⟩
  .rfl
  .rfl
  .rfl
def Row(w:U)(e s:Nat)(v:X)(n:Nat)(xs:List X):Prop:=
 xs.length=n*s/\((v=aH Z 0 0/\n=0)\/
  ∃g off cap z,v=aH (M ⟨g,off,Z⟩) n cap/\w.heap[g]? =M (aG z e (0,0))/\n<=cap/\cap<=maxLen/\off+cap*s<=z.size/\∀j u,xs[j]? =M u->z[off+j]? =M u)
section
variable {w w':U}{e s:Nat}{v:X}{n:Nat}{xs:List X}
def Row.slice(h:Row w e s v n xs):∃a cap,v=.slice a n cap:=by
 obtain⟨rfl,rfl⟩|⟨g,off,cap,z,rfl,_⟩:=h.2
 .exact⟨_,_,rfl⟩
 simp
def Row.pos(h:Row w e s v n xs)(I:0<n):∃g off cap,v=aH (M ⟨g,off,Z⟩) n cap/\n<=cap:=by
 obtain⟨rfl,rfl⟩|⟨g,off,cap,z,rfl,_,E,_⟩:=h.2
 .omega
 grind
def Row.obj(h:Row w e s v n xs)(E:v.ownBlock=M g):∃z,w.heap[g]? =M (aG z e (0,0)):=by
 obtain⟨rfl,_⟩|⟨g',off,cap,z,rfl,I,_⟩:=h.2
 .simp[cV]at E
 .simp[cV]at E
  grind
def Row.lt(h:Row w e s v n xs)(E:v.ownBlock=M g):g<↑w:=by
 obtain⟨z,hc⟩:=h.obj E
 grind
def Row.kept(h:Row w e s v n xs)(hk:∀g,v.ownBlock=M g->w'.heap[g]? =w.heap[g]?):Row w' e s v n xs:=by
 refine⟨h.1,?_⟩;obtain I|⟨g,off,cap,z,rfl,E,r⟩:=h.2
 .exact bE I
 .exact cD ⟨g,off,cap,z,rfl,(hk g rfl).trans E,r⟩
def Row.nil(w:U)(e s:Nat):Row w e s (aH Z 0 0) 0 []:=⟨aC,bE ⟨rfl,rfl⟩⟩
def Row.Yv{lo:Nat}(h:w.ownsRow lo e s v n xs):Row w e s v n xs:=by
 have z:=h.1;refine⟨z,?_⟩;obtain Y|⟨g,cap,E,rfl,hb,hh,I,J,aa,R⟩:=h.2
 .exact bE Y
 grind
def Row.cell(h:Row w e s v n xs)(z:v=aH (M ⟨g,off,Z⟩) n cap)(j:Nat)(u:X)(R:xs[j]? =M u):w.cell? ⟨g,off+j,Z⟩=M u:=by
 obtain⟨rfl,_⟩|⟨g',E,I,J,rfl,Y,_,_,_,hc⟩:=h.2
 .cases z
 .simp only[dT,aK,Addr.mk.injEq,and_true,true_and]at z;obtain⟨⟨rfl,rfl⟩,rfl⟩:=z;have:=hc j u R;simp[eB,Y,this]
def Row.frozen(h:Row w e s v n xs)(z:v=aH (M ⟨g,off,Z⟩) n cap)(i:Nat):w.frozen? ⟨g,i,Z⟩=aL:=by
 obtain⟨rfl,_⟩|⟨g',E,I,J,rfl,R,_⟩:=h.2
 .cases z
 .simp only[dT,aK,Addr.mk.injEq,and_true,true_and]at z;obtain⟨⟨rfl,rfl⟩,rfl⟩:=z;exact jj R i
def Row.append{P:cU}(h:Row w e s v n xs)(t ty:cG)(i:TypeInfo)(z:X)(bytes:Nat)(ht:P.underlying t=M (.slice e))(hi:P.info? e=M i)(hz:i.zero=M z)(I:i.size=s)(ag:i.bytes=bytes)(an:z.cells.size=s)(ak:0<s)(a:eM)(m c:Nat)(E:List X)(hm:0<m)(hl:E.length=m*s)(J:∀j u,E[j]? =M u->w.cell? (a.add j)=M u)(h1:∀u∈E,u.oneCell'=aR)(ae:n+m<=maxLen)(Y:(n+m)*bytes<=140737488355328):∃v' w',(jb #[t,t] ty #[v,aH (M a) m c]).run P w=.ok v' w'/\Row w' e s v' (n+m) (xs++E)/\(∃g off cap,v'=aH (M ⟨g,off,Z⟩) (n+m) cap)/\((v'.ownBlock=v.ownBlock/\w.grownBy w' v.ownBlock/\↑w'=w.heap.size)\/(v'.ownBlock=M w.heap.size/\w.grownBy w' Z/\↑w'=w.heap.size+1)):=by
 have aj:∀b cap R,R.length=n*s->(∀j u,R[j]? =M u->w.cell? (b.add j)=M u)->cap<n+m->
   ∃v' w',(jb #[t,t] ty #[aH (M b) n cap,aH (M a) m c]).run P w=.ok v' w'/\Row w' e s v' (n+m) (R++E)/\(∃g off cap,v'=aH (M ⟨g,off,Z⟩) (n+m) cap)/\v'.ownBlock=M w.heap.size/\w.grownBy w' Z/\↑w'=w.heap.size+1:=by
  intro b cap R ao holds hg;obtain⟨v',w',hr,ho,ah⟩:=run_append_arg_grows (P:=P) w t ty e i z s bytes ht hi hz I ag an ak b n cap R ao holds a m c E hl J hg ae Y;have aa:=run_append_grow (P:=P) w t ty e i z ht hi hz b n cap R (by rw[I];exact ao) holds a m c E (by rw[I];exact hl) J hg (by simp only[maxLen]at ae;omega) (growslice_fits hg (by rw[ag];exact Y));rw[hr]at aa;simp only[Result.ok.injEq]at aa;obtain⟨e1,e2⟩:=aa;exact⟨v',w',hr,.Yv ho,⟨_,_,_,e1⟩,by rw[e1];rfl,ah,by rw[e2];simp⟩
 obtain⟨rfl,rfl⟩|⟨g,off,cap,am,rfl,hh,a3,aq,au,hc⟩:=h.2
 .have hx:xs=[]:=bP (by simpa using h.1);subst hx;obtain⟨v',w',hr,ho,ah,a0⟩:=run_append_own (P:=P) w _ t ty e i z s bytes ht hi hz I ag an ak _ 0 [] (World.ownsRow_nil w _ e s) a m c E hl J h1 ae Y jB;have ar:Row w' e s v' (0+m) ([]++E):=.Yv ho;obtain⟨rfl,h0⟩|⟨g,cap,am,rfl,ay,hh,_⟩:=ho.2
  .omega
  .refine⟨_,w',hr,ar,⟨_,_,_,rfl⟩,cD ?_⟩
   have ai:↑w'=w.heap.size+1:=by
    have aa:=run_append_nil (P:=P) w t ty e i z ht hi hz a m c E (by rw[I];exact hl) J aA (by simp only[maxLen]at ae;omega) (by grind);rw[hr]at aa;simp only[Result.ok.injEq]at aa;rw[aa.2];simp
   have az:=(jE hh)
   exact⟨by simp[cV];omega,ah,ai⟩
 .by_cases ac:n+m<=cap
  .have aw:n*s+E.length=(n+m)*s:=by rw[hl,iP]
   have a4:(n+m)*s<=cap*s:=fK _ ac
   have af:∀j,j<E.length->(w.cell? ⟨g,off+n*i.size+j,Z⟩).isSome=aR:=λj hj=>by
    have:off+n*i.size+j<am.size:=by rw[I];omega
    simp[eB,hh,dA this]
   have hr:=run_append_room_cells (P:=P) w t ty e i ht hi g off n cap a m c E (by rw[I];exact hl) J h1 ac af (λj _=>jj hh _);rw[I]at hr;obtain⟨ap,k1,k2,k3,k4⟩:=oK E (off+n*s) hh;refine⟨_,_,hr,⟨by rw[aS,h.1,hl,iP],cD ⟨g,off,cap,ap,rfl,k1,ac,aq,by rw[k2];exact au,λj u hj=>?_⟩⟩,⟨_,_,_,rfl⟩,bE ⟨rfl,(kH g E _ w).1,(kH g E _ w).2⟩⟩
   .by_cases av:j<xs.length
    .rw[bZ av]at hj;rw[k3 (off+j) (bE (by rw[<-h.1];omega))];exact hc j u hj
    .rw[bV aA]at hj;have a2:=(aN.1 hj).1;have a1:=h.1
     grind
  .obtain⟨v',w',hr,h2,h3,h4,h5,h6⟩:=aj ⟨g,off,Z⟩ cap xs h.1 (λj u hj=>by
    have:=h.cell rfl j u hj;unfold Addr.add
    grind) aA
   grind
end
end
end Hm
namespace Cr
open Go Go.Conc Go.ConcN Go.RowKit Go.Conc.Lib Go.ConcR.Gen Go.ConcN.Gen
open Go.ConcR (KK WgAt stA smA Payload DC0)
open Fr (F flat)
section
variable {v:X}{fs:List F}{R:List (Nat×nL)}
def zq(v:X)(fs:List F)(R:List (Nat×nL)):Prop:=
 (v=aH Z 0 0/\fs=[]/\R=[])\/∃g cap z,v=aH (M ⟨g,0,Z⟩) fs.length cap/\R=[(g,aG z 109)]/\fs.length<=cap/\cap<=maxLen/\z.size=cap*4/\z.toList.take (fs.length*4)=flat fs
def zq.slice(h:zq v fs R):∃a c,v=.slice a fs.length c:=by rcases h with⟨rfl,rfl,_⟩|⟨g,cap,z,rfl,_⟩<;>exact⟨_,_,rfl⟩
abbrev Ey(x:F):Array X:=LD x.chan x.num ⟨x.data.toArray⟩ x.last
def Qs:(Tryz.prog.info? 109).map (λi=>(i.zero,i.size,i.bytes))=M (M (.agg JC),4,32):=XN
def abf{A L0:List (Nat×nL)}{n0 n3:Nat}{x:F}{w:U}(hR:zq v fs R)(hl:Lies (A++(R++L0)) n0 w)(am:(n3,aG (Ey x) 109)∈A)(a2:fs.length<1048576):∃v' w' R',(jb #[106,106] 106 #[v,aH (M ⟨n3,0,Z⟩) 1 1]).run bA w=.ok v' w'/\zq v' (fs++[x]) R'/\∀es:Array jz,(∀e∈es,e∈(jb #[106,106] 106 #[v,aH (M ⟨n3,0,Z⟩) 1 1]).events bA w #[])->Turn (A++(R++L0)) (A++(R'++L0)) w w' es:=by
 obtain⟨ie,hi,ae,ah,ag⟩:∃i,Tryz.prog.info? 109=M i/\i.zero=M (.agg JC)/\i.size=4/\i.bytes=32:=by
  have:=Qs;cases h:Tryz.prog.info? 109 with
  |none=>grind
  |some i=>
   grind
 have Y:=λp hp=>(hl.mem p hp).2;have h3:=Y _ (qi _ am);have an:=Fr.flat_length fs
 have aa:w.ownsRow 0 109 4 v fs.length (flat fs):=by
  refine⟨an,hR.imp (λh=>⟨h.1,by rw[h.2.1];rfl⟩) ?_⟩;rintro⟨g,cap,z,e,rfl,r⟩;exact⟨g,cap,z,e,dL _,Y (g,aG z 109) aC,r⟩
 have ao:Hm.Row w 109 4 v fs.length (flat fs):=by
  refine⟨an,hR.imp (λh=>⟨h.1,by rw[h.2.1];rfl⟩) ?_⟩;rintro⟨g,cap,z,e,rfl,r1,r2,r3,r4⟩;refine⟨g,0,cap,z,e,Y (g,aG z 109) aC,r1,r2,aA,λj u hj=>?_⟩;rw[<-r4]at hj;rw[fJ,<-Array.getElem?_toList]
  have au:j<fs.length*4:=by
   have:=(aN.1 hj).1;rw[bK]at this;omega
  rw[iI au]at hj;exact hj
 have ai:(Ey x).toList.length=1*4:=rfl
 have J:∀j u,(Ey x).toList[j]? =M u->w.cell? ((⟨n3,0,Z⟩:eM).add j)=M u:=λj u hj=>by
  rw[show(⟨n3,0,Z⟩:eM).add j=⟨n3,j,Z⟩ from by unfold Addr.add;split<;>simp_all,eR h3];simpa using hj
 have I:∀u∈(Ey x).toList,u.oneCell'=aR:=λu hu=>by
  simp only[dD,List.not_mem_nil,or_false]at hu;rcases hu with rfl|rfl|rfl|rfl<;>rfl
 have af:fs.length+1<=maxLen:=by unfold maxLen;omega
 obtain⟨v',w',hr,ho,hg,a3⟩:=run_append_own (P:=bA) w 0 106 106 109 ie _ 4 32 lR hi ae ah ag rfl aA v _ _ aa _ 1 1 _ ai J I af aA (dL _);obtain⟨a7,a6,ac,_,⟨g2,a4,a5,az⟩,ar⟩:=ao.append (P:=bA) 106 106 ie _ 32 lR hi ae ah ag rfl aA _ 1 1 _ aA ai J I af aA;rw[hr]at ac;simp only[Result.ok.injEq]at ac;obtain⟨rfl,rfl⟩:=ac;have a1:=events_append_where (P:=bA) w 0 106 106 109 ie _ 4 32 lR hi ae ah ag v _ _ aa _ 1 1 _ ai J I af aA
 obtain⟨g',aj,E,aq,_,ak,a8,aw,ay,av⟩:∃g cap z,v'=aH (M ⟨g,0,Z⟩) (fs.length+1) cap/\0<=g/\w'.heap[g]? =M (aG z 109 (0,0))/\fs.length+1<=cap/\cap<=maxLen/\z.size=cap*4/\z.toList.take ((fs.length+1)*4)=flat fs++(Ey x).toList:=by
  obtain⟨h,_⟩|h:=ho.2
  .rw[az]at h;cases h
  .exact h
 refine⟨v',w',_,hr,cD ⟨g',aj,E,by grind,rfl,by grind,aw,ay,by rw[aS,Fr.zT];exact av⟩,λes a0=>?_⟩
 have ap:∀g,v.ownBlock=M g->∃ob,R=[(g,ob)]:=λg hg=>by
  obtain⟨rfl,_⟩|⟨g',cap,z,rfl,rfl,_⟩:=hR
  .cases hg
  .cases hg;exact⟨_,rfl⟩
 have hE:∀{X1 N':Nat},∀e∈es,EvA (A++(R++L0)) X1 N' e:=λe he=>by
  have he:=a0 e he;obtain⟨ad,I,⟨_,h2⟩|h2⟩|⟨mk,rfl,h2⟩:=a1 e he
  .exact WX (Ol (Mc) he) I ⟨_,qi _ am,h2.symm⟩
  .obtain⟨ob,rfl⟩:=ap _ h2.symm;exact WX (Ol (Mc) he) I ⟨(ad.block,ob),aC,rfl⟩
  .unfold Neutral at h2;subst h2;exact cD (cD (bE ⟨_,_,rfl⟩))
 obtain⟨I,h2,h3⟩|⟨I,h2,h3⟩:=ar
 .rw[aq]at I;have I:M g'=v.ownBlock:=I;obtain⟨ob,rfl⟩:=ap _ I.symm;have:=Turn.set (i:=A.length) (o':=aG E 109) (w0:={ w with heap:=lO n0 default }) (es:=es) (by simpa using hl) (show(A++([(g',ob)]++L0))[A.length]? =M (g',ob) by simp) h3 (λy hy=>?_) ak h2.tape h2.os h2.output hE
  .simpa using this
  .obtain h|h:=gG y ↑w
   .exact h2.block y h λe=>hy (by grind)
   grind
 .rw[aq]at I;have I:M g'=M w.heap.size:=I;cases I;have ht:=Turn.lay (w0:={ w with heap:=lO n0 default }) (es:=es) (by simpa using hl) h3 (λy hy=>h2.block y hy aC) ak h2.tape h2.os h2.output hE;have hs:(A++(w.heap.size,aG E 109)::L0).Sublist (A++(w.heap.size,aG E 109)::(R++L0)):=(iO A).append (.cons_cons _ (pE _ _));have hp:((w.heap.size,aG E 109)::(A++(R++L0))).Perm (A++(w.heap.size,aG E 109)::(R++L0)):=List.perm_middle.symm;exact⟨ht.tape,ht.os,ht.output,ht.size,ht.block,λp hp'=>ht.mem p (hp.mem_iff.2 (hs.subset hp')),((hp.pairwise_iff λh=>mn h).1 ht.ord).sublist hs,ht.events⟩
end
end Cr
namespace Cr
open Go Go.Conc Go.ConcN Go.RowKit Go.Conc.Lib Go.ConcR.Gen Go.ConcN.Gen
open Go.ConcR (KK WgAt stA smA Payload DC0)
open Fr (F flat one fv frames)
variable {n j:Nat}{w:U}{v v':X}{t:cG}{p:jN}
def o9(o:ij):Bool:=match o.op with|.defer _=>aL|_=>aR
def o9.out{o:ij}(h:o9 o=aR)(c:Go.Call):o.op≠.defer c:=λe=>by simp[o9,e]at h
section
variable {S:Who}{m:Nat}{St:kC->cA->U->Prop}{K0:kC}{w0:U}{L L0:List (Nat×nL)}{b:cR}{a:Act}{k:List pS}{cs:List cR}{ops:Array ij}{i:Nat}{rest:List Nat}{o:ij}
def QO{X1 z i:Nat}{ob:nL}{wr:Bool}(h:L[j]? =M (n,ob)):EvA L X1 z ⟨.cell ⟨n,i,Z⟩,wr,aL⟩:=bE ⟨_,_,rfl,bE ⟨_,aX h,rfl⟩⟩
def Wc.rdR(v:X)(ho:ops[i]? =M o)(hw:cP o (yielded ops a.tmps)=aR)(hk:b.kind≠.early)(hd:o9 o=aR)(h:∀w,Lies L ↑w0 w->(bN a.eval o).run bA w=.ok (.value v) w/\∀e∈(bN a.eval o).events bA w #[],EvA L ↑w ↑w e)(E:Wc bA S m St K0 w0 L (G (b.atR (a.put o.dst v) (bL ops rest::k)) cs)):Wc bA S m St K0 w0 L (G (b.atR a (bL ops (i::rest)::k)) cs):=
 .opR ho hw hk (o9.out hd) λw z=>⟨v,w,L,bE (h w z).1,.still z λe I=>(h w z).2 e (gN I),E⟩
def Wc.alR(ob:nL)(v:Nat->X)(ho:ops[i]? =M o)(hw:cP o (yielded ops a.tmps)=aR)(hk:b.kind≠.early)(hd:o9 o=aR)(h:∀w,Lies L ↑w0 w->(bN a.eval o).run bA w=.ok (.value (v ↑w)) (w.alloc ob)/\∀e∈(bN a.eval o).events bA w #[],EvA L ↑w (w.heap.size+1) e)(E:∀n,Wc bA S m St K0 w0 ((n,ob)::L) (G (b.atR (a.put o.dst (v n)) (bL ops rest::k)) cs)):Wc bA S m St K0 w0 L (G (b.atR a (bL ops (i::rest)::k)) cs):=
 .opR ho hw hk (o9.out hd) λw z=>⟨_,_,_,bE (h w z).1,.alloc z ob λe I=>(h w z).2 e (gN I),E _⟩
def Wc.stR{B:Nat}{ob:nL}(z:nL)(J:L[j]? =M (B,ob))(ho:ops[i]? =M o)(hw:cP o (yielded ops a.tmps)=aR)(hk:b.kind≠.early)(hd:o9 o=aR)(h:∀w,Lies L ↑w0 w->(bN a.eval o).run bA w=.ok .skip (w.putObj B z)/\∀e∈(bN a.eval o).events bA w #[],EvA L ↑w ↑w e)(I:Wc bA S m St K0 w0 (L.set j (B,z)) (G (b.atR (a.put o.dst aE) (bL ops rest::k)) cs)):Wc bA S m St K0 w0 L (G (b.atR a (bL ops (i::rest)::k)) cs):=
 .opR ho hw hk (o9.out hd) λw E=>⟨_,_,_,cD ⟨(h w E).1,rfl⟩,.put E J λe R=>(h w E).2 e (gN R),I⟩
def DN(I:L[j]? =M (n,aG #[v] t))(J:Lies L ↑w0 w)(hp:a.eval p=aD (M ⟨n,0,Z⟩))(z:o.op=.load t p)(ht:t=106\/t=3\/t=9):(bN a.eval o).run bA w=.ok (.value v) w/\∀e∈(bN a.eval o).events bA w #[],EvA L ↑w ↑w e:=by
 have h:=oG J I;have c0:w.cell? ⟨n,0,Z⟩=M v:=by simp[eB,h]
 unfold bN;simp only[z,hp];rcases ht with rfl|rfl|rfl<;>
 .refine⟨by simp[go_sem,c0],λe E=>?_⟩;simp[go_sem,c0]at E;subst E;exact QO I
def P5{q:jN}(E:L[j]? =M (n,aG #[v] t))(Y:Lies L ↑w0 w)(hp:a.eval p=aD (M ⟨n,0,Z⟩))(R:a.eval q=v')(z:o.op=.store t p q)(ht:(∃a k c,v'=.slice a k c/\t=106)\/∃e,v'=N ab e/\t=3):(bN a.eval o).run bA w=.ok .skip (w.putObj n (aG #[v'] t))/\∀e∈(bN a.eval o).events bA w #[],EvA L ↑w ↑w e:=by
 have h:=oG Y E;have c0:w.cell? ⟨n,0,Z⟩=M v:=by simp[eB,h]
 have J:w.frozen? ⟨n,0,Z⟩=aL:=jj h 0;have hs:w.setCell ⟨n,0,Z⟩ v'=w.putObj n (aG #[v'] t):=TD h;unfold bN;simp only[z,hp,R,<-hs];rcases ht with⟨a,k,c,rfl,rfl⟩|⟨e,rfl,rfl⟩<;>
 .refine⟨by simp[go_sem,stored,c0,J],λe I=>?_⟩;simp[go_sem,stored,storedEv,c0,J,pw _ _ _ _ _ _ (show(aH _ _ _).oneCell'=aR from rfl)]at I;subst I;exact QO E
def E5{w':U}{xv:X}{s x:jN}{t:cG}(ho:o.op=.call { callee:=.builtin .append,args:=#[s,x],argTypes:=#[t,t] })(hs:a.eval s=v)(E:a.eval x=xv)(z:(jb #[t,t] o.type #[v,xv]).run bA w=.ok v' w'):(bN a.eval o).run bA w=.ok (.value v') w':=by
 unfold bN;simp only[ho,resolve,invoke,builtin,Sem.run_bind,Sem.run_pure,Result.andThen_ok,fQ,eP,fP,hs,E,z]
def VW(w:U)(x:F):(lL 106 1 #[(0,.agg (Ey x))]).run bA w=.ok (aH (M ⟨↑w,0,Z⟩) 1 1) (w.alloc (aG (Ey x) 109))/\(lL 106 1 #[(0,.agg (Ey x))]).events bA w #[]=#[]:=by
 obtain⟨J,R,I,z,Y⟩:∃i,Tryz.prog.info? 109=M i/\i.zero=M (.agg JC)/\i.size=4/\i.bytes=32:=by
  have:=Qs;cases h:Tryz.prog.info? 109 with
  |none=>grind
  |some i=>
   grind
 have E:Instr.fill (λi=>M (i*J.size,J.size)) ((Array.range (1*J.size)).map ((Value.agg JC).cells[· % (Value.agg JC).cells.size]!)) (#[(0,Value.agg (Ey x))]:Array (Nat×X)).toList=M (Ey x):=by rw[z];kernel_rfl
 refine⟨run_buildSlice w _ _ 1 _ _ J _ lR R I (by rw[z];decide) (by rw[z];decide) E,?_⟩;have E:Instr.fill (λi=>M (i*4,4)) (Array.map (λx=>(Value.agg JC).cells[x%(Value.agg JC).cells.size]!) (Array.range 4)) [(0,.agg (Ey x))]=M (Ey x):=by rw[z]at E;exact E
 simp[E,lL,eJ lR,sizeOf,typeInfo,zeroValue,R,I,z,newRow]
def MO{c0 n0:Int}{I:ByteArray}{J:Bool}(R:L[j]? =M (n,aG (LD c0 n0 I J) 109))(hl:Lies L ↑w0 w)(hp:a.eval p=aD (M ⟨n,0,Z⟩))(z:o.op=.load 109 p):(bN a.eval o).run bA w=.ok (.value (.agg (LD c0 n0 I J))) w/\∀e∈(bN a.eval o).events bA w #[],EvA L ↑w ↑w e:=by
 have h:=oG hl R;have c0:=eR h 0;have c1:=eR h 1;have E:=eR h 2;have c3:=eR h 3;unfold bN;simp only[z,hp];refine⟨by simp[go_sem,c0,c1,E,c3],λe Y=>?_⟩;simp[go_sem,c0,c1,E,c3]at Y;rcases Y with rfl|rfl|rfl|rfl<;>exact QO R
noncomputable def YI:eE:=match Tryz.f112.body with
 |some (bR _ (bR _ (bR _ (bR _ (bR _ (bR (bR _ (.block _ (.rangeFunc _ _ c _))) _))))))=>c
 |_=>.skip
noncomputable def VT:eE:=match Tryz.f112.body with
 |some (bR _ (bR _ (bR _ (bR _ (bR _ (bR (bR _ (.block _ (.rangeFunc _ _ _ c))) _))))))=>c
 |_=>.skip
noncomputable def ftl:eE:=match Tryz.f112.body with
 |some (bR _ (bR _ (bR _ (bR _ (bR _ (bR _ c))))))=>c
 |_=>.skip
def UG{u0 u1 u2 u3 u4 u7 u8 u9 ae ac a4 az aw au ao aj ap a0 av ar a2 ah a3 aa am ai ak a1 ay aq af an ag:X}{l d sb E F p e:Nat}{T:ByteArray}{fs:List Fr.F}{x:Fr.F}{R:List (Nat×nL)}{r:Loop}{c:cR}(a8:r.state=.ready)(a9:r.pending=Z)(hR:zq v fs R)(a7:fs.length<1048576)(nx:∀v' R',zq v' (fs++[x]) R'->Wc bA S m St K0 w0 ((l,.loop r)::(d,eI (M []))::(sb,aG #[bB T] 9)::(E,aG #[N ab e] 3)::(F,aG #[v'] 106)::(R'++L0)) (G (c.finish (cK aR)) cs)):Wc bA S m St K0 w0 ((l,.loop r)::(d,eI (M []))::(sb,aG #[bB T] 9)::(E,aG #[N ab p] 3)::(F,aG #[v] 106)::(R++L0)) (G (Frame.round l 112 #[u0,u1,u2,u3,u4,aD (M ⟨F,0,Z⟩),aD (M ⟨E,0,Z⟩),u7,u8,u9,ae,ac,a4,az,aw,au,ao,aj,ap,a0,N ab e,.agg (Ey x),av,ar,a2,ah,a3,aa,am,ai,ak,a1,ay,aq,af,an,ag] YI VT .normal) (c::cs)):=by
 rw[show Frame.round l 112 #[u0,u1,u2,u3,u4,aD (M ⟨F,0,Z⟩),aD (M ⟨E,0,Z⟩),u7,u8,u9,ae,ac,a4,az,aw,au,ao,aj,ap,a0,N ab e,.agg (Ey x),av,ar,a2,ah,a3,aa,am,ai,ak,a1,ay,aq,af,an,ag] YI VT .normal=Frame.atR { base 112 with roundOf:=M l } { tmps:=#[u0,u1,u2,u3,u4,aD (M ⟨F,0,Z⟩),aD (M ⟨E,0,Z⟩),u7,u8,u9,ae,ac,a4,az,aw,au,ao,aj,ap,a0,N ab e,.agg (Ey x),av,ar,a2,ah,a3,aa,am,ai,ak,a1,ay,aq,af,an,ag],defers:=[] } [.code YI,.beginRound,.code VT] from rfl];obtain⟨bb,Y⟩:∃bb,bb=({ base 112 with roundOf:=M l }:cR):=⟨_,rfl⟩
 have hk:bb.kind=.normal:=by rw[Y];rfl
 have z:bb.kind≠.early:=by rw[hk];decide
 have a5:bb.roundOf=M l:=by rw[Y]
 rw[<-Y];clear Y;have NX:Hid _:=nx;clear nx;rw[show YI=bR _ _ from rfl];refine Wc.aft (Wc.aaP [0] rfl ?_);refine Wc.rdR (.int _ e) rfl rfl z rfl (λw _=>⟨rfl,λe J=>by simp[go_sem]at J⟩) ?_;walk_nrm;refine Wc.Sj (Wc.aaP [0,1] rfl ?_);refine Wc.alR (aG JC 109) (λn=>aD (M ⟨n,0,Z⟩)) rfl rfl z rfl (λw I=>⟨by simp[go_sem],λe J=>by simp[go_sem]at J⟩) λfb=>?_;walk_nrm;refine Wc.stR (j:=0) (aG (Ey x) 109) rfl rfl rfl z rfl (λw I=>qB rfl rfl rfl w I) ?_;walk_nrm;refine Wc.Sj (Wc.begin (j:=1) rfl a8 a5 z ?_);rw[show VT=.block 1 (bR _ _) from rfl];refine Wc.acF (Wc.aft (Wc.aaP [0,1,2,3,4] rfl ?_));refine Wc.rdR v rfl rfl z rfl (λw I=>DN (j:=5) rfl I rfl rfl (bE rfl)) ?_;walk_nrm;refine Wc.rdR (.agg (Ey x)) rfl rfl z rfl (λw I=>MO (j:=0) rfl I rfl rfl) ?_;walk_nrm;refine Wc.alR (aG (Ey x) 109) (λn=>aH (M ⟨n,0,Z⟩) 1 1) rfl rfl z rfl (λw I=>?_) λn3=>?_
 .have h:=VW w x;refine⟨by simp[go_sem,h.1],λe J=>?_⟩;simp[go_sem,h.2]at J
 walk_nrm;refine Wc.opR rfl rfl z (o9.out rfl) λw I=>?_;obtain⟨v',w',R',h1,a6,h2⟩:=abf (A:=[(n3,aG _ 109),(fb,aG _ 109),(l,.loop _),(d,.deferred _),(sb,aG _ 9),(E,aG _ 3),(F,aG _ 106)]) (n3:=n3) hR I (.head _) a7;refine⟨v',w',_,bE (E5 rfl rfl rfl h1),h2 _ λe J=>by have J:=gN J;rw[events_append_op (v:=v) (xv:=aH (M ⟨n3,0,Z⟩) 1 1) (cN 22) (cN 24) 106 rfl rfl rfl]at J;exact J,?_⟩;clear h1 h2 I;obtain⟨va,vc,hv⟩:=a6.slice;walk_nrm;refine Wc.stR (j:=6) (aG #[v'] 106) rfl rfl rfl z rfl (λw I=>P5 (j:=6) rfl I rfl rfl rfl (bE ⟨_,_,_,hv,rfl⟩)) ?_;walk_nrm;refine Wc.Sj (Wc.aaP [0,1] rfl ?_);refine Wc.rdR (.int _ e) rfl rfl z rfl (λw _=>⟨rfl,λe J=>by simp[go_sem]at J⟩) ?_;walk_nrm;refine Wc.stR (j:=5) (aG #[.int _ e] 3) rfl rfl rfl z rfl (λw I=>P5 (j:=5) rfl I rfl rfl rfl (cD ⟨_,rfl,rfl⟩)) ?_;walk_nrm;refine Wc.Sj (Wc.VY (Wc.ag5 (j:=2) rfl a5 hk ?_));refine Wc.drop (.cons _ (.cons _ (iO _))) ?_;have hr:({ ({ r with state:=.busy }:Loop)with state:=.ready,pending:=Z }:Loop)=r:=by cases r;simp_all
 rw[hr];exact NX.out v' R' a6
end
end Cr
namespace Cr
open Go Go.Conc Go.ConcN Go.RowKit Go.Conc.Lib Go.ConcR.Gen Go.ConcN.Gen
open Go.ConcR (KK WgAt stA smA Payload DC0)
open Fr (F flat one fv frames Vk)
noncomputable def YP:eE:=match Tryz.f145.body with
 |some (bR _ (.block _ (.loop c)))=>c
 |_=>.skip
section
variable {S:Who}{m:Nat}{St:kC->cA->U->Prop}{K0:kC}{w0:U}{L0:List (Nat×nL)}{cs:List cR}
abbrev fTA(s T:ByteArray)(F E sb:Nat)(x y:X):Array X:=#[bB s,aE,aH Z 0 0,cK aL,bB T,aD (M ⟨F,0,Z⟩),aD (M ⟨E,0,Z⟩),aE,aE,bB s,cK aL,cK aL,bB s,N .u8 0,cK aL,cK aL,bB s,bB T,bB T,.func (.func 145) #[] #[aD (M ⟨sb,0,Z⟩)],x,y,aE,aE,aE,aE,aE,aE,aE,aE,aE,aE,aE,aE,aE,aE,aE]
noncomputable abbrev aaN(s T:ByteArray)(F E sb d:Nat):Loop:={ state:=.ready,pending:=Z,fn:=112,tmps:=fTA s T F E sb aE aE,params:=#[20,21],assign:=YI,body:=VT,defers:=d }
noncomputable abbrev fLs(s T:ByteArray)(F E sb d l p:Nat)(v:X)(R:List (Nat×nL)):List (Nat×nL):=(l,.loop (aaN s T F E sb d))::(d,eI (M []))::(sb,aG #[bB T] 9)::(E,aG #[N ab p] 3)::(F,aG #[v] 106)::R
def Ut{s T:ByteArray}{l d sb E F:Nat}{b:cR}{a:Act}{k:List pS}(hT:T.size<=1048576)(nx:∀v fs R p,zq v fs R->Vk T.data.toList fs p->one T.data.toList p=Z->Wc bA S m St K0 w0 (fLs s T F E sb d l p v (R++L0)) (G (b.at a (.endRangeFunc l::k)) cs)):∀r p,T.size-p<r->∀v fs R,zq v fs R->Vk T.data.toList fs p->∀u4 u5 u6 u7 u8 u9 ac aa au ap ao am ai ah aj ar ae ag an ak af:X,Wc bA S m St K0 w0 (fLs s T F E sb d l p v (R++L0)) (G ((base 145).at { tmps:=#[.func (.yield l) #[] #[],aD (M ⟨sb,0,Z⟩),aE,N ab p,u4,u5,u6,u7,u8,u9,ac,aa,au,ap,ao,am,ai,ah,aj,ar,ae,ag,an,ak,af],defers:=[] } [.code YP,.inLoop YP,.inBlock 0]) (b.at a (.inRangeFunc l::k)::cs)):=by
 intro r
 induction r with
 |zero=>intro p hr;omega
 |succ r ih=>
  intro p hr v fs R hR hA u4 u5 u6 u7 u8 u9 ac aa au ap ao am ai ah aj ar ae ag an ak af;have aq:=hA.le;rw[<-rk]at aq;have ay:(0:Int)<=(p:Int):=aA
  have av:(p:Int)<=T.size:=aA
  have Y:=TA (T.extract p T.size) aF;rw[show(T.extract p T.size).data.toList=T.data.toList.drop p by rw[Fr.ext_list,eH aC],<-Fr.BK _ _ (by rw[<-rk];exact aq.1)]at Y;have ev:=λw es=>oJ T w es (Ci T p w es ay av);rw[show YP=.block 1 (bR _ _) from rfl];refine Wc.block (Wc.seq (Wc.reg [0,1,2,3,4,5,6,7,8,9,10,11] rfl ?_));refine Wc.rd _ rfl rfl (eD _) (λw J=>DN (j:=2) rfl J rfl rfl (cD (cD rfl))) ?_;walk_nrm;have HR:Hid _:=hR;have HA:Hid _:=hA;have NX:Hid _:=nx;have IH:Hid _:=ih;have HF:Hid _:=Y;clear hR hA nx ih Y;refine Wc.go 50 λK w z=>?_
  iterate 2 u_op At.en z
  refine cL λ_ I=>Wc.use ?_ (z.en I);clear z;refine HF.out _ _ _ _ _ _ _ _ _ _ _ _ _ _ _ _ rfl rfl (eD _) rfl (by simp[kp]) ?_;walk_nrm;generalize hC:one T.data.toList p=C;cases C with
  |none=>
   simp only[fv];refine Wc.go 50 λK w z=>?_
   iterate 4 u_op At.en z
   refine cL λ_ I=>Wc.use ?_ (z.en I);clear z;refine Wc.al (aG JC 109) (λn=>aD (M ⟨n,0,Z⟩)) rfl rfl (eD _) (λw J=>⟨by simp[go_sem],λe he=>by simp[go_sem]at he⟩) λfb=>?_;walk_nrm;refine Wc.st (j:=0) (aG JC 109) rfl rfl rfl (eD _) (λw J=>qB rfl rfl rfl w J) ?_;walk_nrm;refine Wc.go 50 λK w z=>?_
   iterate 2 u_op At.en z
   u_c aM At.en z
   iterate 2 u_c cE At.en z
   u_reg At.en z
   iterate 2 u_op At.en z
   u_c aM At.en z;u_cond aR At.en z;refine cL λ_ I=>Wc.use ?_ (z.en I);clear z;refine .ret λtodo=>.back _ rfl rfl rfl Tryz.func145 (λw=>⟨results_none rfl _ _ _,by simp[results,Tryz.results145]⟩) (Wc.drop (iT _ _) (NX.out _ _ _ _ HR.out HA.out hC))
  |some x=>
   obtain⟨f,n⟩:=x;have ho:=Fr.one_le hC;rw[<-rk]at ho;simp only[fv];refine Wc.go 50 λK w z=>?_
   iterate 4 u_op At.en z
   refine cL λ_ I=>Wc.use ?_ (z.en I);clear z;refine Wc.al (aG JC 109) (λn=>aD (M ⟨n,0,Z⟩)) rfl rfl (eD _) (λw J=>⟨by simp[go_sem],λe he=>by simp[go_sem]at he⟩) λfb=>?_;walk_nrm;refine Wc.st (j:=0) (aG (Ey f) 109) rfl rfl rfl (eD _) (λw J=>qB rfl rfl rfl w J) ?_;walk_nrm;refine Wc.go 50 λK w z=>?_
   iterate 2 u_op At.en z
   u_c aM At.en z
   iterate 2 u_c cE At.en z
   u_reg At.en z
   iterate 2 u_op At.en z
   u_c aM At.en z;u_cond aL At.en z;u_c gF At.en z;u_c cE At.en z;u_reg At.en z
   iterate 4 u_op At.en z
   u_c aM At.en z;u_c cE At.en z;u_reg At.en z
   iterate 2 u_op At.en z
   refine cL λ_ I=>Wc.use ?_ (z.en I);clear z;refine Wc.rd (.agg (Ey f)) rfl rfl (eD _) (λw J=>MO (j:=0) rfl J rfl rfl) ?_;walk_nrm;rw[show IntKind.i64.wrap ((p:Int)+n)=((p+n:Nat):Int) by rw[eT];omega];refine Wc.yield (j:=1) rfl rfl rfl (eD _) rfl rfl rfl ?_;refine Wc.drop (iT _ _) ?_;have ht:((aaN s T F E sb d).params.zip #[N ab ((p+n:Nat):Int),.agg (Ey f)]).foldl (λtmps (t,a)=>tmps.setIfInBounds t a) (aaN s T F E sb d).tmps=fTA s T F E sb (N ab ((p+n:Nat):Int)) (.agg (Ey f)):=XN
   walk_nrm;rw[ht];refine UG (r:=aaN s T F E sb d) (x:=f) (e:=p+n) rfl rfl HR.out aA λv' R' aw=>?_;rw[mz];walk_nrm;refine Wc.go 50 λK w z=>?_;u_op At.en z;u_c aM At.en z;u_cond aL At.en z;u_c gF At.en z;u_c stepG_inBlock At.en z;u_c stepG_inLoop At.en z;refine cL λ_ I=>Wc.use ?_ (z.en I);exact IH.out _ aA v' _ R' aw (.snoc HA.out hC) _ _ _ _ _ _ _ _ _ _ _ _ _ _ _ _ _ _ _ _ _
end
end Cr
namespace Cr
open Go Go.Conc Go.ConcN Go.RowKit Go.Conc.Lib Go.ConcR.Gen Go.ConcN.Gen
open Go.ConcR (KK WgAt stA smA Payload DC0)
open Fr (F flat one fv frames Vk)
def aeM(f:ph)(args:Array X)(r:X->X)(fs:List F):Prop:=∀(S:Who)(m:Nat)(St:kC->cA->U->Prop)(K0:kC)(w0:U)(L:List (Nat×nL))(b:cR)(a:Act)(k:List pS)(cs:List cR)(ops:Array ij)(i:Nat)(rest:List Nat)(o:ij)(xs:Array jN)(z:Array cG),
 ops[i]? =M o->cP o (yielded ops a.tmps)=aR->b.kind≠.early->o.op=.call { callee:=.value (.func f),args:=xs,argTypes:=z }->xs.map a.eval=args->(∀v R,zq v fs R->Wc bA S m St K0 w0 (R++L) (G (b.at (a.put o.dst (r v)) (bL ops rest::k)) cs))->Wc bA S m St K0 w0 L (G (b.at a (bL ops (i::rest)::k)) cs)
def abm(a:Option eM)(n c:Nat)(w:U)(es:Array jz):(mw #[106] 3 #[.slice a n c]).events bA w es=es:=by simp[mw,eJ lR]
section
variable {S:Who}{m:Nat}{St:kC->cA->U->Prop}{K0:kC}{w0:U}{L0:List (Nat×nL)}{cs:List cR}
def Zo{s T:ByteArray}{l d sb E F p:Nat}{v:X}{fs:List Fr.F}{R:List (Nat×nL)}{cf:cR}(hR:zq v fs R)
  (J:∀v' R',zq v' ((if fs.length=0\/p<T.size then Z else M fs).getD []) R'->Wc bA S m St K0 w0 (R'++L0) (G (cf.finish (cQ #[v',.bool (if fs.length=0\/p<T.size then Z else M fs).isSome])) cs)):
  Wc bA S m St K0 w0 (fLs s T F E sb d l p v (R++L0)) (G ((base 112).at { tmps:=fTA s T F E sb aE aE,defers:=[{ target:=px d,args:=#[] }] } [.endRangeFunc l,.inBlock 0,.code ftl]) (cf::cs)):=by
 obtain⟨va,vc,hv⟩:=hR.slice;subst hv;have NX:Hid _:=J;have HR:Hid _:=hR;have el:=Ip;have ae:=abm;clear J hR;refine Wc.over (j:=0) rfl (show LoopState.ready≠.busy by decide) rfl (Wc.inBlock ?_);rw[show ftl=bR (bR _ _) _ from rfl];refine Wc.seq (Wc.seq (Wc.reg [0,1,2,3,4,5,6,7,8] rfl ?_));refine Wc.rd _ rfl rfl (eD _) (λw Y=>DN (j:=4) rfl Y rfl rfl (bE rfl)) ?_;walk_nrm;by_cases h0:fs.length=0
 .have ac:((fs.length:Int) == 0)=aR:=by simp[h0]
  refine Wc.go 50 λK w z=>?_
  iterate 3 u_op At.en z
  iterate 4 u_skip At.en z
  u_op At.en z;u_c aM At.en z;u_cond aR At.en z;u_c cE At.en z;u_reg At.en z
  iterate 2 u_op At.en z
  u_c aM At.en z;refine cL λ_ I=>Wc.use ?_ (z.en I);clear z;have J:=NX.out;rw[ZD (bE h0)]at J;exact .ret λtodo=>.takes (j:=1) rfl rfl rfl (.JG rfl rfl rfl mT rfl rfl rfl (Wc.drop (.cons _ (.cons _ (.cons _ (.cons _ (.cons _ (pE _ _)))))) (J _ [] (bE ⟨rfl,rfl,rfl⟩))))
 have ac:((fs.length:Int) == 0)=aL:=ZS aA;refine Wc.go 50 λK w z=>?_
 iterate 3 u_op At.en z
 refine cL λ_ I=>Wc.use ?_ (z.en I);clear z;refine Wc.rd _ rfl rfl (eD _) (λw Y=>DN (j:=3) rfl Y rfl rfl (cD (bE rfl))) ?_;walk_nrm;by_cases h1:p<T.size
 .have aa:(p:Int)<T.size:=by omega
  refine Wc.go 50 λK w z=>?_
  iterate 4 u_op At.en z
  u_c aM At.en z;u_cond aR At.en z;u_c cE At.en z;u_reg At.en z
  iterate 2 u_op At.en z
  u_c aM At.en z;refine cL λ_ I=>Wc.use ?_ (z.en I);clear z;have J:=NX.out;rw[ZD (cD h1)]at J;exact .ret λtodo=>.takes (j:=1) rfl rfl rfl (.JG rfl rfl rfl mT rfl rfl rfl (Wc.drop (.cons _ (.cons _ (.cons _ (.cons _ (.cons _ (pE _ _)))))) (J _ [] (bE ⟨rfl,rfl,rfl⟩))))
 have aa:¬(p:Int)<T.size:=aA
 refine Wc.go 50 λK w z=>?_
 iterate 4 u_op At.en z
 u_c aM At.en z;u_cond aL At.en z;u_c gF At.en z;u_c cE At.en z;u_reg At.en z;refine cL λ_ I=>Wc.use ?_ (z.en I);clear z;refine Wc.rd _ rfl rfl (eD _) (λw Y=>DN (j:=4) rfl Y rfl rfl (bE rfl)) ?_;walk_nrm;refine Wc.go 50 λK w z=>?_
 iterate 2 u_op At.en z
 u_c aM At.en z;refine cL λ_ I=>Wc.use ?_ (z.en I);clear z;have J:=NX.out;rw[Zs aA]at J;exact .ret λtodo=>.takes (j:=1) rfl rfl rfl (.JG rfl rfl rfl mT rfl rfl rfl (Wc.drop (.cons _ (.cons _ (.cons _ (.cons _ (.cons _ (iO _)))))) (J _ R HR.out)))
end
def aay(s:ByteArray)(hs:s.size<=1048576):aeM 112 #[bB s] (λv=>cQ #[v,.bool (frames s.data.toList).isSome]) ((frames s.data.toList).getD []):=by
 intro S m St K0 w0 L b a k cs ops i rest o xs ao ho hw hk ae hx nx;refine Wc.call ho hw hk ae mT rfl rfl ?_;rw[hx];simp only[Tryz.ntmps112,dR,aU,bY,Nat.reduceAdd,Nat.reduceSub,dH,dG,dU,dI,dS,dN]
 have nx:∀v R,zq v ((frames s.data.toList).getD []) R->Wc bA S m St K0 w0 (R++L) (G ((b.at a (bL ops (i::rest)::k)).finish (cQ #[v,.bool (frames s.data.toList).isSome])) cs):=by
  intro v R h;rw[mz,ho];exact nx v R h
 generalize b.at a (bL ops (i::rest)::k)=cf at nx;have Y:=rk s;have el:=Ip;have te:=Fr.toList_empty s;have NX:Hid _:=nx;clear nx ho hw hk ae hx;by_cases ah:s.size=0
 .have ai:s.toList.isEmpty=aR:=by rw[te];exact Z0 ah
  clear te;refine Wc.go 50 λK w z=>?_;u_c cE At.en z;u_reg At.en z
  iterate 2 u_op At.en z
  u_c aM At.en z
  iterate 2 u_c cE At.en z
  u_reg At.en z
  iterate 3 u_op At.en z
  iterate 3 u_skip At.en z
  u_op At.en z;u_c aM At.en z;u_cond aR At.en z;u_c cE At.en z;u_reg At.en z
  iterate 2 u_op At.en z
  u_c aM At.en z;refine cL λ_ I=>Wc.use ?_ (z.en I);rw[Fr.yV (bE aA)]at NX;exact .ret λtodo=>.JG rfl rfl rfl mT rfl rfl rfl (NX.out _ [] (bE ⟨rfl,rfl,rfl⟩))
 have af:0<s.size:=aA
 have ai:s.toList.isEmpty=aL:=by rw[te];exact ZZ aA
 have aj:=λu=>abZ u s 0 0 af rfl;have am:=λw es=>Ef s 0 w es aA aA;have hg:=Fr.getD_byte s 0 af;clear te;by_cases h0:s[0].toNat=0
 .have ag:(1:Int)<=(s.size:Int):=by omega
  rw[h0]at aj;obtain⟨T,hT⟩:∃T:ByteArray,s.extract 1 s.size=T:=⟨_,rfl⟩
  have J:T.data.toList=s.data.toList.drop 1:=by rw[<-hT,Fr.ext_list,eH aA]
  have ac:T.size=s.size-1:=by rw[<-hT];simp[fA]
  have aa:s.data.toList.getD 0 0=0:=by rw[hg];exact jv.1 h0
  have ak:=λw es=>oJ s w es (Ci s 1 w es aA ag);have HT:Hid _:=jy J (jy ac aa);clear J ac aa hg Y h0;refine Wc.go 50 λK w z=>?_;u_c cE At.en z;u_reg At.en z
  iterate 2 u_op At.en z
  u_c aM At.en z
  iterate 2 u_c cE At.en z
  u_reg At.en z
  iterate 7 u_op At.en z
  u_c aM At.en z;u_cond aL At.en z;u_c gF At.en z;u_c cE At.en z;u_reg At.en z
  iterate 3 u_op At.en z
  u_c aM At.en z;refine cL λ_ I=>Wc.use ?_ (z.en I);clear z;refine Wc.seq (Wc.reg [0] rfl ?_);refine Wc.al (aG #[aH Z 0 0] 106) (λn=>aD (M ⟨n,0,Z⟩)) rfl rfl (eD _) (λw Y=>⟨by simp[go_sem],λe he=>by simp[go_sem]at he⟩) λF=>?_;refine Wc.done (Wc.seq (Wc.reg [0,1] rfl ?_));walk_nrm;refine Wc.al (aG #[N ab 0] 3) (λn=>aD (M ⟨n,0,Z⟩)) rfl rfl (eD _) (λw Y=>⟨by simp[go_sem],λe he=>by simp[go_sem]at he⟩) λE=>?_;walk_nrm;refine Wc.st (j:=0) (aG #[.int _ 0] 3) rfl rfl rfl (eD _) (λw Y=>P5 (j:=0) rfl Y rfl rfl rfl (cD ⟨_,rfl,rfl⟩)) ?_;walk_nrm;refine Wc.done (Wc.seq (Wc.seq (Wc.reg [0,1] rfl ?_)));refine Wc.go 50 λK w z=>?_;u_op At.en z;refine cL λ_ I=>Wc.use ?_ (z.en I);clear z;refine Wc.call rfl rfl (eD _) rfl Tryz.func136 rfl rfl ?_;simp only[Tryz.ntmps136,dR,aU,bY,Nat.reduceAdd,Nat.reduceSub,dH,dG,dU,dI,dS,dN];walk_nrm;refine Wc.seq (Wc.reg [0,1] rfl ?_);refine Wc.al (aG #[bB T] 9) (λn=>aD (M ⟨n,0,Z⟩)) rfl rfl (eD _) (λw Y=>⟨by simp[go_sem],λe he=>by simp[go_sem]at he⟩) λsb=>?_;walk_nrm;refine Wc.go 50 λK w z=>?_;u_op At.en z;u_c aM At.en z;u_c cE At.en z;u_reg At.en z
  iterate 2 u_op At.en z
  u_c aM At.en z;refine cL λ_ I=>Wc.use ?_ (z.en I);clear z;refine .ret λtodo=>.zQ rfl rfl rfl Tryz.func136 rfl rfl ?_;rw[mz];walk_nrm;refine Wc.done (Wc.block (Wc.range (f:=145) (cap:=#[.pointer _]) rfl Tryz.func145 rfl rfl λd=>?_));simp only[Tryz.ntmps145,dR,aU,bY,Nat.reduceAdd,Nat.reduceSub,dH,dG,dU,dI,dS,dN];refine Wc.go 50 λK w z=>?_;u_c cE At.en z;u_reg At.en z;u_op At.en z;u_c aM At.en z;u_c pQ At.en z;u_c stepG_loop At.en z;refine cL λ_ I=>Wc.use ?_ (z.en I);clear z;obtain⟨J,ac,aa⟩:=HT.out;refine Ut (s:=s) (T:=T) (d:=d) aA (λv fs R p hR hA hn=>?_) (T.size+1) 0 aA _ [] [] (bE ⟨rfl,rfl,rfl⟩) .nil _ _ _ _ _ _ _ _ _ _ _ _ _ _ _ _ _ _ _ _ _;have Y:=rk s;have hf:=Fr.zl (s:=s.data.toList) aA aa (by rw[<-J];exact hA) (by rw[<-J];exact hn);rw[<-Y,<-ac]at hf;rw[hf]at NX;exact Zo hR NX.out
 .have an:((s[0].toNat:Int) != 0)=aR:=by simp;omega
  rw[Fr.yV (cD (by rw[hg];intro h;exact h0 (by rw[h];rfl)))]at NX;clear hg Y h0;generalize s[0].toNat=c at *;refine Wc.go 50 λK w z=>?_;u_c cE At.en z;u_reg At.en z
  iterate 2 u_op At.en z
  u_c aM At.en z
  iterate 2 u_c cE At.en z
  u_reg At.en z
  iterate 7 u_op At.en z
  u_c aM At.en z;u_cond aR At.en z;u_c cE At.en z;u_reg At.en z
  iterate 2 u_op At.en z
  u_c aM At.en z;refine cL λ_ I=>Wc.use ?_ (z.en I);exact .ret λtodo=>.JG rfl rfl rfl mT rfl rfl rfl (NX.out _ [] (bE ⟨rfl,rfl,rfl⟩))
end Cr
namespace Cr
open Go Go.Conc Go.ConcN Go.RowKit Go.Conc.Lib Go.ConcR.Gen Go.ConcN.Gen
open Go.ConcR (KK WgAt stA smA Payload DC0)
open Fr (F flat one fv frames mg)
section
variable {w0:U}{L:List (Nat×nL)}{a:Act}{o:ij}
def AZ{w:U}{n j i:Nat}{c:Array X}{v:X}{t J:cG}{p:jN}(E:L[j]? =M (n,aG c J))(Y:c[i]? =M v)(R:Lies L ↑w0 w)(hp:a.eval p=aD (M ⟨n,i,Z⟩))(z:o.op=.load t p)(ht:t=22\/t=9):(bN a.eval o).run bA w=.ok (.value v) w/\∀e∈(bN a.eval o).events bA w #[],EvA L ↑w ↑w e:=by
 have h:=oG R E;have c0:w.cell? ⟨n,i,Z⟩=M v:=by simp[eB,h,Y]
 unfold bN;simp only[z,hp];rcases ht with rfl|rfl<;>
 .refine⟨by simp[go_sem,c0],λe I=>?_⟩;simp[go_sem,c0]at I;subst I;exact QO E
end
def XR(inbox batcher t0 t1 t2 t3 t4 fr ad:Int)(data:ByteArray)(hs:data.size<=1048576):aeM 73 #[.agg (cfg inbox batcher t0 t1 t2 t3 t4),.agg (Ad fr ad data)] id (mg inbox batcher fr ad data.data.toList):=by
 intro S m St K0 w0 L b a k cs ops i rest o xs ac ho hw hk aa hx nx;refine Wc.call ho hw hk aa Tryz.func73 rfl rfl ?_;rw[hx];simp only[Tryz.ntmps73,dR,aU,bY,Nat.reduceAdd,Nat.reduceSub,dH,dG,dU,dI,dS,dN]
 have nx:∀v R,zq v (mg inbox batcher fr ad data.data.toList) R->Wc bA S m St K0 w0 (R++L) (G ((b.at a (bL ops (i::rest)::k)).finish v) cs):=by
  intro v R h;rw[mz,ho];exact nx v R h
 generalize b.at a (bL ops (i::rest)::k)=cf at nx;have Y:Hid _:=nx;clear nx ho hw hk aa hx;refine Wc.seq (Wc.reg [0,1,2] rfl ?_);refine Wc.al (aG (cfg inbox batcher t0 t1 t2 t3 t4) 24) (λn=>aD (M ⟨n,0,Z⟩)) rfl rfl (eD _) (λw I=>⟨by simp[go_sem],λe he=>by simp[go_sem]at he⟩) λcb=>?_;walk_nrm;refine Wc.al (aG (Ad fr ad data) 125) (λn=>aD (M ⟨n,0,Z⟩)) rfl rfl (eD _) (λw I=>⟨by simp[go_sem],λe he=>by simp[go_sem]at he⟩) λxb=>?_;walk_nrm;refine Wc.go 50 λK w z=>?_;u_op At.en z;u_c aM At.en z
 iterate 2 u_c cE At.en z
 u_reg At.en z;u_op At.en z;refine cL λ_ E=>Wc.use ?_ (z.en E);clear z;refine Wc.rd (.int _ ad) rfl rfl (eD _) (λw I=>AZ (j:=0) rfl rfl I rfl rfl (bE rfl)) ?_;walk_nrm;refine Wc.go 50 λK w z=>?_;u_op At.en z;refine cL λ_ E=>Wc.use ?_ (z.en E);clear z;refine Wc.rd (.int _ inbox) rfl rfl (eD _) (λw I=>AZ (j:=1) rfl rfl I rfl rfl (bE rfl)) ?_;walk_nrm;by_cases J:ad=inbox
 case neg=>
  have e1:(ad != inbox)=aR:=by simp[J]
  rw[mg,Zs (λh=>J h.1)]at Y;clear J;refine Wc.go 50 λK w z=>?_
  iterate 2 u_op At.en z
  iterate 5 u_skip At.en z
  u_op At.en z;u_c aM At.en z;u_cond aR At.en z;u_c cE At.en z;u_reg At.en z;u_op At.en z;u_c aM At.en z;refine cL λ_ E=>Wc.use ?_ (z.en E);exact .ret λtodo=>.zQ rfl rfl rfl Tryz.func73 rfl rfl (Wc.drop (.cons _ (.cons _ (iO _))) (Y.out _ [] (bE ⟨rfl,rfl,rfl⟩)))
 have e1:(ad != inbox)=aL:=by simp[J]
 refine Wc.go 50 λK w z=>?_
 iterate 3 u_op At.en z
 refine cL λ_ E=>Wc.use ?_ (z.en E);clear z;refine Wc.rd (.int _ fr) rfl rfl (eD _) (λw I=>AZ (j:=0) rfl rfl I rfl rfl (bE rfl)) ?_;walk_nrm;refine Wc.go 50 λK w z=>?_;u_op At.en z;refine cL λ_ E=>Wc.use ?_ (z.en E);clear z;refine Wc.rd (.int _ batcher) rfl rfl (eD _) (λw I=>AZ (j:=1) rfl rfl I rfl rfl (bE rfl)) ?_;walk_nrm;by_cases h2:fr=batcher
 case neg=>
  have e2:(fr != batcher)=aR:=by simp[h2]
  rw[mg,Zs (λh=>h2 h.2)]at Y;clear J h2;refine Wc.go 50 λK w z=>?_
  iterate 2 u_op At.en z
  u_c aM At.en z;u_cond aR At.en z;u_c cE At.en z;u_reg At.en z;u_op At.en z;u_c aM At.en z;refine cL λ_ E=>Wc.use ?_ (z.en E);exact .ret λtodo=>.zQ rfl rfl rfl Tryz.func73 rfl rfl (Wc.drop (.cons _ (.cons _ (iO _))) (Y.out _ [] (bE ⟨rfl,rfl,rfl⟩)))
 have e2:(fr != batcher)=aL:=by simp[h2]
 rw[mg,ZD ⟨J,h2⟩]at Y;clear J h2;refine Wc.go 50 λK w z=>?_
 iterate 2 u_op At.en z
 u_c aM At.en z;u_cond aL At.en z;u_c gF At.en z;u_c cE At.en z;u_reg At.en z;u_op At.en z;refine cL λ_ E=>Wc.use ?_ (z.en E);clear z;refine Wc.rd (bB data) rfl rfl (eD _) (λw I=>AZ (j:=0) rfl rfl I rfl rfl (cD rfl)) ?_;walk_nrm;refine aay data hs _ _ _ _ _ _ _ _ _ _ _ _ _ _ _ _ rfl rfl (eD _) rfl (by simp[kp]) λv R hR=>?_;walk_nrm;generalize (frames data.data.toList).isSome=ok;refine Wc.go 50 λK w z=>?_
 iterate 5 u_op At.en z
 u_c aM At.en z;u_c cE At.en z;u_reg At.en z
 iterate 2 u_op At.en z
 u_c aM At.en z;refine cL λ_ E=>Wc.use ?_ (z.en E);exact .ret λtodo=>.zQ rfl rfl rfl Tryz.func73 rfl rfl (Wc.drop ((iO _).append (.cons _ (.cons _ (iO _)))) (Y.out _ R hR))
def KX:ReadW:=by
 intro S m St K w b a k cs ops j rest o x y aa inbox batcher t0 t1 t2 t3 t4 fr ad data ho hw hk Y E hy hs h1 h2 h3 h4 _ nx;have hA:At S K w [] K w:=⟨h1,h2,h3,h4,jB,λx E=>⟨h2 x E,E,rfl⟩,λx=>bE,id,id,λp hp=>by simp at hp,.nil⟩
 refine Wc.use (XR inbox batcher t0 t1 t2 t3 t4 fr ad data hs S m St K w [] b a k cs ops j rest o _ aa ho hw hk Y (by simp[E,hy]) λv R hR K' J z=>?_) hA;refine nx w (.refl _ _ _ _) v K' J (hR.imp (λh=>⟨h.1,h.2.1⟩) ?_) (λx E=>(z.old x E).2.1) z.sub z.size (λx E=>(z.old x E).2.2) (λx E=>⟨z.low x E,z.new x E⟩) z.live z.pay;rintro⟨g,cap,I,e,rfl,r⟩;have hm:=z.mem (g,aG I 109) aC;exact⟨g,cap,I,e,z.sub _ hm.2.1,hm.2.2,r⟩
end Cr
namespace Po
open Go
section
variable {P:cU}{G:Array pZ}{k f:Nat}{fn:pZ}
def ER(P:cU)(G:Array pZ)(D:Nat->Prop):Env:={ T:=P.toTables,F:=P.funcs,G:=G,D:=D,C:=λc=>oP P c=aR }
def adZ(P:cU)(G:Array pZ)(D:Nat->Prop):(ER P G D).P=P:=rfl
def ade(P:cU)(G:Array pZ)(D:Nat->Prop)(c:eE):(ER P G D).C c↔oP P c=aR:=Iff.rfl
def Js(h:∀k:Nat,(G[k]?).map (·.results)=(P.funcs[k]?).map (·.results))(D:Nat->Prop):∀k:Nat,((ER P G D).G[k]?).map (·.results)=((ER P G D).F[k]?).map (·.results):=h
noncomputable abbrev qe(G:Array pZ)(D:Nat->Prop):Env:=ER PQ G D
def Fj(G:Array pZ)(D:Nat->Prop):(qe G D).P=PQ:=adZ PQ G D
def Zq:((ir 186).all λk=>!DC k || match Tryz.prog.funcs[k]? with
  |some f=>!(f.name == "runtime.NumGoroutine")&&(match f.body with|some c=>oP PQ c|none=>k == 147 || k == 160)
  |none=>aL)=aR:=XN
def ae0:Tryz.prog.funcs.size=186:=XN
def acZ:Extern.allNextRows.lookup ""=Z:=XN
def P8:Extern.allGenericRows.lookup ""=Z/\Extern.allTypedRows.lookup ""=Z/\Extern.allRows.lookup ""=Z:=⟨XN,XN,XN⟩
def adX{L:ph->Bool}(h:(rQ P L).funcs[k]? =M fn):(L k=aR/\P.funcs[k]? =M fn)\/L k=aL/\fn.body=Z/\fn.name= ""/\fn.origin= "":=by
 have h:(P.funcs.mapIdx _)[k]? =M fn:=h
 grind
def MI(P:cU)(L:ph->Bool)(k:Nat):(P.funcs[k]?).map (·.results)=((rQ P L).funcs[k]?).map (·.results):=by
 show _=((P.funcs.mapIdx _)[k]?).map _
 grind
def Q5{f:pZ}(E:DC k=aR)(z:Tryz.prog.funcs[k]? =M f):(f.name == "runtime.NumGoroutine")=aL/\(match f.body with|some c=>oP PQ c=aR|none=>k=147\/k=160):=by
 have hk:k<186:=by rw[<-ae0];exact(jE z)
 have:=fF.1 Zq k (gV.2 hk)
 grind
section
variable {e:Env}
def abE(Y:e.F[f]? =M fn)(J:fn.body=Z)(E:fn.name= "")(ho:fn.origin= "")(args:Array X):Rb e (iA f args)/\∀x es n I z,(iA f args).runT e.P x es=(.ok n I,z)->∃v,n=.value v:=by
 have R:Extern.findNext fn=Z:=by simp only[Extern.findNext,E,ho,acZ];rfl
 have h2:Extern.find fn=Z:=by simp only[Extern.find,E,ho,P8.1,P8.2.1,P8.2.2];rfl
 have h3:("" == "runtime.NumGoroutine")=aL:=by decide+kernel
 have h4:("".endsWith ".init")=aL:=by decide+kernel
 have hr:∀x es,(iA f args).runT e.P x es=(.halt (.unsupported (.extern "")) x,es.push ⟨.mark (.extern f),aL,aR⟩):=by
  intro x es;simp only[iA,program,bind,fY,cS,show e.P.funcs[f]? =M fn from Y,E,h3,J,Option.isNone_none,bU,if_false,if_true,R,h2,h4,mark,Bool.false_and,unsupported]
 refine⟨λx es r z h y _=>bE ?_,λx es n I z h=>?_⟩
 .rw[hr]at h;cases h;rfl
 grind
def RN(I:e.F[f]? =M fn)(hg:e.G[f]? =M fn)(R:fn.body=Z)(hn:(fn.name == "runtime.NumGoroutine")=aL)(Y:Extern.findNext fn=Z){s:Array X->Sem X}(hs:Extern.find fn=M s){args:Array X}(h:Rb e (s args)):Rb e (iA f args)/\∀x es n J E,(iA f args).runT e.P x es=(.ok n J,E)->∃v,n=.value v:=by
 refine⟨?_,λx es n J E z=>?_⟩
 .unfold iA;refine PR ?_ ?_
  .grind
  .simp only[show e.P.funcs[f]? =M fn from I,hn,R,Y,hs,Option.isNone_none,bU,↓reduceIte];exact B (Rk _ (cD ⟨f,rfl⟩)) λ_=>B h λ_=>X2 _
 .rw[iA,runT_bind]at z;simp only[program,cS,show e.P.funcs[f]? =M fn from I,hn,R,Y,hs,Option.isNone_none,bU,↓reduceIte]at z;rw[runT_bind]at z;split at z
  .rw[runT_bind]at z;split at z
   .cases z;exact⟨_,rfl⟩
   .cases z
  .cases z
def acC{args:Array X}:Rb e (Extern.AbiNoEscape.same args):=by
 obtain⟨l⟩:=args
 match l with
 |[]=>exact H _
 |[x]=>exact X2 _
 |_::_::_=>exact H _
def I5{ps rs:Array cG}{args:Array X}:Rb e (mA ps rs args):=by
 obtain⟨l⟩:=args
 match l with
 |[]=>exact H _
 |_::_::_=>cases ‹X›<;>exact H _
 |[x]=>
  cases x<;>first|exact H _|skip
  case int k n=>
   cases k<;>first|exact H _|skip
   show Rb e (match rs[0]? with|some t=>_|_=>_)
   repeat' first|with_reducible exact X2 _|with_reducible refine B ?_ λ_=>?_|with_reducible refine IT ?_ ?_|exact H _|split|(simp;done)|dsimp only
end
def ac3(h:PQ.funcs[k]? =M fn):(DC k=aR/\Tryz.prog.funcs[k]? =M fn)\/DC k=aL/\fn.body=Z/\fn.name= ""/\fn.origin= "":=adX (P:=bA) (L:=DC) h
def Ij{D:Nat->Prop}(h:(ER P G D).F[k]? =M fn):P.funcs[k]? =M fn:=h
def XQ(hG:∀(k:Nat)(fn:pZ),DC k=aR->Tryz.prog.funcs[k]? =M fn->G[k]? =M fn)(I:∀k:Nat,(G[k]?).map (·.results)=(PQ.funcs[k]?).map (·.results))(D:Nat->Prop):Fit (qe G D) where
 code c:=by rewrite [Fj];exact ade PQ G D c
 name f fn h:=by
  obtain⟨z,h2⟩|⟨_,_,h2,_⟩:=ac3 (Ij h)
  .exact(Q5 z h2).1
  grind
 same f fn c h hb:=by
  obtain⟨z,h2⟩|⟨_,h2,_⟩:=ac3 (Ij h)
  .have:=(Q5 z h2).2;rw[hb]at this;exact⟨hG _ _ z h2,by rewrite [Fj];exact this⟩
  grind
 ext f fn args h hb:=by
  obtain⟨z,h2⟩|⟨_,_,h3,h4⟩:=ac3 (Ij h)
  .have:=(Q5 z h2).2;rw[hb]at this;have E:=hG _ _ z h2;obtain rfl|rfl:=this
   .obtain rfl:=fC (Tryz.func147.symm.trans h2);exact RN h E hb (by rfl) (by rfl) (s:=Extern.AbiNoEscape.same) (by rfl) (acC)
   .obtain rfl:=fC (Tryz.func160.symm.trans h2);exact RN h E hb (by rfl) (by rfl) (s:=mA _ _) (by rfl) (I5)
  .exact abE h hb h3 h4 _
 results:=Js I D
 early:=by rewrite [Fj];kernel_rfl
def TF(k:Nat):(Tryz.prog.funcs[k]?).map (·.results)=(PQ.funcs[k]?).map (·.results):=MI ..
def UO(P:cU)(G:Array pZ)(D:Nat->Prop):(ER P G D).self=ER P P.funcs λ_=>False:=rfl
def fits(D:Nat->Prop):Fits (qe Tryz.prog.funcs D):=
 ⟨XQ (λ_ _ _ h=>h) TF D,by rewrite [UO];exact XQ (λ_ _ h k=>fq k h) (λ_=>rfl) _⟩
end
open Go Go.Conc
open Cr (ou)
section
variable {w:U}{o:nL}
def aff(P:cU)(L:ph->Bool)(D:Nat->Prop):(ER (rQ P L) P.funcs D).Q=P:=rfl
def abp(D:Nat->Prop):(qe Tryz.prog.funcs D).Q=bA:=aff bA DC D
def yZ(w:U)(b:Nat):Prop:=∃o,w.heap[b]? =M o/\ghost o=aR
def hush(w:U):U:={ w with heap:=w.heap.map λo=>if ghost o then .coro Z else o }
def Qu{b:Nat}(h:w.heap[b]? =M o)(z:ghost o=aL):(hush w).heap[b]? =M o:=by
 show(w.heap.map _)[b]? =_
 grind
def aam{b:Nat}(h:(hush w).heap[b]? =M o):ghost o=aL:=by
 have h:(w.heap.map _)[b]? =_:=h;rw[iH]at h;cases z:w.heap[b]? with
 |none=>rw[z]at h;cases h
 |some u=>
  rw[z]at h;simp only[cO,aK]at h;subst h;split
  .rfl
  grind
def zG{e:Env}(h:ghost o=aL):xG e o:=by
 cases o<;>first|trivial|(cases h;done)
section
variable {w:U}{Post:X->U->Prop}{fr:cR}
def aa5{e:Env}(E:e.D=yZ w):WP e (hush w) w where
 os:=rfl
 output:=rfl
 size:=by simp[hush]
 out b hb:=by
  show _=(w.heap.map _)[b]?
  rw[iH];cases I:w.heap[b]? with
  |none=>rfl
  |some o=>
   cases z:ghost o with
   |true=>exact Xs ⟨o,I,z⟩ (E ▸ hb)
   |false=>simp[z]
 inn b hb:=by
  rw[E]at hb;obtain⟨o,h,z⟩:=hb;refine cD ⟨o,h,?_,z⟩
  show(w.heap.map _)[b]? =_
  grind
 objs b o h:=zG (aam h)
def SQ(h:Wk (qe Tryz.prog.funcs (yZ w)) ⟨yZ w,w,Post⟩ [] fr [] (hush w))(ho:tZ (qe Tryz.prog.funcs (yZ w)) fr):ou bA Post (λ_=>False) (mk fr []) w:=by
 have k:=h ⟨ho,aC⟩ w (aa5 rfl) ⟨λ_ z=>⟨z,rfl⟩,λ_ z _=>z,jB,rfl,rfl⟩
 rewrite [abp]at k
 exact k.dead λ_ x=>x.elim
end
end
end Po
namespace Cr
open Go Go.Conc Go.ConcN Go.RowKit Go.Conc.Lib Go.ConcR.Gen Go.ConcN.Gen
open Go.ConcR (KK WgAt stA smA Payload DC0)
section
variable {a:Act}{o:ij}
structure WF(Wg C n i bc bx bf bi:Nat)(cf xf:Array X)(w:U):Prop where
 c:w.heap[bc]? =M (aG cf 24)
 x:w.heap[bx]? =M (aG xf 125)
 f:w.heap[bf]? =M (aG #[aH (M ⟨C,0,Z⟩) n n] 104)
 i:w.heap[bi]? =M (aG #[N ab i] 3)
 live:iB link.tWg Wg w
 pay:pL C n w
section
variable {Wg C n i bc bx bf bi:Nat}{inbox batcher t0 t1 t2 t3 t4 fr ad:Int}{data:ByteArray}{cf xf:Array X}{w w₁:U}{K:kC}
def WF.en(h:WF Wg C n i bc bx bf bi cf xf w)(hc:K.O bc)(I:K.O bx)(z:K.O bf)(E:K.O bi)(r:En ⟨Wg,C,n,link.tWg,C-1⟩ (M i) K w w₁):WF Wg C n i bc bx bf bi cf xf w₁:=
 ⟨(r.block _ hc).trans h.c,(r.block _ I).trans h.x,(r.block _ z).trans h.f,(r.block _ E).trans h.i,r.live h.live,r.pay h.pay⟩
noncomputable def ug:Array ij:=match Tryz.f71.body with
 |some (bR _ (.region _ ops _))=>ops
 |_=>#[]
def cell_of{b:Nat}{cs:Array X}{ty:cG}(h:w.heap[b]? =M (aG cs ty))(o:Nat):w.cell? ⟨b,o,Z⟩=cs[o]?:=by simp[eB,h]
def ag4(h:WF Wg C n i bc bx bf bi cf xf w)(I:a.eval (cN 3)=aD (M ⟨bf,0,Z⟩))(z:o.op=.load 104 (cN 3)):(bN a.eval o).run bA w=.ok (.value (aH (M ⟨C,0,Z⟩) n n)) w/\(bN a.eval o).events bA w #[]=#[⟨.cell ⟨bf,0,Z⟩,aL,aL⟩]:=by
 have E:=cell_of h.f 0;constructor
 .unfold bN;simp only[z,I];simp[go_sem,E]
 .unfold bN;simp only[z,I];simp[go_sem,E]
def ahf(h:WF Wg C n i bc bx bf bi (cfg inbox batcher t0 t1 t2 t3 t4) xf w)(I:a.eval (cN 1)=aD (M ⟨bc,0,Z⟩))(z:o.op=.load 24 (cN 1)):(bN a.eval o).run bA w=.ok (.value (.agg (cfg inbox batcher t0 t1 t2 t3 t4))) w/\∀e∈(bN a.eval o).events bA w #[],∃k,e=⟨.cell ⟨bc,k,Z⟩,aL,aL⟩:=by
 have Y:=cell_of h.c 0;have J:=cell_of h.c 1;have h2:=cell_of h.c 2;have h3:=cell_of h.c 3;have h4:=cell_of h.c 4;have R:=cell_of h.c 5;have E:=cell_of h.c 6;constructor
 .unfold bN;simp only[z,I];simp[go_sem,Y,J,h2,h3,h4,R,E]
 .unfold bN;simp only[z,I];simp[go_sem,Y,J,h2,h3,h4,R,E]
def agF(h:WF Wg C n i bc bx bf bi cf (Ad fr ad data) w)(E:a.eval (cN 2)=aD (M ⟨bx,0,Z⟩))(z:o.op=.load 125 (cN 2)):(bN a.eval o).run bA w=.ok (.value (.agg (Ad fr ad data))) w/\∀e∈(bN a.eval o).events bA w #[],∃k,e=⟨.cell ⟨bx,k,Z⟩,aL,aL⟩:=by
 have J:=cell_of h.x 0;have I:=cell_of h.x 1;have h2:=cell_of h.x 2;constructor
 .unfold bN;simp only[z,E];simp[go_sem,J,I,h2]
 .unfold bN;simp only[z,E];simp[go_sem,J,I,h2]
def ag2(h:WF Wg C n i bc bx bf bi cf xf w)(I:a.eval (cN 4)=aD (M ⟨bi,0,Z⟩))(z:o.op=.load 3 (cN 4)):(bN a.eval o).run bA w=.ok (.value (N ab i)) w/\(bN a.eval o).events bA w #[]=#[⟨.cell ⟨bi,0,Z⟩,aL,aL⟩]:=by
 have E:=cell_of h.i 0;constructor
 .unfold bN;simp only[z,I];simp[go_sem,E]
 .unfold bN;simp only[z,I];simp[go_sem,E]
def agR(Y:i<n)(R:a.eval (cN 5)=aH (M ⟨C,0,Z⟩) n n)(J:a.eval (cN 6)=N ab i)(I:o.op=.indexAddr 104 (cN 5) (cN 6)):(bN a.eval o).run bA w=.ok (.value (aD (M ⟨C,i,Z⟩))) w/\(bN a.eval o).events bA w #[]=#[]:=by
 have E:(i:Int)<n:=aA
 have z:(0:Int)<=(i:Int):=aA
 constructor
 .unfold bN;simp only[I,R,J];simp[go_sem,E,z,Addr.add];exact λe=>e.symm
 .unfold bN;simp only[I,R,J];simp[go_sem,E,z]
def ahe(hp:pL C n w)(R:i<n){x:Option eM}{l c:Nat}(h10:a.eval (cN 10)=aD (M ⟨C,i,Z⟩))(I:a.eval (cN 9)=.slice x l c)(z:o.op=.store 106 (cN 10) (cN 9)):(bN a.eval o).run bA w=.ok .skip (w.setCell ⟨C,i,Z⟩ (.slice x l c))/\(bN a.eval o).events bA w #[]=#[⟨.cell ⟨C,i,Z⟩,aR,aL⟩]:=by
 obtain⟨cs,E,Y⟩:=hp;have hc:w.cell? ⟨C,i,Z⟩=M cs[i]:=by simp[eB,E,Y,R]
 have J:w.frozen? ⟨C,i,Z⟩=aL:=by simp[iX,E]
 constructor
 .unfold bN;simp only[z,h10,I];simp[go_sem,stored,hc,J]
 .unfold bN;simp only[z,h10,I];simp[go_sem,pw _ _ _ _ _ _ (show(aH x l c).oneCell'=aR from rfl),hc,J]
def ZM(hp:pL C n w)(E:i<n){v:X}:Has C i v (w.setCell ⟨C,i,Z⟩ v):=by obtain⟨cs,z,I⟩:=hp;simp[Has,eB,eQ,bT,z,I,E]
end
end
section
def bW:cR:=baseD 71
noncomputable def KO:cR:={ (default:cR)with fn:=Tryz.prog.funcs.size,defers:=[],mode:=.panicking [goexitEntry] }
noncomputable def YE:eE:=Tryz.f71.body.getD .skip
section
variable (Wg C n i bc bx bf bi:Nat)(inbox batcher t0 t1 t2 t3 t4 fr ad:Int)(data:ByteArray)
def JU:Deferred:={ target:=.fn (.func 71) #[aD (M ⟨Wg,0,Z⟩),aD (M ⟨bc,0,Z⟩),aD (M ⟨bx,0,Z⟩),aD (M ⟨bf,0,Z⟩),aD (M ⟨bi,0,Z⟩)],args:=#[] }
def Qq(l:Bool)(v:X):X:=if l then v else aE
def slots(l:Array Bool)(v:X):Array X:=#[aD (M ⟨Wg,0,Z⟩),aD (M ⟨bc,0,Z⟩),aD (M ⟨bx,0,Z⟩),aD (M ⟨bf,0,Z⟩),aD (M ⟨bi,0,Z⟩),
 Qq (l.getD 0 aL) (aH (M ⟨C,0,Z⟩) n n),Qq (l.getD 1 aL) (N ab i),Qq (l.getD 2 aL) (.agg (cfg inbox batcher t0 t1 t2 t3 t4)),Qq (l.getD 3 aL) (.agg (Ad fr ad data)),Qq (l.getD 4 aL) v,Qq (l.getD 5 aL) (aD (M ⟨C,i,Z⟩))]
end
section
variable {Wg C n i bc bx bf bi:Nat}{inbox batcher t0 t1 t2 t3 t4 fr ad:Int}{data:ByteArray}
def born_step(w:U):eC bA aL (born bA (JU Wg bc bx bf bi)) w=.go (G (bW.at ⟨#[aD (M ⟨Wg,0,Z⟩),aD (M ⟨bc,0,Z⟩),aD (M ⟨bx,0,Z⟩),aD (M ⟨bf,0,Z⟩),aD (M ⟨bi,0,Z⟩),aE,aE,aE,aE,aE,aE],[]⟩ [.code YE]) [KO]) w #[]:=by
 simp[born,JU,eC,unwind,callDeferred,invoke,iA,Tryz.func71,Tryz.f71,seen,GStep.after,G,iS,Frame.at,bW,baseD,KO,YE]
def quits_tail{T:Array X}:QuitsD bA 2 0 (G { bW.at ⟨T,[]⟩ []with mode:=kz } [KO]):=by
 refine QuitsD.ctl (g':=G KO []) rfl (λw=>?_) ?_
 .simp[G,eC,unwind,doReturn,results,Frame.at,bW,baseD,KO,Tryz.func71,Tryz.f71,seen,GStep.after,goexitEntry]
 refine QuitsD.ctl (g':={ G KO []with status:=.finished }) rfl (λw=>?_) ⟨rfl,rfl⟩;simp[G,eC,unwind,KO,goexitEntry,Frame.catches];rfl
structure KW(Wg C:Nat)(bc bx bf bi:Nat)(K:kC)(w:U):Prop where
 c:K.O bc
 x:K.O bx
 f:K.O bf
 i:K.O bi
 sub:∀b,K.W b->K.O b
 low:∀b,K.O b->b<w.heap.size
 pay:C<w.heap.size
 grp:Wg<w.heap.size
 ne:∀b,K.O b->b≠C
 glob:Tryz.prog.globals.size<=w.heap.size
def sched(t:Nat)(m:Bool):n9 m ug t=Region.linearise.go .any ug 7 t (lO 7 aL) []:=by
 have h:Region.departs ug=aL:=XN
 unfold n9;simp only[h,Bool.not_false,Bool.or_true,if_true];rfl
end
end
section
variable {w:U}{v:X}{l0 l1 l2 l3 l4 l5 l6:Bool}
section
variable {Wg C n i bc bx bf bi:Nat}{inbox batcher t0 t1 t2 t3 t4 fr ad:Int}{data:ByteArray}{fs:Nat->List Fr.F}
abbrev mJ(Wg C n:Nat):Who:=⟨Wg,C,n,link.tWg,C-1⟩
noncomputable def uy(Wg C n i bc bx bf bi:Nat)(inbox batcher t0 t1 t2 t3 t4 fr ad:Int)(data:ByteArray)(l:Array Bool)(v:X)(rest:List Nat):cA:=
 G (bW.at ⟨slots Wg C n i bc bx bf bi inbox batcher t0 t1 t2 t3 t4 fr ad data l v,[dcall link.done #[aD (M ⟨Wg,0,Z⟩)]]⟩ (bL ug rest::[])) [KO]
def ZO{K:kC}{l:Array Bool}(hF:WF Wg C n i bc bx bf bi (cfg inbox batcher t0 t1 t2 t3 t4) (Ad fr ad data) w)(R:KW Wg C bc bx bf bi K w)(Y:Has C i v w)(hr:qY K.O w v (fs i)):kY bA aL (mJ Wg C n) (M i) (tC bA (mJ Wg C n) (leftOf fs) i) K (uy Wg C n i bc bx bf bi inbox batcher t0 t1 t2 t3 t4 fr ad data l v []) w:=by
 have H:=wgLib;unfold uy;have E:WF Wg C n i bc bx bf bi (cfg inbox batcher t0 t1 t2 t3 t4) (Ad fr ad data) w/\Has C i v w/\qY K.O w v (fs i):=⟨hF,Y,hr⟩
 have J:∀{w z:U},(WF Wg C n i bc bx bf bi (cfg inbox batcher t0 t1 t2 t3 t4) (Ad fr ad data) w/\Has C i v w/\qY K.O w v (fs i))->En (mJ Wg C n) (M i) K w z->(WF Wg C n i bc bx bf bi (cfg inbox batcher t0 t1 t2 t3 t4) (Ad fr ad data) z/\Has C i v z/\qY K.O z v (fs i)):=
  λh r=>⟨h.1.en R.c R.x R.f R.i r,(r.cell i rfl).trans h.2.1,h.2.2.stands (λ_=>id) r.block⟩
 clear hF Y hr;refine kY.go (n:=10) ?_;u_c aM J E;u_c stepG_end J E;u_in J E;rw[stepG_unwind_enter rfl H.f_done (nm_done link) rfl];simp only[goes_go];refine⟨by u_nil,?_⟩;refine cL λz I=>?_;replace E:=J E I;exact aa6 (Q:=leftOf fs) H rfl (quits_tail) z E.1.live E.2.1 λaa hb=>E.2.2.stands (λ_=>id) hb
structure Reg(fs:Nat->List Fr.F)(Wg C n i bc bx bf bi:Nat)(inbox batcher t0 t1 t2 t3 t4 fr ad:Int)(data:ByteArray)(l0 l1 l2 l3 l4 l5 l6:Bool)(K:kC)(v:X)(w:U):Prop where
 d4:l4=aR->l2=aR/\l3=aR
 d5:l5=aR->l0=aR/\l1=aR/\l2=aR/\l3=aR/\l4=aR
 d6:l6=aR->l5=aR
 wf:WF Wg C n i bc bx bf bi (cfg inbox batcher t0 t1 t2 t3 t4) (Ad fr ad data) w
 kw:KW Wg C bc bx bf bi K w
 row:l4=aR->qY K.O w v (fs i)
 has:l6=aR->Has C i v w
def Cnt(z:Nat)(l0 l1 l2 l3 l4 l5 l6:Bool):Prop:=z+(l0.toNat+l1.toNat+l2.toNat+l3.toNat+l4.toNat+l5.toNat+l6.toNat)=7
def Reg.en{K:kC}{z:U}(h:Reg fs Wg C n i bc bx bf bi inbox batcher t0 t1 t2 t3 t4 fr ad data l0 l1 l2 l3 l4 l5 l6 K v w)(r:En (mJ Wg C n) (M i) K w z):Reg fs Wg C n i bc bx bf bi inbox batcher t0 t1 t2 t3 t4 fr ad data l0 l1 l2 l3 l4 l5 l6 K v z:=
 ⟨h.d4,h.d5,h.d6,h.wf.en h.kw.c h.kw.x h.kw.f h.kw.i r,⟨h.kw.c,h.kw.x,h.kw.f,h.kw.i,h.kw.sub,λb E=>aP (h.kw.low b E) r.size,aP h.kw.pay r.size,aP h.kw.grp r.size,h.kw.ne,bH h.kw.glob r.size⟩,
  λe=>(h.row e).stands (λ_=>id) r.block,λe=>(r.cell i rfl).trans (h.has e)⟩
def opens(l0 l1 l2 l3 l4 l5 l6:Bool):List Nat:=
 (if l0 then []else [0])++(if l1 then []else [1])++(if l2 then []else [2])++(if l3 then []else [3])++(if l4 then []else if l2&&l3 then [4]else [])++(if l5 then []else if l0&&l1&&l2&&l3&&l4 then [5]else [])++
  (if l6 then []else if l0&&l1&&l2&&l3&&l4&&l5 then [6]else [])
def ready_eq(l0 l1 l2 l3 l4 l5 l6:Bool):fR .any ug #[l0,l1,l2,l3,l4,l5,l6]=opens l0 l1 l2 l3 l4 l5 l6:=by
 cases l0<;>cases l1<;>cases l2<;>cases l3<;>cases l4<;>cases l5<;>cases l6<;>kernel_rfl
def SN{k:Nat}(h:k∈fR .any ug #[l0,l1,l2,l3,l4,l5,l6]):(k=0/\l0=aL)\/(k=1/\l1=aL)\/(k=2/\l2=aL)\/(k=3/\l3=aL)\/(k=4/\l4=aL/\l2=aR/\l3=aR)\/(k=5/\l5=aL/\l0=aR/\l1=aR/\l2=aR/\l3=aR/\l4=aR)\/(k=6/\l6=aL/\l5=aR/\l4=aR):=by
 rw[ready_eq]at h;revert h;cases l0<;>cases l1<;>cases l2<;>cases l3<;>cases l4<;>cases l5<;>cases l6<;>simp[opens]<;>omega
def O6(h4:l4=aR->l2=aR/\l3=aR)(z:l5=aR->l0=aR/\l1=aR/\l2=aR/\l3=aR/\l4=aR)(E:l6=aR->l5=aR)(hc:l0.toNat+l1.toNat+l2.toNat+l3.toNat+l4.toNat+l5.toNat+l6.toNat<7):fR .any ug #[l0,l1,l2,l3,l4,l5,l6]≠[]:=by
 rw[ready_eq];revert h4 z E hc;cases l0<;>cases l1<;>cases l2<;>cases l3<;>cases l4<;>cases l5<;>cases l6<;>simp[opens]
end
end
section
def agN:∃o,ug[0]? =M o/\o.op=.load 104 (cN 3)/\o.dst=M 5/\o.guard=Z:=⟨_,rfl,rfl,rfl,rfl⟩
def agK:∃o,ug[1]? =M o/\o.op=.load 3 (cN 4)/\o.dst=M 6/\o.guard=Z:=⟨_,rfl,rfl,rfl,rfl⟩
def ag8:∃o,ug[2]? =M o/\o.op=.load 24 (cN 1)/\o.dst=M 7/\o.guard=Z:=⟨_,rfl,rfl,rfl,rfl⟩
def ag9:∃o,ug[3]? =M o/\o.op=.load 125 (cN 2)/\o.dst=M 8/\o.guard=Z:=⟨_,rfl,rfl,rfl,rfl⟩
def ag3:∃o,ug[4]? =M o/\o.op=.call { callee:=.value (.func 73),args:=#[cN 7,cN 8],argTypes:=#[24,125] }/\o.dst=M 9/\o.guard=Z:=⟨_,rfl,rfl,rfl,rfl⟩
def ag6:∃o,ug[5]? =M o/\o.op=.indexAddr 104 (cN 5) (cN 6)/\o.dst=M 10/\o.guard=Z:=⟨_,rfl,rfl,rfl,rfl⟩
def agX:∃o,ug[6]? =M o/\o.op=.store 106 (cN 10) (cN 9)/\o.dst=Z/\o.guard=Z:=⟨_,rfl,rfl,rfl,rfl⟩
def jY{o:ij}{y:Nat->Option Bool}(h:o.guard=Z):cP o y=aR:=by simp[cP,h]
section
variable {Wg C n i bc bx bf bi:Nat}{inbox batcher t0 t1 t2 t3 t4 fr ad:Int}{data:ByteArray}{fs:Nat->List Fr.F}{l0 l1 l2 l3 l4 l5 l6:Bool}{K:kC}{v:X}{w:U}
def aa2(rd:ReadW)(hi:i<n)(aq:C≠Wg)(au:fs i=Fr.mg inbox batcher fr ad data.data.toList)(hd:data.size<=1048576)(t:Nat)(h:Reg fs Wg C n i bc bx bf bi inbox batcher t0 t1 t2 t3 t4 fr ad data aL aL aL aL aL aL aL K v w):kY bA aL (mJ Wg C n) (M i) (tC bA (mJ Wg C n) (leftOf fs) i) K (uy Wg C n i bc bx bf bi inbox batcher t0 t1 t2 t3 t4 fr ad data #[aL,aL,aL,aL,aL,aL,aL] v (Region.linearise.go .any ug 7 t (lO 7 aL) [])) w:=by
 refine Gh (σ:=kC×X×U×Array Bool) (md:=.any) (ops:=ug)
  (λak listed s=>s.2.2.2=listed/\∃l0 l1 l2 l3 l4 l5 l6,listed=#[l0,l1,l2,l3,l4,l5,l6]/\Cnt ak l0 l1 l2 l3 l4 l5 l6/\Reg fs Wg C n i bc bx bf bi inbox batcher t0 t1 t2 t3 t4 fr ad data l0 l1 l2 l3 l4 l5 l6 s.1 s.2.1 s.2.2.1)
  (λrest s=>kY _ aL _ _ _ s.1 (uy Wg C n i bc bx bf bi inbox batcher t0 t1 t2 t3 t4 fr ad data s.2.2.2 s.2.1 rest) s.2.2.1) ?done ?more 7 t _ (K,v,w,#[aL,aL,aL,aL,aL,aL,aL]) ⟨rfl,aL,aL,aL,aL,aL,aL,aL,rfl,rfl,h⟩
 case done=>
  rintro listed ⟨K,v,w,l⟩ ⟨rfl,l0,l1,l2,l3,l4,l5,l6,hl,hc,R⟩;have h4:l4=aR:=by unfold Cnt at hc;revert hc;cases l0<;>cases l1<;>cases l2<;>cases l3<;>cases l4<;>cases l5<;>cases l6<;>simp
  have h6:l6=aR:=by unfold Cnt at hc;revert hc;cases l0<;>cases l1<;>cases l2<;>cases l3<;>cases l4<;>cases l5<;>cases l6<;>simp
  exact ZO R.wf R.kw (R.has h6) (R.row h4)
 case more=>
  rintro ak listed ⟨K,v,w,l⟩ ⟨rfl,l0,l1,l2,l3,l4,l5,l6,hl,hc,R⟩;simp only at hl;subst hl;unfold Cnt at hc;refine⟨O6 R.d4 R.d5 R.d6 aA,λk hk rest J=>?_⟩;have ag:bW.kind≠.early:=baseD_kind _;obtain⟨rfl,e⟩|⟨rfl,e⟩|⟨rfl,e⟩|⟨rfl,e⟩|⟨rfl,e,e2,e3⟩|⟨rfl,e,e0,e1,e2,e3,e4⟩|⟨rfl,e,e5,e4⟩:=SN hk
  .subst e;obtain⟨o,ho,ac,aa,Y⟩:=agN;refine kY.op ho (jY Y) ag λE I=>?_;have z:=R.en I;obtain⟨r1,r2⟩:=ag4 z.wf (a:=⟨slots Wg C n i bc bx bf bi inbox batcher t0 t1 t2 t3 t4 fr ad data #[aL,l1,l2,l3,l4,l5,l6] v,[dcall link.done #[aD (M ⟨Wg,0,Z⟩)]]⟩) rfl ac;refine⟨_,E,r1,su λe he=>?_,?_⟩
   .have:=gN he;rw[r2]at this;simp at this;exact⟨_,this,z.kw.f,z.kw.low _ z.kw.f⟩
   .rw[kR,aa];have:=J (K,v,E,#[aR,l1,l2,l3,l4,l5,l6]) ⟨aC,aR,l1,l2,l3,l4,l5,l6,aC,by unfold Cnt;simp at hc⊢;omega,⟨z.d4,λh=>⟨rfl,(z.d5 h).2⟩,z.d6,z.wf,z.kw,z.row,z.has⟩⟩;simpa[uy,slots,Qq,dC]using this
  .subst e;obtain⟨o,ho,ac,aa,Y⟩:=agK;refine kY.op ho (jY Y) ag λE I=>?_;have z:=R.en I;obtain⟨r1,r2⟩:=ag2 z.wf (a:=⟨slots Wg C n i bc bx bf bi inbox batcher t0 t1 t2 t3 t4 fr ad data #[l0,aL,l2,l3,l4,l5,l6] v,[dcall link.done #[aD (M ⟨Wg,0,Z⟩)]]⟩) rfl ac;refine⟨_,E,r1,su λe he=>?_,?_⟩
   .have:=gN he;rw[r2]at this;simp at this;exact⟨_,this,z.kw.i,z.kw.low _ z.kw.i⟩
   .rw[kR,aa];have:=J (K,v,E,#[l0,aR,l2,l3,l4,l5,l6]) ⟨aC,l0,aR,l2,l3,l4,l5,l6,aC,by unfold Cnt;simp at hc⊢;omega,⟨z.d4,λh=>⟨(z.d5 h).1,rfl,(z.d5 h).2.2⟩,z.d6,z.wf,z.kw,z.row,z.has⟩⟩;simpa[uy,slots,Qq,dC]using this
  .subst e;obtain⟨o,ho,ac,aa,Y⟩:=ag8;refine kY.op ho (jY Y) ag λE I=>?_;have z:=R.en I;obtain⟨r1,r2⟩:=ahf z.wf (a:=⟨slots Wg C n i bc bx bf bi inbox batcher t0 t1 t2 t3 t4 fr ad data #[l0,l1,aL,l3,l4,l5,l6] v,[dcall link.done #[aD (M ⟨Wg,0,Z⟩)]]⟩) rfl ac;refine⟨_,E,r1,su λe he=>?_,?_⟩
   .have:=gN he;obtain⟨k,am⟩:=r2 _ this;exact⟨_,am,z.kw.c,z.kw.low _ z.kw.c⟩
   .rw[kR,aa];have:=J (K,v,E,#[l0,l1,aR,l3,l4,l5,l6]) ⟨aC,l0,l1,aR,l3,l4,l5,l6,aC,by unfold Cnt;simp at hc⊢;omega,⟨λh=>⟨rfl,(z.d4 h).2⟩,λh=>⟨(z.d5 h).1,(z.d5 h).2.1,rfl,(z.d5 h).2.2.2⟩,z.d6,z.wf,z.kw,z.row,z.has⟩⟩;simpa[uy,slots,Qq,dC]using this
  .subst e;obtain⟨o,ho,ac,aa,Y⟩:=ag9;refine kY.op ho (jY Y) ag λE I=>?_;have z:=R.en I;obtain⟨r1,r2⟩:=agF z.wf (a:=⟨slots Wg C n i bc bx bf bi inbox batcher t0 t1 t2 t3 t4 fr ad data #[l0,l1,l2,aL,l4,l5,l6] v,[dcall link.done #[aD (M ⟨Wg,0,Z⟩)]]⟩) rfl ac;refine⟨_,E,r1,su λe he=>?_,?_⟩
   .have:=gN he;obtain⟨k,am⟩:=r2 _ this;exact⟨_,am,z.kw.x,z.kw.low _ z.kw.x⟩
   .rw[kR,aa];have:=J (K,v,E,#[l0,l1,l2,aR,l4,l5,l6]) ⟨aC,l0,l1,l2,aR,l4,l5,l6,aC,by unfold Cnt;simp at hc⊢;omega,⟨λh=>⟨(z.d4 h).1,rfl⟩,λh=>⟨(z.d5 h).1,(z.d5 h).2.1,(z.d5 h).2.2.1,rfl,(z.d5 h).2.2.2.2⟩,z.d6,z.wf,z.kw,z.row,z.has⟩⟩;simpa[uy,slots,Qq,dC]using this
  .subst e e2 e3;obtain⟨o,ho,ac,aa,Y⟩:=ag3;refine rd _ _ _ _ _ _ _ _ _ _ _ _ _ _ _ _ inbox batcher t0 t1 t2 t3 t4 fr ad data ho (jY Y) ag ac (by simp[slots,Qq,kp]) (by simp[slots,Qq,kp]) hd R.kw.sub R.kw.low R.kw.pay R.kw.grp R.kw.glob ?_
   .rintro E I v' K' ah af hO ay ae ai aj az ar;have z:=R.en I;rw[<-au]at af;rw[aa];have ap:pL C n ah:=ar z.wf.pay;have an:iB link.tWg Wg ah:=az z.wf.live
    have:=J (K',v',ah,#[l0,l1,aR,aR,aR,l5,l6]) ⟨aC,l0,l1,aR,aR,aR,l5,l6,aC,by unfold Cnt;simp at hc⊢;omega,⟨λ_=>⟨rfl,rfl⟩,λh=>(by have:=(z.d5 h).2.2.2.2;cases this),z.d6,⟨(ai _ R.kw.c).trans z.wf.c,(ai _ R.kw.x).trans z.wf.x,(ai _ R.kw.f).trans z.wf.f,(ai _ R.kw.i).trans z.wf.i,an,ap⟩,
     ⟨hO _ R.kw.c,hO _ R.kw.x,hO _ R.kw.f,hO _ R.kw.i,ay,λb hb=>(aj b hb).1,aP z.kw.pay ae,aP z.kw.grp ae,λb hb=>(aj b hb).2.elim (R.kw.ne b) λh=>by have:=z.kw.pay;omega,bH z.kw.glob ae⟩,λ_=>af,λh=>(by have:=(z.d5 (z.d6 h)).2.2.2.2;cases this)⟩⟩
    simpa[uy,slots,Qq,dC]using this
  .subst e e0 e1 e2 e3 e4;obtain⟨o,ho,ac,aa,Y⟩:=ag6;refine kY.op ho (jY Y) ag λE I=>?_;have z:=R.en I;obtain⟨r1,r2⟩:=agR (w:=E) hi (a:=⟨slots Wg C n i bc bx bf bi inbox batcher t0 t1 t2 t3 t4 fr ad data #[aR,aR,aR,aR,aR,aL,l6] v,[dcall link.done #[aD (M ⟨Wg,0,Z⟩)]]⟩) rfl rfl ac;refine⟨_,E,r1,su λe he=>?_,?_⟩
   .have:=gN he
    grind
   .rw[kR,aa];have:=J (K,v,E,#[aR,aR,aR,aR,aR,aR,l6]) ⟨aC,aR,aR,aR,aR,aR,aR,l6,aC,by unfold Cnt;simp at hc⊢;omega,⟨z.d4,λ_=>⟨rfl,rfl,rfl,rfl,rfl⟩,λ_=>rfl,z.wf,z.kw,z.row,z.has⟩⟩;simpa[uy,slots,Qq,dC]using this
  .subst e e5 e4;obtain⟨rfl,rfl,rfl,rfl,_⟩:=R.d5 rfl;obtain⟨o,ho,ac,aa,Y⟩:=agX;refine kY.opn ho (jY Y) ag λE I=>?_;have z:=R.en I;have af:=z.row rfl
   obtain⟨x,l,c,hv⟩:∃x l c,v=.slice x l c:=by
    obtain⟨e,_⟩|⟨g,cap,a0,e,_⟩:=af
    .exact⟨_,_,_,e⟩
    grind
   subst hv;obtain⟨r1,r2⟩:=ahe (w:=E) z.wf.pay hi (a:=⟨slots Wg C n i bc bx bf bi inbox batcher t0 t1 t2 t3 t4 fr ad data #[aR,aR,aR,aR,aR,aR,aL] (.slice x l c),[dcall link.done #[aD (M ⟨Wg,0,Z⟩)]]⟩) rfl rfl ac
   have ao:=acG (S:=mJ Wg C n) (K:=K) (i:=i) (v:=.slice x l c) (es:=listed bA bW.fn ⟨slots Wg C n i bc bx bf bi inbox batcher t0 t1 t2 t3 t4 fr ad data #[aR,aR,aR,aR,aR,aR,aL] (.slice x l c),[dcall link.done #[aD (M ⟨Wg,0,Z⟩)]]⟩ o E) z.wf.pay λe he=>by
    have:=gN he
    grind
   refine⟨_,r1,ao,?_⟩;obtain⟨_,_,_,ae⟩:=kE E ⟨C,i,Z⟩ (.slice x l c);rw[ae,kR,aa];have hb:∀b,K.O b->(E.setCell ⟨C,i,Z⟩ (.slice x l c)).heap[b]? =E.heap[b]?:=λb hb=>kL (R.kw.ne b hb);have av:(E.setCell ⟨C,i,Z⟩ (.slice x l c)).heap[Wg]? =E.heap[Wg]?:=kL (mn aq)
   have:=J (K,.slice x l c,E.setCell _ _,#[aR,aR,aR,aR,aR,aR,aR]) ⟨aC,aR,aR,aR,aR,aR,aR,aR,aC,by unfold Cnt;simp at hc⊢;omega,
    ⟨λ_=>⟨rfl,rfl⟩,λ_=>⟨rfl,rfl,rfl,rfl,rfl⟩,λ_=>rfl,⟨(hb _ z.kw.c).trans z.wf.c,(hb _ z.kw.x).trans z.wf.x,(hb _ z.kw.f).trans z.wf.f,(hb _ z.kw.i).trans z.wf.i,let ⟨st,sm,hl⟩:=z.wf.live;⟨st,sm,hl.of_block av⟩,ao.pay z.wf.pay⟩,
     ⟨z.kw.c,z.kw.x,z.kw.f,z.kw.i,z.kw.sub,λb aw=>by rw[ae];exact z.kw.low b aw,by rw[ae];exact z.kw.pay,by rw[ae];exact z.kw.grp,z.kw.ne,by rw[ae];exact z.kw.glob⟩,λ_=>af.stands (λ_=>id) hb,λ_=>ZM z.wf.pay hi⟩⟩
   simpa[uy,slots,Qq,dC]using this
end
end
section
section
variable {Wg C n i bc bx bf bi:Nat}{inbox batcher t0 t1 t2 t3 t4 fr ad:Int}{data:ByteArray}{fs:Nat->List Fr.F}{K:kC}{w:U}
def KW.en{z:U}(h:KW Wg C bc bx bf bi K w)(r:En (mJ Wg C n) (M i) K w z):KW Wg C bc bx bf bi K z:=
 ⟨h.c,h.x,h.f,h.i,h.sub,λb E=>aP (h.low b E) r.size,aP h.pay r.size,aP h.grp r.size,h.ne,bH h.glob r.size⟩
def PO(rd:ReadW)(hi:i<n)(aa:C≠Wg)(ac:fs i=Fr.mg inbox batcher fr ad data.data.toList)(hd:data.size<=1048576)(hF:WF Wg C n i bc bx bf bi (cfg inbox batcher t0 t1 t2 t3 t4) (Ad fr ad data) w)(Y:KW Wg C bc bx bf bi K w):kY bA aL (mJ Wg C n) (M i) (tC bA (mJ Wg C n) (leftOf fs) i) K (born bA (JU Wg bc bx bf bi)) w:=by
 refine kY.step rfl λz I=>⟨_,z,_,born_step z,.still ..,?_⟩
 rw[kR];have E:WF Wg C n i bc bx bf bi (cfg inbox batcher t0 t1 t2 t3 t4) (Ad fr ad data) z/\KW Wg C bc bx bf bi K z:=⟨hF.en Y.c Y.x Y.f Y.i I,Y.en I⟩
 have rl:∀{w z:U},(WF Wg C n i bc bx bf bi (cfg inbox batcher t0 t1 t2 t3 t4) (Ad fr ad data) w/\KW Wg C bc bx bf bi K w)->En (mJ Wg C n) (M i) K w z->(WF Wg C n i bc bx bf bi (cfg inbox batcher t0 t1 t2 t3 t4) (Ad fr ad data) z/\KW Wg C bc bx bf bi K z):=
  λh r=>⟨h.1.en h.2.c h.2.x h.2.f h.2.i r,h.2.en r⟩
 clear hF Y I;have hb:YE=(bR (.region 0 #[{ dst:=Z,op:=.defer { callee:=.value (.func 72),args:=#[cN 0],argTypes:=#[150] },type:=0,pos:= "upper.go:57",after:=#[],guard:=Z }] aL) (.region 1 ug aR)):=rfl;rw[hb];refine kY.go (n:=10) ?_;u_c cE rl E;u_reg rl E;u_defer rl E;u_c aM rl E;refine cL λaf J=>?_;replace E:=rl E J;clear J;refine kY.draw λae R t=>?_;replace E:=rl E R;clear R;rw[sched];exact aa2 (v:=aE) rd hi aa ac hd t ⟨aC,aC,aC,⟨E.1.c,E.1.x,E.1.f,E.1.i,E.1.live,E.1.pay⟩,⟨E.2.c,E.2.x,E.2.f,E.2.i,E.2.sub,E.2.low,E.2.pay,E.2.grp,E.2.ne,E.2.glob⟩,aC,aC⟩
end
end
section
variable {tb q b:Nat}{fr ad k j k1 k2:Int}{data k3:ByteArray}{ty:cG}{x y z:X}{fn:ph}{e:jz}
section
variable {w:U}{a:Act}{o:ij}
def ab3(R:w.cell? ⟨tb,q,Z⟩=M (N eA fr))(J:w.cell? ⟨tb,q+1,Z⟩=M (N eA ad))(h2:w.cell? ⟨tb,q+2,Z⟩=M (bB data))(I:a.eval (cN 17)=aD (M ⟨tb,q,Z⟩))(E:o.op=.load 125 (cN 17)):(bN a.eval o).run bA w=.ok (.value (.agg (Ad fr ad data))) w/\∀e∈(bN a.eval o).events bA w #[],∃k,e=⟨.cell ⟨tb,k,Z⟩,aL,aL⟩:=by
 constructor
 .unfold bN;simp only[E,I];simp[go_sem,R,J,h2]
 .unfold bN;simp only[E,I];simp[go_sem,R,J,h2]
def afG(E:o.op=.alloc 3):(bN a.eval o).run bA w=.ok (.value (aD (M ⟨↑w,0,Z⟩))) (w.alloc (aG #[N ab 0] 3))/\(bN a.eval o).events bA w #[]=#[]:=by
 constructor
 .unfold bN;simp only[E];simp[go_sem]
 .unfold bN;simp only[E];simp[go_sem]
def afL(E:o.op=.alloc 125):(bN a.eval o).run bA w=.ok (.value (aD (M ⟨↑w,0,Z⟩))) (w.alloc (aG #[N eA 0,N eA 0,bB ⟨#[]⟩] 125))/\(bN a.eval o).events bA w #[]=#[]:=by
 constructor
 .unfold bN;simp only[E];simp[go_sem]
 .unfold bN;simp only[E];simp[go_sem]
def aeI(R:w.heap[b]? =M (aG #[N ab k] 3))(J:a.eval (cN 7)=aD (M ⟨b,0,Z⟩))(I:a.eval (cN 16)=N ab j)(E:o.op=.store 3 (cN 7) (cN 16)):(bN a.eval o).run bA w=.ok .skip (w.setCell ⟨b,0,Z⟩ (N ab j))/\(bN a.eval o).events bA w #[]=#[⟨.cell ⟨b,0,Z⟩,aR,aL⟩]:=by
 have hc:w.cell? ⟨b,0,Z⟩=M (N ab k):=by simp[eB,R]
 have Y:w.frozen? ⟨b,0,Z⟩=aL:=by simp[iX,R]
 constructor
 .unfold bN;simp only[E,J,I];simp[go_sem,stored,hc,Y]
 .unfold bN;simp only[E,J,I];simp[go_sem,storedEv,hc,Y]
def RV{u v:X}(E:w.heap[b]? =M (aG #[u] ty)):(w.setCell ⟨b,0,Z⟩ v).heap[b]? =M (aG #[v] ty):=by simp[eQ,bT,E]
def vJ(w:U)(b:Nat)(x y z:X):U:=((w.setCell ⟨b,0,Z⟩ x).setCell ⟨b,1,Z⟩ y).setCell ⟨b,2,Z⟩ z
def Xn{E I J:X}(R:w.heap[b]? =M (aG #[E,I,J] ty)):(vJ w b x y z).heap[b]? =M (aG #[x,y,z] ty):=by simp[vJ,eQ,bT,R]
def DT(w:U)(b:Nat)(x y z:X):(vJ w b x y z).tape=w.tape/\(vJ w b x y z).os=w.os/\(vJ w b x y z).output=w.output/\(vJ w b x y z).heap.size=w.heap.size/\∀c,c≠b->(vJ w b x y z).heap[c]? =w.heap[c]?:=by
 obtain⟨a1,a2,J,Y⟩:=kE w ⟨b,0,Z⟩ x;obtain⟨E,b2,I,b4⟩:=kE (w.setCell ⟨b,0,Z⟩ x) ⟨b,1,Z⟩ y;obtain⟨R,c2,c3,c4⟩:=kE ((w.setCell ⟨b,0,Z⟩ x).setCell ⟨b,1,Z⟩ y) ⟨b,2,Z⟩ z
 exact⟨R.trans (E.trans a1),c2.trans (b2.trans a2),c3.trans (I.trans J),c4.trans (b4.trans Y),λc hc=>by
  unfold vJ;rw[kL (ad:=⟨b,2,Z⟩) hc,kL (ad:=⟨b,1,Z⟩) hc,kL (ad:=⟨b,0,Z⟩) hc]⟩
def afr(J:w.heap[b]? =M (aG #[N eA k1,N eA k2,bB k3] 125))(h8:a.eval (cN 8)=aD (M ⟨b,0,Z⟩))(E:a.eval (cN 18)=.agg (Ad fr ad data))(I:o.op=.store 125 (cN 8) (cN 18)):(bN a.eval o).run bA w=.ok .skip (vJ w b (N eA fr) (N eA ad) (bB data))/\∀e∈(bN a.eval o).events bA w #[],∃k,e=⟨.cell ⟨b,k,Z⟩,aR,aL⟩:=by
 have b1:(w.setCell ⟨b,0,Z⟩ (N eA fr)).heap[b]? =M (aG #[N eA fr,N eA k2,bB k3] 125):=by simp[eQ,bT,J]
 have b2:((w.setCell ⟨b,0,Z⟩ (N eA fr)).setCell ⟨b,1,Z⟩ (N eA ad)).heap[b]? =M (aG #[N eA fr,N eA ad,bB k3] 125):=by simp[eQ,bT,J]
 have c0:w.cell? ⟨b,0,Z⟩=M (N eA k1):=by simp[eB,J]
 have z0:w.frozen? ⟨b,0,Z⟩=aL:=by simp[iX,J]
 have c1:(w.setCell ⟨b,0,Z⟩ (N eA fr)).cell? ⟨b,1,Z⟩=M (N eA k2):=by simp[eB,b1]
 have z1:(w.setCell ⟨b,0,Z⟩ (N eA fr)).frozen? ⟨b,1,Z⟩=aL:=by simp[iX,b1]
 have R:((w.setCell ⟨b,0,Z⟩ (N eA fr)).setCell ⟨b,1,Z⟩ (N eA ad)).cell? ⟨b,2,Z⟩=M (bB k3):=by simp[eB,b2]
 have Y:((w.setCell ⟨b,0,Z⟩ (N eA fr)).setCell ⟨b,1,Z⟩ (N eA ad)).frozen? ⟨b,2,Z⟩=aL:=by simp[iX,b2]
 constructor
 .unfold bN;simp only[I,h8,E];simp[go_sem,stored,c0,z0,c1,z1,R,Y,vJ]
 .unfold bN;simp only[I,h8,E];simp[go_sem,stored,storedEv,c0,z0,c1,z1,R,Y,pw _ _ _ _ _ _ (show(bB data).oneCell'=aR from rfl)]
def U1(I:a.eval (cN 17)=aD (M ⟨tb,q,Z⟩))(E:o.op=.load 125 (cN 17))(R:w.cell? ⟨tb,q,Z⟩=M (N eA fr))(J:w.cell? ⟨tb,q+1,Z⟩=M (N eA ad))(h2:w.cell? ⟨tb,q+2,Z⟩=M (bB data)):(bN a.eval o).run bA w=.ok (.value (.agg (Ad fr ad data))) w:=(ab3 R J h2 I E).1
def VB(I:e∈listed bA fn a o w)(J:a.eval (cN 17)=aD (M ⟨tb,q,Z⟩))(E:o.op=.load 125 (cN 17))(Y:w.cell? ⟨tb,q,Z⟩=M (N eA fr))(R:w.cell? ⟨tb,q+1,Z⟩=M (N eA ad))(h2:w.cell? ⟨tb,q+2,Z⟩=M (bB data)):∃k,e=⟨.cell ⟨tb,k,Z⟩,aL,aL⟩:=(ab3 Y R h2 J E).2 e (gN I)
def Wi(E:o.op=.alloc 3):(bN a.eval o).run bA w=.ok (.value (aD (M ⟨↑w,0,Z⟩))) (w.alloc (aG #[N ab 0] 3)):=(afG E).1
def aaw(E:o.op=.alloc 3):listed bA fn a o w=#[]:=by unfold listed;rw[(afG E).2,seen_none]
def VJ(E:o.op=.alloc 125):(bN a.eval o).run bA w=.ok (.value (aD (M ⟨↑w,0,Z⟩))) (w.alloc (aG #[N eA 0,N eA 0,bB ⟨#[]⟩] 125)):=(afL E).1
def abu(E:o.op=.alloc 125):listed bA fn a o w=#[]:=by unfold listed;rw[(afL E).2,seen_none]
def WJ(J:a.eval (cN 7)=aD (M ⟨b,0,Z⟩))(I:a.eval (cN 16)=N ab j)(E:o.op=.store 3 (cN 7) (cN 16))(R:w.heap[b]? =M (aG #[N ab k] 3)):(bN a.eval o).run bA w=.ok .skip (w.setCell ⟨b,0,Z⟩ (N ab j)):=(aeI R J I E).1
def aaF(J:e∈listed bA fn a o w)(R:a.eval (cN 7)=aD (M ⟨b,0,Z⟩))(I:a.eval (cN 16)=N ab j)(E:o.op=.store 3 (cN 7) (cN 16))(Y:w.heap[b]? =M (aG #[N ab k] 3)):e=⟨.cell ⟨b,0,Z⟩,aR,aL⟩:=by
 have:=gN J;rw[(aeI Y R I E).2]at this;simpa using this
def WQ(J:a.eval (cN 8)=aD (M ⟨b,0,Z⟩))(E:a.eval (cN 18)=.agg (Ad fr ad data))(I:o.op=.store 125 (cN 8) (cN 18))(R:w.heap[b]? =M (aG #[N eA k1,N eA k2,bB k3] 125)):(bN a.eval o).run bA w=.ok .skip (vJ w b (N eA fr) (N eA ad) (bB data)):=(afr R J E I).1
def abe(R:e∈listed bA fn a o w)(J:a.eval (cN 8)=aD (M ⟨b,0,Z⟩))(E:a.eval (cN 18)=.agg (Ad fr ad data))(I:o.op=.store 125 (cN 8) (cN 18))(Y:w.heap[b]? =M (aG #[N eA k1,N eA k2,bB k3] 125)):∃k,e=⟨.cell ⟨b,k,Z⟩,aR,aL⟩:=(afr Y J E I).2 e (gN R)
def Qx{S:Who}{R:Option Nat}{K:kC}{es:Array jz}(I:K.W b)(Y:b<↑w)(hC:b≠S.C)(h:∀e∈es,∃k,e=⟨.cell ⟨b,k,Z⟩,aR,aL⟩):Gu S R K w (vJ w b x y z) es:=by obtain⟨J,h2,h3,h4,E⟩:=DT w b x y z;refine⟨J,h2,h3,jq h4.symm,λc _ hn _=>E c λe=>hn (e ▸ I),λ⟨cs,a,d⟩=>⟨cs,(E _ (mn hC)).trans a,d⟩,λi _=>cell_of_block (E _ (mn hC)) i,λe he=>?_⟩;obtain⟨k,rfl⟩:=h e he;exact bE (bE ⟨_,aR,rfl,bE (by simpa using I),by rw[h4];exact Y⟩)
end
end
section
abbrev bS:cR:=base 50
def AB(T:Array X)(h:T.size=24):∃v0 v1 v2 v3 v4 v5 v6 v7 v8 v9 E ah J z af R ae ag ai aa Y I ac aj,T=#[v0,v1,v2,v3,v4,v5,v6,v7,v8,v9,E,ah,J,z,af,R,ae,ag,ai,aa,Y,I,ac,aj]:=by
 obtain⟨l⟩:=T
 match l,h with
 |[v0,v1,v2,v3,v4,v5,v6,v7,v8,v9,E,ah,J,z,af,R,ae,ag,ai,aa,Y,I,ac,aj],_=>simp
noncomputable def loopS:eE:=match Tryz.f50.body with
 |some (bR _ (bR _ (bR _ (bR (bR _ (.block _ (.loop c))) _))))=>c
 |_=>.skip
noncomputable def xq:eE:=match Tryz.f50.body with
 |some (bR _ (bR _ (bR _ (bR _ c))))=>c
 |_=>.skip
noncomputable def tail9:eE:=match xq with
 |bR _ c=>c
 |_=>.skip
noncomputable def ops9:Array ij:=match xq with
 |bR (.region _ ops _) _=>ops
 |_=>#[]
structure SF(OB:Nat->Prop)(W:U)(Wg C n:Nat)(K:kC)(w:U):Prop where
 sub:∀b,OB b->K.O b
 old:∀b,OB b->w.heap[b]? =W.heap[b]?
 kw:∀b,K.W b->K.O b
 ko:∀b,K.O b->b<w.heap.size/\b≠Wg/\b≠C
 pay:pL C n w
 hC:C<w.heap.size
 hG:Wg<w.heap.size
 glob:Tryz.prog.globals.size<=w.heap.size
 new:∀b,K.O b->OB b\/W.heap.size<=b
 siz:↑W<=w.heap.size
 still:w.tape=W.tape/\w.os=W.os/\w.output=W.output
 low:∀b,b<C-1->b<W.heap.size->b≠Wg->w.heap[b]? =W.heap[b]?
def leftB(bc bf:Nat)(W:U)(fs:Nat->List Fr.F):Left:=λi v O w=>leftOf fs i v O w/\∀b,O b->(b=bc\/b=bf)\/W.heap.size<=b
def Jf(bc bf:Nat)(W:U)(fs:Nat->List Fr.F):(leftB bc bf W fs).nR:=λi v O w w₁ z h=>⟨Ez fs i v O w w₁ z h.1,h.2⟩
section
variable {OB:Nat->Prop}{W:U}{Wg C n:Nat}{K:kC}{w w₁:U}
def SF.en(h:SF OB W Wg C n K w)(r:En (mJ Wg C n) Z K w w₁):SF OB W Wg C n K w₁:=
 ⟨h.sub,λb z=>(r.block b (h.sub b z)).trans (h.old b z),h.kw,λb z=>⟨aP (h.ko b z).1 r.size,(h.ko b z).2⟩,r.pay h.pay,aP h.hC r.size,aP h.hG r.size,bH h.glob r.size,h.new,bH h.siz r.size,⟨r.tape.trans h.still.1,r.os.trans h.still.2.1,r.output.trans h.still.2.2⟩,λb E h2 h3=>(r.low b E).trans (h.low b E h2 h3)⟩
def SF.wg(E:C≠Wg)(h:SF OB W Wg C n K w)(r:Go.Conc.Aside Wg w w₁):SF OB W Wg C n K w₁:=
 ⟨h.sub,λb z=>(r.block b (h.ko b (h.sub b z)).2.1).trans (h.old b z),h.kw,λb z=>⟨by rw[r.size];exact(h.ko b z).1,(h.ko b z).2⟩,let ⟨cs,I,h2⟩:=h.pay;⟨cs,(r.block _ E).trans I,h2⟩,by rw[r.size];exact h.hC,by rw[r.size];exact h.hG,by rw[r.size];exact h.glob,h.new,by rw[r.size];exact h.siz,⟨r.tape.trans h.still.1,r.os.trans h.still.2.1,r.output.trans h.still.2.2⟩,λb I h2 h3=>(r.block b h3).trans (h.low b I h2 h3)⟩
def SF.gu{w':U}{es:Array jz}(h:SF OB W Wg C n K w)(g:Gu (mJ Wg C n) Z K w w' es)(E:∀b,K.W b->¬OB b):SF OB W Wg C n (K.grow ↑w ↑w') w':=by
 have hs:=g.size;have hC:=h.hC;have hG:=h.hG
 exact⟨λb z=>bE (h.sub b z),λb z=>(g.block b (h.ko b (h.sub b z)).1 (λhw=>E b hw z) λ_=>rfl).trans (h.old b z),λb z=>z.imp (h.kw b) id,
  λb z=>z.elim (λx=>⟨aP (h.ko b x).1 hs,(h.ko b x).2⟩) λx=>⟨x.2,aA,aA⟩,g.pay h.pay,aP hC hs,aP hG hs,bH h.glob hs,
  λb z=>z.elim (h.new b) λx=>cD (bH h.siz x.1),bH h.siz hs,⟨g.tape.trans h.still.1,g.os.trans h.still.2.1,g.output.trans h.still.2.2⟩,
  λb I h2 h3=>(g.block b (aP h2 h.siz) (λhw=>(h.new b (h.kw b hw)).elim (E b hw) λx=>aA) λ_=>rfl).trans (h.low b I h2 h3)⟩
def QG(tx:Option eM)(n cap Wg bc bf j:Nat)(cs:List cR)(g:cA):Prop:=
 ∃T:Array X,g=G (bS.at ⟨T,[]⟩ [.code loopS,.inLoop loopS,.inBlock 0,.code xq]) cs/\T.size=24/\T[2]? =M (aD (M ⟨bc,0,Z⟩))/\T[5]? =M (aD (M ⟨bf,0,Z⟩))/\T[6]? =M (aD (M ⟨Wg,0,Z⟩))/\
  T[12]? =M (.slice tx n cap)/\T[13]? =M (N ab n)/\T[14]? =M (N ab j)
def AnchS(OB:Nat->Prop)(W:U)(Wg C n bf:Nat)(cs:List cR)(K:kC)(g:cA)(w:U):Prop:=
 ∃T:Array X,T.size=24/\T[5]? =M (aD (M ⟨bf,0,Z⟩))/\Jt link (SF OB W Wg C n) Wg (bS.at ⟨T,[]⟩ (bL ops9 (0::[])::[.code tail9])) cs K g w
def acO(OB:Nat->Prop)(W:U)(Wg C n bf:Nat)(cs:List cR)(K:kC)(g:cA)(w:U):Prop:=
 ∃T:Array X,T.size=24/\T[5]? =M (aD (M ⟨bf,0,Z⟩))/\g=G (bS.at ⟨T,[]⟩ (bL ops9 []::[.code tail9])) cs/\SF OB W Wg C n K w
variable {bf:Nat}{cs:List cR}
def Qr(E:C≠Wg)(K:kC)(g:cA)(w:U)(h:AnchS OB W Wg C n bf cs K g w):Way bA (mJ Wg C n) (Ah bA (mJ Wg C n) (acO OB W Wg C n bf cs) (AnchS OB W Wg C n bf cs)) K g w:=by
 obtain⟨T,I,t5,J⟩:=h;refine Way.mono (waitRound (L:=link) wgLib (Wg:=Wg) (C:=C) (n:=n) (Fin:=acO OB W Wg C n bf cs) (Fk:=SF OB W Wg C n) (b₀:=bS) (a₀:=⟨T,[]⟩) (ops₀:=ops9) (i₀:=0) (rest₀:=[]) (k₀:=[.code tail9]) (cs:=cs) (λ_ _ _ r h=>h.en r) (λ_ _ _ r h=>h.wg E r) ?_ K g w J) λK g w x=>Ah.mono (λK g w y=>⟨T,I,t5,y⟩) x;intro K w R;refine Way.stop λw₁ z=>⟨T.setIfInBounds 22 (cQ #[]),by simp[I],by grind,?_,R.1.en z⟩
 rfl
end
end
section
variable {K:kC}{w:U}{g:cA}
section
variable {OB:Nat->Prop}{W:U}{Wg C n cap bc bf tb q0:Nat}{cs:List cR}{inbox batcher t0 t1 t2 t3 t4:Int}{fr ad:Nat->Int}{data:Nat->ByteArray}{fs:Nat->List Fr.F}
def kP{z:U}(h:SF OB W Wg C n K w/\iB link.tWg Wg w)(r:En (mJ Wg C n) Z K w z):SF OB W Wg C n K z/\iB link.tWg Wg z:=⟨h.1.en r,r.live h.2⟩
def SX(tx:Option eM)(hg:QG tx n cap Wg bc bf n cs g)(z:SF OB W Wg C n K w/\iB link.tWg Wg w):Way bA (mJ Wg C n) (zy bA (mJ Wg C n) (AnchS OB W Wg C n bf cs)) K g w:=by
 obtain⟨T,rfl,hT,t2,t5,t6,t12,J,t14⟩:=hg;obtain⟨v0,v1,v2,v3,v4,v5,v6,v7,v8,v9,Y,an,ac,R,ak,ae,aj,am,ao,ah,af,aa,ai,ap,rfl⟩:=AB T hT;simp only[eX,eU,dX,aK]at t2 t5 t6 t12 J t14;subst t2 t5 t6 t12 J t14;have ag:¬((n:Int)<n):=aA
 simp only[loopS,xq,Tryz.f50];refine Way.go (n:=40) ?_;u_c cE kP z;u_reg kP z;u_op kP z;u_c aM kP z;u_c cE kP z;u_cond aL kP z;u_exit kP z;u_c cE kP z;u_reg kP z;u_in kP z;refine goes_call rfl rfl (by k_ne) rfl wgLib.f_wait (nm_wait link) rfl ⟨by u_nil,?_⟩;walk_nrmf waitFn;refine cL λI E=>?_;replace z:=kP z E;refine Way.mono (waitStart (L:=link) (P:=bA) wgLib (Wg:=Wg) (C:=C) (n:=n) (Fk:=SF OB W Wg C n) (b₀:=bS) (a₀:=_) (ops₀:=ops9) (i₀:=0) (rest₀:=[]) (k₀:=[.code tail9]) (cs:=cs) (λ_ _ _ r h=>h.en r) K I z) λK g w x=>zy.mono (λK g w y=>⟨_,?_,?_,y⟩) x
 all_goals simp
def L6(rd:ReadW){St':kC->cA->U->Prop}(ba:C≠Wg){j:Nat}(hj:j<n)(hn:n<9223372036854775808)(a4:OB tb)(bb:OB bc)(bk:OB bf)(bv:W.heap[bc]? =M (aG (cfg inbox batcher t0 t1 t2 t3 t4) 24))(b3:W.heap[bf]? =M (aG #[aH (M ⟨C,0,Z⟩) n n] 104))(hx:W.cell? ⟨tb,q0+j*3,Z⟩=M (N eA (fr j))/\W.cell? ⟨tb,q0+j*3+1,Z⟩=M (N eA (ad j))/\W.cell? ⟨tb,q0+j*3+2,Z⟩=M (bB (data j)))(bz:fs j=Fr.mg inbox batcher (fr j) (ad j) (data j).data.toList)(hd:(data j).size<=1048576)(hg:QG (M ⟨tb,q0,Z⟩) n cap Wg bc bf j cs g)(z:SF OB W Wg C n K w/\iB link.tWg Wg w)(hK:∀b,¬K.W b)(a6:∀K g w,QG (M ⟨tb,q0,Z⟩) n cap Wg bc bf (j+1) cs g->SF OB W Wg C n K w/\iB link.tWg Wg w->(∀b,¬K.W b)->Way bA (mJ Wg C n) St' K g w):Way bA (mJ Wg C n) (Lj bA (mJ Wg C n) (leftB bc bf W fs) j (λK g w=>Way bA (mJ Wg C n) St' K g w)) K g w:=by
 obtain⟨T,rfl,hT,t2,t5,t6,t12,bg,t14⟩:=hg;obtain⟨v0,v1,v2,v3,v4,v5,v6,v7,v8,v9,ck,cc,co,b6,cn,b8,b9,ci,cr,cf,ce,b7,cq,ct,rfl⟩:=AB T hT;simp only[eX,eU,dX,aK]at t2 t5 t6 t12 bg t14;subst t2 t5 t6 t12 bg t14;have cd:(j:Int)<n:=aA
 have ca:(0:Int)<=(j:Int):=aA
 simp only[loopS,Tryz.f50];refine Way.go (n:=40) ?_;u_c cE kP z;u_reg kP z;u_op kP z;u_c aM kP z;u_c cE kP z;u_cond aR kP z;u_c gF kP z;u_c cE kP z;u_c pQ kP z;u_c cE kP z;u_reg kP z
 iterate 2 u_op kP z
 refine cL λb5 a0=>?_;replace z:=kP z a0;clear a0;refine Way.m (kY.op rfl rfl (by k_ne) λbj a1=>?_);replace z:=kP z a1;clear a1;have E:=λk=>cell_of_block (z.1.old tb a4) k;refine⟨_,bj,U1 rfl rfl ((E _).trans hx.1) ((E _).trans hx.2.1) ((E _).trans hx.2.2),su λe he=>?_,?_⟩
 .obtain⟨k,rfl⟩:=VB he rfl rfl ((E _).trans hx.1) ((E _).trans hx.2.1) ((E _).trans hx.2.2);exact⟨_,rfl,z.1.sub tb a4,(z.1.ko tb (z.1.sub tb a4)).1⟩
 rw[kR];clear E;walk_nrm;refine kY.op rfl rfl (by k_ne) λao a2=>?_;replace z:=kP z a2;clear a2;have ae:Gu (mJ Wg C n) Z K ao (ao.alloc (aG #[N ab 0] 3)) #[]:=KC z.1.hC;refine⟨_,_,Wi rfl,by rw[aaw rfl];exact ae,?_⟩;have hS:=z.1.gu ae λb hb=>Xs hb (hK b);obtain⟨bi,aq⟩:∃bi,ao.heap.size=bi:=⟨_,rfl⟩
 obtain⟨V,hV⟩:∃V,ao.alloc (aG #[N ab 0] 3)=V:=⟨_,rfl⟩
 have J:V.heap[bi]? =M (aG #[N ab 0] 3):=by rw[<-hV,<-aq];exact cT _ _
 have a7:V.heap.size=bi+1:=by rw[<-hV,<-aq];simp
 have Y:iB link.tWg Wg V:=let ⟨st,sm,hl⟩:=z.2;⟨st,sm,hl.of_block (by rw[<-hV];exact ae.block _ z.1.hG (hK _) λ_=>rfl)⟩
 rw[hV]at hS;rw[hV,aq];rw[aq]at hS;obtain⟨K1,au⟩:∃K1,K.grow bi V.heap.size=K1:=⟨_,rfl⟩
 rw[au]at hS⊢;have a8:K1.O bi:=by rw[<-au];exact cD ⟨jB,aA⟩
 have bd:K1.W bi:=by rw[<-au];exact cD ⟨jB,aA⟩
 have bu:∀b,K1.W b->b=bi:=by rw[<-au];exact λb hb=>hb.elim (λh=>Xs h (hK b)) λh=>aA
 have bw:¬OB bi:=λh=>by have:=(z.1.ko bi (z.1.sub bi h)).1;omega
 replace z:SF OB W Wg C n K1 V/\iB link.tWg Wg V:=⟨hS,Y⟩
 clear ae hS Y hV au a7 aq;walk_nrm;refine kY.op rfl rfl (by k_ne) λag av=>?_;replace z:=kP z av;have bl:=(av.block bi a8).trans J;clear av J;have ae:Gu (mJ Wg C n) Z K1 ag (ag.alloc (aG #[N eA 0,N eA 0,bB ⟨#[]⟩] 125)) #[]:=KC z.1.hC;refine⟨_,_,VJ rfl,by rw[abu rfl];exact ae,?_⟩;have hS:=z.1.gu ae λb hb=>by grind
 obtain⟨bx,ap⟩:∃bx,ag.heap.size=bx:=⟨_,rfl⟩
 have cl:bi<bx:=by rw[<-ap];exact(z.1.ko bi a8).1
 obtain⟨V2,hV⟩:∃V,ag.alloc (aG #[N eA 0,N eA 0,bB ⟨#[]⟩] 125)=V:=⟨_,rfl⟩
 have ah:V2.heap[bx]? =M (aG #[N eA 0,N eA 0,bB ⟨#[]⟩] 125):=by rw[<-hV,<-ap];exact cT _ _
 have a7:V2.heap.size=bx+1:=by rw[<-hV,<-ap];simp
 have J:V2.heap[bi]? =M (aG #[N ab 0] 3):=by
  rw[<-hV]
  show(ag.heap.push _)[bi]? =_
  rw[Array.getElem?_push_lt aA,<-dA];exact bl
 have Y:iB link.tWg Wg V2:=let ⟨st,sm,hl⟩:=z.2;⟨st,sm,hl.of_block (by rw[<-hV];exact ae.block _ z.1.hG (λh=>(z.1.ko _ (z.1.kw _ h)).2.1 rfl) λ_=>rfl)⟩
 rw[hV]at hS;rw[hV,ap];rw[ap]at hS;obtain⟨K2,aj⟩:∃K2,K1.grow bx V2.heap.size=K2:=⟨_,rfl⟩
 rw[aj]at hS⊢;have af:K2.O bx:=by rw[<-aj];exact cD ⟨jB,aA⟩
 have aw:K2.W bx:=by rw[<-aj];exact cD ⟨jB,aA⟩
 have I:K2.O bi:=by rw[<-aj];exact bE a8
 have cg:∀b,K2.W b->b=bi\/b=bx:=by rw[<-aj];exact λb hb=>hb.elim (λh=>bE (bu b h)) λh=>cD aA
 have b0:¬OB bx:=λh=>by have:=(z.1.ko bx (z.1.sub bx h)).1;omega
 have az:K2.W bi:=by rw[<-aj];exact bE bd
 replace z:SF OB W Wg C n K2 V2/\iB link.tWg Wg V2:=⟨hS,Y⟩
 clear ae hS Y hV aj a7 ap bl;walk_nrm;have bn:=(z.1.ko bi I).2.2;have bq:=(z.1.ko bx af).2.2;have bp:=(z.1.ko bi I).2.1;have bh:=(z.1.ko bx af).2.1;have br:∀b,K2.W b->¬OB b:=λb hb=>by grind
 refine kY.opn rfl rfl (by k_ne) λR am=>?_;replace z:=kP z am;have i5:=(am.block bi I).trans J;have x5:=(am.block bx af).trans ah;clear am J ah;have ar:Gu (mJ Wg C n) Z K2 R (R.setCell ⟨bi,0,Z⟩ (N ab j)) #[]:=Wx az (z.1.ko bi I).1 bn aC;refine⟨_,WJ rfl rfl rfl i5,Wx az (z.1.ko bi I).1 bn λe he=>aaF he rfl rfl rfl i5,?_⟩;have ai:=(kE R ⟨bi,0,Z⟩ (N ab j)).2.2.2;have hS:=z.1.gu ar br;rw[ai,kR]at hS;rw[ai,kR];have Y:iB link.tWg Wg (R.setCell ⟨bi,0,Z⟩ (N ab j)):=let ⟨st,sm,hl⟩:=z.2;⟨st,sm,hl.of_block (kL (mn bp))⟩
 have J:(R.setCell ⟨bi,0,Z⟩ (N ab j)).heap[bi]? =M (aG #[N ab j] 3):=RV i5;have ah:(R.setCell ⟨bi,0,Z⟩ (N ab j)).heap[bx]? =M (aG #[N eA 0,N eA 0,bB ⟨#[]⟩] 125):=(kL (by show bx≠bi;omega)).trans x5;replace z:SF OB W Wg C n K2 _/\iB link.tWg Wg _:=⟨hS,Y⟩
 clear ar hS Y ai i5 x5;generalize R.setCell ⟨bi,0,Z⟩ (N ab j)=V5 at *;walk_nrm;refine kY.opn rfl rfl (by k_ne) λac ak=>?_;replace z:=kP z ak;have i6:=(ak.block bi I).trans J;have x6:=(ak.block bx af).trans ah;clear ak J ah;have ar:Gu (mJ Wg C n) Z K2 ac (vJ ac bx (N eA (fr j)) (N eA (ad j)) (bB (data j))) #[]:=Qx aw (z.1.ko bx af).1 bq aC;refine⟨_,WQ rfl rfl rfl x6,Qx aw (z.1.ko bx af).1 bq λe he=>abe he rfl rfl rfl x6,?_⟩;obtain⟨_,_,_,ai,a3⟩:=DT ac bx (N eA (fr j)) (N eA (ad j)) (bB (data j));have hS:=z.1.gu ar br;rw[ai,kR]at hS;rw[ai,kR];have Y:iB link.tWg Wg (vJ ac bx (N eA (fr j)) (N eA (ad j)) (bB (data j))):=let ⟨st,sm,hl⟩:=z.2;⟨st,sm,hl.of_block (a3 _ (mn bh))⟩
 have ah:(vJ ac bx (N eA (fr j)) (N eA (ad j)) (bB (data j))).heap[bx]? =M (aG (Ad (fr j) (ad j) (data j)) 125):=Xn x6;have J:=(a3 bi aA).trans i6;replace z:SF OB W Wg C n K2 _/\iB link.tWg Wg _:=⟨hS,Y⟩
 clear ar hS Y ai i6 x6 a3;generalize vJ ac bx (N eA (fr j)) (N eA (ad j)) (bB (data j))=V6 at *;walk_nrm;replace z:(SF OB W Wg C n K2 V6/\V6.heap[bi]? =M (aG #[N ab j] 3)/\V6.heap[bx]? =M (aG (Ad (fr j) (ad j) (data j)) 125))/\iB link.tWg Wg V6:=⟨⟨z.1,J,ah⟩,z.2⟩
 clear J ah
 have aa:∀w w',En (mJ Wg C n) Z K2 w w'->(SF OB W Wg C n K2 w/\w.heap[bi]? =M (aG #[N ab j] 3)/\w.heap[bx]? =M (aG (Ad (fr j) (ad j) (data j)) 125))->(SF OB W Wg C n K2 w'/\w'.heap[bi]? =M (aG #[N ab j] 3)/\w'.heap[bx]? =M (aG (Ad (fr j) (ad j) (data j)) 125)):=
  λw w' r h=>⟨h.1.en r,(r.block bi I).trans h.2.1,(r.block bx af).trans h.2.2⟩
 have b2:∀w w',Go.Conc.Aside Wg w w'->(SF OB W Wg C n K2 w/\w.heap[bi]? =M (aG #[N ab j] 3)/\w.heap[bx]? =M (aG (Ad (fr j) (ad j) (data j)) 125))->(SF OB W Wg C n K2 w'/\w'.heap[bi]? =M (aG #[N ab j] 3)/\w'.heap[bx]? =M (aG (Ad (fr j) (ad j) (data j)) 125)):=
  λw w' r h=>⟨h.1.wg ba r,(r.block bi bp).trans h.2.1,(r.block bx bh).trans h.2.2⟩
 refine kY.go (n:=20) ?_;u_c aM (jA aa) z;u_c cE (jA aa) z;u_reg (jA aa) z;u_in (jA aa) z;refine goes_call rfl rfl (by k_ne) rfl wgLib.f_add (nm_add link) rfl ⟨by u_nil,?_⟩;walk_nrmf addFn;refine cL λbm ay=>?_;replace z:=jA aa z ay;clear ay;refine addPos (L:=link) (P:=bA) wgLib aa b2 ?_ bm z;clear z;intro b4 z;walk_nrm;refine Way.go (n:=20) ?_;u_c aM (jA aa) z;u_reg (jA aa) z;u_op (jA aa) z;refine cL λbs an=>Way.stop λwa ha=>?_;replace z:=jA aa (jA aa z an) ha;clear an ha;refine⟨rfl,?_⟩;rw[stepG_spawn (d:=JU Wg bc bx bf bi) (w':=wa) (f:=.func 71) (c:=#[aD (M ⟨Wg,0,Z⟩),aD (M ⟨bc,0,Z⟩),aD (M ⟨bx,0,Z⟩),aD (M ⟨bf,0,Z⟩),aD (M ⟨bi,0,Z⟩)]) rfl rfl (by k_ne) (by simp[go_sem,JU,Deferred.ofValue]) rfl];generalize hL:listed _ _ _ _ _=Lx
 have b1:Lx=#[]:=by
  rw[<-hL];simp[listed,go_sem,seen,Deferred.ofValue];rfl
 subst b1;clear hL
 have a9:∀b,(b=bc\/b=bx\/b=bf\/b=bi)->K2.O b:=by
  rintro b (rfl|rfl|rfl|rfl)
  .exact z.1.1.sub _ bb
  .exact af
  .exact z.1.1.sub _ bk
  .exact I
 refine⟨_,_,⟨K2.O,λ_=>False⟩,⟨_,λ_=>False⟩,rfl,rfl,λ_ h=>h,λ_ h=>h.elim,a9,λ_ h=>h.elim,λ_ h=>h.elim,λ_ h=>h.elim,λ_ h=>h.elim,λ_ h=>h.elim,λbo a5=>?_,?_⟩
 .refine kY.mono (kY.keep (Wd:=λb=>b=bc\/b=bf) (B:=W.heap.size) (PO rd hj ba bz hd ⟨(z.1.1.old bc bb).trans bv,z.1.2.2,(z.1.1.old bf bk).trans b3,z.1.2.1,a5,bo⟩ ⟨bE rfl,cD (bE rfl),cD (cD (bE rfl)),cD (cD (cD rfl)),λ_ h=>h.elim,λb hb=>(z.1.1.ko b (a9 b hb)).1,z.1.1.hC,z.1.1.hG,λb hb=>(z.1.1.ko b (a9 b hb)).2.2,z.1.1.glob⟩) (λb hb=>by
   obtain rfl|rfl|rfl|rfl:=hb
   .exact bE (bE rfl)
   .exact cD ((z.1.1.new _ af).resolve_left b0)
   .exact bE (cD rfl)
   .exact cD ((z.1.1.new _ I).resolve_left bw)) z.1.1.siz) λK g w x=>let ⟨⟨v,h1,h2⟩,h3⟩:=x;⟨v,h1,h2,h3⟩
 ·
  replace z:SF OB W Wg C n ⟨K2.O,λ_=>False⟩ wa/\iB link.tWg Wg wa:=⟨⟨z.1.1.sub,z.1.1.old,λ_ h=>h.elim,z.1.1.ko,z.1.1.pay,z.1.1.hC,z.1.1.hG,z.1.1.glob,z.1.1.new,z.1.1.siz,z.1.1.still,z.1.1.low⟩,z.2⟩
  have cj:IntKind.i64.wrap ((j:Int)+1)=((j+1:Nat):Int):=by rw[eT];omega
  walk_nrm;refine Way.go (n:=20) ?_;u_c aM kP z;u_c stepG_inBlock kP z;u_reg kP z
  iterate 2 u_op kP z
  u_c aM kP z;u_c stepG_inLoop kP z;refine cL λbs an=>?_;replace z:=kP z an;refine a6 _ _ _ ⟨_,rfl,?_,?_,?_,?_,?_,?_,?_⟩ z λ_ h=>h
  all_goals simp
end
end
section
variable {tx:Option eM}
section
variable {OB:Nat->Prop}{W:U}{Wg C n cap bc bf tb q0:Nat}{cs:List cR}{inbox batcher t0 t1 t2 t3 t4:Int}{fr ad:Nat->Int}{data:Nat->ByteArray}{fs:Nat->List Fr.F}
structure Xh(OB:Nat->Prop)(W:U)(tx:Option eM)(tb q0 n:Nat)(fr ad:Nat->Int)(data:Nat->ByteArray):Prop where
 at_:0<n->tx=M ⟨tb,q0,Z⟩/\OB tb
 cell:∀j,j<n->W.cell? ⟨tb,q0+j*3,Z⟩=M (N eA (fr j))/\W.cell? ⟨tb,q0+j*3+1,Z⟩=M (N eA (ad j))/\W.cell? ⟨tb,q0+j*3+2,Z⟩=M (bB (data j))
 size:∀j,j<n->(data j).size<=1048576
def Ox(rd:ReadW)(J:C≠Wg)(hn:n<9223372036854775808)(R:OB bc)(I:OB bf)(ac:W.heap[bc]? =M (aG (cfg inbox batcher t0 t1 t2 t3 t4) 24))(ae:W.heap[bf]? =M (aG #[aH (M ⟨C,0,Z⟩) n n] 104))(hx:Xh OB W tx tb q0 n fr ad data)(aa:∀j,j<n->fs j=Fr.mg inbox batcher (fr j) (ad j) (data j).data.toList):∀(r j:Nat),j+r=n->∀(K:kC)(g:cA)(w:U),QG tx n cap Wg bc bf j cs g->SF OB W Wg C n K w/\iB link.tWg Wg w->(∀b,¬K.W b)->qA bA (mJ Wg C n) (AnchS OB W Wg C n bf cs) (leftB bc bf W fs) r K g w:=by
 intro r
 induction r with
 |zero=>
  intro j hj K g w Y hF _;obtain rfl:j=n:=aA
  exact SX tx Y hF
 |succ r ih=>
  intro j hj K g w Y hF hK
  obtain⟨St',E⟩:∃St':kC->cA->U->Prop,qA bA (mJ Wg C n) (AnchS OB W Wg C n bf cs) (leftB bc bf W fs) r=λK g w=>Way bA (mJ Wg C n) St' K g w:=by
   cases r with
   |zero=>exact⟨_,rfl⟩
   |succ r=>exact⟨_,rfl⟩
  obtain⟨rfl,af⟩:=hx.at_ aA;have z:j<n:=aA
  have h:=L6 rd (St':=St') J z hn af R I ac ae (hx.cell j z) (aa j z) (hx.size j z) Y hF hK λK g w h1 h2 h3=>by
   have:=ih _ aA K g w h1 h2 h3;rw[E]at this;exact this
  show ∃T,jT bA aR (mJ Wg C n) Z (Lj bA (mJ Wg C n) (leftB bc bf W fs) (n-(r+1)) (qA bA (mJ Wg C n) (AnchS OB W Wg C n bf cs) (leftB bc bf W fs) r)) T K g w
  rw[E,show n-(r+1)=j by omega];exact h
noncomputable def Yc:eE:=match Tryz.f50.body with
 |some (bR _ (bR _ (bR _ (bR c _))))=>c
 |_=>.skip
def UN(rd:ReadW)(R:C≠Wg)(hn:n<9223372036854775808)(Y:OB bc)(J:OB bf)(ac:W.heap[bc]? =M (aG (cfg inbox batcher t0 t1 t2 t3 t4) 24))(ae:W.heap[bf]? =M (aG #[aH (M ⟨C,0,Z⟩) n n] 104))(hx:Xh OB W tx tb q0 n fr ad data)(aa:∀j,j<n->fs j=Fr.mg inbox batcher (fr j) (ad j) (data j).data.toList){K:kC}{w:U}{T:Array X}(hT:T.size=24)(t1:T[1]? =M (.slice tx n cap))(t2:T[2]? =M (aD (M ⟨bc,0,Z⟩)))(t5:T[5]? =M (aD (M ⟨bf,0,Z⟩)))(t6:T[6]? =M (aD (M ⟨Wg,0,Z⟩)))(z:SF OB W Wg C n K w/\iB link.tWg Wg w)(hK:∀b,¬K.W b):qA bA (mJ Wg C n) (AnchS OB W Wg C n bf cs) (leftB bc bf W fs) n K (G (bS.at ⟨T,[]⟩ [.code Yc,.code xq]) cs) w:=by
 obtain⟨St',af⟩:∃St':kC->cA->U->Prop,qA bA (mJ Wg C n) (AnchS OB W Wg C n bf cs) (leftB bc bf W fs) n=λK g w=>Way bA (mJ Wg C n) St' K g w:=by
  cases n with
  |zero=>exact⟨_,rfl⟩
  |succ r=>exact⟨_,rfl⟩
 have hl:=Ox (cap:=cap) (cs:=cs) rd R hn Y J ac ae hx aa n 0 aA;rw[af]at hl⊢;obtain⟨v0,v1,v2,v3,v4,v5,v6,v7,v8,v9,ah,au,aj,ag,aq,ak,ap,ar,av,an,am,ai,ao,aw,rfl⟩:=AB T hT;simp only[eX,eU,dX,aK]at t1 t2 t5 t6;subst t1 t2 t5 t6;simp only[Yc,Tryz.f50];refine Way.go (n:=20) ?_;u_c cE kP z;u_reg kP z
 iterate 3 u_op kP z
 u_c aM kP z;u_c pQ kP z;u_c stepG_loop kP z;refine cL λI E=>?_;replace z:=kP z E;refine hl K _ I ⟨_,rfl,?_,?_,?_,?_,?_,?_,?_⟩ z hK
 all_goals simp
end
end
section
variable {n b:Nat}
section
variable {w:U}{a:Act}{o:ij}
def afE{inbox batcher t0 t1 t2 t3 t4:Int}(E:a.eval (cN 0)=.agg (cfg inbox batcher t0 t1 t2 t3 t4))(z:o.op=.box 24 (cN 0)):(bN a.eval o).run bA w=.ok (.value (aD (M ⟨↑w,0,Z⟩))) (w.alloc (aG (cfg inbox batcher t0 t1 t2 t3 t4) 24))/\(bN a.eval o).events bA w #[]=#[]:=by
 constructor
 .unfold bN;simp only[z,E];simp[go_sem]
 .unfold bN;simp only[z,E];simp[go_sem]
def afk(z:o.op=.alloc 104):(bN a.eval o).run bA w=.ok (.value (aD (M ⟨↑w,0,Z⟩))) (w.alloc (aG #[aH Z 0 0] 104))/\(bN a.eval o).events bA w #[]=#[]:=by
 constructor
 .unfold bN;simp only[z];simp[go_sem]
 .unfold bN;simp only[z];simp[go_sem]
def afB(z:o.op=.alloc 150):(bN a.eval o).run bA w=.ok (.value (aD (M ⟨↑w,0,Z⟩))) (w.alloc (aG #[N p8 0,N eA 0] 150))/\(bN a.eval o).events bA w #[]=#[]:=by
 constructor
 .unfold bN;simp only[z];simp[go_sem]
 .unfold bN;simp only[z];simp[go_sem]
def ae5:(Tryz.prog.info? 106).map (λi=>(i.zero,i.size,i.bytes))=M (M (aH Z 0 0),1,24):=XN
def afp:Tryz.prog.underlying 104=M (.slice 106):=XN
def afx(hn:n<=16777216)(h:a.eval (cN 10)=N ab n)(J:o.op=.makeSlice 104 (cN 10) (cN 10)):(bN a.eval o).run bA w=.ok (.value (aH (M ⟨↑w,0,Z⟩) n n)) (w.alloc (aG (madeCells #[aH Z 0 0] n) 106))/\(bN a.eval o).events bA w #[]=#[]:=by
 obtain⟨i0,hi,I,Y,z⟩:=info_parts ae5;have E:=run_make (P:=bA) w 104 106 i0 _ afp hi I ab ab n n aA aA (by rw[z];omega) aA;have R:=λes=>events_make (P:=bA) w 104 106 i0 _ afp hi I ab ab n n aA aA (by rw[z];omega) aA (by rw[z];simp;omega) es;rw[Y]at E;simp only[Int.toNat_natCast,Nat.mul_one]at E;constructor
 .unfold bN;simp only[J,h];simp[go_sem,E,Value.cells]
 .unfold bN;simp only[J,h];simp[go_sem,R]
def abH{C:Nat}{u:X}(J:w.heap[b]? =M (aG #[u] 104))(I:a.eval (cN 5)=aD (M ⟨b,0,Z⟩))(z:a.eval (cN 11)=aH (M ⟨C,0,Z⟩) n n)(E:o.op=.store 104 (cN 5) (cN 11)):(bN a.eval o).run bA w=.ok .skip (w.setCell ⟨b,0,Z⟩ (aH (M ⟨C,0,Z⟩) n n))/\∀e∈(bN a.eval o).events bA w #[],e=⟨.cell ⟨b,0,Z⟩,aR,aL⟩:=by
 have hc:w.cell? ⟨b,0,Z⟩=M u:=by simp[eB,J]
 have R:w.frozen? ⟨b,0,Z⟩=aL:=by simp[iX,J]
 constructor
 .unfold bN;simp only[E,I,z];simp[go_sem,stored,hc,R]
 .unfold bN;simp only[E,I,z];simp[go_sem,hc,R,pw _ _ _ _ _ _ (show(aH (M ⟨C,0,Z⟩) n n).oneCell'=aR from rfl)]
def abI{s:Option eM}{m:Nat}(I:w.heap[b]? =M (aG #[.slice s n m] 104))(E:a.eval (cN 5)=aD (M ⟨b,0,Z⟩))(z:o.op=.load 104 (cN 5)):(bN a.eval o).run bA w=.ok (.value (.slice s n m)) w/\∀e∈(bN a.eval o).events bA w #[],e=⟨.cell ⟨b,0,Z⟩,aL,aL⟩:=by
 have hc:w.cell? ⟨b,0,Z⟩=M (.slice s n m):=by simp[eB,I]
 constructor
 .unfold bN;simp only[z,E];simp[go_sem,hc]
 .unfold bN;simp only[z,E];simp[go_sem,hc]
end
end
section
variable {v:X}
section
variable {P:cU}{Post:X->U->Prop}{Dead:Nat->Prop}
def ou.go:∀{n:Nat}{g:cA}{w:U},iv P aR AtRel DC0 (ou P Post Dead) n g w->ou P Post Dead g w:=by
 intro n
 induction n with
 |zero=>exact λ{g w} h=>h w (mS w)
 |succ n ih=>
  intro g w h;obtain h|⟨E,hs⟩:=h
  .exact h w (mS w)
  .refine .step E λd=>?_;have:=hs _ ⟨d,rfl⟩;cases e:eC P aR g (w.at d)with
   |go g' w' es=>
    rw[e,goes_go]at this;obtain⟨⟨rfl,rfl⟩,hG⟩:=this;exact⟨g',_,_,rfl,jB,λe z=>by simp at z,ih hG⟩
   |_=>rw[e]at this;exact this.elim
def qK.go{B:Nat}:∀{n:Nat}{g:cA}{w:U},iv P aR AtRel DC0 (qK P Post Dead B) n g w->qK P Post Dead B g w:=by
 intro n
 induction n with
 |zero=>exact λ{g w} h=>h w (mS w)
 |succ n ih=>
  intro g w h;obtain h|⟨E,hs⟩:=h
  .exact h w (mS w)
  .refine .step E λd=>?_;have:=hs _ ⟨d,rfl⟩;cases e:eC P aR g (w.at d)with
   |go g' w' es=>
    rw[e,goes_go]at this;obtain⟨⟨rfl,rfl⟩,hG⟩:=this;exact⟨g',_,_,B,rfl,jB,λe z=>by simp at z,ih hG⟩
   |_=>rw[e]at this;exact this.elim
section
variable {w w':U}{b:cR}{a:Act}{k:List pS}{cs:List cR}{ops:Array ij}{i:Nat}{rest:List Nat}{o:ij}
def ou.qJ(ho:ops[i]? =M o)(hw:cP o (yielded ops a.tmps)=aR)(hk:b.kind≠.early)(E:∀d,(bN a.eval o).run P (w.at d)=.ok (.value v) (w'.at d))(hs:↑w<=w'.heap.size)(z:∀d,∀e∈(bN a.eval o).events P (w.at d) #[],EvL (YJ Dead) ↑w' e)(h:ou P Post Dead (G (b.at (a.put o.dst v) (bL ops rest::k)) cs) w'):ou P Post Dead (G (b.at a (bL ops (i::rest)::k)) cs) w:=
 .op ho hw hk λd=>⟨v,w'.at d,E d,hs,λe h=>z d e (gN h),h.at d⟩
def ou.agU(ho:ops[i]? =M o)(hw:cP o (yielded ops a.tmps)=aR)(hk:b.kind≠.early)(E:∀d,(bN a.eval o).run P (w.at d)=.ok .skip (w'.at d))(hs:↑w<=w'.heap.size)(z:∀d,∀e∈(bN a.eval o).events P (w.at d) #[],EvL (YJ Dead) ↑w' e)(h:ou P Post Dead (G (b.at (a.put o.dst aE) (bL ops rest::k)) cs) w'):ou P Post Dead (G (b.at a (bL ops (i::rest)::k)) cs) w:=
 .opn ho hw hk λd=>⟨w'.at d,E d,hs,λe h=>z d e (gN h),h.at d⟩
def qK.ahd{B:Nat}(ho:ops[i]? =M o)(hw:cP o (yielded ops a.tmps)=aR)(hk:b.kind≠.early)(E:∀d,(bN a.eval o).run P (w.at d)=.ok (.value v) (w'.at d))(z:∀d,(bN a.eval o).events P (w.at d) #[]=#[])(h:qK P Post Dead B (G (b.at (a.put o.dst v) (bL ops rest::k)) cs) w'):qK P Post Dead B (G (b.at a (bL ops (i::rest)::k)) cs) w:=
 .step rfl λd=>⟨_,w'.at d,_,B,stepG_value ho hw hk (E d),jB,λe h=>by have:=gN h;rw[z d]at this;simp at this,h.at d⟩
def IQ{es:Array jz}{p:jz->Prop}(h:es=#[]):∀e∈es,p e:=λe z=>by grind
end
def at_rl{w0 w z:U}(h:AtRel w0 w)(r:AtRel w z):AtRel w0 z:=atRel_trans _ _ _ h r
end
noncomputable def YV:eE:=Tryz.f50.body.getD .skip
def mF(w:U)(c:Array X)(n:Nat):U:=
 ((((w.alloc (aG c 24)).alloc (aG (madeCells #[aH Z 0 0] n) 106)).alloc (aG #[aH Z 0 0] 104)).setCell ⟨w.heap.size+2,0,Z⟩ (aH (M ⟨w.heap.size+1,0,Z⟩) n n)).alloc (aG #[N p8 0,N eA 0] 150)
section
variable {Post:X->U->Prop}{Dead:Nat->Prop}{w:U}{tx:Option eM}{n cap:Nat}{cs:List cR}{inbox batcher t0 t1 t2 t3 t4:Int}
def Iy(hn:n<=16777216)(hD:∀b,Dead b->b<w.heap.size)(ac:∀T:Array X,T.size=24->T[1]? =M (.slice tx n cap)->T[2]? =M (aD (M ⟨↑w,0,Z⟩))->T[5]? =M (aD (M ⟨w.heap.size+2,0,Z⟩))->T[6]? =M (aD (M ⟨w.heap.size+3,0,Z⟩))->qK bA Post Dead (w.heap.size+3) (G (bS.at ⟨T,[]⟩ [.code Yc,.code xq]) cs) (mF w (cfg inbox batcher t0 t1 t2 t3 t4) n)):ou bA Post Dead (G (bS.at ⟨#[.agg (cfg inbox batcher t0 t1 t2 t3 t4),.slice tx n cap,aE,aE,aE,aE,aE,aE,aE,aE,aE,aE,aE,aE,aE,aE,aE,aE,aE,aE,aE,aE,aE,aE],[]⟩ [.code YV]) cs) w:=by
 have E:=mS w;simp only[YV,Tryz.f50,fH];refine ou.go (n:=20) ?_;u_c cE at_rl E;u_reg at_rl E;refine cL λI z=>?_;obtain⟨d,rfl⟩:=at_rl E z;refine ou.at ?_ d;clear E z;refine ou.qJ (v:=aD (M ⟨↑w,0,Z⟩)) (w':=w.alloc _) rfl rfl (by k_ne) (λd=>(afE rfl rfl).1) aC (λd=>IQ (afE rfl rfl).2) ?_;obtain⟨w1,aa⟩:∃w1,w1=w.alloc (aG (cfg inbox batcher t0 t1 t2 t3 t4) 24):=⟨_,rfl⟩
 have s1:↑w1=w.heap.size+1:=by rw[aa];simp
 rw[<-aa];walk_nrm;have E:=mS w1;refine ou.go (n:=20) ?_;u_op at_rl E;u_c aM at_rl E;u_c cE at_rl E;u_reg at_rl E
 iterate 2 u_op at_rl E
 refine cL λI z=>?_;obtain⟨d,rfl⟩:=at_rl E z;refine ou.at ?_ d;clear E z;refine ou.qJ (v:=aH (M ⟨↑w1,0,Z⟩) n n) (w':=w1.alloc _) rfl rfl (by k_ne) (λd=>(afx hn rfl rfl).1) aC (λd=>IQ (afx hn rfl rfl).2) ?_;obtain⟨w2,Y⟩:∃w2,w2=w1.alloc (aG (madeCells #[aH Z 0 0] n) 106):=⟨_,rfl⟩
 have s2:↑w2=w.heap.size+2:=by rw[Y];simp[s1]
 rw[<-Y,s1];walk_nrm;refine ou.qJ (v:=aD (M ⟨↑w2,0,Z⟩)) (w':=w2.alloc _) rfl rfl (by k_ne) (λd=>(afk rfl).1) aC (λd=>IQ (afk rfl).2) ?_;obtain⟨w3,J⟩:∃w3,w3=w2.alloc (aG #[aH Z 0 0] 104):=⟨_,rfl⟩
 have s3:↑w3=w.heap.size+3:=by rw[J];simp[s2]
 have b3:w3.heap[w.heap.size+2]? =M (aG #[aH Z 0 0] 104):=by rw[J,<-s2];exact cT _ _
 rw[<-J,s2];walk_nrm
 refine ou.agU (w':=w3.setCell _ _) rfl rfl (by k_ne) (λd=>(abH (w:=w3.at d) b3 rfl rfl rfl).1) (jq (kE w3 _ _).2.2.2.symm)
  (λd e he=>by
   rw[(abH (w:=w3.at d) b3 rfl rfl rfl).2 e he];refine evL_cell _ _ (λ⟨a,e,h⟩=>?_) ?_
   .grind
   .rw[(kE w3 _ _).2.2.2,s3]
    show w.heap.size+2<_
    omega) ?_
 obtain⟨w4,R⟩:∃w4,w4=w3.setCell ⟨w.heap.size+2,0,Z⟩ (aH (M ⟨w.heap.size+1,0,Z⟩) n n):=⟨_,rfl⟩
 have s4:↑w4=w.heap.size+3:=by rw[R,(kE w3 _ _).2.2.2,s3]
 rw[<-R];walk_nrm
 show qK _ _ _ ↑w4 _ _
 rw[s4];have E:=mS w4;refine qK.go (n:=20) ?_;u_c aM at_rl E;u_c cE at_rl E;u_reg at_rl E;refine cL λI z=>?_;obtain⟨d,rfl⟩:=at_rl E z;refine qK.at ?_ d;clear E z;refine qK.ahd (v:=aD (M ⟨↑w4,0,Z⟩)) (w':=w4.alloc _) rfl rfl (by k_ne) (λd=>(afB rfl).1) (λd=>(afB rfl).2) ?_;obtain⟨w5,ae⟩:∃w5,w5=w4.alloc (aG #[N p8 0,N eA 0] 150):=⟨_,rfl⟩
 rw[<-ae,s4];walk_nrm;have E:=mS w5;refine qK.go (n:=20) ?_;u_c aM at_rl E;u_c cE at_rl E;refine cL λI z=>?_;obtain⟨d,rfl⟩:=at_rl E z;refine qK.at ?_ d;have e5:w5=mF w (cfg inbox batcher t0 t1 t2 t3 t4) n:=by rw[ae,R,J,Y,aa];rfl
 rw[e5];have:=λT h0 h1 h2 h3 h4=>ac T h0 h1 h2 h3 h4;simp only[Yc,xq,Tryz.f50]at this;refine this _ ?_ ?_ ?_ ?_ ?_
 all_goals simp
end
end
section
variable {b C i:Nat}{T:Array X}{b₀:cR}{a₀:Act}{ops:Array ij}{rest:List Nat}{k:List pS}
section
variable {w:U}{c:Array X}{n:Nat}
def Lp:(mF w c n).heap.size=w.heap.size+4:=by unfold mF;simp
def Iu:(mF w c n).tape=w.tape/\(mF w c n).os=w.os/\(mF w c n).output=w.output:=by unfold mF;obtain⟨z,h2,h3,_⟩:=kE (((w.alloc (aG c 24)).alloc (aG (madeCells #[aH Z 0 0] n) 106)).alloc (aG #[aH Z 0 0] 104)) ⟨w.heap.size+2,0,Z⟩ (aH (M ⟨w.heap.size+1,0,Z⟩) n n);exact⟨z,h2,h3⟩
def alloc_old(w:U)(o:nL)(h:b<↑w):(w.alloc o).heap[b]? =w.heap[b]?:=by
 show(w.heap.push o)[b]? =w.heap[b]?
 grind
def uI(h:b<w.heap.size+3)(z:b≠w.heap.size+2):(mF w c n).heap[b]? =((w.alloc (aG c 24)).alloc (aG (madeCells #[aH Z 0 0] n) 106)).heap[b]?:=by unfold mF;rw[alloc_old _ _ (by rw[(kE _ _ _).2.2.2];simp;omega),kL (show b≠w.heap.size+2 from z),alloc_old _ _ aF]
def NI(h:b<↑w):(mF w c n).heap[b]? =w.heap[b]?:=by rw[uI aA aA,alloc_old _ _ aF,alloc_old _ _ h]
def Yq:(mF w c n).heap[w.heap.size]? =M (aG c 24):=by rw[uI aA aA,alloc_old _ _ aC];exact cT _ _
def Yb:(mF w c n).heap[w.heap.size+1]? =M (aG (madeCells #[aH Z 0 0] n) 106):=by rw[uI aA aA];have:=cT (w.alloc (aG c 24)) (aG (madeCells #[aH Z 0 0] n) 106);simpa only[World.size_alloc]using this
def WM:(mF w c n).heap[w.heap.size+2]? =M (aG #[aH (M ⟨w.heap.size+1,0,Z⟩) n n] 104):=by unfold mF;rw[alloc_old _ _ aC];refine RV (u:=aH Z 0 0) ?_;have:=cT ((w.alloc (aG c 24)).alloc (aG (madeCells #[aH Z 0 0] n) 106)) (aG #[aH Z 0 0] 104);simpa only[World.size_alloc]using this
def Xm:(mF w c n).heap[w.heap.size+3]? =M (aG #[N p8 0,N eA 0] 150):=by unfold mF;have:=cT ((((w.alloc (aG c 24)).alloc (aG (madeCells #[aH Z 0 0] n) 106)).alloc (aG #[aH Z 0 0] 104)).setCell ⟨w.heap.size+2,0,Z⟩ (aH (M ⟨w.heap.size+1,0,Z⟩) n n)) (aG #[N p8 0,N eA 0] 150);rw[(kE _ _ _).2.2.2]at this;simpa only[World.size_alloc]using this
end
structure Found(w:U)(n:Nat)(fs:Nat->List Fr.F)(w':U):Prop where
 old:∀b,b<w.heap.size->w'.heap[b]? =w.heap[b]?
 still:w'.tape=w.tape/\w'.os=w.os/\w'.output=w.output
 size:w.heap.size+4<=w'.heap.size
 rows:∃vs:Array X,w'.heap[w.heap.size+1]? =M (aG vs 106)/\vs.size=n/\∀i,i<n->∃v,vs[i]? =M v/\qY (λb=>w.heap.size+4<=b) w' v (fs i)
 wg:∃c t,c≠#[]/\w'.heap[w.heap.size+3]? =M (aG c t (0,0))
section
variable {Post:X->U->Prop}{Dead:Nat->Prop}{w w':U}{tx:Option eM}{n cap tb q0:Nat}{cs:List cR}{inbox batcher t0 t1 t2 t3 t4:Int}{fr ad:Nat->Int}{data:Nat->ByteArray}{fs:Nat->List Fr.F}
def Jr{bf:Nat}(hT:T.size=24)(t5:T[5]? =M (aD (M ⟨bf,0,Z⟩)))(R:w.heap[bf]? =M (aG #[aH (M ⟨C,0,Z⟩) n n] 104))(Y:¬Dead bf)(I:ou bA Post Dead (G (b₀.at (a₀.put ((ops[i]?).bind (·.dst)) (aH (M ⟨C,0,Z⟩) n n)) (bL ops rest::k)) cs) w):ou bA Post Dead (G (bS.at ⟨T,[]⟩ (bL ops9 []::[.code tail9])) (b₀.at a₀ (bL ops (i::rest)::k)::cs)) w:=by
 obtain⟨v0,v1,v2,v3,v4,v5,v6,v7,v8,v9,ac,ao,af,aa,am,ag,ak,an,ap,ai,ah,ae,aj,aq,rfl⟩:=AB T hT;simp only[eX,eU,dX,aK]at t5;subst t5;have E:=mS w;simp only[tail9,xq,Tryz.f50];refine ou.go (n:=20) ?_;u_c aM at_rl E;u_c cE at_rl E;u_reg at_rl E;refine cL λJ z=>?_;obtain⟨d,rfl⟩:=at_rl E z;refine ou.at ?_ d;clear E z;refine ou.qJ (v:=.slice _ n n) (w':=w) rfl rfl (by k_ne) (λd=>(abI (w:=w.at d) R rfl rfl).1) jB (λd e he=>?_) ?_
 .rw[(abI (w:=w.at d) R rfl rfl).2 e he];refine evL_cell _ _ (λ⟨a,e,h⟩=>?_) (jE R);cases e;exact Y h
 walk_nrm;have E:=mS w;refine ou.go (n:=20) ?_;u_op at_rl E;u_c aM at_rl E;u_c stepG_ret' at_rl E;u_in at_rl E;refine goes_leave1 rfl rfl Tryz.func50 rfl ⟨by u_nil,?_⟩;refine cL λJ z=>?_;obtain⟨d,rfl⟩:=at_rl E z;exact I.at d
def SF.at{OB:Nat->Prop}{W:U}{Wg:Nat}{K:kC}(h:SF OB W Wg C n K w)(d:Nat):SF OB W Wg C n K (w.at d):=
 ⟨h.sub,h.old,h.kw,h.ko,h.pay,h.hC,h.hG,h.glob,h.new,h.siz,h.still,h.low⟩
def OC(X1:Nat)(Dead:Nat->Prop)(b:Nat):Prop:=b<X1+3/\b≠X1+1/\¬Dead b
def NJ(rd:ReadW)(hn:n<=16777216)(hD:∀b,Dead b->b<w.heap.size)(av:Tryz.prog.globals.size<=w.heap.size)(hx:Xh (λb=>b<w.heap.size/\¬Dead b) w tx tb q0 n fr ad data)(a0:∀j,j<n->fs j=Fr.mg inbox batcher (fr j) (ad j) (data j).data.toList)(I:∀w',Found w n fs w'->ou bA Post (λb=>Dead b\/b=w.heap.size+3) (G (b₀.at (a₀.put ((ops[i]?).bind (·.dst)) (aH (M ⟨w.heap.size+1,0,Z⟩) n n)) (bL ops rest::k)) cs) w')(hT:T.size=24)(aw:T[1]? =M (.slice tx n cap))(ag:T[2]? =M (aD (M ⟨↑w,0,Z⟩)))(af:T[5]? =M (aD (M ⟨w.heap.size+2,0,Z⟩)))(ai:T[6]? =M (aD (M ⟨w.heap.size+3,0,Z⟩))):qK bA Post Dead (w.heap.size+3) (G (bS.at ⟨T,[]⟩ [.code Yc,.code xq]) (b₀.at a₀ (bL ops (i::rest)::k)::cs)) (mF w (cfg inbox batcher t0 t1 t2 t3 t4) n):=by
 intro d gs sl t q h0 hL hP;obtain⟨X1,R⟩:∃X1,w.heap.size=X1:=⟨_,rfl⟩
 obtain⟨W,hW⟩:∃W,mF w (cfg inbox batcher t0 t1 t2 t3 t4) n=W:=⟨_,rfl⟩
 have sW:W.heap.size=X1+4:=by rw[<-hW,Lp,R]
 have oW:∀b,b<X1->W.heap[b]? =w.heap[b]?:=λb z=>by rw[<-hW];exact NI aA
 have cW:W.heap[X1]? =M (aG (cfg inbox batcher t0 t1 t2 t3 t4) 24):=by rw[<-hW,<-R];exact Yq
 have pW:W.heap[X1+1]? =M (aG (madeCells #[aH Z 0 0] n) 106):=by rw[<-hW,<-R];exact Yb
 have fW:W.heap[X1+2]? =M (aG #[aH (M ⟨X1+1,0,Z⟩) n n] 104):=by rw[<-hW,<-R];exact WM
 have wW:W.heap[X1+3]? =M (aG #[N p8 0,N eA 0] 150):=by rw[<-hW,<-R];exact Xm
 have ae:W.tape=w.tape/\W.os=w.os/\W.output=w.output:=by rw[<-hW];exact Iu
 rw[hW];rw[R]at hP ag af ai av I;have J:∀b,Dead b->b<X1:=λb z=>by grind
 have aa:pL (X1+1) n (W.at d):=⟨_,pW,size_madeCells _ _⟩
 have ar:SF (OC X1 Dead) W (X1+3) (X1+1) n ⟨OC X1 Dead,λ_=>False⟩ (W.at d):=by
  refine⟨λ_ h=>h,λ_ _=>rfl,λ_ h=>h.elim,λb z=>⟨?_,?_,z.2.1⟩,aa,?_,?_,?_,λ_ h=>bE h,jB,⟨rfl,rfl,rfl⟩,λ_ _ _ _=>rfl⟩
  all_goals (try show _<W.heap.size);(try show _<=W.heap.size)
  .have:=z.1;omega
  .have:=z.1;omega
  .omega
  .omega
  .grind
 have E:∀(j:Nat)(v:X),w.cell? ⟨tb,j,Z⟩=M v->tb<X1->W.cell? ⟨tb,j,Z⟩=M v:=λj v h z=>by rw[<-h];exact cell_of_block (oW tb z) j
 have hX:Xh (OC X1 Dead) W tx tb q0 n fr ad data:=by
  refine⟨λh=>let ⟨h1,h2,h3⟩:=hx.at_ h;⟨h1,aA,aA,h3⟩,λj hj=>?_,hx.size⟩;obtain⟨_,z,_⟩:=hx.at_ aA;obtain⟨c1,c2,c3⟩:=hx.cell j hj;exact⟨E _ _ c1 aA,E _ _ c2 aA,E _ _ c3 aA⟩
 have a3:=UN (OB:=OC X1 Dead) (W:=W) (Wg:=X1+3) (C:=X1+1) (bc:=X1) (bf:=X1+2) (cap:=cap) (cs:=b₀.at a₀ (bL ops (i::rest)::k)::cs) rd aA aA ⟨aA,aA,λh=>by have:=J _ h;omega⟩ ⟨aA,aA,λh=>by have:=J _ h;omega⟩ cW fW hX a0 hT aw ag af ai
  ⟨ar,0,0,(show W.heap[X1+3]? =_ from wW)⟩ (λ_ h=>h)
 obtain⟨Np,az,a',w',a5,t',q',K,hr,a6,an,a2,a4,ac,⟨cs',Y,ap⟩,ah⟩:=phase (P:=bA) (S:=mJ (X1+3) (X1+1) n) (Shun:=YJ Dead) (B:=X1+3) (Fin:=acO (OC X1 Dead) W (X1+3) (X1+1) n (X1+2) (b₀.at a₀ (bL ops (i::rest)::k)::cs)) (AnchW:=AnchS (OC X1 Dead) W (X1+3) (X1+1) n (X1+2) (b₀.at a₀ (bL ops (i::rest)::k)::cs))
  (Jf X1 (X1+2) W fs) (show n<2147483648 by omega) (λK g w h=>by obtain⟨_,_,_,rfl,_⟩:=h;rfl) (λK g w h=>by obtain⟨_,_,_,_,rfl,_⟩:=h;rfl)
  (Qr aA) (λK g w d h=>let ⟨T,h1,h2,h3,h4⟩:=h;⟨T,h1,h2,h3,h4.at d⟩) (sl:=sl) (w:=W.at d) h0 hL hP (K0:=⟨OC X1 Dead,λ_=>False⟩) (λ_ h=>h.elim)
  (λb z=>⟨by show b<W.heap.size;have:=z.1;omega,by show b≠X1+3;have:=z.1;omega,z.2.1,λl hl=>by rintro⟨a,rfl,h⟩;cases hl;exact z.2.2 h⟩)
  (by show X1+3<W.heap.size;omega) (by show X1+1<W.heap.size;omega) aC jB (cD λi ⟨a,e,h⟩=>by grind) (λ_ h=>h.elim) (show X1+1-1<=X1+3 by omega) (show X1+1-1<=X1+1 by omega)
  (show W.heap[X1+3]? =_ from wW) aa a3
 obtain⟨T',a1,aq,rfl,hS⟩:=an;refine xM.after hr ?_;have ay:=(hS.old _ ⟨aA,aA,λh=>by have:=J _ h;omega⟩).trans fW;have a7:=(hS.old X1 ⟨aA,aA,λh=>by have:=J _ h;omega⟩).trans cW
 have found:Found w n fs w':=by
  refine⟨λb z=>?_,⟨hS.still.1.trans ae.1,hS.still.2.1.trans ae.2.1,hS.still.2.2.trans ae.2.2⟩,?_,⟨cs',?_,ap,λi hi=>?_⟩,?_⟩
  .rw[R]at z;exact(hS.low b aA aA aA).trans (oW b z)
  .have:=hS.siz;omega
  .rw[R];exact Y
  .obtain⟨v,O,hh,ao,hO⟩:=ac i hi;refine⟨v,?_,?_⟩
   .have am:w'.cell? ⟨X1+1,i,Z⟩=M v:=hh;simp only[eB,Y]at am;exact am
   .obtain h|⟨g,aj,au,h1,h2,h3,h4⟩:=ao
    .exact bE h
    .refine cD ⟨g,aj,au,h1,?_,h3,h4⟩
     grind
  .rw[R];exact⟨_,_,aC,ah⟩
 have ak:=Jr (cs:=cs) (b₀:=b₀) (a₀:=a₀) (ops:=ops) (i:=i) (rest:=rest) (k:=k) a1 aq ay (Dead:=λb=>Dead b\/b=X1+3) (λh=>h.elim (λh=>by have:=J _ h;omega) λh=>aA) (I w' found);exact ak _ az a5 t' q' a6 a2 (y8 a4 λl hl=>hl.elim (λ⟨a,e,h⟩=>⟨a,e,bE h⟩) λ⟨a,e,h⟩=>⟨a,e,cD h⟩)
def aeU(A B:X):(#[A,B]++lO (24-(#[A,B]:Array X).size) aE:Array X)=#[A,B,aE,aE,aE,aE,aE,aE,aE,aE,aE,aE,aE,aE,aE,aE,aE,aE,aE,aE,aE,aE,aE,aE]:=by simp
def nmS:(Tryz.f50.name == "runtime.NumGoroutine")=aL:=rfl
def bdS:Tryz.f50.body=M YV:=rfl
def ntS:Tryz.f50.ntmps=24:=rfl
def zl(rd:ReadW){o:ij}{x y:jN}{Y:Array cG}(ho:ops[i]? =M o)(hw:cP o (yielded ops a₀.tmps)=aR)(hk:b₀.kind≠.early)(I:o.op=.call { callee:=.value (.func 50),args:=#[x,y],argTypes:=Y })(ex:a₀.eval x=.agg (cfg inbox batcher t0 t1 t2 t3 t4))(ey:a₀.eval y=.slice tx n cap)(hn:n<=16777216)(hD:∀b,Dead b->b<w.heap.size)(R:Tryz.prog.globals.size<=w.heap.size)(hx:Xh (λb=>b<w.heap.size/\¬Dead b) w tx tb q0 n fr ad data)(J:∀j,j<n->fs j=Fr.mg inbox batcher (fr j) (ad j) (data j).data.toList)(z:∀w',Found w n fs w'->ou bA Post (λb=>Dead b\/b=w.heap.size+3) (G (b₀.at (a₀.put o.dst (aH (M ⟨w.heap.size+1,0,Z⟩) n n)) (bL ops rest::k)) cs) w'):ou bA Post Dead (G (b₀.at a₀ (bL ops (i::rest)::k)) cs) w:=by
 have hF:=mS w;refine ou.go (n:=1) ?_;u_in at_rl hF;refine goes_call ho hw hk I Tryz.func50 nmS bdS ⟨by u_nil,?_⟩;obtain⟨d,rfl⟩:=hF;refine cL λaa E=>?_;obtain⟨d',rfl⟩:=E;refine ou.at (ou.at ?_ d) d'
 have h:=Iy (Post:=Post) (cap:=cap) (tx:=tx) (cs:=b₀.at a₀ (bL ops (i::rest)::k)::cs) (inbox:=inbox) (batcher:=batcher) (t0:=t0) (t1:=t1) (t2:=t2) (t3:=t3) (t4:=t4) hn hD λT h0 h1 h2 h5 h6=>
  NJ rd hn hD R hx J (by rw[ho];exact z) h0 h1 h2 h5 h6
 have e:(#[x,y].map a₀.eval)=#[.agg (cfg inbox batcher t0 t1 t2 t3 t4),.slice tx n cap]:=by simp[ex,ey]
 rw[e,ntS,aeU];exact h
end
end
end Cr
namespace Po
open Go Go.Conc
open Cr (ou Found Xh qY cfg)
section
def pend:nL->nL
 |aG c t _=>.pending c t
 |o=>o
def behind(x w:U)(g:Nat):U:={ w with heap:=w.heap.mapIdx λi o=>(x.heap[i]?).getD (if i=g then pend o else if ghost o then .coro Z else o) }
section
variable {x y w:U}{g b:Nat}
def sS(hs:↑x<=w.heap.size)(h:b<↑x):(behind x w g).heap[b]? =x.heap[b]?:=by
 show(w.heap.mapIdx _)[b]? =_
 grind
def ql(h:↑x<=b):(behind x w g).heap[b]? =(w.heap[b]?).map λo=>if b=g then pend o else if ghost o then .coro Z else o:=by
 show(w.heap.mapIdx _)[b]? =_
 grind
def Ul{e J:Env}(hw:WP e x y)(hC:∀c,e.C c->J.C c)(hold:∀b,b<y.heap.size->w.heap[b]? =y.heap[b]?)(hs:↑y<=w.heap.size)(hg:↑y<=g){c:Array X}{t:cG}(hc:c≠#[])(z:w.heap[g]? =M (aG c t (0,0)))
  (R:∀b,J.D b↔e.D b\/b=g\/y.heap.size<=b/\∃o,w.heap[b]? =M o/\ghost o=aR):WP J (behind x w g) w where
 os:=rfl
 output:=rfl
 size:=by simp[behind]
 out b E:=by
  have Y:=hw.size;rw[R]at E;obtain h|h:=gG b ↑x
  .rw[sS aA h,hold b aA,hw.out b λk=>E (bE k)]
  .rw[ql h]
   grind
 inn b E:=by
  have Y:=hw.size;rw[R]at E;obtain E|rfl|⟨h1,o,h2,h3⟩:=E
  .have hl:b<↑x:=by
    rcases hw.inn b E with⟨_,_,_,h,_⟩|⟨_,_,h,_⟩<;>exact(jE h)
   rw[sS aA hl,hold b aA];exact hw.inn b E
  .exact bE ⟨c,t,z,by rw[ql aA,z];simp[pend],hc⟩
  .by_cases k:b=g
   .subst k;rw[z]at h2;cases h2;cases h3
   .exact cD ⟨o,h2,by rw[ql aA,h2];simp[k,h3],h3⟩
 objs b o h:=by
  have Y:=hw.size;obtain k|k:=gG b ↑x
  .rw[sS aA k]at h;have:=hw.objs b o h;cases o with
   |loop l=>exact⟨hC _ this.1,hC _ this.2.1,λc k=>hC _ (this.2.2 c k)⟩
   |deferred ds=>cases ds<;>exact this
   |_=>trivial
  .rw[ql k]at h;cases I:w.heap[b]? with
   |none=>rw[I]at h;cases h
   |some u=>
    rw[I]at h;simp only[cO,aK]at h;subst h;refine zG ?_;by_cases k1:b=g
    .subst k1;rw[z]at I;cases I;simp[pend,ghost]
    .rw[Zs k1];split
     .rfl
     grind
end
structure BO(x:U)(n:Nat)(fs:Nat->List Fr.F)(x':U):Prop where
 old:∀b,b<x.heap.size->x'.heap[b]? =x.heap[b]?
 still:x'.os=x.os/\x'.output=x.output
 size:x.heap.size+4<=x'.heap.size
 rows:∃vs:Array X,x'.heap[x.heap.size+1]? =M (aG vs 106)/\vs.size=n/\∀i,i<n->∃v,vs[i]? =M v/\qY (λb=>x.heap.size+4<=b) x' v (fs i)
section
variable {D:Nat->Prop}{Post:vU}{XX A:List cR}{x:U}{b:cR}{a:Act}{k:List pS}{tx:Option eM}{n cap tb q0:Nat}{inbox batcher t0 t1 t2 t3 t4:Int}{fr ad:Nat->Int}{data:Nat->ByteArray}{fs:Nat->List Fr.F}
def uY{e:Env}{y:U}(hw:WP e x y){c:eM}{v:X}(h:x.cell? c=M v):¬e.D c.block/\c.block<x.heap.size/\y.cell? c=M v:=by
 have hd:¬e.D c.block:=λhd=>by
  rcases hw.inn _ hd with⟨_,_,_,k,_⟩|⟨_,_,k,_⟩<;>simp[eB,k]at h
 refine⟨hd,?_,by rw[<-h];simp only[eB,hw.out _ hd]⟩;cases k:x.heap[c.block]? with
 |none=>simp[eB,k]at h
 |some o=>grind
def Wk.frames(rd:Cr.ReadW){ops:Array ij}{i:Nat}{rest:List Nat}{o:ij}{p q:jN}{aj:Array cG}(ho:ops[i]? =M o)(hw:cP o (yielded ops a.tmps)=aR)(ac:o.op=.call { callee:=.value (.func 50),args:=#[p,q],argTypes:=aj })(ep:a.eval p=.agg (cfg inbox batcher t0 t1 t2 t3 t4))(eq:a.eval q=.slice tx n cap)(hn:n<=16777216)(ai:Tryz.prog.globals.size<=x.heap.size)(hx:Xh (λ_=>True) x tx tb q0 n fr ad data)(af:∀j,j<n->fs j=Fr.mg inbox batcher (fr j) (ad j) (data j).data.toList)(Y:∀D' x',BO x n fs x'->Wk (qe Tryz.prog.funcs D') Post XX (b.at (a.put o.dst (aH (M ⟨x.heap.size+1,0,Z⟩) n n)) (bL ops rest::k)) A x'):Wk (qe Tryz.prog.funcs D) Post XX (b.at a (bL ops (i::rest)::k)) A x:=by
 intro E y z I;have hz:=z.size
 rewrite [abp]
 refine Cr.zl (n:=n) (w:=y) (Dead:=D) (cs:=A++XX) rd ho hw (λh=>by have:=E.1.kind;rw[show(b.at a _).kind=b.kind from rfl,h]at this;cases this) ac ep eq hn (λc hc=>?_) (by rw[hz];exact ai) (tb:=tb) (q0:=q0) (fr:=fr) (ad:=ad) (data:=data) (fs:=fs) ⟨λh=>?_,λj hj=>?_,hx.size⟩ af λw' R=>?_
 .rcases z.inn c hc with⟨_,_,h,_⟩|⟨_,h,_⟩<;>exact(jE h)
 .have h1:=uY z (hx.cell 0 h).1;exact⟨(hx.at_ h).1,by rw[hz];exact h1.2.1,h1.1⟩
 .obtain⟨c1,c2,c3⟩:=hx.cell j hj;exact⟨(uY z c1).2.2,(uY z c2).2.2,(uY z c3).2.2⟩
 .obtain⟨c,t,hc,ah⟩:=R.wg;have hs:=R.size
  let D':Nat->Prop:=λb=>D b\/b=y.heap.size+3\/y.heap.size<=b/\∃o,w'.heap[b]? =M o/\ghost o=aR
  have aa:WP (qe Tryz.prog.funcs D') (behind x w' (y.heap.size+3)) w':=Ul z (λ_ h=>h) R.old aA aA hc ah λb=>Iff.rfl
  have keep:∀{b:Nat}{o:nL},↑y<=b->b≠y.heap.size+3->w'.heap[b]? =M o->ghost o=aL->(behind x w' (y.heap.size+3)).heap[b]? =M o:=λh1 h2 h3 h4=>by
   rw[ql aA,h3];simp[h2,h4]
  have hP:BO x n fs (behind x w' (y.heap.size+3)):=by
   refine⟨λb h=>sS aA h,⟨R.still.2.1.trans z.os,R.still.2.2.trans z.output⟩,by simp only[behind,Array.size_mapIdx];omega,?_⟩;obtain⟨vs,h1,h2,h3⟩:=R.rows;refine⟨vs,by rw[<-hz];exact keep aA aA h1 rfl,h2,λi hi=>?_⟩;obtain⟨v,g1,g2⟩:=h3 i hi;refine⟨v,g1,g2.imp id λ⟨g,cap,ag,r1,r2,r3,r4⟩=>⟨g,cap,ag,r1,by rw[<-hz];exact r2,keep aA aA r3 rfl,r4⟩⟩
  have hk:=Y D' _ hP ⟨⟨λit ae=>?_,?_,E.1.kind⟩,λf hf=>⟨(E.2 f hf).todo,(E.2 f hf).defers,(E.2 f hf).kind⟩⟩ w' aa ⟨λb J=>⟨bE (I.dead b J).1,(R.old b ?lt).trans (I.dead b J).2⟩,λb J hl=>?old,?size,R.still.2.1.trans I.os,R.still.2.2.trans I.output⟩
  case lt=>rcases z.inn b (I.dead b J).1 with⟨_,_,h,_⟩|⟨_,h,_⟩<;>exact(jE h)
  case old=>
   have:=I.size;obtain J|J|J:=J
   .exact I.old b J hl
   .omega
   .omega
  case size=>have:=I.size;omega
  .rewrite [abp]at hk
   rw[<-hz]at hk;exact hk.dead λb h=>h.elim bE λh=>cD (bE h)
  .obtain rfl|h:=dD.1 ae
   .exact E.1.todo (bL ops (i::rest)) (.head _)
   .exact E.1.todo _ (.tail _ h)
  .intro d hd;refine E.1.defers d ?_;have:(a.put o.dst (aH (M ⟨x.heap.size+1,0,Z⟩) n n)).defers=a.defers:=by cases o.dst<;>rfl
   have hd:d∈(a.put o.dst (aH (M ⟨x.heap.size+1,0,Z⟩) n n)).defers:=hd;rw[this]at hd;exact hd
end
end
section
variable {fn:pZ}{c d:eE}{ops:Array ij}{i id:Nat}{rest:List Nat}
abbrev Wq(D:Nat->Prop)(Post:vU)(XX:List cR)(fr:cR)(A:List cR)(x:U):Prop:=Wk (qe Tryz.prog.funcs D) Post XX fr A x
section
variable {D:Nat->Prop}{Post:vU}{XX A:List cR}{fr:cR}{x:U}{b:cR}{a:Act}{k:List pS}
def abx{P:cU}{G:Array pZ}{D:Nat->Prop}{k:Nat}(h:P.funcs[k]? =M fn):(ER P G D).F[k]? =M fn:=h
def Wq.piece{Q:Act->U->Prop}(h:∀t d,c.wp PQ (λz a' w'=>z=.normal/\Q a' w') a (on x t d))(J:∀a' x',Q a' x'->Wq D Post XX (b.at a' k) A x'):Wq D Post XX (b.at a (.code c::k)) A x:=by
 refine Wk.code (fits D) ?_
 rewrite [Fj]
 exact λt d=>wp_mono (h t d) λz a' w' ⟨I,E⟩=>by subst I;exact J a' w' E
def Wq.code(h:∀t d,c.wp PQ (Cont (qe Tryz.prog.funcs D) Post XX A b k) a (on x t d)):Wq D Post XX (b.at a (.code c::k)) A x:=by
 refine Wk.code (fits D) ?_
 rewrite [Fj]
 exact h
def Wq.op(h:∀t d,wpOp PQ ops (λ_ _ _=>False) i (λa' w'=>Wq D Post XX (b.at a' (bL ops rest::k)) A w') a (on x t d)):Wq D Post XX (b.at a (bL ops (i::rest)::k)) A x:=by
 refine Wk.op (fits D) ?_
 rewrite [Fj]
 exact h
def Wq.draw(h:∀t,Wq D Post XX (b.at a (bL ops (n9 (PQ.follows .mixedOrders) ops t)::k)) A x):Wq D Post XX (b.at a (.code (.region id ops aR)::k)) A x:=by
 refine Wk.draw (fits D) ?_
 rewrite [Fj]
 exact h
def Wq.call{o:ij}{f:ph}{args:Array jN}{I:Array cG}(ho:ops[i]? =M o)(hw:cP o (yielded ops a.tmps)=aR)(E:o.op=.call { callee:=.value (.func f),args,argTypes:=I })(R:PQ.funcs[f]? =M fn)(z:(fn.name == "runtime.NumGoroutine")=aL)(Y:fn.body=M c)(h:Wq D Post XX ((base f).at { tmps:=args.map a.eval++lO (fn.ntmps-(args.map a.eval).size) aE,defers:=[] } [.code c]) (b.at a (bL ops (i::rest)::k)::A) x):Wq D Post XX (b.at a (bL ops (i::rest)::k)) A x:=by
 refine Wk.call (fits D) ho hw ?_
 rewrite [Fj]
 intro t d;refine⟨f,args.map a.eval,on x t d,?_,?_⟩
 .exact run_call_body E R z (by rw[Y];rfl)
 .have J:iS PQ f (args.map a.eval) .normal=(base f).at { tmps:=args.map a.eval++lO (fn.ntmps-(args.map a.eval).size) aE,defers:=[] } [.code c]:=by
   simp[iS,Frame.at,R,Y,base]
  rw[J];exact h.Ee t d
def Wq.leave{c:cR}{v:X}(z:fr.mode=kz)(hd:fr.defers=[])(hk:fr.kind=.normal)(E:PQ.funcs[fr.fn]? =M fn)(I:∀w,(results fn fr.tmps).run PQ w=.ok v w)(h:Wq D Post XX (c.finish v) A x):Wq D Post XX fr (c::A) x:=by
 refine Wk.leave (fits D) z hd hk (abx E) ?_ h
 rewrite [Fj]
 exact λt d=>I _
def Wq.seq(h:Wq D Post XX (b.at a (.code c::.code d::k)) A x):Wq D Post XX (b.at a (.code (bR c d)::k)) A x:=Wk.seq (fits D) h
def Wq.cond{o:jN}{t:Bool}(hc:a.eval o=.bool t)(h:Wq D Post XX (b.at a (.code (if t then c else d)::k)) A x):Wq D Post XX (b.at a (.code (.cond o c d)::k)) A x:=Wk.cond (fits D) hc h
def Wq.region(h:Wq D Post XX (b.at a (bL ops (ir ops.size)::k)) A x):Wq D Post XX (b.at a (.code (.region id ops aL)::k)) A x:=Wk.region (fits D) h
def Wq.done(h:Wq D Post XX (b.at a k) A x):Wq D Post XX (b.at a (bL ops []::k)) A x:=Wk.done (fits D) h
def Wq.ret(h:∀todo,Wq D Post XX { b.at a todo with mode:=kz } A x):Wq D Post XX (b.at a (.code .ret::k)) A x:=Wk.ret (fits D) h
def Wq.fin(h:∀todo,Wq D Post XX { b.at a todo with mode:=kz } A x):Wq D Post XX (b.at a []) A x:=Wk.fin (fits D) h
end
end
section
variable {ds:List Deferred}
section
variable {D:Nat->Prop}{Post:vU}{XX A:List cR}{fr:cR}{x:U}
def Wk.takes{e:Env}(F:Fits e){b:Nat}(z:fr.mode=kz)(hd:fr.defers={ target:=px b,args:=#[] }::ds)(hk:x.heap[b]? =M (eI (M [])))(h:Wk e Post XX { fr with defers:=ds } A (x.putObj b (eI Z))):Wk e Post XX fr A x:=
 .one F.fit λt d=>by
  refine⟨_,A,_,?_,h.Ee t d⟩;have E:=run_takeDeferred (P:=e.P) (w:=on x t d) (b:=b) (ds:=[]) hk;simp[eC,unwind,z,hd,E];rfl
def Wq.takes{b:Nat}(z:fr.mode=kz)(hd:fr.defers={ target:=px b,args:=#[] }::ds)(hk:x.heap[b]? =M (eI (M [])))(h:Wq D Post XX { fr with defers:=ds } A (x.putObj b (eI Z))):Wq D Post XX fr A x:=Wk.takes (fits D) z hd hk h
end
end
open Cr (Fill fills Ec)
section
variable {id:Nat}{c:eE}{v:X}
section
variable {D:Nat->Prop}{Post:vU}{XX A:List cR}{fr:cR}{x y:U}{b:cR}{a:Act}{k:List pS}{ops:Array ij}{i:Nat}{rest:List Nat}{o:ij}
def Wq.same(h:∀t d,on x t d=on y t d)(hk:Wq D Post XX fr A y):Wq D Post XX fr A x:=Wk.acf (t:=y.tape) (d:=y.drawn) (by rw[h];exact hk.Ee _ _)
def Wq.skip(h:Wq D Post XX (b.at a k) A x):Wq D Post XX (b.at a (.code .skip::k)) A x:=Wk.skip (fits D) h
def Wq.block(h:Wq D Post XX (b.at a (.code c::.inBlock id::k)) A x):Wq D Post XX (b.at a (.code (.block id c)::k)) A x:=Wk.block (fits D) h
def Wq.inBlock(h:Wq D Post XX (b.at a k) A x):Wq D Post XX (b.at a (.inBlock id::k)) A x:=Wk.inBlock (fits D) h
def Wq.exit{k':List pS}(hk:exitTo id k=.some k')(h:Wq D Post XX (b.at a k') A x):Wq D Post XX (b.at a (.code (.exit id)::k)) A x:=Wk.exit (fits D) hk h
def Wq.loop(h:Wq D Post XX (b.at a (.code c::.inLoop c::k)) A x):Wq D Post XX (b.at a (.code (.loop c)::k)) A x:=Wk.ctl (fits D) (λ_=>step_loop) h
def Wq.inLoop(h:Wq D Post XX (b.at a (.code c::.inLoop c::k)) A x):Wq D Post XX (b.at a (.inLoop c::k)) A x:=Wk.ctl (fits D) (λ_=>step_inLoop) h
def Wq.val{x':U}(ho:ops[i]? =.some o)(E:o.guard=Z)(z:∀t d,(bN a.eval o).run PQ (on x t d)=.ok (.value v) (on x' t d))(h:Wq D Post XX (b.at (a.put o.dst v) (bL ops rest::k)) A x'):Wq D Post XX (b.at a (bL ops (i::rest)::k)) A x:=by refine Wq.op λt d=>?_;unfold wpOp;rw[ho];simp only[cP,E,if_true];refine bE ?_;unfold Oper.wp;rw[z t d];exact h.Ee t d
def Wq.qJ(op:Op)(dst:Option Tmp)(v:X)(x':U)(ho:(ops[i]?).map (λo=>(o.op,o.dst,o.guard))=.some (op,dst,Z))(E:∀t d (o:ij),o.op=op->(bN a.eval o).run PQ (on x t d)=.ok (.value v) (on x' t d))(h:Wq D Post XX (b.at (a.put dst v) (bL ops rest::k)) A x'):Wq D Post XX (b.at a (bL ops (i::rest)::k)) A x:=by
 cases z:ops[i]? with
 |none=>rw[z]at ho;cases ho
 |some o=>
  rw[z]at ho;simp only[cO,aK,dJ]at ho;obtain⟨I,rfl,h3⟩:=ho;exact Wq.val z h3 (λt d=>E t d o I) h
def Wq.walk(h:∀t d (Q:p9->Act->U->Prop),(∀a' w',Wq D Post XX (b.at a' k) A w'->Q .normal a' w')->(∀a' w',(∀todo,Wq D Post XX { b.at a' todo with mode:=kz } A w')->Q .ret a' w')->c.wp PQ Q a (on x t d)):Wq D Post XX (b.at a (.code c::k)) A x:=
 Wq.code λt d=>h t d _ (λ_ _ h=>h) (λ_ _ h=>h)
def Wq.fill{τ:Type}{aa:Nat}(V:τ->Nat->X)(J:Array Bool->U->(Nat->Prop)->τ->Prop)(hf:fills a.tmps.size ops=aR)(done:∀l a' x' R z,(∀i,i<ops.size->l.getD i aL=aR)->Fill ops (V z) a l a'->J l x' R z->Wq R Post XX (b.at a' k) A x')(more:∀l a' x' R z i o rest,ops[i]? =.some o->l.getD i aR=aL->(∀j,Cr.waits ops i j=aR->l.getD j aL=aR)->Fill ops (V z) a l a'->J l x' R z->(∀E I Y,(∀j,l.getD j aL=aR->V Y j=V z j)->J (l.setIfInBounds i aR) E I Y->Wq I Post XX (b.at (a'.put o.dst (V Y i)) (bL ops rest::k)) A E)->Wq R Post XX (b.at a' (bL ops (i::rest)::k)) A x')(z:τ)(h:J (lO ops.size aL) x D z):Wq D Post XX (b.at a (.code (.region aa ops aR)::k)) A x:=
 Wq.draw λt=>Ec (σ:=U×(Nat->Prop)×τ) (λs=>V s.2.2) (λl s=>J l s.1 s.2.1 s.2.2) (λrest a s=>Wq s.2.1 Post XX (b.at a (bL ops rest::k)) A s.1) hf (λl a _ h1 h2 h3=>Wq.done (done l a _ _ _ h1 h2 h3)) (λl a _ i o rest h1 h2 h3 h4 h5 h6=>more l a _ _ _ i o rest h1 h2 h3 h4 h5 λx D z h7 h8=>h6 (x,D,z) h7 h8) _ t (x,D,z) h
def Wq.last{fn:pZ}(z:fr.mode=kz)(hd:fr.defers=[])(hk:fr.kind=.normal)(E:Tryz.prog.funcs[fr.fn]? =.some fn)(R:Tryz.prog.inits.idxOf? fr.fn=Z)(J:∀w,(results fn fr.tmps).run bA w=.ok v w)(I:∀w,(results fn fr.tmps).events bA w #[]=#[])(hp:∀y,WP (qe Tryz.prog.funcs D) x y->Keep (qe Tryz.prog.funcs D) Post y->Post.post v y):Wq D Post [] fr [] x:=by refine Wk.last z hd hk E ?_ ?_ ?_ hp<;>rewrite [abp]<;>assumption
end
end
end Po
namespace Hm
open Go.ChangeMaps (setBlock)
open Go.MapKept (heap_set)
section
variable {q:ki}{k j:Nat}{v:X}
abbrev AL:=List (Nat×X)
variable {m:AL}
def l9(m:AL)(k:Nat):Option X:=(m.find? (λp=>p.1 == k)).map Prod.snd
def vG(m:AL)(k:Nat)(v:X):AL:=if k∈m.map cI then m.map (λp=>if p.1=k then(k,v)else p)else m++[(k,v)]
def nX(m:AL)(k:Nat):AL:=m.filter (λp=>p.1 != k)
def entryOf(q:ki)(e:gR)(p:Nat×X):Prop:=e.key=.int q p.1/\e.val=p.2
inductive nS(q:ki):List gR->AL->Prop
 |nil:nS q [] []
 |cons {e:gR} {p:Nat×X} {es:List gR} {m:AL}:entryOf q e p->nS q es m->nS q (e::es) (p::m)
def lS(w:U)(B:Nat)(q:ki)(m:AL):Prop:=
 ∃es z,w.heap[B]? =M (.map es z)/\nS q es.toList m/\(m.map cI).Nodup/\(es.toList.map (·.born)).Nodup/\∀e,e∈es.toList->e.born<z
def nS.length:∀{es:List gR}{m:AL},nS q es m->es.length=m.length
 |_,_,.nil=>rfl
 |_,_,.cons _ h=>by simp[h.length]
def nS.append:∀{es z:List gR}{m E:AL},nS q es m->nS q z E->nS q (es++z) (m++E)
 |_,_,_,_,.nil,h'=>h'
 |_,_,_,_,.cons a h,h'=>.cons a (h.append h')
def nS.mem:∀{es:List gR}{m:AL}{e:gR},nS q es m->e∈es->∃p,p∈m/\entryOf q e p
 |_,_,_,.nil,h=>by simp at h
 |_,_,_,.cons a hr,h=>by
  obtain rfl|h:=dD.1 h
  .grind
  .obtain⟨p,hp,z⟩:=hr.mem h
   grind
def nS.mem':∀{es:List gR}{m:AL}{p:Nat×X},nS q es m->p∈m->∃e,e∈es/\entryOf q e p
 |_,_,_,.nil,h=>by simp at h
 |_,_,_,.cons a hr,h=>by
  obtain rfl|h:=dD.1 h
  .grind
  .obtain⟨p,hp,z⟩:=hr.mem' h
   grind
def qc{q:ki}(k:Nat):∀{es:List gR}{m:AL}(i:Nat),nS q es m->
  (k∉m.map cI/\mr (.int q) (.int q k) es i=M Z/\l9 m k=Z/\nX m k=m)\/
  ∃j v,mr (.int q) (.int q k) es i=M (M (i+j,v))/\m[j]? =M (k,v)/\l9 m k=M v
 |_,_,i,.nil=>bE ⟨aC,rfl,rfl,rfl⟩
 |_,_,i,.cons (e:=e) (p:=p) (es:=es) (m:=m) a hr=>by
  obtain⟨pk,R⟩:=p;obtain⟨hk,I⟩:=a;simp only at hk I;by_cases E:pk=k
  .subst E;refine cD ⟨0,R,?_,aC,by simp[l9]⟩;simp[mr,Instr.sameNow,hk,I]
  .have z:((k:Int) == (pk:Int))=aL:=ZS aA;have hs:Instr.sameNow (.int q) (.int q (k:Int)) e.key=M aL:=by rw[hk];simp[Instr.sameNow,z]
   obtain⟨J,h2,h3,h4⟩|⟨j,v,J,h2,h3⟩:=qc k (i+1) hr
   .refine bE ⟨?_,?_,?_,?_⟩
    .grind
    .unfold mr;rw[hs];exact h2
    .unfold l9 at h3⊢
     grind
    .unfold nX at h4⊢
     grind
   .refine cD ⟨j+1,v,?_,by simpa using h2,?_⟩
    .unfold mr;grind
    .unfold l9 at h3⊢
     grind
def nS.set:∀{es:List gR}{m:AL}(j:Nat)(f:gR->gR),nS q es m->(∀e,entryOf q (f e) (k,v))->nS q (es.modify j f) (m.set j (k,v))
 |_,_,j,f,.nil,hf=>by simpa using nS.nil
 |_,_,0,f,.cons a hr,hf=>by simpa using nS.cons (hf _) hr
 |_,_,j+1,f,.cons a hr,hf=>by simpa using nS.cons a (hr.set j f hf)
def XT{v':X}(hn:(m.map cI).Nodup)(I:m[j]? =M (k,v)):m.set j (k,v')=vG m k v':=by
 have z:k∈m.map cI:=bM.2 ⟨_,aX I,rfl⟩;unfold vG;rw[ZD z];refine List.ext_getElem? (λi=>?_);rw[List.getElem?_set,fE];obtain⟨J,Y⟩:=aN.1 I;by_cases E:j=i
 .grind
 .rw[Zs E];cases hi:m[i]? with
  |none=>rfl
  |some p=>
   have:p.1≠k:=λe=>by
    obtain⟨aa,R⟩:=aN.1 hi;have hp:List.Pairwise (·≠·) (m.map cI):=hn;rw[iD]at hp
    grind
   simp[this]
def CQ(R:(m.map cI).Nodup)(I:m[j]? =M (k,v)):m.eraseIdx j=nX m k:=by
 induction m generalizing j with
 |nil=>simp at I
 |cons p m ih=>
  have z:=iE.1 (by simpa using R:(p.1::m.map cI).Nodup);cases j with
  |zero=>
   simp at I;subst I
   have:nX m k=m:=iR.2 (λx Y=>by
    grind)
   unfold nX at this⊢
   grind
  |succ j=>
   have E:m[j]? =M (k,v):=by simpa using I
   have J:p.1≠k:=λe=>z.1 (bM.2 ⟨_,aX E,e.symm⟩);have:=ih z.2 E;unfold nX at this⊢
   grind
def nS.erase:∀{es:List gR}{m:AL}(j:Nat),nS q es m->nS q (es.eraseIdx j) (m.eraseIdx j)
 |_,_,j,.nil=>by simpa using nS.nil
 |_,_,0,.cons a hr=>by simpa using hr
 |_,_,j+1,.cons a hr=>by simpa using nS.cons a (hr.erase j)
def Fz(z:(m.map cI).Nodup):((vG m k v).map cI).Nodup:=by
 unfold vG
 grind
def uV(z:(m.map cI).Nodup):((nX m k).map cI).Nodup:=by
 unfold nX
 grind
section
variable {P:cU}{w:U}{B:Nat}{q:ki}{m:AL}{t kt e:cG}
def oh{z:Bool}{k:Int}(hk:P.underlying kt=M (.int q)):(Instr.checkKey z 10000 kt (.int q k)).run P w=.ok () w:=by refine MapKept.run_checkKey hk ?_ z _;simp[MapKept.IsKey]
def pF{es:List gR}{r:Option (Nat×X)}(hk:P.underlying kt=M (.int q))(h:mr (.int q) (.int q k) es 0=M r):(Instr.findKey kt (.int q k) es).run P w=.ok r w:=by simp[Instr.findKey,eJ hk,fS,h]
def lS.lookup(h:lS w B q m)(ht:P.underlying t=M (.map kt e))(hk:P.underlying kt=M (.int q)){z:X}(Y:(zeroValue e).run P w=.ok z w)(k:Nat)(ok:Bool):
  (Instr.lookup t (.map (M B)) (.int q k) ok).run P w=.ok (if ok then cQ #[(l9 m k).getD z,.bool (l9 m k).isSome]else(l9 m k).getD z) w:=by
 obtain⟨es,E,J,R,_⟩:=h;obtain⟨I,h2,h3,_⟩|⟨j,v,I,h2,h3⟩:=qc k 0 R
 .rw[h3];cases ok<;>simp[Instr.lookup,eJ ht,fT J,oh hk,pF hk h2,Y,fS]
 .rw[h3];cases ok<;>simp[Instr.lookup,eJ ht,fT J,oh hk,pF hk I,fS]
def qh{o o':nL}(E:w.heap[B]? =M o):w.grownBy (setBlock w B o') (M B)/\(setBlock w B o').heap.size=w.heap.size:=
 ⟨⟨rfl,rfl,rfl,by simp[setBlock],λi _ I=>(heap_set E).2 i (λz=>I (by rw[z]))⟩,by simp[setBlock]⟩
def lS.update(h:lS w B q m)(ht:P.underlying t=M (.map kt e))(hk:P.underlying kt=M (.int q))(k:Nat)(v:X):∃w',(ol t (.map (M B)) (.int q k) v).run P w=.ok () w'/\lS w' B q (vG m k v)/\w.grownBy w' (M B)/\↑w'=w.heap.size:=by
 obtain⟨es,z,E,he,hn,ae,ag⟩:=h;obtain⟨h1,h2,h3,_⟩|⟨j,v0,h1,h2,h3⟩:=qc k 0 he
 .refine⟨setBlock w B (.map (es.push ⟨.int q k,v,z⟩) (z+1)),?_,⟨_,_,(heap_set E).1,?_,Fz hn,?_,?_⟩,qh E⟩
  .simp[ol,eJ ht,fT E,oh hk,pF hk h2,ix _ E,fS,setBlock]
  .rw[Array.toList_push];unfold vG;rw[Zs h1];exact he.append (.cons ⟨rfl,rfl⟩ .nil)
  .grind
  grind
 .rw[fJ]at h1;have R:j<es.toList.length:=by rw[he.length];exact(aN.1 h2).1
  have af:j<es.size:=by simpa using R
  obtain⟨I,J⟩:∃I,es.toList[j]? =M I:=⟨_,aO R⟩
  have Y:I.key=.int q k:=by
   have:∀{l:List gR}{mm:AL}(i:Nat),nS q l mm->l[i]? =M I->mm[i]? =M (k,v0)->I.key=.int q k:=by
    intro l mm i hl
    induction hl generalizing i with
    |nil=>intro h;simp at h
    |cons a hr ih=>
     cases i with
     |zero=>intro h h';simp at h h';subst h;subst h';exact a.1
     |succ i=>grind
   exact this j he J h2
  have ac:es[j]? =M I:=by simpa using J
  refine⟨setBlock w B (.map (es.modify j λe=>{ e with key:=.int q k,val:=v }) z),?_,⟨_,_,(heap_set E).1,?_,Fz hn,?_,?_⟩,qh E⟩
  .have aa:(oY (.int q (k:Int)) (.int q (k:Int))).run P w=.ok (.int q (k:Int)) w:=by simp[oY,Instr.sameBits]
   simp[ol,eJ ht,fT E,oh hk,pF hk h1,ix _ E,fS,setBlock,ac,Y,aa]
  .rw[Array.toList_modify,<-XT hn h2];exact he.set j _ (λ_=>⟨rfl,rfl⟩)
  .rw[Array.toList_modify]
   have:∀(l:List gR)(i:Nat),(l.modify i λe=>{ e with key:=.int q k,val:=v }).map (·.born)=l.map (·.born):=by
    intro l
    induction l with
    |nil=>intro i;simp
    |cons a l ih=>grind
   grind
  .intro x hx;rw[Array.toList_modify]at hx
   have:∀(l:List gR)(i:Nat),x∈(l.modify i λe=>{ e with key:=.int q k,val:=v })->∃y,y∈l/\y.born=x.born:=by
    intro l
    induction l with
    |nil=>intro i h;simp at h
    |cons a l ih=>grind
   grind
def sK(es:Array gR)(j:Nat)(z:j<es.size):(es.eraseIdxIfInBounds j).toList=es.toList.eraseIdx j:=by simp
def lS.delete(h:lS w B q m)(ht:P.underlying t=M (.map kt e))(hk:P.underlying kt=M (.int q))(k:Nat)(ty:cG):∃w',(kv #[t,kt] ty #[.map (M B),.int q k]).run P w=.ok (cQ #[]) w'/\lS w' B q (nX m k)/\w.grownBy w' (M B)/\↑w'=w.heap.size:=by
 obtain⟨es,E,z,J,hn,R,aa⟩:=h;obtain⟨Y,h2,h3,h4⟩|⟨j,v0,Y,h2,h3⟩:=qc k 0 J
 .refine⟨_,?_,⟨_,_,(heap_set z).1,by rw[h4];exact J,uV hn,R,aa⟩,qh z⟩;simp[kv,eJ ht,fT z,oh hk,pF hk h2,ix _ z,fS,setBlock]
 .rw[fJ]at Y
  have I:j<es.size:=by
   have:j<es.toList.length:=by rw[J.length];exact(aN.1 h2).1
   simpa using this
  refine⟨setBlock w B (.map (es.eraseIdxIfInBounds j) E),?_,⟨_,_,(heap_set z).1,?_,uV hn,?_,?_⟩,qh z⟩
  .simp[kv,eJ ht,fT z,oh hk,pF hk Y,ix _ z,fS,setBlock]
  .rw[sK es j I,<-CQ hn h2];exact J.erase j
  .rw[sK es j I]
   grind
  grind
def lS.len(h:lS w B q m)(ht:P.underlying t=M (.map kt e))(ty:cG):(mw #[t] ty #[.map (M B)]).run P w=.ok (goInt m.length) w:=by
 obtain⟨es,z,I,E,_⟩:=h;have:es.size=m.length:=by rw[<-E.length];simp
 simp[mw,eJ ht,fT I,fS,this]
def lS.len_nil(ht:P.underlying t=M (.map kt e))(ty:cG):(mw #[t] ty #[.map Z]).run P w=.ok (goInt 0) w:=by simp[mw,eJ ht,fS]
def lS.lt(h:lS w B q m):B<w.heap.size:=by
 obtain⟨es,z,E,_⟩:=h
 grind
def lS.of_block{w':U}(h:lS w B q m)(I:w'.heap[B]? =w.heap[B]?):lS w' B q m:=by obtain⟨es,z,E,r⟩:=h;exact⟨es,z,I.trans E,r⟩
def lS.made(w:U)(q:ki):lS (w.alloc (.map #[] 0)) ↑w q []:=⟨#[],0,(MapKept.heap_alloc w _).1,.nil,aC,aC,aC⟩
end
end
section
variable {es:List gR}{x y:gR}
def lD(w:U)(B r:Nat)(q:ki)(m:AL)(L:Nat->Bool)(cnt:Nat):Prop:=
 ∃es E z seen c0,w.heap[B]? =M (.map es E)/\nS q es.toList m/\(m.map cI).Nodup/\(es.toList.map (·.born)).Nodup/\(∀e,e∈es.toList->e.born<E)/\
  w.heap[r]? =M (.mapIter (M B) z seen c0)/\(∀e,e∈es.toList->e.born<z)/\z<=c0/\z<=E/\(leftOf es seen).size=cnt/\
  (∀e k,e∈es.toList->e.key=.int q (k:Nat)->L k=!seen.contains e.born)/\∀k,L k=aR->k∈m.map cI
section
variable {P:cU}{w:U}{B r:Nat}{q:ki}{m:AL}{L:Nat->Bool}{cnt:Nat}{t kt e:cG}
def lD.ZE(h:lD w B r q m L cnt):lS w B q m:=by obtain⟨es,z,E,seen,c0,I,h2,h3,h4,J,_⟩:=h;exact⟨es,z,I,h2,h3,h4,J⟩
def lD.lt(h:lD w B r q m L cnt):r<↑w:=by
 obtain⟨es,E,z,seen,c0,J,h2,h3,h4,R,I,_⟩:=h
 grind
def lD.ne(h:lD w B r q m L cnt):r≠B:=by
 obtain⟨es,E,z,seen,c0,J,h2,h3,h4,R,I,_⟩:=h
 grind
def lD.FP{w':U}(h:lD w B r q m L cnt)(hb:w'.heap[B]? =w.heap[B]?)(J:w'.heap[r]? =w.heap[r]?):lD w' B r q m L cnt:=by obtain⟨es,E,z,seen,c0,R,h2,h3,h4,h5,I,Y⟩:=h;exact⟨es,E,z,seen,c0,hb.trans R,h2,h3,h4,h5,J.trans I,Y⟩
def lS.range(h:lS w B q m)(ht:P.underlying t=M (.map kt e)):∃w',(Instr.range t (.map (M B))).run P w=.ok (aD (M ⟨↑w,0,Z⟩)) w'/\lD w' B ↑w q m (λk=>decide (k∈m.map cI)) m.length/\w.grownBy w' Z/\↑w'=w.heap.size+1:=by
 have I:=h.lt;obtain⟨es,z,Y,R,hn,J,E⟩:=h;refine⟨_,run_range_map w t kt e B es z ht Y,⟨es,z,z,_,z,((MapKept.heap_alloc w _).2 B I).trans Y,R,hn,J,E,(MapKept.heap_alloc w _).1,E,jB,jB,?_,?_,?_⟩,World.grownBy_alloc w _ Z,aC⟩
 .simp[leftOf,<-R.length]
 .intro x k hx hk;obtain⟨p,hp,h1,h2⟩:=R.mem hx
  grind
 simp
def nS.key_inj{m:AL}(h:nS q es m)(hn:(m.map cI).Nodup)(hx:x∈es)(hy:y∈es)(hk:x.key=y.key):x=y:=by
 induction h with
 |nil=>simp at hx
 |cons a hr ih=>
  rename_i I p E R;have J:=iE.1 (by simpa using hn:(p.1::R.map cI).Nodup)
  have far:∀z,z∈E->z.key=I.key->False:=λz hz e=>by
   obtain⟨p',hp',Y,_⟩:=hr.mem hz;rw[e,a.1]at Y
   grind
  grind
def nS.l9{m:AL}(h:nS q es m)(J:(m.map cI).Nodup){p:Nat×X}(hp:p∈m):Hm.l9 m p.1=M p.2:=by
 obtain⟨Y,_⟩|⟨j,v,_,h2,h3⟩:=qc p.1 0 h
 .grind
 .rw[h3];have R:=aX h2;obtain⟨i,hi,rfl⟩:=List.getElem_of_mem hp;obtain⟨E,I⟩:=aN.1 h2;have z:List.Pairwise (·≠·) (m.map cI):=J;rw[iD]at z
  grind
def Xr(z:(es.map (·.born)).Nodup)(E:x∈es)(I:y∈es)(h:x.born=y.born):x=y:=by
 induction es with
 |nil=>simp at E
 |cons a l ih=>
  grind
def lD.next(h:lD w B r q m L cnt)(ty:cG):(cnt=0/\(∀k,L k=aL)/\(Instr.next (aD (M ⟨r,0,Z⟩)) aL ty).run P w=.ok (cQ #[cK aL]) w)\/∃(k:Nat)(v:X)(w':U)(aa:Nat),L k=aR/\(k,v)∈m/\Hm.l9 m k=M v/\(Instr.next (aD (M ⟨r,0,Z⟩)) aL ty).run P w=.ok (cQ #[cK aR,.int q k,v]) w'/\lD w' B r q m (λx=>L x&&x != k) aa/\aa<cnt/\w.grownBy w' (M r)/\↑w'=w.heap.size/\(Instr.entry (aD (M ⟨r,0,Z⟩))).run P w'=.ok (cQ #[.int q k,v]) w':=by
 have an:=h.ne;obtain⟨es,z,E,seen,c0,hb,he,hn,ae,ar,hr,hold,aq,af,rfl,ak,ag⟩:=h;obtain⟨h0,I⟩|⟨x,hx,w1,Y,I⟩:=run_next_at (P:=P) w ty r B E c0 seen es z hr hb hold aq
 .refine bE ⟨h0,λk=>?_,I⟩;cases hk:L k
  .rfl
  .obtain⟨p,hp,rfl⟩:=bM.1 (ag k hk);obtain⟨y,hy,ao,av⟩:=he.mem' hp;rw[ak y p.1 hy ao,all_seen es seen h0 y hy]at hk;cases hk
 .obtain⟨R,aw⟩:=mem_left hx;obtain⟨p,hp,ac,ai⟩:=he.mem R;have ap:w1.heap[r]? =M (.mapIter (M B) E seen c0):=by rcases Y with rfl|rfl<;>exact hr
  have au:w1.heap[B]? =M (.map es z):=by rcases Y with rfl|rfl<;>exact hb
  have J:=heap_set (o':=.mapIter (M B) E (seen.push x.born) z) ap;have aj:(setBlock w1 r (.mapIter (M B) E (seen.push x.born) z)).heap[B]? =M (.map es z):=(J.2 B (λe1=>an e1.symm)).trans au;rw[ac,ai]at I;have ah:=run_entry_at (P:=P) _ r B E seen es z x J.1 aj R ae;rw[ac,ai]at ah
  refine cD ⟨_,_,_,_,by grind,hp,he.l9 hn hp,I,
   ⟨es,z,E,_,z,aj,he,hn,ae,ar,J.1,hold,af,af,rfl,λy k hy hk=>?_,λk hk=>ag k (by simp at hk;exact hk.1)⟩,left_shrinks es seen x hx,?_,?_,ah⟩
  .show(L k&&k != p.1)=_
   rw[ak y k hy hk,contains_push]
   have:(k != p.1)=!(y.born == x.born):=by
    by_cases am:k=p.1
    .have:=he.key_inj hn hy R (by rw[hk,ac,am])
     grind
    .have:y.born≠x.born:=λe1=>am (by
      have:=Xr ae hy R e1
      grind)
     grind
   grind
  .rcases Y with rfl|rfl<;>exact⟨rfl,rfl,rfl,by simp[setBlock],λi _ hi=>J.2 i (λe1=>hi (by rw[e1]))⟩
  .rcases Y with rfl|rfl<;>simp[setBlock]
def FH(a:Array gR)(seen:Array Nat):(leftOf a seen).size=(a.toList.filter λe=>!seen.contains e.born).length:=by unfold leftOf;rw[<-Array.toList_filter,Array.length_toList]
def lD.delete(h:lD w B r q m L cnt)(ht:P.underlying t=M (.map kt e))(hk:P.underlying kt=M (.int q))(k:Nat)(ty:cG):∃w' Y,(kv #[t,kt] ty #[.map (M B),.int q k]).run P w=.ok (cQ #[]) w'/\lD w' B r q (nX m k) (λx=>L x&&x != k) Y/\Y<=cnt/\w.grownBy w' (M B)/\↑w'=w.heap.size:=by
 have af:=h.ne;obtain⟨es,z,J,seen,c0,R,he,hn,aj,aq,hr,hold,ah,ae,rfl,ap,am⟩:=h;obtain⟨h1,h2,h3,h4⟩|⟨j,v0,h1,h2,h3⟩:=qc k 0 he
 .have I:=heap_set (o':=.map es z) R;refine⟨_,_,?_,⟨es,z,J,seen,c0,I.1,by rw[h4];exact he,uV hn,aj,aq,(I.2 r af).trans hr,hold,ah,ae,rfl,λy k' hy E=>?_,λk' E=>?_⟩,jB,qh R⟩
  .simp[kv,eJ ht,fT R,oh hk,pF hk h2,ix _ R,fS,setBlock]
  .grind
  grind
 .rw[fJ]at h1;have an:j<es.toList.length:=by rw[he.length];exact(aN.1 h2).1
  have ak:j<es.size:=by simpa using an
  have I:=heap_set (o':=.map (es.eraseIdxIfInBounds j) z) R;have ai:=List.eraseIdx_sublist es.toList j;have aa:=sK es j ak;have ag:nS q (es.eraseIdxIfInBounds j).toList (nX m k):=by rw[aa,<-CQ hn h2];exact he.erase j
  refine⟨_,_,?_,⟨_,z,J,seen,c0,I.1,ag,uV hn,?_,?_,(I.2 r af).trans hr,?_,ah,ae,rfl,λy k' hy E=>?_,λk' E=>?_⟩,?_,qh R⟩
  .simp[kv,eJ ht,fT R,oh hk,pF hk h1,ix _ R,fS,setBlock]
  .grind
  .grind
  .grind
  .show(L k'&&k' != k)=_
   have ao:=hy;rw[aa]at hy;rw[ap y k' (ai.subset hy) E]
   have:k'≠k:=λe1=>by
    obtain⟨p,hp,ac,_⟩:=ag.mem ao;rw[E]at ac;simp only[Value.int.injEq,true_and]at ac;have:=(fU.1 hp).2
    grind
   simp[this]
  .simp only[dF,bne_iff_ne,ne_eq]at E;obtain⟨p,hp,rfl⟩:=bM.1 (am k' E.1);exact bM.2 ⟨p,fU.2 ⟨hp,by simp[E.2]⟩,rfl⟩
  .rw[FH,FH,aa]
   grind
end
section
variable {P:cU}(w:U){ops:Array ij}{rest:List ij}{o:ij}{a:Act}{Q:p9->Act->U->Prop}
def uM(Y:o.guard=Z)(x y:jN)(t kt:cG)(I:o.op=Op.call { callee:=Callee.builtin Builtin.delete,args:=#[x,y],argTypes:=#[t,kt] })(e:cG)(q:ki)(ht:P.underlying t=M (.map kt e))(hk:P.underlying kt=M (.int q))(B r:Nat)(m:AL)(L:Nat->Bool)(cnt k:Nat)(hx:a.eval x=.map (M B))(hy:a.eval y=.int q k)(h:lD w B r q m L cnt)(hK:∀w' z,lD w' B r q (nX m k) (λx=>L x&&x != k) z->z<=cnt->w.grownBy w' (M B)->↑w'=w.heap.size->wpList P ops Q rest (a.put o.dst (cQ #[])) w'):wpList P ops Q (o::rest) a w:=by
 refine wpList_plain Y λK' J=>?_;obtain⟨w',z,E,r1,r2,R,r4⟩:=h.delete ht hk k o.type;unfold Oper.wp;simp[bN,I,resolve,invoke,builtin,hx,hy,E,fS];exact J _ _ (hK w' z r1 r2 R r4)
def xQ(R:o.guard=Z)(x:jN)(t:cG)(E:o.op=Op.range t x)(kt e:cG)(q:ki)(ht:P.underlying t=M (.map kt e))(B:Nat)(m:AL)(hx:a.eval x=.map (M B))(h:lS w B q m)(Y:∀w',lD w' B ↑w q m (λk=>decide (k∈m.map cI)) m.length->w.grownBy w' Z->↑w'=w.heap.size+1->wpList P ops Q rest (a.put o.dst (aD (M ⟨↑w,0,Z⟩))) w'):wpList P ops Q (o::rest) a w:=by
 refine wpList_plain R λK' I=>?_;obtain⟨w',z,r1,r2,J⟩:=h.range (P:=P) ht;unfold Oper.wp;simp[bN,E,hx,z,fS];exact I _ _ (Y w' r1 r2 J)
def wR(hg:o.guard=Z)(it:jN)(R:o.op=Op.next it aL)(B r:Nat)(q:ki)(m:AL)(L:Nat->Bool)(cnt:Nat)(Y:a.eval it=aD (M ⟨r,0,Z⟩))(h:lD w B r q m L cnt)(I:cnt=0->(∀k,L k=aL)->wpList P ops Q rest (a.put o.dst (cQ #[cK aL])) w)(J:∀(k:Nat)(v:X)(w':U)(z:Nat),L k=aR->(k,v)∈m->l9 m k=M v->lD w' B r q m (λx=>L x&&x != k) z->z<cnt->w.grownBy w' (M r)->↑w'=w.heap.size->(Instr.entry (aD (M ⟨r,0,Z⟩))).run P w'=.ok (cQ #[.int q k,v]) w'->wpList P ops Q rest (a.put o.dst (cQ #[cK aR,.int q k,v])) w'):wpList P ops Q (o::rest) a w:=by
 refine wpList_plain hg λK' aa=>?_;unfold Oper.wp;obtain⟨h0,hl,E⟩|⟨k,v,w',z,h1,h2,ac,E,h3,h4,h5,h6,h7⟩:=h.next (P:=P) o.type
 .simp[bN,R,Y,E,fS];exact aa _ _ (I h0 hl)
 .simp[bN,R,Y,E,fS];exact aa _ _ (J k v w' z h1 h2 ac h3 h4 h5 h6 h7)
end
end
open Go.RowKit Go.Joins
section
variable {n g:Nat}{XS:Nat->Prop}{w w':U}{v:X}
structure jI(XS:Nat->Prop)(w w':U):Prop where
 os:w'.os=w.os
 tape:w'.tape=w.tape
 output:w'.output=w.output
 size:↑w<=w'.heap.size
 block:∀k,k<w.heap.size->¬XS k->w'.heap[k]? =w.heap[k]?
section
variable {XS M':Nat->Prop}{w w' w'':U}
def jI.refl(XS:Nat->Prop)(w:U):jI XS w w:=⟨rfl,rfl,rfl,jB,λ_ _ _=>rfl⟩
def jI.trans(h:jI XS w w')(z:jI M' w' w'')(I:∀k,k<w.heap.size->M' k->XS k):jI XS w w'':=
 ⟨z.os.trans h.os,z.tape.trans h.tape,z.output.trans h.output,bH h.size z.size,λk hk E=>(z.block k (aP hk h.size) (λe=>E (I k hk e))).trans (h.block k hk E)⟩
def jI.mono(h:jI XS w w')(z:∀k,k<w.heap.size->XS k->M' k):jI M' w w':=⟨h.os,h.tape,h.output,h.size,λk hk E=>h.block k hk (λe=>E (z k hk e))⟩
def jI.below(h:Below n w w')(z:↑w<=n)(XS:Nat->Prop):jI XS w w':=⟨h.os,h.tape,h.output,h.size,λk hk _=>h.block k aA⟩
def jI.lQ(h:jI (λ_=>False) w w'):Below ↑w w w':=⟨h.os,h.tape,h.output,h.size,λk hk=>h.block k hk (λe=>e)⟩
def jI.grown{r:Option Nat}(h:w.grownBy w' r):jI (λk=>r=M k) w w':=⟨h.os,h.tape,h.output,h.size,λk hk z=>h.block k hk (λe=>z e.symm)⟩
def jI.alloc(XS:Nat->Prop)(w:U)(o:nL):jI XS w (w.alloc o):=.below ((Below.refl ↑w w).alloc jB o) jB XS
def jI.set(w:U)(b i:Nat)(v:X):jI (λk=>k=b) w (w.setCell ⟨b,i,Z⟩ v):=⟨rfl,rfl,rfl,aC,λk _ z=>mU _ _ _ _ z⟩
def jI.drew(XS:Nat->Prop)(w:U):jI XS w w.drew:=⟨rfl,rfl,rfl,jB,λ_ _ _=>rfl⟩
end
def Rd(w:U)(s:Nat)(v:X)(n:Nat)(xs:List X):Prop:=
 xs.length=n*s/\∃a cap,v=.slice a n cap/\n<=cap/\(0<n->∃g off,a=M ⟨g,off,Z⟩/\g<w.heap.size/\∀j u,xs[j]? =M u->w.cell? ⟨g,off+j,Z⟩=M u)
section
variable {w w':U}{e s:Nat}{v:X}{n:Nat}{xs:List X}
def Rd.slice(h:Rd w s v n xs):∃a cap,v=.slice a n cap:=by obtain⟨_,a,cap,z,_⟩:=h;exact⟨a,cap,z⟩
def Rd.pos(h:Rd w s v n xs)(E:0<n):∃g off cap,v=aH (M ⟨g,off,Z⟩) n cap/\n<=cap/\g<w.heap.size/\∀j u,xs[j]? =M u->w.cell? ⟨g,off+j,Z⟩=M u:=by
 obtain⟨_,a,cap,z,hc,hp⟩:=h
 grind
def Rd.kept(h:Rd w s v n xs)(hs:↑w<=w'.heap.size)(hk:0<n->∀g,v.ownBlock=M g->g<w.heap.size->w'.heap[g]? =w.heap[g]?):Rd w' s v n xs:=by obtain⟨I,a,cap,rfl,hc,hp⟩:=h;refine⟨I,a,cap,rfl,hc,λz=>?_⟩;obtain⟨g,off,rfl,J,R⟩:=hp z;refine⟨g,off,rfl,aA,λj u E=>?_⟩;rw[World.cell?_of_block (a:=⟨g,off+j,Z⟩) (hk z g rfl J)];exact R j u E
def Rd.below(h:Rd w s v n xs)(z:Below ↑w w w'):Rd w' s v n xs:=h.kept z.size (λ_ g _ E=>z.block g E)
def Rd.jM(h:Rd w s v n xs)(z:jI XS w w')(I:0<n->∀g,v.ownBlock=M g->¬XS g):Rd w' s v n xs:=h.kept z.size (λR g J E=>z.block g E (I R g J))
def Rd.nil(w:U)(s:Nat)(a:Option eM)(cap:Nat):Rd w s (.slice a 0 cap) 0 []:=⟨aC,a,cap,rfl,dL _,λh=>aA⟩
def Row.rd(h:Row w e s v n xs):Rd w s v n xs:=by
 refine⟨h.1,?_⟩;obtain⟨rfl,rfl⟩|⟨g,off,cap,I,rfl,E,z,_,_,R⟩:=h.2
 .simp
 .refine⟨_,cap,rfl,z,λ_=>⟨g,off,rfl,(jE E),λj u J=>?_⟩⟩;have:=R j u J;simp[eB,E,this]
def Row.jM(h:Row w e s v n xs)(I:jI XS w w')(E:∀g,v.ownBlock=M g->¬XS g):Row w' e s v n xs:=h.kept (λg z=>I.block g (h.lt z) (E g z))
def Row.below(h:Row w e s v n xs)(E:Below ↑w w w'):Row w' e s v n xs:=h.kept (λg z=>E.block g (h.lt z))
end
section
variable {α:Type}(f:α->List X)(s:Nat)(hf:∀x,(f x).length=s)
include hf
def flat_get:∀(l:List α)(j i:Nat)(x:α),l[j]? =M x->i<s->(l.flatMap f)[j*s+i]? =(f x)[i]?
 |[],j,i,x,h,_=>by simp at h
 |y::l,0,i,x,h,hi=>by
  grind
 |y::l,j+1,i,x,h,hi=>by
  rw[gY,bV (by grind),hf,<-flat_get l j i x (by simpa using h) hi]
  grind
def mQ:∀l:List α,(l.flatMap f).length=l.length*s
 |[]=>aC
 |y::l=>by rw[gY,aS,hf,mQ l,aU,iP];omega
def Rd.rec{l:List α}{off cap:Nat}(h:Rd w s (aH (M ⟨g,off,Z⟩) l.length cap) l.length (l.flatMap f)){j:Nat}{x:α}(z:l[j]? =M x){i:Nat}{u:X}(hi:i<s)(Y:(f x)[i]? =M u):w.cell? ⟨g,off+(j*s+i),Z⟩=M u:=by have R:=(aN.1 z).1;obtain⟨g',I,J,E,_,_,hx⟩:=h.pos aA;simp only[dT,aK,Addr.mk.injEq,and_true,true_and]at E;obtain⟨⟨rfl,rfl⟩,rfl⟩:=E;exact hx _ _ (by rw[flat_get f s hf l j i x z hi];exact Y)
end
def Grew(v:X)(g:Nat)(w w':U):Prop:=(v.ownBlock=M g/\w.grownBy w' (M g)/\↑w'=w.heap.size)\/(g=w.heap.size/\w.grownBy w' Z/\↑w'=w.heap.size+1)
def Grew.jM(h:Grew v g w w'):jI (λk=>v.ownBlock=M k) w w':=by
 obtain⟨e,z,_⟩|⟨_,z,_⟩:=h
 .rw[<-e]at z;exact .grown z
 .exact(jI.grown z).mono (λk _ e=>by simp at e)
def Grew.own(h:Grew v g w w'):v.ownBlock=M g\/↑w<=g:=by
 obtain⟨e,_⟩|⟨e,_⟩:=h
 .exact bE e
 omega
def Grew.keep{e s kb:Nat}{xs:List X}{cs:Array X}{t:Nat}{E:Nat×Nat}(h:Grew v g w w')(z:Row w e s v n xs)(hk:w.heap[kb]? =M (aG cs t E))(R:t≠e):w'.heap[kb]? =M (aG cs t E):=by
 refine(h.jM.block kb (jE hk) (λJ=>?_)).trans hk;obtain⟨I,hc⟩:=z.obj J
 grind
section
variable {P:cU}(w:U){ops:Array ij}{rest:List ij}{o:ij}{a:Act}{Q:p9->Act->U->Prop}
def kX(ac:o.guard=Z)(s x:jN)(t:cG)(ho:o.op=.call { callee:=.builtin .append,args:=#[s,x],argTypes:=#[t,t] })(e:cG)(i:TypeInfo)(z:X)(size bytes:Nat)(ht:P.underlying t=M (.slice e))(hi:P.info? e=M i)(hz:i.zero=M z)(J:i.size=size)(ag:i.bytes=bytes)(ah:z.cells.size=size)(af:0<size)(v:X)(n:Nat)(xs:List X)(hs:a.eval s=v)(Y:Row w e size v n xs)(ad:eM)(m c:Nat)(E:List X)(hx:a.eval x=aH (M ad) m c)(hm:0<m)(hl:E.length=m*size)(R:∀j u,E[j]? =M u->w.cell? (ad.add j)=M u)(h1:∀u∈E,u.oneCell'=aR)(ae:n+m<=maxLen)(I:(n+m)*bytes<=140737488355328)(h:∀g off cap w',Row w' e size (aH (M ⟨g,off,Z⟩) (n+m) cap) (n+m) (xs++E)->Grew v g w w'->wpList P ops Q rest (a.put o.dst (aH (M ⟨g,off,Z⟩) (n+m) cap)) w'):wpList P ops Q (o::rest) a w:=by
 refine wpList_plain ac λK hK=>?_;obtain⟨v',w',hr,h2,⟨g,off,cap,rfl⟩,h4⟩:=Y.append (P:=P) t o.type i z bytes ht hi hz J ag ah af ad m c E hm hl R h1 ae I;unfold Oper.wp bN;simp only[ho,resolve,invoke,builtin,Sem.run_bind,Sem.run_pure,Result.andThen_ok,fQ,eP,fP,hs,hx,hr];refine hK _ _ (h g off cap w' h2 ?_);obtain⟨e1,e2,e3⟩|⟨e1,e2,e3⟩:=h4
 .have aa:v.ownBlock=M g:=e1.symm;exact bE ⟨aa,by rw[<-aa];exact e2,e3⟩
 .exact cD ⟨by simpa[cV]using e1,e2,e3⟩
end
end
end Hm
