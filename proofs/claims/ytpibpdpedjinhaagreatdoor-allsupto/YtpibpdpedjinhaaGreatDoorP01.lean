import Derived.Test.YtpibpdpedjinhaaGreatDoorP00
import Derived.Conc.WgGenN3
import Derived.Conc.CompanyDraw
import Derived.RangeFuncRecord
import Derived.Lib.BufferWrite
import Derived.Lib.SmallJoins
set_option maxRecDepth 100000
set_option maxHeartbeats 8000000
set_option linter.all false
open Array renaming getD->tr,replicate->wy,setIfInBounds->qb,size->qd
open Bool renaming false->pi,true->pw
open Eq renaming trans->oy
open Exists renaming choose_spec->Y7
open Go renaming Event->Zx,Frame->tg,Goroutine->r9,Item->qbe,Obj->ZG,Oper->OF,Program->th,TypeId->wj,Value->po,World->pn,execOp->rj,stepG->vi,undef->p8
open Go.Act renaming eval->p7,put->td
open Go.Builtin renaming append_->By,copy_->qaF,firstCells->qaG,holdsCells->ZQ,lenOf->qbd,mayShare->qad
open Go.CallKind renaming early->qaw
open Go.Conc renaming Goes->X7,aside_setCell->IN,mem_listed->ym,stepG_block->qaq,stepG_region_end->pu,stepG_ret'->YE,stepG_seq->rp,stepG_skip->ye
open Go.Conc.Goes renaming cases->ZL,stop->sg
open Go.ConcN renaming WgLive->AI
open Go.ConcN.RW renaming live->YT,refl->Yv
open Go.ConcR renaming Payload->ZF,mk->vm
open Go.Frame renaming atR->ui,finish->xx
open Go.FrameMode renaming returning->Yi
open Go.GStep renaming after->zv
open Go.GStep.go renaming injEq->qav
open Go.Instr renaming beginRound->qar,endLoop->qal,endRound->Z4,enterLoop->ZR,getLoop->Yz,takeDeferred->Zt
open Go.Item renaming inRegion->ri
open Go.Obj renaming cells->pj,deferred->uu
open Go.Region renaming ready->xe,schedule->ZM,wanted->sy
open Go.Region.linearise renaming go->Zw
open Go.Sem renaming bind->yz,runT->tp,runT_eq->X2
open Go.Value renaming int->ox,pointer->pm,tuple->sh
open Go.World renaming alloc->o6,alloc_heap_new->YZ,cell?->Z,setCell->o3
open List renaming getElem?_set->qaV,range->IS,toArray->py
open Option renaming none->X,some->N
open Or renaming inl->rr,inr->rz
namespace Go.Proofs.YtpibpdpedjinhaaGreatDoor
namespace Cr
open Go Go.Conc Go.ConcN Go.RowKit Go.Conc.Lib Go.ConcR.Gen Go.ConcN.Gen
open Go.ConcR (KK wgBlock WgAt stA smA rd wr Payload DC0)
section
variable {g':r9}
section
variable [ZF]{P:th}{S:Who}{K:gL}{St:gL->r9->pn->Prop}{g:r9}{w:pn}
def jS(P:th)(S:Who)(St:gL->r9->pn->Prop)(K:gL)(g:r9)(w:pn):=∃T,gy P pw S X St T K g w
def jS.go{n}(h:X7 P pw (En S X K) DC0 (λg w=>jS P S St K g w) n g w):jS P S St K g w:=by let⟨T,a⟩:=gy.GS (λ_ _ x=>x) h;exact a.bind λb g w ⟨e,hw⟩=>by rw[e];exact hw
def jS.stop(h:∀w₁,En S X K w w₁->St K g w₁):jS P S St K g w:=gy.stop h
def jS.said(c:g.3=.running){k}(d:k=.read (smA S.1)\/k=.write (smA S.1))(b:∀w₁,En S X K w w₁->vi P pw g w₁=.go g' w₁ #[vm k])(h:∀w₁,En S X K w w₁->jS P S St K g' w₁):jS P S St K g w:=by
 refine gy.one c λw₁ h₁=>⟨g',w₁,_,b w₁ h₁,⟨R,R,R,fI,λ_ _ _ _=>R,id,λ_ _=>R,λe a=>?_⟩,by rw[gX];exact h w₁ h₁⟩
 simp only[List.mem_toArray,bM,List.not_mem_nil,or_false]at a;subst a;exact rz (rz ⟨R,by grind⟩)
end
section
variable [ZF]{L:WgLink}{Wg C n lo:Nat}{Q:Left}{i:Nat}{Next:gL->r9->pn->Prop}{K:gL}{F:pn->Prop}
 {b₀:tg} {a₀:Act} {ops₀:Array OF} {i₀:Nat} {rest₀:List Nat} {k₀:List qbe} {cs:List tg}
def fH{S K}{F:pn->Prop}(b:∀w a,En S X K w a->F w->F a){w w₁}(h:F w/\AI S.4 S.1 w)(r:En S X K w w₁):F w₁/\AI S.4 S.1 w₁:=⟨b _ _ r h.1,r.6 h.2⟩
def addPos{P}(H:WgLib P L)(a:∀w c,En (Who.mk Wg C n L.30 lo) X K w c->F w->F c)(h:∀w c,Aside Wg w c->F w->F c)(j:∀w,F w/\AI L.30 Wg w->jS P ⟨Wg,C,n,L.30,lo⟩ (KY P ⟨Wg,C,n,L.30,lo⟩ Q i Next) K (G (b₀.at (td a₀ ((ops₀[i₀]?).bind (·.1)) (sh #[])) (ri ops₀ rest₀::k₀)) cs) w)(w:pn)(hF:F w/\AI L.30 Wg w):jS P ⟨Wg,C,n,L.30,lo⟩ (D8 P ⟨Wg,C,n,L.30,lo⟩ Q i Next) K (G ((base L.1).at ⟨#[pm (N ⟨Wg,0,X⟩),ox .i64 1,p8,p8,p8,p8,p8,p8,p8,p8,p8,p8,p8,p8,p8,p8,p8,p8,p8,p8,p8,p8,p8,p8,p8,p8,p8,p8,p8,p8,p8,p8,p8,p8,p8,p8,p8,p8,p8,p8,p8,p8,p8,p8,p8,p8,p8,p8,p8,p8,p8,p8,p8,p8,p8,p8,p8,p8,p8,p8,p8,p8,p8,p8,p8,p8,p8,p8,p8,p8,p8,p8,p8,p8,p8,p8,p8,p8,p8,p8,p8,p8,p8,p8,p8,p8,p8,p8,p8,p8,p8,p8,p8,p8,p8,p8,p8,p8,p8,p8,p8,p8,p8,p8,p8,p8,p8,p8,p8,p8,p8,p8,p8,p8,p8,p8,p8],[]⟩ [.code (body_add L)]) (b₀.at a₀ (ri ops₀ (i₀::rest₀)::k₀)::cs)) w:=by
 lib_facts
 simp only[body_add,addFn,cW];refine jS.go (n:=200) ?_;u_c rp (fH a) hF;u_cond pw (fH a) hF
 iterate 2 u_c rp (fH a) hF
 u_reg (fH a) hF
 iterate 2 u_op (fH a) hF
 u_c pu (fH a) hF;u_cond pi (fH a) hF;u_c ye (fH a) hF;u_c rp (fH a) hF;u_reg (fH a) hF;refine sg (λw₁ h₁=>jS.stop λb e=>?_);replace hF:=fH a (fH a hF h₁) e;clear h₁ e;refine⟨R,_,stepG_mark0 _ aC R R (by k_ne) R H.5 (x_disable_n L) (x_disable_b L) (x_disable_x L) (x_disable_f L),?_⟩;walk_nrm;refine jS.go (n:=200) ?_;u_c pu (fH a) hF;u_reg (fH a) hF;u_defer (fH a) hF;u_c pu (fH a) hF;u_c rp (fH a) hF;u_reg (fH a) hF;u_op (fH a) hF;u_c pu (fH a) hF
 iterate 2 u_c rp (fH a) hF
 u_reg (fH a) hF;u_bub (fH a) hF;u_c pu (fH a) hF;u_cond pi (fH a) hF;u_c ye (fH a) hF;u_c rp (fH a) hF;u_reg (fH a) hF
 iterate 6 u_op (fH a) hF
 u_call H.11 (nm_uAdd L) uAddFn (fH a) hF;u_c rp (fH a) hF;u_reg (fH a) hF;u_op (fH a) hF;u_c pu (fH a) hF;u_c rp (fH a) hF;u_reg (fH a) hF
 iterate 4 u_op (fH a) hF
 refine sg (λw₁ h₁=>jS.stop λb e=>?_);replace hF:=fH a (fH a hF h₁) e;clear h₁ e;refine⟨R,λv x hw=>?_⟩;obtain rfl|y:=dL v
 .replace hw:WgAt L.30 Wg b 0 0:=by simpa using hw
  have z:(((0:Nat):Int)+1)*KK=4294967296:=by simp[KK]
  have l:IntKind.u64.wrap (0+4294967296)=4294967296:=aB
  rw[z];refine⟨_,oy (stepG_add_atomic R R (by k_ne) R H.23 (x_addU64_n L) (x_addU64_b L) (x_addU64_x L) _ (x_addU64_f L) R R hw.cellSt (hw.thaw 0)) (by rw[l];rfl),?_⟩;replace hF:F (o3 b (stA Wg) (ox .u64 4294967296))/\AI L.30 Wg (o3 b (stA Wg) (ox .u64 4294967296)):=⟨h _ _ (IN b (stA Wg) _) hF.1,⟨_,_,hw.setSt _⟩⟩
  clear hw;walk_nrm;refine jS.go (n:=400) ?_;u_op (fH a) hF;u_c pu (fH a) hF;u_c YE (fH a) hF;u_leave1 H.11 (fH a) hF;u_op (fH a) hF;u_c pu (fH a) hF
  iterate 2 u_c rp (fH a) hF
  u_reg (fH a) hF
  iterate 4 u_op (fH a) hF
  iterate 2 u_skip (fH a) hF
  u_op (fH a) hF;u_c pu (fH a) hF;u_cond pi (fH a) hF;u_c ye (fH a) hF;u_c rp (fH a) hF;u_reg (fH a) hF
  iterate 4 u_op (fH a) hF
  u_c pu (fH a) hF;u_c rp (fH a) hF;u_reg (fH a) hF
  iterate 4 u_op (fH a) hF
  u_c pu (fH a) hF
  iterate 2 u_c rp (fH a) hF
  u_reg (fH a) hF
  iterate 10 u_op (fH a) hF
  u_c pu (fH a) hF;u_cond pw (fH a) hF;u_reg (fH a) hF
  iterate 3 u_op (fH a) hF
  u_conv H.67 H.113 (Y7 (WgLive.cell1 hF.2)) (fH a) hF;refine sg (λo d=>?_);replace hF:=fH a hF d;clear d;refine jS.said R (rr R) (λf c=>stepG_markAt _ aC R R (by k_ne) R H.12 (x_raceRead_n L) (x_raceRead_b L) (x_raceRead_x L) (x_raceRead_f L) (ad:=⟨_,1,X⟩) (by simp[p7]<;>rfl)) (λf c=>?_);replace hF:=fH a hF c;clear c;walk_nrm;refine jS.go (n:=200) ?_;u_c pu (fH a) hF
  iterate 2 u_c rp (fH a) hF
  u_reg (fH a) hF
  iterate 2 u_op (fH a) hF
  u_c pu (fH a) hF;u_cond pi (fH a) hF;u_c ye (fH a) hF
  iterate 2 u_c rp (fH a) hF
  u_reg (fH a) hF
  iterate 3 u_op (fH a) hF
  iterate 2 u_skip (fH a) hF
  iterate 2 u_op (fH a) hF
  iterate 4 u_skip (fH a) hF
  u_op (fH a) hF;u_c pu (fH a) hF;u_cond pi (fH a) hF;u_c ye (fH a) hF
  iterate 2 u_c rp (fH a) hF
  u_reg (fH a) hF
  iterate 3 u_op (fH a) hF
  iterate 2 u_skip (fH a) hF
  u_op (fH a) hF;u_c pu (fH a) hF;u_cond pw (fH a) hF;u_c YE (fH a) hF;refine sg (λo d=>jS.stop λf c=>?_);replace hF:=fH a (fH a hF d) c;clear d c;refine⟨R,_,stepG_unwind_entry (v:=sh #[]) (evs:=#[vm _]) R H.6 (x_enable_n L) (x_enable_b L) (x_enable_x L) (x_enable_f L) (by simp[Extern.Race.none_]) j9 j9,?_⟩;refine jS.go (n:=2) ?_;u_leave0 H.1 (fH a) hF;exact sg λp m=>j _ (fH a hF m)
 .obtain⟨V,d⟩:∃V:Int,V=(v:Int)+1:=⟨_,R⟩
  obtain⟨S,c⟩:∃S:Int,S=V*KK:=⟨_,R⟩
  have f:IntKind.u64.wrap ((v:Int)*KK+4294967296)=S:=by rw[IntKind.wrap_u64,c,d];simp only[KK];omega
  rw[<-d,<-c];have p:S/4294967296=V:=by rw[c];simp only[KK];omega
  have q:bits .and .u64 S 2147483648=0:=by rw[c,d];have:=st_flag (v+1) 0 aA aA;simpa[KK]using this
  have r:bits .and .u64 S 2147483647=0:=by rw[c,d];have:=st_waiters (v+1) 0 aA aA;simpa[KK]using this
  have s:IntKind.i32.wrap V=V:=by rw[IntKind.wrap_i32];omega
  have t:1<V:=aA
  have u:V<2147483648:=aA
  have z:(V == 1)=pi:=aD
  have A:decide (V=1)=pi:=Zd aA;have B:decide (V<0)=pi:=Zd aA;have D:decide (0<V)=pw:=Ze aA;have E:(V == 0)=pi:=aD
  have G:decide (V=0)=pi:=Zd aA;refine⟨_,oy (stepG_add_atomic R R (by k_ne) R H.23 (x_addU64_n L) (x_addU64_b L) (x_addU64_x L) _ (x_addU64_f L) R R hw.cellSt (hw.thaw 0)) (by rw[f];rfl),?_⟩;replace hF:F (o3 b (stA Wg) (ox .u64 S))/\AI L.30 Wg (o3 b (stA Wg) (ox .u64 S)):=⟨h _ _ (IN b (stA Wg) _) hF.1,⟨_,_,hw.setSt _⟩⟩
  clear hw c d f;walk_nrm;refine jS.go (n:=400) ?_;u_op (fH a) hF;u_c pu (fH a) hF;u_c YE (fH a) hF;u_leave1 H.11 (fH a) hF;u_op (fH a) hF;u_c pu (fH a) hF
  iterate 2 u_c rp (fH a) hF
  u_reg (fH a) hF
  iterate 4 u_op (fH a) hF
  iterate 2 u_skip (fH a) hF
  u_op (fH a) hF;u_c pu (fH a) hF;u_cnd pi (fH a) hF;u_c ye (fH a) hF;u_c rp (fH a) hF;u_reg (fH a) hF
  iterate 4 u_op (fH a) hF
  u_c pu (fH a) hF;u_c rp (fH a) hF;u_reg (fH a) hF
  iterate 4 u_op (fH a) hF
  u_c pu (fH a) hF
  iterate 2 u_c rp (fH a) hF
  u_reg (fH a) hF
  iterate 10 u_op (fH a) hF
  u_c pu (fH a) hF;u_cnd pi (fH a) hF;u_c ye (fH a) hF
  iterate 2 u_c rp (fH a) hF
  u_reg (fH a) hF
  iterate 2 u_op (fH a) hF
  u_c pu (fH a) hF;u_cnd pi (fH a) hF;u_c ye (fH a) hF
  iterate 2 u_c rp (fH a) hF
  u_reg (fH a) hF
  iterate 3 u_op (fH a) hF
  iterate 2 u_skip (fH a) hF
  iterate 2 u_op (fH a) hF
  iterate 4 u_skip (fH a) hF
  u_op (fH a) hF;u_c pu (fH a) hF;u_cnd pi (fH a) hF;u_c ye (fH a) hF
  iterate 2 u_c rp (fH a) hF
  u_reg (fH a) hF
  iterate 3 u_op (fH a) hF
  iterate 2 u_skip (fH a) hF
  u_op (fH a) hF;u_c pu (fH a) hF;u_cnd pw (fH a) hF;u_c YE (fH a) hF;refine sg (λI l=>jS.stop λJ m=>?_);replace hF:=fH a (fH a hF l) m;clear l m;refine⟨R,_,stepG_unwind_entry (v:=sh #[]) (evs:=#[vm _]) R H.6 (x_enable_n L) (x_enable_b L) (x_enable_x L) (x_enable_f L) (by simp[Extern.Race.none_]) j9 j9,?_⟩;refine jS.go (n:=2) ?_;u_leave0 H.1 (fH a) hF;exact sg λO o=>j _ (fH a hF o)
end
end
section
variable {P:th}
section
variable [ZF]{L:WgLink}{Wg C n lo:Nat}{Fin:gL->r9->pn->Prop}{Fk:gL->pn->Prop}
 {b₀:tg} {a₀:Act} {ops₀:Array OF} {i₀:Nat} {rest₀:List Nat} {k₀:List qbe} {cs:List tg}
omit [Payload] in
def CU(L:WgLink)(Fk:gL->pn->Prop)(Wg:Nat)(c:tg)(cs:List tg)(K:gL)(g:r9)(w:pn):=
 ∃T:Array po,g=G ((base L.3).at ⟨T,[]⟩ [.code (L7 L),.inLoop (L7 L),.inBlock 0]) (c::cs)/\qd T=84/\T[0]? =N (pm (N ⟨Wg,0,X⟩))/\Fk K w/\AI L.30 Wg w
def waitRound(H:WgLib P L)(a:∀K w c,En ⟨Wg,C,n,L.30,lo⟩ X K w c->Fk K w->Fk K c)(l:∀K w c,Aside Wg w c->Fk K w->Fk K c)(m:∀K w,Fk K w/\AI L.30 Wg w->jS P ⟨Wg,C,n,L.30,lo⟩ Fin K (G (b₀.at (td a₀ ((ops₀[i₀]?).bind (·.1)) (sh #[])) (ri ops₀ rest₀::k₀)) cs) w)(K:gL)(g:r9)(w:pn)(h:CU L Fk Wg (b₀.at a₀ (ri ops₀ (i₀::rest₀)::k₀)) cs K g w):jS P ⟨Wg,C,n,L.30,lo⟩ (oX P ⟨Wg,C,n,L.30,lo⟩ Fin (CU L Fk Wg (b₀.at a₀ (ri ops₀ (i₀::rest₀)::k₀)) cs)) K g w:=by
 lib_facts
 obtain⟨T,rfl,r,p,hF⟩:=h;obtain⟨V,W,v2,v3,v4,v5,v6,v7,v8,v9,Y,aa,ab,ac,ad,ae,af,ag,ah,ai,aj,ak,am,an,ao,ap,aq,ar,au,av,aw,ax,ay,az,a0,a2,a3,a4,a5,a6,a7,a8,a9,ba,bb,bc,bd,bf,bg,bh,bj,bk,bl,bm,bo,bp,bq,br,bs,bu,bv,bw,bx,bz,b0,b3,b4,b5,b6,b7,b8,b9,ca,cb,cc,cd,ce,cf,cg,ch,ci,cj,ck,cl,rfl⟩:=array84 T r;simp only[cN,cG,aI]at p;subst p;simp only[L7,body_wait,waitFn,cW];refine jS.go (n:=100) ?_;u_c qaq (fH (a K)) hF;u_c rp (fH (a K)) hF;u_reg (fH (a K)) hF
 iterate 3 u_op (fH (a K)) hF
 u_call H.13 (nm_uLoad L) uLoadFn (fH (a K)) hF;u_c rp (fH (a K)) hF;u_reg (fH (a K)) hF;u_op (fH (a K)) hF;u_c pu (fH (a K)) hF;u_c rp (fH (a K)) hF;u_reg (fH (a K)) hF
 iterate 3 u_op (fH (a K)) hF
 refine sg (λcm h₁=>jS.stop λw₁ b=>?_);replace hF:=fH (a K) (fH (a K) hF h₁) b;clear h₁ b;refine⟨R,λv E hw=>?_⟩;obtain rfl|I:=dL v
 .replace hw:WgAt L.30 Wg w₁ 0 0:=by simpa using hw
  refine⟨_,stepG_load_atomic (v:=0) R R (by k_ne) R H.24 (x_loadU64_n L) (x_loadU64_b L) (x_loadU64_x L) _ (x_loadU64_f L) R hw.cellSt,λ_=>?_,λh=>Zl R h⟩;clear hw;walk_nrm;refine jS.go (n:=100) ?_;u_op (fH (a K)) hF;u_c pu (fH (a K)) hF;u_c YE (fH (a K)) hF;u_leave1 H.13 (fH (a K)) hF;u_op (fH (a K)) hF;u_c pu (fH (a K)) hF;u_c rp (fH (a K)) hF;u_reg (fH (a K)) hF
  iterate 4 u_op (fH (a K)) hF
  u_c pu (fH (a K)) hF;u_c rp (fH (a K)) hF;u_reg (fH (a K)) hF
  iterate 4 u_op (fH (a K)) hF
  u_c pu (fH (a K)) hF
  iterate 2 u_c rp (fH (a K)) hF
  u_reg (fH (a K)) hF
  iterate 2 u_op (fH (a K)) hF
  u_c pu (fH (a K)) hF;u_cond pw (fH (a K)) hF;u_c rp (fH (a K)) hF;u_cond pw (fH (a K)) hF;u_c rp (fH (a K)) hF;u_reg (fH (a K)) hF;refine sg (λd h₁=>jS.stop λe b=>?_);replace hF:=fH (a K) (fH (a K) hF h₁) b;clear h₁ b;refine⟨R,_,stepG_mark0 _ aC R R (by k_ne) R H.6 (x_enable_n L) (x_enable_b L) (x_enable_x L) (x_enable_f L),?_⟩;walk_nrm;refine jS.go (n:=40) ?_;u_c pu (fH (a K)) hF;u_reg (fH (a K)) hF;u_op (fH (a K)) hF;u_conv H.27 H.112 (Y7 (WgLive.cell0 hF.2)) (fH (a K)) hF;refine sg (λf h₁=>jS.stop λi b=>?_);replace hF:=fH (a K) (fH (a K) hF h₁) b;clear h₁ b;refine⟨R,_,stepG_markAt _ aC R R (by k_ne) R H.17 (x_acquire_n L) (x_acquire_b L) (x_acquire_x L) (x_acquire_f L) (by simp[p7,stA]),?_⟩;walk_nrm;refine jS.go (n:=60) ?_;u_c pu (fH (a K)) hF
  iterate 2 u_c rp (fH (a K)) hF
  u_reg (fH (a K)) hF
  iterate 8 u_op (fH (a K)) hF
  iterate 2 u_skip (fH (a K)) hF
  u_op (fH (a K)) hF;u_c pu (fH (a K)) hF;u_cond pi (fH (a K)) hF;u_c ye (fH (a K)) hF;u_c YE (fH (a K)) hF;u_leave0 H.3 (fH (a K)) hF;exact sg λj c=>m _ _ (fH (a K) hF c)
 .obtain⟨S,c⟩:∃S:Int,(v:Int)*KK=S:=⟨_,R⟩
  have z:S/4294967296=(v:Int):=by rw[<-c];simp only[KK];omega
  have A:bits .and .u64 S 2147483648=0:=by rw[<-c];have:=st_flag v 0 aA aA;simpa[KK]using this
  have B:bits .and .u64 S 2147483647=0:=by rw[<-c];have:=st_waiters v 0 aA aA;simpa[KK]using this
  have D:IntKind.i32.wrap (v:Int)=v:=by rw[IntKind.wrap_i32];omega
  have w1:IntKind.u64.wrap (S+1)=S+1:=by rw[IntKind.wrap_u64,<-c];simp only[KK];omega
  have G:decide ((v:Int)<0)=pi:=Zd aA;have J:decide (0<(v:Int))=pw:=Ze aA;have O:((v:Int) == 0)=pi:=aD
  have Q:decide ((v:Int)=0)=pi:=Zd aA;simp only[c]at hw;refine⟨_,stepG_load_atomic (v:=S) R R (by k_ne) R H.24 (x_loadU64_n L) (x_loadU64_b L) (x_loadU64_x L) _ (x_loadU64_f L) R hw.cellSt,λq=>Zl q aA,λ_=>?_⟩;clear hw;walk_nrm;refine jS.go (n:=100) ?_;u_op (fH (a K)) hF;u_c pu (fH (a K)) hF;u_c YE (fH (a K)) hF;u_leave1 H.13 (fH (a K)) hF;u_op (fH (a K)) hF;u_c pu (fH (a K)) hF;u_c rp (fH (a K)) hF;u_reg (fH (a K)) hF
  iterate 4 u_op (fH (a K)) hF
  u_c pu (fH (a K)) hF;u_c rp (fH (a K)) hF;u_reg (fH (a K)) hF
  iterate 4 u_op (fH (a K)) hF
  u_c pu (fH (a K)) hF
  iterate 2 u_c rp (fH (a K)) hF
  u_reg (fH (a K)) hF
  iterate 2 u_op (fH (a K)) hF
  u_c pu (fH (a K)) hF;u_cnd pi (fH (a K)) hF;u_c ye (fH (a K)) hF;u_c rp (fH (a K)) hF;u_reg (fH (a K)) hF
  iterate 6 u_op (fH (a K)) hF
  u_call H.19 (nm_uCas L) uCasFn (fH (a K)) hF;u_c rp (fH (a K)) hF;u_reg (fH (a K)) hF;u_op (fH (a K)) hF;u_c pu (fH (a K)) hF;u_c rp (fH (a K)) hF;u_reg (fH (a K)) hF
  iterate 5 u_op (fH (a K)) hF
  refine sg (λcn h₁=>jS.stop λj b=>?_);replace hF:=fH (a K) (fH (a K) hF h₁) b;clear h₁ b;refine⟨R,λt F hw=>⟨λe=>?_,λe=>?_⟩⟩
  .subst e;simp only[c]at hw⊢;refine⟨_,oy (stepG_cas_hit (v:=S) (n:=S+1) R R (by k_ne) R H.26 (x_casU64_n L) (x_casU64_b L) (x_casU64_x L) _ (x_casU64_f L) R R R hw.cellSt (hw.thaw 0)) (by rfl),?_⟩;replace hF:Fk K (o3 j (stA Wg) (ox .u64 (S+1)))/\AI L.30 Wg (o3 j (stA Wg) (ox .u64 (S+1))):=⟨l _ _ _ (IN j (stA Wg) _) hF.1,⟨_,_,hw.setSt _⟩⟩
   clear hw;walk_nrm;refine jS.go (n:=100) ?_;u_op (fH (a K)) hF;u_c pu (fH (a K)) hF;u_c YE (fH (a K)) hF;u_leave1 H.19 (fH (a K)) hF;u_c pu (fH (a K)) hF;u_cond pw (fH (a K)) hF
   iterate 2 u_c rp (fH (a K)) hF
   u_reg (fH (a K)) hF
   iterate 4 u_op (fH (a K)) hF
   u_c pu (fH (a K)) hF;u_cond pw (fH (a K)) hF;u_reg (fH (a K)) hF
   iterate 3 u_op (fH (a K)) hF
   u_conv H.67 H.113 (Y7 (WgLive.cell1 hF.2)) (fH (a K)) hF;refine sg (λu o=>?_);replace hF:=fH (a K) hF o;clear o;refine jS.said R (rz R) (λd i=>stepG_markAt _ aC R R (by k_ne) R H.20 (x_raceWrite_n L) (x_raceWrite_b L) (x_raceWrite_x L) (x_raceWrite_f L) (ad:=⟨_,1,X⟩) (by simp[p7]<;>rfl)) (λd i=>?_);replace hF:=fH (a K) hF i;clear i;walk_nrm;refine jS.go (n:=100) ?_;u_c pu (fH (a K)) hF;u_c rp (fH (a K)) hF;u_reg (fH (a K)) hF;u_op (fH (a K)) hF;u_c pu (fH (a K)) hF
   iterate 2 u_c rp (fH (a K)) hF
   u_reg (fH (a K)) hF
   iterate 4 u_op (fH (a K)) hF
   u_skip (fH (a K)) hF;u_op (fH (a K)) hF;u_c pu (fH (a K)) hF;u_cond pi (fH (a K)) hF;u_c ye (fH (a K)) hF;u_c rp (fH (a K)) hF;u_reg (fH (a K)) hF
   iterate 4 u_op (fH (a K)) hF
   refine sg (λu h₁=>jS.stop λd b=>?_);replace hF:=fH (a K) (fH (a K) hF h₁) b;clear h₁ b;refine⟨R,R,λ⟨st,hw⟩=>stepG_semacquire_wait R R R H.21 (x_semacquire_n L) (x_semacquire_b L) (x_semacquire_x L) (x_semacquire_f L) (by simp[p7,smA]) hw.cellSm,λf=>?_⟩;refine⟨_,oy (stepG_semacquire (n:=1) R R (by k_ne) R H.21 (x_semacquire_n L) (x_semacquire_b L) (x_semacquire_x L) (x_semacquire_f L) (by simp[p7,smA]) f.cellSm (by k_ne) (f.thaw 1)) (by rfl),?_⟩;replace hF:Fk K (o3 d (smA Wg) (ox .u32 0))/\AI L.30 Wg (o3 d (smA Wg) (ox .u32 0)):=⟨l _ _ _ (IN d (smA Wg) _) hF.1,⟨_,_,f.setSm 0⟩⟩
   clear f;walk_nrm;refine jS.go (n:=100) ?_;u_c pu (fH (a K)) hF;u_c rp (fH (a K)) hF;u_reg (fH (a K)) hF
   iterate 3 u_op (fH (a K)) hF
   u_call H.13 (nm_uLoad L) uLoadFn (fH (a K)) hF;u_c rp (fH (a K)) hF;u_reg (fH (a K)) hF;u_op (fH (a K)) hF;u_c pu (fH (a K)) hF;u_c rp (fH (a K)) hF;u_reg (fH (a K)) hF
   iterate 3 u_op (fH (a K)) hF
   refine sg (λx h₁=>jS.stop λy b=>?_);replace hF:=fH (a K) (fH (a K) hF h₁) b;clear h₁ b;refine⟨R,λhw=>⟨_,stepG_load_atomic (v:=0) R R (by k_ne) R H.24 (x_loadU64_n L) (x_loadU64_b L) (x_loadU64_x L) _ (x_loadU64_f L) R hw.cellSt,?_⟩⟩;clear hw;walk_nrm;refine jS.go (n:=100) ?_;u_op (fH (a K)) hF;u_c pu (fH (a K)) hF;u_c YE (fH (a K)) hF;u_leave1 H.13 (fH (a K)) hF
   iterate 2 u_op (fH (a K)) hF
   u_c pu (fH (a K)) hF;u_c rp (fH (a K)) hF;u_cond pw (fH (a K)) hF;u_c rp (fH (a K)) hF;u_reg (fH (a K)) hF;refine sg (λx h₁=>jS.stop λy b=>?_);replace hF:=fH (a K) (fH (a K) hF h₁) b;clear h₁ b;refine⟨R,_,stepG_mark0 _ aC R R (by k_ne) R H.6 (x_enable_n L) (x_enable_b L) (x_enable_x L) (x_enable_f L),?_⟩;walk_nrm;refine jS.go (n:=40) ?_;u_c pu (fH (a K)) hF;u_reg (fH (a K)) hF;u_op (fH (a K)) hF;u_conv H.27 H.112 (Y7 (WgLive.cell0 hF.2)) (fH (a K)) hF;refine sg (λco h₁=>jS.stop λcp b=>?_);replace hF:=fH (a K) (fH (a K) hF h₁) b;clear h₁ b;refine⟨R,_,stepG_markAt _ aC R R (by k_ne) R H.17 (x_acquire_n L) (x_acquire_b L) (x_acquire_x L) (x_acquire_f L) (by simp[p7,stA]),?_⟩;walk_nrm;refine jS.go (n:=60) ?_;u_c pu (fH (a K)) hF
   iterate 2 u_c rp (fH (a K)) hF
   u_reg (fH (a K)) hF;u_op (fH (a K)) hF;u_c pu (fH (a K)) hF;u_cond pi (fH (a K)) hF;u_c ye (fH (a K)) hF;u_c YE (fH (a K)) hF;u_leave0 H.3 (fH (a K)) hF;exact sg λcr s=>m _ _ (fH (a K) hF s)
  .refine⟨_,stepG_cas_miss (v:=t*KK) (old:=S) (n:=S+1) R R (by k_ne) R H.26 (x_casU64_n L) (x_casU64_b L) (x_casU64_x L) _ (x_casU64_f L) R R R hw.cellSt (hw.thaw 0) (by rw[<-c];simp only[KK];omega),?_⟩;clear hw;walk_nrm;refine jS.go (n:=100) ?_;u_op (fH (a K)) hF;u_c pu (fH (a K)) hF;u_c YE (fH (a K)) hF;u_leave1 H.19 (fH (a K)) hF;u_c pu (fH (a K)) hF;u_cond pi (fH (a K)) hF;u_c ye (fH (a K)) hF;u_c stepG_inBlock (fH (a K)) hF;u_c stepG_inLoop (fH (a K)) hF;refine sg (λi d=>jS.stop λo f=>?_);exact⟨_,R,aC,aC,fH (a K) (fH (a K) hF d) f⟩
def waitStart(H:WgLib P L)(a:∀K w c,En ⟨Wg,C,n,L.30,lo⟩ X K w c->Fk K w->Fk K c)(K w)(hF:Fk K w/\AI L.30 Wg w):jS P ⟨Wg,C,n,L.30,lo⟩ (uH P ⟨Wg,C,n,L.30,lo⟩ (CU L Fk Wg (b₀.at a₀ (ri ops₀ (i₀::rest₀)::k₀)) cs)) K (G ((base L.3).at ⟨#[pm (N ⟨Wg,0,X⟩),p8,p8,p8,p8,p8,p8,p8,p8,p8,p8,p8,p8,p8,p8,p8,p8,p8,p8,p8,p8,p8,p8,p8,p8,p8,p8,p8,p8,p8,p8,p8,p8,p8,p8,p8,p8,p8,p8,p8,p8,p8,p8,p8,p8,p8,p8,p8,p8,p8,p8,p8,p8,p8,p8,p8,p8,p8,p8,p8,p8,p8,p8,p8,p8,p8,p8,p8,p8,p8,p8,p8,p8,p8,p8,p8,p8,p8,p8,p8,p8,p8,p8,p8],[]⟩ [.code (body_wait L)]) (b₀.at a₀ (ri ops₀ (i₀::rest₀)::k₀)::cs)) w:=by
 lib_facts
 simp only[body_wait,waitFn,cW];refine jS.go (n:=10) ?_;u_c rp (fH (a K)) hF;u_cond pw (fH (a K)) hF;u_reg (fH (a K)) hF;refine sg (λw₁ h₁=>jS.stop λe b=>?_);replace hF:=fH (a K) (fH (a K) hF h₁) b;clear h₁ b;refine⟨R,_,stepG_mark0 _ aC R R (by k_ne) R H.5 (x_disable_n L) (x_disable_b L) (x_disable_x L) (x_disable_f L),?_⟩;walk_nrm;refine jS.go (n:=10) ?_;u_c pu (fH (a K)) hF;u_c qaq (fH (a K)) hF;u_c stepG_loop (fH (a K)) hF;exact sg (λf c=>jS.stop λg d=>⟨_,R,aC,aC,fH (a K) (fH (a K) hF c) d⟩)
end
end
open Go Go.Conc Go.ConcN
section
variable {es:Array Zx}{v:po}
section
variable [ZF]{P:th}{main:Bool}{S:Who}{me:Option Nat}{K:gL}{St St':gL->r9->pn->Prop}{g:r9}{w w':pn}
def iw(P:th)(main:Bool)(S:Who)(me:Option Nat)(St:gL->r9->pn->Prop)(K:gL)(g:r9)(w:pn):=∃T,gy P main S me St T K g w
def iw.go{n}(h:X7 P main (En S me K) DC0 (λg w=>iw P main S me St K g w) n g w):iw P main S me St K g w:=by let⟨T,c⟩:=gy.GS (λ_ _ x=>x) h;exact c.bind λd g w ⟨e,hw⟩=>by rw[e];exact hw
def iw.stop(h:∀w₁,En S me K w w₁->St K g w₁):iw P main S me St K g w:=gy.stop h
def iw.step(d:g.3=.running)(h:∀w₁,En S me K w w₁->∃c w' es,vi P main g w₁=.go c w' es/\Gu S me K w₁ w' es/\iw P main S me St (K.grow ↑w₁ ↑w') c w'):iw P main S me St K g w:=gy.one d h
def jS.m(h:iw P pw S X St K g w):jS P S St K g w:=h
section
variable {b:tg}{a:Act}{k:List qbe}{cs:List tg}{ops:Array OF}{i:Nat}{rest:List Nat}{o:OF}
def iw.op(d:ops[i]? =N o)(hw:sy o (yielded ops a.1)=pw)(c:b.6≠.early)(h:∀w₁,En S me K w w₁->∃v w',(rj a.eval o).run P w₁=.ok (.value v) w'/\Gu S me K w₁ w' (listed P b.1 a o w₁)/\iw P main S me St (K.grow ↑w₁ ↑w') (G (b.at (td a o.1 v) (ri ops rest::k)) cs) w'):iw P main S me St K (G (b.at a (ri ops (i::rest)::k)) cs) w:=
 .step R λw₁ h₁=>let ⟨_,w',hr,hg,hW⟩:=h w₁ h₁;⟨_,w',_,stepG_value d hw c hr,hg,hW⟩
def iw.opn(d:ops[i]? =N o)(hw:sy o (yielded ops a.1)=pw)(c:b.6≠.early)(h:∀w₁,En S me K w w₁->∃w',(rj a.eval o).run P w₁=.ok .skip w'/\Gu S me K w₁ w' (listed P b.1 a o w₁)/\iw P main S me St (K.grow ↑w₁ ↑w') (G (b.at (td a o.1 p8) (ri ops rest::k)) cs) w'):iw P main S me St K (G (b.at a (ri ops (i::rest)::k)) cs) w:=
 .step R λw₁ h₁=>let ⟨w',hr,hg,hW⟩:=h w₁ h₁;⟨_,w',_,stepG_none d hw c hr,hg,hW⟩
def iw.draw{d}(h:∀w₁,En S me K w w₁->∀t,iw P main S me St K (G (b.at a (ri ops (ZM (P.follows .mixedOrders) ops t)::k)) cs) { w₁ with drawn:=w₁.3+1 }):iw P main S me St K (G (b.at a (.code (.region d ops pw)::k)) cs) w:=
 .step R λw₁ h₁=>⟨_,_,_,stepG_region_draw,⟨R,R,R,fI,λ_ _ _ _=>R,id,λ_ _=>R,λe c=>by simp at c⟩,by
  rw[show K.grow ↑w₁ ({ w₁ with drawn:=w₁.3+1 }:pn).1.size=K from gX ..];exact h w₁ h₁ _⟩
end
def oA(h:∀e∈es,∃a,e=⟨.cell a,pi,pi⟩/\K.1 a.1/\a.1<w.1.size):Gu S me K w w es:=
 ⟨R,R,R,fI,λ_ _ _ _=>R,id,λ_ _=>R,λe f=>by
  obtain⟨a,rfl,c,d⟩:=h e f;exact rr (rr ⟨a,pi,R,rr lr,d⟩)⟩
def DG(d:S.2<w.1.size)(o):Gu S me K w (o6 w o) #[]:=by
 have c:∀b<w.1.size,(o6 w o).1[b]? =w.1[b]?:=λb c=>by
  show(w.1.push o)[b]? =w.1[b]?
  grind
 exact⟨R,R,R,aC,λb h _ _=>c b h,λ⟨cs,f,j⟩=>⟨cs,oy (c _ d) f,j⟩,λi _=>by simp only[Z,c _ d],λe l=>by simp at l⟩
omit [Payload] in
def gT{ad b}(h:b≠ad.1):(o3 w ad v).1[b]? =w.1[b]?:=(IN w ad v).5 b h
omit [Payload] in
def gM(w ad v):(o3 w ad v).2=w.2/\(o3 w ad v).4=w.4/\(o3 w ad v).5=w.5/\(o3 w ad v).1.size=w.1.size:=
 have h:=IN w ad v;⟨h.1,h.2,h.3,h.4⟩
def Lc{ad}(d:K.2 ad.1)(p:ad.1<w.1.size)(m:ad.1≠S.2)(h:∀e∈es,e=⟨.cell ad,pw,pi⟩):Gu S me K w (o3 w ad v) es:=by let⟨f,j,l,c⟩:=gM w ad v;have hc:=gT (w:=w) (ad:=ad) (v:=v) (b:=S.2) (Ne.symm m);refine⟨f,j,l,fA c.symm,λb _ q _=>gT λe=>q (e ▸ d),λ⟨cs,a,b⟩=>⟨cs,oy hc a,b⟩,λi _=>by simp only[Z,hc],λe n=>?_⟩;rw[h e n];exact rr (rr ⟨ad,pw,R,rr ky,by rw[c];exact p⟩)
def Ss{i}(hp:PayAt S.2 S.3 w)(h:∀e∈es,e=⟨.cell ⟨S.2,i,X⟩,pw,pi⟩):Gu S (N i) K w (o3 w ⟨S.2,i,X⟩ v) es:=by
 let⟨d,f,j,l⟩:=gM w ⟨S.2,i,X⟩ v;obtain⟨cs,c,p⟩:=hp
 have hw:(o3 w ⟨S.2,i,X⟩ v).1[S.2]? =N (pj (qb cs i v) Payload.ety):=by
  have q:=(fO c)
  simp[o3,bD,c]
 refine⟨d,f,j,fA l.symm,λb _ _ hc=>gT λe=>?_,λ_=>⟨_,hw,by simpa using p⟩,λr n=>?_,λe m=>?_⟩
 .grind
 .have q:i≠r:=λe=>n (by rw[e]);simp[Z,hw,c,cI q]
 .rw[h e m];exact rz (rr ⟨i,pw,R,R⟩)
end
def A0{σ:Type}{md ops}(I:Nat->Array Bool->σ->Prop)(Zo:List Nat->σ->Prop)(done:∀listed s,I 0 listed s->Zo [] s)(more:∀c listed s,I (c+1) listed s->xe md ops listed≠[]/\∀i∈xe md ops listed,∀rest,(∀d,I c (qb listed i pw) d->Zo rest d)->Zo (i::rest) s):∀(c t:Nat)(listed:Array Bool)(s:σ),I c listed s->Zo (Zw md ops c t listed []) s:=by
 intro c
 induction c with
 |zero=>intro t listed s h;exact done listed s h
 |succ c ih=>
  intro t listed s h;let⟨e,j⟩:=more c listed s h;simp only[Zw]
  show Zo (match (xe md ops listed)[t%(xe md ops listed).length]? with
   |some i=>Zw md ops c (t/(xe md ops listed).length) (qb listed i pw) [i]
   |none=>[]) s
  have f:=List.length_pos_iff.2 e;have d:=Nat.mod_lt t f;rw[aK d];simp only;rw[linearise_go_acc,List.reverse_singleton,List.singleton_append]
  grind
end
open Go Go.Conc
section
variable {v:po}
def kU(ops:Array OF)(i:Nat):Option Tmp:=(ops[i]?).bind (·.1)
def rank(md:Region.Mode)(ops:Array OF)(i:Nat):Nat:=(Region.linearise md ops 0).idxOf i
def fills(n:Nat)(ops:Array OF):Bool:=(IS (qd ops)).all λi=>(kU ops i).all (·<n)&&((ops[i]?).all λo=>o.5.1.all λe=>decide (e.1<qd ops)&&[Region.Mode.text,.gc,.any].all λb=>!Region.binds b e || decide (rank b ops e.1<rank b ops i))&&(IS (qd ops)).all λj=>i == j || (kU ops i).isNone || kU ops i != kU ops j
def waits(ops:Array OF)(i j:Nat):Bool:=(ops[i]?).any λo=>o.5.1.any λe=>Region.binds .any e&&e.1 == j
def jd{ops:Array OF}{i:Nat}{o}(p)(b:ops[i]? =N o)(h:(ops[i]?).map (λo=>(o.2,o.6))=N p):o.2=p.1/\o.6=p.2:=by grind
def He{l i}(h:tr l i pw=pi):tr l i pi=pi/\tr (qb l i pw) i pi=pw:=by
 rw[cS]at h;cases b:l[i]? with
 |none=>rw[b]at h;cases h
 |some x=>
  rw[b]at h;have c:=(fO b)
  exact⟨by rw[cS,b];exact h,by simp[c]⟩
structure Fill(ops:Array OF)(V:Nat->po)(a0:Act)(l:Array Bool)(a:Act):Prop where
 size:qd a.1=qd a0.1
 defers:a.2=a0.2
 got:∀i s,kU ops i=N s->tr l i pi=pw->a.1[s]? =N (V i)
 kept:∀s,(∀i,kU ops i≠N s)->a.1[s]? =a0.1[s]?
 clo:∀i j,waits ops i j=pw->tr l i pi=pw->tr l j pi=pw
section
variable {ops:Array OF}{V:Nat->po}{a0 a:Act}{l:Array Bool}{i s:Nat}{o:OF}
def Fill.ev(h:Fill ops V a0 l a)(b:kU ops i=N s)(c:tr l i pi=pw):a.eval (.tmp s)=V i:=by have:=h.3 i s b c;simp[p7,this]
def Fill.slot(h:Fill ops V a0 l a)(d:((IS (qd ops)).all λi=>kU ops i != N s)=pw):a.1[s]? =a0.1[s]?:=h.4 s λi b=>by
 have c:i<qd ops:=by
  unfold kU at b;cases h:ops[i]? with
  |none=>rw[h]at b;cases b
  |some o=>grind
 grind
def Fill.old(h:Fill ops V a0 l a)(c:((IS (qd ops)).all λi=>kU ops i != N s)=pw)(b:a0.1[s]? =N v):a.eval (.tmp s)=v:=by have:=oy (h.slot c) b;simp[p7,this]
def EZ{n}(m:fills n ops=pw)(f:ops[i]? =N o):(∀s,o.1=N s->s<n/\∀j,kU ops j=N s->j=i)/\∀e∈o.5,e.1<qd ops/\∀b,Region.binds b e=pw->rank b ops e.1<rank b ops i:=by
 have p:=(fO f)
 have h:=cU.1 m i (dN.2 p);simp only[bN]at h;obtain⟨⟨q,c⟩,r⟩:=h;have u:kU ops i=o.1:=by unfold kU;rw[f];rfl
 rw[f]at c;refine⟨λs w=>⟨by grind,λj d=>?_⟩,λe g=>?_⟩
 .have t:j<qd ops:=by
   unfold kU at d;cases h:ops[j]? with
   |none=>rw[h]at d;cases d
   |some o=>grind
  grind
 .simp only[Option.all_some]at c;have:=cU.1 c e (Array.mem_toList_iff.2 g);simp only[bN,Zh]at this;refine⟨this.1,λb t=>?_⟩;have:=cU.1 this.2 b (by cases b<;>simp)
  grind
def Fill.put{c}(z:fills (qd a0.1) ops=pw)(r:ops[i]? =N o)(m:∀j,tr l j pi=pw->c j=V j)(hw:∀j,waits ops i j=pw->tr l j pi=pw)(h:Fill ops V a0 l a):Fill ops c a0 (qb l i pw) (td a o.1 (c i)):=by
 have y:kU ops i=o.1:=by unfold kU;rw[r];rfl
 have B:=(EZ z r).1;have f:∀j≠i,tr (qb l i pw) j pi=tr l j pi:=λj b=>getD_set_ne pi (Ne.symm b)
 have A:∀j,tr l j pi=pw->tr (qb l i pw) j pi=pw:=λj b=>by
  by_cases e:j=i
  .subst e;rw[cS]at b;cases g:l[j]? with
   |none=>rw[g]at b;cases b
   |some x=>simp[(fO g)]
  grind
 have n:∀k j,waits ops k j=pw->tr (qb l i pw) k pi=pw->tr (qb l i pw) j pi=pw:=λk j p d=>A j (by
  by_cases e:k=i
  .subst e;exact hw j p
  .rw[f k e]at d;exact h.5 k j p d)
 cases u:o.1 with
 |none=>
  refine⟨h.1,h.2,λj s b g=>?_,h.4,n⟩;by_cases e:j=i
  .grind
  .rw[f j e]at g;rw[m j g];exact h.3 j s b g
 |some t=>
  let⟨x,D⟩:=B t u
  have C:(td a (N t) (c i)).1[t]? =N (c i):=by
   simp[td,h.1,x]
  have q:∀s≠t,(td a (N t) (c i)).1[s]? =a.1[s]?:=λs e=>by simp[td,cI (Ne.symm e)]
  refine⟨by simp[td,h.1],h.2,λj s b g=>?_,λs d=>?_,n⟩
  .by_cases e:j=i
   .grind
   .rw[f j e]at g;by_cases w:s=t
    .grind
    .rw[q s w,m j g];exact h.3 j s b g
  .rw[q s λe=>d i (by rw[y,u,e])];exact h.4 s d
def I6{md e}(h:Region.binds .any e=pw):Region.binds md e=pw:=by
 unfold Region.binds at *
 grind
def zh{σ:Type}(V:σ->Nat->po)(J:Array Bool->σ->Prop)(Zo:List Nat->Act->σ->Prop)(u:fills (qd a0.1) ops=pw)(done:∀l a s,(∀i<qd ops,tr l i pi=pw)->Fill ops (V s) a0 l a->J l s->Zo [] a s)(more:∀l a s i o rest,ops[i]? =N o->tr l i pw=pi->(∀j,waits ops i j=pw->tr l j pi=pw)->Fill ops (V s) a0 l a->J l s->(∀c,(∀j,tr l j pi=pw->V c j=V s j)->J (qb l i pw) c->Zo rest (td a o.1 (V c i)) c)->Zo (i::rest) a s)(m:Bool)(t:Nat)(s:σ)(h:J (wy (qd ops) pi) s):Zo (ZM m ops t) a0 s:=by
 have p:∀b t,Zo (Zw b ops (qd ops) t (wy (qd ops) pi) []) a0 s:=λb t=>by
  refine A0 (σ:=Act×σ) (md:=b) (ops:=ops) (λc l s=>qd l=qd ops/\l.count pi=c/\Fill ops (V s.2) a0 l s.1/\J l s.2) (λrest s=>Zo rest s.1 s.2) ?_ ?_ _ t _ (a0,s) ⟨aC,aC,⟨R,R,λi x _ f=>?_,λ_ _=>R,λi _ _ f=>?_⟩,h⟩
  .rintro l ⟨a,s⟩ ⟨g,hc,hF,e⟩;refine done l a s (λi c=>?_) hF e;cases d:tr l i pi with
   |true=>rfl
   |false=>
    have n:pi∈l:=by
     rw[<-g]at c;simp[c]at d;exact d ▸ Array.getElem_mem c
    grind
  .rintro E l ⟨a,s⟩ ⟨r,hc,hF,y⟩;refine⟨λc=>?_,λi d rest D=>?_⟩
   .have w:pi∈l:=Array.count_pos_iff.1 aA;let⟨i,d,g⟩:=Array.mem_iff_getElem.1 w
    have p:∀n i,rank b ops i<n->tr l i pw=pi->False:=by
     intro n
     induction n with
     |zero=>omega
     |succ n ih=>
      intro i d g
      have q:i<qd ops:=by
       rw[<-r];apply Nat.lt_of_not_le;intro h;simp[Nat.not_lt.2 h]at g
      have:i∈xe b ops l:=mem_ready.2 ⟨g,_,bL q,λe c z=>by
       have A:=(EZ u (bL q)).2 e c
       grind⟩
      grind
    exact p _ i (Nat.lt_succ_self _) (by simp[d,g])
   .let⟨w,o,g,B⟩:=mem_ready.1 d
    have hw:∀j,waits ops i j=pw->tr l j pi=pw:=λj q=>by
     unfold waits at q;rw[g]at q;let⟨e,c,n⟩:=List.any_eq_true.1 q;simp only[bN,Zk]at n;rw[<-n.2];exact B e (Array.mem_toList_iff.1 c) (I6 n.1)
    refine more l a s i o rest g w hw hF y λx A z=>D (_,x) ⟨by simp[r],?_,hF.put u g A hw,z⟩;have C:i<qd l:=by rw[r];exact(fO g)
    have F:l[i]=pi:=by simpa[C]using w
    grind
  all_goals
   rw[cS,Array.getElem?_replicate]at f;split at f<;>simp at f
 unfold ZM;split
 .exact p _ t
 .exact p _ _
end
end
open Go.ConcR (Payload DC0)
section
variable {ob o':ZG}{B:Nat}
section
variable [ZF]
structure At(S:Who)(K0:gL)(w0:pn)(L:List (Nat×ZG))(K:gL)(w:pn):Prop where
 sub:∀x,K.2 x->K.1 x
 low:∀x,K.1 x->x<w.1.size
 pay0:S.2<w0.1.size
 grp0:S.1<w0.1.size
 size:↑w0<=w.1.size
 old:∀x,K0.1 x->x<w0.1.size/\K.1 x/\w.1[x]? =w0.1[x]?
 new:∀x,K.1 x->K0.1 x\/w0.1.size<=x
 live:AI S.4 S.1 w0->AI S.4 S.1 w
 pay:PayAt S.2 S.3 w0->PayAt S.2 S.3 w
 mem:∀p∈L,w0.1.size<=p.1/\K.2 p.1/\w.1[p.1]? =N p.2
 ord:L.Pairwise λp q=>q.1≠p.1
structure Lies(L:List (Nat×ZG))(n0:Nat)(w:pn):Prop where
 size:n0<=↑w
 mem:∀p∈L,n0<=p.1/\w.1[p.1]? =N p.2
 ord:L.Pairwise λp q=>q.1≠p.1
def Vm(L:List (Nat×ZG))(n c b:Nat):=(∃p∈L,p.1=b)\/(n<=b/\b<c)
def EvA(L:List (Nat×ZG))(n d:Nat)(e:Zx):=
 (∃a wr,e=⟨.cell a,wr,pi⟩/\Vm L n d a.1)\/(∃r wr,e=⟨.obj r,wr,pi⟩/\Vm L n d r)\/(∃wr c,e=⟨.mark .noRoom,wr,c⟩)\/∃f wr c,e=⟨.mark (.extern f),wr,c⟩
structure Turn(L L':List (Nat×ZG))(w w':pn)(es:Array Zx):Prop where
 tape:w'.2=w.2
 os:w'.4=w.4
 output:w'.5=w.5
 size:↑w<=w'.1.size
 block:∀x<w.1.size,(∀p∈L,p.1≠x)->w'.1[x]? =w.1[x]?
 mem:∀p∈L',Vm L ↑w ↑w' p.1/\w'.1[p.1]? =N p.2
 ord:L'.Pairwise λp q=>q.1≠p.1
 events:∀e∈es,EvA L ↑w ↑w' e
variable {S:Who}{m:Nat}{K0 K:gL}{w0 w w':pn}{L L':List (Nat×ZG)}{es:Array Zx}
def At.en{w₁}(h:At S K0 w0 L K w)(r:En S (N m) K w w₁):At S K0 w0 L K w₁:=
 ⟨h.1,λx c=>aL (h.2 x c) r.4,h.3,h.4,aX h.5 r.4,λx c=>⟨(h.6 x c).1,(h.6 x c).2.1,oy (r.5 x (h.6 x c).2.1) (h.6 x c).2.2⟩,h.7,r.6∘h.8,r.7∘h.9,λp d=>⟨(h.10 p d).1,(h.10 p d).2.1,oy (r.5 _ (h.1 _ (h.10 p d).2.1)) (h.10 p d).2.2⟩,h.11⟩
def At.lies(h:At S K0 w0 L K w):Lies L ↑w0 w:=⟨h.5,λp c=>⟨(h.10 p c).1,(h.10 p c).2.2⟩,h.11⟩
omit [Payload] in
def Lies.lt(h:Lies L ↑w0 w){p}(hp:p∈L):p.1<w.1.size:=(cH.1 (h.2 p hp).2).1
def At.U4(h:At S K0 w0 L K w){x}(d:x<w0.1.size):∀p∈L,p.1≠x:=λp c e=>by have:=(h.10 p c).1;omega
def At.turn(h:At S K0 w0 L K w)(t:Turn L L' w w' es):At S K0 w0 L' (K.grow ↑w ↑w') w':=by
 have d:=λx c=>t.5 x (aL c h.5) (h.U4 c);refine⟨λx c=>c.imp (h.1 x) id,λx c=>c.elim (λk=>aL (h.2 x k) t.4) (·.2),h.3,h.4,aX h.5 t.4,λx c=>⟨(h.6 x c).1,rr (h.6 x c).2.1,oy (d x (h.6 x c).1) (h.6 x c).2.2⟩,λx c=>c.elim (h.7 x) λk=>rz (aX h.5 k.1),λk=>?_,λk=>?_,λp l=>?_,t.7⟩
 .let⟨st,f,e⟩:=h.8 k;exact⟨st,f,e.of_block (d _ h.4)⟩
 .let⟨cs,e,f⟩:=h.9 k;exact⟨cs,oy (d _ h.3) e,f⟩
 .let⟨k,f⟩:=t.6 p l;obtain⟨q,j,e⟩|k:=k
  .rw[<-e];exact⟨(h.10 q j).1,rr (h.10 q j).2.1,by rw[e];exact f⟩
  .exact⟨aX h.5 k.1,rz k,f⟩
def At.gu(h:At S K0 w0 L K w)(t:Turn L L' w w' es):Gu S (N m) K w w' es:=by
 have f:=λx n=>t.5 x (aL n h.5) (h.U4 n)
 have j:∀{b:Nat},Vm L ↑w ↑w' b->(K.2 b\/↑w<=b)/\b<↑w':=λc=>by
  obtain⟨p,d,rfl⟩|k:=c
  .exact⟨rr (h.10 p d).2.1,aL (h.2 _ (h.1 _ (h.10 p d).2.1)) t.4⟩
  omega
 have l:∀{b:Nat}{wr:Bool},Vm L ↑w ↑w' b->((if wr then K.2 b else K.1 b)\/↑w<=b)/\b<↑w':=λ{b wr} c=>by
  refine⟨(j c).1.imp (λk=>?_) id,(j c).2⟩;cases wr
  .exact h.1 _ k
  .exact k
 refine⟨t.1,t.2,t.3,t.4,λb v y _=>t.5 b v λp d e=>y (e ▸ (h.10 p d).2.1),λ⟨cs,q,s⟩=>⟨cs,oy (f _ h.3) q,s⟩,λi _=>by simp only[Z,f _ h.3],λe u=>rr ?_⟩;obtain⟨a,wr,rfl,c⟩|⟨r,wr,rfl,c⟩|k|k:=t.8 e u
 .exact rr ⟨a,wr,R,l c⟩
 .exact rz (rr ⟨r,wr,R,l c⟩)
 .exact rz (rz (rr k))
 .exact rz (rz (rz k))
def Wc(P:th)(S:Who)(m:Nat)(St:gL->r9->pn->Prop)(K0:gL)(w0:pn)(L:List (Nat×ZG))(g:r9):=∀K w,At S K0 w0 L K w->iw P pi S (N m) St K g w
variable {P:th}{St:gL->r9->pn->Prop}{g g':r9}
def Wc.use(h:Wc P S m St K0 w0 L g)(c:At S K0 w0 L K w):iw P pi S (N m) St K g w:=h K w c
def Wc.step(f:g.3=.running)(h:∀w,Lies L ↑w0 w->∃g' w' es L',vi P pi g w=.go g' w' es/\Turn L L' w w' es/\Wc P S m St K0 w0 L' g'):Wc P S m St K0 w0 L g:=λK w c=>.step f λw₁ h₁=>by
 let⟨g',w',es,L',e,d,hw⟩:=h w₁ (c.en h₁).lies;exact⟨g',w',es,e,(c.en h₁).gu d,hw _ _ ((c.en h₁).turn d)⟩
def Wc.go(n)(h:∀K w,At S K0 w0 L K w->X7 P pi (En S (N m) K) DC0 (λg w=>iw P pi S (N m) St K g w) n g w):Wc P S m St K0 w0 L g:=λK w c=>iw.go (h K w c)
def Wc.drop(d:L'.Sublist L)(h:Wc P S m St K0 w0 L' g):Wc P S m St K0 w0 L g:=λK w c=>
 h K w ⟨c.1,c.2,c.3,c.4,c.5,c.6,c.7,c.8,c.9,λp e=>c.10 p (d.subset e),c.11.sublist d⟩
omit [Payload] in
def Turn.still(h:Lies L ↑w0 w)(d:∀e∈es,EvA L ↑w ↑w e):Turn L L w w es:=⟨R,R,R,fI,λ_ _ _=>R,λp c=>⟨rr ⟨p,c,R⟩,(h.2 p c).2⟩,h.3,d⟩
omit [Payload] in
def Turn.lay(h:Lies L ↑w0 w)(r:↑w'=w.1.size+1)(d:∀x<w.1.size,w'.1[x]? =w.1[x]?)(j:w'.1[w.1.size]? =N ob)(n:w'.2=w.2)(l:w'.4=w.4)(q:w'.5=w.5)(f:∀e∈es,EvA L ↑w (w.1.size+1) e):Turn L ((w.1.size,ob)::L) w w' es:=by
 refine⟨n,l,q,aA,λx e _=>d x e,λp c=>?_,List.pairwise_cons.2 ⟨λp c=>eH (h.lt c),h.3⟩,by rw[r];exact f⟩;obtain rfl|c:=bM.1 c
 .exact⟨rz ⟨fI,by simp only;omega⟩,j⟩
 .exact⟨rr ⟨p,c,R⟩,oy (d _ (h.lt c)) (h.2 p c).2⟩
omit [Payload] in
def Turn.alloc(h:Lies L ↑w0 w)(o)(c:∀e∈es,EvA L ↑w (w.1.size+1) e):Turn L ((w.1.size,o)::L) w (o6 w o) es:=
 .lay h aC (λx d=>by
  show(w.1.push o)[x]? =w.1[x]?
  grind) (YZ w o) R R R c
omit [Payload] in
def Turn.set{i o}(h:Lies L ↑w0 w)(j:L[i]? =N (B,o))(F:↑w'=w.1.size)(s:∀x≠B,w'.1[x]? =w.1[x]?)(r:w'.1[B]? =N o')(D:w'.2=w.2)(A:w'.4=w.4)(E:w'.5=w.5)(v:∀e∈es,EvA L ↑w ↑w e):Turn L (L.set i (B,o')) w w' es:=by
 have n:=(aJ.1 j).1;have u:=aS j
 have y:(L.set i (B,o')).map Prod.fst=L.map Prod.fst:=by
  rw[List.map_set];apply List.ext_getElem?;intro k;rw[qaV];split
  .grind
  .rfl
 refine⟨D,A,E,aA,λx _ r=>s x λe=>r _ u e.symm,λp d=>?_,?_,by rw[F];exact v⟩
 .have z:p.1∈L.map Prod.fst:=by rw[<-y];exact List.mem_map_of_mem d
  let⟨q,C,e⟩:=bB.1 z;refine⟨rr ⟨q,C,e⟩,?_⟩;by_cases t:p.1=B
  .let⟨k,c⟩:=fD.1 d;rw[qaV]at c;split at c
   .grind
   .have G:k≠i:=λe=>‹¬i=k› e.symm;have l:=(aJ.1 c).1;obtain f|f:=dH k i
    .have:=dX.1 h.3 k i l n f
     grind
    .have:=dX.1 h.3 i k n l aA
     grind
  .rw[s _ t];let⟨k,c⟩:=fD.1 d;rw[qaV]at c;split at c
   .grind
   .exact(h.2 p (aS c)).2
 .have c:(L.map Prod.fst).Pairwise (λa b=>b≠a):=List.pairwise_map.2 h.3
  grind
omit [Payload] in
def Turn.put{i o}(h:Lies L ↑w0 w)(c:L[i]? =N (B,o))(d:∀e∈es,EvA L ↑w ↑w e):Turn L (L.set i (B,o')) w (w.putObj B o') es:=
 .set h c aC (λ_ e=>World.putObj_heap_other e) (World.putObj_heap_same (h.lt (aS c))) R R R d
section
variable {b:tg}{a:Act}{k:List qbe}{cs:List tg}{ops:Array OF}{i:Nat}{rest:List Nat}{o:OF}
def Wc.op(f:ops[i]? =N o)(hw:sy o (yielded ops a.1)=pw)(e:b.6≠.early)(h:∀w,Lies L ↑w0 w->∃v w' L',((rj a.eval o).run P w=.ok (.value v) w'\/(rj a.eval o).run P w=.ok .skip w'/\v=p8)/\Turn L L' w w' (listed P b.1 a o w)/\Wc P S m St K0 w0 L' (G (b.at (td a o.1 v) (ri ops rest::k)) cs)):Wc P S m St K0 w0 L (G (b.at a (ri ops (i::rest)::k)) cs):=
 .step R λw l=>by
  let⟨v,w',L',c,j,d⟩:=h w l;obtain c|⟨c,rfl⟩:=c
  .exact⟨_,w',_,L',stepG_value f hw e c,j,d⟩
  .exact⟨_,w',_,L',stepG_none f hw e c,j,d⟩
def Wc.rd(v)(l:ops[i]? =N o)(hw:sy o (yielded ops a.1)=pw)(j:b.6≠.early)(h:∀w,Lies L ↑w0 w->(rj a.eval o).run P w=.ok (.value v) w/\∀e∈(rj a.eval o).events P w #[],EvA L ↑w ↑w e)(d:Wc P S m St K0 w0 L (G (b.at (td a o.1 v) (ri ops rest::k)) cs)):Wc P S m St K0 w0 L (G (b.at a (ri ops (i::rest)::k)) cs):=
 .op l hw j λw c=>⟨v,w,L,rr (h w c).1,.still c λe f=>(h w c).2 e (ym f),d⟩
def Wc.al(ob)(v:Nat->po)(l:ops[i]? =N o)(hw:sy o (yielded ops a.1)=pw)(j:b.6≠.early)(h:∀w,Lies L ↑w0 w->(rj a.eval o).run P w=.ok (.value (v ↑w)) (o6 w ob)/\∀e∈(rj a.eval o).events P w #[],EvA L ↑w (w.1.size+1) e)(d:∀n,Wc P S m St K0 w0 ((n,ob)::L) (G (b.at (td a o.1 (v n)) (ri ops rest::k)) cs)):Wc P S m St K0 w0 L (G (b.at a (ri ops (i::rest)::k)) cs):=
 .op l hw j λw c=>⟨_,_,_,rr (h w c).1,.alloc c ob λe f=>(h w c).2 e (ym f),d _⟩
def Wc.st{j}(d)(n:L[j]? =N (B,ob))(q:ops[i]? =N o)(hw:sy o (yielded ops a.1)=pw)(p:b.6≠.early)(h:∀w,Lies L ↑w0 w->(rj a.eval o).run P w=.ok .skip (w.putObj B d)/\∀e∈(rj a.eval o).events P w #[],EvA L ↑w ↑w e)(f:Wc P S m St K0 w0 (L.set j (B,d)) (G (b.at (td a o.1 p8) (ri ops rest::k)) cs)):Wc P S m St K0 w0 L (G (b.at a (ri ops (i::rest)::k)) cs):=
 .op q hw p λw c=>⟨_,_,_,rz ⟨(h w c).1,R⟩,.put c n λe l=>(h w c).2 e (ym l),f⟩
def Wc.fill{z V}(y:fills (qd a.1) ops=pw)(done:∀l c,(∀i<qd ops,tr l i pi=pw)->Fill ops V a l c->Wc P S m St K0 w0 L' (G (b.at c k) cs))(J:Array Bool->List (Nat×ZG))(u:J (wy (qd ops) pi)=L)(v:∀l,(∀i<qd ops,tr l i pi=pw)->J l=L')(more:∀l c i o rest,ops[i]? =N o->tr l i pw=pi->(∀j,waits ops i j=pw->tr l j pi=pw)->Fill ops V a l c->Wc P S m St K0 w0 (J (qb l i pw)) (G (b.at (td c o.1 (V i)) (ri ops rest::k)) cs)->Wc P S m St K0 w0 (J l) (G (b.at c (ri ops (i::rest)::k)) cs)):Wc P S m St K0 w0 L (G (b.at a (.code (.region z ops pw)::k)) cs):=by
 refine .step R λw f=>⟨_,_,_,L,stepG_region_draw,⟨R,R,R,fI,λ_ _ _=>R,λp j=>⟨rr ⟨p,j,R⟩,(f.2 p j).2⟩,f.3,λe x=>by simp at x⟩,?_⟩
 rw[<-u];refine zh (σ:=Array Bool) (λ_=>V) (λl s=>s=l) (λrest a s=>Wc P S m St K0 w0 (J s) (G (b.at a (ri ops rest::k)) cs)) y (λl c s d h n=>?_) (λl c s i o rest d h n q r t=>?_) _ _ _ R
 .rw[n,v l d];exact .step R λw f=>⟨_,w,_,L',pu,.still f λe j=>by simp at j,done l c d h⟩
 .rw[r];exact more l c i o rest d h n q (t _ (λ_ _=>R) R)
end
end
end
section
variable {v:po}{c:tg}{cs:List tg}
section
variable [ZF]{P:th}{ty:wj}{Wg C n i lo:Nat}
def Ce(P:th)(ty:wj)(Wg C n i:Nat)(g:r9)(w:pn):=
 ∃a,(∀w₁,vi P pi g w₁=.go a w₁ #[vm (.releaseMerge (stA Wg))])/\∃m,X7 P pi (RW ty Wg C n 0 i) DC0 (λg _=>∃b,∀w₁,vi P pi g w₁=.go b w₁ #[vm .disable]) m a w
def FN:∀{m k g w},X7 P pi (RW ty Wg C n 0 i) DC0 (λg _=>∃a,∀w₁,vi P pi g w₁=.go a w₁ #[vm .disable]) m g w->X7 P pi (RW ty Wg C n 0 (i+1-1)) (DWs Wg mA mA C n (i+1)) (AtR0 P ty Wg C n 0 (i+1) v) k g w->False:=by
 intro m
 have last:∀{k:Nat}{g:r9}{w:pn},(∃a,∀w₁,vi P pi g w₁=.go a w₁ #[vm .disable])->X7 P pi (RW ty Wg C n 0 (i+1-1)) (DWs Wg mA mA C n (i+1)) (AtR0 P ty Wg C n 0 (i+1) v) k g w->False:=by
  rintro k g w ⟨o,b⟩ f;obtain a|⟨p,rfl,a⟩:=ZL f
  .obtain⟨_,_,d,e,_⟩:=a w (Yv w);rw[b w]at e;simp only[qav]at e;have:=e.2.2;simp[vm]at this
  .obtain⟨l,q,j,e,⟨_,d⟩,_⟩:=a w (Yv w);rw[b w]at e;simp only[qav]at e;obtain⟨_,_,rfl⟩:=e;exact(d (vm _) aC).2.1 R
 induction m with
 |zero=>exact λh a=>last (h _ (Yv _)) a
 |succ m ih=>
  intro k g w h f;obtain h|⟨_,h⟩:=h
  .exact last (h _ (Yv _)) f
  .have a:=h w (Yv w);cases d:vi P pi g w with
   |go o s j=>
    rw[d,goes_go]at a;obtain⟨⟨rfl,rfl⟩,a⟩:=a;obtain b|⟨r,rfl,b⟩:=ZL f
    .obtain⟨_,_,l,e,_⟩:=b _ (Yv _)
     grind
    .obtain⟨p,w₁,l,e,_,q⟩:=b _ (Yv _)
     grind
   |_=>rw[d]at a;exact a.elim
def follow{Q K}:∀{m k g w},X7 P pi (RW ty Wg C n 0 i) DC0 (Ce P ty Wg C n i) m g w->X7 P pi (RW ty Wg C n 0 (i+1-1)) (DWs Wg mA mA C n (i+1)) (AtR0 P ty Wg C n 0 (i+1) v) k g w->(∀w₁,RW ty Wg C n 0 i w w₁->(∀b,K.1 b->w₁.1[b]? =w.1[b]?)->Q i v K.1 w₁)->iw P pi ⟨Wg,C,n,ty,lo⟩ (N i) (oT P ⟨Wg,C,n,ty,lo⟩ Q i) K g w:=by
 intro m;have q:∀a b c,RW ty Wg C n 0 (i+1-1) a b->RW ty Wg C n 0 (i+1-1) b c->RW ty Wg C n 0 (i+1-1) a c:=λ_ _ _ s t=>s.trans t
 have last:∀{k:Nat}{g:r9}{w:pn},(∀w₁,RW ty Wg C n 0 i w w₁->Ce P ty Wg C n i g w₁)->X7 P pi (RW ty Wg C n 0 (i+1-1)) (DWs Wg mA mA C n (i+1)) (AtR0 P ty Wg C n 0 (i+1) v) k g w->
   (∀w₁,RW ty Wg C n 0 i w w₁->(∀b,K.1 b->w₁.1[b]? =w.1[b]?)->Q i v K.1 w₁)->iw P pi ⟨Wg,C,n,ty,lo⟩ (N i) (oT P ⟨Wg,C,n,ty,lo⟩ Q i) K g w:=by
  intro k g w y l j;refine iw.stop λw₁ h₁=>⟨v,?_,j w₁ h₁.rw h₁.5⟩
  obtain d|⟨B,rfl,d⟩:=ZL (l.rely q h₁.rw)
  .exact d w₁ (Yv w₁)
  .exfalso;let⟨u,f,z,o⟩:=y w₁ h₁.rw;obtain⟨x,A,r,e,_,p⟩:=d w₁ (Yv w₁);rw[f w₁]at e;simp only[qav]at e;obtain⟨rfl,rfl,rfl⟩:=e;exact FN o p
 induction m with
 |zero=>exact λh l j=>last h l j
 |succ m ih=>
  intro k g w h l j;obtain h|⟨z,h⟩:=h
  .exact last h l j
  .refine iw.step z λw₁ h₁=>?_;have f:=h w₁ h₁.rw;cases o:vi P pi g w₁ with
   |go r w' E=>
    rw[o,goes_go]at f;obtain⟨⟨rfl,rfl⟩,f⟩:=f;refine⟨r,w',_,R,.still ..,?_⟩;rw[gX];obtain d|⟨B,rfl,d⟩:=ZL (l.rely q h₁.rw)
    .obtain⟨_,_,p,e,_⟩:=d _ (Yv _)
     grind
    .obtain⟨G,I,F,e,_,x⟩:=d _ (Yv _);rw[o]at e;simp only[qav]at e;obtain⟨rfl,rfl,rfl⟩:=e;exact ih f x λD A u=>j D (h₁.rw.trans A) λb p=>oy (u b p) (h₁.5 b p)
   |_=>rw[o]at f;exact f.elim
variable {L:WgLink}
def PG(H:WgLib P L)(w)(hF:AI L.30 Wg w):X7 P pi (RW L.30 Wg C n 0 i) DC0 (Ce P L.30 Wg C n i) 60 (G ((baseD L.2).at ⟨#[pm (N ⟨Wg,0,X⟩),p8,p8,p8],[]⟩ [.code (body_done L)]) (c::cs)) w:=by
 lib_facts
 simp only[body_done,doneFn,cW];u_reg (λh r=>YT r h) hF;u_op (λh r=>YT r h) hF;u_in (λh r=>YT r h) hF;refine goes_call R R (by k_ne) R H.1 (nm_add L) R ⟨by u_nil,?_⟩;walk_nrmf addFn;u_c rp (λh r=>YT r h) hF;u_cond pw (λh r=>YT r h) hF
 iterate 2 u_c rp (λh r=>YT r h) hF
 u_reg (λh r=>YT r h) hF
 iterate 2 u_op (λh r=>YT r h) hF
 u_c pu (λh r=>YT r h) hF;u_cond pw (λh r=>YT r h) hF;u_reg (λh r=>YT r h) hF;u_op (λh r=>YT r h) hF;u_conv H.27 H.112 (Y7 (WgLive.cell0 hF)) (λh r=>YT r h) hF;refine sg (λw₁ h₁=>?_);replace hF:=h₁.2 hF;clear h₁;refine⟨_,λa=>stepG_markAt _ aC R R (by k_ne) R H.4 (x_relMerge_n L) (x_relMerge_b L) (x_relMerge_x L) (x_relMerge_f L) (by simp[p7,stA]),10,?_⟩;walk_nrm;u_c pu (λh r=>YT r h) hF;u_c rp (λh r=>YT r h) hF;u_reg (λh r=>YT r h) hF;exact sg (λw₁ h₁=>⟨_,λa=>stepG_mark0 _ aC R R (by k_ne) R H.5 (x_disable_n L) (x_disable_b L) (x_disable_x L) (x_disable_f L)⟩)
def Q1(H:WgLib P L){Q K j}(g:c.5=Yi)(e:QuitsD P j 0 (G c cs))(w)(a:AI L.30 Wg w)(h:Has C i v w)(d:∀w₁,(∀b,K.1 b->w₁.1[b]? =w.1[b]?)->Q i v K.1 w₁):iw P pi ⟨Wg,C,n,L.30,lo⟩ (N i) (oT P ⟨Wg,C,n,L.30,lo⟩ Q i) K (G ((baseD L.2).at ⟨#[pm (N ⟨Wg,0,X⟩),p8,p8,p8],[]⟩ [.code (body_done L)]) (c::cs)) w:=
 follow (PG H w a) (doneN H (k:=i+1) g e w ⟨a,h⟩) λw₁ _ f=>d w₁ f
end
end
section
variable {id B:Nat}{c fr:tg}{fn:Func}{v:po}
section
variable [ZF]{P:th}{S:Who}{m:Nat}{St:gL->r9->pn->Prop}{K0:gL}{w0 w:pn}{L L':List (Nat×ZG)}{g g':r9}{b:tg}{a:Act}{k:List qbe}{cs:List tg}{ops:Array OF}{i:Nat}{rest:List Nat}{o:OF}
def Wc.ctl(j:g.3=.running)(h:∀w,vi P pi g w=.go g' w #[])(k:Wc P S m St K0 w0 L g'):Wc P S m St K0 w0 L g:=.step j λw f=>⟨g',w,#[],L,h w,.still f λe d=>by simp at d,k⟩
def Wc.seq{x y}(h:Wc P S m St K0 w0 L (G (b.at a (.code x::.code y::k)) cs)):Wc P S m St K0 w0 L (G (b.at a (.code (.seq x y)::k)) cs):=.ctl R (λ_=>rp) h
def Wc.block{c}(h:Wc P S m St K0 w0 L (G (b.at a (.code c::.inBlock id::k)) cs)):Wc P S m St K0 w0 L (G (b.at a (.code (.block id c)::k)) cs):=.ctl R (λ_=>qaq) h
def Wc.inBlock(h:Wc P S m St K0 w0 L (G (b.at a k) cs)):Wc P S m St K0 w0 L (G (b.at a (.inBlock id::k)) cs):=.ctl R (λ_=>stepG_inBlock) h
def Wc.reg(l)(d:IS (qd ops)=l)(h:Wc P S m St K0 w0 L (G (b.at a (ri ops l::k)) cs)):Wc P S m St K0 w0 L (G (b.at a (.code (.region id ops pi)::k)) cs):=.ctl R (λ_=>stepG_region) (by rw[d];exact h)
def Wc.done(h:Wc P S m St K0 w0 L (G (b.at a k) cs)):Wc P S m St K0 w0 L (G (b.at a (ri ops []::k)) cs):=.ctl R (λ_=>pu) h
def Wc.ret(h:∀d,Wc P S m St K0 w0 L (G { b.at a d with mode:=Yi } cs)):Wc P S m St K0 w0 L (G (b.at a (.code .ret::k)) cs):=.ctl R (λ_=>YE) (h _)
def Wc.call{f c args d}(p:ops[i]? =N o)(hw:sy o (yielded ops a.1)=pw)(l:b.6≠.early)(q:o.2=.call { callee:=.value (.func f),args,argTypes:=d })(j:P.2[f]? =N fn)(n:(fn.1 == "runtime.NumGoroutine")=pi)(e:fn.9=N c)(h:Wc P S m St K0 w0 L (G ((base f).at ⟨args.map a.eval++wy (fn.7-qd (args.map a.eval)) p8,[]⟩ [.code c]) (b.at a (ri ops (i::rest)::k)::cs))):Wc P S m St K0 w0 L (G (b.at a (ri ops (i::rest)::k)) cs):=
 .go 1 λ_ _ r=>Goes.step R λ_ h₁=>goes_call p hw l q j n e ⟨⟨R,R⟩,sg λ_ s=>Wc.use h ((r.en h₁).en s)⟩
def Wc.leave(v)(r:fr.5=Yi)(l:fr.4=[])(q:fr.6=.normal)(p:P.2[fr.1]? =N fn)(f:∀w,Lies L ↑w0 w->(results fn fr.2).run P w=.ok v w/\∀e∈(results fn fr.2).events P w #[],EvA L ↑w ↑w e)(h:Wc P S m St K0 w0 L (G (xx c v) cs)):Wc P S m St K0 w0 L (G fr (c::cs)):=
 .step R λw d=>⟨_,w,seen P fr.1 ((results fn fr.2).events P w #[]),L,by
  have j:=(f w d).1;simp[G,vi,unwind,doReturn,r,l,q,p,j,zv],.still d λe n=>(f w d).2 e (mem_seen n),h⟩
def Wc.back(v)(p:fr.5=Yi)(j:fr.4=[])(n:fr.6=.normal)(l:P.2[fr.1]? =N fn)(f:ResultsC P fn fr.2 v)(h:Wc P S m St K0 w0 L (G (xx c v) cs)):Wc P S m St K0 w0 L (G fr (c::cs)):=
 .leave v p j n l (λw _=>⟨(f w).1,λe d=>by rw[(f w).2]at d;simp at d⟩) h
def Wc.uY{t}(j:fr.5=Yi)(d:fr.4=[])(f:fr.6=.normal)(e:P.2[fr.1]? =N fn)(l:fn.8=#[.tmp t])(n:tr fr.2 t p8=v)(h:Wc P S m St K0 w0 L (G (xx c v) cs)):Wc P S m St K0 w0 L (G fr (c::cs)):=.back v j d f e (n ▸ resultsC_tmp l _) h
def Wc.C9{t u d}(l:fr.5=Yi)(e:fr.4=[])(j:fr.6=.normal)(f:P.2[fr.1]? =N fn)(n:fn.8=#[.tmp t,.tmp u])(p:tr fr.2 t p8=v)(q:tr fr.2 u p8=d)(h:Wc P S m St K0 w0 L (G (xx c (sh #[v,d])) cs)):Wc P S m St K0 w0 L (G fr (c::cs)):=.back _ l e j f (p ▸ q ▸ resultsC_tmp2 n _) h
end
def I4{w j c t d}(h:w.1[B]? =N (pj c t d)):o3 w ⟨B,j,X⟩ v=w.putObj B (pj (qb c j v) t d):=by
 simp only[o3,World.putObj,Option.isSome_none,bE,if_false]
 congr 1
 grind
end
end Cr
namespace Cr
open Go Go.Conc
variable {es:Array Zx}
def na{α:Type}:Sem α->Prop
 |.pure _|.halt _=>True
 |.load m _ k=>m=.plain/\∀v,na (k v)
 |.store m _ _ k=>m=.plain/\na k
 |.new _ k=>∀x,na (k x)
 |.shape _ k=>∀x,na (k x)
 |.freeze _ _ k=>na k
 |.frozen _ k=>∀x,na (k x)
 |.getObj _ k=>∀x,na (k x)
 |.setObj _ _ k=>na k
 |.choose _ k=>∀x,na (k x)
 |.sys _ k=>∀x,na (k x)
 |.program k=>∀x,na (k x)
 |.mark _ k=>na k
def pl(e:Zx):=∀a,e.1=.cell a->e.3=pi
section
variable {α β:Type}{P:th}{s:Sem α}
def nB{f:α->Sem β}(h:na s)(b:∀a,na (f a)):na (s >>= f):=by
 show na (s.bind f)
 induction s with
 |pure a=>exact b a
 |halt x=>trivial
 |load m a k ih=>exact⟨h.1,λv=>ih v (h.2 v)⟩
 |store m a v k ih=>exact⟨h.1,ih h.2⟩
 |freeze a n k ih=>exact ih h
 |setObj r o k ih=>exact ih h
 |mark m k ih=>exact ih h
 |_=>rename_i ih;exact λx=>ih x (h x)
def pO{e}(h:∀e∈es,pl e)(a:pl e):∀x∈es.push e,pl x:=λx b=>(Array.mem_push.1 b).elim (h x) λk=>k ▸ a
def LZ{l wr}(h:∀e∈es,pl e):∀x∈es++(py l).map (⟨.cell ·,wr,pi⟩),pl x:=λx b=>(Array.mem_append.1 b).elim (h x) λk a _=>by
 obtain⟨y,_,rfl⟩:=Array.mem_map.1 k;rfl
def UC(h:na s):∀(w es),(∀e∈es,pl e)->∀e∈(s.runT P w es).2,pl e:=by
 induction s with
 |pure a=>exact λw es b=>b
 |halt x=>exact λw es a=>a
 |load m a k ih=>
  obtain⟨rfl,h⟩:=h;intro w es a;simp only[tp];split
  .exact ih _ (h _) _ _ (pO a λ_ _=>R)
  .split
   .exact ih _ (h _) _ _ (LZ a)
   .exact a
 |store m a v k ih=>
  obtain⟨rfl,h⟩:=h;intro w es b
  have c:∀e∈((match Z w a with
   |some _=>if w.frozen? a then(.halt (.unsupported (.unsafePointer "a write to bytes that a string shares")) w,es)else k.runT P (o3 w a v) (es.push ⟨.cell a,pw,Mode.plain == .atomic⟩)
   |none=>match w.farStore P a v (Mode.plain == .atomic)with
    |.ok (w,touched)=>k.runT P w (es++(py touched).map (⟨.cell ·,pw,Mode.plain == .atomic⟩))
    |.error h=>(.halt h w,es)):Result α×Array Zx).2,pl e:=by
   split
   .split
    .exact b
    .exact ih h _ _ (pO b λ_ _=>R)
   .split
    .exact ih h _ _ (LZ b)
    .exact b
  cases v<;>first|exact c|exact b
 |new o k ih=>exact λw es a=>ih _ (h _) _ _ a
 |shape r k ih=>exact λw es a=>ih _ (h _) _ _ a
 |freeze a n k ih=>exact λw es b=>ih h _ _ b
 |frozen a k ih=>exact λw es b=>ih _ (h _) _ _ b
 |getObj r k ih=>
  intro w es a;simp only[tp];split
  .exact a
  .exact ih _ (h _) _ _ (pO a λ_ k=>by cases k)
  .exact a
 |setObj r o k ih=>
  intro w es a;simp only[tp];split
  .exact a
  .exact ih h _ _ (pO a λ_ k=>by cases k)
  .exact a
 |choose q k ih=>
  intro w es a;simp only[tp];split
  .exact ih _ (h _) _ _ a
  .exact ih _ (h _) _ _ a
 |sys c k ih=>exact λw es a=>ih _ (h _) _ _ (pO a λ_ k=>by cases k)
 |program k ih=>exact λw es a=>ih _ (h _) _ _ a
 |mark m k ih=>exact λw es a=>ih h _ _ (pO a λ_ k=>by cases k)
def nP(a):na (pure a:Sem α):=trivial
def nH(h):na (.halt h:Sem α):=trivial
def nI{c}[Decidable c]{t}(h:na s)(a:na t):na (if c then s else t):=by split<;>assumption
def TN{p:Prop}(h:p:=by repeat' first|with_reducible exact nP _|with_reducible refine nB ?_ λ_=>?_|with_reducible refine nI ?_ ?_|exact nH _|split|(simp;done)|dsimp only):p:=h
@[simp] def TC(t):na (typeInfo t):=by unfold typeInfo;exact nB (λ_=>trivial) λ_=>by split<;>trivial
@[simp] def Rx(t):na (underlying t):=by unfold underlying;exact nB (λ_=>trivial) λ_=>by split<;>trivial
@[simp] def Tg(a):na (load a):=⟨R,λ_=>trivial⟩
@[simp] def Qj(a v):na (store a v):=⟨R,trivial⟩
@[simp] def Vr(q):na (choose q):=λ_=>trivial
@[simp] def XD(o):na (newObj o):=λ_=>trivial
@[simp] def Wl(r):na (shape r):=λ_=>trivial
@[simp] def Vw(a):na (frozen a):=λ_=>trivial
@[simp] def W8(m):na (mark m):=trivial
@[simp] def Ge(a):∀(n i acc),na (loadCellsFrom a i n acc)
 |0,_,_=>trivial
 |n+1,_,_=>nB (Tg _) λ_=>Ge a n _ _
@[simp] def Cd(a):∀(vs i),na (storeCells a vs i)
 |[],_=>trivial
 |_::vs,_=>nB (Qj _ _) λ_=>Cd a vs _
@[simp] def Uj:na program:=λ_=>trivial
@[simp] def Ue(v):na (asIntOf v):=by unfold asIntOf;exact TN
@[simp] def Wj(v):na (asInt v):=by unfold asInt;exact TN
@[simp] def Vo(t):na (elemOf t):=by unfold elemOf;exact TN
@[simp] def R6(t):na (zeroValue t):=by unfold zeroValue;exact TN
@[simp] def Vb(t):na (sizeOf t):=by unfold sizeOf;exact TN
@[simp] def Vv(t c):na (newRow t c):=by unfold newRow;exact TN
@[simp] def UY(t v):na (newVar t v):=by unfold newVar;exact TN
@[simp] def Ub(n):na (askRoom n):=by unfold askRoom;exact TN
@[simp] def RG(a n):na (loadCells a n):=by unfold loadCells;exact TN
@[simp] def P2(a n v):na (qaG a n v):=by unfold qaG;exact TN
@[simp] def Wu(v):na (qbd v):=by unfold qbd;exact TN
@[simp] def Q2(a n):na (ZQ a n):=by unfold ZQ;exact TN
@[simp] def Tj(a b c d v):na (qad a b c d v):=by unfold qad;exact TN
@[simp] def N1(x):na ((runtimePanic x:Sem α)):=by unfold runtimePanic;exact TN
@[simp] def Ey(ts t vs):na (By ts t vs):=by unfold By;exact TN
@[simp] def SN(ts t vs):na (qaF ts t vs):=by unfold qaF;exact TN
end
end Cr
section
open Go.RowKit Go.Joins
section
def fL(w c t):∃W,W=o6 w (pj c t)/\Below w.1.size w W/\W.1[w.1.size]? =N (pj c t (0,0)):=
 ⟨_,R,(Below.refl _ w).alloc fI _,heap_alloc_new _ _⟩
section
variable {w:pn}{b:Nat}{a0 a1 a2 a3 a4 a5 a6 a7:po}{l:List po}{t:wj}{f:Nat×Nat}
def kZ(h:w.1[b]? =N (pj (py (a0::l)) t f)):Z w ⟨b,0,X⟩=N a0:=by exact ll
def cells2(h:w.1[b]? =N (pj (py (a0::a1::l)) t f)):Z w ⟨b,0,X⟩=N a0/\Z w ⟨b,1,X⟩=N a1:=by exact ll
def iY(h:w.1[b]? =N (pj (py (a0::a1::a2::l)) t f)):Z w ⟨b,0,X⟩=N a0/\Z w ⟨b,1,X⟩=N a1/\Z w ⟨b,2,X⟩=N a2:=by exact ll
def iP(h:w.1[b]? =N (pj (py (a0::a1::a2::a3::l)) t f)):Z w ⟨b,0,X⟩=N a0/\Z w ⟨b,1,X⟩=N a1/\Z w ⟨b,2,X⟩=N a2/\Z w ⟨b,3,X⟩=N a3:=by exact ll
def gV(h:w.1[b]? =N (pj (py (a0::a1::a2::a3::a4::l)) t f)):Z w ⟨b,0,X⟩=N a0/\Z w ⟨b,1,X⟩=N a1/\Z w ⟨b,2,X⟩=N a2/\Z w ⟨b,3,X⟩=N a3/\Z w ⟨b,4,X⟩=N a4:=by exact ll
def LS(h:w.1[b]? =N (pj (py (a0::a1::a2::a3::a4::a5::l)) t f)):Z w ⟨b,0,X⟩=N a0/\Z w ⟨b,1,X⟩=N a1/\Z w ⟨b,2,X⟩=N a2/\Z w ⟨b,3,X⟩=N a3/\Z w ⟨b,4,X⟩=N a4/\Z w ⟨b,5,X⟩=N a5:=by exact ll
def rD(h:w.1[b]? =N (pj (py (a0::a1::a2::a3::a4::a5::a6::l)) t f)):Z w ⟨b,0,X⟩=N a0/\Z w ⟨b,1,X⟩=N a1/\Z w ⟨b,2,X⟩=N a2/\Z w ⟨b,3,X⟩=N a3/\Z w ⟨b,4,X⟩=N a4/\Z w ⟨b,5,X⟩=N a5/\Z w ⟨b,6,X⟩=N a6:=by exact ll
end
end
end
namespace Cr
open Go Go.Conc Go.ConcN
open Go.ConcR (Payload DC0)
section
variable {v:po}{id j l:Nat}{r:Loop}{ob:ZG}{es:Array Zx}{fr:tg}{fn:Func}
section
variable {P:th}{main:Bool}{b:tg}{a:Act}{k:List qbe}{cs:List tg}{w w':pn}{ops:Array OF}{i:Nat}{rest:List Nat}{o:OF}
def vB(d:ops[i]? =N o)(hw:sy o (yielded ops a.1)=pw)(e:∀c,o.2≠.defer c):vi P main (G (ui b a (ri ops (i::rest)::k)) cs) w=stepG.apply P pw (ui b a (ri ops (i::rest)::k)) cs X (rj a.eval o) w:=by
 have c:=Frame.eval_atR b a (ri ops (i::rest)::k);simp only[ui]at c;simp only[G,vi,stepG.exec,stepG.oper,Frame.oper?,ui,d,hw,bJ,cW,if_true,c]
 grind
def finish_atR(v)(c:ops[i]? =N o):xx (ui b a (ri ops (i::rest)::k)) v=ui b (td a o.1 v) (ri ops rest::k):=by
 cases h:o.1<;>simp[Frame.finish,ui,c,td,h]
def ER(d:ops[i]? =N o)(hw:sy o (yielded ops a.1)=pw)(f:b.6≠.early)(e:∀c,o.2≠.defer c)(h:(rj a.eval o).run P w=.ok (.value v) w'):vi P main (G (ui b a (ri ops (i::rest)::k)) cs) w=.go (G (ui b (td a o.1 v) (ri ops rest::k)) cs) w' (listed P b.1 a o w):=by
 have g:(b.6 == qaw)=pi:=mw
 rw[vB d hw e,<-finish_atR v d];simp[stepG.apply,X2,h,g,ui,listed,zv,G]
def FH(d:ops[i]? =N o)(hw:sy o (yielded ops a.1)=pw)(f:b.6≠.early)(e:∀c,o.2≠.defer c)(h:(rj a.eval o).run P w=.ok .skip w'):vi P main (G (ui b a (ri ops (i::rest)::k)) cs) w=.go (G (ui b (td a o.1 p8) (ri ops rest::k)) cs) w' (listed P b.1 a o w):=by
 have g:(b.6 == qaw)=pi:=mw
 rw[vB d hw e,<-finish_atR p8 d];simp[stepG.apply,X2,h,g,ui,listed,zv,G]
end
section
variable [ZF]{P:th}{S:Who}{m:Nat}{St:gL->r9->pn->Prop}{K0:gL}{w0:pn}{L L':List (Nat×ZG)}{b:tg}{a:Act}{k:List qbe}{cs:List tg}{ops:Array OF}{i:Nat}{rest:List Nat}{o:OF}
def Wc.U7{x y}(h:Wc P S m St K0 w0 L (G (ui b a (.code x::.code y::k)) cs)):Wc P S m St K0 w0 L (G (ui b a (.code (.seq x y)::k)) cs):=.ctl R (λ_=>kr) h
def Wc.Sr{c}(h:Wc P S m St K0 w0 L (G (ui b a (.code c::.inBlock id::k)) cs)):Wc P S m St K0 w0 L (G (ui b a (.code (.block id c)::k)) cs):=.ctl R (λ_=>kr) h
def Wc.KM(h:Wc P S m St K0 w0 L (G (ui b a k) cs)):Wc P S m St K0 w0 L (G (ui b a (.inBlock id::k)) cs):=.ctl R (λ_=>kr) h
def Wc.Qz(l)(c:IS (qd ops)=l)(h:Wc P S m St K0 w0 L (G (ui b a (ri ops l::k)) cs)):Wc P S m St K0 w0 L (G (ui b a (.code (.region id ops pi)::k)) cs):=.ctl (g':=G (ui b a (ri ops l::k)) cs) R (λ_=>by simp[G,vi,stepG.exec,ui,c]) h
def Wc.Iq(h:Wc P S m St K0 w0 L (G (ui b a k) cs)):Wc P S m St K0 w0 L (G (ui b a (ri ops []::k)) cs):=.ctl R (λ_=>kr) h
def Wc.VJ(g:ops[i]? =N o)(hw:sy o (yielded ops a.1)=pw)(f:b.6≠.early)(e:∀c,o.2≠.defer c)(h:∀w,Lies L ↑w0 w->∃v w' L',((rj a.eval o).run P w=.ok (.value v) w'\/(rj a.eval o).run P w=.ok .skip w'/\v=p8)/\Turn L L' w w' (listed P b.1 a o w)/\Wc P S m St K0 w0 L' (G (ui b (td a o.1 v) (ri ops rest::k)) cs)):Wc P S m St K0 w0 L (G (ui b a (ri ops (i::rest)::k)) cs):=
 .step R λw p=>by
  let⟨v,w',L',c,n,d⟩:=h w p;obtain c|⟨c,rfl⟩:=c
  .exact⟨_,w',_,L',ER g hw f e c,n,d⟩
  .exact⟨_,w',_,L',FH g hw f e c,n,d⟩
omit [Payload] in
def zA{r Zp c}(h:L[j]? =N (r,ob))(g:∀e∈es,e.1=.obj r/\e.3=pi):∀e∈es,EvA L Zp c e:=λe k=>by
 obtain⟨n,wr,p⟩:=e;let⟨d,f⟩:=g _ k;cases d;cases f;exact rz (rr ⟨r,wr,R,rr ⟨_,aS h,R⟩⟩)
omit [Payload] in
def lA{w p}(h:Lies L ↑w0 w)(c:L[j]? =N p):w.1[p.1]? =N p.2:=(h.2 p (aS c)).2
def Wc.begin(f:L[j]? =N (l,.loop r))(n:r.1=.ready)(t:b.7=N l)(q:b.6≠.early)(h:Wc P S m St K0 w0 (L.set j (l,.loop { r with state:=.busy })) (G (ui b a k) cs)):Wc P S m St K0 w0 L (G (ui b a (.beginRound::k)) cs):=
 .step R λw g=>by
  have c:=lA g f;have p:=run_beginRound (P:=P) (w:=w) c n;have s:(b.6 == qaw)=pi:=by simpa using q
  refine⟨_,_,seen P b.1 ((qar l).events P w #[]),_,?_,.put g f λe d=>zA f ?_ e (mem_seen d),h⟩
  .simp[G,vi,stepG.exec,stepG.apply,ui,t,X2,p,s,zv,Frame.finish]
  .have c:w.1[l]? =N (.loop r):=c;intro e d;simp[-X2,Sem.events,qar,Yz,getObj,setObj,bind,yz,pure,tp,c,n,Obj.isChan]at d
   grind
def Wc.Xf{c}(g:L[j]? =N (l,.loop r))(s:b.7=N l)(q:b.6=.normal)(h:Wc P S m St K0 w0 (L.set j (l,.loop { r with state:=.ready,pending:=X })) (G (xx c (.bool pw)) cs)):Wc P S m St K0 w0 L (G (ui b a []) (c::cs)):=
 .step R λw n=>by
  have d:=lA n g;have p:=run_endRound (P:=P) (w:=w) X d;refine⟨_,_,seen P b.1 ((Z4 l X).events P w #[]),_,?_,.put n g λe f=>zA g ?_ e (mem_seen f),h⟩
  .simp[G,vi,stepG.exec,ui,s,X2,p,doReturn,q,zv]
  .have d:w.1[l]? =N (.loop r):=d;intro e f;simp[-X2,Sem.events,Z4,Yz,getObj,setObj,bind,yz,pure,tp,d,Obj.isChan]at f
   grind
def Wc.over(f:L[j]? =N (l,.loop r))(n:r.1≠.busy)(hp:r.2=X)(h:Wc P S m St K0 w0 (L.set j (l,.loop { r with state:=.exhausted })) (G (b.at a k) cs)):Wc P S m St K0 w0 L (G (b.at a (.endRangeFunc l::k)) cs):=
 .step R λw p=>by
  have c:=lA p f;have g:=run_endLoop (P:=P) (w:=w) c n;rw[hp]at g;refine⟨_,_,seen P b.1 ((qal l).events P w #[]),_,?_,.put p f λe d=>zA f ?_ e (mem_seen d),h⟩
  .simp[G,vi,stepG.exec,Frame.at,X2,g,hp,zv]
  .have c:w.1[l]? =N (.loop r):=c;intro e d;simp[-X2,Sem.events,qal,Yz,getObj,setObj,bind,yz,pure,tp,c,n,Obj.isChan]at d
   grind
def Wc.takes{d ds}(g:L[j]? =N (d,uu (N [])))(s:fr.5=Yi)(q:fr.4={ target:=.collected d,args:=#[] }::ds)(h:Wc P S m St K0 w0 (L.set j (d,uu X)) (G { fr with defers:=ds } cs)):Wc P S m St K0 w0 L (G fr cs):=
 .step R λw n=>by
  have c:=lA n g;have p:=run_takeDeferred (P:=P) (w:=w) c;refine⟨_,_,seen P fr.1 ((Zt d).events P w #[]),_,?_,.put n g λe f=>zA g ?_ e (mem_seen f),h⟩
  .simp[G,vi,unwind,s,q,X2,p,zv]
  .have c:w.1[d]? =N (uu (N [])):=c;intro e f;simp[-X2,Sem.events,Zt,getObj,setObj,bind,yz,pure,tp,c,Obj.isChan]at f
   grind
def Wc.yield{y xs q}(n:L[j]? =N (l,.loop r))(x:ops[i]? =N o)(hw:sy o (yielded ops a.1)=pw)(u:b.6≠.early)(z:o.2=.call { callee:=.value y,args:=xs,argTypes:=q })(A:a.eval y=.func (.yield l) #[] #[])(f:qd xs=qd r.5)(h:Wc P S m St K0 w0 L (G (Frame.round l r.3 ((r.5.zip (xs.map a.eval)).foldl (λtmps (t,a)=>qb tmps t a) r.4) r.6 r.7 .normal) (b.at a (ri ops (i::rest)::k)::cs))):Wc P S m St K0 w0 L (G (b.at a (ri ops (i::rest)::k)) cs):=
 .step R λw p=>by
  have c:=lA p n;have s:=run_yield (P:=P) (w:=w) (args:=xs.map a.eval) c mw;have t:(b.6 == qaw)=pi:=by simpa using u
  have g:rj a.eval o=Instr.yield l (xs.map a.eval):=by
   unfold rj;simp only[z,resolve,A];simp[Deferred.ofValue,invoke]
  refine⟨_,w,listed P b.1 a o w,L,?_,.still p λe d=>zA n ?_ e (ym d),h⟩
  .rw[stepG_oper x hw];simp[stepG.apply,g,X2,s,t,Frame.at,listed,zv,G]
  .have c:w.1[l]? =N (.loop r):=c;intro e d;rw[g]at d;have B:¬qd (xs.map a.eval)≠qd r.5:=by simpa using f
   simp[-X2,Sem.events,Instr.yield,Yz,getObj,bind,yz,pure,tp,c,f,Obj.isChan]at d
   grind
def Wc.range{t ps assign body f c cap}(E:a.1[t]? =N (.func (.func f) #[] cap))(D:P.2[f]? =N fn)(J:(fn.1 == "runtime.NumGoroutine")=pi)(B:fn.9=N c)(h:∀n,Wc P S m St K0 w0 ((n+1,.loop { state:=.ready,pending:=X,fn:=b.1,tmps:=a.1,params:=ps,assign,body,defers:=n })::(n,uu (N []))::L) (G ((base f).at ⟨#[.func (.yield (n+1)) #[] #[]]++cap++wy (fn.7-qd (#[.func (.yield (n+1)) #[] #[]]++cap:Array po)) p8,[]⟩ [.code c]) (b.at { a with defers:={ target:=.collected n,args:=#[] }::a.2 } (.inRangeFunc (n+1)::k)::cs))):Wc P S m St K0 w0 L (G (b.at a (.code (.rangeFunc (.tmp t) ps assign body)::k)) cs):=
 .step R λw q=>by
  obtain⟨g,u⟩:∃g,g=Obj.deferred (N []):=⟨_,R⟩
  obtain⟨n,y⟩:∃n,n=Obj.loop { state:=.ready,pending:=X,fn:=b.1,tmps:=a.1,params:=ps,assign,body,defers:=w.1.size }:=⟨_,R⟩
  have Q:(o6 (o6 w g) n).1.size=w.1.size+2:=aC
  have hold:∀x<w.1.size,(o6 (o6 w g) n).1[x]? =w.1[x]?:=λx A=>by
   show((w.1.push g).push n)[x]? =w.1[x]?
   grind
  have F:(o6 (o6 w g) n).1[w.1.size]? =N g:=by
   show((w.1.push g).push n)[w.1.size]? =N g
   rw[Array.getElem?_push_lt aC];simp
  have I:(o6 (o6 w g) n).1[w.1.size+1]? =N n:=by
   have:=YZ (o6 w g) n;exact ir
  refine⟨_,o6 (o6 w g) n,#[],_,?_,⟨R,R,R,aA,λx A _=>hold x A,λp d=>?_,?_,λe s=>by simp at s⟩,h ↑w⟩
  .have s:=run_enterLoop_outer (P:=P) (w:=w) b.1 a.1 ps assign body;have C:(ZR b.1 a.1 ps assign body X).events P w #[]=#[]:=by simp[-X2,Sem.events,ZR,newObj,bind,yz,pure,tp]
   have O:¬fn.1= "runtime.NumGoroutine":=by simpa using J
   have z:=Frame.eval_at' b { a with defers:={ target:=.collected ↑w,args:=#[] }::a.2 } (.inRangeFunc (w.1.size+1)::k);simp only[Frame.at]at z;simp[G,vi,stepG.exec,Frame.at,X2,s,C,stepG.apply,resolve,z,E,p7,Deferred.ofValue,invoke,callFunc,D,O,B,Frame.enter,base,zv,seen,u,y]
  .obtain rfl|d:=bM.1 d
   .exact⟨rz ⟨aC,by simp only;omega⟩,by rw[<-y];exact I⟩
   obtain rfl|d:=bM.1 d
   .exact⟨rz ⟨fI,by simp only;omega⟩,by rw[<-u];exact F⟩
   .exact⟨rr ⟨p,d,R⟩,oy (hold _ (q.lt d)) (q.2 p d).2⟩
  .refine List.pairwise_cons.2 ⟨λp d=>?_,List.pairwise_cons.2 ⟨λp d=>eH (q.lt d),q.3⟩⟩;obtain rfl|d:=bM.1 d
   .omega
   .exact eH (Nat.lt_succ_of_lt (q.lt d))
end
end
end Cr
