import Derived.Test.YtpibpdpedjinhabGreatDoorP02
import Derived.Conc.CompanyDraw
set_option maxRecDepth 100000
set_option maxHeartbeats 8000000
set_option linter.all false
open Bool renaming false->aR,true->bB
open Go renaming Frame->cT,Goroutine->cA,Program->cU,World->X,undef->aH
open Go.Conc renaming Goes->iA,aside_setCell->ir,stepG_block->pA,stepG_region_end->bA,stepG_ret'->lE,stepG_seq->cE,stepG_skip->ij
open Go.Conc.Goes renaming stop->cL
open Go.Item renaming inRegion->bR
open Go.Region renaming ready->fL,wanted->cS
open Go.Region.linearise renaming go->mK
namespace Go.Proofs.YtpibpdpedjinhabGreatDoor
namespace Cr
open Go Go.Conc Go.ConcN Go.RowKit Go.Conc.Lib Go.ConcR.Gen Go.ConcN.Gen
open Go.ConcR (KK wgBlock WgAt stA smA rd wr Payload DC0)
section
variable {P:cU}
section
variable [Payload]{L:WgLink}{Wg C n lo:Nat}{Fin:kC->cA->X->Prop}{Fk:kC->X->Prop}
 {b₀:cT} {a₀:Act} {ops₀:Array Oper} {i₀:Nat} {rest₀:List Nat} {k₀:List Item} {cs:List cT}
omit [Payload] in
def Jt(L:WgLink)(Fk:kC->X->Prop)(Wg:Nat)(c:cT)(cs:List cT)(K:kC)(g:cA)(w:X):Prop:=
 ∃T:Array Value,g=G ((base L.wait).at ⟨T,[]⟩ [.code (L7 L),.inLoop (L7 L),.inBlock 0]) (c::cs)/\T.size=84/\T[0]? =some (.pointer (some ⟨Wg,0,none⟩))/\Fk K w/\WgLive L.tWg Wg w
def waitRound(H:WgLib P L)(z:∀K w w',En ⟨Wg,C,n,L.tWg,lo⟩ none K w w'->Fk K w->Fk K w')(an:∀K w w',Aside Wg w w'->Fk K w->Fk K w')(hT:∀K w,Fk K w/\WgLive L.tWg Wg w->Way P ⟨Wg,C,n,L.tWg,lo⟩ Fin K (G (b₀.at (a₀.put ((ops₀[i₀]?).bind (·.dst)) (.tuple #[])) (bR ops₀ rest₀::k₀)) cs) w)(K:kC)(g:cA)(w:X)(h:Jt L Fk Wg (b₀.at a₀ (bR ops₀ (i₀::rest₀)::k₀)) cs K g w):Way P ⟨Wg,C,n,L.tWg,lo⟩ (tV P ⟨Wg,C,n,L.tWg,lo⟩ Fin (Jt L Fk Wg (b₀.at a₀ (bR ops₀ (i₀::rest₀)::k₀)) cs)) K g w:=by
 lib_facts
 obtain⟨T,rfl,ai,t0,E⟩:=h;obtain⟨v0,v1,v2,v3,v4,v5,v6,v7,v8,v9,b7,a8,cq,au,cj,ay,a5,bz,c6,bq,bk,av,c3,de,a4,cx,cn,bm,cz,bs,bg,ca,ar,c5,bj,a7,db,c4,cm,bd,ba,bb,cu,bp,b8,a9,az,ct,ci,cl,b6,cp,b5,bu,a0,ce,co,cd,bn,c2,bl,c9,b3,cc,cf,aw,a3,a6,ck,cg,cy,b9,cv,dd,bo,b4,dg,br,a2,cb,cr,bw,bv,bh,rfl⟩:=array84 T ai;simp only[eX,dX,aK]at t0;subst t0;simp only[L7,body_wait,waitFn,fH];refine Way.go (n:=100) ?_;u_c pA (jA (z K)) E;u_c cE (jA (z K)) E;u_reg (jA (z K)) E
 iterate 3 u_op (jA (z K)) E
 u_call H.f_uLoad (nm_uLoad L) uLoadFn (jA (z K)) E;u_c cE (jA (z K)) E;u_reg (jA (z K)) E;u_op (jA (z K)) E;u_c bA (jA (z K)) E;u_c cE (jA (z K)) E;u_reg (jA (z K)) E
 iterate 3 u_op (jA (z K)) E
 refine cL (λaq I=>Way.stop λam J=>?_);replace E:=jA (z K) (jA (z K) E I) J;clear I J;refine⟨rfl,λv hv hw=>?_⟩;obtain rfl|b0:=gQ v
 .replace hw:WgAt L.tWg Wg am 0 0:=by simpa using hw
  refine⟨_,stepG_load_atomic (v:=0) rfl rfl (by k_ne) rfl H.f_loadU64 (x_loadU64_n L) (x_loadU64_b L) (x_loadU64_x L) _ (x_loadU64_f L) rfl hw.cellSt,λ_=>?_,λh=>Xs rfl h⟩;clear hw;walk_nrm;refine Way.go (n:=100) ?_;u_op (jA (z K)) E;u_c bA (jA (z K)) E;u_c lE (jA (z K)) E;u_leave1 H.f_uLoad (jA (z K)) E;u_op (jA (z K)) E;u_c bA (jA (z K)) E;u_c cE (jA (z K)) E;u_reg (jA (z K)) E
  iterate 4 u_op (jA (z K)) E
  u_c bA (jA (z K)) E;u_c cE (jA (z K)) E;u_reg (jA (z K)) E
  iterate 4 u_op (jA (z K)) E
  u_c bA (jA (z K)) E
  iterate 2 u_c cE (jA (z K)) E
  u_reg (jA (z K)) E
  iterate 2 u_op (jA (z K)) E
  u_c bA (jA (z K)) E;u_cond bB (jA (z K)) E;u_c cE (jA (z K)) E;u_cond bB (jA (z K)) E;u_c cE (jA (z K)) E;u_reg (jA (z K)) E;refine cL (λag I=>Way.stop λaf J=>?_);replace E:=jA (z K) (jA (z K) E I) J;clear I J;refine⟨rfl,_,stepG_mark0 _ aC rfl rfl (by k_ne) rfl H.f_enable (x_enable_n L) (x_enable_b L) (x_enable_x L) (x_enable_f L),?_⟩;walk_nrm;refine Way.go (n:=40) ?_;u_c bA (jA (z K)) E;u_reg (jA (z K)) E;u_op (jA (z K)) E;u_conv H.underlying_tWgP H.room_tWg (WgLive.cell0 E.2).choose_spec (jA (z K)) E;refine cL (λak I=>Way.stop λaj J=>?_);replace E:=jA (z K) (jA (z K) E I) J;clear I J;refine⟨rfl,_,stepG_markAt _ aC rfl rfl (by k_ne) rfl H.f_acquire (x_acquire_n L) (x_acquire_b L) (x_acquire_x L) (x_acquire_f L) (by simp[Act.eval,stA]),?_⟩;walk_nrm;refine Way.go (n:=60) ?_;u_c bA (jA (z K)) E
  iterate 2 u_c cE (jA (z K)) E
  u_reg (jA (z K)) E
  iterate 8 u_op (jA (z K)) E
  iterate 2 u_skip (jA (z K)) E
  u_op (jA (z K)) E;u_c bA (jA (z K)) E;u_cond aR (jA (z K)) E;u_c ij (jA (z K)) E;u_c lE (jA (z K)) E;u_leave0 H.f_wait (jA (z K)) E;exact cL λao ae=>hT _ _ (jA (z K) E ae)
 .obtain⟨S,hS⟩:∃S:Int,(v:Int)*KK=S:=⟨_,rfl⟩
  have a1:S/4294967296=(v:Int):=by rw[<-hS];simp only[KK];omega
  have b1:bits .and .u64 S 2147483648=0:=by rw[<-hS];have:=st_flag v 0 aA aA;simpa[KK]using this
  have b2:bits .and .u64 S 2147483647=0:=by rw[<-hS];have:=st_waiters v 0 aA aA;simpa[KK]using this
  have c1:IntKind.i32.wrap (v:Int)=v:=by rw[IntKind.wrap_i32];omega
  have w1:IntKind.u64.wrap (S+1)=S+1:=by rw[IntKind.wrap_u64,<-hS];simp only[KK];omega
  have q3:decide ((v:Int)<0)=aR:=ZZ aA;have q4:decide (0<(v:Int))=bB:=Z0 aA;have q5:((v:Int) == 0)=aR:=aF
  have q6:decide ((v:Int)=0)=aR:=ZZ aA;simp only[hS]at hw;refine⟨_,stepG_load_atomic (v:=S) rfl rfl (by k_ne) rfl H.f_loadU64 (x_loadU64_n L) (x_loadU64_b L) (x_loadU64_x L) _ (x_loadU64_f L) rfl hw.cellSt,λh0=>Xs h0 aA,λ_=>?_⟩;clear hw;walk_nrm;refine Way.go (n:=100) ?_;u_op (jA (z K)) E;u_c bA (jA (z K)) E;u_c lE (jA (z K)) E;u_leave1 H.f_uLoad (jA (z K)) E;u_op (jA (z K)) E;u_c bA (jA (z K)) E;u_c cE (jA (z K)) E;u_reg (jA (z K)) E
  iterate 4 u_op (jA (z K)) E
  u_c bA (jA (z K)) E;u_c cE (jA (z K)) E;u_reg (jA (z K)) E
  iterate 4 u_op (jA (z K)) E
  u_c bA (jA (z K)) E
  iterate 2 u_c cE (jA (z K)) E
  u_reg (jA (z K)) E
  iterate 2 u_op (jA (z K)) E
  u_c bA (jA (z K)) E;u_cnd aR (jA (z K)) E;u_c ij (jA (z K)) E;u_c cE (jA (z K)) E;u_reg (jA (z K)) E
  iterate 6 u_op (jA (z K)) E
  u_call H.f_uCas (nm_uCas L) uCasFn (jA (z K)) E;u_c cE (jA (z K)) E;u_reg (jA (z K)) E;u_op (jA (z K)) E;u_c bA (jA (z K)) E;u_c cE (jA (z K)) E;u_reg (jA (z K)) E
  iterate 5 u_op (jA (z K)) E
  refine cL (λap I=>Way.stop λac J=>?_);replace E:=jA (z K) (jA (z K) E I) J;clear I J;refine⟨rfl,λv' cw hw=>⟨λe=>?_,λe=>?_⟩⟩
  .subst e;simp only[hS]at hw⊢;refine⟨_,(stepG_cas_hit (v:=S) (n:=S+1) rfl rfl (by k_ne) rfl H.f_casU64 (x_casU64_n L) (x_casU64_b L) (x_casU64_x L) _ (x_casU64_f L) rfl rfl rfl hw.cellSt (hw.thaw 0)).trans (by rfl),?_⟩;replace E:Fk K (ac.setCell (stA Wg) (.int .u64 (S+1)))/\WgLive L.tWg Wg (ac.setCell (stA Wg) (.int .u64 (S+1))):=⟨an _ _ _ (ir ac (stA Wg) _) E.1,⟨_,_,hw.setSt _⟩⟩
   clear hw;walk_nrm;refine Way.go (n:=100) ?_;u_op (jA (z K)) E;u_c bA (jA (z K)) E;u_c lE (jA (z K)) E;u_leave1 H.f_uCas (jA (z K)) E;u_c bA (jA (z K)) E;u_cond bB (jA (z K)) E
   iterate 2 u_c cE (jA (z K)) E
   u_reg (jA (z K)) E
   iterate 4 u_op (jA (z K)) E
   u_c bA (jA (z K)) E;u_cond bB (jA (z K)) E;u_reg (jA (z K)) E
   iterate 3 u_op (jA (z K)) E
   u_conv H.underlying_tPU32 H.room_tU32 (WgLive.cell1 E.2).choose_spec (jA (z K)) E;refine cL (λah aa=>?_);replace E:=jA (z K) E aa;clear aa;refine Way.said rfl (.inr rfl) (λR Y=>stepG_markAt _ aC rfl rfl (by k_ne) rfl H.f_raceWrite (x_raceWrite_n L) (x_raceWrite_b L) (x_raceWrite_x L) (x_raceWrite_f L) (ad:=⟨_,1,none⟩) (by simp[Act.eval]<;>rfl)) (λR Y=>?_);replace E:=jA (z K) E Y;clear Y;walk_nrm;refine Way.go (n:=100) ?_;u_c bA (jA (z K)) E;u_c cE (jA (z K)) E;u_reg (jA (z K)) E;u_op (jA (z K)) E;u_c bA (jA (z K)) E
   iterate 2 u_c cE (jA (z K)) E
   u_reg (jA (z K)) E
   iterate 4 u_op (jA (z K)) E
   u_skip (jA (z K)) E;u_op (jA (z K)) E;u_c bA (jA (z K)) E;u_cond aR (jA (z K)) E;u_c ij (jA (z K)) E;u_c cE (jA (z K)) E;u_reg (jA (z K)) E
   iterate 4 u_op (jA (z K)) E
   refine cL (λah I=>Way.stop λR J=>?_);replace E:=jA (z K) (jA (z K) E I) J;clear I J;refine⟨rfl,rfl,λ⟨st,hw⟩=>stepG_semacquire_wait rfl rfl rfl H.f_semacquire (x_semacquire_n L) (x_semacquire_b L) (x_semacquire_x L) (x_semacquire_f L) (by simp[Act.eval,smA]) hw.cellSm,λhf=>?_⟩;refine⟨_,(stepG_semacquire (n:=1) rfl rfl (by k_ne) rfl H.f_semacquire (x_semacquire_n L) (x_semacquire_b L) (x_semacquire_x L) (x_semacquire_f L) (by simp[Act.eval,smA]) hf.cellSm (by k_ne) (hf.thaw 1)).trans (by rfl),?_⟩;replace E:Fk K (R.setCell (smA Wg) (.int .u32 0))/\WgLive L.tWg Wg (R.setCell (smA Wg) (.int .u32 0)):=⟨an _ _ _ (ir R (smA Wg) _) E.1,⟨_,_,hf.setSm 0⟩⟩
   clear hf;walk_nrm;refine Way.go (n:=100) ?_;u_c bA (jA (z K)) E;u_c cE (jA (z K)) E;u_reg (jA (z K)) E
   iterate 3 u_op (jA (z K)) E
   u_call H.f_uLoad (nm_uLoad L) uLoadFn (jA (z K)) E;u_c cE (jA (z K)) E;u_reg (jA (z K)) E;u_op (jA (z K)) E;u_c bA (jA (z K)) E;u_c cE (jA (z K)) E;u_reg (jA (z K)) E
   iterate 3 u_op (jA (z K)) E
   refine cL (λag I=>Way.stop λaf J=>?_);replace E:=jA (z K) (jA (z K) E I) J;clear I J;refine⟨rfl,λhw=>⟨_,stepG_load_atomic (v:=0) rfl rfl (by k_ne) rfl H.f_loadU64 (x_loadU64_n L) (x_loadU64_b L) (x_loadU64_x L) _ (x_loadU64_f L) rfl hw.cellSt,?_⟩⟩;clear hw;walk_nrm;refine Way.go (n:=100) ?_;u_op (jA (z K)) E;u_c bA (jA (z K)) E;u_c lE (jA (z K)) E;u_leave1 H.f_uLoad (jA (z K)) E
   iterate 2 u_op (jA (z K)) E
   u_c bA (jA (z K)) E;u_c cE (jA (z K)) E;u_cond bB (jA (z K)) E;u_c cE (jA (z K)) E;u_reg (jA (z K)) E;refine cL (λag I=>Way.stop λaf J=>?_);replace E:=jA (z K) (jA (z K) E I) J;clear I J;refine⟨rfl,_,stepG_mark0 _ aC rfl rfl (by k_ne) rfl H.f_enable (x_enable_n L) (x_enable_b L) (x_enable_x L) (x_enable_f L),?_⟩;walk_nrm;refine Way.go (n:=40) ?_;u_c bA (jA (z K)) E;u_reg (jA (z K)) E;u_op (jA (z K)) E;u_conv H.underlying_tWgP H.room_tWg (WgLive.cell0 E.2).choose_spec (jA (z K)) E;refine cL (λak I=>Way.stop λaj J=>?_);replace E:=jA (z K) (jA (z K) E I) J;clear I J;refine⟨rfl,_,stepG_markAt _ aC rfl rfl (by k_ne) rfl H.f_acquire (x_acquire_n L) (x_acquire_b L) (x_acquire_x L) (x_acquire_f L) (by simp[Act.eval,stA]),?_⟩;walk_nrm;refine Way.go (n:=60) ?_;u_c bA (jA (z K)) E
   iterate 2 u_c cE (jA (z K)) E
   u_reg (jA (z K)) E;u_op (jA (z K)) E;u_c bA (jA (z K)) E;u_cond aR (jA (z K)) E;u_c ij (jA (z K)) E;u_c lE (jA (z K)) E;u_leave0 H.f_wait (jA (z K)) E;exact cL λao ae=>hT _ _ (jA (z K) E ae)
  .refine⟨_,stepG_cas_miss (v:=v'*KK) (old:=S) (n:=S+1) rfl rfl (by k_ne) rfl H.f_casU64 (x_casU64_n L) (x_casU64_b L) (x_casU64_x L) _ (x_casU64_f L) rfl rfl rfl hw.cellSt (hw.thaw 0) (by rw[<-hS];simp only[KK];omega),?_⟩;clear hw;walk_nrm;refine Way.go (n:=100) ?_;u_op (jA (z K)) E;u_c bA (jA (z K)) E;u_c lE (jA (z K)) E;u_leave1 H.f_uCas (jA (z K)) E;u_c bA (jA (z K)) E;u_cond aR (jA (z K)) E;u_c ij (jA (z K)) E;u_c stepG_inBlock (jA (z K)) E;u_c stepG_inLoop (jA (z K)) E;refine cL (λah aa=>Way.stop λR Y=>?_);exact⟨_,rfl,aC,aC,jA (z K) (jA (z K) E aa) Y⟩
def waitStart(H:WgLib P L)(z:∀K w w',En ⟨Wg,C,n,L.tWg,lo⟩ none K w w'->Fk K w->Fk K w')(K:kC)(w:X)(E:Fk K w/\WgLive L.tWg Wg w):Way P ⟨Wg,C,n,L.tWg,lo⟩ (zy P ⟨Wg,C,n,L.tWg,lo⟩ (Jt L Fk Wg (b₀.at a₀ (bR ops₀ (i₀::rest₀)::k₀)) cs)) K (G ((base L.wait).at ⟨#[.pointer (some ⟨Wg,0,none⟩),aH,aH,aH,aH,aH,aH,aH,aH,aH,aH,aH,aH,aH,aH,aH,aH,aH,aH,aH,aH,aH,aH,aH,aH,aH,aH,aH,aH,aH,aH,aH,aH,aH,aH,aH,aH,aH,aH,aH,aH,aH,aH,aH,aH,aH,aH,aH,aH,aH,aH,aH,aH,aH,aH,aH,aH,aH,aH,aH,aH,aH,aH,aH,aH,aH,aH,aH,aH,aH,aH,aH,aH,aH,aH,aH,aH,aH,aH,aH,aH,aH,aH,aH],[]⟩ [.code (body_wait L)]) (b₀.at a₀ (bR ops₀ (i₀::rest₀)::k₀)::cs)) w:=by
 lib_facts
 simp only[body_wait,waitFn,fH];refine Way.go (n:=10) ?_;u_c cE (jA (z K)) E;u_cond bB (jA (z K)) E;u_reg (jA (z K)) E;refine cL (λae I=>Way.stop λac J=>?_);replace E:=jA (z K) (jA (z K) E I) J;clear I J;refine⟨rfl,_,stepG_mark0 _ aC rfl rfl (by k_ne) rfl H.f_disable (x_disable_n L) (x_disable_b L) (x_disable_x L) (x_disable_f L),?_⟩;walk_nrm;refine Way.go (n:=10) ?_;u_c bA (jA (z K)) E;u_c pA (jA (z K)) E;u_c stepG_loop (jA (z K)) E;exact cL (λaa R=>Way.stop λaf Y=>⟨_,rfl,aC,aC,jA (z K) (jA (z K) E R) Y⟩)
end
end
open Go Go.Conc Go.ConcN
section
variable {es:Array Event}{v:Value}
section
variable [Payload]{P:cU}{main:Bool}{S:Who}{me:Option Nat}{K:kC}{St St':kC->cA->X->Prop}{g:cA}{w w':X}
def kY(P:cU)(main:Bool)(S:Who)(me:Option Nat)(St:kC->cA->X->Prop)(K:kC)(g:cA)(w:X):Prop:=∃T,jT P main S me St T K g w
def kY.go{n:Nat}(h:iA P main (En S me K) DC0 (λg w=>kY P main S me St K g w) n g w):kY P main S me St K g w:=by obtain⟨T,z⟩:=jT.QA (λ_ _ x=>x) h;exact z.bind λE g w ⟨e,hw⟩=>by rw[e];exact hw
def kY.stop(h:∀z,En S me K w z->St K g z):kY P main S me St K g w:=jT.stop h
def kY.step(hs:g.status=.running)(h:∀z,En S me K w z->∃g' w' es,stepG P main g z=.go g' w' es/\Gu S me K z w' es/\kY P main S me St (K.grow z.heap.size w'.heap.size) g' w'):kY P main S me St K g w:=jT.one hs h
def Way.m(h:kY P bB S none St K g w):Way P S St K g w:=h
section
variable {b:cT}{a:Act}{k:List Item}{cs:List cT}{ops:Array Oper}{i:Nat}{rest:List Nat}{o:Oper}
def kY.op(I:ops[i]? =some o)(hw:cS o (yielded ops a.tmps)=bB)(hk:b.kind≠.early)(h:∀z,En S me K w z->∃v w',(execOp a.eval o).run P z=.ok (.value v) w'/\Gu S me K z w' (listed P b.fn a o z)/\kY P main S me St (K.grow z.heap.size w'.heap.size) (G (b.at (a.put o.dst v) (bR ops rest::k)) cs) w'):kY P main S me St K (G (b.at a (bR ops (i::rest)::k)) cs) w:=
 .step rfl λz E=>let ⟨_,w',hr,hg,hW⟩:=h z E;⟨_,w',_,stepG_value I hw hk hr,hg,hW⟩
def kY.opn(I:ops[i]? =some o)(hw:cS o (yielded ops a.tmps)=bB)(hk:b.kind≠.early)(h:∀z,En S me K w z->∃w',(execOp a.eval o).run P z=.ok .skip w'/\Gu S me K z w' (listed P b.fn a o z)/\kY P main S me St (K.grow z.heap.size w'.heap.size) (G (b.at (a.put o.dst aH) (bR ops rest::k)) cs) w'):kY P main S me St K (G (b.at a (bR ops (i::rest)::k)) cs) w:=
 .step rfl λz E=>let ⟨w',hr,hg,hW⟩:=h z E;⟨_,w',_,stepG_none I hw hk hr,hg,hW⟩
def kY.draw{I:Nat}(h:∀z,En S me K w z->∀t,kY P main S me St K (G (b.at a (bR ops (Region.schedule (P.follows .mixedOrders) ops t)::k)) cs) { z with drawn:=z.drawn+1 }):kY P main S me St K (G (b.at a (.code (.region I ops bB)::k)) cs) w:=
 .step rfl λz E=>⟨_,_,_,stepG_region_draw,⟨rfl,rfl,rfl,jB,λ_ _ _ _=>rfl,id,λ_ _=>rfl,λe J=>by simp at J⟩,by
  rw[show K.grow z.heap.size ({ z with drawn:=z.drawn+1 }:X).heap.size=K from kR ..];exact h z E _⟩
end
def su(h:∀e∈es,∃a:Addr,e=⟨.cell a,aR,aR⟩/\K.O a.block/\a.block<w.heap.size):Gu S me K w w es:=
 ⟨rfl,rfl,rfl,jB,λ_ _ _ _=>rfl,id,λ_ _=>rfl,λe z=>by
  obtain⟨a,rfl,E,h2⟩:=h e z;exact .inl (.inl ⟨a,aR,rfl,.inl (by simpa using E),h2⟩)⟩
def KC(hC:S.C<w.heap.size)(o:Obj):Gu S me K w (w.alloc o) #[]:=by
 have z:∀b,b<w.heap.size->(w.alloc o).heap[b]? =w.heap[b]?:=λb z=>by
  show(w.heap.push o)[b]? =w.heap[b]?
  grind
 exact⟨rfl,rfl,rfl,aC,λb h _ _=>z b h,λ⟨cs,I,h2⟩=>⟨cs,(z _ hC).trans I,h2⟩,λi _=>by simp only[World.cell?,z _ hC],λe E=>by simp at E⟩
omit [Payload] in
def kL{ad:Addr}{b:Nat}(h:b≠ad.block):(w.setCell ad v).heap[b]? =w.heap[b]?:=(ir w ad v).block b h
omit [Payload] in
def kE(w:X)(ad:Addr)(v:Value):(w.setCell ad v).tape=w.tape/\(w.setCell ad v).os=w.os/\(w.setCell ad v).output=w.output/\(w.setCell ad v).heap.size=w.heap.size:=
 have h:=ir w ad v;⟨h.tape,h.os,h.output,h.size⟩
def Wx{ad:Addr}(z:K.W ad.block)(E:ad.block<w.heap.size)(hC:ad.block≠S.C)(h:∀e∈es,e=⟨.cell ad,bB,aR⟩):Gu S me K w (w.setCell ad v) es:=by obtain⟨J,h2,h3,h4⟩:=kE w ad v;have hc:=kL (w:=w) (ad:=ad) (v:=v) (b:=S.C) (Ne.symm hC);refine⟨J,h2,h3,jq h4.symm,λb _ R _=>kL λe=>R (e ▸ z),λ⟨cs,a,b⟩=>⟨cs,hc.trans a,b⟩,λi _=>by simp only[World.cell?,hc],λe I=>?_⟩;rw[h e I];exact .inl (.inl ⟨ad,bB,rfl,.inl (by simpa using z),by rw[h4];exact E⟩)
def acG{i:Nat}(hp:PayAt S.C S.n w)(h:∀e∈es,e=⟨.cell ⟨S.C,i,none⟩,bB,aR⟩):Gu S (some i) K w (w.setCell ⟨S.C,i,none⟩ v) es:=by
 obtain⟨R,h2,h3,h4⟩:=kE w ⟨S.C,i,none⟩ v;obtain⟨cs,z,Y⟩:=hp
 have hw:(w.setCell ⟨S.C,i,none⟩ v).heap[S.C]? =some (.cells (cs.setIfInBounds i v) Payload.ety):=by
  have J:=(jE z)
  simp[World.setCell,bT,z]
 refine⟨R,h2,h3,jq h4.symm,λb _ _ hc=>kL λe=>?_,λ_=>⟨_,hw,by simpa using Y⟩,λi' I=>?_,λe he=>?_⟩
 .grind
 .have E:i≠i':=λe=>I (by rw[e]);simp[World.cell?,hw,z,dZ E]
 .rw[h e he];exact .inr (.inl ⟨i,bB,rfl,rfl⟩)
end
def Gh{σ:Type}{md:Region.Mode}{ops:Array Oper}(I:Nat->Array Bool->σ->Prop)(XX:List Nat->σ->Prop)(done:∀listed s,I 0 listed s->XX [] s)(more:∀z listed s,I (z+1) listed s->fL md ops listed≠[]/\∀i∈fL md ops listed,∀rest,(∀s',I z (listed.setIfInBounds i bB) s'->XX rest s')->XX (i::rest) s):∀(z t:Nat)(listed:Array Bool)(s:σ),I z listed s->XX (mK md ops z t listed []) s:=by
 intro z
 induction z with
 |zero=>intro t listed s h;exact done listed s h
 |succ z ih=>
  intro t listed s h;obtain⟨R,Y⟩:=more z listed s h;simp only[mK]
  show XX (match (fL md ops listed)[t%(fL md ops listed).length]? with
   |some i=>mK md ops z (t/(fL md ops listed).length) (listed.setIfInBounds i bB) [i]
   |none=>[]) s
  have E:=List.length_pos_iff.2 R;have J:=Nat.mod_lt t E;rw[aO J];simp only;rw[linearise_go_acc,List.reverse_singleton,List.singleton_append]
  grind
end
end Cr
