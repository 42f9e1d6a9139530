import Derived.Test.YtpibpdpedjinhaaGreatDoorP02
import Derived.Conc.CompanyDraw
set_option maxRecDepth 100000
set_option maxHeartbeats 8000000
namespace Go.Proofs.YtpibpdpedjinhaaGreatDoor
namespace Cr
open Go Go.Conc Go.ConcN Go.RowKit Go.Conc.Lib Go.ConcR.Gen Go.ConcN.Gen
open Go.ConcR (KK wgBlock WgAt stA smA rd wr Payload DC0)
section
variable {P:Program}
section
variable [Payload]{L:WgLink}{Wg C n lo:Nat}{Fin:jU->Goroutine->World->Prop}{Fk:jU->World->Prop}
 {b₀:Frame} {a₀:Act} {ops₀:Array Oper} {i₀:Nat} {rest₀:List Nat} {k₀:List Item} {cs:List Frame}
omit [Payload] in
def Hw(L:WgLink)(Fk:jU->World->Prop)(Wg:Nat)(c:Frame)(cs:List Frame)(K:jU)(g:Goroutine)(w:World):Prop:=
 ∃T:Array Value,g=G ((base L.wait).at ⟨T,[]⟩ [.code (L7 L),.inLoop (L7 L),.inBlock 0]) (c::cs)/\T.size=84/\T[0]? =some (.pointer (some ⟨Wg,0,none⟩))/\Fk K w/\WgLive L.tWg Wg w
theorem waitRound(H:WgLib P L)(z:∀K w w',En ⟨Wg,C,n,L.tWg,lo⟩ none K w w'->Fk K w->Fk K w')(am:∀K w w',Aside Wg w w'->Fk K w->Fk K w')
  (hT:∀K w,Fk K w/\WgLive L.tWg Wg w->Way P ⟨Wg,C,n,L.tWg,lo⟩ Fin K (G (b₀.at (a₀.put ((ops₀[i₀]?).bind (·.dst)) (.tuple #[])) (.inRegion ops₀ rest₀::k₀)) cs) w)
  (K:jU) (g:Goroutine) (w:World) (h:Hw L Fk Wg (b₀.at a₀ (.inRegion ops₀ (i₀::rest₀)::k₀)) cs K g w):
  Way P ⟨Wg,C,n,L.tWg,lo⟩ (sQ P ⟨Wg,C,n,L.tWg,lo⟩ Fin (Hw L Fk Wg (b₀.at a₀ (.inRegion ops₀ (i₀::rest₀)::k₀)) cs)) K g w:=by
 lib_facts
 obtain⟨T,rfl,ah,t0,E⟩:=h;obtain⟨v0,v1,v2,v3,v4,v5,v6,v7,v8,v9,b4,a6,cn,ar,cf,aw,a3,bv,c3,bo,bh,au,cy,c9,a2,cu,ck,bk,cw,bq,bb,b7,aq,c2,bg,a5,c5,cz,cj,ba,a8,a9,cq,bn,b5,a7,ax,cp,ce,ci,b3,cm,b0,br,ay,cb,cl,ca,bl,cx,bj,c4,bx,b9,cc,av,a0,a4,cg,cd,cv,b6,cr,c6,bm,bz,db,bp,az,b8,co,bu,bs,bd,rfl⟩:=array84 T ah;simp only[dY,dQ,aC]at t0;subst t0;simp only[L7,body_wait,waitFn,fB];refine Way.go (n:=100) ?_;u_c stepG_block (jy (z K)) E;u_c stepG_seq (jy (z K)) E;u_reg (jy (z K)) E
 iterate 3 u_op (jy (z K)) E
 u_call H.f_uLoad (nm_uLoad L) uLoadFn (jy (z K)) E;u_c stepG_seq (jy (z K)) E;u_reg (jy (z K)) E;u_op (jy (z K)) E;u_c stepG_region_end (jy (z K)) E;u_c stepG_seq (jy (z K)) E;u_reg (jy (z K)) E
 iterate 3 u_op (jy (z K)) E
 refine Goes.stop (λap I=>Way.stop λak J=>?_);replace E:=jy (z K) (jy (z K) E I) J;clear I J;refine⟨rfl,λv hv hw=>?_⟩;rcases gB v with rfl|bw
 ·replace hw:WgAt L.tWg Wg ak 0 0:=by simpa using hw
  refine⟨_,stepG_load_atomic (v:=0) rfl rfl (by k_ne) rfl H.f_loadU64 (x_loadU64_n L) (x_loadU64_b L) (x_loadU64_x L) .u64 (x_loadU64_f L) rfl hw.cellSt,λ_=>?_,λh=>absurd rfl h⟩;clear hw;walk_nrm;refine Way.go (n:=100) ?_;u_op (jy (z K)) E;u_c stepG_region_end (jy (z K)) E;u_c stepG_ret' (jy (z K)) E;u_leave1 H.f_uLoad (jy (z K)) E;u_op (jy (z K)) E;u_c stepG_region_end (jy (z K)) E;u_c stepG_seq (jy (z K)) E;u_reg (jy (z K)) E
  iterate 4 u_op (jy (z K)) E
  u_c stepG_region_end (jy (z K)) E;u_c stepG_seq (jy (z K)) E;u_reg (jy (z K)) E
  iterate 4 u_op (jy (z K)) E
  u_c stepG_region_end (jy (z K)) E
  iterate 2 u_c stepG_seq (jy (z K)) E
  u_reg (jy (z K)) E
  iterate 2 u_op (jy (z K)) E
  u_c stepG_region_end (jy (z K)) E;u_cond true (jy (z K)) E;u_c stepG_seq (jy (z K)) E;u_cond true (jy (z K)) E;u_c stepG_seq (jy (z K)) E;u_reg (jy (z K)) E;refine Goes.stop (λaf I=>Way.stop λae J=>?_);replace E:=jy (z K) (jy (z K) E I) J;clear I J;refine⟨rfl,_,stepG_mark0 .enable (by simp) rfl rfl (by k_ne) rfl H.f_enable (x_enable_n L) (x_enable_b L) (x_enable_x L) (x_enable_f L),?_⟩;walk_nrm;refine Way.go (n:=40) ?_;u_c stepG_region_end (jy (z K)) E;u_reg (jy (z K)) E;u_op (jy (z K)) E;u_conv H.underlying_tWgP H.room_tWg (WgLive.cell0 E.2).choose_spec (jy (z K)) E;refine Goes.stop (λaj I=>Way.stop λai J=>?_);replace E:=jy (z K) (jy (z K) E I) J;clear I J;refine⟨rfl,_,stepG_markAt .acquire (by simp) rfl rfl (by k_ne) rfl H.f_acquire (x_acquire_n L) (x_acquire_b L) (x_acquire_x L) (x_acquire_f L) (by simp[Act.eval,stA]),?_⟩;walk_nrm;refine Way.go (n:=60) ?_;u_c stepG_region_end (jy (z K)) E
  iterate 2 u_c stepG_seq (jy (z K)) E
  u_reg (jy (z K)) E
  iterate 8 u_op (jy (z K)) E
  iterate 2 u_skip (jy (z K)) E
  u_op (jy (z K)) E;u_c stepG_region_end (jy (z K)) E;u_cond false (jy (z K)) E;u_c stepG_skip (jy (z K)) E;u_c stepG_ret' (jy (z K)) E;u_leave0 H.f_wait (jy (z K)) E;exact Goes.stop λan ac=>hT _ _ (jy (z K) E ac)
 ·obtain⟨S,hS⟩:∃S:Int,(v:Int)*KK=S:=⟨_,rfl⟩
  have a1:S/4294967296=(v:Int):=by rw[<-hS];simp only[KK];omega
  have b1:bits .and .u64 S 2147483648=0:=by rw[<-hS];have:=st_flag v 0 (by omega) (by omega);simpa[KK]using this
  have b2:bits .and .u64 S 2147483647=0:=by rw[<-hS];have:=st_waiters v 0 (by omega) (by omega);simpa[KK]using this
  have c1:IntKind.i32.wrap (v:Int)=v:=by rw[IntKind.wrap_i32];omega
  have w1:IntKind.u64.wrap (S+1)=S+1:=by rw[IntKind.wrap_u64,<-hS];simp only[KK];omega
  have q3:decide ((v:Int)<0)=false:=decide_eq_false (by omega);have q4:decide (0<(v:Int))=true:=decide_eq_true (by omega);have q5:((v:Int) == 0)=false:=by simp;omega
  have q6:decide ((v:Int)=0)=false:=decide_eq_false (by omega);simp only[hS]at hw;refine⟨_,stepG_load_atomic (v:=S) rfl rfl (by k_ne) rfl H.f_loadU64 (x_loadU64_n L) (x_loadU64_b L) (x_loadU64_x L) .u64 (x_loadU64_f L) rfl hw.cellSt,λh0=>absurd h0 (by omega),λ_=>?_⟩;clear hw;walk_nrm;refine Way.go (n:=100) ?_;u_op (jy (z K)) E;u_c stepG_region_end (jy (z K)) E;u_c stepG_ret' (jy (z K)) E;u_leave1 H.f_uLoad (jy (z K)) E;u_op (jy (z K)) E;u_c stepG_region_end (jy (z K)) E;u_c stepG_seq (jy (z K)) E;u_reg (jy (z K)) E
  iterate 4 u_op (jy (z K)) E
  u_c stepG_region_end (jy (z K)) E;u_c stepG_seq (jy (z K)) E;u_reg (jy (z K)) E
  iterate 4 u_op (jy (z K)) E
  u_c stepG_region_end (jy (z K)) E
  iterate 2 u_c stepG_seq (jy (z K)) E
  u_reg (jy (z K)) E
  iterate 2 u_op (jy (z K)) E
  u_c stepG_region_end (jy (z K)) E;u_cnd false (jy (z K)) E;u_c stepG_skip (jy (z K)) E;u_c stepG_seq (jy (z K)) E;u_reg (jy (z K)) E
  iterate 6 u_op (jy (z K)) E
  u_call H.f_uCas (nm_uCas L) uCasFn (jy (z K)) E;u_c stepG_seq (jy (z K)) E;u_reg (jy (z K)) E;u_op (jy (z K)) E;u_c stepG_region_end (jy (z K)) E;u_c stepG_seq (jy (z K)) E;u_reg (jy (z K)) E
  iterate 5 u_op (jy (z K)) E
  refine Goes.stop (λao I=>Way.stop λab J=>?_);replace E:=jy (z K) (jy (z K) E I) J;clear I J;refine⟨rfl,λv' ct hw=>⟨λe=>?_,λe=>?_⟩⟩
  ·subst e;simp only[hS]at hw⊢;refine⟨_,(stepG_cas_hit (v:=S) (n:=S+1) rfl rfl (by k_ne) rfl H.f_casU64 (x_casU64_n L) (x_casU64_b L) (x_casU64_x L) .u64 (x_casU64_f L) rfl rfl rfl hw.cellSt (hw.thaw 0)).trans (by rfl),?_⟩;replace E:Fk K (ab.setCell (stA Wg) (.int .u64 (S+1)))/\WgLive L.tWg Wg (ab.setCell (stA Wg) (.int .u64 (S+1))):=⟨am _ _ _ (aside_setCell ab (stA Wg) _) E.1,⟨_,_,hw.setSt _⟩⟩
   clear hw;walk_nrm;refine Way.go (n:=100) ?_;u_op (jy (z K)) E;u_c stepG_region_end (jy (z K)) E;u_c stepG_ret' (jy (z K)) E;u_leave1 H.f_uCas (jy (z K)) E;u_c stepG_region_end (jy (z K)) E;u_cond true (jy (z K)) E
   iterate 2 u_c stepG_seq (jy (z K)) E
   u_reg (jy (z K)) E
   iterate 4 u_op (jy (z K)) E
   u_c stepG_region_end (jy (z K)) E;u_cond true (jy (z K)) E;u_reg (jy (z K)) E
   iterate 3 u_op (jy (z K)) E
   u_conv H.underlying_tPU32 H.room_tU32 (WgLive.cell1 E.2).choose_spec (jy (z K)) E;refine Goes.stop (λag aa=>?_);replace E:=jy (z K) E aa;clear aa;refine Way.said rfl (.inr rfl) (λR Y=>stepG_markAt .write (by simp) rfl rfl (by k_ne) rfl H.f_raceWrite (x_raceWrite_n L) (x_raceWrite_b L) (x_raceWrite_x L) (x_raceWrite_f L) (ad:=⟨_,1,none⟩) (by simp[Act.eval]<;>rfl)) (λR Y=>?_);replace E:=jy (z K) E Y;clear Y;walk_nrm;refine Way.go (n:=100) ?_;u_c stepG_region_end (jy (z K)) E;u_c stepG_seq (jy (z K)) E;u_reg (jy (z K)) E;u_op (jy (z K)) E;u_c stepG_region_end (jy (z K)) E
   iterate 2 u_c stepG_seq (jy (z K)) E
   u_reg (jy (z K)) E
   iterate 4 u_op (jy (z K)) E
   u_skip (jy (z K)) E;u_op (jy (z K)) E;u_c stepG_region_end (jy (z K)) E;u_cond false (jy (z K)) E;u_c stepG_skip (jy (z K)) E;u_c stepG_seq (jy (z K)) E;u_reg (jy (z K)) E
   iterate 4 u_op (jy (z K)) E
   refine Goes.stop (λag I=>Way.stop λR J=>?_);replace E:=jy (z K) (jy (z K) E I) J;clear I J;refine⟨rfl,rfl,λ⟨st,hw⟩=>stepG_semacquire_wait rfl rfl rfl H.f_semacquire (x_semacquire_n L) (x_semacquire_b L) (x_semacquire_x L) (x_semacquire_f L) (by simp[Act.eval,smA]) hw.cellSm,λhf=>?_⟩;refine⟨_,(stepG_semacquire (n:=1) rfl rfl (by k_ne) rfl H.f_semacquire (x_semacquire_n L) (x_semacquire_b L) (x_semacquire_x L) (x_semacquire_f L) (by simp[Act.eval,smA]) hf.cellSm (by k_ne) (hf.thaw 1)).trans (by rfl),?_⟩;replace E:Fk K (R.setCell (smA Wg) (.int .u32 0))/\WgLive L.tWg Wg (R.setCell (smA Wg) (.int .u32 0)):=⟨am _ _ _ (aside_setCell R (smA Wg) _) E.1,⟨_,_,hf.setSm 0⟩⟩
   clear hf;walk_nrm;refine Way.go (n:=100) ?_;u_c stepG_region_end (jy (z K)) E;u_c stepG_seq (jy (z K)) E;u_reg (jy (z K)) E
   iterate 3 u_op (jy (z K)) E
   u_call H.f_uLoad (nm_uLoad L) uLoadFn (jy (z K)) E;u_c stepG_seq (jy (z K)) E;u_reg (jy (z K)) E;u_op (jy (z K)) E;u_c stepG_region_end (jy (z K)) E;u_c stepG_seq (jy (z K)) E;u_reg (jy (z K)) E
   iterate 3 u_op (jy (z K)) E
   refine Goes.stop (λaf I=>Way.stop λae J=>?_);replace E:=jy (z K) (jy (z K) E I) J;clear I J;refine⟨rfl,λhw=>⟨_,stepG_load_atomic (v:=0) rfl rfl (by k_ne) rfl H.f_loadU64 (x_loadU64_n L) (x_loadU64_b L) (x_loadU64_x L) .u64 (x_loadU64_f L) rfl hw.cellSt,?_⟩⟩;clear hw;walk_nrm;refine Way.go (n:=100) ?_;u_op (jy (z K)) E;u_c stepG_region_end (jy (z K)) E;u_c stepG_ret' (jy (z K)) E;u_leave1 H.f_uLoad (jy (z K)) E
   iterate 2 u_op (jy (z K)) E
   u_c stepG_region_end (jy (z K)) E;u_c stepG_seq (jy (z K)) E;u_cond true (jy (z K)) E;u_c stepG_seq (jy (z K)) E;u_reg (jy (z K)) E;refine Goes.stop (λaf I=>Way.stop λae J=>?_);replace E:=jy (z K) (jy (z K) E I) J;clear I J;refine⟨rfl,_,stepG_mark0 .enable (by simp) rfl rfl (by k_ne) rfl H.f_enable (x_enable_n L) (x_enable_b L) (x_enable_x L) (x_enable_f L),?_⟩;walk_nrm;refine Way.go (n:=40) ?_;u_c stepG_region_end (jy (z K)) E;u_reg (jy (z K)) E;u_op (jy (z K)) E;u_conv H.underlying_tWgP H.room_tWg (WgLive.cell0 E.2).choose_spec (jy (z K)) E;refine Goes.stop (λaj I=>Way.stop λai J=>?_);replace E:=jy (z K) (jy (z K) E I) J;clear I J;refine⟨rfl,_,stepG_markAt .acquire (by simp) rfl rfl (by k_ne) rfl H.f_acquire (x_acquire_n L) (x_acquire_b L) (x_acquire_x L) (x_acquire_f L) (by simp[Act.eval,stA]),?_⟩;walk_nrm;refine Way.go (n:=60) ?_;u_c stepG_region_end (jy (z K)) E
   iterate 2 u_c stepG_seq (jy (z K)) E
   u_reg (jy (z K)) E;u_op (jy (z K)) E;u_c stepG_region_end (jy (z K)) E;u_cond false (jy (z K)) E;u_c stepG_skip (jy (z K)) E;u_c stepG_ret' (jy (z K)) E;u_leave0 H.f_wait (jy (z K)) E;exact Goes.stop λan ac=>hT _ _ (jy (z K) E ac)
  ·refine⟨_,stepG_cas_miss (v:=(v':Int)*KK) (old:=S) (n:=S+1) rfl rfl (by k_ne) rfl H.f_casU64 (x_casU64_n L) (x_casU64_b L) (x_casU64_x L) .u64 (x_casU64_f L) rfl rfl rfl hw.cellSt (hw.thaw 0) (by rw[<-hS];simp only[KK];omega),?_⟩;clear hw;walk_nrm;refine Way.go (n:=100) ?_;u_op (jy (z K)) E;u_c stepG_region_end (jy (z K)) E;u_c stepG_ret' (jy (z K)) E;u_leave1 H.f_uCas (jy (z K)) E;u_c stepG_region_end (jy (z K)) E;u_cond false (jy (z K)) E;u_c stepG_skip (jy (z K)) E;u_c stepG_inBlock (jy (z K)) E;u_c stepG_inLoop (jy (z K)) E;refine Goes.stop (λag aa=>Way.stop λR Y=>?_);exact⟨_,rfl,by simp,by simp,jy (z K) (jy (z K) E aa) Y⟩
theorem waitStart(H:WgLib P L)(z:∀K w w',En ⟨Wg,C,n,L.tWg,lo⟩ none K w w'->Fk K w->Fk K w')(K:jU)(w:World)(E:Fk K w/\WgLive L.tWg Wg w):
  Way P ⟨Wg,C,n,L.tWg,lo⟩ (y9 P ⟨Wg,C,n,L.tWg,lo⟩ (Hw L Fk Wg (b₀.at a₀ (.inRegion ops₀ (i₀::rest₀)::k₀)) cs)) K
   (G ((base L.wait).at ⟨#[.pointer (some ⟨Wg,0,none⟩),undef,undef,undef,undef,undef,undef,undef,undef,undef,undef,undef,undef,undef,undef,undef,undef,undef,undef,undef,undef,undef,undef,undef,undef,undef,undef,undef,undef,undef,undef,undef,undef,undef,undef,undef,undef,undef,undef,undef,undef,undef,undef,undef,undef,undef,undef,undef,undef,undef,undef,undef,undef,undef,undef,undef,undef,undef,undef,undef,undef,undef,undef,undef,undef,undef,undef,undef,undef,undef,undef,undef,undef,undef,undef,undef,undef,undef,undef,undef,undef,undef,undef,undef],[]⟩ [.code (body_wait L)]) (b₀.at a₀ (.inRegion ops₀ (i₀::rest₀)::k₀)::cs)) w:=by
 lib_facts
 simp only[body_wait,waitFn,fB];refine Way.go (n:=10) ?_;u_c stepG_seq (jy (z K)) E;u_cond true (jy (z K)) E;u_reg (jy (z K)) E;refine Goes.stop (λac I=>Way.stop λab J=>?_);replace E:=jy (z K) (jy (z K) E I) J;clear I J;refine⟨rfl,_,stepG_mark0 .disable (by simp) rfl rfl (by k_ne) rfl H.f_disable (x_disable_n L) (x_disable_b L) (x_disable_x L) (x_disable_f L),?_⟩;walk_nrm;refine Way.go (n:=10) ?_;u_c stepG_region_end (jy (z K)) E;u_c stepG_block (jy (z K)) E;u_c stepG_loop (jy (z K)) E;exact Goes.stop (λaa R=>Way.stop λae Y=>⟨_,rfl,by simp,by simp,jy (z K) (jy (z K) E R) Y⟩)
end
end
open Go Go.Conc Go.ConcN
section
variable {es:Array Event}{v:Value}
section
variable [Payload]{P:Program}{main:Bool}{S:Who}{me:Option Nat}{K:jU}{St St':jU->Goroutine->World->Prop}{g:Goroutine}{w w':World}
def kK(P:Program)(main:Bool)(S:Who)(me:Option Nat)(St:jU->Goroutine->World->Prop)(K:jU)(g:Goroutine)(w:World):Prop:=∃T,jM P main S me St T K g w
theorem kK.go{n:Nat}(h:Go.Conc.Goes P main (En S me K) DC0 (λg w=>kK P main S me St K g w) n g w):kK P main S me St K g w:=by
 obtain⟨T,z⟩:=jM.NW (λ_ _ x=>x) h;exact z.bind λE g w ⟨e,hw⟩=>by rw[e];exact hw
theorem kK.stop(h:∀z,En S me K w z->St K g z):kK P main S me St K g w:=jM.stop h
theorem kK.step(hs:g.status=.running)(h:∀z,En S me K w z->∃g' w' es,stepG P main g z=.go g' w' es/\Gu S me K z w' es/\kK P main S me St (K.grow z.heap.size w'.heap.size) g' w'):kK P main S me St K g w:=jM.one hs h
theorem Way.m(h:kK P true S none St K g w):Way P S St K g w:=h
section
variable {b:Frame}{a:Act}{k:List Item}{cs:List Frame}{ops:Array Oper}{i:Nat}{rest:List Nat}{o:Oper}
theorem kK.op(I:ops[i]? =some o)(hw:Region.wanted o (yielded ops a.tmps)=true)(hk:b.kind≠.early)
  (h:∀z,En S me K w z->∃v w',(execOp a.eval o).run P z=.ok (.value v) w'/\Gu S me K z w' (listed P b.fn a o z)/\kK P main S me St (K.grow z.heap.size w'.heap.size) (G (b.at (a.put o.dst v) (.inRegion ops rest::k)) cs) w'):
  kK P main S me St K (G (b.at a (.inRegion ops (i::rest)::k)) cs) w:=
 .step rfl λz E=>let ⟨_,w',hr,hg,hW⟩:=h z E;⟨_,w',_,stepG_value I hw hk hr,hg,hW⟩
theorem kK.opn(I:ops[i]? =some o)(hw:Region.wanted o (yielded ops a.tmps)=true)(hk:b.kind≠.early)
  (h:∀z,En S me K w z->∃w',(execOp a.eval o).run P z=.ok .skip w'/\Gu S me K z w' (listed P b.fn a o z)/\kK P main S me St (K.grow z.heap.size w'.heap.size) (G (b.at (a.put o.dst undef) (.inRegion ops rest::k)) cs) w'):
  kK P main S me St K (G (b.at a (.inRegion ops (i::rest)::k)) cs) w:=
 .step rfl λz E=>let ⟨w',hr,hg,hW⟩:=h z E;⟨_,w',_,stepG_none I hw hk hr,hg,hW⟩
theorem kK.draw{I:Nat}(h:∀z,En S me K w z->∀t,kK P main S me St K (G (b.at a (.inRegion ops (Region.schedule (P.follows .mixedOrders) ops t)::k)) cs) { z with drawn:=z.drawn+1 }):
  kK P main S me St K (G (b.at a (.code (.region I ops true)::k)) cs) w:=
 .step rfl λz E=>⟨_,_,_,stepG_region_draw,⟨rfl,rfl,rfl,jA,λ_ _ _ _=>rfl,id,λ_ _=>rfl,λe J=>by simp at J⟩,by
  rw[show K.grow z.heap.size ({ z with drawn:=z.drawn+1 }:World).heap.size=K from kG ..];exact h z E _⟩
end
theorem rH(h:∀e∈es,∃a:Addr,e=⟨.cell a,false,false⟩/\K.O a.block/\a.block<w.heap.size):Gu S me K w w es:=
 ⟨rfl,rfl,rfl,jA,λ_ _ _ _=>rfl,id,λ_ _=>rfl,λe z=>by
  obtain⟨a,rfl,E,h2⟩:=h e z;exact .inl (.inl ⟨a,false,rfl,.inl (by simpa using E),h2⟩)⟩
theorem Jb(hC:S.C<w.heap.size)(o:Obj):Gu S me K w (w.alloc o) #[]:=by
 have z:∀b,b<w.heap.size->(w.alloc o).heap[b]? =w.heap[b]?:=λb z=>by
  show(w.heap.push o)[b]? =w.heap[b]?
  rw[fH z,bU z]
 exact⟨rfl,rfl,rfl,by simp,λb h _ _=>z b h,λ⟨cs,I,h2⟩=>⟨cs,(z _ hC).trans I,h2⟩,λi _=>by simp only[World.cell?,z _ hC],λe E=>by simp at E⟩
omit [Payload] in
theorem kD{ad:Addr}{b:Nat}(h:b≠ad.block):(w.setCell ad v).heap[b]? =w.heap[b]?:=(aside_setCell w ad v).block b h
omit [Payload] in
theorem jS(w:World)(ad:Addr)(v:Value):(w.setCell ad v).tape=w.tape/\(w.setCell ad v).os=w.os/\(w.setCell ad v).output=w.output/\(w.setCell ad v).heap.size=w.heap.size:=
 have h:=aside_setCell w ad v;⟨h.tape,h.os,h.output,h.size⟩
theorem Sv{ad:Addr}(z:K.W ad.block)(I:ad.block<w.heap.size)(hC:ad.block≠S.C)(h:∀e∈es,e=⟨.cell ad,true,false⟩):Gu S me K w (w.setCell ad v) es:=by
 obtain⟨R,h2,h3,h4⟩:=jS w ad v;have E:=kD (w:=w) (ad:=ad) (v:=v) (b:=S.C) (Ne.symm hC);refine⟨R,h2,h3,jo h4.symm,λb _ Y _=>kD λe=>Y (e ▸ z),λ⟨cs,a,b⟩=>⟨cs,E.trans a,b⟩,λi _=>by simp only[World.cell?,E],λe J=>?_⟩;rw[h e J];exact .inl (.inl ⟨ad,true,rfl,.inl (by simpa using z),by rw[h4];exact I⟩)
theorem Y5{i:Nat}(hp:PayAt S.C S.n w)(h:∀e∈es,e=⟨.cell ⟨S.C,i,none⟩,true,false⟩):Gu S (some i) K w (w.setCell ⟨S.C,i,none⟩ v) es:=by
 obtain⟨R,h2,h3,h4⟩:=jS w ⟨S.C,i,none⟩ v;obtain⟨cs,z,Y⟩:=hp
 have hw:(w.setCell ⟨S.C,i,none⟩ v).heap[S.C]? =some (.cells (cs.setIfInBounds i v) Payload.ety):=by
  have J:S.C<w.heap.size:=(jC z)
  simp[World.setCell,bI,z]
 refine⟨R,h2,h3,jo h4.symm,λb _ _ hc=>kD λe=>?_,λ_=>⟨_,hw,by simpa using Y⟩,λi' I=>?_,λe he=>?_⟩
 ·have:=hc e;cases this
 ·have E:i≠i':=λe=>I (by rw[e]);simp[World.cell?,hw,z,dS E]
 ·rw[h e he];exact .inr (.inl ⟨i,true,rfl,rfl⟩)
end
theorem ER{σ:Type}{md:Region.Mode}{ops:Array Oper}(I:Nat->Array Bool->σ->Prop)(Z:List Nat->σ->Prop)(done:∀listed s,I 0 listed s->Z [] s)
  (more:∀z listed s,I (z+1) listed s->Region.ready md ops listed≠[]/\∀i∈Region.ready md ops listed,∀rest,(∀s',I z (listed.setIfInBounds i true) s'->Z rest s')->Z (i::rest) s):
  ∀(z t:Nat)(listed:Array Bool)(s:σ),I z listed s->Z (Region.linearise.go md ops z t listed []) s:=by
 intro z
 induction z with
 |zero=>intro t listed s h;exact done listed s h
 |succ z ih=>
  intro t listed s h;obtain⟨Y,E⟩:=more z listed s h;simp only[Region.linearise.go]
  show Z (match (Region.ready md ops listed)[t%(Region.ready md ops listed).length]? with
   |some i=>Region.linearise.go md ops z (t/(Region.ready md ops listed).length) (listed.setIfInBounds i true) [i]
   |none=>[]) s
  have R:0<(Region.ready md ops listed).length:=List.length_pos_iff.2 Y;have J:=Nat.mod_lt t R;rw[aG J];simp only;rw[linearise_go_acc,List.reverse_singleton,List.singleton_append];exact E _ (List.getElem_mem J) _ λs' h'=>ih _ _ s' h'
end
end Cr
end Go.Proofs.YtpibpdpedjinhaaGreatDoor
