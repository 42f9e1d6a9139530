import Derived.Test.YtpibpdpedjinhaaGreatDoorS02
import Derived.Conc.CompanyDraw
set_option maxRecDepth 100000
set_option maxHeartbeats 8000000
namespace Go.Proofs.YtpibpdpedjinhaaGreatDoor
namespace Cr
open Go Go.Conc Go.ConcN Go.RowKit Go.Conc.Lib Go.ConcR.Gen Go.ConcN.Gen
open Go.ConcR (KK wgBlock WgAt stA smA rd wr Payload DC0)
section
variable {P:Program}
section
variable [Payload] {L:WgLink} {Wg C n lo:Nat} {Fin:jV->Goroutine->World->Prop} {Fk:jV->World->Prop}
 {b₀:Frame} {a₀:Act} {ops₀:Array Oper} {i₀:Nat} {rest₀:List Nat} {k₀:List Item} {cs:List Frame}
omit [Payload] in
def GN (L:WgLink) (Fk:jV->World->Prop) (Wg:Nat) (c:Frame) (cs:List Frame) (K:jV) (g:Goroutine) (w:World):Prop:=
 ∃T:Array Value,g=G ((base L.wait).at ⟨T,[]⟩ [.code (L7 L),.inLoop (L7 L),.inBlock 0]) (c::cs)/\T.size=84/\T[0]? =some (.pointer (some ⟨Wg,0,none⟩))/\Fk K w/\WgLive L.tWg Wg w
theorem waitRound (H:WgLib P L) (q:∀K w w',En ⟨Wg,C,n,L.tWg,lo⟩ none K w w'->Fk K w->Fk K w') (ak:∀K w w',Aside Wg w w'->Fk K w->Fk K w')
  (hT:∀K w,Fk K w/\WgLive L.tWg Wg w->Way P ⟨Wg,C,n,L.tWg,lo⟩ Fin K (G (b₀.at (a₀.put ((ops₀[i₀]?).bind (·.dst)) (.tuple #[])) (.inRegion ops₀ rest₀::k₀)) cs) w)
  (K:jV) (g:Goroutine) (w:World) (h:GN L Fk Wg (b₀.at a₀ (.inRegion ops₀ (i₀::rest₀)::k₀)) cs K g w):
  Way P ⟨Wg,C,n,L.tWg,lo⟩ (rO P ⟨Wg,C,n,L.tWg,lo⟩ Fin (GN L Fk Wg (b₀.at a₀ (.inRegion ops₀ (i₀::rest₀)::k₀)) cs)) K g w:=by
 lib_facts
 obtain ⟨T,rfl,ag,t0,z⟩:=h
 obtain ⟨v0,v1,v2,v3,v4,v5,v6,v7,v8,v9,b3,a5,cm,aq,ce,av,a2,bu,c2,bn,bg,ar,cx,c6,a0,ct,cj,bj,cv,bp,ba,b6,ap,cz,bd,a4,c4,cy,ci,a9,a7,a8,cp,bm,b4,a6,aw,co,cd,cg,b0,cl,bz,bq,ax,ca,ck,b9,bk,cw,bh,c3,bw,b8,cb,au,az,a3,cf,cc,cu,b5,cq,c5,bl,bx,c9,bo,ay,b7,cn,bs,br,bb,rfl⟩:=array84 T ag
 simp only [dY,dQ,aC] at t0
 subst t0
 simp only [L7,body_wait,waitFn,fB]
 refine Way.go (n:=100) ?_
 u_c stepG_block (jA (q K)) z
 u_c stepG_seq (jA (q K)) z
 u_reg (jA (q K)) z
 iterate 3 u_op (jA (q K)) z
 u_call H.f_uLoad (nm_uLoad L) uLoadFn (jA (q K)) z
 u_c stepG_seq (jA (q K)) z
 u_reg (jA (q K)) z
 u_op (jA (q K)) z
 u_c stepG_region_end (jA (q K)) z
 u_c stepG_seq (jA (q K)) z
 u_reg (jA (q K)) z
 iterate 3 u_op (jA (q K)) z
 refine Goes.stop (λao E=>Way.stop λaj I=>?_)
 replace z:=jA (q K) (jA (q K) z E) I
 clear E I
 refine ⟨rfl,λv hv hw=>?_⟩
 rcases gB v with rfl|bv
 ·replace hw:WgAt L.tWg Wg aj 0 0:=by simpa using hw
  refine ⟨_,stepG_load_atomic (v:=0) rfl rfl (by k_ne) rfl H.f_loadU64 (x_loadU64_n L) (x_loadU64_b L) (x_loadU64_x L) .u64 (x_loadU64_f L) rfl hw.cellSt,λ_=>?_,λh=>absurd rfl h⟩
  clear hw
  walk_nrm
  refine Way.go (n:=100) ?_
  u_op (jA (q K)) z
  u_c stepG_region_end (jA (q K)) z
  u_c stepG_ret' (jA (q K)) z
  u_leave1 H.f_uLoad (jA (q K)) z
  u_op (jA (q K)) z
  u_c stepG_region_end (jA (q K)) z
  u_c stepG_seq (jA (q K)) z
  u_reg (jA (q K)) z
  iterate 4 u_op (jA (q K)) z
  u_c stepG_region_end (jA (q K)) z
  u_c stepG_seq (jA (q K)) z
  u_reg (jA (q K)) z
  iterate 4 u_op (jA (q K)) z
  u_c stepG_region_end (jA (q K)) z
  iterate 2 u_c stepG_seq (jA (q K)) z
  u_reg (jA (q K)) z
  iterate 2 u_op (jA (q K)) z
  u_c stepG_region_end (jA (q K)) z
  u_cond true (jA (q K)) z
  u_c stepG_seq (jA (q K)) z
  u_cond true (jA (q K)) z
  u_c stepG_seq (jA (q K)) z
  u_reg (jA (q K)) z
  refine Goes.stop (λae E=>Way.stop λac I=>?_)
  replace z:=jA (q K) (jA (q K) z E) I
  clear E I
  refine ⟨rfl,_,stepG_mark0 .enable (by simp) rfl rfl (by k_ne) rfl H.f_enable (x_enable_n L) (x_enable_b L) (x_enable_x L) (x_enable_f L),?_⟩
  walk_nrm
  refine Way.go (n:=40) ?_
  u_c stepG_region_end (jA (q K)) z
  u_reg (jA (q K)) z
  u_op (jA (q K)) z
  u_conv H.underlying_tWgP H.room_tWg (WgLive.cell0 z.2).choose_spec (jA (q K)) z
  refine Goes.stop (λai E=>Way.stop λah I=>?_)
  replace z:=jA (q K) (jA (q K) z E) I
  clear E I
  refine ⟨rfl,_,stepG_markAt .acquire (by simp) rfl rfl (by k_ne) rfl H.f_acquire (x_acquire_n L) (x_acquire_b L) (x_acquire_x L) (x_acquire_f L) (by simp [Act.eval,stA]),?_⟩
  walk_nrm
  refine Way.go (n:=60) ?_
  u_c stepG_region_end (jA (q K)) z
  iterate 2 u_c stepG_seq (jA (q K)) z
  u_reg (jA (q K)) z
  iterate 8 u_op (jA (q K)) z
  iterate 2 u_skip (jA (q K)) z
  u_op (jA (q K)) z
  u_c stepG_region_end (jA (q K)) z
  u_cond false (jA (q K)) z
  u_c stepG_skip (jA (q K)) z
  u_c stepG_ret' (jA (q K)) z
  u_leave0 H.f_wait (jA (q K)) z
  exact Goes.stop λam ab=>hT _ _ (jA (q K) z ab)
 ·obtain ⟨S,hS⟩:∃S:Int,(v:Int) * KK=S:=⟨_,rfl⟩
  have a1:S / 4294967296=(v:Int):=by rw [<-hS];simp only [KK];omega
  have b1:bits .and .u64 S 2147483648=0:=by rw [<-hS];have:=st_flag v 0 (by omega) (by omega);simpa [KK] using this
  have b2:bits .and .u64 S 2147483647=0:=by rw [<-hS];have:=st_waiters v 0 (by omega) (by omega);simpa [KK] using this
  have c1:IntKind.i32.wrap (v:Int)=(v:Int):=by rw [IntKind.wrap_i32];omega
  have w1:IntKind.u64.wrap (S+1)=S+1:=by rw [IntKind.wrap_u64,<-hS];simp only [KK];omega
  have q3:decide ((v:Int) < 0)=false:=decide_eq_false (by omega)
  have q4:decide (0 < (v:Int))=true:=decide_eq_true (by omega)
  have q5:((v:Int) == 0)=false:=by simp;omega
  have q6:decide ((v:Int)=0)=false:=decide_eq_false (by omega)
  simp only [hS] at hw
  refine ⟨_,stepG_load_atomic (v:=S) rfl rfl (by k_ne) rfl H.f_loadU64 (x_loadU64_n L) (x_loadU64_b L) (x_loadU64_x L) .u64 (x_loadU64_f L) rfl hw.cellSt,λh0=>absurd h0 (by omega),λ_=>?_⟩
  clear hw
  walk_nrm
  refine Way.go (n:=100) ?_
  u_op (jA (q K)) z
  u_c stepG_region_end (jA (q K)) z
  u_c stepG_ret' (jA (q K)) z
  u_leave1 H.f_uLoad (jA (q K)) z
  u_op (jA (q K)) z
  u_c stepG_region_end (jA (q K)) z
  u_c stepG_seq (jA (q K)) z
  u_reg (jA (q K)) z
  iterate 4 u_op (jA (q K)) z
  u_c stepG_region_end (jA (q K)) z
  u_c stepG_seq (jA (q K)) z
  u_reg (jA (q K)) z
  iterate 4 u_op (jA (q K)) z
  u_c stepG_region_end (jA (q K)) z
  iterate 2 u_c stepG_seq (jA (q K)) z
  u_reg (jA (q K)) z
  iterate 2 u_op (jA (q K)) z
  u_c stepG_region_end (jA (q K)) z
  u_cnd false (jA (q K)) z
  u_c stepG_skip (jA (q K)) z
  u_c stepG_seq (jA (q K)) z
  u_reg (jA (q K)) z
  iterate 6 u_op (jA (q K)) z
  u_call H.f_uCas (nm_uCas L) uCasFn (jA (q K)) z
  u_c stepG_seq (jA (q K)) z
  u_reg (jA (q K)) z
  u_op (jA (q K)) z
  u_c stepG_region_end (jA (q K)) z
  u_c stepG_seq (jA (q K)) z
  u_reg (jA (q K)) z
  iterate 5 u_op (jA (q K)) z
  refine Goes.stop (λan E=>Way.stop λaa I=>?_)
  replace z:=jA (q K) (jA (q K) z E) I
  clear E I
  refine ⟨rfl,λv' cr hw=>⟨λe=>?_,λe=>?_⟩⟩
  ·subst e
   simp only [hS] at hw⊢
   refine ⟨_,(stepG_cas_hit (v:=S) (n:=S+1) rfl rfl (by k_ne) rfl H.f_casU64 (x_casU64_n L) (x_casU64_b L) (x_casU64_x L) .u64 (x_casU64_f L) rfl rfl rfl hw.cellSt (hw.thaw 0)).trans (by rfl),?_⟩
   replace z:Fk K (aa.setCell (stA Wg) (.int .u64 (S+1)))/\WgLive L.tWg Wg (aa.setCell (stA Wg) (.int .u64 (S+1))):=⟨ak _ _ _ (aside_setCell aa (stA Wg) _) z.1,⟨_,_,hw.setSt _⟩⟩
   clear hw
   walk_nrm
   refine Way.go (n:=100) ?_
   u_op (jA (q K)) z
   u_c stepG_region_end (jA (q K)) z
   u_c stepG_ret' (jA (q K)) z
   u_leave1 H.f_uCas (jA (q K)) z
   u_c stepG_region_end (jA (q K)) z
   u_cond true (jA (q K)) z
   iterate 2 u_c stepG_seq (jA (q K)) z
   u_reg (jA (q K)) z
   iterate 4 u_op (jA (q K)) z
   u_c stepG_region_end (jA (q K)) z
   u_cond true (jA (q K)) z
   u_reg (jA (q K)) z
   iterate 3 u_op (jA (q K)) z
   u_conv H.underlying_tPU32 H.room_tU32 (WgLive.cell1 z.2).choose_spec (jA (q K)) z
   refine Goes.stop (λaf Y=>?_)
   replace z:=jA (q K) z Y
   clear Y
   refine Way.said rfl (.inr rfl) (λJ R=>stepG_markAt .write (by simp) rfl rfl (by k_ne) rfl H.f_raceWrite (x_raceWrite_n L) (x_raceWrite_b L) (x_raceWrite_x L) (x_raceWrite_f L) (ad:=⟨_,1,none⟩) (by simp [Act.eval]<;>rfl)) (λJ R=>?_)
   replace z:=jA (q K) z R
   clear R
   walk_nrm
   refine Way.go (n:=100) ?_
   u_c stepG_region_end (jA (q K)) z
   u_c stepG_seq (jA (q K)) z
   u_reg (jA (q K)) z
   u_op (jA (q K)) z
   u_c stepG_region_end (jA (q K)) z
   iterate 2 u_c stepG_seq (jA (q K)) z
   u_reg (jA (q K)) z
   iterate 4 u_op (jA (q K)) z
   u_skip (jA (q K)) z
   u_op (jA (q K)) z
   u_c stepG_region_end (jA (q K)) z
   u_cond false (jA (q K)) z
   u_c stepG_skip (jA (q K)) z
   u_c stepG_seq (jA (q K)) z
   u_reg (jA (q K)) z
   iterate 4 u_op (jA (q K)) z
   refine Goes.stop (λaf E=>Way.stop λJ I=>?_)
   replace z:=jA (q K) (jA (q K) z E) I
   clear E I
   refine ⟨rfl,rfl,λ⟨st,hw⟩=>stepG_semacquire_wait rfl rfl rfl H.f_semacquire (x_semacquire_n L) (x_semacquire_b L) (x_semacquire_x L) (x_semacquire_f L) (by simp [Act.eval,smA]) hw.cellSm,λhf=>?_⟩
   refine ⟨_,(stepG_semacquire (n:=1) rfl rfl (by k_ne) rfl H.f_semacquire (x_semacquire_n L) (x_semacquire_b L) (x_semacquire_x L) (x_semacquire_f L) (by simp [Act.eval,smA]) hf.cellSm (by k_ne) (hf.thaw 1)).trans (by rfl),?_⟩
   replace z:Fk K (J.setCell (smA Wg) (.int .u32 0))/\WgLive L.tWg Wg (J.setCell (smA Wg) (.int .u32 0)):=⟨ak _ _ _ (aside_setCell J (smA Wg) _) z.1,⟨_,_,hf.setSm 0⟩⟩
   clear hf
   walk_nrm
   refine Way.go (n:=100) ?_
   u_c stepG_region_end (jA (q K)) z
   u_c stepG_seq (jA (q K)) z
   u_reg (jA (q K)) z
   iterate 3 u_op (jA (q K)) z
   u_call H.f_uLoad (nm_uLoad L) uLoadFn (jA (q K)) z
   u_c stepG_seq (jA (q K)) z
   u_reg (jA (q K)) z
   u_op (jA (q K)) z
   u_c stepG_region_end (jA (q K)) z
   u_c stepG_seq (jA (q K)) z
   u_reg (jA (q K)) z
   iterate 3 u_op (jA (q K)) z
   refine Goes.stop (λae E=>Way.stop λac I=>?_)
   replace z:=jA (q K) (jA (q K) z E) I
   clear E I
   refine ⟨rfl,λhw=>⟨_,stepG_load_atomic (v:=0) rfl rfl (by k_ne) rfl H.f_loadU64 (x_loadU64_n L) (x_loadU64_b L) (x_loadU64_x L) .u64 (x_loadU64_f L) rfl hw.cellSt,?_⟩⟩
   clear hw
   walk_nrm
   refine Way.go (n:=100) ?_
   u_op (jA (q K)) z
   u_c stepG_region_end (jA (q K)) z
   u_c stepG_ret' (jA (q K)) z
   u_leave1 H.f_uLoad (jA (q K)) z
   iterate 2 u_op (jA (q K)) z
   u_c stepG_region_end (jA (q K)) z
   u_c stepG_seq (jA (q K)) z
   u_cond true (jA (q K)) z
   u_c stepG_seq (jA (q K)) z
   u_reg (jA (q K)) z
   refine Goes.stop (λae E=>Way.stop λac I=>?_)
   replace z:=jA (q K) (jA (q K) z E) I
   clear E I
   refine ⟨rfl,_,stepG_mark0 .enable (by simp) rfl rfl (by k_ne) rfl H.f_enable (x_enable_n L) (x_enable_b L) (x_enable_x L) (x_enable_f L),?_⟩
   walk_nrm
   refine Way.go (n:=40) ?_
   u_c stepG_region_end (jA (q K)) z
   u_reg (jA (q K)) z
   u_op (jA (q K)) z
   u_conv H.underlying_tWgP H.room_tWg (WgLive.cell0 z.2).choose_spec (jA (q K)) z
   refine Goes.stop (λai E=>Way.stop λah I=>?_)
   replace z:=jA (q K) (jA (q K) z E) I
   clear E I
   refine ⟨rfl,_,stepG_markAt .acquire (by simp) rfl rfl (by k_ne) rfl H.f_acquire (x_acquire_n L) (x_acquire_b L) (x_acquire_x L) (x_acquire_f L) (by simp [Act.eval,stA]),?_⟩
   walk_nrm
   refine Way.go (n:=60) ?_
   u_c stepG_region_end (jA (q K)) z
   iterate 2 u_c stepG_seq (jA (q K)) z
   u_reg (jA (q K)) z
   u_op (jA (q K)) z
   u_c stepG_region_end (jA (q K)) z
   u_cond false (jA (q K)) z
   u_c stepG_skip (jA (q K)) z
   u_c stepG_ret' (jA (q K)) z
   u_leave0 H.f_wait (jA (q K)) z
   exact Goes.stop λam ab=>hT _ _ (jA (q K) z ab)
  ·refine ⟨_,stepG_cas_miss (v:=(v':Int) * KK) (old:=S) (n:=S+1) rfl rfl (by k_ne) rfl H.f_casU64 (x_casU64_n L) (x_casU64_b L) (x_casU64_x L) .u64 (x_casU64_f L) rfl rfl rfl hw.cellSt (hw.thaw 0) (by rw [<-hS];simp only [KK];omega),?_⟩
   clear hw
   walk_nrm
   refine Way.go (n:=100) ?_
   u_op (jA (q K)) z
   u_c stepG_region_end (jA (q K)) z
   u_c stepG_ret' (jA (q K)) z
   u_leave1 H.f_uCas (jA (q K)) z
   u_c stepG_region_end (jA (q K)) z
   u_cond false (jA (q K)) z
   u_c stepG_skip (jA (q K)) z
   u_c stepG_inBlock (jA (q K)) z
   u_c stepG_inLoop (jA (q K)) z
   refine Goes.stop (λaf Y=>Way.stop λJ R=>?_)
   exact ⟨_,rfl,by simp,by simp,jA (q K) (jA (q K) z Y) R⟩
theorem waitStart (H:WgLib P L) (q:∀K w w',En ⟨Wg,C,n,L.tWg,lo⟩ none K w w'->Fk K w->Fk K w') (K:jV) (w:World) (z:Fk K w/\WgLive L.tWg Wg w):
  Way P ⟨Wg,C,n,L.tWg,lo⟩ (yA P ⟨Wg,C,n,L.tWg,lo⟩ (GN L Fk Wg (b₀.at a₀ (.inRegion ops₀ (i₀::rest₀)::k₀)) cs)) K
   (G ((base L.wait).at ⟨#[.pointer (some ⟨Wg,0,none⟩),undef,undef,undef,undef,undef,undef,undef,undef,undef,undef,undef,undef,undef,undef,undef,undef,undef,undef,undef,undef,undef,undef,undef,undef,undef,undef,undef,undef,undef,undef,undef,undef,undef,undef,undef,undef,undef,undef,undef,undef,undef,undef,undef,undef,undef,undef,undef,undef,undef,undef,undef,undef,undef,undef,undef,undef,undef,undef,undef,undef,undef,undef,undef,undef,undef,undef,undef,undef,undef,undef,undef,undef,undef,undef,undef,undef,undef,undef,undef,undef,undef,undef,undef],[]⟩ [.code (body_wait L)]) (b₀.at a₀ (.inRegion ops₀ (i₀::rest₀)::k₀)::cs)) w:=by
 lib_facts
 simp only [body_wait,waitFn,fB]
 refine Way.go (n:=10) ?_
 u_c stepG_seq (jA (q K)) z
 u_cond true (jA (q K)) z
 u_reg (jA (q K)) z
 refine Goes.stop (λab E=>Way.stop λaa I=>?_)
 replace z:=jA (q K) (jA (q K) z E) I
 clear E I
 refine ⟨rfl,_,stepG_mark0 .disable (by simp) rfl rfl (by k_ne) rfl H.f_disable (x_disable_n L) (x_disable_b L) (x_disable_x L) (x_disable_f L),?_⟩
 walk_nrm
 refine Way.go (n:=10) ?_
 u_c stepG_region_end (jA (q K)) z
 u_c stepG_block (jA (q K)) z
 u_c stepG_loop (jA (q K)) z
 exact Goes.stop (λY J=>Way.stop λac R=>⟨_,rfl,by simp,by simp,jA (q K) (jA (q K) z J) R⟩)
end
end
open Go Go.Conc Go.ConcN
section
variable {es:Array Event} {v:Value}
section
variable [Payload] {P:Program} {main:Bool} {S:Who} {me:Option Nat} {K:jV} {St St':jV->Goroutine->World->Prop} {g:Goroutine} {w w':World}
def kP (P:Program) (main:Bool) (S:Who) (me:Option Nat) (St:jV->Goroutine->World->Prop) (K:jV) (g:Goroutine) (w:World):Prop:=∃T,jX P main S me St T K g w
theorem kP.go {n:Nat} (h:Go.Conc.Goes P main (En S me K) DC0 (λg w=>kP P main S me St K g w) n g w):kP P main S me St K g w:=by
 obtain ⟨T,q⟩:=jX.Nu (λ_ _ x=>x) h
 exact q.bind λz g w ⟨e,hw⟩=>by rw [e];exact hw
theorem kP.stop (h:∀q,En S me K w q->St K g q):kP P main S me St K g w:=jX.stop h
theorem kP.step (hs:g.status=.running) (h:∀q,En S me K w q->∃g' w' es,stepG P main g q=.go g' w' es/\Gu S me K q w' es/\kP P main S me St (K.grow q.heap.size w'.heap.size) g' w'):kP P main S me St K g w:=jX.one hs h
theorem Way.m (h:kP P true S none St K g w):Way P S St K g w:=h
section
variable {b:Frame} {a:Act} {k:List Item} {cs:List Frame} {ops:Array Oper} {i:Nat} {rest:List Nat} {o:Oper}
theorem kP.op (E:ops[i]? =some o) (hw:Region.wanted o (yielded ops a.tmps)=true) (hk:b.kind≠.early)
  (h:∀q,En S me K w q->∃v w',(execOp a.eval o).run P q=.ok (.value v) w'/\Gu S me K q w' (listed P b.fn a o q)/\kP P main S me St (K.grow q.heap.size w'.heap.size) (G (b.at (a.put o.dst v) (.inRegion ops rest::k)) cs) w'):
  kP P main S me St K (G (b.at a (.inRegion ops (i::rest)::k)) cs) w:=
 .step rfl λq z=>let ⟨_,w',hr,hg,hW⟩:=h q z;⟨_,w',_,stepG_value E hw hk hr,hg,hW⟩
theorem kP.opn (E:ops[i]? =some o) (hw:Region.wanted o (yielded ops a.tmps)=true) (hk:b.kind≠.early)
  (h:∀q,En S me K w q->∃w',(execOp a.eval o).run P q=.ok .skip w'/\Gu S me K q w' (listed P b.fn a o q)/\kP P main S me St (K.grow q.heap.size w'.heap.size) (G (b.at (a.put o.dst undef) (.inRegion ops rest::k)) cs) w'):
  kP P main S me St K (G (b.at a (.inRegion ops (i::rest)::k)) cs) w:=
 .step rfl λq z=>let ⟨w',hr,hg,hW⟩:=h q z;⟨_,w',_,stepG_none E hw hk hr,hg,hW⟩
theorem kP.draw {E:Nat} (h:∀q,En S me K w q->∀t,kP P main S me St K (G (b.at a (.inRegion ops (Region.schedule (P.follows .mixedOrders) ops t)::k)) cs) { q with drawn:=q.drawn+1 }):
  kP P main S me St K (G (b.at a (.code (.region E ops true)::k)) cs) w:=
 .step rfl λq z=>⟨_,_,_,stepG_region_draw,⟨rfl,rfl,rfl,jC,λ_ _ _ _=>rfl,id,λ_ _=>rfl,λe I=>by simp at I⟩,by
  rw [show K.grow q.heap.size ({ q with drawn:=q.drawn+1 }:World).heap.size=K from kH ..];exact h q z _⟩
end
theorem qQ (h:∀e∈es,∃a:Addr,e=⟨.cell a,false,false⟩/\K.O a.block/\a.block < w.heap.size):Gu S me K w w es:=
 ⟨rfl,rfl,rfl,jC,λ_ _ _ _=>rfl,id,λ_ _=>rfl,λe q=>by
  obtain ⟨a,rfl,z,h2⟩:=h e q
  exact .inl (.inl ⟨a,false,rfl,.inl (by simpa using z),h2⟩)⟩
theorem IL (hC:S.C < w.heap.size) (o:Obj):Gu S me K w (w.alloc o) #[]:=by
 have q:∀b,b < w.heap.size->(w.alloc o).heap[b]? =w.heap[b]?:=λb q=>by
  show (w.heap.push o)[b]? =w.heap[b]?
  rw [fH q,bU q]
 exact ⟨rfl,rfl,rfl,by simp,λb h _ _=>q b h,λ⟨cs,E,h2⟩=>⟨cs,(q _ hC).trans E,h2⟩,λi _=>by simp only [World.cell?,q _ hC],λe z=>by simp at z⟩
omit [Payload] in
theorem kD {ad:Addr} {b:Nat} (h:b≠ad.block):(w.setCell ad v).heap[b]? =w.heap[b]?:=(aside_setCell w ad v).block b h
omit [Payload] in
theorem jT (w:World) (ad:Addr) (v:Value):(w.setCell ad v).tape=w.tape/\(w.setCell ad v).os=w.os/\(w.setCell ad v).output=w.output/\(w.setCell ad v).heap.size=w.heap.size:=
 have h:=aside_setCell w ad v;⟨h.tape,h.os,h.output,h.size⟩
theorem Rt {ad:Addr} (q:K.W ad.block) (E:ad.block < w.heap.size) (hC:ad.block≠S.C) (h:∀e∈es,e=⟨.cell ad,true,false⟩):Gu S me K w (w.setCell ad v) es:=by
 obtain ⟨J,h2,h3,h4⟩:=jT w ad v
 have z:=kD (w:=w) (ad:=ad) (v:=v) (b:=S.C) (Ne.symm hC)
 refine ⟨J,h2,h3,jq h4.symm,λb _ R _=>kD λe=>R (e ▸ q),λ⟨cs,a,b⟩=>⟨cs,z.trans a,b⟩,λi _=>by simp only [World.cell?,z],λe I=>?_⟩
 rw [h e I]
 exact .inl (.inl ⟨ad,true,rfl,.inl (by simpa using q),by rw [h4];exact E⟩)
theorem Yt {i:Nat} (hp:PayAt S.C S.n w) (h:∀e∈es,e=⟨.cell ⟨S.C,i,none⟩,true,false⟩):Gu S (some i) K w (w.setCell ⟨S.C,i,none⟩ v) es:=by
 obtain ⟨J,h2,h3,h4⟩:=jT w ⟨S.C,i,none⟩ v
 obtain ⟨cs,q,R⟩:=hp
 have hw:(w.setCell ⟨S.C,i,none⟩ v).heap[S.C]? =some (.cells (cs.setIfInBounds i v) Payload.ety):=by
  have I:S.C < w.heap.size:=(jE q)
  simp [World.setCell,bI,q]
 refine ⟨J,h2,h3,jq h4.symm,λb _ _ hc=>kD λe=>?_,λ_=>⟨_,hw,by simpa using R⟩,λi' E=>?_,λe Y=>?_⟩
 ·have:=hc e;cases this
 ·have z:i≠i':=λe=>E (by rw [e])
  simp [World.cell?,hw,q,dS z]
 ·rw [h e Y]
  exact .inr (.inl ⟨i,true,rfl,rfl⟩)
end
theorem Ej {σ:Type} {md:Region.Mode} {ops:Array Oper} (I:Nat->Array Bool->σ->Prop) (Z:List Nat->σ->Prop) (done:∀listed s,I 0 listed s->Z [] s)
  (more:∀q listed s,I (q+1) listed s->Region.ready md ops listed≠[]/\∀i∈Region.ready md ops listed,∀rest,(∀s',I q (listed.setIfInBounds i true) s'->Z rest s')->Z (i::rest) s):
  ∀(q t:Nat) (listed:Array Bool) (s:σ),I q listed s->Z (Region.linearise.go md ops q t listed []) s:=by
 intro q
 induction q with
 |zero=>intro t listed s h;exact done listed s h
 |succ q ih=>
  intro t listed s h
  obtain ⟨R,z⟩:=more q listed s h
  simp only [Region.linearise.go]
  show Z (match (Region.ready md ops listed)[t % (Region.ready md ops listed).length]? with
   |some i=>Region.linearise.go md ops q (t / (Region.ready md ops listed).length) (listed.setIfInBounds i true) [i]
   |none=>[]) s
  have J:0 < (Region.ready md ops listed).length:=List.length_pos_iff.2 R
  have E:=Nat.mod_lt t J
  rw [aG E]
  simp only
  rw [linearise_go_acc,List.reverse_singleton,List.singleton_append]
  exact z _ (List.getElem_mem E) _ λs' Y=>ih _ _ s' Y
end
end Cr
end Go.Proofs.YtpibpdpedjinhaaGreatDoor
