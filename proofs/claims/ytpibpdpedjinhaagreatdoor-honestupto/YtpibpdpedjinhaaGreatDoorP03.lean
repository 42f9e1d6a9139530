import Derived.Test.YtpibpdpedjinhaaGreatDoorP02
import Derived.Conc.WgGenN3
set_option maxRecDepth 100000
set_option maxHeartbeats 8000000
set_option linter.all false
open Bool renaming false->aL,true->bB
open Go renaming Frame->cU,Goroutine->bO,Program->cY,World->U,undef->aE
open Go.Act renaming eval->lL
open Go.Conc renaming Goes->jj,aside_setCell->mh,stepG_block->rN,stepG_region_end->bA,stepG_ret'->ll,stepG_seq->bR,stepG_skip->gM
open Go.Conc.Goes renaming stop->cI
open Go.ConcN renaming WgLive->j9
open Go.ConcR renaming Payload->p9,mk->cV
open Go.IntKind renaming u64->px,wrap_u64->pZ
open Go.Item renaming inRegion->cD
namespace Go.Proofs.YtpibpdpedjinhaaGreatDoor
namespace Cr
open Go Go.Conc Go.ConcN Go.RowKit Go.Conc.Lib Go.ConcR.Gen Go.ConcN.Gen
open Go.ConcR (KK wgBlock WgAt stA smA rd wr Payload DC0)
section
section
variable [p9]{P:cY}{S:Who}{K:jZ}{St:jZ->bO->U->Prop}{g:bO}{w:U}
def Way(P:cY)(S:Who)(St:jZ->bO->U->Prop)(K:jZ)(g:bO)(w:U):Prop:=∃T,jQ P bB S none St T K g w
theorem Way.go{n:Nat}(h:jj P bB (En S none K) DC0 (λg w=>Way P S St K g w) n g w):Way P S St K g w:=by obtain⟨T,q⟩:=jQ.Rk (λ_ _ x=>x) h;exact q.bind λE g w ⟨e,hw⟩=>by rw[e];exact hw
theorem Way.stop(h:∀q,En S none K w q->St K g q):Way P S St K g w:=jQ.stop h
theorem Way.said{g':bO}(hs:g.status=.running){k:Mark}(hk:k=.read (smA S.Wg)\/k=.write (smA S.Wg))(J:∀q,En S none K w q->stepG P bB g q=.go g' q #[cV k])(h:∀q,En S none K w q->Way P S St K g' q):Way P S St K g w:=by
 refine jQ.one hs λq E=>⟨g',q,_,J q E,⟨rfl,rfl,rfl,jE,λ_ _ _ _=>rfl,id,λ_ _=>rfl,λe I=>?_⟩,by rw[kP];exact h q E⟩
 simp only[List.mem_toArray,dD,List.not_mem_nil,or_false]at I;subst I;exact .inr (.inr ⟨rfl,by grind⟩)
end
section
variable [p9]{L:WgLink}{Wg C n lo:Nat}{Q:Left}{i:Nat}{Next:jZ->bO->U->Prop}{K:jZ}{F:U->Prop}
 {b₀:cU} {a₀:Act} {ops₀:Array Oper} {i₀:Nat} {rest₀:List Nat} {k₀:List Item} {cs:List cU}
theorem jC{S:Who}{K:jZ}{F:U->Prop}(E:∀w w',En S none K w w'->F w->F w'){w q:U}(h:F w/\j9 S.ty S.Wg w)(r:En S none K w q):F q/\j9 S.ty S.Wg q:=⟨E _ _ r h.1,r.live h.2⟩
theorem addPos{P:cY}(H:WgLib P L)(q:∀w w',En (Who.mk Wg C n L.tWg lo) none K w w'->F w->F w')(ah:∀w w',Aside Wg w w'->F w->F w')(hT:∀w,F w/\j9 L.tWg Wg w->Way P ⟨Wg,C,n,L.tWg,lo⟩ (WJ P ⟨Wg,C,n,L.tWg,lo⟩ Q i Next) K (G (b₀.at (a₀.put ((ops₀[i₀]?).bind (·.dst)) (.tuple #[])) (cD ops₀ rest₀::k₀)) cs) w)(w:U)(E:F w/\j9 L.tWg Wg w):Way P ⟨Wg,C,n,L.tWg,lo⟩ (MV P ⟨Wg,C,n,L.tWg,lo⟩ Q i Next) K (G ((base L.add).at ⟨#[.pointer (some ⟨Wg,0,none⟩),.int .i64 1,aE,aE,aE,aE,aE,aE,aE,aE,aE,aE,aE,aE,aE,aE,aE,aE,aE,aE,aE,aE,aE,aE,aE,aE,aE,aE,aE,aE,aE,aE,aE,aE,aE,aE,aE,aE,aE,aE,aE,aE,aE,aE,aE,aE,aE,aE,aE,aE,aE,aE,aE,aE,aE,aE,aE,aE,aE,aE,aE,aE,aE,aE,aE,aE,aE,aE,aE,aE,aE,aE,aE,aE,aE,aE,aE,aE,aE,aE,aE,aE,aE,aE,aE,aE,aE,aE,aE,aE,aE,aE,aE,aE,aE,aE,aE,aE,aE,aE,aE,aE,aE,aE,aE,aE,aE,aE,aE,aE,aE,aE,aE,aE,aE,aE,aE],[]⟩ [.code (body_add L)]) (b₀.at a₀ (cD ops₀ (i₀::rest₀)::k₀)::cs)) w:=by
 lib_facts
 simp only[body_add,addFn,fH];refine Way.go (n:=200) ?_;u_c bR (jC q) E;u_cond bB (jC q) E
 iterate 2 u_c bR (jC q) E
 u_reg (jC q) E
 iterate 2 u_op (jC q) E
 u_c bA (jC q) E;u_cond aL (jC q) E;u_c gM (jC q) E;u_c bR (jC q) E;u_reg (jC q) E;refine cI (λag aa=>Way.stop λY ab=>?_);replace E:=jC q (jC q E aa) ab;clear aa ab;refine⟨rfl,_,stepG_mark0 _ aC rfl rfl (by k_ne) rfl H.f_disable (x_disable_n L) (x_disable_b L) (x_disable_x L) (x_disable_f L),?_⟩;walk_nrm;refine Way.go (n:=200) ?_;u_c bA (jC q) E;u_reg (jC q) E;u_defer (jC q) E;u_c bA (jC q) E;u_c bR (jC q) E;u_reg (jC q) E;u_op (jC q) E;u_c bA (jC q) E
 iterate 2 u_c bR (jC q) E
 u_reg (jC q) E;u_bub (jC q) E;u_c bA (jC q) E;u_cond aL (jC q) E;u_c gM (jC q) E;u_c bR (jC q) E;u_reg (jC q) E
 iterate 6 u_op (jC q) E
 u_call H.f_uAdd (nm_uAdd L) uAddFn (jC q) E;u_c bR (jC q) E;u_reg (jC q) E;u_op (jC q) E;u_c bA (jC q) E;u_c bR (jC q) E;u_reg (jC q) E
 iterate 4 u_op (jC q) E
 refine cI (λag aa=>Way.stop λY ab=>?_);replace E:=jC q (jC q E aa) ab;clear aa ab;refine⟨rfl,λv hv hw=>?_⟩;obtain rfl|ak:=gQ v
 .replace hw:WgAt L.tWg Wg Y 0 0:=by simpa using hw
  have z:(((0:Nat):Int)+1)*KK=4294967296:=by simp[KK]
  have e0:IntKind.u64.wrap (0+4294967296)=4294967296:=aB
  rw[z];refine⟨_,(stepG_add_atomic rfl rfl (by k_ne) rfl H.f_addU64 (x_addU64_n L) (x_addU64_b L) (x_addU64_x L) _ (x_addU64_f L) rfl rfl hw.cellSt (hw.thaw 0)).trans (by rw[e0];rfl),?_⟩;replace E:F (Y.setCell (stA Wg) (.int px 4294967296))/\j9 L.tWg Wg (Y.setCell (stA Wg) (.int px 4294967296)):=⟨ah _ _ (mh Y (stA Wg) _) E.1,⟨_,_,hw.setSt _⟩⟩
  clear hw;walk_nrm;refine Way.go (n:=400) ?_;u_op (jC q) E;u_c bA (jC q) E;u_c ll (jC q) E;u_leave1 H.f_uAdd (jC q) E;u_op (jC q) E;u_c bA (jC q) E
  iterate 2 u_c bR (jC q) E
  u_reg (jC q) E
  iterate 4 u_op (jC q) E
  iterate 2 u_skip (jC q) E
  u_op (jC q) E;u_c bA (jC q) E;u_cond aL (jC q) E;u_c gM (jC q) E;u_c bR (jC q) E;u_reg (jC q) E
  iterate 4 u_op (jC q) E
  u_c bA (jC q) E;u_c bR (jC q) E;u_reg (jC q) E
  iterate 4 u_op (jC q) E
  u_c bA (jC q) E
  iterate 2 u_c bR (jC q) E
  u_reg (jC q) E
  iterate 10 u_op (jC q) E
  u_c bA (jC q) E;u_cond bB (jC q) E;u_reg (jC q) E
  iterate 3 u_op (jC q) E
  u_conv H.underlying_tPU32 H.room_tU32 (WgLive.cell1 E.2).choose_spec (jC q) E;refine cI (λaf J=>?_);replace E:=jC q E J;clear J;refine Way.said rfl (.inl rfl) (λae I=>stepG_markAt _ aC rfl rfl (by k_ne) rfl H.f_raceRead (x_raceRead_n L) (x_raceRead_b L) (x_raceRead_x L) (x_raceRead_f L) (ad:=⟨_,1,none⟩) (by simp[lL]<;>rfl)) (λae I=>?_);replace E:=jC q E I;clear I;walk_nrm;refine Way.go (n:=200) ?_;u_c bA (jC q) E
  iterate 2 u_c bR (jC q) E
  u_reg (jC q) E
  iterate 2 u_op (jC q) E
  u_c bA (jC q) E;u_cond aL (jC q) E;u_c gM (jC q) E
  iterate 2 u_c bR (jC q) E
  u_reg (jC q) E
  iterate 3 u_op (jC q) E
  iterate 2 u_skip (jC q) E
  iterate 2 u_op (jC q) E
  iterate 4 u_skip (jC q) E
  u_op (jC q) E;u_c bA (jC q) E;u_cond aL (jC q) E;u_c gM (jC q) E
  iterate 2 u_c bR (jC q) E
  u_reg (jC q) E
  iterate 3 u_op (jC q) E
  iterate 2 u_skip (jC q) E
  u_op (jC q) E;u_c bA (jC q) E;u_cond bB (jC q) E;u_c ll (jC q) E;refine cI (λaf J=>Way.stop λae I=>?_);replace E:=jC q (jC q E J) I;clear J I;refine⟨rfl,_,stepG_unwind_entry (v:=.tuple #[]) (evs:=#[cV _]) rfl H.f_enable (x_enable_n L) (x_enable_b L) (x_enable_x L) (x_enable_f L) (by simp[Extern.Race.none_]) (by simp[cV]) (by simp[cV]),?_⟩;refine Way.go (n:=2) ?_;u_leave0 H.f_add (jC q) E;exact cI λai ac=>hT _ (jC q E ac)
 .obtain⟨V,hV⟩:∃V:Int,V=(v:Int)+1:=⟨_,rfl⟩
  obtain⟨S,hS⟩:∃S:Int,S=V*KK:=⟨_,rfl⟩
  have eS:IntKind.u64.wrap ((v:Int)*KK+4294967296)=S:=by rw[pZ,hS,hV];simp only[KK];omega
  rw[<-hV,<-hS];have a1:S/4294967296=V:=by rw[hS];simp only[KK];omega
  have b1:bits .and px S 2147483648=0:=by rw[hS,hV];have:=st_flag (v+1) 0 aA aA;simpa[KK]using this
  have b2:bits .and px S 2147483647=0:=by rw[hS,hV];have:=st_waiters (v+1) 0 aA aA;simpa[KK]using this
  have c1:IntKind.i32.wrap V=V:=by rw[IntKind.wrap_i32];omega
  have aj:1<V:=aA
  have am:V<2147483648:=aA
  have q1:(V == 1)=aL:=aF
  have q2:decide (V=1)=aL:=ZZ aA;have q3:decide (V<0)=aL:=ZZ aA;have q4:decide (0<V)=bB:=Z0 aA;have q5:(V == 0)=aL:=aF
  have q6:decide (V=0)=aL:=ZZ aA;refine⟨_,(stepG_add_atomic rfl rfl (by k_ne) rfl H.f_addU64 (x_addU64_n L) (x_addU64_b L) (x_addU64_x L) _ (x_addU64_f L) rfl rfl hw.cellSt (hw.thaw 0)).trans (by rw[eS];rfl),?_⟩;replace E:F (Y.setCell (stA Wg) (.int px S))/\j9 L.tWg Wg (Y.setCell (stA Wg) (.int px S)):=⟨ah _ _ (mh Y (stA Wg) _) E.1,⟨_,_,hw.setSt _⟩⟩
  clear hw hS hV eS;walk_nrm;refine Way.go (n:=400) ?_;u_op (jC q) E;u_c bA (jC q) E;u_c ll (jC q) E;u_leave1 H.f_uAdd (jC q) E;u_op (jC q) E;u_c bA (jC q) E
  iterate 2 u_c bR (jC q) E
  u_reg (jC q) E
  iterate 4 u_op (jC q) E
  iterate 2 u_skip (jC q) E
  u_op (jC q) E;u_c bA (jC q) E;u_cnd aL (jC q) E;u_c gM (jC q) E;u_c bR (jC q) E;u_reg (jC q) E
  iterate 4 u_op (jC q) E
  u_c bA (jC q) E;u_c bR (jC q) E;u_reg (jC q) E
  iterate 4 u_op (jC q) E
  u_c bA (jC q) E
  iterate 2 u_c bR (jC q) E
  u_reg (jC q) E
  iterate 10 u_op (jC q) E
  u_c bA (jC q) E;u_cnd aL (jC q) E;u_c gM (jC q) E
  iterate 2 u_c bR (jC q) E
  u_reg (jC q) E
  iterate 2 u_op (jC q) E
  u_c bA (jC q) E;u_cnd aL (jC q) E;u_c gM (jC q) E
  iterate 2 u_c bR (jC q) E
  u_reg (jC q) E
  iterate 3 u_op (jC q) E
  iterate 2 u_skip (jC q) E
  iterate 2 u_op (jC q) E
  iterate 4 u_skip (jC q) E
  u_op (jC q) E;u_c bA (jC q) E;u_cnd aL (jC q) E;u_c gM (jC q) E
  iterate 2 u_c bR (jC q) E
  u_reg (jC q) E
  iterate 3 u_op (jC q) E
  iterate 2 u_skip (jC q) E
  u_op (jC q) E;u_c bA (jC q) E;u_cnd bB (jC q) E;u_c ll (jC q) E;refine cI (λaf J=>Way.stop λae I=>?_);replace E:=jC q (jC q E J) I;clear J I;refine⟨rfl,_,stepG_unwind_entry (v:=.tuple #[]) (evs:=#[cV _]) rfl H.f_enable (x_enable_n L) (x_enable_b L) (x_enable_x L) (x_enable_f L) (by simp[Extern.Race.none_]) (by simp[cV]) (by simp[cV]),?_⟩;refine Way.go (n:=2) ?_;u_leave0 H.f_add (jC q) E;exact cI λai ac=>hT _ (jC q E ac)
end
end
section
variable {P:cY}
section
variable [p9]{L:WgLink}{Wg C n lo:Nat}{Fin:jZ->bO->U->Prop}{Fk:jZ->U->Prop}
 {b₀:cU} {a₀:Act} {ops₀:Array Oper} {i₀:Nat} {rest₀:List Nat} {k₀:List Item} {cs:List cU}
omit [Payload] in
def KH(L:WgLink)(Fk:jZ->U->Prop)(Wg:Nat)(c:cU)(cs:List cU)(K:jZ)(g:bO)(w:U):Prop:=
 ∃T:Array Value,g=G ((base L.wait).at ⟨T,[]⟩ [.code (L7 L),.inLoop (L7 L),.inBlock 0]) (c::cs)/\T.size=84/\T[0]? =some (.pointer (some ⟨Wg,0,none⟩))/\Fk K w/\j9 L.tWg Wg w
theorem waitRound(H:WgLib P L)(q:∀K w w',En ⟨Wg,C,n,L.tWg,lo⟩ none K w w'->Fk K w->Fk K w')(an:∀K w w',Aside Wg w w'->Fk K w->Fk K w')(hT:∀K w,Fk K w/\j9 L.tWg Wg w->Way P ⟨Wg,C,n,L.tWg,lo⟩ Fin K (G (b₀.at (a₀.put ((ops₀[i₀]?).bind (·.dst)) (.tuple #[])) (cD ops₀ rest₀::k₀)) cs) w)(K:jZ)(g:bO)(w:U)(h:KH L Fk Wg (b₀.at a₀ (cD ops₀ (i₀::rest₀)::k₀)) cs K g w):Way P ⟨Wg,C,n,L.tWg,lo⟩ (uN P ⟨Wg,C,n,L.tWg,lo⟩ Fin (KH L Fk Wg (b₀.at a₀ (cD ops₀ (i₀::rest₀)::k₀)) cs)) K g w:=by
 lib_facts
 obtain⟨T,rfl,ai,t0,E⟩:=h;obtain⟨v0,v1,v2,v3,v4,v5,v6,v7,v8,v9,b8,a8,cv,au,cl,ax,a5,b0,de,bs,bk,av,c9,dj,a4,c3,cr,bm,c5,bv,bg,cb,ar,dd,bj,a7,dh,db,cp,bd,ba,bb,cy,br,b9,a9,ay,cx,ck,co,b7,cu,b6,bw,az,cg,ct,ce,bo,c6,bl,dg,b4,cd,ci,aw,a3,a6,cm,cj,c4,ca,cz,di,bq,b5,dk,bu,a2,cc,cw,bz,bx,bh,rfl⟩:=array84 T ai;simp only[eX,dX,aK]at t0;subst t0;simp only[L7,body_wait,waitFn,fH];refine Way.go (n:=100) ?_;u_c rN (jC (q K)) E;u_c bR (jC (q K)) E;u_reg (jC (q K)) E
 iterate 3 u_op (jC (q K)) E
 u_call H.f_uLoad (nm_uLoad L) uLoadFn (jC (q K)) E;u_c bR (jC (q K)) E;u_reg (jC (q K)) E;u_op (jC (q K)) E;u_c bA (jC (q K)) E;u_c bR (jC (q K)) E;u_reg (jC (q K)) E
 iterate 3 u_op (jC (q K)) E
 refine cI (λaq I=>Way.stop λam J=>?_);replace E:=jC (q K) (jC (q K) E I) J;clear I J;refine⟨rfl,λv hv hw=>?_⟩;obtain rfl|b3:=gQ v
 .replace hw:WgAt L.tWg Wg am 0 0:=by simpa using hw
  refine⟨_,stepG_load_atomic (v:=0) rfl rfl (by k_ne) rfl H.f_loadU64 (x_loadU64_n L) (x_loadU64_b L) (x_loadU64_x L) _ (x_loadU64_f L) rfl hw.cellSt,λ_=>?_,λh=>Xs rfl h⟩;clear hw;walk_nrm;refine Way.go (n:=100) ?_;u_op (jC (q K)) E;u_c bA (jC (q K)) E;u_c ll (jC (q K)) E;u_leave1 H.f_uLoad (jC (q K)) E;u_op (jC (q K)) E;u_c bA (jC (q K)) E;u_c bR (jC (q K)) E;u_reg (jC (q K)) E
  iterate 4 u_op (jC (q K)) E
  u_c bA (jC (q K)) E;u_c bR (jC (q K)) E;u_reg (jC (q K)) E
  iterate 4 u_op (jC (q K)) E
  u_c bA (jC (q K)) E
  iterate 2 u_c bR (jC (q K)) E
  u_reg (jC (q K)) E
  iterate 2 u_op (jC (q K)) E
  u_c bA (jC (q K)) E;u_cond bB (jC (q K)) E;u_c bR (jC (q K)) E;u_cond bB (jC (q K)) E;u_c bR (jC (q K)) E;u_reg (jC (q K)) E;refine cI (λag I=>Way.stop λaf J=>?_);replace E:=jC (q K) (jC (q K) E I) J;clear I J;refine⟨rfl,_,stepG_mark0 _ aC rfl rfl (by k_ne) rfl H.f_enable (x_enable_n L) (x_enable_b L) (x_enable_x L) (x_enable_f L),?_⟩;walk_nrm;refine Way.go (n:=40) ?_;u_c bA (jC (q K)) E;u_reg (jC (q K)) E;u_op (jC (q K)) E;u_conv H.underlying_tWgP H.room_tWg (WgLive.cell0 E.2).choose_spec (jC (q K)) E;refine cI (λak I=>Way.stop λaj J=>?_);replace E:=jC (q K) (jC (q K) E I) J;clear I J;refine⟨rfl,_,stepG_markAt _ aC rfl rfl (by k_ne) rfl H.f_acquire (x_acquire_n L) (x_acquire_b L) (x_acquire_x L) (x_acquire_f L) (by simp[lL,stA]),?_⟩;walk_nrm;refine Way.go (n:=60) ?_;u_c bA (jC (q K)) E
  iterate 2 u_c bR (jC (q K)) E
  u_reg (jC (q K)) E
  iterate 8 u_op (jC (q K)) E
  iterate 2 u_skip (jC (q K)) E
  u_op (jC (q K)) E;u_c bA (jC (q K)) E;u_cond aL (jC (q K)) E;u_c gM (jC (q K)) E;u_c ll (jC (q K)) E;u_leave0 H.f_wait (jC (q K)) E;exact cI λao ae=>hT _ _ (jC (q K) E ae)
 .obtain⟨S,hS⟩:∃S:Int,(v:Int)*KK=S:=⟨_,rfl⟩
  have a1:S/4294967296=(v:Int):=by rw[<-hS];simp only[KK];omega
  have b1:bits .and px S 2147483648=0:=by rw[<-hS];have:=st_flag v 0 aA aA;simpa[KK]using this
  have b2:bits .and px S 2147483647=0:=by rw[<-hS];have:=st_waiters v 0 aA aA;simpa[KK]using this
  have c1:IntKind.i32.wrap (v:Int)=v:=by rw[IntKind.wrap_i32];omega
  have w1:IntKind.u64.wrap (S+1)=S+1:=by rw[pZ,<-hS];simp only[KK];omega
  have q3:decide ((v:Int)<0)=aL:=ZZ aA;have q4:decide (0<(v:Int))=bB:=Z0 aA;have q5:((v:Int) == 0)=aL:=aF
  have q6:decide ((v:Int)=0)=aL:=ZZ aA;simp only[hS]at hw;refine⟨_,stepG_load_atomic (v:=S) rfl rfl (by k_ne) rfl H.f_loadU64 (x_loadU64_n L) (x_loadU64_b L) (x_loadU64_x L) _ (x_loadU64_f L) rfl hw.cellSt,λh0=>Xs h0 aA,λ_=>?_⟩;clear hw;walk_nrm;refine Way.go (n:=100) ?_;u_op (jC (q K)) E;u_c bA (jC (q K)) E;u_c ll (jC (q K)) E;u_leave1 H.f_uLoad (jC (q K)) E;u_op (jC (q K)) E;u_c bA (jC (q K)) E;u_c bR (jC (q K)) E;u_reg (jC (q K)) E
  iterate 4 u_op (jC (q K)) E
  u_c bA (jC (q K)) E;u_c bR (jC (q K)) E;u_reg (jC (q K)) E
  iterate 4 u_op (jC (q K)) E
  u_c bA (jC (q K)) E
  iterate 2 u_c bR (jC (q K)) E
  u_reg (jC (q K)) E
  iterate 2 u_op (jC (q K)) E
  u_c bA (jC (q K)) E;u_cnd aL (jC (q K)) E;u_c gM (jC (q K)) E;u_c bR (jC (q K)) E;u_reg (jC (q K)) E
  iterate 6 u_op (jC (q K)) E
  u_call H.f_uCas (nm_uCas L) uCasFn (jC (q K)) E;u_c bR (jC (q K)) E;u_reg (jC (q K)) E;u_op (jC (q K)) E;u_c bA (jC (q K)) E;u_c bR (jC (q K)) E;u_reg (jC (q K)) E
  iterate 5 u_op (jC (q K)) E
  refine cI (λap I=>Way.stop λac J=>?_);replace E:=jC (q K) (jC (q K) E I) J;clear I J;refine⟨rfl,λv' c2 hw=>⟨λe=>?_,λe=>?_⟩⟩
  .subst e;simp only[hS]at hw⊢;refine⟨_,(stepG_cas_hit (v:=S) (n:=S+1) rfl rfl (by k_ne) rfl H.f_casU64 (x_casU64_n L) (x_casU64_b L) (x_casU64_x L) _ (x_casU64_f L) rfl rfl rfl hw.cellSt (hw.thaw 0)).trans (by rfl),?_⟩;replace E:Fk K (ac.setCell (stA Wg) (.int px (S+1)))/\j9 L.tWg Wg (ac.setCell (stA Wg) (.int px (S+1))):=⟨an _ _ _ (mh ac (stA Wg) _) E.1,⟨_,_,hw.setSt _⟩⟩
   clear hw;walk_nrm;refine Way.go (n:=100) ?_;u_op (jC (q K)) E;u_c bA (jC (q K)) E;u_c ll (jC (q K)) E;u_leave1 H.f_uCas (jC (q K)) E;u_c bA (jC (q K)) E;u_cond bB (jC (q K)) E
   iterate 2 u_c bR (jC (q K)) E
   u_reg (jC (q K)) E
   iterate 4 u_op (jC (q K)) E
   u_c bA (jC (q K)) E;u_cond bB (jC (q K)) E;u_reg (jC (q K)) E
   iterate 3 u_op (jC (q K)) E
   u_conv H.underlying_tPU32 H.room_tU32 (WgLive.cell1 E.2).choose_spec (jC (q K)) E;refine cI (λah ab=>?_);replace E:=jC (q K) E ab;clear ab;refine Way.said rfl (.inr rfl) (λY aa=>stepG_markAt _ aC rfl rfl (by k_ne) rfl H.f_raceWrite (x_raceWrite_n L) (x_raceWrite_b L) (x_raceWrite_x L) (x_raceWrite_f L) (ad:=⟨_,1,none⟩) (by simp[lL]<;>rfl)) (λY aa=>?_);replace E:=jC (q K) E aa;clear aa;walk_nrm;refine Way.go (n:=100) ?_;u_c bA (jC (q K)) E;u_c bR (jC (q K)) E;u_reg (jC (q K)) E;u_op (jC (q K)) E;u_c bA (jC (q K)) E
   iterate 2 u_c bR (jC (q K)) E
   u_reg (jC (q K)) E
   iterate 4 u_op (jC (q K)) E
   u_skip (jC (q K)) E;u_op (jC (q K)) E;u_c bA (jC (q K)) E;u_cond aL (jC (q K)) E;u_c gM (jC (q K)) E;u_c bR (jC (q K)) E;u_reg (jC (q K)) E
   iterate 4 u_op (jC (q K)) E
   refine cI (λah I=>Way.stop λY J=>?_);replace E:=jC (q K) (jC (q K) E I) J;clear I J;refine⟨rfl,rfl,λ⟨st,hw⟩=>stepG_semacquire_wait rfl rfl rfl H.f_semacquire (x_semacquire_n L) (x_semacquire_b L) (x_semacquire_x L) (x_semacquire_f L) (by simp[lL,smA]) hw.cellSm,λhf=>?_⟩;refine⟨_,(stepG_semacquire (n:=1) rfl rfl (by k_ne) rfl H.f_semacquire (x_semacquire_n L) (x_semacquire_b L) (x_semacquire_x L) (x_semacquire_f L) (by simp[lL,smA]) hf.cellSm (by k_ne) (hf.thaw 1)).trans (by rfl),?_⟩;replace E:Fk K (Y.setCell (smA Wg) (.int .u32 0))/\j9 L.tWg Wg (Y.setCell (smA Wg) (.int .u32 0)):=⟨an _ _ _ (mh Y (smA Wg) _) E.1,⟨_,_,hf.setSm 0⟩⟩
   clear hf;walk_nrm;refine Way.go (n:=100) ?_;u_c bA (jC (q K)) E;u_c bR (jC (q K)) E;u_reg (jC (q K)) E
   iterate 3 u_op (jC (q K)) E
   u_call H.f_uLoad (nm_uLoad L) uLoadFn (jC (q K)) E;u_c bR (jC (q K)) E;u_reg (jC (q K)) E;u_op (jC (q K)) E;u_c bA (jC (q K)) E;u_c bR (jC (q K)) E;u_reg (jC (q K)) E
   iterate 3 u_op (jC (q K)) E
   refine cI (λag I=>Way.stop λaf J=>?_);replace E:=jC (q K) (jC (q K) E I) J;clear I J;refine⟨rfl,λhw=>⟨_,stepG_load_atomic (v:=0) rfl rfl (by k_ne) rfl H.f_loadU64 (x_loadU64_n L) (x_loadU64_b L) (x_loadU64_x L) _ (x_loadU64_f L) rfl hw.cellSt,?_⟩⟩;clear hw;walk_nrm;refine Way.go (n:=100) ?_;u_op (jC (q K)) E;u_c bA (jC (q K)) E;u_c ll (jC (q K)) E;u_leave1 H.f_uLoad (jC (q K)) E
   iterate 2 u_op (jC (q K)) E
   u_c bA (jC (q K)) E;u_c bR (jC (q K)) E;u_cond bB (jC (q K)) E;u_c bR (jC (q K)) E;u_reg (jC (q K)) E;refine cI (λag I=>Way.stop λaf J=>?_);replace E:=jC (q K) (jC (q K) E I) J;clear I J;refine⟨rfl,_,stepG_mark0 _ aC rfl rfl (by k_ne) rfl H.f_enable (x_enable_n L) (x_enable_b L) (x_enable_x L) (x_enable_f L),?_⟩;walk_nrm;refine Way.go (n:=40) ?_;u_c bA (jC (q K)) E;u_reg (jC (q K)) E;u_op (jC (q K)) E;u_conv H.underlying_tWgP H.room_tWg (WgLive.cell0 E.2).choose_spec (jC (q K)) E;refine cI (λak I=>Way.stop λaj J=>?_);replace E:=jC (q K) (jC (q K) E I) J;clear I J;refine⟨rfl,_,stepG_markAt _ aC rfl rfl (by k_ne) rfl H.f_acquire (x_acquire_n L) (x_acquire_b L) (x_acquire_x L) (x_acquire_f L) (by simp[lL,stA]),?_⟩;walk_nrm;refine Way.go (n:=60) ?_;u_c bA (jC (q K)) E
   iterate 2 u_c bR (jC (q K)) E
   u_reg (jC (q K)) E;u_op (jC (q K)) E;u_c bA (jC (q K)) E;u_cond aL (jC (q K)) E;u_c gM (jC (q K)) E;u_c ll (jC (q K)) E;u_leave0 H.f_wait (jC (q K)) E;exact cI λao ae=>hT _ _ (jC (q K) E ae)
  .refine⟨_,stepG_cas_miss (v:=v'*KK) (old:=S) (n:=S+1) rfl rfl (by k_ne) rfl H.f_casU64 (x_casU64_n L) (x_casU64_b L) (x_casU64_x L) _ (x_casU64_f L) rfl rfl rfl hw.cellSt (hw.thaw 0) (by rw[<-hS];simp only[KK];omega),?_⟩;clear hw;walk_nrm;refine Way.go (n:=100) ?_;u_op (jC (q K)) E;u_c bA (jC (q K)) E;u_c ll (jC (q K)) E;u_leave1 H.f_uCas (jC (q K)) E;u_c bA (jC (q K)) E;u_cond aL (jC (q K)) E;u_c gM (jC (q K)) E;u_c stepG_inBlock (jC (q K)) E;u_c stepG_inLoop (jC (q K)) E;refine cI (λah ab=>Way.stop λY aa=>?_);exact⟨_,rfl,aC,aC,jC (q K) (jC (q K) E ab) aa⟩
theorem waitStart(H:WgLib P L)(q:∀K w w',En ⟨Wg,C,n,L.tWg,lo⟩ none K w w'->Fk K w->Fk K w')(K:jZ)(w:U)(E:Fk K w/\j9 L.tWg Wg w):Way P ⟨Wg,C,n,L.tWg,lo⟩ (AP P ⟨Wg,C,n,L.tWg,lo⟩ (KH L Fk Wg (b₀.at a₀ (cD ops₀ (i₀::rest₀)::k₀)) cs)) K (G ((base L.wait).at ⟨#[.pointer (some ⟨Wg,0,none⟩),aE,aE,aE,aE,aE,aE,aE,aE,aE,aE,aE,aE,aE,aE,aE,aE,aE,aE,aE,aE,aE,aE,aE,aE,aE,aE,aE,aE,aE,aE,aE,aE,aE,aE,aE,aE,aE,aE,aE,aE,aE,aE,aE,aE,aE,aE,aE,aE,aE,aE,aE,aE,aE,aE,aE,aE,aE,aE,aE,aE,aE,aE,aE,aE,aE,aE,aE,aE,aE,aE,aE,aE,aE,aE,aE,aE,aE,aE,aE,aE,aE,aE,aE],[]⟩ [.code (body_wait L)]) (b₀.at a₀ (cD ops₀ (i₀::rest₀)::k₀)::cs)) w:=by
 lib_facts
 simp only[body_wait,waitFn,fH];refine Way.go (n:=10) ?_;u_c bR (jC (q K)) E;u_cond bB (jC (q K)) E;u_reg (jC (q K)) E;refine cI (λae I=>Way.stop λac J=>?_);replace E:=jC (q K) (jC (q K) E I) J;clear I J;refine⟨rfl,_,stepG_mark0 _ aC rfl rfl (by k_ne) rfl H.f_disable (x_disable_n L) (x_disable_b L) (x_disable_x L) (x_disable_f L),?_⟩;walk_nrm;refine Way.go (n:=10) ?_;u_c bA (jC (q K)) E;u_c rN (jC (q K)) E;u_c stepG_loop (jC (q K)) E;exact cI (λab Y=>Way.stop λaf aa=>⟨_,rfl,aC,aC,jC (q K) (jC (q K) E Y) aa⟩)
end
end
end Cr
