import Derived.Test.YtpibpdpedjinhaaGreatDoorP01
import Derived.Conc.WgGenN3
set_option maxRecDepth 100000
set_option maxHeartbeats 8000000
namespace Go.Proofs.YtpibpdpedjinhaaGreatDoor
namespace Cr
open Go Go.Conc Go.ConcN
open Go.ConcR (KK wgBlock WgAt stA smA rd wr Payload DC0)
section
variable {t:Trace}
section
variable [Payload]{P:Program}{S:Who}{Q:Left}{Shun:Loc->Prop}{m:Nat}{Fin AnchW:jU->Goroutine->World->Prop}
def l9(P:Program)(S:Who)(Q:Left)(Shun:Loc->Prop)(m:Nat)(Fin:jU->Goroutine->World->Prop)(E:Machine)(t:Trace):Prop:=
 ∃(z:Array Goroutine)(w:World)(sl:Option (Nat×Nat))(D:Nat->WD)(F:Nat->Tr)(K:Nat->jU)(a:Goroutine)(q:Nat->Nat),
  E=crowd z w sl/\z[0]? =some a/\Fin (K 0) a w/\Co P S Q Shun m S.n z w t D F 0 K q/\AllQuit S.n D/\Acq S m S.n t/\WgAt S.ty S.Wg w 0 0
omit [Payload] in
theorem Lc{j:Nat}{D:Nat->WD}(h:1<=Vc j D):∃i,i<j/\5<=(D i).stage:=exists_counted h
theorem LZ(hm:1<=m)(hQ:Q.mV)(hn:S.n<2147483648)(hF:∀K g w,Fin K g w->g.status=.running)(hA:∀K g w,AnchW K g w->g.status=.running)
  (aq:∀K g w,AnchW K g w->∃T,jM P true S none (sQ P S Fin AnchW) T K g w) (ap:∀K g w d,Fin K g w->Fin K g (w.at d)) {μ:Mu} {mc:Machine} (h:Inv P S Q Shun m Fin AnchW μ mc t):
  l9 P S Q Shun m Fin mc t\/∃m' ops aj,stepT P mc=(.next m',ops)/\pz S.n aj μ/\Inv P S Q Shun m Fin AnchW aj m' (t++ops):=by
 obtain⟨gs,w,sl,j,D,F,tag,f0,d0,K,a,st,sm,q,rfl,ha,ae,E,am,z,I,rfl⟩:=h;by_cases ag:tag=.ret/\Fin (K 0) a w
 ·obtain⟨rfl,ak⟩:=ag;obtain⟨hq,rfl,rfl⟩:=z.fin_inv trivial;generalize hK:K 0=K₀ at ae;cases ae with
  |ret _=>exact .inl ⟨gs,w,sl,D,F,K,a,q,rfl,ha,ak,E,hq,I rfl,am⟩
 ·have ah:∀g∈gs,Go.Conc.awake g:=by
   intro g R tm;obtain⟨i,hi⟩:=Array.mem_iff_getElem?.1 R;by_cases h0:i=0
   ·subst h0;rw[ha]at hi;cases hi;rcases ae.status hF hA with⟨hs,_⟩|⟨hs,_⟩<;>rw[hs]<;>simp
   ·rcases fQ i m with J|an
    ·obtain⟨g',Y,ao⟩:=E.old i (by omega) J;rw[hi]at Y;cases Y;rcases ao.status with h|h<;>rw[h]<;>simp
    ·have J:i<m+j:=by have:=(jC hi);rw[E.size]at this;omega
     obtain⟨g',Y,hs⟩:=E.wk (i-m) (by omega);rw[show m+(i-m)=i by omega,hi]at Y;cases Y;rcases hs.status with h|h<;>rw[h]<;>simp
  have runs:∃(i:Nat)(g:Goroutine),gs[i]? =some g/\g.status=.running:=by
   rcases ae.status hF hA with⟨hs,_⟩|⟨_,rfl⟩
   ·exact⟨0,a,ha,hs⟩
   ·cases z with
    |opn h1 _ _=>exact h1.elim
    |reg _ _ h3=>
     obtain⟨i,hi,h5⟩:=Lc h3;obtain⟨g,R,hs⟩:=E.wk i hi;exact⟨m+i,g,R,hs.running_of (by omega)⟩
    |last L _ h2 h3 _=>
     obtain⟨g,R,hs⟩:=E.wk L h2;exact⟨m+L,g,R,hs.running_of (by omega)⟩
    |fin h1 _=>exact h1.elim
  obtain⟨i,g,d,ar,R,ac,ai⟩:=crowd_pick (P:=P) (w:=w) (sl:=sl) ah runs;rw[ai];have af:=ae.rely (En.at S none (K 0) w d);have ab:=E.at hQ d;have aa:WgAt S.ty S.Wg (w.at d) st sm:=am;right;by_cases h0:i=0
  ·subst h0;rw[ha]at R;cases R;exact ZJ hm hQ hn aq ha af ab aa z I ac λ⟨h1,h2⟩=>ag ⟨h1,(show Fin (K 0) a ((w.at d).at w.drawn) from ap _ _ _ w.drawn h2)⟩
  ·rcases fQ i m with J|an
   ·exact VR hF hA ha af ab aa z I (by omega) J R ac
   ·have J:i<m+j:=by have:=(jC R);rw[E.size]at this;omega
    have e:m+(i-m)=i:=by omega
    have:=ZM (sl:=ar) hm hQ hF hA hn ha af ab aa z I (i:=i-m) (by omega) (g:=g) (by rw[e];exact R) ac;rw[e]at this;exact this
theorem KT(hm:1<=m)(hQ:Q.mV)(hn:S.n<2147483648)(hF:∀K g w,Fin K g w->g.status=.running)(hA:∀K g w,AnchW K g w->g.status=.running)
  (ab:∀K g w,AnchW K g w->∃T,jM P true S none (sQ P S Fin AnchW) T K g w) (Y:∀K g w d,Fin K g w->Fin K g (w.at d)) (R:Mu):∀(I:Machine)(t:Trace),Inv P S Q Shun m Fin AnchW R I t->
  ∃N z E,runNT P N I t=(.next z,E)/\l9 P S Q Shun m Fin z E:=by
 induction R using(pz.wf S.n).induction with
 |_ R ih=>
  intro I t h;rcases LZ hm hQ hn hF hA ab Y h with h|⟨m',ops,aa,hs,J,h'⟩
  ·exact⟨0,I,t,rfl,h⟩
  ·obtain⟨N,z,E,hr,he⟩:=ih aa J m' (t++ops) h';exact⟨N+1,z,E,by simp only[runNT,hs];exact hr,he⟩
theorem phase{B:Nat}(hQ:Q.mV)(hn:S.n<2147483648)(hF:∀K g w,Fin K g w->g.status=.running)(hA:∀K g w,AnchW K g w->g.status=.running)
  (a3:∀K g w,AnchW K g w->∃T,jM P true S none (sQ P S Fin AnchW) T K g w) (ar:∀K g w d,Fin K g w->Fin K g (w.at d))
  {E:Array Goroutine} {a:Goroutine} {w:World} {sl:Option (Nat×Nat)} {q:Nat->Nat} {K0:jU} (ha:E[0]? =some a) (hL:Leavers P t E q) (hP:Past Shun B t)
  (hW:∀b,K0.W b->K0.O b) (hO:∀b,K0.O b->b<w.heap.size/\b≠S.Wg/\b≠S.C/\∀l,blk l=some b->¬Shun l) (hWg:S.Wg<w.heap.size) (hC:S.C<w.heap.size) (ac:S.C≠S.Wg) (hB:B<=S.Wg) (a0:B<=S.C\/∀i,¬Shun (.cell ⟨S.C,i,none⟩))
  (av:∀b,K0.W b->S.lo<=b) (ax:S.lo<=S.Wg) (ay:S.lo<=S.C) (ao:WgAt S.ty S.Wg w 0 0) (ap:PayAt S.C S.n w) (ab:pX P S AnchW Q S.n K0 a w):
  ∃N J a' w' ah t' q' K,runNT P N (crowd E w sl) t=(.next (crowd J w' ah),t')/\J[0]? =some a'/\Fin K a' w'/\Leavers P t' J q'/\Past (λl=>Shun l\/ShN S.Wg l) w'.heap.size t'/\
   (∀i,i<S.n->∃v O,Has S.C i v w'/\Q i v O w')/\PayAt S.C S.n w'/\WgAt S.ty S.Wg w' 0 0:=by
 have az:1<=E.size:=by have:=(jC ha);omega
 have apt:Ig S w.heap.size 0 (λ_=>K0):=⟨λp _ b hb=>hW b hb,λp _ b hb=>let ⟨h1,h2,h3,_⟩:=hO b hb;⟨h1,h2,h3⟩,λp q hp hq ac=>absurd (by omega) ac,hWg,hC,ac,λ_ _=>av,ax,ay⟩
 have aj:Co P S Q Shun E.size 0 E w t (λ_=>⟨0,0,0⟩) (λ_=>.leaf) 0 (λ_=>K0) q:=
  ⟨rfl,λi I=>by omega,λi I am=>⟨E[i],by rw[bU am],hL.old i _ I (bU am)⟩,
   TI.begin hP hL.above hB a0 (by omega) (λb hb=>(hO b hb).2.2.2) hW,apt,hP.hears,λi I=>by omega,λi I=>by omega,ap⟩
 have aa:∀tag,isOpen tag->pend tag=0->(∀vs,tag≠.w2 vs)->Go.ConcN.Mode 0 (λ_=>(⟨0,0,0⟩:WD)) tag 0 0:=λtag h1 h2 h3=>by
  have:=Go.ConcN.Mode.opn (j:=0) (D:=λ_=>(⟨0,0,0⟩:WD)) h1 (λi I=>by omega) (λvs e=>absurd e (h3 vs));simpa[Vc,sumTo,h2]using this
 have ak:∃μ,Inv P S Q Shun E.size Fin AnchW μ (crowd E w sl) t:=by
  cases ag:S.n with
  |zero=>
   rw[ag]at ab;obtain⟨T,hk⟩:=ab;refine⟨_,E,w,sl,0,_,_,.kd,(0,T),0,_,a,0,0,q,rfl,ha,?_,aj,ao,aa .kd trivial rfl (by simp),by simp,rfl⟩;have:=CS.kd (P:=P) (S:=S) (Fin:=Fin) (AnchW:=AnchW) (Q:=Q) hk;rwa[ag]at this
  |succ r=>
   rw[ag]at ab;obtain⟨T,hk⟩:=ab;refine⟨_,E,w,sl,0,_,_,.sp r 5,(0,T),0,_,a,0,0,q,rfl,ha,?_,aj,ao,aa (.sp r 5) trivial rfl (by simp),by simp,rfl⟩;have:=CS.skd (P:=P) (S:=S) (Fin:=Fin) (AnchW:=AnchW) (Q:=Q) (r:=r) (by omega) hk;rwa[show S.n-(r+1)=0 by omega]at this
 obtain⟨μ,hI⟩:=ak;obtain⟨N,a5,t',hr,J,w',ah,D,F,K,a',q',rfl,a4,an,z,hq,⟨x,a2,aq,aw,au⟩,ai⟩:=KT az hQ hn hF hA a3 ar μ _ _ hI
 have af:∀i,i<S.n->∃mq g v,J[E.size+i]? =some g/\QuitsD P mq (Deaf t' (E.size+i)) g/\Has S.C i v w'/\Q i v (K (i+1)).O w':=by
  intro i I;obtain⟨g,hg,hs⟩:=z.wk i I;obtain⟨mq,_,Y,v,hv,hh⟩:=hs.quits (hq i I);exact⟨mq,g,v,hg,by rw[z.deafW i I];exact Y,hh,hv⟩
 obtain⟨f,hf⟩:∃f:Nat->Nat,∀i,i<S.n->∃g v,J[E.size+i]? =some g/\QuitsD P (f i) (Deaf t' (E.size+i)) g/\Has S.C i v w'/\Q i v (K (i+1)).O w':=
  ⟨λi=>if h:i<S.n then Classical.choose (af i h)else 0,λi I=>by simp only[dif_pos I];exact fV (af i I)⟩
 refine⟨N,J,a',w',ah,t',λi=>if E.size<=i then f (i-E.size)else q' i,K 0,hr,a4,an,⟨λi g I hg=>?_,λi I=>?_⟩,z.ti.past z.deaf0 a2 aq aw au,λi I=>?_,z.pay,ai⟩
 ·rcases fQ i E.size with ae|a1
  ·rw[if_neg (by omega)];obtain⟨g',R,Y⟩:=z.old i I ae;rw[hg]at R;cases R;exact Y
  ·have ae:i-E.size<S.n:=by have:=(jC hg);rw[z.size]at this;omega
   rw[if_pos a1];obtain⟨g',v,R,Y,_⟩:=hf (i-E.size) ae;rw[show E.size+(i-E.size)=i by omega]at R Y;rw[hg]at R;cases R;exact Y
 ·exact z.ti.above i (by rw[z.size]at I;exact I)
 ·obtain⟨_,_,v,_,_,hh,hv⟩:=af i I;exact⟨v,_,hh,hv⟩
end
end
open Go Go.Conc Go.ConcN Go.RowKit Go.Conc.Lib Go.ConcR.Gen Go.ConcN.Gen
section
section
variable [Payload]{P:Program}{S:Who}{K:jU}{St:jU->Goroutine->World->Prop}{g:Goroutine}{w:World}
def Way(P:Program)(S:Who)(St:jU->Goroutine->World->Prop)(K:jU)(g:Goroutine)(w:World):Prop:=∃T,jM P true S none St T K g w
theorem Way.go{n:Nat}(h:Go.Conc.Goes P true (En S none K) DC0 (λg w=>Way P S St K g w) n g w):Way P S St K g w:=by
 obtain⟨T,z⟩:=jM.NW (λ_ _ x=>x) h;exact z.bind λE g w ⟨e,hw⟩=>by rw[e];exact hw
theorem Way.stop(h:∀z,En S none K w z->St K g z):Way P S St K g w:=jM.stop h
theorem Way.said{g':Goroutine}(hs:g.status=.running){k:Mark}(hk:k=.read (smA S.Wg)\/k=.write (smA S.Wg))(J:∀z,En S none K w z->stepG P true g z=.go g' z #[Go.ConcR.mk k])(h:∀z,En S none K w z->Way P S St K g' z):Way P S St K g w:=by
 refine jM.one hs λz E=>⟨g',z,_,J z E,⟨rfl,rfl,rfl,jA,λ_ _ _ _=>rfl,id,λ_ _=>rfl,λe I=>?_⟩,by rw[kG];exact h z E⟩
 simp only[List.mem_toArray,bV,List.not_mem_nil,or_false]at I;subst I;exact .inr (.inr ⟨rfl,by rcases hk with rfl|rfl<;>simp⟩)
end
section
variable [Payload]{L:WgLink}{Wg C n lo:Nat}{Q:Left}{i:Nat}{Next:jU->Goroutine->World->Prop}{K:jU}{F:World->Prop}
 {b₀:Frame} {a₀:Act} {ops₀:Array Oper} {i₀:Nat} {rest₀:List Nat} {k₀:List Item} {cs:List Frame}
theorem jy{S:Who}{K:jU}{F:World->Prop}(E:∀w w',En S none K w w'->F w->F w'){w z:World}(h:F w/\WgLive S.ty S.Wg w)(r:En S none K w z):F z/\WgLive S.ty S.Wg z:=⟨E _ _ r h.1,r.live h.2⟩
theorem addPos{P:Program}(H:WgLib P L)
  (E:∀w w',En (Who.mk Wg C n L.tWg lo) none K w w'->F w->F w') (ah:∀w w',Aside Wg w w'->F w->F w')
  (hT:∀w,F w/\WgLive L.tWg Wg w->Way P ⟨Wg,C,n,L.tWg,lo⟩ (RZ P ⟨Wg,C,n,L.tWg,lo⟩ Q i Next) K (G (b₀.at (a₀.put ((ops₀[i₀]?).bind (·.dst)) (.tuple #[])) (.inRegion ops₀ rest₀::k₀)) cs) w)
  (w:World) (I:F w/\WgLive L.tWg Wg w):
  Way P ⟨Wg,C,n,L.tWg,lo⟩ (Jr P ⟨Wg,C,n,L.tWg,lo⟩ Q i Next) K
   (G ((base L.add).at ⟨#[.pointer (some ⟨Wg,0,none⟩),.int .i64 1,undef,undef,undef,undef,undef,undef,undef,undef,undef,undef,undef,undef,undef,undef,undef,undef,undef,undef,undef,undef,undef,undef,undef,undef,undef,undef,undef,undef,undef,undef,undef,undef,undef,undef,undef,undef,undef,undef,undef,undef,undef,undef,undef,undef,undef,undef,undef,undef,undef,undef,undef,undef,undef,undef,undef,undef,undef,undef,undef,undef,undef,undef,undef,undef,undef,undef,undef,undef,undef,undef,undef,undef,undef,undef,undef,undef,undef,undef,undef,undef,undef,undef,undef,undef,undef,undef,undef,undef,undef,undef,undef,undef,undef,undef,undef,undef,undef,undef,undef,undef,undef,undef,undef,undef,undef,undef,undef,undef,undef,undef,undef,undef,undef,undef,undef],[]⟩ [.code (body_add L)]) (b₀.at a₀ (.inRegion ops₀ (i₀::rest₀)::k₀)::cs)) w:=by
 lib_facts
 simp only[body_add,addFn,fB];refine Way.go (n:=200) ?_;u_c stepG_seq (jy E) I;u_cond true (jy E) I
 iterate 2 u_c stepG_seq (jy E) I
 u_reg (jy E) I
 iterate 2 u_op (jy E) I
 u_c stepG_region_end (jy E) I;u_cond false (jy E) I;u_c stepG_skip (jy E) I;u_c stepG_seq (jy E) I;u_reg (jy E) I;refine Goes.stop (λag aa=>Way.stop λY ab=>?_);replace I:=jy E (jy E I aa) ab;clear aa ab;refine⟨rfl,_,stepG_mark0 .disable (by simp) rfl rfl (by k_ne) rfl H.f_disable (x_disable_n L) (x_disable_b L) (x_disable_x L) (x_disable_f L),?_⟩;walk_nrm;refine Way.go (n:=200) ?_;u_c stepG_region_end (jy E) I;u_reg (jy E) I;u_defer (jy E) I;u_c stepG_region_end (jy E) I;u_c stepG_seq (jy E) I;u_reg (jy E) I;u_op (jy E) I;u_c stepG_region_end (jy E) I
 iterate 2 u_c stepG_seq (jy E) I
 u_reg (jy E) I;u_bub (jy E) I;u_c stepG_region_end (jy E) I;u_cond false (jy E) I;u_c stepG_skip (jy E) I;u_c stepG_seq (jy E) I;u_reg (jy E) I
 iterate 6 u_op (jy E) I
 u_call H.f_uAdd (nm_uAdd L) uAddFn (jy E) I;u_c stepG_seq (jy E) I;u_reg (jy E) I;u_op (jy E) I;u_c stepG_region_end (jy E) I;u_c stepG_seq (jy E) I;u_reg (jy E) I
 iterate 4 u_op (jy E) I
 refine Goes.stop (λag aa=>Way.stop λY ab=>?_);replace I:=jy E (jy E I aa) ab;clear aa ab;refine⟨rfl,λv hv hw=>?_⟩;rcases gB v with rfl|ak
 ·replace hw:WgAt L.tWg Wg Y 0 0:=by simpa using hw
  have z:(((0:Nat):Int)+1)*KK=4294967296:=by simp[KK]
  have e0:IntKind.u64.wrap (0+4294967296)=4294967296:=by decide
  rw[z];refine⟨_,(stepG_add_atomic rfl rfl (by k_ne) rfl H.f_addU64 (x_addU64_n L) (x_addU64_b L) (x_addU64_x L) .u64 (x_addU64_f L) rfl rfl hw.cellSt (hw.thaw 0)).trans (by rw[e0];rfl),?_⟩;replace I:F (Y.setCell (stA Wg) (.int .u64 4294967296))/\WgLive L.tWg Wg (Y.setCell (stA Wg) (.int .u64 4294967296)):=⟨ah _ _ (aside_setCell Y (stA Wg) _) I.1,⟨_,_,hw.setSt _⟩⟩
  clear hw;walk_nrm;refine Way.go (n:=400) ?_;u_op (jy E) I;u_c stepG_region_end (jy E) I;u_c stepG_ret' (jy E) I;u_leave1 H.f_uAdd (jy E) I;u_op (jy E) I;u_c stepG_region_end (jy E) I
  iterate 2 u_c stepG_seq (jy E) I
  u_reg (jy E) I
  iterate 4 u_op (jy E) I
  iterate 2 u_skip (jy E) I
  u_op (jy E) I;u_c stepG_region_end (jy E) I;u_cond false (jy E) I;u_c stepG_skip (jy E) I;u_c stepG_seq (jy E) I;u_reg (jy E) I
  iterate 4 u_op (jy E) I
  u_c stepG_region_end (jy E) I;u_c stepG_seq (jy E) I;u_reg (jy E) I
  iterate 4 u_op (jy E) I
  u_c stepG_region_end (jy E) I
  iterate 2 u_c stepG_seq (jy E) I
  u_reg (jy E) I
  iterate 10 u_op (jy E) I
  u_c stepG_region_end (jy E) I;u_cond true (jy E) I;u_reg (jy E) I
  iterate 3 u_op (jy E) I
  u_conv H.underlying_tPU32 H.room_tU32 (WgLive.cell1 I.2).choose_spec (jy E) I;refine Goes.stop (λaf R=>?_);replace I:=jy E I R;clear R;refine Way.said rfl (.inl rfl) (λae J=>stepG_markAt .read (by simp) rfl rfl (by k_ne) rfl H.f_raceRead (x_raceRead_n L) (x_raceRead_b L) (x_raceRead_x L) (x_raceRead_f L) (ad:=⟨_,1,none⟩) (by simp[Act.eval]<;>rfl)) (λae J=>?_);replace I:=jy E I J;clear J;walk_nrm;refine Way.go (n:=200) ?_;u_c stepG_region_end (jy E) I
  iterate 2 u_c stepG_seq (jy E) I
  u_reg (jy E) I
  iterate 2 u_op (jy E) I
  u_c stepG_region_end (jy E) I;u_cond false (jy E) I;u_c stepG_skip (jy E) I
  iterate 2 u_c stepG_seq (jy E) I
  u_reg (jy E) I
  iterate 3 u_op (jy E) I
  iterate 2 u_skip (jy E) I
  iterate 2 u_op (jy E) I
  iterate 4 u_skip (jy E) I
  u_op (jy E) I;u_c stepG_region_end (jy E) I;u_cond false (jy E) I;u_c stepG_skip (jy E) I
  iterate 2 u_c stepG_seq (jy E) I
  u_reg (jy E) I
  iterate 3 u_op (jy E) I
  iterate 2 u_skip (jy E) I
  u_op (jy E) I;u_c stepG_region_end (jy E) I;u_cond true (jy E) I;u_c stepG_ret' (jy E) I;refine Goes.stop (λaf R=>Way.stop λae J=>?_);replace I:=jy E (jy E I R) J;clear R J;refine⟨rfl,_,stepG_unwind_entry (v:=.tuple #[]) (evs:=#[Go.ConcR.mk .enable]) rfl H.f_enable (x_enable_n L) (x_enable_b L) (x_enable_x L) (x_enable_f L) (by simp[Extern.Race.none_]) (by simp[Go.ConcR.mk]) (by simp[Go.ConcR.mk]),?_⟩;refine Way.go (n:=2) ?_;u_leave0 H.f_add (jy E) I;exact Goes.stop λai ac=>hT _ (jy E I ac)
 ·obtain⟨V,hV⟩:∃V:Int,V=(v:Int)+1:=⟨_,rfl⟩
  obtain⟨S,hS⟩:∃S:Int,S=V*KK:=⟨_,rfl⟩
  have eS:IntKind.u64.wrap ((v:Int)*KK+4294967296)=S:=by rw[IntKind.wrap_u64,hS,hV];simp only[KK];omega
  rw[<-hV,<-hS];have a1:S/4294967296=V:=by rw[hS];simp only[KK];omega
  have b1:bits .and .u64 S 2147483648=0:=by rw[hS,hV];have:=st_flag (v+1) 0 (by omega) (by omega);simpa[KK]using this
  have b2:bits .and .u64 S 2147483647=0:=by rw[hS,hV];have:=st_waiters (v+1) 0 (by omega) (by omega);simpa[KK]using this
  have c1:IntKind.i32.wrap V=V:=by rw[IntKind.wrap_i32];omega
  have aj:1<V:=by omega
  have am:V<2147483648:=by omega
  have q1:(V == 1)=false:=by simp;omega
  have q2:decide (V=1)=false:=decide_eq_false (by omega);have q3:decide (V<0)=false:=decide_eq_false (by omega);have q4:decide (0<V)=true:=decide_eq_true (by omega);have q5:(V == 0)=false:=by simp;omega
  have q6:decide (V=0)=false:=decide_eq_false (by omega);refine⟨_,(stepG_add_atomic rfl rfl (by k_ne) rfl H.f_addU64 (x_addU64_n L) (x_addU64_b L) (x_addU64_x L) .u64 (x_addU64_f L) rfl rfl hw.cellSt (hw.thaw 0)).trans (by rw[eS];rfl),?_⟩;replace I:F (Y.setCell (stA Wg) (.int .u64 S))/\WgLive L.tWg Wg (Y.setCell (stA Wg) (.int .u64 S)):=⟨ah _ _ (aside_setCell Y (stA Wg) _) I.1,⟨_,_,hw.setSt _⟩⟩
  clear hw hS hV eS;walk_nrm;refine Way.go (n:=400) ?_;u_op (jy E) I;u_c stepG_region_end (jy E) I;u_c stepG_ret' (jy E) I;u_leave1 H.f_uAdd (jy E) I;u_op (jy E) I;u_c stepG_region_end (jy E) I
  iterate 2 u_c stepG_seq (jy E) I
  u_reg (jy E) I
  iterate 4 u_op (jy E) I
  iterate 2 u_skip (jy E) I
  u_op (jy E) I;u_c stepG_region_end (jy E) I;u_cnd false (jy E) I;u_c stepG_skip (jy E) I;u_c stepG_seq (jy E) I;u_reg (jy E) I
  iterate 4 u_op (jy E) I
  u_c stepG_region_end (jy E) I;u_c stepG_seq (jy E) I;u_reg (jy E) I
  iterate 4 u_op (jy E) I
  u_c stepG_region_end (jy E) I
  iterate 2 u_c stepG_seq (jy E) I
  u_reg (jy E) I
  iterate 10 u_op (jy E) I
  u_c stepG_region_end (jy E) I;u_cnd false (jy E) I;u_c stepG_skip (jy E) I
  iterate 2 u_c stepG_seq (jy E) I
  u_reg (jy E) I
  iterate 2 u_op (jy E) I
  u_c stepG_region_end (jy E) I;u_cnd false (jy E) I;u_c stepG_skip (jy E) I
  iterate 2 u_c stepG_seq (jy E) I
  u_reg (jy E) I
  iterate 3 u_op (jy E) I
  iterate 2 u_skip (jy E) I
  iterate 2 u_op (jy E) I
  iterate 4 u_skip (jy E) I
  u_op (jy E) I;u_c stepG_region_end (jy E) I;u_cnd false (jy E) I;u_c stepG_skip (jy E) I
  iterate 2 u_c stepG_seq (jy E) I
  u_reg (jy E) I
  iterate 3 u_op (jy E) I
  iterate 2 u_skip (jy E) I
  u_op (jy E) I;u_c stepG_region_end (jy E) I;u_cnd true (jy E) I;u_c stepG_ret' (jy E) I;refine Goes.stop (λaf R=>Way.stop λae J=>?_);replace I:=jy E (jy E I R) J;clear R J;refine⟨rfl,_,stepG_unwind_entry (v:=.tuple #[]) (evs:=#[Go.ConcR.mk .enable]) rfl H.f_enable (x_enable_n L) (x_enable_b L) (x_enable_x L) (x_enable_f L) (by simp[Extern.Race.none_]) (by simp[Go.ConcR.mk]) (by simp[Go.ConcR.mk]),?_⟩;refine Way.go (n:=2) ?_;u_leave0 H.f_add (jy E) I;exact Goes.stop λai ac=>hT _ (jy E I ac)
end
end
end Cr
end Go.Proofs.YtpibpdpedjinhaaGreatDoor
