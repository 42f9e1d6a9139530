import Derived.Test.YtpibpdpedjinhabGreatDoorP01
import Derived.Conc.WgGenN3
set_option maxRecDepth 100000
set_option maxHeartbeats 8000000
set_option linter.all false
open Bool renaming false->aR,true->bB
open Go renaming Goroutine->cA,Program->cU,World->X,undef->aH
open Go.Conc renaming Goes->iA,aside_setCell->ir,stepG_region_end->bA,stepG_ret'->lE,stepG_seq->cE,stepG_skip->ij
open Go.Conc.Goes renaming stop->cL
open Go.ConcR renaming Payload->pc,mk->cX
open Go.GoStatus renaming running->eC
open Option renaming none->Z,some->M
namespace Go.Proofs.YtpibpdpedjinhabGreatDoor
namespace Cr
open Go Go.Conc Go.ConcN
open Go.ConcR (KK wgBlock WgAt stA smA rd wr Payload DC0)
section
variable {t:Trace}
section
variable [pc]{P:cU}{S:Who}{Q:Left}{Shun:Loc->Prop}{m:Nat}{Fin AnchW:kC->cA->X->Prop}
def ni(P:cU)(S:Who)(Q:Left)(Shun:Loc->Prop)(m:Nat)(Fin:kC->cA->X->Prop)(E:Machine)(t:Trace):Prop:=
 ∃(z:Array cA)(w:X)(sl:Option (Nat×Nat))(D:Nat->WD)(F:Nat->Tr)(K:Nat->kC)(a:cA)(q:Nat->Nat),
  E=crowd z w sl/\z[0]? =M a/\Fin (K 0) a w/\Co P S Q Shun m S.n z w t D F 0 K q/\AllQuit S.n D/\Acq S m S.n t/\WgAt S.ty S.Wg w 0 0
omit [Payload] in
def Oh{j:Nat}{D:Nat->WD}(h:1<=Vc j D):∃i,i<j/\5<=(D i).stage:=exists_counted h
def OV(hm:1<=m)(hQ:Q.nR)(hn:S.n<2147483648)(hF:∀K g w,Fin K g w->g.status=eC)(hA:∀K g w,AnchW K g w->g.status=eC)(ar:∀K g w,AnchW K g w->∃T,jT P bB S Z (tV P S Fin AnchW) T K g w)(aq:∀K g w d,Fin K g w->Fin K g (w.at d)){μ:Mu}{mc:Machine}(h:Inv P S Q Shun m Fin AnchW μ mc t):ni P S Q Shun m Fin mc t\/∃m' ops ak,stepT P mc=(.next m',ops)/\pU S.n ak μ/\Inv P S Q Shun m Fin AnchW ak m' (t++ops):=by
 obtain⟨gs,w,sl,j,D,F,tag,f0,d0,K,a,st,sm,q,rfl,ha,af,E,an,z,I,rfl⟩:=h;by_cases ah:tag=.ret/\Fin (K 0) a w
 .obtain⟨rfl,am⟩:=ah;obtain⟨hq,rfl,rfl⟩:=z.fin_inv trivial;generalize hK:K 0=K₀ at af;cases af with
  |ret _=>exact .inl ⟨gs,w,sl,D,F,K,a,q,rfl,ha,am,E,hq,I rfl,an⟩
 .have ai:∀g∈gs,Go.Conc.awake g:=by
   intro g R tm;obtain⟨i,hi⟩:=Array.mem_iff_getElem?.1 R;by_cases h0:i=0
   .subst h0;rw[ha]at hi;cases hi;rcases af.status hF hA with⟨hs,_⟩|⟨hs,_⟩<;>rw[hs]<;>simp
   .obtain J|ao:=gG i m
    .obtain⟨g',Y,ap⟩:=E.old i aA J;rw[hi]at Y;cases Y;rcases ap.status with h|h<;>rw[h]<;>simp
    .have J:i<m+j:=by have:=(jE hi);rw[E.size]at this;omega
     obtain⟨g',Y,hs⟩:=E.wk (i-m) aA;rw[show m+(i-m)=i by omega,hi]at Y;cases Y;rcases hs.status with h|h<;>rw[h]<;>simp
  have runs:∃(i:Nat)(g:cA),gs[i]? =M g/\g.status=eC:=by
   obtain⟨hs,_⟩|⟨_,rfl⟩:=af.status hF hA
   .grind
   .cases z with
    |opn h1 _ _=>exact h1.elim
    |reg _ _ h3=>
     obtain⟨i,hi,h5⟩:=Oh h3;obtain⟨g,R,hs⟩:=E.wk i hi;exact⟨_,g,R,hs.running_of aA⟩
    |last L _ h2 h3 _=>
     obtain⟨g,R,hs⟩:=E.wk L h2;exact⟨_,g,R,hs.running_of aA⟩
    |fin h1 _=>exact h1.elim
  obtain⟨i,g,d,au,R,ae,aj⟩:=crowd_pick (P:=P) (w:=w) (sl:=sl) ai runs;rw[aj];have ag:=af.rely (En.at S Z _ w d);have ac:=E.at hQ d;have aa:WgAt S.ty S.Wg (w.at d) st sm:=an;right;by_cases h0:i=0
  .subst h0;rw[ha]at R;cases R;exact adD hm hQ hn ar ha ag ac aa z I ae λ⟨h1,h2⟩=>ah ⟨h1,(show Fin _ a ((w.at d).at _) from aq _ _ _ _ h2)⟩
  .obtain J|ao:=gG i m
   .exact Zr hF hA ha ag ac aa z I aA J R ae
   .have J:i<m+j:=by have:=(jE R);rw[E.size]at this;omega
    have e:m+(i-m)=i:=aA
    have:=adK (sl:=au) hm hQ hF hA hn ha ag ac aa z I (i:=i-m) aA (g:=g) (by rw[e];exact R) ae;rw[e]at this;exact this
def N7(hm:1<=m)(hQ:Q.nR)(hn:S.n<2147483648)(hF:∀K g w,Fin K g w->g.status=eC)(hA:∀K g w,AnchW K g w->g.status=eC)(ac:∀K g w,AnchW K g w->∃T,jT P bB S Z (tV P S Fin AnchW) T K g w)(Y:∀K g w d,Fin K g w->Fin K g (w.at d))(R:Mu):∀(I:Machine)(t:Trace),Inv P S Q Shun m Fin AnchW R I t->∃X1 z E,runNT P X1 I t=(.next z,E)/\ni P S Q Shun m Fin z E:=by
 induction R using(pU.wf S.n).induction with
 |_ R ih=>
  intro I t h;obtain h|⟨m',ops,aa,hs,J,h'⟩:=OV hm hQ hn hF hA ac Y h
  .exact⟨0,I,t,rfl,h⟩
  .obtain⟨X1,z,E,hr,he⟩:=ih aa J m' _ h';exact⟨X1+1,z,E,by simp only[runNT,hs];exact hr,he⟩
def phase{B:Nat}(hQ:Q.nR)(hn:S.n<2147483648)(hF:∀K g w,Fin K g w->g.status=eC)(hA:∀K g w,AnchW K g w->g.status=eC)(a2:∀K g w,AnchW K g w->∃T,jT P bB S Z (tV P S Fin AnchW) T K g w)(ap:∀K g w d,Fin K g w->Fin K g (w.at d)){E:Array cA}{a:cA}{w:X}{sl:Option (Nat×Nat)}{q:Nat->Nat}{K0:kC}(ha:E[0]? =M a)(hL:Leavers P t E q)(hP:Past Shun B t)(hW:∀b,K0.W b->K0.O b)(hO:∀b,K0.O b->b<w.heap.size/\b≠S.Wg/\b≠S.C/\∀l,blk l=M b->¬Shun l)(hWg:S.Wg<w.heap.size)(hC:S.C<w.heap.size)(aa:S.C≠S.Wg)(hB:B<=S.Wg)(az:B<=S.C\/∀i,¬Shun (.cell ⟨S.C,i,Z⟩))(ar:∀b,K0.W b->S.lo<=b)(av:S.lo<=S.Wg)(aw:S.lo<=S.C)(am:WgAt S.ty S.Wg w 0 0)(an:PayAt S.C S.n w)(Y:qA P S AnchW Q S.n K0 a w):∃X1 J a' w' ae t' q' K,runNT P X1 (crowd E w sl) t=(.next (crowd J w' ae),t')/\J[0]? =M a'/\Fin K a' w'/\Leavers P t' J q'/\Past (λl=>Shun l\/ShN S.Wg l) w'.heap.size t'/\(∀i,i<S.n->∃v O,Has S.C i v w'/\Q i v O w')/\PayAt S.C S.n w'/\WgAt S.ty S.Wg w' 0 0:=by
 have ay:1<=E.size:=by have:=(jE ha);omega
 have apt:Jy S w.heap.size 0 (λ_=>K0):=⟨λp _ b hb=>hW b hb,λp _ b hb=>let ⟨h1,h2,h3,_⟩:=hO b hb;⟨h1,h2,h3⟩,λp q hp hq aa=>Xs aA aa,hWg,hC,aa,λ_ _=>ar,av,aw⟩
 have ag:Co P S Q Shun E.size 0 E w t (λ_=>⟨0,0,0⟩) (λ_=>.leaf) 0 (λ_=>K0) q:=
  ⟨rfl,λi I=>aA,λi I a0=>⟨_,aC,hL.old i _ I (dA a0)⟩,
   TI.begin hP hL.above hB az aA (λb hb=>(hO b hb).2.2.2) hW,apt,hP.hears,λi I=>aA,λi I=>aA,an⟩
 have R:∀tag,isOpen tag->pend tag=0->(∀vs,tag≠.w2 vs)->Go.ConcN.Mode 0 (λ_=>(⟨0,0,0⟩:WD)) tag 0 0:=λtag h1 h2 h3=>by
  have:=Go.ConcN.Mode.opn (j:=0) (D:=λ_=>(⟨0,0,0⟩)) h1 (λi I=>aA) (λvs e=>Xs e (h3 vs));simpa[Vc,sumTo,h2]using this
 have ai:∃μ,Inv P S Q Shun E.size Fin AnchW μ (crowd E w sl) t:=by
  cases ac:S.n with
  |zero=>
   rw[ac]at Y;obtain⟨T,hk⟩:=Y;refine⟨_,E,w,sl,0,_,_,_,(0,T),0,_,a,0,0,q,rfl,ha,?_,ag,am,R .kd trivial rfl aC,aC,rfl⟩;have:=CS.kd (P:=P) (S:=S) (Fin:=Fin) (AnchW:=AnchW) (Q:=Q) hk;rwa[ac]at this
  |succ r=>
   rw[ac]at Y;obtain⟨T,hk⟩:=Y;refine⟨_,E,w,sl,0,_,_,_,(0,T),0,_,a,0,0,q,rfl,ha,?_,ag,am,R (.sp r 5) trivial rfl aC,aC,rfl⟩;have:=CS.skd (P:=P) (S:=S) (Fin:=Fin) (AnchW:=AnchW) (Q:=Q) (r:=r) aA hk
   grind
 obtain⟨μ,hI⟩:=ai;obtain⟨X1,a5,t',hr,J,w',ae,D,F,K,a',q',rfl,a3,ak,z,hq,⟨x,a1,ao,au,aq⟩,af⟩:=N7 ay hQ hn hF hA a2 ap μ _ _ hI
 have res:∀i,i<S.n->∃mq g v,J[E.size+i]? =M g/\QuitsD P mq (Deaf t' (E.size+i)) g/\Has S.C i v w'/\Q i v (K (i+1)).O w':=by
  intro i I;obtain⟨g,hg,hs⟩:=z.wk i I;obtain⟨mq,_,aj,v,hv,hh⟩:=hs.quits (hq i I);exact⟨mq,g,v,hg,by rw[z.deafW i I];exact aj,hh,hv⟩
 obtain⟨f,hf⟩:∃f:Nat->Nat,∀i,i<S.n->∃g v,J[E.size+i]? =M g/\QuitsD P (f i) (Deaf t' (E.size+i)) g/\Has S.C i v w'/\Q i v (K (i+1)).O w':=
  ⟨λi=>if h:i<S.n then Classical.choose (res i h)else 0,λi I=>by grind⟩
 refine⟨X1,J,a',w',ae,t',λi=>if E.size<=i then f (i-E.size)else q' i,_,hr,a3,ak,⟨λi g I hg=>?_,λi I=>?_⟩,z.ti.past z.deaf0 a1 ao au aq,λi I=>?_,z.pay,af⟩
 .obtain ah|a6:=gG i E.size
  .rw[Zs aA];obtain⟨g',a4,aj⟩:=z.old i I ah
   grind
  .have ah:i-E.size<S.n:=by have:=(jE hg);rw[z.size]at this;omega
   grind
 .exact z.ti.above i (by rw[z.size]at I;exact I)
 grind
end
end
open Go Go.Conc Go.ConcN Go.RowKit Go.Conc.Lib Go.ConcR.Gen Go.ConcN.Gen
section
section
variable [pc]{P:cU}{S:Who}{K:kC}{St:kC->cA->X->Prop}{g:cA}{w:X}
def Way(P:cU)(S:Who)(St:kC->cA->X->Prop)(K:kC)(g:cA)(w:X):Prop:=∃T,jT P bB S Z St T K g w
def Way.go{n:Nat}(h:iA P bB (En S Z K) DC0 (λg w=>Way P S St K g w) n g w):Way P S St K g w:=by obtain⟨T,z⟩:=jT.QA (λ_ _ x=>x) h;exact z.bind λE g w ⟨e,hw⟩=>by rw[e];exact hw
def Way.stop(h:∀z,En S Z K w z->St K g z):Way P S St K g w:=jT.stop h
def Way.said{g':cA}(hs:g.status=eC){k:Mark}(hk:k=.read (smA S.Wg)\/k=.write (smA S.Wg))(J:∀z,En S Z K w z->stepG P bB g z=.go g' z #[cX k])(h:∀z,En S Z K w z->Way P S St K g' z):Way P S St K g w:=by
 refine jT.one hs λz E=>⟨g',z,_,J z E,⟨rfl,rfl,rfl,jB,λ_ _ _ _=>rfl,id,λ_ _=>rfl,λe I=>?_⟩,by rw[kR];exact h z E⟩
 simp only[List.mem_toArray,dD,List.not_mem_nil,or_false]at I;subst I;exact .inr (.inr ⟨rfl,by grind⟩)
end
section
variable [pc]{L:WgLink}{Wg C n lo:Nat}{Q:Left}{i:Nat}{Next:kC->cA->X->Prop}{K:kC}{F:X->Prop}
 {b₀:Frame} {a₀:Act} {ops₀:Array Oper} {i₀:Nat} {rest₀:List Nat} {k₀:List Item} {cs:List Frame}
def jA{S:Who}{K:kC}{F:X->Prop}(E:∀w w',En S Z K w w'->F w->F w'){w z:X}(h:F w/\WgLive S.ty S.Wg w)(r:En S Z K w z):F z/\WgLive S.ty S.Wg z:=⟨E _ _ r h.1,r.live h.2⟩
def addPos{P:cU}(H:WgLib P L)(E:∀w w',En (Who.mk Wg C n L.tWg lo) Z K w w'->F w->F w')(ai:∀w w',Aside Wg w w'->F w->F w')(hT:∀w,F w/\WgLive L.tWg Wg w->Way P ⟨Wg,C,n,L.tWg,lo⟩ (Wn P ⟨Wg,C,n,L.tWg,lo⟩ Q i Next) K (G (b₀.at (a₀.put ((ops₀[i₀]?).bind (·.dst)) (.tuple #[])) (.inRegion ops₀ rest₀::k₀)) cs) w)(w:X)(I:F w/\WgLive L.tWg Wg w):Way P ⟨Wg,C,n,L.tWg,lo⟩ (Lj P ⟨Wg,C,n,L.tWg,lo⟩ Q i Next) K (G ((base L.add).at ⟨#[.pointer (M ⟨Wg,0,Z⟩),.int .i64 1,aH,aH,aH,aH,aH,aH,aH,aH,aH,aH,aH,aH,aH,aH,aH,aH,aH,aH,aH,aH,aH,aH,aH,aH,aH,aH,aH,aH,aH,aH,aH,aH,aH,aH,aH,aH,aH,aH,aH,aH,aH,aH,aH,aH,aH,aH,aH,aH,aH,aH,aH,aH,aH,aH,aH,aH,aH,aH,aH,aH,aH,aH,aH,aH,aH,aH,aH,aH,aH,aH,aH,aH,aH,aH,aH,aH,aH,aH,aH,aH,aH,aH,aH,aH,aH,aH,aH,aH,aH,aH,aH,aH,aH,aH,aH,aH,aH,aH,aH,aH,aH,aH,aH,aH,aH,aH,aH,aH,aH,aH,aH,aH,aH,aH,aH],[]⟩ [.code (body_add L)]) (b₀.at a₀ (.inRegion ops₀ (i₀::rest₀)::k₀)::cs)) w:=by
 lib_facts
 simp only[body_add,addFn,fH];refine Way.go (n:=200) ?_;u_c cE (jA E) I;u_cond bB (jA E) I
 iterate 2 u_c cE (jA E) I
 u_reg (jA E) I
 iterate 2 u_op (jA E) I
 u_c bA (jA E) I;u_cond aR (jA E) I;u_c ij (jA E) I;u_c cE (jA E) I;u_reg (jA E) I;refine cL (λah aa=>Way.stop λY ac=>?_);replace I:=jA E (jA E I aa) ac;clear aa ac;refine⟨rfl,_,stepG_mark0 _ aC rfl rfl (by k_ne) rfl H.f_disable (x_disable_n L) (x_disable_b L) (x_disable_x L) (x_disable_f L),?_⟩;walk_nrm;refine Way.go (n:=200) ?_;u_c bA (jA E) I;u_reg (jA E) I;u_defer (jA E) I;u_c bA (jA E) I;u_c cE (jA E) I;u_reg (jA E) I;u_op (jA E) I;u_c bA (jA E) I
 iterate 2 u_c cE (jA E) I
 u_reg (jA E) I;u_bub (jA E) I;u_c bA (jA E) I;u_cond aR (jA E) I;u_c ij (jA E) I;u_c cE (jA E) I;u_reg (jA E) I
 iterate 6 u_op (jA E) I
 u_call H.f_uAdd (nm_uAdd L) uAddFn (jA E) I;u_c cE (jA E) I;u_reg (jA E) I;u_op (jA E) I;u_c bA (jA E) I;u_c cE (jA E) I;u_reg (jA E) I
 iterate 4 u_op (jA E) I
 refine cL (λah aa=>Way.stop λY ac=>?_);replace I:=jA E (jA E I aa) ac;clear aa ac;refine⟨rfl,λv hv hw=>?_⟩;obtain rfl|am:=gQ v
 .replace hw:WgAt L.tWg Wg Y 0 0:=by simpa using hw
  have z:(((0:Nat):Int)+1)*KK=4294967296:=by simp[KK]
  have e0:IntKind.u64.wrap (0+4294967296)=4294967296:=aB
  rw[z];refine⟨_,(stepG_add_atomic rfl rfl (by k_ne) rfl H.f_addU64 (x_addU64_n L) (x_addU64_b L) (x_addU64_x L) _ (x_addU64_f L) rfl rfl hw.cellSt (hw.thaw 0)).trans (by rw[e0];rfl),?_⟩;replace I:F (Y.setCell (stA Wg) (.int .u64 4294967296))/\WgLive L.tWg Wg (Y.setCell (stA Wg) (.int .u64 4294967296)):=⟨ai _ _ (ir Y (stA Wg) _) I.1,⟨_,_,hw.setSt _⟩⟩
  clear hw;walk_nrm;refine Way.go (n:=400) ?_;u_op (jA E) I;u_c bA (jA E) I;u_c lE (jA E) I;u_leave1 H.f_uAdd (jA E) I;u_op (jA E) I;u_c bA (jA E) I
  iterate 2 u_c cE (jA E) I
  u_reg (jA E) I
  iterate 4 u_op (jA E) I
  iterate 2 u_skip (jA E) I
  u_op (jA E) I;u_c bA (jA E) I;u_cond aR (jA E) I;u_c ij (jA E) I;u_c cE (jA E) I;u_reg (jA E) I
  iterate 4 u_op (jA E) I
  u_c bA (jA E) I;u_c cE (jA E) I;u_reg (jA E) I
  iterate 4 u_op (jA E) I
  u_c bA (jA E) I
  iterate 2 u_c cE (jA E) I
  u_reg (jA E) I
  iterate 10 u_op (jA E) I
  u_c bA (jA E) I;u_cond bB (jA E) I;u_reg (jA E) I
  iterate 3 u_op (jA E) I
  u_conv H.underlying_tPU32 H.room_tU32 (WgLive.cell1 I.2).choose_spec (jA E) I;refine cL (λag R=>?_);replace I:=jA E I R;clear R;refine Way.said rfl (.inl rfl) (λaf J=>stepG_markAt _ aC rfl rfl (by k_ne) rfl H.f_raceRead (x_raceRead_n L) (x_raceRead_b L) (x_raceRead_x L) (x_raceRead_f L) (ad:=⟨_,1,Z⟩) (by simp[Act.eval]<;>rfl)) (λaf J=>?_);replace I:=jA E I J;clear J;walk_nrm;refine Way.go (n:=200) ?_;u_c bA (jA E) I
  iterate 2 u_c cE (jA E) I
  u_reg (jA E) I
  iterate 2 u_op (jA E) I
  u_c bA (jA E) I;u_cond aR (jA E) I;u_c ij (jA E) I
  iterate 2 u_c cE (jA E) I
  u_reg (jA E) I
  iterate 3 u_op (jA E) I
  iterate 2 u_skip (jA E) I
  iterate 2 u_op (jA E) I
  iterate 4 u_skip (jA E) I
  u_op (jA E) I;u_c bA (jA E) I;u_cond aR (jA E) I;u_c ij (jA E) I
  iterate 2 u_c cE (jA E) I
  u_reg (jA E) I
  iterate 3 u_op (jA E) I
  iterate 2 u_skip (jA E) I
  u_op (jA E) I;u_c bA (jA E) I;u_cond bB (jA E) I;u_c lE (jA E) I;refine cL (λag R=>Way.stop λaf J=>?_);replace I:=jA E (jA E I R) J;clear R J;refine⟨rfl,_,stepG_unwind_entry (v:=.tuple #[]) (evs:=#[cX _]) rfl H.f_enable (x_enable_n L) (x_enable_b L) (x_enable_x L) (x_enable_f L) (by simp[Extern.Race.none_]) (by simp[cX]) (by simp[cX]),?_⟩;refine Way.go (n:=2) ?_;u_leave0 H.f_add (jA E) I;exact cL λaj ae=>hT _ (jA E I ae)
 .obtain⟨V,hV⟩:∃V:Int,V=(v:Int)+1:=⟨_,rfl⟩
  obtain⟨S,hS⟩:∃S:Int,S=V*KK:=⟨_,rfl⟩
  have eS:IntKind.u64.wrap ((v:Int)*KK+4294967296)=S:=by rw[IntKind.wrap_u64,hS,hV];simp only[KK];omega
  rw[<-hV,<-hS];have a1:S/4294967296=V:=by rw[hS];simp only[KK];omega
  have b1:bits .and .u64 S 2147483648=0:=by rw[hS,hV];have:=st_flag (v+1) 0 aA aA;simpa[KK]using this
  have b2:bits .and .u64 S 2147483647=0:=by rw[hS,hV];have:=st_waiters (v+1) 0 aA aA;simpa[KK]using this
  have c1:IntKind.i32.wrap V=V:=by rw[IntKind.wrap_i32];omega
  have ak:1<V:=aA
  have an:V<2147483648:=aA
  have q1:(V == 1)=aR:=aF
  have q2:decide (V=1)=aR:=ZZ aA;have q3:decide (V<0)=aR:=ZZ aA;have q4:decide (0<V)=bB:=Z0 aA;have q5:(V == 0)=aR:=aF
  have q6:decide (V=0)=aR:=ZZ aA;refine⟨_,(stepG_add_atomic rfl rfl (by k_ne) rfl H.f_addU64 (x_addU64_n L) (x_addU64_b L) (x_addU64_x L) _ (x_addU64_f L) rfl rfl hw.cellSt (hw.thaw 0)).trans (by rw[eS];rfl),?_⟩;replace I:F (Y.setCell (stA Wg) (.int .u64 S))/\WgLive L.tWg Wg (Y.setCell (stA Wg) (.int .u64 S)):=⟨ai _ _ (ir Y (stA Wg) _) I.1,⟨_,_,hw.setSt _⟩⟩
  clear hw hS hV eS;walk_nrm;refine Way.go (n:=400) ?_;u_op (jA E) I;u_c bA (jA E) I;u_c lE (jA E) I;u_leave1 H.f_uAdd (jA E) I;u_op (jA E) I;u_c bA (jA E) I
  iterate 2 u_c cE (jA E) I
  u_reg (jA E) I
  iterate 4 u_op (jA E) I
  iterate 2 u_skip (jA E) I
  u_op (jA E) I;u_c bA (jA E) I;u_cnd aR (jA E) I;u_c ij (jA E) I;u_c cE (jA E) I;u_reg (jA E) I
  iterate 4 u_op (jA E) I
  u_c bA (jA E) I;u_c cE (jA E) I;u_reg (jA E) I
  iterate 4 u_op (jA E) I
  u_c bA (jA E) I
  iterate 2 u_c cE (jA E) I
  u_reg (jA E) I
  iterate 10 u_op (jA E) I
  u_c bA (jA E) I;u_cnd aR (jA E) I;u_c ij (jA E) I
  iterate 2 u_c cE (jA E) I
  u_reg (jA E) I
  iterate 2 u_op (jA E) I
  u_c bA (jA E) I;u_cnd aR (jA E) I;u_c ij (jA E) I
  iterate 2 u_c cE (jA E) I
  u_reg (jA E) I
  iterate 3 u_op (jA E) I
  iterate 2 u_skip (jA E) I
  iterate 2 u_op (jA E) I
  iterate 4 u_skip (jA E) I
  u_op (jA E) I;u_c bA (jA E) I;u_cnd aR (jA E) I;u_c ij (jA E) I
  iterate 2 u_c cE (jA E) I
  u_reg (jA E) I
  iterate 3 u_op (jA E) I
  iterate 2 u_skip (jA E) I
  u_op (jA E) I;u_c bA (jA E) I;u_cnd bB (jA E) I;u_c lE (jA E) I;refine cL (λag R=>Way.stop λaf J=>?_);replace I:=jA E (jA E I R) J;clear R J;refine⟨rfl,_,stepG_unwind_entry (v:=.tuple #[]) (evs:=#[cX _]) rfl H.f_enable (x_enable_n L) (x_enable_b L) (x_enable_x L) (x_enable_f L) (by simp[Extern.Race.none_]) (by simp[cX]) (by simp[cX]),?_⟩;refine Way.go (n:=2) ?_;u_leave0 H.f_add (jA E) I;exact cL λaj ae=>hT _ (jA E I ae)
end
end
end Cr
