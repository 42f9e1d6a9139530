import Derived.Test.YtpibpdpedjinhaaGreatDoorP01
set_option maxRecDepth 100000
set_option maxHeartbeats 1600000
set_option linter.all false
open Go renaming Goroutine->bO,Program->cY,World->U,deafBehind->gN
open Go.ConcN renaming Mode->ir,upd_same->fN
open Go.ConcR renaming g_of_ofEvents->fS,mk->cV
open Go.GoStatus renaming running->eJ
open Go.MemOp renaming ofEvents->eD
open Option renaming none->Z,some->M
open Or renaming inl->cJ,inr->cK
namespace Go.Proofs.YtpibpdpedjinhaaGreatDoor
namespace Cr
open Go Go.Conc Go.ConcN
open Go.ConcR (KK wgBlock WgAt stA smA rd wr Payload DC0 Bk g_of_ofEvents again_blocked loc_of_ofEvent bk_of_mute ofEvent_loc_mark ofEvent_mk)
section
variable {Wg:Nat}
section
variable [Payload]{P:cY}{S:Who}{Q:Left}{Shun:Loc->Prop}{m:Nat}{Fin AnchW:jZ->bO->U->Prop}
 {gs:Array bO} {w w':U} {sl:Option (Nat×Nat)} {j:Nat} {D:Nat->WD} {F:Nat->Tr} {tag tag':CTag} {f0 f':Nat×Tr} {d0:Nat} {K:Nat->jZ} {a a':bO} {t:Trace} {st sm st' sm':Int} {q:Nat->Nat} {es:Array Event}
theorem Ip(hm:1<=m)(hQ:Q.nN)(ha:gs[0]? =M a)(J:Co P S Q Shun m j gs w t D F d0 K q){K0:jZ}(ah:stepG P true a w=.go a' w' es)(af:∀p,p<=j->p≠0->En S (who p) (K p) w w')(ag:TI S Shun m (t++eD 0 a.frame.fn a.frame.place es) w'.heap.size j (upd K 0 K0))(I:KN S w'.heap.size j (upd K 0 K0))(aa:PayAt S.C S.n w')(ab:CS P S Fin AnchW Q tag' j f' (gN d0 es) K0 a' w')(ai:WgAt S.ty S.Wg w' st' sm')(E:ir j D tag' st' sm')(ac:tag'=.ret->Acq S m j (t++eD 0 a.frame.fn a.frame.place es))(ae:phi S.n (Vc j D) tag'<phi S.n (Vc j D) tag\/(phi S.n (Vc j D) tag'=phi S.n (Vc j D) tag/\FX f' f0)):Down P S Q Shun m Fin AnchW ((sumTo m q,phi S.n (Vc j D) tag+Ssum j D),(F,f0)) (crowd gs w sl) t 0:=by
 have Y:=runT_crowd_go (P:=P) (sl:=sl) (i:=0) ha (by simpa using ah)
 refine⟨_,_,_,Y,?_,
  _,w',sl,j,D,F,tag',f',_,_,a',st',sm',q,rfl,get_map_set_same _ _ _ (by rw[J.size];omega),by rw[fN];exact ab,J.step0 hm hQ af ag I aa,ai,E,ac,rfl⟩
 obtain h|⟨h1,h2⟩:=ae
 .exact qA.stage aA
 .rw[h1];exact qA.own h2
theorem nD(hm:1<=m)(hQ:Q.nN)(ha:gs[0]? =M a)(I:Co P S Q Shun m j gs w t D F d0 K q)(ae:stepG P true a w=.go a' w' es)(E:Gu S Z (K 0) w w' es)(af:WgAt S.ty S.Wg w st sm)(J:ir j D tag st sm)(aa:tag=.ret->Acq S m j t)(Y:CS P S Fin AnchW Q tag j f' d0 ((K 0).grow w.heap.size w'.heap.size) a' w')(ab:FX f' f0):Down P S Q Shun m Fin AnchW ((sumTo m q,phi S.n (Vc j D) tag+Ssum j D),(F,f0)) (crowd gs w sl) t 0:=by
 have A:=I.apt;have hd:=deafBehind_idle (λe he=>⟨(Et A (p:=0) (dL _) E.size (E.events e he)).2.2.2.1,(Et A (p:=0) (dL _) E.size (E.events e he)).2.2.2.2⟩) d0
 exact Ip hm hQ ha I ae (λp hp ac=>Gu.en (p:=0) A (dL _) hp ac E) (I.ti.plain hm A (p:=0) (dL _) E.size E.events) (A.grow E.size (dL _)) (E.pay I.pay)
  (by rw[hd];exact Y) (af.of_block (Gu.wg (p:=0) A (dL _) E)) J (λe=>(aa e).app λi r _ hr=>hr.appOther fS aA) (cK ⟨rfl,ab⟩)
theorem oM(hm:1<=m)(hQ:Q.nN)(ha:gs[0]? =M a)(I:Co P S Q Shun m j gs w t D F d0 K q)(af:stepG P true a w=.go a' w' es)(E:Aside S.Wg w w')(Y:WgAt S.ty S.Wg w' st' sm')(ae:∀e∈es,BkW S.Wg e)(aa:CS P S Fin AnchW Q tag' j f' (gN d0 es) (K 0) a' w')(J:ir j D tag' st' sm')(ab:tag'=.ret->Acq S m j (t++eD 0 a.frame.fn a.frame.place es))(ac:phi S.n (Vc j D) tag'<phi S.n (Vc j D) tag\/(phi S.n (Vc j D) tag'=phi S.n (Vc j D) tag/\FX f' f0)):Down P S Q Shun m Fin AnchW ((sumTo m q,phi S.n (Vc j D) tag+Ssum j D),(F,f0)) (crowd gs w sl) t 0:=by
 have A:=I.apt;obtain⟨cs,h1,h2⟩:=I.pay;exact Ip hm hQ ha I af (λp hp _=>acH A hp E ⟨_,_,Y⟩) (by rw[yE,E.size];exact I.ti.book hm A (p:=0) (dL _) ae) (by rw[yE,E.size];exact A) ⟨cs,(E.block _ A.ne).trans h1,h2⟩ aa Y J ab ac
omit [Payload] in
theorem Ro:∀e∈#[cV .disable],BkW Wg e:=λe q=>cJ (bk_dis e q)
omit [Payload] in
theorem YV:∀e∈#[cV .enable],BkW Wg e:=λe q=>cJ (bk_en e q)
omit [Payload] in
theorem KI:∀e∈#[rd (stA Wg)],BkW Wg e:=λe q=>cJ (bk_rd e q)
omit [Payload] in
theorem YX:∀e∈#[rd (stA Wg),wr (stA Wg)],BkW Wg e:=λe q=>cJ (bk_rw e q)
omit [Payload] in
theorem aa7:∀e∈semEvents (smA Wg),BkW Wg e:=λe q=>cJ (bk_sem e q)
omit [Payload] in
theorem aam:∀e∈#[cV (.acquire (stA Wg))],BkW Wg e:=by intro e q;simp at q;subst q;exact cK (cK rfl)
theorem afb(hm:1<=m)(hQ:Q.nN)(hn:S.n<2147483648)(ha:gs[0]? =M a)(Y:Co P S Q Shun m S.n gs w t D F 1 K q)(J:WgAt S.ty S.Wg w st sm)(E:ir S.n D .w1 st sm){T:Tr}(h:jQ P true S Z (uN P S Fin AnchW) T (K 0) a w):Down P S Q Shun m Fin AnchW ((sumTo m q,phi S.n (Vc S.n D) .w1+Ssum S.n D),(F,(0,T))) (crowd gs w sl) t 0:=by
 have ae:=Vc_le S.n D;obtain⟨_,ab⟩|⟨f,g',w',es,rfl,I,ac,hT⟩:=h.cases
 .obtain⟨ho,rfl,rfl,_⟩:=E.open_inv trivial;obtain⟨a',I,h0,h1⟩:=ab (Vc S.n D) aA (by simpa[pend]using J);by_cases e:Vc S.n D=0
  .obtain⟨aa,hk⟩:=h0 e;refine oM hm hQ ha Y I (.refl _ w) J KI (.ke hk) ?_ aC (cJ (by simp only[phi];omega));have:=Go.ConcN.Mode.fin (j:=S.n) (D:=D) (tag:=.ke) trivial (allQuit_of ho e);simpa[e,pend]using this
  .obtain⟨aa,hk⟩:=h1 e;exact oM hm hQ ha Y I (.refl _ w) J KI (.w2 hk) (E.reopen trivial trivial rfl (λvs hv=>by grind)) aC (cJ (by simp only[phi];omega))
 .exact nD hm hQ ha Y I ac J E aC (.w1 hT) (.way (Tr.lt f w))
theorem adW(hm:1<=m)(hQ:Q.nN)(hn:S.n<2147483648)(a8:∀K g w,AnchW K g w->∃T,jQ P true S Z (uN P S Fin AnchW) T K g w)(ha:gs[0]? =M a)(av:CS P S Fin AnchW Q tag j f0 d0 (K 0) a w)(Y:Co P S Q Shun m j gs w t D F d0 K q)(J:WgAt S.ty S.Wg w st sm)(E:ir j D tag st sm)(ax:tag=.ret->Acq S m j t)(ay:a.status=eJ)(bb:¬(tag=.ret/\Fin (K 0) a w)):Down P S Q Shun m Fin AnchW ((sumTo m q,phi S.n (Vc j D) tag+Ssum j D),(F,f0)) (crowd gs w sl) t 0:=by
 have bg:=Vc_le j D;generalize hK:K 0=K₀ at av;cases av with
 |skd hr h=>
  subst hK;obtain⟨_,a',I,ab,hk⟩|⟨f,g',w',es,rfl,I,aa,hT⟩:=h.cases
  .exact oM hm hQ ha Y I (.refl _ w) J Ro (.sa1 hr hk) (E.reopen trivial trivial rfl aC) aC (cJ (by simp only[phi];omega))
  .exact nD hm hQ ha Y I aa J E aC (.skd hr hT) (.way (Tr.lt f w))
 |sa1 hr h=>
  rename_i r T;subst hK;obtain⟨_,af⟩|⟨f,g',w',es,rfl,I,aa,hT⟩:=h.cases
  .obtain⟨ho,rfl,rfl,_⟩:=E.open_inv trivial;obtain⟨a',I,ab,hk⟩:=af (Vc (S.n-(r+1)) D) aA (by simpa[pend]using J);refine oM hm hQ ha Y I (aside_setCell w (stA S.Wg) _) (J.setSt _) YX (.ske hr hk) ?_ aC (cJ (by simp only[phi];omega));have e:(((Vc (S.n-(r+1)) D:Nat):Int)+1)*KK=((Vc (S.n-(r+1)) D+pend (.sp r 3):Nat):Int)*KK:=by simp[pend]
   rw[e];exact .opn trivial ho aC
  .exact nD hm hQ ha Y I aa J E aC (.sa1 hr hT) (.way (Tr.lt f w))
 |ske hr h=>
  subst hK;obtain⟨_,a',I,ab,hk⟩|⟨f,g',w',es,rfl,I,aa,hT⟩:=h.cases
  .exact oM hm hQ ha Y I (.refl _ w) J YV (.sgo hr hk) (E.reopen trivial trivial rfl aC) aC (cJ (by simp only[phi];omega))
  .exact nD hm hQ ha Y I aa J E aC (.ske hr hT) (.way (Tr.lt f w))
 |sgo hr h=>
  rename_i r T;subst hK;obtain⟨_,a',aj,K0,Kc,a6,_,a4,a5,a9,a3,d1,d2,w0,wc,aw,ag⟩|⟨f,g',w',es,rfl,I,aa,hT⟩:=h.cases
  .obtain⟨ab,a2⟩:=aw Y.pay ⟨_,_,J⟩;obtain⟨ho,rfl,rfl,_⟩:=E.open_inv trivial;have ac:=runT_crowd_spawn (P:=P) (sl:=sl) (i:=0) ha (by simpa using a6);rw[Y.size]at ac;have ae:=Y.spawn hm (a':=a') (x:={ g:=0,fn:=a.frame.fn,pos:=a.frame.place,act:=.go _ }) (y:={ g:=m+(S.n-(r+1)),fn:=aj.frame.fn,pos:=a.frame.place,act:=.start }) ⟨rfl,rfl⟩ ⟨rfl,rfl⟩ a4 a5 a9 a3 d1 d2 w0 wc a2
   have eV:Vc (S.n-(r+1)+1) (upd D (S.n-(r+1)) ⟨7,0,0⟩)=Vc (S.n-(r+1)) D+1:=by
    simp only[Vc,sumTo,fN];rw[sumTo_upd_out D _ cnt jE];rfl
   have eS:Ssum (S.n-(r+1)+1) (upd D (S.n-(r+1)) ⟨7,0,0⟩)=Ssum (S.n-(r+1)) D+7:=by
    simp only[Ssum,sumTo,fN];rw[sumTo_upd_out D _ WD.stage jE]
   have am:OpenSt (S.n-(r+1)+1) (upd D (S.n-(r+1)) ⟨7,0,0⟩):=λi hi=>by
    by_cases e:i=S.n-(r+1)
    .subst e;rw[fN];simp
    .rw[upd_ne D _ e];exact ho i aA
   have az:((gs.setIfInBounds 0 a').push aj)[0]? =M a':=by
    have:0<gs.size:=by rw[Y.size];omega
    rw[Array.getElem?_push_lt (by simp;exact this),<-dA];simp[this]
   have ej:S.n-(r+1)+1=S.n-r:=aA
   have eK:upd (upd K 0 K0) (S.n-r) Kc 0=K0:=by rw[upd_ne _ _ aA,fN]
   rw[ej]at ae eV eS am;have ap:∀ah,pend ah=0->((Vc (S.n-(r+1)) D+pend (.sp r 2):Nat):Int)*KK=((Vc (S.n-r) (upd D (S.n-(r+1)) ⟨7,0,0⟩)+pend ah:Nat):Int)*KK:=λah hp=>by rw[eV,hp];simp[pend]
   cases r with
   |zero=>
    obtain⟨ai,hk⟩:=ag;simp only[Nat.sub_zero]at ae eV eS am ap eK
    refine⟨_,_,_,ac,qA.stage (by simp only[phi];omega),
     _,w,sl,_,_,_,.kd,(0,ai),0,_,a',_,_,q,rfl,az,by rw[eK];exact .kd hk,ae,J,?_,aC,rfl⟩
    rw[ap .kd rfl];exact .opn trivial am aC
   |succ r'=>
    obtain⟨ai,hk⟩:=ag
    refine⟨_,_,_,ac,qA.stage (by simp only[phi];omega),
     _,w,sl,_,_,_,.sp r' 5,(0,ai),0,_,a',_,_,q,rfl,az,by rw[eK];exact .skd aA hk,ae,J,?_,aC,rfl⟩
    rw[ap (.sp r' 5) rfl];exact .opn trivial am aC
  .exact nD hm hQ ha Y I aa J E aC (.sgo hr hT) (.way (Tr.lt f w))
 |kd h=>
  subst hK;obtain⟨_,a',I,ab,hk⟩|⟨f,g',w',es,rfl,I,aa,hT⟩:=h.cases
  .exact oM hm hQ ha Y I (.refl _ w) J Ro (.anch hk) (E.reopen trivial trivial rfl aC) aC (cJ (by simp only[phi];omega))
  .exact nD hm hQ ha Y I aa J E aC (.kd hT) (.way (Tr.lt f w))
 |anch h=>
  subst hK;obtain ak|⟨f,g',w',es,rfl,I,aa,hT⟩:=h.cases
  .obtain⟨ab,hk⟩:=a8 _ _ _ ak;obtain⟨au,ops,a7,h1,h2,h3⟩:=afb (sl:=sl) hm hQ hn ha Y J (E.reopen trivial trivial rfl aC) hk;refine⟨au,ops,a7,h1,?_,h3⟩;exact qA.trans h2 (by simp only[phi];omega) rfl
  .exact nD hm hQ ha Y I aa J E aC (.anch hT) (.way (Tr.lt f w))
 |w1 h=>subst hK;exact afb hm hQ hn ha Y J E h
 |w2 h=>
  rename_i vs T;subst hK;obtain⟨_,af⟩|⟨f,g',w',es,rfl,I,aa,hT⟩:=h.cases
  .obtain⟨ho,rfl,rfl,a1⟩:=E.open_inv trivial;obtain⟨bd,h1⟩:=a1 vs rfl;obtain⟨ar,aq⟩:=af (Vc S.n D) aA (by simpa[pend]using J);by_cases e:Vc S.n D=vs
   .obtain⟨a',I,ab,hk⟩:=ar e;exact oM hm hQ ha Y I (aside_setCell w (stA S.Wg) _) (J.setSt _) YX (.w3 hk) (.reg trivial ho aA) aC (cJ (by simp only[phi];omega))
   .obtain⟨a',I,ab,hk⟩:=aq e;exact oM hm hQ ha Y I (.refl _ w) J KI (.anch hk) (E.reopen trivial trivial rfl aC) aC (cJ (by simp only[phi];omega))
  .exact nD hm hQ ha Y I aa J E aC (.w2 hT) (.way (Tr.lt f w))
 |w3 h=>
  rename_i T;subst hK;cases T with
  |leaf=>
   obtain⟨_,ba,an,ao⟩:=h w (.refl ..);cases E with
   |opn h1 _ _=>exact h1.elim
   |reg h1 h2 h3=>exact oM hm hQ ha Y (an ⟨_,J⟩) (.refl _ w) J aC (.blk h) (.reg trivial h2 h3) aC (cK ⟨rfl,Prod.Lex.left _ _ aA⟩)
   |last L h1 h2 h3 h4=>exact oM hm hQ ha Y (an ⟨_,J⟩) (.refl _ w) J aC (.blk h) (.last L trivial h2 h3 h4) aC (cK ⟨rfl,Prod.Lex.left _ _ aA⟩)
   |sema h2=>
    obtain⟨a',I,ab,hk⟩:=ao J;exact oM hm hQ ha Y I (aside_setCell w (smA S.Wg) _) (J.setSm 0) aa7 (.w4 hk) (.fin trivial h2) aC (cJ (by simp only[phi];omega))
   |fin h1 _=>exact h1.elim
  |node f=>
   obtain⟨g',w',es,I,aa,hT⟩:=h.2 w (.refl ..);exact nD hm hQ ha Y I aa J E aC (.w3 hT) (.way (Tr.lt f w))
 |blk h=>simp at ay
 |w4 h=>
  subst hK;obtain⟨_,hx⟩|⟨f,g',w',es,rfl,I,aa,hT⟩:=h.cases
  .obtain⟨hq,rfl,rfl⟩:=E.fin_inv trivial;obtain⟨a',I,ab,hk⟩:=hx J;exact oM hm hQ ha Y I (.refl _ w) J KI (.ke hk) (.fin trivial hq) aC (cJ (by simp only[phi];omega))
  .exact nD hm hQ ha Y I aa J E aC (.w4 hT) (.way (Tr.lt f w))
 |ke h=>
  subst hK;obtain⟨_,a',I,ab,hk⟩|⟨f,g',w',es,rfl,I,aa,hT⟩:=h.cases
  .obtain⟨hq,rfl,rfl⟩:=E.fin_inv trivial;exact oM hm hQ ha Y I (.refl _ w) J YV (.acq hk) (.fin trivial hq) aC (cJ (by simp only[phi];omega))
  .exact nD hm hQ ha Y I aa J E aC (.ke hT) (.way (Tr.lt f w))
 |acq h=>
  subst hK;obtain⟨_,a',I,ab,hk⟩|⟨f,g',w',es,rfl,I,aa,hT⟩:=h.cases
  .obtain⟨hq,rfl,rfl⟩:=E.fin_inv trivial;refine oM hm hQ ha Y I (.refl _ w) J aam (.ret hk) (.fin trivial hq) (λ_=>?_) (cJ (by simp only[phi];omega));have e1:eD 0 a.frame.fn a.frame.place #[cV (.acquire (stA S.Wg))]=#[{ g:=0,fn:=a.frame.fn,pos:=a.frame.place,act:=.mark (.acquire (stA S.Wg)) }]:=by rw[ofEvents_eq];simp[ofEvent_mk]
   have hy:(t++#[({ g:=0,fn:=a.frame.fn,pos:=a.frame.place,act:=.mark (.acquire (stA S.Wg)) }:MemOp)])[t.size]? =M { g:=0,fn:=a.frame.fn,pos:=a.frame.place,act:=.mark (.acquire (stA S.Wg)) }:=aC
   refine⟨t.size,by rw[e1,act?_of hy],by rw[e1];simp[Trace.g?],by rw[e1];exact⟨0,by simp[Trace.g?],by rw[deaf_old jE];exact Y.deaf0⟩,λi hi=>?_⟩;obtain⟨r,hr⟩:=Y.rel i hi (by rw[hq i hi];omega);exact⟨r,hr.appOther fS aA,lt_of_act? hr.act⟩
  .exact nD hm hQ ha Y I aa J E aC (.acq hT) (.way (Tr.lt f w))
 |ret h=>
  subst hK;obtain ak|⟨f,g',w',es,rfl,I,aa,hT⟩:=h.cases
  .grind
  .exact nD hm hQ ha Y I aa J E ax (.ret hT) (.way (Tr.lt f w))
end
end
open Go.ConcR (KK wgBlock WgAt stA smA rd wr Payload DC0)
section
variable {t:Trace}
section
variable [Payload]{P:cY}{S:Who}{Q:Left}{Shun:Loc->Prop}{m:Nat}{Fin AnchW:jZ->bO->U->Prop}
def ni(P:cY)(S:Who)(Q:Left)(Shun:Loc->Prop)(m:Nat)(Fin:jZ->bO->U->Prop)(I:Machine)(t:Trace):Prop:=
 ∃(E:Array bO)(w:U)(sl:Option (Nat×Nat))(D:Nat->WD)(F:Nat->Tr)(K:Nat->jZ)(a:bO)(q:Nat->Nat),
  I=crowd E w sl/\E[0]? =M a/\Fin (K 0) a w/\Co P S Q Shun m S.n E w t D F 0 K q/\AllQuit S.n D/\Acq S m S.n t/\WgAt S.ty S.Wg w 0 0
omit [Payload] in
theorem O5{j:Nat}{D:Nat->WD}(h:1<=Vc j D):∃i,i<j/\5<=(D i).stage:=exists_counted h
theorem P8(hm:1<=m)(hQ:Q.nN)(hn:S.n<2147483648)(hF:∀K g w,Fin K g w->g.status=eJ)(hA:∀K g w,AnchW K g w->g.status=eJ)(ar:∀K g w,AnchW K g w->∃T,jQ P true S Z (uN P S Fin AnchW) T K g w)(aq:∀K g w d,Fin K g w->Fin K g (w.at d)){μ:Mu}{mc:Machine}(h:Inv P S Q Shun m Fin AnchW μ mc t):ni P S Q Shun m Fin mc t\/∃m' ops ak,stepT P mc=(.next m',ops)/\qA S.n ak μ/\Inv P S Q Shun m Fin AnchW ak m' (t++ops):=by
 obtain⟨gs,w,sl,j,D,F,tag,f0,d0,K,a,st,sm,q,rfl,ha,af,I,an,E,J,rfl⟩:=h;by_cases ah:tag=.ret/\Fin (K 0) a w
 .obtain⟨rfl,am⟩:=ah;obtain⟨hq,rfl,rfl⟩:=E.fin_inv trivial;generalize hK:K 0=K₀ at af;cases af with
  |ret _=>exact cJ ⟨gs,w,sl,D,F,K,a,q,rfl,ha,am,I,hq,J rfl,an⟩
 .have ai:∀g∈gs,Go.Conc.awake g:=by
   intro g hg tm;obtain⟨i,hi⟩:=Array.mem_iff_getElem?.1 hg;by_cases h0:i=0
   .subst h0;rw[ha]at hi;cases hi;rcases af.status hF hA with⟨hs,_⟩|⟨hs,_⟩<;>rw[hs]<;>simp
   .obtain Y|ao:=gG i m
    .obtain⟨g',aa,ap⟩:=I.old i aA Y;rw[hi]at aa;cases aa;rcases ap.status with h|h<;>rw[h]<;>simp
    .have Y:i<m+j:=by have:=(jG hi);rw[I.size]at this;omega
     obtain⟨g',aa,hs⟩:=I.wk (i-m) aA;rw[show m+(i-m)=i by omega,hi]at aa;cases aa;rcases hs.status with h|h<;>rw[h]<;>simp
  have runs:∃(i:Nat)(g:bO),gs[i]? =M g/\g.status=eJ:=by
   obtain⟨hs,_⟩|⟨_,rfl⟩:=af.status hF hA
   .grind
   .cases E with
    |opn h1 _ _=>exact h1.elim
    |reg _ _ h3=>
     obtain⟨i,hi,h5⟩:=O5 h3;obtain⟨g,hg,hs⟩:=I.wk i hi;exact⟨_,g,hg,hs.running_of aA⟩
    |last L _ h2 h3 _=>
     obtain⟨g,hg,hs⟩:=I.wk L h2;exact⟨_,g,hg,hs.running_of aA⟩
    |fin h1 _=>exact h1.elim
  obtain⟨i,g,d,au,hg,ae,aj⟩:=crowd_pick (P:=P) (w:=w) (sl:=sl) ai runs;rw[aj];have ag:=af.rely (En.at S Z _ w d);have ac:=I.at hQ d;have ab:WgAt S.ty S.Wg (w.at d) st sm:=an;right;by_cases h0:i=0
  .subst h0;rw[ha]at hg;cases hg;exact adW hm hQ hn ar ha ag ac ab E J ae λ⟨h1,h2⟩=>ah ⟨h1,(show Fin _ a ((w.at d).at _) from aq _ _ _ _ h2)⟩
  .obtain Y|ao:=gG i m
   .exact aao hF hA ha ag ac ab E J aA Y hg ae
   .have Y:i<m+j:=by have:=(jG hg);rw[I.size]at this;omega
    have e:m+(i-m)=i:=aA
    have:=ad1 (sl:=au) hm hQ hF hA hn ha ag ac ab E J (i:=i-m) aA (g:=g) (by rw[e];exact hg) ae;rw[e]at this;exact this
theorem OW(hm:1<=m)(hQ:Q.nN)(hn:S.n<2147483648)(hF:∀K g w,Fin K g w->g.status=eJ)(hA:∀K g w,AnchW K g w->g.status=eJ)(ac:∀K g w,AnchW K g w->∃T,jQ P true S Z (uN P S Fin AnchW) T K g w)(aa:∀K g w d,Fin K g w->Fin K g (w.at d))(Y:Mu):∀(I:Machine)(t:Trace),Inv P S Q Shun m Fin AnchW Y I t->∃X1 q E,runNT P X1 I t=(.next q,E)/\ni P S Q Shun m Fin q E:=by
 induction Y using(qA.wf S.n).induction with
 |_ Y ih=>
  intro I t h;obtain h|⟨m',ops,ab,hs,J,h'⟩:=P8 hm hQ hn hF hA ac aa h
  .exact⟨0,I,t,rfl,h⟩
  .obtain⟨X1,q,E,hr,he⟩:=ih ab J m' _ h';exact⟨X1+1,q,E,by simp only[runNT,hs];exact hr,he⟩
theorem phase{B:Nat}(hQ:Q.nN)(hn:S.n<2147483648)(hF:∀K g w,Fin K g w->g.status=eJ)(hA:∀K g w,AnchW K g w->g.status=eJ)(a4:∀K g w,AnchW K g w->∃T,jQ P true S Z (uN P S Fin AnchW) T K g w)(aq:∀K g w d,Fin K g w->Fin K g (w.at d)){I:Array bO}{a:bO}{w:U}{sl:Option (Nat×Nat)}{q:Nat->Nat}{K0:jZ}(ha:I[0]? =M a)(hL:Leavers P t I q)(hP:Past Shun B t)(hW:∀b,K0.W b->K0.O b)(hO:∀b,K0.O b->b<w.heap.size/\b≠S.Wg/\b≠S.C/\∀l,blk l=M b->¬Shun l)(hWg:S.Wg<w.heap.size)(hC:S.C<w.heap.size)(ac:S.C≠S.Wg)(hB:B<=S.Wg)(a1:B<=S.C\/∀i,¬Shun (.cell ⟨S.C,i,Z⟩))(au:∀b,K0.W b->S.lo<=b)(aw:S.lo<=S.Wg)(ax:S.lo<=S.C)(an:WgAt S.ty S.Wg w 0 0)(ao:PayAt S.C S.n w)(ab:qO P S AnchW Q S.n K0 a w):∃X1 Y a' w' af t' q' K,runNT P X1 (crowd I w sl) t=(.next (crowd Y w' af),t')/\Y[0]? =M a'/\Fin K a' w'/\Leavers P t' Y q'/\Past (λl=>Shun l\/ShN S.Wg l) w'.heap.size t'/\(∀i,i<S.n->∃v O,Has S.C i v w'/\Q i v O w')/\PayAt S.C S.n w'/\WgAt S.ty S.Wg w' 0 0:=by
 have az:1<=I.size:=by have:=(jG ha);omega
 have apt:KN S w.heap.size 0 (λ_=>K0):=⟨λp _ b hb=>hW b hb,λp _ b hb=>let ⟨h1,h2,h3,_⟩:=hO b hb;⟨h1,h2,h3⟩,λp q hp hq ac=>Xs aA ac,hWg,hC,ac,λ_ _=>au,aw,ax⟩
 have ah:Co P S Q Shun I.size 0 I w t (λ_=>⟨0,0,0⟩) (λ_=>.leaf) 0 (λ_=>K0) q:=
  ⟨rfl,λi J=>aA,λi J a2=>⟨_,aC,hL.old i _ J (dA a2)⟩,
   TI.begin hP hL.above hB a1 aA (λb hb=>(hO b hb).2.2.2) hW,apt,hP.hears,λi J=>aA,λi J=>aA,ao⟩
 have aa:∀tag,isOpen tag->pend tag=0->(∀vs,tag≠.w2 vs)->ir 0 (λ_=>(⟨0,0,0⟩:WD)) tag 0 0:=λtag h1 h2 h3=>by
  have:=Go.ConcN.Mode.opn (j:=0) (D:=λ_=>(⟨0,0,0⟩)) h1 (λi J=>aA) (λvs e=>Xs e (h3 vs));simpa[Vc,sumTo,h2]using this
 have aj:∃μ,Inv P S Q Shun I.size Fin AnchW μ (crowd I w sl) t:=by
  cases ae:S.n with
  |zero=>
   rw[ae]at ab;obtain⟨T,hk⟩:=ab;refine⟨_,I,w,sl,0,_,_,_,(0,T),0,_,a,0,0,q,rfl,ha,?_,ah,an,aa .kd trivial rfl aC,aC,rfl⟩;have:=CS.kd (P:=P) (S:=S) (Fin:=Fin) (AnchW:=AnchW) (Q:=Q) hk;rwa[ae]at this
  |succ r=>
   rw[ae]at ab;obtain⟨T,hk⟩:=ab;refine⟨_,I,w,sl,0,_,_,_,(0,T),0,_,a,0,0,q,rfl,ha,?_,ah,an,aa (.sp r 5) trivial rfl aC,aC,rfl⟩;have:=CS.skd (P:=P) (S:=S) (Fin:=Fin) (AnchW:=AnchW) (Q:=Q) (r:=r) aA hk
   grind
 obtain⟨μ,hI⟩:=aj;obtain⟨X1,a7,t',hr,Y,w',af,D,F,K,a',q',rfl,a5,am,E,hq,⟨x,a3,ap,av,ar⟩,ag⟩:=OW az hQ hn hF hA a4 aq μ _ _ hI
 have ay:∀i,i<S.n->∃mq g v,Y[I.size+i]? =M g/\QuitsD P mq (Deaf t' (I.size+i)) g/\Has S.C i v w'/\Q i v (K (i+1)).O w':=by
  intro i J;obtain⟨g,hg,hs⟩:=E.wk i J;obtain⟨mq,_,ak,v,hv,hh⟩:=hs.quits (hq i J);exact⟨mq,g,v,hg,by rw[E.deafW i J];exact ak,hh,hv⟩
 obtain⟨f,hf⟩:∃f:Nat->Nat,∀i,i<S.n->∃g v,Y[I.size+i]? =M g/\QuitsD P (f i) (Deaf t' (I.size+i)) g/\Has S.C i v w'/\Q i v (K (i+1)).O w':=
  ⟨λi=>if h:i<S.n then Classical.choose (ay i h)else 0,λi J=>by grind⟩
 refine⟨X1,Y,a',w',af,t',λi=>if I.size<=i then f (i-I.size)else q' i,_,hr,a5,am,⟨λi g J hg=>?_,λi J=>?_⟩,E.ti.past E.deaf0 a3 ap av ar,λi J=>?_,E.pay,ag⟩
 .obtain ai|a8:=gG i I.size
  .rw[Zs aA];obtain⟨g',a6,ak⟩:=E.old i J ai
   grind
  .have ai:i-I.size<S.n:=by have:=(jG hg);rw[E.size]at this;omega
   grind
 .exact E.ti.above i (by rw[E.size]at J;exact J)
 grind
end
end
end Cr
