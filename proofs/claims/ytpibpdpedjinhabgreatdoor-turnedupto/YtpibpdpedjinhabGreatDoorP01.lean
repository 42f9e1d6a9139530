import Derived.Test.YtpibpdpedjinhabGreatDoorP00
import Derived.Conc.WgGenN3
import Derived.Conc.CompanyDraw
import Derived.RangeFuncRecord
set_option maxRecDepth 100000
set_option maxHeartbeats 8000000
set_option linter.all false
open Array renaming replicate->lO
open Bool renaming false->aL,true->aR
open Go renaming Event->jz,Frame->cR,Goroutine->cA,Obj->nL,Oper->ij,Program->cU,Value->X,World->U,deafBehind->gH,execOp->bN,stepG->eC,undef->aE
open Go.Act renaming eval->kp,put->dC
open Go.Conc renaming Goes->iv,aside_setCell->iz,mem_listed->gN,stepG_block->pQ,stepG_region_end->aM,stepG_ret'->kO,stepG_seq->cE,stepG_skip->gF
open Go.Conc.Goes renaming stop->cL
open Go.ConcN renaming Mode->gS,PayAt->pL,WgLive->iB,upd_same->fN
open Go.ConcR renaming Payload->pf,g_of_ofEvents->fI,mk->cY
open Go.GoStatus renaming running->eN
open Go.Item renaming inRegion->bL
open Go.MemOp renaming ofEvents->eL
open Go.Region renaming ready->fR,schedule->n9,wanted->cP
open Go.Region.linearise renaming go->l8
open Go.World renaming cell?->eB
open List renaming getElem?_set->pg,range->ir
open Option renaming none->Z,some->M
open Or renaming inl->bE,inr->cD
namespace Go.Proofs.YtpibpdpedjinhabGreatDoor
namespace Cr
open Go Go.Conc Go.ConcN
open Go.ConcR (KK wgBlock WgAt stA smA rd wr Payload DC0 Bk g_of_ofEvents again_blocked loc_of_ofEvent bk_of_mute ofEvent_loc_mark ofEvent_mk)
section
variable {Wg:Nat}
section
variable [pf]{P:cU}{S:Who}{Q:Left}{Shun:Loc->Prop}{m:Nat}{Fin AnchW:kC->cA->U->Prop}
 {gs:Array cA} {w w':U} {sl:Option (Nat×Nat)} {j:Nat} {D:Nat->WD} {F:Nat->Tr} {tag tag':CTag} {f0 f':Nat×Tr} {d0:Nat} {K:Nat->kC} {a a':cA} {t:Trace} {st sm st' sm':Int} {q:Nat->Nat} {es:Array jz}
def F8(hm:1<=m)(hQ:Q.nR)(ha:gs[0]? =M a)(I:Co P S Q Shun m j gs w t D F d0 K q){K0:kC}(ag:eC P aR a w=.go a' w' es)(ae:∀p,p<=j->p≠0->En S (who p) (K p) w w')(af:TI S Shun m (t++eL 0 a.frame.fn a.frame.place es) ↑w' j (upd K 0 K0))(E:Jy S ↑w' j (upd K 0 K0))(R:pL S.C S.n w')(Y:CS P S Fin AnchW Q tag' j f' (gH d0 es) K0 a' w')(ah:WgAt S.ty S.Wg w' st' sm')(z:gS j D tag' st' sm')(aa:tag'=.ret->Acq S m j (t++eL 0 a.frame.fn a.frame.place es))(ac:phi S.n (Vc j D) tag'<phi S.n (Vc j D) tag\/(phi S.n (Vc j D) tag'=phi S.n (Vc j D) tag/\Ep f' f0)):Down P S Q Shun m Fin AnchW ((sumTo m q,phi S.n (Vc j D) tag+Ssum j D),(F,f0)) (crowd gs w sl) t 0:=by
 have J:=runT_crowd_go (P:=P) (sl:=sl) (i:=0) ha (by simpa using ag)
 refine⟨_,_,_,J,?_,
  _,w',sl,j,D,F,tag',f',_,_,a',st',sm',q,rfl,get_map_set_same _ _ _ (by rw[I.size];omega),by rw[fN];exact Y,I.step0 hm hQ ae af E R,ah,z,aa,rfl⟩
 obtain h|⟨h1,h2⟩:=ac
 .exact pU.stage aA
 .rw[h1];exact pU.own h2
def nG(hm:1<=m)(hQ:Q.nR)(ha:gs[0]? =M a)(E:Co P S Q Shun m j gs w t D F d0 K q)(ac:eC P aR a w=.go a' w' es)(z:Gu S Z (K 0) w w' es)(ae:WgAt S.ty S.Wg w st sm)(I:gS j D tag st sm)(R:tag=.ret->Acq S m j t)(J:CS P S Fin AnchW Q tag j f' d0 ((K 0).grow ↑w ↑w') a' w')(Y:Ep f' f0):Down P S Q Shun m Fin AnchW ((sumTo m q,phi S.n (Vc j D) tag+Ssum j D),(F,f0)) (crowd gs w sl) t 0:=by
 have A:=E.apt;have hd:=deafBehind_idle (λe he=>⟨(CX A (p:=0) (dL _) z.size (z.events e he)).2.2.2.1,(CX A (p:=0) (dL _) z.size (z.events e he)).2.2.2.2⟩) d0
 exact F8 hm hQ ha E ac (λp hp aa=>Gu.en (p:=0) A (dL _) hp aa z) (E.ti.plain hm A (p:=0) (dL _) z.size z.events) (A.grow z.size (dL _)) (z.pay E.pay)
  (by rw[hd];exact J) (ae.of_block (Gu.wg (p:=0) A (dL _) z)) I (λe=>(R e).app λi r _ hr=>hr.appOther fI aA) (cD ⟨rfl,Y⟩)
def oH(hm:1<=m)(hQ:Q.nR)(ha:gs[0]? =M a)(E:Co P S Q Shun m j gs w t D F d0 K q)(ae:eC P aR a w=.go a' w' es)(z:Aside S.Wg w w')(J:WgAt S.ty S.Wg w' st' sm')(ac:∀e∈es,ZX S.Wg e)(R:CS P S Fin AnchW Q tag' j f' (gH d0 es) (K 0) a' w')(I:gS j D tag' st' sm')(Y:tag'=.ret->Acq S m j (t++eL 0 a.frame.fn a.frame.place es))(aa:phi S.n (Vc j D) tag'<phi S.n (Vc j D) tag\/(phi S.n (Vc j D) tag'=phi S.n (Vc j D) tag/\Ep f' f0)):Down P S Q Shun m Fin AnchW ((sumTo m q,phi S.n (Vc j D) tag+Ssum j D),(F,f0)) (crowd gs w sl) t 0:=by
 have A:=E.apt;obtain⟨cs,h1,h2⟩:=E.pay;exact F8 hm hQ ha E ae (λp hp _=>abU A hp z ⟨_,_,J⟩) (by rw[xu,z.size];exact E.ti.book hm A (p:=0) (dL _) ac) (by rw[xu,z.size];exact A) ⟨cs,(z.block _ A.ne).trans h1,h2⟩ R J I Y aa
omit [Payload] in
def QE:∀e∈#[cY .disable],ZX Wg e:=λe z=>bE (bk_dis e z)
omit [Payload] in
def Yl:∀e∈#[cY .enable],ZX Wg e:=λe z=>bE (bk_en e z)
omit [Payload] in
def Ju:∀e∈#[rd (stA Wg)],ZX Wg e:=λe z=>bE (bk_rd e z)
omit [Payload] in
def Yo:∀e∈#[rd (stA Wg),wr (stA Wg)],ZX Wg e:=λe z=>bE (bk_rw e z)
omit [Payload] in
def aap:∀e∈semEvents (smA Wg),ZX Wg e:=λe z=>bE (bk_sem e z)
omit [Payload] in
def Zp:∀e∈#[cY (.acquire (stA Wg))],ZX Wg e:=by intro e z;simp at z;subst z;exact cD (cD rfl)
def afc(hm:1<=m)(hQ:Q.nR)(hn:S.n<2147483648)(ha:gs[0]? =M a)(J:Co P S Q Shun m S.n gs w t D F 1 K q)(I:WgAt S.ty S.Wg w st sm)(z:gS S.n D .w1 st sm){T:Tr}(h:jT P aR S Z (Ah P S Fin AnchW) T (K 0) a w):Down P S Q Shun m Fin AnchW ((sumTo m q,phi S.n (Vc S.n D) .w1+Ssum S.n D),(F,(0,T))) (crowd gs w sl) t 0:=by
 have ac:=Vc_le S.n D;obtain⟨_,Y⟩|⟨f,g',w',es,rfl,E,aa,hT⟩:=h.cases
 .obtain⟨ho,rfl,rfl,_⟩:=z.open_inv trivial;obtain⟨a',E,h0,h1⟩:=Y (Vc S.n D) aA (by simpa[pend]using I);by_cases e:Vc S.n D=0
  .obtain⟨R,hk⟩:=h0 e;refine oH hm hQ ha J E (.refl _ w) I Ju (.ke hk) ?_ aC (bE (by simp only[phi];omega));have:=Go.ConcN.Mode.fin (j:=S.n) (D:=D) (tag:=.ke) trivial (allQuit_of ho e);simpa[e,pend]using this
  .obtain⟨R,hk⟩:=h1 e;exact oH hm hQ ha J E (.refl _ w) I Ju (.w2 hk) (z.reopen trivial trivial rfl (λvs hv=>by grind)) aC (bE (by simp only[phi];omega))
 .exact nG hm hQ ha J E aa I z aC (.w1 hT) (.way (Tr.lt f w))
def adD(hm:1<=m)(hQ:Q.nR)(hn:S.n<2147483648)(a7:∀K g w,AnchW K g w->∃T,jT P aR S Z (Ah P S Fin AnchW) T K g w)(ha:gs[0]? =M a)(au:CS P S Fin AnchW Q tag j f0 d0 (K 0) a w)(J:Co P S Q Shun m j gs w t D F d0 K q)(I:WgAt S.ty S.Wg w st sm)(z:gS j D tag st sm)(aw:tag=.ret->Acq S m j t)(ay:a.status=eN)(ba:¬(tag=.ret/\Fin (K 0) a w)):Down P S Q Shun m Fin AnchW ((sumTo m q,phi S.n (Vc j D) tag+Ssum j D),(F,f0)) (crowd gs w sl) t 0:=by
 have bd:=Vc_le j D;generalize hK:K 0=K₀ at au;cases au with
 |skd hr h=>
  subst hK;obtain⟨_,a',E,Y,hk⟩|⟨f,g',w',es,rfl,E,R,hT⟩:=h.cases
  .exact oH hm hQ ha J E (.refl _ w) I QE (.sa1 hr hk) (z.reopen trivial trivial rfl aC) aC (bE (by simp only[phi];omega))
  .exact nG hm hQ ha J E R I z aC (.skd hr hT) (.way (Tr.lt f w))
 |sa1 hr h=>
  rename_i r T;subst hK;obtain⟨_,ae⟩|⟨f,g',w',es,rfl,E,R,hT⟩:=h.cases
  .obtain⟨ho,rfl,rfl,_⟩:=z.open_inv trivial;obtain⟨a',E,Y,hk⟩:=ae (Vc (S.n-(r+1)) D) aA (by simpa[pend]using I);refine oH hm hQ ha J E (iz w (stA S.Wg) _) (I.setSt _) Yo (.ske hr hk) ?_ aC (bE (by simp only[phi];omega));have e:(((Vc (S.n-(r+1)) D:Nat):Int)+1)*KK=((Vc (S.n-(r+1)) D+pend (.sp r 3):Nat):Int)*KK:=by simp[pend]
   rw[e];exact .opn trivial ho aC
  .exact nG hm hQ ha J E R I z aC (.sa1 hr hT) (.way (Tr.lt f w))
 |ske hr h=>
  subst hK;obtain⟨_,a',E,Y,hk⟩|⟨f,g',w',es,rfl,E,R,hT⟩:=h.cases
  .exact oH hm hQ ha J E (.refl _ w) I Yl (.sgo hr hk) (z.reopen trivial trivial rfl aC) aC (bE (by simp only[phi];omega))
  .exact nG hm hQ ha J E R I z aC (.ske hr hT) (.way (Tr.lt f w))
 |sgo hr h=>
  rename_i r T;subst hK;obtain⟨_,a',ai,K0,Kc,a5,_,a3,a4,a8,a2,d1,d2,w0,wc,av,af⟩|⟨f,g',w',es,rfl,E,R,hT⟩:=h.cases
  .obtain⟨Y,a1⟩:=av J.pay ⟨_,_,I⟩;obtain⟨ho,rfl,rfl,_⟩:=z.open_inv trivial;have aa:=runT_crowd_spawn (P:=P) (sl:=sl) (i:=0) ha (by simpa using a5);rw[J.size]at aa;have ac:=J.spawn hm (a':=a') (x:={ g:=0,fn:=a.frame.fn,pos:=a.frame.place,act:=.go _ }) (y:={ g:=m+(S.n-(r+1)),fn:=ai.frame.fn,pos:=a.frame.place,act:=.start }) ⟨rfl,rfl⟩ ⟨rfl,rfl⟩ a3 a4 a8 a2 d1 d2 w0 wc a1
   have eV:Vc (S.n-(r+1)+1) (upd D (S.n-(r+1)) ⟨7,0,0⟩)=Vc (S.n-(r+1)) D+1:=by
    simp only[Vc,sumTo,fN];rw[sumTo_upd_out D _ cnt jB];rfl
   have eS:Ssum (S.n-(r+1)+1) (upd D (S.n-(r+1)) ⟨7,0,0⟩)=Ssum (S.n-(r+1)) D+7:=by
    simp only[Ssum,sumTo,fN];rw[sumTo_upd_out D _ WD.stage jB]
   have ak:OpenSt (S.n-(r+1)+1) (upd D (S.n-(r+1)) ⟨7,0,0⟩):=λi hi=>by
    by_cases e:i=S.n-(r+1)
    .subst e;rw[fN];simp
    .rw[upd_ne D _ e];exact ho i aA
   have az:((gs.setIfInBounds 0 a').push ai)[0]? =M a':=by
    have:0<gs.size:=by rw[J.size];omega
    rw[Array.getElem?_push_lt (by simp;exact this),<-dA];simp[this]
   have ej:S.n-(r+1)+1=S.n-r:=aA
   have eK:upd (upd K 0 K0) (S.n-r) Kc 0=K0:=by rw[upd_ne _ _ aA,fN]
   rw[ej]at ac eV eS ak;have ao:∀ag,pend ag=0->((Vc (S.n-(r+1)) D+pend (.sp r 2):Nat):Int)*KK=((Vc (S.n-r) (upd D (S.n-(r+1)) ⟨7,0,0⟩)+pend ag:Nat):Int)*KK:=λag hp=>by rw[eV,hp];simp[pend]
   cases r with
   |zero=>
    obtain⟨ah,hk⟩:=af;simp only[Nat.sub_zero]at ac eV eS ak ao eK
    refine⟨_,_,_,aa,pU.stage (by simp only[phi];omega),
     _,w,sl,_,_,_,.kd,(0,ah),0,_,a',_,_,q,rfl,az,by rw[eK];exact .kd hk,ac,I,?_,aC,rfl⟩
    rw[ao .kd rfl];exact .opn trivial ak aC
   |succ r'=>
    obtain⟨ah,hk⟩:=af
    refine⟨_,_,_,aa,pU.stage (by simp only[phi];omega),
     _,w,sl,_,_,_,.sp r' 5,(0,ah),0,_,a',_,_,q,rfl,az,by rw[eK];exact .skd aA hk,ac,I,?_,aC,rfl⟩
    rw[ao (.sp r' 5) rfl];exact .opn trivial ak aC
  .exact nG hm hQ ha J E R I z aC (.sgo hr hT) (.way (Tr.lt f w))
 |kd h=>
  subst hK;obtain⟨_,a',E,Y,hk⟩|⟨f,g',w',es,rfl,E,R,hT⟩:=h.cases
  .exact oH hm hQ ha J E (.refl _ w) I QE (.anch hk) (z.reopen trivial trivial rfl aC) aC (bE (by simp only[phi];omega))
  .exact nG hm hQ ha J E R I z aC (.kd hT) (.way (Tr.lt f w))
 |anch h=>
  subst hK;obtain aj|⟨f,g',w',es,rfl,E,R,hT⟩:=h.cases
  .obtain⟨Y,hk⟩:=a7 _ _ _ aj;obtain⟨ar,ops,a6,h1,h2,h3⟩:=afc (sl:=sl) hm hQ hn ha J I (z.reopen trivial trivial rfl aC) hk;refine⟨ar,ops,a6,h1,?_,h3⟩;exact pU.trans h2 (by simp only[phi];omega) rfl
  .exact nG hm hQ ha J E R I z aC (.anch hT) (.way (Tr.lt f w))
 |w1 h=>subst hK;exact afc hm hQ hn ha J I z h
 |w2 h=>
  rename_i vs T;subst hK;obtain⟨_,ae⟩|⟨f,g',w',es,rfl,E,R,hT⟩:=h.cases
  .obtain⟨ho,rfl,rfl,a0⟩:=z.open_inv trivial;obtain⟨bb,h1⟩:=a0 vs rfl;obtain⟨aq,ap⟩:=ae (Vc S.n D) aA (by simpa[pend]using I);by_cases e:Vc S.n D=vs
   .obtain⟨a',E,Y,hk⟩:=aq e;exact oH hm hQ ha J E (iz w (stA S.Wg) _) (I.setSt _) Yo (.w3 hk) (.reg trivial ho aA) aC (bE (by simp only[phi];omega))
   .obtain⟨a',E,Y,hk⟩:=ap e;exact oH hm hQ ha J E (.refl _ w) I Ju (.anch hk) (z.reopen trivial trivial rfl aC) aC (bE (by simp only[phi];omega))
  .exact nG hm hQ ha J E R I z aC (.w2 hT) (.way (Tr.lt f w))
 |w3 h=>
  rename_i T;subst hK;cases T with
  |leaf=>
   obtain⟨_,a9,am,an⟩:=h w (.refl ..);cases z with
   |opn h1 _ _=>exact h1.elim
   |reg h1 h2 h3=>exact oH hm hQ ha J (am ⟨_,I⟩) (.refl _ w) I aC (.blk h) (.reg trivial h2 h3) aC (cD ⟨rfl,Prod.Lex.left _ _ aA⟩)
   |last L h1 h2 h3 h4=>exact oH hm hQ ha J (am ⟨_,I⟩) (.refl _ w) I aC (.blk h) (.last L trivial h2 h3 h4) aC (cD ⟨rfl,Prod.Lex.left _ _ aA⟩)
   |sema h2=>
    obtain⟨a',E,Y,hk⟩:=an I;exact oH hm hQ ha J E (iz w (smA S.Wg) _) (I.setSm 0) aap (.w4 hk) (.fin trivial h2) aC (bE (by simp only[phi];omega))
   |fin h1 _=>exact h1.elim
  |node f=>
   obtain⟨g',w',es,E,R,hT⟩:=h.2 w (.refl ..);exact nG hm hQ ha J E R I z aC (.w3 hT) (.way (Tr.lt f w))
 |blk h=>simp at ay
 |w4 h=>
  subst hK;obtain⟨_,hx⟩|⟨f,g',w',es,rfl,E,R,hT⟩:=h.cases
  .obtain⟨hq,rfl,rfl⟩:=z.fin_inv trivial;obtain⟨a',E,Y,hk⟩:=hx I;exact oH hm hQ ha J E (.refl _ w) I Ju (.ke hk) (.fin trivial hq) aC (bE (by simp only[phi];omega))
  .exact nG hm hQ ha J E R I z aC (.w4 hT) (.way (Tr.lt f w))
 |ke h=>
  subst hK;obtain⟨_,a',E,Y,hk⟩|⟨f,g',w',es,rfl,E,R,hT⟩:=h.cases
  .obtain⟨hq,rfl,rfl⟩:=z.fin_inv trivial;exact oH hm hQ ha J E (.refl _ w) I Yl (.acq hk) (.fin trivial hq) aC (bE (by simp only[phi];omega))
  .exact nG hm hQ ha J E R I z aC (.ke hT) (.way (Tr.lt f w))
 |acq h=>
  subst hK;obtain⟨_,a',E,Y,hk⟩|⟨f,g',w',es,rfl,E,R,hT⟩:=h.cases
  .obtain⟨hq,rfl,rfl⟩:=z.fin_inv trivial;refine oH hm hQ ha J E (.refl _ w) I Zp (.ret hk) (.fin trivial hq) (λ_=>?_) (bE (by simp only[phi];omega));have e1:eL 0 a.frame.fn a.frame.place #[cY (.acquire (stA S.Wg))]=#[{ g:=0,fn:=a.frame.fn,pos:=a.frame.place,act:=.mark (.acquire (stA S.Wg)) }]:=by rw[ofEvents_eq];simp[ofEvent_mk]
   have hy:(t++#[({ g:=0,fn:=a.frame.fn,pos:=a.frame.place,act:=.mark (.acquire (stA S.Wg)) }:MemOp)])[t.size]? =M { g:=0,fn:=a.frame.fn,pos:=a.frame.place,act:=.mark (.acquire (stA S.Wg)) }:=aC
   refine⟨t.size,by rw[e1,act?_of hy],by rw[e1];simp[Trace.g?],by rw[e1];exact⟨0,by simp[Trace.g?],by rw[deaf_old jB];exact J.deaf0⟩,λi hi=>?_⟩;obtain⟨r,hr⟩:=J.rel i hi (by rw[hq i hi];omega);exact⟨r,hr.appOther fI aA,lt_of_act? hr.act⟩
  .exact nG hm hQ ha J E R I z aC (.acq hT) (.way (Tr.lt f w))
 |ret h=>
  subst hK;obtain aj|⟨f,g',w',es,rfl,E,R,hT⟩:=h.cases
  .grind
  .exact nG hm hQ ha J E R I z aw (.ret hT) (.way (Tr.lt f w))
end
end
open Go.ConcR (KK wgBlock WgAt stA smA rd wr Payload DC0)
section
variable {t:Trace}
section
variable [pf]{P:cU}{S:Who}{Q:Left}{Shun:Loc->Prop}{m:Nat}{Fin AnchW:kC->cA->U->Prop}
def ni(P:cU)(S:Who)(Q:Left)(Shun:Loc->Prop)(m:Nat)(Fin:kC->cA->U->Prop)(E:Machine)(t:Trace):Prop:=
 ∃(z:Array cA)(w:U)(sl:Option (Nat×Nat))(D:Nat->WD)(F:Nat->Tr)(K:Nat->kC)(a:cA)(q:Nat->Nat),
  E=crowd z w sl/\z[0]? =M a/\Fin (K 0) a w/\Co P S Q Shun m S.n z w t D F 0 K q/\AllQuit S.n D/\Acq S m S.n t/\WgAt S.ty S.Wg w 0 0
omit [Payload] in
def Oh{j:Nat}{D:Nat->WD}(h:1<=Vc j D):∃i,i<j/\5<=(D i).stage:=exists_counted h
def OV(hm:1<=m)(hQ:Q.nR)(hn:S.n<2147483648)(hF:∀K g w,Fin K g w->g.status=eN)(hA:∀K g w,AnchW K g w->g.status=eN)(ar:∀K g w,AnchW K g w->∃T,jT P aR S Z (Ah P S Fin AnchW) T K g w)(aq:∀K g w d,Fin K g w->Fin K g (w.at d)){μ:Mu}{mc:Machine}(h:Inv P S Q Shun m Fin AnchW μ mc t):ni P S Q Shun m Fin mc t\/∃m' ops ak,stepT P mc=(.next m',ops)/\pU S.n ak μ/\Inv P S Q Shun m Fin AnchW ak m' (t++ops):=by
 obtain⟨gs,w,sl,j,D,F,tag,f0,d0,K,a,st,sm,q,rfl,ha,af,E,an,z,I,rfl⟩:=h;by_cases ah:tag=.ret/\Fin (K 0) a w
 .obtain⟨rfl,am⟩:=ah;obtain⟨hq,rfl,rfl⟩:=z.fin_inv trivial;generalize hK:K 0=K₀ at af;cases af with
  |ret _=>exact bE ⟨gs,w,sl,D,F,K,a,q,rfl,ha,am,E,hq,I rfl,an⟩
 .have ai:∀g∈gs,Go.Conc.awake g:=by
   intro g R tm;obtain⟨i,hi⟩:=Array.mem_iff_getElem?.1 R;by_cases h0:i=0
   .subst h0;rw[ha]at hi;cases hi;rcases af.status hF hA with⟨hs,_⟩|⟨hs,_⟩<;>rw[hs]<;>simp
   .obtain J|ao:=gG i m
    .obtain⟨g',Y,ap⟩:=E.old i aA J;rw[hi]at Y;cases Y;rcases ap.status with h|h<;>rw[h]<;>simp
    .have J:i<m+j:=by have:=(jE hi);rw[E.size]at this;omega
     obtain⟨g',Y,hs⟩:=E.wk (i-m) aA;rw[show m+(i-m)=i by omega,hi]at Y;cases Y;rcases hs.status with h|h<;>rw[h]<;>simp
  have runs:∃(i:Nat)(g:cA),gs[i]? =M g/\g.status=eN:=by
   obtain⟨hs,_⟩|⟨_,rfl⟩:=af.status hF hA
   .grind
   .cases z with
    |opn h1 _ _=>exact h1.elim
    |reg _ _ h3=>
     obtain⟨i,hi,h5⟩:=Oh h3;obtain⟨g,R,hs⟩:=E.wk i hi;exact⟨_,g,R,hs.running_of aA⟩
    |last L _ h2 h3 _=>
     obtain⟨g,R,hs⟩:=E.wk L h2;exact⟨_,g,R,hs.running_of aA⟩
    |fin h1 _=>exact h1.elim
  obtain⟨i,g,d,au,R,ae,aj⟩:=crowd_pick (P:=P) (w:=w) (sl:=sl) ai runs;rw[aj];have ag:=af.rely (En.at S Z _ w d);have ac:=E.at hQ d;have aa:WgAt S.ty S.Wg (w.at d) st sm:=an;right;by_cases h0:i=0
  .subst h0;rw[ha]at R;cases R;exact adD hm hQ hn ar ha ag ac aa z I ae λ⟨h1,h2⟩=>ah ⟨h1,(show Fin _ a ((w.at d).at _) from aq _ _ _ _ h2)⟩
  .obtain J|ao:=gG i m
   .exact Zr hF hA ha ag ac aa z I aA J R ae
   .have J:i<m+j:=by have:=(jE R);rw[E.size]at this;omega
    have e:m+(i-m)=i:=aA
    have:=adK (sl:=au) hm hQ hF hA hn ha ag ac aa z I (i:=i-m) aA (g:=g) (by rw[e];exact R) ae;rw[e]at this;exact this
def N7(hm:1<=m)(hQ:Q.nR)(hn:S.n<2147483648)(hF:∀K g w,Fin K g w->g.status=eN)(hA:∀K g w,AnchW K g w->g.status=eN)(ac:∀K g w,AnchW K g w->∃T,jT P aR S Z (Ah P S Fin AnchW) T K g w)(Y:∀K g w d,Fin K g w->Fin K g (w.at d))(R:Mu):∀(I:Machine)(t:Trace),Inv P S Q Shun m Fin AnchW R I t->∃X1 z E,runNT P X1 I t=(.next z,E)/\ni P S Q Shun m Fin z E:=by
 induction R using(pU.wf S.n).induction with
 |_ R ih=>
  intro I t h;obtain h|⟨m',ops,aa,hs,J,h'⟩:=OV hm hQ hn hF hA ac Y h
  .exact⟨0,I,t,rfl,h⟩
  .obtain⟨X1,z,E,hr,he⟩:=ih aa J m' _ h';exact⟨X1+1,z,E,by simp only[runNT,hs];exact hr,he⟩
def phase{B:Nat}(hQ:Q.nR)(hn:S.n<2147483648)(hF:∀K g w,Fin K g w->g.status=eN)(hA:∀K g w,AnchW K g w->g.status=eN)(a2:∀K g w,AnchW K g w->∃T,jT P aR S Z (Ah P S Fin AnchW) T K g w)(ap:∀K g w d,Fin K g w->Fin K g (w.at d)){E:Array cA}{a:cA}{w:U}{sl:Option (Nat×Nat)}{q:Nat->Nat}{K0:kC}(ha:E[0]? =M a)(hL:Leavers P t E q)(hP:Past Shun B t)(hW:∀b,K0.W b->K0.O b)(hO:∀b,K0.O b->b<w.heap.size/\b≠S.Wg/\b≠S.C/\∀l,blk l=M b->¬Shun l)(hWg:S.Wg<w.heap.size)(hC:S.C<w.heap.size)(aa:S.C≠S.Wg)(hB:B<=S.Wg)(az:B<=S.C\/∀i,¬Shun (.cell ⟨S.C,i,Z⟩))(ar:∀b,K0.W b->S.lo<=b)(av:S.lo<=S.Wg)(aw:S.lo<=S.C)(am:WgAt S.ty S.Wg w 0 0)(an:pL S.C S.n w)(Y:qA P S AnchW Q S.n K0 a w):∃X1 J a' w' ae t' q' K,runNT P X1 (crowd E w sl) t=(.next (crowd J w' ae),t')/\J[0]? =M a'/\Fin K a' w'/\Leavers P t' J q'/\Past (λl=>Shun l\/ShN S.Wg l) ↑w' t'/\(∀i,i<S.n->∃v O,Has S.C i v w'/\Q i v O w')/\pL S.C S.n w'/\WgAt S.ty S.Wg w' 0 0:=by
 have ay:1<=E.size:=by have:=(jE ha);omega
 have apt:Jy S ↑w 0 (λ_=>K0):=⟨λp _ b hb=>hW b hb,λp _ b hb=>let ⟨h1,h2,h3,_⟩:=hO b hb;⟨h1,h2,h3⟩,λp q hp hq aa=>Xs aA aa,hWg,hC,aa,λ_ _=>ar,av,aw⟩
 have ag:Co P S Q Shun E.size 0 E w t (λ_=>⟨0,0,0⟩) (λ_=>.leaf) 0 (λ_=>K0) q:=
  ⟨rfl,λi I=>aA,λi I a0=>⟨_,aC,hL.old i _ I (dA a0)⟩,
   TI.begin hP hL.above hB az aA (λb hb=>(hO b hb).2.2.2) hW,apt,hP.hears,λi I=>aA,λi I=>aA,an⟩
 have R:∀tag,isOpen tag->pend tag=0->(∀vs,tag≠.w2 vs)->gS 0 (λ_=>(⟨0,0,0⟩:WD)) tag 0 0:=λtag h1 h2 h3=>by
  have:=Go.ConcN.Mode.opn (j:=0) (D:=λ_=>(⟨0,0,0⟩)) h1 (λi I=>aA) (λvs e=>Xs e (h3 vs));simpa[Vc,sumTo,h2]using this
 have ai:∃μ,Inv P S Q Shun E.size Fin AnchW μ (crowd E w sl) t:=by
  cases ac:S.n with
  |zero=>
   rw[ac]at Y;obtain⟨T,hk⟩:=Y;refine⟨_,E,w,sl,0,_,_,_,(0,T),0,_,a,0,0,q,rfl,ha,?_,ag,am,R .kd trivial rfl aC,aC,rfl⟩;have:=CS.kd (P:=P) (S:=S) (Fin:=Fin) (AnchW:=AnchW) (Q:=Q) hk;rwa[ac]at this
  |succ r=>
   rw[ac]at Y;obtain⟨T,hk⟩:=Y;refine⟨_,E,w,sl,0,_,_,_,(0,T),0,_,a,0,0,q,rfl,ha,?_,ag,am,R (.sp r 5) trivial rfl aC,aC,rfl⟩;have:=CS.skd (P:=P) (S:=S) (Fin:=Fin) (AnchW:=AnchW) (Q:=Q) (r:=r) aA hk
   grind
 obtain⟨μ,hI⟩:=ai;obtain⟨X1,a5,t',hr,J,w',ae,D,F,K,a',q',rfl,a3,ak,z,hq,⟨x,a1,ao,au,aq⟩,af⟩:=N7 ay hQ hn hF hA a2 ap μ _ _ hI
 have res:∀i,i<S.n->∃mq g v,J[E.size+i]? =M g/\QuitsD P mq (Deaf t' (E.size+i)) g/\Has S.C i v w'/\Q i v (K (i+1)).O w':=by
  intro i I;obtain⟨g,hg,hs⟩:=z.wk i I;obtain⟨mq,_,aj,v,hv,hh⟩:=hs.quits (hq i I);exact⟨mq,g,v,hg,by rw[z.deafW i I];exact aj,hh,hv⟩
 obtain⟨f,hf⟩:∃f:Nat->Nat,∀i,i<S.n->∃g v,J[E.size+i]? =M g/\QuitsD P (f i) (Deaf t' (E.size+i)) g/\Has S.C i v w'/\Q i v (K (i+1)).O w':=
  ⟨λi=>if h:i<S.n then Classical.choose (res i h)else 0,λi I=>by grind⟩
 refine⟨X1,J,a',w',ae,t',λi=>if E.size<=i then f (i-E.size)else q' i,_,hr,a3,ak,⟨λi g I hg=>?_,λi I=>?_⟩,z.ti.past z.deaf0 a1 ao au aq,λi I=>?_,z.pay,af⟩
 .obtain ah|a6:=gG i E.size
  .rw[Zs aA];obtain⟨g',a4,aj⟩:=z.old i I ah
   grind
  .have ah:i-E.size<S.n:=by have:=(jE hg);rw[z.size]at this;omega
   grind
 .exact z.ti.above i (by rw[z.size]at I;exact I)
 grind
end
end
open Go Go.Conc Go.ConcN Go.RowKit Go.Conc.Lib Go.ConcR.Gen Go.ConcN.Gen
section
section
variable [pf]{P:cU}{S:Who}{K:kC}{St:kC->cA->U->Prop}{g:cA}{w:U}
def Way(P:cU)(S:Who)(St:kC->cA->U->Prop)(K:kC)(g:cA)(w:U):Prop:=∃T,jT P aR S Z St T K g w
def Way.go{n:Nat}(h:iv P aR (En S Z K) DC0 (λg w=>Way P S St K g w) n g w):Way P S St K g w:=by obtain⟨T,z⟩:=jT.QA (λ_ _ x=>x) h;exact z.bind λE g w ⟨e,hw⟩=>by rw[e];exact hw
def Way.stop(h:∀z,En S Z K w z->St K g z):Way P S St K g w:=jT.stop h
def Way.said{g':cA}(hs:g.status=eN){k:Mark}(hk:k=.read (smA S.Wg)\/k=.write (smA S.Wg))(J:∀z,En S Z K w z->eC P aR g z=.go g' z #[cY k])(h:∀z,En S Z K w z->Way P S St K g' z):Way P S St K g w:=by
 refine jT.one hs λz E=>⟨g',z,_,J z E,⟨rfl,rfl,rfl,jB,λ_ _ _ _=>rfl,id,λ_ _=>rfl,λe I=>?_⟩,by rw[kR];exact h z E⟩
 simp only[List.mem_toArray,dD,List.not_mem_nil,or_false]at I;subst I;exact cD (cD ⟨rfl,by grind⟩)
end
section
variable [pf]{L:WgLink}{Wg C n lo:Nat}{Q:Left}{i:Nat}{Next:kC->cA->U->Prop}{K:kC}{F:U->Prop}
 {b₀:cR} {a₀:Act} {ops₀:Array ij} {i₀:Nat} {rest₀:List Nat} {k₀:List Item} {cs:List cR}
def jA{S:Who}{K:kC}{F:U->Prop}(E:∀w w',En S Z K w w'->F w->F w'){w z:U}(h:F w/\iB S.ty S.Wg w)(r:En S Z K w z):F z/\iB S.ty S.Wg z:=⟨E _ _ r h.1,r.live h.2⟩
def addPos{P:cU}(H:WgLib P L)(E:∀w w',En (Who.mk Wg C n L.tWg lo) Z K w w'->F w->F w')(ai:∀w w',Aside Wg w w'->F w->F w')(hT:∀w,F w/\iB L.tWg Wg w->Way P ⟨Wg,C,n,L.tWg,lo⟩ (Wn P ⟨Wg,C,n,L.tWg,lo⟩ Q i Next) K (G (b₀.at (a₀.put ((ops₀[i₀]?).bind (·.dst)) (.tuple #[])) (bL ops₀ rest₀::k₀)) cs) w)(w:U)(I:F w/\iB L.tWg Wg w):Way P ⟨Wg,C,n,L.tWg,lo⟩ (Lj P ⟨Wg,C,n,L.tWg,lo⟩ Q i Next) K (G ((base L.add).at ⟨#[.pointer (M ⟨Wg,0,Z⟩),.int .i64 1,aE,aE,aE,aE,aE,aE,aE,aE,aE,aE,aE,aE,aE,aE,aE,aE,aE,aE,aE,aE,aE,aE,aE,aE,aE,aE,aE,aE,aE,aE,aE,aE,aE,aE,aE,aE,aE,aE,aE,aE,aE,aE,aE,aE,aE,aE,aE,aE,aE,aE,aE,aE,aE,aE,aE,aE,aE,aE,aE,aE,aE,aE,aE,aE,aE,aE,aE,aE,aE,aE,aE,aE,aE,aE,aE,aE,aE,aE,aE,aE,aE,aE,aE,aE,aE,aE,aE,aE,aE,aE,aE,aE,aE,aE,aE,aE,aE,aE,aE,aE,aE,aE,aE,aE,aE,aE,aE,aE,aE,aE,aE,aE,aE,aE,aE],[]⟩ [.code (body_add L)]) (b₀.at a₀ (bL ops₀ (i₀::rest₀)::k₀)::cs)) w:=by
 lib_facts
 simp only[body_add,addFn,fH];refine Way.go (n:=200) ?_;u_c cE (jA E) I;u_cond aR (jA E) I
 iterate 2 u_c cE (jA E) I
 u_reg (jA E) I
 iterate 2 u_op (jA E) I
 u_c aM (jA E) I;u_cond aL (jA E) I;u_c gF (jA E) I;u_c cE (jA E) I;u_reg (jA E) I;refine cL (λah aa=>Way.stop λY ac=>?_);replace I:=jA E (jA E I aa) ac;clear aa ac;refine⟨rfl,_,stepG_mark0 _ aC rfl rfl (by k_ne) rfl H.f_disable (x_disable_n L) (x_disable_b L) (x_disable_x L) (x_disable_f L),?_⟩;walk_nrm;refine Way.go (n:=200) ?_;u_c aM (jA E) I;u_reg (jA E) I;u_defer (jA E) I;u_c aM (jA E) I;u_c cE (jA E) I;u_reg (jA E) I;u_op (jA E) I;u_c aM (jA E) I
 iterate 2 u_c cE (jA E) I
 u_reg (jA E) I;u_bub (jA E) I;u_c aM (jA E) I;u_cond aL (jA E) I;u_c gF (jA E) I;u_c cE (jA E) I;u_reg (jA E) I
 iterate 6 u_op (jA E) I
 u_call H.f_uAdd (nm_uAdd L) uAddFn (jA E) I;u_c cE (jA E) I;u_reg (jA E) I;u_op (jA E) I;u_c aM (jA E) I;u_c cE (jA E) I;u_reg (jA E) I
 iterate 4 u_op (jA E) I
 refine cL (λah aa=>Way.stop λY ac=>?_);replace I:=jA E (jA E I aa) ac;clear aa ac;refine⟨rfl,λv hv hw=>?_⟩;obtain rfl|am:=gQ v
 .replace hw:WgAt L.tWg Wg Y 0 0:=by simpa using hw
  have z:(((0:Nat):Int)+1)*KK=4294967296:=by simp[KK]
  have e0:IntKind.u64.wrap (0+4294967296)=4294967296:=aB
  rw[z];refine⟨_,(stepG_add_atomic rfl rfl (by k_ne) rfl H.f_addU64 (x_addU64_n L) (x_addU64_b L) (x_addU64_x L) _ (x_addU64_f L) rfl rfl hw.cellSt (hw.thaw 0)).trans (by rw[e0];rfl),?_⟩;replace I:F (Y.setCell (stA Wg) (.int .u64 4294967296))/\iB L.tWg Wg (Y.setCell (stA Wg) (.int .u64 4294967296)):=⟨ai _ _ (iz Y (stA Wg) _) I.1,⟨_,_,hw.setSt _⟩⟩
  clear hw;walk_nrm;refine Way.go (n:=400) ?_;u_op (jA E) I;u_c aM (jA E) I;u_c kO (jA E) I;u_leave1 H.f_uAdd (jA E) I;u_op (jA E) I;u_c aM (jA E) I
  iterate 2 u_c cE (jA E) I
  u_reg (jA E) I
  iterate 4 u_op (jA E) I
  iterate 2 u_skip (jA E) I
  u_op (jA E) I;u_c aM (jA E) I;u_cond aL (jA E) I;u_c gF (jA E) I;u_c cE (jA E) I;u_reg (jA E) I
  iterate 4 u_op (jA E) I
  u_c aM (jA E) I;u_c cE (jA E) I;u_reg (jA E) I
  iterate 4 u_op (jA E) I
  u_c aM (jA E) I
  iterate 2 u_c cE (jA E) I
  u_reg (jA E) I
  iterate 10 u_op (jA E) I
  u_c aM (jA E) I;u_cond aR (jA E) I;u_reg (jA E) I
  iterate 3 u_op (jA E) I
  u_conv H.underlying_tPU32 H.room_tU32 (WgLive.cell1 I.2).choose_spec (jA E) I;refine cL (λag R=>?_);replace I:=jA E I R;clear R;refine Way.said rfl (bE rfl) (λaf J=>stepG_markAt _ aC rfl rfl (by k_ne) rfl H.f_raceRead (x_raceRead_n L) (x_raceRead_b L) (x_raceRead_x L) (x_raceRead_f L) (ad:=⟨_,1,Z⟩) (by simp[kp]<;>rfl)) (λaf J=>?_);replace I:=jA E I J;clear J;walk_nrm;refine Way.go (n:=200) ?_;u_c aM (jA E) I
  iterate 2 u_c cE (jA E) I
  u_reg (jA E) I
  iterate 2 u_op (jA E) I
  u_c aM (jA E) I;u_cond aL (jA E) I;u_c gF (jA E) I
  iterate 2 u_c cE (jA E) I
  u_reg (jA E) I
  iterate 3 u_op (jA E) I
  iterate 2 u_skip (jA E) I
  iterate 2 u_op (jA E) I
  iterate 4 u_skip (jA E) I
  u_op (jA E) I;u_c aM (jA E) I;u_cond aL (jA E) I;u_c gF (jA E) I
  iterate 2 u_c cE (jA E) I
  u_reg (jA E) I
  iterate 3 u_op (jA E) I
  iterate 2 u_skip (jA E) I
  u_op (jA E) I;u_c aM (jA E) I;u_cond aR (jA E) I;u_c kO (jA E) I;refine cL (λag R=>Way.stop λaf J=>?_);replace I:=jA E (jA E I R) J;clear R J;refine⟨rfl,_,stepG_unwind_entry (v:=.tuple #[]) (evs:=#[cY _]) rfl H.f_enable (x_enable_n L) (x_enable_b L) (x_enable_x L) (x_enable_f L) (by simp[Extern.Race.none_]) (by simp[cY]) (by simp[cY]),?_⟩;refine Way.go (n:=2) ?_;u_leave0 H.f_add (jA E) I;exact cL λaj ae=>hT _ (jA E I ae)
 .obtain⟨V,hV⟩:∃V:Int,V=(v:Int)+1:=⟨_,rfl⟩
  obtain⟨S,hS⟩:∃S:Int,S=V*KK:=⟨_,rfl⟩
  have eS:IntKind.u64.wrap ((v:Int)*KK+4294967296)=S:=by rw[IntKind.wrap_u64,hS,hV];simp only[KK];omega
  rw[<-hV,<-hS];have a1:S/4294967296=V:=by rw[hS];simp only[KK];omega
  have b1:bits .and .u64 S 2147483648=0:=by rw[hS,hV];have:=st_flag (v+1) 0 aA aA;simpa[KK]using this
  have b2:bits .and .u64 S 2147483647=0:=by rw[hS,hV];have:=st_waiters (v+1) 0 aA aA;simpa[KK]using this
  have c1:IntKind.i32.wrap V=V:=by rw[IntKind.wrap_i32];omega
  have ak:1<V:=aA
  have an:V<2147483648:=aA
  have q1:(V == 1)=aL:=aF
  have q2:decide (V=1)=aL:=ZZ aA;have q3:decide (V<0)=aL:=ZZ aA;have q4:decide (0<V)=aR:=Z0 aA;have q5:(V == 0)=aL:=aF
  have q6:decide (V=0)=aL:=ZZ aA;refine⟨_,(stepG_add_atomic rfl rfl (by k_ne) rfl H.f_addU64 (x_addU64_n L) (x_addU64_b L) (x_addU64_x L) _ (x_addU64_f L) rfl rfl hw.cellSt (hw.thaw 0)).trans (by rw[eS];rfl),?_⟩;replace I:F (Y.setCell (stA Wg) (.int .u64 S))/\iB L.tWg Wg (Y.setCell (stA Wg) (.int .u64 S)):=⟨ai _ _ (iz Y (stA Wg) _) I.1,⟨_,_,hw.setSt _⟩⟩
  clear hw hS hV eS;walk_nrm;refine Way.go (n:=400) ?_;u_op (jA E) I;u_c aM (jA E) I;u_c kO (jA E) I;u_leave1 H.f_uAdd (jA E) I;u_op (jA E) I;u_c aM (jA E) I
  iterate 2 u_c cE (jA E) I
  u_reg (jA E) I
  iterate 4 u_op (jA E) I
  iterate 2 u_skip (jA E) I
  u_op (jA E) I;u_c aM (jA E) I;u_cnd aL (jA E) I;u_c gF (jA E) I;u_c cE (jA E) I;u_reg (jA E) I
  iterate 4 u_op (jA E) I
  u_c aM (jA E) I;u_c cE (jA E) I;u_reg (jA E) I
  iterate 4 u_op (jA E) I
  u_c aM (jA E) I
  iterate 2 u_c cE (jA E) I
  u_reg (jA E) I
  iterate 10 u_op (jA E) I
  u_c aM (jA E) I;u_cnd aL (jA E) I;u_c gF (jA E) I
  iterate 2 u_c cE (jA E) I
  u_reg (jA E) I
  iterate 2 u_op (jA E) I
  u_c aM (jA E) I;u_cnd aL (jA E) I;u_c gF (jA E) I
  iterate 2 u_c cE (jA E) I
  u_reg (jA E) I
  iterate 3 u_op (jA E) I
  iterate 2 u_skip (jA E) I
  iterate 2 u_op (jA E) I
  iterate 4 u_skip (jA E) I
  u_op (jA E) I;u_c aM (jA E) I;u_cnd aL (jA E) I;u_c gF (jA E) I
  iterate 2 u_c cE (jA E) I
  u_reg (jA E) I
  iterate 3 u_op (jA E) I
  iterate 2 u_skip (jA E) I
  u_op (jA E) I;u_c aM (jA E) I;u_cnd aR (jA E) I;u_c kO (jA E) I;refine cL (λag R=>Way.stop λaf J=>?_);replace I:=jA E (jA E I R) J;clear R J;refine⟨rfl,_,stepG_unwind_entry (v:=.tuple #[]) (evs:=#[cY _]) rfl H.f_enable (x_enable_n L) (x_enable_b L) (x_enable_x L) (x_enable_f L) (by simp[Extern.Race.none_]) (by simp[cY]) (by simp[cY]),?_⟩;refine Way.go (n:=2) ?_;u_leave0 H.f_add (jA E) I;exact cL λaj ae=>hT _ (jA E I ae)
end
end
section
variable {P:cU}
section
variable [pf]{L:WgLink}{Wg C n lo:Nat}{Fin:kC->cA->U->Prop}{Fk:kC->U->Prop}
 {b₀:cR} {a₀:Act} {ops₀:Array ij} {i₀:Nat} {rest₀:List Nat} {k₀:List Item} {cs:List cR}
omit [Payload] in
def Jt(L:WgLink)(Fk:kC->U->Prop)(Wg:Nat)(c:cR)(cs:List cR)(K:kC)(g:cA)(w:U):Prop:=
 ∃T:Array X,g=G ((base L.wait).at ⟨T,[]⟩ [.code (L7 L),.inLoop (L7 L),.inBlock 0]) (c::cs)/\T.size=84/\T[0]? =M (.pointer (M ⟨Wg,0,Z⟩))/\Fk K w/\iB L.tWg Wg w
def waitRound(H:WgLib P L)(z:∀K w w',En ⟨Wg,C,n,L.tWg,lo⟩ Z K w w'->Fk K w->Fk K w')(an:∀K w w',Aside Wg w w'->Fk K w->Fk K w')(hT:∀K w,Fk K w/\iB L.tWg Wg w->Way P ⟨Wg,C,n,L.tWg,lo⟩ Fin K (G (b₀.at (a₀.put ((ops₀[i₀]?).bind (·.dst)) (.tuple #[])) (bL ops₀ rest₀::k₀)) cs) w)(K:kC)(g:cA)(w:U)(h:Jt L Fk Wg (b₀.at a₀ (bL ops₀ (i₀::rest₀)::k₀)) cs K g w):Way P ⟨Wg,C,n,L.tWg,lo⟩ (Ah P ⟨Wg,C,n,L.tWg,lo⟩ Fin (Jt L Fk Wg (b₀.at a₀ (bL ops₀ (i₀::rest₀)::k₀)) cs)) K g w:=by
 lib_facts
 obtain⟨T,rfl,ai,t0,E⟩:=h;obtain⟨v0,v1,v2,v3,v4,v5,v6,v7,v8,v9,b7,a8,cu,au,ck,ay,a5,bz,dd,bq,bk,av,c6,di,a4,c2,cq,bm,c4,bs,bg,ca,ar,db,bj,a7,dg,c9,co,bd,ba,bb,cx,bp,b8,a9,az,cw,cj,cn,b6,ct,b5,bu,a0,cf,cr,ce,bn,c5,bl,de,b3,cd,cg,aw,a3,a6,cl,ci,c3,b9,cy,dh,bo,b4,dj,br,a2,cc,cv,bw,bv,bh,rfl⟩:=array84 T ai;simp only[eX,dX,aK]at t0;subst t0;simp only[L7,body_wait,waitFn,fH];refine Way.go (n:=100) ?_;u_c pQ (jA (z K)) E;u_c cE (jA (z K)) E;u_reg (jA (z K)) E
 iterate 3 u_op (jA (z K)) E
 u_call H.f_uLoad (nm_uLoad L) uLoadFn (jA (z K)) E;u_c cE (jA (z K)) E;u_reg (jA (z K)) E;u_op (jA (z K)) E;u_c aM (jA (z K)) E;u_c cE (jA (z K)) E;u_reg (jA (z K)) E
 iterate 3 u_op (jA (z K)) E
 refine cL (λaq I=>Way.stop λam J=>?_);replace E:=jA (z K) (jA (z K) E I) J;clear I J;refine⟨rfl,λv hv hw=>?_⟩;obtain rfl|b0:=gQ v
 .replace hw:WgAt L.tWg Wg am 0 0:=by simpa using hw
  refine⟨_,stepG_load_atomic (v:=0) rfl rfl (by k_ne) rfl H.f_loadU64 (x_loadU64_n L) (x_loadU64_b L) (x_loadU64_x L) _ (x_loadU64_f L) rfl hw.cellSt,λ_=>?_,λh=>Xs rfl h⟩;clear hw;walk_nrm;refine Way.go (n:=100) ?_;u_op (jA (z K)) E;u_c aM (jA (z K)) E;u_c kO (jA (z K)) E;u_leave1 H.f_uLoad (jA (z K)) E;u_op (jA (z K)) E;u_c aM (jA (z K)) E;u_c cE (jA (z K)) E;u_reg (jA (z K)) E
  iterate 4 u_op (jA (z K)) E
  u_c aM (jA (z K)) E;u_c cE (jA (z K)) E;u_reg (jA (z K)) E
  iterate 4 u_op (jA (z K)) E
  u_c aM (jA (z K)) E
  iterate 2 u_c cE (jA (z K)) E
  u_reg (jA (z K)) E
  iterate 2 u_op (jA (z K)) E
  u_c aM (jA (z K)) E;u_cond aR (jA (z K)) E;u_c cE (jA (z K)) E;u_cond aR (jA (z K)) E;u_c cE (jA (z K)) E;u_reg (jA (z K)) E;refine cL (λag I=>Way.stop λaf J=>?_);replace E:=jA (z K) (jA (z K) E I) J;clear I J;refine⟨rfl,_,stepG_mark0 _ aC rfl rfl (by k_ne) rfl H.f_enable (x_enable_n L) (x_enable_b L) (x_enable_x L) (x_enable_f L),?_⟩;walk_nrm;refine Way.go (n:=40) ?_;u_c aM (jA (z K)) E;u_reg (jA (z K)) E;u_op (jA (z K)) E;u_conv H.underlying_tWgP H.room_tWg (WgLive.cell0 E.2).choose_spec (jA (z K)) E;refine cL (λak I=>Way.stop λaj J=>?_);replace E:=jA (z K) (jA (z K) E I) J;clear I J;refine⟨rfl,_,stepG_markAt _ aC rfl rfl (by k_ne) rfl H.f_acquire (x_acquire_n L) (x_acquire_b L) (x_acquire_x L) (x_acquire_f L) (by simp[kp,stA]),?_⟩;walk_nrm;refine Way.go (n:=60) ?_;u_c aM (jA (z K)) E
  iterate 2 u_c cE (jA (z K)) E
  u_reg (jA (z K)) E
  iterate 8 u_op (jA (z K)) E
  iterate 2 u_skip (jA (z K)) E
  u_op (jA (z K)) E;u_c aM (jA (z K)) E;u_cond aL (jA (z K)) E;u_c gF (jA (z K)) E;u_c kO (jA (z K)) E;u_leave0 H.f_wait (jA (z K)) E;exact cL λao ae=>hT _ _ (jA (z K) E ae)
 .obtain⟨S,hS⟩:∃S:Int,(v:Int)*KK=S:=⟨_,rfl⟩
  have a1:S/4294967296=(v:Int):=by rw[<-hS];simp only[KK];omega
  have b1:bits .and .u64 S 2147483648=0:=by rw[<-hS];have:=st_flag v 0 aA aA;simpa[KK]using this
  have b2:bits .and .u64 S 2147483647=0:=by rw[<-hS];have:=st_waiters v 0 aA aA;simpa[KK]using this
  have c1:IntKind.i32.wrap (v:Int)=v:=by rw[IntKind.wrap_i32];omega
  have w1:IntKind.u64.wrap (S+1)=S+1:=by rw[IntKind.wrap_u64,<-hS];simp only[KK];omega
  have q3:decide ((v:Int)<0)=aL:=ZZ aA;have q4:decide (0<(v:Int))=aR:=Z0 aA;have q5:((v:Int) == 0)=aL:=aF
  have q6:decide ((v:Int)=0)=aL:=ZZ aA;simp only[hS]at hw;refine⟨_,stepG_load_atomic (v:=S) rfl rfl (by k_ne) rfl H.f_loadU64 (x_loadU64_n L) (x_loadU64_b L) (x_loadU64_x L) _ (x_loadU64_f L) rfl hw.cellSt,λh0=>Xs h0 aA,λ_=>?_⟩;clear hw;walk_nrm;refine Way.go (n:=100) ?_;u_op (jA (z K)) E;u_c aM (jA (z K)) E;u_c kO (jA (z K)) E;u_leave1 H.f_uLoad (jA (z K)) E;u_op (jA (z K)) E;u_c aM (jA (z K)) E;u_c cE (jA (z K)) E;u_reg (jA (z K)) E
  iterate 4 u_op (jA (z K)) E
  u_c aM (jA (z K)) E;u_c cE (jA (z K)) E;u_reg (jA (z K)) E
  iterate 4 u_op (jA (z K)) E
  u_c aM (jA (z K)) E
  iterate 2 u_c cE (jA (z K)) E
  u_reg (jA (z K)) E
  iterate 2 u_op (jA (z K)) E
  u_c aM (jA (z K)) E;u_cnd aL (jA (z K)) E;u_c gF (jA (z K)) E;u_c cE (jA (z K)) E;u_reg (jA (z K)) E
  iterate 6 u_op (jA (z K)) E
  u_call H.f_uCas (nm_uCas L) uCasFn (jA (z K)) E;u_c cE (jA (z K)) E;u_reg (jA (z K)) E;u_op (jA (z K)) E;u_c aM (jA (z K)) E;u_c cE (jA (z K)) E;u_reg (jA (z K)) E
  iterate 5 u_op (jA (z K)) E
  refine cL (λap I=>Way.stop λac J=>?_);replace E:=jA (z K) (jA (z K) E I) J;clear I J;refine⟨rfl,λv' cz hw=>⟨λe=>?_,λe=>?_⟩⟩
  .subst e;simp only[hS]at hw⊢;refine⟨_,(stepG_cas_hit (v:=S) (n:=S+1) rfl rfl (by k_ne) rfl H.f_casU64 (x_casU64_n L) (x_casU64_b L) (x_casU64_x L) _ (x_casU64_f L) rfl rfl rfl hw.cellSt (hw.thaw 0)).trans (by rfl),?_⟩;replace E:Fk K (ac.setCell (stA Wg) (.int .u64 (S+1)))/\iB L.tWg Wg (ac.setCell (stA Wg) (.int .u64 (S+1))):=⟨an _ _ _ (iz ac (stA Wg) _) E.1,⟨_,_,hw.setSt _⟩⟩
   clear hw;walk_nrm;refine Way.go (n:=100) ?_;u_op (jA (z K)) E;u_c aM (jA (z K)) E;u_c kO (jA (z K)) E;u_leave1 H.f_uCas (jA (z K)) E;u_c aM (jA (z K)) E;u_cond aR (jA (z K)) E
   iterate 2 u_c cE (jA (z K)) E
   u_reg (jA (z K)) E
   iterate 4 u_op (jA (z K)) E
   u_c aM (jA (z K)) E;u_cond aR (jA (z K)) E;u_reg (jA (z K)) E
   iterate 3 u_op (jA (z K)) E
   u_conv H.underlying_tPU32 H.room_tU32 (WgLive.cell1 E.2).choose_spec (jA (z K)) E;refine cL (λah aa=>?_);replace E:=jA (z K) E aa;clear aa;refine Way.said rfl (cD rfl) (λR Y=>stepG_markAt _ aC rfl rfl (by k_ne) rfl H.f_raceWrite (x_raceWrite_n L) (x_raceWrite_b L) (x_raceWrite_x L) (x_raceWrite_f L) (ad:=⟨_,1,Z⟩) (by simp[kp]<;>rfl)) (λR Y=>?_);replace E:=jA (z K) E Y;clear Y;walk_nrm;refine Way.go (n:=100) ?_;u_c aM (jA (z K)) E;u_c cE (jA (z K)) E;u_reg (jA (z K)) E;u_op (jA (z K)) E;u_c aM (jA (z K)) E
   iterate 2 u_c cE (jA (z K)) E
   u_reg (jA (z K)) E
   iterate 4 u_op (jA (z K)) E
   u_skip (jA (z K)) E;u_op (jA (z K)) E;u_c aM (jA (z K)) E;u_cond aL (jA (z K)) E;u_c gF (jA (z K)) E;u_c cE (jA (z K)) E;u_reg (jA (z K)) E
   iterate 4 u_op (jA (z K)) E
   refine cL (λah I=>Way.stop λR J=>?_);replace E:=jA (z K) (jA (z K) E I) J;clear I J;refine⟨rfl,rfl,λ⟨st,hw⟩=>stepG_semacquire_wait rfl rfl rfl H.f_semacquire (x_semacquire_n L) (x_semacquire_b L) (x_semacquire_x L) (x_semacquire_f L) (by simp[kp,smA]) hw.cellSm,λhf=>?_⟩;refine⟨_,(stepG_semacquire (n:=1) rfl rfl (by k_ne) rfl H.f_semacquire (x_semacquire_n L) (x_semacquire_b L) (x_semacquire_x L) (x_semacquire_f L) (by simp[kp,smA]) hf.cellSm (by k_ne) (hf.thaw 1)).trans (by rfl),?_⟩;replace E:Fk K (R.setCell (smA Wg) (.int .u32 0))/\iB L.tWg Wg (R.setCell (smA Wg) (.int .u32 0)):=⟨an _ _ _ (iz R (smA Wg) _) E.1,⟨_,_,hf.setSm 0⟩⟩
   clear hf;walk_nrm;refine Way.go (n:=100) ?_;u_c aM (jA (z K)) E;u_c cE (jA (z K)) E;u_reg (jA (z K)) E
   iterate 3 u_op (jA (z K)) E
   u_call H.f_uLoad (nm_uLoad L) uLoadFn (jA (z K)) E;u_c cE (jA (z K)) E;u_reg (jA (z K)) E;u_op (jA (z K)) E;u_c aM (jA (z K)) E;u_c cE (jA (z K)) E;u_reg (jA (z K)) E
   iterate 3 u_op (jA (z K)) E
   refine cL (λag I=>Way.stop λaf J=>?_);replace E:=jA (z K) (jA (z K) E I) J;clear I J;refine⟨rfl,λhw=>⟨_,stepG_load_atomic (v:=0) rfl rfl (by k_ne) rfl H.f_loadU64 (x_loadU64_n L) (x_loadU64_b L) (x_loadU64_x L) _ (x_loadU64_f L) rfl hw.cellSt,?_⟩⟩;clear hw;walk_nrm;refine Way.go (n:=100) ?_;u_op (jA (z K)) E;u_c aM (jA (z K)) E;u_c kO (jA (z K)) E;u_leave1 H.f_uLoad (jA (z K)) E
   iterate 2 u_op (jA (z K)) E
   u_c aM (jA (z K)) E;u_c cE (jA (z K)) E;u_cond aR (jA (z K)) E;u_c cE (jA (z K)) E;u_reg (jA (z K)) E;refine cL (λag I=>Way.stop λaf J=>?_);replace E:=jA (z K) (jA (z K) E I) J;clear I J;refine⟨rfl,_,stepG_mark0 _ aC rfl rfl (by k_ne) rfl H.f_enable (x_enable_n L) (x_enable_b L) (x_enable_x L) (x_enable_f L),?_⟩;walk_nrm;refine Way.go (n:=40) ?_;u_c aM (jA (z K)) E;u_reg (jA (z K)) E;u_op (jA (z K)) E;u_conv H.underlying_tWgP H.room_tWg (WgLive.cell0 E.2).choose_spec (jA (z K)) E;refine cL (λak I=>Way.stop λaj J=>?_);replace E:=jA (z K) (jA (z K) E I) J;clear I J;refine⟨rfl,_,stepG_markAt _ aC rfl rfl (by k_ne) rfl H.f_acquire (x_acquire_n L) (x_acquire_b L) (x_acquire_x L) (x_acquire_f L) (by simp[kp,stA]),?_⟩;walk_nrm;refine Way.go (n:=60) ?_;u_c aM (jA (z K)) E
   iterate 2 u_c cE (jA (z K)) E
   u_reg (jA (z K)) E;u_op (jA (z K)) E;u_c aM (jA (z K)) E;u_cond aL (jA (z K)) E;u_c gF (jA (z K)) E;u_c kO (jA (z K)) E;u_leave0 H.f_wait (jA (z K)) E;exact cL λao ae=>hT _ _ (jA (z K) E ae)
  .refine⟨_,stepG_cas_miss (v:=v'*KK) (old:=S) (n:=S+1) rfl rfl (by k_ne) rfl H.f_casU64 (x_casU64_n L) (x_casU64_b L) (x_casU64_x L) _ (x_casU64_f L) rfl rfl rfl hw.cellSt (hw.thaw 0) (by rw[<-hS];simp only[KK];omega),?_⟩;clear hw;walk_nrm;refine Way.go (n:=100) ?_;u_op (jA (z K)) E;u_c aM (jA (z K)) E;u_c kO (jA (z K)) E;u_leave1 H.f_uCas (jA (z K)) E;u_c aM (jA (z K)) E;u_cond aL (jA (z K)) E;u_c gF (jA (z K)) E;u_c stepG_inBlock (jA (z K)) E;u_c stepG_inLoop (jA (z K)) E;refine cL (λah aa=>Way.stop λR Y=>?_);exact⟨_,rfl,aC,aC,jA (z K) (jA (z K) E aa) Y⟩
def waitStart(H:WgLib P L)(z:∀K w w',En ⟨Wg,C,n,L.tWg,lo⟩ Z K w w'->Fk K w->Fk K w')(K:kC)(w:U)(E:Fk K w/\iB L.tWg Wg w):Way P ⟨Wg,C,n,L.tWg,lo⟩ (zy P ⟨Wg,C,n,L.tWg,lo⟩ (Jt L Fk Wg (b₀.at a₀ (bL ops₀ (i₀::rest₀)::k₀)) cs)) K (G ((base L.wait).at ⟨#[.pointer (M ⟨Wg,0,Z⟩),aE,aE,aE,aE,aE,aE,aE,aE,aE,aE,aE,aE,aE,aE,aE,aE,aE,aE,aE,aE,aE,aE,aE,aE,aE,aE,aE,aE,aE,aE,aE,aE,aE,aE,aE,aE,aE,aE,aE,aE,aE,aE,aE,aE,aE,aE,aE,aE,aE,aE,aE,aE,aE,aE,aE,aE,aE,aE,aE,aE,aE,aE,aE,aE,aE,aE,aE,aE,aE,aE,aE,aE,aE,aE,aE,aE,aE,aE,aE,aE,aE,aE,aE],[]⟩ [.code (body_wait L)]) (b₀.at a₀ (bL ops₀ (i₀::rest₀)::k₀)::cs)) w:=by
 lib_facts
 simp only[body_wait,waitFn,fH];refine Way.go (n:=10) ?_;u_c cE (jA (z K)) E;u_cond aR (jA (z K)) E;u_reg (jA (z K)) E;refine cL (λae I=>Way.stop λac J=>?_);replace E:=jA (z K) (jA (z K) E I) J;clear I J;refine⟨rfl,_,stepG_mark0 _ aC rfl rfl (by k_ne) rfl H.f_disable (x_disable_n L) (x_disable_b L) (x_disable_x L) (x_disable_f L),?_⟩;walk_nrm;refine Way.go (n:=10) ?_;u_c aM (jA (z K)) E;u_c pQ (jA (z K)) E;u_c stepG_loop (jA (z K)) E;exact cL (λaa R=>Way.stop λaf Y=>⟨_,rfl,aC,aC,jA (z K) (jA (z K) E R) Y⟩)
end
end
section
variable {es:Array jz}{v:X}
section
variable [pf]{P:cU}{main:Bool}{S:Who}{me:Option Nat}{K:kC}{St St':kC->cA->U->Prop}{g:cA}{w w':U}
def kY(P:cU)(main:Bool)(S:Who)(me:Option Nat)(St:kC->cA->U->Prop)(K:kC)(g:cA)(w:U):Prop:=∃T,jT P main S me St T K g w
def kY.go{n:Nat}(h:iv P main (En S me K) DC0 (λg w=>kY P main S me St K g w) n g w):kY P main S me St K g w:=by obtain⟨T,z⟩:=jT.QA (λ_ _ x=>x) h;exact z.bind λE g w ⟨e,hw⟩=>by rw[e];exact hw
def kY.stop(h:∀z,En S me K w z->St K g z):kY P main S me St K g w:=jT.stop h
def kY.step(hs:g.status=eN)(h:∀z,En S me K w z->∃g' w' es,eC P main g z=.go g' w' es/\Gu S me K z w' es/\kY P main S me St (K.grow ↑z ↑w') g' w'):kY P main S me St K g w:=jT.one hs h
def Way.m(h:kY P aR S Z St K g w):Way P S St K g w:=h
section
variable {b:cR}{a:Act}{k:List Item}{cs:List cR}{ops:Array ij}{i:Nat}{rest:List Nat}{o:ij}
def kY.op(ho:ops[i]? =M o)(hw:cP o (yielded ops a.tmps)=aR)(hk:b.kind≠.early)(h:∀z,En S me K w z->∃v w',(bN a.eval o).run P z=.ok (.value v) w'/\Gu S me K z w' (listed P b.fn a o z)/\kY P main S me St (K.grow ↑z ↑w') (G (b.at (a.put o.dst v) (bL ops rest::k)) cs) w'):kY P main S me St K (G (b.at a (bL ops (i::rest)::k)) cs) w:=
 .step rfl λz E=>let ⟨_,w',hr,hg,hW⟩:=h z E;⟨_,w',_,stepG_value ho hw hk hr,hg,hW⟩
def kY.opn(ho:ops[i]? =M o)(hw:cP o (yielded ops a.tmps)=aR)(hk:b.kind≠.early)(h:∀z,En S me K w z->∃w',(bN a.eval o).run P z=.ok .skip w'/\Gu S me K z w' (listed P b.fn a o z)/\kY P main S me St (K.grow ↑z ↑w') (G (b.at (a.put o.dst aE) (bL ops rest::k)) cs) w'):kY P main S me St K (G (b.at a (bL ops (i::rest)::k)) cs) w:=
 .step rfl λz E=>let ⟨w',hr,hg,hW⟩:=h z E;⟨_,w',_,stepG_none ho hw hk hr,hg,hW⟩
def kY.draw{I:Nat}(h:∀z,En S me K w z->∀t,kY P main S me St K (G (b.at a (bL ops (n9 (P.follows .mixedOrders) ops t)::k)) cs) { z with drawn:=z.drawn+1 }):kY P main S me St K (G (b.at a (.code (.region I ops aR)::k)) cs) w:=
 .step rfl λz E=>⟨_,_,_,stepG_region_draw,⟨rfl,rfl,rfl,jB,λ_ _ _ _=>rfl,id,λ_ _=>rfl,λe J=>by simp at J⟩,by
  rw[show K.grow ↑z ({ z with drawn:=z.drawn+1 }:U).heap.size=K from kR ..];exact h z E _⟩
end
def su(h:∀e∈es,∃a:Addr,e=⟨.cell a,aL,aL⟩/\K.O a.block/\a.block<w.heap.size):Gu S me K w w es:=
 ⟨rfl,rfl,rfl,jB,λ_ _ _ _=>rfl,id,λ_ _=>rfl,λe z=>by
  obtain⟨a,rfl,E,h2⟩:=h e z;exact bE (bE ⟨a,aL,rfl,bE (by simpa using E),h2⟩)⟩
def KC(hC:S.C<w.heap.size){o:nL}:Gu S me K w (w.alloc o) #[]:=by
 have z:∀b,b<w.heap.size->(w.alloc o).heap[b]? =w.heap[b]?:=λb z=>by
  show(w.heap.push o)[b]? =w.heap[b]?
  grind
 exact⟨rfl,rfl,rfl,aC,λb h _ _=>z b h,λ⟨cs,I,h2⟩=>⟨cs,(z _ hC).trans I,h2⟩,λi _=>by simp only[eB,z _ hC],λe E=>by simp at E⟩
omit [Payload] in
def kL{ad:Addr}{b:Nat}(h:b≠ad.block):(w.setCell ad v).heap[b]? =w.heap[b]?:=(iz w ad v).block b h
omit [Payload] in
def kE(w:U)(ad:Addr)(v:X):(w.setCell ad v).tape=w.tape/\(w.setCell ad v).os=w.os/\(w.setCell ad v).output=w.output/\(w.setCell ad v).heap.size=w.heap.size:=
 have h:=iz w ad v;⟨h.tape,h.os,h.output,h.size⟩
def Wx{ad:Addr}(z:K.W ad.block)(E:ad.block<w.heap.size)(hC:ad.block≠S.C)(h:∀e∈es,e=⟨.cell ad,aR,aL⟩):Gu S me K w (w.setCell ad v) es:=by obtain⟨J,h2,h3,h4⟩:=kE w ad v;have hc:=kL (w:=w) (ad:=ad) (v:=v) (b:=S.C) (Ne.symm hC);refine⟨J,h2,h3,jq h4.symm,λb _ R _=>kL λe=>R (e ▸ z),λ⟨cs,a,b⟩=>⟨cs,hc.trans a,b⟩,λi _=>by simp only[eB,hc],λe I=>?_⟩;rw[h e I];exact bE (bE ⟨ad,aR,rfl,bE (by simpa using z),by rw[h4];exact E⟩)
def acG{i:Nat}(hp:pL S.C S.n w)(h:∀e∈es,e=⟨.cell ⟨S.C,i,Z⟩,aR,aL⟩):Gu S (M i) K w (w.setCell ⟨S.C,i,Z⟩ v) es:=by
 obtain⟨R,h2,h3,h4⟩:=kE w ⟨S.C,i,Z⟩ v;obtain⟨cs,z,Y⟩:=hp
 have hw:(w.setCell ⟨S.C,i,Z⟩ v).heap[S.C]? =M (.cells (cs.setIfInBounds i v) Payload.ety):=by
  have J:=(jE z)
  simp[World.setCell,bT,z]
 refine⟨R,h2,h3,jq h4.symm,λb _ _ hc=>kL λe=>?_,λ_=>⟨_,hw,by simpa using Y⟩,λi' I=>?_,λe he=>?_⟩
 .grind
 .have E:i≠i':=λe=>I (by rw[e]);simp[eB,hw,z,dZ E]
 .rw[h e he];exact cD (bE ⟨i,aR,rfl,rfl⟩)
end
def Gh{σ:Type}{md:Region.Mode}{ops:Array ij}(I:Nat->Array Bool->σ->Prop)(XX:List Nat->σ->Prop)(done:∀listed s,I 0 listed s->XX [] s)(more:∀z listed s,I (z+1) listed s->fR md ops listed≠[]/\∀i∈fR md ops listed,∀rest,(∀s',I z (listed.setIfInBounds i aR) s'->XX rest s')->XX (i::rest) s):∀(z t:Nat)(listed:Array Bool)(s:σ),I z listed s->XX (l8 md ops z t listed []) s:=by
 intro z
 induction z with
 |zero=>intro t listed s h;exact done listed s h
 |succ z ih=>
  intro t listed s h;obtain⟨R,Y⟩:=more z listed s h;simp only[l8]
  show XX (match (fR md ops listed)[t%(fR md ops listed).length]? with
   |some i=>l8 md ops z (t/(fR md ops listed).length) (listed.setIfInBounds i aR) [i]
   |none=>[]) s
  have E:=List.length_pos_iff.2 R;have J:=Nat.mod_lt t E;rw[aO J];simp only;rw[linearise_go_acc,List.reverse_singleton,List.singleton_append]
  grind
end
open Go Go.Conc
section
def nN(ops:Array ij)(i:Nat):Option Tmp:=(ops[i]?).bind (·.dst)
def rank(md:Region.Mode)(ops:Array ij)(i:Nat):Nat:=(Region.linearise md ops 0).idxOf i
def fills(n:Nat)(ops:Array ij):Bool:=(ir ops.size).all λi=>(nN ops i).all (·<n)&&((ops[i]?).all λo=>o.after.toList.all λe=>decide (e.on<ops.size)&&[Region.Mode.text,.gc,.any].all λmd=>!Region.binds md e || decide (rank md ops e.on<rank md ops i))&&(ir ops.size).all λj=>i == j || (nN ops i).isNone || nN ops i != nN ops j
def waits(ops:Array ij)(i j:Nat):Bool:=(ops[i]?).any λo=>o.after.toList.any λe=>Region.binds .any e&&e.on == j
def kM{ops:Array ij}{i:Nat}{o:ij}(p:Op×Option (Nat×Bool))(ho:ops[i]? =M o)(h:(ops[i]?).map (λo=>(o.op,o.guard))=M p):o.op=p.1/\o.guard=p.2:=by grind
def AP{l:Array Bool}{i:Nat}(h:l.getD i aR=aL):l.getD i aL=aL/\(l.setIfInBounds i aR).getD i aL=aR:=by
 rw[fD]at h;cases z:l[i]? with
 |none=>rw[z]at h;cases h
 |some x=>
  rw[z]at h;have E:=(jE z)
  exact⟨by rw[fD,z];exact h,by simp[E]⟩
structure Fill(ops:Array ij)(V:Nat->X)(a0:Act)(l:Array Bool)(a:Act):Prop where
 size:a.tmps.size=a0.tmps.size
 defers:a.defers=a0.defers
 got:∀i s,nN ops i=M s->l.getD i aL=aR->a.tmps[s]? =M (V i)
 kept:∀s,(∀i,nN ops i≠M s)->a.tmps[s]? =a0.tmps[s]?
 clo:∀i j,waits ops i j=aR->l.getD i aL=aR->l.getD j aL=aR
section
variable {ops:Array ij}{V:Nat->X}{a0 a:Act}{l:Array Bool}{i s:Nat}{o:ij}
def Fill.ev(h:Fill ops V a0 l a)(hd:nN ops i=M s)(z:l.getD i aL=aR):a.eval (.tmp s)=V i:=by have:=h.got i s hd z;simp[kp,this]
def Fill.slot(h:Fill ops V a0 l a)(hs:((ir ops.size).all λi=>nN ops i != M s)=aR):a.tmps[s]? =a0.tmps[s]?:=h.kept s λi z=>by
 have E:i<ops.size:=by
  unfold nN at z;cases h:ops[i]? with
  |none=>rw[h]at z;cases z
  |some o=>grind
 grind
def Fill.old{v:X}(h:Fill ops V a0 l a)(hs:((ir ops.size).all λi=>nN ops i != M s)=aR)(z:a0.tmps[s]? =M v):a.eval (.tmp s)=v:=by have:=(h.slot hs).trans z;simp[kp,this]
def Nr{n:Nat}(E:fills n ops=aR)(ho:ops[i]? =M o):(∀s,o.dst=M s->s<n/\∀j,nN ops j=M s->j=i)/\∀e∈o.after,e.on<ops.size/\∀md,Region.binds md e=aR->rank md ops e.on<rank md ops i:=by
 have R:=(jE ho)
 have h:=fF.1 E i (gV.2 R);simp only[dF]at h;obtain⟨⟨Y,h2⟩,h3⟩:=h;have hd:nN ops i=o.dst:=by unfold nN;rw[ho];rfl
 rw[ho]at h2;refine⟨λs hs=>⟨by grind,λj z=>?_⟩,λe J=>?_⟩
 .have I:j<ops.size:=by
   unfold nN at z;cases h:ops[j]? with
   |none=>rw[h]at z;cases z
   |some o=>grind
  grind
 .simp only[Option.all_some]at h2;have:=fF.1 h2 e (Array.mem_toList_iff.2 J);simp only[dF,Z3]at this;refine⟨this.1,λmd hb=>?_⟩;have:=fF.1 this.2 md (by cases md<;>simp)
  grind
def Fill.put{I:Nat->X}(hf:fills a0.tmps.size ops=aR)(ho:ops[i]? =M o)(hV:∀j,l.getD j aL=aR->I j=V j)(hw:∀j,waits ops i j=aR->l.getD j aL=aR)(h:Fill ops V a0 l a):Fill ops I a0 (l.setIfInBounds i aR) (a.put o.dst (I i)):=by
 have hd:nN ops i=o.dst:=by unfold nN;rw[ho];rfl
 have hu:=(Nr hf ho).1;have hl:∀j,j≠i->(l.setIfInBounds i aR).getD j aL=l.getD j aL:=λj E=>getD_set_ne aL (Ne.symm E)
 have hm:∀j,l.getD j aL=aR->(l.setIfInBounds i aR).getD j aL=aR:=λj E=>by
  by_cases e:j=i
  .subst e;rw[fD]at E;cases hx:l[j]? with
   |none=>rw[hx]at E;cases E
   |some x=>simp[(jE hx)]
  grind
 have Y:∀k j,waits ops k j=aR->(l.setIfInBounds i aR).getD k aL=aR->(l.setIfInBounds i aR).getD j aL=aR:=λk j R hk=>hm j (by
  by_cases e:k=i
  .subst e;exact hw j R
  .rw[hl k e]at hk;exact h.clo k j R hk)
 cases hs:o.dst with
 |none=>
  refine⟨h.size,h.defers,λj s E z=>?_,h.kept,Y⟩;by_cases e:j=i
  .grind
  .rw[hl j e]at z;rw[hV j z];exact h.got j s E z
 |some t=>
  obtain⟨aa,ae⟩:=hu t hs
  have ac:(a.put (M t) (I i)).tmps[t]? =M (I i):=by
   simp[dC,h.size,aa]
  have J:∀s,s≠t->(a.put (M t) (I i)).tmps[s]? =a.tmps[s]?:=λs e=>by simp[dC,dZ (Ne.symm e)]
  refine⟨by simp[dC,h.size],h.defers,λj s E z=>?_,λs hk=>?_,Y⟩
  .by_cases e:j=i
   .grind
   .rw[hl j e]at z;by_cases e2:s=t
    .grind
    .rw[J s e2,hV j z];exact h.got j s E z
  .rw[J s λe=>hk i (by rw[hd,hs,e])];exact h.kept s hk
def TG{md:Region.Mode}{e:Edge}(h:Region.binds .any e=aR):Region.binds md e=aR:=by
 unfold Region.binds at *
 grind
def Ec{σ:Type}(V:σ->Nat->X)(J:Array Bool->σ->Prop)(XX:List Nat->Act->σ->Prop)(hf:fills a0.tmps.size ops=aR)(done:∀l a s,(∀i,i<ops.size->l.getD i aL=aR)->Fill ops (V s) a0 l a->J l s->XX [] a s)(more:∀l a s i o rest,ops[i]? =M o->l.getD i aR=aL->(∀j,waits ops i j=aR->l.getD j aL=aR)->Fill ops (V s) a0 l a->J l s->(∀s',(∀j,l.getD j aL=aR->V s' j=V s j)->J (l.setIfInBounds i aR) s'->XX rest (a.put o.dst (V s' i)) s')->XX (i::rest) a s)(m:Bool)(t:Nat)(s:σ)(h:J (lO ops.size aL) s):XX (n9 m ops t) a0 s:=by
 have key:∀md t,XX (l8 md ops ops.size t (lO ops.size aL) []) a0 s:=λmd t=>by
  refine Gh (σ:=Act×σ) (md:=md) (ops:=ops) (λR l s=>l.size=ops.size/\l.count aL=R/\Fill ops (V s.2) a0 l s.1/\J l s.2) (λrest s=>XX rest s.1 s.2) ?_ ?_ _ t _ (a0,s) ⟨aC,aC,⟨rfl,rfl,λi s' _ hl=>?_,λ_ _=>rfl,λi _ _ hl=>?_⟩,h⟩
  .rintro l ⟨a,s⟩ ⟨Y,hc,hF,hJ⟩;refine done l a s (λi I=>?_) hF hJ;cases z:l.getD i aL with
   |true=>rfl
   |false=>
    have hm:aL∈l:=by
     rw[<-Y]at I;simp[I]at z;exact z ▸ Array.getElem_mem I
    grind
  .rintro R l ⟨a,s⟩ ⟨Y,hc,hF,hJ⟩;refine⟨λhe=>?_,λi I rest hn=>?_⟩
   .have hm:aL∈l:=Array.count_pos_iff.1 aA;obtain⟨i,I,z⟩:=Array.mem_iff_getElem.1 hm
    have key:∀n i,rank md ops i<n->l.getD i aR=aL->False:=by
     intro n
     induction n with
     |zero=>omega
     |succ n ih=>
      intro i I z
      have E:i<ops.size:=by
       rw[<-Y];apply Nat.lt_of_not_le;intro h;simp[Nat.not_lt.2 h]at z
      have:i∈fR md ops l:=mem_ready.2 ⟨z,_,dA E,λe he hb=>by
       have hr:=(Nr hf (dA E)).2 e he
       grind⟩
      grind
    exact key _ i (Nat.lt_succ_self _) (by simp[I,z])
   .obtain⟨z,o,ho,aa⟩:=mem_ready.1 I
    have hw:∀j,waits ops i j=aR->l.getD j aL=aR:=λj hj=>by
     unfold waits at hj;rw[ho]at hj;obtain⟨e,he,hb⟩:=List.any_eq_true.1 hj;simp only[dF,YY]at hb;rw[<-hb.2];exact aa e (Array.mem_toList_iff.1 he) (TG hb.1)
    refine more l a s i o rest ho z hw hF hJ λs' hV ac=>hn (_,s') ⟨by simp[Y],?_,hF.put hf ho hV hw,ac⟩;have E:i<l.size:=by rw[Y];exact(jE ho)
    have ae:l[i]=aL:=by simpa[E]using z
    grind
  all_goals
   rw[fD,Array.getElem?_replicate]at hl;split at hl<;>simp at hl
 unfold n9;split
 .exact key _ t
 .exact key _ _
end
end
open Go.ConcR (Payload DC0)
section
variable {ob o o':nL}{i B:Nat}
section
variable [pf]
structure At(S:Who)(K0:kC)(w0:U)(L:List (Nat×nL))(K:kC)(w:U):Prop where
 sub:∀x,K.W x->K.O x
 low:∀x,K.O x->x<w.heap.size
 pay0:S.C<w0.heap.size
 grp0:S.Wg<w0.heap.size
 size:↑w0<=w.heap.size
 old:∀x,K0.O x->x<w0.heap.size/\K.O x/\w.heap[x]? =w0.heap[x]?
 new:∀x,K.O x->K0.O x\/w0.heap.size<=x
 live:iB S.ty S.Wg w0->iB S.ty S.Wg w
 pay:pL S.C S.n w0->pL S.C S.n w
 mem:∀p∈L,w0.heap.size<=p.1/\K.W p.1/\w.heap[p.1]? =M p.2
 ord:L.Pairwise λp q=>q.1≠p.1
structure Lies(L:List (Nat×nL))(n0:Nat)(w:U):Prop where
 size:n0<=↑w
 mem:∀p∈L,n0<=p.1/\w.heap[p.1]? =M p.2
 ord:L.Pairwise λp q=>q.1≠p.1
def InL(L:List (Nat×nL))(n z b:Nat):Prop:=(∃p∈L,p.1=b)\/(n<=b/\b<z)
def EvA(L:List (Nat×nL))(n E:Nat)(e:jz):Prop:=
 (∃a wr,e=⟨.cell a,wr,aL⟩/\InL L n E a.block)\/(∃r wr,e=⟨.obj r,wr,aL⟩/\InL L n E r)\/(∃wr z,e=⟨.mark .noRoom,wr,z⟩)\/∃f wr z,e=⟨.mark (.extern f),wr,z⟩
structure Turn(L L':List (Nat×nL))(w w':U)(es:Array jz):Prop where
 tape:w'.tape=w.tape
 os:w'.os=w.os
 output:w'.output=w.output
 size:↑w<=w'.heap.size
 block:∀x,x<w.heap.size->(∀p∈L,p.1≠x)->w'.heap[x]? =w.heap[x]?
 mem:∀p∈L',InL L ↑w ↑w' p.1/\w'.heap[p.1]? =M p.2
 ord:L'.Pairwise λp q=>q.1≠p.1
 events:∀e∈es,EvA L ↑w ↑w' e
variable {S:Who}{m:Nat}{K0 K:kC}{w0 w w':U}{L L':List (Nat×nL)}{es:Array jz}
def At.en{z:U}(h:At S K0 w0 L K w)(r:En S (M m) K w z):At S K0 w0 L K z:=
 ⟨h.sub,λx E=>aP (h.low x E) r.size,h.pay0,h.grp0,bH h.size r.size,λx E=>⟨(h.old x E).1,(h.old x E).2.1,(r.block x (h.old x E).2.1).trans (h.old x E).2.2⟩,h.new,r.live∘h.live,r.pay∘h.pay,λp hp=>⟨(h.mem p hp).1,(h.mem p hp).2.1,(r.block _ (h.sub _ (h.mem p hp).2.1)).trans (h.mem p hp).2.2⟩,h.ord⟩
def At.lies(h:At S K0 w0 L K w):Lies L ↑w0 w:=⟨h.size,λp hp=>⟨(h.mem p hp).1,(h.mem p hp).2.2⟩,h.ord⟩
omit [Payload] in
def Lies.lt(h:Lies L ↑w0 w){p:Nat×nL}(hp:p∈L):p.1<w.heap.size:=(dY.1 (h.mem p hp).2).1
def At.afq(h:At S K0 w0 L K w){x:Nat}(z:x<↑w0):∀p∈L,p.1≠x:=λp hp e=>by have:=(h.mem p hp).1;omega
def At.turn(h:At S K0 w0 L K w)(t:Turn L L' w w' es):At S K0 w0 L' (K.grow ↑w ↑w') w':=by
 have E:=λx z=>t.block x (aP z h.size) (h.afq z);refine⟨λx z=>z.imp (h.sub x) id,λx z=>z.elim (λk=>aP (h.low x k) t.size) (·.2),h.pay0,h.grp0,bH h.size t.size,λx z=>⟨(h.old x z).1,bE (h.old x z).2.1,(E x (h.old x z).1).trans (h.old x z).2.2⟩,λx z=>z.elim (h.new x) λk=>cD (bH h.size k.1),λk=>?_,λk=>?_,λp hp=>?_,t.ord⟩
 .obtain⟨st,sm,R⟩:=h.live k;exact⟨st,sm,R.of_block (E _ h.grp0)⟩
 .obtain⟨cs,Y,h2⟩:=h.pay k;exact⟨cs,(E _ h.pay0).trans Y,h2⟩
 .obtain⟨k,I⟩:=t.mem p hp;obtain⟨q,J,e⟩|k:=k
  .rw[<-e];exact⟨(h.mem q J).1,bE (h.mem q J).2.1,by rw[e];exact I⟩
  .exact⟨bH h.size k.1,cD k,I⟩
def At.gu(h:At S K0 w0 L K w)(t:Turn L L' w w' es):Gu S (M m) K w w' es:=by
 have J:=λx R=>t.block x (aP R h.size) (h.afq R)
 have I:∀{b:Nat},InL L ↑w ↑w' b->(K.W b\/↑w<=b)/\b<↑w':=λz=>by
  obtain⟨p,hp,rfl⟩|k:=z
  .exact⟨bE (h.mem p hp).2.1,aP (h.low _ (h.sub _ (h.mem p hp).2.1)) t.size⟩
  omega
 have E:∀{b:Nat}{wr:Bool},InL L ↑w ↑w' b->((if wr then K.W b else K.O b)\/↑w<=b)/\b<↑w':=λ{b wr} z=>by
  refine⟨(I z).1.imp (λk=>?_) id,(I z).2⟩;cases wr
  .exact h.sub _ k
  .exact k
 refine⟨t.tape,t.os,t.output,t.size,λb hl hn _=>t.block b hl λp hp e=>hn (e ▸ (h.mem p hp).2.1),λ⟨cs,Y,h2⟩=>⟨cs,(J _ h.pay0).trans Y,h2⟩,λi _=>by simp only[eB,J _ h.pay0],λe he=>bE ?_⟩;obtain⟨a,wr,rfl,z⟩|⟨r,wr,rfl,z⟩|k|k:=t.events e he
 .exact bE ⟨a,wr,rfl,E z⟩
 .exact cD (bE ⟨r,wr,rfl,E z⟩)
 .exact cD (cD (bE k))
 .exact cD (cD (cD k))
def Wc(P:cU)(S:Who)(m:Nat)(St:kC->cA->U->Prop)(K0:kC)(w0:U)(L:List (Nat×nL))(g:cA):Prop:=∀K w,At S K0 w0 L K w->kY P aL S (M m) St K g w
variable {P:cU}{St:kC->cA->U->Prop}{g g':cA}
def Wc.use(h:Wc P S m St K0 w0 L g)(z:At S K0 w0 L K w):kY P aL S (M m) St K g w:=h K w z
def Wc.step(hs:g.status=eN)(h:∀w,Lies L ↑w0 w->∃g' w' es L',eC P aL g w=.go g' w' es/\Turn L L' w w' es/\Wc P S m St K0 w0 L' g'):Wc P S m St K0 w0 L g:=λK w I=>.step hs λE z=>by
 obtain⟨g',w',es,L',e,ht,hw⟩:=h E (I.en z).lies;exact⟨g',w',es,e,(I.en z).gu ht,hw _ _ ((I.en z).turn ht)⟩
def Wc.go(n:Nat)(h:∀K w,At S K0 w0 L K w->iv P aL (En S (M m) K) DC0 (λg w=>kY P aL S (M m) St K g w) n g w):Wc P S m St K0 w0 L g:=λK w z=>kY.go (h K w z)
def Wc.drop(E:L'.Sublist L)(h:Wc P S m St K0 w0 L' g):Wc P S m St K0 w0 L g:=λK w z=>
 h K w ⟨z.sub,z.low,z.pay0,z.grp0,z.size,z.old,z.new,z.live,z.pay,λp hp=>z.mem p (E.subset hp),z.ord.sublist E⟩
omit [Payload] in
def Turn.still(h:Lies L ↑w0 w)(z:∀e∈es,EvA L ↑w ↑w e):Turn L L w w es:=⟨rfl,rfl,rfl,jB,λ_ _ _=>rfl,λp hp=>⟨bE ⟨p,hp,rfl⟩,(h.mem p hp).2⟩,h.ord,z⟩
omit [Payload] in
def Turn.lay(h:Lies L ↑w0 w)(Y:↑w'=w.heap.size+1)(z:∀x,x<w.heap.size->w'.heap[x]? =w.heap[x]?)(R:w'.heap[w.heap.size]? =M ob)(ht:w'.tape=w.tape)(ho:w'.os=w.os)(I:w'.output=w.output)(E:∀e∈es,EvA L ↑w (w.heap.size+1) e):Turn L ((w.heap.size,ob)::L) w w' es:=by
 refine⟨ht,ho,I,aA,λx J _=>z x J,λp hp=>?_,List.pairwise_cons.2 ⟨λp hp=>iM (h.lt hp),h.ord⟩,by rw[Y];exact E⟩;obtain rfl|hp:=dD.1 hp
 .exact⟨cD ⟨jB,by simp only;omega⟩,R⟩
 .exact⟨bE ⟨p,hp,rfl⟩,(z _ (h.lt hp)).trans (h.mem p hp).2⟩
omit [Payload] in
def Turn.alloc(h:Lies L ↑w0 w)(o:nL)(z:∀e∈es,EvA L ↑w (w.heap.size+1) e):Turn L ((w.heap.size,o)::L) w (w.alloc o) es:=
 .lay h aC (λx E=>by
  show(w.heap.push o)[x]? =w.heap[x]?
  grind) (World.alloc_heap_new w o) rfl rfl rfl z
omit [Payload] in
def Turn.set(h:Lies L ↑w0 w)(Y:L[i]? =M (B,o))(hz:↑w'=w.heap.size)(ho:∀x,x≠B->w'.heap[x]? =w.heap[x]?)(hn:w'.heap[B]? =M o')(ht:w'.tape=w.tape)(R:w'.os=w.os)(hu:w'.output=w.output)(he:∀e∈es,EvA L ↑w ↑w e):Turn L (L.set i (B,o')) w w' es:=by
 have z:=(aN.1 Y).1;have hB:=aX Y
 have I:(L.set i (B,o')).map Prod.fst=L.map Prod.fst:=by
  rw[List.map_set];apply List.ext_getElem?;intro k;rw[pg];split
  .grind
  .rfl
 refine⟨ht,R,hu,aA,λx _ hn=>ho x λe=>hn _ hB e.symm,λp hp=>?_,?_,by rw[hz];exact he⟩
 .have hm:p.1∈L.map Prod.fst:=by rw[<-I];exact List.mem_map_of_mem hp
  obtain⟨q,hq,e⟩:=bM.1 hm;refine⟨bE ⟨q,hq,e⟩,?_⟩;by_cases e2:p.1=B
  .obtain⟨k,hk⟩:=jw.1 hp;rw[pg]at hk;split at hk
   .grind
   .have aa:k≠i:=λe=>‹¬i=k› e.symm;have E:=(aN.1 hk).1;obtain J|J:=gG k i
    .have:=iD.1 h.ord k i E z J
     grind
    .have:=iD.1 h.ord i k z E aA
     grind
  .rw[ho _ e2];obtain⟨k,hk⟩:=jw.1 hp;rw[pg]at hk;split at hk
   .grind
   .exact(h.mem p (aX hk)).2
 .have J:(L.map Prod.fst).Pairwise (λa b=>b≠a):=List.pairwise_map.2 h.ord
  grind
omit [Payload] in
def Turn.put(h:Lies L ↑w0 w)(z:L[i]? =M (B,o))(E:∀e∈es,EvA L ↑w ↑w e):Turn L (L.set i (B,o')) w (w.putObj B o') es:=
 .set h z aC (λ_ I=>World.putObj_heap_other I) (World.putObj_heap_same (h.lt (aX z))) rfl rfl rfl E
section
variable {b:cR}{a:Act}{k:List Item}{cs:List cR}{ops:Array ij}{i:Nat}{rest:List Nat}{o:ij}
def Wc.op(ho:ops[i]? =M o)(hw:cP o (yielded ops a.tmps)=aR)(hk:b.kind≠.early)(h:∀w,Lies L ↑w0 w->∃v w' L',((bN a.eval o).run P w=.ok (.value v) w'\/(bN a.eval o).run P w=.ok .skip w'/\v=aE)/\Turn L L' w w' (listed P b.fn a o w)/\Wc P S m St K0 w0 L' (G (b.at (a.put o.dst v) (bL ops rest::k)) cs)):Wc P S m St K0 w0 L (G (b.at a (bL ops (i::rest)::k)) cs):=
 .step rfl λw I=>by
  obtain⟨v,w',L',z,ht,E⟩:=h w I;obtain z|⟨z,rfl⟩:=z
  .exact⟨_,w',_,L',stepG_value ho hw hk z,ht,E⟩
  .exact⟨_,w',_,L',stepG_none ho hw hk z,ht,E⟩
def Wc.rd(v:X)(ho:ops[i]? =M o)(hw:cP o (yielded ops a.tmps)=aR)(hk:b.kind≠.early)(h:∀w,Lies L ↑w0 w->(bN a.eval o).run P w=.ok (.value v) w/\∀e∈(bN a.eval o).events P w #[],EvA L ↑w ↑w e)(E:Wc P S m St K0 w0 L (G (b.at (a.put o.dst v) (bL ops rest::k)) cs)):Wc P S m St K0 w0 L (G (b.at a (bL ops (i::rest)::k)) cs):=
 .op ho hw hk λw z=>⟨v,w,L,bE (h w z).1,.still z λe I=>(h w z).2 e (gN I),E⟩
def Wc.al(ob:nL)(v:Nat->X)(ho:ops[i]? =M o)(hw:cP o (yielded ops a.tmps)=aR)(hk:b.kind≠.early)(h:∀w,Lies L ↑w0 w->(bN a.eval o).run P w=.ok (.value (v ↑w)) (w.alloc ob)/\∀e∈(bN a.eval o).events P w #[],EvA L ↑w (w.heap.size+1) e)(E:∀n,Wc P S m St K0 w0 ((n,ob)::L) (G (b.at (a.put o.dst (v n)) (bL ops rest::k)) cs)):Wc P S m St K0 w0 L (G (b.at a (bL ops (i::rest)::k)) cs):=
 .op ho hw hk λw z=>⟨_,_,_,bE (h w z).1,.alloc z ob λe I=>(h w z).2 e (gN I),E _⟩
def Wc.st{j:Nat}(z:nL)(J:L[j]? =M (B,ob))(ho:ops[i]? =M o)(hw:cP o (yielded ops a.tmps)=aR)(hk:b.kind≠.early)(h:∀w,Lies L ↑w0 w->(bN a.eval o).run P w=.ok .skip (w.putObj B z)/\∀e∈(bN a.eval o).events P w #[],EvA L ↑w ↑w e)(I:Wc P S m St K0 w0 (L.set j (B,z)) (G (b.at (a.put o.dst aE) (bL ops rest::k)) cs)):Wc P S m St K0 w0 L (G (b.at a (bL ops (i::rest)::k)) cs):=
 .op ho hw hk λw E=>⟨_,_,_,cD ⟨(h w E).1,rfl⟩,.put E J λe R=>(h w E).2 e (gN R),I⟩
def Wc.fill{aa:Nat}{V:Nat->X}(hf:fills a.tmps.size ops=aR)(done:∀l a',(∀i,i<ops.size->l.getD i aL=aR)->Fill ops V a l a'->Wc P S m St K0 w0 L' (G (b.at a' k) cs))(J:Array Bool->List (Nat×nL))(R:J (lO ops.size aL)=L)(I:∀l,(∀i,i<ops.size->l.getD i aL=aR)->J l=L')(more:∀l a' i o rest,ops[i]? =M o->l.getD i aR=aL->(∀j,waits ops i j=aR->l.getD j aL=aR)->Fill ops V a l a'->Wc P S m St K0 w0 (J (l.setIfInBounds i aR)) (G (b.at (a'.put o.dst (V i)) (bL ops rest::k)) cs)->Wc P S m St K0 w0 (J l) (G (b.at a' (bL ops (i::rest)::k)) cs)):Wc P S m St K0 w0 L (G (b.at a (.code (.region aa ops aR)::k)) cs):=by
 refine .step rfl λw E=>⟨_,_,_,L,stepG_region_draw,⟨rfl,rfl,rfl,jB,λ_ _ _=>rfl,λp hp=>⟨bE ⟨p,hp,rfl⟩,(E.mem p hp).2⟩,E.ord,λe Y=>by simp at Y⟩,?_⟩
 rw[<-R];refine Ec (σ:=Array Bool) (λ_=>V) (λl s=>s=l) (λrest a s=>Wc P S m St K0 w0 (J s) (G (b.at a (bL ops rest::k)) cs)) hf (λl a' s z h2 h3=>?_) (λl a' s i o rest z h2 h3 h4 h5 h6=>?_) _ _ _ rfl
 .rw[h3,I l z];exact .step rfl λw E=>⟨_,w,_,L',aM,.still E λe Y=>by simp at Y,done l a' z h2⟩
 .rw[h5];exact more l a' i o rest z h2 h3 h4 (h6 _ (λ_ _=>rfl) rfl)
end
end
end
end Cr
