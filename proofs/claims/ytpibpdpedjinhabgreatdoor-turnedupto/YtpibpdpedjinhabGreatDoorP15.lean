/- For every config, upper block and script of bulk at most 1048576 together tributarykeep.Turned returns true and leaves its arguments as they read: whatever has been, in the end the node's log is All of the chain as it is. Goroutines that it starts may still be leaving when it returns. The table of heads and the error of a silent chain are tied to the program's text by the given tie; no other condition. -/
import Derived.Test.YtpibpdpedjinhabGreatDoorP14
import Derived.Test.YtpibpdpedjinhabGreatDoorRows
import Derived.ProofKit
import Derived.OpenShut
import Derived.Deep.Slices
import Derived.Deep.Strs
import Derived.Deep.DeepHandedRow
import Derived.Lib.LaidTab
import Derived.ChangeOld
import Derived.Carry
import Derived.Conc.LeavingOf
import Derived.SevenTiedAt
import Derived.Test.YtpibpdpedjinhabGreatDoorCards
import Derived.Test.YtpibpdpedjinhabGreatDoorTie
import Derived.Stop.LaidErr
set_option maxRecDepth 100000
set_option maxHeartbeats 8000000
set_option linter.all false
open Bool renaming false->aL,true->aR
open Go renaming Addr->eM,Calls->dE,Code->eE,Exit->p9,Frame->cR,FuncId->ph,Item->pS,Oper->ij,Operand->jN,TypeId->cG,Value->X,World->U,execOp->bN,heap_alloc_new->cT,info_parts->pa,undef->aE
open Go.Act renaming eval->kp,put->dC
open Go.Addr renaming add->jp
open Go.Code renaming seq->bR
open Go.DataW renaming trod->gD,trod_int->eW
open Go.Deep renaming trod_struct3->mp
open Go.Ending renaming returned->bO
open Go.Frame renaming enter->iS
open Go.Instr renaming buildSlice->lL
open Go.IntKind renaming i64->ab,u32->eA,wrap_i64->eT
open Go.Item renaming code->ly,inRegion->bL
open Go.Obj renaming cells->aG
open Go.Obj.cells renaming injEq->qb
open Go.Operand renaming tmp->cN
open Go.Proofs.Tryz renaming f27->mx,f3->eZ,f44->kI,prog->bA,underlying22->lx,underlying26->py,underlying3->gT,underlying35->lz,underlying4->oe,underlying5->il,underlying9->eO
open Go.Region renaming wanted->cP
open Go.RowKit renaming Hid->cH
open Go.Value renaming agg->fX,bool->cK,int->N,ownBlock->cV,pointer->aD,slice->aH,string->bB,tuple->cQ
open Go.Value.slice renaming injEq->dT
open List renaming getElem!_eq_getElem?_getD->my,length_eq_zero_iff->cJ,length_pos_iff->qn,mem_flatMap->p7,mem_map_of_mem->pT,not_mem_nil->mR,range->ir
open Ne renaming symm->mn
open Option renaming none->Z,some->M
open Or renaming inl->bE,inr->cD
open Prod renaming fst->cI
namespace Go.Proofs.YtpibpdpedjinhabGreatDoor
namespace Pa
open Go Go.Conc Go.RowKit Go.Joins
open Hm (ptr jF jP TS jL jI PU PL Vw lF VO Ro Pe IE pz Nd lX NO SO ac1 adq acV adz Gf bkT aaf aaS Z5 Z4 RY QX aa9 KQ Told tK lives)
open Dv (X2 Cf Ch)
open Po hiding X2 H B IT PR NB
section
variable {k:List pS}
section
variable {Post:vU}{XX A:List cR}{c:Cf}{old chain:List X2}{j m:Nat}{p:Nn}{w:U}{te:cG}{xe:X}
structure BT(w0:U)(c:Cf)(chain:List X2)(n:Nat)(v:Vw)(y:Ck)(i:Nat)(w:U):Prop where
 vc:VC c chain i v y w
 log:v.log.length<=n
 low:∀k,VK v y k->w0.heap.size<=k
 jM:jL (λ_=>False) w0 w
def G8(rd:Cr.ReadW){b:cR}{la:Option eM}{lc:Nat}(hG:Oo w te xe)(h:Nb c old j chain p w)(hc:Dv.jS chain=aR)(hcf:Dv.jK c=aR)(ar:m<=chain.length)(af:p.x.sil=0)(a8:p.x.v.vl=.slice la p.x.v.log.length lc)(Y:∀D' w' v' y' tm i,m<=i->i<=chain.length->BT w c chain p.x.v.log.length v' y' i w'->KQ tm p.x.nk ((m:Int)-1) (.slice la p.x.v.log.length lc) v'.vb i->Wq D' Post XX (b.at ⟨tm,[]⟩ (.code bkT::k)) A w'):∀r i,i+r=chain.length->∀D w' v y tm,BT w c chain p.x.v.log.length v y i w'->KQ tm p.x.nk ((m:Int)-1) (.slice la p.x.v.log.length lc) v.vb i->Wq D Post XX (b.at ⟨tm,[]⟩ (.code Gf::.inLoop Gf::.inBlock 0::.code bkT::k)) A w':=by
 have bn:=(Dv.jW hc).2.1;have bl:=h.len;have aw:pz w (.slice la p.x.v.log.length lc) p.x.v.log:=⟨by rw[<-a8];exact h.vc.vw.log.rd,λq hq=>h.vc.vw.lor q (List.mem_append_left _ hq)⟩
 have bj:=h.vc.vw.few;intro r
 induction r with
 |zero=>
  intro i hi D w' v y tm J I;obtain rfl:i=chain.length:=aA
  rw[show ly Gf=ly _ from by rw[Hm.QB]];refine Wq.seq (Wq.seq (Wq.walk λt d Q hN _=>Hm.abK I (lF.heap J.vc.vw rfl) λtm I ae=>hN _ _ (Wq.same (y:=w') (λ_ _=>rfl) ?_)));obtain⟨ac,aa⟩:∃b,b=(decide ((chain.length:Int)<=(m:Int)-1) || decide (v.com.length=0/\v.log.length<p.x.v.log.length)):=⟨_,rfl⟩
  rw[<-aa]at ae;refine Wq.cond (t:=ac) (by rw[KI ae]) ?_;cases ac with
  |false=>
   rw[Zs aB];exact Wq.exit (k':=.code bkT::k) rfl (Y D w' v y tm _ ar jB J I)
  |true=>
   rw[ZD rfl];refine Wq.skip (Wq.seq (Wq.block (Wq.seq ?_)));have hN:=h.still J.jM;have ak:=hG.kept J.jM λ_ e=>e.elim;refine Wq.walk λt d Q E _=>Hm.afT (w:=on w' t d) (c:=c) (x:=p.x) I hN.nd.obj (by have:=(lX.heap (w':=on w' t d) hN.nd rfl).src;rw[af]at this;exact this) ak.ev λtm w2 bx u ta ai tn tc ln am f I t8 t9 t10 aq aj hT=>E _ _ ?_;have R:jL (λ_=>False) w' w2:=(kV aj).heaps rfl rfl
   obtain rfl:f=aL:=by
    obtain⟨_,n,hn,hq⟩|⟨e,_⟩:=hT
    .have:=(aN.1 hq).1;omega
    .exact e
   refine Wq.seq (Wq.walk λt d Q E _=>Hm.afK I t8 t9 t10 λtm I t8 t9=>E _ _ (Wq.same (y:=w2) (λ_ _=>rfl) ?_));refine Wq.seq ?_;rw[Hm.Zw];refine Wq.seq (Wq.walk λt d Q E _=>Hm.afD I t9 λtm I bh=>E _ _ (Wq.same (y:=w2) (λ_ _=>rfl) ?_));refine Wq.cond (t:=aR) (by rw[KI bh];rfl) ?_;rw[ZD rfl];exact Wq.exit (k':=.code bkT::k) rfl (Y D w2 v y tm _ ar jB ⟨J.vc.still R,J.log,J.low,J.jM.trans R λ_ _ e=>e⟩ I)
 |succ r ih=>
  intro i hi D w' v y tm J I;have bo:i<chain.length:=aA
  rw[show ly Gf=ly _ from by rw[Hm.QB]];refine Wq.seq (Wq.seq (Wq.walk λt d Q hN _=>Hm.abK I (lF.heap J.vc.vw rfl) λtm I ae=>hN _ _ (Wq.same (y:=w') (λ_ _=>rfl) ?_)));obtain⟨ac,aa⟩:∃b,b=(decide ((i:Int)<=(m:Int)-1) || decide (v.com.length=0/\v.log.length<p.x.v.log.length)):=⟨_,rfl⟩
  rw[<-aa]at ae;refine Wq.cond (t:=ac) (by rw[KI ae]) ?_;cases ac with
  |false=>
   rw[Zs aB]
   have a6:m<=i:=by
    have:=(ig.1 aa.symm).1;have:=Ys this;omega
   exact Wq.exit (k':=.code bkT::k) rfl (Y D w' v y tm i a6 aA J I)
  |true=>
  rw[ZD rfl];refine Wq.skip (Wq.seq (Wq.block (Wq.seq ?_)));have hN:=h.still J.jM;have ak:=hG.kept J.jM λ_ e=>e.elim;have s1:=J.jM.size;have bm:=hG.gl;refine Wq.walk λt d Q E _=>Hm.afT (w:=on w' t d) (c:=c) (x:=p.x) I hN.nd.obj (by have:=(lX.heap (w':=on w' t d) hN.nd rfl).src;rw[af]at this;exact this) ak.ev λtm w2 bx u ta ai tn tc ln am f I t8 t9 t10 aq aj hT=>E _ _ ?_;have R:jL (λ_=>False) w' w2:=(kV aj).heaps rfl rfl;have s2:=R.size
  obtain⟨rfl,n,hn,hq⟩:f=aR/\∃n:Nat,(i:Int)=n/\p.x.ps[n]? =M (u,.slice ta tn tc,.slice ai ln am):=by
   obtain e|⟨_,e⟩:=hT
   .exact e
   .omega
  obtain rfl:i=n:=aA
  refine Wq.seq (Wq.walk λt d Q E _=>Hm.afK I t8 t9 t10 λtm I t8 t9=>E _ _ (Wq.same (y:=w2) (λ_ _=>rfl) ?_));refine Wq.seq (Wq.walk λt d Q E _=>Hm.afg I t8 t9 λtm I t8=>E _ _ (Wq.same (y:=w2) (λ_ _=>rfl) (Wq.seq ?_)));obtain⟨bq,ao⟩:=XA;rw[ao];refine Wq.region ?_;rw[Md];refine Wq.qJ (.move (cN 6)) (M 48) (ptr v.vb) w2 rfl (λt d o h=>by unfold bN;simp only[h,KI I.t6];rfl) ?_;refine Wq.qJ (.load 28 (cN 8)) (M 49) _ w2 rfl (IJ aq (KI (pI t8 aB))) ?_;obtain⟨o2,a1,a4,a2,bg⟩:∃o,Xf[2]? =M o/\o.op=.call { callee:=.value (.func 22),args:=#[cN 48,cN 49],argTypes:=#[57,28] }/\o.dst=M 50/\o.guard=Z:=⟨_,rfl,rfl,rfl,rfl⟩
  simp only[dC];have bk:=I.sz;have a3:VC c chain i v y w2:=J.vc.still R;have ba:=(hN.still R).nd.src.up _ (aX hq);refine DF rd (v:=v) (y:=y) a1 (Cr.jY bg) a4 (KI (pI (tnew aA) aB)) (KI (tnew (by grind))) aA a3 hc hcf aA (h.up hq) ba ?_;intro D3 w3 v3 y3 com av e1 e2 e3 e4 e5 au a9;rw[a2];simp only[dC];refine Wq.done ?_;have s3:=au.size;have ah:∀g,VK v3 y3 g->w.heap.size<=g:=λg hg=>(a9 g hg).elim (J.low g) aA;have ag:jL (λ_=>False) w w3:=(J.jM.trans R λ_ _ e=>e).trans au λg hg e=>by have:=J.low g e;omega
  have ay:KQ (((tm.setIfInBounds 48 (ptr v.vb)).setIfInBounds 49 (fX #[N ab u.id,N ab u.time,.slice ta tn tc,.slice ai ln am])).setIfInBounds 50 (cQ #[])) p.x.nk ((m:Int)-1) (.slice la p.x.v.log.length lc) v3.vb i:=by
   refine⟨by grind,?_,?_,?_,?_,?_⟩
   .exact pI (pI (pI I.t0 aB) aB) aB
   .exact pI (pI (pI I.t1 aB) aB) aB
   .exact pI (pI (pI I.t5 aB) aB) aB
   .rw[e1];exact pI (pI (pI I.t6 aB) aB) aB
   .exact pI (pI (pI I.t7 aB) aB) aB
  have bb:v3.log.length<=p.x.v.log.length:=by rw[e4];exact J.log
  refine Wq.walk λt d Q E _=>wp_mono (Hm.abW (w:=on w3 t d) (v:=v3) (pl:=p.x.v.log) (K:=λa' w'=>Q .normal a' w') ay (lF.heap av.vw rfl) (FX (FX aw ag) (Ie rfl)) rfl bb aA λtm w4 z az br bp hL=>E _ _ ?_) (rY λ_ _ e=>e);obtain⟨v4,a7,f1,f2,f3,f4,an,ap⟩:=VC.laid (av.heap (w':=on w3 t d) rfl) hL;have a0:jL (VK v3 y3) w3 w4:=an.heaps rfl rfl;have bd:∀g,VK v4 y3 g->VK v3 y3 g\/w3.heap.size<=g:=ap;refine Wq.inBlock (Wq.walk λt d Q E _=>Hm.afm az aA λtm a5=>E _ _ (Wq.same (y:=w4) (λ_ _=>rfl) (Wq.inLoop ?_)));refine ih (i+1) aA D3 w4 v4 y3 tm ⟨a7,by rw[f3,aS,bK];omega,λg hg=>(bd g hg).elim (ah g) aA,ag.trans a0 λg hg e=>by have:=ah g e;omega⟩ (by rw[f1];exact a5)
def Nb.abd{w1 w2:U}{v':Vw}{y':Ck}{i n:Nat}(h:Nb c old j chain p w)(E:BT w c chain n v' y' i w1)(hx:w2.heap[p.x.nk]? =M (aG (Hm.lI c p.x.sb v'.vb aL) 60 (0,0)))(hc:jL (λk=>k=p.x.nk) w1 w2):Nb c chain i chain ⟨{ p.x with v:=v',rs:=aL },y'⟩ w2/\jL (NK p) w w2/\∀g,NK ⟨{ p.x with v:=v',rs:=aL },y'⟩ g->NK p g\/w.heap.size<=g:=by
 have J:=h.still E.jM;have aa:=h.lt (g:=p.x.nk) (bE (bE rfl));have R:=h.low p.x.nk (bE (bE rfl))
 have Y:Ro w1 w2:=λg cs t fz I ht=>hc.block g (jE I) λe=>by
  rw[e,J.nd.obj]at I;simp only[aK,qb]at I;rcases ht with e|e<;>rw[<-I.2.1]at e<;>exact Xs e aB
 have hv:VC c chain i v' y' w2:=E.vc.kept (λk hk=>hc.block k (E.vc.lt hk) λe=>by have:=E.low k hk;omega) Y (hc.block _ E.vc.ts.hd.pos λe=>ny R e)
 have z:∀g,NK ⟨{ p.x with v:=v',rs:=aL },y'⟩ g->NK p g\/w.heap.size<=g:=λg I=>by
  obtain(e|e|e)|e:=I
  .exact bE (bE (bE e))
  .exact bE (bE (cD (bE e)))
  .exact cD (E.low g (bE e))
  .exact cD (E.low g (cD e))
 exact⟨⟨⟨hx,J.nd.src.kept (λk e=>hc.block k (J.lt (bE (cD (bE e)))) λe'=>h.nd.far.1 (by rw[<-e'];exact e)) Y,hv.vw⟩,hv,h.ps,λk hk=>(z k hk).elim (h.low k) aA⟩,(E.jM.mono λ_ _ e=>e.elim).trans hc λk _ e=>bE (bE e),z⟩
def Nq(rd:Cr.ReadW){D:Nat->Prop}{b₀:cR}{a₀:Act}{ops:Array ij}{i:Nat}{rest:List Nat}{o:ij}{x x':jN}{aj:Array cG}(ho:ops[i]? =M o)(hw:cP o (yielded ops a₀.tmps)=aR)(ak:o.op=.call { callee:=.value (.func 44),args:=#[x,x'],argTypes:=aj })(ex:a₀.eval x=ptr p.x.nk)(ey:a₀.eval x'=N ab ((m:Int)-1))(hG:Oo w te xe)(h:Nb c old j chain p w)(hc:Dv.jS chain=aR)(hcf:Dv.jK c=aR)(J:m<=chain.length)(E:p.x.sil=0)(z:∀D' w' v' y' i,m<=i->i<=chain.length->Nb c chain i chain ⟨{ p.x with v:=v',rs:=aL },y'⟩ w'->jL (NK p) w w'->(∀g,NK ⟨{ p.x with v:=v',rs:=aL },y'⟩ g->NK p g\/w.heap.size<=g)->Wq D' Post XX (b₀.at (a₀.put o.dst .nilIface) (bL ops rest::k)) A w'):Wq D Post XX (b₀.at a₀ (bL ops (i::rest)::k)) A w:=by
 obtain⟨la,lc,I⟩:=h.vc.vw.log.slice;have c2:=(cells4 h.vc.vw.obj).2.2.1;rw[I]at c2;have k8:=h.nd.cells.2.1;have kc:=aI h.nd.obj;obtain⟨q,hq⟩:∃q:Int,q=(m:Int)-1:=⟨_,rfl⟩
 rw[<-hq]at ey;obtain⟨n,hn⟩:∃n,n=p.x.v.log.length:=⟨_,rfl⟩
 rw[<-hn]at c2;refine Wq.call ho hw ak (fq Tryz.func44 rfl) rfl Hm.aah ?_;simp only[fQ,eP,fP,ex,ey,show Tryz.f44.ntmps=72 from rfl,dR,aU,bY,Nat.reduceAdd,Nat.reduceSub,dH,dG,dU,dI,dS,dN];have H:cH _:=jy h (jy z (jy hq (jy hn (jy I (jy hc (jy hcf (jy J E)))))));clear h z hq hn I hc hcf J E;refine Wq.seq (Wq.walk λt d Q Y _=>?_);have R:cH _:=Y;clear Y;simp only[ac1,kI];go_wp2_with fail;refine R.out _ _ (Wq.same (y:=w) (λ_ _=>rfl) (Wq.seq (Wq.walk λt d Q Y _=>?_)));clear R;have R:cH _:=Y;clear Y;have af:(on w t d).cell? _=_:=k8;have ah:(on w t d).cell? _=_:=c2;simp only[adq,kI,ptr];go_wp2_with fail;refine R.out _ _ (Wq.same (y:=w) (λ_ _=>rfl) (Wq.seq (Wq.walk λt d Q Y _=>?_)));clear R af ah;have R:cH _:=Y;clear Y;have z0:(on w t d).cell? ⟨p.x.nk,0,Z⟩=M (N eA c.inbox):=kc 0;have z1:(on w t d).cell? ⟨p.x.nk,1,Z⟩=M (N eA c.batcher):=kc 1;have z2:(on w t d).cell? ⟨p.x.nk,2,Z⟩=M (N ab c.timeout):=kc 2;have z3:(on w t d).cell? ⟨p.x.nk,3,Z⟩=M (N ab c.window):=kc 3;have z4:(on w t d).cell? ⟨p.x.nk,4,Z⟩=M (N ab c.drift):=kc 4;have z5:(on w t d).cell? ⟨p.x.nk,5,Z⟩=M (N ab c.step):=kc 5;have z6:(on w t d).cell? ⟨p.x.nk,6,Z⟩=M (N ab c.most):=kc 6;have hV:=Hm.zZ c (on w t d);have HV:cH _:=λ(_:Unit)=>hV;clear hV;simp only[acV,kI];go_wp2_with (go_at_call 20;refine aT (HV.out ()) ?_;rintro e w1 ⟨rfl,h1⟩;have H1:cH _:=h1;clear h1)
 obtain⟨h,z,hq,hn,I,hc,hcf,J,E⟩:=H.out;obtain⟨aa,ac,-⟩:=Kr (w:=w) (w':=w1) c chain hG.hd hG.gl (by rw[H1.out];rfl);refine R.out _ _ (Wq.seq (Wq.seq (Wq.walk λt d Q Y _=>?_)));clear R z0 z1 z2 z3 z4 z5 z6 HV;have R:cH _:=Y;have H':cH _:=jy h (jy z (jy hq (jy hn (jy I (jy aa (jy ac (jy hc (jy hcf (jy J E)))))))));clear Y h z hq hn I aa ac hc hcf J E;simp only[adz,kI];go_wp2_with fail;obtain⟨h,z,hq,hn,I,aa,ac,hc,hcf,J,E⟩:=H'.out;refine R.out _ _ (Wq.same (y:=w1) (λ_ _=>rfl) (Wq.block (Wq.loop ?_)));clear R;subst hq hn;refine G8 rd hG h hc hcf J E I ?_ chain.length 0 aA D w1 (Vo ↑w) (Zg ↑w) _ ⟨aa,by simp[Vo],λk hk=>by have:=adi hk;omega,ac⟩ ⟨rfl,rfl,rfl,rfl,rfl,rfl⟩;intro D2 w2 v2 y2 tm i2 ag ae hI hB;refine Wq.walk λt d Q _ hR=>Hm.aha (w:=on w2 t d) (c:=c) (sb:=p.x.sb) (v0:=p.x.v.vb) (rs:=p.x.rs) hB (h.still hI.jM).nd.obj λtm w3 t4 hx ai=>hR _ _ λtodo=>?_;obtain⟨n1,n2,n3⟩:=h.abd hI hx (ai.h.heaps rfl rfl);refine Wq.leave (v:=.nilIface) (fn:=kI) rfl rfl rfl (fq Tryz.func44 rfl) (ad2 t4) ?_;rw[fO,ho];exact z D2 w3 v2 y2 i2 ag ae n1 n2 n3
end
end
open Hm (ptr TS jL jI PU Vw lF Ro Nd lX NO SO tX)
section
variable {tm:Array X}{v2:X}
noncomputable def afO:eE:=match Tryz.f27.body with
 |some (bR c _)=>c
 |_=>.ret
noncomputable def ac5:eE:=match Tryz.f27.body with
 |some (bR _ (bR c _))=>c
 |_=>.ret
noncomputable def acE:eE:=match Tryz.f27.body with
 |some (bR _ (bR _ (bR c _)))=>c
 |_=>.ret
noncomputable def acL:eE:=match Tryz.f27.body with
 |some (bR _ (bR _ (bR _ (bR (bR c _) _))))=>c
 |_=>.ret
noncomputable def adU:eE:=match Tryz.f27.body with
 |some (bR _ (bR _ (bR _ (bR (bR _ (.cond _ (bR c _) _)) _))))=>c
 |_=>.ret
noncomputable def adn:eE:=match Tryz.f27.body with
 |some (bR _ (bR _ (bR _ (bR _ (bR c _)))))=>c
 |_=>.ret
def st_body:Tryz.f27.body=M (bR afO (bR ac5 (bR acE (bR (bR acL (.cond (cN 26) (bR adU .ret) .skip)) (bR adn .ret))))):=XN
noncomputable def WH:Array ij:=match adU with
 |.region _ ops _=>ops
 |_=>#[]
def Zn:∃z,adU=.region z WH aL:=⟨_,rfl⟩
def J4:ir WH.size=[0,1,2,3,4]:=XN
noncomputable def WA:Array ij:=match adn with
 |.region _ ops _=>ops
 |_=>#[]
def ZT:∃z,adn=.region z WA aL:=⟨_,rfl⟩
def Na:ir WA.size=[0,1,2,3,4,5]:=XN
noncomputable def afj:eE:=match Tryz.f13.body with
 |some (bR c _)=>c
 |_=>.ret
noncomputable def acB:eE:=match Tryz.f13.body with
 |some (bR _ (bR c _))=>c
 |_=>.ret
noncomputable def spT:eE:=match Tryz.f13.body with
 |some (bR _ (bR _ c))=>c
 |_=>.ret
def aaH:Tryz.f13.body=M (bR afj (bR acB spT)):=XN
noncomputable def NW:Array ij:=match acB with
 |.region _ ops _=>ops
 |_=>#[]
def abw:∃z,acB=.region z NW aL:=⟨_,rfl⟩
def Je:ir NW.size=[0,1,2,3,4,5,6]:=XN
section
variable {Post:vU}{D:Nat->Prop}{XX A:List cR}{c:Cf}{chain:List X2}{j kk sil:Nat}{rs:Bool}{p:Nn}{w:U}{te:cG}{xe:X}
def acn{z:X}(h2:tm[2]? =M v2)(h3:tm[3]? =M z)(w:U):(results mx tm).run PQ w=.ok (cQ #[v2,z]) w:=by simp[results,Tryz.results27,go_sem,h2,h3]
def acs(h2:tm[2]? =M v2)(w:U):(results Tryz.f13 tm).run PQ w=.ok v2 w:=by simp[results,Tryz.results13,go_sem,h2]
end
end
end Pa
namespace Po
open Go Go.Conc
section
variable {ops:Array ij}{l:Array (Op×Option Tmp×Option (Nat×Bool))}
def yE:eE->Array ij
 |.region _ ops _=>ops
 |_=>#[]
abbrev opw(o:ij):Op×Option Tmp×Option (Nat×Bool):=(o.op,o.dst,o.guard)
def opm(h:ops.map opw=l)(i:Nat):(ops[i]?).map (λo=>(o.op,o.dst,o.guard))=l[i]?:=by rw[<-h,iH]
def opc(h:ops.map opw=l)(i:Nat){op:Op}{d:Option Tmp}(z:l[i]? =M (op,d,Z):=by rfl):∃o,ops[i]? =M o/\o.op=op/\o.dst=d/\o.guard=Z:=by
 have:=(opm h i).trans z;cases ho:ops[i]? with
 |none=>rw[ho]at this;cases this
 |some o=>
  rw[ho]at this;simp only[cO,aK,dJ]at this;exact⟨o,rfl,this⟩
section
variable {D:Nat->Prop}{Post:vU}{XX A:List cR}{x:U}{b:cR}{a:Act}{k:List pS}{C:eE}{n:Nat}
def Wq.reg(E:∃z,C=.region z (yE C) aL)(I:(yE C).size=n)(h:Wq D Post XX (b.at a (bL (yE C) (ir n)::k)) A x):Wq D Post XX (b.at a (.code C::k)) A x:=by obtain⟨z,e⟩:=E;rw[e];exact Wq.region (by rw[I];exact h)
end
section
variable {tm:Array X}{s:Nat}{v u:X}{w:U}
def VQ{tm:Array X}{s:Nat}{v:X}(h:tm[s]? =M v):(Act.mk tm []).eval (cN s)=v:=by simp[kp,h]
def mv(h:tm[s]? =M v):∀t d (o:ij),o.op=.move (cN s)->(bN (Act.mk tm []).eval o).run PQ (on w t d)=.ok (.value v) (on w t d):=λt d o z=>by unfold bN;simp only[z,VQ h];rfl
def asg(h:tm[s]? =M v):∀t d (o:ij),o.op=.assign (cN s)->(bN (Act.mk tm []).eval o).run PQ (on w t d)=.ok (.value v) (on w t d):=λt d o z=>by unfold bN;simp only[z,VQ h];rfl
def xt{l:Array X}{i:Nat}(h:tm[s]? =M (.tuple l))(E:l[i]? =M u):∀t d (o:ij),o.op=.extract (cN s) i->(bN (Act.mk tm []).eval o).run PQ (on w t d)=.ok (.value u) (on w t d):=λt d o z=>by unfold bN;simp only[z,VQ h];simp[go_sem,E]
end
end
end Po
namespace Pa
open Go Go.Conc Go.RowKit Go.Joins
open Hm (ptr TS jL jI PU Vw lF Ro Nd lX NO SO tX)
open Dv (X2 Cf Ch)
open Po hiding X2 H B IT PR NB
section
variable {b₀:cR}{ops:Array ij}{rest:List Nat}{k:List pS}{x:jN}{ats:Array cG}
def mu(chain:List X2)(s:Nv)(p:Nn):Nat:=s.sil+if s.rs=aR\/s.m≠s.j then 70 else chain.length-s.j+min 1 p.x.v.com.length
def StT(chain:List X2)(s:Nv)(p:Nn)(s':Nv)(z:Nn)(V:Int):Prop:=(V=2/\s'.old=chain/\s'.j=chain.length/\z.x.v.com=[]/\s'.last=s.last)\/(V≠2/\mu chain s' z<mu chain s p/\s'.last=s.last)
def tV(te:cG)(xe:X)(V:Int):X:=if V=3 then cQ #[N .u8 0,.iface te xe]else cQ #[N .u8 V,.nilIface]
section
variable {Post:vU}{D:Nat->Prop}{XX A:List cR}{c:Cf}{chain:List X2}{s:Nv}{p:Nn}{w:U}{te:cG}{xe:X}
def NT.failed{w':U}{n:Nat}(h:NT c chain s p w)(hs:tX w' p.x.sb p.x.vb p.x.ps p.x.last n)(hc:jL (λk=>k=p.x.sb) w w'):NT c chain { s with sil:=n } ⟨{ p.x with sil:=n },p.y⟩ w'/\jL (NK p) w w':=by have z:jL (NK p) w w':=hc.mono λk _ e=>bE (cD (bE (bE e)));have J:=h.nb.ro z;have I:¬VK p.x.v p.y p.x.sb:=h.nb.apart (cD (bE rfl));have E:VC c s.old s.j p.x.v p.y w':=h.nb.vc.kept (λk hk=>hc.block k (h.nb.vc.lt hk) λe=>I (by rw[<-e];exact hk)) J (hc.block _ h.nb.vc.ts.hd.pos λe=>ny (h.nb.low _ (bE (cD (bE (bE rfl))))) e);exact⟨⟨⟨⟨(hc.block _ (h.nb.lt (bE (bE rfl))) λe=>h.nb.nd.far.1 (bE e)).trans h.nb.nd.obj,hs,E.vw⟩,E,h.nb.ps,h.nb.low⟩,⟨h.np.hc,h.np.ho,h.np.hcf,h.np.jl,h.np.m1,h.np.mj,h.np.ml,h.np.cm,h.np.no,h.np.nd,h.np.idc,h.np.ido⟩,h.last,rfl,h.rs⟩,z⟩
def Yn(rd:Cr.ReadW){a₀:Act}{i:Nat}{o:ij}(ho:ops[i]? =M o)(hw:cP o (yielded ops a₀.tmps)=aR)(a4:o.op=.call { callee:=.value (.func 27),args:=#[x],argTypes:=ats })(ex:a₀.eval x=ptr p.x.nk)(hG:Oo w te xe)(h:NT c chain s p w)(ag:∀D' w' p' s' V,NT c chain s' p' w'->StT chain s p s' p' V->p'.x.nk=p.x.nk->jL (NK p) w w'->(∀g,NK p' g->NK p g\/w.heap.size<=g)->Wq D' Post XX (b₀.at (a₀.put o.dst (tV te xe V)) (bL ops rest::k)) A w'):Wq D Post XX (b₀.at a₀ (bL ops (i::rest)::k)) A w:=by
 have back:∀(D':Nat->Prop)(tm:Array X)(w':U)(todo:List pS)(p':Nn)(s':Nv)(V:Int)(v2 v3:X),tm[2]? =M v2->tm[3]? =M v3->tV te xe V=cQ #[v2,v3]->NT c chain s' p' w'->StT chain s p s' p' V->p'.x.nk=p.x.nk->jL (NK p) w w'->(∀g,NK p' g->NK p g\/w.heap.size<=g)->Wq D' Post XX { (base 27).at ⟨tm,[]⟩ todo with mode:=.returning } (b₀.at a₀ (bL ops (i::rest)::k)::A) w':=by
  intro D' tm w' todo p' s' V v2 v3 h2 h3 hv q1 qs q2 q3 q4;refine Wq.leave (v:=.tuple _) (fn:=mx) rfl rfl rfl (fq Tryz.func27 rfl) (acn h2 h3) ?_;rw[fO,ho,<-hv];exact ag D' w' p' s' V q1 qs q2 q3 q4
 obtain⟨q,hq⟩:∃q:Int,q=(s.m:Int)-1:=⟨_,rfl⟩
 have ak:=h.nb.seen h.np.jl;have aj:s.j<=60:=bH h.np.jl (Dv.jW h.np.ho).2.1;have ac:=h.np.ml;obtain⟨rs,Y⟩:∃rs,rs=s.rs:=⟨_,rfl⟩
 obtain⟨sil,R⟩:∃sil,sil=s.sil:=⟨_,rfl⟩
 refine Wq.call ho hw a4 (fq Tryz.func27 rfl) rfl st_body ?_;simp only[fQ,eP,fP,ex,show Tryz.f27.ntmps=34 from rfl,dR,aU,bY,Nat.reduceAdd,Nat.reduceSub,dH,dG,dU,dI,dS,dN];have H:cH _:=jy h (jy back (jy hq (jy ak (jy aj (jy ac (jy Y R))))));clear h back hq ag ak aj ac Y R;refine Wq.seq (Wq.walk λt d Q hN _=>?_);have J:cH _:=hN;clear hN;simp only[afO,mx];go_wp2_with fail;refine J.out _ _ (Wq.same (y:=w) (λ_ _=>rfl) (Wq.seq (Wq.walk λt d Q hN _=>?_)));clear J;have J:cH _:=hN;clear hN;have ay:Oo (on w t d) te xe:=hG.kept (Ie rfl) λ_ e=>e.elim;have hC:=(H.out.1.still (Ie (w':=on w t d) rfl)).common ay H.out.2.2.2.2.1;rw[H.out.1.sil,<-H.out.2.2.2.2.2.2.2]at hC;clear ay;by_cases hs:0<sil
 .have ai:dE PQ 42 #[aD (M ⟨p.x.nk,0,Z⟩)] (on w t d) λe w'=>∃k:Int,e=bO (cQ #[N ab k,.iface te xe])/\tX w' p.x.sb p.x.vb p.x.ps p.x.last (sil-1)/\jI (λk=>k=p.x.sb) (on w t d) w':=by
   refine hC.mono λe w' ⟨k,hA,_⟩=>⟨k,?_⟩
   unfold Hm.Ll at hA;rw[ZD hs]at hA;exact hA
  have HC:cH _:=λ(_:Unit)=>ai;clear hC ai;simp only[ac5,mx,ptr];go_wp2_with (go_at_call 42;refine aT (HC.out ()) ?_;rintro e w1 ⟨kq,rfl,z⟩;have H1:cH _:=z;clear z)
  refine J.out _ _ (Wq.seq (Wq.walk λt d Q _ hR=>?_));clear J;have HR:cH _:=hR;clear hR;simp only[acE,mx];go_wp2_with fail;refine HR.out _ _ λtodo=>Wq.same (y:=w1) (λ_ _=>rfl) ?_;obtain⟨h,back,-,-,-,-,-,R⟩:=H.out;have hF:jL (λk=>k=p.x.sb) w w1:=H1.out.2.h.heaps rfl rfl;obtain⟨n1,n2⟩:=h.failed H1.out.1 hF;refine back D _ w1 todo ⟨{ p.x with sil:=sil-1 },p.y⟩ { s with sil:=sil-1 } 3 _ _ rfl rfl rfl n1 (cD ⟨aB,?_,rfl⟩) rfl n2 λg e=>bE e;unfold mu;simp only;omega
 .obtain rfl:sil=0:=by omega
  have ai:dE PQ 42 #[aD (M ⟨p.x.nk,0,Z⟩)] (on w t d) λe w'=>e=bO (cQ #[N ab q,.nilIface])/\jL (λ_=>False) w w':=by
   refine hC.mono λe w' ⟨k,hA,hk⟩=>?_;obtain⟨x,rfl,hx⟩:=hk hs;have:=H.out.1.found hx;unfold Hm.Ll at hA;rw[Zs hs,show(x:Int)=q by have:=H.out.2.2.1;omega]at hA;exact⟨hA.1,(kV hA.2).heaps rfl rfl⟩
  have HC:cH _:=λ(_:Unit)=>ai;clear hC ai;simp only[ac5,mx,ptr];go_wp2_with (go_at_call 42;refine aT (HC.out ()) ?_;rintro e w1 ⟨rfl,z⟩;have H1:cH _:=z;clear z)
  refine J.out _ _ (Wq.seq (Wq.walk λt d Q hN _=>?_));clear J;have J:cH _:=hN;clear hN;simp only[acE,mx];go_wp2_with fail;refine J.out _ _ (Wq.same (y:=w1) (λ_ _=>rfl) (Wq.seq (Wq.seq (Wq.walk λt d Q hN _=>?_))));clear J;have z:=H.out.1.still H1.out;have E:=H1.out;have aa:=hG.kept E λ_ e=>e.elim;have a7:(on w1 t d).cell? ⟨p.x.nk,9,Z⟩=M (.bool rs):=by have:=z.nb.nd.cells.2.2;rw[z.rs,<-H.out.2.2.2.2.2.2.1]at this;exact this
  have a9:(on w1 t d).cell? ⟨p.x.nk,8,Z⟩=M (aD (M ⟨p.x.v.vb,0,Z⟩)):=z.nb.nd.cells.2.1;have hL:=Hm.SB p.x.v (on w1 t d) (lF.heap z.nb.vc.vw rfl) (by rw[H.out.2.2.2.1];have:=H.out.2.2.2.2.1;omega);rw[H.out.2.2.2.1]at hL;have HL:cH _:=λ(_:Unit)=>hL;have HW:cH _:=jy z (jy E aa);clear hL z E aa;have J:cH _:=hN;clear hN
  have ah:∀(tm:Array X),tm.size=34->tm[0]? =M (ptr p.x.nk)->tm[4]? =M (N ab q)->(rs=aR\/s.m≠s.j)->Wq D Post XX ((base 27).at ⟨tm,[]⟩ (.code adU::.code .ret::.code (bR adn .ret)::[])) (b₀.at a₀ (bL ops (i::rest)::k)::A) w1:=by
   intro tm hz t0 t4 aq;obtain⟨h,back,hq,ak,aj,ac,Y,R⟩:=H.out;obtain⟨z,E,aa⟩:=HW.out;obtain⟨a3,af⟩:=Zn;rw[af];refine Wq.region ?_;rw[J4];refine Wq.qJ (.move (cN 0)) (M 27) (ptr p.x.nk) w1 rfl (mv t0) ?_;simp only[dC];refine Wq.qJ (.move (cN 4)) (M 28) (N ab q) w1 rfl (mv (pI t4 aB)) ?_;simp only[dC];obtain⟨o2,am,ao,an,ap⟩:∃o,WH[2]? =M o/\o.op=.call { callee:=.value (.func 44),args:=#[cN 27,cN 28],argTypes:=#[31,3] }/\o.dst=M 29/\o.guard=Z:=⟨_,rfl,rfl,rfl,rfl⟩
   refine Nq rd (p:=p) (m:=s.m) am (Cr.jY ap) ao (KI (pI (tnew aA) aB)) (by rw[<-hq];exact KI (tnew (by grind))) aa z.nb z.np.hc z.np.hcf z.np.ml (by rw[z.sil,<-R]) λD2 w2 v2 y2 i2 a0 az m1 m3 m4=>?_;rw[an];simp only[dC];refine Wq.qJ (.assign (.const (N .u8 4))) (M 2) (N .u8 4) w2 rfl (λt d o h=>by unfold bN;simp only[h];rfl) ?_;simp only[dC];refine Wq.qJ (.assign (cN 29)) (M 3) .nilIface w2 rfl (asg (pI (tnew (by grind)) aB)) (Wq.done ?_);simp only[dC];refine Wq.ret λtodo=>back D2 _ w2 todo ⟨{ p.x with v:=v2,rs:=aL },y2⟩ ⟨chain,i2,i2,aL,s.sil,s.last⟩ 4 _ _ (pI (tnew (by grind)) aB) (tnew (by grind)) rfl ⟨m1,z.np.back a0 az,z.last,z.sil,rfl⟩ (cD ⟨aB,?_,rfl⟩) rfl ((E.mono λ_ _ e=>e.elim).trans m3 λ_ _ e=>e) λg hg=>(m4 g hg).imp id (bH E.size);have a5:=(Dv.jW z.np.hc).2.1;unfold mu;simp only;rw[Zs aC,ZD (by rw[<-Y];exact aq)];omega
  have av:cH _:=ah;clear ah;cases rs with
  |true=>
   simp only[acL,mx];go_wp2_with fail;refine J.out _ _ (Wq.same (y:=w1) (λ_ _=>rfl) (Wq.cond (t:=aR) rfl ?_));clear J;rw[ZD rfl];refine Wq.seq ?_;exact av.out _ rfl rfl rfl (bE trivial)
  |false=>
  by_cases I:s.m=s.j
  case neg=>
   have e1:(q != (s.j:Int)-1)=aR:=bne_iff_ne.2 (by have:=H.out.2.2.1;omega);simp only[acL,mx];go_wp2_with (go_at_call 43;refine aT (HL.out ()) ?_;rintro e w2 ⟨rfl,rfl⟩)
   refine J.out _ _ (Wq.same (y:=w1) (λ_ _=>rfl) (Wq.cond (t:=aR) rfl ?_));clear J;rw[ZD rfl];refine Wq.seq ?_;exact av.out _ rfl rfl rfl (cD I)
  case pos=>
   have e1:(q != (s.j:Int)-1)=aL:=by rw[H.out.2.2.1,I];simp
   simp only[acL,mx];go_wp2_with (go_at_call 43;refine aT (HL.out ()) ?_;rintro e w2 ⟨rfl,rfl⟩)
   refine J.out _ _ (Wq.same (y:=w1) (λ_ _=>rfl) (Wq.cond (t:=aL) rfl ?_));clear J;rw[Zs aB];obtain⟨h,back,hq,ak,aj,ac,Y,R⟩:=H.out;obtain⟨z,E,aa⟩:=HW.out;have ar:s.j<=chain.length:=by rw[<-I];exact ac
   have au:=z.np.cm;rw[I]at au;have hB:Nb c chain s.j chain p w1:=⟨z.nb.nd,z.nb.vc.swap au (by rw[<-I];exact z.np.m1) z.np.jl ar z.np.ho z.np.hc z.np.hcf,z.nb.ps,z.nb.low⟩
   refine Wq.skip (Wq.seq ?_);obtain⟨a3,af⟩:=ZT;rw[af];refine Wq.region ?_;rw[Na];refine Wq.qJ (.move (cN 0)) (M 30) (ptr p.x.nk) w1 rfl (λt d o h=>by unfold bN;simp only[h];rfl) ?_;simp only[dC,bQ,dP,dO];obtain⟨o2,am,ao,an,ap⟩:∃o,WA[1]? =M o/\o.op=.call { callee:=.value (.func 45),args:=#[cN 30],argTypes:=#[31] }/\o.dst=M 31/\o.guard=Z:=⟨_,rfl,rfl,rfl,rfl⟩
   refine YX rd (p:=p) am (Cr.jY ap) ao rfl aa hB z.np.hc z.np.hcf (by rw[<-I];exact z.np.m1) ar (by rw[z.sil,<-R]) λD2 w2 v2 y2 j2 vv m1 mo m3 m4=>?_;rw[an];simp only[dC,bQ,dP,dO];refine Wq.qJ (.extract (cN 31) 0) (M 32) (N .u8 vv) w2 rfl (λt d o h=>by unfold bN;simp only[h];rfl) ?_;simp only[dC,bQ,dP,dO];refine Wq.qJ (.extract (cN 31) 1) (M 33) .nilIface w2 rfl (λt d o h=>by unfold bN;simp only[h];rfl) ?_;simp only[dC,bQ,dP,dO];refine Wq.qJ (.assign (cN 32)) (M 2) (N .u8 vv) w2 rfl (λt d o h=>by unfold bN;simp only[h];rfl) ?_;simp only[dC,bQ,dP,dO];refine Wq.qJ (.assign (cN 33)) (M 3) .nilIface w2 rfl (λt d o h=>by unfold bN;simp only[h];rfl) (Wq.done ?_);simp only[dC,bQ,dP,dO];have a2:vv≠3:=by rcases mo.2.2.2 with⟨e,_⟩|⟨e,_⟩<;>omega
   refine Wq.ret λtodo=>back D2 _ w2 todo ⟨{ p.x with v:=v2 },y2⟩ ⟨chain,j2,j2,aL,s.sil,s.last⟩ vv _ _ rfl rfl (by unfold tV;rw[Zs a2];rfl) ⟨m1,z.np.back (by rw[I];exact mo.1) mo.2.1,z.last,z.sil,z.rs.trans Y.symm⟩ ?_ rfl ((E.mono λ_ _ e=>e.elim).trans m3 λ_ _ e=>e) λg hg=>(m4 g hg).imp id (bH E.size);obtain⟨a6,ba,aw,ae⟩:=mo;obtain⟨e,ae⟩|⟨e,ae,a1,a8⟩:=ae
   .refine cD ⟨aA,?_,rfl⟩;unfold mu;simp only;rw[Zs aC,Zs (by rw[<-Y];simp[I]),aw];obtain e|⟨e,e'⟩:=ae
    .simp;omega
    .have:0<p.x.v.com.length:=qn.2 e';simp;omega
   .exact bE ⟨e,rfl,by rw[ae,a1],aw,rfl⟩
def YN(rd:Cr.ReadW){a₀:Act}{i:Nat}{o:ij}(ho:ops[i]? =M o)(hw:cP o (yielded ops a₀.tmps)=aR)(ac:o.op=.call { callee:=.value (.func 13),args:=#[x],argTypes:=ats })(ex:a₀.eval x=ptr p.x.nk)(hG:Oo w te xe)(h:NT c chain s p w)(z:∀D' w' Y s' V,NT c chain s' Y w'->StT chain s p s' Y V->Y.x.nk=p.x.nk->jL (NK p) w w'->(∀g,NK Y g->NK p g\/w.heap.size<=g)->Wq D' Post XX (b₀.at (a₀.put o.dst (N .u8 V)) (bL ops rest::k)) A w'):Wq D Post XX (b₀.at a₀ (bL ops (i::rest)::k)) A w:=by
 refine Wq.call ho hw ac (fq Tryz.func13 rfl) rfl aaH ?_;simp only[fQ,eP,fP,ex,show Tryz.f13.ntmps=13 from rfl,dR,aU,bY,Nat.reduceAdd,Nat.reduceSub,dH,dG,dU,dI,dS,dN];refine Wq.seq (Wq.walk λt d Q hN _=>?_);have HN:cH _:=hN;clear hN;simp only[afj,Tryz.f13];go_wp2_with fail;refine HN.out _ _ (Wq.same (y:=w) (λ_ _=>rfl) (Wq.seq ?_));clear HN;obtain⟨ah,R⟩:=abw;rw[R];refine Wq.region ?_;rw[Je];refine Wq.qJ (.move (cN 0)) (M 6) (ptr p.x.nk) w rfl (λt d o h=>by unfold bN;simp only[h];rfl) ?_;simp only[dC,bQ,dP,dO];obtain⟨o2,ag,af,aa,ae⟩:∃o,NW[1]? =M o/\o.op=.call { callee:=.value (.func 27),args:=#[cN 6],argTypes:=#[31] }/\o.dst=M 7/\o.guard=Z:=⟨_,rfl,rfl,rfl,rfl⟩
 refine Yn rd (p:=p) ag (Cr.jY ae) af rfl hG h λD2 w2 p2 s2 I m1 ms m2 m3 m4=>?_;rw[aa]
 obtain⟨v0,E,J,hv⟩:∃v0 E,tV te xe I=cQ #[N .u8 v0,E]/\((E=.iface te xe/\I=3)\/(E=.nilIface/\I=v0)):=by
  unfold tV;by_cases hs:I=3
  .rw[ZD hs];exact⟨_,_,rfl,bE ⟨rfl,hs⟩⟩
  .rw[Zs hs];exact⟨_,_,rfl,cD ⟨rfl,rfl⟩⟩
 rw[J]
 have back:∀(tm:Array X)(todo:List pS),tm[2]? =M (N .u8 I)->Wq D2 Post XX { (base 13).at ⟨tm,[]⟩ todo with mode:=.returning } (b₀.at a₀ (bL ops (i::rest)::k)::A) w2:=by
  intro tm todo h2;refine Wq.leave (v:=N .u8 I) (fn:=Tryz.f13) rfl rfl rfl (fq Tryz.func13 rfl) (acs h2) ?_;rw[fO,ho];exact z D2 w2 p2 s2 I m1 ms m2 m3 m4
 have HB:cH _:=back;clear back z J m1 ms m2 m3 m4 h;simp only[dC,bQ,dP,dO];refine Wq.qJ (.move (cN 7)) (M 5) (cQ #[N .u8 v0,E]) w2 rfl (λt d o h=>by unfold bN;simp only[h];rfl) ?_;simp only[dC,bQ,dP,dO];refine Wq.qJ (.extract (cN 5) 0) (M 8) (N .u8 v0) w2 rfl (λt d o h=>by unfold bN;simp only[h];rfl) ?_;simp only[dC,bQ,dP,dO];refine Wq.qJ (.extract (cN 5) 1) (M 9) E w2 rfl (λt d o h=>by unfold bN;simp only[h];rfl) ?_;simp only[dC,bQ,dP,dO];refine Wq.qJ (.assign (cN 8)) (M 3) (N .u8 v0) w2 rfl (λt d o h=>by unfold bN;simp only[h];rfl) ?_;simp only[dC,bQ,dP,dO];refine Wq.qJ (.assign (cN 9)) (M 4) E w2 rfl (λt d o h=>by unfold bN;simp only[h];rfl) (Wq.done ?_);simp only[dC,bQ,dP,dO];refine Wq.walk λt d Q _ hR=>?_;have HR:cH _:=hR;clear hR;simp only[spT,Tryz.f13];obtain⟨rfl,rfl⟩|⟨rfl,rfl⟩:=hv
 .go_wp2_with fail;exact HR.out _ _ λtodo=>Wq.same (y:=w2) (λ_ _=>rfl) (HB.out _ todo rfl)
 .go_wp2_with fail;exact HR.out _ _ λtodo=>Wq.same (y:=w2) (λ_ _=>rfl) (HB.out _ todo rfl)
end
end
end Pa
namespace Hm
open Go.RowKit Go.Joins Go.Shelf
open Fr (below_drewN)
def pk(c n:Int):Int:=(if c<0 then -(c+1)else c).tmod n
def Rh{c n:Int}(E:0<n):0<=pk c n/\pk c n<n:=by
 unfold pk;have z:0<=(if c<0 then -(c+1)else c):=by split<;>omega
 exact⟨Int.tmod_nonneg _ z,Int.tmod_lt_of_pos _ E⟩
def pick_any(c n:Int)(w:U)(R:0<n)(J:n<=9223372036854775807)(aa:-9223372036854775808<=c)(I:c<=9223372036854775807):dE PQ 7 #[N ab c,N ab n] w λe w'=>e=bO (N ab (pk c n))/\w'=w:=by
 have hp:=Rh (c:=c) R;have Y:(n == 0)=aL:=ZS aA;have E:n≠0:=aA
 obtain⟨r,z⟩:∃r,pk c n=r:=⟨_,rfl⟩
 rw[z]at hp⊢;have hw:IntKind.i64.wrap r=r:=by rw[eT];omega
 by_cases h:c<0
 .have h1:IntKind.i64.wrap (c+1)=c+1:=by rw[eT];omega
  have h2:IntKind.i64.wrap (-(c+1))=-(c+1):=by rw[eT];omega
  have h3:(-(c+1)).tmod n=r:=by rw[<-z,pk,ZD h]
  go_enter (fq Tryz.func7 rfl),Tryz.ntmps7;go_wp2_with fail;go_ret;exact⟨rfl,rfl⟩
 .have h3:c.tmod n=r:=by rw[<-z,pk,Zs h]
  go_enter (fq Tryz.func7 rfl),Tryz.ntmps7;go_wp2_with fail;go_ret;exact⟨rfl,rfl⟩
open Dv (Lo)
def OO{a b:ByteArray}(h:a.toList=b.toList):a=b:=by apply ByteArray.ext;apply Array.ext';simpa[ByteArray.toList_eq]using h
def vC{α:Type}{l:List α}{j:Nat}{x:α}(h:l[j]? =M x):l.take (j+1)=l.take j++[x]:=by rw[List.take_add_one,h];rfl
def vO{va vb:X}{la lb:List (List UInt8)}(w:U)(Y:Rd w 1 va la.length (la.map nT))(I:Rd w 1 vb lb.length (lb.map nT))(hl:la.length<=9223372036854775807):dE PQ 56 #[va,vb] w λe w'=>e=bO (cK (decide (la=lb)))/\Below ↑w w w':=by
 obtain⟨aa,ac,rfl⟩:=Y.slice;obtain⟨ba,bc,rfl⟩:=I.slice;obtain⟨r,R⟩:∃r,decide (la=lb)=r:=⟨_,rfl⟩
 rw[R];obtain⟨na,z⟩:∃n,la.length=n:=⟨_,rfl⟩
 obtain⟨nb,E⟩:∃n,lb.length=n:=⟨_,rfl⟩
 have H:cH _:=jy Y (jy I (jy R (jy z E)));rw[z]at hl;rw[z,E];clear Y I R z E;by_cases hn:na=nb
 .subst hn;have ak:((na:Int) == (na:Int))=aR:=by simp
  go_enter (fq Tryz.func56 rfl),Tryz.ntmps56;go_wp2_with fail;go_loopg [5] na (λgg t wr=>∃i:Nat,i<=na/\t=N ab i/\gg=na-i/\cH (la.take i=lb.take i/\Below ↑w w wr))
  case atStart=>exact⟨0,dL _,rfl,rfl,⟨rfl,aJ _ _⟩⟩
  case round=>
   obtain⟨i,hi,rfl,rfl,HI⟩:=hrel;obtain⟨Y,I,R,z,E⟩:=H.out;by_cases ap:i<na
   .have ah:(i:Int)<na:=by omega
    obtain⟨x,hx⟩:∃x,la[i]? =M x:=⟨_,aO aA⟩
    obtain⟨y,hy⟩:∃y,lb[i]? =M y:=⟨_,aO aA⟩
    obtain⟨g1,o1,c1,e1,_,an,q1⟩:=Y.pos aA;obtain⟨g2,o2,c2,e2,_,am,q2⟩:=I.pos aA;simp only[dT]at e1 e2;obtain⟨rfl,_,rfl⟩:=e1;obtain⟨rfl,_,rfl⟩:=e2;have k1:wr.cell? ⟨g1,o1+i,Z⟩=M (nT x):=(HI.out.2.cell (p:=⟨g1,_,Z⟩) an).trans (q1 i _ (by rw[fE,hx];rfl));have k2:wr.cell? ⟨g2,o2+i,Z⟩=M (nT y):=(HI.out.2.cell (p:=⟨g2,_,Z⟩) am).trans (q2 i _ (by rw[fE,hy];rfl));unfold nT at k1 k2;obtain⟨XB,af⟩:∃Wd:ByteArray,(⟨x.toArray⟩:ByteArray)=Wd:=⟨_,rfl⟩
    obtain⟨YB,ae⟩:∃Wd:ByteArray,(⟨y.toArray⟩:ByteArray)=Wd:=⟨_,rfl⟩
    rw[af]at k1;rw[ae]at k2;have ai:=HI.out.2;by_cases J:x=y
    .have ag:XB=YB:=by rw[<-af,<-ae,J]
     subst ag;clear Y I q1 q2 R z E;go_wp2_with fail;go_quiet (fail);go_wp2_with fail;go_roundg (na-(i+1))
     case measure=>omega
     case rel=>exact⟨_,aA,by go_num,rfl,⟨by rw[vC hx,vC hy,HI.out.1,J],below_drewN ai _⟩⟩
    .have ag:XB≠YB:=λe=>J (by
      have:x.toArray=y.toArray:=by
       rw[<-af,<-ae]at e;simpa using e
      simpa using this)
     have ao:=ZS (λe=>ag (OO e));clear Y I q1 q2;go_wp2_with fail;go_quiet (fail);go_wp2_with fail;go_ret;refine⟨?_,below_drewN ai _⟩;have aj:la≠lb:=λe=>J (by rw[e,hy]at hx;exact(fC hx).symm)
     show Ending.returned (cK aL)=_
     rw[<-R,ZZ aj]
   .have ah:¬(i:Int)<na:=by omega
    clear Y I;go_wp2_with fail;go_ret;obtain rfl:i=na:=aA
    have h1:=HI.out.1;rw[eH aA,eH aA]at h1;exact⟨by rw[<-R,h1];simp,HI.out.2⟩
 .have ak:((na:Int) == (nb:Int))=aL:=by simp;omega
  go_enter (fq Tryz.func56 rfl),Tryz.ntmps56;go_wp2_with fail;go_ret;obtain⟨Y,I,R,z,E⟩:=H.out;refine⟨?_,aJ _ _⟩;rw[<-R,ZZ (λe=>hn (by rw[<-z,<-E,e]))];rfl
def acA{a b:Lo}(I:a.number=b.number)(h2:a.time=b.time)(h3:a.epoch=b.epoch)(h4:a.id=b.id)(R:a.seq=b.seq)(z:a.txs=b.txs)(J:a.deps=b.deps)(E:a.at_=b.at_):a=b:=by
 cases a;cases b
 simp_all
def Wh(p q:PL)(w:U)(au:kQ w p.2.1 p.1.txs)(ao:kQ w p.2.2 p.1.deps)(ar:kQ w q.2.1 q.1.txs)(am:kQ w q.2.2 q.1.deps)(az:p.1.txs.length<=9223372036854775807)(a5:p.1.deps.length<=9223372036854775807):dE PQ 34 #[.agg (jJ p).toArray,.agg (jJ q).toArray] w λe w'=>∃r,e=bO (.bool r)/\(r=aR↔p.1=q.1)/\Below ↑w w w':=by
 obtain⟨a1,c1,e1⟩:=Row.slice au;obtain⟨a2,c2,e2⟩:=Row.slice ao;obtain⟨a3,c3,e3⟩:=Row.slice ar;obtain⟨a4,c4,e4⟩:=Row.slice am;have r1:=Row.rd au;have r2:=Row.rd ao;have r3:=Row.rd ar;have r4:=Row.rd am;rw[e1]at r1;rw[e2]at r2;rw[e3]at r3;rw[e4]at r4;unfold jJ;rw[e1,e2,e3,e4];clear au ao ar am e1 e2 e3 e4;have ap:=λV hV=>vO V (r1.below hV) (r3.below hV) az;have ai:=λV hV=>vO V (r2.below hV) (r4.below hV) a5;generalize p.1.txs.length=n1 at *;generalize p.1.deps.length=n2 at *;generalize q.1.txs.length=n3 at *;generalize q.1.deps.length=n4 at *;obtain⟨bx,ak⟩:∃b,decide (p.1.txs=q.1.txs)=b:=⟨_,rfl⟩
 obtain⟨bd,aj⟩:∃b,decide (p.1.deps=q.1.deps)=b:=⟨_,rfl⟩
 rw[ak]at ap;rw[aj]at ai;have a6:cH _:=ap;have a0:cH _:=ai;have HB:cH _:=jy ak aj;obtain⟨Wd,hX⟩:∃Wd:U,Wd=(w.alloc (aG #[N ab p.1.number,N ab p.1.time,N ab p.1.epoch,N ab p.1.id,N ab p.1.seq,.slice a1 n1 c1,.slice a2 n2 c2,N ab p.1.at_] 52)).alloc (aG #[N ab q.1.number,N ab q.1.time,N ab q.1.epoch,N ab q.1.id,N ab q.1.seq,.slice a3 n3 c3,.slice a4 n4 c4,N ab q.1.at_] 52):=⟨_,rfl⟩
 have ay:Below ↑w w Wd:=by rw[hX];exact((aJ _ w).alloc jB _).alloc aC _
 have x1:Wd.heap[w.heap.size]? =M (aG #[N ab p.1.number,N ab p.1.time,N ab p.1.epoch,N ab p.1.id,N ab p.1.seq,.slice a1 n1 c1,.slice a2 n2 c2,N ab p.1.at_] 52 (0,0)):=by rw[hX];exact(aZ _ _ _ aC).trans (cT _ _)
 have x2:Wd.heap[w.heap.size+1]? =M (aG #[N ab q.1.number,N ab q.1.time,N ab q.1.epoch,N ab q.1.id,N ab q.1.seq,.slice a3 n3 c3,.slice a4 n4 c4,N ab q.1.at_] 52 (0,0)):=by
  have:=cT (w.alloc (aG #[N ab p.1.number,N ab p.1.time,N ab p.1.epoch,N ab p.1.id,N ab p.1.seq,.slice a1 n1 c1,.slice a2 n2 c2,N ab p.1.at_] 52)) (aG #[N ab q.1.number,N ab q.1.time,N ab q.1.epoch,N ab q.1.id,N ab q.1.seq,.slice a3 n3 c3,.slice a4 n4 c4,N ab q.1.at_] 52);rw[fB]at this;rw[hX];exact this
 have l1:=(jE x1)
 have l2:=(jE x2)
 obtain⟨k0,k1,k2,k3,k4,k5,k6,k7,kf⟩:=lq x1;obtain⟨m0,m1,m2,m3,m4,m5,m6,m7,mf⟩:=lq x2;have HX:cH _:=jy x1 (jy x2 ay);clear x1 x2 ay ap ai ak aj r1 r2 r3 r4;go_enter (fq Tryz.func34 rfl),Tryz.ntmps34;go_upto_region 1 with fail;rw[<-hX];clear hX;go_upto_region 2 with(go_at_call 56;refine aT (a6.out _ HX.out.2.2) ?_;rintro e w2 ⟨rfl,R⟩)
 have y1:=(R.block _ l1).trans HX.out.1;have y2:=(R.block _ l2).trans HX.out.2.1;have ah:=HX.out.2.2.trans (R.mono HX.out.2.2.size);have s2:=R.size;clear k0 k1 k2 k3 k4 k5 k6 k7 kf m0 m1 m2 m3 m4 m5 m6 m7 mf;obtain⟨k0,k1,k2,k3,k4,k5,k6,k7,kf⟩:=lq y1;obtain⟨m0,m1,m2,m3,m4,m5,m6,m7,mf⟩:=lq y2;have HY:cH _:=jy y1 (jy y2 ah);clear y1 y2 ah R;go_upto_region 3 with(go_at_call 56;refine aT (a0.out _ HY.out.2.2) ?_;rintro e w3 ⟨rfl,af⟩)
 have z1:=(af.block _ aA).trans HY.out.1;have z2:=(af.block _ aA).trans HY.out.2.1;have ag:=HY.out.2.2.trans (af.mono HY.out.2.2.size);clear k0 k1 k2 k3 k4 k5 k6 k7 kf m0 m1 m2 m3 m4 m5 m6 m7 mf;obtain⟨k0,k1,k2,k3,k4,k5,k6,k7,kf⟩:=lq z1;obtain⟨m0,m1,m2,m3,m4,m5,m6,m7,mf⟩:=lq z2;have HZ:cH _:=ag;clear z1 z2 ag af;cases bx with
 |false=>
  go_wp2_with fail;go_ret;refine⟨aL,rfl,⟨λe=>(by cases e),λe=>?_⟩,HZ.out⟩;exfalso;exact Ys HB.out.1 (by rw[e])
 |true=>
  cases bd with
  |false=>
   go_wp2_with fail;go_ret;refine⟨aL,rfl,⟨λe=>(by cases e),λe=>?_⟩,HZ.out⟩;exfalso;exact Ys HB.out.2 (by rw[e])
  |true=>
   by_cases z:p.1.number=q.1.number;rotate_left
   .have J:((p.1.number:Int) == (q.1.number:Int))=aL:=ZS aA;go_wp2_with fail;go_ret;refine⟨aL,rfl,⟨λe=>(by cases e),λe=>?_⟩,HZ.out⟩;exfalso;exact z (by rw[e])
   have J:((p.1.number:Int) == (q.1.number:Int))=aR:=by rw[z];exact beq_self_eq_true _
   by_cases I:p.1.time=q.1.time;rotate_left
   .have ae:((p.1.time:Int) == (q.1.time:Int))=aL:=ZS aA;go_wp2_with fail;go_ret;refine⟨aL,rfl,⟨λe=>(by cases e),λe=>?_⟩,HZ.out⟩;exfalso;exact I (by rw[e])
   have ae:((p.1.time:Int) == (q.1.time:Int))=aR:=by rw[I];exact beq_self_eq_true _
   by_cases E:p.1.epoch=q.1.epoch;rotate_left
   .have aa:((p.1.epoch:Int) == (q.1.epoch:Int))=aL:=ZS aA;go_wp2_with fail;go_ret;refine⟨aL,rfl,⟨λe=>(by cases e),λe=>?_⟩,HZ.out⟩;exfalso;exact E (by rw[e])
   have aa:((p.1.epoch:Int) == (q.1.epoch:Int))=aR:=by rw[E];exact beq_self_eq_true _
   by_cases aq:p.1.id=q.1.id;rotate_left
   .have aw:((p.1.id:Int) == (q.1.id:Int))=aL:=ZS aA;go_wp2_with fail;go_ret;refine⟨aL,rfl,⟨λe=>(by cases e),λe=>?_⟩,HZ.out⟩;exfalso;exact aq (by rw[e])
   have aw:((p.1.id:Int) == (q.1.id:Int))=aR:=by rw[aq];exact beq_self_eq_true _
   by_cases ac:p.1.seq=q.1.seq;rotate_left
   .have an:((p.1.seq:Int) == (q.1.seq:Int))=aL:=ZS aA;go_wp2_with fail;go_ret;refine⟨aL,rfl,⟨λe=>(by cases e),λe=>?_⟩,HZ.out⟩;exfalso;exact ac (by rw[e])
   have an:((p.1.seq:Int) == (q.1.seq:Int))=aR:=by rw[ac];exact beq_self_eq_true _
   by_cases Y:p.1.at_=q.1.at_;rotate_left
   .have av:((p.1.at_:Int) == (q.1.at_:Int))=aL:=ZS aA;go_wp2_with fail;go_ret;refine⟨aL,rfl,⟨λe=>(by cases e),λe=>?_⟩,HZ.out⟩;exfalso;exact Y (by rw[e])
   have av:((p.1.at_:Int) == (q.1.at_:Int))=aR:=by rw[Y];exact beq_self_eq_true _
   go_wp2_with fail;go_ret;exact⟨aR,rfl,⟨λ_=>acA z I E aq ac (Z2 HB.out.1) (Z2 HB.out.2) Y,λ_=>rfl⟩,HZ.out⟩
section
variable {w w':U}{ps qs:List PL}
def Bz(w:U)(v:X)(ps:List PL):Prop:=Rd w 8 v ps.length (ps.flatMap jJ)/\∀p,p∈ps->kQ w p.2.1 p.1.txs/\kQ w p.2.2 p.1.deps/\p.1.txs.length<=9223372036854775807/\p.1.deps.length<=9223372036854775807
def Bz.below{v:X}(h:Bz w v ps)(z:Below ↑w w w'):Bz w' v ps:=⟨h.1.below z,λp hp=>⟨Row.below (h.2 p hp).1 z,Row.below (h.2 p hp).2.1 z,(h.2 p hp).2.2⟩⟩
def Oj(p:PL):(jJ p).length=8:=rfl
def Bz.cells{w:U}{g off cap:Nat}{ps:List PL}{n:Nat}(h:Bz w (aH (M ⟨g,off,Z⟩) n cap) ps){i:Nat}{p:PL}(E:ps[i]? =M p):∀(j:Nat)(u:X),(jJ p)[j]? =M u->w.cell? ⟨g,off+(i*8+j),Z⟩=M u:=λj u z=>by
 have I:n=ps.length:=by
  obtain⟨a,c,e⟩:=h.1.slice;simp only[dT]at e;exact e.2.1
 subst I;exact Rd.rec jJ 8 Oj h.1 E (by have:=(aN.1 z).1;simpa[jJ]using this) z
def MP(ps qs:List PL)(w:U)(e:Ending)(w':U):Prop:=∃r,e=bO (.bool r)/\(r=aR↔(qs.map cI) <+:(ps.map cI))/\Below ↑w w w'
def MP.yes(h:(qs.map cI) <+:(ps.map cI))(z:Below ↑w w w'):MP ps qs w (bO (cK aR)) w':=⟨aR,rfl,⟨λ_=>h,λ_=>rfl⟩,z⟩
def MP.no(h:¬(qs.map cI) <+:(ps.map cI))(z:Below ↑w w w'):MP ps qs w (bO (cK aL)) w':=⟨aL,rfl,⟨λe=>(by cases e),λe=>Xs e h⟩,z⟩
def Pv{va vb:X}(ps qs:List PL)(w:U)(ha:Bz w va ps)(hb:Bz w vb qs)(hl:ps.length<=9223372036854775807):dE PQ 16 #[va,vb] w (MP ps qs w):=by
 obtain⟨aa,ac,rfl⟩:=ha.1.slice;obtain⟨ba,bc,rfl⟩:=hb.1.slice;obtain⟨na,I⟩:∃n,ps.length=n:=⟨_,rfl⟩
 obtain⟨nb,J⟩:∃n,qs.length=n:=⟨_,rfl⟩
 have H:cH _:=jy ha (jy hb (jy I J));rw[I]at hl;rw[I,J];clear ha hb I J;by_cases hn:na<nb
 .have ak:(na:Int)<nb:=by omega
  go_enter (fq Tryz.func16 rfl),Tryz.ntmps16;go_wp2_with fail;go_ret;obtain⟨ha,hb,I,J⟩:=H.out;refine MP.no (λe=>?_) (aJ _ _);have:=e.length_le;simp only[bC]at this;omega
 .have ak:¬(na:Int)<nb:=by omega
  go_enter (fq Tryz.func16 rfl),Tryz.ntmps16;go_wp2_with fail;go_loopg [5,6] nb (λgg t _ wr=>∃i:Nat,i<=nb/\t=N ab i/\gg=nb-i/\cH ((qs.map cI).take i=(ps.map cI).take i/\Below ↑w w wr))
  case atStart=>exact⟨0,dL _,rfl,rfl,⟨rfl,aJ _ _⟩⟩
  case round=>
   obtain⟨i,hi,rfl,rfl,HI⟩:=hrel;obtain⟨ha,hb,I,J⟩:=H.out;by_cases ap:i<nb
   .have aj:(i:Int)<nb:=by omega
    have ao:(i:Int)<na:=aA
    obtain⟨x,hx⟩:∃x,ps[i]? =M x:=⟨_,aO aA⟩
    obtain⟨y,hy⟩:∃y,qs[i]? =M y:=⟨_,aO aA⟩
    have E:=HI.out.2;obtain⟨g1,o1,d1,e1,_⟩:=ha.1.pos aA;obtain⟨g2,o2,d2,e2,_⟩:=hb.1.pos aA;simp only[dT]at e1 e2;obtain⟨rfl,_,rfl⟩:=e1;obtain⟨rfl,_,rfl⟩:=e2;have Y:=(ha.below E).cells hx;have R:=(hb.below E).cells hy;have sx:=ha.2 x (aX hx);have sy:=hb.2 y (aX hy);have z:=λV hV=>Wh x y V (Row.below sx.1 hV) (Row.below sx.2.1 hV) (Row.below sy.1 hV) (Row.below sy.2.1 hV) sx.2.2.1 sx.2.2.2;obtain⟨a1,c1,f1⟩:=Row.slice sx.1;obtain⟨a2,c2,f2⟩:=Row.slice sx.2.1;obtain⟨a3,c3,f3⟩:=Row.slice sy.1;obtain⟨a4,c4,f4⟩:=Row.slice sy.2.1;unfold jJ at Y R z;rw[f1,f2,f3,f4]at z;rw[f1,f2]at Y;rw[f3,f4]at R;have k0:wr.cell? ⟨g1,o1+i*8,Z⟩=_:=Y 0 _ rfl;have k1:wr.cell? ⟨g1,o1+i*8+1,Z⟩=_:=Y 1 _ rfl;have k2:wr.cell? ⟨g1,o1+i*8+2,Z⟩=_:=Y 2 _ rfl;have k3:wr.cell? ⟨g1,o1+i*8+3,Z⟩=_:=Y 3 _ rfl;have k4:wr.cell? ⟨g1,o1+i*8+4,Z⟩=_:=Y 4 _ rfl;have k5:wr.cell? ⟨g1,o1+i*8+5,Z⟩=_:=Y 5 _ rfl;have k6:wr.cell? ⟨g1,o1+i*8+6,Z⟩=_:=Y 6 _ rfl;have k7:wr.cell? ⟨g1,o1+i*8+7,Z⟩=_:=Y 7 _ rfl;have m0:wr.cell? ⟨g2,o2+i*8,Z⟩=_:=R 0 _ rfl;have m1:wr.cell? ⟨g2,o2+i*8+1,Z⟩=_:=R 1 _ rfl;have m2:wr.cell? ⟨g2,o2+i*8+2,Z⟩=_:=R 2 _ rfl;have m3:wr.cell? ⟨g2,o2+i*8+3,Z⟩=_:=R 3 _ rfl;have m4:wr.cell? ⟨g2,o2+i*8+4,Z⟩=_:=R 4 _ rfl;have m5:wr.cell? ⟨g2,o2+i*8+5,Z⟩=_:=R 5 _ rfl;have m6:wr.cell? ⟨g2,o2+i*8+6,Z⟩=_:=R 6 _ rfl;have m7:wr.cell? ⟨g2,o2+i*8+7,Z⟩=_:=R 7 _ rfl;have ag:cH _:=z;have ae:cH _:=jy hx hy;have HN:cH _:=jy I J;clear z ha hb Y R sx sy hx hy f1 f2 f3 f4 I J;go_upto_region 6 with fail;go_region_with (go_at_call 34;refine aT (ag.out _ ?_) ?_;(first|exact E.drew|exact below_drewN E _|exact E);rintro e5 w5 ⟨r,rfl,ai,an⟩)
    all_goals
     have af:Below ↑w w w5:=Below.trans (by first|exact E.drew|exact below_drewN E _|exact E) (an.mono (by simpa using E.size));have ah:cH (r=aR↔x.1=y.1):=ai;clear ai;cases r
     .go_wp2_with fail;go_ret;refine MP.no (λe=>?_) af;obtain⟨tl,am⟩:=e;have J:=HN.out.2;have q1:=Z1 (λl=>l[i]?) am;rw[bZ (by rw[bC];omega),fE,fE,ae.out.1,ae.out.2]at q1;have q2:=ah.out.2 (fC q1).symm;cases q2
     .go_wp2_with fail;go_roundg (nb-(i+1))
      case measure=>omega
      case rel=>exact⟨_,aA,by go_num,rfl,⟨by rw[vC (x:=y.1) (by rw[fE,ae.out.2];rfl),vC (x:=x.1) (by rw[fE,ae.out.1];rfl),HI.out.1,ah.out.1 (by first|exact trivial|rfl)],af⟩⟩
   .have aj:¬(i:Int)<nb:=by omega
    clear ha hb;go_wp2_with fail;go_ret;obtain rfl:i=nb:=aA
    have h1:=HI.out.1;rw[eH (by rw[bC];omega)]at h1;exact MP.yes (by rw[h1];exact List.take_prefix _ _) HI.out.2
end
open Dv (Lo X2 Cf)
structure LJ where
 kind:Int
 n:Int
 u:X2
 vt:X
 vl:X
def LJ.cells(o:LJ):List X:=[N ab o.kind,N ab o.n,N ab o.u.id,N ab o.u.time,o.vt,o.vl]
section
variable {ls:List Lo}
def LI2.rd{w I:U}{E:X}{z:List PL}(h:LI2 w E ls z I)(J:∀x,x∈ls->x.txs.length<=4294967296/\x.deps.length<=4294967296):Bz I E z:=by refine⟨h.row.rd,λp hp=>?_⟩;have:=J p.1 (by rw[<-h.fst];exact pT hp);exact⟨(h.lor p hp).1,(h.lor p hp).2,aA,aA⟩
section
variable {tm:Array X}{w:U}{sc vx:X}{T:Int}{i:Nat}{Q:p9->Act->U->Prop}
def Nl{c:Cf}{x:Nd}{n:Nat}(h:lX w c x)(Y:x.v.log.map cI=ls)(hn:ls.length=n)(h0:0<n)(hf:∀y,y∈ls->y.txs.length<=4294967296/\y.deps.length<=4294967296):dE PQ 14 #[aD (M ⟨x.nk,0,Z⟩)] w λe w'=>∃J I E,e=bO (.slice J n I)/\E.map cI=ls/\Bz w' (.slice J n I) E/\Below ↑w w w':=by
 have ae:x.v.log.length=n:=by rw[<-hn,<-Y,bC]
 refine(Y4 h aA λp hp=>hf p.1 (by rw[<-Y];exact pT hp)).mono λe w' ⟨va,he,E,z⟩=>?_;rw[Y]at z;obtain⟨J,I,rfl⟩:=z.row.slice;have R:E.length=n:=by rw[<-hn,<-z.fst,bC]
 have hr:=z.rd hf;rw[R]at he hr;exact⟨J,I,E,he,z.fst,hr,z.b⟩
end
end
section
variable {n cap:Nat}
def cp:List Nat->eE->eE
 |[],c=>c
 |0::l,bR a _=>cp l a
 |1::l,bR _ b=>cp l b
 |2::l,.cond _ a _=>cp l a
 |3::l,.cond _ _ b=>cp l b
 |4::l,.block _ c=>cp l c
 |5::l,.loop c=>cp l c
 |_,c=>c
noncomputable def vF:eE:=match Tryz.f3.body with
 |some c=>c
 |_=>.ret
noncomputable def X3:eE:=cp [0] vF
noncomputable def YQ:eE:=cp [1,0] vF
noncomputable def XP:eE:=cp [1,1,0] vF
noncomputable def aad:eE:=cp [1,1,1,0] vF
noncomputable def Xg:eE:=cp [1,1,1,1,0] vF
noncomputable def Yi:eE:=cp [1,1,1,1,1,0] vF
noncomputable def X0:eE:=cp [1,1,1,1,1,1,0] vF
noncomputable def JI:eE:=cp [1,1,1,1,1,1,1,0] vF
noncomputable def LK:eE:=cp [1,1,1,1,1,1,1,1,0,0] vF
noncomputable def Af:eE:=cp [1,1,1,1,1,1,1,1,0,1,4,5] vF
noncomputable def Eu:eE:=cp [1,1,1,1,1,1,1,1,1,0] vF
noncomputable def DU:eE:=cp [1,1,1,1,1,1,1,1,1,1,0] vF
noncomputable def ED:eE:=cp [1,1,1,1,1,1,1,1,1,1,1,0] vF
noncomputable def tuT:eE:=cp [1,1,1,1,1,1,1,1,1,1,1,1] vF
noncomputable def Ph:eE:=cp [0,0] Af
noncomputable def Ux:eE:=cp [1,0,4,0] Af
noncomputable def QD:eE:=cp [1,0,4,1,0] Af
noncomputable def xk:eE:=cp [1,0,4,1,1,4] Af
noncomputable def Sz:eE:=cp [1,1] Af
noncomputable def RS:eE:=cp [1,3,1,3,1,3,1,3,1,2,0] xk
noncomputable def QW:eE:=cp [1,3,1,3,1,3,1,3,1,2,1] xk
noncomputable def Q8:eE:=cp [1,3,1,3,1,3,1,3,1,3,0] xk
noncomputable def Ud:eE:=cp [1,3,1,3,1,3,1,3,1,3,1,4,5] xk
noncomputable def FZ:eE:=cp [0] xk
noncomputable def OG:eE:=cp [1,3,0] xk
noncomputable def Va:eE:=cp [1,3,1,3,0] xk
noncomputable def OH:eE:=cp [1,3,1,3,1,3,0] xk
noncomputable def QL:eE:=cp [1,3,1,3,1,3,1,3,0] xk
noncomputable def KZ:eE:=cp [0,0] Ud
noncomputable def Q9:eE:=cp [1,0,4] Ud
noncomputable def Q7:eE:=cp [1,1] Ud
def Rw:Tryz.f3.body=M (bR X3 (bR YQ (bR XP (bR aad (bR Xg (bR Yi (bR X0 (bR JI (bR (bR LK (.block 0 (.loop Af))) (bR Eu (bR DU (bR ED tuT)))))))))))):=XN
def QV:Af=bR (bR Ph (.cond (cN 45) .skip (.exit 0))) (bR (.block 1 (bR Ux (bR QD (.block 2 xk)))) Sz):=XN
def ahx:∃A B C D,xk=bR FZ (.cond (cN 64) A (bR OG (.cond (cN 98) B (bR Va (.cond (cN 116) C (bR OH (.cond (cN 123) D (bR QL (.cond (cN 127) (bR RS QW) (bR Q8 (.block 3 (.loop Ud)))))))))))):=⟨_,_,_,_,rfl⟩
def afX:Ud=bR (bR KZ (.cond (cN 59) .skip (.exit 3))) (bR (.block 4 Q9) Q7):=XN
structure US(tm:Array X)(sc:X)(cb nk:Nat)(vch:X)(i:Nat):Prop where
 sz:tm.size=161
 t2:tm[2]? =M sc
 t3:tm[3]? =M (aD (M ⟨cb,0,Z⟩))
 t8:tm[8]? =M (aD (M ⟨nk,0,Z⟩))
 t10:tm[10]? =M vch
 t11:tm[11]? =M (N ab i)
section
variable {tm:Array X}{w:U}{sc vch:X}{cb nk i:Nat}{Q:p9->Act->U->Prop}
def Xv{J:Option eM}(h:US tm sc cb nk vch i)(z:sc=.slice J n cap)(I:∀tm:Array X,US tm sc cb nk vch i->tm[45]? =M (cK (decide (i<n)))->Q .normal ⟨tm,[]⟩ w):Ph.wp PQ Q ⟨tm,[]⟩ w:=by
 obtain⟨hs,t2,t3,t8,t10,t11⟩:=h;obtain⟨l,rfl,hs⟩:=jZ hs
 iterate 161 (obtain⟨_,l,rfl,E⟩:=jV hs;clear hs;have hs:=E;clear E)
 obtain rfl:=cJ.1 hs;clear hs;simp only[eX,eU,dX,aK]at t2 t3 t8 t10 t11;subst t2 t3 t8 t10 t11;subst z;have R:cH _:=I;clear I;simp only[Ph,Af,vF,cp,eZ];go_wp2_with fail;exact R.out _ ⟨rfl,rfl,rfl,rfl,rfl,rfl⟩ aC
def adv{g off:Nat}{o:LJ}{ta la:Option eM}{tn tc J E:Nat}(h:US tm sc cb nk vch i)(z:sc=aH (M ⟨g,off,Z⟩) n cap)(hi:i<n)(k0:w.cell? ⟨g,off+i*6,Z⟩=M (N ab o.kind))(k1:w.cell? ⟨g,off+i*6+1,Z⟩=M (N ab o.n))(k2:w.cell? ⟨g,off+i*6+2,Z⟩=M (N ab o.u.id))(k3:w.cell? ⟨g,off+i*6+3,Z⟩=M (N ab o.u.time))(k4:w.cell? ⟨g,off+i*6+4,Z⟩=M (.slice ta tn tc))(k5:w.cell? ⟨g,off+i*6+5,Z⟩=M (.slice la J E))(R:∀(tm:Array X) w',US tm sc cb nk vch i->tm[12]? =M (aD (M ⟨↑w,0,Z⟩))->w'.heap=(w.alloc (aG #[N ab o.kind,N ab o.n,N ab o.u.id,N ab o.u.time,.slice ta tn tc,.slice la J E] 37)).heap->Q .normal ⟨tm,[]⟩ w'):Ux.wp PQ Q ⟨tm,[]⟩ w:=by
 obtain⟨hs,t2,t3,t8,t10,t11⟩:=h;obtain⟨l,rfl,hs⟩:=jZ hs
 iterate 161 (obtain⟨_,l,rfl,I⟩:=jV hs;clear hs;have hs:=I;clear I)
 obtain rfl:=cJ.1 hs;clear hs;simp only[eX,eU,dX,aK]at t2 t3 t8 t10 t11;subst t2 t3 t8 t10 t11;subst z;have Y:(i:Int)<(n:Int):=aA
 have HN:cH _:=R;clear R;simp only[Ux,Af,vF,cp,eZ];go_wp2_with fail;exact HN.out _ _ ⟨rfl,rfl,rfl,rfl,rfl,rfl⟩ rfl rfl
def aeF{ob:Nat}{kd:Int}(h:US tm sc cb nk vch i)(t12:tm[12]? =M (aD (M ⟨ob,0,Z⟩)))(k0:w.cell? ⟨ob,0,Z⟩=M (N ab kd))(J:-9223372036854775808<=kd)(h2:kd<=9223372036854775807)(E:∀tm:Array X,US tm sc cb nk vch i->tm[12]? =M (aD (M ⟨ob,0,Z⟩))->tm[54]? =M (N ab (pk kd 8))->Q .normal ⟨tm,[]⟩ w):QD.wp PQ Q ⟨tm,[]⟩ w:=by
 obtain⟨hs,t2,t3,t8,t10,t11⟩:=h;obtain⟨l,rfl,hs⟩:=jZ hs
 iterate 161 (obtain⟨_,l,rfl,z⟩:=jV hs;clear hs;have hs:=z;clear z)
 obtain rfl:=cJ.1 hs;clear hs;simp only[eX,eU,dX,aK]at t2 t3 t8 t10 t11 t12;subst t2 t3 t8 t10 t11 t12;have I:=pick_any kd 8 w aA aA J h2;have Y:cH _:=λ(_:Unit)=>I;clear I;have R:cH _:=E;clear E;simp only[QD,Af,vF,cp,eZ];go_wp2_with (go_at_call 7;refine aT (Y.out ()) ?_;rintro e w1 ⟨rfl,rfl⟩)
 exact R.out _ ⟨rfl,rfl,rfl,rfl,rfl,rfl⟩ rfl rfl
def adY(h:US tm sc cb nk vch i)(J:i<=4294967296)(E:∀tm:Array X,US tm sc cb nk vch (i+1)->Q .normal ⟨tm,[]⟩ w):Sz.wp PQ Q ⟨tm,[]⟩ w:=by
 obtain⟨hs,t2,t3,t8,t10,t11⟩:=h;obtain⟨l,rfl,hs⟩:=jZ hs
 iterate 161 (obtain⟨_,l,rfl,z⟩:=jV hs;clear hs;have hs:=z;clear z)
 obtain rfl:=cJ.1 hs;clear hs;simp only[eX,eU,dX,aK]at t2 t3 t8 t10 t11;subst t2 t3 t8 t10 t11;have I:cH _:=E;clear E;simp only[Sz,Af,vF,cp,eZ];go_wp2_with fail;exact I.out _ ⟨rfl,rfl,rfl,rfl,rfl,rfl⟩
end
end
end Hm
namespace Pa
open Go Go.Conc Go.RowKit Go.Joins
open Hm (ptr jL Nd cp)
open Dv (X2 Cf)
open Po hiding X2 H B IT PR NB
section
variable {D:Nat->Prop}{rest:List Nat}
noncomputable def Zx:eE:=match Tryz.f12.body with
 |some c=>c
 |_=>.ret
noncomputable def afJ:eE:=cp [0] Zx
noncomputable def agw:eE:=cp [1,0,0] Zx
noncomputable def Nk:eE:=cp [1,0,1,4,5] Zx
noncomputable def idT:eE:=cp [1,1] Zx
noncomputable def agm:eE:=cp [0,0] Nk
noncomputable def afF:eE:=cp [1,0,4,0] Nk
noncomputable def adF:eE:=cp [1,0,4,1,0] Nk
noncomputable def agx:eE:=cp [1,0,4,1,1,2] Nk
noncomputable def af4:eE:=cp [1,1] Nk
def ab1:Tryz.f12.body=M (bR afJ (bR (bR agw (.block 0 (.loop Nk))) idT)):=XN
def aaY:Nk=bR (bR agm (.cond (cN 6) .skip (.exit 0))) (bR (.block 1 (bR afF (bR adF (.cond (cN 12) agx .skip)))) af4):=XN
def aeo{tm:Array X}{z:X}(h2:tm[2]? =M z)(w:U):(results Tryz.f12 tm).run PQ w=.ok z w:=by simp[results,Tryz.results12,go_sem,h2]
section
variable {Post:vU}{XX A:List cR}{b:cR}{k:List pS}{w:U}{te:cG}{xe:X}{tm:Array X}{c:Cf}{chain:List X2}{s:Nv}{p:Nn}
def acY(rd:Cr.ReadW)(C:eE)(n s0 I b0:Nat)(hr:∃Y,C=.region Y (yE C) aL)(hn:(yE C).size=n)(hl:ir n=0::1::rest)(o0:((yE C)[0]?).map opw=M (.move (cN s0),M I,Z))(E:((yE C)[1]?).map opw=M (.call { callee:=.value (.func 13),args:=#[cN I],argTypes:=#[31] },M b0,Z))(ha:tm[s0]? =M (ptr p.x.nk))(hz:I<tm.size)(hG:Oo w te xe)(h:NT c chain s p w)(z:∀D' w' J s' V,NT c chain s' J w'->StT chain s p s' J V->J.x.nk=p.x.nk->jL (NK p) w w'->(∀g,NK J g->NK p g\/w.heap.size<=g)->Wq D' Post XX (b.at { tmps:=(tm.setIfInBounds I (ptr p.x.nk)).setIfInBounds b0 (N .u8 V),defers:=[] } (bL (yE C) rest::k)) A w'):Wq D Post XX (b.at ⟨tm,[]⟩ (.code C::k)) A w:=by
 refine Wq.reg hr hn ?_;rw[hl];refine Wq.qJ _ _ _ w o0 (mv ha) ?_;simp only[dC];cases R:(yE C)[1]? with
 |none=>rw[R]at E;cases E
 |some o=>
  rw[R]at E;simp only[cO,aK,dJ]at E;obtain⟨hp,hd,hg⟩:=E;refine YN rd (p:=p) R (Cr.jY hg) hp (KI (tnew hz)) hG h λD2 w2 p2 s2 V m1 ms m2 m3 m4=>?_;rw[hd];exact z D2 w2 p2 s2 V m1 ms m2 m3 m4
def Gp(rd:Cr.ReadW){w0:U}{p0:Nn}{nk last:Nat}(ae:∀g,NK p0 g->Tryz.prog.globals.size<=g)(aa:Tryz.prog.globals.size<=w0.heap.size)(z:∀D' w' p' s' (tm:Array X) todo,NT c chain s' p' w'->s'.old=chain->s'.j=chain.length->p'.x.v.com=[]->s'.last=last->p'.x.nk=nk->Oo w' te xe->jL (NK p0) w0 w'->(∀g,NK p' g->NK p0 g\/w0.heap.size<=g)->tm[2]? =M (cK aR)->Wq D' Post XX { b.at ⟨tm,[]⟩ todo with mode:=.returning } A w'):∀μ D w s p tm i,NT c chain s p w->mu chain s p<=μ->i+μ<6100->s.last=last->p.x.nk=nk->Oo w te xe->jL (NK p0) w0 w->(∀g,NK p g->NK p0 g\/w0.heap.size<=g)->tm.size=13->tm[0]? =M (ptr nk)->tm[3]? =M (N ab (i:Nat))->Wq D Post XX (b.at ⟨tm,[]⟩ (.code Nk::.inLoop Nk::.inBlock 0::.code idT::k)) A w:=by
 intro μ
 induction μ using Nat.strongRecOn with
 |ind μ ih=>
 intro D w s p tm i h hμ hi E ac hG hc ho hs t0 t3;obtain⟨l,rfl,hs⟩:=Hm.jZ hs
 iterate 13 (obtain⟨_,l,rfl,h'⟩:=Hm.jV hs;clear hs;have hs:=h';clear h')
 obtain rfl:=cJ.1 hs;clear hs;simp only[eX,eU,dX,aK]at t0 t3;subst t0 t3 ac;rw[show ly Nk=ly _ from by rw[aaY]];have HH:cH _:=jy h (jy hμ (jy E (jy hG (jy hc (jy ho (jy ih z))))));have af:(i:Int)<6100:=aA
 clear h hμ E hG hc ho ih z;refine Wq.seq (Wq.seq (Wq.walk λt d Q Y _=>?_));have HN:cH _:=Y;clear Y;simp only[agm,Nk,Zx,cp,Tryz.f12];go_wp2_with fail;refine HN.out _ _ (Wq.same (y:=w) (λ_ _=>rfl) (Wq.cond (t:=aR) rfl ?_));clear HN;rw[ZD rfl];refine Wq.skip (Wq.seq (Wq.block (Wq.seq ?_)));obtain⟨h,hμ,E,hG,hc,ho,ih,z⟩:=HH.out;refine acY rd afF 3 0 9 10 ⟨_,rfl⟩ XN rfl XN XN rfl aC hG h λD2 w2 p2 s2 V m1 ms m2 m3 m4=>?_;simp only[bQ,dP,dO];refine Wq.qJ (.assign (cN 10)) (M 4) (N .u8 V) w2 XN (asg rfl) (Wq.done ?_);simp only[dC,bQ,dP,dO];have I:jL (NK p0) w0 w2:=hc.trans m3 λg hg e=>(ho g e).elim id λe=>aA
 have R:∀g,NK p2 g->NK p0 g\/w0.heap.size<=g:=λg hg=>(m4 g hg).elim (ho g) λe=>cD (bH hc.size e);have J:=hG.kept m3 λg e=>(ho g e).elim (ae g) (bH aa);have H2:cH _:=jy m1 (jy ms (jy m2 (jy I (jy R J))));clear h hμ E hG hc ho ih z m1 ms m2 m3 m4 I R J;by_cases hV:V=2
 .subst hV;refine Wq.seq (Wq.walk λt d Q Y _=>?_);have HN:cH _:=Y;clear Y;simp only[adF,Nk,Zx,cp,Tryz.f12];go_wp2_with fail;refine HN.out _ _ (Wq.same (y:=w2) (λ_ _=>rfl) (Wq.cond (t:=aR) rfl ?_));clear HN;rw[ZD rfl];refine Wq.walk λt d Q _ hR=>?_;have HR:cH _:=hR;clear hR;simp only[agx,Nk,Zx,cp,Tryz.f12];go_wp2_with fail;refine HR.out _ _ λtodo=>Wq.same (y:=w2) (λ_ _=>rfl) ?_;obtain⟨m1,ms,m2,I,R,J⟩:=H2.out;obtain⟨h,hμ,E,hG,hc,ho,ih,z⟩:=HH.out;obtain⟨_,e1,e2,e3,e4⟩|⟨e,_⟩:=ms
  .exact z D2 w2 p2 s2 _ todo m1 e1 e2 e3 (e4.trans E) m2 J I R rfl
  .exact Xs rfl e
 .have ag:(V == 2)=aL:=by simp[hV]
  refine Wq.seq (Wq.walk λt d Q Y _=>?_);have HN:cH _:=Y;clear Y;simp only[adF,Nk,Zx,cp,Tryz.f12];go_wp2_with fail;refine HN.out _ _ (Wq.same (y:=w2) (λ_ _=>rfl) (Wq.cond (t:=aL) rfl ?_));clear HN;rw[Zs aB];refine Wq.skip (Wq.inBlock (Wq.walk λt d Q Y _=>?_));have HN:cH _:=Y;clear Y;simp only[af4,Nk,Zx,cp,Tryz.f12];go_wp2_with fail;obtain⟨m1,ms,m2,I,R,J⟩:=H2.out;obtain⟨h,hμ,E,hG,hc,ho,ih,z⟩:=HH.out;obtain⟨e,_⟩|⟨_,e1,e2⟩:=ms
  .exact Xs e hV
  .exact HN.out _ _ (Wq.same (y:=w2) (λ_ _=>rfl) (Wq.inLoop (ih (mu chain s2 p2) aA D2 w2 s2 p2 _ (i+1) m1 jB aA (e2.trans E) m2 J I R rfl rfl rfl)))
def O8(rd:Cr.ReadW){b₀:cR}{a₀:Act}{ops:Array ij}{i:Nat}{k:List pS}{o:ij}{x:jN}{aa:Array cG}(ho:ops[i]? =M o)(hw:cP o (yielded ops a₀.tmps)=aR)(Y:o.op=.call { callee:=.value (.func 12),args:=#[x],argTypes:=aa })(ex:a₀.eval x=ptr p.x.nk)(hG:Oo w te xe)(h:NT c chain s p w)(E:s.sil<=20)(z:∀D' w' I s',NT c chain s' I w'->s'.old=chain->s'.j=chain.length->I.x.v.com=[]->s'.last=s.last->I.x.nk=p.x.nk->Oo w' te xe->jL (NK p) w w'->(∀g,NK I g->NK p g\/w.heap.size<=g)->Wq D' Post XX (b₀.at (a₀.put o.dst (cK aR)) (bL ops rest::k)) A w'):Wq D Post XX (b₀.at a₀ (bL ops (i::rest)::k)) A w:=by
 refine Wq.call ho hw Y (fq Tryz.func12 rfl) rfl ab1 ?_;simp only[fQ,eP,fP,ex,show Tryz.f12.ntmps=13 from rfl,dR,aU,bY,Nat.reduceAdd,Nat.reduceSub,dH,dG,dU,dI,dS,dN];have H:cH _:=jy hG (jy h (jy E z));clear hG h E z;refine Wq.seq (Wq.walk λt d Q J _=>?_);have R:cH _:=J;clear J;simp only[afJ,Zx,cp,Tryz.f12];go_wp2_with fail;refine R.out _ _ (Wq.same (y:=w) (λ_ _=>rfl) (Wq.seq (Wq.seq (Wq.walk λt d Q J _=>?_))));clear R;have R:cH _:=J;clear J;simp only[agw,Zx,cp,Tryz.f12];go_wp2_with fail;refine R.out _ _ (Wq.same (y:=w) (λ_ _=>rfl) (Wq.block (Wq.loop ?_)));obtain⟨hG,h,E,z⟩:=H.out;have ac:=(Dv.jW h.np.hc).2.1;refine Gp rd (w0:=w) (p0:=p) (nk:=p.x.nk) (last:=s.last) h.nb.low hG.gl ?_ 91 D w s p _ 0 h ?_ aA rfl rfl hG (.refl _ _) (λg e=>bE e) rfl rfl rfl
 .intro D' w' I s' tm todo q1 q2 q3 q4 q5 q6 q7 q8 q9 t2;refine Wq.leave (v:=cK aR) (fn:=Tryz.f12) rfl rfl rfl (fq Tryz.func12 rfl) (aeo t2) ?_;rw[fO,ho];exact z D' w' I s' q1 q2 q3 q4 q5 q6 q7 q8 q9
 .unfold mu;split<;>omega
end
end
open Hm (ptr jL jI kW PU Vw lF VO Ro Nd lX NO SO tX mY wF U9)
section
def CJ(chain:List X2):Int:=(chain[chain.length-1]!).time
def uF:∀(l:List X2)(b:Option Int)(u:X2),l≠[]->Dv.kF b l=aR->Dv.lY (M ((l[l.length-1]!).time)) u=aR->Dv.kF b (l++[u])=aR
 |[],_,_,h,_,_=>Xs rfl h
 |[x],b,u,_,h,hu=>by
  obtain⟨z,_⟩:=Dv.kK h;have E:Dv.lY (M x.time) u=aR:=hu;simp[Dv.kF,z,E]
 |x::y::l,b,u,_,h,hu=>by
  obtain⟨z,h2⟩:=Dv.kK h;have:=uF (y::l) (M x.time) u aC h2 (by simpa using hu);rw[dN,Dv.kF,z,this];rfl
def IZ{chain:List X2}{u:X2}(h:Dv.jS chain=aR)(I:chain.length<60)(z:mY (CJ chain) u=aR):Dv.jS (chain++[u])=aR:=by
 obtain⟨J,_,h2,_⟩:=Dv.jW h
 have E:Dv.lY (M (CJ chain)) u=aR:=by
  unfold mY at z;unfold Dv.lY;simp only[dF,Z3]at z⊢;exact⟨⟨aA,z.1.2⟩,z.2⟩
 have:=uF chain Z u (by grind) h2 E;unfold Dv.jS;rw[this,aS,iF,Bool.and_true];exact Z0 aA
section
variable {c:Cf}{chain:List X2}{j k:Nat}{rs:Bool}{sil:Nat}{p:Nn}{w w':U}
def NO.types{h:lX w c p.x}{g:Nat}(E:NO p.x g):∃cs t z,w.heap[g]? =M (aG cs t z)/\t∈[60,83,28,73,52,3]:=by
 obtain rfl|e|e:=E
 .exact⟨_,_,_,h.obj,aB⟩
 .obtain rfl|e:=e
  .exact⟨_,_,_,h.src.obj,aB⟩
  .obtain⟨cs,q⟩:=h.src.row.obj e;exact⟨_,_,_,q,aB⟩
 .obtain⟨cs,t,z,q⟩:=Jj h.vw e;refine⟨cs,t,z,q,?_⟩;rcases h.vw.types e q with rfl|rfl|rfl<;>decide
end
end
end Pa
namespace Hm
open Go.RowKit Go.Joins Go.Shelf
open Fr (below_drewN)
open Dv (Lo X2 Cf)
section
noncomputable def ad1:eE:=match Tryz.f6.body with
 |some (bR c _)=>c
 |_=>.ret
noncomputable def aaA:eE:=match Tryz.f6.body with
 |some (bR _ (bR c _))=>c
 |_=>.ret
noncomputable def ZF:eE:=match Tryz.f6.body with
 |some (bR _ (bR _ (bR c _)))=>c
 |_=>.ret
noncomputable def Zu:eE:=match Tryz.f6.body with
 |some (bR _ (bR _ (bR _ (bR c _))))=>c
 |_=>.ret
noncomputable def ZH:eE:=match Tryz.f6.body with
 |some (bR _ (bR _ (bR _ (bR _ (bR c _)))))=>c
 |_=>.ret
noncomputable def YL:eE:=match Tryz.f6.body with
 |some (bR _ (bR _ (bR _ (bR _ (bR _ (bR c _))))))=>c
 |_=>.ret
noncomputable def aaB:eE:=match Tryz.f6.body with
 |some (bR _ (bR _ (bR _ (bR _ (bR _ (bR _ (bR c _)))))))=>c
 |_=>.ret
noncomputable def nwT:eE:=match Tryz.f6.body with
 |some (bR _ (bR _ (bR _ (bR _ (bR _ (bR _ (bR _ c)))))))=>c
 |_=>.ret
def Zt:Tryz.f6.body=M (bR ad1 (bR aaA (bR ZF (bR Zu (bR ZH (bR YL (bR aaB nwT))))))):=XN
section
variable {tm:Array X}{w:U}{Q:p9->Act->U->Prop}
def Ac(c:Cf)(w:U):Below ↑w w (tK c w):=by unfold tK;exact((((((aJ _ w).alloc jB _).alloc aC _).alloc aF _).alloc aF _).alloc aF _)
def afe{c:Cf}{u:X2}{ta la:Option eM}{tn tc ln lc I b3:Nat}{K:Act->U->Prop}(hs:tm.size=44)(t2:tm[2]? =M (aD (M ⟨I,0,Z⟩)))(t3:tm[3]? =M (aD (M ⟨b3,0,Z⟩)))(h2:w.heap[I]? =M (aG (jF c) 24 (0,0)))(h3:w.heap[b3]? =M (aG #[N ab u.id,N ab u.time,.slice ta tn tc,.slice la ln lc] 28 (0,0)))(hu:kW w u (.slice ta tn tc) (.slice la ln lc))(ac:Dv.small u=aR)(hK:∀(tm:Array X) w' nk sb vb vt vl Wa,tm.size=44->tm[6]? =M (aD (M ⟨nk,0,Z⟩))->w'.heap[nk]? =M (aG (lI c sb (Wa.heap.size+4) aL) 60 (0,0))->↑w<=nk->tX w' sb vb [({ u with id:=1 },vt,vl)] 1 0->(∀k,SO sb vb k->w.heap.size<=k)->Below ↑w w Wa->Below (tK c Wa).heap.size (tK c Wa) w'->K ⟨tm,[]⟩ w'):Zu.wp PQ (Exit.then K λ_ _ _=>False) ⟨tm,[]⟩ w:=by
 obtain⟨l,rfl,hs⟩:=jZ hs
 iterate 44 (obtain⟨_,l,rfl,h'⟩:=jV hs;clear hs;have hs:=h';clear h')
 obtain rfl:=cJ.1 hs;clear hs;simp only[eX,eU,dX,aK]at t2 t3;subst t2 t3;have hS:∀W,Below ↑w w W->dE PQ 19 #[fX #[N ab u.id,N ab u.time,.slice ta tn tc,.slice la ln lc]] W λe w'=>∃sb vb vt vl,e=bO (aD (M ⟨sb,0,Z⟩))/\tX w' sb vb [({ u with id:=1 },vt,vl)] 1 0/\Below ↑W W w'/\(∀k,SO sb vb k->W.heap.size<=k)/\Below ↑w w w':=λW E=>(Pm (w:=W) u _ _ (hu.below E) ac).mono λe w' ⟨sb,vb,vt,vl,h1,h2,h3,h4⟩=>⟨sb,vb,vt,vl,h1,h2,h3,h4,E.trans (h3.mono E.size)⟩
 have hV:∀W,Below ↑w w W->dE PQ 20 #[fX #[N eA c.inbox,N eA c.batcher,N ab c.timeout,N ab c.window,N ab c.drift,N ab c.step,N ab c.most]] W λe w'=>e=bO (aD (M ⟨W.heap.size+4,0,Z⟩))/\w'=tK c W/\Below ↑w w w':=λW E=>(zZ c W).mono λe w' ⟨h1,h2⟩=>⟨h1,h2,by rw[h2];exact E.trans ((Ac c W).mono E.size)⟩
 have hC:∀W,Below ↑w w W->W.cell? ⟨I,0,Z⟩=M (N eA c.inbox)/\W.cell? ⟨I,1,Z⟩=M (N eA c.batcher)/\W.cell? ⟨I,2,Z⟩=M (N ab c.timeout)/\W.cell? ⟨I,3,Z⟩=M (N ab c.window)/\W.cell? ⟨I,4,Z⟩=M (N ab c.drift)/\W.cell? ⟨I,5,Z⟩=M (N ab c.step)/\W.cell? ⟨I,6,Z⟩=M (N ab c.most):=λW E=>Dn ((E.block _ (jE h2)).trans h2);have hU:∀W,Below ↑w w W->W.cell? ⟨b3,0,Z⟩=M (N ab u.id)/\W.cell? ⟨b3,1,Z⟩=M (N ab u.time)/\W.cell? ⟨b3,2,Z⟩=M (.slice ta tn tc)/\W.cell? ⟨b3,3,Z⟩=M (.slice la ln lc):=λW E=>cells4 ((E.block _ (jE h3)).trans h3);obtain⟨c0,c1,c2,c3,c4,c5,c6⟩:=hC w (.refl _ _);obtain⟨d0,d1,d2,d3⟩:=hU w (.refl _ _);have HS:cH _:=hS;have HV:cH _:=hV;have HC:cH _:=hC;have HU:cH _:=hU;have HK:cH _:=hK;have z:=aJ ↑w w;clear hS hV hC hU hK h2 h3 hu ac;simp only[Zu,Tryz.f6];go_region_with (first|(go_at_call 19;((with_reducible refine aT (HS.out _ ?_) ?_);(first|exact z|exact z.drew|exact below_drewN z _|exact H6.out.2|exact H6.out.2.drew);rintro e w5 ⟨sb,vb,vt,vl,rfl,h5⟩;obtain⟨x0,x1,x2,x3,x4,x5,x6⟩:=HC.out w5 h5.2.2.2;have H5:cH _:=h5;clear h5))|(go_at_call 20;((with_reducible refine aT (HV.out _ ?_) ?_);(first|exact z|exact z.drew|exact below_drewN z _|exact H5.out.2.2.2|exact H5.out.2.2.2.drew);rintro e w6 ⟨rfl,Y⟩;obtain⟨x0,x1,x2,x3,x4,x5,x6⟩:=HC.out w6 Y.2;obtain⟨y0,y1,y2,y3⟩:=HU.out w6 Y.2;have H6:cH _:=Y;clear Y)))
 all_goals
  obtain⟨ae,af,aa,R⟩:=H5.out;obtain⟨Y,J⟩:=H6.out
  first
   |(have e6:w6=tK c w5:=by with_reducible exact Y
     have ag:Below ↑w5 w5 w6:=by rw[e6];exact Ac c w5
     refine HK.out _ _ _ sb vb vt vl w5 rfl rfl (cT _ _) J.size ((ae.below ag).below ((aJ _ w6).alloc jB _)) (λk hk=>?_) R (by rw[<-e6];exact(aJ _ w6).alloc jB _);exact aa k hk)
   |(refine HK.out _ _ _ sb vb vt vl _ rfl rfl (cT _ _) R.size (ae.below ((aJ _ w5).alloc jB _)) (λk hk=>bH J.size (aa k hk)) ?_ ?_
     .first|exact z|exact z.drew|exact below_drewN z _
     .rw[<-Y];exact af.alloc af.size _)
end
end
section
variable {nk sb:Nat}
section
variable {tm:Array X}{w:U}{Q:p9->Act->U->Prop}
def ae2{c:Cf}{v0 last:Nat}{vb:X}{ps:List PU}{rs:Bool}{ev:X}(hs:tm.size=44)(t6:tm[6]? =M (aD (M ⟨nk,0,Z⟩)))(hx:w.heap[nk]? =M (aG (lI c sb v0 rs) 60 (0,0)))(hS:tX w sb vb ps last 0)(z:w.cell? ⟨0,0,Z⟩=M ev)(hN:∀(tm:Array X) w' bx (u:X2) (ta la:Option eM) (tn tc J I:Nat) (f:Bool),tm.size=44->tm[6]? =M (aD (M ⟨nk,0,Z⟩))->tm[7]? =M (aD (M ⟨bx,0,Z⟩))->w'.heap[bx]? =M (aG #[N ab u.id,N ab u.time,.slice ta tn tc,.slice la J I] 28 (0,0))->Below ↑w w w'->Told ps 0 (u,.slice ta tn tc,.slice la J I) f->Q .normal ⟨tm,[]⟩ w'):ZH.wp PQ Q ⟨tm,[]⟩ w:=by
 obtain⟨l,rfl,hs⟩:=jZ hs
 iterate 44 (obtain⟨_,l,rfl,Y⟩:=jV hs;clear hs;have hs:=Y;clear Y)
 obtain rfl:=cJ.1 hs;clear hs;simp only[eX,eU,dX,aK]at t6;subst t6;have k7:w.cell? ⟨nk,7,Z⟩=M (aD (M ⟨sb,0,Z⟩)):=mZ hx rfl;have hB:=rD hS z 0;have HB:cH _:=λ(_:Unit)=>hB;have HN:cH _:=hN;clear hN hB hS hx z;simp only[ZH,Tryz.f6];go_wp2_with (go_at_call 21;refine aT (HB.out ()) ?_;rintro e w5 ⟨u,ta,la,tn,tc,J,I,f,rfl,h5,E⟩;have R:cH _:=jy h5 E;clear h5 E)
 exact HN.out _ _ ↑w5 u ta la tn tc J I f rfl rfl rfl (cT _ _) (R.out.2.alloc (by exact R.out.2.size) _) R.out.1
def ae3{c:Cf}{v:Vw}{rs:Bool}(hs:tm.size=44)(t6:tm[6]? =M (aD (M ⟨nk,0,Z⟩)))(J:w.heap[nk]? =M (aG (lI c sb v.vb rs) 60 (0,0)))(h:lF w v)(z:1<=v.com.length)(R:∀(tm:Array X) w',tm.size=44->tm[6]? =M (aD (M ⟨nk,0,Z⟩))->Xj w v 1 w'->Q .normal ⟨tm,[]⟩ w'):aaB.wp PQ Q ⟨tm,[]⟩ w:=by
 obtain⟨l,rfl,hs⟩:=jZ hs
 iterate 44 (obtain⟨_,l,rfl,E⟩:=jV hs;clear hs;have hs:=E;clear E)
 obtain rfl:=cJ.1 hs;clear hs;simp only[eX,eU,dX,aK]at t6;subst t6;have k8:w.cell? ⟨nk,8,Z⟩=M (aD (M ⟨v.vb,0,Z⟩)):=mZ J rfl;have I:dE PQ 23 #[aD (M ⟨v.vb,0,Z⟩),N ab 1] w λe w'=>e=bO (cQ #[])/\Xj w v 1 w':=Dk v 1 w h z;have HL:cH _:=λ(_:Unit)=>I;have HN:cH _:=R;clear R I h J;simp only[aaB,Tryz.f6];go_wp2_with (go_at_call 23;refine aT (HL.out ()) ?_;rintro e w1 ⟨rfl,z⟩;have Y:cH _:=z;clear z)
 exact HN.out _ _ rfl rfl Y.out
def agT{I:X}(hs:tm.size=44)(t6:tm[6]? =M I)(E:∀tm:Array X,tm[4]? =M I->tm[5]? =M (N ab 0)->Q .ret ⟨tm,[]⟩ w):nwT.wp PQ Q ⟨tm,[]⟩ w:=by
 obtain⟨l,rfl,hs⟩:=jZ hs
 iterate 44 (obtain⟨_,l,rfl,z⟩:=jV hs;clear hs;have hs:=z;clear z)
 obtain rfl:=cJ.1 hs;clear hs;simp only[eX,eU,dX,aK]at t6;subst t6;have J:cH _:=E;clear E;simp only[nwT,Tryz.f6];go_wp2_with fail;exact J.out _ rfl rfl
end
end
end Hm
namespace Pa
open Go Go.Conc Go.RowKit Go.Joins
open Hm (ptr jF jP TS jL jI kW PU PL Vw lF VO Ro Pe Nd lX NO SO tX Told tK lI ad1 aaA ZF Zu ZH YL aaB nwT)
open Dv (X2 Cf Ch)
open Po hiding X2 H B IT PR NB
open Cr (Fill)
section
noncomputable def SV:Array ij:=match YL with
 |.region _ ops _=>ops
 |_=>#[]
def aau:∃z,YL=.region z SV aR:=⟨_,rfl⟩
def vsN(nk vb:Nat)(u:X2)(vt vl:X)(i:Nat):X:=(#[ptr nk,ptr nk,aD (M ⟨nk,8,Z⟩),ptr vb,fX #[N ab u.id,N ab u.time,vt,vl],cQ #[]]:Array X).getD i aE
def ac7:Cr.fills 44 SV=aR:=XN
def VtR(c:Cf)(chain:List X2)(j:Nat)(v:Vw)(y:Ck)(w w':U):Prop:=∃v' y' com,VC c chain (j+1) v' y' w'/\v'.vb=v.vb/\v'.kb=v.kb/\v'.vl=v.vl/\v'.log=v.log/\v'.com=v.com++com/\jL (VK v y) w w'/\∀g,VK v' y' g->VK v y g\/w.heap.size<=g
section
variable {Post:vU}{D:Nat->Prop}{w:U}{b:cR}{a:Act}{k:List pS}{XX A:List cR}{c:Cf}{chain:List X2}{j nk bx sb:Nat}{v:Vw}{y:Ck}{u:X2}{ta la:Option eM}{tn tc ln lc:Nat}{rs:Bool}
def afR(rd:Cr.ReadW)(hs:a.tmps.size=44)(ae:a.defers=[])(t6:a.tmps[6]? =M (ptr nk))(t7:a.tmps[7]? =M (ptr bx))(hN:w.heap[nk]? =M (aG (lI c sb v.vb rs) 60 (0,0)))(h3:w.heap[bx]? =M (aG #[N ab u.id,N ab u.time,.slice ta tn tc,.slice la ln lc] 28 (0,0)))(ah:Tryz.prog.globals.size<=w.heap.size)(h:VC c chain j v y w)(hc:Dv.jS chain=aR)(hcf:Dv.jK c=aR)(hj:j<chain.length)(hu:chain[j]! =u)(af:Pe w (u,.slice ta tn tc,.slice la ln lc))(hQ:∀a' w' D',a'.tmps.size=44->a'.defers=[]->a'.tmps[6]? =M (ptr nk)->VtR c chain j v y w w'->Wq D' Post XX (b.at a' k) A w'):Wq D Post XX (b.at a (.code YL::k)) A w:=by
 obtain⟨ai,aa⟩:=aau;rw[aa];refine Wq.fill (τ:=Unit) (λ_=>vsN nk v.vb u (.slice ta tn tc) (.slice la ln lc)) (λl x Y _=>(l.getD 5 aL=aL->x=w/\Y=D)/\(l.getD 5 aL=aR->VtR c chain j v y w x)) (by rw[hs];exact ac7) (λl a' x Y _ hl R hJ=>?_) (λl a' x Y _ i o rest ho hi ag R hJ I=>?_) () ⟨λ_=>⟨rfl,rfl⟩,λh=>by rw[show SV.size=6 from rfl]at h;cases h⟩
 .exact hQ a' _ _ (R.size.trans hs) (R.defers.trans ae) ((R.slot XN).trans t6) (hJ.2 (hl 5 aB))
 .have hold:∀{g:Nat}{cs:Array X}{t:Nat}{fz:Nat×Nat},w.heap[g]? =M (aG cs t fz)->t∉[73,52,3,100,102,118,136,140]->x.heap[g]? =M (aG cs t fz):=λE ht=>by
   cases h5:l.getD 5 aL with
   |false=>grind
   |true=>
    obtain⟨_,_,_,_,_,_,_,_,_,hc,_⟩:=hJ.2 h5;exact(hc.block _ (jE E) (h.far E ht)).trans E
  have gv:=hold hN aB;have g3:=hold h3 aB;have keep:i≠5->(((l.setIfInBounds i aR).getD 5 aL=aL->x=w/\Y=D)/\((l.setIfInBounds i aR).getD 5 aL=aR->VtR c chain j v y w x)):=λe=>by rw[getD_set_ne aL e];exact hJ
  have go:i≠5->o.guard=Z->(∀t d,(bN a'.eval o).run PQ (on x t d)=.ok (.value (vsN nk v.vb u (.slice ta tn tc) (.slice la ln lc) i)) (on x t d))->Wq Y Post XX (b.at a' (bL SV (i::rest)::k)) A x:=λe E hr=>Wq.val ho E hr (I x Y () (λ_ _=>rfl) (keep e));have ac:=(jE ho)
  have e0:=R.old (s:=6) XN t6;have e3:=R.old (s:=7) XN t7;have cl:∀{B:Nat}{cs:Array X}{ty:cG}{fz:Nat×Nat}(o:Nat),x.heap[B]? =M (aG cs ty fz)->∀t d,(on x t d).cell? ⟨B,o,Z⟩=cs[o]?:=λo h t d=>aI (show(on x t d).heap[_]? =_ from h) o;have J:∀j t,Cr.waits SV i j=aR->Cr.nN SV j=M t->a'.eval (cN t)=vsN nk v.vb u (.slice ta tn tc) (.slice la ln lc) j:=λj t hw hd=>R.ev hd (ag j hw)
  match i,ac with
  |0,_=>
   obtain⟨z,E⟩:=Cr.kM (.move (cN 6),Z) ho rfl;refine go aB E λt d=>?_;unfold bN;simp only[z,e0];rfl
  |1,_=>
   obtain⟨z,E⟩:=Cr.kM (.nilCheck (cN 32),Z) ho rfl;refine go aB E λt d=>?_;unfold bN;simp only[z,J 0 32 rfl rfl];rfl
  |2,_=>
   obtain⟨z,E⟩:=Cr.kM (.fieldAddr 60 (cN 33) 2,Z) ho rfl;refine go aB E λt d=>?_;unfold bN;simp only[z,J 1 33 rfl rfl];simp[go_sem];rfl
  |3,_=>
   obtain⟨z,E⟩:=Cr.kM (.load 57 (cN 34),Z) ho rfl;refine go aB E λt d=>?_;have c0:=cl 8 gv t d;unfold bN;simp only[z,J 2 34 rfl rfl];simp[go_sem,vsN,ptr,c0,lI]
  |4,_=>
   obtain⟨z,E⟩:=Cr.kM (.load 28 (cN 7),Z) ho rfl;refine go aB E λt d=>?_;have c0:=cl 0 g3 t d;have c1:=cl 1 g3 t d;have c2:=cl 2 g3 t d;have c3:=cl 3 g3 t d;unfold bN;simp only[z,e3,ptr];simp[go_sem,vsN,c0,c1,c2,c3]
  |5,_=>
   obtain⟨z,E⟩:=Cr.kM (.call { callee:=.value (.func 22),args:=#[cN 35,cN 36],argTypes:=#[57,28] },Z) ho rfl;have h5:=Cr.AP hi;obtain⟨rfl,rfl⟩:=hJ.1 h5.1;refine DF rd (v:=v) (y:=y) ho (Cr.jY E) z (J 3 35 rfl rfl) (J 4 36 rfl rfl) ah h hc hcf hj hu af λD' w' v' y' com r1 r2 r3 r4 r5 r6 r7 r8=>I w' D' () (λ_ _=>rfl) ⟨λh=>(by rw[h5.2]at h;cases h),λ_=>⟨v',y',com,r1,r2,r3,r4,r5,r6,r7,r8⟩⟩
end
def newE(c:Cf)(u:X2):Option Int:=if Dv.jK c=aL then M 1 else if Hm.mM u=aL then M 2 else Z
def yJ{u:X2}(h:Hm.mM u=aR):Dv.jS [{ u with id:=1 }]=aR:=by have z:Dv.lY Z { u with id:=1 }=aR:=(Hm.Eh _).trans h;simp[Dv.jS,Dv.kF,z]
def adH{tm:Array X}{z E:X}(h4:tm[4]? =M z)(I:tm[5]? =M E)(w:U):(results Tryz.f6 tm).run PQ w=.ok (cQ #[z,E]) w:=by simp[results,Tryz.results6,go_sem,h4,I]
section
variable {Post:vU}{D:Nat->Prop}{XX A:List cR}{c:Cf}{u:X2}{ta la:Option eM}{tn tc ln lc:Nat}{w:U}{te:cG}{xe:X}
def NC.made{R w8:U}{nk sb:Nat}{vb vt vl:X}{v E:Vw}{y I:Ck}(hcf:Dv.jK c=aR)(aa:Hm.mM u=aR)(hN:R.heap[nk]? =M (aG (lI c sb v.vb aL) 60 (0,0)))(J:tX R sb vb [({ u with id:=1 },vt,vl)] 1 0)(h:VC c [{ u with id:=1 }] 0 v y R)(hV:VC c [{ u with id:=1 }] 1 E I w8)(hb:E.vb=v.vb)(hc:jL (VK v y) R w8)(hl:E.log.length=1)(ho:∀g,g=nk\/SO sb vb g\/VK E I g->w.heap.size<=g)(Y:Tryz.prog.globals.size<=w.heap.size):NC c [{ u with id:=1 }] 1 1 aL 0 ⟨⟨nk,sb,vb,[({ u with id:=1 },vt,vl)],1,0,E,aL⟩,I⟩ w8/\∀g,NK ⟨⟨nk,sb,vb,[({ u with id:=1 },vt,vl)],1,0,E,aL⟩,I⟩ g->w.heap.size<=g:=by
 have hr:=h.ro hc
 have z:∀g,NK ⟨⟨nk,sb,vb,[({ u with id:=1 },vt,vl)],1,0,E,aL⟩,I⟩ g->w.heap.size<=g:=λg Y=>by
  obtain(e|e|e)|e:=Y
  .exact ho g (bE e)
  .grind
  .exact ho g (cD (cD (bE e)))
  .exact ho g (cD (cD (cD e)))
 refine⟨⟨⟨((hc.block _ (jE hN) (h.far hN aB)).trans hN).trans (by dsimp only;rw[hb]),J.kept (λk e=>?_) hr,hV.vw⟩,hV,rfl,rfl,rfl,rfl,hl,jB,λi hi=>?_,yJ aa,hcf,jB,jB,λk hk=>Nat.le_trans Y (z k hk)⟩,z⟩
 .obtain rfl|e:=e
  .exact hc.block _ J.lt (h.far J.obj aB)
  .obtain⟨cs,q⟩:=J.row.obj e;exact hc.block _ (J.row.lt e) (h.far q aB)
 .grind
def adM(rd:Cr.ReadW){b₀:cR}{a₀:Act}{ops:Array ij}{i:Nat}{rest:List Nat}{k:List pS}{o:ij}{x x':jN}{b3:Array cG}(ho:ops[i]? =M o)(hw:cP o (yielded ops a₀.tmps)=aR)(b5:o.op=.call { callee:=.value (.func 6),args:=#[x,x'],argTypes:=b3 })(ex:a₀.eval x=.agg (jF c))(ey:a₀.eval x'=fX #[N ab u.id,N ab u.time,.slice ta tn tc,.slice la ln lc])(hG:Oo w te xe)(hu:kW w u (.slice ta tn tc) (.slice la ln lc))(E:newE c u=Z->∀D' w' p,NC c [{ u with id:=1 }] 1 1 aL 0 p w'->jL (λ_=>False) w w'->(∀g,NK p g->w.heap.size<=g)->Wq D' Post XX (b₀.at (a₀.put o.dst (cQ #[ptr p.x.nk,N ab 0])) (bL ops rest::k)) A w')(J:∀e,newE c u=M e->∀D' w',jL (λ_=>False) w w'->Wq D' Post XX (b₀.at (a₀.put o.dst (cQ #[aD Z,N ab e])) (bL ops rest::k)) A w'):Wq D Post XX (b₀.at a₀ (bL ops (i::rest)::k)) A w:=by
 have back:∀(D':Nat->Prop)(tm:Array X)(w':U)(todo:List pS)(v4:X)(e:Int),tm[4]? =M v4->tm[5]? =M (N ab e)->Wq D' Post XX (b₀.at (a₀.put o.dst (cQ #[v4,N ab e])) (bL ops rest::k)) A w'->Wq D' Post XX { (base 6).at ⟨tm,[]⟩ todo with mode:=.returning } (b₀.at a₀ (bL ops (i::rest)::k)::A) w':=by
  intro D' tm w' todo v4 e h4 h5 q;refine Wq.leave (v:=.tuple _) (fn:=Tryz.f6) rfl rfl rfl (fq Tryz.func6 rfl) (adH h4 h5) ?_;rw[fO,ho];exact q
 refine Wq.call ho hw b5 (fq Tryz.func6 rfl) rfl Hm.Zt ?_;simp only[fQ,eP,fP,ex,ey,show Tryz.f6.ntmps=44 from rfl,dR,aU,bY,Nat.reduceAdd,Nat.reduceSub,dH,dG,dU,dI,dS,dN];obtain⟨w1,aw,a7,bm⟩:=jD w (jF c) 24;obtain⟨w2,av,az,au⟩:=jD w1 #[N ab u.id,N ab u.time,.slice ta tn tc,.slice la ln lc] 28;have s1:↑w1=w.heap.size+1:=by rw[aw];simp
 have s2:↑w2=w.heap.size+2:=by rw[av];simp[s1]
 rw[s1]at au;have Y:Below ↑w w w2:=a7.trans (az.mono a7.size);have ah:=(az.block _ aA).trans bm;have H:cH _:=jy back (jy E (jy J (jy hu Y)));clear back E J hu a7 az bm Y;refine Wq.seq (Wq.walk λt d Q hN _=>?_);have HN:cH _:=hN;clear hN;simp only[ad1,Tryz.f6,jF];go_wp2_with fail;refine HN.out _ _ (Wq.same (y:=w2) (λ_ _=>by rw[av,aw];rfl) (Wq.seq ?_));clear HN aw av s1 s2;rw[show(on w t d).heap.size=w.heap.size from rfl];have kc:=λt d=>um (w:=on w2 t d) ah;have ae:∀{u v:U} {t d},Below ↑u (on u t d) v->jL (λ_=>False) u v:=λ{u v t d} h=>(kV (w:=on u t d) h).heaps rfl rfl;refine Wq.walk λt d Q hN hR=>?_;have HN:cH _:=hN;have HR:cH _:=hR;clear hN hR;have z0:(on w2 t d).cell? ⟨↑w,0,Z⟩=M (N eA c.inbox):=kc t d 0;have z1:(on w2 t d).cell? ⟨↑w,1,Z⟩=M (N eA c.batcher):=kc t d 1;have z2:(on w2 t d).cell? ⟨↑w,2,Z⟩=M (N ab c.timeout):=kc t d 2;have z3:(on w2 t d).cell? ⟨↑w,3,Z⟩=M (N ab c.window):=kc t d 3;have z4:(on w2 t d).cell? ⟨↑w,4,Z⟩=M (N ab c.drift):=kc t d 4;have z5:(on w2 t d).cell? ⟨↑w,5,Z⟩=M (N ab c.step):=kc t d 5;have z6:(on w2 t d).cell? ⟨↑w,6,Z⟩=M (N ab c.most):=kc t d 6;have hC:=Hm.wX c (on w2 t d);clear kc;cases hcf:Dv.jK c with
 |false=>
  rw[hcf]at hC;have HC:cH _:=λ(_:Unit)=>hC;have Hf:cH _:=hcf;clear hC hcf;simp only[aaA,Tryz.f6];go_wp2_with (go_at_call 17;refine aT (HC.out ()) ?_;rintro e5 w5 ⟨rfl,aq⟩)
  obtain⟨back,E,J,hu,Y⟩:=H.out;exact HR.out _ _ λtodo=>back D _ w5 todo _ 1 rfl rfl (J 1 (by unfold newE;rw[ZD Hf.out]) D w5 ((kV Y).trans (ae aq) λ_ _ e=>e))
 |true=>
  rw[hcf]at hC;have HC:cH _:=λ(_:Unit)=>hC;have Hf:cH _:=hcf;clear hC hcf;simp only[aaA,Tryz.f6];go_wp2_with (go_at_call 17;refine aT (HC.out ()) ?_;rintro e5 w5 ⟨rfl,aq⟩)
  have ao:jL (λ_=>False) w2 w5:=ae aq;refine HN.out _ _ (Wq.seq (Wq.walk λt d Q hN hR=>?_));clear HN HR HC z0 z1 z2 z3 z4 z5 z6;have HN:cH _:=hN;have HR:cH _:=hR;clear hN hR;have af:=(ao.block _ (jE ah) λe=>e).trans ah;have ac:=(ao.block _ (jE au) λe=>e).trans au;obtain⟨y0,y1,y2,y3⟩:=cells4 (w:=on w5 t d) ac;have R:jL (λ_=>False) w w5:=(kV H.out.2.2.2.2).trans ao λ_ _ e=>e;have an:kW w5 u (.slice ta tn tc) (.slice la ln lc):=pV H.out.2.2.2.1 R λ_ _ e=>e;have hF:=Hm.first_any u _ _ (on w5 t d) (an.heap rfl);unfold Hm.Ku at hF;have HX:cH _:=jy af (jy ac (jy R an));clear af ac R an ao aq;cases z:Hm.mM u with
  |false=>
   rw[z]at hF;have HF:cH _:=λ(_:Unit)=>hF;have Hk:cH _:=z;clear hF z;simp only[ZF,Tryz.f6];go_wp2_with (go_at_call 18;refine aT (HF.out ()) ?_;rintro e6 w6 ⟨rfl,a2⟩)
   obtain⟨back,E,J,hu,Y⟩:=H.out;exact HR.out _ _ λtodo=>back D _ w6 todo _ 2 rfl rfl (J 2 (by unfold newE;rw[Zs (by rw[Hf.out];decide),ZD Hk.out]) D w6 (HX.out.2.2.1.trans (ae a2) λ_ _ e=>e))
  |true=>
   rw[z]at hF;have HF:cH _:=λ(_:Unit)=>hF;have Hk:cH _:=z;clear hF z;simp only[ZF,Tryz.f6];go_wp2_with (go_at_call 18;refine aT (HF.out ()) ?_;rintro e6 w6 ⟨rfl,a2⟩)
   refine HN.out _ _ (Wq.seq ?_);clear HN HR HF y0 y1 y2 y3;obtain⟨back,E,-,hu,-⟩:=H.out;obtain⟨af,ac,R,an⟩:=HX.out;have hcf:=Hf.out;have z:=Hk.out;have ag:jL (λ_=>False) w5 w6:=ae a2;have aa:=R.trans ag λ_ _ e=>e;have bz:=(ag.block _ (jE af) λe=>e).trans af;have bp:=(ag.block _ (jE ac) λe=>e).trans ac;have b1:kW w6 u (.slice ta tn tc) (.slice la ln lc):=pV hu aa λ_ _ e=>e
   have bq:Dv.small u=aR:=by
    unfold Hm.mM at z;simp only[dF]at z;exact z.2
   have bn:=hG.kept aa λ_ e=>e.elim;have s6:=aa.size;refine Wq.walk λt d Q hN _=>wp_mono (Hm.afe (w:=on w6 t d) (c:=c) (u:=u) (K:=λa' w'=>Q .normal a' w') rfl rfl rfl bz bp (b1.heap rfl) bq λtm w7 nk sb vb vt vl Wa m0 m6 a4 bg ap ba bs b8=>hN _ _ ?_) (rY λ_ _ e=>e);have am:jL (λ_=>False) w6 Wa:=ae bs;have bk:=bn.kept am λ_ e=>e.elim;obtain⟨b0,bo,ce⟩:=Kr (w:=Wa) (w':=tK c Wa) c [{ u with id:=1 }] bk.hd bk.gl rfl;have ar:=kV b8;have ak:=(am.trans bo λ_ _ e=>e).trans ar λ_ _ e=>e;have b2:=b0.still ar;have bd:=bn.kept ak λ_ e=>e.elim;have sa:=am.size;have s7:=ak.size;replace bg:w6.heap.size<=nk:=bg;replace ba:∀g,SO sb vb g->w6.heap.size<=g:=ba;refine Wq.seq (Wq.walk λt d Q a5 _=>Hm.ae2 (w:=on w7 t d) m0 m6 a4 (ap.kept (λ_ _=>rfl) (Ro.heap rfl)) bd.ev λtm w8 bx u' cf cc cg cj ca ck f n0 n6 n7 bu br hT=>a5 _ _ ?_);have I:jL (λ_=>False) w7 w8:=ae br;have s8:=I.size;have a3:=b2.still I;have ai:=(I.block _ (jE a4) λe=>e).trans a4
   have a8:tX w8 sb vb [({ u with id:=1 },vt,vl)] 1 0:=ap.kept (λg e=>I.block g (by
    obtain rfl|e:=e
    .exact ap.lt
    .exact ap.row.lt e) λe=>e) (Ro.of I)
   obtain⟨-,n,hn,hq⟩|⟨-,e⟩:=hT
   case inr=>simp at e
   obtain rfl:n=0:=aA
   simp only[dX,aK,dJ]at hq;obtain⟨rfl,rfl,rfl⟩:=hq;have b6:=a8.up _ dQ;refine Wq.seq (afR rd (c:=c) (chain:=[{ u with id:=1 }]) (j:=0) (v:=Vo ↑Wa) (y:=Zg ↑Wa) n0 rfl n6 n7 ai bu (by have:=bd.gl;omega) a3 (yJ z) hcf aC rfl b6 λa9 w9 D9 q0 qd q6 bv=>?_);obtain⟨v9,y9,com,ay,f1,f2,f3,f4,f5,aj,b4⟩:=bv;have s9:=aj.size;obtain⟨ci,cd⟩:=a9;dsimp only at q0 qd q6;subst qd;have b7:=(aj.block _ (jE ai) (a3.far ai aB)).trans ai
   have a1:1<=v9.com.length:=by
    have h1:=Z1 List.length (ay.rm.some aA).1;have h2:=(Dv.oI (yJ z) hcf 1 aC).some;have h3:=qn.2 h2;rw[bC,aS,f4]at h1;simp[Vo]at h1;omega
   refine Wq.seq (Wq.walk λt d Q a5 _=>Hm.ae3 (w:=on w9 t d) (v:=v9) q0 q6 (by rw[f1];exact b7) (lF.heap ay.vw rfl) a1 λtm w10 r0 r6 hL=>a5 _ _ ?_);obtain⟨bw,bj,g1,g2,g3,g4,a6,a0⟩:=VC.laid (ay.heap (w':=on w9 t d) rfl) hL;have bh:jL (VK v9 y9) w9 w10:=a6.heaps rfl rfl;have b9:∀g,VK bw y9 g->VK v9 y9 g\/w9.heap.size<=g:=a0;have bb:jL (VK (Vo ↑Wa) (Zg ↑Wa)) w8 w10:=aj.trans bh λg hg e=>(b4 g e).elim id λe=>aA
   have bl:∀g,VK (Vo ↑Wa) (Zg ↑Wa) g->w.heap.size<=g:=λg e=>by have:=adi e;omega
   obtain⟨p1,p2⟩:=NC.made (w:=w) hcf z ai a8 a3 bj (g1.trans f1) bb (by rw[g3,f4,aS,bK];simp[Vo];omega) (λg e=>by
    grind) hG.gl
   refine Wq.walk λt d Q _ hR=>Hm.agT r0 r6 λtm r4 r5=>hR _ _ λtodo=>Wq.same (y:=w10) (λ_ _=>rfl) (back D9 tm w10 todo _ 0 r4 r5 (E ?_ D9 w10 _ p1 ?_ p2))
   .unfold newE;rw[Zs (by rw[hcf];decide),Zs (by rw[z];decide)]
   .exact((aa.trans ak λ_ _ e=>e).trans I λ_ _ e=>e).trans bb λg hg e=>by have:=bl g e;omega
end
end
end Pa
namespace Hm
open Go.RowKit Go.Joins Go.Shelf
section
variable {Q:p9->Act->U->Prop}
noncomputable def RH:eE:=match Tryz.f5.body with
 |some (bR c _)=>c
 |_=>.skip
noncomputable def Ri:eE:=match Tryz.f5.body with
 |some (bR _ (bR c _))=>c
 |_=>.skip
noncomputable def QN:eE:=match Tryz.f5.body with
 |some (bR _ (bR _ (bR c _)))=>c
 |_=>.skip
noncomputable def ZQ:eE:=match Tryz.f5.body with
 |some (bR _ (bR _ (bR _ c)))=>c
 |_=>.skip
def XJ:Tryz.f5.body=M (bR RH (bR Ri (bR QN ZQ))):=XN
def afb{u0 u1 u4 u5 u6 u7 u8 u9 aj bm ah a0 bj a4 Y a9 aa af ak bp ae ac a3 I bk bl br J bq a2 bu av am ba bo aw a6 az bd a7 ap bh a8 bb a5 R ag ai ar ao E au bw a1 ay bs an bv aq bn bg:X}(g off cap:Nat){w:U}{xs:List X}(z:Row w 52 8 (aH (M ⟨g,off,Z⟩) 3 cap) 3 xs)(k1:xs[10]? =M (N ab 0))(k2:xs[9]? =M (N ab 2))(k3:xs[18]? =M (N ab 1))(k4:xs[19]? =M (N ab 6))(k5:xs[23]? =M (N ab 2))(va:Option eM)(vc:Nat)(k6:xs[22]? =M (.slice va 1 vc))(hQ:∀tm:Array X,tm[0]? =M (cK aR)->Q .ret ⟨tm,[]⟩ w):ZQ.wp PQ Q { tmps:=#[u0,u1,aH (M ⟨g,off,Z⟩) 3 cap,N ab 0,u4,u5,u6,u7,u8,u9,aj,bm,ah,a0,bj,a4,Y,a9,aa,af,ak,bp,ae,ac,a3,I,bk,bl,br,J,bq,a2,bu,av,am,ba,bo,aw,a6,az,bd,a7,ap,bh,a8,bb,a5,R,ag,ai,ar,ao,E,au,bw,a1,ay,bs,an,bv,aq,bn,bg],defers:=[] } w:=by
 have c1:=z.cell rfl _ _ k1;have c2:=z.cell rfl _ _ k2;have c3:=z.cell rfl _ _ k3;have c4:=z.cell rfl _ _ k4;have c5:=z.cell rfl _ _ k5;have c6:=z.cell rfl _ _ k6;have HQ:cH _:=hQ;clear hQ z k1 k2 k3 k4 k5 k6;simp only[ZQ,Tryz.f5];go_wp2_with fail;exact HQ _ rfl
def acM{w:U}(z:Q .normal { tmps:=#[cK aL,aE,aE,aE,aE,aE,aE,aE,aE,aE,aE,aE,aE,aE,aE,aE,aE,aE,aE,aE,aE,aE,aE,aE,aE,aE,aE,aE,aE,aE,aE,aE,aE,aE,aE,aE,aE,aE,aE,aE,aE,aE,aE,aE,aE,aE,aE,aE,aE,aE,aE,aE,aE,aE,aE,aE,aE,aE,aE,aE,aE,aE,aE],defers:=[] } w):RH.wp PQ Q { tmps:=#[aE,aE,aE,aE,aE,aE,aE,aE,aE,aE,aE,aE,aE,aE,aE,aE,aE,aE,aE,aE,aE,aE,aE,aE,aE,aE,aE,aE,aE,aE,aE,aE,aE,aE,aE,aE,aE,aE,aE,aE,aE,aE,aE,aE,aE,aE,aE,aE,aE,aE,aE,aE,aE,aE,aE,aE,aE,aE,aE,aE,aE,aE,aE],defers:=[] } w:=by simp only[RH,Tryz.f5];go_wp2_with fail;exact z
def adA{w:U}(z:Q .normal { tmps:=#[cK aL,aD (M ⟨↑w,0,Z⟩),aE,aE,fX #[N eA 0,N eA 0,N ab 1,N ab 1,N ab 100,N ab 2,N ab 100],aE,aE,aE,aE,aE,aE,aE,aE,aE,aE,aE,aE,aE,aE,aE,aE,aE,aE,aE,aE,aE,aE,aE,aE,aE,aE,aE,aE,aE,aE,aE,aE,aE,aE,aE,aE,aE,aE,aE,aE,aE,aE,aE,aE,aE,aE,aE,aE,aE,aE,aE,aE,aE,aE,aE,aE,aE,aE],defers:=[] } (w.alloc (aG #[N eA 0,N eA 0,N ab 1,N ab 1,N ab 100,N ab 2,N ab 100] 24))):Ri.wp PQ Q { tmps:=#[cK aL,aE,aE,aE,aE,aE,aE,aE,aE,aE,aE,aE,aE,aE,aE,aE,aE,aE,aE,aE,aE,aE,aE,aE,aE,aE,aE,aE,aE,aE,aE,aE,aE,aE,aE,aE,aE,aE,aE,aE,aE,aE,aE,aE,aE,aE,aE,aE,aE,aE,aE,aE,aE,aE,aE,aE,aE,aE,aE,aE,aE,aE,aE],defers:=[] } w:=by simp only[Ri,Tryz.f5];go_wp2_with fail;exact z
end
end Hm
namespace Pa
open Go Go.Conc Go.RowKit Go.Joins
open Hm (ptr kD jF jL kW oz PU jJ kQ RH Ri QN ZQ)
open Dv (X2 Cf)
open Po hiding X2 H B IT PR NB
section
def YF:Cf:={ inbox:=0,batcher:=0,timeout:=1,window:=1,drift:=100,step:=2,most:=100 }
def Un:List UInt8:=[194,7,128]
def afS:List X2:=[⟨5,0,[],[]⟩,⟨6,3,[],[Un]⟩,⟨7,6,[],[]⟩]
def V8:List Dv.Lo:=[⟨0,0,0,5,0,[],[],0⟩,⟨1,2,0,5,1,[],[],2⟩,⟨2,4,1,6,0,[],[Un],2⟩]
def aa0:Dv.all YF afS=(0,V8):=XN
noncomputable def opsL:Array ij:=match QN with
 |.region _ ops _=>ops
 |_=>#[]
def XZ:∃z,QN=.region z opsL aL:=⟨_,rfl⟩
def Qp:ir opsL.size=[0,1,2,3,4,5,6,7,8,9,10,11]:=XN
def QF{t:cG}{n:Nat}{z:X}(h:(PQ.info? t).map (λi=>(i.size,i.zero))=M (n,M z)):∃E,PQ.info? t=M E/\E.size=n/\E.zero=M z:=by
 cases I:PQ.info? t with
 |none=>rw[I]at h;cases h
 |some E=>
  grind
def Oi:∃z,PQ.info? 28=M z/\z.size=4/\z.zero=M (fX #[N ab 0,N ab 0,aH Z 0 0,aH Z 0 0]):=QF XN
def Ny:∃z,PQ.info? 9=M z/\z.size=1/\z.zero=M (bB ⟨#[]⟩):=QF XN
def bl7(w:U):(Instr.build 28 #[(0,N ab 5)]).run PQ w=.ok (fX #[N ab 5,N ab 0,aH Z 0 0,aH Z 0 0]) w:=run_build w _ _ _ XN
def bl9(w:U)(n:Nat):(Instr.build 28 #[(0,N ab 6),(1,N ab 3),(3,aH (M ⟨n,0,Z⟩) 1 1)]).run PQ w=.ok (fX #[N ab 6,N ab 3,aH Z 0 0,aH (M ⟨n,0,Z⟩) 1 1]) w:=run_build w _ _ _ XN
def agH(w:U):(Instr.build 28 #[(0,N ab 7),(1,N ab 6)]).run PQ w=.ok (fX #[N ab 7,N ab 6,aH Z 0 0,aH Z 0 0]) w:=run_build w _ _ _ XN
def Jd(n:Nat):Array X:=#[N ab 5,N ab 0,aH Z 0 0,aH Z 0 0,N ab 6,N ab 3,aH Z 0 0,aH (M ⟨n,0,Z⟩) 1 1,N ab 7,N ab 6,aH Z 0 0,aH Z 0 0]
def bs8(w:U):(lL 26 1 #[(0,bB ⟨#[194,7,128]⟩)]).run PQ w=.ok (aH (M ⟨↑w,0,Z⟩) 1 1) (w.alloc (aG #[bB ⟨#[194,7,128]⟩] 9)):=by obtain⟨z,E,h2,h3⟩:=Ny;exact run_buildSlice w _ _ 1 _ _ z _ (uq py) E h3 (by rw[h2];decide) (by rw[h2];decide) (by rw[h2];kernel_rfl)
def agJ(w:U)(n:Nat):(lL 35 3 #[(0,fX #[N ab 5,N ab 0,aH Z 0 0,aH Z 0 0]),(1,fX #[N ab 6,N ab 3,aH Z 0 0,aH (M ⟨n,0,Z⟩) 1 1]),(2,fX #[N ab 7,N ab 6,aH Z 0 0,aH Z 0 0])]).run PQ w=.ok (aH (M ⟨↑w,0,Z⟩) 3 3) (w.alloc (aG (Jd n) 28)):=by obtain⟨z,E,h2,h3⟩:=Oi;exact run_buildSlice w _ _ 3 _ _ z _ (uq lz) E h3 (by rw[h2];decide) (by rw[h2];decide) (by rw[h2];kernel_rfl)
def lv(n:Nat):X:=aH (M ⟨n,0,Z⟩) 1 1
def Kt(n:Nat):List PU:=[(⟨5,0,[],[]⟩,aH Z 0 0,aH Z 0 0),(⟨6,3,[],[Un]⟩,aH Z 0 0,lv n),(⟨7,6,[],[]⟩,aH Z 0 0,aH Z 0 0)]
def Vz(n:Nat):(Kt n).map cI=afS:=rfl
def vZ(w:U)(s:Nat):Hm.Rd w s (aH Z 0 0) 0 []:=⟨aC,Z,0,rfl,jB,λh=>Xs h aA⟩
def Zv{w:U}{n m:Nat}(E:w.heap[n]? =M (aG #[bB ⟨#[194,7,128]⟩] 9 (0,0)))(h2:w.heap[m]? =M (aG (Jd n) 28 (0,0))):oz w (aH (M ⟨m,0,Z⟩) (Kt n).length 3) (Kt n):=by
 have I:kW w ⟨5,0,[],[]⟩ (aH Z 0 0) (aH Z 0 0):=⟨vZ w 3,vZ w 1,aC,aC⟩
 have R:kW w ⟨7,6,[],[]⟩ (aH Z 0 0) (aH Z 0 0):=⟨vZ w 3,vZ w 1,aC,aC⟩
 have J:kW w ⟨6,3,[],[Un]⟩ (aH Z 0 0) (lv n):=by
  refine⟨vZ w 3,⟨rfl,_,1,rfl,jB,λ_=>⟨n,0,rfl,(jE E),λj u z=>?_⟩⟩,aC,aC⟩;rw[aI E,fJ]
  match j,z with
  |0,z=>exact z
  |j+1,z=>simp[Un]at z
 refine⟨⟨rfl,_,3,rfl,jB,λ_=>⟨m,0,rfl,(jE h2),λj u z=>?_⟩⟩,λp hp=>?_⟩
 .rw[aI h2,fJ];have:(Kt n).flatMap Hm.oq=(Jd n).toList:=rfl;rw[this,Array.getElem?_toList]at z;exact z
 .simp only[Kt,dD,mR,or_false]at hp;obtain rfl|rfl|rfl:=hp
  .exact I
  .exact J
  .exact R
section
variable {Post:vU}{D:Nat->Prop}{XX A:List cR}{w:U}
def YK(rd:Cr.ReadW){b₀:cR}{a₀:Act}{ops:Array ij}{i:Nat}{rest:List Nat}{k:List pS}{o:ij}{ap:Array cG}(ho:ops[i]? =M o)(hw:cP o (yielded ops a₀.tmps)=aR)(aq:o.op=.call { callee:=.value (.func 5),args:=#[],argTypes:=ap })(au:Tryz.prog.globals.size<=w.heap.size)(hH:qM w)(J:∀D' w',jL (λ_=>False) w w'->Wq D' Post XX (b₀.at (a₀.put o.dst (cK aR)) (bL ops rest::k)) A w'):Wq D Post XX (b₀.at a₀ (bL ops (i::rest)::k)) A w:=by
 refine Wq.call ho hw aq (fq Tryz.func5 rfl) rfl Hm.XJ ?_;simp only[fQ,fP,show Tryz.f5.ntmps=63 from rfl,dR,bY,Nat.sub_zero,dH,dG,dU,dI,dS,dN];refine Wq.seq (Wq.walk λt d Q hN _=>Hm.acM (hN _ _ (Wq.same (y:=w) (λ_ _=>rfl) ?_)));refine Wq.seq (Wq.walk λt d Q hN _=>Hm.adA (hN _ _ (Wq.same (y:=w.alloc (aG (jF YF) 24)) (λ_ _=>rfl) (Wq.seq ?_))));rw[show(on w t d).heap.size=w.heap.size from rfl];obtain⟨w2,ae,-,hb⟩:=jD w (jF YF) 24;have aj:jL (λ_=>False) w w2:=tJ (by rw[ae]);rw[<-ae];obtain⟨av,af⟩:=XZ;rw[af];refine Wq.region ?_;rw[Qp]
 refine Wq.qJ (.load 24 (cN 1)) (M 6) (.agg (jF YF)) w2 rfl (λt d o h=>by
  have c:=um (w:=on w2 t d) hb;have k0:=c 0;have k1:=c 1;have k2:=c 2;have k3:=c 3;have k4:=c 4;have k5:=c 5;have k6:=c 6;unfold bN;simp only[h];simp[go_sem,kp,k0,k1,k2,k3,k4,k5,k6,jF]) ?_
 refine Wq.qJ (.build 28 _) (M 7) (fX #[N ab 5,N ab 0,aH Z 0 0,aH Z 0 0]) w2 rfl (λt d o h=>by
  unfold bN;simp only[h,fQ,eP,fP,kp,iU,bl7,iq];rfl) ?_
 obtain⟨n,hn⟩:∃n,n=w2.heap.size:=⟨_,rfl⟩
 obtain⟨w3,R⟩:∃w3,w3=w2.alloc (aG #[bB ⟨#[194,7,128]⟩] 9):=⟨_,rfl⟩
 refine Wq.qJ (.buildSlice 26 1 _) (M 8) (lv n) w3 rfl (λt d o h=>by
  unfold bN;simp only[h,fQ,eP,fP,kp,iU,bs8,iq];rw[R,hn];rfl) ?_
 have ak:jL (λ_=>False) w2 w3:=tJ (by rw[R]);have n3:w3.heap[n]? =M (aG #[bB ⟨#[194,7,128]⟩] 9 (0,0)):=by rw[R,hn];exact cT _ _
 simp only[dC,bQ,dP,dO]
 refine Wq.qJ (.build 28 #[(0,.const _),(1,.const _),(3,cN 8)]) (M 9) (fX #[N ab 6,N ab 3,aH Z 0 0,aH (M ⟨n,0,Z⟩) 1 1]) w3 rfl (λt d o h=>by
  unfold bN;simp only[h,fQ,eP,fP,kp,fD,eX,eU,dX,fH,lv,iU,bl9,iq];rfl) ?_
 refine Wq.qJ (.build 28 _) (M 10) (fX #[N ab 7,N ab 6,aH Z 0 0,aH Z 0 0]) w3 rfl (λt d o h=>by
  unfold bN;simp only[h,fQ,eP,fP,kp,iU,agH,iq];rfl) ?_
 simp only[dC,bQ,dP,dO];obtain⟨w4,aa,-,m4⟩:=jD w3 (Jd n) 28
 refine Wq.qJ (.buildSlice 35 3 #[(0,cN 7),(1,cN 9),(2,cN 10)]) (M 11) (aH (M ⟨↑w3,0,Z⟩) (Kt n).length 3) w4 rfl (λt d o h=>by
  unfold bN;simp only[h,fQ,eP,fP,kp,fD,eX,eU,dX,fH,iU,agJ,iq];rw[aa];rfl) ?_
 have ah:jL (λ_=>False) w3 w4:=tJ (by rw[aa]);have n4:=(ah.block _ (jE n3) (λe=>e)).trans n3;have z:=(aj.trans ak (λ_ _ e=>e)).trans ah (λ_ _ e=>e);have s4:=z.size;simp only[dC,bQ,dP,dO];obtain⟨x6,am,an,ai,ao⟩:∃o,opsL[6]? =M o/\o.op=.call { callee:=.value (.func 15),args:=#[cN 6,cN 11],argTypes:=#[24,35] }/\o.dst=M 12/\o.guard=Z:=⟨_,rfl,rfl,rfl,rfl⟩
 refine acv rd (c:=YF) (ps:=Kt n) am (Cr.jY ao) an rfl rfl aA (Zv n4 m4) (by simp[Kt]) (hH.kept z) ?_;intro D5 Y va pl I ac E ar;rw[Vz,aa0]at E⊢;rw[ai];simp only[dC,bQ,dP,dO];refine Wq.qJ (.move (cN 12)) (M 5) (cQ #[va,N ab 0]) Y rfl (λt d o h=>by unfold bN;simp only[h];rfl) ?_;simp only[dC,bQ,dP,dO];refine Wq.qJ (.extract (cN 5) 0) (M 13) va Y rfl (λt d o h=>by unfold bN;simp only[h];rfl) ?_;simp only[dC,bQ,dP,dO];refine Wq.qJ (.extract (cN 5) 1) (M 14) (N ab 0) Y rfl (λt d o h=>by unfold bN;simp only[h];rfl) ?_;simp only[dC,bQ,dP,dO];refine Wq.qJ (.assign (cN 13)) (M 2) va Y rfl (λt d o h=>by unfold bN;simp only[h];rfl) ?_;simp only[dC,bQ,dP,dO];refine Wq.qJ (.assign (cN 14)) (M 3) (N ab 0) Y rfl (λt d o h=>by unfold bN;simp only[h];rfl) ?_;simp only[dC,bQ,dP,dO];refine Wq.done ?_
 obtain⟨p0,p1,p2,rfl,e0,e1,e2⟩:∃p0 p1 p2,pl=[p0,p1,p2]/\p0.1=(⟨0,0,0,5,0,[],[],0⟩:Dv.Lo)/\p1.1=(⟨1,2,0,5,1,[],[],2⟩:Dv.Lo)/\p2.1=(⟨2,4,1,6,0,[],[Un],2⟩:Dv.Lo):=by
  match pl,E with
  |[],h=>cases h
  |[_],h=>simp[V8]at h
  |[_,_],h=>simp[V8]at h
  |[p0,p1,p2],h=>
   simp only[eP,fP,V8,List.cons.injEq,and_true]at h;exact⟨p0,p1,p2,rfl,h.1,h.2.1,h.2.2⟩
  |_::_::_::_::_,h=>simp[V8]at h
 obtain⟨g,off,cap,rfl,_⟩:=I.pos aC;obtain⟨sa,sc,ag⟩:=(ac p2 aC).2.slice;rw[e2]at ag;refine Wq.walk λt d Q _ hR=>Hm.afb g off cap (I.kept λ_ _=>rfl) ?_ ?_ ?_ ?_ ?_ sa sc ?_ (λtm h=>hR _ _ λtodo=>?_)
 .simp[jJ,e1]
 .simp[jJ,e1]
 .simp[jJ,e2]
 .simp[jJ,e2]
 .simp[jJ,e2]
 .simp[jJ,ag]
 refine Wq.leave (v:=cK aR) (fn:=Tryz.f5) rfl rfl rfl (fq Tryz.func5 rfl) (λw=>by
  have:=h;simp[results,Tryz.results5,go_sem,Frame.at,this]) ?_
 rw[fO,ho];exact Wq.same (y:=Y) (λ_ _=>rfl) (J D5 Y (z.trans ar (λ_ _ e=>e)))
end
end
open Hm (ptr jF TS jL jI kW PU PL Vw lF VO Ro Nd lX NO SO LJ pk)
open Dv (X2 Cf Ch)
def Rq{w0:U}{u:X2}{vt vl:X}(E:kW w0 u vt vl){g:Nat}(I:↑w0<=g):(0<u.txs.length->vt.ownBlock≠M g)/\(0<u.logs.length->vl.ownBlock≠M g):=by
 refine⟨λz e=>?_,λz e=>?_⟩
 .have:=Rj E.1 z e;omega
 .have:=Rj E.2.1 z e;omega
end Pa
namespace Hm
open Go.RowKit Go.Joins Go.Shelf
open Fr (below_drewN)
open Dv (Lo X2 Cf)
section
noncomputable def Tc:eE:=cp [1,2,0] xk
noncomputable def La:eE:=cp [1,2,1,0] xk
noncomputable def RQ:eE:=cp [1,2,1,1,0] xk
noncomputable def TK:eE:=cp [1,2,1,1,1,0] xk
noncomputable def tuX:eE:=cp [1,2,1,1,1,1,2] xk
def agb:∃B,xk=bR FZ (.cond (cN 64) (bR Tc (bR La (bR RQ (bR TK (.cond (cN 88) tuX .skip))))) B):=⟨_,rfl⟩
section
variable {tm:Array X}{w:U}{sc vch:X}{cb nk i ub:Nat}{Q:p9->Act->U->Prop}
def adx{g off cap m:Nat}{t z:Int}{K:Act->U->Prop}(h:US tm sc cb nk (aH (M ⟨g,off,Z⟩) (m+1) cap) i)(E:tm[13]? =M (aD (M ⟨ub,0,Z⟩)))(hn:m+1<=60)(kt:w.cell? ⟨g,off+m*4+1,Z⟩=M (N ab t))(ku:w.cell? ⟨ub,1,Z⟩=M (N ab z))(fz:∀j,w.frozen? ⟨ub,j,Z⟩=aL)(ht:0<=t)(af:t<=1099511627776)(Y:-9223372036854775808<=z)(h2:z<=9223372036854775807)(I:∀(tm:Array X) w',US tm sc cb nk (aH (M ⟨g,off,Z⟩) (m+1) cap) i->tm[13]? =M (aD (M ⟨ub,0,Z⟩))->w'.heap=(w.setCell ⟨ub,1,Z⟩ (N ab (t+1+pk z 24))).heap->K ⟨tm,[]⟩ w'):La.wp PQ (Exit.then K λ_ _ _=>False) ⟨tm,[]⟩ w:=by
 obtain⟨hs,t2,t3,t8,t10,t11⟩:=h;obtain⟨l,rfl,hs⟩:=jZ hs
 iterate 161 (obtain⟨_,l,rfl,R⟩:=jV hs;clear hs;have hs:=R;clear R)
 obtain rfl:=cJ.1 hs;clear hs;simp only[eX,eU,dX,aK]at t2 t3 t8 t10 t11 E;subst t2 t3 t8 t10 t11 E;have J:=λW=>pick_any z 24 W aA aA Y h2;have hp:=Rh (c:=z) (n:=24) aA;generalize pk z 24=q at J hp I;have ae:IntKind.i64.wrap (m:Int)=(m:Int):=by rw[eT];omega
 have aa:(0:Int)<=(m:Int):=aA
 have ac:(m:Int)<(m:Int)+1:=aA
 have HP:cH _:=J;have HK:cH _:=I;have HW:cH (IntKind.i64.wrap (IntKind.i64.wrap (t+1)+q)=t+1+q):=by show _=_;rw[eT,eT];omega
 clear J I Y h2;simp only[La,xk,Af,vF,cp,eZ];go_region_with (go_at_call 7;refine aT (HP.out _) ?_;rintro e w1 ⟨rfl,rfl⟩)
 all_goals exact HK.out _ _ ⟨rfl,rfl,rfl,rfl,rfl,rfl⟩ rfl (by rw[HW.out];rfl)
def bsU(w:U)(x t:Int)(ta la:Option eM)(tn tc R J:Nat):(lL 35 1 #[(0,fX #[N ab x,N ab t,.slice ta tn tc,.slice la R J])]).run PQ w=.ok (aH (M ⟨↑w,0,Z⟩) 1 1) (w.alloc (aG #[N ab x,N ab t,.slice ta tn tc,.slice la R J] 28)):=by obtain⟨i0,I,E,z,Y⟩:=pa aaI;exact run_buildSlice w _ _ 1 _ _ i0 _ (uq lz) I E (by rw[z];decide) (by rw[z];decide) (by rw[z];kernel_rfl)
def ahp{n:Nat}{xs:List X}{x0 x t:Int}{ta la:Option eM}{tn tc ln lc:Nat}(h:US tm sc cb nk vch i)(ag:tm[13]? =M (aD (M ⟨ub,0,Z⟩)))(t14:tm[14]? =M (N ab x))(aa:w.heap[ub]? =M (aG #[N ab x0,N ab t,.slice ta tn tc,.slice la ln lc] 28 (0,0)))(hr:Row w 28 4 vch n xs)(hn:0<n)(ay:n<=60)(af:vch.ownBlock≠M ub)(h1:∀u,u∈xs->u.oneCell'=aR)(hN:∀(tm:Array X) w' vch',US tm sc cb nk vch' i->Row w' 28 4 vch' (n+1) (xs++[N ab x,N ab t,.slice ta tn tc,.slice la ln lc])->jI (λk=>k=ub) w w'->(∀g,vch'.ownBlock=M g->w.heap.size<=g)->Q .normal ⟨tm,[]⟩ w'):tuX.wp PQ Q ⟨tm,[]⟩ w:=by
 obtain⟨hs,t2,t3,t8,t10,t11⟩:=h;obtain⟨l,rfl,hs⟩:=jZ hs
 iterate 161 (obtain⟨_,l,rfl,h'⟩:=jV hs;clear hs;have hs:=h';clear h')
 obtain rfl:=cJ.1 hs;clear hs;simp only[eX,eU,dX,aK]at t2 t3 t8 t10 t11 ag t14;subst t2 t3 t8 t10 t11 ag t14;obtain⟨g,off,cap,rfl,hc⟩:=hr.pos hn;obtain⟨k0,k1,k2,k3⟩:=cells4 aa;have fz:=aQ aa;obtain⟨i0,ao,ai,ap,am⟩:=pa aaI;obtain⟨W,hW⟩:∃W,W=w.setCell ⟨ub,0,Z⟩ (N ab x):=⟨_,rfl⟩
 have ac:jI (λk=>k=ub) w W:=by rw[hW];exact .set w ub 0 _
 have ae:=hr.jM ac λg hg e=>af (by rw[hg,e]);have aq:W.heap[ub]? =M (aG #[N ab x,N ab t,.slice ta tn tc,.slice la ln lc] 28 (0,0)):=by rw[hW,block_setCell aa];rfl
 have ah:∀j u,xs[j]? =M u->W.cell? ((⟨g,off,Z⟩:eM).add j)=M u:=λj u z=>by
  have:=ae.cell rfl j u z;unfold jp;split
  .rename_i h0;subst h0;exact this
  .exact this
 have key:∀(v:X)(g5:Nat)(A B:U),Grew v g5 A B->v.ownBlock≠M ub->A.heap[ub]? =M (aG #[N ab x,N ab t,.slice ta tn tc,.slice la ln lc] 28 (0,0))->B.heap[ub]? =M (aG #[N ab x,N ab t,.slice ta tn tc,.slice la ln lc] 28 (0,0)):=λv g5 A B hg hv hA=>(hg.jM.block ub (jE hA) hv).trans hA;have aw:=λV=>bsU V x t ta la tn tc ln lc;have H:cH _:=jy ae (jy aq (jy ah (jy key (jy ac (jy h1 hN)))));have Hi:cH _:=jy ao (jy ai (jy ap am));clear hr aa ae aq ah key ac h1 hN ao ai ap am af;simp only[tuX,xk,Af,vF,cp,eZ]
 go_wp2_with (first
  |(at_builtin;rw[<-hW];refine kX _ rfl (cN 91) (cN 92) 35 rfl 28 i0 _ 4 64 (uq lz) Hi.out.1 Hi.out.2.1 Hi.out.2.2.1 Hi.out.2.2.2 rfl aB (aH Z 0 0) 0 [] rfl (Row.nil _ _ _) ⟨g,off,Z⟩ n cap xs rfl aA H.out.1.1 H.out.2.2.1 H.out.2.2.2.2.2.1 (by unfold maxLen;omega) aA ?_;intro g5 ak an w5 R I;obtain⟨m0,m1,m2,m3⟩:=cells4 (H.out.2.2.2.1 _ _ _ _ I (by simp[cV]) H.out.2.1);rw[fJ,dS]at R;have H5:cH _:=jy R I;clear R I)
  |(at_builtin;refine kX _ rfl (cN 94) (cN 96) 35 rfl 28 i0 _ 4 64 (uq lz) Hi.out.1 Hi.out.2.1 Hi.out.2.2.1 Hi.out.2.2.2 rfl aB (aH (M ⟨g5,ak,Z⟩) n an) n xs rfl (H5.out.1.below ((aJ _ w5).alloc jB _)) ⟨↑w5,0,Z⟩ 1 1 [N ab x,N ab t,.slice ta tn tc,.slice la ln lc] rfl aA rfl (by intro j u z;match j,z with|0,z=>(simp at z;subst z;simp[jp])|1,z=>(simp at z;subst z;simp[jp])|2,z=>(simp at z;subst z;simp[jp])|3,z=>(simp at z;subst z;simp[jp])) (by intro u hu;simp at hu;rcases hu with rfl|rfl|rfl|rfl<;>rfl) (by unfold maxLen;omega) aA ?_;intro g6 av au w6 J E;have H6:cH _:=jy J E;clear J E)
  |go_in)
 obtain⟨R,I⟩:=H5.out;obtain⟨J,E⟩:=H6.out;have c5:jI (λk=>k=ub) w w5:=H.out.2.2.2.2.1.trans (I.jM.mono λk _ e=>by simp[cV]at e) λ_ _ e=>e;obtain⟨Y,hY,aj,-⟩:=jD w5 #[N ab x,N ab t,.slice ta tn tc,.slice la ln lc] 28;rw[<-hY]at E;have s5:=c5.size;have sY:=aj.size
 have o5:↑w<=g5:=by
  obtain e|e:=I.own
  .simp[cV]at e
  .have:=H.out.2.2.2.2.1.size;omega
 have c6:jI (λk=>k=ub) w w6:=(c5.trans (.below aj jB _) λ_ _ e=>e).trans E.jM λk hk e=>by
  simp[cV]at e;omega
 refine H.out.2.2.2.2.2.2 _ w6 _ ⟨rfl,rfl,rfl,rfl,rfl,rfl⟩ J c6 λg' ar=>?_;have e:g6=g':=by simpa[cV]using ar
 subst e;obtain e|e:=E.own
 .simp[cV]at e;omega
 .omega
end
end
end Hm
namespace Pa
open Go Go.Conc Go.RowKit Go.Joins
open Hm (ptr jL jI kW oz PU Vw lF Ro Nd lX NO SO tX mY wF U9 Yy oq US LJ pk)
open Dv (X2 Cf)
open Po hiding X2 H B IT PR NB
section
variable {vt vl vch':X}{cs:Array X}{s':Nv}{p':Nn}
section
variable {c:Cf}{chain:List X2}{s:Nv}{p:Nn}{w w':U}
def af2(c:Cf)(chain:List X2)(s:Nv)(p:Nn)(u:X2)(w:U)(i1 i2:Int)(w':U):Prop:=
 (i2=0/\i1=((s.last+1:Nat):Int)/\chain.length<60/\∃p',NT c (chain++[{ u with id:=i1 }]) { s with last:=s.last+1 } p' w'/\p'.x.nk=p.x.nk/\jL (NK p) w w'/\∀g,NK p' g->NK p g\/w.heap.size<=g)\/(i2≠0/\jL (λ_=>False) w w')
def NT.extend(h:NT c chain s p w){u:X2}(hu:kW w u vt vl)(Y:(0<u.txs.length->vt.ownBlock≠M p.x.sb)/\(0<u.logs.length->vl.ownBlock≠M p.x.sb))(af:s.last<1099511627776):dE PQ 8 #[aD (M ⟨p.x.nk,0,Z⟩),fX #[N ab u.id,N ab u.time,vt,vl]] w λe w'=>∃i1 i2,e=bO (cQ #[N ab i1,N ab i2])/\af2 c chain s p u w i1 i2 w':=by
 have ag:=(Dv.jW h.np.hc).2.1;have h1:=(Dv.jW h.np.hc).1;have R:=h.nb.len;obtain⟨q,hq⟩:∃q,p.x.ps[p.x.ps.length-1]? =M q:=⟨_,aO aA⟩
 have J:q.1.time=CJ chain:=by
  unfold CJ;rw[<-R,h.nb.up hq]
 have ht:=Dv.Gi h.np.hc (show chain.length-1<chain.length by omega);refine(Hm.Lc (x:=p.x) u vt vl h.nb.nd hu Y (by rw[h.last];exact af) hq (by rw[J];unfold CJ;omega)).mono λe w' z=>?_;rw[J]at z;unfold wF at z;rw[R]at z;by_cases hf:60<=chain.length
 .rw[ZD hf]at z;exact⟨_,_,z.1,cD ⟨aB,kV z.2⟩⟩
 .rw[Zs hf]at z;by_cases E:mY (CJ chain) u=aR
  .rw[ZD E]at z;unfold U9 at z;obtain⟨he,ai,aj,ah,hS,ac,I⟩:=z;rw[h.last]at he hS;have ae:mY (CJ chain) { u with id:=((s.last+1:Nat):Int) }=aR:=E;have aa:=IZ h.np.hc aA ae;exact⟨_,_,he,bE ⟨rfl,rfl,aA,h.afh hS ac I (by rw[bJ,h.nb.ps];rfl) (h.np.more rfl aa) rfl rfl rfl rfl rfl⟩⟩
  .rw[Zs E]at z;exact⟨_,_,z.1,cD ⟨aB,kV z.2⟩⟩
def NT.turn(h:NT c chain s p w){d:Nat}(hd:d<chain.length):dE PQ 9 #[aD (M ⟨p.x.nk,0,Z⟩),N ab d] w λe w'=>e=bO (N ab 0)/\∃p',NT c (chain.take (chain.length-d)) { s with m:=min s.m (chain.length-d) } p' w'/\p'.x.nk=p.x.nk/\jL (NK p) w w'/\∀g,NK p' g->NK p g\/w.heap.size<=g:=by
 have E:=h.nb.len;refine(Hm.VI d h.nb.nd aA).mono λe w' ⟨J,R,I,z,hc⟩=>⟨J,?_⟩
 rw[E]at I;exact h.afh I hc (λg Y=>bE (by rw[<-z];exact Y)) (by rw[List.map_take,h.nb.ps]) (h.np.less aA aA) rfl rfl rfl rfl h.last.symm
end
def NT.far{c:Cf}{chain:List X2}{s:Nv}{p:Nn}{w:U}(h:NT c chain s p w){g:Nat}{t:cG}{I:Nat×Nat}(E:w.heap[g]? =M (aG cs t I))(ht:t=37\/t=24):¬NK p g:=by
 rintro(e|e)
 .obtain⟨cs',R,J,q,z⟩:=NO.types (h:=h.nb.nd) e;rw[E]at q;simp only[aK,qb]at q;rw[<-q.2.1]at z;rcases ht with rfl|rfl<;>exact Xs z aB
 .exact TS.zn h.nb.vc.ts E (by grind) (by grind) (by grind) (by grind) (by grind) e
structure TI(cb:Nat)(w0:U)(te:cG)(xe:X)(c:Cf)(chain:List X2)(s:Nv)(p:Nn)(ps:List PU)(vch:X)(w:U):Prop where
 nt:NT c chain s p w
 row:Hm.Row w 28 4 vch ps.length (ps.flatMap oq)
 up:∀q,q∈ps->kW w0 q.1 q.2.1 q.2.2
 eq:ps.map cI=chain
 far:∀g,vch.ownBlock=M g->¬NK p g/\w0.heap.size<=g
 low:∀g,NK p g->w0.heap.size<=g
 glo:Oo w te xe
 jM:jL (λ_=>False) w0 w
 cfg:w.heap[cb]? =M (aG (Hm.jF c) 24 (0,0))
section
variable {cb:Nat}{w0 w w':U}{te:cG}{xe:X}{c:Cf}{chain:List X2}{s:Nv}{p:Nn}{ps:List PU}{vch:X}
def TI.still(h:TI cb w0 te xe c chain s p ps vch w)(hc:jL (λ_=>False) w w'):TI cb w0 te xe c chain s p ps vch w':=⟨h.nt.still hc,h.row.kept λg z=>hc.block g (h.row.lt z) (λe=>e),h.up,h.eq,h.far,h.low,h.glo.kept hc λ_ e=>e.elim,h.jM.trans hc λ_ _ e=>e,(hc.block _ (jE h.cfg) λe=>e).trans h.cfg⟩
def TI.heap(h:TI cb w0 te xe c chain s p ps vch w)(q:w'.heap=w.heap):TI cb w0 te xe c chain s p ps vch w':=h.still (Ie q)
def TI.moved(h:TI cb w0 te xe c chain s p ps vch w){z:List X2}{E:List PU}(hn:NT c z s' p' w')(hc:jL (NK p) w w')(ho:∀g,NK p' g->NK p g\/w.heap.size<=g)(hr:Hm.Row w' 28 4 vch' E.length (E.flatMap oq))(R:vch'.ownBlock=vch.ownBlock)(hu:∀q,q∈E->q∈ps)(Y:E.map cI=z):TI cb w0 te xe c z s' p' E vch' w':=by
 have s0:=h.jM.size;refine⟨hn,hr,λq J=>h.up q (hu q J),Y,λg I=>?_,λg I=>(ho g I).elim (h.low g) (bH s0),h.glo.kept hc h.nt.nb.low,h.jM.trans hc λg I e=>by have:=h.low g e;omega,(hc.block _ (jE h.cfg) (h.nt.far h.cfg (cD rfl))).trans h.cfg⟩;rw[R]at I;refine⟨λe=>?_,(h.far g I).2⟩;obtain e|e:=ho g e
 .exact(h.far g I).1 e
 .have:=h.row.lt I;omega
def TI.step(h:TI cb w0 te xe c chain s p ps vch w)(E:NT c chain s' p' w')(hc:jL (NK p) w w')(ho:∀g,NK p' g->NK p g\/w.heap.size<=g):TI cb w0 te xe c chain s' p' ps vch w':=h.moved E hc ho (h.row.kept λg z=>hc.block g (h.row.lt z) (h.far g z).1) rfl (λ_ e=>e) h.eq
def TI.len(h:TI cb w0 te xe c chain s p ps vch w):ps.length=chain.length:=by rw[<-h.eq,bC]
def TI.one(h:TI cb w0 te xe c chain s p ps vch w):∀u,u∈ps.flatMap oq->u.oneCell'=aR:=λu z=>by
 obtain⟨q,E,z⟩:=p7.1 z;obtain⟨ta,tc,I⟩:=Hm.Rd.slice (h.up q E).1;obtain⟨la,R,J⟩:=Hm.Rd.slice (h.up q E).2.1;simp only[oq,dD,mR,or_false]at z;obtain rfl|rfl|rfl|rfl:=z
 .rfl
 .rfl
 .rw[I];rfl
 .rw[J];rfl
def TI.more(h:TI cb w0 te xe c chain s p ps vch w){u:X2}(Y:kW w0 u vt vl){x:Int}{w2:U}{ub:Nat}(ae:↑w<=ub)(hx:w'.heap[ub]? =M (aG cs 28 (0,0)))(I:NT c (chain++[{ u with id:=x }]) s' p' w')(hc:jL (NK p) w w')(ho:∀g,NK p' g->NK p g\/w.heap.size<=g)(ac:¬NK p' ub)(hr:Hm.Row w2 28 4 vch' (ps.length+1) (ps.flatMap oq++[N ab x,N ab u.time,vt,vl]))(E:jL (λk=>k=ub) w' w2)(hv:∀g,vch'.ownBlock=M g->w'.heap.size<=g):TI cb w0 te xe c (chain++[{ u with id:=x }]) s' p' (ps++[({ u with id:=x },vt,vl)]) vch' w2:=by
 have s0:=h.jM.size;have s1:=hc.size;have J:=(jE h.cfg)
 have R:Ro w' w2:=λg cs t fz z ht=>E.block g (jE z) λe=>?_
 .have aa:=I.nb.kept (w':=w2) (λg z=>E.block g (I.nb.lt z) λe=>ac (by rw[<-e];exact z)) R (E.block _ I.nb.vc.ts.hd.pos λe=>by
   have:=h.glo.gl;have:1<Tryz.prog.globals.size:=Z2 XN;omega)
  refine⟨⟨aa,I.np,I.last,I.sil,I.rs⟩,?_,λq hq=>?_,?_,λg z=>⟨λe=>?_,?_⟩,λg z=>(ho g z).elim (h.low g) (bH s0),(h.glo.kept hc h.nt.nb.low).kept E λg e=>by have:=h.glo.gl;omega,(h.jM.trans hc λg z e=>by have:=h.low g e;omega).trans E λg z e=>aA,(E.block _ (aP J s1) λe=>aA).trans ((hc.block _ J (h.nt.far h.cfg (cD rfl))).trans h.cfg)⟩
  .rw[aS,iF,iw,List.flatMap_singleton];exact hr
  .obtain q|q:=dM.1 hq
   .exact h.up _ q
   .rw[dK]at q;subst q;exact⟨Y.1,Y.2.1,Y.2.2⟩
  .rw[bJ,h.eq];rfl
  .have:=hv g z;have:=I.nb.lt e;omega
  .have:=hv g z;omega
 .rw[e,hx]at z;simp only[aK,qb]at z;rcases ht with e|e<;>rw[<-z.2.1]at e<;>exact Xs e aB
end
end
open Hm (ptr jL jI kW oz PU Vw lF Ro Nd lX NO SO tX oq US LJ pk cp vF Af xk Ud Q8 KZ Q7 Q9 FZ Tc La RQ TK OG Va OH QL RS QW tuX)
section
section
variable {Post:vU}{D:Nat->Prop}{XX A:List cR}{b:cR}{k:List pS}{w0 w:U}{te:cG}{xe:X}{sc vch:X}{i ob cb nk:Nat}{op:LJ}{ta la:Option eM}{tn tc ln lc:Nat}{c:Cf}{chain:List X2}{s:Nv}{p:Nn}{ps:List PU}{tm:Array X}
def abr(rd:Cr.ReadW){X1:Nat}{cs:Array X}(R:X1<=30)(ae:pk op.n 30=X1)(h1:-9223372036854775808<=op.n)(h2:op.n<=9223372036854775807)(af:cs[1]? =M (N ab op.n)){L:Nat}(Y:∀D' w' ag s' p',TI cb w0 te xe c chain s' p' ps vch w'->s'.last=L->p'.x.nk=nk->US ag sc cb nk vch i->Wq D' Post XX (b.at ⟨ag,[]⟩ k) A w'):∀r m,m+r=X1+1->∀D w tm s p,TI cb w0 te xe c chain s p ps vch w->s.last=L->p.x.nk=nk->US tm sc cb nk vch i->tm[12]? =M (ptr ob)->tm[19]? =M (N ab m)->w.heap[ob]? =M (aG cs 37 (0,0))->Wq D Post XX (b.at ⟨tm,[]⟩ (.code Ud::.inLoop Ud::.inBlock 3::k)) A w:=by
 have hP:=λW=>Hm.pick_any op.n 30 W aA aA h1 h2;rw[ae]at hP;have H:cH _:=jy Y (jy R (jy ae af));have HP:cH _:=hP;clear Y R ae hP h1 h2;intro r
 induction r with
 |zero=>
  intro m hm D w tm s p J E ea hS t12 t19 z;obtain⟨hs,t2,t3,t8,t10,t11⟩:=hS;obtain⟨l,rfl,hs⟩:=Hm.jZ hs
  iterate 161 (obtain⟨_,l,rfl,h'⟩:=Hm.jV hs;clear hs;have hs:=h';clear h')
  obtain rfl:=cJ.1 hs;clear hs;simp only[eX,eU,dX,aK]at t2 t3 t8 t10 t11 t12 t19;subst t2 t3 t8 t10 t11 t12 t19;have HF:cH _:=jy J (jy ea (jy hm E));rw[show ly Ud=ly _ from by rw[Hm.afX]];refine Wq.seq (Wq.seq (Wq.walk λt d Q R _=>?_));have k1:(on w t d).cell? ⟨ob,1,Z⟩=M (N ab op.n):=(aI (show(on w t d).heap[ob]? =_ from z) 1).trans H.out.2.2.2;have HN:cH _:=R;clear R J ea hm z af E;simp only[KZ,Ud,xk,Af,vF,cp,eZ,ptr];go_wp2_with (go_at_call 7;refine aT (HP.out _) ?_;rintro e w1 ⟨rfl,rfl⟩)
  obtain⟨J,ea,hm,E⟩:=HF.out;refine HN.out _ _ (Wq.same (y:=w) (λ_ _=>rfl) (Wq.cond (t:=decide (m<=X1)) (by simp[kp]) ?_));rw[ZZ aA,Zs aB];exact Wq.exit (k':=k) rfl (H.out.1 D w _ s p J E ea ⟨rfl,rfl,rfl,rfl,rfl,rfl⟩)
 |succ r ih=>
  intro m hm D w tm s p J E ea hS t12 t19 z;obtain⟨hs,t2,t3,t8,t10,t11⟩:=hS;obtain⟨l,rfl,hs⟩:=Hm.jZ hs
  iterate 161 (obtain⟨_,l,rfl,h'⟩:=Hm.jV hs;clear hs;have hs:=h';clear h')
  obtain rfl:=cJ.1 hs;clear hs;simp only[eX,eU,dX,aK]at t2 t3 t8 t10 t11 t12 t19;subst t2 t3 t8 t10 t11 t12 t19;have HF:cH _:=jy J (jy ea (jy hm (jy z (jy ih E))));rw[show ly Ud=ly _ from by rw[Hm.afX]];refine Wq.seq (Wq.seq (Wq.walk λt d Q R _=>?_));have k1:(on w t d).cell? ⟨ob,1,Z⟩=M (N ab op.n):=(aI (show(on w t d).heap[ob]? =_ from z) 1).trans H.out.2.2.2;have HN:cH _:=R;clear R J ea hm z af ih E;simp only[KZ,Ud,xk,Af,vF,cp,eZ,ptr];go_wp2_with (go_at_call 7;refine aT (HP.out _) ?_;rintro e w1 ⟨rfl,rfl⟩)
  obtain⟨J,ea,hm,z,ih,E⟩:=HF.out;refine HN.out _ _ (Wq.same (y:=w) (λ_ _=>rfl) (Wq.cond (t:=decide (m<=X1)) (by simp[kp]) ?_));clear HN k1;rw[Z0 aA,ZD rfl];subst ea;refine Wq.skip (Wq.seq (Wq.block (acY rd Q9 2 8 62 63 ⟨_,rfl⟩ XN rfl XN XN rfl aC J.glo J.nt λD2 w2 p2 s2 V m1 ms m2 m3 m4=>?_)));simp only[bQ,dP,dO];refine Wq.done (Wq.inBlock (Wq.walk λt d Q R _=>?_));have ac:=J.step m1 m3 m4;have I:=(m3.block _ (jE z) (J.nt.far z (bE rfl))).trans z;have aa:s2.last=L:=(ms.elim (λe=>e.2.2.2.2) λe=>e.2.2).trans E;have ai:(m:Int)<=30:=by have:=H.out.2.1;omega
  have HN:cH _:=R;have ah:cH _:=jy ac (jy I (jy aa (jy m2 hm)));clear R ac I aa J m1 ms m2 m3 m4 z hm E;simp only[Q7,Ud,xk,Af,vF,cp,eZ,ptr];go_wp2_with fail;obtain⟨ac,I,aa,m2,hm⟩:=ah.out;exact HN.out _ _ (Wq.same (y:=w2) (λ_ _=>rfl) (Wq.inLoop (ih (m+1) aA D2 w2 _ s2 p2 ac aa m2 ⟨rfl,rfl,rfl,rfl,rfl,rfl⟩ rfl rfl I)))
end
end
section
section
variable {Post:vU}{D:Nat->Prop}{XX A:List cR}{b:cR}{k:List pS}{w0 w:U}{te:cG}{xe:X}{sc vch:X}{i ob cb:Nat}{op:LJ}{ta la:Option eM}{tn tc ln lc:Nat}{c:Cf}{chain:List X2}{s:Nv}{p:Nn}{ps:List PU}{tm:Array X}
def Zh(h3:-9223372036854775808<=op.u.time)(h4:op.u.time<=9223372036854775807)(hu:kW w0 op.u (.slice ta tn tc) (.slice la ln lc))(R:TI cb w0 te xe c chain s p ps vch w)(ag:s.last<1099511627776)(hS:US tm sc cb p.x.nk vch i)(t12:tm[12]? =M (ptr ob))(aq:tm[54]? =M (N ab 0))(az:w.heap[ob]? =M (aG #[N ab op.kind,N ab op.n,N ab op.u.id,N ab op.u.time,.slice ta tn tc,.slice la ln lc] 37 (0,0)))(z:∀w' a1 ah s' p' a7 aj,TI cb w0 te xe c ah s' p' a7 aj w'->s'.last<=s.last+1->p'.x.nk=p.x.nk->US a1 sc cb p.x.nk aj i->Wq D Post XX (b.at ⟨a1,[]⟩ k) A w'):Wq D Post XX (b.at ⟨tm,[]⟩ (.code xk::k)) A w:=by
 obtain⟨hs,t2,t3,t8,t10,t11⟩:=hS;obtain⟨l,rfl,hs⟩:=Hm.jZ hs
 iterate 161 (obtain⟨_,l,rfl,h'⟩:=Hm.jV hs;clear hs;have hs:=h';clear h')
 obtain rfl:=cJ.1 hs;clear hs;simp only[eX,eU,dX,aK]at t2 t3 t8 t10 t11 t12 aq;subst t2 t3 t8 t10 t11 t12 aq;have kc:∀(v:U),v.heap[ob]? =w.heap[ob]?->∀(j:Nat),v.cell? ⟨ob,j,Z⟩=(#[N ab op.kind,N ab op.n,N ab op.u.id,N ab op.u.time,.slice ta tn tc,.slice la ln lc]:Array X)[j]?:=λv q j=>aI (q.trans az) j;obtain⟨B,hB⟩:=Hm.agb;rw[hB];have H:cH _:=jy hu (jy R (jy ag z));clear hu R ag z az;refine Wq.seq (Wq.walk λt d Q Y _=>?_);have HN:cH _:=Y;clear Y;simp only[FZ,xk,Af,vF,cp,eZ];go_wp2_with fail;refine HN.out _ _ (Wq.same (y:=w) (λ_ _=>rfl) (Wq.cond (t:=aR) rfl ?_));clear HN;rw[ZD rfl];refine Wq.seq (Wq.walk λt d Q Y _=>?_);have HN:cH _:=Y;clear Y;have k2:(on w t d).cell? ⟨ob,2,Z⟩=M (N ab op.u.id):=kc _ rfl 2;have k3:(on w t d).cell? ⟨ob,3,Z⟩=M (N ab op.u.time):=kc _ rfl 3;have k4:(on w t d).cell? ⟨ob,4,Z⟩=M (.slice ta tn tc):=kc _ rfl 4;have k5:(on w t d).cell? ⟨ob,5,Z⟩=M (.slice la ln lc):=kc _ rfl 5;clear kc;obtain⟨w1,av,ap,ai⟩:=jD w #[N ab op.u.id,N ab op.u.time,.slice ta tn tc,.slice la ln lc] 28;simp only[Tc,xk,Af,vF,cp,eZ,ptr];go_wp2_with fail;refine HN.out _ _ (Wq.same (y:=w1) (λ_ _=>by rw[av];rfl) (Wq.seq ?_));rw[show(on w t d).heap.size=w.heap.size from rfl];clear HN k2 k3 k4 k5 av;obtain⟨hu,R,ag,z⟩:=H.out;have ao:=R.still (kV ap);have J:=R.len;have h1:=(Dv.jW R.nt.np.hc).1;have a4:=(Dv.jW R.nt.np.hc).2.1;obtain⟨m,hm⟩:∃m,chain.length=m+1:=⟨chain.length-1,aA⟩
 obtain⟨g,off,cap,hv,ar⟩:=ao.row.pos aA;obtain⟨q,hq⟩:∃q,ps[m]? =M q:=⟨_,aO aA⟩
 have kt:=Hm.Rd.rec oq 4 (λ_=>rfl) (by rw[<-hv];exact ao.row.rd) hq (show 1<4 by omega) (rfl:(oq q)[1]? =M (N ab q.1.time))
 have an:0<=q.1.time/\q.1.time<=1099511627776:=by
  have:=Dv.Gi R.nt.np.hc (show m<chain.length by omega);have e:chain[m]! =q.1:=by rw[<-R.eq,my,fE,hq];rfl
  rw[e]at this;omega
 rw[J,hm]at hv;subst hv;refine Wq.walk λt d Q Y _=>wp_mono (Hm.adx (w:=on w1 t d) (ub:=w.heap.size) (K:=λa' w'=>Q .normal a' w') ⟨rfl,rfl,rfl,rfl,rfl,rfl⟩ rfl aA (by rw[<-dV]at kt;exact kt) ((aI (show(on w1 t d).heap[w.heap.size]? =_ from ai) 1).trans rfl) (aQ (show(on w1 t d).heap[w.heap.size]? =_ from ai)) an.1 an.2 h3 h4 λtm w2 a6 au ae=>Y _ _ ?_) (rY λ_ _ e=>e);obtain⟨T,hT⟩:∃T,T=q.1.time+1+pk op.u.time 24:=⟨_,rfl⟩
 rw[<-hT]at ae;clear hT;have ae:w2.heap=(w1.setCell ⟨↑w,1,Z⟩ (N ab T)).heap:=ae;have aa:w2.heap[w.heap.size]? =M (aG #[N ab op.u.id,N ab T,.slice ta tn tc,.slice la ln lc] 28 (0,0)):=by rw[ae,block_setCell ai];rfl
 have ak:jL (λk=>k=w.heap.size) w1 w2:=(Hm.jI.set w1 ↑w 1 (N ab T)).h.heaps rfl ae;have I:jL (λ_=>False) w w2:=(kV ap).trans ak λg hg e=>aA
 have E:=R.still I;obtain⟨u,af⟩:∃u:X2,u={ op.u with time:=T }:=⟨_,rfl⟩
 have ac:kW w0 u (.slice ta tn tc) (.slice la ln lc):=by rw[af];exact⟨hu.1,hu.2.1,hu.2.2⟩
 obtain⟨hs,t2,t3,t8,t10,t11⟩:=a6;obtain⟨l,rfl,hs⟩:=Hm.jZ hs
 iterate 161 (obtain⟨_,l,rfl,h'⟩:=Hm.jV hs;clear hs;have hs:=h';clear h')
 obtain rfl:=cJ.1 hs;clear hs;simp only[eX,eU,dX,aK]at t2 t3 t8 t10 t11 au;subst t2 t3 t8 t10 t11 au;refine Wq.seq (Wq.walk λt d Q Y _=>?_)
 have hE:dE PQ 8 #[aD (M ⟨p.x.nk,0,Z⟩),fX #[N ab op.u.id,N ab T,.slice ta tn tc,.slice la ln lc]] (on w2 t d) λe w'=>∃i1 i2,e=bO (cQ #[N ab i1,N ab i2])/\af2 c chain s p u (on w2 t d) i1 i2 w':=by
  have:=((E.heap (w':=on w2 t d) rfl).nt.extend (pV ac (E.heap (w':=on w2 t d) rfl).jM λ_ _ e=>e) (Rq ac (R.low _ (bE (cD (bE (bE rfl)))))) ag)
  rw[af]at this⊢;exact this
 obtain⟨z0,z1,z2,z3⟩:=cells4 (show(on w2 t d).heap[w.heap.size]? =_ from aa);have HE:cH _:=λ(_:Unit)=>hE;have HN:cH _:=Y;have H2:cH _:=jy E (jy ac (jy af (jy aa (jy J (jy hm I)))));clear hE Y E ac af aa J hm I ak ae ao R ai ap hu ag z kt hq an ar h1 a4;simp only[RQ,xk,Af,vF,cp,eZ];go_wp2_with (go_at_call 8;(with_reducible refine aT (HE.out ()) ?_);rintro e w3 ⟨i1,i2,rfl,h3⟩;have H3:cH _:=h3;clear h3)
 refine HN.out _ _ (Wq.seq (Wq.walk λt d Q Y _=>?_));clear HN z0 z1 z2 z3;have HN:cH _:=Y;clear Y;obtain⟨f,hf⟩:∃f,(i2 == 0)=f:=⟨_,rfl⟩
 simp only[TK,xk,Af,vF,cp,eZ];go_wp2_with fail;refine HN.out _ _ (Wq.same (y:=w3) (λ_ _=>rfl) (Wq.cond (t:=f) rfl ?_));clear HN;obtain⟨hu,R,ag,z⟩:=H.out;obtain⟨E,ac,af,aa,J,hm,I⟩:=H2.out;have bd:=E.heap (w':=on w2 t d) rfl;cases f with
 |false=>
  rw[Zs aB];obtain⟨e,_⟩|⟨_,hc⟩:=H3.out
  .rw[e]at hf;cases hf
  .exact Wq.skip (z w3 _ chain s p ps _ (E.still (hc.heaps rfl rfl)) aA rfl ⟨rfl,rfl,rfl,rfl,rfl,rfl⟩)
 |true=>
  rw[ZD rfl];obtain⟨_,e1,bg,p3,n1,n2,n3,n4⟩|⟨e,_⟩:=H3.out
  case inr=>simp[e]at hf
  have n3:jL (NK p) w2 w3:=n3.heaps rfl rfl;have n4:∀g,NK p3 g->NK p g\/w2.heap.size<=g:=n4;have a3:=I.size;have a2:=(jE aa)
  have aw:¬NK p w.heap.size:=λe=>by have:=R.nt.nb.lt e;omega
  have ay:=(n3.block _ a2 aw).trans aa;have a5:=E.row.kept (w':=w3) λg hg=>n3.block g (E.row.lt hg) (E.far g hg).1
  have bb:(aH (M ⟨g,off,Z⟩) ps.length cap).ownBlock≠M w.heap.size:=λe=>by
   have:=R.row.lt (g:=w.heap.size) (by rw[J,hm]at e;exact e);omega
  refine Wq.walk λt d Q Y _=>Hm.ahp (w:=on w3 t d) (ub:=w.heap.size) (n:=ps.length) ⟨rfl,rfl,rfl,rfl,rfl,rfl⟩ rfl rfl ay (a5.kept λ_ _=>rfl) aA aA bb E.one λtm w4 v4 a9 a8 am ba=>Y _ _ ?_;have am:jL (λk=>k=w.heap.size) w3 w4:=am.h.heaps rfl rfl;have a0:=R.more (w':=w3) (w2:=w4) (ub:=w.heap.size) ac jB ay n1 ((I.mono λ_ _ e=>e.elim).trans n3 λ_ _ e=>e) (λg hg=>(n4 g hg).imp id (bH a3)) (λe=>(n4 _ e).elim aw aA) (by rw[af];exact a8) am ba;exact z w4 tm _ _ p3 _ v4 a0 jB n2 a9
end
end
section
def Nb.still'{c:Cf}{old chain:List X2}{j:Nat}{p:Nn}{w w':U}(h:Nb c old j chain p w){x':Nd}(R:lX w' c x')(I:x'.v=p.x.v)(hc:jL (NO p.x) w w'):VC c old j x'.v p.y w':=by
 rw[I];have J:lF w' p.x.v:=I ▸ R.vw
 have key:∀g,NO p.x g->¬p.y.own p.x.v.kb g:=λg E=>by
  obtain⟨cs,t,Y,q,ht⟩:=NO.types (h:=h.nd) E
  have z:t∉[100,102,118,136,140]:=by
   simp only[dD,mR,or_false]at ht;rcases ht with rfl|rfl|rfl|rfl|rfl|rfl<;>decide
  simp only[dD,mR,or_false,not_or]at z;exact TS.zn h.vc.ts q z.1 z.2.1 z.2.2.1 z.2.2.2.1 z.2.2.2.2
 exact⟨J,TS.stands h.vc.ts (λg E=>hc.block g (TS.lt h.vc.ts E) λe=>key g e E) (h.ro (hc.mono λ_ _ e=>bE e)) (hc.block _ h.vc.ts.hd.pos λe=>ny (h.low _ (bE e)) rfl),h.vc.rm,h.vc.seen,h.vc.osl,h.vc.fits,h.vc.hdl,h.vc.low⟩
section
variable {Post:vU}{D:Nat->Prop}{XX A:List cR}{b:cR}{k:List pS}{w0 w:U}{te:cG}{xe:X}{sc vch:X}{i ob cb:Nat}{op:LJ}{ta la:Option eM}{tn tc ln lc:Nat}{c:Cf}{chain:List X2}{s:Nv}{p:Nn}{ps:List PU}{tm:Array X}
def aaG(rd:Cr.ReadW)(h1:-9223372036854775808<=op.n)(h2:op.n<=9223372036854775807)(h3:-9223372036854775808<=op.u.time)(h4:op.u.time<=9223372036854775807)(hu:kW w0 op.u (.slice ta tn tc) (.slice la ln lc)){kd:Int}(E:TI cb w0 te xe c chain s p ps vch w)(ac:s.last<1099511627776)(hS:US tm sc cb p.x.nk vch i)(t12:tm[12]? =M (ptr ob))(aj:tm[54]? =M (N ab kd))(R:w.heap[ob]? =M (aG #[N ab op.kind,N ab op.n,N ab op.u.id,N ab op.u.time,.slice ta tn tc,.slice la ln lc] 37 (0,0)))(z:∀D' w' ae aa s' p' av ai,TI cb w0 te xe c aa s' p' av ai w'->s'.last<=s.last+1->p'.x.nk=p.x.nk->US ae sc cb p.x.nk ai i->Wq D' Post XX (b.at ⟨ae,[]⟩ k) A w'):Wq D Post XX (b.at ⟨tm,[]⟩ (.code xk::k)) A w:=by
 by_cases h0:kd=0
 .subst h0;exact Zh h3 h4 hu E ac hS t12 aj R (z D)
 obtain⟨hs,t2,t3,t8,t10,t11⟩:=hS;obtain⟨l,rfl,hs⟩:=Hm.jZ hs
 iterate 161 (obtain⟨_,l,rfl,h'⟩:=Hm.jV hs;clear hs;have hs:=h';clear h')
 obtain rfl:=cJ.1 hs;clear hs;simp only[eX,eU,dX,aK]at t2 t3 t8 t10 t11 t12 aj;have t10:=t10.symm;subst t2 t3 t8 t10 t11 t12 aj;have kc:∀{v:U},v.heap[ob]? =w.heap[ob]?->∀(j:Nat),v.cell? ⟨ob,j,Z⟩=(#[N ab op.kind,N ab op.n,N ab op.u.id,N ab op.u.time,.slice ta tn tc,.slice la ln lc]:Array X)[j]?:=λ{v} q j=>aI (q.trans R) j;by_cases h5:kd=1
 ·
  subst h5;refine Wq.walk λt d Q I _=>?_;have k1:(on w t d).cell? ⟨ob,1,Z⟩=M (N ab op.n):=kc rfl 1;have ah:=E.len;have ao:=(Dv.jW E.nt.np.hc).1;have an:=(Dv.jW E.nt.np.hc).2.1;obtain⟨g,off,cap,rfl,ak⟩:=E.row.pos aA;have hP:=λW=>Hm.pick_any op.n ps.length W aA aA h1 h2;have hp:=Hm.Rh (c:=op.n) (n:=ps.length) aA;obtain⟨X1,am⟩:∃X1:Nat,pk op.n ps.length=X1:=⟨(pk op.n ps.length).toNat,aA⟩
  rw[am]at hP hp
  have hT:=((E.heap (w':=on w t d) rfl).nt.turn (d:=X1) aA).mono (R':=λe w'=>e=bO (N ab 0)/\∃p',TI cb w0 te xe c (chain.take (chain.length-X1)) { s with m:=min s.m (chain.length-X1) } p' (ps.take (ps.length-X1)) (aH (M ⟨g,off,Z⟩) (ps.length-X1) cap) w'/\p'.x.nk=p.x.nk) λe w' ⟨g1,p',n1,n2,n3,n4⟩=>⟨g1,p',by
   have n3:jL (NK p) w w':=n3.heaps rfl rfl;have hr:=(E.row.kept (w':=w') λg hg=>n3.block g (E.row.lt hg) (E.far g hg).1).take (k:=ps.length-X1) aA;rw[(Hm.qx oq 4 (λ_=>rfl) ps (ps.length-X1)).1]at hr;exact E.moved n1 n3 n4 (by rw[bK,fZ aA];exact hr) rfl (λq hq=>jd hq) (by rw[List.map_take,E.eq,ah]),n2⟩
  have HT:cH _:=λ(_:Unit)=>hT;have HP:cH _:=hP;have J:cH _:=jy I z;obtain⟨n,hn⟩:∃n,ps.length=n:=⟨_,rfl⟩
  rw[hn]at HP HT hp ak⊢;obtain⟨m,hm⟩:∃m,n-X1=m:=⟨_,rfl⟩
  rw[hm]at HT;have a1:(n:Int)-X1=m:=aA
  have az:(m:Int)<=cap:=aA
  have a0:(0:Int)<=m:=aA
  have ay:n<=60:=aA
  clear hT hP I z E kc R hu h1 h2 h3 h4 am ah ao an hn hm h0 ac;simp only[xk,Af,vF,cp,eZ,ptr];go_wp2_with (first|(go_at_call 7;refine aT (HP.out _) ?_;rintro e w1 ⟨rfl,rfl⟩)|(go_at_call 9;(with_reducible refine aT (HT.out ()) ?_);rintro e w3 ⟨rfl,h3⟩;have H3:cH _:=h3;clear h3))
  obtain⟨p3,ar,e3⟩:=H3.out;exact J.out.1 _ _ (J.out.2 D w3 _ _ _ p3 _ _ ar (Nat.le_succ _) e3 ⟨rfl,rfl,rfl,rfl,rfl,rfl⟩)
 by_cases h6:kd=2
 ·
  subst h6;refine Wq.walk λt d Q I _=>?_;have k1:(on w t d).cell? ⟨ob,1,Z⟩=M (N ab op.n):=kc rfl 1;have hP:=λW=>Hm.pick_any op.n 21 W aA aA h1 h2;have hp:=Hm.Rh (c:=op.n) (n:=21) aA;obtain⟨X1,ag⟩:∃X1:Nat,pk op.n 21=X1:=⟨(pk op.n 21).toNat,aA⟩
  rw[ag]at hP hp
  have hA:=(Hm.FM X1 (E.heap (w':=on w t d) rfl).nt.nb.nd aA).mono (R':=λe w'=>e=bO (N ab 0)/\TI cb w0 te xe c chain { s with sil:=X1 } ⟨{ p.x with sil:=X1 },p.y⟩ ps vch w') λe w' ⟨g1,g2,g3⟩=>by
   have c1:jL (NO p.x) w w':=g3.h.heaps rfl rfl;have n:=E.nt.np;exact⟨g1,E.step ⟨⟨g2,E.nt.nb.still' g2 rfl c1,E.nt.nb.ps,E.nt.nb.low⟩,⟨n.hc,n.ho,n.hcf,n.jl,n.m1,n.mj,n.ml,n.cm,n.no,n.nd,n.idc,n.ido⟩,E.nt.last,rfl,E.nt.rs⟩ (c1.mono λ_ _ e=>bE e) λg e=>bE e⟩
  have HA:cH _:=λ(_:Unit)=>hA;have HP:cH _:=hP;have J:cH _:=jy I z;clear hA hP I z E kc R hu h1 h2 h3 h4 ag h0 h5 ac;simp only[xk,Af,vF,cp,eZ,ptr];go_wp2_with (first|(go_at_call 7;refine aT (HP.out _) ?_;rintro e w1 ⟨rfl,rfl⟩)|(go_at_call 10;(with_reducible refine aT (HA.out ()) ?_);rintro e w3 ⟨rfl,h3⟩;have H3:cH _:=h3;clear h3))
  exact J.out.1 _ _ (J.out.2 D w3 _ _ _ _ _ _ H3.out (Nat.le_succ _) rfl ⟨rfl,rfl,rfl,rfl,rfl,rfl⟩)
 by_cases h7:kd=3
 ·
  subst h7;refine Wq.walk λt d Q I _=>?_
  have hA:=(Hm.wO (E.heap (w':=on w t d) rfl).nt.nb.nd).mono (R':=λe w'=>e=bO (cQ #[])/\TI cb w0 te xe c chain { s with rs:=aR } ⟨{ p.x with rs:=aR },p.y⟩ ps vch w') λe w' ⟨g1,g2,g3⟩=>by
   have c1:jL (NO p.x) w w':=g3.h.heaps rfl rfl;have n:=E.nt.np;exact⟨g1,E.step ⟨⟨g2,E.nt.nb.still' g2 rfl c1,E.nt.nb.ps,E.nt.nb.low⟩,⟨n.hc,n.ho,n.hcf,n.jl,n.m1,n.mj,n.ml,n.cm,n.no,n.nd,n.idc,n.ido⟩,E.nt.last,E.nt.sil,rfl⟩ (c1.mono λ_ _ e=>bE e) λg e=>bE e⟩
  have HA:cH _:=λ(_:Unit)=>hA;have J:cH _:=jy I z;clear hA I z E kc R hu h1 h2 h3 h4 h0 h5 h6 ac;simp only[xk,Af,vF,cp,eZ,ptr];go_wp2_with (go_at_call 11;(with_reducible refine aT (HA.out ()) ?_);rintro e w3 ⟨rfl,h3⟩;have H3:cH _:=h3;clear h3)
  exact J.out.1 _ _ (J.out.2 D w3 _ _ _ _ _ _ H3.out (Nat.le_succ _) rfl ⟨rfl,rfl,rfl,rfl,rfl,rfl⟩)
 have hp:=Hm.Rh (c:=op.n) (n:=30) aA;obtain⟨X1,Y⟩:∃X1:Nat,pk op.n 30=X1:=⟨(pk op.n 30).toNat,aA⟩
 have H:cH _:=jy E (jy z (jy Y (jy hp R)));have e0:(kd == 0)=aL:=by simp[h0]
 have e1:(kd == 1)=aL:=by simp[h5]
 have e2:(kd == 2)=aL:=by simp[h6]
 have e3:(kd == 3)=aL:=by simp[h7]
 clear E z Y hp R kc h0 h5 h6 h7 hu;obtain⟨A1,A2,A3,A4,hK⟩:=Hm.ahx;rw[hK];refine Wq.seq (Wq.walk λt d Q I _=>?_);have J:cH _:=I;clear I;simp only[FZ,xk,Af,vF,cp,eZ];go_wp2_with fail;refine J.out _ _ (Wq.same (y:=w) (λ_ _=>rfl) (Wq.cond (t:=aL) rfl (Wq.seq (Wq.walk λt d Q I _=>?_))));clear J;have J:cH _:=I;clear I;simp only[OG,xk,Af,vF,cp,eZ];go_wp2_with fail;refine J.out _ _ (Wq.same (y:=w) (λ_ _=>rfl) (Wq.cond (t:=aL) rfl (Wq.seq (Wq.walk λt d Q I _=>?_))));clear J;have J:cH _:=I;clear I;simp only[Va,xk,Af,vF,cp,eZ];go_wp2_with fail;refine J.out _ _ (Wq.same (y:=w) (λ_ _=>rfl) (Wq.cond (t:=aL) rfl (Wq.seq (Wq.walk λt d Q I _=>?_))));clear J;have J:cH _:=I;clear I;simp only[OH,xk,Af,vF,cp,eZ];go_wp2_with fail;refine J.out _ _ (Wq.same (y:=w) (λ_ _=>rfl) (Wq.cond (t:=aL) rfl (Wq.seq (Wq.walk λt d Q I _=>?_))));clear J;have J:cH _:=I;clear I;obtain⟨f,hf⟩:∃f,(kd == 7)=f:=⟨_,rfl⟩
 simp only[QL,xk,Af,vF,cp,eZ];go_wp2_with fail;refine J.out _ _ (Wq.same (y:=w) (λ_ _=>rfl) (Wq.cond (t:=f) rfl ?_));clear J;cases f with
 |true=>
  rw[ZD rfl];obtain⟨E,z,-⟩:=H.out;refine Wq.seq (Wq.reg (n:=3) ⟨_,rfl⟩ XN ?_);refine Wq.qJ (.move (cN 8)) (M 129) (ptr p.x.nk) w XN (mv rfl) ?_;simp only[dC,bQ,dP,dO];obtain⟨o2,ap,au,aq,aw⟩:∃o,(yE RS)[1]? =M o/\o.op=.call { callee:=.value (.func 12),args:=#[cN 129],argTypes:=#[31] }/\o.dst=M 130/\o.guard=Z:=⟨_,rfl,rfl,rfl,rfl⟩
  refine O8 rd (p:=p) ap (Cr.jY aw) au rfl E.glo E.nt (by rw[<-E.nt.sil];exact E.nt.nb.nd.src.few) λD2 w2 p2 s2 q1 q2 q3 q4 q5 q6 q7 q8 q9=>?_;rw[aq];simp only[dC,bQ,dP,dO];refine Wq.qJ (.assign (cN 130)) (M 7) (cK aR) w2 XN (asg rfl) (Wq.done ?_);simp only[dC,bQ,dP,dO];have af:=E.step q1 q8 q9;have H2:cH _:=jy af (jy z (jy q5 q6));clear E z af q1 q2 q3 q4 q5 q6 q7 q8 q9;refine Wq.walk λt d Q I _=>?_;have J:cH _:=I;clear I;simp only[QW,xk,Af,vF,cp,eZ];go_wp2_with fail;obtain⟨af,z,q5,q6⟩:=H2.out;exact J.out _ _ (Wq.same (y:=w2) (λ_ _=>rfl) (z D2 w2 _ _ s2 p2 _ _ af aA q6 ⟨rfl,rfl,rfl,rfl,rfl,rfl⟩))
 |false=>
  rw[Zs aB];refine Wq.seq (Wq.walk λt d Q I _=>?_);have J:cH _:=I;clear I;simp only[Q8,xk,Af,vF,cp,eZ];go_wp2_with fail;refine J.out _ _ (Wq.same (y:=w) (λ_ _=>rfl) (Wq.block (Wq.loop ?_)));obtain⟨E,z,Y,hp,R⟩:=H.out;exact abr rd (op:=op) aA Y h1 h2 rfl (λD' w' ae s' p' q1 q2 q3 q4=>z D' w' ae chain s' p' ps vch q1 aA q3 q4) (X1+1) 0 aA D w _ s p E rfl rfl ⟨rfl,rfl,rfl,rfl,rfl,rfl⟩ rfl rfl R
end
end
open Hm (ptr jF jL kW)
def VE{w:U}{bc:Nat}{c:Cf}{a:Act}{s:Nat}(R:w.heap[bc]? =M (aG (jF c) 24 (0,0)))(hs:a.eval (cN s)=ptr bc):∀t d (o:ij),o.op=.load 24 (cN s)->(bN a.eval o).run PQ (on w t d)=.ok (.value (.agg (jF c))) (on w t d):=λt d o h=>by
 have c:=um (w:=on w t d) R;have I:=c 0;have k1:=c 1;have z:=c 2;have E:=c 3;have Y:=c 4;have k5:=c 5;have J:=c 6;unfold bN;simp only[h,hs,ptr];simp[go_sem,I,k1,z,E,Y,k5,J,jF]
def nv(r:Option Nn):Option eM:=r.map λp=>⟨p.x.nk,0,Z⟩
def afn(c:Cf)(u:X2)(w:U)(r:Option Nn)(e:Int)(w':U):Prop:=jL (λ_=>False) w w'/\match r with
 |some p=>newE c u=Z/\e=0/\NC c [{ u with id:=1 }] 1 1 aL 0 p w'/\∀g,NK p g->w.heap.size<=g
 |none=>newE c u=M e
end Pa
namespace Hm
open Dv (X2 Cf Ba Ch Lo St)
section
variable {n:Nat}{chain:List X2}
def Jz{i:Im.It}{b:Ba}(h:Dv.tH i n=M b):b.txs.length<=2*i.bytes.length:=by
 unfold Dv.tH at h;split at h
 .cases h
 .split at h
  .cases h
  .rename_i x r hb;split at h
   .rw[Option.bind_eq_some_iff]at h;obtain⟨l,E,h⟩:=h;unfold Dv.pY at h;split at h
    .rename_i Y R c1 I J z;split at h
     .cases h
     .split at h
      .split at h
       .cases h;have:=Qv E (k:=I) (by rw[z];simp)
        grind
       .cases h
      .cases h
    .cases h
   .cases h
def Vx:∀(f:Nat)(s:List UInt8)(n:Nat)(b:Ba),b∈Dv.rd f s n->b.txs.length<=2*s.length
 |0,s,n,b,h=>by simp[Dv.rd]at h
 |f+1,s,n,b,h=>by
  rw[Dv.rd]at h;split at h
  .simp at h
  .split at h
   .simp at h
   .split at h
    .simp at h
    .rename_i i k z _ x E;obtain h|h:=dM.1 h
     .split at h
      .rw[dK.1 h];have:=Jz E;have:=Cj z;omega
      .simp at h
     .have:=Vx f _ n b h
      grind
def V3{c:Cf}{u:X2}{cs:List Ch}{wait:List Ba}{b:Ba}(h:b∈(Dv.take c u n cs wait).2):b∈wait\/b.txs.length<=8192:=by
 unfold Dv.take at h;simp only at h;obtain h|h:=dM.1 h
 .exact bE h
 .obtain⟨s,_,hs⟩:=p7.1 h;have:=Vx _ _ _ _ hs;have h2:=Dv.qy s.length s 4096 [] (by grind);exact cD aA
def Few(x:Lo):Prop:=x.txs.length<=8192/\x.deps.length<=20
def MG(hc:Dv.jS chain=aR)(e:Nat):(Dv.jR (chain[e]!)).length<=20:=by
 by_cases z:e<chain.length
 .have:=(Dv.qj (Dv.mG chain Z (Dv.jW hc).2.2.1 e z)).2.1;have h2:=gZ Dv.isDep (chain[e]!).logs;unfold Dv.jR;omega
 .rw[my,List.getElem?_eq_none aA];decide
def RX{c:Cf}(hc:Dv.jS chain=aR){h:Lo}{e:Nat}{t:List (List UInt8)}(ht:t.length<=8192):Few (Dv.lay c chain n h e t):=by
 unfold Dv.lay Few;refine⟨ht,?_⟩;dsimp only;split
 .simp
 .exact MG hc e
def GL{c:Cf}{chain:List X2}(hc:Dv.jS chain=aR){n:Nat}:∀(f:Nat)(h:Lo)(wait:List Ba),(∀b,b∈wait->b.txs.length<=8192)->(∀x,x∈(Dv.draws c chain n f h wait).1->Few x)/\∀b,b∈(Dv.draws c chain n f h wait).2->b.txs.length<=8192
 |0,h,wait,hw=>⟨λx E=>by simp[Dv.draws]at E,λb z=>hw b z⟩
 |f+1,h,wait,hw=>by
  have hk:∀b,b∈(Dv.sift c chain n h.epoch (h.time+c.step) wait).2->b.txs.length<=8192:=λb z=>hw b (Dv.LY (c:=c) (chain:=chain) (n:=n) _ _ _ _ z)
  have key:(∀x,(Dv.draw c chain n h wait).1=M x->Few x)/\(Dv.draw c chain n h wait).2=(Dv.sift c chain n h.epoch (h.time+c.step) wait).2:=by
   unfold Dv.draw;dsimp only;split
   .simp
   .rename_i b z;exact⟨λx E=>(by cases E;exact RX hc (hw b (Dv.uG (c:=c) (chain:=chain) (n:=n) _ _ _ _ z).1)),rfl⟩
   .split
    .simp
    .exact⟨λx E=>(by cases E;exact RX hc aC),rfl⟩
  rw[Dv.draws];split
  .grind
  .rename_i x k hd;rw[hd]at key;have I:=GL hc (c:=c) (n:=n) f x k (λb z=>hk b (by grind))
   grind
def Df{c:Cf}{chain:List X2}(hc:Dv.jS chain=aR):∀j:Nat,(∀b,b∈(Dv.gone c chain j).wait->b.txs.length<=8192)/\∀x,x∈(Dv.gone c chain j).log->Few x
 |0=>⟨λb z=>by simp[Dv.gone,Dv.start]at z,λx E=>by
   simp only[Dv.gone,Dv.start,dK]at E;rw[E];exact⟨by simp[Dv.first],MG hc 0⟩⟩
 |j+1=>by
  obtain⟨I,h2⟩:=Df hc j;rw[Dv.gone];unfold Dv.step;dsimp only;have hw:∀b,b∈(Dv.take c (chain[j]!) j (Dv.gone c chain j).chs (Dv.gone c chain j).wait).2->b.txs.length<=8192:=λb z=>(V3 z).elim (I b) id;obtain⟨R,J⟩:=GL hc (c:=c) (n:=j) _ _ _ hw;refine⟨J,λx E=>?_⟩
  grind
end
end Hm
namespace Pa
open Go Go.Conc Go.RowKit Go.Joins
open Hm (ptr jF jL kW LJ pk)
open Dv (X2 Cf)
open Po hiding X2 H B IT PR NB
section
structure KR(w:U)(v:X)(l:List LJ):Prop where
 rd:Hm.Rd w 6 v l.length (l.flatMap LJ.cells)
 up:∀o,o∈l->kW w o.u o.vt o.vl
 kd:∀o,o∈l->-9223372036854775808<=o.kind/\o.kind<=9223372036854775807
 n:∀o,o∈l->-9223372036854775808<=o.n/\o.n<=9223372036854775807
 tm:∀o,o∈l->-9223372036854775808<=o.u.time/\o.u.time<=9223372036854775807
section
variable {Post:vU}{D:Nat->Prop}{w:U}{te:cG}{xe:X}{c c2:Cf}{u:X2}{ta la:Option eM}{tn tc ln lc:Nat}{sa:Option eM}{cap:Nat}{l:List LJ}
def Ug{c:Cf}{u:X2}{e:Int}(h:newE c u=M e):e=1\/e=2:=by
 unfold newE at h;split at h
 .cases h;exact bE rfl
 .split at h
  .cases h;exact cD rfl
  .cases h
end
end
end Pa
namespace Hm
open Go.RowKit Go.Joins Go.Shelf
open Fr (below_drewN)
open Dv (Lo X2 Cf)
section
section
variable {tm:Array X}{w:U}{sc vch:X}{cb i:Nat}{Q:p9->Act->U->Prop}
def aec{c:Cf}{x:Nd}{ls:List Lo}(h:US tm sc cb x.nk vch i)(t7:tm[7]? =M (cK aR))(ha:lX w c x)(la:x.v.log.map cI=ls)(h0:0<ls.length)(hf:∀y,y∈ls->y.txs.length<=4294967296/\y.deps.length<=4294967296)(hN:∀(tm:Array X) w' R J qs,US tm sc cb x.nk vch i->tm[7]? =M (cK aR)->tm[20]? =M (.slice R ls.length J)->qs.map cI=ls->Bz w' (.slice R ls.length J) qs->Below ↑w w w'->Q .normal ⟨tm,[]⟩ w'):DU.wp PQ Q ⟨tm,[]⟩ w:=by
 obtain⟨hs,t2,t3,t8,t10,t11⟩:=h;obtain⟨l,rfl,hs⟩:=jZ hs
 iterate 161 (obtain⟨_,l,rfl,h'⟩:=jV hs;clear hs;have hs:=h';clear h')
 obtain rfl:=cJ.1 hs;clear hs;simp only[eX,eU,dX,aK]at t2 t3 t8 t10 t11 t7;subst t2 t3 t8 t10 t11 t7;have hA:=Nl ha la rfl h0 hf;have HA:cH _:=λ(_:Unit)=>hA;have HN:cH _:=hN;clear hA hN ha la hf h0;simp only[DU,vF,cp,eZ];go_wp2_with (go_at_call 14;(with_reducible refine aT (HA.out ()) ?_);rintro e w1 ⟨R,J,qa,rfl,z,I,E⟩;have Y:cH _:=jy z (jy I E);clear z I E)
 exact HN.out _ _ R J qa ⟨rfl,rfl,rfl,rfl,rfl,rfl⟩ rfl rfl Y.out.1 Y.out.2.1 Y.out.2.2
def ahB{n:Nat}{aa wa:Option eM}{ac wc nk:Nat}{J R:List PL}(h:US tm sc cb nk vch i)(t7:tm[7]? =M (cK aR))(t20:tm[20]? =M (.slice aa n ac))(z:tm[21]? =M (.slice wa n wc))(E:tm[22]? =M (N ab 0))(h1:Bz w (.slice wa n wc) J)(h2:Bz w (.slice aa n ac) R)(he:J.map cI=R.map cI)(hl:J.length<=4294967296)(hR:∀(tm:Array X) w',tm[6]? =M (cK aR)->Below ↑w w w'->Q .ret ⟨tm,[]⟩ w'):tuT.wp PQ Q ⟨tm,[]⟩ w:=by
 obtain⟨hs,t2,t3,t8,t10,t11⟩:=h;obtain⟨l,rfl,hs⟩:=jZ hs
 iterate 161 (obtain⟨_,l,rfl,h'⟩:=jV hs;clear hs;have hs:=h';clear h')
 obtain rfl:=cJ.1 hs;clear hs;simp only[eX,eU,dX,aK]at t2 t3 t8 t10 t11 t7 t20 z E;subst t2 t3 t8 t10 t11 t7 t20 z E;have hG:=(Pv J R w h1 h2 aA).mono (R':=λe W'=>e=bO (cK aR)/\Below ↑w w W') λe W' ⟨r,Y,hr,ae⟩=>⟨by rw[Y,hr.2 (by rw[he];exact List.prefix_rfl)],ae⟩
 have HG:cH _:=λ(_:Unit)=>hG;have HR:cH _:=hR;clear hG hR h1 h2 he hl;have e1:((n:Int) == (n:Int))=aR:=aC
 simp only[tuT,vF,cp,eZ];go_wp2_with (go_at_call 16;(with_reducible refine aT (HG.out ()) ?_);rintro e w3 ⟨rfl,I⟩;have H3:cH _:=I;clear I)
 exact HR.out _ _ rfl H3.out
end
end
end Hm
namespace Pa
open Go Go.Conc Go.RowKit Go.Joins
open Hm (ptr jF jL jI kW oz PU PL Bz US LJ pk oq cp vF X3 YQ XP aad Xg Yi X0 JI LK Af Eu DU ED tuT Ph Sz Ux QD xk)
open Dv (X2 Cf)
open Po hiding X2 H B IT PR NB
section
variable {w:U}{chain:List X2}{ps:List PU}{vch:X}
section
variable {Post:vU}{D:Nat->Prop}{XX A:List cR}{b:cR}{k:List pS}{w:U}{te:cG}{xe:X}{tm:Array X}{c:Cf}{u:X2}{ta la:Option eM}{tn tc ln lc cb ub:Nat}
def aev(rd:Cr.ReadW)(C:eE)(sc R b0 c0 m Y e1 r0 r1:Nat)(hr:∃af,C=.region af (yE C) aL)(ho:(yE C).map opw=#[(.load 24 (cN sc),M R,Z),(.load 28 (cN 4),M b0,Z),(.call { callee:=.value (.func 6),args:=#[cN R,cN b0],argTypes:=#[24,28] },M c0,Z),(.move (cN c0),M m,Z),(.extract (cN m) 0,M Y,Z),(.extract (cN m) 1,M e1,Z),(.assign (cN Y),M r0,Z),(.assign (cN e1),M r1,Z)])(hd:(R≠4/\b0≠R/\Y≠m/\e1≠Y/\r0≠e1/\r1≠r0)/\R<161/\b0<161/\c0<161/\m<161/\Y<161/\e1<161/\r0<161/\r1<161)(hG:Oo w te xe)(hz:tm.size=161)(ag:tm[sc]? =M (ptr cb))(t5:tm[4]? =M (ptr ub))(ac:w.heap[cb]? =M (aG (jF c) 24 (0,0)))(ae:w.heap[ub]? =M (aG #[N ab u.id,N ab u.time,.slice ta tn tc,.slice la ln lc] 28 (0,0)))(hu:kW w u (.slice ta tn tc) (.slice la ln lc))(J:∀E w' r e (z:Array X),afn c u w r e w'->z.size=161->(∀s,s∉[R,b0,c0,m,Y,e1,r0,r1]->z[s]? =tm[s]?)->z[r0]? =M (.pointer (nv r))->z[r1]? =M (N ab e)->Wq E Post XX (b.at ⟨z,[]⟩ k) A w'):Wq D Post XX (b.at ⟨tm,[]⟩ (.code C::k)) A w:=by
 have hn:(yE C).size=8:=by have:=Z1 Array.size ho;simpa using this
 refine Wq.reg hr hn ?_;obtain⟨⟨d1,d2,d3,d4,d5,d6⟩,s0,s1,s2,s3,s4,s5,s6,s7⟩:=hd;refine Wq.qJ _ _ _ w (opm ho 0) (VE ac (KI ag)) ?_;refine Wq.qJ _ _ _ w (opm ho 1) (IJ ae (KI (pI t5 d1))) ?_;obtain⟨o2,aj,ai,aa,ah⟩:=opc ho 2;simp only[dC]
 have I:∀E w' r e,afn c u w r e w'->Wq E Post XX (b.at { tmps:=((tm.setIfInBounds R (.agg (jF c))).setIfInBounds b0 (fX #[N ab u.id,N ab u.time,.slice ta tn tc,.slice la ln lc])).setIfInBounds c0 (cQ #[.pointer (nv r),N ab e]),defers:=[] } (bL (yE C) [3,4,5,6,7]::k)) A w':=by
  intro E w' r e hP;refine Wq.qJ _ _ _ w' (opm ho 3) (mv (tnew (by grind))) ?_;simp only[dC];refine Wq.qJ _ _ (.pointer (nv r)) w' (opm ho 4) (xt (tnew (by grind)) rfl) ?_;simp only[dC];refine Wq.qJ _ _ (N ab e) w' (opm ho 5) (xt (pI (tnew (by grind)) d3) rfl) ?_;simp only[dC];refine Wq.qJ _ _ _ w' (opm ho 6) (asg (pI (tnew (by grind)) d4)) ?_;simp only[dC];refine Wq.qJ _ _ _ w' (opm ho 7) (asg (pI (tnew (by grind)) d5)) (Wq.done ?_);simp only[dC];refine J E w' r e _ hP (by simpa using hz) (λs hs=>?_) (pI (tnew (by grind)) d6) (tnew (by grind));simp only[dD,mR,or_false,not_or]at hs;obtain⟨q1,q2,q3,q4,q5,q6,q7,q8⟩:=hs;simp only[aV,Zs (mn q1),Zs (mn q2),Zs (mn q3),Zs (mn q4),Zs (mn q5),Zs (mn q6),Zs (mn q7),Zs (mn q8)]
 refine adM rd aj (Cr.jY ah) ai (KI (pI (tnew aA) d2)) (KI (tnew (by grind))) hG hu (λhE E w' p n1 n2 n3=>?_) (λe he E w' hc=>?_)
 .rw[aa];exact I E w' (M p) 0 ⟨n2,hE,rfl,n1,n3⟩
 .rw[aa];exact I E w' Z e ⟨hc,he⟩
end
section
variable {Post:vU}{w0:U}{te:cG}{xe:X}{sa:Option eM}{cap:Nat}{l:List LJ}{c:Cf}{cb nk:Nat}
def Oq(z:∀E w' y,jL (λ_=>False) w0 w'->WP (qe Tryz.prog.funcs E) w' y->Keep (qe Tryz.prog.funcs E) Post y->Post.post (cK aR) y)(E:Nat->Prop){a':Act}(w':U)(todo:List pS)(I:a'.tmps[6]? =M (cK aR))(hd:a'.defers=[])(hc:jL (λ_=>False) w0 w'):Wq E Post [] { (base 3).at a' todo with mode:=.returning } [] w':=
 Wq.last (v:=cK aR) (fn:=eZ) rfl hd rfl Tryz.func3 XN (λw=>by
  have:a'.tmps[6]? =_:=I;simp[results,Tryz.results3,go_sem,Frame.at,this]) (λw=>by simp[results,Tryz.results3,go_sem]) (z E w' · hc)
def Yt{s:Nv}{p:Nn}(h:TI cb w0 te xe c chain s p ps vch w):oz w vch ps:=⟨h.row.rd,λq z=>pV (h.up q z) h.jM λ_ _ e=>e⟩
def VD(rd:Cr.ReadW){D:Nat->Prop}{tm:Array X}{s:Nv}{p:Nn}{sc:X}{i:Nat}(ah:∀D' w' y,jL (λ_=>False) w0 w'->WP (qe Tryz.prog.funcs D') w' y->Keep (qe Tryz.prog.funcs D') Post y->Post.post (cK aR) y)(R:TI cb w0 te xe c chain s p ps vch w)(hS:US tm sc cb p.x.nk vch i):Wq D Post [] ((base 3).at ⟨tm,[]⟩ [.code (bR Eu (bR DU (bR ED tuT)))]) [] w:=by
 have ag:=hS.sz;refine Wq.seq (Wq.reg (n:=3) ⟨_,rfl⟩ XN ?_);refine Wq.qJ (.move (cN 8)) (M 133) (ptr p.x.nk) w XN (mv hS.t8) ?_;obtain⟨o2,aq,az,av,a4⟩:∃o,(yE Eu)[1]? =M o/\o.op=.call { callee:=.value (.func 12),args:=#[cN 133],argTypes:=#[31] }/\o.dst=M 134/\o.guard=Z:=⟨_,rfl,rfl,rfl,rfl⟩
 simp only[dC];refine O8 rd (p:=p) aq (Cr.jY a4) az (KI (tnew aA)) R.glo R.nt (by rw[<-R.nt.sil];exact R.nt.nb.nd.src.few) λD2 w2 p2 s2 q1 q2 q3 q4 q5 q6 q7 q8 q9=>?_;rw[av];simp only[dC];refine Wq.qJ (.assign (cN 134)) (M 7) (cK aR) w2 XN (asg (tnew (by simp[ag]))) (Wq.done ?_);simp only[dC];have a5:=R.step q1 q8 q9
 have a0:US (((tm.setIfInBounds 133 (ptr p.x.nk)).setIfInBounds 134 (cK aR)).setIfInBounds 7 (cK aR)) sc cb p2.x.nk vch i:=by
  rw[q6];exact⟨by simpa using ag,pI (pI (pI hS.t2 aB) aB) aB,pI (pI (pI hS.t3 aB) aB) aB,pI (pI (pI hS.t8 aB) aB) aB,pI (pI (pI hS.t10 aB) aB) aB,pI (pI (pI hS.t11 aB) aB) aB⟩
 have hc:=R.nt.np.hc;have a7:=(Dv.jW hc).2.1;have h1:=(Dv.jW hc).1;obtain⟨ls,Y⟩:∃ls,ls=(Dv.gone c chain chain.length).log:=⟨_,rfl⟩
 have ai:p2.x.v.log.map cI=ls:=by
  have:=(q1.nb.vc.rm.some (by rw[q3];omega)).1;rw[q4,gI,q2,q3]at this;rw[Y,this]
 have ak:Dv.all c chain=(0,ls):=by
  unfold Dv.all;rw[Zs (by rw[R.nt.np.hcf];decide),Zs (by rw[hc];decide),Y]
 have I:=(Hm.Df (c:=c) hc chain.length).2;rw[<-Y]at I;have af:∀y,y∈ls->y.txs.length<=4294967296/\y.deps.length<=4294967296:=λy hy=>by have:=I y hy;unfold Hm.Few at this;omega
 have aj:0<ls.length:=by rw[Y];exact qn.2 (Dv.oI hc R.nt.np.hcf chain.length jB).some
 have a6:ls.length<=2147483648:=by rw[Y];exact Wy hc R.nt.np.hcf jB
 refine Wq.seq (Wq.walk λt d Q hN _=>Hm.aec (w:=on w2 t d) (c:=c) (x:=p2.x) (ls:=ls) a0 (tnew (by simp[ag])) (lX.heap q1.nb.nd rfl) ai aj af λtm w3 aa ac qs E t7 t20 hq hr ar=>hN _ _ ?_);have au:jL (λ_=>False) w2 w3:=(kV ar).heaps rfl rfl;have J:=a5.still au;have hU:=Yt J;have z:=E.sz;obtain⟨ya,yc,an⟩:=J.row.slice;rw[an]at hU;refine Wq.seq (Wq.reg (n:=8) ⟨_,rfl⟩ XN ?_);refine Wq.qJ (.load 24 (cN 3)) (M 138) (.agg (jF c)) w3 XN (VE J.cfg (KI E.t3)) ?_;simp only[dC];refine Wq.qJ (.move (cN 10)) (M 139) vch w3 XN (mv (pI E.t10 aB)) ?_;simp only[dC];obtain⟨o4,a3,ao,a1,a2⟩:∃o,(yE ED)[2]? =M o/\o.op=.call { callee:=.value (.func 15),args:=#[cN 138,cN 139],argTypes:=#[24,35] }/\o.dst=M 140/\o.guard=Z:=⟨_,rfl,rfl,rfl,rfl⟩
 refine acv rd (ps:=ps) a3 (Cr.jY a2) ao (KI (pI (tnew aA) aB)) (by rw[<-an];exact KI (tnew (by simp[z]))) J.glo.gl hU (by rw[R.len];omega) J.glo.hd λD5 w5 va pl r1 r2 r3 ae=>?_;rw[R.eq,ak]at r3⊢;have r3:pl.map cI=ls:=r3;rw[a1];obtain⟨wa,wc,rfl⟩:=r1.slice;have am:pl.length=ls.length:=by rw[<-r3,bC]
 simp only[dC];refine Wq.qJ (.move (cN 140)) (M 137) (cQ #[.slice wa pl.length wc,N ab 0]) w5 XN (mv (tnew (by simp[z]))) ?_;simp only[dC];refine Wq.qJ (.extract (cN 137) 0) (M 141) (.slice wa pl.length wc) w5 XN (xt (tnew (by simp[z])) rfl) ?_;simp only[dC];refine Wq.qJ (.extract (cN 137) 1) (M 142) (N ab 0) w5 XN (xt (pI (tnew (by simp[z])) aB) rfl) ?_;simp only[dC];refine Wq.qJ (.assign (cN 141)) (M 21) (.slice wa pl.length wc) w5 XN (asg (pI (tnew (by simp[z])) aB)) ?_;simp only[dC];refine Wq.qJ (.assign (cN 142)) (M 22) (N ab 0) w5 XN (asg (pI (tnew (by simp[z])) aB)) (Wq.done ?_);simp only[dC];have aw:Bz w5 (.slice aa ls.length ac) qs:=⟨Hm.Rd.kept hr.1 ae.size λ_ g _ hl=>ae.block g hl (λe=>e),λq hq=>?lo⟩
 case lo=>
  have hk:∀{v:X}{x:List (List UInt8)},Hm.kQ w3 v x->Hm.kQ w5 v x:=λh=>Hm.Row.kept h λg hg=>ae.block g (Hm.Row.lt h hg) (λe=>e);exact⟨hk (hr.2 q hq).1,hk (hr.2 q hq).2.1,(hr.2 q hq).2.2⟩
 have ap:Bz w5 (.slice wa ls.length wc) pl:=by
  rw[<-am];refine⟨r1.rd,λq hq=>?_⟩;have:=af q.1 (by rw[<-r3];exact pT hq);exact⟨(r2 q hq).1,(r2 q hq).2,aA,aA⟩
 rw[am];refine Wq.walk λt d Q _ hR=>Hm.ahB (w:=on w5 t d) (nk:=p2.x.nk) (sc:=sc) (cb:=cb) (vch:=vch) (i:=i) ⟨by simpa using z,(pI (pI (pI (pI (pI (pI (pI (pI E.t2 aB) aB) aB) aB) aB) aB) aB) aB),(pI (pI (pI (pI (pI (pI (pI (pI E.t3 aB) aB) aB) aB) aB) aB) aB) aB),(pI (pI (pI (pI (pI (pI (pI (pI E.t8 aB) aB) aB) aB) aB) aB) aB) aB),(pI (pI (pI (pI (pI (pI (pI (pI E.t10 aB) aB) aB) aB) aB) aB) aB) aB),(pI (pI (pI (pI (pI (pI (pI (pI E.t11 aB) aB) aB) aB) aB) aB) aB) aB)⟩ (pI (pI (pI (pI (pI (pI (pI (pI t7 aB) aB) aB) aB) aB) aB) aB) aB) (pI (pI (pI (pI (pI (pI (pI (pI t20 aB) aB) aB) aB) aB) aB) aB) aB) (pI (tnew (by simp[z])) aB) (tnew (by simp[z])) ap aw (by rw[r3,hq]) aA λtm w6 t6 ay=>hR _ _ λtodo=>Oq ah D5 w6 todo t6 rfl ((J.jM.trans ae λ_ _ e=>e).trans ((kV ay).heaps rfl rfl) λ_ _ e=>e)
end
end
section
section
variable {Post:vU}{w0:U}{te:cG}{xe:X}{sa:Option eM}{cap:Nat}{l:List LJ}{c:Cf}{cb:Nat}
def Oa(rd:Cr.ReadW)(R:KR w0 (.slice sa l.length cap) l)(hl:l.length<=4294967296)(aa:∀D' w' y,jL (λ_=>False) w0 w'->WP (qe Tryz.prog.funcs D') w' y->Keep (qe Tryz.prog.funcs D') Post y->Post.post (cK aR) y):∀r i,i+r=l.length->∀D w tm chain s p ps vch,TI cb w0 te xe c chain s p ps vch w->s.last<=1+i->US tm (.slice sa l.length cap) cb p.x.nk vch i->Wq D Post [] ((base 3).at ⟨tm,[]⟩ [.code Af,.inLoop Af,.inBlock 0,.code (bR Eu (bR DU (bR ED tuT)))]) [] w:=by
 intro r
 induction r with
 |zero=>
  intro i hi D w tm chain s p ps vch hF aq E;rw[show ly Af=ly _ from by rw[Hm.QV]];refine Wq.seq (Wq.seq (Wq.walk λt d Q I _=>Hm.Xv E rfl λtm E Y=>I _ _ (Wq.same (y:=w) (λ_ _=>rfl) (Wq.cond (t:=aL) (by rw[KI Y,ZZ aA]) ?_))));rw[Zs aB];exact Wq.exit (k':=[.code (bR Eu (bR DU (bR ED tuT)))]) rfl (VD rd aa hF E)
 |succ r ih=>
  intro i hi D w tm chain s p ps vch hF aq E;rw[show ly Af=ly _ from by rw[Hm.QV]];refine Wq.seq (Wq.seq (Wq.walk λt d Q I _=>Hm.Xv E rfl λtm E Y=>I _ _ (Wq.same (y:=w) (λ_ _=>rfl) (Wq.cond (t:=aR) (by rw[KI Y,Z0 aA]) ?_))));rw[ZD rfl];refine Wq.skip (Wq.seq (Wq.block (Wq.seq ?_)));have ai:i<l.length:=aA
  obtain⟨o,ho⟩:∃o,l[i]? =M o:=⟨_,aO ai⟩
  have z:=aX ho;obtain⟨g,off,au,ak,ay,hg,-⟩:=R.rd.pos aA;cases ak;have ap:=Hm.Rd.kept R.rd hF.jM.size λ_ g _ hl=>hF.jM.block g hl λe=>e;have kc:∀t d {j:Nat} {u:X},j<6->o.cells[j]? =M u->(on w t d).cell? ⟨g,off+(i*6+j),Z⟩=M u:=λt d {_ _} hj hu=>Hm.Rd.rec LJ.cells 6 (λ_=>rfl) ap ho hj hu;obtain⟨ta,tc,ac⟩:=Hm.Rd.slice (R.up o z).1;obtain⟨la,lc,ae⟩:=Hm.Rd.slice (R.up o z).2.1;have ag:=R.up o z;rw[ac,ae]at ag;refine Wq.walk λt d Q I _=>Hm.adv (w:=on w t d) (o:=o) E rfl ai (kc t d (j:=0) aA rfl) (kc t d (j:=1) aA rfl) (kc t d (j:=2) aA rfl) (kc t d (j:=3) aA rfl) (kc t d (j:=4) aA (by rw[<-ac];rfl)) (kc t d (j:=5) aA (by rw[<-ae];rfl)) λtm w1 E t12 hq=>I _ _ ?_;have hq:w1.heap=(w.alloc (aG #[N ab o.kind,N ab o.n,N ab o.u.id,N ab o.u.time,.slice ta o.u.txs.length tc,.slice la o.u.logs.length lc] 37)).heap:=hq;have am:=hF.still (tJ hq);have ah:w1.heap[w.heap.size]? =M (aG #[N ab o.kind,N ab o.n,N ab o.u.id,N ab o.u.time,.slice ta o.u.txs.length tc,.slice la o.u.logs.length lc] 37 (0,0)):=by rw[hq];exact cT _ _
  obtain⟨d1,d2⟩:=R.kd o z;obtain⟨n1,n2⟩:=R.n o z;obtain⟨m1,m2⟩:=R.tm o z;refine Wq.seq (Wq.walk λt d Q I _=>Hm.aeF (w:=on w1 t d) E t12 ((aI (show(on w1 t d).heap[w.heap.size]? =_ from ah) 0).trans rfl) d1 d2 λtm E t12 aj=>I _ _ (Wq.same (y:=w1) (λ_ _=>rfl) (Wq.block ?_)));refine aaG rd n1 n2 m1 m2 ag am aA E t12 aj ah λD2 w2 av J s2 p2 ao af ar aw e2 an=>?_;refine Wq.inBlock (Wq.inBlock (Wq.walk λt d Q I _=>Hm.adY an aA λtm E=>I _ _ (Wq.same (y:=w2) (λ_ _=>rfl) (Wq.inLoop ?_))));exact ih (i+1) aA D2 w2 tm J s2 p2 ao af ar aA (by rw[e2];exact E)
end
section
variable {Post:vU}{D:Nat->Prop}{w:U}{te:cG}{xe:X}{c:Cf}{u:X2}{ta la:Option eM}{tn tc ln lc:Nat}{sa:Option eM}{cap:Nat}{l:List LJ}
def NT.new{p:Nn}{w:U}(h:NC c [{ u with id:=1 }] 1 1 aL 0 p w):NT c [{ u with id:=1 }] ⟨[{ u with id:=1 }],1,1,aL,0,1⟩ p w:=
 ⟨⟨h.nd,h.vc,h.ps,h.low⟩,⟨h.hc,h.hc,h.hcf,aC,Nat.le_refl 1,Nat.le_refl 1,aC,rfl,λv z=>by simp at z,aC,λv z=>by simp at z;subst z;exact Int.le_refl 1,λv z=>by simp at z;subst z;exact Int.le_refl 1⟩,h.last,h.sil,h.rs⟩
def WB(rd:Cr.ReadW)(hG:Oo w te xe)(hu:kW w u (.slice ta tn tc) (.slice la ln lc))(hO:KR w (.slice sa l.length cap) l)(hl:l.length<=4294967296)(z:∀D' w' y,jL (λ_=>False) w w'->WP (qe Tryz.prog.funcs D') w' y->Keep (qe Tryz.prog.funcs D') Post y->Post.post (cK aR) y):Wq D Post [] ((base 3).at { tmps:=#[.agg (jF c),fX #[N ab u.id,N ab u.time,.slice ta tn tc,.slice la ln lc],.slice sa l.length cap]++Array.replicate 158 aE,defers:=[] } [.code (bR X3 (bR YQ (bR XP (bR aad (bR Xg (bR Yi (bR X0 (bR JI (bR (bR LK (.block 0 (.loop Af))) (bR Eu (bR DU (bR ED tuT))))))))))))]) [] w:=by
 simp only[dH,dG,dU,dI,dS,dN];obtain⟨w1,ar,az,a6⟩:=jD w (jF c) 24;obtain⟨w2,aq,av,ap⟩:=jD w1 #[N ab u.id,N ab u.time,.slice ta tn tc,.slice la ln lc] 28;have s1:↑w1=w.heap.size+1:=by rw[ar];simp
 have s2:↑w2=w.heap.size+2:=by rw[aq];simp[s1]
 have I:=kV (az.trans (av.mono az.size));rw[s1]at ap;have y1:=(av.block _ aA).trans a6;have H:cH _:=jy hG (jy hu (jy hO (jy hl (jy z (jy I (jy y1 (jy ap s2)))))));clear hG hu hO hl z az av I a6 ap y1;refine Wq.seq (Wq.walk λt d Q E _=>?_);have J:cH _:=E;clear E;simp only[X3,vF,cp,eZ,jF];go_wp2_with fail;refine J.out _ _ (Wq.same (y:=w2) (λ_ _=>by rw[aq,ar];rfl) (Wq.seq ?_));clear J ar aq s1 s2;rw[show(on w t d).heap.size=w.heap.size from rfl];obtain⟨hG,hu,hO,hl,z,I,y1,y2,s2⟩:=H.out;have aw:=hG.kept I λ_ e=>e.elim;refine Wq.reg (n:=2) ⟨_,rfl⟩ XN ?_;obtain⟨z0,bd,bl,bj,bg⟩:∃o,(yE YQ)[0]? =M o/\o.op=.call { callee:=.value (.func 5),args:=#[],argTypes:=#[] }/\o.dst=M 24/\o.guard=Z:=⟨_,rfl,rfl,rfl,rfl⟩
 refine YK rd bd (Cr.jY bg) bl aw.gl aw.hd λD4 w4 aa=>?_;rw[bj];simp only[dC,bQ,dP,dO];refine Wq.qJ (.assign (cN 24)) (M 7) (cK aR) w4 XN (asg rfl) (Wq.done ?_);simp only[dC,bQ,dP,dO];clear hG hu hO hl z I y1 y2 aw s2;refine Wq.seq (Wq.walk λt d Q E _=>?_);have J:cH _:=E;clear E;simp only[XP,vF,cp,eZ];go_wp2_with fail;refine J.out _ _ (Wq.same (y:=w4) (λ_ _=>rfl) (Wq.seq ?_));clear J;obtain⟨hG,hu,hO,hl,z,I,y1,y2,s2⟩:=H.out;have ae:=I.trans aa λ_ _ e=>e;have z1:=(aa.block _ (jE y1) λe=>e).trans y1;have z2:=(aa.block _ (jE y2) λe=>e).trans y2;refine aev rd aad 3 28 29 30 27 31 32 8 9 ⟨_,rfl⟩ XN aB (hG.kept ae λ_ e=>e.elim) rfl rfl rfl z1 z2 (pV hu ae λ_ _ e=>e) λD5 w5 r e bp ak a1 k5 a8 a9=>?_;have a2:=(k5 2 aB).trans rfl;have a3:=(k5 3 aB).trans rfl;have a4:=(k5 4 aB).trans rfl;clear k5;obtain⟨l5,rfl,hs⟩:=Hm.jZ a1
 iterate 161 (obtain⟨_,l5,rfl,h'⟩:=Hm.jV hs;clear hs;have hs:=h';clear h')
 obtain rfl:=cJ.1 hs;clear hs a1;simp only[eX,eU,dX,aK]at a2 a3 a4 a8 a9;subst a2 a3 a4 a8 a9;have Y:=ae.trans ak.1 λ_ _ e=>e;cases r with
 |none=>
  have he:newE c u=M e:=ak.2;have bk:=Ug he;have HP:cH _:=jy z Y;clear ak he hG hu hO hl z I y1 y2 s2 ae z1 z2 Y;refine Wq.seq (Wq.walk λt d Q _ hR=>?_);have HR:cH _:=hR;clear hR;simp only[Xg,vF,cp,eZ,nv,jf];obtain rfl|rfl:=bk
  .go_wp2_with fail;exact HR.out _ _ λtodo=>Oq HP.out.1 D5 _ todo rfl rfl (HP.out.2.heaps rfl rfl)
  .go_wp2_with fail;exact HR.out _ _ λtodo=>Oq HP.out.1 D5 _ todo rfl rfl (HP.out.2.heaps rfl rfl)
 |some p=>
  obtain⟨ac,hE,rfl,hn,ag⟩:=ak;have z2:=(ac.block _ (jE z2) λe=>e).trans z2;have z1:=(ac.block _ (jE z1) λe=>e).trans z1;have ay:=ae.size;have au:=ac.size;have ah:=aa.size;have H5:cH _:=jy hG (jy hu (jy hO (jy hl (jy z (jy Y (jy z1 (jy z2 (jy hE (jy hn ag)))))))));have HS:cH _:=jy s2 (jy ay (jy au ah));clear hG hu hO hl z I y1 y2 s2 ae z1 z2 Y hE hn ag ac ay au ah;refine Wq.seq (Wq.walk λt d Q E _=>?_);have J:cH _:=E;clear E;simp only[Xg,vF,cp,eZ,nv,cO];go_wp2_with fail;refine J.out _ _ (Wq.same (y:=w5) (λ_ _=>rfl) (Wq.seq (Wq.walk λt d Q E _=>?_)));clear J;have J:cH _:=E;clear E;simp only[Yi,vF,cp,eZ];go_wp2_with fail;refine J.out _ _ (Wq.same (y:=w5) (λ_ _=>rfl) (Wq.seq (Wq.walk λt d Q E _=>?_)));clear J;have J:cH _:=E;clear E;obtain⟨W6,aj⟩:∃W,W=w5.setCell ⟨w.heap.size+1,0,Z⟩ (N ab 1):=⟨_,rfl⟩
  obtain⟨c0,c1,c2,c3⟩:=cells4 (show(on w5 t d).heap[w.heap.size+1]? =_ from H5.out.2.2.2.2.2.2.2.1);have fz:=aQ (show(on w5 t d).heap[w.heap.size+1]? =_ from H5.out.2.2.2.2.2.2.2.1);simp only[X0,vF,cp,eZ];go_wp2_with fail;have ai:jL (λk=>k=w.heap.size+1) w5 W6:=by rw[aj];exact(Hm.jI.set w5 (w.heap.size+1) 0 _).h
  have am:W6.heap[w.heap.size+1]? =M (aG #[N ab 1,N ab u.time,.slice ta tn tc,.slice la ln lc] 28 (0,0)):=by rw[aj,block_setCell H5.out.2.2.2.2.2.2.2.1];rfl
  refine J.out _ _ (Wq.same (y:=W6) (λ_ _=>by rw[aj];rfl) (Wq.seq (Wq.walk λt d Q E _=>?_)));clear J c0 c1 c2 c3 fz aj;have J:cH _:=E;clear E;obtain⟨c0,c1,c2,c3⟩:=cells4 (show(on W6 t d).heap[w.heap.size+1]? =_ from am);have ba:=λV=>Hm.bsU V 1 u.time ta la tn tc ln lc;obtain⟨w7,a7,ao,an⟩:=jD W6 #[N ab 1,N ab u.time,.slice ta tn tc,.slice la ln lc] 28;have H6:cH _:=jy ai (jy am (jy ao an));clear ai am ao an;simp only[JI,vF,cp,eZ];go_wp2_with fail;refine J.out _ _ (Wq.same (y:=w7) (λ_ _=>by rw[a7];rfl) (Wq.seq (Wq.seq (Wq.walk λt d Q E _=>?_))));clear J a7 c0 c1 c2 c3 ba;have J:cH _:=E;clear E;simp only[LK,vF,cp,eZ];go_wp2_with fail;refine J.out _ _ (Wq.same (y:=w7) (λ_ _=>rfl) (Wq.block (Wq.loop ?_)));obtain⟨hG,hu,hO,hl,z,Y,z1,z2,hE,hn,ag⟩:=H5.out;obtain⟨ai,am,ao,an⟩:=H6.out;obtain⟨s2,ay,au,ah⟩:=HS.out;have af:jL (λk=>k=w.heap.size+1) w5 w7:=ai.trans ((kV ao).mono λ_ _ e=>e.elim) λ_ _ e=>e;have bo:=ai.size;have bb:∀g,NK p g->g≠w.heap.size+1:=λg hg e=>by have:=ag g hg;omega
  have bh:Hm.Ro w5 w7:=λg cs t fz hg ht=>af.block g (jE hg) λe=>by
   rw[e,z2]at hg;simp only[aK,qb]at hg;rcases ht with e|e<;>rw[<-hg.2.1]at e<;>exact Xs e aB
  have R:=NT.new hn;have bn:=hG.gl;have bq:1<Tryz.prog.globals.size:=Z2 XN;have bm:=R.nb.kept (w':=w7) (λg hg=>af.block g (R.nb.lt hg) (bb g hg)) bh (af.block _ R.nb.vc.ts.hd.pos λe=>aA);have a0:jL (λ_=>False) w w7:=Y.trans af λg hg e=>aA
  have a5:Hm.Row w7 28 4 (aH (M ⟨↑W6,0,Z⟩) 1 1) 1 [N ab 1,N ab u.time,.slice ta tn tc,.slice la ln lc]:=⟨rfl,cD ⟨_,0,1,_,rfl,an,jB,by unfold maxLen;omega,aC,λj u hj=>by simpa using hj⟩⟩
  refine Oa rd hO hl z l.length 0 aA D5 w7 _ [{ u with id:=1 }] ⟨[{ u with id:=1 }],1,1,aL,0,1⟩ p [({ u with id:=1 },.slice ta tn tc,.slice la ln lc)] (aH (M ⟨↑W6,0,Z⟩) 1 1) (cb:=w.heap.size) (c:=c) (te:=te) (xe:=xe) ⟨⟨bm,R.np,R.last,R.sil,R.rs⟩,a5,λq hq=>?_,rfl,λg hg=>?_,λg hg=>by have:=ag g hg;omega,hG.kept a0 λ_ e=>e.elim,a0,(af.block _ (jE z1) λe=>aA).trans z1⟩ jB ⟨rfl,rfl,rfl,rfl,rfl,rfl⟩
  .rw[dK]at hq;subst hq;exact⟨hu.1,hu.2.1,hu.2.2⟩
  .have e:W6.heap.size=g:=by simpa[cV]using hg
   subst e;exact⟨λe=>by have:=R.nb.lt e;omega,by have:=Y.size;omega⟩
end
end
end Pa
section
open Go.ChangeShapes Go.WideShapes Go.ChangeAt Go.RowKit
def OL:Tryz.prog.cellsOf 4=1:=XN
def Xd:Tryz.prog.cellsOf 5=1:=XN
def Si:Tryz.prog.globalNamed "tributary/item.heads"=M 1:=XN
def IW:(Tryz.prog.globals[ 1 ]?).map (·.type)=M 249:=XN
def JO:Tryz.prog.cellsOf 249=6:=XN
def Ot:Tryz.prog.cellsOf 248=3:=XN
def YO{W:U}{l:List (String×DataW Unit)}(h:laidMet bA (("tributary/item.heads",Rows.laid_tributary_item_heads)::l) W):lJ W:=by
 obtain⟨ps,⟨g',t',cs,aa,p,q,J,R,E,hd,_,_⟩,_⟩:=h;obtain rfl:=fC (Si.symm.trans J);obtain rfl:=fC (IW.symm.trans R);obtain⟨xs,m,_,Y,z,I,hi⟩:=DataW.trod_array Tryz.underlying249 hd;rw[JO]at z;have hc:=λi=>World.var?_cell Si E i;obtain⟨cs⟩:=cs
 match cs,z,xs,I with
 |[a0,a1,a2,a3,a4,a5],_,[x0,x1],_=>
 have h0:=hi 0 aA;have h1:=hi 1 aA;simp only[Ot]at h0 h1;simp only[Rows.laid_tributary_item_heads,dJ,DataW.agg.injEq,eP,fP,List.cons.injEq,and_true]at Y;obtain⟨y0,y1,y2,n,hy,_,k0,k1,k2⟩:=mp Tryz.underlying248 h0;obtain⟨z0,z1,z2,n',hz,_,l0,l1,l2⟩:=mp Tryz.underlying248 h1;simp only[OL,Xd]at k0 k1 k2 l0 l1 l2;obtain⟨b0,e0,rfl⟩:=DataW.trod_bool oe k0;obtain⟨b1,e1,rfl,_⟩:=eW il k1;obtain⟨b2,e2,rfl,_⟩:=eW il k2;obtain⟨b3,e3,rfl⟩:=DataW.trod_bool oe l0;obtain⟨b4,e4,rfl,_⟩:=eW il l1;obtain⟨b5,e5,rfl,_⟩:=eW il l2;simp at e0 e1 e2 e3 e4 e5;subst e0 e1 e2 e3 e4 e5;subst hy hz;simp at Y;obtain⟨⟨⟨rfl,rfl,rfl⟩,rfl,rfl,rfl⟩,_⟩:=Y;exact⟨⟨hc 0,hc 1,hc 2⟩,hc 3,hc 4,hc 5⟩
end
namespace Pa
open Go Go.Conc Go.ChangeShapes Go.WideShapes Go.ChangeAt Go.RowKit
open Hm (PU oq oz kW D6 qH Rd nT oO jF jL)
open Dv (Tx X2 Cf)
open Po hiding X2 H B IT PR NB
section
variable {t:cG}{f0 f1 f2 f3:Field}{sp:Nat->Bool}{b:Nat}{D:Nat->Prop}
def MV:Tryz.prog.cellsOf 125=3:=XN
def zW:Tryz.prog.cellsOf 28=4:=XN
def yL:Tryz.prog.cellsOf 9=1:=XN
def OM:Tryz.prog.cellsOf 26=1:=XN
def U6:Tryz.prog.cellsOf 25=1:=XN
def zk:Tryz.prog.cellsOf 3=1:=XN
def Gj:Tryz.prog.cellsOf 22=1:=XN
def Jc:Tryz.prog.cellsOf 24=7:=XN
def Yj{H:Type}:∀d:DataW H,1<=Rows.uptoBulk d
 |.lit l=>by cases l<;>simp[Rows.uptoBulk]
 |.nil=>by simp[Rows.uptoBulk]
 |.ptr d=>by simp[Rows.uptoBulk]
 |.slice a b=>by simp[Rows.uptoBulk]
 |.agg a=>by simp[Rows.uptoBulk]
 |.iface a d=>by simp[Rows.uptoBulk]
 |.map m=>by simp[Rows.uptoBulk]
 |.held h=>by simp[Rows.uptoBulk]
def JK{H:Type}:∀l:List (DataW H),l.length<=Rows.uptoBulkAll l
 |[]=>aC
 |d::l=>by
  have:=Yj d;have:=JK l;simp only[Rows.uptoBulkAll,aU];omega
def Lr{H:Type}{d:DataW H}:∀{l:List (DataW H)},d∈l->Rows.uptoBulk d<=Rows.uptoBulkAll l
 |[],h=>by cases h
 |e::l,h=>by
  simp only[Rows.uptoBulkAll];obtain rfl|h:=dD.1 h
  .omega
  .have:=Lr h;omega
def Rz{α:Type}{Q:Nat->α->Prop}:∀n,(∀i,i<n->∃z,Q i z)->∃l:List α,l.length=n/\∀i z,l[i]? =M z->Q i z
 |0,_=>⟨[],rfl,λi z h=>by simp at h⟩
 |n+1,h=>by
  obtain⟨l,I,J⟩:=Rz n λi E=>h i aA;obtain⟨z,Y⟩:=h n aA;refine⟨l++[z],by simp[I],λi y R=>?_⟩;obtain E|E:=gG i l.length
  .grind
  .grind
section
variable {H:Type}{enc:cG×X->H}{W:U}{held:Bool}
def add_add(a:eM)(hs:a.spot=Z)(n:Nat):a.add n=⟨a.block,a.off+n,Z⟩:=by
 obtain⟨b,o,s⟩:=a;simp only at hs;subst hs;unfold jp;split
 .grind
 .rfl
def IL{e:cG}{k fuel:Nat}{cs:List X}{x:DataW H×List MemPlace}(ht:Tryz.prog.underlying t=M (.slice e))(hk:Tryz.prog.cellsOf e=k)(J:0<k)(h:gD enc bA W 0 (λ_=>aR) held fuel t cs=M x){α:Type}(f:α->List X)(hf:∀a,(f a).length=k)(B:α->DataW H->Prop)(ag:∀n cs' y,gD enc bA W 0 (λ_=>aR) held n e cs'=M y->∃a,cs'=f a/\B a y.1):∃(v:X)(l:List α),cs=[v]/\Rd W k v l.length (l.flatMap f)/\l.length<=Rows.uptoBulk x.1/\(∃a c,v=.slice a l.length c)/\∀a∈l,∃d,B a d/\Rows.uptoBulk d<=Rows.uptoBulk x.1:=by
 obtain⟨rfl,rfl⟩|⟨a,len,cap,m,n,D,Pl,rfl,hb,ai,am,hm,rfl,hx⟩:=Go.Deep.open_slice ht h
 .exact⟨_,[],rfl,Hm.Rd.nil _ _ _ _,aC,⟨Z,0,rfl⟩,λa h=>by cases h⟩
 simp only[if_true]at hm;subst hm;rw[hk]at hx
 have I:0<m->a.spot=Z:=λh0=>by
  obtain⟨cs',h1,_⟩:=hx 0 h0;obtain⟨_,R,hc⟩:=World.cells?_some h1;have Y:=hc 0 J;rw[aO aA]at Y;unfold World.cell? at Y;split at Y
  .split at Y
   .cases Y
   .rename_i af;have e:(a.add (0*k)).add 0=a:=by simp[jp]
    rw[e]at af;simpa using af
  .cases Y
 have ac:∀i,i<m->∃(z:α)(cs':List X),cs'.length=k/\(∀j,j<k->W.cell? ⟨a.block,a.off+i*k+j,Z⟩=cs'[j]?)/\cs'=f z/\B z (D i):=by
  intro i hi;obtain⟨cs',h1,h2⟩:=hx i hi;obtain⟨_,R,hc⟩:=World.cells?_some h1;obtain⟨z,hz,hB⟩:=ag n cs' _ h2;have hs:=I aA;refine⟨z,cs',R,λj hj=>?_,hz,hB⟩;have:=hc j hj;rw[add_add a hs,add_add _ rfl]at this;exact this
 obtain⟨l,R,hq⟩:=Rz (α:=α) (Q:=λi z=>∃cs':List X,cs'.length=k/\(∀j,j<k->W.cell? _=cs'[j]?)/\cs'=f z/\B z _) len λi hi=>ac i aA
 have E:Rows.uptoBulkAll ((ir len).map D)<=Rows.uptoBulk (H:=H) (.slice ((ir len).map D) ((ir (m-len)).map λj=>D (len+j))):=by
  simp only[Rows.uptoBulk];omega
 refine⟨_,l,rfl,?_,?_,⟨M a,m,by rw[R]⟩,λz hz=>?_⟩
 .rw[R]
  have key:∀j u,(l.flatMap f)[j]? =M u->W.cell? ⟨a.block,a.off+j,Z⟩=M u:=λj u hj=>by
   have aa:=(aN.1 hj).1;rw[Hm.mQ f k hf,R]at aa;have hi:=(Nat.div_lt_iff_lt_mul J).2 aa;have hr:j%k<k:=Nat.mod_lt _ J;have ah:j=j/k*k+j%k:=by have:=Nat.div_add_mod j k;rw[Nat.mul_comm]at this;omega
   have hz:l[j/k]? =M l[j/k]:=aO aA;obtain⟨cs',c1,c2,c3,_⟩:=hq _ _ hz;have ae:=Hm.flat_get f k hf l _ _ _ hz hr;rw[<-ah,hj,<-c3]at ae;rw[show a.off+j=a.off+j/k*k+j%k by omega,c2 (j%k) hr];exact ae.symm
  refine⟨by rw[Hm.mQ f k hf,R],_,m,rfl,ai,λh0=>⟨_,_,?_,?_,key⟩⟩
  .have hs:=I aA;obtain⟨b,o,sp⟩:=a;simp only at hs;subst hs;rfl
  .have aj:0<(l.flatMap f).length:=by rw[Hm.mQ f k hf,R];exact Nat.mul_pos h0 J
   have:=key 0 _ (aO aj);unfold World.cell? at this;split at this
   .grind
   .cases this
 .rw[R];have:=JK ((ir len).map D);rw[bC,List.length_range]at this;exact bH this E
 .obtain⟨i,hi⟩:=jw.1 hz;obtain⟨_,_,_,_,hB⟩:=hq i z hi;have ak:=(aN.1 hi).1;exact⟨_,hB,bH (Lr (bM.2 ⟨i,gV.2 aA,rfl⟩)) E⟩
end
section
variable {H:Type}{enc:cG×X->H}{W:U}{held:Bool}{fuel:Nat}{cs:List X}{x:DataW H×List MemPlace}
def aa4(s:ByteArray):bB s=nT s.data.toList:=by simp[nT]
def Ir{k:IntKind}{n:Int}(hk:k=eA)(h:(Lit.int k n).wf=aR):∃m:Nat,n=m:=by subst hk;refine⟨n.toNat,?_⟩;have z:IntKind.u32.min=0:=rfl;simp only[Lit.wf,dF,Z3]at h;omega
def open_strs(h:gD enc bA W 0 (λ_=>aR) held fuel 26 cs=M x):∃v l,cs=[v]/\qH W v l/\l.length<=Rows.uptoBulk x.1:=by
 obtain⟨v,l,E,h2,h3,_,_⟩:=IL py yL aA h (λs=>[nT s]) (λ_=>rfl) (λ_ _=>True) (λn cs' y z=>by
  obtain⟨s,rfl,rfl,_⟩:=DataW.trod_string eO z;exact⟨s.data.toList,by rw[<-aa4],trivial⟩)
 refine⟨v,l,E,?_,h3⟩;have e:∀l:List (List UInt8),l.flatMap (λs=>[nT s])=l.map nT:=λl=>by induction l with|nil=>rfl|cons a l ih=>simp[ih]
 unfold qH;rw[<-e l];exact h2
def XL(h:gD enc bA W 0 (λ_=>aR) held fuel 25 cs=M x):∃v l,cs=[v]/\D6 W v l/\l.length<=Rows.uptoBulk x.1:=by
 obtain⟨v,l,J,h2,h3,_,_⟩:=IL Tryz.underlying25 MV aA h oO (λ_=>rfl) (λ_ _=>True) (λn cs' y hy=>by
  obtain⟨y0,y1,y2,n',rfl,z,R,J,h2⟩:=mp Tryz.underlying125 hy;rw[MV]at z
  match cs',z with
  |[c0,c1,c2],_=>
  simp only[Gj,yL]at R J h2;obtain⟨m0,E,rfl,w0⟩:=eW lx R;obtain⟨m1,I,rfl,w1⟩:=eW lx J;obtain⟨s,hs,rfl,_⟩:=DataW.trod_string eO h2;simp at E I hs;subst E I hs;obtain⟨Y,rfl⟩:=Ir rfl w0;obtain⟨k1,rfl⟩:=Ir rfl w1;exact⟨⟨Y,k1,s.data.toList⟩,by simp[oO],trivial⟩)
 exact⟨v,l,J,h2,h3⟩
def trod_struct4(ht:Tryz.prog.underlying t=M (.struct #[f0,f1,f2,f3]))(h:gD enc bA W b sp held fuel t cs=M x):∃z I R E n,x=(.agg [z.1,I.1,R.1,E.1],z.2++(I.2++(R.2++E.2)))/\cs.length=Tryz.prog.cellsOf t/\gD enc bA W b sp held n f0.type ((cs.drop f0.offset).take (Tryz.prog.cellsOf f0.type))=M z/\gD enc bA W b sp held n f1.type ((cs.drop f1.offset).take (Tryz.prog.cellsOf f1.type))=M I/\gD enc bA W b sp held n f2.type ((cs.drop f2.offset).take (Tryz.prog.cellsOf f2.type))=M R/\gD enc bA W b sp held n f3.type ((cs.drop f3.offset).take (Tryz.prog.cellsOf f3.type))=M E:=by
 obtain⟨xs,n,_,rfl,hl,J,Y⟩:=DataW.trod_struct ht h
 match xs,J with
 |[z,I,R,E],_=>exact⟨z,I,R,E,n,aC,hl,by simpa using Y 0 f0 rfl,by simpa using Y 1 f1 rfl,by simpa using Y 2 f2 rfl,by simpa using Y 3 f3 rfl⟩
def Iq{E I J:Field}(ht:Tryz.prog.underlying t=M (.struct #[f0,f1,f2,f3,E,I,J]))(h:gD enc bA W b sp held fuel t cs=M x):∃Y y1 y2 y3 y4 y5 y6 n,x.2=Y.2++(y1.2++(y2.2++(y3.2++(y4.2++(y5.2++(y6.2))))))/\cs.length=Tryz.prog.cellsOf t/\gD enc bA W b sp held n f0.type ((cs.drop f0.offset).take (Tryz.prog.cellsOf f0.type))=M Y/\gD enc bA W b sp held n f1.type ((cs.drop f1.offset).take (Tryz.prog.cellsOf f1.type))=M y1/\gD enc bA W b sp held n f2.type ((cs.drop f2.offset).take (Tryz.prog.cellsOf f2.type))=M y2/\gD enc bA W b sp held n f3.type ((cs.drop f3.offset).take (Tryz.prog.cellsOf f3.type))=M y3/\gD enc bA W b sp held n E.type ((cs.drop E.offset).take (Tryz.prog.cellsOf E.type))=M y4/\gD enc bA W b sp held n I.type ((cs.drop I.offset).take (Tryz.prog.cellsOf I.type))=M y5/\gD enc bA W b sp held n J.type ((cs.drop J.offset).take (Tryz.prog.cellsOf J.type))=M y6:=by
 obtain⟨xs,n,_,rfl,hl,R,z⟩:=DataW.trod_struct ht h
 match xs,R with
 |[Y,y1,y2,y3,y4,y5,y6],_=>exact⟨Y,y1,y2,y3,y4,y5,y6,n,aC,hl,by simpa using z 0 f0 rfl,by simpa using z 1 f1 rfl,by simpa using z 2 f2 rfl,by simpa using z 3 f3 rfl,by simpa using z 4 E rfl,by simpa using z 5 I rfl,by simpa using z 6 J rfl⟩
def zK(h:gD enc bA W b sp held fuel 24 cs=M x):∃c:Cf,cs=(jF c).toList/\x.2=[]:=by
 obtain⟨y0,y1,y2,y3,y4,y5,y6,n,z,hl,Y,k1,k2,J,k4,k5,k6⟩:=Iq Tryz.underlying24 h;rw[Jc]at hl
 match cs,hl with
 |[c0,c1,c2,c3,c4,c5,c6],_=>
 simp only[Gj,zk]at Y k1 k2 J k4 k5 k6;obtain⟨m0,E,rfl,w0⟩:=eW lx Y;obtain⟨m1,e1,rfl,w1⟩:=eW lx k1;obtain⟨m2,e2,rfl,w2⟩:=eW gT k2;obtain⟨m3,e3,rfl,w3⟩:=eW gT J;obtain⟨m4,e4,rfl,w4⟩:=eW gT k4;obtain⟨m5,I,rfl,w5⟩:=eW gT k5;obtain⟨m6,R,rfl,w6⟩:=eW gT k6;simp at E e1 e2 e3 e4 I R;subst E e1 e2 e3 e4 I R;obtain⟨q0,rfl⟩:=Ir rfl w0;obtain⟨q1,rfl⟩:=Ir rfl w1;exact⟨⟨q0,q1,m2,m3,m4,m5,m6⟩,rfl,z⟩
end
def aea:((((begin bA (λ_ _=>0) default).world.heap[1]?).bind Obj.row?).map (·.2))=M 249:=XN
def Yd:2<=Tryz.prog.globals.size:=Z2 XN
def NZ:Tryz.prog.globals.size<(begin bA (λ_ _=>0) default).world.heap.size:=Z2 XN
def adP{W:U}(h:W.ShapedOpen bA):Tryz.prog.globals.size<=W.heap.size:=by
 obtain⟨o,_,ho,_⟩:=h.2 _ jB NZ;have:=(jE ho)
 omega
def Xt{f:ph}{fn:Func}{c:eE}{tm:Array X}(z:Tryz.prog.funcs[f]? =M fn)(E:DC f=aR)(I:fn.body=M c):tZ (qe Tryz.prog.funcs D) ((base f).at ⟨tm,[]⟩ [.code c]):=by
 refine⟨λi J=>?_,λd hd=>(by cases hd),rfl⟩;obtain rfl:i=.code c:=by simpa[Frame.at]using J
 rewrite [Fj]
 have:=(Q5 E z).2;rw[I]at this;exact this
section
variable {W:U}
def nZ{a:eM}:(hush W).cell? a=W.cell? a:=by
 unfold World.cell? hush;rw[iH];cases h:W.heap[a.block]? with
 |none=>rfl
 |some o=>cases o<;>rfl
def Ji{s n:Nat}{v:X}{xs:List X}(h:Rd W s v n xs):Rd (hush W) s v n xs:=by obtain⟨E,a,cap,e,h2,h3⟩:=h;refine⟨E,a,cap,e,h2,λI=>?_⟩;obtain⟨g,off,R,z,hc⟩:=h3 I;exact⟨g,off,R,by simpa[hush]using z,λj u J=>(nZ).trans (hc j u J)⟩
def MZ(h:W.ShapedOpen bA)(E:lJ W):qM (hush W):=by
 refine⟨⟨⟨(nZ).trans E.1.1,(nZ).trans E.1.2.1,(nZ).trans E.1.2.2⟩,⟨(nZ).trans E.2.1,(nZ).trans E.2.2.1,(nZ).trans E.2.2.2⟩⟩,?_⟩;have:=aea;cases e:(((begin bA (λ_ _=>0) default).world.heap[1]?).bind Obj.row?)with
 |none=>grind
 |some z=>
  obtain⟨zero,t⟩:=z;rw[e]at this;simp only[cO,aK]at this;obtain⟨cs,I,_⟩:=h.1 1 zero t (by have:=Yd;omega) e;subst this;exact⟨_,_,_,Qu I rfl,aB,aB,aB,aB,aB⟩
def TR{post:X->U->Prop}{w' y:U}(hc:jL (λ_=>False) (hush W) w')(hw:WP (qe Tryz.prog.funcs D) w' y)(hk:Keep (qe Tryz.prog.funcs D) ⟨yZ W,W,post⟩ y):Go.RowKit.Below ↑W W { y with tape:=W.tape }:=by
 refine⟨hk.os,rfl,hk.output,hk.size,λk E=>?_⟩;by_cases z:yZ W k
 .exact(hk.dead k z).2
 .have J:¬(qe Tryz.prog.funcs D).D k:=λh=>z (hk.old k h E);have R:(hush W).heap.size=W.heap.size:=by simp[hush]
  have I:=(hw.out k J).trans (hc.block k (by rw[R];exact E) (λe=>e));refine I.trans ?_;cases ho:W.heap[k]? with
  |none=>grind
  |some o=>exact Qu ho (Bool.eq_false_iff.2 λe=>z ⟨o,ho,e⟩)
end
end
end Pa
section
open Go Go.Conc
section
variable {s:OpenSpec}{p:Pinned}{c:OpenClaim}
section
variable {H:Type}{enc:cG×X->H}
def rV{a:Assume}{C:Checked}{os:Os}{f:ph}{fn:Func}{F:Stop.Interp}{J:List PathCond}{apart fresh E again:Bool}{laid:List (String×DataW Unit)}(own:ownKnob C.prog.godebug=Z)(I:os.Started)(ah:C.prog.funcs[f]? =M fn)(R:∃(w:U)(tape:Tape)(i:Input),w.os=os/\(w.forCall tape i).Shaped C.prog/\i.vars=[]/\Input.okWide C.prog (w.forCall tape i) .any ↑w f i/\s.preRow enc C.prog fn J apart laid (w.forCall tape i).memory i.args/\a.holds C.prog (lone (iS C.prog f i.args .normal) [] (w.forCall tape i)))(runs:∀(W:U)(base:Nat)(args:Array X)(ds gs:List (DataW H))(z:List MemPlace),(∀(j:Nat) t v,fn.params[j]? =M t->args[j]? =M v->Value.okWide C.prog W .any base t v)->DataW.Whole enc C.prog fn.params.toList s.vars apart W args.toList ds gs z->(∀k,s.cond=M k->k H (ds++gs)=aR)->laidMetH C.prog laid W->W.ShapedOpen C.prog->∃XS last o w' t',runNT C.prog (XS+1) (solo (G (iS C.prog f args .normal) []) W) #[]=(.ended o w',t')/\runN C.prog XS (solo (G (iS C.prog f args .normal) []) W)=.next last/\step C.prog last=.ended o w'/\Conc.Good C.prog (λv W'=>(s.at F).post enc C.prog fn apart fresh E again W args v W') last o w' t'):ReturnsInLeavingWide a C os f .any (s.preRow enc C.prog fn J apart laid) ((s.at F).post enc C.prog fn apart fresh E again):=by
 refine returnsInLeavingWide_of_good own I R ?_;intro w tape i _ ag _ af ac _;obtain⟨_,_,_,ai,aa,_,_,_,_,Y⟩:=af;have e:=fC (aa.symm.trans ah);subst e;obtain⟨⟨hp,hl⟩,hz⟩:=ac;obtain⟨ds,gs,z,hw,hc,hk⟩:=OpenSpec.pre_parts hp;have ae:=DataW.Whole.of_heap (w':=w.forCall tape i) (by rfl) hw;obtain⟨XS,last,o,w',t',h1,h2,h3,h4⟩:=runs _ _ _ ds gs z Y ae hk (hl.of_heap (by rfl)) ag;exact⟨XS,last,o,w',t',h1,h2,h3,h4.mono λv hp=>ChangeSpec.post_blind hp⟩
end
def tY(f:ph)(fn:Func)(hn:c.program=p.name)(hs:c.sum=p.sum)(a9:c.spec=s.name)(z:c.start=.entering)(E:c.outside=[])(ay:c.inits=[])(a4:c.under=Z)(au:c.initsInPlace=[]/\c.initsUnfollowed=aL/\c.initsRecurse=aL/\c.initsNamed=[]/\c.initsPassed=[])(ak:c.noBlocks=aL)(bg:c.leaving=aR)(aa:c.followed=Z)(ai:c.narrowed=s.cond.isSome)(J:c.still=aL)(ba:p.checked.prog.funcNamed c.func=M f)(hf:p.checked.prog.funcs[f]? =M fn)(I:joinedFacts p.checked.prog f fn s.bare c=aR)(Y:fn.isInstance p.checked.prog c.origin c.targs)(R:fn.isWrapper p.checked.prog c.wrapper c.mainSum)(h:∀os:Os,os.Started->∀(H:Type)(enc:cG×X->H),(∀a b,enc a=enc b->a=b)->∀F:Stop.Interp,ReturnsInLeavingWide c.assume p.checked os f .any (c.pre enc p.checked.prog fn s) ((s.at F).post enc p.checked.prog fn c.apart c.fresh c.handsOn c.again)):c.holds p s:=by
 simp only[joinedFacts,dF,YY,Array.all_eq_true_iff_forall_mem,fF,Z3]at I;obtain⟨⟨⟨⟨⟨⟨⟨⟨⟨⟨⟨⟨⟨⟨⟨⟨⟨⟨⟨⟨⟨⟨⟨⟨⟨⟨⟨⟨⟨⟨⟨k1,k2⟩,k3⟩,k4⟩,k5⟩,k6⟩,k7⟩,k8⟩,k9⟩,ar⟩,a5⟩,a6⟩,bh⟩,ap⟩,aq⟩,a3⟩,a1⟩,af⟩,ao⟩,az⟩,av⟩,a7⟩,a0⟩,aj⟩,ac⟩,ah⟩,ae⟩,ag⟩,an⟩,a8⟩,bd⟩,am⟩:=I;have hq:∀os:Os,Stop.quiet p.checked.prog os:=λos k hk=>by rw[k9]at hk;cases hk
 refine⟨k1,hn,hs,a9,k2,k3,by unfold OpenClaim.startFits;rw[z];exact ah,by unfold OpenClaim.startTold;rw[z];exact⟨ay,a4,au⟩,f,fn,ba,hf,⟨k4,az⟩,(λhb=>by rw[ak]at hb;cases hb),by unfold OpenClaim.namedList;rw[aa];exact k5,Y,R,
  k6.trans k7.symm,⟨k8.trans k9.symm,by unfold Program.envWorded;rw[k9];rfl,ac⟩,ar,a5,a6,bh,ap,⟨aq,bd,am⟩,⟨a3,av⟩,⟨a1,a7,an,a8⟩,⟨a0,ae,ag,af⟩,(by rw[E,ai];cases bb:c.shortTexts with|none=>simp|some _=>rw[bb]at aj;cases aj),λn aw=>varReadable_some (ao n aw),
  ⟨_,by unfold OpenClaim.world;rw[E,z];exact WideRow.started_initial,hq _⟩,[],by unfold OpenClaim.lists;rw[aa],λos st _ H enc inj=>?_⟩
 have a2:os.Started:=by unfold OpenClaim.world at st;rw[E,z]at st;exact st
 rw[OpenClaim.post_not_still J];unfold OpenClaim.form;rw[z,k6];intro F;have e1:c.okInput=Input.okWide:=by unfold OpenClaim.okInput;rw[ak]
 have e2:c.atReturn p.checked.prog=leavingAtReturn p.checked.prog:=by unfold OpenClaim.atReturn;rw[bg]
 have e3:c.always p.checked.prog []=nothingAlways:=by unfold OpenClaim.always;rw[aa]
 have e4:s.post enc p.checked.prog fn F c.outside c.apart c.fresh c.handsOn c.again=(s.at F).post enc p.checked.prog fn c.apart c.fresh c.handsOn c.again:=by rw[E];rfl
 rw[e1,e2,e3]
 show ReturnsInOpen _ _ _ _ _ _ _ _ (s.post enc p.checked.prog fn F c.outside c.apart c.fresh c.handsOn c.again) _ _
 rw[e4];exact h os a2 H enc inj F ah
def Aq(Lk:Looks)(kinds:List LaidKind)(E:Bool)(z:Bool×String)(lk g:Bool)(hc:c.holds p s)(hw:c.wfByText s=aR)(I:c.laidByTextAt Lk p kinds E)(J:c.start=.entering)(R:c.noBlocks=aL/\c.again=aL)(hm:p.checked.prog.mainIs=M (z.1,z.2.toList))(hn:(!z.1&&z.2.isEmpty&&!lk)=aL)(hl:∀f fn,p.checked.prog.funcNamed c.func=M f->p.checked.prog.funcs[f]? =M fn->lk=p.checked.prog.looks []/\∀(j:Nat) t,fn.params[j]? =M t->p.checked.prog.wantsStandIn t=aL)(Y:g=c.goesBy p.checked.prog):Claim7.holds p (.plain s) { stood:={ row:=c,standIns:=[],harness:=z,looks:=lk },kinds:=[],alts:=[],goes:=g,laidByText:=aR,laidKinds:=kinds,laidTests:=E,laidLooks:=Lk }:=by
 have h6:∀r:OpenClaim,Claim7.isSixth { stood:={ row:=r,standIns:=[],harness:=z,looks:=lk },kinds:=[] }=aL:=λr=>by simpa[Claim7.isSixth]using hn
 exact⟨Claim7.tied_new_at Lk kinds E (Claim7.new_of_sixth hc z lk J R hm (h6 c) hl) hw,(λD hD=>by cases hD),I,(λh=>by cases h),Y⟩
end
end
namespace turned
open Go.ChangeShapes Go.WideShapes Go.ChangeAt Go.RowKit Go.Conc Go.Proofs.YtpibpdpedjinhabGreatDoor.Pa
open Hm (jF PU oq kW LJ)
open Dv (X2)
def own:ownKnob Tryz.prog.godebug=Z:=XN
def laidOut:laidOutB bA=aR:=XN
def MN:Tryz.prog.cellsOf 37=6:=XN
def UC:Tryz.prog.cellsOf 268=1:=XN
def abS:Tryz.prog.globalNamed "tributary/source.ErrSilent"=M 0:=XN
def O5:(Tryz.prog.globals[ 0 ]?).map (·.type)=M 62:=XN
def star: "*"++ "errors.errorString"= "*errors.errorString":=aB
def abt(u:cG)(h:Tryz.prog.typeName? 3 u=M "*errors.errorString"):u=253:=
 typeName_ptr_named (nm:= "errors.errorString") (by rw[star];kernel_rfl) XN aB u (by rw[star];exact h)
def adk{W:U}(h:laidMet bA Rows.turnedUptoRow.laid W):∃te xe,W.cell? ⟨0,0,Z⟩=M (.iface te xe):=by obtain⟨a,s,z,_⟩:=laid_sentinel h.tail abS O5 Tryz.underlying62 abt Tryz.underlying253 Tryz.underlying268 rfl rfl eO UC yL;exact⟨_,_,by simpa using World.var?_cell abS z 0⟩
section
variable {H:Type}{enc:cG×X->H}{W:U}{held:Bool}{fuel:Nat}{cs:List X}{x:DataW H×List MemPlace}
def Dh(h:gD enc bA W 0 (λ_=>aR) held fuel 28 cs=M x):∃p:PU,cs=oq p/\(-9223372036854775808<=p.1.time/\p.1.time<=9223372036854775807)/\(Rows.uptoBulk x.1<=4294967296->kW W p.1 p.2.1 p.2.2):=by
 obtain⟨y0,y1,y2,y3,n',rfl,z,J,R,h2,h3⟩:=trod_struct4 Tryz.underlying28 h;rw[zW]at z
 match cs,z with
 |[c0,c1,c2,c3],_=>
 simp only[zk,U6,OM]at J R h2 h3;obtain⟨m0,E,rfl,w0⟩:=eW gT J;obtain⟨m1,I,rfl,w1⟩:=eW gT R;obtain⟨vt,lt,Y,t2,b2⟩:=XL h2;obtain⟨vl,ll,e3,t3,b3⟩:=open_strs h3;simp at E I Y e3;subst E I Y e3;simp only[Lit.wf,dF,Z3]at w1;refine⟨(⟨m0,m1,lt,ll⟩,c2,c3),by simp[oq],w1,λhd=>⟨t2,t3,?_,?_⟩⟩
 .simp only[Rows.uptoBulk,Rows.uptoBulkAll]at hd;simp only;omega
 .simp only[Rows.uptoBulk,Rows.uptoBulkAll]at hd;simp only;omega
def V9(h:gD enc bA W 0 (λ_=>aR) held fuel 29 cs=M x)(hb:Rows.uptoBulk x.1<=4294967296):∃v l a c,cs=[v]/\v=.slice a l.length c/\KR W (.slice a l.length c) l/\l.length<=4294967296:=by
 obtain⟨v,l,J,h2,h3,⟨a,c,hv⟩,h4⟩:=IL Tryz.underlying29 MN aA h LJ.cells (λ_=>rfl) (λo d=>((-9223372036854775808<=o.kind/\o.kind<=9223372036854775807)/\(-9223372036854775808<=o.n/\o.n<=9223372036854775807)/\(-9223372036854775808<=o.u.time/\o.u.time<=9223372036854775807))/\(Rows.uptoBulk d<=4294967296->kW W o.u o.vt o.vl)) (λn cs' y hy=>by
  obtain⟨y0,y1,y2,n',rfl,z,h0,J,h2⟩:=mp Tryz.underlying37 hy;rw[MN]at z
  match cs',z with
  |[c0,c1,c2,c3,c4,c5],_=>
  simp only[zk,zW]at h0 J h2;obtain⟨m0,E,rfl,w0⟩:=eW gT h0;obtain⟨m1,I,rfl,w1⟩:=eW gT J;obtain⟨⟨u,vt,vl⟩,hu,ht,Y⟩:=Dh h2;simp only[Lit.wf,dF,Z3]at w0 w1;simp[oq]at E I hu;obtain⟨rfl,rfl,rfl,rfl⟩:=hu;subst E I;refine⟨⟨m0,m1,u,c4,c5⟩,by simp[LJ.cells],⟨w0,w1,ht⟩,λhd=>Y ?_⟩;simp only[Rows.uptoBulk,Rows.uptoBulkAll]at hd;omega)
 refine⟨v,l,a,c,J,hv,⟨by rw[<-hv];exact h2,λo ho=>?_,λo ho=>?_,λo ho=>?_,λo ho=>?_⟩,aA⟩
 all_goals obtain⟨d,R,hd⟩:=h4 o ho
 .exact R.2 aA
 .exact R.1.1
 .exact R.1.2.1
 .exact R.1.2.2
def Ru{u:X2}{vt vl:X}(h:kW W u vt vl):kW (Po.hush W) u vt vl:=⟨Ji h.1,Ji h.2.1,h.2.2⟩
def XK{v:X}{l:List LJ}(h:KR W v l):KR (Po.hush W) v l:=⟨Ji h.rd,λo ho=>Ru (h.up o ho),h.kd,h.n,h.tm⟩
end
def runs(rd:Cr.ReadW)(H:Type)(enc:cG×X->H)(W:U)(base:Nat)(args:Array X)(ds gs:List (DataW H))(Y:List MemPlace)(z:∀(j:Nat) t v,Tryz.f3.params[j]? =M t->args[j]? =M v->Value.okWide bA W .any base t v)(hW:DataW.Whole enc bA Tryz.f3.params.toList Rows.turnedSpec.vars aL W args.toList ds gs Y)(hk:Rows.uptoSmall H (ds++gs)=aR)(hL:laidMetH bA Rows.turnedUptoRow.laid W)(am:W.ShapedOpen bA):Cr.xM bA (λv W'=>Rows.turnedSpec.post enc bA eZ aL aR aL aL W args v W') (solo (G (iS bA 3 args .normal) []) W) #[]:=by
 have hL:laidMet bA Rows.turnedUptoRow.laid W:=hL;have av:=hW;obtain⟨p,q,ar,hV,rfl,a9,bd⟩:=hW;have hA:DataW.TrodAll enc bA W 0 (λ_=>aR) aR Tryz.f3.params.toList args.toList ds p:=ar;rw[Tryz.params3]at hA z;obtain⟨v0,a6,d0,a4,p0,q0,J,rfl,rfl,h0,r0⟩:=trodAll_cons hA;obtain⟨v1,a3,d1,ba,p1,q1,rfl,rfl,rfl,h1,r1⟩:=trodAll_cons r0;obtain⟨v2,bb,d2,a8,p2,q2,rfl,rfl,rfl,h2,r2⟩:=trodAll_cons r1;obtain⟨rfl,rfl,rfl⟩:=trodAll_nil r2;obtain rfl:args=#[v0,v1,v2]:=by cases args;simp_all
 obtain⟨rfl,rfl⟩:=trodVars_none hV;have k0:=h0;have k1:=h1;have k2:=h2;have ao:∀x∈p0,x.block<W.heap.size:=by obtain⟨m,hm⟩:=k0;exact DataW.trod_lt m _ _ _ hm
 have ap:∀x∈p1,x.block<W.heap.size:=by obtain⟨m,hm⟩:=k1;exact DataW.trod_lt m _ _ _ hm
 have a0:∀x∈p2,x.block<W.heap.size:=by obtain⟨m,hm⟩:=k2;exact DataW.trod_lt m _ _ _ hm
 obtain⟨cs,rfl,a5⟩:=okWide_struct Tryz.underlying24 (z 0 24 v0 rfl rfl);obtain⟨ac,rfl,a2⟩:=okWide_struct Tryz.underlying28 (z 1 28 v1 rfl rfl);obtain⟨sa,sn,sc,rfl⟩:=okWide_slice Tryz.underlying29 (z 2 29 v2 rfl rfl);obtain⟨f0,az⟩:=h0;obtain⟨f1,a1⟩:=h1;obtain⟨f2,au⟩:=h2;obtain⟨c,hc,ak⟩:=zK az;simp only at ak;subst ak
 obtain rfl:cs=jF c:=by
  have:cs.toList=(jF c).toList:=by simpa[Value.cells]using hc
  cases cs
  simp_all
 simp only[gI]at hk
 have hb:Rows.uptoBulk d1<=4294967296/\Rows.uptoBulk d2<=4294967296:=by
  have h:Rows.uptoBulkAll [d0,d1,d2]<=1048576:=Z2 hk;simp only[Rows.uptoBulkAll]at h;omega
 have ae:=adP am;obtain⟨⟨u,vt,vl⟩,aw,_,I⟩:=Dh a1;replace I:=I hb.1;obtain⟨ta,tc,ah⟩:=Hm.Rd.slice I.1;obtain⟨la,lc,ai⟩:=Hm.Rd.slice I.2.1;dsimp only at ah ai I;subst ah ai
 obtain rfl:ac=#[N ab u.id,N ab u.time,.slice ta u.txs.length tc,.slice la u.logs.length lc]:=by
  have:ac.toList=oq (u,.slice ta u.txs.length tc,.slice la u.logs.length lc):=by simpa[Value.cells]using aw
  cases ac
  simp_all[oq]
 obtain⟨v,l,sa',a7,hv,an,ag,af⟩:=V9 au hb.2;obtain rfl:aH sa sn sc=v:=by simpa[Value.cells]using hv
 simp only[dT]at an;obtain⟨rfl,rfl,rfl⟩:=an;obtain⟨te,xe,ay⟩:=adk hL;refine Cr.PD ?_
 have aj:iS bA 3 #[.agg (jF c),fX #[N ab u.id,N ab u.time,.slice ta u.txs.length tc,.slice la u.logs.length lc],.slice sa l.length sc] .normal=(Conc.base 3).at { tmps:=#[.agg (jF c),fX #[N ab u.id,N ab u.time,.slice ta u.txs.length tc,.slice la u.logs.length lc],.slice sa l.length sc]++Array.replicate 158 aE,defers:=[] } [.code (bR Hm.X3 (bR Hm.YQ (bR Hm.XP (bR Hm.aad (bR Hm.Xg (bR Hm.Yi (bR Hm.X0 (bR Hm.JI (bR (bR Hm.LK (.block 0 (.loop Hm.Af))) (bR Hm.Eu (bR Hm.DU (bR Hm.ED Hm.tuT))))))))))))]:=by
  unfold iS;simp only[Tryz.func3,cO,fH,gX,Hm.Rw];rfl
 refine Po.SQ (fr:=iS bA 3 #[.agg (jF c),fX #[N ab u.id,N ab u.time,.slice ta u.txs.length tc,.slice la u.logs.length lc],.slice sa l.length sc] .normal) ?_ ?_
 .rw[aj];refine WB rd (te:=te) (xe:=xe) ⟨by simpa[Po.hush]using ae,(nZ).trans ay,MZ am (YO hL)⟩ (Ru I) (XK ag) af λD w' y hc hw aq=>?_;have E:=TR hc hw aq;have J:=trodAll_cons_mk (Go.RowKit.Below.trod laidOut XN (Z2 XN) k0 E ao) (trodAll_cons_mk (Go.RowKit.Below.trod laidOut XN (Z2 XN) k1 E ap) (trodAll_cons_mk (Go.RowKit.Below.trod laidOut XN (Z2 XN) k2 E a0) trodAll_mk0));have aa:∀R,W.keptBut y R:=λR=>⟨(E.frame R).1,(E.frame R).2.1,(E.frame R).2.2⟩
  exact⟨_,_,_,[],_,[],av,trodAll_mk1 (shut_bool oe _),J.of_heap (by rfl),rfl,aa _,λh=>by cases h⟩
 .rw[aj];exact Xt Tryz.func3 rfl Hm.Rw
noncomputable def low:Nat:=(World.holding bA default ⟨#[],#[],[]⟩).heap.size
noncomputable def laidWorld(os:Os):U:=
 let w0:=World.holding bA os ⟨#[aG #[bB ⟨#[116,104,101,32,117,112,112,101,114,32,99,104,97,105,110,32,100,111,101,115,32,110,111,116,32,97,110,115,119,101,114]⟩] 268],#[],[]⟩
 { w0 with heap:=(w0.heap.modify 1 fun
   |aG _ t frozen=>aG #[cK aL,N .u8 128,N .u8 183,cK aR,N .u8 192,N .u8 247] t frozen
   |o=>o).modify 0 fun
   |aG _ t frozen=>aG #[.iface 253 (aD (M ⟨low,0,Z⟩))] t frozen
   |o=>o }
def wcf:X:=fX #[N eA 0,N eA 0,N ab 0,N ab 0,N ab 0,N ab 0,N ab 0]
def QM:Array X:=#[wcf,fX #[N ab 0,N ab 0,aH Z 0 0,aH Z 0 0],aH Z 0 0]
def laid_met(os:Os):laidMet bA Rows.turnedUptoRow.laid ((laidWorld os).forCall (λ_ _=>0) ⟨#[],QM,[]⟩).memory:=
 laidMet_of_run' 8 XN XN
def reads(os:Os){H:Type}(enc:cG×X->H):∃z,DataW.whole enc bA ((laidWorld os).forCall (λ_ _=>0) ⟨#[],QM,[]⟩).memory Tryz.f3.params.toList Rows.turnedSpec.vars aL QM.toList 8=M ([.agg [.lit (.int eA 0),.lit (.int eA 0),.lit (.int ab 0),.lit (.int ab 0),.lit (.int ab 0),.lit (.int ab 0),.lit (.int ab 0)],.agg [.lit (.int ab 0),.lit (.int ab 0),.nil,.nil],.nil],[],z):=
 ⟨[],XN⟩
def Qn(rd:Cr.ReadW)(os:Os)(z:os.Started)(H:Type)(enc:cG×X->H)(F:Stop.Interp):ReturnsInLeavingWide {} Tryz.checked os 3 .any ((Rows.OpenSpec.upto Rows.turnedSpec).preRow enc bA eZ Rows.turnedUptoRow.domain aL Rows.turnedUptoRow.laid) (((Rows.OpenSpec.upto Rows.turnedSpec).at F).post enc bA eZ aL aR aL aL):=by
 obtain⟨R,hx⟩:=reads os enc
 refine rV (C:=Tryz.checked) (s:=Rows.OpenSpec.upto Rows.turnedSpec) own z Tryz.func3
  (witness_row_at (enc:=enc) (C:=Tryz.checked) aL (laidWorld os) QM rfl XN XN XN
   (OpenSpec.preRow_of_cond 8 hx XN (λk hk=>by cases hk;kernel_rfl) XN (laid_met os))) ?_
 intro W base args ds gs E J hW I hL Y;exact runs rd H enc W base args ds gs E J hW (I _ rfl) hL Y
def WZ(rd:Cr.ReadW):Rows.TurnedUptoSaid:=
 tY 3 eZ rfl rfl rfl rfl rfl rfl rfl ⟨rfl,rfl,rfl,rfl,rfl⟩ rfl rfl rfl rfl rfl XN Tryz.func3 XN
  (Z2 XN) (by unfold Func.isWrapper;first|(rw[ZD (by decide+kernel)];kernel_rfl)|(rw[Zs (by decide+kernel)];exact⟨rfl,rfl⟩))
  (λos z H enc _ F=>by rw[OpenClaim.pre_eq_preRow];exact Qn rd os z H enc F)
def plain(f:ph)(fn:Func)(E:Tryz.pinned.checked.prog.funcNamed "tributary/tributarykeep.Turned"=M f)(z:Tryz.pinned.checked.prog.funcs[f]? =M fn):aL=Tryz.pinned.checked.prog.looks []/\∀(j:Nat) t,fn.params[j]? =M t->Tryz.pinned.checked.prog.wantsStandIn t=aL:=by
 obtain rfl:f=3:=fC ((show Tryz.prog.funcNamed "tributary/tributarykeep.Turned"=M 3 by kernel_rfl).symm.trans E) |>.symm;obtain rfl:fn=eZ:=(fC (Tryz.func3.symm.trans z)).symm;refine⟨XN,λj t ht=>?_⟩;rw[Tryz.params3]at ht;have ht:t=24\/t=28\/t=29:=by simpa using gK ht
 obtain rfl|rfl|rfl:=ht
 .exact(show Tryz.prog.wantsStandIn 24=aL by kernel_rfl)
 .exact(show Tryz.prog.wantsStandIn 28=aL by kernel_rfl)
 .exact(show Tryz.prog.wantsStandIn 29=aL by kernel_rfl)
end turned
section
theorem turned_card_holds:Rows.TurnedUptoCardSaid:=
 Aq .later [.data,.sentinel] aR (aR,"7d5f61c6c9d2d66db7fbf1d87820ae0109a4b2c8c83e1950ef460f8e1f0ee1f6") aL aR (turned.WZ Cr.KX) XN turnedUpto_row_tie rfl ⟨rfl,rfl⟩ XN rfl turned.plain XN
end
