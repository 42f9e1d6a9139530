import Derived.Test.YtpibpdpedjinhabGreatDoorP35
set_option maxRecDepth 100000
set_option maxHeartbeats 4000000
set_option linter.all false
open Bool renaming false->aR,true->bB
open Go renaming Addr->fR,Calls->eL,Code->eN,Frame->cT,Item->pB,Oper->km,Operand->l8,TypeId->cH,Value->aD,World->X,execOp->bO,heap_alloc_new->cY
open Go.Act renaming put->eM
open Go.Code renaming seq->bL
open Go.IntKind renaming i64->aE,u32->dT
open Go.Item renaming code->kB,inRegion->bR
open Go.Obj renaming cells->aL
open Go.Operand renaming tmp->cR
open Go.Region renaming wanted->cS
open Go.RowKit renaming Below->cG,Hid->cJ
open Go.Value renaming agg->gR,int->N,pointer->aG,slice->aM,tuple->cP
open List renaming length->pn,length_eq_zero_iff->cK,range->iv
open Option renaming none->Z,some->M
open Or renaming inl->bN,inr->cF
namespace Go.Proofs.YtpibpdpedjinhabGreatDoor
namespace Pa
open Go Go.Conc Go.RowKit Go.Joins
open Hm (ptr jF jP TS jL jI PU PL Vw lF VO Ro Pe IE pz Nd lX NO SO ac1 adq acV adz Gf bkT aaf aaS Z5 Z4 RY QX aa9 KQ Told tK lives)
open Dv (X2 Cf Ch)
open Po hiding X2 H B IT PR NB
section
variable {k:List pB}{w w' w1:X}
noncomputable def Xf:Array km:=match RY with
 |.region _ ops _=>ops
 |_=>#[]
theorem XA:∃z,RY=.region z Xf aR:=⟨_,rfl⟩
theorem Md:iv Xf.size=[0,1,2]:=XN
theorem ad2{tm:Array aD}{z:aD}(h4:tm[4]? =M z)(w:X):(results Tryz.f44 tm).run PQ w=.ok z w:=by simp[results,Tryz.results44,go_sem,h4]
def Vo(n:Nat):Vw:=⟨n+4,aM Z 0 0,[],n+3,aM Z 0 0,[],aM Z 0 0,[]⟩
def Zg(n:Nat):Ck:=⟨n+2,aM Z 0 0,[],λ_=>[],aM Z 0 0,aM Z 0 0,[],[],[],0,0,0⟩
theorem adi{n k:Nat}(h:VK (Vo n) (Zg n) k):k=n+4\/k=n+3\/k=n+2:=by
 obtain((e|e|e)|e)|e|e|e|e|e|⟨o,z,_⟩:=h
 .exact bN e
 .cases e
 .cases e
 .cases e
 .exact cF (bN e)
 .cases e
 .cases e
 .exact cF (cF e)
 .cases e
 .cases z
theorem Kr(c:Cf)(chain:List X2)(hH:qM w)(hg:Tryz.prog.globals.size<=w.heap.size)(hq:w'.heap=(tK c w).heap):VC c chain 0 (Vo w.heap.size) (Zg w.heap.size) w'/\jL (λ_=>False) w w'/\w'.heap.size=w.heap.size+5:=by
 obtain⟨w1,ac,ah,-⟩:=jD w (jF c) 24;have I:=kV ah;have aa:w1.heap.size=w.heap.size+1:=by rw[ac];simp
 obtain⟨w4,z⟩:∃w4,w4=(((w1.alloc (aL (jF c) 24)).alloc (.map #[] 0)).alloc (aL (jP c (aM Z 0 0) (w1.heap.size+1) (aM Z 0 0) (aM Z 0 0) 0 0 0) 100)):=⟨_,rfl⟩
 have hT:=Y1 (w':=w4) c (hH.kept I).hd (hH.kept I).ty (by rw[z]);have R:w4.heap.size=w.heap.size+4:=by rw[z];simp[aa]
 obtain⟨w5,ae,af,Y⟩:=jD w4 #[aM Z 0 0,aG (M ⟨w.heap.size+3,0,Z⟩),aM Z 0 0,aM Z 0 0] 73;have J:=kV af;rw[aa]at hT;rw[R]at Y;have E:w'.heap=w5.heap:=by rw[hq,ae,z,ac];unfold tK;simp
 have ag:jL (λ_=>False) w1 w4:=⟨aA,λk hk _=>by
  rw[z,fV _ _ _ aF,fV _ _ _ aF,fV _ _ _ hk]⟩
 have hV:lF w5 (Vo w.heap.size):=⟨Y,Hm.Row.nil _ _ _,Hm.Row.nil _ _ _,Hm.Row.nil _ _ _,λp hp=>(by cases hp),λg hg=>(by cases hg),by simp[Vo]⟩
 have hv:VC c chain 0 (Vo w.heap.size) (Zg w.heap.size) w5:=⟨hV,(hT.kept J λ_ _ e=>e),Hm.RM.start _ _ _,rfl,by simp[Zg],λx hx=>by simp[Zg,lives]at hx,λi=>by simp[Zg],λk hk=>by have:=adi hk;omega⟩
 exact⟨hv.heap E,((I.trans ag λ_ _ e=>e).trans J λ_ _ e=>e).heaps rfl E,by rw[E,ae];simp[R]⟩
theorem La{c:Cf}{chain:List X2}{i j:Nat}(h:i<=j):∃r,(Dv.gone c chain j).log=(Dv.gone c chain i).log++r:=by obtain⟨r,z,_⟩:=Dv.Gs c chain i (j-i);exact⟨r,by grind⟩
section
variable {Post:vU}{XX A:List cT}{c:Cf}{chain:List X2}{j kk:Nat}{rs:Bool}{p:Nn}{w:X}{te:cH}{xe:aD}
structure BI(w0:X)(c:Cf)(chain:List X2)(kk:Nat)(v:Vw)(y:Ck)(i:Nat)(w:X):Prop where
 vc:VC c chain i v y w
 log:v.log.length=min kk (v.log.length+v.com.length)
 low:∀k,VK v y k->w0.heap.size<=k
 jM:jL (λ_=>False) w0 w
theorem BI.end{v':Vw}{y':Ck}(h:NC c chain j kk rs 0 p w)(z:BI w c chain kk v' y' j w1):v'.log.length=kk:=by have E:=Z1 pn (z.vc.rm.some h.j1).1;rw[bC,aS]at E;have:=h.all;have:=h.kl;have:=z.log;omega
theorem FX{v:aD}{pl:List PL}(h:pz w v pl)(hc:jL (λ_=>False) w w'):pz w' v pl:=⟨Hm.Rd.kept h.1 hc.size λ_ g _ z=>hc.block g z (λe=>e),λp hp=>(h.2 p hp).ro (Ro.of hc)⟩
theorem Oq(rd:Cr.ReadW){b:cT}{la:Option fR}{lc:Nat}(hG:Oo w te xe)(h:NC c chain j kk rs 0 p w)(a5:p.x.v.vl=.slice la p.x.v.log.length lc)(aa:∀D' w' v' y' tm,BI w c chain kk v' y' j w'->KQ tm p.x.nk ((j:Int)-1) (.slice la p.x.v.log.length lc) v'.vb j->Wq D' Post XX (b.at ⟨tm,[]⟩ (.code bkT::k)) A w'):∀r i,i+r=j->∀D w' v y tm,BI w c chain kk v y i w'->KQ tm p.x.nk ((j:Int)-1) (.slice la p.x.v.log.length lc) v.vb i->Wq D Post XX (b.at ⟨tm,[]⟩ (.code Gf::.inLoop Gf::.inBlock 0::.code bkT::k)) A w':=by
 have bl:=(Dv.jW h.hc).2.1;have bg:=h.jl;have bj:=h.len;have am:pz w (.slice la p.x.v.log.length lc) p.x.v.log:=⟨by rw[<-a5];exact h.vc.vw.log.rd,λq hq=>h.vc.vw.lor q (List.mem_append_left _ hq)⟩
 have bb:=h.vc.vw.few;intro r
 induction r with
 |zero=>
  intro i hi D w' v y tm I z;obtain rfl:i=j:=aA
  rw[show kB Gf=kB _ from by rw[Hm.QB]];refine Wq.seq (Wq.seq (Wq.walk λt d Q hN _=>Hm.abK z (lF.heap I.vc.vw rfl) λtm z ae=>hN _ _ (Wq.same (y:=w') (λ_ _=>rfl) ?_)));refine Wq.cond (t:=aR) ?_ ?_
  .rw[KI ae];have e:=BI.end h I;have:=h.kl;rw[ZZ aA,ZZ aA];rfl
  rw[Zs aB];exact Wq.exit (k':=.code bkT::k) rfl (aa D w' v y tm I z)
 |succ r ih=>
  intro i hi D w' v y tm I z;have bm:i<j:=aA
  rw[show kB Gf=kB _ from by rw[Hm.QB]];refine Wq.seq (Wq.seq (Wq.walk λt d Q hN _=>Hm.abK z (lF.heap I.vc.vw rfl) λtm z ae=>hN _ _ (Wq.same (y:=w') (λ_ _=>rfl) ?_)));refine Wq.cond (t:=bB) ?_ ?_
  .rw[KI ae,Z0 aA];rfl
  rw[ZD rfl];refine Wq.skip (Wq.seq (Wq.block (Wq.seq ?_)));have hN:=h.still I.jM;have a8:=hG.kept I.jM λ_ e=>e.elim;have s1:=I.jM.size;have bk:=hG.gl;refine Wq.walk λt d Q E _=>Hm.afT (w:=on w' t d) (c:=c) (x:=p.x) z hN.nd.obj (by have:=(lX.heap (w':=on w' t d) hN.nd rfl).src;rw[hN.sil]at this;exact this) a8.ev λtm w2 bx u ta aj tn tc ln an f z t8 t9 t10 ar ay hT=>E _ _ ?_;have J:jL (λ_=>False) w' w2:=(kV ay).heaps rfl rfl;have s2:=J.size
  obtain⟨rfl,n,hn,hq⟩:f=bB/\∃n:Nat,(i:Int)=n/\p.x.ps[n]? =M (u,.slice ta tn tc,.slice aj ln an):=by
   obtain e|⟨_,e⟩:=hT
   .exact e
   .omega
  obtain rfl:i=n:=aA
  refine Wq.seq (Wq.walk λt d Q E _=>Hm.afK z t8 t9 t10 λtm z t8 t9=>E _ _ (Wq.same (y:=w2) (λ_ _=>rfl) ?_));refine Wq.seq (Wq.walk λt d Q E _=>Hm.afg z t8 t9 λtm z t8=>E _ _ (Wq.same (y:=w2) (λ_ _=>rfl) (Wq.seq ?_)));obtain⟨bo,ag⟩:=XA;rw[ag];refine Wq.region ?_;rw[Md];refine Wq.qJ (.move (cR 6)) (M 48) (ptr v.vb) w2 rfl (λt d o h=>by unfold bO;simp only[h,KI z.t6];rfl) ?_;refine Wq.qJ (.load 28 (cR 8)) (M 49) _ w2 rfl (IJ ar (KI (pI t8 aB))) ?_;obtain⟨o2,az,a2,a0,ba⟩:∃o,Xf[2]? =M o/\o.op=.call { callee:=.value (.func 22),args:=#[cR 48,cR 49],argTypes:=#[57,28] }/\o.dst=M 50/\o.guard=Z:=⟨_,rfl,rfl,rfl,rfl⟩
  simp only[eM];have bh:=z.sz;have a1:VC c chain i v y w2:=I.vc.still J;have a7:=(hN.still J).nd.src.up _ (aX hq);refine DF rd (v:=v) (y:=y) az (Cr.jY ba) a2 (KI (pI (tnew aA) aB)) (KI (tnew (by grind))) aA a1 h.hc h.hcf aA (h.up hq) a7 ?_;intro D3 w3 v3 y3 com ac e1 e2 e3 e4 e5 ak a6;rw[a0];simp only[eM];refine Wq.done ?_;have s3:=ak.size;have Y:∀g,VK v3 y3 g->w.heap.size<=g:=λg hg=>(a6 g hg).elim (I.low g) aA;have R:jL (λ_=>False) w w3:=(I.jM.trans J λ_ _ e=>e).trans ak λg hg e=>by have:=I.low g e;omega
  have aq:KQ (((tm.setIfInBounds 48 (ptr v.vb)).setIfInBounds 49 (gR #[N aE u.id,N aE u.time,.slice ta tn tc,.slice aj ln an])).setIfInBounds 50 (cP #[])) p.x.nk ((j:Int)-1) (.slice la p.x.v.log.length lc) v3.vb i:=by
   refine⟨by grind,?_,?_,?_,?_,?_⟩
   .exact pI (pI (pI z.t0 aB) aB) aB
   .exact pI (pI (pI z.t1 aB) aB) aB
   .exact pI (pI (pI z.t5 aB) aB) aB
   .rw[e1];exact pI (pI (pI z.t6 aB) aB) aB
   .exact pI (pI (pI z.t7 aB) aB) aB
  obtain⟨r',ao⟩:=La (c:=c) (chain:=chain) (show i+1<=j by omega);have ai:=h.log;have aw:=(ac.rm.some aA).1;rw[ao,<-aw,bJ]at ai;have bd:=h.kl;have bp:v3.log.length<=kk:=by rw[e4];have:=I.log;omega
  refine Wq.walk λt d Q E _=>wp_mono (Hm.adE (w:=on w3 t d) (v:=v3) (pl:=p.x.v.log) (K:=λa' w'=>Q .normal a' w') aq (lF.heap ac.vw rfl) (FX (FX am R) (Ie rfl)) rfl aA aA (λa q q' ha hb=>?eq) λtm w4 au hL=>E _ _ ?_) (rY λ_ _ e=>e)
  case eq=>
   rw[iV]at hb;have bn:=(aN.1 hb).1;have ap:=(aN.1 ha).1
   have h1:(p.x.v.log.map Prod.fst)[v3.log.length+a]? =M q'.1:=by
    rw[fE,hb];rfl
   rw[ai,iI aA,fM,bV aC,bC,Nat.add_sub_cancel_left,bZ (by simpa using ap),fE,ha]at h1;exact fC h1
  obtain⟨v4,a4,f1,f2,f3,f4,af,ah⟩:=VC.laid (ac.heap (w':=on w3 t d) rfl) hL;have av:jL (VK v3 y3) w3 w4:=af.heaps rfl rfl;have a9:∀g,VK v4 y3 g->VK v3 y3 g\/w3.heap.size<=g:=ah;refine Wq.inBlock (Wq.walk λt d Q E _=>Hm.afm au aA λtm a3=>E _ _ (Wq.same (y:=w4) (λ_ _=>rfl) (Wq.inLoop ?_)));refine ih (i+1) aA D3 w4 v4 y3 tm ⟨a4,by rw[f3,f4,aS,bK,dW];omega,λg hg=>(a9 g hg).elim (Y g) aA,R.trans av λg hg e=>by have:=Y g e;omega⟩ (by rw[f1];exact a3)
theorem NC.abd{w2:X}{v':Vw}{y':Ck}(h:NC c chain j kk rs 0 p w)(z:BI w c chain kk v' y' j w1)(hx:w2.heap[p.x.nk]? =M (aL (Hm.lI c p.x.sb v'.vb aR) 60 (0,0)))(hc:jL (λk=>k=p.x.nk) w1 w2):NC c chain j kk aR 0 ⟨{ p.x with v:=v',rs:=aR },y'⟩ w2/\jL (NK p) w w2/\∀g,NK ⟨{ p.x with v:=v',rs:=aR },y'⟩ g->NK p g\/w.heap.size<=g:=by
 have J:=h.still z.jM;have aa:=h.lt (g:=p.x.nk) (bN (bN rfl));have R:=h.low p.x.nk (bN (bN rfl))
 have Y:Ro w1 w2:=λg cs t fz I ht=>hc.block g (jE I) λe=>by
  rw[e,J.nd.obj]at I;simp only[aK,Obj.cells.injEq]at I;rcases ht with e|e<;>rw[<-I.2.1]at e<;>exact Xs e aB
 have hv:VC c chain j v' y' w2:=z.vc.kept (λk hk=>hc.block k (z.vc.lt hk) λe=>by have:=z.low k hk;omega) Y (hc.block _ z.vc.ts.hd.pos λe=>ny R e)
 have E:∀g,NK ⟨{ p.x with v:=v',rs:=aR },y'⟩ g->NK p g\/w.heap.size<=g:=λg I=>by
  obtain(e|e|e)|e:=I
  .exact bN (bN (bN e))
  .exact bN (bN (cF (bN e)))
  .exact cF (z.low g (bN e))
  .exact cF (z.low g (cF e))
 refine⟨⟨⟨hx,J.nd.src.kept (λk e=>hc.block k (J.lt (bN (cF (bN e)))) λe'=>h.nd.far.1 (by rw[<-e'];exact e)) Y,hv.vw⟩,hv,h.ps,h.last,h.sil,rfl,BI.end h z,h.k1,h.ids,h.hc,h.hcf,h.j1,h.jl,λk hk=>(E k hk).elim (h.low k) aA⟩,(z.jM.mono λ_ _ e=>e.elim).trans hc λk _ e=>bN (bN e),E⟩
theorem Va(rd:Cr.ReadW){D:Nat->Prop}{b₀:cT}{a₀:Act}{ops:Array km}{i:Nat}{rest:List Nat}{o:km}{x x':l8}{ag:Array cH}(ho:ops[i]? =M o)(hw:cS o (yielded ops a₀.tmps)=bB)(ac:o.op=.call { callee:=.value (.func 44),args:=#[x,x'],argTypes:=ag })(ex:a₀.eval x=ptr p.x.nk)(ey:a₀.eval x'=N aE ((j:Int)-1))(hG:Oo w te xe)(h:NC c chain j kk rs 0 p w)(z:∀D' w' p',NC c chain j kk aR 0 p' w'->p'.x.nk=p.x.nk->jL (NK p) w w'->(∀g,NK p' g->NK p g\/w.heap.size<=g)->Wq D' Post XX (b₀.at (a₀.put o.dst .nilIface) (bR ops rest::k)) A w'):Wq D Post XX (b₀.at a₀ (bR ops (i::rest)::k)) A w:=by
 obtain⟨la,lc,E⟩:=h.vc.vw.log.slice;have c2:=(cells4 h.vc.vw.obj).2.2.1;rw[E]at c2;have k8:=h.nd.cells.2.1;have kc:=aI h.nd.obj;obtain⟨q,hq⟩:∃q:Int,q=(j:Int)-1:=⟨_,rfl⟩
 rw[<-hq]at ey;obtain⟨n,hn⟩:∃n,n=p.x.v.log.length:=⟨_,rfl⟩
 rw[<-hn]at c2;refine Wq.call ho hw ac (fq Tryz.func44 rfl) rfl Hm.aah ?_;simp only[fQ,eP,fP,ex,ey,show Tryz.f44.ntmps=72 from rfl,dR,aU,bY,Nat.reduceAdd,Nat.reduceSub,dH,dG,dU,dI,dS,dN];have H:cJ _:=jy h (jy z (jy hq (jy hn E)));clear h z hq hn E;refine Wq.seq (Wq.walk λt d Q J _=>?_);have I:cJ _:=J;clear J;simp only[ac1,Tryz.f44];go_wp2_with fail;refine I.out _ _ (Wq.same (y:=w) (λ_ _=>rfl) (Wq.seq (Wq.walk λt d Q J _=>?_)));clear I;have I:cJ _:=J;clear J;have af:(on w t d).cell? _=_:=k8;have ae:(on w t d).cell? _=_:=c2;simp only[adq,Tryz.f44,ptr];go_wp2_with fail;refine I.out _ _ (Wq.same (y:=w) (λ_ _=>rfl) (Wq.seq (Wq.walk λt d Q J _=>?_)));clear I af ae;have I:cJ _:=J;clear J;have z0:(on w t d).cell? ⟨p.x.nk,0,Z⟩=M (N dT c.inbox):=kc 0;have z1:(on w t d).cell? ⟨p.x.nk,1,Z⟩=M (N dT c.batcher):=kc 1;have z2:(on w t d).cell? ⟨p.x.nk,2,Z⟩=M (N aE c.timeout):=kc 2;have z3:(on w t d).cell? ⟨p.x.nk,3,Z⟩=M (N aE c.window):=kc 3;have z4:(on w t d).cell? ⟨p.x.nk,4,Z⟩=M (N aE c.drift):=kc 4;have z5:(on w t d).cell? ⟨p.x.nk,5,Z⟩=M (N aE c.step):=kc 5;have z6:(on w t d).cell? ⟨p.x.nk,6,Z⟩=M (N aE c.most):=kc 6;have hV:=Hm.zZ c (on w t d);have HV:cJ _:=λ(_:Unit)=>hV;clear hV;simp only[acV,Tryz.f44];go_wp2_with (go_at_call 20;refine aT (HV.out ()) ?_;rintro e w1 ⟨rfl,h1⟩;have H1:cJ _:=h1;clear h1)
 obtain⟨h,z,hq,hn,E⟩:=H.out;obtain⟨R,Y,-⟩:=Kr (w:=w) (w':=w1) c chain hG.hd hG.gl (by rw[H1.out];rfl);refine I.out _ _ (Wq.seq (Wq.seq (Wq.walk λt d Q J _=>?_)));clear I z0 z1 z2 z3 z4 z5 z6 HV;have I:cJ _:=J;have H':cJ _:=jy h (jy z (jy hq (jy hn (jy E (jy R Y)))));clear J h z hq hn E R Y;simp only[adz,Tryz.f44];go_wp2_with fail;obtain⟨h,z,hq,hn,E,R,Y⟩:=H'.out;refine I.out _ _ (Wq.same (y:=w1) (λ_ _=>rfl) (Wq.block (Wq.loop ?_)));clear I;subst hq hn;refine Oq rd hG h E ?_ j 0 aA D w1 (Vo w.heap.size) (Zg w.heap.size) _ ⟨R,by simp[Vo],λk hk=>by have:=adi hk;omega,Y⟩ ⟨rfl,rfl,rfl,rfl,rfl,rfl⟩;intro D2 w2 v2 y2 tm hI hB;refine Wq.walk λt d Q _ hR=>Hm.aha (w:=on w2 t d) (c:=c) (sb:=p.x.sb) (v0:=p.x.v.vb) (rs:=p.x.rs) hB (h.still hI.jM).nd.obj λtm w3 t4 hx aa=>hR _ _ λtodo=>?_;obtain⟨n1,n2,n3⟩:=h.abd hI hx (aa.h.heaps rfl rfl);refine Wq.leave (v:=.nilIface) (fn:=Tryz.f44) rfl rfl rfl (fq Tryz.func44 rfl) (ad2 t4) ?_;rw[fO,ho];exact z D2 w3 _ n1 rfl n2 n3
end
end
open Hm (ptr TS jL jI PU Vw lF Ro Nd lX NO SO ku)
section
variable {tm:Array aD}{v2:aD}{b₀:cT}{ops:Array km}{rest:List Nat}{k:List pB}{x:l8}{ats:Array cH}
noncomputable def afO:eN:=match Tryz.f27.body with
 |some (bL c _)=>c
 |_=>.ret
noncomputable def ac5:eN:=match Tryz.f27.body with
 |some (bL _ (bL c _))=>c
 |_=>.ret
noncomputable def acE:eN:=match Tryz.f27.body with
 |some (bL _ (bL _ (bL c _)))=>c
 |_=>.ret
noncomputable def acL:eN:=match Tryz.f27.body with
 |some (bL _ (bL _ (bL _ (bL (bL c _) _))))=>c
 |_=>.ret
noncomputable def adU:eN:=match Tryz.f27.body with
 |some (bL _ (bL _ (bL _ (bL (bL _ (.cond _ (bL c _) _)) _))))=>c
 |_=>.ret
noncomputable def adn:eN:=match Tryz.f27.body with
 |some (bL _ (bL _ (bL _ (bL _ (bL c _)))))=>c
 |_=>.ret
theorem st_body:Tryz.f27.body=M (bL afO (bL ac5 (bL acE (bL (bL acL (.cond (cR 26) (bL adU .ret) .skip)) (bL adn .ret))))):=XN
noncomputable def WH:Array km:=match adU with
 |.region _ ops _=>ops
 |_=>#[]
theorem Zn:∃z,adU=.region z WH aR:=⟨_,rfl⟩
theorem J4:iv WH.size=[0,1,2,3,4]:=XN
noncomputable def WA:Array km:=match adn with
 |.region _ ops _=>ops
 |_=>#[]
theorem ZT:∃z,adn=.region z WA aR:=⟨_,rfl⟩
theorem Na:iv WA.size=[0,1,2,3,4,5]:=XN
noncomputable def afj:eN:=match Tryz.f13.body with
 |some (bL c _)=>c
 |_=>.ret
noncomputable def acB:eN:=match Tryz.f13.body with
 |some (bL _ (bL c _))=>c
 |_=>.ret
noncomputable def spT:eN:=match Tryz.f13.body with
 |some (bL _ (bL _ c))=>c
 |_=>.ret
theorem aaH:Tryz.f13.body=M (bL afj (bL acB spT)):=XN
noncomputable def NW:Array km:=match acB with
 |.region _ ops _=>ops
 |_=>#[]
theorem abw:∃z,acB=.region z NW aR:=⟨_,rfl⟩
theorem Je:iv NW.size=[0,1,2,3,4,5,6]:=XN
def spS(sil:Nat):Nat:=sil-1
def spR(rs:Bool)(sil:Nat):Bool:=if 0<sil then rs else aR
def spJ(c:Cf)(chain:List X2)(j k:Nat)(rs:Bool)(sil:Nat):Nat:=if 0<sil then j else if rs=bB then j else onJ c chain j k
def spK(c:Cf)(chain:List X2)(j k:Nat)(rs:Bool)(sil:Nat):Nat:=if 0<sil then k else if rs=bB then k else onK c chain j k
def spV(c:Cf)(chain:List X2)(j k:Nat)(rs:Bool)(sil:Nat):Int:=if 0<sil then 3 else if rs=bB then 4 else onV c chain j k
def stV(te:cH)(xe:aD)(c:Cf)(chain:List X2)(j k:Nat)(rs:Bool)(sil:Nat):aD:=if 0<sil then cP #[N .u8 0,.iface te xe]else cP #[N .u8 (spV c chain j k rs sil),.nilIface]
section
variable {Post:vU}{D:Nat->Prop}{XX A:List cT}{c:Cf}{chain:List X2}{j kk sil:Nat}{rs:Bool}{p:Nn}{w:X}{te:cH}{xe:aD}
theorem NC.failed{w':X}{s:Nat}(h:NC c chain j kk rs sil p w)(hs:ku w' p.x.sb p.x.vb p.x.ps p.x.last s)(hc:jL (λk=>k=p.x.sb) w w'):NC c chain j kk rs s ⟨{ p.x with sil:=s },p.y⟩ w'/\jL (NK p) w w':=by have z:jL (NK p) w w':=hc.mono λk _ e=>bN (cF (bN (bN e)));have J:=h.ro z;have I:¬VK p.x.v p.y p.x.sb:=h.apart (cF (bN rfl));have E:VC c chain j p.x.v p.y w':=h.vc.kept (λk hk=>hc.block k (h.vc.lt hk) λe=>I (by rw[<-e];exact hk)) J (hc.block _ h.vc.ts.hd.pos λe=>ny (h.low _ (bN (cF (bN (bN rfl))))) e);exact⟨⟨⟨(hc.block _ (h.lt (bN (bN rfl))) λe=>h.nd.far.1 (bN e)).trans h.nd.obj,hs,E.vw⟩,E,h.ps,h.last,rfl,h.rs,h.kl,h.k1,h.ids,h.hc,h.hcf,h.j1,h.jl,h.low⟩,z⟩
theorem NC.common(h:NC c chain j kk rs sil p w)(hG:Oo w te xe):eL PQ 42 #[aG (M ⟨p.x.nk,0,Z⟩)] w (Hm.Ll w p.x.sb p.x.vb p.x.ps p.x.last sil (.iface te xe) (N aE ((j:Int)-1))):=by
 have J:=(Dv.jW h.hc).2.1;have Y:=h.j1;have hl:=h.jl;have z:=h.seen;have R:=h.len;obtain⟨q,E⟩:∃q,p.x.ps[j-1]? =M q:=⟨_,aO aA⟩
 have I:=h.nd.src;rw[h.sil]at I
 have:=Hm.Oa h.nd.obj I h.vc.vw hG.ev (id:=q.1.id) (by
  rw[z,h.vc.seen,fE,iI aA,<-h.ps,fE,E];rfl) aA ⟨q,aX E,rfl⟩
 rw[z]at this;exact this
theorem acn{z:aD}(h2:tm[2]? =M v2)(h3:tm[3]? =M z)(w:X):(results Tryz.f27 tm).run PQ w=.ok (cP #[v2,z]) w:=by simp[results,Tryz.results27,go_sem,h2,h3]
theorem acs(h2:tm[2]? =M v2)(w:X):(results Tryz.f13 tm).run PQ w=.ok v2 w:=by simp[results,Tryz.results13,go_sem,h2]
theorem abq(rd:Cr.ReadW){a₀:Act}{i:Nat}{o:km}(ho:ops[i]? =M o)(hw:cS o (yielded ops a₀.tmps)=bB)(ao:o.op=.call { callee:=.value (.func 27),args:=#[x],argTypes:=ats })(ex:a₀.eval x=ptr p.x.nk)(hG:Oo w te xe)(h:NC c chain j kk rs sil p w)(Y:∀D' w' p',NC c chain (spJ c chain j kk rs sil) (spK c chain j kk rs sil) (spR rs sil) (spS sil) p' w'->p'.x.nk=p.x.nk->jL (NK p) w w'->(∀g,NK p' g->NK p g\/w.heap.size<=g)->Wq D' Post XX (b₀.at (a₀.put o.dst (stV te xe c chain j kk rs sil)) (bR ops rest::k)) A w'):Wq D Post XX (b₀.at a₀ (bR ops (i::rest)::k)) A w:=by
 have back:∀(D':Nat->Prop)(tm:Array aD)(w':X)(todo:List pB)(p':Nn)(v2 v3:aD),tm[2]? =M v2->tm[3]? =M v3->stV te xe c chain j kk rs sil=cP #[v2,v3]->NC c chain (spJ c chain j kk rs sil) (spK c chain j kk rs sil) (spR rs sil) (spS sil) p' w'->p'.x.nk=p.x.nk->jL (NK p) w w'->(∀g,NK p' g->NK p g\/w.heap.size<=g)->Wq D' Post XX { (base 27).at ⟨tm,[]⟩ todo with mode:=.returning } (b₀.at a₀ (bR ops (i::rest)::k)::A) w':=by
  intro D' tm w' todo p' v2 v3 h2 h3 hv q1 q2 q3 q4;refine Wq.leave (v:=.tuple _) (fn:=Tryz.f27) rfl rfl rfl (fq Tryz.func27 rfl) (acn h2 h3) ?_;rw[fO,ho,<-hv];exact Y D' w' p' q1 q2 q3 q4
 obtain⟨q,hq⟩:∃q:Int,q=(j:Int)-1:=⟨_,rfl⟩
 have af:=h.seen;have ae:=(Dv.jW h.hc).2.1;have ac:=h.jl;have k9:=h.nd.cells.2.2;rw[h.rs]at k9;have k8:=h.nd.cells.2.1;refine Wq.call ho hw ao (fq Tryz.func27 rfl) rfl st_body ?_;simp only[fQ,eP,fP,ex,show Tryz.f27.ntmps=34 from rfl,dR,aU,bY,Nat.reduceAdd,Nat.reduceSub,dH,dG,dU,dI,dS,dN];have H:cJ _:=jy h (jy back (jy hq (jy af (jy ae ac))));clear h back hq Y af ae ac;refine Wq.seq (Wq.walk λt d Q hN _=>?_);have I:cJ _:=hN;clear hN;simp only[afO,Tryz.f27];go_wp2_with fail;refine I.out _ _ (Wq.same (y:=w) (λ_ _=>rfl) (Wq.seq (Wq.walk λt d Q hN _=>?_)));clear I;have I:cJ _:=hN;clear hN;have ak:Oo (on w t d) te xe:=hG.kept (Ie rfl) λ_ e=>e.elim;have hC:=(H.out.1.still (Ie (w':=on w t d) rfl)).common ak;rw[<-H.out.2.2.1]at hC;clear ak;by_cases hs:0<sil
 .have aa:eL PQ 42 #[aG (M ⟨p.x.nk,0,Z⟩)] (on w t d) λe w'=>e=.returned (cP #[N aE q,.iface te xe])/\ku w' p.x.sb p.x.vb p.x.ps p.x.last (sil-1)/\jI (λk=>k=p.x.sb) (on w t d) w':=by
   refine hC.mono λe w' hA=>?_;unfold Hm.Ll at hA;rw[ZD hs]at hA;exact hA
  have HC:cJ _:=λ(_:Unit)=>aa;clear hC aa;simp only[ac5,Tryz.f27,ptr];go_wp2_with (go_at_call 42;refine aT (HC.out ()) ?_;rintro e w1 ⟨rfl,E⟩;have H1:cJ _:=E;clear E)
  refine I.out _ _ (Wq.seq (Wq.walk λt d Q _ hR=>?_));clear I;have HR:cJ _:=hR;clear hR;simp only[acE,Tryz.f27];go_wp2_with fail;refine HR.out _ _ λtodo=>Wq.same (y:=w1) (λ_ _=>rfl) ?_;obtain⟨h,back,-⟩:=H.out;obtain⟨n1,n2⟩:=h.failed H1.out.1 (H1.out.2.h.heaps rfl rfl);refine back D _ w1 todo ⟨{ p.x with sil:=sil-1 },p.y⟩ _ _ rfl rfl (ZD hs) ?_ rfl n2 λg e=>bN e;unfold spJ spK spR spS;rw[ZD hs,ZD hs,ZD hs];exact n1
 .obtain rfl:sil=0:=by omega
  have aa:eL PQ 42 #[aG (M ⟨p.x.nk,0,Z⟩)] (on w t d) λe w'=>e=.returned (cP #[N aE q,.nilIface])/\jL (λ_=>False) w w':=by
   refine hC.mono λe w' hA=>?_;unfold Hm.Ll at hA;rw[Zs hs]at hA;exact⟨hA.1,(kV hA.2).heaps rfl rfl⟩
  have HC:cJ _:=λ(_:Unit)=>aa;clear hC aa;simp only[ac5,Tryz.f27,ptr];go_wp2_with (go_at_call 42;refine aT (HC.out ()) ?_;rintro e w1 ⟨rfl,E⟩;have H1:cJ _:=E;clear E)
  refine I.out _ _ (Wq.seq (Wq.walk λt d Q hN _=>?_));clear I;have I:cJ _:=hN;clear hN;simp only[acE,Tryz.f27];go_wp2_with fail;refine I.out _ _ (Wq.same (y:=w1) (λ_ _=>rfl) (Wq.seq (Wq.seq (Wq.walk λt d Q hN _=>?_))));clear I;have E:=H.out.1.still H1.out;have z:=H1.out;have J:=hG.kept z λ_ e=>e.elim;have ap:(on w1 t d).cell? ⟨p.x.nk,9,Z⟩=M (.bool rs):=by have:=E.nd.cells.2.2;rw[E.rs]at this;exact this
  have aq:(on w1 t d).cell? ⟨p.x.nk,8,Z⟩=M (aG (M ⟨p.x.v.vb,0,Z⟩)):=E.nd.cells.2.1;have hL:=Hm.SB p.x.v (on w1 t d) (lF.heap E.vc.vw rfl) (by rw[E.seen];have:=H.out.2.2.2.2;omega);rw[E.seen,<-H.out.2.2.1]at hL;have HL:cJ _:=λ(_:Unit)=>hL;have HW:cJ _:=jy E (jy z J);clear hL E z J k8 k9;have I:cJ _:=hN;clear hN;have e1:(q == q)=bB:=aC
  cases rs with
  |true=>
   simp only[acL,Tryz.f27];go_wp2_with fail;refine I.out _ _ (Wq.same (y:=w1) (λ_ _=>rfl) (Wq.cond (t:=bB) rfl ?_));clear I;rw[ZD rfl];obtain⟨h,back,hq,af,ae,ac⟩:=H.out;obtain⟨E,z,J⟩:=HW.out;obtain⟨an,R⟩:=Zn;rw[R];refine Wq.seq (Wq.region ?_);rw[J4];refine Wq.qJ (.move (cR 0)) (M 27) (ptr p.x.nk) w1 rfl (λt d o h=>by unfold bO;simp only[h];rfl) ?_;simp only[eM,bQ,dP,dO];refine Wq.qJ (.move (cR 4)) (M 28) (N aE q) w1 rfl (λt d o h=>by unfold bO;simp only[h];rfl) ?_;simp only[eM,bQ,dP,dO];obtain⟨o2,ag,ai,ah,aj⟩:∃o,WH[2]? =M o/\o.op=.call { callee:=.value (.func 44),args:=#[cR 27,cR 28],argTypes:=#[31,3] }/\o.dst=M 29/\o.guard=Z:=⟨_,rfl,rfl,rfl,rfl⟩
   refine Va rd (p:=p) ag (Cr.jY aj) ai rfl (by rw[<-hq];rfl) J E λD2 w2 p2 m1 m2 m3 m4=>?_;rw[ah];simp only[eM,bQ,dP,dO];refine Wq.qJ (.assign (.const (N .u8 4))) (M 2) (N .u8 4) w2 rfl (λt d o h=>by unfold bO;simp only[h];rfl) ?_;simp only[eM,bQ,dP,dO];refine Wq.qJ (.assign (cR 29)) (M 3) .nilIface w2 rfl (λt d o h=>by unfold bO;simp only[h];rfl) (Wq.done ?_);simp only[eM,bQ,dP,dO];refine Wq.ret λtodo=>back D2 _ w2 todo p2 _ _ rfl rfl rfl m1 m2 ((z.mono λ_ _ e=>e.elim).trans m3 λ_ _ e=>e) λg hg=>(m4 g hg).imp id (bH z.size)
  |false=>
   simp only[acL,Tryz.f27];go_wp2_with (go_at_call 43;refine aT (HL.out ()) ?_;rintro e w2 ⟨rfl,rfl⟩)
   refine I.out _ _ (Wq.same (y:=w1) (λ_ _=>rfl) (Wq.cond (t:=aR) rfl ?_));clear I;rw[Zs aB];obtain⟨h,back,hq,af,ae,ac⟩:=H.out;obtain⟨E,z,J⟩:=HW.out;refine Wq.skip (Wq.seq ?_);obtain⟨an,R⟩:=ZT;rw[R];refine Wq.region ?_;rw[Na];refine Wq.qJ (.move (cR 0)) (M 30) (ptr p.x.nk) w1 rfl (λt d o h=>by unfold bO;simp only[h];rfl) ?_;simp only[eM,bQ,dP,dO];obtain⟨o2,ag,ai,ah,aj⟩:∃o,WA[1]? =M o/\o.op=.call { callee:=.value (.func 45),args:=#[cR 30],argTypes:=#[31] }/\o.dst=M 31/\o.guard=Z:=⟨_,rfl,rfl,rfl,rfl⟩
   refine abj rd (p:=p) ag (Cr.jY aj) ai rfl J E λD2 w2 p2 m1 m2 m3 m4=>?_;rw[ah];obtain⟨vv,am⟩:∃vv,vv=onV c chain j kk:=⟨_,rfl⟩
   rw[<-am];simp only[eM,bQ,dP,dO];refine Wq.qJ (.extract (cR 31) 0) (M 32) (N .u8 vv) w2 rfl (λt d o h=>by unfold bO;simp only[h];rfl) ?_;simp only[eM,bQ,dP,dO];refine Wq.qJ (.extract (cR 31) 1) (M 33) .nilIface w2 rfl (λt d o h=>by unfold bO;simp only[h];rfl) ?_;simp only[eM,bQ,dP,dO];refine Wq.qJ (.assign (cR 32)) (M 2) (N .u8 vv) w2 rfl (λt d o h=>by unfold bO;simp only[h];rfl) ?_;simp only[eM,bQ,dP,dO];refine Wq.qJ (.assign (cR 33)) (M 3) .nilIface w2 rfl (λt d o h=>by unfold bO;simp only[h];rfl) (Wq.done ?_);simp only[eM,bQ,dP,dO];refine Wq.ret λtodo=>back D2 _ w2 todo p2 _ _ rfl rfl (by rw[am];rfl) m1 m2 ((z.mono λ_ _ e=>e.elim).trans m3 λ_ _ e=>e) λg hg=>(m4 g hg).imp id (bH z.size)
theorem abv(rd:Cr.ReadW){a₀:Act}{i:Nat}{o:km}(ho:ops[i]? =M o)(hw:cS o (yielded ops a₀.tmps)=bB)(ac:o.op=.call { callee:=.value (.func 13),args:=#[x],argTypes:=ats })(ex:a₀.eval x=ptr p.x.nk)(hG:Oo w te xe)(h:NC c chain j kk rs sil p w)(z:∀D' w' p',NC c chain (spJ c chain j kk rs sil) (spK c chain j kk rs sil) (spR rs sil) (spS sil) p' w'->p'.x.nk=p.x.nk->jL (NK p) w w'->(∀g,NK p' g->NK p g\/w.heap.size<=g)->Wq D' Post XX (b₀.at (a₀.put o.dst (N .u8 (spV c chain j kk rs sil))) (bR ops rest::k)) A w'):Wq D Post XX (b₀.at a₀ (bR ops (i::rest)::k)) A w:=by
 refine Wq.call ho hw ac (fq Tryz.func13 rfl) rfl aaH ?_;simp only[fQ,eP,fP,ex,show Tryz.f13.ntmps=13 from rfl,dR,aU,bY,Nat.reduceAdd,Nat.reduceSub,dH,dG,dU,dI,dS,dN];refine Wq.seq (Wq.walk λt d Q hN _=>?_);have HN:cJ _:=hN;clear hN;simp only[afj,Tryz.f13];go_wp2_with fail;refine HN.out _ _ (Wq.same (y:=w) (λ_ _=>rfl) (Wq.seq ?_));clear HN;obtain⟨ah,J⟩:=abw;rw[J];refine Wq.region ?_;rw[Je];refine Wq.qJ (.move (cR 0)) (M 6) (ptr p.x.nk) w rfl (λt d o h=>by unfold bO;simp only[h];rfl) ?_;simp only[eM,bQ,dP,dO];obtain⟨o2,ag,af,aa,ae⟩:∃o,NW[1]? =M o/\o.op=.call { callee:=.value (.func 27),args:=#[cR 6],argTypes:=#[31] }/\o.dst=M 7/\o.guard=Z:=⟨_,rfl,rfl,rfl,rfl⟩
 refine abq rd (p:=p) ag (Cr.jY ae) af rfl hG h λD2 w2 p2 m1 m2 m3 m4=>?_;rw[aa]
 obtain⟨v0,E,I,hv⟩:∃v0 E,stV te xe c chain j kk rs sil=cP #[N .u8 v0,E]/\((E=.iface te xe/\spV c chain j kk rs sil=3)\/(E=.nilIface/\spV c chain j kk rs sil=v0)):=by
  unfold stV;by_cases hs:0<sil
  .rw[ZD hs];exact⟨_,_,rfl,bN ⟨rfl,by unfold spV;rw[ZD hs]⟩⟩
  .grind
 rw[I];obtain⟨Y,R⟩:∃Y,Y=spV c chain j kk rs sil:=⟨_,rfl⟩
 rw[<-R]at hv z
 have back:∀(tm:Array aD)(todo:List pB),tm[2]? =M (N .u8 Y)->Wq D2 Post XX { (base 13).at ⟨tm,[]⟩ todo with mode:=.returning } (b₀.at a₀ (bR ops (i::rest)::k)::A) w2:=by
  intro tm todo h2;refine Wq.leave (v:=N .u8 Y) (fn:=Tryz.f13) rfl rfl rfl (fq Tryz.func13 rfl) (acs h2) ?_;rw[fO,ho];exact z D2 w2 p2 m1 m2 m3 m4
 have HB:cJ _:=back;clear back z R I m1 m2 m3 m4 h;simp only[eM,bQ,dP,dO];refine Wq.qJ (.move (cR 7)) (M 5) (cP #[N .u8 v0,E]) w2 rfl (λt d o h=>by unfold bO;simp only[h];rfl) ?_;simp only[eM,bQ,dP,dO];refine Wq.qJ (.extract (cR 5) 0) (M 8) (N .u8 v0) w2 rfl (λt d o h=>by unfold bO;simp only[h];rfl) ?_;simp only[eM,bQ,dP,dO];refine Wq.qJ (.extract (cR 5) 1) (M 9) E w2 rfl (λt d o h=>by unfold bO;simp only[h];rfl) ?_;simp only[eM,bQ,dP,dO];refine Wq.qJ (.assign (cR 8)) (M 3) (N .u8 v0) w2 rfl (λt d o h=>by unfold bO;simp only[h];rfl) ?_;simp only[eM,bQ,dP,dO];refine Wq.qJ (.assign (cR 9)) (M 4) E w2 rfl (λt d o h=>by unfold bO;simp only[h];rfl) (Wq.done ?_);simp only[eM,bQ,dP,dO];refine Wq.walk λt d Q _ hR=>?_;have HR:cJ _:=hR;clear hR;simp only[spT,Tryz.f13];obtain⟨rfl,rfl⟩|⟨rfl,rfl⟩:=hv
 .go_wp2_with fail;exact HR.out _ _ λtodo=>Wq.same (y:=w2) (λ_ _=>rfl) (HB.out _ todo rfl)
 .go_wp2_with fail;exact HR.out _ _ λtodo=>Wq.same (y:=w2) (λ_ _=>rfl) (HB.out _ todo rfl)
end
end
end Pa
namespace Hm
open Go.RowKit Go.Joins Go.Shelf
open Fr (below_drewN)
open Dv (Lo X2 Cf)
section
noncomputable def ad1:eN:=match Tryz.f6.body with
 |some (bL c _)=>c
 |_=>.ret
noncomputable def aaA:eN:=match Tryz.f6.body with
 |some (bL _ (bL c _))=>c
 |_=>.ret
noncomputable def ZF:eN:=match Tryz.f6.body with
 |some (bL _ (bL _ (bL c _)))=>c
 |_=>.ret
noncomputable def Zu:eN:=match Tryz.f6.body with
 |some (bL _ (bL _ (bL _ (bL c _))))=>c
 |_=>.ret
noncomputable def ZH:eN:=match Tryz.f6.body with
 |some (bL _ (bL _ (bL _ (bL _ (bL c _)))))=>c
 |_=>.ret
noncomputable def YL:eN:=match Tryz.f6.body with
 |some (bL _ (bL _ (bL _ (bL _ (bL _ (bL c _))))))=>c
 |_=>.ret
noncomputable def aaB:eN:=match Tryz.f6.body with
 |some (bL _ (bL _ (bL _ (bL _ (bL _ (bL _ (bL c _)))))))=>c
 |_=>.ret
noncomputable def nwT:eN:=match Tryz.f6.body with
 |some (bL _ (bL _ (bL _ (bL _ (bL _ (bL _ (bL _ c)))))))=>c
 |_=>.ret
def Zt:Tryz.f6.body=M (bL ad1 (bL aaA (bL ZF (bL Zu (bL ZH (bL YL (bL aaB nwT))))))):=XN
section
variable {tm:Array aD}{w:X}{Q:Exit->Act->X->Prop}
theorem Ac(c:Cf)(w:X):cG w.heap.size w (tK c w):=by unfold tK;exact((((((aJ _ w).alloc jB _).alloc aC _).alloc aF _).alloc aF _).alloc aF _)
theorem afe{c:Cf}{u:X2}{ta la:Option fR}{tn tc ln lc I b3:Nat}{K:Act->X->Prop}(hs:tm.size=44)(t2:tm[2]? =M (aG (M ⟨I,0,Z⟩)))(t3:tm[3]? =M (aG (M ⟨b3,0,Z⟩)))(h2:w.heap[I]? =M (aL (jF c) 24 (0,0)))(h3:w.heap[b3]? =M (aL #[N aE u.id,N aE u.time,.slice ta tn tc,.slice la ln lc] 28 (0,0)))(hu:kW w u (.slice ta tn tc) (.slice la ln lc))(ac:Dv.small u=bB)(hK:∀(tm:Array aD) w' nk sb vb vt vl Wa,tm.size=44->tm[6]? =M (aG (M ⟨nk,0,Z⟩))->w'.heap[nk]? =M (aL (lI c sb (Wa.heap.size+4) aR) 60 (0,0))->w.heap.size<=nk->ku w' sb vb [({ u with id:=1 },vt,vl)] 1 0->(∀k,SO sb vb k->w.heap.size<=k)->cG w.heap.size w Wa->cG (tK c Wa).heap.size (tK c Wa) w'->K ⟨tm,[]⟩ w'):Zu.wp PQ (Exit.then K λ_ _ _=>False) ⟨tm,[]⟩ w:=by
 obtain⟨l,rfl,hs⟩:=jZ hs
 iterate 44 (obtain⟨_,l,rfl,h'⟩:=jV hs;clear hs;have hs:=h';clear h')
 obtain rfl:=cK.1 hs;clear hs;simp only[eX,eU,dX,aK]at t2 t3;subst t2 t3;have hS:∀W,cG w.heap.size w W->eL PQ 19 #[gR #[N aE u.id,N aE u.time,.slice ta tn tc,.slice la ln lc]] W λe w'=>∃sb vb vt vl,e=.returned (aG (M ⟨sb,0,Z⟩))/\ku w' sb vb [({ u with id:=1 },vt,vl)] 1 0/\cG W.heap.size W w'/\(∀k,SO sb vb k->W.heap.size<=k)/\cG w.heap.size w w':=λW E=>(Pm (w:=W) u _ _ (hu.below E) ac).mono λe w' ⟨sb,vb,vt,vl,h1,h2,h3,h4⟩=>⟨sb,vb,vt,vl,h1,h2,h3,h4,E.trans (h3.mono E.size)⟩
 have hV:∀W,cG w.heap.size w W->eL PQ 20 #[gR #[N dT c.inbox,N dT c.batcher,N aE c.timeout,N aE c.window,N aE c.drift,N aE c.step,N aE c.most]] W λe w'=>e=.returned (aG (M ⟨W.heap.size+4,0,Z⟩))/\w'=tK c W/\cG w.heap.size w w':=λW E=>(zZ c W).mono λe w' ⟨h1,h2⟩=>⟨h1,h2,by rw[h2];exact E.trans ((Ac c W).mono E.size)⟩
 have hC:∀W,cG w.heap.size w W->W.cell? ⟨I,0,Z⟩=M (N dT c.inbox)/\W.cell? ⟨I,1,Z⟩=M (N dT c.batcher)/\W.cell? ⟨I,2,Z⟩=M (N aE c.timeout)/\W.cell? ⟨I,3,Z⟩=M (N aE c.window)/\W.cell? ⟨I,4,Z⟩=M (N aE c.drift)/\W.cell? ⟨I,5,Z⟩=M (N aE c.step)/\W.cell? ⟨I,6,Z⟩=M (N aE c.most):=λW E=>Dn ((E.block _ (jE h2)).trans h2);have hU:∀W,cG w.heap.size w W->W.cell? ⟨b3,0,Z⟩=M (N aE u.id)/\W.cell? ⟨b3,1,Z⟩=M (N aE u.time)/\W.cell? ⟨b3,2,Z⟩=M (.slice ta tn tc)/\W.cell? ⟨b3,3,Z⟩=M (.slice la ln lc):=λW E=>cells4 ((E.block _ (jE h3)).trans h3);obtain⟨c0,c1,c2,c3,c4,c5,c6⟩:=hC w (.refl _ _);obtain⟨d0,d1,d2,d3⟩:=hU w (.refl _ _);have HS:cJ _:=hS;have HV:cJ _:=hV;have HC:cJ _:=hC;have HU:cJ _:=hU;have HK:cJ _:=hK;have z:=aJ w.heap.size w;clear hS hV hC hU hK h2 h3 hu ac;simp only[Zu,Tryz.f6];go_region_with (first|(go_at_call 19;((with_reducible refine aT (HS.out _ ?_) ?_);(first|exact z|exact z.drew|exact below_drewN z _|exact H6.out.2|exact H6.out.2.drew);rintro e w5 ⟨sb,vb,vt,vl,rfl,h5⟩;obtain⟨x0,x1,x2,x3,x4,x5,x6⟩:=HC.out w5 h5.2.2.2;have H5:cJ _:=h5;clear h5))|(go_at_call 20;((with_reducible refine aT (HV.out _ ?_) ?_);(first|exact z|exact z.drew|exact below_drewN z _|exact H5.out.2.2.2|exact H5.out.2.2.2.drew);rintro e w6 ⟨rfl,Y⟩;obtain⟨x0,x1,x2,x3,x4,x5,x6⟩:=HC.out w6 Y.2;obtain⟨y0,y1,y2,y3⟩:=HU.out w6 Y.2;have H6:cJ _:=Y;clear Y)))
 all_goals
  obtain⟨ae,af,aa,R⟩:=H5.out;obtain⟨Y,J⟩:=H6.out
  first
   |(have e6:w6=tK c w5:=by with_reducible exact Y
     have ag:cG w5.heap.size w5 w6:=by rw[e6];exact Ac c w5
     refine HK.out _ _ _ sb vb vt vl w5 rfl rfl (cY _ _) J.size ((ae.below ag).below ((aJ _ w6).alloc jB _)) (λk hk=>?_) R (by rw[<-e6];exact(aJ _ w6).alloc jB _);exact aa k hk)
   |(refine HK.out _ _ _ sb vb vt vl _ rfl rfl (cY _ _) R.size (ae.below ((aJ _ w5).alloc jB _)) (λk hk=>bH J.size (aa k hk)) ?_ ?_
     .first|exact z|exact z.drew|exact below_drewN z _
     .rw[<-Y];exact af.alloc af.size _)
end
end
section
variable {nk sb:Nat}
section
variable {tm:Array aD}{w:X}{Q:Exit->Act->X->Prop}
theorem ae2{c:Cf}{v0 last:Nat}{vb:aD}{ps:List PU}{rs:Bool}{ev:aD}(hs:tm.size=44)(t6:tm[6]? =M (aG (M ⟨nk,0,Z⟩)))(hx:w.heap[nk]? =M (aL (lI c sb v0 rs) 60 (0,0)))(hS:ku w sb vb ps last 0)(z:w.cell? ⟨0,0,Z⟩=M ev)(hN:∀(tm:Array aD) w' bx (u:X2) (ta la:Option fR) (tn tc J I:Nat) (f:Bool),tm.size=44->tm[6]? =M (aG (M ⟨nk,0,Z⟩))->tm[7]? =M (aG (M ⟨bx,0,Z⟩))->w'.heap[bx]? =M (aL #[N aE u.id,N aE u.time,.slice ta tn tc,.slice la J I] 28 (0,0))->cG w.heap.size w w'->Told ps 0 (u,.slice ta tn tc,.slice la J I) f->Q .normal ⟨tm,[]⟩ w'):ZH.wp PQ Q ⟨tm,[]⟩ w:=by
 obtain⟨l,rfl,hs⟩:=jZ hs
 iterate 44 (obtain⟨_,l,rfl,Y⟩:=jV hs;clear hs;have hs:=Y;clear Y)
 obtain rfl:=cK.1 hs;clear hs;simp only[eX,eU,dX,aK]at t6;subst t6;have k7:w.cell? ⟨nk,7,Z⟩=M (aG (M ⟨sb,0,Z⟩)):=mZ hx rfl;have hB:=rD hS z 0;have HB:cJ _:=λ(_:Unit)=>hB;have HN:cJ _:=hN;clear hN hB hS hx z;simp only[ZH,Tryz.f6];go_wp2_with (go_at_call 21;refine aT (HB.out ()) ?_;rintro e w5 ⟨u,ta,la,tn,tc,J,I,f,rfl,h5,E⟩;have R:cJ _:=jy h5 E;clear h5 E)
 exact HN.out _ _ w5.heap.size u ta la tn tc J I f rfl rfl rfl (cY _ _) (R.out.2.alloc (by exact R.out.2.size) _) R.out.1
theorem ae3{c:Cf}{v:Vw}{rs:Bool}(hs:tm.size=44)(t6:tm[6]? =M (aG (M ⟨nk,0,Z⟩)))(J:w.heap[nk]? =M (aL (lI c sb v.vb rs) 60 (0,0)))(h:lF w v)(z:1<=v.com.length)(R:∀(tm:Array aD) w',tm.size=44->tm[6]? =M (aG (M ⟨nk,0,Z⟩))->Xj w v 1 w'->Q .normal ⟨tm,[]⟩ w'):aaB.wp PQ Q ⟨tm,[]⟩ w:=by
 obtain⟨l,rfl,hs⟩:=jZ hs
 iterate 44 (obtain⟨_,l,rfl,E⟩:=jV hs;clear hs;have hs:=E;clear E)
 obtain rfl:=cK.1 hs;clear hs;simp only[eX,eU,dX,aK]at t6;subst t6;have k8:w.cell? ⟨nk,8,Z⟩=M (aG (M ⟨v.vb,0,Z⟩)):=mZ J rfl;have I:eL PQ 23 #[aG (M ⟨v.vb,0,Z⟩),N aE 1] w λe w'=>e=.returned (cP #[])/\Xj w v 1 w':=Dk v 1 w h z;have HL:cJ _:=λ(_:Unit)=>I;have HN:cJ _:=R;clear R I h J;simp only[aaB,Tryz.f6];go_wp2_with (go_at_call 23;refine aT (HL.out ()) ?_;rintro e w1 ⟨rfl,z⟩;have Y:cJ _:=z;clear z)
 exact HN.out _ _ rfl rfl Y.out
theorem agT{I:aD}(hs:tm.size=44)(t6:tm[6]? =M I)(E:∀tm:Array aD,tm[4]? =M I->tm[5]? =M (N aE 0)->Q .ret ⟨tm,[]⟩ w):nwT.wp PQ Q ⟨tm,[]⟩ w:=by
 obtain⟨l,rfl,hs⟩:=jZ hs
 iterate 44 (obtain⟨_,l,rfl,z⟩:=jV hs;clear hs;have hs:=z;clear z)
 obtain rfl:=cK.1 hs;clear hs;simp only[eX,eU,dX,aK]at t6;subst t6;have J:cJ _:=E;clear E;simp only[nwT,Tryz.f6];go_wp2_with fail;exact J.out _ rfl rfl
end
end
end Hm
namespace Pa
open Go Go.Conc Go.RowKit Go.Joins
open Hm (ptr jF jP TS jL jI kW PU PL Vw lF VO Ro Pe Nd lX NO SO ku Told tK lI ad1 aaA ZF Zu ZH YL aaB nwT)
open Dv (X2 Cf Ch)
open Po hiding X2 H B IT PR NB
open Cr (Fill)
section
noncomputable def SV:Array km:=match YL with
 |.region _ ops _=>ops
 |_=>#[]
def aau:∃z,YL=.region z SV bB:=⟨_,rfl⟩
def vsN(nk vb:Nat)(u:X2)(vt vl:aD)(i:Nat):aD:=(#[ptr nk,ptr nk,aG (M ⟨nk,8,Z⟩),ptr vb,gR #[N aE u.id,N aE u.time,vt,vl],cP #[]]:Array aD).getD i undef
def ac7:Cr.fills 44 SV=bB:=XN
def VtR(c:Cf)(chain:List X2)(j:Nat)(v:Vw)(y:Ck)(w w':X):Prop:=∃v' y' com,VC c chain (j+1) v' y' w'/\v'.vb=v.vb/\v'.kb=v.kb/\v'.vl=v.vl/\v'.log=v.log/\v'.com=v.com++com/\jL (VK v y) w w'/\∀g,VK v' y' g->VK v y g\/w.heap.size<=g
section
variable {Post:vU}{D:Nat->Prop}{w:X}{b:cT}{a:Act}{k:List pB}{XX A:List cT}{c:Cf}{chain:List X2}{j nk bx sb:Nat}{v:Vw}{y:Ck}{u:X2}{ta la:Option fR}{tn tc ln lc:Nat}{rs:Bool}
theorem afR(rd:Cr.ReadW)(hs:a.tmps.size=44)(ae:a.defers=[])(t6:a.tmps[6]? =M (ptr nk))(t7:a.tmps[7]? =M (ptr bx))(hN:w.heap[nk]? =M (aL (lI c sb v.vb rs) 60 (0,0)))(h3:w.heap[bx]? =M (aL #[N aE u.id,N aE u.time,.slice ta tn tc,.slice la ln lc] 28 (0,0)))(ah:Tryz.prog.globals.size<=w.heap.size)(h:VC c chain j v y w)(hc:Dv.jS chain=bB)(hcf:Dv.jK c=bB)(hj:j<chain.length)(hu:chain[j]! =u)(af:Pe w (u,.slice ta tn tc,.slice la ln lc))(hQ:∀a' w' D',a'.tmps.size=44->a'.defers=[]->a'.tmps[6]? =M (ptr nk)->VtR c chain j v y w w'->Wq D' Post XX (b.at a' k) A w'):Wq D Post XX (b.at a (.code YL::k)) A w:=by
 obtain⟨ai,aa⟩:=aau;rw[aa];refine Wq.fill (τ:=Unit) (λ_=>vsN nk v.vb u (.slice ta tn tc) (.slice la ln lc)) (λl x D1 _=>(l.getD 5 aR=aR->x=w/\D1=D)/\(l.getD 5 aR=bB->VtR c chain j v y w x)) (by rw[hs];exact ac7) (λl a' x D1 _ hl Y hJ=>?_) (λl a' x D1 _ i o rest R hi ag Y hJ I=>?_) () ⟨λ_=>⟨rfl,rfl⟩,λh=>by rw[show SV.size=6 from rfl]at h;cases h⟩
 .exact hQ a' _ _ (Y.size.trans hs) (Y.defers.trans ae) ((Y.slot XN).trans t6) (hJ.2 (hl 5 aB))
 .have hold:∀{g:Nat}{cs:Array aD}{t:Nat}{fz:Nat×Nat},w.heap[g]? =M (aL cs t fz)->t∉[73,52,3,100,102,118,136,140]->x.heap[g]? =M (aL cs t fz):=λE ht=>by
   cases h5:l.getD 5 aR with
   |false=>grind
   |true=>
    obtain⟨_,_,_,_,_,_,_,_,_,hc,_⟩:=hJ.2 h5;exact(hc.block _ (jE E) (h.far E ht)).trans E
  have gv:=hold hN aB;have g3:=hold h3 aB;have keep:i≠5->(((l.setIfInBounds i bB).getD 5 aR=aR->x=w/\D1=D)/\((l.setIfInBounds i bB).getD 5 aR=bB->VtR c chain j v y w x)):=λe=>by rw[getD_set_ne aR e];exact hJ
  have go:i≠5->o.guard=Z->(∀t d,(bO a'.eval o).run PQ (on x t d)=.ok (.value (vsN nk v.vb u (.slice ta tn tc) (.slice la ln lc) i)) (on x t d))->Wq D1 Post XX (b.at a' (bR SV (i::rest)::k)) A x:=λe E hr=>Wq.val R E hr (I x D1 () (λ_ _=>rfl) (keep e));have ac:=(jE R)
  have e0:=Y.old (s:=6) XN t6;have e3:=Y.old (s:=7) XN t7;have cl:∀{B:Nat}{cs:Array aD}{ty:cH}{fz:Nat×Nat}(o:Nat),x.heap[B]? =M (aL cs ty fz)->∀t d,(on x t d).cell? ⟨B,o,Z⟩=cs[o]?:=λo h t d=>aI (show(on x t d).heap[_]? =_ from h) o;have J:∀j t,Cr.waits SV i j=bB->Cr.nN SV j=M t->a'.eval (cR t)=vsN nk v.vb u (.slice ta tn tc) (.slice la ln lc) j:=λj t hw hd=>Y.ev hd (ag j hw)
  match i,ac with
  |0,_=>
   obtain⟨z,E⟩:=Cr.kM (.move (cR 6),Z) R rfl;refine go aB E λt d=>?_;unfold bO;simp only[z,e0];rfl
  |1,_=>
   obtain⟨z,E⟩:=Cr.kM (.nilCheck (cR 32),Z) R rfl;refine go aB E λt d=>?_;unfold bO;simp only[z,J 0 32 rfl rfl];rfl
  |2,_=>
   obtain⟨z,E⟩:=Cr.kM (.fieldAddr 60 (cR 33) 2,Z) R rfl;refine go aB E λt d=>?_;unfold bO;simp only[z,J 1 33 rfl rfl];simp[go_sem];rfl
  |3,_=>
   obtain⟨z,E⟩:=Cr.kM (.load 57 (cR 34),Z) R rfl;refine go aB E λt d=>?_;have c0:=cl 8 gv t d;unfold bO;simp only[z,J 2 34 rfl rfl];simp[go_sem,vsN,ptr,c0,lI]
  |4,_=>
   obtain⟨z,E⟩:=Cr.kM (.load 28 (cR 7),Z) R rfl;refine go aB E λt d=>?_;have c0:=cl 0 g3 t d;have c1:=cl 1 g3 t d;have c2:=cl 2 g3 t d;have c3:=cl 3 g3 t d;unfold bO;simp only[z,e3,ptr];simp[go_sem,vsN,c0,c1,c2,c3]
  |5,_=>
   obtain⟨z,E⟩:=Cr.kM (.call { callee:=.value (.func 22),args:=#[cR 35,cR 36],argTypes:=#[57,28] },Z) R rfl;have h5:=Cr.AP hi;obtain⟨rfl,rfl⟩:=hJ.1 h5.1;refine DF rd (v:=v) (y:=y) R (Cr.jY E) z (J 3 35 rfl rfl) (J 4 36 rfl rfl) ah h hc hcf hj hu af λD' w' v' y' com r1 r2 r3 r4 r5 r6 r7 r8=>I w' D' () (λ_ _=>rfl) ⟨λh=>(by rw[h5.2]at h;cases h),λ_=>⟨v',y',com,r1,r2,r3,r4,r5,r6,r7,r8⟩⟩
end
def newE(c:Cf)(u:X2):Option Int:=if Dv.jK c=aR then M 1 else if Hm.mM u=aR then M 2 else Z
def TK{c:Cf}{u:X2}(h:newE c u=Z):Dv.jK c=bB/\Hm.mM u=bB:=by unfold newE at h;cases z:Dv.jK c<;>cases h2:Hm.mM u<;>simp[z,h2]at h⊢
def yJ{u:X2}(h:Hm.mM u=bB):Dv.jS [{ u with id:=1 }]=bB:=by have z:Dv.lY Z { u with id:=1 }=bB:=(Hm.Eh _).trans h;simp[Dv.jS,Dv.kF,z]
def adH{tm:Array aD}{z E:aD}(h4:tm[4]? =M z)(I:tm[5]? =M E)(w:X):(results Tryz.f6 tm).run PQ w=.ok (cP #[z,E]) w:=by simp[results,Tryz.results6,go_sem,h4,I]
section
variable {Post:vU}{D:Nat->Prop}{XX A:List cT}{c:Cf}{u:X2}{ta la:Option fR}{tn tc ln lc:Nat}{w:X}{te:cH}{xe:aD}
theorem NC.made{R w8:X}{nk sb:Nat}{vb vt vl:aD}{v E:Vw}{y I:Ck}(hcf:Dv.jK c=bB)(aa:Hm.mM u=bB)(hN:R.heap[nk]? =M (aL (lI c sb v.vb aR) 60 (0,0)))(J:ku R sb vb [({ u with id:=1 },vt,vl)] 1 0)(h:VC c [{ u with id:=1 }] 0 v y R)(hV:VC c [{ u with id:=1 }] 1 E I w8)(hb:E.vb=v.vb)(hc:jL (VK v y) R w8)(hl:E.log.length=1)(ho:∀g,g=nk\/SO sb vb g\/VK E I g->w.heap.size<=g)(Y:Tryz.prog.globals.size<=w.heap.size):NC c [{ u with id:=1 }] 1 1 aR 0 ⟨⟨nk,sb,vb,[({ u with id:=1 },vt,vl)],1,0,E,aR⟩,I⟩ w8/\∀g,NK ⟨⟨nk,sb,vb,[({ u with id:=1 },vt,vl)],1,0,E,aR⟩,I⟩ g->w.heap.size<=g:=by
 have hr:=h.ro hc
 have z:∀g,NK ⟨⟨nk,sb,vb,[({ u with id:=1 },vt,vl)],1,0,E,aR⟩,I⟩ g->w.heap.size<=g:=λg Y=>by
  obtain(e|e|e)|e:=Y
  .exact ho g (bN e)
  .grind
  .exact ho g (cF (cF (bN e)))
  .exact ho g (cF (cF (cF e)))
 refine⟨⟨⟨((hc.block _ (jE hN) (h.far hN aB)).trans hN).trans (by dsimp only;rw[hb]),J.kept (λk e=>?_) hr,hV.vw⟩,hV,rfl,rfl,rfl,rfl,hl,jB,λi hi=>?_,yJ aa,hcf,jB,jB,λk hk=>Nat.le_trans Y (z k hk)⟩,z⟩
 .obtain rfl|e:=e
  .exact hc.block _ J.lt (h.far J.obj aB)
  .obtain⟨cs,q⟩:=J.row.obj e;exact hc.block _ (J.row.lt e) (h.far q aB)
 .grind
theorem adM(rd:Cr.ReadW){b₀:cT}{a₀:Act}{ops:Array km}{i:Nat}{rest:List Nat}{k:List pB}{o:km}{x x':l8}{b3:Array cH}(ho:ops[i]? =M o)(hw:cS o (yielded ops a₀.tmps)=bB)(b5:o.op=.call { callee:=.value (.func 6),args:=#[x,x'],argTypes:=b3 })(ex:a₀.eval x=.agg (jF c))(ey:a₀.eval x'=gR #[N aE u.id,N aE u.time,.slice ta tn tc,.slice la ln lc])(hG:Oo w te xe)(hu:kW w u (.slice ta tn tc) (.slice la ln lc))(E:newE c u=Z->∀D' w' p,NC c [{ u with id:=1 }] 1 1 aR 0 p w'->jL (λ_=>False) w w'->(∀g,NK p g->w.heap.size<=g)->Wq D' Post XX (b₀.at (a₀.put o.dst (cP #[ptr p.x.nk,N aE 0])) (bR ops rest::k)) A w')(J:∀e,newE c u=M e->∀D' w',jL (λ_=>False) w w'->Wq D' Post XX (b₀.at (a₀.put o.dst (cP #[aG Z,N aE e])) (bR ops rest::k)) A w'):Wq D Post XX (b₀.at a₀ (bR ops (i::rest)::k)) A w:=by
 have back:∀(D':Nat->Prop)(tm:Array aD)(w':X)(todo:List pB)(v4:aD)(e:Int),tm[4]? =M v4->tm[5]? =M (N aE e)->Wq D' Post XX (b₀.at (a₀.put o.dst (cP #[v4,N aE e])) (bR ops rest::k)) A w'->Wq D' Post XX { (base 6).at ⟨tm,[]⟩ todo with mode:=.returning } (b₀.at a₀ (bR ops (i::rest)::k)::A) w':=by
  intro D' tm w' todo v4 e h4 h5 q;refine Wq.leave (v:=.tuple _) (fn:=Tryz.f6) rfl rfl rfl (fq Tryz.func6 rfl) (adH h4 h5) ?_;rw[fO,ho];exact q
 refine Wq.call ho hw b5 (fq Tryz.func6 rfl) rfl Hm.Zt ?_;simp only[fQ,eP,fP,ex,ey,show Tryz.f6.ntmps=44 from rfl,dR,aU,bY,Nat.reduceAdd,Nat.reduceSub,dH,dG,dU,dI,dS,dN];obtain⟨w1,aw,a7,bm⟩:=jD w (jF c) 24;obtain⟨w2,av,az,au⟩:=jD w1 #[N aE u.id,N aE u.time,.slice ta tn tc,.slice la ln lc] 28;have s1:w1.heap.size=w.heap.size+1:=by rw[aw];simp
 have s2:w2.heap.size=w.heap.size+2:=by rw[av];simp[s1]
 rw[s1]at au;have Y:cG w.heap.size w w2:=a7.trans (az.mono a7.size);have ah:=(az.block _ aA).trans bm;have H:cJ _:=jy back (jy E (jy J (jy hu Y)));clear back E J hu a7 az bm Y;refine Wq.seq (Wq.walk λt d Q hN _=>?_);have HN:cJ _:=hN;clear hN;simp only[ad1,Tryz.f6,jF];go_wp2_with fail;refine HN.out _ _ (Wq.same (y:=w2) (λ_ _=>by rw[av,aw];rfl) (Wq.seq ?_));clear HN aw av s1 s2;rw[show(on w t d).heap.size=w.heap.size from rfl];have kc:=λt d=>um (w:=on w2 t d) ah;have ae:∀{u v:X} {t d},cG u.heap.size (on u t d) v->jL (λ_=>False) u v:=λ{u v t d} h=>(kV (w:=on u t d) h).heaps rfl rfl;refine Wq.walk λt d Q hN hR=>?_;have HN:cJ _:=hN;have HR:cJ _:=hR;clear hN hR;have z0:(on w2 t d).cell? ⟨w.heap.size,0,Z⟩=M (N dT c.inbox):=kc t d 0;have z1:(on w2 t d).cell? ⟨w.heap.size,1,Z⟩=M (N dT c.batcher):=kc t d 1;have z2:(on w2 t d).cell? ⟨w.heap.size,2,Z⟩=M (N aE c.timeout):=kc t d 2;have z3:(on w2 t d).cell? ⟨w.heap.size,3,Z⟩=M (N aE c.window):=kc t d 3;have z4:(on w2 t d).cell? ⟨w.heap.size,4,Z⟩=M (N aE c.drift):=kc t d 4;have z5:(on w2 t d).cell? ⟨w.heap.size,5,Z⟩=M (N aE c.step):=kc t d 5;have z6:(on w2 t d).cell? ⟨w.heap.size,6,Z⟩=M (N aE c.most):=kc t d 6;have hC:=Hm.wX c (on w2 t d);clear kc;cases hcf:Dv.jK c with
 |false=>
  rw[hcf]at hC;have HC:cJ _:=λ(_:Unit)=>hC;have Hf:cJ _:=hcf;clear hC hcf;simp only[aaA,Tryz.f6];go_wp2_with (go_at_call 17;refine aT (HC.out ()) ?_;rintro e5 w5 ⟨rfl,aq⟩)
  obtain⟨back,E,J,hu,Y⟩:=H.out;exact HR.out _ _ λtodo=>back D _ w5 todo _ 1 rfl rfl (J 1 (by unfold newE;rw[ZD Hf.out]) D w5 ((kV Y).trans (ae aq) λ_ _ e=>e))
 |true=>
  rw[hcf]at hC;have HC:cJ _:=λ(_:Unit)=>hC;have Hf:cJ _:=hcf;clear hC hcf;simp only[aaA,Tryz.f6];go_wp2_with (go_at_call 17;refine aT (HC.out ()) ?_;rintro e5 w5 ⟨rfl,aq⟩)
  have ao:jL (λ_=>False) w2 w5:=ae aq;refine HN.out _ _ (Wq.seq (Wq.walk λt d Q hN hR=>?_));clear HN HR HC z0 z1 z2 z3 z4 z5 z6;have HN:cJ _:=hN;have HR:cJ _:=hR;clear hN hR;have af:=(ao.block _ (jE ah) λe=>e).trans ah;have ac:=(ao.block _ (jE au) λe=>e).trans au;obtain⟨y0,y1,y2,y3⟩:=cells4 (w:=on w5 t d) ac;have R:jL (λ_=>False) w w5:=(kV H.out.2.2.2.2).trans ao λ_ _ e=>e;have an:kW w5 u (.slice ta tn tc) (.slice la ln lc):=pV H.out.2.2.2.1 R λ_ _ e=>e;have hF:=Hm.first_any u _ _ (on w5 t d) (an.heap rfl);unfold Hm.Ku at hF;have HX:cJ _:=jy af (jy ac (jy R an));clear af ac R an ao aq;cases z:Hm.mM u with
  |false=>
   rw[z]at hF;have HF:cJ _:=λ(_:Unit)=>hF;have Hk:cJ _:=z;clear hF z;simp only[ZF,Tryz.f6];go_wp2_with (go_at_call 18;refine aT (HF.out ()) ?_;rintro e6 w6 ⟨rfl,a2⟩)
   obtain⟨back,E,J,hu,Y⟩:=H.out;exact HR.out _ _ λtodo=>back D _ w6 todo _ 2 rfl rfl (J 2 (by unfold newE;rw[Zs (by rw[Hf.out];decide),ZD Hk.out]) D w6 (HX.out.2.2.1.trans (ae a2) λ_ _ e=>e))
  |true=>
   rw[z]at hF;have HF:cJ _:=λ(_:Unit)=>hF;have Hk:cJ _:=z;clear hF z;simp only[ZF,Tryz.f6];go_wp2_with (go_at_call 18;refine aT (HF.out ()) ?_;rintro e6 w6 ⟨rfl,a2⟩)
   refine HN.out _ _ (Wq.seq ?_);clear HN HR HF y0 y1 y2 y3;obtain⟨back,E,-,hu,-⟩:=H.out;obtain⟨af,ac,R,an⟩:=HX.out;have hcf:=Hf.out;have z:=Hk.out;have ag:jL (λ_=>False) w5 w6:=ae a2;have aa:=R.trans ag λ_ _ e=>e;have bz:=(ag.block _ (jE af) λe=>e).trans af;have bp:=(ag.block _ (jE ac) λe=>e).trans ac;have b1:kW w6 u (.slice ta tn tc) (.slice la ln lc):=pV hu aa λ_ _ e=>e
   have bq:Dv.small u=bB:=by
    unfold Hm.mM at z;simp only[dF]at z;exact z.2
   have bn:=hG.kept aa λ_ e=>e.elim;have s6:=aa.size;refine Wq.walk λt d Q hN _=>wp_mono (Hm.afe (w:=on w6 t d) (c:=c) (u:=u) (K:=λa' w'=>Q .normal a' w') rfl rfl rfl bz bp (b1.heap rfl) bq λtm w7 nk sb vb vt vl Wa m0 m6 a4 bg ap ba bs b8=>hN _ _ ?_) (rY λ_ _ e=>e);have am:jL (λ_=>False) w6 Wa:=ae bs;have bk:=bn.kept am λ_ e=>e.elim;obtain⟨b0,bo,cd⟩:=Kr (w:=Wa) (w':=tK c Wa) c [{ u with id:=1 }] bk.hd bk.gl rfl;have ar:=kV b8;have ak:=(am.trans bo λ_ _ e=>e).trans ar λ_ _ e=>e;have b2:=b0.still ar;have bd:=bn.kept ak λ_ e=>e.elim;have sa:=am.size;have s7:=ak.size;replace bg:w6.heap.size<=nk:=bg;replace ba:∀g,SO sb vb g->w6.heap.size<=g:=ba;refine Wq.seq (Wq.walk λt d Q a5 _=>Hm.ae2 (w:=on w7 t d) m0 m6 a4 (ap.kept (λ_ _=>rfl) (Ro.heap rfl)) bd.ev λtm w8 bx u' ce cb cf ci ca cj f n0 n6 n7 bu br hT=>a5 _ _ ?_);have I:jL (λ_=>False) w7 w8:=ae br;have s8:=I.size;have a3:=b2.still I;have ai:=(I.block _ (jE a4) λe=>e).trans a4
   have a8:ku w8 sb vb [({ u with id:=1 },vt,vl)] 1 0:=ap.kept (λg e=>I.block g (by
    obtain rfl|e:=e
    .exact ap.lt
    .exact ap.row.lt e) λe=>e) (Ro.of I)
   obtain⟨-,n,hn,hq⟩|⟨-,e⟩:=hT
   case inr=>simp at e
   obtain rfl:n=0:=aA
   simp only[dX,aK,dJ]at hq;obtain⟨rfl,rfl,rfl⟩:=hq;have b6:=a8.up _ dQ;refine Wq.seq (afR rd (c:=c) (chain:=[{ u with id:=1 }]) (j:=0) (v:=Vo Wa.heap.size) (y:=Zg Wa.heap.size) n0 rfl n6 n7 ai bu (by have:=bd.gl;omega) a3 (yJ z) hcf aC rfl b6 λa9 w9 D9 q0 qd q6 bv=>?_);obtain⟨v9,y9,com,ay,f1,f2,f3,f4,f5,aj,b4⟩:=bv;have s9:=aj.size;obtain⟨cg,cc⟩:=a9;dsimp only at q0 qd q6;subst qd;have b7:=(aj.block _ (jE ai) (a3.far ai aB)).trans ai
   have a1:1<=v9.com.length:=by
    have h1:=Z1 pn (ay.rm.some aA).1;have h2:=(Dv.oI (yJ z) hcf 1 aC).some;have h3:=List.length_pos_iff.2 h2;rw[bC,aS,f4]at h1;simp[Vo]at h1;omega
   refine Wq.seq (Wq.walk λt d Q a5 _=>Hm.ae3 (w:=on w9 t d) (v:=v9) q0 q6 (by rw[f1];exact b7) (lF.heap ay.vw rfl) a1 λtm w10 r0 r6 hL=>a5 _ _ ?_);obtain⟨bw,bj,g1,g2,g3,g4,a6,a0⟩:=VC.laid (ay.heap (w':=on w9 t d) rfl) hL;have bh:jL (VK v9 y9) w9 w10:=a6.heaps rfl rfl;have b9:∀g,VK bw y9 g->VK v9 y9 g\/w9.heap.size<=g:=a0;have bb:jL (VK (Vo Wa.heap.size) (Zg Wa.heap.size)) w8 w10:=aj.trans bh λg hg e=>(b4 g e).elim id λe=>aA
   have bl:∀g,VK (Vo Wa.heap.size) (Zg Wa.heap.size) g->w.heap.size<=g:=λg e=>by have:=adi e;omega
   obtain⟨p1,p2⟩:=NC.made (w:=w) hcf z ai a8 a3 bj (g1.trans f1) bb (by rw[g3,f4,aS,bK];simp[Vo];omega) (λg e=>by
    grind) hG.gl
   refine Wq.walk λt d Q _ hR=>Hm.agT r0 r6 λtm r4 r5=>hR _ _ λtodo=>Wq.same (y:=w10) (λ_ _=>rfl) (back D9 tm w10 todo _ 0 r4 r5 (E ?_ D9 w10 _ p1 ?_ p2))
   .unfold newE;rw[Zs (by rw[hcf];decide),Zs (by rw[z];decide)]
   .exact((aa.trans ak λ_ _ e=>e).trans I λ_ _ e=>e).trans bb λg hg e=>by have:=bl g e;omega
end
end
end Pa
