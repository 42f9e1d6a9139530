import Derived.Test.YtpibpdpedjinhabGreatDoorP34
set_option maxRecDepth 100000
set_option maxHeartbeats 4000000
set_option linter.all false
open Bool renaming false->aR,true->bB
open Go renaming Addr->fR,Calls->eL,Code->eN,Exit->pC,Frame->cT,Oper->km,Operand->l8,TypeId->cH,Value->aD,World->X,execOp->bO,heap_alloc_new->cY
open Go.Code renaming seq->bL
open Go.IntKind renaming i64->aE
open Go.Obj renaming cells->aL
open Go.Proofs.Tryz renaming f44->lA
open Go.RowKit renaming Below->cG,Hid->cJ
open Go.Value renaming int->N,pointer->aG,slice->aM,tuple->cP
open List renaming getElem!_eq_getElem?_getD->oT,length_eq_zero_iff->cK,mem_append_right->ml,take_append_drop->mj
open Option renaming none->Z,some->M
open Or renaming inl->bN,inr->cF
open Prod renaming fst->cI
namespace Go.Proofs.YtpibpdpedjinhabGreatDoor
namespace Pa
open Go Go.Conc Go.RowKit Go.Joins
open Hm (ptr jF jP TS jL jI kW AL PC PB PW PU PL lives Fits jJ kQ VP Vg O9 Ui VS Vw lF VO VL Ro IE Pe)
open Dv (X2 Cf Ch)
open Po hiding X2 H B IT PR NB
section
def rY{K:Act->X->Prop}{Q:pC->Act->X->Prop}(h:∀a w,K a w->Q .normal a w)(z:pC)(a:Act)(w:X)(e:Exit.then K (λ_ _ _=>False) z a w):Q z a w:=by
 cases z with
 |normal=>exact h a w e
 |_=>exact e.elim
def take_one{chain:List X2}{j:Nat}{u:X2}(z:j<chain.length)(E:chain[j]! =u):(chain.take (j+1)).map (·.id)=(chain.take j).map (·.id)++[u.id]:=by rw[eY z,bJ,<-E];simp[z]
section
variable {Post:vU}{D:Nat->Prop}{XX A:List cT}{c:Cf}{chain:List X2}{j:Nat}{v:Vw}{y:Ck}{w:X}{u:X2}{ta la:Option fR}{tn tc ln lc:Nat}
theorem DF(rd:Cr.ReadW){b₀:cT}{a₀:Act}{ops:Array km}{i:Nat}{rest:List Nat}{k:List Item}{o:km}{x x':l8}{cp:Array cH}(ho:ops[i]? =M o)(hw:Region.wanted o (yielded ops a₀.tmps)=bB)(ct:o.op=.call { callee:=.value (.func 22),args:=#[x,x'],argTypes:=cp })(ex:a₀.eval x=ptr v.vb)(ey:a₀.eval x'=.agg #[N aE u.id,N aE u.time,.slice ta tn tc,.slice la ln lc])(cz:Tryz.prog.globals.size<=w.heap.size)(h:VC c chain j v y w)(hc:Dv.jS chain=bB)(hcf:Dv.jK c=bB)(hj:j<chain.length)(hu:chain[j]! =u)(cu:Pe w (u,.slice ta tn tc,.slice la ln lc))(bw:∀D' w' v' y' com,VC c chain (j+1) v' y' w'->v'.vb=v.vb->v'.kb=v.kb->v'.vl=v.vl->v'.log=v.log->v'.com=v.com++com->jL (VK v y) w w'->(∀g,VK v' y' g->VK v y g\/w.heap.size<=g)->Wq D' Post XX (b₀.at (a₀.put o.dst (cP #[])) (.inRegion ops rest::k)) A w'):Wq D Post XX (b₀.at a₀ (.inRegion ops (i::rest)::k)) A w:=by
 have c1:=(Dv.jW hc).2.1;have ae:Dv.small u=bB:=by rw[<-hu];exact Dv.mG _ Z (Dv.jW hc).2.2.1 j hj
 obtain⟨c9,dd,_,_⟩:=Dv.qj ae
 have c6:2<=c.step:=by
  unfold Dv.jK at hcf;have:=Z2 hcf;omega
 have c5:v.seen.length=j:=by rw[h.seen];simp;omega
 refine Wq.call ho hw ct (fq Tryz.func22 rfl) rfl Hm.abk ?_;simp only[fQ,eP,fP,ex,ey,show Tryz.f22.ntmps=34 from rfl,dR,aU,bY,Nat.reduceAdd,Nat.reduceSub,dH,dG,dU,dI,dS,dN];obtain⟨w1,ce,cx,b0⟩:=jD w #[N aE u.id,N aE u.time,.slice ta tn tc,.slice la ln lc] 28;have bd:=kV cx;have h1:=h.still bd;have s1:=bd.size;refine Wq.seq (Wq.walk λt d Q hN _=>?_);have HN:cJ _:=hN;clear hN;simp only[VP,Tryz.f22];go_wp2_with fail;refine HN.out _ _ (Wq.same (y:=w1) (λ_ _=>by rw[ce];rfl) (Wq.seq ?_));clear HN;rw[show(on w t d).heap.size=w.heap.size from rfl];refine Wq.walk λt d Q hN _=>wp_mono (Hm.afV (w:=on w1 t d) (K:=λa' w'=>Q .normal a' w') v u _ _ _ _ _ (lF.heap h1.vw rfl) b0 aA rfl λa2 w2 vs cl ba bh ai=>hN _ _ ?_) (rY λ_ _ e=>e);have ar:jL (λk=>k=v.vb\/v.vs.ownBlock=M k) w1 w2:=bh.h.heaps rfl rfl;clear bh;have s2:=ar.size;have ai:∀g,vs.ownBlock=M g->v.vs.ownBlock=M g\/w1.heap.size<=g:=ai;have b1:Ro w1 w2:=h1.ro (ar.mono λk _ e=>bN (e.elim (λe=>bN (bN e)) cF))
 have co:∀{k:Nat},k=v.vb\/v.vs.ownBlock=M k->∃cs t fz,w1.heap[k]? =M (aL cs t fz)/\(t=73\/t=3):=λe=>by
  obtain rfl|e:=e
  .exact⟨_,_,_,h1.vw.obj,bN rfl⟩
  .obtain⟨cs,q⟩:=h1.vw.seen.obj e;exact⟨_,_,_,q,cF rfl⟩
 have a7:y.at w2 v.kb c:=TS.stands h1.ts (λk hk=>ar.block k (TS.lt h1.ts hk) λe=>by
  obtain⟨cs,t,fz,q,e|e⟩:=co e<;>subst e<;>exact TS.zn h1.ts q aB aB aB aB aB hk) b1 (ar.block _ h1.ts.hd.pos λe=>ny (h.low _ (bN (e.elim (λe=>bN (bN e)) cF))) rfl)
 have ag:=(cu.ro (Ro.of bd)).ro b1
 have cb:w2.heap[w.heap.size]? =_:=(ar.block w.heap.size (jE b0) λe=>by
  grind).trans b0
 refine Wq.seq (afo rd cl ba.obj cb aA a7 (ag.at (by dsimp only;omega) (by dsimp only;omega)) (λg R=>?ap) ae hcf (by rw[h.rm.len];omega) (by have:=h.osl;omega) h.fits ?much λa3 w3 D3 cf cv=>?_)
 case ap=>
  obtain⟨_,e⟩|⟨_,e⟩:=R
  .obtain⟨cs,q⟩:=ag.1.obj e;exact⟨ag.1.lt e,TS.zn a7 q aB aB aB aB aB⟩
  .obtain⟨cs,q⟩:=Hm.Row.obj ag.2 e;exact⟨Hm.Row.lt ag.2 e,TS.zn a7 q aB aB aB aB aB⟩
 case much=>
  have hF:=(Dv.oI hc hcf j aA).much;unfold Dv.much at hF;rw[<-h.rm.chs,<-h.rm.wait,bC]at hF;have:y.ws.length=(Hm.sD.mk y.ws y.cnt y.ep y.sq).ws.length:=rfl;omega
 obtain⟨au,v3,aq,a1,Y,a5,av,af,bv,az,cy,bu,bo⟩:=cv;have s3:=bv.size;have Uj:∀{g:Nat}{cs:Array aD}{t:Nat}{fz:Nat×Nat},w2.heap[g]? =M (aL cs t fz)->t≠100->t≠102->t≠118->t≠136->t≠140->w3.heap[g]? =w2.heap[g]?:=λq t1 t2 t3 t4 t5=>bv.block _ (jE q) (TS.zn a7 q t1 t2 t3 t4 t5);have ck:Ro w2 w3:=λg cs t fz q e=>by grind
 have E:lF w3 { v with vs:=vs,seen:=v.seen++[u.id] }:=ba.kept (λk hk=>by
  obtain⟨cs,t,fz,q⟩:∃cs t fz,w2.heap[k]? =M (aL cs t fz):=Jj ba hk;rcases ba.types hk q with rfl|rfl|rfl<;>exact Uj q aB aB aB aB aB) ck
 have a8:=h.rm.took hj aA (v:=v3) (cs':=lives a5 av) (ws':=y.ws++Y) (by rw[hu,bo,h.rm.len]);rw[hu]at a8
 have bk:∀i,(Nz y.dl y.us.length u i).length<=4294967296:=λi=>by
  unfold Nz;split
  .exact Rn _ ae
  .exact h.hdl i
 have a9:=RT.count a8 hc hcf hj;rw[bC,aS]at a9;have bs:=a8.good hc hcf hj;obtain⟨aa,ac,a0⟩:∃a cap,v.vc=.slice a v.com.length cap:=E.com.slice;obtain⟨tm,df⟩:=a3;obtain⟨sz,b6,t0,t3⟩:=cf;dsimp only at sz b6 t0 t3;subst b6;obtain⟨l⟩:=tm;replace sz:l.length=34:=sz
 iterate 34 (obtain⟨_,l,rfl,b3⟩:=Hm.yO sz;clear sz;have sz:=b3;clear b3)
 obtain rfl:=cK.1 sz;simp only[eX,eU,dX,aK]at t0 t3;subst t0;have ah:w3.heap[v.vb]? =M (aL #[vs,aG (M ⟨v.kb,0,Z⟩),v.vl,.slice aa v.com.length ac] 73 (0,0)):=E.obj.trans (by simp only[Vw.cells,a0]);have J:Hm.Row w3 52 8 (.slice aa v.com.length ac) v.com.length (v.com.flatMap jJ):=by rw[<-a0];exact E.com
 have aw:∀q,q∈v.com->kQ w3 q.2.1 q.1.txs/\kQ w3 q.2.2 q.1.deps:=λq hq=>E.lor q (ml _ hq);refine Wq.walk λt d Q hN _=>wp_mono (Hm.afl (w:=on w3 t d) (K:=λa' w'=>Q .normal a' w') v.vb v.kb vs v.vl aa v.com.length ac (RD c (y.us++[(u.id,u.time,v3)]) (Nz y.dl y.us.length u) v.kb y.nb au aq a1 ⟨y.ws++Y,y.cnt,y.ep,y.sq⟩ v.com (.slice aa v.com.length ac) w3) ah (λW hb ci=>?calls) (λa n cap W hX=>?view) λa4 am n4 ak w4 db cn hX=>hN _ _ ?_) (rY λ_ _ e=>e)
 case calls=>
  have cw:TS (on w3 t d) v.kb y.nb c au (y.us++[(u.id,u.time,v3)]) (Nz y.dl y.us.length u) aq a1 (y.ws++Y) a5 av y.cnt y.ep y.sq:=af.heap rfl;refine(Hm.vT v.kb w3.heap.size c au _ _ y.nb aq a1 ⟨_,y.cnt,y.ep,y.sq⟩ _ v.com _ bs aA bk (cw.d.below hb) ci aC ((J.heap (w':=on w3 t d) rfl).below hb) (λq hq=>⟨Hm.Row.below (Hm.Row.heap (w':=on w3 t d) (aw q hq).1 rfl) hb,Hm.Row.below (Hm.Row.heap (w':=on w3 t d) (aw q hq).2 rfl) hb⟩) (by grind)).mono ?_;rintro e W' ⟨I,z,a',b5,rfl,q1,q2,q3,q4,q5,q6,q7⟩;refine⟨a',_,b5,rfl,I,z,rfl,q1,q2,q3,q4,q5,?_,λg R=>(q7 g R).imp id (λq=>bH hb.size q)⟩;exact((Hm.jI.below hb jB _).trans q6 (λ_ _ e=>e)).h.heaps rfl rfl
 case view=>
  obtain⟨I,z,-,-,-,-,-,-,aj,-⟩:=hX;refine(aj.block _ (jE ah) ?_).trans ah;rintro((e|e)|e)
  .exact TS.zn af ah aB aB aB aB aB (bN e)
  .exact Hm.jH af.d.wait ah aB e
  .exact Hm.jH J ah aB e
 obtain⟨I,z,cq,cc,b7,br,bp,bm,aj,cg⟩:=hX;subst cq;have s4:=aj.size;have b8:=a8.drawn hc hcf hj cc;unfold Hm.Zf at bm;generalize (Hm.sD.mk (Hm.jO c (y.us++[(u.id,u.time,v3)]) (Hm.jQ ⟨y.ws++Y,y.cnt,y.ep,y.sq⟩ I).ws (Hm.jQ ⟨y.ws++Y,y.cnt,y.ep,y.sq⟩ I).cnt (Hm.jQ ⟨y.ws++Y,y.cnt,y.ep,y.sq⟩ I).ep).2 (Hm.jQ ⟨y.ws++Y,y.cnt,y.ep,y.sq⟩ I).cnt (Hm.jQ ⟨y.ws++Y,y.cnt,y.ep,y.sq⟩ I).ep (Hm.jQ ⟨y.ws++Y,y.cnt,y.ep,y.sq⟩ I).sq)=st4 at bm b8;obtain⟨b2,cj,b4⟩:=bm;have bb:=TS.drawn af cj J aj (λe=>ny (h.low _ (bN (bN (cF (cF (by rw[a0];exact e)))))) rfl)
 have cd:∀{g:Nat}{cs:Array aD}{t:Nat}{fz:Nat×Nat},w3.heap[g]? =M (aL cs t fz)->t≠100->t≠118->t≠52->¬((g=v.kb\/a1.ownBlock=M g)\/(aM aa v.com.length ac).ownBlock=M g):=λq t1 t2 t3 e=>by
  obtain(e|e)|e:=e
  .rw[e,af.d.obj]at q;simp only[aK,Obj.cells.injEq]at q;exact t1 q.2.1.symm
  .exact Hm.jH af.d.wait q t2 e
  .exact Hm.jH J q t3 e
 have b9:∀{g:Nat}{cs:Array aD}{t:Nat}{fz:Nat×Nat},w3.heap[g]? =M (aL cs t fz)->t≠100->t≠118->t≠52->w4.heap[g]? =w3.heap[g]?:=λq t1 t2 t3=>aj.block _ (jE q) (cd q t1 t2 t3);have cr:Ro w3 w4:=λg cs t fz q e=>by grind
 have a6:=(b9 ah aB aB aB).trans ah
 have bn:Hm.Row w4 52 8 v.vl v.log.length (v.log.flatMap jJ):=E.log.kept λg R=>aj.block g (E.log.lt R) λe=>by
  obtain⟨cs,q⟩:=E.log.obj R;obtain(e|e)|e:=e
  .rw[e,af.d.obj]at q;simp at q
  .exact Hm.jH af.d.wait q aB e
  .exact E.ne g R (by rw[a0];exact e)
 have ao:jI (λk=>k=v.vb) w4 (w4.setCell ⟨v.vb,3,Z⟩ (.slice am (v.com++z).length ak)):=.set w4 v.vb 3 _
 have ay:∀{e s n:Nat}{x:aD}{xs:List aD},Hm.Row w4 e s x n xs->e≠73->Hm.Row (w4.setCell ⟨v.vb,3,Z⟩ (.slice am (v.com++z).length ak)) e s x n xs:=λhr ht=>hr.jM ao λg R e=>by
  obtain⟨cs,q⟩:=hr.obj R;rw[e,a6]at q;simp only[aK,Obj.cells.injEq]at q;exact ht q.2.1.symm
 have bz:Ro w4 (w4.setCell ⟨v.vb,3,Z⟩ (.slice am (v.com++z).length ak)):=.jM ao λk cs t fz e q=>by
  grind
 have cm:=TS.stands bb (w':=w4.setCell ⟨v.vb,3,Z⟩ (.slice am (v.com++z).length ak)) (λk hk=>ao.block k (TS.lt bb hk) λe=>by
  rw[e]at hk;exact TS.zn bb a6 aB aB aB aB aB hk) bz (ao.block _ bb.hd.pos λe=>ny (h.low _ (bN (bN (bN rfl)))) e)
 have bg:∀g,(aM am (v.com++z).length ak).ownBlock=M g->v.vc.ownBlock=M g\/w3.heap.size<=g:=λg R=>by grind
 refine Wq.fin λtodo=>Wq.leave (v:=cP #[]) (fn:=Tryz.f22) rfl cn rfl (fq Tryz.func22 rfl) (λw=>by simp[results,Tryz.results22,go_sem]) ?_;rw[fO,ho];have bq:((v.log++(v.com++z)).map cI)=(v.log++v.com).map cI++I.map (Hm.pJ c (y.us++[(u.id,u.time,v3)]) (Nz y.dl y.us.length u)):=by rw[<-fM,bJ (l₁:=v.log++v.com),b7]
 have bl:Hm.RM c chain (j+1) (y.us++[(u.id,u.time,v3)]) (Nz y.dl y.us.length u) st4 (lives a5 av) ((v.log++(v.com++z)).map cI):=by rw[bq];exact b8
 have ca:=Wy hc hcf (show j+1<=chain.length by omega);rw[<-(bl.some aA).1,bC,aS]at ca
 have bj:∀g,VK { v with vs:=vs,seen:=v.seen++[u.id],vc:=.slice am (v.com++z).length ak,com:=v.com++z } ⟨y.nb,au,y.us++[(u.id,u.time,v3)],Nz y.dl y.us.length u,aq,b2,st4.ws,a5,av,st4.cnt,st4.ep,st4.sq⟩ g->VK v y g\/w.heap.size<=g:=λg R=>by
  have an:∀{q},Tk v.kb y.nb au aq a1 av q->VK v y q\/w.heap.size<=q:=λe=>(az _ e).imp cF aA;obtain((e|e|e)|e)|e:=R
  .exact bN (bN (bN (bN e)))
  .exact bN (bN (bN (cF (bN e))))
  .obtain e|e:=bg g e
   .exact bN (bN (bN (cF (cF e))))
   .exact cF aA
  .obtain e|e:=ai g e
   .exact bN (bN (cF e))
   .exact cF aA
  .obtain e|e|e|e:=e
   .exact an (bN e)
   .exact an (cF (bN e))
   .exact an (cF (cF (bN (b4 g e))))
   .exact an (cF (cF (cF e)))
 refine bw D3 _ { v with vs:=vs,seen:=v.seen++[u.id],vc:=.slice am (v.com++z).length ak,com:=v.com++z } ⟨y.nb,au,y.us++[(u.id,u.time,v3)],Nz y.dl y.us.length u,aq,b2,st4.ws,a5,av,st4.cnt,st4.ep,st4.sq⟩ z ⟨⟨?_,?_,ay bn aB,ay br aB,λp hp=>?_,λg R e=>?_,by dsimp only;omega⟩,cm,bl,?_,?_,bu,bk,λg R=>(bj g R).elim (h.low g) aA⟩ rfl rfl rfl rfl rfl ?_ bj
 .rw[block_setCell a6];rfl
 .exact ay (E.seen.kept λg R=>by
   obtain⟨cs,q⟩:=E.seen.obj R;exact b9 q aB aB aB) aB
 .dsimp only at hp;rw[<-fM]at hp;obtain hp|hp:=dM.1 hp
  .exact((E.lor p hp).ro cr).ro bz
  .exact IE.ro (bp p (ml _ hp)) bz
 .obtain e|e:=bg g e
  .exact E.ne g R e
  .have:=E.log.lt R;omega
 .rw[take_one hj hu,h.seen]
 .have:=h.osl;dsimp only;omega
 ·
  refine⟨by have:=ao.size;omega,λk hk hn=>?_⟩;rw[ao.block k aA λe=>hn (bN (bN (bN e))),aj.block k aA ?c4,bv.block k aA ?c3,ar.block k aA ?c2,bd.block k hk (λe=>e)]
  case c2=>exact λe=>hn (bN (e.elim (λe=>bN (bN e)) cF))
  case c3=>exact λe=>hn (cF e)
  case c4=>
   rintro((e|e)|e)
   .exact hn (cF (bN e))
   .obtain e|e:=az k (cF (cF (bN e)))
    .exact hn (cF e)
    .omega
   .exact hn (bN (bN (cF (cF (by rw[a0];exact e)))))
end
end
open Hm (ptr jF TS jL jI kW PU PL jJ Vw lF VO VL Xj Ro IE Pe Nd lX NO SO ku)
section
section
variable {c:Cf}{chain:List X2}{j n:Nat}{v:Vw}{y:Ck}{w w':X}
theorem VC.laid(h:VC c chain j v y w)(hp:Xj w v n w'):∃v',VC c chain j v' y w'/\v'.vb=v.vb/\v'.kb=v.kb/\v'.log=v.log++v.com.take n/\v'.com=v.com.drop n/\jL (VK v y) w w'/\∀g,VK v' y g->VK v y g\/w.heap.size<=g:=by
 obtain⟨vl,vc,hV,hc,Y,he⟩:=hp;have z:jL (VK v y) w w':=hc.h.mono λk _ e=>bN (bN e)
 have ty:∀{k:Nat},VL v k->∃cs t E,w.heap[k]? =M (aL cs t E)/\(t=73\/t=52\/t=3):=λe=>by
  obtain⟨cs,t,E,q⟩:=Jj h.vw (bN e);exact⟨cs,t,E,q,h.vw.types (bN e) q⟩
 have R:y.at w' v.kb c:=TS.stands h.ts (λk hk=>hc.block k (TS.lt h.ts hk) λe=>by
  obtain⟨cs,t,E,q,e|e|e⟩:=ty e<;>subst e<;>exact TS.zn h.ts q aB aB aB aB aB hk) (h.ro z) (hc.block _ h.ts.hd.pos λe=>ny (h.low _ (bN (bN e))) rfl)
 have I:∀g,VK { v with vl:=vl,log:=v.log++v.com.take n,vc:=vc,com:=v.com.drop n } y g->VK v y g\/w.heap.size<=g:=λg J=>by
  obtain((e|e|e)|e)|e:=J
  .exact bN (bN (bN (bN e)))
  .exact(Y g e).imp (λe=>bN (bN (cF (bN e)))) id
  .exact bN (bN (bN (cF (cF (he ▸ e)))))
  .exact bN (bN (cF e))
  .exact bN (cF e)
 refine⟨_,⟨hV,R,?_,h.seen,h.osl,h.fits,h.hdl,λk hk=>(I k hk).elim (h.low k) λe=>?_⟩,rfl,rfl,rfl,rfl,z,I⟩
 .dsimp only;rw[fM,mj];exact h.rm
 .have:=h.lt (k:=v.vb) (bN (bN (bN rfl)));have:=h.low v.vb (bN (bN (bN rfl)));omega
end
structure Nn where
 x:Nd
 y:Ck
def NK(p:Nn)(k:Nat):Prop:=NO p.x k\/p.y.own p.x.v.kb k
def VK.nk{p:Nn}{k:Nat}(h:VK p.x.v p.y k):NK p k:=h.elim (λe=>bN (cF (cF e))) cF
structure NC(c:Cf)(chain:List X2)(j k:Nat)(rs:Bool)(sil:Nat)(p:Nn)(w:X):Prop where
 nd:lX w c p.x
 vc:VC c chain j p.x.v p.y w
 ps:p.x.ps.map cI=chain
 last:p.x.last=chain.length
 sil:p.x.sil=sil
 rs:p.x.rs=rs
 kl:p.x.v.log.length=k
 k1:1<=k
 ids:∀i,i<chain.length->(chain[i]!).id=((i+1:Nat):Int)
 hc:Dv.jS chain=bB
 hcf:Dv.jK c=bB
 j1:1<=j
 jl:j<=chain.length
 low:∀k,NK p k->Tryz.prog.globals.size<=k
section
variable {c:Cf}{chain:List X2}{j k:Nat}{rs:Bool}{sil:Nat}{p:Nn}{w w':X}
theorem NC.lt(h:NC c chain j k rs sil p w){g:Nat}(hk:NK p g):g<w.heap.size:=hk.elim h.nd.lt (TS.lt h.vc.ts)
theorem NC.kept(h:NC c chain j k rs sil p w)(hk:∀k,NK p k->w'.heap[k]? =w.heap[k]?)(z:Ro w w')(E:w'.heap[1]? =w.heap[1]?):NC c chain j k rs sil p w':=
 ⟨h.nd.kept (λk e=>hk k (bN e)) z,h.vc.kept (λk e=>hk k e.nk) z E,h.ps,h.last,h.sil,h.rs,h.kl,h.k1,h.ids,h.hc,h.hcf,h.j1,h.jl,h.low⟩
theorem NC.still(h:NC c chain j k rs sil p w)(hc:jL (λ_=>False) w w'):NC c chain j k rs sil p w':=h.kept (λk hk=>hc.block k (h.lt hk) (λe=>e)) (Ro.of hc) (hc.block _ h.vc.ts.hd.pos (λe=>e))
theorem NC.ro(h:NC c chain j k rs sil p w)(hc:jL (NK p) w w'):Ro w w':=λg cs t E z ht=>hc.block g (jE z) λe=>by
 obtain e|e:=e
 .have:=h.nd.types e z;exact ht.elim this.1 this.2
 .exact TS.zn h.vc.ts z (by grind) (by grind) (by grind) (by grind) (by grind) e
theorem NC.log(h:NC c chain j k rs sil p w):p.x.v.log.map cI=(Dv.gone c chain j).log.take k:=by rw[<-(h.vc.rm.some h.j1).1,bJ,List.take_append_of_le_length (by rw[bC,h.kl];exact jB),eH (by rw[bC,h.kl];exact jB)]
theorem NC.all(h:NC c chain j k rs sil p w):p.x.v.log.length+p.x.v.com.length=(Dv.gone c chain j).log.length:=by rw[<-(h.vc.rm.some h.j1).1,bC,aS]
theorem NC.seen(h:NC c chain j k rs sil p w):p.x.v.seen.length=j:=by have:=h.jl;rw[h.vc.seen];simp;omega
theorem NC.len(h:NC c chain j k rs sil p w):p.x.ps.length=chain.length:=by rw[<-h.ps,bC]
theorem NC.up(h:NC c chain j k rs sil p w){i:Nat}{q:PU}(z:p.x.ps[i]? =M q):chain[i]! =q.1:=by rw[<-h.ps,oT,fE,z];rfl
theorem NC.apart(h:NC c chain j k rs sil p w){g:Nat}(hk:g=p.x.nk\/SO p.x.sb p.x.vb g):¬VK p.x.v p.y g:=by
 obtain⟨cs,t,z,E,ht⟩:∃cs t z,w.heap[g]? =M (aL cs t z)/\(t=60\/t=83\/t=28):=by
  obtain rfl|rfl|e:=hk
  .exact⟨_,_,_,h.nd.obj,bN rfl⟩
  .exact⟨_,_,_,h.nd.src.obj,cF (bN rfl)⟩
  .obtain⟨cs,q⟩:=h.nd.src.row.obj e;exact⟨_,_,_,q,cF (cF rfl)⟩
 exact h.vc.far E (by rcases ht with rfl|rfl|rfl<;>decide)
theorem NC.viewed(h:NC c chain j k rs sil p w){E k':Nat}{v':Vw}{y':Ck}(Y:VC c chain E v' y' w')(hb:v'.vb=p.x.v.vb)(J:v'.log.length=k')(I:1<=k')(hc:jL (VK p.x.v p.y) w w')(R:∀g,VK v' y' g->VK p.x.v p.y g\/w.heap.size<=g)(h1:1<=E)(h2:E<=chain.length):NC c chain E k' rs sil ⟨{ p.x with v:=v' },y'⟩ w'/\jL (NK p) w w'/\∀g,NK ⟨{ p.x with v:=v' },y'⟩ g->NK p g\/w.heap.size<=g:=by
 have hr:=h.vc.ro hc
 have z:∀g,NK ⟨{ p.x with v:=v' },y'⟩ g->NK p g\/w.heap.size<=g:=λg hg=>by
  obtain(e|e|e)|e:=hg
  .exact bN (bN (bN e))
  .exact bN (bN (cF (bN e)))
  .exact(R g (bN e)).imp VK.nk id
  .exact(R g (cF e)).imp VK.nk id
 refine⟨⟨⟨(hc.block _ (h.lt (bN (bN rfl))) (h.apart (bN rfl))).trans ?_,h.nd.src.kept (λk e=>hc.block k (h.lt (bN (cF (bN e)))) (h.apart (cF e))) hr,Y.vw⟩,Y,h.ps,h.last,h.sil,h.rs,J,I,h.ids,h.hc,h.hcf,h1,h2,λk hk=>(z k hk).elim (h.low k) λe=>?_⟩,hc.mono λk _ e=>e.nk,z⟩
 .rw[h.nd.obj,hb]
 .have:=h.lt (g:=p.x.nk) (bN (bN rfl));have:=h.low p.x.nk (bN (bN rfl));omega
end
structure Oo(w:X)(te:cH)(xe:aD):Prop where
 gl:Tryz.prog.globals.size<=w.heap.size
 ev:w.cell? ⟨0,0,Z⟩=M (.iface te xe)
 hd:qM w
def Oo.kept{w w':X}{XS:Nat->Prop}{te:cH}{xe:aD}(h:Oo w te xe)(hc:jL XS w w')(z:∀k,XS k->Tryz.prog.globals.size<=k):Oo w' te xe:=by
 have hs:=hc.size;have R:=h.gl;have J:0<Tryz.prog.globals.size:=Z2 XN;have I:1<Tryz.prog.globals.size:=Z2 XN;have E:¬XS 1:=λe=>by have:=z _ e;omega
 refine⟨aA,?_,Hm.mX h.hd.hd hc E,by rw[hc.block _ h.hd.hd.pos E];exact h.hd.ty⟩;rw[<-h.ev];unfold World.cell?;rw[show w'.heap[(Addr.mk 0 0 Z).block]? =w.heap[(Addr.mk 0 0 Z).block]? from hc.block 0 aA λe=>by have:=z _ e;omega]
end
end Pa
namespace Hm
open Go.RowKit Go.Joins Go.Shelf
open Fr (below_drewN)
open Dv (Lo X2 Cf)
section
def Told(ps:List PU)(i:Int)(p:PU)(f:Bool):Prop:=(f=bB/\∃n:Nat,i=n/\ps[n]? =M p)\/(f=aR/\(i<0\/(ps.length:Int)<=i))
section
variable {w w':X}{sb:Nat}{vb:aD}{ps:List PU}{last:Nat}{ev:aD}
theorem rD(h:ku w sb vb ps last 0)(E:w.cell? ⟨0,0,Z⟩=M ev)(i:Int):eL PQ 21 #[aG (M ⟨sb,0,Z⟩),N aE i] w λe w'=>
  ∃(u:X2)(ta la:Option fR)(tn tc Y z:Nat)(f:Bool),e=.returned (cP #[.agg #[N aE u.id,N aE u.time,.slice ta tn tc,.slice la Y z],.bool f,.nilIface])/\Told ps i (u,.slice ta tn tc,.slice la Y z) f/\cG w.heap.size w w':=by
 refine(II h E).mono λe w' I=>?_;unfold rW at I;rw[Zs aA]at I;obtain⟨J,⟨n,⟨u,vt,vl⟩,hn,hp,rfl⟩|⟨hi,rfl⟩⟩:=I
 .have R:=h.up _ (aX hp);obtain⟨ta,tc,rfl⟩:∃a c,vt=.slice a u.txs.length c:=R.1.slice;obtain⟨la,z,rfl⟩:∃a c,vl=.slice a u.logs.length c:=Row.slice R.2;exact⟨u,ta,la,_,tc,_,z,bB,rfl,bN ⟨rfl,n,hn,hp⟩,J⟩
 .exact⟨⟨0,0,[],[]⟩,Z,Z,0,0,0,0,aR,rfl,cF ⟨rfl,hi⟩,J⟩
end
def jZ{n:Nat}{tm:Array aD}(h:tm.size=n):∃l:List aD,tm=l.toArray/\l.length=n:=⟨tm.toList,aC,by simpa using h⟩
def jV{l:List aD}{n:Nat}(h:l.length=n+1):∃a m,l=a::m/\m.length=n:=by
 cases l with
 |nil=>simp at h
 |cons a m=>exact⟨a,m,rfl,by simpa using h⟩
end
section
variable {tm:Array aD}{w:X}{Q:pC->Act->X->Prop}
noncomputable def ady:eN:=match Tryz.f45.body with
 |some (bL c _)=>c
 |_=>.ret
noncomputable def ac9:eN:=match Tryz.f45.body with
 |some (bL _ (bL c _))=>c
 |_=>.ret
noncomputable def adf:eN:=match Tryz.f45.body with
 |some (bL _ (bL _ (bL (bL c _) _)))=>c
 |_=>.ret
noncomputable def aby:eN:=match Tryz.f45.body with
 |some (bL _ (bL _ (bL (bL _ (.cond _ (bL c _) _)) _)))=>c
 |_=>.ret
noncomputable def aaz:eN:=match Tryz.f45.body with
 |some (bL _ (bL _ (bL (bL _ (.cond _ (bL _ (bL c _)) _)) _)))=>c
 |_=>.ret
noncomputable def abG:eN:=match Tryz.f45.body with
 |some (bL _ (bL _ (bL (bL _ (.cond _ (bL _ (bL _ c)) _)) _)))=>c
 |_=>.ret
noncomputable def ZB:eN:=match Tryz.f45.body with
 |some (bL _ (bL _ (bL _ (bL c _))))=>c
 |_=>.ret
noncomputable def onT:eN:=match Tryz.f45.body with
 |some (bL _ (bL _ (bL _ (bL _ c))))=>c
 |_=>.ret
theorem ZL:Tryz.f45.body=M (bL ady (bL ac9 (bL (bL adf (.cond (.tmp 17) (bL aby (bL aaz abG)) .skip)) (bL ZB onT)))):=XN
theorem afy{f:Bool}{J R:aD}(hs:tm.size=49)(t4:tm[4]? =M J)(t5:tm[5]? =M R)(t6:tm[6]? =M (.bool f))(t7:tm[7]? =M .nilIface)(z:∀tm:Array aD,f=bB->tm.size=49->tm[4]? =M J->tm[5]? =M R->Q .normal ⟨tm,[]⟩ w)(E:∀tm:Array aD,f=aR->tm.size=49->tm[2]? =M (N .u8 2)->tm[3]? =M .nilIface->Q .ret ⟨tm,[]⟩ w):aaz.wp PQ Q ⟨tm,[]⟩ w:=by
 obtain⟨l,rfl,hs⟩:=jZ hs
 iterate 49 (obtain⟨_,l,rfl,I⟩:=jV hs;clear hs;have hs:=I;clear I)
 obtain rfl:=cK.1 hs;clear hs;simp only[eX,eU,dX,aK]at t4 t5 t6 t7;subst t4 t5 t6 t7;simp only[aaz,Tryz.f45];cases f with
 |true=>
  have HN:cJ _:=λtm=>z tm rfl;clear z E;go_wp2_with fail;exact HN.out _ rfl rfl rfl
 |false=>
  have Y:cJ _:=λtm=>E tm rfl;clear z E;go_wp2_with fail;exact Y.out _ rfl rfl rfl
theorem ab5{v:Vw}(hs:tm.size=49)(t4:tm[4]? =M (aG (M ⟨v.vb,0,Z⟩)))(h:lF w v)(R:∀(tm:Array aD) w',tm.size=49->Xj w v v.com.length w'->Q .normal ⟨tm,[]⟩ w'):ZB.wp PQ Q ⟨tm,[]⟩ w:=by
 obtain⟨l,rfl,hs⟩:=jZ hs
 iterate 49 (obtain⟨_,l,rfl,E⟩:=jV hs;clear hs;have hs:=E;clear E)
 obtain rfl:=cK.1 hs;clear hs;simp only[eX,eU,dX,aK]at t4;subst t4;obtain⟨ca,cc,z⟩:=h.com.slice;obtain⟨-,-,-,c3⟩:=cells4 h.obj;rw[z]at c3;have J:=Dk v v.com.length w h jB;have HL:cJ _:=λ(_:Unit)=>J;have HN:cJ _:=R;clear R J h z;generalize v.com.length=n at *;simp only[ZB,Tryz.f45];go_wp2_with (go_at_call 23;refine aT (HL.out ()) ?_;rintro e w1 ⟨rfl,I⟩;have Y:cJ _:=I;clear I)
 exact HN.out _ _ rfl Y.out
theorem afs(hs:tm.size=49)(E:∀tm:Array aD,tm.size=49->tm[2]? =M (N .u8 1)->tm[3]? =M .nilIface->Q .ret ⟨tm,[]⟩ w):onT.wp PQ Q ⟨tm,[]⟩ w:=by
 obtain⟨l,rfl,hs⟩:=jZ hs
 iterate 49 (obtain⟨_,l,rfl,z⟩:=jV hs;clear hs;have hs:=z;clear z)
 obtain rfl:=cK.1 hs;clear hs;have I:cJ _:=E;clear E;simp only[onT,Tryz.f45];go_wp2_with fail;exact I.out _ rfl rfl rfl
end
def ae9{tm:Array aD}{w:X}{c:Cf}{x:Nd}{ev:aD}{K:Act->X->Prop}(hs:tm.size=49)(t0:tm[0]? =M (aG (M ⟨x.nk,0,Z⟩)))(t4:tm[4]? =M (aG (M ⟨x.v.vb,0,Z⟩)))(h:lX w c x)(J:x.sil=0)(ae:w.cell? ⟨0,0,Z⟩=M ev)(hK:∀(tm:Array aD) w' bx (u:X2) (ta la:Option fR) (tn tc I E:Nat) (f:Bool),tm.size=49->tm[0]? =M (aG (M ⟨x.nk,0,Z⟩))->tm[4]? =M (aG (M ⟨x.v.vb,0,Z⟩))->tm[5]? =M (aG (M ⟨bx,0,Z⟩))->tm[6]? =M (.bool f)->tm[7]? =M .nilIface->w'.heap[bx]? =M (aL #[N aE u.id,N aE u.time,.slice ta tn tc,.slice la I E] 28 (0,0))->cG w.heap.size w w'->Told x.ps (x.v.seen.length:Nat) (u,.slice ta tn tc,.slice la I E) f->K ⟨tm,[]⟩ w'):aby.wp PQ (Exit.then K λ_ _ _=>False) ⟨tm,[]⟩ w:=by
 obtain⟨l,rfl,hs⟩:=jZ hs
 iterate 49 (obtain⟨_,l,rfl,h'⟩:=jV hs;clear hs;have hs:=h';clear h')
 obtain rfl:=cK.1 hs;clear hs;simp only[eX,eU,dX,aK]at t0 t4;subst t0 t4;obtain⟨va,Y,ac⟩:=h.vw.seen.slice;obtain⟨k7,-,-⟩:=h.cells;have c0:=kJ h.vw.obj;rw[ac]at c0;have q7:∀o,(w.alloc o).cell? ⟨x.nk,7,Z⟩=M (aG (M ⟨x.sb,0,Z⟩)):=λo=>lu k7 ((aJ _ w).alloc jB o);have q0:∀o,(w.alloc o).cell? ⟨x.v.vb,0,Z⟩=M (.slice va x.v.seen.length Y):=λo=>lu c0 ((aJ _ w).alloc jB o);have hB:∀W,cG w.heap.size w W->eL PQ 21 #[aG (M ⟨x.sb,0,Z⟩),N aE (x.v.seen.length:Nat)] W λe w'=>∃(u:X2)(ta la:Option fR)(tn tc I E:Nat)(f:Bool),e=.returned (cP #[.agg #[N aE u.id,N aE u.time,.slice ta tn tc,.slice la I E],.bool f,.nilIface])/\(Told x.ps (x.v.seen.length:Nat) (u,.slice ta tn tc,.slice la I E) f/\cG w.heap.size w w')/\cG W.heap.size W w':=λW R=>(rD (by have:=(h.below R).src;rw[J]at this;exact this) (lu ae R) _).mono λe w' ⟨u,ta,la,tn,tc,I,E,f,h1,h2,h3⟩=>⟨u,ta,la,tn,tc,I,E,f,h1,⟨h2,R.trans (h3.mono R.size)⟩,h3⟩
 have HB:cJ _:=hB;have HK:cJ _:=hK;have z:=aJ w.heap.size w;clear hB hK h ac J;simp only[aby,Tryz.f45];go_region_with (go_at_call 21;(refine aT (HB.out _ ?_) ?_;(first|exact z|exact z.drew|exact below_drewN z _|exact(z.alloc jB _).drew|exact z.drew.alloc jB _);rintro e w5 ⟨u,ta,la,tn,tc,I,E,f,rfl,h5,aa⟩;(first|(have hz:w5.heap[w.heap.size]? =M (aL #[N aE 0,N aE 0,aM Z 0 0,aM Z 0 0] 28 (0,0)):=(aa.block _ aC).trans (cY w _);obtain⟨z0,z1,z2,z3⟩:=cells4 hz;have fz:=aQ hz;have HZ:cJ _:=hz;clear hz)|skip);have H5:cJ _:=h5;clear h5 aa))
 all_goals
  obtain⟨h5,R⟩:=H5.out;refine HK.out _ _ _ u ta la tn tc I E f rfl rfl rfl rfl rfl rfl ?_ ?_ h5
  .first
    |with_reducible exact cY _ _
    |exact(nK HZ.out _ _ _ _).1
  .first
    |with_reducible exact R.alloc R.size _
    |exact((jI.below R jB (λ_=>False)).trans (nK HZ.out _ _ _ _).2 λk hk e=>aA).lQ
end Hm
namespace Pa
open Go Go.Conc Go.RowKit Go.Joins
open Hm (ptr jF TS jL jI PU Vw lF Ro Pe Nd lX ady ac9 adf aby aaz abG ZB onT Told)
open Dv (X2 Cf Ch)
open Po hiding X2 H B IT PR NB
section
variable {tm:Array aD}{s:Nat}{v u:aD}{w:X}
theorem KI(h:tm[s]? =M v):(Act.mk tm []).eval (.tmp s)=v:=by simp[Act.eval,h]
theorem pI{s':Nat}(h:tm[s]? =M v)(z:s'≠s):(tm.setIfInBounds s' u)[s]? =M v:=by grind
theorem tnew(h:s<tm.size):(tm.setIfInBounds s u)[s]? =M u:=by grind
theorem lX.heap{w':X}{c:Cf}{x:Nd}(h:lX w c x)(q:w'.heap=w.heap):lX w' c x:=h.kept (λ_ _=>by rw[q]) (Ro.heap q)
theorem IJ{B:Nat}{a b c d:aD}{act:Act}{r:l8}(h:w.heap[B]? =M (aL #[a,b,c,d] 28 (0,0)))(e:act.eval r=ptr B):∀t z (o:km),o.op=.load 28 r->(bO act.eval o).run PQ (on w t z)=.ok (.value (.agg #[a,b,c,d])) (on w t z):=λt z o I=>by
 have k:=aI (show(on w t z).heap[B]? =_ from h);have R:=k 0;have k1:=k 1;have E:=k 2;have J:=k 3;unfold bO;simp only[I,e,ptr];simp[go_sem,R,k1,E,J]
noncomputable def Xo:Array km:=match abG with
 |.region _ ops _=>ops
 |_=>#[]
theorem ZR:∃z,abG=.region z Xo aR:=⟨_,rfl⟩
theorem JV:List.range Xo.size=[0,1,2]:=XN
def Af(c:Cf)(chain:List X2)(j:Nat):Nat:=(Dv.gone c chain j).log.length
def onJ(c:Cf)(chain:List X2)(j k:Nat):Nat:=if k<Af c chain j then j else if j<chain.length then j+1 else j
def onK(c:Cf)(chain:List X2)(j k:Nat):Nat:=if k<Af c chain j then Af c chain j else if j<chain.length then Af c chain (j+1)else k
def onV(c:Cf)(chain:List X2)(j k:Nat):Int:=if k<Af c chain j then 1 else if j<chain.length then 1 else 2
theorem ad3{E z:aD}(h2:tm[2]? =M E)(h3:tm[3]? =M z)(w:X):(results Tryz.f45 tm).run PQ w=.ok (cP #[E,z]) w:=by simp[results,Tryz.results45,go_sem,h2,h3]
section
variable {Post:vU}{D:Nat->Prop}{XX A:List cT}{c:Cf}{chain:List X2}{j kk:Nat}{rs:Bool}{p:Nn}{w:X}{te:cH}{xe:aD}
theorem abj(rd:Cr.ReadW){b₀:cT}{a₀:Act}{ops:Array km}{i:Nat}{rest:List Nat}{k:List Item}{o:km}{x:l8}{a6:Array cH}(ho:ops[i]? =M o)(hw:Region.wanted o (yielded ops a₀.tmps)=bB)(a8:o.op=.call { callee:=.value (.func 45),args:=#[x],argTypes:=a6 })(ex:a₀.eval x=ptr p.x.nk)(hG:Oo w te xe)(h:NC c chain j kk rs 0 p w)(z:∀D' w' p',NC c chain (onJ c chain j kk) (onK c chain j kk) rs 0 p' w'->p'.x.nk=p.x.nk->jL (NK p) w w'->(∀g,NK p' g->NK p g\/w.heap.size<=g)->Wq D' Post XX (b₀.at (a₀.put o.dst (cP #[N .u8 (onV c chain j kk),.nilIface])) (.inRegion ops rest::k)) A w'):Wq D Post XX (b₀.at a₀ (.inRegion ops (i::rest)::k)) A w:=by
 have ag:=(Dv.jW h.hc).2.1;have ah:=h.seen;have af:=h.jl;have aa:=h.len;obtain⟨ca,cc,au⟩:=h.vc.vw.com.slice;have c3:=(cells4 h.vc.vw.obj).2.2.2;rw[au]at c3;have k8:=h.nd.cells.2.1;have I:=h.all;have ae:=h.kl;have an:=h.k1;clear au;refine Wq.call ho hw a8 (fq Tryz.func45 rfl) rfl Hm.ZL ?_;simp only[fQ,eP,fP,ex,show Tryz.f45.ntmps=49 from rfl,dR,aU,bY,Nat.reduceAdd,Nat.reduceSub,dH,dG,dU,dI,dS,dN]
 have back:∀(D':Nat->Prop)(tm:Array aD)(w':X)(todo:List Item)(p':Nn),tm[2]? =M (N .u8 (onV c chain j kk))->tm[3]? =M .nilIface->NC c chain (onJ c chain j kk) (onK c chain j kk) rs 0 p' w'->p'.x.nk=p.x.nk->jL (NK p) w w'->(∀g,NK p' g->NK p g\/w.heap.size<=g)->Wq D' Post XX { (base 45).at ⟨tm,[]⟩ todo with mode:=.returning } (b₀.at a₀ (.inRegion ops (i::rest)::k)::A) w':=by
  intro D' tm w' todo p' h2 h3 q1 q2 q3 q4;refine Wq.leave (v:=.tuple _) (fn:=Tryz.f45) rfl rfl rfl (fq Tryz.func45 rfl) (ad3 h2 h3) ?_;rw[fO,ho];exact z D' w' p' q1 q2 q3 q4
 have H:cJ _:=jy h (jy z (jy back (jy ah (jy I (jy ae (jy an (jy ag (jy af aa))))))));clear h z back ah I ae an ag af aa;obtain⟨nc,am⟩:∃nc,nc=p.x.v.com.length:=⟨_,rfl⟩
 rw[<-am]at c3;have aw:cJ _:=am;clear am;refine Wq.seq (Wq.walk λt d Q J _=>?_);have HN:cJ _:=J;clear J;simp only[ady,Tryz.f45];go_wp2_with fail;refine HN.out _ _ (Wq.same (y:=w) (λ_ _=>rfl) (Wq.seq (Wq.walk λt d Q J _=>?_)));clear HN;have HN:cJ _:=J;clear J;have az:(on w t d).cell? _=_:=k8;simp only[ac9,Tryz.f45,ptr];go_wp2_with fail;refine HN.out _ _ (Wq.same (y:=w) (λ_ _=>rfl) (Wq.seq (Wq.seq (Wq.walk λt d Q J _=>?_))));clear HN az;have HN:cJ _:=J;clear J;have ay:(on w t d).cell? _=_:=c3;simp only[adf,Tryz.f45];by_cases h0:nc=0
 case neg=>
  have bd:((nc:Int) == (0:Int))=aR:=ZS aA;go_wp2_with fail;obtain⟨h,z,back,ah,I,ae,an,ag,af,aa⟩:=H.out;refine HN.out _ _ (Wq.same (y:=w) (λ_ _=>rfl) (Wq.cond (t:=aR) rfl ?_));clear HN ay;rw[Zs aB];refine Wq.skip (Wq.seq (Wq.walk λt d Q J _=>Hm.ab5 (w:=on w t d) (v:=p.x.v) rfl rfl (lF.heap h.vc.vw rfl) λtm w4 x0 hL=>J _ _ ?_));obtain⟨v4,ak,f1,f2,f3,f4,Y,ac⟩:=VC.laid (h.vc.heap (w':=on w t d) rfl) hL;have ai:jL (VK p.x.v p.y) w w4:=Y.heaps rfl rfl;have ao:kk<Af c chain j:=by have:=aw.out;unfold Af;omega
  obtain⟨n1,n2,n3⟩:=h.viewed (v':=v4) (y':=p.y) ak f1 (k':=Af c chain j) (by rw[f3,iJ,aS];exact I) aA ai ac h.j1 h.jl;refine Wq.walk λt d Q _ hR=>Hm.afs x0 λtm x0 x2 x3=>hR _ _ λtodo=>Wq.same (y:=w4) (λ_ _=>rfl) ?_;exact back D tm w4 todo ⟨{ p.x with v:=v4 },p.y⟩ (by rw[x2];unfold onV;rw[ZD ao]) x3 (by unfold onJ onK;rw[ZD ao,ZD ao];exact n1) rfl n2 n3
 subst h0;go_wp2_with fail;refine HN.out _ _ (Wq.same (y:=w) (λ_ _=>rfl) (Wq.cond (t:=bB) rfl ?_));clear HN ay;rw[ZD rfl];obtain⟨h,z,back,ah,I,ae,an,ag,af,aa⟩:=H.out;have am:=aw.out;have R:¬kk<Af c chain j:=by unfold Af;omega
 refine Wq.seq (Wq.walk λt d Q J _=>wp_mono (Hm.ae9 (w:=on w t d) (c:=c) (x:=p.x) (K:=λa' w'=>Q .normal a' w') rfl rfl rfl (lX.heap h.nd rfl) h.sil hG.ev λtm w2 bx u ta la tn tc ln lc f z0 z1 z4 z5 z6 z7 a0 a1 hT=>J _ _ ?_) (rY λ_ _ e=>e));have aj:jL (λ_=>False) w w2:=(kV a1).heaps rfl rfl;have h2:=h.still aj;have s2:=aj.size;refine Wq.seq (Wq.walk λt d Q J hR=>Hm.afy z0 z4 z5 z6 z7 (λtm e y0 y4 y5=>J _ _ (Wq.same (y:=w2) (λ_ _=>rfl) ?_)) λtm e y0 y2 y3=>hR _ _ λtodo=>Wq.same (y:=w2) (λ_ _=>rfl) ?_)
 .subst e;obtain⟨-,n,hn,hq⟩|⟨e,-⟩:=hT
  case inr=>cases e
  obtain rfl:j=n:=aA
  have E:j<chain.length:=by rw[<-aa];exact(aN.1 hq).1
  have a9:=h2.nd.src.up _ (aX hq);obtain⟨bb,aq⟩:=ZR;rw[aq];refine Wq.region ?_;rw[JV];refine Wq.qJ (.move (.tmp 4)) (M 39) (ptr p.x.v.vb) w2 rfl (λt d o h=>by unfold bO;simp only[h,KI y4];rfl) ?_;refine Wq.qJ (.load 28 (.tmp 5)) (M 40) _ w2 rfl (IJ a0 (KI (pI y5 aB))) ?_;obtain⟨o2,a2,a4,a3,ba⟩:∃o,Xo[2]? =M o/\o.op=.call { callee:=.value (.func 22),args:=#[.tmp 39,.tmp 40],argTypes:=#[57,28] }/\o.dst=M 41/\o.guard=Z:=⟨_,rfl,rfl,rfl,rfl⟩
  simp only[Act.put];refine DF rd (v:=p.x.v) (y:=p.y) a2 (Cr.jY ba) a4 (KI (pI (tnew aA) aB)) (KI (tnew (by grind))) (by have:=hG.gl;omega) h2.vc h.hc h.hcf E (h.up hq) a9 ?_;intro D3 w3 v3 y3 com av e1 e2 e3 e4 e5 ar a7;rw[a3];simp only[Act.put];refine Wq.done ?_;have s3:=ar.size;refine Wq.seq (Wq.walk λt d Q J _=>Hm.ab5 (w:=on w3 t d) (v:=v3) (by grind) (by grind) (lF.heap av.vw rfl) λtm w4 x0 hL=>J _ _ ?_);obtain⟨v4,ak,f1,f2,f3,f4,Y,ac⟩:=VC.laid (av.heap (w':=on w3 t d) rfl) hL;have ai:jL (VK v3 y3) w3 w4:=Y.heaps rfl rfl;have bg:∀g,VK v4 y3 g->VK v3 y3 g\/w3.heap.size<=g:=ac;have s4:=ai.size;have ap:jL (VK p.x.v p.y) w w4:=(aj.mono λ_ _ e=>e.elim).trans (ar.trans ai λk hk e=>(a7 k e).elim id λe=>aA) λ_ _ e=>e
  have a5:v4.log.length=Af c chain (j+1):=by
   have:=(ak.rm.some aA).1;unfold Af;rw[<-this,f4,List.drop_length,gI,bC]
  obtain⟨n1,n2,n3⟩:=h.viewed (v':=v4) (y':=y3) ak (f1.trans e1) a5 (by grind) ap (λg hg=>by
   grind) aA E
  refine Wq.walk λt d Q _ hR=>Hm.afs x0 λtm x0 x2 x3=>hR _ _ λtodo=>Wq.same (y:=w4) (λ_ _=>rfl) ?_;exact back D3 tm w4 todo ⟨{ p.x with v:=v4 },y3⟩ (by rw[x2];unfold onV;rw[Zs R,ZD E]) x3 (by unfold onJ onK;rw[Zs R,ZD E,Zs R,ZD E];exact n1) rfl n2 n3
 .subst e;obtain⟨e,-⟩|⟨-,hn⟩:=hT
  .cases e
  have E:¬j<chain.length:=aA
  exact back D tm w2 todo p (by rw[y2];unfold onV;rw[Zs R,Zs E]) y3 (by unfold onJ onK;rw[Zs R,Zs E,Zs R,Zs E];exact h2) rfl (aj.mono λ_ _ e=>e.elim) λg e=>bN e
end
end
end Pa
namespace Hm
open Go.RowKit Go.Joins Go.Shelf
open Fr (below_drewN)
open Dv (Lo X2 Cf)
section
variable {n:Nat}{v8:aD}{w:X}
noncomputable def ac1:eN:=match Tryz.f44.body with
 |some (bL c _)=>c
 |_=>.ret
noncomputable def adq:eN:=match Tryz.f44.body with
 |some (bL _ (bL c _))=>c
 |_=>.ret
noncomputable def acV:eN:=match Tryz.f44.body with
 |some (bL _ (bL _ (bL c _)))=>c
 |_=>.ret
noncomputable def adz:eN:=match Tryz.f44.body with
 |some (bL _ (bL _ (bL _ (bL (bL c _) _))))=>c
 |_=>.ret
noncomputable def Gf:eN:=match Tryz.f44.body with
 |some (bL _ (bL _ (bL _ (bL (bL _ (.block _ (.loop c))) _))))=>c
 |_=>.ret
noncomputable def bkT:eN:=match Tryz.f44.body with
 |some (bL _ (bL _ (bL _ (bL _ c))))=>c
 |_=>.ret
noncomputable def aaf:eN:=match Gf with
 |bL (bL c _) _=>c
 |_=>.ret
noncomputable def aaS:eN:=match Gf with
 |bL _ (bL (.block _ (bL c _)) _)=>c
 |_=>.ret
noncomputable def Z5:eN:=match Gf with
 |bL _ (bL (.block _ (bL _ (bL c _))) _)=>c
 |_=>.ret
noncomputable def Z4:eN:=match Gf with
 |bL _ (bL (.block _ (bL _ (bL _ (bL c _)))) _)=>c
 |_=>.ret
noncomputable def RY:eN:=match Gf with
 |bL _ (bL (.block _ (bL _ (bL _ (bL _ (bL c _))))) _)=>c
 |_=>.ret
noncomputable def QX:eN:=match Gf with
 |bL _ (bL (.block _ (bL _ (bL _ (bL _ (bL _ c))))) _)=>c
 |_=>.ret
noncomputable def aa9:eN:=match Gf with
 |bL _ (bL _ c)=>c
 |_=>.ret
theorem aah:Tryz.f44.body=M (bL ac1 (bL adq (bL acV (bL (bL adz (.block 0 (.loop Gf))) bkT)))):=XN
theorem QB:Gf=bL (bL aaf (.cond (.tmp 30) .skip (.exit 0))) (bL (.block 1 (bL aaS (bL Z5 (bL Z4 (bL RY QX))))) aa9):=XN
structure KQ(tm:Array aD)(nk:Nat)(q:Int)(vl:aD)(vb i:Nat):Prop where
 sz:tm.size=72
 t0:tm[0]? =M (aG (M ⟨nk,0,Z⟩))
 t1:tm[1]? =M (N aE q)
 t5:tm[5]? =M vl
 t6:tm[6]? =M (aG (M ⟨vb,0,Z⟩))
 t7:tm[7]? =M (N aE i)
section
variable {tm:Array aD}{w:X}{nk vb i:Nat}{q:Int}{vl:aD}{Q:pC->Act->X->Prop}
theorem abK{la:Option fR}{z:Nat}{v:Vw}(h:KQ tm nk q (.slice la n z) v.vb i)(Y:lF w v)(R:∀tm:Array aD,KQ tm nk q (.slice la n z) v.vb i->tm[30]? =M (.bool (decide ((i:Int)<=q) || decide (v.com.length=0/\v.log.length<n)))->Q .normal ⟨tm,[]⟩ w):aaf.wp PQ Q ⟨tm,[]⟩ w:=by
 obtain⟨hs,t0,t1,t5,t6,t7⟩:=h;obtain⟨l,rfl,hs⟩:=jZ hs
 iterate 72 (obtain⟨_,l,rfl,E⟩:=jV hs;clear hs;have hs:=E;clear E)
 obtain rfl:=cK.1 hs;clear hs;simp only[eX,eU,dX,aK]at t0 t1 t5 t6 t7;subst t0 t1 t5 t6 t7;have hR:=KG v la n z w Y;have HR:cJ _:=λ(_:Unit)=>hR;have J:cJ _:=R;clear R hR Y;simp only[aaf,Gf,lA];by_cases I:(i:Int)<=q
 .go_wp2_with fail;exact J.out _ ⟨rfl,rfl,rfl,rfl,rfl,rfl⟩ (by simp[I])
 .have Hq:cJ _:=I;go_wp2_with (go_at_call 64;refine aT (HR.out ()) ?_;rintro e w1 ⟨rfl,rfl⟩)
  exact J.out _ ⟨rfl,rfl,rfl,rfl,rfl,rfl⟩ (by simp;intro h;exact Xs h Hq.out)
theorem afT{c:Cf}{x:Nd}{ev:aD}(h:KQ tm x.nk q vl vb i)(hx:w.heap[x.nk]? =M (aL (lI c x.sb x.v.vb x.rs) 60 (0,0)))(hS:ku w x.sb x.vb x.ps x.last 0)(z:w.cell? ⟨0,0,Z⟩=M ev)(hN:∀(tm:Array aD) w' bx (u:X2) (ta la:Option fR) (tn tc J I:Nat) (f:Bool),KQ tm x.nk q vl vb i->tm[8]? =M (aG (M ⟨bx,0,Z⟩))->tm[9]? =M (.bool f)->tm[10]? =M .nilIface->w'.heap[bx]? =M (aL #[N aE u.id,N aE u.time,.slice ta tn tc,.slice la J I] 28 (0,0))->cG w.heap.size w w'->Told x.ps (i:Nat) (u,.slice ta tn tc,.slice la J I) f->Q .normal ⟨tm,[]⟩ w'):aaS.wp PQ Q ⟨tm,[]⟩ w:=by
 obtain⟨hs,t0,t1,t5,t6,t7⟩:=h;obtain⟨l,rfl,hs⟩:=jZ hs
 iterate 72 (obtain⟨_,l,rfl,Y⟩:=jV hs;clear hs;have hs:=Y;clear Y)
 obtain rfl:=cK.1 hs;clear hs;simp only[eX,eU,dX,aK]at t0 t1 t5 t6 t7;subst t0 t1 t5 t6 t7;have k7:w.cell? ⟨x.nk,7,Z⟩=M (aG (M ⟨x.sb,0,Z⟩)):=mZ hx rfl;have hB:=rD hS z (i:Int);have HB:cJ _:=λ(_:Unit)=>hB;have HN:cJ _:=hN;clear hN hB hS hx z;simp only[aaS,Gf,lA];go_wp2_with (go_at_call 21;refine aT (HB.out ()) ?_;rintro e w5 ⟨u,ta,la,tn,tc,J,I,f,rfl,h5,E⟩;have R:cJ _:=jy h5 E;clear h5 E)
 exact HN.out _ _ w5.heap.size u ta la tn tc J I f ⟨rfl,rfl,rfl,rfl,rfl,rfl⟩ rfl rfl rfl (cY _ _) (R.out.2.alloc (by exact R.out.2.size) _) R.out.1
theorem afK{R:aD}(h:KQ tm nk q vl vb i)(J:tm[8]? =M v8)(I:tm[9]? =M R)(t10:tm[10]? =M .nilIface)(z:∀tm:Array aD,KQ tm nk q vl vb i->tm[8]? =M v8->tm[9]? =M R->Q .normal ⟨tm,[]⟩ w):Z5.wp PQ Q ⟨tm,[]⟩ w:=by
 obtain⟨hs,t0,t1,t5,t6,t7⟩:=h;obtain⟨l,rfl,hs⟩:=jZ hs
 iterate 72 (obtain⟨_,l,rfl,E⟩:=jV hs;clear hs;have hs:=E;clear E)
 obtain rfl:=cK.1 hs;clear hs;simp only[eX,eU,dX,aK]at t0 t1 t5 t6 t7 J I t10;subst t0 t1 t5 t6 t7 J I t10;have Y:cJ _:=z;clear z;simp only[Z5,Gf,lA];go_wp2_with fail;exact Y.out _ ⟨rfl,rfl,rfl,rfl,rfl,rfl⟩ rfl rfl
theorem afg(h:KQ tm nk q vl vb i)(I:tm[8]? =M v8)(E:tm[9]? =M (.bool bB))(J:∀tm:Array aD,KQ tm nk q vl vb i->tm[8]? =M v8->Q .normal ⟨tm,[]⟩ w):Z4.wp PQ Q ⟨tm,[]⟩ w:=by
 obtain⟨hs,t0,t1,t5,t6,t7⟩:=h;obtain⟨l,rfl,hs⟩:=jZ hs
 iterate 72 (obtain⟨_,l,rfl,z⟩:=jV hs;clear hs;have hs:=z;clear z)
 obtain rfl:=cK.1 hs;clear hs;simp only[eX,eU,dX,aK]at t0 t1 t5 t6 t7 I E;subst t0 t1 t5 t6 t7 I E;have R:cJ _:=J;clear J;simp only[Z4,Gf,lA];go_wp2_with fail;exact R.out _ ⟨rfl,rfl,rfl,rfl,rfl,rfl⟩ rfl
theorem afm(h:KQ tm nk q vl vb i)(J:i<=60)(E:∀tm:Array aD,KQ tm nk q vl vb (i+1)->Q .normal ⟨tm,[]⟩ w):aa9.wp PQ Q ⟨tm,[]⟩ w:=by
 obtain⟨hs,t0,t1,t5,t6,t7⟩:=h;obtain⟨l,rfl,hs⟩:=jZ hs
 iterate 72 (obtain⟨_,l,rfl,z⟩:=jV hs;clear hs;have hs:=z;clear z)
 obtain rfl:=cK.1 hs;clear hs;simp only[eX,eU,dX,aK]at t0 t1 t5 t6 t7;subst t0 t1 t5 t6 t7;have I:cJ _:=E;clear E;simp only[aa9,Gf,lA];go_wp2_with fail;exact I.out _ ⟨rfl,rfl,rfl,rfl,rfl,rfl⟩
theorem pz.rest{a:Option fR}{cap m:Nat}{pl:List PL}(h:pz w (.slice a n cap) pl)(Y:pl.length=n)(hm:m<=n):pz w (.slice (if cap=m then a else a.map (·.add (m*8))) (n-m) (cap-m)) (pl.drop m):=by
 subst Y;refine⟨?_,λp hp=>h.2 p (je hp)⟩;obtain⟨hl,a',c',e,hc,hp⟩:=h.1;cases e;refine⟨?_,_,_,by rw[dW],by rw[dW];omega,λE=>?_⟩
 .rw[mQ jJ 8 (λ_=>rfl)]
 .rw[dW]at E;obtain⟨g,off,rfl,J,z⟩:=hp aA;rw[Zs aA];refine⟨g,off+m*8,?_,J,λj u hj=>?_⟩
  .simp only[cO,Addr.add];split
   .rename_i I;simp[I]
   .rfl
  .rw[dV];refine z (m*8+j) u ?_;have e:pl.flatMap jJ=(pl.take m).flatMap jJ++(pl.drop m).flatMap jJ:=by rw[<-iw,mj]
   have R:((pl.take m).flatMap jJ).length=m*8:=by rw[mQ jJ 8 (λ_=>rfl),bK,fZ hm]
   rw[e,bV aA,R,Nat.add_sub_cancel_left];exact hj
theorem Xj.from{W w':X}{v:Vw}(z:cG w.heap.size w W)(h:Xj W v n w'):Xj w v n w':=by obtain⟨vl,vc,E,h2,h3,h4⟩:=h;exact⟨vl,vc,E,(jI.below z jB _).trans h2 λ_ _ e=>e,λg I=>(h3 g I).imp id (bH z.size),h4⟩
theorem aha{c:Cf}{sb v0:Nat}{rs:Bool}(h:KQ tm nk q vl vb i)(z:w.heap[nk]? =M (aL (lI c sb v0 rs) 60 (0,0)))(J:∀(tm:Array aD) w',tm[4]? =M .nilIface->w'.heap[nk]? =M (aL (lI c sb vb aR) 60 (0,0))->jI (λk=>k=nk) w w'->Q .ret ⟨tm,[]⟩ w'):bkT.wp PQ Q ⟨tm,[]⟩ w:=by
 obtain⟨hs,t0,t1,t5,t6,t7⟩:=h;obtain⟨l,rfl,hs⟩:=jZ hs
 iterate 72 (obtain⟨_,l,rfl,E⟩:=jV hs;clear hs;have hs:=E;clear E)
 obtain rfl:=cK.1 hs;clear hs;simp only[eX,eU,dX,aK]at t0 t1 t5 t6 t7;subst t0 t1 t5 t6 t7;have R:w.cell? ⟨nk,8,Z⟩=M (aG (M ⟨v0,0,Z⟩)):=mZ z rfl;have k9:w.cell? ⟨nk,9,Z⟩=M (.bool rs):=mZ z rfl;have Y:=aQ z;have I:cJ _:=jy J z;clear J z;simp only[bkT,lA];go_wp2_with fail;refine I.out.1 _ _ rfl ?_ ((jI.set w nk 8 _).trans (.set _ nk 9 _) λ_ _ e=>e);have:=jX (jX I.out.2 8 (aG (M ⟨vb,0,Z⟩))) 9 (.bool aR);simpa[lI]using this
end
end
section
section
variable {tm:Array aD}{w:X}{nk vb i:Nat}{q:Int}{vl:aD}{Q:pC->Act->X->Prop}
theorem adE{la:Option fR}{n Y:Nat}{v:Vw}{pl:List PL}{K:Act->X->Prop}(h:KQ tm nk q (.slice la n Y) v.vb i)(R:lF w v)(J:pz w (.slice la n Y) pl)(hn:pl.length=n)(hm:v.log.length<=n)(ag:n<=4294967296)(he:∀(i:Nat) p q,v.com[i]? =M p->(pl.drop v.log.length)[i]? =M q->p.1=q.1)(hK:∀(tm:Array aD) w',KQ tm nk q (.slice la n Y) v.vb i->Xj w v (min v.com.length (n-v.log.length)) w'->K ⟨tm,[]⟩ w'):QX.wp PQ (Exit.then K λ_ _ _=>False) ⟨tm,[]⟩ w:=by
 obtain⟨hs,t0,t1,t5,t6,t7⟩:=h;obtain⟨l,rfl,hs⟩:=jZ hs
 iterate 72 (obtain⟨_,l,rfl,h'⟩:=jV hs;clear hs;have hs:=h';clear h')
 obtain rfl:=cK.1 hs;clear hs;simp only[eX,eU,dX,aK]at t0 t1 t5 t6 t7;subst t0 t1 t5 t6 t7;obtain⟨va,af,ac⟩:=R.log.slice;obtain⟨ca,cc,aa⟩:=R.com.slice;obtain⟨-,-,c2,c3⟩:=cells4 R.obj;rw[ac]at c2;rw[aa]at c3
 have hA:∀W,cG w.heap.size w W->eL PQ 65 #[.slice ca v.com.length cc,.slice (if Y=v.log.length then la else la.map (·.add (v.log.length*8))) (n-v.log.length) (Y-v.log.length)] W λe W'=>e=.returned (N aE (min v.com.length (n-v.log.length):Nat))/\cG w.heap.size w W':=λW hb=>by
  have h1:pz w (.slice ca v.com.length cc) v.com:=⟨by rw[<-aa];exact R.com.rd,λp hp=>R.lor p (ml _ hp)⟩
  refine(Xg _ _ v.com (pl.drop v.log.length) W (h1.below hb) ((J.rest hn hm).below hb) ⟨by have:=R.few;omega,by rw[dW];omega⟩ he).mono λe W' ⟨h1,h2⟩=>⟨?_,hb.trans (h2.mono hb.size)⟩
  rw[h1,dW,hn]
 have hL:∀W,cG w.heap.size w W->eL PQ 23 #[aG (M ⟨v.vb,0,Z⟩),N aE (min v.com.length (n-v.log.length):Nat)] W λe W'=>e=.returned (cP #[])/\Xj w v (min v.com.length (n-v.log.length)) W':=λW hb=>(Dk v _ W (R.below hb) (Nat.min_le_left _ _)).mono λe W' ⟨h1,h2⟩=>⟨h1,h2.from hb⟩
 have HL:cJ _:=hL;have HK:cJ _:=hK;have I:=aJ w.heap.size w;have ah:((v.log.length:Nat):Int)<=(n:Int):=aA
 have ai:n<=Y:=by
  obtain⟨_,_,_,e,hc,_⟩:=J.1;cases e;omega
 clear hK hL R J he ac aa hn;generalize min v.com.length (n-v.log.length)=z at *;generalize v.com.length=x at *;generalize v.log.length=m at *;simp only[QX,Gf,lA];by_cases ae:Y=m
 .obtain rfl:n=m:=by omega
  subst ae;simp only[if_true,Nat.sub_self]at hA;have HA:cJ _:=hA;clear hA;go_region_with (first|(go_at_call 65;((with_reducible refine aT (HA.out _ ?_) ?_);(first|exact I|exact I.drew|exact below_drewN I _);rintro e w5 ⟨rfl,E⟩))|(go_at_call 23;((with_reducible refine aT (HL.out _ ?_) ?_);(first|exact E|exact E.drew|exact below_drewN E _);rintro e w6 ⟨rfl,h6⟩;have H6:cJ _:=h6;clear h6)))
  all_goals refine HK.out _ _ ⟨rfl,rfl,rfl,rfl,rfl,rfl⟩ ?_
  all_goals exact H6.out
 .simp only[Zs ae]at hA;have HA:cJ _:=hA;clear hA;go_region_with (first|(go_at_call 65;((with_reducible refine aT (HA.out _ ?_) ?_);(first|exact I|exact I.drew|exact below_drewN I _);rintro e w5 ⟨rfl,E⟩))|(go_at_call 23;((with_reducible refine aT (HL.out _ ?_) ?_);(first|exact E|exact E.drew|exact below_drewN E _);rintro e w6 ⟨rfl,h6⟩;have H6:cJ _:=h6;clear h6)))
  all_goals refine HK.out _ _ ⟨rfl,rfl,rfl,rfl,rfl,rfl⟩ ?_
  all_goals exact H6.out
end
end
end Hm
namespace Dv
open Fr (F)
section
def Like(u v:X2):Prop:=u.id=v.id/\u.time=v.time/\jR u=jR v
def Like.refl(u:X2):Like u u:=⟨rfl,rfl,rfl⟩
section
variable {c:Cf}{a b:List X2}{k:Nat}
theorem F7(z:∀i,i<=k->Like (a[i]!) (b[i]!)){e:Nat}(I:e<=k)(t:Int):∀l:List Ba,sift c a k e t l=sift c b k e t l
 |[]=>rfl
 |x::r=>by
  have Y:=F7 z I t r;rw[sift,sift,Y];have h1:holds c a k e t x=holds c b k e t x:=by unfold holds;rw[(z e I).2.1]
  rw[h1];by_cases J:late c e t x=bB
  .simp[J]
  .by_cases E:holds c b k e t x=bB
   .simp[E]
   .have h2:wrong c a e t x=wrong c b e t x:=by
     simp only[late,iQ,Z3,not_or]at J;unfold holds at E;simp only[iQ,dF,YY,Z3,not_or]at E;have R:x.epoch<=k:=aA
     unfold wrong;rw[(z _ R).1,(z _ R).2.1];by_cases hk:e+1<=k
     .rw[(z _ hk).2.1]
     .grind
    rw[h2]
theorem Dc(z:∀i,i<=k->Like (a[i]!) (b[i]!)){h:Lo}{e:Nat}(E:e<=k)(txs:List (List UInt8)):lay c a k h e txs=lay c b k h e txs:=by unfold lay;rw[(z e E).1,(z e E).2.2]
theorem U7(hw:1<=c.window)(z:∀i,i<=k->Like (a[i]!) (b[i]!)){h:Lo}(E:h.epoch<=k)(wait:List Ba):draw c a k h wait=draw c b k h wait:=by
 have hs:=F7 (c:=c) z E (h.time+c.step) wait;unfold draw;simp only;rw[hs];cases R:(sift c b k h.epoch (h.time+c.step) wait).1 with
 |hold=>rfl
 |got x=>
  simp only;obtain⟨_,_,i3,i4,_,J,_,_⟩:=uG c b k _ _ _ _ R
  have hk:x.epoch<=k:=by
   unfold holds at J;simp only[ig,iY,beq_eq_false_iff_ne,Z6]at J;omega
  rw[Dc z hk]
 |no=>
  simp only;split
  .rfl
  .rename_i Y;have I:h.epoch+1<=k:=by omega
   rw[(z _ I).2.1];split
   .rw[Dc z I]
   .rw[Dc z E]
theorem C9(hw:1<=c.window)(z:∀i,i<=k->Like (a[i]!) (b[i]!)):∀(f:Nat)(h:Lo)(wait:List Ba),h.epoch<=k->draws c a k f h wait=draws c b k f h wait
 |0,_,_,_=>rfl
 |f+1,h,wait,he=>by
  rw[draws,draws,U7 hw z he];cases hd:draw c b k h wait with
  |mk o r=>
   cases o with
   |none=>rfl
   |some x=>
    have J:x.epoch<=k:=by
     unfold draw at hd;simp only at hd;split at hd
     .simp at hd
     .rename_i y E;simp only[dJ,aK]at hd;obtain⟨rfl,rfl⟩:=hd;obtain⟨_,_,i3,i4,_,I,_,_⟩:=uG c b k _ _ _ _ E;simp only[lay];unfold holds at I
      grind
     .split at hd
      .simp at hd
      .simp only[dJ,aK]at hd;obtain⟨rfl,rfl⟩:=hd;simp only[lay];split<;>omega
    simp only[C9 hw z f x r J]
theorem Sv(z:∀i,i<=k->Like (a[i]!) (b[i]!))(h:Lo)(wait:List Ba):left a k h wait=left b k h wait:=by unfold left;rw[(z k jB).2.1]
theorem Uy(hw:1<=c.window)(z:∀i,i<=k->Like (a[i]!) (b[i]!))(I:heard c (a[k]!).txs=heard c (b[k]!).txs){s:St}(E:(s.log.getLastD default).epoch<=k):step c a k s=step c b k s:=by
 have ht:take c (a[k]!) k s.chs s.wait=take c (b[k]!) k s.chs s.wait:=by unfold take;rw[I]
 unfold step;simp only;rw[ht,Sv z,C9 hw z _ _ _ E]
end
def Alike(c:Cf)(u v:X2):Prop:=Like u v/\heard c u.txs=heard c v.txs
def G7{c:Cf}{a b:List X2}(z:jS a=bB)(hcf:jK c=bB):∀k,k<=a.length->(∀i,i<=k-1->Alike c (a[i]!) (b[i]!))->gone c a k=gone c b k
 |0,_,hab=>by
  have:=(hab 0 aA).1;unfold gone start first
  rw[this.1,this.2.1,this.2.2]
 |k+1,hk,hab=>by
  have E:=G7 z hcf k aA (λi I=>hab i aA);have J:=(oI z hcf k aA).epoch
  have hw:1<=c.window:=by
   unfold jK at hcf;simp only[Z3]at hcf;omega
  rw[gone,gone,<-E];exact Uy hw (λi I=>(hab i aA).1) (hab k aA).2 aA
def GR{c:Cf}{chain:List X2}(hc:jS chain=bB)(hcf:jK c=bB){n:Nat}(E:1<=n)(z:n<=chain.length):gone c (chain.take n) n=gone c chain n:=by
 refine(G7 hc hcf n z (λi I=>?_)).symm
 have:(chain.take n)[i]! =chain[i]!:=by
  simp only[oT];rw[iI aA]
 rw[this];exact⟨Like.refl _,rfl⟩
def KL{c:Cf}{chain:List X2}{k:Nat}:∀(f:Nat)(h:Lo)(wait:List Ba)(x:Lo),x∈(draws c chain k f h wait).1->x.at_=k
 |0,_,_,x,z=>by simp[draws]at z
 |f+1,h,wait,x,z=>by
  rw[draws]at z;cases hd:draw c chain k h wait with
  |mk o r=>
   rw[hd]at z;cases o with
   |none=>simp at z
   |some y=>
    simp only[dD]at z;obtain rfl|z:=z
    .unfold draw at hd;simp only at hd;split at hd
     .simp at hd
     .simp only[dJ,aK]at hd;obtain⟨rfl,_⟩:=hd;rfl
     .split at hd
      .simp at hd
      .simp only[dJ,aK]at hd;obtain⟨rfl,_⟩:=hd;rfl
    .exact KL f y r x z
def Gs(c:Cf)(chain:List X2)(n:Nat):∀m:Nat,∃r,(gone c chain (n+m)).log=(gone c chain n).log++r/\∀x,x∈r->n<=x.at_
 |0=>⟨[],aC,aC⟩
 |m+1=>by
  obtain⟨r,E,h2⟩:=Gs c chain n m;rw[<-dV,gone];unfold step;simp only;rw[E];refine⟨_,fM ..,λx z=>?_⟩;obtain z|z:=dM.1 z
  .exact h2 x z
  .have:=KL _ _ _ _ z;omega
end
end Dv
