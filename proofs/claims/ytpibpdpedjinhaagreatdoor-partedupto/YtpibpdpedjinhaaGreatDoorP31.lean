import Derived.Test.YtpibpdpedjinhaaGreatDoorP30
set_option maxRecDepth 100000
set_option maxHeartbeats 16000000
set_option linter.unusedSimpArgs false
namespace Go.Proofs.YtpibpdpedjinhaaGreatDoor
namespace Hm
open Go.RowKit Go.Joins Go.Shelf
open Fr (below_drewN)
open Dv (U Cf Ba Ch)
attribute [local go_sem] Oper.semAt_some
theorem Nv(u0 u1 u3 u5 u6 u7 u8 u9 er b9 br cj cn c1 bl b7 bm bp cg co bn ct dx di b8 d0 ca bk dg b0 d9 du dr c9 d2 bz dy dw cl b3 bs dz c5 db c3 cc dl cf bx ci cp cx eb cz dv d7 cv ea bw d1 cm d8 ed b5 b1 d3 dq f8 gc ge gd e7 eu eg ei bv dj dk ck ce cb dh cd ec cw dm bu c6 b6 de cr:Value)(b2 b4 kb nb n:Nat)(cs:Array Value)(vo vw:Value)(nm:AL)(os:List PC)(ws:List PW)(w:World){Q:Exit->Act->World->Prop}
  (h2:w.heap[b2]? =some (.cells #[ptr kb] 93 (0,0))) (h4:w.heap[b4]? =some (.cells #[.int .i64 n] 3 (0,0))) (hk:w.heap[kb]? =some (.cells cs 137 (0,0))) (h8:cs[8]? =some (.map (some nb))) (h9:cs[9]? =some vo) (h10:cs[10]? =some vw)
  (ax:Chs w nb vo nm os) (gh:os.length<=4294967296) (ao:Row w 150 5 vw ws.length (ws.flatMap lD)) (fd:∀p,p∈ws->kM w p.2 p.1.txs) (hH:kQ w) (fa:∃hc t fz,w.heap[1]? =some (.cells hc t fz)/\t≠137/\t≠150)
  (ex:∀s,s∈(Dv.pull (lives nm os)).1->s.length<=4096) (ar:ws.length+4096*(Dv.pull (lives nm os)).1.length<4294967296)
  (hQ:∀(D:Nat)(W':World)(v9 R:Value)(Y:List PW)(cs':Array Value)(et:Value)(bq:AL)(cq:List PC),TI kb nb n w cs vw ws (Dv.pull (lives nm os)).1 W' v9 R Y->PS kb nb (Own nb vo os) (lives nm os) (Dv.pull (lives nm os)).1 W' cs' et bq cq->lives bq cq=(Dv.pull (lives nm os)).2->w.heap.size<=D->D<W'.heap.size->W'.heap[D]? =some (.deferred (some []))->
   Q .normal { tmps:=#[u0,u1,.pointer (some ⟨b2,0,none⟩),u3,.pointer (some ⟨b4,0,none⟩),u5,u6,u7,u8,u9,er,b9,br,cj,cn,c1,bl,b7,bm,bp,cg,co,bn,ct,dx,di,b8,d0,ca,bk,dg,b0,d9,du,dr,c9,d2,bz,dy,dw,cl,b3,bs,dz,c5,db,c3,cc,dl,cf,bx,ci,cp,cx,eb,cz,dv,d7,cv,ea,bw,d1,cm,d8,ed,b5,b1,d3,dq,.pointer (some ⟨kb,0,none⟩),.pointer (some ⟨kb,0,none⟩),.pointer (some ⟨kb,8,none⟩),.func (.func 115) #[] #[.pointer (some ⟨w.heap.size,0,none⟩)],e7,eu,eg,ei,bv,dj,dk,ck,ce,cb,dh,cd,ec,cw,dm,bu,c6,b6,de,cr],defers:=[{ target:=.collected D,args:=#[] }] } W'):
  Eh.wp PQ Q { tmps:=#[u0,u1,.pointer (some ⟨b2,0,none⟩),u3,.pointer (some ⟨b4,0,none⟩),u5,u6,u7,u8,u9,er,b9,br,cj,cn,c1,bl,b7,bm,bp,cg,co,bn,ct,dx,di,b8,d0,ca,bk,dg,b0,d9,du,dr,c9,d2,bz,dy,dw,cl,b3,bs,dz,c5,db,c3,cc,dl,cf,bx,ci,cp,cx,eb,cz,dv,d7,cv,ea,bw,d1,cm,d8,ed,b5,b1,d3,dq,f8,gc,ge,gd,e7,eu,eg,ei,bv,dj,dk,ck,ce,cb,dh,cd,ec,cw,dm,bu,c6,b6,de,cr],defers:=[] } w:=by
 have aq:∀(k:Nat)(c:Array Value)(t:Nat)(fz:Nat×Nat),w.heap[k]? =some (.cells c t fz)->t≠137->t≠150->¬(k=kb\/k=nb\/vw.ownBlock=some k):=by
  rintro k c t fz bb t1 t2 (rfl|rfl|e)
  ·rw[hk]at bb;simp at bb;exact t1 bb.2.1.symm
  ·exact kN bb ax.named rfl
  ·obtain⟨ew,q⟩:=ao.obj e;rw[bb]at q;simp at q;exact t2 q.2.1
 have ez:nb<w.heap.size:=ax.named.lt;have ba:10<cs.size:=(jC h10)
 have f3:Hid (10<cs.size):=ba;have g0:kb<w.heap.size:=(jC hk)
 have e4:b2<w.heap.size:=(jC h2)
 have e0:b4<w.heap.size:=(jC h4)
 have f1:∀g,vw.ownBlock=some g->g<w.heap.size:=λg hg=>ao.lt hg;have fc:1<w.heap.size:=hH.pos;have ee:NC w nb:=λc t fz e=>kN e ax.named rfl
 have fo:TI kb nb n w cs vw ws [] w vo vw []:=by
  refine⟨?_,by simpa using ao,by simpa using fd,rfl,λg hg=>.inl hg,jJ.refl _ _,ee,ez⟩;rw[hk]
  congr 2
  apply fP;intro i;simp only[aO,jg];split
  ·rename_i e;subst e
   first
    |exact h10
    |(rw[if_pos (jC h10)];exact h10)
  ·split
   ·rename_i e;subst e
    first
     |exact h9
     |(rw[if_pos (jC h9)];exact h9)
   ·rfl
 have el:Hid (∀k,Own nb vo os k->k<w.heap.size):=λk aa=>ax.qI aa;have fw:PS kb nb (Own nb vo os) (lives nm os) [] w cs vo nm os:=⟨hk,h8,h9,ax,gh,by simp,λk aa=>aa⟩
 obtain⟨V,hV,an,-⟩:=jE w #[.pointer (some ⟨kb,8,none⟩)] 196;have g3:V.heap.size=w.heap.size+1:=by rw[hV];simp
 have fe:V.cell? ⟨w.heap.size,0,none⟩=some (.pointer (some ⟨kb,8,none⟩)):=by
  have:V.heap[w.heap.size]? =some (.cells #[.pointer (some ⟨kb,8,none⟩)] 196 (0,0)):=by rw[hV];exact heap_alloc_new _ _
  rw[aA this];rfl
 have az:=fo.mZ (.below an jA (λ_=>False)) (λ_ _ _ _ _ e=>e) (λ_ _ e=>e);have e1:TI kb nb n V cs vw ws [] V vo vw []:=⟨az.obj,az.row,az.txs,az.fst,λg hg=>.inl hg,jJ.refl _ _,az.nbm,by omega⟩
 have fg:=fw.below an;have c2:w.cell? ⟨b2,0,none⟩=some (.pointer (some ⟨kb,0,none⟩)):=nO h2;have n2:=aq b2 _ _ _ h2 (by decide) (by decide);have n4:=aq b4 _ _ _ h4 (by decide) (by decide)
 have nh:¬(1=kb\/1=nb\/vw.ownBlock=some 1):=by
  obtain⟨c,t,fz,q1,q2,q3⟩:=fa;exact aq _ _ _ _ q1 q2 q3
 have e6:=(an.block b2 e4).trans h2;have e3:=(an.block b4 e0).trans h4;have fi:=hH.below an fc;have H0:Hid _:=jw (jw n2 (jw n4 nh)) (jw ex (jw ar (jw hQ (jw e1 (jw fg (jw e6 (jw e3 (jw fi (jw an fe)))))))));clear aq ex ar hQ fo e1 az fw fg h2 h4 hH fa fe an n2 n4 nh e6 e3 fi hk h8 h9 h10 ax ao fd ee ba;simp only[Eh,Tryz.f39];refine(wpIn_wide (n:=3)).1 ?_;gi_wp2;refine⟨trivial,(callsIn_wide.2 (KX kb w)).mono ?_⟩;rintro e w2 ⟨rfl,rfl⟩;gi_wp2;rw[<-hV];clear hV
 refine xG (gf:=115) (lb:=#[.pointer (some ⟨w.heap.size,0,none⟩)]) rfl (enters_of (fq Tryz.func115 rfl) (by kernel_rfl) rfl)
  (Iu kb w.heap.size nb (Own nb vo os) (lives nm os) ⟨[],vo,nm,os⟩ (by omega) (by omega)) (by rintro k (rfl|rfl)<;>omega) (λA B l o hl h=>h.put o (by omega)) (PSt.own _ _ _ _ _ _ _ (λk aa=>(by have:=el.out k aa;omega)) (by omega)) (PEn.own _ _ _ _ _ (λk aa=>(by have:=el.out k aa;omega))) (λlo=>by
   rintro⟨ae,x⟩ A A' row h hg hr;exact PSt.own _ _ _ _ _ _ _ (λk aa=>(by have:=el.out k aa;omega)) (by omega) (ae++[x]) A A' row h hg hr) (λ_=>rfl)
  (TJ kb nb n V cs vw ws) (λ_ _ _=>False) (TJ.own _ _ _ _ _ _ _ _ (by omega)) (λ_ _ _ _ _ h=>h.elim) ⟨vo,vw,[],H0.out.2.2.2.2.1⟩ ⟨⟨cs,H0.out.2.2.2.2.2.1⟩,H0.out.2.2.2.2.2.2.2.2.2.2⟩
  (λx _=>{ tmps:=#[u0,u1,.pointer (some ⟨b2,0,none⟩),u3,.pointer (some ⟨b4,0,none⟩),u5,u6,u7,u8,.string ⟨x.s.toArray⟩,er,b9,br,cj,cn,c1,bl,b7,bm,bp,cg,co,bn,ct,dx,di,b8,d0,ca,bk,dg,b0,d9,du,dr,c9,d2,bz,dy,dw,cl,b3,bs,dz,c5,db,c3,cc,dl,cf,bx,ci,cp,cx,eb,cz,dv,d7,cv,ea,bw,d1,cm,d8,ed,b5,b1,d3,dq,.pointer (some ⟨kb,0,none⟩),.pointer (some ⟨kb,0,none⟩),.pointer (some ⟨kb,8,none⟩),.func (.func 115) #[] #[.pointer (some ⟨w.heap.size,0,none⟩)],.string ⟨x.s.toArray⟩,eu,eg,ei,bv,dj,dk,ck,ce,cb,dh,cd,ec,cw,dm,bu,c6,b6,de,cr],defers:=[] }) (λ_ W=>W) (λ_ _ _ _=>rfl) (λ_ _=>jA) (λ_ _ _ _ _=>rfl) ?assign ?body ?done ?stop
 case assign=>
  intro l x W K hK;simp only[PX.encs];gi_wp2;exact hK
 case body=>
  rintro l ae x W0 W1 g4 gw ⟨r,hr⟩ ⟨v9,R,Y,hT⟩ hc hE ⟨⟨f0,hP⟩,ay⟩;rw[sH]at hP;obtain⟨am,z⟩:=hT.turn hc hE (λc t fz e=>kN e hP.chs.named rfl)
  have a6:f0=(cs.setIfInBounds 9 am).setIfInBounds 10 R:=by
   have q:=hP.obj;rw[z.obj]at q;simp at q;exact q.symm
  have au:=hP.pull;have bg:(Dv.pull (lives nm os)).1=(ae++[x]).map PX.s++(Dv.pull (lives x.nm x.os)).1:=by rw[au]
  have gi:x.s.length<=4096:=H0.out.2.1 x.s (by rw[bg,aY];simp);have eo:ae.length+1<=(Dv.pull (lives nm os)).1.length:=by rw[bg];simp
  have gx:V.heap.size<=W1.heap.size:=z.jO.size;have g6:V.heap.size<=W0.heap.size:=hT.jO.size;have a9:W1.heap[b2]? =some (.cells #[ptr kb] 93 (0,0)):=(z.jO.block b2 (by omega) H0.out.1.1).trans H0.out.2.2.2.2.2.2.1;have bj:W1.heap[b4]? =some (.cells #[.int .i64 n] 3 (0,0)):=(z.jO.block b4 (by omega) H0.out.1.2.1).trans H0.out.2.2.2.2.2.2.2.1;have ak:W1.heap[1]? =V.heap[1]?:=z.jO.block _ (by omega) H0.out.1.2.2
  have fx:kQ W1:=by
   obtain⟨⟨a0,a1,a2⟩,a3,a4,a5⟩:=H0.out.2.2.2.2.2.2.2.2.1;exact⟨⟨(World.cell?_of_block ak).trans a0,(World.cell?_of_block ak).trans a1,(World.cell?_of_block ak).trans a2⟩,(World.cell?_of_block ak).trans a3,(World.cell?_of_block ak).trans a4,(World.cell?_of_block ak).trans a5⟩
  have ap:∀k,k<w.heap.size->¬(k=kb\/k=nb\/vw.ownBlock=some k)->¬(k=kb\/R.ownBlock=some k):=λk gv aa e=>by
   rcases e with e|e
   ·exact aa (.inl e)
   ·rcases z.own k e with q|q
    ·exact aa (.inr (.inr q))
    ·omega
  have f2:=ap b2 e4 H0.out.1.1;have f4:=ap b4 e0 H0.out.1.2.1;have fh:=ap _ fc H0.out.1.2.2;obtain⟨S,hS⟩:∃S:ByteArray,(⟨x.s.toArray⟩:ByteArray)=S:=⟨_,rfl⟩
  have a8:S.data.toList=x.s:=by rw[<-hS]
  have gj:S.size<=4096:=by rw[<-hS];show x.s.toArray.size<=4096;rw[dL];exact gi
  obtain⟨Xw,dd,ai,-⟩:=jE W1 #[.string S] 9;have gz:Xw.heap.size=W1.heap.size+1:=by rw[dd];simp
  have ey:Boxed Xw W1.heap.size 9 (.string S):=by unfold Boxed;rw[dd];exact heap_alloc_new _ _
  have f9:Xw.heap[l]? =some (.loop r):=(ai.block l (jC hr)).trans hr;have fj:UI kb n W1 ((cs.setIfInBounds 9 am).setIfInBounds 10 R) R (ws++Y) [] Xw R []:=⟨by rw[qA];exact(ai.block kb (by omega)).trans z.obj,by simpa using z.row.below ai,λp hp=>Row.below (z.txs p (by simpa using hp)) ai,rfl,λg hg=>.inl hg,.below ai jA _⟩
  have cy:Nl (V.heap[1]?) W1.heap.size S [] Xw:=⟨(ai.block _ (by omega)).trans ak,fx.below ai (by omega),ey⟩
  have H1:Hid _:=jw hT (jw z (jw hP (jw ay (jw a6 (jw fj (jw cy (jw a9 (jw bj (jw f2 (jw f4 (jw fh (jw eo a8))))))))))));clear hT z hP ay a6 fj cy a9 bj f2 f4 fh eo au bg ak fx ap ey hc hE hr ai a8;rw[hS];gi_wp2;refine⟨trivial,(CallsIn.inRound _ (callsIn_wide.2 (AX S W1))).mono ?_⟩;rintro e w3 ⟨rfl,rfl⟩;gi_wp2;rw[<-dd];clear dd
  refine Dy f9 (gf:=118) (lb:=#[.pointer (some ⟨W1.heap.size,0,none⟩)]) rfl (enters_of (fq Tryz.func118 rfl) (by kernel_rfl) rfl) (zY (V.heap[1]?) W1.heap.size S gj) (Nl.own _ _ _ _ (by omega)) (λlo=>BY.own _ _ lo) (λ_=>rfl)
   (λae F W=>UJ kb n W1 ((cs.setIfInBounds 9 am).setIfInBounds 10 R) R (ws++Y) ae F W/\Nl (V.heap[1]?) W1.heap.size S ae W) (λ_ _ _ _=>False) (λF=>(UJ.own _ _ _ _ _ _ F _ (by omega)).and (Nl.own _ _ _ _ (by omega))) (λ_ _ _ _ _ _ h=>h.elim) ⟨⟨R,[],H1.out.2.2.2.2.2.1,λ_ _ e=>e⟩,H1.out.2.2.2.2.2.2.1⟩ H1.out.2.2.2.2.2.2.1
   (λy B=>{ tmps:=#[u0,u1,.pointer (some ⟨b2,0,none⟩),u3,.pointer (some ⟨b4,0,none⟩),u5,u6,u7,u8,.string S,.pointer (some ⟨B,0,none⟩),b9,br,cj,cn,c1,bl,b7,bm,bp,cg,co,bn,ct,dx,di,b8,d0,ca,bk,dg,b0,d9,du,dr,c9,d2,bz,dy,dw,cl,b3,bs,dz,c5,db,c3,cc,dl,cf,bx,ci,cp,cx,eb,cz,dv,d7,cv,ea,bw,d1,cm,d8,ed,b5,b1,d3,dq,.pointer (some ⟨kb,0,none⟩),.pointer (some ⟨kb,0,none⟩),.pointer (some ⟨kb,8,none⟩),.func (.func 115) #[] #[.pointer (some ⟨w.heap.size,0,none⟩)],.string S,.string S,.func (.func 118) #[] #[.pointer (some ⟨W1.heap.size,0,none⟩)],.agg #[.int .i64 y.b.epoch,.int .i64 y.b.id,.int .i64 y.b.time,.slice y.a y.b.txs.length y.cap,.int .i64 y.b.place],bv,dj,dk,ck,ce,cb,dh,cd,ec,cw,dm,bu,c6,b6,de,cr],defers:=[] }) (λy=>.cells #[.int .i64 y.b.epoch,.int .i64 y.b.id,.int .i64 y.b.time,.slice y.a y.b.txs.length y.cap,.int .i64 y.b.place] 150) ?iassign ?ibody ?idone ?istop
  case iassign=>
   intro l x W K hK;simp only[BX.encs];gi_wp2;exact hK
  case ibody=>
   rintro lb bd y F aw E g2 gp ⟨rb,g1⟩ hF ⟨⟨ab,aj,hU,e5⟩,fu⟩ a7 ⟨cu,au,pp,af⟩;have bh:=hU.mZ a7 (λk c t fz hk e=>e.2 c t fz hk) (λk hk e=>by have:=(hF k e.1).1;omega);obtain⟨hT,z,hP,ay,a6,_,cy,a9,bj,f2,f4,fh,eo,a8⟩:=H1.out;obtain⟨G,hG,gb,gk⟩:=jE E #[.int .i64 y.b.epoch,.int .i64 y.b.id,.int .i64 y.b.time,.slice y.a y.b.txs.length y.cap,.int .i64 y.b.place] 150;rw[<-hG];have gs:G.heap.size=E.heap.size+1:=by rw[hG];simp
   obtain⟨k0,k1,k2,k3,k4,kf⟩:=cells5 gk;have J:=bh.mZ (.below gb jA (λ_=>False)) (λ_ _ _ _ _ e=>e) (λ_ _ e=>e);have gy:=bh.jO.size;have dt:G.heap[b2]? =some (.cells #[ptr kb] 93 (0,0)):=(J.jO.block b2 (by omega) f2).trans a9;have fb:G.heap[b4]? =some (.cells #[.int .i64 n] 3 (0,0)):=(J.jO.block b4 (by omega) f4).trans bj;have c4:=nO fb;have g5:b4≠E.heap.size:=by omega
   have fl:Nl (V.heap[1]?) W1.heap.size S bd E:=fu.jO a7 (λe=>by have:=(hF _ e.1).1;omega) (λe=>by have:=(hF _ e.1).1;omega);have ah:Nl (V.heap[1]?) W1.heap.size S bd G:=fl.jO (.below gb jA (λ_=>False)) (λe=>e) (λe=>e);have gr:W1.heap.size+1<aw.heap.size:=by omega
   have gq:aw.heap.size<=E.heap.size:=a7.size;have ag:∀g,ab.ownBlock=some g->g<aw.heap.size:=λg hg=>hU.row.lt hg
   have I:∀g,ab.ownBlock=some g->¬wo F aw E g:=λg hg e=>by
    rcases e with e|e
    ·exact e5 g hg e
    ·have:=ag g hg;omega
   have ff:Hid _:=jw J (jw ah (jw I (jw ag (jw dt (jw gk (jw cu (jw af (jw bh (jw au (jw hF gb))))))))));clear hU bh J ah fl fu a7 cu af I hT z hP ay a6 cy a9 bj gk dt fb hG ag e5 au hF gb;by_cases fk:y.b.epoch<=n
   ·have e9:(y.b.epoch:Int)<=n:=by omega
    gi_wp2;refine wpIn_region_any (by kernel_rfl) ?_;change wpAnyIn _ _ _ _ _ _ _ _ _ (World.drew _);obtain⟨J,ah,I,ag,dt,gk,cu,af,bh,au,hF,gb⟩:=ff.out;have ac:jJ (λk=>k=E.heap.size) G (G.setCell ⟨E.heap.size,4,none⟩ (.int .i64 n)).drew:=(jJ.set G E.heap.size 4 _).trans (jJ.drew _ _) (λ_ _ e=>e);have f5:(G.setCell ⟨E.heap.size,4,none⟩ (.int .i64 n)).drew.heap[E.heap.size]? =some (.cells (bt y.b.epoch y.b.id y.b.time y.a y.b.txs.length y.cap n).toArray 150 (0,0)):=jT gk 4 (.int .i64 n);have ef:=J.obj;have em:ab.ownBlock≠some E.heap.size:=λe=>by have:=ag _ e;omega
    have ej:kb≠E.heap.size:=by omega
    have e8:10<cs.size:=f3.out
    have ar:(ws++Y++aj).length<4294967296:=by
     have q1:=H0.out.2.2.1;have q2:=congrArg List.length H1.out.2.1.fst;rw[aU]at q2;have q3:=Dv.vX n (ae.map PX.s);rw[aU]at q3;have q4:=congrArg List.length J.fst;rw[aU]at q4;have q5:=QB n (bd.map BX.b);have q6:=af.le;rw[aU]at q5;rw[aY,aJ,aU]at q6
     have q7:(textOf S.data.toList).length<=4096:=by
      have:=Dv.rW S.data.toList.length S.data.toList 4096 [] (by simp only[bM];omega);unfold textOf;omega
     have q8:=H1.out.2.2.2.2.2.2.2.2.2.2.2.2.1;simp only[dW,fG,aN,bM]at q6;simp only[aJ];omega
    have gm:RB (G.setCell ⟨E.heap.size,4,none⟩ (.int .i64 n)).drew b2 E.heap.size kb (ws++Y++aj).length ab ((ws++Y++aj).flatMap lD) (((cs.setIfInBounds 9 am).setIfInBounds 10 R).setIfInBounds 10 ab) y.b.epoch y.b.id y.b.time y.a y.b.txs.length y.cap n:=
     ⟨(ac.block b2 (by omega) (by omega)).trans dt,(ac.block kb (jC ef) ej).trans ef,by rw[aO];simp[e8],f5,J.row.jO ac (λg hg e=>em (by rw[hg,e])),em,ar⟩
    refine RQ (l:=lb) (m:=1) gm rfl rfl rfl ?_;intro a' g off cap wz hr hg;have fy:kM G (.slice y.a y.b.txs.length y.cap) y.b.txs:=Row.below cu.1 gb;have eh:=J.more fk fy (b10:=E.heap.size) (by omega) em ⟨_,gk⟩ ac hr hg;have hM:jJ (λk=>(ab.ownBlock=some k\/k=E.heap.size)\/k=kb) G (wz.setCell ⟨kb,10,none⟩ (.slice (some ⟨g,off,none⟩) ((ws++Y++aj).length+1) cap)):=(((ac.mono (λk _ e=>.inl (.inr e))).trans (jJ.alloc (λ_=>False) _ _) (λ_ _ e=>e.elim)).trans hg.jO (λk _ e=>.inl (.inl e))).trans (jJ.set wz kb 10 _) (λk _ e=>.inr e);have e2:=H1.out.2.2.2.2.2.2.2.2.2.2.2.1
    have fp:∀pr,Nl (V.heap[1]?) W1.heap.size S pr (wz.setCell ⟨kb,10,none⟩ (.slice (some ⟨g,off,none⟩) ((ws++Y++aj).length+1) cap)):=λpr=>ah.jO hM (by
     rintro((e|e)|e)
     ·rcases J.own _ e with q|q
      ·exact e2 (.inr q)
      ·omega
     ·omega
     ·exact e2 (.inl e)) (by
     rintro((e|e)|e)
     ·exact jF J.row ah.2.2 (by decide) e
     ·omega
     ·omega)
    refine⟨(zh hM (λk hk _=>?_)).from _,fp _,λk hk=>hM.block k ?_ ?_,⟨_,_,by rw[aY];exact eh,?_⟩,fp _⟩
    ·rcases hk with(e|rfl)|rfl
     ·obtain⟨ew,q⟩:=J.row.obj e;exact⟨_,_,_,q⟩
     ·exact⟨_,_,_,gk⟩
     ·exact⟨_,_,_,ef⟩
    ·rcases hk with e|e
     ·have:=(hF k e).2;omega
     ·omega
    ·rintro((e|e)|e)
     ·exact I k e hk
     ·rcases hk with q|q
      ·have:=(hF k q).2;omega
      ·omega
     ·rcases hk with q|q
      ·have:=(hF k q).1;omega
      ·omega
    ·intro q hq e;have hq:g=q:=by simpa[Value.ownBlock]using hq
     subst hq;rcases hg.own with r1|r1
     ·exact I g r1 e
     ·have r2:(G.setCell ⟨E.heap.size,4,none⟩ (.int .i64 n)).drew.heap.size+1<=g:=by simpa using r1
      have r3:=ac.size;rcases e with e|e
      ·have:=(hF g e).2;omega
      ·omega
   ·have e9:¬(y.b.epoch:Int)<=n:=by omega
    gi_wp2;obtain⟨J,ah,I,_⟩:=ff.out;refine⟨KeepsFrom.refl _ _,ah.jO (jJ.refl (λ_=>False) _) (λe=>e) (λe=>e),λ_ _=>rfl,⟨ab,aj,?_,I⟩,ah.jO (jJ.refl (λ_=>False) _) (λe=>e) (λe=>e)⟩;rw[aY];exact J.skip fk
  case idone=>
   rintro xs F aw Wb hF ⟨p,f7,gn⟩ ⟨⟨ab,aj,hU,_⟩,_⟩ a7;have av:=hU.mZ a7 (λk c t fz hk e=>e.2 c t fz hk) (λk hk e=>by have:=(hF k e.1).1;omega);obtain⟨hT,z,hP,ay,a6,_,_,_,_,_,_,_,_,a8⟩:=H1.out
   have bo:vK n (xs.map BX.b)=Dv.reads x.s n:=by
    have:=f7.all gn n;rw[a8]at this;unfold Dv.reads;exact this.symm
   have f6:=z.more av bo
   have ga:=hP.aaL (v:=ab) (by rw[a6];exact av.obj) av.jO (λk hk e=>by
    rcases e with e|e
    ·exact hP.chs.kU hP.obj (by decide) (by decide) (e ▸ hk)
    ·exact hP.chs.Qd z.row e hk)
   refine⟨(zh av.jO (λk hk _=>?_)).from _,⟨⟨_,by rw[sH];exact ga⟩,?_⟩,λk h1 h2=>av.jO.block k h2 ?_,am,ab,Y++aj,by rw[aY];exact f6⟩
   ·rcases hk with rfl|e
    ·exact⟨_,_,_,z.obj⟩
    ·obtain⟨ew,q⟩:=z.row.obj e;exact⟨_,_,_,q⟩
   ·refine(World.cell?_of_block (av.jO.block w.heap.size (by omega) ?_)).trans ay;rintro(e|e)
    ·omega
    ·rcases z.own _ e with q|q
     ·have:=f1 _ q;omega
     ·omega
   ·rintro(e|e)
    ·omega
    ·have:=hT.row.lt e;omega
  case istop=>
   rintro c gt F aw Wb _ _ h;exact h.elim
 case done=>
  rintro D xs W0 W hD gg _ ⟨v9,R,Y,hT⟩ hc hE ⟨cs',et,bq,cq,hP,hl,hx⟩ hK;obtain⟨am,ft⟩:=hT.turn hc hE (λc t fz e=>kN e hP.chs.named rfl);rw[hx]at ft hP;exact H0.out.2.2.2.1 D W am R Y cs' et bq cq (ft.base H0.out.2.2.2.2.2.2.2.2.2.1 ez) hP hl (by omega) (jC hK) hK
 case stop=>
  rintro D c ae W0 W hD gg _ h;exact h.elim
end Hm
namespace Hm
open Go.RowKit Go.Joins Go.Shelf
open Fr (F below_drewN)
open Dv (U Cf Ba Ch)
noncomputable def takeB:Code:=match Tryz.f39.body with
 |some (.seq _ (.seq _ (.seq _ (.seq _ (.seq (.seq _ c) _)))))=>c
 |_=>.skip
theorem FV(u0 u1 u3 u5 u6 u7 u8 u9 bp cv bo b9 cr cd u16 ck ba bj bq c1 bh bd cc a6 ct cu c3 a7 c2 ca u32 b1 br cm cx b5 cf b7 cn cg bv co dk dt du d0 dy di d1 e7 d9 d3 ez dx e4 dz em ej e2 e8 ef eb et dv a9 c6 bm bb bw ce a4 cb bz a8 bg cl bl a3 c9 bk dd bs bn bx cj ci cy a5:Value)(b2 b4 kb nb n C m:Nat)(most:Int)(cs vs:Array Value)(vo:Value)(nm:AL)(os:List PC)(fs:Nat->List F)(w:World){Q:Exit->Act->World->Prop}
  (h2:w.heap[b2]? =some (.cells #[ptr kb] 93 (0,0))) (h4:w.heap[b4]? =some (.cells #[.int .i64 n] 3 (0,0))) (hk:w.heap[kb]? =some (.cells cs 137 (0,0))) (h6:cs[6]? =some (.int .i64 most)) (h8:cs[8]? =some (.map (some nb))) (h9:cs[9]? =some vo)
  (a0:Chs w nb vo nm os) (hC:w.heap[C]? =some (.cells vs 76 (0,0))) (e9:vs.size=m) (aj:∀i,i<m->∃v,vs[i]? =some v/\zi w v (fs i)) (b6:∀i f,i<m->f∈fs i->f.num<65536/\f.data.length<=65536) (hm:m<=16777216) (ar:∀i,(fs i).length<=16777216)
  (av:os.length+(kY fs m).length<=4294967295) (d7:0<=most/\most<=4294967296)
  (hQ:∀(x6 x8 eo dj e6 e3 dq ec dw eh ei ex ed eg de ee el ew d8 dg dh ey eu e1 e0:Value)(W':World)(ae:Value)(Y:AL)(R:List PC),BI kb nb w cs vo os ((kY fs m).foldl (Dv.frame most n) (lives nm os)) (kY fs m).length W' ae Y R->Q .normal { tmps:=#[u0,u1,.pointer (some ⟨b2,0,none⟩),u3,.pointer (some ⟨b4,0,none⟩),u5,x6,u7,x8,u9,bp,cv,bo,b9,cr,cd,u16,ck,ba,bj,bq,c1,bh,bd,cc,a6,ct,cu,c3,a7,c2,ca,u32,b1,br,cm,cx,b5,cf,b7,cn,cg,bv,co,.slice (some ⟨C,0,none⟩) m m,.int .i64 m,eo,dj,e6,e3,dq,ec,dw,eh,ei,ex,ed,eg,de,ee,el,ew,d8,dg,dh,ey,eu,e1,e0,a9,c6,bm,bb,bw,ce,a4,cb,bz,a8,bg,cl,bl,a3,c9,bk,dd,bs,bn,bx,cj,ci,cy,a5],defers:=[] } W'):
  takeB.wp PQ Q { tmps:=#[u0,u1,.pointer (some ⟨b2,0,none⟩),u3,.pointer (some ⟨b4,0,none⟩),u5,u6,u7,u8,u9,bp,cv,bo,b9,cr,cd,u16,ck,ba,bj,bq,c1,bh,bd,cc,a6,ct,cu,c3,a7,c2,ca,u32,b1,br,cm,cx,b5,cf,b7,cn,cg,bv,co,.slice (some ⟨C,0,none⟩) m m,.int .i64 m,.int .i64 0,dk,dt,du,d0,dy,di,d1,e7,d9,d3,ez,dx,e4,dz,em,ej,e2,e8,ef,eb,et,dv,a9,c6,bm,bb,bw,ce,a4,cb,bz,a8,bg,cl,bl,a3,c9,bk,dd,bs,bn,bx,cj,ci,cy,a5],defers:=[] } w:=by
 have aw:cs.setIfInBounds 9 vo=cs:=by
  apply fP;intro i;simp only[aO];split
  ·rename_i e;subst e
   first
    |exact h9.symm
    |(rw[if_pos (jC h9)];exact h9.symm)
  ·rfl
 have cp:BI kb nb w cs vo os ((kY fs 0).foldl (Dv.frame most n) (lives nm os)) (kY fs 0).length w vo nm os:=⟨by rw[aw];exact hk,a0,jJ.refl _ _,λk hk=>.inl hk,by simp[kY],rfl⟩
 have E:∀(k:Nat)(c:Array Value)(t:Nat)(fz:Nat×Nat),w.heap[k]? =some (.cells c t fz)->t≠137->t≠197->t≠201->¬(k=kb\/Own nb vo os k):=by
  rintro k c t fz ao t1 t2 t3 (rfl|e)
  ·rw[hk]at ao;simp at ao;exact t1 ao.2.1.symm
  ·exact a0.kU ao t2 t3 e
 have af:∀W,jJ (λk=>k=kb\/Own nb vo os k) w W->W.heap[b2]? =some (.cells #[ptr kb] 93 (0,0))/\W.heap[b4]? =some (.cells #[.int .i64 n] 3 (0,0))/\W.heap[C]? =some (.cells vs 76 (0,0))/\∀v l,zi w v l->zi W v l:=λW hc=>⟨(hc.block _ (jC h2) (E _ _ _ _ h2 (by decide) (by decide) (by decide))).trans h2,(hc.block _ (jC h4) (E _ _ _ _ h4 (by decide) (by decide) (by decide))).trans h4,(hc.block _ (jC hC) (E _ _ _ _ hC (by decide) (by decide) (by decide))).trans hC,λv l h=>h.imp id (λ⟨g,cap,dm,e,q1,q2⟩=>⟨g,cap,dm,e,(hc.block g (jC q1) (E _ _ _ _ q1 (by decide) (by decide) (by decide))).trans q1,q2⟩)⟩
 have I:Hid _:=jw cp (jw af (jw aj (jw b6 (jw av (jw hQ (jw h6 (jw h8 ar)))))));have H9:Hid (cs[9]? =some vo):=h9;clear cp af aj b6 av hQ h6 h8 ar h2 h4 hk h9 a0 hC aw E;simp only[takeB,Tryz.f39];go_wp2_with fail;go_loopg [46] m (λgg t wr=>∃(i:Nat)(ae:Value)(Y:AL)(R:List PC),i<=m/\t=.int .i64 i/\gg=m-i/\Hid (BI kb nb w cs vo os ((kY fs i).foldl (Dv.frame most n) (lives nm os)) (kY fs i).length wr ae Y R))
 case atStart=>exact⟨0,vo,nm,os,dF _,rfl,rfl,I.out.1⟩
 case round=>
  obtain⟨i,ae,Y,R,hi,rfl,rfl,HI⟩:=hrel;by_cases ay:i<m
  ·have cz:(i:Int)<m:=by omega
   obtain⟨v,hv,a1⟩:=I.out.2.2.1 i ay;obtain⟨va,vc,a2⟩:=a1.slice;have hk:=I.out.2.1 wr HI.out.jO;have cC:wr.cell? ⟨C,i,none⟩=some (.slice va (fs i).length vc):=by rw[aA hk.2.2.1,hv,a2]
   have ar:=I.out.2.2.2.2.2.2.2.2 i;obtain⟨N,hN⟩:∃N,(fs i).length=N:=⟨_,rfl⟩
   rw[hN]at cC ar;have HN:Hid _:=jw hN (jw a1 a2);clear hv a1 a2 hk hN;go_wp2_with fail;go_loopg [52] N (λgg t wx=>∃(j:Nat)(z:Value)(au:AL)(am:List PC),j<=N/\t=.int .i64 j/\gg=N-j/\Hid (BI kb nb w cs vo os ((kY fs i++(fs i).take j).foldl (Dv.frame most n) (lives nm os)) (kY fs i++(fs i).take j).length wx z au am))
   case atStart=>exact⟨0,ae,Y,R,dF _,rfl,rfl,by rw[List.take_zero,fU];exact HI⟩
   case round=>
    rename_i fa;obtain⟨j,z,au,am,hj,rfl,rfl,HJ⟩:=hrel;by_cases ea:j<N
    ·have db:(j:Int)<N:=by omega
     obtain⟨f,hf⟩:∃f,(fs i)[j]? =some f:=⟨_,aG (by rw[HN.out.1];exact ea)⟩
     have hk:=I.out.2.1 wr HJ.out.jO;obtain⟨g,cap,e,k0,k1,k2,k3⟩:=(hk.2.2.2 v (fs i) HN.out.2.1).at hf;rw[HN.out.2.2]at e;simp only[Value.slice.injEq,true_and]at e;obtain⟨rfl,rfl⟩:=e;obtain⟨DB,b3⟩:∃DB:ByteArray,(⟨f.data.toArray⟩:ByteArray)=DB:=⟨_,rfl⟩
     rw[b3]at k2;obtain⟨X,hX,c4,ag⟩:=jE wr #[.int .u32 f.chan,.int .u16 f.num,.string DB,.bool f.last] 81;have ap:wr.heap.size<X.heap.size:=(jC ag)
     have ai:=HJ.out.below c4;have ab:=I.out.2.1 X ai.jO
     have ah:am.length<=4294967295:=by
      have q1:=HJ.out.len;have q2:=I.out.2.2.2.2.1;have q3:=Tn fs (show i+1<=m from ay);rw[vY,aJ]at q3;rw[aJ,aZ]at q1;omega
     have bu:=I.out.2.2.2.1 i f ay (aQ hf);have b8:(cs.setIfInBounds 9 z)[8]? =some (.map (some nb)):=by rw[aO];simpa using I.out.2.2.2.2.2.2.2.1
     have c5:(cs.setIfInBounds 9 z)[6]? =some (.int .i64 most):=by rw[aO];simpa using I.out.2.2.2.2.2.2.1
     have b0:(cs.setIfInBounds 9 z)[9]? =some z:=by
      obtain⟨dl,_⟩:=dR.1 H9.out;rw[aO];simp[dl]
     have hS:∀V,Below X.heap.size X V->V.cell? ⟨b2,0,none⟩=some (.pointer (some ⟨kb,0,none⟩))/\V.cell? ⟨b4,0,none⟩=some (.int .i64 n)/\V.cell? ⟨kb,6,none⟩=some (.int .i64 most)/\V.cell? ⟨wr.heap.size,0,none⟩=some (.int .u32 f.chan)/\V.cell? ⟨wr.heap.size,1,none⟩=some (.int .u16 f.num)/\V.cell? ⟨wr.heap.size,2,none⟩=some (.string DB)/\V.cell? ⟨wr.heap.size,3,none⟩=some (.bool f.last):=λV hV=>by
      have q2:=(hV.block _ (jC ab.1)).trans ab.1;have q4:=(hV.block _ (jC ab.2.1)).trans ab.2.1;have qk:=(hV.block _ (jC ai.obj)).trans ai.obj;have qo:=(hV.block _ ap).trans ag;exact⟨by rw[aA q2];rfl,by rw[aA q4];rfl,by rw[aA qk];exact c5,by rw[aA qo];rfl,by rw[aA qo];rfl,by rw[aA qo];rfl,by rw[aA qo];rfl⟩
     have aa:∀V,Below X.heap.size X V->Calls PQ 72 #[.pointer (some ⟨kb,8,none⟩),.agg #[.int .u32 f.chan,.int .u16 f.num,.string DB,.bool f.last],.int .i64 n,.int .i64 most] V λe w'=>e=.returned (.tuple #[])/\(w'.cell? ⟨b2,0,none⟩=some (.pointer (some ⟨kb,0,none⟩))/\w'.cell? ⟨b4,0,none⟩=some (.int .i64 n)/\w'.cell? ⟨kb,6,none⟩=some (.int .i64 most)/\w'.cell? ⟨wr.heap.size,0,none⟩=some (.int .u32 f.chan)/\w'.cell? ⟨wr.heap.size,1,none⟩=some (.int .u16 f.num)/\w'.cell? ⟨wr.heap.size,2,none⟩=some (.string DB)/\w'.cell? ⟨wr.heap.size,3,none⟩=some (.bool f.last))/\Hid (∃ac an ak,BI kb nb w cs vo os ((kY fs i++(fs i).take (j+1)).foldl (Dv.frame most n) (lives nm os)) (kY fs i++(fs i).take (j+1)).length w' ac an ak):=λV hV=>by
      have J:=ai.below hV;have ht:=take_any kb nb (cs.setIfInBounds 9 z) z au am f n most V J.obj b8 b0 J.chs ah bu d7;unfold Ie at ht;rw[b3]at ht;refine ht.mono ?_;rintro e w' ⟨rfl,ac,an,ak,cw,d2⟩
      have ax:=J.took cw (l':=(kY fs i++(fs i).take (j+1)).foldl (Dv.frame most n) (lives nm os)) (by
       rw[d2,J.lives,take_snoc hf];simp only[List.foldl_append,List.foldl_cons,List.foldl_nil])
      have cq:=I.out.2.1 w' ax.jO
      have qo:w'.heap[wr.heap.size]? =_:=(cw.jO.block wr.heap.size (aH ap hV.size) (by
       have qV:=(hV.block _ ap).trans ag;rintro(e|e)
       ·have:=J.obj;rw[<-e,qV]at this;simp at this
       ·exact J.chs.kU qV (by decide) (by decide) e)).trans ((hV.block _ ap).trans ag)
      refine⟨rfl,⟨by rw[aA cq.1];rfl,by rw[aA cq.2.1];rfl,?_,by rw[aA qo];rfl,by rw[aA qo];rfl,by rw[aA qo];rfl,by rw[aA qo];rfl⟩,ac,an,ak,?_⟩
      ·rw[aA ax.obj,aO];simpa using I.out.2.2.2.2.2.2.1
      ·have er:(kY fs i++(fs i).take (j+1)).length=(kY fs i++(fs i).take j).length+1:=by
        rw[take_snoc hf];simp only[aJ,iy];omega
       rw[er];exact ax
     have HS:Hid _:=hS;have az:Hid _:=aa;clear hS aa bu ah ai ab ag c4 hk b8 c5 b0;go_upto_region 10 with fail;rw[<-hX];clear hX k0 k1 k2 k3;have aq:=aB X.heap.size X;go_region_held3 (λV=>V.cell? ⟨b2,0,none⟩=some (.pointer (some ⟨kb,0,none⟩))/\V.cell? ⟨b4,0,none⟩=some (.int .i64 n)/\V.cell? ⟨kb,6,none⟩=some (.int .i64 most)/\V.cell? ⟨wr.heap.size,0,none⟩=some (.int .u32 f.chan)/\V.cell? ⟨wr.heap.size,1,none⟩=some (.int .u16 f.num)/\V.cell? ⟨wr.heap.size,2,none⟩=some (.string DB)/\V.cell? ⟨wr.heap.size,3,none⟩=some (.bool f.last)) (first|exact dr|(refine HS.out _ ?_;first|exact aq|exact aq.drew)) (first|(go_at_call 72;(refine aK (az.out _ ?_) ?_;(first|exact aq.drew|exact aq);rintro e5 w5 ⟨rfl,dr,H5⟩)))
     all_goals
      go_wp2_with fail;go_roundg (N-(j+1))
      case measure=>omega
      case rel=>
       obtain⟨ac,an,ak,h3⟩:=H5.out;exact⟨j+1,ac,an,ak,by omega,by go_num,rfl,h3⟩
    ·have db:¬(j:Int)<N:=by omega
     obtain rfl:j=N:=by omega
     go_wp2_with fail;go_roundg (m-(i+1))
     case measure=>omega
     case rel=>
      refine⟨i+1,z,au,am,by omega,by go_num,rfl,?_⟩;have q:=HJ;rw[dV (by rw[HN.out.1];exact jA),<-vY]at q;exact q
  ·have cz:¬(i:Int)<m:=by omega
   obtain rfl:i=m:=by omega
   go_wp2_with fail;exact I.out.2.2.2.2.2.1 _ _ _ _ _ _ _ _ _ _ _ _ _ _ _ _ _ _ _ _ _ _ _ _ _ _ _ _ _ HI.out
open Dv (U Cf Ba)
section
variable {v:Value}{a:Act}{d k:Nat}
noncomputable def ops2:Array Oper:=match Tryz.f39.body with
 |some (.seq _ (.seq _ (.seq (.region _ ops _) _)))=>ops
 |_=>#[]
theorem aac:∀q0 q1 q2 q3 q4 q5 q6 q7 q8 q9 q10 q11:Bool,Region.ready .any ops2 #[q0,q1,q2,q3,q4,q5,q6,q7,q8,q9,q10,q11]=[]->q11=true:=by decide+kernel
def JR(q0 q1 q2 q3 q4 q5 q6 q7 q8 q9 q10 q11:Bool)(i:Nat):Bool:=decide (i<12/\(i=2->q1=true)/\(i=3->q2=true)/\(i=4->q3=true/\q4=false)/\(i=6->q5=true/\q6=false)/\(i=7->q6=true/\q7=false)/\(i=8->q4=true/\q7=true/\q8=false)/\(i=9->q0=true)/\(i=10->q9=true)/\(i=11->q10=true/\q8=true/\q11=false))
theorem zX:∀q2 q3 q4 q5 q6 q7 q8 q9 q10 q11:Bool,(Region.ready .any ops2 #[true,true,q2,q3,q4,q5,q6,q7,q8,q9,q10,q11]).all (JR true true q2 q3 q4 q5 q6 q7 q8 q9 q10 q11)=true:=by decide+kernel
theorem yN:∀q2 q3 q4 q5 q6 q7 q8 q9 q10 q11:Bool,(Region.ready .any ops2 #[true,false,q2,q3,q4,q5,q6,q7,q8,q9,q10,q11]).all (JR true false q2 q3 q4 q5 q6 q7 q8 q9 q10 q11)=true:=by decide+kernel
theorem xP:∀q2 q3 q4 q5 q6 q7 q8 q9 q10 q11:Bool,(Region.ready .any ops2 #[false,true,q2,q3,q4,q5,q6,q7,q8,q9,q10,q11]).all (JR false true q2 q3 q4 q5 q6 q7 q8 q9 q10 q11)=true:=by decide+kernel
theorem xu:∀q2 q3 q4 q5 q6 q7 q8 q9 q10 q11:Bool,(Region.ready .any ops2 #[false,false,q2,q3,q4,q5,q6,q7,q8,q9,q10,q11]).all (JR false false q2 q3 q4 q5 q6 q7 q8 q9 q10 q11)=true:=by decide+kernel
theorem abh:∀q0 q1 q2 q3 q4 q5 q6 q7 q8 q9 q10 q11:Bool,(Region.ready .any ops2 #[q0,q1,q2,q3,q4,q5,q6,q7,q8,q9,q10,q11]).all (JR q0 q1 q2 q3 q4 q5 q6 q7 q8 q9 q10 q11)=true
 |true,true=>zX
 |true,false=>yN
 |false,true=>xP
 |false,false=>xu
section
variable {n:Nat}{P:Program}{ops:Array Oper}{Q:Exit->Act->World->Prop}{i:Nat}{o:Oper}{K:Act->World->Prop}{a:Act}{w w':World}
theorem kW(I:ops[i]? =some o)(E:o.guard=none)(J:(execOp a.eval o).run P w=.ok (.value v) w')(z:K (a.put o.dst v) w'):wpOpIn Fence.wide n P ops Q i K a w:=by
 unfold wpOpIn;rw[I];dsimp only;rw[if_pos (by simp[Region.wanted,E])];refine⟨λ_ _=>trivial,?_⟩;rw[show Oper.semAt Fence.wide.round a.eval o=execOp a.eval o from rfl,J];exact z
theorem F5(I:ops[i]? =some o)(E:o.guard=none)(J:(execOp a.eval o).run P w=.ok .skip w')(z:K (a.put o.dst undef) w'):wpOpIn Fence.wide n P ops Q i K a w:=by
 unfold wpOpIn;rw[I];dsimp only;rw[if_pos (by simp[Region.wanted,E])];refine⟨λ_ _=>trivial,?_⟩;rw[show Oper.semAt Fence.wide.round a.eval o=execOp a.eval o from rfl,J];exact z
theorem FQ{f:FuncId}{args:Array Value}{R:Ending->World->Prop}(z:ops[i]? =some o)(J:o.guard=none)(I:(execOp a.eval o).run P w=.ok (.enter f args) w)(Y:Calls P f args w R)(E:∀e w',R e w'->∃v,e=.returned v/\K (a.put o.dst v) w'):wpOpIn Fence.wide n P ops Q i K a w:=by
 unfold wpOpIn;rw[z];dsimp only;rw[if_pos (by simp[Region.wanted,J])];refine⟨λ_ _=>trivial,?_⟩;rw[show Oper.semAt Fence.wide.round a.eval o=execOp a.eval o from rfl,I];refine⟨λh=>by simp[Fence.wide]at h,(callsIn_wide.2 Y).mono ?_⟩;intro e w' h;obtain⟨v,rfl,hk⟩:=E e w' h;exact hk
end
theorem jB{u:Value}(z:d≠k)(h:a.tmps[k]? =some u):(a.put (some d) v).tmps[k]? =some u:=by rw[GI,if_neg z];exact h
theorem tV(hd:d<a.tmps.size):(a.put (some d) v).tmps[d]? =some v:=by rw[GI,if_pos rfl,if_pos hd]
theorem lW:(a.put (some d) v).tmps.size=a.tmps.size:=by unfold Act.put;simp
theorem KZ:(PQ.info? 139).map (λi=>(i.zero,i.size,i.bytes))=some (some (.agg #[.int .i64 0,.int .i64 0,.slice none 0 0]),3,40):=by kernel_rfl
structure UB(W:World)(b2 b3 b4 kb n:Nat)(vu:Value)(xs:List Value)(u:U)(ta:Option Addr)(tn tc:Nat)(la:Option Addr)(ln lc:Nat)(cs:Array Value):Prop where
 h2:W.heap[b2]? =some (.cells #[ptr kb] 93 (0,0))
 h3:W.heap[b3]? =some (.cells #[.int .i64 u.id,.int .i64 u.time,.slice ta tn tc,.slice la ln lc] 42 (0,0))
 hk:W.heap[kb]? =some (.cells cs 137 (0,0))
 hw:cs[7]? =some vu
 row:Row W 139 3 vu n xs
 len:n<4294967296
 up:oC W u (.slice ta tn tc) (.slice la ln lc)
 logs:∀x,x∈u.logs->x.length<=16777216
 heads:kQ W
structure UR(W:World)(b2 b3 b4 kb n:Nat)(vu:Value)(xs:List Value)(u:U)(ta:Option Addr)(tn tc:Nat)(la:Option Addr)(ln lc:Nat)(q0 q1 q2 q3 q4 q5 q6 q7 q8 q9 q10 q11:Bool)(a:Act)(w:World):Prop where
 sz:a.tmps.size=93
 t2:a.tmps[2]? =some (ptr b2)
 t3:a.tmps[3]? =some (ptr b3)
 t4:a.tmps[4]? =some (ptr b4)
 s0:q0=true->a.tmps[16]? =some (ptr kb)
 s1:q1=true->a.tmps[17]? =some (ptr kb)
 s2:q2=true->a.tmps[18]? =some (ptr kb)
 s3:q3=true->a.tmps[19]? =some (.pointer (some ⟨kb,7,none⟩))
 s4:q4=true->a.tmps[20]? =some (vu)
 s5:q5=true->a.tmps[21]? =some (Le u (.slice ta tn tc) (.slice la ln lc))
 s9:q9=true->a.tmps[25]? =some (ptr kb)
 s10:q10=true->a.tmps[26]? =some (.pointer (some ⟨kb,7,none⟩))
 wA:q6=false->w=W
 wB:q6=true->q7=false->∃da dc,Below W.heap.size W w/\Made w W.heap.size (.slice da (Dv.jL u).length dc) (Dv.jL u)/\a.tmps[22]? =some (.agg #[.int .i64 u.id,.int .i64 u.time,.slice da (Dv.jL u).length dc])
 wC:q7=true->q8=false->∃da dc w6,Below W.heap.size W w6/\Made w6 W.heap.size (.slice da (Dv.jL u).length dc) (Dv.jL u)/\w=w6.alloc (.cells #[.int .i64 u.id,.int .i64 u.time,.slice da (Dv.jL u).length dc] 139)/\a.tmps[23]? =some (.slice (some ⟨w6.heap.size,0,none⟩) 1 1)
 wD:q8=true->∃da dc w6 g off cap w1,Below W.heap.size W w6/\Made w6 W.heap.size (.slice da (Dv.jL u).length dc) (Dv.jL u)/\Row w1 139 3 (.slice (some ⟨g,off,none⟩) (n+1) cap) (n+1) (xs++[.int .i64 u.id,.int .i64 u.time,.slice da (Dv.jL u).length dc])/\Grew vu g (w6.alloc (.cells #[.int .i64 u.id,.int .i64 u.time,.slice da (Dv.jL u).length dc] 139)) w1/\a.tmps[24]? =some (.slice (some ⟨g,off,none⟩) (n+1) cap)/\w=if q11=true then w1.setCell ⟨kb,7,none⟩ (.slice (some ⟨g,off,none⟩) (n+1) cap)else w1
 c7:q7=true->q6=true
 c8:q8=true->q4=true/\q7=true
 c11:q11=true->q8=true
section
variable {W:World}{b2 b3 b4 kb n:Nat}{vu:Value}{xs:List Value}{u:U}{ta:Option Addr}{tn tc:Nat}{la:Option Addr}{ln lc:Nat}{cs:Array Value}{q0 q1 q2 q3 q4 q5 q6 q7 q8 q9 q10 q11:Bool}{a:Act}{w:World}
theorem UB.low(hB:UB W b2 b3 b4 kb n vu xs u ta tn tc la ln lc cs)(h:UR W b2 b3 b4 kb n vu xs u ta tn tc la ln lc q0 q1 q2 q3 q4 q5 q6 q7 q8 q9 q10 q11 a w){c:Array Value}{t:Nat}{J:Nat×Nat}(hk:W.heap[k]? =some (.cells c t J))(E:t≠137\/q8=false)(h2:t≠139):w.heap[k]? =some (.cells c t J):=by
 have I:=(jC hk)
 cases h6:q6 with
 |false=>rw[h.wA h6];exact hk
 |true=>
  cases Y:q7 with
  |false=>
   obtain⟨da,dc,z,_⟩:=h.wB h6 Y;exact(z.block k I).trans hk
  |true=>
   cases R:q8 with
   |false=>
    obtain⟨da,dc,w6,z,_,hw,_⟩:=h.wC Y R;rw[hw];exact(aT _ _ _ (aH I z.size)).trans ((z.block k I).trans hk)
   |true=>
    obtain⟨da,dc,w6,g,off,cap,w1,z,_,hr,hg,_,hw⟩:=h.wD R;have h3:w1.heap[k]? =some (.cells c t J):=hg.keep ((hB.row.below z).below ((aB _ w6).alloc jA _)) ((aT _ _ _ (aH I z.size)).trans ((z.block k I).trans hk)) h2;rw[hw];split
    ·refine(aP _ _ _ _ (λe=>?_)).trans h3;rcases E with E|E
     ·have e:k=kb:=e;rw[e,hB.hk]at hk;simp at hk;exact E hk.2.1.symm
     ·rw[R]at E;cases E
    ·exact h3
theorem XF{m:Nat}{Q:Exit->Act->World->Prop}(hB:UB W b2 b3 b4 kb n vu xs u ta tn tc la ln lc cs)(an:a.tmps.size=93)(aq:a.tmps[2]? =some (ptr b2))(ar:a.tmps[3]? =some (ptr b3))(av:a.tmps[4]? =some (ptr b4))
  (hQ:∀a' da dc w6 g off cap w1,a'.tmps.size=93->a'.tmps[2]? =some (ptr b2)->a'.tmps[3]? =some (ptr b3)->a'.tmps[4]? =some (ptr b4)->a'.defers=a.defers->Below W.heap.size W w6->Made w6 W.heap.size (.slice da (Dv.jL u).length dc) (Dv.jL u)->Row w1 139 3 (.slice (some ⟨g,off,none⟩) (n+1) cap) (n+1) (xs++[.int .i64 u.id,.int .i64 u.time,.slice da (Dv.jL u).length dc])->Grew vu g (w6.alloc (.cells #[.int .i64 u.id,.int .i64 u.time,.slice da (Dv.jL u).length dc] 139)) w1->Q .normal a' (w1.setCell ⟨kb,7,none⟩ (.slice (some ⟨g,off,none⟩) (n+1) cap))):
  wpAnyIn Fence.wide m PQ .any ops2 Q 12 (Array.replicate 12 false) a W:=by
 obtain⟨i0,hi,ao,au,ap⟩:=info_parts KZ;obtain⟨af,ag,ah⟩:=hB.row.slice;refine tY (λL a' w=>a'.defers=a.defers/\∃q0 q1 q2 q3 q4 q5 q6 q7 q8 q9 q10 q11,L=#[q0,q1,q2,q3,q4,q5,q6,q7,q8,q9,q10,q11]/\UR W b2 b3 b4 kb n vu xs u ta tn tc la ln lc q0 q1 q2 q3 q4 q5 q6 q7 q8 q9 q10 q11 a' w) ?_ ?_ 12 _ a W (by decide) ⟨rfl,false,false,false,false,false,false,false,false,false,false,false,false,rfl,?_⟩
 ·rintro L a' w ⟨aa,q0,q1,q2,q3,q4,q5,q6,q7,q8,q9,q10,q11,rfl,h⟩ hr;have ac:=aac q0 q1 q2 q3 q4 q5 q6 q7 q8 q9 q10 q11 hr;obtain⟨da,dc,w6,g,off,cap,w1,h1,h2,h3,h4,h5,h6⟩:=h.wD (h.c11 ac);rw[h6,if_pos ac];exact hQ _ _ _ _ _ _ _ _ h.sz h.t2 h.t3 h.t4 aa h1 h2 h3 h4
 ·rintro L a' w i ⟨aa,q0,q1,q2,q3,q4,q5,q6,q7,q8,q9,q10,q11,rfl,h⟩ hr;have hn:=of_decide_eq_true (eY.1 (abh q0 q1 q2 q3 q4 q5 q6 q7 q8 q9 q10 q11) i hr);have h2:=hB.low h hB.h2 (.inl (by decide)) (by decide);have h3:=hB.low h hB.h3 (.inl (by decide)) (by decide);obtain⟨ak,d2,d3,d4,d6,d7,d8,d9,ax,ab⟩:=hn
  match i,ak with
  |0,_=>
   obtain⟨o,ho,R,z,hg⟩:∃o,ops2[0]? =some o/\o.op=.load 93 (.tmp 2)/\o.dst=some 16/\o.guard=none:=⟨_,rfl,rfl,rfl,rfl⟩
   have hc:=nO h2;unfold ptr at hc
   refine kW (v:=.pointer (some ⟨kb,0,none⟩)) (w':=w) ho hg (by
    unfold execOp;simp only[R,jW h.t2,ptr];simp[go_sem,hc]) ?_
   rw[z];exact⟨aa,true,q1,q2,q3,q4,q5,q6,q7,q8,q9,q10,q11,rfl,⟨by rw[lW];exact h.sz,jB (by decide) h.t2,jB (by decide) h.t3,jB (by decide) h.t4,λ_=>tV (d:=16) (by rw[h.sz];decide),λe=>jB (by decide) (h.s1 e),λe=>jB (by decide) (h.s2 e),λe=>jB (by decide) (h.s3 e),λe=>jB (by decide) (h.s4 e),λe=>jB (by decide) (h.s5 e),λe=>jB (by decide) (h.s9 e),λe=>jB (by decide) (h.s10 e),h.wA,λe e2=>(by obtain⟨da,dc,E,J,I⟩:=h.wB e e2;exact⟨da,dc,E,J,jB (by decide) I⟩),λe e2=>(by obtain⟨da,dc,w6,E,J,I,Y⟩:=h.wC e e2;exact⟨da,dc,w6,E,J,I,jB (by decide) Y⟩),λe=>(by obtain⟨da,dc,w6,g,off,cap,w1,E,J,I,Y,r5,r6⟩:=h.wD e;exact⟨da,dc,w6,g,off,cap,w1,E,J,I,Y,jB (by decide) r5,r6⟩),h.c7,h.c8,h.c11⟩⟩
  |1,_=>
   obtain⟨o,ho,R,z,hg⟩:∃o,ops2[1]? =some o/\o.op=.load 93 (.tmp 2)/\o.dst=some 17/\o.guard=none:=⟨_,rfl,rfl,rfl,rfl⟩
   have hc:=nO h2;unfold ptr at hc
   refine kW (v:=.pointer (some ⟨kb,0,none⟩)) (w':=w) ho hg (by
    unfold execOp;simp only[R,jW h.t2,ptr];simp[go_sem,hc]) ?_
   rw[z];exact⟨aa,q0,true,q2,q3,q4,q5,q6,q7,q8,q9,q10,q11,rfl,⟨by rw[lW];exact h.sz,jB (by decide) h.t2,jB (by decide) h.t3,jB (by decide) h.t4,λe=>jB (by decide) (h.s0 e),λ_=>tV (d:=17) (by rw[h.sz];decide),λe=>jB (by decide) (h.s2 e),λe=>jB (by decide) (h.s3 e),λe=>jB (by decide) (h.s4 e),λe=>jB (by decide) (h.s5 e),λe=>jB (by decide) (h.s9 e),λe=>jB (by decide) (h.s10 e),h.wA,λe e2=>(by obtain⟨da,dc,E,J,I⟩:=h.wB e e2;exact⟨da,dc,E,J,jB (by decide) I⟩),λe e2=>(by obtain⟨da,dc,w6,E,J,I,Y⟩:=h.wC e e2;exact⟨da,dc,w6,E,J,I,jB (by decide) Y⟩),λe=>(by obtain⟨da,dc,w6,g,off,cap,w1,E,J,I,Y,r5,r6⟩:=h.wD e;exact⟨da,dc,w6,g,off,cap,w1,E,J,I,Y,jB (by decide) r5,r6⟩),h.c7,h.c8,h.c11⟩⟩
  |2,_=>
   obtain⟨o,ho,R,z,hg⟩:∃o,ops2[2]? =some o/\o.op=.nilCheck (.tmp 17)/\o.dst=some 18/\o.guard=none:=⟨_,rfl,rfl,rfl,rfl⟩
   refine kW (v:=.pointer (some ⟨kb,0,none⟩)) (w':=w) ho hg (by
    unfold execOp;simp only[R,jW (h.s1 (d2 rfl)),ptr];simp[go_sem]) ?_
   rw[z];exact⟨aa,q0,q1,true,q3,q4,q5,q6,q7,q8,q9,q10,q11,rfl,⟨by rw[lW];exact h.sz,jB (by decide) h.t2,jB (by decide) h.t3,jB (by decide) h.t4,λe=>jB (by decide) (h.s0 e),λe=>jB (by decide) (h.s1 e),λ_=>tV (d:=18) (by rw[h.sz];decide),λe=>jB (by decide) (h.s3 e),λe=>jB (by decide) (h.s4 e),λe=>jB (by decide) (h.s5 e),λe=>jB (by decide) (h.s9 e),λe=>jB (by decide) (h.s10 e),h.wA,λe e2=>(by obtain⟨da,dc,E,J,I⟩:=h.wB e e2;exact⟨da,dc,E,J,jB (by decide) I⟩),λe e2=>(by obtain⟨da,dc,w6,E,J,I,Y⟩:=h.wC e e2;exact⟨da,dc,w6,E,J,I,jB (by decide) Y⟩),λe=>(by obtain⟨da,dc,w6,g,off,cap,w1,E,J,I,Y,r5,r6⟩:=h.wD e;exact⟨da,dc,w6,g,off,cap,w1,E,J,I,Y,jB (by decide) r5,r6⟩),h.c7,h.c8,h.c11⟩⟩
  |3,_=>
   obtain⟨o,ho,R,z,hg⟩:∃o,ops2[3]? =some o/\o.op=.fieldAddr 137 (.tmp 18) 1/\o.dst=some 19/\o.guard=none:=⟨_,rfl,rfl,rfl,rfl⟩
   refine kW (v:=.pointer (some ⟨kb,7,none⟩)) (w':=w) ho hg (by
    unfold execOp;simp only[R,jW (h.s2 (d3 rfl)),ptr];simp[go_sem]) ?_
   rw[z];exact⟨aa,q0,q1,q2,true,q4,q5,q6,q7,q8,q9,q10,q11,rfl,⟨by rw[lW];exact h.sz,jB (by decide) h.t2,jB (by decide) h.t3,jB (by decide) h.t4,λe=>jB (by decide) (h.s0 e),λe=>jB (by decide) (h.s1 e),λe=>jB (by decide) (h.s2 e),λ_=>tV (d:=19) (by rw[h.sz];decide),λe=>jB (by decide) (h.s4 e),λe=>jB (by decide) (h.s5 e),λe=>jB (by decide) (h.s9 e),λe=>jB (by decide) (h.s10 e),h.wA,λe e2=>(by obtain⟨da,dc,E,J,I⟩:=h.wB e e2;exact⟨da,dc,E,J,jB (by decide) I⟩),λe e2=>(by obtain⟨da,dc,w6,E,J,I,Y⟩:=h.wC e e2;exact⟨da,dc,w6,E,J,I,jB (by decide) Y⟩),λe=>(by obtain⟨da,dc,w6,g,off,cap,w1,E,J,I,Y,r5,r6⟩:=h.wD e;exact⟨da,dc,w6,g,off,cap,w1,E,J,I,Y,jB (by decide) r5,r6⟩),h.c7,h.c8,h.c11⟩⟩
  |4,_=>
   obtain⟨o,ho,R,z,hg⟩:∃o,ops2[4]? =some o/\o.op=.load 134 (.tmp 19)/\o.dst=some 20/\o.guard=none:=⟨_,rfl,rfl,rfl,rfl⟩
   have h8:q8=false:=by
    cases h8:q8 with
    |false=>rfl
    |true=>have:=(h.c8 h8).1;rw[(d4 rfl).2]at this;cases this
   have ae:=hB.low h hB.hk (.inr h8) (by decide);have hc:w.cell? ⟨kb,7,none⟩=some (.slice af n ag):=by rw[aA ae,hB.hw,ah]
   refine kW (v:=.slice af n ag) (w':=w) ho hg (by
    unfold execOp;simp only[R,jW (h.s3 (d4 rfl).1)];simp[go_sem,hc]) ?_
   rw[z];exact⟨aa,q0,q1,q2,q3,true,q5,q6,q7,q8,q9,q10,q11,rfl,⟨by rw[lW];exact h.sz,jB (by decide) h.t2,jB (by decide) h.t3,jB (by decide) h.t4,λe=>jB (by decide) (h.s0 e),λe=>jB (by decide) (h.s1 e),λe=>jB (by decide) (h.s2 e),λe=>jB (by decide) (h.s3 e),λ_=>(by rw[ah];exact tV (d:=20) (by rw[h.sz];decide)),λe=>jB (by decide) (h.s5 e),λe=>jB (by decide) (h.s9 e),λe=>jB (by decide) (h.s10 e),h.wA,λe e2=>(by obtain⟨da,dc,E,J,I⟩:=h.wB e e2;exact⟨da,dc,E,J,jB (by decide) I⟩),λe e2=>(by obtain⟨da,dc,w6,E,J,I,Y⟩:=h.wC e e2;exact⟨da,dc,w6,E,J,I,jB (by decide) Y⟩),λe=>(by obtain⟨da,dc,w6,g,off,cap,w1,E,J,I,Y,r5,r6⟩:=h.wD e;exact⟨da,dc,w6,g,off,cap,w1,E,J,I,Y,jB (by decide) r5,r6⟩),h.c7,λe=>⟨rfl,(h.c8 e).2⟩,h.c11⟩⟩
  |5,_=>
   obtain⟨o,ho,R,z,hg⟩:∃o,ops2[5]? =some o/\o.op=.load 42 (.tmp 3)/\o.dst=some 21/\o.guard=none:=⟨_,rfl,rfl,rfl,rfl⟩
   obtain⟨c0,c1,c2,c3⟩:=cells4 h3
   refine kW (v:=.agg #[.int .i64 u.id,.int .i64 u.time,.slice ta tn tc,.slice la ln lc]) (w':=w) ho hg (by
    unfold execOp;simp only[R,jW h.t3,ptr];simp[go_sem,c0,c1,c2,c3]) ?_
   rw[z];exact⟨aa,q0,q1,q2,q3,q4,true,q6,q7,q8,q9,q10,q11,rfl,⟨by rw[lW];exact h.sz,jB (by decide) h.t2,jB (by decide) h.t3,jB (by decide) h.t4,λe=>jB (by decide) (h.s0 e),λe=>jB (by decide) (h.s1 e),λe=>jB (by decide) (h.s2 e),λe=>jB (by decide) (h.s3 e),λe=>jB (by decide) (h.s4 e),λ_=>tV (d:=21) (by rw[h.sz];decide),λe=>jB (by decide) (h.s9 e),λe=>jB (by decide) (h.s10 e),h.wA,λe e2=>(by obtain⟨da,dc,E,J,I⟩:=h.wB e e2;exact⟨da,dc,E,J,jB (by decide) I⟩),λe e2=>(by obtain⟨da,dc,w6,E,J,I,Y⟩:=h.wC e e2;exact⟨da,dc,w6,E,J,I,jB (by decide) Y⟩),λe=>(by obtain⟨da,dc,w6,g,off,cap,w1,E,J,I,Y,r5,r6⟩:=h.wD e;exact⟨da,dc,w6,g,off,cap,w1,E,J,I,Y,jB (by decide) r5,r6⟩),h.c7,h.c8,h.c11⟩⟩
  |6,_=>
   obtain⟨o,ho,R,z,hg⟩:∃o,ops2[6]? =some o/\o.op=.call { callee:=.value (.func 69),args:=#[.tmp 21],argTypes:=#[42] }/\o.dst=some 22/\o.guard=none:=⟨_,rfl,rfl,rfl,rfl⟩
   have h7:q7=false:=by
    cases h7:q7 with
    |false=>rfl
    |true=>have:=h.c7 h7;rw[(d6 rfl).2]at this;cases this
   have h8:q8=false:=by
    cases h8:q8 with
    |false=>rfl
    |true=>have:=(h.c8 h8).2;rw[h7]at this;cases this
   have hw:=h.wA (d6 rfl).2;subst hw;have aj:=h.s5 (d6 rfl).1;unfold Le at aj;have ai:=JL u (.slice ta tn tc) (.slice la ln lc) w hB.up hB.logs hB.heads;unfold Le at ai
   refine FQ (f:=69) (args:=#[.agg #[.int .i64 u.id,.int .i64 u.time,.slice ta tn tc,.slice la ln lc]]) ho hg (by
    unfold execOp;simp only[R];simp[resolve,invoke,aj,Act.eval,go_sem]) ai ?_
   rintro e w' ⟨da,dc,rfl,hm,hb⟩;refine⟨_,rfl,?_⟩;rw[z];exact⟨aa,q0,q1,q2,q3,q4,q5,true,q7,q8,q9,q10,q11,rfl,⟨by rw[lW];exact h.sz,jB (by decide) h.t2,jB (by decide) h.t3,jB (by decide) h.t4,λe=>jB (by decide) (h.s0 e),λe=>jB (by decide) (h.s1 e),λe=>jB (by decide) (h.s2 e),λe=>jB (by decide) (h.s3 e),λe=>jB (by decide) (h.s4 e),λe=>jB (by decide) (h.s5 e),λe=>jB (by decide) (h.s9 e),λe=>jB (by decide) (h.s10 e),λe=>(by cases e),λ_ _=>⟨da,dc,hb,hm,tV (d:=22) (by rw[h.sz];decide)⟩,λe=>(by rw[h7]at e;cases e),λe=>(by rw[h8]at e;cases e),λ_=>rfl,h.c8,h.c11⟩⟩
  |7,_=>
   obtain⟨o,ho,R,z,hg⟩:∃o,ops2[7]? =some o/\o.op=.buildSlice 134 1 #[(0,.tmp 22)]/\o.dst=some 23/\o.guard=none:=⟨_,rfl,rfl,rfl,rfl⟩
   obtain⟨da,dc,E,J,I⟩:=h.wB (d7 rfl).1 (d7 rfl).2
   have h8:q8=false:=by
    cases h8:q8 with
    |false=>rfl
    |true=>have:=(h.c8 h8).2;rw[(d7 rfl).2]at this;cases this
   refine kW (v:=.slice (some ⟨w.heap.size,0,none⟩) 1 1) (w':=w.alloc (.cells #[.int .i64 u.id,.int .i64 u.time,.slice da (Dv.jL u).length dc] 139)) ho hg (by
    unfold execOp;simp only[R];simp[go_sem,I]) ?_
   rw[z];exact⟨aa,q0,q1,q2,q3,q4,q5,q6,true,q8,q9,q10,q11,rfl,⟨by rw[lW];exact h.sz,jB (by decide) h.t2,jB (by decide) h.t3,jB (by decide) h.t4,λe=>jB (by decide) (h.s0 e),λe=>jB (by decide) (h.s1 e),λe=>jB (by decide) (h.s2 e),λe=>jB (by decide) (h.s3 e),λe=>jB (by decide) (h.s4 e),λe=>jB (by decide) (h.s5 e),λe=>jB (by decide) (h.s9 e),λe=>jB (by decide) (h.s10 e),λe=>(by rw[(d7 rfl).1]at e;cases e),λ_ e=>(by cases e),λ_ _=>⟨da,dc,w,E,J,rfl,tV (d:=23) (by rw[h.sz];decide)⟩,λe=>(by rw[h8]at e;cases e),λ_=>(d7 rfl).1,λe=>⟨(h.c8 e).1,rfl⟩,h.c11⟩⟩
  |8,_=>
   obtain⟨o,ho,R,z,hg⟩:∃o,ops2[8]? =some o/\o.op=.call { callee:=.builtin .append,args:=#[.tmp 20,.tmp 23],argTypes:=#[134,134] }/\o.dst=some 24/\o.guard=none:=⟨_,rfl,rfl,rfl,rfl⟩
   obtain⟨da,dc,w6,E,J,I,Y⟩:=h.wC (d8 rfl).2.1 (d8 rfl).2.2
   have ac:q11=false:=by
    cases ac:q11 with
    |false=>rfl
    |true=>have:=h.c11 ac;rw[(d8 rfl).2.2]at this;cases this
   subst I;obtain⟨v',w1,hr,r5,⟨g,off,cap,rfl⟩,r6⟩:=((hB.row.below E).below ((aB _ w6).alloc jA (.cells #[.int .i64 u.id,.int .i64 u.time,.slice da (Dv.jL u).length dc] 139))).append (P:=PQ) 134 o.type i0 _ 40 (uq Tryz.underlying134) hi ao au ap (by rfl) (by decide) ⟨w6.heap.size,0,none⟩ 1 1 [.int .i64 u.id,.int .i64 u.time,.slice da (Dv.jL u).length dc] (by decide) (by rfl) (by intro j u hj;match j,hj with|0,hj=>(simp at hj;subst hj;simp[Addr.add])|1,hj=>(simp at hj;subst hj;simp[Addr.add])|2,hj=>(simp at hj;subst hj;simp[Addr.add])) (by intro u hu;simp at hu;rcases hu with rfl|rfl|rfl<;>rfl) (by have:=hB.len;unfold maxLen;omega) (by have:=hB.len;omega)
   have aw:Grew vu g (w6.alloc (.cells #[.int .i64 u.id,.int .i64 u.time,.slice da (Dv.jL u).length dc] 139)) w1:=by
    rcases r6 with⟨e1,e2,e3⟩|⟨e1,e2,e3⟩
    ·have am:vu.ownBlock=some g:=e1.symm;exact .inl ⟨am,by rw[<-am];exact e2,e3⟩
    ·exact .inr ⟨by simpa[Value.ownBlock]using e1,e2,e3⟩
   refine kW (v:=.slice (some ⟨g,off,none⟩) (n+1) cap) (w':=w1) ho hg (by
    unfold execOp;simp only[R];simp[resolve,invoke,builtin,jW (h.s4 (d8 rfl).1),jW Y,hr,Result.andThen]) ?_
   rw[z];exact⟨aa,q0,q1,q2,q3,q4,q5,q6,q7,true,q9,q10,q11,rfl,⟨by rw[lW];exact h.sz,jB (by decide) h.t2,jB (by decide) h.t3,jB (by decide) h.t4,λe=>jB (by decide) (h.s0 e),λe=>jB (by decide) (h.s1 e),λe=>jB (by decide) (h.s2 e),λe=>jB (by decide) (h.s3 e),λe=>jB (by decide) (h.s4 e),λe=>jB (by decide) (h.s5 e),λe=>jB (by decide) (h.s9 e),λe=>jB (by decide) (h.s10 e),λe=>(by rw[h.c7 (d8 rfl).2.1]at e;cases e),λ_ e=>(by rw[(d8 rfl).2.1]at e;cases e),λ_ e=>(by cases e),λ_=>⟨da,dc,w6,g,off,cap,w1,E,J,r5,aw,tV (d:=24) (by rw[h.sz];decide),by rw[if_neg (by rw[ac];simp)]⟩,h.c7,λ_=>⟨(d8 rfl).1,(d8 rfl).2.1⟩,λ_=>rfl⟩⟩
  |9,_=>
   obtain⟨o,ho,R,z,hg⟩:∃o,ops2[9]? =some o/\o.op=.nilCheck (.tmp 16)/\o.dst=some 25/\o.guard=none:=⟨_,rfl,rfl,rfl,rfl⟩
   refine kW (v:=.pointer (some ⟨kb,0,none⟩)) (w':=w) ho hg (by
    unfold execOp;simp only[R,jW (h.s0 (d9 rfl)),ptr];simp[go_sem]) ?_
   rw[z];exact⟨aa,q0,q1,q2,q3,q4,q5,q6,q7,q8,true,q10,q11,rfl,⟨by rw[lW];exact h.sz,jB (by decide) h.t2,jB (by decide) h.t3,jB (by decide) h.t4,λe=>jB (by decide) (h.s0 e),λe=>jB (by decide) (h.s1 e),λe=>jB (by decide) (h.s2 e),λe=>jB (by decide) (h.s3 e),λe=>jB (by decide) (h.s4 e),λe=>jB (by decide) (h.s5 e),λ_=>tV (d:=25) (by rw[h.sz];decide),λe=>jB (by decide) (h.s10 e),h.wA,λe e2=>(by obtain⟨da,dc,E,J,I⟩:=h.wB e e2;exact⟨da,dc,E,J,jB (by decide) I⟩),λe e2=>(by obtain⟨da,dc,w6,E,J,I,Y⟩:=h.wC e e2;exact⟨da,dc,w6,E,J,I,jB (by decide) Y⟩),λe=>(by obtain⟨da,dc,w6,g,off,cap,w1,E,J,I,Y,r5,r6⟩:=h.wD e;exact⟨da,dc,w6,g,off,cap,w1,E,J,I,Y,jB (by decide) r5,r6⟩),h.c7,h.c8,h.c11⟩⟩
  |10,_=>
   obtain⟨o,ho,R,z,hg⟩:∃o,ops2[10]? =some o/\o.op=.fieldAddr 137 (.tmp 25) 1/\o.dst=some 26/\o.guard=none:=⟨_,rfl,rfl,rfl,rfl⟩
   refine kW (v:=.pointer (some ⟨kb,7,none⟩)) (w':=w) ho hg (by
    unfold execOp;simp only[R,jW (h.s9 (ax rfl)),ptr];simp[go_sem]) ?_
   rw[z];exact⟨aa,q0,q1,q2,q3,q4,q5,q6,q7,q8,q9,true,q11,rfl,⟨by rw[lW];exact h.sz,jB (by decide) h.t2,jB (by decide) h.t3,jB (by decide) h.t4,λe=>jB (by decide) (h.s0 e),λe=>jB (by decide) (h.s1 e),λe=>jB (by decide) (h.s2 e),λe=>jB (by decide) (h.s3 e),λe=>jB (by decide) (h.s4 e),λe=>jB (by decide) (h.s5 e),λe=>jB (by decide) (h.s9 e),λ_=>tV (d:=26) (by rw[h.sz];decide),h.wA,λe e2=>(by obtain⟨da,dc,E,J,I⟩:=h.wB e e2;exact⟨da,dc,E,J,jB (by decide) I⟩),λe e2=>(by obtain⟨da,dc,w6,E,J,I,Y⟩:=h.wC e e2;exact⟨da,dc,w6,E,J,I,jB (by decide) Y⟩),λe=>(by obtain⟨da,dc,w6,g,off,cap,w1,E,J,I,Y,r5,r6⟩:=h.wD e;exact⟨da,dc,w6,g,off,cap,w1,E,J,I,Y,jB (by decide) r5,r6⟩),h.c7,h.c8,h.c11⟩⟩
  |11,_=>
   obtain⟨o,ho,R,z,hg⟩:∃o,ops2[11]? =some o/\o.op=.store 134 (.tmp 26) (.tmp 24)/\o.dst=none/\o.guard=none:=⟨_,rfl,rfl,rfl,rfl⟩
   obtain⟨da,dc,w6,g,off,cap,w1,E,J,I,Y,r5,r6⟩:=h.wD (ab rfl).2.1;rw[if_neg (by rw[(ab rfl).2.2];simp)]at r6;subst r6;have ae:w.heap[kb]? =some (.cells cs 137 (0,0)):=Y.keep ((hB.row.below E).below ((aB _ w6).alloc jA _)) ((aT _ _ _ (aH (jC hB.hk) E.size)).trans ((E.block _ (jC hB.hk)).trans hB.hk)) (by decide);have hc:w.cell? ⟨kb,7,none⟩=some (.slice af n ag):=by rw[aA ae,hB.hw,ah]
   have hz:=aI ae 7
   refine F5 (w':=w.setCell ⟨kb,7,none⟩ (.slice (some ⟨g,off,none⟩) (n+1) cap)) ho hg (by
    unfold execOp;simp only[R,jW (h.s10 (ab rfl).1),jW r5];simp[go_sem,stored,hc,hz]) ?_
   rw[z];have h7:=(h.c8 (ab rfl).2.1).2;exact⟨aa,q0,q1,q2,q3,q4,q5,q6,q7,q8,q9,q10,true,rfl,⟨h.sz,h.t2,h.t3,h.t4,h.s0,h.s1,h.s2,h.s3,h.s4,h.s5,h.s9,h.s10,λe=>(by rw[h.c7 h7]at e;cases e),λ_ e=>(by rw[h7]at e;cases e),λ_ e=>(by rw[(ab rfl).2.1]at e;cases e),λ_=>⟨da,dc,w6,g,off,cap,w,E,J,I,Y,r5,by rw[if_pos rfl]⟩,h.c7,h.c8,λ_=>(ab rfl).2.1⟩⟩
 ·exact⟨an,aq,ar,av,λe=>(by cases e),λe=>(by cases e),λe=>(by cases e),λe=>(by cases e),λe=>(by cases e),λe=>(by cases e),λe=>(by cases e),λe=>(by cases e),λ_=>rfl,λe=>(by cases e),λe=>(by cases e),λe=>(by cases e),λe=>(by cases e),λe=>(by cases e),λe=>(by cases e)⟩
end
end
end Hm
end Go.Proofs.YtpibpdpedjinhaaGreatDoor
