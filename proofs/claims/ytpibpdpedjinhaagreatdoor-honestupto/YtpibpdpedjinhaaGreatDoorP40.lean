import Derived.Test.YtpibpdpedjinhaaGreatDoorP39
set_option maxRecDepth 100000
set_option maxHeartbeats 2000000
set_option linter.all false
open Go renaming Frame->cU,Value->aD,World->U,heap_alloc_new->cX,undef->aE
open Go.Obj renaming cells->aG,deferred->eM
open Go.RowKit.Below renaming heap_alloc->gA
open Go.Value renaming int->N,pointer->aM,slice->aR
open Option renaming none->Z,some->M
open Or renaming inl->cJ,inr->cK
open Prod renaming fst->cG,snd->lr
open UInt8 renaming ofNat->cQ
namespace Go.Proofs.YtpibpdpedjinhaaGreatDoor
namespace Pa
open Go Go.Conc Go.RowKit Go.Joins
open Hm (ptr kC jL jT TS kF pR AL PC PB PW lives yw xQ yc takeB CW ops2 Fits)
open Dv (X2 Cf Ch)
open Po hiding X2 H B IT PR NB
section
variable {ta la:Option Addr}{tn tc ln lc:Nat}
section
variable {Post:Ir}{D:Nat->Prop}{w w':U}{b:cU}{a:Act}{k:List Item}{XX A:List cU}
variable {kb nb:Nat}{c:Cf}{vu:aD}{us:List PB}{dl:Nat->List (List UInt8)}{vo vw:aD}{ws:List PW}{nm:AL}{os:List PC}{cnt ep sq:Nat}{u:X2}{vt vl:aD}{b2 b3 b4 n:Nat}
theorem TY{rest:Code}(hS:TS w kb nb c vu us dl vo vw ws nm os cnt ep sq)(ha:a={ tmps:=#[aM (M ⟨kb,0,Z⟩),.agg #[N .i64 u.id,N .i64 u.time,.slice ta tn tc,.slice la ln lc],aE,aE,aE,aE,aE,aE,aE,aE,aE,aE,aE,aE,aE,aE,aE,aE,aE,aE,aE,aE,aE,aE,aE,aE,aE,aE,aE,aE,aE,aE,aE,aE,aE,aE,aE,aE,aE,aE,aE,aE,aE,aE,aE,aE,aE,aE,aE,aE,aE,aE,aE,aE,aE,aE,aE,aE,aE,aE,aE,aE,aE,aE,aE,aE,aE,aE,aE,aE,aE,aE,aE,aE,aE,aE,aE,aE,aE,aE,aE,aE,aE,aE,aE,aE,aE,aE,aE,aE,aE,aE,aE],defers:=[] })(J:∀a' w',SA a' w.heap.size (w.heap.size+1) (w.heap.size+2)->kF (λ_=>False) w w'->TB w' w.heap.size (w.heap.size+1) (w.heap.size+2) kb us.length u (.slice ta tn tc) (.slice la ln lc)->Wq D Post XX (b.at a' [.code rest]) A w'):Wq D Post XX (b.at a [.code (.seq yw (.seq xQ rest))]) A w:=by
 refine Wq.seq ?_;obtain⟨w1,E⟩:∃w1,w1=(w.alloc (aG #[aM (M ⟨kb,0,Z⟩)] 93)).alloc (aG #[N .i64 u.id,N .i64 u.time,.slice ta tn tc,.slice la ln lc] 42):=⟨_,rfl⟩
 have s1:w1.heap.size=w.heap.size+2:=by rw[E];simp
 have b1:Go.RowKit.Below w.heap.size w w1:=by rw[E];exact((Go.RowKit.Below.refl _ w).alloc jE _).alloc aC _
 have k2:w1.heap[w.heap.size]? =M (aG #[ptr kb] 93 (0,0)):=by rw[E,gA _ _ _ aC];exact cX _ _
 have k3:w1.heap[w.heap.size+1]? =M (aG #[N .i64 u.id,N .i64 u.time,.slice ta tn tc,.slice la ln lc] 42 (0,0)):=by
  have:=cX (w.alloc (aG #[aM (M ⟨kb,0,Z⟩)] 93)) (aG #[N .i64 u.id,N .i64 u.time,.slice ta tn tc,.slice la ln lc] 42);rw[E];simpa using this
 refine Wq.piece (Q:=λa' W=>a'={ tmps:=#[aM (M ⟨kb,0,Z⟩),.agg #[N .i64 u.id,N .i64 u.time,.slice ta tn tc,.slice la ln lc],aM (M ⟨w.heap.size,0,Z⟩),aM (M ⟨w.heap.size+1,0,Z⟩),aE,aE,aE,aE,aE,aE,aE,aE,aE,aE,aE,aE,aE,aE,aE,aE,aE,aE,aE,aE,aE,aE,aE,aE,aE,aE,aE,aE,aE,aE,aE,aE,aE,aE,aE,aE,aE,aE,aE,aE,aE,aE,aE,aE,aE,aE,aE,aE,aE,aE,aE,aE,aE,aE,aE,aE,aE,aE,aE,aE,aE,aE,aE,aE,aE,aE,aE,aE,aE,aE,aE,aE,aE,aE,aE,aE,aE,aE,aE,aE,aE,aE,aE,aE,aE,aE,aE,aE,aE],defers:=[] }/\W.heap=w1.heap) (λt d=>?_) ?_
 .rw[ha];refine Hm.U5 _ _ _ _ _ _ _ _ _ _ _ _ _ _ _ _ _ _ _ _ _ _ _ _ _ _ _ _ _ _ _ _ _ _ _ _ _ _ _ _ _ _ _ _ _ _ _ _ _ _ _ _ _ _ _ _ _ _ _ _ _ _ _ _ _ _ _ _ _ _ _ _ _ _ _ _ _ _ _ _ _ _ _ _ _ _ _ _ _ _ _ kb _ _ ta tn tc la ln lc _ ⟨rfl,rfl,?_⟩;rw[E];rfl
 rintro a1 q ⟨rfl,I⟩;have I:=I;refine Wq.seq ?_;have aa:=(hS.below b1).heap I;obtain⟨va,vc,ac⟩:=aa.d.upper.slice;have o7:(jT c vu nb vo vw cnt ep sq)[7]? =M (.slice va us.length vc):=by rw[<-ac];rfl
 refine Wq.piece (Q:=λa' W=>SA a' w.heap.size (w.heap.size+1) (w.heap.size+2)/\W.heap=(q.alloc (aG #[N .i64 us.length] 3)).heap) (λt d=>?_) ?_
 .refine Hm.Vy _ _ _ _ _ _ _ _ _ _ _ _ _ _ _ _ _ _ _ _ _ _ _ _ _ _ _ _ _ _ _ _ _ _ _ _ _ _ _ _ _ _ _ _ _ _ _ _ _ _ _ _ _ _ _ _ _ _ _ _ _ _ _ _ _ _ _ _ _ _ _ _ _ _ _ _ _ _ _ _ _ _ _ _ _ _ _ _ _ _ _ _ _ kb va _ vc _ (by rw[aI (show(on q t d).heap[w.heap.size]? =_ from by rw[show(on q t d).heap=w1.heap from I];exact k2)];rfl) (by rw[aI (show(on q t d).heap[kb]? =_ from aa.d.obj)];exact o7) ⟨rfl,⟨rfl,rfl,rfl,rfl,?_⟩,rfl⟩
  show M (Value.pointer (M ⟨q.heap.size,0,Z⟩))=_
  rw[I,s1];rfl
 rintro a2 w2 ⟨ab,Y⟩;have Y:=Y
 have hold:∀j,j<w.heap.size+2->w2.heap[j]? =w1.heap[j]?:=λj hj=>by
  rw[Y,gA _ _ _ (by rw[I,s1];exact hj),I]
 refine J a2 w2 ab ⟨by grind,λj hj _=>(hold j aA).trans (b1.block j hj)⟩ ⟨(hold _ aA).trans k2,(hold _ aA).trans k3,?_⟩;have:=cX q (aG #[N .i64 us.length] 3)
 grind
def dlx(dl:Nat->List (List UInt8))(n:Nat)(u:X2):Nat->List (List UInt8):=λj=>if j=n then Dv.jS u else dl j
theorem abt{rest:Code}(hS:TS w kb nb c vu us dl vo vw ws nm os cnt ep sq)(J:SA a b2 b3 b4)(hB:TB w b2 b3 b4 kb us.length u (.slice ta tn tc) (.slice la ln lc))(ab:pR w u (.slice ta tn tc) (.slice la ln lc))(ac:∀x,x∈u.logs->x.length<=16777216)(hn:us.length<4294967296)(ae:∀a' w' E v3,SA a' b2 b3 b4->TS w' kb nb c E (us++[(u.id,u.time,v3)]) (dlx dl us.length u) vo vw ws nm os cnt ep sq->kF (λj=>j=kb\/vu.ownBlock=M j) w w'->(∀g,E.ownBlock=M g->vu.ownBlock=M g\/w.heap.size<=g)->Wq D Post XX (b.at a' [.code rest]) A w'):Wq D Post XX (b.at a [.code (.seq Qi rest)]) A w:=by
 refine Wq.seq ?_;obtain⟨af,Y⟩:=Uh;refine Wq.piece (Q:=λa' W=>SA a' b2 b3 b4/\∃E v3,TS W kb nb c E (us++[(u.id,u.time,v3)]) (dlx dl us.length u) vo vw ws nm os cnt ep sq/\kF (λj=>j=kb\/vu.ownBlock=M j) w W/\∀g,E.ownBlock=M g->vu.ownBlock=M g\/w.heap.size<=g) (λt d=>?_) ?_
 .rw[Y];refine(wpIn_wide (n:=1)).1 (wpIn_region_any XN ?_);have I:TS (on w t d).drew kb nb c vu us dl vo vw ws nm os cnt ep sq:=hS.heap rfl;refine Hm.abG (W:=(on w t d).drew) (cs:=jT c vu nb vo vw cnt ep sq) ⟨hB.h2,hB.h3,hS.d.obj,rfl,I.d.upper,hn,ab.heap rfl,ac,I.hd⟩ J.sz J.t2 J.t3 J.t4 ?_;intro a' da dc w6 g off cap w1 e1 e2 e3 e4 e5 hb hm hr hg;obtain⟨q1,q2⟩:=I.more hb hm hr hg;refine⟨rfl,⟨e1,e5.trans J.df,e2,e3,e4⟩,_,_,q1,q2.h.heaps rfl rfl,λg' aa=>?_⟩;have e:g=g':=by simpa[Value.ownBlock]using aa
  subst e;obtain q|q:=hg.own
  .exact cJ q
  .refine cK (bH (show w.heap.size<=w6.heap.size from hb.size) (bH ?_ q));simp
 grind
end
end
section
section
variable {Post:Ir}{D:Nat->Prop}{w w':U}{b:cU}{a:Act}{k:List Item}{XX A:List cU}
variable {kb nb:Nat}{c:Cf}{vu:aD}{us:List PB}{dl:Nat->List (List UInt8)}{vo vw:aD}{ws:List PW}{nm:AL}{os:List PC}{cnt ep sq:Nat}{u:X2}{vt vl:aD}{b2 b3 b4 n:Nat}
theorem Xb{rest:Code}{c0:Nat}(hS:TS w kb nb c vu us dl vo vw ws nm os cnt ep sq)(hA:SA a b2 b3 b4)(hB:TB w b2 b3 b4 kb c0 u vt vl)(hn:c0<=4294967296)(ab:os.length<=4294967296)(ac:0<=c.timeout/\c.timeout<=4294967296)(Y:∀a' w' I E q,SA a' b2 b3 b4->TS w' kb nb c vu us dl I vw ws E q cnt ep sq->kF (λj=>j=kb\/Hm.Own nb vo os j) w w'->(∀j,Hm.Own nb I q j->Hm.Own nb vo os j\/w.heap.size<=j)->q.length<=os.length->lives E q=(lives nm os).filter (λx=>!decide ((x.opened:Int)<c0-c.timeout))->Wq D Post XX (b.at a' [.code rest]) A w'):Wq D Post XX (b.at a [.code (.seq yc rest)]) A w:=by
 refine Wq.seq ?_;refine Wq.piece (Q:=λa' W=>SA a' b2 b3 b4/\∃I E q,TS W kb nb c vu us dl I vw ws E q cnt ep sq/\kF (λj=>j=kb\/Hm.Own nb vo os j) w W/\(∀j,Hm.Own nb I q j->Hm.Own nb vo os j\/w.heap.size<=j)/\q.length<=os.length/\lives E q=(lives nm os).filter (λx=>!decide (x.opened<c0-c.timeout))) (λt d=>?_) ?_
 .have J:TS (on w t d) kb nb c vu us dl vo vw ws nm os cnt ep sq:=hS.heap rfl;obtain⟨tm,df⟩:=a;obtain⟨sz,aa,t2,t3,t4⟩:=hA;dsimp only at sz aa t2 t3 t4;subst aa;obtain⟨u0,u1,u2,u3,u4,u5,u6,u7,u8,u9,ba,c1,a8,b0,cx,b9,ar,cl,au,a2,bb,c6,az,ax,b8,ak,cy,cz,db,am,c9,b5,dq,bv,bg,co,c3,bw,cd,bz,ct,cg,bl,cv,cj,cr,cb,ao,a4,a9,bs,bj,ag,bu,dt,b1,bx,dg,bh,dr,br,c2,cu,dk,dv,ce,b6,c5,bd,aq,dh,a6,av,bm,ca,ai,b7,bq,an,ay,cm,a5,af,dm,a3,du,bk,a7,bo,ck,ci,c4,aj,rfl⟩:=Hm.WU sz;simp only[eX,eU,dX,aK]at t2 t3 t4;subst t2 t3 t4;refine Hm.JK _ _ _ _ _ _ _ _ _ _ _ _ _ _ _ _ _ _ _ _ _ _ _ _ _ _ _ _ _ _ _ _ _ _ _ _ _ _ _ _ _ _ _ _ _ _ _ _ _ _ _ _ _ _ _ _ _ _ _ _ _ _ _ _ _ _ _ _ _ _ _ _ _ _ _ _ _ _ _ _ _ _ _ _ _ _ _ _ _ _ _ b2 b4 kb nb c0 _ _ vo nm os _ hB.h2 hB.h4 J.d.obj rfl rfl rfl J.ch ab hn ac ?_;intro cw ap aw dd cc di de ah cp a1 dj W' I E q ht h1 h2;exact⟨rfl,⟨rfl,rfl,rfl,rfl,rfl⟩,I,E,q,J.took ht,ht.jR.h.heaps rfl rfl,ht.own,h1,h2⟩
 rintro a' w' ⟨ae,I,E,q,q1,q2,q3,q4,q5⟩;exact Y a' w' I E q ae (q1.heap rfl) (q2.heaps rfl rfl) q3 q4 q5
theorem aby{d0:Code}{c0 C m:Nat}{vs:Array aD}{fs:Nat->List Fr.F}(hS:TS w kb nb c vu us dl vo vw ws nm os cnt ep sq)(hA:SA a b2 b3 b4)(hB:TB w b2 b3 b4 kb c0 u vt vl)(ae:a.tmps[44]? =M (aR (M ⟨C,0,Z⟩) m m))(J:a.tmps[45]? =M (N .i64 m))(ac:a.tmps[46]? =M (N .i64 0))(hC:w.heap[C]? =M (aG vs 76 (0,0)))(ah:vs.size=m)(ab:∀i,i<m->∃v,vs[i]? =M v/\Hm.AX w v (fs i))(aj:∀i f,i<m->f∈fs i->f.num<65536/\f.data.length<=65536)(hm:m<=16777216)(ai:∀i,(fs i).length<=16777216)(af:os.length+(Hm.lJ fs m).length<=4294967295)(ak:0<=c.most/\c.most<=4294967296)(aa:∀a' w' I E q,SA a' b2 b3 b4->TS w' kb nb c vu us dl I vw ws E q cnt ep sq->kF (λj=>j=kb\/Hm.Own nb vo os j) w w'->(∀j,Hm.Own nb I q j->Hm.Own nb vo os j\/w.heap.size<=j)->q.length<=os.length+(Hm.lJ fs m).length->lives E q=(Hm.lJ fs m).foldl (Dv.frame c.most c0) (lives nm os)->Wq D Post XX (b.at a' [.code d0]) A w'):Wq D Post XX (b.at a [.code takeB,.code d0]) A w:=by
 refine Wq.piece (Q:=λa' W=>SA a' b2 b3 b4/\∃I E q,TS W kb nb c vu us dl I vw ws E q cnt ep sq/\kF (λj=>j=kb\/Hm.Own nb vo os j) w W/\(∀j,Hm.Own nb I q j->Hm.Own nb vo os j\/w.heap.size<=j)/\q.length<=os.length+(Hm.lJ fs m).length/\lives E q=(Hm.lJ fs m).foldl (Dv.frame c.most c0) (lives nm os)) (λt d=>?_) ?_
 .have Y:TS (on w t d) kb nb c vu us dl vo vw ws nm os cnt ep sq:=hS.heap rfl;obtain⟨tm,df⟩:=a;obtain⟨sz,ag,t2,t3,t4⟩:=hA;dsimp only at sz ag t2 t3 t4 ae J ac;subst ag;obtain⟨u0,u1,u2,u3,u4,u5,u6,u7,u8,u9,bm,dk,bk,cd,dh,cl,a3,c2,a4,ba,bo,dv,a9,a7,ck,aw,di,dj,dx,ax,dw,cg,ec,b8,br,c4,dr,b9,cu,cb,db,cv,bx,dg,cy,c6,cr,a1,bd,bl,b6,bv,ar,b7,eg,ce,ca,d3,bu,ee,b5,dm,dd,ea,ei,cw,ci,du,bq,a2,d9,bh,a5,bz,cm,au,cj,b1,ay,a8,c3,bg,aq,eb,bb,eh,bw,bj,b0,c1,cx,dt,av,rfl⟩:=Hm.WU sz;simp only[eX,eU,dX,aK]at t2 t3 t4 ae J ac;subst t2 t3 t4 ae J ac;refine Hm.Jo _ _ _ _ _ _ _ _ _ _ _ _ _ _ _ _ _ _ _ _ _ _ _ _ _ _ _ _ _ _ _ _ _ _ _ _ _ _ _ _ _ _ _ _ _ _ _ _ _ _ _ _ _ _ _ _ _ _ _ _ _ _ _ _ _ _ _ _ _ _ _ _ _ _ _ _ _ _ _ _ _ _ _ _ _ _ _ _ b2 b4 kb nb c0 C m _ _ vs vo nm os fs _ hB.h2 hB.h4 Y.d.obj rfl rfl rfl Y.ch hC ah ab aj hm ai af ak ?_;intro x6 x8 dq az ef ed a6 co bs c5 c9 d1 cp cz an ct de dz cc ao ap d2 dy d8 d7 W' I E q ht;exact⟨rfl,⟨rfl,rfl,rfl,rfl,rfl⟩,I,E,q,Y.bi ht,ht.jR.h.heaps rfl rfl,ht.own,ht.len,ht.lives⟩
 rintro a' w' ⟨am,I,E,q,q1,q2,q3,q4,q5⟩;exact aa a' w' I E q am (q1.heap rfl) (q2.heaps rfl rfl) q3 q4 q5
end
end
section
section
variable {Post:Ir}{D:Nat->Prop}{w w':U}{b:cU}{a:Act}{k:List Item}{XX A:List cU}
variable {kb nb:Nat}{c:Cf}{vu:aD}{us:List PB}{dl:Nat->List (List UInt8)}{vo vw:aD}{ws:List PW}{nm:AL}{os:List PC}{cnt ep sq:Nat}{u:X2}{vt vl:aD}{b2 b3 b4 n:Nat}
theorem Vl{c0:Nat}(hS:TS w kb nb c vu us dl vo vw ws nm os cnt ep sq)(hA:SA a b2 b3 b4)(hB:TB w b2 b3 b4 kb c0 u vt vl)(ag:os.length<=4294967296)(ae:∀s,s∈(Dv.pull (lives nm os)).1->s.length<=4096)(ab:ws.length+4096*(Dv.pull (lives nm os)).1.length<4294967296)(ai:∀a' w' (dd:Nat) J aa E I q,a'.defers=[{ target:=.collected dd,args:=#[] }]->w'.heap[dd]? =M (eM (M []))->w.heap.size<=dd->TS w' kb nb c vu us dl J aa (ws++E) I q cnt ep sq->kF (λj=>j=kb\/j=nb\/vw.ownBlock=M j) w w'->(∀j,Hm.Own nb J q j->Hm.Own nb vo os j)->(∀g,aa.ownBlock=M g->vw.ownBlock=M g\/w.heap.size<=g)->q.length<=4294967296->lives I q=(Dv.pull (lives nm os)).2->E.map cG=(Dv.pull (lives nm os)).1.flatMap (λs=>Dv.reads s c0)->Hm.kH w.heap.size w'.heap.size (E.map lr)->Wq D Post XX (b.at a' []) A w'):Wq D Post XX (b.at a [.code CW]) A w:=by
 refine Wq.piece (Q:=λa' W=>∃(dd:Nat),∃J aa E I q,a'.defers=[{ target:=.collected dd,args:=#[] }]/\W.heap[dd]? =M (eM (M []))/\w.heap.size<=dd/\TS W kb nb c vu us dl J aa (ws++E) I q cnt ep sq/\kF (λj=>j=kb\/j=nb\/vw.ownBlock=M j) w W/\(∀j,Hm.Own nb J q j->Hm.Own nb vo os j)/\(∀g,aa.ownBlock=M g->vw.ownBlock=M g\/w.heap.size<=g)/\q.length<=4294967296/\lives I q=(Dv.pull (lives nm os)).2/\E.map cG=(Dv.pull (lives nm os)).1.flatMap (λs=>Dv.reads s c0)/\Hm.kH w.heap.size W.heap.size (E.map lr)) (λt d=>?_) ?_
 .have Y:TS (on w t d) kb nb c vu us dl vo vw ws nm os cnt ep sq:=hS.heap rfl;obtain⟨tm,df⟩:=a;obtain⟨sz,ac,t2,t3,t4⟩:=hA;dsimp only at sz ac t2 t3 t4;subst ac;obtain⟨u0,u1,u2,u3,u4,u5,u6,u7,u8,u9,ba,cx,a8,b0,cu,b9,av,ck,aw,a2,bb,c3,a1,ay,b8,ao,cv,cw,c5,ap,c4,b5,dg,bv,bg,cm,cz,bw,cc,bz,cp,ce,bl,ct,ci,co,cb,ar,a4,a9,bs,bj,ak,bu,di,b1,bx,c6,bh,dh,br,cy,cr,db,dk,cd,b6,c2,bd,au,c9,a6,ax,bm,ca,am,b7,bq,aq,az,cl,a5,aj,de,a3,dj,bk,a7,bo,cj,cg,c1,an,rfl⟩:=Hm.WU sz;simp only[eX,eU,dX,aK]at t2 t3 t4;subst t2 t3 t4;obtain⟨ah,tt,fz,q1,q2,q3,_⟩:=Y.ht;refine Hm.QM _ _ _ _ _ _ _ _ _ _ _ _ _ _ _ _ _ _ _ _ _ _ _ _ _ _ _ _ _ _ _ _ _ _ _ _ _ _ _ _ _ _ _ _ _ _ _ _ _ _ _ _ _ _ _ _ _ _ _ _ _ _ _ _ _ _ _ _ _ _ _ _ _ _ _ _ _ _ _ _ _ _ _ _ _ _ _ _ _ _ _ b2 b4 kb nb c0 _ vo vw nm os ws _ hB.h2 hB.h4 Y.d.obj rfl rfl rfl Y.ch ag Y.d.wait Y.d.txs Y.hd ⟨ah,tt,fz,q1,q2,q3⟩ ae ab ?_;intro D W' v9 af E cs' J I q hT hP h1 h2 h3 h4;exact⟨rfl,D,J,af,E,I,q,rfl,h4,h2,Y.pulled hT hP,hT.jR.h.heaps rfl rfl,hP.own,hT.own,hP.len,h1,hT.fst,hT.new⟩
 grind
end
end
end Pa
namespace Fr
section
variable {s:List UInt8}{l:List F}
def be:Nat->Nat->List UInt8
 |0,_=>[]
 |k+1,v=>be k (v/256)++[cQ (v%256)]
theorem lI:∀k v,(be k v).length=k
 |0,_=>rfl
 |k+1,v=>by rw[be,aS,lI];rfl
theorem Jq:∀(k v:Nat)(q post:List UInt8),v<256 ^ k->big (q++be k v++post) q.length k=v
 |0,v,_,_,h=>by simp at h;subst h;rfl
 |k+1,v,q,post,h=>by
  rw[big,be];have E:v/256<256 ^ k:=by rw[Nat.pow_succ]at h;omega
  have e:q++(be k (v/256)++[cQ (v%256)])++post=q++be k (v/256)++([cQ (v%256)]++post):=aC
  rw[e,Jq k (v/256) q _ E]
  have h2:(q++be k (v/256)++([cQ (v%256)]++post)).getD (q.length+k) 0=cQ (v%256):=by
   rw[aY,bV (by simp[lI])];simp[lI]
  rw[h2,UInt8.toNat_ofNat'];omega
theorem Kr:∀(k:Nat)(s:List UInt8)(p:Nat),p+k<=s.length->(s.drop p).take k=be k (big s p k)
 |0,_,_,_=>by simp[be]
 |k+1,s,p,h=>by
  have h2:=(s.getD (p+k) 0).toNat_lt
  rw[big,be,show(256*big s p k+(s.getD (p+k) 0).toNat)/256=big s p k from by omega,<-Kr k s p aA,show(256*big s p k+(s.getD (p+k) 0).toNat)%256=(s.getD (p+k) 0).toNat from by omega,
   eY (by grind),List.getElem_drop]
  congr 2
  rw[aY,aO aA];simp
def fits(x:F):Prop:=x.chan<4294967296/\x.num<65536/\x.data.length<65536
def enc(x:F):List UInt8:=be 4 x.chan++be 2 x.num++be 2 x.data.length++x.data++[if x.last then 1 else 0]
theorem lD(x:F):(enc x).length=9+x.data.length:=by simp[enc,lI];omega
theorem abu(x:F)(h:fits x)(q post:List UInt8):one (q++enc x++post) q.length=M (x,(enc x).length):=by
 obtain⟨h1,h2,h3⟩:=h
 have e4:big (q++enc x++post) q.length 4=x.chan:=by
  have:q++enc x++post=q++be 4 x.chan++(be 2 x.num++be 2 x.data.length++x.data++[if x.last then 1 else 0]++post):=by simp[enc]
  rw[this];exact Jq 4 _ _ _ (by simpa using h1)
 have e2:big (q++enc x++post) (q.length+4) 2=x.num:=by
  have:q++enc x++post=(q++be 4 x.chan)++be 2 x.num++(be 2 x.data.length++x.data++[if x.last then 1 else 0]++post):=by simp[enc]
  rw[this];have:=Jq 2 x.num (q++be 4 x.chan) (be 2 x.data.length++x.data++[if x.last then 1 else 0]++post) (by simpa using h2);rwa[aS,lI]at this
 have J:big (q++enc x++post) (q.length+6) 2=x.data.length:=by
  have:q++enc x++post=(q++be 4 x.chan++be 2 x.num)++be 2 x.data.length++(x.data++[if x.last then 1 else 0]++post):=by simp[enc]
  rw[this];have:=Jq 2 x.data.length (q++be 4 x.chan++be 2 x.num) (x.data++[if x.last then 1 else 0]++post) (by simpa using h3);rwa[aS,aS,lI,lI]at this
 have Y:(q++enc x++post).length=q.length+(9+x.data.length)+post.length:=by simp[lD];omega
 have e8:(q++enc x++post).getD (q.length+8+x.data.length) 0=if x.last then 1 else 0:=by
  have:q++enc x++post=(q++be 4 x.chan++be 2 x.num++be 2 x.data.length++x.data)++([if x.last then 1 else 0]++post):=by simp[enc]
  rw[this,aY,bV (by simp[lI];omega)];have:q.length+8+x.data.length-(q++be 4 x.chan++be 2 x.num++be 2 x.data.length++x.data).length=0:=by simp[lI];omega
  rw[this];rfl
 have ed:((q++enc x++post).take (q.length+8+x.data.length)).drop (q.length+8)=x.data:=by
  have:q++enc x++post=(q++be 4 x.chan++be 2 x.num++be 2 x.data.length)++x.data++([if x.last then 1 else 0]++post):=by simp[enc]
  rw[this,List.take_append_of_le_length (by grind)];have I:(q++be 4 x.chan++be 2 x.num++be 2 x.data.length).length=q.length+8:=by simp[lI]<;>omega
  rw[eH (by grind),<-I,List.drop_left]
 unfold one;rw[J,e4,e2,e8,ed,Y,lD,Zs aA,Zs aA];cases E:x.last
 .rw[Zs aC]
  congr 2
  cases x
  simp_all
 .rw[Zs aC]
  congr 2
  cases x
  simp_all
theorem aaW{p:Nat}{x:F}{n:Nat}(h:one s p=M (x,n)):s.drop p=enc x++s.drop (p+n)/\fits x/\n=(enc x).length:=by
 have aa:=one_le h;unfold one at h;split at h
 .simp at h
 .rename_i h9;split at h
  .simp at h
  .rename_i hN;split at h
   .simp at h
   .rename_i hc;simp only[aK,dJ]at h;obtain⟨rfl,rfl⟩:=h;have b4:=Kr 4 s p aA;have b2:=Kr 2 s (p+4) aA;have J:=Kr 2 s (p+6) aA;have E:=vM s p 4;have l2:=vM s (p+4) 2;have I:=vM s (p+6) 2;simp only[Nat.reducePow]at E l2 I;generalize big s (p+6) 2=X1 at *;generalize big s p 4=C4 at *;generalize big s (p+4) 2=C2 at *;have hdl:((s.take (p+8+X1)).drop (p+8)).length=X1:=by simp;omega
    refine⟨?_,⟨E,l2,by rw[hdl];exact I⟩,by rw[lD,hdl]⟩
    have Y:[if ((s.getD (p+8+X1) 0).toNat == 1)=true then(1:UInt8)else 0]=(s.drop (p+8+X1)).take 1:=by
     have hg:s.getD (p+8+X1) 0=s[p+8+X1]' aA:=by rw[aY,aO aA];rfl
     rw[hg]at hc⊢;rw[List.drop_eq_getElem_cons aA];simp only[List.take_succ_cons,List.take_zero,List.cons.injEq,and_true];obtain h|h:=(by omega:(s[p+8+X1]' aA).toNat=0\/(s[p+8+X1]' aA).toNat=1)
     .rw[h];simp;exact jA.1 (by rw[h];rfl)
     .rw[h];simp;exact jA.1 (by rw[h];rfl)
    have hd:(s.take (p+8+X1)).drop (p+8)=(s.drop (p+8)).take X1:=by rw[List.drop_take];congr 1;omega
    unfold enc;simp only;rw[hdl,Y,<-b4,<-b2,<-J,hd];have j:∀(q k:Nat),s.drop q=(s.drop q).take k++s.drop (q+k):=λq k=>by rw[<-iE,List.take_append_drop]
    conv=>lhs;rw[j p 4,j (p+4) 2,show p+4+2=p+6 from rfl,j (p+6) 2,show p+6+2=p+8 from rfl,j (p+8) X1,j (p+8+X1) 1]
    rw[show p+(9+X1)=p+8+X1+1 from by omega];simp only[fM]
def cat(l:List F):List UInt8:=l.flatMap enc
theorem Oo:∀(l:List F)(f:Nat)(q:List UInt8),(∀x,x∈l->fits x)->l.length<=f->rest f (q++cat l) q.length=M l
 |[],f,q,_,_=>by
  cases f<;>simp[rest,cat]
 |x::l,0,q,_,h=>by simp at h
 |x::l,f+1,q,hx,h=>by
  have e:q++cat (x::l)=q++enc x++cat l:=by simp[cat]
  have I:=lD x;have:=Oo l f (q++enc x) (λy E=>hx y (cZ _ E)) (by simpa using h);rw[aS]at this;rw[rest,e,Zs (by grind),abu x (hx x (dQ ..))];simp only;rw[this];rfl
theorem Lp:∀(f:Nat)(s:List UInt8)(p:Nat)(l:List F),rest f s p=M l->s.drop p=cat l/\∀x,x∈l->fits x
 |0,s,p,l,h=>by
  simp only[rest]at h;split at h
  .simp at h;subst h;simp[cat];assumption
  .simp at h
 |f+1,s,p,l,h=>by
  rw[rest]at h;split at h
  .simp at h;subst h;simp[cat];assumption
  .cases ho:one s p with
   |none=>rw[ho]at h;simp at h
   |some x=>
    obtain⟨x,n⟩:=x;rw[ho]at h;simp only at h;obtain⟨t,ht,rfl⟩:=bI.1 h;obtain⟨E,h2,_⟩:=aaW ho;obtain⟨h3,h4⟩:=Lp f s _ t ht;refine⟨by rw[E,h3];simp[cat],λy q=>?_⟩;obtain rfl|q:=dD.1 q
    .exact h2
    .exact h4 y q
theorem Qd(I:l≠[])(h:∀x,x∈l->fits x):frames (0::cat l)=M l:=by
 obtain⟨x,r,rfl⟩:∃x r,l=x::r:=by cases l with|nil=>exact Xs rfl I|cons x r=>exact⟨x,r,rfl⟩
 have J:=lD x
 have q:∀m:List F,m.length<=(cat m).length:=by
  intro m
  induction m with
  |nil=>simp
  |cons y m ih=>
   have:=lD y;simp only[cat,gY,aS,aU]at ih⊢;omega
 have E:=q (x::r);unfold frames;rw[Zs]
 .exact Oo _ _ [0] h (by simp at E⊢;omega)
 .grind
theorem Pj(h:frames s=M l):s=0::cat l/\l≠[]/\∀x,x∈l->fits x:=by
 unfold frames at h;split at h
 .simp at h
 .rename_i h2;obtain⟨h3,h4⟩:=Lp _ _ _ _ h
  have hs:s=0::s.drop 1:=by
   cases s with
   |nil=>simp at h2
   |cons x r=>
    grind
  refine⟨hs.trans (by rw[h3]),?_,h4⟩;rintro rfl;have:(s.drop 1).length=0:=by rw[h3];rfl
  rw[dW]at this;omega
end
end Fr
namespace Pa
open Go Go.Conc Go.RowKit Go.Joins
open Hm (ptr kC jL jT TS kF pR AL PC PB PW lives yw xQ yc takeB CW ops2 Fits)
open Dv (X2 Cf Ch Tx)
open Po hiding X2 H B IT PR NB
open Cr (XA)
section
variable {w':U}
def Tk(kb nb:Nat)(vu vo vw:aD)(os:List PC)(k:Nat):Prop:=k=kb\/vu.ownBlock=M k\/vw.ownBlock=M k\/Hm.Own nb vo os k
theorem CP{XS:Nat->Prop}{w:U}{u:X2}{E J:aD}(h:pR w u E J)(q:kF XS w w')(hM:∀g,(0<u.txs.length/\E.ownBlock=M g)\/(0<u.logs.length/\J.ownBlock=M g)->¬XS g):pR w' u E J:=
 ⟨Hm.Rd.kept h.1 q.size (λhn g Y I=>q.block g I (hM g (cJ ⟨hn,Y⟩))),Hm.Rd.kept h.2.1 q.size (λhn g Y I=>q.block g I (hM g (cK ⟨hn,Y⟩))),h.2.2⟩
def frJ(u:X2)(j:Nat):Int:=((u.txs[j]?.map (·.fr)).getD 0:Nat)
def adJ(u:X2)(j:Nat):Int:=((u.txs[j]?.map (·.dest)).getD 0:Nat)
def daJ(u:X2)(j:Nat):ByteArray:=⟨((u.txs[j]?.map (·.data)).getD []).toArray⟩
def VQ(c:Cf)(u:X2)(j:Nat):List Fr.F:=Fr.mg c.inbox c.batcher (frJ u j) (adJ u j) (daJ u j).data.toList
theorem Ad(c:Cf)(u:X2)(j:Nat)(t:Tx)(h:u.txs[j]? =M t):VQ c u j=Dv.oI c t:=by unfold VQ frJ adJ daJ Fr.mg Dv.oI;rw[h];simp only[cO,fH,Int.ofNat_inj]
theorem aaY(c:Cf)(u:X2)(h:∀t,t∈u.txs->t.data.length<=2000)(j:Nat):(VQ c u j).length<=222:=by
 cases ht:u.txs[j]? with
 |some t=>rw[Ad c u j t ht];exact Dv.AB c t (h t (aX ht))
 |none=>
  unfold VQ daJ Fr.mg;rw[ht];split
  .simp[Fr.frames]
  .simp
theorem UL(c:Cf)(u:X2)(j:Nat)(x:Fr.F)(h:x∈VQ c u j):x.num<65536/\x.data.length<=65536:=by
 unfold VQ Fr.mg at h;split at h
 .cases q:Fr.frames (daJ u j).data.toList with
  |none=>rw[q]at h;simp at h
  |some l=>
   rw[q]at h;obtain⟨_,h2,h3⟩:=(Fr.Pj q).2.2 x h;exact⟨h2,aA⟩
 .simp at h
theorem Jh:∀{l m:List Nat},l.Nodup->(∀x,x∈l->x∈m)->l.length<=m.length
 |[],_,_,_=>dL _
 |x::l,m,hn,hs=>by
  have E:=hs x dQ;obtain⟨I,h2⟩:=iG.1 hn;have:=Jh (l:=l) (m:=m.erase x) h2 (λy q=>(List.mem_erase_of_ne (λe=>I (by rw[<-e];exact q))).2 (hs y (cZ _ q)));rw[List.length_erase_of_mem E]at this;have:=List.length_pos_of_mem E;rw[aU];omega
section
variable {w:U}
variable {kb nb:Nat}{c:Cf}{vu:aD}{us:List PB}{dl:Nat->List (List UInt8)}{vo vw:aD}{ws:List PW}{nm:AL}{os:List PC}{cnt ep sq:Nat}{u:X2}{ta la:Option Addr}{tn tc ln lc:Nat}
theorem acY(J:pR w u (.slice ta tn tc) (.slice la ln lc))(Y:∀t,t∈u.txs->t.data.length<=2000):tn=u.txs.length/\∃tb p0,XA (λ_=>True) w ta tb p0 tn (frJ u) (adJ u) (daJ u):=by
 obtain⟨hx,_⟩:=J;obtain⟨_,a,cap,e,_,E⟩:=hx;cases e;refine⟨rfl,?_⟩;obtain h0|h0:=gQ u.txs.length
 .exact⟨0,0,λh=>aA,λj I=>aA,λj I=>aA⟩
 .obtain⟨g,off,rfl,hg,hc⟩:=E h0;refine⟨g,off,λ_=>⟨rfl,trivial⟩,λj I=>?_,λj I=>?_⟩<;>obtain⟨t,ht⟩:∃t,u.txs[j]? =M t:=⟨_,aO I⟩
  .have q:=Hm.rO.get (w:=w) (l:=u.txs) (g:=g) (off:=off) (cap:=tc) ⟨‹_›,_,_,rfl,‹_›,λ_=>⟨g,off,rfl,hg,hc⟩⟩ ht;unfold frJ adJ daJ;rw[ht];exact q
  .unfold daJ;rw[ht];have:=Y t (aX ht)
   show t.data.toArray.size<=_
   simp;omega
theorem Pn(hS:TS w kb nb c vu us dl vo vw ws nm os cnt ep sq){ab ae:aD}{ws':List PW}{aj:AL}{J:List PC}(Y:TS w' kb nb c vu us dl ab ae ws' aj J cnt ep sq)(hc:kF (λj=>j=kb\/j=nb\/vw.ownBlock=M j) w w')(aa:∀j,Hm.Own nb ab J j->Hm.Own nb vo os j):J.length<=os.length:=by
 have h:=Jh (l:=J.map _) (m:=os.map (·.blk)) Y.ch.apart (λx hx=>?_)
 .simpa using h
 obtain⟨o,ho,rfl⟩:=bM.1 hx;have I:w'.heap[o.blk]? =_:=(Y.ch.chans o ho).obj;unfold Hm.xI at I
 have ak:o.blk≠kb:=λe=>by
  rw[e,Y.d.obj]at I;simp at I
 have ai:o.blk≠nb:=λe=>Hm.kY I Y.ch.named e
 have hold:vw.ownBlock≠M o.blk->o.blk<w.heap.size->w.heap[o.blk]? =_:=λh hl=>(hc.block _ hl (by
  grind)).symm.trans I
 obtain e|e|⟨o',ag,e|e⟩:=aa o.blk (cK (cK ⟨o,ho,cJ rfl⟩))
 .exact Xs e ai
 .exfalso;obtain⟨af,E⟩:=hS.ch.order.obj e;have hv:=Hm.jJ hS.d.wait E aB;rw[hold hv (jG E)]at E;simp at E
 .grind
 .exfalso;have ac:=hS.ch.chans o' ag
  have ah:o'.ch.spoilt=false:=by
   cases hs:o'.ch.spoilt with
   |false=>rfl
   |true=>have:=(ac.spoilt hs).2;rw[e]at this;cases this
  obtain⟨B,hB,hm⟩:=(ac.sound ah).map;rw[e]at hB;cases hB;obtain⟨es,cl,hb,_⟩:=hm
  have hv:vw.ownBlock≠M o.blk:=λq=>by
   obtain⟨af,E⟩:=hS.d.wait.obj q;rw[hb]at E;cases E
  rw[hold hv (jG hb)]at hb;cases hb
theorem TS.mark(E:TS w kb nb c vu us dl vo vw ws nm os cnt ep sq){D:Nat}(hD:w.heap[D]? =M (eM (M []))):TS (w.putObj D (eM Z)) kb nb c vu us dl vo vw ws nm os cnt ep sq:=by
 have Y:∀(j:Nat)(cs:Array aD)(t:Nat)(fz:Nat×Nat),w.heap[j]? =M (aG cs t fz)->j≠D:=λj cs t fz h e=>by
  grind
 have ac:∀(j:Nat)(q:IntKind)(m:AL),Hm.lQ w j q m->j≠D:=λj q m h e=>by
  obtain⟨es,cl,h,_⟩:=h;subst e;rw[hD]at h;cases h
 have hh:∀j,j≠D->(w.putObj D (eM Z)).heap[j]? =w.heap[j]?:=λj hj=>World.putObj_heap_other hj
 have I:∀{e s n:Nat}{v:aD}{xs:List aD},Hm.Row w e s v n xs->Hm.Row (w.putObj D (eM Z)) e s v n xs:=λhr=>hr.kept (λg hg=>hh g (by
  obtain⟨ae,aa⟩:=hr.obj hg;exact Y g _ _ _ aa))
 have ab:1≠D:=by
  obtain⟨hc,t,fz,q,_⟩:=E.ht;exact Y _ _ _ _ q
 have J:∀i,(w.putObj D (eM Z)).cell? ⟨1,i,Z⟩=w.cell? ⟨1,i,Z⟩:=λi=>by unfold World.cell?;rw[hh _ ab]
 refine⟨⟨(hh _ (Y _ _ _ _ E.d.obj)).trans E.d.obj,I E.d.upper,I E.d.wait,λj p hp=>I (E.d.deps j p hp),λp hp=>I (E.d.txs p hp)⟩,⟨E.ch.named.of_block (hh _ (ac _ _ _ E.ch.named)),I E.ch.order,λo ho=>?_,E.ch.apart,E.ch.maps,E.ch.far,E.ch.entries⟩,⟨⟨by rw[J];exact E.hd.1.1,by rw[J];exact E.hd.1.2.1,by rw[J];exact E.hd.1.2.2⟩,⟨by rw[J];exact E.hd.2.1,by rw[J];exact E.hd.2.2.1,by rw[J];exact E.hd.2.2.2⟩⟩,by rw[hh _ ab];exact E.ht⟩;have h:=E.ch.chans o ho;refine⟨(hh _ (Y _ _ _ _ h.obj)).trans h.obj,h.fine,h.small,h.lastLt,λe=>?_,h.spoilt⟩;have s:=h.sound e;obtain⟨B,hB,hm⟩:=s.map;exact⟨⟨B,hB,hm.of_block (hh _ (ac _ _ _ hm))⟩,s.size,s.room,s.ended,s.last⟩
theorem Y8(rd:Cr.ReadW){Post:Ir}{D:Nat->Prop}{b₀:cU}{a₀:Act}{ops:Array Oper}{i:Nat}{rest:List Nat}{k:List Item}{XX A:List cU}{o:Oper}{x y:Operand}{cr:Array TypeId}(ho:ops[i]? =M o)(hw:Region.wanted o (yielded ops a₀.tmps)=true)(cu:o.op=.call { callee:=.value (.func 39),args:=#[x,y],argTypes:=cr })(ex:a₀.eval x=ptr kb)(ey:a₀.eval y=.agg #[N .i64 u.id,N .i64 u.time,.slice ta tn tc,.slice la ln lc])(di:Tryz.prog.globals.size<=w.heap.size)(hS:TS w kb nb c vu us dl vo vw ws nm os cnt ep sq)(cw:pR w u (.slice ta tn tc) (.slice la ln lc))(aj:∀g,(0<u.txs.length/\(aR ta tn tc).ownBlock=M g)\/(0<u.logs.length/\(aR la ln lc).ownBlock=M g)->g<w.heap.size/\¬Tk kb nb vu vo vw os g)(E:Dv.small u=true)(bj:Dv.jP c=true)(du:us.length<=60)(dj:os.length<=1000000)(bz:Fits c.most (lives nm os))(c4:ws.length+4096*(lives nm os).length<=2000000000)(az:∀D' w' b4 v3 bu bw ab au I,TS w' kb nb c b4 (us++[(u.id,u.time,v3)]) (dlx dl us.length u) bu bw (ws++ab) au I cnt ep sq->kF (Tk kb nb vu vo vw os) w w'->(∀j,Tk kb nb b4 bu bw I j->Tk kb nb vu vo vw os j\/w.heap.size<=j)->I.length<=os.length+4440->Fits c.most (lives au I)->(lives au I,(ws++ab).map cG)=Dv.take c u us.length (lives nm os) (ws.map cG)->Hm.kH w.heap.size w'.heap.size (ab.map lr)->Wq D' Post XX (b₀.at (a₀.put o.dst (.tuple #[])) (.inRegion ops rest::k)) A w'):Wq D Post XX (b₀.at a₀ (.inRegion ops (i::rest)::k)) A w:=by
 obtain⟨dt,dv,bq,ce⟩:=Dv.wX E
 have dr:1<=c.timeout/\c.timeout<=8/\1<=c.window/\c.window<=8/\0<=c.drift/\c.drift<=100/\2<=c.step/\c.step<=20/\1<=c.most/\c.most<=4096:=by
  unfold Dv.jP at bj;exact Z2 bj
 refine Wq.call ho hw cu (fq Tryz.func39 rfl) rfl TG ?_;simp only[fQ,eP,fP,ex,ey,show Tryz.f39.ntmps=93 from rfl,dR,aU,bY,Nat.reduceAdd,Nat.reduceSub,dH,dG,dU,dI,dS,dN];refine TY (u:=u) hS rfl ?_;intro a1 w1 cg an bb;have b2:=hS.kept an (λ_ _ e=>e);have ao:=CP cw an (λ_ _ e=>e);refine abt b2 cg bb ao (λx hx=>by have:=ce x hx;omega) aA ?_;intro a2 w2 b6 v3 b8 b0 ah aq;have bv:=bb.jR ah (λj cs t fz h ht=>b2.abk h aA aA)
 have bk:=CP ao ah (λg hg=>by
  rintro(e|e)
  .exact(aj g hg).2 (cJ e)
  .exact(aj g hg).2 (cK (cJ e)))
 refine Xb (c0:=us.length) b0 b8 bv aA aA aA ?_;intro a3 w3 cc a8 am cj bd ai aw c1 aa;have av:=bv.jR ai (λj cs t fz h ht=>b0.CV h aA aA aA)
 have bm:=CP bk ai (λg hg=>by
  rintro(e|e)
  .exact(aj g hg).2 (cJ e)
  .exact(aj g hg).2 (cK (cK (cK e))))
 have s1:=an.size;have s2:=ah.size;have s3:=ai.size;refine Wq.seq (Wq.seq ?_);obtain⟨dq,bh⟩:=Ur;rw[bh];obtain⟨bx,tb,p0,ci⟩:=acY bm bq;refine ab9 (u:=u) (c:=c) (fs:=VQ c u) rd cj av.h2 av.h3 bd.d.obj aA aA ci (λ_ _=>rfl) ?_;intro a4 w4 D4 ct cy cd ck hF;have ag:kF (λ_=>False) w3 w4:=⟨by have:=hF.size;omega,λj hj _=>hF.old j hj⟩
 have s4:=ag.size;have b1:=bd.kept ag (λ_ _ e=>e);have br:=av.jR ag (λ_ _ _ _ _ _ e=>e);obtain⟨vs,ba,bo,a7⟩:=hF.rows;have af:Hm.lJ (VQ c u) tn=Dv.heard c u.txs:=by rw[bx];exact Hm.NZ c _ _ (Ad c u)
 have dg:(Hm.lJ (VQ c u) tn).length<=4440:=by rw[af];exact Dv.Bj c E
 refine aby (c0:=us.length) (C:=w3.heap.size+1) (m:=tn) (vs:=vs) (fs:=VQ c u) b1 ct br cy cd ck ba bo (λi hi=>?rows) (λi f _ hf=>UL c u i f hf) aA (λi=>by have:=aaY c u bq i;omega) aA aA ?_
 case rows=>
  obtain⟨v,h1,h2⟩:=a7 i hi;refine⟨v,h1,h2.imp id ?_⟩;rintro⟨g,cap,b7,r1,_,r2,r3,_,_,r4⟩;exact⟨g,cap,b7,r1,r2,r3,r4⟩
 intro a5 w5 cb ak J cv bg a9 co db ae;have cl:=br.jR a9 (λj cs t fz h ht=>b1.CV h aA aA aA);have s5:=a9.size;have ax:Fits c.most (lives a8 am):=by rw[aa];exact Hm.LZ bz _
 have ac:Fits c.most (lives ak J):=by rw[ae];exact Hm.Hg aA _ ax
 have de:(lives a8 am).length<=(lives nm os).length:=by rw[aa];exact gZ _ _
 have cz:(lives ak J).length<=(lives nm os).length+4440:=by
  rw[ae];have:=Dv.uT c.most us.length (Hm.lJ (VQ c u) tn) (lives a8 am);omega
 have dm:=Dv.Fp (lives ak J);refine Vl (c0:=us.length) bg cv cl aA (λs hs=>by have:=(Hm.Am ac).1 s hs;omega) aA ?_;intro a6 w6 dd cm b5 ab cp b9 ca hD dk b3 ay Y ar c9 ap bs bl;have s6:=ay.size;have cx:=Pn bg b3 ay Y;refine Wq.fin λtodo=>Wq.takes (b:=dd) (ds:=[]) rfl ca hD ?_;refine Wq.leave (v:=.tuple #[]) (fn:=Tryz.f39) rfl rfl rfl (fq Tryz.func39 rfl) (λw=>by simp[results,Tryz.results39,go_sem]) ?_;rw[fO,ho];have hput:∀j,j<w.heap.size->(w6.putObj dd (eM Z)).heap[j]? =w6.heap[j]?:=λj hj=>World.putObj_heap_other aA;have dh:(w6.putObj dd (eM Z)).heap.size=w6.heap.size:=World.putObj_size;have g3:∀j,Hm.Own nb cc am j->Hm.Own nb vo os j\/w.heap.size<=j:=λj hj=>(aw j hj).imp id (λq=>aA)
 have g5:∀j,Hm.Own nb cb J j->Hm.Own nb vo os j\/w.heap.size<=j:=λj hj=>by
  grind
 refine az D4 _ b6 v3 cm b5 ab cp b9 (TS.mark b3 hD) ⟨aA,λj hj hn=>?jR⟩ (λj hj=>?own) aA (by rw[ap];exact(Hm.Am ac).2) ?take (bl.mono aA aA)
 case jR=>
  rw[hput j hj,ay.block j aA ?c6,a9.block j aA ?c5,ag.block j aA (λe=>e),ai.block j aA ?c3,ah.block j aA ?c2,an.block j hj (λe=>e)]
  case c6=>
   rintro(e|e|e)
   .exact hn (cJ e)
   .rw[e]at hn;exact hn (cK (cK (cK (cJ rfl))))
   .exact hn (cK (cK (cJ e)))
  case c5=>
   rintro(e|e)
   .exact hn (cJ e)
   .obtain q|q:=g3 j e
    .exact hn (cK (cK (cK q)))
    .omega
  case c3=>
   rintro(e|e)
   .exact hn (cJ e)
   .exact hn (cK (cK (cK e)))
  case c2=>
   rintro(e|e)
   .exact hn (cJ e)
   .exact hn (cK (cJ e))
 case own=>
  obtain q|q|q|q:=hj
  .exact cJ (cJ q)
  .obtain r|r:=aq j q
   .exact cJ (cK (cJ r))
   .exact cK aA
  .obtain r|r:=ar j q
   .exact cJ (cK (cK (cJ r)))
   .exact cK aA
  .obtain r|r:=g5 j (Y j q)
   .exact cJ (cK (cK (cK r)))
   .exact cK r
 case take=>
  rw[Hm.WQ c u us.length (lives nm os) (ws.map cG) (VQ c u) (Ad c u) (lives ak J) (by rw[ae,aa,bx]),ap,bJ,bs]
end
end
end Pa
