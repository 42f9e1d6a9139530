import Derived.Test.YtpibpdpedjinhaaGreatDoorP37
set_option maxRecDepth 100000
set_option maxHeartbeats 16000000
set_option linter.all false
open Go renaming Calls->eE,Code->im,OwnFrom->nA,Value->aD,World->U,callsIn_wide->km,heap_alloc_new->cX
open Go.Code renaming seq->cL
open Go.IntKind renaming i64->X,u16->mE,u32->dE,wrap_i64->cP
open Go.Obj renaming cells->aG
open Go.Value renaming int->N,pointer->aM,slice->aR,string->aH
open Go.World renaming cell?_of_block->bN
open Option renaming none->Z,some->M
namespace Go.Proofs.YtpibpdpedjinhaaGreatDoor
namespace Hm
open Go.RowKit Go.Joins Go.Shelf
open Fr (F below_drewN)
open Dv (X2 Cf Ba Ch)
section
variable {Q:Exit->Act->U->Prop}
noncomputable def yw:im:=match Tryz.f39.body with
 |some (cL c _)=>c
 |_=>.skip
noncomputable def xQ:im:=match Tryz.f39.body with
 |some (cL _ (cL c _))=>c
 |_=>.skip
noncomputable def yc:im:=match Tryz.f39.body with
 |some (cL _ (cL _ (cL _ (cL c _))))=>c
 |_=>.skip
theorem U5(u2 u3 u4 u5 u6 u7 u8 u9 aw cc au bj b9 br af b2 ag am ax cj ak ai bq Y ca cb cl aa ck bl ct bb az b4 ce bd bv bh b6 bx a4 b8 b0 b5 bu ac ao av a9 a2 E ba cv bk bg cm a1 cu a8 cd b7 cp cx bw bm ci ay ae co aq ah a5 bs I bo a7 ab aj b3 ap q cr an cw a3 ar a6 b1 bz cg J:aD)(kb:Nat)(id tm:Int)(ta:Option Addr)(tn tc:Nat)(la:Option Addr)(ln lc:Nat)(w:U)(hQ:Q .normal { tmps:=#[aM (M ⟨kb,0,Z⟩),.agg #[N X id,N X tm,.slice ta tn tc,.slice la ln lc],aM (M ⟨w.heap.size,0,Z⟩),aM (M ⟨w.heap.size+1,0,Z⟩),u4,u5,u6,u7,u8,u9,aw,cc,au,bj,b9,br,af,b2,ag,am,ax,cj,ak,ai,bq,Y,ca,cb,cl,aa,ck,bl,ct,bb,az,b4,ce,bd,bv,bh,b6,bx,a4,b8,b0,b5,bu,ac,ao,av,a9,a2,E,ba,cv,bk,bg,cm,a1,cu,a8,cd,b7,cp,cx,bw,bm,ci,ay,ae,co,aq,ah,a5,bs,I,bo,a7,ab,aj,b3,ap,q,cr,an,cw,a3,ar,a6,b1,bz,cg,J],defers:=[] } ((w.alloc (aG #[aM (M ⟨kb,0,Z⟩)] 93)).alloc (aG #[N X id,N X tm,.slice ta tn tc,.slice la ln lc] 42))):yw.wp PQ Q { tmps:=#[aM (M ⟨kb,0,Z⟩),.agg #[N X id,N X tm,.slice ta tn tc,.slice la ln lc],u2,u3,u4,u5,u6,u7,u8,u9,aw,cc,au,bj,b9,br,af,b2,ag,am,ax,cj,ak,ai,bq,Y,ca,cb,cl,aa,ck,bl,ct,bb,az,b4,ce,bd,bv,bh,b6,bx,a4,b8,b0,b5,bu,ac,ao,av,a9,a2,E,ba,cv,bk,bg,cm,a1,cu,a8,cd,b7,cp,cx,bw,bm,ci,ay,ae,co,aq,ah,a5,bs,I,bo,a7,ab,aj,b3,ap,q,cr,an,cw,a3,ar,a6,b1,bz,cg,J],defers:=[] } w:=by
 simp only[yw,Tryz.f39];go_wp2_with fail;exact hQ
theorem Vy(u4 cy cu cv cx cw u0 u1 u3 u5 u6 u7 u8 u9 av af bz ag am aw cd ak ai bm Y b7 b8 cg aa ce bj cm ba ay b1 ca bb br bg b4 bs a3 b6 bw b3 bq ac ao au a8 a1 E a9 cp bh bd ci az co a7 b9 b5 ck ct bu bk cc ax ae cj aq ah a4 bo I bl a6 ab aj b0 ap q cl an cr a2 ar a5 bx bv cb J:aD)(b2 kb:Nat)(va:Option Addr)(k vc:Nat)(w:U)(c2:w.cell? ⟨b2,0,Z⟩=M (aM (M ⟨kb,0,Z⟩)))(c7:w.cell? ⟨kb,7,Z⟩=M (.slice va k vc))(hQ:Q .normal { tmps:=#[u0,u1,aM (M ⟨b2,0,Z⟩),u3,aM (M ⟨w.heap.size,0,Z⟩),u5,u6,u7,u8,u9,av,aM (M ⟨kb,0,Z⟩),aM (M ⟨kb,0,Z⟩),aM (M ⟨kb,7,Z⟩),.slice va k vc,N X k,af,bz,ag,am,aw,cd,ak,ai,bm,Y,b7,b8,cg,aa,ce,bj,cm,ba,ay,b1,ca,bb,br,bg,b4,bs,a3,b6,bw,b3,bq,ac,ao,au,a8,a1,E,a9,cp,bh,bd,ci,az,co,a7,b9,b5,ck,ct,bu,bk,cc,ax,ae,cj,aq,ah,a4,bo,I,bl,a6,ab,aj,b0,ap,q,cl,an,cr,a2,ar,a5,bx,bv,cb,J],defers:=[] } (w.alloc (aG #[N X k] 3))):xQ.wp PQ Q { tmps:=#[u0,u1,aM (M ⟨b2,0,Z⟩),u3,u4,u5,u6,u7,u8,u9,av,cy,cu,cv,cx,cw,af,bz,ag,am,aw,cd,ak,ai,bm,Y,b7,b8,cg,aa,ce,bj,cm,ba,ay,b1,ca,bb,br,bg,b4,bs,a3,b6,bw,b3,bq,ac,ao,au,a8,a1,E,a9,cp,bh,bd,ci,az,co,a7,b9,b5,ck,ct,bu,bk,cc,ax,ae,cj,aq,ah,a4,bo,I,bl,a6,ab,aj,b0,ap,q,cl,an,cr,a2,ar,a5,bx,bv,cb,J],defers:=[] } w:=by
 simp only[xQ,Tryz.f39];go_wp2_with fail;exact hQ
theorem Dw.from{kb nb:Nat}{cs:Array aD}{vo:aD}{os:List PC}{w V:U}{q:aD}{E:AL}{I:List PC}{w':U}(h:Dw kb nb cs vo os V q E I w')(J:Below w.heap.size w V):Dw kb nb cs vo os w q E I w':=
 ⟨h.obj,h.chs,(jO.below J jE _).trans h.jR (λ_ _ e=>e),λk hk=>(h.own k hk).imp (λe=>e) (λe=>bH J.size e),h.len⟩
theorem JK(u0 u1 u3 u5 u6 u7 u8 u9 a8 cl a6 bu cj b0 ar cb au az a9 cr ay aw bz am ck dm dt c3 dr dh dy de dd dj dq dg b5 bs ce b6 bh ci b9 cd b3 ao a2 a7 bo bd ai bq cy bv br ct bb cx bm cm cg cv c1 b7 bw cp ba ap cu a4 av bj b1 aj bx bl an ax cc a3 ah cw a1 cz bg a5 bk ca b8 co ak:aD)(b2 b4 kb nb n:Nat)(E:Int)(cs:Array aD)(vo:aD)(nm:AL)(os:List PC)(w:U)(h2:w.heap[b2]? =M (aG #[ptr kb] 93 (0,0)))(h4:w.heap[b4]? =M (aG #[N X n] 3 (0,0)))(hk:w.heap[kb]? =M (aG cs 137 (0,0)))(ae:cs[2]? =M (N X E))(h8:cs[8]? =M (.map (M nb)))(h9:cs[9]? =M vo)(af:Chs w nb vo nm os)(db:os.length<=4294967296)(hn:n<=4294967296)(d0:0<=E/\E<=4294967296)(hQ:∀(dl c4 c5 du di dw dv c2 dk c9 dx:aD)(W':U)(J:aD)(I:AL)(q:List PC),Dw kb nb cs vo os w J I q W'->q.length<=os.length->lives I q=(lives nm os).filter (λc=>!decide ((c.opened:Int)<n-E))->Q .normal { tmps:=#[u0,u1,aM (M ⟨b2,0,Z⟩),u3,aM (M ⟨b4,0,Z⟩),u5,u6,u7,u8,u9,a8,cl,a6,bu,cj,b0,ar,cb,au,az,a9,cr,ay,aw,bz,am,ck,dl,c4,c5,du,di,dw,dv,c2,dk,c9,dx,b5,bs,ce,b6,bh,ci,b9,cd,b3,ao,a2,a7,bo,bd,ai,bq,cy,bv,br,ct,bb,cx,bm,cm,cg,cv,c1,b7,bw,cp,ba,ap,cu,a4,av,bj,b1,aj,bx,bl,an,ax,cc,a3,ah,cw,a1,cz,bg,a5,bk,ca,b8,co,ak],defers:=[] } W'):yc.wp PQ Q { tmps:=#[u0,u1,aM (M ⟨b2,0,Z⟩),u3,aM (M ⟨b4,0,Z⟩),u5,u6,u7,u8,u9,a8,cl,a6,bu,cj,b0,ar,cb,au,az,a9,cr,ay,aw,bz,am,ck,dm,dt,c3,dr,dh,dy,de,dd,dj,dq,dg,b5,bs,ce,b6,bh,ci,b9,cd,b3,ao,a2,a7,bo,bd,ai,bq,cy,bv,br,ct,bb,cx,bm,cm,cg,cv,c1,b7,bw,cp,ba,ap,cu,a4,av,bj,b1,aj,bx,bl,an,ax,cc,a3,ah,cw,a1,cz,bg,a5,bk,ca,b8,co,ak],defers:=[] } w:=by
 have dz:IntKind.i64.wrap ((n:Int)-E)=(n:Int)-E:=by rw[cP];omega
 have hS:∀V,Below w.heap.size w V->V.cell? ⟨b2,0,Z⟩=M (aM (M ⟨kb,0,Z⟩))/\V.cell? ⟨b4,0,Z⟩=M (N X n)/\V.cell? ⟨kb,2,Z⟩=M (N X E):=λV hV=>by
  have q2:=(hV.block _ (jG h2)).trans h2;have q4:=(hV.block _ (jG h4)).trans h4;have qk:=(hV.block _ (jG hk)).trans hk;exact⟨by rw[aI q2];rfl,by rw[aI q4];rfl,by rw[aI qk];exact ae⟩
 have aa:∀V,Below w.heap.size w V->eE PQ 70 #[aM (M ⟨kb,8,Z⟩),N X ((n:Int)-E)] V λe w'=>e=.returned (.tuple #[])/\(w'.cell? ⟨b2,0,Z⟩=M (aM (M ⟨kb,0,Z⟩))/\w'.cell? ⟨b4,0,Z⟩=M (N X n)/\w'.cell? ⟨kb,2,Z⟩=M (N X E))/\Hid (∃J I q,Dw kb nb cs vo os w J I q w'/\q.length<=os.length/\lives I q=(lives nm os).filter (λc=>!decide ((c.opened:Int)<n-E))):=λV hV=>by
  refine(OE kb nb cs vo nm os _ V ((hV.block _ (jG hk)).trans hk) h8 h9 (af.below hV) db).mono ?_;rintro e w' ⟨rfl,J,I,q,ht,hl,ag⟩;have aq:=ht.from hV
  have far:∀(k:Nat)(c:Array aD)(t:Nat)(fz:Nat×Nat),w.heap[k]? =M (aG c t fz)->t≠137->t≠197->t≠201->w'.heap[k]? =M (aG c t fz):=λk c t fz Y t1 t2 t3=>(aq.jR.block k (jG Y) (by
   rintro(rfl|e)
   .rw[hk]at Y;simp at Y;exact t1 Y.2.1.symm
   .exact af.lF Y t2 t3 e)).trans Y
  refine⟨rfl,⟨by rw[aI (far _ _ _ _ h2 aB aB aB)];rfl,by rw[aI (far _ _ _ _ h4 aB aB aB)];rfl,?_⟩,J,I,q,aq,hl,ag⟩;rw[aI ht.obj,aV];simpa using ae
 have HS:Hid _:=hS;have ac:Hid _:=aa;have HQ:Hid _:=hQ;clear hS aa hQ h2 h4 hk ae h8 h9 af;simp only[yc,Tryz.f39];have ab:=aJ w.heap.size w;go_region_held3 (λV=>V.cell? ⟨b2,0,Z⟩=M (aM (M ⟨kb,0,Z⟩))/\V.cell? ⟨b4,0,Z⟩=M (N X n)/\V.cell? ⟨kb,2,Z⟩=M (N X E)) (first|exact c6|(refine HS.out _ ?_;first|exact ab|exact ab.drew)) (first|(go_at_call 70;(refine aT (ac.out _ ?_) ?_;(first|exact ab.drew|exact ab);rintro e5 w5 ⟨rfl,c6,H5⟩)))
 all_goals
  obtain⟨J,I,q,ht,hl,ag⟩:=H5.out;exact HQ.out _ _ _ _ _ _ _ _ _ _ _ w5 J I q ht hl ag
end
end Hm
namespace Hm
open Go.RowKit Go.Joins Go.Shelf
open Fr (below_drewN)
open Dv (X2 Cf Ba Ch)
attribute [local go_sem] Oper.semAt_some
variable {XS:Nat->Prop}{W A:U}{kb nb n:Nat}{pre:List (List UInt8)}{cs:Array aD}{vw1:aD}{ws1:List PW}
noncomputable def CW:im:=match Tryz.f39.body with
 |some (cL _ (cL _ (cL _ (cL _ (cL _ c)))))=>c
 |_=>.skip
theorem OY(kb:Nat)(w:U):eE PQ 73 #[aM (M ⟨kb,8,Z⟩)] w λe w'=>e=.returned (.func (.func 115) #[] #[aM (M ⟨w.heap.size,0,Z⟩)])/\w'=w.alloc (aG #[aM (M ⟨kb,8,Z⟩)] 196):=by go_enter (fq Tryz.func73 rfl),Tryz.ntmps73;go_wp2_with fail;go_ret;exact⟨rfl,rfl⟩
theorem Dz(S:ByteArray)(w:U):eE PQ 74 #[aH S] w λe w'=>e=.returned (.func (.func 118) #[] #[aM (M ⟨w.heap.size,0,Z⟩)])/\w'=w.alloc (aG #[aH S] 9):=by go_enter (fq Tryz.func74 rfl),Tryz.ntmps74;go_wp2_with fail;go_ret;exact⟨rfl,rfl⟩
theorem AU{J:U}(I:jO XS W J)(Y:∀k,XS k->k<W.heap.size->∃cs t E,W.heap[k]? =M (aG cs t E)):KeepsOthers W J:=⟨I.size,λk o hk ho=>(I.block k (jG hk) (λe=>by
 obtain⟨cs,t,E,q⟩:=Y k e (jG hk);rw[hk]at q;cases q;cases ho)).trans hk⟩
theorem QH.own(ho:Option Obj)(I:Nat)(S:ByteArray)(n:Nat)(hn:1<n):nA n (QH ho I S):=by rintro pre A B row ⟨h1,h2,h3⟩ Y hr;obtain⟨XS,q,J,E⟩:=l9 Y hr;have q0:=q.block 1 h2.pos (E _ hn);obtain⟨⟨a0,a1,a2⟩,a3,a4,a5⟩:=h2;exact⟨q0.trans h1,⟨⟨(bN q0).trans a0,(bN q0).trans a1,(bN q0).trans a2⟩,(bN q0).trans a3,(bN q0).trans a4,(bN q0).trans a5⟩,xE h3 q J⟩
theorem BY.own(T:List UInt8)(n lo:Nat):nA n (λ(q:List BX×BX) W=>BY T q.1 q.2 lo W):=by rintro q A B row ⟨I,h2,h3⟩ hg Y;obtain⟨XS,E,hM,J⟩:=l9 hg Y;exact⟨⟨kX.jR I.1 E hM.str,I.2⟩,h2,h3⟩
theorem PS.grown{B:Nat->Prop}{J:List Ch}{I:U}{vo:aD}{nm:AL}{os:List PC}(h:PS kb nb B J pre A cs vo nm os){row:Option Nat}(hn:∀k,B k->k<n)(hg:A.grownBy I row)(hr:∀r,row=M r->n<=r/\∃o:Obj,A.heap[r]? =M o/\o.isCells=false):PS kb nb B J pre I cs vo nm os:=by obtain⟨XS,q,Y,E⟩:=l9 hg hr;exact h.jR q (Y _ _ _ _ h.obj) (λk hk=>E k (hn k hk))
theorem PSt.own(kb q nb:Nat)(B:Nat->Prop)(l0:List Ch)(p0:PX)(n:Nat)(hn:∀k,B k->k<n)(hc:q<n):nA n (PSt kb q nb B l0 p0):=by rintro pre A A' row ⟨⟨cs,h1⟩,h2⟩ J Y;have h3:=h1.grown hn J Y;obtain⟨XS,E,hM,I⟩:=l9 J Y;exact⟨⟨cs,h3⟩,(bN (E.block q (fG A _ h2) (I q hc))).trans h2⟩
theorem PEn.own(kb nb:Nat)(B:Nat->Prop)(I:List Ch)(n:Nat)(Y:∀k,B k->k<n):nA n (PEn kb nb B I):=by rintro pre A A' row ⟨cs,vo,nm,os,E,h2⟩ q J;exact⟨cs,vo,nm,os,E.grown Y q J,h2⟩
def TJ(kb nb n:Nat)(w:U)(cs:Array aD)(vw:aD)(ws:List PW)(pre:List PX)(W:U):Prop:=∃q vw1 ws1,TI kb nb n w cs vw ws (pre.map PX.s) W q vw1 ws1
theorem TJ.own(kb nb n:Nat)(w:U)(cs:Array aD)(vw:aD)(ws:List PW)(m:Nat)(hm:w.heap.size<=m):nA m (TJ kb nb n w cs vw ws):=by rintro pre A A' row ⟨J,vw1,ws1,h⟩ Y hr;obtain⟨XS,q,I,E⟩:=l9 Y hr;exact⟨J,vw1,ws1,h.nS q I (λk hk=>E k aA)⟩
def UJ(kb n:Nat)(W1:U)(E:Array aD)(vw1:aD)(ws1:List PW)(pre:List BX)(F:Nat->Prop)(W:U):Prop:=∃q I,UI kb n W1 E vw1 ws1 (pre.map BX.b) W q I/\∀g,q.ownBlock=M g->¬F g
theorem UJ.own(kb n:Nat)(W1:U)(I:Array aD)(vw1:aD)(ws1:List PW)(F:Nat->Prop)(m:Nat)(hm:W1.heap.size<=m):nA m (λpre W=>UJ kb n W1 I vw1 ws1 pre F W):=by rintro pre A A' row ⟨q,Y,h,h'⟩ hg hr;obtain⟨XS,E,hM,J⟩:=l9 hg hr;exact⟨q,Y,h.nS E hM (λk hk=>J k aA),h'⟩
theorem TI.base{w V:U}{vw:aD}{ws:List PW}{I:aD}(h:TI kb nb n V cs vw ws pre W I vw1 ws1)(E:Below w.heap.size w V)(Y:nb<w.heap.size):TI kb nb n w cs vw ws pre W I vw1 ws1:=
 ⟨h.obj,h.row,h.txs,h.fst,λg J=>(h.own g J).imp id (λq=>bH E.size q),(jO.below E jE _).trans h.jR (λ_ _ e=>e),h.nbm,Y,h.new.mono E.size jE⟩
theorem QH.jR{ho:Option Obj}{E:Nat}{S:ByteArray}{pre q:List BX}{B:U}(h:QH ho E S pre A)(I:jO XS A B)(Y:¬XS 1)(h2:¬XS E):QH ho E S q B:=by have q0:=I.block 1 h.2.1.pos Y;obtain⟨g1,⟨⟨a0,a1,a2⟩,a3,a4,a5⟩,J⟩:=h;exact⟨q0.trans g1,⟨⟨(bN q0).trans a0,(bN q0).trans a1,(bN q0).trans a2⟩,(bN q0).trans a3,(bN q0).trans a4,(bN q0).trans a5⟩,(I.block E J.lt h2).trans J⟩
theorem UI.skip{W1:U}{E:Array aD}{J:List Ba}{q:aD}{I:List PW}(h:UI kb n W1 E vw1 ws1 J W q I){b:Ba}(Y:¬b.epoch<=n):UI kb n W1 E vw1 ws1 (J++[b]) W q I:=
 ⟨h.obj,h.row,h.txs,by rw[xU,Zs Y,gI];exact h.fst,h.own,h.jR,h.new⟩
theorem Va(n:Nat)(l:List Ba):(xK n l).length<=l.length:=by unfold xK;rw[bC];exact gZ _ _
end Hm
namespace Hm
open Go.RowKit Go.Joins Go.Shelf
open Fr (below_drewN)
open Dv (X2 Cf Ba Ch)
attribute [local go_sem] Oper.semAt_some
def QM(u0 u1 u3 u5 u6 u7 u8 u9 e2 ce bx ct cx dg bq cc br bv cp cy bs c5 d8 du cd eb ci bo dr b7 eh d2 d0 dk ed b6 d9 d7 cv b9 bz ea di dl dh ck dx co b5 cr cz db ej de d3 ef c6 ei b3 ec cw eg em ca b8 ee dz gm gt gw gv fg e4 eu ex b1 dv dw cu cm cj dt cl el c9 dy b0 dj cb dq c3:aD)(b2 b4 kb nb n:Nat)(cs:Array aD)(vo vw:aD)(nm:AL)(os:List PC)(ws:List PW)(w:U){Q:Exit->Act->U->Prop}(h2:w.heap[b2]? =M (aG #[ptr kb] 93 (0,0)))(h4:w.heap[b4]? =M (aG #[N X n] 3 (0,0)))(hk:w.heap[kb]? =M (aG cs 137 (0,0)))(h8:cs[8]? =M (.map (M nb)))(h9:cs[9]? =M vo)(h10:cs[10]? =M vw)(ay:Chs w nb vo nm os)(gy:os.length<=4294967296)(aq:Row w 150 5 vw ws.length (ws.flatMap lS))(ft:∀p,p∈ws->kX w p.2 p.1.txs)(hH:kG w)(fk:∃hc t fz,w.heap[1]? =M (aG hc t fz)/\t≠137/\t≠150)(e6:∀s,s∈(Dv.pull (lives nm os)).1->s.length<=4096)(av:ws.length+4096*(Dv.pull (lives nm os)).1.length<4294967296)(hQ:∀(D:Nat)(W':U)(v9 aa:aD)(ab:List PW)(cs':Array aD)(e3:aD)(bw:AL)(c1:List PC),TI kb nb n w cs vw ws (Dv.pull (lives nm os)).1 W' v9 aa ab->PS kb nb (Own nb vo os) (lives nm os) (Dv.pull (lives nm os)).1 W' cs' e3 bw c1->lives bw c1=(Dv.pull (lives nm os)).2->w.heap.size<=D->D<W'.heap.size->W'.heap[D]? =M (.deferred (M []))->Q .normal { tmps:=#[u0,u1,aM (M ⟨b2,0,Z⟩),u3,aM (M ⟨b4,0,Z⟩),u5,u6,u7,u8,u9,e2,ce,bx,ct,cx,dg,bq,cc,br,bv,cp,cy,bs,c5,d8,du,cd,eb,ci,bo,dr,b7,eh,d2,d0,dk,ed,b6,d9,d7,cv,b9,bz,ea,di,dl,dh,ck,dx,co,b5,cr,cz,db,ej,de,d3,ef,c6,ei,b3,ec,cw,eg,em,ca,b8,ee,dz,aM (M ⟨kb,0,Z⟩),aM (M ⟨kb,0,Z⟩),aM (M ⟨kb,8,Z⟩),.func (.func 115) #[] #[aM (M ⟨w.heap.size,0,Z⟩)],fg,e4,eu,ex,b1,dv,dw,cu,cm,cj,dt,cl,el,c9,dy,b0,dj,cb,dq,c3],defers:=[{ target:=.collected D,args:=#[] }] } W'):CW.wp PQ Q { tmps:=#[u0,u1,aM (M ⟨b2,0,Z⟩),u3,aM (M ⟨b4,0,Z⟩),u5,u6,u7,u8,u9,e2,ce,bx,ct,cx,dg,bq,cc,br,bv,cp,cy,bs,c5,d8,du,cd,eb,ci,bo,dr,b7,eh,d2,d0,dk,ed,b6,d9,d7,cv,b9,bz,ea,di,dl,dh,ck,dx,co,b5,cr,cz,db,ej,de,d3,ef,c6,ei,b3,ec,cw,eg,em,ca,b8,ee,dz,gm,gt,gw,gv,fg,e4,eu,ex,b1,dv,dw,cu,cm,cj,dt,cl,el,c9,dy,b0,dj,cb,dq,c3],defers:=[] } w:=by
 have au:∀(k:Nat)(c:Array aD)(t:Nat)(fz:Nat×Nat),w.heap[k]? =M (aG c t fz)->t≠137->t≠150->¬(k=kb\/k=nb\/vw.ownBlock=M k):=by
  rintro k c t fz bg t1 t2 (rfl|rfl|e)
  .rw[hk]at bg;simp at bg;exact t1 bg.2.1.symm
  .exact kY bg ay.named rfl
  .obtain⟨e5,q⟩:=aq.obj e;rw[bg]at q;simp at q;exact t2 q.2.1
 have e8:=ay.named.lt;have bd:=(jG h10)
 have gg:Hid (10<cs.size):=bd;have hb:=(jG hk)
 have fd:=(jG h2)
 have e9:=(jG h4)
 have ge:∀g,vw.ownBlock=M g->g<w.heap.size:=λg hg=>aq.lt hg;have fp:=hH.pos;have eo:NC w nb:=λc t fz e=>kY e ay.named rfl
 have f5:TI kb nb n w cs vw ws [] w vo vw []:=by
  refine⟨?_,by simpa using aq,by simpa using ft,rfl,λg hg=>.inl hg,jO.refl _ _,eo,e8,kH.nil _ _⟩;rw[hk]
  congr 2
  apply gB;intro i;simp only[aV,jm];split
  .rename_i e;subst e
   first
    |exact h10
    |(rw[ZD (jG h10)];exact h10)
  .split
   .rename_i e;subst e
    first
     |exact h9
     |(rw[ZD (jG h9)];exact h9)
   .rfl
 have ez:Hid (∀k,Own nb vo os k->k<w.heap.size):=λk ac=>ay.rU ac;have f9:PS kb nb (Own nb vo os) (lives nm os) [] w cs vo nm os:=⟨hk,h8,h9,ay,gy,aC,λk ac=>ac⟩
 obtain⟨V,hV,ap,-⟩:=jI w #[aM (M ⟨kb,8,Z⟩)] 196;have hf:V.heap.size=w.heap.size+1:=by rw[hV];simp
 have fu:V.cell? ⟨w.heap.size,0,Z⟩=M (aM (M ⟨kb,8,Z⟩)):=by
  have:V.heap[w.heap.size]? =M (aG #[aM (M ⟨kb,8,Z⟩)] 196 (0,0)):=by rw[hV];exact cX _ _
  rw[aI this];rfl
 have a7:=f5.nS (.below ap jE _) (λ_ _ _ _ _ e=>e) (λ_ _ e=>e);have fa:TI kb nb n V cs vw ws [] V vo vw []:=⟨a7.obj,a7.row,a7.txs,a7.fst,λg hg=>.inl hg,jO.refl _ _,a7.nbm,aA,kH.nil _ _⟩
 have fx:=f9.below ap;have c2:w.cell? ⟨b2,0,Z⟩=M (aM (M ⟨kb,0,Z⟩)):=nT h2;have n2:=au b2 _ _ _ h2 aB aB;have n4:=au b4 _ _ _ h4 aB aB
 have nh:¬(1=kb\/1=nb\/vw.ownBlock=M 1):=by
  obtain⟨c,t,fz,q1,q2,q3⟩:=fk;exact au _ _ _ _ q1 q2 q3
 have ff:=(ap.block b2 fd).trans h2;have fc:=(ap.block b4 e9).trans h4;have fy:=hH.below ap fp;have H0:Hid _:=jD (jD n2 (jD n4 nh)) (jD e6 (jD av (jD hQ (jD fa (jD fx (jD ff (jD fc (jD fy (jD ap fu)))))))));clear au e6 av hQ f5 fa a7 f9 fx h2 h4 hH fk fu ap n2 n4 nh ff fc fy hk h8 h9 h10 ay aq ft eo bd;simp only[CW,Tryz.f39];refine(wpIn_wide (n:=3)).1 ?_;gi_wp2;refine⟨trivial,(km.2 (OY kb w)).mono ?_⟩;rintro e w2 ⟨rfl,rfl⟩;gi_wp2;rw[<-hV];clear hV
 refine y8 (gf:=115) (lb:=#[.pointer _]) rfl (enters_of (fq Tryz.func115 rfl) XN rfl)
  (Le kb _ nb _ _ ⟨[],vo,nm,os⟩ aA aA) (by rintro k (rfl|rfl)<;>omega) (λA B l o hl h=>h.put o aA) (PSt.own _ _ _ _ _ _ _ (λk ac=>(by have:=ez.out k ac;omega)) aA) (PEn.own _ _ _ _ _ (λk ac=>(by have:=ez.out k ac;omega))) (λlo=>by
   rintro⟨ag,x⟩ A A' row h hg hr;exact PSt.own _ _ _ _ _ _ _ (λk ac=>(by have:=ez.out k ac;omega)) aA (ag++[x]) A A' row h hg hr) (λ_=>rfl)
  _ (λ_ _ _=>False) (TJ.own _ _ _ _ _ _ _ _ aA) (λ_ _ _ _ _ h=>h.elim) ⟨vo,vw,[],H0.out.2.2.2.2.1⟩ ⟨⟨cs,H0.out.2.2.2.2.2.1⟩,H0.out.2.2.2.2.2.2.2.2.2.2⟩
  (λx _=>{ tmps:=#[u0,u1,aM (M ⟨b2,0,Z⟩),u3,aM (M ⟨b4,0,Z⟩),u5,u6,u7,u8,aH ⟨x.s.toArray⟩,e2,ce,bx,ct,cx,dg,bq,cc,br,bv,cp,cy,bs,c5,d8,du,cd,eb,ci,bo,dr,b7,eh,d2,d0,dk,ed,b6,d9,d7,cv,b9,bz,ea,di,dl,dh,ck,dx,co,b5,cr,cz,db,ej,de,d3,ef,c6,ei,b3,ec,cw,eg,em,ca,b8,ee,dz,aM (M ⟨kb,0,Z⟩),aM (M ⟨kb,0,Z⟩),aM (M ⟨kb,8,Z⟩),.func (.func 115) #[] #[aM (M ⟨w.heap.size,0,Z⟩)],aH ⟨x.s.toArray⟩,e4,eu,ex,b1,dv,dw,cu,cm,cj,dt,cl,el,c9,dy,b0,dj,cb,dq,c3],defers:=[] }) _ (λ_ _ _ _=>rfl) (λ_ _=>jE) (λ_ _ _ _ _=>rfl) ?assign ?body ?done ?stop
 case assign=>
  intro l x W K hK;simp only[PX.encs];gi_wp2;exact hK
 case body=>
  rintro l ag x W0 W1 hh g7 ⟨r,hr⟩ ⟨v9,aa,ab,hT⟩ hc hE ⟨⟨gd,hP⟩,az⟩;rw[uH]at hP;obtain⟨ao,E⟩:=hT.turn hc hE (λc t fz e=>kY e hP.chs.named rfl)
  have a8:gd=(cs.setIfInBounds 9 ao).setIfInBounds 10 aa:=by
   have q:=hP.obj;rw[E.obj]at q;simp at q;exact q.symm
  have aw:=hP.pull;have bk:(Dv.pull (lives nm os)).1=(ag++[x]).map PX.s++(Dv.pull (lives x.nm x.os)).1:=by rw[aw]
  have gz:=H0.out.2.1 x.s (by rw[bk,bJ];simp);have e1:ag.length+1<=(Dv.pull (lives nm os)).1.length:=by rw[bk];simp
  have g8:=E.jR.size;have hj:=hT.jR.size;have bb:=(E.jR.block b2 aA H0.out.1.1).trans H0.out.2.2.2.2.2.2.1;have bm:=(E.jR.block b4 aA H0.out.1.2.1).trans H0.out.2.2.2.2.2.2.2.1;have an:=E.jR.block _ aA H0.out.1.2.2
  have ga:kG W1:=by
   obtain⟨⟨a0,a1,a2⟩,a3,a4,a5⟩:=H0.out.2.2.2.2.2.2.2.2.1;exact⟨⟨(bN an).trans a0,(bN an).trans a1,(bN an).trans a2⟩,(bN an).trans a3,(bN an).trans a4,(bN an).trans a5⟩
  have ar:∀k,k<w.heap.size->¬(k=kb\/k=nb\/vw.ownBlock=M k)->¬(k=kb\/aa.ownBlock=M k):=λk g6 ac e=>by
   obtain e|e:=e
   .exact ac (.inl e)
   .obtain q|q:=E.own k e
    .exact ac (.inr (.inr q))
    .omega
  have f2:=ar b2 fd H0.out.1.1;have f4:=ar b4 e9 H0.out.1.2.1;have fh:=ar _ fp H0.out.1.2.2;obtain⟨S,hS⟩:∃S:ByteArray,(⟨x.s.toArray⟩:ByteArray)=S:=⟨_,rfl⟩
  have ba:S.data.toList=x.s:=by rw[<-hS]
  have g0:S.size<=4096:=by rw[<-hS];show x.s.toArray.size<=4096;rw[dR];exact gz
  obtain⟨Xw,dm,am,-⟩:=jI W1 #[aH S] 9;have ha:Xw.heap.size=W1.heap.size+1:=by rw[dm];simp
  have e7:Boxed Xw W1.heap.size 9 (aH S):=by unfold Boxed;rw[dm];exact cX _ _
  have gn:=(am.block l (jG hr)).trans hr;have f0:UI kb n W1 ((cs.setIfInBounds 9 ao).setIfInBounds 10 aa) aa (ws++ab) [] Xw aa []:=⟨by rw[rG];exact(am.block kb aA).trans E.obj,by simpa using E.row.below am,λp hp=>Row.below (E.txs p (by simpa using hp)) am,rfl,λg hg=>.inl hg,.below am jE _,kH.nil _ _⟩
  have dd:QH (V.heap[1]?) W1.heap.size S [] Xw:=⟨(am.block _ aA).trans an,ga.below am aA,e7⟩
  have H1:Hid _:=jD hT (jD E (jD hP (jD az (jD a8 (jD f0 (jD dd (jD bb (jD bm (jD f2 (jD f4 (jD fh (jD e1 ba))))))))))));clear hT E hP az a8 f0 dd bb bm f2 f4 fh e1 aw bk an ga ar e7 hc hE hr am ba;rw[hS];gi_wp2;refine⟨trivial,(CallsIn.inRound _ (km.2 (Dz S W1))).mono ?_⟩;rintro e w3 ⟨rfl,rfl⟩;gi_wp2;rw[<-dm];clear dm
  refine Gg gn (gf:=118) (lb:=#[aM (M ⟨W1.heap.size,0,Z⟩)]) rfl (enters_of (fq Tryz.func118 rfl) XN rfl) (Cc (V.heap[1]?) W1.heap.size S g0) (QH.own _ _ _ _ aA) (λlo=>BY.own _ _ lo) (λ_=>rfl)
   (λag F W=>UJ kb n W1 ((cs.setIfInBounds 9 ao).setIfInBounds 10 aa) aa (ws++ab) ag F W/\QH (V.heap[1]?) W1.heap.size S ag W) (λ_ _ _ _=>False) (λF=>(UJ.own _ _ _ _ _ _ F _ aA).and (QH.own _ _ _ _ aA)) (λ_ _ _ _ _ _ h=>h.elim) ⟨⟨aa,[],H1.out.2.2.2.2.2.1,λ_ _ e=>e⟩,H1.out.2.2.2.2.2.2.1⟩ H1.out.2.2.2.2.2.2.1
   (λy B=>{ tmps:=#[u0,u1,aM (M ⟨b2,0,Z⟩),u3,aM (M ⟨b4,0,Z⟩),u5,u6,u7,u8,aH S,aM (M ⟨B,0,Z⟩),ce,bx,ct,cx,dg,bq,cc,br,bv,cp,cy,bs,c5,d8,du,cd,eb,ci,bo,dr,b7,eh,d2,d0,dk,ed,b6,d9,d7,cv,b9,bz,ea,di,dl,dh,ck,dx,co,b5,cr,cz,db,ej,de,d3,ef,c6,ei,b3,ec,cw,eg,em,ca,b8,ee,dz,aM (M ⟨kb,0,Z⟩),aM (M ⟨kb,0,Z⟩),aM (M ⟨kb,8,Z⟩),.func (.func 115) #[] #[aM (M ⟨w.heap.size,0,Z⟩)],aH S,aH S,.func (.func 118) #[] #[aM (M ⟨W1.heap.size,0,Z⟩)],.agg #[N X y.b.epoch,N X y.b.id,N X y.b.time,.slice y.a y.b.txs.length y.cap,N X y.b.place],b1,dv,dw,cu,cm,cj,dt,cl,el,c9,dy,b0,dj,cb,dq,c3],defers:=[] }) (λy=>aG #[N X y.b.epoch,N X y.b.id,N X y.b.time,.slice y.a y.b.txs.length y.cap,N X y.b.place] 150) ?iassign ?ibody ?idone ?istop
  case iassign=>
   intro l x W K hK;simp only[BX.encs];gi_wp2;exact hK
  case ibody=>
   rintro lb bj y F bh I et g3 ⟨rb,he⟩ hF ⟨⟨ae,ai,hU,fe⟩,f8⟩ a9 ⟨a6,aw,pp,ah⟩;have bl:=hU.nS a9 (λk c t fz hk e=>e.2 c t fz hk) (λk hk e=>by have:=(hF k e.1).1;omega);obtain⟨hT,E,hP,az,a8,_,dd,bb,bm,f2,f4,fh,e1,ba⟩:=H1.out;obtain⟨G,hG,gb,gk⟩:=jI I #[N X y.b.epoch,N X y.b.id,N X y.b.time,.slice y.a y.b.txs.length y.cap,N X y.b.place] 150;rw[<-hG];have gs:G.heap.size=I.heap.size+1:=by rw[hG];simp
   obtain⟨k0,k1,k2,k3,k4,kf⟩:=cells5 gk;have Y:=bl.nS (.below gb jE _) (λ_ _ _ _ _ e=>e) (λ_ _ e=>e);have g9:=bl.jR.size;have d1:=(Y.jR.block b2 aA f2).trans bb;have fo:=(Y.jR.block b4 aA f4).trans bm;have c4:=nT fo;have hi:b4≠I.heap.size:=aA
   have f3:QH (V.heap[1]?) W1.heap.size S bj I:=f8.jR a9 (λe=>by have:=(hF _ e.1).1;omega) (λe=>by have:=(hF _ e.1).1;omega);have ak:QH (V.heap[1]?) W1.heap.size S bj G:=f3.jR (.below gb jE (λ_=>False)) (λe=>e) (λe=>e);have g4:W1.heap.size+1<bh.heap.size:=aA
   have fl:=a9.size
   have cg:kH W1.heap.size I.heap.size ((ai++[(({ y.b with place:=n }:Ba),aR y.a y.b.txs.length y.cap)]).map Prod.snd):=by
    rw[bJ];exact hU.new.append (kH.one' λg hg=>⟨a6.2 g hg,Row.lt a6.1 hg⟩) aA fl
   have aj:∀g,ae.ownBlock=M g->g<bh.heap.size:=λg hg=>hU.row.lt hg
   have J:∀g,ae.ownBlock=M g->¬yt F bh I g:=λg hg e=>by
    obtain e|e:=e
    .exact fe g hg e
    .have:=aj g hg;omega
   have fw:Hid _:=jD Y (jD ak (jD J (jD aj (jD d1 (jD gk (jD a6 (jD ah (jD bl (jD aw (jD hF (jD gb cg)))))))))));clear hU bl Y ak f3 f8 a9 a6 ah J hT E hP az a8 dd bb bm gk d1 fo hG aj fe aw hF gb cg;have gr:Hid _:=et;clear et;by_cases f1:y.b.epoch<=n
   .have fj:(y.b.epoch:Int)<=n:=by omega
    gi_wp2;refine wpIn_region_any XN ?_;change wpAnyIn _ _ _ _ _ _ _ _ _ (World.drew _);have et:=gr.out;obtain⟨Y,ak,J,aj,d1,gk,a6,ah,bl,aw,hF,gb,cg⟩:=fw.out;have af:jO (λk=>k=I.heap.size) G (G.setCell ⟨I.heap.size,4,Z⟩ (N X n)).drew:=(jO.set G _ 4 _).trans (jO.drew _ _) (λ_ _ e=>e);have gh:(G.setCell ⟨I.heap.size,4,Z⟩ (N X n)).drew.heap[I.heap.size]? =M (aG (bt y.b.epoch y.b.id y.b.time y.a y.b.txs.length y.cap n).toArray 150 (0,0)):=jV gk 4 _;have er:=Y.obj;have e0:ae.ownBlock≠M I.heap.size:=λe=>by have:=aj _ e;omega
    have ey:kb≠I.heap.size:=aA
    have fi:=gg.out
    have av:(ws++ab++ai).length<4294967296:=by
     have q1:=H0.out.2.2.1;have q2:=Z1 List.length H1.out.2.1.fst;rw[bC]at q2;have q3:=Dv.xY n (ag.map PX.s);rw[bC]at q3;have q4:=Z1 List.length Y.fst;rw[bC]at q4;have q5:=Va n (bj.map BX.b);have q6:=ah.le;rw[bC]at q5;rw[bJ,aS,bC]at q6
     have q7:(textOf S.data.toList).length<=4096:=by
      have:=Dv.uj S.data.toList.length S.data.toList 4096 [] (by simp only[bY];omega);unfold textOf;omega
     have q8:=H1.out.2.2.2.2.2.2.2.2.2.2.2.2.1;simp only[eP,fP,aU,bY]at q6;simp only[aS];omega
    have g1:RB (G.setCell ⟨I.heap.size,4,Z⟩ (N X n)).drew b2 I.heap.size kb (ws++ab++ai).length ae ((ws++ab++ai).flatMap lS) (((cs.setIfInBounds 9 ao).setIfInBounds 10 aa).setIfInBounds 10 ae) y.b.epoch y.b.id y.b.time y.a y.b.txs.length y.cap n:=
     ⟨(af.block b2 aA aA).trans d1,(af.block kb (jG er) ey).trans er,by rw[aV];simp[fi],gh,Y.row.jR af (λg hg e=>e0 (by rw[hg,e])),e0,av⟩
    refine WA (l:=lb) (m:=1) g1 rfl rfl rfl ?_;intro a' g off cap wz hr hg;have gc:kX G (.slice y.a y.b.txs.length y.cap) y.b.txs:=Row.below a6.1 gb;have ew:=Y.more f1 gc (b10:=I.heap.size) aA e0 ⟨_,gk⟩ af (cg.mono jE aA) hr hg;have hM:jO (λk=>(ae.ownBlock=M k\/k=I.heap.size)\/k=kb) G (wz.setCell ⟨kb,10,Z⟩ (aR (M ⟨g,off,Z⟩) ((ws++ab++ai).length+1) cap)):=(((af.mono (λk _ e=>.inl (.inr e))).trans (jO.alloc (λ_=>False) _ _) (λ_ _ e=>e.elim)).trans hg.jR (λk _ e=>.inl (.inl e))).trans (jO.set wz kb 10 _) (λk _ e=>.inr e);have fb:=H1.out.2.2.2.2.2.2.2.2.2.2.2.1
    have f6:∀pr,QH (V.heap[1]?) W1.heap.size S pr (wz.setCell ⟨kb,10,Z⟩ (aR (M ⟨g,off,Z⟩) ((ws++ab++ai).length+1) cap)):=λpr=>ak.jR hM (by
     rintro((e|e)|e)
     .obtain q|q:=Y.own _ e
      .exact fb (.inr q)
      .omega
     .omega
     .exact fb (.inl e)) (by
     rintro((e|e)|e)
     .exact jJ Y.row ak.2.2 aB e
     .omega
     .omega)
    refine⟨(AU hM (λk hk _=>?_)).from _,f6 _,λk hk=>hM.block k ?_ ?_,⟨_,_,by rw[bJ];exact ew,?_⟩,f6 _⟩
    .obtain(e|rfl)|rfl:=hk
     .obtain⟨e5,q⟩:=Y.row.obj e;exact⟨_,_,_,q⟩
     .exact⟨_,_,_,gk⟩
     .exact⟨_,_,_,er⟩
    .obtain e|e:=hk
     .have:=(hF k e).2;omega
     .omega
    .rintro((e|e)|e)
     .exact J k e hk
     .obtain q|q:=hk
      .have:=(hF k q).2;omega
      .omega
     .obtain q|q:=hk
      .have:=(hF k q).1;omega
      .omega
    .intro q hq e;have hq:g=q:=by simpa[Value.ownBlock]using hq
     subst hq;obtain r1|r1:=hg.own
     .exact J g r1 e
     .have r2:(G.setCell ⟨I.heap.size,4,Z⟩ (N X n)).drew.heap.size+1<=g:=by simpa using r1
      have r3:=af.size;obtain e|e:=e
      .have:=(hF g e).2;omega
      .omega
   .have fj:¬(y.b.epoch:Int)<=n:=by omega
    gi_wp2;obtain⟨Y,ak,J,_⟩:=fw.out;refine⟨KeepsFrom.refl _ _,ak.jR (jO.refl (λ_=>False) _) (λe=>e) (λe=>e),λ_ _=>rfl,⟨ae,ai,?_,J⟩,ak.jR (jO.refl (λ_=>False) _) (λe=>e) (λe=>e)⟩;rw[bJ];exact Y.skip f1
  case idone=>
   rintro xs F bh Wb hF ⟨p,gj,g2⟩ ⟨⟨ae,ai,hU,_⟩,_⟩ a9;have ax:=hU.nS a9 (λk c t fz hk e=>e.2 c t fz hk) (λk hk e=>by have:=(hF k e.1).1;omega);obtain⟨hT,E,hP,az,a8,_,_,_,_,_,_,_,_,ba⟩:=H1.out
   have bu:xK n (xs.map BX.b)=Dv.reads x.s n:=by
    have:=gj.all g2 n;rw[ba]at this;unfold Dv.reads;exact this.symm
   have gi:=E.more ax bu
   have gq:=hP.aeU (v:=ae) (by rw[a8];exact ax.obj) ax.jR (λk hk e=>by
    obtain e|e:=e
    .exact hP.chs.lF hP.obj aB aB (e ▸ hk)
    .exact hP.chs.UC E.row e hk)
   refine⟨(AU ax.jR (λk hk _=>?_)).from _,⟨⟨_,by rw[uH];exact gq⟩,?_⟩,λk h1 h2=>ax.jR.block k h2 ?_,ao,ae,ab++ai,by rw[bJ];exact gi⟩
   .obtain rfl|e:=hk
    .exact⟨_,_,_,E.obj⟩
    .obtain⟨e5,q⟩:=E.row.obj e;exact⟨_,_,_,q⟩
   .refine(bN (ax.jR.block w.heap.size aA ?_)).trans az;rintro(e|e)
    .omega
    .obtain q|q:=E.own _ e
     .have:=ge _ q;omega
     .omega
   .rintro(e|e)
    .omega
    .have:=hT.row.lt e;omega
  case istop=>
   rintro c g5 F bh Wb _ _ h;exact h.elim
 case done=>
  rintro D xs W0 W hD gx _ ⟨v9,aa,ab,hT⟩ hc hE ⟨cs',e3,bw,c1,hP,hl,hx⟩ hK;obtain⟨ao,f7⟩:=hT.turn hc hE (λc t fz e=>kY e hP.chs.named rfl);rw[hx]at f7 hP;exact H0.out.2.2.2.1 D W ao aa ab cs' e3 bw c1 (f7.base H0.out.2.2.2.2.2.2.2.2.2.1 e8) hP hl aA (jG hK) hK
 case stop=>
  rintro D c ag W0 W hD gx _ h;exact h.elim
end Hm
namespace Hm
open Go.RowKit Go.Joins Go.Shelf
open Fr (F below_drewN)
open Dv (X2 Cf Ba Ch)
noncomputable def takeB:im:=match Tryz.f39.body with
 |some (cL _ (cL _ (cL _ (cL _ (cL (cL _ c) _)))))=>c
 |_=>.skip
def Jo(u0 u1 u3 u5 u6 u7 u8 u9 bv c4 bu ce c1 ck u16 ct bg bm bw dd bl bj cj a9 c2 c3 dg ba de cg u32 b8 bx cv c6 ca cm cc cw co b1 cx dw d1 d2 eb d9 du ec ff eh ee e8 d8 fd ea ez ex fb fg er ej e2 d3 bd dj br bh b3 cl a7 ci b6 bb bk cu bq a6 dk bo dm bz bs b5 cr cp c9 a8:aD)(b2 b4 kb nb n C m:Nat)(most:Int)(cs vs:Array aD)(vo:aD)(nm:AL)(os:List PC)(fs:Nat->List F)(w:U){Q:Exit->Act->U->Prop}(h2:w.heap[b2]? =M (aG #[ptr kb] 93 (0,0)))(h4:w.heap[b4]? =M (aG #[N X n] 3 (0,0)))(hk:w.heap[kb]? =M (aG cs 137 (0,0)))(h6:cs[6]? =M (N X most))(h8:cs[8]? =M (.map (M nb)))(h9:cs[9]? =M vo)(a3:Chs w nb vo nm os)(hC:w.heap[C]? =M (aG vs 76 (0,0)))(fh:vs.size=m)(am:∀i,i<m->∃v,vs[i]? =M v/\AX w v (fs i))(cb:∀i f,i<m->f∈fs i->f.num<65536/\f.data.length<=65536)(hm:m<=16777216)(av:∀i,(fs i).length<=16777216)(ax:os.length+(lJ fs m).length<=4294967295)(ef:0<=most/\most<=4294967296)(hQ:∀(x6 x8 e0 dv fe fc dz el d7 eu ew e6 em et dq eo ey e4 eg dr dt e7 e3 fa e9:aD)(W':U)(ag:aD)(ab:AL)(aa:List PC),BI kb nb w cs vo os ((lJ fs m).foldl (Dv.frame most n) (lives nm os)) (lJ fs m).length W' ag ab aa->Q .normal { tmps:=#[u0,u1,aM (M ⟨b2,0,Z⟩),u3,aM (M ⟨b4,0,Z⟩),u5,x6,u7,x8,u9,bv,c4,bu,ce,c1,ck,u16,ct,bg,bm,bw,dd,bl,bj,cj,a9,c2,c3,dg,ba,de,cg,u32,b8,bx,cv,c6,ca,cm,cc,cw,co,b1,cx,aR (M ⟨C,0,Z⟩) m m,N X m,e0,dv,fe,fc,dz,el,d7,eu,ew,e6,em,et,dq,eo,ey,e4,eg,dr,dt,e7,e3,fa,e9,bd,dj,br,bh,b3,cl,a7,ci,b6,bb,bk,cu,bq,a6,dk,bo,dm,bz,bs,b5,cr,cp,c9,a8],defers:=[] } W'):takeB.wp PQ Q { tmps:=#[u0,u1,aM (M ⟨b2,0,Z⟩),u3,aM (M ⟨b4,0,Z⟩),u5,u6,u7,u8,u9,bv,c4,bu,ce,c1,ck,u16,ct,bg,bm,bw,dd,bl,bj,cj,a9,c2,c3,dg,ba,de,cg,u32,b8,bx,cv,c6,ca,cm,cc,cw,co,b1,cx,aR (M ⟨C,0,Z⟩) m m,N X m,N X 0,dw,d1,d2,eb,d9,du,ec,ff,eh,ee,e8,d8,fd,ea,ez,ex,fb,fg,er,ej,e2,d3,bd,dj,br,bh,b3,cl,a7,ci,b6,bb,bk,cu,bq,a6,dk,bo,dm,bz,bs,b5,cr,cp,c9,a8],defers:=[] } w:=by
 have ay:cs.setIfInBounds 9 vo=cs:=by
  apply gB;intro i;simp only[aV];split
  .rename_i e;subst e
   first
    |exact h9.symm
    |(rw[ZD (jG h9)];exact h9.symm)
  .rfl
 have cy:BI kb nb w cs vo os ((lJ fs 0).foldl (Dv.frame most n) (lives nm os)) (lJ fs 0).length w vo nm os:=⟨by rw[ay];exact hk,a3,jO.refl _ _,λk hk=>.inl hk,by simp[lJ],rfl⟩
 have I:∀(k:Nat)(c:Array aD)(t:Nat)(fz:Nat×Nat),w.heap[k]? =M (aG c t fz)->t≠137->t≠197->t≠201->¬(k=kb\/Own nb vo os k):=by
  rintro k c t fz aq t1 t2 t3 (rfl|e)
  .rw[hk]at aq;simp at aq;exact t1 aq.2.1.symm
  .exact a3.lF aq t2 t3 e
 have ah:∀W,jO (λk=>k=kb\/Own nb vo os k) w W->W.heap[b2]? =M (aG #[ptr kb] 93 (0,0))/\W.heap[b4]? =M (aG #[N X n] 3 (0,0))/\W.heap[C]? =M (aG vs 76 (0,0))/\∀v l,AX w v l->AX W v l:=λW hc=>⟨(hc.block _ (jG h2) (I _ _ _ _ h2 aB aB aB)).trans h2,(hc.block _ (jG h4) (I _ _ _ _ h4 aB aB aB)).trans h4,(hc.block _ (jG hC) (I _ _ _ _ hC aB aB aB)).trans hC,λv l h=>h.imp id (λ⟨g,cap,dy,e,q1,q2⟩=>⟨g,cap,dy,e,(hc.block g (jG q1) (I _ _ _ _ q1 aB aB aB)).trans q1,q2⟩)⟩
 have J:Hid _:=jD cy (jD ah (jD am (jD cb (jD ax (jD hQ (jD h6 (jD h8 av)))))));have H9:Hid (cs[9]? =M vo):=h9;clear cy ah am cb ax hQ h6 h8 av h2 h4 hk h9 a3 hC ay I;simp only[takeB,Tryz.f39];go_wp2_with fail;go_loopg [46] m (λgg t wr=>∃(i:Nat)(ag:aD)(ab:AL)(aa:List PC),i<=m/\t=N X i/\gg=m-i/\Hid (BI kb nb w cs vo os ((lJ fs i).foldl (Dv.frame most n) (lives nm os)) (lJ fs i).length wr ag ab aa))
 case atStart=>exact⟨0,vo,nm,os,dL _,rfl,rfl,J.out.1⟩
 case round=>
  obtain⟨i,ag,ab,aa,hi,rfl,rfl,HI⟩:=hrel;by_cases a1:i<m
  .have db:(i:Int)<m:=by omega
   obtain⟨v,hv,a4⟩:=J.out.2.2.1 i a1;obtain⟨va,vc,a5⟩:=a4.slice;have hk:=J.out.2.1 wr HI.out.jR;have cC:wr.cell? ⟨C,i,Z⟩=M (.slice va (fs i).length vc):=by rw[aI hk.2.2.1,hv,a5]
   have av:=J.out.2.2.2.2.2.2.2.2 i;obtain⟨X1,hN⟩:∃X1,(fs i).length=X1:=⟨_,rfl⟩
   rw[hN]at cC av;have HN:Hid _:=jD hN (jD a4 a5);clear hv a4 a5 hk hN;go_wp2_with fail;go_loopg [52] X1 (λgg t wx=>∃(j:Nat)(E:aD)(aw:AL)(ao:List PC),j<=X1/\t=N X j/\gg=X1-j/\Hid (BI kb nb w cs vo os ((lJ fs i++(fs i).take j).foldl (Dv.frame most n) (lives nm os)) (lJ fs i++(fs i).take j).length wx E aw ao))
   case atStart=>exact⟨0,ag,ab,aa,dL _,rfl,rfl,by rw[List.take_zero,gI];exact HI⟩
   case round=>
    rename_i fi;obtain⟨j,E,aw,ao,hj,rfl,rfl,HJ⟩:=hrel;by_cases ei:j<X1
    .have dl:(j:Int)<X1:=by omega
     obtain⟨f,hf⟩:∃f,(fs i)[j]? =M f:=⟨_,aO (by rw[HN.out.1];exact ei)⟩
     have hk:=J.out.2.1 wr HJ.out.jR;obtain⟨g,cap,e,k0,k1,k2,k3⟩:=(hk.2.2.2 v (fs i) HN.out.2.1).at hf;rw[HN.out.2.2]at e;simp only[Value.slice.injEq,true_and]at e;obtain⟨rfl,rfl⟩:=e;obtain⟨DB,b9⟩:∃DB:ByteArray,(⟨f.data.toArray⟩:ByteArray)=DB:=⟨_,rfl⟩
     rw[b9]at k2;obtain⟨Wa,hX,dh,ai⟩:=jI wr #[N dE f.chan,N mE f.num,aH DB,.bool f.last] 81;have ar:wr.heap.size<Wa.heap.size:=(jG ai)
     have ak:=HJ.out.below dh;have ae:=J.out.2.1 Wa ak.jR
     have aj:ao.length<=4294967295:=by
      have q1:=HJ.out.len;have q2:=J.out.2.2.2.2.1;have q3:=Xv fs (show i+1<=m from a1);rw[x9,aS]at q3;rw[aS,bK]at q1;omega
     have b0:=J.out.2.2.2.1 i f a1 (aX hf);have cd:(cs.setIfInBounds 9 E)[8]? =M (.map (M nb)):=by rw[aV];simpa using J.out.2.2.2.2.2.2.2.1
     have di:(cs.setIfInBounds 9 E)[6]? =M (N X most):=by rw[aV];simpa using J.out.2.2.2.2.2.2.1
     have b7:(cs.setIfInBounds 9 E)[9]? =M E:=by
      obtain⟨dx,_⟩:=dY.1 H9.out;rw[aV];simp[dx]
     have hS:∀V,Below Wa.heap.size Wa V->V.cell? ⟨b2,0,Z⟩=M (aM (M ⟨kb,0,Z⟩))/\V.cell? ⟨b4,0,Z⟩=M (N X n)/\V.cell? ⟨kb,6,Z⟩=M (N X most)/\V.cell? ⟨wr.heap.size,0,Z⟩=M (N dE f.chan)/\V.cell? ⟨wr.heap.size,1,Z⟩=M (N mE f.num)/\V.cell? ⟨wr.heap.size,2,Z⟩=M (aH DB)/\V.cell? ⟨wr.heap.size,3,Z⟩=M (.bool f.last):=λV hV=>by
      have q2:=(hV.block _ (jG ae.1)).trans ae.1;have q4:=(hV.block _ (jG ae.2.1)).trans ae.2.1;have qk:=(hV.block _ (jG ak.obj)).trans ak.obj;have qo:=(hV.block _ ar).trans ai;exact⟨by rw[aI q2];rfl,by rw[aI q4];rfl,by rw[aI qk];exact di,by rw[aI qo];rfl,by rw[aI qo];rfl,by rw[aI qo];rfl,by rw[aI qo];rfl⟩
     have ac:∀V,Below Wa.heap.size Wa V->eE PQ 72 #[aM (M ⟨kb,8,Z⟩),.agg #[N dE f.chan,N mE f.num,aH DB,.bool f.last],N X n,N X most] V λe w'=>e=.returned (.tuple #[])/\(w'.cell? ⟨b2,0,Z⟩=M (aM (M ⟨kb,0,Z⟩))/\w'.cell? ⟨b4,0,Z⟩=M (N X n)/\w'.cell? ⟨kb,6,Z⟩=M (N X most)/\w'.cell? ⟨wr.heap.size,0,Z⟩=M (N dE f.chan)/\w'.cell? ⟨wr.heap.size,1,Z⟩=M (N mE f.num)/\w'.cell? ⟨wr.heap.size,2,Z⟩=M (aH DB)/\w'.cell? ⟨wr.heap.size,3,Z⟩=M (.bool f.last))/\Hid (∃af ap an,BI kb nb w cs vo os ((lJ fs i++(fs i).take (j+1)).foldl (Dv.frame most n) (lives nm os)) (lJ fs i++(fs i).take (j+1)).length w' af ap an):=λV hV=>by
      have Y:=ak.below hV;have ht:=take_any kb nb (cs.setIfInBounds 9 E) E aw ao f n most V Y.obj cd b7 Y.chs aj b0 ef;unfold KL at ht;rw[b9]at ht;refine ht.mono ?_;rintro e w' ⟨rfl,af,ap,an,c5,ed⟩
      have az:=Y.took c5 (l':=(lJ fs i++(fs i).take (j+1)).foldl (Dv.frame most n) (lives nm os)) (by
       rw[ed,Y.lives,take_snoc hf];simp only[List.foldl_append,List.foldl_cons,List.foldl_nil])
      have cz:=J.out.2.1 w' az.jR
      have qo:w'.heap[wr.heap.size]? =_:=(c5.jR.block wr.heap.size (aP ar hV.size) (by
       have qV:=(hV.block _ ar).trans ai;rintro(e|e)
       .have:=Y.obj;rw[<-e,qV]at this;simp at this
       .exact Y.chs.lF qV aB aB e)).trans ((hV.block _ ar).trans ai)
      refine⟨rfl,⟨by rw[aI cz.1];rfl,by rw[aI cz.2.1];rfl,?_,by rw[aI qo];rfl,by rw[aI qo];rfl,by rw[aI qo];rfl,by rw[aI qo];rfl⟩,af,ap,an,?_⟩
      .rw[aI az.obj,aV];simpa using J.out.2.2.2.2.2.2.1
      .have e1:(lJ fs i++(fs i).take (j+1)).length=(lJ fs i++(fs i).take j).length+1:=by
        rw[take_snoc hf];simp only[aS,iI];omega
       rw[e1];exact az
     have HS:Hid _:=hS;have a2:Hid _:=ac;clear hS ac b0 aj ak ae ai dh hk cd di b7;go_upto_region 10 with fail;rw[<-hX];clear hX k0 k1 k2 k3;have au:=aJ Wa.heap.size Wa;go_region_held3 (λV=>V.cell? ⟨b2,0,Z⟩=M (aM (M ⟨kb,0,Z⟩))/\V.cell? ⟨b4,0,Z⟩=M (N X n)/\V.cell? ⟨kb,6,Z⟩=M (N X most)/\V.cell? ⟨wr.heap.size,0,Z⟩=M (N dE f.chan)/\V.cell? ⟨wr.heap.size,1,Z⟩=M (N mE f.num)/\V.cell? ⟨wr.heap.size,2,Z⟩=M (aH DB)/\V.cell? ⟨wr.heap.size,3,Z⟩=M (.bool f.last)) (first|exact d0|(refine HS.out _ ?_;first|exact au|exact au.drew)) (first|(go_at_call 72;(refine aT (a2.out _ ?_) ?_;(first|exact au.drew|exact au);rintro e5 w5 ⟨rfl,d0,H5⟩)))
     all_goals
      go_wp2_with fail;go_roundg (X1-(j+1))
      case measure=>omega
      case rel=>
       obtain⟨af,ap,an,h3⟩:=H5.out;exact⟨j+1,af,ap,an,aA,by go_num,rfl,h3⟩
    .have dl:¬(j:Int)<X1:=by omega
     obtain rfl:j=X1:=aA
     go_wp2_with fail;go_roundg (m-(i+1))
     case measure=>omega
     case rel=>
      refine⟨i+1,E,aw,ao,aA,by go_num,rfl,?_⟩;have q:=HJ;rw[eH (by rw[HN.out.1];exact jE),<-x9]at q;exact q
  .have db:¬(i:Int)<m:=by omega
   obtain rfl:i=m:=aA
   go_wp2_with fail;exact J.out.2.2.2.2.2.1 _ _ _ _ _ _ _ _ _ _ _ _ _ _ _ _ _ _ _ _ _ _ _ _ _ _ _ _ _ HI.out
end Hm
