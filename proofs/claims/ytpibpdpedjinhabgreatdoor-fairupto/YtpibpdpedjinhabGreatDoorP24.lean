import Derived.Test.YtpibpdpedjinhabGreatDoorP23
set_option maxRecDepth 100000
set_option maxHeartbeats 8000000
set_option linter.all false
open Bool renaming false->aR,true->bB
open Go renaming Addr->fR,Calls->eL,Code->eN,Program->cU,Value->aD,World->X,bodyPost_ret->cN,heap_alloc_new->cY
open Go.Ending renaming returned->bX
open Go.Fence renaming wide->gL
open Go.IntKind renaming i64->aE
open Go.Obj renaming cells->aL,deferred->eA
open Go.Proofs.Tryz renaming results55->lO
open Go.RowKit renaming Below->cG,Hid->cJ
open Go.Value renaming agg->gR,bool->cM,int->N,pointer->aG,slice->aM,tuple->cP
open Option renaming none->Z,some->M
open Or renaming inl->bN,inr->cF
namespace Go.Proofs.YtpibpdpedjinhabGreatDoor
namespace Hm
open Go.RowKit Go.Joins Go.Shelf
open Fr (below_drewN)
open Dv (X2 Cf Ba)
section
variable {w:X}{kb nb cnt ep sq R:Nat}{vu vo vw v0 v1 v2 v3 v4 v5 v6 v7:aD}{us:List PB}{dl:Nat->List (List UInt8)}{ws:List PW}{ty:TypeId}
def loV(num:Nat)(time:Int)(ep:Nat)(id:Int)(sq:Nat)(vt z:aD)(at_:Nat):aD:=gR #[N aE num,N aE time,N aE ep,N aE id,N aE sq,vt,z,N aE at_]
def kG(cnt ep sq e:Nat):Nat:=if 0<cnt/\e=ep then sq+1 else 0
def rH.turn{c:Cf}(h:rH w kb c vu us dl nb vo vw ws cnt ep sq){w':X}{z J I:Nat}(hc:jI (λk=>k=kb) w w')(Y:w'.heap[kb]? =M (aL (jP c vu nb vo vw z J I) 100 (0,0))):rH w' kb c vu us dl nb vo vw ws z J I:=
 ⟨Y,h.upper.jM hc (λg E e=>jH h.upper h.obj aB (by rw[E,e])),h.wait.jM hc (λg E e=>jH h.wait h.obj aB (by rw[E,e])),λj p hp=>Row.jM (h.deps j p hp) hc (λg E e=>jH (h.deps j p hp) h.obj aB (by rw[E,e])),λp hp=>Row.jM (h.txs p hp) hc (λg E e=>jH (h.txs p hp) h.obj aB (by rw[E,e]))⟩
def rE(w:X)(R:Nat)(a b c d e f g h:aD):X:=(((((((w.setCell ⟨R,0,Z⟩ a).setCell ⟨R,1,Z⟩ b).setCell ⟨R,2,Z⟩ c).setCell ⟨R,3,Z⟩ d).setCell ⟨R,4,Z⟩ e).setCell ⟨R,5,Z⟩ f).setCell ⟨R,6,Z⟩ g).setCell ⟨R,7,Z⟩ h
def kZ(w:X)(R:Nat)(a b c d e f g h:aD):jI (λk=>k=R) w (rE w R a b c d e f g h):=
 (((((((jI.set w R 0 a).trans (jI.set _ R 1 b) (λ_ _ e=>e)).trans (jI.set _ R 2 c) (λ_ _ e=>e)).trans (jI.set _ R 3 d) (λ_ _ e=>e)).trans (jI.set _ R 4 e) (λ_ _ e=>e)).trans (jI.set _ R 5 f) (λ_ _ e=>e)).trans (jI.set _ R 6 g) (λ_ _ e=>e)).trans (jI.set _ R 7 h) (λ_ _ e=>e)
def DJ(h:w.heap[R]? =M (aL #[v0,v1,v2,v3,v4,v5,v6,v7] ty (0,0)))(a b c d e f g i:aD):(rE w R a b c d e f g i).heap[R]? =M (aL #[a,b,c,d,e,f,g,i] ty (0,0)):=by have:=jX (jX (jX (jX (jX (jX (jX (jX h 0 a) 1 b) 2 c) 3 d) 4 e) 5 f) 6 g) 7 i;simpa[rE]using this
def YU{V:X}{c:Cf}{lo:Nat}{vd:aD}{l:List (List UInt8)}(h:rH V kb c vu us dl nb vo vw ws cnt ep sq)(hm:Made V lo vd l){rc:Array aD}(hR:V.heap[R]? =M (aL rc 52 (0,0)))(x0 x1 x2 x3 x4 x5 x6 x7:aD):rH (rE (V.setCell ⟨kb,11,Z⟩ (N aE ((cnt:Int)+1))) R x0 x1 x2 x3 x4 x5 x6 x7) kb c vu us dl nb vo vw ws (cnt+1) ep sq/\Made (rE (V.setCell ⟨kb,11,Z⟩ (N aE ((cnt:Int)+1))) R x0 x1 x2 x3 x4 x5 x6 x7) lo vd l:=by
 have aa:kb≠R:=λe=>by have:=h.obj;rw[e,hR]at this;simp at this
 have E:=jI.set V kb 11 (N aE (cnt+1))
 have h1:rH (V.setCell ⟨kb,11,Z⟩ (N aE ((cnt:Int)+1))) kb c vu us dl nb vo vw ws (cnt+1) ep sq:=by
  refine h.turn E ?_;have:=jX h.obj 11 (N aE (cnt+1));simpa[jP]using this
 have Y:=hm.1.jM E (λg I e=>jH hm.1 h.obj aB (by rw[I,e]));have z:(V.setCell ⟨kb,11,Z⟩ (N aE ((cnt:Int)+1))).heap[R]? =M (aL rc 52 (0,0)):=(aW _ _ _ _ (λe=>aa e.symm)).trans hR;have J:=kZ (V.setCell ⟨kb,11,Z⟩ (N aE (cnt+1))) R x0 x1 x2 x3 x4 x5 x6 x7;refine⟨h1.jM J aa (λg I e=>jH h1.upper z aB (by rw[I,e])) (λg I e=>jH h1.wait z aB (by rw[I,e])) (λg cs fz ac e=>?_),Y.jM J (λg I e=>jH Y z aB (by rw[I,e])),hm.2⟩;rw[e,z]at ac;simp at ac
def lq{W:X}{b:Nat}(h:W.heap[b]? =M (aL #[v0,v1,v2,v3,v4,v5,v6,v7] ty (0,0))):W.cell? ⟨b,0,Z⟩=M v0/\W.cell? ⟨b,1,Z⟩=M v1/\W.cell? ⟨b,2,Z⟩=M v2/\W.cell? ⟨b,3,Z⟩=M v3/\W.cell? ⟨b,4,Z⟩=M v4/\W.cell? ⟨b,5,Z⟩=M v5/\W.cell? ⟨b,6,Z⟩=M v6/\W.cell? ⟨b,7,Z⟩=M v7/\(∀o,W.frozen? ⟨b,o,Z⟩=aR):=
 ⟨by rw[aI h];rfl,by rw[aI h];rfl,by rw[aI h];rfl,by rw[aI h];rfl,by rw[aI h];rfl,by rw[aI h];rfl,by rw[aI h];rfl,by rw[aI h];rfl,aQ h⟩
def JY(kb:Nat)(c:Cf)(vu:aD)(us:List PB)(dl:Nat->List (List UInt8))(nb:Nat)(vo vw:aD)(ws:List PW)(cnt ep sq e:Nat)(ta:Option fR)(tn tc:Nat)(w:X)(h:rH w kb c vu us dl nb vo vw ws cnt ep sq)(s:yS c us ws cnt ep)(he:e<us.length)(cb:sq<4294967296)(hdl:∀j,(dl j).length<=4294967296):
  eL PQ 85 #[aG (M ⟨kb,0,Z⟩),N aE e,.slice ta tn tc] w λx w'=>∃vd,x=bX (loV cnt (lW c us cnt) e (FQ us e) (kG cnt ep sq e) (.slice ta tn tc) vd (us.length-1))/\Made w' w.heap.size vd (if kG cnt ep sq e=0 then dl e else [])/\rH w' kb c vu us dl nb vo vw ws (cnt+1) e (kG cnt ep sq e)/\jI (λk=>k=kb) w w':=by
 obtain⟨W,hW,az,ro⟩:=jD w #[N aE 0,N aE 0,N aE 0,N aE 0,N aE 0,aM Z 0 0,aM Z 0 0,N aE 0] 52;have hD:=h.below az;have c11:W.cell? ⟨kb,11,Z⟩=M (N aE cnt):=mZ hD.obj rfl;have b1:W.cell? ⟨kb,12,Z⟩=M (N aE ep):=mZ hD.obj rfl;have a2:W.cell? ⟨kb,13,Z⟩=M (N aE sq):=mZ hD.obj rfl;have fk:=aQ hD.obj;obtain⟨q,hq⟩:∃q,kG cnt ep sq e=q:=⟨_,rfl⟩
 rw[hq];unfold kG at hq;obtain⟨ld,a5⟩:∃ld,(if q=0 then dl e else [])=ld:=⟨_,rfl⟩
 rw[a5];have bs:cJ _:=a5;clear a5;have H:cJ _:=jy hD (jy az (jy ro (jy s (jy hq hdl))));have ck:=s.cnt;have ce:=s.len;have cg:=(jE h.obj)
 clear hD az ro s hq h hdl;go_enter (fq Tryz.func85 rfl),Tryz.ntmps85;go_upto_region 1 with fail;rw[<-hW];clear hW;obtain⟨b,hb⟩:∃b,decide (0<cnt/\e=ep)=b:=⟨_,rfl⟩
 have Hb:cJ _:=hb;clear hb;go_cut [21] (λv wx=>v=cM b/\wx=W)
 case first=>
  by_cases h0:0<cnt
  .have b4:(0:Int)<(cnt:Int):=by omega
   by_cases h1:e=ep
   .have b6:((e:Int) == (ep:Int))=bB:=by rw[h1];simp
    have H1:cJ _:=jy h0 h1;clear h1 h0;go_wp2_with fail;go_meet;refine⟨?_,rfl⟩;rw[<-Hb.out,Z0 H1.out]
   .have b6:((e:Int) == (ep:Int))=aR:=ZS aA;have H1:cJ _:=h1;clear h1;go_wp2_with fail;go_meet;refine⟨?_,rfl⟩;rw[<-Hb.out,ZZ (λh=>H1.out h.2)]
  .have b4:¬(0:Int)<(cnt:Int):=by omega
   have H1:cJ _:=h0;clear h0;go_wp2_with fail;go_meet;refine⟨?_,rfl⟩;rw[<-Hb.out,ZZ (λh=>H1.out h.1)]
 case rest=>
  obtain⟨rfl,aw⟩:=hcut;have av:=aw.symm;clear aw;subst av;go_upto_if 21 with fail;go_cut [22] (λ_ wx=>cJ (rH wx kb c vu us dl nb vo vw ws cnt e q/\jI (λk=>k=kb) W wx))
  case first=>
   cases b
   .go_wp2_with fail;go_meet;obtain⟨hD,az,ro,s,hq,hdl⟩:=H.out;have Y:q=0:=by rw[<-hq,Zs (Ys Hb.out)]
    subst Y;have hc:jI (λk=>k=kb) W ((W.setCell ⟨kb,12,Z⟩ (N aE e)).setCell ⟨kb,13,Z⟩ (N aE 0)):=(jI.set _ kb 12 _).trans (jI.set _ kb 13 _) (λ_ _ e=>e);refine⟨hD.turn hc ?_,hc⟩;have:=jX (jX hD.obj 12 (N aE e)) 13 (N aE 0);simpa[jP]using this
   .go_wp2_with fail;go_meet;obtain⟨hD,az,ro,s,hq,hdl⟩:=H.out;obtain⟨b2,br⟩:=Z2 Hb.out;have Y:q=sq+1:=by rw[<-hq,ZD ⟨b2,br⟩]
    subst Y br;have hc:jI (λk=>k=kb) W (W.setCell ⟨kb,13,Z⟩ (N aE ((sq:Int)+1))):=jI.set _ kb 13 _;refine⟨hD.turn hc ?_,hc⟩;have:=jX hD.obj 13 (N aE (sq+1));simpa[jP]using this
  case rest=>
   obtain⟨Vc,bw⟩:∃V,V=wc:=⟨_,rfl⟩
   subst bw;clear c11 b1 a2 fk;obtain⟨an,ai⟩:=hcut.out;have E:Vc.heap[w.heap.size]? =_:=(ai.block _ (jE H.out.2.2.1) aA).trans H.out.2.2.1;obtain⟨g,off,cap,bd,cf⟩:=an.upper.pos aA;obtain⟨p,hp⟩:∃p,us[e]? =M p:=⟨_,aO he⟩
   obtain⟨da,ap,a8⟩:=Row.slice (an.deps e p hp);have ay:=an.upper.rd;rw[bd]at ay;have k0:Vc.cell? ⟨g,off+e*3,Z⟩=M (N aE p.1):=Rd.rec qE 3 (λ_=>rfl) ay hp (i:=0) (u:=.int _ _) aA rfl
   have k1:Vc.cell? ⟨g,off+e*3+1,Z⟩=M (N aE p.2.1):=by
    have:=Rd.rec qE 3 (λ_=>rfl) ay hp (i:=1) (u:=.int _ _) aA rfl;rw[<-dV]at this;exact this
   have k2:Vc.cell? ⟨g,off+e*3+2,Z⟩=M (.slice da (dl e).length ap):=by
    have:=Rd.rec qE 3 (λ_=>rfl) ay hp (i:=2) (u:=.slice da (dl e).length ap) aA (by rw[<-a8];rfl);rw[<-dV]at this;exact this
   have c7:Vc.cell? ⟨kb,7,Z⟩=M (aM (M ⟨g,off,Z⟩) us.length cap):=by rw[aI an.obj,<-bd];rfl
   have cc:(e:Int)<us.length:=aA
   obtain⟨Wd,hX,ae,uo⟩:=jD Vc #[N aE p.1,N aE p.2.1,.slice da (dl e).length ap] 102;have z:=an.below ae;have bl:yS c us ws cnt e:=⟨H.out.2.2.2.1.times,H.out.2.2.2.1.step,H.out.2.2.2.1.drift,H.out.2.2.2.1.window,H.out.2.2.2.1.cnt,H.out.2.2.2.1.len,H.out.2.2.2.1.wlen,he,H.out.2.2.2.1.batch⟩
   have a7:=z.look bl;have a9:=λV hV=>Ej kb c us cnt e V (a7.below hV) aA;have bb:=λV hV=>wQ kb c us cnt e V (a7.below hV) aA;obtain⟨t,ht⟩:∃t,lW c us cnt=t:=⟨_,rfl⟩
   obtain⟨nn,ah⟩:∃nn,us.length-1=nn:=⟨_,rfl⟩
   have hI:=Hu hp;obtain⟨pi,bp⟩:∃x,p.1=x:=⟨_,rfl⟩
   rw[ht]at a9;rw[ah]at bb;rw[bp]at hI uo hX k0;have bh:Wd.cell? ⟨kb,11,Z⟩=M (N aE cnt):=mZ z.obj rfl;have bg:Wd.cell? ⟨kb,13,Z⟩=M (N aE q):=mZ z.obj rfl;have u0:=kJ uo;have bk:=(jE uo)
   have bj:=(jE z.obj)
   have b0:cJ _:=a9;have b3:cJ _:=bb;have ac:kQ Wd (.slice da (dl e).length ap) (dl e):=by have:=z.deps e p hp;rw[a8]at this;exact this
   have H2:cJ _:=jy z (jy uo (jy ac (jy ae (jy E (jy ai (jy hp (jy hI (jy ht ah))))))));clear ac an ai E ay hp a8 bd z bl a7 a9 bb uo ae hI ht ah bp hcut;go_upto_region 5 with fail;rw[<-hX];clear hX k0 k1 k2 c7;have aa:=aJ Wd.heap.size Wd;have hS:∀V,cG Wd.heap.size Wd V->V.cell? ⟨kb,11,Z⟩=M (N aE cnt)/\V.cell? ⟨kb,13,Z⟩=M (N aE q)/\V.cell? ⟨Vc.heap.size,0,Z⟩=M (N aE pi):=λV hV=>⟨(hV.cell (p:=⟨kb,11,Z⟩) bj).trans bh,(hV.cell (p:=⟨kb,13,Z⟩) bj).trans bg,(hV.cell (p:=⟨_,0,Z⟩) bk).trans u0⟩
   have HS:cJ _:=hS;clear hS;go_cut [8] (λv wx=>cJ (v=aG (M ⟨Wd.heap.size,0,Z⟩)/\wx.heap[Wd.heap.size]? =M (aL #[N aE cnt,N aE t,N aE e,N aE pi,N aE q,.slice ta tn tc,aM Z 0 0,N aE nn] 52 (0,0))/\cG Wd.heap.size Wd wx))
   case first=>
    go_region_held3 (λV=>V.cell? ⟨kb,11,Z⟩=M (N aE cnt)/\V.cell? ⟨kb,13,Z⟩=M (N aE q)/\V.cell? ⟨Vc.heap.size,0,Z⟩=M (N aE pi))
     ((refine HS.out _ ?_;(repeat (with_reducible refine Below.setCell ?_ (p:=_) (by first|exact jB|exact J.size|exact I.size) _));first|exact I|exact I.alloc I.size _|exact J|exact J.alloc J.size _|exact aa.drew|exact(aa.drew.alloc jB _)|exact(aa.alloc jB _).drew))
     (first|(go_at_call 127;(refine aT (b0.out _ ?_) ?_;(first|exact aa.drew|exact aa.drew.alloc jB _|exact(aa.alloc jB _).drew);rintro e5 w5 ⟨rfl,m5,ar⟩;have J:cG Wd.heap.size Wd w5:=(by rw[ar];first|exact below_drewN aa.drew _|exact below_drewN (aa.drew.alloc jB _) _|exact below_drewN (aa.alloc jB _).drew _);(first|(have bm:w5.heap.size=Wd.heap.size:=(by rw[ar];rfl))|(have bn:w5.heap[Wd.heap.size]? =M (aL #[N aE 0,N aE 0,N aE 0,N aE 0,N aE 0,aM Z 0 0,aM Z 0 0,N aE 0] 52 (0,0)):=(by rw[ar];exact cY _ _);obtain⟨y0,y1,y2,y3,y4,y5,y6,y7,yf⟩:=lq bn));have cl:cJ _:=ar;clear ar))|(go_at_call 87;(refine aT (b3.out _ ?_) ?_;(first|exact J|exact J.alloc J.size _);rintro e6 w6 ⟨rfl,m6,aj⟩;have I:cG Wd.heap.size Wd w6:=(by rw[aj];first|exact below_drewN J _|exact below_drewN (J.alloc J.size _) _);(first|(have aq:w6.heap[Wd.heap.size]? =M (aL #[N aE 0,N aE 0,N aE 0,N aE 0,N aE 0,aM Z 0 0,aM Z 0 0,N aE 0] 52 (0,0)):=(by rw[aj];exact bn);obtain⟨x0,x1,x2,x3,x4,x5,x6,x7,xf⟩:=lq aq)|(have aq:w6.heap[Wd.heap.size]? =M (aL #[N aE 0,N aE 0,N aE 0,N aE 0,N aE 0,aM Z 0 0,aM Z 0 0,N aE 0] 52 (0,0)):=(by rw[aj,<-bm];exact cY _ _);obtain⟨x0,x1,x2,x3,x4,x5,x6,x7,xf⟩:=lq aq)|(have bz:w6.heap.size=Wd.heap.size:=(by rw[aj];exact bm)));have cj:cJ _:=aj;clear aj))|fail)
    .go_wp2_with fail;go_meet;exact⟨rfl,by rw[<-bz];exact cY _ _,I.alloc I.size _⟩
    .go_wp2_with fail;go_meet;exact⟨rfl,DJ aq _ _ _ _ _ _ _ _,I.trans ⟨(kZ w6 _ _ _ _ _ _ _ _ _).os,(kZ w6 _ _ _ _ _ _ _ _ _).tape,(kZ w6 _ _ _ _ _ _ _ _ _).output,(kZ w6 _ _ _ _ _ _ _ _ _).size,λk hk=>(kZ w6 _ _ _ _ _ _ _ _ _).block k (aP hk I.size) (iM hk)⟩⟩
    .go_wp2_with fail;go_meet;exact⟨rfl,DJ aq _ _ _ _ _ _ _ _,I.trans ⟨(kZ w6 _ _ _ _ _ _ _ _ _).os,(kZ w6 _ _ _ _ _ _ _ _ _).tape,(kZ w6 _ _ _ _ _ _ _ _ _).output,(kZ w6 _ _ _ _ _ _ _ _ _).size,λk hk=>(kZ w6 _ _ _ _ _ _ _ _ _).block k (aP hk I.size) (iM hk)⟩⟩
   case rest=>
    obtain⟨rfl,a6,am⟩:=hcut.out;clear bh bg u0;obtain⟨c11,a2,_⟩:=HS.out wc am;have u2:wc.cell? ⟨Vc.heap.size,2,Z⟩=M (.slice da (dl e).length ap):=(am.cell (p:=⟨Vc.heap.size,2,Z⟩) bk).trans (by rw[aI H2.out.2.1];rfl);obtain⟨l0,l1,l2,l3,l4,l5,l6,l7,lf⟩:=lq a6;have b9:=am;have HC:cJ _:=OQ _ _ wc (Row.below H2.out.2.2.1 am) (H.out.2.2.2.2.2 e);have HL:cJ _:=jy a6 am;clear a6 am hcut;obtain⟨bq,bu⟩:∃b,decide (q=0)=b:=⟨_,rfl⟩
    have Hq:cJ _:=bu;clear bu;obtain⟨Wc,bv⟩:∃V,V=wc:=⟨_,rfl⟩
    subst bv;go_upto_region 6 with fail;go_cut [64] (λv wx=>v=.bool bq/\wx=Wc)
    case first=>
     by_cases Y:q=0
     .have b5:((q:Int) == 0)=bB:=by rw[Y];rfl
      have ba:cJ _:=Y;clear Y;go_wp2_with fail;go_meet;refine⟨?_,rfl⟩;rw[<-Hq.out,Z0 ba.out]
     .have b5:((q:Int) == 0)=aR:=ZS aA;have ba:cJ _:=Y;clear Y;go_wp2_with fail;go_meet;refine⟨?_,rfl⟩;rw[<-Hq.out,ZZ ba.out]
    case rest=>
     obtain⟨rfl,aw⟩:=hcut;have av:=aw.symm;clear aw;subst av;go_upto_if 64 with fail;go_cut [8] (λv wx=>cJ (∃va vn vc,v=aG (M ⟨Wd.heap.size,0,Z⟩)/\wx.heap[Wd.heap.size]? =M (aL #[N aE cnt,N aE t,N aE e,N aE pi,N aE q,.slice ta tn tc,.slice va vn vc,N aE nn] 52 (0,0))/\Made wx Wd.heap.size (.slice va vn vc) ld/\cG Wd.heap.size Wd wx))
     case first=>
      cases bq
      .go_wp2_with fail;go_meet;refine⟨Z,0,0,rfl,HL.out.1,?_,HL.out.2⟩;rw[<-bs.out,Zs (Ys Hq.out)];exact⟨Row.nil _ _ _,by simp[Value.ownBlock]⟩
      .go_wp2_with (first|(go_at_call 47;refine aT HC.out ?_;rintro e7 w7 ⟨va,vc,rfl,ak,a0⟩;have ao:=(a0.block _ (jE HL.out.1)).trans HL.out.1;obtain⟨k0,k1,k2,k3,k4,k5,k6,k7,kf⟩:=lq ao;have HM:cJ _:=jy ak (jy a0 ao);clear ak a0 ao)|fail)
       go_meet;obtain⟨ak,a0,ao⟩:=HM.out;refine⟨va,(dl e).length,vc,rfl,?_,?_,?_⟩
       .have:=jX ao 6 (.slice va (dl e).length vc);simpa using this
       .rw[<-bs.out,ZD (Z2 Hq.out)];exact⟨ak.1.jM (jI.set _ _ 6 _) (λg hg e=>jH ak.1 ao aB (by rw[hg,e])),λg hg=>bH HL.out.2.size (ak.2 g hg)⟩
       .exact(HL.out.2.trans (a0.mono HL.out.2.size)).setCell jB _
     case rest=>
      obtain⟨va,vn,vc,rfl,a1,a3,ag⟩:=hcut.out;clear hcut c11 a2 u2 l0 l1 l2 l3 l4 l5 l6 l7 lf;obtain⟨c11,a2,_⟩:=HS.out wc ag;obtain⟨l0,l1,l2,l3,l4,l5,l6,l7,lf⟩:=lq a1;obtain⟨z,uo,ac,ae,E,ai,hp,hI,ht,ah⟩:=H2.out;have b8:=(jE E)
      have a4:Wd.heap[w.heap.size]? =_:=(ae.block _ b8).trans E;have af:wc.heap[w.heap.size]? =_:=(ag.block _ aA).trans a4;obtain⟨r0,r1,r2,r3,r4,r5,r6,r7,rf⟩:=lq af;have au:=z.below ag;have fk:=aQ au.obj;have H8:cJ _:=jy au (jy a3 (jy ag (jy af a1)));have ci:kb≠w.heap.size:=aA
      have ca:kb≠Wd.heap.size:=aA
      have cd:w.heap.size≠Wd.heap.size:=aA
      clear a1 a3 ag af a4 au z uo ac ae E ai hp hI ht ah;go_wp2_with fail;obtain⟨au,a3,ag,af,a1⟩:=H8.out;obtain⟨z,uo,ac,ae,E,ai,hp,hI,ht,ah⟩:=H2.out;obtain⟨b7,bo⟩:=YU au a3 af (N aE cnt) (N aE t) (N aE e) (N aE pi) (N aE q) (.slice ta tn tc) (.slice va vn vc) (N aE nn);refine cN (v:=gR #[N aE cnt,N aE t,N aE e,N aE pi,N aE q,.slice ta tn tc,.slice va vn vc,N aE nn]) (by simp[results,Tryz.results85,go_sem,r0,r1,r2,r3,r4,r5,r6,r7]) rfl ⟨_,?_,⟨bo.1,λg hg=>bH aA (bo.2 g hg)⟩,b7,?_⟩
      .rw[ht,hI,ah];rfl
      .exact((((((jI.below H.out.2.1 jB _).trans ai (λ_ _ e=>e)).trans (jI.below ae jB _) (λ_ _ e=>e)).trans (jI.below ag jB _) (λ_ _ e=>e)).trans (jI.set _ kb 11 _) (λ_ _ e=>e)).trans (kZ _ _ _ _ _ _ _ _ _ _) (λk hk e=>aA))
end
section
variable {c:Cf}{us:List PB}{ws ws':List PW}{cnt ep kb nb sq R:Nat}{V w:X}{vu vo vw vw':aD}{dl:Nat->List (List UInt8)}{rc:Array aD}
def qw(V:PW->Nat):∀l:List PW,((pick V l).1=(0,Z)\/(pick V l).1=(2,Z)\/∃b,b∈l/\(pick V l).1=(3,M b))/\(∀p,p∈(pick V l).2->p∈l)/\(pick V l).2.length<=l.length
 |[]=>⟨bN rfl,λ_ h=>h,jB⟩
 |b::r=>by
  obtain⟨E,h2,h3⟩:=qw V r;unfold pick;split
  .refine⟨?_,?_,aF⟩
   .obtain h|h|⟨x,z,h⟩:=E
    .exact bN h
    .exact cF (bN h)
    .exact cF (cF ⟨x,cZ _ z,h⟩)
   .intro p hp;obtain e|h:=dD.1 hp
    .rw[e];exact dQ
    .exact cZ _ (h2 p h)
  .split
   .exact⟨cF (bN rfl),λ_ h=>h,jB⟩
   .split
    .exact⟨cF (cF ⟨b,dQ,rfl⟩),λp h=>cZ _ h,aC⟩
    .refine⟨?_,λp h=>cZ _ (h2 p h),aF⟩;obtain h|h|⟨x,z,h⟩:=E
     .exact bN h
     .exact cF (bN h)
     .exact cF (cF ⟨x,cZ _ z,h⟩)
def yS.sub(s:yS c us ws cnt ep)(h:∀p,p∈ws'->p∈ws)(z:ws'.length<=ws.length):yS c us ws' cnt ep:=
 ⟨s.times,s.step,s.drift,s.window,s.cnt,s.len,bH z s.wlen,s.ep,λp hp=>s.batch p (h p hp)⟩
def jO(c:Cf)(us:List PB)(ws:List PW)(cnt ep:Nat):Option (Nat×Option PW)×List PW:=
 if us.length=0 then(Z,ws)else if cnt=0 then(M (0,Z),ws)else
  match (pick (judged c us cnt ep) ws).1.2 with
  |some b=>(M (b.1.epoch,M b),(pick (judged c us cnt ep) ws).2)
  |none=>if (pick (judged c us cnt ep) ws).1.1≠2/\(ep:Int)+c.window<((us.length-1:Nat):Int)then(M (alone c us cnt ep,Z),(pick (judged c us cnt ep) ws).2)else(Z,(pick (judged c us cnt ep) ws).2)
def txV:Option PW->aD
 |some b=>b.2
 |none=>aM Z 0 0
def lo0:aD:=gR #[N aE 0,N aE 0,N aE 0,N aE 0,N aE 0,aM Z 0 0,aM Z 0 0,N aE 0]
def Dj(w:X)(kb:Nat)(c:Cf)(vu:aD)(us:List PB)(dl:Nat->List (List UInt8))(nb:Nat)(vo vw:aD)(cnt ep sq:Nat)(r:Option (Nat×Option PW)×List PW)(x:Ending)(w':X):Prop:=
 (match r.1 with
  |none=>x=bX (cP #[lo0,cM aR])/\∃vw',rH w' kb c vu us dl nb vo vw' r.2 cnt ep sq/\∀g,vw'.ownBlock=M g->vw.ownBlock=M g
  |some o=>o.1<us.length/\∃z,x=bX (cP #[loV cnt (lW c us cnt) o.1 (FQ us o.1) (kG cnt ep sq o.1) (txV o.2) z (us.length-1),cM bB])/\Made w' w.heap.size z (if kG cnt ep sq o.1=0 then dl o.1 else [])/\(∀b,o.2=M b->kQ w' b.2 b.1.txs)/\∃vw',rH w' kb c vu us dl nb vo vw' r.2 (cnt+1) o.1 (kG cnt ep sq o.1)/\∀g,vw'.ownBlock=M g->vw.ownBlock=M g)
 /\jI (λk=>k=kb\/vw.ownBlock=M k) w w'
def Bl(h:rH V kb c vu us dl nb vo vw ws cnt ep sq)(E:V.heap[R]? =M (aL rc 52 (0,0)))(Y x1 x2 x3 x4 x5 x6 x7:aD):rH (rE V R Y x1 x2 x3 x4 x5 x6 x7) kb c vu us dl nb vo vw ws cnt ep sq:=by
 have I:kb≠R:=λe=>by have:=h.obj;rw[e,E]at this;simp at this
 refine h.jM (kZ V R Y x1 x2 x3 x4 x5 x6 x7) I (λg J e=>jH h.upper E aB (by rw[J,e])) (λg J e=>jH h.wait E aB (by rw[J,e])) (λg cs fz z e=>?_);rw[e,E]at z;simp at z
def DR{v:aD}{n:Nat}{l:List aD}(E:Row V 9 1 v n l)(hR:V.heap[R]? =M (aL rc 52 (0,0)))(z Y x2 x3 I x5 J x7:aD):Row (rE V R z Y x2 x3 I x5 J x7) 9 1 v n l:=
 E.jM (kZ V R z Y x2 x3 I x5 J x7) (λg hg e=>jH E hR aB (by rw[hg,e]))
def wK{z:X}{e:Nat}{ob:Option PW}{vd:aD}
  (hr:jO c us ws cnt ep=(M (e,ob),ws')) (he:e<us.length) (hm:Made z V.heap.size vd (if kG cnt ep sq e=0 then dl e else [])) (ac:w.heap.size<=V.heap.size) (ht:∀b,ob=M b->kQ V b.2 b.1.txs) (J:∃cs,V.heap[kb]? =M (aL cs 100 (0,0)))
  (hD:rH z kb c vu us dl nb vo vw' ws' (cnt+1) e (kG cnt ep sq e)) (E:∀g,vw'.ownBlock=M g->vw.ownBlock=M g) (Y:jI (λk=>k=kb\/vw.ownBlock=M k) w V) (hc:jI (λk=>k=kb) V z) (hR:z.heap[w.heap.size]? =M (aL rc 52 (0,0))) (x0 x1 x2 x3 x4 x5 x6 x7:aD) {x:Ending} (hx:x=bX (cP #[loV cnt (lW c us cnt) e (FQ us e) (kG cnt ep sq e) (txV ob) vd (us.length-1),cM bB])):
  Dj w kb c vu us dl nb vo vw cnt ep sq (jO c us ws cnt ep) x (rE z w.heap.size x0 x1 x2 x3 x4 x5 x6 x7):=by
 rw[hr];obtain⟨cs,aa⟩:=J;refine⟨⟨he,vd,hx,⟨DR hm.1 hR _ _ _ _ _ _ _ _,λg I=>bH ac (hm.2 g I)⟩,λb hb=>?_,vw',Bl hD hR _ _ _ _ _ _ _ _,E⟩,(Y.trans hc (λ_ _ e=>bN e)).trans (kZ z _ _ _ _ _ _ _ _ _) (λk hk e=>aA)⟩;have h1:=Row.jM (ht b hb) hc (λg I e=>jH (ht b hb) aa aB (by rw[I,e]));exact DR h1 hR _ _ _ _ _ _ _ _
def yB(hr:jO c us ws cnt ep=(Z,ws'))(hD:rH V kb c vu us dl nb vo vw' ws' cnt ep sq)(z:∀g,vw'.ownBlock=M g->vw.ownBlock=M g)(E:jI (λk=>k=kb\/vw.ownBlock=M k) w V)(J:V.heap[w.heap.size]? =M (aL rc 52 (0,0)))(I x1 x2 x3 Y x5 x6 x7:aD):Dj w kb c vu us dl nb vo vw cnt ep sq (jO c us ws cnt ep) (bX (cP #[lo0,cM aR])) (rE V w.heap.size I x1 x2 x3 Y x5 x6 x7):=by
 rw[hr];exact⟨⟨rfl,vw',Bl hD J _ _ _ _ _ _ _ _,z⟩,E.trans (kZ V _ _ _ _ _ _ _ _ _) (λk hk e=>aA)⟩
end
section
variable {c:Cf}{us:List PB}{ws:List PW}{cnt ep e:Nat}
def Fq(c:Cf)(us:List PB)(cnt:Nat):lW c us (cnt+1)=lW c us cnt+c.step:=by
 unfold lW
 grind
def yS.Yx(s:yS c us ws cnt ep)(z:e<us.length):Ag us e<=4294967296:=by rw[uT (aO z)];exact(s.times _ (List.getElem_mem z)).2
def Dw{V:PW->Nat}{b:PW}:∀{l:List PW},(pick V l).1=(3,M b)->V b=3/\b∈l/\(pick V l).2.length<l.length
 |[],h=>by simp[pick]at h
 |x::r,h=>by
  unfold pick at h⊢;split at h
  .rename_i I;rw[ZD I];obtain⟨J,h2,h3⟩:=Dw (l:=r) h
   grind
  .rename_i I;rw[Zs I];split at h
   .cases h
   .rename_i E;rw[Zs E];split at h
    .grind
    .rename_i z;rw[Zs z];obtain⟨J,h2,h3⟩:=Dw (l:=r) h
     grind
def EW{b:Ba}{k:Nat}(h:verdict c us cnt ep b k=3):b.epoch=ep\/b.epoch=ep+1:=by
 unfold verdict at h;split at h
 .cases h
 .split at h
  .cases h
  .rename_i z;unfold outside at z
   grind
def meas(c:Cf)(us:List PB)(ws:List PW)(cnt ep:Nat):Nat:=ws.length+(us.length-ep)+((4294967298-lW c us cnt)/2).toNat
def SS{ws':List PW}{ob:Option PW}(s:yS c us ws cnt ep)(ae:2<=c.step)(hz:cnt=0->ep=0)(h:jO c us ws cnt ep=(M (e,ob),ws')):meas c us ws' (cnt+1) e<meas c us ws cnt ep/\ep<=e/\e<us.length:=by
 have af:=s.ep;have aa:=s.window;unfold jO at h;rw[Zs aA]at h;unfold meas;rw[Fq];obtain⟨t,ht⟩:∃t,lW c us cnt=t:=⟨_,rfl⟩
 obtain⟨z,R,ac⟩:=qw (judged c us cnt ep) ws;split at h
 .rename_i E;cases h;have h0:=hz E;have:=s.Yx (e:=0) aA
  have ah:lW c us cnt=Ag us 0:=by
   unfold lW Ag;rw[E];simp
  omega
 .split at h
  .rename_i b Y;obtain z|z|⟨b',ag,z⟩:=z
   .grind
   .grind
   .rw[z]at Y;cases Y;obtain⟨h1,h2,h3⟩:=Dw z;have h4:=EW h1;have h5:=(s.batch _ h2).1
    grind
  .split at h
   .rename_i J;cases h;have I:ep+1<us.length:=by omega
    have:=s.Yx I;unfold alone
    grind
   .cases h
end
section
variable {c:Cf}{us:List PB}{ws rs:List PW}{cnt ep n:Nat}
def Jv{b:PW}(E:us.length≠0)(hc:cnt≠0)(z:(pick (judged c us cnt ep) ws).1=(n,M b))(h2:(pick (judged c us cnt ep) ws).2=rs):jO c us ws cnt ep=(M (b.1.epoch,M b),rs):=by unfold jO;rw[Zs E,Zs hc,z,h2]
def Dz(E:us.length≠0)(hc:cnt≠0)(z:(pick (judged c us cnt ep) ws).1=(n,Z))(h2:(pick (judged c us cnt ep) ws).2=rs)(h:n≠2/\(ep:Int)+c.window<((us.length-1:Nat):Int)):jO c us ws cnt ep=(M (alone c us cnt ep,Z),rs):=by unfold jO;rw[Zs E,Zs hc,z,h2];dsimp only;rw[ZD h]
def vV(E:us.length≠0)(hc:cnt≠0)(z:(pick (judged c us cnt ep) ws).1=(n,Z))(h2:(pick (judged c us cnt ep) ws).2=rs)(h:¬(n≠2/\(ep:Int)+c.window<((us.length-1:Nat):Int))):jO c us ws cnt ep=(Z,rs):=by unfold jO;rw[Zs E,Zs hc,z,h2];dsimp only;rw[Zs h]
def sG{w:X}{lo:Nat}{v:aD}{l:List (List UInt8)}(h:Made w lo v l):∃a n c,v=.slice a n c:=by obtain⟨a,c,e⟩:=Row.slice h.1;exact⟨a,_,c,e⟩
def Fa(kb:Nat)(c:Cf)(vu:aD)(us:List PB)(dl:Nat->List (List UInt8))(nb:Nat)(vo vw:aD)(ws:List PW)(cnt ep sq:Nat)(w:X)(h:rH w kb c vu us dl nb vo vw ws cnt ep sq)(s:0<us.length->yS c us ws cnt ep)(bm:sq<4294967296)(hdl:∀j,(dl j).length<=4294967296):eL PQ 55 #[aG (M ⟨kb,0,Z⟩)] w (Dj w kb c vu us dl nb vo vw cnt ep sq (jO c us ws cnt ep)):=by
 obtain⟨W,hW,au,ro⟩:=jD w #[N aE 0,N aE 0,N aE 0,N aE 0,N aE 0,aM Z 0 0,aM Z 0 0,N aE 0] 52;have hD:=h.below au;obtain⟨ua,bu,az⟩:=hD.upper.slice;have c7:W.cell? ⟨kb,7,Z⟩=M (.slice ua us.length bu):=by rw[aI hD.obj,<-az];rfl
 have c11:W.cell? ⟨kb,11,Z⟩=M (N aE cnt):=mZ hD.obj rfl;have b8:=(jE h.obj)
 have a3:=(jE ro)
 have I:jI (λk=>k=kb\/vw.ownBlock=M k) w W:=.below au jB _;by_cases hu:us.length=0
 .have bz:((us.length:Int) == 0)=bB:=by rw[hu];rfl
  obtain⟨r0,r1,r2,r3,r4,r5,r6,r7,rf⟩:=lq ro;have hp:jO c us ws cnt ep=(Z,ws):=by unfold jO;rw[ZD hu]
  have H:cJ _:=jy hD (jy I (jy ro hp));clear h hD I hp s az au ro hu;go_enter (fq Tryz.func55 rfl),Tryz.ntmps55;go_upto_region 1 with fail;rw[<-hW];clear hW;go_wp2_with fail;obtain⟨hD,I,ro,hp⟩:=H.out;refine cN (v:=cP #[gR #[N aE 0,N aE 0,N aE 0,N aE 0,N aE 0,aM Z 0 0,aM Z 0 0,N aE 0],cM aR]) (by simp[results,lO,go_sem,r0,r1,r2,r3,r4,r5,r6,r7]) rfl ?_;exact yB hp hD (λ_ hg=>hg) I ro _ _ _ _ _ _ _ _
 .have bz:((us.length:Int) == 0)=aR:=ZS aA;have s:=s aA;obtain⟨nn,z⟩:∃nn,us.length-1=nn:=⟨_,rfl⟩
  by_cases hc:cnt=0
  .have bw:((cnt:Int) == 0)=bB:=by rw[hc];rfl
   have hp:jO c us ws cnt ep=(M (0,Z),ws):=by unfold jO;rw[Zs hu,ZD hc]
   have hd:eL PQ 85 #[aG (M ⟨kb,0,Z⟩),N aE 0,aM Z 0 0] W _:=JY kb c vu us dl nb vo vw ws cnt ep sq 0 Z 0 0 W hD s aA bm hdl;rw[z]at hd;have Hd:cJ _:=hd;have H:cJ _:=jy hD (jy I (jy ro (jy hp z)));have b1:0<us.length:=aA
   clear h hD I hp s az au ro hd z hc hu;go_enter (fq Tryz.func55 rfl),Tryz.ntmps55;go_upto_region 1 with fail;rw[<-hW];clear hW;go_wp2_with (first|(go_at_call 85;refine aT Hd.out ?_;rintro x2 w2 ⟨vd,rfl,ac,ai,ae⟩;obtain⟨va,vn,vc,rfl⟩:=sG ac;have aa:=(ae.block _ a3 aA).trans H.out.2.2.1;obtain⟨r0,r1,r2,r3,r4,r5,r6,r7,rf⟩:=lq aa;have H2:cJ _:=jy ac (jy ai (jy ae aa));clear ac ai ae aa;unfold loV)|fail)
   obtain⟨hD,I,ro,hp,z⟩:=H.out;obtain⟨ac,ai,ae,aa⟩:=H2.out;refine cN (v:=cP #[gR #[N aE cnt,N aE (lW c us cnt),N aE 0,N aE (FQ us 0),N aE (kG cnt ep sq 0),aM Z 0 0,.slice va vn vc,N aE nn],cM bB]) (by simp[results,lO,go_sem,r0,r1,r2,r3,r4,r5,r6,r7]) rfl ?_;exact wK hp b1 ac (jo a3) (λb hb=>by simp at hb) ⟨_,hD.obj⟩ ai (λ_ hg=>hg) I ae aa _ _ _ _ _ _ _ _ (by rw[z];rfl)
  .have bw:((cnt:Int) == 0)=aR:=ZS aA;obtain⟨aj,am,a4⟩:=qw (judged c us cnt ep) ws;obtain⟨rs,ap⟩:∃rs,(pick (judged c us cnt ep) ws).2=rs:=⟨_,rfl⟩
   have ag:=PV kb c vu us dl nb vo vw ws cnt ep sq W hD s;rw[ap]at ag am a4;have s2:=s.sub am a4;have bj:=jH hD.wait ro aB;have a6:=λV vw' hV e he ta (tn tc:Nat)=>JY kb c vu us dl nb vo vw' rs cnt ep sq e ta tn tc V hV s2 he bm hdl;rw[z]at a6;have bn:cJ _:=a6;have b9:=s.len;obtain aj|aj|⟨b,hb,aj⟩:=aj
   .obtain⟨b3,b6⟩:=s.window;have b5:=s.ep;have hs:=s2;rw[aj]at ag;have ar:=λV hV=>wQ kb c us cnt ep V hV aA;rw[z]at ar;have bg:cJ _:=ar;clear ar;by_cases hw:(ep:Int)+c.window<(nn:Int)
    case' neg=>
     have ao:=vV hu hc aj ap (λh=>hw (by rw[<-z];exact h.2))
    case' pos=>
     have ao:=Dz hu hc aj ap ⟨aB,by rw[z];exact hw⟩;have br:ep+1<us.length:=aA
     obtain⟨al,bb⟩:∃al,alone c us cnt ep=al:=⟨_,rfl⟩
     have ba:al<us.length:=by rw[<-bb];unfold alone;split<;>omega
     have a2:=λV hV=>yD kb c us cnt ep V hV br;rw[bb]at ao a2;have bq:cJ _:=a2;clear a2 bb
    all_goals
     unfold yK at ag;dsimp only at ag;have a5:cJ _:=ag;have H:cJ _:=jy hD (jy I (jy ro (jy ao (jy z hs))));clear h hD I ao s s2 hs az au ro a6 ag z hc hu aj am a4 ap;go_enter (fq Tryz.func55 rfl),Tryz.ntmps55;go_upto_region 1 with fail;rw[<-hW];clear hW;go_upto_region 8 with(first|(go_at_call 86;refine aT a5.out ?_;rintro x1 w1 ⟨rfl,a8,af,E,J⟩;have R:=(J.block _ a3 (by rintro(e|e);omega;exact bj e)).trans H.out.2.2.1;have a1:=(jE R);have H1:cJ _:=jy af (jy E (jy J R));clear af E J R)|fail)
     generalize hV:World.alloc _ _=V;have an:cG w1.heap.size w1 V:=by rw[<-hV];exact(aJ _ _).alloc jB _
     obtain⟨hD,I,ro,hp,z,hs⟩:=H.out;obtain⟨af,E,J,R⟩:=H1.out;have ah:=(an.block _ a1).trans R;have Y:=af.below an;have ak:=(I.trans J (λ_ _ e=>e)).trans (.below an jB _) (λ_ _ e=>e);have a9:=(jE ah)
     have b2:V.cell? ⟨kb,12,Z⟩=M (N aE ep):=mZ Y.obj rfl;have c3:V.cell? ⟨kb,3,Z⟩=M (N aE c.window):=mZ Y.obj rfl;have a7:=Y.look hs;have av:=λm=>bg.out _ (a7.below (below_drewN (aJ _ _) m))
    .have bl:=λV' b0=>bq.out V' (a7.below b0);have a0:cJ _:=av;have b4:cJ _:=bl;have HV:cJ _:=jy Y (jy ak (jy ah (jy hp (jy E z))));clear hV an hD I ro hp z hs af E J R ah Y ak a7 av bl;go_quiet ((go_at_call 87;exact Calls.quiet_of (a0.out _)));go_wp2_with (first|(go_at_call 88;refine aT (b4.out _ (below_drewN (aJ _ _) _)) ?_;rintro x3 w3 ⟨rfl,m3,bp⟩;have ay:cG V.heap.size V w3:=(by rw[bp];exact below_drewN (below_drewN (aJ _ _) _) _);clear bp)|(go_at_call 85;refine aT (bn.out w3 a8 (HV.out.1.below ay) al ba Z 0 0) ?_;rintro x2 w2 ⟨vd,rfl,ac,ai,ae⟩;obtain⟨va,vn,vc,rfl⟩:=sG ac;have aa:=(ae.block _ (aP a9 ay.size) aA).trans ((ay.block _ a9).trans HV.out.2.2.1);obtain⟨r0,r1,r2,r3,r4,r5,r6,r7,rf⟩:=lq aa;have H2:cJ _:=jy ac (jy ai (jy ae aa));clear ac ai ae aa;unfold loV)|fail)
     obtain⟨Y,ak,ah,hp,E,z⟩:=HV.out;obtain⟨ac,ai,ae,aa⟩:=H2.out;refine cN (v:=cP #[gR #[N aE cnt,N aE (lW c us cnt),N aE al,N aE (FQ us al),N aE (kG cnt ep sq al),aM Z 0 0,.slice va vn vc,N aE nn],cM bB]) (by simp[results,lO,go_sem,r0,r1,r2,r3,r4,r5,r6,r7]) rfl ?_;exact wK hp ba ac (bH (jo a9) ay.size) (λb' bh=>by simp at bh) ⟨_,(Y.below ay).obj⟩ ai E (ak.trans (.below ay jB _) (λ_ _ e=>e)) ae aa _ _ _ _ _ _ _ _ (by rw[z];rfl)
    .have a0:cJ _:=av;obtain⟨r0,r1,r2,r3,r4,r5,r6,r7,rf⟩:=lq ah;have HV:cJ _:=jy Y (jy ak (jy ah (jy hp E)));clear hV an hD I ro hp z hs af E J R ah Y ak a7 av;go_quiet ((go_at_call 87;exact Calls.quiet_of (a0.out _)));go_wp2_with fail;obtain⟨Y,ak,ah,hp,E⟩:=HV.out;refine cN (v:=cP #[gR #[N aE 0,N aE 0,N aE 0,N aE 0,N aE 0,aM Z 0 0,aM Z 0 0,N aE 0],cM aR]) (by simp[results,lO,go_sem,r0,r1,r2,r3,r4,r5,r6,r7]) rfl ?_;exact yB hp (Y.below (below_drewN (aJ _ _) _)) E (ak.trans (.below (below_drewN (aJ _ V) _) jB _) (λ_ _ e=>e)) ah _ _ _ _ _ _ _ _
   .have ao:=vV hu hc aj ap (λh=>h.1 rfl);have hs:=s2;rw[aj]at ag;unfold yK at ag;dsimp only at ag;have a5:cJ _:=ag;have H:cJ _:=jy hD (jy I (jy ro (jy ao (jy z hs))));clear h hD I ao s s2 hs az au ro a6 ag z hc hu aj am a4 ap;go_enter (fq Tryz.func55 rfl),Tryz.ntmps55;go_upto_region 1 with fail;rw[<-hW];clear hW;go_upto_region 8 with(first|(go_at_call 86;refine aT a5.out ?_;rintro x1 w1 ⟨rfl,a8,af,E,J⟩;have R:=(J.block _ a3 (by rintro(e|e);omega;exact bj e)).trans H.out.2.2.1;have a1:=(jE R);have H1:cJ _:=jy af (jy E (jy J R));clear af E J R)|fail)
    generalize hV:World.alloc _ _=V;have an:cG w1.heap.size w1 V:=by rw[<-hV];exact(aJ _ _).alloc jB _
    obtain⟨hD,I,ro,hp,z,hs⟩:=H.out;obtain⟨af,E,J,R⟩:=H1.out;have ah:=(an.block _ a1).trans R;have Y:=af.below an;have ak:=(I.trans J (λ_ _ e=>e)).trans (.below an jB _) (λ_ _ e=>e);have a9:=(jE ah)
    have b2:V.cell? ⟨kb,12,Z⟩=M (N aE ep):=mZ Y.obj rfl;have c3:V.cell? ⟨kb,3,Z⟩=M (N aE c.window):=mZ Y.obj rfl;obtain⟨r0,r1,r2,r3,r4,r5,r6,r7,rf⟩:=lq ah;have HV:cJ _:=jy Y (jy ak (jy ah (jy hp E)));clear hV an hD I ro hp z hs af E J R ah Y ak;go_quiet (fail);go_wp2_with fail;obtain⟨Y,ak,ah,hp,E⟩:=HV.out;refine cN (v:=cP #[gR #[N aE 0,N aE 0,N aE 0,N aE 0,N aE 0,aM Z 0 0,aM Z 0 0,N aE 0],cM aR]) (by simp[results,lO,go_sem,r0,r1,r2,r3,r4,r5,r6,r7]) rfl ?_;exact yB hp (Y.below (below_drewN (aJ _ _) _)) E (ak.trans (.below (below_drewN (aJ _ V) _) jB _) (λ_ _ e=>e)) ah _ _ _ _ _ _ _ _
   .have aq:=hD.txs b hb;obtain⟨ta,tc,aw⟩:=Row.slice aq;obtain⟨tn,bk⟩:∃n,b.1.txs.length=n:=⟨_,rfl⟩
    rw[bk]at aw;have bv:=(s.batch b hb).1;have ao:=Jv hu hc aj ap;rw[aj]at ag;unfold yK P9 at ag;dsimp only at ag;rw[aw]at ag;have a5:cJ _:=ag;have H:cJ _:=jy hD (jy I (jy ro (jy ao (jy z (jy aq aw)))));clear h hD I ao s s2 az au ro a6 ag z hc hu aj am a4 aq aw bk hb ap;go_enter (fq Tryz.func55 rfl),Tryz.ntmps55;go_upto_region 1 with fail;rw[<-hW];clear hW;go_wp2_with (first|(go_at_call 86;refine aT a5.out ?_;rintro x1 w1 ⟨rfl,a8,af,E,J⟩;have R:=(J.block _ a3 (by rintro(e|e);omega;exact bj e)).trans H.out.2.2.1;have a1:=(jE R);have H1:cJ _:=jy af (jy E (jy J R));clear af E J R)|(go_at_call 85;refine aT (bn.out _ a8 (H1.out.1.below ((aJ _ _).alloc jB _)) _ bv ta tn tc) ?_;rintro x2 w2 ⟨vd,rfl,ac,ai,ae⟩;obtain⟨va,vn,vc,rfl⟩:=sG ac;have aa:=(ae.block _ aF aA).trans ((aZ w1 _ _ a1).trans H1.out.2.2.2);obtain⟨r0,r1,r2,r3,r4,r5,r6,r7,rf⟩:=lq aa;have H2:cJ _:=jy ac (jy ai (jy ae aa));clear ac ai ae aa;unfold loV)|fail)
    obtain⟨hD,I,ro,hp,z,aq,aw⟩:=H.out;obtain⟨af,E,J,R⟩:=H1.out;obtain⟨ac,ai,ae,aa⟩:=H2.out;refine cN (v:=cP #[gR #[N aE cnt,N aE (lW c us cnt),N aE b.1.epoch,N aE (FQ us b.1.epoch),N aE (kG cnt ep sq b.1.epoch),.slice ta tn tc,.slice va vn vc,N aE nn],cM bB]) (by simp[results,lO,go_sem,r0,r1,r2,r3,r4,r5,r6,r7]) rfl ?_
    have bo:kQ w1 b.2 b.1.txs:=Row.jM aq J (λg hg e=>by
     obtain e|e:=e
     .exact jH aq hD.obj aB (by rw[hg,e])
     .obtain⟨b7,bs⟩:=hD.wait.obj e;exact jH aq bs aB hg)
    have bd:=(aJ _ w1).alloc jB (aL #[N aE b.1.epoch,N aE b.1.id,N aE b.1.time,.slice ta tn tc,N aE b.1.place] 118);exact wK hp bv ac aF (λb' bh=>by cases bh;exact Row.below bo bd) ⟨_,(af.below bd).obj⟩ ai E ((I.trans J (λ_ _ e=>e)).trans (.below bd jB _) (λ_ _ e=>e)) ae aa _ _ _ _ _ _ _ _ (by rw[z];rw[show txV (M b)=b.2 from rfl,aw];rfl)
end
open Go.RowKit
section
variable {XS:Nat->Prop}{P:cU}{lb:Array aD}
def uQ{a b:X}(h:jI XS a b)(l:Nat)(o:Obj)(z:l<a.heap.size):jI XS (a.putObj l o) (b.putObj l o):=
 ⟨h.os,h.tape,h.output,by simpa using h.size,λk hk E=>by
  by_cases e:l=k
  .subst e;rw[World.putObj_heap_same z,World.putObj_heap_same (aP z h.size)]
  .rw[World.putObj_heap_other (Ne.symm e),World.putObj_heap_other (Ne.symm e)];exact h.block k (by simpa using hk) E⟩
def OX{α:Type}(P:cU)(g:Nat)(lb:Array aD)(encs:α->Array aD)(XS:Nat->Prop)(R En:List α->X->Prop)(Y:List α->α->Nat->X->Prop)(S Sp:List α->Prop):Prop:=
 ∀(l:Nat)(J Jx:List α->X->Prop)(W:X),(∀k,XS k->k<l)->l<W.heap.size->R [] W->
  (∀z x E I,J z E->jI XS E I->Y z x E.heap.size I->YieldAt gL 1 P l (encs x) I λe W'=>
   (e=bX (cM bB)/\J (z++[x]) W'/\I.heap.size<=W'.heap.size/\R (z++[x]) W'/\∀k,E.heap.size<=k->k<I.heap.size->W'.heap[k]? =I.heap[k]?)\/(e=bX (cM aR)/\Jx (z++[x]) W'))->
  J [] W->
  CallsIn gL 2 P g (#[.func (.yield l) #[] #[]]++lb) W λe W'=>(∃v,e=bX v)/\((∃xs E,S xs/\J xs E/\jI XS E W'/\En xs W')\/(∃z E,Sp z/\Jx z E/\jI XS E W'))
def adN{α:Type}(B lo J:Nat)(E I:List α->X->Prop)(z:eN->List α->X->Prop)(xs:List α)(W:X):Exit->Act->X->Prop
 |.normal,_,W'=>KeepsFrom B W W'/\E xs W'/\(∀k,lo<=k->k<J->W'.heap[k]? =W.heap[k]?)/\I xs W'
 |.ret,_,W'=>KeepsFrom B W W'/\z .ret xs W'
 |.exit id,_,W'=>KeepsFrom B W W'/\z (.exit id) xs W'
 |.goto t,_,W'=>KeepsFrom B W W'/\z (.goto t) xs W'
 |.panic _,_,_=>False
 |.outgrown,_,_=>False
def PK{α:Type}(P:cU)(g:Nat)(lb:Array aD)(encs:α->Array aD)(XS:Nat->Prop)(E:X->X->Prop)(St En:List α->X->Prop)(Y:List α->α->Nat->X->Prop)(S Sp:List α->Prop):Prop:=
 ∀(l:Nat)(J Jx:List α->X->Prop)(W:X),(∀k,XS k->k<l)->l<W.heap.size->St [] W->
  (∀z x I R,J z I->jI XS I R->E I R->Y z x I.heap.size R->YieldAt gL 1 P l (encs x) R λe W'=>
   (e=bX (cM bB)/\J (z++[x]) W'/\R.heap.size<=W'.heap.size/\St (z++[x]) W'/\∀k,I.heap.size<=k->k<R.heap.size->W'.heap[k]? =R.heap[k]?)\/(e=bX (cM aR)/\Jx (z++[x]) W'))->
  J [] W->
  CallsIn gL 2 P g (#[.func (.yield l) #[] #[]]++lb) W λe W'=>(∃v,e=bX v)/\((∃xs I,S xs/\J xs I/\jI XS I W'/\E I W'/\En xs W')\/(∃z I,Sp z/\Jx z I/\jI XS I W'/\E I W'))
def Lu{α:Type}{g:Nat}{encs:α->Array aD}{R En:List α->X->Prop}{Y:List α->α->Nat->X->Prop}{S I:List α->Prop}(h:OX P g lb encs XS R En Y S I):PK P g lb encs XS (λ_ _=>True) R En Y S I:=λl J Jx W h1 h2 h3 h4 h5=>
 (h l J Jx W h1 h2 h3 (λE x z W1 q1 q2 q3=>h4 E x z W1 q1 q2 trivial q3) h5).mono λ_ _ q=>⟨q.1,q.2.imp (λ⟨xs,z,a,b,c,d⟩=>⟨xs,z,a,b,c,trivial,d⟩) (λ⟨p,z,a,b,c⟩=>⟨p,z,a,b,c,trivial⟩)⟩
def tq{α:Type}{g:Operand}{ps:Array Tmp}{assign body:eN}{Q:Exit->Act->X->Prop}{a:Act}{w:X}{gf:Nat}(hg:a.eval g=.func (.func gf) #[] lb)(eg:∀args w,(callFunc gf args).run P w=.ok (.enter gf args) w){encs:α->Array aD}{E:X->X->Prop}{St En:List α->X->Prop}{Y:List α->α->Nat->X->Prop}{S Sp:List α->Prop}(ar:PK P gf lb encs XS E St En Y S Sp)(hM:∀k,XS k->k<w.heap.size)(hE:∀(A B:X)(l:Nat)(o:Obj),w.heap.size<=l->E A B->E (A.putObj l o) (B.putObj l o))(ao:OwnFrom w.heap.size St)(au:OwnFrom w.heap.size En)(hY:∀lo,OwnFrom w.heap.size (λ(q:List α×α) W=>Y q.1 q.2 lo W))(ay:∀x,(encs x).size=ps.size)(I:List α->X->Prop)(Ix:eN->List α->X->Prop)(hI:OwnFrom w.heap.size I)(af:∀c,OwnFrom w.heap.size (Ix c))(h0:I [] w)(aw:St [] w)(ah:α->Nat->Act)(al:α->X->X)(hA:∀x W k,k<W.heap.size->(al x W).heap[k]? =W.heap[k]?)(a0:∀x W,W.heap.size<=(al x W).heap.size)(av:∀x W l o,l<W.heap.size->(al x W).putObj l o=al x (W.putObj l o))(ae:∀(l:Nat)(x:α)(W:X)(K:Act->X->Prop),K (ah x W.heap.size) (al x W)->assign.wpIn (Fence.wide.inRound l) 1 P (Exit.then K (λ_ _ _=>False)) { tmps:=(ps.zip (encs x)).foldl (λt (p,v)=>t.setIfInBounds p v) a.tmps,defers:=[] } W)(aj:∀(l:Nat)(J:List α)(x:α)(R W1:X),w.heap.size<=l->l<R.heap.size->(∃r,W1.heap[l]? =M (.loop r))->I J R->jI XS R W1->E R W1->Y J x R.heap.size W1->body.wpIn (Fence.wide.inRound l) 1 P (adN w.heap.size R.heap.size W1.heap.size St I Ix (J++[x]) (al x W1)) (ah x W1.heap.size) (al x W1))(ak:∀(D:Nat)(xs:List α)(R W:X),w.heap.size<=D->D<R.heap.size->S xs->I xs R->jI XS R W->E R W->En xs W->W.heap[D]? =M (eA (M []))->Q .normal { a with defers:={ target:=.collected D,args:=#[] }::a.defers } W)(an:∀(D:Nat)(c:eN)(J:List α)(R W:X),w.heap.size<=D->D<R.heap.size->Sp J->Ix c J R->jI XS R W->E R W->W.heap[D]? =M (eA (M []))->c.wpIn gL 3 P Q { a with defers:={ target:=.collected D,args:=#[] }::a.defers } W):(Code.rangeFunc g ps assign body).wpIn gL 3 P Q a w:=by
 refine wpIn_rangeFunc λfn a2=>?_;obtain⟨rc,aa⟩:∃rc:LoopState->Option eN->Loop,rc=λst pe=>{ state:=st,pending:=pe,fn,tmps:=a.tmps,params:=ps,assign,body,defers:=w.heap.size }:=⟨_,rfl⟩
 obtain⟨V,hV⟩:∃V,(w.alloc (eA (M []))).alloc (.loop (rc .ready Z))=V:=⟨_,rfl⟩
 have vl:V.heap[w.heap.size+1]? =M (.loop (rc .ready Z)):=by
  have:=World.alloc_heap_new (w.alloc (eA (M []))) (.loop (rc .ready Z));rw[fB,hV]at this;exact this
 have vd:V.heap[w.heap.size]? =M (eA (M [])):=by rw[<-hV];exact(aZ _ _ _ aC).trans (World.alloc_heap_new w _)
 have vI:I [] V:=by rw[<-hV];exact hI.alloc _ (hI.alloc _ h0)
 have vS:St [] V:=by rw[<-hV];exact ao.alloc _ (ao.alloc _ aw)
 have nl:¬XS (w.heap.size+1):=λh=>by have:=hM _ h;omega
 have nd:¬XS w.heap.size:=λh=>by have:=hM _ h;omega
 refine⟨w.heap.size+1,[{ target:=.collected w.heap.size,args:=#[] }],V,{ target:=.fn (.func gf) lb,args:=#[.func (.yield (w.heap.size+1)) #[] #[]] },V,gf,
  #[.func (.yield (w.heap.size+1)) #[] #[]]++lb,V,?_,?_,λ_ _=>trivial,by simp[invoke,go_sem,eg],λh=>by simp[gL]at h,?_⟩
 .rw[<-hV,aa];exact run_enterLoop_outer _ _ _ _ _
 .simp only[resolve,hg];simp[go_sem]
 refine(ar _
  (λJ W=>I J W/\W.heap[w.heap.size+1]? =M _/\W.heap[w.heap.size]? =M _)
  (λJ W=>∃c,Ix c J W/\W.heap[w.heap.size+1]? =M (.loop (rc .done (M c)))/\W.heap[w.heap.size]? =M (eA (M []))) V (λk hk=>by have:=hM k hk;omega) (jE vl) vS ?_ ⟨vI,vl,vd⟩).mono ?_
 .rintro J x R W1 ⟨i0,l0,d0⟩ hb he hy;have ac:=(jE l0)
  have l1:=(hb.block _ ac nl).trans l0;have d1:=(hb.block _ (by omega:w.heap.size<R.heap.size) nd).trans d0;have ag:=(jE l1)
  have ry:=run_yield (P:=P) (args:=encs x) l1 (by rw[aa];exact ay x);rw[aa]at ry;refine⟨fn,_,assign,body,ry,roundIn_of_wpIn a2 (ae _ x W1 _ ⟨_,run_beginRound ((hA _ _ _ ag).trans l1) (by rw[aa]),?_⟩)⟩;clear ry;rw[av _ _ _ _ ag];obtain⟨o,ho⟩:∃o:Obj,Obj.loop { rc .ready Z with state:=.busy }=o:=⟨_,rfl⟩
  rw[ho];have b1:=uQ hb _ o ac
  have y1:Y J x (R.putObj (w.heap.size+1) o).heap.size (W1.putObj (w.heap.size+1) o):=by
   rw[World.putObj_size];exact(hY _).putObj (s:=(J,x)) o hy aA l1 rfl
  have am:=aj _ J x _ _ aA aF ⟨_,(World.putObj_heap_same ag).trans (Z1 M ho.symm)⟩ (hI.putObj o i0 aA l0 rfl) b1 (hE _ _ _ _ aA he) y1;simp only[World.putObj_size]at am;refine wpIn_mono am ?_;clear am;have a1:(al x (W1.putObj (w.heap.size+1) o)).heap[w.heap.size+1]? =M o:=(hA _ _ _ aF).trans (World.putObj_heap_same ag);have az:(al x (W1.putObj (w.heap.size+1) o)).heap[w.heap.size]? =M (eA (M [])):=(hA _ _ _ aF).trans ((World.putObj_heap_other aA).trans d1);have ai:=a0 x (W1.putObj (w.heap.size+1) o)
  have fin:∀(z:Option eN)(W3:X),KeepsFrom w.heap.size (al x (W1.putObj (w.heap.size+1) o)) W3->
    (Instr.endRound (w.heap.size+1) z).run P W3=.ok (.bool z.isNone) (W3.putObj (w.heap.size+1) (.loop (rc (if z.isNone then .ready else .done) z)))/\
    W3.heap[w.heap.size+1]? =M o/\
    (W3.putObj (w.heap.size+1) (.loop (rc (if z.isNone then .ready else .done) z))).heap[w.heap.size+1]? =M (.loop (rc (if z.isNone then .ready else .done) z))/\
    (W3.putObj (w.heap.size+1) (.loop (rc (if z.isNone then .ready else .done) z))).heap[w.heap.size]? =M (eA (M [])):=λz W3 aq=>by
   have q1:=aq.same _ _ aA a1 (by rw[<-ho];rfl);have q2:=aq.same _ _ jB az rfl;have ap:=q1;rw[<-ho]at ap;have:=run_endRound (P:=P) z ap;refine⟨?_,q1,World.putObj_heap_same (jE q1),(World.putObj_heap_other aA).trans q2⟩;rw[aa]at this⊢;exact this
  rintro e a3 W3 hp;cases e with
  |normal=>
   obtain⟨k3,kk,kx,i3⟩:=hp;obtain⟨hr,l3,l4,d4⟩:=fin Z W3 k3;refine⟨_,_,hr,bN ⟨rfl,⟨hI.putObj _ i3 aA l3 (by rw[<-ho];rfl),l4,d4⟩,by have:=k3.size;simp at ai⊢;omega,ao.putObj _ kk aA l3 (by rw[<-ho];rfl),λk h1 h2=>by rw[World.putObj_heap_other aA,kx k h1 h2,hA _ _ _ (by rw[World.putObj_size];exact h2),World.putObj_heap_other aA]⟩⟩
  |ret=>
   obtain⟨k3,i3⟩:=hp;obtain⟨hr,l3,l4,d4⟩:=fin (M .ret) W3 k3;exact⟨_,_,hr,cF ⟨rfl,_,(af _).putObj _ i3 aA l3 (by rw[<-ho];rfl),l4,d4⟩⟩
  |exit id=>
   obtain⟨k3,i3⟩:=hp;obtain⟨hr,l3,l4,d4⟩:=fin (M (.exit id)) W3 k3;exact⟨_,_,hr,cF ⟨rfl,_,(af _).putObj _ i3 aA l3 (by rw[<-ho];rfl),l4,d4⟩⟩
  |goto t=>
   obtain⟨k3,i3⟩:=hp;obtain⟨hr,l3,l4,d4⟩:=fin (M (.goto t)) W3 k3;exact⟨_,_,hr,cF ⟨rfl,_,(af _).putObj _ i3 aA l3 (by rw[<-ho];rfl),l4,d4⟩⟩
  |panic ch=>exact hp.elim
  |outgrown=>exact hp.elim
 .rintro e W2 ⟨⟨v,rfl⟩,(⟨xs,R,hS,⟨i0,l0,d0⟩,hb,he,ai⟩|⟨J,R,hS,⟨c,i0,l0,d0⟩,hb,he⟩)⟩
  .have ac:=(jE l0)
   have l2:=(hb.block _ ac nl).trans l0;have d2:=(hb.block _ (by omega:w.heap.size<R.heap.size) nd).trans d0;refine⟨Z,_,by have:=run_endLoop (P:=P) l2 (by rw[aa];simp);rw[aa]at this;exact this,?_⟩;exact ak _ xs _ _ jB aF hS (hI.putObj _ i0 aA l0 rfl) (uQ hb _ _ ac) (hE _ _ _ _ aA he) (au.putObj _ ai aA l2 rfl) ((World.putObj_heap_other aA).trans d2)
  .have ac:=(jE l0)
   have l2:=(hb.block _ ac nl).trans l0;have d2:=(hb.block _ (by omega:w.heap.size<R.heap.size) nd).trans d0;refine⟨M c,_,by have:=run_endLoop (P:=P) l2 (by rw[aa];simp);rw[aa]at this;exact this,?_⟩;exact an _ c J _ _ jB aF hS ((af c).putObj _ i0 aA l0 rfl) (uQ hb _ _ ac) (hE _ _ _ _ aA he) ((World.putObj_heap_other aA).trans d2)
end
structure sD where
 ws:List PW
 cnt:Nat
 ep:Nat
 sq:Nat
structure LV where
 i0:Int
 i1:Int
 i2:Int
 i3:Int
 i4:Int
 ta:Option fR
 tn:Nat
 tc:Nat
 da:Option fR
 dn:Nat
 dc:Nat
 i7:Int
def LV.cells(x:LV):Array aD:=#[N aE x.i0,N aE x.i1,N aE x.i2,N aE x.i3,N aE x.i4,.slice x.ta x.tn x.tc,.slice x.da x.dn x.dc,N aE x.i7]
structure DX where
 lv:LV
 e:Nat
 ob:Option PW
 s:sD
 s':sD
def DX.v(x:DX):aD:=.agg x.lv.cells
def DX.encs(x:DX):Array aD:=#[x.v]
def jQ(s0:sD)(z:List DX):sD:=z.foldl (λ_ x=>x.s') s0
def wE(s0:sD)(z:List DX)(x:DX):jQ s0 (z++[x])=x.s':=by simp[jQ]
inductive Steps(c:Cf)(us:List PB)(s0:sD):List DX->Prop
 |nil:Steps c us s0 []
 |snoc {pre:List DX} {x:DX}:Steps c us s0 pre->x.s=jQ s0 pre->jO c us x.s.ws x.s.cnt x.s.ep=(M (x.e,x.ob),x.s'.ws)->x.s'=⟨x.s'.ws,x.s.cnt+1,x.e,kG x.s.cnt x.s.ep x.s.sq x.e⟩->Steps c us s0 (pre++[x])
def DA(W:X)(kb:Nat)(c:Cf)(vu:aD)(us:List PB)(dl:Nat->List (List UInt8))(nb:Nat)(vo vw:aD)(d:sD):Prop:=∃z,rH W kb c vu us dl nb vo z d.ws d.cnt d.ep d.sq/\∀g,z.ownBlock=M g->vw.ownBlock=M g
def EP(kb E:Nat)(c:Cf)(vu:aD)(us:List PB)(dl:Nat->List (List UInt8))(nb:Nat)(vo vw:aD)(s0:sD)(z:List DX)(W:X):Prop:=DA W kb c vu us dl nb vo vw (jQ s0 z)/\W.cell? ⟨E,0,Z⟩=M (aG (M ⟨kb,0,Z⟩))
def Zf(kb:Nat)(c:Cf)(vu:aD)(us:List PB)(dl:Nat->List (List UInt8))(nb:Nat)(vo vw:aD)(s0:sD)(z:List DX)(W:X):Prop:=DA W kb c vu us dl nb vo vw ⟨(jO c us (jQ s0 z).ws (jQ s0 z).cnt (jQ s0 z).ep).2,(jQ s0 z).cnt,(jQ s0 z).ep,(jQ s0 z).sq⟩
def DY(kb I:Nat)(c:Cf)(vu:aD)(us:List PB)(dl:Nat->List (List UInt8))(nb:Nat)(vo vw:aD)(s0:sD)(z:List DX)(x:DX)(lo:Nat)(W:X):Prop:=
 Steps c us s0 (z++[x])/\(∃E,x.v=loV x.s.cnt (lW c us x.s.cnt) x.e (FQ us x.e) x.s'.sq (txV x.ob) E (us.length-1)/\Made W lo E (if x.s'.sq=0 then dl x.e else []))/\(∀b,x.ob=M b->kQ W b.2 b.1.txs)/\x.e<us.length/\EP kb I c vu us dl nb vo vw s0 (z++[x]) W
def DS(c:Cf)(us:List PB)(s0:sD)(z:List DX):Prop:=Steps c us s0 z/\(jO c us (jQ s0 z).ws (jQ s0 z).cnt (jQ s0 z).ep).1=Z
def Vq(kb E:Nat)(c:Cf)(vu:aD)(us:List PB)(dl:Nat->List (List UInt8))(nb:Nat)(vo vw:aD)(s0:sD)(z:List DX)(lo:Nat)(v:aD)(ok:Bool)(W:X):Prop:=
 (ok=bB/\∃x,x.v=v/\DY kb E c vu us dl nb vo vw s0 z x lo W)\/(ok=aR/\DS c us s0 z/\Zf kb c vu us dl nb vo vw s0 z W)
def Good(c:Cf)(us:List PB)(s0:sD):Prop:=∀z,Steps c us s0 z->(0<us.length->yS c us (jQ s0 z).ws (jQ s0 z).cnt (jQ s0 z).ep)/\(jQ s0 z).sq<4294967296/\((jQ s0 z).cnt=0->(jQ s0 z).ep=0)
def Um{ob:Option PW}{w:X}(h:∀b,ob=M b->kQ w b.2 b.1.txs):∃a n cap,txV ob=.slice a n cap:=by
 cases ob with
 |none=>exact⟨Z,0,0,rfl⟩
 |some b=>
  obtain⟨a,cap,e⟩:=Row.slice (h b rfl);exact⟨a,_,cap,e⟩
def NQ{kb R:Nat}{c:Cf}{vu:aD}{us:List PB}{dl:Nat->List (List UInt8)}{nb:Nat}{vo vw:aD}{s0:sD}{z:List DX}{W:X}(hp:Steps c us s0 z)(hG:Good c us s0)(hdl:∀j,(dl j).length<=4294967296)(aj:¬(R=kb\/vw.ownBlock=M R))(ah:EP kb R c vu us dl nb vo vw s0 z W):eL PQ 55 #[aG (M ⟨kb,0,Z⟩)] W λx w'=>∃(i0 i1 i2 i3 i4:Int)(ta:Option fR)(tn tc:Nat)(da:Option fR)(dn dc:Nat)(i7:Int)(ok:Bool),x=bX (cP #[gR #[N aE i0,N aE i1,N aE i2,N aE i3,N aE i4,.slice ta tn tc,.slice da dn dc,N aE i7],.bool ok]) /\jI (λk=>k=kb\/vw.ownBlock=M k) W w'/\Vq kb R c vu us dl nb vo vw s0 z W.heap.size (gR #[N aE i0,N aE i1,N aE i2,N aE i3,N aE i4,.slice ta tn tc,.slice da dn dc,N aE i7]) ok w'/\w'.cell? ⟨R,0,Z⟩=M (aG (M ⟨kb,0,Z⟩)):=by
 obtain⟨⟨ag,hD,I⟩,J⟩:=ah;obtain⟨g1,g2,g3⟩:=hG z hp;have ai:R<W.heap.size:=fG W _ J;refine aT (Fa kb c vu us dl nb vo ag _ _ _ _ W hD g1 g2 hdl) ?_;rintro x w' ⟨h1,h2⟩;have hc:=h2.mono (λk _ e=>e.imp (λe=>e) (λe=>I k e));have E:=(World.cell?_of_block (hc.block R ai aj)).trans J;cases hr:jO c us (jQ s0 z).ws (jQ s0 z).cnt (jQ s0 z).ep with
 |mk o ws'=>
  rw[hr]at h1;cases o with
  |none=>
   obtain⟨rfl,Y,aa,ac⟩:=h1;exact⟨0,0,0,0,0,Z,0,0,Z,0,0,0,aR,rfl,hc,cF ⟨rfl,⟨hp,by rw[hr]⟩,Y,by rw[hr];exact aa,λg hg=>I g (ac g hg)⟩,E⟩
  |some o=>
   obtain⟨e,ob⟩:=o;obtain⟨he,vd,rfl,hm,ht,Y,aa,ac⟩:=h1;obtain⟨ta,tn,tc,ae⟩:=Um ht;obtain⟨da,dn,dc,af⟩:=sG hm;refine⟨(jQ s0 z).cnt,lW c us _,e,FQ us e,kG _ _ _ e,ta,tn,tc,da,dn,dc,(us.length-1:Nat),bB,?_,hc,bN ⟨rfl,⟨⟨(jQ s0 z).cnt,lW c us (jQ s0 z).cnt,e,FQ us e,kG (jQ s0 z).cnt (jQ s0 z).ep (jQ s0 z).sq e,ta,tn,tc,da,dn,dc,(us.length-1:Nat)⟩,e,ob,jQ s0 z,⟨ws',(jQ s0 z).cnt+1,e,kG _ _ _ e⟩⟩,rfl,.snoc hp rfl hr rfl,⟨vd,?_,hm⟩,ht,he,?_,E⟩,E⟩
   .dsimp only;rw[ae,af];rfl
   .dsimp only;rw[ae,af];rfl
   .rw[wE];exact⟨Y,aa,λg hg=>I g (ac g hg)⟩
end Hm
