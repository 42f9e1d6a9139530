import Derived.Test.YtpibpdpedjinhaaGreatDoorP30
set_option maxRecDepth 100000
set_option maxHeartbeats 8000000
set_option linter.all false
open Bool renaming false->aL,true->bB
open Go renaming Value->aD,World->U,bodyPost_ret->cM,heap_alloc_new->cX
open Go.IntKind renaming i64->X
open Go.Obj renaming cells->aG
open Go.Proofs.Tryz renaming results76->ms
open Go.RowKit renaming Hid->cS
open Go.Value renaming agg->gP,bool->cF,int->N,pointer->aM,slice->aR,tuple->dC
open Option renaming none->Z,some->M
namespace Go.Proofs.YtpibpdpedjinhaaGreatDoor
namespace Hm
open Go.RowKit Go.Joins Go.Shelf
open Fr (below_drewN)
open Dv (X2 Cf Ba)
section
variable {w:U}{kb nb cnt ep sq R:Nat}{vu vo vw v0 v1 v2 v3 v4 v5 v6 v7:aD}{us:List PB}{dl:Nat->List (List UInt8)}{ws:List PW}{ty:TypeId}
def loV(num:Nat)(time:Int)(ep:Nat)(id:Int)(sq:Nat)(q E:aD)(at_:Nat):aD:=gP #[N X num,N X time,N X ep,N X id,N X sq,q,E,N X at_]
def kE(cnt ep sq e:Nat):Nat:=if 0<cnt/\e=ep then sq+1 else 0
theorem sD.turn{c:Cf}(h:sD w kb c vu us dl nb vo vw ws cnt ep sq){w':U}{q J I:Nat}(Y:jO (λk=>k=kb) w w')(ho:w'.heap[kb]? =M (aG (jT c vu nb vo vw q J I) 137 (0,0))):sD w' kb c vu us dl nb vo vw ws q J I:=
 ⟨ho,h.upper.jR Y (λg E e=>jJ h.upper h.obj aB (by rw[E,e])),h.wait.jR Y (λg E e=>jJ h.wait h.obj aB (by rw[E,e])),λj p hp=>Row.jR (h.deps j p hp) Y (λg E e=>jJ (h.deps j p hp) h.obj aB (by rw[E,e])),λp hp=>Row.jR (h.txs p hp) Y (λg E e=>jJ (h.txs p hp) h.obj aB (by rw[E,e]))⟩
def rY(w:U)(R:Nat)(a b c d e f g h:aD):U:=(((((((w.setCell ⟨R,0,Z⟩ a).setCell ⟨R,1,Z⟩ b).setCell ⟨R,2,Z⟩ c).setCell ⟨R,3,Z⟩ d).setCell ⟨R,4,Z⟩ e).setCell ⟨R,5,Z⟩ f).setCell ⟨R,6,Z⟩ g).setCell ⟨R,7,Z⟩ h
theorem kW(w:U)(R:Nat)(a b c d e f g h:aD):jO (λk=>k=R) w (rY w R a b c d e f g h):=
 (((((((jO.set w R 0 a).trans (jO.set _ R 1 b) (λ_ _ e=>e)).trans (jO.set _ R 2 c) (λ_ _ e=>e)).trans (jO.set _ R 3 d) (λ_ _ e=>e)).trans (jO.set _ R 4 e) (λ_ _ e=>e)).trans (jO.set _ R 5 f) (λ_ _ e=>e)).trans (jO.set _ R 6 g) (λ_ _ e=>e)).trans (jO.set _ R 7 h) (λ_ _ e=>e)
theorem EZ(h:w.heap[R]? =M (aG #[v0,v1,v2,v3,v4,v5,v6,v7] ty (0,0)))(a b c d e f g i:aD):(rY w R a b c d e f g i).heap[R]? =M (aG #[a,b,c,d,e,f,g,i] ty (0,0)):=by have:=jV (jV (jV (jV (jV (jV (jV (jV h 0 a) 1 b) 2 c) 3 d) 4 e) 5 f) 6 g) 7 i;simpa[rY]using this
theorem ZH{V:U}{c:Cf}{lo:Nat}{vd:aD}{l:List (List UInt8)}(h:sD V kb c vu us dl nb vo vw ws cnt ep sq)(hm:Made V lo vd l){rc:Array aD}(hR:V.heap[R]? =M (aG rc 62 (0,0)))(x0 x1 x2 x3 x4 x5 x6 x7:aD):sD (rY (V.setCell ⟨kb,11,Z⟩ (N X ((cnt:Int)+1))) R x0 x1 x2 x3 x4 x5 x6 x7) kb c vu us dl nb vo vw ws (cnt+1) ep sq/\Made (rY (V.setCell ⟨kb,11,Z⟩ (N X ((cnt:Int)+1))) R x0 x1 x2 x3 x4 x5 x6 x7) lo vd l:=by
 have aa:kb≠R:=λe=>by have:=h.obj;rw[e,hR]at this;simp at this
 have E:=jO.set V kb 11 (N X (cnt+1))
 have h1:sD (V.setCell ⟨kb,11,Z⟩ (N X ((cnt:Int)+1))) kb c vu us dl nb vo vw ws (cnt+1) ep sq:=by
  refine h.turn E ?_;have:=jV h.obj 11 (N X (cnt+1));simpa[jT]using this
 have Y:=hm.1.jR E (λg I e=>jJ hm.1 h.obj aB (by rw[I,e]));have q:(V.setCell ⟨kb,11,Z⟩ (N X ((cnt:Int)+1))).heap[R]? =M (aG rc 62 (0,0)):=(aW _ _ _ _ (λe=>aa e.symm)).trans hR;have J:=kW (V.setCell ⟨kb,11,Z⟩ (N X (cnt+1))) R x0 x1 x2 x3 x4 x5 x6 x7;refine⟨h1.jR J aa (λg I e=>jJ h1.upper q aB (by rw[I,e])) (λg I e=>jJ h1.wait q aB (by rw[I,e])) (λg cs fz ab e=>?_),Y.jR J (λg I e=>jJ Y q aB (by rw[I,e])),hm.2⟩;rw[e,q]at ab;simp at ab
theorem mJ{W:U}{b:Nat}(h:W.heap[b]? =M (aG #[v0,v1,v2,v3,v4,v5,v6,v7] ty (0,0))):W.cell? ⟨b,0,Z⟩=M v0/\W.cell? ⟨b,1,Z⟩=M v1/\W.cell? ⟨b,2,Z⟩=M v2/\W.cell? ⟨b,3,Z⟩=M v3/\W.cell? ⟨b,4,Z⟩=M v4/\W.cell? ⟨b,5,Z⟩=M v5/\W.cell? ⟨b,6,Z⟩=M v6/\W.cell? ⟨b,7,Z⟩=M v7/\(∀o,W.frozen? ⟨b,o,Z⟩=aL):=
 ⟨by rw[aI h];rfl,by rw[aI h];rfl,by rw[aI h];rfl,by rw[aI h];rfl,by rw[aI h];rfl,by rw[aI h];rfl,by rw[aI h];rfl,by rw[aI h];rfl,aQ h⟩
theorem Ls(kb:Nat)(c:Cf)(vu:aD)(us:List PB)(dl:Nat->List (List UInt8))(nb:Nat)(vo vw:aD)(ws:List PW)(cnt ep sq e:Nat)(ta:Option Addr)(tn tc:Nat)(w:U)(h:sD w kb c vu us dl nb vo vw ws cnt ep sq)(s:Ac c us ws cnt ep)(he:e<us.length)(cc:sq<4294967296)(hdl:∀j,(dl j).length<=4294967296):
  Calls PQ 122 #[aM (M ⟨kb,0,Z⟩),N X e,.slice ta tn tc] w λx w'=>∃vd,x=.returned (loV cnt (lT c us cnt) e (Ia us e) (kE cnt ep sq e) (.slice ta tn tc) vd (us.length-1))/\Made w' w.heap.size vd (if kE cnt ep sq e=0 then dl e else [])/\sD w' kb c vu us dl nb vo vw ws (cnt+1) e (kE cnt ep sq e)/\jO (λk=>k=kb) w w':=by
 obtain⟨W,hW,ay,ro⟩:=jI w #[N X 0,N X 0,N X 0,N X 0,N X 0,aR Z 0 0,aR Z 0 0,N X 0] 62;have hD:=h.below ay;have c11:W.cell? ⟨kb,11,Z⟩=M (N X cnt):=nV hD.obj rfl;have b2:W.cell? ⟨kb,12,Z⟩=M (N X ep):=nV hD.obj rfl;have a2:W.cell? ⟨kb,13,Z⟩=M (N X sq):=nV hD.obj rfl;have fk:=aQ hD.obj;obtain⟨q,hq⟩:∃q,kE cnt ep sq e=q:=⟨_,rfl⟩
 rw[hq];unfold kE at hq;obtain⟨ld,a5⟩:∃ld,(if q=0 then dl e else [])=ld:=⟨_,rfl⟩
 rw[a5];have bv:cS _:=a5;clear a5;have H:cS _:=jD hD (jD ay (jD ro (jD s (jD hq hdl))));have cm:=s.cnt;have cg:=s.len;have cj:=(jG h.obj)
 clear hD ay ro s hq h hdl;go_enter (fq Tryz.func122 rfl),Tryz.ntmps122;go_upto_region 1 with fail;rw[<-hW];clear hW;obtain⟨b,hb⟩:∃b,decide (0<cnt/\e=ep)=b:=⟨_,rfl⟩
 have Hb:cS _:=hb;clear hb;go_cut [21] (λv wx=>v=cF b/\wx=W)
 case first=>
  by_cases h0:0<cnt
  .have b5:(0:Int)<(cnt:Int):=by omega
   by_cases h1:e=ep
   .have b7:((e:Int) == (ep:Int))=bB:=by rw[h1];simp
    have H1:cS _:=jD h0 h1;clear h1 h0;go_wp2_with fail;go_meet;refine⟨?_,rfl⟩;rw[<-Hb.out,Z0 H1.out]
   .have b7:((e:Int) == (ep:Int))=aL:=ZS aA;have H1:cS _:=h1;clear h1;go_wp2_with fail;go_meet;refine⟨?_,rfl⟩;rw[<-Hb.out,ZZ (λh=>H1.out h.2)]
  .have b5:¬(0:Int)<(cnt:Int):=by omega
   have H1:cS _:=h0;clear h0;go_wp2_with fail;go_meet;refine⟨?_,rfl⟩;rw[<-Hb.out,ZZ (λh=>H1.out h.1)]
 case rest=>
  obtain⟨rfl,aw⟩:=hcut;have av:=aw.symm;clear aw;subst av;go_upto_if 21 with fail;go_cut [22] (λ_ wx=>cS (sD wx kb c vu us dl nb vo vw ws cnt e q/\jO (λk=>k=kb) W wx))
  case first=>
   cases b
   .go_wp2_with fail;go_meet;obtain⟨hD,ay,ro,s,hq,hdl⟩:=H.out;have aa:q=0:=by rw[<-hq,Zs (Ys Hb.out)]
    subst aa;have hc:jO (λk=>k=kb) W ((W.setCell ⟨kb,12,Z⟩ (N X e)).setCell ⟨kb,13,Z⟩ (N X 0)):=(jO.set _ kb 12 _).trans (jO.set _ kb 13 _) (λ_ _ e=>e);refine⟨hD.turn hc ?_,hc⟩;have:=jV (jV hD.obj 12 (N X e)) 13 (N X 0);simpa[jT]using this
   .go_wp2_with fail;go_meet;obtain⟨hD,ay,ro,s,hq,hdl⟩:=H.out;obtain⟨b3,bu⟩:=Z2 Hb.out;have aa:q=sq+1:=by rw[<-hq,ZD ⟨b3,bu⟩]
    subst aa bu;have hc:jO (λk=>k=kb) W (W.setCell ⟨kb,13,Z⟩ (N X ((sq:Int)+1))):=jO.set _ kb 13 _;refine⟨hD.turn hc ?_,hc⟩;have:=jV hD.obj 13 (N X (sq+1));simpa[jT]using this
  case rest=>
   obtain⟨Vc,bz⟩:∃V,V=wc:=⟨_,rfl⟩
   subst bz;clear c11 b2 a2 fk;obtain⟨an,ai⟩:=hcut.out;have I:Vc.heap[w.heap.size]? =_:=(ai.block _ (jG H.out.2.2.1) aA).trans H.out.2.2.1;obtain⟨g,off,cap,bd,ci⟩:=an.upper.pos aA;obtain⟨p,hp⟩:∃p,us[e]? =M p:=⟨_,aO he⟩
   obtain⟨da,ap,a8⟩:=Row.slice (an.deps e p hp);have ax:=an.upper.rd;rw[bd]at ax;have k0:Vc.cell? ⟨g,off+e*3,Z⟩=M (N X p.1):=Rd.rec qW 3 (λ_=>rfl) ax hp (i:=0) (u:=.int _ _) aA rfl
   have k1:Vc.cell? ⟨g,off+e*3+1,Z⟩=M (N X p.2.1):=by
    have:=Rd.rec qW 3 (λ_=>rfl) ax hp (i:=1) (u:=.int _ _) aA rfl;rw[<-dV]at this;exact this
   have k2:Vc.cell? ⟨g,off+e*3+2,Z⟩=M (.slice da (dl e).length ap):=by
    have:=Rd.rec qW 3 (λ_=>rfl) ax hp (i:=2) (u:=.slice da (dl e).length ap) aA (by rw[<-a8];rfl);rw[<-dV]at this;exact this
   have c7:Vc.cell? ⟨kb,7,Z⟩=M (aR (M ⟨g,off,Z⟩) us.length cap):=by rw[aI an.obj,<-bd];rfl
   have cd:(e:Int)<us.length:=aA
   obtain⟨Wa,hX,ae,uo⟩:=jI Vc #[N X p.1,N X p.2.1,.slice da (dl e).length ap] 139;have E:=an.below ae;have bl:Ac c us ws cnt e:=⟨H.out.2.2.2.1.times,H.out.2.2.2.1.step,H.out.2.2.2.1.drift,H.out.2.2.2.1.window,H.out.2.2.2.1.cnt,H.out.2.2.2.1.len,H.out.2.2.2.1.wlen,he,H.out.2.2.2.1.batch⟩
   have a7:=E.look bl;have a9:=λV hV=>FU kb c us cnt e V (a7.below hV) aA;have bb:=λV hV=>yg kb c us cnt e V (a7.below hV) aA;obtain⟨t,ht⟩:∃t,lT c us cnt=t:=⟨_,rfl⟩
   obtain⟨nn,ah⟩:∃nn,us.length-1=nn:=⟨_,rfl⟩
   have hI:=Jl hp;obtain⟨pi,bs⟩:∃x,p.1=x:=⟨_,rfl⟩
   rw[ht]at a9;rw[ah]at bb;rw[bs]at hI uo hX k0;have bh:Wa.cell? ⟨kb,11,Z⟩=M (N X cnt):=nV E.obj rfl;have bg:Wa.cell? ⟨kb,13,Z⟩=M (N X q):=nV E.obj rfl;have u0:=nT uo;have bk:=(jG uo)
   have bj:=(jG E.obj)
   have b1:cS _:=a9;have b4:cS _:=bb;have ac:kX Wa (.slice da (dl e).length ap) (dl e):=by have:=E.deps e p hp;rw[a8]at this;exact this
   have H2:cS _:=jD E (jD uo (jD ac (jD ae (jD I (jD ai (jD hp (jD hI (jD ht ah))))))));clear ac an ai I ax hp a8 bd E bl a7 a9 bb uo ae hI ht ah bs hcut;go_upto_region 5 with fail;rw[<-hX];clear hX k0 k1 k2 c7;have ab:=aJ Wa.heap.size Wa;have hS:∀V,Below Wa.heap.size Wa V->V.cell? ⟨kb,11,Z⟩=M (N X cnt)/\V.cell? ⟨kb,13,Z⟩=M (N X q)/\V.cell? ⟨Vc.heap.size,0,Z⟩=M (N X pi):=λV hV=>⟨(hV.cell (p:=⟨kb,11,Z⟩) bj).trans bh,(hV.cell (p:=⟨kb,13,Z⟩) bj).trans bg,(hV.cell (p:=⟨_,0,Z⟩) bk).trans u0⟩
   have HS:cS _:=hS;clear hS;go_cut [8] (λv wx=>cS (v=aM (M ⟨Wa.heap.size,0,Z⟩)/\wx.heap[Wa.heap.size]? =M (aG #[N X cnt,N X t,N X e,N X pi,N X q,.slice ta tn tc,aR Z 0 0,N X nn] 62 (0,0))/\Below Wa.heap.size Wa wx))
   case first=>
    go_region_held3 (λV=>V.cell? ⟨kb,11,Z⟩=M (N X cnt)/\V.cell? ⟨kb,13,Z⟩=M (N X q)/\V.cell? ⟨Vc.heap.size,0,Z⟩=M (N X pi))
     ((refine HS.out _ ?_;(repeat (with_reducible refine Below.setCell ?_ (p:=_) (by first|exact jE|exact Y.size|exact J.size) _));first|exact J|exact J.alloc J.size _|exact Y|exact Y.alloc Y.size _|exact ab.drew|exact(ab.drew.alloc jE _)|exact(ab.alloc jE _).drew))
     (first|(go_at_call 178;(refine aT (b1.out _ ?_) ?_;(first|exact ab.drew|exact ab.drew.alloc jE _|exact(ab.alloc jE _).drew);rintro e5 w5 ⟨rfl,m5,ar⟩;have Y:Below Wa.heap.size Wa w5:=(by rw[ar];first|exact below_drewN ab.drew _|exact below_drewN (ab.drew.alloc jE _) _|exact below_drewN (ab.alloc jE _).drew _);(first|(have bm:w5.heap.size=Wa.heap.size:=(by rw[ar];rfl))|(have bo:w5.heap[Wa.heap.size]? =M (aG #[N X 0,N X 0,N X 0,N X 0,N X 0,aR Z 0 0,aR Z 0 0,N X 0] 62 (0,0)):=(by rw[ar];exact cX _ _);obtain⟨y0,y1,y2,y3,y4,y5,y6,y7,yf⟩:=mJ bo));have co:cS _:=ar;clear ar))|(go_at_call 124;(refine aT (b4.out _ ?_) ?_;(first|exact Y|exact Y.alloc Y.size _);rintro e6 w6 ⟨rfl,m6,aj⟩;have J:Below Wa.heap.size Wa w6:=(by rw[aj];first|exact below_drewN Y _|exact below_drewN (Y.alloc Y.size _) _);(first|(have aq:w6.heap[Wa.heap.size]? =M (aG #[N X 0,N X 0,N X 0,N X 0,N X 0,aR Z 0 0,aR Z 0 0,N X 0] 62 (0,0)):=(by rw[aj];exact bo);obtain⟨x0,x1,x2,x3,x4,x5,x6,x7,xf⟩:=mJ aq)|(have aq:w6.heap[Wa.heap.size]? =M (aG #[N X 0,N X 0,N X 0,N X 0,N X 0,aR Z 0 0,aR Z 0 0,N X 0] 62 (0,0)):=(by rw[aj,<-bm];exact cX _ _);obtain⟨x0,x1,x2,x3,x4,x5,x6,x7,xf⟩:=mJ aq)|(have b0:w6.heap.size=Wa.heap.size:=(by rw[aj];exact bm)));have cl:cS _:=aj;clear aj))|fail)
    .go_wp2_with fail;go_meet;exact⟨rfl,by rw[<-b0];exact cX _ _,J.alloc J.size _⟩
    .go_wp2_with fail;go_meet;exact⟨rfl,EZ aq _ _ _ _ _ _ _ _,J.trans ⟨(kW w6 _ _ _ _ _ _ _ _ _).os,(kW w6 _ _ _ _ _ _ _ _ _).tape,(kW w6 _ _ _ _ _ _ _ _ _).output,(kW w6 _ _ _ _ _ _ _ _ _).size,λk hk=>(kW w6 _ _ _ _ _ _ _ _ _).block k (aP hk J.size) (iQ hk)⟩⟩
    .go_wp2_with fail;go_meet;exact⟨rfl,EZ aq _ _ _ _ _ _ _ _,J.trans ⟨(kW w6 _ _ _ _ _ _ _ _ _).os,(kW w6 _ _ _ _ _ _ _ _ _).tape,(kW w6 _ _ _ _ _ _ _ _ _).output,(kW w6 _ _ _ _ _ _ _ _ _).size,λk hk=>(kW w6 _ _ _ _ _ _ _ _ _).block k (aP hk J.size) (iQ hk)⟩⟩
   case rest=>
    obtain⟨rfl,a6,am⟩:=hcut.out;clear bh bg u0;obtain⟨c11,a2,_⟩:=HS.out wc am;have u2:wc.cell? ⟨Vc.heap.size,2,Z⟩=M (.slice da (dl e).length ap):=(am.cell (p:=⟨Vc.heap.size,2,Z⟩) bk).trans (by rw[aI H2.out.2.1];rfl);obtain⟨l0,l1,l2,l3,l4,l5,l6,l7,lf⟩:=mJ a6;have ca:=am;have HC:cS _:=P5 _ _ wc (Row.below H2.out.2.2.1 am) (H.out.2.2.2.2.2 e);have HL:cS _:=jD a6 am;clear a6 am hcut;obtain⟨bq,bw⟩:∃b,decide (q=0)=b:=⟨_,rfl⟩
    have Hq:cS _:=bw;clear bw;obtain⟨Wc,bx⟩:∃V,V=wc:=⟨_,rfl⟩
    subst bx;go_upto_region 6 with fail;go_cut [64] (λv wx=>v=.bool bq/\wx=Wc)
    case first=>
     by_cases aa:q=0
     .have b6:((q:Int) == 0)=bB:=by rw[aa];rfl
      have ba:cS _:=aa;clear aa;go_wp2_with fail;go_meet;refine⟨?_,rfl⟩;rw[<-Hq.out,Z0 ba.out]
     .have b6:((q:Int) == 0)=aL:=ZS aA;have ba:cS _:=aa;clear aa;go_wp2_with fail;go_meet;refine⟨?_,rfl⟩;rw[<-Hq.out,ZZ ba.out]
    case rest=>
     obtain⟨rfl,aw⟩:=hcut;have av:=aw.symm;clear aw;subst av;go_upto_if 64 with fail;go_cut [8] (λv wx=>cS (∃va vn vc,v=aM (M ⟨Wa.heap.size,0,Z⟩)/\wx.heap[Wa.heap.size]? =M (aG #[N X cnt,N X t,N X e,N X pi,N X q,.slice ta tn tc,.slice va vn vc,N X nn] 62 (0,0))/\Made wx Wa.heap.size (.slice va vn vc) ld/\Below Wa.heap.size Wa wx))
     case first=>
      cases bq
      .go_wp2_with fail;go_meet;refine⟨Z,0,0,rfl,HL.out.1,?_,HL.out.2⟩;rw[<-bv.out,Zs (Ys Hq.out)];exact⟨Row.nil _ _ _,by simp[Value.ownBlock]⟩
      .go_wp2_with (first|(go_at_call 130;refine aT HC.out ?_;rintro e7 w7 ⟨va,vc,rfl,ak,az⟩;have ao:=(az.block _ (jG HL.out.1)).trans HL.out.1;obtain⟨k0,k1,k2,k3,k4,k5,k6,k7,kf⟩:=mJ ao;have HM:cS _:=jD ak (jD az ao);clear ak az ao)|fail)
       go_meet;obtain⟨ak,az,ao⟩:=HM.out;refine⟨va,(dl e).length,vc,rfl,?_,?_,?_⟩
       .have:=jV ao 6 (.slice va (dl e).length vc);simpa using this
       .rw[<-bv.out,ZD (Z2 Hq.out)];exact⟨ak.1.jR (jO.set _ _ 6 _) (λg hg e=>jJ ak.1 ao aB (by rw[hg,e])),λg hg=>bH HL.out.2.size (ak.2 g hg)⟩
       .exact(HL.out.2.trans (az.mono HL.out.2.size)).setCell jE _
     case rest=>
      obtain⟨va,vn,vc,rfl,a1,a3,ag⟩:=hcut.out;clear hcut c11 a2 u2 l0 l1 l2 l3 l4 l5 l6 l7 lf;obtain⟨c11,a2,_⟩:=HS.out wc ag;obtain⟨l0,l1,l2,l3,l4,l5,l6,l7,lf⟩:=mJ a1;obtain⟨E,uo,ac,ae,I,ai,hp,hI,ht,ah⟩:=H2.out;have b9:=(jG I)
      have a4:Wa.heap[w.heap.size]? =_:=(ae.block _ b9).trans I;have af:wc.heap[w.heap.size]? =_:=(ag.block _ aA).trans a4;obtain⟨r0,r1,r2,r3,r4,r5,r6,r7,rf⟩:=mJ af;have au:=E.below ag;have fk:=aQ au.obj;have H8:cS _:=jD au (jD a3 (jD ag (jD af a1)));have ck:kb≠w.heap.size:=aA
      have cb:kb≠Wa.heap.size:=aA
      have ce:w.heap.size≠Wa.heap.size:=aA
      clear a1 a3 ag af a4 au E uo ac ae I ai hp hI ht ah;go_wp2_with fail;obtain⟨au,a3,ag,af,a1⟩:=H8.out;obtain⟨E,uo,ac,ae,I,ai,hp,hI,ht,ah⟩:=H2.out;obtain⟨b8,br⟩:=ZH au a3 af (N X cnt) (N X t) (N X e) (N X pi) (N X q) (.slice ta tn tc) (.slice va vn vc) (N X nn);refine cM (v:=gP #[N X cnt,N X t,N X e,N X pi,N X q,.slice ta tn tc,.slice va vn vc,N X nn]) (by simp[results,Tryz.results122,go_sem,r0,r1,r2,r3,r4,r5,r6,r7]) rfl ⟨_,?_,⟨br.1,λg hg=>bH aA (br.2 g hg)⟩,b8,?_⟩
      .rw[ht,hI,ah];rfl
      .exact((((((jO.below H.out.2.1 jE _).trans ai (λ_ _ e=>e)).trans (jO.below ae jE _) (λ_ _ e=>e)).trans (jO.below ag jE _) (λ_ _ e=>e)).trans (jO.set _ kb 11 _) (λ_ _ e=>e)).trans (kW _ _ _ _ _ _ _ _ _ _) (λk hk e=>aA))
end
section
variable {c:Cf}{us:List PB}{ws ws':List PW}{cnt ep kb nb sq R:Nat}{V w:U}{vu vo vw vw':aD}{dl:Nat->List (List UInt8)}{rc:Array aD}
theorem qM(V:PW->Nat):∀l:List PW,((pick V l).1=(0,Z)\/(pick V l).1=(2,Z)\/∃b,b∈l/\(pick V l).1=(3,M b))/\(∀p,p∈(pick V l).2->p∈l)/\(pick V l).2.length<=l.length
 |[]=>⟨.inl rfl,λ_ h=>h,jE⟩
 |b::r=>by
  obtain⟨E,h2,h3⟩:=qM V r;unfold pick;split
  .refine⟨?_,?_,aF⟩
   .obtain h|h|⟨x,q,h⟩:=E
    .exact .inl h
    .exact .inr (.inl h)
    .exact .inr (.inr ⟨x,cZ _ q,h⟩)
   .intro p hp;obtain e|h:=dD.1 hp
    .rw[e];exact dQ
    .exact cZ _ (h2 p h)
  .split
   .exact⟨.inr (.inl rfl),λ_ h=>h,jE⟩
   .split
    .exact⟨.inr (.inr ⟨b,dQ,rfl⟩),λp h=>cZ _ h,aC⟩
    .refine⟨?_,λp h=>cZ _ (h2 p h),aF⟩;obtain h|h|⟨x,q,h⟩:=E
     .exact .inl h
     .exact .inr (.inl h)
     .exact .inr (.inr ⟨x,cZ _ q,h⟩)
theorem Ac.sub(s:Ac c us ws cnt ep)(h:∀p,p∈ws'->p∈ws)(q:ws'.length<=ws.length):Ac c us ws' cnt ep:=
 ⟨s.times,s.step,s.drift,s.window,s.cnt,s.len,bH q s.wlen,s.ep,λp hp=>s.batch p (h p hp)⟩
def jK(c:Cf)(us:List PB)(ws:List PW)(cnt ep:Nat):Option (Nat×Option PW)×List PW:=
 if us.length=0 then(Z,ws)else if cnt=0 then(M (0,Z),ws)else
  match (pick (judged c us cnt ep) ws).1.2 with
  |some b=>(M (b.1.epoch,M b),(pick (judged c us cnt ep) ws).2)
  |none=>if (pick (judged c us cnt ep) ws).1.1≠2/\(ep:Int)+c.window<((us.length-1:Nat):Int)then(M (alone c us cnt ep,Z),(pick (judged c us cnt ep) ws).2)else(Z,(pick (judged c us cnt ep) ws).2)
def ET:Option PW->aD
 |some b=>b.2
 |none=>aR Z 0 0
def lo0:aD:=gP #[N X 0,N X 0,N X 0,N X 0,N X 0,aR Z 0 0,aR Z 0 0,N X 0]
def EC(w:U)(kb:Nat)(c:Cf)(vu:aD)(us:List PB)(dl:Nat->List (List UInt8))(nb:Nat)(vo vw:aD)(cnt ep sq:Nat)(r:Option (Nat×Option PW)×List PW)(x:Ending)(w':U):Prop:=
 (match r.1 with
  |none=>x=.returned (dC #[lo0,cF aL])/\∃vw',sD w' kb c vu us dl nb vo vw' r.2 cnt ep sq/\∀g,vw'.ownBlock=M g->vw.ownBlock=M g
  |some o=>o.1<us.length/\∃q,x=.returned (dC #[loV cnt (lT c us cnt) o.1 (Ia us o.1) (kE cnt ep sq o.1) (ET o.2) q (us.length-1),cF bB])/\Made w' w.heap.size q (if kE cnt ep sq o.1=0 then dl o.1 else [])/\(∀b,o.2=M b->kX w' b.2 b.1.txs)/\∃vw',sD w' kb c vu us dl nb vo vw' r.2 (cnt+1) o.1 (kE cnt ep sq o.1)/\∀g,vw'.ownBlock=M g->vw.ownBlock=M g)
 /\jO (λk=>k=kb\/vw.ownBlock=M k) w w'
theorem Dj(h:sD V kb c vu us dl nb vo vw ws cnt ep sq)(E:V.heap[R]? =M (aG rc 62 (0,0)))(Y x1 x2 x3 x4 x5 x6 x7:aD):sD (rY V R Y x1 x2 x3 x4 x5 x6 x7) kb c vu us dl nb vo vw ws cnt ep sq:=by
 have I:kb≠R:=λe=>by have:=h.obj;rw[e,E]at this;simp at this
 refine h.jR (kW V R Y x1 x2 x3 x4 x5 x6 x7) I (λg J e=>jJ h.upper E aB (by rw[J,e])) (λg J e=>jJ h.wait E aB (by rw[J,e])) (λg cs fz q e=>?_);rw[e,E]at q;simp at q
theorem Fh{v:aD}{n:Nat}{l:List aD}(E:Row V 9 1 v n l)(hR:V.heap[R]? =M (aG rc 62 (0,0)))(q Y x2 x3 I x5 J x7:aD):Row (rY V R q Y x2 x3 I x5 J x7) 9 1 v n l:=
 E.jR (kW V R q Y x2 x3 I x5 J x7) (λg hg e=>jJ E hR aB (by rw[hg,e]))
theorem xX{q:U}{e:Nat}{ob:Option PW}{vd:aD}
  (hr:jK c us ws cnt ep=(M (e,ob),ws')) (he:e<us.length) (hm:Made q V.heap.size vd (if kE cnt ep sq e=0 then dl e else [])) (ab:w.heap.size<=V.heap.size) (ht:∀b,ob=M b->kX V b.2 b.1.txs) (J:∃cs,V.heap[kb]? =M (aG cs 137 (0,0)))
  (hD:sD q kb c vu us dl nb vo vw' ws' (cnt+1) e (kE cnt ep sq e)) (E:∀g,vw'.ownBlock=M g->vw.ownBlock=M g) (Y:jO (λk=>k=kb\/vw.ownBlock=M k) w V) (hc:jO (λk=>k=kb) V q) (hR:q.heap[w.heap.size]? =M (aG rc 62 (0,0))) (x0 x1 x2 x3 x4 x5 x6 x7:aD) {x:Ending} (hx:x=.returned (dC #[loV cnt (lT c us cnt) e (Ia us e) (kE cnt ep sq e) (ET ob) vd (us.length-1),cF bB])):
  EC w kb c vu us dl nb vo vw cnt ep sq (jK c us ws cnt ep) x (rY q w.heap.size x0 x1 x2 x3 x4 x5 x6 x7):=by
 rw[hr];obtain⟨cs,aa⟩:=J;refine⟨⟨he,vd,hx,⟨Fh hm.1 hR _ _ _ _ _ _ _ _,λg I=>bH ab (hm.2 g I)⟩,λb hb=>?_,vw',Dj hD hR _ _ _ _ _ _ _ _,E⟩,(Y.trans hc (λ_ _ e=>.inl e)).trans (kW q _ _ _ _ _ _ _ _ _) (λk hk e=>aA)⟩;have h1:=Row.jR (ht b hb) hc (λg I e=>jJ (ht b hb) aa aB (by rw[I,e]));exact Fh h1 hR _ _ _ _ _ _ _ _
theorem zJ(hr:jK c us ws cnt ep=(Z,ws'))(hD:sD V kb c vu us dl nb vo vw' ws' cnt ep sq)(q:∀g,vw'.ownBlock=M g->vw.ownBlock=M g)(E:jO (λk=>k=kb\/vw.ownBlock=M k) w V)(J:V.heap[w.heap.size]? =M (aG rc 62 (0,0)))(I x1 x2 x3 Y x5 x6 x7:aD):EC w kb c vu us dl nb vo vw cnt ep sq (jK c us ws cnt ep) (.returned (dC #[lo0,cF aL])) (rY V w.heap.size I x1 x2 x3 Y x5 x6 x7):=by
 rw[hr];exact⟨⟨rfl,vw',Dj hD J _ _ _ _ _ _ _ _,q⟩,E.trans (kW V _ _ _ _ _ _ _ _ _) (λk hk e=>aA)⟩
end
section
variable {c:Cf}{us:List PB}{ws:List PW}{cnt ep e:Nat}
theorem GU(c:Cf)(us:List PB)(cnt:Nat):lT c us (cnt+1)=lT c us cnt+c.step:=by
 unfold lT
 grind
theorem Ac.Zb(s:Ac c us ws cnt ep)(q:e<us.length):BM us e<=4294967296:=by rw[wJ (aO q)];exact(s.times _ (List.getElem_mem q)).2
theorem EP{V:PW->Nat}{b:PW}:∀{l:List PW},(pick V l).1=(3,M b)->V b=3/\b∈l/\(pick V l).2.length<l.length
 |[],h=>by simp[pick]at h
 |x::r,h=>by
  unfold pick at h⊢;split at h
  .rename_i I;rw[ZD I];obtain⟨J,h2,h3⟩:=EP (l:=r) h
   grind
  .rename_i I;rw[Zs I];split at h
   .cases h
   .rename_i E;rw[Zs E];split at h
    .grind
    .rename_i q;rw[Zs q];obtain⟨J,h2,h3⟩:=EP (l:=r) h
     grind
theorem Gt{b:Ba}{k:Nat}(h:verdict c us cnt ep b k=3):b.epoch=ep\/b.epoch=ep+1:=by
 unfold verdict at h;split at h
 .cases h
 .split at h
  .cases h
  .rename_i ho;unfold outside at ho
   grind
def meas(c:Cf)(us:List PB)(ws:List PW)(cnt ep:Nat):Nat:=ws.length+(us.length-ep)+((4294967298-lT c us cnt)/2).toNat
theorem TR{ws':List PW}{ob:Option PW}(s:Ac c us ws cnt ep)(ac:2<=c.step)(hz:cnt=0->ep=0)(h:jK c us ws cnt ep=(M (e,ob),ws')):meas c us ws' (cnt+1) e<meas c us ws cnt ep/\ep<=e/\e<us.length:=by
 have ae:=s.ep;have aa:=s.window;unfold jK at h;rw[Zs aA]at h;unfold meas;rw[GU];obtain⟨t,ht⟩:∃t,lT c us cnt=t:=⟨_,rfl⟩
 obtain⟨q,Y,ab⟩:=qM (judged c us cnt ep) ws;split at h
 .rename_i E;cases h;have h0:=hz E;have:=s.Zb (e:=0) aA
  have ag:lT c us cnt=BM us 0:=by
   unfold lT BM;rw[E];simp
  omega
 .split at h
  .rename_i b hb;obtain q|q|⟨b',af,q⟩:=q
   .grind
   .grind
   .rw[q]at hb;cases hb;obtain⟨h1,h2,h3⟩:=EP q;have h4:=Gt h1;have h5:=(s.batch _ h2).1
    grind
  .split at h
   .rename_i J;cases h;have I:ep+1<us.length:=by omega
    have:=s.Zb I;unfold alone
    grind
   .cases h
end
section
variable {c:Cf}{us:List PB}{ws rs:List PW}{cnt ep n:Nat}
theorem KJ{b:PW}(E:us.length≠0)(I:cnt≠0)(q:(pick (judged c us cnt ep) ws).1=(n,M b))(h2:(pick (judged c us cnt ep) ws).2=rs):jK c us ws cnt ep=(M (b.1.epoch,M b),rs):=by unfold jK;rw[Zs E,Zs I,q,h2]
theorem EU(E:us.length≠0)(I:cnt≠0)(q:(pick (judged c us cnt ep) ws).1=(n,Z))(h2:(pick (judged c us cnt ep) ws).2=rs)(h:n≠2/\(ep:Int)+c.window<((us.length-1:Nat):Int)):jK c us ws cnt ep=(M (alone c us cnt ep,Z),rs):=by unfold jK;rw[Zs E,Zs I,q,h2];dsimp only;rw[ZD h]
theorem xH(E:us.length≠0)(I:cnt≠0)(q:(pick (judged c us cnt ep) ws).1=(n,Z))(h2:(pick (judged c us cnt ep) ws).2=rs)(h:¬(n≠2/\(ep:Int)+c.window<((us.length-1:Nat):Int))):jK c us ws cnt ep=(Z,rs):=by unfold jK;rw[Zs E,Zs I,q,h2];dsimp only;rw[Zs h]
theorem tK{w:U}{lo:Nat}{v:aD}{l:List (List UInt8)}(h:Made w lo v l):∃a n c,v=.slice a n c:=by obtain⟨a,c,e⟩:=Row.slice h.1;exact⟨a,_,c,e⟩
theorem Gz(kb:Nat)(c:Cf)(vu:aD)(us:List PB)(dl:Nat->List (List UInt8))(nb:Nat)(vo vw:aD)(ws:List PW)(cnt ep sq:Nat)(w:U)(h:sD w kb c vu us dl nb vo vw ws cnt ep sq)(s:0<us.length->Ac c us ws cnt ep)(bm:sq<4294967296)(hdl:∀j,(dl j).length<=4294967296):Calls PQ 76 #[aM (M ⟨kb,0,Z⟩)] w (EC w kb c vu us dl nb vo vw cnt ep sq (jK c us ws cnt ep)):=by
 obtain⟨W,hW,au,ro⟩:=jI w #[N X 0,N X 0,N X 0,N X 0,N X 0,aR Z 0 0,aR Z 0 0,N X 0] 62;have hD:=h.below au;obtain⟨ua,bw,ay⟩:=hD.upper.slice;have c7:W.cell? ⟨kb,7,Z⟩=M (.slice ua us.length bw):=by rw[aI hD.obj,<-ay];rfl
 have c11:W.cell? ⟨kb,11,Z⟩=M (N X cnt):=nV hD.obj rfl;have b9:=(jG h.obj)
 have a3:=(jG ro)
 have I:jO (λk=>k=kb\/vw.ownBlock=M k) w W:=.below au jE _;by_cases hu:us.length=0
 .have b0:((us.length:Int) == 0)=bB:=by rw[hu];rfl
  obtain⟨r0,r1,r2,r3,r4,r5,r6,r7,rf⟩:=mJ ro;have hp:jK c us ws cnt ep=(Z,ws):=by unfold jK;rw[ZD hu]
  have H:cS _:=jD hD (jD I (jD ro hp));clear h hD I hp s ay au ro hu;go_enter (fq Tryz.func76 rfl),Tryz.ntmps76;go_upto_region 1 with fail;rw[<-hW];clear hW;go_wp2_with fail;obtain⟨hD,I,ro,hp⟩:=H.out;refine cM (v:=dC #[gP #[N X 0,N X 0,N X 0,N X 0,N X 0,aR Z 0 0,aR Z 0 0,N X 0],cF aL]) (by simp[results,ms,go_sem,r0,r1,r2,r3,r4,r5,r6,r7]) rfl ?_;exact zJ hp hD (λ_ hg=>hg) I ro _ _ _ _ _ _ _ _
 .have b0:((us.length:Int) == 0)=aL:=ZS aA;have s:=s aA;obtain⟨nn,q⟩:∃nn,us.length-1=nn:=⟨_,rfl⟩
  by_cases hc:cnt=0
  .have bz:((cnt:Int) == 0)=bB:=by rw[hc];rfl
   have hp:jK c us ws cnt ep=(M (0,Z),ws):=by unfold jK;rw[Zs hu,ZD hc]
   have hd:Calls PQ 122 #[aM (M ⟨kb,0,Z⟩),N X 0,aR Z 0 0] W _:=Ls kb c vu us dl nb vo vw ws cnt ep sq 0 Z 0 0 W hD s aA bm hdl;rw[q]at hd;have Hd:cS _:=hd;have H:cS _:=jD hD (jD I (jD ro (jD hp q)));have b2:0<us.length:=aA
   clear h hD I hp s ay au ro hd q hc hu;go_enter (fq Tryz.func76 rfl),Tryz.ntmps76;go_upto_region 1 with fail;rw[<-hW];clear hW;go_wp2_with (first|(go_at_call 122;refine aT Hd.out ?_;rintro x2 w2 ⟨vd,rfl,ac,ai,ae⟩;obtain⟨va,vn,vc,rfl⟩:=tK ac;have ab:=(ae.block _ a3 aA).trans H.out.2.2.1;obtain⟨r0,r1,r2,r3,r4,r5,r6,r7,rf⟩:=mJ ab;have H2:cS _:=jD ac (jD ai (jD ae ab));clear ac ai ae ab;unfold loV)|fail)
   obtain⟨hD,I,ro,hp,q⟩:=H.out;obtain⟨ac,ai,ae,ab⟩:=H2.out;refine cM (v:=dC #[gP #[N X cnt,N X (lT c us cnt),N X 0,N X (Ia us 0),N X (kE cnt ep sq 0),aR Z 0 0,.slice va vn vc,N X nn],cF bB]) (by simp[results,ms,go_sem,r0,r1,r2,r3,r4,r5,r6,r7]) rfl ?_;exact xX hp b2 ac (jv a3) (λb hb=>by simp at hb) ⟨_,hD.obj⟩ ai (λ_ hg=>hg) I ae ab _ _ _ _ _ _ _ _ (by rw[q];rfl)
  .have bz:((cnt:Int) == 0)=aL:=ZS aA;obtain⟨aj,am,a4⟩:=qM (judged c us cnt ep) ws;obtain⟨rs,ap⟩:∃rs,(pick (judged c us cnt ep) ws).2=rs:=⟨_,rfl⟩
   have ag:=Qz kb c vu us dl nb vo vw ws cnt ep sq W hD s;rw[ap]at ag am a4;have s2:=s.sub am a4;have bj:=jJ hD.wait ro aB;have a6:=λV vw' hV e he ta (tn tc:Nat)=>Ls kb c vu us dl nb vo vw' rs cnt ep sq e ta tn tc V hV s2 he bm hdl;rw[q]at a6;have bo:cS _:=a6;have ca:=s.len;obtain aj|aj|⟨b,hb,aj⟩:=aj
   .obtain⟨b4,b7⟩:=s.window;have b6:=s.ep;have hs:=s2;rw[aj]at ag;have ar:=λV hV=>yg kb c us cnt ep V hV aA;rw[q]at ar;have bg:cS _:=ar;clear ar;by_cases hw:(ep:Int)+c.window<(nn:Int)
    case' neg=>
     have ao:=xH hu hc aj ap (λh=>hw (by rw[<-q];exact h.2))
    case' pos=>
     have ao:=EU hu hc aj ap ⟨aB,by rw[q];exact hw⟩;have bu:ep+1<us.length:=aA
     obtain⟨al,bb⟩:∃al,alone c us cnt ep=al:=⟨_,rfl⟩
     have ba:al<us.length:=by rw[<-bb];unfold alone;split<;>omega
     have a2:=λV hV=>zL kb c us cnt ep V hV bu;rw[bb]at ao a2;have bs:cS _:=a2;clear a2 bb
    all_goals
     unfold zQ at ag;dsimp only at ag;have a5:cS _:=ag;have H:cS _:=jD hD (jD I (jD ro (jD ao (jD q hs))));clear h hD I ao s s2 hs ay au ro a6 ag q hc hu aj am a4 ap;go_enter (fq Tryz.func76 rfl),Tryz.ntmps76;go_upto_region 1 with fail;rw[<-hW];clear hW;go_upto_region 8 with(first|(go_at_call 123;refine aT a5.out ?_;rintro x1 w1 ⟨rfl,a8,af,E,J⟩;have Y:=(J.block _ a3 (by rintro(e|e);omega;exact bj e)).trans H.out.2.2.1;have a1:=(jG Y);have H1:cS _:=jD af (jD E (jD J Y));clear af E J Y)|fail)
     generalize hV:World.alloc _ _=V;have an:Below w1.heap.size w1 V:=by rw[<-hV];exact(aJ _ _).alloc jE _
     obtain⟨hD,I,ro,hp,q,hs⟩:=H.out;obtain⟨af,E,J,Y⟩:=H1.out;have ah:=(an.block _ a1).trans Y;have aa:=af.below an;have ak:=(I.trans J (λ_ _ e=>e)).trans (.below an jE _) (λ_ _ e=>e);have a9:=(jG ah)
     have b3:V.cell? ⟨kb,12,Z⟩=M (N X ep):=nV aa.obj rfl;have c3:V.cell? ⟨kb,3,Z⟩=M (N X c.window):=nV aa.obj rfl;have a7:=aa.look hs;have av:=λm=>bg.out _ (a7.below (below_drewN (aJ _ _) m))
    .have bl:=λV' b1=>bs.out V' (a7.below b1);have az:cS _:=av;have b5:cS _:=bl;have HV:cS _:=jD aa (jD ak (jD ah (jD hp (jD E q))));clear hV an hD I ro hp q hs af E J Y ah aa ak a7 av bl;go_quiet ((go_at_call 124;exact Calls.quiet_of (az.out _)));go_wp2_with (first|(go_at_call 125;refine aT (b5.out _ (below_drewN (aJ _ _) _)) ?_;rintro x3 w3 ⟨rfl,m3,br⟩;have ax:Below V.heap.size V w3:=(by rw[br];exact below_drewN (below_drewN (aJ _ _) _) _);clear br)|(go_at_call 122;refine aT (bo.out w3 a8 (HV.out.1.below ax) al ba Z 0 0) ?_;rintro x2 w2 ⟨vd,rfl,ac,ai,ae⟩;obtain⟨va,vn,vc,rfl⟩:=tK ac;have ab:=(ae.block _ (aP a9 ax.size) aA).trans ((ax.block _ a9).trans HV.out.2.2.1);obtain⟨r0,r1,r2,r3,r4,r5,r6,r7,rf⟩:=mJ ab;have H2:cS _:=jD ac (jD ai (jD ae ab));clear ac ai ae ab;unfold loV)|fail)
     obtain⟨aa,ak,ah,hp,E,q⟩:=HV.out;obtain⟨ac,ai,ae,ab⟩:=H2.out;refine cM (v:=dC #[gP #[N X cnt,N X (lT c us cnt),N X al,N X (Ia us al),N X (kE cnt ep sq al),aR Z 0 0,.slice va vn vc,N X nn],cF bB]) (by simp[results,ms,go_sem,r0,r1,r2,r3,r4,r5,r6,r7]) rfl ?_;exact xX hp ba ac (bH (jv a9) ax.size) (λb' bh=>by simp at bh) ⟨_,(aa.below ax).obj⟩ ai E (ak.trans (.below ax jE _) (λ_ _ e=>e)) ae ab _ _ _ _ _ _ _ _ (by rw[q];rfl)
    .have az:cS _:=av;obtain⟨r0,r1,r2,r3,r4,r5,r6,r7,rf⟩:=mJ ah;have HV:cS _:=jD aa (jD ak (jD ah (jD hp E)));clear hV an hD I ro hp q hs af E J Y ah aa ak a7 av;go_quiet ((go_at_call 124;exact Calls.quiet_of (az.out _)));go_wp2_with fail;obtain⟨aa,ak,ah,hp,E⟩:=HV.out;refine cM (v:=dC #[gP #[N X 0,N X 0,N X 0,N X 0,N X 0,aR Z 0 0,aR Z 0 0,N X 0],cF aL]) (by simp[results,ms,go_sem,r0,r1,r2,r3,r4,r5,r6,r7]) rfl ?_;exact zJ hp (aa.below (below_drewN (aJ _ _) _)) E (ak.trans (.below (below_drewN (aJ _ V) _) jE _) (λ_ _ e=>e)) ah _ _ _ _ _ _ _ _
   .have ao:=xH hu hc aj ap (λh=>h.1 rfl);have hs:=s2;rw[aj]at ag;unfold zQ at ag;dsimp only at ag;have a5:cS _:=ag;have H:cS _:=jD hD (jD I (jD ro (jD ao (jD q hs))));clear h hD I ao s s2 hs ay au ro a6 ag q hc hu aj am a4 ap;go_enter (fq Tryz.func76 rfl),Tryz.ntmps76;go_upto_region 1 with fail;rw[<-hW];clear hW;go_upto_region 8 with(first|(go_at_call 123;refine aT a5.out ?_;rintro x1 w1 ⟨rfl,a8,af,E,J⟩;have Y:=(J.block _ a3 (by rintro(e|e);omega;exact bj e)).trans H.out.2.2.1;have a1:=(jG Y);have H1:cS _:=jD af (jD E (jD J Y));clear af E J Y)|fail)
    generalize hV:World.alloc _ _=V;have an:Below w1.heap.size w1 V:=by rw[<-hV];exact(aJ _ _).alloc jE _
    obtain⟨hD,I,ro,hp,q,hs⟩:=H.out;obtain⟨af,E,J,Y⟩:=H1.out;have ah:=(an.block _ a1).trans Y;have aa:=af.below an;have ak:=(I.trans J (λ_ _ e=>e)).trans (.below an jE _) (λ_ _ e=>e);have a9:=(jG ah)
    have b3:V.cell? ⟨kb,12,Z⟩=M (N X ep):=nV aa.obj rfl;have c3:V.cell? ⟨kb,3,Z⟩=M (N X c.window):=nV aa.obj rfl;obtain⟨r0,r1,r2,r3,r4,r5,r6,r7,rf⟩:=mJ ah;have HV:cS _:=jD aa (jD ak (jD ah (jD hp E)));clear hV an hD I ro hp q hs af E J Y ah aa ak;go_quiet (fail);go_wp2_with fail;obtain⟨aa,ak,ah,hp,E⟩:=HV.out;refine cM (v:=dC #[gP #[N X 0,N X 0,N X 0,N X 0,N X 0,aR Z 0 0,aR Z 0 0,N X 0],cF aL]) (by simp[results,ms,go_sem,r0,r1,r2,r3,r4,r5,r6,r7]) rfl ?_;exact zJ hp (aa.below (below_drewN (aJ _ _) _)) E (ak.trans (.below (below_drewN (aJ _ V) _) jE _) (λ_ _ e=>e)) ah _ _ _ _ _ _ _ _
   .have aq:=hD.txs b hb;obtain⟨ta,tc,aw⟩:=Row.slice aq;obtain⟨tn,bk⟩:∃n,b.1.txs.length=n:=⟨_,rfl⟩
    rw[bk]at aw;have bx:=(s.batch b hb).1;have ao:=KJ hu hc aj ap;rw[aj]at ag;unfold zQ QE at ag;dsimp only at ag;rw[aw]at ag;have a5:cS _:=ag;have H:cS _:=jD hD (jD I (jD ro (jD ao (jD q (jD aq aw)))));clear h hD I ao s s2 ay au ro a6 ag q hc hu aj am a4 aq aw bk hb ap;go_enter (fq Tryz.func76 rfl),Tryz.ntmps76;go_upto_region 1 with fail;rw[<-hW];clear hW;go_wp2_with (first|(go_at_call 123;refine aT a5.out ?_;rintro x1 w1 ⟨rfl,a8,af,E,J⟩;have Y:=(J.block _ a3 (by rintro(e|e);omega;exact bj e)).trans H.out.2.2.1;have a1:=(jG Y);have H1:cS _:=jD af (jD E (jD J Y));clear af E J Y)|(go_at_call 122;refine aT (bo.out _ a8 (H1.out.1.below ((aJ _ _).alloc jE _)) _ bx ta tn tc) ?_;rintro x2 w2 ⟨vd,rfl,ac,ai,ae⟩;obtain⟨va,vn,vc,rfl⟩:=tK ac;have ab:=(ae.block _ aF aA).trans ((aZ w1 _ _ a1).trans H1.out.2.2.2);obtain⟨r0,r1,r2,r3,r4,r5,r6,r7,rf⟩:=mJ ab;have H2:cS _:=jD ac (jD ai (jD ae ab));clear ac ai ae ab;unfold loV)|fail)
    obtain⟨hD,I,ro,hp,q,aq,aw⟩:=H.out;obtain⟨af,E,J,Y⟩:=H1.out;obtain⟨ac,ai,ae,ab⟩:=H2.out;refine cM (v:=dC #[gP #[N X cnt,N X (lT c us cnt),N X b.1.epoch,N X (Ia us b.1.epoch),N X (kE cnt ep sq b.1.epoch),.slice ta tn tc,.slice va vn vc,N X nn],cF bB]) (by simp[results,ms,go_sem,r0,r1,r2,r3,r4,r5,r6,r7]) rfl ?_
    have bq:kX w1 b.2 b.1.txs:=Row.jR aq J (λg hg e=>by
     obtain e|e:=e
     .exact jJ aq hD.obj aB (by rw[hg,e])
     .obtain⟨b8,bv⟩:=hD.wait.obj e;exact jJ aq bv aB hg)
    have bd:=(aJ _ w1).alloc jE (aG #[N X b.1.epoch,N X b.1.id,N X b.1.time,.slice ta tn tc,N X b.1.place] 150);exact xX hp bx ac aF (λb' bh=>by cases bh;exact Row.below bq bd) ⟨_,(af.below bd).obj⟩ ai E ((I.trans J (λ_ _ e=>e)).trans (.below bd jE _) (λ_ _ e=>e)) ae ab _ _ _ _ _ _ _ _ (by rw[q];rw[show ET (M b)=b.2 from rfl,aw];rfl)
end
end Hm
