import Derived.Test.YtpibpdpedjinhaaGreatDoorP24
set_option maxRecDepth 100000
set_option maxHeartbeats 8000000
set_option linter.unusedSimpArgs false
namespace Go.Proofs.YtpibpdpedjinhaaGreatDoor
namespace Hm
open Go.RowKit Go.Joins Go.Shelf
open Fr (below_drewN)
open Dv (U Cf Ba)
section
variable {w:World}{kb nb cnt ep sq R:Nat}{vu vo vw v0 v1 v2 v3 v4 v5 v6 v7:Value}{us:List PB}{dl:Nat->List (List UInt8)}{ws:List PW}{ty:TypeId}
def Yz(num:Nat)(time:Int)(ep:Nat)(id:Int)(sq:Nat)(z vd:Value)(at_:Nat):Value:=.agg #[.int .i64 num,.int .i64 time,.int .i64 ep,.int .i64 id,.int .i64 sq,z,vd,.int .i64 at_]
def jX(cnt ep sq e:Nat):Nat:=if 0<cnt/\e=ep then sq+1 else 0
theorem qJ.turn{c:Cf}(h:qJ w kb c vu us dl nb vo vw ws cnt ep sq){w':World}{z J I:Nat}(Y:jJ (λk=>k=kb) w w')(ho:w'.heap[kb]? =some (.cells (jK c vu nb vo vw z J I) 137 (0,0))):qJ w' kb c vu us dl nb vo vw ws z J I:=
 ⟨ho,h.upper.jO Y (λg E e=>jF h.upper h.obj (by decide) (by rw[E,e])),h.wait.jO Y (λg E e=>jF h.wait h.obj (by decide) (by rw[E,e])),λj p hp=>Row.jO (h.deps j p hp) Y (λg E e=>jF (h.deps j p hp) h.obj (by decide) (by rw[E,e])),λp hp=>Row.jO (h.txs p hp) Y (λg E e=>jF (h.txs p hp) h.obj (by decide) (by rw[E,e]))⟩
def qM(w:World)(R:Nat)(a b c d e f g h:Value):World:=(((((((w.setCell ⟨R,0,none⟩ a).setCell ⟨R,1,none⟩ b).setCell ⟨R,2,none⟩ c).setCell ⟨R,3,none⟩ d).setCell ⟨R,4,none⟩ e).setCell ⟨R,5,none⟩ f).setCell ⟨R,6,none⟩ g).setCell ⟨R,7,none⟩ h
theorem kL(w:World)(R:Nat)(a b c d e f g h:Value):jJ (λk=>k=R) w (qM w R a b c d e f g h):=
 (((((((jJ.set w R 0 a).trans (jJ.set _ R 1 b) (λ_ _ e=>e)).trans (jJ.set _ R 2 c) (λ_ _ e=>e)).trans (jJ.set _ R 3 d) (λ_ _ e=>e)).trans (jJ.set _ R 4 e) (λ_ _ e=>e)).trans (jJ.set _ R 5 f) (λ_ _ e=>e)).trans (jJ.set _ R 6 g) (λ_ _ e=>e)).trans (jJ.set _ R 7 h) (λ_ _ e=>e)
theorem CP(h:w.heap[R]? =some (.cells #[v0,v1,v2,v3,v4,v5,v6,v7] ty (0,0)))(a b c d e f g i:Value):(qM w R a b c d e f g i).heap[R]? =some (.cells #[a,b,c,d,e,f,g,i] ty (0,0)):=by
 have:=jT (jT (jT (jT (jT (jT (jT (jT h 0 a) 1 b) 2 c) 3 d) 4 e) 5 f) 6 g) 7 i;simpa[qM]using this
theorem Vq{V:World}{c:Cf}{lo:Nat}{vd:Value}{l:List (List UInt8)}(h:qJ V kb c vu us dl nb vo vw ws cnt ep sq)(hm:Made V lo vd l){rc:Array Value}(hR:V.heap[R]? =some (.cells rc 62 (0,0)))(x0 x1 x2 x3 x4 x5 x6 x7:Value):
  qJ (qM (V.setCell ⟨kb,11,none⟩ (.int .i64 ((cnt:Int)+1))) R x0 x1 x2 x3 x4 x5 x6 x7) kb c vu us dl nb vo vw ws (cnt+1) ep sq/\Made (qM (V.setCell ⟨kb,11,none⟩ (.int .i64 ((cnt:Int)+1))) R x0 x1 x2 x3 x4 x5 x6 x7) lo vd l:=by
 have aa:kb≠R:=λe=>by have:=h.obj;rw[e,hR]at this;simp at this
 have E:=jJ.set V kb 11 (.int .i64 ((cnt:Int)+1))
 have h1:qJ (V.setCell ⟨kb,11,none⟩ (.int .i64 ((cnt:Int)+1))) kb c vu us dl nb vo vw ws (cnt+1) ep sq:=by
  refine h.turn E ?_;have:=jT h.obj 11 (.int .i64 ((cnt:Int)+1));simpa[jK]using this
 have Y:Row (V.setCell ⟨kb,11,none⟩ (.int .i64 ((cnt:Int)+1))) 9 1 vd l.length (l.map nZ):=hm.1.jO E (λg I e=>jF hm.1 h.obj (by decide) (by rw[I,e]));have z:(V.setCell ⟨kb,11,none⟩ (.int .i64 ((cnt:Int)+1))).heap[R]? =some (.cells rc 62 (0,0)):=(aP _ _ _ _ (λe=>aa e.symm)).trans hR;have J:=kL (V.setCell ⟨kb,11,none⟩ (.int .i64 ((cnt:Int)+1))) R x0 x1 x2 x3 x4 x5 x6 x7;refine⟨h1.jO J aa (λg I e=>jF h1.upper z (by decide) (by rw[I,e])) (λg I e=>jF h1.wait z (by decide) (by rw[I,e])) (λg cs fz ab e=>?_),Y.jO J (λg I e=>jF Y z (by decide) (by rw[I,e])),hm.2⟩;rw[e,z]at ab;simp at ab
theorem kX{W:World}{b:Nat}(h:W.heap[b]? =some (.cells #[v0,v1,v2,v3,v4,v5,v6,v7] ty (0,0))):W.cell? ⟨b,0,none⟩=some v0/\W.cell? ⟨b,1,none⟩=some v1/\W.cell? ⟨b,2,none⟩=some v2/\W.cell? ⟨b,3,none⟩=some v3/\W.cell? ⟨b,4,none⟩=some v4/\W.cell? ⟨b,5,none⟩=some v5/\W.cell? ⟨b,6,none⟩=some v6/\W.cell? ⟨b,7,none⟩=some v7/\(∀o,W.frozen? ⟨b,o,none⟩=false):=
 ⟨by rw[aA h];rfl,by rw[aA h];rfl,by rw[aA h];rfl,by rw[aA h];rfl,by rw[aA h];rfl,by rw[aA h];rfl,by rw[aA h];rfl,by rw[aA h];rfl,aI h⟩
theorem II(kb:Nat)(c:Cf)(vu:Value)(us:List PB)(dl:Nat->List (List UInt8))(nb:Nat)(vo vw:Value)(ws:List PW)(cnt ep sq e:Nat)(ta:Option Addr)(tn tc:Nat)(w:World)(h:qJ w kb c vu us dl nb vo vw ws cnt ep sq)(s:yL c us ws cnt ep)(he:e<us.length)(b8:sq<4294967296)(hdl:∀j,(dl j).length<=4294967296):
  Calls PQ 122 #[.pointer (some ⟨kb,0,none⟩),.int .i64 e,.slice ta tn tc] w λx w'=>∃vd,x=.returned (Yz cnt (lF c us cnt) e (Ey us e) (jX cnt ep sq e) (.slice ta tn tc) vd (us.length-1))/\Made w' w.heap.size vd (if jX cnt ep sq e=0 then dl e else [])/\qJ w' kb c vu us dl nb vo vw ws (cnt+1) e (jX cnt ep sq e)/\jJ (λk=>k=kb) w w':=by
 obtain⟨W,hW,ax,ro⟩:=jE w #[.int .i64 0,.int .i64 0,.int .i64 0,.int .i64 0,.int .i64 0,.slice none 0 0,.slice none 0 0,.int .i64 0] 62;have hD:=h.below ax;have c11:W.cell? ⟨kb,11,none⟩=some (.int .i64 cnt):=nM hD.obj rfl;have bx:W.cell? ⟨kb,12,none⟩=some (.int .i64 ep):=nM hD.obj rfl;have a0:W.cell? ⟨kb,13,none⟩=some (.int .i64 sq):=nM hD.obj rfl;have fk:=aI hD.obj;obtain⟨q,hq⟩:∃q,jX cnt ep sq e=q:=⟨_,rfl⟩
 rw[hq];unfold jX at hq;obtain⟨ld,a3⟩:∃ld,(if q=0 then dl e else [])=ld:=⟨_,rfl⟩
 rw[a3];have bp:Hid _:=a3;clear a3;have H:Hid _:=jw hD (jw ax (jw ro (jw s (jw hq hdl))));have cg:=s.cnt;have cb:=s.len;have cd:kb<w.heap.size:=(jC h.obj)
 clear hD ax ro s hq h hdl;go_enter (fq Tryz.func122 rfl),Tryz.ntmps122;go_upto_region 1 with fail;rw[<-hW];clear hW;obtain⟨b,hb⟩:∃b,decide (0<cnt/\e=ep)=b:=⟨_,rfl⟩
 have Hb:Hid _:=hb;clear hb;go_cut [21] (λv wx=>v=.bool b/\wx=W)
 case first=>
  by_cases h0:0<cnt
  ·have b1:(0:Int)<(cnt:Int):=by omega
   by_cases h1:e=ep
   ·have b3:((e:Int) == (ep:Int))=true:=by rw[h1];simp
    have H1:Hid _:=jw h0 h1;clear h1 h0;go_wp2_with fail;go_meet;refine⟨?_,rfl⟩;rw[<-Hb.out,decide_eq_true H1.out]
   ·have b3:((e:Int) == (ep:Int))=false:=beq_false_of_ne (by omega);have H1:Hid _:=h1;clear h1;go_wp2_with fail;go_meet;refine⟨?_,rfl⟩;rw[<-Hb.out,decide_eq_false (λh=>H1.out h.2)]
  ·have b1:¬(0:Int)<(cnt:Int):=by omega
   have H1:Hid _:=h0;clear h0;go_wp2_with fail;go_meet;refine⟨?_,rfl⟩;rw[<-Hb.out,decide_eq_false (λh=>H1.out h.1)]
 case rest=>
  obtain⟨rfl,av⟩:=hcut;have au:=av.symm;clear av;subst au;go_upto_if 21 with fail;go_cut [22] (λ_ wx=>Hid (qJ wx kb c vu us dl nb vo vw ws cnt e q/\jJ (λk=>k=kb) W wx))
  case first=>
   cases b
   ·go_wp2_with fail;go_meet;obtain⟨hD,ax,ro,s,hq,hdl⟩:=H.out;have Y:q=0:=by rw[<-hq,if_neg (of_decide_eq_false Hb.out)]
    subst Y;have hc:jJ (λk=>k=kb) W ((W.setCell ⟨kb,12,none⟩ (.int .i64 e)).setCell ⟨kb,13,none⟩ (.int .i64 0)):=(jJ.set _ kb 12 _).trans (jJ.set _ kb 13 _) (λ_ _ e=>e);refine⟨hD.turn hc ?_,hc⟩;have:=jT (jT hD.obj 12 (.int .i64 e)) 13 (.int .i64 0);simpa[jK]using this
   ·go_wp2_with fail;go_meet;obtain⟨hD,ax,ro,s,hq,hdl⟩:=H.out;obtain⟨bz,bo⟩:=of_decide_eq_true Hb.out;have Y:q=sq+1:=by rw[<-hq,if_pos ⟨bz,bo⟩]
    subst Y bo;have hc:jJ (λk=>k=kb) W (W.setCell ⟨kb,13,none⟩ (.int .i64 ((sq:Int)+1))):=jJ.set _ kb 13 _;refine⟨hD.turn hc ?_,hc⟩;have:=jT hD.obj 13 (.int .i64 ((sq:Int)+1));simpa[jK]using this
  case rest=>
   obtain⟨Vc,bu⟩:∃V,V=wc:=⟨_,rfl⟩
   subst bu;clear c11 bx a0 fk;obtain⟨an,ah⟩:=hcut.out;have E:Vc.heap[w.heap.size]? =_:=(ah.block _ (jC H.out.2.2.1) (by omega)).trans H.out.2.2.1;obtain⟨g,off,cap,ba,cc⟩:=an.upper.pos (by omega);obtain⟨p,hp⟩:∃p,us[e]? =some p:=⟨_,aG he⟩
   obtain⟨da,aj,a6⟩:=Row.slice (an.deps e p hp);have aw:=an.upper.rd;rw[ba]at aw;have k0:Vc.cell? ⟨g,off+e*3,none⟩=some (.int .i64 p.1):=Rd.rec qc 3 (λ_=>rfl) aw hp (i:=0) (u:=.int .i64 p.1) (by omega) rfl
   have k1:Vc.cell? ⟨g,off+e*3+1,none⟩=some (.int .i64 p.2.1):=by
    have:=Rd.rec qc 3 (λ_=>rfl) aw hp (i:=1) (u:=.int .i64 p.2.1) (by omega) rfl;rw[<-dO]at this;exact this
   have k2:Vc.cell? ⟨g,off+e*3+2,none⟩=some (.slice da (dl e).length aj):=by
    have:=Rd.rec qc 3 (λ_=>rfl) aw hp (i:=2) (u:=.slice da (dl e).length aj) (by omega) (by rw[<-a6];rfl);rw[<-dO]at this;exact this
   have c7:Vc.cell? ⟨kb,7,none⟩=some (.slice (some ⟨g,off,none⟩) us.length cap):=by rw[aA an.obj,<-ba];rfl
   have b9:(e:Int)<us.length:=by omega
   obtain⟨X,hX,ac,uo⟩:=jE Vc #[.int .i64 p.1,.int .i64 p.2.1,.slice da (dl e).length aj] 139;have z:=an.below ac;have bj:yL c us ws cnt e:=⟨H.out.2.2.2.1.times,H.out.2.2.2.1.step,H.out.2.2.2.1.drift,H.out.2.2.2.1.window,H.out.2.2.2.1.cnt,H.out.2.2.2.1.len,H.out.2.2.2.1.wlen,he,H.out.2.2.2.1.batch⟩
   have a5:=z.look bj;have a7:=λ(V:World)(hV:Below X.heap.size X V)=>Dj kb c us cnt e V (a5.below hV) (by omega);have a9:=λ(V:World)(hV:Below X.heap.size X V)=>nC kb c us cnt e V (a5.below hV) (by omega);obtain⟨t,ht⟩:∃t,lF c us cnt=t:=⟨_,rfl⟩
   obtain⟨nn,ag⟩:∃nn,us.length-1=nn:=⟨_,rfl⟩
   have hI:=FT hp;obtain⟨pi,bn⟩:∃x,p.1=x:=⟨_,rfl⟩
   rw[ht]at a7;rw[ag]at a9;rw[bn]at hI uo hX k0;have bd:X.cell? ⟨kb,11,none⟩=some (.int .i64 cnt):=nM z.obj rfl;have bb:X.cell? ⟨kb,13,none⟩=some (.int .i64 q):=nM z.obj rfl;have u0:=nO uo;have bh:Vc.heap.size<X.heap.size:=(jC uo)
   have bg:kb<X.heap.size:=(jC z.obj)
   have bw:Hid _:=a7;have b0:Hid _:=a9;have ab:kM X (.slice da (dl e).length aj) (dl e):=by have:=z.deps e p hp;rw[a6]at this;exact this
   have H2:Hid _:=jw z (jw uo (jw ab (jw ac (jw E (jw ah (jw hp (jw hI (jw ht ag))))))));clear ab an ah E aw hp a6 ba z bj a5 a7 a9 uo ac hI ht ag bn hcut;go_upto_region 5 with fail;rw[<-hX];clear hX k0 k1 k2 c7;have aa:=aB X.heap.size X;have hS:∀V,Below X.heap.size X V->V.cell? ⟨kb,11,none⟩=some (.int .i64 cnt)/\V.cell? ⟨kb,13,none⟩=some (.int .i64 q)/\V.cell? ⟨Vc.heap.size,0,none⟩=some (.int .i64 pi):=λV hV=>⟨(hV.cell (p:=⟨kb,11,none⟩) bg).trans bd,(hV.cell (p:=⟨kb,13,none⟩) bg).trans bb,(hV.cell (p:=⟨Vc.heap.size,0,none⟩) bh).trans u0⟩
   have HS:Hid _:=hS;clear hS;go_cut [8] (λv wx=>Hid (v=.pointer (some ⟨X.heap.size,0,none⟩)/\wx.heap[X.heap.size]? =some (.cells #[.int .i64 cnt,.int .i64 t,.int .i64 e,.int .i64 pi,.int .i64 q,.slice ta tn tc,.slice none 0 0,.int .i64 nn] 62 (0,0))/\Below X.heap.size X wx))
   case first=>
    go_region_held3 (λV=>V.cell? ⟨kb,11,none⟩=some (.int .i64 cnt)/\V.cell? ⟨kb,13,none⟩=some (.int .i64 q)/\V.cell? ⟨Vc.heap.size,0,none⟩=some (.int .i64 pi))
     ((refine HS.out _ ?_;(repeat (with_reducible refine Below.setCell ?_ (p:=_) (by first|exact jA|exact J.size|exact I.size) _));first|exact I|exact I.alloc I.size _|exact J|exact J.alloc J.size _|exact aa.drew|exact(aa.drew.alloc jA _)|exact(aa.alloc jA _).drew))
     (first|(go_at_call 178;(refine aK (bw.out _ ?_) ?_;(first|exact aa.drew|exact aa.drew.alloc jA _|exact(aa.alloc jA _).drew);rintro e5 w5 ⟨rfl,m5,aq⟩;have J:Below X.heap.size X w5:=(by rw[aq];first|exact below_drewN aa.drew _|exact below_drewN (aa.drew.alloc jA _) _|exact below_drewN (aa.alloc jA _).drew _);(first|(have bk:w5.heap.size=X.heap.size:=(by rw[aq];rfl))|(have bl:w5.heap[X.heap.size]? =some (.cells #[.int .i64 0,.int .i64 0,.int .i64 0,.int .i64 0,.int .i64 0,.slice none 0 0,.slice none 0 0,.int .i64 0] 62 (0,0)):=(by rw[aq];exact heap_alloc_new _ _);obtain⟨y0,y1,y2,y3,y4,y5,y6,y7,yf⟩:=kX bl));have ci:Hid _:=aq;clear aq))|(go_at_call 124;(refine aK (b0.out _ ?_) ?_;(first|exact J|exact J.alloc J.size _);rintro e6 w6 ⟨rfl,m6,ai⟩;have I:Below X.heap.size X w6:=(by rw[ai];first|exact below_drewN J _|exact below_drewN (J.alloc J.size _) _);(first|(have ap:w6.heap[X.heap.size]? =some (.cells #[.int .i64 0,.int .i64 0,.int .i64 0,.int .i64 0,.int .i64 0,.slice none 0 0,.slice none 0 0,.int .i64 0] 62 (0,0)):=(by rw[ai];exact bl);obtain⟨x0,x1,x2,x3,x4,x5,x6,x7,xf⟩:=kX ap)|(have ap:w6.heap[X.heap.size]? =some (.cells #[.int .i64 0,.int .i64 0,.int .i64 0,.int .i64 0,.int .i64 0,.slice none 0 0,.slice none 0 0,.int .i64 0] 62 (0,0)):=(by rw[ai,<-bk];exact heap_alloc_new _ _);obtain⟨x0,x1,x2,x3,x4,x5,x6,x7,xf⟩:=kX ap)|(have bv:w6.heap.size=X.heap.size:=(by rw[ai];exact bk)));have cf:Hid _:=ai;clear ai))|fail)
    ·go_wp2_with fail;go_meet;exact⟨rfl,by rw[<-bv];exact heap_alloc_new _ _,I.alloc I.size _⟩
    ·go_wp2_with fail;go_meet;exact⟨rfl,CP ap _ _ _ _ _ _ _ _,I.trans ⟨(kL w6 X.heap.size _ _ _ _ _ _ _ _).os,(kL w6 X.heap.size _ _ _ _ _ _ _ _).tape,(kL w6 X.heap.size _ _ _ _ _ _ _ _).output,(kL w6 X.heap.size _ _ _ _ _ _ _ _).size,λk hk=>(kL w6 X.heap.size _ _ _ _ _ _ _ _).block k (aH hk I.size) (iI hk)⟩⟩
    ·go_wp2_with fail;go_meet;exact⟨rfl,CP ap _ _ _ _ _ _ _ _,I.trans ⟨(kL w6 X.heap.size _ _ _ _ _ _ _ _).os,(kL w6 X.heap.size _ _ _ _ _ _ _ _).tape,(kL w6 X.heap.size _ _ _ _ _ _ _ _).output,(kL w6 X.heap.size _ _ _ _ _ _ _ _).size,λk hk=>(kL w6 X.heap.size _ _ _ _ _ _ _ _).block k (aH hk I.size) (iI hk)⟩⟩
   case rest=>
    obtain⟨rfl,a4,am⟩:=hcut.out;clear bd bb u0;obtain⟨c11,a0,_⟩:=HS.out wc am;have u2:wc.cell? ⟨Vc.heap.size,2,none⟩=some (.slice da (dl e).length aj):=(am.cell (p:=⟨Vc.heap.size,2,none⟩) bh).trans (by rw[aA H2.out.2.1];rfl);obtain⟨l0,l1,l2,l3,l4,l5,l6,l7,lf⟩:=kX a4;have b6:Below X.heap.size X wc:=am;have HC:Hid _:=LW (.slice da (dl e).length aj) (dl e) wc (Row.below H2.out.2.2.1 am) (H.out.2.2.2.2.2 e);have HL:Hid _:=jw a4 am;clear a4 am hcut;obtain⟨bq,br⟩:∃b,decide (q=0)=b:=⟨_,rfl⟩
    have Hq:Hid _:=br;clear br;obtain⟨Wc,bs⟩:∃V,V=wc:=⟨_,rfl⟩
    subst bs;go_upto_region 6 with fail;go_cut [64] (λv wx=>v=.bool bq/\wx=Wc)
    case first=>
     by_cases Y:q=0
     ·have b2:((q:Int) == 0)=true:=by rw[Y];rfl
      have a8:Hid _:=Y;clear Y;go_wp2_with fail;go_meet;refine⟨?_,rfl⟩;rw[<-Hq.out,decide_eq_true a8.out]
     ·have b2:((q:Int) == 0)=false:=beq_false_of_ne (by omega);have a8:Hid _:=Y;clear Y;go_wp2_with fail;go_meet;refine⟨?_,rfl⟩;rw[<-Hq.out,decide_eq_false a8.out]
    case rest=>
     obtain⟨rfl,av⟩:=hcut;have au:=av.symm;clear av;subst au;go_upto_if 64 with fail;go_cut [8] (λv wx=>Hid (∃va vn vc,v=.pointer (some ⟨X.heap.size,0,none⟩)/\wx.heap[X.heap.size]? =some (.cells #[.int .i64 cnt,.int .i64 t,.int .i64 e,.int .i64 pi,.int .i64 q,.slice ta tn tc,.slice va vn vc,.int .i64 nn] 62 (0,0))/\Made wx X.heap.size (.slice va vn vc) ld/\Below X.heap.size X wx))
     case first=>
      cases bq
      ·go_wp2_with fail;go_meet;refine⟨none,0,0,rfl,HL.out.1,?_,HL.out.2⟩;rw[<-bp.out,if_neg (of_decide_eq_false Hq.out)];exact⟨Row.nil _ _ _,by simp[Value.ownBlock]⟩
      ·go_wp2_with (first|(go_at_call 130;refine aK HC.out ?_;rintro e7 w7 ⟨va,vc,rfl,ak,ay⟩;have ao:=(ay.block X.heap.size (jC HL.out.1)).trans HL.out.1;obtain⟨k0,k1,k2,k3,k4,k5,k6,k7,kf⟩:=kX ao;have HM:Hid _:=jw ak (jw ay ao);clear ak ay ao)|fail)
       go_meet;obtain⟨ak,ay,ao⟩:=HM.out;refine⟨va,(dl e).length,vc,rfl,?_,?_,?_⟩
       ·have:=jT ao 6 (.slice va (dl e).length vc);simpa using this
       ·rw[<-bp.out,if_pos (of_decide_eq_true Hq.out)];exact⟨ak.1.jO (jJ.set _ X.heap.size 6 _) (λg hg e=>jF ak.1 ao (by decide) (by rw[hg,e])),λg hg=>aW HL.out.2.size (ak.2 g hg)⟩
       ·exact(HL.out.2.trans (ay.mono HL.out.2.size)).setCell jA _
     case rest=>
      obtain⟨va,vn,vc,rfl,az,a1,af⟩:=hcut.out;clear hcut c11 a0 u2 l0 l1 l2 l3 l4 l5 l6 l7 lf;obtain⟨c11,a0,_⟩:=HS.out wc af;obtain⟨l0,l1,l2,l3,l4,l5,l6,l7,lf⟩:=kX az;obtain⟨z,uo,ab,ac,E,ah,hp,hI,ht,ag⟩:=H2.out;have b5:w.heap.size<Vc.heap.size:=(jC E)
      have a2:X.heap[w.heap.size]? =_:=(ac.block _ b5).trans E;have ae:wc.heap[w.heap.size]? =_:=(af.block _ (by omega)).trans a2;obtain⟨r0,r1,r2,r3,r4,r5,r6,r7,rf⟩:=kX ae;have ar:=z.below af;have fk:=aI ar.obj;have H8:Hid _:=jw ar (jw a1 (jw af (jw ae az)));have ce:kb≠w.heap.size:=by omega
      have b7:kb≠X.heap.size:=by omega
      have ca:w.heap.size≠X.heap.size:=by omega
      clear az a1 af ae a2 ar z uo ab ac E ah hp hI ht ag;go_wp2_with fail;obtain⟨ar,a1,af,ae,az⟩:=H8.out;obtain⟨z,uo,ab,ac,E,ah,hp,hI,ht,ag⟩:=H2.out;obtain⟨b4,bm⟩:=Vq ar a1 ae (.int .i64 cnt) (.int .i64 t) (.int .i64 e) (.int .i64 pi) (.int .i64 q) (.slice ta tn tc) (.slice va vn vc) (.int .i64 nn);refine bodyPost_ret (v:=.agg #[.int .i64 cnt,.int .i64 t,.int .i64 e,.int .i64 pi,.int .i64 q,.slice ta tn tc,.slice va vn vc,.int .i64 nn]) (by simp[results,Tryz.results122,go_sem,r0,r1,r2,r3,r4,r5,r6,r7]) rfl ⟨.slice va vn vc,?_,⟨bm.1,λg hg=>aW (by omega) (bm.2 g hg)⟩,b4,?_⟩
      ·rw[ht,hI,ag];rfl
      ·exact((((((jJ.below H.out.2.1 jA (λk=>k=kb)).trans ah (λ_ _ e=>e)).trans (jJ.below ac jA (λk=>k=kb)) (λ_ _ e=>e)).trans (jJ.below af jA (λk=>k=kb)) (λ_ _ e=>e)).trans (jJ.set _ kb 11 _) (λ_ _ e=>e)).trans (kL _ w.heap.size _ _ _ _ _ _ _ _) (λk hk e=>by omega))
end
section
variable {c:Cf}{us:List PB}{ws ws':List PW}{cnt ep kb nb sq R:Nat}{V w:World}{vu vo vw vw':Value}{dl:Nat->List (List UInt8)}{rc:Array Value}
theorem pU(V:PW->Nat):∀l:List PW,((pick V l).1=(0,none)\/(pick V l).1=(2,none)\/∃b,b∈l/\(pick V l).1=(3,some b))/\(∀p,p∈(pick V l).2->p∈l)/\(pick V l).2.length<=l.length
 |[]=>⟨.inl rfl,λ_ h=>h,jA⟩
 |b::r=>by
  obtain⟨E,h2,h3⟩:=pU V r;unfold pick;split
  ·refine⟨?_,?_,by simp;omega⟩
   ·rcases E with h|h|⟨x,z,h⟩
    ·exact .inl h
    ·exact .inr (.inl h)
    ·exact .inr (.inr ⟨x,bT _ z,h⟩)
   ·intro p hp;rcases bV.1 hp with e|h
    ·rw[e];exact dK
    ·exact bT _ (h2 p h)
  ·split
   ·exact⟨.inr (.inl rfl),λ_ h=>h,jA⟩
   ·split
    ·exact⟨.inr (.inr ⟨b,dK,rfl⟩),λp h=>bT _ h,by simp⟩
    ·refine⟨?_,λp h=>bT _ (h2 p h),by simp;omega⟩;rcases E with h|h|⟨x,z,h⟩
     ·exact .inl h
     ·exact .inr (.inl h)
     ·exact .inr (.inr ⟨x,bT _ z,h⟩)
theorem yL.sub(s:yL c us ws cnt ep)(h:∀p,p∈ws'->p∈ws)(z:ws'.length<=ws.length):yL c us ws' cnt ep:=
 ⟨s.times,s.step,s.drift,s.window,s.cnt,s.len,aW z s.wlen,s.ep,λp hp=>s.batch p (h p hp)⟩
def jH(c:Cf)(us:List PB)(ws:List PW)(cnt ep:Nat):Option (Nat×Option PW)×List PW:=
 if us.length=0 then(none,ws)else if cnt=0 then(some (0,none),ws)else
  match (pick (judged c us cnt ep) ws).1.2 with
  |some b=>(some (b.1.epoch,some b),(pick (judged c us cnt ep) ws).2)
  |none=>if (pick (judged c us cnt ep) ws).1.1≠2/\(ep:Int)+c.window<((us.length-1:Nat):Int)then(some (alone c us cnt ep,none),(pick (judged c us cnt ep) ws).2)else(none,(pick (judged c us cnt ep) ws).2)
def YF:Option PW->Value
 |some b=>b.2
 |none=>.slice none 0 0
def lo0:Value:=.agg #[.int .i64 0,.int .i64 0,.int .i64 0,.int .i64 0,.int .i64 0,.slice none 0 0,.slice none 0 0,.int .i64 0]
def BQ(w:World)(kb:Nat)(c:Cf)(vu:Value)(us:List PB)(dl:Nat->List (List UInt8))(nb:Nat)(vo vw:Value)(cnt ep sq:Nat)(r:Option (Nat×Option PW)×List PW)(x:Ending)(w':World):Prop:=
 (match r.1 with
  |none=>x=.returned (.tuple #[lo0,.bool false])/\∃vw',qJ w' kb c vu us dl nb vo vw' r.2 cnt ep sq/\∀g,vw'.ownBlock=some g->vw.ownBlock=some g
  |some o=>o.1<us.length/\∃vd,x=.returned (.tuple #[Yz cnt (lF c us cnt) o.1 (Ey us o.1) (jX cnt ep sq o.1) (YF o.2) vd (us.length-1),.bool true])/\Made w' w.heap.size vd (if jX cnt ep sq o.1=0 then dl o.1 else [])/\(∀b,o.2=some b->kM w' b.2 b.1.txs)/\∃vw',qJ w' kb c vu us dl nb vo vw' r.2 (cnt+1) o.1 (jX cnt ep sq o.1)/\∀g,vw'.ownBlock=some g->vw.ownBlock=some g)
 /\jJ (λk=>k=kb\/vw.ownBlock=some k) w w'
theorem Az(h:qJ V kb c vu us dl nb vo vw ws cnt ep sq)(E:V.heap[R]? =some (.cells rc 62 (0,0)))(Y x1 x2 x3 x4 x5 x6 x7:Value):
  qJ (qM V R Y x1 x2 x3 x4 x5 x6 x7) kb c vu us dl nb vo vw ws cnt ep sq:=by
 have I:kb≠R:=λe=>by have:=h.obj;rw[e,E]at this;simp at this
 refine h.jO (kL V R Y x1 x2 x3 x4 x5 x6 x7) I (λg J e=>jF h.upper E (by decide) (by rw[J,e])) (λg J e=>jF h.wait E (by decide) (by rw[J,e])) (λg cs fz z e=>?_);rw[e,E]at z;simp at z
theorem CU{v:Value}{n:Nat}{l:List Value}(E:Row V 9 1 v n l)(hR:V.heap[R]? =some (.cells rc 62 (0,0)))(z Y x2 x3 I x5 J x7:Value):Row (qM V R z Y x2 x3 I x5 J x7) 9 1 v n l:=
 E.jO (kL V R z Y x2 x3 I x5 J x7) (λg hg e=>jF E hR (by decide) (by rw[hg,e]))
theorem vW{z:World}{e:Nat}{ob:Option PW}{vd:Value}
  (hr:jH c us ws cnt ep=(some (e,ob),ws')) (he:e<us.length) (hm:Made z V.heap.size vd (if jX cnt ep sq e=0 then dl e else [])) (ab:w.heap.size<=V.heap.size) (ht:∀b,ob=some b->kM V b.2 b.1.txs) (J:∃cs,V.heap[kb]? =some (.cells cs 137 (0,0)))
  (hD:qJ z kb c vu us dl nb vo vw' ws' (cnt+1) e (jX cnt ep sq e)) (E:∀g,vw'.ownBlock=some g->vw.ownBlock=some g) (Y:jJ (λk=>k=kb\/vw.ownBlock=some k) w V) (hc:jJ (λk=>k=kb) V z) (hR:z.heap[w.heap.size]? =some (.cells rc 62 (0,0))) (x0 x1 x2 x3 x4 x5 x6 x7:Value) {x:Ending} (hx:x=.returned (.tuple #[Yz cnt (lF c us cnt) e (Ey us e) (jX cnt ep sq e) (YF ob) vd (us.length-1),.bool true])):
  BQ w kb c vu us dl nb vo vw cnt ep sq (jH c us ws cnt ep) x (qM z w.heap.size x0 x1 x2 x3 x4 x5 x6 x7):=by
 rw[hr];obtain⟨cs,aa⟩:=J;refine⟨⟨he,vd,hx,⟨CU hm.1 hR _ _ _ _ _ _ _ _,λg I=>aW ab (hm.2 g I)⟩,λb hb=>?_,vw',Az hD hR _ _ _ _ _ _ _ _,E⟩,(Y.trans hc (λ_ _ e=>.inl e)).trans (kL z w.heap.size _ _ _ _ _ _ _ _) (λk hk e=>by omega)⟩;have h1:Row z 9 1 b.2 b.1.txs.length (b.1.txs.map nZ):=Row.jO (ht b hb) hc (λg I e=>jF (ht b hb) aa (by decide) (by rw[I,e]));exact CU h1 hR _ _ _ _ _ _ _ _
theorem yg
  (hr:jH c us ws cnt ep=(none,ws')) (hD:qJ V kb c vu us dl nb vo vw' ws' cnt ep sq) (z:∀g,vw'.ownBlock=some g->vw.ownBlock=some g) (E:jJ (λk=>k=kb\/vw.ownBlock=some k) w V) (J:V.heap[w.heap.size]? =some (.cells rc 62 (0,0))) (I x1 x2 x3 Y x5 x6 x7:Value):
  BQ w kb c vu us dl nb vo vw cnt ep sq (jH c us ws cnt ep) (.returned (.tuple #[lo0,.bool false])) (qM V w.heap.size I x1 x2 x3 Y x5 x6 x7):=by
 rw[hr];exact⟨⟨rfl,vw',Az hD J _ _ _ _ _ _ _ _,z⟩,E.trans (kL V w.heap.size _ _ _ _ _ _ _ _) (λk hk e=>by omega)⟩
end
section
variable {c:Cf}{us:List PB}{ws:List PW}{cnt ep e:Nat}
theorem Ee(c:Cf)(us:List PB)(cnt:Nat):lF c us (cnt+1)=lF c us cnt+c.step:=by
 unfold lF;rw[Int.natCast_add,Int.add_mul];simp[Int.add_assoc]
theorem yL.U6(s:yL c us ws cnt ep)(z:e<us.length):zN us e<=4294967296:=by
 rw[uH (aG z)];exact(s.times _ (List.getElem_mem z)).2
theorem Cm{V:PW->Nat}{b:PW}:∀{l:List PW},(pick V l).1=(3,some b)->V b=3/\b∈l/\(pick V l).2.length<l.length
 |[],h=>by simp[pick]at h
 |x::r,h=>by
  unfold pick at h⊢;split at h
  ·rename_i J;rw[if_pos J];obtain⟨I,h2,h3⟩:=Cm (l:=r) h;exact⟨I,bT _ h2,by simp;omega⟩
  ·rename_i J;rw[if_neg J];split at h
   ·cases h
   ·rename_i E;rw[if_neg E];split at h
    ·rename_i z;rw[if_pos z];cases h;exact⟨z,dK,by simp⟩
    ·rename_i z;rw[if_neg z];obtain⟨I,h2,h3⟩:=Cm (l:=r) h;exact⟨I,bT _ h2,by simp;omega⟩
theorem DR{b:Ba}{k:Nat}(h:verdict c us cnt ep b k=3):b.epoch=ep\/b.epoch=ep+1:=by
 unfold verdict at h;split at h
 ·cases h
 ·split at h
  ·cases h
  ·rename_i z;unfold outside at z;simp at z;by_cases e:b.epoch=ep
   ·exact .inl e
   ·exact .inr (z.1.2 e)
def meas(c:Cf)(us:List PB)(ws:List PW)(cnt ep:Nat):Nat:=ws.length+(us.length-ep)+((4294967298-lF c us cnt)/2).toNat
theorem Pj{ws':List PW}{ob:Option PW}(s:yL c us ws cnt ep)(af:2<=c.step)(hz:cnt=0->ep=0)(h:jH c us ws cnt ep=(some (e,ob),ws')):
  meas c us ws' (cnt+1) e<meas c us ws cnt ep/\ep<=e/\e<us.length:=by
 have Y:=s.ep;have ac:=s.window;unfold jH at h;rw[if_neg (by omega)]at h;unfold meas;rw[Ee];obtain⟨t,ht⟩:∃t,lF c us cnt=t:=⟨_,rfl⟩
 obtain⟨z,ab,ae⟩:=pU (judged c us cnt ep) ws;split at h
 ·rename_i J;cases h;have h0:=hz J;have:=s.U6 (e:=0) (by omega)
  have aa:lF c us cnt=zN us 0:=by
   unfold lF zN;rw[J];simp
  rw[ht]at aa⊢;refine⟨?_,by omega,by omega⟩;omega
 ·split at h
  ·rename_i b I;rcases z with z|z|⟨b',ag,z⟩
   ·rw[z]at I;cases I
   ·rw[z]at I;cases I
   ·rw[z]at I;cases I;obtain⟨h1,h2,h3⟩:=Cm z;have h4:=DR h1;have h5:=(s.batch _ h2).1;cases h;rw[ht];refine⟨?_,by omega,h5⟩;omega
  ·split at h
   ·rename_i R;cases h;have E:ep+1<us.length:=by omega
    have:=s.U6 E;unfold alone;rw[ht];split
    ·exact⟨by omega,by omega,E⟩
    ·exact⟨by omega,by omega,Y⟩
   ·cases h
end
section
variable {c:Cf}{us:List PB}{ws rs:List PW}{cnt ep n:Nat}
theorem Ib{b:PW}(E:us.length≠0)(I:cnt≠0)(z:(pick (judged c us cnt ep) ws).1=(n,some b))(h2:(pick (judged c us cnt ep) ws).2=rs):jH c us ws cnt ep=(some (b.1.epoch,some b),rs):=by unfold jH;rw[if_neg E,if_neg I,z,h2]
theorem CJ(E:us.length≠0)(I:cnt≠0)(z:(pick (judged c us cnt ep) ws).1=(n,none))(h2:(pick (judged c us cnt ep) ws).2=rs)(h:n≠2/\(ep:Int)+c.window<((us.length-1:Nat):Int)):jH c us ws cnt ep=(some (alone c us cnt ep,none),rs):=by unfold jH;rw[if_neg E,if_neg I,z,h2];dsimp only;rw[if_pos h]
theorem vG(E:us.length≠0)(I:cnt≠0)(z:(pick (judged c us cnt ep) ws).1=(n,none))(h2:(pick (judged c us cnt ep) ws).2=rs)(h:¬(n≠2/\(ep:Int)+c.window<((us.length-1:Nat):Int))):jH c us ws cnt ep=(none,rs):=by unfold jH;rw[if_neg E,if_neg I,z,h2];dsimp only;rw[if_neg h]
theorem rP{w:World}{lo:Nat}{v:Value}{l:List (List UInt8)}(h:Made w lo v l):∃a n c,v=.slice a n c:=by
 obtain⟨a,c,e⟩:=Row.slice h.1;exact⟨a,_,c,e⟩
theorem DZ(kb:Nat)(c:Cf)(vu:Value)(us:List PB)(dl:Nat->List (List UInt8))(nb:Nat)(vo vw:Value)(ws:List PW)(cnt ep sq:Nat)(w:World)(h:qJ w kb c vu us dl nb vo vw ws cnt ep sq)(s:0<us.length->yL c us ws cnt ep)(bk:sq<4294967296)(hdl:∀j,(dl j).length<=4294967296):
  Calls PQ 76 #[.pointer (some ⟨kb,0,none⟩)] w (BQ w kb c vu us dl nb vo vw cnt ep sq (jH c us ws cnt ep)):=by
 obtain⟨W,hW,ar,ro⟩:=jE w #[.int .i64 0,.int .i64 0,.int .i64 0,.int .i64 0,.int .i64 0,.slice none 0 0,.slice none 0 0,.int .i64 0] 62;have hD:=h.below ar;obtain⟨ua,bs,ax⟩:=hD.upper.slice;have c7:W.cell? ⟨kb,7,none⟩=some (.slice ua us.length bs):=by rw[aA hD.obj,<-ax];rfl
 have c11:W.cell? ⟨kb,11,none⟩=some (.int .i64 cnt):=nM hD.obj rfl;have b6:kb<w.heap.size:=(jC h.obj)
 have a1:w.heap.size<W.heap.size:=(jC ro)
 have I:jJ (λk=>k=kb\/vw.ownBlock=some k) w W:=.below ar jA _;by_cases hu:us.length=0
 ·have bw:((us.length:Int) == 0)=true:=by rw[hu];rfl
  obtain⟨r0,r1,r2,r3,r4,r5,r6,r7,rf⟩:=kX ro;have hp:jH c us ws cnt ep=(none,ws):=by unfold jH;rw[if_pos hu]
  have H:Hid _:=jw hD (jw I (jw ro hp));clear h hD I hp s ax ar ro hu;go_enter (fq Tryz.func76 rfl),Tryz.ntmps76;go_upto_region 1 with fail;rw[<-hW];clear hW;go_wp2_with fail;obtain⟨hD,I,ro,hp⟩:=H.out;refine bodyPost_ret (v:=.tuple #[.agg #[.int .i64 0,.int .i64 0,.int .i64 0,.int .i64 0,.int .i64 0,.slice none 0 0,.slice none 0 0,.int .i64 0],.bool false]) (by simp[results,Tryz.results76,go_sem,r0,r1,r2,r3,r4,r5,r6,r7]) rfl ?_;exact yg hp hD (λ_ hg=>hg) I ro _ _ _ _ _ _ _ _
 ·have bw:((us.length:Int) == 0)=false:=beq_false_of_ne (by omega);have s:=s (by omega);obtain⟨nn,z⟩:∃nn,us.length-1=nn:=⟨_,rfl⟩
  by_cases hc:cnt=0
  ·have bv:((cnt:Int) == 0)=true:=by rw[hc];rfl
   have hp:jH c us ws cnt ep=(some (0,none),ws):=by unfold jH;rw[if_neg hu,if_pos hc]
   have hd:Calls PQ 122 #[.pointer (some ⟨kb,0,none⟩),.int .i64 0,.slice none 0 0] W _:=II kb c vu us dl nb vo vw ws cnt ep sq 0 none 0 0 W hD s (by omega) bk hdl;rw[z]at hd;have Hd:Hid _:=hd;have H:Hid _:=jw hD (jw I (jw ro (jw hp z)));have bz:0<us.length:=by omega
   clear h hD I hp s ax ar ro hd z hc hu;go_enter (fq Tryz.func76 rfl),Tryz.ntmps76;go_upto_region 1 with fail;rw[<-hW];clear hW;go_wp2_with (first|(go_at_call 122;refine aK Hd.out ?_;rintro x2 w2 ⟨vd,rfl,ab,ah,ac⟩;obtain⟨va,vn,vc,rfl⟩:=rP ab;have aa:=(ac.block w.heap.size a1 (by omega)).trans H.out.2.2.1;obtain⟨r0,r1,r2,r3,r4,r5,r6,r7,rf⟩:=kX aa;have H2:Hid _:=jw ab (jw ah (jw ac aa));clear ab ah ac aa;unfold Yz)|fail)
   obtain⟨hD,I,ro,hp,z⟩:=H.out;obtain⟨ab,ah,ac,aa⟩:=H2.out;refine bodyPost_ret (v:=.tuple #[.agg #[.int .i64 cnt,.int .i64 (lF c us cnt),.int .i64 0,.int .i64 (Ey us 0),.int .i64 (jX cnt ep sq 0:Nat),.slice none 0 0,.slice va vn vc,.int .i64 nn],.bool true]) (by simp[results,Tryz.results76,go_sem,r0,r1,r2,r3,r4,r5,r6,r7]) rfl ?_;exact vW hp bz ab (jm a1) (λb hb=>by simp at hb) ⟨_,hD.obj⟩ ah (λ_ hg=>hg) I ac aa _ _ _ _ _ _ _ _ (by rw[z];rfl)
  ·have bv:((cnt:Int) == 0)=false:=beq_false_of_ne (by omega);obtain⟨ai,ak,a2⟩:=pU (judged c us cnt ep) ws;obtain⟨rs,ao⟩:∃rs,(pick (judged c us cnt ep) ws).2=rs:=⟨_,rfl⟩
   have af:=MW kb c vu us dl nb vo vw ws cnt ep sq W hD s;rw[ao]at af ak a2;have s2:=s.sub ak a2;have bg:vw.ownBlock≠some w.heap.size:=jF hD.wait ro (by decide);have a4:=λ(V:World)(bn:Value)(hV:qJ V kb c vu us dl nb vo bn rs cnt ep sq)(e:Nat)(he:e<us.length)(ta:Option Addr)(tn tc:Nat)=>II kb c vu us dl nb vo bn rs cnt ep sq e ta tn tc V hV s2 he bk hdl;rw[z]at a4;have bl:Hid _:=a4;have b7:us.length<=4294967296:=s.len;rcases ai with ai|ai|⟨b,hb,ai⟩
   ·obtain⟨b1,b4⟩:=s.window;have b3:=s.ep;have hs:=s2;rw[ai]at af;have aq:=λ(V:World)(hV:Look V kb c us cnt ep)=>nC kb c us cnt ep V hV (by omega);rw[z]at aq;have bb:Hid _:=aq;clear aq;by_cases hw:(ep:Int)+c.window<(nn:Int)
    case' neg=>
     have an:=vG hu hc ai ao (λh=>hw (by rw[<-z];exact h.2))
    case' pos=>
     have an:=CJ hu hc ai ao ⟨by decide,by rw[z];exact hw⟩;have bq:ep+1<us.length:=by omega
     obtain⟨al,a9⟩:∃al,alone c us cnt ep=al:=⟨_,rfl⟩
     have a8:al<us.length:=by rw[<-a9];unfold alone;split<;>omega
     have a0:=λ(V:World)(hV:Look V kb c us cnt ep)=>yt kb c us cnt ep V hV bq;rw[a9]at an a0;have bp:Hid _:=a0;clear a0 a9
    all_goals
     unfold yE at af;dsimp only at af;have a3:Hid _:=af;have H:Hid _:=jw hD (jw I (jw ro (jw an (jw z hs))));clear h hD I an s s2 hs ax ar ro a4 af z hc hu ai ak a2 ao;go_enter (fq Tryz.func76 rfl),Tryz.ntmps76;go_upto_region 1 with fail;rw[<-hW];clear hW;go_upto_region 8 with(first|(go_at_call 123;refine aK a3.out ?_;rintro x1 w1 ⟨rfl,a6,ae,E,J⟩;have R:=(J.block w.heap.size a1 (by rintro(e|e);omega;exact bg e)).trans H.out.2.2.1;have az:w.heap.size<w1.heap.size:=(jC R);have H1:Hid _:=jw ae (jw E (jw J R));clear ae E J R)|fail)
     generalize hV:World.alloc _ _=V;have am:Below w1.heap.size w1 V:=by rw[<-hV];exact(aB _ _).alloc jA _
     obtain⟨hD,I,ro,hp,z,hs⟩:=H.out;obtain⟨ae,E,J,R⟩:=H1.out;have ag:=(am.block _ az).trans R;have Y:=ae.below am;have aj:=(I.trans J (λ_ _ e=>e)).trans (.below am jA (λk=>k=kb\/vw.ownBlock=some k)) (λ_ _ e=>e);have a7:w.heap.size<V.heap.size:=(jC ag)
     have b0:V.cell? ⟨kb,12,none⟩=some (.int .i64 ep):=nM Y.obj rfl;have c3:V.cell? ⟨kb,3,none⟩=some (.int .i64 c.window):=nM Y.obj rfl;have a5:=Y.look hs;have au:=λm=>bb.out (V.drewN m) (a5.below (below_drewN (aB _ _) m))
    ·have bj:=λV' (bx:Below V.heap.size V V')=>bp.out V' (a5.below bx);have ay:Hid _:=au;have b2:Hid _:=bj;have HV:Hid _:=jw Y (jw aj (jw ag (jw hp (jw E z))));clear hV am hD I ro hp z hs ae E J R ag Y aj a5 au bj;go_quiet ((go_at_call 124;exact Calls.quiet_of (ay.out _)));go_wp2_with (first|(go_at_call 125;refine aK (b2.out _ (below_drewN (aB _ _) _)) ?_;rintro x3 w3 ⟨rfl,m3,bo⟩;have aw:Below V.heap.size V w3:=(by rw[bo];exact below_drewN (below_drewN (aB _ _) _) _);clear bo)|(go_at_call 122;refine aK (bl.out w3 a6 (HV.out.1.below aw) al a8 none 0 0) ?_;rintro x2 w2 ⟨vd,rfl,ab,ah,ac⟩;obtain⟨va,vn,vc,rfl⟩:=rP ab;have aa:=(ac.block w.heap.size (aH a7 aw.size) (by omega)).trans ((aw.block _ a7).trans HV.out.2.2.1);obtain⟨r0,r1,r2,r3,r4,r5,r6,r7,rf⟩:=kX aa;have H2:Hid _:=jw ab (jw ah (jw ac aa));clear ab ah ac aa;unfold Yz)|fail)
     obtain⟨Y,aj,ag,hp,E,z⟩:=HV.out;obtain⟨ab,ah,ac,aa⟩:=H2.out;refine bodyPost_ret (v:=.tuple #[.agg #[.int .i64 cnt,.int .i64 (lF c us cnt),.int .i64 al,.int .i64 (Ey us al),.int .i64 (jX cnt ep sq al:Nat),.slice none 0 0,.slice va vn vc,.int .i64 nn],.bool true]) (by simp[results,Tryz.results76,go_sem,r0,r1,r2,r3,r4,r5,r6,r7]) rfl ?_;exact vW hp a8 ab (aW (jm a7) aw.size) (λb' bd=>by simp at bd) ⟨_,(Y.below aw).obj⟩ ah E (aj.trans (.below aw jA _) (λ_ _ e=>e)) ac aa _ _ _ _ _ _ _ _ (by rw[z];rfl)
    ·have ay:Hid _:=au;obtain⟨r0,r1,r2,r3,r4,r5,r6,r7,rf⟩:=kX ag;have HV:Hid _:=jw Y (jw aj (jw ag (jw hp E)));clear hV am hD I ro hp z hs ae E J R ag Y aj a5 au;go_quiet ((go_at_call 124;exact Calls.quiet_of (ay.out _)));go_wp2_with fail;obtain⟨Y,aj,ag,hp,E⟩:=HV.out;refine bodyPost_ret (v:=.tuple #[.agg #[.int .i64 0,.int .i64 0,.int .i64 0,.int .i64 0,.int .i64 0,.slice none 0 0,.slice none 0 0,.int .i64 0],.bool false]) (by simp[results,Tryz.results76,go_sem,r0,r1,r2,r3,r4,r5,r6,r7]) rfl ?_;exact yg hp (Y.below (below_drewN (aB _ _) _)) E (aj.trans (.below (below_drewN (aB V.heap.size V) _) jA _) (λ_ _ e=>e)) ag _ _ _ _ _ _ _ _
   ·have an:=vG hu hc ai ao (λh=>h.1 rfl);have hs:=s2;rw[ai]at af;unfold yE at af;dsimp only at af;have a3:Hid _:=af;have H:Hid _:=jw hD (jw I (jw ro (jw an (jw z hs))));clear h hD I an s s2 hs ax ar ro a4 af z hc hu ai ak a2 ao;go_enter (fq Tryz.func76 rfl),Tryz.ntmps76;go_upto_region 1 with fail;rw[<-hW];clear hW;go_upto_region 8 with(first|(go_at_call 123;refine aK a3.out ?_;rintro x1 w1 ⟨rfl,a6,ae,E,J⟩;have R:=(J.block w.heap.size a1 (by rintro(e|e);omega;exact bg e)).trans H.out.2.2.1;have az:w.heap.size<w1.heap.size:=(jC R);have H1:Hid _:=jw ae (jw E (jw J R));clear ae E J R)|fail)
    generalize hV:World.alloc _ _=V;have am:Below w1.heap.size w1 V:=by rw[<-hV];exact(aB _ _).alloc jA _
    obtain⟨hD,I,ro,hp,z,hs⟩:=H.out;obtain⟨ae,E,J,R⟩:=H1.out;have ag:=(am.block _ az).trans R;have Y:=ae.below am;have aj:=(I.trans J (λ_ _ e=>e)).trans (.below am jA (λk=>k=kb\/vw.ownBlock=some k)) (λ_ _ e=>e);have a7:w.heap.size<V.heap.size:=(jC ag)
    have b0:V.cell? ⟨kb,12,none⟩=some (.int .i64 ep):=nM Y.obj rfl;have c3:V.cell? ⟨kb,3,none⟩=some (.int .i64 c.window):=nM Y.obj rfl;obtain⟨r0,r1,r2,r3,r4,r5,r6,r7,rf⟩:=kX ag;have HV:Hid _:=jw Y (jw aj (jw ag (jw hp E)));clear hV am hD I ro hp z hs ae E J R ag Y aj;go_quiet (fail);go_wp2_with fail;obtain⟨Y,aj,ag,hp,E⟩:=HV.out;refine bodyPost_ret (v:=.tuple #[.agg #[.int .i64 0,.int .i64 0,.int .i64 0,.int .i64 0,.int .i64 0,.slice none 0 0,.slice none 0 0,.int .i64 0],.bool false]) (by simp[results,Tryz.results76,go_sem,r0,r1,r2,r3,r4,r5,r6,r7]) rfl ?_;exact yg hp (Y.below (below_drewN (aB _ _) _)) E (aj.trans (.below (below_drewN (aB V.heap.size V) _) jA _) (λ_ _ e=>e)) ag _ _ _ _ _ _ _ _
   ·have ap:=hD.txs b hb;obtain⟨ta,tc,av⟩:=Row.slice ap;obtain⟨tn,bh⟩:∃n,b.1.txs.length=n:=⟨_,rfl⟩
    rw[bh]at av;have bu:=(s.batch b hb).1;have an:=Ib hu hc ai ao;rw[ai]at af;unfold yE Nj at af;dsimp only at af;rw[av]at af;have a3:Hid _:=af;have H:Hid _:=jw hD (jw I (jw ro (jw an (jw z (jw ap av)))));clear h hD I an s s2 ax ar ro a4 af z hc hu ai ak a2 ap av bh hb ao;go_enter (fq Tryz.func76 rfl),Tryz.ntmps76;go_upto_region 1 with fail;rw[<-hW];clear hW;go_wp2_with (first|(go_at_call 123;refine aK a3.out ?_;rintro x1 w1 ⟨rfl,a6,ae,E,J⟩;have R:=(J.block w.heap.size a1 (by rintro(e|e);omega;exact bg e)).trans H.out.2.2.1;have az:w.heap.size<w1.heap.size:=(jC R);have H1:Hid _:=jw ae (jw E (jw J R));clear ae E J R)|(go_at_call 122;refine aK (bl.out _ a6 (H1.out.1.below ((aB _ _).alloc jA _)) b.1.epoch bu ta tn tc) ?_;rintro x2 w2 ⟨vd,rfl,ab,ah,ac⟩;obtain⟨va,vn,vc,rfl⟩:=rP ab;have aa:=(ac.block w.heap.size (by simp;omega) (by omega)).trans ((aT w1 _ _ az).trans H1.out.2.2.2);obtain⟨r0,r1,r2,r3,r4,r5,r6,r7,rf⟩:=kX aa;have H2:Hid _:=jw ab (jw ah (jw ac aa));clear ab ah ac aa;unfold Yz)|fail)
    obtain⟨hD,I,ro,hp,z,ap,av⟩:=H.out;obtain⟨ae,E,J,R⟩:=H1.out;obtain⟨ab,ah,ac,aa⟩:=H2.out;refine bodyPost_ret (v:=.tuple #[.agg #[.int .i64 cnt,.int .i64 (lF c us cnt),.int .i64 b.1.epoch,.int .i64 (Ey us b.1.epoch),.int .i64 (jX cnt ep sq b.1.epoch:Nat),.slice ta tn tc,.slice va vn vc,.int .i64 nn],.bool true]) (by simp[results,Tryz.results76,go_sem,r0,r1,r2,r3,r4,r5,r6,r7]) rfl ?_
    have bm:kM w1 b.2 b.1.txs:=Row.jO ap J (λg hg e=>by
     rcases e with e|e
     ·exact jF ap hD.obj (by decide) (by rw[hg,e])
     ·obtain⟨b5,br⟩:=hD.wait.obj e;exact jF ap br (by decide) hg)
    have ba:=(aB w1.heap.size w1).alloc jA (.cells #[.int .i64 b.1.epoch,.int .i64 b.1.id,.int .i64 b.1.time,.slice ta tn tc,.int .i64 b.1.place] 150);exact vW hp bu ab (by simp;omega) (λb' bd=>by cases bd;exact Row.below bm ba) ⟨_,(ae.below ba).obj⟩ ah E ((I.trans J (λ_ _ e=>e)).trans (.below ba jA _) (λ_ _ e=>e)) ac aa _ _ _ _ _ _ _ _ (by rw[z];rw[show YF (some b)=b.2 from rfl,av];rfl)
end
open Go.RowKit
section
variable {M:Nat->Prop}{P:Program}{lb:Array Value}
theorem uD{a b:World}(h:jJ M a b)(l:Nat)(o:Obj)(z:l<a.heap.size):jJ M (a.putObj l o) (b.putObj l o):=
 ⟨h.os,h.tape,h.output,by simpa using h.size,λk hk E=>by
  by_cases e:l=k
  ·subst e;rw[World.putObj_heap_same z,World.putObj_heap_same (aH z h.size)]
  ·rw[World.putObj_heap_other (Ne.symm e),World.putObj_heap_other (Ne.symm e)];exact h.block k (by simpa using hk) E⟩
def Uo{α:Type}(P:Program)(g:Nat)(lb:Array Value)(encs:α->Array Value)(M:Nat->Prop)(St En:List α->World->Prop)(Y:List α->α->Nat->World->Prop)(S Sp:List α->Prop):Prop:=
 ∀(l:Nat)(J Jx:List α->World->Prop)(W:World),(∀k,M k->k<l)->l<W.heap.size->St [] W->
  (∀z x E R,J z E->jJ M E R->Y z x E.heap.size R->YieldAt Fence.wide 1 P l (encs x) R λe I=>
   (e=.returned (.bool true)/\J (z++[x]) I/\R.heap.size<=I.heap.size/\St (z++[x]) I/\∀k,E.heap.size<=k->k<R.heap.size->I.heap[k]? =R.heap[k]?)\/(e=.returned (.bool false)/\Jx (z++[x]) I))->
  J [] W->
  CallsIn Fence.wide 2 P g (#[.func (.yield l) #[] #[]]++lb) W λe I=>(∃v,e=.returned v)/\((∃xs E,S xs/\J xs E/\jJ M E I/\En xs I)\/(∃z E,Sp z/\Jx z E/\jJ M E I))
def ZO{α:Type}(B lo J:Nat)(E I:List α->World->Prop)(z:Code->List α->World->Prop)(xs:List α)(W:World):Exit->Act->World->Prop
 |.normal,_,W'=>KeepsFrom B W W'/\E xs W'/\(∀k,lo<=k->k<J->W'.heap[k]? =W.heap[k]?)/\I xs W'
 |.ret,_,W'=>KeepsFrom B W W'/\z .ret xs W'
 |.exit id,_,W'=>KeepsFrom B W W'/\z (.exit id) xs W'
 |.goto t,_,W'=>KeepsFrom B W W'/\z (.goto t) xs W'
 |.panic _,_,_=>False
 |.outgrown,_,_=>False
def MR{α:Type}(P:Program)(g:Nat)(lb:Array Value)(encs:α->Array Value)(M:Nat->Prop)(E:World->World->Prop)(St En:List α->World->Prop)(Y:List α->α->Nat->World->Prop)(S Sp:List α->Prop):Prop:=
 ∀(l:Nat)(J Jx:List α->World->Prop)(W:World),(∀k,M k->k<l)->l<W.heap.size->St [] W->
  (∀z x I W1,J z I->jJ M I W1->E I W1->Y z x I.heap.size W1->YieldAt Fence.wide 1 P l (encs x) W1 λe R=>
   (e=.returned (.bool true)/\J (z++[x]) R/\W1.heap.size<=R.heap.size/\St (z++[x]) R/\∀k,I.heap.size<=k->k<W1.heap.size->R.heap[k]? =W1.heap[k]?)\/(e=.returned (.bool false)/\Jx (z++[x]) R))->
  J [] W->
  CallsIn Fence.wide 2 P g (#[.func (.yield l) #[] #[]]++lb) W λe R=>(∃v,e=.returned v)/\((∃xs I,S xs/\J xs I/\jJ M I R/\E I R/\En xs R)\/(∃z I,Sp z/\Jx z I/\jJ M I R/\E I R))
theorem Ut{α:Type}{g:Nat}{encs:α->Array Value}{R En:List α->World->Prop}{Y:List α->α->Nat->World->Prop}{S I:List α->Prop}(h:Uo P g lb encs M R En Y S I):MR P g lb encs M (λ_ _=>True) R En Y S I:=λl J Jx W h1 h2 h3 h4 h5=>
 (h l J Jx W h1 h2 h3 (λE x z W1 q1 q2 q3=>h4 E x z W1 q1 q2 trivial q3) h5).mono λ_ _ q=>⟨q.1,q.2.imp (λ⟨xs,z,a,b,c,d⟩=>⟨xs,z,a,b,c,trivial,d⟩) (λ⟨p,z,a,b,c⟩=>⟨p,z,a,b,c,trivial⟩)⟩
theorem xG{α:Type}{g:Operand}{ps:Array Tmp}{assign body:Code}{Q:Exit->Act->World->Prop}{a:Act}{w:World}
  {gf:Nat} (hg:a.eval g=.func (.func gf) #[] lb) (eg:∀args w,(callFunc gf args).run P w=.ok (.enter gf args) w)
  {encs:α->Array Value} {E:World->World->Prop} {St En:List α->World->Prop} {Y:List α->α->Nat->World->Prop} {S Sp:List α->Prop} (aq:MR P gf lb encs M E St En Y S Sp)
  (hM:∀k,M k->k<w.heap.size) (hE:∀(A B:World)(l:Nat)(o:Obj),w.heap.size<=l->E A B->E (A.putObj l o) (B.putObj l o)) (an:OwnFrom w.heap.size St) (ar:OwnFrom w.heap.size En) (hY:∀lo,OwnFrom w.heap.size (λ(q:List α×α) W=>Y q.1 q.2 lo W)) (aw:∀x,(encs x).size=ps.size)
  (I:List α->World->Prop) (Ix:Code->List α->World->Prop) (hI:OwnFrom w.heap.size I) (ae:∀c,OwnFrom w.heap.size (Ix c)) (h0:I [] w) (av:St [] w) (ag:α->Nat->Act) (al:α->World->World) (hA:∀x W k,k<W.heap.size->(al x W).heap[k]? =W.heap[k]?) (ay:∀x W,W.heap.size<=(al x W).heap.size) (au:∀x W l o,l<W.heap.size->(al x W).putObj l o=al x (W.putObj l o))
  (ac:∀(l:Nat)(x:α)(W:World)(K:Act->World->Prop),K (ag x W.heap.size) (al x W)->
   assign.wpIn (Fence.wide.inRound l) 1 P (Exit.then K (λ_ _ _=>False)) { tmps:=(ps.zip (encs x)).foldl (λt (p,v)=>t.setIfInBounds p v) a.tmps,defers:=[] } W)
  (ai:∀(l:Nat)(J:List α)(x:α)(R W1:World),w.heap.size<=l->l<R.heap.size->(∃r,W1.heap[l]? =some (.loop r))->I J R->jJ M R W1->E R W1->Y J x R.heap.size W1->body.wpIn (Fence.wide.inRound l) 1 P (ZO w.heap.size R.heap.size W1.heap.size St I Ix (J++[x]) (al x W1)) (ag x W1.heap.size) (al x W1))
  (aj:∀(D:Nat)(xs:List α)(R W:World),w.heap.size<=D->D<R.heap.size->S xs->I xs R->jJ M R W->E R W->En xs W->W.heap[D]? =some (.deferred (some []))->Q .normal { a with defers:={ target:=.collected D,args:=#[] }::a.defers } W)
  (am:∀(D:Nat)(c:Code)(J:List α)(R W:World),w.heap.size<=D->D<R.heap.size->Sp J->Ix c J R->jJ M R W->E R W->W.heap[D]? =some (.deferred (some []))->c.wpIn Fence.wide 3 P Q { a with defers:={ target:=.collected D,args:=#[] }::a.defers } W):
  (Code.rangeFunc g ps assign body).wpIn Fence.wide 3 P Q a w:=by
 refine wpIn_rangeFunc λfn a0=>?_;obtain⟨rc,aa⟩:∃rc:LoopState->Option Code->Loop,rc=λst pe=>{ state:=st,pending:=pe,fn,tmps:=a.tmps,params:=ps,assign,body,defers:=w.heap.size }:=⟨_,rfl⟩
 obtain⟨V,hV⟩:∃V,(w.alloc (.deferred (some []))).alloc (.loop (rc .ready none))=V:=⟨_,rfl⟩
 have vl:V.heap[w.heap.size+1]? =some (.loop (rc .ready none)):=by
  have:=World.alloc_heap_new (w.alloc (.deferred (some []))) (.loop (rc .ready none));rw[eH,hV]at this;exact this
 have vd:V.heap[w.heap.size]? =some (.deferred (some [])):=by rw[<-hV];exact(aT _ _ _ (by simp)).trans (World.alloc_heap_new w _)
 have vI:I [] V:=by rw[<-hV];exact hI.alloc _ (hI.alloc _ h0)
 have vS:St [] V:=by rw[<-hV];exact an.alloc _ (an.alloc _ av)
 have nl:¬M (w.heap.size+1):=λh=>by have:=hM _ h;omega
 have nd:¬M w.heap.size:=λh=>by have:=hM _ h;omega
 refine⟨w.heap.size+1,[{ target:=.collected w.heap.size,args:=#[] }],V,{ target:=.fn (.func gf) lb,args:=#[.func (.yield (w.heap.size+1)) #[] #[]] },V,gf,
  #[.func (.yield (w.heap.size+1)) #[] #[]]++lb,V,?_,?_,λ_ _=>trivial,by simp[invoke,go_sem,eg],λh=>by simp[Fence.wide]at h,?_⟩
 ·rw[<-hV,aa];exact run_enterLoop_outer _ _ _ _ _
 ·simp only[resolve,hg];simp[go_sem]
 refine(aq (w.heap.size+1)
  (λJ W=>I J W/\W.heap[w.heap.size+1]? =some (.loop (rc .ready none))/\W.heap[w.heap.size]? =some (.deferred (some [])))
  (λJ W=>∃c,Ix c J W/\W.heap[w.heap.size+1]? =some (.loop (rc .done (some c)))/\W.heap[w.heap.size]? =some (.deferred (some []))) V (λk hk=>by have:=hM k hk;omega) (jC vl) vS ?_ ⟨vI,vl,vd⟩).mono ?_
 ·rintro J x R W1 ⟨i0,l0,d0⟩ hb he hy;have ab:w.heap.size+1<R.heap.size:=(jC l0)
  have l1:=(hb.block _ ab nl).trans l0;have d1:=(hb.block _ (by omega:w.heap.size<R.heap.size) nd).trans d0;have af:w.heap.size+1<W1.heap.size:=(jC l1)
  have ry:=run_yield (P:=P) (args:=encs x) l1 (by rw[aa];exact aw x);rw[aa]at ry;refine⟨fn,_,assign,body,ry,roundIn_of_wpIn a0 (ac _ x W1 _ ⟨_,run_beginRound ((hA _ _ _ af).trans l1) (by rw[aa]),?_⟩)⟩;clear ry;rw[au _ _ _ _ af];obtain⟨o,ho⟩:∃o:Obj,Obj.loop { rc .ready none with state:=.busy }=o:=⟨_,rfl⟩
  rw[ho];have b1:=uD hb (w.heap.size+1) o ab
  have y1:Y J x (R.putObj (w.heap.size+1) o).heap.size (W1.putObj (w.heap.size+1) o):=by
   rw[World.putObj_size];exact(hY R.heap.size).putObj (s:=(J,x)) o hy (by omega) l1 rfl
  have ak:=ai (w.heap.size+1) J x _ _ (by omega) (by simp;omega) ⟨_,(World.putObj_heap_same af).trans (congrArg some ho.symm)⟩ (hI.putObj o i0 (by omega) l0 rfl) b1 (hE _ _ _ _ (by omega) he) y1;simp only[World.putObj_size]at ak;refine wpIn_mono ak ?_;clear ak;have az:(al x (W1.putObj (w.heap.size+1) o)).heap[w.heap.size+1]? =some o:=(hA _ _ _ (by simp;omega)).trans (World.putObj_heap_same af);have ax:(al x (W1.putObj (w.heap.size+1) o)).heap[w.heap.size]? =some (.deferred (some [])):=(hA _ _ _ (by simp;omega)).trans ((World.putObj_heap_other (by omega)).trans d1);have ah:=ay x (W1.putObj (w.heap.size+1) o)
  have fin:∀(z:Option Code)(W3:World),KeepsFrom w.heap.size (al x (W1.putObj (w.heap.size+1) o)) W3->
    (Instr.endRound (w.heap.size+1) z).run P W3=.ok (.bool z.isNone) (W3.putObj (w.heap.size+1) (.loop (rc (if z.isNone then .ready else .done) z)))/\
    W3.heap[w.heap.size+1]? =some o/\
    (W3.putObj (w.heap.size+1) (.loop (rc (if z.isNone then .ready else .done) z))).heap[w.heap.size+1]? =some (.loop (rc (if z.isNone then .ready else .done) z))/\
    (W3.putObj (w.heap.size+1) (.loop (rc (if z.isNone then .ready else .done) z))).heap[w.heap.size]? =some (.deferred (some [])):=λz W3 ap=>by
   have q1:=ap.same _ _ (by omega) az (by rw[<-ho];rfl);have q2:=ap.same _ _ jA ax rfl;have ao:=q1;rw[<-ho]at ao;have:=run_endRound (P:=P) z ao;refine⟨?_,q1,World.putObj_heap_same (jC q1),(World.putObj_heap_other (by omega)).trans q2⟩;rw[aa]at this⊢;exact this
  rintro e a3 W3 hp;cases e with
  |normal=>
   obtain⟨k3,kk,kx,i3⟩:=hp;obtain⟨hr,l3,l4,d4⟩:=fin none W3 k3;refine⟨_,_,hr,.inl ⟨rfl,⟨hI.putObj _ i3 (by omega) l3 (by rw[<-ho];rfl),l4,d4⟩,by have:=k3.size;simp at ah⊢;omega,an.putObj _ kk (by omega) l3 (by rw[<-ho];rfl),λk h1 h2=>by rw[World.putObj_heap_other (by omega),kx k h1 h2,hA _ _ _ (by rw[World.putObj_size];exact h2),World.putObj_heap_other (by omega)]⟩⟩
  |ret=>
   obtain⟨k3,i3⟩:=hp;obtain⟨hr,l3,l4,d4⟩:=fin (some .ret) W3 k3;exact⟨_,_,hr,.inr ⟨rfl,.ret,(ae _).putObj _ i3 (by omega) l3 (by rw[<-ho];rfl),l4,d4⟩⟩
  |exit id=>
   obtain⟨k3,i3⟩:=hp;obtain⟨hr,l3,l4,d4⟩:=fin (some (.exit id)) W3 k3;exact⟨_,_,hr,.inr ⟨rfl,.exit id,(ae _).putObj _ i3 (by omega) l3 (by rw[<-ho];rfl),l4,d4⟩⟩
  |goto t=>
   obtain⟨k3,i3⟩:=hp;obtain⟨hr,l3,l4,d4⟩:=fin (some (.goto t)) W3 k3;exact⟨_,_,hr,.inr ⟨rfl,.goto t,(ae _).putObj _ i3 (by omega) l3 (by rw[<-ho];rfl),l4,d4⟩⟩
  |panic ch=>exact hp.elim
  |outgrown=>exact hp.elim
 ·rintro e W2 ⟨⟨v,rfl⟩,(⟨xs,R,hS,⟨i0,l0,d0⟩,hb,he,ah⟩|⟨J,R,hS,⟨c,i0,l0,d0⟩,hb,he⟩)⟩
  ·have ab:w.heap.size+1<R.heap.size:=(jC l0)
   have l2:=(hb.block _ ab nl).trans l0;have d2:=(hb.block _ (by omega:w.heap.size<R.heap.size) nd).trans d0;refine⟨none,_,by have:=run_endLoop (P:=P) l2 (by rw[aa];simp);rw[aa]at this;exact this,?_⟩;exact aj _ xs _ _ jA (by simp;omega) hS (hI.putObj _ i0 (by omega) l0 rfl) (uD hb (w.heap.size+1) _ ab) (hE _ _ _ _ (by omega) he) (ar.putObj _ ah (by omega) l2 rfl) ((World.putObj_heap_other (by omega)).trans d2)
  ·have ab:w.heap.size+1<R.heap.size:=(jC l0)
   have l2:=(hb.block _ ab nl).trans l0;have d2:=(hb.block _ (by omega:w.heap.size<R.heap.size) nd).trans d0;refine⟨some c,_,by have:=run_endLoop (P:=P) l2 (by rw[aa];simp);rw[aa]at this;exact this,?_⟩;exact am _ c J _ _ jA (by simp;omega) hS ((ae c).putObj _ i0 (by omega) l0 rfl) (uD hb (w.heap.size+1) _ ab) (hE _ _ _ _ (by omega) he) ((World.putObj_heap_other (by omega)).trans d2)
end
structure rM where
 ws:List PW
 cnt:Nat
 ep:Nat
 sq:Nat
structure LV where
 i0:Int
 i1:Int
 i2:Int
 i3:Int
 i4:Int
 ta:Option Addr
 tn:Nat
 tc:Nat
 da:Option Addr
 dn:Nat
 dc:Nat
 i7:Int
def LV.cells(x:LV):Array Value:=#[.int .i64 x.i0,.int .i64 x.i1,.int .i64 x.i2,.int .i64 x.i3,.int .i64 x.i4,.slice x.ta x.tn x.tc,.slice x.da x.dn x.dc,.int .i64 x.i7]
structure DX where
 lv:LV
 e:Nat
 ob:Option PW
 s:rM
 s':rM
def DX.v(x:DX):Value:=.agg x.lv.cells
def DX.encs(x:DX):Array Value:=#[x.v]
def jI(s0:rM)(z:List DX):rM:=z.foldl (λ_ x=>x.s') s0
theorem vO(s0:rM)(z:List DX)(x:DX):jI s0 (z++[x])=x.s':=by simp[jI]
inductive Steps(c:Cf)(us:List PB)(s0:rM):List DX->Prop
 |nil:Steps c us s0 []
 |snoc {pre:List DX} {x:DX}:Steps c us s0 pre->x.s=jI s0 pre->jH c us x.s.ws x.s.cnt x.s.ep=(some (x.e,x.ob),x.s'.ws)->x.s'=⟨x.s'.ws,x.s.cnt+1,x.e,jX x.s.cnt x.s.ep x.s.sq x.e⟩->Steps c us s0 (pre++[x])
def DA(W:World)(kb:Nat)(c:Cf)(vu:Value)(us:List PB)(E:Nat->List (List UInt8))(nb:Nat)(vo vw:Value)(d:rM):Prop:=∃z,qJ W kb c vu us E nb vo z d.ws d.cnt d.ep d.sq/\∀g,z.ownBlock=some g->vw.ownBlock=some g
def DK(kb E:Nat)(c:Cf)(vu:Value)(us:List PB)(I:Nat->List (List UInt8))(nb:Nat)(vo vw:Value)(s0:rM)(z:List DX)(W:World):Prop:=DA W kb c vu us I nb vo vw (jI s0 z)/\W.cell? ⟨E,0,none⟩=some (.pointer (some ⟨kb,0,none⟩))
def VX(kb:Nat)(c:Cf)(vu:Value)(us:List PB)(E:Nat->List (List UInt8))(nb:Nat)(vo vw:Value)(s0:rM)(z:List DX)(W:World):Prop:=DA W kb c vu us E nb vo vw ⟨(jH c us (jI s0 z).ws (jI s0 z).cnt (jI s0 z).ep).2,(jI s0 z).cnt,(jI s0 z).ep,(jI s0 z).sq⟩
def DY(kb I:Nat)(c:Cf)(vu:Value)(us:List PB)(E:Nat->List (List UInt8))(nb:Nat)(vo vw:Value)(s0:rM)(z:List DX)(x:DX)(lo:Nat)(W:World):Prop:=
 Steps c us s0 (z++[x])/\(∃vd,x.v=Yz x.s.cnt (lF c us x.s.cnt) x.e (Ey us x.e) x.s'.sq (YF x.ob) vd (us.length-1)/\Made W lo vd (if x.s'.sq=0 then E x.e else []))/\(∀b,x.ob=some b->kM W b.2 b.1.txs)/\x.e<us.length/\DK kb I c vu us E nb vo vw s0 (z++[x]) W
def DS(c:Cf)(us:List PB)(s0:rM)(z:List DX):Prop:=Steps c us s0 z/\(jH c us (jI s0 z).ws (jI s0 z).cnt (jI s0 z).ep).1=none
def Rn(kb I:Nat)(c:Cf)(vu:Value)(us:List PB)(E:Nat->List (List UInt8))(nb:Nat)(vo vw:Value)(s0:rM)(z:List DX)(lo:Nat)(v:Value)(ok:Bool)(W:World):Prop:=
 (ok=true/\∃x,x.v=v/\DY kb I c vu us E nb vo vw s0 z x lo W)\/(ok=false/\DS c us s0 z/\VX kb c vu us E nb vo vw s0 z W)
def Good(c:Cf)(us:List PB)(s0:rM):Prop:=∀z,Steps c us s0 z->(0<us.length->yL c us (jI s0 z).ws (jI s0 z).cnt (jI s0 z).ep)/\(jI s0 z).sq<4294967296/\((jI s0 z).cnt=0->(jI s0 z).ep=0)
theorem Qk{ob:Option PW}{w:World}(h:∀b,ob=some b->kM w b.2 b.1.txs):∃a n cap,YF ob=.slice a n cap:=by
 cases ob with
 |none=>exact⟨none,0,0,rfl⟩
 |some b=>
  obtain⟨a,cap,e⟩:=Row.slice (h b rfl);exact⟨a,_,cap,e⟩
theorem KI{kb J:Nat}{c:Cf}{vu:Value}{us:List PB}{dl:Nat->List (List UInt8)}{nb:Nat}{vo vw:Value}{s0:rM}{z:List DX}{W:World}(hp:Steps c us s0 z)(hG:Good c us s0)(hdl:∀j,(dl j).length<=4294967296)(ai:¬(J=kb\/vw.ownBlock=some J))(ag:DK kb J c vu us dl nb vo vw s0 z W):
  Calls PQ 76 #[.pointer (some ⟨kb,0,none⟩)] W λx w'=>∃(i0 i1 i2 i3 i4:Int)(ta:Option Addr)(tn tc:Nat)(da:Option Addr)(dn dc:Nat)(i7:Int)(ok:Bool),x=.returned (.tuple #[.agg #[.int .i64 i0,.int .i64 i1,.int .i64 i2,.int .i64 i3,.int .i64 i4,.slice ta tn tc,.slice da dn dc,.int .i64 i7],.bool ok])
   /\jJ (λk=>k=kb\/vw.ownBlock=some k) W w'/\Rn kb J c vu us dl nb vo vw s0 z W.heap.size (.agg #[.int .i64 i0,.int .i64 i1,.int .i64 i2,.int .i64 i3,.int .i64 i4,.slice ta tn tc,.slice da dn dc,.int .i64 i7]) ok w'/\w'.cell? ⟨J,0,none⟩=some (.pointer (some ⟨kb,0,none⟩)):=by
 obtain⟨⟨af,hD,I⟩,R⟩:=ag;obtain⟨g1,g2,g3⟩:=hG z hp;have ah:J<W.heap.size:=fA W ⟨J,0,none⟩ R;refine aK (DZ kb c vu us dl nb vo af _ _ _ _ W hD g1 g2 hdl) ?_;rintro x w' ⟨h1,h2⟩;have hc:jJ (λk=>k=kb\/vw.ownBlock=some k) W w':=h2.mono (λk _ e=>e.imp (λe=>e) (λe=>I k e));have E:w'.cell? ⟨J,0,none⟩=some (.pointer (some ⟨kb,0,none⟩)):=(World.cell?_of_block (hc.block J ah ai)).trans R;cases hr:jH c us (jI s0 z).ws (jI s0 z).cnt (jI s0 z).ep with
 |mk o ws'=>
  rw[hr]at h1;cases o with
  |none=>
   obtain⟨rfl,Y,aa,ab⟩:=h1;exact⟨0,0,0,0,0,none,0,0,none,0,0,0,false,rfl,hc,.inr ⟨rfl,⟨hp,by rw[hr]⟩,Y,by rw[hr];exact aa,λg hg=>I g (ab g hg)⟩,E⟩
  |some o=>
   obtain⟨e,ob⟩:=o;obtain⟨he,vd,rfl,hm,ht,Y,aa,ab⟩:=h1;obtain⟨ta,tn,tc,ac⟩:=Qk ht;obtain⟨da,dn,dc,ae⟩:=rP hm;refine⟨(jI s0 z).cnt,lF c us (jI s0 z).cnt,e,Ey us e,jX (jI s0 z).cnt (jI s0 z).ep (jI s0 z).sq e,ta,tn,tc,da,dn,dc,(us.length-1:Nat),true,?_,hc,.inl ⟨rfl,⟨⟨(jI s0 z).cnt,lF c us (jI s0 z).cnt,e,Ey us e,jX (jI s0 z).cnt (jI s0 z).ep (jI s0 z).sq e,ta,tn,tc,da,dn,dc,(us.length-1:Nat)⟩,e,ob,jI s0 z,⟨ws',(jI s0 z).cnt+1,e,jX (jI s0 z).cnt (jI s0 z).ep (jI s0 z).sq e⟩⟩,rfl,.snoc hp rfl hr rfl,⟨vd,?_,hm⟩,ht,he,?_,E⟩,E⟩
   ·dsimp only;rw[ac,ae];rfl
   ·dsimp only;rw[ac,ae];rfl
   ·rw[vO];exact⟨Y,aa,λg hg=>I g (ab g hg)⟩
end Hm
end Go.Proofs.YtpibpdpedjinhaaGreatDoor
