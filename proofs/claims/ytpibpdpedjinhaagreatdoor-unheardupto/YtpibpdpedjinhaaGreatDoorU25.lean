import Derived.Test.YtpibpdpedjinhaaGreatDoorU24
set_option maxRecDepth 100000
set_option maxHeartbeats 8000000
set_option linter.unusedSimpArgs false
namespace Go.Proofs.YtpibpdpedjinhaaGreatDoor
namespace Hm
open Go.RowKit Go.Joins Go.Shelf
open Fr (below_drewN)
open Dv (U Cf Ba)
section
variable {w:World} {kb nb cnt ep sq R:Nat} {vu vo vw v0 v1 v2 v3 v4 v5 v6 v7:Value} {us:List PB} {dl:Nat->List (List UInt8)} {ws:List PW} {ty:TypeId}
def XU (num:Nat) (time:Int) (ep:Nat) (id:Int) (sq:Nat) (z vd:Value) (at_:Nat):Value:=.agg #[.int .i64 num,.int .i64 time,.int .i64 ep,.int .i64 id,.int .i64 sq,z,vd,.int .i64 at_]
def jZ (cnt ep sq e:Nat):Nat:=if 0 < cnt/\e=ep then sq+1 else 0
theorem qw.turn {c:Cf} (h:qw w kb c vu us dl nb vo vw ws cnt ep sq) {w':World} {z J I:Nat} (Y:jL (λk=>k=kb) w w') (ho:w'.heap[kb]? =some (.cells (jO c vu nb vo vw z J I) 137 (0,0))):qw w' kb c vu us dl nb vo vw ws z J I:=
 ⟨ho,h.upper.jR Y (λg E e=>jH h.upper h.obj (by decide) (by rw [E,e])),h.wait.jR Y (λg E e=>jH h.wait h.obj (by decide) (by rw [E,e])),λj p hp=>Row.jR (h.deps j p hp) Y (λg E e=>jH (h.deps j p hp) h.obj (by decide) (by rw [E,e])),λp hp=>Row.jR (h.txs p hp) Y (λg E e=>jH (h.txs p hp) h.obj (by decide) (by rw [E,e]))⟩
def qA (w:World) (R:Nat) (a b c d e f g h:Value):World:=(((((((w.setCell ⟨R,0,none⟩ a).setCell ⟨R,1,none⟩ b).setCell ⟨R,2,none⟩ c).setCell ⟨R,3,none⟩ d).setCell ⟨R,4,none⟩ e).setCell ⟨R,5,none⟩ f).setCell ⟨R,6,none⟩ g).setCell ⟨R,7,none⟩ h
theorem kQ (w:World) (R:Nat) (a b c d e f g h:Value):jL (λk=>k=R) w (qA w R a b c d e f g h):=
 (((((((jL.set w R 0 a).trans (jL.set _ R 1 b) (λ_ _ e=>e)).trans (jL.set _ R 2 c) (λ_ _ e=>e)).trans (jL.set _ R 3 d) (λ_ _ e=>e)).trans (jL.set _ R 4 e) (λ_ _ e=>e)).trans (jL.set _ R 5 f) (λ_ _ e=>e)).trans (jL.set _ R 6 g) (λ_ _ e=>e)).trans (jL.set _ R 7 h) (λ_ _ e=>e)
theorem BF (h:w.heap[R]? =some (.cells #[v0,v1,v2,v3,v4,v5,v6,v7] ty (0,0))) (a b c d e f g i:Value):(qA w R a b c d e f g i).heap[R]? =some (.cells #[a,b,c,d,e,f,g,i] ty (0,0)):=by
 have:=jU (jU (jU (jU (jU (jU (jU (jU h 0 a) 1 b) 2 c) 3 d) 4 e) 5 f) 6 g) 7 i
 simpa [qA] using this
theorem UW {V:World} {c:Cf} {lo:Nat} {vd:Value} {l:List (List UInt8)} (h:qw V kb c vu us dl nb vo vw ws cnt ep sq) (hm:Made V lo vd l) {rc:Array Value} (hR:V.heap[R]? =some (.cells rc 62 (0,0))) (x0 x1 x2 x3 x4 x5 x6 x7:Value):
  qw (qA (V.setCell ⟨kb,11,none⟩ (.int .i64 ((cnt:Int)+1))) R x0 x1 x2 x3 x4 x5 x6 x7) kb c vu us dl nb vo vw ws (cnt+1) ep sq/\Made (qA (V.setCell ⟨kb,11,none⟩ (.int .i64 ((cnt:Int)+1))) R x0 x1 x2 x3 x4 x5 x6 x7) lo vd l:=by
 have aa:kb≠R:=λe=>by have:=h.obj;rw [e,hR] at this;simp at this
 have E:=jL.set V kb 11 (.int .i64 ((cnt:Int)+1))
 have h1:qw (V.setCell ⟨kb,11,none⟩ (.int .i64 ((cnt:Int)+1))) kb c vu us dl nb vo vw ws (cnt+1) ep sq:=by
  refine h.turn E ?_
  have:=jU h.obj 11 (.int .i64 ((cnt:Int)+1))
  simpa [jO] using this
 have Y:Row (V.setCell ⟨kb,11,none⟩ (.int .i64 ((cnt:Int)+1))) 9 1 vd l.length (l.map nT):=hm.1.jR E (λg I e=>jH hm.1 h.obj (by decide) (by rw [I,e]))
 have z:(V.setCell ⟨kb,11,none⟩ (.int .i64 ((cnt:Int)+1))).heap[R]? =some (.cells rc 62 (0,0)):=(aP _ _ _ _ (λe=>aa e.symm)).trans hR
 have J:=kQ (V.setCell ⟨kb,11,none⟩ (.int .i64 ((cnt:Int)+1))) R x0 x1 x2 x3 x4 x5 x6 x7
 refine ⟨h1.jR J aa (λg I e=>jH h1.upper z (by decide) (by rw [I,e])) (λg I e=>jH h1.wait z (by decide) (by rw [I,e])) (λg cs fz ab e=>?_),Y.jR J (λg I e=>jH Y z (by decide) (by rw [I,e])),hm.2⟩
 rw [e,z] at ab
 simp at ab
theorem lg {W:World} {b:Nat} (h:W.heap[b]? =some (.cells #[v0,v1,v2,v3,v4,v5,v6,v7] ty (0,0))):W.cell? ⟨b,0,none⟩=some v0/\W.cell? ⟨b,1,none⟩=some v1/\W.cell? ⟨b,2,none⟩=some v2/\W.cell? ⟨b,3,none⟩=some v3/\W.cell? ⟨b,4,none⟩=some v4/\W.cell? ⟨b,5,none⟩=some v5/\W.cell? ⟨b,6,none⟩=some v6/\W.cell? ⟨b,7,none⟩=some v7/\(∀o,W.frozen? ⟨b,o,none⟩=false):=
 ⟨by rw [aA h];rfl,by rw [aA h];rfl,by rw [aA h];rfl,by rw [aA h];rfl,by rw [aA h];rfl,by rw [aA h];rfl,by rw [aA h];rfl,by rw [aA h];rfl,aI h⟩
theorem Ii (kb:Nat) (c:Cf) (vu:Value) (us:List PB) (dl:Nat->List (List UInt8)) (nb:Nat) (vo vw:Value) (ws:List PW) (cnt ep sq e:Nat) (ta:Option Addr) (tn tc:Nat) (w:World) (h:qw w kb c vu us dl nb vo vw ws cnt ep sq) (s:xP c us ws cnt ep) (he:e < us.length) (b8:sq < 4294967296) (hdl:∀j,(dl j).length<=4294967296):
  Calls PQ 122 #[.pointer (some ⟨kb,0,none⟩),.int .i64 e,.slice ta tn tc] w λx w'=>∃vd,x=.returned (XU cnt (lG c us cnt) e (DU us e) (jZ cnt ep sq e) (.slice ta tn tc) vd (us.length - 1))/\Made w' w.heap.size vd (if jZ cnt ep sq e=0 then dl e else [])/\qw w' kb c vu us dl nb vo vw ws (cnt+1) e (jZ cnt ep sq e)/\jL (λk=>k=kb) w w':=by
 obtain ⟨W,hW⟩:∃W,W=w.alloc (.cells #[.int .i64 0,.int .i64 0,.int .i64 0,.int .i64 0,.int .i64 0,.slice none 0 0,.slice none 0 0,.int .i64 0] 62):=⟨_,rfl⟩
 have ax:Below w.heap.size w W:=by rw [hW];exact (aB _ w).alloc jC _
 have ro:W.heap[w.heap.size]? =some (.cells #[.int .i64 0,.int .i64 0,.int .i64 0,.int .i64 0,.int .i64 0,.slice none 0 0,.slice none 0 0,.int .i64 0] 62 (0,0)):=by rw [hW];exact heap_alloc_new _ _
 have hD:=h.below ax
 have c11:W.cell? ⟨kb,11,none⟩=some (.int .i64 cnt):=jF hD.obj rfl
 have bx:W.cell? ⟨kb,12,none⟩=some (.int .i64 ep):=jF hD.obj rfl
 have a0:W.cell? ⟨kb,13,none⟩=some (.int .i64 sq):=jF hD.obj rfl
 have fk:=aI hD.obj
 obtain ⟨q,hq⟩:∃q,jZ cnt ep sq e=q:=⟨_,rfl⟩
 rw [hq]
 unfold jZ at hq
 obtain ⟨ld,a3⟩:∃ld,(if q=0 then dl e else [])=ld:=⟨_,rfl⟩
 rw [a3]
 have bp:Hid _:=a3
 clear a3
 have H:Hid _:=jB hD (jB ax (jB ro (jB s (jB hq hdl))))
 have cg:=s.cnt
 have cb:=s.len
 have cd:kb < w.heap.size:=(jE h.obj)
 clear hD ax ro s hq h hdl
 go_enter (fq Tryz.func122 rfl),Tryz.ntmps122
 go_upto_region 1 with fail
 rw [<-hW]
 clear hW
 obtain ⟨b,hb⟩:∃b,decide (0 < cnt/\e=ep)=b:=⟨_,rfl⟩
 have Hb:Hid _:=hb
 clear hb
 go_cut [21] (λv wx=>v=.bool b/\wx=W)
 case first=>
  by_cases h0:0 < cnt
  ·have b1:(0:Int) < (cnt:Int):=by omega
   by_cases h1:e=ep
   ·have b3:((e:Int) == (ep:Int))=true:=by rw [h1];simp
    have H1:Hid _:=jB h0 h1
    clear h1 h0
    go_wp2_with fail
    go_meet
    refine ⟨?_,rfl⟩
    rw [<-Hb.out,decide_eq_true H1.out]
   ·have b3:((e:Int) == (ep:Int))=false:=beq_false_of_ne (by omega)
    have H1:Hid _:=h1
    clear h1
    go_wp2_with fail
    go_meet
    refine ⟨?_,rfl⟩
    rw [<-Hb.out,decide_eq_false (λh=>H1.out h.2)]
  ·have b1:¬(0:Int) < (cnt:Int):=by omega
   have H1:Hid _:=h0
   clear h0
   go_wp2_with fail
   go_meet
   refine ⟨?_,rfl⟩
   rw [<-Hb.out,decide_eq_false (λh=>H1.out h.1)]
 case rest=>
  obtain ⟨rfl,av⟩:=hcut
  have au:=av.symm
  clear av
  subst au
  go_upto_if 21 with fail
  go_cut [22] (λ_ wx=>Hid (qw wx kb c vu us dl nb vo vw ws cnt e q/\jL (λk=>k=kb) W wx))
  case first=>
   cases b
   ·go_wp2_with fail
    go_meet
    obtain ⟨hD,ax,ro,s,hq,hdl⟩:=H.out
    have Y:q=0:=by rw [<-hq,if_neg (of_decide_eq_false Hb.out)]
    subst Y
    have hc:jL (λk=>k=kb) W ((W.setCell ⟨kb,12,none⟩ (.int .i64 e)).setCell ⟨kb,13,none⟩ (.int .i64 0)):=(jL.set _ kb 12 _).trans (jL.set _ kb 13 _) (λ_ _ e=>e)
    refine ⟨hD.turn hc ?_,hc⟩
    have:=jU (jU hD.obj 12 (.int .i64 e)) 13 (.int .i64 0)
    simpa [jO] using this
   ·go_wp2_with fail
    go_meet
    obtain ⟨hD,ax,ro,s,hq,hdl⟩:=H.out
    obtain ⟨bz,bo⟩:=of_decide_eq_true Hb.out
    have Y:q=sq+1:=by rw [<-hq,if_pos ⟨bz,bo⟩]
    subst Y bo
    have hc:jL (λk=>k=kb) W (W.setCell ⟨kb,13,none⟩ (.int .i64 ((sq:Int)+1))):=jL.set _ kb 13 _
    refine ⟨hD.turn hc ?_,hc⟩
    have:=jU hD.obj 13 (.int .i64 ((sq:Int)+1))
    simpa [jO] using this
  case rest=>
   obtain ⟨Vc,bu⟩:∃V,V=wc:=⟨_,rfl⟩
   subst bu
   clear c11 bx a0 fk
   obtain ⟨an,ai⟩:=hcut.out
   have E:Vc.heap[w.heap.size]? =_:=(ai.block _ (jE H.out.2.2.1) (by omega)).trans H.out.2.2.1
   obtain ⟨g,off,cap,ba,cc⟩:=an.upper.pos (by omega)
   obtain ⟨p,hp⟩:∃p,us[e]? =some p:=⟨_,aG he⟩
   obtain ⟨da,af,a6⟩:=Row.slice (an.deps e p hp)
   have aw:=an.upper.rd
   rw [ba] at aw
   have k0:Vc.cell? ⟨g,off+e * 3,none⟩=some (.int .i64 p.1):=Rd.rec pG 3 (λ_=>rfl) aw hp (i:=0) (u:=.int .i64 p.1) (by omega) rfl
   have k1:Vc.cell? ⟨g,off+e * 3+1,none⟩=some (.int .i64 p.2.1):=by
    have:=Rd.rec pG 3 (λ_=>rfl) aw hp (i:=1) (u:=.int .i64 p.2.1) (by omega) rfl
    rw [<-dO] at this
    exact this
   have k2:Vc.cell? ⟨g,off+e * 3+2,none⟩=some (.slice da (dl e).length af):=by
    have:=Rd.rec pG 3 (λ_=>rfl) aw hp (i:=2) (u:=.slice da (dl e).length af) (by omega) (by rw [<-a6];rfl)
    rw [<-dO] at this
    exact this
   have c7:Vc.cell? ⟨kb,7,none⟩=some (.slice (some ⟨g,off,none⟩) us.length cap):=by rw [aA an.obj,<-ba];rfl
   have b9:(e:Int) < (us.length:Int):=by omega
   obtain ⟨X,hX⟩:∃X,X=Vc.alloc (.cells #[.int .i64 p.1,.int .i64 p.2.1,.slice da (dl e).length af] 139):=⟨_,rfl⟩
   have ac:Below Vc.heap.size Vc X:=by rw [hX];exact (aB _ _).alloc jC _
   have uo:X.heap[Vc.heap.size]? =some (.cells #[.int .i64 p.1,.int .i64 p.2.1,.slice da (dl e).length af] 139 (0,0)):=by rw [hX];exact heap_alloc_new _ _
   have z:=an.below ac
   have bj:xP c us ws cnt e:=⟨H.out.2.2.2.1.times,H.out.2.2.2.1.step,H.out.2.2.2.1.drift,H.out.2.2.2.1.window,H.out.2.2.2.1.cnt,H.out.2.2.2.1.len,H.out.2.2.2.1.wlen,he,H.out.2.2.2.1.batch⟩
   have a5:=z.look bj
   have a7:=λ(V:World) (hV:Below X.heap.size X V)=>Cb kb c us cnt e V (a5.below hV) (by omega)
   have a9:=λ(V:World) (hV:Below X.heap.size X V)=>vC kb c us cnt e V (a5.below hV) (by omega)
   obtain ⟨t,ht⟩:∃t,lG c us cnt=t:=⟨_,rfl⟩
   obtain ⟨nn,ah⟩:∃nn,us.length - 1=nn:=⟨_,rfl⟩
   have hI:=Fb hp
   obtain ⟨pi,bn⟩:∃x,p.1=x:=⟨_,rfl⟩
   rw [ht] at a7
   rw [ah] at a9
   rw [bn] at hI uo hX k0
   have bd:X.cell? ⟨kb,11,none⟩=some (.int .i64 cnt):=jF z.obj rfl
   have bb:X.cell? ⟨kb,13,none⟩=some (.int .i64 q):=jF z.obj rfl
   have u0:X.cell? ⟨Vc.heap.size,0,none⟩=some (.int .i64 pi):=jF uo rfl
   have bh:Vc.heap.size < X.heap.size:=(jE uo)
   have bg:kb < X.heap.size:=(jE z.obj)
   have bw:Hid _:=a7
   have b0:Hid _:=a9
   have ab:kM X (.slice da (dl e).length af) (dl e):=by have:=z.deps e p hp;rw [a6] at this;exact this
   have H2:Hid _:=jB z (jB uo (jB ab (jB ac (jB E (jB ai (jB hp (jB hI (jB ht ah))))))))
   clear ab an ai E aw hp a6 ba z bj a5 a7 a9 uo ac hI ht ah bn hcut
   go_upto_region 5 with fail
   rw [<-hX]
   clear hX k0 k1 k2 c7
   have aa:=aB X.heap.size X
   have hS:∀V,Below X.heap.size X V->V.cell? ⟨kb,11,none⟩=some (.int .i64 cnt)/\V.cell? ⟨kb,13,none⟩=some (.int .i64 q)/\V.cell? ⟨Vc.heap.size,0,none⟩=some (.int .i64 pi):=λV hV=>⟨(hV.cell (p:=⟨kb,11,none⟩) bg).trans bd,(hV.cell (p:=⟨kb,13,none⟩) bg).trans bb,(hV.cell (p:=⟨Vc.heap.size,0,none⟩) bh).trans u0⟩
   have HS:Hid _:=hS
   clear hS
   go_cut [8] (λv wx=>Hid (v=.pointer (some ⟨X.heap.size,0,none⟩)/\wx.heap[X.heap.size]? =some (.cells #[.int .i64 cnt,.int .i64 t,.int .i64 e,.int .i64 pi,.int .i64 q,.slice ta tn tc,.slice none 0 0,.int .i64 nn] 62 (0,0))/\Below X.heap.size X wx))
   case first=>
    go_region_held3 (λV=>V.cell? ⟨kb,11,none⟩=some (.int .i64 cnt)/\V.cell? ⟨kb,13,none⟩=some (.int .i64 q)/\V.cell? ⟨Vc.heap.size,0,none⟩=some (.int .i64 pi))
     ((refine HS.out _ ?_;(repeat (with_reducible refine Below.setCell ?_ (p:=_) (by first|exact jC|exact J.size|exact I.size) _));first|exact I|exact I.alloc I.size _|exact J|exact J.alloc J.size _|exact aa.drew|exact (aa.drew.alloc jC _)|exact (aa.alloc jC _).drew))
     (first|(go_at_call 178;(refine aK (bw.out _ ?_) ?_;(first|exact aa.drew|exact aa.drew.alloc jC _|exact (aa.alloc jC _).drew);rintro e5 w5 ⟨rfl,m5,aq⟩;have J:Below X.heap.size X w5:=(by rw [aq];first|exact below_drewN aa.drew _|exact below_drewN (aa.drew.alloc jC _) _|exact below_drewN (aa.alloc jC _).drew _);(first|(have bk:w5.heap.size=X.heap.size:=(by rw [aq];rfl))|(have bl:w5.heap[X.heap.size]? =some (.cells #[.int .i64 0,.int .i64 0,.int .i64 0,.int .i64 0,.int .i64 0,.slice none 0 0,.slice none 0 0,.int .i64 0] 62 (0,0)):=(by rw [aq];exact heap_alloc_new _ _);obtain ⟨y0,y1,y2,y3,y4,y5,y6,y7,yf⟩:=lg bl));have ci:Hid _:=aq;clear aq))|(go_at_call 124;(refine aK (b0.out _ ?_) ?_;(first|exact J|exact J.alloc J.size _);rintro e6 w6 ⟨rfl,m6,aj⟩;have I:Below X.heap.size X w6:=(by rw [aj];first|exact below_drewN J _|exact below_drewN (J.alloc J.size _) _);(first|(have ap:w6.heap[X.heap.size]? =some (.cells #[.int .i64 0,.int .i64 0,.int .i64 0,.int .i64 0,.int .i64 0,.slice none 0 0,.slice none 0 0,.int .i64 0] 62 (0,0)):=(by rw [aj];exact bl);obtain ⟨x0,x1,x2,x3,x4,x5,x6,x7,xf⟩:=lg ap)|(have ap:w6.heap[X.heap.size]? =some (.cells #[.int .i64 0,.int .i64 0,.int .i64 0,.int .i64 0,.int .i64 0,.slice none 0 0,.slice none 0 0,.int .i64 0] 62 (0,0)):=(by rw [aj,<-bk];exact heap_alloc_new _ _);obtain ⟨x0,x1,x2,x3,x4,x5,x6,x7,xf⟩:=lg ap)|(have bv:w6.heap.size=X.heap.size:=(by rw [aj];exact bk)));have cf:Hid _:=aj;clear aj))|fail)
    ·go_wp2_with fail
     go_meet
     exact ⟨rfl,by rw [<-bv];exact heap_alloc_new _ _,I.alloc I.size _⟩
    ·go_wp2_with fail
     go_meet
     exact ⟨rfl,BF ap _ _ _ _ _ _ _ _,I.trans ⟨(kQ w6 X.heap.size _ _ _ _ _ _ _ _).os,(kQ w6 X.heap.size _ _ _ _ _ _ _ _).tape,(kQ w6 X.heap.size _ _ _ _ _ _ _ _).output,(kQ w6 X.heap.size _ _ _ _ _ _ _ _).size,λk hk=>(kQ w6 X.heap.size _ _ _ _ _ _ _ _).block k (aH hk I.size) (iJ hk)⟩⟩
    ·go_wp2_with fail
     go_meet
     exact ⟨rfl,BF ap _ _ _ _ _ _ _ _,I.trans ⟨(kQ w6 X.heap.size _ _ _ _ _ _ _ _).os,(kQ w6 X.heap.size _ _ _ _ _ _ _ _).tape,(kQ w6 X.heap.size _ _ _ _ _ _ _ _).output,(kQ w6 X.heap.size _ _ _ _ _ _ _ _).size,λk hk=>(kQ w6 X.heap.size _ _ _ _ _ _ _ _).block k (aH hk I.size) (iJ hk)⟩⟩
   case rest=>
    obtain ⟨rfl,a4,am⟩:=hcut.out
    clear bd bb u0
    obtain ⟨c11,a0,_⟩:=HS.out wc am
    have u2:wc.cell? ⟨Vc.heap.size,2,none⟩=some (.slice da (dl e).length af):=(am.cell (p:=⟨Vc.heap.size,2,none⟩) bh).trans (by rw [aA H2.out.2.1];rfl)
    obtain ⟨l0,l1,l2,l3,l4,l5,l6,l7,lf⟩:=lg a4
    have b6:Below X.heap.size X wc:=am
    have HC:Hid _:=Lj (.slice da (dl e).length af) (dl e) wc (Row.below H2.out.2.2.1 am) (H.out.2.2.2.2.2 e)
    have HL:Hid _:=jB a4 am
    clear a4 am hcut
    obtain ⟨bq,br⟩:∃b,decide (q=0)=b:=⟨_,rfl⟩
    have Hq:Hid _:=br
    clear br
    obtain ⟨Wc,bs⟩:∃V,V=wc:=⟨_,rfl⟩
    subst bs
    go_upto_region 6 with fail
    go_cut [64] (λv wx=>v=.bool bq/\wx=Wc)
    case first=>
     by_cases Y:q=0
     ·have b2:((q:Int) == 0)=true:=by rw [Y];rfl
      have a8:Hid _:=Y
      clear Y
      go_wp2_with fail
      go_meet
      refine ⟨?_,rfl⟩
      rw [<-Hq.out,decide_eq_true a8.out]
     ·have b2:((q:Int) == 0)=false:=beq_false_of_ne (by omega)
      have a8:Hid _:=Y
      clear Y
      go_wp2_with fail
      go_meet
      refine ⟨?_,rfl⟩
      rw [<-Hq.out,decide_eq_false a8.out]
    case rest=>
     obtain ⟨rfl,av⟩:=hcut
     have au:=av.symm
     clear av
     subst au
     go_upto_if 64 with fail
     go_cut [8] (λv wx=>Hid (∃va vn vc,v=.pointer (some ⟨X.heap.size,0,none⟩)/\wx.heap[X.heap.size]? =some (.cells #[.int .i64 cnt,.int .i64 t,.int .i64 e,.int .i64 pi,.int .i64 q,.slice ta tn tc,.slice va vn vc,.int .i64 nn] 62 (0,0))/\Made wx X.heap.size (.slice va vn vc) ld/\Below X.heap.size X wx))
     case first=>
      cases bq
      ·go_wp2_with fail
       go_meet
       refine ⟨none,0,0,rfl,HL.out.1,?_,HL.out.2⟩
       rw [<-bp.out,if_neg (of_decide_eq_false Hq.out)]
       exact ⟨Row.nil _ _ _,by simp [Value.ownBlock]⟩
      ·go_wp2_with (first|(go_at_call 130;refine aK HC.out ?_;rintro e7 w7 ⟨va,vc,rfl,ak,ay⟩;have ao:=(ay.block X.heap.size (jE HL.out.1)).trans HL.out.1;obtain ⟨k0,k1,k2,k3,k4,k5,k6,k7,kf⟩:=lg ao;have HM:Hid _:=jB ak (jB ay ao);clear ak ay ao)|fail)
       go_meet
       obtain ⟨ak,ay,ao⟩:=HM.out
       refine ⟨va,(dl e).length,vc,rfl,?_,?_,?_⟩
       ·have:=jU ao 6 (.slice va (dl e).length vc)
        simpa using this
       ·rw [<-bp.out,if_pos (of_decide_eq_true Hq.out)]
        exact ⟨ak.1.jR (jL.set _ X.heap.size 6 _) (λg hg e=>jH ak.1 ao (by decide) (by rw [hg,e])),λg hg=>aW HL.out.2.size (ak.2 g hg)⟩
       ·exact (HL.out.2.trans (ay.mono HL.out.2.size)).setCell jC _
     case rest=>
      obtain ⟨va,vn,vc,rfl,az,a1,ag⟩:=hcut.out
      clear hcut c11 a0 u2 l0 l1 l2 l3 l4 l5 l6 l7 lf
      obtain ⟨c11,a0,_⟩:=HS.out wc ag
      obtain ⟨l0,l1,l2,l3,l4,l5,l6,l7,lf⟩:=lg az
      obtain ⟨z,uo,ab,ac,E,ai,hp,hI,ht,ah⟩:=H2.out
      have b5:w.heap.size < Vc.heap.size:=(jE E)
      have a2:X.heap[w.heap.size]? =_:=(ac.block _ b5).trans E
      have ae:wc.heap[w.heap.size]? =_:=(ag.block _ (by omega)).trans a2
      obtain ⟨r0,r1,r2,r3,r4,r5,r6,r7,rf⟩:=lg ae
      have ar:=z.below ag
      have fk:=aI ar.obj
      have H8:Hid _:=jB ar (jB a1 (jB ag (jB ae az)))
      have ce:kb≠w.heap.size:=by omega
      have b7:kb≠X.heap.size:=by omega
      have ca:w.heap.size≠X.heap.size:=by omega
      clear az a1 ag ae a2 ar z uo ab ac E ai hp hI ht ah
      go_wp2_with fail
      obtain ⟨ar,a1,ag,ae,az⟩:=H8.out
      obtain ⟨z,uo,ab,ac,E,ai,hp,hI,ht,ah⟩:=H2.out
      obtain ⟨b4,bm⟩:=UW ar a1 ae (.int .i64 cnt) (.int .i64 t) (.int .i64 e) (.int .i64 pi) (.int .i64 q) (.slice ta tn tc) (.slice va vn vc) (.int .i64 nn)
      refine bodyPost_ret (v:=.agg #[.int .i64 cnt,.int .i64 t,.int .i64 e,.int .i64 pi,.int .i64 q,.slice ta tn tc,.slice va vn vc,.int .i64 nn]) (by simp [results,Tryz.results122,go_sem,r0,r1,r2,r3,r4,r5,r6,r7]) rfl ⟨.slice va vn vc,?_,⟨bm.1,λg hg=>aW (by omega) (bm.2 g hg)⟩,b4,?_⟩
      ·rw [ht,hI,ah]
       rfl
      ·exact ((((((jL.below H.out.2.1 jC (λk=>k=kb)).trans ai (λ_ _ e=>e)).trans (jL.below ac jC (λk=>k=kb)) (λ_ _ e=>e)).trans (jL.below ag jC (λk=>k=kb)) (λ_ _ e=>e)).trans (jL.set _ kb 11 _) (λ_ _ e=>e)).trans (kQ _ w.heap.size _ _ _ _ _ _ _ _) (λk hk e=>by omega))
end
section
variable {c:Cf} {us:List PB} {ws ws':List PW} {cnt ep kb nb sq R:Nat} {V w:World} {vu vo vw vw':Value} {dl:Nat->List (List UInt8)} {rc:Array Value}
theorem pq (V:PW->Nat):∀l:List PW,((pick V l).1=(0,none)\/(pick V l).1=(2,none)\/∃b,b∈l/\(pick V l).1=(3,some b))/\(∀p,p∈(pick V l).2->p∈l)/\(pick V l).2.length<=l.length
 |[]=>⟨.inl rfl,λ_ h=>h,jC⟩
 |b::r=>by
  obtain ⟨E,h2,h3⟩:=pq V r
  unfold pick
  split
  ·refine ⟨?_,?_,by simp;omega⟩
   ·rcases E with h|h|⟨x,z,h⟩
    ·exact .inl h
    ·exact .inr (.inl h)
    ·exact .inr (.inr ⟨x,bT _ z,h⟩)
   ·intro p hp
    rcases bV.1 hp with e|h
    ·rw [e];exact dK
    ·exact bT _ (h2 p h)
  ·split
   ·exact ⟨.inr (.inl rfl),λ_ h=>h,jC⟩
   ·split
    ·exact ⟨.inr (.inr ⟨b,dK,rfl⟩),λp h=>bT _ h,by simp⟩
    ·refine ⟨?_,λp h=>bT _ (h2 p h),by simp;omega⟩
     rcases E with h|h|⟨x,z,h⟩
     ·exact .inl h
     ·exact .inr (.inl h)
     ·exact .inr (.inr ⟨x,bT _ z,h⟩)
theorem xP.sub (s:xP c us ws cnt ep) (h:∀p,p∈ws'->p∈ws) (z:ws'.length<=ws.length):xP c us ws' cnt ep:=
 ⟨s.times,s.step,s.drift,s.window,s.cnt,s.len,aW z s.wlen,s.ep,λp hp=>s.batch p (h p hp)⟩
def jJ (c:Cf) (us:List PB) (ws:List PW) (cnt ep:Nat):Option (Nat×Option PW)×List PW:=
 if us.length=0 then (none,ws) else if cnt=0 then (some (0,none),ws) else
  match (pick (judged c us cnt ep) ws).1.2 with
  |some b=>(some (b.1.epoch,some b),(pick (judged c us cnt ep) ws).2)
  |none=>if (pick (judged c us cnt ep) ws).1.1≠2/\(ep:Int)+c.window < ((us.length - 1:Nat):Int) then (some (alone c us cnt ep,none),(pick (judged c us cnt ep) ws).2) else (none,(pick (judged c us cnt ep) ws).2)
def X3:Option PW->Value
 |some b=>b.2
 |none=>.slice none 0 0
def LU:Value:=.agg #[.int .i64 0,.int .i64 0,.int .i64 0,.int .i64 0,.int .i64 0,.slice none 0 0,.slice none 0 0,.int .i64 0]
def Bc (w:World) (kb:Nat) (c:Cf) (vu:Value) (us:List PB) (dl:Nat->List (List UInt8)) (nb:Nat) (vo vw:Value) (cnt ep sq:Nat) (r:Option (Nat×Option PW)×List PW) (x:Ending) (w':World):Prop:=
 (match r.1 with
  |none=>x=.returned (.tuple #[LU,.bool false])/\∃vw',qw w' kb c vu us dl nb vo vw' r.2 cnt ep sq/\∀g,vw'.ownBlock=some g->vw.ownBlock=some g
  |some o=>o.1 < us.length/\∃vd,x=.returned (.tuple #[XU cnt (lG c us cnt) o.1 (DU us o.1) (jZ cnt ep sq o.1) (X3 o.2) vd (us.length - 1),.bool true])/\Made w' w.heap.size vd (if jZ cnt ep sq o.1=0 then dl o.1 else [])/\(∀b,o.2=some b->kM w' b.2 b.1.txs)/\∃vw',qw w' kb c vu us dl nb vo vw' r.2 (cnt+1) o.1 (jZ cnt ep sq o.1)/\∀g,vw'.ownBlock=some g->vw.ownBlock=some g)
 /\jL (λk=>k=kb\/vw.ownBlock=some k) w w'
theorem zS (h:qw V kb c vu us dl nb vo vw ws cnt ep sq) (E:V.heap[R]? =some (.cells rc 62 (0,0))) (Y x1 x2 x3 x4 x5 x6 x7:Value):
  qw (qA V R Y x1 x2 x3 x4 x5 x6 x7) kb c vu us dl nb vo vw ws cnt ep sq:=by
 have I:kb≠R:=λe=>by have:=h.obj;rw [e,E] at this;simp at this
 refine h.jR (kQ V R Y x1 x2 x3 x4 x5 x6 x7) I (λg J e=>jH h.upper E (by decide) (by rw [J,e])) (λg J e=>jH h.wait E (by decide) (by rw [J,e])) (λg cs fz z e=>?_)
 rw [e,E] at z
 simp at z
theorem BH {v:Value} {n:Nat} {l:List Value} (E:Row V 9 1 v n l) (hR:V.heap[R]? =some (.cells rc 62 (0,0))) (z Y x2 x3 I x5 J x7:Value):Row (qA V R z Y x2 x3 I x5 J x7) 9 1 v n l:=
 E.jR (kQ V R z Y x2 x3 I x5 J x7) (λg hg e=>jH E hR (by decide) (by rw [hg,e]))
theorem uX {z:World} {e:Nat} {ob:Option PW} {vd:Value}
  (hr:jJ c us ws cnt ep=(some (e,ob),ws')) (he:e < us.length) (hm:Made z V.heap.size vd (if jZ cnt ep sq e=0 then dl e else [])) (ab:w.heap.size<=V.heap.size) (ht:∀b,ob=some b->kM V b.2 b.1.txs) (J:∃cs,V.heap[kb]? =some (.cells cs 137 (0,0)))
  (hD:qw z kb c vu us dl nb vo vw' ws' (cnt+1) e (jZ cnt ep sq e)) (E:∀g,vw'.ownBlock=some g->vw.ownBlock=some g) (Y:jL (λk=>k=kb\/vw.ownBlock=some k) w V) (hc:jL (λk=>k=kb) V z) (hR:z.heap[w.heap.size]? =some (.cells rc 62 (0,0))) (x0 x1 x2 x3 x4 x5 x6 x7:Value) {x:Ending} (hx:x=.returned (.tuple #[XU cnt (lG c us cnt) e (DU us e) (jZ cnt ep sq e) (X3 ob) vd (us.length - 1),.bool true])):
  Bc w kb c vu us dl nb vo vw cnt ep sq (jJ c us ws cnt ep) x (qA z w.heap.size x0 x1 x2 x3 x4 x5 x6 x7):=by
 rw [hr]
 obtain ⟨cs,aa⟩:=J
 refine ⟨⟨he,vd,hx,⟨BH hm.1 hR _ _ _ _ _ _ _ _,λg I=>aW ab (hm.2 g I)⟩,λb hb=>?_,vw',zS hD hR _ _ _ _ _ _ _ _,E⟩,(Y.trans hc (λ_ _ e=>.inl e)).trans (kQ z w.heap.size _ _ _ _ _ _ _ _) (λk hk e=>by omega)⟩
 have h1:Row z 9 1 b.2 b.1.txs.length (b.1.txs.map nT):=Row.jR (ht b hb) hc (λg I e=>jH (ht b hb) aa (by decide) (by rw [I,e]))
 exact BH h1 hR _ _ _ _ _ _ _ _
theorem wZ
  (hr:jJ c us ws cnt ep=(none,ws')) (hD:qw V kb c vu us dl nb vo vw' ws' cnt ep sq) (z:∀g,vw'.ownBlock=some g->vw.ownBlock=some g) (E:jL (λk=>k=kb\/vw.ownBlock=some k) w V) (J:V.heap[w.heap.size]? =some (.cells rc 62 (0,0))) (I x1 x2 x3 Y x5 x6 x7:Value):
  Bc w kb c vu us dl nb vo vw cnt ep sq (jJ c us ws cnt ep) (.returned (.tuple #[LU,.bool false])) (qA V w.heap.size I x1 x2 x3 Y x5 x6 x7):=by
 rw [hr]
 exact ⟨⟨rfl,vw',zS hD J _ _ _ _ _ _ _ _,z⟩,E.trans (kQ V w.heap.size _ _ _ _ _ _ _ _) (λk hk e=>by omega)⟩
end
section
variable {c:Cf} {us:List PB} {ws:List PW} {cnt ep e:Nat}
theorem Dw (c:Cf) (us:List PB) (cnt:Nat):lG c us (cnt+1)=lG c us cnt+c.step:=by
 unfold lG
 rw [Int.natCast_add,Int.add_mul]
 simp [Int.add_assoc]
theorem xP.Us (s:xP c us ws cnt ep) (z:e < us.length):y8 us e<=4294967296:=by
 rw [tK (aG z)]
 exact (s.times _ (List.getElem_mem z)).2
theorem Bq {V:PW->Nat} {b:PW}:∀{l:List PW},(pick V l).1=(3,some b)->V b=3/\b∈l/\(pick V l).2.length < l.length
 |[],h=>by simp [pick] at h
 |x::r,h=>by
  unfold pick at h⊢
  split at h
  ·rename_i J
   rw [if_pos J]
   obtain ⟨I,h2,h3⟩:=Bq (l:=r) h
   exact ⟨I,bT _ h2,by simp;omega⟩
  ·rename_i J
   rw [if_neg J]
   split at h
   ·cases h
   ·rename_i E
    rw [if_neg E]
    split at h
    ·rename_i z
     rw [if_pos z]
     cases h
     exact ⟨z,dK,by simp⟩
    ·rename_i z
     rw [if_neg z]
     obtain ⟨I,h2,h3⟩:=Bq (l:=r) h
     exact ⟨I,bT _ h2,by simp;omega⟩
theorem C9 {b:Ba} {k:Nat} (h:verdict c us cnt ep b k=3):b.epoch=ep\/b.epoch=ep+1:=by
 unfold verdict at h
 split at h
 ·cases h
 ·split at h
  ·cases h
  ·rename_i z
   unfold outside at z
   simp at z
   by_cases e:b.epoch=ep
   ·exact .inl e
   ·exact .inr (z.1.2 e)
def meas (c:Cf) (us:List PB) (ws:List PW) (cnt ep:Nat):Nat:=ws.length+(us.length - ep)+((4294967298 - lG c us cnt) / 2).toNat
theorem OG {ws':List PW} {ob:Option PW} (s:xP c us ws cnt ep) (af:2<=c.step) (hz:cnt=0->ep=0) (h:jJ c us ws cnt ep=(some (e,ob),ws')):
  meas c us ws' (cnt+1) e < meas c us ws cnt ep/\ep<=e/\e < us.length:=by
 have Y:=s.ep
 have ac:=s.window
 unfold jJ at h
 rw [if_neg (by omega)] at h
 unfold meas
 rw [Dw]
 obtain ⟨t,ht⟩:∃t,lG c us cnt=t:=⟨_,rfl⟩
 obtain ⟨z,ab,ae⟩:=pq (judged c us cnt ep) ws
 split at h
 ·rename_i J
  cases h
  have h0:=hz J
  have:=s.Us (e:=0) (by omega)
  have aa:lG c us cnt=y8 us 0:=by
   unfold lG y8
   rw [J]
   simp
  rw [ht] at aa⊢
  refine ⟨?_,by omega,by omega⟩
  omega
 ·split at h
  ·rename_i b I
   rcases z with z|z|⟨b',ag,z⟩
   ·rw [z] at I;cases I
   ·rw [z] at I;cases I
   ·rw [z] at I
    cases I
    obtain ⟨h1,h2,h3⟩:=Bq z
    have h4:=C9 h1
    have h5:=(s.batch _ h2).1
    cases h
    rw [ht]
    refine ⟨?_,by omega,h5⟩
    omega
  ·split at h
   ·rename_i R
    cases h
    have E:ep+1 < us.length:=by omega
    have:=s.Us E
    unfold alone
    rw [ht]
    split
    ·exact ⟨by omega,by omega,E⟩
    ·exact ⟨by omega,by omega,Y⟩
   ·cases h
end
section
variable {c:Cf} {us:List PB} {ws rs:List PW} {cnt ep n:Nat}
theorem GU {b:PW} (E:us.length≠0) (I:cnt≠0) (z:(pick (judged c us cnt ep) ws).1=(n,some b)) (h2:(pick (judged c us cnt ep) ws).2=rs):jJ c us ws cnt ep=(some (b.1.epoch,some b),rs):=by unfold jJ;rw [if_neg E,if_neg I,z,h2]
theorem BA (E:us.length≠0) (I:cnt≠0) (z:(pick (judged c us cnt ep) ws).1=(n,none)) (h2:(pick (judged c us cnt ep) ws).2=rs) (h:n≠2/\(ep:Int)+c.window < ((us.length - 1:Nat):Int)):jJ c us ws cnt ep=(some (alone c us cnt ep,none),rs):=by unfold jJ;rw [if_neg E,if_neg I,z,h2];dsimp only;rw [if_pos h]
theorem uI (E:us.length≠0) (I:cnt≠0) (z:(pick (judged c us cnt ep) ws).1=(n,none)) (h2:(pick (judged c us cnt ep) ws).2=rs) (h:¬(n≠2/\(ep:Int)+c.window < ((us.length - 1:Nat):Int))):jJ c us ws cnt ep=(none,rs):=by unfold jJ;rw [if_neg E,if_neg I,z,h2];dsimp only;rw [if_neg h]
theorem qY {w:World} {lo:Nat} {v:Value} {l:List (List UInt8)} (h:Made w lo v l):∃a n c,v=.slice a n c:=by
 obtain ⟨a,c,e⟩:=Row.slice h.1
 exact ⟨a,_,c,e⟩
theorem Dj (kb:Nat) (c:Cf) (vu:Value) (us:List PB) (dl:Nat->List (List UInt8)) (nb:Nat) (vo vw:Value) (ws:List PW) (cnt ep sq:Nat) (w:World) (h:qw w kb c vu us dl nb vo vw ws cnt ep sq) (s:0 < us.length->xP c us ws cnt ep) (bk:sq < 4294967296) (hdl:∀j,(dl j).length<=4294967296):
  Calls PQ 76 #[.pointer (some ⟨kb,0,none⟩)] w (Bc w kb c vu us dl nb vo vw cnt ep sq (jJ c us ws cnt ep)):=by
 obtain ⟨W,hW⟩:∃W,W=w.alloc (.cells #[.int .i64 0,.int .i64 0,.int .i64 0,.int .i64 0,.int .i64 0,.slice none 0 0,.slice none 0 0,.int .i64 0] 62):=⟨_,rfl⟩
 have ap:Below w.heap.size w W:=by rw [hW];exact (aB _ w).alloc jC _
 have ro:W.heap[w.heap.size]? =some (.cells #[.int .i64 0,.int .i64 0,.int .i64 0,.int .i64 0,.int .i64 0,.slice none 0 0,.slice none 0 0,.int .i64 0] 62 (0,0)):=by rw [hW];exact heap_alloc_new _ _
 have hD:=h.below ap
 obtain ⟨ua,bu,ax⟩:=hD.upper.slice
 have c7:W.cell? ⟨kb,7,none⟩=some (.slice ua us.length bu):=by rw [aA hD.obj,<-ax];rfl
 have c11:W.cell? ⟨kb,11,none⟩=some (.int .i64 cnt):=jF hD.obj rfl
 have b6:kb < w.heap.size:=(jE h.obj)
 have a1:w.heap.size < W.heap.size:=(jE ro)
 have I:jL (λk=>k=kb\/vw.ownBlock=some k) w W:=.below ap jC _
 by_cases hu:us.length=0
 ·have bx:((us.length:Int) == 0)=true:=by rw [hu];rfl
  obtain ⟨r0,r1,r2,r3,r4,r5,r6,r7,rf⟩:=lg ro
  have hp:jJ c us ws cnt ep=(none,ws):=by unfold jJ;rw [if_pos hu]
  have H:Hid _:=jB hD (jB I (jB ro hp))
  clear h hD I hp s ax ap ro hu
  go_enter (fq Tryz.func76 rfl),Tryz.ntmps76
  go_upto_region 1 with fail
  rw [<-hW]
  clear hW
  go_wp2_with fail
  obtain ⟨hD,I,ro,hp⟩:=H.out
  refine bodyPost_ret (v:=.tuple #[.agg #[.int .i64 0,.int .i64 0,.int .i64 0,.int .i64 0,.int .i64 0,.slice none 0 0,.slice none 0 0,.int .i64 0],.bool false]) (by simp [results,Tryz.results76,go_sem,r0,r1,r2,r3,r4,r5,r6,r7]) rfl ?_
  exact wZ hp hD (λ_ hg=>hg) I ro _ _ _ _ _ _ _ _
 ·have bx:((us.length:Int) == 0)=false:=beq_false_of_ne (by omega)
  have s:=s (by omega)
  obtain ⟨nn,E⟩:∃nn,us.length - 1=nn:=⟨_,rfl⟩
  by_cases hc:cnt=0
  ·have bw:((cnt:Int) == 0)=true:=by rw [hc];rfl
   have hp:jJ c us ws cnt ep=(some (0,none),ws):=by unfold jJ;rw [if_neg hu,if_pos hc]
   have hd:Calls PQ 122 #[.pointer (some ⟨kb,0,none⟩),.int .i64 0,.slice none 0 0] W _:=Ii kb c vu us dl nb vo vw ws cnt ep sq 0 none 0 0 W hD s (by omega) bk hdl
   rw [E] at hd
   have Hd:Hid _:=hd
   have H:Hid _:=jB hD (jB I (jB ro (jB hp E)))
   have b0:0 < us.length:=by omega
   clear h hD I hp s ax ap ro hd E hc hu
   go_enter (fq Tryz.func76 rfl),Tryz.ntmps76
   go_upto_region 1 with fail
   rw [<-hW]
   clear hW
   go_wp2_with (first|(go_at_call 122;refine aK Hd.out ?_;rintro x2 w2 ⟨vd,rfl,af,ai,ag⟩;obtain ⟨va,vn,vc,rfl⟩:=qY af;have ae:=(ag.block w.heap.size a1 (by omega)).trans H.out.2.2.1;obtain ⟨r0,r1,r2,r3,r4,r5,r6,r7,rf⟩:=lg ae;have H2:Hid _:=jB af (jB ai (jB ag ae));clear af ai ag ae;unfold XU)|fail)
   obtain ⟨hD,I,ro,hp,E⟩:=H.out
   obtain ⟨af,ai,ag,ae⟩:=H2.out
   refine bodyPost_ret (v:=.tuple #[.agg #[.int .i64 cnt,.int .i64 (lG c us cnt),.int .i64 0,.int .i64 (DU us 0),.int .i64 (jZ cnt ep sq 0:Nat),.slice none 0 0,.slice va vn vc,.int .i64 nn],.bool true]) (by simp [results,Tryz.results76,go_sem,r0,r1,r2,r3,r4,r5,r6,r7]) rfl ?_
   exact uX hp b0 af (jo a1) (λb hb=>by simp at hb) ⟨_,hD.obj⟩ ai (λ_ hg=>hg) I ag ae _ _ _ _ _ _ _ _ (by rw [E];rfl)
  ·have bw:((cnt:Int) == 0)=false:=beq_false_of_ne (by omega)
   obtain ⟨ah,am,a2⟩:=pq (judged c us cnt ep) ws
   obtain ⟨rs,ao⟩:∃rs,(pick (judged c us cnt ep) ws).2=rs:=⟨_,rfl⟩
   have ab:=Me kb c vu us dl nb vo vw ws cnt ep sq W hD s
   rw [ao] at ab am a2
   have s2:=s.sub am a2
   have a9:vw.ownBlock≠some w.heap.size:=jH hD.wait ro (by decide)
   have a3:=λ(V:World) (bo:Value) (hV:qw V kb c vu us dl nb vo bo rs cnt ep sq) (e:Nat) (he:e < us.length) (ta:Option Addr) (tn tc:Nat)=>Ii kb c vu us dl nb vo bo rs cnt ep sq e ta tn tc V hV s2 he bk hdl
   rw [E] at a3
   have bl:Hid _:=a3
   have b7:us.length<=4294967296:=s.len
   rcases ah with ah|ah|⟨b,hb,ah⟩
   ·obtain ⟨b1,b4⟩:=s.window
    have b3:=s.ep
    have hs:=s2
    rw [ah] at ab
    have au:=λ(V:World) (hV:Look V kb c us cnt ep)=>vC kb c us cnt ep V hV (by omega)
    rw [E] at au
    have a6:Hid _:=au
    clear au
    by_cases hw:(ep:Int)+c.window < (nn:Int)
    ·have an:=BA hu hc ah ao ⟨by decide,by rw [E];exact hw⟩
     have br:ep+1 < us.length:=by omega
     obtain ⟨al,bb⟩:∃al,alone c us cnt ep=al:=⟨_,rfl⟩
     have ba:al < us.length:=by rw [<-bb];unfold alone;split<;>omega
     have a7:=λ(V:World) (hV:Look V kb c us cnt ep)=>xq kb c us cnt ep V hV br
     rw [bb] at an a7
     have bq:Hid _:=a7
     clear a7 bb
     unfold vg at ab
     dsimp only at ab
     have aw:Hid _:=ab
     have H:Hid _:=jB hD (jB I (jB ro (jB an (jB E hs))))
     clear h hD I an s s2 hs ax ap ro a3 ab E hc hu ah am a2 ao
     go_enter (fq Tryz.func76 rfl),Tryz.ntmps76
     go_upto_region 1 with fail
     rw [<-hW]
     clear hW
     go_upto_region 8 with (first|(go_at_call 123;refine aK aw.out ?_;rintro x1 w1 ⟨rfl,a5,aa,z,J⟩;have R:=(J.block w.heap.size a1 (by rintro (e|e);omega;exact a9 e)).trans H.out.2.2.1;have av:w.heap.size < w1.heap.size:=(jE R);have H1:Hid _:=jB aa (jB z (jB J R));clear aa z J R)|fail)
     generalize hV:World.alloc _ _=V
     have aj:Below w1.heap.size w1 V:=by rw [<-hV];exact (aB _ _).alloc jC _
     obtain ⟨hD,I,ro,hp,E,hs⟩:=H.out
     obtain ⟨aa,z,J,R⟩:=H1.out
     have ac:=(aj.block _ av).trans R
     have Y:=aa.below aj
     have ak:=(I.trans J (λ_ _ e=>e)).trans (.below aj jC (λk=>k=kb\/vw.ownBlock=some k)) (λ_ _ e=>e)
     have a8:w.heap.size < V.heap.size:=(jE ac)
     have bn:V.cell? ⟨kb,12,none⟩=some (.int .i64 ep):=jF Y.obj rfl
     have c3:V.cell? ⟨kb,3,none⟩=some (.int .i64 c.window):=jF Y.obj rfl
     have az:=Y.look hs
     have aq:=λm=>a6.out (V.drewN m) (az.below (below_drewN (aB _ _) m))
     have bj:=λV' (bz:Below V.heap.size V V')=>bq.out V' (az.below bz)
     have a4:Hid _:=aq
     have b2:Hid _:=bj
     have HV:Hid _:=jB Y (jB ak (jB ac (jB hp (jB z E))))
     clear hV aj hD I ro hp E hs aa z J R ac Y ak az aq bj
     go_quiet ((go_at_call 124;exact Calls.quiet_of (a4.out _)))
     go_wp2_with (first|(go_at_call 125;refine aK (b2.out _ (below_drewN (aB _ _) _)) ?_;rintro x3 w3 ⟨rfl,m3,bp⟩;have a0:Below V.heap.size V w3:=(by rw [bp];exact below_drewN (below_drewN (aB _ _) _) _);clear bp)|(go_at_call 122;refine aK (bl.out w3 a5 (HV.out.1.below a0) al ba none 0 0) ?_;rintro x2 w2 ⟨vd,rfl,af,ai,ag⟩;obtain ⟨va,vn,vc,rfl⟩:=qY af;have ae:=(ag.block w.heap.size (aH a8 a0.size) (by omega)).trans ((a0.block _ a8).trans HV.out.2.2.1);obtain ⟨r0,r1,r2,r3,r4,r5,r6,r7,rf⟩:=lg ae;have H2:Hid _:=jB af (jB ai (jB ag ae));clear af ai ag ae;unfold XU)|fail)
     obtain ⟨Y,ak,ac,hp,z,E⟩:=HV.out
     obtain ⟨af,ai,ag,ae⟩:=H2.out
     refine bodyPost_ret (v:=.tuple #[.agg #[.int .i64 cnt,.int .i64 (lG c us cnt),.int .i64 al,.int .i64 (DU us al),.int .i64 (jZ cnt ep sq al:Nat),.slice none 0 0,.slice va vn vc,.int .i64 nn],.bool true]) (by simp [results,Tryz.results76,go_sem,r0,r1,r2,r3,r4,r5,r6,r7]) rfl ?_
     exact uX hp ba af (aW (jo a8) a0.size) (λb' bg=>by simp at bg) ⟨_,(Y.below a0).obj⟩ ai z (ak.trans (.below a0 jC _) (λ_ _ e=>e)) ag ae _ _ _ _ _ _ _ _ (by rw [E];rfl)
    ·have an:=uI hu hc ah ao (λh=>hw (by rw [<-E];exact h.2))
     unfold vg at ab
     dsimp only at ab
     have aw:Hid _:=ab
     have H:Hid _:=jB hD (jB I (jB ro (jB an (jB E hs))))
     clear h hD I an s s2 hs ax ap ro a3 ab E hc hu ah am a2 ao
     go_enter (fq Tryz.func76 rfl),Tryz.ntmps76
     go_upto_region 1 with fail
     rw [<-hW]
     clear hW
     go_upto_region 8 with (first|(go_at_call 123;refine aK aw.out ?_;rintro x1 w1 ⟨rfl,a5,aa,z,J⟩;have R:=(J.block w.heap.size a1 (by rintro (e|e);omega;exact a9 e)).trans H.out.2.2.1;have av:w.heap.size < w1.heap.size:=(jE R);have H1:Hid _:=jB aa (jB z (jB J R));clear aa z J R)|fail)
     generalize hV:World.alloc _ _=V
     have aj:Below w1.heap.size w1 V:=by rw [<-hV];exact (aB _ _).alloc jC _
     obtain ⟨hD,I,ro,hp,E,hs⟩:=H.out
     obtain ⟨aa,z,J,R⟩:=H1.out
     have ac:=(aj.block _ av).trans R
     have Y:=aa.below aj
     have ak:=(I.trans J (λ_ _ e=>e)).trans (.below aj jC (λk=>k=kb\/vw.ownBlock=some k)) (λ_ _ e=>e)
     have a8:w.heap.size < V.heap.size:=(jE ac)
     have bn:V.cell? ⟨kb,12,none⟩=some (.int .i64 ep):=jF Y.obj rfl
     have c3:V.cell? ⟨kb,3,none⟩=some (.int .i64 c.window):=jF Y.obj rfl
     have az:=Y.look hs
     have aq:=λm=>a6.out (V.drewN m) (az.below (below_drewN (aB _ _) m))
     have a4:Hid _:=aq
     obtain ⟨r0,r1,r2,r3,r4,r5,r6,r7,rf⟩:=lg ac
     have HV:Hid _:=jB Y (jB ak (jB ac (jB hp z)))
     clear hV aj hD I ro hp E hs aa z J R ac Y ak az aq
     go_quiet ((go_at_call 124;exact Calls.quiet_of (a4.out _)))
     go_wp2_with fail
     obtain ⟨Y,ak,ac,hp,z⟩:=HV.out
     refine bodyPost_ret (v:=.tuple #[.agg #[.int .i64 0,.int .i64 0,.int .i64 0,.int .i64 0,.int .i64 0,.slice none 0 0,.slice none 0 0,.int .i64 0],.bool false]) (by simp [results,Tryz.results76,go_sem,r0,r1,r2,r3,r4,r5,r6,r7]) rfl ?_
     exact wZ hp (Y.below (below_drewN (aB _ _) _)) z (ak.trans (.below (below_drewN (aB V.heap.size V) _) jC _) (λ_ _ e=>e)) ac _ _ _ _ _ _ _ _
   ·have an:=uI hu hc ah ao (λh=>h.1 rfl)
    have hs:=s2
    rw [ah] at ab
    unfold vg at ab
    dsimp only at ab
    have aw:Hid _:=ab
    have H:Hid _:=jB hD (jB I (jB ro (jB an (jB E hs))))
    clear h hD I an s s2 hs ax ap ro a3 ab E hc hu ah am a2 ao
    go_enter (fq Tryz.func76 rfl),Tryz.ntmps76
    go_upto_region 1 with fail
    rw [<-hW]
    clear hW
    go_upto_region 8 with (first|(go_at_call 123;refine aK aw.out ?_;rintro x1 w1 ⟨rfl,a5,aa,z,J⟩;have R:=(J.block w.heap.size a1 (by rintro (e|e);omega;exact a9 e)).trans H.out.2.2.1;have av:w.heap.size < w1.heap.size:=(jE R);have H1:Hid _:=jB aa (jB z (jB J R));clear aa z J R)|fail)
    generalize hV:World.alloc _ _=V
    have aj:Below w1.heap.size w1 V:=by rw [<-hV];exact (aB _ _).alloc jC _
    obtain ⟨hD,I,ro,hp,E,hs⟩:=H.out
    obtain ⟨aa,z,J,R⟩:=H1.out
    have ac:=(aj.block _ av).trans R
    have Y:=aa.below aj
    have ak:=(I.trans J (λ_ _ e=>e)).trans (.below aj jC (λk=>k=kb\/vw.ownBlock=some k)) (λ_ _ e=>e)
    have a8:w.heap.size < V.heap.size:=(jE ac)
    have bn:V.cell? ⟨kb,12,none⟩=some (.int .i64 ep):=jF Y.obj rfl
    have c3:V.cell? ⟨kb,3,none⟩=some (.int .i64 c.window):=jF Y.obj rfl
    obtain ⟨r0,r1,r2,r3,r4,r5,r6,r7,rf⟩:=lg ac
    have HV:Hid _:=jB Y (jB ak (jB ac (jB hp z)))
    clear hV aj hD I ro hp E hs aa z J R ac Y ak
    go_quiet (fail)
    go_wp2_with fail
    obtain ⟨Y,ak,ac,hp,z⟩:=HV.out
    refine bodyPost_ret (v:=.tuple #[.agg #[.int .i64 0,.int .i64 0,.int .i64 0,.int .i64 0,.int .i64 0,.slice none 0 0,.slice none 0 0,.int .i64 0],.bool false]) (by simp [results,Tryz.results76,go_sem,r0,r1,r2,r3,r4,r5,r6,r7]) rfl ?_
    exact wZ hp (Y.below (below_drewN (aB _ _) _)) z (ak.trans (.below (below_drewN (aB V.heap.size V) _) jC _) (λ_ _ e=>e)) ac _ _ _ _ _ _ _ _
   ·have ar:=hD.txs b hb
    obtain ⟨ta,tc,ay⟩:=Row.slice ar
    obtain ⟨tn,bh⟩:∃n,b.1.txs.length=n:=⟨_,rfl⟩
    rw [bh] at ay
    have bv:=(s.batch b hb).1
    have an:=GU hu hc ah ao
    rw [ah] at ab
    unfold vg MH at ab
    dsimp only at ab
    rw [ay] at ab
    have aw:Hid _:=ab
    have H:Hid _:=jB hD (jB I (jB ro (jB an (jB E (jB ar ay)))))
    clear h hD I an s s2 ax ap ro a3 ab E hc hu ah am a2 ar ay bh hb ao
    go_enter (fq Tryz.func76 rfl),Tryz.ntmps76
    go_upto_region 1 with fail
    rw [<-hW]
    clear hW
    go_wp2_with (first|(go_at_call 123;refine aK aw.out ?_;rintro x1 w1 ⟨rfl,a5,aa,z,J⟩;have R:=(J.block w.heap.size a1 (by rintro (e|e);omega;exact a9 e)).trans H.out.2.2.1;have av:w.heap.size < w1.heap.size:=(jE R);have H1:Hid _:=jB aa (jB z (jB J R));clear aa z J R)|(go_at_call 122;refine aK (bl.out _ a5 (H1.out.1.below ((aB _ _).alloc jC _)) b.1.epoch bv ta tn tc) ?_;rintro x2 w2 ⟨vd,rfl,af,ai,ag⟩;obtain ⟨va,vn,vc,rfl⟩:=qY af;have ae:=(ag.block w.heap.size (by simp;omega) (by omega)).trans ((aT w1 _ _ av).trans H1.out.2.2.2);obtain ⟨r0,r1,r2,r3,r4,r5,r6,r7,rf⟩:=lg ae;have H2:Hid _:=jB af (jB ai (jB ag ae));clear af ai ag ae;unfold XU)|fail)
    obtain ⟨hD,I,ro,hp,E,ar,ay⟩:=H.out
    obtain ⟨aa,z,J,R⟩:=H1.out
    obtain ⟨af,ai,ag,ae⟩:=H2.out
    refine bodyPost_ret (v:=.tuple #[.agg #[.int .i64 cnt,.int .i64 (lG c us cnt),.int .i64 b.1.epoch,.int .i64 (DU us b.1.epoch),.int .i64 (jZ cnt ep sq b.1.epoch:Nat),.slice ta tn tc,.slice va vn vc,.int .i64 nn],.bool true]) (by simp [results,Tryz.results76,go_sem,r0,r1,r2,r3,r4,r5,r6,r7]) rfl ?_
    have bm:kM w1 b.2 b.1.txs:=Row.jR ar J (λg hg e=>by
     rcases e with e|e
     ·exact jH ar hD.obj (by decide) (by rw [hg,e])
     ·obtain ⟨b5,bs⟩:=hD.wait.obj e
      exact jH ar bs (by decide) hg)
    have bd:=(aB w1.heap.size w1).alloc jC (.cells #[.int .i64 b.1.epoch,.int .i64 b.1.id,.int .i64 b.1.time,.slice ta tn tc,.int .i64 b.1.place] 150)
    exact uX hp bv af (by simp;omega) (λb' bg=>by cases bg;exact Row.below bm bd) ⟨_,(aa.below bd).obj⟩ ai z ((I.trans J (λ_ _ e=>e)).trans (.below bd jC _) (λ_ _ e=>e)) ag ae _ _ _ _ _ _ _ _ (by rw [E];rw [show X3 (some b)=b.2 from rfl,ay];rfl)
end
open Go.RowKit
section
variable {M:Nat->Prop}
theorem oI {a b:World} (h:jL M a b) (l:Nat) (o:Obj) (z:l < a.heap.size):jL M (a.putObj l o) (b.putObj l o):=
 ⟨h.os,h.tape,h.output,by simpa using h.size,λk hk E=>by
  by_cases e:l=k
  ·subst e
   rw [World.putObj_heap_same z,World.putObj_heap_same (aH z h.size)]
  ·rw [World.putObj_heap_other (Ne.symm e),World.putObj_heap_other (Ne.symm e)]
   exact h.block k (by simpa using hk) E⟩
def Tz {α:Type} (P:Program) (g:Nat) (lb:Array Value) (encs:α->Array Value) (M:Nat->Prop) (St En:List α->World->Prop) (Y:List α->α->Nat->World->Prop) (S Sp:List α->Prop):Prop:=
 ∀(l:Nat) (J Jx:List α->World->Prop) (W:World),(∀k,M k->k < l)->l < W.heap.size->St [] W->
  (∀z x E R,J z E->jL M E R->Y z x E.heap.size R->YieldAt Fence.wide 1 P l (encs x) R λe I=>
   (e=.returned (.bool true)/\J (z++[x]) I/\R.heap.size<=I.heap.size/\St (z++[x]) I/\∀k,E.heap.size<=k->k < R.heap.size->I.heap[k]? =R.heap[k]?)\/(e=.returned (.bool false)/\Jx (z++[x]) I))->
  J [] W->
  CallsIn Fence.wide 2 P g (#[.func (.yield l) #[] #[]]++lb) W λe I=>(∃v,e=.returned v)/\((∃xs E,S xs/\J xs E/\jL M E I/\En xs I)\/(∃z E,Sp z/\Jx z E/\jL M E I))
def UH {α:Type} (B lo J:Nat) (E I:List α->World->Prop) (z:Code->List α->World->Prop) (xs:List α) (W:World):Exit->Act->World->Prop
 |.normal,_,W'=>KeepsFrom B W W'/\E xs W'/\(∀k,lo<=k->k < J->W'.heap[k]? =W.heap[k]?)/\I xs W'
 |.ret,_,W'=>KeepsFrom B W W'/\z .ret xs W'
 |.exit id,_,W'=>KeepsFrom B W W'/\z (.exit id) xs W'
 |.goto t,_,W'=>KeepsFrom B W W'/\z (.goto t) xs W'
 |.panic _,_,_=>False
 |.outgrown,_,_=>False
theorem Gp {α:Type} {P:Program} {g:Operand} {ps:Array Tmp} {assign body:Code} {Q:Exit->Act->World->Prop} {a:Act} {w:World}
  {gf:Nat} {lb:Array Value} (hg:a.eval g=.func (.func gf) #[] lb) (eg:∀args w,(callFunc gf args).run P w=.ok (.enter gf args) w)
  {encs:α->Array Value} {St En:List α->World->Prop} {Y:List α->α->Nat->World->Prop} {S Sp:List α->Prop} (ao:Tz P gf lb encs M St En Y S Sp)
  (hM:∀k,M k->k < w.heap.size) (ak:OwnFrom w.heap.size St) (ap:OwnFrom w.heap.size En) (hY:∀lo,OwnFrom w.heap.size (λ(q:List α×α) W=>Y q.1 q.2 lo W)) (au:∀x,(encs x).size=ps.size)
  (I:List α->World->Prop) (Ix:Code->List α->World->Prop) (hI:OwnFrom w.heap.size I) (ac:∀c,OwnFrom w.heap.size (Ix c)) (h0:I [] w) (ar:St [] w) (af:α->Nat->Act) (ox:α->Obj)
  (ab:∀(l:Nat) (x:α) (W:World) (K:Act->World->Prop),K (af x W.heap.size) (W.alloc (ox x))->
   assign.wpIn (Fence.wide.inRound l) 1 P (Exit.then K (λ_ _ _=>False)) { tmps:=(ps.zip (encs x)).foldl (λt (p,v)=>t.setIfInBounds p v) a.tmps,defers:=[] } W)
  (ag:∀(l:Nat) (E:List α) (x:α) (J W1:World),w.heap.size<=l->l < J.heap.size->(∃r,W1.heap[l]? =some (.loop r))->I E J->jL M J W1->Y E x J.heap.size W1->body.wpIn (Fence.wide.inRound l) 1 P (UH w.heap.size J.heap.size W1.heap.size St I Ix (E++[x]) (W1.alloc (ox x))) (af x W1.heap.size) (W1.alloc (ox x)))
  (ah:∀(D:Nat) (xs:List α) (J W:World),w.heap.size<=D->D < J.heap.size->S xs->I xs J->jL M J W->En xs W->W.heap[D]? =some (.deferred (some []))->Q .normal { a with defers:={ target:=.collected D,args:=#[] }::a.defers } W)
  (aj:∀(D:Nat) (c:Code) (E:List α) (J W:World),w.heap.size<=D->D < J.heap.size->Sp E->Ix c E J->jL M J W->W.heap[D]? =some (.deferred (some []))->c.wpIn Fence.wide 3 P Q { a with defers:={ target:=.collected D,args:=#[] }::a.defers } W):
  (Code.rangeFunc g ps assign body).wpIn Fence.wide 3 P Q a w:=by
 refine wpIn_rangeFunc λfn ax=>?_
 obtain ⟨rc,R⟩:∃rc:LoopState->Option Code->Loop,rc=λst pe=>{ state:=st,pending:=pe,fn,tmps:=a.tmps,params:=ps,assign,body,defers:=w.heap.size }:=⟨_,rfl⟩
 obtain ⟨V,hV⟩:∃V,(w.alloc (.deferred (some []))).alloc (.loop (rc .ready none))=V:=⟨_,rfl⟩
 have vl:V.heap[w.heap.size+1]? =some (.loop (rc .ready none)):=by
  have:=World.alloc_heap_new (w.alloc (.deferred (some []))) (.loop (rc .ready none))
  rw [eH,hV] at this
  exact this
 have vd:V.heap[w.heap.size]? =some (.deferred (some [])):=by rw [<-hV];exact (aT _ _ _ (by simp)).trans (World.alloc_heap_new w _)
 have vI:I [] V:=by rw [<-hV];exact hI.alloc _ (hI.alloc _ h0)
 have vS:St [] V:=by rw [<-hV];exact ak.alloc _ (ak.alloc _ ar)
 have nl:¬M (w.heap.size+1):=λh=>by have:=hM _ h;omega
 have nd:¬M w.heap.size:=λh=>by have:=hM _ h;omega
 refine ⟨w.heap.size+1,[{ target:=.collected w.heap.size,args:=#[] }],V,{ target:=.fn (.func gf) lb,args:=#[.func (.yield (w.heap.size+1)) #[] #[]] },V,gf,
  #[.func (.yield (w.heap.size+1)) #[] #[]]++lb,V,?_,?_,λ_ _=>trivial,by simp [invoke,go_sem,eg],λh=>by simp [Fence.wide] at h,?_⟩
 ·rw [<-hV,R];exact run_enterLoop_outer _ _ _ _ _
 ·simp only [resolve,hg]
  simp [go_sem]
 refine (ao (w.heap.size+1)
  (λE W=>I E W/\W.heap[w.heap.size+1]? =some (.loop (rc .ready none))/\W.heap[w.heap.size]? =some (.deferred (some [])))
  (λE W=>∃c,Ix c E W/\W.heap[w.heap.size+1]? =some (.loop (rc .done (some c)))/\W.heap[w.heap.size]? =some (.deferred (some []))) V (λk hk=>by have:=hM k hk;omega) (jE vl) vS ?_ ⟨vI,vl,vd⟩).mono ?_
 ·rintro E x J W1 ⟨i0,l0,d0⟩ hb hy
  have aa:w.heap.size+1 < J.heap.size:=(jE l0)
  have l1:=(hb.block _ aa nl).trans l0
  have d1:=(hb.block _ (by omega:w.heap.size < J.heap.size) nd).trans d0
  have ae:w.heap.size+1 < W1.heap.size:=(jE l1)
  have ry:=run_yield (P:=P) (args:=encs x) l1 (by rw [R];exact au x)
  rw [R] at ry
  refine ⟨fn,_,assign,body,ry,roundIn_of_wpIn ax (ab _ x W1 _ ⟨_,run_beginRound ((aT _ _ _ ae).trans l1) (by rw [R]),?_⟩)⟩
  clear ry
  rw [tu _ _ _ _ ae]
  obtain ⟨o,ho⟩:∃o:Obj,Obj.loop { rc .ready none with state:=.busy }=o:=⟨_,rfl⟩
  rw [ho]
  have b1:=oI hb (w.heap.size+1) o aa
  have y1:Y E x (J.putObj (w.heap.size+1) o).heap.size (W1.putObj (w.heap.size+1) o):=by
   rw [World.putObj_size]
   exact (hY J.heap.size).putObj (s:=(E,x)) o hy (by omega) l1 rfl
  have ai:=ag (w.heap.size+1) E x _ _ (by omega) (by simp;omega) ⟨_,(World.putObj_heap_same ae).trans (congrArg some ho.symm)⟩ (hI.putObj o i0 (by omega) l0 rfl) b1 y1
  simp only [World.putObj_size] at ai
  refine wpIn_mono ai ?_
  clear ai
  have aw:((W1.putObj (w.heap.size+1) o).alloc (ox x)).heap[w.heap.size+1]? =some o:=(aT _ _ _ (by simp;omega)).trans (World.putObj_heap_same ae)
  have av:((W1.putObj (w.heap.size+1) o).alloc (ox x)).heap[w.heap.size]? =some (.deferred (some [])):=(aT _ _ _ (by simp;omega)).trans ((World.putObj_heap_other (by omega)).trans d1)
  have fin:∀(z:Option Code) (W3:World),KeepsFrom w.heap.size ((W1.putObj (w.heap.size+1) o).alloc (ox x)) W3->
    (Instr.endRound (w.heap.size+1) z).run P W3=.ok (.bool z.isNone) (W3.putObj (w.heap.size+1) (.loop (rc (if z.isNone then .ready else .done) z)))/\
    W3.heap[w.heap.size+1]? =some o/\
    (W3.putObj (w.heap.size+1) (.loop (rc (if z.isNone then .ready else .done) z))).heap[w.heap.size+1]? =some (.loop (rc (if z.isNone then .ready else .done) z))/\
    (W3.putObj (w.heap.size+1) (.loop (rc (if z.isNone then .ready else .done) z))).heap[w.heap.size]? =some (.deferred (some [])):=λz W3 an=>by
   have q1:=an.same _ _ (by omega) aw (by rw [<-ho];rfl)
   have q2:=an.same _ _ jC av rfl
   have am:=q1
   rw [<-ho] at am
   have:=run_endRound (P:=P) z am
   refine ⟨?_,q1,World.putObj_heap_same (jE q1),(World.putObj_heap_other (by omega)).trans q2⟩
   rw [R] at this⊢
   exact this
  rintro e a3 W3 hp
  cases e with
  |normal=>
   obtain ⟨k3,kk,kx,i3⟩:=hp
   obtain ⟨hr,l3,l4,d4⟩:=fin none W3 k3
   refine ⟨_,_,hr,.inl ⟨rfl,⟨hI.putObj _ i3 (by omega) l3 (by rw [<-ho];rfl),l4,d4⟩,by have:=k3.size;simp at this⊢;omega,ak.putObj _ kk (by omega) l3 (by rw [<-ho];rfl),λk h1 h2=>by rw [World.putObj_heap_other (by omega),kx k h1 h2,aT _ _ _ (by simp;omega),World.putObj_heap_other (by omega)]⟩⟩
  |ret=>
   obtain ⟨k3,i3⟩:=hp
   obtain ⟨hr,l3,l4,d4⟩:=fin (some .ret) W3 k3
   exact ⟨_,_,hr,.inr ⟨rfl,.ret,(ac _).putObj _ i3 (by omega) l3 (by rw [<-ho];rfl),l4,d4⟩⟩
  |exit id=>
   obtain ⟨k3,i3⟩:=hp
   obtain ⟨hr,l3,l4,d4⟩:=fin (some (.exit id)) W3 k3
   exact ⟨_,_,hr,.inr ⟨rfl,.exit id,(ac _).putObj _ i3 (by omega) l3 (by rw [<-ho];rfl),l4,d4⟩⟩
  |goto t=>
   obtain ⟨k3,i3⟩:=hp
   obtain ⟨hr,l3,l4,d4⟩:=fin (some (.goto t)) W3 k3
   exact ⟨_,_,hr,.inr ⟨rfl,.goto t,(ac _).putObj _ i3 (by omega) l3 (by rw [<-ho];rfl),l4,d4⟩⟩
  |panic ch=>exact hp.elim
  |outgrown=>exact hp.elim
 ·rintro e W2 ⟨⟨v,rfl⟩,(⟨xs,J,hS,⟨i0,l0,d0⟩,hb,aq⟩|⟨E,J,hS,⟨c,i0,l0,d0⟩,hb⟩)⟩
  ·have aa:w.heap.size+1 < J.heap.size:=(jE l0)
   have l2:=(hb.block _ aa nl).trans l0
   have d2:=(hb.block _ (by omega:w.heap.size < J.heap.size) nd).trans d0
   refine ⟨none,_,by have:=run_endLoop (P:=P) l2 (by rw [R];simp);rw [R] at this;exact this,?_⟩
   exact ah _ xs _ _ jC (by simp;omega) hS (hI.putObj _ i0 (by omega) l0 rfl) (oI hb (w.heap.size+1) _ aa) (ap.putObj _ aq (by omega) l2 rfl) ((World.putObj_heap_other (by omega)).trans d2)
  ·have aa:w.heap.size+1 < J.heap.size:=(jE l0)
   have l2:=(hb.block _ aa nl).trans l0
   have d2:=(hb.block _ (by omega:w.heap.size < J.heap.size) nd).trans d0
   refine ⟨some c,_,by have:=run_endLoop (P:=P) l2 (by rw [R];simp);rw [R] at this;exact this,?_⟩
   exact aj _ c E _ _ jC (by simp;omega) hS ((ac c).putObj _ i0 (by omega) l0 rfl) (oI hb (w.heap.size+1) _ aa) ((World.putObj_heap_other (by omega)).trans d2)
end
structure qW where
 ws:List PW
 cnt:Nat
 ep:Nat
 sq:Nat
structure LV where
 i0:Int
 i1:Int
 i2:Int
 i3:Int
 i4:Int
 ta:Option Addr
 tn:Nat
 tc:Nat
 da:Option Addr
 dn:Nat
 dc:Nat
 i7:Int
def LV.cells (x:LV):Array Value:=#[.int .i64 x.i0,.int .i64 x.i1,.int .i64 x.i2,.int .i64 x.i3,.int .i64 x.i4,.slice x.ta x.tn x.tc,.slice x.da x.dn x.dc,.int .i64 x.i7]
structure DX where
 lv:LV
 e:Nat
 ob:Option PW
 s:qW
 s':qW
def DX.v (x:DX):Value:=.agg x.lv.cells
def DX.encs (x:DX):Array Value:=#[x.v]
def jK (s0:qW) (z:List DX):qW:=z.foldl (λ_ x=>x.s') s0
theorem uP (s0:qW) (z:List DX) (x:DX):jK s0 (z++[x])=x.s':=by simp [jK]
inductive Steps (c:Cf) (us:List PB) (s0:qW):List DX->Prop
 |nil:Steps c us s0 []
 |snoc {pre:List DX} {x:DX}:Steps c us s0 pre->x.s=jK s0 pre->jJ c us x.s.ws x.s.cnt x.s.ep=(some (x.e,x.ob),x.s'.ws)->x.s'=⟨x.s'.ws,x.s.cnt+1,x.e,jZ x.s.cnt x.s.ep x.s.sq x.e⟩->Steps c us s0 (pre++[x])
def DA (W:World) (kb:Nat) (c:Cf) (vu:Value) (us:List PB) (E:Nat->List (List UInt8)) (nb:Nat) (vo vw:Value) (d:qW):Prop:=∃z,qw W kb c vu us E nb vo z d.ws d.cnt d.ep d.sq/\∀g,z.ownBlock=some g->vw.ownBlock=some g
def CX (kb E:Nat) (c:Cf) (vu:Value) (us:List PB) (I:Nat->List (List UInt8)) (nb:Nat) (vo vw:Value) (s0:qW) (z:List DX) (W:World):Prop:=DA W kb c vu us I nb vo vw (jK s0 z)/\W.cell? ⟨E,0,none⟩=some (.pointer (some ⟨kb,0,none⟩))
def Vr (kb:Nat) (c:Cf) (vu:Value) (us:List PB) (E:Nat->List (List UInt8)) (nb:Nat) (vo vw:Value) (s0:qW) (z:List DX) (W:World):Prop:=DA W kb c vu us E nb vo vw ⟨(jJ c us (jK s0 z).ws (jK s0 z).cnt (jK s0 z).ep).2,(jK s0 z).cnt,(jK s0 z).ep,(jK s0 z).sq⟩
def DY (kb I:Nat) (c:Cf) (vu:Value) (us:List PB) (E:Nat->List (List UInt8)) (nb:Nat) (vo vw:Value) (s0:qW) (z:List DX) (x:DX) (lo:Nat) (W:World):Prop:=
 Steps c us s0 (z++[x])/\(∃vd,x.v=XU x.s.cnt (lG c us x.s.cnt) x.e (DU us x.e) x.s'.sq (X3 x.ob) vd (us.length - 1)/\Made W lo vd (if x.s'.sq=0 then E x.e else []))/\(∀b,x.ob=some b->kM W b.2 b.1.txs)/\x.e < us.length/\CX kb I c vu us E nb vo vw s0 (z++[x]) W
def DS (c:Cf) (us:List PB) (s0:qW) (z:List DX):Prop:=Steps c us s0 z/\(jJ c us (jK s0 z).ws (jK s0 z).cnt (jK s0 z).ep).1=none
def QH (kb I:Nat) (c:Cf) (vu:Value) (us:List PB) (E:Nat->List (List UInt8)) (nb:Nat) (vo vw:Value) (s0:qW) (z:List DX) (lo:Nat) (v:Value) (ok:Bool) (W:World):Prop:=
 (ok=true/\∃x,x.v=v/\DY kb I c vu us E nb vo vw s0 z x lo W)\/(ok=false/\DS c us s0 z/\Vr kb c vu us E nb vo vw s0 z W)
def Good (c:Cf) (us:List PB) (s0:qW):Prop:=∀z,Steps c us s0 z->(0 < us.length->xP c us (jK s0 z).ws (jK s0 z).cnt (jK s0 z).ep)/\(jK s0 z).sq < 4294967296/\((jK s0 z).cnt=0->(jK s0 z).ep=0)
theorem Px {ob:Option PW} {w:World} (h:∀b,ob=some b->kM w b.2 b.1.txs):∃a n cap,X3 ob=.slice a n cap:=by
 cases ob with
 |none=>exact ⟨none,0,0,rfl⟩
 |some b=>
  obtain ⟨a,cap,e⟩:=Row.slice (h b rfl)
  exact ⟨a,_,cap,e⟩
theorem Ko {kb J:Nat} {c:Cf} {vu:Value} {us:List PB} {dl:Nat->List (List UInt8)} {nb:Nat} {vo vw:Value} {s0:qW} {z:List DX} {W:World} (hp:Steps c us s0 z) (hG:Good c us s0) (hdl:∀j,(dl j).length<=4294967296) (ai:¬(J=kb\/vw.ownBlock=some J)) (ag:CX kb J c vu us dl nb vo vw s0 z W):
  Calls PQ 76 #[.pointer (some ⟨kb,0,none⟩)] W λx w'=>∃(i0 i1 i2 i3 i4:Int) (ta:Option Addr) (tn tc:Nat) (da:Option Addr) (dn dc:Nat) (i7:Int) (ok:Bool),x=.returned (.tuple #[.agg #[.int .i64 i0,.int .i64 i1,.int .i64 i2,.int .i64 i3,.int .i64 i4,.slice ta tn tc,.slice da dn dc,.int .i64 i7],.bool ok])
   /\jL (λk=>k=kb\/vw.ownBlock=some k) W w'/\QH kb J c vu us dl nb vo vw s0 z W.heap.size (.agg #[.int .i64 i0,.int .i64 i1,.int .i64 i2,.int .i64 i3,.int .i64 i4,.slice ta tn tc,.slice da dn dc,.int .i64 i7]) ok w'/\w'.cell? ⟨J,0,none⟩=some (.pointer (some ⟨kb,0,none⟩)):=by
 obtain ⟨⟨af,hD,I⟩,R⟩:=ag
 obtain ⟨g1,g2,g3⟩:=hG z hp
 have ah:J < W.heap.size:=fA W ⟨J,0,none⟩ R
 refine aK (Dj kb c vu us dl nb vo af _ _ _ _ W hD g1 g2 hdl) ?_
 rintro x w' ⟨h1,h2⟩
 have hc:jL (λk=>k=kb\/vw.ownBlock=some k) W w':=h2.mono (λk _ e=>e.imp (λe=>e) (λe=>I k e))
 have E:w'.cell? ⟨J,0,none⟩=some (.pointer (some ⟨kb,0,none⟩)):=(World.cell?_of_block (hc.block J ah ai)).trans R
 cases hr:jJ c us (jK s0 z).ws (jK s0 z).cnt (jK s0 z).ep with
 |mk o ws'=>
  rw [hr] at h1
  cases o with
  |none=>
   obtain ⟨rfl,Y,aa,ab⟩:=h1
   exact ⟨0,0,0,0,0,none,0,0,none,0,0,0,false,rfl,hc,.inr ⟨rfl,⟨hp,by rw [hr]⟩,Y,by rw [hr];exact aa,λg hg=>I g (ab g hg)⟩,E⟩
  |some o=>
   obtain ⟨e,ob⟩:=o
   obtain ⟨he,vd,rfl,hm,ht,Y,aa,ab⟩:=h1
   obtain ⟨ta,tn,tc,ac⟩:=Px ht
   obtain ⟨da,dn,dc,ae⟩:=qY hm
   refine ⟨(jK s0 z).cnt,lG c us (jK s0 z).cnt,e,DU us e,jZ (jK s0 z).cnt (jK s0 z).ep (jK s0 z).sq e,ta,tn,tc,da,dn,dc,(us.length - 1:Nat),true,?_,hc,.inl ⟨rfl,⟨⟨(jK s0 z).cnt,lG c us (jK s0 z).cnt,e,DU us e,jZ (jK s0 z).cnt (jK s0 z).ep (jK s0 z).sq e,ta,tn,tc,da,dn,dc,(us.length - 1:Nat)⟩,e,ob,jK s0 z,⟨ws',(jK s0 z).cnt+1,e,jZ (jK s0 z).cnt (jK s0 z).ep (jK s0 z).sq e⟩⟩,rfl,.snoc hp rfl hr rfl,⟨vd,?_,hm⟩,ht,he,?_,E⟩,E⟩
   ·dsimp only
    rw [ac,ae]
    rfl
   ·dsimp only
    rw [ac,ae]
    rfl
   ·rw [uP]
    exact ⟨Y,aa,λg hg=>I g (ab g hg)⟩
end Hm
end Go.Proofs.YtpibpdpedjinhaaGreatDoor
