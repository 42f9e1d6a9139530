import Derived.Test.YtpibpdpedjinhaaGreatDoorP26
import Derived.Test.YtpibpdpedjinhaaGreatDoorP27
import Derived.Lib.SliceRun
set_option maxRecDepth 100000
set_option maxHeartbeats 8000000
set_option linter.unusedSimpArgs false
namespace Go.Proofs.YtpibpdpedjinhaaGreatDoor
namespace Hm
open Go.RowKit Go.Joins Go.Shelf
open Fr (below_drewN)
open Dv (Ba)
attribute [local go_sem] Oper.semAt_some
variable {xs:List X}
def textOf(s:List UInt8):List UInt8:=(Sq.spread s.length s 4096 []).1
def qK(xs:List X)(z:List BX):Prop:=xs.map (λx=>Ro x.i)=z.map (λx=>some x.b)
theorem qK.snoc{xs:List X}{z:List BX}(h:qK xs z){x:X}{y:BX}(E:Ro x.i=some y.b):qK (xs++[x]) (z++[y]):=by
 unfold qK at h⊢;rw[aY,aY,h];simp[E]
theorem qK.YV{z:List BX}(h:qK xs z){T:List UInt8}{p:Nat}(E:Im.mJ (Im.read Im.body 8) T (xs.map X.i) p):yF T (z.map BX.b) p:=Gw E _ (by
 unfold qK at h;rw[jq,jq];exact h)
def EJ(J:List BX->(Nat->Prop)->World->Prop)(Y:Option Obj)(E R l n0 n1:Nat)(S:ByteArray)(xs:List X)(Wc:World):Prop:=∃z F I,EI J Y E R l n0 n1 S Wc z F I/\qK xs z
def EX(J Y:List BX->(Nat->Prop)->World->Prop)(R I:Nat)(c:Code)(xs:List X)(Wc:World):Prop:=c=.ret/\((∃E F z xs' x,J E F z/\jJ (λk=>F k/\NC z k) z Wc/\(∀k,R<=k->I<=k+2->k<I->(F k/\NC z k)\/z.heap.size<=k)/\xs=xs'++[x]/\qK xs' E/\Ro x.i=none)\/(∃E F z,Y E F z/\jJ (λk=>F k/\NC z k) z Wc/\∀k,R<=k->I<=k+2->k<I->(F k/\NC z k)\/z.heap.size<=k))
theorem EX.put{J Jx:List BX->(Nat->Prop)->World->Prop}{n0 R:Nat}{c:Code}{Wc:World}(h:EX J Jx n0 R c xs Wc){j:Nat}(o:Obj)(h1:n0<=j)(I:R<=j+2)(h2:j<R):EX J Jx n0 R c xs (Wc.putObj j o):=by
 obtain⟨hc,⟨z,F,Y,xs',x,q1,q2,E,q4⟩|⟨z,F,Y,q1,q2,E⟩⟩:=h
 ·exact⟨hc,.inl ⟨z,F,Y,xs',x,q1,nG q2 (E j h1 I h2) o,E,q4⟩⟩
 ·exact⟨hc,.inr ⟨z,F,Y,q1,nG q2 (E j h1 I h2) o,E⟩⟩
theorem Bo{B:Nat}{G W:World}(h:Below G.heap.size G W)(z:B+1<G.heap.size):pO B G W:=⟨h.size,h.block B (by omega),h.block (B+1) z⟩
theorem zY(ho:Option Obj)(cB:Nat)(S:ByteArray)(hs:S.size<=4096):
  VD PQ 118 #[.pointer (some ⟨cB,0,none⟩)] BX.encs (Nl ho cB S) (BY (textOf S.data.toList)) (BS (textOf S.data.toList)) (λ_=>True):=by
 intro l J Jx W b9 av bb bo;obtain⟨TB,a0⟩:∃TB:ByteArray,(⟨(Sq.spread S.size S.data.toList 4096 []).1.toArray⟩:ByteArray)=TB:=⟨_,rfl⟩
 obtain⟨ax,a3⟩:∃b:Bool,(Sq.spread S.size S.data.toList 4096 []).2=b:=⟨_,rfl⟩
 have hT:textOf S.data.toList=TB.data.toList:=by
  rw[<-a0];unfold textOf;rw[<-aV]
 have cd:TB.size<=4096:=by
  have:=Dv.rW S.size S.data.toList 4096 [] (by simp only[bM];omega);rw[<-a0]
  show(Sq.spread S.size S.data.toList 4096 []).1.toArray.size<=4096
  rw[dL];omega
 rw[hT]at bb⊢;have ai:=λ(w:World)=>KG S 4096 w (by omega) (by omega) (by omega);rw[a0,a3]at ai;have bk:Hid _:=ai;have HY:Hid _:=bb;have bw:Hid _:=bo;have bm:=av.2.2.lt;have b2:∀o,(W.alloc o).cell? ⟨cB,0,none⟩=some (.string S):=λo=>(((aB W.heap.size W).alloc jA o).cell (p:=⟨cB,0,none⟩) bm).trans av.2.2.cell;have ay:=av.2.1.pos;have HS:Hid _:=av;clear bb bo av ai a0 a3 hT;refine callsIn_wide.2 (callsIn_wide.1 (callsIn_of_wp_marks (n:=3) (fq Tryz.func118 rfl) rfl trivial ?_ rfl));simp only[Tryz.ntmps118,dL,aN,bM,Nat.reduceAdd,Nat.reduceSub,cO,bZ,dN,cZ,dM,dH];gi_wp2;refine⟨trivial,(callsIn_wide.2 (bk.out _)).mono ?_⟩;rintro e w2 ⟨rfl,aq⟩;gi_wp2;refine⟨trivial,(callsIn_wide.2 (GL TB w2)).mono ?_⟩;rintro e w3 ⟨rfl,ar⟩;have bq:Below w2.heap.size w2 w3:=by rw[ar];exact((aB _ w2).alloc jA _).alloc (by simp) _
 have ab:w3.heap.size=w2.heap.size+2:=by rw[ar];simp
 have bg:∀(a b:Obj)(k:Nat),((w2.alloc a).alloc b).heap[k]? =if k=w2.heap.size+1 then some b else if k=w2.heap.size then some a else w2.heap[k]?:=by
  intro a b k;simp only[World.alloc,gY,Array.size_push]
 have c0:w3.cell? ⟨w2.heap.size,0,none⟩=some (.string TB):=by
  have:w3.heap[w2.heap.size]? =some (.cells #[.string TB] 9 (0,0)):=by rw[ar,bg];simp
  rw[aA this];rfl
 have c1:w3.cell? ⟨w2.heap.size+1,0,none⟩=some (.int .i64 1):=by
  have:w3.heap[w2.heap.size+1]? =some (.cells #[.int .i64 1] 3 (0,0)):=by rw[ar,bg];simp
  rw[aA this];rfl
 obtain⟨V,hV,bl,bv⟩:=jE W #[.func (.yield l) #[] #[]] 216;have cb:V.heap.size=W.heap.size+1:=by rw[hV];simp
 rw[<-hV]at aq;have a1:Below V.heap.size V w3:=aq.trans (bq.mono aq.size);have cc:=aq.size
 have a6:∀o1 o2,EI J ho cB W.heap.size l W.heap.size (w3.heap.size+2) S ((w3.alloc o1).alloc o2) [] (λ_=>False) W:=λo1 o2=>by
  have z:Below w3.heap.size w3 ((w3.alloc o1).alloc o2):=((aB _ w3).alloc jA _).alloc (by simp) _;have E:Below V.heap.size V ((w3.alloc o1).alloc o2):=a1.trans (z.mono (by omega));have R:Below W.heap.size W ((w3.alloc o1).alloc o2):=bl.trans (E.mono (by omega));exact⟨bw.out,.below R jA _,λk h1 _=>.inr h1,λk h1 _=>.inl (by omega),⟨(R.block _ ay).trans HS.out.1,HS.out.2.1.below R ay,(R.block _ bm).trans HS.out.2.2⟩,(E.block _ (by omega)).trans bv,by simp⟩
 have bp:kQ w3:=HS.out.2.1.below (bl.trans (a1.mono (by omega))) ay;have a9:=J8 8 (xY 8) TB 1 w2.heap.size (w2.heap.size+1) w3 (by omega) rfl bp (by omega) c0 (by simpa using c1) (by omega) (by omega);have H0:Hid _:=jw a9 (jw a6 a1);clear ar bg hV bv a1 aq bq bl c0 c1 bp a9 a6 b2;gi_wp2
 refine wX (gf:=205) (lb:=#[.pointer (some ⟨w2.heap.size,0,none⟩),.pointer (some ⟨w2.heap.size+1,0,none⟩)]) rfl (enters_of (fq Tryz.func205 rfl) (by kernel_rfl) rfl) H0.out.1 (aB _ _) (by rintro k (rfl|rfl|rfl)<;>omega) (λaa x lo W W' h hs hx=>XE.turn 8 TB aa x lo W W' h hs hx) (λ_=>rfl)
  (EJ J ho cB W.heap.size l W.heap.size (w3.heap.size+2) S) (EX J Jx W.heap.size (w3.heap.size+2))
  (by
   rintro xs A r o ⟨aa,F,W0,h,hp⟩ hl;have bj:=(jC hl)
   exact⟨aa,F,W0,h.put (.loop o) (by omega) (by omega) (by omega) ay bm (by omega),hp⟩)
  (by
   rintro c xs A r o h hl;have bj:=(jC hl)
   exact h.put (.loop o) (by omega) (by omega) (by omega))
  (λo1 o2=>⟨[],_,_,H0.out.2.1 o1 o2,rfl⟩)
  (λx B=>{ tmps:=#[.func (.yield l) #[] #[],.pointer (some ⟨cB,0,none⟩),.pointer (some ⟨W.heap.size,0,none⟩),.string TB,.bool ax,undef,.pointer (some ⟨B,0,none⟩),undef,undef,.tuple #[.string TB,.bool ax],.string S,.tuple #[.string TB,.bool ax],.string TB,.bool ax,.string TB,.func (.func 205) #[] #[.pointer (some ⟨w2.heap.size,0,none⟩),.pointer (some ⟨w2.heap.size+1,0,none⟩)],.int .i64 x.e,.agg #[.bool x.i.list,.string ⟨x.i.bytes.toArray⟩,.slice x.a x.i.kids.length x.cap],undef,undef,undef,undef,undef,undef,undef,undef,undef,undef,undef,undef,undef],defers:=[] })
  (λx=>.cells #[.bool x.i.list,.string ⟨x.i.bytes.toArray⟩,.slice x.a x.i.kids.length x.cap] 103) ?assign ?body ?done ?stop
 case assign=>
  intro l x W K hK;simp only[X.encs];gi_wp2;exact hK
 case body=>
  rintro lp xs x bn W1 ce b7 ba a5 ⟨aa,F,W0,hI,hP⟩ hb ⟨⟨b8,bx⟩,p,ah⟩;have ae:=hI.below hb
  have a7:∀k,w3.heap.size+2<=k+2->k<w3.heap.size+2->NC W1 k:=λk h1 h2=>by
   rcases(show k=w3.heap.size\/k=w3.heap.size+1 by omega)with rfl|rfl
   ·exact ba
   ·exact a5
  have ca:x.i.bytes.length<=4096:=by
   rw[aY]at ah;obtain⟨p',n,_,_,h3⟩:=Fb ah;have:=LH h3;rw[dP,<-aV]at this;omega
  obtain⟨IB,br⟩:∃IB:ByteArray,(⟨x.i.bytes.toArray⟩:ByteArray)=IB:=⟨_,rfl⟩
  obtain⟨G,hG,gb,-⟩:=jE W1 #[.bool x.i.list,.string ⟨x.i.bytes.toArray⟩,.slice x.a x.i.kids.length x.cap] 103;rw[<-hG];have gs:G.heap.size=W1.heap.size+1:=by rw[hG];simp
  have gk:G.heap[W1.heap.size]? =some (.cells #[.bool x.i.list,.string IB,.slice x.a x.i.kids.length x.cap] 103 (0,0)):=by rw[hG,<-br];exact heap_alloc_new _ _
  obtain⟨k0,k1,k2⟩:=cells3 gk;have I:=ae.below gb;have ag:∀k,w3.heap.size+2<=k+2->k<w3.heap.size+2->NC G k:=λk h1 h2 cs t fz e=>a7 k h1 h2 cs t fz (by rw[<-gb.block k (by have:=ae.big;omega)];exact e);have au:=Kv x.i (.slice x.a x.i.kids.length x.cap) G ⟨_,_,_,rfl⟩ (by omega) I.st.2.1;rw[br]at au⊢;have a8:Hid _:=λ(_:Unit)=>au;have HI:Hid _:=jw I (jw hP (jw ah (jw hb (jw gb (jw gs ag)))));have b3:W.heap.size<G.heap.size:=by have:=I.big;omega
  have b5:w3.heap.size+2<=G.heap.size:=I.big;have bd:=nO I.box;clear hI ae hP ah hb gb gk hG bx I au a7 ag ba a5;generalize az:Ro x.i=q;cases q with
  |none=>
   gi_wp2;refine⟨trivial,(CallsIn.inRound _ (callsIn_wide.2 (a8.out ()))).mono ?_⟩;rintro e w4 ⟨aj,z⟩;rw[az]at aj;have aj:e=_:=aj;subst aj;gi_wp2;refine⟨(λ_ h=>by cases h),?_⟩;gi_wp2;obtain⟨I,hP,ah,hb,gb,gs,ag⟩:=HI.out;have E:=z.trans (((aB _ w4).alloc jA (.cells #[.int .i64 0,.int .i64 0,.int .i64 0,.slice none 0 0,.int .i64 0] 150)).mono z.size);have Y:=I.below E;exact⟨Bo E (by omega),rfl,.inl ⟨aa,F,W0,xs,x,Y.j,Y.jO,λk h0 h1 h2=>Y.free h0 h1 h2,rfl,hP,az⟩⟩
  |some b=>
   gi_wp2;refine⟨trivial,(CallsIn.inRound _ (callsIn_wide.2 (a8.out ()))).mono ?_⟩;rintro e w4 ⟨aj,z⟩;rw[az]at aj;obtain⟨a4,am,rfl,bh,bs⟩:=aj;unfold Nj;have b6:∀o,(w4.alloc o).cell? ⟨W.heap.size,0,none⟩=some (.func (.yield l) #[] #[]):=λo=>((z.trans (((aB _ w4).alloc jA o).mono z.size)).cell (p:=⟨W.heap.size,0,none⟩) b3).trans bd;obtain⟨X5,b0,E,-⟩:=jE w4 #[.int .i64 b.epoch,.int .i64 b.id,.int .i64 b.time,.slice a4 b.txs.length am,.int .i64 b.place] 150;obtain⟨I,hP,ah,hb,gb,gs,ag⟩:=HI.out;have Y:=I.below (z.trans (E.mono z.size));have ao:qK (xs++[x]) (aa++[⟨b,a4,am⟩]):=hP.snoc az;obtain⟨fn,tmps,assign,body,b4,hR⟩:=HY.out aa ⟨b,a4,am⟩ F W0 X5 Y.j Y.jO ⟨⟨Row.below bh.1 E,λg hg=>aW (aW I.jO.size (by omega)) (bh.2 g hg)⟩,bs,p,ao.YV ah⟩;simp only[BX.encs]at b4;have HR:Hid _:=hR;have af:∀k,w3.heap.size+2<=k+2->k<w3.heap.size+2->NC X5 k:=λk h1 h2 cs t fz e=>ag k h1 h2 cs t fz (by rw[<-(z.trans (E.mono z.size)).block k (by omega)];exact e);have H5:Hid _:=jw Y (jw ao (jw z (jw E af)));clear hR Y ao I hP ah hb gb bh bs E af ag;subst b0;gi_wp2;refine RoundIn.mono (G5 HR.out) ?_;rintro e W3 (⟨rfl,a2,ab,ap,ac⟩|⟨rfl,an,ab,ac⟩)
   ·have H3:Hid _:=jw a2 (jw ab (jw ap ac));clear a2 ab ap ac;gi_wp2;obtain⟨a2,ab,ap,ac⟩:=H3.out;obtain⟨Y,ao,z,E,af⟩:=H5.out;have I:=HI.out.1;have R:=z.trans (E.mono z.size);obtain⟨b1,aw⟩:=Y.next a2 ab ap ac jA (by omega) (by omega) af;refine⟨⟨aW R.size ab,(aw _ (by omega) (by omega)).trans (R.block _ (by omega)),(aw _ (by omega) (by omega)).trans (R.block _ (by omega))⟩,?_,_,_,_,b1,ao⟩;rintro k (rfl|rfl|rfl)
    ·exact ap.1.trans I.st.1.symm
    ·exact(aw _ (by omega) (by omega)).trans (R.block _ (by omega))
    ·exact(aw _ (by omega) (by omega)).trans (R.block _ (by omega))
   ·have H3:Hid _:=jw an (jw ab ac);clear an ab ac;gi_wp2;obtain⟨an,ab,ac⟩:=H3.out;obtain⟨Y,ao,z,E,af⟩:=H5.out;have R:=z.trans (E.mono z.size)
    have ha:∀k,W.heap.size<=k->k<w3.heap.size+2->wo F W0 (w4.alloc (.cells #[.int .i64 b.epoch,.int .i64 b.id,.int .i64 b.time,.slice a4 b.txs.length am,.int .i64 b.place] 150)) k:=λk h1 h2=>by
     have:=Y.big;rcases Y.own k h1 h2 with q|q
     ·exact Or.inl q
     ·exact Or.inr ⟨q,by omega⟩
    exact⟨⟨aW R.size ab,(ac _ (ha _ (by omega) (by omega))).trans (R.block _ (by omega)),(ac _ (ha _ (by omega) (by omega))).trans (R.block _ (by omega))⟩,rfl,.inr ⟨_,_,W3,an,jJ.refl _ _,λk h0 h1 h2=>.inl ⟨ha k h0 h2,λcs t fz e=>af k h1 h2 cs t fz (by rw[<-ac k (ha k h0 h2)];exact e)⟩⟩⟩
 case done=>
  rintro D xs bn bu hD bj ⟨p,he,bz,ak⟩ ⟨aa,F,W0,hI,hP⟩ hb hK;have ae:=hI.below hb;have HF:Hid _:=jw ae (jw hP (jw he ak));clear hI ae hP he ak hb;gi_wp2;refine⟨by simp,.inl ⟨_,_,rfl,run_takeDeferred hK,?_⟩⟩;obtain⟨ae,hP,he,ak⟩:=HF.out;refine⟨_,results_none rfl _ _ _,⟨_,rfl⟩,.inl ⟨aa,F,W0,⟨p,hP.YV he,?_⟩,ae.j,nG ae.jO (ae.free (j:=D) (by omega) (by omega) (by omega)) _⟩⟩;rcases ak with h|⟨_,h⟩
  ·exact .inl (by rw[<-aV];exact h)
  ·exact .inr (.inl h)
 case stop=>
  rintro D c xs bn bu hD bj ⟨p,he,bz⟩ ⟨rfl,hx⟩ hb hK;have HF:Hid _:=jw hx (jw he hb);clear hx he hb;gi_wp2;refine⟨by simp,.inl ⟨_,_,rfl,run_takeDeferred hK,?_⟩⟩;obtain⟨hx,he,hb⟩:=HF.out;refine⟨_,results_none rfl _ _ _,⟨_,rfl⟩,?_⟩;rcases hx with⟨aa,F,W0,xs',x,q1,q2,q3,rfl,q5,q6⟩|⟨aa,F,W0,q1,q2,q3⟩
  ·rw[aY]at he;obtain⟨p',n,e1,e2,e3⟩:=Fb he;exact .inl ⟨aa,F,W0,⟨p',q5.YV e1,.inr (.inr ⟨_,_,e3,q6⟩)⟩,q1,nG (q2.trans (.below hb jA _) (λ_ _ e=>e)) (q3 D (by omega) (by omega) (by omega)) _⟩
  ·exact .inr ⟨aa,F,W0,trivial,q1,nG (q2.trans (.below hb jA _) (λ_ _ e=>e)) (q3 D (by omega) (by omega) (by omega)) _⟩
end Hm
namespace Hm
open Go.RowKit Go.Joins
open Dv (Ch Fine)
open Fr (F below_drewN)
theorem Chs.more{w w3 w5:World}{nb:Nat}{vo aj:Value}{nm:AL}{os:List PC}{o':PC}(h:Chs w nb vo nm os)(ah:lu w3 nb .u32 (uU nm o'.ch.name (ptr o'.blk)))(an:jJ (λk=>k=nb) w w3)(am:ChanAt w3 o')(ag:w.heap.size<=o'.blk)(R:∀b,o'.fm=some b->w.heap.size<=b)
  (ak:Row w5 197 1 aj (os.length+1) ((os.map λo=>ptr o.blk)++[ptr o'.blk])) (af:jJ (λk=>vo.ownBlock=some k) w3 w5):Chs w5 nb aj (uU nm o'.ch.name (ptr o'.blk)) (os++[o']):=by
 have ab:∀k,vo.ownBlock=some k->k≠nb:=λk hk e=>by
  obtain⟨ai,hc⟩:=h.order.obj hk;exact kN hc h.named e
 have ac:∀o,o∈os->vo.ownBlock≠some o.blk:=λo z hk=>by
  obtain⟨ai,hc⟩:=h.order.obj hk;have:=(h.chans o z).obj;unfold vH at this;rw[hc]at this;simp at this
 have Y:∀o,o∈os->∀b,o.fm=some b->vo.ownBlock≠some b:=λo z b E hk=>by
  obtain⟨ai,hc⟩:=h.order.obj hk;cases hs:o.ch.spoilt
  ·obtain⟨⟨B,e,hm⟩,_⟩:=(h.chans o z).sound hs;rw[e]at E;cases E;exact kN hc hm rfl
  ·rw[((h.chans o z).spoilt hs).2]at E;cases E
 have ae:∀o,o∈os->o.blk≠nb:=λo z=>kN (h.chans o z).obj h.named;have aa:∀o,o∈os->o.blk<w.heap.size:=λo z=>(dR.1 (h.chans o z).obj).1;have J:∀o,o∈os->∀b,o.fm=some b->b<w.heap.size:=λo z b E=>h.qI (.inr (.inr ⟨o,z,.inr E⟩));have I:∀k,w.heap.size<=k->vo.ownBlock≠some k:=λk hk e=>by have:=h.order.lt e;omega
 refine⟨ah.of_block (af.block _ ah.lt (λe=>ab _ e rfl)),?_,?_,?_,?_,?_,?_⟩
 ·rw[aJ,aY];exact ak
 ·intro o z;rcases dG.1 z with z|z
  ·exact((h.chans o z).jO an (ae o z) (λb E e=>h.far o z (by rw[E,e]))).jO af (ac o z) (Y o z)
  ·rw[dD.1 z];exact am.jO af (I _ ag) (λb E=>I _ (R b E))
 ·rw[aY];refine List.nodup_append.2 ⟨h.apart,by simp,λa ha b E e=>?_⟩;obtain⟨o,z,rfl⟩:=bC.1 ha;simp at E;have:=aa o z;omega
 ·intro a b ha E x h1 h2;rcases dG.1 ha with ha|ha<;>rcases dG.1 E with E|E
  ·exact h.maps a b ha E x h1 h2
  ·rw[dD.1 E]at h2;have:=R x h2;have:=J a ha x h1;omega
  ·rw[dD.1 ha]at h1;have:=R x h1;have:=J b E x h2;omega
  ·rw[dD.1 ha,dD.1 E]
 ·intro o z e;rcases dG.1 z with z|z
  ·exact h.far o z e
  ·rw[dD.1 z]at e;have:=R _ e;have:=h.named.lt;omega
 ·intro p hp;unfold uU at hp;split at hp
  ·obtain⟨q,hq,e⟩:=bC.1 hp;by_cases hk:q.1=o'.ch.name
   ·rw[if_pos hk]at e;exact⟨o',by simp,e.symm⟩
   ·rw[if_neg hk]at e;obtain⟨o,z,e'⟩:=h.entries q hq;exact⟨o,by simp[z],by rw[<-e,e']⟩
  ·rcases dG.1 hp with hp|hp
   ·obtain⟨o,z,e'⟩:=h.entries p hp;exact⟨o,by simp[z],e'⟩
   ·exact⟨o',by simp,dD.1 hp⟩
theorem Uz:(PQ.info? 197).map (λi=>(i.zero,i.size,i.bytes))=some (some (.pointer none),1,8):=by kernel_rfl
theorem open_any(kb nb:Nat)(cs:Array Value)(vo:Value)(nm:AL)(os:List PC)(name n:Nat)(w:World)(hk:w.heap[kb]? =some (.cells cs 137 (0,0)))(h8:cs[8]? =some (.map (some nb)))(h9:cs[9]? =some vo)(h:Chs w nb vo nm os)(a7:os.length<=4294967296):
  Calls PQ 112 #[.pointer (some ⟨kb,8,none⟩),.int .u32 name,.int .i64 n] w λe w'=>e=.returned (.tuple #[])/\∃(ar:Value)(o':PC),w'.heap[kb]? =some (.cells (cs.setIfInBounds 9 ar) 137 (0,0))/\o'.ch=⟨name,n,[],false⟩/\Chs w' nb ar (uU nm name (ptr o'.blk)) (os++[o'])/\
   w.heap.size<=o'.blk/\(∀b,o'.fm=some b->w.heap.size<=b)/\(∀k,ar.ownBlock=some k->vo.ownBlock=some k\/w.heap.size<=k)/\jJ (λk=>k=kb\/k=nb\/vo.ownBlock=some k) w w':=by
 obtain⟨W2,ab⟩:∃W2,W2=(w.alloc (.map #[] 0)).alloc (.cells #[.int .u32 name,.int .i64 n,.map (some w.heap.size),.int .i64 0,.bool false,.int .u16 0,.bool false] 201):=⟨_,rfl⟩
 have aa:Below w.heap.size w W2:=by rw[ab];exact((aB _ w).alloc jA _).alloc (by simp) _
 have ap:W2.heap.size=w.heap.size+2:=by rw[ab];simp
 have av:lu W2 w.heap.size .u16 (sV []):=by
  rw[ab];exact(lu.made w .u16).of_block (aT _ _ _ (by simp))
 have ay:W2.heap[w.heap.size+1]? =some (vH ⟨w.heap.size+1,some w.heap.size,⟨name,n,[],false⟩,0,false,0⟩):=by
  rw[ab];have:=heap_alloc_new (w.alloc (.map #[] 0)) (.cells #[.int .u32 name,.int .i64 n,.map (some w.heap.size),.int .i64 0,.bool false,.int .u16 0,.bool false] 201);simp only[eH]at this;exact this
 have aw:ChanAt W2 ⟨w.heap.size+1,some w.heap.size,⟨name,n,[],false⟩,0,false,0⟩:=⟨ay,Dv.I9,λx hx=>by simp at hx,by simp,λ_=>⟨⟨_,rfl,av⟩,by simp[Dv.size],by simp[Dv.size],by simp[Dv.last],by simp[Dv.last]⟩,λh=>by simp at h⟩
 have J:=h.below aa;have Y:W2.heap[kb]? =_:=(aa.block _ (jC hk)).trans hk;obtain⟨w3,ae,ai,aq,an⟩:=J.named.update (P:=PQ) (uq Tryz.underlying130) (uq Tryz.underlying22) name (ptr (w.heap.size+1));have a4:kb≠nb:=kN hk h.named;have e8:W2.cell? ⟨kb,8,none⟩=some (.map (some nb)):=by rw[aA Y];exact h8
 have ag:w3.heap[kb]? =_:=(aq.block _ (jC Y) (by simp[a4])).trans Y;have e9:w3.cell? ⟨kb,9,none⟩=some vo:=by rw[aA ag];exact h9
 have z:jJ (λk=>k=nb) W2 w3:=(jJ.grown aq).mono (λk _ e=>by simpa using e.symm);have ah:ChanAt w3 ⟨w.heap.size+1,some w.heap.size,⟨name,n,[],false⟩,0,false,0⟩:=aw.jO z (by have:=h.named.lt;dsimp only;omega) (λb hb=>by cases hb;have:=h.named.lt;omega);obtain⟨a,cap,rfl⟩:=h.order.slice;unfold ptr at ae
 have ac:=λobj=>(J.order.jO z (λg hg e=>by
  obtain⟨a5,hc⟩:=J.order.obj hg;exact kN hc J.named e)).below ((aB w3.heap.size w3).alloc jA obj)
 have af:Hid _:=ac;have H:Hid _:=jw ag (jw J (jw ai (jw z (jw ah (jw ap (jw aa (jw an (jw hk h))))))));obtain⟨i0,a2,au,a3,a0⟩:=info_parts Uz;have Hi:Hid _:=jw a2 (jw au (jw a3 a0));have ax:kb<w3.heap.size:=(jC ag)
 clear hk h aa av ay aw J Y ai aq an ag z ah ac ap a2 au a3 a0 h8;go_enter (fq Tryz.func112 rfl),Tryz.ntmps112;have ba:=@run_makeMap PQ;go_upto_region 1 with fail;rw[<-ab];clear ab;go_upto_region 2 with fail;clear e8 ae;go_wp2_with (first|(at_builtin;refine lG _ rfl (.tmp 22) (.tmp 24) 131 rfl 197 i0 _ 1 8 (uq Tryz.underlying131) Hi.out.1 Hi.out.2.1 Hi.out.2.2.1 Hi.out.2.2.2 rfl (by decide) _ os.length _ rfl (af.out _) ⟨w3.heap.size,0,none⟩ 1 1 [.pointer (some ⟨w.heap.size+1,0,none⟩)] rfl (by decide) rfl (by intro j u hj;match j,hj with|0,hj=>(simp at hj;subst hj;simp[Addr.add])) (by intro u hu;simp at hu;subst hu;rfl) (by unfold maxLen;omega) (by omega) ?_;intro g off ak w5 I E;have R:w5.heap[kb]? =some (.cells cs 137 (0,0)):=(E.keep (af.out _) ((aT _ _ _ ax).trans H.out.1) (by decide));have c9:w5.cell? ⟨kb,9,none⟩=some (.slice a os.length cap):=(by rw[aA R];exact h9);have a9:=aI R;have a6:Hid _:=jw I (jw E R);clear I E R)|go_in)
 go_end0;obtain⟨I,E,R⟩:=a6.out;obtain⟨ag,J,ai,z,ah,ap,aa,an,hk,h⟩:=H.out;have aj:jJ (λk=>(Value.slice a os.length cap).ownBlock=some k) w3 w5:=(jJ.alloc _ w3 _).trans E.jO (λ_ _ e=>e)
 have a8:(Value.slice a os.length cap).ownBlock≠some kb:=λe=>by
  obtain⟨a5,hc⟩:=h.order.obj e;rw[hk]at hc;simp at hc
 have az:jJ (λk=>k=nb) w w3:=(jJ.below aa jA _).trans z (λ_ _ e=>e);have a1:=h.more (o':=⟨w.heap.size+1,some w.heap.size,⟨name,n,[],false⟩,0,false,0⟩) ai az ah (by dsimp only;omega) (λb hb=>by cases hb;exact jA) I aj;have am:=jJ.set w5 kb 9 (.slice (some ⟨g,off,none⟩) (os.length+1) ak);refine⟨rfl,.slice (some ⟨g,off,none⟩) (os.length+1) ak,⟨w.heap.size+1,some w.heap.size,⟨name,n,[],false⟩,0,false,0⟩,jT R 9 _,rfl,a1.jO am (λk ao e=>?_),by dsimp only;omega,λb hb=>by cases hb;exact jA,λk ao=>?_,?_⟩
 ·subst e;exact a1.kU R (by decide) (by decide) ao
 ·have Y:some g=some k:=ao;cases Y;rcases E.own with e|e
  ·exact .inl e
  ·right;simp at e;omega
 ·exact((az.mono (M':=λk=>k=kb\/k=nb\/(Value.slice a os.length cap).ownBlock=some k) (λk _ e=>.inr (.inl e))).trans aj (λk _ e=>.inr (.inr e))).trans am (λk _ e=>.inl e)
section
variable {w:World}{nb:Nat}{vo:Value}{nm:AL}{os:List PC}{o o'':PC}{most:Int}{f:F}
def opened(n:Nat)(f:F)(cs:List Ch):List Ch:=if f.num=0 then cs.filter (λc=>c.name != f.chan)++[⟨f.chan,n,[],false⟩]else cs
def qC(most:Int)(f:F)(c:Ch):Ch:=if c.name=f.chan then Dv.joined most c f else c
theorem QJ(most:Int)(n:Nat)(cs:List Ch)(f:F):Dv.frame most n cs f=(opened n f cs).map (qC most f):=by
 unfold Dv.frame opened;by_cases h:f.num=0
 ·rw[if_pos h,if_pos h,aY]
  congr 1
  ·symm;rw[jh (g:=id),List.map_id];intro c z;have:=(fK.1 z).2;simp only[bne_iff_ne,ne_eq]at this;unfold qC;rw[if_neg this];rfl
  ·simp[qC]
 ·rw[if_neg h,if_neg h];rfl
theorem IZ(m:AL)(k k':Nat)(v:Value):lM (uU m k v) k'=if k'=k then some v else lM m k':=by
 unfold lM uU;split
 ·rename_i h
  induction m with
  |nil=>simp at h
  |cons p m ih=>
   rw[dW,iw,iw];by_cases hp:p.1=k
   ·rw[if_pos hp];by_cases hk:k'=k
    ·subst hk;simp
    ·have E:(k == k')=false:=beq_false_of_ne (λe=>hk e.symm);have h2:(p.1 == k')=false:=beq_false_of_ne (λe=>hk (by rw[<-e,hp]));simp only[E,h2];by_cases I:k∈m.map Prod.fst
     ·exact ih I
     ·have:m.map (λp=>if p.1=k then(k,v)else p)=m:=by
       rw[jh (g:=id),List.map_id];intro q J;rw[if_neg (λ(e:q.1=k)=>I (e ▸ bC.2 ⟨q,J,rfl⟩))];rfl
      rw[this,if_neg hk]
   ·rw[if_neg hp]
    have I:k∈m.map Prod.fst:=by
     rcases bV.1 h with e|e
     ·exact(hp e.symm).elim
     ·exact e
    by_cases z:p.1=k'
    ·have E:(p.1 == k')=true:=by simp[z]
     simp only[E];rw[if_neg (λe=>hp (by rw[z,e]))]
    ·have E:(p.1 == k')=false:=beq_false_of_ne z;simp only[E];exact ih I
 ·rename_i h;rw[List.find?_append];by_cases hk:k'=k
  ·subst hk
   have:m.find? (λp=>p.1 == k')=none:=by
    rw[List.find?_eq_none];intro q J e;simp only[beq_iff_eq]at e;exact h (e ▸ bC.2 ⟨q,J,rfl⟩)
   rw[this];simp
  ·rw[if_neg hk];cases m.find? (λp=>p.1 == k')with
   |some p=>rfl
   |none=>
    have E:(k == k')=false:=beq_false_of_ne (λe=>hk e.symm);simp[E]
theorem Nu(h:Chs w nb vo nm os){o':PC}(z:w.heap.size<=o'.blk):lives (uU nm o'.ch.name (ptr o'.blk)) (os++[o'])=(lives nm os).filter (λc=>c.name != o'.ch.name)++[o'.ch]:=by
 unfold lives;rw[iC,aY]
 congr 1
 ·rw[List.filter_map,List.filter_filter]
  congr 1
  refine List.filter_congr (λo I=>?_);have E:o.blk<w.heap.size:=(dR.1 (h.chans o I).obj).1;unfold alive;rw[IZ];by_cases e:o.ch.name=o'.ch.name
  ·rw[if_pos e];have J:(o'.blk == o.blk)=false:=beq_false_of_ne (by omega);have h2:(o.ch.name != o'.ch.name)=false:=by simp[e]
   show(o'.blk == o.blk)=((o.ch.name != o'.ch.name)&&_)
   rw[J,h2,Bool.false_and]
  ·rw[if_neg e];have h2:(o.ch.name != o'.ch.name)=true:=by simp[e]
   show _=((o.ch.name != o'.ch.name)&&_)
   rw[h2,Bool.true_and]
 ·have:alive (uU nm o'.ch.name (ptr o'.blk)) o'=true:=by
   unfold alive;rw[IZ,if_pos rfl];simp[ptr]
  rw[dU,if_pos this];rfl
theorem yI(Y:(os.map (·.blk)).Nodup){x:PC}(J:x∈os)(R:o∈os)(e:x.blk=o.blk):x=o:=by
 induction os with
 |nil=>simp at J
 |cons y os ih=>
  have z:=iq.1 (by simpa using Y:(y.blk::os.map (·.blk)).Nodup);rcases bV.1 J with rfl|I<;>rcases bV.1 R with rfl|E
  ·rfl
  ·exact(z.1 (e ▸ bC.2 ⟨o,E,rfl⟩)).elim
  ·exact(z.1 (e ▸ bC.2 ⟨x,I,rfl⟩)).elim
  ·exact ih z.2 I E
def swap(o'':PC)(x:PC):PC:=if x.blk=o''.blk then o'' else x
theorem tK(o'' x:PC):(swap o'' x).blk=x.blk:=by
 unfold swap;split
 ·rename_i h;exact h.symm
 ·rfl
theorem Chs.swap{w':World}(h:Chs w nb vo nm os)(R:o∈os)(hb:o''.blk=o.blk)(ag:o''.ch.name=o.ch.name)(ae:o''.fm=o.fm\/o''.fm=none)(hc:ChanAt w' o'')(hg:jJ (λk=>k=o.blk\/o.fm=some k) w w'):Chs w' nb vo nm (os.map (swap o'')):=by
 have inj:∀x,x∈os->x.blk=o.blk->x=o:=λx E e=>yI h.apart E R e
 have z:∀x,x∈os->∀b,(Hm.swap o'' x).fm=some b->x.fm=some b:=λx E b e=>by
  unfold Hm.swap at e;split at e
  ·rename_i aa;rw[inj x E (aa.trans hb)];rcases ae with h1|h1
   ·rw[<-h1];exact e
   ·rw[h1]at e;cases e
  ·exact e
 refine⟨h.named.of_block (hg.block _ h.named.lt (λe=>?_)),?_,?_,?_,?_,?_,?_⟩
 ·rcases e with e|e
  ·exact kN (h.chans o R).obj h.named e.symm
  ·exact h.far o R e
 ·rw[aU,jq]
  have:((λo:PC=>ptr o.blk)∘Hm.swap o'')=λo=>ptr o.blk:=by
   funext x;simp only[Function.comp,tK]
  rw[this];refine h.order.jO hg (λg af e=>?_);obtain⟨ah,Y⟩:=h.order.obj af;rcases e with rfl|e
  ·have:=(h.chans o R).obj;unfold vH at this;rw[Y]at this;simp at this
  ·cases hs:o.ch.spoilt
   ·obtain⟨⟨B,e',hm⟩,_⟩:=(h.chans o R).sound hs;rw[e']at e;cases e;exact kN Y hm rfl
   ·rw[((h.chans o R).spoilt hs).2]at e;cases e
 ·intro y hy;obtain⟨x,E,rfl⟩:=bC.1 hy;unfold Hm.swap;split
  ·exact hc
  ·rename_i ab;refine(h.chans x E).jO hg (λe=>?_) (λb I e=>?_)
   ·rcases e with e|e
    ·exact ab (e.trans hb.symm)
    ·cases hs:o.ch.spoilt
     ·obtain⟨⟨B,e',hm⟩,_⟩:=(h.chans o R).sound hs;rw[e']at e;cases e;exact kN (h.chans x E).obj hm rfl
     ·rw[((h.chans o R).spoilt hs).2]at e;cases e
   ·rcases e with e|e
    ·subst e;cases hs:x.ch.spoilt
     ·obtain⟨⟨B,e',hm⟩,_⟩:=(h.chans x E).sound hs;rw[e']at I;cases I;exact kN (h.chans o R).obj hm rfl
     ·rw[((h.chans x E).spoilt hs).2]at I;cases I
    ·exact ab ((h.maps x o E R b I e).trans hb.symm)
 ·rw[jq]
  have:((λo:PC=>o.blk)∘Hm.swap o'')=λo=>o.blk:=by
   funext x;simp only[Function.comp,tK]
  rw[this];exact h.apart
 ·intro x y E hy b h1 h2;obtain⟨x0,J,rfl⟩:=bC.1 E;obtain⟨y0,ac,rfl⟩:=bC.1 hy;rw[tK,tK];exact h.maps x0 y0 J ac b (z x0 J b h1) (z y0 ac b h2)
 ·intro x E e;obtain⟨x0,J,rfl⟩:=bC.1 E;exact h.far x0 J (z x0 J nb e)
 ·intro p hp;obtain⟨x,E,rfl⟩:=h.entries p hp;refine⟨Hm.swap o'' x,bC.2 ⟨x,E,rfl⟩,?_⟩;rw[tK];unfold Hm.swap;split
  ·rename_i aa;rw[inj x E (aa.trans hb),ag]
  ·rfl
theorem Rx(I:o∈os)(R:o''.blk=o.blk)(z:o''.fm=o.fm\/o''.fm=none){k:Nat}(hk:Own nb vo (os.map (swap o'')) k):Own nb vo os k:=by
 rcases hk with e|e|⟨y,J,e⟩
 ·exact .inl e
 ·exact .inr (.inl e)
 ·obtain⟨x,Y,rfl⟩:=bC.1 J;unfold swap at e;split at e
  ·refine .inr (.inr ⟨o,I,?_⟩);rcases e with e|e
   ·exact .inl (e.trans R)
   ·rcases z with E|E
    ·exact .inr (by rw[<-E];exact e)
    ·rw[E]at e;cases e
  ·exact .inr (.inr ⟨x,Y,e⟩)
theorem C9(h:Chs w nb vo nm os)(ho:o∈os)(J:o''.blk=o.blk)(I:o''.ch=Dv.joined most o.ch f)(R:o.ch.name=f.chan)(hg:lM nm f.chan=some (ptr o.blk)):lives nm (os.map (swap o''))=(lives nm os).map (qC most f):=by
 have jn:(Dv.joined most o.ch f).name=o.ch.name:=by
  unfold Dv.joined;split
  ·rfl
  ·split<;>rfl
 have inj:∀x,x∈os->x.blk=o.blk->x=o:=λx z e=>yI h.apart z ho e;unfold lives;rw[List.filter_map,jq,jq]
 have Y:∀x,x∈os->(alive nm∘swap o'') x=alive nm x:=λx z=>by
  simp only[Function.comp];unfold swap;split
  ·rename_i e;rw[inj x z (e.trans J)];unfold alive;rw[I,jn,J]
  ·rfl
 rw[List.filter_congr Y];refine jh (λx z=>?_);obtain⟨z,E⟩:=fK.1 z;simp only[Function.comp];unfold swap qC;by_cases e:x.blk=o.blk
 ·rw[if_pos (e.trans J.symm),inj x z e,if_pos R,I]
 ·rw[if_neg (λe'=>e (e'.trans J)),if_neg];intro e';have:alive nm x=(o.blk == x.blk):=pF (by rw[e'];exact hg);rw[this]at E;simp only[beq_iff_eq]at E;exact e E.symm
theorem Kz(I:lM nm f.chan=none):(lives nm os).map (qC most f)=lives nm os:=by
 rw[jh (g:=id),List.map_id];intro c E;unfold lives at E;obtain⟨x,J,rfl⟩:=bC.1 E;have z:=(fK.1 J).2;unfold qC;rw[if_neg]
 ·rfl
 ·intro e;rw[rU (by rw[e];exact I)]at z;cases z
theorem FZ(h:Chs w nb vo nm os)(E:o∈os)(R:Dv.nS o.ch f=true)(z:o.ch.name=f.chan)(J:lM nm f.chan=some (ptr o.blk)):(lives nm os).map (qC most f)=lives nm os:=by
 have I:Dv.joined most o.ch f=o.ch:=by unfold Dv.joined;rw[if_pos R]
 rw[<-C9 h E (o'':=o) rfl I.symm z J]
 congr 1
 rw[jh (g:=id),List.map_id];intro x Y;unfold swap;split
 ·rename_i e;exact(yI h.apart Y E e).symm
 ·rfl
end
theorem abn:PQ.underlying 197=some (.pointer (PQ.pointee 197)):=by kernel_rfl
theorem Qa(w:World):(binOp .neq 197 (.pointer none) (.pointer none)).run PQ w=.ok (.bool false) w:=run_neq_pointer_nil w _ none abn
theorem QZ(w:World)(b:Nat):(binOp .neq 197 (.pointer (some ⟨b,0,none⟩)) (.pointer none)).run PQ w=.ok (.bool true) w:=run_neq_pointer_nil w _ (some _) abn
theorem JY(most:Int)(c:Ch)(f:F):(Dv.joined most c f).name=c.name:=by
 unfold Dv.joined;split
 ·rfl
 ·split<;>rfl
structure AU(kb nb:Nat)(cs:Array Value)(vo:Value)(os:List PC)(w:World)(vo':Value)(nm':AL)(os':List PC)(w':World):Prop where
 obj:w'.heap[kb]? =some (.cells (cs.setIfInBounds 9 vo') 137 (0,0))
 chs:Chs w' nb vo' nm' os'
 jO:jJ (λk=>k=kb\/Own nb vo os k) w w'
 own:∀k,Own nb vo' os' k->Own nb vo os k\/w.heap.size<=k
 len:os'.length<=os.length+1
theorem take_any(kb nb:Nat)(cs:Array Value)(vo:Value)(nm:AL)(os:List PC)(f:F)(n:Nat)(most:Int)(w:World)(hk:w.heap[kb]? =some (.cells cs 137 (0,0)))(h8:cs[8]? =some (.map (some nb)))(h9:cs[9]? =some vo)(h:Chs w nb vo nm os)(a8:os.length<=4294967295)(hf:f.num<65536/\f.data.length<=65536)(ai:0<=most/\most<=4294967296):
  Calls PQ 72 #[.pointer (some ⟨kb,8,none⟩),Ie f,.int .i64 n,.int .i64 most] w λe w'=>e=.returned (.tuple #[])/\∃au a0 ay,AU kb nb cs vo os w au a0 ay w'/\lives a0 ay=Dv.frame most n (lives nm os) f:=by
 rw[QJ];obtain⟨fc,fn,fd,ac⟩:=f;unfold Ie;dsimp only at *;obtain⟨D,hD⟩:∃D:ByteArray,(⟨fd.toArray⟩:ByteArray)=D:=⟨_,rfl⟩
 rw[hD];obtain⟨W,hW,J,zo⟩:=jE w #[.int .u32 fc,.int .u16 fn,.string D,.bool ac] 81;have a2:w.heap.size<W.heap.size:=by rw[hW];simp
 obtain⟨z0,z1⟩:=cells2 zo;have af:W.heap[kb]? =_:=(J.block _ (jC hk)).trans hk;have aa:=h.below J;have an:=open_any kb nb cs vo nm os fc n W af h8 h9 aa (by omega);have aw:Hid _:=λ(_:Unit)=>an;have a6:kb<w.heap.size:=(jC hk)
 have H:Hid _:=jw hk (jw h8 (jw h9 (jw h (jw J (jw zo (jw af (jw aa (jw hf (jw ai hD)))))))));clear hk h8 h9 h J zo af aa an hf ai hD;go_enter (fq Tryz.func72 rfl),Tryz.ntmps72;go_upto_if 11 with fail;rw[<-hW];clear hW;go_cut [16] (λ_ wx=>Hid (∃aj ak ag,AU kb nb cs vo os w aj ak ag wx/\lives ak ag=opened n ⟨fc,fn,fd,ac⟩ (lives nm os)/\wx.heap[w.heap.size]? =some (.cells #[.int .u32 fc,.int .u16 fn,.string D,.bool ac] 81 (0,0))))
 case first=>
  by_cases h0:fn=0
  ·have h1:((fn:Int) == 0)=true:=by rw[h0];rfl
   have H0:Hid _:=h0;rw[h1];clear h1 h0;go_wp2_with (go_at_call 112;refine aK (aw.out ()) ?_;rintro e w2 ⟨rfl,au,o',q1,q2,q3,q4,q5,q6,q7⟩)
   go_meet;obtain⟨hk,h8,h9,h,J,zo,af,aa,hf,ai,hD⟩:=H.out;have bb:=J.size
   have az:jJ (λk=>k=kb\/Own nb vo os k) w w2:=(jJ.below J jA _).trans q7 (λk _ e=>by
    rcases e with e|e|e
    ·exact .inl e
    ·exact .inr (.inl e)
    ·exact .inr (.inr (.inl e)))
   refine⟨au,_,_,⟨q1,q3,az,λk am=>?_,by simp⟩,?_,?_⟩
   ·rcases am with e|e|⟨x,hx,e⟩
    ·exact .inl (.inl e)
    ·rcases q6 k e with e|e
     ·exact .inl (.inr (.inl e))
     ·exact .inr (by omega)
    ·rcases dG.1 hx with hx|hx
     ·exact .inl (.inr (.inr ⟨x,hx,e⟩))
     ·rw[dD.1 hx]at e;rcases e with e|e
      ·exact .inr (by omega)
      ·have:=q5 k e;exact .inr (by omega)
   ·have:=Nu aa q4;rw[q2]at this;rw[this];unfold opened;rw[if_pos H0.out]
   ·refine(q7.block _ a2 ?_).trans zo;rintro(e|e|e)
    ·omega
    ·have:=h.named.lt;omega
    ·have:=h.order.lt e;omega
  ·have h1:((fn:Int) == 0)=false:=beq_false_of_ne (by omega);have H0:Hid _:=h0;rw[h1];clear h1 h0;go_wp2_with fail;go_meet;obtain⟨hk,h8,h9,h,J,zo,af,aa,hf,ai,hD⟩:=H.out;refine⟨vo,nm,os,⟨?_,aa,.below J jA _,λk am=>.inl am,by omega⟩,?_,zo⟩
   ·have:cs.setIfInBounds 9 vo=cs:=by
     refine fP (λi=>?_);rw[aO];by_cases e:9=i
     ·subst e;have a3:=(jC h9)
      rw[if_pos rfl,if_pos a3,h9]
     ·rw[if_neg e]
    rw[this];exact af
   ·unfold opened;rw[if_neg H0.out]
 case rest=>
  obtain⟨aj,ak,ag,z,R,ae⟩:=hcut.out;obtain⟨hk,h8,h9,h,J,zo,af,aa,hf,ai,hD⟩:=H.out;have e8:wc.cell? ⟨kb,8,none⟩=some (.map (some nb)):=by rw[aA z.obj,aO,if_neg (by omega)];exact h8
  have y0:=nO ae;have I:=(z.chs.named.of_block (w':=wc.drew) rfl).lookup (P:=PQ) (uq Tryz.underlying130) (uq Tryz.underlying22) (TT _) fc false;simp only[bJ,if_false]at I;have aq:Below wc.heap.size wc wc.drew:=(aB _ _).drew;have a1:=Qa;have a4:=QZ;have tail:∀w',Below wc.heap.size wc w'->AU kb nb cs vo os w aj ak ag w':=λw' hb=>⟨(hb.block _ (jC z.obj)).trans z.obj,z.chs.below hb,z.jO.trans (.below hb jA (λ_=>False)) (λ_ _ e=>e.elim),z.own,z.len⟩
  rcases z.chs.get (n:=fc)with hg|⟨o,ho,hn,hg⟩
  ·rw[hg]at I;simp only[Option.getD_none]at I;have HT:Hid _:=jw tail (jw R hg);clear hk h8 h9 h J zo af aa hf ai hD z R ae hg hcut tail z0 z1;go_upto_region 3 with fail;go_cut [8] (λv wx=>v=.pointer none/\wx=wc.drew)
   case first=>
    go_region
    all_goals
     go_wp2_with fail;go_meet;exact⟨rfl,rfl⟩
   case rest=>
    obtain⟨rfl,rfl⟩:=hcut;go_wp2_with fail;go_end0;obtain⟨tail,R,hg⟩:=HT.out;refine⟨rfl,aj,ak,ag,tail _ aq,?_⟩;rw[<-R,Kz hg]
  ·rw[hg]at I;simp only[fB]at I;unfold ptr at I;have av:=z.chs.below aq;have ab:=Jz o ⟨fc,fn,fd,ac⟩ wc.drew (av.chans o ho) hf.1;have E:=λ(W':World)(a5:Below wc.drew.heap.size wc.drew W')(hb:Dv.nS o.ch ⟨fc,fn,fd,ac⟩=false)=>RJ o ⟨fc,fn,fd,ac⟩ most W' ((av.below a5).chans o ho) hb hf ai;unfold Ie at ab E;dsimp only at ab E;rw[hD]at ab E;obtain⟨b,hb⟩:∃b,Dv.nS o.ch ⟨fc,fn,fd,ac⟩=b:=⟨_,rfl⟩
   rw[hb]at ab E;have zd:wc.drew.heap[w.heap.size]? =some (.cells #[.int .u32 fc,.int .u16 fn,.string D,.bool ac] 81 (0,0)):=ae;obtain⟨x0,x1,x2,x3⟩:=cells4 ae;have ar:Hid _:=λ(_:Unit)=>ab;have ax:Hid _:=E;have HT:Hid _:=jw tail (jw R (jw hg (jw ho (jw hn (jw hb (jw z (jw hk (jw h ae))))))));have ap:=(jC ae)
   clear hk h8 h9 h J zo af aa hf ai hD z R ae hg hcut tail ab E av zd ho hn hb z0 z1;go_upto_region 3 with fail;go_cut [8] (λv wx=>v=.pointer (some ⟨o.blk,0,none⟩)/\wx=wc.drew)
   case first=>
    go_region
    all_goals
     go_wp2_with fail;go_meet;exact⟨rfl,rfl⟩
   case rest=>
    obtain⟨rfl,rfl⟩:=hcut;cases b
    ·go_wp2_with (first|(go_at_call 113;refine aK (ar.out ()) ?_;rintro e w2 ⟨rfl,ah⟩;have ba:w2.cell? ⟨w.heap.size,0,none⟩=some (.int .u32 fc):=(ah.cell (p:=⟨w.heap.size,0,none⟩) ap).trans x0;have bg:w2.cell? ⟨w.heap.size,1,none⟩=some (.int .u16 fn):=(ah.cell (p:=⟨w.heap.size,1,none⟩) ap).trans x1;have a9:w2.cell? ⟨w.heap.size,2,none⟩=some (.string D):=(ah.cell (p:=⟨w.heap.size,2,none⟩) ap).trans x2;have bd:w2.cell? ⟨w.heap.size,3,none⟩=some (.bool ac):=(ah.cell (p:=⟨w.heap.size,3,none⟩) ap).trans x3)|(go_at_call 114;(refine aK (ax.out _ ah trivial) ?_;rintro e w3 ⟨rfl,o'',j1,j2,j3,j4,j5⟩))|fail)
     go_end0;obtain⟨tail,R,hg,ho,hn,hb,z,hk,h,ae⟩:=HT.out;have Y:=tail _ (aq.trans ah);have ao:∀k,(k=o.blk\/o.fm=some k)->Own nb aj ag k:=λk e=>.inr (.inr ⟨o,ho,e⟩);have a7:=Y.chs.swap ho j1 (by rw[j2,JY]) j3 j4 j5;refine⟨rfl,aj,ak,ag.map (swap o''),⟨?_,a7,?_,λk am=>Y.own k (Rx ho j1 j3 am),by rw[aU];exact Y.len⟩,?_⟩
     ·refine(j5.block _ (jC Y.obj) (λe=>?_)).trans Y.obj;exact Y.chs.kU Y.obj (by decide) (by decide) (ao _ e)
     ·refine Y.jO.trans j5 (λk a6 e=>?_);rcases Y.own k (ao k e)with e|e
      ·exact .inr e
      ·omega
     ·rw[<-R];exact C9 Y.chs ho j1 j2 hn hg
    ·go_wp2_with (first|(go_at_call 113;refine aK (ar.out ()) ?_;rintro e w2 ⟨rfl,ah⟩)|fail)
     go_end0;obtain⟨tail,R,hg,ho,hn,hb,z,hk,h,ae⟩:=HT.out;refine⟨rfl,aj,ak,ag,tail _ (aq.trans ah),?_⟩;rw[<-R,FZ z.chs ho hb hn hg]
theorem zB(J kb nb:Nat)(nm:AL)(os:List PC)(o:PC)(w:World)(h:Core w nb nm os)(R:o∈os)(hs:w.cell? ⟨J,0,none⟩=some (.pointer (some ⟨kb,8,none⟩)))(hk:w.cell? ⟨kb,8,none⟩=some (.map (some nb))):
  Calls PQ 106 #[ptr o.blk,.pointer (some ⟨J,0,none⟩)] w λe w'=>e=.returned (.bool (!alive nm o))/\∃m,w'=w.drewN m:=by
 have z:=qZ kb nb 8 nm os o w h R hk;unfold ptr at z⊢;obtain⟨b,I⟩:∃b,alive nm o=b:=⟨_,rfl⟩
 rw[I]at z⊢;have E:Hid _:=λ(_:Unit)=>z;clear z I h;go_enter (fq Tryz.func106 rfl),Tryz.ntmps106;go_wp2_with (go_at_call 104;refine aK (E.out ()) ?_;rintro e w2 ⟨rfl,m,rfl⟩)
 go_ret;exact⟨rfl,m,rfl⟩
theorem Lr(sb kb nb:Nat)(nm:AL)(os l:List PC)(v:Value)(w:World)(h:Core w nb nm os)(hl:∀o,o∈l->o∈os)(hr:Rd w 1 v l.length (l.map λo=>ptr o.blk))(hs:w.cell? ⟨sb,0,none⟩=some (.pointer (some ⟨kb,8,none⟩)))(hk:w.cell? ⟨kb,8,none⟩=some (.map (some nb)))(af:l.length<=4294967296):
  Calls PQ 152 #[v,.func (.func 106) #[] #[.pointer (some ⟨sb,0,none⟩)]] w λe w'=>e=.returned (.int .i64 (idx (λo=>!alive nm o) l))/\∃m,w'=w.drewN m:=by
 have eg:=enters_of (P:=PQ) (fq Tryz.func106 rfl) (by kernel_rfl) rfl;rcases Rd.cases hr with⟨a,cap,h0,rfl⟩|⟨g,off,cap,h0,rfl⟩
 ·obtain rfl:=bD h0;go_enter (fq Tryz.func152 rfl),Tryz.ntmps152;go_wp2_with fail;go_loopg [5,8] 0 (λgg _ v8 wx=>v8=.int .i64 0/\wx=w)
  case atStart=>exact⟨rfl,rfl⟩
  case round=>
   obtain⟨rfl,rfl⟩:=hrel;go_wp2_with fail;go_ret;exact⟨rfl,0,rfl⟩
 ·obtain⟨g',ac,ae,hv,_,hg,hx⟩:=hr.pos h0;simp only[Value.slice.injEq,aC,Addr.mk.injEq,and_true,true_and]at hv;obtain⟨⟨rfl,rfl⟩,rfl⟩:=hv;have z:=λ(m:Nat)(o:PC)(R:o∈l)=>zB sb kb nb nm os o (w.drewN m) (h.drewN m) (hl o R) hs hk;have hf:∀(j m:Nat)(o:PC),l[j]? =some o->(w.drewN m).cell? ⟨g,off+j,none⟩=some (ptr o.blk):=λj m o I=>hx j _ (by rw[eX,I];rfl);have Hf:Hid _:=jw hf z;clear hf z hr h hl hx hs hk;go_enter (fq Tryz.func152 rfl),Tryz.ntmps152;go_wp2_with fail;go_loopg [5,8] l.length (λgg _ v8 wx=>∃i m:Nat,i<=l.length/\v8=.int .i64 i/\gg=l.length-i/\Hid (∀(j:Nat)(y:PC),j<i->l[j]? =some y->(!alive nm y)=false)/\wx=w.drewN m)
  case atStart=>exact⟨0,0,dF _,rfl,rfl,λj y I=>by omega,rfl⟩
  case round=>
   obtain⟨i,m,hi,rfl,rfl,Hi,rfl⟩:=hrel;by_cases ab:i<l.length
   ·have aa:(i:Int)<l.length:=by omega
    obtain⟨o,R⟩:∃o,l[i]? =some o:=⟨_,aG ab⟩
    have k0:=Hf.out.1 i m o R;have J:=Hf.out.2 m o (aQ R);unfold ptr at k0 J;have Ho:Hid _:=R;obtain⟨V,hV⟩:∃V,V=w.drewN m:=⟨_,rfl⟩
    rw[<-hV]at k0 J⊢;cases Y:(!alive nm o)
    ·rw[Y]at J;have Hc:Hid _:=λ(_:Unit)=>J;have Hq:Hid _:=jw Y hV;clear J R Y hV;go_wp2_with (go_at_call 106;refine aK (Hc.out ()) ?_;rintro e w2 ⟨rfl,m2,rfl⟩)
     go_roundg (l.length-(i+1))
     case measure=>omega
     case rel=>
      refine⟨i+1,m+m2,by omega,by go_num,rfl,λj y I E=>?_,?_⟩
      ·rcases jl (Nat.lt_succ_iff.1 I)with I|rfl
       ·exact Hi.out j y I E
       ·rw[Ho.out]at E;cases E;exact Hq.out.1
      ·rw[Hq.out.2];simp
    ·rw[Y]at J;have Hc:Hid _:=λ(_:Unit)=>J;have Hq:Hid _:=jw Y hV;clear J R Y hV;go_wp2_with (go_at_call 106;refine aK (Hc.out ()) ?_;rintro e w2 ⟨rfl,m2,rfl⟩)
     go_ret;refine⟨by rw[BP Ho.out Hq.out.1 (λj y I E=>Hi.out j y I E)];rfl,m+m2,?_⟩;rw[Hq.out.2];simp
   ·have aa:¬(i:Int)<l.length:=by omega
    go_wp2_with fail;go_ret;refine⟨?_,m,rfl⟩;rw[AB (λj y E=>Hi.out j y (by have:=(aF.1 E).1;omega) E)];rfl
section
variable {i j:Nat}{l:List PC}{p:PC->Bool}{ys:List Value}{o:PC}
theorem Row.cleared{w:World}{e n g off cap:Nat}{xs:List Value}(h:Row w e 1 (.slice (some ⟨g,off,none⟩) n cap) n xs)(hi:i<=n)(vs:List Value):Row (w.setCells g (off+i) vs) e 1 (.slice (some ⟨g,off,none⟩) i cap) i (xs.take i):=by
 refine⟨by rw[aZ,h.1];omega,?_⟩;rcases h.2 with⟨h0,_⟩|⟨g',R,Y,aa,hv,hh,ab,I,J,hc⟩
 ·cases h0
 ·simp only[Value.slice.injEq,aC,Addr.mk.injEq,and_true,true_and]at hv;obtain⟨⟨rfl,rfl⟩,rfl⟩:=hv;obtain⟨z,k1,k2,k3,k4⟩:=qR vs (off+i) hh;refine .inr ⟨g,off,cap,z,rfl,k1,by omega,I,by rw[k2];exact J,λj v E=>?_⟩;rw[gG]at E;split at E
  ·rw[k3 _ (.inl (by omega))];exact hc j v E
  ·cases E
structure lX(l:List PC)(p:PC->Bool)(ys:List Value)(i j:Nat):Prop where
 len:ys.length=l.length
 lt:i<j
 le:j<=l.length
 front:ys.take i=((l.take j).filter p).map λo=>ptr o.blk
 back:ys.drop j=(l.map λo=>ptr o.blk).drop j
theorem take_snoc{α:Type}{l:List α}{x:α}(h:l[j]? =some x):l.take (j+1)=l.take j++[x]:=by
 obtain⟨z,rfl⟩:=aF.1 h;exact dZ z
theorem lX.start{x:PC}(z:l[i]? =some x)(J:p x=false)(h:∀(j:Nat)(y:PC),j<i->l[j]? =some y->p y=true):lX l p (l.map λo=>ptr o.blk) i (i+1):=by
 have E:=(aF.1 z).1;refine⟨by simp,by omega,by omega,?_,rfl⟩;rw[take_snoc z,iC,dU,if_neg (by rw[J];simp),List.filter_nil,fU,<-List.map_take]
 congr 1
 symm;refine iO.2 (λy I=>?_);obtain⟨k,hk⟩:=List.getElem?_of_mem I;rw[gG]at hk;split at hk
 ·exact h k y (by assumption) hk
 ·cases hk
theorem lX.at(h:lX l p ys i j)(z:l[j]? =some o):ys[j]? =some (ptr o.blk):=by
 have:=congrArg (λq=>q[0]?) h.back;simpa[iT,z]using this
theorem lX.drop(h:lX l p ys i j)(z:l[j]? =some o)(hp:p o=false):lX l p ys i (j+1):=by
 have E:=(aF.1 z).1;refine⟨h.len,by have:=h.lt;omega,by omega,?_,?_⟩
 ·rw[h.front,take_snoc z,iC,dU,if_neg (by rw[hp];simp),List.filter_nil,fU]
 ·have:=congrArg (List.drop 1) h.back;simpa[gZ]using this
theorem lX.keep(h:lX l p ys i j)(E:l[j]? =some o)(hp:p o=true):lX l p (ys.set i (ptr o.blk)) (i+1) (j+1):=by
 have I:=(aF.1 E).1;have J:=h.lt;have h2:=h.len;refine⟨by rw[List.length_set];exact h2,by omega,by omega,?_,?_⟩
 ·rw[take_snoc E,iC,aY,<-h.front,dU,if_pos hp,List.filter_nil];rw[List.take_set];have z:ys.take (i+1)=ys.take i++[ys[i]'(by omega)]:=dZ (by omega);rw[z,List.set_append_right _ _ (by rw[aZ];omega)]
  congr 1
  rw[aZ,fO (by omega)];simp
 ·rw[List.drop_set_of_lt (by omega)];have:=congrArg (List.drop 1) h.back;simpa[gZ]using this
theorem lX.all(h:lX l p ys i l.length):ys.take i=(l.filter p).map λo=>ptr o.blk:=by
 rw[h.front,iF]
theorem lX.count(h:lX l p ys i j):i=((l.take j).filter p).length:=by
 have:=congrArg List.length h.front;rw[aZ,aU,h.len]at this;have:=h.lt;have:=h.le;omega
theorem Jk(sb kb nb:Nat)(nm:AL)(os:List PC)(v:Value)(w:World)(h:Core w nb nm os)(hr:Row w 197 1 v os.length (os.map λo=>ptr o.blk))(ap:Array Value)(ax:Array Value)(I:w.heap[sb]? =some (.cells ap 196 (0,0)))(hs:ap[0]? =some (.pointer (some ⟨kb,8,none⟩)))(J:w.heap[kb]? =some (.cells ax 137 (0,0)))(hk:ax[8]? =some (.map (some nb)))(a6:os.length<=4294967296):
  Calls PQ 105 #[v,.func (.func 106) #[] #[.pointer (some ⟨sb,0,none⟩)]] w λe w'=>∃a k cap,e=.returned (.slice a k cap)/\k=(os.filter (alive nm)).length/\Row w' 197 1 (.slice a k cap) k ((os.filter (alive nm)).map λo=>ptr o.blk)/\(Value.slice a k cap).ownBlock=v.ownBlock/\jJ (λk=>v.ownBlock=some k) w w':=by
 have eg:=enters_of (P:=PQ) (fq Tryz.func106 rfl) (by kernel_rfl) rfl;have an:w.cell? ⟨sb,0,none⟩=some (.pointer (some ⟨kb,8,none⟩)):=by rw[aA I];exact hs
 have am:w.cell? ⟨kb,8,none⟩=some (.map (some nb)):=by rw[aA J];exact hk
 have z:=Lr sb kb nb nm os os v w h (λo Y=>Y) hr.rd an am a6;cases ac:os.findIdx? (λo=>!alive nm o)with
 |none=>
  have aa:os.filter (alive nm)=os:=iO.2 (λo Y=>by
   have:=List.findIdx?_eq_none_iff.1 ac o Y;simpa using this)
  have hi:idx (λo=>!alive nm o) os=-1:=by unfold idx;rw[ac]
  rw[hi]at z;rw[aa];obtain⟨a,cap,rfl⟩:=hr.slice;have af:Hid _:=λ(_:Unit)=>z;have Hr:Hid (Row _ _ _ _ _ _):=hr;clear z hr h I hs J hk an am ac aa hi;go_enter (fq Tryz.func105 rfl),Tryz.ntmps105;go_wp2_with (go_at_call 152;refine aK (af.out ()) ?_;rintro e w2 ⟨rfl,m,rfl⟩)
  go_ret;exact⟨a,os.length,cap,rfl,rfl,Hr.out.kept (λ_ _=>rfl),rfl,⟨rfl,rfl,rfl,jA,λ_ _ _=>rfl⟩⟩
 |some i0=>
  obtain⟨a5,ar,aj⟩:=iY.1 ac;have hi:idx (λo=>!alive nm o) os=i0:=by unfold idx;rw[ac]
  rw[hi]at z;obtain⟨g,off,cap,rfl,bh⟩:=hr.pos (by omega)
  have au:lX os (alive nm) (os.map λo=>ptr o.blk) i0 (i0+1):=lX.start (aG a5) (by simpa using ar) (λj y hj hy=>by
   obtain⟨a2,rfl⟩:=aF.1 hy;have:=aj j hj;simpa using this)
  have bb:g<w.heap.size:=hr.lt rfl;obtain⟨rc,ae⟩:=hr.obj (g:=g) rfl;have ay:sb≠g:=λe=>by rw[e,ae]at I;simp at I
  have aq:kb≠g:=λe=>by rw[e,ae]at J;simp at J
  have aw:nb≠g:=λe=>kN ae h.named e.symm
  have av:∀o,o∈os->o.blk≠g:=λo Y e=>by
   have:=h.objs o Y;unfold vH at this;rw[e,ae]at this;simp at this
  have ah:∀W,jJ (λk=>k=g) w W->∀o,o∈os->Calls PQ 106 #[.pointer (some ⟨o.blk,0,none⟩),.pointer (some ⟨sb,0,none⟩)] W λe w'=>e=.returned (.bool (!alive nm o))/\∃m,w'=W.drewN m:=λW hW o Y=>
   zB sb kb nb nm os o W (h.jO hW aw (λo Y=>av o Y)) Y (by rw[aA ((hW.block _ (jC I) ay).trans I)];exact hs) (by rw[aA ((hW.block _ (jC J) aq).trans J)];exact hk)
  have af:Hid _:=λ(_:Unit)=>z;have az:Hid _:=ah;have Hr:Hid _:=jw hr au;have a9:((i0:Int) == -1)=false:=beq_false_of_ne (by omega);clear z hr h I hs J hk an am ac hi ar aj au ah ae ay aq aw av;go_enter (fq Tryz.func105 rfl),Tryz.ntmps105;go_wp2_with (go_at_call 152;refine aK (af.out ()) ?_;rintro e w2 ⟨rfl,m,rfl⟩)
  go_loopg [5,6,7] (os.length-(i0+1)) (λgg v5 v6 _ wx=>∃(i j:Nat)(ys:List Value),v5=.int .i64 i/\v6=.int .i64 j/\gg=os.length-j/\i<j/\j<=os.length/\Hid (lX os (alive nm) ys i j/\Row wx 197 1 (.slice (some ⟨g,off,none⟩) os.length cap) os.length ys/\jJ (λk=>k=g) w wx))
  case atStart=>exact⟨i0,i0+1,_,rfl,by go_num,by omega,by omega,by omega,Hr.out.2,Hr.out.1.kept (λ_ _=>rfl),⟨rfl,rfl,rfl,jA,λ_ _ _=>rfl⟩⟩
  case round=>
   obtain⟨i,j,ys,rfl,rfl,rfl,bd,a2,HI⟩:=hrel;by_cases a4:j<os.length
   ·have a0:(j:Int)<os.length:=by omega
    obtain⟨o,Y⟩:∃o,os[j]? =some o:=⟨_,aG a4⟩
    obtain⟨d1,R,E⟩:=HI.out;have k0:=R.cell rfl j _ (d1.at Y);unfold ptr at k0;have hc:=az.out wr E o (aQ Y);obtain⟨b,hb⟩:∃b,alive nm o=b:=⟨_,rfl⟩
    rw[hb]at hc;have Hc:Hid _:=λ(_:Unit)=>hc;have Ho:Hid _:=jw Y hb;have ab:=R.there (j:=i) (by omega);have ao:=R.frozen rfl;obtain⟨ci,bg⟩:=Option.isSome_iff_exists.1 ab;clear hc Y hb d1 R E ab;cases b
    ·go_wp2_with (go_at_call 106;refine aK (Hc.out ()) ?_;rintro e w2 ⟨rfl,m2,rfl⟩)
     go_roundg (os.length-(j+1))
     case measure=>omega
     case rel=>
      obtain⟨d1,R,E⟩:=HI.out;exact⟨i,j+1,ys,rfl,by go_num,rfl,by omega,by omega,d1.drop Ho.out.1 Ho.out.2,R.kept (λ_ _=>rfl),⟨E.os,E.tape,E.output,E.size,E.block⟩⟩
    ·have a3:(i:Int)<os.length:=by omega
     go_wp2_with (go_at_call 106;refine aK (Hc.out ()) ?_;rintro e w2 ⟨rfl,m2,rfl⟩)
     go_roundg (os.length-(j+1))
     case measure=>omega
     case rel=>
      obtain⟨d1,R,E⟩:=HI.out;refine⟨i+1,j+1,ys.set i (ptr o.blk),by go_num,by go_num,rfl,by omega,by omega,d1.keep Ho.out.1 Ho.out.2,?_,?_⟩
      ·exact(R.kept (w':=wr.drewN m2) (λ_ _=>rfl)).put _
      ·have d4:jJ (λk=>k=g) w (wr.drewN m2):=⟨E.os,E.tape,E.output,E.size,E.block⟩
       exact d4.trans (jJ.set _ g _ _) (λ_ _ e=>e)
   ·have a0:¬(j:Int)<os.length:=by omega
    obtain rfl:j=os.length:=by omega
    obtain⟨d1,R,E⟩:=HI.out;have a3:(i:Int)<=os.length:=by omega
    have ba:(i:Int)<=cap:=by omega
    have bj:(os.length:Int)<=cap:=by omega
    have a7:¬(i=cap):=by omega
    have a1:=λq (hq:q<os.length-i)=>R.there (j:=i+q) (by omega);have ao:=R.frozen rfl
    have ai:∀q,q<os.length-i->(wr.cell? ⟨g,off+i+q,none⟩).isSome=true:=λq hq=>by
     have:=a1 q hq;rw[<-dO]at this;exact this
    have a8:=Lib.run_clear_slice (P:=PQ) wr 131 197 0 (.pointer none) (uq Tryz.underlying131) TT rfl rfl g (off+i) (os.length-i) (cap-i) (by omega) ai (λq _=>ao _);clear d1 R E a1 ai ao;go_wp2_with fail;go_ret;obtain⟨d1,R,E⟩:=HI.out;have ag:=d1.count;rw[iF]at ag;have aa:=d1.all;have ak:=R.cleared (i:=i) (by omega) (List.replicate (os.length-i) (.pointer none));rw[aa]at ak;refine⟨some ⟨g,off,none⟩,i,cap,rfl,ag,ak,rfl,?_⟩;exact(E.trans (.grown (kC g (List.replicate (os.length-i) (.pointer none)) (off+i) wr).1) (λk _ e=>by simpa using e.symm)).mono (λk _ e=>by rw[e];rfl)
end
section
variable {w:World}{vo:Value}{os:List PC}
theorem Ik(m:AL)(k k':Nat):lM (nD m k) k'=if k'=k then none else lM m k':=by
 unfold lM nD;rw[List.find?_filter];by_cases h:k'=k
 ·subst h;rw[if_pos rfl,List.find?_eq_none.2]
  ·rfl
  ·intro p _ e;simp at e
 ·rw[if_neg h]
  congr 1
  congr 1
  funext p;by_cases hp:p.1=k'
  ·have z:(p.1 == k')=true:=by simp[hp]
   have h2:(p.1 != k)=true:=by simp[hp,h]
   rw[z,h2];rfl
  ·have z:(p.1 == k')=false:=beq_false_of_ne hp;rw[z];simp
theorem Chs.del{w':World}{nb:Nat}{nm:AL}(h:Chs w nb vo nm os){k:Nat}(Y:lu w' nb .u32 (nD nm k))(I:jJ (λj=>j=nb) w w'):Chs w' nb vo (nD nm k) os:=by
 refine⟨Y,h.order.jO I (λg E e=>?_),λo z=>(h.chans o z).jO I (kN (h.chans o z).obj h.named) (λb J e=>h.far o z (by rw[J,e])),h.apart,h.maps,h.far,λp hp=>h.entries p (fK.1 hp).1⟩;obtain⟨R,hc⟩:=h.order.obj E;exact kN hc h.named e
theorem FC{nm:AL}{o:PC}(z:alive nm o=true)(hn:(os.map (·.blk)).Nodup)(ho:o∈os){nb:Nat}(h:Chs w nb vo nm os):∀x,x∈os->alive (nD nm o.ch.name) x=(alive nm x&&x.blk != o.blk):=λx hx=>by
 by_cases e:x.ch.name=o.ch.name
 ·have R:alive (nD nm o.ch.name) x=false:=rU (by rw[Ik,if_pos e]);rw[R];rcases h.get (n:=o.ch.name)with E|⟨y,hy,Y,E⟩
  ·rw[rU E]at z;cases z
  ·rw[pF E]at z;have J:y.blk=o.blk:=by simpa using z
   rw[pF (by rw[e];exact E),J];by_cases I:o.blk=x.blk
   ·rw[I];simp
   ·have:(o.blk == x.blk)=false:=beq_false_of_ne I;rw[this];rfl
 ·have R:alive (nD nm o.ch.name) x=alive nm x:=by
   unfold alive;rw[Ik,if_neg e]
  rw[R]
  have:x.blk≠o.blk:=λI=>e (by
   have:=yI hn hx ho I;rw[this])
  simp[this]
end
end Hm
end Go.Proofs.YtpibpdpedjinhaaGreatDoor
