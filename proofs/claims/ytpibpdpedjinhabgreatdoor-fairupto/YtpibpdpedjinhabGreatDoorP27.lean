import Derived.Test.YtpibpdpedjinhabGreatDoorP25
import Derived.Test.YtpibpdpedjinhabGreatDoorP26
import Derived.Lib.SliceRun
set_option maxRecDepth 100000
set_option maxHeartbeats 8000000
set_option linter.all false
open Bool renaming false->aR,true->bB
open Go renaming Calls->eL,Value->aD,World->X,callsIn_wide->iN,heap_alloc_new->cY,results_none->po,undef->aH
open Go.Ending renaming returned->bX
open Go.IntKind renaming i64->aE,u16->mb,u32->dT
open Go.Obj renaming cells->aL
open Go.RowKit renaming Below->cG,Hid->cJ
open Go.Value renaming bool->cM,int->N,pointer->aG,slice->aM,string->bE,tuple->cP
open List renaming filter_congr->oy,filter_filter->ot,filter_nil->o4,getElem?_of_mem->ph
open Option renaming none->Z,some->M
open Or renaming inl->bN,inr->cF
namespace Go.Proofs.YtpibpdpedjinhabGreatDoor
namespace Hm
open Go.RowKit Go.Joins Go.Shelf
open Fr (below_drewN)
open Dv (Ba)
attribute [local go_sem] Oper.semAt_some
variable {xs:List Wd}
def textOf(s:List UInt8):List UInt8:=(Sq.spread s.length s 4096 []).1
def ru(xs:List Wd)(z:List BX):Prop:=xs.map (λx=>Vr x.i)=z.map (λx=>M x.b)
def ru.snoc{xs:List Wd}{z:List BX}(h:ru xs z){x:Wd}{y:BX}(E:Vr x.i=M y.b):ru (xs++[x]) (z++[y]):=by unfold ru at h⊢;rw[bJ,bJ,h];simp[E]
def ru.acr{z:List BX}(h:ru xs z){T:List UInt8}{p:Nat}(E:Im.nJ (Im.read Im.body 8) T (xs.map Wd.i) p):yM T (z.map BX.b) p:=I4 E _ (by
 unfold ru at h;rw[jr,jr];exact h)
def EJ(J:List BX->(Nat->Prop)->X->Prop)(Y:Option Obj)(E R l n0 n1:Nat)(S:ByteArray)(xs:List Wd)(Wc:X):Prop:=∃z F I,EI J Y E R l n0 n1 S Wc z F I/\ru xs z
def EX(J Y:List BX->(Nat->Prop)->X->Prop)(R I:Nat)(c:Code)(xs:List Wd)(Wc:X):Prop:=c=.ret/\((∃E F z xs' x,J E F z/\jI (λk=>F k/\NC z k) z Wc/\(∀k,R<=k->I<=k+2->k<I->(F k/\NC z k)\/z.heap.size<=k)/\xs=xs'++[x]/\ru xs' E/\Vr x.i=Z)\/(∃E F z,Y E F z/\jI (λk=>F k/\NC z k) z Wc/\∀k,R<=k->I<=k+2->k<I->(F k/\NC z k)\/z.heap.size<=k))
def EX.put{J Jx:List BX->(Nat->Prop)->X->Prop}{n0 R:Nat}{c:Code}{Wc:X}(h:EX J Jx n0 R c xs Wc){j:Nat}(o:Obj)(h1:n0<=j)(I:R<=j+2)(h2:j<R):EX J Jx n0 R c xs (Wc.putObj j o):=by
 obtain⟨hc,⟨z,F,Y,xs',x,q1,q2,E,q4⟩|⟨z,F,Y,q1,q2,E⟩⟩:=h
 .exact⟨hc,bN ⟨z,F,Y,xs',x,q1,og q2 (E j h1 I h2) o,E,q4⟩⟩
 .exact⟨hc,cF ⟨z,F,Y,q1,og q2 (E j h1 I h2) o,E⟩⟩
def Ce{B:Nat}{G W:X}(h:cG G.heap.size G W)(z:B+1<G.heap.size):qm B G W:=⟨h.size,h.block B aA,h.block (B+1) z⟩
def Aw(ho:Option Obj)(cB:Nat)(S:ByteArray)(hs:S.size<=4096):Za PQ 81 #[aG (M ⟨cB,0,Z⟩)] BX.encs (Qe ho cB S) (BY (textOf S.data.toList)) (BS (textOf S.data.toList)) (λ_=>True):=by
 intro l J Jx W cc aw bg bq;obtain⟨TB,a2⟩:∃TB:ByteArray,(⟨(Sq.spread S.size S.data.toList 4096 []).1.toArray⟩:ByteArray)=TB:=⟨_,rfl⟩
 obtain⟨az,a6⟩:∃b:Bool,(Sq.spread S.size S.data.toList 4096 []).2=b:=⟨_,rfl⟩
 have hT:textOf S.data.toList=TB.data.toList:=by
  rw[<-a2];unfold textOf;rw[<-bD]
 have cg:TB.size<=4096:=by
  have:=Dv.qy S.size S.data.toList 4096 [] (by simp only[bY];omega);rw[<-a2]
  show(Sq.spread S.size S.data.toList 4096 []).1.toArray.size<=4096
  rw[dR];omega
 rw[hT]at bg⊢;have aj:=λw=>NM S 4096 w aA aA aA;rw[a2,a6]at aj;have bm:cJ _:=aj;have HY:cJ _:=bg;have b0:cJ _:=bq;have bo:=aw.2.2.lt;have b5:=λo=>(((aJ _ W).alloc jB o).cell (p:=⟨cB,0,Z⟩) bo).trans aw.2.2.cell;have a0:=aw.2.1.pos;have HS:cJ _:=aw;clear bg bq aw aj a2 a6 hT;refine iN.2 (iN.1 (callsIn_of_wp_marks (n:=3) (fq Tryz.func81 rfl) rfl trivial ?_ rfl));simp only[Tryz.ntmps81,dR,aU,bY,Nat.reduceAdd,Nat.reduceSub,dH,dG,dU,dI,dS,dN];gi_wp2;refine⟨trivial,(iN.2 (bm.out _)).mono ?_⟩;rintro e w2 ⟨rfl,aq⟩;gi_wp2;refine⟨trivial,(iN.2 (Jb TB w2)).mono ?_⟩;rintro e w3 ⟨rfl,ar⟩;have bs:cG w2.heap.size w2 w3:=by rw[ar];exact((aJ _ w2).alloc jB _).alloc aC _
 have ac:w3.heap.size=w2.heap.size+2:=by rw[ar];simp
 have bj:∀(a b:Obj)(k:Nat),((w2.alloc a).alloc b).heap[k]? =if k=w2.heap.size+1 then M b else if k=w2.heap.size then M a else w2.heap[k]?:=by
  intro a b k;simp only[World.alloc,iy,Array.size_push]
 have c0:w3.cell? ⟨w2.heap.size,0,Z⟩=M (bE TB):=by
  have:w3.heap[w2.heap.size]? =M (aL #[bE TB] 9 (0,0)):=by rw[ar,bj];simp
  rw[aI this];rfl
 have c1:w3.cell? ⟨w2.heap.size+1,0,Z⟩=M (N aE 1):=by
  have:w3.heap[w2.heap.size+1]? =M (aL #[N aE 1] 3 (0,0)):=by rw[ar,bj];simp
  rw[aI this];rfl
 obtain⟨V,hV,bn,bz⟩:=jD W #[.func (.yield l) #[] #[]] 156;have ce:V.heap.size=W.heap.size+1:=by rw[hV];simp
 rw[<-hV]at aq;have a3:=aq.trans (bs.mono aq.size);have cf:=aq.size
 have a8:∀o1 o2,EI J ho cB W.heap.size l W.heap.size (w3.heap.size+2) S ((w3.alloc o1).alloc o2) [] (λ_=>False) W:=λo1 o2=>by
  have z:cG w3.heap.size w3 ((w3.alloc o1).alloc o2):=((aJ _ w3).alloc jB _).alloc aC _;have E:=a3.trans (z.mono aA);have R:=bn.trans (E.mono aA);exact⟨b0.out,.below R jB _,λk h1 _=>cF h1,λk h1 _=>bN aA,⟨(R.block _ a0).trans HS.out.1,HS.out.2.1.below R a0,(R.block _ bo).trans HS.out.2.2⟩,(E.block _ aA).trans bz,aC⟩
 have br:=HS.out.2.1.below (bn.trans (a3.mono aA)) a0;have bb:=Nh 8 (yA 8) TB 1 _ (w2.heap.size+1) w3 aA rfl br aA c0 (by simpa using c1) aA aA;have H0:cJ _:=jy bb (jy a8 a3);clear ar bj hV bz a3 aq bs bn c0 c1 br bb a8 b5;gi_wp2
 refine xK (gf:=140) (lb:=#[aG (M ⟨w2.heap.size,0,Z⟩),aG (M ⟨w2.heap.size+1,0,Z⟩)]) rfl (enters_of (fq Tryz.func140 rfl) XN rfl) H0.out.1 (aJ _ _) (by rintro k (rfl|rfl|rfl)<;>omega) (λaa x lo W W' h hs hx=>XE.turn 8 TB aa x lo W W' h hs hx) (λ_=>rfl)
  (EJ J ho cB W.heap.size l W.heap.size (w3.heap.size+2) S) (EX J Jx W.heap.size (w3.heap.size+2))
  (by
   rintro xs A r o ⟨aa,F,W0,h,hp⟩ hl;have bl:=(jE hl)
   exact⟨aa,F,W0,h.put _ aA aA aA a0 bo aA,hp⟩)
  (by
   rintro c xs A r o h hl;have bl:=(jE hl)
   exact h.put _ aA aA aA)
  (λo1 o2=>⟨[],_,_,H0.out.2.1 o1 o2,rfl⟩)
  (λx B=>{ tmps:=#[.func (.yield l) #[] #[],aG (M ⟨cB,0,Z⟩),aG (M ⟨W.heap.size,0,Z⟩),bE TB,.bool az,aH,aG (M ⟨B,0,Z⟩),aH,aH,cP #[bE TB,.bool az],bE S,cP #[bE TB,.bool az],bE TB,.bool az,bE TB,.func (.func 140) #[] #[aG (M ⟨w2.heap.size,0,Z⟩),aG (M ⟨w2.heap.size+1,0,Z⟩)],N aE x.e,.agg #[.bool x.i.list,bE ⟨x.i.bytes.toArray⟩,.slice x.a x.i.kids.length x.cap],aH,aH,aH,aH,aH,aH,aH,aH,aH,aH,aH,aH,aH],defers:=[] })
  (λx=>aL #[.bool x.i.list,bE ⟨x.i.bytes.toArray⟩,.slice x.a x.i.kids.length x.cap] 164) ?assign ?body ?done ?stop
 case assign=>
  intro l x W K hK;simp only[Wd.encs];gi_wp2;exact hK
 case body=>
  rintro lp xs x bp W1 ci ca bd a7 ⟨aa,F,W0,hI,hP⟩ hb ⟨⟨cb,b1⟩,p,ai⟩;have af:=hI.below hb
  have a9:∀k,w3.heap.size+2<=k+2->k<w3.heap.size+2->NC W1 k:=λk h1 h2=>by
   obtain rfl|rfl:=(show k=w3.heap.size\/k=w3.heap.size+1 by omega)
   .exact bd
   .exact a7
  have cd:x.i.bytes.length<=4096:=by
   rw[bJ]at ai;obtain⟨p',n,_,_,h3⟩:=Gw ai;have:=Cj h3;rw[dW,<-bD]at this;omega
  obtain⟨IB,bu⟩:∃IB:ByteArray,(⟨x.i.bytes.toArray⟩:ByteArray)=IB:=⟨_,rfl⟩
  obtain⟨G,hG,gb,-⟩:=jD W1 #[.bool x.i.list,bE ⟨x.i.bytes.toArray⟩,.slice x.a x.i.kids.length x.cap] 164;rw[<-hG];have gs:G.heap.size=W1.heap.size+1:=by rw[hG];simp
  have gk:G.heap[W1.heap.size]? =M (aL #[.bool x.i.list,bE IB,.slice x.a x.i.kids.length x.cap] 164 (0,0)):=by rw[hG,<-bu];exact cY _ _
  obtain⟨k0,k1,k2⟩:=cells3 gk;have I:=af.below gb;have ah:∀k,w3.heap.size+2<=k+2->k<w3.heap.size+2->NC G k:=λk h1 h2 cs t fz e=>a9 k h1 h2 cs t fz (by rw[<-gb.block k (by have:=af.big;omega)];exact e);have av:=Nw x.i (.slice x.a x.i.kids.length x.cap) G ⟨_,_,_,rfl⟩ aA I.st.2.1;rw[bu]at av⊢;have ba:cJ _:=λ(_:Unit)=>av;have HI:cJ _:=jy I (jy hP (jy ai (jy hb (jy gb (jy gs ah)))));have b6:W.heap.size<G.heap.size:=by have:=I.big;omega
  have b8:=I.big;have bh:=kJ I.box;clear hI af hP ai hb gb gk hG b1 I av a9 ah bd a7;generalize a1:Vr x.i=q;cases q with
  |none=>
   gi_wp2;refine⟨trivial,(CallsIn.inRound _ (iN.2 (ba.out ()))).mono ?_⟩;rintro e w4 ⟨ak,z⟩;rw[a1]at ak;have ak:e=_:=ak;subst ak;gi_wp2;refine⟨(λ_ h=>by cases h),?_⟩;gi_wp2;obtain⟨I,hP,ai,hb,gb,gs,ah⟩:=HI.out;have E:=z.trans (((aJ _ w4).alloc jB (aL #[N aE 0,N aE 0,N aE 0,aM Z 0 0,N aE 0] 118)).mono z.size);have Y:=I.below E;exact⟨Ce E aA,rfl,bN ⟨aa,F,W0,xs,x,Y.j,Y.jM,λk h0 h1 h2=>Y.free h0 h1 h2,rfl,hP,a1⟩⟩
  |some b=>
   gi_wp2;refine⟨trivial,(CallsIn.inRound _ (iN.2 (ba.out ()))).mono ?_⟩;rintro e w4 ⟨ak,z⟩;rw[a1]at ak;obtain⟨a4,au,rfl,bk,bv⟩:=ak;unfold P9;have b9:=λo=>((z.trans (((aJ _ w4).alloc jB o).mono z.size)).cell (p:=⟨W.heap.size,0,Z⟩) b6).trans bh;obtain⟨X5,b3,E,-⟩:=jD w4 #[N aE b.epoch,N aE b.id,N aE b.time,.slice a4 b.txs.length au,N aE b.place] 118;obtain⟨I,hP,ai,hb,gb,gs,ah⟩:=HI.out;have Y:=I.below (z.trans (E.mono z.size));have ao:ru (xs++[x]) (aa++[⟨b,a4,au⟩]):=hP.snoc a1;obtain⟨fn,tmps,assign,body,b7,hR⟩:=HY.out aa _ F W0 X5 Y.j Y.jM ⟨⟨Row.below bk.1 E,λg hg=>bH (bH I.jM.size aA) (bk.2 g hg)⟩,bv,p,ao.acr ai⟩;simp only[BX.encs]at b7;have HR:cJ _:=hR;have ag:∀k,w3.heap.size+2<=k+2->k<w3.heap.size+2->NC X5 k:=λk h1 h2 cs t fz e=>ah k h1 h2 cs t fz (by rw[<-(z.trans (E.mono z.size)).block k aA];exact e);have H5:cJ _:=jy Y (jy ao (jy z (jy E ag)));clear hR Y ao I hP ai hb gb bk bv E ag ah;subst b3;gi_wp2;refine RoundIn.mono (Jl HR.out) ?_;rintro e W3 (⟨rfl,a5,ac,ap,ae⟩|⟨rfl,an,ac,ae⟩)
   .have H3:cJ _:=jy a5 (jy ac (jy ap ae));clear a5 ac ap ae;gi_wp2;obtain⟨a5,ac,ap,ae⟩:=H3.out;obtain⟨Y,ao,z,E,ag⟩:=H5.out;have I:=HI.out.1;have R:=z.trans (E.mono z.size);obtain⟨b4,ay⟩:=Y.next a5 ac ap ae jB aA aA ag;refine⟨⟨bH R.size ac,(ay _ aA aA).trans (R.block _ aA),(ay _ aA aA).trans (R.block _ aA)⟩,?_,_,_,_,b4,ao⟩;rintro k (rfl|rfl|rfl)
    .exact ap.1.trans I.st.1.symm
    .exact(ay _ aA aA).trans (R.block _ aA)
    .exact(ay _ aA aA).trans (R.block _ aA)
   .have H3:cJ _:=jy an (jy ac ae);clear an ac ae;gi_wp2;obtain⟨an,ac,ae⟩:=H3.out;obtain⟨Y,ao,z,E,ag⟩:=H5.out;have R:=z.trans (E.mono z.size)
    have ha:∀k,W.heap.size<=k->k<w3.heap.size+2->wS F W0 (w4.alloc (aL #[N aE b.epoch,N aE b.id,N aE b.time,.slice a4 b.txs.length au,N aE b.place] 118)) k:=λk h1 h2=>by
     have:=Y.big;obtain q|q:=Y.own k h1 h2
     .exact bN q
     .exact cF ⟨q,aA⟩
    exact⟨⟨bH R.size ac,(ae _ (ha _ aA aA)).trans (R.block _ aA),(ae _ (ha _ aA aA)).trans (R.block _ aA)⟩,rfl,cF ⟨_,_,W3,an,jI.refl _ _,λk h0 h1 h2=>bN ⟨ha k h0 h2,λcs t fz e=>ag k h1 h2 cs t fz (by rw[<-ae k (ha k h0 h2)];exact e)⟩⟩⟩
 case done=>
  rintro D xs bp bw hD bl ⟨p,he,b2,am⟩ ⟨aa,F,W0,hI,hP⟩ hb hK;have af:=hI.below hb;have HF:cJ _:=jy af (jy hP (jy he am));clear hI af hP he am hb;gi_wp2;refine⟨aC,bN ⟨_,_,rfl,run_takeDeferred hK,?_⟩⟩;obtain⟨af,hP,he,am⟩:=HF.out;refine⟨_,po rfl _ _ _,⟨_,rfl⟩,bN ⟨aa,F,W0,⟨p,hP.acr he,?_⟩,af.j,og af.jM (af.free (j:=D) aA aA aA) _⟩⟩;obtain h|⟨_,h⟩:=am
  .exact bN (by rw[<-bD];exact h)
  .exact cF (bN h)
 case stop=>
  rintro D c xs bp bw hD bl ⟨p,he,b2⟩ ⟨rfl,hx⟩ hb hK;have HF:cJ _:=jy hx (jy he hb);clear hx he hb;gi_wp2;refine⟨aC,bN ⟨_,_,rfl,run_takeDeferred hK,?_⟩⟩;obtain⟨hx,he,hb⟩:=HF.out;refine⟨_,po rfl _ _ _,⟨_,rfl⟩,?_⟩;obtain⟨aa,F,W0,xs',x,q1,q2,q3,rfl,q5,q6⟩|⟨aa,F,W0,q1,q2,q3⟩:=hx
  .rw[bJ]at he;obtain⟨p',n,e1,e2,e3⟩:=Gw he;exact bN ⟨aa,F,W0,⟨p',q5.acr e1,cF (cF ⟨_,_,e3,q6⟩)⟩,q1,og (q2.trans (.below hb jB _) (λ_ _ e=>e)) (q3 D aA aA aA) _⟩
  .exact cF ⟨aa,F,W0,trivial,q1,og (q2.trans (.below hb jB _) (λ_ _ e=>e)) (q3 D aA aA aA) _⟩
end Hm
namespace Hm
open Go.RowKit Go.Joins
open Dv (Ch Fine)
open Fr (F below_drewN)
def Chs.more{w w3 w5:X}{nb:Nat}{vo ak:aD}{nm:AL}{os:List PC}{o':PC}(h:Chs w nb vo nm os)(ai:lS w3 nb dT (vG nm o'.ch.name (ptr o'.blk)))(ao:jI (λk=>k=nb) w w3)(an:ChanAt w3 o')(ah:w.heap.size<=o'.blk)(R:∀b,o'.fm=M b->w.heap.size<=b)(am:Row w5 136 1 ak (os.length+1) ((os.map λo=>ptr o.blk)++[ptr o'.blk]))(ag:jI (λk=>vo.ownBlock=M k) w3 w5):Chs w5 nb ak (vG nm o'.ch.name (ptr o'.blk)) (os++[o']):=by
 have ac:∀k,vo.ownBlock=M k->k≠nb:=λk hk e=>by
  obtain⟨aj,hc⟩:=h.order.obj hk;exact lg hc h.named e
 have ae:∀o,o∈os->vo.ownBlock≠M o.blk:=λo z hk=>by
  obtain⟨aj,hc⟩:=h.order.obj hk;have:=(h.chans o z).obj;unfold vW at this;rw[hc]at this;simp at this
 have Y:∀o,o∈os->∀b,o.fm=M b->vo.ownBlock≠M b:=λo z b E hk=>by
  obtain⟨aj,hc⟩:=h.order.obj hk;cases hs:o.ch.spoilt
  .obtain⟨⟨B,e,hm⟩,_⟩:=(h.chans o z).sound hs;rw[e]at E;cases E;exact lg hc hm rfl
  .rw[((h.chans o z).spoilt hs).2]at E;cases E
 have af:=λo z=>lg (h.chans o z).obj h.named;have aa:=λo z=>(dY.1 (h.chans o z).obj).1;have J:∀o,o∈os->∀b,o.fm=M b->b<w.heap.size:=λo z b E=>h.qZ (cF (cF ⟨o,z,cF E⟩));have I:∀k,w.heap.size<=k->vo.ownBlock≠M k:=λk hk e=>by have:=h.order.lt e;omega
 refine⟨ai.of_block (ag.block _ ai.lt (λe=>ac _ e rfl)),?_,?_,?_,?_,?_,?_⟩
 .rw[aS,bJ];exact am
 .intro o z;obtain z|z:=dM.1 z
  .exact((h.chans o z).jM ao (af o z) (λb E e=>h.far o z (by rw[E,e]))).jM ag (ae o z) (Y o z)
  .rw[dK.1 z];exact an.jM ag (I _ ah) (λb E=>I _ (R b E))
 .rw[bJ];refine List.nodup_append.2 ⟨h.apart,aC,λa ha b E e=>?_⟩;obtain⟨o,z,rfl⟩:=bM.1 ha;simp at E;have:=aa o z;omega
 .intro a b ha E x h1 h2;rcases dM.1 ha with ha|ha<;>obtain E|E:=dM.1 E
  .exact h.maps a b ha E x h1 h2
  .rw[dK.1 E]at h2;have:=R x h2;have:=J a ha x h1;omega
  .rw[dK.1 ha]at h1;have:=R x h1;have:=J b E x h2;omega
  .rw[dK.1 ha,dK.1 E]
 .intro o z e;obtain z|z:=dM.1 z
  .exact h.far o z e
  .rw[dK.1 z]at e;have:=R _ e;have:=h.named.lt;omega
 .intro p hp;unfold vG at hp;split at hp
  .obtain⟨q,hq,e⟩:=bM.1 hp;by_cases hk:q.1=o'.ch.name
   .rw[ZD hk]at e;exact⟨o',aC,e.symm⟩
   .rw[Zs hk]at e;obtain⟨o,z,e'⟩:=h.entries q hq;exact⟨o,by simp[z],by rw[<-e,e']⟩
  .obtain hp|hp:=dM.1 hp
   .obtain⟨o,z,e'⟩:=h.entries p hp;exact⟨o,by simp[z],e'⟩
   .exact⟨o',aC,dK.1 hp⟩
def XW:(PQ.info? 136).map (λi=>(i.zero,i.size,i.bytes))=M (M (aG Z),1,8):=XN
def open_any(kb nb:Nat)(cs:Array aD)(vo:aD)(nm:AL)(os:List PC)(name n:Nat)(w:X)(hk:w.heap[kb]? =M (aL cs 100 (0,0)))(h8:cs[8]? =M (.map (M nb)))(h9:cs[9]? =M vo)(h:Chs w nb vo nm os)(a9:os.length<=4294967296):eL PQ 75 #[aG (M ⟨kb,8,Z⟩),N dT name,N aE n] w λe w'=>e=bX (cP #[])/\∃(ar:aD)(o':PC),w'.heap[kb]? =M (aL (cs.setIfInBounds 9 ar) 100 (0,0))/\o'.ch=⟨name,n,[],aR⟩/\Chs w' nb ar (vG nm name (ptr o'.blk)) (os++[o'])/\w.heap.size<=o'.blk/\(∀b,o'.fm=M b->w.heap.size<=b)/\(∀k,ar.ownBlock=M k->vo.ownBlock=M k\/w.heap.size<=k)/\jI (λk=>k=kb\/k=nb\/vo.ownBlock=M k) w w':=by
 obtain⟨W2,ac⟩:∃W2,W2=(w.alloc (.map #[] 0)).alloc (aL #[N dT name,N aE n,.map (M w.heap.size),N aE 0,cM aR,N mb 0,cM aR] 140):=⟨_,rfl⟩
 have aa:cG w.heap.size w W2:=by rw[ac];exact((aJ _ w).alloc jB _).alloc aC _
 have ap:W2.heap.size=w.heap.size+2:=by rw[ac];simp
 have aw:lS W2 w.heap.size mb (uj []):=by
  rw[ac];exact(lS.made w _).of_block (aZ _ _ _ aC)
 have a0:W2.heap[w.heap.size+1]? =M (vW ⟨w.heap.size+1,M w.heap.size,⟨name,n,[],aR⟩,0,aR,0⟩):=by
  rw[ac];have:=cY (w.alloc (.map #[] 0)) (aL #[N dT name,N aE n,.map (M w.heap.size),N aE 0,cM aR,N mb 0,cM aR] 140);simp only[fB]at this;exact this
 have ay:ChanAt W2 ⟨w.heap.size+1,M w.heap.size,⟨name,n,[],aR⟩,0,aR,0⟩:=⟨a0,Dv.Kz,λx hx=>by simp at hx,aC,λ_=>⟨⟨_,rfl,aw⟩,by simp[Dv.size],by simp[Dv.size],by simp[Dv.last],by simp[Dv.last]⟩,λh=>by simp at h⟩
 have J:=h.below aa;have Y:W2.heap[kb]? =_:=(aa.block _ (jE hk)).trans hk;obtain⟨w3,af,aj,aq,an⟩:=J.named.update (P:=PQ) (uq Tryz.underlying93) (uq Tryz.underlying22) name (ptr (w.heap.size+1));have a6:=lg hk h.named;have e8:W2.cell? ⟨kb,8,Z⟩=M (.map (M nb)):=by rw[aI Y];exact h8
 have ah:w3.heap[kb]? =_:=(aq.block _ (jE Y) (by simp[a6])).trans Y;have e9:w3.cell? ⟨kb,9,Z⟩=M vo:=by rw[aI ah];exact h9
 have z:jI (λk=>k=nb) W2 w3:=(jI.grown aq).mono (λk _ e=>by simpa using e.symm);have ai:=ay.jM z (by have:=h.named.lt;dsimp only;omega) (λb hb=>by cases hb;have:=h.named.lt;omega);obtain⟨a,cap,rfl⟩:=h.order.slice;unfold ptr at af
 have ae:=λobj=>(J.order.jM z (λg hg e=>by
  obtain⟨a7,hc⟩:=J.order.obj hg;exact lg hc J.named e)).below ((aJ _ w3).alloc jB obj)
 have ag:cJ _:=ae;have H:cJ _:=jy ah (jy J (jy aj (jy z (jy ai (jy ap (jy aa (jy an (jy hk h))))))));obtain⟨i0,a4,au,a5,a2⟩:=info_parts XW;have Hi:cJ _:=jy a4 (jy au (jy a5 a2));have az:=(jE ah)
 clear hk h aa aw a0 ay J Y aj aq an ah z ai ae ap a4 au a5 a2 h8;go_enter (fq Tryz.func75 rfl),Tryz.ntmps75;have bd:=@run_makeMap PQ;go_upto_region 1 with fail;rw[<-ac];clear ac;go_upto_region 2 with fail;clear e8 af;go_wp2_with (first|(at_builtin;refine kX _ rfl (.tmp 22) (.tmp 24) 94 rfl 136 i0 _ 1 8 (uq Tryz.underlying94) Hi.out.1 Hi.out.2.1 Hi.out.2.2.1 Hi.out.2.2.2 rfl aB _ _ _ rfl (ag.out _) _ 1 1 [aG (M ⟨w.heap.size+1,0,Z⟩)] rfl aB rfl (by intro j u hj;match j,hj with|0,hj=>(simp at hj;subst hj;simp[Addr.add])) (by intro u hu;simp at hu;subst hu;rfl) (by unfold maxLen;omega) aA ?_;intro g off av w5 I E;have R:=(E.keep (ag.out _) ((aZ _ _ _ az).trans H.out.1) aB);have c9:w5.cell? ⟨kb,9,Z⟩=M (.slice a os.length cap):=(by rw[aI R];exact h9);have bb:=aQ R;have a8:cJ _:=jy I (jy E R);clear I E R)|go_in)
 go_end0;obtain⟨I,E,R⟩:=a8.out;obtain⟨ah,J,aj,z,ai,ap,aa,an,hk,h⟩:=H.out;have ak:jI (λk=>(aM a os.length cap).ownBlock=M k) w3 w5:=(jI.alloc _ w3 _).trans E.jM (λ_ _ e=>e)
 have ba:(aM a os.length cap).ownBlock≠M kb:=λe=>by
  obtain⟨a7,hc⟩:=h.order.obj e;rw[hk]at hc;simp at hc
 have a1:=(jI.below aa jB _).trans z (λ_ _ e=>e);have a3:=h.more (o':=⟨_,_,_,0,aR,0⟩) aj a1 ai (by dsimp only;omega) (λb hb=>by cases hb;exact jB) I ak;have am:=jI.set w5 kb 9 (aM (M ⟨g,off,Z⟩) (os.length+1) av);refine⟨rfl,_,_,jX R 9 _,rfl,a3.jM am (λk ao e=>?_),by dsimp only;omega,λb hb=>by cases hb;exact jB,λk ao=>?_,?_⟩
 .subst e;exact a3.lK R aB aB ao
 .have Y:M g=M k:=ao;cases Y;obtain e|e:=E.own
  .exact bN e
  .right;simp at e;omega
 .exact((a1.mono (M':=λk=>k=kb\/k=nb\/(aM a _ cap).ownBlock=M k) (λk _ e=>cF (bN e))).trans ak (λk _ e=>cF (cF e))).trans am (λk _ e=>bN e)
section
variable {w:X}{nb:Nat}{vo:aD}{nm:AL}{os:List PC}{o o'':PC}{most:Int}{f:F}
def opened(n:Nat)(f:F)(cs:List Ch):List Ch:=if f.num=0 then cs.filter (λc=>c.name != f.chan)++[⟨f.chan,n,[],aR⟩]else cs
def qW(most:Int)(f:F)(c:Ch):Ch:=if c.name=f.chan then Dv.joined most c f else c
def UY(most:Int)(n:Nat)(cs:List Ch)(f:F):Dv.frame most n cs f=(opened n f cs).map (qW most f):=by
 unfold Dv.frame opened;by_cases h:f.num=0
 .rw[ZD h,ZD h,bJ]
  congr 1
  .symm;rw[ji (g:=id),List.map_id];intro c hc;have:=(fU.1 hc).2;simp only[bne_iff_ne,ne_eq]at this;unfold qW;rw[Zs this];rfl
  .simp[qW]
 .rw[Zs h,Zs h];rfl
def Kq(m:AL)(k k':Nat)(v:aD):l9 (vG m k v) k'=if k'=k then M v else l9 m k':=by
 unfold l9 vG;split
 .rename_i h
  induction m with
  |nil=>simp at h
  |cons p m ih=>
   rw[eP,List.find?_cons,List.find?_cons];by_cases hp:p.1=k
   .rw[ZD hp];by_cases hk:k'=k
    .subst hk;simp
    .have E:=ZS (λe=>hk e.symm);have h2:(p.1 == k')=aR:=ZS (λe=>hk (by rw[<-e,hp]));simp only[E,h2];by_cases I:k∈m.map Prod.fst
     .exact ih I
     .have:m.map (λp=>if p.1=k then(k,v)else p)=m:=by
       rw[ji (g:=id),List.map_id];intro q J;rw[Zs (λ(e:q.1=k)=>I (e ▸ bM.2 ⟨q,J,rfl⟩))];rfl
      rw[this,Zs hk]
   .rw[Zs hp]
    have I:k∈m.map Prod.fst:=by
     obtain e|e:=dD.1 h
     .exact(hp e.symm).elim
     .exact e
    by_cases z:p.1=k'
    .have E:(p.1 == k')=bB:=by simp[z]
     simp only[E];rw[Zs (λe=>hp (by rw[z,e]))]
    .have E:=ZS z;simp only[E];exact ih I
 .rename_i h;rw[List.find?_append];by_cases hk:k'=k
  .subst hk
   have:m.find? (λp=>p.1 == k')=Z:=by
    rw[List.find?_eq_none];intro q J e;simp only[YY]at e;exact h (e ▸ bM.2 ⟨q,J,rfl⟩)
   rw[this];simp
  .rw[Zs hk];cases m.find? (λp=>p.1 == k')with
   |some p=>rfl
   |none=>
    have E:=ZS (λe=>hk e.symm);simp[E]
def Qj(h:Chs w nb vo nm os){o':PC}(z:w.heap.size<=o'.blk):lives (vG nm o'.ch.name (ptr o'.blk)) (os++[o'])=(lives nm os).filter (λc=>c.name != o'.ch.name)++[o'.ch]:=by
 unfold lives;rw[iG,bJ]
 congr 1
 .rw[List.filter_map,ot]
  congr 1
  refine oy (λo I=>?_);have E:=(dY.1 (h.chans o I).obj).1;unfold alive;rw[Kq];by_cases e:o.ch.name=o'.ch.name
  .rw[ZD e];have J:(o'.blk == o.blk)=aR:=ZS aA;have h2:(o.ch.name != o'.ch.name)=aR:=by simp[e]
   show(o'.blk == o.blk)=((o.ch.name != o'.ch.name)&&_)
   rw[J,h2,Bool.false_and]
  .rw[Zs e];have h2:(o.ch.name != o'.ch.name)=bB:=by simp[e]
   show _=((o.ch.name != o'.ch.name)&&_)
   rw[h2,Bool.true_and]
 .have:alive (vG nm o'.ch.name (ptr o'.blk)) o'=bB:=by
   unfold alive;rw[Kq,ZD rfl];simp[ptr]
  rw[eG,ZD this];rfl
def yQ(Y:(os.map (·.blk)).Nodup){x:PC}(J:x∈os)(R:o∈os)(e:x.blk=o.blk):x=o:=by
 induction os with
 |nil=>simp at J
 |cons y os ih=>
  have z:=iE.1 (by simpa using Y:(y.blk::os.map (·.blk)).Nodup);rcases dD.1 J with rfl|I<;>obtain rfl|E:=dD.1 R
  .rfl
  .exact(z.1 (e ▸ bM.2 ⟨o,E,rfl⟩)).elim
  .exact(z.1 (e ▸ bM.2 ⟨x,I,rfl⟩)).elim
  .exact ih z.2 I E
def swap(o'':PC)(x:PC):PC:=if x.blk=o''.blk then o'' else x
def uz(o'' x:PC):(swap o'' x).blk=x.blk:=by
 unfold swap;split
 .rename_i h;exact h.symm
 .rfl
def Chs.swap{w':X}(h:Chs w nb vo nm os)(R:o∈os)(hb:o''.blk=o.blk)(ah:o''.ch.name=o.ch.name)(af:o''.fm=o.fm\/o''.fm=Z)(hc:ChanAt w' o'')(hg:jI (λk=>k=o.blk\/o.fm=M k) w w'):Chs w' nb vo nm (os.map (swap o'')):=by
 have inj:∀x,x∈os->x.blk=o.blk->x=o:=λx E e=>yQ h.apart E R e
 have z:∀x,x∈os->∀b,(Hm.swap o'' x).fm=M b->x.fm=M b:=λx E b e=>by
  unfold Hm.swap at e;split at e
  .rename_i aa;rw[inj x E (aa.trans hb)];obtain h1|h1:=af
   .rw[<-h1];exact e
   .rw[h1]at e;cases e
  .exact e
 refine⟨h.named.of_block (hg.block _ h.named.lt (λe=>?_)),?_,?_,?_,?_,?_,?_⟩
 .obtain e|e:=e
  .exact lg (h.chans o R).obj h.named e.symm
  .exact h.far o R e
 .rw[bC,jr]
  have:((λo:PC=>ptr o.blk)∘Hm.swap o'')=λo=>ptr o.blk:=by
   funext x;simp only[Function.comp,uz]
  rw[this];refine h.order.jM hg (λg ag e=>?_);obtain⟨ai,Y⟩:=h.order.obj ag;obtain rfl|e:=e
  .have:=(h.chans o R).obj;unfold vW at this;rw[Y]at this;simp at this
  .cases hs:o.ch.spoilt
   .obtain⟨⟨B,e',hm⟩,_⟩:=(h.chans o R).sound hs;rw[e']at e;cases e;exact lg Y hm rfl
   .rw[((h.chans o R).spoilt hs).2]at e;cases e
 .intro y hy;obtain⟨x,E,rfl⟩:=bM.1 hy;unfold Hm.swap;split
  .exact hc
  .rename_i ac;refine(h.chans x E).jM hg (λe=>?_) (λb I e=>?_)
   .obtain e|e:=e
    .exact ac (e.trans hb.symm)
    .cases hs:o.ch.spoilt
     .obtain⟨⟨B,e',hm⟩,_⟩:=(h.chans o R).sound hs;rw[e']at e;cases e;exact lg (h.chans x E).obj hm rfl
     .rw[((h.chans o R).spoilt hs).2]at e;cases e
   .obtain e|e:=e
    .subst e;cases hs:x.ch.spoilt
     .obtain⟨⟨B,e',hm⟩,_⟩:=(h.chans x E).sound hs;rw[e']at I;cases I;exact lg (h.chans o R).obj hm rfl
     .rw[((h.chans x E).spoilt hs).2]at I;cases I
    .exact ac ((h.maps x o E R b I e).trans hb.symm)
 .rw[jr]
  have:((λo:PC=>o.blk)∘Hm.swap o'')=λo=>o.blk:=by
   funext x;simp only[Function.comp,uz]
  rw[this];exact h.apart
 .intro x y E hy b h1 h2;obtain⟨x0,J,rfl⟩:=bM.1 E;obtain⟨y0,ae,rfl⟩:=bM.1 hy;rw[uz,uz];exact h.maps x0 y0 J ae b (z x0 J b h1) (z y0 ae b h2)
 .intro x E e;obtain⟨x0,J,rfl⟩:=bM.1 E;exact h.far x0 J (z x0 J nb e)
 .intro p hp;obtain⟨x,E,rfl⟩:=h.entries p hp;refine⟨_,bM.2 ⟨x,E,rfl⟩,?_⟩;rw[uz];unfold Hm.swap;split
  .rename_i aa;rw[inj x E (aa.trans hb),ah]
  .rfl
def VF(I:o∈os)(R:o''.blk=o.blk)(z:o''.fm=o.fm\/o''.fm=Z){k:Nat}(hk:Own nb vo (os.map (swap o'')) k):Own nb vo os k:=by
 obtain e|e|⟨y,J,e⟩:=hk
 .exact bN e
 .exact cF (bN e)
 .obtain⟨x,Y,rfl⟩:=bM.1 J;unfold swap at e;split at e
  .refine cF (cF ⟨o,I,?_⟩);obtain e|e:=e
   .exact bN (e.trans R)
   .obtain E|E:=z
    .exact cF (by rw[<-E];exact e)
    .rw[E]at e;cases e
  .exact cF (cF ⟨x,Y,e⟩)
def Eb(h:Chs w nb vo nm os)(ho:o∈os)(J:o''.blk=o.blk)(I:o''.ch=Dv.joined most o.ch f)(R:o.ch.name=f.chan)(hg:l9 nm f.chan=M (ptr o.blk)):lives nm (os.map (swap o''))=(lives nm os).map (qW most f):=by
 have jn:(Dv.joined most o.ch f).name=o.ch.name:=by
  unfold Dv.joined;split
  .rfl
  .split<;>rfl
 have inj:∀x,x∈os->x.blk=o.blk->x=o:=λx z e=>yQ h.apart z ho e;unfold lives;rw[List.filter_map,jr,jr]
 have Y:∀x,x∈os->(alive nm∘swap o'') x=alive nm x:=λx z=>by
  simp only[Function.comp];unfold swap;split
  .rename_i e;rw[inj x z (e.trans J)];unfold alive;rw[I,jn,J]
  .rfl
 rw[oy Y];refine ji (λx z=>?_);obtain⟨z,E⟩:=fU.1 z;simp only[Function.comp];unfold swap qW;by_cases e:x.blk=o.blk
 .rw[ZD (e.trans J.symm),inj x z e,ZD R,I]
 .rw[Zs (λe'=>e (e'.trans J)),Zs];intro e';have:alive nm x=(o.blk == x.blk):=pX (by rw[e'];exact hg);rw[this]at E;simp only[YY]at E;exact e E.symm
def ND(E:l9 nm f.chan=Z):(lives nm os).map (qW most f)=lives nm os:=by
 rw[ji (g:=id),List.map_id];intro c hc;unfold lives at hc;obtain⟨x,I,rfl⟩:=bM.1 hc;have z:=(fU.1 I).2;unfold qW;rw[Zs]
 .rfl
 .intro e;rw[sH (by rw[e];exact E)]at z;cases z
def Ih(h:Chs w nb vo nm os)(E:o∈os)(R:Dv.oM o.ch f=bB)(z:o.ch.name=f.chan)(J:l9 nm f.chan=M (ptr o.blk)):(lives nm os).map (qW most f)=lives nm os:=by
 have I:Dv.joined most o.ch f=o.ch:=by unfold Dv.joined;rw[ZD R]
 rw[<-Eb h E (o'':=o) rfl I.symm z J]
 congr 1
 rw[ji (g:=id),List.map_id];intro x Y;unfold swap;split
 .rename_i e;exact(yQ h.apart Y E e).symm
 .rfl
end
def afI:PQ.underlying 136=M (.pointer (PQ.pointee 136)):=XN
def TW(w:X):(binOp .neq 136 (aG Z) (aG Z)).run PQ w=.ok (cM aR) w:=run_neq_pointer_nil w _ Z afI
def Vb(w:X)(b:Nat):(binOp .neq 136 (aG (M ⟨b,0,Z⟩)) (aG Z)).run PQ w=.ok (cM bB) w:=run_neq_pointer_nil w _ (M _) afI
def MR(most:Int)(c:Ch)(f:F):(Dv.joined most c f).name=c.name:=by
 unfold Dv.joined;split
 .rfl
 .split<;>rfl
structure BD(kb nb:Nat)(cs:Array aD)(vo:aD)(os:List PC)(w:X)(vo':aD)(nm':AL)(os':List PC)(w':X):Prop where
 obj:w'.heap[kb]? =M (aL (cs.setIfInBounds 9 vo') 100 (0,0))
 chs:Chs w' nb vo' nm' os'
 jM:jI (λk=>k=kb\/Own nb vo os k) w w'
 own:∀k,Own nb vo' os' k->Own nb vo os k\/w.heap.size<=k
 len:os'.length<=os.length+1
def take_any(kb nb:Nat)(cs:Array aD)(vo:aD)(nm:AL)(os:List PC)(f:F)(n:Nat)(most:Int)(w:X)(hk:w.heap[kb]? =M (aL cs 100 (0,0)))(h8:cs[8]? =M (.map (M nb)))(h9:cs[9]? =M vo)(h:Chs w nb vo nm os)(ba:os.length<=4294967295)(hf:f.num<65536/\f.data.length<=65536)(ah:0<=most/\most<=4294967296):eL PQ 51 #[aG (M ⟨kb,8,Z⟩),Jw f,N aE n,N aE most] w λe w'=>e=bX (cP #[])/\∃av a2 a0,BD kb nb cs vo os w av a2 a0 w'/\lives a2 a0=Dv.frame most n (lives nm os) f:=by
 rw[UY];obtain⟨fc,fn,fd,ak⟩:=f;unfold Jw;dsimp only at *;obtain⟨D,hD⟩:∃D:ByteArray,(⟨fd.toArray⟩:ByteArray)=D:=⟨_,rfl⟩
 rw[hD];obtain⟨W,hW,J,zo⟩:=jD w #[N dT fc,N mb fn,bE D,.bool ak] 109;have a4:w.heap.size<W.heap.size:=by rw[hW];simp
 obtain⟨z0,z1⟩:=cells2 zo;have af:W.heap[kb]? =_:=(J.block _ (jE hk)).trans hk;have aa:=h.below J;have ao:=open_any kb nb cs vo nm os fc n W af h8 h9 aa aA;have ay:cJ _:=λ(_:Unit)=>ao;have a8:=(jE hk)
 have H:cJ _:=jy hk (jy h8 (jy h9 (jy h (jy J (jy zo (jy af (jy aa (jy hf (jy ah hD)))))))));clear hk h8 h9 h J zo af aa ao hf ah hD;go_enter (fq Tryz.func51 rfl),Tryz.ntmps51;go_upto_if 11 with fail;rw[<-hW];clear hW;go_cut [16] (λ_ wx=>cJ (∃ai aj am,BD kb nb cs vo os w ai aj am wx/\lives aj am=opened n ⟨fc,fn,fd,ak⟩ (lives nm os)/\wx.heap[w.heap.size]? =M (aL #[N dT fc,N mb fn,bE D,.bool ak] 109 (0,0))))
 case first=>
  by_cases h0:fn=0
  .have h1:((fn:Int) == 0)=bB:=by rw[h0];rfl
   have H0:cJ _:=h0;rw[h1];clear h1 h0;go_wp2_with (go_at_call 75;refine aT (ay.out ()) ?_;rintro e w2 ⟨rfl,av,o',q1,q2,q3,q4,q5,q6,q7⟩)
   go_meet;obtain⟨hk,h8,h9,h,J,zo,af,aa,hf,ah,hD⟩:=H.out;have bg:=J.size
   have a1:jI (λk=>k=kb\/Own nb vo os k) w w2:=(jI.below J jB _).trans q7 (λk _ e=>by
    obtain e|e|e:=e
    .exact bN e
    .exact cF (bN e)
    .exact cF (cF (bN e)))
   refine⟨av,_,_,⟨q1,q3,a1,λk an=>?_,aC⟩,?_,?_⟩
   .obtain e|e|⟨x,hx,e⟩:=an
    .exact bN (bN e)
    .obtain e|e:=q6 k e
     .exact bN (cF (bN e))
     .exact cF aA
    .obtain hx|hx:=dM.1 hx
     .exact bN (cF (cF ⟨x,hx,e⟩))
     .rw[dK.1 hx]at e;obtain e|e:=e
      .exact cF aA
      .have:=q5 k e;exact cF aA
   .have:=Qj aa q4;rw[q2]at this;rw[this];unfold opened;rw[ZD H0.out]
   .refine(q7.block _ a4 ?_).trans zo;rintro(e|e|e)
    .omega
    .have:=h.named.lt;omega
    .have:=h.order.lt e;omega
  .have h1:((fn:Int) == 0)=aR:=ZS aA;have H0:cJ _:=h0;rw[h1];clear h1 h0;go_wp2_with fail;go_meet;obtain⟨hk,h8,h9,h,J,zo,af,aa,hf,ah,hD⟩:=H.out;refine⟨vo,nm,os,⟨?_,aa,.below J jB _,λk an=>bN an,aA⟩,?_,zo⟩
   .have:cs.setIfInBounds 9 vo=cs:=by
     refine gB (λi=>?_);rw[aV];by_cases e:9=i
     .subst e;have a5:=(jE h9)
      rw[ZD rfl,ZD a5,h9]
     .rw[Zs e]
    rw[this];exact af
   .unfold opened;rw[Zs H0.out]
 case rest=>
  obtain⟨ai,aj,am,z,R,ae⟩:=hcut.out;obtain⟨hk,h8,h9,h,J,zo,af,aa,hf,ah,hD⟩:=H.out;have e8:wc.cell? ⟨kb,8,Z⟩=M (.map (M nb)):=by rw[aI z.obj,aV,Zs aA];exact h8
  have y0:=kJ ae;have I:=(z.chs.named.of_block (w':=wc.drew) rfl).lookup (P:=PQ) (uq Tryz.underlying93) (uq Tryz.underlying22) (Xp _) fc aR;simp only[bU,if_false]at I;have ar:cG wc.heap.size wc wc.drew:=(aJ _ _).drew;have a3:=TW;have a6:=Vb;have tail:∀w',cG wc.heap.size wc w'->BD kb nb cs vo os w ai aj am w':=λw' hb=>⟨(hb.block _ (jE z.obj)).trans z.obj,z.chs.below hb,z.jM.trans (.below hb jB (λ_=>False)) (λ_ _ e=>e.elim),z.own,z.len⟩
  obtain hg|⟨o,ho,hn,hg⟩:=z.chs.get (n:=fc)
  .rw[hg]at I;simp only[Option.getD_none]at I;have HT:cJ _:=jy tail (jy R hg);clear hk h8 h9 h J zo af aa hf ah hD z R ae hg hcut tail z0 z1;go_upto_region 3 with fail;go_cut [8] (λv wx=>v=aG Z/\wx=wc.drew)
   case first=>
    go_region
    all_goals
     go_wp2_with fail;go_meet;exact⟨rfl,rfl⟩
   case rest=>
    obtain⟨rfl,rfl⟩:=hcut;go_wp2_with fail;go_end0;obtain⟨tail,R,hg⟩:=HT.out;refine⟨rfl,ai,aj,am,tail _ ar,?_⟩;rw[<-R,ND hg]
  .rw[hg]at I;simp only[fH]at I;unfold ptr at I;have aw:=z.chs.below ar;have ac:=LG o ⟨fc,fn,fd,ak⟩ _ (aw.chans o ho) hf.1;have E:=λW' a7 hb=>VX o ⟨fc,fn,fd,ak⟩ most W' ((aw.below a7).chans o ho) hb hf ah;unfold Jw at ac E;dsimp only at ac E;rw[hD]at ac E;obtain⟨b,hb⟩:∃b,Dv.oM o.ch ⟨fc,fn,fd,ak⟩=b:=⟨_,rfl⟩
   rw[hb]at ac E;have zd:wc.drew.heap[w.heap.size]? =M (aL #[N dT fc,N mb fn,bE D,.bool ak] 109 (0,0)):=ae;obtain⟨x0,x1,x2,x3⟩:=cells4 ae;have au:cJ _:=λ(_:Unit)=>ac;have az:cJ _:=E;have HT:cJ _:=jy tail (jy R (jy hg (jy ho (jy hn (jy hb (jy z (jy hk (jy h ae))))))));have aq:=(jE ae)
   clear hk h8 h9 h J zo af aa hf ah hD z R ae hg hcut tail ac E aw zd ho hn hb z0 z1;go_upto_region 3 with fail;go_cut [8] (λv wx=>v=aG (M ⟨o.blk,0,Z⟩)/\wx=wc.drew)
   case first=>
    go_region
    all_goals
     go_wp2_with fail;go_meet;exact⟨rfl,rfl⟩
   case rest=>
    obtain⟨rfl,rfl⟩:=hcut;cases b
    .go_wp2_with (first|(go_at_call 76;refine aT (au.out ()) ?_;rintro e w2 ⟨rfl,ag⟩;have bd:=(ag.cell (p:=⟨w.heap.size,0,Z⟩) aq).trans x0;have bj:=(ag.cell (p:=⟨w.heap.size,1,Z⟩) aq).trans x1;have bb:=(ag.cell (p:=⟨w.heap.size,2,Z⟩) aq).trans x2;have bh:=(ag.cell (p:=⟨w.heap.size,3,Z⟩) aq).trans x3)|(go_at_call 77;(refine aT (az.out _ ag trivial) ?_;rintro e w3 ⟨rfl,o'',j1,j2,j3,j4,j5⟩))|fail)
     go_end0;obtain⟨tail,R,hg,ho,hn,hb,z,hk,h,ae⟩:=HT.out;have Y:=tail _ (ar.trans ag);have ap:∀k,(k=o.blk\/o.fm=M k)->Own nb ai am k:=λk e=>cF (cF ⟨o,ho,e⟩);have a9:=Y.chs.swap ho j1 (by rw[j2,MR]) j3 j4 j5;refine⟨rfl,ai,aj,_,⟨?_,a9,?_,λk an=>Y.own k (VF ho j1 j3 an),by rw[bC];exact Y.len⟩,?_⟩
     .refine(j5.block _ (jE Y.obj) (λe=>?_)).trans Y.obj;exact Y.chs.lK Y.obj aB aB (ap _ e)
     .refine Y.jM.trans j5 (λk a8 e=>?_);obtain e|e:=Y.own k (ap k e)
      .exact cF e
      .omega
     .rw[<-R];exact Eb Y.chs ho j1 j2 hn hg
    .go_wp2_with (first|(go_at_call 76;refine aT (au.out ()) ?_;rintro e w2 ⟨rfl,ag⟩)|fail)
     go_end0;obtain⟨tail,R,hg,ho,hn,hb,z,hk,h,ae⟩:=HT.out;refine⟨rfl,ai,aj,am,tail _ (ar.trans ag),?_⟩;rw[<-R,Ih z.chs ho hb hn hg]
def zN(sb kb nb:Nat)(nm:AL)(os:List PC)(o:PC)(w:X)(h:Core w nb nm os)(J:o∈os)(hs:w.cell? ⟨sb,0,Z⟩=M (aG (M ⟨kb,8,Z⟩)))(hk:w.cell? ⟨kb,8,Z⟩=M (.map (M nb))):eL PQ 69 #[ptr o.blk,aG (M ⟨sb,0,Z⟩)] w λe w'=>e=bX (.bool (!alive nm o))/\∃m,w'=w.drewN m:=by
 have z:=rU kb nb 8 nm os o w h J hk;unfold ptr at z⊢;obtain⟨b,I⟩:∃b,alive nm o=b:=⟨_,rfl⟩
 rw[I]at z⊢;have E:cJ _:=λ(_:Unit)=>z;clear z I h;go_enter (fq Tryz.func69 rfl),Tryz.ntmps69;go_wp2_with (go_at_call 67;refine aT (E.out ()) ?_;rintro e w2 ⟨rfl,m,rfl⟩)
 go_ret;exact⟨rfl,m,rfl⟩
def Oz(sb kb nb:Nat)(nm:AL)(os l:List PC)(v:aD)(w:X)(h:Core w nb nm os)(hl:∀o,o∈l->o∈os)(hr:Rd w 1 v l.length (l.map λo=>ptr o.blk))(hs:w.cell? ⟨sb,0,Z⟩=M (aG (M ⟨kb,8,Z⟩)))(hk:w.cell? ⟨kb,8,Z⟩=M (.map (M nb)))(af:l.length<=4294967296):eL PQ 98 #[v,.func (.func 69) #[] #[aG (M ⟨sb,0,Z⟩)]] w λe w'=>e=bX (N aE (idx (λo=>!alive nm o) l))/\∃m,w'=w.drewN m:=by
 have eg:=enters_of (P:=PQ) (fq Tryz.func69 rfl) XN rfl;obtain⟨a,cap,h0,rfl⟩|⟨g,off,cap,h0,rfl⟩:=Rd.cases hr
 .obtain rfl:=bP h0;go_enter (fq Tryz.func98 rfl),Tryz.ntmps98;go_wp2_with fail;go_loopg [5,8] 0 (λgg _ v8 wx=>v8=N aE 0/\wx=w)
  case atStart=>exact⟨rfl,rfl⟩
  case round=>
   obtain⟨rfl,rfl⟩:=hrel;go_wp2_with fail;go_ret;exact⟨rfl,0,rfl⟩
 .obtain⟨g',ac,ae,hv,_,hg,hx⟩:=hr.pos h0;simp only[Value.slice.injEq,aK,Addr.mk.injEq,and_true,true_and]at hv;obtain⟨⟨rfl,rfl⟩,rfl⟩:=hv;have z:=λm o J=>zN sb kb nb nm os o _ (h.drewN m) (hl o J) hs hk;have hf:∀(j m:Nat)(o:PC),l[j]? =M o->(w.drewN m).cell? ⟨g,off+j,Z⟩=M (ptr o.blk):=λj m o I=>hx j _ (by rw[fE,I];rfl);have Hf:cJ _:=jy hf z;clear hf z hr h hl hx hs hk;go_enter (fq Tryz.func98 rfl),Tryz.ntmps98;go_wp2_with fail;go_loopg [5,8] l.length (λgg _ v8 wx=>∃i m:Nat,i<=l.length/\v8=N aE i/\gg=l.length-i/\cJ (∀(j:Nat)(y:PC),j<i->l[j]? =M y->(!alive nm y)=aR)/\wx=w.drewN m)
  case atStart=>exact⟨0,0,dL _,rfl,rfl,λj y I=>aA,rfl⟩
  case round=>
   obtain⟨i,m,hi,rfl,rfl,Hi,rfl⟩:=hrel;by_cases aa:i<l.length
   .have Y:(i:Int)<l.length:=by omega
    obtain⟨o,J⟩:∃o,l[i]? =M o:=⟨_,aO aa⟩
    have k0:=Hf.out.1 i m o J;have hc:=Hf.out.2 m o (aX J);unfold ptr at k0 hc;have Ho:cJ _:=J;obtain⟨V,hV⟩:∃V,V=w.drewN m:=⟨_,rfl⟩
    rw[<-hV]at k0 hc⊢;cases R:(!alive nm o)
    .rw[R]at hc;have Hc:cJ _:=λ(_:Unit)=>hc;have Hq:cJ _:=jy R hV;clear hc J R hV;go_wp2_with (go_at_call 69;refine aT (Hc.out ()) ?_;rintro e w2 ⟨rfl,m2,rfl⟩)
     go_roundg (l.length-(i+1))
     case measure=>omega
     case rel=>
      refine⟨_,m+m2,aA,by go_num,rfl,λj y I E=>?_,?_⟩
      .obtain I|rfl:=jm (Nat.lt_succ_iff.1 I)
       .exact Hi.out j y I E
       .rw[Ho.out]at E;cases E;exact Hq.out.1
      .rw[Hq.out.2];simp
    .rw[R]at hc;have Hc:cJ _:=λ(_:Unit)=>hc;have Hq:cJ _:=jy R hV;clear hc J R hV;go_wp2_with (go_at_call 69;refine aT (Hc.out ()) ?_;rintro e w2 ⟨rfl,m2,rfl⟩)
     go_ret;refine⟨by rw[xR Ho.out Hq.out.1 (λj y I E=>Hi.out j y I E)];rfl,m+m2,?_⟩;rw[Hq.out.2];simp
   .have Y:¬(i:Int)<l.length:=by omega
    go_wp2_with fail;go_ret;refine⟨?_,m,rfl⟩;rw[xB (λj y E=>Hi.out j y (by have:=(aN.1 E).1;omega) E)];rfl
section
variable {i j:Nat}{l:List PC}{p:PC->Bool}{ys:List aD}{o:PC}
def Row.cleared{w:X}{e n g off cap:Nat}{xs:List aD}(h:Row w e 1 (aM (M ⟨g,off,Z⟩) n cap) n xs)(hi:i<=n)(vs:List aD):Row (w.setCells g (off+i) vs) e 1 (aM (M ⟨g,off,Z⟩) i cap) i (xs.take i):=by
 refine⟨by rw[bK,h.1];omega,?_⟩;obtain⟨h0,_⟩|⟨g',R,Y,aa,hv,hh,ac,I,J,hc⟩:=h.2
 .cases h0
 .simp only[Value.slice.injEq,aK,Addr.mk.injEq,and_true,true_and]at hv;obtain⟨⟨rfl,rfl⟩,rfl⟩:=hv;obtain⟨z,k1,k2,k3,k4⟩:=oK vs (off+i) hh;refine cF ⟨g,off,cap,z,rfl,k1,aA,I,by rw[k2];exact J,λj v E=>?_⟩;rw[gU]at E;split at E
  .rw[k3 _ (bN aA)];exact hc j v E
  .cases E
structure mV(l:List PC)(p:PC->Bool)(ys:List aD)(i j:Nat):Prop where
 len:ys.length=l.length
 lt:i<j
 le:j<=l.length
 front:ys.take i=((l.take j).filter p).map λo=>ptr o.blk
 back:ys.drop j=(l.map λo=>ptr o.blk).drop j
def take_snoc{α:Type}{l:List α}{x:α}(h:l[j]? =M x):l.take (j+1)=l.take j++[x]:=by obtain⟨z,rfl⟩:=aN.1 h;exact eY z
def mV.start{x:PC}(z:l[i]? =M x)(J:p x=aR)(h:∀(j:Nat)(y:PC),j<i->l[j]? =M y->p y=bB):mV l p (l.map λo=>ptr o.blk) i (i+1):=by
 have E:=(aN.1 z).1;refine⟨aC,aA,aA,?_,rfl⟩;rw[take_snoc z,iG,eG,Zs (by rw[J];simp),o4,gI,<-List.map_take]
 congr 1
 symm;refine iR.2 (λy I=>?_);obtain⟨k,hk⟩:=ph I;rw[gU]at hk;split at hk
 .exact h k y (by assumption) hk
 .cases hk
def mV.at(h:mV l p ys i j)(z:l[j]? =M o):ys[j]? =M (ptr o.blk):=by have:=Z1 (λq=>q[0]?) h.back;simpa[iV,z]using this
def mV.drop(h:mV l p ys i j)(z:l[j]? =M o)(hp:p o=aR):mV l p ys i (j+1):=by
 have E:=(aN.1 z).1;refine⟨h.len,by have:=h.lt;omega,aA,?_,?_⟩
 .rw[h.front,take_snoc z,iG,eG,Zs (by rw[hp];simp),o4,gI]
 .have:=Z1 (List.drop 1) h.back;simpa[iC]using this
def mV.keep(h:mV l p ys i j)(E:l[j]? =M o)(hp:p o=bB):mV l p (ys.set i (ptr o.blk)) (i+1) (j+1):=by
 have I:=(aN.1 E).1;have J:=h.lt;have h2:=h.len;refine⟨by rw[List.length_set];exact h2,aA,aA,?_,?_⟩
 .rw[take_snoc E,iG,bJ,<-h.front,eG,ZD hp,o4];rw[List.take_set];have z:ys.take (i+1)=ys.take i++[ys[i]' aA]:=eY aA;rw[z,List.set_append_right _ _ (by rw[bK];omega)]
  congr 1
  rw[bK,fZ aA];simp
 .rw[List.drop_set_of_lt aA];have:=Z1 (List.drop 1) h.back;simpa[iC]using this
def mV.all(h:mV l p ys i l.length):ys.take i=(l.filter p).map λo=>ptr o.blk:=by rw[h.front,iJ]
def mV.count(h:mV l p ys i j):i=((l.take j).filter p).length:=by have:=Z1 List.length h.front;rw[bK,bC,h.len]at this;have:=h.lt;have:=h.le;omega
def KU(sb kb nb:Nat)(nm:AL)(os:List PC)(v:aD)(w:X)(h:Core w nb nm os)(hr:Row w 136 1 v os.length (os.map λo=>ptr o.blk))(aq:Array aD)(az:Array aD)(I:w.heap[sb]? =M (aL aq 135 (0,0)))(hs:aq[0]? =M (aG (M ⟨kb,8,Z⟩)))(J:w.heap[kb]? =M (aL az 100 (0,0)))(hk:az[8]? =M (.map (M nb)))(a8:os.length<=4294967296):eL PQ 68 #[v,.func (.func 69) #[] #[aG (M ⟨sb,0,Z⟩)]] w λe w'=>∃a k cap,e=bX (.slice a k cap)/\k=(os.filter (alive nm)).length/\Row w' 136 1 (.slice a k cap) k ((os.filter (alive nm)).map λo=>ptr o.blk)/\(aM a k cap).ownBlock=v.ownBlock/\jI (λk=>v.ownBlock=M k) w w':=by
 have eg:=enters_of (P:=PQ) (fq Tryz.func69 rfl) XN rfl;have ao:w.cell? ⟨sb,0,Z⟩=M (aG (M ⟨kb,8,Z⟩)):=by rw[aI I];exact hs
 have an:w.cell? ⟨kb,8,Z⟩=M (.map (M nb)):=by rw[aI J];exact hk
 have z:=Oz sb kb nb nm os os v w h (λo Y=>Y) hr.rd ao an a8;cases ae:os.findIdx? (λo=>!alive nm o)with
 |none=>
  have aa:os.filter (alive nm)=os:=iR.2 (λo Y=>by
   have:=List.findIdx?_eq_none_iff.1 ae o Y;simpa using this)
  have hi:idx (λo=>!alive nm o) os=-1:=by unfold idx;rw[ae]
  rw[hi]at z;rw[aa];obtain⟨a,cap,rfl⟩:=hr.slice;have ag:cJ _:=λ(_:Unit)=>z;have Hr:cJ (Row _ _ _ _ _ _):=hr;clear z hr h I hs J hk ao an ae aa hi;go_enter (fq Tryz.func68 rfl),Tryz.ntmps68;go_wp2_with (go_at_call 98;refine aT (ag.out ()) ?_;rintro e w2 ⟨rfl,m,rfl⟩)
  go_ret;exact⟨a,_,cap,rfl,rfl,Hr.out.kept (λ_ _=>rfl),rfl,⟨rfl,rfl,rfl,jB,λ_ _ _=>rfl⟩⟩
 |some i0=>
  obtain⟨a7,au,ak⟩:=iZ.1 ae;have hi:idx (λo=>!alive nm o) os=i0:=by unfold idx;rw[ae]
  rw[hi]at z;obtain⟨g,off,cap,rfl,bk⟩:=hr.pos aA
  have av:mV os (alive nm) (os.map λo=>ptr o.blk) i0 (i0+1):=mV.start (aO a7) (by simpa using au) (λj y hj hy=>by
   obtain⟨a4,rfl⟩:=aN.1 hy;have:=ak j hj;simpa using this)
  have bg:g<w.heap.size:=hr.lt rfl;obtain⟨rc,af⟩:=hr.obj (g:=g) rfl;have a0:sb≠g:=λe=>by rw[e,af]at I;simp at I
  have ar:kb≠g:=λe=>by rw[e,af]at J;simp at J
  have ay:nb≠g:=λe=>lg af h.named e.symm
  have aw:∀o,o∈os->o.blk≠g:=λo Y e=>by
   have:=h.objs o Y;unfold vW at this;rw[e,af]at this;simp at this
  have ai:∀W,jI (λk=>k=g) w W->∀o,o∈os->eL PQ 69 #[aG (M ⟨o.blk,0,Z⟩),aG (M ⟨sb,0,Z⟩)] W λe w'=>e=bX (.bool (!alive nm o))/\∃m,w'=W.drewN m:=λW hW o Y=>
   zN sb kb nb nm os o W (h.jM hW ay (λo Y=>aw o Y)) Y (by rw[aI ((hW.block _ (jE I) a0).trans I)];exact hs) (by rw[aI ((hW.block _ (jE J) ar).trans J)];exact hk)
  have ag:cJ _:=λ(_:Unit)=>z;have a1:cJ _:=ai;have Hr:cJ _:=jy hr av;have bb:((i0:Int) == -1)=aR:=ZS aA;clear z hr h I hs J hk ao an ae hi au ak av ai af a0 ar ay aw;go_enter (fq Tryz.func68 rfl),Tryz.ntmps68;go_wp2_with (go_at_call 98;refine aT (ag.out ()) ?_;rintro e w2 ⟨rfl,m,rfl⟩)
  go_loopg [5,6,7] (os.length-(i0+1)) (λgg v5 v6 _ wx=>∃(i j:Nat)(ys:List aD),v5=N aE i/\v6=N aE j/\gg=os.length-j/\i<j/\j<=os.length/\cJ (mV os (alive nm) ys i j/\Row wx 136 1 (aM (M ⟨g,off,Z⟩) os.length cap) os.length ys/\jI (λk=>k=g) w wx))
  case atStart=>exact⟨i0,_,_,rfl,by go_num,aA,aA,aA,Hr.out.2,Hr.out.1.kept (λ_ _=>rfl),⟨rfl,rfl,rfl,jB,λ_ _ _=>rfl⟩⟩
  case round=>
   obtain⟨i,j,ys,rfl,rfl,rfl,bh,a4,HI⟩:=hrel;by_cases a6:j<os.length
   .have a2:(j:Int)<os.length:=by omega
    obtain⟨o,Y⟩:∃o,os[j]? =M o:=⟨_,aO a6⟩
    obtain⟨d1,R,E⟩:=HI.out;have k0:=R.cell rfl j _ (d1.at Y);unfold ptr at k0;have hc:=a1.out wr E o (aX Y);obtain⟨b,hb⟩:∃b,alive nm o=b:=⟨_,rfl⟩
    rw[hb]at hc;have Hc:cJ _:=λ(_:Unit)=>hc;have Ho:cJ _:=jy Y hb;have ac:=R.there (j:=i) aA;have ap:=R.frozen rfl;obtain⟨ci,bj⟩:=Option.isSome_iff_exists.1 ac;clear hc Y hb d1 R E ac;cases b
    .go_wp2_with (go_at_call 69;refine aT (Hc.out ()) ?_;rintro e w2 ⟨rfl,m2,rfl⟩)
     go_roundg (os.length-(j+1))
     case measure=>omega
     case rel=>
      obtain⟨d1,R,E⟩:=HI.out;exact⟨i,_,ys,rfl,by go_num,rfl,aA,aA,d1.drop Ho.out.1 Ho.out.2,R.kept (λ_ _=>rfl),⟨E.os,E.tape,E.output,E.size,E.block⟩⟩
    .have a5:(i:Int)<os.length:=by omega
     go_wp2_with (go_at_call 69;refine aT (Hc.out ()) ?_;rintro e w2 ⟨rfl,m2,rfl⟩)
     go_roundg (os.length-(j+1))
     case measure=>omega
     case rel=>
      obtain⟨d1,R,E⟩:=HI.out;refine⟨_,_,_,by go_num,by go_num,rfl,aA,aA,d1.keep Ho.out.1 Ho.out.2,?_,?_⟩
      .exact(R.kept (w':=wr.drewN m2) (λ_ _=>rfl)).put _
      .have d4:jI (λk=>k=g) w (wr.drewN m2):=⟨E.os,E.tape,E.output,E.size,E.block⟩
       exact d4.trans (jI.set _ g _ _) (λ_ _ e=>e)
   .have a2:¬(j:Int)<os.length:=by omega
    obtain rfl:j=os.length:=aA
    obtain⟨d1,R,E⟩:=HI.out;have a5:(i:Int)<=os.length:=aA
    have bd:(i:Int)<=cap:=aA
    have bl:(os.length:Int)<=cap:=aA
    have a9:¬(i=cap):=aA
    have a3:=λq (hq:q<os.length-i)=>R.there (j:=i+q) aA;have ap:=R.frozen rfl
    have aj:∀q,q<os.length-i->(wr.cell? ⟨g,off+i+q,Z⟩).isSome=bB:=λq hq=>by
     have:=a3 q hq;rw[<-dV]at this;exact this
    have ba:=Lib.run_clear_slice (P:=PQ) wr 94 136 0 _ (uq Tryz.underlying94) Xp rfl rfl g _ _ (cap-i) aA aj (λq _=>ap _);clear d1 R E a3 aj ap;go_wp2_with fail;go_ret;obtain⟨d1,R,E⟩:=HI.out;have ah:=d1.count;rw[iJ]at ah;have aa:=d1.all;have am:=R.cleared (i:=i) aA (List.replicate (os.length-i) (aG Z));rw[aa]at am;refine⟨_,i,cap,rfl,ah,am,rfl,?_⟩;exact(E.trans (.grown (kH g _ _ wr).1) (λk _ e=>by simpa using e.symm)).mono (λk _ e=>by rw[e];rfl)
end
section
variable {w:X}{vo:aD}{os:List PC}
def JF(m:AL)(k k':Nat):l9 (nX m k) k'=if k'=k then Z else l9 m k':=by
 unfold l9 nX;rw[List.find?_filter];by_cases h:k'=k
 .subst h;rw[ZD rfl,List.find?_eq_none.2]
  .rfl
  .intro p _ e;simp at e
 .rw[Zs h]
  congr 1
  congr 1
  funext p;by_cases hp:p.1=k'
  .have z:(p.1 == k')=bB:=by simp[hp]
   have h2:(p.1 != k)=bB:=by simp[hp,h]
   rw[z,h2];rfl
  .have z:=ZS hp;rw[z];simp
def Chs.del{w':X}{nb:Nat}{nm:AL}(h:Chs w nb vo nm os){k:Nat}(Y:lS w' nb dT (nX nm k))(I:jI (λj=>j=nb) w w'):Chs w' nb vo (nX nm k) os:=by refine⟨Y,h.order.jM I (λg E e=>?_),λo z=>(h.chans o z).jM I (lg (h.chans o z).obj h.named) (λb J e=>h.far o z (by rw[J,e])),h.apart,h.maps,h.far,λp hp=>h.entries p (fU.1 hp).1⟩;obtain⟨R,hc⟩:=h.order.obj E;exact lg hc h.named e
def GX{nm:AL}{o:PC}(z:alive nm o=bB)(hn:(os.map (·.blk)).Nodup)(ho:o∈os){nb:Nat}(h:Chs w nb vo nm os):∀x,x∈os->alive (nX nm o.ch.name) x=(alive nm x&&x.blk != o.blk):=λx hx=>by
 by_cases e:x.ch.name=o.ch.name
 .have R:alive (nX nm o.ch.name) x=aR:=sH (by rw[JF,ZD e]);rw[R];obtain E|⟨y,hy,Y,E⟩:=h.get (n:=o.ch.name)
  .rw[sH E]at z;cases z
  .rw[pX E]at z;have J:y.blk=o.blk:=by simpa using z
   rw[pX (by rw[e];exact E),J];by_cases I:o.blk=x.blk
   .rw[I];simp
   .have:=ZS I;rw[this];rfl
 .have R:alive (nX nm o.ch.name) x=alive nm x:=by
   unfold alive;rw[JF,Zs e]
  rw[R]
  have:x.blk≠o.blk:=λI=>e (by
   have:=yQ hn hx ho I;rw[this])
  simp[this]
end
section
variable {kb nb i:Nat}{cs:Array aD}{vo:aD}{nm nm':AL}{os:List PC}{oldest:Int}{w0 w w':X}{o:PC}
structure nO(kb nb:Nat)(cs:Array aD)(vo:aD)(nm:AL)(os:List PC)(oldest:Int)(w0:X)(i:Nat)(nm':AL)(w:X):Prop where
 obj:w.heap[kb]? =M (aL cs 100 (0,0))
 chs:Chs w nb vo nm' os
 jM:jI (λk=>k=nb) w0 w
 who:∀x,x∈os->alive nm' x=(alive nm x&&!(decide (x.blk∈(os.take i).map (·.blk))&&decide ((x.ch.opened:Int)<oldest)))
def nO.below(h:nO kb nb cs vo nm os oldest w0 i nm' w)(z:cG w.heap.size w w'):nO kb nb cs vo nm os oldest w0 i nm' w':=
 ⟨(z.block _ (jE h.obj)).trans h.obj,h.chs.below z,h.jM.trans (.below z jB (λ_=>False)) (λ_ _ e=>e.elim),h.who⟩
def xA{x:PC}(z:os[i]? =M o):x.blk∈(os.take (i+1)).map (·.blk)↔(x.blk∈(os.take i).map (·.blk)\/x.blk=o.blk):=by rw[take_snoc z,bJ];simp
def XM(R:(os.map (·.blk)).Nodup)(E:os[i]? =M o):o.blk∉(os.take i).map (·.blk):=λh=>by
 obtain⟨y,I,e⟩:=bM.1 h;obtain⟨k,hk⟩:=ph I;rw[gU]at hk;split at hk
 .rename_i z;have hp:List.Pairwise (·≠·) (os.map (·.blk)):=R;rw[iD]at hp;obtain⟨J,h2⟩:=aN.1 hk;obtain⟨h3,h4⟩:=aN.1 E;exact hp k i (by simpa using J) (by simpa using h3) z (by simp[h2,h4,e])
 .cases hk
def nO.stay(h:nO kb nb cs vo nm os oldest w0 i nm' w)(z:os[i]? =M o)(hs:alive nm' o=aR\/¬(o.ch.opened:Int)<oldest):nO kb nb cs vo nm os oldest w0 (i+1) nm' w:=by
 refine⟨h.obj,h.chs,h.jM,λx I=>?_⟩;by_cases e:x.blk=o.blk
 .have:=yQ h.chs.apart I (aX z) e;subst this;have J:=Z0 ((xA z).2 (cF rfl));have E:=ZZ (XM h.chs.apart z);have hw:=h.who x I;rw[E]at hw;simp only[Bool.false_and,Bool.not_false,Bool.and_true]at hw;rw[J];obtain hs|hs:=hs
  .rw[hs]at hw;rw[hs,<-hw];rfl
  .rw[ZZ hs,hw];simp
 .rw[h.who x I];have:decide (x.blk∈(os.take (i+1)).map (·.blk))=decide (x.blk∈(os.take i).map (·.blk)):=decide_eq_decide.2 (by rw[xA z];simp[e]);rw[this]
def nO.gone(h:nO kb nb cs vo nm os oldest w0 i nm' w)(z:os[i]? =M o)(R:alive nm' o=bB)(hs:(o.ch.opened:Int)<oldest)(E:lS w' nb dT (nX nm' o.ch.name))(I:jI (λj=>j=nb) w w')(hk:kb≠nb):nO kb nb cs vo nm os oldest w0 (i+1) (nX nm' o.ch.name) w':=by
 refine⟨(I.block _ (jE h.obj) hk).trans h.obj,h.chs.del E I,h.jM.trans I (λ_ _ e=>e),λx J=>?_⟩;rw[GX R h.chs.apart (aX z) h.chs x J,h.who x J];by_cases e:x.blk=o.blk
 .have:=yQ h.chs.apart J (aX z) e;subst this;have E:=Z0 ((xA z).2 (cF rfl));rw[E,Z0 hs];simp
 .have:decide (x.blk∈(os.take (i+1)).map (·.blk))=decide (x.blk∈(os.take i).map (·.blk)):=decide_eq_decide.2 (by rw[xA z];simp[e]);have h2:(x.blk != o.blk)=bB:=by simp[e]
  rw[this,h2,Bool.and_true]
def nO.lives(h:nO kb nb cs vo nm os oldest w0 os.length nm' w):lives nm' os=(Hm.lives nm os).filter (λc=>!decide ((c.opened:Int)<oldest)):=by
 unfold Hm.lives;rw[List.filter_map,ot]
 congr 1
 refine oy (λx z=>?_);rw[h.who x z,iJ];have:decide (x.blk∈os.map (·.blk))=bB:=Z0 (bM.2 ⟨x,z,rfl⟩);rw[this,Bool.true_and,Bool.and_comm];rfl
def Chs.thin{I:aD}(h:Chs w nb vo nm os)(hr:Row w' 136 1 I (os.filter (alive nm)).length ((os.filter (alive nm)).map λo=>ptr o.blk))(hg:jI (λk=>vo.ownBlock=M k) w w'):Chs w' nb I nm (os.filter (alive nm)):=by
 have sub:∀o,o∈os.filter (alive nm)->o∈os:=λo E=>(fU.1 E).1
 have z:∀g,vo.ownBlock=M g->g≠nb/\(∀o,o∈os->g≠o.blk/\o.fm≠M g):=λg Y=>by
  obtain⟨ac,hc⟩:=h.order.obj Y;refine⟨lg hc h.named,λo E=>⟨λe=>?_,λe=>?_⟩⟩
  .have:=(h.chans o E).obj;unfold vW at this;rw[<-e,hc]at this;simp at this
  .cases hs:o.ch.spoilt
   .obtain⟨⟨B,e',hm⟩,_⟩:=(h.chans o E).sound hs;rw[e']at e;cases e;exact lg hc hm rfl
   .rw[((h.chans o E).spoilt hs).2]at e;cases e
 refine⟨h.named.of_block (hg.block _ h.named.lt (λe=>(z _ e).1 rfl)),hr,λo E=>(h.chans o (sub o E)).jM hg (λe=>((z _ e).2 o (sub o E)).1 rfl) (λb R e=>((z _ e).2 o (sub o E)).2 R),(List.filter_sublist.map _).nodup h.apart,λa b ha R=>h.maps a b (sub a ha) (sub b R),λo E=>h.far o (sub o E),λp hp=>?_⟩;obtain⟨o,E,rfl⟩:=h.entries p hp;refine⟨o,fU.2 ⟨E,?_⟩,rfl⟩
 have aa:(nm.map Prod.fst).Nodup:=by
  obtain⟨es,c,_,_,hn,_⟩:=h.named;exact hn
 obtain⟨es,c,_,he,_⟩:=h.named;have J:=he.l9 aa hp;rw[pX J];simp
def PZ(nm:AL)(os:List PC):lives nm (os.filter (alive nm))=lives nm os:=by unfold lives;rw[ot];simp
end
end Hm
