import Derived.Test.YtpibpdpedjinhaaGreatDoorP34
import Derived.Lib.SliceRun
set_option maxRecDepth 100000
set_option maxHeartbeats 8000000
set_option linter.all false
open Bool renaming false->aL,true->bB
open Go renaming Calls->eE,Value->aD,World->U,callsIn_wide->km,heap_alloc_new->cX,results_none->rp,run_takeDeferred->oe,undef->aE
open Go.IntKind renaming i64->X,u16->mE,u32->dE
open Go.Obj renaming cells->aG
open Go.RowKit renaming Hid->cS
open Go.Value renaming bool->cF,int->N,pointer->aM,slice->aR,string->aH,tuple->dC
open Option renaming none->Z,some->M
open Or renaming inl->cJ,inr->cK
namespace Go.Proofs.YtpibpdpedjinhaaGreatDoor
namespace Hm
open Go.RowKit Go.Joins Go.Shelf
open Fr (below_drewN)
open Dv (Ba)
attribute [local go_sem] Oper.semAt_some
variable {xs:List Wa}
def textOf(s:List UInt8):List UInt8:=(Sq.spread s.length s 4096 []).1
def rW(xs:List Wa)(q:List BX):Prop:=xs.map (λx=>sS x.i)=q.map (λx=>M x.b)
theorem rW.snoc{xs:List Wa}{q:List BX}(h:rW xs q){x:Wa}{y:BX}(E:sS x.i=M y.b):rW (xs++[x]) (q++[y]):=by unfold rW at h⊢;rw[bJ,bJ,h];simp[E]
theorem rW.ac3{q:List BX}(h:rW xs q){T:List UInt8}{p:Nat}(E:Im.nG (Im.read Im.body 8) T (xs.map Wa.i) p):zW T (q.map BX.b) p:=JO E _ (by
 unfold rW at h;rw[jy,jy];exact h)
def EJ(J:List BX->(Nat->Prop)->U->Prop)(ho:Option Obj)(E Y l n0 n1:Nat)(S:ByteArray)(xs:List Wa)(Wc:U):Prop:=∃q F I,EI J ho E Y l n0 n1 S Wc q F I/\rW xs q
def EX(J Y:List BX->(Nat->Prop)->U->Prop)(I n1:Nat)(c:Code)(xs:List Wa)(Wc:U):Prop:=c=.ret/\((∃E F q xs' x,J E F q/\jO (λk=>F k/\NC q k) q Wc/\(∀k,I<=k->n1<=k+2->k<n1->(F k/\NC q k)\/q.heap.size<=k)/\xs=xs'++[x]/\rW xs' E/\sS x.i=Z)\/(∃E F q,Y E F q/\jO (λk=>F k/\NC q k) q Wc/\∀k,I<=k->n1<=k+2->k<n1->(F k/\NC q k)\/q.heap.size<=k))
theorem EX.put{J Jx:List BX->(Nat->Prop)->U->Prop}{n0 n1:Nat}{c:Code}{Wc:U}(h:EX J Jx n0 n1 c xs Wc){j:Nat}(o:Obj)(h1:n0<=j)(I:n1<=j+2)(h2:j<n1):EX J Jx n0 n1 c xs (Wc.putObj j o):=by
 obtain⟨hc,⟨q,F,Y,xs',x,q1,q2,E,q4⟩|⟨q,F,Y,q1,q2,E⟩⟩:=h
 .exact⟨hc,cJ ⟨q,F,Y,xs',x,q1,oh q2 (E j h1 I h2) o,E,q4⟩⟩
 .exact⟨hc,cK ⟨q,F,Y,q1,oh q2 (E j h1 I h2) o,E⟩⟩
theorem D8{B:Nat}{G W:U}(h:Below G.heap.size G W)(q:B+1<G.heap.size):qK B G W:=⟨h.size,h.block B aA,h.block (B+1) q⟩
theorem Cc(ho:Option Obj)(cB:Nat)(S:ByteArray)(hs:S.size<=4096):Z4 PQ 118 #[aM (M ⟨cB,0,Z⟩)] BX.encs (QH ho cB S) (BY (textOf S.data.toList)) (BS (textOf S.data.toList)) (λ_=>True):=by
 intro l J Jx W ce ax bh bu;obtain⟨TB,a3⟩:∃TB:ByteArray,(⟨(Sq.spread S.size S.data.toList 4096 []).1.toArray⟩:ByteArray)=TB:=⟨_,rfl⟩
 obtain⟨az,a7⟩:∃b:Bool,(Sq.spread S.size S.data.toList 4096 []).2=b:=⟨_,rfl⟩
 have hT:textOf S.data.toList=TB.data.toList:=by
  rw[<-a3];unfold textOf;rw[<-bD]
 have ck:TB.size<=4096:=by
  have:=Dv.uj S.size S.data.toList 4096 [] (by simp only[bY];omega);rw[<-a3]
  show(Sq.spread S.size S.data.toList 4096 []).1.toArray.size<=4096
  rw[dR];omega
 rw[hT]at bh⊢;have ak:=λw=>OI S 4096 w aA aA aA;rw[a3,a7]at ak;have bo:cS _:=ak;have HY:cS _:=bh;have b2:cS _:=bu;have br:=ax.2.2.lt;have b7:=λo=>(((aJ _ W).alloc jE o).cell (p:=⟨cB,0,Z⟩) br).trans ax.2.2.cell;have a1:=ax.2.1.pos;have HS:cS _:=ax;clear bh bu ax ak a3 a7 hT;refine km.2 (km.1 (callsIn_of_wp_marks (n:=3) (fq Tryz.func118 rfl) rfl trivial ?_ rfl));simp only[Tryz.ntmps118,dR,aU,bY,Nat.reduceAdd,Nat.reduceSub,dH,dG,dU,dI,dS,dN];gi_wp2;refine⟨trivial,(km.2 (bo.out _)).mono ?_⟩;rintro e w2 ⟨rfl,ar⟩;gi_wp2;refine⟨trivial,(km.2 (JX TB w2)).mono ?_⟩;rintro e w3 ⟨rfl,au⟩;have bw:Below w2.heap.size w2 w3:=by rw[au];exact((aJ _ w2).alloc jE _).alloc aC _
 have ae:w3.heap.size=w2.heap.size+2:=by rw[au];simp
 have bk:∀(a b:Obj)(k:Nat),((w2.alloc a).alloc b).heap[k]? =if k=w2.heap.size+1 then M b else if k=w2.heap.size then M a else w2.heap[k]?:=by
  intro a b k;simp only[World.alloc,iD,Array.size_push]
 have c0:w3.cell? ⟨w2.heap.size,0,Z⟩=M (aH TB):=by
  have:w3.heap[w2.heap.size]? =M (aG #[aH TB] 9 (0,0)):=by rw[au,bk];simp
  rw[aI this];rfl
 have c1:w3.cell? ⟨w2.heap.size+1,0,Z⟩=M (N X 1):=by
  have:w3.heap[w2.heap.size+1]? =M (aG #[N X 1] 3 (0,0)):=by rw[au,bk];simp
  rw[aI this];rfl
 obtain⟨V,hV,bq,b1⟩:=jI W #[.func (.yield l) #[] #[]] 216;have ci:V.heap.size=W.heap.size+1:=by rw[hV];simp
 rw[<-hV]at ar;have a5:=ar.trans (bw.mono ar.size);have cj:=ar.size
 have a9:∀o1 o2,EI J ho cB W.heap.size l W.heap.size (w3.heap.size+2) S ((w3.alloc o1).alloc o2) [] (λ_=>False) W:=λo1 o2=>by
  have E:Below w3.heap.size w3 ((w3.alloc o1).alloc o2):=((aJ _ w3).alloc jE _).alloc aC _;have I:=a5.trans (E.mono aA);have aa:=bq.trans (I.mono aA);exact⟨b2.out,.below aa jE _,λk h1 _=>cK h1,λk h1 _=>cJ aA,⟨(aa.block _ a1).trans HS.out.1,HS.out.2.1.below aa a1,(aa.block _ br).trans HS.out.2.2⟩,(I.block _ aA).trans b1,aC⟩
 have bv:=HS.out.2.1.below (bq.trans (a5.mono aA)) a1;have bd:=Oj 8 (zI 8) TB 1 _ (w2.heap.size+1) w3 aA rfl bv aA c0 (by simpa using c1) aA aA;have H0:cS _:=jD bd (jD a9 a5);clear au bk hV b1 a5 ar bw bq c0 c1 bv bd a9 b7;gi_wp2
 refine yO (gf:=205) (lb:=#[aM (M ⟨w2.heap.size,0,Z⟩),aM (M ⟨w2.heap.size+1,0,Z⟩)]) rfl (enters_of (fq Tryz.func205 rfl) XN rfl) H0.out.1 (aJ _ _) (by rintro k (rfl|rfl|rfl)<;>omega) (λac x lo W W' h hs hx=>XE.turn 8 TB ac x lo W W' h hs hx) (λ_=>rfl)
  (EJ J ho cB W.heap.size l W.heap.size (w3.heap.size+2) S) (EX J Jx W.heap.size (w3.heap.size+2))
  (by
   rintro xs A r o ⟨ac,F,W0,h,hp⟩ hl;have bm:=(jG hl)
   exact⟨ac,F,W0,h.put _ aA aA aA a1 br aA,hp⟩)
  (by
   rintro c xs A r o h hl;have bm:=(jG hl)
   exact h.put _ aA aA aA)
  (λo1 o2=>⟨[],_,_,H0.out.2.1 o1 o2,rfl⟩)
  (λx B=>{ tmps:=#[.func (.yield l) #[] #[],aM (M ⟨cB,0,Z⟩),aM (M ⟨W.heap.size,0,Z⟩),aH TB,.bool az,aE,aM (M ⟨B,0,Z⟩),aE,aE,dC #[aH TB,.bool az],aH S,dC #[aH TB,.bool az],aH TB,.bool az,aH TB,.func (.func 205) #[] #[aM (M ⟨w2.heap.size,0,Z⟩),aM (M ⟨w2.heap.size+1,0,Z⟩)],N X x.e,.agg #[.bool x.i.list,aH ⟨x.i.bytes.toArray⟩,.slice x.a x.i.kids.length x.cap],aE,aE,aE,aE,aE,aE,aE,aE,aE,aE,aE,aE,aE],defers:=[] })
  (λx=>aG #[.bool x.i.list,aH ⟨x.i.bytes.toArray⟩,.slice x.a x.i.kids.length x.cap] 103) ?assign ?body ?done ?stop
 case assign=>
  intro l x W K hK;simp only[Wa.encs];gi_wp2;exact hK
 case body=>
  rintro lp xs x bs W1 cl cc bg a8 ⟨ac,F,W0,hI,hP⟩ hb ⟨⟨cd,b3⟩,p,aj⟩;have ag:=hI.below hb
  have ba:∀k,w3.heap.size+2<=k+2->k<w3.heap.size+2->NC W1 k:=λk h1 h2=>by
   obtain rfl|rfl:=(show k=w3.heap.size\/k=w3.heap.size+1 by omega)
   .exact bg
   .exact a8
  have cg:x.i.bytes.length<=4096:=by
   rw[bJ]at aj;obtain⟨p',n,_,_,h3⟩:=IQ aj;have:=PG h3;rw[dW,<-bD]at this;omega
  obtain⟨IB,bx⟩:∃IB:ByteArray,(⟨x.i.bytes.toArray⟩:ByteArray)=IB:=⟨_,rfl⟩
  obtain⟨G,hG,gb,-⟩:=jI W1 #[.bool x.i.list,aH ⟨x.i.bytes.toArray⟩,.slice x.a x.i.kids.length x.cap] 103;rw[<-hG];have gs:G.heap.size=W1.heap.size+1:=by rw[hG];simp
  have gk:G.heap[W1.heap.size]? =M (aG #[.bool x.i.list,aH IB,.slice x.a x.i.kids.length x.cap] 103 (0,0)):=by rw[hG,<-bx];exact cX _ _
  obtain⟨k0,k1,k2⟩:=cells3 gk;have Y:=ag.below gb;have ai:∀k,w3.heap.size+2<=k+2->k<w3.heap.size+2->NC G k:=λk h1 h2 cs t fz e=>ba k h1 h2 cs t fz (by rw[<-gb.block k (by have:=ag.big;omega)];exact e);have aw:=Oy x.i (.slice x.a x.i.kids.length x.cap) G ⟨_,_,_,rfl⟩ aA Y.st.2.1;rw[bx]at aw⊢;have bb:cS _:=λ(_:Unit)=>aw;have HI:cS _:=jD Y (jD hP (jD aj (jD hb (jD gb (jD gs ai)))));have b8:W.heap.size<G.heap.size:=by have:=Y.big;omega
  have ca:=Y.big;have bj:=nT Y.box;clear hI ag hP aj hb gb gk hG b3 Y aw ba ai bg a8;generalize a2:sS x.i=q;cases q with
  |none=>
   gi_wp2;refine⟨trivial,(CallsIn.inRound _ (km.2 (bb.out ()))).mono ?_⟩;rintro e w4 ⟨am,E⟩;rw[a2]at am;have am:e=_:=am;subst am;gi_wp2;refine⟨(λ_ h=>by cases h),?_⟩;gi_wp2;obtain⟨Y,hP,aj,hb,gb,gs,ai⟩:=HI.out;have I:=E.trans (((aJ _ w4).alloc jE (aG #[N X 0,N X 0,N X 0,aR Z 0 0,N X 0] 150)).mono E.size);have ab:=Y.below I;exact⟨D8 I aA,rfl,cJ ⟨ac,F,W0,xs,x,ab.j,ab.jR,λk h0 h1 h2=>ab.free h0 h1 h2,rfl,hP,a2⟩⟩
  |some b=>
   gi_wp2;refine⟨trivial,(CallsIn.inRound _ (km.2 (bb.out ()))).mono ?_⟩;rintro e w4 ⟨am,E⟩;rw[a2]at am;obtain⟨a4,av,rfl,bl,bz⟩:=am;unfold QE;have cb:=λo=>((E.trans (((aJ _ w4).alloc jE o).mono E.size)).cell (p:=⟨W.heap.size,0,Z⟩) b8).trans bj;obtain⟨X5,b5,I,-⟩:=jI w4 #[N X b.epoch,N X b.id,N X b.time,.slice a4 b.txs.length av,N X b.place] 150;obtain⟨Y,hP,aj,hb,gb,gs,ai⟩:=HI.out;have ab:=Y.below (E.trans (I.mono E.size));have ap:rW (xs++[x]) (ac++[⟨b,a4,av⟩]):=hP.snoc a2;obtain⟨fn,tmps,assign,body,b9,hR⟩:=HY.out ac _ F W0 X5 ab.j ab.jR ⟨⟨Row.below bl.1 I,λg hg=>bH (bH Y.jR.size aA) (bl.2 g hg)⟩,bz,p,ap.ac3 aj⟩;simp only[BX.encs]at b9;have HR:cS _:=hR;have ah:∀k,w3.heap.size+2<=k+2->k<w3.heap.size+2->NC X5 k:=λk h1 h2 cs t fz e=>ai k h1 h2 cs t fz (by rw[<-(E.trans (I.mono E.size)).block k aA];exact e);have H5:cS _:=jD ab (jD ap (jD E (jD I ah)));clear hR ab ap Y hP aj hb gb bl bz I ah ai;subst b5;gi_wp2;refine RoundIn.mono (Kt HR.out) ?_;rintro e W3 (⟨rfl,a6,ae,aq,af⟩|⟨rfl,ao,ae,af⟩)
   .have H3:cS _:=jD a6 (jD ae (jD aq af));clear a6 ae aq af;gi_wp2;obtain⟨a6,ae,aq,af⟩:=H3.out;obtain⟨ab,ap,E,I,ah⟩:=H5.out;have Y:=HI.out.1;have aa:=E.trans (I.mono E.size);obtain⟨b6,ay⟩:=ab.next a6 ae aq af jE aA aA ah;refine⟨⟨bH aa.size ae,(ay _ aA aA).trans (aa.block _ aA),(ay _ aA aA).trans (aa.block _ aA)⟩,?_,_,_,_,b6,ap⟩;rintro k (rfl|rfl|rfl)
    .exact aq.1.trans Y.st.1.symm
    .exact(ay _ aA aA).trans (aa.block _ aA)
    .exact(ay _ aA aA).trans (aa.block _ aA)
   .have H3:cS _:=jD ao (jD ae af);clear ao ae af;gi_wp2;obtain⟨ao,ae,af⟩:=H3.out;obtain⟨ab,ap,E,I,ah⟩:=H5.out;have aa:=E.trans (I.mono E.size)
    have ha:∀k,W.heap.size<=k->k<w3.heap.size+2->yt F W0 (w4.alloc (aG #[N X b.epoch,N X b.id,N X b.time,.slice a4 b.txs.length av,N X b.place] 150)) k:=λk h1 h2=>by
     have:=ab.big;obtain q|q:=ab.own k h1 h2
     .exact cJ q
     .exact cK ⟨q,aA⟩
    exact⟨⟨bH aa.size ae,(af _ (ha _ aA aA)).trans (aa.block _ aA),(af _ (ha _ aA aA)).trans (aa.block _ aA)⟩,rfl,cK ⟨_,_,W3,ao,jO.refl _ _,λk h0 h1 h2=>cJ ⟨ha k h0 h2,λcs t fz e=>ah k h1 h2 cs t fz (by rw[<-af k (ha k h0 h2)];exact e)⟩⟩⟩
 case done=>
  rintro D xs bs b0 hD bm ⟨p,he,b4,an⟩ ⟨ac,F,W0,hI,hP⟩ hb hK;have ag:=hI.below hb;have HF:cS _:=jD ag (jD hP (jD he an));clear hI ag hP he an hb;gi_wp2;refine⟨aC,cJ ⟨_,_,rfl,oe hK,?_⟩⟩;obtain⟨ag,hP,he,an⟩:=HF.out;refine⟨_,rp rfl _ _ _,⟨_,rfl⟩,cJ ⟨ac,F,W0,⟨p,hP.ac3 he,?_⟩,ag.j,oh ag.jR (ag.free (j:=D) aA aA aA) _⟩⟩;obtain h|⟨_,h⟩:=an
  .exact cJ (by rw[<-bD];exact h)
  .exact cK (cJ h)
 case stop=>
  rintro D c xs bs b0 hD bm ⟨p,he,b4⟩ ⟨rfl,hx⟩ hb hK;have HF:cS _:=jD hx (jD he hb);clear hx he hb;gi_wp2;refine⟨aC,cJ ⟨_,_,rfl,oe hK,?_⟩⟩;obtain⟨hx,he,hb⟩:=HF.out;refine⟨_,rp rfl _ _ _,⟨_,rfl⟩,?_⟩;obtain⟨ac,F,W0,xs',x,q1,q2,q3,rfl,q5,q6⟩|⟨ac,F,W0,q1,q2,q3⟩:=hx
  .rw[bJ]at he;obtain⟨p',n,e1,e2,e3⟩:=IQ he;exact cJ ⟨ac,F,W0,⟨p',q5.ac3 e1,cK (cK ⟨_,_,e3,q6⟩)⟩,q1,oh (q2.trans (.below hb jE _) (λ_ _ e=>e)) (q3 D aA aA aA) _⟩
  .exact cK ⟨ac,F,W0,trivial,q1,oh (q2.trans (.below hb jE _) (λ_ _ e=>e)) (q3 D aA aA aA) _⟩
end Hm
namespace Hm
open Go.RowKit Go.Joins
open Dv (Ch Fine)
open Fr (F below_drewN)
def Chs.more{w w3 w5:U}{nb:Nat}{vo aj:aD}{nm:AL}{os:List PC}{o':PC}(h:Chs w nb vo nm os)(ah:lQ w3 nb dE (xg nm o'.ch.name (ptr o'.blk)))(an:jO (λk=>k=nb) w w3)(am:ChanAt w3 o')(hnew:w.heap.size<=o'.blk)(Y:∀b,o'.fm=M b->w.heap.size<=b)(ak:Row w5 197 1 aj (os.length+1) ((os.map λo=>ptr o.blk)++[ptr o'.blk]))(ag:jO (λk=>vo.ownBlock=M k) w3 w5):Chs w5 nb aj (xg nm o'.ch.name (ptr o'.blk)) (os++[o']):=by
 have ac:∀k,vo.ownBlock=M k->k≠nb:=λk hk e=>by
  obtain⟨ai,hc⟩:=h.order.obj hk;exact kY hc h.named e
 have ae:∀o,o∈os->vo.ownBlock≠M o.blk:=λo ho hk=>by
  obtain⟨ai,hc⟩:=h.order.obj hk;have:=(h.chans o ho).obj;unfold xI at this;rw[hc]at this;simp at this
 have aa:∀o,o∈os->∀b,o.fm=M b->vo.ownBlock≠M b:=λo ho b E hk=>by
  obtain⟨ai,hc⟩:=h.order.obj hk;cases hs:o.ch.spoilt
  .obtain⟨⟨B,e,hm⟩,_⟩:=(h.chans o ho).sound hs;rw[e]at E;cases E;exact kY hc hm rfl
  .rw[((h.chans o ho).spoilt hs).2]at E;cases E
 have af:=λo ho=>kY (h.chans o ho).obj h.named;have ab:=λo ho=>(dY.1 (h.chans o ho).obj).1;have J:∀o,o∈os->∀b,o.fm=M b->b<w.heap.size:=λo ho b E=>h.rU (cK (cK ⟨o,ho,cK E⟩));have I:∀k,w.heap.size<=k->vo.ownBlock≠M k:=λk hk e=>by have:=h.order.lt e;omega
 refine⟨ah.of_block (ag.block _ ah.lt (λe=>ac _ e rfl)),?_,?_,?_,?_,?_,?_⟩
 .rw[aS,bJ];exact ak
 .intro o ho;obtain ho|ho:=dM.1 ho
  .exact((h.chans o ho).jR an (af o ho) (λb E e=>h.far o ho (by rw[E,e]))).jR ag (ae o ho) (aa o ho)
  .rw[dK.1 ho];exact am.jR ag (I _ hnew) (λb E=>I _ (Y b E))
 .rw[bJ];refine List.nodup_append.2 ⟨h.apart,aC,λa ha b E e=>?_⟩;obtain⟨o,ho,rfl⟩:=bM.1 ha;simp at E;have:=ab o ho;omega
 .intro a b ha E x h1 h2;rcases dM.1 ha with ha|ha<;>obtain E|E:=dM.1 E
  .exact h.maps a b ha E x h1 h2
  .rw[dK.1 E]at h2;have:=Y x h2;have:=J a ha x h1;omega
  .rw[dK.1 ha]at h1;have:=Y x h1;have:=J b E x h2;omega
  .rw[dK.1 ha,dK.1 E]
 .intro o ho e;obtain ho|ho:=dM.1 ho
  .exact h.far o ho e
  .rw[dK.1 ho]at e;have:=Y _ e;have:=h.named.lt;omega
 .intro p hp;unfold xg at hp;split at hp
  .obtain⟨q,hq,e⟩:=bM.1 hp;by_cases hk:q.1=o'.ch.name
   .rw[ZD hk]at e;exact⟨o',aC,e.symm⟩
   .rw[Zs hk]at e;obtain⟨o,ho,e'⟩:=h.entries q hq;exact⟨o,by simp[ho],by rw[<-e,e']⟩
  .obtain hp|hp:=dM.1 hp
   .obtain⟨o,ho,e'⟩:=h.entries p hp;exact⟨o,by simp[ho],e'⟩
   .exact⟨o',aC,dK.1 hp⟩
def Yu:(PQ.info? 197).map (λi=>(i.zero,i.size,i.bytes))=M (M (aM Z),1,8):=XN
def open_any(kb nb:Nat)(cs:Array aD)(vo:aD)(nm:AL)(os:List PC)(name n:Nat)(w:U)(hk:w.heap[kb]? =M (aG cs 137 (0,0)))(h8:cs[8]? =M (.map (M nb)))(h9:cs[9]? =M vo)(h:Chs w nb vo nm os)(a8:os.length<=4294967296):eE PQ 112 #[aM (M ⟨kb,8,Z⟩),N dE name,N X n] w λe w'=>e=.returned (dC #[])/\∃(ar:aD)(o':PC),w'.heap[kb]? =M (aG (cs.setIfInBounds 9 ar) 137 (0,0))/\o'.ch=⟨name,n,[],aL⟩/\Chs w' nb ar (xg nm name (ptr o'.blk)) (os++[o'])/\w.heap.size<=o'.blk/\(∀b,o'.fm=M b->w.heap.size<=b)/\(∀k,ar.ownBlock=M k->vo.ownBlock=M k\/w.heap.size<=k)/\jO (λk=>k=kb\/k=nb\/vo.ownBlock=M k) w w':=by
 obtain⟨W2,ac⟩:∃W2,W2=(w.alloc (.map #[] 0)).alloc (aG #[N dE name,N X n,.map (M w.heap.size),N X 0,cF aL,N mE 0,cF aL] 201):=⟨_,rfl⟩
 have ab:Below w.heap.size w W2:=by rw[ac];exact((aJ _ w).alloc jE _).alloc aC _
 have ap:W2.heap.size=w.heap.size+2:=by rw[ac];simp
 have aw:lQ W2 w.heap.size mE (vC []):=by
  rw[ac];exact(lQ.made w _).of_block (aZ _ _ _ aC)
 have ho2:W2.heap[w.heap.size+1]? =M (xI ⟨w.heap.size+1,M w.heap.size,⟨name,n,[],aL⟩,0,aL,0⟩):=by
  rw[ac];have:=cX (w.alloc (.map #[] 0)) (aG #[N dE name,N X n,.map (M w.heap.size),N X 0,cF aL,N mE 0,cF aL] 201);simp only[fB]at this;exact this
 have ax:ChanAt W2 ⟨w.heap.size+1,M w.heap.size,⟨name,n,[],aL⟩,0,aL,0⟩:=⟨ho2,Dv.L9,λx hx=>by simp at hx,aC,λ_=>⟨⟨_,rfl,aw⟩,by simp[Dv.size],by simp[Dv.size],by simp[Dv.last],by simp[Dv.last]⟩,λh=>by simp at h⟩
 have J:=h.below ab;have aa:W2.heap[kb]? =_:=(ab.block _ (jG hk)).trans hk;obtain⟨w3,af,aj,aq,an⟩:=J.named.update (P:=PQ) (uq Tryz.underlying130) (uq Tryz.underlying22) name (ptr (w.heap.size+1));have a5:=kY hk h.named;have e8:W2.cell? ⟨kb,8,Z⟩=M (.map (M nb)):=by rw[aI aa];exact h8
 have ah:w3.heap[kb]? =_:=(aq.block _ (jG aa) (by simp[a5])).trans aa;have e9:w3.cell? ⟨kb,9,Z⟩=M vo:=by rw[aI ah];exact h9
 have q:jO (λk=>k=nb) W2 w3:=(jO.grown aq).mono (λk _ e=>by simpa using e.symm);have ai:=ax.jR q (by have:=h.named.lt;dsimp only;omega) (λb hb=>by cases hb;have:=h.named.lt;omega);obtain⟨a,cap,rfl⟩:=h.order.slice;unfold ptr at af
 have ae:=λobj=>(J.order.jR q (λg hg e=>by
  obtain⟨a6,hc⟩:=J.order.obj hg;exact kY hc J.named e)).below ((aJ _ w3).alloc jE obj)
 have ag:cS _:=ae;have H:cS _:=jD ah (jD J (jD aj (jD q (jD ai (jD ap (jD ab (jD an (jD hk h))))))));obtain⟨i0,a3,au,a4,a1⟩:=info_parts Yu;have Hi:cS _:=jD a3 (jD au (jD a4 a1));have ay:=(jG ah)
 clear hk h ab aw ho2 ax J aa aj aq an ah q ai ae ap a3 au a4 a1 h8;go_enter (fq Tryz.func112 rfl),Tryz.ntmps112;have bb:=@run_makeMap PQ;go_upto_region 1 with fail;rw[<-ac];clear ac;go_upto_region 2 with fail;clear e8 af;go_wp2_with (first|(at_builtin;refine kJ _ rfl (.tmp 22) (.tmp 24) 131 rfl 197 i0 _ 1 8 (uq Tryz.underlying131) Hi.out.1 Hi.out.2.1 Hi.out.2.2.1 Hi.out.2.2.2 rfl aB _ _ _ rfl (ag.out _) _ 1 1 [aM (M ⟨w.heap.size+1,0,Z⟩)] rfl aB rfl (by intro j u hj;match j,hj with|0,hj=>(simp at hj;subst hj;simp[Addr.add])) (by intro u hu;simp at hu;subst hu;rfl) (by unfold maxLen;omega) aA ?_;intro g off av w5 I E;have Y:=(E.keep (ag.out _) ((aZ _ _ _ ay).trans H.out.1) aB);have c9:w5.cell? ⟨kb,9,Z⟩=M (.slice a os.length cap):=(by rw[aI Y];exact h9);have ba:=aQ Y;have a7:cS _:=jD I (jD E Y);clear I E Y)|go_in)
 go_end0;obtain⟨I,E,Y⟩:=a7.out;obtain⟨ah,J,aj,q,ai,ap,ab,an,hk,h⟩:=H.out;have ak:jO (λk=>(aR a os.length cap).ownBlock=M k) w3 w5:=(jO.alloc _ w3 _).trans E.jR (λ_ _ e=>e)
 have a9:(aR a os.length cap).ownBlock≠M kb:=λe=>by
  obtain⟨a6,hc⟩:=h.order.obj e;rw[hk]at hc;simp at hc
 have az:=(jO.below ab jE _).trans q (λ_ _ e=>e);have a2:=h.more (o':=⟨_,_,_,0,aL,0⟩) aj az ai (by dsimp only;omega) (λb hb=>by cases hb;exact jE) I ak;have am:=jO.set w5 kb 9 (aR (M ⟨g,off,Z⟩) (os.length+1) av);refine⟨rfl,_,_,jV Y 9 _,rfl,a2.jR am (λk ao e=>?_),by dsimp only;omega,λb hb=>by cases hb;exact jE,λk ao=>?_,?_⟩
 .subst e;exact a2.lF Y aB aB ao
 .have aa:M g=M k:=ao;cases aa;obtain e|e:=E.own
  .exact cJ e
  .right;simp at e;omega
 .exact((az.mono (M':=λk=>k=kb\/k=nb\/(aR a _ cap).ownBlock=M k) (λk _ e=>cK (cJ e))).trans ak (λk _ e=>cK (cK e))).trans am (λk _ e=>cJ e)
section
variable {w:U}{nb:Nat}{vo:aD}{nm:AL}{os:List PC}{o o'':PC}{most:Int}{f:F}
def opened(n:Nat)(f:F)(cs:List Ch):List Ch:=if f.num=0 then cs.filter (λc=>c.name != f.chan)++[⟨f.chan,n,[],aL⟩]else cs
def rJ(most:Int)(f:F)(c:Ch):Ch:=if c.name=f.chan then Dv.joined most c f else c
theorem Vo(most:Int)(n:Nat)(cs:List Ch)(f:F):Dv.frame most n cs f=(opened n f cs).map (rJ most f):=by
 unfold Dv.frame opened;by_cases h:f.num=0
 .rw[ZD h,ZD h,bJ]
  congr 1
  .symm;rw[jo (g:=id),List.map_id];intro c q;have:=(fU.1 q).2;simp only[bne_iff_ne,ne_eq]at this;unfold rJ;rw[Zs this];rfl
  .simp[rJ]
 .rw[Zs h,Zs h];rfl
theorem LW(m:AL)(k k':Nat)(v:aD):lZ (xg m k v) k'=if k'=k then M v else lZ m k':=by
 unfold lZ xg;split
 .rename_i h
  induction m with
  |nil=>simp at h
  |cons p m ih=>
   rw[eP,iH,iH];by_cases hp:p.1=k
   .rw[ZD hp];by_cases hk:k'=k
    .subst hk;simp
    .have I:=ZS (λe=>hk e.symm);have h2:(p.1 == k')=aL:=ZS (λe=>hk (by rw[<-e,hp]));simp only[I,h2];by_cases J:k∈m.map Prod.fst
     .exact ih J
     .have:m.map (λp=>if p.1=k then(k,v)else p)=m:=by
       rw[jo (g:=id),List.map_id];intro q Y;rw[Zs (λ(e:q.1=k)=>J (e ▸ bM.2 ⟨q,Y,rfl⟩))];rfl
      rw[this,Zs hk]
   .rw[Zs hp]
    have J:k∈m.map Prod.fst:=by
     obtain e|e:=dD.1 h
     .exact(hp e.symm).elim
     .exact e
    by_cases E:p.1=k'
    .have I:(p.1 == k')=bB:=by simp[E]
     simp only[I];rw[Zs (λe=>hp (by rw[E,e]))]
    .have I:=ZS E;simp only[I];exact ih J
 .rename_i h;rw[List.find?_append];by_cases hk:k'=k
  .subst hk
   have:m.find? (λp=>p.1 == k')=Z:=by
    rw[List.find?_eq_none];intro q Y e;simp only[YY]at e;exact h (e ▸ bM.2 ⟨q,Y,rfl⟩)
   rw[this];simp
  .rw[Zs hk];cases m.find? (λp=>p.1 == k')with
   |some p=>rfl
   |none=>
    have I:=ZS (λe=>hk e.symm);simp[I]
theorem QK(h:Chs w nb vo nm os){o':PC}(hnew:w.heap.size<=o'.blk):lives (xg nm o'.ch.name (ptr o'.blk)) (os++[o'])=(lives nm os).filter (λc=>c.name != o'.ch.name)++[o'.ch]:=by
 unfold lives;rw[iJ,bJ]
 congr 1
 .rw[List.filter_map,List.filter_filter]
  congr 1
  refine List.filter_congr (λo ho=>?_);have q:=(dY.1 (h.chans o ho).obj).1;unfold alive;rw[LW];by_cases e:o.ch.name=o'.ch.name
  .rw[ZD e];have E:(o'.blk == o.blk)=aL:=ZS aA;have h2:(o.ch.name != o'.ch.name)=aL:=by simp[e]
   show(o'.blk == o.blk)=((o.ch.name != o'.ch.name)&&_)
   rw[E,h2,Bool.false_and]
  .rw[Zs e];have h2:(o.ch.name != o'.ch.name)=bB:=by simp[e]
   show _=((o.ch.name != o'.ch.name)&&_)
   rw[h2,Bool.true_and]
 .have:alive (xg nm o'.ch.name (ptr o'.blk)) o'=bB:=by
   unfold alive;rw[LW,ZD rfl];simp[ptr]
  rw[eG,ZD this];rfl
theorem zZ(J:(os.map (·.blk)).Nodup){x:PC}(I:x∈os)(ho:o∈os)(e:x.blk=o.blk):x=o:=by
 induction os with
 |nil=>simp at I
 |cons y os ih=>
  have q:=iG.1 (by simpa using J:(y.blk::os.map (·.blk)).Nodup);rcases dD.1 I with rfl|E<;>obtain rfl|ho1:=dD.1 ho
  .rfl
  .exact(q.1 (e ▸ bM.2 ⟨o,ho1,rfl⟩)).elim
  .exact(q.1 (e ▸ bM.2 ⟨x,E,rfl⟩)).elim
  .exact ih q.2 E ho1
def swap(o'':PC)(x:PC):PC:=if x.blk=o''.blk then o'' else x
theorem vK(o'' x:PC):(swap o'' x).blk=x.blk:=by
 unfold swap;split
 .rename_i h;exact h.symm
 .rfl
theorem Chs.swap{w':U}(h:Chs w nb vo nm os)(ho:o∈os)(hb:o''.blk=o.blk)(ag:o''.ch.name=o.ch.name)(ae:o''.fm=o.fm\/o''.fm=Z)(hc:ChanAt w' o'')(hg:jO (λk=>k=o.blk\/o.fm=M k) w w'):Chs w' nb vo nm (os.map (swap o'')):=by
 have inj:∀x,x∈os->x.blk=o.blk->x=o:=λx E e=>zZ h.apart E ho e
 have q:∀x,x∈os->∀b,(Hm.swap o'' x).fm=M b->x.fm=M b:=λx E b e=>by
  unfold Hm.swap at e;split at e
  .rename_i aa;rw[inj x E (aa.trans hb)];obtain h1|h1:=ae
   .rw[<-h1];exact e
   .rw[h1]at e;cases e
  .exact e
 refine⟨h.named.of_block (hg.block _ h.named.lt (λe=>?_)),?_,?_,?_,?_,?_,?_⟩
 .obtain e|e:=e
  .exact kY (h.chans o ho).obj h.named e.symm
  .exact h.far o ho e
 .rw[bC,jy]
  have:((λo:PC=>ptr o.blk)∘Hm.swap o'')=λo=>ptr o.blk:=by
   funext x;simp only[Function.comp,vK]
  rw[this];refine h.order.jR hg (λg af e=>?_);obtain⟨ah,Y⟩:=h.order.obj af;obtain rfl|e:=e
  .have:=(h.chans o ho).obj;unfold xI at this;rw[Y]at this;simp at this
  .cases hs:o.ch.spoilt
   .obtain⟨⟨B,e',hm⟩,_⟩:=(h.chans o ho).sound hs;rw[e']at e;cases e;exact kY Y hm rfl
   .rw[((h.chans o ho).spoilt hs).2]at e;cases e
 .intro y hy;obtain⟨x,E,rfl⟩:=bM.1 hy;unfold Hm.swap;split
  .exact hc
  .rename_i ab;refine(h.chans x E).jR hg (λe=>?_) (λb I e=>?_)
   .obtain e|e:=e
    .exact ab (e.trans hb.symm)
    .cases hs:o.ch.spoilt
     .obtain⟨⟨B,e',hm⟩,_⟩:=(h.chans o ho).sound hs;rw[e']at e;cases e;exact kY (h.chans x E).obj hm rfl
     .rw[((h.chans o ho).spoilt hs).2]at e;cases e
   .obtain e|e:=e
    .subst e;cases hs:x.ch.spoilt
     .obtain⟨⟨B,e',hm⟩,_⟩:=(h.chans x E).sound hs;rw[e']at I;cases I;exact kY (h.chans o ho).obj hm rfl
     .rw[((h.chans x E).spoilt hs).2]at I;cases I
    .exact ab ((h.maps x o E ho b I e).trans hb.symm)
 .rw[jy]
  have:((λo:PC=>o.blk)∘Hm.swap o'')=λo=>o.blk:=by
   funext x;simp only[Function.comp,vK]
  rw[this];exact h.apart
 .intro x y E hy b h1 h2;obtain⟨x0,J,rfl⟩:=bM.1 E;obtain⟨y0,ac,rfl⟩:=bM.1 hy;rw[vK,vK];exact h.maps x0 y0 J ac b (q x0 J b h1) (q y0 ac b h2)
 .intro x E e;obtain⟨x0,J,rfl⟩:=bM.1 E;exact h.far x0 J (q x0 J nb e)
 .intro p hp;obtain⟨x,E,rfl⟩:=h.entries p hp;refine⟨_,bM.2 ⟨x,E,rfl⟩,?_⟩;rw[vK];unfold Hm.swap;split
  .rename_i aa;rw[inj x E (aa.trans hb),ag]
  .rfl
theorem V3(ho:o∈os)(J:o''.blk=o.blk)(q:o''.fm=o.fm\/o''.fm=Z){k:Nat}(hk:Own nb vo (os.map (swap o'')) k):Own nb vo os k:=by
 obtain e|e|⟨y,I,e⟩:=hk
 .exact cJ e
 .exact cK (cJ e)
 .obtain⟨x,Y,rfl⟩:=bM.1 I;unfold swap at e;split at e
  .refine cK (cK ⟨o,ho,?_⟩);obtain e|e:=e
   .exact cJ (e.trans J)
   .obtain E|E:=q
    .exact cK (by rw[<-E];exact e)
    .rw[E]at e;cases e
  .exact cK (cK ⟨x,Y,e⟩)
theorem FH(h:Chs w nb vo nm os)(ho:o∈os)(J:o''.blk=o.blk)(I:o''.ch=Dv.joined most o.ch f)(Y:o.ch.name=f.chan)(hg:lZ nm f.chan=M (ptr o.blk)):lives nm (os.map (swap o''))=(lives nm os).map (rJ most f):=by
 have jn:(Dv.joined most o.ch f).name=o.ch.name:=by
  unfold Dv.joined;split
  .rfl
  .split<;>rfl
 have inj:∀x,x∈os->x.blk=o.blk->x=o:=λx q e=>zZ h.apart q ho e;unfold lives;rw[List.filter_map,jy,jy]
 have aa:∀x,x∈os->(alive nm∘swap o'') x=alive nm x:=λx q=>by
  simp only[Function.comp];unfold swap;split
  .rename_i e;rw[inj x q (e.trans J)];unfold alive;rw[I,jn,J]
  .rfl
 rw[List.filter_congr aa];refine jo (λx q=>?_);obtain⟨q,E⟩:=fU.1 q;simp only[Function.comp];unfold swap rJ;by_cases e:x.blk=o.blk
 .rw[ZD (e.trans J.symm),inj x q e,ZD Y,I]
 .rw[Zs (λe'=>e (e'.trans J)),Zs];intro e';have:alive nm x=(o.blk == x.blk):=qB (by rw[e'];exact hg);rw[this]at E;simp only[YY]at E;exact e E.symm
theorem OC(I:lZ nm f.chan=Z):(lives nm os).map (rJ most f)=lives nm os:=by
 rw[jo (g:=id),List.map_id];intro c E;unfold lives at E;obtain⟨x,J,rfl⟩:=bM.1 E;have q:=(fU.1 J).2;unfold rJ;rw[Zs]
 .rfl
 .intro e;rw[tZ (by rw[e];exact I)]at q;cases q
theorem Js(h:Chs w nb vo nm os)(ho:o∈os)(J:Dv.nU o.ch f=bB)(q:o.ch.name=f.chan)(I:lZ nm f.chan=M (ptr o.blk)):(lives nm os).map (rJ most f)=lives nm os:=by
 have E:Dv.joined most o.ch f=o.ch:=by unfold Dv.joined;rw[ZD J]
 rw[<-FH h ho (o'':=o) rfl E.symm q I]
 congr 1
 rw[jo (g:=id),List.map_id];intro x Y;unfold swap;split
 .rename_i e;exact(zZ h.apart Y ho e).symm
 .rfl
end
def afw:PQ.underlying 197=M (.pointer (PQ.pointee 197)):=XN
def Uz(w:U):(binOp .neq 197 (aM Z) (aM Z)).run PQ w=.ok (cF aL) w:=run_neq_pointer_nil w _ Z afw
def VD(w:U)(b:Nat):(binOp .neq 197 (aM (M ⟨b,0,Z⟩)) (aM Z)).run PQ w=.ok (cF bB) w:=run_neq_pointer_nil w _ (M _) afw
def N9(most:Int)(c:Ch)(f:F):(Dv.joined most c f).name=c.name:=by
 unfold Dv.joined;split
 .rfl
 .split<;>rfl
structure Dw(kb nb:Nat)(cs:Array aD)(vo:aD)(os:List PC)(w:U)(vo':aD)(nm':AL)(os':List PC)(w':U):Prop where
 obj:w'.heap[kb]? =M (aG (cs.setIfInBounds 9 vo') 137 (0,0))
 chs:Chs w' nb vo' nm' os'
 jR:jO (λk=>k=kb\/Own nb vo os k) w w'
 own:∀k,Own nb vo' os' k->Own nb vo os k\/w.heap.size<=k
 len:os'.length<=os.length+1
def take_any(kb nb:Nat)(cs:Array aD)(vo:aD)(nm:AL)(os:List PC)(f:F)(n:Nat)(most:Int)(w:U)(hk:w.heap[kb]? =M (aG cs 137 (0,0)))(h8:cs[8]? =M (.map (M nb)))(h9:cs[9]? =M vo)(h:Chs w nb vo nm os)(ba:os.length<=4294967295)(hf:f.num<65536/\f.data.length<=65536)(ah:0<=most/\most<=4294967296):eE PQ 72 #[aM (M ⟨kb,8,Z⟩),KL f,N X n,N X most] w λe w'=>e=.returned (dC #[])/\∃av a2 az,Dw kb nb cs vo os w av a2 az w'/\lives a2 az=Dv.frame most n (lives nm os) f:=by
 rw[Vo];obtain⟨fc,fn,fd,ak⟩:=f;unfold KL;dsimp only at *;obtain⟨D,hD⟩:∃D:ByteArray,(⟨fd.toArray⟩:ByteArray)=D:=⟨_,rfl⟩
 rw[hD];obtain⟨W,hW,J,zo⟩:=jI w #[N dE fc,N mE fn,aH D,.bool ak] 81;have a4:w.heap.size<W.heap.size:=by rw[hW];simp
 obtain⟨z0,z1⟩:=cells2 zo;have af:W.heap[kb]? =_:=(J.block _ (jG hk)).trans hk;have ab:=h.below J;have ao:=open_any kb nb cs vo nm os fc n W af h8 h9 ab aA;have ax:cS _:=λ(_:Unit)=>ao;have a8:=(jG hk)
 have H:cS _:=jD hk (jD h8 (jD h9 (jD h (jD J (jD zo (jD af (jD ab (jD hf (jD ah hD)))))))));clear hk h8 h9 h J zo af ab ao hf ah hD;go_enter (fq Tryz.func72 rfl),Tryz.ntmps72;go_upto_if 11 with fail;rw[<-hW];clear hW;go_cut [16] (λ_ wx=>cS (∃ai aj am,Dw kb nb cs vo os w ai aj am wx/\lives aj am=opened n ⟨fc,fn,fd,ak⟩ (lives nm os)/\wx.heap[w.heap.size]? =M (aG #[N dE fc,N mE fn,aH D,.bool ak] 81 (0,0))))
 case first=>
  by_cases h0:fn=0
  .have h1:((fn:Int) == 0)=bB:=by rw[h0];rfl
   have H0:cS _:=h0;rw[h1];clear h1 h0;go_wp2_with (go_at_call 112;refine aT (ax.out ()) ?_;rintro e w2 ⟨rfl,av,o',q1,q2,q3,q4,q5,q6,q7⟩)
   go_meet;obtain⟨hk,h8,h9,h,J,zo,af,ab,hf,ah,hD⟩:=H.out;have bg:=J.size
   have a1:jO (λk=>k=kb\/Own nb vo os k) w w2:=(jO.below J jE _).trans q7 (λk _ e=>by
    obtain e|e|e:=e
    .exact cJ e
    .exact cK (cJ e)
    .exact cK (cK (cJ e)))
   refine⟨av,_,_,⟨q1,q3,a1,λk an=>?_,aC⟩,?_,?_⟩
   .obtain e|e|⟨x,hx,e⟩:=an
    .exact cJ (cJ e)
    .obtain e|e:=q6 k e
     .exact cJ (cK (cJ e))
     .exact cK aA
    .obtain hx|hx:=dM.1 hx
     .exact cJ (cK (cK ⟨x,hx,e⟩))
     .rw[dK.1 hx]at e;obtain e|e:=e
      .exact cK aA
      .have:=q5 k e;exact cK aA
   .have:=QK ab q4;rw[q2]at this;rw[this];unfold opened;rw[ZD H0.out]
   .refine(q7.block _ a4 ?_).trans zo;rintro(e|e|e)
    .omega
    .have:=h.named.lt;omega
    .have:=h.order.lt e;omega
  .have h1:((fn:Int) == 0)=aL:=ZS aA;have H0:cS _:=h0;rw[h1];clear h1 h0;go_wp2_with fail;go_meet;obtain⟨hk,h8,h9,h,J,zo,af,ab,hf,ah,hD⟩:=H.out;refine⟨vo,nm,os,⟨?_,ab,.below J jE _,λk an=>cJ an,aA⟩,?_,zo⟩
   .have:cs.setIfInBounds 9 vo=cs:=by
     refine gB (λi=>?_);rw[aV];by_cases e:9=i
     .subst e;have a5:=(jG h9)
      rw[ZD rfl,ZD a5,h9]
     .rw[Zs e]
    rw[this];exact af
   .unfold opened;rw[Zs H0.out]
 case rest=>
  obtain⟨ai,aj,am,q,Y,ae⟩:=hcut.out;obtain⟨hk,h8,h9,h,J,zo,af,ab,hf,ah,hD⟩:=H.out;have e8:wc.cell? ⟨kb,8,Z⟩=M (.map (M nb)):=by rw[aI q.obj,aV,Zs aA];exact h8
  have y0:=nT ae;have I:=(q.chs.named.of_block (w':=wc.drew) rfl).lookup (P:=PQ) (uq Tryz.underlying130) (uq Tryz.underlying22) (XM _) fc aL;simp only[bU,if_false]at I;have ar:Below wc.heap.size wc wc.drew:=(aJ _ _).drew;have a3:=Uz;have a6:=VD;have tail:∀w',Below wc.heap.size wc w'->Dw kb nb cs vo os w ai aj am w':=λw' hb=>⟨(hb.block _ (jG q.obj)).trans q.obj,q.chs.below hb,q.jR.trans (.below hb jE (λ_=>False)) (λ_ _ e=>e.elim),q.own,q.len⟩
  obtain hg|⟨o,ho,hn,hg⟩:=q.chs.get (n:=fc)
  .rw[hg]at I;simp only[Option.getD_none]at I;have HT:cS _:=jD tail (jD Y hg);clear hk h8 h9 h J zo af ab hf ah hD q Y ae hg hcut tail z0 z1;go_upto_region 3 with fail;go_cut [8] (λv wx=>v=aM Z/\wx=wc.drew)
   case first=>
    go_region
    all_goals
     go_wp2_with fail;go_meet;exact⟨rfl,rfl⟩
   case rest=>
    obtain⟨rfl,rfl⟩:=hcut;go_wp2_with fail;go_end0;obtain⟨tail,Y,hg⟩:=HT.out;refine⟨rfl,ai,aj,am,tail _ ar,?_⟩;rw[<-Y,OC hg]
  .rw[hg]at I;simp only[fH]at I;unfold ptr at I;have aw:=q.chs.below ar;have ac:=Nj o ⟨fc,fn,fd,ak⟩ _ (aw.chans o ho) hf.1;have E:=λW' a7 hb=>Wv o ⟨fc,fn,fd,ak⟩ most W' ((aw.below a7).chans o ho) hb hf ah;unfold KL at ac E;dsimp only at ac E;rw[hD]at ac E;obtain⟨b,hb⟩:∃b,Dv.nU o.ch ⟨fc,fn,fd,ak⟩=b:=⟨_,rfl⟩
   rw[hb]at ac E;have zd:wc.drew.heap[w.heap.size]? =M (aG #[N dE fc,N mE fn,aH D,.bool ak] 81 (0,0)):=ae;obtain⟨x0,x1,x2,x3⟩:=cells4 ae;have au:cS _:=λ(_:Unit)=>ac;have ay:cS _:=E;have HT:cS _:=jD tail (jD Y (jD hg (jD ho (jD hn (jD hb (jD q (jD hk (jD h ae))))))));have aq:=(jG ae)
   clear hk h8 h9 h J zo af ab hf ah hD q Y ae hg hcut tail ac E aw zd ho hn hb z0 z1;go_upto_region 3 with fail;go_cut [8] (λv wx=>v=aM (M ⟨o.blk,0,Z⟩)/\wx=wc.drew)
   case first=>
    go_region
    all_goals
     go_wp2_with fail;go_meet;exact⟨rfl,rfl⟩
   case rest=>
    obtain⟨rfl,rfl⟩:=hcut;cases b
    .go_wp2_with (first|(go_at_call 113;refine aT (au.out ()) ?_;rintro e w2 ⟨rfl,ag⟩;have bd:=(ag.cell (p:=⟨w.heap.size,0,Z⟩) aq).trans x0;have bj:=(ag.cell (p:=⟨w.heap.size,1,Z⟩) aq).trans x1;have bb:=(ag.cell (p:=⟨w.heap.size,2,Z⟩) aq).trans x2;have bh:=(ag.cell (p:=⟨w.heap.size,3,Z⟩) aq).trans x3)|(go_at_call 114;(refine aT (ay.out _ ag trivial) ?_;rintro e w3 ⟨rfl,o'',j1,j2,j3,j4,j5⟩))|fail)
     go_end0;obtain⟨tail,Y,hg,ho,hn,hb,q,hk,h,ae⟩:=HT.out;have aa:=tail _ (ar.trans ag);have ap:∀k,(k=o.blk\/o.fm=M k)->Own nb ai am k:=λk e=>cK (cK ⟨o,ho,e⟩);have a9:=aa.chs.swap ho j1 (by rw[j2,N9]) j3 j4 j5;refine⟨rfl,ai,aj,_,⟨?_,a9,?_,λk an=>aa.own k (V3 ho j1 j3 an),by rw[bC];exact aa.len⟩,?_⟩
     .refine(j5.block _ (jG aa.obj) (λe=>?_)).trans aa.obj;exact aa.chs.lF aa.obj aB aB (ap _ e)
     .refine aa.jR.trans j5 (λk a8 e=>?_);obtain e|e:=aa.own k (ap k e)
      .exact cK e
      .omega
     .rw[<-Y];exact FH aa.chs ho j1 j2 hn hg
    .go_wp2_with (first|(go_at_call 113;refine aT (au.out ()) ?_;rintro e w2 ⟨rfl,ag⟩)|fail)
     go_end0;obtain⟨tail,Y,hg,ho,hn,hb,q,hk,h,ae⟩:=HT.out;refine⟨rfl,ai,aj,am,tail _ (ar.trans ag),?_⟩;rw[<-Y,Js q.chs ho hb hn hg]
def Bl(J kb nb:Nat)(nm:AL)(os:List PC)(o:PC)(w:U)(h:Core w nb nm os)(ho:o∈os)(hs:w.cell? ⟨J,0,Z⟩=M (aM (M ⟨kb,8,Z⟩)))(hk:w.cell? ⟨kb,8,Z⟩=M (.map (M nb))):eE PQ 106 #[ptr o.blk,aM (M ⟨J,0,Z⟩)] w λe w'=>e=.returned (.bool (!alive nm o))/\∃m,w'=w.drewN m:=by
 have q:=sO kb nb 8 nm os o w h ho hk;unfold ptr at q⊢;obtain⟨b,I⟩:∃b,alive nm o=b:=⟨_,rfl⟩
 rw[I]at q⊢;have E:cS _:=λ(_:Unit)=>q;clear q I h;go_enter (fq Tryz.func106 rfl),Tryz.ntmps106;go_wp2_with (go_at_call 104;refine aT (E.out ()) ?_;rintro e w2 ⟨rfl,m,rfl⟩)
 go_ret;exact⟨rfl,m,rfl⟩
def Px(sb kb nb:Nat)(nm:AL)(os l:List PC)(v:aD)(w:U)(h:Core w nb nm os)(hl:∀o,o∈l->o∈os)(hr:Rd w 1 v l.length (l.map λo=>ptr o.blk))(hs:w.cell? ⟨sb,0,Z⟩=M (aM (M ⟨kb,8,Z⟩)))(hk:w.cell? ⟨kb,8,Z⟩=M (.map (M nb)))(af:l.length<=4294967296):eE PQ 152 #[v,.func (.func 106) #[] #[aM (M ⟨sb,0,Z⟩)]] w λe w'=>e=.returned (N X (idx (λo=>!alive nm o) l))/\∃m,w'=w.drewN m:=by
 have eg:=enters_of (P:=PQ) (fq Tryz.func106 rfl) XN rfl;obtain⟨a,cap,h0,rfl⟩|⟨g,off,cap,h0,rfl⟩:=Rd.cases hr
 .obtain rfl:=bP h0;go_enter (fq Tryz.func152 rfl),Tryz.ntmps152;go_wp2_with fail;go_loopg [5,8] 0 (λgg _ v8 wx=>v8=N X 0/\wx=w)
  case atStart=>exact⟨rfl,rfl⟩
  case round=>
   obtain⟨rfl,rfl⟩:=hrel;go_wp2_with fail;go_ret;exact⟨rfl,0,rfl⟩
 .obtain⟨g',ac,ae,hv,_,hg,hx⟩:=hr.pos h0;simp only[Value.slice.injEq,aK,Addr.mk.injEq,and_true,true_and]at hv;obtain⟨⟨rfl,rfl⟩,rfl⟩:=hv;have q:=λm o ho=>Bl sb kb nb nm os o _ (h.drewN m) (hl o ho) hs hk;have hf:∀(j m:Nat)(o:PC),l[j]? =M o->(w.drewN m).cell? ⟨g,off+j,Z⟩=M (ptr o.blk):=λj m o I=>hx j _ (by rw[fE,I];rfl);have Hf:cS _:=jD hf q;clear hf q hr h hl hx hs hk;go_enter (fq Tryz.func152 rfl),Tryz.ntmps152;go_wp2_with fail;go_loopg [5,8] l.length (λgg _ v8 wx=>∃i m:Nat,i<=l.length/\v8=N X i/\gg=l.length-i/\cS (∀(j:Nat)(y:PC),j<i->l[j]? =M y->(!alive nm y)=aL)/\wx=w.drewN m)
  case atStart=>exact⟨0,0,dL _,rfl,rfl,λj y I=>aA,rfl⟩
  case round=>
   obtain⟨i,m,hi,rfl,rfl,Hi,rfl⟩:=hrel;by_cases ab:i<l.length
   .have aa:(i:Int)<l.length:=by omega
    obtain⟨o,ho⟩:∃o,l[i]? =M o:=⟨_,aO ab⟩
    have k0:=Hf.out.1 i m o ho;have J:=Hf.out.2 m o (aX ho);unfold ptr at k0 J;have Ho:cS _:=ho;obtain⟨V,hV⟩:∃V,V=w.drewN m:=⟨_,rfl⟩
    rw[<-hV]at k0 J⊢;cases Y:(!alive nm o)
    .rw[Y]at J;have Hc:cS _:=λ(_:Unit)=>J;have Hq:cS _:=jD Y hV;clear J ho Y hV;go_wp2_with (go_at_call 106;refine aT (Hc.out ()) ?_;rintro e w2 ⟨rfl,m2,rfl⟩)
     go_roundg (l.length-(i+1))
     case measure=>omega
     case rel=>
      refine⟨_,m+m2,aA,by go_num,rfl,λj y I E=>?_,?_⟩
      .obtain I|rfl:=jr (Nat.lt_succ_iff.1 I)
       .exact Hi.out j y I E
       .rw[Ho.out]at E;cases E;exact Hq.out.1
      .rw[Hq.out.2];simp
    .rw[Y]at J;have Hc:cS _:=λ(_:Unit)=>J;have Hq:cS _:=jD Y hV;clear J ho Y hV;go_wp2_with (go_at_call 106;refine aT (Hc.out ()) ?_;rintro e w2 ⟨rfl,m2,rfl⟩)
     go_ret;refine⟨by rw[Ez Ho.out Hq.out.1 (λj y I E=>Hi.out j y I E)];rfl,m+m2,?_⟩;rw[Hq.out.2];simp
   .have aa:¬(i:Int)<l.length:=by omega
    go_wp2_with fail;go_ret;refine⟨?_,m,rfl⟩;rw[Dl (λj y E=>Hi.out j y (by have:=(aN.1 E).1;omega) E)];rfl
end Hm
