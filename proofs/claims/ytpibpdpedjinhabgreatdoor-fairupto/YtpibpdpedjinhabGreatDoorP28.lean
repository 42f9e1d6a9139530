import Derived.Test.YtpibpdpedjinhabGreatDoorP27
import Derived.Deep.RegionLaw
set_option maxRecDepth 100000
set_option maxHeartbeats 8000000
set_option linter.all false
open Bool renaming false->aR,true->bB
open Go renaming Addr->fR,TypeId->cH,Value->aD,World->X,bodyPost_ret->cN,callsIn_wide->iN,execOp->bO,results_none->po
open Go.Obj renaming cells->aL
open Go.Proofs.Tryz renaming underlying138->ki,underlying22->lm,underlying93->oS
open Go.Region renaming ready->fL,wanted->cS
open Go.RowKit renaming Below->cG,Hid->cJ
open Go.Value renaming int->N,ownBlock->eE,pointer->aG,slice->aM
open Go.Value.slice renaming injEq->eJ
open Go.World renaming cell?_of_block->cD,drewN->mn
open Option renaming none->Z,some->M
open Or renaming inl->bN,inr->cF
namespace Go.Proofs.YtpibpdpedjinhabGreatDoor
namespace Hm
open Go.RowKit Go.Joins
section
section
variable {P:Program}{w:X}{ops:Array Oper}{o:Oper}{a:Act}{K:Act->X->Prop}{Q:Exit->Act->X->Prop}{E:Prop}
def rJ(Y:o.guard=Z)(x y:Operand)(t J:cH)(I:o.op=Op.call { callee:=Callee.builtin Builtin.delete,args:=#[x,y],argTypes:=#[t,J] })(e:cH)(q:IntKind)(ht:P.underlying t=M (.map J e))(hk:P.underlying J=M (.int q))
  (B:Nat) (m:AL) (k:Nat) (hx:a.eval x=.map (M B)) (hy:a.eval y=.int q k) (h:lS w B q m)
  (hK:∀w',lS w' B q (nX m k)->w.grownBy w' (M B)->w'.heap.size=w.heap.size->K (a.put o.dst (.tuple #[])) w'):
  if cS o (yielded ops a.tmps)=bB then Oper.wp P o a w K Q else E:=by
 have hw:cS o (yielded ops a.tmps)=bB:=by simp[cS,Y]
 rw[ZD hw];obtain⟨w',z,r1,r2,R⟩:=h.delete ht hk k o.type;unfold Oper.wp;simp[bO,I,resolve,invoke,builtin,hx,hy,z,Result.andThen];exact hK w' r1 r2 R
def pG(hg:o.guard=Z)(s x:Operand)(t:cH)(ae:o.op=.call { callee:=.builtin .append,args:=#[s,x],argTypes:=#[t,t] })
  (e:cH) (i:TypeInfo) (z:aD) (size bytes:Nat) (ht:P.underlying t=M (.slice e)) (hi:P.info? e=M i) (hz:i.zero=M z)
  (R:i.size=size) (ah:i.bytes=bytes) (ai:z.cells.size=size) (ag:0<size)
  (v:aD) (n:Nat) (xs:List aD) (hs:a.eval s=v) (aa:Row w e size v n xs)
  (ad:fR) (m c:Nat) (I:List aD) (hx:a.eval x=aM (M ad) m c) (hm:0<m) (hl:I.length=m*size) (Y:∀j u,I[j]? =M u->w.cell? (ad.add j)=M u) (h1:∀u∈I,u.oneCell'=bB)
  (af:n+m<=maxLen) (J:(n+m)*bytes<=140737488355328)
  (h:∀g off cap w',Row w' e size (aM (M ⟨g,off,Z⟩) (n+m) cap) (n+m) (xs++I)->Grew v g w w'->K (a.put o.dst (aM (M ⟨g,off,Z⟩) (n+m) cap)) w'):
  if cS o (yielded ops a.tmps)=bB then Oper.wp P o a w K Q else E:=by
 have hw:cS o (yielded ops a.tmps)=bB:=by simp[cS,hg]
 rw[ZD hw];obtain⟨v',w',hr,h2,⟨g,off,cap,rfl⟩,h4⟩:=aa.append (P:=P) t o.type i z bytes ht hi hz R ah ai ag ad m c I hm hl Y h1 af J;unfold Oper.wp;simp[bO,ae,resolve,invoke,builtin,hs,hx,hr,Result.andThen];refine h g off cap w' h2 ?_;obtain⟨e1,e2,e3⟩|⟨e1,e2,e3⟩:=h4
 .have ac:v.ownBlock=M g:=e1.symm;exact bN ⟨ac,by rw[<-ac];exact e2,e3⟩
 .exact cF ⟨by simpa[eE]using e1,e2,e3⟩
end
end
open Dv (Ch Fine)
open Fr (F below_drewN)
def NH(kb nb:Nat)(cs:Array aD)(vo:aD)(nm:AL)(os:List PC)(E:Int)(w:X)(hk:w.heap[kb]? =M (aL cs 100 (0,0)))(h8:cs[8]? =M (.map (M nb)))(h9:cs[9]? =M vo)(h:Chs w nb vo nm os)(aq:os.length<=4294967296):Calls PQ 49 #[aG (M ⟨kb,8,Z⟩),N .i64 E] w λe w'=>e=.returned (.tuple #[])/\∃a7 z ai,BD kb nb cs vo os w a7 z ai w'/\ai.length<=os.length/\lives z ai=(lives nm os).filter (λc=>!decide ((c.opened:Int)<E)):=by
 obtain⟨W,hW,R,zo⟩:=jD w #[aG (M ⟨kb,8,Z⟩)] 135;have a5:w.heap.size<W.heap.size:=by rw[hW];simp
 have z0:=kJ zo;have aa:W.heap[kb]? =_:=(R.block _ (jE hk)).trans hk;have e9:W.cell? ⟨kb,9,Z⟩=M vo:=by rw[aI aa];exact h9
 have a1:=lg hk h.named;have bo:=h.named.lt;have af:nO kb nb cs vo nm os E W 0 nm W:=⟨aa,h.below R,jI.refl _ _,λx hx=>aC⟩
 obtain⟨a,cap,rfl⟩:=h.order.slice;have ah:cJ (nO _ _ _ _ _ _ _ _ _ _ _):=af;have H:cJ _:=jy hk (jy h8 (jy h9 (jy h (jy R (jy zo aa)))));clear hk h8 h9 h R zo aa af;go_enter (fq Tryz.func49 rfl),Tryz.ntmps49;go_upto_region 1 with fail;rw[<-hW];clear hW;go_wp2_with fail;go_loopg [5,11] os.length (λgg _ a4 wx=>∃(i:Nat)(z:AL),i<=os.length/\a4=N .i64 i/\gg=os.length-i/\cJ (nO kb nb cs (.slice a os.length cap) nm os E W i z wx))
 case atStart=>exact⟨0,nm,dL _,rfl,rfl,ah⟩
 case round=>
  obtain⟨i,z,hi,rfl,rfl,I⟩:=hrel;clear ah z0 e9;obtain⟨hk,h8,h9,h,R,zo,aa⟩:=H.out;have Y:wr.heap[w.heap.size]? =_:=(I.out.jM.block _ a5 aA).trans zo;have z0:=kJ Y;have e8:wr.cell? ⟨kb,8,Z⟩=M (.map (M nb)):=by rw[aI I.out.obj];exact h8
  have e9:wr.cell? ⟨kb,9,Z⟩=M (.slice a os.length cap):=by rw[aI I.out.obj];exact h9
  by_cases a6:i<os.length
  .have az:(i:Int)<os.length:=by omega
   obtain⟨o,ho⟩:∃o,os[i]? =M o:=⟨_,aO a6⟩
   obtain⟨g,off,bg,hv,_⟩:=I.out.chs.order.pos aA;simp only[eJ,true_and]at hv;obtain⟨rfl,rfl⟩:=hv;have k0:=I.out.chs.order.cell rfl i (ptr o.blk) (by rw[fE,ho];rfl);have J:=rU kb nb 8 z os o wr I.out.chs.core (aX ho) e8;have au:=(I.out.chs.chans o (aX ho)).obj;obtain⟨c0,c1⟩:=cells2 au;obtain⟨b,hb⟩:∃b,alive z o=b:=⟨_,rfl⟩
   rw[hb]at J;unfold ptr at k0 J;have ac:cJ _:=λ(_:Unit)=>J;have Ho:cJ _:=jy ho hb;clear J ho hb au hk h8 h9 h R zo aa Y;cases b
   .go_wp2_with (go_at_call 67;refine aT (ac.out ()) ?_;rintro e w2 ⟨rfl,m,rfl⟩)
    go_roundg (os.length-(i+1))
    case measure=>omega
    case rel=>exact⟨_,z,aA,by go_num,rfl,(I.out.below (below_drewN (aJ _ _) _)).stay Ho.out.1 (bN Ho.out.2)⟩
   .by_cases bd:(o.ch.opened:Int)<E
    .go_upto_region 5 with(go_at_call 67;refine aT (ac.out ()) ?_;rintro e w2 ⟨rfl,m,rfl⟩)
     generalize hV:mn _ _=V;have ao:nO kb nb cs (aM (M ⟨g,off,Z⟩) os.length cap) nm os E W i z V:=by rw[<-hV];exact I.out.below (below_drewN (aJ _ _) _)
     have bk:V.cell? ⟨w.heap.size,0,Z⟩=M (aG (M ⟨kb,8,Z⟩)):=by rw[<-hV];exact z0
     have bm:V.cell? ⟨kb,8,Z⟩=M (.map (M nb)):=by rw[<-hV];exact e8
     have bj:V.cell? ⟨o.blk,0,Z⟩=M (N .u32 o.ch.name):=by rw[<-hV];exact c0
     have bb:cJ (nO _ _ _ _ _ _ _ _ _ _ _):=ao;have ar:=ao.chs.named.of_block (w':=V.drew) rfl;have a9:cJ (lS _ _ _ _):=ar;clear ao hV z0 e8 e9 c0 c1 ar k0;go_region_law ((refine rJ (by rfl) (.tmp 29) (.tmp 33) 93 22 (by rfl) 136 _ (uq oS) (uq lm) nb z o.ch.name (by rfl) (by rfl) a9.out ?_;intro w7 a3 ba bn))
     all_goals
      go_wp2_with fail;go_roundg (os.length-(i+1))
      case measure=>omega
      case rel=>exact⟨_,_,aA,by go_num,rfl,bb.out.gone Ho.out.1 Ho.out.2 bd a3 ((jI.drew _ V).trans (.grown ba) (λk _ e=>by simpa using e.symm)) a1⟩
    .go_wp2_with (go_at_call 67;refine aT (ac.out ()) ?_;rintro e w2 ⟨rfl,m,rfl⟩)
     go_roundg (os.length-(i+1))
     case measure=>omega
     case rel=>exact⟨_,z,aA,by go_num,rfl,(I.out.below (below_drewN (aJ _ _) _)).stay Ho.out.1 (cF aA)⟩
  .have az:¬(i:Int)<os.length:=by omega
   obtain rfl:i=os.length:=aA
   have ap:(aM a os.length cap).ownBlock≠M kb:=λe=>by
    obtain⟨a2,hc⟩:=I.out.chs.order.obj e;rw[I.out.obj]at hc;simp at hc
   have ae:=λV hV=>(KU _ kb nb z os _ V (I.out.chs.below hV).core (I.out.chs.below hV).order _ cs ((hV.block _ (jE Y)).trans Y) rfl ((hV.block _ (jE I.out.obj)).trans I.out.obj) h8 aq).mono
    (R':=λe w'=>∃va vk vc,e=.returned (.slice va vk vc)/\w'.cell? ⟨w.heap.size,0,Z⟩=M (aG (M ⟨kb,8,Z⟩))/\w'.cell? ⟨kb,9,Z⟩=M (.slice a os.length cap)/\(∀q,w'.frozen? ⟨kb,q,Z⟩=aR)/\cJ (vk=(os.filter (alive z)).length/\Row w' 136 1 (.slice va vk vc) vk ((os.filter (alive z)).map λo=>ptr o.blk)/\(aM va vk vc).ownBlock=(aM a os.length cap).ownBlock/\jI (λk=>(aM a os.length cap).ownBlock=M k) wr w'/\w'.heap[kb]? =M (aL cs 100 (0,0))))
    (λe w' ⟨va,vk,vc,p1,p2,p3,p4,p5⟩=>by
     have q5:=(jI.below hV jB _).trans p5 (λ_ _ e=>e);have q6:=(q5.block _ (jE I.out.obj) ap).trans I.out.obj
     have q7:w'.heap[w.heap.size]? =_:=(q5.block _ (jE Y) (λe=>by
      obtain⟨a2,hc⟩:=I.out.chs.order.obj e;rw[Y]at hc;simp at hc)).trans Y
     exact⟨va,vk,vc,p1,by rw[aI q7];rfl,by rw[aI q6];exact h9,aQ q6,p2,p3,p4,q5,q6⟩)
   have aw:cJ _:=ae;have ak:=aJ wr.heap.size wr;clear hk h8 h9 h R zo aa Y ae ap;go_upto_region 7 with fail;go_region_with (go_at_call 68;(refine aT (aw.out _ ?_) ?_;(first|exact ak|exact ak.drew|exact below_drewN ak _);rintro e w5 ⟨va,vk,vc,rfl,bl,bp,bh,H5⟩))
   all_goals
    go_wp2_with fail;go_end0;obtain⟨a8,am,an,a0,av⟩:=H5.out;obtain⟨hk,h8,h9,h,R,zo,aa⟩:=H.out;subst a8;have ay:=I.out.chs.thin am a0;have ag:=jI.set w5 kb 9 (.slice va (os.filter (alive z)).length vc);refine⟨rfl,_,z,_,⟨jX av 9 _,ay.jM ag (λk aj e=>?_),?_,λk aj=>bN ?_,?_⟩,gZ _ _,?_⟩
    .subst e;exact ay.lK av aB aB aj
    .refine(((jI.below R jB _).trans I.out.jM (λk _ e=>cF (bN e))).trans a0 (λk _ e=>cF (cF (bN e)))).trans ag (λk _ e=>bN e)
    .obtain e|e|⟨x,hx,e⟩:=aj
     .exact bN e
     .exact cF (bN (by rw[<-an];exact e))
     .exact cF (cF ⟨x,(fU.1 hx).1,e⟩)
    .have:=gZ (alive z) os;omega
    .rw[PZ,I.out.lives]
def NV{w:X}{o:PC}(h:ChanAt w o):∃L:Nat,(∀V:X,(∀b,o.fm=M b->V.heap[b]? =w.heap[b]?)->(Builtin.len_ #[138] 3 #[.map o.fm]).run PQ V=.ok (N .i64 L) V)/\L<=65536/\(o.ended&&decide ((L:Int)=o.last+1))=(Dv.bytes o.ch.l).isSome:=by
 cases hs:o.ch.spoilt
 .obtain⟨⟨B,e,Y⟩,h1,h2,h3,h4⟩:=h.sound hs;refine⟨o.ch.l.length,λV hV=>?_,?_,?_⟩
  .rw[e];have:=(Y.of_block (hV B e)).len (P:=PQ) (uq ki) 3;rw[this];simp[uj,goInt]
  .have:=Dv.yu (a:=o.ch.l.map _) (b:=List.range 65536) h.fine.apart (λx R=>by
    obtain⟨y,J,rfl⟩:=bM.1 R;exact gV.2 (h.small y J).1)
   rw[bC,List.length_range]at this;exact this
  .rw[h3];cases z:Dv.last o.ch.l with
   |none=>
    have:Dv.bytes o.ch.l=Z:=by unfold Dv.bytes;rw[z];rfl
    rw[this];rfl
   |some n=>
    have hw:=Dv.F6 h.fine z;rw[h4 n z];have:((o.ch.l.length:Int)=n+1)↔o.ch.l.length=n+1:=aA
    cases E:(Dv.bytes o.ch.l).isSome with
    |true=>rw[Z0 ((this.trans hw).2 E)];rfl
    |false=>
     rw[ZZ (λh=>by
      have:=(this.trans hw).1 h;rw[E]at this;cases this)]
     rfl
 .obtain⟨e1,I⟩:=h.spoilt hs;refine⟨0,λV _=>?_,aA,?_⟩
  .rw[I];exact lS.len_nil (P:=PQ) (uq ki) 3
  .rw[e1];have:¬((0:Nat):Int)=(o.last:Int)+1:=by omega
   rw[ZZ this,Bool.and_false];rfl
def OY(o:PC)(w:X)(h:ChanAt w o):Calls PQ 79 #[Tz o.blk] w λe w'=>e=.returned (.bool (Dv.bytes o.ch.l).isSome)/\∃m,w'=w.drewN m:=by
 obtain⟨L,hL,ac,J⟩:=NV h;obtain⟨-,-,c2,-,c4,c5⟩:=Xk h.obj;obtain⟨r,E⟩:∃r,(Dv.bytes o.ch.l).isSome=r:=⟨_,rfl⟩
 rw[E]at J⊢;have aa:=λn=>hL (w.drewN n) (λ_ _=>rfl);have R:=h.lastLt;obtain⟨en,I⟩:∃en,o.ended=en:=⟨_,rfl⟩
 obtain⟨la,z⟩:∃la,o.last=la:=⟨_,rfl⟩
 rw[I]at c4 J;rw[z]at c5 J R;unfold Tz;have Y:cJ _:=J;clear h hL J E I z;go_enter (fq Tryz.func79 rfl),Tryz.ntmps79;go_upto_region 1 with fail;cases en
 .go_quiet (fail);go_wp2_with fail;go_ret;exact⟨by rw[<-Y.out];rfl,_,rfl⟩
 .go_quiet (fail);go_wp2_with fail;go_ret;exact⟨by rw[<-Y.out];rfl,_,rfl⟩
def QC{l:List F}{n:Nat}{d:List UInt8}(h:Dv.has l n=M d):∃x,x∈l/\x.num=n/\x.data=d/\l9 (uj l) n=M (Jw x):=by unfold Dv.has at h;rw[bI]at h;obtain⟨x,z,rfl⟩:=h;have E:=List.find?_some z;refine⟨x,List.mem_of_find?_eq_some z,by simpa using E,rfl,?_⟩;unfold l9 uj;rw[List.find?_map];have:l.find? ((λp:Nat×aD=>p.1 == n)∘λf=>(f.num,Jw f))=M x:=z;rw[this];rfl
def Rx{l:List F}:∀{k:Nat}{s:List UInt8},Dv.rP l k=M s->Small l->s.length<=k*65536
 |0,s,h,_=>by simp[Dv.rP]at h;subst h;simp
 |k+1,s,h,hs=>by
  unfold Dv.rP at h;cases E:Dv.rP l k with
  |none=>rw[E]at h;cases h
  |some t=>
   rw[E,gX,bI]at h;obtain⟨d,hd,rfl⟩:=h;have J:=Rx (l:=l) (k:=k) (s:=t) E hs;obtain⟨x,I,_,z,_⟩:=QC hd;have:=(hs x I).2;rw[aS,iP,<-z];omega
def NG(a b c d:aD)(w:X):(Instr.field 109 (.agg #[a,b,c,d]) 2).run PQ w=.ok c w:=XN
def OE(o:PC)(s:List UInt8)(w:X)(h:ChanAt w o)(hs:Dv.bytes o.ch.l=M s):Calls PQ 80 #[Tz o.blk] w λe w'=>e=.returned (.string ⟨s.toArray⟩)/\cG w.heap.size w w':=by
 have aq:o.ch.spoilt=aR:=by
  cases hx:o.ch.spoilt with
  |false=>rfl
  |true=>rw[(h.spoilt hx).1]at hs;cases hs
 obtain⟨⟨B,hB,hm⟩,h1,h2,h3,h4⟩:=h.sound aq
 obtain⟨n,hn,hg⟩:∃n,Dv.last o.ch.l=M n/\Dv.rP o.ch.l (n+1)=M s:=by
  unfold Dv.bytes at hs;cases hl:Dv.last o.ch.l with
  |none=>rw[hl]at hs;cases hs
  |some n=>rw[hl]at hs;exact⟨n,rfl,hs⟩
 have ah:=(Dv.F6 h.fine hn).2 (by rw[hs];rfl)
 have az:o.ch.l.length<=65536:=by
  have:=Dv.yu (a:=o.ch.l.map _) (b:=List.range 65536) h.fine.apart (λx hx=>by
   obtain⟨y,hy,rfl⟩:=bM.1 hx;exact gV.2 (h.small y hy).1)
  rw[bC,List.length_range]at this;exact this
 have ac:=h.obj;have aw:=(jE ac)
 obtain⟨W,hW,ag,-⟩:=jD w #[aG Z,aM Z 0 0] 201;have an:Zb w.heap.size w.heap.size [] W:=by rw[hW];exact fresh w
 have c2:∀V,cG w.heap.size w V->V.cell? ⟨o.blk,2,Z⟩=M (.map (M B)):=λV hV=>by rw[hV.cell (p:=⟨o.blk,2,Z⟩) aw,aI ac,<-hB];rfl
 have R:∀V,cG w.heap.size w V->lS V B .u16 (uj o.ch.l):=λV hV=>hm.of_block (hV.block _ hm.lt);have am:=(R W ag).len (P:=PQ) (uq ki) 3;rw[show(uj o.ch.l).length=n+1 from by unfold uj;rw[bC];exact ah]at am;have au:=c2 W ag;have J:=h.small;obtain⟨l,hl⟩:∃l,o.ch.l=l:=⟨_,rfl⟩
 rw[hl]at R hg J ah az
 have aa:∀k,k<=n+1->∃t,Dv.rP l k=M t:=λk hk=>by
  have h0:=Dv.uU (l:=l) (k:=n+1);rw[hg]at h0;have h1:=h0.1 rfl;exact Option.isSome_iff_exists.1 (Dv.uU.2 (λj hj=>h1 j aA))
 have H:cJ _:=jy c2 (jy R (jy hg (jy J aa)));have HB:cJ _:=jy ag an;unfold Tz;have a2:w.heap.size<W.heap.size:=by rw[hW];simp
 clear h hs hm h1 h2 h3 h4 hn ac ag an c2 R J hg aa hB hl aq;go_enter (fq Tryz.func80 rfl),Tryz.ntmps80;go_upto_region 2 with fail;rw[<-hW];clear hW;go_wp2_with fail;go_loopg [4,10] (n+1) (λgg _ ay wx=>∃(i:Nat)(t:List UInt8),i<=n+1/\ay=N .i64 i/\gg=n+1-i/\cJ (Dv.rP l i=M t/\Zb w.heap.size w.heap.size t wx/\cG w.heap.size w wx))
 case atStart=>exact⟨0,[],aA,rfl,rfl,rfl,HB.out.2,HB.out.1⟩
 case round=>
  obtain⟨i,t,hi,rfl,rfl,HI⟩:=hrel;clear au am;obtain⟨c2,R,hg,J,aa⟩:=H.out;by_cases a3:i<n+1
  .have ar:(i:Int)<n+1:=by omega
   obtain⟨t',I⟩:=aa (i+1) aA
   obtain⟨d,hd⟩:∃d,Dv.has l i=M d:=by
    unfold Dv.rP at I;rw[HI.out.1,gX,bI]at I;obtain⟨d,hd,_⟩:=I;exact⟨d,hd⟩
   have af:t'=t++d:=by
    have:=Dv.Ti HI.out.1 hd;rw[this]at I;exact(fC I).symm
   obtain⟨x,hx,av,aj,ai⟩:=QC hd;have E:=(R wr HI.out.2.2).lookup (P:=PQ) (uq ki) (uq Tryz.underlying107) (ab8 _) i aR;rw[ai]at E;simp only[bU,if_false,fH]at E;unfold Jw at E;rw[aj]at E;obtain⟨D,hD⟩:∃D:ByteArray,(⟨d.toArray⟩:ByteArray)=D:=⟨_,rfl⟩
   have ae:D.data.toList=d:=by rw[<-hD]
   have a4:D.size<=65536:=by rw[<-hD,<-aj];exact(J x hx).2
   rw[hD]at E;have e2:=c2 wr HI.out.2.2;have a0:=Rx HI.out.1 J;have z:=O1 _ _ t D wr HI.out.2.1 (by have:i*65536<=65536*65536:=fK _ aA;omega) HI.out.2.2.size;have Y:cJ _:=λ(_:Unit)=>z;have Hx:cJ _:=jy I (jy af ae);have a1:=NG;clear c2 R hg J aa I af hd hx av aj ai hD ae a0 z;go_wp2_with (go_at_call 119;refine aT (Y.out ()) ?_;rintro e w2 ⟨rfl,ao,ak⟩)
   go_roundg (n+1-(i+1))
   case measure=>omega
   case rel=>
    obtain⟨I,af,ae⟩:=Hx.out;exact⟨_,t',aA,by go_num,rfl,I,by rw[af,<-ae];exact ao,HI.out.2.2.trans ak⟩
  .have ar:¬(i:Int)<n+1:=by omega
   obtain rfl:i=n+1:=aA
   have ap:t=s:=by
    have:=HI.out.1;rw[hg]at this;exact(fC this).symm
   have z:=AU _ _ t wr HI.out.2.1 HI.out.2.2.size;rw[ap]at z;have Y:cJ _:=λ(_:Unit)=>z;clear c2 R hg J aa z ap;go_wp2_with (go_at_call 120;refine aT (Y.out ()) ?_;rintro e w2 ⟨rfl,ao,ak⟩)
   go_ret;exact⟨rfl,HI.out.2.2.trans ak⟩
section
variable {w A W W' XX:X}{n g off cap nb kb:Nat}{nm:AL}{o:PC}{os:List PC}{vo:aD}{l l0:List Ch}{s:List UInt8}{B:Nat->Prop}{pre:List (List UInt8)}{cs:Array aD}
def Row.tail{e:Nat}{x:aD}{xs:List aD}(h:Row w e 1 (aM (M ⟨g,off,Z⟩) (n+1) cap) (n+1) (x::xs)):Row w e 1 (.slice (if cap=1 then M ⟨g,off,Z⟩else M ⟨g,off+1,Z⟩) n (cap-1)) n xs:=by
 obtain⟨Y,h2⟩:=h;rw[aU]at Y;obtain⟨I,e2⟩|⟨g',J,R,z,I,h3,h4,h5,h6,h7⟩:=h2
 .cases e2
 .simp only[eJ,aK,Addr.mk.injEq]at I;obtain⟨⟨rfl,rfl,_⟩,_,rfl⟩:=I;by_cases hc:cap=1
  .rw[ZD hc];have hx:xs=[]:=bP aA;refine⟨aA,cF ⟨_,_,_,z,rfl,h3,aA,aA,aA,λj u E=>?_⟩⟩;rw[hx]at E;simp at E
  .rw[Zs hc];refine⟨aA,cF ⟨_,_,_,z,rfl,h3,aA,aA,aA,λj u E=>?_⟩⟩;rw[dV,Nat.add_comm 1 j];exact h7 _ u (by simpa using E)
def Chs.tail(h:Chs w nb (aM (M ⟨g,off,Z⟩) n cap) nm (o::os))(J:alive nm o=aR):Chs w nb (.slice (if cap=1 then M ⟨g,off,Z⟩else M ⟨g,off+1,Z⟩) os.length (cap-1)) nm os:=by
 have hn:n=os.length+1:=by
  obtain⟨a,c,e⟩:=Row.slice h.order;simp only[eJ]at e;simpa using e.2.1
 subst hn;have I:=h.apart;rw[eP,iE]at I;refine⟨h.named,Row.tail (by simpa using h.order),λx E=>h.chans x (cZ _ E),I.2,λa b J hb=>h.maps a b (cZ _ J) (cZ _ hb),λx E=>h.far x (cZ _ E),λp hp=>?_⟩;obtain⟨x,E,e⟩:=h.entries p hp;obtain rfl|E:=dD.1 E
 .exfalso
  have R:(nm.map Prod.fst).Nodup:=by
   obtain⟨es,c,_,_,q,_⟩:=h.named;exact q
  obtain⟨es,c,_,Y,_⟩:=h.named;have z:=Y.l9 R hp;rw[e]at z;rw[pX z]at J;simp at J
 .exact⟨x,E,e⟩
def NU(z:alive nm o=aR):lives nm (o::os)=lives nm os:=by unfold lives;rw[List.filter_cons_of_neg (by simp[z])]
def Bv(z:alive nm o=bB):lives nm (o::os)=o.ch::lives nm os:=by unfold lives;rw[List.filter_cons_of_pos (by simp[z])];rfl
def SK(h:Chs w nb vo nm (o::os))(I:alive nm o=bB):alive (nX nm o.ch.name) o=aR/\lives (nX nm o.ch.name) os=lives nm os:=by
 have hd:=GX I h.apart dQ h;have z:=h.apart;rw[eP,iE]at z;refine⟨by rw[hd o dQ];simp,?_⟩;unfold lives
 congr 1
 refine List.filter_congr (λx E=>?_);rw[hd x (cZ _ E)]
 have:(x.blk != o.blk)=bB:=by
  simp only[bne_iff_ne,ne_eq];intro e;exact z.1 (bM.2 ⟨x,E,e⟩)
 rw[this,Bool.and_true]
def OU{c:Ch}(h:Dv.bytes c.l=M s):Dv.pull (c::l)=(s::(Dv.pull l).1,(Dv.pull l).2):=by rw[Dv.pull,h]
def Td{c:Ch}(h:Dv.bytes c.l=Z):Dv.pull (c::l)=([],c::l):=by rw[Dv.pull,h]
structure PX where
 s:List UInt8
 vo:aD
 nm:AL
 os:List PC
def PX.encs(x:PX):Array aD:=#[.string ⟨x.s.toArray⟩]
def J9(z:PX)(pre:List PX):PX:=pre.foldl (λ_ x=>x) z
def tu(z:PX)(pre:List PX)(x:PX):J9 z (pre++[x])=x:=by simp[J9]
structure PS(kb nb:Nat)(B:Nat->Prop)(l0:List Ch)(pre:List (List UInt8))(W:X)(cs:Array aD)(vo:aD)(nm:AL)(os:List PC):Prop where
 obj:W.heap[kb]? =M (aL cs 100 (0,0))
 named:cs[8]? =M (.map (M nb))
 order:cs[9]? =M vo
 chs:Chs W nb vo nm os
 len:os.length<=4294967296
 pull:Dv.pull l0=(pre++(Dv.pull (lives nm os)).1,(Dv.pull (lives nm os)).2)
 own:∀k,Own nb vo os k->B k
def PSt(kb E nb:Nat)(B:Nat->Prop)(l0:List Ch)(z:PX)(pre:List PX)(W:X):Prop:=(∃cs,PS kb nb B l0 (pre.map PX.s) W cs (J9 z pre).vo (J9 z pre).nm (J9 z pre).os)/\W.cell? ⟨E,0,Z⟩=M (aG (M ⟨kb,8,Z⟩))
def PEn(kb nb:Nat)(B:Nat->Prop)(l0:List Ch)(pre:List PX)(W:X):Prop:=∃cs vo nm os,PS kb nb B l0 (pre.map PX.s) W cs vo nm os/\lives nm os=(Dv.pull l0).2/\pre.map PX.s=(Dv.pull l0).1
def PY(kb z nb:Nat)(B:Nat->Prop)(l0:List Ch)(E:PX)(pre:List PX)(x:PX)(_:Nat)(W:X):Prop:=PSt kb z nb B l0 E (pre++[x]) W
def EK(kb:Nat)(A B:X):Prop:=∀(cs:Array aD)(t:Nat)(z:Nat×Nat),A.heap[kb]? =M (aL cs t z)->∃v,B.heap[kb]? =M (aL (cs.setIfInBounds 9 v) t z)
def EK.refl(kb:Nat)(A:X):EK kb A A:=λcs t E h=>⟨cs[9]?.getD .nilFunc,by
 rw[h]
 congr 2
 apply gB;intro i;rw[aV];split
 .rename_i e;subst e;split
  .rename_i z;rw[dA z];rfl
  .rename_i z;exact Array.getElem?_eq_none aA
 .rfl⟩
def EK.trans{B C:X}(E:EK kb A B)(h2:EK kb B C):EK kb A C:=λcs t z h=>by
 obtain⟨v,h3⟩:=E cs t z h;obtain⟨v',h4⟩:=h2 _ t z h3;exact⟨v',by rw[h4];simp⟩
def EK.same{B:X}(h:B.heap[kb]? =A.heap[kb]?):EK kb A B:=λcs t z hc=>by
 obtain⟨v,E⟩:=EK.refl kb A cs t z hc;exact⟨v,h.trans E⟩
def EK.put{l:Nat}{B:X}(h:EK kb A B)(o:Obj)(E:kb<l):EK kb (A.putObj l o) (B.putObj l o):=λcs t z hc=>by
 rw[World.putObj_heap_other aA]at hc⊢;exact h cs t z hc
def PS.jM(h:PS kb nb B l0 pre W cs vo nm os){XS:Nat->Prop}(hc:jI XS W W')(hk:¬XS kb)(z:∀k,B k->¬XS k):PS kb nb B l0 pre W' cs vo nm os:=
 ⟨(hc.block _ (jE h.obj) hk).trans h.obj,h.named,h.order,h.chs.jM hc (λk hk=>z k (h.own k hk)),h.len,h.pull,h.own⟩
def PS.below(h:PS kb nb B l0 pre W cs vo nm os)(z:cG W.heap.size W W'):PS kb nb B l0 pre W' cs vo nm os:=
 h.jM (.below z jB (λ_=>False)) (λe=>e) (λ_ _ e=>e)
def oL(kb:Nat)(W:X):Nat:=match W.cell? ⟨kb,9,Z⟩with
 |some (.slice _ n _)=>n
 |_=>0
def PS.ab7(h:PS kb nb B l0 pre W cs vo nm os):W.cell? ⟨kb,8,Z⟩=M (.map (M nb)):=by rw[aI h.obj];exact h.named
def PS.abM(h:PS kb nb B l0 pre W cs vo nm os):W.cell? ⟨kb,9,Z⟩=M vo:=by rw[aI h.obj];exact h.order
def PS.oL(h:PS kb nb B l0 pre W cs vo nm os):oL kb W=os.length:=by obtain⟨a,cap,e⟩:=Row.slice h.chs.order;unfold Hm.oL;rw[h.abM,e]
def PS.skip(h:PS kb nb B l0 pre W cs (aM (M ⟨g,off,Z⟩) n cap) nm (o::os))(R:alive nm o=aR)(z:W'.heap[kb]? =M (aL (cs.setIfInBounds 9 (.slice (if cap=1 then M ⟨g,off,Z⟩else M ⟨g,off+1,Z⟩) os.length (cap-1))) 100 (0,0)))(hc:jI (λk=>k=kb) W W'):
  PS kb nb B l0 pre W' (cs.setIfInBounds 9 (.slice (if cap=1 then M ⟨g,off,Z⟩else M ⟨g,off+1,Z⟩) os.length (cap-1))) (.slice (if cap=1 then M ⟨g,off,Z⟩else M ⟨g,off+1,Z⟩) os.length (cap-1)) nm os:=by
 have I:=h.chs.lK h.obj aB aB;have J:=(jE h.order)
 have E:=h.len;rw[aU]at E;refine⟨z,by rw[aV];simpa using h.named,by rw[aV];simp[J],(h.chs.jM hc (λk hk e=>I (e ▸ hk))).tail R,aA,by have:=h.pull;rw[NU R]at this;exact this,λk hk=>h.own k ?_⟩;obtain e|e|⟨x,Y,e⟩:=hk
 .exact bN e
 .exact cF (bN (by split at e<;>exact e))
 .exact cF (cF ⟨x,cZ _ Y,e⟩)
def PS.take(h:PS kb nb B l0 pre W cs (aM (M ⟨g,off,Z⟩) n cap) nm (o::os))(ha:alive nm o=bB)(hs:Dv.bytes o.ch.l=M s){E:X}(z:W'.heap[kb]? =M (aL (cs.setIfInBounds 9 (.slice (if cap=1 then M ⟨g,off,Z⟩else M ⟨g,off+1,Z⟩) os.length (cap-1))) 100 (0,0)))(hc:jI (λk=>k=kb) W W')(hm:lS E nb .u32 (nX nm o.ch.name))(R:jI (λk=>k=nb) W' E):
  PS kb nb B l0 (pre++[s]) E (cs.setIfInBounds 9 (.slice (if cap=1 then M ⟨g,off,Z⟩else M ⟨g,off+1,Z⟩) os.length (cap-1))) (.slice (if cap=1 then M ⟨g,off,Z⟩else M ⟨g,off+1,Z⟩) os.length (cap-1)) (nX nm o.ch.name) os:=by
 have I:=h.chs.lK h.obj aB aB;have aa:=(jE h.order)
 have Y:=h.len;rw[aU]at Y;have hd:=SK h.chs ha;have J:=h.chs.jM hc (λk hk e=>I (e ▸ hk));refine⟨(R.block kb (jE z) (λe=>I (bN e))).trans z,by rw[aV];simpa using h.named,by rw[aV];simp[aa],(J.del hm R).tail hd.1,aA,?_,λk hk=>h.own k ?_⟩
 .rw[h.pull,Bv ha,OU hs,hd.2];simp
 .obtain e|e|⟨x,hx,e⟩:=hk
  .exact bN e
  .exact cF (bN (by split at e<;>exact e))
  .exact cF (cF ⟨x,cZ _ hx,e⟩)
structure Cut(kb:Nat)(cs:Array aD)(v:aD)(W XX:X):Prop where
 obj:XX.heap[kb]? =M (aL (cs.setIfInBounds 9 v) 100 (0,0))
 jM:jI (λk=>k=kb) W XX
 ek:EK kb W XX
def Cut.of{V:X}(h:PS kb nb B l0 pre W cs vo nm os){v:aD}(E:cG W.heap.size W V)(I:(V.setCell ⟨kb,9,Z⟩ v).drew=XX):Cut kb cs v W XX:=by
 have hc:jI (λk=>k=kb) W XX:=by
  rw[<-I];exact((jI.below E jB _).trans (jI.set _ kb 9 v) (λ_ _ e=>e)).trans (jI.drew _ _) (λ_ _ e=>e)
 have z:XX.heap[kb]? =M (aL (cs.setIfInBounds 9 v) 100 (0,0)):=by
  rw[<-I];have:=(E.block _ (jE h.obj)).trans h.obj;exact block_setCell this v
 refine⟨z,hc,λcs' t J hk=>?_⟩;rw[h.obj]at hk;cases hk;exact⟨v,z⟩
def PS.goes{Y Wd:X}(h:PS kb nb B l0 pre W cs (aM (M ⟨g,off,Z⟩) n cap) nm (o::os))(R:alive nm o=bB)(hs:Dv.bytes o.ch.l=M s)(z:Cut kb cs (.slice (if cap=1 then M ⟨g,off,Z⟩else M ⟨g,off+1,Z⟩) os.length (cap-1)) W XX)(hY:cG XX.heap.size XX Y)(J:lS Wd nb .u32 (nX nm o.ch.name))(hg:Y.drew.grownBy Wd (M nb)):
  PS kb nb B l0 (pre++[s]) Wd (cs.setIfInBounds 9 (.slice (if cap=1 then M ⟨g,off,Z⟩else M ⟨g,off+1,Z⟩) os.length (cap-1))) (.slice (if cap=1 then M ⟨g,off,Z⟩else M ⟨g,off+1,Z⟩) os.length (cap-1)) (nX nm o.ch.name) os/\jI (λk=>k=kb\/k=nb) W Wd/\EK kb W Wd/\ChanAt Wd o/\jI (λk=>k=nb) XX Wd:=by
 have I:=h.chs.lK h.obj aB aB;have E:jI (λk=>k=nb) XX Wd:=((jI.below hY jB _).trans (jI.drew _ _) (λ_ _ e=>e)).trans (.grown hg) (λk _ e=>by simpa using e.symm);have hC:=h.chs.jM z.jM (λk hk e=>I (e ▸ hk));refine⟨h.take R hs z.obj z.jM J E,(z.jM.mono (λk _ e=>bN e)).trans E (λk _ e=>cF e),z.ek.trans (EK.same (E.block kb (jE z.obj) (λe=>I (bN e)))),?_,E⟩;exact(hC.del J E).chans o dQ
def PS.stop{pre:List PX}(h:PS kb nb B l0 (pre.map PX.s) W cs vo nm os)(R:os=[]\/∃o z,os=o::z/\alive nm o=bB/\Dv.bytes o.ch.l=Z):PEn kb nb B l0 pre W:=by
 have hp:Dv.pull (lives nm os)=([],lives nm os):=by
  obtain rfl|⟨o,z,rfl,I,J⟩:=R
  .rfl
  .rw[Bv I];exact Td J
 have E:=h.pull;rw[hp,gI]at E;exact⟨cs,vo,nm,os,h,by rw[E],by rw[E]⟩
end
end Hm
namespace Hm
open Go.RowKit Go.Joins
open Dv (Ch Fine)
open Fr (F below_drewN)
attribute [local go_sem] Oper.semAt_some
def JM(kb cB nb:Nat)(B:Nat->Prop)(l0:List Ch)(p0:PX)(a9:cB≠kb)(a4:cB≠nb):PK PQ 78 #[aG (M ⟨cB,0,Z⟩)] PX.encs (λk=>k=kb\/k=nb) (EK kb) (PSt kb cB nb B l0 p0) (PEn kb nb B l0) (PY kb cB nb B l0 p0) (λ_=>True) (λ_=>True):=by
 intro l J Jx W hM bd a1 a3 a6;have HY:cJ _:=a3;have bn:cJ _:=a6;have HS:cJ _:=a1;have cb:=a1.2;have HM:cJ _:=jy hM (jy bd (jy a9 a4));clear a3 a6 a1 hM bd a9 a4;refine iN.2 ?_;go_enter (fq Tryz.func78 rfl),Tryz.ntmps78;go_wp2_with fail
 go_loopw [3] (λ_ wr=>∃(ai:List PX)(W0:X)(cs:Array aD)(vo:aD)(nm:AL)(os:List PC),wr.cell? ⟨cB,0,Z⟩=M (aG (M ⟨kb,8,Z⟩))/\cJ (J ai W0/\jI (λk=>k=kb\/k=nb) W0 wr/\EK kb W0 wr/\PS kb nb B l0 (ai.map PX.s) wr cs vo nm os))
  (λ_ wr=>oL kb wr)
 case atStart=>
  obtain⟨⟨cs,h⟩,_⟩:=HS.out;exact⟨[],W,cs,_,_,_,cb,⟨bn.out,jI.refl _ _,EK.refl _ _,h⟩⟩
 case round=>
  clear cb;obtain⟨ai,W0,cs,vo,nm,os,cb,Hr⟩:=hrel;obtain⟨hJ,hc,hE,I⟩:=Hr.out;have c8:=I.ab7;have c9:=I.abM;cases os with
  |nil=>
   obtain⟨a,cap,e⟩:=Row.slice I.chs.order;simp only[bY]at e;subst e;clear hJ hc hE I;go_wp2_with fail;go_end0;obtain⟨hJ,hc,hE,I⟩:=Hr.out;exact⟨⟨_,rfl⟩,bN ⟨ai,W0,trivial,hJ,hc,hE,I.stop (bN rfl)⟩⟩
  |cons o os=>
   obtain⟨g,off,cap,e,bq⟩:=Row.pos I.chs.order aC;have k0:=Row.cell I.chs.order e 0 (ptr o.blk) aC;subst e;have ac:=rU kb nb 8 nm _ o wr I.chs.core dQ c8;have ba:=(I.chs.chans o dQ).obj;have c0:=kJ ba;have fk:=aQ I.obj;have aq:(1:Int)<=(((o::os).length:Nat):Int):=by rw[aU];omega
   have a0:(0:Int)<(((o::os).length:Nat):Int):=by rw[aU];omega
   obtain⟨n,hn⟩:∃n,(o::os).length=n:=⟨_,rfl⟩
   rw[hn]at aq a0 c9 bq;rw[Nat.add_zero]at k0;obtain⟨b,hb⟩:∃b,alive nm o=b:=⟨_,rfl⟩
   rw[hb]at ac;unfold ptr at k0 ac;have aj:cJ _:=λ(_:Unit)=>ac;have Hb:cJ _:=jy hb hn;clear hJ hc hE I ba ac hb hn;cases b with
   |false=>
    go_upto_region 3 with(go_at_call 67;refine aT (aj.out ()) ?_;rintro e w2 ⟨rfl,m,rfl⟩)
    generalize hV:mn _ _=V;have an:V.cell? ⟨cB,0,Z⟩=M (aG (M ⟨kb,8,Z⟩)):=by rw[<-hV];exact cb
    have a2:V.cell? ⟨kb,9,Z⟩=M (aM (M ⟨g,off,Z⟩) n cap):=by rw[<-hV];exact c9
    have av:∀q,V.frozen? ⟨kb,q,Z⟩=aR:=λq=>by rw[<-hV];exact fk q
    have HV:cJ (cG wr.heap.size wr V):=by rw[<-hV];exact below_drewN (aJ _ _) _
    clear hV cb c9 c8 k0 c0 fk;go_region;generalize hZ:World.drew _=XX;obtain⟨hJ,hc,hE,I⟩:=Hr.out;obtain⟨hb,hn⟩:=Hb.out;have am:n-1=os.length:=by rw[<-hn,aU];omega
    rw[am]at hZ;have E:=Cut.of I HV.out hZ;have af:=I.skip hb E.obj E.jM;have ah:=I.chs.lK I.obj aB aB;have R:=I.chs.core.jM E.jM (λe=>ah (bN e.symm)) (λx hx e=>ah (cF (cF ⟨x,hx,bN e.symm⟩)));have z:=rU kb nb 8 nm _ o XX R dQ af.ab7;rw[hb]at z;unfold ptr at z;have aa:cJ _:=λ(_:Unit)=>z
    have ae:XX.cell? ⟨cB,0,Z⟩=M (aG (M ⟨kb,8,Z⟩)):=by
     rw[<-hZ];exact(cD (aW _ _ _ _ HM.out.2.2.1)).trans an
    have HZ:cJ _:=jy E (jy af ae);have HP:cJ _:=jy hJ (jy hc (jy hE I));clear hJ hc hE I hb hn am hZ E af ah R z an a2 av;go_wp2_with (go_at_call 67;refine aT (aa.out ()) ?_;rintro e w2 ⟨rfl,m2,rfl⟩)
    go_roundw
    case rel=>
     obtain⟨hJ,hc,hE,I⟩:=HP.out;obtain⟨E,af,ae⟩:=HZ.out;exact⟨ai,W0,_,_,_,os,ae,⟨hJ,(hc.trans E.jM (λk _ e=>bN e)).trans (.below (below_drewN (aJ _ _) _) jB _) (λ_ _ e=>e),hE.trans (E.ek.trans (EK.same rfl)),af.below (below_drewN (aJ _ _) _)⟩⟩
    case measure=>
     obtain⟨hJ,hc,hE,I⟩:=HP.out;obtain⟨E,af,ae⟩:=HZ.out;have h1:=(af.below (below_drewN (aJ _ _) m2)).oL;have h2:=I.oL;rw[h1,h2,aU];omega
   |true=>
    have ag:=λk=>OY o _ ((Hr.out.2.2.2.chs.chans o dQ).jM (.below (below_drewN (aJ _ _) k) jB _) (λe=>e) (λ_ _ e=>e));unfold Tz at ag;cases hs:Dv.bytes o.ch.l with
    |none=>
     rw[hs]at ag;have ar:cJ _:=ag;clear ag;go_wp2_with (first|(go_at_call 67;refine aT (aj.out ()) ?_;rintro e w2 ⟨rfl,m,rfl⟩)|(go_at_call 79;refine aT (ar.out _) ?_;rintro e w3 ⟨rfl,m3,rfl⟩))
     refine cN (po rfl _ _ _) rfl ?_;obtain⟨hJ,hc,hE,I⟩:=Hr.out;have ak:cG wr.heap.size wr (wr.drewN (m+m3)):=below_drewN (aJ _ _) _;exact⟨⟨_,rfl⟩,bN ⟨ai,W0,trivial,hJ,hc.trans (.below ak jB _) (λ_ _ e=>e),hE.trans (EK.same rfl),(I.below ak).stop (cF ⟨o,os,rfl,Hb.out.1,hs⟩)⟩⟩
    |some s=>
     rw[hs]at ag;have ar:cJ _:=ag;clear ag;go_upto_region 3 with(first|(go_at_call 67;refine aT (aj.out ()) ?_;rintro e w2 ⟨rfl,m,rfl⟩)|(go_at_call 79;refine aT (ar.out _) ?_;rintro e w3 ⟨rfl,m3,rfl⟩))
     have ak:cG wr.heap.size wr (wr.drewN (m+m3)):=below_drewN (aJ _ _) _;revert ak;generalize hV:mn _ _=V;intro ak;have an:V.cell? ⟨cB,0,Z⟩=M (aG (M ⟨kb,8,Z⟩)):=by rw[<-hV];exact cb
     have a2:V.cell? ⟨kb,9,Z⟩=M (aM (M ⟨g,off,Z⟩) n cap):=by rw[<-hV];exact c9
     have av:∀q,V.frozen? ⟨kb,q,Z⟩=aR:=λq=>by rw[<-hV];exact fk q
     have HV:cJ (cG wr.heap.size wr V):=ak;clear hV cb c9 c8 k0 c0 fk ak;go_region;generalize hq:(if cap=1 then M ({ block:=g,off:=off }:fR)else M { block:=g,off:=off+1 })=q;generalize hZ:World.drew _=XX;obtain⟨hJ,hc,hE,I⟩:=Hr.out;obtain⟨hb,hn⟩:=Hb.out;have am:n-1=os.length:=by rw[<-hn,aU];omega
     rw[am]at hZ;have E:=Cut.of I HV.out hZ;rw[<-hq]at E;have ah:=I.chs.lK I.obj aB aB;have R:=I.chs.core.jM E.jM (λe=>ah (bN e.symm)) (λx hx e=>ah (cF (cF ⟨x,hx,bN e.symm⟩)))
     have h8:XX.cell? ⟨kb,8,Z⟩=M (.map (M nb)):=by
      rw[aI E.obj,aV];simpa using I.named
     have z:=rU kb nb 8 nm _ o XX R dQ h8;rw[hb]at z;unfold ptr at z;have aa:cJ _:=λ(_:Unit)=>z
     have ae:XX.cell? ⟨cB,0,Z⟩=M (aG (M ⟨kb,8,Z⟩)):=by
      rw[<-hZ];exact(cD (aW _ _ _ _ HM.out.2.2.1)).trans an
     have c0:XX.cell? ⟨o.blk,0,Z⟩=M (N .u32 o.ch.name):=by rw[aI (R.objs o dQ)];rfl
     have HZ:cJ _:=jy E R;have HP:cJ _:=jy hJ (jy hc (jy hE (jy I (jy hb hs))));clear hJ hc hE I hb hn am hZ E ah R z an a2 av hs hq;go_upto_region 5 with(go_at_call 67;refine aT (aa.out ()) ?_;rintro e w2 ⟨rfl,m2,rfl⟩)
     generalize hY:mn _ _=Y;have bg:cG XX.heap.size XX Y:=by rw[<-hY];exact below_drewN (aJ _ _) _
     have au:Y.cell? ⟨cB,0,Z⟩=M (aG (M ⟨kb,8,Z⟩)):=by rw[<-hY];exact ae
     have bm:Y.cell? ⟨kb,8,Z⟩=M (.map (M nb)):=by rw[<-hY];exact h8
     have br:Y.cell? ⟨o.blk,0,Z⟩=M (N .u32 o.ch.name):=by rw[<-hY];exact c0
     have a8:lS Y.drew nb .u32 nm:=by rw[<-hY];exact HZ.out.2.named.of_block rfl
     have bp:cJ _:=a8;have bo:cJ _:=bg;clear hY ae h8 c0 a8 bg;go_region_law ((refine rJ (by rfl) (.tmp 39) (.tmp 43) 93 22 (by rfl) 136 _ (uq oS) (uq lm) nb nm o.ch.name (by rfl) (by rfl) bp.out ?_;intro w7 a5 ay bv))
     all_goals
      obtain⟨hJ,hc,hE,I,hb,hs⟩:=HP.out;obtain⟨q1,q2,q3,q4,q5⟩:=I.goes hb hs HZ.out.1 bo.out a5 ay;have bb:=(cD ((jI.grown ay).block cB (fG Y _ au) (λe=>HM.out.2.2.2 (by simpa using e.symm)))).trans au;have aw:=OE o s w7 q4 hs;unfold Tz at aw;have bu:cJ _:=λ(_:Unit)=>aw;have H7:cJ _:=jy q1 (jy (hc.trans q2 (λ_ _ e=>e)) (jy (hE.trans q3) (jy bb hJ)));clear hJ hc hE I hb hs q1 q2 q3 q4 q5 bb aw a5 ay bv au bm br;go_upto_region 6 with fail;refine(wpIn_wide (n:=2)).1 ?_;gi_wp2;refine⟨trivial,(iN.2 (bu.out ())).mono ?_⟩;rintro e w8 ⟨rfl,ap⟩;obtain⟨q1,q2,q3,q4,hJ⟩:=H7.out;obtain⟨fn,tmps,assign,body,bw,hR⟩:=HY.out ai ⟨s,_,_,os⟩ W0 w8 hJ (q2.trans (.below ap jB _) (λ_ _ e=>e)) (q3.trans (EK.same (ap.block kb (jE q1.obj)))) ⟨⟨_,by rw[tu,bJ];exact q1.below ap⟩,(ap.cell (p:=⟨cB,0,Z⟩) (fG w7 _ q4)).trans q4⟩;simp only[PX.encs]at bw;have HR:cJ _:=hR;clear hR q1 q2 q3 q4 hJ;gi_wp2;refine RoundIn.mono HR.out ?_;rintro e W3 (⟨rfl,ao,bl,a7,bs⟩|⟨rfl,bh⟩)
      .have H3:cJ _:=jy ao a7;clear ao bl a7 bs;gi_wp2;go_wp2_with fail;go_roundw
       case rel=>
        obtain⟨ao,⟨⟨bk,az⟩,bj⟩⟩:=H3.out;exact⟨_,W3,bk,_,_,_,bj,⟨ao,jI.refl _ _,EK.refl _ _,az⟩⟩
       case measure=>
        obtain⟨ao,⟨⟨bk,az⟩,bj⟩⟩:=H3.out;have h1:=az.oL;have h2:=Hr.out.2.2.2.oL;rw[tu]at h1;rw[h1,h2,aU];exact Nat.lt_succ_self _
      .gi_wp2;go_wp2_with fail;refine cN (po rfl _ _ _) rfl ?_;exact⟨⟨_,rfl⟩,cF ⟨_,W3,trivial,bh,jI.refl _ _,EK.refl _ _⟩⟩
end Hm
namespace Hm
open Go.RowKit Go.Joins Go.Shelf
open Dv (X2 Cf Ba)
section
variable {a:Act}{d k:Nat}{v:aD}
noncomputable def qN:Array Oper:=match Tryz.f31.body with
 |some (.seq _ (.seq _ (.seq _ (.seq _ (.seq _ (.seq _ (.block _ (.rangeFunc _ _ _ (.block _ (.seq _ (.block _ (.rangeFunc _ _ _ (.block _ (.seq _ (.cond _ (.seq _ (.region _ ops _)) _)))))))))))))))=>ops
 |_=>#[]
def abh:∀q0 q1 q2 q3 q4 q5 q6 q7 q8 q9 q10:Bool,fL .any qN #[q0,q1,q2,q3,q4,q5,q6,q7,q8,q9,q10]=[]->q10=bB:=by decide+kernel
def adh(q0 q1 q2 q3 q4 q5 q6 q7 q8 q9 q10:Bool)(i:Nat):Bool:=decide (i<11/\(i=2->q1=bB)/\(i=3->q2=bB)/\(i=4->q3=bB/\q4=aR)/\(i=6->q5=bB/\q6=aR)/\(i=7->q4=bB/\q6=bB/\q7=aR)/\(i=8->q0=bB)/\(i=9->q8=bB)/\(i=10->q9=bB/\q7=bB/\q10=aR))
def acU:∀q0 q1 q2 q3 q4 q5 q6 q7 q8 q9 q10:Bool,(fL .any qN #[q0,q1,q2,q3,q4,q5,q6,q7,q8,q9,q10]).all (adh q0 q1 q2 q3 q4 q5 q6 q7 q8 q9 q10)=bB:=by decide+kernel
def jG{u:aD}(z:d≠k)(h:a.tmps[k]? =M u):(a.put (M d) v).tmps[k]? =M u:=by rw[I9,Zs z];exact h
def EY(hd:d<a.tmps.size):(a.put (M d) v).tmps[d]? =M v:=by rw[I9,ZD rfl,ZD hd]
def pq:(a.put (M d) v).tmps.size=a.tmps.size:=by unfold Act.put;simp
def bt(e d t:Nat)(ta:Option fR)(tn tc p:Nat):List aD:=[N .i64 e,N .i64 d,N .i64 t,.slice ta tn tc,N .i64 p]
structure RB(W:X)(b2 b10 kb n:Nat)(vw:aD)(xs:List aD)(cs:Array aD)(e d t:Nat)(ta:Option fR)(tn tc p:Nat):Prop where
 h2:W.heap[b2]? =M (aL #[ptr kb] 71 (0,0))
 hk:W.heap[kb]? =M (aL cs 100 (0,0))
 hw:cs[10]? =M vw
 h10:W.heap[b10]? =M (aL (bt e d t ta tn tc p).toArray 118 (0,0))
 row:Row W 118 5 vw n xs
 ne:vw.ownBlock≠M b10
 len:n<4294967296
structure RI(W:X)(b2 b10 kb n:Nat)(vw:aD)(xs:List aD)(e d t:Nat)(ta:Option fR)(tn tc p:Nat)(q0 q1 q2 q3 q4 q5 q6 q7 q8 q9 q10:Bool)(a:Act)(w:X):Prop where
 sz:a.tmps.size=93
 t2:a.tmps[2]? =M (ptr b2)
 t10:a.tmps[10]? =M (ptr b10)
 s0:q0=bB->a.tmps[83]? =M (ptr kb)
 s1:q1=bB->a.tmps[84]? =M (ptr kb)
 s2:q2=bB->a.tmps[85]? =M (ptr kb)
 s3:q3=bB->a.tmps[86]? =M (aG (M ⟨kb,10,Z⟩))
 s4:q4=bB->a.tmps[87]? =M (vw)
 s5:q5=bB->a.tmps[88]? =M (.agg (bt e d t ta tn tc p).toArray)
 s6:q6=bB->a.tmps[89]? =M (aM (M ⟨W.heap.size,0,Z⟩) 1 1)
 s8:q8=bB->a.tmps[91]? =M (ptr kb)
 s9:q9=bB->a.tmps[92]? =M (aG (M ⟨kb,10,Z⟩))
 w6:q6=aR->w=W
 w7:q6=bB->q7=aR->w=W.alloc (aL (bt e d t ta tn tc p).toArray 118)
 w10:q7=bB->∃g off cap w1,Row w1 118 5 (aM (M ⟨g,off,Z⟩) (n+1) cap) (n+1) (xs++bt e d t ta tn tc p)/\Grew vw g (W.alloc (aL (bt e d t ta tn tc p).toArray 118)) w1/\a.tmps[90]? =M (aM (M ⟨g,off,Z⟩) (n+1) cap)/\w=if q10=bB then w1.setCell ⟨kb,10,Z⟩ (aM (M ⟨g,off,Z⟩) (n+1) cap)else w1
 c7:q7=bB->q4=bB/\q6=bB
 c10:q10=bB->q7=bB
section
variable {W:X}{b2 b10 kb n:Nat}{vw:aD}{xs:List aD}{cs:Array aD}{e d t:Nat}{ta:Option fR}{tn tc p:Nat}{q0 q1 q2 q3 q4 q5 q6 q7 q8 q9 q10:Bool}{a:Act}{w:X}
def RI.kept(h:RI W b2 b10 kb n vw xs e d t ta tn tc p q0 q1 q2 q3 q4 q5 q6 q7 q8 q9 q10 a w){ob:Obj}(hk:W.heap[k]? =M ob)(R:k≠kb)(h2:vw.ownBlock≠M k):w.heap[k]? =M ob:=by
 have J:=(jE hk)
 have z:∀o,(W.alloc o).heap[k]? =M ob:=λo=>(aZ _ _ _ J).trans hk;cases E:q6 with
 |false=>rw[h.w6 E];exact hk
 |true=>
  cases I:q7 with
  |false=>rw[h.w7 E I];exact z _
  |true=>
   obtain⟨g,off,cap,w1,hr,Y,_,hw⟩:=h.w10 I;have h3:=(Y.jM.block k (dY.1 (z _)).1 h2).trans (z _);rw[hw];split
   .exact(aW _ _ _ _ R).trans h3
   .exact h3
def RB.ne2(z:RB W b2 b10 kb n vw xs cs e d t ta tn tc p):b2≠kb/\vw.ownBlock≠M b2/\b10≠kb/\vw.ownBlock≠M kb:=by
 refine⟨λe=>?_,jH z.row z.h2 aB,λe=>?_,jH z.row z.hk aB⟩
 .have:=z.h2;rw[e,z.hk]at this;simp at this
 .have:=z.h10;rw[e,z.hk]at this;simp at this
def V4{l m:Nat}{Q:Exit->Act->X->Prop}(hB:RB W b2 b10 kb n vw xs cs e d t ta tn tc p)(ao:a.tmps.size=93)(au:a.tmps[2]? =M (ptr b2))(ak:a.tmps[10]? =M (ptr b10))(hQ:∀a' g off cap w1,Row w1 118 5 (aM (M ⟨g,off,Z⟩) (n+1) cap) (n+1) (xs++bt e d t ta tn tc p)->Grew vw g (W.alloc (aL (bt e d t ta tn tc p).toArray 118)) w1->Q .normal a' (w1.setCell ⟨kb,10,Z⟩ (aM (M ⟨g,off,Z⟩) (n+1) cap))):wpAnyIn (Fence.wide.inRound l) m PQ .any qN Q 11 (Array.replicate 11 aR) a W:=by
 obtain⟨i0,hi,aq,av,ar⟩:=info_parts Bf;obtain⟨af,ag,ae⟩:=hB.row.slice;obtain⟨ay,ap,am,az⟩:=hB.ne2;refine uJ (λL a w=>∃q0 q1 q2 q3 q4 q5 q6 q7 q8 q9 q10,L=#[q0,q1,q2,q3,q4,q5,q6,q7,q8,q9,q10]/\RI W b2 b10 kb n vw xs e d t ta tn tc p q0 q1 q2 q3 q4 q5 q6 q7 q8 q9 q10 a w) ?_ ?_ 11 _ a W aB ⟨aR,aR,aR,aR,aR,aR,aR,aR,aR,aR,aR,rfl,?_⟩
 .rintro L a w ⟨q0,q1,q2,q3,q4,q5,q6,q7,q8,q9,q10,rfl,h⟩ hr;have h10:=abh q0 q1 q2 q3 q4 q5 q6 q7 q8 q9 q10 hr;obtain⟨g,off,cap,w1,h1,h2,h3,h4⟩:=h.w10 (h.c10 h10);rw[h4,ZD h10];exact hQ _ _ _ _ _ h1 h2
 .rintro L a w i ⟨q0,q1,q2,q3,q4,q5,q6,q7,q8,q9,q10,rfl,h⟩ hr;have hn:=Z2 (fF.1 (acU q0 q1 q2 q3 q4 q5 q6 q7 q8 q9 q10) i hr);have h2:=h.kept hB.h2 ay ap;have h10:=h.kept hB.h10 am hB.ne;obtain⟨aj,d2,d3,d4,d6,d7,d8,d9,aa⟩:=hn
  match i,aj with
  |0,_=>
   obtain⟨o,J,E,z,R⟩:∃o,qN[0]? =M o/\o.op=.load 71 (.tmp 2)/\o.dst=M 83/\o.guard=Z:=⟨_,rfl,rfl,rfl,rfl⟩
   have I:∀c,o.op≠.defer c:=by rw[E];intro c hc;cases hc
   have hc:=kJ h2;unfold ptr at hc
   refine lZ (v:=aG (M ⟨kb,0,Z⟩)) (w':=w) J R I (by
    unfold bO;simp only[E,kD h.t2,ptr];simp[go_sem,hc]) ?_
   rw[z];exact⟨bB,q1,q2,q3,q4,q5,q6,q7,q8,q9,q10,rfl,⟨by rw[pq];exact h.sz,jG aB h.t2,jG aB h.t10,λ_=>EY (d:=83) (by rw[h.sz];decide),λe=>jG aB (h.s1 e),λe=>jG aB (h.s2 e),λe=>jG aB (h.s3 e),λe=>jG aB (h.s4 e),λe=>jG aB (h.s5 e),λe=>jG aB (h.s6 e),λe=>jG aB (h.s8 e),λe=>jG aB (h.s9 e),h.w6,h.w7,λe=>(by obtain⟨g,off,cap,w1,r1,r2,Y,r4⟩:=h.w10 e;exact⟨g,off,cap,w1,r1,r2,jG aB Y,r4⟩),h.c7,h.c10⟩⟩
  |1,_=>
   obtain⟨o,J,E,z,R⟩:∃o,qN[1]? =M o/\o.op=.load 71 (.tmp 2)/\o.dst=M 84/\o.guard=Z:=⟨_,rfl,rfl,rfl,rfl⟩
   have I:∀c,o.op≠.defer c:=by rw[E];intro c hc;cases hc
   have hc:=kJ h2;unfold ptr at hc
   refine lZ (v:=aG (M ⟨kb,0,Z⟩)) (w':=w) J R I (by
    unfold bO;simp only[E,kD h.t2,ptr];simp[go_sem,hc]) ?_
   rw[z];exact⟨q0,bB,q2,q3,q4,q5,q6,q7,q8,q9,q10,rfl,⟨by rw[pq];exact h.sz,jG aB h.t2,jG aB h.t10,λe=>jG aB (h.s0 e),λ_=>EY (d:=84) (by rw[h.sz];decide),λe=>jG aB (h.s2 e),λe=>jG aB (h.s3 e),λe=>jG aB (h.s4 e),λe=>jG aB (h.s5 e),λe=>jG aB (h.s6 e),λe=>jG aB (h.s8 e),λe=>jG aB (h.s9 e),h.w6,h.w7,λe=>(by obtain⟨g,off,cap,w1,r1,r2,Y,r4⟩:=h.w10 e;exact⟨g,off,cap,w1,r1,r2,jG aB Y,r4⟩),h.c7,h.c10⟩⟩
  |2,_=>
   obtain⟨o,J,E,z,R⟩:∃o,qN[2]? =M o/\o.op=.nilCheck (.tmp 84)/\o.dst=M 85/\o.guard=Z:=⟨_,rfl,rfl,rfl,rfl⟩
   have I:∀c,o.op≠.defer c:=by rw[E];intro c hc;cases hc
   refine lZ (v:=aG (M ⟨kb,0,Z⟩)) (w':=w) J R I (by
    unfold bO;simp only[E,kD (h.s1 (d2 rfl)),ptr];simp[go_sem]) ?_
   rw[z];exact⟨q0,q1,bB,q3,q4,q5,q6,q7,q8,q9,q10,rfl,⟨by rw[pq];exact h.sz,jG aB h.t2,jG aB h.t10,λe=>jG aB (h.s0 e),λe=>jG aB (h.s1 e),λ_=>EY (d:=85) (by rw[h.sz];decide),λe=>jG aB (h.s3 e),λe=>jG aB (h.s4 e),λe=>jG aB (h.s5 e),λe=>jG aB (h.s6 e),λe=>jG aB (h.s8 e),λe=>jG aB (h.s9 e),h.w6,h.w7,λe=>(by obtain⟨g,off,cap,w1,r1,r2,Y,r4⟩:=h.w10 e;exact⟨g,off,cap,w1,r1,r2,jG aB Y,r4⟩),h.c7,h.c10⟩⟩
  |3,_=>
   obtain⟨o,J,E,z,R⟩:∃o,qN[3]? =M o/\o.op=.fieldAddr 100 (.tmp 85) 3/\o.dst=M 86/\o.guard=Z:=⟨_,rfl,rfl,rfl,rfl⟩
   have I:∀c,o.op≠.defer c:=by rw[E];intro c hc;cases hc
   refine lZ (v:=aG (M ⟨kb,10,Z⟩)) (w':=w) J R I (by
    unfold bO;simp only[E,kD (h.s2 (d3 rfl)),ptr];simp[go_sem]) ?_
   rw[z];exact⟨q0,q1,q2,bB,q4,q5,q6,q7,q8,q9,q10,rfl,⟨by rw[pq];exact h.sz,jG aB h.t2,jG aB h.t10,λe=>jG aB (h.s0 e),λe=>jG aB (h.s1 e),λe=>jG aB (h.s2 e),λ_=>EY (d:=86) (by rw[h.sz];decide),λe=>jG aB (h.s4 e),λe=>jG aB (h.s5 e),λe=>jG aB (h.s6 e),λe=>jG aB (h.s8 e),λe=>jG aB (h.s9 e),h.w6,h.w7,λe=>(by obtain⟨g,off,cap,w1,r1,r2,Y,r4⟩:=h.w10 e;exact⟨g,off,cap,w1,r1,r2,jG aB Y,r4⟩),h.c7,h.c10⟩⟩
  |4,_=>
   obtain⟨o,J,E,z,R⟩:∃o,qN[4]? =M o/\o.op=.load 98 (.tmp 86)/\o.dst=M 87/\o.guard=Z:=⟨_,rfl,rfl,rfl,rfl⟩
   have I:∀c,o.op≠.defer c:=by rw[E];intro c hc;cases hc
   have h7:q7=aR:=by
    cases h7:q7 with
    |false=>rfl
    |true=>have:=(h.c7 h7).1;rw[(d4 rfl).2]at this;cases this
   have ac:w.heap[kb]? =M (aL cs 100 (0,0)):=by
    cases h6:q6 with
    |false=>rw[h.w6 h6];exact hB.hk
    |true=>rw[h.w7 h6 h7];exact(aZ _ _ _ (jE hB.hk)).trans hB.hk
   have hc:w.cell? ⟨kb,10,Z⟩=M (.slice af n ag):=by rw[aI ac,hB.hw,ae]
   refine lZ (v:=.slice af n ag) (w':=w) J R I (by
    unfold bO;simp only[E,kD (h.s3 (d4 rfl).1)];simp[go_sem,hc]) ?_
   rw[z];exact⟨q0,q1,q2,q3,bB,q5,q6,q7,q8,q9,q10,rfl,⟨by rw[pq];exact h.sz,jG aB h.t2,jG aB h.t10,λe=>jG aB (h.s0 e),λe=>jG aB (h.s1 e),λe=>jG aB (h.s2 e),λe=>jG aB (h.s3 e),λ_=>(by rw[ae];exact EY (d:=87) (by rw[h.sz];decide)),λe=>jG aB (h.s5 e),λe=>jG aB (h.s6 e),λe=>jG aB (h.s8 e),λe=>jG aB (h.s9 e),h.w6,h.w7,λe=>(by obtain⟨g,off,cap,w1,r1,r2,Y,r4⟩:=h.w10 e;exact⟨g,off,cap,w1,r1,r2,jG aB Y,r4⟩),λe=>⟨rfl,(h.c7 e).2⟩,h.c10⟩⟩
  |5,_=>
   obtain⟨o,J,E,z,R⟩:∃o,qN[5]? =M o/\o.op=.load 118 (.tmp 10)/\o.dst=M 88/\o.guard=Z:=⟨_,rfl,rfl,rfl,rfl⟩
   have I:∀c,o.op≠.defer c:=by rw[E];intro c hc;cases hc
   obtain⟨c0,c1,c2,c3,c4,_⟩:=cells5 h10
   refine lZ (v:=.agg #[N .i64 e,N .i64 d,N .i64 t,.slice ta tn tc,N .i64 p]) (w':=w) J R I (by
    unfold bO;simp only[E,kD h.t10,ptr];simp[go_sem,c0,c1,c2,c3,c4]) ?_
   rw[z];exact⟨q0,q1,q2,q3,q4,bB,q6,q7,q8,q9,q10,rfl,⟨by rw[pq];exact h.sz,jG aB h.t2,jG aB h.t10,λe=>jG aB (h.s0 e),λe=>jG aB (h.s1 e),λe=>jG aB (h.s2 e),λe=>jG aB (h.s3 e),λe=>jG aB (h.s4 e),λ_=>EY (d:=88) (by rw[h.sz];decide),λe=>jG aB (h.s6 e),λe=>jG aB (h.s8 e),λe=>jG aB (h.s9 e),h.w6,h.w7,λe=>(by obtain⟨g,off,cap,w1,r1,r2,Y,r4⟩:=h.w10 e;exact⟨g,off,cap,w1,r1,r2,jG aB Y,r4⟩),h.c7,h.c10⟩⟩
  |6,_=>
   obtain⟨o,J,E,z,R⟩:∃o,qN[6]? =M o/\o.op=.buildSlice 98 1 #[(0,.tmp 88)]/\o.dst=M 89/\o.guard=Z:=⟨_,rfl,rfl,rfl,rfl⟩
   have I:∀c,o.op≠.defer c:=by rw[E];intro c hc;cases hc
   have h7:q7=aR:=by
    cases h7:q7 with
    |false=>rfl
    |true=>have:=(h.c7 h7).2;rw[(d6 rfl).2]at this;cases this
   have hw:=h.w6 (d6 rfl).2;subst hw;have ai:=h.s5 (d6 rfl).1;unfold bt at ai
   refine lZ (v:=aM (M ⟨w.heap.size,0,Z⟩) 1 1) (w':=w.alloc (aL (bt e d t ta tn tc p).toArray 118)) J R I (by
    unfold bO;simp only[E];simp[go_sem,ai,bt]) ?_
   rw[z];exact⟨q0,q1,q2,q3,q4,q5,bB,q7,q8,q9,q10,rfl,⟨by rw[pq];exact h.sz,jG aB h.t2,jG aB h.t10,λe=>jG aB (h.s0 e),λe=>jG aB (h.s1 e),λe=>jG aB (h.s2 e),λe=>jG aB (h.s3 e),λe=>jG aB (h.s4 e),λe=>jG aB (h.s5 e),λ_=>EY (d:=89) (by rw[h.sz];decide),λe=>jG aB (h.s8 e),λe=>jG aB (h.s9 e),λe=>(by cases e),λ_ _=>rfl,λe=>(by rw[h7]at e;cases e),λe=>(by rw[h7]at e;cases e),h.c10⟩⟩
  |7,_=>
   obtain⟨o,J,E,z,R⟩:∃o,qN[7]? =M o/\o.op=.call { callee:=.builtin .append,args:=#[.tmp 87,.tmp 89],argTypes:=#[98,98] }/\o.dst=M 90/\o.guard=Z:=⟨_,rfl,rfl,rfl,rfl⟩
   have I:∀c,o.op≠.defer c:=by rw[E];intro c hc;cases hc
   have hw:=h.w7 (d7 rfl).2.1 (d7 rfl).2.2
   have ah:q10=aR:=by
    cases h10:q10 with
    |false=>rfl
    |true=>have:=h.c10 h10;rw[(d7 rfl).2.2]at this;cases this
   subst hw;obtain⟨v',w1,hr,r1,⟨g,off,cap,rfl⟩,Y⟩:=(hB.row.below ((aJ _ W).alloc jB (aL (bt e d t ta tn tc p).toArray 118))).append (P:=PQ) 98 o.type i0 _ 56 (uq Tryz.underlying98) hi aq av ar (by rfl) aB ⟨W.heap.size,0,Z⟩ 1 1 (bt e d t ta tn tc p) aB (by rfl) (by intro j u hj;unfold bt at hj⊢;match j,hj with|0,hj=>(simp at hj;subst hj;simp[Addr.add])|1,hj=>(simp at hj;subst hj;simp[Addr.add])|2,hj=>(simp at hj;subst hj;simp[Addr.add])|3,hj=>(simp at hj;subst hj;simp[Addr.add])|4,hj=>(simp at hj;subst hj;simp[Addr.add])) (by intro u hu;unfold bt at hu;simp at hu;rcases hu with rfl|rfl|rfl|rfl|rfl<;>rfl) (by have:=hB.len;unfold maxLen;omega) (by have:=hB.len;omega)
   have aw:Grew vw g (W.alloc (aL (bt e d t ta tn tc p).toArray 118)) w1:=by
    obtain⟨e1,e2,e3⟩|⟨e1,e2,e3⟩:=Y
    .have an:vw.ownBlock=M g:=e1.symm;exact bN ⟨an,by rw[<-an];exact e2,e3⟩
    .exact cF ⟨by simpa[eE]using e1,e2,e3⟩
   refine lZ (v:=aM (M ⟨g,off,Z⟩) (n+1) cap) (w':=w1) J R I (by
    unfold bO;simp only[E];simp[resolve,invoke,builtin,kD (h.s4 (d7 rfl).1),kD (h.s6 (d7 rfl).2.1),hr,Result.andThen]) ?_
   rw[z];exact⟨q0,q1,q2,q3,q4,q5,q6,bB,q8,q9,q10,rfl,⟨by rw[pq];exact h.sz,jG aB h.t2,jG aB h.t10,λe=>jG aB (h.s0 e),λe=>jG aB (h.s1 e),λe=>jG aB (h.s2 e),λe=>jG aB (h.s3 e),λe=>jG aB (h.s4 e),λe=>jG aB (h.s5 e),λe=>jG aB (h.s6 e),λe=>jG aB (h.s8 e),λe=>jG aB (h.s9 e),λe=>(by rw[(d7 rfl).2.1]at e;cases e),λ_ e=>(by cases e),λ_=>⟨g,off,cap,w1,r1,aw,EY (d:=90) (by rw[h.sz];decide),by rw[Zs (by rw[ah];simp)]⟩,λ_=>⟨(d7 rfl).1,(d7 rfl).2.1⟩,λ_=>rfl⟩⟩
  |8,_=>
   obtain⟨o,J,E,z,R⟩:∃o,qN[8]? =M o/\o.op=.nilCheck (.tmp 83)/\o.dst=M 91/\o.guard=Z:=⟨_,rfl,rfl,rfl,rfl⟩
   have I:∀c,o.op≠.defer c:=by rw[E];intro c hc;cases hc
   refine lZ (v:=aG (M ⟨kb,0,Z⟩)) (w':=w) J R I (by
    unfold bO;simp only[E,kD (h.s0 (d8 rfl)),ptr];simp[go_sem]) ?_
   rw[z];exact⟨q0,q1,q2,q3,q4,q5,q6,q7,bB,q9,q10,rfl,⟨by rw[pq];exact h.sz,jG aB h.t2,jG aB h.t10,λe=>jG aB (h.s0 e),λe=>jG aB (h.s1 e),λe=>jG aB (h.s2 e),λe=>jG aB (h.s3 e),λe=>jG aB (h.s4 e),λe=>jG aB (h.s5 e),λe=>jG aB (h.s6 e),λ_=>EY (d:=91) (by rw[h.sz];decide),λe=>jG aB (h.s9 e),h.w6,h.w7,λe=>(by obtain⟨g,off,cap,w1,r1,r2,Y,r4⟩:=h.w10 e;exact⟨g,off,cap,w1,r1,r2,jG aB Y,r4⟩),h.c7,h.c10⟩⟩
  |9,_=>
   obtain⟨o,J,E,z,R⟩:∃o,qN[9]? =M o/\o.op=.fieldAddr 100 (.tmp 91) 3/\o.dst=M 92/\o.guard=Z:=⟨_,rfl,rfl,rfl,rfl⟩
   have I:∀c,o.op≠.defer c:=by rw[E];intro c hc;cases hc
   refine lZ (v:=aG (M ⟨kb,10,Z⟩)) (w':=w) J R I (by
    unfold bO;simp only[E,kD (h.s8 (d9 rfl)),ptr];simp[go_sem]) ?_
   rw[z];exact⟨q0,q1,q2,q3,q4,q5,q6,q7,q8,bB,q10,rfl,⟨by rw[pq];exact h.sz,jG aB h.t2,jG aB h.t10,λe=>jG aB (h.s0 e),λe=>jG aB (h.s1 e),λe=>jG aB (h.s2 e),λe=>jG aB (h.s3 e),λe=>jG aB (h.s4 e),λe=>jG aB (h.s5 e),λe=>jG aB (h.s6 e),λe=>jG aB (h.s8 e),λ_=>EY (d:=92) (by rw[h.sz];decide),h.w6,h.w7,λe=>(by obtain⟨g,off,cap,w1,r1,r2,Y,r4⟩:=h.w10 e;exact⟨g,off,cap,w1,r1,r2,jG aB Y,r4⟩),h.c7,h.c10⟩⟩
  |10,_=>
   obtain⟨o,J,E,z,R⟩:∃o,qN[10]? =M o/\o.op=.store 98 (.tmp 92) (.tmp 90)/\o.dst=Z/\o.guard=Z:=⟨_,rfl,rfl,rfl,rfl⟩
   have I:∀c,o.op≠.defer c:=by rw[E];intro c hc;cases hc
   obtain⟨g,off,cap,w1,r1,r2,Y,r4⟩:=h.w10 (aa rfl).2.1;rw[Zs (by rw[(aa rfl).2.2];simp)]at r4;subst r4;have ac:=r2.keep (hB.row.below ((aJ _ W).alloc jB _)) ((aZ _ _ _ (jE hB.hk)).trans hB.hk) aB;have hc:w.cell? ⟨kb,10,Z⟩=M (.slice af n ag):=by rw[aI ac,hB.hw,ae]
   have hz:=aQ ac 10
   refine LC (w':=w.setCell ⟨kb,10,Z⟩ (aM (M ⟨g,off,Z⟩) (n+1) cap)) J R I (by
    unfold bO;simp only[E,kD (h.s9 (aa rfl).1),kD Y];simp[go_sem,stored,hc,hz]) ?_
   rw[z];exact⟨q0,q1,q2,q3,q4,q5,q6,q7,q8,q9,bB,rfl,⟨h.sz,h.t2,h.t10,h.s0,h.s1,h.s2,h.s3,h.s4,h.s5,h.s6,h.s8,h.s9,λe=>(by have:=(h.c7 (aa rfl).2.1).2;rw[this]at e;cases e),λ_ e=>(by rw[(aa rfl).2.1]at e;cases e),λ_=>⟨g,off,cap,w,r1,r2,Y,by rw[ZD rfl]⟩,h.c7,λ_=>(aa rfl).2.1⟩⟩
 .exact⟨ao,au,ak,λe=>(by cases e),λe=>(by cases e),λe=>(by cases e),λe=>(by cases e),λe=>(by cases e),λe=>(by cases e),λe=>(by cases e),λe=>(by cases e),λe=>(by cases e),λ_=>rfl,λe=>(by cases e),λe=>(by cases e),λe=>(by cases e),λe=>(by cases e)⟩
end
end
end Hm
