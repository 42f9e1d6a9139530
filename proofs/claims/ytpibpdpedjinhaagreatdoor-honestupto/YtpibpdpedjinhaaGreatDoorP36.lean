import Derived.Test.YtpibpdpedjinhaaGreatDoorP35
import Derived.Deep.RegionLaw
set_option maxRecDepth 100000
set_option maxHeartbeats 4000000
set_option linter.all false
open Bool renaming false->aL,true->bB
open Go renaming Calls->eE,TypeId->cH,Value->aD,World->U
open Go.Ending renaming returned->bX
open Go.Obj renaming cells->aG
open Go.Proofs.Tryz renaming underlying199->kz
open Go.Region renaming wanted->cT
open Go.Value renaming int->N,pointer->aM,slice->aR
open Go.Value.slice renaming injEq->eQ
open List renaming filter_congr->qT,filter_filter->qu,filter_nil->pC,getElem?_of_mem->qi,length_range->pu,range->gE
open Option renaming isSome_iff_exists->pM,none->Z,some->M
open Or renaming inl->cJ,inr->cK
namespace Go.Proofs.YtpibpdpedjinhaaGreatDoor
namespace Hm
open Go.RowKit Go.Joins
open Dv (Ch Fine)
open Fr (F below_drewN)
section
variable {i j:Nat}{l:List PC}{p:PC->Bool}{ys:List aD}{o:PC}
theorem Row.cleared{w:U}{e n g off cap:Nat}{xs:List aD}(h:Row w e 1 (aR (M ⟨g,off,Z⟩) n cap) n xs)(hi:i<=n)(vs:List aD):Row (w.setCells g (off+i) vs) e 1 (aR (M ⟨g,off,Z⟩) i cap) i (xs.take i):=by
 refine⟨by rw[bK,h.1];omega,?_⟩;obtain⟨h0,_⟩|⟨g',Y,aa,ab,hv,hh,ac,I,J,hc⟩:=h.2
 .cases h0
 .simp only[eQ,aK,Addr.mk.injEq,and_true,true_and]at hv;obtain⟨⟨rfl,rfl⟩,rfl⟩:=hv;obtain⟨q,k1,k2,k3,k4⟩:=sH vs (off+i) hh;refine cK ⟨g,off,cap,q,rfl,k1,aA,I,by rw[k2];exact J,λj v E=>?_⟩;rw[gU]at E;split at E
  .rw[k3 _ (cJ aA)];exact hc j v E
  .cases E
structure mY(l:List PC)(p:PC->Bool)(ys:List aD)(i j:Nat):Prop where
 len:ys.length=l.length
 lt:i<j
 le:j<=l.length
 front:ys.take i=((l.take j).filter p).map λo=>ptr o.blk
 back:ys.drop j=(l.map λo=>ptr o.blk).drop j
theorem take_snoc{α:Type}{l:List α}{x:α}(h:l[j]? =M x):l.take (j+1)=l.take j++[x]:=by obtain⟨q,rfl⟩:=aN.1 h;exact eY q
theorem mY.start{x:PC}(q:l[i]? =M x)(J:p x=aL)(h:∀(j:Nat)(y:PC),j<i->l[j]? =M y->p y=bB):mY l p (l.map λo=>ptr o.blk) i (i+1):=by
 have E:=(aN.1 q).1;refine⟨aC,aA,aA,?_,rfl⟩;rw[take_snoc q,iJ,eG,Zs (by rw[J];simp),pC,gI,<-List.map_take]
 congr 1
 symm;refine iW.2 (λy I=>?_);obtain⟨k,hk⟩:=qi I;rw[gU]at hk;split at hk
 .exact h k y (by assumption) hk
 .cases hk
theorem mY.at(h:mY l p ys i j)(ho:l[j]? =M o):ys[j]? =M (ptr o.blk):=by have:=Z1 (λq=>q[0]?) h.back;simpa[jd,ho]using this
theorem mY.drop(h:mY l p ys i j)(ho:l[j]? =M o)(hp:p o=aL):mY l p ys i (j+1):=by
 have q:=(aN.1 ho).1;refine⟨h.len,by have:=h.lt;omega,aA,?_,?_⟩
 .rw[h.front,take_snoc ho,iJ,eG,Zs (by rw[hp];simp),pC,gI]
 .have:=Z1 (List.drop 1) h.back;simpa[iE]using this
theorem mY.keep(h:mY l p ys i j)(ho:l[j]? =M o)(hp:p o=bB):mY l p (ys.set i (ptr o.blk)) (i+1) (j+1):=by
 have E:=(aN.1 ho).1;have I:=h.lt;have h2:=h.len;refine⟨by rw[List.length_set];exact h2,aA,aA,?_,?_⟩
 .rw[take_snoc ho,iJ,bJ,<-h.front,eG,ZD hp,pC];rw[List.take_set];have q:ys.take (i+1)=ys.take i++[ys[i]' aA]:=eY aA;rw[q,List.set_append_right _ _ (by rw[bK];omega)]
  congr 1
  rw[bK,fZ aA];simp
 .rw[List.drop_set_of_lt aA];have:=Z1 (List.drop 1) h.back;simpa[iE]using this
theorem mY.all(h:mY l p ys i l.length):ys.take i=(l.filter p).map λo=>ptr o.blk:=by rw[h.front,iM]
theorem mY.count(h:mY l p ys i j):i=((l.take j).filter p).length:=by have:=Z1 List.length h.front;rw[bK,bC,h.len]at this;have:=h.lt;have:=h.le;omega
theorem MN(sb kb nb:Nat)(nm:AL)(os:List PC)(v:aD)(w:U)(h:Core w nb nm os)(hr:Row w 197 1 v os.length (os.map λo=>ptr o.blk))(ap:Array aD)(ax:Array aD)(J:w.heap[sb]? =M (aG ap 196 (0,0)))(hs:ap[0]? =M (aM (M ⟨kb,8,Z⟩)))(Y:w.heap[kb]? =M (aG ax 137 (0,0)))(hk:ax[8]? =M (.map (M nb)))(a7:os.length<=4294967296):eE PQ 105 #[v,.func (.func 106) #[] #[aM (M ⟨sb,0,Z⟩)]] w λe w'=>∃a k cap,e=bX (.slice a k cap)/\k=(os.filter (alive nm)).length/\Row w' 197 1 (.slice a k cap) k ((os.filter (alive nm)).map λo=>ptr o.blk)/\(aR a k cap).ownBlock=v.ownBlock/\jO (λk=>v.ownBlock=M k) w w':=by
 have eg:=enters_of (P:=PQ) (fq Tryz.func106 rfl) XN rfl;have an:w.cell? ⟨sb,0,Z⟩=M (aM (M ⟨kb,8,Z⟩)):=by rw[aI J];exact hs
 have am:w.cell? ⟨kb,8,Z⟩=M (.map (M nb)):=by rw[aI Y];exact hk
 have E:=Px sb kb nb nm os os v w h (λo ho=>ho) hr.rd an am a7;cases ac:os.findIdx? (λo=>!alive nm o)with
 |none=>
  have aa:os.filter (alive nm)=os:=iW.2 (λo ho=>by
   have:=List.findIdx?_eq_none_iff.1 ac o ho;simpa using this)
  have hi:idx (λo=>!alive nm o) os=-1:=by unfold idx;rw[ac]
  rw[hi]at E;rw[aa];obtain⟨a,cap,rfl⟩:=hr.slice;have af:Hid _:=λ(_:Unit)=>E;have Hr:Hid (Row _ _ _ _ _ _):=hr;clear E hr h J hs Y hk an am ac aa hi;go_enter (fq Tryz.func105 rfl),Tryz.ntmps105;go_wp2_with (go_at_call 152;refine aT (af.out ()) ?_;rintro e w2 ⟨rfl,m,rfl⟩)
  go_ret;exact⟨a,_,cap,rfl,rfl,Hr.out.kept (λ_ _=>rfl),rfl,⟨rfl,rfl,rfl,jE,λ_ _ _=>rfl⟩⟩
 |some i0=>
  obtain⟨a6,ar,aj⟩:=jg.1 ac;have hi:idx (λo=>!alive nm o) os=i0:=by unfold idx;rw[ac]
  rw[hi]at E;obtain⟨g,off,cap,rfl,bj⟩:=hr.pos aA
  have au:mY os (alive nm) (os.map λo=>ptr o.blk) i0 (i0+1):=mY.start (aO a6) (by simpa using ar) (λj y hj hy=>by
   obtain⟨a3,rfl⟩:=aN.1 hy;have:=aj j hj;simpa using this)
  have bd:g<w.heap.size:=hr.lt rfl;obtain⟨rc,ae⟩:=hr.obj (g:=g) rfl;have ay:sb≠g:=λe=>by rw[e,ae]at J;simp at J
  have aq:kb≠g:=λe=>by rw[e,ae]at Y;simp at Y
  have aw:nb≠g:=λe=>kY ae h.named e.symm
  have av:∀o,o∈os->o.blk≠g:=λo ho e=>by
   have:=h.objs o ho;unfold xI at this;rw[e,ae]at this;simp at this
  have ah:∀W,jO (λk=>k=g) w W->∀o,o∈os->eE PQ 106 #[aM (M ⟨o.blk,0,Z⟩),aM (M ⟨sb,0,Z⟩)] W λe w'=>e=bX (.bool (!alive nm o))/\∃m,w'=W.drewN m:=λW hW o ho=>
   Bl sb kb nb nm os o W (h.jR hW aw (λo ho=>av o ho)) ho (by rw[aI ((hW.block _ (jG J) ay).trans J)];exact hs) (by rw[aI ((hW.block _ (jG Y) aq).trans Y)];exact hk)
  have af:Hid _:=λ(_:Unit)=>E;have az:Hid _:=ah;have Hr:Hid _:=jD hr au;have ba:((i0:Int) == -1)=aL:=ZS aA;clear E hr h J hs Y hk an am ac hi ar aj au ah ae ay aq aw av;go_enter (fq Tryz.func105 rfl),Tryz.ntmps105;go_wp2_with (go_at_call 152;refine aT (af.out ()) ?_;rintro e w2 ⟨rfl,m,rfl⟩)
  go_loopg [5,6,7] (os.length-(i0+1)) (λgg v5 v6 _ wx=>∃(i j:Nat)(ys:List aD),v5=N .i64 i/\v6=N .i64 j/\gg=os.length-j/\i<j/\j<=os.length/\Hid (mY os (alive nm) ys i j/\Row wx 197 1 (aR (M ⟨g,off,Z⟩) os.length cap) os.length ys/\jO (λk=>k=g) w wx))
  case atStart=>exact⟨i0,_,_,rfl,by go_num,aA,aA,aA,Hr.out.2,Hr.out.1.kept (λ_ _=>rfl),⟨rfl,rfl,rfl,jE,λ_ _ _=>rfl⟩⟩
  case round=>
   obtain⟨i,j,ys,rfl,rfl,rfl,bg,a3,HI⟩:=hrel;by_cases a5:j<os.length
   .have a1:(j:Int)<os.length:=by omega
    obtain⟨o,ho⟩:∃o,os[j]? =M o:=⟨_,aO a5⟩
    obtain⟨d1,d2,I⟩:=HI.out;have k0:=d2.cell rfl j _ (d1.at ho);unfold ptr at k0;have hc:=az.out wr I o (aX ho);obtain⟨b,hb⟩:∃b,alive nm o=b:=⟨_,rfl⟩
    rw[hb]at hc;have Hc:Hid _:=λ(_:Unit)=>hc;have Ho:Hid _:=jD ho hb;have ab:=d2.there (j:=i) aA;have ao:=d2.frozen rfl;obtain⟨ci,bh⟩:=pM.1 ab;clear hc ho hb d1 d2 I ab;cases b
    .go_wp2_with (go_at_call 106;refine aT (Hc.out ()) ?_;rintro e w2 ⟨rfl,m2,rfl⟩)
     go_roundg (os.length-(j+1))
     case measure=>omega
     case rel=>
      obtain⟨d1,d2,I⟩:=HI.out;exact⟨i,_,ys,rfl,by go_num,rfl,aA,aA,d1.drop Ho.out.1 Ho.out.2,d2.kept (λ_ _=>rfl),⟨I.os,I.tape,I.output,I.size,I.block⟩⟩
    .have a4:(i:Int)<os.length:=by omega
     go_wp2_with (go_at_call 106;refine aT (Hc.out ()) ?_;rintro e w2 ⟨rfl,m2,rfl⟩)
     go_roundg (os.length-(j+1))
     case measure=>omega
     case rel=>
      obtain⟨d1,d2,I⟩:=HI.out;refine⟨_,_,_,by go_num,by go_num,rfl,aA,aA,d1.keep Ho.out.1 Ho.out.2,?_,?_⟩
      .exact(d2.kept (w':=wr.drewN m2) (λ_ _=>rfl)).put _
      .have d4:jO (λk=>k=g) w (wr.drewN m2):=⟨I.os,I.tape,I.output,I.size,I.block⟩
       exact d4.trans (jO.set _ g _ _) (λ_ _ e=>e)
   .have a1:¬(j:Int)<os.length:=by omega
    obtain rfl:j=os.length:=aA
    obtain⟨d1,d2,I⟩:=HI.out;have a4:(i:Int)<=os.length:=aA
    have bb:(i:Int)<=cap:=aA
    have bk:(os.length:Int)<=cap:=aA
    have a8:¬(i=cap):=aA
    have a2:=λq (hq:q<os.length-i)=>d2.there (j:=i+q) aA;have ao:=d2.frozen rfl
    have ai:∀q,q<os.length-i->(wr.cell? ⟨g,off+i+q,Z⟩).isSome=bB:=λq hq=>by
     have:=a2 q hq;rw[<-dV]at this;exact this
    have a9:=Lib.run_clear_slice (P:=PQ) wr 131 197 0 _ (uq Tryz.underlying131) XM rfl rfl g _ _ (cap-i) aA ai (λq _=>ao _);clear d1 d2 I a2 ai ao;go_wp2_with fail;go_ret;obtain⟨d1,d2,I⟩:=HI.out;have ag:=d1.count;rw[iM]at ag;have aa:=d1.all;have ak:=d2.cleared (i:=i) aA (List.replicate (os.length-i) (aM Z));rw[aa]at ak;refine⟨_,i,cap,rfl,ag,ak,rfl,?_⟩;exact(I.trans (.grown (kT g _ _ wr).1) (λk _ e=>by simpa using e.symm)).mono (λk _ e=>by rw[e];rfl)
end
section
variable {w:U}{vo:aD}{os:List PC}
theorem KT(m:AL)(k k':Nat):lZ (nY m k) k'=if k'=k then Z else lZ m k':=by
 unfold lZ nY;rw[List.find?_filter];by_cases h:k'=k
 .subst h;rw[ZD rfl,List.find?_eq_none.2]
  .rfl
  .intro p _ e;simp at e
 .rw[Zs h]
  congr 1
  congr 1
  funext p;by_cases hp:p.1=k'
  .have q:(p.1 == k')=bB:=by simp[hp]
   have h2:(p.1 != k)=bB:=by simp[hp,h]
   rw[q,h2];rfl
  .have q:=ZS hp;rw[q];simp
theorem Chs.del{w':U}{nb:Nat}{nm:AL}(h:Chs w nb vo nm os){k:Nat}(Y:lQ w' nb .u32 (nY nm k))(E:jO (λj=>j=nb) w w'):Chs w' nb vo (nY nm k) os:=by refine⟨Y,h.order.jR E (λg q e=>?_),λo ho=>(h.chans o ho).jR E (kY (h.chans o ho).obj h.named) (λb I e=>h.far o ho (by rw[I,e])),h.apart,h.maps,h.far,λp hp=>h.entries p (fU.1 hp).1⟩;obtain⟨J,hc⟩:=h.order.obj q;exact kY hc h.named e
theorem Jc{nm:AL}{o:PC}(q:alive nm o=bB)(hn:(os.map (·.blk)).Nodup)(ho:o∈os){nb:Nat}(h:Chs w nb vo nm os):∀x,x∈os->alive (nY nm o.ch.name) x=(alive nm x&&x.blk != o.blk):=λx hx=>by
 by_cases e:x.ch.name=o.ch.name
 .have Y:alive (nY nm o.ch.name) x=aL:=tZ (by rw[KT,ZD e]);rw[Y];obtain E|⟨y,hy,aa,E⟩:=h.get (n:=o.ch.name)
  .rw[tZ E]at q;cases q
  .rw[qB E]at q;have J:y.blk=o.blk:=by simpa using q
   rw[qB (by rw[e];exact E),J];by_cases I:o.blk=x.blk
   .rw[I];simp
   .have:=ZS I;rw[this];rfl
 .have Y:alive (nY nm o.ch.name) x=alive nm x:=by
   unfold alive;rw[KT,Zs e]
  rw[Y]
  have:x.blk≠o.blk:=λI=>e (by
   have:=zZ hn hx ho I;rw[this])
  simp[this]
end
section
variable {kb nb i:Nat}{cs:Array aD}{vo:aD}{nm nm':AL}{os:List PC}{oldest:Int}{w0 w w':U}{o:PC}
structure nM(kb nb:Nat)(cs:Array aD)(vo:aD)(nm:AL)(os:List PC)(oldest:Int)(w0:U)(i:Nat)(nm':AL)(w:U):Prop where
 obj:w.heap[kb]? =M (aG cs 137 (0,0))
 chs:Chs w nb vo nm' os
 jR:jO (λk=>k=nb) w0 w
 who:∀x,x∈os->alive nm' x=(alive nm x&&!(decide (x.blk∈(os.take i).map (·.blk))&&decide ((x.ch.opened:Int)<oldest)))
theorem nM.below(h:nM kb nb cs vo nm os oldest w0 i nm' w)(q:Below w.heap.size w w'):nM kb nb cs vo nm os oldest w0 i nm' w':=
 ⟨(q.block _ (jG h.obj)).trans h.obj,h.chs.below q,h.jR.trans (.below q jE (λ_=>False)) (λ_ _ e=>e.elim),h.who⟩
theorem yG{x:PC}(ho:os[i]? =M o):x.blk∈(os.take (i+1)).map (·.blk)↔(x.blk∈(os.take i).map (·.blk)\/x.blk=o.blk):=by rw[take_snoc ho,bJ];simp
theorem Yg(J:(os.map (·.blk)).Nodup)(ho:os[i]? =M o):o.blk∉(os.take i).map (·.blk):=λh=>by
 obtain⟨y,E,e⟩:=bM.1 h;obtain⟨k,hk⟩:=qi E;rw[gU]at hk;split at hk
 .rename_i q;have hp:List.Pairwise (·≠·) (os.map (·.blk)):=J;rw[iF]at hp;obtain⟨I,h2⟩:=aN.1 hk;obtain⟨h3,h4⟩:=aN.1 ho;exact hp k i (by simpa using I) (by simpa using h3) q (by simp[h2,h4,e])
 .cases hk
theorem nM.stay(h:nM kb nb cs vo nm os oldest w0 i nm' w)(ho:os[i]? =M o)(hs:alive nm' o=aL\/¬(o.ch.opened:Int)<oldest):nM kb nb cs vo nm os oldest w0 (i+1) nm' w:=by
 refine⟨h.obj,h.chs,h.jR,λx E=>?_⟩;by_cases e:x.blk=o.blk
 .have:=zZ h.chs.apart E (aX ho) e;subst this;have I:=Z0 ((yG ho).2 (cK rfl));have q:=ZZ (Yg h.chs.apart ho);have hw:=h.who x E;rw[q]at hw;simp only[Bool.false_and,Bool.not_false,Bool.and_true]at hw;rw[I];obtain hs|hs:=hs
  .rw[hs]at hw;rw[hs,<-hw];rfl
  .rw[ZZ hs,hw];simp
 .rw[h.who x E];have:decide (x.blk∈(os.take (i+1)).map (·.blk))=decide (x.blk∈(os.take i).map (·.blk)):=decide_eq_decide.2 (by rw[yG ho];simp[e]);rw[this]
theorem nM.gone(h:nM kb nb cs vo nm os oldest w0 i nm' w)(ho:os[i]? =M o)(J:alive nm' o=bB)(hs:(o.ch.opened:Int)<oldest)(q:lQ w' nb .u32 (nY nm' o.ch.name))(E:jO (λj=>j=nb) w w')(hk:kb≠nb):nM kb nb cs vo nm os oldest w0 (i+1) (nY nm' o.ch.name) w':=by
 refine⟨(E.block _ (jG h.obj) hk).trans h.obj,h.chs.del q E,h.jR.trans E (λ_ _ e=>e),λx I=>?_⟩;rw[Jc J h.chs.apart (aX ho) h.chs x I,h.who x I];by_cases e:x.blk=o.blk
 .have:=zZ h.chs.apart I (aX ho) e;subst this;have q:=Z0 ((yG ho).2 (cK rfl));rw[q,Z0 hs];simp
 .have:decide (x.blk∈(os.take (i+1)).map (·.blk))=decide (x.blk∈(os.take i).map (·.blk)):=decide_eq_decide.2 (by rw[yG ho];simp[e]);have h2:(x.blk != o.blk)=bB:=by simp[e]
  rw[this,h2,Bool.and_true]
theorem nM.lives(h:nM kb nb cs vo nm os oldest w0 os.length nm' w):lives nm' os=(Hm.lives nm os).filter (λc=>!decide ((c.opened:Int)<oldest)):=by
 unfold Hm.lives;rw[List.filter_map,qu]
 congr 1
 refine qT (λx q=>?_);rw[h.who x q,iM];have:decide (x.blk∈os.map (·.blk))=bB:=Z0 (bM.2 ⟨x,q,rfl⟩);rw[this,Bool.true_and,Bool.and_comm];rfl
theorem Chs.thin{E:aD}(h:Chs w nb vo nm os)(hr:Row w' 197 1 E (os.filter (alive nm)).length ((os.filter (alive nm)).map λo=>ptr o.blk))(hg:jO (λk=>vo.ownBlock=M k) w w'):Chs w' nb E nm (os.filter (alive nm)):=by
 have sub:∀o,o∈os.filter (alive nm)->o∈os:=λo ho=>(fU.1 ho).1
 have q:∀g,vo.ownBlock=M g->g≠nb/\(∀o,o∈os->g≠o.blk/\o.fm≠M g):=λg Y=>by
  obtain⟨ab,hc⟩:=h.order.obj Y;refine⟨kY hc h.named,λo ho=>⟨λe=>?_,λe=>?_⟩⟩
  .have:=(h.chans o ho).obj;unfold xI at this;rw[<-e,hc]at this;simp at this
  .cases hs:o.ch.spoilt
   .obtain⟨⟨B,e',hm⟩,_⟩:=(h.chans o ho).sound hs;rw[e']at e;cases e;exact kY hc hm rfl
   .rw[((h.chans o ho).spoilt hs).2]at e;cases e
 refine⟨h.named.of_block (hg.block _ h.named.lt (λe=>(q _ e).1 rfl)),hr,λo ho=>(h.chans o (sub o ho)).jR hg (λe=>((q _ e).2 o (sub o ho)).1 rfl) (λb J e=>((q _ e).2 o (sub o ho)).2 J),(List.filter_sublist.map _).nodup h.apart,λa b ha J=>h.maps a b (sub a ha) (sub b J),λo ho=>h.far o (sub o ho),λp hp=>?_⟩;obtain⟨o,ho,rfl⟩:=h.entries p hp;refine⟨o,fU.2 ⟨ho,?_⟩,rfl⟩
 have aa:(nm.map Prod.fst).Nodup:=by
  obtain⟨es,c,_,_,hn,_⟩:=h.named;exact hn
 obtain⟨es,c,_,he,_⟩:=h.named;have I:=he.lZ aa hp;rw[qB I];simp
theorem QA(nm:AL)(os:List PC):lives nm (os.filter (alive nm))=lives nm os:=by unfold lives;rw[qu];simp
end
section
section
variable {P:Program}{w:U}{ops:Array Oper}{o:Oper}{a:Act}{K:Act->U->Prop}{Q:Exit->Act->U->Prop}{E:Prop}
theorem sF(hg:o.guard=Z)(x y:Operand)(t Y:cH)(J:o.op=Op.call { callee:=Callee.builtin Builtin.delete,args:=#[x,y],argTypes:=#[t,Y] })(e:cH)(q:IntKind)(ht:P.underlying t=M (.map Y e))(hk:P.underlying Y=M (.int q))
  (B:Nat) (m:AL) (k:Nat) (hx:a.eval x=.map (M B)) (hy:a.eval y=.int q k) (h:lQ w B q m)
  (hK:∀w',lQ w' B q (nY m k)->w.grownBy w' (M B)->w'.heap.size=w.heap.size->K (a.put o.dst (.tuple #[])) w'):
  if cT o (yielded ops a.tmps)=bB then Oper.wp P o a w K Q else E:=by
 have hw:cT o (yielded ops a.tmps)=bB:=by simp[cT,hg]
 rw[ZD hw];obtain⟨w',I,r1,r2,r3⟩:=h.delete ht hk k o.type;unfold Oper.wp;simp[execOp,J,resolve,invoke,builtin,hx,hy,I,Result.andThen];exact hK w' r1 r2 r3
theorem pY(hg:o.guard=Z)(s x:Operand)(t:cH)(ac:o.op=.call { callee:=.builtin .append,args:=#[s,x],argTypes:=#[t,t] })
  (e:cH) (i:TypeInfo) (z:aD) (size bytes:Nat) (ht:P.underlying t=M (.slice e)) (hi:P.info? e=M i) (hz:i.zero=M z)
  (J:i.size=size) (ag:i.bytes=bytes) (ah:z.cells.size=size) (af:0<size)
  (v:aD) (n:Nat) (xs:List aD) (hs:a.eval s=v) (aa:Row w e size v n xs)
  (ad:Addr) (m c:Nat) (q:List aD) (hx:a.eval x=aR (M ad) m c) (hm:0<m) (hl:q.length=m*size) (Y:∀j u,q[j]? =M u->w.cell? (ad.add j)=M u) (h1:∀u∈q,u.oneCell'=bB)
  (ae:n+m<=maxLen) (I:(n+m)*bytes<=140737488355328)
  (h:∀g off cap w',Row w' e size (aR (M ⟨g,off,Z⟩) (n+m) cap) (n+m) (xs++q)->Grew v g w w'->K (a.put o.dst (aR (M ⟨g,off,Z⟩) (n+m) cap)) w'):
  if cT o (yielded ops a.tmps)=bB then Oper.wp P o a w K Q else E:=by
 have hw:cT o (yielded ops a.tmps)=bB:=by simp[cT,hg]
 rw[ZD hw];obtain⟨v',w',hr,h2,⟨g,off,cap,rfl⟩,h4⟩:=aa.append (P:=P) t o.type i z bytes ht hi hz J ag ah af ad m c q hm hl Y h1 ae I;unfold Oper.wp;simp[execOp,ac,resolve,invoke,builtin,hs,hx,hr,Result.andThen];refine h g off cap w' h2 ?_;obtain⟨e1,e2,e3⟩|⟨e1,e2,e3⟩:=h4
 .have ab:v.ownBlock=M g:=e1.symm;exact cJ ⟨ab,by rw[<-ab];exact e2,e3⟩
 .exact cK ⟨by simpa[Value.ownBlock]using e1,e2,e3⟩
end
end
def OE(kb nb:Nat)(cs:Array aD)(vo:aD)(nm:AL)(os:List PC)(I:Int)(w:U)(hk:w.heap[kb]? =M (aG cs 137 (0,0)))(h8:cs[8]? =M (.map (M nb)))(h9:cs[9]? =M vo)(h:Chs w nb vo nm os)(ar:os.length<=4294967296):eE PQ 70 #[aM (M ⟨kb,8,Z⟩),N .i64 I] w λe w'=>e=bX (.tuple #[])/\∃a8 E aj,Dw kb nb cs vo os w a8 E aj w'/\aj.length<=os.length/\lives E aj=(lives nm os).filter (λc=>!decide ((c.opened:Int)<I)):=by
 obtain⟨W,hW,aa,zo⟩:=jI w #[aM (M ⟨kb,8,Z⟩)] 196;have a6:w.heap.size<W.heap.size:=by rw[hW];simp
 have z0:=nT zo;have ac:W.heap[kb]? =_:=(aa.block _ (jG hk)).trans hk;have e9:W.cell? ⟨kb,9,Z⟩=M vo:=by rw[aI ac];exact h9
 have a2:=kY hk h.named;have br:=h.named.lt;have ag:nM kb nb cs vo nm os I W 0 nm W:=⟨ac,h.below aa,jO.refl _ _,λx hx=>aC⟩
 obtain⟨a,cap,rfl⟩:=h.order.slice;have ai:Hid (nM _ _ _ _ _ _ _ _ _ _ _):=ag;have H:Hid _:=jD hk (jD h8 (jD h9 (jD h (jD aa (jD zo ac)))));clear hk h8 h9 h aa zo ac ag;go_enter (fq Tryz.func70 rfl),Tryz.ntmps70;go_upto_region 1 with fail;rw[<-hW];clear hW;go_wp2_with fail;go_loopg [5,11] os.length (λgg _ a5 wx=>∃(i:Nat)(E:AL),i<=os.length/\a5=N .i64 i/\gg=os.length-i/\Hid (nM kb nb cs (.slice a os.length cap) nm os I W i E wx))
 case atStart=>exact⟨0,nm,dL _,rfl,rfl,ai⟩
 case round=>
  obtain⟨i,E,hi,rfl,rfl,J⟩:=hrel;clear ai z0 e9;obtain⟨hk,h8,h9,h,aa,zo,ac⟩:=H.out;have ab:wr.heap[w.heap.size]? =_:=(J.out.jR.block _ a6 aA).trans zo;have z0:=nT ab;have e8:wr.cell? ⟨kb,8,Z⟩=M (.map (M nb)):=by rw[aI J.out.obj];exact h8
  have e9:wr.cell? ⟨kb,9,Z⟩=M (.slice a os.length cap):=by rw[aI J.out.obj];exact h9
  by_cases a7:i<os.length
  .have az:(i:Int)<os.length:=by omega
   obtain⟨o,ho⟩:∃o,os[i]? =M o:=⟨_,aO a7⟩
   obtain⟨g,off,bh,hv,_⟩:=J.out.chs.order.pos aA;simp only[eQ,true_and]at hv;obtain⟨rfl,rfl⟩:=hv;have k0:=J.out.chs.order.cell rfl i (ptr o.blk) (by rw[fE,ho];rfl);have Y:=sO kb nb 8 E os o wr J.out.chs.core (aX ho) e8;have av:=(J.out.chs.chans o (aX ho)).obj;obtain⟨c0,c1⟩:=cells2 av;obtain⟨b,hb⟩:∃b,alive E o=b:=⟨_,rfl⟩
   rw[hb]at Y;unfold ptr at k0 Y;have ae:Hid _:=λ(_:Unit)=>Y;have Ho:Hid _:=jD ho hb;clear Y ho hb av hk h8 h9 h aa zo ac ab;cases b
   .go_wp2_with (go_at_call 104;refine aT (ae.out ()) ?_;rintro e w2 ⟨rfl,m,rfl⟩)
    go_roundg (os.length-(i+1))
    case measure=>omega
    case rel=>exact⟨_,E,aA,by go_num,rfl,(J.out.below (below_drewN (aJ _ _) _)).stay Ho.out.1 (cJ Ho.out.2)⟩
   .by_cases bg:(o.ch.opened:Int)<I
    .go_upto_region 5 with(go_at_call 104;refine aT (ae.out ()) ?_;rintro e w2 ⟨rfl,m,rfl⟩)
     generalize hV:World.drewN _ _=V;have ap:nM kb nb cs (aR (M ⟨g,off,Z⟩) os.length cap) nm os I W i E V:=by rw[<-hV];exact J.out.below (below_drewN (aJ _ _) _)
     have bl:V.cell? ⟨w.heap.size,0,Z⟩=M (aM (M ⟨kb,8,Z⟩)):=by rw[<-hV];exact z0
     have bo:V.cell? ⟨kb,8,Z⟩=M (.map (M nb)):=by rw[<-hV];exact e8
     have bk:V.cell? ⟨o.blk,0,Z⟩=M (N .u32 o.ch.name):=by rw[<-hV];exact c0
     have bd:Hid (nM _ _ _ _ _ _ _ _ _ _ _):=ap;have au:=ap.chs.named.of_block (w':=V.drew) rfl;have ba:Hid (lQ _ _ _ _):=au;clear ap hV z0 e8 e9 c0 c1 au k0;go_region_law ((refine sF (by rfl) (.tmp 29) (.tmp 33) 130 22 (by rfl) 197 _ (uq Tryz.underlying130) (uq Tryz.underlying22) nb E o.ch.name (by rfl) (by rfl) ba.out ?_;intro w7 a4 bb bq))
     all_goals
      go_wp2_with fail;go_roundg (os.length-(i+1))
      case measure=>omega
      case rel=>exact⟨_,_,aA,by go_num,rfl,bd.out.gone Ho.out.1 Ho.out.2 bg a4 ((jO.drew _ V).trans (.grown bb) (λk _ e=>by simpa using e.symm)) a2⟩
    .go_wp2_with (go_at_call 104;refine aT (ae.out ()) ?_;rintro e w2 ⟨rfl,m,rfl⟩)
     go_roundg (os.length-(i+1))
     case measure=>omega
     case rel=>exact⟨_,E,aA,by go_num,rfl,(J.out.below (below_drewN (aJ _ _) _)).stay Ho.out.1 (cK aA)⟩
  .have az:¬(i:Int)<os.length:=by omega
   obtain rfl:i=os.length:=aA
   have aq:(aR a os.length cap).ownBlock≠M kb:=λe=>by
    obtain⟨a3,hc⟩:=J.out.chs.order.obj e;rw[J.out.obj]at hc;simp at hc
   have af:=λV hV=>(MN _ kb nb E os _ V (J.out.chs.below hV).core (J.out.chs.below hV).order _ cs ((hV.block _ (jG ab)).trans ab) rfl ((hV.block _ (jG J.out.obj)).trans J.out.obj) h8 ar).mono
    (R':=λe w'=>∃va vk vc,e=bX (.slice va vk vc)/\w'.cell? ⟨w.heap.size,0,Z⟩=M (aM (M ⟨kb,8,Z⟩))/\w'.cell? ⟨kb,9,Z⟩=M (.slice a os.length cap)/\(∀q,w'.frozen? ⟨kb,q,Z⟩=aL)/\Hid (vk=(os.filter (alive E)).length/\Row w' 197 1 (.slice va vk vc) vk ((os.filter (alive E)).map λo=>ptr o.blk)/\(aR va vk vc).ownBlock=(aR a os.length cap).ownBlock/\jO (λk=>(aR a os.length cap).ownBlock=M k) wr w'/\w'.heap[kb]? =M (aG cs 137 (0,0))))
    (λe w' ⟨va,vk,vc,p1,p2,p3,p4,p5⟩=>by
     have q5:=(jO.below hV jE _).trans p5 (λ_ _ e=>e);have q6:=(q5.block _ (jG J.out.obj) aq).trans J.out.obj
     have q7:w'.heap[w.heap.size]? =_:=(q5.block _ (jG ab) (λe=>by
      obtain⟨a3,hc⟩:=J.out.chs.order.obj e;rw[ab]at hc;simp at hc)).trans ab
     exact⟨va,vk,vc,p1,by rw[aI q7];rfl,by rw[aI q6];exact h9,aQ q6,p2,p3,p4,q5,q6⟩)
   have ax:Hid _:=af;have am:=aJ wr.heap.size wr;clear hk h8 h9 h aa zo ac ab af aq;go_upto_region 7 with fail;go_region_with (go_at_call 105;(refine aT (ax.out _ ?_) ?_;(first|exact am|exact am.drew|exact below_drewN am _);rintro e w5 ⟨va,vk,vc,rfl,bm,bs,bj,H5⟩))
   all_goals
    go_wp2_with fail;go_end0;obtain⟨a9,an,ao,a1,aw⟩:=H5.out;obtain⟨hk,h8,h9,h,aa,zo,ac⟩:=H.out;subst a9;have ay:=J.out.chs.thin an a1;have ah:=jO.set w5 kb 9 (.slice va (os.filter (alive E)).length vc);refine⟨rfl,_,E,_,⟨jV aw 9 _,ay.jR ah (λk ak e=>?_),?_,λk ak=>cJ ?_,?_⟩,gZ _ _,?_⟩
    .subst e;exact ay.lF aw aB aB ak
    .refine(((jO.below aa jE _).trans J.out.jR (λk _ e=>cK (cJ e))).trans a1 (λk _ e=>cK (cK (cJ e)))).trans ah (λk _ e=>cJ e)
    .obtain e|e|⟨x,hx,e⟩:=ak
     .exact cJ e
     .exact cK (cJ (by rw[<-ao];exact e))
     .exact cK (cK ⟨x,(fU.1 hx).1,e⟩)
    .have:=gZ (alive E) os;omega
    .rw[QA,J.out.lives]
def OU{w:U}{o:PC}(h:ChanAt w o):∃L:Nat,(∀V:U,(∀b,o.fm=M b->V.heap[b]? =w.heap[b]?)->(Builtin.len_ #[199] 3 #[.map o.fm]).run PQ V=.ok (N .i64 L) V)/\L<=65536/\(o.ended&&decide ((L:Int)=o.last+1))=(Dv.bytes o.ch.l).isSome:=by
 cases hs:o.ch.spoilt
 .obtain⟨⟨B,e,hm⟩,h1,h2,h3,h4⟩:=h.sound hs;refine⟨o.ch.l.length,λV hV=>?_,?_,?_⟩
  .rw[e];have:=(hm.of_block (hV B e)).len (P:=PQ) (uq kz) 3;rw[this];simp[vC,goInt]
  .have:=Dv.zD (a:=o.ch.l.map _) (b:=gE 65536) h.fine.apart (λx Y=>by
    obtain⟨y,J,rfl⟩:=bM.1 Y;exact gV.2 (h.small y J).1)
   rw[bC,pu]at this;exact this
  .rw[h3];cases q:Dv.last o.ch.l with
   |none=>
    have:Dv.bytes o.ch.l=Z:=by unfold Dv.bytes;rw[q];rfl
    rw[this];rfl
   |some n=>
    have hw:=Dv.Il h.fine q;rw[h4 n q];have:((o.ch.l.length:Int)=n+1)↔o.ch.l.length=n+1:=aA
    cases E:(Dv.bytes o.ch.l).isSome with
    |true=>rw[Z0 ((this.trans hw).2 E)];rfl
    |false=>
     rw[ZZ (λh=>by
      have:=(this.trans hw).1 h;rw[E]at this;cases this)]
     rfl
 .obtain⟨e1,I⟩:=h.spoilt hs;refine⟨0,λV _=>?_,aA,?_⟩
  .rw[I];exact lQ.len_nil (P:=PQ) (uq kz) 3
  .rw[e1];have:¬((0:Nat):Int)=(o.last:Int)+1:=by omega
   rw[ZZ this,Bool.and_false];rfl
def Qa(o:PC)(w:U)(h:ChanAt w o):eE PQ 116 #[Uj o.blk] w λe w'=>e=bX (.bool (Dv.bytes o.ch.l).isSome)/\∃m,w'=w.drewN m:=by
 obtain⟨L,hL,ab,J⟩:=OU h;obtain⟨-,-,c2,-,c4,c5⟩:=tX h.obj;obtain⟨r,E⟩:∃r,(Dv.bytes o.ch.l).isSome=r:=⟨_,rfl⟩
 rw[E]at J⊢;have aa:=λn=>hL (w.drewN n) (λ_ _=>rfl);have Y:=h.lastLt;obtain⟨en,I⟩:∃en,o.ended=en:=⟨_,rfl⟩
 obtain⟨la,q⟩:∃la,o.last=la:=⟨_,rfl⟩
 rw[I]at c4 J;rw[q]at c5 J Y;unfold Uj;have Hr:Hid _:=J;clear h hL J E I q;go_enter (fq Tryz.func116 rfl),Tryz.ntmps116;go_upto_region 1 with fail;cases en
 .go_quiet (fail);go_wp2_with fail;go_ret;exact⟨by rw[<-Hr.out];rfl,_,rfl⟩
 .go_quiet (fail);go_wp2_with fail;go_ret;exact⟨by rw[<-Hr.out];rfl,_,rfl⟩
def Rn{l:List F}{n:Nat}{d:List UInt8}(h:Dv.has l n=M d):∃x,x∈l/\x.num=n/\x.data=d/\lZ (vC l) n=M (KL x):=by unfold Dv.has at h;rw[bI]at h;obtain⟨x,q,rfl⟩:=h;have E:=List.find?_some q;refine⟨x,List.mem_of_find?_eq_some q,by simpa using E,rfl,?_⟩;unfold lZ vC;rw[List.find?_map];have:l.find? ((λp:Nat×aD=>p.1 == n)∘λf=>(f.num,KL f))=M x:=q;rw[this];rfl
def Sz{l:List F}:∀{k:Nat}{s:List UInt8},Dv.pX l k=M s->Small l->s.length<=k*65536
 |0,s,h,_=>by simp[Dv.pX]at h;subst h;simp
 |k+1,s,h,hs=>by
  unfold Dv.pX at h;cases E:Dv.pX l k with
  |none=>rw[E]at h;cases h
  |some t=>
   rw[E,gX,bI]at h;obtain⟨d,hd,rfl⟩:=h;have J:=Sz (l:=l) (k:=k) (s:=t) E hs;obtain⟨x,I,_,q,_⟩:=Rn hd;have:=(hs x I).2;rw[aS,iU,<-q];omega
def OD(a b c d:aD)(w:U):(Instr.field 81 (.agg #[a,b,c,d]) 2).run PQ w=.ok c w:=XN
def PE(o:PC)(s:List UInt8)(w:U)(h:ChanAt w o)(hs:Dv.bytes o.ch.l=M s):eE PQ 117 #[Uj o.blk] w λe w'=>e=bX (.string ⟨s.toArray⟩)/\Below w.heap.size w w':=by
 have aq:o.ch.spoilt=aL:=by
  cases hx:o.ch.spoilt with
  |false=>rfl
  |true=>rw[(h.spoilt hx).1]at hs;cases hs
 obtain⟨⟨B,hB,hm⟩,h1,h2,h3,h4⟩:=h.sound aq
 obtain⟨n,hn,hg⟩:∃n,Dv.last o.ch.l=M n/\Dv.pX o.ch.l (n+1)=M s:=by
  unfold Dv.bytes at hs;cases hl:Dv.last o.ch.l with
  |none=>rw[hl]at hs;cases hs
  |some n=>rw[hl]at hs;exact⟨n,rfl,hs⟩
 have ah:=(Dv.Il h.fine hn).2 (by rw[hs];rfl)
 have ay:o.ch.l.length<=65536:=by
  have:=Dv.zD (a:=o.ch.l.map _) (b:=gE 65536) h.fine.apart (λx hx=>by
   obtain⟨y,hy,rfl⟩:=bM.1 hx;exact gV.2 (h.small y hy).1)
  rw[bC,pu]at this;exact this
 have ac:=h.obj;have aw:=(jG ac)
 obtain⟨W,hW,ag,-⟩:=jI w #[aM Z,aR Z 0 0] 178;have an:tu w.heap.size w.heap.size [] W:=by rw[hW];exact fresh w
 have c2:∀V,Below w.heap.size w V->V.cell? ⟨o.blk,2,Z⟩=M (.map (M B)):=λV hV=>by rw[hV.cell (p:=⟨o.blk,2,Z⟩) aw,aI ac,<-hB];rfl
 have Y:∀V,Below w.heap.size w V->lQ V B .u16 (vC o.ch.l):=λV hV=>hm.of_block (hV.block _ hm.lt);have am:=(Y W ag).len (P:=PQ) (uq kz) 3;rw[show(vC o.ch.l).length=n+1 from by unfold vC;rw[bC];exact ah]at am;have au:=c2 W ag;have J:=h.small;obtain⟨l,hl⟩:∃l,o.ch.l=l:=⟨_,rfl⟩
 rw[hl]at Y hg J ah ay
 have ab:∀k,k<=n+1->∃t,Dv.pX l k=M t:=λk hk=>by
  have h0:=Dv.wK (l:=l) (k:=n+1);rw[hg]at h0;have h1:=h0.1 rfl;exact pM.1 (Dv.wK.2 (λj hj=>h1 j aA))
 have H:Hid _:=jD c2 (jD Y (jD hg (jD J ab)));have HB:Hid _:=jD ag an;unfold Uj;have a2:w.heap.size<W.heap.size:=by rw[hW];simp
 clear h hs hm h1 h2 h3 h4 hn ac ag an c2 Y J hg ab hB hl aq;go_enter (fq Tryz.func117 rfl),Tryz.ntmps117;go_upto_region 2 with fail;rw[<-hW];clear hW;go_wp2_with fail;go_loopg [4,10] (n+1) (λgg _ ax wx=>∃(i:Nat)(t:List UInt8),i<=n+1/\ax=N .i64 i/\gg=n+1-i/\Hid (Dv.pX l i=M t/\tu w.heap.size w.heap.size t wx/\Below w.heap.size w wx))
 case atStart=>exact⟨0,[],aA,rfl,rfl,rfl,HB.out.2,HB.out.1⟩
 case round=>
  obtain⟨i,t,hi,rfl,rfl,HI⟩:=hrel;clear au am;obtain⟨c2,Y,hg,J,ab⟩:=H.out;by_cases a3:i<n+1
  .have ar:(i:Int)<n+1:=by omega
   obtain⟨t',I⟩:=ab (i+1) aA
   obtain⟨d,hd⟩:∃d,Dv.has l i=M d:=by
    unfold Dv.pX at I;rw[HI.out.1,gX,bI]at I;obtain⟨d,hd,_⟩:=I;exact⟨d,hd⟩
   have af:t'=t++d:=by
    have:=Dv.Ua HI.out.1 hd;rw[this]at I;exact(fC I).symm
   obtain⟨x,hx,av,aj,ai⟩:=Rn hd;have E:=(Y wr HI.out.2.2).lookup (P:=PQ) (uq kz) (uq Tryz.underlying79) (acT _) i aL;rw[ai]at E;simp only[bU,if_false,fH]at E;unfold KL at E;rw[aj]at E;obtain⟨D,hD⟩:∃D:ByteArray,(⟨d.toArray⟩:ByteArray)=D:=⟨_,rfl⟩
   have ae:D.data.toList=d:=by rw[<-hD]
   have a4:D.size<=65536:=by rw[<-hD,<-aj];exact(J x hx).2
   rw[hD]at E;have e2:=c2 wr HI.out.2.2;have az:=Sz HI.out.1 J;have q:=zS _ _ t D wr HI.out.2.1 (by have:i*65536<=65536*65536:=fK _ aA;omega) HI.out.2.2.size;have aa:Hid _:=λ(_:Unit)=>q;have Hx:Hid _:=jD I (jD af ae);have a1:=OD;clear c2 Y hg J ab I af hd hx av aj ai hD ae az q;go_wp2_with (go_at_call 140;refine aT (aa.out ()) ?_;rintro e w2 ⟨rfl,ao,ak⟩)
   go_roundg (n+1-(i+1))
   case measure=>omega
   case rel=>
    obtain⟨I,af,ae⟩:=Hx.out;exact⟨_,t',aA,by go_num,rfl,I,by rw[af,<-ae];exact ao,HI.out.2.2.trans ak⟩
  .have ar:¬(i:Int)<n+1:=by omega
   obtain rfl:i=n+1:=aA
   have ap:t=s:=by
    have:=HI.out.1;rw[hg]at this;exact(fC this).symm
   have q:=wS _ _ t wr HI.out.2.1 HI.out.2.2.size;rw[ap]at q;have aa:Hid _:=λ(_:Unit)=>q;clear c2 Y hg J ab q ap;go_wp2_with (go_at_call 93;refine aT (aa.out ()) ?_;rintro e w2 ⟨rfl,ao,ak⟩)
   go_ret;exact⟨rfl,HI.out.2.2.trans ak⟩
section
variable {w A W W' XX:U}{n g off cap nb kb:Nat}{nm:AL}{o:PC}{os:List PC}{vo:aD}{l l0:List Ch}{s:List UInt8}{B:Nat->Prop}{pre:List (List UInt8)}{cs:Array aD}
theorem Row.tail{e:Nat}{x:aD}{xs:List aD}(h:Row w e 1 (aR (M ⟨g,off,Z⟩) (n+1) cap) (n+1) (x::xs)):Row w e 1 (.slice (if cap=1 then M ⟨g,off,Z⟩else M ⟨g,off+1,Z⟩) n (cap-1)) n xs:=by
 obtain⟨h1,h2⟩:=h;rw[aU]at h1;obtain⟨I,e2⟩|⟨g',J,Y,q,I,h3,h4,h5,h6,h7⟩:=h2
 .cases e2
 .simp only[eQ,aK,Addr.mk.injEq]at I;obtain⟨⟨rfl,rfl,_⟩,_,rfl⟩:=I;by_cases hc:cap=1
  .rw[ZD hc];have hx:xs=[]:=bP aA;refine⟨aA,cK ⟨_,_,_,q,rfl,h3,aA,aA,aA,λj u E=>?_⟩⟩;rw[hx]at E;simp at E
  .rw[Zs hc];refine⟨aA,cK ⟨_,_,_,q,rfl,h3,aA,aA,aA,λj u E=>?_⟩⟩;rw[dV,Nat.add_comm 1 j];exact h7 _ u (by simpa using E)
theorem Chs.tail(h:Chs w nb (aR (M ⟨g,off,Z⟩) n cap) nm (o::os))(Y:alive nm o=aL):Chs w nb (.slice (if cap=1 then M ⟨g,off,Z⟩else M ⟨g,off+1,Z⟩) os.length (cap-1)) nm os:=by
 have hn:n=os.length+1:=by
  obtain⟨a,c,e⟩:=Row.slice h.order;simp only[eQ]at e;simpa using e.2.1
 subst hn;have J:=h.apart;rw[eP,iG]at J;refine⟨h.named,Row.tail (by simpa using h.order),λx I=>h.chans x (cZ _ I),J.2,λa b Y hb=>h.maps a b (cZ _ Y) (cZ _ hb),λx I=>h.far x (cZ _ I),λp hp=>?_⟩;obtain⟨x,I,e⟩:=h.entries p hp;obtain rfl|I:=dD.1 I
 .exfalso
  have aa:(nm.map Prod.fst).Nodup:=by
   obtain⟨es,c,_,_,q,_⟩:=h.named;exact q
  obtain⟨es,c,_,he,_⟩:=h.named;have E:=he.lZ aa hp;rw[e]at E;rw[qB E]at Y;simp at Y
 .exact⟨x,I,e⟩
theorem OT(q:alive nm o=aL):lives nm (o::os)=lives nm os:=by unfold lives;rw[List.filter_cons_of_neg (by simp[q])]
theorem Dt(q:alive nm o=bB):lives nm (o::os)=o.ch::lives nm os:=by unfold lives;rw[List.filter_cons_of_pos (by simp[q])];rfl
theorem TK(h:Chs w nb vo nm (o::os))(I:alive nm o=bB):alive (nY nm o.ch.name) o=aL/\lives (nY nm o.ch.name) os=lives nm os:=by
 have hd:=Jc I h.apart dQ h;have q:=h.apart;rw[eP,iG]at q;refine⟨by rw[hd o dQ];simp,?_⟩;unfold lives
 congr 1
 refine qT (λx E=>?_);rw[hd x (cZ _ E)]
 have:(x.blk != o.blk)=bB:=by
  simp only[bne_iff_ne,ne_eq];intro e;exact q.1 (bM.2 ⟨x,E,e⟩)
 rw[this,Bool.and_true]
theorem P7{c:Ch}(h:Dv.bytes c.l=M s):Dv.pull (c::l)=(s::(Dv.pull l).1,(Dv.pull l).2):=by rw[Dv.pull,h]
theorem TW{c:Ch}(h:Dv.bytes c.l=Z):Dv.pull (c::l)=([],c::l):=by rw[Dv.pull,h]
structure PX where
 s:List UInt8
 vo:aD
 nm:AL
 os:List PC
def PX.encs(x:PX):Array aD:=#[.string ⟨x.s.toArray⟩]
def LQ(q:PX)(pre:List PX):PX:=pre.foldl (λ_ x=>x) q
theorem uH(q:PX)(pre:List PX)(x:PX):LQ q (pre++[x])=x:=by simp[LQ]
structure PS(kb nb:Nat)(B:Nat->Prop)(l0:List Ch)(pre:List (List UInt8))(W:U)(cs:Array aD)(vo:aD)(nm:AL)(os:List PC):Prop where
 obj:W.heap[kb]? =M (aG cs 137 (0,0))
 named:cs[8]? =M (.map (M nb))
 order:cs[9]? =M vo
 chs:Chs W nb vo nm os
 len:os.length<=4294967296
 pull:Dv.pull l0=(pre++(Dv.pull (lives nm os)).1,(Dv.pull (lives nm os)).2)
 own:∀k,Own nb vo os k->B k
def PSt(kb E nb:Nat)(B:Nat->Prop)(l0:List Ch)(q:PX)(pre:List PX)(W:U):Prop:=(∃cs,PS kb nb B l0 (pre.map PX.s) W cs (LQ q pre).vo (LQ q pre).nm (LQ q pre).os)/\W.cell? ⟨E,0,Z⟩=M (aM (M ⟨kb,8,Z⟩))
def PEn(kb nb:Nat)(B:Nat->Prop)(l0:List Ch)(pre:List PX)(W:U):Prop:=∃cs vo nm os,PS kb nb B l0 (pre.map PX.s) W cs vo nm os/\lives nm os=(Dv.pull l0).2/\pre.map PX.s=(Dv.pull l0).1
def PY(kb q nb:Nat)(B:Nat->Prop)(l0:List Ch)(E:PX)(pre:List PX)(x:PX)(_:Nat)(W:U):Prop:=PSt kb q nb B l0 E (pre++[x]) W
def EK(kb:Nat)(A B:U):Prop:=∀(cs:Array aD)(t:Nat)(q:Nat×Nat),A.heap[kb]? =M (aG cs t q)->∃v,B.heap[kb]? =M (aG (cs.setIfInBounds 9 v) t q)
theorem EK.refl(kb:Nat)(A:U):EK kb A A:=λcs t E h=>⟨cs[9]?.getD .nilFunc,by
 rw[h]
 congr 2
 apply gB;intro i;rw[aV];split
 .rename_i e;subst e;split
  .rename_i q;rw[dA q];rfl
  .rename_i q;exact Array.getElem?_eq_none aA
 .rfl⟩
theorem EK.trans{B C:U}(E:EK kb A B)(h2:EK kb B C):EK kb A C:=λcs t q h=>by
 obtain⟨v,h3⟩:=E cs t q h;obtain⟨v',h4⟩:=h2 _ t q h3;exact⟨v',by rw[h4];simp⟩
theorem EK.same{B:U}(h:B.heap[kb]? =A.heap[kb]?):EK kb A B:=λcs t q I=>by
 obtain⟨v,E⟩:=EK.refl kb A cs t q I;exact⟨v,h.trans E⟩
theorem EK.put{l:Nat}{B:U}(h:EK kb A B)(o:Obj)(I:kb<l):EK kb (A.putObj l o) (B.putObj l o):=λcs t E q=>by
 rw[World.putObj_heap_other aA]at q⊢;exact h cs t E q
theorem PS.jR(h:PS kb nb B l0 pre W cs vo nm os){XS:Nat->Prop}(q:jO XS W W')(hk:¬XS kb)(E:∀k,B k->¬XS k):PS kb nb B l0 pre W' cs vo nm os:=
 ⟨(q.block _ (jG h.obj) hk).trans h.obj,h.named,h.order,h.chs.jR q (λk hk=>E k (h.own k hk)),h.len,h.pull,h.own⟩
theorem PS.below(h:PS kb nb B l0 pre W cs vo nm os)(q:Below W.heap.size W W'):PS kb nb B l0 pre W' cs vo nm os:=
 h.jR (.below q jE (λ_=>False)) (λe=>e) (λ_ _ e=>e)
def oL(kb:Nat)(W:U):Nat:=match W.cell? ⟨kb,9,Z⟩with
 |some (.slice _ n _)=>n
 |_=>0
theorem PS.acS(h:PS kb nb B l0 pre W cs vo nm os):W.cell? ⟨kb,8,Z⟩=M (.map (M nb)):=by rw[aI h.obj];exact h.named
theorem PS.acB(h:PS kb nb B l0 pre W cs vo nm os):W.cell? ⟨kb,9,Z⟩=M vo:=by rw[aI h.obj];exact h.order
theorem PS.oL(h:PS kb nb B l0 pre W cs vo nm os):oL kb W=os.length:=by obtain⟨a,cap,e⟩:=Row.slice h.chs.order;unfold Hm.oL;rw[h.acB,e]
theorem PS.skip(h:PS kb nb B l0 pre W cs (aR (M ⟨g,off,Z⟩) n cap) nm (o::os))(Y:alive nm o=aL)(q:W'.heap[kb]? =M (aG (cs.setIfInBounds 9 (.slice (if cap=1 then M ⟨g,off,Z⟩else M ⟨g,off+1,Z⟩) os.length (cap-1))) 137 (0,0)))(hc:jO (λk=>k=kb) W W'):
  PS kb nb B l0 pre W' (cs.setIfInBounds 9 (.slice (if cap=1 then M ⟨g,off,Z⟩else M ⟨g,off+1,Z⟩) os.length (cap-1))) (.slice (if cap=1 then M ⟨g,off,Z⟩else M ⟨g,off+1,Z⟩) os.length (cap-1)) nm os:=by
 have I:=h.chs.lF h.obj aB aB;have J:=(jG h.order)
 have E:=h.len;rw[aU]at E;refine⟨q,by rw[aV];simpa using h.named,by rw[aV];simp[J],(h.chs.jR hc (λk hk e=>I (e ▸ hk))).tail Y,aA,by have:=h.pull;rw[OT Y]at this;exact this,λk hk=>h.own k ?_⟩;obtain e|e|⟨x,hx,e⟩:=hk
 .exact cJ e
 .exact cK (cJ (by split at e<;>exact e))
 .exact cK (cK ⟨x,cZ _ hx,e⟩)
theorem PS.take(h:PS kb nb B l0 pre W cs (aR (M ⟨g,off,Z⟩) n cap) nm (o::os))(ha:alive nm o=bB)(hs:Dv.bytes o.ch.l=M s){E:U}(q:W'.heap[kb]? =M (aG (cs.setIfInBounds 9 (.slice (if cap=1 then M ⟨g,off,Z⟩else M ⟨g,off+1,Z⟩) os.length (cap-1))) 137 (0,0)))(hc:jO (λk=>k=kb) W W')(hm:lQ E nb .u32 (nY nm o.ch.name))(Y:jO (λk=>k=nb) W' E):
  PS kb nb B l0 (pre++[s]) E (cs.setIfInBounds 9 (.slice (if cap=1 then M ⟨g,off,Z⟩else M ⟨g,off+1,Z⟩) os.length (cap-1))) (.slice (if cap=1 then M ⟨g,off,Z⟩else M ⟨g,off+1,Z⟩) os.length (cap-1)) (nY nm o.ch.name) os:=by
 have I:=h.chs.lF h.obj aB aB;have ab:=(jG h.order)
 have aa:=h.len;rw[aU]at aa;have hd:=TK h.chs ha;have J:=h.chs.jR hc (λk hk e=>I (e ▸ hk));refine⟨(Y.block kb (jG q) (λe=>I (cJ e))).trans q,by rw[aV];simpa using h.named,by rw[aV];simp[ab],(J.del hm Y).tail hd.1,aA,?_,λk hk=>h.own k ?_⟩
 .rw[h.pull,Dt ha,P7 hs,hd.2];simp
 .obtain e|e|⟨x,hx,e⟩:=hk
  .exact cJ e
  .exact cK (cJ (by split at e<;>exact e))
  .exact cK (cK ⟨x,cZ _ hx,e⟩)
structure Cut(kb:Nat)(cs:Array aD)(v:aD)(W XX:U):Prop where
 obj:XX.heap[kb]? =M (aG (cs.setIfInBounds 9 v) 137 (0,0))
 jR:jO (λk=>k=kb) W XX
 ek:EK kb W XX
theorem Cut.of{V:U}(h:PS kb nb B l0 pre W cs vo nm os){v:aD}(q:Below W.heap.size W V)(E:(V.setCell ⟨kb,9,Z⟩ v).drew=XX):Cut kb cs v W XX:=by
 have I:jO (λk=>k=kb) W XX:=by
  rw[<-E];exact((jO.below q jE _).trans (jO.set _ kb 9 v) (λ_ _ e=>e)).trans (jO.drew _ _) (λ_ _ e=>e)
 have ho:XX.heap[kb]? =M (aG (cs.setIfInBounds 9 v) 137 (0,0)):=by
  rw[<-E];have:=(q.block _ (jG h.obj)).trans h.obj;exact block_setCell this v
 refine⟨ho,I,λcs' t J hk=>?_⟩;rw[h.obj]at hk;cases hk;exact⟨v,ho⟩
theorem PS.goes{Y Wa:U}(h:PS kb nb B l0 pre W cs (aR (M ⟨g,off,Z⟩) n cap) nm (o::os))(ha:alive nm o=bB)(hs:Dv.bytes o.ch.l=M s)(q:Cut kb cs (.slice (if cap=1 then M ⟨g,off,Z⟩else M ⟨g,off+1,Z⟩) os.length (cap-1)) W XX)(hY:Below XX.heap.size XX Y)(J:lQ Wa nb .u32 (nY nm o.ch.name))(hg:Y.drew.grownBy Wa (M nb)):
  PS kb nb B l0 (pre++[s]) Wa (cs.setIfInBounds 9 (.slice (if cap=1 then M ⟨g,off,Z⟩else M ⟨g,off+1,Z⟩) os.length (cap-1))) (.slice (if cap=1 then M ⟨g,off,Z⟩else M ⟨g,off+1,Z⟩) os.length (cap-1)) (nY nm o.ch.name) os/\jO (λk=>k=kb\/k=nb) W Wa/\EK kb W Wa/\ChanAt Wa o/\jO (λk=>k=nb) XX Wa:=by
 have I:=h.chs.lF h.obj aB aB;have E:jO (λk=>k=nb) XX Wa:=((jO.below hY jE _).trans (jO.drew _ _) (λ_ _ e=>e)).trans (.grown hg) (λk _ e=>by simpa using e.symm);have hC:=h.chs.jR q.jR (λk hk e=>I (e ▸ hk));refine⟨h.take ha hs q.obj q.jR J E,(q.jR.mono (λk _ e=>cJ e)).trans E (λk _ e=>cK e),q.ek.trans (EK.same (E.block kb (jG q.obj) (λe=>I (cJ e)))),?_,E⟩;exact(hC.del J E).chans o dQ
theorem PS.stop{pre:List PX}(h:PS kb nb B l0 (pre.map PX.s) W cs vo nm os)(Y:os=[]\/∃o q,os=o::q/\alive nm o=bB/\Dv.bytes o.ch.l=Z):PEn kb nb B l0 pre W:=by
 have hp:Dv.pull (lives nm os)=([],lives nm os):=by
  obtain rfl|⟨o,q,rfl,I,J⟩:=Y
  .rfl
  .rw[Dt I];exact TW J
 have E:=h.pull;rw[hp,gI]at E;exact⟨cs,vo,nm,os,h,by rw[E],by rw[E]⟩
end
end Hm
