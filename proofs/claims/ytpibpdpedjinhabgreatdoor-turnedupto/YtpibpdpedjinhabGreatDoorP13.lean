import Derived.Test.YtpibpdpedjinhabGreatDoorP12
import Derived.Lib.SliceRun
import Derived.Deep.RegionLaw
set_option maxRecDepth 100000
set_option maxHeartbeats 16000000
set_option linter.all false
open Bool renaming false->aL,true->aR
open Go renaming Addr->eM,Boxed->rp,Calls->dE,Code->eE,Exit->p9,Frame->cR,Item->pS,Oper->ij,Operand->jN,OwnFrom->rq,TypeId->cG,Value->X,World->U,bodyPost_ret->cM,callsIn_wide->gO,execOp->bN,heap_alloc_new->cT,info_parts->pa,results_none->pC,undef->aE
open Go.Addr renaming add->jp
open Go.Code renaming seq->bR
open Go.Ending renaming returned->bO
open Go.Fence renaming wide->gP
open Go.IntKind renaming i64->ab,u16->lB,u32->eA,wrap_i64->eT
open Go.Obj renaming cells->aG,deferred->eI
open Go.Operand renaming tmp->cN
open Go.Proofs.Tryz renaming f15->j8,underlying138->js,underlying22->lx,underlying93->po
open Go.Region renaming ready->fR,wanted->cP
open Go.Result renaming andThen->fS
open Go.RowKit renaming Hid->cH
open Go.RowKit.Below renaming heap_alloc->gE
open Go.Value renaming agg->fX,bool->cK,int->N,ownBlock->cV,pointer->aD,slice->aH,string->bB,tuple->cQ
open Go.Value.slice renaming injEq->dT
open Go.World renaming cell?->eB,cell?_of_block->bX,drewN->oF,putObj_heap_other->qT
open List renaming filter_congr->pn,filter_filter->pd,filter_nil->oA,getElem?_of_mem->pP,length->qt,range->ir
open Option renaming bind_eq_some_iff->pH,isSome_iff_exists->pD,none->Z,some->M
open Or renaming inl->bE,inr->cD
open Prod renaming fst->cI
namespace Go.Proofs.YtpibpdpedjinhabGreatDoor
namespace Hm
open Go.RowKit Go.Joins
open Dv (Ch Fine)
open Fr (F below_drewN)
def afI:PQ.underlying 136=M (.pointer (PQ.pointee 136)):=XN
def TW(w:U):(binOp .neq 136 (aD Z) (aD Z)).run PQ w=.ok (cK aL) w:=run_neq_pointer_nil w _ Z afI
def Vb(w:U)(b:Nat):(binOp .neq 136 (aD (M ⟨b,0,Z⟩)) (aD Z)).run PQ w=.ok (cK aR) w:=run_neq_pointer_nil w _ (M _) afI
def MR(most:Int)(c:Ch)(f:F):(Dv.joined most c f).name=c.name:=by
 unfold Dv.joined;split
 .rfl
 .split<;>rfl
structure BD(kb nb:Nat)(cs:Array X)(vo:X)(os:List PC)(w:U)(vo':X)(nm':AL)(os':List PC)(w':U):Prop where
 obj:w'.heap[kb]? =M (aG (cs.setIfInBounds 9 vo') 100 (0,0))
 chs:Chs w' nb vo' nm' os'
 jM:jI (λk=>k=kb\/Own nb vo os k) w w'
 own:∀k,Own nb vo' os' k->Own nb vo os k\/w.heap.size<=k
 len:os'.length<=os.length+1
def take_any(kb nb:Nat)(cs:Array X)(vo:X)(nm:AL)(os:List PC)(f:F)(n:Nat)(most:Int)(w:U)(hk:w.heap[kb]? =M (aG cs 100 (0,0)))(h8:cs[8]? =M (.map (M nb)))(h9:cs[9]? =M vo)(h:Chs w nb vo nm os)(ba:os.length<=4294967295)(hf:f.num<65536/\f.data.length<=65536)(ah:0<=most/\most<=4294967296):dE PQ 51 #[aD (M ⟨kb,8,Z⟩),Jw f,N ab n,N ab most] w λe w'=>e=bO (cQ #[])/\∃av a2 a0,BD kb nb cs vo os w av a2 a0 w'/\lives a2 a0=Dv.frame most n (lives nm os) f:=by
 rw[UY];obtain⟨fc,fn,fd,ak⟩:=f;unfold Jw;dsimp only at *;obtain⟨D,hD⟩:∃D:ByteArray,(⟨fd.toArray⟩:ByteArray)=D:=⟨_,rfl⟩
 rw[hD];obtain⟨W,hW,J,zo⟩:=jD w #[N eA fc,N lB fn,bB D,.bool ak] 109;have a4:↑w<W.heap.size:=by rw[hW];simp
 obtain⟨z0,z1⟩:=cells2 zo;have af:W.heap[kb]? =_:=(J.block _ (jE hk)).trans hk;have aa:=h.below J;have ao:=open_any kb nb cs vo nm os fc n W af h8 h9 aa aA;have ay:cH _:=λ(_:Unit)=>ao;have a8:=(jE hk)
 have H:cH _:=jy hk (jy h8 (jy h9 (jy h (jy J (jy zo (jy af (jy aa (jy hf (jy ah hD)))))))));clear hk h8 h9 h J zo af aa ao hf ah hD;go_enter (fq Tryz.func51 rfl),Tryz.ntmps51;go_upto_if 11 with fail;rw[<-hW];clear hW;go_cut [16] (λ_ wx=>cH (∃ai aj am,BD kb nb cs vo os w ai aj am wx/\lives aj am=opened n ⟨fc,fn,fd,ak⟩ (lives nm os)/\wx.heap[w.heap.size]? =M (aG #[N eA fc,N lB fn,bB D,.bool ak] 109 (0,0))))
 case first=>
  by_cases h0:fn=0
  .have h1:((fn:Int) == 0)=aR:=by rw[h0];rfl
   have H0:cH _:=h0;rw[h1];clear h1 h0;go_wp2_with (go_at_call 75;refine aT (ay.out ()) ?_;rintro e w2 ⟨rfl,av,o',q1,q2,q3,q4,q5,q6,q7⟩)
   go_meet;obtain⟨hk,h8,h9,h,J,zo,af,aa,hf,ah,hD⟩:=H.out;have bg:=J.size
   have a1:jI (λk=>k=kb\/Own nb vo os k) w w2:=(jI.below J jB _).trans q7 (λk _ e=>by
    obtain e|e|e:=e
    .exact bE e
    .exact cD (bE e)
    .exact cD (cD (bE e)))
   refine⟨av,_,_,⟨q1,q3,a1,λk an=>?_,aC⟩,?_,?_⟩
   .obtain e|e|⟨x,hx,e⟩:=an
    .exact bE (bE e)
    .obtain e|e:=q6 k e
     .exact bE (cD (bE e))
     .exact cD aA
    .obtain hx|hx:=dM.1 hx
     .exact bE (cD (cD ⟨x,hx,e⟩))
     .rw[dK.1 hx]at e;obtain e|e:=e
      .exact cD aA
      .have:=q5 k e;exact cD aA
   .have:=Qj aa q4;rw[q2]at this;rw[this];unfold opened;rw[ZD H0.out]
   .refine(q7.block _ a4 ?_).trans zo;rintro(e|e|e)
    .omega
    .have:=h.named.lt;omega
    .have:=h.order.lt e;omega
  .have h1:((fn:Int) == 0)=aL:=ZS aA;have H0:cH _:=h0;rw[h1];clear h1 h0;go_wp2_with fail;go_meet;obtain⟨hk,h8,h9,h,J,zo,af,aa,hf,ah,hD⟩:=H.out;refine⟨vo,nm,os,⟨?_,aa,.below J jB _,λk an=>bE an,aA⟩,?_,zo⟩
   .have:cs.setIfInBounds 9 vo=cs:=by
     refine gB (λi=>?_);rw[aV];by_cases e:9=i
     .subst e;have a5:=(jE h9)
      rw[ZD rfl,ZD a5,h9]
     .rw[Zs e]
    rw[this];exact af
   .unfold opened;rw[Zs H0.out]
 case rest=>
  obtain⟨ai,aj,am,z,R,ae⟩:=hcut.out;obtain⟨hk,h8,h9,h,J,zo,af,aa,hf,ah,hD⟩:=H.out;have e8:wc.cell? ⟨kb,8,Z⟩=M (.map (M nb)):=by rw[aI z.obj,aV,Zs aA];exact h8
  have y0:=kJ ae;have I:=(z.chs.named.of_block (w':=wc.drew) rfl).lookup (P:=PQ) (uq po) (uq lx) (Xp _) fc aL;simp only[bU,if_false]at I;have ar:Below ↑wc wc wc.drew:=(aJ _ _).drew;have a3:=TW;have a6:=Vb;have tail:∀w',Below ↑wc wc w'->BD kb nb cs vo os w ai aj am w':=λw' hb=>⟨(hb.block _ (jE z.obj)).trans z.obj,z.chs.below hb,z.jM.trans (.below hb jB (λ_=>False)) (λ_ _ e=>e.elim),z.own,z.len⟩
  obtain hg|⟨o,ho,hn,hg⟩:=z.chs.get (n:=fc)
  .rw[hg]at I;simp only[Option.getD_none]at I;have HT:cH _:=jy tail (jy R hg);clear hk h8 h9 h J zo af aa hf ah hD z R ae hg hcut tail z0 z1;go_upto_region 3 with fail;go_cut [8] (λv wx=>v=aD Z/\wx=wc.drew)
   case first=>
    go_region
    all_goals
     go_wp2_with fail;go_meet;exact⟨rfl,rfl⟩
   case rest=>
    obtain⟨rfl,rfl⟩:=hcut;go_wp2_with fail;go_end0;obtain⟨tail,R,hg⟩:=HT.out;refine⟨rfl,ai,aj,am,tail _ ar,?_⟩;rw[<-R,ND hg]
  .rw[hg]at I;simp only[fH]at I;unfold ptr at I;have aw:=z.chs.below ar;have ac:=LG o ⟨fc,fn,fd,ak⟩ (aw.chans o ho) hf.1;have E:=λW' a7 hb=>VX o ⟨fc,fn,fd,ak⟩ most W' ((aw.below a7).chans o ho) hb hf ah;unfold Jw at ac E;dsimp only at ac E;rw[hD]at ac E;obtain⟨b,hb⟩:∃b,Dv.oM o.ch ⟨fc,fn,fd,ak⟩=b:=⟨_,rfl⟩
   rw[hb]at ac E;have zd:wc.drew.heap[w.heap.size]? =M (aG #[N eA fc,N lB fn,bB D,.bool ak] 109 (0,0)):=ae;obtain⟨x0,x1,x2,x3⟩:=cells4 ae;have au:cH _:=λ(_:Unit)=>ac;have az:cH _:=E;have HT:cH _:=jy tail (jy R (jy hg (jy ho (jy hn (jy hb (jy z (jy hk (jy h ae))))))));have aq:=(jE ae)
   clear hk h8 h9 h J zo af aa hf ah hD z R ae hg hcut tail ac E aw zd ho hn hb z0 z1;go_upto_region 3 with fail;go_cut [8] (λv wx=>v=aD (M ⟨o.blk,0,Z⟩)/\wx=wc.drew)
   case first=>
    go_region
    all_goals
     go_wp2_with fail;go_meet;exact⟨rfl,rfl⟩
   case rest=>
    obtain⟨rfl,rfl⟩:=hcut;cases b
    .go_wp2_with (first|(go_at_call 76;refine aT (au.out ()) ?_;rintro e w2 ⟨rfl,ag⟩;have bd:=(ag.cell (p:=⟨↑w,0,Z⟩) aq).trans x0;have bj:=(ag.cell (p:=⟨↑w,1,Z⟩) aq).trans x1;have bb:=(ag.cell (p:=⟨↑w,2,Z⟩) aq).trans x2;have bh:=(ag.cell (p:=⟨↑w,3,Z⟩) aq).trans x3)|(go_at_call 77;(refine aT (az.out _ ag trivial) ?_;rintro e w3 ⟨rfl,o'',j1,j2,j3,j4,j5⟩))|fail)
     go_end0;obtain⟨tail,R,hg,ho,hn,hb,z,hk,h,ae⟩:=HT.out;have Y:=tail _ (ar.trans ag);have ap:∀k,(k=o.blk\/o.fm=M k)->Own nb ai am k:=λk e=>cD (cD ⟨o,ho,e⟩);have a9:=Y.chs.swap ho j1 (by rw[j2,MR]) j3 j4 j5;refine⟨rfl,ai,aj,_,⟨?_,a9,?_,λk an=>Y.own k (VF ho j1 j3 an),by rw[bC];exact Y.len⟩,?_⟩
     .refine(j5.block _ (jE Y.obj) (λe=>?_)).trans Y.obj;exact Y.chs.lK Y.obj aB aB (ap _ e)
     .refine Y.jM.trans j5 (λk a8 e=>?_);obtain e|e:=Y.own k (ap k e)
      .exact cD e
      .omega
     .rw[<-R];exact Eb Y.chs ho j1 j2 hn hg
    .go_wp2_with (first|(go_at_call 76;refine aT (au.out ()) ?_;rintro e w2 ⟨rfl,ag⟩)|fail)
     go_end0;obtain⟨tail,R,hg,ho,hn,hb,z,hk,h,ae⟩:=HT.out;refine⟨rfl,ai,aj,am,tail _ (ar.trans ag),?_⟩;rw[<-R,Ih z.chs ho hb hn hg]
def zN(sb kb nb:Nat)(nm:AL)(os:List PC)(o:PC)(w:U)(h:Core w nb nm os)(ho:o∈os)(hs:w.cell? ⟨sb,0,Z⟩=M (aD (M ⟨kb,8,Z⟩)))(hk:w.cell? ⟨kb,8,Z⟩=M (.map (M nb))):dE PQ 69 #[ptr o.blk,aD (M ⟨sb,0,Z⟩)] w λe w'=>e=bO (.bool (!alive nm o))/\∃m,w'=w.drewN m:=by
 have z:=rU kb nb 8 nm os o w h ho hk;unfold ptr at z⊢;obtain⟨b,I⟩:∃b,alive nm o=b:=⟨_,rfl⟩
 rw[I]at z⊢;have E:cH _:=λ(_:Unit)=>z;clear z I h;go_enter (fq Tryz.func69 rfl),Tryz.ntmps69;go_wp2_with (go_at_call 67;refine aT (E.out ()) ?_;rintro e w2 ⟨rfl,m,rfl⟩)
 go_ret;exact⟨rfl,m,rfl⟩
def Oz(sb kb nb:Nat)(nm:AL)(os l:List PC)(v:X)(w:U)(h:Core w nb nm os)(hl:∀o,o∈l->o∈os)(hr:Rd w 1 v l.length (l.map λo=>ptr o.blk))(hs:w.cell? ⟨sb,0,Z⟩=M (aD (M ⟨kb,8,Z⟩)))(hk:w.cell? ⟨kb,8,Z⟩=M (.map (M nb)))(af:l.length<=4294967296):dE PQ 98 #[v,.func (.func 69) #[] #[aD (M ⟨sb,0,Z⟩)]] w λe w'=>e=bO (N ab (idx (λo=>!alive nm o) l))/\∃m,w'=w.drewN m:=by
 have eg:=enters_of (P:=PQ) (fq Tryz.func69 rfl) XN rfl;obtain⟨a,cap,h0,rfl⟩|⟨g,off,cap,h0,rfl⟩:=Rd.cases hr
 .obtain rfl:=bP h0;go_enter (fq Tryz.func98 rfl),Tryz.ntmps98;go_wp2_with fail;go_loopg [5,8] 0 (λgg _ v8 wx=>v8=N ab 0/\wx=w)
  case atStart=>exact⟨rfl,rfl⟩
  case round=>
   obtain⟨rfl,rfl⟩:=hrel;go_wp2_with fail;go_ret;exact⟨rfl,0,rfl⟩
 .obtain⟨g',ac,ae,hv,_,hg,hx⟩:=hr.pos h0;simp only[dT,aK,Addr.mk.injEq,and_true,true_and]at hv;obtain⟨⟨rfl,rfl⟩,rfl⟩:=hv;have z:=λm o ho=>zN sb kb nb nm os o _ (h.drewN m) (hl o ho) hs hk;have hf:∀(j m:Nat)(o:PC),l[j]? =M o->(w.drewN m).cell? ⟨g,off+j,Z⟩=M (ptr o.blk):=λj m o I=>hx j _ (by rw[fE,I];rfl);have Hf:cH _:=jy hf z;clear hf z hr h hl hx hs hk;go_enter (fq Tryz.func98 rfl),Tryz.ntmps98;go_wp2_with fail;go_loopg [5,8] l.length (λgg _ v8 wx=>∃i m:Nat,i<=l.length/\v8=N ab i/\gg=l.length-i/\cH (∀(j:Nat)(y:PC),j<i->l[j]? =M y->(!alive nm y)=aL)/\wx=w.drewN m)
  case atStart=>exact⟨0,0,dL _,rfl,rfl,λj y I=>aA,rfl⟩
  case round=>
   obtain⟨i,m,hi,rfl,rfl,Hi,rfl⟩:=hrel;by_cases aa:i<l.length
   .have R:(i:Int)<l.length:=by omega
    obtain⟨o,ho⟩:∃o,l[i]? =M o:=⟨_,aO aa⟩
    have k0:=Hf.out.1 i m o ho;have hc:=Hf.out.2 m o (aX ho);unfold ptr at k0 hc;have Ho:cH _:=ho;obtain⟨V,hV⟩:∃V,V=w.drewN m:=⟨_,rfl⟩
    rw[<-hV]at k0 hc⊢;cases J:(!alive nm o)
    .rw[J]at hc;have Hc:cH _:=λ(_:Unit)=>hc;have Y:cH _:=jy J hV;clear hc ho J hV;go_wp2_with (go_at_call 69;refine aT (Hc.out ()) ?_;rintro e w2 ⟨rfl,m2,rfl⟩)
     go_roundg (l.length-(i+1))
     case measure=>omega
     case rel=>
      refine⟨_,m+m2,aA,by go_num,rfl,λj y I E=>?_,?_⟩
      .obtain I|rfl:=jm (Nat.lt_succ_iff.1 I)
       .exact Hi.out j y I E
       .rw[Ho.out]at E;cases E;exact Y.out.1
      .rw[Y.out.2];simp
    .rw[J]at hc;have Hc:cH _:=λ(_:Unit)=>hc;have Y:cH _:=jy J hV;clear hc ho J hV;go_wp2_with (go_at_call 69;refine aT (Hc.out ()) ?_;rintro e w2 ⟨rfl,m2,rfl⟩)
     go_ret;refine⟨by rw[xR Ho.out Y.out.1 (λj y I E=>Hi.out j y I E)];rfl,m+m2,?_⟩;rw[Y.out.2];simp
   .have R:¬(i:Int)<l.length:=by omega
    go_wp2_with fail;go_ret;refine⟨?_,m,rfl⟩;rw[xB (λj y E=>Hi.out j y (by have:=(aN.1 E).1;omega) E)];rfl
section
variable {i j:Nat}{l:List PC}{p:PC->Bool}{ys:List X}{o:PC}
def Row.cleared{w:U}{e n g off cap:Nat}{xs:List X}(h:Row w e 1 (aH (M ⟨g,off,Z⟩) n cap) n xs)(hi:i<=n)(vs:List X):Row (w.setCells g (off+i) vs) e 1 (aH (M ⟨g,off,Z⟩) i cap) i (xs.take i):=by
 refine⟨by rw[bK,h.1];omega,?_⟩;obtain⟨h0,_⟩|⟨g',R,Y,aa,hv,hh,ac,I,J,hc⟩:=h.2
 .cases h0
 .simp only[dT,aK,Addr.mk.injEq,and_true,true_and]at hv;obtain⟨⟨rfl,rfl⟩,rfl⟩:=hv;obtain⟨z,k1,k2,k3,k4⟩:=oK vs (off+i) hh;refine cD ⟨g,off,cap,z,rfl,k1,aA,I,by rw[k2];exact J,λj v E=>?_⟩;rw[gU]at E;split at E
  .rw[k3 _ (bE aA)];exact hc j v E
  .cases E
structure mV(l:List PC)(p:PC->Bool)(ys:List X)(i j:Nat):Prop where
 len:ys.length=l.length
 lt:i<j
 le:j<=l.length
 front:ys.take i=((l.take j).filter p).map λo=>ptr o.blk
 back:ys.drop j=(l.map λo=>ptr o.blk).drop j
def take_snoc{α:Type}{l:List α}{x:α}(h:l[j]? =M x):l.take (j+1)=l.take j++[x]:=by obtain⟨z,rfl⟩:=aN.1 h;exact eY z
def mV.start{x:PC}(z:l[i]? =M x)(J:p x=aL)(h:∀(j:Nat)(y:PC),j<i->l[j]? =M y->p y=aR):mV l p (l.map λo=>ptr o.blk) i (i+1):=by
 have E:=(aN.1 z).1;refine⟨aC,aA,aA,?_,rfl⟩;rw[take_snoc z,iG,eG,Zs (by rw[J];simp),oA,gI,<-List.map_take]
 congr 1
 symm;refine iR.2 (λy I=>?_);obtain⟨k,hk⟩:=pP I;rw[gU]at hk;split at hk
 .exact h k y (by assumption) hk
 .cases hk
def mV.at(h:mV l p ys i j)(ho:l[j]? =M o):ys[j]? =M (ptr o.blk):=by have:=Z1 (λq=>q[0]?) h.back;simpa[iV,ho]using this
def mV.drop(h:mV l p ys i j)(ho:l[j]? =M o)(hp:p o=aL):mV l p ys i (j+1):=by
 have z:=(aN.1 ho).1;refine⟨h.len,by have:=h.lt;omega,aA,?_,?_⟩
 .rw[h.front,take_snoc ho,iG,eG,Zs (by rw[hp];simp),oA,gI]
 .have:=Z1 (List.drop 1) h.back;simpa[iC]using this
def mV.keep(h:mV l p ys i j)(ho:l[j]? =M o)(hp:p o=aR):mV l p (ys.set i (ptr o.blk)) (i+1) (j+1):=by
 have E:=(aN.1 ho).1;have I:=h.lt;have h2:=h.len;refine⟨by rw[List.length_set];exact h2,aA,aA,?_,?_⟩
 .rw[take_snoc ho,iG,bJ,<-h.front,eG,ZD hp,oA];rw[List.take_set];have z:ys.take (i+1)=ys.take i++[ys[i]' aA]:=eY aA;rw[z,List.set_append_right _ _ (by rw[bK];omega)]
  congr 1
  rw[bK,fZ aA];simp
 .rw[List.drop_set_of_lt aA];have:=Z1 (List.drop 1) h.back;simpa[iC]using this
def mV.all(h:mV l p ys i l.length):ys.take i=(l.filter p).map λo=>ptr o.blk:=by rw[h.front,iJ]
def mV.count(h:mV l p ys i j):i=((l.take j).filter p).length:=by have:=Z1 qt h.front;rw[bK,bC,h.len]at this;have:=h.lt;have:=h.le;omega
def KU{sb:Nat}(kb nb:Nat)(nm:AL)(os:List PC){v:X}(w:U)(h:Core w nb nm os)(hr:Row w 136 1 v os.length (os.map λo=>ptr o.blk)){ap:Array X}(ay:Array X)(I:w.heap[sb]? =M (aG ap 135 (0,0)))(hs:ap[0]? =M (aD (M ⟨kb,8,Z⟩)))(J:w.heap[kb]? =M (aG ay 100 (0,0)))(hk:ay[8]? =M (.map (M nb)))(a7:os.length<=4294967296):dE PQ 68 #[v,.func (.func 69) #[] #[aD (M ⟨sb,0,Z⟩)]] w λe w'=>∃a k cap,e=bO (.slice a k cap)/\k=(os.filter (alive nm)).length/\Row w' 136 1 (.slice a k cap) k ((os.filter (alive nm)).map λo=>ptr o.blk)/\(aH a k cap).ownBlock=v.ownBlock/\jI (λk=>v.ownBlock=M k) w w':=by
 have eg:=enters_of (P:=PQ) (fq Tryz.func69 rfl) XN rfl;have an:w.cell? ⟨sb,0,Z⟩=M (aD (M ⟨kb,8,Z⟩)):=by rw[aI I];exact hs
 have am:w.cell? ⟨kb,8,Z⟩=M (.map (M nb)):=by rw[aI J];exact hk
 have z:=Oz sb kb nb nm os os v w h (λo ho=>ho) hr.rd an am a7;cases ac:os.findIdx? (λo=>!alive nm o)with
 |none=>
  have Y:os.filter (alive nm)=os:=iR.2 (λo ho=>by
   have:=List.findIdx?_eq_none_iff.1 ac o ho;simpa using this)
  have hi:idx (λo=>!alive nm o) os=-1:=by unfold idx;rw[ac]
  rw[hi]at z;rw[Y];obtain⟨a,cap,rfl⟩:=hr.slice;have af:cH _:=λ(_:Unit)=>z;have Hr:cH (Row _ _ _ _ _ _):=hr;clear z hr h I hs J hk an am ac Y hi;go_enter (fq Tryz.func68 rfl),Tryz.ntmps68;go_wp2_with (go_at_call 98;refine aT (af.out ()) ?_;rintro e w2 ⟨rfl,m,rfl⟩)
  go_ret;exact⟨a,_,cap,rfl,rfl,Hr.out.kept (λ_ _=>rfl),rfl,⟨rfl,rfl,rfl,jB,λ_ _ _=>rfl⟩⟩
 |some i0=>
  obtain⟨a6,ar,aj⟩:=iZ.1 ac;have hi:idx (λo=>!alive nm o) os=i0:=by unfold idx;rw[ac]
  rw[hi]at z;obtain⟨g,off,cap,rfl,bj⟩:=hr.pos aA
  have au:mV os (alive nm) (os.map λo=>ptr o.blk) i0 (i0+1):=mV.start (aO a6) (by simpa using ar) (λj y hj hy=>by
   obtain⟨a3,rfl⟩:=aN.1 hy;have:=aj j hj;simpa using this)
  have bd:g<↑w:=hr.lt rfl;obtain⟨rc,ae⟩:=hr.obj (g:=g) rfl;have az:sb≠g:=λe=>by rw[e,ae]at I;simp at I
  have aq:kb≠g:=λe=>by rw[e,ae]at J;simp at J
  have aw:nb≠g:=λe=>lg ae h.named e.symm
  have av:∀o,o∈os->o.blk≠g:=λo ho e=>by
   have:=h.objs o ho;unfold vW at this;rw[e,ae]at this;simp at this
  have ah:∀W,jI (λk=>k=g) w W->∀o,o∈os->dE PQ 69 #[aD (M ⟨o.blk,0,Z⟩),aD (M ⟨sb,0,Z⟩)] W λe w'=>e=bO (.bool (!alive nm o))/\∃m,w'=W.drewN m:=λW hW o ho=>
   zN sb kb nb nm os o W (h.jM hW aw (λo ho=>av o ho)) ho (by rw[aI ((hW.block _ (jE I) az).trans I)];exact hs) (by rw[aI ((hW.block _ (jE J) aq).trans J)];exact hk)
  have af:cH _:=λ(_:Unit)=>z;have a0:cH _:=ah;have Hr:cH _:=jy hr au;have ba:((i0:Int) == -1)=aL:=ZS aA;clear z hr h I hs J hk an am ac hi ar aj au ah ae az aq aw av;go_enter (fq Tryz.func68 rfl),Tryz.ntmps68;go_wp2_with (go_at_call 98;refine aT (af.out ()) ?_;rintro e w2 ⟨rfl,m,rfl⟩)
  go_loopg [5,6,7] (os.length-(i0+1)) (λgg v5 v6 _ wx=>∃(i j:Nat)(ys:List X),v5=N ab i/\v6=N ab j/\gg=os.length-j/\i<j/\j<=os.length/\cH (mV os (alive nm) ys i j/\Row wx 136 1 (aH (M ⟨g,off,Z⟩) os.length cap) os.length ys/\jI (λk=>k=g) w wx))
  case atStart=>exact⟨i0,_,_,rfl,by go_num,aA,aA,aA,Hr.out.2,Hr.out.1.kept (λ_ _=>rfl),⟨rfl,rfl,rfl,jB,λ_ _ _=>rfl⟩⟩
  case round=>
   obtain⟨i,j,ys,rfl,rfl,rfl,bg,a3,HI⟩:=hrel;by_cases a5:j<os.length
   .have a1:(j:Int)<os.length:=by omega
    obtain⟨o,ho⟩:∃o,os[j]? =M o:=⟨_,aO a5⟩
    obtain⟨d1,R,E⟩:=HI.out;have k0:=R.cell rfl j _ (d1.at ho);unfold ptr at k0;have hc:=a0.out wr E o (aX ho);obtain⟨b,hb⟩:∃b,alive nm o=b:=⟨_,rfl⟩
    rw[hb]at hc;have Hc:cH _:=λ(_:Unit)=>hc;have Ho:cH _:=jy ho hb;have aa:=R.there (j:=i) aA;have ao:=R.frozen rfl;obtain⟨ci,bh⟩:=pD.1 aa;clear hc ho hb d1 R E aa;cases b
    .go_wp2_with (go_at_call 69;refine aT (Hc.out ()) ?_;rintro e w2 ⟨rfl,m2,rfl⟩)
     go_roundg (os.length-(j+1))
     case measure=>omega
     case rel=>
      obtain⟨d1,R,E⟩:=HI.out;exact⟨i,_,ys,rfl,by go_num,rfl,aA,aA,d1.drop Ho.out.1 Ho.out.2,R.kept (λ_ _=>rfl),⟨E.os,E.tape,E.output,E.size,E.block⟩⟩
    .have a4:(i:Int)<os.length:=by omega
     go_wp2_with (go_at_call 69;refine aT (Hc.out ()) ?_;rintro e w2 ⟨rfl,m2,rfl⟩)
     go_roundg (os.length-(j+1))
     case measure=>omega
     case rel=>
      obtain⟨d1,R,E⟩:=HI.out;refine⟨_,_,_,by go_num,by go_num,rfl,aA,aA,d1.keep Ho.out.1 Ho.out.2,?_,?_⟩
      .exact(R.kept (w':=wr.drewN m2) (λ_ _=>rfl)).put _
      .have d4:jI (λk=>k=g) w (wr.drewN m2):=⟨E.os,E.tape,E.output,E.size,E.block⟩
       exact d4.trans (jI.set _ g _ _) (λ_ _ e=>e)
   .have a1:¬(j:Int)<os.length:=by omega
    obtain rfl:j=os.length:=aA
    obtain⟨d1,R,E⟩:=HI.out;have a4:(i:Int)<=os.length:=aA
    have bb:(i:Int)<=cap:=aA
    have bk:(os.length:Int)<=cap:=aA
    have a8:¬(i=cap):=aA
    have a2:=λq (hq:q<os.length-i)=>R.there (j:=i+q) aA;have ao:=R.frozen rfl
    have ai:∀q,q<os.length-i->(wr.cell? ⟨g,off+i+q,Z⟩).isSome=aR:=λq hq=>by
     have:=a2 q hq;rw[<-dV]at this;exact this
    have a9:=Lib.run_clear_slice (P:=PQ) wr 94 136 0 _ (uq Tryz.underlying94) Xp rfl rfl g _ _ (cap-i) aA ai (λq _=>ao _);clear d1 R E a2 ai ao;go_wp2_with fail;go_ret;obtain⟨d1,R,E⟩:=HI.out;have ag:=d1.count;rw[iJ]at ag;have Y:=d1.all;have ak:=R.cleared (i:=i) aA (List.replicate (os.length-i) (aD Z));rw[Y]at ak;refine⟨_,i,cap,rfl,ag,ak,rfl,?_⟩;exact(E.trans (.grown (kH g _ _ wr).1) (λk _ e=>by simpa using e.symm)).mono (λk _ e=>by rw[e];rfl)
end
section
variable {w:U}{vo:X}{os:List PC}
def JF(m:AL)(k k':Nat):l9 (nX m k) k'=if k'=k then Z else l9 m k':=by
 unfold l9 nX;rw[List.find?_filter];by_cases h:k'=k
 .subst h;rw[ZD rfl,List.find?_eq_none.2]
  .rfl
  .intro p _ e;simp at e
 .rw[Zs h]
  congr 1
  congr 1
  funext p;by_cases hp:p.1=k'
  .have z:(p.1 == k')=aR:=by simp[hp]
   have h2:(p.1 != k)=aR:=by simp[hp,h]
   rw[z,h2];rfl
  .have z:=ZS hp;rw[z];simp
def Chs.del{w':U}{nb:Nat}{nm:AL}(h:Chs w nb vo nm os){k:Nat}(R:lS w' nb eA (nX nm k))(E:jI (λj=>j=nb) w w'):Chs w' nb vo (nX nm k) os:=by refine⟨R,h.order.jM E (λg z e=>?_),λo ho=>(h.chans o ho).jM E (lg (h.chans o ho).obj h.named) (λb I e=>h.far o ho (by rw[I,e])),h.apart,h.maps,h.far,λp hp=>h.entries p (fU.1 hp).1⟩;obtain⟨J,hc⟩:=h.order.obj z;exact lg hc h.named e
def GX{nm:AL}{o:PC}(z:alive nm o=aR)(hn:(os.map (·.blk)).Nodup)(ho:o∈os){nb:Nat}(h:Chs w nb vo nm os):∀x,x∈os->alive (nX nm o.ch.name) x=(alive nm x&&x.blk != o.blk):=λx hx=>by
 by_cases e:x.ch.name=o.ch.name
 .have R:alive (nX nm o.ch.name) x=aL:=sH (by rw[JF,ZD e]);rw[R];obtain E|⟨y,hy,Y,E⟩:=h.get (n:=o.ch.name)
  .rw[sH E]at z;cases z
  .rw[pX E]at z;have J:y.blk=o.blk:=by simpa using z
   rw[pX (by rw[e];exact E),J];by_cases I:o.blk=x.blk
   .rw[I];simp
   .have:=ZS I;rw[this];rfl
 .have R:alive (nX nm o.ch.name) x=alive nm x:=by
   unfold alive;rw[JF,Zs e]
  rw[R]
  have:x.blk≠o.blk:=λI=>e (by
   have:=yQ hn hx ho I;rw[this])
  simp[this]
end
section
variable {kb nb i:Nat}{cs:Array X}{vo:X}{nm nm':AL}{os:List PC}{oldest:Int}{w0 w w':U}{o:PC}
structure nO(kb nb:Nat)(cs:Array X)(vo:X)(nm:AL)(os:List PC)(oldest:Int)(w0:U)(i:Nat)(nm':AL)(w:U):Prop where
 obj:w.heap[kb]? =M (aG cs 100 (0,0))
 chs:Chs w nb vo nm' os
 jM:jI (λk=>k=nb) w0 w
 who:∀x,x∈os->alive nm' x=(alive nm x&&!(decide (x.blk∈(os.take i).map (·.blk))&&decide ((x.ch.opened:Int)<oldest)))
def nO.below(h:nO kb nb cs vo nm os oldest w0 i nm' w)(z:Below ↑w w w'):nO kb nb cs vo nm os oldest w0 i nm' w':=
 ⟨(z.block _ (jE h.obj)).trans h.obj,h.chs.below z,h.jM.trans (.below z jB (λ_=>False)) (λ_ _ e=>e.elim),h.who⟩
def xA{x:PC}(ho:os[i]? =M o):x.blk∈(os.take (i+1)).map (·.blk)↔(x.blk∈(os.take i).map (·.blk)\/x.blk=o.blk):=by rw[take_snoc ho,bJ];simp
def XM(J:(os.map (·.blk)).Nodup)(ho:os[i]? =M o):o.blk∉(os.take i).map (·.blk):=λh=>by
 obtain⟨y,E,e⟩:=bM.1 h;obtain⟨k,hk⟩:=pP E;rw[gU]at hk;split at hk
 .rename_i z;have hp:List.Pairwise (·≠·) (os.map (·.blk)):=J;rw[iD]at hp;obtain⟨I,h2⟩:=aN.1 hk;obtain⟨h3,h4⟩:=aN.1 ho;exact hp k i (by simpa using I) (by simpa using h3) z (by simp[h2,h4,e])
 .cases hk
def nO.stay(h:nO kb nb cs vo nm os oldest w0 i nm' w)(ho:os[i]? =M o)(hs:alive nm' o=aL\/¬(o.ch.opened:Int)<oldest):nO kb nb cs vo nm os oldest w0 (i+1) nm' w:=by
 refine⟨h.obj,h.chs,h.jM,λx E=>?_⟩;by_cases e:x.blk=o.blk
 .have:=yQ h.chs.apart E (aX ho) e;subst this;have I:=Z0 ((xA ho).2 (cD rfl));have z:=ZZ (XM h.chs.apart ho);have hw:=h.who x E;rw[z]at hw;simp only[Bool.false_and,Bool.not_false,Bool.and_true]at hw;rw[I];obtain hs|hs:=hs
  .rw[hs]at hw;rw[hs,<-hw];rfl
  .rw[ZZ hs,hw];simp
 .rw[h.who x E];have:decide (x.blk∈(os.take (i+1)).map (·.blk))=decide (x.blk∈(os.take i).map (·.blk)):=decide_eq_decide.2 (by rw[xA ho];simp[e]);rw[this]
def nO.gone(h:nO kb nb cs vo nm os oldest w0 i nm' w)(ho:os[i]? =M o)(J:alive nm' o=aR)(hs:(o.ch.opened:Int)<oldest)(z:lS w' nb eA (nX nm' o.ch.name))(E:jI (λj=>j=nb) w w')(hk:kb≠nb):nO kb nb cs vo nm os oldest w0 (i+1) (nX nm' o.ch.name) w':=by
 refine⟨(E.block _ (jE h.obj) hk).trans h.obj,h.chs.del z E,h.jM.trans E (λ_ _ e=>e),λx I=>?_⟩;rw[GX J h.chs.apart (aX ho) h.chs x I,h.who x I];by_cases e:x.blk=o.blk
 .have:=yQ h.chs.apart I (aX ho) e;subst this;have z:=Z0 ((xA ho).2 (cD rfl));rw[z,Z0 hs];simp
 .have:decide (x.blk∈(os.take (i+1)).map (·.blk))=decide (x.blk∈(os.take i).map (·.blk)):=decide_eq_decide.2 (by rw[xA ho];simp[e]);have h2:(x.blk != o.blk)=aR:=by simp[e]
  rw[this,h2,Bool.and_true]
def nO.lives(h:nO kb nb cs vo nm os oldest w0 os.length nm' w):lives nm' os=(Hm.lives nm os).filter (λc=>!decide ((c.opened:Int)<oldest)):=by
 unfold Hm.lives;rw[List.filter_map,pd]
 congr 1
 refine pn (λx z=>?_);rw[h.who x z,iJ];have:decide (x.blk∈os.map (·.blk))=aR:=Z0 (bM.2 ⟨x,z,rfl⟩);rw[this,Bool.true_and,Bool.and_comm];rfl
def Chs.thin{E:X}(h:Chs w nb vo nm os)(hr:Row w' 136 1 E (os.filter (alive nm)).length ((os.filter (alive nm)).map λo=>ptr o.blk))(hg:jI (λk=>vo.ownBlock=M k) w w'):Chs w' nb E nm (os.filter (alive nm)):=by
 have sub:∀o,o∈os.filter (alive nm)->o∈os:=λo ho=>(fU.1 ho).1
 have z:∀g,vo.ownBlock=M g->g≠nb/\(∀o,o∈os->g≠o.blk/\o.fm≠M g):=λg R=>by
  obtain⟨aa,hc⟩:=h.order.obj R;refine⟨lg hc h.named,λo ho=>⟨λe=>?_,λe=>?_⟩⟩
  .have:=(h.chans o ho).obj;unfold vW at this;rw[<-e,hc]at this;simp at this
  .cases hs:o.ch.spoilt
   .obtain⟨⟨B,e',hm⟩,_⟩:=(h.chans o ho).sound hs;rw[e']at e;cases e;exact lg hc hm rfl
   .rw[((h.chans o ho).spoilt hs).2]at e;cases e
 refine⟨h.named.of_block (hg.block _ h.named.lt (λe=>(z _ e).1 rfl)),hr,λo ho=>(h.chans o (sub o ho)).jM hg (λe=>((z _ e).2 o (sub o ho)).1 rfl) (λb J e=>((z _ e).2 o (sub o ho)).2 J),(List.filter_sublist.map _).nodup h.apart,λa b ha J=>h.maps a b (sub a ha) (sub b J),λo ho=>h.far o (sub o ho),λp hp=>?_⟩;obtain⟨o,ho,rfl⟩:=h.entries p hp;refine⟨o,fU.2 ⟨ho,?_⟩,rfl⟩
 have Y:(nm.map cI).Nodup:=by
  obtain⟨es,c,_,_,hn,_⟩:=h.named;exact hn
 obtain⟨es,c,_,he,_⟩:=h.named;have I:=he.l9 Y hp;rw[pX I];simp
def PZ(nm:AL)(os:List PC):lives nm (os.filter (alive nm))=lives nm os:=by unfold lives;rw[pd];simp
end
section
section
variable {P:Program}{w:U}{ops:Array ij}{o:ij}{a:Act}{K:Act->U->Prop}{Q:p9->Act->U->Prop}{E:Prop}
def rJ(Y:o.guard=Z)(x y:jN)(t J:cG)(I:o.op=Op.call { callee:=Callee.builtin Builtin.delete,args:=#[x,y],argTypes:=#[t,J] })(e:cG){q:IntKind}(ht:P.underlying t=M (.map J e))(hk:P.underlying J=M (.int q))
  (B:Nat) (m:AL) (k:Nat) (hx:a.eval x=.map (M B)) (hy:a.eval y=.int q k) (h:lS w B q m)
  (hK:∀w',lS w' B q (nX m k)->w.grownBy w' (M B)->↑w'=w.heap.size->K (a.put o.dst (cQ #[])) w'):
  if cP o (yielded ops a.tmps)=aR then Oper.wp P o a w K Q else E:=by
 have hw:cP o (yielded ops a.tmps)=aR:=by simp[cP,Y]
 rw[ZD hw];obtain⟨w',z,r1,r2,R⟩:=h.delete ht hk k o.type;unfold Oper.wp;simp[bN,I,resolve,invoke,builtin,hx,hy,z,fS];exact hK w' r1 r2 R
def pG(hg:o.guard=Z)(s x:jN)(t:cG)(ae:o.op=.call { callee:=.builtin .append,args:=#[s,x],argTypes:=#[t,t] })
  (e:cG) (i:TypeInfo) (z:X) (size bytes:Nat) (ht:P.underlying t=M (.slice e)) (hi:P.info? e=M i) (hz:i.zero=M z)
  (R:i.size=size) (ah:i.bytes=bytes) (ai:z.cells.size=size) (ag:0<size)
  (v:X) (n:Nat) (xs:List X) (hs:a.eval s=v) (aa:Row w e size v n xs)
  (ad:eM) (m c:Nat) (I:List X) (hx:a.eval x=aH (M ad) m c) (hm:0<m) (hl:I.length=m*size) (Y:∀j u,I[j]? =M u->w.cell? (ad.add j)=M u) (h1:∀u∈I,u.oneCell'=aR)
  (af:n+m<=maxLen) (J:(n+m)*bytes<=140737488355328)
  (h:∀g off cap w',Row w' e size (aH (M ⟨g,off,Z⟩) (n+m) cap) (n+m) (xs++I)->Grew v g w w'->K (a.put o.dst (aH (M ⟨g,off,Z⟩) (n+m) cap)) w'):
  if cP o (yielded ops a.tmps)=aR then Oper.wp P o a w K Q else E:=by
 have hw:cP o (yielded ops a.tmps)=aR:=by simp[cP,hg]
 rw[ZD hw];obtain⟨v',w',hr,h2,⟨g,off,cap,rfl⟩,h4⟩:=aa.append (P:=P) t o.type i z bytes ht hi hz R ah ai ag ad m c I hm hl Y h1 af J;unfold Oper.wp;simp[bN,ae,resolve,invoke,builtin,hs,hx,hr,fS];refine h g off cap w' h2 ?_;obtain⟨e1,e2,e3⟩|⟨e1,e2,e3⟩:=h4
 .have ac:v.ownBlock=M g:=e1.symm;exact bE ⟨ac,by rw[<-ac];exact e2,e3⟩
 .exact cD ⟨by simpa[cV]using e1,e2,e3⟩
end
end
def NH(kb nb:Nat)(cs:Array X)(vo:X)(nm:AL)(os:List PC){E:Int}(w:U)(hk:w.heap[kb]? =M (aG cs 100 (0,0)))(h8:cs[8]? =M (.map (M nb)))(h9:cs[9]? =M vo)(h:Chs w nb vo nm os)(aq:os.length<=4294967296):dE PQ 49 #[aD (M ⟨kb,8,Z⟩),N ab E] w λe w'=>e=bO (cQ #[])/\∃a7 z ai,BD kb nb cs vo os w a7 z ai w'/\ai.length<=os.length/\lives z ai=(lives nm os).filter (λc=>!decide ((c.opened:Int)<E)):=by
 obtain⟨W,hW,R,zo⟩:=jD w #[aD (M ⟨kb,8,Z⟩)] 135;have a5:↑w<W.heap.size:=by rw[hW];simp
 have z0:=kJ zo;have aa:W.heap[kb]? =_:=(R.block _ (jE hk)).trans hk;have e9:W.cell? ⟨kb,9,Z⟩=M vo:=by rw[aI aa];exact h9
 have a1:=lg hk h.named;have bo:=h.named.lt;have af:nO kb nb cs vo nm os E W 0 nm W:=⟨aa,h.below R,jI.refl _ _,λx hx=>aC⟩
 obtain⟨a,cap,rfl⟩:=h.order.slice;have ah:cH (nO _ _ _ _ _ _ _ _ _ _ _):=af;have H:cH _:=jy hk (jy h8 (jy h9 (jy h (jy R (jy zo aa)))));clear hk h8 h9 h R zo aa af;go_enter (fq Tryz.func49 rfl),Tryz.ntmps49;go_upto_region 1 with fail;rw[<-hW];clear hW;go_wp2_with fail;go_loopg [5,11] os.length (λgg _ a4 wx=>∃(i:Nat)(z:AL),i<=os.length/\a4=N ab i/\gg=os.length-i/\cH (nO kb nb cs (.slice a os.length cap) nm os E W i z wx))
 case atStart=>exact⟨0,nm,dL _,rfl,rfl,ah⟩
 case round=>
  obtain⟨i,z,hi,rfl,rfl,I⟩:=hrel;clear ah z0 e9;obtain⟨hk,h8,h9,h,R,zo,aa⟩:=H.out;have Y:wr.heap[w.heap.size]? =_:=(I.out.jM.block _ a5 aA).trans zo;have z0:=kJ Y;have e8:wr.cell? ⟨kb,8,Z⟩=M (.map (M nb)):=by rw[aI I.out.obj];exact h8
  have e9:wr.cell? ⟨kb,9,Z⟩=M (.slice a os.length cap):=by rw[aI I.out.obj];exact h9
  by_cases a6:i<os.length
  .have az:(i:Int)<os.length:=by omega
   obtain⟨o,ho⟩:∃o,os[i]? =M o:=⟨_,aO a6⟩
   obtain⟨g,off,bg,hv,_⟩:=I.out.chs.order.pos aA;simp only[dT,true_and]at hv;obtain⟨rfl,rfl⟩:=hv;have k0:=I.out.chs.order.cell rfl i (ptr o.blk) (by rw[fE,ho];rfl);have J:=rU kb nb 8 z os o wr I.out.chs.core (aX ho) e8;have au:=(I.out.chs.chans o (aX ho)).obj;obtain⟨c0,c1⟩:=cells2 au;obtain⟨b,hb⟩:∃b,alive z o=b:=⟨_,rfl⟩
   rw[hb]at J;unfold ptr at k0 J;have ac:cH _:=λ(_:Unit)=>J;have Ho:cH _:=jy ho hb;clear J ho hb au hk h8 h9 h R zo aa Y;cases b
   .go_wp2_with (go_at_call 67;refine aT (ac.out ()) ?_;rintro e w2 ⟨rfl,m,rfl⟩)
    go_roundg (os.length-(i+1))
    case measure=>omega
    case rel=>exact⟨_,z,aA,by go_num,rfl,(I.out.below (below_drewN (aJ _ _) _)).stay Ho.out.1 (bE Ho.out.2)⟩
   .by_cases bd:(o.ch.opened:Int)<E
    .go_upto_region 5 with(go_at_call 67;refine aT (ac.out ()) ?_;rintro e w2 ⟨rfl,m,rfl⟩)
     generalize hV:oF _ _=V;have ao:nO kb nb cs (aH (M ⟨g,off,Z⟩) os.length cap) nm os E W i z V:=by rw[<-hV];exact I.out.below (below_drewN (aJ _ _) _)
     have bk:V.cell? ⟨↑w,0,Z⟩=M (aD (M ⟨kb,8,Z⟩)):=by rw[<-hV];exact z0
     have bm:V.cell? ⟨kb,8,Z⟩=M (.map (M nb)):=by rw[<-hV];exact e8
     have bj:V.cell? ⟨o.blk,0,Z⟩=M (N eA o.ch.name):=by rw[<-hV];exact c0
     have bb:cH (nO _ _ _ _ _ _ _ _ _ _ _):=ao;have ar:=ao.chs.named.of_block (w':=V.drew) rfl;have a9:cH (lS _ _ _ _):=ar;clear ao hV z0 e8 e9 c0 c1 ar k0;go_region_law ((refine rJ (by rfl) (cN 29) (cN 33) 93 22 (by rfl) 136 (uq po) (uq lx) nb z o.ch.name (by rfl) (by rfl) a9.out ?_;intro w7 a3 ba bn))
     all_goals
      go_wp2_with fail;go_roundg (os.length-(i+1))
      case measure=>omega
      case rel=>exact⟨_,_,aA,by go_num,rfl,bb.out.gone Ho.out.1 Ho.out.2 bd a3 ((jI.drew _ V).trans (.grown ba) (λk _ e=>by simpa using e.symm)) a1⟩
    .go_wp2_with (go_at_call 67;refine aT (ac.out ()) ?_;rintro e w2 ⟨rfl,m,rfl⟩)
     go_roundg (os.length-(i+1))
     case measure=>omega
     case rel=>exact⟨_,z,aA,by go_num,rfl,(I.out.below (below_drewN (aJ _ _) _)).stay Ho.out.1 (cD aA)⟩
  .have az:¬(i:Int)<os.length:=by omega
   obtain rfl:i=os.length:=aA
   have ap:(aH a os.length cap).ownBlock≠M kb:=λe=>by
    obtain⟨a2,hc⟩:=I.out.chs.order.obj e;rw[I.out.obj]at hc;simp at hc
   have ae:=λV hV=>(KU kb nb z os V (I.out.chs.below hV).core (I.out.chs.below hV).order cs ((hV.block _ (jE Y)).trans Y) rfl ((hV.block _ (jE I.out.obj)).trans I.out.obj) h8 aq).mono
    (R':=λe w'=>∃va vk vc,e=bO (.slice va vk vc)/\w'.cell? ⟨↑w,0,Z⟩=M (aD (M ⟨kb,8,Z⟩))/\w'.cell? ⟨kb,9,Z⟩=M (.slice a os.length cap)/\(∀q,w'.frozen? ⟨kb,q,Z⟩=aL)/\cH (vk=(os.filter (alive z)).length/\Row w' 136 1 (.slice va vk vc) vk ((os.filter (alive z)).map λo=>ptr o.blk)/\(aH va vk vc).ownBlock=(aH a os.length cap).ownBlock/\jI (λk=>(aH a os.length cap).ownBlock=M k) wr w'/\w'.heap[kb]? =M (aG cs 100 (0,0))))
    (λe w' ⟨va,vk,vc,p1,p2,p3,p4,p5⟩=>by
     have q5:=(jI.below hV jB _).trans p5 (λ_ _ e=>e);have q6:=(q5.block _ (jE I.out.obj) ap).trans I.out.obj
     have q7:w'.heap[w.heap.size]? =_:=(q5.block _ (jE Y) (λe=>by
      obtain⟨a2,hc⟩:=I.out.chs.order.obj e;rw[Y]at hc;simp at hc)).trans Y
     exact⟨va,vk,vc,p1,by rw[aI q7];rfl,by rw[aI q6];exact h9,aQ q6,p2,p3,p4,q5,q6⟩)
   have aw:cH _:=ae;have ak:=aJ ↑wr wr;clear hk h8 h9 h R zo aa Y ae ap;go_upto_region 7 with fail;go_region_with (go_at_call 68;(refine aT (aw.out _ ?_) ?_;(first|exact ak|exact ak.drew|exact below_drewN ak _);rintro e w5 ⟨va,vk,vc,rfl,bl,bp,bh,H5⟩))
   all_goals
    go_wp2_with fail;go_end0;obtain⟨a8,am,an,a0,av⟩:=H5.out;obtain⟨hk,h8,h9,h,R,zo,aa⟩:=H.out;subst a8;have ay:=I.out.chs.thin am a0;have ag:=jI.set w5 kb 9 (.slice va (os.filter (alive z)).length vc);refine⟨rfl,_,z,_,⟨jX av 9 _,ay.jM ag (λk aj e=>?_),?_,λk aj=>bE ?_,?_⟩,gZ _ _,?_⟩
    .subst e;exact ay.lK av aB aB aj
    .refine(((jI.below R jB _).trans I.out.jM (λk _ e=>cD (bE e))).trans a0 (λk _ e=>cD (cD (bE e)))).trans ag (λk _ e=>bE e)
    .obtain e|e|⟨x,hx,e⟩:=aj
     .exact bE e
     .exact cD (bE (by rw[<-an];exact e))
     .exact cD (cD ⟨x,(fU.1 hx).1,e⟩)
    .have:=gZ (alive z) os;omega
    .rw[PZ,I.out.lives]
def NV{w:U}{o:PC}(h:ChanAt w o):∃L:Nat,(∀V:U,(∀b,o.fm=M b->V.heap[b]? =w.heap[b]?)->(Builtin.len_ #[138] 3 #[.map o.fm]).run PQ V=.ok (N ab L) V)/\L<=65536/\(o.ended&&decide ((L:Int)=o.last+1))=(Dv.bytes o.ch.l).isSome:=by
 cases hs:o.ch.spoilt
 .obtain⟨⟨B,e,Y⟩,h1,h2,h3,h4⟩:=h.sound hs;refine⟨o.ch.l.length,λV hV=>?_,?_,?_⟩
  .rw[e];have:=(Y.of_block (hV B e)).len (P:=PQ) (uq js) 3;rw[this];simp[uj,goInt]
  .have:=Dv.yu (a:=o.ch.l.map _) (b:=ir 65536) h.fine.apart (λx R=>by
    obtain⟨y,J,rfl⟩:=bM.1 R;exact gV.2 (h.small y J).1)
   rw[bC,List.length_range]at this;exact this
  .rw[h3];cases z:Dv.last o.ch.l with
   |none=>
    have:Dv.bytes o.ch.l=Z:=by unfold Dv.bytes;rw[z];rfl
    rw[this];rfl
   |some n=>
    have hw:=Dv.F6 h.fine z;rw[h4 n z];have:((o.ch.l.length:Int)=n+1)↔o.ch.l.length=n+1:=aA
    cases E:(Dv.bytes o.ch.l).isSome with
    |true=>rw[Z0 ((this.trans hw).2 E)];rfl
    |false=>
     rw[ZZ (λh=>by
      have:=(this.trans hw).1 h;rw[E]at this;cases this)]
     rfl
 .obtain⟨e1,I⟩:=h.spoilt hs;refine⟨0,λV _=>?_,aA,?_⟩
  .rw[I];exact lS.len_nil (P:=PQ) (uq js) 3
  .rw[e1];have:¬((0:Nat):Int)=(o.last:Int)+1:=by omega
   rw[ZZ this,Bool.and_false];rfl
def OY(o:PC){w:U}(h:ChanAt w o):dE PQ 79 #[Tz o.blk] w λe w'=>e=bO (.bool (Dv.bytes o.ch.l).isSome)/\∃m,w'=w.drewN m:=by
 obtain⟨L,hL,ac,J⟩:=NV h;obtain⟨-,-,c2,-,c4,c5⟩:=Xk h.obj;obtain⟨r,E⟩:∃r,(Dv.bytes o.ch.l).isSome=r:=⟨_,rfl⟩
 rw[E]at J⊢;have aa:=λn=>hL (w.drewN n) (λ_ _=>rfl);have R:=h.lastLt;obtain⟨en,I⟩:∃en,o.ended=en:=⟨_,rfl⟩
 obtain⟨la,z⟩:∃la,o.last=la:=⟨_,rfl⟩
 rw[I]at c4 J;rw[z]at c5 J R;unfold Tz;have Y:cH _:=J;clear h hL J E I z;go_enter (fq Tryz.func79 rfl),Tryz.ntmps79;go_upto_region 1 with fail;cases en
 .go_quiet (fail);go_wp2_with fail;go_ret;exact⟨by rw[<-Y.out];rfl,_,rfl⟩
 .go_quiet (fail);go_wp2_with fail;go_ret;exact⟨by rw[<-Y.out];rfl,_,rfl⟩
def QC{l:List F}{n:Nat}{d:List UInt8}(h:Dv.has l n=M d):∃x,x∈l/\x.num=n/\x.data=d/\l9 (uj l) n=M (Jw x):=by unfold Dv.has at h;rw[bI]at h;obtain⟨x,z,rfl⟩:=h;have E:=List.find?_some z;refine⟨x,List.mem_of_find?_eq_some z,by simpa using E,rfl,?_⟩;unfold l9 uj;rw[List.find?_map];have:l.find? ((λp:Nat×X=>p.1 == n)∘λf=>(f.num,Jw f))=M x:=z;rw[this];rfl
def Rx{l:List F}:∀{k:Nat}{s:List UInt8},Dv.rP l k=M s->Small l->s.length<=k*65536
 |0,s,h,_=>by simp[Dv.rP]at h;subst h;simp
 |k+1,s,h,hs=>by
  unfold Dv.rP at h;cases E:Dv.rP l k with
  |none=>rw[E]at h;cases h
  |some t=>
   rw[E,gX,bI]at h;obtain⟨d,hd,rfl⟩:=h;have J:=Rx (l:=l) (k:=k) (s:=t) E hs;obtain⟨x,I,_,z,_⟩:=QC hd;have:=(hs x I).2;rw[aS,iP,<-z];omega
def NG(a b c d:X)(w:U):(Instr.field 109 (fX #[a,b,c,d]) 2).run PQ w=.ok c w:=XN
def OE(o:PC)(s:List UInt8)(w:U)(h:ChanAt w o)(hs:Dv.bytes o.ch.l=M s):dE PQ 80 #[Tz o.blk] w λe w'=>e=bO (bB ⟨s.toArray⟩)/\Below ↑w w w':=by
 have aq:o.ch.spoilt=aL:=by
  cases hx:o.ch.spoilt with
  |false=>rfl
  |true=>rw[(h.spoilt hx).1]at hs;cases hs
 obtain⟨⟨B,hB,hm⟩,h1,h2,h3,h4⟩:=h.sound aq
 obtain⟨n,hn,hg⟩:∃n,Dv.last o.ch.l=M n/\Dv.rP o.ch.l (n+1)=M s:=by
  unfold Dv.bytes at hs;cases hl:Dv.last o.ch.l with
  |none=>rw[hl]at hs;cases hs
  |some n=>rw[hl]at hs;exact⟨n,rfl,hs⟩
 have ah:=(Dv.F6 h.fine hn).2 (by rw[hs];rfl)
 have az:o.ch.l.length<=65536:=by
  have:=Dv.yu (a:=o.ch.l.map _) (b:=ir 65536) h.fine.apart (λx hx=>by
   obtain⟨y,hy,rfl⟩:=bM.1 hx;exact gV.2 (h.small y hy).1)
  rw[bC,List.length_range]at this;exact this
 have ac:=h.obj;have aw:=(jE ac)
 obtain⟨W,hW,ag,-⟩:=jD w #[aD Z,aH Z 0 0] 201;have an:Zb ↑w ↑w [] W:=by rw[hW];exact fresh w
 have c2:∀V,Below ↑w w V->V.cell? ⟨o.blk,2,Z⟩=M (.map (M B)):=λV hV=>by rw[hV.cell (p:=⟨o.blk,2,Z⟩) aw,aI ac,<-hB];rfl
 have R:∀V,Below ↑w w V->lS V B lB (uj o.ch.l):=λV hV=>hm.of_block (hV.block _ hm.lt);have am:=(R W ag).len (P:=PQ) (uq js) 3;rw[show(uj o.ch.l).length=n+1 from by unfold uj;rw[bC];exact ah]at am;have au:=c2 W ag;have J:=h.small;obtain⟨l,hl⟩:∃l,o.ch.l=l:=⟨_,rfl⟩
 rw[hl]at R hg J ah az
 have aa:∀k,k<=n+1->∃t,Dv.rP l k=M t:=λk hk=>by
  have h0:=Dv.uU (l:=l) (k:=n+1);rw[hg]at h0;have h1:=h0.1 rfl;exact pD.1 (Dv.uU.2 (λj hj=>h1 j aA))
 have H:cH _:=jy c2 (jy R (jy hg (jy J aa)));have HB:cH _:=jy ag an;unfold Tz;have a2:↑w<W.heap.size:=by rw[hW];simp
 clear h hs hm h1 h2 h3 h4 hn ac ag an c2 R J hg aa hB hl aq;go_enter (fq Tryz.func80 rfl),Tryz.ntmps80;go_upto_region 2 with fail;rw[<-hW];clear hW;go_wp2_with fail;go_loopg [4,10] (n+1) (λgg _ ay wx=>∃(i:Nat)(t:List UInt8),i<=n+1/\ay=N ab i/\gg=n+1-i/\cH (Dv.rP l i=M t/\Zb ↑w ↑w t wx/\Below ↑w w wx))
 case atStart=>exact⟨0,[],aA,rfl,rfl,rfl,HB.out.2,HB.out.1⟩
 case round=>
  obtain⟨i,t,hi,rfl,rfl,HI⟩:=hrel;clear au am;obtain⟨c2,R,hg,J,aa⟩:=H.out;by_cases a3:i<n+1
  .have ar:(i:Int)<n+1:=by omega
   obtain⟨t',I⟩:=aa (i+1) aA
   obtain⟨d,hd⟩:∃d,Dv.has l i=M d:=by
    unfold Dv.rP at I;rw[HI.out.1,gX,bI]at I;obtain⟨d,hd,_⟩:=I;exact⟨d,hd⟩
   have af:t'=t++d:=by
    have:=Dv.Ti HI.out.1 hd;rw[this]at I;exact(fC I).symm
   obtain⟨x,hx,av,aj,ai⟩:=QC hd;have E:=(R wr HI.out.2.2).lookup (P:=PQ) (uq js) (uq Tryz.underlying107) (ab8) i aL;rw[ai]at E;simp only[bU,if_false,fH]at E;unfold Jw at E;rw[aj]at E;obtain⟨D,hD⟩:∃D:ByteArray,(⟨d.toArray⟩:ByteArray)=D:=⟨_,rfl⟩
   have ae:D.data.toList=d:=by rw[<-hD]
   have a4:D.size<=65536:=by rw[<-hD,<-aj];exact(J x hx).2
   rw[hD]at E;have e2:=c2 wr HI.out.2.2;have a0:=Rx HI.out.1 J;have z:=O1 t D wr HI.out.2.1 (by have:i*65536<=65536*65536:=fK _ aA;omega) HI.out.2.2.size;have Y:cH _:=λ(_:Unit)=>z;have Hx:cH _:=jy I (jy af ae);have a1:=NG;clear c2 R hg J aa I af hd hx av aj ai hD ae a0 z;go_wp2_with (go_at_call 119;refine aT (Y.out ()) ?_;rintro e w2 ⟨rfl,ao,ak⟩)
   go_roundg (n+1-(i+1))
   case measure=>omega
   case rel=>
    obtain⟨I,af,ae⟩:=Hx.out;exact⟨_,t',aA,by go_num,rfl,I,by rw[af,<-ae];exact ao,HI.out.2.2.trans ak⟩
  .have ar:¬(i:Int)<n+1:=by omega
   obtain rfl:i=n+1:=aA
   have ap:t=s:=by
    have:=HI.out.1;rw[hg]at this;exact(fC this).symm
   have z:=AU t wr HI.out.2.1 HI.out.2.2.size;rw[ap]at z;have Y:cH _:=λ(_:Unit)=>z;clear c2 R hg J aa z ap;go_wp2_with (go_at_call 120;refine aT (Y.out ()) ?_;rintro e w2 ⟨rfl,ao,ak⟩)
   go_ret;exact⟨rfl,HI.out.2.2.trans ak⟩
section
variable {w A W W' XX:U}{n g off cap nb kb:Nat}{nm:AL}{o:PC}{os:List PC}{vo:X}{l l0:List Ch}{s:List UInt8}{B:Nat->Prop}{pre:List (List UInt8)}{cs:Array X}
def Row.tail{e:Nat}{x:X}{xs:List X}(h:Row w e 1 (aH (M ⟨g,off,Z⟩) (n+1) cap) (n+1) (x::xs)):Row w e 1 (.slice (if cap=1 then M ⟨g,off,Z⟩else M ⟨g,off+1,Z⟩) n (cap-1)) n xs:=by
 obtain⟨Y,h2⟩:=h;rw[aU]at Y;obtain⟨I,e2⟩|⟨g',J,R,z,I,h3,h4,h5,h6,h7⟩:=h2
 .cases e2
 .simp only[dT,aK,Addr.mk.injEq]at I;obtain⟨⟨rfl,rfl,_⟩,_,rfl⟩:=I;by_cases hc:cap=1
  .rw[ZD hc];have hx:xs=[]:=bP aA;refine⟨aA,cD ⟨_,_,_,z,rfl,h3,aA,aA,aA,λj u E=>?_⟩⟩;rw[hx]at E;simp at E
  .rw[Zs hc];refine⟨aA,cD ⟨_,_,_,z,rfl,h3,aA,aA,aA,λj u E=>?_⟩⟩;rw[dV,Nat.add_comm 1 j];exact h7 _ u (by simpa using E)
def Chs.tail(h:Chs w nb (aH (M ⟨g,off,Z⟩) n cap) nm (o::os))(J:alive nm o=aL):Chs w nb (.slice (if cap=1 then M ⟨g,off,Z⟩else M ⟨g,off+1,Z⟩) os.length (cap-1)) nm os:=by
 have hn:n=os.length+1:=by
  obtain⟨a,c,e⟩:=Row.slice h.order;simp only[dT]at e;simpa using e.2.1
 subst hn;have I:=h.apart;rw[eP,iE]at I;refine⟨h.named,Row.tail (by simpa using h.order),λx E=>h.chans x (cZ _ E),I.2,λa b J hb=>h.maps a b (cZ _ J) (cZ _ hb),λx E=>h.far x (cZ _ E),λp hp=>?_⟩;obtain⟨x,E,e⟩:=h.entries p hp;obtain rfl|E:=dD.1 E
 .exfalso
  have R:(nm.map cI).Nodup:=by
   obtain⟨es,c,_,_,q,_⟩:=h.named;exact q
  obtain⟨es,c,_,Y,_⟩:=h.named;have z:=Y.l9 R hp;rw[e]at z;rw[pX z]at J;simp at J
 .exact⟨x,E,e⟩
def NU(z:alive nm o=aL):lives nm (o::os)=lives nm os:=by unfold lives;rw[List.filter_cons_of_neg (by simp[z])]
def Bv(z:alive nm o=aR):lives nm (o::os)=o.ch::lives nm os:=by unfold lives;rw[List.filter_cons_of_pos (by simp[z])];rfl
def SK(h:Chs w nb vo nm (o::os))(I:alive nm o=aR):alive (nX nm o.ch.name) o=aL/\lives (nX nm o.ch.name) os=lives nm os:=by
 have hd:=GX I h.apart dQ h;have z:=h.apart;rw[eP,iE]at z;refine⟨by rw[hd o dQ];simp,?_⟩;unfold lives
 congr 1
 refine pn (λx E=>?_);rw[hd x (cZ _ E)]
 have:(x.blk != o.blk)=aR:=by
  simp only[bne_iff_ne,ne_eq];intro e;exact z.1 (bM.2 ⟨x,E,e⟩)
 rw[this,Bool.and_true]
def OU{c:Ch}(h:Dv.bytes c.l=M s):Dv.pull (c::l)=(s::(Dv.pull l).1,(Dv.pull l).2):=by rw[Dv.pull,h]
def Td{c:Ch}(h:Dv.bytes c.l=Z):Dv.pull (c::l)=([],c::l):=by rw[Dv.pull,h]
structure PX where
 s:List UInt8
 vo:X
 nm:AL
 os:List PC
def PX.encs(x:PX):Array X:=#[bB ⟨x.s.toArray⟩]
def J9(p0:PX)(pre:List PX):PX:=pre.foldl (λ_ x=>x) p0
def tu(p0:PX)(pre:List PX)(x:PX):J9 p0 (pre++[x])=x:=by simp[J9]
structure PS(kb nb:Nat)(B:Nat->Prop)(l0:List Ch)(pre:List (List UInt8))(W:U)(cs:Array X)(vo:X)(nm:AL)(os:List PC):Prop where
 obj:W.heap[kb]? =M (aG cs 100 (0,0))
 named:cs[8]? =M (.map (M nb))
 order:cs[9]? =M vo
 chs:Chs W nb vo nm os
 len:os.length<=4294967296
 pull:Dv.pull l0=(pre++(Dv.pull (lives nm os)).1,(Dv.pull (lives nm os)).2)
 own:∀k,Own nb vo os k->B k
def PSt(kb z nb:Nat)(B:Nat->Prop)(l0:List Ch)(p0:PX)(pre:List PX)(W:U):Prop:=(∃cs,PS kb nb B l0 (pre.map PX.s) W cs (J9 p0 pre).vo (J9 p0 pre).nm (J9 p0 pre).os)/\W.cell? ⟨z,0,Z⟩=M (aD (M ⟨kb,8,Z⟩))
def PEn(kb nb:Nat)(B:Nat->Prop)(l0:List Ch)(pre:List PX)(W:U):Prop:=∃cs vo nm os,PS kb nb B l0 (pre.map PX.s) W cs vo nm os/\lives nm os=(Dv.pull l0).2/\pre.map PX.s=(Dv.pull l0).1
def PY(kb z nb:Nat)(B:Nat->Prop)(l0:List Ch)(p0:PX)(pre:List PX)(x:PX)(_:Nat)(W:U):Prop:=PSt kb z nb B l0 p0 (pre++[x]) W
def EK(kb:Nat)(A B:U):Prop:=∀(cs:Array X)(t:Nat)(z:Nat×Nat),A.heap[kb]? =M (aG cs t z)->∃v,B.heap[kb]? =M (aG (cs.setIfInBounds 9 v) t z)
def EK.refl(kb:Nat)(A:U):EK kb A A:=λcs t E h=>⟨cs[9]?.getD .nilFunc,by
 rw[h]
 congr 2
 apply gB;intro i;rw[aV];split
 .rename_i e;subst e;split
  .rename_i z;rw[dA z];rfl
  .rename_i z;exact Array.getElem?_eq_none aA
 .rfl⟩
def EK.trans{B C:U}(E:EK kb A B)(h2:EK kb B C):EK kb A C:=λcs t z h=>by
 obtain⟨v,h3⟩:=E cs t z h;obtain⟨v',h4⟩:=h2 _ t z h3;exact⟨v',by rw[h4];simp⟩
def EK.same{B:U}(h:B.heap[kb]? =A.heap[kb]?):EK kb A B:=λcs t z hc=>by
 obtain⟨v,E⟩:=EK.refl kb A cs t z hc;exact⟨v,h.trans E⟩
def EK.put{l:Nat}{B:U}(h:EK kb A B)(o:Obj)(E:kb<l):EK kb (A.putObj l o) (B.putObj l o):=λcs t z hc=>by
 rw[qT aA]at hc⊢;exact h cs t z hc
def PS.jM(h:PS kb nb B l0 pre W cs vo nm os){XS:Nat->Prop}(hc:jI XS W W')(hk:¬XS kb)(z:∀k,B k->¬XS k):PS kb nb B l0 pre W' cs vo nm os:=
 ⟨(hc.block _ (jE h.obj) hk).trans h.obj,h.named,h.order,h.chs.jM hc (λk hk=>z k (h.own k hk)),h.len,h.pull,h.own⟩
def PS.below(h:PS kb nb B l0 pre W cs vo nm os)(z:Below ↑W W W'):PS kb nb B l0 pre W' cs vo nm os:=
 h.jM (.below z jB (λ_=>False)) (λe=>e) (λ_ _ e=>e)
def oL(kb:Nat)(W:U):Nat:=match W.cell? ⟨kb,9,Z⟩with
 |some (.slice _ n _)=>n
 |_=>0
def PS.ab7(h:PS kb nb B l0 pre W cs vo nm os):W.cell? ⟨kb,8,Z⟩=M (.map (M nb)):=by rw[aI h.obj];exact h.named
def PS.abM(h:PS kb nb B l0 pre W cs vo nm os):W.cell? ⟨kb,9,Z⟩=M vo:=by rw[aI h.obj];exact h.order
def PS.oL(h:PS kb nb B l0 pre W cs vo nm os):oL kb W=os.length:=by obtain⟨a,cap,e⟩:=Row.slice h.chs.order;unfold Hm.oL;rw[h.abM,e]
def PS.skip(h:PS kb nb B l0 pre W cs (aH (M ⟨g,off,Z⟩) n cap) nm (o::os))(R:alive nm o=aL)(z:W'.heap[kb]? =M (aG (cs.setIfInBounds 9 (.slice (if cap=1 then M ⟨g,off,Z⟩else M ⟨g,off+1,Z⟩) os.length (cap-1))) 100 (0,0)))(hc:jI (λk=>k=kb) W W'):
  PS kb nb B l0 pre W' (cs.setIfInBounds 9 (.slice (if cap=1 then M ⟨g,off,Z⟩else M ⟨g,off+1,Z⟩) os.length (cap-1))) (.slice (if cap=1 then M ⟨g,off,Z⟩else M ⟨g,off+1,Z⟩) os.length (cap-1)) nm os:=by
 have I:=h.chs.lK h.obj aB aB;have J:=(jE h.order)
 have E:=h.len;rw[aU]at E;refine⟨z,by rw[aV];simpa using h.named,by rw[aV];simp[J],(h.chs.jM hc (λk hk e=>I (e ▸ hk))).tail R,aA,by have:=h.pull;rw[NU R]at this;exact this,λk hk=>h.own k ?_⟩;obtain e|e|⟨x,Y,e⟩:=hk
 .exact bE e
 .exact cD (bE (by split at e<;>exact e))
 .exact cD (cD ⟨x,cZ _ Y,e⟩)
def PS.take(h:PS kb nb B l0 pre W cs (aH (M ⟨g,off,Z⟩) n cap) nm (o::os))(ha:alive nm o=aR)(hs:Dv.bytes o.ch.l=M s){E:U}(z:W'.heap[kb]? =M (aG (cs.setIfInBounds 9 (.slice (if cap=1 then M ⟨g,off,Z⟩else M ⟨g,off+1,Z⟩) os.length (cap-1))) 100 (0,0)))(hc:jI (λk=>k=kb) W W')(hm:lS E nb eA (nX nm o.ch.name))(R:jI (λk=>k=nb) W' E):
  PS kb nb B l0 (pre++[s]) E (cs.setIfInBounds 9 (.slice (if cap=1 then M ⟨g,off,Z⟩else M ⟨g,off+1,Z⟩) os.length (cap-1))) (.slice (if cap=1 then M ⟨g,off,Z⟩else M ⟨g,off+1,Z⟩) os.length (cap-1)) (nX nm o.ch.name) os:=by
 have I:=h.chs.lK h.obj aB aB;have aa:=(jE h.order)
 have Y:=h.len;rw[aU]at Y;have hd:=SK h.chs ha;have J:=h.chs.jM hc (λk hk e=>I (e ▸ hk));refine⟨(R.block kb (jE z) (λe=>I (bE e))).trans z,by rw[aV];simpa using h.named,by rw[aV];simp[aa],(J.del hm R).tail hd.1,aA,?_,λk hk=>h.own k ?_⟩
 .rw[h.pull,Bv ha,OU hs,hd.2];simp
 .obtain e|e|⟨x,hx,e⟩:=hk
  .exact bE e
  .exact cD (bE (by split at e<;>exact e))
  .exact cD (cD ⟨x,cZ _ hx,e⟩)
structure Cut(kb:Nat)(cs:Array X)(v:X)(W XX:U):Prop where
 obj:XX.heap[kb]? =M (aG (cs.setIfInBounds 9 v) 100 (0,0))
 jM:jI (λk=>k=kb) W XX
 ek:EK kb W XX
def Cut.of{V:U}(h:PS kb nb B l0 pre W cs vo nm os){v:X}(z:Below ↑W W V)(E:(V.setCell ⟨kb,9,Z⟩ v).drew=XX):Cut kb cs v W XX:=by
 have hc:jI (λk=>k=kb) W XX:=by
  rw[<-E];exact((jI.below z jB _).trans (jI.set _ kb 9 v) (λ_ _ e=>e)).trans (jI.drew _ _) (λ_ _ e=>e)
 have ho:XX.heap[kb]? =M (aG (cs.setIfInBounds 9 v) 100 (0,0)):=by
  rw[<-E];have:=(z.block _ (jE h.obj)).trans h.obj;exact block_setCell this v
 refine⟨ho,hc,λcs' t I hk=>?_⟩;rw[h.obj]at hk;cases hk;exact⟨v,ho⟩
def PS.goes{Y Wd:U}(h:PS kb nb B l0 pre W cs (aH (M ⟨g,off,Z⟩) n cap) nm (o::os))(R:alive nm o=aR)(hs:Dv.bytes o.ch.l=M s)(z:Cut kb cs (.slice (if cap=1 then M ⟨g,off,Z⟩else M ⟨g,off+1,Z⟩) os.length (cap-1)) W XX)(hY:Below ↑XX XX Y)(J:lS Wd nb eA (nX nm o.ch.name))(hg:Y.drew.grownBy Wd (M nb)):
  PS kb nb B l0 (pre++[s]) Wd (cs.setIfInBounds 9 (.slice (if cap=1 then M ⟨g,off,Z⟩else M ⟨g,off+1,Z⟩) os.length (cap-1))) (.slice (if cap=1 then M ⟨g,off,Z⟩else M ⟨g,off+1,Z⟩) os.length (cap-1)) (nX nm o.ch.name) os/\jI (λk=>k=kb\/k=nb) W Wd/\EK kb W Wd/\ChanAt Wd o/\jI (λk=>k=nb) XX Wd:=by
 have I:=h.chs.lK h.obj aB aB;have E:jI (λk=>k=nb) XX Wd:=((jI.below hY jB _).trans (jI.drew _ _) (λ_ _ e=>e)).trans (.grown hg) (λk _ e=>by simpa using e.symm);have hC:=h.chs.jM z.jM (λk hk e=>I (e ▸ hk));refine⟨h.take R hs z.obj z.jM J E,(z.jM.mono (λk _ e=>bE e)).trans E (λk _ e=>cD e),z.ek.trans (EK.same (E.block kb (jE z.obj) (λe=>I (bE e)))),?_,E⟩;exact(hC.del J E).chans o dQ
def PS.stop{pre:List PX}(h:PS kb nb B l0 (pre.map PX.s) W cs vo nm os)(R:os=[]\/∃o z,os=o::z/\alive nm o=aR/\Dv.bytes o.ch.l=Z):PEn kb nb B l0 pre W:=by
 have hp:Dv.pull (lives nm os)=([],lives nm os):=by
  obtain rfl|⟨o,z,rfl,I,J⟩:=R
  .rfl
  .rw[Bv I];exact Td J
 have E:=h.pull;rw[hp,gI]at E;exact⟨cs,vo,nm,os,h,by rw[E],by rw[E]⟩
end
end Hm
namespace Hm
open Go.RowKit Go.Joins
open Dv (Ch Fine)
open Fr (F below_drewN)
attribute [local go_sem] Oper.semAt_some
def JM(kb:Nat){cB:Nat}(nb:Nat){B:Nat->Prop}{l0:List Ch}(p0:PX)(a9:cB≠kb)(a4:cB≠nb):PK PQ 78 #[aD (M ⟨cB,0,Z⟩)] PX.encs (λk=>k=kb\/k=nb) (EK kb) (PSt kb cB nb B l0 p0) (PEn kb nb B l0) (PY kb cB nb B l0 p0) (λ_=>True) (λ_=>True):=by
 intro l J Jx W hM bd a1 a3 a6;have HY:cH _:=a3;have bn:cH _:=a6;have HS:cH _:=a1;have cb:=a1.2;have HM:cH _:=jy hM (jy bd (jy a9 a4));clear a3 a6 a1 hM bd a9 a4;refine gO.2 ?_;go_enter (fq Tryz.func78 rfl),Tryz.ntmps78;go_wp2_with fail
 go_loopw [3] (λ_ wr=>∃(ai:List PX)(W0:U)(cs:Array X)(vo:X)(nm:AL)(os:List PC),wr.cell? ⟨cB,0,Z⟩=M (aD (M ⟨kb,8,Z⟩))/\cH (J ai W0/\jI (λk=>k=kb\/k=nb) W0 wr/\EK kb W0 wr/\PS kb nb B l0 (ai.map PX.s) wr cs vo nm os))
  (λ_ wr=>oL kb wr)
 case atStart=>
  obtain⟨⟨cs,h⟩,_⟩:=HS.out;exact⟨[],W,cs,_,_,_,cb,⟨bn.out,jI.refl _ _,EK.refl _ _,h⟩⟩
 case round=>
  clear cb;obtain⟨ai,W0,cs,vo,nm,os,cb,Hr⟩:=hrel;obtain⟨hJ,hc,hE,I⟩:=Hr.out;have c8:=I.ab7;have c9:=I.abM;cases os with
  |nil=>
   obtain⟨a,cap,e⟩:=Row.slice I.chs.order;simp only[bY]at e;subst e;clear hJ hc hE I;go_wp2_with fail;go_end0;obtain⟨hJ,hc,hE,I⟩:=Hr.out;exact⟨⟨_,rfl⟩,bE ⟨ai,W0,trivial,hJ,hc,hE,I.stop (bE rfl)⟩⟩
  |cons o os=>
   obtain⟨g,off,cap,e,bq⟩:=Row.pos I.chs.order aC;have k0:=Row.cell I.chs.order e 0 (ptr o.blk) aC;subst e;have ac:=rU kb nb 8 nm _ o wr I.chs.core dQ c8;have ba:=(I.chs.chans o dQ).obj;have c0:=kJ ba;have fk:=aQ I.obj;have aq:(1:Int)<=(((o::os).length:Nat):Int):=by rw[aU];omega
   have a0:(0:Int)<(((o::os).length:Nat):Int):=by rw[aU];omega
   obtain⟨n,hn⟩:∃n,(o::os).length=n:=⟨_,rfl⟩
   rw[hn]at aq a0 c9 bq;rw[Nat.add_zero]at k0;obtain⟨b,hb⟩:∃b,alive nm o=b:=⟨_,rfl⟩
   rw[hb]at ac;unfold ptr at k0 ac;have aj:cH _:=λ(_:Unit)=>ac;have Hb:cH _:=jy hb hn;clear hJ hc hE I ba ac hb hn;cases b with
   |false=>
    go_upto_region 3 with(go_at_call 67;refine aT (aj.out ()) ?_;rintro e w2 ⟨rfl,m,rfl⟩)
    generalize hV:oF _ _=V;have an:V.cell? ⟨cB,0,Z⟩=M (aD (M ⟨kb,8,Z⟩)):=by rw[<-hV];exact cb
    have a2:V.cell? ⟨kb,9,Z⟩=M (aH (M ⟨g,off,Z⟩) n cap):=by rw[<-hV];exact c9
    have av:∀q,V.frozen? ⟨kb,q,Z⟩=aL:=λq=>by rw[<-hV];exact fk q
    have HV:cH (Below ↑wr wr V):=by rw[<-hV];exact below_drewN (aJ _ _) _
    clear hV cb c9 c8 k0 c0 fk;go_region;generalize hZ:World.drew _=XX;obtain⟨hJ,hc,hE,I⟩:=Hr.out;obtain⟨hb,hn⟩:=Hb.out;have am:n-1=os.length:=by rw[<-hn,aU];omega
    rw[am]at hZ;have E:=Cut.of I HV.out hZ;have af:=I.skip hb E.obj E.jM;have ah:=I.chs.lK I.obj aB aB;have R:=I.chs.core.jM E.jM (λe=>ah (bE e.symm)) (λx hx e=>ah (cD (cD ⟨x,hx,bE e.symm⟩)));have z:=rU kb nb 8 nm _ o XX R dQ af.ab7;rw[hb]at z;unfold ptr at z;have aa:cH _:=λ(_:Unit)=>z
    have ae:XX.cell? ⟨cB,0,Z⟩=M (aD (M ⟨kb,8,Z⟩)):=by
     rw[<-hZ];exact(bX (aW _ _ _ _ HM.out.2.2.1)).trans an
    have HZ:cH _:=jy E (jy af ae);have HP:cH _:=jy hJ (jy hc (jy hE I));clear hJ hc hE I hb hn am hZ E af ah R z an a2 av;go_wp2_with (go_at_call 67;refine aT (aa.out ()) ?_;rintro e w2 ⟨rfl,m2,rfl⟩)
    go_roundw
    case rel=>
     obtain⟨hJ,hc,hE,I⟩:=HP.out;obtain⟨E,af,ae⟩:=HZ.out;exact⟨ai,W0,_,_,_,os,ae,⟨hJ,(hc.trans E.jM (λk _ e=>bE e)).trans (.below (below_drewN (aJ _ _) _) jB _) (λ_ _ e=>e),hE.trans (E.ek.trans (EK.same rfl)),af.below (below_drewN (aJ _ _) _)⟩⟩
    case measure=>
     obtain⟨hJ,hc,hE,I⟩:=HP.out;obtain⟨E,af,ae⟩:=HZ.out;have h1:=(af.below (below_drewN (aJ _ _) m2)).oL;have h2:=I.oL;rw[h1,h2,aU];omega
   |true=>
    have ag:=λk=>OY o ((Hr.out.2.2.2.chs.chans o dQ).jM (.below (below_drewN (aJ _ _) k) jB _) (λe=>e) (λ_ _ e=>e));unfold Tz at ag;cases hs:Dv.bytes o.ch.l with
    |none=>
     rw[hs]at ag;have ar:cH _:=ag;clear ag;go_wp2_with (first|(go_at_call 67;refine aT (aj.out ()) ?_;rintro e w2 ⟨rfl,m,rfl⟩)|(go_at_call 79;refine aT (ar.out _) ?_;rintro e w3 ⟨rfl,m3,rfl⟩))
     refine cM (pC rfl _ _ _) rfl ?_;obtain⟨hJ,hc,hE,I⟩:=Hr.out;have ak:Below ↑wr wr (wr.drewN (m+m3)):=below_drewN (aJ _ _) _;exact⟨⟨_,rfl⟩,bE ⟨ai,W0,trivial,hJ,hc.trans (.below ak jB _) (λ_ _ e=>e),hE.trans (EK.same rfl),(I.below ak).stop (cD ⟨o,os,rfl,Hb.out.1,hs⟩)⟩⟩
    |some s=>
     rw[hs]at ag;have ar:cH _:=ag;clear ag;go_upto_region 3 with(first|(go_at_call 67;refine aT (aj.out ()) ?_;rintro e w2 ⟨rfl,m,rfl⟩)|(go_at_call 79;refine aT (ar.out _) ?_;rintro e w3 ⟨rfl,m3,rfl⟩))
     have ak:Below wr.heap.size wr (wr.drewN (m+m3)):=below_drewN (aJ _ _) _;revert ak;generalize hV:oF _ _=V;intro ak;have an:V.cell? ⟨cB,0,Z⟩=M (aD (M ⟨kb,8,Z⟩)):=by rw[<-hV];exact cb
     have a2:V.cell? ⟨kb,9,Z⟩=M (aH (M ⟨g,off,Z⟩) n cap):=by rw[<-hV];exact c9
     have av:∀q,V.frozen? ⟨kb,q,Z⟩=aL:=λq=>by rw[<-hV];exact fk q
     have HV:cH (Below wr.heap.size wr V):=ak;clear hV cb c9 c8 k0 c0 fk ak;go_region;generalize hq:(if cap=1 then M ({ block:=g,off:=off }:eM)else M { block:=g,off:=off+1 })=q;generalize hZ:World.drew _=XX;obtain⟨hJ,hc,hE,I⟩:=Hr.out;obtain⟨hb,hn⟩:=Hb.out;have am:n-1=os.length:=by rw[<-hn,aU];omega
     rw[am]at hZ;have E:=Cut.of I HV.out hZ;rw[<-hq]at E;have ah:=I.chs.lK I.obj aB aB;have R:=I.chs.core.jM E.jM (λe=>ah (bE e.symm)) (λx hx e=>ah (cD (cD ⟨x,hx,bE e.symm⟩)))
     have h8:XX.cell? ⟨kb,8,Z⟩=M (.map (M nb)):=by
      rw[aI E.obj,aV];simpa using I.named
     have z:=rU kb nb 8 nm _ o XX R dQ h8;rw[hb]at z;unfold ptr at z;have aa:cH _:=λ(_:Unit)=>z
     have ae:XX.cell? ⟨cB,0,Z⟩=M (aD (M ⟨kb,8,Z⟩)):=by
      rw[<-hZ];exact(bX (aW _ _ _ _ HM.out.2.2.1)).trans an
     have c0:XX.cell? ⟨o.blk,0,Z⟩=M (N eA o.ch.name):=by rw[aI (R.objs o dQ)];rfl
     have HZ:cH _:=jy E R;have HP:cH _:=jy hJ (jy hc (jy hE (jy I (jy hb hs))));clear hJ hc hE I hb hn am hZ E ah R z an a2 av hs hq;go_upto_region 5 with(go_at_call 67;refine aT (aa.out ()) ?_;rintro e w2 ⟨rfl,m2,rfl⟩)
     generalize hY:oF _ _=Y;have bg:Below XX.heap.size XX Y:=by rw[<-hY];exact below_drewN (aJ _ _) _
     have au:Y.cell? ⟨cB,0,Z⟩=M (aD (M ⟨kb,8,Z⟩)):=by rw[<-hY];exact ae
     have bm:Y.cell? ⟨kb,8,Z⟩=M (.map (M nb)):=by rw[<-hY];exact h8
     have br:Y.cell? ⟨o.blk,0,Z⟩=M (N eA o.ch.name):=by rw[<-hY];exact c0
     have a8:lS Y.drew nb eA nm:=by rw[<-hY];exact HZ.out.2.named.of_block rfl
     have bp:cH _:=a8;have bo:cH _:=bg;clear hY ae h8 c0 a8 bg;go_region_law ((refine rJ (by rfl) (cN 39) (cN 43) 93 22 (by rfl) 136 (uq po) (uq lx) nb nm o.ch.name (by rfl) (by rfl) bp.out ?_;intro w7 a5 ay bv))
     all_goals
      obtain⟨hJ,hc,hE,I,hb,hs⟩:=HP.out;obtain⟨q1,q2,q3,q4,q5⟩:=I.goes hb hs HZ.out.1 bo.out a5 ay;have bb:=(bX ((jI.grown ay).block cB (fG Y _ au) (λe=>HM.out.2.2.2 (by simpa using e.symm)))).trans au;have aw:=OE o s w7 q4 hs;unfold Tz at aw;have bu:cH _:=λ(_:Unit)=>aw;have H7:cH _:=jy q1 (jy (hc.trans q2 (λ_ _ e=>e)) (jy (hE.trans q3) (jy bb hJ)));clear hJ hc hE I hb hs q1 q2 q3 q4 q5 bb aw a5 ay bv au bm br;go_upto_region 6 with fail;refine(wpIn_wide (n:=2)).1 ?_;gi_wp2;refine⟨trivial,(gO.2 (bu.out ())).mono ?_⟩;rintro e w8 ⟨rfl,ap⟩;obtain⟨q1,q2,q3,q4,hJ⟩:=H7.out;obtain⟨fn,tmps,assign,body,bw,hR⟩:=HY.out ai ⟨s,_,_,os⟩ W0 w8 hJ (q2.trans (.below ap jB _) (λ_ _ e=>e)) (q3.trans (EK.same (ap.block kb (jE q1.obj)))) ⟨⟨_,by rw[tu,bJ];exact q1.below ap⟩,(ap.cell (p:=⟨cB,0,Z⟩) (fG w7 _ q4)).trans q4⟩;simp only[PX.encs]at bw;have HR:cH _:=hR;clear hR q1 q2 q3 q4 hJ;gi_wp2;refine RoundIn.mono HR.out ?_;rintro e W3 (⟨rfl,ao,bl,a7,bs⟩|⟨rfl,bh⟩)
      .have H3:cH _:=jy ao a7;clear ao bl a7 bs;gi_wp2;go_wp2_with fail;go_roundw
       case rel=>
        obtain⟨ao,⟨⟨bk,az⟩,bj⟩⟩:=H3.out;exact⟨_,W3,bk,_,_,_,bj,⟨ao,jI.refl _ _,EK.refl _ _,az⟩⟩
       case measure=>
        obtain⟨ao,⟨⟨bk,az⟩,bj⟩⟩:=H3.out;have h1:=az.oL;have h2:=Hr.out.2.2.2.oL;rw[tu]at h1;rw[h1,h2,aU];exact Nat.lt_succ_self _
      .gi_wp2;go_wp2_with fail;refine cM (pC rfl _ _ _) rfl ?_;exact⟨⟨_,rfl⟩,cD ⟨_,W3,trivial,bh,jI.refl _ _,EK.refl _ _⟩⟩
end Hm
namespace Hm
open Go.RowKit Go.Joins Go.Shelf
open Dv (X2 Cf Ba)
section
variable {a:Act}{d k:Nat}{v:X}
noncomputable def qN:Array ij:=match Tryz.f31.body with
 |some (bR _ (bR _ (bR _ (bR _ (bR _ (bR _ (.block _ (.rangeFunc _ _ _ (.block _ (bR _ (.block _ (.rangeFunc _ _ _ (.block _ (bR _ (.cond _ (bR _ (.region _ ops _)) _)))))))))))))))=>ops
 |_=>#[]
def abh:∀q0 q1 q2 q3 q4 q5 q6 q7 q8 q9 q10:Bool,fR .any qN #[q0,q1,q2,q3,q4,q5,q6,q7,q8,q9,q10]=[]->q10=aR:=by decide+kernel
def adh(q0 q1 q2 q3 q4 q5 q6 q7 q8 q9 q10:Bool)(i:Nat):Bool:=decide (i<11/\(i=2->q1=aR)/\(i=3->q2=aR)/\(i=4->q3=aR/\q4=aL)/\(i=6->q5=aR/\q6=aL)/\(i=7->q4=aR/\q6=aR/\q7=aL)/\(i=8->q0=aR)/\(i=9->q8=aR)/\(i=10->q9=aR/\q7=aR/\q10=aL))
def acU:∀q0 q1 q2 q3 q4 q5 q6 q7 q8 q9 q10:Bool,(fR .any qN #[q0,q1,q2,q3,q4,q5,q6,q7,q8,q9,q10]).all (adh q0 q1 q2 q3 q4 q5 q6 q7 q8 q9 q10)=aR:=by decide+kernel
def jG{u:X}(z:d≠k)(h:a.tmps[k]? =M u):(a.put (M d) v).tmps[k]? =M u:=by rw[I9,Zs z];exact h
def EY(hd:d<a.tmps.size):(a.put (M d) v).tmps[d]? =M v:=by rw[I9,ZD rfl,ZD hd]
def pq:(a.put (M d) v).tmps.size=a.tmps.size:=by unfold Act.put;simp
def bt(e d t:Nat)(ta:Option eM)(tn tc p:Nat):List X:=[N ab e,N ab d,N ab t,.slice ta tn tc,N ab p]
structure RB(W:U)(b2 b10 kb n:Nat)(vw:X)(xs:List X)(cs:Array X)(e d t:Nat)(ta:Option eM)(tn tc p:Nat):Prop where
 h2:W.heap[b2]? =M (aG #[ptr kb] 71 (0,0))
 hk:W.heap[kb]? =M (aG cs 100 (0,0))
 hw:cs[10]? =M vw
 h10:W.heap[b10]? =M (aG (bt e d t ta tn tc p).toArray 118 (0,0))
 row:Row W 118 5 vw n xs
 ne:vw.ownBlock≠M b10
 len:n<4294967296
structure RI(W:U)(b2 b10 kb n:Nat)(vw:X)(xs:List X)(e d t:Nat)(ta:Option eM)(tn tc p:Nat)(q0 q1 q2 q3 q4 q5 q6 q7 q8 q9 q10:Bool)(a:Act)(w:U):Prop where
 sz:a.tmps.size=93
 t2:a.tmps[2]? =M (ptr b2)
 t10:a.tmps[10]? =M (ptr b10)
 s0:q0=aR->a.tmps[83]? =M (ptr kb)
 s1:q1=aR->a.tmps[84]? =M (ptr kb)
 s2:q2=aR->a.tmps[85]? =M (ptr kb)
 s3:q3=aR->a.tmps[86]? =M (aD (M ⟨kb,10,Z⟩))
 s4:q4=aR->a.tmps[87]? =M (vw)
 s5:q5=aR->a.tmps[88]? =M (.agg (bt e d t ta tn tc p).toArray)
 s6:q6=aR->a.tmps[89]? =M (aH (M ⟨↑W,0,Z⟩) 1 1)
 s8:q8=aR->a.tmps[91]? =M (ptr kb)
 s9:q9=aR->a.tmps[92]? =M (aD (M ⟨kb,10,Z⟩))
 w6:q6=aL->w=W
 w7:q6=aR->q7=aL->w=W.alloc (aG (bt e d t ta tn tc p).toArray 118)
 w10:q7=aR->∃g off cap w1,Row w1 118 5 (aH (M ⟨g,off,Z⟩) (n+1) cap) (n+1) (xs++bt e d t ta tn tc p)/\Grew vw g (W.alloc (aG (bt e d t ta tn tc p).toArray 118)) w1/\a.tmps[90]? =M (aH (M ⟨g,off,Z⟩) (n+1) cap)/\w=if q10=aR then w1.setCell ⟨kb,10,Z⟩ (aH (M ⟨g,off,Z⟩) (n+1) cap)else w1
 c7:q7=aR->q4=aR/\q6=aR
 c10:q10=aR->q7=aR
section
variable {W:U}{b2 b10 kb n:Nat}{vw:X}{xs:List X}{cs:Array X}{e d t:Nat}{ta:Option eM}{tn tc p:Nat}{q0 q1 q2 q3 q4 q5 q6 q7 q8 q9 q10:Bool}{a:Act}{w:U}
def RI.kept(h:RI W b2 b10 kb n vw xs e d t ta tn tc p q0 q1 q2 q3 q4 q5 q6 q7 q8 q9 q10 a w){ob:Obj}(hk:W.heap[k]? =M ob)(R:k≠kb)(h2:vw.ownBlock≠M k):w.heap[k]? =M ob:=by
 have J:=(jE hk)
 have z:∀o,(W.alloc o).heap[k]? =M ob:=λo=>(aZ _ _ _ J).trans hk;cases E:q6 with
 |false=>rw[h.w6 E];exact hk
 |true=>
  cases I:q7 with
  |false=>rw[h.w7 E I];exact z _
  |true=>
   obtain⟨g,off,cap,w1,hr,Y,_,hw⟩:=h.w10 I;have h3:=(Y.jM.block k (dY.1 (z _)).1 h2).trans (z _);rw[hw];split
   .exact(aW _ _ _ _ R).trans h3
   .exact h3
def RB.ne2(z:RB W b2 b10 kb n vw xs cs e d t ta tn tc p):b2≠kb/\vw.ownBlock≠M b2/\b10≠kb/\vw.ownBlock≠M kb:=by
 refine⟨λe=>?_,jH z.row z.h2 aB,λe=>?_,jH z.row z.hk aB⟩
 .have:=z.h2;rw[e,z.hk]at this;simp at this
 .have:=z.h10;rw[e,z.hk]at this;simp at this
def V4{l m:Nat}{Q:p9->Act->U->Prop}(hB:RB W b2 b10 kb n vw xs cs e d t ta tn tc p)(ao:a.tmps.size=93)(au:a.tmps[2]? =M (ptr b2))(ak:a.tmps[10]? =M (ptr b10))(hQ:∀a' g off cap w1,Row w1 118 5 (aH (M ⟨g,off,Z⟩) (n+1) cap) (n+1) (xs++bt e d t ta tn tc p)->Grew vw g (W.alloc (aG (bt e d t ta tn tc p).toArray 118)) w1->Q .normal a' (w1.setCell ⟨kb,10,Z⟩ (aH (M ⟨g,off,Z⟩) (n+1) cap))):wpAnyIn (Fence.wide.inRound l) m PQ .any qN Q 11 (Array.replicate 11 aL) a W:=by
 obtain⟨i0,hi,aq,av,ar⟩:=pa Bf;obtain⟨af,ag,ae⟩:=hB.row.slice;obtain⟨ay,ap,am,az⟩:=hB.ne2;refine uJ (λL a w=>∃q0 q1 q2 q3 q4 q5 q6 q7 q8 q9 q10,L=#[q0,q1,q2,q3,q4,q5,q6,q7,q8,q9,q10]/\RI W b2 b10 kb n vw xs e d t ta tn tc p q0 q1 q2 q3 q4 q5 q6 q7 q8 q9 q10 a w) ?_ ?_ 11 _ a W aB ⟨aL,aL,aL,aL,aL,aL,aL,aL,aL,aL,aL,rfl,?_⟩
 .rintro L a w ⟨q0,q1,q2,q3,q4,q5,q6,q7,q8,q9,q10,rfl,h⟩ hr;have h10:=abh q0 q1 q2 q3 q4 q5 q6 q7 q8 q9 q10 hr;obtain⟨g,off,cap,w1,h1,h2,h3,h4⟩:=h.w10 (h.c10 h10);rw[h4,ZD h10];exact hQ _ _ _ _ _ h1 h2
 .rintro L a w i ⟨q0,q1,q2,q3,q4,q5,q6,q7,q8,q9,q10,rfl,h⟩ hr;have hn:=Z2 (fF.1 (acU q0 q1 q2 q3 q4 q5 q6 q7 q8 q9 q10) i hr);have h2:=h.kept hB.h2 ay ap;have h10:=h.kept hB.h10 am hB.ne;obtain⟨aj,d2,d3,d4,d6,d7,d8,d9,aa⟩:=hn
  match i,aj with
  |0,_=>
   obtain⟨o,ho,E,z,J⟩:∃o,qN[0]? =M o/\o.op=.load 71 (cN 2)/\o.dst=M 83/\o.guard=Z:=⟨_,rfl,rfl,rfl,rfl⟩
   have I:∀c,o.op≠.defer c:=by rw[E];intro c hc;cases hc
   have hc:=kJ h2;unfold ptr at hc
   refine lZ (v:=aD (M ⟨kb,0,Z⟩)) (w':=w) ho J I (by
    unfold bN;simp only[E,kD h.t2,ptr];simp[go_sem,hc]) ?_
   rw[z];exact⟨aR,q1,q2,q3,q4,q5,q6,q7,q8,q9,q10,rfl,⟨by rw[pq];exact h.sz,jG aB h.t2,jG aB h.t10,λ_=>EY (d:=83) (by rw[h.sz];decide),λe=>jG aB (h.s1 e),λe=>jG aB (h.s2 e),λe=>jG aB (h.s3 e),λe=>jG aB (h.s4 e),λe=>jG aB (h.s5 e),λe=>jG aB (h.s6 e),λe=>jG aB (h.s8 e),λe=>jG aB (h.s9 e),h.w6,h.w7,λe=>(by obtain⟨g,off,cap,w1,r1,r2,R,Y⟩:=h.w10 e;exact⟨g,off,cap,w1,r1,r2,jG aB R,Y⟩),h.c7,h.c10⟩⟩
  |1,_=>
   obtain⟨o,ho,E,z,J⟩:∃o,qN[1]? =M o/\o.op=.load 71 (cN 2)/\o.dst=M 84/\o.guard=Z:=⟨_,rfl,rfl,rfl,rfl⟩
   have I:∀c,o.op≠.defer c:=by rw[E];intro c hc;cases hc
   have hc:=kJ h2;unfold ptr at hc
   refine lZ (v:=aD (M ⟨kb,0,Z⟩)) (w':=w) ho J I (by
    unfold bN;simp only[E,kD h.t2,ptr];simp[go_sem,hc]) ?_
   rw[z];exact⟨q0,aR,q2,q3,q4,q5,q6,q7,q8,q9,q10,rfl,⟨by rw[pq];exact h.sz,jG aB h.t2,jG aB h.t10,λe=>jG aB (h.s0 e),λ_=>EY (d:=84) (by rw[h.sz];decide),λe=>jG aB (h.s2 e),λe=>jG aB (h.s3 e),λe=>jG aB (h.s4 e),λe=>jG aB (h.s5 e),λe=>jG aB (h.s6 e),λe=>jG aB (h.s8 e),λe=>jG aB (h.s9 e),h.w6,h.w7,λe=>(by obtain⟨g,off,cap,w1,r1,r2,R,Y⟩:=h.w10 e;exact⟨g,off,cap,w1,r1,r2,jG aB R,Y⟩),h.c7,h.c10⟩⟩
  |2,_=>
   obtain⟨o,ho,E,z,J⟩:∃o,qN[2]? =M o/\o.op=.nilCheck (cN 84)/\o.dst=M 85/\o.guard=Z:=⟨_,rfl,rfl,rfl,rfl⟩
   have I:∀c,o.op≠.defer c:=by rw[E];intro c hc;cases hc
   refine lZ (v:=aD (M ⟨kb,0,Z⟩)) (w':=w) ho J I (by
    unfold bN;simp only[E,kD (h.s1 (d2 rfl)),ptr];simp[go_sem]) ?_
   rw[z];exact⟨q0,q1,aR,q3,q4,q5,q6,q7,q8,q9,q10,rfl,⟨by rw[pq];exact h.sz,jG aB h.t2,jG aB h.t10,λe=>jG aB (h.s0 e),λe=>jG aB (h.s1 e),λ_=>EY (d:=85) (by rw[h.sz];decide),λe=>jG aB (h.s3 e),λe=>jG aB (h.s4 e),λe=>jG aB (h.s5 e),λe=>jG aB (h.s6 e),λe=>jG aB (h.s8 e),λe=>jG aB (h.s9 e),h.w6,h.w7,λe=>(by obtain⟨g,off,cap,w1,r1,r2,R,Y⟩:=h.w10 e;exact⟨g,off,cap,w1,r1,r2,jG aB R,Y⟩),h.c7,h.c10⟩⟩
  |3,_=>
   obtain⟨o,ho,E,z,J⟩:∃o,qN[3]? =M o/\o.op=.fieldAddr 100 (cN 85) 3/\o.dst=M 86/\o.guard=Z:=⟨_,rfl,rfl,rfl,rfl⟩
   have I:∀c,o.op≠.defer c:=by rw[E];intro c hc;cases hc
   refine lZ (v:=aD (M ⟨kb,10,Z⟩)) (w':=w) ho J I (by
    unfold bN;simp only[E,kD (h.s2 (d3 rfl)),ptr];simp[go_sem]) ?_
   rw[z];exact⟨q0,q1,q2,aR,q4,q5,q6,q7,q8,q9,q10,rfl,⟨by rw[pq];exact h.sz,jG aB h.t2,jG aB h.t10,λe=>jG aB (h.s0 e),λe=>jG aB (h.s1 e),λe=>jG aB (h.s2 e),λ_=>EY (d:=86) (by rw[h.sz];decide),λe=>jG aB (h.s4 e),λe=>jG aB (h.s5 e),λe=>jG aB (h.s6 e),λe=>jG aB (h.s8 e),λe=>jG aB (h.s9 e),h.w6,h.w7,λe=>(by obtain⟨g,off,cap,w1,r1,r2,R,Y⟩:=h.w10 e;exact⟨g,off,cap,w1,r1,r2,jG aB R,Y⟩),h.c7,h.c10⟩⟩
  |4,_=>
   obtain⟨o,ho,E,z,J⟩:∃o,qN[4]? =M o/\o.op=.load 98 (cN 86)/\o.dst=M 87/\o.guard=Z:=⟨_,rfl,rfl,rfl,rfl⟩
   have I:∀c,o.op≠.defer c:=by rw[E];intro c hc;cases hc
   have h7:q7=aL:=by
    cases h7:q7 with
    |false=>rfl
    |true=>have:=(h.c7 h7).1;rw[(d4 rfl).2]at this;cases this
   have ac:w.heap[kb]? =M (aG cs 100 (0,0)):=by
    cases h6:q6 with
    |false=>rw[h.w6 h6];exact hB.hk
    |true=>rw[h.w7 h6 h7];exact(aZ _ _ _ (jE hB.hk)).trans hB.hk
   have hc:w.cell? ⟨kb,10,Z⟩=M (.slice af n ag):=by rw[aI ac,hB.hw,ae]
   refine lZ (v:=.slice af n ag) (w':=w) ho J I (by
    unfold bN;simp only[E,kD (h.s3 (d4 rfl).1)];simp[go_sem,hc]) ?_
   rw[z];exact⟨q0,q1,q2,q3,aR,q5,q6,q7,q8,q9,q10,rfl,⟨by rw[pq];exact h.sz,jG aB h.t2,jG aB h.t10,λe=>jG aB (h.s0 e),λe=>jG aB (h.s1 e),λe=>jG aB (h.s2 e),λe=>jG aB (h.s3 e),λ_=>(by rw[ae];exact EY (d:=87) (by rw[h.sz];decide)),λe=>jG aB (h.s5 e),λe=>jG aB (h.s6 e),λe=>jG aB (h.s8 e),λe=>jG aB (h.s9 e),h.w6,h.w7,λe=>(by obtain⟨g,off,cap,w1,r1,r2,R,Y⟩:=h.w10 e;exact⟨g,off,cap,w1,r1,r2,jG aB R,Y⟩),λe=>⟨rfl,(h.c7 e).2⟩,h.c10⟩⟩
  |5,_=>
   obtain⟨o,ho,E,z,J⟩:∃o,qN[5]? =M o/\o.op=.load 118 (cN 10)/\o.dst=M 88/\o.guard=Z:=⟨_,rfl,rfl,rfl,rfl⟩
   have I:∀c,o.op≠.defer c:=by rw[E];intro c hc;cases hc
   obtain⟨c0,c1,c2,c3,c4,_⟩:=cells5 h10
   refine lZ (v:=fX #[N ab e,N ab d,N ab t,.slice ta tn tc,N ab p]) (w':=w) ho J I (by
    unfold bN;simp only[E,kD h.t10,ptr];simp[go_sem,c0,c1,c2,c3,c4]) ?_
   rw[z];exact⟨q0,q1,q2,q3,q4,aR,q6,q7,q8,q9,q10,rfl,⟨by rw[pq];exact h.sz,jG aB h.t2,jG aB h.t10,λe=>jG aB (h.s0 e),λe=>jG aB (h.s1 e),λe=>jG aB (h.s2 e),λe=>jG aB (h.s3 e),λe=>jG aB (h.s4 e),λ_=>EY (d:=88) (by rw[h.sz];decide),λe=>jG aB (h.s6 e),λe=>jG aB (h.s8 e),λe=>jG aB (h.s9 e),h.w6,h.w7,λe=>(by obtain⟨g,off,cap,w1,r1,r2,R,Y⟩:=h.w10 e;exact⟨g,off,cap,w1,r1,r2,jG aB R,Y⟩),h.c7,h.c10⟩⟩
  |6,_=>
   obtain⟨o,ho,E,z,J⟩:∃o,qN[6]? =M o/\o.op=.buildSlice 98 1 #[(0,cN 88)]/\o.dst=M 89/\o.guard=Z:=⟨_,rfl,rfl,rfl,rfl⟩
   have I:∀c,o.op≠.defer c:=by rw[E];intro c hc;cases hc
   have h7:q7=aL:=by
    cases h7:q7 with
    |false=>rfl
    |true=>have:=(h.c7 h7).2;rw[(d6 rfl).2]at this;cases this
   have hw:=h.w6 (d6 rfl).2;subst hw;have ai:=h.s5 (d6 rfl).1;unfold bt at ai
   refine lZ (v:=aH (M ⟨↑w,0,Z⟩) 1 1) (w':=w.alloc (aG (bt e d t ta tn tc p).toArray 118)) ho J I (by
    unfold bN;simp only[E];simp[go_sem,ai,bt]) ?_
   rw[z];exact⟨q0,q1,q2,q3,q4,q5,aR,q7,q8,q9,q10,rfl,⟨by rw[pq];exact h.sz,jG aB h.t2,jG aB h.t10,λe=>jG aB (h.s0 e),λe=>jG aB (h.s1 e),λe=>jG aB (h.s2 e),λe=>jG aB (h.s3 e),λe=>jG aB (h.s4 e),λe=>jG aB (h.s5 e),λ_=>EY (d:=89) (by rw[h.sz];decide),λe=>jG aB (h.s8 e),λe=>jG aB (h.s9 e),λe=>(by cases e),λ_ _=>rfl,λe=>(by rw[h7]at e;cases e),λe=>(by rw[h7]at e;cases e),h.c10⟩⟩
  |7,_=>
   obtain⟨o,ho,E,z,J⟩:∃o,qN[7]? =M o/\o.op=.call { callee:=.builtin .append,args:=#[cN 87,cN 89],argTypes:=#[98,98] }/\o.dst=M 90/\o.guard=Z:=⟨_,rfl,rfl,rfl,rfl⟩
   have I:∀c,o.op≠.defer c:=by rw[E];intro c hc;cases hc
   have hw:=h.w7 (d7 rfl).2.1 (d7 rfl).2.2
   have ah:q10=aL:=by
    cases h10:q10 with
    |false=>rfl
    |true=>have:=h.c10 h10;rw[(d7 rfl).2.2]at this;cases this
   subst hw;obtain⟨v',w1,hr,r1,⟨g,off,cap,rfl⟩,R⟩:=(hB.row.below ((aJ _ W).alloc jB (aG (bt e d t ta tn tc p).toArray 118))).append (P:=PQ) 98 o.type i0 _ 56 (uq Tryz.underlying98) hi aq av ar (by rfl) aB ⟨↑W,0,Z⟩ 1 1 (bt e d t ta tn tc p) aB (by rfl) (by intro j u hj;unfold bt at hj⊢;match j,hj with|0,hj=>(simp at hj;subst hj;simp[jp])|1,hj=>(simp at hj;subst hj;simp[jp])|2,hj=>(simp at hj;subst hj;simp[jp])|3,hj=>(simp at hj;subst hj;simp[jp])|4,hj=>(simp at hj;subst hj;simp[jp])) (by intro u hu;unfold bt at hu;simp at hu;rcases hu with rfl|rfl|rfl|rfl|rfl<;>rfl) (by have:=hB.len;unfold maxLen;omega) (by have:=hB.len;omega)
   have aw:Grew vw g (W.alloc (aG (bt e d t ta tn tc p).toArray 118)) w1:=by
    obtain⟨e1,e2,e3⟩|⟨e1,e2,e3⟩:=R
    .have an:vw.ownBlock=M g:=e1.symm;exact bE ⟨an,by rw[<-an];exact e2,e3⟩
    .exact cD ⟨by simpa[cV]using e1,e2,e3⟩
   refine lZ (v:=aH (M ⟨g,off,Z⟩) (n+1) cap) (w':=w1) ho J I (by
    unfold bN;simp only[E];simp[resolve,invoke,builtin,kD (h.s4 (d7 rfl).1),kD (h.s6 (d7 rfl).2.1),hr,fS]) ?_
   rw[z];exact⟨q0,q1,q2,q3,q4,q5,q6,aR,q8,q9,q10,rfl,⟨by rw[pq];exact h.sz,jG aB h.t2,jG aB h.t10,λe=>jG aB (h.s0 e),λe=>jG aB (h.s1 e),λe=>jG aB (h.s2 e),λe=>jG aB (h.s3 e),λe=>jG aB (h.s4 e),λe=>jG aB (h.s5 e),λe=>jG aB (h.s6 e),λe=>jG aB (h.s8 e),λe=>jG aB (h.s9 e),λe=>(by rw[(d7 rfl).2.1]at e;cases e),λ_ e=>(by cases e),λ_=>⟨g,off,cap,w1,r1,aw,EY (d:=90) (by rw[h.sz];decide),by rw[Zs (by rw[ah];simp)]⟩,λ_=>⟨(d7 rfl).1,(d7 rfl).2.1⟩,λ_=>rfl⟩⟩
  |8,_=>
   obtain⟨o,ho,E,z,J⟩:∃o,qN[8]? =M o/\o.op=.nilCheck (cN 83)/\o.dst=M 91/\o.guard=Z:=⟨_,rfl,rfl,rfl,rfl⟩
   have I:∀c,o.op≠.defer c:=by rw[E];intro c hc;cases hc
   refine lZ (v:=aD (M ⟨kb,0,Z⟩)) (w':=w) ho J I (by
    unfold bN;simp only[E,kD (h.s0 (d8 rfl)),ptr];simp[go_sem]) ?_
   rw[z];exact⟨q0,q1,q2,q3,q4,q5,q6,q7,aR,q9,q10,rfl,⟨by rw[pq];exact h.sz,jG aB h.t2,jG aB h.t10,λe=>jG aB (h.s0 e),λe=>jG aB (h.s1 e),λe=>jG aB (h.s2 e),λe=>jG aB (h.s3 e),λe=>jG aB (h.s4 e),λe=>jG aB (h.s5 e),λe=>jG aB (h.s6 e),λ_=>EY (d:=91) (by rw[h.sz];decide),λe=>jG aB (h.s9 e),h.w6,h.w7,λe=>(by obtain⟨g,off,cap,w1,r1,r2,R,Y⟩:=h.w10 e;exact⟨g,off,cap,w1,r1,r2,jG aB R,Y⟩),h.c7,h.c10⟩⟩
  |9,_=>
   obtain⟨o,ho,E,z,J⟩:∃o,qN[9]? =M o/\o.op=.fieldAddr 100 (cN 91) 3/\o.dst=M 92/\o.guard=Z:=⟨_,rfl,rfl,rfl,rfl⟩
   have I:∀c,o.op≠.defer c:=by rw[E];intro c hc;cases hc
   refine lZ (v:=aD (M ⟨kb,10,Z⟩)) (w':=w) ho J I (by
    unfold bN;simp only[E,kD (h.s8 (d9 rfl)),ptr];simp[go_sem]) ?_
   rw[z];exact⟨q0,q1,q2,q3,q4,q5,q6,q7,q8,aR,q10,rfl,⟨by rw[pq];exact h.sz,jG aB h.t2,jG aB h.t10,λe=>jG aB (h.s0 e),λe=>jG aB (h.s1 e),λe=>jG aB (h.s2 e),λe=>jG aB (h.s3 e),λe=>jG aB (h.s4 e),λe=>jG aB (h.s5 e),λe=>jG aB (h.s6 e),λe=>jG aB (h.s8 e),λ_=>EY (d:=92) (by rw[h.sz];decide),h.w6,h.w7,λe=>(by obtain⟨g,off,cap,w1,r1,r2,R,Y⟩:=h.w10 e;exact⟨g,off,cap,w1,r1,r2,jG aB R,Y⟩),h.c7,h.c10⟩⟩
  |10,_=>
   obtain⟨o,ho,E,z,J⟩:∃o,qN[10]? =M o/\o.op=.store 98 (cN 92) (cN 90)/\o.dst=Z/\o.guard=Z:=⟨_,rfl,rfl,rfl,rfl⟩
   have I:∀c,o.op≠.defer c:=by rw[E];intro c hc;cases hc
   obtain⟨g,off,cap,w1,r1,r2,R,Y⟩:=h.w10 (aa rfl).2.1;rw[Zs (by rw[(aa rfl).2.2];simp)]at Y;subst Y;have ac:=r2.keep (hB.row.below ((aJ _ W).alloc jB _)) ((aZ _ _ _ (jE hB.hk)).trans hB.hk) aB;have hc:w.cell? ⟨kb,10,Z⟩=M (.slice af n ag):=by rw[aI ac,hB.hw,ae]
   have hz:=aQ ac 10
   refine LC (w':=w.setCell ⟨kb,10,Z⟩ (aH (M ⟨g,off,Z⟩) (n+1) cap)) ho J I (by
    unfold bN;simp only[E,kD (h.s9 (aa rfl).1),kD R];simp[go_sem,stored,hc,hz]) ?_
   rw[z];exact⟨q0,q1,q2,q3,q4,q5,q6,q7,q8,q9,aR,rfl,⟨h.sz,h.t2,h.t10,h.s0,h.s1,h.s2,h.s3,h.s4,h.s5,h.s6,h.s8,h.s9,λe=>(by have:=(h.c7 (aa rfl).2.1).2;rw[this]at e;cases e),λ_ e=>(by rw[(aa rfl).2.1]at e;cases e),λ_=>⟨g,off,cap,w,r1,r2,R,by rw[ZD rfl]⟩,h.c7,λ_=>(aa rfl).2.1⟩⟩
 .exact⟨ao,au,ak,λe=>(by cases e),λe=>(by cases e),λe=>(by cases e),λe=>(by cases e),λe=>(by cases e),λe=>(by cases e),λe=>(by cases e),λe=>(by cases e),λe=>(by cases e),λ_=>rfl,λe=>(by cases e),λe=>(by cases e),λe=>(by cases e),λe=>(by cases e)⟩
end
end
open Fr (below_drewN)
open Dv (X2 Cf Ba Ch)
section
variable {kb n nb:Nat}{W1 W W' w:U}{cs1 cs:Array X}{vw1 vw2 vo v vw v9:X}{ws1 ws2 ws:List PW}{bs:List Ba}{XS:Nat->Prop}{pre:List (List UInt8)}{os:List PC}
structure UI(kb n:Nat)(W1:U)(cs1:Array X)(vw1:X)(ws1:List PW)(bs:List Ba)(W:U)(vw2:X)(ws2:List PW):Prop where
 obj:W.heap[kb]? =M (aG (cs1.setIfInBounds 10 vw2) 100 (0,0))
 row:Row W 118 5 vw2 (ws1++ws2).length ((ws1++ws2).flatMap lV)
 txs:∀p,p∈ws1++ws2->kQ W p.2 p.1.txs
 fst:ws2.map cI=vY n bs
 own:∀g,vw2.ownBlock=M g->vw1.ownBlock=M g\/W1.heap.size<=g
 jM:jI (λk=>k=kb\/vw1.ownBlock=M k) W1 W
def UI.nU(h:UI kb n W1 cs1 vw1 ws1 bs W vw2 ws2)(hc:jI XS W W')(E:o8 XS W)(z:∀k,k<W1.heap.size->¬XS k):UI kb n W1 cs1 vw1 ws1 bs W' vw2 ws2:=
 ⟨(hc.block _ (jE h.obj) (E _ _ _ _ h.obj)).trans h.obj,uw h.row hc E,λp hp=>(h.txs p hp).jM hc E.str,h.fst,h.own,h.jM.trans hc (λk hk e=>Xs e (z k hk))⟩
def qQ(cs:Array X)(i:Nat)(u v:X):(cs.setIfInBounds i u).setIfInBounds i v=cs.setIfInBounds i v:=aC
def PS.aeP{B:Nat->Prop}{E:List Ch}{nm:AL}(h:PS kb nb B E pre W cs vo nm os)(z:W'.heap[kb]? =M (aG (cs.setIfInBounds 10 v) 100 (0,0)))(hc:jI XS W W')(I:∀k,Own nb vo os k->¬XS k):PS kb nb B E pre W' (cs.setIfInBounds 10 v) vo nm os:=
 ⟨z,by rw[aV];simpa using h.named,by rw[aV];simpa using h.order,h.chs.jM hc I,h.len,h.pull,h.own⟩
def Chs.Ub{nm:AL}(h:Chs w nb vo nm os){m:Nat}{xs:List X}(E:Row w 118 5 v m xs){k:Nat}(hk:v.ownBlock=M k):¬Own nb vo os k:=by obtain⟨z,hc⟩:=E.obj hk;exact h.lK hc aB aB
structure TI(kb nb n:Nat)(w:U)(cs:Array X)(vw:X)(ws:List PW)(pre:List (List UInt8))(W:U)(v9 vw1:X)(ws1:List PW):Prop where
 obj:W.heap[kb]? =M (aG ((cs.setIfInBounds 9 v9).setIfInBounds 10 vw1) 100 (0,0))
 row:Row W 118 5 vw1 (ws++ws1).length ((ws++ws1).flatMap lV)
 txs:∀p,p∈ws++ws1->kQ W p.2 p.1.txs
 fst:ws1.map cI=pre.flatMap (λs=>Dv.reads s n)
 own:∀g,vw1.ownBlock=M g->vw.ownBlock=M g\/w.heap.size<=g
 jM:jI (λk=>k=kb\/k=nb\/vw.ownBlock=M k) w W
 nbm:NC W nb
 nbl:nb<↑w
def TI.nU(h:TI kb nb n w cs vw ws pre W v9 vw1 ws1)(hc:jI XS W W')(E:o8 XS W)(z:∀k,k<w.heap.size->¬XS k):TI kb nb n w cs vw ws pre W' v9 vw1 ws1:=
 ⟨(hc.block _ (jE h.obj) (E _ _ _ _ h.obj)).trans h.obj,uw h.row hc E,λp hp=>(h.txs p hp).jM hc E.str,h.fst,h.own,h.jM.trans hc (λk hk e=>Xs e (z k hk)),λc t I e=>h.nbm c t I (by rw[<-hc.block nb (aP h.nbl h.jM.size) (z nb h.nbl)];exact e),h.nbl⟩
def TI.turn(h:TI kb nb n w cs vw ws pre W v9 vw1 ws1)(hc:jI (λk=>k=kb\/k=nb) W W')(hE:EK kb W W')(R:NC W' nb):∃J,TI kb nb n w cs vw ws pre W' J vw1 ws1:=by
 obtain⟨v,hv⟩:=hE _ _ _ h.obj
 have z:∀(g:Nat)(E:Array X)(t:Nat)(Y:Nat×Nat),W.heap[g]? =M (aG E t Y)->t≠100->¬(g=kb\/g=nb):=by
  rintro g E t Y I ht (rfl|rfl)
  .rw[h.obj]at I;simp at I;exact ht I.2.1.symm
  .exact h.nbm _ _ _ I
 refine⟨v,?_,h.row.jM hc (λg I=>?_),λp hp=>Row.jM (h.txs p hp) hc (λg I=>?_),h.fst,h.own,h.jM.trans hc (λk _ e=>e.elim bE (λe=>cD (bE e))),R,h.nbl⟩
 .rw[hv]
  congr 2
  apply gB;intro i;simp only[aV,jh];split
  .rename_i e;subst e;simp
  .rfl
 .obtain⟨E,q⟩:=h.row.obj I;exact z g _ _ _ q aB
 .obtain⟨E,q⟩:=Row.obj (h.txs p hp) I;exact z g _ _ _ q aB
def TI.more(h:TI kb nb n w cs vw ws pre W1 v9 vw1 ws1){s:List UInt8}(z:UI kb n W1 ((cs.setIfInBounds 9 v9).setIfInBounds 10 vw1) vw1 (ws++ws1) bs W vw2 ws2)(R:vY n bs=Dv.reads s n):TI kb nb n w cs vw ws (pre++[s]) W v9 vw2 (ws1++ws2):=by
 refine⟨by have:=z.obj;rw[qQ]at this;exact this,by rw[<-fM];exact z.row,λp hp=>z.txs p (by rw[fM];exact hp),?_,λg J=>?_,h.jM.trans z.jM (λk hk e=>?_),λc t E e=>h.nbm c t E ?_,h.nbl⟩
 .rw[bJ,h.fst,z.fst,R,iw];simp
 .obtain q|q:=z.own g J
  .exact h.own g q
  .exact cD (bH h.jM.size q)
 .obtain e|e:=e
  .exact bE e
  .obtain q|q:=h.own k e
   .exact cD (cD q)
   .omega
 .rw[<-z.jM.block nb (aP h.nbl h.jM.size) ?_]
  .exact e
  .rintro(q|q)
   .have:=h.obj;rw[<-q]at this;exact h.nbm _ _ _ this
   .obtain⟨I,r⟩:=h.row.obj q;exact h.nbm _ _ _ r
def UI.more(h:UI kb n W1 cs1 vw1 ws1 bs W vw2 ws2){b:Ba}(ac:b.epoch<=n){va:Option eM}{vc:Nat}(hs:kQ W (.slice va b.txs.length vc) b.txs){b10:Nat}{w1:U}{g off cap:Nat}(ae:↑W1<=b10)(af:vw2.ownBlock≠M b10)(E:∃cs,W.heap[b10]? =M (aG cs 118 (0,0)))(R:jI (λk=>k=b10) W W')(hr:Row w1 118 5 (aH (M ⟨g,off,Z⟩) ((ws1++ws2).length+1) cap) ((ws1++ws2).length+1) ((ws1++ws2).flatMap lV++lV ({ b with place:=n },.slice va b.txs.length vc))){o:Obj}(hg:Grew vw2 g (W'.alloc o) w1):UI kb n W1 cs1 vw1 ws1 (bs++[b]) (w1.setCell ⟨kb,10,Z⟩ (aH (M ⟨g,off,Z⟩) ((ws1++ws2).length+1) cap)) (aH (M ⟨g,off,Z⟩) ((ws1++ws2).length+1) cap) (ws2++[({ b with place:=n },.slice va b.txs.length vc)]):=by
 have aa:kb≠b10:=by
  rintro rfl;obtain⟨c',z⟩:=E;rw[h.obj]at z;simp at z
 have hM:jI (λk=>vw2.ownBlock=M k\/k=b10) W w1:=((R.mono (λk _ e=>cD e)).trans (jI.alloc (λ_=>False) W' o) (λ_ _ e=>e.elim)).trans hg.jM (λk _ e=>bE e)
 have ho:=(hM.block kb (jE h.obj) (by
  rintro(e|e)
  .exact jH h.row h.obj aB e
  .exact aa e)).trans h.obj
 have I:=jI.set w1 kb 10 (aH (M ⟨g,off,Z⟩) ((ws1++ws2).length+1) cap)
 have J:∀v l,kQ W v l->kQ (w1.setCell ⟨kb,10,Z⟩ (aH (M ⟨g,off,Z⟩) ((ws1++ws2).length+1) cap)) v l:=λv l hv=>by
  have q1:=hv.jM hM (λk cs fz hk e=>by
   obtain e|e:=e
   .exact jH h.row hk aB e
   .obtain⟨c',z⟩:=E;rw[<-e,hk]at z;simp at z)
  exact q1.jM I (λk cs fz hk e=>by rw[e,ho]at hk;simp at hk)
 have hl:(ws1++(ws2++[(({ b with place:=n }:Ba),aH va b.txs.length vc)])).length=(ws1++ws2).length+1:=aF
 refine⟨?_,?_,λp hp=>?_,?_,λg' Y=>?_,(h.jM.trans hM (λk hk e=>?_)).trans I (λk _ e=>bE e)⟩
 .have:=jX ho 10 (aH (M ⟨g,off,Z⟩) ((ws1++ws2).length+1) cap);rw[qQ]at this;exact this
 .rw[hl,<-fM,iw];have:=hr.jM I (λq hq e=>jH hr ho aB (by rw[hq,e]));simpa using this
 .rw[<-fM]at hp;obtain hp|hp:=dM.1 hp
  .exact J _ _ (h.txs p hp)
  .rw[dK.1 hp];exact J _ _ hs
 .rw[bJ,h.fst,wI,ZD ac];rfl
 .have Y:g=g':=by simpa[cV]using Y
  subst Y;obtain q|q:=hg.own
  .exact h.own g q
  .have q2:W'.heap.size+1<=g:=by simpa using q
   have q3:=R.size;have q4:=h.jM.size;exact cD aA
 .obtain e|e:=e
  .obtain q|q:=h.own k e
   .exact cD q
   .omega
  .omega
end
open Fr (F)
section
variable {w W W':U}{kb nb k:Nat}{cs:Array X}{vo vo':X}{os os':List PC}{l:List Ch}
def QJ:∀(l:List F)(j:Nat)(x:F),l[j]? =M x->∀(i:Nat)(u:X),i<4->(Fr.wU x)[i]? =M u->(Fr.flat l)[j*4+i]? =M u
 |[],j,x,h,_,_,_,_=>by simp at h
 |y::l,0,x,h,i,u,hi,hu=>by
  have h:y=x:=by simpa using h
  subst h;rw[Fr.flat,bZ (by simp[Fr.wU];omega)];simpa using hu
 |y::l,j+1,x,h,i,u,hi,hu=>by
  have z:=QJ l j x (by simpa using h) i u hi hu;rw[Fr.flat,bV (by simp[Fr.wU];omega)];have:(j+1)*4+i-(Fr.wU y).length=j*4+i:=by simp[Fr.wU];omega
  rw[this];exact z
def zC(w:U)(v:X)(fs:List F):Prop:=(v=aH Z 0 0/\fs=[])\/∃g cap z,v=aH (M ⟨g,0,Z⟩) fs.length cap/\w.heap[g]? =M (aG z 109 (0,0))/\fs.length<=cap/\z.toList.take (fs.length*4)=Fr.flat fs
def zC.slice{v:X}{fs:List F}(h:zC w v fs):∃a cap,v=.slice a fs.length cap:=by
 obtain⟨e,E⟩|⟨g,cap,z,e,_⟩:=h
 .exact⟨Z,0,by rw[e,E];rfl⟩
 .exact⟨_,_,e⟩
def zC.at{w:U}{v:X}{fs:List F}(h:zC w v fs){j:Nat}{x:F}(z:fs[j]? =M x):∃g cap,v=aH (M ⟨g,0,Z⟩) fs.length cap/\w.cell? ⟨g,j*4,Z⟩=M (N eA x.chan)/\w.cell? ⟨g,j*4+1,Z⟩=M (N lB x.num)/\w.cell? ⟨g,j*4+2,Z⟩=M (bB ⟨x.data.toArray⟩)/\w.cell? ⟨g,j*4+3,Z⟩=M (.bool x.last):=by
 obtain⟨_,R⟩|⟨g,cap,Y,e,J,_,h3⟩:=h
 .rw[R]at z;simp at z
 .have I:=(aN.1 z).1;have q:=QJ fs j x z
  have hc:∀i u,i<4->(Fr.flat fs)[j*4+i]? =M u->w.cell? ⟨g,j*4+i,Z⟩=M u:=λi u hi E=>by
   rw[aI J];rw[<-h3,iI aA]at E;simpa using E
  exact⟨g,cap,e,hc 0 _ aB (q 0 _ aB rfl),hc 1 _ aB (q 1 _ aB rfl),hc 2 _ aB (q 2 _ aB rfl),hc 3 _ aB (q 3 _ aB rfl)⟩
structure BI(kb nb:Nat)(w:U)(cs:Array X)(vo:X)(os:List PC)(l:List Ch)(k:Nat)(W:U)(vo':X)(nm':AL)(os':List PC):Prop where
 obj:W.heap[kb]? =M (aG (cs.setIfInBounds 9 vo') 100 (0,0))
 chs:Chs W nb vo' nm' os'
 jM:jI (λk=>k=kb\/Own nb vo os k) w W
 own:∀k,Own nb vo' os' k->Own nb vo os k\/w.heap.size<=k
 len:os'.length<=os.length+k
 lives:lives nm' os'=l
def BI.below{z:AL}(h:BI kb nb w cs vo os l k W vo' z os')(E:Below ↑W W W'):BI kb nb w cs vo os l k W' vo' z os':=
 ⟨(E.block _ (jE h.obj)).trans h.obj,h.chs.below E,h.jM.trans (.below E jB _) (λ_ _ e=>e),h.own,h.len,h.lives⟩
def BI.took{l':List Ch}{J:AL}(h:BI kb nb w cs vo os l k W vo' J os'){I:X}{E:AL}{z:List PC}(ht:BD kb nb (cs.setIfInBounds 9 vo') vo' os' W I E z W')(Y:Hm.lives E z=l'):BI kb nb w cs vo os l' (k+1) W' I E z:=
 ⟨by have:=ht.obj;rw[qQ]at this;exact this,ht.chs,h.jM.trans ht.jM (λq R e=>by
  obtain e|e:=e
  .exact bE e
  .obtain r|r:=h.own q e
   .exact cD r
   .omega),λq R=>by
  obtain e|e:=ht.own q R
  .exact h.own q e
  .exact cD (bH h.jM.size e),by have:=ht.len;have:=h.len;omega,Y⟩
def lT(fs:Nat->List F)(i:Nat):List F:=(ir i).flatMap fs
def wM(fs:Nat->List F)(i:Nat):lT fs (i+1)=lT fs i++fs i:=by simp[lT,List.range_succ]
def Xb(fs:Nat->List F):∀{i m:Nat},i<=m->(lT fs i).length<=(lT fs m).length:=by
 intro i m h
 induction h with
 |refl=>exact jB
 |step _ ih=>rw[wM,aS];omega
end
open Fr (F below_drewN)
section
variable {Q:p9->Act->U->Prop}
noncomputable def wV:eE:=match Tryz.f31.body with
 |some (bR c _)=>c
 |_=>.skip
noncomputable def wG:eE:=match Tryz.f31.body with
 |some (bR _ (bR c _))=>c
 |_=>.skip
noncomputable def wP:eE:=match Tryz.f31.body with
 |some (bR _ (bR _ (bR _ (bR c _))))=>c
 |_=>.skip
def UA{u2 u3 u4 u5 u6 u7 u8 u9 aw cc au bj b8 bp af b1 ag am ay ci ak ai bo R b9 ca ck Y cj bl cr bb a0 b3 ce bd bs bh b5 bv a4 b7 bz b4 br ac ao av a9 a2 E ba cu bk bg cl a1 ct a8 cd b6 co cw bu bm cg az ae cn aq ah a5 bq I bn a7 aa aj b2 ap z cq an cv a3 ar a6 b0 bw cf J:X}(kb:Nat){id tm:Int}(ta:Option eM)(tn tc:Nat)(la:Option eM)(ln lc:Nat){w:U}(hQ:Q .normal { tmps:=#[aD (M ⟨kb,0,Z⟩),fX #[N ab id,N ab tm,.slice ta tn tc,.slice la ln lc],aD (M ⟨↑w,0,Z⟩),aD (M ⟨w.heap.size+1,0,Z⟩),u4,u5,u6,u7,u8,u9,aw,cc,au,bj,b8,bp,af,b1,ag,am,ay,ci,ak,ai,bo,R,b9,ca,ck,Y,cj,bl,cr,bb,a0,b3,ce,bd,bs,bh,b5,bv,a4,b7,bz,b4,br,ac,ao,av,a9,a2,E,ba,cu,bk,bg,cl,a1,ct,a8,cd,b6,co,cw,bu,bm,cg,az,ae,cn,aq,ah,a5,bq,I,bn,a7,aa,aj,b2,ap,z,cq,an,cv,a3,ar,a6,b0,bw,cf,J],defers:=[] } ((w.alloc (aG #[aD (M ⟨kb,0,Z⟩)] 71)).alloc (aG #[N ab id,N ab tm,.slice ta tn tc,.slice la ln lc] 28))):wV.wp PQ Q { tmps:=#[aD (M ⟨kb,0,Z⟩),fX #[N ab id,N ab tm,.slice ta tn tc,.slice la ln lc],u2,u3,u4,u5,u6,u7,u8,u9,aw,cc,au,bj,b8,bp,af,b1,ag,am,ay,ci,ak,ai,bo,R,b9,ca,ck,Y,cj,bl,cr,bb,a0,b3,ce,bd,bs,bh,b5,bv,a4,b7,bz,b4,br,ac,ao,av,a9,a2,E,ba,cu,bk,bg,cl,a1,ct,a8,cd,b6,co,cw,bu,bm,cg,az,ae,cn,aq,ah,a5,bq,I,bn,a7,aa,aj,b2,ap,z,cq,an,cv,a3,ar,a6,b0,bw,cf,J],defers:=[] } w:=by
 simp only[wV,Tryz.f31];go_wp2_with fail;exact hQ
def U5(u4 cx ct cu cw cv u0 u1 u3 u5 u6 u7 u8 u9 av af bw ag am aw cd ak ai bm R b6 b7 cf Y ce bj cl ba az b0 b9 bb bp bg b3 bq a3 b5 bu b1 bo ac ao au a8 a1 E a9 co bh bd cg a0 cn a7 b8 b4 cj cr br bk cc ay ae ci aq ah a4 bn I bl a6 aa aj bz ap z ck an cq a2 ar a5 bv bs ca J:X)(b2 kb:Nat)(va:Option eM)(k vc:Nat)(w:U)(c2:w.cell? ⟨b2,0,Z⟩=M (aD (M ⟨kb,0,Z⟩)))(c7:w.cell? ⟨kb,7,Z⟩=M (.slice va k vc))(hQ:Q .normal { tmps:=#[u0,u1,aD (M ⟨b2,0,Z⟩),u3,aD (M ⟨↑w,0,Z⟩),u5,u6,u7,u8,u9,av,aD (M ⟨kb,0,Z⟩),aD (M ⟨kb,0,Z⟩),aD (M ⟨kb,7,Z⟩),.slice va k vc,N ab k,af,bw,ag,am,aw,cd,ak,ai,bm,R,b6,b7,cf,Y,ce,bj,cl,ba,az,b0,b9,bb,bp,bg,b3,bq,a3,b5,bu,b1,bo,ac,ao,au,a8,a1,E,a9,co,bh,bd,cg,a0,cn,a7,b8,b4,cj,cr,br,bk,cc,ay,ae,ci,aq,ah,a4,bn,I,bl,a6,aa,aj,bz,ap,z,ck,an,cq,a2,ar,a5,bv,bs,ca,J],defers:=[] } (w.alloc (aG #[N ab k] 3))):wG.wp PQ Q { tmps:=#[u0,u1,aD (M ⟨b2,0,Z⟩),u3,u4,u5,u6,u7,u8,u9,av,cx,ct,cu,cw,cv,af,bw,ag,am,aw,cd,ak,ai,bm,R,b6,b7,cf,Y,ce,bj,cl,ba,az,b0,b9,bb,bp,bg,b3,bq,a3,b5,bu,b1,bo,ac,ao,au,a8,a1,E,a9,co,bh,bd,cg,a0,cn,a7,b8,b4,cj,cr,br,bk,cc,ay,ae,ci,aq,ah,a4,bn,I,bl,a6,aa,aj,bz,ap,z,ck,an,cq,a2,ar,a5,bv,bs,ca,J],defers:=[] } w:=by
 simp only[wG,Tryz.f31];go_wp2_with fail;exact hQ
def BD.from{kb nb:Nat}{cs:Array X}{vo:X}{os:List PC}{w V:U}{z:X}{E:AL}{I:List PC}{w':U}(h:BD kb nb cs vo os V z E I w')(J:Below ↑w w V):BD kb nb cs vo os w z E I w':=
 ⟨h.obj,h.chs,(jI.below J jB _).trans h.jM (λ_ _ e=>e),λk hk=>(h.own k hk).imp (λe=>e) (λe=>bH J.size e),h.len⟩
def IV{u0 u1 u3 u5 u6 u7 u8 u9 a8 ck a6 br ci bz ar ca au a0 a9 cq az aw bw am cj dm dt c2 dr dg dy dd db di dq de b3 bq ce b5 bh cg b8 cd b1 ao a2 a7 bn bd ai bo cx bs bp cr bb cw bm cl cf cu cz b6 bu co ba ap ct a4 av bj b0 aj bv bl an ay cc a3 ah cv a1 cy bg a5 bk b9 b7 cn ak:X}(b2 b4 kb nb n:Nat){E:Int}{cs:Array X}(vo:X)(nm:AL)(os:List PC){w:U}(h2:w.heap[b2]? =M (aG #[ptr kb] 71 (0,0)))(h4:w.heap[b4]? =M (aG #[N ab n] 3 (0,0)))(hk:w.heap[kb]? =M (aG cs 100 (0,0)))(ae:cs[2]? =M (N ab E))(h8:cs[8]? =M (.map (M nb)))(h9:cs[9]? =M vo)(af:Chs w nb vo nm os)(c9:os.length<=4294967296)(hn:n<=4294967296)(d0:0<=E/\E<=4294967296)(hQ:∀(dk c3 c4 du dh dw dv c1 dj c6 dx:X)(W':U)(J:X)(I:AL)(z:List PC),BD kb nb cs vo os w J I z W'->z.length<=os.length->lives I z=(lives nm os).filter (λc=>!decide ((c.opened:Int)<n-E))->Q .normal { tmps:=#[u0,u1,aD (M ⟨b2,0,Z⟩),u3,aD (M ⟨b4,0,Z⟩),u5,u6,u7,u8,u9,a8,ck,a6,br,ci,bz,ar,ca,au,a0,a9,cq,az,aw,bw,am,cj,dk,c3,c4,du,dh,dw,dv,c1,dj,c6,dx,b3,bq,ce,b5,bh,cg,b8,cd,b1,ao,a2,a7,bn,bd,ai,bo,cx,bs,bp,cr,bb,cw,bm,cl,cf,cu,cz,b6,bu,co,ba,ap,ct,a4,av,bj,b0,aj,bv,bl,an,ay,cc,a3,ah,cv,a1,cy,bg,a5,bk,b9,b7,cn,ak],defers:=[] } W'):wP.wp PQ Q { tmps:=#[u0,u1,aD (M ⟨b2,0,Z⟩),u3,aD (M ⟨b4,0,Z⟩),u5,u6,u7,u8,u9,a8,ck,a6,br,ci,bz,ar,ca,au,a0,a9,cq,az,aw,bw,am,cj,dm,dt,c2,dr,dg,dy,dd,db,di,dq,de,b3,bq,ce,b5,bh,cg,b8,cd,b1,ao,a2,a7,bn,bd,ai,bo,cx,bs,bp,cr,bb,cw,bm,cl,cf,cu,cz,b6,bu,co,ba,ap,ct,a4,av,bj,b0,aj,bv,bl,an,ay,cc,a3,ah,cv,a1,cy,bg,a5,bk,b9,b7,cn,ak],defers:=[] } w:=by
 have dz:IntKind.i64.wrap ((n:Int)-E)=(n:Int)-E:=by rw[eT];omega
 have hS:∀V,Below ↑w w V->V.cell? ⟨b2,0,Z⟩=M (aD (M ⟨kb,0,Z⟩))/\V.cell? ⟨b4,0,Z⟩=M (N ab n)/\V.cell? ⟨kb,2,Z⟩=M (N ab E):=λV hV=>by
  have q2:=(hV.block _ (jE h2)).trans h2;have q4:=(hV.block _ (jE h4)).trans h4;have qk:=(hV.block _ (jE hk)).trans hk;exact⟨by rw[aI q2];rfl,by rw[aI q4];rfl,by rw[aI qk];exact ae⟩
 have Y:∀V,Below ↑w w V->dE PQ 49 #[aD (M ⟨kb,8,Z⟩),N ab ((n:Int)-E)] V λe w'=>e=bO (cQ #[])/\(w'.cell? ⟨b2,0,Z⟩=M (aD (M ⟨kb,0,Z⟩))/\w'.cell? ⟨b4,0,Z⟩=M (N ab n)/\w'.cell? ⟨kb,2,Z⟩=M (N ab E))/\cH (∃J I z,BD kb nb cs vo os w J I z w'/\z.length<=os.length/\lives I z=(lives nm os).filter (λc=>!decide ((c.opened:Int)<n-E))):=λV hV=>by
  refine(NH kb nb cs vo nm os V ((hV.block _ (jE hk)).trans hk) h8 h9 (af.below hV) c9).mono ?_;rintro e w' ⟨rfl,J,I,z,ht,hl,ag⟩;have aq:=ht.from hV
  have far:∀(k:Nat)(c:Array X)(t:Nat)(fz:Nat×Nat),w.heap[k]? =M (aG c t fz)->t≠100->t≠136->t≠140->w'.heap[k]? =M (aG c t fz):=λk c t fz R t1 t2 t3=>(aq.jM.block k (jE R) (by
   rintro(rfl|e)
   .rw[hk]at R;simp at R;exact t1 R.2.1.symm
   .exact af.lK R t2 t3 e)).trans R
  refine⟨rfl,⟨by rw[aI (far _ _ _ _ h2 aB aB aB)];rfl,by rw[aI (far _ _ _ _ h4 aB aB aB)];rfl,?_⟩,J,I,z,aq,hl,ag⟩;rw[aI ht.obj,aV];simpa using ae
 have HS:cH _:=hS;have ac:cH _:=Y;have HQ:cH _:=hQ;clear hS Y hQ h2 h4 hk ae h8 h9 af;simp only[wP,Tryz.f31];have aa:=aJ ↑w w;go_region_held3 (λV=>V.cell? ⟨b2,0,Z⟩=M (aD (M ⟨kb,0,Z⟩))/\V.cell? ⟨b4,0,Z⟩=M (N ab n)/\V.cell? ⟨kb,2,Z⟩=M (N ab E)) (first|exact c5|(refine HS.out _ ?_;first|exact aa|exact aa.drew)) (first|(go_at_call 49;(refine aT (ac.out _ ?_) ?_;(first|exact aa.drew|exact aa);rintro e5 w5 ⟨rfl,c5,H5⟩)))
 all_goals
  obtain⟨J,I,z,ht,hl,ag⟩:=H5.out;exact HQ.out _ _ _ _ _ _ _ _ _ _ _ w5 J I z ht hl ag
end
end Hm
namespace Hm
open Go.RowKit Go.Joins Go.Shelf
open Fr (below_drewN)
open Dv (X2 Cf Ba Ch)
attribute [local go_sem] Oper.semAt_some
variable {XS:Nat->Prop}{W A:U}{kb nb n:Nat}{pre:List (List UInt8)}{cs:Array X}{vw1:X}{ws1:List PW}
noncomputable def AX:eE:=match Tryz.f31.body with
 |some (bR _ (bR _ (bR _ (bR _ (bR _ c)))))=>c
 |_=>.skip
def N9(kb:Nat)(w:U):dE PQ 52 #[aD (M ⟨kb,8,Z⟩)] w λe w'=>e=bO (.func (.func 78) #[] #[aD (M ⟨↑w,0,Z⟩)])/\w'=w.alloc (aG #[aD (M ⟨kb,8,Z⟩)] 135):=by go_enter (fq Tryz.func52 rfl),Tryz.ntmps52;go_wp2_with fail;go_ret;exact⟨rfl,rfl⟩
def BG(S:ByteArray)(w:U):dE PQ 53 #[bB S] w λe w'=>e=bO (.func (.func 81) #[] #[aD (M ⟨↑w,0,Z⟩)])/\w'=w.alloc (aG #[bB S] 9):=by go_enter (fq Tryz.func53 rfl),Tryz.ntmps53;go_wp2_with fail;go_ret;exact⟨rfl,rfl⟩
def zB{W':U}(hc:jI XS W W')(E:∀k,XS k->k<W.heap.size->∃cs t z,W.heap[k]? =M (aG cs t z)):KeepsOthers W W':=⟨hc.size,λk o hk ho=>(hc.block k (jE hk) (λe=>by
 obtain⟨cs,t,z,q⟩:=E k e (jE hk);rw[hk]at q;cases q;cases ho)).trans hk⟩
def Qe.own(ho:Option Obj)(I:Nat)(S:ByteArray)(n:Nat)(hn:1<n):rq n (Qe ho I S):=by rintro pre A B row ⟨Y,h2,h3⟩ R hr;obtain⟨XS,z,J,E⟩:=lH R hr;have q0:=z.block 1 h2.pos (E _ hn);obtain⟨⟨a0,a1,a2⟩,a3,a4,a5⟩:=h2;exact⟨q0.trans Y,⟨⟨(bX q0).trans a0,(bX q0).trans a1,(bX q0).trans a2⟩,(bX q0).trans a3,(bX q0).trans a4,(bX q0).trans a5⟩,vP h3 z J⟩
def BY.own(T:List UInt8)(n lo:Nat):rq n (λ(q:List BX×BX) W=>BY T q.1 q.2 lo W):=by rintro q A B row ⟨E,h2,h3⟩ Y J;obtain⟨XS,z,R,I⟩:=lH Y J;exact⟨⟨kQ.jM E.1 z R.str,E.2⟩,h2,h3⟩
def PS.grown{B:Nat->Prop}{J:List Ch}{I:U}{vo:X}{nm:AL}{os:List PC}(h:PS kb nb B J pre A cs vo nm os){row:Option Nat}(hn:∀k,B k->k<n)(Y:A.grownBy I row)(hr:∀r,row=M r->n<=r/\∃o:Obj,A.heap[r]? =M o/\o.isCells=aL):PS kb nb B J pre I cs vo nm os:=by obtain⟨XS,z,R,E⟩:=lH Y hr;exact h.jM z (R _ _ _ _ h.obj) (λk hk=>E k (hn k hk))
def PSt.own(kb z nb:Nat)(B:Nat->Prop)(l0:List Ch)(p0:PX)(n:Nat)(hn:∀k,B k->k<n)(hc:z<n):rq n (PSt kb z nb B l0 p0):=by rintro pre A A' row ⟨⟨cs,Y⟩,h2⟩ J R;have h3:=Y.grown hn J R;obtain⟨XS,E,hM,I⟩:=lH J R;exact⟨⟨cs,h3⟩,(bX (E.block z (fG A _ h2) (I z hc))).trans h2⟩
def PEn.own(kb nb:Nat)(B:Nat->Prop)(I:List Ch)(n:Nat)(R:∀k,B k->k<n):rq n (PEn kb nb B I):=by rintro pre A Y row ⟨cs,vo,nm,os,E,h2⟩ z J;exact⟨cs,vo,nm,os,E.grown R z J,h2⟩
def TJ(kb nb n:Nat)(w:U)(cs:Array X)(vw:X)(ws:List PW)(pre:List PX)(W:U):Prop:=∃z vw1 ws1,TI kb nb n w cs vw ws (pre.map PX.s) W z vw1 ws1
def TJ.own(kb nb n:Nat)(w:U)(cs:Array X)(vw:X)(ws:List PW)(m:Nat)(hm:↑w<=m):rq m (TJ kb nb n w cs vw ws):=by rintro pre A A' row ⟨J,vw1,ws1,h⟩ R Y;obtain⟨XS,z,I,E⟩:=lH R Y;exact⟨J,vw1,ws1,h.nU z I (λk hk=>E k aA)⟩
def UJ(kb n:Nat)(J:U)(E:Array X)(vw1:X)(ws1:List PW)(pre:List BX)(F:Nat->Prop)(W:U):Prop:=∃z I,UI kb n J E vw1 ws1 (pre.map BX.b) W z I/\∀g,z.ownBlock=M g->¬F g
def UJ.own(kb n:Nat)(Y:U)(I:Array X)(vw1:X)(ws1:List PW)(F:Nat->Prop)(m:Nat)(hm:↑Y<=m):rq m (λpre W=>UJ kb n Y I vw1 ws1 pre F W):=by rintro pre A A' row ⟨z,R,h,h'⟩ hg hr;obtain⟨XS,E,hM,J⟩:=lH hg hr;exact⟨z,R,h.nU E hM (λk hk=>J k aA),h'⟩
def TI.base{w V:U}{vw:X}{ws:List PW}{z:X}(h:TI kb nb n V cs vw ws pre W z vw1 ws1)(E:Below ↑w w V)(J:nb<↑w):TI kb nb n w cs vw ws pre W z vw1 ws1:=
 ⟨h.obj,h.row,h.txs,h.fst,λg I=>(h.own g I).imp id (λq=>bH E.size q),(jI.below E jB _).trans h.jM (λ_ _ e=>e),h.nbm,J⟩
def Qe.jM{ho:Option Obj}{E:Nat}{S:ByteArray}{pre z:List BX}{B:U}(h:Qe ho E S pre A)(hc:jI XS A B)(J:¬XS 1)(h2:¬XS E):Qe ho E S z B:=by have q0:=hc.block 1 h.2.1.pos J;obtain⟨g1,⟨⟨a0,a1,a2⟩,R,a4,Y⟩,I⟩:=h;exact⟨q0.trans g1,⟨⟨(bX q0).trans a0,(bX q0).trans a1,(bX q0).trans a2⟩,(bX q0).trans R,(bX q0).trans a4,(bX q0).trans Y⟩,(hc.block E I.lt h2).trans I⟩
def UI.skip{R:U}{E:Array X}{J:List Ba}{z:X}{I:List PW}(h:UI kb n R E vw1 ws1 J W z I){b:Ba}(Y:¬b.epoch<=n):UI kb n R E vw1 ws1 (J++[b]) W z I:=
 ⟨h.obj,h.row,h.txs,by rw[wI,Zs Y,gI];exact h.fst,h.own,h.jM⟩
def UK(n:Nat)(l:List Ba):(vY n l).length<=l.length:=by unfold vY;rw[bC];exact gZ _ _
end Hm
namespace Hm
open Go.RowKit Go.Joins Go.Shelf
open Fr (below_drewN)
open Dv (X2 Cf Ba Ch)
attribute [local go_sem] Oper.semAt_some
def Qk{u0 u1 u3 u5 u6 u7 u8 u9 e0 cd bu co cu dd bn ca bo br cl cv bp cz d7 dt cc ea ce bm dq b5 eg d1 dz di ec b3 d8 d3 cr b7 bv d9 dg dj de cg dw ck b1 cn cw c6 ei db d2 ee c3 eh b0 eb ct ef el b8 b6 ed dy gh gm gp gn fe e2 er eu bz du dv cq cj cf dr ci ej c5 dx bw dh b9 dm cy:X}(b2 b4 kb nb n:Nat){cs:Array X}(vo vw:X)(nm:AL)(os:List PC)(ws:List PW){w:U}{Q:p9->Act->U->Prop}(h2:w.heap[b2]? =M (aG #[ptr kb] 71 (0,0)))(h4:w.heap[b4]? =M (aG #[N ab n] 3 (0,0)))(hk:w.heap[kb]? =M (aG cs 100 (0,0)))(h8:cs[8]? =M (.map (M nb)))(h9:cs[9]? =M vo)(h10:cs[10]? =M vw)(ay:Chs w nb vo nm os)(gr:os.length<=4294967296)(ap:Row w 118 5 vw ws.length (ws.flatMap lV))(fl:∀p,p∈ws->kQ w p.2 p.1.txs)(hH:lJ w)(fi:∃hc t fz,w.heap[1]? =M (aG hc t fz)/\t≠100/\t≠118)(e4:∀s,s∈(Dv.pull (lives nm os)).1->s.length<=4096)(au:ws.length+4096*(Dv.pull (lives nm os)).1.length<4294967296)(hQ:∀(D:Nat)(W':U)(v9 R:X)(Y:List PW)(cs':Array X)(e1:X)(bs:AL)(cx:List PC),TI kb nb n w cs vw ws (Dv.pull (lives nm os)).1 W' v9 R Y->PS kb nb (Own nb vo os) (lives nm os) (Dv.pull (lives nm os)).1 W' cs' e1 bs cx->lives bs cx=(Dv.pull (lives nm os)).2->w.heap.size<=D->D<W'.heap.size->W'.heap[D]? =M (eI (M []))->Q .normal { tmps:=#[u0,u1,aD (M ⟨b2,0,Z⟩),u3,aD (M ⟨b4,0,Z⟩),u5,u6,u7,u8,u9,e0,cd,bu,co,cu,dd,bn,ca,bo,br,cl,cv,bp,cz,d7,dt,cc,ea,ce,bm,dq,b5,eg,d1,dz,di,ec,b3,d8,d3,cr,b7,bv,d9,dg,dj,de,cg,dw,ck,b1,cn,cw,c6,ei,db,d2,ee,c3,eh,b0,eb,ct,ef,el,b8,b6,ed,dy,aD (M ⟨kb,0,Z⟩),aD (M ⟨kb,0,Z⟩),aD (M ⟨kb,8,Z⟩),.func (.func 78) #[] #[aD (M ⟨↑w,0,Z⟩)],fe,e2,er,eu,bz,du,dv,cq,cj,cf,dr,ci,ej,c5,dx,bw,dh,b9,dm,cy],defers:=[{ target:=.collected D,args:=#[] }] } W'):AX.wp PQ Q { tmps:=#[u0,u1,aD (M ⟨b2,0,Z⟩),u3,aD (M ⟨b4,0,Z⟩),u5,u6,u7,u8,u9,e0,cd,bu,co,cu,dd,bn,ca,bo,br,cl,cv,bp,cz,d7,dt,cc,ea,ce,bm,dq,b5,eg,d1,dz,di,ec,b3,d8,d3,cr,b7,bv,d9,dg,dj,de,cg,dw,ck,b1,cn,cw,c6,ei,db,d2,ee,c3,eh,b0,eb,ct,ef,el,b8,b6,ed,dy,gh,gm,gp,gn,fe,e2,er,eu,bz,du,dv,cq,cj,cf,dr,ci,ej,c5,dx,bw,dh,b9,dm,cy],defers:=[] } w:=by
 have ar:∀(k:Nat)(c:Array X)(t:Nat)(fz:Nat×Nat),w.heap[k]? =M (aG c t fz)->t≠100->t≠118->¬(k=kb\/k=nb\/vw.ownBlock=M k):=by
  rintro k c t fz bd t1 t2 (rfl|rfl|e)
  .rw[hk]at bd;simp at bd;exact t1 bd.2.1.symm
  .exact lg bd ay.named rfl
  .obtain⟨e3,q⟩:=ap.obj e;rw[bd]at q;simp at q;exact t2 q.2.1
 have e6:=ay.named.lt;have bb:=(jE h10)
 have gc:cH (10<cs.size):=bb;have g7:=(jE hk)
 have fb:=(jE h2)
 have e7:=(jE h4)
 have ga:∀g,vw.ownBlock=M g->g<w.heap.size:=λg hg=>ap.lt hg;have fk:=hH.pos;have em:NC w nb:=λc t fz e=>lg e ay.named rfl
 have f0:TI kb nb n w cs vw ws [] w vo vw []:=by
  refine⟨?_,by simpa using ap,by simpa using fl,rfl,λg hg=>bE hg,jI.refl _ _,em,e6⟩;rw[hk]
  congr 2
  apply gB;intro i;simp only[aV,jh];split
  .rename_i e;subst e
   first
    |exact h10
    |(rw[ZD (jE h10)];exact h10)
  .split
   .rename_i e;subst e
    first
     |exact h9
     |(rw[ZD (jE h9)];exact h9)
   .rfl
 have ex:cH (∀k,Own nb vo os k->k<w.heap.size):=λk aa=>ay.qZ aa;have f6:PS kb nb (Own nb vo os) (lives nm os) [] w cs vo nm os:=⟨hk,h8,h9,ay,gr,aC,λk aa=>aa⟩
 obtain⟨V,hV,ao,-⟩:=jD w #[aD (M ⟨kb,8,Z⟩)] 135;have ha:↑V=w.heap.size+1:=by rw[hV];simp
 have fo:V.cell? ⟨↑w,0,Z⟩=M (aD (M ⟨kb,8,Z⟩)):=by
  have:V.heap[w.heap.size]? =M (aG #[aD (M ⟨kb,8,Z⟩)] 135 (0,0)):=by rw[hV];exact cT _ _
  rw[aI this];rfl
 have a6:=f0.nU (.below ao jB _) (λ_ _ _ _ _ e=>e) (λ_ _ e=>e);have e8:TI kb nb n V cs vw ws [] V vo vw []:=⟨a6.obj,a6.row,a6.txs,a6.fst,λg hg=>bE hg,jI.refl _ _,a6.nbm,aA⟩
 have ft:=f6.below ao;have c2:w.cell? ⟨b2,0,Z⟩=M (aD (M ⟨kb,0,Z⟩)):=kJ h2;have n2:=ar b2 _ _ _ h2 aB aB;have n4:=ar b4 _ _ _ h4 aB aB
 have nh:¬(1=kb\/1=nb\/vw.ownBlock=M 1):=by
  obtain⟨c,t,fz,q1,q2,q3⟩:=fi;exact ar _ _ _ _ q1 q2 q3
 have fd:=(ao.block b2 fb).trans h2;have fa:=(ao.block b4 e7).trans h4;have fu:=hH.below ao fk;have H0:cH _:=jy (jy n2 (jy n4 nh)) (jy e4 (jy au (jy hQ (jy e8 (jy ft (jy fd (jy fa (jy fu (jy ao fo)))))))));clear ar e4 au hQ f0 e8 a6 f6 ft h2 h4 hH fi fo ao n2 n4 nh fd fa fu hk h8 h9 h10 ay ap fl em bb;simp only[AX,Tryz.f31];refine(wpIn_wide (n:=3)).1 ?_;gi_wp2;refine⟨trivial,(gO.2 (N9 kb w)).mono ?_⟩;rintro e w2 ⟨rfl,rfl⟩;gi_wp2;rw[<-hV];clear hV
 refine tq (gf:=78) (lb:=#[.pointer _]) rfl (enters_of (fq Tryz.func78 rfl) XN rfl)
  (JM kb nb ⟨[],vo,nm,os⟩ aA aA) (by rintro k (rfl|rfl)<;>omega) (λA B l o hl h=>h.put o aA) (PSt.own _ _ _ _ _ _ _ (λk aa=>(by have:=ex.out k aa;omega)) aA) (PEn.own _ _ _ _ _ (λk aa=>(by have:=ex.out k aa;omega))) (λlo=>by
   rintro⟨af,x⟩ A A' row h hg hr;exact PSt.own _ _ _ _ _ _ _ (λk aa=>(by have:=ex.out k aa;omega)) aA (af++[x]) A A' row h hg hr) (λ_=>rfl)
  _ (λ_ _ _=>False) (TJ.own _ _ _ _ _ _ _ _ aA) (λ_ _ _ _ _ h=>h.elim) ⟨vo,vw,[],H0.out.2.2.2.2.1⟩ ⟨⟨cs,H0.out.2.2.2.2.2.1⟩,H0.out.2.2.2.2.2.2.2.2.2.2⟩
  (λx _=>{ tmps:=#[u0,u1,aD (M ⟨b2,0,Z⟩),u3,aD (M ⟨b4,0,Z⟩),u5,u6,u7,u8,bB ⟨x.s.toArray⟩,e0,cd,bu,co,cu,dd,bn,ca,bo,br,cl,cv,bp,cz,d7,dt,cc,ea,ce,bm,dq,b5,eg,d1,dz,di,ec,b3,d8,d3,cr,b7,bv,d9,dg,dj,de,cg,dw,ck,b1,cn,cw,c6,ei,db,d2,ee,c3,eh,b0,eb,ct,ef,el,b8,b6,ed,dy,aD (M ⟨kb,0,Z⟩),aD (M ⟨kb,0,Z⟩),aD (M ⟨kb,8,Z⟩),.func (.func 78) #[] #[aD (M ⟨↑w,0,Z⟩)],bB ⟨x.s.toArray⟩,e2,er,eu,bz,du,dv,cq,cj,cf,dr,ci,ej,c5,dx,bw,dh,b9,dm,cy],defers:=[] }) _ (λ_ _ _ _=>rfl) (λ_ _=>jB) (λ_ _ _ _ _=>rfl) ?assign ?body ?done ?stop
 case assign=>
  intro l x W K hK;simp only[PX.encs];gi_wp2;exact hK
 case body=>
  rintro l af x W0 W1 hb g3 ⟨r,hr⟩ ⟨v9,R,Y,hT⟩ hc hE ⟨⟨f9,hP⟩,az⟩;rw[tu]at hP;obtain⟨an,z⟩:=hT.turn hc hE (λc t fz e=>lg e hP.chs.named rfl)
  have a7:f9=(cs.setIfInBounds 9 an).setIfInBounds 10 R:=by
   have q:=hP.obj;rw[z.obj]at q;simp at q;exact q.symm
  have av:=hP.pull;have bj:(Dv.pull (lives nm os)).1=(af++[x]).map PX.s++(Dv.pull (lives x.nm x.os)).1:=by rw[av]
  have gt:=H0.out.2.1 x.s (by rw[bj,bJ];simp);have ez:af.length+1<=(Dv.pull (lives nm os)).1.length:=by rw[bj];simp
  have g4:=z.jM.size;have hf:=hT.jM.size;have ba:=(z.jM.block b2 aA H0.out.1.1).trans H0.out.2.2.2.2.2.2.1;have bl:=(z.jM.block b4 aA H0.out.1.2.1).trans H0.out.2.2.2.2.2.2.2.1;have am:=z.jM.block _ aA H0.out.1.2.2
  have f7:lJ W1:=by
   obtain⟨⟨a0,a1,a2⟩,a3,a4,a5⟩:=H0.out.2.2.2.2.2.2.2.2.1;exact⟨⟨(bX am).trans a0,(bX am).trans a1,(bX am).trans a2⟩,(bX am).trans a3,(bX am).trans a4,(bX am).trans a5⟩
  have aq:∀k,k<w.heap.size->¬(k=kb\/k=nb\/vw.ownBlock=M k)->¬(k=kb\/R.ownBlock=M k):=λk g2 aa e=>by
   obtain e|e:=e
   .exact aa (bE e)
   .obtain q|q:=z.own k e
    .exact aa (cD (cD q))
    .omega
  have f2:=aq b2 fb H0.out.1.1;have f4:=aq b4 e7 H0.out.1.2.1;have fh:=aq _ fk H0.out.1.2.2;obtain⟨S,hS⟩:∃S:ByteArray,(⟨x.s.toArray⟩:ByteArray)=S:=⟨_,rfl⟩
  have a9:S.data.toList=x.s:=by rw[<-hS]
  have gv:S.size<=4096:=by rw[<-hS];show x.s.toArray.size<=4096;rw[dR];exact gt
  obtain⟨Xw,dk,aj,-⟩:=jD W1 #[bB S] 9;have g6:↑Xw=W1.heap.size+1:=by rw[dk];simp
  have e5:rp Xw ↑W1 9 (bB S):=by unfold rp;rw[dk];exact cT _ _
  have gi:=(aj.block l (jE hr)).trans hr;have fw:UI kb n W1 ((cs.setIfInBounds 9 an).setIfInBounds 10 R) R (ws++Y) [] Xw R []:=⟨by rw[qQ];exact(aj.block kb aA).trans z.obj,by simpa using z.row.below aj,λp hp=>Row.below (z.txs p (by simpa using hp)) aj,rfl,λg hg=>bE hg,.below aj jB _⟩
  have c9:Qe (V.heap[1]?) ↑W1 S [] Xw:=⟨(aj.block _ aA).trans am,f7.below aj aA,e5⟩
  have H1:cH _:=jy hT (jy z (jy hP (jy az (jy a7 (jy fw (jy c9 (jy ba (jy bl (jy f2 (jy f4 (jy fh (jy ez a9))))))))))));clear hT z hP az a7 fw c9 ba bl f2 f4 fh ez av bj am f7 aq e5 hc hE hr aj a9;rw[hS];gi_wp2;refine⟨trivial,(CallsIn.inRound _ (gO.2 (BG S W1))).mono ?_⟩;rintro e w3 ⟨rfl,rfl⟩;gi_wp2;rw[<-dk];clear dk
  refine EH gi (gf:=81) (lb:=#[aD (M ⟨↑W1,0,Z⟩)]) rfl (enters_of (fq Tryz.func81 rfl) XN rfl) (Aw (V.heap[1]?) ↑W1 S gv) (Qe.own _ _ _ _ aA) (λlo=>BY.own _ _ lo) (λ_=>rfl)
   (λaf F W=>UJ kb n W1 ((cs.setIfInBounds 9 an).setIfInBounds 10 R) R (ws++Y) af F W/\Qe (V.heap[1]?) ↑W1 S af W) (λ_ _ _ _=>False) (λF=>(UJ.own _ _ _ _ _ _ F _ aA).and (Qe.own _ _ _ _ aA)) (λ_ _ _ _ _ _ h=>h.elim) ⟨⟨R,[],H1.out.2.2.2.2.2.1,λ_ _ e=>e⟩,H1.out.2.2.2.2.2.2.1⟩ H1.out.2.2.2.2.2.2.1
   (λy B=>{ tmps:=#[u0,u1,aD (M ⟨b2,0,Z⟩),u3,aD (M ⟨b4,0,Z⟩),u5,u6,u7,u8,bB S,aD (M ⟨B,0,Z⟩),cd,bu,co,cu,dd,bn,ca,bo,br,cl,cv,bp,cz,d7,dt,cc,ea,ce,bm,dq,b5,eg,d1,dz,di,ec,b3,d8,d3,cr,b7,bv,d9,dg,dj,de,cg,dw,ck,b1,cn,cw,c6,ei,db,d2,ee,c3,eh,b0,eb,ct,ef,el,b8,b6,ed,dy,aD (M ⟨kb,0,Z⟩),aD (M ⟨kb,0,Z⟩),aD (M ⟨kb,8,Z⟩),.func (.func 78) #[] #[aD (M ⟨↑w,0,Z⟩)],bB S,bB S,.func (.func 81) #[] #[aD (M ⟨↑W1,0,Z⟩)],fX #[N ab y.b.epoch,N ab y.b.id,N ab y.b.time,.slice y.a y.b.txs.length y.cap,N ab y.b.place],bz,du,dv,cq,cj,cf,dr,ci,ej,c5,dx,bw,dh,b9,dm,cy],defers:=[] }) (λy=>aG #[N ab y.b.epoch,N ab y.b.id,N ab y.b.time,.slice y.a y.b.txs.length y.cap,N ab y.b.place] 118) ?iassign ?ibody ?idone ?istop
  case iassign=>
   intro l x W K hK;simp only[BX.encs];gi_wp2;exact hK
  case ibody=>
   rintro lb bh y F bg E g9 gy ⟨rb,g8⟩ hF ⟨⟨ac,ak,hU,fc⟩,f5⟩ a8 ⟨c1,av,pp,ag⟩;have bk:=hU.nU a8 (λk c t fz hk e=>e.2 c t fz hk) (λk hk e=>by have:=(hF k e.1).1;omega);obtain⟨hT,z,hP,az,a7,_,c9,ba,bl,f2,f4,fh,ez,a9⟩:=H1.out;obtain⟨G,hG,gb,gk⟩:=jD E #[N ab y.b.epoch,N ab y.b.id,N ab y.b.time,.slice y.a y.b.txs.length y.cap,N ab y.b.place] 118;rw[<-hG];have gs:↑G=E.heap.size+1:=by rw[hG];simp
   obtain⟨k0,k1,k2,k3,k4,kf⟩:=cells5 gk;have J:=bk.nU (.below gb jB _) (λ_ _ _ _ _ e=>e) (λ_ _ e=>e);have g5:=bk.jM.size;have d0:=(J.jM.block b2 aA f2).trans ba;have fj:=(J.jM.block b4 aA f4).trans bl;have c4:=kJ fj;have he:b4≠E.heap.size:=aA
   have fy:Qe (V.heap[1]?) ↑W1 S bh E:=f5.jM a8 (λe=>by have:=(hF _ e.1).1;omega) (λe=>by have:=(hF _ e.1).1;omega);have ai:Qe (V.heap[1]?) ↑W1 S bh G:=fy.jM (.below gb jB (λ_=>False)) (λe=>e) (λe=>e);have g0:W1.heap.size+1<bg.heap.size:=aA
   have gz:=a8.size;have ah:∀g,ac.ownBlock=M g->g<bg.heap.size:=λg hg=>hU.row.lt hg
   have I:∀g,ac.ownBlock=M g->¬wS F bg E g:=λg hg e=>by
    obtain e|e:=e
    .exact fc g hg e
    .have:=ah g hg;omega
   have fp:cH _:=jy J (jy ai (jy I (jy ah (jy d0 (jy gk (jy c1 (jy ag (jy bk (jy av (jy hF gb))))))))));clear hU bk J ai fy f5 a8 c1 ag I hT z hP az a7 c9 ba bl gk d0 fj hG ah fc av hF gb;by_cases fx:y.b.epoch<=n
   .have fg:(y.b.epoch:Int)<=n:=by omega
    gi_wp2;refine wpIn_region_any XN ?_;change wpAnyIn _ _ _ _ _ _ _ _ _ (World.drew _);obtain⟨J,ai,I,ah,d0,gk,c1,ag,bk,av,hF,gb⟩:=fp.out;have ae:jI (λk=>k=E.heap.size) G (G.setCell ⟨↑E,4,Z⟩ (N ab n)).drew:=(jI.set G _ 4 _).trans (jI.drew _ _) (λ_ _ e=>e);have gd:(G.setCell ⟨↑E,4,Z⟩ (N ab n)).drew.heap[E.heap.size]? =M (aG (bt y.b.epoch y.b.id y.b.time y.a y.b.txs.length y.cap n).toArray 118 (0,0)):=jX gk 4 _;have eo:=J.obj;have ey:ac.ownBlock≠M E.heap.size:=λe=>by have:=ah _ e;omega
    have ew:kb≠E.heap.size:=aA
    have ff:=gc.out
    have au:(ws++Y++ak).length<4294967296:=by
     have q1:=H0.out.2.2.1;have q2:=Z1 qt H1.out.2.1.fst;rw[bC]at q2;have q3:=Dv.wL n (af.map PX.s);rw[bC]at q3;have q4:=Z1 qt J.fst;rw[bC]at q4;have q5:=UK n (bh.map BX.b);have q6:=ag.le;rw[bC]at q5;rw[bJ,aS,bC]at q6
     have q7:(textOf S.data.toList).length<=4096:=by
      have:=Dv.qy S.data.toList.length S.data.toList 4096 [] (by simp only[bY];omega);unfold textOf;omega
     have q8:=H1.out.2.2.2.2.2.2.2.2.2.2.2.2.1;simp only[eP,fP,aU,bY]at q6;simp only[aS];omega
    have gw:RB (G.setCell ⟨↑E,4,Z⟩ (N ab n)).drew b2 ↑E kb (ws++Y++ak).length ac ((ws++Y++ak).flatMap lV) (((cs.setIfInBounds 9 an).setIfInBounds 10 R).setIfInBounds 10 ac) y.b.epoch y.b.id y.b.time y.a y.b.txs.length y.cap n:=
     ⟨(ae.block b2 aA aA).trans d0,(ae.block kb (jE eo) ew).trans eo,by rw[aV];simp[ff],gd,J.row.jM ae (λg hg e=>ey (by rw[hg,e])),ey,au⟩
    refine V4 (l:=lb) (m:=1) gw rfl rfl rfl ?_;intro a' g off cap wz hr hg;have f8:kQ G (.slice y.a y.b.txs.length y.cap) y.b.txs:=Row.below c1.1 gb;have et:=J.more fx f8 (b10:=E.heap.size) aA ey ⟨_,gk⟩ ae hr hg;have hM:jI (λk=>(ac.ownBlock=M k\/k=E.heap.size)\/k=kb) G (wz.setCell ⟨kb,10,Z⟩ (aH (M ⟨g,off,Z⟩) ((ws++Y++ak).length+1) cap)):=(((ae.mono (λk _ e=>bE (cD e))).trans (jI.alloc (λ_=>False) _ _) (λ_ _ e=>e.elim)).trans hg.jM (λk _ e=>bE (bE e))).trans (jI.set wz kb 10 _) (λk _ e=>cD e);have e9:=H1.out.2.2.2.2.2.2.2.2.2.2.2.1
    have f1:∀pr,Qe (V.heap[1]?) ↑W1 S pr (wz.setCell ⟨kb,10,Z⟩ (aH (M ⟨g,off,Z⟩) ((ws++Y++ak).length+1) cap)):=λpr=>ai.jM hM (by
     rintro((e|e)|e)
     .obtain q|q:=J.own _ e
      .exact e9 (cD q)
      .omega
     .omega
     .exact e9 (bE e)) (by
     rintro((e|e)|e)
     .exact jH J.row ai.2.2 aB e
     .omega
     .omega)
    refine⟨(zB hM (λk hk _=>?_)).from _,f1 _,λk hk=>hM.block k ?_ ?_,⟨_,_,by rw[bJ];exact et,?_⟩,f1 _⟩
    .obtain(e|rfl)|rfl:=hk
     .obtain⟨e3,q⟩:=J.row.obj e;exact⟨_,_,_,q⟩
     .exact⟨_,_,_,gk⟩
     .exact⟨_,_,_,eo⟩
    .obtain e|e:=hk
     .have:=(hF k e).2;omega
     .omega
    .rintro((e|e)|e)
     .exact I k e hk
     .obtain q|q:=hk
      .have:=(hF k q).2;omega
      .omega
     .obtain q|q:=hk
      .have:=(hF k q).1;omega
      .omega
    .intro q hq e;have hq:g=q:=by simpa[cV]using hq
     subst hq;obtain r1|r1:=hg.own
     .exact I g r1 e
     .have r2:(G.setCell ⟨↑E,4,Z⟩ (N ab n)).drew.heap.size+1<=g:=by simpa using r1
      have r3:=ae.size;obtain e|e:=e
      .have:=(hF g e).2;omega
      .omega
   .have fg:¬(y.b.epoch:Int)<=n:=by omega
    gi_wp2;obtain⟨J,ai,I,_⟩:=fp.out;refine⟨KeepsFrom.refl _ _,ai.jM (jI.refl (λ_=>False) _) (λe=>e) (λe=>e),λ_ _=>rfl,⟨ac,ak,?_,I⟩,ai.jM (jI.refl (λ_=>False) _) (λe=>e) (λe=>e)⟩;rw[bJ];exact J.skip fx
  case idone=>
   rintro xs F bg Wb hF ⟨p,gg,gx⟩ ⟨⟨ac,ak,hU,_⟩,_⟩ a8;have aw:=hU.nU a8 (λk c t fz hk e=>e.2 c t fz hk) (λk hk e=>by have:=(hF k e.1).1;omega);obtain⟨hT,z,hP,az,a7,_,_,_,_,_,_,_,_,a9⟩:=H1.out
   have bq:vY n (xs.map BX.b)=Dv.reads x.s n:=by
    have:=gg.all gx n;rw[a9]at this;unfold Dv.reads;exact this.symm
   have ge:=z.more aw bq
   have gj:=hP.aeP (v:=ac) (by rw[a7];exact aw.obj) aw.jM (λk hk e=>by
    obtain e|e:=e
    .exact hP.chs.lK hP.obj aB aB (e ▸ hk)
    .exact hP.chs.Ub z.row e hk)
   refine⟨(zB aw.jM (λk hk _=>?_)).from _,⟨⟨_,by rw[tu];exact gj⟩,?_⟩,λk h1 h2=>aw.jM.block k h2 ?_,an,ac,Y++ak,by rw[bJ];exact ge⟩
   .obtain rfl|e:=hk
    .exact⟨_,_,_,z.obj⟩
    .obtain⟨e3,q⟩:=z.row.obj e;exact⟨_,_,_,q⟩
   .refine(bX (aw.jM.block ↑w aA ?_)).trans az;rintro(e|e)
    .omega
    .obtain q|q:=z.own _ e
     .have:=ga _ q;omega
     .omega
   .rintro(e|e)
    .omega
    .have:=hT.row.lt e;omega
  case istop=>
   rintro c g1 F bg Wb _ _ h;exact h.elim
 case done=>
  rintro D xs W0 W hD gq _ ⟨v9,R,Y,hT⟩ hc hE ⟨cs',e1,bs,cx,hP,hl,hx⟩ hK;obtain⟨an,f3⟩:=hT.turn hc hE (λc t fz e=>lg e hP.chs.named rfl);rw[hx]at f3 hP;exact H0.out.2.2.2.1 D W an R Y cs' e1 bs cx (f3.base H0.out.2.2.2.2.2.2.2.2.2.1 e6) hP hl aA (jE hK) hK
 case stop=>
  rintro D c af W0 W hD gq _ h;exact h.elim
end Hm
namespace Hm
open Go.RowKit Go.Joins Go.Shelf
open Fr (F below_drewN)
open Dv (X2 Cf Ba Ch)
noncomputable def takeB:eE:=match Tryz.f31.body with
 |some (bR _ (bR _ (bR _ (bR _ (bR (bR _ c) _)))))=>c
 |_=>.skip
def Ib{u0 u1 u3 u5 u6 u7 u8 u9 br c2 bq cd cy ci u16 cq bd bl bs c9 bk bh cg a8 cz c1 dd a9 db ce u32 b6 bu ct c4 b8 ck ca cu cl bz cv dv d0 d1 ea d8 dt eb fe eg ed e7 d7 fc d9 ey ew fa ff eo ei e1 d2 bb dh bo bg b0 cj a6 cf b3 ba bj cr bn a5 di bm dk bv bp b1 co cn c5 a7:X}(b2 b4 kb nb n C m:Nat){most:Int}{cs:Array X}(vs:Array X)(vo:X)(nm:AL)(os:List PC)(fs:Nat->List F){w:U}{Q:p9->Act->U->Prop}(h2:w.heap[b2]? =M (aG #[ptr kb] 71 (0,0)))(h4:w.heap[b4]? =M (aG #[N ab n] 3 (0,0)))(hk:w.heap[kb]? =M (aG cs 100 (0,0)))(h6:cs[6]? =M (N ab most))(h8:cs[8]? =M (.map (M nb)))(h9:cs[9]? =M vo)(a2:Chs w nb vo nm os)(hC:w.heap[C]? =M (aG vs 106 (0,0)))(fg:vs.size=m)(ak:∀i,i<m->∃v,vs[i]? =M v/\zC w v (fs i))(b9:∀i f,i<m->f∈fs i->f.num<65536/\f.data.length<=65536)(hm:m<=16777216)(au:∀i,(fs i).length<=16777216)(aw:os.length+(lT fs m).length<=4294967295)(ee:0<=most/\most<=4294967296)(hQ:∀(x6 x8 ez du fd fb dy ej d3 et eu e4 el er dm em ex e3 ef dq dr e6 e2 e9 e8:X)(W':U)(af:X)(Y:AL)(R:List PC),BI kb nb w cs vo os ((lT fs m).foldl (Dv.frame most n) (lives nm os)) (lT fs m).length W' af Y R->Q .normal { tmps:=#[u0,u1,aD (M ⟨b2,0,Z⟩),u3,aD (M ⟨b4,0,Z⟩),u5,x6,u7,x8,u9,br,c2,bq,cd,cy,ci,u16,cq,bd,bl,bs,c9,bk,bh,cg,a8,cz,c1,dd,a9,db,ce,u32,b6,bu,ct,c4,b8,ck,ca,cu,cl,bz,cv,aH (M ⟨C,0,Z⟩) m m,N ab m,ez,du,fd,fb,dy,ej,d3,et,eu,e4,el,er,dm,em,ex,e3,ef,dq,dr,e6,e2,e9,e8,bb,dh,bo,bg,b0,cj,a6,cf,b3,ba,bj,cr,bn,a5,di,bm,dk,bv,bp,b1,co,cn,c5,a7],defers:=[] } W'):takeB.wp PQ Q { tmps:=#[u0,u1,aD (M ⟨b2,0,Z⟩),u3,aD (M ⟨b4,0,Z⟩),u5,u6,u7,u8,u9,br,c2,bq,cd,cy,ci,u16,cq,bd,bl,bs,c9,bk,bh,cg,a8,cz,c1,dd,a9,db,ce,u32,b6,bu,ct,c4,b8,ck,ca,cu,cl,bz,cv,aH (M ⟨C,0,Z⟩) m m,N ab m,N ab 0,dv,d0,d1,ea,d8,dt,eb,fe,eg,ed,e7,d7,fc,d9,ey,ew,fa,ff,eo,ei,e1,d2,bb,dh,bo,bg,b0,cj,a6,cf,b3,ba,bj,cr,bn,a5,di,bm,dk,bv,bp,b1,co,cn,c5,a7],defers:=[] } w:=by
 have ay:cs.setIfInBounds 9 vo=cs:=by
  apply gB;intro i;simp only[aV];split
  .rename_i e;subst e
   first
    |exact h9.symm
    |(rw[ZD (jE h9)];exact h9.symm)
  .rfl
 have cw:BI kb nb w cs vo os ((lT fs 0).foldl (Dv.frame most n) (lives nm os)) (lT fs 0).length w vo nm os:=⟨by rw[ay];exact hk,a2,jI.refl _ _,λk hk=>bE hk,by simp[lT],rfl⟩
 have E:∀(k:Nat)(c:Array X)(t:Nat)(fz:Nat×Nat),w.heap[k]? =M (aG c t fz)->t≠100->t≠136->t≠140->¬(k=kb\/Own nb vo os k):=by
  rintro k c t fz ap t1 t2 t3 (rfl|e)
  .rw[hk]at ap;simp at ap;exact t1 ap.2.1.symm
  .exact a2.lK ap t2 t3 e
 have ag:∀W,jI (λk=>k=kb\/Own nb vo os k) w W->W.heap[b2]? =M (aG #[ptr kb] 71 (0,0))/\W.heap[b4]? =M (aG #[N ab n] 3 (0,0))/\W.heap[C]? =M (aG vs 106 (0,0))/\∀v l,zC w v l->zC W v l:=λW hc=>⟨(hc.block _ (jE h2) (E _ _ _ _ h2 aB aB aB)).trans h2,(hc.block _ (jE h4) (E _ _ _ _ h4 aB aB aB)).trans h4,(hc.block _ (jE hC) (E _ _ _ _ hC aB aB aB)).trans hC,λv l h=>h.imp id (λ⟨g,cap,dx,e,q1,q2⟩=>⟨g,cap,dx,e,(hc.block g (jE q1) (E _ _ _ _ q1 aB aB aB)).trans q1,q2⟩)⟩
 have I:cH _:=jy cw (jy ag (jy ak (jy b9 (jy aw (jy hQ (jy h6 (jy h8 au)))))));have H9:cH (cs[9]? =M vo):=h9;clear cw ag ak b9 aw hQ h6 h8 au h2 h4 hk h9 a2 hC ay E;simp only[takeB,Tryz.f31];go_wp2_with fail;go_loopg [46] m (λgg t wr=>∃(i:Nat)(af:X)(Y:AL)(R:List PC),i<=m/\t=N ab i/\gg=m-i/\cH (BI kb nb w cs vo os ((lT fs i).foldl (Dv.frame most n) (lives nm os)) (lT fs i).length wr af Y R))
 case atStart=>exact⟨0,vo,nm,os,dL _,rfl,rfl,I.out.1⟩
 case round=>
  obtain⟨i,af,Y,R,hi,rfl,rfl,HI⟩:=hrel;by_cases a0:i<m
  .have c6:(i:Int)<m:=by omega
   obtain⟨v,hv,a3⟩:=I.out.2.2.1 i a0;obtain⟨va,vc,a4⟩:=a3.slice;have hk:=I.out.2.1 wr HI.out.jM;have cC:wr.cell? ⟨C,i,Z⟩=M (.slice va (fs i).length vc):=by rw[aI hk.2.2.1,hv,a4]
   have au:=I.out.2.2.2.2.2.2.2.2 i;obtain⟨X1,hN⟩:∃X1,(fs i).length=X1:=⟨_,rfl⟩
   rw[hN]at cC au;have HN:cH _:=jy hN (jy a3 a4);clear hv a3 a4 hk hN;go_wp2_with fail;go_loopg [52] X1 (λgg t wx=>∃(j:Nat)(z:X)(av:AL)(an:List PC),j<=X1/\t=N ab j/\gg=X1-j/\cH (BI kb nb w cs vo os ((lT fs i++(fs i).take j).foldl (Dv.frame most n) (lives nm os)) (lT fs i++(fs i).take j).length wx z av an))
   case atStart=>exact⟨0,af,Y,R,dL _,rfl,rfl,by rw[List.take_zero,gI];exact HI⟩
   case round=>
    rename_i fh;obtain⟨j,z,av,an,hj,rfl,rfl,HJ⟩:=hrel;by_cases eh:j<X1
    .have dj:(j:Int)<X1:=by omega
     obtain⟨f,hf⟩:∃f,(fs i)[j]? =M f:=⟨_,aO (by rw[HN.out.1];exact eh)⟩
     have hk:=I.out.2.1 wr HJ.out.jM;obtain⟨g,cap,e,k0,k1,k2,k3⟩:=(hk.2.2.2 v (fs i) HN.out.2.1).at hf;rw[HN.out.2.2]at e;simp only[dT,true_and]at e;obtain⟨rfl,rfl⟩:=e;obtain⟨DB,b7⟩:∃DB:ByteArray,(⟨f.data.toArray⟩:ByteArray)=DB:=⟨_,rfl⟩
     rw[b7]at k2;obtain⟨Wd,hX,de,ah⟩:=jD wr #[N eA f.chan,N lB f.num,bB DB,.bool f.last] 109;have aq:↑wr<Wd.heap.size:=(jE ah)
     have aj:=HJ.out.below de;have ac:=I.out.2.1 Wd aj.jM
     have ai:an.length<=4294967295:=by
      have q1:=HJ.out.len;have q2:=I.out.2.2.2.2.1;have q3:=Xb fs (show i+1<=m from a0);rw[wM,aS]at q3;rw[aS,bK]at q1;omega
     have bw:=I.out.2.2.2.1 i f a0 (aX hf);have cc:(cs.setIfInBounds 9 z)[8]? =M (.map (M nb)):=by rw[aV];simpa using I.out.2.2.2.2.2.2.2.1
     have dg:(cs.setIfInBounds 9 z)[6]? =M (N ab most):=by rw[aV];simpa using I.out.2.2.2.2.2.2.1
     have b5:(cs.setIfInBounds 9 z)[9]? =M z:=by
      obtain⟨dw,_⟩:=dY.1 H9.out;rw[aV];simp[dw]
     have hS:∀V,Below ↑Wd Wd V->V.cell? ⟨b2,0,Z⟩=M (aD (M ⟨kb,0,Z⟩))/\V.cell? ⟨b4,0,Z⟩=M (N ab n)/\V.cell? ⟨kb,6,Z⟩=M (N ab most)/\V.cell? ⟨↑wr,0,Z⟩=M (N eA f.chan)/\V.cell? ⟨↑wr,1,Z⟩=M (N lB f.num)/\V.cell? ⟨↑wr,2,Z⟩=M (bB DB)/\V.cell? ⟨↑wr,3,Z⟩=M (.bool f.last):=λV hV=>by
      have q2:=(hV.block _ (jE ac.1)).trans ac.1;have q4:=(hV.block _ (jE ac.2.1)).trans ac.2.1;have qk:=(hV.block _ (jE aj.obj)).trans aj.obj;have qo:=(hV.block _ aq).trans ah;exact⟨by rw[aI q2];rfl,by rw[aI q4];rfl,by rw[aI qk];exact dg,by rw[aI qo];rfl,by rw[aI qo];rfl,by rw[aI qo];rfl,by rw[aI qo];rfl⟩
     have aa:∀V,Below ↑Wd Wd V->dE PQ 51 #[aD (M ⟨kb,8,Z⟩),fX #[N eA f.chan,N lB f.num,bB DB,.bool f.last],N ab n,N ab most] V λe w'=>e=bO (cQ #[])/\(w'.cell? ⟨b2,0,Z⟩=M (aD (M ⟨kb,0,Z⟩))/\w'.cell? ⟨b4,0,Z⟩=M (N ab n)/\w'.cell? ⟨kb,6,Z⟩=M (N ab most)/\w'.cell? ⟨↑wr,0,Z⟩=M (N eA f.chan)/\w'.cell? ⟨↑wr,1,Z⟩=M (N lB f.num)/\w'.cell? ⟨↑wr,2,Z⟩=M (bB DB)/\w'.cell? ⟨↑wr,3,Z⟩=M (.bool f.last))/\cH (∃ae ao am,BI kb nb w cs vo os ((lT fs i++(fs i).take (j+1)).foldl (Dv.frame most n) (lives nm os)) (lT fs i++(fs i).take (j+1)).length w' ae ao am):=λV hV=>by
      have J:=aj.below hV;have ht:=take_any kb nb (cs.setIfInBounds 9 z) z av an f n most V J.obj cc b5 J.chs ai bw ee;unfold Jw at ht;rw[b7]at ht;refine ht.mono ?_;rintro e w' ⟨rfl,ae,ao,am,c3,ec⟩
      have az:=J.took c3 (l':=(lT fs i++(fs i).take (j+1)).foldl (Dv.frame most n) (lives nm os)) (by
       rw[ec,J.lives,take_snoc hf];simp only[List.foldl_append,List.foldl_cons,List.foldl_nil])
      have cx:=I.out.2.1 w' az.jM
      have qo:w'.heap[wr.heap.size]? =_:=(c3.jM.block ↑wr (aP aq hV.size) (by
       have qV:=(hV.block _ aq).trans ah;rintro(e|e)
       .have:=J.obj;rw[<-e,qV]at this;simp at this
       .exact J.chs.lK qV aB aB e)).trans ((hV.block _ aq).trans ah)
      refine⟨rfl,⟨by rw[aI cx.1];rfl,by rw[aI cx.2.1];rfl,?_,by rw[aI qo];rfl,by rw[aI qo];rfl,by rw[aI qo];rfl,by rw[aI qo];rfl⟩,ae,ao,am,?_⟩
      .rw[aI az.obj,aV];simpa using I.out.2.2.2.2.2.2.1
      .have e0:(lT fs i++(fs i).take (j+1)).length=(lT fs i++(fs i).take j).length+1:=by
        rw[take_snoc hf];simp only[aS,iF];omega
       rw[e0];exact az
     have HS:cH _:=hS;have a1:cH _:=aa;clear hS aa bw ai aj ac ah de hk cc dg b5;go_upto_region 10 with fail;rw[<-hX];clear hX k0 k1 k2 k3;have ar:=aJ ↑Wd Wd;go_region_held3 (λV=>V.cell? ⟨b2,0,Z⟩=M (aD (M ⟨kb,0,Z⟩))/\V.cell? ⟨b4,0,Z⟩=M (N ab n)/\V.cell? ⟨kb,6,Z⟩=M (N ab most)/\V.cell? ⟨↑wr,0,Z⟩=M (N eA f.chan)/\V.cell? ⟨↑wr,1,Z⟩=M (N lB f.num)/\V.cell? ⟨↑wr,2,Z⟩=M (bB DB)/\V.cell? ⟨↑wr,3,Z⟩=M (.bool f.last)) (first|exact dz|(refine HS.out _ ?_;first|exact ar|exact ar.drew)) (first|(go_at_call 51;(refine aT (a1.out _ ?_) ?_;(first|exact ar.drew|exact ar);rintro e5 w5 ⟨rfl,dz,H5⟩)))
     all_goals
      go_wp2_with fail;go_roundg (X1-(j+1))
      case measure=>omega
      case rel=>
       obtain⟨ae,ao,am,h3⟩:=H5.out;exact⟨j+1,ae,ao,am,aA,by go_num,rfl,h3⟩
    .have dj:¬(j:Int)<X1:=by omega
     obtain rfl:j=X1:=aA
     go_wp2_with fail;go_roundg (m-(i+1))
     case measure=>omega
     case rel=>
      refine⟨i+1,z,av,an,aA,by go_num,rfl,?_⟩;have q:=HJ;rw[eH (by rw[HN.out.1];exact jB),<-wM]at q;exact q
  .have c6:¬(i:Int)<m:=by omega
   obtain rfl:i=m:=aA
   go_wp2_with fail;exact I.out.2.2.2.2.2.1 _ _ _ _ _ _ _ _ _ _ _ _ _ _ _ _ _ _ _ _ _ _ _ _ _ _ _ _ _ HI.out
open Dv (X2 Cf Ba)
section
variable {v:X}{a:Act}{d k:Nat}
noncomputable def ops2:Array ij:=match Tryz.f31.body with
 |some (bR _ (bR _ (bR (.region _ ops _) _)))=>ops
 |_=>#[]
def ad8:∀q0 q1 q2 q3 q4 q5 q6 q7 q8 q9 q10 q11:Bool,fR .any ops2 #[q0,q1,q2,q3,q4,q5,q6,q7,q8,q9,q10,q11]=[]->q11=aR:=by decide+kernel
def MJ(q0 q1 q2 q3 q4 q5 q6 q7 q8 q9 q10 q11:Bool)(i:Nat):Bool:=decide (i<12/\(i=2->q1=aR)/\(i=3->q2=aR)/\(i=4->q3=aR/\q4=aL)/\(i=6->q5=aR/\q6=aL)/\(i=7->q6=aR/\q7=aL)/\(i=8->q4=aR/\q7=aR/\q8=aL)/\(i=9->q0=aR)/\(i=10->q9=aR)/\(i=11->q10=aR/\q8=aR/\q11=aL))
def Au:∀q2 q3 q4 q5 q6 q7 q8 q9 q10 q11:Bool,(fR .any ops2 #[aR,aR,q2,q3,q4,q5,q6,q7,q8,q9,q10,q11]).all (MJ aR aR q2 q3 q4 q5 q6 q7 q8 q9 q10 q11)=aR:=by decide+kernel
def yU:∀q2 q3 q4 q5 q6 q7 q8 q9 q10 q11:Bool,(fR .any ops2 #[aR,aL,q2,q3,q4,q5,q6,q7,q8,q9,q10,q11]).all (MJ aR aL q2 q3 q4 q5 q6 q7 q8 q9 q10 q11)=aR:=by decide+kernel
def yj:∀q2 q3 q4 q5 q6 q7 q8 q9 q10 q11:Bool,(fR .any ops2 #[aL,aR,q2,q3,q4,q5,q6,q7,q8,q9,q10,q11]).all (MJ aL aR q2 q3 q4 q5 q6 q7 q8 q9 q10 q11)=aR:=by decide+kernel
def xP:∀q2 q3 q4 q5 q6 q7 q8 q9 q10 q11:Bool,(fR .any ops2 #[aL,aL,q2,q3,q4,q5,q6,q7,q8,q9,q10,q11]).all (MJ aL aL q2 q3 q4 q5 q6 q7 q8 q9 q10 q11)=aR:=by decide+kernel
def afC:∀q0 q1 q2 q3 q4 q5 q6 q7 q8 q9 q10 q11:Bool,(fR .any ops2 #[q0,q1,q2,q3,q4,q5,q6,q7,q8,q9,q10,q11]).all (MJ q0 q1 q2 q3 q4 q5 q6 q7 q8 q9 q10 q11)=aR
 |true,aR=>Au
 |true,aL=>yU
 |false,aR=>yj
 |false,aL=>xP
section
variable {n:Nat}{P:Program}{ops:Array ij}{Q:p9->Act->U->Prop}{i:Nat}{o:ij}{K:Act->U->Prop}{a:Act}{w w':U}
def lN(ho:ops[i]? =M o)(E:o.guard=Z)(I:(bN a.eval o).run P w=.ok (.value v) w')(z:K (a.put o.dst v) w'):wpOpIn gP n P ops Q i K a w:=by unfold wpOpIn;rw[ho];dsimp only;rw[ZD (by simp[cP,E])];refine⟨λ_ _=>trivial,?_⟩;rw[show Oper.semAt Fence.wide.round a.eval o=bN a.eval o from rfl,I];exact z
def Ii(ho:ops[i]? =M o)(E:o.guard=Z)(I:(bN a.eval o).run P w=.ok .skip w')(z:K (a.put o.dst aE) w'):wpOpIn gP n P ops Q i K a w:=by unfold wpOpIn;rw[ho];dsimp only;rw[ZD (by simp[cP,E])];refine⟨λ_ _=>trivial,?_⟩;rw[show Oper.semAt Fence.wide.round a.eval o=bN a.eval o from rfl,I];exact z
def Hg{f:FuncId}{args:Array X}{R:Ending->U->Prop}(ho:ops[i]? =M o)(I:o.guard=Z)(E:(bN a.eval o).run P w=.ok (.enter f args) w)(hc:dE P f args w R)(z:∀e w',R e w'->∃v,e=bO v/\K (a.put o.dst v) w'):wpOpIn gP n P ops Q i K a w:=by unfold wpOpIn;rw[ho];dsimp only;rw[ZD (by simp[cP,I])];refine⟨λ_ _=>trivial,?_⟩;rw[show Oper.semAt Fence.wide.round a.eval o=bN a.eval o from rfl,E];refine⟨λh=>by simp[gP]at h,(gO.2 hc).mono ?_⟩;intro e w' h;obtain⟨v,rfl,hk⟩:=z e w' h;exact hk
end
def jC{u:X}(z:d≠k)(h:a.tmps[k]? =M u):(a.put (M d) v).tmps[k]? =M u:=by rw[I9,Zs z];exact h
def uH(hd:d<a.tmps.size):(a.put (M d) v).tmps[d]? =M v:=by rw[I9,ZD rfl,ZD hd]
def mP:(a.put (M d) v).tmps.size=a.tmps.size:=by unfold Act.put;simp
def Oc:(PQ.info? 102).map (λi=>(i.zero,i.size,i.bytes))=M (M (fX #[N ab 0,N ab 0,aH Z 0 0]),3,40):=XN
structure UB(W:U)(b2 b3 b4 kb n:Nat)(vu:X)(xs:List X)(u:X2)(ta:Option eM)(tn tc:Nat)(la:Option eM)(ln lc:Nat)(cs:Array X):Prop where
 h2:W.heap[b2]? =M (aG #[ptr kb] 71 (0,0))
 h3:W.heap[b3]? =M (aG #[N ab u.id,N ab u.time,.slice ta tn tc,.slice la ln lc] 28 (0,0))
 hk:W.heap[kb]? =M (aG cs 100 (0,0))
 hw:cs[7]? =M vu
 row:Row W 102 3 vu n xs
 len:n<4294967296
 up:kW W u (.slice ta tn tc) (.slice la ln lc)
 logs:∀x,x∈u.logs->x.length<=16777216
 heads:lJ W
structure UR(W:U)(b2 b3 b4 kb n:Nat)(vu:X)(xs:List X)(u:X2)(ta:Option eM)(tn tc:Nat)(la:Option eM)(ln lc:Nat)(q0 q1 q2 q3 q4 q5 q6 q7 q8 q9 q10 q11:Bool)(a:Act)(w:U):Prop where
 sz:a.tmps.size=93
 t2:a.tmps[2]? =M (ptr b2)
 t3:a.tmps[3]? =M (ptr b3)
 t4:a.tmps[4]? =M (ptr b4)
 s0:q0=aR->a.tmps[16]? =M (ptr kb)
 s1:q1=aR->a.tmps[17]? =M (ptr kb)
 s2:q2=aR->a.tmps[18]? =M (ptr kb)
 s3:q3=aR->a.tmps[19]? =M (aD (M ⟨kb,7,Z⟩))
 s4:q4=aR->a.tmps[20]? =M (vu)
 s5:q5=aR->a.tmps[21]? =M (Ku u (.slice ta tn tc) (.slice la ln lc))
 s9:q9=aR->a.tmps[25]? =M (ptr kb)
 s10:q10=aR->a.tmps[26]? =M (aD (M ⟨kb,7,Z⟩))
 wA:q6=aL->w=W
 wB:q6=aR->q7=aL->∃da dc,Below ↑W W w/\Made w ↑W (.slice da (Dv.jR u).length dc) (Dv.jR u)/\a.tmps[22]? =M (fX #[N ab u.id,N ab u.time,.slice da (Dv.jR u).length dc])
 wC:q7=aR->q8=aL->∃da dc w6,Below ↑W W w6/\Made w6 ↑W (.slice da (Dv.jR u).length dc) (Dv.jR u)/\w=w6.alloc (aG #[N ab u.id,N ab u.time,.slice da (Dv.jR u).length dc] 102)/\a.tmps[23]? =M (aH (M ⟨↑w6,0,Z⟩) 1 1)
 wD:q8=aR->∃da dc w6 g off cap w1,Below ↑W W w6/\Made w6 ↑W (.slice da (Dv.jR u).length dc) (Dv.jR u)/\Row w1 102 3 (aH (M ⟨g,off,Z⟩) (n+1) cap) (n+1) (xs++[N ab u.id,N ab u.time,.slice da (Dv.jR u).length dc])/\Grew vu g (w6.alloc (aG #[N ab u.id,N ab u.time,.slice da (Dv.jR u).length dc] 102)) w1/\a.tmps[24]? =M (aH (M ⟨g,off,Z⟩) (n+1) cap)/\w=if q11=aR then w1.setCell ⟨kb,7,Z⟩ (aH (M ⟨g,off,Z⟩) (n+1) cap)else w1
 c7:q7=aR->q6=aR
 c8:q8=aR->q4=aR/\q7=aR
 c11:q11=aR->q8=aR
section
variable {W:U}{b2 b3 b4 kb n:Nat}{vu:X}{xs:List X}{u:X2}{ta:Option eM}{tn tc:Nat}{la:Option eM}{ln lc:Nat}{cs:Array X}{q0 q1 q2 q3 q4 q5 q6 q7 q8 q9 q10 q11:Bool}{a:Act}{w:U}
def UB.low(hB:UB W b2 b3 b4 kb n vu xs u ta tn tc la ln lc cs)(h:UR W b2 b3 b4 kb n vu xs u ta tn tc la ln lc q0 q1 q2 q3 q4 q5 q6 q7 q8 q9 q10 q11 a w){c:Array X}{t:Nat}{R:Nat×Nat}(hk:W.heap[k]? =M (aG c t R))(E:t≠100\/q8=aL)(h2:t≠102):w.heap[k]? =M (aG c t R):=by
 have I:=(jE hk)
 cases h6:q6 with
 |false=>rw[h.wA h6];exact hk
 |true=>
  cases Y:q7 with
  |false=>
   obtain⟨da,dc,z,_⟩:=h.wB h6 Y;exact(z.block k I).trans hk
  |true=>
   cases J:q8 with
   |false=>
    obtain⟨da,dc,w6,z,_,hw,_⟩:=h.wC Y J;rw[hw];exact(aZ _ _ _ (aP I z.size)).trans ((z.block k I).trans hk)
   |true=>
    obtain⟨da,dc,w6,g,off,cap,w1,z,_,hr,hg,_,hw⟩:=h.wD J;have h3:=hg.keep ((hB.row.below z).below ((aJ _ w6).alloc jB _)) ((aZ _ _ _ (aP I z.size)).trans ((z.block k I).trans hk)) h2;rw[hw];split
    .refine(aW _ _ _ _ (λe=>?_)).trans h3;obtain E|E:=E
     .have e:k=kb:=e;rw[e,hB.hk]at hk;simp at hk;exact E hk.2.1.symm
     .rw[J]at E;cases E
    .exact h3
def aaU{m:Nat}{Q:p9->Act->U->Prop}(hB:UB W b2 b3 b4 kb n vu xs u ta tn tc la ln lc cs)(an:a.tmps.size=93)(aq:a.tmps[2]? =M (ptr b2))(ar:a.tmps[3]? =M (ptr b3))(av:a.tmps[4]? =M (ptr b4))(hQ:∀a' da dc w6 g off cap w1,a'.tmps.size=93->a'.tmps[2]? =M (ptr b2)->a'.tmps[3]? =M (ptr b3)->a'.tmps[4]? =M (ptr b4)->a'.defers=a.defers->Below ↑W W w6->Made w6 ↑W (.slice da (Dv.jR u).length dc) (Dv.jR u)->Row w1 102 3 (aH (M ⟨g,off,Z⟩) (n+1) cap) (n+1) (xs++[N ab u.id,N ab u.time,.slice da (Dv.jR u).length dc])->Grew vu g (w6.alloc (aG #[N ab u.id,N ab u.time,.slice da (Dv.jR u).length dc] 102)) w1->Q .normal a' (w1.setCell ⟨kb,7,Z⟩ (aH (M ⟨g,off,Z⟩) (n+1) cap))):wpAnyIn gP m PQ .any ops2 Q 12 (Array.replicate 12 aL) a W:=by
 obtain⟨i0,hi,ao,au,ap⟩:=pa Oc;obtain⟨af,ag,ah⟩:=hB.row.slice;refine uJ (λL a' w=>a'.defers=a.defers/\∃q0 q1 q2 q3 q4 q5 q6 q7 q8 q9 q10 q11,L=#[q0,q1,q2,q3,q4,q5,q6,q7,q8,q9,q10,q11]/\UR W b2 b3 b4 kb n vu xs u ta tn tc la ln lc q0 q1 q2 q3 q4 q5 q6 q7 q8 q9 q10 q11 a' w) ?_ ?_ 12 _ a W aB ⟨rfl,aL,aL,aL,aL,aL,aL,aL,aL,aL,aL,aL,aL,rfl,?_⟩
 .rintro L a' w ⟨Y,q0,q1,q2,q3,q4,q5,q6,q7,q8,q9,q10,q11,rfl,h⟩ hr;have ac:=ad8 q0 q1 q2 q3 q4 q5 q6 q7 q8 q9 q10 q11 hr;obtain⟨da,dc,w6,g,off,cap,w1,h1,h2,h3,h4,h5,h6⟩:=h.wD (h.c11 ac);rw[h6,ZD ac];exact hQ _ _ _ _ _ _ _ _ h.sz h.t2 h.t3 h.t4 Y h1 h2 h3 h4
 .rintro L a' w i ⟨Y,q0,q1,q2,q3,q4,q5,q6,q7,q8,q9,q10,q11,rfl,h⟩ hr;have hn:=Z2 (fF.1 (afC q0 q1 q2 q3 q4 q5 q6 q7 q8 q9 q10 q11) i hr);have h2:=hB.low h hB.h2 (bE aB) aB;have h3:=hB.low h hB.h3 (bE aB) aB;obtain⟨ak,d2,d3,d4,d6,d7,d8,d9,ay,aa⟩:=hn
  match i,ak with
  |0,_=>
   obtain⟨o,ho,I,z,hg⟩:∃o,ops2[0]? =M o/\o.op=.load 71 (cN 2)/\o.dst=M 16/\o.guard=Z:=⟨_,rfl,rfl,rfl,rfl⟩
   have hc:=kJ h2;unfold ptr at hc
   refine lN (v:=aD (M ⟨kb,0,Z⟩)) (w':=w) ho hg (by
    unfold bN;simp only[I,kD h.t2,ptr];simp[go_sem,hc]) ?_
   rw[z];exact⟨Y,aR,q1,q2,q3,q4,q5,q6,q7,q8,q9,q10,q11,rfl,⟨by rw[mP];exact h.sz,jC aB h.t2,jC aB h.t3,jC aB h.t4,λ_=>uH (d:=16) (by rw[h.sz];decide),λe=>jC aB (h.s1 e),λe=>jC aB (h.s2 e),λe=>jC aB (h.s3 e),λe=>jC aB (h.s4 e),λe=>jC aB (h.s5 e),λe=>jC aB (h.s9 e),λe=>jC aB (h.s10 e),h.wA,λe R=>(by obtain⟨da,dc,r1,r2,E⟩:=h.wB e R;exact⟨da,dc,r1,r2,jC aB E⟩),λe R=>(by obtain⟨da,dc,w6,r1,r2,E,J⟩:=h.wC e R;exact⟨da,dc,w6,r1,r2,E,jC aB J⟩),λe=>(by obtain⟨da,dc,w6,g,off,cap,w1,r1,r2,E,J,r5,r6⟩:=h.wD e;exact⟨da,dc,w6,g,off,cap,w1,r1,r2,E,J,jC aB r5,r6⟩),h.c7,h.c8,h.c11⟩⟩
  |1,_=>
   obtain⟨o,ho,I,z,hg⟩:∃o,ops2[1]? =M o/\o.op=.load 71 (cN 2)/\o.dst=M 17/\o.guard=Z:=⟨_,rfl,rfl,rfl,rfl⟩
   have hc:=kJ h2;unfold ptr at hc
   refine lN (v:=aD (M ⟨kb,0,Z⟩)) (w':=w) ho hg (by
    unfold bN;simp only[I,kD h.t2,ptr];simp[go_sem,hc]) ?_
   rw[z];exact⟨Y,q0,aR,q2,q3,q4,q5,q6,q7,q8,q9,q10,q11,rfl,⟨by rw[mP];exact h.sz,jC aB h.t2,jC aB h.t3,jC aB h.t4,λe=>jC aB (h.s0 e),λ_=>uH (d:=17) (by rw[h.sz];decide),λe=>jC aB (h.s2 e),λe=>jC aB (h.s3 e),λe=>jC aB (h.s4 e),λe=>jC aB (h.s5 e),λe=>jC aB (h.s9 e),λe=>jC aB (h.s10 e),h.wA,λe R=>(by obtain⟨da,dc,r1,r2,E⟩:=h.wB e R;exact⟨da,dc,r1,r2,jC aB E⟩),λe R=>(by obtain⟨da,dc,w6,r1,r2,E,J⟩:=h.wC e R;exact⟨da,dc,w6,r1,r2,E,jC aB J⟩),λe=>(by obtain⟨da,dc,w6,g,off,cap,w1,r1,r2,E,J,r5,r6⟩:=h.wD e;exact⟨da,dc,w6,g,off,cap,w1,r1,r2,E,J,jC aB r5,r6⟩),h.c7,h.c8,h.c11⟩⟩
  |2,_=>
   obtain⟨o,ho,I,z,hg⟩:∃o,ops2[2]? =M o/\o.op=.nilCheck (cN 17)/\o.dst=M 18/\o.guard=Z:=⟨_,rfl,rfl,rfl,rfl⟩
   refine lN (v:=aD (M ⟨kb,0,Z⟩)) (w':=w) ho hg (by
    unfold bN;simp only[I,kD (h.s1 (d2 rfl)),ptr];simp[go_sem]) ?_
   rw[z];exact⟨Y,q0,q1,aR,q3,q4,q5,q6,q7,q8,q9,q10,q11,rfl,⟨by rw[mP];exact h.sz,jC aB h.t2,jC aB h.t3,jC aB h.t4,λe=>jC aB (h.s0 e),λe=>jC aB (h.s1 e),λ_=>uH (d:=18) (by rw[h.sz];decide),λe=>jC aB (h.s3 e),λe=>jC aB (h.s4 e),λe=>jC aB (h.s5 e),λe=>jC aB (h.s9 e),λe=>jC aB (h.s10 e),h.wA,λe R=>(by obtain⟨da,dc,r1,r2,E⟩:=h.wB e R;exact⟨da,dc,r1,r2,jC aB E⟩),λe R=>(by obtain⟨da,dc,w6,r1,r2,E,J⟩:=h.wC e R;exact⟨da,dc,w6,r1,r2,E,jC aB J⟩),λe=>(by obtain⟨da,dc,w6,g,off,cap,w1,r1,r2,E,J,r5,r6⟩:=h.wD e;exact⟨da,dc,w6,g,off,cap,w1,r1,r2,E,J,jC aB r5,r6⟩),h.c7,h.c8,h.c11⟩⟩
  |3,_=>
   obtain⟨o,ho,I,z,hg⟩:∃o,ops2[3]? =M o/\o.op=.fieldAddr 100 (cN 18) 1/\o.dst=M 19/\o.guard=Z:=⟨_,rfl,rfl,rfl,rfl⟩
   refine lN (v:=aD (M ⟨kb,7,Z⟩)) (w':=w) ho hg (by
    unfold bN;simp only[I,kD (h.s2 (d3 rfl)),ptr];simp[go_sem]) ?_
   rw[z];exact⟨Y,q0,q1,q2,aR,q4,q5,q6,q7,q8,q9,q10,q11,rfl,⟨by rw[mP];exact h.sz,jC aB h.t2,jC aB h.t3,jC aB h.t4,λe=>jC aB (h.s0 e),λe=>jC aB (h.s1 e),λe=>jC aB (h.s2 e),λ_=>uH (d:=19) (by rw[h.sz];decide),λe=>jC aB (h.s4 e),λe=>jC aB (h.s5 e),λe=>jC aB (h.s9 e),λe=>jC aB (h.s10 e),h.wA,λe R=>(by obtain⟨da,dc,r1,r2,E⟩:=h.wB e R;exact⟨da,dc,r1,r2,jC aB E⟩),λe R=>(by obtain⟨da,dc,w6,r1,r2,E,J⟩:=h.wC e R;exact⟨da,dc,w6,r1,r2,E,jC aB J⟩),λe=>(by obtain⟨da,dc,w6,g,off,cap,w1,r1,r2,E,J,r5,r6⟩:=h.wD e;exact⟨da,dc,w6,g,off,cap,w1,r1,r2,E,J,jC aB r5,r6⟩),h.c7,h.c8,h.c11⟩⟩
  |4,_=>
   obtain⟨o,ho,I,z,hg⟩:∃o,ops2[4]? =M o/\o.op=.load 97 (cN 19)/\o.dst=M 20/\o.guard=Z:=⟨_,rfl,rfl,rfl,rfl⟩
   have h8:q8=aL:=by
    cases h8:q8 with
    |false=>rfl
    |true=>have:=(h.c8 h8).1;rw[(d4 rfl).2]at this;cases this
   have ae:=hB.low h hB.hk (cD h8) aB;have hc:w.cell? ⟨kb,7,Z⟩=M (.slice af n ag):=by rw[aI ae,hB.hw,ah]
   refine lN (v:=.slice af n ag) (w':=w) ho hg (by
    unfold bN;simp only[I,kD (h.s3 (d4 rfl).1)];simp[go_sem,hc]) ?_
   rw[z];exact⟨Y,q0,q1,q2,q3,aR,q5,q6,q7,q8,q9,q10,q11,rfl,⟨by rw[mP];exact h.sz,jC aB h.t2,jC aB h.t3,jC aB h.t4,λe=>jC aB (h.s0 e),λe=>jC aB (h.s1 e),λe=>jC aB (h.s2 e),λe=>jC aB (h.s3 e),λ_=>(by rw[ah];exact uH (d:=20) (by rw[h.sz];decide)),λe=>jC aB (h.s5 e),λe=>jC aB (h.s9 e),λe=>jC aB (h.s10 e),h.wA,λe R=>(by obtain⟨da,dc,r1,r2,E⟩:=h.wB e R;exact⟨da,dc,r1,r2,jC aB E⟩),λe R=>(by obtain⟨da,dc,w6,r1,r2,E,J⟩:=h.wC e R;exact⟨da,dc,w6,r1,r2,E,jC aB J⟩),λe=>(by obtain⟨da,dc,w6,g,off,cap,w1,r1,r2,E,J,r5,r6⟩:=h.wD e;exact⟨da,dc,w6,g,off,cap,w1,r1,r2,E,J,jC aB r5,r6⟩),h.c7,λe=>⟨rfl,(h.c8 e).2⟩,h.c11⟩⟩
  |5,_=>
   obtain⟨o,ho,I,z,hg⟩:∃o,ops2[5]? =M o/\o.op=.load 28 (cN 3)/\o.dst=M 21/\o.guard=Z:=⟨_,rfl,rfl,rfl,rfl⟩
   obtain⟨c0,c1,c2,c3⟩:=cells4 h3
   refine lN (v:=fX #[N ab u.id,N ab u.time,.slice ta tn tc,.slice la ln lc]) (w':=w) ho hg (by
    unfold bN;simp only[I,kD h.t3,ptr];simp[go_sem,c0,c1,c2,c3]) ?_
   rw[z];exact⟨Y,q0,q1,q2,q3,q4,aR,q6,q7,q8,q9,q10,q11,rfl,⟨by rw[mP];exact h.sz,jC aB h.t2,jC aB h.t3,jC aB h.t4,λe=>jC aB (h.s0 e),λe=>jC aB (h.s1 e),λe=>jC aB (h.s2 e),λe=>jC aB (h.s3 e),λe=>jC aB (h.s4 e),λ_=>uH (d:=21) (by rw[h.sz];decide),λe=>jC aB (h.s9 e),λe=>jC aB (h.s10 e),h.wA,λe R=>(by obtain⟨da,dc,r1,r2,E⟩:=h.wB e R;exact⟨da,dc,r1,r2,jC aB E⟩),λe R=>(by obtain⟨da,dc,w6,r1,r2,E,J⟩:=h.wC e R;exact⟨da,dc,w6,r1,r2,E,jC aB J⟩),λe=>(by obtain⟨da,dc,w6,g,off,cap,w1,r1,r2,E,J,r5,r6⟩:=h.wD e;exact⟨da,dc,w6,g,off,cap,w1,r1,r2,E,J,jC aB r5,r6⟩),h.c7,h.c8,h.c11⟩⟩
  |6,_=>
   obtain⟨o,ho,I,z,hg⟩:∃o,ops2[6]? =M o/\o.op=.call { callee:=.value (.func 48),args:=#[cN 21],argTypes:=#[28] }/\o.dst=M 22/\o.guard=Z:=⟨_,rfl,rfl,rfl,rfl⟩
   have h7:q7=aL:=by
    cases h7:q7 with
    |false=>rfl
    |true=>have:=h.c7 h7;rw[(d6 rfl).2]at this;cases this
   have h8:q8=aL:=by
    cases h8:q8 with
    |false=>rfl
    |true=>have:=(h.c8 h8).2;rw[h7]at this;cases this
   have hw:=h.wA (d6 rfl).2;subst hw;have aj:=h.s5 (d6 rfl).1;unfold Ku at aj;have ai:=MB u w hB.up hB.logs hB.heads;unfold Ku at ai
   refine Hg (f:=48) (args:=#[.agg _]) ho hg (by
    unfold bN;simp only[I];simp[resolve,invoke,aj,Act.eval,go_sem]) ai ?_
   rintro e w' ⟨da,dc,rfl,hm,hb⟩;refine⟨_,rfl,?_⟩;rw[z];exact⟨Y,q0,q1,q2,q3,q4,q5,aR,q7,q8,q9,q10,q11,rfl,⟨by rw[mP];exact h.sz,jC aB h.t2,jC aB h.t3,jC aB h.t4,λe=>jC aB (h.s0 e),λe=>jC aB (h.s1 e),λe=>jC aB (h.s2 e),λe=>jC aB (h.s3 e),λe=>jC aB (h.s4 e),λe=>jC aB (h.s5 e),λe=>jC aB (h.s9 e),λe=>jC aB (h.s10 e),λe=>(by cases e),λ_ _=>⟨da,dc,hb,hm,uH (d:=22) (by rw[h.sz];decide)⟩,λe=>(by rw[h7]at e;cases e),λe=>(by rw[h8]at e;cases e),λ_=>rfl,h.c8,h.c11⟩⟩
  |7,_=>
   obtain⟨o,ho,I,z,hg⟩:∃o,ops2[7]? =M o/\o.op=.buildSlice 97 1 #[(0,cN 22)]/\o.dst=M 23/\o.guard=Z:=⟨_,rfl,rfl,rfl,rfl⟩
   obtain⟨da,dc,r1,r2,E⟩:=h.wB (d7 rfl).1 (d7 rfl).2
   have h8:q8=aL:=by
    cases h8:q8 with
    |false=>rfl
    |true=>have:=(h.c8 h8).2;rw[(d7 rfl).2]at this;cases this
   refine lN (v:=aH (M ⟨↑w,0,Z⟩) 1 1) (w':=w.alloc (aG #[N ab u.id,N ab u.time,.slice da (Dv.jR u).length dc] 102)) ho hg (by
    unfold bN;simp only[I];simp[go_sem,E]) ?_
   rw[z];exact⟨Y,q0,q1,q2,q3,q4,q5,q6,aR,q8,q9,q10,q11,rfl,⟨by rw[mP];exact h.sz,jC aB h.t2,jC aB h.t3,jC aB h.t4,λe=>jC aB (h.s0 e),λe=>jC aB (h.s1 e),λe=>jC aB (h.s2 e),λe=>jC aB (h.s3 e),λe=>jC aB (h.s4 e),λe=>jC aB (h.s5 e),λe=>jC aB (h.s9 e),λe=>jC aB (h.s10 e),λe=>(by rw[(d7 rfl).1]at e;cases e),λ_ e=>(by cases e),λ_ _=>⟨da,dc,w,r1,r2,rfl,uH (d:=23) (by rw[h.sz];decide)⟩,λe=>(by rw[h8]at e;cases e),λ_=>(d7 rfl).1,λe=>⟨(h.c8 e).1,rfl⟩,h.c11⟩⟩
  |8,_=>
   obtain⟨o,ho,I,z,hg⟩:∃o,ops2[8]? =M o/\o.op=.call { callee:=.builtin .append,args:=#[cN 20,cN 23],argTypes:=#[97,97] }/\o.dst=M 24/\o.guard=Z:=⟨_,rfl,rfl,rfl,rfl⟩
   obtain⟨da,dc,w6,r1,r2,E,J⟩:=h.wC (d8 rfl).2.1 (d8 rfl).2.2
   have ac:q11=aL:=by
    cases ac:q11 with
    |false=>rfl
    |true=>have:=h.c11 ac;rw[(d8 rfl).2.2]at this;cases this
   subst E;obtain⟨v',w1,hr,r5,⟨g,off,cap,rfl⟩,r6⟩:=((hB.row.below r1).below ((aJ _ w6).alloc jB (aG #[N ab u.id,N ab u.time,.slice da (Dv.jR u).length dc] 102))).append (P:=PQ) 97 o.type i0 _ 40 (uq Tryz.underlying97) hi ao au ap (by rfl) aB ⟨↑w6,0,Z⟩ 1 1 [N ab u.id,N ab u.time,.slice da (Dv.jR u).length dc] aB (by rfl) (by intro j u hj;match j,hj with|0,hj=>(simp at hj;subst hj;simp[jp])|1,hj=>(simp at hj;subst hj;simp[jp])|2,hj=>(simp at hj;subst hj;simp[jp])) (by intro u hu;simp at hu;rcases hu with rfl|rfl|rfl<;>rfl) (by have:=hB.len;unfold maxLen;omega) (by have:=hB.len;omega)
   have aw:Grew vu g (w6.alloc (aG #[N ab u.id,N ab u.time,.slice da (Dv.jR u).length dc] 102)) w1:=by
    obtain⟨e1,R,e3⟩|⟨e1,R,e3⟩:=r6
    .have am:vu.ownBlock=M g:=e1.symm;exact bE ⟨am,by rw[<-am];exact R,e3⟩
    .exact cD ⟨by simpa[cV]using e1,R,e3⟩
   refine lN (v:=aH (M ⟨g,off,Z⟩) (n+1) cap) (w':=w1) ho hg (by
    unfold bN;simp only[I];simp[resolve,invoke,builtin,kD (h.s4 (d8 rfl).1),kD J,hr,fS]) ?_
   rw[z];exact⟨Y,q0,q1,q2,q3,q4,q5,q6,q7,aR,q9,q10,q11,rfl,⟨by rw[mP];exact h.sz,jC aB h.t2,jC aB h.t3,jC aB h.t4,λe=>jC aB (h.s0 e),λe=>jC aB (h.s1 e),λe=>jC aB (h.s2 e),λe=>jC aB (h.s3 e),λe=>jC aB (h.s4 e),λe=>jC aB (h.s5 e),λe=>jC aB (h.s9 e),λe=>jC aB (h.s10 e),λe=>(by rw[h.c7 (d8 rfl).2.1]at e;cases e),λ_ e=>(by rw[(d8 rfl).2.1]at e;cases e),λ_ e=>(by cases e),λ_=>⟨da,dc,w6,g,off,cap,w1,r1,r2,r5,aw,uH (d:=24) (by rw[h.sz];decide),by rw[Zs (by rw[ac];simp)]⟩,h.c7,λ_=>⟨(d8 rfl).1,(d8 rfl).2.1⟩,λ_=>rfl⟩⟩
  |9,_=>
   obtain⟨o,ho,I,z,hg⟩:∃o,ops2[9]? =M o/\o.op=.nilCheck (cN 16)/\o.dst=M 25/\o.guard=Z:=⟨_,rfl,rfl,rfl,rfl⟩
   refine lN (v:=aD (M ⟨kb,0,Z⟩)) (w':=w) ho hg (by
    unfold bN;simp only[I,kD (h.s0 (d9 rfl)),ptr];simp[go_sem]) ?_
   rw[z];exact⟨Y,q0,q1,q2,q3,q4,q5,q6,q7,q8,aR,q10,q11,rfl,⟨by rw[mP];exact h.sz,jC aB h.t2,jC aB h.t3,jC aB h.t4,λe=>jC aB (h.s0 e),λe=>jC aB (h.s1 e),λe=>jC aB (h.s2 e),λe=>jC aB (h.s3 e),λe=>jC aB (h.s4 e),λe=>jC aB (h.s5 e),λ_=>uH (d:=25) (by rw[h.sz];decide),λe=>jC aB (h.s10 e),h.wA,λe R=>(by obtain⟨da,dc,r1,r2,E⟩:=h.wB e R;exact⟨da,dc,r1,r2,jC aB E⟩),λe R=>(by obtain⟨da,dc,w6,r1,r2,E,J⟩:=h.wC e R;exact⟨da,dc,w6,r1,r2,E,jC aB J⟩),λe=>(by obtain⟨da,dc,w6,g,off,cap,w1,r1,r2,E,J,r5,r6⟩:=h.wD e;exact⟨da,dc,w6,g,off,cap,w1,r1,r2,E,J,jC aB r5,r6⟩),h.c7,h.c8,h.c11⟩⟩
  |10,_=>
   obtain⟨o,ho,I,z,hg⟩:∃o,ops2[10]? =M o/\o.op=.fieldAddr 100 (cN 25) 1/\o.dst=M 26/\o.guard=Z:=⟨_,rfl,rfl,rfl,rfl⟩
   refine lN (v:=aD (M ⟨kb,7,Z⟩)) (w':=w) ho hg (by
    unfold bN;simp only[I,kD (h.s9 (ay rfl)),ptr];simp[go_sem]) ?_
   rw[z];exact⟨Y,q0,q1,q2,q3,q4,q5,q6,q7,q8,q9,aR,q11,rfl,⟨by rw[mP];exact h.sz,jC aB h.t2,jC aB h.t3,jC aB h.t4,λe=>jC aB (h.s0 e),λe=>jC aB (h.s1 e),λe=>jC aB (h.s2 e),λe=>jC aB (h.s3 e),λe=>jC aB (h.s4 e),λe=>jC aB (h.s5 e),λe=>jC aB (h.s9 e),λ_=>uH (d:=26) (by rw[h.sz];decide),h.wA,λe R=>(by obtain⟨da,dc,r1,r2,E⟩:=h.wB e R;exact⟨da,dc,r1,r2,jC aB E⟩),λe R=>(by obtain⟨da,dc,w6,r1,r2,E,J⟩:=h.wC e R;exact⟨da,dc,w6,r1,r2,E,jC aB J⟩),λe=>(by obtain⟨da,dc,w6,g,off,cap,w1,r1,r2,E,J,r5,r6⟩:=h.wD e;exact⟨da,dc,w6,g,off,cap,w1,r1,r2,E,J,jC aB r5,r6⟩),h.c7,h.c8,h.c11⟩⟩
  |11,_=>
   obtain⟨o,ho,I,z,hg⟩:∃o,ops2[11]? =M o/\o.op=.store 97 (cN 26) (cN 24)/\o.dst=Z/\o.guard=Z:=⟨_,rfl,rfl,rfl,rfl⟩
   obtain⟨da,dc,w6,g,off,cap,w1,r1,r2,E,J,r5,r6⟩:=h.wD (aa rfl).2.1;rw[Zs (by rw[(aa rfl).2.2];simp)]at r6;subst r6;have ae:=J.keep ((hB.row.below r1).below ((aJ _ w6).alloc jB _)) ((aZ _ _ _ (aP (jE hB.hk) r1.size)).trans ((r1.block _ (jE hB.hk)).trans hB.hk)) aB;have hc:w.cell? ⟨kb,7,Z⟩=M (.slice af n ag):=by rw[aI ae,hB.hw,ah]
   have hz:=aQ ae 7
   refine Ii (w':=w.setCell ⟨kb,7,Z⟩ (aH (M ⟨g,off,Z⟩) (n+1) cap)) ho hg (by
    unfold bN;simp only[I,kD (h.s10 (aa rfl).1),kD r5];simp[go_sem,stored,hc,hz]) ?_
   rw[z];have h7:=(h.c8 (aa rfl).2.1).2;exact⟨Y,q0,q1,q2,q3,q4,q5,q6,q7,q8,q9,q10,aR,rfl,⟨h.sz,h.t2,h.t3,h.t4,h.s0,h.s1,h.s2,h.s3,h.s4,h.s5,h.s9,h.s10,λe=>(by rw[h.c7 h7]at e;cases e),λ_ e=>(by rw[h7]at e;cases e),λ_ e=>(by rw[(aa rfl).2.1]at e;cases e),λ_=>⟨da,dc,w6,g,off,cap,w,r1,r2,E,J,r5,by rw[ZD rfl]⟩,h.c7,h.c8,λ_=>(aa rfl).2.1⟩⟩
 .exact⟨an,aq,ar,av,λe=>(by cases e),λe=>(by cases e),λe=>(by cases e),λe=>(by cases e),λe=>(by cases e),λe=>(by cases e),λe=>(by cases e),λe=>(by cases e),λ_=>rfl,λe=>(by cases e),λe=>(by cases e),λe=>(by cases e),λe=>(by cases e),λe=>(by cases e),λe=>(by cases e)⟩
end
end
open Dv (X2 Cf Ba Ch Tx)
open Fr (F)
section
variable {most:Int}{cs:List Ch}
def expired(c:Cf)(n:Nat)(cs:List Ch):cs.filter (λx=>!decide ((x.opened:Int)<n-c.timeout))=cs.filter (λx=>decide ((n:Int)-(x.opened:Int)<=c.timeout)):=by grind
def Bd{α:Type}:∀(l:List (List α))(fs:Nat->List α),(∀j x,l[j]? =M x->fs j=x)->(ir l.length).flatMap fs=l.flatten
 |[],_,_=>rfl
 |x::l,fs,h=>by
  have E:=Bd l (λj=>fs (j+1)) (λj y z=>h (j+1) y (by simpa using z));rw[aU,List.range_succ_eq_map,gY,List.flatMap_map,h 0 x aC,List.flatten_cons]
  congr 1
def MK(c:Cf)(txs:List Tx)(fs:Nat->List F)(z:∀j t,txs[j]? =M t->fs j=Dv.qP c t):lT fs txs.length=Dv.heard c txs:=by
 unfold lT Dv.heard
 have:=Bd (txs.map (Dv.qP c)) fs (λj x E=>by
  grind)
 grind
def Wu(c:Cf)(u:X2)(n:Nat)(cs:List Ch)(wait:List Ba)(fs:Nat->List F)(E:∀j t,u.txs[j]? =M t->fs j=Dv.qP c t)(l2:List Ch)(z:l2=(lT fs u.txs.length).foldl (Dv.frame c.most n) (cs.filter (λx=>!decide ((x.opened:Int)<n-c.timeout)))):Dv.take c u n cs wait=((Dv.pull l2).2,wait++(Dv.pull l2).1.flatMap (λs=>Dv.reads s n)):=by
 rw[z,MK c u.txs fs E,expired];rfl
def oN(x:F)(l:List F):Dv.size (x::l)=x.data.length+Dv.size l:=by simp[Dv.size]
def CZ(k:Nat):∀l:List F,Dv.size (l.filter (λx=>decide (x.num<k+1)))=Dv.size (l.filter (λx=>decide (x.num<k)))+Dv.size (l.filter (λx=>x.num == k))
 |[]=>rfl
 |x::l=>by
  have z:=CZ k l;by_cases E:x.num<k
  .have h2:x.num<k+1:=by omega
   have h3:(x.num == k)=aL:=aF
   simp only[eG,E,h2,h3,decide_true,if_true,bU,if_false,oN,z];omega
  .by_cases h2:x.num=k
   .have h3:(x.num == k)=aR:=by simp[h2]
    have h4:x.num<k+1:=aA
    simp only[eG,E,h4,h3,decide_true,decide_false,if_true,bU,if_false,oN,z];omega
   grind
def XG(k:Nat){d:List UInt8}:∀l:List F,Dv.has l k=M d->d.length<=Dv.size (l.filter (λx=>x.num == k))
 |[],h=>by simp[Dv.has]at h
 |x::l,h=>by
  by_cases z:(x.num == k)=aR
  .unfold Dv.has at h;rw[List.find?_cons_of_pos (by simpa using z)]at h;simp at h;rw[List.filter_cons_of_pos (by simpa using z),oN,<-h];omega
  .have E:=XG k (d:=d) l (by
    unfold Dv.has at h⊢
    grind)
   grind
def Ko(l:List F):∀(k:Nat)(s:List UInt8),Dv.rP l k=M s->s.length<=Dv.size (l.filter (λx=>decide (x.num<k)))
 |0,s,h=>by
  simp[Dv.rP]at h;rw[h];simp
 |k+1,s,h=>by
  rw[Dv.rP,pH]at h;obtain⟨s',z,h2⟩:=h;rw[bI]at h2;obtain⟨d,h3,rfl⟩:=h2;have E:=Ko l k s' z;have I:=XG k l h3;rw[CZ,aS];omega
def zS(p:F->Bool):∀l:List F,Dv.size (l.filter p)<=Dv.size l
 |[]=>jB
 |x::l=>by
  have z:=zS p l;rw[eG];split
  .rw[oN,oN];omega
  .rw[oN];omega
def Yz{l:List F}{s:List UInt8}(h:Dv.bytes l=M s):s.length<=Dv.size l:=by unfold Dv.bytes at h;rw[pH]at h;obtain⟨n,_,h⟩:=h;exact bH (Ko l _ s h) (zS _ l)
def Fits(most:Int)(cs:List Ch):Prop:=∀c,c∈cs->(Dv.size c.l:Int)<=most
def zH(z:0<=most){c:Ch}{f:F}(h:(Dv.size c.l:Int)<=most):(Dv.size (Dv.joined most c f).l:Int)<=most:=by
 unfold Dv.joined;split
 .exact h
 .split
  .exact z
  grind
def O4(E:0<=most){n:Nat}{f:F}(h:Fits most cs):Fits most (Dv.frame most n cs f):=by
 intro c hc;unfold Dv.frame at hc;split at hc
 .obtain hc|hc:=dM.1 hc
  .exact h c (fU.1 hc).1
  .rw[dK.1 hc];exact zH E E
 .obtain⟨I,z,rfl⟩:=bM.1 hc;split
  .exact zH E (h I z)
  .exact h I z
def FN{most:Int}(z:0<=most){n:Nat}:∀(l:List F){cs:List Ch},Fits most cs->Fits most (l.foldl (Dv.frame most n) cs)
 |[],_,h=>h
 |_::l,_,h=>FN z l (O4 z h)
def Kw(h:Fits most cs){p:Ch->Bool}:Fits most (cs.filter p):=λc hc=>h c (fU.1 hc).1
def zf{most:Int}:∀{cs:List Ch},Fits most cs->(∀s,s∈(Dv.pull cs).1->(s.length:Int)<=most)/\Fits most (Dv.pull cs).2
 |[],_=>⟨λs hs=>by simp[Dv.pull]at hs,λc hc=>by simp[Dv.pull]at hc⟩
 |c::cs,h=>by
  have z:=zf (cs:=cs) (λx I=>h x (cZ _ I));rw[Dv.pull];split
  .grind
  .rename_i s E;refine⟨λt ht=>?_,z.2⟩;obtain rfl|ht:=dD.1 ht
   .have:=Yz E;have:=h c dQ;omega
   .exact z.1 t ht
end
section
variable {XS:Nat->Prop}{k t:Nat}{cs:Array X}{fz:Nat×Nat}{vo':X}{nm':AL}{os':List PC}
structure TS(w:U)(kb nb:Nat)(c:Cf)(vu:X)(us:List PB)(dl:Nat->List (List UInt8))(vo vw:X)(ws:List PW)(nm:AL)(os:List PC)(cnt ep sq:Nat):Prop where
 d:rH w kb c vu us dl nb vo vw ws cnt ep sq
 ch:Chs w nb vo nm os
 hd:lJ w
 ht:∃hc t fz,w.heap[1]? =M (aG hc t fz)/\t≠100/\t≠118/\t≠102/\t≠136/\t≠140
section
variable {w w':U}{kb nb:Nat}{c:Cf}{vu:X}{us:List PB}{dl:Nat->List (List UInt8)}{vo vw:X}{ws:List PW}{nm:AL}{os:List PC}{cnt ep sq:Nat}
def TS.heap(h:TS w kb nb c vu us dl vo vw ws nm os cnt ep sq)(q:w'.heap=w.heap):TS w' kb nb c vu us dl vo vw ws nm os cnt ep sq:=⟨h.d.heap q,h.ch.heap q,lJ.heap h.hd q,by rw[q];exact h.ht⟩
def mX(hd:lJ w)(hc:jL XS w w')(z:¬XS 1):lJ w':=by
 have e:∀(i:Nat),w'.cell? ⟨1,i,Z⟩=w.cell? ⟨1,i,Z⟩:=λi=>by
  unfold eB;rw[hc.block _ hd.pos z]
 exact⟨⟨by rw[e];exact hd.1.1,by rw[e];exact hd.1.2.1,by rw[e];exact hd.1.2.2⟩,⟨by rw[e];exact hd.2.1,by rw[e];exact hd.2.2.1,by rw[e];exact hd.2.2.2⟩⟩
def TS.kept(h:TS w kb nb c vu us dl vo vw ws nm os cnt ep sq)(hc:jL XS w w')(z:∀k,k<w.heap.size->¬XS k):TS w' kb nb c vu us dl vo vw ws nm os cnt ep sq:=by obtain⟨v,J,I⟩:=(hc.mono (M':=λ_=>False) (λk hk e=>z k hk e)).fake;obtain⟨E,t,fz,R,Y⟩:=h.ht;exact⟨(h.d.below J.lQ).heap I.symm,(h.ch.below J.lQ).heap I.symm,mX h.hd hc (z _ h.hd.pos),E,t,fz,(hc.block _ h.hd.pos (z _ h.hd.pos)).trans R,Y⟩
def TS.below(h:TS w kb nb c vu us dl vo vw ws nm os cnt ep sq)(z:Below ↑w w w'):TS w' kb nb c vu us dl vo vw ws nm os cnt ep sq:=h.kept (XS:=λ_=>False) (jI.below z jB _).h (λ_ _ e=>e)
def TS.JA(h:TS w kb nb c vu us dl vo vw ws nm os cnt ep sq)(hk:w.heap[k]? =M (aG cs t fz))(t1:t≠100)(t2:t≠136)(t3:t≠140):¬(k=kb\/Own nb vo os k):=by
 rintro(rfl|e)
 .rw[h.d.obj]at hk
  grind
 .exact h.ch.lK hk t2 t3 e
def TS.aed(h:TS w kb nb c vu us dl vo vw ws nm os cnt ep sq)(hk:w.heap[k]? =M (aG cs t fz))(t1:t≠100)(t2:t≠118):¬(k=kb\/k=nb\/vw.ownBlock=M k):=by
 rintro(rfl|rfl|e)
 .rw[h.d.obj]at hk
  grind
 .exact lg hk h.ch.named rfl
 .exact jH h.d.wait hk t2 e
def TS.Uj(h:TS w kb nb c vu us dl vo vw ws nm os cnt ep sq)(hk:w.heap[k]? =M (aG cs t fz))(t1:t≠100)(t2:t≠102):¬(k=kb\/vu.ownBlock=M k):=by
 rintro(rfl|e)
 .rw[h.d.obj]at hk
  grind
 .exact jH h.d.upper hk t2 e
def TS.chans(h:TS w kb nb c vu us dl vo vw ws nm os cnt ep sq)(E:w'.heap[kb]? =M (aG ((jP c vu nb vo vw cnt ep sq).setIfInBounds 9 vo') 100 (0,0)))(ac:Chs w' nb vo' nm' os')(hc:jL (λk=>k=kb\/Own nb vo os k) w w'):TS w' kb nb c vu us dl vo' vw ws nm' os' cnt ep sq:=by
 obtain⟨aa,t,fz,R,q2,q3,q4,Y,J⟩:=h.ht
 have z:∀{e s n:Nat}{v:X}{xs:List X},Row w e s v n xs->e≠100->e≠136->e≠140->Row w' e s v n xs:=λhr t1 t2 t3=>hr.kept (λg hg=>hc.block g (hr.lt hg) (by
  obtain⟨ae,I⟩:=hr.obj hg;exact h.JA I t1 t2 t3))
 refine⟨⟨?_,z h.d.upper aB aB aB,z h.d.wait aB aB aB,λj p hp=>z (h.d.deps j p hp) aB aB aB,λp hp=>z (h.d.txs p hp) aB aB aB⟩,ac,mX h.hd hc (h.JA R q2 Y J),aa,t,fz,(hc.block _ h.hd.pos (h.JA R q2 Y J)).trans R,q2,q3,q4,Y,J⟩;rw[E];rfl
def TS.took(h:TS w kb nb c vu us dl vo vw ws nm os cnt ep sq)(ht:BD kb nb (jP c vu nb vo vw cnt ep sq) vo os w vo' nm' os' w'):TS w' kb nb c vu us dl vo' vw ws nm' os' cnt ep sq:=h.chans ht.obj ht.chs ht.jM.h
def TS.bi(h:TS w kb nb c vu us dl vo vw ws nm os cnt ep sq){l:List Ch}{m:Nat}(ht:BI kb nb w (jP c vu nb vo vw cnt ep sq) vo os l m w' vo' nm' os'):TS w' kb nb c vu us dl vo' vw ws nm' os' cnt ep sq:=h.chans ht.obj ht.chs ht.jM.h
def TS.pulled(h:TS w kb nb c vu us dl vo vw ws nm os cnt ep sq){n:Nat}{l0:List Ch}{J:List (List UInt8)}{Y E:X}{I:List PW}{cs':Array X}(ht:TI kb nb n w (jP c vu nb vo vw cnt ep sq) vw ws J w' Y E I){B:Nat->Prop}(hp:PS kb nb B l0 J w' cs' vo' nm' os'):TS w' kb nb c vu us dl vo' E (ws++I) nm' os' cnt ep sq:=by
 have hc:=ht.jM.h;obtain⟨aa,t,fz,q1,q2,q3,q4,q5,q6⟩:=h.ht
 have z:∀{e s n:Nat}{v:X}{xs:List X},Row w e s v n xs->e≠100->e≠118->Row w' e s v n xs:=λhr t1 t2=>hr.kept (λg hg=>hc.block g (hr.lt hg) (by
  obtain⟨ac,R⟩:=hr.obj hg;exact h.aed R t1 t2))
 have e9:Y=vo':=by
  have h1:=ht.obj;rw[hp.obj]at h1;simp only[aK,Obj.cells.injEq,and_true]at h1;have h2:=hp.order;rw[h1]at h2;have h3:(((jP c vu nb vo vw cnt ep sq).setIfInBounds 9 Y).setIfInBounds 10 E)[9]? =M Y:=rfl;rw[h3]at h2;exact fC h2
 subst e9;refine⟨⟨?_,z h.d.upper aB aB,ht.row,λj p hp=>z (h.d.deps j p hp) aB aB,ht.txs⟩,hp.chs,mX h.hd hc (h.aed q1 q2 q3),aa,t,fz,(hc.block _ h.hd.pos (h.aed q1 q2 q3)).trans q1,q2,q3,q4,q5,q6⟩;rw[ht.obj];rfl
def TS.more(h:TS w kb nb c vu us dl vo vw ws nm os cnt ep sq){u:X2}{da:Option eM}{dc:Nat}{w6 w1:U}{g off cap:Nat}(hb:Below ↑w w w6)(hm:Made w6 ↑w (.slice da (Dv.jR u).length dc) (Dv.jR u))(J:Row w1 102 3 (aH (M ⟨g,off,Z⟩) (us.length+1) cap) (us.length+1) (us.flatMap qE++[N ab u.id,N ab u.time,.slice da (Dv.jR u).length dc]))
  (hg:Grew vu g (w6.alloc (aG #[N ab u.id,N ab u.time,.slice da (Dv.jR u).length dc] 102)) w1):
  TS (w1.setCell ⟨kb,7,Z⟩ (aH (M ⟨g,off,Z⟩) (us.length+1) cap)) kb nb c (aH (M ⟨g,off,Z⟩) (us.length+1) cap) (us++[(u.id,u.time,.slice da (Dv.jR u).length dc)]) (λj=>if j=us.length then Dv.jR u else dl j) vo vw ws nm os cnt ep sq/\jI (λk=>k=kb\/vu.ownBlock=M k) w (w1.setCell ⟨kb,7,Z⟩ (aH (M ⟨g,off,Z⟩) (us.length+1) cap)):=by
 have c1:=(jI.alloc _ _ _).trans hg.jM (λ_ _ e=>e);have c2:=(jI.below hb jB _).trans c1 (λ_ _ e=>e);have af:=(jE h.d.obj)
 have c3:jI (λk=>k=kb\/vu.ownBlock=M k) w6 (w1.setCell ⟨kb,7,Z⟩ (aH (M ⟨g,off,Z⟩) (us.length+1) cap)):=(c1.mono (λ_ _ e=>cD e)).trans (.set _ _ _ _) (λ_ _ e=>bE e);have c4:=(jI.below hb jB _).trans c3 (λ_ _ e=>e);obtain⟨ae,t,fz,q1,q2,q3,q4,q5,q6⟩:=h.ht;have I:=h.below hb
 have E:∀{e s n:Nat}{v:X}{xs:List X},Row w6 e s v n xs->e≠100->e≠102->Row (w1.setCell ⟨kb,7,Z⟩ (aH (M ⟨g,off,Z⟩) (us.length+1) cap)) e s v n xs:=λJ t1 t2=>J.kept (λg hg=>c3.block g (J.lt hg) (by
  obtain⟨Y,z⟩:=J.obj hg;exact I.Uj z t1 t2))
 have aa:=(c2.block kb af (jH h.d.upper h.d.obj aB)).trans h.d.obj
 have ac:g≠kb:=by
  obtain⟨Y,z⟩:=J.obj (g:=g) rfl;intro e;subst e;rw[aa]at z;simp at z
 refine⟨⟨⟨?_,?_,E I.d.wait aB aB,λj p hp=>?_,λp hp=>E (I.d.txs p hp) aB aB⟩,?_,mX h.hd c4.h (h.Uj q1 q2 q4),ae,t,fz,(c4.block _ h.hd.pos (h.Uj q1 q2 q4)).trans q1,q2,q3,q4,q5,q6⟩,c4⟩
 .rw[block_setCell aa];rfl
 .rw[aS,iF,iw]
  exact J.kept (λg' R=>by
   simp only[cV,aK]at R;subst R;exact aW _ _ _ _ ac)
 .by_cases hj:j=us.length
  .subst hj;rw[bV jB,Nat.sub_self]at hp;simp at hp;subst hp;rw[ZD rfl];exact E hm.1 aB aB
  .rw[Zs hj];have hl:=(aN.1 hp).1;rw[aS,iF]at hl;rw[bZ aA]at hp;exact E (I.d.deps j p hp) aB aB
 .refine I.ch.jM c3 (λk hk=>?_);rintro(rfl|e)
  .exact I.ch.lK I.d.obj aB aB hk
  .obtain⟨Y,z⟩:=I.d.upper.obj e;exact I.ch.lK z aB aB hk
end
end
def yO{α:Type}{l:List α}{n:Nat}(h:l.length=n+1):∃x r,l=x::r/\r.length=n:=by
 cases l with
 |nil=>simp at h
 |cons x r=>exact⟨x,r,rfl,by simpa using h⟩
def Wv{t:Array X}(h:t.size=93):∃u0 u1 u2 u3 u4 u5 u6 u7 u8 u9 aw cc au bj b8 bp af b1 ag am ay ci ak ai bo R b9 ca ck Y cj bl cr bb a0 b3 ce bd bs bh b5 bu a4 b7 bz b4 br ac ao av a9 a2 E ba cu bk bg cl a1 ct a8 cd b6 co cw bv bm cg az ae cn aq ah a5 bq I bn a7 aa aj b2 ap z cq an cv a3 ar a6 b0 bw cf J,t=#[u0,u1,u2,u3,u4,u5,u6,u7,u8,u9,aw,cc,au,bj,b8,bp,af,b1,ag,am,ay,ci,ak,ai,bo,R,b9,ca,ck,Y,cj,bl,cr,bb,a0,b3,ce,bd,bs,bh,b5,bu,a4,b7,bz,b4,br,ac,ao,av,a9,a2,E,ba,cu,bk,bg,cl,a1,ct,a8,cd,b6,co,cw,bv,bm,cg,az,ae,cn,aq,ah,a5,bq,I,bn,a7,aa,aj,b2,ap,z,cq,an,cv,a3,ar,a6,b0,bw,cf,J]:=by
 obtain⟨l⟩:=t;replace h:l.length=93:=h
 iterate 93 (obtain⟨_,l,rfl,h'⟩:=yO h;clear h;have h:=h';clear h')
 obtain rfl:=List.length_eq_zero_iff.1 h;exact⟨_,_,_,_,_,_,_,_,_,_,_,_,_,_,_,_,_,_,_,_,_,_,_,_,_,_,_,_,_,_,_,_,_,_,_,_,_,_,_,_,_,_,_,_,_,_,_,_,_,_,_,_,_,_,_,_,_,_,_,_,_,_,_,_,_,_,_,_,_,_,_,_,_,_,_,_,_,_,_,_,_,_,_,_,_,_,_,_,_,_,_,_,_,rfl⟩
end Hm
namespace Pa
open Go Go.Conc Go.RowKit Go.Joins
open Hm (ptr kD jF jP TS jL kW AL PC PB PW lives wV wG wP takeB AX ops2 Fits)
open Dv (X2 Cf Ch)
open Po hiding X2 H B IT PR NB
section
noncomputable def ops4:Array ij:=match Tryz.f31.body with
 |some (bR _ (bR _ (bR _ (bR _ (bR (bR (.region _ ops _) _) _)))))=>ops
 |_=>#[]
noncomputable def Pg:eE:=match Tryz.f31.body with
 |some (bR _ (bR _ (bR c _)))=>c
 |_=>.skip
noncomputable def Vt:eE:=match Tryz.f31.body with
 |some (bR _ (bR _ (bR _ (bR _ (bR (bR c _) _)))))=>c
 |_=>.skip
def SG:Tryz.f31.body=M (bR wV (bR wG (bR Pg (bR wP (bR (bR Vt takeB) AX))))):=XN
def Tt:∃z,Pg=.region z ops2 aR:=⟨_,rfl⟩
def TL:∃z,Vt=.region z ops4 aR:=⟨_,rfl⟩
structure SA(a:Act)(b2 b3 b4:Nat):Prop where
 sz:a.tmps.size=93
 df:a.defers=[]
 t2:a.tmps[2]? =M (ptr b2)
 t3:a.tmps[3]? =M (ptr b3)
 t4:a.tmps[4]? =M (ptr b4)
structure TB(w:U)(b2 b3 b4 kb n:Nat)(u:X2)(vt vl:X):Prop where
 h2:w.heap[b2]? =M (aG #[ptr kb] 71 (0,0))
 h3:w.heap[b3]? =M (aG #[N ab u.id,N ab u.time,vt,vl] 28 (0,0))
 h4:w.heap[b4]? =M (aG #[N ab n] 3 (0,0))
section
variable {w w':U}
variable {kb:Nat}{u:X2}{vt vl:X}{b2 b3 b4 n:Nat}
def TB.jM{XS:Nat->Prop}(h:TB w b2 b3 b4 kb n u vt vl)(hc:jL XS w w')(z:∀(j:Nat)(cs:Array X)(t:Nat)(E:Nat×Nat),w.heap[j]? =M (aG cs t E)->t=71\/t=28\/t=3->¬XS j):TB w' b2 b3 b4 kb n u vt vl:=
 ⟨(hc.block _ (jE h.h2) (z _ _ _ _ h.h2 (bE rfl))).trans h.h2,(hc.block _ (jE h.h3) (z _ _ _ _ h.h3 (cD (bE rfl)))).trans h.h3,(hc.block _ (jE h.h4) (z _ _ _ _ h.h4 (cD (cD rfl)))).trans h.h4⟩
end
end
open Hm (ptr jF jP)
open Dv (X2 Cf)
open Cr (Fill Xh)
section
def vs4(kb b3 s:Nat)(c:Cf)(tx:Option eM)(n cap:Nat)(i:Nat):X:=(#[ptr kb,ptr kb,ptr kb,.agg (jF c),aD (M ⟨b3,2,Z⟩),.slice tx n cap,aH (M ⟨s+1,0,Z⟩) n n,N ab n,N ab 0]:Array X).getD i aE
section
variable {Post:vU}{D:Nat->Prop}{w:U}{b:cR}{a:Act}{k:List pS}{XX A:List cR}
variable {kb nb:Nat}{c:Cf}{vu vo vw vl:X}{cnt ep sq:Nat}{u:X2}{b2 b3 b4:Nat}{tx:Option eM}{n cap:Nat}{fs:Nat->List Fr.F}
def adO:Cr.fills 93 ops4=aR:=XN
def abn(rd:Cr.ReadW){ae:Nat}(hA:SA a b2 b3 b4)(h2:w.heap[b2]? =M (aG #[ptr kb] 71 (0,0)))(h3:w.heap[b3]? =M (aG #[N ab u.id,N ab u.time,.slice tx n cap,vl] 28 (0,0)))(hk:w.heap[kb]? =M (aG (jP c vu nb vo vw cnt ep sq) 100 (0,0)))(hn:n<=16777216)(ag:Tryz.prog.globals.size<=w.heap.size){tb p0:Nat}{fr ad:Nat->Int}{data:Nat->ByteArray}(hx:Xh (λ_=>True) w tx tb p0 n fr ad data)(af:∀j,j<n->fs j=Fr.mg c.inbox c.batcher (fr j) (ad j) (data j).data.toList)(hQ:∀a' w' D',SA a' b2 b3 b4->a'.tmps[44]? =M (aH (M ⟨w.heap.size+1,0,Z⟩) n n)->a'.tmps[45]? =M (N ab n)->a'.tmps[46]? =M (N ab 0)->BO w n fs w'->Wq D' Post XX (b.at a' k) A w'):Wq D Post XX (b.at a (.code (.region ae ops4 aR)::k)) A w:=by
 refine Wq.fill (τ:=Unit) (λ_=>vs4 kb b3 ↑w c tx n cap) (λl v D1 _=>(l.getD 6 aL=aL->v=w/\D1=D)/\(l.getD 6 aL=aR->BO w n fs v)) (by rw[hA.sz];exact adO) (λl a' v D1 _ hl J hJ=>?_) (λl a' v D1 _ i o rest ho hi aa J hJ R=>?_) () ⟨λ_=>⟨rfl,rfl⟩,λh=>by rw[show ops4.size=9 from rfl]at h;cases h⟩
 .have e:∀{i t},i<9->Cr.nN ops4 i=M t->a'.tmps[t]? =M (vs4 kb b3 ↑w c tx n cap i):=λhi hd=>J.got _ _ hd (hl _ hi);exact hQ a' _ _ ⟨J.size.trans hA.sz,J.defers.trans hA.df,(J.slot XN).trans hA.t2,(J.slot XN).trans hA.t3,(J.slot XN).trans hA.t4⟩ (e (i:=6) aB rfl) (e (i:=7) aB rfl) (e (i:=8) aB rfl) (hJ.2 (hl 6 aB))
 .have hold:∀j,j<w.heap.size->v.heap[j]? =w.heap[j]?:=λj hj=>by
   cases h6:l.getD 6 aL with
   |false=>rw[(hJ.1 h6).1]
   |true=>exact(hJ.2 h6).old j hj
  have g2:=(hold _ (jE h2)).trans h2;have g3:=(hold _ (jE h3)).trans h3;have gk:=(hold _ (jE hk)).trans hk;have keep:i≠6->(((l.setIfInBounds i aR).getD 6 aL=aL->v=w/\D1=D)/\((l.setIfInBounds i aR).getD 6 aL=aR->BO w n fs v)):=λe=>by rw[getD_set_ne aL e];exact hJ
  have go:i≠6->o.guard=Z->(∀t d,(bN a'.eval o).run PQ (on v t d)=.ok (.value (vs4 kb b3 ↑w c tx n cap i)) (on v t d))->Wq D1 Post XX (b.at a' (.inRegion ops4 (i::rest)::k)) A v:=λe E hr=>Wq.val ho E hr (R v D1 () (λ_ _=>rfl) (keep e));have ac:=(jE ho)
  have e2:=J.old (s:=2) XN hA.t2;have e3:=J.old (s:=3) XN hA.t3;have Y:∀{B:Nat}{cs:Array X}{ty:cG}{fz:Nat×Nat}(o:Nat),v.heap[B]? =M (aG cs ty fz)->∀t d,(on v t d).cell? ⟨B,o,Z⟩=cs[o]?:=λo h t d=>aI (show(on v t d).heap[_]? =_ from h) o;have I:∀j t,Cr.waits ops4 i j=aR->Cr.nN ops4 j=M t->a'.eval (cN t)=vs4 kb b3 ↑w c tx n cap j:=λj t hw hd=>J.ev hd (aa j hw)
  match i,ac with
  |0,_=>
   obtain⟨z,E⟩:=Cr.kM (.load 71 (cN 2),Z) ho rfl;refine go aB E λt d=>?_;have c0:=Y 0 g2 t d;unfold bN;simp only[z,e2,ptr];simp[go_sem,c0];rfl
  |1,_=>
   obtain⟨z,E⟩:=Cr.kM (.nilCheck (cN 38),Z) ho rfl;refine go aB E λt d=>?_;unfold bN;simp only[z,I 0 38 rfl rfl];rfl
  |2,_=>
   obtain⟨z,E⟩:=Cr.kM (.fieldAddr 100 (cN 39) 0,Z) ho rfl;refine go aB E λt d=>?_;unfold bN;simp only[z,I 1 39 rfl rfl];simp[go_sem];rfl
  |3,_=>
   obtain⟨z,E⟩:=Cr.kM (.load 24 (cN 40),Z) ho rfl;refine go aB E λt d=>?_;have c0:_=(jF c)[0]?:=Y 0 gk t d;have c1:_=(jF c)[1]?:=Y 1 gk t d;have c2:_=(jF c)[2]?:=Y 2 gk t d;have c3:_=(jF c)[3]?:=Y 3 gk t d;have c4:_=(jF c)[4]?:=Y 4 gk t d;have c5:_=(jF c)[5]?:=Y 5 gk t d;have c6:_=(jF c)[6]?:=Y 6 gk t d;unfold bN;simp only[z,I 2 40 rfl rfl];simp[go_sem,vs4,ptr,jF,c0,c1,c2,c3,c4,c5,c6]
  |4,_=>
   obtain⟨z,E⟩:=Cr.kM (.fieldAddr 28 (cN 3) 2,Z) ho rfl;refine go aB E λt d=>?_;unfold bN;simp only[z,e3,ptr];simp[go_sem];rfl
  |5,_=>
   obtain⟨z,E⟩:=Cr.kM (.load 25 (cN 42),Z) ho rfl;refine go aB E λt d=>?_;have c0:=Y 2 g3 t d;unfold bN;simp only[z,I 4 42 rfl rfl];simp[go_sem,vs4,c0]
  |6,_=>
   obtain⟨z,E⟩:=Cr.kM (.call { callee:=.value (.func 50),args:=#[cN 41,cN 43],argTypes:=#[24,25] },Z) ho rfl;have h6:=Cr.AP hi;obtain⟨rfl,rfl⟩:=hJ.1 h6.1;refine Wk.frames rd ho (Cr.jY E) z (I 3 41 rfl rfl) (I 5 43 rfl rfl) hn ag hx af λD' x' hP=>R x' D' () (λ_ _=>rfl) ⟨λh=>(by rw[h6.2]at h;cases h),λ_=>hP⟩
  |7,_=>
   obtain⟨z,E⟩:=Cr.kM (.call { callee:=.builtin _,args:=#[cN 44],argTypes:=#[104] },Z) ho rfl;refine go aB E λt d=>?_;have e:a'.tmps[44]? =M (aH (M ⟨w.heap.size+1,0,Z⟩) n n):=J.got 6 44 rfl (aa 6 rfl);unfold bN;simp only[z];simp[go_sem,vs4,e]
  |8,_=>
   obtain⟨z,E⟩:=Cr.kM (.move _,Z) ho rfl;refine go aB E λt d=>?_;unfold bN;simp only[z];rfl
end
end
section
variable {ta la:Option eM}{tn tc ln lc:Nat}
section
variable {Post:vU}{D:Nat->Prop}{w w':U}{b:cR}{a:Act}{k:List pS}{XX A:List cR}
variable {kb nb:Nat}{c:Cf}{vu:X}{us:List PB}{dl:Nat->List (List UInt8)}{vo vw:X}{ws:List PW}{nm:AL}{os:List PC}{cnt ep sq:Nat}{u:X2}{vt vl:X}{b2 b3 b4 n:Nat}
def Tf{rest:eE}(hS:TS w kb nb c vu us dl vo vw ws nm os cnt ep sq)(ha:a={ tmps:=#[aD (M ⟨kb,0,Z⟩),fX #[N ab u.id,N ab u.time,.slice ta tn tc,.slice la ln lc],aE,aE,aE,aE,aE,aE,aE,aE,aE,aE,aE,aE,aE,aE,aE,aE,aE,aE,aE,aE,aE,aE,aE,aE,aE,aE,aE,aE,aE,aE,aE,aE,aE,aE,aE,aE,aE,aE,aE,aE,aE,aE,aE,aE,aE,aE,aE,aE,aE,aE,aE,aE,aE,aE,aE,aE,aE,aE,aE,aE,aE,aE,aE,aE,aE,aE,aE,aE,aE,aE,aE,aE,aE,aE,aE,aE,aE,aE,aE,aE,aE,aE,aE,aE,aE,aE,aE,aE,aE,aE,aE],defers:=[] })(J:∀a' w',SA a' ↑w (w.heap.size+1) (w.heap.size+2)->jL (λ_=>False) w w'->TB w' ↑w (w.heap.size+1) (w.heap.size+2) kb us.length u (.slice ta tn tc) (.slice la ln lc)->Wq D Post XX (b.at a' [.code rest]) A w'):Wq D Post XX (b.at a [.code (bR wV (bR wG rest))]) A w:=by
 refine Wq.seq ?_;obtain⟨w1,E⟩:∃w1,w1=(w.alloc (aG #[aD (M ⟨kb,0,Z⟩)] 71)).alloc (aG #[N ab u.id,N ab u.time,.slice ta tn tc,.slice la ln lc] 28):=⟨_,rfl⟩
 have s1:↑w1=w.heap.size+2:=by rw[E];simp
 have b1:Go.RowKit.Below ↑w w w1:=by rw[E];exact((Go.RowKit.Below.refl _ w).alloc jB _).alloc aC _
 have k2:w1.heap[w.heap.size]? =M (aG #[ptr kb] 71 (0,0)):=by rw[E,gE _ _ _ aC];exact cT _ _
 have k3:w1.heap[w.heap.size+1]? =M (aG #[N ab u.id,N ab u.time,.slice ta tn tc,.slice la ln lc] 28 (0,0)):=by
  have:=cT (w.alloc (aG #[aD (M ⟨kb,0,Z⟩)] 71)) (aG #[N ab u.id,N ab u.time,.slice ta tn tc,.slice la ln lc] 28);rw[E];simpa using this
 refine Wq.piece (Q:=λa' W=>a'={ tmps:=#[aD (M ⟨kb,0,Z⟩),fX #[N ab u.id,N ab u.time,.slice ta tn tc,.slice la ln lc],aD (M ⟨↑w,0,Z⟩),aD (M ⟨w.heap.size+1,0,Z⟩),aE,aE,aE,aE,aE,aE,aE,aE,aE,aE,aE,aE,aE,aE,aE,aE,aE,aE,aE,aE,aE,aE,aE,aE,aE,aE,aE,aE,aE,aE,aE,aE,aE,aE,aE,aE,aE,aE,aE,aE,aE,aE,aE,aE,aE,aE,aE,aE,aE,aE,aE,aE,aE,aE,aE,aE,aE,aE,aE,aE,aE,aE,aE,aE,aE,aE,aE,aE,aE,aE,aE,aE,aE,aE,aE,aE,aE,aE,aE,aE,aE,aE,aE,aE,aE,aE,aE,aE,aE],defers:=[] }/\W.heap=w1.heap) (λt d=>?_) ?_
 .rw[ha];refine Hm.UA kb ta tn tc la ln lc ⟨rfl,rfl,?_⟩;rw[E];rfl
 rintro a1 z ⟨rfl,I⟩;have I:=I;refine Wq.seq ?_;have Y:=(hS.below b1).heap I;obtain⟨va,vc,ac⟩:=Y.d.upper.slice;have o7:(jP c vu nb vo vw cnt ep sq)[7]? =M (.slice va us.length vc):=by rw[<-ac];rfl
 refine Wq.piece (Q:=λa' W=>SA a' ↑w (w.heap.size+1) (w.heap.size+2)/\W.heap=(z.alloc (aG #[N ab us.length] 3)).heap) (λt d=>?_) ?_
 .refine Hm.U5 _ _ _ _ _ _ _ _ _ _ _ _ _ _ _ _ _ _ _ _ _ _ _ _ _ _ _ _ _ _ _ _ _ _ _ _ _ _ _ _ _ _ _ _ _ _ _ _ _ _ _ _ _ _ _ _ _ _ _ _ _ _ _ _ _ _ _ _ _ _ _ _ _ _ _ _ _ _ _ _ _ _ _ _ _ _ _ _ _ _ _ _ _ kb va _ vc _ (by rw[aI (show(on z t d).heap[w.heap.size]? =_ from by rw[show(on z t d).heap=w1.heap from I];exact k2)];rfl) (by rw[aI (show(on z t d).heap[kb]? =_ from Y.d.obj)];exact o7) ⟨rfl,⟨rfl,rfl,rfl,rfl,?_⟩,rfl⟩
  show M (Value.pointer (M ⟨↑z,0,Z⟩))=_
  rw[I,s1];rfl
 rintro a2 w2 ⟨aa,R⟩;have R:=R
 have hold:∀j,j<w.heap.size+2->w2.heap[j]? =w1.heap[j]?:=λj hj=>by
  rw[R,gE _ _ _ (by rw[I,s1];exact hj),I]
 refine J a2 w2 aa ⟨by grind,λj hj _=>(hold j aA).trans (b1.block j hj)⟩ ⟨(hold _ aA).trans k2,(hold _ aA).trans k3,?_⟩;have:=cT z (aG #[N ab us.length] 3)
 grind
def Nz(dl:Nat->List (List UInt8))(n:Nat)(u:X2):Nat->List (List UInt8):=λj=>if j=n then Dv.jR u else dl j
def aaJ{rest:eE}(hS:TS w kb nb c vu us dl vo vw ws nm os cnt ep sq)(I:SA a b2 b3 b4)(hB:TB w b2 b3 b4 kb us.length u (.slice ta tn tc) (.slice la ln lc))(aa:kW w u (.slice ta tn tc) (.slice la ln lc))(ac:∀x,x∈u.logs->x.length<=16777216)(hn:us.length<4294967296)(ae:∀a' w' z R,SA a' b2 b3 b4->TS w' kb nb c z (us++[(u.id,u.time,R)]) (Nz dl us.length u) vo vw ws nm os cnt ep sq->jL (λj=>j=kb\/vu.ownBlock=M j) w w'->(∀g,z.ownBlock=M g->vu.ownBlock=M g\/w.heap.size<=g)->Wq D Post XX (b.at a' [.code rest]) A w'):Wq D Post XX (b.at a [.code (bR Pg rest)]) A w:=by
 refine Wq.seq ?_;obtain⟨af,J⟩:=Tt;refine Wq.piece (Q:=λa' W=>SA a' b2 b3 b4/\∃z R,TS W kb nb c z (us++[(u.id,u.time,R)]) (Nz dl us.length u) vo vw ws nm os cnt ep sq/\jL (λj=>j=kb\/vu.ownBlock=M j) w W/\∀g,z.ownBlock=M g->vu.ownBlock=M g\/w.heap.size<=g) (λt d=>?_) ?_
 .rw[J];refine(wpIn_wide (n:=1)).1 (wpIn_region_any XN ?_);have E:TS (on w t d).drew kb nb c vu us dl vo vw ws nm os cnt ep sq:=hS.heap rfl;refine Hm.aaU (W:=(on w t d).drew) (cs:=jP c vu nb vo vw cnt ep sq) ⟨hB.h2,hB.h3,hS.d.obj,rfl,E.d.upper,hn,aa.heap rfl,ac,E.hd⟩ I.sz I.t2 I.t3 I.t4 ?_;intro a' da dc w6 g off cap w1 e1 e2 e3 e4 e5 hb hm hr hg;obtain⟨q1,q2⟩:=E.more hb hm hr hg;refine⟨rfl,⟨e1,e5.trans I.df,e2,e3,e4⟩,_,_,q1,q2.h.heaps rfl rfl,λg' Y=>?_⟩;have e:g=g':=by simpa[cV]using Y
  subst e;obtain q|q:=hg.own
  .exact bE q
  .refine cD (bH (show ↑w<=w6.heap.size from hb.size) (bH ?_ q));simp
 grind
end
end
section
section
variable {Post:vU}{D:Nat->Prop}{w w':U}{b:cR}{a:Act}{k:List pS}{XX A:List cR}
variable {kb nb:Nat}{c:Cf}{vu:X}{us:List PB}{dl:Nat->List (List UInt8)}{vo vw:X}{ws:List PW}{nm:AL}{os:List PC}{cnt ep sq:Nat}{u:X2}{vt vl:X}{b2 b3 b4 n:Nat}
def WL{rest:eE}{c0:Nat}(hS:TS w kb nb c vu us dl vo vw ws nm os cnt ep sq)(hA:SA a b2 b3 b4)(hB:TB w b2 b3 b4 kb c0 u vt vl)(hn:c0<=4294967296)(aa:os.length<=4294967296)(ac:0<=c.timeout/\c.timeout<=4294967296)(R:∀a' w' I E z,SA a' b2 b3 b4->TS w' kb nb c vu us dl I vw ws E z cnt ep sq->jL (λj=>j=kb\/Hm.Own nb vo os j) w w'->(∀j,Hm.Own nb I z j->Hm.Own nb vo os j\/w.heap.size<=j)->z.length<=os.length->lives E z=(lives nm os).filter (λx=>!decide ((x.opened:Int)<c0-c.timeout))->Wq D Post XX (b.at a' [.code rest]) A w'):Wq D Post XX (b.at a [.code (bR wP rest)]) A w:=by
 refine Wq.seq ?_;refine Wq.piece (Q:=λa' W=>SA a' b2 b3 b4/\∃I E z,TS W kb nb c vu us dl I vw ws E z cnt ep sq/\jL (λj=>j=kb\/Hm.Own nb vo os j) w W/\(∀j,Hm.Own nb I z j->Hm.Own nb vo os j\/w.heap.size<=j)/\z.length<=os.length/\lives E z=(lives nm os).filter (λx=>!decide (x.opened<c0-c.timeout))) (λt d=>?_) ?_
 .have J:TS (on w t d) kb nb c vu us dl vo vw ws nm os cnt ep sq:=hS.heap rfl;obtain⟨tm,df⟩:=a;obtain⟨sz,Y,t2,t3,t4⟩:=hA;dsimp only at sz Y t2 t3 t4;subst Y;obtain⟨u0,u1,u2,u3,u4,u5,u6,u7,u8,u9,ba,cz,a8,bz,cw,b8,ar,ck,au,a2,bb,c5,a0,ay,b7,ak,cx,cy,c9,am,c6,b1,dm,bs,bg,cn,c2,bu,cd,bw,cr,cf,bl,cu,ci,cq,ca,ao,a4,a9,bq,bj,ag,br,dr,b0,bv,de,bh,dq,bp,c1,ct,dj,du,ce,b5,c4,bd,aq,dg,a6,av,bm,b9,ai,b6,bo,an,az,cl,a5,af,dk,a3,dt,bk,a7,bn,cj,cg,c3,aj,rfl⟩:=Hm.Wv sz;simp only[eX,eU,dX,aK]at t2 t3 t4;subst t2 t3 t4;refine Hm.IV b2 b4 kb nb c0 vo nm os hB.h2 hB.h4 J.d.obj rfl rfl rfl J.ch aa hn ac ?_;intro cv ap aw db cc dh dd ah co a1 di W' I E z ht h1 h2;exact⟨rfl,⟨rfl,rfl,rfl,rfl,rfl⟩,I,E,z,J.took ht,ht.jM.h.heaps rfl rfl,ht.own,h1,h2⟩
 rintro a' w' ⟨ae,I,E,z,q1,q2,q3,q4,q5⟩;exact R a' w' I E z ae (q1.heap rfl) (q2.heaps rfl rfl) q3 q4 q5
def aaO{d0:eE}{c0 C m:Nat}{vs:Array X}{fs:Nat->List Fr.F}(hS:TS w kb nb c vu us dl vo vw ws nm os cnt ep sq)(hA:SA a b2 b3 b4)(hB:TB w b2 b3 b4 kb c0 u vt vl)(ae:a.tmps[44]? =M (aH (M ⟨C,0,Z⟩) m m))(J:a.tmps[45]? =M (N ab m))(ac:a.tmps[46]? =M (N ab 0))(hC:w.heap[C]? =M (aG vs 106 (0,0)))(ah:vs.size=m)(aa:∀i,i<m->∃v,vs[i]? =M v/\Hm.zC w v (fs i))(aj:∀i f,i<m->f∈fs i->f.num<65536/\f.data.length<=65536)(hm:m<=16777216)(ai:∀i,(fs i).length<=16777216)(af:os.length+(Hm.lT fs m).length<=4294967295)(ak:0<=c.most/\c.most<=4294967296)(Y:∀a' w' I E z,SA a' b2 b3 b4->TS w' kb nb c vu us dl I vw ws E z cnt ep sq->jL (λj=>j=kb\/Hm.Own nb vo os j) w w'->(∀j,Hm.Own nb I z j->Hm.Own nb vo os j\/w.heap.size<=j)->z.length<=os.length+(Hm.lT fs m).length->lives E z=(Hm.lT fs m).foldl (Dv.frame c.most c0) (lives nm os)->Wq D Post XX (b.at a' [.code d0]) A w'):Wq D Post XX (b.at a [.code takeB,.code d0]) A w:=by
 refine Wq.piece (Q:=λa' W=>SA a' b2 b3 b4/\∃I E z,TS W kb nb c vu us dl I vw ws E z cnt ep sq/\jL (λj=>j=kb\/Hm.Own nb vo os j) w W/\(∀j,Hm.Own nb I z j->Hm.Own nb vo os j\/w.heap.size<=j)/\z.length<=os.length+(Hm.lT fs m).length/\lives E z=(Hm.lT fs m).foldl (Dv.frame c.most c0) (lives nm os)) (λt d=>?_) ?_
 .have R:TS (on w t d) kb nb c vu us dl vo vw ws nm os cnt ep sq:=hS.heap rfl;obtain⟨tm,df⟩:=a;obtain⟨sz,ag,t2,t3,t4⟩:=hA;dsimp only at sz ag t2 t3 t4 ae J ac;subst ag;obtain⟨u0,u1,u2,u3,u4,u5,u6,u7,u8,u9,bm,dj,bk,cd,dg,ck,a3,c1,a4,ba,bn,du,a9,a7,cj,aw,dh,di,dw,ay,dv,cf,eb,b7,bp,c3,dq,b8,ct,ca,c9,cu,bv,de,cx,c5,cq,a1,bd,bl,b5,bs,ar,b6,ef,ce,b9,d2,br,ed,b1,dk,db,d9,eh,cv,cg,dt,bo,a2,d8,bh,a5,bw,cl,au,ci,b0,az,a8,c2,bg,aq,ea,bb,eg,bu,bj,bz,cz,cw,dr,av,rfl⟩:=Hm.Wv sz;simp only[eX,eU,dX,aK]at t2 t3 t4 ae J ac;subst t2 t3 t4 ae J ac;refine Hm.Ib b2 b4 kb nb c0 C m vs vo nm os fs hB.h2 hB.h4 R.d.obj rfl rfl rfl R.ch hC ah aa aj hm ai af ak ?_;intro x6 x8 dm a0 ee ec a6 cn bq c4 c6 dz co cy an cr dd dy cc ao ap d1 dx d7 d3 W' I E z ht;exact⟨rfl,⟨rfl,rfl,rfl,rfl,rfl⟩,I,E,z,R.bi ht,ht.jM.h.heaps rfl rfl,ht.own,ht.len,ht.lives⟩
 rintro a' w' ⟨am,I,E,z,q1,q2,q3,q4,q5⟩;exact Y a' w' I E z am (q1.heap rfl) (q2.heaps rfl rfl) q3 q4 q5
end
end
section
section
variable {Post:vU}{D:Nat->Prop}{w w':U}{b:cR}{a:Act}{k:List pS}{XX A:List cR}
variable {kb nb:Nat}{c:Cf}{vu:X}{us:List PB}{dl:Nat->List (List UInt8)}{vo vw:X}{ws:List PW}{nm:AL}{os:List PC}{cnt ep sq:Nat}{u:X2}{vt vl:X}{b2 b3 b4 n:Nat}
def UU{c0:Nat}(hS:TS w kb nb c vu us dl vo vw ws nm os cnt ep sq)(hA:SA a b2 b3 b4)(hB:TB w b2 b3 b4 kb c0 u vt vl)(ag:os.length<=4294967296)(ae:∀s,s∈(Dv.pull (lives nm os)).1->s.length<=4096)(aa:ws.length+4096*(Dv.pull (lives nm os)).1.length<4294967296)(ai:∀a' w' (dd:Nat) I Y R E z,a'.defers=[{ target:=.collected dd,args:=#[] }]->w'.heap[dd]? =M (eI (M []))->↑w<=dd->TS w' kb nb c vu us dl I Y (ws++R) E z cnt ep sq->jL (λj=>j=kb\/j=nb\/vw.ownBlock=M j) w w'->(∀j,Hm.Own nb I z j->Hm.Own nb vo os j)->(∀g,Y.ownBlock=M g->vw.ownBlock=M g\/w.heap.size<=g)->z.length<=4294967296->lives E z=(Dv.pull (lives nm os)).2->R.map cI=(Dv.pull (lives nm os)).1.flatMap (λs=>Dv.reads s c0)->Wq D Post XX (b.at a' []) A w'):Wq D Post XX (b.at a [.code AX]) A w:=by
 refine Wq.piece (Q:=λa' W=>∃(dd:Nat),∃I Y R E z,a'.defers=[{ target:=.collected dd,args:=#[] }]/\W.heap[dd]? =M (eI (M []))/\↑w<=dd/\TS W kb nb c vu us dl I Y (ws++R) E z cnt ep sq/\jL (λj=>j=kb\/j=nb\/vw.ownBlock=M j) w W/\(∀j,Hm.Own nb I z j->Hm.Own nb vo os j)/\(∀g,Y.ownBlock=M g->vw.ownBlock=M g\/w.heap.size<=g)/\z.length<=4294967296/\lives E z=(Dv.pull (lives nm os)).2/\R.map cI=(Dv.pull (lives nm os)).1.flatMap (λs=>Dv.reads s c0)) (λt d=>?_) ?_
 .have J:TS (on w t d) kb nb c vu us dl vo vw ws nm os cnt ep sq:=hS.heap rfl;obtain⟨tm,df⟩:=a;obtain⟨sz,ac,t2,t3,t4⟩:=hA;dsimp only at sz ac t2 t3 t4;subst ac;obtain⟨u0,u1,u2,u3,u4,u5,u6,u7,u8,u9,ba,cw,a8,bz,ct,b8,av,cj,aw,a2,bb,c2,a1,az,b7,ao,cu,cv,c4,ap,c3,b1,de,bs,bg,cl,cy,bu,cc,bw,co,ce,bl,cr,cg,cn,ca,ar,a4,a9,bq,bj,ak,br,dh,b0,bv,c5,bh,dg,bp,cx,cq,c9,dj,cd,b5,c1,bd,au,c6,a6,ay,bm,b9,am,b6,bo,aq,a0,ck,a5,aj,db,a3,di,bk,a7,bn,ci,cf,cz,an,rfl⟩:=Hm.Wv sz;simp only[eX,eU,dX,aK]at t2 t3 t4;subst t2 t3 t4;obtain⟨ah,tt,fz,q1,q2,q3,_⟩:=J.ht;refine Hm.Qk b2 b4 kb nb c0 vo vw nm os ws hB.h2 hB.h4 J.d.obj rfl rfl rfl J.ch ag J.d.wait J.d.txs J.hd ⟨ah,tt,fz,q1,q2,q3⟩ ae aa ?_;intro D W' v9 af R cs' I E z hT hP h1 h2 h3 h4;exact⟨rfl,D,I,af,R,E,z,rfl,h4,h2,J.pulled hT hP,hT.jM.h.heaps rfl rfl,hP.own,hT.own,hP.len,h1,hT.fst⟩
 grind
end
end
end Pa
namespace Fr
section
variable {s:List UInt8}
def be:Nat->Nat->List UInt8
 |0,_=>[]
 |k+1,v=>be k (v/256)++[UInt8.ofNat (v%256)]
def FV:∀k v,(be k v).length=k
 |0,_=>rfl
 |k+1,v=>by rw[be,aS,FV];rfl
def Jk:∀(k:Nat)(s:List UInt8)(p:Nat),p+k<=s.length->(s.drop p).take k=be k (big s p k)
 |0,_,_,_=>by simp[be]
 |k+1,s,p,h=>by
  have h2:=(s.getD (p+k) 0).toNat_lt
  rw[big,be,show(256*big s p k+(s.getD (p+k) 0).toNat)/256=big s p k from by omega,<-Jk k s p aA,show(256*big s p k+(s.getD (p+k) 0).toNat)%256=(s.getD (p+k) 0).toNat from by omega,
   eY (by grind),List.getElem_drop]
  congr 2
  rw[aY,aO aA];simp
def fits(x:F):Prop:=x.chan<4294967296/\x.num<65536/\x.data.length<65536
def enc(x:F):List UInt8:=be 4 x.chan++be 2 x.num++be 2 x.data.length++x.data++[if x.last then 1 else 0]
def OZ(x:F):(enc x).length=9+x.data.length:=by simp[enc,FV];omega
def aag{p:Nat}{x:F}{n:Nat}(h:one s p=M (x,n)):s.drop p=enc x++s.drop (p+n)/\fits x/\n=(enc x).length:=by
 have aa:=one_le h;unfold one at h;split at h
 .simp at h
 .rename_i h9;split at h
  .simp at h
  .rename_i hN;split at h
   .simp at h
   .rename_i hc;simp only[aK,dJ]at h;obtain⟨rfl,rfl⟩:=h;have Y:=Jk 4 s p aA;have b2:=Jk 2 s (p+4) aA;have I:=Jk 2 s (p+6) aA;have z:=uD s p 4;have l2:=uD s (p+4) 2;have E:=uD s (p+6) 2;simp only[Nat.reducePow]at z l2 E;generalize big s (p+6) 2=X1 at *;generalize big s p 4=C4 at *;generalize big s (p+4) 2=C2 at *;have hdl:((s.take (p+8+X1)).drop (p+8)).length=X1:=by simp;omega
    refine⟨?_,⟨z,l2,by rw[hdl];exact E⟩,by rw[OZ,hdl]⟩
    have J:[if ((s.getD (p+8+X1) 0).toNat == 1)=aR then(1:UInt8)else 0]=(s.drop (p+8+X1)).take 1:=by
     have R:s.getD (p+8+X1) 0=s[p+8+X1]' aA:=by rw[aY,aO aA];rfl
     rw[R]at hc⊢;rw[List.drop_eq_getElem_cons aA];simp only[List.take_succ_cons,List.take_zero,List.cons.injEq,and_true];obtain h|h:=(by omega:(s[p+8+X1]' aA).toNat=0\/(s[p+8+X1]' aA).toNat=1)
     .rw[h];simp;exact jv.1 (by rw[h];rfl)
     .rw[h];simp;exact jv.1 (by rw[h];rfl)
    have hd:(s.take (p+8+X1)).drop (p+8)=(s.drop (p+8)).take X1:=by rw[List.drop_take];congr 1;omega
    unfold enc;simp only;rw[hdl,J,<-Y,<-b2,<-I,hd];have j:∀(q k:Nat),s.drop q=(s.drop q).take k++s.drop (q+k):=λq k=>by rw[<-iC,List.take_append_drop]
    conv=>lhs;rw[j p 4,j (p+4) 2,show p+4+2=p+6 from rfl,j (p+6) 2,show p+6+2=p+8 from rfl,j (p+8) X1,j (p+8+X1) 1]
    rw[show p+(9+X1)=p+8+X1+1 from by omega];simp only[fM]
def cat(l:List F):List UInt8:=l.flatMap enc
def JW:∀(f:Nat)(s:List UInt8)(p:Nat)(l:List F),rest f s p=M l->s.drop p=cat l/\∀x,x∈l->fits x
 |0,s,p,l,h=>by
  simp only[rest]at h;split at h
  .simp at h;subst h;simp[cat];assumption
  .simp at h
 |f+1,s,p,l,h=>by
  rw[rest]at h;split at h
  .simp at h;subst h;simp[cat];assumption
  .cases ho:one s p with
   |none=>rw[ho]at h;simp at h
   |some x=>
    obtain⟨x,n⟩:=x;rw[ho]at h;simp only at h;obtain⟨t,ht,rfl⟩:=bI.1 h;obtain⟨E,h2,_⟩:=aag ho;obtain⟨h3,h4⟩:=JW f s _ t ht;refine⟨by rw[E,h3];simp[cat],λy z=>?_⟩;obtain rfl|z:=dD.1 z
    .exact h2
    .exact h4 y z
def Ov{l:List F}(h:frames s=M l):s=0::cat l/\l≠[]/\∀x,x∈l->fits x:=by
 unfold frames at h;split at h
 .simp at h
 .rename_i h2;obtain⟨h3,h4⟩:=JW _ _ _ _ h
  have hs:s=0::s.drop 1:=by
   cases s with
   |nil=>simp at h2
   |cons x r=>
    grind
  refine⟨hs.trans (by rw[h3]),?_,h4⟩;rintro rfl;have:(s.drop 1).length=0:=by rw[h3];rfl
  rw[dW]at this;omega
end
end Fr
namespace Pa
open Go Go.Conc Go.RowKit Go.Joins
open Hm (ptr kD jF jP TS jL kW AL PC PB PW lives wV wG wP takeB AX ops2 Fits)
open Dv (X2 Cf Ch Tx)
open Po hiding X2 H B IT PR NB
open Cr (Xh)
section
variable {w':U}
def Tk(kb nb:Nat)(vu vo vw:X)(os:List PC)(k:Nat):Prop:=k=kb\/vu.ownBlock=M k\/vw.ownBlock=M k\/Hm.Own nb vo os k
def pV{XS:Nat->Prop}{w:U}{u:X2}{vt vl:X}(h:kW w u vt vl)(hc:jL XS w w')(J:∀g,(0<u.txs.length/\vt.ownBlock=M g)\/(0<u.logs.length/\vl.ownBlock=M g)->¬XS g):kW w' u vt vl:=
 ⟨Hm.Rd.kept h.1 hc.size (λI g E z=>hc.block g z (J g (bE ⟨I,E⟩))),Hm.Rd.kept h.2.1 hc.size (λI g E z=>hc.block g z (J g (cD ⟨I,E⟩))),h.2.2⟩
def frJ(u:X2)(j:Nat):Int:=((u.txs[j]?.map (·.fr)).getD 0:Nat)
def adJ(u:X2)(j:Nat):Int:=((u.txs[j]?.map (·.dest)).getD 0:Nat)
def daJ(u:X2)(j:Nat):ByteArray:=⟨((u.txs[j]?.map (·.data)).getD []).toArray⟩
def Vs(c:Cf)(u:X2)(j:Nat):List Fr.F:=Fr.mg c.inbox c.batcher (frJ u j) (adJ u j) (daJ u j).data.toList
def yT(c:Cf)(u:X2)(j:Nat)(t:Tx)(h:u.txs[j]? =M t):Vs c u j=Dv.qP c t:=by unfold Vs frJ adJ daJ Fr.mg Dv.qP;rw[h];simp only[cO,fH,Int.ofNat_inj]
def aai(c:Cf)(u:X2)(h:∀t,t∈u.txs->t.data.length<=2000)(j:Nat):(Vs c u j).length<=222:=by
 cases ht:u.txs[j]? with
 |some t=>rw[yT c u j t ht];exact Dv.zu c t (h t (aX ht))
 |none=>
  unfold Vs daJ Fr.mg;rw[ht];split
  .simp[Fr.frames]
  .simp
def Uk(c:Cf)(u:X2)(j:Nat)(x:Fr.F)(h:x∈Vs c u j):x.num<65536/\x.data.length<=65536:=by
 unfold Vs Fr.mg at h;split at h
 .cases z:Fr.frames (daJ u j).data.toList with
  |none=>rw[z]at h;simp at h
  |some l=>
   rw[z]at h;obtain⟨_,h2,h3⟩:=(Fr.Ov z).2.2 x h;exact⟨h2,aA⟩
 .simp at h
def G5:∀{l m:List Nat},l.Nodup->(∀x,x∈l->x∈m)->l.length<=m.length
 |[],_,_,_=>dL _
 |x::l,m,hn,hs=>by
  have E:=hs x dQ;obtain⟨I,h2⟩:=iE.1 hn;have:=G5 (l:=l) (m:=m.erase x) h2 (λy z=>(List.mem_erase_of_ne (λe=>I (by rw[<-e];exact z))).2 (hs y (cZ _ z)));rw[List.length_erase_of_mem E]at this;have:=List.length_pos_of_mem E;rw[aU];omega
section
variable {w:U}
variable {kb nb:Nat}{c:Cf}{vu:X}{us:List PB}{dl:Nat->List (List UInt8)}{vo vw:X}{ws:List PW}{nm:AL}{os:List PC}{cnt ep sq:Nat}{u:X2}{ta la:Option eM}{tn tc ln lc:Nat}
def acg(I:kW w u (.slice ta tn tc) (.slice la ln lc))(J:∀t,t∈u.txs->t.data.length<=2000):tn=u.txs.length/\∃tb p0,Xh (λ_=>True) w ta tb p0 tn (frJ u) (adJ u) (daJ u):=by
 obtain⟨hx,_⟩:=I;obtain⟨_,a,cap,e,_,z⟩:=hx;cases e;refine⟨rfl,?_⟩;obtain R|R:=gQ u.txs.length
 .exact⟨0,0,λh=>aA,λj E=>aA,λj E=>aA⟩
 .obtain⟨g,off,rfl,Y,hc⟩:=z R;refine⟨g,off,λ_=>⟨rfl,trivial⟩,λj E=>?_,λj E=>?_⟩<;>obtain⟨t,ht⟩:∃t,u.txs[j]? =M t:=⟨_,aO E⟩
  .have q:=Hm.D6.get (w:=w) (l:=u.txs) (g:=g) (off:=off) (cap:=tc) ⟨‹_›,_,_,rfl,‹_›,λ_=>⟨g,off,rfl,Y,hc⟩⟩ ht;unfold frJ adJ daJ;rw[ht];exact q
  .unfold daJ;rw[ht];have:=J t (aX ht)
   show t.data.toArray.size<=_
   simp;omega
def Oy(hS:TS w kb nb c vu us dl vo vw ws nm os cnt ep sq){Y ac:X}{ws':List PW}{ai:AL}{I:List PC}(J:TS w' kb nb c vu us dl Y ac ws' ai I cnt ep sq)(hc:jL (λj=>j=kb\/j=nb\/vw.ownBlock=M j) w w')(R:∀j,Hm.Own nb Y I j->Hm.Own nb vo os j):I.length<=os.length:=by
 have h:=G5 (l:=I.map _) (m:=os.map (·.blk)) J.ch.apart (λx hx=>?_)
 .simpa using h
 obtain⟨o,ho,rfl⟩:=bM.1 hx;have E:w'.heap[o.blk]? =_:=(J.ch.chans o ho).obj;unfold Hm.vW at E
 have aj:o.blk≠kb:=λe=>by
  rw[e,J.d.obj]at E;simp at E
 have ah:o.blk≠nb:=λe=>Hm.lg E J.ch.named e
 have hold:vw.ownBlock≠M o.blk->o.blk<w.heap.size->w.heap[o.blk]? =_:=λh hl=>(hc.block _ hl (by
  grind)).symm.trans E
 obtain e|e|⟨o',af,e|e⟩:=R o.blk (cD (cD ⟨o,ho,bE rfl⟩))
 .exact Xs e ah
 .exfalso;obtain⟨ae,z⟩:=hS.ch.order.obj e;have hv:=Hm.jH hS.d.wait z aB;rw[hold hv (jE z)]at z;simp at z
 .grind
 .exfalso;have aa:=hS.ch.chans o' af
  have ag:o'.ch.spoilt=aL:=by
   cases hs:o'.ch.spoilt with
   |false=>rfl
   |true=>have:=(aa.spoilt hs).2;rw[e]at this;cases this
  obtain⟨B,hB,hm⟩:=(aa.sound ag).map;rw[e]at hB;cases hB;obtain⟨es,cl,hb,_⟩:=hm
  have hv:vw.ownBlock≠M o.blk:=λq=>by
   obtain⟨ae,z⟩:=hS.d.wait.obj q;rw[hb]at z;cases z
  rw[hold hv (jE hb)]at hb;cases hb
def TS.mark(z:TS w kb nb c vu us dl vo vw ws nm os cnt ep sq){D:Nat}(hD:w.heap[D]? =M (eI (M []))):TS (w.putObj D (eI Z)) kb nb c vu us dl vo vw ws nm os cnt ep sq:=by
 have J:∀(j:Nat)(cs:Array X)(t:Nat)(fz:Nat×Nat),w.heap[j]? =M (aG cs t fz)->j≠D:=λj cs t fz h e=>by
  grind
 have ac:∀(j:Nat)(q:IntKind)(m:AL),Hm.lS w j q m->j≠D:=λj q m h e=>by
  obtain⟨es,cl,h,_⟩:=h;subst e;rw[hD]at h;cases h
 have R:∀j,j≠D->(w.putObj D (eI Z)).heap[j]? =w.heap[j]?:=λj hj=>qT hj
 have E:∀{e s n:Nat}{v:X}{xs:List X},Hm.Row w e s v n xs->Hm.Row (w.putObj D (eI Z)) e s v n xs:=λhr=>hr.kept (λg hg=>R g (by
  obtain⟨ae,Y⟩:=hr.obj hg;exact J g _ _ _ Y))
 have aa:1≠D:=by
  obtain⟨hc,t,fz,q,_⟩:=z.ht;exact J _ _ _ _ q
 have I:∀i,(w.putObj D (eI Z)).cell? ⟨1,i,Z⟩=w.cell? ⟨1,i,Z⟩:=λi=>by unfold eB;rw[R _ aa]
 refine⟨⟨(R _ (J _ _ _ _ z.d.obj)).trans z.d.obj,E z.d.upper,E z.d.wait,λj p hp=>E (z.d.deps j p hp),λp hp=>E (z.d.txs p hp)⟩,⟨z.ch.named.of_block (R _ (ac _ _ _ z.ch.named)),E z.ch.order,λo ho=>?_,z.ch.apart,z.ch.maps,z.ch.far,z.ch.entries⟩,⟨⟨by rw[I];exact z.hd.1.1,by rw[I];exact z.hd.1.2.1,by rw[I];exact z.hd.1.2.2⟩,⟨by rw[I];exact z.hd.2.1,by rw[I];exact z.hd.2.2.1,by rw[I];exact z.hd.2.2.2⟩⟩,by rw[R _ aa];exact z.ht⟩;have h:=z.ch.chans o ho;refine⟨(R _ (J _ _ _ _ h.obj)).trans h.obj,h.fine,h.small,h.lastLt,λe=>?_,h.spoilt⟩;have s:=h.sound e;obtain⟨B,hB,hm⟩:=s.map;exact⟨⟨B,hB,hm.of_block (R _ (ac _ _ _ hm))⟩,s.size,s.room,s.ended,s.last⟩
def QH(rd:Cr.ReadW){Post:vU}{D:Nat->Prop}{b₀:cR}{a₀:Act}{ops:Array ij}{i:Nat}{rest:List Nat}{k:List pS}{XX A:List cR}{o:ij}{x y:jN}{cn:Array cG}(ho:ops[i]? =M o)(hw:cP o (yielded ops a₀.tmps)=aR)(cq:o.op=.call { callee:=.value (.func 31),args:=#[x,y],argTypes:=cn })(ex:a₀.eval x=ptr kb)(ey:a₀.eval y=fX #[N ab u.id,N ab u.time,.slice ta tn tc,.slice la ln lc])(de:Tryz.prog.globals.size<=w.heap.size)(hS:TS w kb nb c vu us dl vo vw ws nm os cnt ep sq)(ct:kW w u (.slice ta tn tc) (.slice la ln lc))(ah:∀g,(0<u.txs.length/\(aH ta tn tc).ownBlock=M g)\/(0<u.logs.length/\(aH la ln lc).ownBlock=M g)->g<w.heap.size/\¬Tk kb nb vu vo vw os g)(z:Dv.small u=aR)(hcf:Dv.jK c=aR)(dq:us.length<=60)(dg:os.length<=1000000)(bs:Fits c.most (lives nm os))(cy:ws.length+4096*(lives nm os).length<=2000000000)(az:∀D' w' b1 v3 bo bq ak ar E,TS w' kb nb c b1 (us++[(u.id,u.time,v3)]) (Nz dl us.length u) bo bq (ws++ak) ar E cnt ep sq->jL (Tk kb nb vu vo vw os) w w'->(∀j,Tk kb nb b1 bo bq E j->Tk kb nb vu vo vw os j\/w.heap.size<=j)->E.length<=os.length+4440->Fits c.most (lives ar E)->(lives ar E,(ws++ak).map cI)=Dv.take c u us.length (lives nm os) (ws.map cI)->Wq D' Post XX (b₀.at (a₀.put o.dst (cQ #[])) (.inRegion ops rest::k)) A w'):Wq D Post XX (b₀.at a₀ (.inRegion ops (i::rest)::k)) A w:=by
 obtain⟨dm,dr,bl,cc⟩:=Dv.qj z
 have dk:1<=c.timeout/\c.timeout<=8/\1<=c.window/\c.window<=8/\0<=c.drift/\c.drift<=100/\2<=c.step/\c.step<=20/\1<=c.most/\c.most<=4096:=by
  unfold Dv.jK at hcf;exact Z2 hcf
 refine Wq.call ho hw cq (fq Tryz.func31 rfl) rfl SG ?_;simp only[fQ,eP,fP,ex,ey,show Tryz.f31.ntmps=93 from rfl,dR,aU,bY,Nat.reduceAdd,Nat.reduceSub,dH,dG,dU,dI,dS,dN];refine Tf (u:=u) hS rfl ?_;intro a1 w1 cd am ba;have bw:=hS.kept am (λ_ _ e=>e);have an:=pV ct am (λ_ _ e=>e);refine aaJ bw cd ba an (λx hx=>by have:=cc x hx;omega) aA ?_;intro a2 w2 b3 v3 b5 bu af ap;have bp:=ba.jM af (λj cs t fz h ht=>bw.Uj h aA aA)
 have bh:=pV an af (λg hg=>by
  rintro(e|e)
  .exact(ah g hg).2 (bE e)
  .exact(ah g hg).2 (cD (bE e)))
 refine WL (c0:=us.length) bu b5 bp aA aA aA ?_;intro a3 w3 b9 a7 aj cf bb ag av cx R;have au:=bp.jM ag (λj cs t fz h ht=>bu.JA h aA aA aA)
 have bj:=pV bh ag (λg hg=>by
  rintro(e|e)
  .exact(ah g hg).2 (bE e)
  .exact(ah g hg).2 (cD (cD (cD e))))
 have s1:=am.size;have s2:=af.size;have s3:=ag.size;refine Wq.seq (Wq.seq ?_);obtain⟨dj,bg⟩:=TL;rw[bg];obtain⟨br,tb,p0,ce⟩:=acg bj bl;refine abn (u:=u) (c:=c) (fs:=Vs c u) rd cf au.h2 au.h3 bb.d.obj aA aA ce (λ_ _=>rfl) ?_;intro a4 w4 D4 co cv ca cg hF;have ae:jL (λ_=>False) w3 w4:=⟨by have:=hF.size;omega,λj hj _=>hF.old j hj⟩
 have s4:=ae.size;have bv:=bb.kept ae (λ_ _ e=>e);have bm:=au.jM ae (λ_ _ _ _ _ _ e=>e);obtain⟨vs,a9,bk,a0⟩:=hF.rows;have ac:Hm.lT (Vs c u) tn=Dv.heard c u.txs:=by rw[br];exact Hm.MK c _ _ (yT c u)
 have c9:(Hm.lT (Vs c u) tn).length<=4440:=by rw[ac];exact Dv.zM c z
 refine aaO (c0:=us.length) (C:=w3.heap.size+1) (m:=tn) (vs:=vs) (fs:=Vs c u) bv co bm cv ca cg a9 bk (λi hi=>?rows) (λi f _ hf=>Uk c u i f hf) aA (λi=>by have:=aai c u bl i;omega) aA aA ?_
 case rows=>
  obtain⟨v,h1,h2⟩:=a0 i hi;refine⟨v,h1,h2.imp id ?_⟩;rintro⟨g,cap,b4,r1,_,r2,r3,_,_,r4⟩;exact⟨g,cap,b4,r1,r2,r3,r4⟩
 intro a5 w5 b8 ai I cr bd a8 ck c1 aa;have ci:=bm.jM a8 (λj cs t fz h ht=>bv.JA h aA aA aA);have s5:=a8.size;have aw:Fits c.most (lives a7 aj):=by rw[R];exact Hm.Kw bs
 have Y:Fits c.most (lives ai I):=by rw[aa];exact Hm.FN aA _ aw
 have c4:(lives a7 aj).length<=(lives nm os).length:=by rw[R];exact gZ _ _
 have cw:(lives ai I).length<=(lives nm os).length+4440:=by
  rw[aa];have:=Dv.uf c.most us.length (Hm.lT (Vs c u) tn) (lives a7 aj);omega
 have di:=Dv.DW (lives ai I);refine UU (c0:=us.length) bd cr ci aA (λs hs=>by have:=(Hm.zf Y).1 s hs;omega) aA ?_;intro a6 w6 dd cj b2 ak cl b6 b7 hD dh bz ay J aq cz ao bn;have s6:=ay.size;have cu:=Oy bd bz ay J;refine Wq.fin λtodo=>Wq.takes (b:=dd) (ds:=[]) rfl b7 hD ?_;refine Wq.leave (v:=cQ #[]) (fn:=Tryz.f31) rfl rfl rfl (fq Tryz.func31 rfl) (λw=>by simp[results,Tryz.results31,go_sem]) ?_;rw[fO,ho];have b0:∀j,j<w.heap.size->(w6.putObj dd (eI Z)).heap[j]? =w6.heap[j]?:=λj hj=>qT aA;have db:(w6.putObj dd (eI Z)).heap.size=w6.heap.size:=World.putObj_size;have g3:∀j,Hm.Own nb b9 aj j->Hm.Own nb vo os j\/w.heap.size<=j:=λj hj=>(av j hj).imp id (λq=>aA)
 have g5:∀j,Hm.Own nb b8 I j->Hm.Own nb vo os j\/w.heap.size<=j:=λj hj=>by
  grind
 refine az D4 _ b3 v3 cj b2 ak cl b6 (TS.mark bz hD) ⟨aA,λj hj hn=>?jM⟩ (λj hj=>?own) aA (by rw[ao];exact(Hm.zf Y).2) ?take
 case jM=>
  rw[b0 j hj,ay.block j aA ?c6,a8.block j aA ?c5,ae.block j aA (λe=>e),ag.block j aA ?c3,af.block j aA ?c2,am.block j hj (λe=>e)]
  case c6=>
   rintro(e|e|e)
   .exact hn (bE e)
   .rw[e]at hn;exact hn (cD (cD (cD (bE rfl))))
   .exact hn (cD (cD (bE e)))
  case c5=>
   rintro(e|e)
   .exact hn (bE e)
   .obtain q|q:=g3 j e
    .exact hn (cD (cD (cD q)))
    .omega
  case c3=>
   rintro(e|e)
   .exact hn (bE e)
   .exact hn (cD (cD (cD e)))
  case c2=>
   rintro(e|e)
   .exact hn (bE e)
   .exact hn (cD (bE e))
 case own=>
  obtain q|q|q|q:=hj
  .exact bE (bE q)
  .obtain r|r:=ap j q
   .exact bE (cD (bE r))
   .exact cD aA
  .obtain r|r:=aq j q
   .exact bE (cD (cD (bE r)))
   .exact cD aA
  .obtain r|r:=g5 j (J j q)
   .exact bE (cD (cD (cD r)))
   .exact cD r
 case take=>
  rw[Hm.Wu c u us.length (lives nm os) (ws.map cI) (Vs c u) (yT c u) (lives ai I) (by rw[aa,R,br]),ao,bJ,bn]
end
end
end Pa
namespace Hm
open Go.RowKit Go.Joins Go.Shelf
open Dv (X2 Cf Ba Lo)
attribute [local go_sem] Oper.semAt_some
variable {kb nb:Nat}{vu vo vw:X}{us:List PB}{dl:Nat->List (List UInt8)}{W:U}
def Qh:(PQ.info? 52).map (λi=>(i.zero,i.size,i.bytes))=M (M lo0,8,96):=XN
def SJ(c:Cf)(us:List PB)(dl:Nat->List (List UInt8))(XS:Nat->Prop)(I:Nat)(v0:X)(z:List PL)(w:U)(E:List DX)(W:U):Prop:=∃ps a cap,SI c us dl XS I v0 z w E W ps a cap
def SJ.own(c:Cf)(us:List PB)(dl:Nat->List (List UInt8))(XS:Nat->Prop)(Y:Nat)(v0:X)(z:List PL)(w:U)(n:Nat)(hn:↑w<=n):rq n (SJ c us dl XS Y v0 z w):=by rintro R A B row ⟨ps,a,cap,h⟩ J hr;obtain⟨M',hc,I,E⟩:=lH J hr;exact⟨ps,a,cap,h.nU hc I (λk hk=>E k aA)⟩
def DA.own{c:Cf}{d:sD}{A B:U}{XS:Nat->Prop}(h:DA A kb c vu us dl nb vo vw d)(hc:jI XS A B)(E:o8 XS A):DA B kb c vu us dl nb vo vw d:=by obtain⟨z,I,h2⟩:=h;exact⟨z,I.nU hc E,h2⟩
def Xe{b:Nat}{v:X}(h:W.cell? ⟨b,0,Z⟩=M v):∃cs t z,W.heap[b]? =M (aG cs t z):=by
 unfold eB at h;simp only at h;split at h
 .rename_i cs t z hk;exact⟨cs,t,z,hk⟩
 .cases h
def EP.own(kb z:Nat)(c:Cf)(vu:X)(us:List PB)(dl:Nat->List (List UInt8))(nb:Nat)(vo vw:X)(s0:sD)(n:Nat):rq n (EP kb z c vu us dl nb vo vw s0):=by rintro J A B row ⟨R,h2⟩ I Y;obtain⟨M',hc,E,aa⟩:=lH I Y;obtain⟨cs,t,fz,hk⟩:=Xe h2;exact⟨R.own hc E,(bX (hc.block z (jE hk) (E _ _ _ _ hk))).trans h2⟩
def Zf.own(kb:Nat)(c:Cf)(vu:X)(us:List PB)(dl:Nat->List (List UInt8))(nb:Nat)(vo vw:X)(s0:sD)(n:Nat):rq n (Zf kb c vu us dl nb vo vw s0):=by rintro I A B row J E R;obtain⟨M',hc,z,Y⟩:=lH E R;exact DA.own J hc z
def DY.own(kb E:Nat)(c:Cf)(vu:X)(us:List PB)(dl:Nat->List (List UInt8))(nb:Nat)(vo vw:X)(s0:sD)(n lo:Nat):rq n (λ(q:List DX×DX) W=>DY kb E c vu us dl nb vo vw s0 q.1 q.2 lo W):=by rintro q A B row ⟨h1,⟨vd,h2,h3⟩,h4,h5,h6⟩ J R;have z:=EP.own kb E c vu us dl nb vo vw s0 n _ A B row h6 J R;obtain⟨M',hc,I,aa⟩:=lH J R;exact⟨h1,⟨vd,h2,kQ.jM h3.1 hc I.str,h3.2⟩,λb Y=>(h4 b Y).jM hc I.str,h5,z⟩
def DY.pl{R:Nat}{c:Cf}{s0:sD}{J:List DX}{x:DX}{lo:Nat}{w:U}(h:DY kb R c vu us dl nb vo vw s0 J x lo W)(aa:↑w<=lo)(Y:∀k,(k=kb\/vw.ownBlock=M k)->k<w.heap.size)(I:∀p,p∈s0.ws->∀g,p.2.ownBlock=M g->¬(g=kb\/vw.ownBlock=M g)):∃p:PL,p.1=pJ c us dl x/\LAt (λk=>k=kb\/vw.ownBlock=M k) W p/\jJ p=x.lv.cells.toList:=by
 obtain⟨h1,⟨vd,h2,h3⟩,h4,h5,h6⟩:=h;refine⟨(pJ c us dl x,txV x.ob,vd),rfl,⟨?_,?_,?_,?_⟩,?_⟩
 .cases z:x.ob with
  |none=>
   unfold pJ kQ txV Cm;rw[z];exact Row.nil _ _ _
  |some b=>
   have:=h4 b z;unfold pJ txV Cm;rw[z];exact this
 .exact h3.1
 .intro g E;cases z:x.ob with
  |none=>
   rw[z]at E;cases E
  |some b=>
   rw[z]at E;exact I b (Yw h1 z).1 g E
 .intro g E e;have:=h3.2 g E;have:=Y g e;omega
 .unfold DX.v loV at h2;have:=Z1 (λv=>match v with|.agg l=>l.toList|_=>[]) h2;dsimp only at this;rw[this];rfl
def vT(kb cB:Nat)(c:Cf)(vu:X)(us:List PB)(dl:Nat->List (List UInt8))(nb:Nat)(vo vw:X)(s0:sD)(v0:X)(z:List PL)(w:U)(hG:Good c us s0)(bu:2<=c.step)(hdl:∀j,(dl j).length<=4294967296)(hD:rH w kb c vu us dl nb vo vw s0.ws s0.cnt s0.ep s0.sq)(ar:rp w cB 71 (aD (M ⟨kb,0,Z⟩)))(b0:0<us.length)(ag:Row w 52 8 v0 z.length (z.flatMap jJ))(aq:∀p,p∈z->kQ w p.2.1 p.1.txs/\kQ w p.2.2 p.1.deps)(a2:z.length<=s0.cnt):dE PQ 32 #[v0,.func (.func 54) #[] #[aD (M ⟨cB,0,Z⟩)]] w λe w'=>∃E ps a cap,e=bO (.slice a (z++ps).length cap)/\DS c us s0 E/\ps.map cI=E.map (pJ c us dl)/\Row w' 52 8 (.slice a (z++ps).length cap) (z++ps).length ((z++ps).flatMap jJ) /\(∀p,p∈z++ps->kQ w' p.2.1 p.1.txs/\kQ w' p.2.2 p.1.deps)/\Zf kb c vu us dl nb vo vw s0 E w'/\jI (λk=>(k=kb\/vw.ownBlock=M k)\/v0.ownBlock=M k) w w'/\(∀g,(aH a (z++ps).length cap).ownBlock=M g->v0.ownBlock=M g\/w.heap.size<=g):=by
 obtain⟨XS,ai⟩:∃XS:Nat->Prop,XS=λk=>k=kb\/vw.ownBlock=M k:=⟨_,rfl⟩
 have av:∀k,XS k->k<w.heap.size:=by
  rw[ai];rintro k (rfl|e)
  .exact(jE hD.obj)
  .exact hD.wait.lt e
 have ay:∀k cs t fz,w.heap[k]? =M (aG cs t fz)->XS k->t=100\/t=118:=by
  rw[ai];rintro k cs t fz hk (rfl|e)
  .have:=hD.obj;rw[hk]at this;simp at this;exact bE this.2.1
  .obtain⟨bh,q⟩:=hD.wait.obj e;rw[hk]at q;simp at q;exact cD q.2.1
 have ap:¬XS cB:=λe=>by rcases ay cB _ _ _ ar e with h|h<;>revert h<;>decide
 have bn:∀g,v0.ownBlock=M g->¬XS g:=λg hg e=>by
  obtain⟨bh,q⟩:=ag.obj hg;rcases ay g _ _ _ q e with h|h<;>revert h<;>decide
 have ak:∀v l,kQ w v l->∀g,v.ownBlock=M g->¬XS g:=λv l h g hg e=>by
  obtain⟨bh,q⟩:=Row.obj h hg;rcases ay g _ _ _ q e with h|h<;>revert h<;>decide
 have a9:=λp hp=>ak _ _ (hD.txs p hp);have aj:=JX kb cB c vu us dl nb vo vw s0 hG bu hdl (by rw[ai]at ap;exact ap);have bb:=λE x n W (h:DY kb cB c vu us dl nb vo vw s0 E x n W) (hn:↑w<=n)=>DY.pl h hn (by rw[ai]at av;exact av) (by rw[ai]at a9;exact a9)
 have a1:∀(E:List DX)(x:DX),Steps c us s0 (E++[x])->s0.cnt+E.length<4294967296:=λE x h=>by
  have h1:=Tq h;have h2:=((hG E h1).1 b0).cnt;rw[(LW h1).2]at h2;exact h2
 rw[<-ai]at aj bb;obtain⟨a0,J,rfl⟩:=ag.slice;rw[show(λk=>(k=kb\/vw.ownBlock=M k)\/(aH a0 z.length J).ownBlock=M k)=(λk=>XS k\/(aH a0 z.length J).ownBlock=M k) from by rw[ai]];obtain⟨V,hV⟩:∃V:U,V=w.alloc (aG #[.slice a0 z.length J] 44):=⟨_,rfl⟩
 have b7:↑V=w.heap.size+1:=by rw[hV];simp
 have ah:Below ↑w w V:=by rw[hV];exact(aJ _ w).alloc jB _
 have bm:rp V ↑w 44 (.slice a0 z.length J):=by unfold rp;rw[hV];exact cT _ _
 have a3:=ar.lt;have a4:EP kb cB c vu us dl nb vo vw s0 [] V:=⟨⟨vw,hD.below ah,λg h=>h⟩,(ah.cell (p:=⟨cB,0,Z⟩) a3).trans ar.cell⟩
 have bj:SJ c us dl XS ↑w (.slice a0 z.length J) z w [] V:=⟨[],a0,J,⟨rfl,by simpa using bm,by simpa using ag.below ah,λp hp=>by
  rw[gI]at hp;exact⟨Row.below (aq p hp).1 ah,Row.below (aq p hp).2 ah,ak _ _ (aq p hp).1,ak _ _ (aq p hp).2⟩,λg hg=>bE (by simpa using hg),.below ah jB _,aA⟩⟩
 have ao:(∀g,(aH a0 z.length J).ownBlock=M g->g≠cB)/\cB<↑w:=⟨λg hg e=>jH ag ar aB (by rw[hg,e]),a3⟩
 have H0:cH _:=jy aj (jy bb (jy a1 (jy av (jy bn (jy a4 (jy bj (jy ah a2)))))));have bq:∀k,XS k->k<V.heap.size:=λk hk=>by have:=av k hk;omega
 clear aj bb a1 bn a4 bj ah hD hG hdl ar ag aq a2 ay ap ak a9 bm;refine gO.1 (callsIn_of_wp_marks (n:=3) (fq Tryz.func32 rfl) rfl trivial ?_ rfl);simp only[Tryz.ntmps32,dR,aU,bY,Nat.reduceAdd,Nat.reduceSub,dH,dG,dU,dI,dS,dN];gi_wp2;rw[<-hV];clear hV;obtain⟨i0,hi,bs,b1,bw⟩:=pa Qh
 refine tq (gf:=54) (lb:=#[.pointer _]) rfl (enters_of (fq Tryz.func54 rfl) XN rfl)
  (Lu H0.out.1) bq (λ_ _ _ _ _ h=>h) (EP.own kb cB c vu us dl nb vo vw s0 _) (Zf.own kb c vu us dl nb vo vw s0 _) (λn=>DY.own kb cB c vu us dl nb vo vw s0 _ n) (λ_=>rfl)
  _ (λ_ _ _=>False) (SJ.own c us dl XS _ _ z w _ aA) (λ_ _ _ _ _ h=>h.elim) H0.out.2.2.2.2.2.2.1 H0.out.2.2.2.2.2.1
  (λx B=>{ tmps:=#[.slice a0 z.length J,.func (.func 54) #[] #[aD (M ⟨cB,0,Z⟩)],aD (M ⟨↑w,0,Z⟩),aE,aH Z 0 0,aD (M ⟨B,0,Z⟩),.func (.func 54) #[] #[aD (M ⟨cB,0,Z⟩)],.agg x.lv.cells,aE,aE,aE,aE,aE],defers:=[] })
  (λx W=>W.alloc (aG x.lv.cells 52)) (λ_ W k hk=>aZ W _ k hk) (λ_ W=>aC) (λ_ W l o hl=>yw W l _ o hl) ?assign ?body ?done ?stop
 case assign=>
  intro l x W K hK;simp only[DX.encs,DX.v,LV.cells]at hK⊢;gi_wp2;exact hK
 case body=>
  rintro l E x W0 W1 b4 b3 ⟨r,hr⟩ ⟨ps,a,cap,hI⟩ hc _ hy;have bz:=hI.jM.size;obtain⟨p,az,aw,au⟩:=H0.out.2.1 E x _ W1 hy bz;have Y:=hI.turn hc (λe=>by have:=H0.out.2.2.2.1 _ e;omega) H0.out.2.2.2.2.1 H0.out.2.2.2.1;have b5:=H0.out.2.2.1 E x hy.1
  have b2:ps.length=E.length:=by
   have:=Z1 qt hI.los;simpa using this
  have b6:=H0.out.2.2.2.2.2.2.2.2;have b8:=hc.size;obtain⟨X1,hN⟩:∃X1,(z++ps).length=X1:=⟨_,rfl⟩
  have ca:X1<4294967296:=by rw[<-hN,aS];omega
  have an:=Y.box;have ba:=Y.row;rw[hN]at an ba;obtain⟨G,bd,gb,gk⟩:=jD W1 x.lv.cells 52;rw[<-bd];have gs:↑G=W1.heap.size+1:=by rw[bd];simp
  clear bd;unfold LV.cells at gk;obtain⟨k0,k1,k2,k3,k4,k5,k6,k7,kf⟩:=lq gk;have bG:rp G ↑w 44 (.slice a X1 cap):=(gb.block _ an.lt).trans an;have m0:=bG.cell;have qG:=ba.below gb;have Hc:cH _:=jy bG (jy qG (jy hy (jy Y (jy hc (jy az (jy aw (jy au (jy gb (jy hN hI)))))))));clear bG qG hy Y hc az aw au gb hN hI hr an ba gk;gi_wp2_with (gi_at_builtin;refine vH _ (by rfl) (cN 8) (cN 10) 44 (by rfl) 52 i0 _ 8 96 (uq Tryz.underlying44) hi bs b1 bw (by rfl) aB _ X1 _ (by rfl) (Hc.out.2.1.below ((aJ _ G).alloc jB _)) ⟨W1.heap.size+1,0,Z⟩ 1 1 x.lv.cells.toList (by rfl) aB (by rfl) (by intro j u I;rw[<-gs];unfold LV.cells at I;match j,I with|0,I=>(simp at I;subst I;simp[jp])|1,I=>(simp at I;subst I;simp[jp])|2,I=>(simp at I;subst I;simp[jp])|3,I=>(simp at I;subst I;simp[jp])|4,I=>(simp at I;subst I;simp[jp])|5,I=>(simp at I;subst I;simp[jp])|6,I=>(simp at I;subst I;simp[jp])|7,I=>(simp at I;subst I;simp[jp])) (by intro u hu;unfold LV.cells at hu;simp at hu;rcases hu with rfl|rfl|rfl|rfl|rfl|rfl|rfl|rfl<;>rfl) (by unfold maxLen;omega) aA ?_;intro g off af w4 aa ac;have e0:rp w4 ↑w 44 (.slice a X1 cap):=ac.keep (Hc.out.2.1.below ((aJ _ G).alloc jB _)) (Hc.out.1.alloc _) aB;have n0:=e0.cell;have n1:=e0.frozen;have HF:cH _:=jy aa (jy ac e0);clear aa ac e0)
  obtain⟨aa,ac,e0⟩:=HF.out;obtain⟨bG,qG,hy,Y,hc,az,aw,au,gb,hN,hI⟩:=Hc.out;have e1:rp (w4.setCell ⟨↑w,0,Z⟩ (aH (M ⟨g,off,Z⟩) (X1+1) af)) ↑w 44 (aH (M ⟨g,off,Z⟩) (X1+1) af):=e0.set _;have bl:=(aJ _ G).alloc jB (aG x.lv.cells 52);have bp:=qG.below bl
  have e2:Row (w4.setCell ⟨↑w,0,Z⟩ (aH (M ⟨g,off,Z⟩) (X1+1) af)) 52 8 (aH (M ⟨g,off,Z⟩) (X1+1) af) (X1+1) ((z++ps).flatMap jJ++jJ p):=by
   rw[au];exact aa.jM (jI.set w4 _ 0 _) (λq hq e=>jH aa e0 aB (by rw[hq,e]))
  have ae:jI (λk=>(aH a X1 cap).ownBlock=M k\/k=w.heap.size) W1 (w4.setCell ⟨↑w,0,Z⟩ (aH (M ⟨g,off,Z⟩) (X1+1) af)):=
   (((jI.below gb jB _).trans (jI.below bl jB (λ_=>False)) (λ_ _ e=>e.elim)).trans ac.jM (λk _ e=>bE e)).trans (jI.set w4 _ 0 _) (λk _ e=>cD e)
  have a8:KeepsOthers G (w4.setCell ⟨↑w,0,Z⟩ (aH (M ⟨g,off,Z⟩) (X1+1) af)):=((KeepsOthers.alloc G _).trans (ac.others bp)).trans (KeepsOthers.setCell _ _ _);rw[<-hN]at ae e1 e2
  obtain⟨hT,R⟩:=Y.more az aw ae e1 e2 (λq hq=>by
   rw[hN];have hq:g=q:=by simpa[cV]using hq
   subst hq;obtain q|q:=ac.own
   .exact bE q
   .refine cD ?_;have q2:(G.alloc (aG x.lv.cells 52)).heap.size<=g:=q;simp at q2;omega) jB
  rw[hN]at ae hT R;refine⟨a8.from _,?_,?_,_,_,_,R⟩
  .obtain⟨⟨bv,h1,h2⟩,h3⟩:=hy.2.2.2.2;refine⟨⟨bv,h1.typed ae hT,h2⟩,?_⟩;refine(bX (ae.block cB (fG W1 _ h3) ?_)).trans h3;rintro(e|e)
   .rw[<-hN]at e;obtain q|q:=Y.own cB e
    .exact ao.1 cB q rfl
    .have:=ao.2;omega
   .have:=ao.2;omega
  .intro k b9 bk;refine(ae.block k bk ?_).trans (gb.block k bk).symm;rintro(e|e)
   .rw[<-hN]at e;have:=hI.row.lt e;omega
   .have:=hI.big;omega
 case done=>
  rintro D xs W0 W hD br hS ⟨ps,a,cap,hI⟩ hc _ bg hK;have Y:=hI.turn hc (λe=>by have:=H0.out.2.2.2.1 _ e;omega) H0.out.2.2.2.2.1 H0.out.2.2.2.1;have m0:=Y.box.cell;have bo:=grownBy_putObj' W D (eI Z)
  obtain⟨M',a7,a6,a5⟩:=lH (n:=w.heap.size) bo (λr e=>by
   have e:D=r:=by simpa using e
   subst e;exact⟨aA,_,hK,rfl⟩)
  have R:=Y.nU a7 a6 a5;have am:Zf kb c vu us dl nb vo vw s0 xs (W.putObj D (eI Z)):=DA.own bg a7 a6;have HF:cH _:=jy R (jy am hS);clear hI Y R bg am hc a7 a6 a5 bo hS;gi_wp2;refine⟨aC,bE ⟨_,_,rfl,run_takeDeferred hK,?_⟩⟩;obtain⟨R,am,hS⟩:=HF.out;exact⟨_,by simp[results,Tryz.results32,go_sem],xs,ps,a,cap,rfl,hS,R.los,R.row,λp hp=>⟨(R.at_ p hp).txs,(R.at_ p hp).deps⟩,am,R.jM,R.own⟩
 case stop=>
  rintro D c E W0 W hD br _ h;exact h.elim
end Hm
namespace Hm
open Go.RowKit Go.Joins Go.Shelf
def Bh(kb:Nat)(w:U):dE PQ 33 #[aD (M ⟨kb,0,Z⟩)] w λe w'=>e=bO (.func (.func 54) #[] #[aD (M ⟨↑w,0,Z⟩)])/\w'=w.alloc (aG #[aD (M ⟨kb,0,Z⟩)] 71):=by go_enter (fq Tryz.func33 rfl),Tryz.ntmps33;go_wp2_with fail;go_ret;exact⟨rfl,rfl⟩
open Fr (below_drewN)
open Dv (X2 Cf Ba Ch)
section
variable {u1 u3 u6 u7 u8 u9 u10 u11 u12 u13 u14 u15 u16 u17 u18 u19 u20 u21 u22 u23 u24 u25 u26 u27 u28 u29 u30 u31 u32 u0 u4 u5 u2:X}{Q:p9->Act->U->Prop}
noncomputable def RZ:eE:=match Tryz.f15.body with
 |some (bR c _)=>c
 |_=>.skip
noncomputable def GU:eE:=match Tryz.f15.body with
 |some (bR _ (bR c _))=>c
 |_=>.skip
noncomputable def FU:eE:=match Tryz.f15.body with
 |some (bR _ (bR _ (bR c _)))=>c
 |_=>.skip
noncomputable def QY:eE:=match Tryz.f15.body with
 |some (bR _ (bR _ (bR _ (bR c _))))=>c
 |_=>.skip
noncomputable def Rt:eE:=match Tryz.f15.body with
 |some (bR _ (bR _ (bR _ (bR _ (bR c _)))))=>c
 |_=>.skip
noncomputable def RU:eE:=match Tryz.f15.body with
 |some (bR _ (bR _ (bR _ (bR _ (bR _ (bR (bR c _) _))))))=>c
 |_=>.skip
noncomputable def allL:eE:=match Tryz.f15.body with
 |some (bR _ (bR _ (bR _ (bR _ (bR _ (bR (bR _ (.block _ (.loop c))) _))))))=>c
 |_=>.skip
noncomputable def BR:eE:=match Tryz.f15.body with
 |some (bR _ (bR _ (bR _ (bR _ (bR _ (bR _ (bR c _)))))))=>c
 |_=>.skip
noncomputable def FC:eE:=match allL with
 |bR c _=>c
 |_=>.skip
noncomputable def GY:eE:=match allL with
 |bR _ (bR _ (bR (.block _ (bR c _)) _))=>c
 |_=>.skip
noncomputable def yP:eE:=match allL with
 |bR _ (bR _ (bR (.block _ (bR _ (bR c _))) _))=>c
 |_=>.skip
noncomputable def zh:eE:=match allL with
 |bR _ (bR _ (bR (.block _ (bR _ (bR _ c))) _))=>c
 |_=>.skip
noncomputable def yR:eE:=match allL with
 |bR _ (bR _ (bR _ c))=>c
 |_=>.skip
def X6:Tryz.f15.body=M (bR RZ (bR GU (bR FU (bR QY (bR Rt (bR (bR RU (.block 0 (.loop allL))) (bR BR .ret))))))):=XN
def KF:allL=bR FC (bR (.cond (cN 21) .skip (.exit 0)) (bR (.block 1 (bR GY (bR yP zh))) yR)):=XN
def ad5{u2 u4 u5:X}(c:Cf){w:U}(z:Q .normal { tmps:=#[fX #[N eA c.inbox,N eA c.batcher,N ab c.timeout,N ab c.window,N ab c.drift,N ab c.step,N ab c.most],u1,aD (M ⟨↑w,0,Z⟩),u3,aH Z 0 0,N ab 0,u6,u7,u8,u9,u10,u11,u12,u13,u14,u15,u16,u17,u18,u19,u20,u21,u22,u23,u24,u25,u26,u27,u28,u29,u30,u31,u32],defers:=[] } (w.alloc (aG #[N eA c.inbox,N eA c.batcher,N ab c.timeout,N ab c.window,N ab c.drift,N ab c.step,N ab c.most] 24))):RZ.wp PQ Q { tmps:=#[fX #[N eA c.inbox,N eA c.batcher,N ab c.timeout,N ab c.window,N ab c.drift,N ab c.step,N ab c.most],u1,u2,u3,u4,u5,u6,u7,u8,u9,u10,u11,u12,u13,u14,u15,u16,u17,u18,u19,u20,u21,u22,u23,u24,u25,u26,u27,u28,u29,u30,u31,u32],defers:=[] } w:=by
 simp only[RZ,j8];go_wp2_with fail;exact z
def acH{u10 u11 u12:X}(c:Cf){E:Nat}{w:U}(k0:w.cell? ⟨E,0,Z⟩=M (N eA c.inbox))(k1:w.cell? ⟨E,1,Z⟩=M (N eA c.batcher))(k2:w.cell? ⟨E,2,Z⟩=M (N ab c.timeout))(k3:w.cell? ⟨E,3,Z⟩=M (N ab c.window))(k4:w.cell? ⟨E,4,Z⟩=M (N ab c.drift))(k5:w.cell? ⟨E,5,Z⟩=M (N ab c.step))(k6:w.cell? ⟨E,6,Z⟩=M (N ab c.most))(hcf:Dv.jK c=aR)(J:∀W',Below ↑w w W'->Q .normal { tmps:=#[u0,u1,aD (M ⟨E,0,Z⟩),u3,u4,u5,u6,u7,u8,u9,fX #[N eA c.inbox,N eA c.batcher,N ab c.timeout,N ab c.window,N ab c.drift,N ab c.step,N ab c.most],cK aR,cK aL,u13,u14,u15,u16,u17,u18,u19,u20,u21,u22,u23,u24,u25,u26,u27,u28,u29,u30,u31,u32],defers:=[] } W'):GU.wp PQ Q { tmps:=#[u0,u1,aD (M ⟨E,0,Z⟩),u3,u4,u5,u6,u7,u8,u9,u10,u11,u12,u13,u14,u15,u16,u17,u18,u19,u20,u21,u22,u23,u24,u25,u26,u27,u28,u29,u30,u31,u32],defers:=[] } w:=by
 have z:=wX c w;rw[hcf]at z;have H:cH _:=z;have R:cH _:=J;clear z J hcf;simp only[GU,j8];go_wp2_with (go_at_call 17;refine aT H.out ?_;rintro Y w5 ⟨rfl,I⟩)
 exact R.out _ I
def Qi{u4 u5 u10 u11 u12:X}(c:Cf){E:Nat}{w:U}(k0:w.cell? ⟨E,0,Z⟩=M (N eA c.inbox))(k1:w.cell? ⟨E,1,Z⟩=M (N eA c.batcher))(k2:w.cell? ⟨E,2,Z⟩=M (N ab c.timeout))(k3:w.cell? ⟨E,3,Z⟩=M (N ab c.window))(k4:w.cell? ⟨E,4,Z⟩=M (N ab c.drift))(k5:w.cell? ⟨E,5,Z⟩=M (N ab c.step))(k6:w.cell? ⟨E,6,Z⟩=M (N ab c.most))(hcf:Dv.jK c=aL)(J:∀W',Below ↑w w W'->Q .ret { tmps:=#[u0,u1,aD (M ⟨E,0,Z⟩),u3,aH Z 0 0,N ab 1,u6,u7,u8,u9,fX #[N eA c.inbox,N eA c.batcher,N ab c.timeout,N ab c.window,N ab c.drift,N ab c.step,N ab c.most],cK aL,cK aR,u13,u14,u15,u16,u17,u18,u19,u20,u21,u22,u23,u24,u25,u26,u27,u28,u29,u30,u31,u32],defers:=[] } W'):GU.wp PQ Q { tmps:=#[u0,u1,aD (M ⟨E,0,Z⟩),u3,u4,u5,u6,u7,u8,u9,u10,u11,u12,u13,u14,u15,u16,u17,u18,u19,u20,u21,u22,u23,u24,u25,u26,u27,u28,u29,u30,u31,u32],defers:=[] } w:=by
 have z:=wX c w;rw[hcf]at z;have H:cH _:=z;have R:cH _:=J;clear z J hcf;simp only[GU,j8];go_wp2_with (go_at_call 17;refine aT H.out ?_;rintro Y w5 ⟨rfl,I⟩)
 exact R.out _ I
def ad6{u13 u14 u15:X}(R:Option eM){n:Nat}(vc:Nat)(ps:List PU){w:U}(I:oz w (.slice R n vc) ps)(E:ps.length<=4294967296)(J:Dv.jS (ps.map cI)=aR)(hQ:∀W',Below ↑w w W'->Q .normal { tmps:=#[u0,.slice R n vc,u2,u3,u4,u5,u6,u7,u8,u9,u10,u11,u12,.slice R n vc,cK aR,cK aL,u16,u17,u18,u19,u20,u21,u22,u23,u24,u25,u26,u27,u28,u29,u30,u31,u32],defers:=[] } W'):FU.wp PQ Q { tmps:=#[u0,.slice R n vc,u2,u3,u4,u5,u6,u7,u8,u9,u10,u11,u12,u13,u14,u15,u16,u17,u18,u19,u20,u21,u22,u23,u24,u25,u26,u27,u28,u29,u30,u31,u32],defers:=[] } w:=by
 have z:=GK ps w I E;rw[J]at z;have H:cH _:=z;have HQ:cH _:=hQ;clear z hQ J I E;simp only[FU,j8];go_wp2_with (go_at_call 29;refine aT H.out ?_;rintro e5 w5 ⟨rfl,Y⟩)
 exact HQ.out _ Y
def ML{u4 u5 u13 u14 u15:X}(R:Option eM){n:Nat}(vc:Nat)(ps:List PU){w:U}(I:oz w (.slice R n vc) ps)(E:ps.length<=4294967296)(J:Dv.jS (ps.map cI)=aL)(hQ:∀W',Below ↑w w W'->Q .ret { tmps:=#[u0,.slice R n vc,u2,u3,aH Z 0 0,N ab 2,u6,u7,u8,u9,u10,u11,u12,.slice R n vc,cK aL,cK aR,u16,u17,u18,u19,u20,u21,u22,u23,u24,u25,u26,u27,u28,u29,u30,u31,u32],defers:=[] } W'):FU.wp PQ Q { tmps:=#[u0,.slice R n vc,u2,u3,u4,u5,u6,u7,u8,u9,u10,u11,u12,u13,u14,u15,u16,u17,u18,u19,u20,u21,u22,u23,u24,u25,u26,u27,u28,u29,u30,u31,u32],defers:=[] } w:=by
 have z:=GK ps w I E;rw[J]at z;have H:cH _:=z;have HQ:cH _:=hQ;clear z hQ J I E;simp only[FU,j8];go_wp2_with (go_at_call 29;refine aT H.out ?_;rintro e5 w5 ⟨rfl,Y⟩)
 exact HQ.out _ Y
def acD{u6:X}{w:U}(z:Q .normal { tmps:=#[u0,u1,u2,u3,u4,u5,aH Z 0 0,u7,u8,u9,u10,u11,u12,u13,u14,u15,u16,u17,u18,u19,u20,u21,u22,u23,u24,u25,u26,u27,u28,u29,u30,u31,u32],defers:=[] } w):QY.wp PQ Q { tmps:=#[u0,u1,u2,u3,u4,u5,u6,u7,u8,u9,u10,u11,u12,u13,u14,u15,u16,u17,u18,u19,u20,u21,u22,u23,u24,u25,u26,u27,u28,u29,u30,u31,u32],defers:=[] } w:=by
 simp only[QY,j8];go_wp2_with fail;exact z
def acR{u7 u16 u17:X}(c:Cf){E:Nat}{w:U}(k0:w.cell? ⟨E,0,Z⟩=M (N eA c.inbox))(k1:w.cell? ⟨E,1,Z⟩=M (N eA c.batcher))(k2:w.cell? ⟨E,2,Z⟩=M (N ab c.timeout))(k3:w.cell? ⟨E,3,Z⟩=M (N ab c.window))(k4:w.cell? ⟨E,4,Z⟩=M (N ab c.drift))(k5:w.cell? ⟨E,5,Z⟩=M (N ab c.step))(k6:w.cell? ⟨E,6,Z⟩=M (N ab c.most))(J:∀W',W'=((w.alloc (aG (jF c) 24)).alloc (.map #[] 0)).alloc (aG (jP c (aH Z 0 0) (w.heap.size+1) (aH Z 0 0) (aH Z 0 0) 0 0 0) 100)->Q .normal { tmps:=#[u0,u1,aD (M ⟨E,0,Z⟩),u3,u4,u5,u6,aD (M ⟨w.heap.size+2,0,Z⟩),u8,u9,u10,u11,u12,u13,u14,u15,fX #[N eA c.inbox,N eA c.batcher,N ab c.timeout,N ab c.window,N ab c.drift,N ab c.step,N ab c.most],aD (M ⟨w.heap.size+2,0,Z⟩),u18,u19,u20,u21,u22,u23,u24,u25,u26,u27,u28,u29,u30,u31,u32],defers:=[] } W'):Rt.wp PQ Q { tmps:=#[u0,u1,aD (M ⟨E,0,Z⟩),u3,u4,u5,u6,u7,u8,u9,u10,u11,u12,u13,u14,u15,u16,u17,u18,u19,u20,u21,u22,u23,u24,u25,u26,u27,u28,u29,u30,u31,u32],defers:=[] } w:=by
 have z:=new_any c w;have H:cH _:=z;have R:cH _:=J;clear z J;simp only[Rt,j8];go_wp2_with (go_at_call 30;refine aT H.out ?_;rintro e5 w5 ⟨rfl,I⟩;have Y:cH _:=I;clear I)
 exact R.out _ Y.out
def ach{u18 u19 u20:X}(z:Option eM){n:Nat}(vc:Nat){w:U}(E:Q .normal { tmps:=#[u0,.slice z n vc,u2,u3,u4,u5,u6,u7,u8,u9,u10,u11,u12,u13,u14,u15,u16,u17,.slice z n vc,N ab n,N ab 0,u21,u22,u23,u24,u25,u26,u27,u28,u29,u30,u31,u32],defers:=[] } w):RU.wp PQ Q { tmps:=#[u0,.slice z n vc,u2,u3,u4,u5,u6,u7,u8,u9,u10,u11,u12,u13,u14,u15,u16,u17,u18,u19,u20,u21,u22,u23,u24,u25,u26,u27,u28,u29,u30,u31,u32],defers:=[] } w:=by
 simp only[RU,j8];go_wp2_with fail;exact E
def Yu{u21:X}(j:Nat){n:Nat}{w:U}(z:Q .normal { tmps:=#[u0,u1,u2,u3,u4,u5,u6,u7,u8,u9,u10,u11,u12,u13,u14,u15,u16,u17,u18,N ab n,N ab j,cK (decide (j<n)),u22,u23,u24,u25,u26,u27,u28,u29,u30,u31,u32],defers:=[] } w):FC.wp PQ Q { tmps:=#[u0,u1,u2,u3,u4,u5,u6,u7,u8,u9,u10,u11,u12,u13,u14,u15,u16,u17,u18,N ab n,N ab j,u21,u22,u23,u24,u25,u26,u27,u28,u29,u30,u31,u32],defers:=[] } w:=by
 simp only[FC,allL,j8];go_wp2_with fail;exact z
def acW{u9 u22 u23:X}(g off:Nat){n:Nat}(vc j:Nat){id tm:Int}(ta:Option eM){tn:Nat}(tc:Nat)(la:Option eM){E:Nat}(z:Nat){w:U}(hj:j<n)(k0:w.cell? ⟨g,off+j*4,Z⟩=M (N ab id))(k1:w.cell? ⟨g,off+j*4+1,Z⟩=M (N ab tm))(k2:w.cell? ⟨g,off+j*4+2,Z⟩=M (.slice ta tn tc))(k3:w.cell? ⟨g,off+j*4+3,Z⟩=M (.slice la E z))(I:∀W',W'.heap=(w.alloc (aG #[N ab id,N ab tm,.slice ta tn tc,.slice la E z] 28)).heap->Q .normal { tmps:=#[u0,u1,u2,u3,u4,u5,u6,u7,u8,aD (M ⟨↑w,0,Z⟩),u10,u11,u12,u13,u14,u15,u16,u17,aH (M ⟨g,off,Z⟩) n vc,u19,N ab j,u21,aD (M ⟨g,off+j*4,Z⟩),fX #[N ab id,N ab tm,.slice ta tn tc,.slice la E z],u24,u25,u26,u27,u28,u29,u30,u31,u32],defers:=[] } W'):GY.wp PQ Q { tmps:=#[u0,u1,u2,u3,u4,u5,u6,u7,u8,u9,u10,u11,u12,u13,u14,u15,u16,u17,aH (M ⟨g,off,Z⟩) n vc,u19,N ab j,u21,u22,u23,u24,u25,u26,u27,u28,u29,u30,u31,u32],defers:=[] } w:=by
 have J:(0:Int)<=j:=aA
 have Y:(j:Int)<n:=aA
 have R:cH _:=I;clear I;simp only[GY,allL,j8];go_wp2_with fail;exact R.out _ rfl
def aaX{u31:X}(j:Nat){w:U}(E:j<=4294967296)(z:Q .normal { tmps:=#[u0,u1,u2,u3,u4,u5,u6,u7,u8,u9,u10,u11,u12,u13,u14,u15,u16,u17,u18,u19,N ab ((j+1:Nat):Int),u21,u22,u23,u24,u25,u26,u27,u28,u29,u30,N ab ((j+1:Nat):Int),u32],defers:=[] } w):yR.wp PQ Q { tmps:=#[u0,u1,u2,u3,u4,u5,u6,u7,u8,u9,u10,u11,u12,u13,u14,u15,u16,u17,u18,u19,N ab j,u21,u22,u23,u24,u25,u26,u27,u28,u29,u30,u31,u32],defers:=[] } w:=by
 have hw:IntKind.i64.wrap ((j:Int)+1)=((j+1:Nat):Int):=by rw[eT];omega
 simp only[yR,allL,j8];go_wp2_with fail;exact z
def ZV{u4 u5 u32:X}(z:Option eM){n:Nat}(vc:Nat){w:U}(E:Q .normal { tmps:=#[u0,u1,u2,u3,.slice z n vc,N ab 0,.slice z n vc,u7,u8,u9,u10,u11,u12,u13,u14,u15,u16,u17,u18,u19,u20,u21,u22,u23,u24,u25,u26,u27,u28,u29,u30,u31,.slice z n vc],defers:=[] } w):BR.wp PQ Q { tmps:=#[u0,u1,u2,u3,u4,u5,.slice z n vc,u7,u8,u9,u10,u11,u12,u13,u14,u15,u16,u17,u18,u19,u20,u21,u22,u23,u24,u25,u26,u27,u28,u29,u30,u31,u32],defers:=[] } w:=by
 simp only[BR,j8];go_wp2_with fail;exact E
def aat{u27 u28 u29 u30:X}(kb:Nat)(I:Option eM){E:Nat}(z:Nat)(R:Option eM->Nat->Nat->U->Prop){w:U}(hc:dE PQ 32 #[.slice I E z,.func (.func 54) #[] #[aD (M ⟨↑w,0,Z⟩)]] (w.alloc (aG #[aD (M ⟨kb,0,Z⟩)] 71)) (λe W'=>∃a n cap,e=bO (.slice a n cap)/\R a n cap W'))(J:∀a n cap W',R a n cap W'->Q .normal { tmps:=#[u0,u1,u2,u3,u4,u5,.slice a n cap,aD (M ⟨kb,0,Z⟩),u8,u9,u10,u11,u12,u13,u14,u15,u16,u17,u18,u19,u20,u21,u22,u23,u24,u25,u26,.slice I E z,aD (M ⟨kb,0,Z⟩),.func (.func 54) #[] #[aD (M ⟨↑w,0,Z⟩)],.slice a n cap,u31,u32],defers:=[] } W'):zh.wp PQ Q { tmps:=#[u0,u1,u2,u3,u4,u5,.slice I E z,aD (M ⟨kb,0,Z⟩),u8,u9,u10,u11,u12,u13,u14,u15,u16,u17,u18,u19,u20,u21,u22,u23,u24,u25,u26,u27,u28,u29,u30,u31,u32],defers:=[] } w:=by
 have H1:cH _:=Bh kb w;have H2:cH _:=hc;have HQ:cH _:=J;clear hc J;simp only[zh,allL,j8];go_wp2_with (first|(go_at_call 33;refine aT H1.out ?_;rintro e5 w5 ⟨rfl,rfl⟩)|(go_at_call 32;refine aT H2.out ?_;rintro e6 w6 ⟨a,n,cap,rfl,Y⟩;have HR:cH _:=Y;clear Y))
 exact HQ.out _ _ _ _ HR.out
end
end Hm
