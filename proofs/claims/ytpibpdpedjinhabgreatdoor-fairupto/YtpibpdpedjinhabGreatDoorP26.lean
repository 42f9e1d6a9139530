import Derived.Test.YtpibpdpedjinhabGreatDoorP24
set_option maxRecDepth 100000
set_option maxHeartbeats 8000000
set_option linter.all false
open Bool renaming false->aR,true->bB
open Go renaming Calls->eL,Code->eN,Obj->oA,Value->aD,World->X,bodyPost_ret->cN,callsIn_wide->iN,heap_alloc_new->cY,results_none->po
open Go.Ending renaming returned->bX
open Go.IntKind renaming i64->aE
open Go.Obj renaming cells->aL
open Go.Proofs.Tryz renaming results84->kO
open Go.RowKit renaming Below->cG,Hid->cJ
open Go.Value renaming agg->gR,bool->cM,int->N,pointer->aG,slice->aM,string->bE,tuple->cP
open Go.World renaming cell?_of_block->cD
open Nat renaming le_succ->mp
open Option renaming none->Z,some->M
open Or renaming inl->bN,inr->cF
namespace Go.Proofs.YtpibpdpedjinhabGreatDoor
section
open Go.RowKit Go.Joins Go.Shelf
attribute [local go_sem] Oper.semAt_some
def XE(d:Nat)(s:ByteArray)(z:List Wd)(x:Wd)(lo:Nat)(W:X):Prop:=XY (d+1) z x lo W/\∃p,Im.nJ (Im.read Im.body d) s.data.toList ((z++[x]).map Wd.i) p
def XE.turn(d:Nat)(s:ByteArray)(z:List Wd)(x:Wd)(lo:Nat)(W W':X)(h:∀k,lo<=k->W'.heap[k]? =W.heap[k]?)(hs:W'.heap.size=W.heap.size)(E:XE d s z x lo W):XE d s z x lo W':=⟨XY.turn _ z x lo W W' h hs E.1,E.2⟩
def Nh(d:Nat)(hf:FirstSaid d)(s:ByteArray)(ac sB dB:Nat)(w:X)(hs:s.size<=16777216)(bj:ac+d=9)(hH:lJ w)(h0:1<w.heap.size)(ay:w.cell? ⟨sB,0,Z⟩=M (bE s))(a7:w.cell? ⟨dB,0,Z⟩=M (N aE ac))(bg:sB<w.heap.size)(hdl:dB<w.heap.size):Gives PQ 140 #[aG (M ⟨sB,0,Z⟩),aG (M ⟨dB,0,Z⟩)] Wd.encs (λk=>k=1\/k=sB\/k=dB) (XE d s) (Done d s) (Left d s) w:=by
 intro l J Jx W hW av aw;have Hf:cJ _:=hf;have HY:cJ _:=av;have bb:cJ _:=aw;clear hf av aw;refine callsIn_of_wp (fq Tryz.func140 rfl) rfl trivial ?_ rfl;simp only[Tryz.ntmps140,dR,aU,bY,Nat.reduceAdd,Nat.reduceSub,dH,dG,dU,dI,dS,dN];gi_wp2
 gi_loopw [4] (λt wr=>∃(R:List Wd)(W0:X)(p:Nat),t=N aE p/\cJ (Im.nJ (Im.read Im.body d) s.data.toList (R.map Wd.i) p/\rO R=p/\p<=s.size/\R.length<=p/\J R W0/\cG W0.heap.size W0 wr/\lJ wr/\sB<wr.heap.size/\dB<wr.heap.size)/\wr.cell? ⟨sB,0,Z⟩=M (bE s)/\wr.cell? ⟨dB,0,Z⟩=M (N aE ac))
  (λt wr=>s.size-(intOf t).toNat)
 case atStart=>
  have:=hW.size;exact⟨[],W,0,rfl,⟨Im.nJ.nil,rfl,dL _,jB,bb.out,aJ _ _,hH.below hW h0,aA,aA⟩,(hW.cell (p:=⟨sB,0,Z⟩) bg).trans ay,(hW.cell (p:=⟨dB,0,Z⟩) hdl).trans a7⟩
 case round=>
  obtain⟨R,W0,p,rfl,Hr,c0,c1⟩:=hrel;clear ay a7;by_cases ai:p<s.size
  .have a9:(p:Int)<s.size:=by omega
   have bh:(s.extract p s.size).size<=16777216:=aF
   have an:(s.extract p s.size).data.toList=s.data.toList.drop p:=by rw[ext_list,eH (by rw[<-bD];omega)]
   have E:=λW hW=>Hf.out _ ac W bh bj (Hr.out.2.2.2.2.2.2.1.below hW Hr.out.2.2.2.2.2.2.1.pos);have z:=aJ wr.heap.size wr;obtain⟨_,_,_,_,_,_,_,bk,bd⟩:=Hr.out;have bo:sB≠wr.heap.size:=aA
   have bq:dB≠wr.heap.size:=aA
   rw[an]at E;generalize hC:Im.read Im.body d (s.data.toList.drop p)=C at E;have ae:cJ _:=E;have HC:cJ _:=hC;clear E hC an;gi_wp2;refine wpIn_wide.2 ?_;cases C with
   |none=>
    go_cut [5,6,7] (λv5 v6 v7 wx=>v7=cM aR/\cG wr.heap.size wr wx)
    case first=>
     go_region_with (go_at_call 141;refine(ae.out _ ?_).mono ?_;(first|exact z|exact z.drew|exact below_drewN z _|exact z.alloc jB _|exact below_drewN (z.alloc jB _) _|exact(below_drewN z _).alloc jB _);rintro e w3 ⟨ap,af⟩;obtain rfl:=ap;have I:cG wr.heap.size wr w3:=Below.trans (by first|exact z|exact z.drew|exact below_drewN z _|exact z.alloc jB _|exact below_drewN (z.alloc jB _) _|exact(below_drewN z _).alloc jB _) (af.mono aC);(try (have hz:w3.heap[wr.heap.size]? =M (aL #[cM aR,bE ⟨#[]⟩,aM Z 0 0] 164 (0,0)):=(af.block _ aC).trans (by first|exact cY _ _|(have:=cY (wr.drewN 0) (aL #[cM aR,bE ⟨#[]⟩,aM Z 0 0] 164);simpa using this));have z0:w3.cell? ⟨wr.heap.size,0,Z⟩=M (cM aR):=(by rw[aI hz];rfl);have z1:w3.cell? ⟨wr.heap.size,1,Z⟩=M (bE ⟨#[]⟩):=(by rw[aI hz];rfl);have z2:w3.cell? ⟨wr.heap.size,2,Z⟩=M (aM Z 0 0):=(by rw[aI hz];rfl);have fz:=aQ hz)))
     all_goals
      go_wp2_with fail;go_meet;refine⟨rfl,?_⟩
      first
       |exact I.alloc I.size _
       |exact below_drewN (I.alloc I.size _) _
       |exact((I.setCell jB _).setCell jB _).setCell jB _
       |exact below_drewN (((I.setCell jB _).setCell jB _).setCell jB _) _
    case rest=>
     obtain⟨rfl,aa⟩:=hcut;gi_wp2;refine cN (po rfl _ _ _) rfl ?_;obtain⟨he,aj,az,a6,hJ,Y,ah,_,_⟩:=Hr.out;exact⟨⟨_,rfl⟩,bN ⟨R,W0,⟨p,he,aj,cF ⟨ai,HC.out⟩⟩,hJ,Y.trans (aa.mono Y.size)⟩⟩
   |some x=>
    obtain⟨i,n⟩:=x;have ao:=Im.rZ Im.oZ d _ _ _ HC.out;rw[dW,<-bD]at ao;have bs:=ao.1;have bn:p+n<=s.size:=aA
    clear ao;obtain⟨IB,aq⟩:∃IB:ByteArray,(⟨i.bytes.toArray⟩:ByteArray)=IB:=⟨_,rfl⟩
    go_cut [5,6,7] (λv5 v6 v7 wx=>∃(b:Nat)(a:Option Addr)(cap:Nat),v5=aG (M ⟨b,0,Z⟩)/\v6=N aE n/\v7=cM bB/\cG wr.heap.size wr wx/\K3 wx b 0 (.bool i.list) (bE IB) (.slice a i.kids.length cap)/\Tr wx (d+1) wr.heap.size wx.heap.size (.bool i.list) (bE IB) (.slice a i.kids.length cap) i)
    case first=>
     go_region_with (go_at_call 141;refine(ae.out _ ?_).mono ?_;(first|exact z|exact z.drew|exact below_drewN z _|exact z.alloc jB _|exact below_drewN (z.alloc jB _) _|exact(below_drewN z _).alloc jB _);rintro e w3 ⟨ap,af⟩;obtain⟨a3,am,rfl,ak⟩:=ap;simp only at ak⊢;rw[aq]at ak⊢;have au:cJ (Tr _ _ _ _ _ _ _ _):=ak;clear ak;have I:cG wr.heap.size wr w3:=Below.trans (by first|exact z|exact z.drew|exact below_drewN z _|exact z.alloc jB _|exact below_drewN (z.alloc jB _) _|exact(below_drewN z _).alloc jB _) (af.mono aC);(try (have hz:w3.heap[wr.heap.size]? =M (aL #[cM aR,bE ⟨#[]⟩,aM Z 0 0] 164 (0,0)):=(af.block _ aC).trans (by first|exact cY _ _|(have:=cY (wr.drewN 0) (aL #[cM aR,bE ⟨#[]⟩,aM Z 0 0] 164);simpa using this));have z0:w3.cell? ⟨wr.heap.size,0,Z⟩=M (cM aR):=(by rw[aI hz];rfl);have z1:w3.cell? ⟨wr.heap.size,1,Z⟩=M (bE ⟨#[]⟩):=(by rw[aI hz];rfl);have z2:w3.cell? ⟨wr.heap.size,2,Z⟩=M (aM Z 0 0):=(by rw[aI hz];rfl);have fz:=aQ hz)))
     all_goals
      go_wp2_with fail;go_meet
      first
       |exact⟨_,a3,am,rfl,rfl,rfl,GZ I au.out aC _⟩
       |exact⟨_,a3,am,rfl,rfl,rfl,RG I au.out aC hz⟩
    case rest=>
     obtain⟨b,a,cap,rfl,rfl,rfl,aa,⟨k0,k1,k2⟩,ag⟩:=hcut;rw[fJ]at k1 k2;rw[<-aq]at ag;obtain⟨he,aj,az,a6,hJ,Y,ah,_,_⟩:=Hr.out;have ba:=Y.trans (aa.mono Y.size);obtain⟨fn,tmps,assign,body,hy,hR⟩:=HY.out R ⟨p+n,i,a,cap⟩ W0 wc hJ ba ⟨⟨aA,ag.wider Y.size jB⟩,p+n,by rw[bJ];exact Im.nJ.snoc he (by rw[<-bD];exact ai) HC.out⟩;simp only[Wd.encs,Int.natCast_add]at hy;rw[aq]at hy;have HR:cJ _:=hR;have bu:cJ _:=ag;clear hR ag;have bp:(p:Int)+(n:Int)<=16777216:=aA
     gi_wp2;refine RoundIn.mono HR.out ?_;rintro e W3 (⟨rfl,bm,br,ar⟩|⟨rfl,a8⟩)
     .gi_wp2;go_roundw
      case rel=>
       have q0:=ar 1 (bN rfl);have q1:=ar sB (cF (bN rfl));have q2:=ar dB (cF (cF rfl));have s5:=aa.size;have bl:=ah.below aa ah.pos;refine⟨_,W3,p+n,aC,⟨?_,nY _ _,bn,aF,bm,aJ _ _,?_,aA,aA⟩,?_,?_⟩
       .rw[bJ];exact Im.nJ.snoc he (by rw[<-bD];exact ai) HC.out
       .obtain⟨⟨a0,a1,a2⟩,a3,a4,a5⟩:=bl;exact⟨⟨(cD q0).trans a0,(cD q0).trans a1,(cD q0).trans a2⟩,(cD q0).trans a3,(cD q0).trans a4,(cD q0).trans a5⟩
       .exact(cD q1).trans ((aa.cell (p:=⟨sB,0,Z⟩) bk).trans c0)
       .exact(cD q2).trans ((aa.cell (p:=⟨dB,0,Z⟩) bd).trans c1)
      case measure=>simp[intOf];omega
     .gi_wp2;refine cN (po rfl _ _ _) rfl ?_;refine⟨⟨_,rfl⟩,cF ⟨_,W3,⟨p+n,?_,nY _ _⟩,a8,aJ _ _⟩⟩;rw[bJ];exact Im.nJ.snoc he (by rw[<-bD];exact ai) HC.out
  .have a9:¬(p:Int)<s.size:=by omega
   gi_wp2;go_end0;obtain⟨he,aj,az,a6,hJ,Y,ah,_,_⟩:=Hr.out;exact⟨⟨_,rfl⟩,bN ⟨R,⟨p,he,aj,bN aA⟩,W0,hJ,Y⟩⟩
end
namespace Hm
open Go.RowKit Go.Joins Go.Shelf
open Fr (below_drewN)
open Dv (X2 Cf Ba)
section
variable {l:Im.It}{a b c:Option Nat}{w:X}
def JJ(l:Im.It):Option Ba:=match l.kids with
 |[a,b,c,d]=>match Dv.value a,Dv.value b,Dv.value c,strs d with
  |some x,M y,M z,M t=>M ⟨x,y,z,t,0⟩
  |_,_,_,_=>Z
 |_=>Z
def Vr(i:Im.It):Option Ba:=match i.bytes with
 |[]=>Z
 |x::r=>if x=0 then(Im.dec r).bind JJ else Z
def Yh(h:l.kids.length≠4):JJ l=Z:=by
 unfold JJ;split
 .rename_i e;rw[e]at h;exact Xs rfl h
 .rfl
def UM:Option Nat->Option Nat->Option Nat->Option (List (List UInt8))->Option Ba
 |some x,M y,M z,M t=>M ⟨x,y,z,t,0⟩
 |_,_,_,_=>Z
def Ue{a b c d:Im.It}(h:l.kids=[a,b,c,d]):JJ l=UM (Dv.value a) (Dv.value b) (Dv.value c) (strs d):=by unfold JJ UM;rw[h]
def F9{R:Option (List (List UInt8))}(h:a.isSome=aR\/b.isSome=aR\/c.isSome=aR\/R.isSome=aR):UM a b c R=Z:=by
 cases a<;>cases b<;>cases c<;>cases R<;>simp[UM]at h⊢
def Us(z:a.isSome=bB)(E:b.isSome=bB)(hc:c.isSome=bB)(t:List (List UInt8)):UM a b c (M t)=M ⟨a.getD 0,b.getD 0,c.getD 0,t,0⟩:=by
 cases a<;>cases b<;>cases c<;>simp[UM]at z E hc⊢
def In.four{B:Nat}{n m cap:Nat}{c0 c1:aD}{a:Option Addr}{Y k1 k2 I:Im.It}(h:In B w (n+1) c0 c1 (.slice a m cap) l)(hk:l.kids=[Y,k1,k2,I]):∃g off,a=M ⟨g,off,Z⟩/\g<B/\(∃z J E,K3 w g off (.bool Y.list) (bE ⟨Y.bytes.toArray⟩) (.slice z J E))/\(∃z J E,K3 w g (off+3) (.bool k1.list) (bE ⟨k1.bytes.toArray⟩) (.slice z J E))/\(∃z J E,K3 w g (off+6) (.bool k2.list) (bE ⟨k2.bytes.toArray⟩) (.slice z J E))/\∃z E,K3 w g (off+9) (.bool I.list) (bE ⟨I.bytes.toArray⟩) (.slice z I.kids.length E)/\In B w n (.bool I.list) (bE ⟨I.bytes.toArray⟩) (.slice z I.kids.length E) I:=by obtain⟨li,bs,ks⟩:=l;dsimp only at hk;subst hk;obtain⟨g,off,aa,hv,hg,R⟩:=In.kid h aC;simp only[Value.slice.injEq]at hv;obtain⟨d0,h0,i0⟩:=R 0 aC;obtain⟨d1,h1,i1⟩:=R 1 aC;obtain⟨d2,h2,i2⟩:=R 2 aC;obtain⟨d3,h3,i3⟩:=R 3 aC;obtain⟨z,E,_,_,e0⟩:=In.shape i0;obtain⟨a1,p1,_,_,e1⟩:=In.shape i1;obtain⟨a2,p2,_,_,e2⟩:=In.shape i2;obtain⟨a3,p3,_,_,e3⟩:=In.shape i3;subst e0 e1 e2 e3;exact⟨g,off,hv.1,hg,⟨z,_,E,h0⟩,⟨a1,_,p1,h1⟩,⟨a2,_,p2,h2⟩,a3,p3,h3,i3⟩
def abD{α:Type}{l:List α}(h:l.length=4):∃a b c d,l=[a,b,c,d]:=by
 match l,h with
 |[a,b,c,d],_=>exact⟨a,b,c,d,rfl⟩
def ahb(w:X)(lo:Nat)(e:Ending):Option Ba->Prop
 |none=>e=bX (cP #[gR #[N aE 0,N aE 0,N aE 0,aM Z 0 0,N aE 0],cM aR])
 |some b=>∃a cap,e=bX (cP #[P9 b (.slice a b.txs.length cap),cM bB])/\Made w lo (.slice a b.txs.length cap) b.txs/\b.place=0
def cells5{W:X}{b:Nat}{ty:TypeId}{v0 I E z J:aD}(h:W.heap[b]? =M (aL #[v0,I,E,z,J] ty (0,0))):W.cell? ⟨b,0,Z⟩=M v0/\W.cell? ⟨b,1,Z⟩=M I/\W.cell? ⟨b,2,Z⟩=M E/\W.cell? ⟨b,3,Z⟩=M z/\W.cell? ⟨b,4,Z⟩=M J/\(∀o,W.frozen? ⟨b,o,Z⟩=aR):=
 ⟨by rw[aI h];rfl,by rw[aI h];rfl,by rw[aI h];rfl,by rw[aI h];rfl,by rw[aI h];rfl,aQ h⟩
def nV{B R:Nat}{a:X}(h:cG B a w)(z:B<=R)(v0 J I E Y:aD):cG B a (acu w R v0 J I E Y):=((((h.setCell (p:=⟨R,0,Z⟩) z _).setCell (p:=⟨R,1,Z⟩) z _).setCell (p:=⟨R,2,Z⟩) z _).setCell (p:=⟨R,3,Z⟩) z _).setCell (p:=⟨R,4,Z⟩) z _
def Nw(i:Im.It)(c2:aD)(w:X)(cx:∃a n cap,c2=.slice a n cap)(hs:i.bytes.length<=16777216)(hH:lJ w):eL PQ 84 #[gR #[.bool i.list,bE ⟨i.bytes.toArray⟩,c2]] w λe w'=>ahb w' w.heap.size e (Vr i)/\cG w.heap.size w w':=by
 obtain⟨ia,ik,ic,rfl⟩:=cx;obtain⟨D,hD⟩:∃D:ByteArray,(⟨i.bytes.toArray⟩:ByteArray)=D:=⟨_,rfl⟩
 have an:D.data.toList=i.bytes:=by rw[<-hD]
 have ao:D.size=i.bytes.length:=by rw[<-hD];rfl
 rw[hD];obtain⟨Q,hQ⟩:∃Q,Vr i=Q:=⟨_,rfl⟩
 rw[hQ];unfold Vr at hQ;obtain⟨W,hW⟩:∃W,W=(w.alloc (aL #[.bool i.list,bE D,.slice ia ik ic] 164)).alloc (aL #[N aE 0,N aE 0,N aE 0,aM Z 0 0,N aE 0] 118):=⟨_,rfl⟩
 have J:cG w.heap.size w W:=by rw[hW];exact((aJ _ w).alloc jB _).alloc aC _
 have co:W.heap.size=w.heap.size+2:=by rw[hW];simp
 have ah:W.heap[w.heap.size+1]? =M (aL #[N aE 0,N aE 0,N aE 0,aM Z 0 0,N aE 0] 118 (0,0)):=by
  have:=cY (w.alloc (aL #[.bool i.list,bE D,.slice ia ik ic] 164)) (aL #[N aE 0,N aE 0,N aE 0,aM Z 0 0,N aE 0] 118);rw[hW];simpa using this
 have z1:W.cell? ⟨w.heap.size,1,Z⟩=M (bE D):=by rw[hW];simp
 obtain⟨r0,r1,r2,r3,r4,rf⟩:=cells5 ah;have a9:=hH.below J hH.pos;cases aa:i.bytes with
 |nil=>
  rw[aa]at hQ;subst hQ;have cm:D.toList.isEmpty=bB:=by rw[Fr.toList_empty];exact Z0 (by rw[ao,aa];rfl)
  have H:cJ _:=jy J ah;clear J ah hD an ao aa a9 hH hs co;go_enter (fq Tryz.func84 rfl),Tryz.ntmps84;go_upto_region 1 with fail;rw[<-hW];clear hW;go_wp2_with fail;refine cN (v:=.tuple _) (by simp[results,kO,go_sem,r0,r1,r2,r3,r4]) rfl ⟨rfl,nV H.out.1 (mp _) _ _ _ _ _⟩
 |cons x r=>
  rw[aa]at hQ;dsimp only at hQ;have h0:0<D.size:=by rw[ao,aa];simp
  have cm:D.toList.isEmpty=aR:=by rw[Fr.toList_empty];exact ZZ aA
  have ay:D[0]'h0=x:=by
   have:D.data.toList[0]? =M (D[0]'h0):=by
    rw[aO (by simpa using h0)];rfl
   rw[an,aa]at this;simpa using this.symm
  by_cases hz:x=0
  .rw[ZD hz]at hQ;have cy:(((D[0]'h0).toNat:Int) == 0)=bB:=by rw[ay,hz];rfl
   obtain⟨S,hS⟩:∃S:ByteArray,D.extract 1 D.size=S:=⟨_,rfl⟩
   have a4:S.data.toList=r:=by
    rw[<-hS,Fr.ext_list,bD,iJ,an,aa];rfl
   have bg:S.size<=16777216:=by
    rw[bD,a4];rw[aa]at hs;simp at hs;omega
   have z:=decode_any S W bg a9;rw[a4]at z;have h1:(1:Int)<=(D.size:Int):=aA
   have au:∀V,cG W.heap.size W V->V.heap[w.heap.size+1]? =M (aL #[N aE 0,N aE 0,N aE 0,aM Z 0 0,N aE 0] 118 (0,0)):=λV hV=>(hV.block _ aA).trans ah;have ar:cJ _:=au;cases hd:Im.dec r with
   |none=>
    rw[hd]at z hQ;have ac:Z=Q:=hQ;subst ac;have ag:cJ _:=λ(_:Unit)=>z;have H:cJ _:=J;clear J ah hD an ao aa a9 hH hs ay hz z hQ hd a4 bg au;go_enter (fq Tryz.func84 rfl),Tryz.ntmps84;go_upto_region 1 with fail;rw[<-hW];clear hW;go_wp2_with (first|(go_at_call 124;refine aT (ag.out ()) ?_;rintro e w2 ⟨he,E⟩;unfold Il at he;subst he;obtain⟨q0,q1,q2,q3,q4,qf⟩:=cells5 (ar.out _ (E.alloc E.size (aL #[cM aR,bE ⟨#[]⟩,aM Z 0 0] 164))))|fail)
    refine cN (v:=.tuple _) (by simp[results,kO,go_sem,q0,q1,q2,q3,q4]) rfl ⟨rfl,nV (H.out.trans ((E.alloc E.size _).mono H.out.size)) (mp _) _ _ _ _ _⟩
   |some l=>
    rw[hd]at z hQ;have ac:JJ l=Q:=hQ;have bu:=λk hk=>Qv (k:=k) hd hk;have cf:r.length<=16777216:=by rw[<-a4,<-bD];exact bg
    obtain⟨D2,aw⟩:∃D:ByteArray,(⟨l.bytes.toArray⟩:ByteArray)=D:=⟨_,rfl⟩
    obtain⟨li,a8⟩:∃li,l.list=li:=⟨_,rfl⟩
    obtain⟨nk,ak⟩:∃nk,l.kids.length=nk:=⟨_,rfl⟩
    have ag:cJ _:=λ(_:Unit)=>z;by_cases h4:nk=4
    .subst h4;obtain⟨k0,k1,k2,k3,aq⟩:=abD ak;rw[Ue aq]at ac
     have bj:k3.kids.length<=4294967296:=by
      have:=bu k3 (by rw[aq];simp);omega
     obtain⟨o0,av⟩:∃o,Dv.value k0=o:=⟨_,rfl⟩
     obtain⟨o1,a7⟩:∃o,Dv.value k1=o:=⟨_,rfl⟩
     obtain⟨o2,a6⟩:∃o,Dv.value k2=o:=⟨_,rfl⟩
     obtain⟨R,hR⟩:∃R,strs k3=R:=⟨_,rfl⟩
     rw[av,a7,a6,hR]at ac;have H:cJ _:=jy J (jy aw (jy a8 (jy ak (jy aq (jy bj (jy ac (jy av (jy a7 (jy a6 hR)))))))));clear J ah hD an ao aa a9 hH hs ay hz z hQ ac hd a4 bg au bu cf aw a8 ak aq bj av a7 a6 hR;go_enter (fq Tryz.func84 rfl),Tryz.ntmps84;go_upto_region 1 with fail;rw[<-hW];clear hW;go_upto_region 6 with(first|(go_at_call 124;refine aT (ag.out ()) ?_;rintro e w2 ⟨he,E⟩;obtain⟨a,cap,he,ht⟩:=he;rw[H.out.2.1,H.out.2.2.1,H.out.2.2.2.1]at he;subst he;have HT:cJ (Tr _ _ _ _ _ _ _ _):=ht;clear ht)|fail)
     obtain⟨V,hV,az,zb⟩:=jD w2 #[.bool li,bE D2,.slice a 4 cap] 164;rw[<-hV];obtain⟨J,aw,a8,ak,aq,bj,ac,av,a7,a6,hR⟩:=H.out;have cu:=In.below az _ _ _ _ _ (Tr.inn 9 _ _ _ _ _ _ jB HT.out);obtain⟨g,off,rfl,hg,⟨a0,m0,p0,K0⟩,⟨a1,m1,p1,K1⟩,⟨a2,m2,p2,K2⟩,a3,p3,bh,I3⟩:=In.four cu aq;have Y:=aP hg az.size;have cb:=(jE zb)
     have aj:=λV'=>sQ k0 (.slice a0 m0 p0) V' ⟨_,_,_,rfl⟩;have ai:=λV'=>sQ k1 (.slice a1 m1 p1) V' ⟨_,_,_,rfl⟩;have am:=λV'=>sQ k2 (.slice a2 m2 p2) V' ⟨_,_,_,rfl⟩;have bp:=λV' (I:cG _ V V')=>vN 6 _ k3 _ V' (bH az.size I.size) (In.below (I.mono az.size) _ _ _ _ _ I3) bj;obtain⟨l0,b9⟩:∃x,k0.list=x:=⟨_,rfl⟩
     obtain⟨l1,cd⟩:∃x,k1.list=x:=⟨_,rfl⟩
     obtain⟨l2,cl⟩:∃x,k2.list=x:=⟨_,rfl⟩
     obtain⟨l3,cg⟩:∃x,k3.list=x:=⟨_,rfl⟩
     obtain⟨S0,ce⟩:∃x:ByteArray,(⟨k0.bytes.toArray⟩:ByteArray)=x:=⟨_,rfl⟩
     obtain⟨S1,ct⟩:∃x:ByteArray,(⟨k1.bytes.toArray⟩:ByteArray)=x:=⟨_,rfl⟩
     obtain⟨S2,cn⟩:∃x:ByteArray,(⟨k2.bytes.toArray⟩:ByteArray)=x:=⟨_,rfl⟩
     obtain⟨S3,cc⟩:∃x:ByteArray,(⟨k3.bytes.toArray⟩:ByteArray)=x:=⟨_,rfl⟩
     obtain⟨m3,cq⟩:∃x,k3.kids.length=x:=⟨_,rfl⟩
     rw[b9,ce]at aj K0;rw[cd,ct]at ai K1;rw[cl,cn]at am K2;rw[cg,cc,cq]at bp bh;rw[av]at aj;rw[a7]at ai;rw[a6]at am;rw[hR]at bp;unfold aeV at aj ai am;obtain⟨n0,ba⟩:∃n,o0.getD 0=n:=⟨_,rfl⟩
     obtain⟨n1,bk⟩:∃n,o1.getD 0=n:=⟨_,rfl⟩
     obtain⟨n2,bn⟩:∃n,o2.getD 0=n:=⟨_,rfl⟩
     obtain⟨b0,bl⟩:∃n,o0.isSome=n:=⟨_,rfl⟩
     obtain⟨b1,bb⟩:∃n,o1.isSome=n:=⟨_,rfl⟩
     obtain⟨b2,bd⟩:∃n,o2.isSome=n:=⟨_,rfl⟩
     rw[ba,bl]at aj;rw[bk,bb]at ai;rw[bn,bd]at am;have b6:cJ _:=aj;have bv:cJ _:=ai;have b7:cJ _:=am;have bo:cJ _:=bp
     have hK:∀V',cG V.heap.size V V'->V'.cell? ⟨w2.heap.size,2,Z⟩=M (aM (M ⟨g,off,Z⟩) 4 cap)/\V'.cell? ⟨g,off,Z⟩=M (.bool l0)/\V'.cell? ⟨g,off+1,Z⟩=M (bE S0)/\V'.cell? ⟨g,off+2,Z⟩=M (.slice a0 m0 p0)/\V'.cell? ⟨g,off+3,Z⟩=M (.bool l1)/\V'.cell? ⟨g,off+4,Z⟩=M (bE S1)/\V'.cell? ⟨g,off+5,Z⟩=M (.slice a1 m1 p1)/\V'.cell? ⟨g,off+6,Z⟩=M (.bool l2)/\V'.cell? ⟨g,off+7,Z⟩=M (bE S2)/\V'.cell? ⟨g,off+8,Z⟩=M (.slice a2 m2 p2)/\V'.cell? ⟨g,off+9,Z⟩=M (.bool l3)/\V'.cell? ⟨g,off+10,Z⟩=M (bE S3)/\V'.cell? ⟨g,off+11,Z⟩=M (.slice a3 m3 p3):=λV' I=>
      ⟨(I.cell (p:=⟨w2.heap.size,2,Z⟩) cb).trans (by rw[aI zb];rfl),(K0.below I Y).1,(K0.below I Y).2.1,(K0.below I Y).2.2,(K1.below I Y).1,(K1.below I Y).2.1,(K1.below I Y).2.2,(K2.below I Y).1,(K2.below I Y).2.1,(K2.below I Y).2.2,(bh.below I Y).1,(bh.below I Y).2.1,(bh.below I Y).2.2⟩
     have HK:cJ _:=hK;have ck:=aJ V.heap.size V;obtain⟨x2,c4,dd,dz,dj,c9,dy,el,d9,eh,dh,du,et⟩:=hK V ck;have bq:=E.trans (az.mono E.size);have HQ:cJ _:=jy ac (jy ba (jy bk (jy bn (jy bl (jy bb (jy bd (jy J bq)))))));clear hV az zb J aw a8 ak aq bj ac av a7 a6 hR cu hg Y cb K0 K1 K2 bh I3 aj ai am bp b9 cd cl cg ce ct cn cc cq ba bk bn bl bb bd hK bq E H HT r0 r1 r2 r3 r4 rf z1;go_upto_region 9 with(first|(go_at_call 125;(with_reducible refine aT (b6.out _) ?_);rintro e3 w3 ⟨rfl,ci⟩;have b4:=ci;obtain⟨x3,er,ei,eo,eb,ea,em,d2,dk,dx,d7,ew,ed⟩:=HK.out w3 b4;clear ci)|(go_at_call 125;(with_reducible refine aT (bv.out _) ?_);rintro e4 w4 ⟨rfl,cv⟩;have b5:=b4.trans (cv.mono b4.size);obtain⟨x4,ej,dw,dm,d1,dq,eu,cz,c3,di,c5,ec,c1⟩:=HK.out w4 b5;clear cv)|(go_at_call 125;(with_reducible refine aT (b7.out _) ?_);rintro e5 w5 ⟨rfl,cr⟩;have af:=b5.trans (cr.mono b5.size);obtain⟨x5,dt,d8,d3,dg,ee,db,dv,c6,ef,de,dr,d0⟩:=HK.out w5 af;clear cr)|fail)
     have bz:w.heap.size<=w5.heap.size:=by
      have e1:=HQ.out.2.2.2.2.2.2.2.1.size;have e2:=HQ.out.2.2.2.2.2.2.2.2.size;have e3:=af.size;omega
     have bs:=(HQ.out.2.2.2.2.2.2.2.1.trans (HQ.out.2.2.2.2.2.2.2.2.mono HQ.out.2.2.2.2.2.2.2.1.size)).trans (af.mono (bH HQ.out.2.2.2.2.2.2.2.1.size HQ.out.2.2.2.2.2.2.2.2.size));have br:cJ _:=bs;clear bs;cases R with
     |none=>
      go_upto_region 10 with(first|(go_at_call 126;refine aT (bo.out _ af) ?_;rintro e6 w6 ⟨he,ap⟩;unfold Strs at he;subst he)|fail)
      have bm:=af.trans (ap.mono af.size);have a5:=ar.out w6 (HQ.out.2.2.2.2.2.2.2.2.trans (bm.mono HQ.out.2.2.2.2.2.2.2.2.size));obtain⟨q0,q1,q2,q3,q4,qf⟩:=cells5 a5;have HB:cJ (cG w.heap.size w w6):=br.out.trans (ap.mono bz);have b3:Z=Q:=by rw[<-HQ.out.1];exact(F9 (cF (cF (cF rfl)))).symm
      subst b3;clear HQ HK b6 bv b7 bo bm a5 ap;cases b0<;>cases b1<;>cases b2
      all_goals
       go_wp2_with fail;refine cN (v:=cP #[gR #[N aE 0,N aE 0,N aE 0,aM Z 0 0,N aE 0],cM aR]) (by simp[results,kO,go_sem,q0,q1,q2,q3,q4]) rfl ?_;exact⟨rfl,nV HB.out (mp _) _ _ _ _ _⟩
     |some t=>
      obtain⟨tn,ca⟩:∃n,t.length=n:=⟨_,rfl⟩
      have cp:cJ _:=ca;clear ca;go_upto_region 10 with(first|(go_at_call 126;refine aT (bo.out _ af) ?_;rintro e6 w6 ⟨⟨ta,tc,he,cj⟩,ap⟩;rw[cp.out]at he;subst he;have HM:cJ _:=cj;clear cj)|fail)
      have bm:=af.trans (ap.mono af.size);have a5:=ar.out w6 (HQ.out.2.2.2.2.2.2.2.2.trans (bm.mono HQ.out.2.2.2.2.2.2.2.2.size));obtain⟨q0,q1,q2,q3,q4,qf⟩:=cells5 a5;have HB:cJ (cG w.heap.size w w6/\_):=jy (br.out.trans (ap.mono bz)) a5;have HP:cJ _:=jy HQ.out.1 (jy HQ.out.2.1 (jy HQ.out.2.2.1 (jy HQ.out.2.2.2.1 (jy HQ.out.2.2.2.2.1 (jy HQ.out.2.2.2.2.2.1 HQ.out.2.2.2.2.2.2.1)))));clear HQ HK b6 bv b7 bo bm a5 ap;by_cases ae:b0=bB/\b1=bB/\b2=bB
      .obtain⟨rfl,rfl,rfl⟩:=ae;go_wp2_with fail;obtain⟨hQ,aj,ai,am,bw,b8,E⟩:=HP.out;rw[Us bw b8 E,aj,ai,am]at hQ;subst hQ;refine cN (v:=cP #[gR #[N aE n0,N aE n1,N aE n2,.slice ta tn tc,N aE 0],cM bB]) (by simp[results,kO,go_sem,q0,q1,q2,q3,q4]) rfl ⟨⟨ta,tc,?_,?_,rfl⟩,nV HB.out.1 (mp _) _ _ _ _ _⟩
       .unfold P9;dsimp only;rw[cp.out];rfl
       .exact⟨HM.out.1.jM (qI w6 _ _ _ _ _ _) (λg hg e=>jH HM.out.1 HB.out.2 aB (by rw[hg,e])),λg hg=>bH bz (HM.out.2 g hg)⟩
      .have b3:Z=Q:=by
        rw[<-HP.out.1];obtain⟨_,_,_,_,bw,b8,E⟩:=HP.out;refine(F9 ?_).symm;rw[bw,b8,E];revert ae;cases b0<;>cases b1<;>cases b2<;>simp
       subst b3;clear HP;revert ae;cases b0<;>cases b1<;>cases b2<;>intro ae
       all_goals
        first
         |exact Xs ⟨rfl,rfl,rfl⟩ ae
         |(clear ae
           go_wp2_with fail;refine cN (v:=cP #[gR #[N aE 0,N aE 0,N aE 0,aM Z 0 0,N aE 0],cM aR]) (by simp[results,kO,go_sem,q0,q1,q2,q3,q4]) rfl ?_;exact⟨rfl,nV HB.out.1 (mp _) _ _ _ _ _⟩)
    .have eg:((nk:Int) == 4)=aR:=ZS aA;have cw:Z=Q:=by rw[<-ac,Yh (by rw[ak];exact h4)]
     subst cw;have H:cJ _:=jy J (jy aw (jy a8 ak));clear J ah hD an ao aa a9 hH hs ay hz z hQ ac hd a4 bg au bu cf aw a8 ak h4;go_enter (fq Tryz.func84 rfl),Tryz.ntmps84;go_upto_region 1 with fail;rw[<-hW];clear hW;go_wp2_with (first|(go_at_call 124;refine aT (ag.out ()) ?_;rintro e w2 ⟨he,E⟩;obtain⟨a,cap,he,ht⟩:=he;rw[H.out.2.1,H.out.2.2.1,H.out.2.2.2]at he;subst he;obtain⟨q0,q1,q2,q3,q4,qf⟩:=cells5 (ar.out _ (E.alloc E.size (aL #[.bool li,bE D2,.slice a nk cap] 164)));clear ht)|fail)
     refine cN (v:=.tuple _) (by simp[results,kO,go_sem,q0,q1,q2,q3,q4]) rfl ⟨rfl,nV (H.out.1.trans ((E.alloc E.size _).mono H.out.1.size)) (mp _) _ _ _ _ _⟩
  .rw[Zs hz]at hQ;subst hQ
   have cy:(((D[0]'h0).toNat:Int) == 0)=aR:=by
    rw[ay];refine ZS (λe=>hz ?_);apply jv.1;simpa using e
   have H:cJ _:=jy J ah;clear J ah hD an ao aa a9 hH hs co ay hz;go_enter (fq Tryz.func84 rfl),Tryz.ntmps84;go_upto_region 1 with fail;rw[<-hW];clear hW;go_wp2_with fail;refine cN (v:=.tuple _) (by simp[results,kO,go_sem,r0,r1,r2,r3,r4]) rfl ⟨rfl,nV H.out.1 (mp _) _ _ _ _ _⟩
end
section
variable {s:List UInt8}{i:Im.It}{l:List Ba}{p:Nat}
def wH{b:List UInt8->Option (Bool×Nat×Nat)}{d:Nat}{n:Nat}(h:Im.read b d s=M (i,n)):(i.list=bB->i.bytes=[])/\(i.list=aR->i.kids=[]):=by
 cases d with
 |zero=>
  rw[Im.read]at h
  grind
 |succ d=>
  rw[Im.read]at h;split at h
  .cases h
  .grind
  .rw[bI]at h
   grind
def UW(h:Im.dec s=M i):(i.list=bB->i.bytes=[])/\(i.list=aR->i.kids=[]):=by
 unfold Im.dec at h;split at h
 .rename_i z;split at h
  .cases h;exact wH z
  .cases h
 .cases h
def aal{l:Im.It}(z:l.list=aR->l.kids=[])(n:Nat):Dv.pY l n=(JJ l).map (λb=>{ b with place:=n }):=by
 unfold Dv.pY JJ;cases h:l.list with
 |false=>
  rw[z h];rfl
 |true=>
  match hk:l.kids with
  |[a,b,c,d]=>
   dsimp only;unfold strs
   grind
  |[]=>rfl
  |[_]=>rfl
  |[_,_]=>rfl
  |[_,_,_]=>rfl
  |_::_::_::_::_::_=>rfl
def Zc(z:i.list=bB->i.bytes=[])(n:Nat):Dv.tH i n=(Vr i).map (λb=>{ b with place:=n }):=by
 unfold Dv.tH Vr;cases h:i.list with
 |true=>
  rw[z h];rfl
 |false=>
  rw[Zs aC];cases E:i.bytes with
  |nil=>rfl
  |cons x r=>
   dsimp only;split
   .cases hd:Im.dec r with
    |none=>rfl
    |some l=>
     simp only[gX];exact aal (UW hd).2 n
   .rfl
inductive yM(s:List UInt8):List Ba->Nat->Prop
 |nil:yM s [] 0
 |snoc {l:List Ba} {p:Nat} {i:Im.It} {n:Nat} {b:Ba}:yM s l p->p<s.length->Im.read Im.body 8 (s.drop p)=M (i,n)->Vr i=M b->yM s (l++[b]) (p+n)
def aeR(s:List UInt8)(p:Nat):Prop:=s.length<=p\/Im.read Im.body 8 (s.drop p)=Z\/∃i n,Im.read Im.body 8 (s.drop p)=M (i,n)/\Vr i=Z
def vY(n:Nat)(l:List Ba):List Ba:=(l.filter (λb=>decide (b.epoch<=n))).map (λb=>{ b with place:=n })
def wI(n:Nat)(l:List Ba)(b:Ba):vY n (l++[b])=vY n l++(if b.epoch<=n then [{ b with place:=n }]else []):=by
 unfold vY
 grind
def yM.rd(h:yM s l p)(n:Nat):∀f,Dv.rd (f+l.length) s n=vY n l++Dv.rd f (s.drop p) n:=by
 induction h with
 |nil=>intro f;rfl
 |@snoc l p i k b _ hp hr hb ih=>
  intro f;rw[aS,iF,show f+(l.length+1)=(f+1)+l.length from by omega,ih (f+1),wI,fM]
  congr 1
  rw[Dv.rd,Zs (by intro e;have:=Z1 List.length e;grind),hr];dsimp only;rw[Zc (wH hr).1 n,hb];simp
def yM.le(h:yM s l p):l.length<=p/\p<=s.length:=by
 induction h with
 |nil=>simp
 |@snoc l p i k b _ hp hr hb ih=>
  have:=Im.rZ Im.oZ 8 _ i k hr
  grind
def yM.all(h:yM s l p)(z:aeR s p)(n:Nat):Dv.rd s.length s n=vY n l:=by
 have R:=h.le;have:=h.rd n (s.length-l.length);rw[show s.length-l.length+l.length=s.length from by omega]at this;rw[this]
 have:Dv.rd (s.length-l.length) (s.drop p) n=[]:=by
  cases J:s.length-l.length with
  |zero=>rfl
  |succ f=>
   rw[Dv.rd];split
   .rfl
   .rename_i E;obtain z|z|⟨i,k,z,I⟩:=z
    .grind
    .rw[z]
    .rw[z];dsimp only;rw[Zc (wH z).1 n,I];rfl
 grind
end
open Go.RowKit
section
variable {P:Program}{l l₀:Nat}{assign body:eN}{w:X}
def Jl{m n:Nat}{f:FuncId}{tmps:Array aD}{R:Ending->X->Prop}(h:RoundIn Fence.wide m P l f tmps assign body w R):RoundIn (Fence.wide.inRound l₀) n P l f tmps assign body w R:=⟨h.1,λc cs _=>h.2 c cs (room_wide _)⟩
def wS(F:Nat->Prop)(z E:X)(k:Nat):Prop:=F k\/(z.heap.size<=k/\k<E.heap.size)
def Py{F:Nat->Prop}{A B:X}{o:oA}(h:jI (λk=>F k/\NC A k) (A.putObj l o) (B.putObj l o))(E:¬F l):jI (λk=>F k/\NC (A.putObj l o) k) (A.putObj l o) (B.putObj l o):=
 h.mono (λk _ e=>⟨e.1,λcs t z hk=>by
  rw[World.putObj_heap_other (by rintro rfl;exact E e.1)]at hk;exact e.2 cs t z hk⟩)
def Za{α:Type}(P:Program)(g:Nat)(lb:Array aD)(encs:α->Array aD)(R:List α->X->Prop)(Y:List α->α->Nat->X->Prop)(S Sp:List α->Prop):Prop:=
 ∀(l:Nat)(J Jx:List α->(Nat->Prop)->X->Prop)(W:X),l<W.heap.size->R [] W->
  (∀z x F E I,J z F E->jI (λk=>F k/\NC E k) E I->Y z x E.heap.size I->YieldAt Fence.wide 1 P l (encs x) I λe W'=>
   (e=bX (cM bB)/\J (z++[x]) (wS F E I) W'/\I.heap.size<=W'.heap.size/\R (z++[x]) W'/\∀k,wS F E I k->W'.heap[k]? =I.heap[k]?)\/(e=bX (cM aR)/\Jx (z++[x]) (wS F E I) W'/\I.heap.size<=W'.heap.size/\∀k,wS F E I k->W'.heap[k]? =I.heap[k]?))->
  J [] (λ_=>False) W->
  CallsIn Fence.wide 2 P g (#[.func (.yield l) #[] #[]]++lb) W λe W'=>(∃v,e=bX v)/\((∃xs F E,S xs/\J xs F E/\jI (λk=>F k/\NC E k) E W')\/(∃z F E,Sp z/\Jx z F E/\jI (λk=>F k/\NC E k) E W'))
def ac8{α:Type}(B:Nat)(F:Nat->Prop)(E:List α->X->Prop)(I:List α->(Nat->Prop)->X->Prop)(z:eN->List α->(Nat->Prop)->X->Prop)(xs:List α)(W:X):Exit->Act->X->Prop
 |.normal,_,W'=>KeepsFrom B W W'/\E xs W'/\(∀k,F k->W'.heap[k]? =W.heap[k]?)/\I xs F W'
 |.ret,_,W'=>KeepsFrom B W W'/\(∀k,F k->W'.heap[k]? =W.heap[k]?)/\z .ret xs F W'
 |.exit id,_,W'=>KeepsFrom B W W'/\(∀k,F k->W'.heap[k]? =W.heap[k]?)/\z (.exit id) xs F W'
 |.goto t,_,W'=>KeepsFrom B W W'/\(∀k,F k->W'.heap[k]? =W.heap[k]?)/\z (.goto t) xs F W'
 |.panic _,_,_=>False
 |.outgrown,_,_=>False
def EH{α:Type}{g:Operand}{ps:Array Tmp}{Q:Exit->Act->X->Prop}{a:Act}{ai:Loop}(am:w.heap[l₀]? =M (.loop ai)){gf:Nat}{lb:Array aD}(hg:a.eval g=.func (.func gf) #[] lb)(eg:∀args w,(callFunc gf args).run P w=.ok (.enter gf args) w){encs:α->Array aD}{St:List α->X->Prop}{Y:List α->α->Nat->X->Prop}{S Sp:List α->Prop}(aq:Za P gf lb encs St Y S Sp)(ar:OwnFrom w.heap.size St)(hY:∀lo,OwnFrom w.heap.size (λ(q:List α×α) W=>Y q.1 q.2 lo W))(av:∀x,(encs x).size=ps.size)(I:List α->(Nat->Prop)->X->Prop)(Ix:eN->List α->(Nat->Prop)->X->Prop)(hI:∀F,OwnFrom w.heap.size (λxs W=>I xs F W))(af:∀c F,OwnFrom w.heap.size (λxs W=>Ix c xs F W))(h0:I [] (λ_=>False) w)(au:St [] w)(aj:α->Nat->Act)(ox:α->oA)(ae:∀(l:Nat)(x:α)(W:X)(K:Act->X->Prop),K (aj x W.heap.size) (W.alloc (ox x))->assign.wpIn (Fence.wide.inRound l) 1 P (Exit.then K (λ_ _ _=>False)) { tmps:=(ps.zip (encs x)).foldl (λt (p,v)=>t.setIfInBounds p v) a.tmps,defers:=[] } W)(ak:∀(l:Nat)(z:List α)(x:α)(F:Nat->Prop)(J R:X),l=w.heap.size->l<J.heap.size->(∃r,R.heap[l]? =M (.loop r))->(∀k,F k->w.heap.size<k/\k<J.heap.size)->I z F J->jI (λk=>F k/\NC J k) J R->Y z x J.heap.size R->body.wpIn (Fence.wide.inRound l) 1 P (ac8 w.heap.size (wS F J R) St I Ix (z++[x]) (R.alloc (ox x))) (aj x R.heap.size) (R.alloc (ox x)))(an:∀(xs:List α)(F:Nat->Prop)(J W:X),(∀k,F k->w.heap.size<k/\k<J.heap.size)->S xs->I xs F J->jI (λk=>F k/\NC J k) J W->Q .normal a W)(ao:∀(c:eN)(z:List α)(F:Nat->Prop)(J W:X),(∀k,F k->w.heap.size<k/\k<J.heap.size)->Sp z->Ix c z F J->jI (λk=>F k/\NC J k) J W->c.wpIn (Fence.wide.inRound l₀) 1 P Q a W):(Code.rangeFunc g ps assign body).wpIn (Fence.wide.inRound l₀) 1 P Q a w:=by
 refine wpIn_rangeFunc λfn az=>?_;obtain⟨rc,aa⟩:∃rc:LoopState->Option eN->Loop,rc=λst pe=>{ state:=st,pending:=pe,fn,tmps:=a.tmps,params:=ps,assign,body,defers:=ai.defers }:=⟨_,rfl⟩
 obtain⟨V,hV⟩:∃V,w.alloc (.loop (rc .ready Z))=V:=⟨_,rfl⟩
 have vl:V.heap[w.heap.size]? =M (.loop (rc .ready Z)):=by rw[<-hV];exact World.alloc_heap_new w _
 have vI:I [] (λ_=>False) V:=by rw[<-hV];exact(hI _).alloc _ h0
 have vS:St [] V:=by rw[<-hV];exact ar.alloc _ au
 refine⟨w.heap.size,[],V,{ target:=.fn (.func gf) lb,args:=#[.func (.yield w.heap.size) #[] #[]] },V,gf,
  #[.func (.yield w.heap.size) #[] #[]]++lb,V,?_,?_,λ_ _=>trivial,by simp[invoke,go_sem,eg],λh=>by simp[Fence.wide]at h,?_⟩
 .rw[<-hV,aa];exact run_enterLoop_inner am _ _ _ _ _
 .simp only[resolve,hg];simp[go_sem]
 refine CallsIn.mono (iN.2 (iN.1 (aq _
  (λz F W=>I z F W/\W.heap[w.heap.size]? =M _/\∀k,F k->w.heap.size<k/\k<W.heap.size)
  (λz F W=>∃c,Ix c z F W/\W.heap[w.heap.size]? =M (.loop (rc .done (M c)))/\∀k,F k->w.heap.size<k/\k<W.heap.size) V (jE vl) vS ?_ ⟨vI,vl,λ_ h=>h.elim⟩)):CallsIn _ 0 P gf _ V _) ?_
 .rintro z x F J R ⟨i0,l0,f0⟩ hb hy;have nl:¬F w.heap.size:=λh=>by have:=(f0 _ h).1;omega
  have ac:=(jE l0)
  have l1:=(hb.block _ ac (λe=>nl e.1)).trans l0;have ag:=(jE l1)
  have ry:=run_yield (P:=P) (args:=encs x) l1 (by rw[aa];exact av x);rw[aa]at ry;refine⟨fn,_,assign,body,ry,roundIn_of_wpIn az (ae _ x R _ ⟨_,run_beginRound ((aZ _ _ _ ag).trans l1) (by rw[aa]),?_⟩)⟩;clear ry;rw[yw _ _ _ _ ag];obtain⟨o,ho⟩:∃o:oA,Obj.loop { rc .ready Z with state:=.busy }=o:=⟨_,rfl⟩
  rw[ho];have b1:=Py (uQ hb _ o ac) nl
  have y1:Y z x (J.putObj w.heap.size o).heap.size (R.putObj w.heap.size o):=by
   rw[World.putObj_size];exact(hY _).putObj (s:=(z,x)) o hy aA l1 rfl
  have eF:wS F (J.putObj w.heap.size o) (R.putObj w.heap.size o)=wS F J R:=by unfold wS;simp only[World.putObj_size]
  have ah:=ak _ z x F _ _ rfl aF ⟨_,(World.putObj_heap_same ag).trans (Z1 M ho.symm)⟩ (by simpa using f0) ((hI F).putObj o i0 aA l0 rfl) b1 y1;rw[eF]at ah;simp only[World.putObj_size]at ah
  have f1:∀k,wS F J R k->w.heap.size<k/\k<R.heap.size:=λk hk=>by
   have:=hb.size;obtain h|h:=hk
   .have:=f0 k h;omega
   .omega
  refine wpIn_mono ah ?_;clear ah;have aw:((R.putObj w.heap.size o).alloc (ox x)).heap[w.heap.size]? =M o:=(aZ _ _ _ aF).trans (World.putObj_heap_same ag)
  have fin:∀(E:Option eN)(W3:X),KeepsFrom w.heap.size ((R.putObj w.heap.size o).alloc (ox x)) W3->
    (Instr.endRound w.heap.size E).run P W3=.ok (.bool E.isNone) (W3.putObj w.heap.size (.loop (rc (if E.isNone then .ready else .done) E)))/\
    W3.heap[w.heap.size]? =M o/\
    (W3.putObj w.heap.size (.loop (rc (if E.isNone then .ready else .done) E))).heap[w.heap.size]? =M (.loop (rc (if E.isNone then .ready else .done) E)):=λE W3 ay=>by
   have q1:=ay.same _ _ aA aw (by rw[<-ho];rfl);have ap:=q1;rw[<-ho]at ap;have:=run_endRound (P:=P) E ap;refine⟨?_,q1,World.putObj_heap_same (jE q1)⟩;rw[aa]at this⊢;exact this
  rintro e a3 W3 hp;cases e with
  |normal=>
   obtain⟨k3,kk,kx,i3⟩:=hp;obtain⟨hr,l3,l4⟩:=fin Z W3 k3;have s3:R.heap.size<=W3.heap.size:=by have:=k3.size;simp at this;omega
   refine⟨_,_,hr,bN ⟨rfl,⟨(hI _).putObj _ i3 aA l3 (by rw[<-ho];rfl),l4,λk hk=>by have:=f1 k hk;rw[World.putObj_size];omega⟩,by rw[World.putObj_size];exact s3,ar.putObj _ kk aA l3 (by rw[<-ho];rfl),λk h1=>by
    have:=f1 k h1;rw[World.putObj_heap_other aA,kx k h1,aZ _ _ _ aF,World.putObj_heap_other aA]⟩⟩
  |ret=>
   obtain⟨k3,kx,i3⟩:=hp;obtain⟨hr,l3,l4⟩:=fin (M .ret) W3 k3;have s3:R.heap.size<=W3.heap.size:=by have:=k3.size;simp at this;omega
   exact⟨_,_,hr,cF ⟨rfl,⟨_,(af _ _).putObj _ i3 aA l3 (by rw[<-ho];rfl),l4,λk hk=>by have:=f1 k hk;rw[World.putObj_size];omega⟩,by rw[World.putObj_size];exact s3,λk h1=>by
    have:=f1 k h1;rw[World.putObj_heap_other aA,kx k h1,aZ _ _ _ aF,World.putObj_heap_other aA]⟩⟩
  |exit id=>
   obtain⟨k3,kx,i3⟩:=hp;obtain⟨hr,l3,l4⟩:=fin (M (.exit id)) W3 k3;have s3:R.heap.size<=W3.heap.size:=by have:=k3.size;simp at this;omega
   exact⟨_,_,hr,cF ⟨rfl,⟨_,(af _ _).putObj _ i3 aA l3 (by rw[<-ho];rfl),l4,λk hk=>by have:=f1 k hk;rw[World.putObj_size];omega⟩,by rw[World.putObj_size];exact s3,λk h1=>by
    have:=f1 k h1;rw[World.putObj_heap_other aA,kx k h1,aZ _ _ _ aF,World.putObj_heap_other aA]⟩⟩
  |goto t=>
   obtain⟨k3,kx,i3⟩:=hp;obtain⟨hr,l3,l4⟩:=fin (M (.goto t)) W3 k3;have s3:R.heap.size<=W3.heap.size:=by have:=k3.size;simp at this;omega
   exact⟨_,_,hr,cF ⟨rfl,⟨_,(af _ _).putObj _ i3 aA l3 (by rw[<-ho];rfl),l4,λk hk=>by have:=f1 k hk;rw[World.putObj_size];omega⟩,by rw[World.putObj_size];exact s3,λk h1=>by
    have:=f1 k h1;rw[World.putObj_heap_other aA,kx k h1,aZ _ _ _ aF,World.putObj_heap_other aA]⟩⟩
  |panic ch=>exact hp.elim
  |outgrown=>exact hp.elim
 .rintro e W2 ⟨⟨v,rfl⟩,(⟨xs,F,J,hS,⟨i0,l0,f0⟩,hb⟩|⟨z,F,J,hS,⟨c,i0,l0,f0⟩,hb⟩)⟩
  .have nl:¬F w.heap.size:=λh=>by have:=(f0 _ h).1;omega
   have ac:=(jE l0)
   have l2:=(hb.block _ ac (λe=>nl e.1)).trans l0;refine⟨Z,_,by have:=run_endLoop (P:=P) l2 (by rw[aa];simp);rw[aa]at this;exact this,?_⟩;exact an xs F _ _ (by simpa using f0) hS ((hI F).putObj _ i0 aA l0 rfl) (Py (uQ hb _ _ ac) nl)
  .have nl:¬F w.heap.size:=λh=>by have:=(f0 _ h).1;omega
   have ac:=(jE l0)
   have l2:=(hb.block _ ac (λe=>nl e.1)).trans l0;refine⟨M c,_,by have:=run_endLoop (P:=P) l2 (by rw[aa];simp);rw[aa]at this;exact this,?_⟩;exact ao c z F _ _ (by simpa using f0) hS ((af c F).putObj _ i0 aA l0 rfl) (Py (uQ hb _ _ ac) nl)
end
open Dv (Ba)
section
variable {T:List UInt8}{is:List Im.It}{p j:Nat}{i:Im.It}{W:X}
structure BX where
 b:Ba
 a:Option Addr
 cap:Nat
def BX.encs(x:BX):Array aD:=#[gR #[N aE x.b.epoch,N aE x.b.id,N aE x.b.time,.slice x.a x.b.txs.length x.cap,N aE x.b.place]]
def Qe(ho:Option oA)(cB:Nat)(S:ByteArray)(_:List BX)(W:X):Prop:=W.heap[1]? =ho/\lJ W/\Boxed W cB 9 (bE S)
def BY(T:List UInt8)(pre:List BX)(x:BX)(lo:Nat)(W:X):Prop:=Made W lo (.slice x.a x.b.txs.length x.cap) x.b.txs/\x.b.place=0/\∃p,yM T ((pre++[x]).map BX.b) p
def BS(T:List UInt8)(xs:List BX):Prop:=∃p,yM T (xs.map BX.b) p/\aeR T p
def I4(h:Im.nJ (Im.read Im.body 8) T is p):∀E:List Ba,is.map Vr=E.map M->yM T E p:=by
 induction h with
 |nil=>
  intro E z;cases E with
  |nil=>exact .nil
  |cons=>simp at z
 |@snoc l p i n _ hp hr ih=>
  intro E z;rw[bJ]at z;obtain rfl|⟨I,b,rfl⟩:=List.eq_nil_or_concat E
  .simp at z
  .rw[List.concat_eq_append]at z⊢;rw[bJ]at z;obtain⟨R,h2⟩:=List.append_inj' z rfl;simp only[eP,fP,List.cons.injEq,and_true]at h2;exact .snoc (ih I R) hp hr h2
def Gw(h:Im.nJ (Im.read Im.body 8) T (is++[i]) p):∃z n,Im.nJ (Im.read Im.body 8) T is z/\z<T.length/\Im.read Im.body 8 (T.drop z)=M (i,n):=by
 generalize E:is++[i]=l at h;cases h with
 |nil=>simp at E
 |snoc h1 h2 h3=>
  obtain⟨rfl,e⟩:=List.append_inj' E rfl;cases e;exact⟨_,_,h1,h2,h3⟩
def Cj{n d:Nat}(h:Im.read Im.body d T=M (i,n)):i.bytes.length<=T.length:=by
 cases d with
 |zero=>
  rw[Im.read]at h;split at h
  .cases h;simp only[dW,bK];omega
  .cases h
 |succ d=>
  rw[Im.read]at h;split at h
  .cases h
  .cases h;simp only[dW,bK];omega
  .rw[bI]at h;obtain⟨l,_,e⟩:=h;cases e;simp
structure EI(J:List BX->(Nat->Prop)->X->Prop)(ho:Option oA)(cB B0 l n0 n1:Nat)(S:ByteArray)(Wc:X)(pre:List BX)(F:Nat->Prop)(W0:X):Prop where
 j:J pre F W0
 jM:jI (λk=>F k/\NC W0 k) W0 Wc
 own:∀k,n0<=k->k<n1->F k\/W0.heap.size<=k
 nc:∀k,n1<=k+2->k<n1->W0.heap.size<=k\/NC W0 k
 st:Qe ho cB S pre Wc
 box:Wc.heap[B0]? =M (aL #[.func (.yield l) #[] #[]] 156 (0,0))
 big:n1<=Wc.heap.size
def og{F:Nat->Prop}{A B:X}(h:jI F A B)(E:F j\/A.heap.size<=j)(o:oA):jI F A (B.putObj j o):=
 ⟨h.os,h.tape,h.output,by simpa using h.size,λk hk z=>by
  rw[World.putObj_heap_other]
  .exact h.block k hk z
  .rintro rfl;obtain q|q:=E
   .exact z q
   .omega⟩
def TY{o:oA}(h:lJ W)(I:j≠1):lJ (W.putObj j o):=by have q0:(W.putObj j o).heap[1]? =W.heap[1]?:=World.putObj_heap_other (λe=>I e.symm);obtain⟨⟨E,R,Y⟩,a3,z,a5⟩:=h;exact⟨⟨(cD q0).trans E,(cD q0).trans R,(cD q0).trans Y⟩,(cD q0).trans a3,(cD q0).trans z,(cD q0).trans a5⟩
variable {J:List BX->(Nat->Prop)->X->Prop}{ho:Option oA}{cB B0 l n0 n1:Nat}{S:ByteArray}{Wc:X}{pre:List BX}{F:Nat->Prop}{W0:X}
def EI.free(h:EI J ho cB B0 l n0 n1 S Wc pre F W0)(E:n0<=j)(z:n1<=j+2)(h2:j<n1):(F j/\NC W0 j)\/W0.heap.size<=j:=by
 obtain q|q:=h.nc j z h2
 .exact cF q
 .obtain r|r:=h.own j E h2
  .exact bN ⟨r,q⟩
  .exact cF r
def EI.put(h:EI J ho cB B0 l n0 n1 S Wc pre F W0)(o:oA)(E:n0<=j)(z:n1<=j+2)(h2:j<n1)(h3:1<n0)(h4:cB<n0)(I:B0≠j):EI J ho cB B0 l n0 n1 S (Wc.putObj j o) pre F W0:=
 ⟨h.j,og h.jM (h.free E z h2) o,h.own,h.nc,⟨(World.putObj_heap_other aA).trans h.st.1,TY h.st.2.1 aA,(World.putObj_heap_other aA).trans h.st.2.2⟩,(World.putObj_heap_other I).trans h.box,by rw[World.putObj_size];exact h.big⟩
def EI.below(h:EI J ho cB B0 l n0 n1 S Wc pre F W0)(z:cG Wc.heap.size Wc W):EI J ho cB B0 l n0 n1 S W pre F W0:=
 ⟨h.j,h.jM.trans (.below z jB _) (λ_ _ e=>e),h.own,h.nc,⟨(z.block _ h.st.2.1.pos).trans h.st.1,h.st.2.1.below z h.st.2.1.pos,(z.block _ h.st.2.2.lt).trans h.st.2.2⟩,(z.block _ (jE h.box)).trans h.box,bH h.big z.size⟩
def EI.next(h:EI J ho cB B0 l n0 n1 S Wc pre F W0){x:BX}{E:X}(hj:J (pre++[x]) (wS F W0 Wc) E)(hs:Wc.heap.size<=E.heap.size)(R:Qe ho cB S (pre++[x]) E)(hk:∀k,wS F W0 Wc k->E.heap[k]? =Wc.heap[k]?)(hB:n0<=B0)(Y:B0<n1)(hn:n0+2<=n1)(aa:∀k,n1<=k+2->k<n1->NC Wc k):EI J ho cB B0 l n0 n1 S E (pre++[x]) (wS F W0 Wc) E/\∀k,n0<=k->k<n1->E.heap[k]? =Wc.heap[k]?:=by
 have I:∀k,n0<=k->k<n1->wS F W0 Wc k:=λk z h2=>by
  have:=h.big;obtain q|q:=h.own k z h2
  .exact bN q
  .exact cF ⟨q,aA⟩
 exact⟨⟨hj,jI.refl _ _,λk z h2=>bN (I k z h2),λk z h2=>cF (λcs t fz e=>aa k z h2 cs t fz (by rw[<-hk k (I k aA h2)];exact e)),R,(hk B0 (I B0 hB Y)).trans h.box,bH h.big hs⟩,λk z h2=>hk k (I k z h2)⟩
def Jb(s:ByteArray)(w:X):eL PQ 83 #[bE s] w λe w'=>e=bX (.func (.func 140) #[] #[aG (M ⟨w.heap.size,0,Z⟩),aG (M ⟨w.heap.size+1,0,Z⟩)])/\w'=(w.alloc (aL #[bE s] 9)).alloc (aL #[N aE 1] 3):=by
 have hc:=BZ s 1 w;have z:cJ _:=λ(_:Unit)=>hc;clear hc;go_enter (fq Tryz.func83 rfl),Tryz.ntmps83;go_wp2_with (go_at_call 123;refine aT (z.out ()) ?_;rintro e w2 ⟨rfl,rfl⟩)
 go_ret;exact⟨rfl,rfl⟩
end
end Hm
section
open Go.RowKit
def pR(s:ByteArray)(i j:Nat):(s.extract i j).data.toList=(s.data.toList.take j).drop i:=by simp[ByteArray.data_extract,Array.toList_extract,List.drop_take]
def strLen:aD->Nat|bE s=>s.size|_=>0
def J3(s:ByteArray)(I:0<s.size):Sq.piece s.data.toList=
  if s[0].toNat<128 then(if s[0].toNat+2<=s.size then M ((s.extract 1 (s[0].toNat+2)).data.toList,s[0].toNat+2)else Z)
  else if s[0].toNat=128 then Z
  else if 2<=s.size then M (Lib.repeatL (s.extract 1 2).data.toList (257-s[0].toNat),2)else Z:=by
 obtain⟨d⟩:=s;obtain⟨l⟩:=d;cases l with
 |nil=>simp[ByteArray.size]at I
 |cons c r=>
  have z:(⟨⟨c::r⟩⟩:ByteArray)[0]=c:=rfl;have E:(⟨⟨c::r⟩⟩:ByteArray).size=r.length+1:=rfl;rw[z,E];simp only[pR,Sq.piece];split
  .by_cases h:c.toNat+1<=r.length
   .rw[ZD h,ZD aA];rfl
   .rw[Zs h,Zs aA]
  .split
   .rfl
   .cases r with
    |nil=>simp
    |cons b q=>
     simp only[aU];rw[ZD aA];have:=Lib.repeatL_replicate b 1 (257-c.toNat);simp only[Nat.mul_one]at this;rw[<-this];rfl
def ac6(s:ByteArray)(w:X)(E:0<s.size)(hc:(s[0].toNat:Int)<128)(z:(s[0].toNat:Int)+2<=s.size):eL PQ 121 #[bE s] w λe w'=>e=bX (cP #[bE (s.extract 1 (s[0].toNat+2)),N aE (s[0].toNat+2),cM bB])/\w'=w:=by
 go_enter (fq Tryz.func121 rfl),Tryz.ntmps121;go_wp2_with fail;go_ret3;exact⟨rfl,rfl⟩
def aco(s:ByteArray)(L:List UInt8)(w:X)(E:s.size<=maxLen)(h0:0<s.size)(hc:128<(s[0].toNat:Int))(Y:2<=(s.size:Int))(I:cJ (Lib.repeatL (s.extract 1 2).data.toList (257-s[0].toNat)=L)):eL PQ 121 #[bE s] w λe w'=>e=bX (cP #[bE ⟨L.toArray⟩,N aE 2,cM bB])/\cG w.heap.size w w':=by
 unfold maxLen at E;have J:=s[0].toNat_lt;have R:(s[0].toNat:Int)<256:=aA
 clear J;go_enter (fq Tryz.func121 rfl),Tryz.ntmps121;go_wp2_with fail;rw[show((257:Int)-(s[0].toNat:Int))=((257-s[0].toNat:Nat):Int) from by omega]
 refine(repeated _ _ _ aA (by
  have:(s.extract 1 2).size<=1:=by simp[fA];omega
  have:=Nat.mul_le_mul this (show 257-s[0].toNat<=257 from by omega);omega)).mono ?_
 rintro e w1 ⟨rfl,z⟩;rw[I.out];go_wp2;go_ret3;exact⟨rfl,z⟩
def afN(s:ByteArray)(w:X)(z:s.size<=maxLen)(R:0<s.size)(hc:(s[0].toNat:Int)=128\/(128<(s[0].toNat:Int)/\(s.size:Int)<2)\/((s[0].toNat:Int)<128/\(s.size:Int)<(s[0].toNat:Int)+2)):eL PQ 121 #[bE s] w λe w'=>e=bX (cP #[bE ⟨#[]⟩,N aE 0,cM aR])/\w'=w:=by
 unfold maxLen at z;have E:=s[0].toNat_lt;have I:(s[0].toNat:Int)<256:=aA
 clear E;obtain hc|⟨hc,hd⟩|⟨hc,hd⟩:=hc
 .have J:((s[0].toNat:Int) == 128)=bB:=by simp[hc]
  clear hc;go_enter (fq Tryz.func121 rfl),Tryz.ntmps121;go_wp2_with fail;go_ret3;exact⟨rfl,rfl⟩
 .go_enter (fq Tryz.func121 rfl),Tryz.ntmps121;go_wp2_with fail;go_ret3;exact⟨rfl,rfl⟩
 .go_enter (fq Tryz.func121 rfl),Tryz.ntmps121;go_wp2_with fail;go_ret3;exact⟨rfl,rfl⟩
def aaT(s:ByteArray)(t:List UInt8)(n:Nat)(w:X)(E:s.size<=maxLen)(hp:Sq.piece s.data.toList=M (t,n)):eL PQ 121 #[bE s] w λe w'=>e=bX (cP #[bE ⟨t.toArray⟩,N aE n,cM bB])/\cG w.heap.size w w':=by
 have z:0<s.size:=by
  have:=(Sq.LH _ _ _ hp)
  rw[bD];omega
 rw[J3 s z]at hp;split at hp
 .split at hp
  .simp only[aK,dJ]at hp;obtain⟨rfl,rfl⟩:=hp;refine(ac6 s w z aA aA).mono ?_;rintro e w' ⟨rfl,rfl⟩;exact⟨rfl,aJ _ _⟩
  .simp at hp
 .split at hp
  .simp at hp
  .split at hp
   .simp only[aK,dJ]at hp;obtain⟨rfl,rfl⟩:=hp;exact aco s _ w E z aA aA rfl
   .simp at hp
def abl(s:ByteArray)(w:X)(E:s.size<=maxLen)(z:0<s.size)(hp:Sq.piece s.data.toList=Z):eL PQ 121 #[bE s] w λe w'=>e=bX (cP #[bE ⟨#[]⟩,N aE 0,cM aR])/\w'=w:=by
 rw[J3 s z]at hp;refine afN s w E z ?_;split at hp
 .split at hp
  .simp at hp
  .right;right;omega
 .split at hp
  .left;omega
  .split at hp
   .simp at hp
   .right;left;omega
def NM(s:ByteArray)(most:Int)(w:X)(hs:s.size<=2097152)(ar:-9223372036854775808<=most)(au:most<=9223372036854775807):eL PQ 82 #[bE s,N aE most] w λe w'=>e=bX (cP #[bE ⟨(Sq.spread s.size s.data.toList most []).1.toArray⟩,.bool (Sq.spread s.size s.data.toList most []).2])/\cG w.heap.size w w':=by
 generalize hR:Sq.spread s.size s.data.toList most []=R;have HR:cJ _:=hR;clear hR;go_enter (fq Tryz.func82 rfl),Tryz.ntmps82;go_wp2_with fail;go_loopw [0] (λv wr=>∃(s':ByteArray)(f:Nat)(out:List UInt8),v=bE s'/\s'.size<=f/\Sq.spread f s'.data.toList most out=R/\out.length+128*s'.size<=268435456/\(out=[]\/(out.length:Int)<=most)/\Zb w.heap.size w.heap.size out wr/\cG w.heap.size w wr) (λv _=>strLen v)
 case atStart=>
  refine⟨s,_,[],rfl,jB,HR.out,aF,bN rfl,fresh w,(aJ _ w).alloc jB _⟩
 case round=>
  obtain⟨s',f,out,rfl,hf,J,ap,ac,hI,I⟩:=hrel;by_cases h0:0<s'.size
  .have am:(!s'.toList.isEmpty)=bB:=by rw[toList_empty,ZZ aA];rfl
   cases hp:Sq.piece s'.data.toList with
   |none=>
    have z:cJ (R=(out,aR)):=by
     rw[<-J];exact Sq.Ns _ _ _ _ (by rw[<-bD];exact h0) (by rw[<-bD];exact hf) hp
    clear J ac;go_wp2_with fail;refine(abl s' _ (by unfold maxLen;omega) h0 hp).mono ?_;rintro e w1 ⟨rfl,rfl⟩;go_wp2_with fail;refine(AU _ _ out _ hI (by have:=I.size;omega)).mono ?_;rintro e w2 ⟨rfl,_,Y⟩;go_wp2;go_ret2;rw[z.out];exact⟨rfl,I.trans Y⟩
   |some tn=>
    obtain⟨t,n⟩:=tn;have an:=Sq.LH _ _ _ hp;rw[<-bD]at an;have av:-9223372036854775808<=most-(out.length:Int):=by obtain h|h:=ac;simp[h];omega;omega
    have aw:most-(out.length:Int)<=9223372036854775807:=aA
    have af:cJ _:=ac;clear ac;have ak:cJ _:=J;clear J;have Hp:cJ _:=hp;clear hp;go_wp2_with fail;refine(aaT s' t n _ (by unfold maxLen;omega) Hp.out).mono ?_;rintro e w1 ⟨rfl,Y⟩;have ah:=EL hI Y;have aa:=I.trans (Y.mono I.size);go_wp2_with fail;refine(agW _ _ out _ ah).mono ?_;rintro e w2 ⟨rfl,rfl⟩;go_wp2_with fail
    .have E:max (most-(out.length:Int)) 0<(t.length:Int):=by assumption
     have aq:(({ data:=t.toArray }:ByteArray).extract 0 (max (most-(out.length:Int)) 0).toNat).size<=t.length:=by
      rw[bD,pR];simp;omega
     have z:cJ (R=(out++(({ data:=t.toArray }:ByteArray).extract 0 (max (most-(out.length:Int)) 0).toNat).data.toList,aR)):=by
      show _=_
      rw[<-ak.out,Sq.zU _ _ _ _ t n (by rw[<-bD];exact h0) (by rw[<-bD];exact hf) Hp.out];rw[ZD (by obtain h|h:=af.out;simp[h]at E⊢;omega;omega)];rw[pR];simp only[List.drop_zero]
      congr 3
      obtain h|h:=af.out
      .simp[h]
      .omega
     refine(O1 _ _ out _ _ ah aA (by have:=aa.size;omega)).mono ?_;rintro e w3 ⟨rfl,ae,ag⟩;go_wp2_with fail;refine(AU _ _ _ _ ae (by have:=aa.size;have:=ag.size;omega)).mono ?_;rintro e w4 ⟨rfl,_,ao⟩;generalize out++(({ data:=t.toArray }:ByteArray).extract 0 (max (most-(out.length:Int)) 0).toNat).data.toList=Wd at z ae⊢;go_wp2;go_ret2;rw[z.out];exact⟨rfl,(aa.trans ag).trans ao⟩
    .have E:(t.length:Int)<=max (most-(out.length:Int)) 0:=by assumption
     refine(O1 _ _ out _ _ ah (by show _+t.toArray.size<=_;simp;omega) (by have:=aa.size;omega)).mono ?_;rintro e w3 ⟨rfl,ae,ag⟩;go_wp2;go_roundw
     case rel=>
      have aj:(s'.extract n s'.size).size=s'.size-n:=by simp[fA]
      refine⟨_,f-1,_,rfl,aA,?_,?_,?_,ae,aa.trans ag⟩
      .rw[<-ak.out,Sq.zU _ _ _ _ t n (by rw[<-bD];exact h0) (by rw[<-bD];exact hf) Hp.out];rw[Zs (by obtain h|h:=af.out;simp[h]at E⊢;omega;omega)];rw[pR,bD,iJ]
      .rw[aj,aS];omega
      .right;rw[aS];obtain h|h:=af.out
       .simp[h]at E⊢;omega
       .omega
     case measure=>
      have aj:(s'.extract n s'.size).size=s'.size-n:=by simp[fA]
      simp[strLen];omega
  .have am:(!s'.toList.isEmpty)=aR:=by rw[toList_empty,Z0 aA];rfl
   go_wp2_with fail;refine(AU _ _ out _ hI (by have:=I.size;omega)).mono ?_;rintro e w1 ⟨rfl,_,Y⟩
   have ai:s'.data.toList=[]:=by
    have:=bD s';exact bP aA
   rw[ai,Sq.O7]at J;subst J;go_wp2;go_ret2;exact⟨rfl,I.trans Y⟩
end
