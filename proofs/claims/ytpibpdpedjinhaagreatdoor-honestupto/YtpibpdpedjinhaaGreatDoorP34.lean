import Derived.Test.YtpibpdpedjinhaaGreatDoorP33
set_option maxRecDepth 100000
set_option maxHeartbeats 8000000
set_option linter.all false
open Bool renaming false->aL,true->bB
open Go renaming Calls->eE,Code->im,KeepsFrom->lB,Obj->pT,OwnFrom->nA,Value->aD,World->U,bodyPost_ret->cM,callsIn_wide->km,run_endLoop->rI
open Go.Ending renaming returned->bX
open Go.IntKind renaming i64->X
open Go.Obj renaming cells->aG
open Go.Proofs.Tryz renaming results121->kA
open Go.Value renaming agg->gP,bool->cF,int->N,slice->aR,string->aH,tuple->dC
open Go.World renaming cell?_of_block->bN,putObj_heap_other->cE,putObj_heap_same->eR,putObj_size->eO
open Nat renaming le_succ->mK
open Option renaming none->Z,some->M
namespace Go.Proofs.YtpibpdpedjinhaaGreatDoor
namespace Hm
open Go.RowKit Go.Joins Go.Shelf
open Fr (below_drewN)
open Dv (X2 Cf Ba)
section
variable {l:Im.It}{a b c:Option Nat}{w:U}
def KZ(l:Im.It):Option Ba:=match l.kids with
 |[a,b,c,d]=>match Dv.value a,Dv.value b,Dv.value c,strs d with
  |some x,M y,M z,M t=>M ⟨x,y,z,t,0⟩
  |_,_,_,_=>Z
 |_=>Z
def sS(i:Im.It):Option Ba:=match i.bytes with
 |[]=>Z
 |x::r=>if x=0 then(Im.dec r).bind KZ else Z
theorem YQ(h:l.kids.length≠4):KZ l=Z:=by
 unfold KZ;split
 .rename_i e;rw[e]at h;exact Xs rfl h
 .rfl
def Vd:Option Nat->Option Nat->Option Nat->Option (List (List UInt8))->Option Ba
 |some x,M y,M z,M t=>M ⟨x,y,z,t,0⟩
 |_,_,_,_=>Z
theorem UG{a b c d:Im.It}(h:l.kids=[a,b,c,d]):KZ l=Vd (Dv.value a) (Dv.value b) (Dv.value c) (strs d):=by unfold KZ Vd;rw[h]
theorem Iq{R:Option (List (List UInt8))}(h:a.isSome=aL\/b.isSome=aL\/c.isSome=aL\/R.isSome=aL):Vd a b c R=Z:=by
 cases a<;>cases b<;>cases c<;>cases R<;>simp[Vd]at h⊢
theorem UW(q:a.isSome=bB)(I:b.isSome=bB)(E:c.isSome=bB)(t:List (List UInt8)):Vd a b c (M t)=M ⟨a.getD 0,b.getD 0,c.getD 0,t,0⟩:=by
 cases a<;>cases b<;>cases c<;>simp[Vd]at q I E⊢
theorem In.four{B:Nat}{n m cap:Nat}{c0 c1:aD}{a:Option Addr}{k0 Y k2 E:Im.It}(h:In B w (n+1) c0 c1 (.slice a m cap) l)(hk:l.kids=[k0,Y,k2,E]):∃g off,a=M ⟨g,off,Z⟩/\g<B/\(∃a0 I q,K3 w g off (.bool k0.list) (aH ⟨k0.bytes.toArray⟩) (.slice a0 I q))/\(∃a0 I q,K3 w g (off+3) (.bool Y.list) (aH ⟨Y.bytes.toArray⟩) (.slice a0 I q))/\(∃a0 I q,K3 w g (off+6) (.bool k2.list) (aH ⟨k2.bytes.toArray⟩) (.slice a0 I q))/\∃a0 q,K3 w g (off+9) (.bool E.list) (aH ⟨E.bytes.toArray⟩) (.slice a0 E.kids.length q)/\In B w n (.bool E.list) (aH ⟨E.bytes.toArray⟩) (.slice a0 E.kids.length q) E:=by obtain⟨li,bs,ks⟩:=l;dsimp only at hk;subst hk;obtain⟨g,off,aa,hv,hg,J⟩:=In.kid h aC;simp only[Value.slice.injEq]at hv;obtain⟨d0,h0,i0⟩:=J 0 aC;obtain⟨d1,h1,i1⟩:=J 1 aC;obtain⟨d2,h2,i2⟩:=J 2 aC;obtain⟨d3,h3,i3⟩:=J 3 aC;obtain⟨a0,q,_,_,e0⟩:=In.shape i0;obtain⟨a1,p1,_,_,e1⟩:=In.shape i1;obtain⟨a2,p2,_,_,e2⟩:=In.shape i2;obtain⟨a3,p3,_,_,e3⟩:=In.shape i3;subst e0 e1 e2 e3;exact⟨g,off,hv.1,hg,⟨a0,_,q,h0⟩,⟨a1,_,p1,h1⟩,⟨a2,_,p2,h2⟩,a3,p3,h3,i3⟩
theorem acs{α:Type}{l:List α}(h:l.length=4):∃a b c d,l=[a,b,c,d]:=by
 match l,h with
 |[a,b,c,d],_=>exact⟨a,b,c,d,rfl⟩
def agR(w:U)(lo:Nat)(e:Ending):Option Ba->Prop
 |none=>e=bX (dC #[gP #[N X 0,N X 0,N X 0,aR Z 0 0,N X 0],cF aL])
 |some b=>∃a cap,e=bX (dC #[QE b (.slice a b.txs.length cap),cF bB])/\Made w lo (.slice a b.txs.length cap) b.txs/\b.place=0
theorem cells5{W:U}{b:Nat}{ty:TypeId}{J I E q Y:aD}(h:W.heap[b]? =M (aG #[J,I,E,q,Y] ty (0,0))):W.cell? ⟨b,0,Z⟩=M J/\W.cell? ⟨b,1,Z⟩=M I/\W.cell? ⟨b,2,Z⟩=M E/\W.cell? ⟨b,3,Z⟩=M q/\W.cell? ⟨b,4,Z⟩=M Y/\(∀o,W.frozen? ⟨b,o,Z⟩=aL):=
 ⟨by rw[aI h];rfl,by rw[aI h];rfl,by rw[aI h];rfl,by rw[aI h];rfl,by rw[aI h];rfl,aQ h⟩
theorem nX{B R:Nat}{a:U}(h:Below B a w)(q:B<=R)(Y J I E v4:aD):Below B a (ac4 w R Y J I E v4):=((((h.setCell (p:=⟨R,0,Z⟩) q _).setCell (p:=⟨R,1,Z⟩) q _).setCell (p:=⟨R,2,Z⟩) q _).setCell (p:=⟨R,3,Z⟩) q _).setCell (p:=⟨R,4,Z⟩) q _
theorem Oy(i:Im.It)(c2:aD)(w:U)(cw:∃a n cap,c2=.slice a n cap)(hs:i.bytes.length<=16777216)(hH:kG w):eE PQ 121 #[gP #[.bool i.list,aH ⟨i.bytes.toArray⟩,c2]] w λe w'=>agR w' w.heap.size e (sS i)/\Below w.heap.size w w':=by
 obtain⟨ia,ik,ic,rfl⟩:=cw;obtain⟨D,hD⟩:∃D:ByteArray,(⟨i.bytes.toArray⟩:ByteArray)=D:=⟨_,rfl⟩
 have am:D.data.toList=i.bytes:=by rw[<-hD]
 have an:D.size=i.bytes.length:=by rw[<-hD];rfl
 rw[hD];obtain⟨Q,hQ⟩:∃Q,sS i=Q:=⟨_,rfl⟩
 rw[hQ];unfold sS at hQ;obtain⟨W,hW⟩:∃W,W=(w.alloc (aG #[.bool i.list,aH D,.slice ia ik ic] 103)).alloc (aG #[N X 0,N X 0,N X 0,aR Z 0 0,N X 0] 150):=⟨_,rfl⟩
 have J:Below w.heap.size w W:=by rw[hW];exact((aJ _ w).alloc jE _).alloc aC _
 have cl:W.heap.size=w.heap.size+2:=by rw[hW];simp
 have ag:W.heap[w.heap.size+1]? =M (aG #[N X 0,N X 0,N X 0,aR Z 0 0,N X 0] 150 (0,0)):=by
  have:=heap_alloc_new (w.alloc (aG #[.bool i.list,aH D,.slice ia ik ic] 103)) (aG #[N X 0,N X 0,N X 0,aR Z 0 0,N X 0] 150);rw[hW];simpa using this
 have z1:W.cell? ⟨w.heap.size,1,Z⟩=M (aH D):=by rw[hW];simp
 obtain⟨r0,r1,r2,r3,r4,rf⟩:=cells5 ag;have a4:=hH.below J hH.pos;cases aa:i.bytes with
 |nil=>
  rw[aa]at hQ;subst hQ;have cj:D.toList.isEmpty=bB:=by rw[Fr.toList_empty];exact Z0 (by rw[an,aa];rfl)
  have H:Hid _:=jD J ag;clear J ag hD am an aa a4 hH hs cl;go_enter (fq Tryz.func121 rfl),Tryz.ntmps121;go_upto_region 1 with fail;rw[<-hW];clear hW;go_wp2_with fail;refine cM (v:=.tuple _) (by simp[results,kA,go_sem,r0,r1,r2,r3,r4]) rfl ⟨rfl,nX H.out.1 (mK _) _ _ _ _ _⟩
 |cons x r=>
  rw[aa]at hQ;dsimp only at hQ;have h0:0<D.size:=by rw[an,aa];simp
  have cj:D.toList.isEmpty=aL:=by rw[Fr.toList_empty];exact ZZ aA
  have av:D[0]'h0=x:=by
   have:D.data.toList[0]? =M (D[0]'h0):=by
    rw[aO (by simpa using h0)];rfl
   rw[am,aa]at this;simpa using this.symm
  by_cases hz:x=0
  .rw[ZD hz]at hQ;have cx:(((D[0]'h0).toNat:Int) == 0)=bB:=by rw[av,hz];rfl
   obtain⟨S,hS⟩:∃S:ByteArray,D.extract 1 D.size=S:=⟨_,rfl⟩
   have ax:S.data.toList=r:=by
    rw[<-hS,Fr.ext_list,bD,iM,am,aa];rfl
   have a8:S.size<=16777216:=by
    rw[bD,ax];rw[aa]at hs;simp at hs;omega
   have q:=decode_any S W a8 a4;rw[ax]at q;have h1:(1:Int)<=(D.size:Int):=aA
   have ar:∀V,Below W.heap.size W V->V.heap[w.heap.size+1]? =M (aG #[N X 0,N X 0,N X 0,aR Z 0 0,N X 0] 150 (0,0)):=λV hV=>(hV.block _ aA).trans ag;have aq:Hid _:=ar;cases hd:Im.dec r with
   |none=>
    rw[hd]at q hQ;have ab:Z=Q:=hQ;subst ab;have af:Hid _:=λ(_:Unit)=>q;have H:Hid _:=J;clear J ag hD am an aa a4 hH hs av hz q hQ hd ax a8 ar;go_enter (fq Tryz.func121 rfl),Tryz.ntmps121;go_upto_region 1 with fail;rw[<-hW];clear hW;go_wp2_with (first|(go_at_call 175;refine aT (af.out ()) ?_;rintro e w2 ⟨he,E⟩;unfold Jw at he;subst he;obtain⟨q0,q1,q2,q3,q4,qf⟩:=cells5 (aq.out _ (E.alloc E.size (aG #[cF aL,aH ⟨#[]⟩,aR Z 0 0] 103))))|fail)
    refine cM (v:=.tuple _) (by simp[results,kA,go_sem,q0,q1,q2,q3,q4]) rfl ⟨rfl,nX (H.out.trans ((E.alloc E.size _).mono H.out.size)) (mK _) _ _ _ _ _⟩
   |some l=>
    rw[hd]at q hQ;have ab:KZ l=Q:=hQ;have bq:=λk hk=>aap (k:=k) hd hk;have cb:r.length<=16777216:=by rw[<-ax,<-bD];exact a8
    obtain⟨D2,au⟩:∃D:ByteArray,(⟨l.bytes.toArray⟩:ByteArray)=D:=⟨_,rfl⟩
    obtain⟨li,az⟩:∃li,l.list=li:=⟨_,rfl⟩
    obtain⟨nk,aj⟩:∃nk,l.kids.length=nk:=⟨_,rfl⟩
    have af:Hid _:=λ(_:Unit)=>q;by_cases h4:nk=4
    .subst h4;obtain⟨k0,k1,k2,k3,ap⟩:=acs aj;rw[UG ap]at ab
     have ba:k3.kids.length<=4294967296:=by
      have:=bq k3 (by rw[ap];simp);omega
     obtain⟨o0,ho0⟩:∃o,Dv.value k0=o:=⟨_,rfl⟩
     obtain⟨o1,ho1⟩:∃o,Dv.value k1=o:=⟨_,rfl⟩
     obtain⟨o2,ho2⟩:∃o,Dv.value k2=o:=⟨_,rfl⟩
     obtain⟨R,hR⟩:∃R,strs k3=R:=⟨_,rfl⟩
     rw[ho0,ho1,ho2,hR]at ab;have H:Hid _:=jD J (jD au (jD az (jD aj (jD ap (jD ba (jD ab (jD ho0 (jD ho1 (jD ho2 hR)))))))));clear J ag hD am an aa a4 hH hs av hz q hQ ab hd ax a8 ar bq cb au az aj ap ba ho0 ho1 ho2 hR;go_enter (fq Tryz.func121 rfl),Tryz.ntmps121;go_upto_region 1 with fail;rw[<-hW];clear hW;go_upto_region 6 with(first|(go_at_call 175;refine aT (af.out ()) ?_;rintro e w2 ⟨he,E⟩;obtain⟨a,cap,he,ht⟩:=he;rw[H.out.2.1,H.out.2.2.1,H.out.2.2.2.1]at he;subst he;have HT:Hid (Tr _ _ _ _ _ _ _ _):=ht;clear ht)|fail)
     obtain⟨V,hV,aw,zb⟩:=jI w2 #[.bool li,aH D2,.slice a 4 cap] 103;rw[<-hV];obtain⟨J,au,az,aj,ap,ba,ab,ho0,ho1,ho2,hR⟩:=H.out;have ct:=In.below aw _ _ _ _ _ (Tr.inn 9 _ _ _ _ _ _ jE HT.out);obtain⟨g,off,rfl,hg,⟨a0,m0,p0,K0⟩,⟨a1,m1,p1,K1⟩,⟨a2,m2,p2,K2⟩,a3,p3,a9,I3⟩:=In.four ct ap;have Y:=aP hg aw.size;have b7:=(jG zb)
     have ai:=λV'=>uz k0 (.slice a0 m0 p0) V' ⟨_,_,_,rfl⟩;have ah:=λV'=>uz k1 (.slice a1 m1 p1) V' ⟨_,_,_,rfl⟩;have ak:=λV'=>uz k2 (.slice a2 m2 p2) V' ⟨_,_,_,rfl⟩;have bk:=λV' (I:Below _ V V')=>xC 6 _ k3 _ V' (bH aw.size I.size) (In.below (I.mono aw.size) _ _ _ _ _ I3) ba;obtain⟨l0,b5⟩:∃x,k0.list=x:=⟨_,rfl⟩
     obtain⟨l1,b9⟩:∃x,k1.list=x:=⟨_,rfl⟩
     obtain⟨l2,ci⟩:∃x,k2.list=x:=⟨_,rfl⟩
     obtain⟨l3,cc⟩:∃x,k3.list=x:=⟨_,rfl⟩
     obtain⟨S0,ca⟩:∃x:ByteArray,(⟨k0.bytes.toArray⟩:ByteArray)=x:=⟨_,rfl⟩
     obtain⟨S1,cr⟩:∃x:ByteArray,(⟨k1.bytes.toArray⟩:ByteArray)=x:=⟨_,rfl⟩
     obtain⟨S2,ck⟩:∃x:ByteArray,(⟨k2.bytes.toArray⟩:ByteArray)=x:=⟨_,rfl⟩
     obtain⟨S3,b8⟩:∃x:ByteArray,(⟨k3.bytes.toArray⟩:ByteArray)=x:=⟨_,rfl⟩
     obtain⟨m3,co⟩:∃x,k3.kids.length=x:=⟨_,rfl⟩
     rw[b5,ca]at ai K0;rw[b9,cr]at ah K1;rw[ci,ck]at ak K2;rw[cc,b8,co]at bk a9;rw[ho0]at ai;rw[ho1]at ah;rw[ho2]at ak;rw[hR]at bk;unfold aeY at ai ah ak;obtain⟨n0,a5⟩:∃n,o0.getD 0=n:=⟨_,rfl⟩
     obtain⟨n1,bb⟩:∃n,o1.getD 0=n:=⟨_,rfl⟩
     obtain⟨n2,bh⟩:∃n,o2.getD 0=n:=⟨_,rfl⟩
     obtain⟨b0,bd⟩:∃n,o0.isSome=n:=⟨_,rfl⟩
     obtain⟨b1,a6⟩:∃n,o1.isSome=n:=⟨_,rfl⟩
     obtain⟨b2,a7⟩:∃n,o2.isSome=n:=⟨_,rfl⟩
     rw[a5,bd]at ai;rw[bb,a6]at ah;rw[bh,a7]at ak;have bz:Hid _:=ai;have br:Hid _:=ah;have b3:Hid _:=ak;have bj:Hid _:=bk
     have hK:∀V',Below V.heap.size V V'->V'.cell? ⟨w2.heap.size,2,Z⟩=M (aR (M ⟨g,off,Z⟩) 4 cap)/\V'.cell? ⟨g,off,Z⟩=M (.bool l0)/\V'.cell? ⟨g,off+1,Z⟩=M (aH S0)/\V'.cell? ⟨g,off+2,Z⟩=M (.slice a0 m0 p0)/\V'.cell? ⟨g,off+3,Z⟩=M (.bool l1)/\V'.cell? ⟨g,off+4,Z⟩=M (aH S1)/\V'.cell? ⟨g,off+5,Z⟩=M (.slice a1 m1 p1)/\V'.cell? ⟨g,off+6,Z⟩=M (.bool l2)/\V'.cell? ⟨g,off+7,Z⟩=M (aH S2)/\V'.cell? ⟨g,off+8,Z⟩=M (.slice a2 m2 p2)/\V'.cell? ⟨g,off+9,Z⟩=M (.bool l3)/\V'.cell? ⟨g,off+10,Z⟩=M (aH S3)/\V'.cell? ⟨g,off+11,Z⟩=M (.slice a3 m3 p3):=λV' I=>
      ⟨(I.cell (p:=⟨w2.heap.size,2,Z⟩) b7).trans (by rw[aI zb];rfl),(K0.below I Y).1,(K0.below I Y).2.1,(K0.below I Y).2.2,(K1.below I Y).1,(K1.below I Y).2.1,(K1.below I Y).2.2,(K2.below I Y).1,(K2.below I Y).2.1,(K2.below I Y).2.2,(a9.below I Y).1,(a9.below I Y).2.1,(a9.below I Y).2.2⟩
     have HK:Hid _:=hK;have cg:=aJ V.heap.size V;obtain⟨x2,c3,db,dx,di,c6,dw,ei,d7,ef,dg,dr,eo⟩:=hK V cg;have bl:=E.trans (aw.mono E.size);have HQ:Hid _:=jD ab (jD a5 (jD bb (jD bh (jD bd (jD a6 (jD a7 (jD J bl)))))));clear hV aw zb J au az aj ap ba ab ho0 ho1 ho2 hR ct hg Y b7 K0 K1 K2 a9 I3 ai ah ak bk b5 b9 ci cc ca cr ck b8 co a5 bb bh bd a6 a7 hK bl E H HT r0 r1 r2 r3 r4 rf z1;go_upto_region 9 with(first|(go_at_call 176;(with_reducible refine aT (bz.out _) ?_);rintro e3 w3 ⟨rfl,cd⟩;have bw:=cd;obtain⟨x3,em,eg,el,d9,d8,ej,d0,dj,dv,d2,et,eb⟩:=HK.out w3 bw;clear cd)|(go_at_call 176;(with_reducible refine aT (br.out _) ?_);rintro e4 w4 ⟨rfl,cu⟩;have bx:=bw.trans (cu.mono bw.size);obtain⟨x4,eh,du,dk,dz,dl,er,cy,c1,dh,c4,ea,cz⟩:=HK.out w4 bx;clear cu)|(go_at_call 176;(with_reducible refine aT (b3.out _) ?_);rintro e5 w5 ⟨rfl,cp⟩;have ae:=bx.trans (cp.mono bx.size);obtain⟨x5,dq,d3,d1,de,ec,c9,dt,c5,ed,dd,dm,dy⟩:=HK.out w5 ae;clear cp)|fail)
     have bu:w.heap.size<=w5.heap.size:=by
      have e1:=HQ.out.2.2.2.2.2.2.2.1.size;have e2:=HQ.out.2.2.2.2.2.2.2.2.size;have e3:=ae.size;omega
     have bo:=(HQ.out.2.2.2.2.2.2.2.1.trans (HQ.out.2.2.2.2.2.2.2.2.mono HQ.out.2.2.2.2.2.2.2.1.size)).trans (ae.mono (bH HQ.out.2.2.2.2.2.2.2.1.size HQ.out.2.2.2.2.2.2.2.2.size));have bm:Hid _:=bo;clear bo;cases R with
     |none=>
      go_upto_region 10 with(first|(go_at_call 177;refine aT (bj.out _ ae) ?_;rintro e6 w6 ⟨he,ao⟩;unfold Strs at he;subst he)|fail)
      have bg:=ae.trans (ao.mono ae.size);have ay:=aq.out w6 (HQ.out.2.2.2.2.2.2.2.2.trans (bg.mono HQ.out.2.2.2.2.2.2.2.2.size));obtain⟨q0,q1,q2,q3,q4,qf⟩:=cells5 ay;have HB:Hid (Below w.heap.size w w6):=bm.out.trans (ao.mono bu);have bv:Z=Q:=by rw[<-HQ.out.1];exact(Iq (.inr (.inr (.inr rfl)))).symm
      subst bv;clear HQ HK bz br b3 bj bg ay ao;cases b0<;>cases b1<;>cases b2
      all_goals
       go_wp2_with fail;refine cM (v:=dC #[gP #[N X 0,N X 0,N X 0,aR Z 0 0,N X 0],cF aL]) (by simp[results,kA,go_sem,q0,q1,q2,q3,q4]) rfl ?_;exact⟨rfl,nX HB.out (mK _) _ _ _ _ _⟩
     |some t=>
      obtain⟨tn,b6⟩:∃n,t.length=n:=⟨_,rfl⟩
      have cm:Hid _:=b6;clear b6;go_upto_region 10 with(first|(go_at_call 177;refine aT (bj.out _ ae) ?_;rintro e6 w6 ⟨⟨ta,tc,he,ce⟩,ao⟩;rw[cm.out]at he;subst he;have HM:Hid _:=ce;clear ce)|fail)
      have bg:=ae.trans (ao.mono ae.size);have ay:=aq.out w6 (HQ.out.2.2.2.2.2.2.2.2.trans (bg.mono HQ.out.2.2.2.2.2.2.2.2.size));obtain⟨q0,q1,q2,q3,q4,qf⟩:=cells5 ay;have HB:Hid (Below w.heap.size w w6/\_):=jD (bm.out.trans (ao.mono bu)) ay;have HP:Hid _:=jD HQ.out.1 (jD HQ.out.2.1 (jD HQ.out.2.2.1 (jD HQ.out.2.2.2.1 (jD HQ.out.2.2.2.2.1 (jD HQ.out.2.2.2.2.2.1 HQ.out.2.2.2.2.2.2.1)))));clear HQ HK bz br b3 bj bg ay ao;by_cases ac:b0=bB/\b1=bB/\b2=bB
      .obtain⟨rfl,rfl,rfl⟩:=ac;go_wp2_with fail;obtain⟨hQ,ai,ah,ak,bs,b4,E⟩:=HP.out;rw[UW bs b4 E,ai,ah,ak]at hQ;subst hQ;refine cM (v:=dC #[gP #[N X n0,N X n1,N X n2,.slice ta tn tc,N X 0],cF bB]) (by simp[results,kA,go_sem,q0,q1,q2,q3,q4]) rfl ⟨⟨ta,tc,?_,?_,rfl⟩,nX HB.out.1 (mK _) _ _ _ _ _⟩
       .unfold QE;dsimp only;rw[cm.out];rfl
       .exact⟨HM.out.1.jR (qZ w6 _ _ _ _ _ _) (λg hg e=>jJ HM.out.1 HB.out.2 aB (by rw[hg,e])),λg hg=>bH bu (HM.out.2 g hg)⟩
      .have bv:Z=Q:=by
        rw[<-HP.out.1];obtain⟨_,_,_,_,bs,b4,E⟩:=HP.out;refine(Iq ?_).symm;rw[bs,b4,E];revert ac;cases b0<;>cases b1<;>cases b2<;>simp
       subst bv;clear HP;revert ac;cases b0<;>cases b1<;>cases b2<;>intro ac
       all_goals
        first
         |exact Xs ⟨rfl,rfl,rfl⟩ ac
         |(clear ac
           go_wp2_with fail;refine cM (v:=dC #[gP #[N X 0,N X 0,N X 0,aR Z 0 0,N X 0],cF aL]) (by simp[results,kA,go_sem,q0,q1,q2,q3,q4]) rfl ?_;exact⟨rfl,nX HB.out.1 (mK _) _ _ _ _ _⟩)
    .have ee:((nk:Int) == 4)=aL:=ZS aA;have cv:Z=Q:=by rw[<-ab,YQ (by rw[aj];exact h4)]
     subst cv;have H:Hid _:=jD J (jD au (jD az aj));clear J ag hD am an aa a4 hH hs av hz q hQ ab hd ax a8 ar bq cb au az aj h4;go_enter (fq Tryz.func121 rfl),Tryz.ntmps121;go_upto_region 1 with fail;rw[<-hW];clear hW;go_wp2_with (first|(go_at_call 175;refine aT (af.out ()) ?_;rintro e w2 ⟨he,E⟩;obtain⟨a,cap,he,ht⟩:=he;rw[H.out.2.1,H.out.2.2.1,H.out.2.2.2]at he;subst he;obtain⟨q0,q1,q2,q3,q4,qf⟩:=cells5 (aq.out _ (E.alloc E.size (aG #[.bool li,aH D2,.slice a nk cap] 103)));clear ht)|fail)
     refine cM (v:=.tuple _) (by simp[results,kA,go_sem,q0,q1,q2,q3,q4]) rfl ⟨rfl,nX (H.out.1.trans ((E.alloc E.size _).mono H.out.1.size)) (mK _) _ _ _ _ _⟩
  .rw[Zs hz]at hQ;subst hQ
   have cx:(((D[0]'h0).toNat:Int) == 0)=aL:=by
    rw[av];refine ZS (λe=>hz ?_);apply jA.1;simpa using e
   have H:Hid _:=jD J ag;clear J ag hD am an aa a4 hH hs cl av hz;go_enter (fq Tryz.func121 rfl),Tryz.ntmps121;go_upto_region 1 with fail;rw[<-hW];clear hW;go_wp2_with fail;refine cM (v:=.tuple _) (by simp[results,kA,go_sem,r0,r1,r2,r3,r4]) rfl ⟨rfl,nX H.out.1 (mK _) _ _ _ _ _⟩
end
section
variable {s:List UInt8}{i:Im.It}{l:List Ba}{p:Nat}
theorem xR{b:List UInt8->Option (Bool×Nat×Nat)}{d:Nat}{n:Nat}(h:Im.read b d s=M (i,n)):(i.list=bB->i.bytes=[])/\(i.list=aL->i.kids=[]):=by
 cases d with
 |zero=>
  rw[Im.read]at h
  grind
 |succ d=>
  rw[Im.read]at h;split at h
  .cases h
  .grind
  .rw[bI]at h
   grind
theorem Vm(h:Im.dec s=M i):(i.list=bB->i.bytes=[])/\(i.list=aL->i.kids=[]):=by
 unfold Im.dec at h;split at h
 .rename_i q;split at h
  .cases h;exact xR q
  .cases h
 .cases h
theorem aa1{l:Im.It}(q:l.list=aL->l.kids=[])(n:Nat):Dv.qC l n=(KZ l).map (λb=>{ b with place:=n }):=by
 unfold Dv.qC KZ;cases h:l.list with
 |false=>
  rw[q h];rfl
 |true=>
  match hk:l.kids with
  |[a,b,c,d]=>
   dsimp only;unfold strs
   grind
  |[]=>rfl
  |[_]=>rfl
  |[_,_]=>rfl
  |[_,_,_]=>rfl
  |_::_::_::_::_::_=>rfl
theorem Z8(q:i.list=bB->i.bytes=[])(n:Nat):Dv.uK i n=(sS i).map (λb=>{ b with place:=n }):=by
 unfold Dv.uK sS;cases h:i.list with
 |true=>
  rw[q h];rfl
 |false=>
  rw[Zs aC];cases E:i.bytes with
  |nil=>rfl
  |cons x r=>
   dsimp only;split
   .cases hd:Im.dec r with
    |none=>rfl
    |some l=>
     simp only[gX];exact aa1 (Vm hd).2 n
   .rfl
inductive zW(s:List UInt8):List Ba->Nat->Prop
 |nil:zW s [] 0
 |snoc {l:List Ba} {p:Nat} {i:Im.It} {n:Nat} {b:Ba}:zW s l p->p<s.length->Im.read Im.body 8 (s.drop p)=M (i,n)->sS i=M b->zW s (l++[b]) (p+n)
def aeV(s:List UInt8)(p:Nat):Prop:=s.length<=p\/Im.read Im.body 8 (s.drop p)=Z\/∃i n,Im.read Im.body 8 (s.drop p)=M (i,n)/\sS i=Z
def xK(n:Nat)(l:List Ba):List Ba:=(l.filter (λb=>decide (b.epoch<=n))).map (λb=>{ b with place:=n })
theorem xU(n:Nat)(l:List Ba)(b:Ba):xK n (l++[b])=xK n l++(if b.epoch<=n then [{ b with place:=n }]else []):=by
 unfold xK
 grind
theorem zW.rd(h:zW s l p)(n:Nat):∀f,Dv.rd (f+l.length) s n=xK n l++Dv.rd f (s.drop p) n:=by
 induction h with
 |nil=>intro f;rfl
 |@snoc l p i k b _ hp hr hb ih=>
  intro f;rw[aS,iI,show f+(l.length+1)=(f+1)+l.length from by omega,ih (f+1),xU,fM]
  congr 1
  rw[Dv.rd,Zs (by intro e;have:=Z1 List.length e;grind),hr];dsimp only;rw[Z8 (xR hr).1 n,hb];simp
theorem zW.le(h:zW s l p):l.length<=p/\p<=s.length:=by
 induction h with
 |nil=>simp
 |@snoc l p i k b _ hp hr hb ih=>
  have:=Im.sZ Im.pF 8 _ i k hr
  grind
theorem zW.all(h:zW s l p)(q:aeV s p)(n:Nat):Dv.rd s.length s n=xK n l:=by
 have Y:=h.le;have:=h.rd n (s.length-l.length);rw[show s.length-l.length+l.length=s.length from by omega]at this;rw[this]
 have:Dv.rd (s.length-l.length) (s.drop p) n=[]:=by
  cases J:s.length-l.length with
  |zero=>rfl
  |succ f=>
   rw[Dv.rd];split
   .rfl
   .rename_i E;obtain q|q|⟨i,k,q,I⟩:=q
    .grind
    .rw[q]
    .rw[q];dsimp only;rw[Z8 (xR q).1 n,I];rfl
 grind
end
open Go.RowKit
section
variable {P:Program}{l l₀:Nat}{assign body:im}{w:U}
theorem Kt{m n:Nat}{f:FuncId}{tmps:Array aD}{R:Ending->U->Prop}(h:RoundIn Fence.wide m P l f tmps assign body w R):RoundIn (Fence.wide.inRound l₀) n P l f tmps assign body w R:=⟨h.1,λc cs _=>h.2 c cs (room_wide _)⟩
def yt(F:Nat->Prop)(q W1:U)(k:Nat):Prop:=F k\/(q.heap.size<=k/\k<W1.heap.size)
theorem Qn{F:Nat->Prop}{A B:U}{o:pT}(h:jO (λk=>F k/\NC A k) (A.putObj l o) (B.putObj l o))(E:¬F l):jO (λk=>F k/\NC (A.putObj l o) k) (A.putObj l o) (B.putObj l o):=
 h.mono (λk _ e=>⟨e.1,λcs t q hk=>by
  rw[cE (by rintro rfl;exact E e.1)]at hk;exact e.2 cs t q hk⟩)
def Z4{α:Type}(P:Program)(g:Nat)(lb:Array aD)(encs:α->Array aD)(St:List α->U->Prop)(Y:List α->α->Nat->U->Prop)(S Sp:List α->Prop):Prop:=
 ∀(l:Nat)(J Jx:List α->(Nat->Prop)->U->Prop)(W:U),l<W.heap.size->St [] W->
  (∀q x F E W1,J q F E->jO (λk=>F k/\NC E k) E W1->Y q x E.heap.size W1->YieldAt Fence.wide 1 P l (encs x) W1 λe I=>
   (e=bX (cF bB)/\J (q++[x]) (yt F E W1) I/\W1.heap.size<=I.heap.size/\St (q++[x]) I/\∀k,yt F E W1 k->I.heap[k]? =W1.heap[k]?)\/(e=bX (cF aL)/\Jx (q++[x]) (yt F E W1) I/\W1.heap.size<=I.heap.size/\∀k,yt F E W1 k->I.heap[k]? =W1.heap[k]?))->
  J [] (λ_=>False) W->
  CallsIn Fence.wide 2 P g (#[.func (.yield l) #[] #[]]++lb) W λe I=>(∃v,e=bX v)/\((∃xs F E,S xs/\J xs F E/\jO (λk=>F k/\NC E k) E I)\/(∃q F E,Sp q/\Jx q F E/\jO (λk=>F k/\NC E k) E I))
def adF{α:Type}(B:Nat)(F:Nat->Prop)(E:List α->U->Prop)(I:List α->(Nat->Prop)->U->Prop)(q:im->List α->(Nat->Prop)->U->Prop)(xs:List α)(W:U):Exit->Act->U->Prop
 |.normal,_,W'=>lB B W W'/\E xs W'/\(∀k,F k->W'.heap[k]? =W.heap[k]?)/\I xs F W'
 |.ret,_,W'=>lB B W W'/\(∀k,F k->W'.heap[k]? =W.heap[k]?)/\q .ret xs F W'
 |.exit id,_,W'=>lB B W W'/\(∀k,F k->W'.heap[k]? =W.heap[k]?)/\q (.exit id) xs F W'
 |.goto t,_,W'=>lB B W W'/\(∀k,F k->W'.heap[k]? =W.heap[k]?)/\q (.goto t) xs F W'
 |.panic _,_,_=>False
 |.outgrown,_,_=>False
theorem Gg{α:Type}{g:Operand}{ps:Array Tmp}{Q:Exit->Act->U->Prop}{a:Act}{ah:Loop}(ak:w.heap[l₀]? =M (.loop ah)){gf:Nat}{lb:Array aD}(hg:a.eval g=.func (.func gf) #[] lb)(eg:∀args w,(callFunc gf args).run P w=.ok (.enter gf args) w){encs:α->Array aD}{St:List α->U->Prop}{Y:List α->α->Nat->U->Prop}{S Sp:List α->Prop}(ap:Z4 P gf lb encs St Y S Sp)(aq:nA w.heap.size St)(hY:∀lo,nA w.heap.size (λ(q:List α×α) W=>Y q.1 q.2 lo W))(au:∀x,(encs x).size=ps.size)(I:List α->(Nat->Prop)->U->Prop)(Ix:im->List α->(Nat->Prop)->U->Prop)(hI:∀F,nA w.heap.size (λxs W=>I xs F W))(ae:∀c F,nA w.heap.size (λxs W=>Ix c xs F W))(h0:I [] (λ_=>False) w)(ar:St [] w)(ai:α->Nat->Act)(ox:α->pT)(ac:∀(l:Nat)(x:α)(W:U)(K:Act->U->Prop),K (ai x W.heap.size) (W.alloc (ox x))->assign.wpIn (Fence.wide.inRound l) 1 P (Exit.then K (λ_ _ _=>False)) { tmps:=(ps.zip (encs x)).foldl (λt (p,v)=>t.setIfInBounds p v) a.tmps,defers:=[] } W)(aj:∀(l:Nat)(E:List α)(x:α)(F:Nat->Prop)(W0 W1:U),l=w.heap.size->l<W0.heap.size->(∃r,W1.heap[l]? =M (.loop r))->(∀k,F k->w.heap.size<k/\k<W0.heap.size)->I E F W0->jO (λk=>F k/\NC W0 k) W0 W1->Y E x W0.heap.size W1->body.wpIn (Fence.wide.inRound l) 1 P (adF w.heap.size (yt F W0 W1) St I Ix (E++[x]) (W1.alloc (ox x))) (ai x W1.heap.size) (W1.alloc (ox x)))(am:∀(xs:List α)(F:Nat->Prop)(W0 W:U),(∀k,F k->w.heap.size<k/\k<W0.heap.size)->S xs->I xs F W0->jO (λk=>F k/\NC W0 k) W0 W->Q .normal a W)(an:∀(c:im)(E:List α)(F:Nat->Prop)(W0 W:U),(∀k,F k->w.heap.size<k/\k<W0.heap.size)->Sp E->Ix c E F W0->jO (λk=>F k/\NC W0 k) W0 W->c.wpIn (Fence.wide.inRound l₀) 1 P Q a W):(Code.rangeFunc g ps assign body).wpIn (Fence.wide.inRound l₀) 1 P Q a w:=by
 refine wpIn_rangeFunc λfn ax=>?_;obtain⟨rc,aa⟩:∃rc:LoopState->Option im->Loop,rc=λst pe=>{ state:=st,pending:=pe,fn,tmps:=a.tmps,params:=ps,assign,body,defers:=ah.defers }:=⟨_,rfl⟩
 obtain⟨V,hV⟩:∃V,w.alloc (.loop (rc .ready Z))=V:=⟨_,rfl⟩
 have vl:V.heap[w.heap.size]? =M (.loop (rc .ready Z)):=by rw[<-hV];exact World.alloc_heap_new w _
 have vI:I [] (λ_=>False) V:=by rw[<-hV];exact(hI _).alloc _ h0
 have vS:St [] V:=by rw[<-hV];exact aq.alloc _ ar
 refine⟨w.heap.size,[],V,{ target:=.fn (.func gf) lb,args:=#[.func (.yield w.heap.size) #[] #[]] },V,gf,
  #[.func (.yield w.heap.size) #[] #[]]++lb,V,?_,?_,λ_ _=>trivial,by simp[invoke,go_sem,eg],λh=>by simp[Fence.wide]at h,?_⟩
 .rw[<-hV,aa];exact run_enterLoop_inner ak _ _ _ _ _
 .simp only[resolve,hg];simp[go_sem]
 refine CallsIn.mono (km.2 (km.1 (ap _
  (λE F W=>I E F W/\W.heap[w.heap.size]? =M _/\∀k,F k->w.heap.size<k/\k<W.heap.size)
  (λE F W=>∃c,Ix c E F W/\W.heap[w.heap.size]? =M (.loop (rc .done (M c)))/\∀k,F k->w.heap.size<k/\k<W.heap.size) V (jG vl) vS ?_ ⟨vI,vl,λ_ h=>h.elim⟩)):CallsIn _ 0 P gf _ V _) ?_
 .rintro E x F W0 W1 ⟨i0,l0,f0⟩ hb hy;have nl:¬F w.heap.size:=λh=>by have:=(f0 _ h).1;omega
  have ab:=(jG l0)
  have l1:=(hb.block _ ab (λe=>nl e.1)).trans l0;have af:=(jG l1)
  have ry:=run_yield (P:=P) (args:=encs x) l1 (by rw[aa];exact au x);rw[aa]at ry;refine⟨fn,_,assign,body,ry,roundIn_of_wpIn ax (ac _ x W1 _ ⟨_,run_beginRound ((aZ _ _ _ af).trans l1) (by rw[aa]),?_⟩)⟩;clear ry;rw[zG _ _ _ _ af];obtain⟨o,ho⟩:∃o:pT,Obj.loop { rc .ready Z with state:=.busy }=o:=⟨_,rfl⟩
  rw[ho];have b1:=Qn (wG hb _ o ab) nl
  have y1:Y E x (W0.putObj w.heap.size o).heap.size (W1.putObj w.heap.size o):=by
   rw[eO];exact(hY _).putObj (s:=(E,x)) o hy aA l1 rfl
  have eF:yt F (W0.putObj w.heap.size o) (W1.putObj w.heap.size o)=yt F W0 W1:=by unfold yt;simp only[eO]
  have ag:=aj _ E x F _ _ rfl aF ⟨_,(eR af).trans (Z1 M ho.symm)⟩ (by simpa using f0) ((hI F).putObj o i0 aA l0 rfl) b1 y1;rw[eF]at ag;simp only[eO]at ag
  have f1:∀k,yt F W0 W1 k->w.heap.size<k/\k<W1.heap.size:=λk hk=>by
   have:=hb.size;obtain h|h:=hk
   .have:=f0 k h;omega
   .omega
  refine wpIn_mono ag ?_;clear ag;have av:((W1.putObj w.heap.size o).alloc (ox x)).heap[w.heap.size]? =M o:=(aZ _ _ _ aF).trans (eR af)
  have fin:∀(J:Option im)(W3:U),lB w.heap.size ((W1.putObj w.heap.size o).alloc (ox x)) W3->
    (Instr.endRound w.heap.size J).run P W3=.ok (.bool J.isNone) (W3.putObj w.heap.size (.loop (rc (if J.isNone then .ready else .done) J)))/\
    W3.heap[w.heap.size]? =M o/\
    (W3.putObj w.heap.size (.loop (rc (if J.isNone then .ready else .done) J))).heap[w.heap.size]? =M (.loop (rc (if J.isNone then .ready else .done) J)):=λJ W3 aw=>by
   have q1:=aw.same _ _ aA av (by rw[<-ho];rfl);have ao:=q1;rw[<-ho]at ao;have:=run_endRound (P:=P) J ao;refine⟨?_,q1,eR (jG q1)⟩;rw[aa]at this⊢;exact this
  rintro e a3 W3 hp;cases e with
  |normal=>
   obtain⟨k3,kk,kx,i3⟩:=hp;obtain⟨hr,l3,l4⟩:=fin Z W3 k3;have s3:W1.heap.size<=W3.heap.size:=by have:=k3.size;simp at this;omega
   refine⟨_,_,hr,.inl ⟨rfl,⟨(hI _).putObj _ i3 aA l3 (by rw[<-ho];rfl),l4,λk hk=>by have:=f1 k hk;rw[eO];omega⟩,by rw[eO];exact s3,aq.putObj _ kk aA l3 (by rw[<-ho];rfl),λk h1=>by
    have:=f1 k h1;rw[cE aA,kx k h1,aZ _ _ _ aF,cE aA]⟩⟩
  |ret=>
   obtain⟨k3,kx,i3⟩:=hp;obtain⟨hr,l3,l4⟩:=fin (M .ret) W3 k3;have s3:W1.heap.size<=W3.heap.size:=by have:=k3.size;simp at this;omega
   exact⟨_,_,hr,.inr ⟨rfl,⟨_,(ae _ _).putObj _ i3 aA l3 (by rw[<-ho];rfl),l4,λk hk=>by have:=f1 k hk;rw[eO];omega⟩,by rw[eO];exact s3,λk h1=>by
    have:=f1 k h1;rw[cE aA,kx k h1,aZ _ _ _ aF,cE aA]⟩⟩
  |exit id=>
   obtain⟨k3,kx,i3⟩:=hp;obtain⟨hr,l3,l4⟩:=fin (M (.exit id)) W3 k3;have s3:W1.heap.size<=W3.heap.size:=by have:=k3.size;simp at this;omega
   exact⟨_,_,hr,.inr ⟨rfl,⟨_,(ae _ _).putObj _ i3 aA l3 (by rw[<-ho];rfl),l4,λk hk=>by have:=f1 k hk;rw[eO];omega⟩,by rw[eO];exact s3,λk h1=>by
    have:=f1 k h1;rw[cE aA,kx k h1,aZ _ _ _ aF,cE aA]⟩⟩
  |goto t=>
   obtain⟨k3,kx,i3⟩:=hp;obtain⟨hr,l3,l4⟩:=fin (M (.goto t)) W3 k3;have s3:W1.heap.size<=W3.heap.size:=by have:=k3.size;simp at this;omega
   exact⟨_,_,hr,.inr ⟨rfl,⟨_,(ae _ _).putObj _ i3 aA l3 (by rw[<-ho];rfl),l4,λk hk=>by have:=f1 k hk;rw[eO];omega⟩,by rw[eO];exact s3,λk h1=>by
    have:=f1 k h1;rw[cE aA,kx k h1,aZ _ _ _ aF,cE aA]⟩⟩
  |panic ch=>exact hp.elim
  |outgrown=>exact hp.elim
 .rintro e W2 ⟨⟨v,rfl⟩,(⟨xs,F,W0,hS,⟨i0,l0,f0⟩,hb⟩|⟨E,F,W0,hS,⟨c,i0,l0,f0⟩,hb⟩)⟩
  .have nl:¬F w.heap.size:=λh=>by have:=(f0 _ h).1;omega
   have ab:=(jG l0)
   have l2:=(hb.block _ ab (λe=>nl e.1)).trans l0;refine⟨Z,_,by have:=rI (P:=P) l2 (by rw[aa];simp);rw[aa]at this;exact this,?_⟩;exact am xs F _ _ (by simpa using f0) hS ((hI F).putObj _ i0 aA l0 rfl) (Qn (wG hb _ _ ab) nl)
  .have nl:¬F w.heap.size:=λh=>by have:=(f0 _ h).1;omega
   have ab:=(jG l0)
   have l2:=(hb.block _ ab (λe=>nl e.1)).trans l0;refine⟨M c,_,by have:=rI (P:=P) l2 (by rw[aa];simp);rw[aa]at this;exact this,?_⟩;exact an c E F _ _ (by simpa using f0) hS ((ae c F).putObj _ i0 aA l0 rfl) (Qn (wG hb _ _ ab) nl)
end
open Dv (Ba)
section
variable {T:List UInt8}{is:List Im.It}{p j:Nat}{i:Im.It}{W:U}
structure BX where
 b:Ba
 a:Option Addr
 cap:Nat
def BX.encs(x:BX):Array aD:=#[gP #[N X x.b.epoch,N X x.b.id,N X x.b.time,.slice x.a x.b.txs.length x.cap,N X x.b.place]]
def QH(ho:Option pT)(cB:Nat)(S:ByteArray)(_:List BX)(W:U):Prop:=W.heap[1]? =ho/\kG W/\Boxed W cB 9 (aH S)
def BY(T:List UInt8)(pre:List BX)(x:BX)(lo:Nat)(W:U):Prop:=Made W lo (.slice x.a x.b.txs.length x.cap) x.b.txs/\x.b.place=0/\∃p,zW T ((pre++[x]).map BX.b) p
def BS(T:List UInt8)(xs:List BX):Prop:=∃p,zW T (xs.map BX.b) p/\aeV T p
theorem JO(h:Im.nG (Im.read Im.body 8) T is p):∀E:List Ba,is.map sS=E.map M->zW T E p:=by
 induction h with
 |nil=>
  intro E q;cases E with
  |nil=>exact .nil
  |cons=>simp at q
 |@snoc l p i n _ hp hr ih=>
  intro E q;rw[bJ]at q;obtain rfl|⟨I,b,rfl⟩:=List.eq_nil_or_concat E
  .simp at q
  .rw[List.concat_eq_append]at q⊢;rw[bJ]at q;obtain⟨Y,h2⟩:=List.append_inj' q rfl;simp only[eP,fP,List.cons.injEq,and_true]at h2;exact .snoc (ih I Y) hp hr h2
theorem IQ(h:Im.nG (Im.read Im.body 8) T (is++[i]) p):∃q n,Im.nG (Im.read Im.body 8) T is q/\q<T.length/\Im.read Im.body 8 (T.drop q)=M (i,n):=by
 generalize E:is++[i]=l at h;cases h with
 |nil=>simp at E
 |snoc h1 h2 h3=>
  obtain⟨rfl,e⟩:=List.append_inj' E rfl;cases e;exact⟨_,_,h1,h2,h3⟩
theorem PG{n d:Nat}(h:Im.read Im.body d T=M (i,n)):i.bytes.length<=T.length:=by
 cases d with
 |zero=>
  rw[Im.read]at h;split at h
  .cases h;simp only[dW,bK];omega
  .cases h
 |succ d=>
  rw[Im.read]at h;split at h
  .cases h
  .cases h;simp only[dW,bK];omega
  .rw[bI]at h;obtain⟨l,_,e⟩:=h;cases e;simp
structure EI(J:List BX->(Nat->Prop)->U->Prop)(ho:Option pT)(cB B0 l n0 n1:Nat)(S:ByteArray)(Wc:U)(pre:List BX)(F:Nat->Prop)(W0:U):Prop where
 j:J pre F W0
 jR:jO (λk=>F k/\NC W0 k) W0 Wc
 own:∀k,n0<=k->k<n1->F k\/W0.heap.size<=k
 nc:∀k,n1<=k+2->k<n1->W0.heap.size<=k\/NC W0 k
 st:QH ho cB S pre Wc
 box:Wc.heap[B0]? =M (aG #[.func (.yield l) #[] #[]] 216 (0,0))
 big:n1<=Wc.heap.size
theorem oh{F:Nat->Prop}{A B:U}(h:jO F A B)(I:F j\/A.heap.size<=j)(o:pT):jO F A (B.putObj j o):=
 ⟨h.os,h.tape,h.output,by simpa using h.size,λk hk E=>by
  rw[cE]
  .exact h.block k hk E
  .rintro rfl;obtain q|q:=I
   .exact E q
   .omega⟩
theorem UA{o:pT}(h:kG W)(E:j≠1):kG (W.putObj j o):=by have q0:(W.putObj j o).heap[1]? =W.heap[1]?:=cE (λe=>E e.symm);obtain⟨⟨a0,I,Y⟩,a3,q,a5⟩:=h;exact⟨⟨(bN q0).trans a0,(bN q0).trans I,(bN q0).trans Y⟩,(bN q0).trans a3,(bN q0).trans q,(bN q0).trans a5⟩
variable {J:List BX->(Nat->Prop)->U->Prop}{ho:Option pT}{cB B0 l n0 n1:Nat}{S:ByteArray}{Wc:U}{pre:List BX}{F:Nat->Prop}{W0:U}
theorem EI.free(h:EI J ho cB B0 l n0 n1 S Wc pre F W0)(I:n0<=j)(E:n1<=j+2)(h2:j<n1):(F j/\NC W0 j)\/W0.heap.size<=j:=by
 obtain q|q:=h.nc j E h2
 .exact .inr q
 .obtain r|r:=h.own j I h2
  .exact .inl ⟨r,q⟩
  .exact .inr r
theorem EI.put(h:EI J ho cB B0 l n0 n1 S Wc pre F W0)(o:pT)(E:n0<=j)(q:n1<=j+2)(h2:j<n1)(h3:1<n0)(h4:cB<n0)(I:B0≠j):EI J ho cB B0 l n0 n1 S (Wc.putObj j o) pre F W0:=
 ⟨h.j,oh h.jR (h.free E q h2) o,h.own,h.nc,⟨(cE aA).trans h.st.1,UA h.st.2.1 aA,(cE aA).trans h.st.2.2⟩,(cE I).trans h.box,by rw[eO];exact h.big⟩
theorem EI.below(h:EI J ho cB B0 l n0 n1 S Wc pre F W0)(q:Below Wc.heap.size Wc W):EI J ho cB B0 l n0 n1 S W pre F W0:=
 ⟨h.j,h.jR.trans (.below q jE _) (λ_ _ e=>e),h.own,h.nc,⟨(q.block _ h.st.2.1.pos).trans h.st.1,h.st.2.1.below q h.st.2.1.pos,(q.block _ h.st.2.2.lt).trans h.st.2.2⟩,(q.block _ (jG h.box)).trans h.box,bH h.big q.size⟩
theorem EI.next(h:EI J ho cB B0 l n0 n1 S Wc pre F W0){x:BX}{W3:U}(hj:J (pre++[x]) (yt F W0 Wc) W3)(hs:Wc.heap.size<=W3.heap.size)(Y:QH ho cB S (pre++[x]) W3)(hk:∀k,yt F W0 Wc k->W3.heap[k]? =Wc.heap[k]?)(hB:n0<=B0)(aa:B0<n1)(hn:n0+2<=n1)(ab:∀k,n1<=k+2->k<n1->NC Wc k):EI J ho cB B0 l n0 n1 S W3 (pre++[x]) (yt F W0 Wc) W3/\∀k,n0<=k->k<n1->W3.heap[k]? =Wc.heap[k]?:=by
 have I:∀k,n0<=k->k<n1->yt F W0 Wc k:=λk E h2=>by
  have:=h.big;obtain q|q:=h.own k E h2
  .exact .inl q
  .exact .inr ⟨q,aA⟩
 exact⟨⟨hj,jO.refl _ _,λk E h2=>.inl (I k E h2),λk E h2=>.inr (λcs t fz e=>ab k E h2 cs t fz (by rw[<-hk k (I k aA h2)];exact e)),Y,(hk B0 (I B0 hB aa)).trans h.box,bH h.big hs⟩,λk E h2=>hk k (I k E h2)⟩
theorem JX(s:ByteArray)(w:U):eE PQ 120 #[aH s] w λe w'=>e=bX (.func (.func 205) #[] #[.pointer (M ⟨w.heap.size,0,Z⟩),.pointer (M ⟨w.heap.size+1,0,Z⟩)])/\w'=(w.alloc (aG #[aH s] 9)).alloc (aG #[N X 1] 3):=by
 have q:=DW s 1 w;have E:Hid _:=λ(_:Unit)=>q;clear q;go_enter (fq Tryz.func120 rfl),Tryz.ntmps120;go_wp2_with (go_at_call 174;refine aT (E.out ()) ?_;rintro e w2 ⟨rfl,rfl⟩)
 go_ret;exact⟨rfl,rfl⟩
end
end Hm
section
open Go.RowKit
def lU(s:ByteArray)(i j:Nat):(s.extract i j).data.toList=(s.data.toList.take j).drop i:=by simp[ByteArray.data_extract,Array.toList_extract,List.drop_take]
def strLen:aD->Nat|aH s=>s.size|_=>0
def LC(s:ByteArray)(J:0<s.size):Sq.piece s.data.toList=
  if s[0].toNat<128 then(if s[0].toNat+2<=s.size then M ((s.extract 1 (s[0].toNat+2)).data.toList,s[0].toNat+2)else Z)
  else if s[0].toNat=128 then Z
  else if 2<=s.size then M (Lib.repeatL (s.extract 1 2).data.toList (257-s[0].toNat),2)else Z:=by
 obtain⟨d⟩:=s;obtain⟨l⟩:=d;cases l with
 |nil=>simp[ByteArray.size]at J
 |cons c r=>
  have E:(⟨⟨c::r⟩⟩:ByteArray)[0]=c:=rfl;have I:(⟨⟨c::r⟩⟩:ByteArray).size=r.length+1:=rfl;rw[E,I];simp only[lU,Sq.piece];split
  .by_cases h:c.toNat+1<=r.length
   .rw[ZD h,ZD aA];rfl
   .rw[Zs h,Zs aA]
  .split
   .rfl
   .cases r with
    |nil=>simp
    |cons b q=>
     simp only[aU];rw[ZD aA];have:=Lib.repeatL_replicate b 1 (257-c.toNat);simp only[Nat.mul_one]at this;rw[<-this];rfl
def adE(s:ByteArray)(w:U)(E:0<s.size)(I:(s[0].toNat:Int)<128)(q:(s[0].toNat:Int)+2<=s.size):eE PQ 172 #[aH s] w λe w'=>e=bX (dC #[aH (s.extract 1 (s[0].toNat+2)),N X (s[0].toNat+2),cF bB])/\w'=w:=by
 go_enter (fq Tryz.func172 rfl),Tryz.ntmps172;go_wp2_with fail;go_ret3;exact⟨rfl,rfl⟩
def ac1(s:ByteArray)(L:List UInt8)(w:U)(E:s.size<=maxLen)(h0:0<s.size)(hc:128<(s[0].toNat:Int))(hl:2<=(s.size:Int))(I:Hid (Lib.repeatL (s.extract 1 2).data.toList (257-s[0].toNat)=L)):eE PQ 172 #[aH s] w λe w'=>e=bX (dC #[aH ⟨L.toArray⟩,N X 2,cF bB])/\Below w.heap.size w w':=by
 unfold maxLen at E;have J:=s[0].toNat_lt;have Y:(s[0].toNat:Int)<256:=aA
 clear J;go_enter (fq Tryz.func172 rfl),Tryz.ntmps172;go_wp2_with fail;rw[show((257:Int)-(s[0].toNat:Int))=((257-s[0].toNat:Nat):Int) from by omega]
 refine(repeated _ _ _ aA (by
  have:(s.extract 1 2).size<=1:=by simp[fA];omega
  have:=Nat.mul_le_mul this (show 257-s[0].toNat<=257 from by omega);omega)).mono ?_
 rintro e w1 ⟨rfl,q⟩;rw[I.out];go_wp2;go_ret3;exact⟨rfl,q⟩
def afB(s:ByteArray)(w:U)(E:s.size<=maxLen)(h0:0<s.size)(q:(s[0].toNat:Int)=128\/(128<(s[0].toNat:Int)/\(s.size:Int)<2)\/((s[0].toNat:Int)<128/\(s.size:Int)<(s[0].toNat:Int)+2)):eE PQ 172 #[aH s] w λe w'=>e=bX (dC #[aH ⟨#[]⟩,N X 0,cF aL])/\w'=w:=by
 unfold maxLen at E;have I:=s[0].toNat_lt;have J:(s[0].toNat:Int)<256:=aA
 clear I;obtain q|⟨q,hd⟩|⟨q,hd⟩:=q
 .have Y:((s[0].toNat:Int) == 128)=bB:=by simp[q]
  clear q;go_enter (fq Tryz.func172 rfl),Tryz.ntmps172;go_wp2_with fail;go_ret3;exact⟨rfl,rfl⟩
 .go_enter (fq Tryz.func172 rfl),Tryz.ntmps172;go_wp2_with fail;go_ret3;exact⟨rfl,rfl⟩
 .go_enter (fq Tryz.func172 rfl),Tryz.ntmps172;go_wp2_with fail;go_ret3;exact⟨rfl,rfl⟩
def abE(s:ByteArray)(t:List UInt8)(n:Nat)(w:U)(E:s.size<=maxLen)(hp:Sq.piece s.data.toList=M (t,n)):eE PQ 172 #[aH s] w λe w'=>e=bX (dC #[aH ⟨t.toArray⟩,N X n,cF bB])/\Below w.heap.size w w':=by
 have q:0<s.size:=by
  have:=(Sq.Nl _ _ _ hp)
  rw[bD];omega
 rw[LC s q]at hp;split at hp
 .split at hp
  .simp only[aK,dJ]at hp;obtain⟨rfl,rfl⟩:=hp;refine(adE s w q aA aA).mono ?_;rintro e w' ⟨rfl,rfl⟩;exact⟨rfl,aJ _ _⟩
  .simp at hp
 .split at hp
  .simp at hp
  .split at hp
   .simp only[aK,dJ]at hp;obtain⟨rfl,rfl⟩:=hp;exact ac1 s _ w E q aA aA rfl
   .simp at hp
def ab6(s:ByteArray)(w:U)(E:s.size<=maxLen)(q:0<s.size)(hp:Sq.piece s.data.toList=Z):eE PQ 172 #[aH s] w λe w'=>e=bX (dC #[aH ⟨#[]⟩,N X 0,cF aL])/\w'=w:=by
 rw[LC s q]at hp;refine afB s w E q ?_;split at hp
 .split at hp
  .simp at hp
  .right;right;omega
 .split at hp
  .left;omega
  .split at hp
   .simp at hp
   .right;left;omega
def OI(s:ByteArray)(most:Int)(w:U)(hs:s.size<=2097152)(aq:-9223372036854775808<=most)(ar:most<=9223372036854775807):eE PQ 119 #[aH s,N X most] w λe w'=>e=bX (dC #[aH ⟨(Sq.spread s.size s.data.toList most []).1.toArray⟩,.bool (Sq.spread s.size s.data.toList most []).2])/\Below w.heap.size w w':=by
 generalize hR:Sq.spread s.size s.data.toList most []=R;have HR:Hid _:=hR;clear hR;go_enter (fq Tryz.func119 rfl),Tryz.ntmps119;go_wp2_with fail;go_loopw [0] (λv wr=>∃(s':ByteArray)(f:Nat)(out:List UInt8),v=aH s'/\s'.size<=f/\Sq.spread f s'.data.toList most out=R/\out.length+128*s'.size<=268435456/\(out=[]\/(out.length:Int)<=most)/\tu w.heap.size w.heap.size out wr/\Below w.heap.size w wr) (λv _=>strLen v)
 case atStart=>
  refine⟨s,_,[],rfl,jE,HR.out,aF,.inl rfl,fresh w,(aJ _ w).alloc jE _⟩
 case round=>
  obtain⟨s',f,out,rfl,hf,J,ao,ab,hI,I⟩:=hrel;by_cases h0:0<s'.size
  .have ak:(!s'.toList.isEmpty)=bB:=by rw[toList_empty,ZZ aA];rfl
   cases hp:Sq.piece s'.data.toList with
   |none=>
    have q:Hid (R=(out,aL)):=by
     rw[<-J];exact Sq.Ou _ _ _ _ (by rw[<-bD];exact h0) (by rw[<-bD];exact hf) hp
    clear J ab;go_wp2_with fail;refine(ab6 s' _ (by unfold maxLen;omega) h0 hp).mono ?_;rintro e w1 ⟨rfl,rfl⟩;go_wp2_with fail;refine(wS _ _ out _ hI (by have:=I.size;omega)).mono ?_;rintro e w2 ⟨rfl,_,Y⟩;go_wp2;go_ret2;rw[q.out];exact⟨rfl,I.trans Y⟩
   |some tn=>
    obtain⟨t,n⟩:=tn;have am:=Sq.Nl _ _ _ hp;rw[<-bD]at am;have ho1:-9223372036854775808<=most-(out.length:Int):=by obtain h|h:=ab;simp[h];omega;omega
    have ho2:most-(out.length:Int)<=9223372036854775807:=aA
    have ae:Hid _:=ab;clear ab;have aj:Hid _:=J;clear J;have Hp:Hid _:=hp;clear hp;go_wp2_with fail;refine(abE s' t n _ (by unfold maxLen;omega) Hp.out).mono ?_;rintro e w1 ⟨rfl,Y⟩;have ag:=pG hI Y;have aa:=I.trans (Y.mono I.size);go_wp2_with fail;refine(agD _ _ out _ ag).mono ?_;rintro e w2 ⟨rfl,rfl⟩;go_wp2_with fail
    .have E:max (most-(out.length:Int)) 0<(t.length:Int):=by assumption
     have ap:(({ data:=t.toArray }:ByteArray).extract 0 (max (most-(out.length:Int)) 0).toNat).size<=t.length:=by
      rw[bD,lU];simp;omega
     have q:Hid (R=(out++(({ data:=t.toArray }:ByteArray).extract 0 (max (most-(out.length:Int)) 0).toNat).data.toList,aL)):=by
      show _=_
      rw[<-aj.out,Sq.BA _ _ _ _ t n (by rw[<-bD];exact h0) (by rw[<-bD];exact hf) Hp.out];rw[ZD (by obtain h|h:=ae.out;simp[h]at E⊢;omega;omega)];rw[lU];simp only[List.drop_zero]
      congr 3
      obtain h|h:=ae.out
      .simp[h]
      .omega
     refine(zS _ _ out _ _ ag aA (by have:=aa.size;omega)).mono ?_;rintro e w3 ⟨rfl,ac,af⟩;go_wp2_with fail;refine(wS _ _ _ _ ac (by have:=aa.size;have:=af.size;omega)).mono ?_;rintro e w4 ⟨rfl,_,an⟩;generalize out++(({ data:=t.toArray }:ByteArray).extract 0 (max (most-(out.length:Int)) 0).toNat).data.toList=Wa at q ac⊢;go_wp2;go_ret2;rw[q.out];exact⟨rfl,(aa.trans af).trans an⟩
    .have E:(t.length:Int)<=max (most-(out.length:Int)) 0:=by assumption
     refine(zS _ _ out _ _ ag (by show _+t.toArray.size<=_;simp;omega) (by have:=aa.size;omega)).mono ?_;rintro e w3 ⟨rfl,ac,af⟩;go_wp2;go_roundw
     case rel=>
      have ai:(s'.extract n s'.size).size=s'.size-n:=by simp[fA]
      refine⟨_,f-1,_,rfl,aA,?_,?_,?_,ac,aa.trans af⟩
      .rw[<-aj.out,Sq.BA _ _ _ _ t n (by rw[<-bD];exact h0) (by rw[<-bD];exact hf) Hp.out];rw[Zs (by obtain h|h:=ae.out;simp[h]at E⊢;omega;omega)];rw[lU,bD,iM]
      .rw[ai,aS];omega
      .right;rw[aS];obtain h|h:=ae.out
       .simp[h]at E⊢;omega
       .omega
     case measure=>
      have ai:(s'.extract n s'.size).size=s'.size-n:=by simp[fA]
      simp[strLen];omega
  .have ak:(!s'.toList.isEmpty)=aL:=by rw[toList_empty,Z0 aA];rfl
   go_wp2_with fail;refine(wS _ _ out _ hI (by have:=I.size;omega)).mono ?_;rintro e w1 ⟨rfl,_,Y⟩
   have ah:s'.data.toList=[]:=by
    have:=bD s';exact bP aA
   rw[ah,Sq.Eu]at J;subst J;go_wp2;go_ret2;exact⟨rfl,I.trans Y⟩
end
