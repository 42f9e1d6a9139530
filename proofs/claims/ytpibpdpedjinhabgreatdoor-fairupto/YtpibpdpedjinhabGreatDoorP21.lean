import Derived.Test.YtpibpdpedjinhabGreatDoorP20
set_option maxRecDepth 100000
set_option maxHeartbeats 4000000
set_option linter.all false
open Bool renaming decide_and->o3,false->aR,true->bB
open Go renaming Calls->eL,Value->aD,World->X,heap_alloc_new->cY,info_parts->pu
open Go.Ending renaming returned->bX
open Go.IntKind renaming i64->aE,wrap_i64->gA
open Go.Obj renaming cells->aL
open Go.RowKit renaming Below->cG,Hid->cJ
open Go.Value renaming bool->cM,int->N,ownBlock->eE,pointer->aG,slice->aM,string->bE
open Go.Value.slice renaming injEq->eJ
open Option renaming none->Z,some->M
namespace Go.Proofs.YtpibpdpedjinhabGreatDoor
namespace Hm
open Go.RowKit Go.Joins Go.Shelf
def BP:(PQ.info? 9).map (λi=>(i.zero,i.size,i.bytes))=M (M (bE ⟨#[]⟩),1,16):=XN
def strs(i:Im.It):Option (List (List UInt8)):=if i.list&&i.kids.all (λt=>!t.list)then M (i.kids.map (·.bytes))else Z
def Made(w:X)(lo:Nat)(v:aD)(l:List (List UInt8)):Prop:=Row w 9 1 v l.length (l.map nT)/\∀g,v.ownBlock=M g->lo<=g
def Strs(w:X)(lo:Nat)(e:Ending):Option (List (List UInt8))->Prop
 |none=>e=bX (.tuple #[aM Z 0 0,cM aR])
 |some l=>∃a cap,e=bX (.tuple #[.slice a l.length cap,cM bB])/\Made w lo (.slice a l.length cap) l
def In.kid{B:Nat}{w:X}{n:Nat}{c0 c1 J:aD}{i:Im.It}(h:In B w (n+1) c0 c1 J i)(hk:i.kids≠[]):∃g off cap,J=aM (M ⟨g,off,Z⟩) i.kids.length cap/\g<B/\∀(j:Nat)(R:j<i.kids.length),∃z,K3 w g (off+j*3) (.bool i.kids[j].list) (bE ⟨i.kids[j].bytes.toArray⟩) z/\In B w n (.bool i.kids[j].list) (bE ⟨i.kids[j].bytes.toArray⟩) z i.kids[j]:=by obtain⟨_,_,a,cap,rfl,hx⟩:=h;obtain⟨g,off,rfl,hg,R⟩:=hx hk;refine⟨g,off,cap,rfl,hg,λj E=>?_⟩;obtain⟨d0,d1,z,h1,h2⟩:=R j E;obtain⟨a',I,Y,e1,e2⟩:=h2.shape;subst Y e1;exact⟨z,h1,h2⟩
def vN(n B:Nat)(i:Im.It)(c2:aD)(w:X)(hB:B<=w.heap.size)(h:In B w (n+2) (.bool i.list) (bE ⟨i.bytes.toArray⟩) c2 i)(hl:i.kids.length<=4294967296):eL PQ 126 #[.agg #[.bool i.list,bE ⟨i.bytes.toArray⟩,c2]] w λe w'=>Strs w' w.heap.size e (strs i)/\cG w.heap.size w w':=by
 obtain⟨a,cap,_,_,rfl⟩:=h.shape;obtain⟨D,hD⟩:∃D:ByteArray,(⟨i.bytes.toArray⟩:ByteArray)=D:=⟨_,rfl⟩
 obtain⟨W,hW,ah,-⟩:=jD w #[.bool i.list,bE D,.slice a i.kids.length cap] 164;have z0:W.cell? ⟨w.heap.size,0,Z⟩=M (.bool i.list):=by rw[hW];simp
 have z2:W.cell? ⟨w.heap.size,2,Z⟩=M (.slice a i.kids.length cap):=by rw[hW];simp
 obtain⟨R,hR⟩:∃R,strs i=R:=⟨_,rfl⟩
 rw[hR,hD];obtain⟨li,af⟩:∃li,i.list=li:=⟨_,rfl⟩
 rw[af]at z0 hW⊢;obtain⟨i0,aq,an,au,ao⟩:=pu BP;have Hi:cJ _:=jy aq (jy an (jy au ao));have H:cJ _:=jy h (jy ah (jy hR af));clear h ah hR af aq an au ao hD;cases li
 .go_enter (fq Tryz.func126 rfl),Tryz.ntmps126;go_upto_region 1 with fail;rw[<-hW];clear hW;go_wp2_with fail;go_ret2;obtain⟨h,ah,hR,af⟩:=H.out;refine⟨?_,ah⟩;rw[<-hR];unfold strs;rw[af];rfl
 .go_enter (fq Tryz.func126 rfl),Tryz.ntmps126;go_upto_region 1 with fail;rw[<-hW];clear hW;go_wp2_with fail;go_loopg [4,6,13] i.kids.length (λgg v4 _ aw wx=>∃(k:Nat)(ra:Option Addr)(rc:Nat),k<=i.kids.length/\aw=N aE k/\v4=.slice ra k rc/\gg=i.kids.length-k/\cJ (Made wx w.heap.size (.slice ra k rc) ((i.kids.take k).map (·.bytes))/\(∀x,x∈i.kids.take k->x.list=aR)/\cG w.heap.size w wx))
  case atStart=>exact⟨0,Z,0,dL _,rfl,rfl,rfl,⟨Row.nil _ _ _,by simp[eE]⟩,aC,H.out.2.1⟩
  case round=>
   obtain⟨k,ra,rc,hk,rfl,rfl,rfl,HI⟩:=hrel;by_cases ag:k<i.kids.length
   .have ar:(k:Int)<i.kids.length:=by omega
    have av:=In.below (HI.out.2.2.mono hB) _ _ _ _ _ H.out.1;obtain⟨g,off,a0,hv,hg,aj⟩:=In.kid av (λe=>by rw[e]at ag;simp at ag);simp only[eJ,true_and]at hv;obtain⟨rfl,rfl⟩:=hv;obtain⟨d2,⟨k0,k1,k2⟩,ac⟩:=aj k ag;obtain⟨x,hx⟩:∃x,i.kids[k]=x:=⟨_,rfl⟩
    rw[hx]at k0 k1 ac;obtain⟨xa,xc,_,_,rfl⟩:=ac.shape;obtain⟨Wd,hX⟩:∃Wd:ByteArray,(⟨x.bytes.toArray⟩:ByteArray)=Wd:=⟨_,rfl⟩
    rw[hX]at k1;obtain⟨W2,Y,J,-⟩:=jD wr #[.bool x.list,bE Wd,.slice xa x.kids.length xc] 164;have y0:W2.cell? ⟨wr.heap.size,0,Z⟩=M (.bool x.list):=by rw[Y];simp
    have y1:W2.cell? ⟨wr.heap.size,1,Z⟩=M (bE Wd):=by rw[Y];simp
    obtain⟨xl,I⟩:∃xl,x.list=xl:=⟨_,rfl⟩
    rw[I]at y0 k0 Y;have aa:i.kids.take (k+1)=i.kids.take k++[x]:=by rw[eY ag,hx]
    have HX:cJ _:=jy hx (jy hX (jy J (jy I aa)));have ae:=λo=>(HI.out.1.1.below J).below ((aJ _ W2).alloc jB o);rw[show((i.kids.take k).map (·.bytes)).length=k from by rw[bC,bK];omega]at ae;have am:cJ _:=ae;clear av hg aj ac hx hX J I aa ae;cases xl
    .go_upto_region 7 with fail;rw[<-Y];clear Y;go_wp2_with (first|(at_builtin;refine kX _ rfl (.tmp 19) (.tmp 22) 26 rfl 9 i0 _ 1 16 (uq Tryz.underlying26) Hi.out.1 Hi.out.2.1 Hi.out.2.2.1 Hi.out.2.2.2 rfl aB _ k _ rfl (am.out _) _ 1 1 [bE Wd] rfl aB rfl (by intro j u hj;match j,hj with|0,hj=>(simp at hj;subst hj;simp[Addr.add])) (by intro u hu;simp at hu;subst hu;rfl) (by unfold maxLen;omega) aA ?_;intro g5 a1 ap w5 E z;have ay:cJ _:=jy E z;clear E z)|go_in)
     go_roundg (i.kids.length-(k+1))
     case measure=>omega
     case rel=>
      obtain⟨hx,hX,J,I,aa⟩:=HX.out;obtain⟨E,z⟩:=ay.out;have ai:=HI.out.2.2.trans (J.mono HI.out.2.2.size);have ak:cG w.heap.size w (W2.alloc (aL #[bE Wd] 9)):=ai.alloc ai.size _
      have az:w.heap.size<=g5:=by
       obtain e|e:=z.own
       .exact HI.out.1.2 g5 e
       .exact bH ak.size e
      refine⟨_,_,ap,aA,by go_num,rfl,rfl,⟨?_,?_⟩,?_,?_⟩
      .rw[aa,bJ,bJ,aS,bC,bK,fZ aA];have:[x].map (λt:Im.It=>t.bytes)=[x.bytes]:=rfl;rw[this,eP,fP];unfold nT at E⊢;rw[hX];exact E
      .intro q hq;have:M g5=M q:=hq;cases this;exact az
      .intro y hy;rw[aa]at hy;obtain hy|hy:=dM.1 hy
       .exact HI.out.2.1 y hy
       .rw[dK.1 hy];exact I
      .refine ak.trans ⟨z.jM.os,z.jM.tape,z.jM.output,z.jM.size,λq hq=>z.jM.block q (aP hq ak.size) (λe=>?_)⟩;have:=HI.out.1.2 q e;omega
    .go_upto_region 7 with fail;rw[<-Y];clear Y;go_wp2_with fail;go_ret2;obtain⟨hx,hX,J,I,aa⟩:=HX.out;refine⟨?_,HI.out.2.2.trans (J.mono HI.out.2.2.size)⟩;rw[<-H.out.2.2.1];unfold strs;rw[Zs]
     .rfl
     .intro e;simp only[dF]at e;have:=fF.1 e.2 x (by rw[<-hx];exact List.getElem_mem _);rw[I]at this;cases this
   .have ar:¬(k:Int)<i.kids.length:=by omega
    obtain rfl:k=i.kids.length:=aA
    go_wp2_with fail;go_ret2;refine⟨?_,HI.out.2.2⟩;rw[<-H.out.2.2.1];unfold strs;rw[ZD]
    .have h1:=HI.out.1;rw[iJ]at h1;refine⟨ra,rc,?_,?_⟩
     .rw[bC];rfl
     .rw[bC];exact h1
    .simp only[dF];refine⟨H.out.2.2.2,fF.2 (λx hx=>?_)⟩;rw[HI.out.2.1 x (by rw[iJ];exact hx)];rfl
open Go.RowKit Go.Joins
open Dv (Cf X2 Tx)
def LU(v:aD)(l:List Tx)(w:X)(h:yc w v l)(hl:l.length<=4294967296):eL PQ 89 #[v,.func (.func 58) #[] #[]] w λe w'=>e=bX (N aE (idx (λt:Tx=>decide (2000<t.data.length)) l))/\cG w.heap.size w w':=by
 have eg:=enters_of (P:=PQ) (fq Tryz.func58 rfl) XN rfl;obtain⟨a,cap,h0,rfl⟩|⟨g,off,cap,h0,rfl⟩:=Rd.cases h
 .obtain rfl:=bP h0;go_enter (fq Tryz.func89 rfl),Tryz.ntmps89;go_wp2_with fail;go_loopg [5,8] 0 (λgg _ v8 wx=>v8=N aE 0/\wx=w)
  case atStart=>exact⟨rfl,rfl⟩
  case round=>
   obtain⟨rfl,rfl⟩:=hrel;go_wp2_with fail;go_ret;exact⟨rfl,aJ _ _⟩
 .have hg:g<w.heap.size:=by
   obtain⟨g',ae,af,hv,_,Y,_⟩:=Rd.pos h h0;simp only[eJ,aK,Addr.mk.injEq,and_true,true_and]at hv;obtain⟨⟨rfl,rfl⟩,rfl⟩:=hv;exact Y
  have Hf:cJ _:=λj t (R:l[j]? =M t)=>h.get R;clear h;go_enter (fq Tryz.func89 rfl),Tryz.ntmps89;go_wp2_with fail;go_loopg [5,8] l.length (λgg _ v8 wx=>∃i:Nat,i<=l.length/\v8=N aE i/\gg=l.length-i/\cJ (∀(j:Nat)(y:Tx),j<i->l[j]? =M y->decide (2000<y.data.length)=aR)/\cJ (cG w.heap.size w wx))
  case atStart=>exact⟨0,dL _,rfl,rfl,λj y R=>aA,aJ _ _⟩
  case round=>
   obtain⟨i,hi,rfl,rfl,Hi,I⟩:=hrel;by_cases Y:i<l.length
   .have ac:(i:Int)<l.length:=by omega
    obtain⟨t,ht⟩:∃t,l[i]? =M t:=⟨_,aO Y⟩
    obtain⟨k0,k1,k2⟩:=Hf.out i t ht;rw[<-I.out.cell (p:=⟨g,off+i*3,Z⟩) hg]at k0;rw[<-I.out.cell (p:=⟨g,off+i*3+1,Z⟩) hg]at k1;rw[<-I.out.cell (p:=⟨g,off+i*3+2,Z⟩) hg]at k2;have z:=λW=>P6 t W;have Ht:cJ _:=ht;obtain⟨D,hD⟩:∃D:ByteArray,(⟨t.data.toArray⟩:ByteArray)=D:=⟨_,rfl⟩
    rw[hD]at z k2;clear hD;cases hq:decide (2000<t.data.length)
    .rw[hq]at z;have E:cJ _:=z;have Hq:cJ _:=hq;clear z ht hq;go_wp2_with (go_at_call 58;refine(E.out _).mono ?_;rintro e w2 ⟨rfl,aa⟩)
     go_roundg (l.length-(i+1))
     case measure=>omega
     case rel=>
      refine⟨_,aA,by go_num,rfl,λj y R J=>?_,I.out.trans (aa.mono I.out.size)⟩;obtain R|rfl:=jm (Nat.lt_succ_iff.1 R)
      .exact Hi.out j y R J
      .rw[Ht.out]at J;cases J;exact Hq.out
    .rw[hq]at z;have E:cJ _:=z;have Hq:cJ _:=hq;clear z ht hq;go_wp2_with (go_at_call 58;refine(E.out _).mono ?_;rintro e w2 ⟨rfl,aa⟩)
     go_ret;exact⟨by rw[xR Ht.out Hq.out (λj y R J=>Hi.out j y R J)];rfl,I.out.trans (aa.mono I.out.size)⟩
   .have ac:¬(i:Int)<l.length:=by omega
    go_wp2_with fail;go_ret;refine⟨?_,I.out⟩;rw[xB (λj y J=>Hi.out j y (by have:=(aN.1 J).1;omega) J)];rfl
def IC(v:aD)(l:List (List UInt8))(w:X)(h:qH w v l)(hl:l.length<=4294967296):eL PQ 90 #[v,.func (.func 60) #[] #[]] w λe w'=>e=bX (N aE (idx (λt:List UInt8=>decide (2000<t.length)) l))/\cG w.heap.size w w':=by
 have eg:=enters_of (P:=PQ) (fq Tryz.func60 rfl) XN rfl;obtain⟨a,cap,h0,rfl⟩|⟨g,off,cap,h0,rfl⟩:=Rd.cases h
 .obtain rfl:=bP h0;go_enter (fq Tryz.func90 rfl),Tryz.ntmps90;go_wp2_with fail;go_loopg [5,8] 0 (λgg _ v8 wx=>v8=N aE 0/\wx=w)
  case atStart=>exact⟨rfl,rfl⟩
  case round=>
   obtain⟨rfl,rfl⟩:=hrel;go_wp2_with fail;go_ret;exact⟨rfl,aJ _ _⟩
 .have hg:g<w.heap.size:=by
   obtain⟨g',ac,ae,hv,_,R,_⟩:=Rd.pos h h0;simp only[eJ,aK,Addr.mk.injEq,and_true,true_and]at hv;obtain⟨⟨rfl,rfl⟩,rfl⟩:=hv;exact R
  have Hf:cJ _:=λj t (J:l[j]? =M t)=>h.get J;clear h;go_enter (fq Tryz.func90 rfl),Tryz.ntmps90;go_wp2_with fail;go_loopg [5,8] l.length (λgg _ v8 wx=>∃i:Nat,i<=l.length/\v8=N aE i/\gg=l.length-i/\cJ (∀(j:Nat)(y:List UInt8),j<i->l[j]? =M y->decide (2000<y.length)=aR)/\cJ (cG w.heap.size w wx))
  case atStart=>exact⟨0,dL _,rfl,rfl,λj y J=>aA,aJ _ _⟩
  case round=>
   obtain⟨i,hi,rfl,rfl,Hi,Hb⟩:=hrel;by_cases R:i<l.length
   .have aa:(i:Int)<l.length:=by omega
    obtain⟨t,ht⟩:∃t,l[i]? =M t:=⟨_,aO R⟩
    have k2:=Hf.out i t ht;rw[<-Hb.out.cell (p:=⟨g,off+i,Z⟩) hg]at k2;have z:=λW=>Ou t W;have Ht:cJ _:=ht;obtain⟨D,hD⟩:∃D:ByteArray,(⟨t.toArray⟩:ByteArray)=D:=⟨_,rfl⟩
    rw[hD]at z k2;clear hD;cases hq:decide (2000<t.length)
    .rw[hq]at z;have E:cJ _:=z;have Hq:cJ _:=hq;clear z ht hq;go_wp2_with (go_at_call 60;refine(E.out _).mono ?_;rintro e w2 ⟨rfl,Y⟩)
     go_roundg (l.length-(i+1))
     case measure=>omega
     case rel=>
      refine⟨_,aA,by go_num,rfl,λj y J I=>?_,Hb.out.trans (Y.mono Hb.out.size)⟩;obtain J|rfl:=jm (Nat.lt_succ_iff.1 J)
      .exact Hi.out j y J I
      .rw[Ht.out]at I;cases I;exact Hq.out
    .rw[hq]at z;have E:cJ _:=z;have Hq:cJ _:=hq;clear z ht hq;go_wp2_with (go_at_call 60;refine(E.out _).mono ?_;rintro e w2 ⟨rfl,Y⟩)
     go_ret;exact⟨by rw[xR Ht.out Hq.out (λj y J I=>Hi.out j y J I)];rfl,Hb.out.trans (Y.mono Hb.out.size)⟩
   .have aa:¬(i:Int)<l.length:=by omega
    go_wp2_with fail;go_ret;refine⟨?_,Hb.out⟩;rw[xB (λj y I=>Hi.out j y (by have:=(aN.1 I).1;omega) I)];rfl
def Dq(v:aD)(l:List Tx)(w:X)(h:yc w v l)(R:l.length<=4294967296):eL PQ 57 #[v,.func (.func 58) #[] #[]] w λe w'=>e=bX (.bool (l.any (λt:Tx=>decide (2000<t.data.length))))/\cG w.heap.size w w':=by
 rw[<-Rl];have z:=LU v l w h R;obtain⟨a,cap,rfl⟩:=Rd.slice h;obtain⟨r,J⟩:∃r,idx (λt:Tx=>decide (2000<t.data.length)) l=r:=⟨_,rfl⟩
 rw[J]at z⊢;have E:cJ _:=z;clear z J h;go_enter (fq Tryz.func57 rfl),Tryz.ntmps57;go_wp2_with (go_at_call 89;refine aT E.out ?_;rintro e w2 ⟨rfl,I⟩)
 go_ret;exact⟨rfl,I⟩
def Ar(v:aD)(l:List (List UInt8))(w:X)(h:qH w v l)(R:l.length<=4294967296):eL PQ 59 #[v,.func (.func 60) #[] #[]] w λe w'=>e=bX (.bool (l.any (λt:List UInt8=>decide (2000<t.length))))/\cG w.heap.size w w':=by
 rw[<-Rl];have z:=IC v l w h R;obtain⟨a,cap,rfl⟩:=Rd.slice h;obtain⟨r,J⟩:∃r,idx (λt:List UInt8=>decide (2000<t.length)) l=r:=⟨_,rfl⟩
 rw[J]at z⊢;have E:cJ _:=z;clear z J h;go_enter (fq Tryz.func59 rfl),Tryz.ntmps59;go_wp2_with (go_at_call 90;refine aT E.out ?_;rintro e w2 ⟨rfl,I⟩)
 go_ret;exact⟨rfl,I⟩
def Ku(u:X2)(vt vl:aD):aD:=.agg #[N aE u.id,N aE u.time,vt,vl]
def XV(u:X2):Dv.small u=(decide (u.txs.length<=20)&&decide (u.logs.length<=20)&&!u.txs.any (λt:Tx=>decide (2000<t.data.length))&&!u.logs.any (λt:List UInt8=>decide (2000<t.length))):=by
 unfold Dv.small;rw[o3]
 congr 1
 .congr 1
  rw[List.all_eq_not_any_not]
  congr 2
  funext t;rw[<-decide_not];exact decide_eq_decide.2 aA
 .rw[List.all_eq_not_any_not]
  congr 2
  funext t;rw[<-decide_not];exact decide_eq_decide.2 aA
def FY(u:X2)(vt vl:aD)(w:X)(ht:yc w vt u.txs)(I:qH w vl u.logs)(h1:u.txs.length<=4294967296)(h2:u.logs.length<=4294967296):eL PQ 36 #[Ku u vt vl] w λe w'=>e=bX (.bool (Dv.small u))/\cG w.heap.size w w':=by
 have hb:cG w.heap.size w (w.alloc (aL #[N aE u.id,N aE u.time,vt,vl] 28)):=(aJ _ w).alloc jB _;obtain⟨W,E⟩:∃W,W=w.alloc (aL #[N aE u.id,N aE u.time,vt,vl] 28):=⟨_,rfl⟩
 rw[<-E]at hb;have c1:=λW' hw=>Dq vt _ W' (Rd.below (Rd.below ht hb) hw) h1;have c2:=λW' hw=>Ar vl _ W' (Rd.below (Rd.below I hb) hw) h2;have k2:W.cell? ⟨w.heap.size,2,Z⟩=M vt:=by rw[E];simp
 have k3:W.cell? ⟨w.heap.size,3,Z⟩=M vl:=by rw[E];simp
 have ae:w.heap.size<W.heap.size:=by rw[E];simp
 obtain⟨ta,tc,rfl⟩:=Rd.slice ht;obtain⟨la,lc,rfl⟩:=Rd.slice I;rw[XV];unfold Ku;obtain⟨n,J⟩:∃n,u.txs.length=n:=⟨_,rfl⟩
 obtain⟨m,Y⟩:∃m,u.logs.length=m:=⟨_,rfl⟩
 obtain⟨b1,aa⟩:∃b,u.txs.any (λt:Tx=>decide (2000<t.data.length))=b:=⟨_,rfl⟩
 obtain⟨b2,z⟩:∃b,u.logs.any (λt:List UInt8=>decide (2000<t.length))=b:=⟨_,rfl⟩
 rw[aa]at c1⊢;rw[z]at c2⊢;rw[J]at c1 k2 E⊢;rw[Y]at c2 k3 E⊢;have C1:cJ _:=c1;have C2:cJ _:=c2;have R:cJ _:=hb;obtain⟨r,hr⟩:∃r,(decide (n<=20)&&decide (m<=20)&&!b1&&!b2)=r:=⟨_,rfl⟩
 rw[hr];have Hr:cJ _:=hr;clear c1 c2 hb hr aa z J Y h1 h2 ht I;go_enter (fq Tryz.func36 rfl),Tryz.ntmps36;go_upto_region 1 with fail;rw[<-E];clear E;by_cases J:n<=20
 .have af:(n:Int)<=20:=by omega
  by_cases Y:m<=20
  .have ac:(m:Int)<=20:=by omega
   cases b1
   .cases b2
    all_goals
     go_wp2_with (first|(go_at_call 57;refine aT (C1.out _ ?_) ?_;(first|exact aJ _ _|exact(aJ _ _).drew|exact below_drewN (aJ _ _) _);rintro e w2 ⟨rfl,z⟩;have ah:=(z.cell (p:=⟨w.heap.size,3,Z⟩) ae).trans k3)|(go_at_call 59;refine aT (C2.out _ z) ?_;rintro e w3 ⟨rfl,ag⟩)|fail)
     go_ret;refine⟨?_,R.out.trans ((z.trans (ag.mono z.size)).mono R.out.size)⟩;rw[<-Hr.out,Z0 J,Z0 Y];rfl
   .go_wp2_with (first|(go_at_call 57;refine aT (C1.out _ ?_) ?_;(first|exact aJ _ _|exact(aJ _ _).drew|exact below_drewN (aJ _ _) _);rintro e w2 ⟨rfl,z⟩)|fail)
    go_ret;refine⟨?_,R.out.trans (z.mono R.out.size)⟩;rw[<-Hr.out,Z0 J,Z0 Y];rfl
  .have ac:¬(m:Int)<=20:=by omega
   go_wp2_with fail;go_ret;refine⟨?_,R.out⟩;rw[<-Hr.out,Z0 J,ZZ Y];rfl
 .have af:¬(n:Int)<=20:=by omega
  go_wp2_with fail;go_ret;refine⟨?_,R.out⟩;rw[<-Hr.out,ZZ J];rfl
def mM(u:X2):Bool:=decide (0<=u.time)&&decide (u.time<=1000000)&&Dv.small u
def mY(t:Int)(u:X2):Bool:=decide (t+1<=u.time)&&decide (u.time<=t+24)&&Dv.small u
def Eh(u:X2):Dv.lY Z u=mM u:=by unfold Dv.lY mM;simp only[o3]
def U2(t:Int)(u:X2):Dv.lY (M t) u=mY t u:=by unfold Dv.lY mY;simp only[o3];rfl
def kW(w:X)(u:X2)(vt vl:aD):Prop:=yc w vt u.txs/\qH w vl u.logs/\u.txs.length<=4294967296/\u.logs.length<=4294967296
def kW.below{w w':X}{u:X2}{vt vl:aD}(h:kW w u vt vl)(z:cG w.heap.size w w'):kW w' u vt vl:=⟨Rd.below h.1 z,Rd.below h.2.1 z,h.2.2⟩
def first_any(u:X2)(vt vl:aD)(w:X)(h:kW w u vt vl):eL PQ 18 #[Ku u vt vl] w λe w'=>e=bX (.bool (mM u))/\cG w.heap.size w w':=by
 unfold Ku;obtain⟨W,E,J,-⟩:=jD w #[N aE u.id,N aE u.time,vt,vl] 28;have k0:W.cell? ⟨w.heap.size,0,Z⟩=M (N aE u.id):=by rw[E];simp
 have k1:W.cell? ⟨w.heap.size,1,Z⟩=M (N aE u.time):=by rw[E];simp
 have k2:W.cell? ⟨w.heap.size,2,Z⟩=M vt:=by rw[E];simp
 have k3:W.cell? ⟨w.heap.size,3,Z⟩=M vl:=by rw[E];simp
 have c1:=λW'=>ng u.time 0 1000000 W';have R:=FY u vt vl W (h.below J).1 (h.below J).2.1 h.2.2.1 h.2.2.2;unfold Ku at R;obtain⟨ta,tc,rfl⟩:=Rd.slice h.1;obtain⟨la,lc,rfl⟩:=Rd.slice h.2.1;obtain⟨b1,I⟩:∃b,(decide (0<=u.time)&&decide (u.time<=1000000))=b:=⟨_,rfl⟩
 obtain⟨b2,z⟩:∃b,Dv.small u=b:=⟨_,rfl⟩
 unfold mM;rw[I]at c1⊢;rw[z]at R⊢;have C1:cJ _:=c1;have C2:cJ _:=λ(_:Unit)=>R;have Y:cJ _:=J;clear c1 R J I z h;go_enter (fq Tryz.func18 rfl),Tryz.ntmps18;go_upto_region 1 with fail;rw[<-E];clear E;cases b1
 .go_wp2_with (go_at_call 35;refine aT (C1.out _) ?_;rintro e w2 ⟨rfl,rfl⟩)
  go_ret;exact⟨rfl,Y.out⟩
 .go_wp2_with (first|(go_at_call 35;refine aT (C1.out _) ?_;rintro e w2 ⟨rfl,rfl⟩)|(go_at_call 36;refine aT (C2.out ()) ?_;rintro e w2 ⟨rfl,z⟩)|fail)
  go_ret;exact⟨by cases b2<;>rfl,Y.out.trans (z.mono Y.out.size)⟩
def next_any(t:Int)(u:X2)(vt vl:aD)(w:X)(h:kW w u vt vl)(ht:0<=t/\t<=4294967296):eL PQ 40 #[N aE t,Ku u vt vl] w λe w'=>e=bX (.bool (mY t u))/\cG w.heap.size w w':=by
 unfold Ku;obtain⟨W,E,J,-⟩:=jD w #[N aE u.id,N aE u.time,vt,vl] 28;have k0:W.cell? ⟨w.heap.size,0,Z⟩=M (N aE u.id):=by rw[E];simp
 have k1:W.cell? ⟨w.heap.size,1,Z⟩=M (N aE u.time):=by rw[E];simp
 have k2:W.cell? ⟨w.heap.size,2,Z⟩=M vt:=by rw[E];simp
 have k3:W.cell? ⟨w.heap.size,3,Z⟩=M vl:=by rw[E];simp
 have c1:=λW'=>ng u.time (t+1) (t+24) W';have R:=FY u vt vl W (h.below J).1 (h.below J).2.1 h.2.2.1 h.2.2.2;unfold Ku at R;obtain⟨ta,tc,rfl⟩:=Rd.slice h.1;obtain⟨la,lc,rfl⟩:=Rd.slice h.2.1;obtain⟨b1,I⟩:∃b,(decide (t+1<=u.time)&&decide (u.time<=t+24))=b:=⟨_,rfl⟩
 obtain⟨b2,z⟩:∃b,Dv.small u=b:=⟨_,rfl⟩
 unfold mY;rw[I]at c1⊢;rw[z]at R⊢;have C1:cJ _:=c1;have C2:cJ _:=λ(_:Unit)=>R;have Y:cJ _:=J;obtain⟨ac,aa⟩:=ht;clear c1 R J I z h;go_enter (fq Tryz.func40 rfl),Tryz.ntmps40;go_upto_region 1 with fail;rw[<-E];clear E;cases b1
 .go_wp2_with (go_at_call 35;refine aT (C1.out _) ?_;rintro e w2 ⟨rfl,rfl⟩)
  go_ret;exact⟨rfl,Y.out⟩
 .go_wp2_with (first|(go_at_call 35;refine aT (C1.out _) ?_;rintro e w2 ⟨rfl,rfl⟩)|(go_at_call 36;refine aT (C2.out ()) ?_;rintro e w2 ⟨rfl,z⟩)|fail)
  go_ret;exact⟨by cases b2<;>rfl,Y.out.trans (z.mono Y.out.size)⟩
open Dv (X2)
section
variable {s:List UInt8}{i:Im.It}
def XO(h:Im.dec s=M i):Im.dp 9 i/\Im.wt 9 i<=2*s.length:=by
 unfold Im.dec at h;cases z:Im.read Im.body 8 s with
 |none=>rw[z]at h;cases h
 |some x=>
  obtain⟨j,n⟩:=x;rw[z]at h;simp only at h;split at h
  .cases h;rename_i E;have:=Im.aaC Im.oZ 8 _ _ _ z;rw[E]at this;exact this
  .cases h
def XH(h:Im.dec s=M i):i.kids.length<=2*s.length:=by obtain⟨z,h2⟩:=XO h;have:=Im.QZ z;omega
def Qv{k:Im.It}(h:Im.dec s=M i)(hk:k∈i.kids):k.kids.length<=2*s.length:=by obtain⟨z,h2⟩:=XO h;have h3:=Im.adT (n:=8) hk;have h4:=Im.QZ (n:=8) (z k hk);have E:Im.wt (8+1) i=Im.wt 9 i:=rfl;omega
def FI:Option (List (List UInt8))->Bool
 |some [a,b]=>decide (0<a.length)&&decide (a.length<=8)&&decide (b.length<=64)
 |_=>aR
def XC(s:List UInt8):Dv.isDep s=FI ((Im.dec s).bind strs):=by
 unfold Dv.isDep;cases Im.dec s with
 |none=>rfl
 |some i=>
  obtain⟨E,R,J⟩:=i;simp only[gX];unfold strs;cases E
  .rfl
  .match J with
   |[]=>rfl
   |[a]=>cases z:a.list<;>simp[FI,z]
   |[a,b]=>
    cases z:a.list<;>cases I:b.list<;>simp[FI,z,I]
    congr 1
    .congr 1
     exact decide_eq_decide.2 aA
    .exact decide_eq_decide.2 aA
   |a::b::c::r=>
    simp only;split<;>simp[FI]
def Fe(s:ByteArray)(w:X)(hs:s.size<=16777216)(hH:lJ w):eL PQ 97 #[bE s] w λe w'=>e=bX (.bool (Dv.isDep s.data.toList))/\cG w.heap.size w w':=by
 rw[XC];have aj:=Z0 (show True from trivial);have I:=decode_any s w hs hH;cases hd:Im.dec s.data.toList with
 |none=>
  rw[hd]at I;have aa:cJ _:=λ(_:Unit)=>I;have Hb:cJ _:=λW o=>(aJ _ W).alloc jB o;clear I hd aj;go_enter (fq Tryz.func97 rfl),Tryz.ntmps97;go_wp2_with (go_at_call 124;refine aT (aa.out ()) ?_;rintro e w2 ⟨he,ac⟩;unfold Il at he;subst he)
  go_ret;exact⟨rfl,ac.alloc ac.size _⟩
 |some i=>
  rw[hd]at I;have hk:=XH hd;rw[<-bD]at hk;simp only[gX];obtain⟨R,hR⟩:∃R,strs i=R:=⟨_,rfl⟩
  rw[hR];have aa:cJ _:=λ(_:Unit)=>I;obtain⟨D,hD⟩:∃D:ByteArray,(⟨i.bytes.toArray⟩:ByteArray)=D:=⟨_,rfl⟩
  obtain⟨li,ag⟩:∃li,i.list=li:=⟨_,rfl⟩
  obtain⟨nk,af⟩:∃nk,i.kids.length=nk:=⟨_,rfl⟩
  have H:cJ _:=jy hR (jy hD (jy ag (jy af hk)));clear I hd aj hR hD ag af hk;go_enter (fq Tryz.func97 rfl),Tryz.ntmps97;go_upto_region 2 with(go_at_call 124;refine aT (aa.out ()) ?_;rintro e w2 ⟨he,ac⟩;obtain⟨a,cap,he,ht⟩:=he;rw[H.out.2.1,H.out.2.2.1,H.out.2.2.2.1]at he;subst he;have HT:cJ (Tr _ _ _ _ _ _ _ _):=ht;clear ht)
  obtain⟨W,hW,ah,-⟩:=jD w2 #[.bool li,bE D,.slice a nk cap] 164;have z0:W.cell? ⟨w2.heap.size,0,Z⟩=M (.bool li):=by rw[hW];simp
  have z1:W.cell? ⟨w2.heap.size,1,Z⟩=M (bE D):=by rw[hW];simp
  have z2:W.cell? ⟨w2.heap.size,2,Z⟩=M (.slice a nk cap):=by rw[hW];simp
  rw[<-hW];obtain⟨hR,hD,ag,af,hk⟩:=H.out;have ap:=In.below (ah) _ _ _ _ _ (Tr.inn 9 _ _ _ _ _ _ jB HT.out);have ae:=vN 7 _ i _ W ah.size ap aA;rw[hD,ag,af,hR]at ae;have J:cJ _:=λ(_:Unit)=>ae;have HB:cJ _:=ac.trans (ah.mono ac.size);clear hR hD ag af hk ap ae ah hW ac H;cases R with
  |none=>
   go_wp2_with (go_at_call 126;refine aT (J.out ()) ?_;rintro e w3 ⟨he,E⟩;unfold Strs at he;subst he)
   go_ret;exact⟨rfl,HB.out.trans (E.mono HB.out.size)⟩
  |some l=>
   by_cases ak:l.length=2
   .obtain⟨x,y,rfl⟩:∃x y,l=[x,y]:=by
     match l,ak with
     |[x,y],_=>exact⟨x,y,rfl⟩
    obtain⟨Wd,hX⟩:∃Wd:ByteArray,(⟨x.toArray⟩:ByteArray)=Wd:=⟨_,rfl⟩
    obtain⟨Y,hY⟩:∃Y:ByteArray,(⟨y.toArray⟩:ByteArray)=Y:=⟨_,rfl⟩
    have ar:Wd.size=x.length:=by rw[<-hX];rfl
    have aq:Y.size=y.length:=by rw[<-hY];rfl
    have am:FI (M [x,y])=(decide (0<Wd.size)&&decide (Wd.size<=8)&&decide (Y.size<=64)):=by rw[ar,aq];rfl
    have ai:=Fr.toList_empty Wd;have HX:cJ _:=jy hX hY;have Hr:cJ _:=am;clear hX hY ar aq am;by_cases h0:Wd.size=0
    .have an:Wd.toList.isEmpty=bB:=by rw[ai];exact Z0 h0
     clear ai;go_wp2_with (go_at_call 126;refine aT (J.out ()) ?_;rintro e w3 ⟨⟨ra,rc,rfl,z⟩,E⟩;obtain⟨g,off,ao,hv,_⟩:=z.1.pos aC;(simp only[eJ,true_and]at hv);obtain⟨rfl,rfl⟩:=hv;have k0:w3.cell? ⟨g,off,Z⟩=M (bE Wd):=(by have:=z.1.cell rfl 0 (bE Wd) (by unfold nT;rw[<-HX.out.1];rfl);simpa using this);have k1:=(z.1.cell rfl 1 (bE Y) (by unfold nT;rw[<-HX.out.2];rfl));have H3:cJ _:=E;clear E z)
     go_ret;refine⟨?_,HB.out.trans (H3.out.mono HB.out.size)⟩;rw[Hr.out,ZZ (show ¬0<Wd.size by omega)];rfl
    .have an:Wd.toList.isEmpty=aR:=by rw[ai];exact ZZ h0
     clear ai;by_cases h8:Wd.size<=8
     .have au:(Wd.size:Int)<=8:=by omega
      go_wp2_with (go_at_call 126;refine aT (J.out ()) ?_;rintro e w3 ⟨⟨ra,rc,rfl,z⟩,E⟩;obtain⟨g,off,ao,hv,_⟩:=z.1.pos aC;(simp only[eJ,true_and]at hv);obtain⟨rfl,rfl⟩:=hv;have k0:w3.cell? ⟨g,off,Z⟩=M (bE Wd):=(by have:=z.1.cell rfl 0 (bE Wd) (by unfold nT;rw[<-HX.out.1];rfl);simpa using this);have k1:=(z.1.cell rfl 1 (bE Y) (by unfold nT;rw[<-HX.out.2];rfl));have H3:cJ _:=E;clear E z)
      go_ret;refine⟨?_,HB.out.trans (H3.out.mono HB.out.size)⟩;rw[Hr.out,Z0 (show 0<Wd.size by omega),Z0 h8];have:decide ((Y.size:Int)<=64)=decide (Y.size<=64):=decide_eq_decide.2 aA
      show Ending.returned (cM (decide ((Y.size:Int)<=64)))=_
      rw[this];rfl
     .have au:¬(Wd.size:Int)<=8:=by omega
      go_wp2_with (go_at_call 126;refine aT (J.out ()) ?_;rintro e w3 ⟨⟨ra,rc,rfl,z⟩,E⟩;obtain⟨g,off,ao,hv,_⟩:=z.1.pos aC;(simp only[eJ,true_and]at hv);obtain⟨rfl,rfl⟩:=hv;have k0:w3.cell? ⟨g,off,Z⟩=M (bE Wd):=(by have:=z.1.cell rfl 0 (bE Wd) (by unfold nT;rw[<-HX.out.1];rfl);simpa using this);have k1:=(z.1.cell rfl 1 (bE Y) (by unfold nT;rw[<-HX.out.2];rfl));have H3:cJ _:=E;clear E z)
      go_ret;refine⟨?_,HB.out.trans (H3.out.mono HB.out.size)⟩;rw[Hr.out,Z0 (show 0<Wd.size by omega),ZZ h8];rfl
   .have hr:FI (M l)=aR:=by
     match l,ak with
     |[],_=>rfl
     |[_],_=>rfl
     |_::_::_::_,_=>rfl
    have Hr:cJ _:=hr;obtain⟨n,hn⟩:∃n,l.length=n:=⟨_,rfl⟩
    have av:((n:Int) == 2)=aR:=ZS aA;have Hn:cJ _:=hn;clear hr ak hn;go_wp2_with (go_at_call 126;refine aT (J.out ()) ?_;rintro e w3 ⟨⟨ra,rc,he,z⟩,E⟩;rw[Hn.out]at he;subst he;have H3:cJ _:=E;clear E z)
    go_ret;exact⟨by rw[Hr.out];rfl,HB.out.trans (H3.out.mono HB.out.size)⟩
def Bo(v:aD)(l:List (List UInt8))(w:X)(h:qH w v l)(hl:l.length<=4294967296)(hs:∀x,x∈l->x.length<=16777216)(hH:lJ w):eL PQ 66 #[v] w λe w'=>∃a cap,e=bX (.slice a (l.filter Dv.isDep).length cap)/\Made w' w.heap.size (.slice a (l.filter Dv.isDep).length cap) (l.filter Dv.isDep)/\cG w.heap.size w w':=by
 obtain⟨a,cap,rfl⟩:=Rd.slice h;obtain⟨i0,ap,ak,ar,an⟩:=pu BP;have Hi:cJ _:=jy ap (jy ak (jy ar an));have H:cJ _:=jy h (jy hs hH);have h0:=hH.pos;clear h hs ap ak ar an hH;go_enter (fq Tryz.func66 rfl),Tryz.ntmps66;go_wp2_with fail;go_loopg [3,5,8] l.length (λgg v3 _ v8 wx=>∃(k m:Nat)(ra:Option Addr)(rc:Nat),k<=l.length/\v8=N aE k/\v3=.slice ra m rc/\m<=k/\gg=l.length-k/\cJ (m=((l.take k).filter Dv.isDep).length/\Made wx w.heap.size (.slice ra m rc) ((l.take k).filter Dv.isDep)/\cG w.heap.size w wx))
 case atStart=>exact⟨0,0,Z,0,dL _,rfl,rfl,jB,rfl,rfl,⟨Row.nil _ _ _,by simp[eE]⟩,aJ _ _⟩
 case round=>
  obtain⟨k,m,ra,rc,hk,rfl,rfl,a2,rfl,J⟩:=hrel;by_cases ay:k<l.length
  .have aq:(k:Int)<l.length:=by omega
   obtain⟨x,hx⟩:∃x,l[k]? =M x:=⟨_,aO ay⟩
   obtain⟨g,off,a0,hv,_⟩:=Rd.pos H.out.1 aA;simp only[eJ,true_and]at hv;obtain⟨rfl,rfl⟩:=hv;have k0:=qH.get (Rd.below H.out.1 J.out.2.2) hx;obtain⟨Wd,hX⟩:∃Wd:ByteArray,(⟨x.toArray⟩:ByteArray)=Wd:=⟨_,rfl⟩
   have am:Wd.data.toList=x:=by rw[<-hX]
   have ai:Wd.size<=16777216:=by rw[<-hX];exact H.out.2.1 x (aX hx)
   rw[hX]at k0;have E:=Fe Wd wr ai (H.out.2.2.below J.out.2.2 h0);rw[am]at E;obtain⟨b,hb⟩:∃b,Dv.isDep x=b:=⟨_,rfl⟩
   rw[hb]at E
   have Y:l.take (k+1)=l.take k++[x]:=by
    obtain⟨au,rfl⟩:=aN.1 hx;exact eY au
   have aa:cJ _:=λ(_:Unit)=>E;have af:cJ _:=λV=>Fr.clone_any Wd V ai;have HX:cJ _:=jy hX (jy hb Y);have ae:=λV (hV:cG _ wr V)=>J.out.2.1.1.below hV;rw[<-J.out.1]at ae;have aj:cJ _:=ae;clear E hX am ai hb Y hx ae;cases b
   .go_wp2_with (go_at_call 97;refine aT (aa.out ()) ?_;rintro e w2 ⟨rfl,ac⟩)
    go_roundg (l.length-(k+1))
    case measure=>omega
    case rel=>
     obtain⟨hX,hb,Y⟩:=HX.out;have hf:(l.take (k+1)).filter Dv.isDep=(l.take k).filter Dv.isDep:=by rw[Y,iG,eG,Zs (by rw[hb];simp),List.filter_nil,gI]
     refine⟨_,m,ra,rc,aA,by go_num,rfl,aA,rfl,?_,?_,J.out.2.2.trans (ac.mono J.out.2.2.size)⟩
     .rw[hf];exact J.out.1
     .rw[hf];exact⟨J.out.2.1.1.below ac,J.out.2.1.2⟩
   .go_wp2_with (first|(go_at_call 97;refine aT (aa.out ()) ?_;rintro e w2 ⟨rfl,ac⟩)|(go_at_call 92;refine aT (af.out _) ?_;rintro e w3 ⟨rfl,az⟩;have ag:=ac.trans (az.mono ac.size);have R:cJ _:=ag;clear ag)|(at_builtin;refine kX _ rfl (.tmp 14) (.tmp 17) 26 rfl 9 i0 _ 1 16 (uq Tryz.underlying26) Hi.out.1 Hi.out.2.1 Hi.out.2.2.1 Hi.out.2.2.2 rfl aB _ m _ rfl (aj.out _ (R.out.alloc R.out.size _)) _ 1 1 [bE Wd] rfl aB rfl (by intro j u hj;match j,hj with|0,hj=>(simp at hj;subst hj;simp[Addr.add])) (by intro u hu;simp at hu;subst hu;rfl) (by unfold maxLen;omega) aA ?_;intro g5 a1 ao w5 I z;have av:cJ _:=jy I z;clear I z)|go_in)
    go_roundg (l.length-(k+1))
    case measure=>omega
    case rel=>
     obtain⟨hX,hb,Y⟩:=HX.out;obtain⟨I,z⟩:=av.out;have hf:(l.take (k+1)).filter Dv.isDep=(l.take k).filter Dv.isDep++[x]:=by rw[Y,iG,eG,ZD hb,List.filter_nil]
     have ah:cG w.heap.size w (w3.alloc (aL #[bE Wd] 9)):=J.out.2.2.trans ((R.out.alloc R.out.size _).mono J.out.2.2.size)
     have aw:w.heap.size<=g5:=by
      obtain e|e:=z.own
      .exact J.out.2.1.2 g5 e
      .exact bH ah.size e
     refine⟨_,_,_,ao,aA,by go_num,rfl,aA,rfl,?_,⟨?_,?_⟩,?_⟩
     .rw[hf,aS,<-J.out.1];rfl
     .rw[hf,aS,<-J.out.1,bJ];have:[x].map nT=[bE Wd]:=by unfold nT;rw[<-hX];rfl
      rw[this];exact I
     .intro q hq;have:M g5=M q:=hq;cases this;exact aw
     .refine ah.trans ⟨z.jM.os,z.jM.tape,z.jM.output,z.jM.size,λq hq=>z.jM.block q (aP hq ah.size) (λe=>?_)⟩;have:=J.out.2.1.2 q e;omega
  .have aq:¬(k:Int)<l.length:=by omega
   obtain rfl:k=l.length:=aA
   go_wp2_with fail;go_ret;obtain⟨q1,q2,q3⟩:=J.out;rw[iJ]at q1 q2;subst q1;exact⟨ra,rc,rfl,q2,q3⟩
end
open Fr (below_drewN)
open Dv (X2 Cf)
def Et{w:X}{b:Nat}(x y z:aD)(g:Nat)(h:g≠b):(((w.setCell ⟨b,0,Z⟩ x).setCell ⟨b,1,Z⟩ y).setCell ⟨b,2,Z⟩ z).heap[g]? =w.heap[g]?:=by rw[aW _ _ _ _ h,aW _ _ _ _ h,aW _ _ _ _ h]
def MB(u:X2)(vt vl:aD)(w:X)(h:kW w u vt vl)(hs:∀x,x∈u.logs->x.length<=16777216)(hH:lJ w):eL PQ 48 #[Ku u vt vl] w λe w'=>∃a cap,e=bX (.agg #[N aE u.id,N aE u.time,.slice a (Dv.jR u).length cap])/\Made w' w.heap.size (.slice a (Dv.jR u).length cap) (Dv.jR u)/\cG w.heap.size w w':=by
 unfold Ku Dv.jR;obtain⟨ta,tc,rfl⟩:=Rd.slice h.1;obtain⟨la,lc,rfl⟩:=Rd.slice h.2.1;obtain⟨W,R⟩:∃W,W=(w.alloc (aL #[N aE u.id,N aE u.time,.slice ta u.txs.length tc,.slice la u.logs.length lc] 28)).alloc (aL #[N aE 0,N aE 0,aM Z 0 0] 102):=⟨_,rfl⟩
 have E:cG w.heap.size w W:=by rw[R];exact((aJ _ w).alloc jB _).alloc aC _
 have aa:W.heap.size=w.heap.size+2:=by rw[R];simp
 have zo:W.heap[w.heap.size]? =M (aL #[N aE u.id,N aE u.time,.slice ta u.txs.length tc,.slice la u.logs.length lc] 28 (0,0)):=by
  rw[R];exact(aZ _ _ _ aC).trans (cY _ _)
 have ro:W.heap[w.heap.size+1]? =M (aL #[N aE 0,N aE 0,aM Z 0 0] 102 (0,0)):=by
  rw[R];have:=cY (w.alloc (aL #[N aE u.id,N aE u.time,.slice ta u.txs.length tc,.slice la u.logs.length lc] 28)) (aL #[N aE 0,N aE 0,aM Z 0 0] 102);simp only[fB]at this;exact this
 obtain⟨z0,z1,-,z3⟩:=cells4 zo
 have z:=λV hV=>(Bo _ _ V (Rd.below (Rd.below h.2.1 E) hV) h.2.2.2 hs ((hH.below E hH.pos).below hV (by have:=hH.pos;omega))).mono
  (R':=λe w'=>∃a cap,e=bX (.slice a (u.logs.filter Dv.isDep).length cap)/\w'.cell? ⟨w.heap.size,0,Z⟩=M (N aE u.id)/\w'.cell? ⟨w.heap.size,1,Z⟩=M (N aE u.time)/\w'.cell? ⟨w.heap.size+1,0,Z⟩=M (N aE 0)/\w'.cell? ⟨w.heap.size+1,1,Z⟩=M (N aE 0)/\w'.cell? ⟨w.heap.size+1,2,Z⟩=M (aM Z 0 0)/\(∀q,w'.frozen? ⟨w.heap.size+1,q,Z⟩=aR)/\cJ (Made w' W.heap.size (.slice a (u.logs.filter Dv.isDep).length cap) (u.logs.filter Dv.isDep)/\cG W.heap.size W w'/\w'.heap[w.heap.size+1]? =M (aL #[N aE 0,N aE 0,aM Z 0 0] 102 (0,0))))
  (λe w' ⟨a,cap,p1,p2,p3⟩=>by
   have q3:=hV.trans (p3.mono hV.size);have qz:w'.heap[w.heap.size]? =_:=(q3.block _ aA).trans zo;have qr:w'.heap[w.heap.size+1]? =_:=(q3.block _ aA).trans ro;refine⟨a,cap,p1,by rw[aI qz];rfl,by rw[aI qz];rfl,by rw[aI qr];rfl,by rw[aI qr];rfl,by rw[aI qr];rfl,aQ qr,⟨p2.1,λg Y=>bH hV.size (p2.2 g Y)⟩,q3,qr⟩)
 have I:cJ _:=z;have Hb:cJ _:=E;have J:=aJ W.heap.size W;clear z h hs hH E zo ro;go_enter (fq Tryz.func48 rfl),Tryz.ntmps48;go_upto_region 1 with fail;rw[<-R];clear R;go_region_with (go_at_call 66;(refine aT (I.out _ ?_) ?_;(first|exact J|exact J.drew|exact below_drewN J _);rintro e w5 ⟨ra,rc,rfl,f0,f1,r0,r1,r2,rz,H5⟩))
 all_goals
  go_wp2_with fail;obtain⟨p1,p2,p3⟩:=H5.out;refine bodyPost_ret (v:=.agg _) (by simp[results,Tryz.results48,go_sem,r0,r1,r2]) rfl ⟨ra,rc,rfl,?_,?_⟩
  .exact⟨p1.1.kept (λg Y=>Et _ _ _ _ (by have:=p1.2 g Y;omega)),λg Y=>by have:=p1.2 g Y;omega⟩
  .exact Hb.out.trans ((p2.mono Hb.out.size).trans ⟨rfl,rfl,rfl,aC,λq hq=>Et _ _ _ _ aA⟩)
def jP(c:Cf)(vu:aD)(nb:Nat)(vo vw:aD)(cnt ep sq:Int):Array aD:=#[N .u32 c.inbox,N .u32 c.batcher,N aE c.timeout,N aE c.window,N aE c.drift,N aE c.step,N aE c.most,vu,.map (M nb),vo,vw,N aE cnt,N aE ep,N aE sq]
def new_any(c:Cf)(w:X):eL PQ 30 #[.agg (jF c)] w λe w'=>e=bX (aG (M ⟨w.heap.size+2,0,Z⟩))/\w'=((w.alloc (aL (jF c) 24)).alloc (.map #[] 0)).alloc (aL (jP c (aM Z 0 0) (w.heap.size+1) (aM Z 0 0) (aM Z 0 0) 0 0 0) 100):=by unfold jF jP;go_enter (fq Tryz.func30 rfl),Tryz.ntmps30;have z:=@run_makeMap PQ;go_wp2_with fail;go_ret;exact⟨rfl,rfl⟩
open Dv (X2 Cf Ba)
section
variable {w:X}{kb cnt ep e:Nat}
abbrev PB:=Int×Int×aD
variable {us:List PB}
def qE(p:PB):List aD:=[N aE p.1,N aE p.2.1,p.2.2]
structure Look(w:X)(kb:Nat)(c:Cf)(us:List PB)(cnt ep:Nat):Prop where
 obj:∃vu nb vo vw sq,w.heap[kb]? =M (aL (jP c vu nb vo vw cnt ep sq) 100 (0,0))/\Rd w 3 vu us.length (us.flatMap qE)
 times:∀p,p∈us->0<=p.2.1/\p.2.1<=4294967296
 step:0<=c.step/\c.step<=20
 drift:0<=c.drift/\c.drift<=100
 window:0<=c.window/\c.window<=8
 cnt:cnt<=4294967296
 len:us.length<=4294967296
def Look.below{w':X}{c:Cf}(h:Look w kb c us cnt ep)(E:cG w.heap.size w w'):Look w' kb c us cnt ep:=by obtain⟨vu,nb,vo,vw,sq,z,h2⟩:=h.obj;exact⟨⟨vu,nb,vo,vw,sq,(E.block _ (jE z)).trans z,h2.below E⟩,h.times,h.step,h.drift,h.window,h.cnt,h.len⟩
def Look.drewN{c:Cf}(h:Look w kb c us cnt ep)(m:Nat):Look (w.drewN m) kb c us cnt ep:=h.below (below_drewN (aJ _ _) _)
def lW(c:Cf)(us:List PB)(cnt:Nat):Int:=(us.getD 0 (0,0,.nilFunc)).2.1+cnt*c.step
def Ej(kb:Nat)(c:Cf)(us:List PB)(cnt ep:Nat)(w:X)(h:Look w kb c us cnt ep)(Y:0<us.length):eL PQ 127 #[aG (M ⟨kb,0,Z⟩)] w λe w'=>e=bX (N aE (lW c us cnt))/\∃m,w'=w.drewN m:=by
 obtain⟨vu,nb,vo,vw,sq,I,J⟩:=h.obj;obtain⟨g,off,cap,rfl,ae,hg,hx⟩:=J.pos Y;obtain⟨p,hp⟩:∃p,us[0]? =M p:=⟨_,aO Y⟩
 have k1:w.cell? ⟨g,off+1,Z⟩=M (N aE p.2.1):=by
  have:=Rd.rec qE 3 (λ_=>rfl) J hp (i:=1) (u:=.int _ _) aA rfl;simpa using this
 have c7:w.cell? ⟨kb,7,Z⟩=M (aM (M ⟨g,off,Z⟩) us.length cap):=mZ I rfl;have c5:w.cell? ⟨kb,5,Z⟩=M (N aE c.step):=mZ I rfl;have c11:w.cell? ⟨kb,11,Z⟩=M (N aE cnt):=mZ I rfl;have aa:(0:Int)<(us.length:Int):=aA
 have ht:lW c us cnt=p.2.1+cnt*c.step:=by
  unfold lW;rw[aY,hp];rfl
 rw[ht];obtain⟨t1,t2⟩:=h.times p (aX hp);obtain⟨s1,s2⟩:=h.step;have hc:=h.cnt;obtain⟨z,E⟩:∃x,c.step=x:=⟨_,rfl⟩
 rw[E]at s1 s2 c5⊢;have m1:0<=(cnt:Int)*z:=Int.mul_nonneg aA s1
 have m2:(cnt:Int)*z<=85899345920:=by
  have h1:(cnt:Int)*z<=4294967296*z:=Int.mul_le_mul_of_nonneg_right aA s1;omega
 obtain⟨tp,R⟩:∃x,p.2.1=x:=⟨_,rfl⟩
 rw[R]at t1 t2 k1⊢;have af:IntKind.i64.wrap ((cnt:Int)*z)=(cnt:Int)*z:=by rw[gA];omega
 have ac:IntKind.i64.wrap (tp+(cnt:Int)*z)=tp+(cnt:Int)*z:=by rw[gA];omega
 clear h I J hx hp ht;go_enter (fq Tryz.func127 rfl),Tryz.ntmps127;go_upto_region 1 with fail;go_quiet (fail);go_wp2_with fail;go_ret;exact⟨rfl,_,rfl⟩
def Ag(us:List PB)(e:Nat):Int:=(us.getD e (0,0,.nilFunc)).2.1
def FQ(us:List PB)(e:Nat):Int:=(us.getD e (0,0,.nilFunc)).1
def uT{p:PB}(h:us[e]? =M p):Ag us e=p.2.1:=by unfold Ag;rw[aY,h];rfl
def Hu{p:PB}(h:us[e]? =M p):FQ us e=p.1:=by unfold FQ;rw[aY,h];rfl
def wQ(kb:Nat)(c:Cf)(us:List PB)(cnt ep:Nat)(w:X)(h:Look w kb c us cnt ep)(I:0<us.length):eL PQ 87 #[aG (M ⟨kb,0,Z⟩)] w λe w'=>e=bX (N aE ((us.length-1:Nat):Int))/\∃m,w'=w.drewN m:=by
 obtain⟨vu,nb,vo,vw,sq,z,E⟩:=h.obj;obtain⟨g,off,cap,rfl,R,hg,Y⟩:=E.pos I;have c7:w.cell? ⟨kb,7,Z⟩=M (aM (M ⟨g,off,Z⟩) us.length cap):=mZ z rfl;have J:=h.len;obtain⟨n,hn⟩:∃n,us.length=n+1:=⟨us.length-1,aA⟩
 rw[hn]at c7 J⊢;clear h z E Y;go_enter (fq Tryz.func87 rfl),Tryz.ntmps87;go_wp2_with fail;go_ret;refine⟨?_,0,rfl⟩;simp
def JD(kb:Nat)(c:Cf)(us:List PB)(cnt ep:Nat)(e:Nat)(t:Int)(w:X)(h:Look w kb c us cnt ep)(he:e<us.length):eL PQ 143 #[aG (M ⟨kb,0,Z⟩),N aE e,N aE t] w λx w'=>x=bX (cM (decide (Ag us e+c.drift<t)))/\∃m,w'=w.drewN m:=by
 obtain⟨vu,nb,vo,vw,sq,E,z⟩:=h.obj;obtain⟨g,off,cap,rfl,ae,hg,hx⟩:=z.pos aA;obtain⟨p,hp⟩:∃p,us[e]? =M p:=⟨_,aO he⟩
 have k1:w.cell? ⟨g,off+e*3+1,Z⟩=M (N aE p.2.1):=by
  have:=Rd.rec qE 3 (λ_=>rfl) z hp (i:=1) (u:=.int _ _) aA rfl;rw[<-dV]at this;exact this
 have c7:w.cell? ⟨kb,7,Z⟩=M (aM (M ⟨g,off,Z⟩) us.length cap):=mZ E rfl;have c4:w.cell? ⟨kb,4,Z⟩=M (N aE c.drift):=mZ E rfl;have aa:(e:Int)<us.length:=aA
 rw[uT hp];obtain⟨t1,t2⟩:=h.times p (aX hp);obtain⟨s1,s2⟩:=h.drift;obtain⟨I,Y⟩:∃x,c.drift=x:=⟨_,rfl⟩
 rw[Y]at s1 s2 c4⊢;obtain⟨J,R⟩:∃x,p.2.1=x:=⟨_,rfl⟩
 rw[R]at t1 t2 k1⊢;have ac:IntKind.i64.wrap (J+I)=J+I:=by rw[gA];omega
 obtain⟨r,z⟩:∃r,decide (J+I<t)=r:=⟨_,rfl⟩
 rw[z];have Hr:cJ _:=z;clear h E hx hp z;go_enter (fq Tryz.func143 rfl),Tryz.ntmps143;go_upto_region 1 with fail;go_quiet (fail);go_wp2_with fail;go_ret;exact⟨by rw[<-Hr.out];rfl,_,rfl⟩
def P9(b:Ba)(v:aD):aD:=.agg #[N aE b.epoch,N aE b.id,N aE b.time,v,N aE b.place]
def waits(c:Cf)(us:List PB)(ep:Nat)(t:Int)(b:Ba)(k:Nat):Bool:=if ep+1<=us.length-1 then aR else(b.epoch == ep+1 || (k == 0&&decide (Ag us ep+c.drift<t)))
def Ik(kb:Nat)(c:Cf)(us:List PB)(cnt ep:Nat)(t:Int)(b:Ba)(va:Option Addr)(k vc:Nat)(w:X)(h:Look w kb c us cnt ep)(ao:ep<us.length):eL PQ 142 #[aG (M ⟨kb,0,Z⟩),P9 b (.slice va k vc),N aE t] w λx w'=>x=bX (.bool (waits c us ep t b k))/\cG w.heap.size w w':=by
 unfold P9;obtain⟨W,hW,ac,-⟩:=jD w #[N aE b.epoch,N aE b.id,N aE b.time,.slice va k vc,N aE b.place] 118;have z0:W.cell? ⟨w.heap.size,0,Z⟩=M (N aE b.epoch):=by rw[hW];simp
 have z3:W.cell? ⟨w.heap.size,3,Z⟩=M (.slice va k vc):=by rw[hW];simp
 have J:=h.below ac;obtain⟨vu,nb,vo,vw,sq,ho,_⟩:=J.obj;have af:W.cell? ⟨kb,12,Z⟩=M (N aE ep):=mZ ho rfl;have E:=λm=>wQ kb c us cnt ep _ (J.drewN m) aA;have z:=λV hV=>JD kb c us cnt ep ep t V (J.below hV) ao;obtain⟨n,hn⟩:∃n,us.length-1=n:=⟨_,rfl⟩
 obtain⟨q,hq⟩:∃q,decide (Ag us ep+c.drift<t)=q:=⟨_,rfl⟩
 obtain⟨r,hr⟩:∃r,waits c us ep t b k=r:=⟨_,rfl⟩
 have I:=hr;unfold waits at I;rw[hq,hn]at I;rw[hn]at E;rw[hq]at z;rw[hr];have hl:=h.len;have ag:cJ _:=E;have aa:cJ _:=z;have H:cJ _:=jy I ac;clear h J ho E z hr I hq ac;go_enter (fq Tryz.func142 rfl),Tryz.ntmps142;go_upto_region 1 with fail;rw[<-hW];clear hW;go_quiet ((go_at_call 87;exact Calls.quiet_of (ag.out _)));by_cases h1:ep+1<=n
 .have am:(ep:Int)+1<=(n:Int):=by omega
  go_wp2_with fail;go_ret;refine⟨?_,H.out.2.trans (below_drewN (aJ _ _) _)⟩;rw[<-H.out.1,ZD h1];rfl
 .have am:¬(ep:Int)+1<=(n:Int):=by omega
  go_upto_region 3 with fail;generalize hV:World.drewN _ _=V;have ah:cG W.heap.size W V:=by rw[<-hV];exact below_drewN (aJ _ _) _
  have y0:V.cell? ⟨w.heap.size,0,Z⟩=M (N aE b.epoch):=by rw[<-hV];exact z0
  have y3:V.cell? ⟨w.heap.size,3,Z⟩=M (.slice va k vc):=by rw[<-hV];exact z3
  have ap:V.cell? ⟨kb,12,Z⟩=M (N aE ep):=by rw[<-hV];exact af
  have ai:=λm=>aa.out _ (below_drewN ah m);have aj:cJ _:=ai;have Y:=H.out.2.trans (ah.mono H.out.2.size);clear hV z0 z3 af ai;have ae:=H.out.1;rw[Zs h1]at ae;have R:cJ _:=ae;clear ae;by_cases h2:b.epoch=ep+1
  .have ak:((b.epoch:Int) == (ep:Int)+1)=bB:=by rw[h2];simp
   have H2:cJ _:=h2;clear h2;go_quiet (fail);go_wp2_with fail;go_ret;refine⟨?_,Y.trans ⟨rfl,rfl,rfl,jB,λ_ _=>rfl⟩⟩;rw[<-R.out,H2.out];simp
  .have ak:((b.epoch:Int) == (ep:Int)+1)=aR:=ZS aA;have H2:cJ _:=h2;clear h2;by_cases h3:k=0
   .have an:((k:Int) == 0)=bB:=by rw[h3];rfl
    have H3:cJ _:=h3;clear h3;go_quiet ((go_at_call 143;exact Calls.quiet_of (aj.out _)));go_wp2_with fail;go_ret;refine⟨?_,Y.trans ⟨rfl,rfl,rfl,jB,λ_ _=>rfl⟩⟩;rw[<-R.out,ZS H2.out,H3.out];simp
   .have an:((k:Int) == 0)=aR:=ZS aA;have H3:cJ _:=h3;clear h3;go_quiet (fail);go_wp2_with fail;go_ret;refine⟨?_,Y.trans ⟨rfl,rfl,rfl,jB,λ_ _=>rfl⟩⟩;rw[<-R.out,ZS H2.out,ZS H3.out];simp
def allows(us:List PB)(ep:Nat)(t:Int)(b:Ba)(k:Nat):Bool:=k == 0&&(b.epoch != ep || decide (t<Ag us (ep+1)))
def Ap(kb:Nat)(c:Cf)(us:List PB)(cnt ep:Nat)(t:Int)(b:Ba)(va:Option Addr)(k vc:Nat)(w:X)(h:Look w kb c us cnt ep)(Y:k=0->b.epoch=ep->ep+1<us.length):eL PQ 144 #[aG (M ⟨kb,0,Z⟩),P9 b (.slice va k vc),N aE t] w λx w'=>x=bX (.bool (allows us ep t b k))/\cG w.heap.size w w':=by
 unfold P9;obtain⟨W,hW,E,-⟩:=jD w #[N aE b.epoch,N aE b.id,N aE b.time,.slice va k vc,N aE b.place] 118;have z0:W.cell? ⟨w.heap.size,0,Z⟩=M (N aE b.epoch):=by rw[hW];simp
 have z3:W.cell? ⟨w.heap.size,3,Z⟩=M (.slice va k vc):=by rw[hW];simp
 have aa:=h.below E;obtain⟨vu,nb,vo,vw,sq,ho,hr⟩:=aa.obj;have ah:W.cell? ⟨kb,12,Z⟩=M (N aE ep):=mZ ho rfl;have c7:W.cell? ⟨kb,7,Z⟩=M vu:=mZ ho rfl;obtain⟨r,z⟩:∃r,allows us ep t b k=r:=⟨_,rfl⟩
 rw[z];unfold allows at z;have H:cJ _:=jy z (jy E (jy hr Y));have hl:=h.len;clear h aa ho z E hr Y;go_enter (fq Tryz.func144 rfl),Tryz.ntmps144;go_upto_region 1 with fail;rw[<-hW];clear hW;by_cases h3:k=0
 .have af:((k:Int) == 0)=bB:=by rw[h3];rfl
  have J:cJ _:=h3;clear h3;by_cases h2:b.epoch=ep
  .have ae:((b.epoch:Int) != (ep:Int))=aR:=by rw[h2];simp
   have ac:=H.out.2.2.2 J.out h2;obtain⟨g,off,cap,rfl,ai,hg,hx⟩:=H.out.2.2.1.pos aA;obtain⟨p,hp⟩:∃p,us[ep+1]? =M p:=⟨_,aO ac⟩
   have k1:W.cell? ⟨g,off+(ep+1)*3+1,Z⟩=M (N aE p.2.1):=by
    have:=Rd.rec qE 3 (λ_=>rfl) H.out.2.2.1 hp (i:=1) (u:=.int _ _) aA rfl;rw[<-dV]at this;exact this
   have ag:(ep:Int)+1<(us.length:Int):=aA
   have I:=uT hp;obtain⟨tp,R⟩:∃x,p.2.1=x:=⟨_,rfl⟩
   rw[R]at k1 I;have H2:cJ _:=jy h2 I;clear h2 hx hp R I;go_quiet (fail);go_wp2_with fail;go_ret;refine⟨?_,H.out.2.1.trans ⟨rfl,rfl,rfl,jB,λ_ _=>rfl⟩⟩;rw[<-H.out.1,H2.out.2,J.out,H2.out.1];simp
  .have ae:((b.epoch:Int) != (ep:Int))=bB:=by
    rw[bne_iff_ne];omega
   have H2:cJ _:=h2;clear h2;go_quiet (fail);go_wp2_with fail;go_ret;refine⟨?_,H.out.2.1.trans ⟨rfl,rfl,rfl,jB,λ_ _=>rfl⟩⟩;rw[<-H.out.1,J.out,bne_iff_ne.2 H2.out];simp
 .have af:((k:Int) == 0)=aR:=ZS aA;have J:cJ _:=h3;clear h3;go_quiet (fail);go_wp2_with fail;go_ret;refine⟨?_,H.out.2.1.trans ⟨rfl,rfl,rfl,jB,λ_ _=>rfl⟩⟩;rw[<-H.out.1,ZS J.out];simp
end
end Hm
