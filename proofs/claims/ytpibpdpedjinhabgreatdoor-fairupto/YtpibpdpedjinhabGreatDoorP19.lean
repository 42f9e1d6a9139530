import Derived.Test.YtpibpdpedjinhabGreatDoorP18
import Derived.Shelf.Strings.Builder2
import Derived.Shelf.Strings.BuilderK
import Derived.Shelf.Strings.Repeat
import Derived.Shelf.Strconv.Itoa0
import Derived.Laws.ResultCell
set_option maxRecDepth 100000
set_option maxHeartbeats 4000000
set_option linter.all false
open BitVec renaming ofInt->np,ofInt_natCast->nW,toNat_ofNat->oi
open Bool renaming false->aR,true->bB
open Go renaming Calls->eL,Value->aD,World->X,bodyPost_ret->cN,heap_alloc_new->cY,run_underlying->eB
open Go.Ending renaming returned->bX
open Go.Instr renaming index->lj
open Go.IntKind renaming i64->aE,u32->dT,u64->pw
open Go.Lib renaming byteCells->kA,byteCells_length->oo
open Go.Obj renaming cells->aL
open Go.Proofs.Tryz renaming results151->kh,results158->my,underlying199->gE,underlying5->gP,underlying9->eI
open Go.RowKit renaming Below->cG,Hid->cJ
open Go.Value renaming agg->gR,bool->cM,int->N,ownBlock->eE,pointer->aG,slice->aM,string->bE,tuple->cP
open Option renaming none->Z,some->M
open Or renaming inl->bN,inr->cF
namespace Go.Proofs.YtpibpdpedjinhabGreatDoor
namespace Hm
open Go.RowKit Go.Joins Go.Shelf
section
variable {i:Im.It}
def bits_or_u64_nat(a b:Nat)(E:a<18446744073709551616)(I:b<18446744073709551616):bits .or pw (a:Int) (b:Int)=((a |||b:Nat):Int):=by
 have J:a |||b<2 ^ 64:=Nat.or_lt_two_pow aA aA
 have z:(np 64 (a:Int)).toNat=a:=by
  rw[nW,oi];exact Nat.mod_eq_of_lt aA
 have h2:(np 64 (b:Int)).toNat=b:=by
  rw[nW,oi];exact Nat.mod_eq_of_lt aA
 show IntKind.u64.wrap ((np 64 (a:Int) |||BitVec.ofInt 64 (b:Int)).toNat:Int)=_
 rw[BitVec.toNat_or,z,h2,IntKind.wrap_u64];omega
def A8(s:List UInt8)(k:Nat)(hk:k<s.length):Im.val (s.take (k+1)) 0=256*Im.val (s.take k) 0+(s.getD k 0).toNat:=by
 rw[eY hk,Im.val_append];simp only[Im.val];rw[aY,aO hk];simp
 try omega
def sF:∀(s:List UInt8)(n:Nat),Im.val s n<(n+1)*256 ^ s.length
 |[],n=>by simp[Im.val]
 |x::s,n=>by
  have:=sF s (256*n+x.toNat);have z:=x.toNat_lt;simp only[Im.val,aU,Nat.pow_succ];refine aP this ?_;rw[Nat.mul_comm (256 ^ s.length) 256,<-Nat.mul_assoc];exact fK _ aA
def WR:∀(s:List UInt8)(n:Nat),n*256 ^ s.length<=Im.val s n
 |[],n=>by simp[Im.val]
 |x::s,n=>by
  have:=WR s (256*n+x.toNat);simp only[Im.val,aU,Nat.pow_succ];refine bH ?_ this;rw[Nat.mul_comm (256 ^ s.length) 256,<-Nat.mul_assoc];exact fK _ aA
def Uz(s:List UInt8)(hs:s.length<=8):decide (4611686018427387903<Im.val s 0)=(s.length == 8&&decide (64<=(s.getD 0 0).toNat)):=by
 by_cases z:s.length=8
 .cases s with
  |nil=>simp at z
  |cons x s=>
   have I:s.length=7:=by simpa using z
   have E:=sF s x.toNat;have h2:=WR s x.toNat;rw[I]at E h2;have e:Im.val (x::s) 0=Im.val s x.toNat:=by simp[Im.val]
   rw[e,z];simp only[List.getD_cons_zero,beq_self_eq_true,Bool.true_and];exact decide_eq_decide.2 aA
 .have E:=sF s 0;have h2:(256:Nat) ^ s.length<=256 ^ 7:=iK aB aA;rw[show(s.length == 8)=aR from ZS z,Bool.false_and];exact ZZ aA
def aeV(o:Option Nat):aD:=cP #[N aE ((o.getD 0:Nat):Int),.bool o.isSome]
def Bj(h:i.list=bB\/8<i.bytes.length\/(i.bytes≠[]/\(i.bytes.getD 0 0)=0)):Dv.value i=Z:=by
 unfold Dv.value;rw[ZD];obtain h|h|⟨z,h2⟩:=h
 .simp[h]
 .simp[h]
 .grind
def KJ(z:i.list=aR)(h2:i.bytes.length<=8)(h3:i.bytes=[]\/(i.bytes.getD 0 0)≠0):Dv.value i=if 4611686018427387903<Im.val i.bytes 0 then Z else M (Im.val i.bytes 0):=by
 have E:=Uz _ h2;unfold Dv.value;rw[z,<-E,ZZ (show ¬8<i.bytes.length by omega)]
 have:(i.bytes != []&&i.bytes.getD 0 0 == 0)=aR:=by
  obtain h3|h3:=h3
  .rw[h3];rfl
  .grind
 rw[this];simp
def sQ(i:Im.It)(c2:aD)(w:X)(av:∃a n cap,c2=.slice a n cap):eL PQ 125 #[gR #[.bool i.list,bE ⟨i.bytes.toArray⟩,c2]] w λe w'=>e=bX (aeV (Dv.value i))/\cG w.heap.size w w':=by
 obtain⟨a,n,cap,rfl⟩:=av;obtain⟨D,hD⟩:∃D:ByteArray,(⟨i.bytes.toArray⟩:ByteArray)=D:=⟨_,rfl⟩
 have I:D.data.toList=i.bytes:=by rw[<-hD]
 have J:D.size=i.bytes.length:=by rw[<-hD];rfl
 rw[hD];obtain⟨R,hR⟩:∃R,Dv.value i=R:=⟨_,rfl⟩
 rw[hR];obtain⟨li,E⟩:∃li,i.list=li:=⟨_,rfl⟩
 rw[E];obtain⟨W,hW,aa,-⟩:=jD w #[.bool li,bE D,.slice a n cap] 164;have z0:W.cell? ⟨w.heap.size,0,Z⟩=M (.bool li):=by rw[hW];simp
 have z1:W.cell? ⟨w.heap.size,1,Z⟩=M (bE D):=by rw[hW];simp
 have H:cJ _:=jy I (jy J (jy hR (jy E aa)));cases li
 .by_cases h8:D.size<=8
  .have az:¬(8:Int)<(D.size:Int):=by omega
   by_cases he:i.bytes=[]
   .have au:D=⟨#[]⟩:=by rw[<-hD,he]
    have z:=KJ E aA (bN he);rw[hR,he]at z;subst au;have Hv:cJ _:=z;clear hD I J hR E aa z he;go_enter (fq Tryz.func125 rfl),Tryz.ntmps125;go_upto_region 1 with fail;rw[<-hW];clear hW;have ah:=λu:X=>Lib.run_convert_string_bytes (P:=PQ) u 9 199 5 ⟨#[]⟩ (uq eI) (uq gE) (uq gP);go_wp2_with fail;obtain⟨Y,hY⟩:∃Y:X,Y=Lib.bytesWorld W 5 ⟨#[]⟩:=⟨_,rfl⟩
    have ac:cG w.heap.size w Y:=by rw[hY];exact Fr.below_bytesWorld H.out.2.2.2.2 H.out.2.2.2.2.size _ _
    rw[<-hY];have HY:cJ _:=ac;clear hY ac ah;go_loopg [5,7,29] 0 (λg v5 _ t wx=>v5=N pw 0/\t=N aE 0/\wx=Y)
    case atStart=>simp
    case round=>
     obtain⟨rfl,rfl,rfl⟩:=hrel;go_wp2_with fail;go_ret2;refine⟨?_,HY.out⟩;rw[Hv.out];rfl
   .have h0:0<D.size:=by
     rw[J];exact List.length_pos_iff.2 he
    have ar:D.toList.isEmpty=aR:=by rw[Fr.toList_empty];exact ZZ aA
    obtain⟨x,hx⟩:∃x:UInt8,i.bytes.getD 0 0=x:=⟨_,rfl⟩
    have ae:D[0]'h0=x:=by
     rw[<-hx,<-I,aY]
     have:D.data.toList[0]? =M (D[0]'h0):=by
      rw[aO (by simpa using h0)];rfl
     rw[this];rfl
    by_cases hz:x=0
    .have z:=Bj (i:=i) (cF (cF ⟨he,by rw[hx];exact hz⟩));rw[hR]at z;subst z;have ak:(((D[0]'h0).toNat:Int) == 0)=bB:=by rw[ae,hz];rfl
     clear hD I J hR E aa hx ae hz he;go_enter (fq Tryz.func125 rfl),Tryz.ntmps125;go_upto_region 1 with fail;rw[<-hW];clear hW;go_wp2_with fail;go_ret2;exact⟨rfl,H.out.2.2.2.2⟩
    .have z:=KJ E aA (cF (by rw[hx];exact hz));rw[hR,<-I]at z
     have ak:(((D[0]'h0).toNat:Int) == 0)=aR:=by
      rw[ae];refine ZS (λe=>hz ?_);have:x.toNat=0:=aA
      exact jv.1 (by rw[this];rfl)
     have Hv:cJ _:=z;clear hD I J hR E aa hx ae hz he z;go_enter (fq Tryz.func125 rfl),Tryz.ntmps125;go_upto_region 1 with fail;rw[<-hW];clear hW;have ah:=λu:X=>Lib.run_convert_string_bytes (P:=PQ) u 9 199 5 D (uq eI) (uq gE) (uq gP);go_wp2_with fail;obtain⟨Y,hY⟩:∃Y:X,Y=Lib.bytesWorld W 5 D:=⟨_,rfl⟩
     have ac:cG w.heap.size w Y:=by rw[hY];exact Fr.below_bytesWorld H.out.2.2.2.2 H.out.2.2.2.2.size _ _
     have ap:∀k,k<D.size->Y.cell? ⟨W.heap.size,k,Z⟩=M (N .u8 (D.data.toList.getD k 0).toNat):=λk hk=>by rw[hY];exact Lib.bytesWorld_cell W 5 D k hk
     rw[<-hY];have HY:cJ _:=jy ap ac;clear hY ap ac ah ak ar;generalize grownCap W D.size 0 5=gc;go_loopg [5,7,29] D.size (λg v5 _ t wx=>∃k:Nat,k<=D.size/\t=N aE k/\v5=N pw (Im.val (D.data.toList.take k) 0:Nat)/\g=D.size-k/\wx=Y)
     case atStart=>exact⟨0,dL _,rfl,rfl,rfl,rfl⟩
     case round=>
      obtain⟨k,hk,rfl,rfl,rfl,rfl⟩:=hrel;by_cases aq:k<D.size
      .have aj:(k:Int)<D.size:=by omega
       have hc:=HY.out.1 k aA;have ag:=A8 D.data.toList k (by rw[<-bD];exact aq);generalize hb:(D.data.toList.getD k 0).toNat=b at hc ag;have ay:b<256:=by rw[<-hb];exact UInt8.toNat_lt _
       have a1:Im.val (D.data.toList.take k) 0<72057594037927936:=by
        have h1:=sF (D.data.toList.take k) 0;have h2:(256:Nat) ^ (D.data.toList.take k).length<=256 ^ 7:=iK aB (by grind);omega
       generalize ao:Im.val (D.data.toList.take (k+1)) 0=V' at ag;have aw:cJ _:=ao;clear ao;generalize Im.val (D.data.toList.take k) 0=V at *;have Hb:cJ _:=hb;clear hb;go_wp2_with fail
       rw[show bits .or pw ((V:Int)*256) (b:Int)=V' from by
        rw[show(V:Int)*256=((V*256:Nat):Int) from by omega,bits_or_u64_nat _ _ aA aA,Fr.AO V b ay,ag]]
       go_roundg (D.size-(k+1))
       case measure=>omega
       case rel=>
        refine⟨_,aA,by go_num,?_,rfl,rfl⟩;rw[aw.out]
      .have aj:¬(k:Int)<D.size:=by omega
       obtain rfl:k=D.size:=aA
       have z:=Hv.out;rw[show D.data.toList.take D.size=D.data.toList from eH aC];have ai:=sF D.data.toList 0;have af:(256:Nat) ^ D.data.toList.length<=256 ^ 8:=iK aB (by rw[<-bD];exact h8);generalize Im.val D.data.toList 0=V at *;have a0:V<18446744073709551616:=aA
       by_cases am:4611686018427387903<V
       .rw[ZD am]at z;have an:(4611686018427387903:Int)<(V:Int):=by omega
        subst z;clear ai af;go_wp2_with fail;go_ret2;exact⟨rfl,HY.out.2⟩
       .rw[Zs am]at z;have an:¬(4611686018427387903:Int)<(V:Int):=by omega
        subst z;clear ai af;go_wp2_with fail;go_ret2;exact⟨rfl,HY.out.2⟩
  .have az:(8:Int)<(D.size:Int):=by omega
   have z:=Bj (i:=i) (cF (bN aA));rw[hR]at z;subst z;clear hD I J hR E aa;go_enter (fq Tryz.func125 rfl),Tryz.ntmps125;go_upto_region 1 with fail;rw[<-hW];clear hW;go_wp2_with fail;go_ret2;exact⟨rfl,H.out.2.2.2.2⟩
 .have z:=Bj (i:=i) (bN E);rw[hR]at z;subst z;clear hD I J hR E aa;go_enter (fq Tryz.func125 rfl),Tryz.ntmps125;go_upto_region 1 with fail;rw[<-hW];clear hW;go_wp2_with fail;go_ret2;exact⟨rfl,H.out.2.2.2.2⟩
end
open Go.RowKit Go.Joins
open Dv (Cf X2 Tx)
section
variable {w:X}{g off cap j:Nat}{α:Type}
def ng(n a b:Int)(w:X):eL PQ 35 #[N aE n,N aE a,N aE b] w λe w'=>e=bX (cM (decide (a<=n)&&decide (n<=b)))/\w'=w:=by
 obtain⟨r,z⟩:∃r,(decide (a<=n)&&decide (n<=b))=r:=⟨_,rfl⟩
 rw[z];have E:cJ _:=z;clear z;go_enter (fq Tryz.func35 rfl),Tryz.ntmps35;by_cases I:a<=n
 .by_cases h2:n<=b
  .go_wp2_with fail;go_ret;refine⟨?_,rfl⟩;rw[<-E.out,Z0 aA,Z0 aA];rfl
  .go_wp2_with fail;go_ret;refine⟨?_,rfl⟩;rw[<-E.out,Z0 aA,ZZ aA];rfl
 .go_wp2_with fail;go_ret;refine⟨?_,rfl⟩;rw[<-E.out,ZZ aA];rfl
def jF(c:Cf):Array aD:=#[N dT c.inbox,N dT c.batcher,N aE c.timeout,N aE c.window,N aE c.drift,N aE c.step,N aE c.most]
def wX(c:Cf)(w:X):eL PQ 17 #[.agg (jF c)] w λe w'=>e=bX (.bool (Dv.jK c))/\cG w.heap.size w w':=by
 obtain⟨ib,ba,t,z,I,st,E⟩:=c;unfold jF;dsimp only;have hb:cG w.heap.size w (w.alloc (aL #[N dT ib,N dT ba,N aE t,N aE z,N aE I,N aE st,N aE E] 24)):=(aJ _ w).alloc jB _;have Hb:cJ _:=hb;clear hb;go_enter (fq Tryz.func17 rfl),Tryz.ntmps17;have Y:=λw=>ng t 1 8 w;have W2:=λw=>ng z 1 8 w;have W3:=λw=>ng I 0 100 w;have W4:=λw=>ng st 2 20 w;have W5:=λw=>ng E 1 4096 w;obtain⟨b1,e1⟩:∃b,(decide (1<=t)&&decide (t<=8))=b:=⟨_,rfl⟩
 obtain⟨b2,R⟩:∃b,(decide (1<=z)&&decide (z<=8))=b:=⟨_,rfl⟩
 obtain⟨b3,e3⟩:∃b,(decide (0<=I)&&decide (I<=100))=b:=⟨_,rfl⟩
 obtain⟨b4,e4⟩:∃b,(decide (2<=st)&&decide (st<=20))=b:=⟨_,rfl⟩
 obtain⟨b5,J⟩:∃b,(decide (1<=E)&&decide (E<=4096))=b:=⟨_,rfl⟩
 have hr:Dv.jK ⟨ib,ba,t,z,I,st,E⟩=(b1&&b2&&b3&&b4&&b5):=by
  unfold Dv.jK;rw[<-e1,<-R,<-e3,<-e4,<-J];simp only[Bool.decide_and,Bool.and_assoc]
 rw[e1]at Y;rw[R]at W2;rw[e3]at W3;rw[e4]at W4;rw[J]at W5;have H1:cJ _:=Y;have H2:cJ _:=W2;have H3:cJ _:=W3;have H4:cJ _:=W4;have H5:cJ _:=W5;rw[hr];clear hr e1 R e3 e4 J Y W2 W3 W4 W5;cases b1<;>cases b2<;>cases b3<;>cases b4<;>cases b5
 all_goals
  go_wp2_with (go_at_call 35;first|(with_reducible refine aT (H1.out _) ?_;rintro e w2 ⟨rfl,rfl⟩)|(with_reducible refine aT (H2.out _) ?_;rintro e w2 ⟨rfl,rfl⟩)|(with_reducible refine aT (H3.out _) ?_;rintro e w2 ⟨rfl,rfl⟩)|(with_reducible refine aT (H4.out _) ?_;rintro e w2 ⟨rfl,rfl⟩)|(with_reducible refine aT (H5.out _) ?_;rintro e w2 ⟨rfl,rfl⟩)|fail)
  go_ret;exact⟨rfl,Hb.out⟩
def oO(t:Tx):List aD:=[N dT t.fr,N dT t.dest,bE ⟨t.data.toArray⟩]
def nT(s:List UInt8):aD:=bE ⟨s.toArray⟩
def yc(w:X)(v:aD)(l:List Tx):Prop:=Rd w 3 v l.length (l.flatMap oO)
def qH(w:X)(v:aD)(l:List (List UInt8)):Prop:=Rd w 1 v l.length (l.map nT)
def yc.get{l:List Tx}(h:yc w (aM (M ⟨g,off,Z⟩) l.length cap) l){t:Tx}(z:l[j]? =M t):w.cell? ⟨g,off+j*3,Z⟩=M (N dT t.fr)/\w.cell? ⟨g,off+j*3+1,Z⟩=M (N dT t.dest)/\w.cell? ⟨g,off+j*3+2,Z⟩=M (bE ⟨t.data.toArray⟩):=by
 have k:=λi u hi (E:(oO t)[i]? =M u)=>Rd.rec oO 3 (λ_=>rfl) h z hi E;exact⟨k 0 _ aA rfl,k 1 _ aA rfl,k 2 _ aA rfl⟩
def qH.get{l:List (List UInt8)}(h:qH w (aM (M ⟨g,off,Z⟩) l.length cap) l){s:List UInt8}(z:l[j]? =M s):w.cell? ⟨g,off+j,Z⟩=M (bE ⟨s.toArray⟩):=by have R:=(aN.1 z).1;obtain⟨g',I,J,E,_,_,Y⟩:=Rd.pos h aA;simp only[Value.slice.injEq,aK,Addr.mk.injEq,and_true,true_and]at E;obtain⟨⟨rfl,rfl⟩,rfl⟩:=E;exact Y j _ (by rw[fE,z];rfl)
def Rd.cases{s n:Nat}{v:aD}{xs:List aD}(h:Rd w s v n xs):(∃a cap,n=0/\v=.slice a 0 cap)\/(∃g off cap,0<n/\v=aM (M ⟨g,off,Z⟩) n cap):=by
 obtain z|z:=gQ n
 .obtain⟨a,cap,rfl⟩:=h.slice;exact bN ⟨a,cap,z,by rw[z]⟩
 .obtain⟨g,off,cap,E,_⟩:=h.pos z;exact cF ⟨g,off,cap,z,E⟩
def P6(t:Tx)(w:X):eL PQ 58 #[gR #[N dT t.fr,N dT t.dest,bE ⟨t.data.toArray⟩]] w λe w'=>e=bX (cM (decide (2000<t.data.length)))/\cG w.heap.size w w':=by
 obtain⟨D,z⟩:∃D:ByteArray,(⟨t.data.toArray⟩:ByteArray)=D:=⟨_,rfl⟩
 have hs:D.size=t.data.length:=by rw[<-z];rfl
 rw[z,<-hs];have E:cJ _:=λo=>(aJ _ w).alloc jB o;clear z hs;go_enter (fq Tryz.func58 rfl),Tryz.ntmps58;go_wp2_with fail;go_ret;exact⟨by simp only[Int.ofNat_lt.symm];rfl,E.out _⟩
def Ou(s:List UInt8)(w:X):eL PQ 60 #[bE ⟨s.toArray⟩] w λe w'=>e=bX (cM (decide (2000<s.length)))/\cG w.heap.size w w':=by
 obtain⟨D,z⟩:∃D:ByteArray,(⟨s.toArray⟩:ByteArray)=D:=⟨_,rfl⟩
 have hs:D.size=s.length:=by rw[<-z];rfl
 rw[z,<-hs];clear z hs;go_enter (fq Tryz.func60 rfl),Tryz.ntmps60;go_wp2_with fail;go_ret;exact⟨by simp only[Int.ofNat_lt.symm];rfl,aJ _ _⟩
def idx{α:Type}(p:α->Bool)(l:List α):Int:=match l.findIdx? p with
 |some i=>i
 |none=>-1
def xB{p:α->Bool}{l:List α}(h:∀(j:Nat)(x:α),l[j]? =M x->p x=aR):idx p l=-1:=by unfold idx;rw[List.findIdx?_eq_none_iff.2 (λx E=>by obtain⟨j,z⟩:=List.getElem?_of_mem E;exact h j x z)]
def xR{p:α->Bool}{l:List α}{i:Nat}{x:α}(E:l[i]? =M x)(I:p x=bB)(h:∀(j:Nat)(y:α),j<i->l[j]? =M y->p y=aR):idx p l=i:=by
 unfold idx;obtain⟨z,rfl⟩:=aN.1 E
 rw[iZ.2 ⟨z,I,λj J=>by
  grind⟩]
def Rl(p:α->Bool)(l:List α):decide (0<=idx p l)=l.any p:=by
 unfold idx;cases h:l.findIdx? p with
 |none=>
  grind
 |some i=>
  obtain⟨z,E,_⟩:=iZ.1 h;rw[Z0 aC];symm;rw[List.any_eq_true];exact⟨_,List.getElem_mem z,E⟩
end
end Hm
section
open Go.RowKit Go.Joins
def toList_empty(s:ByteArray):s.toList.isEmpty=decide (s.size=0):=by rw[ByteArray.toList_eq,bD];cases s.data.toList<;>simp
def Az(u:X)(s:ByteArray)(i:Int)(j:Nat)(z:j<s.size)(e:i=(j:Int)):(lj 9 (bE s) (N aE i)).run PQ u=.ok (N .u8 (s[j].toNat:Int)) u:=by subst e;rw[run_index_string u _ s aE _ (uq eI),dif_pos aA];simp
open Go.Shelf
open Go.RowKit
def ren:Go.Shelf.Ren:=⟨fun|105=>139|212=>148|99=>149|165=>150|166=>119|170=>122|169=>120|263=>154|264=>155|206=>156|240=>138|241=>157|276=>147|277=>160|n=>n,fun|9=>9|3=>3|4=>4|20=>20|0=>0|46=>185|109=>233|5=>5|72=>201|76=>88|51=>22|146=>243|53=>146|148=>245|70=>198|37=>199|75=>62|127=>223|164=>180|80=>155|n=>n,fun|n=>n⟩
def lays105:Go.Proofs.Lays.n105 PQ ren:={
 mixed:=XN
 f99:=(fq Tryz.func149 rfl).trans (Z1 M XN)
 f105:=(fq Tryz.func139 rfl).trans (Z1 M XN)
 f165:=(fq Tryz.func150 rfl).trans (Z1 M XN)
 f166:=(fq Tryz.func119 rfl).trans (Z1 M XN)
 f169:=(fq Tryz.func120 rfl).trans (Z1 M XN)
 f170:=(fq Tryz.func122 rfl).trans (Z1 M XN)
 f206:=(fq Tryz.func156 rfl).trans (Z1 M XN)
 f212:=(fq Tryz.func148 rfl).trans (Z1 M XN)
 f240:=(fq Tryz.func138 rfl).trans (Z1 M XN)
 f241:=(fq Tryz.func157 rfl).trans (Z1 M XN)
 f263:=(fq Tryz.func154 rfl).trans (Z1 M XN)
 f264:=(fq Tryz.func155 rfl).trans (Z1 M XN)
 f276:=(fq Tryz.func147 rfl).trans (Z1 M XN)
 f277:=(fq Tryz.func160 rfl).trans (Z1 M XN)
 t0:=(uq Tryz.underlying0)
 a0:=(iaq Tryz.isAgg0)
 z0:=(szq Tryz.sizeOf0)
 v0:=(zvq Tryz.zeroValue0)
 t3:=(uq Tryz.underlying3)
 a3:=(iaq Tryz.isAgg3)
 z3:=(szq Tryz.sizeOf3)
 v3:=(zvq Tryz.zeroValue3)
 t4:=(uq Tryz.underlying4)
 a4:=(iaq Tryz.isAgg4)
 z4:=(szq Tryz.sizeOf4)
 v4:=(zvq Tryz.zeroValue4)
 t5:=(uq gP)
 a5:=(iaq Tryz.isAgg5)
 z5:=(szq Tryz.sizeOf5)
 v5:=(zvq Tryz.zeroValue5)
 t9:=(uq eI)
 a9:=(iaq Tryz.isAgg9)
 z9:=(szq Tryz.sizeOf9)
 v9:=(zvq Tryz.zeroValue9)
 t20:=(uq Tryz.underlying20)
 a20:=(iaq Tryz.isAgg20)
 z20:=(szq Tryz.sizeOf20)
 v20:=(zvq Tryz.zeroValue20)
 t37:=(uq gE)
 a37:=(iaq Tryz.isAgg199)
 z37:=(szq Tryz.sizeOf199)
 v37:=(zvq Tryz.zeroValue199)
 t46:=(uq Tryz.underlying185)
 a46:=(iaq Tryz.isAgg185)
 z46:=(szq Tryz.sizeOf185)
 v46:=(zvq Tryz.zeroValue185)
 t51:=(uq Tryz.underlying22)
 a51:=(iaq Tryz.isAgg22)
 z51:=(szq Tryz.sizeOf22)
 v51:=(zvq Tryz.zeroValue22)
 t53:=(uq Tryz.underlying146)
 a53:=(iaq Tryz.isAgg146)
 z53:=(szq Tryz.sizeOf146)
 v53:=(zvq Tryz.zeroValue146)
 t70:=(uq Tryz.underlying198)
 a70:=(iaq Tryz.isAgg198)
 z70:=(szq Tryz.sizeOf198)
 v70:=(zvq Tryz.zeroValue198)
 t72:=(uq Tryz.underlying201)
 a72:=(iaq Tryz.isAgg201)
 z72:=(szq Tryz.sizeOf201)
 v72:=(zvq Tryz.zeroValue201)
 t75:=(uq Tryz.underlying62)
 a75:=(iaq Tryz.isAgg62)
 z75:=(szq Tryz.sizeOf62)
 v75:=(zvq Tryz.zeroValue62)
 t76:=(uq Tryz.underlying88)
 a76:=(iaq Tryz.isAgg88)
 z76:=(szq Tryz.sizeOf88)
 v76:=(zvq Tryz.zeroValue88)
 t109:=(uq Tryz.underlying233)
 a109:=(iaq Tryz.isAgg233)
 z109:=(szq Tryz.sizeOf233)
 v109:=(zvq Tryz.zeroValue233)
 t127:=(uq Tryz.underlying223)
 a127:=(iaq Tryz.isAgg223)
 z127:=(szq Tryz.sizeOf223)
 v127:=(zvq Tryz.zeroValue223)
 t146:=(uq Tryz.underlying243)
 a146:=(iaq Tryz.isAgg243)
 z146:=(szq Tryz.sizeOf243)
 v146:=(zvq Tryz.zeroValue243)
 t148:=(uq Tryz.underlying245)
 a148:=(iaq Tryz.isAgg245)
 z148:=(szq Tryz.sizeOf245)
 v148:=(zvq Tryz.zeroValue245)
 t164:=(uq Tryz.underlying180)
 a164:=(iaq Tryz.isAgg180)
 z164:=(szq Tryz.sizeOf180)
 v164:=(zvq Tryz.zeroValue180) }
def extra:Builder.Extra PQ ren:={
 sizeBuilder:=XN
 liesBuilder:=XN
 t5:=(uq gP)
 a5:=(iaq Tryz.isAgg5)
 z5:=(szq Tryz.sizeOf5)
 v5:=(zvq Tryz.zeroValue5)
 infoByte:=XN
 cellsByte:=XN
 sizeByte:=XN
 neB5:=by decide }
abbrev Zb(B b:Nat)(l:List UInt8)(w:X):Prop:=Lib.IsBuilderF 201 5 B b (kA l) w
def fresh(w:X):Zb w.heap.size w.heap.size [] (w.alloc (aL #[aG Z,aM Z 0 0] 201)):=Lib.IsBuilderF.of (Lib.fresh_isBuilder 201 5 w)
def agW(B b:Nat)(l:List UInt8)(w:X)(h:Zb B b l w):eL PQ 122 #[aG (M ⟨b,0,Z⟩)] w λe w'=>e=bX (N aE l.length)/\w'=w:=by
 have c:=Any.Builder_Len_f (ρ:=ren) { lays105 with } B b _ w h;rw[oo]at c;exact c
def AU(B b:Nat)(l:List UInt8)(w:X)(h:Zb B b l w)(z:B<=w.heap.size):eL PQ 120 #[aG (M ⟨b,0,Z⟩)] w λe w'=>e=bX (bE ⟨l.toArray⟩)/\Zb B b l w'/\cG B w w':=
 Any.Builder_String_any_f (ρ:=ren) { lays105 with } extra B b l w h z
def O1(B b:Nat)(l:List UInt8)(s:ByteArray)(w:X)(h:Zb B b l w)(I:l.length+s.size<=140737488355328)(J:B<=w.heap.size):eL PQ 119 #[aG (M ⟨b,0,Z⟩),bE s] w λe w'=>e=bX (cP #[N aE s.size,.nilIface])/\Zb B b (l++s.data.toList) w'/\cG B w w':=by
 refine(Any.Builder_WriteString_f (ρ:=ren) { lays105 with } extra B b _ s w h (by rw[oo];exact I) J).mono ?_;rintro e w' ⟨rfl,z,E⟩;refine⟨rfl,?_,E⟩;rw[Lib.strCells_eq,<-Lib.byteCells_append]at z;exact cF z
def repeated(s:ByteArray)(c:Nat)(w:X)(hc:c<=9223372036854775807)(z:s.size*c<=140737488355328):eL PQ 139 #[bE s,N aE c] w λe w'=>e=bX (bE ⟨(Lib.repeatL s.data.toList c).toArray⟩)/\cG w.heap.size w w':=
 Any.strings_Repeat (ρ:=ren) lays105 extra s c w hc z
def EL{B b:Nat}{l:List UInt8}{w w':X}(h:Zb B b l w)(J:cG w.heap.size w w'):Zb B b l w':=by
 have go:∀p,Lib.BuilderAtF 201 5 B b p (kA l) w->Lib.BuilderAtF 201 5 B b p (kA l) w':=by
  intro p hp;have E:=hp.lt;obtain⟨h1,v,h2,h3,h4⟩:=hp;have hk:=h3.lt;refine⟨h1,v,(J.block b E).trans h2,?_,h4⟩;obtain⟨g1,z⟩:=h3;refine⟨g1,?_⟩;obtain z|z:=z
  .exact bN z
  .obtain⟨g,cap,I,R,rfl,Y,q2,q3⟩:=z;exact cF ⟨g,cap,I,R,rfl,Y,(J.block g (hk g rfl).2).trans q2,q3⟩
 exact h.elim (λx=>bN (go _ x)) (λx=>cF (go _ x))
section
variable {w:X}
def lJ(w:X):Prop:=K3 w 1 0 (cM aR) (N .u8 128) (N .u8 183)/\K3 w 1 3 (cM bB) (N .u8 192) (N .u8 247)
def lJ.below{B:Nat}{w':X}(h:lJ w)(E:cG B w w')(z:1<B):lJ w':=⟨h.1.below E z,h.2.below E z⟩
def lJ.pos(h:lJ w):1<w.heap.size:=by
 have g:=h.1.1;obtain e|e:=gG 1 w.heap.size
 .exact e
 .unfold World.cell? at g;rw[Array.getElem?_eq_none (by simpa using e)]at g;simp at g
end
def JH{P:Program}(w:X)(base:Nat)(t ty e:TypeId)(i:TypeInfo)(z:aD)(size bytes:Nat)(ht:P.underlying t=M (.slice e))(hi:P.info? e=M i)(hz:i.zero=M z)(I:i.size=size)(ah:i.bytes=bytes)(ak:z.cells.size=size)(ai:0<size)(v:aD)(n:Nat)(xs:List aD)(aa:w.ownsRow base e size v n xs)(a:Addr)(m c:Nat)(E:List aD)(hm:0<m)(hl:E.length=m*size)(R:∀j u,E[j]? =M u->w.cell? (a.add j)=M u)(h1:∀u∈E,u.oneCell'=bB)(af:n+m<=maxLen)(Y:(n+m)*bytes<=140737488355328)(ae:base<=w.heap.size):∃v' w',(Builtin.append_ #[t,t] ty #[v,aM (M a) m c]).run P w=.ok v' w'/\w'.ownsRow base e size v' (n+m) (xs++E)/\w.grownBy w' v.ownBlock/\(v'.ownBlock=v.ownBlock\/∃g,v'.ownBlock=M g/\w.heap.size<=g):=by
 obtain⟨v',w',hr,h2,h3,h4⟩:=run_append_own (P:=P) w base t ty e i z size bytes ht hi hz I ah ak ai v n xs aa a m c E hl R h1 af Y ae;refine⟨v',w',hr,h2,h3,?_⟩;have am:n+m<=9223372036854775807:=by simp only[maxLen]at af;omega
 obtain⟨rfl,rfl⟩|⟨g,cap,ag,rfl,ar,hg,au,aq,ap,ao⟩:=aa.2
 .right;have hx:xs=[]:=bP (by simpa using aa.1);subst hx;obtain⟨v2,w2,J,g2,_,g4⟩:=run_append_own (P:=P) w _ t ty e i z size bytes ht hi hz I ah ak ai _ 0 [] (World.ownsRow_nil w _ e size) a m c E hl R h1 af Y jB;rw[hr]at J;simp only[Result.ok.injEq]at J;obtain⟨rfl,rfl⟩:=J;obtain⟨e1,_⟩|⟨g,cap,ag,rfl,an,_⟩:=g2.2
  .omega
  .exact⟨g,rfl,an⟩
 .by_cases ac:n+m<=cap
  .left;have aj:n*i.size+E.length<=ag.size:=by rw[hl,ap,I,<-iP];exact fK _ ac
   have J:=run_append_room (P:=P) w t ty e i ht hi g n cap ag hg a m c E (by rw[I];exact hl) R h1 ac aj;rw[hr]at J;simp only[Result.ok.injEq]at J;rw[J.1];rfl
  .right;subst I ah;have holds:=aa.cells (g:=g) rfl;have J:=run_append_grow (P:=P) w t ty e i z ht hi hz _ n cap xs aa.1 holds a m c E hl R aA aA (growslice_fits aA Y);rw[hr]at J;simp only[Result.ok.injEq]at J;exact⟨_,by rw[J.1];rfl,jB⟩
def Uw:(PQ.info? 164).map (λi=>(i.zero,i.size,i.bytes))=M (M (gR #[cM aR,bE ⟨#[]⟩,aM Z 0 0]),3,48):=XN
section
variable {w:X}{base e size n:Nat}{v:aD}{xs:List aD}
def own_below{w':X}(h:w.ownsRow base e size v n xs)(R:cG w.heap.size w w'):w'.ownsRow base e size v n xs:=by
 obtain⟨J,h2⟩:=h;refine⟨J,?_⟩;obtain h2|⟨g,cap,z,I,Y,E,r⟩:=h2
 .exact bN h2
 .exact cF ⟨g,cap,z,I,Y,(R.block g (jE E)).trans E,r⟩
def qZ(h:w.ownsRow base e size v n xs){g:Nat}(z:v.ownBlock=M g):base<=g/\g<w.heap.size:=by
 obtain⟨rfl,_⟩|⟨g',cap,E,rfl,J,I,_⟩:=h.2
 .simp[eE]at z
 .simp[eE]at z;subst z;exact⟨J,(jE I)⟩
def xs_len(h:w.ownsRow base e 3 v n xs):xs.length=n*3:=h.1
end
section
variable {w w':X}{n lo hi base e size lo' hi':Nat}{v:aD}{i:Im.It}{xs:List aD}{ks:List Im.It}
def Tr(w:X):Nat->Nat->Nat->aD->aD->aD->Im.It->Prop
 |0,_,_,_,_,_,_=>False
 |n+1,lo,hi,c0,c1,c2,i=>(c0=.bool i.list/\c1=bE ⟨i.bytes.toArray⟩)/\∃(xs:List aD)(L H:Nat->Nat),w.ownsRow lo 164 3 c2 i.kids.length xs/\(∀g,c2.ownBlock=M g->g<hi)/\
   (∀j,j<i.kids.length->lo<=L j/\L j<=H j/\H j<=hi/\(∀g,c2.ownBlock=M g->g<L j\/H j<=g))/\(∀a b,a<b->b<i.kids.length->H a<=L b)/\
   ∀(j:Nat)(J:j<i.kids.length),∃E I z,xs[j*3]? =M E/\xs[j*3+1]? =M I/\xs[j*3+2]? =M z/\Tr w n (L j) (H j) E I z (i.kids[j])
def Row(w:X)(n lo hi:Nat)(v:aD)(ks:List Im.It):Prop:=∃(xs:List aD)(L H:Nat->Nat),w.ownsRow lo 164 3 v ks.length xs/\(∀g,v.ownBlock=M g->g<hi)/\
   (∀j,j<ks.length->lo<=L j/\L j<=H j/\H j<=hi/\(∀g,v.ownBlock=M g->g<L j\/H j<=g))/\(∀a b,a<b->b<ks.length->H a<=L b)/\
   ∀(j:Nat)(J:j<ks.length),∃E I z,xs[j*3]? =M E/\xs[j*3+1]? =M I/\xs[j*3+2]? =M z/\Tr w n (L j) (H j) E I z (ks[j])
def Tr.Wp(h:Row w n lo hi v i.kids):Tr w (n+1) lo hi (.bool i.list) (bE ⟨i.bytes.toArray⟩) v i:=⟨⟨rfl,rfl⟩,h⟩
def Io(h:w.ownsRow base e size v n xs)(hk:∀g,v.ownBlock=M g->w'.heap[g]? =w.heap[g]?):w'.ownsRow base e size v n xs:=by
 obtain⟨J,h2⟩:=h;refine⟨J,?_⟩;obtain h2|⟨g,cap,z,E,R,I,r⟩:=h2
 .exact bN h2
 .exact cF ⟨g,cap,z,E,R,(hk g (by rw[E];rfl)).trans I,r⟩
def Tr.kept:∀(n lo hi:Nat)(c0 z E:aD)(i:Im.It),(∀k,lo<=k->k<hi->w'.heap[k]? =w.heap[k]?)->Tr w n lo hi c0 z E i->Tr w' n lo hi c0 z E i
 |0,_,_,_,_,_,_,_,h=>h
 |n+1,lo,hi,c0,z,E,i,hk,h=>by
  obtain⟨h0,xs,L,H,R,h2,h3,h4,h5⟩:=h;refine⟨h0,xs,L,H,Io R (λg J=>hk g (qZ R J).1 (h2 g J)),h2,h3,h4,λj hj=>?_⟩;obtain⟨d0,Y,I,e0,e1,e2,e3⟩:=h5 j hj;have:=h3 j hj;exact⟨d0,Y,I,e0,e1,e2,Tr.kept n (L j) (H j) d0 Y I _ (λk a b=>hk k aA aA) e3⟩
def Row.kept(h:Row w n lo hi v ks)(hk:∀k,lo<=k->k<hi->w'.heap[k]? =w.heap[k]?):Row w' n lo hi v ks:=
 (Tr.kept (n+1) lo hi (cM bB) (bE ⟨#[]⟩) v ⟨bB,[],ks⟩ hk ⟨⟨rfl,rfl⟩,h⟩).2
def Tr.inn{B:Nat}:∀(n lo hi:Nat)(c0 Y c2:aD)(i:Im.It),hi<=B->Tr w n lo hi c0 Y c2 i->In B w n c0 Y c2 i
 |0,_,_,_,_,_,_,_,h=>h
 |n+1,lo,hi,c0,Y,c2,i,hB,h=>by
  obtain⟨⟨I,J⟩,xs,L,H,h1,h2,h3,h4,h5⟩:=h;obtain⟨rfl,hz⟩|⟨g,cap,aa,rfl,hg,hh,ae,ac,af,E⟩:=h1.2
  .refine⟨I,J,Z,0,by rw[hz],λR=>Xs (bP hz) R⟩
  .refine⟨I,J,_,cap,rfl,λ_=>⟨g,0,rfl,by have:=h2 g rfl;omega,λj hj=>?_⟩⟩;obtain⟨d0,d1,d2,e0,e1,e2,e3⟩:=h5 j hj
   have z:∀(m:Nat)(u:aD),xs[m]? =M u->aa[m]? =M u:=by
    intro m u hu;have hm:=(aN.1 hu).1;have hl:=h1.1;rw[<-E,iI aA]at hu;simpa using hu
   have:=h3 j hj;refine⟨d0,d1,d2,⟨?_,?_,?_⟩,Tr.inn n (L j) (H j) d0 d1 d2 _ aA e3⟩
   .rw[aI hh,fJ];exact z _ _ e0
   .rw[aI hh,fJ];exact z _ _ e1
   .rw[aI hh,fJ];exact z _ _ e2
def KA{z:Nat}(h:w.ownsRow base e size v n xs)(R:z<=base):w.ownsRow z e size v n xs:=by
 obtain⟨J,h2⟩:=h;refine⟨J,?_⟩;obtain h2|⟨g,cap,E,I,Y,r⟩:=h2
 .exact bN h2
 .exact cF ⟨g,cap,E,I,aA,r⟩
def Row.wider(h:Row w n lo hi v ks)(I:lo'<=lo)(h2:hi<=hi'):Row w n lo' hi' v ks:=by obtain⟨xs,L,H,E,q2,J,q4,R⟩:=h;refine⟨xs,L,H,KA E I,λg z=>by have:=q2 g z;omega,λj hj=>?_,q4,R⟩;obtain⟨a1,a2,a3,Y⟩:=J j hj;exact⟨aA,a2,aA,Y⟩
def Tr.wider{c0 E z:aD}(h:Tr w n lo hi c0 E z i)(I:lo'<=lo)(h2:hi<=hi'):Tr w n lo' hi' c0 E z i:=by
 cases n with
 |zero=>cases h
 |succ n=>exact⟨h.1,Row.wider h.2 I h2⟩
def Row.none(w:X)(n lo hi:Nat):Row w n lo hi (aM Z 0 0) []:=
 ⟨[],λ_=>0,λ_=>0,World.ownsRow_nil w lo _ 3,λg I=>by simp[eE]at I,λj z=>by simp at z,λ_ b _ E=>by simp at E,λj z=>by simp at z⟩
def Row.step{w1 w3 w4:X}{k:Im.It}{v' d0 d1 R:aD}(ai:lo<=w.heap.size){L H:Nat->Nat}(I:w.ownsRow lo 164 3 v ks.length xs)(ag:∀j,j<ks.length->lo<=L j/\L j<=H j/\H j<=w.heap.size/\(∀g,v.ownBlock=M g->g<L j\/H j<=g))(ah:∀a b,a<b->b<ks.length->H a<=L b)(Y:∀(j:Nat)(hj:j<ks.length),∃d0 d1 R,xs[j*3]? =M d0/\xs[j*3+1]? =M d1/\xs[j*3+2]? =M R/\Tr w n (L j) (H j) d0 d1 R (ks[j]))(ae:Tr w1 n w.heap.size w1.heap.size d0 d1 R k)(af:cG w.heap.size w w1)(ac:cG w1.heap.size w1 w3)(E:w4.ownsRow lo 164 3 v' (ks.length+1) (xs++[d0,d1,R]))(aa:w3.grownBy w4 v.ownBlock)(aj:v'.ownBlock=v.ownBlock\/∃g,v'.ownBlock=M g/\w3.heap.size<=g):Row w4 n lo w4.heap.size v' (ks++[k]):=by
 have hx:=xs_len I;have s1:=af.size;have s3:=ac.size;have s4:=aa.size;have ak:∀g,v.ownBlock=M g->g<w.heap.size:=λg hg=>(qZ I hg).2;have J:(ks++[k]).length=ks.length+1:=aC
 refine⟨xs++[d0,d1,R],λj=>if j<ks.length then L j else w.heap.size,λj=>if j<ks.length then H j else w1.heap.size,by rw[J];exact E,λg hg=>(qZ E hg).2,?_,?_,?_⟩
 .intro j hj;by_cases z:j<ks.length
  .grind
  .grind
 .grind
 .intro j hj;rw[J]at hj;by_cases z:j<ks.length
  .obtain⟨e0,e1,e2,q0,q1,q2,ho⟩:=Y j z;obtain⟨a1,a2,a3,a4⟩:=ag j z;simp only[ZD z];rw[List.getElem_append_left z];refine⟨e0,e1,e2,?_,?_,?_,Tr.kept n _ _ _ _ _ _ (λm m1 m2=>?_) ho⟩
   .grind
   .grind
   .grind
   .rw[aa.block m aA (λe=>by grind),ac.block m aA,af.block m aA]
  .obtain rfl:j=ks.length:=by omega
   simp only[Zs z];rw[List.getElem_append_right jB];simp only[Nat.sub_self,List.getElem_cons_zero];refine⟨d0,d1,R,?_,?_,?_,Tr.kept n _ _ _ _ _ _ (λm m1 m2=>?_) ae⟩
   .grind
   .grind
   .rw[bV aA,hx,show ks.length*3+2-ks.length*3=2 from by omega];rfl
   .rw[aa.block m aA (λe=>by grind),ac.block m aA]
end
def vM:Option (Bool×Nat×Nat)->aD
 |some (l,f,t)=>cP #[gR #[.bool l,N aE f,N aE t],cM bB]
 |none=>cP #[gR #[cM aR,N aE 0,N aE 0],cM aR]
def getD_byte(s:ByteArray)(f:Nat)(h:f<s.size):s.data.toList.getD f 0=s[f]:=by have z:=bD s;rw[aY,aO aA,Array.getElem_toList];rfl
def Dx(l:Bool)(x y:Int)(s:ByteArray)(f n:Nat)(w:X)(hs:s.size<=16777216)(hf:f<=s.size)(hn:n<4294967296):eL PQ 158 #[gR #[.bool l,N .u8 x,N .u8 y],bE s,N aE f,N pw n] w λe w'=>e=bX (vM (Im.chk l s.data.toList f n))/\cG w.heap.size w w':=by
 have I:=bD s;have R:∀(a b:Obj),cG w.heap.size w ((w.alloc a).alloc b):=λa b=>((aJ _ w).alloc jB _).alloc aC _;have E:cJ _:=R;clear R;have ae:0<=(s.size:Int)-(f:Int):=aA
 have ag:IntKind.u64.wrap ((s.size:Int)-(f:Int))=(s.size:Int)-(f:Int):=by rw[IntKind.wrap_u64];omega
 by_cases h1:s.size-f<n
 .have J:Im.chk l s.data.toList f n=Z:=by unfold Im.chk;rw[<-I,ZD h1]
  rw[J];have aa:(s.size:Int)-(f:Int)<n:=aA
  clear J I;go_enter (fq Tryz.func158 rfl),Tryz.ntmps158;go_wp2_with fail;exact cN (v:=.tuple _) (by simp[results,my,go_sem]) rfl ⟨rfl,E.out _ _⟩
 .have aa:¬(s.size:Int)-(f:Int)<n:=by omega
  by_cases h2:l=aR/\n=1/\(s.data.toList.getD f 0).toNat<128
  .have J:Im.chk l s.data.toList f n=Z:=by unfold Im.chk;rw[<-I,Zs h1,ZD h2]
   rw[J];obtain⟨rfl,rfl,h3⟩:=h2;have z:f<s.size:=aA
   rw[getD_byte s f z]at h3;have af:(s[f].toNat:Int)<128:=aA
   have hx:=λu=>Az u s _ f z rfl;clear J I h3;go_enter (fq Tryz.func158 rfl),Tryz.ntmps158;go_wp2_with fail;exact cN (v:=.tuple _) (by simp[results,my,go_sem]) rfl ⟨rfl,E.out _ _⟩
  .have J:Im.chk l s.data.toList f n=M (l,f,f+n):=by unfold Im.chk;rw[<-I,Zs h1,Zs h2]
   rw[J];clear J;cases l with
   |true=>
    clear I h2;go_enter (fq Tryz.func158 rfl),Tryz.ntmps158;go_wp2_with fail;exact cN (v:=cP #[gR #[cM bB,N aE f,N aE (f+n)],cM bB]) (by simp[results,my,go_sem]) rfl ⟨by simp[vM],E.out _ _⟩
   |false=>
    by_cases Y:n=1
    .subst Y;have z:f<s.size:=by omega
     have h3:¬(s[f].toNat:Int)<128:=by
      rw[getD_byte s f z]at h2;intro h;exact h2 ⟨rfl,rfl,aA⟩
     have hx:=λu=>Az u s _ f z rfl;clear I h2;go_enter (fq Tryz.func158 rfl),Tryz.ntmps158;go_wp2_with fail;exact cN (v:=cP #[gR #[cM aR,N aE f,N aE (f+1)],cM bB]) (by simp[results,my,go_sem]) rfl ⟨by simp[vM],E.out _ _⟩
    .have ac:((n:Int) == 1)=aR:=by simp;omega
     clear I h2;go_enter (fq Tryz.func158 rfl),Tryz.ntmps158;go_wp2_with fail;exact cN (v:=cP #[gR #[cM aR,N aE f,N aE (f+n)],cM bB]) (by simp[results,my,go_sem]) rfl ⟨by simp[vM],E.out _ _⟩
def ext_list(s:ByteArray)(a b:Nat):(s.extract a b).data.toList=(s.data.toList.take b).drop a:=by simp[ByteArray.data_extract,Array.toList_extract,List.drop_take]
def sF:∀(l:List UInt8)(a k:Nat),a<256 ^ k->Im.val l a<256 ^ (k+l.length)
 |[],a,k,h=>h
 |x::l,a,k,h=>by
  have:=x.toNat_lt;have h2:=sF l (256*a+x.toNat) (k+1) aA;simp only[Im.val,aU];rw[show k+(l.length+1)=k+1+l.length from by omega];exact h2
def A8(s:List UInt8)(k:Nat)(h:k<s.length):Im.val (s.take (k+1)) 0=256*Im.val (s.take k) 0+(s.getD k 0).toNat:=by rw[eY h,Im.val_append,aY,aO h];rfl
def AO(a c:Nat)(hc:c<256):(a*256) |||c=256*a+c:=by have:=Nat.two_pow_add_eq_or_of_lt (i:=8) (b:=c) aA a;rw[show a*256=2 ^ 8*a from by omega,<-this]
def below_bytesWorld{B:Nat}{w u:X}(h:cG B w u)(E:B<=u.heap.size)(e:TypeId)(s:ByteArray):cG B w (Lib.bytesWorld u e s):=
 h.trans ⟨rfl,rfl,rfl,by rw[Lib.bytesWorld_size];omega,λm z=>Lib.bytesWorld_at_old u e s m aA⟩
def zA(l:Bool)(x y:Int)(s:ByteArray)(f:Nat)(w:X)(hs:s.size<=16777216)(hf:2<=f)(bk:f<=5):eL PQ 159 #[gR #[.bool l,N .u8 x,N .u8 y],bE s,N aE f] w λe w'=>e=bX (vM (Im.far l s.data.toList f))/\cG w.heap.size w w':=by
 have hl:=bD s;have aw:∀(a b:Obj),cG w.heap.size w ((w.alloc a).alloc b):=λa b=>((aJ _ w).alloc jB _).alloc aC _;have aj:cJ _:=aw;clear aw;by_cases h1:s.size<f
 .have I:Im.far l s.data.toList f=Z:=by unfold Im.far;rw[<-hl,ZD (bN h1)]
  rw[I];have bb:(s.size:Int)<f:=aA
  clear I hl;go_enter (fq Tryz.func159 rfl),Tryz.ntmps159;go_wp2_with fail;exact cN (v:=.tuple _) (by simp[results,Tryz.results159,go_sem]) rfl ⟨rfl,aj.out _ _⟩
 .have bb:¬(s.size:Int)<f:=by omega
  have ar:1<s.size:=aA
  have hx:=λu=>Az u s 1 1 ar rfl;have ah:=getD_byte s 1 ar;by_cases h2:s[1]=0
  .have I:Im.far l s.data.toList f=Z:=by unfold Im.far;rw[ah,ZD (cF h2)]
   rw[I];have ba:((s[1].toNat:Int) == 0)=bB:=by rw[h2];rfl
   clear I hl;go_enter (fq Tryz.func159 rfl),Tryz.ntmps159;go_wp2_with fail;exact cN (v:=.tuple _) (by simp[results,Tryz.results159,go_sem]) rfl ⟨rfl,aj.out _ _⟩
  .have ba:((s[1].toNat:Int) == 0)=aR:=by
    have:s[1].toNat≠0:=λe=>h2 (jv.1 e);simp;omega
   obtain⟨S,hS⟩:∃S:ByteArray,s.extract 1 f=S:=⟨_,rfl⟩
   have ap:S.data.toList=(s.data.toList.take f).drop 1:=by rw[<-hS,ext_list]
   have bj:S.size=f-1:=by rw[<-hS];simp[fA];omega
   have a8:=λu:X=>Lib.run_convert_string_bytes (P:=PQ) u 9 199 5 S (uq eI) (uq gE) (uq gP)
   have I:Im.far l s.data.toList f=if Im.val S.data.toList 0<=55 then Z else Im.chk l s.data.toList f (Im.val S.data.toList 0):=by
    unfold Im.far;rw[<-hl,ah,Zs (by grind),ap]
   generalize Im.far l s.data.toList f=R at I⊢;have HR:cJ _:=I;clear I hl ap ah;go_enter (fq Tryz.func159 rfl),Tryz.ntmps159;go_wp2_with fail;obtain⟨Wd,hX⟩:∃Wd:X,Wd=((w.alloc (aL #[cM l,N IntKind.u8 x,N IntKind.u8 y] 248)).alloc (aL #[cM aR,N aE 0,N aE 0] 237)):=⟨_,rfl⟩
   have az:Wd.heap.size=w.heap.size+1+1:=by rw[hX];simp
   have a4:cG w.heap.size w Wd:=by rw[hX];exact aj.out _ _
   have a1:Wd.heap[w.heap.size]? =M (aL #[cM l,N IntKind.u8 x,N IntKind.u8 y] 248 (0,0)):=by rw[hX,aZ _ _ _ aC];exact cY _ _
   have an:Wd.heap[w.heap.size+1]? =M (aL #[cM aR,N aE 0,N aE 0] 237 (0,0)):=by rw[hX];have:=cY (w.alloc (aL #[cM l,N IntKind.u8 x,N IntKind.u8 y] 248)) (aL #[cM aR,N aE 0,N aE 0] 237);simpa using this
   rw[<-hX];obtain⟨Y,hY⟩:∃Y:X,Y=Lib.bytesWorld Wd 5 S:=⟨_,rfl⟩
   have bg:Y.heap.size=w.heap.size+3:=by rw[hY,Lib.bytesWorld_size,az]
   have ac:cG Wd.heap.size Wd Y:=by rw[hY];exact below_bytesWorld (aJ _ _) jB _ _
   have a0:∀k,k<S.size->Y.cell? ⟨w.heap.size+1+1,k,Z⟩=M (N .u8 (S.data.toList.getD k 0).toNat):=λk hk=>by rw[hY,<-az];exact Lib.bytesWorld_cell Wd 5 S k hk
   rw[<-hY];have J:=(ac.block _ aA).trans a1;have E:=(ac.block _ aA).trans an;have aa:=a4.trans (ac.mono aA);have af:=bD S;have HY:cJ _:=jy a0 (jy J (jy E aa));have ae:cJ _:=af;clear hX hY a0 J E aa ac a1 an a4 af a8 hx hS;generalize grownCap Wd (f-1) 0 5=gc;go_loopg [8,26] (f-1) (λg v t wx=>∃k:Nat,k<=f-1/\t=N aE k/\v=N pw (Im.val (S.data.toList.take k) 0:Nat)/\g=f-1-k/\wx=Y)
   case atStart=>exact⟨0,dL _,rfl,rfl,rfl,rfl⟩
   case round=>
    obtain⟨k,hk,rfl,rfl,rfl,rfl⟩:=hrel
    have a2:Im.val (S.data.toList.take k) 0<4294967296:=by
     have:=sF (S.data.toList.take k) 0 0 aC;have ai:0+(S.data.toList.take k).length<=4:=aF
     have:=iK (n:=256) aB ai;omega
    by_cases bh:k<f-1
    .have a3:(k:Int)<((f-1:Nat):Int):=by omega
     have hc:=HY.out.1 k aA;generalize hb:(S.data.toList.getD k 0).toNat=b at hc;have a6:b<256:=by rw[<-hb];exact UInt8.toNat_lt _
     have ak:=A8 S.data.toList k (by rw[<-ae.out];omega);rw[hb]at ak
     have bd:Im.val (S.data.toList.take k) 0<16777216:=by
      have:=sF (S.data.toList.take k) 0 0 aC;have ai:0+(S.data.toList.take k).length<=3:=aF
      have:=iK (n:=256) aB ai;omega
     generalize au:Im.val (S.data.toList.take (k+1)) 0=V' at ak;have a5:cJ _:=au;clear au;generalize Im.val (S.data.toList.take k) 0=V at *;have Hb:cJ _:=hb;clear hb;go_wp2_with fail
     rw[show bits .or pw ((V:Int)*256) (b:Int)=V' from by
      rw[show(V:Int)*256=((V*256:Nat):Int) from by omega,bits_or_u64_nat _ _ aA aA,AO V b a6,ak]]
     go_roundg (f-1-(k+1))
     case measure=>omega
     case rel=>
      refine⟨_,aA,by go_num,?_,rfl,rfl⟩;rw[a5.out]
    .have a3:¬(k:Int)<((f-1:Nat):Int):=by omega
     obtain rfl:k=f-1:=aA
     have a7:S.data.toList.take (f-1)=S.data.toList:=eH (by rw[<-ae.out];omega);rw[a7]at a2⊢;obtain⟨_,J,E,aa⟩:=HY.out;generalize Im.val S.data.toList 0=V at *;obtain⟨m0,m1,m2⟩:=cells3 J;obtain⟨r0,r1,r2⟩:=cells3 E;have fr:=aQ E;have aq:cJ _:=aa;have a9:cJ _:=E;clear J E aa HY;by_cases av:V<=55
     .have ao:(V:Int)<=55:=by omega
      have I:R=Z:=by rw[HR.out,ZD av]
      have am:cJ _:=I;clear I HR;go_wp2_with fail;exact cN (v:=cP #[gR #[cM aR,N aE 0,N aE 0],cM aR]) (by simp[results,Tryz.results159,go_sem,r0,r1,r2]) rfl ⟨by rw[am.out];rfl,((aq.out.setCell aC _).setCell aC _).setCell aC _⟩
     .have ao:¬(V:Int)<=55:=by omega
      have I:R=Im.chk l s.data.toList f V:=by rw[HR.out,Zs av]
      obtain⟨b0,f0,t0,q0,hV⟩:∃b0 f0 t0 q0,vM (Im.chk l s.data.toList f V)=cP #[gR #[.bool b0,N aE f0,N aE t0],.bool q0]:=by
       cases Im.chk l s.data.toList f V with
       |none=>exact⟨_,_,_,_,rfl⟩
       |some z=>exact⟨_,_,_,_,rfl⟩
      have HV:cJ _:=hV;have am:cJ _:=I;clear I HR hV;go_wp2_with fail;refine(Dx l x y s f V wr hs aA a2).mono ?_;rintro e w3 ⟨rfl,ay⟩;rw[HV.out];have ag:=(ay.block _ aA).trans a9.out;obtain⟨z0,z1,z2⟩:=cells3 ag;have fz:=aQ ag;have HB:cJ _:=aq.out.trans (ay.mono aA);clear r0 r1 r2 fr m0 m1 m2 ag;go_wp2_with fail;exact cN (v:=cP #[gR #[.bool b0,N aE f0,N aE t0],.bool q0]) (by simp[results,Tryz.results159,go_sem,z0,z1,z2]) rfl ⟨by rw[am.out,HV.out],((HB.out.setCell aC _).setCell aC _).setCell aC _⟩
def adu(u:X):(lj 249 (gR #[cM aR,N .u8 128,N .u8 183,cM bB,N .u8 192,N .u8 247]) (N aE 0)).run PQ u=.ok (gR #[cM aR,N .u8 128,N .u8 183]) u:=by simp[lj,eB (uq Tryz.underlying249),asIntOf,go_sem]
def acI(u:X):(lj 249 (gR #[cM aR,N .u8 128,N .u8 183,cM bB,N .u8 192,N .u8 247]) (N aE 1)).run PQ u=.ok (gR #[cM bB,N .u8 192,N .u8 247]) u:=by simp[lj,eB (uq Tryz.underlying249),asIntOf,go_sem]
def Fb(s:ByteArray)(w:X)(hs:s.size<=16777216)(hH:lJ w):eL PQ 151 #[bE s] w λe w'=>e=bX (vM (Im.body s.data.toList))/\cG w.heap.size w w':=by
 have hl:=bD s;have h0:=hH.pos;have ak:=toList_empty s;by_cases hz:s.size=0
 .have hR:Im.body s.data.toList=Z:=by
   have:s.data.toList=[]:=bP aA;rw[this];rfl
  rw[hR];have he:s.toList.isEmpty=bB:=by rw[ak];simp[hz]
  clear hR hl ak;go_enter (fq Tryz.func151 rfl),Tryz.ntmps151;go_wp2_with fail;exact cN (v:=.tuple _) (by simp[results,kh,go_sem]) rfl ⟨rfl,(aJ _ w).alloc jB _⟩
 .have he:s.toList.isEmpty=aR:=by rw[ak];simp[hz]
  have au:0<s.size:=aA
  have hx:=λu=>Az u s 0 0 au rfl;obtain⟨c,hc⟩:∃c:UInt8,s[0]=c:=⟨_,rfl⟩
  have a8:=c.toNat_lt;rw[hc]at hx;have hR:Im.body s.data.toList=if c.toNat<128 then M (aR,0,1)
  else if c.toNat<=183 then Im.chk aR s.data.toList 1 (c.toNat-128)
  else if c.toNat<=187 then Im.far aR s.data.toList (1+(c.toNat-183))
  else if c.toNat<192 then Z
  else if c.toNat<=247 then Im.chk bB s.data.toList 1 (c.toNat-192)
  else if c.toNat<=251 then Im.far bB s.data.toList (1+(c.toNat-247))
  else Z:=by
   have hg:=getD_byte s 0 au;rw[hc]at hg;cases hd:s.data.toList with
   |nil=>grind
   |cons a r=>
    rw[hd]at hg;simp at hg;subst hg;rfl
  generalize Im.body s.data.toList=R at hR⊢;have HR:cJ _:=hR;clear hR hl ak hc;generalize hn:c.toNat=n at *;clear hn;by_cases av:n<128
  .have ap:(n:Int)<128:=by omega
   go_enter (fq Tryz.func151 rfl),Tryz.ntmps151;go_wp2_with fail;exact cN (v:=cP #[gR #[cM aR,N aE 0,N aE 1],cM bB]) (by simp[results,kh,go_sem]) rfl ⟨by rw[HR.out,ZD av];rfl,(aJ _ w).alloc jB _⟩
  .have ap:¬(n:Int)<128:=by omega
   have ay:=hH;obtain⟨⟨a0,a1,a2⟩,a3,a4,a5⟩:=ay;simp only[fJ,Nat.reduceAdd]at a1 a2 a4 a5;obtain⟨Wd,hX,af,Y⟩:=jD w #[cM aR,N aE 0,N aE 0] 237;have an:Wd.heap.size=w.heap.size+1:=by rw[hX];simp
   have hV:∀R':Option (Bool×Nat×Nat),∃b0 f0 t0 q0,vM R'=cP #[gR #[.bool b0,N aE f0,N aE t0],.bool q0]:=by
    intro R';cases R' with
    |none=>exact⟨_,_,_,_,rfl⟩
    |some z=>exact⟨_,_,_,_,rfl⟩
   have am:cJ _:=hV;clear hV;go_enter (fq Tryz.func151 rfl),Tryz.ntmps151;go_wp2_with fail;rw[<-hX];have HX:cJ _:=jy an (jy af Y);clear hX an af Y a0 a1 a2 a3 a4 a5;go_loopg [16] 2 (λg t wx=>∃k:Nat,k<=2/\t=N aE k/\g=2-k/\cG (w.heap.size+1) Wd wx/\(1<=k->187<n)/\(k=2->n<192\/251<n))
   case atStart=>exact⟨0,dL _,rfl,rfl,aJ _ _,λh=>aA,λh=>aA⟩
   case round=>
    obtain⟨k,hk,rfl,rfl,hb,aq,aw⟩:=hrel;obtain⟨an,af,Y⟩:=HX.out;have ae:=hb.size;rw[an]at ae;have J:=(hb.block _ aA).trans Y;have ai:=af.trans (hb.mono aA);have a7:=adu;have a6:=acI
    match k,hk with
    |0,_=>
     have ar:=aq;by_cases h1:128<=n/\n<=183
     .obtain⟨g1,g2⟩:=h1;have hR:R=Im.chk aR s.data.toList 1 (n-128):=by rw[HR.out];repeat' first|rw[Zs aA]|rw[ZD aA]
      obtain⟨b0,f0,t0,q0,hV⟩:=am.out (Im.chk aR s.data.toList 1 (n-128));have HV:cJ _:=hV;have ac:cJ _:=hR;have ag:cJ _:=J;clear hR HR hV J Y;have aj:(128:Int)<=(n:Int):=aA
      have ah:(n:Int)<=183:=aA
      go_wp2_with fail;rw[show(n:Int)-128=((n-128:Nat):Int) from by omega];refine(Dx aR _ _ s 1 _ _ hs aA aA).mono ?_;rintro e w3 ⟨rfl,I⟩;have aa:=(hb.alloc ae _).trans (I.mono aF);rw[HV.out];have E:=(I.block _ aF).trans ((aZ _ _ _ aA).trans ag.out);obtain⟨z0,z1,z2⟩:=cells3 E;have fz:=aQ E;have HB:cJ (cG w.heap.size w w3):=af.trans (aa.mono aA);clear E I aa hb ai;go_wp2_with fail;exact cN (v:=cP #[gR #[.bool b0,N aE f0,N aE t0],.bool q0]) (by simp[results,kh,go_sem,z0,z1,z2]) rfl ⟨by rw[ac.out,HV.out],((HB.out.setCell aC _).setCell aC _).setCell aC _⟩
     .by_cases h2:183<n/\n<=187
      .obtain⟨g1,g2⟩:=h2;have hR:R=Im.far aR s.data.toList (1+(n-183)):=by rw[HR.out];repeat' first|rw[Zs aA]|rw[ZD aA]
       obtain⟨b0,f0,t0,q0,hV⟩:=am.out (Im.far aR s.data.toList (1+(n-183)));have HV:cJ _:=hV;have ac:cJ _:=hR;have ag:cJ _:=J;clear hR HR hV J Y;have aj:(183:Int)<(n:Int):=aA
       have ah:(n:Int)<=187:=aA
       go_wp2_with fail;rw[show 1+((n:Int)-183)=((1+(n-183):Nat):Int) from by omega];refine(zA aR _ _ s _ _ hs aA aA).mono ?_;rintro e w3 ⟨rfl,I⟩;have aa:=(hb.alloc ae _).trans (I.mono aF);rw[HV.out];have E:=(I.block _ aF).trans ((aZ _ _ _ aA).trans ag.out);obtain⟨z0,z1,z2⟩:=cells3 E;have fz:=aQ E;have HB:cJ (cG w.heap.size w w3):=af.trans (aa.mono aA);clear E I aa hb ai;go_wp2_with fail;exact cN (v:=cP #[gR #[.bool b0,N aE f0,N aE t0],.bool q0]) (by simp[results,kh,go_sem,z0,z1,z2]) rfl ⟨by rw[ac.out,HV.out],((HB.out.setCell aC _).setCell aC _).setCell aC _⟩
      .have h3:187<n:=by omega
       have aj:(128:Int)<=(n:Int):=aA
       have ah:(183:Int)<(n:Int):=aA
       have az:(187:Int)<(n:Int):=aA
       clear J Y;go_wp2_with fail;go_roundg 1
       case measure=>omega
       case rel=>exact⟨1,aA,rfl,rfl,hb.alloc ae _,λ_=>h3,λh=>aA⟩
    |1,_=>
     have ar:=aq;have ao:=aq aA;by_cases h1:192<=n/\n<=247
     .obtain⟨g1,g2⟩:=h1;have hR:R=Im.chk bB s.data.toList 1 (n-192):=by rw[HR.out];repeat' first|rw[Zs aA]|rw[ZD aA]
      obtain⟨b0,f0,t0,q0,hV⟩:=am.out (Im.chk bB s.data.toList 1 (n-192));have HV:cJ _:=hV;have ac:cJ _:=hR;have ag:cJ _:=J;clear hR HR hV J Y;have aj:(192:Int)<=(n:Int):=aA
      have ah:(n:Int)<=247:=aA
      go_wp2_with fail;rw[show(n:Int)-192=((n-192:Nat):Int) from by omega];refine(Dx bB _ _ s 1 _ _ hs aA aA).mono ?_;rintro e w3 ⟨rfl,I⟩;have aa:=(hb.alloc ae _).trans (I.mono aF);rw[HV.out];have E:=(I.block _ aF).trans ((aZ _ _ _ aA).trans ag.out);obtain⟨z0,z1,z2⟩:=cells3 E;have fz:=aQ E;have HB:cJ (cG w.heap.size w w3):=af.trans (aa.mono aA);clear E I aa hb ai;go_wp2_with fail;exact cN (v:=cP #[gR #[.bool b0,N aE f0,N aE t0],.bool q0]) (by simp[results,kh,go_sem,z0,z1,z2]) rfl ⟨by rw[ac.out,HV.out],((HB.out.setCell aC _).setCell aC _).setCell aC _⟩
     .by_cases h2:247<n/\n<=251
      .obtain⟨g1,g2⟩:=h2;have hR:R=Im.far bB s.data.toList (1+(n-247)):=by rw[HR.out];repeat' first|rw[Zs aA]|rw[ZD aA]
       obtain⟨b0,f0,t0,q0,hV⟩:=am.out (Im.far bB s.data.toList (1+(n-247)));have HV:cJ _:=hV;have ac:cJ _:=hR;have ag:cJ _:=J;clear hR HR hV J Y;have aj:(247:Int)<(n:Int):=aA
       have ah:(n:Int)<=251:=aA
       go_wp2_with fail;rw[show 1+((n:Int)-247)=((1+(n-247):Nat):Int) from by omega];refine(zA bB _ _ s _ _ hs aA aA).mono ?_;rintro e w3 ⟨rfl,I⟩;have aa:=(hb.alloc ae _).trans (I.mono aF);rw[HV.out];have E:=(I.block _ aF).trans ((aZ _ _ _ aA).trans ag.out);obtain⟨z0,z1,z2⟩:=cells3 E;have fz:=aQ E;have HB:cJ (cG w.heap.size w w3):=af.trans (aa.mono aA);clear E I aa hb ai;go_wp2_with fail;exact cN (v:=cP #[gR #[.bool b0,N aE f0,N aE t0],.bool q0]) (by simp[results,kh,go_sem,z0,z1,z2]) rfl ⟨by rw[ac.out,HV.out],((HB.out.setCell aC _).setCell aC _).setCell aC _⟩
      .have h3:n<192\/251<n:=by omega
       clear J Y;obtain h3|h3:=h3
       .have aj:(n:Int)<192:=by omega
        have ah:(n:Int)<=247:=aA
        go_wp2_with fail;go_roundg 0
        case measure=>omega
        case rel=>exact⟨2,aA,rfl,rfl,hb.alloc ae _,λ_=>ao,λ_=>aA⟩
       .have aj:(192:Int)<=(n:Int):=by omega
        have ah:(247:Int)<(n:Int):=aA
        have az:(251:Int)<(n:Int):=aA
        go_wp2_with fail;go_roundg 0
        case measure=>omega
        case rel=>exact⟨2,aA,rfl,rfl,hb.alloc ae _,λ_=>ao,λ_=>aA⟩
    |2,_=>
     have ar:=aw rfl;have hR:R=Z:=by rw[HR.out];repeat' first|rw[Zs aA]|split|rfl|omega
     have ac:cJ _:=hR;obtain⟨z0,z1,z2⟩:=cells3 J;have fz:=aQ J;have HB:cJ _:=ai;clear J Y hR HR hb ai;go_wp2_with fail;exact cN (v:=cP #[gR #[cM aR,N aE 0,N aE 0],cM aR]) (by simp[results,kh,go_sem,z0,z1,z2]) rfl ⟨by rw[ac.out];rfl,((HB.out.setCell aC _).setCell aC _).setCell aC _⟩
end
