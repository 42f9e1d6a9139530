import Derived.Test.YtpibpdpedjinhaaGreatDoorP26
set_option maxRecDepth 100000
set_option maxHeartbeats 4000000
set_option linter.all false
open Bool renaming decide_and->pB,false->aL,true->bB
open Go renaming Calls->eE,Value->aD,World->U,heap_alloc_new->cX
open Go.Ending renaming returned->bX
open Go.IntKind renaming i64->X,wrap_i64->cP
open Go.Obj renaming cells->aG
open Go.RowKit renaming Hid->cS
open Go.Value renaming bool->cF,int->N,pointer->aM,slice->aR,string->aH
open Go.Value.slice renaming injEq->eQ
open Option renaming none->Z,some->M
namespace Go.Proofs.YtpibpdpedjinhaaGreatDoor
namespace Hm
open Go.RowKit Go.Joins
open Dv (Cf X2 Tx)
def Ns(v:aD)(l:List Tx)(w:U)(h:rO w v l)(hl:l.length<=4294967296):eE PQ 196 #[v,.func (.func 147) #[] #[]] w λe w'=>e=bX (N X (idx (λt:Tx=>decide (2000<t.data.length)) l))/\Below w.heap.size w w':=by
 have eg:=enters_of (P:=PQ) (fq Tryz.func147 rfl) XN rfl;obtain⟨a,cap,h0,rfl⟩|⟨g,off,cap,h0,rfl⟩:=Rd.cases h
 .obtain rfl:=bP h0;go_enter (fq Tryz.func196 rfl),Tryz.ntmps196;go_wp2_with fail;go_loopg [5,8] 0 (λgg _ v8 wx=>v8=N X 0/\wx=w)
  case atStart=>exact⟨rfl,rfl⟩
  case round=>
   obtain⟨rfl,rfl⟩:=hrel;go_wp2_with fail;go_ret;exact⟨rfl,aJ _ _⟩
 .have hg:g<w.heap.size:=by
   obtain⟨g',ae,af,hv,_,aa,_⟩:=Rd.pos h h0;simp only[eQ,aK,Addr.mk.injEq,and_true,true_and]at hv;obtain⟨⟨rfl,rfl⟩,rfl⟩:=hv;exact aa
  have Hf:cS _:=λj t (Y:l[j]? =M t)=>h.get Y;clear h;go_enter (fq Tryz.func196 rfl),Tryz.ntmps196;go_wp2_with fail;go_loopg [5,8] l.length (λgg _ v8 wx=>∃i:Nat,i<=l.length/\v8=N X i/\gg=l.length-i/\cS (∀(j:Nat)(y:Tx),j<i->l[j]? =M y->decide (2000<y.data.length)=aL)/\cS (Below w.heap.size w wx))
  case atStart=>exact⟨0,dL _,rfl,rfl,λj y Y=>aA,aJ _ _⟩
  case round=>
   obtain⟨i,hi,rfl,rfl,Hi,I⟩:=hrel;by_cases aa:i<l.length
   .have ac:(i:Int)<l.length:=by omega
    obtain⟨t,ht⟩:∃t,l[i]? =M t:=⟨_,aO aa⟩
    obtain⟨k0,k1,k2⟩:=Hf.out i t ht;rw[<-I.out.cell (p:=⟨g,off+i*3,Z⟩) hg]at k0;rw[<-I.out.cell (p:=⟨g,off+i*3+1,Z⟩) hg]at k1;rw[<-I.out.cell (p:=⟨g,off+i*3+2,Z⟩) hg]at k2;have q:=λW=>QC t W;have Ht:cS _:=ht;obtain⟨D,hD⟩:∃D:ByteArray,(⟨t.data.toArray⟩:ByteArray)=D:=⟨_,rfl⟩
    rw[hD]at q k2;clear hD;cases hq:decide (2000<t.data.length)
    .rw[hq]at q;have E:cS _:=q;have Hq:cS _:=hq;clear q ht hq;go_wp2_with (go_at_call 147;refine(E.out _).mono ?_;rintro e w2 ⟨rfl,ab⟩)
     go_roundg (l.length-(i+1))
     case measure=>omega
     case rel=>
      refine⟨_,aA,by go_num,rfl,λj y Y J=>?_,I.out.trans (ab.mono I.out.size)⟩;obtain Y|rfl:=jr (Nat.lt_succ_iff.1 Y)
      .exact Hi.out j y Y J
      .rw[Ht.out]at J;cases J;exact Hq.out
    .rw[hq]at q;have E:cS _:=q;have Hq:cS _:=hq;clear q ht hq;go_wp2_with (go_at_call 147;refine(E.out _).mono ?_;rintro e w2 ⟨rfl,ab⟩)
     go_ret;exact⟨by rw[Ez Ht.out Hq.out (λj y Y J=>Hi.out j y Y J)];rfl,I.out.trans (ab.mono I.out.size)⟩
   .have ac:¬(i:Int)<l.length:=by omega
    go_wp2_with fail;go_ret;refine⟨?_,I.out⟩;rw[Dl (λj y J=>Hi.out j y (by have:=(aN.1 J).1;omega) J)];rfl
def JE(v:aD)(l:List (List UInt8))(w:U)(h:qY w v l)(hl:l.length<=4294967296):eE PQ 197 #[v,.func (.func 149) #[] #[]] w λe w'=>e=bX (N X (idx (λt:List UInt8=>decide (2000<t.length)) l))/\Below w.heap.size w w':=by
 have eg:=enters_of (P:=PQ) (fq Tryz.func149 rfl) XN rfl;obtain⟨a,cap,h0,rfl⟩|⟨g,off,cap,h0,rfl⟩:=Rd.cases h
 .obtain rfl:=bP h0;go_enter (fq Tryz.func197 rfl),Tryz.ntmps197;go_wp2_with fail;go_loopg [5,8] 0 (λgg _ v8 wx=>v8=N X 0/\wx=w)
  case atStart=>exact⟨rfl,rfl⟩
  case round=>
   obtain⟨rfl,rfl⟩:=hrel;go_wp2_with fail;go_ret;exact⟨rfl,aJ _ _⟩
 .have hg:g<w.heap.size:=by
   obtain⟨g',ac,ae,hv,_,Y,_⟩:=Rd.pos h h0;simp only[eQ,aK,Addr.mk.injEq,and_true,true_and]at hv;obtain⟨⟨rfl,rfl⟩,rfl⟩:=hv;exact Y
  have Hf:cS _:=λj t (J:l[j]? =M t)=>h.get J;clear h;go_enter (fq Tryz.func197 rfl),Tryz.ntmps197;go_wp2_with fail;go_loopg [5,8] l.length (λgg _ v8 wx=>∃i:Nat,i<=l.length/\v8=N X i/\gg=l.length-i/\cS (∀(j:Nat)(y:List UInt8),j<i->l[j]? =M y->decide (2000<y.length)=aL)/\cS (Below w.heap.size w wx))
  case atStart=>exact⟨0,dL _,rfl,rfl,λj y J=>aA,aJ _ _⟩
  case round=>
   obtain⟨i,hi,rfl,rfl,Hi,Hb⟩:=hrel;by_cases Y:i<l.length
   .have ab:(i:Int)<l.length:=by omega
    obtain⟨t,ht⟩:∃t,l[i]? =M t:=⟨_,aO Y⟩
    have k2:=Hf.out i t ht;rw[<-Hb.out.cell (p:=⟨g,off+i,Z⟩) hg]at k2;have q:=λW=>Ph t W;have Ht:cS _:=ht;obtain⟨D,hD⟩:∃D:ByteArray,(⟨t.toArray⟩:ByteArray)=D:=⟨_,rfl⟩
    rw[hD]at q k2;clear hD;cases hq:decide (2000<t.length)
    .rw[hq]at q;have E:cS _:=q;have Hq:cS _:=hq;clear q ht hq;go_wp2_with (go_at_call 149;refine(E.out _).mono ?_;rintro e w2 ⟨rfl,aa⟩)
     go_roundg (l.length-(i+1))
     case measure=>omega
     case rel=>
      refine⟨_,aA,by go_num,rfl,λj y J I=>?_,Hb.out.trans (aa.mono Hb.out.size)⟩;obtain J|rfl:=jr (Nat.lt_succ_iff.1 J)
      .exact Hi.out j y J I
      .rw[Ht.out]at I;cases I;exact Hq.out
    .rw[hq]at q;have E:cS _:=q;have Hq:cS _:=hq;clear q ht hq;go_wp2_with (go_at_call 149;refine(E.out _).mono ?_;rintro e w2 ⟨rfl,aa⟩)
     go_ret;exact⟨by rw[Ez Ht.out Hq.out (λj y J I=>Hi.out j y J I)];rfl,Hb.out.trans (aa.mono Hb.out.size)⟩
   .have ab:¬(i:Int)<l.length:=by omega
    go_wp2_with fail;go_ret;refine⟨?_,Hb.out⟩;rw[Dl (λj y I=>Hi.out j y (by have:=(aN.1 I).1;omega) I)];rfl
def EG(v:aD)(l:List Tx)(w:U)(h:rO w v l)(Y:l.length<=4294967296):eE PQ 146 #[v,.func (.func 147) #[] #[]] w λe w'=>e=bX (.bool (l.any (λt:Tx=>decide (2000<t.data.length))))/\Below w.heap.size w w':=by
 rw[<-Sj];have q:=Ns v l w h Y;obtain⟨a,cap,rfl⟩:=Rd.slice h;obtain⟨r,J⟩:∃r,idx (λt:Tx=>decide (2000<t.data.length)) l=r:=⟨_,rfl⟩
 rw[J]at q⊢;have E:cS _:=q;clear q J h;go_enter (fq Tryz.func146 rfl),Tryz.ntmps146;go_wp2_with (go_at_call 196;refine aT E.out ?_;rintro e w2 ⟨rfl,I⟩)
 go_ret;exact⟨rfl,I⟩
def BZ(v:aD)(l:List (List UInt8))(w:U)(h:qY w v l)(Y:l.length<=4294967296):eE PQ 148 #[v,.func (.func 149) #[] #[]] w λe w'=>e=bX (.bool (l.any (λt:List UInt8=>decide (2000<t.length))))/\Below w.heap.size w w':=by
 rw[<-Sj];have q:=JE v l w h Y;obtain⟨a,cap,rfl⟩:=Rd.slice h;obtain⟨r,J⟩:∃r,idx (λt:List UInt8=>decide (2000<t.length)) l=r:=⟨_,rfl⟩
 rw[J]at q⊢;have E:cS _:=q;clear q J h;go_enter (fq Tryz.func148 rfl),Tryz.ntmps148;go_wp2_with (go_at_call 197;refine aT E.out ?_;rintro e w2 ⟨rfl,I⟩)
 go_ret;exact⟨rfl,I⟩
def O8(u:X2)(E q:aD):aD:=.agg #[N X u.id,N X u.time,E,q]
def Yt(u:X2):Dv.small u=(decide (u.txs.length<=20)&&decide (u.logs.length<=20)&&!u.txs.any (λt:Tx=>decide (2000<t.data.length))&&!u.logs.any (λt:List UInt8=>decide (2000<t.length))):=by
 unfold Dv.small;rw[pB]
 congr 1
 .congr 1
  rw[List.all_eq_not_any_not]
  congr 2
  funext t;rw[<-decide_not];exact decide_eq_decide.2 aA
 .rw[List.all_eq_not_any_not]
  congr 2
  funext t;rw[<-decide_not];exact decide_eq_decide.2 aA
def Ii(u:X2)(vt vl:aD)(w:U)(ht:rO w vt u.txs)(I:qY w vl u.logs)(h1:u.txs.length<=4294967296)(h2:u.logs.length<=4294967296):eE PQ 102 #[O8 u vt vl] w λe w'=>e=bX (.bool (Dv.small u))/\Below w.heap.size w w':=by
 have hb:Below w.heap.size w (w.alloc (aG #[N X u.id,N X u.time,vt,vl] 42)):=(aJ _ w).alloc jE _;obtain⟨W,E⟩:∃W,W=w.alloc (aG #[N X u.id,N X u.time,vt,vl] 42):=⟨_,rfl⟩
 rw[<-E]at hb;have c1:=λW' hw=>EG vt _ W' (Rd.below (Rd.below ht hb) hw) h1;have c2:=λW' hw=>BZ vl _ W' (Rd.below (Rd.below I hb) hw) h2;have k2:W.cell? ⟨w.heap.size,2,Z⟩=M vt:=by rw[E];simp
 have k3:W.cell? ⟨w.heap.size,3,Z⟩=M vl:=by rw[E];simp
 have ac:w.heap.size<W.heap.size:=by rw[E];simp
 obtain⟨ta,tc,rfl⟩:=Rd.slice ht;obtain⟨la,lc,rfl⟩:=Rd.slice I;rw[Yt];unfold O8;obtain⟨n,J⟩:∃n,u.txs.length=n:=⟨_,rfl⟩
 obtain⟨m,hm⟩:∃m,u.logs.length=m:=⟨_,rfl⟩
 obtain⟨b1,aa⟩:∃b,u.txs.any (λt:Tx=>decide (2000<t.data.length))=b:=⟨_,rfl⟩
 obtain⟨b2,q⟩:∃b,u.logs.any (λt:List UInt8=>decide (2000<t.length))=b:=⟨_,rfl⟩
 rw[aa]at c1⊢;rw[q]at c2⊢;rw[J]at c1 k2 E⊢;rw[hm]at c2 k3 E⊢;have C1:cS _:=c1;have C2:cS _:=c2;have Y:cS _:=hb;obtain⟨r,hr⟩:∃r,(decide (n<=20)&&decide (m<=20)&&!b1&&!b2)=r:=⟨_,rfl⟩
 rw[hr];have Hr:cS _:=hr;clear c1 c2 hb hr aa q J hm h1 h2 ht I;go_enter (fq Tryz.func102 rfl),Tryz.ntmps102;go_upto_region 1 with fail;rw[<-E];clear E;by_cases J:n<=20
 .have ae:(n:Int)<=20:=by omega
  by_cases hm:m<=20
  .have ab:(m:Int)<=20:=by omega
   cases b1
   .cases b2
    all_goals
     go_wp2_with (first|(go_at_call 146;refine aT (C1.out _ ?_) ?_;(first|exact aJ _ _|exact(aJ _ _).drew|exact below_drewN (aJ _ _) _);rintro e w2 ⟨rfl,q⟩;have ag:=(q.cell (p:=⟨w.heap.size,3,Z⟩) ac).trans k3)|(go_at_call 148;refine aT (C2.out _ q) ?_;rintro e w3 ⟨rfl,af⟩)|fail)
     go_ret;refine⟨?_,Y.out.trans ((q.trans (af.mono q.size)).mono Y.out.size)⟩;rw[<-Hr.out,Z0 J,Z0 hm];rfl
   .go_wp2_with (first|(go_at_call 146;refine aT (C1.out _ ?_) ?_;(first|exact aJ _ _|exact(aJ _ _).drew|exact below_drewN (aJ _ _) _);rintro e w2 ⟨rfl,q⟩)|fail)
    go_ret;refine⟨?_,Y.out.trans (q.mono Y.out.size)⟩;rw[<-Hr.out,Z0 J,Z0 hm];rfl
  .have ab:¬(m:Int)<=20:=by omega
   go_wp2_with fail;go_ret;refine⟨?_,Y.out⟩;rw[<-Hr.out,Z0 J,ZZ hm];rfl
 .have ae:¬(n:Int)<=20:=by omega
  go_wp2_with fail;go_ret;refine⟨?_,Y.out⟩;rw[<-Hr.out,ZZ J];rfl
def wU(u:X2):Bool:=decide (0<=u.time)&&decide (u.time<=1000000)&&Dv.small u
def zM(t:Int)(u:X2):Bool:=decide (t+1<=u.time)&&decide (u.time<=t+24)&&Dv.small u
def QO(u:X2):Dv.lX Z u=wU u:=by unfold Dv.lX wU;simp only[pB]
def Vs(t:Int)(u:X2):Dv.lX (M t) u=zM t u:=by unfold Dv.lX zM;simp only[pB];rfl
def pR(w:U)(u:X2)(E q:aD):Prop:=rO w E u.txs/\qY w q u.logs/\u.txs.length<=4294967296/\u.logs.length<=4294967296
def pR.below{w w':U}{u:X2}{q E:aD}(h:pR w u q E)(I:Below w.heap.size w w'):pR w' u q E:=⟨Rd.below h.1 I,Rd.below h.2.1 I,h.2.2⟩
def first_any(u:X2)(J I:aD)(w:U)(h:pR w u J I):eE PQ 67 #[O8 u J I] w λe w'=>e=bX (.bool (wU u))/\Below w.heap.size w w':=by
 unfold O8;obtain⟨W,E,hb,-⟩:=jI w #[N X u.id,N X u.time,J,I] 42;have k0:W.cell? ⟨w.heap.size,0,Z⟩=M (N X u.id):=by rw[E];simp
 have k1:W.cell? ⟨w.heap.size,1,Z⟩=M (N X u.time):=by rw[E];simp
 have k2:W.cell? ⟨w.heap.size,2,Z⟩=M J:=by rw[E];simp
 have k3:W.cell? ⟨w.heap.size,3,Z⟩=M I:=by rw[E];simp
 have c1:=λW'=>mZ u.time 0 1000000 W';have c2:=Ii u J I W (h.below hb).1 (h.below hb).2.1 h.2.2.1 h.2.2.2;unfold O8 at c2;obtain⟨ta,tc,rfl⟩:=Rd.slice h.1;obtain⟨la,lc,rfl⟩:=Rd.slice h.2.1;obtain⟨b1,Y⟩:∃b,(decide (0<=u.time)&&decide (u.time<=1000000))=b:=⟨_,rfl⟩
 obtain⟨b2,q⟩:∃b,Dv.small u=b:=⟨_,rfl⟩
 unfold wU;rw[Y]at c1⊢;rw[q]at c2⊢;have C1:cS _:=c1;have C2:cS _:=λ(_:Unit)=>c2;have Hb:cS _:=hb;clear c1 c2 hb Y q h;go_enter (fq Tryz.func67 rfl),Tryz.ntmps67;go_upto_region 1 with fail;rw[<-E];clear E;cases b1
 .go_wp2_with (go_at_call 66;refine aT (C1.out _) ?_;rintro e w2 ⟨rfl,rfl⟩)
  go_ret;exact⟨rfl,Hb.out⟩
 .go_wp2_with (first|(go_at_call 66;refine aT (C1.out _) ?_;rintro e w2 ⟨rfl,rfl⟩)|(go_at_call 102;refine aT (C2.out ()) ?_;rintro e w2 ⟨rfl,q⟩)|fail)
  go_ret;exact⟨by cases b2<;>rfl,Hb.out.trans (q.mono Hb.out.size)⟩
def next_any(t:Int)(u:X2)(J I:aD)(w:U)(h:pR w u J I)(ht:0<=t/\t<=4294967296):eE PQ 68 #[N X t,O8 u J I] w λe w'=>e=bX (.bool (zM t u))/\Below w.heap.size w w':=by
 unfold O8;obtain⟨W,E,hb,-⟩:=jI w #[N X u.id,N X u.time,J,I] 42;have k0:W.cell? ⟨w.heap.size,0,Z⟩=M (N X u.id):=by rw[E];simp
 have k1:W.cell? ⟨w.heap.size,1,Z⟩=M (N X u.time):=by rw[E];simp
 have k2:W.cell? ⟨w.heap.size,2,Z⟩=M J:=by rw[E];simp
 have k3:W.cell? ⟨w.heap.size,3,Z⟩=M I:=by rw[E];simp
 have c1:=λW'=>mZ u.time (t+1) (t+24) W';have c2:=Ii u J I W (h.below hb).1 (h.below hb).2.1 h.2.2.1 h.2.2.2;unfold O8 at c2;obtain⟨ta,tc,rfl⟩:=Rd.slice h.1;obtain⟨la,lc,rfl⟩:=Rd.slice h.2.1;obtain⟨b1,Y⟩:∃b,(decide (t+1<=u.time)&&decide (u.time<=t+24))=b:=⟨_,rfl⟩
 obtain⟨b2,q⟩:∃b,Dv.small u=b:=⟨_,rfl⟩
 unfold zM;rw[Y]at c1⊢;rw[q]at c2⊢;have C1:cS _:=c1;have C2:cS _:=λ(_:Unit)=>c2;have Hb:cS _:=hb;obtain⟨ab,aa⟩:=ht;clear c1 c2 hb Y q h;go_enter (fq Tryz.func68 rfl),Tryz.ntmps68;go_upto_region 1 with fail;rw[<-E];clear E;cases b1
 .go_wp2_with (go_at_call 66;refine aT (C1.out _) ?_;rintro e w2 ⟨rfl,rfl⟩)
  go_ret;exact⟨rfl,Hb.out⟩
 .go_wp2_with (first|(go_at_call 66;refine aT (C1.out _) ?_;rintro e w2 ⟨rfl,rfl⟩)|(go_at_call 102;refine aT (C2.out ()) ?_;rintro e w2 ⟨rfl,q⟩)|fail)
  go_ret;exact⟨by cases b2<;>rfl,Hb.out.trans (q.mono Hb.out.size)⟩
open Go.RowKit Go.Joins Go.Shelf
open Dv (X2)
section
variable {s:List UInt8}{i:Im.It}
theorem Yi(h:Im.dec s=M i):Im.dp 9 i/\Im.wt 9 i<=2*s.length:=by
 unfold Im.dec at h;cases q:Im.read Im.body 8 s with
 |none=>rw[q]at h;cases h
 |some x=>
  obtain⟨j,n⟩:=x;rw[q]at h;simp only at h;split at h
  .cases h;rename_i E;have:=Im.abj Im.pF 8 _ _ _ q;rw[E]at this;exact this
  .cases h
theorem X9(h:Im.dec s=M i):i.kids.length<=2*s.length:=by obtain⟨q,h2⟩:=Yi h;have:=Im.wH q;omega
theorem aap{k:Im.It}(h:Im.dec s=M i)(hk:k∈i.kids):k.kids.length<=2*s.length:=by obtain⟨q,h2⟩:=Yi h;have h3:=Im.Fg (n:=8) hk;have h4:=Im.wH (n:=8) (q k hk);have E:Im.wt (8+1) i=Im.wt 9 i:=rfl;omega
def G7:Option (List (List UInt8))->Bool
 |some [a,b]=>decide (0<a.length)&&decide (a.length<=8)&&decide (b.length<=64)
 |_=>aL
theorem X6(s:List UInt8):Dv.isDep s=G7 ((Im.dec s).bind strs):=by
 unfold Dv.isDep;cases Im.dec s with
 |none=>rfl
 |some i=>
  obtain⟨E,Y,J⟩:=i;simp only[gX];unfold strs;cases E
  .rfl
  .match J with
   |[]=>rfl
   |[a]=>cases q:a.list<;>simp[G7,q]
   |[a,b]=>
    cases q:a.list<;>cases I:b.list<;>simp[G7,q,I]
    congr 1
    .congr 1
     exact decide_eq_decide.2 aA
    .exact decide_eq_decide.2 aA
   |a::b::c::r=>
    simp only;split<;>simp[G7]
theorem GI(s:ByteArray)(w:U)(hs:s.size<=16777216)(hH:kG w):eE PQ 150 #[aH s] w λe w'=>e=bX (.bool (Dv.isDep s.data.toList))/\Below w.heap.size w w':=by
 rw[X6];have ai:=Z0 (show True from trivial);have I:=decode_any s w hs hH;cases hd:Im.dec s.data.toList with
 |none=>
  rw[hd]at I;have aa:cS _:=λ(_:Unit)=>I;have Hb:cS _:=λW o=>(aJ _ W).alloc jE o;clear I hd ai;go_enter (fq Tryz.func150 rfl),Tryz.ntmps150;go_wp2_with (go_at_call 175;refine aT (aa.out ()) ?_;rintro e w2 ⟨he,ab⟩;unfold Jw at he;subst he)
  go_ret;exact⟨rfl,ab.alloc ab.size _⟩
 |some i=>
  rw[hd]at I;have hk:=X9 hd;rw[<-bD]at hk;simp only[gX];obtain⟨R,hR⟩:∃R,strs i=R:=⟨_,rfl⟩
  rw[hR];have aa:cS _:=λ(_:Unit)=>I;obtain⟨D,hD⟩:∃D:ByteArray,(⟨i.bytes.toArray⟩:ByteArray)=D:=⟨_,rfl⟩
  obtain⟨li,af⟩:∃li,i.list=li:=⟨_,rfl⟩
  obtain⟨nk,ae⟩:∃nk,i.kids.length=nk:=⟨_,rfl⟩
  have H:cS _:=jD hR (jD hD (jD af (jD ae hk)));clear I hd ai hR hD af ae hk;go_enter (fq Tryz.func150 rfl),Tryz.ntmps150;go_upto_region 2 with(go_at_call 175;refine aT (aa.out ()) ?_;rintro e w2 ⟨he,ab⟩;obtain⟨a,cap,he,ht⟩:=he;rw[H.out.2.1,H.out.2.2.1,H.out.2.2.2.1]at he;subst he;have HT:cS (Tr _ _ _ _ _ _ _ _):=ht;clear ht)
  obtain⟨W,hW,ag,-⟩:=jI w2 #[.bool li,aH D,.slice a nk cap] 103;have z0:W.cell? ⟨w2.heap.size,0,Z⟩=M (.bool li):=by rw[hW];simp
  have z1:W.cell? ⟨w2.heap.size,1,Z⟩=M (aH D):=by rw[hW];simp
  have z2:W.cell? ⟨w2.heap.size,2,Z⟩=M (.slice a nk cap):=by rw[hW];simp
  rw[<-hW];obtain⟨hR,hD,af,ae,hk⟩:=H.out;have ao:=In.below (ag) _ _ _ _ _ (Tr.inn 9 _ _ _ _ _ _ jE HT.out);have ac:=xC 7 _ i _ W ag.size ao aA;rw[hD,af,ae,hR]at ac;have J:cS _:=λ(_:Unit)=>ac;have HB:cS _:=ab.trans (ag.mono ab.size);clear hR hD af ae hk ao ac ag hW ab H;cases R with
  |none=>
   go_wp2_with (go_at_call 177;refine aT (J.out ()) ?_;rintro e w3 ⟨he,E⟩;unfold Strs at he;subst he)
   go_ret;exact⟨rfl,HB.out.trans (E.mono HB.out.size)⟩
  |some l=>
   by_cases aj:l.length=2
   .obtain⟨x,y,rfl⟩:∃x y,l=[x,y]:=by
     match l,aj with
     |[x,y],_=>exact⟨x,y,rfl⟩
    obtain⟨Wa,hX⟩:∃Wa:ByteArray,(⟨x.toArray⟩:ByteArray)=Wa:=⟨_,rfl⟩
    obtain⟨Y,hY⟩:∃Y:ByteArray,(⟨y.toArray⟩:ByteArray)=Y:=⟨_,rfl⟩
    have aq:Wa.size=x.length:=by rw[<-hX];rfl
    have ap:Y.size=y.length:=by rw[<-hY];rfl
    have ak:G7 (M [x,y])=(decide (0<Wa.size)&&decide (Wa.size<=8)&&decide (Y.size<=64)):=by rw[aq,ap];rfl
    have ah:=Fr.toList_empty Wa;have HX:cS _:=jD hX hY;have Hr:cS _:=ak;clear hX hY aq ap ak;by_cases h0:Wa.size=0
    .have am:Wa.toList.isEmpty=bB:=by rw[ah];exact Z0 h0
     clear ah;go_wp2_with (go_at_call 177;refine aT (J.out ()) ?_;rintro e w3 ⟨⟨ra,rc,rfl,q⟩,E⟩;obtain⟨g,off,an,hv,_⟩:=q.1.pos aC;(simp only[eQ,true_and]at hv);obtain⟨rfl,rfl⟩:=hv;have k0:w3.cell? ⟨g,off,Z⟩=M (aH Wa):=(by have:=q.1.cell rfl 0 (aH Wa) (by unfold lM;rw[<-HX.out.1];rfl);simpa using this);have k1:=(q.1.cell rfl 1 (aH Y) (by unfold lM;rw[<-HX.out.2];rfl));have H3:cS _:=E;clear E q)
     go_ret;refine⟨?_,HB.out.trans (H3.out.mono HB.out.size)⟩;rw[Hr.out,ZZ (show ¬0<Wa.size by omega)];rfl
    .have am:Wa.toList.isEmpty=aL:=by rw[ah];exact ZZ h0
     clear ah;by_cases h8:Wa.size<=8
     .have ar:(Wa.size:Int)<=8:=by omega
      go_wp2_with (go_at_call 177;refine aT (J.out ()) ?_;rintro e w3 ⟨⟨ra,rc,rfl,q⟩,E⟩;obtain⟨g,off,an,hv,_⟩:=q.1.pos aC;(simp only[eQ,true_and]at hv);obtain⟨rfl,rfl⟩:=hv;have k0:w3.cell? ⟨g,off,Z⟩=M (aH Wa):=(by have:=q.1.cell rfl 0 (aH Wa) (by unfold lM;rw[<-HX.out.1];rfl);simpa using this);have k1:=(q.1.cell rfl 1 (aH Y) (by unfold lM;rw[<-HX.out.2];rfl));have H3:cS _:=E;clear E q)
      go_ret;refine⟨?_,HB.out.trans (H3.out.mono HB.out.size)⟩;rw[Hr.out,Z0 (show 0<Wa.size by omega),Z0 h8];have:decide ((Y.size:Int)<=64)=decide (Y.size<=64):=decide_eq_decide.2 aA
      show Ending.returned (cF (decide ((Y.size:Int)<=64)))=_
      rw[this];rfl
     .have ar:¬(Wa.size:Int)<=8:=by omega
      go_wp2_with (go_at_call 177;refine aT (J.out ()) ?_;rintro e w3 ⟨⟨ra,rc,rfl,q⟩,E⟩;obtain⟨g,off,an,hv,_⟩:=q.1.pos aC;(simp only[eQ,true_and]at hv);obtain⟨rfl,rfl⟩:=hv;have k0:w3.cell? ⟨g,off,Z⟩=M (aH Wa):=(by have:=q.1.cell rfl 0 (aH Wa) (by unfold lM;rw[<-HX.out.1];rfl);simpa using this);have k1:=(q.1.cell rfl 1 (aH Y) (by unfold lM;rw[<-HX.out.2];rfl));have H3:cS _:=E;clear E q)
      go_ret;refine⟨?_,HB.out.trans (H3.out.mono HB.out.size)⟩;rw[Hr.out,Z0 (show 0<Wa.size by omega),ZZ h8];rfl
   .have hr:G7 (M l)=aL:=by
     match l,aj with
     |[],_=>rfl
     |[_],_=>rfl
     |_::_::_::_,_=>rfl
    have Hr:cS _:=hr;obtain⟨n,hn⟩:∃n,l.length=n:=⟨_,rfl⟩
    have au:((n:Int) == 2)=aL:=ZS aA;have Hn:cS _:=hn;clear hr aj hn;go_wp2_with (go_at_call 177;refine aT (J.out ()) ?_;rintro e w3 ⟨⟨ra,rc,he,q⟩,E⟩;rw[Hn.out]at he;subst he;have H3:cS _:=E;clear E q)
    go_ret;exact⟨by rw[Hr.out];rfl,HB.out.trans (H3.out.mono HB.out.size)⟩
theorem Dk(v:aD)(l:List (List UInt8))(w:U)(h:qY w v l)(hl:l.length<=4294967296)(hs:∀x,x∈l->x.length<=16777216)(hH:kG w):eE PQ 103 #[v] w λe w'=>∃a cap,e=bX (.slice a (l.filter Dv.isDep).length cap)/\Made w' w.heap.size (.slice a (l.filter Dv.isDep).length cap) (l.filter Dv.isDep)/\Below w.heap.size w w':=by
 obtain⟨a,cap,rfl⟩:=Rd.slice h;obtain⟨i0,aq,am,au,ao⟩:=info_parts uY;have Hi:cS _:=jD aq (jD am (jD au ao));have H:cS _:=jD h (jD hs hH);have h0:=hH.pos;clear h hs aq am au ao hH;go_enter (fq Tryz.func103 rfl),Tryz.ntmps103;go_wp2_with fail;go_loopg [3,5,8] l.length (λgg v3 _ v8 wx=>∃(k m:Nat)(ra:Option Addr)(rc:Nat),k<=l.length/\v8=N X k/\v3=.slice ra m rc/\m<=k/\gg=l.length-k/\cS (m=((l.take k).filter Dv.isDep).length/\Made wx w.heap.size (.slice ra m rc) ((l.take k).filter Dv.isDep)/\Below w.heap.size w wx))
 case atStart=>exact⟨0,0,Z,0,dL _,rfl,rfl,jE,rfl,rfl,⟨Row.nil _ _ _,by simp[Value.ownBlock]⟩,aJ _ _⟩
 case round=>
  obtain⟨k,m,ra,rc,hk,rfl,rfl,a3,rfl,Y⟩:=hrel;by_cases ay:k<l.length
  .have ar:(k:Int)<l.length:=by omega
   obtain⟨x,hx⟩:∃x,l[k]? =M x:=⟨_,aO ay⟩
   obtain⟨g,off,a1,hv,_⟩:=Rd.pos H.out.1 aA;simp only[eQ,true_and]at hv;obtain⟨rfl,rfl⟩:=hv;have k0:=qY.get (Rd.below H.out.1 Y.out.2.2) hx;obtain⟨Wa,hX⟩:∃Wa:ByteArray,(⟨x.toArray⟩:ByteArray)=Wa:=⟨_,rfl⟩
   have an:Wa.data.toList=x:=by rw[<-hX]
   have aj:Wa.size<=16777216:=by rw[<-hX];exact H.out.2.1 x (aX hx)
   rw[hX]at k0;have I:=GI Wa wr aj (H.out.2.2.below Y.out.2.2 h0);rw[an]at I;obtain⟨b,hb⟩:∃b,Dv.isDep x=b:=⟨_,rfl⟩
   rw[hb]at I
   have ab:l.take (k+1)=l.take k++[x]:=by
    obtain⟨av,rfl⟩:=aN.1 hx;exact eY av
   have ac:cS _:=λ(_:Unit)=>I;have ag:cS _:=λV=>Fr.clone_any Wa V aj;have HX:cS _:=jD hX (jD hb ab);have af:=λV (hV:Below _ wr V)=>Y.out.2.1.1.below hV;rw[<-Y.out.1]at af;have ak:cS _:=af;clear I hX an aj hb ab hx af;cases b
   .go_wp2_with (go_at_call 150;refine aT (ac.out ()) ?_;rintro e w2 ⟨rfl,ae⟩)
    go_roundg (l.length-(k+1))
    case measure=>omega
    case rel=>
     obtain⟨hX,hb,ab⟩:=HX.out;have hf:(l.take (k+1)).filter Dv.isDep=(l.take k).filter Dv.isDep:=by rw[ab,iJ,eG,Zs (by rw[hb];simp),List.filter_nil,gI]
     refine⟨_,m,ra,rc,aA,by go_num,rfl,aA,rfl,?_,?_,Y.out.2.2.trans (ae.mono Y.out.2.2.size)⟩
     .rw[hf];exact Y.out.1
     .rw[hf];exact⟨Y.out.2.1.1.below ae,Y.out.2.1.2⟩
   .go_wp2_with (first|(go_at_call 150;refine aT (ac.out ()) ?_;rintro e w2 ⟨rfl,ae⟩)|(go_at_call 151;refine aT (ag.out _) ?_;rintro e w3 ⟨rfl,az⟩;have ah:=ae.trans (az.mono ae.size);have aa:cS _:=ah;clear ah)|(at_builtin;refine kJ _ rfl (.tmp 14) (.tmp 17) 40 rfl 9 i0 _ 1 16 (uq Tryz.underlying40) Hi.out.1 Hi.out.2.1 Hi.out.2.2.1 Hi.out.2.2.2 rfl aB _ m _ rfl (ak.out _ (aa.out.alloc aa.out.size _)) _ 1 1 [aH Wa] rfl aB rfl (by intro j u hj;match j,hj with|0,hj=>(simp at hj;subst hj;simp[Addr.add])) (by intro u hu;simp at hu;subst hu;rfl) (by unfold maxLen;omega) aA ?_;intro g5 a2 ap w5 J E;have aw:cS _:=jD J E;clear J E)|go_in)
    go_roundg (l.length-(k+1))
    case measure=>omega
    case rel=>
     obtain⟨hX,hb,ab⟩:=HX.out;obtain⟨J,E⟩:=aw.out;have hf:(l.take (k+1)).filter Dv.isDep=(l.take k).filter Dv.isDep++[x]:=by rw[ab,iJ,eG,ZD hb,List.filter_nil]
     have ai:Below w.heap.size w (w3.alloc (aG #[aH Wa] 9)):=Y.out.2.2.trans ((aa.out.alloc aa.out.size _).mono Y.out.2.2.size)
     have ax:w.heap.size<=g5:=by
      obtain e|e:=E.own
      .exact Y.out.2.1.2 g5 e
      .exact bH ai.size e
     refine⟨_,_,_,ap,aA,by go_num,rfl,aA,rfl,?_,⟨?_,?_⟩,?_⟩
     .rw[hf,aS,<-Y.out.1];rfl
     .rw[hf,aS,<-Y.out.1,bJ];have:[x].map lM=[aH Wa]:=by unfold lM;rw[<-hX];rfl
      rw[this];exact J
     .intro q hq;have:M g5=M q:=hq;cases this;exact ax
     .refine ai.trans ⟨E.jR.os,E.jR.tape,E.jR.output,E.jR.size,λq hq=>E.jR.block q (aP hq ai.size) (λe=>?_)⟩;have:=Y.out.2.1.2 q e;omega
  .have ar:¬(k:Int)<l.length:=by omega
   obtain rfl:k=l.length:=aA
   go_wp2_with fail;go_ret;obtain⟨q1,q2,q3⟩:=Y.out;rw[iM]at q1 q2;subst q1;exact⟨ra,rc,rfl,q2,q3⟩
end
open Fr (below_drewN)
open Dv (X2 Cf)
def FZ{w:U}{b:Nat}(x y z:aD)(g:Nat)(h:g≠b):(((w.setCell ⟨b,0,Z⟩ x).setCell ⟨b,1,Z⟩ y).setCell ⟨b,2,Z⟩ z).heap[g]? =w.heap[g]?:=by rw[aW _ _ _ _ h,aW _ _ _ _ h,aW _ _ _ _ h]
def NQ(u:X2)(vt vl:aD)(w:U)(h:pR w u vt vl)(hs:∀x,x∈u.logs->x.length<=16777216)(hH:kG w):eE PQ 69 #[O8 u vt vl] w λe w'=>∃a cap,e=bX (.agg #[N X u.id,N X u.time,.slice a (Dv.jS u).length cap])/\Made w' w.heap.size (.slice a (Dv.jS u).length cap) (Dv.jS u)/\Below w.heap.size w w':=by
 unfold O8 Dv.jS;obtain⟨ta,tc,rfl⟩:=Rd.slice h.1;obtain⟨la,lc,rfl⟩:=Rd.slice h.2.1;obtain⟨W,hW⟩:∃W,W=(w.alloc (aG #[N X u.id,N X u.time,.slice ta u.txs.length tc,.slice la u.logs.length lc] 42)).alloc (aG #[N X 0,N X 0,aR Z 0 0] 139):=⟨_,rfl⟩
 have I:Below w.heap.size w W:=by rw[hW];exact((aJ _ w).alloc jE _).alloc aC _
 have aa:W.heap.size=w.heap.size+2:=by rw[hW];simp
 have zo:W.heap[w.heap.size]? =M (aG #[N X u.id,N X u.time,.slice ta u.txs.length tc,.slice la u.logs.length lc] 42 (0,0)):=by
  rw[hW];exact(aZ _ _ _ aC).trans (cX _ _)
 have ro:W.heap[w.heap.size+1]? =M (aG #[N X 0,N X 0,aR Z 0 0] 139 (0,0)):=by
  rw[hW];have:=cX (w.alloc (aG #[N X u.id,N X u.time,.slice ta u.txs.length tc,.slice la u.logs.length lc] 42)) (aG #[N X 0,N X 0,aR Z 0 0] 139);simp only[fB]at this;exact this
 obtain⟨z0,z1,-,z3⟩:=cells4 zo
 have E:=λV hV=>(Dk _ _ V (Rd.below (Rd.below h.2.1 I) hV) h.2.2.2 hs ((hH.below I hH.pos).below hV (by have:=hH.pos;omega))).mono
  (R':=λe w'=>∃a cap,e=bX (.slice a (u.logs.filter Dv.isDep).length cap)/\w'.cell? ⟨w.heap.size,0,Z⟩=M (N X u.id)/\w'.cell? ⟨w.heap.size,1,Z⟩=M (N X u.time)/\w'.cell? ⟨w.heap.size+1,0,Z⟩=M (N X 0)/\w'.cell? ⟨w.heap.size+1,1,Z⟩=M (N X 0)/\w'.cell? ⟨w.heap.size+1,2,Z⟩=M (aR Z 0 0)/\(∀q,w'.frozen? ⟨w.heap.size+1,q,Z⟩=aL)/\cS (Made w' W.heap.size (.slice a (u.logs.filter Dv.isDep).length cap) (u.logs.filter Dv.isDep)/\Below W.heap.size W w'/\w'.heap[w.heap.size+1]? =M (aG #[N X 0,N X 0,aR Z 0 0] 139 (0,0))))
  (λe w' ⟨a,cap,p1,p2,p3⟩=>by
   have q3:=hV.trans (p3.mono hV.size);have qz:w'.heap[w.heap.size]? =_:=(q3.block _ aA).trans zo;have qr:w'.heap[w.heap.size+1]? =_:=(q3.block _ aA).trans ro;refine⟨a,cap,p1,by rw[aI qz];rfl,by rw[aI qz];rfl,by rw[aI qr];rfl,by rw[aI qr];rfl,by rw[aI qr];rfl,aQ qr,⟨p2.1,λg hg=>bH hV.size (p2.2 g hg)⟩,q3,qr⟩)
 have J:cS _:=E;have Hb:cS _:=I;have Y:=aJ W.heap.size W;clear E h hs hH I zo ro;go_enter (fq Tryz.func69 rfl),Tryz.ntmps69;go_upto_region 1 with fail;rw[<-hW];clear hW;go_region_with (go_at_call 103;(refine aT (J.out _ ?_) ?_;(first|exact Y|exact Y.drew|exact below_drewN Y _);rintro e w5 ⟨ra,rc,rfl,f0,f1,r0,r1,r2,rz,H5⟩))
 all_goals
  go_wp2_with fail;obtain⟨p1,p2,p3⟩:=H5.out;refine bodyPost_ret (v:=.agg _) (by simp[results,Tryz.results69,go_sem,r0,r1,r2]) rfl ⟨ra,rc,rfl,?_,?_⟩
  .exact⟨p1.1.kept (λg hg=>FZ _ _ _ _ (by have:=p1.2 g hg;omega)),λg hg=>by have:=p1.2 g hg;omega⟩
  .exact Hb.out.trans ((p2.mono Hb.out.size).trans ⟨rfl,rfl,rfl,aC,λq hq=>FZ _ _ _ _ aA⟩)
def jT(c:Cf)(vu:aD)(nb:Nat)(vo vw:aD)(cnt ep sq:Int):Array aD:=#[N .u32 c.inbox,N .u32 c.batcher,N X c.timeout,N X c.window,N X c.drift,N X c.step,N X c.most,vu,.map (M nb),vo,vw,N X cnt,N X ep,N X sq]
def new_any(c:Cf)(w:U):eE PQ 38 #[.agg (jL c)] w λe w'=>e=bX (aM (M ⟨w.heap.size+2,0,Z⟩))/\w'=((w.alloc (aG (jL c) 24)).alloc (.map #[] 0)).alloc (aG (jT c (aR Z 0 0) (w.heap.size+1) (aR Z 0 0) (aR Z 0 0) 0 0 0) 137):=by unfold jL jT;go_enter (fq Tryz.func38 rfl),Tryz.ntmps38;have q:=@run_makeMap PQ;go_wp2_with fail;go_ret;exact⟨rfl,rfl⟩
open Dv (X2 Cf Ba)
section
variable {w:U}{kb cnt ep e:Nat}
abbrev PB:=Int×Int×aD
variable {us:List PB}
def qW(p:PB):List aD:=[N X p.1,N X p.2.1,p.2.2]
structure Look(w:U)(kb:Nat)(c:Cf)(us:List PB)(cnt ep:Nat):Prop where
 obj:∃vu nb vo vw sq,w.heap[kb]? =M (aG (jT c vu nb vo vw cnt ep sq) 137 (0,0))/\Rd w 3 vu us.length (us.flatMap qW)
 times:∀p,p∈us->0<=p.2.1/\p.2.1<=4294967296
 step:0<=c.step/\c.step<=20
 drift:0<=c.drift/\c.drift<=100
 window:0<=c.window/\c.window<=8
 cnt:cnt<=4294967296
 len:us.length<=4294967296
theorem Look.below{w':U}{c:Cf}(h:Look w kb c us cnt ep)(E:Below w.heap.size w w'):Look w' kb c us cnt ep:=by obtain⟨vu,nb,vo,vw,sq,q,h2⟩:=h.obj;exact⟨⟨vu,nb,vo,vw,sq,(E.block _ (jG q)).trans q,h2.below E⟩,h.times,h.step,h.drift,h.window,h.cnt,h.len⟩
theorem Look.drewN{c:Cf}(h:Look w kb c us cnt ep)(m:Nat):Look (w.drewN m) kb c us cnt ep:=h.below (below_drewN (aJ _ _) _)
def lT(c:Cf)(us:List PB)(cnt:Nat):Int:=(us.getD 0 (0,0,.nilFunc)).2.1+cnt*c.step
theorem FU(kb:Nat)(c:Cf)(us:List PB)(cnt ep:Nat)(w:U)(h:Look w kb c us cnt ep)(Y:0<us.length):eE PQ 178 #[aM (M ⟨kb,0,Z⟩)] w λe w'=>e=bX (N X (lT c us cnt))/\∃m,w'=w.drewN m:=by
 obtain⟨vu,nb,vo,vw,sq,ho,I⟩:=h.obj;obtain⟨g,off,cap,rfl,ac,hg,hx⟩:=I.pos Y;obtain⟨p,hp⟩:∃p,us[0]? =M p:=⟨_,aO Y⟩
 have k1:w.cell? ⟨g,off+1,Z⟩=M (N X p.2.1):=by
  have:=Rd.rec qW 3 (λ_=>rfl) I hp (i:=1) (u:=.int _ _) aA rfl;simpa using this
 have c7:w.cell? ⟨kb,7,Z⟩=M (aR (M ⟨g,off,Z⟩) us.length cap):=nV ho rfl;have c5:w.cell? ⟨kb,5,Z⟩=M (N X c.step):=nV ho rfl;have c11:w.cell? ⟨kb,11,Z⟩=M (N X cnt):=nV ho rfl;have aa:(0:Int)<(us.length:Int):=aA
 have ht:lT c us cnt=p.2.1+cnt*c.step:=by
  unfold lT;rw[aY,hp];rfl
 rw[ht];obtain⟨t1,t2⟩:=h.times p (aX hp);obtain⟨s1,s2⟩:=h.step;have hc:=h.cnt;obtain⟨q,E⟩:∃x,c.step=x:=⟨_,rfl⟩
 rw[E]at s1 s2 c5⊢;have m1:0<=(cnt:Int)*q:=Int.mul_nonneg aA s1
 have m2:(cnt:Int)*q<=85899345920:=by
  have h1:(cnt:Int)*q<=4294967296*q:=Int.mul_le_mul_of_nonneg_right aA s1;omega
 obtain⟨tp,J⟩:∃x,p.2.1=x:=⟨_,rfl⟩
 rw[J]at t1 t2 k1⊢;have ae:IntKind.i64.wrap ((cnt:Int)*q)=(cnt:Int)*q:=by rw[cP];omega
 have ab:IntKind.i64.wrap (tp+(cnt:Int)*q)=tp+(cnt:Int)*q:=by rw[cP];omega
 clear h ho I hx hp ht;go_enter (fq Tryz.func178 rfl),Tryz.ntmps178;go_upto_region 1 with fail;go_quiet (fail);go_wp2_with fail;go_ret;exact⟨rfl,_,rfl⟩
def BM(us:List PB)(e:Nat):Int:=(us.getD e (0,0,.nilFunc)).2.1
def Ia(us:List PB)(e:Nat):Int:=(us.getD e (0,0,.nilFunc)).1
theorem wJ{p:PB}(h:us[e]? =M p):BM us e=p.2.1:=by unfold BM;rw[aY,h];rfl
theorem Jl{p:PB}(h:us[e]? =M p):Ia us e=p.1:=by unfold Ia;rw[aY,h];rfl
theorem yg(kb:Nat)(c:Cf)(us:List PB)(cnt ep:Nat)(w:U)(h:Look w kb c us cnt ep)(E:0<us.length):eE PQ 124 #[aM (M ⟨kb,0,Z⟩)] w λe w'=>e=bX (N X ((us.length-1:Nat):Int))/\∃m,w'=w.drewN m:=by
 obtain⟨vu,nb,vo,vw,sq,ho,q⟩:=h.obj;obtain⟨g,off,cap,rfl,J,hg,Y⟩:=q.pos E;have c7:w.cell? ⟨kb,7,Z⟩=M (aR (M ⟨g,off,Z⟩) us.length cap):=nV ho rfl;have I:=h.len;obtain⟨n,hn⟩:∃n,us.length=n+1:=⟨us.length-1,aA⟩
 rw[hn]at c7 I⊢;clear h ho q Y;go_enter (fq Tryz.func124 rfl),Tryz.ntmps124;go_wp2_with fail;go_ret;refine⟨?_,0,rfl⟩;simp
theorem KQ(kb:Nat)(c:Cf)(us:List PB)(cnt ep:Nat)(e:Nat)(t:Int)(w:U)(h:Look w kb c us cnt ep)(he:e<us.length):eE PQ 208 #[aM (M ⟨kb,0,Z⟩),N X e,N X t] w λx w'=>x=bX (cF (decide (BM us e+c.drift<t)))/\∃m,w'=w.drewN m:=by
 obtain⟨vu,nb,vo,vw,sq,ho,q⟩:=h.obj;obtain⟨g,off,cap,rfl,ac,hg,hx⟩:=q.pos aA;obtain⟨p,hp⟩:∃p,us[e]? =M p:=⟨_,aO he⟩
 have k1:w.cell? ⟨g,off+e*3+1,Z⟩=M (N X p.2.1):=by
  have:=Rd.rec qW 3 (λ_=>rfl) q hp (i:=1) (u:=.int _ _) aA rfl;rw[<-dV]at this;exact this
 have c7:w.cell? ⟨kb,7,Z⟩=M (aR (M ⟨g,off,Z⟩) us.length cap):=nV ho rfl;have c4:w.cell? ⟨kb,4,Z⟩=M (N X c.drift):=nV ho rfl;have aa:(e:Int)<us.length:=aA
 rw[wJ hp];obtain⟨t1,t2⟩:=h.times p (aX hp);obtain⟨s1,s2⟩:=h.drift;obtain⟨E,Y⟩:∃x,c.drift=x:=⟨_,rfl⟩
 rw[Y]at s1 s2 c4⊢;obtain⟨I,J⟩:∃x,p.2.1=x:=⟨_,rfl⟩
 rw[J]at t1 t2 k1⊢;have ab:IntKind.i64.wrap (I+E)=I+E:=by rw[cP];omega
 obtain⟨r,q⟩:∃r,decide (I+E<t)=r:=⟨_,rfl⟩
 rw[q];have Hr:cS _:=q;clear h ho hx hp q;go_enter (fq Tryz.func208 rfl),Tryz.ntmps208;go_upto_region 1 with fail;go_quiet (fail);go_wp2_with fail;go_ret;exact⟨by rw[<-Hr.out];rfl,_,rfl⟩
def QE(b:Ba)(v:aD):aD:=.agg #[N X b.epoch,N X b.id,N X b.time,v,N X b.place]
def waits(c:Cf)(us:List PB)(ep:Nat)(t:Int)(b:Ba)(k:Nat):Bool:=if ep+1<=us.length-1 then aL else(b.epoch == ep+1 || (k == 0&&decide (BM us ep+c.drift<t)))
theorem Jv(kb:Nat)(c:Cf)(us:List PB)(cnt ep:Nat)(t:Int)(b:Ba)(va:Option Addr)(k vc:Nat)(w:U)(h:Look w kb c us cnt ep)(ap:ep<us.length):eE PQ 207 #[aM (M ⟨kb,0,Z⟩),QE b (.slice va k vc),N X t] w λx w'=>x=bX (.bool (waits c us ep t b k))/\Below w.heap.size w w':=by
 unfold QE;obtain⟨W,hW,ae,-⟩:=jI w #[N X b.epoch,N X b.id,N X b.time,.slice va k vc,N X b.place] 150;have z0:W.cell? ⟨w.heap.size,0,Z⟩=M (N X b.epoch):=by rw[hW];simp
 have z3:W.cell? ⟨w.heap.size,3,Z⟩=M (.slice va k vc):=by rw[hW];simp
 have Y:=h.below ae;obtain⟨vu,nb,vo,vw,sq,ho,_⟩:=Y.obj;have ag:W.cell? ⟨kb,12,Z⟩=M (N X ep):=nV ho rfl;have I:=λm=>yg kb c us cnt ep _ (Y.drewN m) aA;have E:=λV hV=>KQ kb c us cnt ep ep t V (Y.below hV) ap;obtain⟨n,hn⟩:∃n,us.length-1=n:=⟨_,rfl⟩
 obtain⟨q,hq⟩:∃q,decide (BM us ep+c.drift<t)=q:=⟨_,rfl⟩
 obtain⟨r,hr⟩:∃r,waits c us ep t b k=r:=⟨_,rfl⟩
 have J:=hr;unfold waits at J;rw[hq,hn]at J;rw[hn]at I;rw[hq]at E;rw[hr];have hl:=h.len;have ah:cS _:=I;have ac:cS _:=E;have H:cS _:=jD J ae;clear h Y ho I E hr J hq ae;go_enter (fq Tryz.func207 rfl),Tryz.ntmps207;go_upto_region 1 with fail;rw[<-hW];clear hW;go_quiet ((go_at_call 124;exact Calls.quiet_of (ah.out _)));by_cases h1:ep+1<=n
 .have an:(ep:Int)+1<=(n:Int):=by omega
  go_wp2_with fail;go_ret;refine⟨?_,H.out.2.trans (below_drewN (aJ _ _) _)⟩;rw[<-H.out.1,ZD h1];rfl
 .have an:¬(ep:Int)+1<=(n:Int):=by omega
  go_upto_region 3 with fail;generalize hV:World.drewN _ _=V;have ai:Below W.heap.size W V:=by rw[<-hV];exact below_drewN (aJ _ _) _
  have y0:V.cell? ⟨w.heap.size,0,Z⟩=M (N X b.epoch):=by rw[<-hV];exact z0
  have y3:V.cell? ⟨w.heap.size,3,Z⟩=M (.slice va k vc):=by rw[<-hV];exact z3
  have aq:V.cell? ⟨kb,12,Z⟩=M (N X ep):=by rw[<-hV];exact ag
  have aj:=λm=>ac.out _ (below_drewN ai m);have ak:cS _:=aj;have ab:=H.out.2.trans (ai.mono H.out.2.size);clear hV z0 z3 ag aj;have af:=H.out.1;rw[Zs h1]at af;have aa:cS _:=af;clear af;by_cases h2:b.epoch=ep+1
  .have am:((b.epoch:Int) == (ep:Int)+1)=bB:=by rw[h2];simp
   have H2:cS _:=h2;clear h2;go_quiet (fail);go_wp2_with fail;go_ret;refine⟨?_,ab.trans ⟨rfl,rfl,rfl,jE,λ_ _=>rfl⟩⟩;rw[<-aa.out,H2.out];simp
  .have am:((b.epoch:Int) == (ep:Int)+1)=aL:=ZS aA;have H2:cS _:=h2;clear h2;by_cases h3:k=0
   .have ao:((k:Int) == 0)=bB:=by rw[h3];rfl
    have H3:cS _:=h3;clear h3;go_quiet ((go_at_call 208;exact Calls.quiet_of (ak.out _)));go_wp2_with fail;go_ret;refine⟨?_,ab.trans ⟨rfl,rfl,rfl,jE,λ_ _=>rfl⟩⟩;rw[<-aa.out,ZS H2.out,H3.out];simp
   .have ao:((k:Int) == 0)=aL:=ZS aA;have H3:cS _:=h3;clear h3;go_quiet (fail);go_wp2_with fail;go_ret;refine⟨?_,ab.trans ⟨rfl,rfl,rfl,jE,λ_ _=>rfl⟩⟩;rw[<-aa.out,ZS H2.out,ZS H3.out];simp
def allows(us:List PB)(ep:Nat)(t:Int)(b:Ba)(k:Nat):Bool:=k == 0&&(b.epoch != ep || decide (t<BM us (ep+1)))
theorem BR(kb:Nat)(c:Cf)(us:List PB)(cnt ep:Nat)(t:Int)(b:Ba)(va:Option Addr)(k vc:Nat)(w:U)(h:Look w kb c us cnt ep)(aa:k=0->b.epoch=ep->ep+1<us.length):eE PQ 209 #[aM (M ⟨kb,0,Z⟩),QE b (.slice va k vc),N X t] w λx w'=>x=bX (.bool (allows us ep t b k))/\Below w.heap.size w w':=by
 unfold QE;obtain⟨W,hW,E,-⟩:=jI w #[N X b.epoch,N X b.id,N X b.time,.slice va k vc,N X b.place] 150;have z0:W.cell? ⟨w.heap.size,0,Z⟩=M (N X b.epoch):=by rw[hW];simp
 have z3:W.cell? ⟨w.heap.size,3,Z⟩=M (.slice va k vc):=by rw[hW];simp
 have ab:=h.below E;obtain⟨vu,nb,vo,vw,sq,ho,hr⟩:=ab.obj;have ah:W.cell? ⟨kb,12,Z⟩=M (N X ep):=nV ho rfl;have c7:W.cell? ⟨kb,7,Z⟩=M vu:=nV ho rfl;obtain⟨r,q⟩:∃r,allows us ep t b k=r:=⟨_,rfl⟩
 rw[q];unfold allows at q;have H:cS _:=jD q (jD E (jD hr aa));have hl:=h.len;clear h ab ho q E hr aa;go_enter (fq Tryz.func209 rfl),Tryz.ntmps209;go_upto_region 1 with fail;rw[<-hW];clear hW;by_cases h3:k=0
 .have af:((k:Int) == 0)=bB:=by rw[h3];rfl
  have J:cS _:=h3;clear h3;by_cases h2:b.epoch=ep
  .have ae:((b.epoch:Int) != (ep:Int))=aL:=by rw[h2];simp
   have ac:=H.out.2.2.2 J.out h2;obtain⟨g,off,cap,rfl,ai,hg,hx⟩:=H.out.2.2.1.pos aA;obtain⟨p,hp⟩:∃p,us[ep+1]? =M p:=⟨_,aO ac⟩
   have k1:W.cell? ⟨g,off+(ep+1)*3+1,Z⟩=M (N X p.2.1):=by
    have:=Rd.rec qW 3 (λ_=>rfl) H.out.2.2.1 hp (i:=1) (u:=.int _ _) aA rfl;rw[<-dV]at this;exact this
   have ag:(ep:Int)+1<(us.length:Int):=aA
   have I:=wJ hp;obtain⟨tp,Y⟩:∃x,p.2.1=x:=⟨_,rfl⟩
   rw[Y]at k1 I;have H2:cS _:=jD h2 I;clear h2 hx hp Y I;go_quiet (fail);go_wp2_with fail;go_ret;refine⟨?_,H.out.2.1.trans ⟨rfl,rfl,rfl,jE,λ_ _=>rfl⟩⟩;rw[<-H.out.1,H2.out.2,J.out,H2.out.1];simp
  .have ae:((b.epoch:Int) != (ep:Int))=bB:=by
    rw[bne_iff_ne];omega
   have H2:cS _:=h2;clear h2;go_quiet (fail);go_wp2_with fail;go_ret;refine⟨?_,H.out.2.1.trans ⟨rfl,rfl,rfl,jE,λ_ _=>rfl⟩⟩;rw[<-H.out.1,J.out,bne_iff_ne.2 H2.out];simp
 .have af:((k:Int) == 0)=aL:=ZS aA;have J:cS _:=h3;clear h3;go_quiet (fail);go_wp2_with fail;go_ret;refine⟨?_,H.out.2.1.trans ⟨rfl,rfl,rfl,jE,λ_ _=>rfl⟩⟩;rw[<-H.out.1,ZS J.out];simp
end
end Hm
