import Derived.Test.YtpibpdpedjinhaaGreatDoorP21
set_option maxRecDepth 100000
set_option maxHeartbeats 8000000
set_option linter.unusedSimpArgs false
namespace Go.Proofs.YtpibpdpedjinhaaGreatDoor
namespace Hm
open Go.RowKit Go.Joins
open Dv (Cf U Tx)
theorem JC(v:Value)(l:List Tx)(w:World)(h:um w v l)(hl:l.length<=4294967296):Calls PQ 196 #[v,.func (.func 147) #[] #[]] w λe w'=>e=.returned (.int .i64 (idx (λt:Tx=>decide (2000<t.data.length)) l))/\Below w.heap.size w w':=by
 have eg:=enters_of (P:=PQ) (fq Tryz.func147 rfl) (by kernel_rfl) rfl;rcases Rd.cases h with⟨a,cap,h0,rfl⟩|⟨g,off,cap,h0,rfl⟩
 ·obtain rfl:=bD h0;go_enter (fq Tryz.func196 rfl),Tryz.ntmps196;go_wp2_with fail;go_loopg [5,8] 0 (λgg _ v8 wx=>v8=.int .i64 0/\wx=w)
  case atStart=>exact⟨rfl,rfl⟩
  case round=>
   obtain⟨rfl,rfl⟩:=hrel;go_wp2_with fail;go_ret;exact⟨rfl,aB _ _⟩
 ·have hg:g<w.heap.size:=by
   obtain⟨g',ac,ae,hv,_,Y,_⟩:=Rd.pos h h0;simp only[Value.slice.injEq,aC,Addr.mk.injEq,and_true,true_and]at hv;obtain⟨⟨rfl,rfl⟩,rfl⟩:=hv;exact Y
  have Hf:Hid _:=λ(j:Nat)(t:Tx)(R:l[j]? =some t)=>h.get R;clear h;go_enter (fq Tryz.func196 rfl),Tryz.ntmps196;go_wp2_with fail;go_loopg [5,8] l.length (λgg _ v8 wx=>∃i:Nat,i<=l.length/\v8=.int .i64 i/\gg=l.length-i/\Hid (∀(j:Nat)(y:Tx),j<i->l[j]? =some y->decide (2000<y.data.length)=false)/\Hid (Below w.heap.size w wx))
  case atStart=>exact⟨0,dF _,rfl,rfl,λj y R=>by omega,aB _ _⟩
  case round=>
   obtain⟨i,hi,rfl,rfl,Hi,I⟩:=hrel;by_cases Y:i<l.length
   ·have ab:(i:Int)<l.length:=by omega
    obtain⟨t,ht⟩:∃t,l[i]? =some t:=⟨_,aG Y⟩
    obtain⟨k0,k1,k2⟩:=Hf.out i t ht;rw[<-I.out.cell (p:=⟨g,off+i*3,none⟩) hg]at k0;rw[<-I.out.cell (p:=⟨g,off+i*3+1,none⟩) hg]at k1;rw[<-I.out.cell (p:=⟨g,off+i*3+2,none⟩) hg]at k2;have z:=λW=>Nb t W;have Ht:Hid _:=ht;obtain⟨D,hD⟩:∃D:ByteArray,(⟨t.data.toArray⟩:ByteArray)=D:=⟨_,rfl⟩
    rw[hD]at z k2;clear hD;cases hq:decide (2000<t.data.length)
    ·rw[hq]at z;have E:Hid _:=z;have Hq:Hid _:=hq;clear z ht hq;go_wp2_with (go_at_call 147;refine(E.out _).mono ?_;rintro e w2 ⟨rfl,aa⟩)
     go_roundg (l.length-(i+1))
     case measure=>omega
     case rel=>
      refine⟨i+1,by omega,by go_num,rfl,λj y R J=>?_,I.out.trans (aa.mono I.out.size)⟩;rcases jl (Nat.lt_succ_iff.1 R)with R|rfl
      ·exact Hi.out j y R J
      ·rw[Ht.out]at J;cases J;exact Hq.out
    ·rw[hq]at z;have E:Hid _:=z;have Hq:Hid _:=hq;clear z ht hq;go_wp2_with (go_at_call 147;refine(E.out _).mono ?_;rintro e w2 ⟨rfl,aa⟩)
     go_ret;exact⟨by rw[BP Ht.out Hq.out (λj y R J=>Hi.out j y R J)];rfl,I.out.trans (aa.mono I.out.size)⟩
   ·have ab:¬(i:Int)<l.length:=by omega
    go_wp2_with fail;go_ret;refine⟨?_,I.out⟩;rw[AB (λj y J=>Hi.out j y (by have:=(aF.1 J).1;omega) J)];rfl
theorem Gl(v:Value)(l:List (List UInt8))(w:World)(h:oU w v l)(hl:l.length<=4294967296):Calls PQ 197 #[v,.func (.func 149) #[] #[]] w λe w'=>e=.returned (.int .i64 (idx (λt:List UInt8=>decide (2000<t.length)) l))/\Below w.heap.size w w':=by
 have eg:=enters_of (P:=PQ) (fq Tryz.func149 rfl) (by kernel_rfl) rfl;rcases Rd.cases h with⟨a,cap,h0,rfl⟩|⟨g,off,cap,h0,rfl⟩
 ·obtain rfl:=bD h0;go_enter (fq Tryz.func197 rfl),Tryz.ntmps197;go_wp2_with fail;go_loopg [5,8] 0 (λgg _ v8 wx=>v8=.int .i64 0/\wx=w)
  case atStart=>exact⟨rfl,rfl⟩
  case round=>
   obtain⟨rfl,rfl⟩:=hrel;go_wp2_with fail;go_ret;exact⟨rfl,aB _ _⟩
 ·have hg:g<w.heap.size:=by
   obtain⟨g',ab,ac,hv,_,R,_⟩:=Rd.pos h h0;simp only[Value.slice.injEq,aC,Addr.mk.injEq,and_true,true_and]at hv;obtain⟨⟨rfl,rfl⟩,rfl⟩:=hv;exact R
  have Hf:Hid _:=λ(j:Nat)(t:List UInt8)(J:l[j]? =some t)=>h.get J;clear h;go_enter (fq Tryz.func197 rfl),Tryz.ntmps197;go_wp2_with fail;go_loopg [5,8] l.length (λgg _ v8 wx=>∃i:Nat,i<=l.length/\v8=.int .i64 i/\gg=l.length-i/\Hid (∀(j:Nat)(y:List UInt8),j<i->l[j]? =some y->decide (2000<y.length)=false)/\Hid (Below w.heap.size w wx))
  case atStart=>exact⟨0,dF _,rfl,rfl,λj y J=>by omega,aB _ _⟩
  case round=>
   obtain⟨i,hi,rfl,rfl,Hi,Hb⟩:=hrel;by_cases R:i<l.length
   ·have aa:(i:Int)<l.length:=by omega
    obtain⟨t,ht⟩:∃t,l[i]? =some t:=⟨_,aG R⟩
    have k2:=Hf.out i t ht;rw[<-Hb.out.cell (p:=⟨g,off+i,none⟩) hg]at k2;have z:=λW=>Ll t W;have Ht:Hid _:=ht;obtain⟨D,hD⟩:∃D:ByteArray,(⟨t.toArray⟩:ByteArray)=D:=⟨_,rfl⟩
    rw[hD]at z k2;clear hD;cases hq:decide (2000<t.length)
    ·rw[hq]at z;have E:Hid _:=z;have Hq:Hid _:=hq;clear z ht hq;go_wp2_with (go_at_call 149;refine(E.out _).mono ?_;rintro e w2 ⟨rfl,Y⟩)
     go_roundg (l.length-(i+1))
     case measure=>omega
     case rel=>
      refine⟨i+1,by omega,by go_num,rfl,λj y J I=>?_,Hb.out.trans (Y.mono Hb.out.size)⟩;rcases jl (Nat.lt_succ_iff.1 J)with J|rfl
      ·exact Hi.out j y J I
      ·rw[Ht.out]at I;cases I;exact Hq.out
    ·rw[hq]at z;have E:Hid _:=z;have Hq:Hid _:=hq;clear z ht hq;go_wp2_with (go_at_call 149;refine(E.out _).mono ?_;rintro e w2 ⟨rfl,Y⟩)
     go_ret;exact⟨by rw[BP Ht.out Hq.out (λj y J I=>Hi.out j y J I)];rfl,Hb.out.trans (Y.mono Hb.out.size)⟩
   ·have aa:¬(i:Int)<l.length:=by omega
    go_wp2_with fail;go_ret;refine⟨?_,Hb.out⟩;rw[AB (λj y I=>Hi.out j y (by have:=(aF.1 I).1;omega) I)];rfl
theorem BZ(v:Value)(l:List Tx)(w:World)(h:um w v l)(R:l.length<=4294967296):Calls PQ 146 #[v,.func (.func 147) #[] #[]] w λe w'=>e=.returned (.bool (l.any (λt:Tx=>decide (2000<t.data.length))))/\Below w.heap.size w w':=by
 rw[<-Oz];have z:=JC v l w h R;obtain⟨a,cap,rfl⟩:=Rd.slice h;obtain⟨r,J⟩:∃r,idx (λt:Tx=>decide (2000<t.data.length)) l=r:=⟨_,rfl⟩
 rw[J]at z⊢;have E:Hid _:=z;clear z J h;go_enter (fq Tryz.func146 rfl),Tryz.ntmps146;go_wp2_with (go_at_call 196;refine aK E.out ?_;rintro e w2 ⟨rfl,I⟩)
 go_ret;exact⟨rfl,I⟩
theorem zW(v:Value)(l:List (List UInt8))(w:World)(h:oU w v l)(R:l.length<=4294967296):Calls PQ 148 #[v,.func (.func 149) #[] #[]] w λe w'=>e=.returned (.bool (l.any (λt:List UInt8=>decide (2000<t.length))))/\Below w.heap.size w w':=by
 rw[<-Oz];have z:=Gl v l w h R;obtain⟨a,cap,rfl⟩:=Rd.slice h;obtain⟨r,J⟩:∃r,idx (λt:List UInt8=>decide (2000<t.length)) l=r:=⟨_,rfl⟩
 rw[J]at z⊢;have E:Hid _:=z;clear z J h;go_enter (fq Tryz.func148 rfl),Tryz.ntmps148;go_wp2_with (go_at_call 197;refine aK E.out ?_;rintro e w2 ⟨rfl,I⟩)
 go_ret;exact⟨rfl,I⟩
def Le(u:U)(E z:Value):Value:=.agg #[.int .i64 u.id,.int .i64 u.time,E,z]
theorem Uy(u:U):Dv.small u=(decide (u.txs.length<=20)&&decide (u.logs.length<=20)&&!u.txs.any (λt:Tx=>decide (2000<t.data.length))&&!u.logs.any (λt:List UInt8=>decide (2000<t.length))):=by
 unfold Dv.small;rw[Bool.decide_and]
 congr 1
 ·congr 1
  rw[List.all_eq_not_any_not]
  congr 2
  funext t;rw[<-decide_not];exact decide_eq_decide.2 (by omega)
 ·rw[List.all_eq_not_any_not]
  congr 2
  funext t;rw[<-decide_not];exact decide_eq_decide.2 (by omega)
theorem EF(u:U)(vt Y:Value)(w:World)(ht:um w vt u.txs)(I:oU w Y u.logs)(h1:u.txs.length<=4294967296)(h2:u.logs.length<=4294967296):Calls PQ 102 #[Le u vt Y] w λe w'=>e=.returned (.bool (Dv.small u))/\Below w.heap.size w w':=by
 have hb:Below w.heap.size w (w.alloc (.cells #[.int .i64 u.id,.int .i64 u.time,vt,Y] 42)):=(aB _ w).alloc jA _;obtain⟨W,E⟩:∃W,W=w.alloc (.cells #[.int .i64 u.id,.int .i64 u.time,vt,Y] 42):=⟨_,rfl⟩
 rw[<-E]at hb;have c1:=λW' (hw:Below W.heap.size W W')=>BZ vt u.txs W' (Rd.below (Rd.below ht hb) hw) h1;have c2:=λW' (hw:Below W.heap.size W W')=>zW Y u.logs W' (Rd.below (Rd.below I hb) hw) h2;have k2:W.cell? ⟨w.heap.size,2,none⟩=some vt:=by rw[E];simp
 have k3:W.cell? ⟨w.heap.size,3,none⟩=some Y:=by rw[E];simp
 have ac:w.heap.size<W.heap.size:=by rw[E];simp
 obtain⟨ta,tc,rfl⟩:=Rd.slice ht;obtain⟨la,lc,rfl⟩:=Rd.slice I;rw[Uy];unfold Le;obtain⟨n,J⟩:∃n,u.txs.length=n:=⟨_,rfl⟩
 obtain⟨m,hm⟩:∃m,u.logs.length=m:=⟨_,rfl⟩
 obtain⟨b1,aa⟩:∃b,u.txs.any (λt:Tx=>decide (2000<t.data.length))=b:=⟨_,rfl⟩
 obtain⟨b2,z⟩:∃b,u.logs.any (λt:List UInt8=>decide (2000<t.length))=b:=⟨_,rfl⟩
 rw[aa]at c1⊢;rw[z]at c2⊢;rw[J]at c1 k2 E⊢;rw[hm]at c2 k3 E⊢;have C1:Hid _:=c1;have C2:Hid _:=c2;have R:Hid _:=hb;obtain⟨r,hr⟩:∃r,(decide (n<=20)&&decide (m<=20)&&!b1&&!b2)=r:=⟨_,rfl⟩
 rw[hr];have Hr:Hid _:=hr;clear c1 c2 hb hr aa z J hm h1 h2 ht I;go_enter (fq Tryz.func102 rfl),Tryz.ntmps102;go_upto_region 1 with fail;rw[<-E];clear E;by_cases J:n<=20
 ·have ae:(n:Int)<=20:=by omega
  by_cases hm:m<=20
  ·have ab:(m:Int)<=20:=by omega
   cases b1
   ·cases b2
    all_goals
     go_wp2_with (first|(go_at_call 146;refine aK (C1.out _ ?_) ?_;(first|exact aB _ _|exact(aB _ _).drew|exact below_drewN (aB _ _) _);rintro e w2 ⟨rfl,z⟩;have ag:w2.cell? ⟨w.heap.size,3,none⟩=some (.slice la m lc):=(z.cell (p:=⟨w.heap.size,3,none⟩) ac).trans k3)|(go_at_call 148;refine aK (C2.out _ z) ?_;rintro e w3 ⟨rfl,af⟩)|fail)
     go_ret;refine⟨?_,R.out.trans ((z.trans (af.mono z.size)).mono R.out.size)⟩;rw[<-Hr.out,decide_eq_true J,decide_eq_true hm];rfl
   ·go_wp2_with (first|(go_at_call 146;refine aK (C1.out _ ?_) ?_;(first|exact aB _ _|exact(aB _ _).drew|exact below_drewN (aB _ _) _);rintro e w2 ⟨rfl,z⟩)|fail)
    go_ret;refine⟨?_,R.out.trans (z.mono R.out.size)⟩;rw[<-Hr.out,decide_eq_true J,decide_eq_true hm];rfl
  ·have ab:¬(m:Int)<=20:=by omega
   go_wp2_with fail;go_ret;refine⟨?_,R.out⟩;rw[<-Hr.out,decide_eq_true J,decide_eq_false hm];rfl
 ·have ae:¬(n:Int)<=20:=by omega
  go_wp2_with fail;go_ret;refine⟨?_,R.out⟩;rw[<-Hr.out,decide_eq_false J];rfl
def uP(u:U):Bool:=decide (0<=u.time)&&decide (u.time<=1000000)&&Dv.small u
def yu(t:Int)(u:U):Bool:=decide (t+1<=u.time)&&decide (u.time<=t+24)&&Dv.small u
theorem Ny(u:U):Dv.mM none u=uP u:=by
 unfold Dv.mM uP;simp only[Bool.decide_and]
theorem QN(t:Int)(u:U):Dv.mM (some t) u=yu t u:=by
 unfold Dv.mM yu;simp only[Bool.decide_and];rfl
def oC(w:World)(u:U)(E z:Value):Prop:=um w E u.txs/\oU w z u.logs/\u.txs.length<=4294967296/\u.logs.length<=4294967296
theorem oC.below{w w':World}{u:U}{z E:Value}(h:oC w u z E)(I:Below w.heap.size w w'):oC w' u z E:=⟨Rd.below h.1 I,Rd.below h.2.1 I,h.2.2⟩
theorem first_any(u:U)(J I:Value)(w:World)(h:oC w u J I):Calls PQ 67 #[Le u J I] w λe w'=>e=.returned (.bool (uP u))/\Below w.heap.size w w':=by
 unfold Le;obtain⟨W,E,Y,-⟩:=jE w #[.int .i64 u.id,.int .i64 u.time,J,I] 42;have k0:W.cell? ⟨w.heap.size,0,none⟩=some (.int .i64 u.id):=by rw[E];simp
 have k1:W.cell? ⟨w.heap.size,1,none⟩=some (.int .i64 u.time):=by rw[E];simp
 have k2:W.cell? ⟨w.heap.size,2,none⟩=some J:=by rw[E];simp
 have k3:W.cell? ⟨w.heap.size,3,none⟩=some I:=by rw[E];simp
 have c1:=λW'=>lY u.time 0 1000000 W';have c2:=EF u J I W (h.below Y).1 (h.below Y).2.1 h.2.2.1 h.2.2.2;unfold Le at c2;obtain⟨ta,tc,rfl⟩:=Rd.slice h.1;obtain⟨la,lc,rfl⟩:=Rd.slice h.2.1;obtain⟨b1,R⟩:∃b,(decide (0<=u.time)&&decide (u.time<=1000000))=b:=⟨_,rfl⟩
 obtain⟨b2,z⟩:∃b,Dv.small u=b:=⟨_,rfl⟩
 unfold uP;rw[R]at c1⊢;rw[z]at c2⊢;have C1:Hid _:=c1;have C2:Hid _:=λ(_:Unit)=>c2;have Hb:Hid _:=Y;clear c1 c2 Y R z h;go_enter (fq Tryz.func67 rfl),Tryz.ntmps67;go_upto_region 1 with fail;rw[<-E];clear E;cases b1
 ·go_wp2_with (go_at_call 66;refine aK (C1.out _) ?_;rintro e w2 ⟨rfl,rfl⟩)
  go_ret;exact⟨rfl,Hb.out⟩
 ·go_wp2_with (first|(go_at_call 66;refine aK (C1.out _) ?_;rintro e w2 ⟨rfl,rfl⟩)|(go_at_call 102;refine aK (C2.out ()) ?_;rintro e w2 ⟨rfl,z⟩)|fail)
  go_ret;exact⟨by cases b2<;>rfl,Hb.out.trans (z.mono Hb.out.size)⟩
theorem next_any(t:Int)(u:U)(J I:Value)(w:World)(h:oC w u J I)(ht:0<=t/\t<=4294967296):Calls PQ 68 #[.int .i64 t,Le u J I] w λe w'=>e=.returned (.bool (yu t u))/\Below w.heap.size w w':=by
 unfold Le;obtain⟨W,E,Y,-⟩:=jE w #[.int .i64 u.id,.int .i64 u.time,J,I] 42;have k0:W.cell? ⟨w.heap.size,0,none⟩=some (.int .i64 u.id):=by rw[E];simp
 have k1:W.cell? ⟨w.heap.size,1,none⟩=some (.int .i64 u.time):=by rw[E];simp
 have k2:W.cell? ⟨w.heap.size,2,none⟩=some J:=by rw[E];simp
 have k3:W.cell? ⟨w.heap.size,3,none⟩=some I:=by rw[E];simp
 have c1:=λW'=>lY u.time (t+1) (t+24) W';have c2:=EF u J I W (h.below Y).1 (h.below Y).2.1 h.2.2.1 h.2.2.2;unfold Le at c2;obtain⟨ta,tc,rfl⟩:=Rd.slice h.1;obtain⟨la,lc,rfl⟩:=Rd.slice h.2.1;obtain⟨b1,R⟩:∃b,(decide (t+1<=u.time)&&decide (u.time<=t+24))=b:=⟨_,rfl⟩
 obtain⟨b2,z⟩:∃b,Dv.small u=b:=⟨_,rfl⟩
 unfold yu;rw[R]at c1⊢;rw[z]at c2⊢;have C1:Hid _:=c1;have C2:Hid _:=λ(_:Unit)=>c2;have Hb:Hid _:=Y;obtain⟨ab,aa⟩:=ht;clear c1 c2 Y R z h;go_enter (fq Tryz.func68 rfl),Tryz.ntmps68;go_upto_region 1 with fail;rw[<-E];clear E;cases b1
 ·go_wp2_with (go_at_call 66;refine aK (C1.out _) ?_;rintro e w2 ⟨rfl,rfl⟩)
  go_ret;exact⟨rfl,Hb.out⟩
 ·go_wp2_with (first|(go_at_call 66;refine aK (C1.out _) ?_;rintro e w2 ⟨rfl,rfl⟩)|(go_at_call 102;refine aK (C2.out ()) ?_;rintro e w2 ⟨rfl,z⟩)|fail)
  go_ret;exact⟨by cases b2<;>rfl,Hb.out.trans (z.mono Hb.out.size)⟩
open Go.RowKit Go.Joins Go.Shelf
open Dv (U)
section
variable {s:List UInt8}{i:Im.It}
theorem Uk(h:Im.dec s=some i):Im.dp 9 i/\Im.wt 9 i<=2*s.length:=by
 unfold Im.dec at h;cases z:Im.read Im.body 8 s with
 |none=>rw[z]at h;cases h
 |some x=>
  obtain⟨j,n⟩:=x;rw[z]at h;simp only at h;split at h
  ·cases h;rename_i E;have:=Im.Xi Im.oI 8 _ _ _ z;rw[E]at this;exact this
  ·cases h
theorem Ug(h:Im.dec s=some i):i.kids.length<=2*s.length:=by
 obtain⟨z,h2⟩:=Uk h;have:=Im.Om z;omega
theorem VT{k:Im.It}(h:Im.dec s=some i)(hk:k∈i.kids):k.kids.length<=2*s.length:=by
 obtain⟨z,h2⟩:=Uk h;have h3:=Im.ZU (n:=8) hk;have h4:=Im.Om (n:=8) (z k hk);have E:Im.wt (8+1) i=Im.wt 9 i:=rfl;omega
def Es:Option (List (List UInt8))->Bool
 |some [a,b]=>decide (0<a.length)&&decide (a.length<=8)&&decide (b.length<=64)
 |_=>false
theorem Ud(s:List UInt8):Dv.isDep s=Es ((Im.dec s).bind strs):=by
 unfold Dv.isDep;cases Im.dec s with
 |none=>rfl
 |some i=>
  obtain⟨E,R,J⟩:=i;simp only[gK];unfold strs;cases E
  ·rfl
  ·match J with
   |[]=>rfl
   |[a]=>cases z:a.list<;>simp[Es,z]
   |[a,b]=>
    cases z:a.list<;>cases I:b.list<;>simp[Es,z,I]
    congr 1
    ·congr 1
     exact decide_eq_decide.2 (by omega)
    ·exact decide_eq_decide.2 (by omega)
   |a::b::c::r=>
    simp only;split<;>simp[Es]
theorem D8(s:ByteArray)(w:World)(hs:s.size<=16777216)(hH:kQ w):Calls PQ 150 #[.string s] w λe w'=>e=.returned (.bool (Dv.isDep s.data.toList))/\Below w.heap.size w w':=by
 rw[Ud];have ai:=decide_eq_true (show True from trivial);have I:=decode_any s w hs hH;cases hd:Im.dec s.data.toList with
 |none=>
  rw[hd]at I;have aa:Hid _:=λ(_:Unit)=>I;have Hb:Hid _:=λ(W:World)(o:Obj)=>(aB W.heap.size W).alloc jA o;clear I hd ai;go_enter (fq Tryz.func150 rfl),Tryz.ntmps150;go_wp2_with (go_at_call 175;refine aK (aa.out ()) ?_;rintro e w2 ⟨he,ab⟩;unfold F8 at he;subst he)
  go_ret;exact⟨rfl,ab.alloc ab.size _⟩
 |some i=>
  rw[hd]at I;have hk:=Ug hd;rw[<-aV]at hk;simp only[gK];obtain⟨R,hR⟩:∃R,strs i=R:=⟨_,rfl⟩
  rw[hR];have aa:Hid _:=λ(_:Unit)=>I;obtain⟨D,hD⟩:∃D:ByteArray,(⟨i.bytes.toArray⟩:ByteArray)=D:=⟨_,rfl⟩
  obtain⟨li,af⟩:∃li,i.list=li:=⟨_,rfl⟩
  obtain⟨nk,ae⟩:∃nk,i.kids.length=nk:=⟨_,rfl⟩
  have H:Hid _:=jw hR (jw hD (jw af (jw ae hk)));clear I hd ai hR hD af ae hk;go_enter (fq Tryz.func150 rfl),Tryz.ntmps150;go_upto_region 2 with(go_at_call 175;refine aK (aa.out ()) ?_;rintro e w2 ⟨he,ab⟩;obtain⟨a,cap,he,ht⟩:=he;rw[H.out.2.1,H.out.2.2.1,H.out.2.2.2.1]at he;subst he;have HT:Hid (Tr _ _ _ _ _ _ _ _):=ht;clear ht)
  obtain⟨W,hW,ag,-⟩:=jE w2 #[.bool li,.string D,.slice a nk cap] 103;have z0:W.cell? ⟨w2.heap.size,0,none⟩=some (.bool li):=by rw[hW];simp
  have z1:W.cell? ⟨w2.heap.size,1,none⟩=some (.string D):=by rw[hW];simp
  have z2:W.cell? ⟨w2.heap.size,2,none⟩=some (.slice a nk cap):=by rw[hW];simp
  rw[<-hW];obtain⟨hR,hD,af,ae,hk⟩:=H.out;have ao:=In.below (ag) _ _ _ _ _ (Tr.inn 9 _ _ _ _ _ _ jA HT.out);have ac:=vg 7 w2.heap.size i (.slice a i.kids.length cap) W ag.size ao (by omega);rw[hD,af,ae,hR]at ac;have J:Hid _:=λ(_:Unit)=>ac;have HB:Hid _:=ab.trans (ag.mono ab.size);clear hR hD af ae hk ao ac ag hW ab H;cases R with
  |none=>
   go_wp2_with (go_at_call 177;refine aK (J.out ()) ?_;rintro e w3 ⟨he,E⟩;unfold Strs at he;subst he)
   go_ret;exact⟨rfl,HB.out.trans (E.mono HB.out.size)⟩
  |some l=>
   by_cases aj:l.length=2
   ·obtain⟨x,y,rfl⟩:∃x y,l=[x,y]:=by
     match l,aj with
     |[x,y],_=>exact⟨x,y,rfl⟩
    obtain⟨X,hX⟩:∃X:ByteArray,(⟨x.toArray⟩:ByteArray)=X:=⟨_,rfl⟩
    obtain⟨Y,hY⟩:∃Y:ByteArray,(⟨y.toArray⟩:ByteArray)=Y:=⟨_,rfl⟩
    have aq:X.size=x.length:=by rw[<-hX];rfl
    have ap:Y.size=y.length:=by rw[<-hY];rfl
    have ak:Es (some [x,y])=(decide (0<X.size)&&decide (X.size<=8)&&decide (Y.size<=64)):=by rw[aq,ap];rfl
    have ah:=Fr.toList_empty X;have HX:Hid _:=jw hX hY;have Hr:Hid _:=ak;clear hX hY aq ap ak;by_cases h0:X.size=0
    ·have am:X.toList.isEmpty=true:=by rw[ah];exact decide_eq_true h0
     clear ah;go_wp2_with (go_at_call 177;refine aK (J.out ()) ?_;rintro e w3 ⟨⟨ra,rc,rfl,z⟩,E⟩;obtain⟨g,off,an,hv,_⟩:=z.1.pos (by simp);(simp only[Value.slice.injEq,true_and]at hv);obtain⟨rfl,rfl⟩:=hv;have k0:w3.cell? ⟨g,off,none⟩=some (.string X):=(by have:=z.1.cell rfl 0 (.string X) (by unfold nZ;rw[<-HX.out.1];rfl);simpa using this);have k1:w3.cell? ⟨g,off+1,none⟩=some (.string Y):=(z.1.cell rfl 1 (.string Y) (by unfold nZ;rw[<-HX.out.2];rfl));have H3:Hid _:=E;clear E z)
     go_ret;refine⟨?_,HB.out.trans (H3.out.mono HB.out.size)⟩;rw[Hr.out,decide_eq_false (show ¬0<X.size by omega)];rfl
    ·have am:X.toList.isEmpty=false:=by rw[ah];exact decide_eq_false h0
     clear ah;by_cases h8:X.size<=8
     ·have ar:(X.size:Int)<=8:=by omega
      go_wp2_with (go_at_call 177;refine aK (J.out ()) ?_;rintro e w3 ⟨⟨ra,rc,rfl,z⟩,E⟩;obtain⟨g,off,an,hv,_⟩:=z.1.pos (by simp);(simp only[Value.slice.injEq,true_and]at hv);obtain⟨rfl,rfl⟩:=hv;have k0:w3.cell? ⟨g,off,none⟩=some (.string X):=(by have:=z.1.cell rfl 0 (.string X) (by unfold nZ;rw[<-HX.out.1];rfl);simpa using this);have k1:w3.cell? ⟨g,off+1,none⟩=some (.string Y):=(z.1.cell rfl 1 (.string Y) (by unfold nZ;rw[<-HX.out.2];rfl));have H3:Hid _:=E;clear E z)
      go_ret;refine⟨?_,HB.out.trans (H3.out.mono HB.out.size)⟩;rw[Hr.out,decide_eq_true (show 0<X.size by omega),decide_eq_true h8];have:decide ((Y.size:Int)<=64)=decide (Y.size<=64):=decide_eq_decide.2 (by omega)
      show Ending.returned (Value.bool (decide ((Y.size:Int)<=64)))=_
      rw[this];rfl
     ·have ar:¬(X.size:Int)<=8:=by omega
      go_wp2_with (go_at_call 177;refine aK (J.out ()) ?_;rintro e w3 ⟨⟨ra,rc,rfl,z⟩,E⟩;obtain⟨g,off,an,hv,_⟩:=z.1.pos (by simp);(simp only[Value.slice.injEq,true_and]at hv);obtain⟨rfl,rfl⟩:=hv;have k0:w3.cell? ⟨g,off,none⟩=some (.string X):=(by have:=z.1.cell rfl 0 (.string X) (by unfold nZ;rw[<-HX.out.1];rfl);simpa using this);have k1:w3.cell? ⟨g,off+1,none⟩=some (.string Y):=(z.1.cell rfl 1 (.string Y) (by unfold nZ;rw[<-HX.out.2];rfl));have H3:Hid _:=E;clear E z)
      go_ret;refine⟨?_,HB.out.trans (H3.out.mono HB.out.size)⟩;rw[Hr.out,decide_eq_true (show 0<X.size by omega),decide_eq_false h8];rfl
   ·have hr:Es (some l)=false:=by
     match l,aj with
     |[],_=>rfl
     |[_],_=>rfl
     |_::_::_::_,_=>rfl
    have Hr:Hid _:=hr;obtain⟨n,hn⟩:∃n,l.length=n:=⟨_,rfl⟩
    have au:((n:Int) == 2)=false:=beq_false_of_ne (by omega);have Hn:Hid _:=hn;clear hr aj hn;go_wp2_with (go_at_call 177;refine aK (J.out ()) ?_;rintro e w3 ⟨⟨ra,rc,he,z⟩,E⟩;rw[Hn.out]at he;subst he;have H3:Hid _:=E;clear E z)
    go_ret;exact⟨by rw[Hr.out];rfl,HB.out.trans (H3.out.mono HB.out.size)⟩
theorem AA(v:Value)(l:List (List UInt8))(w:World)(h:oU w v l)(hl:l.length<=4294967296)(hs:∀x,x∈l->x.length<=16777216)(hH:kQ w):Calls PQ 103 #[v] w λe w'=>∃a cap,e=.returned (.slice a (l.filter Dv.isDep).length cap)/\Made w' w.heap.size (.slice a (l.filter Dv.isDep).length cap) (l.filter Dv.isDep)/\Below w.heap.size w w':=by
 obtain⟨a,cap,rfl⟩:=Rd.slice h;obtain⟨i0,ap,aj,ar,an⟩:=info_parts Bd;have Hi:Hid _:=jw ap (jw aj (jw ar an));have H:Hid _:=jw h (jw hs hH);have h0:=hH.pos;clear h hs ap aj ar an hH;go_enter (fq Tryz.func103 rfl),Tryz.ntmps103;go_wp2_with fail;go_loopg [3,5,8] l.length (λgg v3 _ v8 wx=>∃(k m:Nat)(ra:Option Addr)(rc:Nat),k<=l.length/\v8=.int .i64 k/\v3=.slice ra m rc/\m<=k/\gg=l.length-k/\Hid (m=((l.take k).filter Dv.isDep).length/\Made wx w.heap.size (.slice ra m rc) ((l.take k).filter Dv.isDep)/\Below w.heap.size w wx))
 case atStart=>exact⟨0,0,none,0,dF _,rfl,rfl,jA,rfl,rfl,⟨Row.nil _ _ _,by simp[Value.ownBlock]⟩,aB _ _⟩
 case round=>
  obtain⟨k,m,ra,rc,hk,rfl,rfl,a0,rfl,J⟩:=hrel;by_cases ax:k<l.length
  ·have aq:(k:Int)<l.length:=by omega
   obtain⟨x,hx⟩:∃x,l[k]? =some x:=⟨_,aG ax⟩
   obtain⟨g,off,az,hv,_⟩:=Rd.pos H.out.1 (by omega);simp only[Value.slice.injEq,true_and]at hv;obtain⟨rfl,rfl⟩:=hv;have k0:=oU.get (Rd.below H.out.1 J.out.2.2) hx;obtain⟨X,hX⟩:∃X:ByteArray,(⟨x.toArray⟩:ByteArray)=X:=⟨_,rfl⟩
   have ak:X.data.toList=x:=by rw[<-hX]
   have ah:X.size<=16777216:=by rw[<-hX];exact H.out.2.1 x (aQ hx)
   rw[hX]at k0;have E:=D8 X wr ah (H.out.2.2.below J.out.2.2 h0);rw[ak]at E;obtain⟨b,hb⟩:∃b,Dv.isDep x=b:=⟨_,rfl⟩
   rw[hb]at E
   have Y:l.take (k+1)=l.take k++[x]:=by
    obtain⟨au,rfl⟩:=aF.1 hx;exact dZ au
   have aa:Hid _:=λ(_:Unit)=>E;have ae:Hid _:=λ(V:World)=>Fr.clone_any X V ah;have HX:Hid _:=jw hX (jw hb Y);have ac:=λ(V:World)(hV:Below wr.heap.size wr V)=>J.out.2.1.1.below hV;rw[<-J.out.1]at ac;have ai:Hid _:=ac;clear E hX ak ah hb Y hx ac;cases b
   ·go_wp2_with (go_at_call 150;refine aK (aa.out ()) ?_;rintro e w2 ⟨rfl,ab⟩)
    go_roundg (l.length-(k+1))
    case measure=>omega
    case rel=>
     obtain⟨hX,hb,Y⟩:=HX.out;have hf:(l.take (k+1)).filter Dv.isDep=(l.take k).filter Dv.isDep:=by rw[Y,iC,dU,if_neg (by rw[hb];simp),List.filter_nil,fU]
     refine⟨k+1,m,ra,rc,by omega,by go_num,rfl,by omega,rfl,?_,?_,J.out.2.2.trans (ab.mono J.out.2.2.size)⟩
     ·rw[hf];exact J.out.1
     ·rw[hf];exact⟨J.out.2.1.1.below ab,J.out.2.1.2⟩
   ·go_wp2_with (first|(go_at_call 150;refine aK (aa.out ()) ?_;rintro e w2 ⟨rfl,ab⟩)|(go_at_call 151;refine aK (ae.out _) ?_;rintro e w3 ⟨rfl,ay⟩;have af:Below wr.heap.size wr w3:=ab.trans (ay.mono ab.size);have R:Hid _:=af;clear af)|(at_builtin;refine lG _ rfl (.tmp 14) (.tmp 17) 40 rfl 9 i0 _ 1 16 (uq Tryz.underlying40) Hi.out.1 Hi.out.2.1 Hi.out.2.2.1 Hi.out.2.2.2 rfl (by decide) _ m _ rfl (ai.out _ (R.out.alloc R.out.size _)) ⟨w3.heap.size,0,none⟩ 1 1 [.string X] rfl (by decide) rfl (by intro j u hj;match j,hj with|0,hj=>(simp at hj;subst hj;simp[Addr.add])) (by intro u hu;simp at hu;subst hu;rfl) (by unfold maxLen;omega) (by omega) ?_;intro g5 am ao w5 I z;have av:Hid _:=jw I z;clear I z)|go_in)
    go_roundg (l.length-(k+1))
    case measure=>omega
    case rel=>
     obtain⟨hX,hb,Y⟩:=HX.out;obtain⟨I,z⟩:=av.out;have hf:(l.take (k+1)).filter Dv.isDep=(l.take k).filter Dv.isDep++[x]:=by rw[Y,iC,dU,if_pos hb,List.filter_nil]
     have ag:Below w.heap.size w (w3.alloc (.cells #[.string X] 9)):=J.out.2.2.trans ((R.out.alloc R.out.size _).mono J.out.2.2.size)
     have aw:w.heap.size<=g5:=by
      rcases z.own with e|e
      ·exact J.out.2.1.2 g5 e
      ·exact aW ag.size e
     refine⟨k+1,m+1,some ⟨g5,am,none⟩,ao,by omega,by go_num,rfl,by omega,rfl,?_,⟨?_,?_⟩,?_⟩
     ·rw[hf,aJ,<-J.out.1];rfl
     ·rw[hf,aJ,<-J.out.1,aY];have:[x].map nZ=[.string X]:=by unfold nZ;rw[<-hX];rfl
      rw[this];exact I
     ·intro q hq;have:some g5=some q:=hq;cases this;exact aw
     ·refine ag.trans ⟨z.jO.os,z.jO.tape,z.jO.output,z.jO.size,λq hq=>z.jO.block q (aH hq ag.size) (λe=>?_)⟩;have:=J.out.2.1.2 q e;omega
  ·have aq:¬(k:Int)<l.length:=by omega
   obtain rfl:k=l.length:=by omega
   go_wp2_with fail;go_ret;obtain⟨q1,q2,q3⟩:=J.out;rw[iF]at q1 q2;subst q1;exact⟨ra,rc,rfl,q2,q3⟩
end
open Fr (below_drewN)
open Dv (U Cf)
theorem Dq{w:World}{b:Nat}(x y z:Value)(g:Nat)(h:g≠b):(((w.setCell ⟨b,0,none⟩ x).setCell ⟨b,1,none⟩ y).setCell ⟨b,2,none⟩ z).heap[g]? =w.heap[g]?:=by
 rw[aP _ _ _ _ h,aP _ _ _ _ h,aP _ _ _ _ h]
theorem JL(u:U)(vt vl:Value)(w:World)(h:oC w u vt vl)(hs:∀x,x∈u.logs->x.length<=16777216)(hH:kQ w):Calls PQ 69 #[Le u vt vl] w λe w'=>∃a cap,e=.returned (.agg #[.int .i64 u.id,.int .i64 u.time,.slice a (Dv.jL u).length cap])/\Made w' w.heap.size (.slice a (Dv.jL u).length cap) (Dv.jL u)/\Below w.heap.size w w':=by
 unfold Le Dv.jL;obtain⟨ta,tc,rfl⟩:=Rd.slice h.1;obtain⟨la,lc,rfl⟩:=Rd.slice h.2.1;obtain⟨W,R⟩:∃W,W=(w.alloc (.cells #[.int .i64 u.id,.int .i64 u.time,.slice ta u.txs.length tc,.slice la u.logs.length lc] 42)).alloc (.cells #[.int .i64 0,.int .i64 0,.slice none 0 0] 139):=⟨_,rfl⟩
 have E:Below w.heap.size w W:=by rw[R];exact((aB _ w).alloc jA _).alloc (by simp) _
 have aa:W.heap.size=w.heap.size+2:=by rw[R];simp
 have zo:W.heap[w.heap.size]? =some (.cells #[.int .i64 u.id,.int .i64 u.time,.slice ta u.txs.length tc,.slice la u.logs.length lc] 42 (0,0)):=by
  rw[R];exact(aT _ _ _ (by simp)).trans (heap_alloc_new _ _)
 have ro:W.heap[w.heap.size+1]? =some (.cells #[.int .i64 0,.int .i64 0,.slice none 0 0] 139 (0,0)):=by
  rw[R];have:=heap_alloc_new (w.alloc (.cells #[.int .i64 u.id,.int .i64 u.time,.slice ta u.txs.length tc,.slice la u.logs.length lc] 42)) (.cells #[.int .i64 0,.int .i64 0,.slice none 0 0] 139);simp only[eH]at this;exact this
 obtain⟨z0,z1,-,z3⟩:=cells4 zo
 have z:=λ(V:World)(hV:Below W.heap.size W V)=>(AA (.slice la u.logs.length lc) u.logs V (Rd.below (Rd.below h.2.1 E) hV) h.2.2.2 hs ((hH.below E hH.pos).below hV (by have:=hH.pos;omega))).mono
  (R':=λe w'=>∃a cap,e=.returned (.slice a (u.logs.filter Dv.isDep).length cap)/\w'.cell? ⟨w.heap.size,0,none⟩=some (.int .i64 u.id)/\w'.cell? ⟨w.heap.size,1,none⟩=some (.int .i64 u.time)/\w'.cell? ⟨w.heap.size+1,0,none⟩=some (.int .i64 0)/\w'.cell? ⟨w.heap.size+1,1,none⟩=some (.int .i64 0)/\w'.cell? ⟨w.heap.size+1,2,none⟩=some (.slice none 0 0)/\(∀q,w'.frozen? ⟨w.heap.size+1,q,none⟩=false)/\Hid (Made w' W.heap.size (.slice a (u.logs.filter Dv.isDep).length cap) (u.logs.filter Dv.isDep)/\Below W.heap.size W w'/\w'.heap[w.heap.size+1]? =some (.cells #[.int .i64 0,.int .i64 0,.slice none 0 0] 139 (0,0))))
  (λe w' ⟨a,cap,p1,p2,p3⟩=>by
   have q3:Below W.heap.size W w':=hV.trans (p3.mono hV.size);have qz:w'.heap[w.heap.size]? =_:=(q3.block _ (by omega)).trans zo;have qr:w'.heap[w.heap.size+1]? =_:=(q3.block _ (by omega)).trans ro;refine⟨a,cap,p1,by rw[aA qz];rfl,by rw[aA qz];rfl,by rw[aA qr];rfl,by rw[aA qr];rfl,by rw[aA qr];rfl,aI qr,⟨p2.1,λg Y=>aW hV.size (p2.2 g Y)⟩,q3,qr⟩)
 have I:Hid _:=z;have Hb:Hid _:=E;have J:=aB W.heap.size W;clear z h hs hH E zo ro;go_enter (fq Tryz.func69 rfl),Tryz.ntmps69;go_upto_region 1 with fail;rw[<-R];clear R;go_region_with (go_at_call 103;(refine aK (I.out _ ?_) ?_;(first|exact J|exact J.drew|exact below_drewN J _);rintro e w5 ⟨ra,rc,rfl,f0,f1,r0,r1,r2,rz,H5⟩))
 all_goals
  go_wp2_with fail;obtain⟨p1,p2,p3⟩:=H5.out;refine bodyPost_ret (v:=.agg #[.int .i64 u.id,.int .i64 u.time,.slice ra (u.logs.filter Dv.isDep).length rc]) (by simp[results,Tryz.results69,go_sem,r0,r1,r2]) rfl ⟨ra,rc,rfl,?_,?_⟩
  ·exact⟨p1.1.kept (λg Y=>Dq _ _ _ _ (by have:=p1.2 g Y;omega)),λg Y=>by have:=p1.2 g Y;omega⟩
  ·exact Hb.out.trans ((p2.mono Hb.out.size).trans ⟨rfl,rfl,rfl,by simp,λq hq=>Dq _ _ _ _ (by omega)⟩)
def jK(c:Cf)(vu:Value)(nb:Nat)(vo vw:Value)(cnt ep sq:Int):Array Value:=#[.int .u32 c.inbox,.int .u32 c.batcher,.int .i64 c.timeout,.int .i64 c.window,.int .i64 c.drift,.int .i64 c.step,.int .i64 c.most,vu,.map (some nb),vo,vw,.int .i64 cnt,.int .i64 ep,.int .i64 sq]
theorem new_any(c:Cf)(w:World):Calls PQ 38 #[.agg (jG c)] w λe w'=>e=.returned (.pointer (some ⟨w.heap.size+2,0,none⟩))/\w'=((w.alloc (.cells (jG c) 24)).alloc (.map #[] 0)).alloc (.cells (jK c (.slice none 0 0) (w.heap.size+1) (.slice none 0 0) (.slice none 0 0) 0 0 0) 137):=by
 unfold jG jK;go_enter (fq Tryz.func38 rfl),Tryz.ntmps38;have z:=@run_makeMap PQ;go_wp2_with fail;go_ret;exact⟨rfl,rfl⟩
open Dv (U Cf Ba)
section
variable {w:World}{kb cnt ep e:Nat}
abbrev PB:=Int×Int×Value
variable {us:List PB}
def qc(p:PB):List Value:=[.int .i64 p.1,.int .i64 p.2.1,p.2.2]
structure Look(w:World)(kb:Nat)(c:Cf)(us:List PB)(cnt ep:Nat):Prop where
 obj:∃vu nb vo vw sq,w.heap[kb]? =some (.cells (jK c vu nb vo vw cnt ep sq) 137 (0,0))/\Rd w 3 vu us.length (us.flatMap qc)
 times:∀p,p∈us->0<=p.2.1/\p.2.1<=4294967296
 step:0<=c.step/\c.step<=20
 drift:0<=c.drift/\c.drift<=100
 window:0<=c.window/\c.window<=8
 cnt:cnt<=4294967296
 len:us.length<=4294967296
theorem Look.below{w':World}{c:Cf}(h:Look w kb c us cnt ep)(E:Below w.heap.size w w'):Look w' kb c us cnt ep:=by
 obtain⟨vu,nb,vo,vw,sq,z,h2⟩:=h.obj;exact⟨⟨vu,nb,vo,vw,sq,(E.block _ (jC z)).trans z,h2.below E⟩,h.times,h.step,h.drift,h.window,h.cnt,h.len⟩
theorem Look.drewN{c:Cf}(h:Look w kb c us cnt ep)(m:Nat):Look (w.drewN m) kb c us cnt ep:=h.below (below_drewN (aB _ _) _)
def lF(c:Cf)(us:List PB)(cnt:Nat):Int:=(us.getD 0 (0,0,.nilFunc)).2.1+cnt*c.step
theorem Dj(kb:Nat)(c:Cf)(us:List PB)(cnt ep:Nat)(w:World)(h:Look w kb c us cnt ep)(Y:0<us.length):Calls PQ 178 #[.pointer (some ⟨kb,0,none⟩)] w λe w'=>e=.returned (.int .i64 (lF c us cnt))/\∃m,w'=w.drewN m:=by
 obtain⟨vu,nb,vo,vw,sq,I,J⟩:=h.obj;obtain⟨g,off,cap,rfl,ac,hg,hx⟩:=J.pos Y;obtain⟨p,hp⟩:∃p,us[0]? =some p:=⟨_,aG Y⟩
 have k1:w.cell? ⟨g,off+1,none⟩=some (.int .i64 p.2.1):=by
  have:=Rd.rec qc 3 (λ_=>rfl) J hp (i:=1) (u:=.int .i64 p.2.1) (by omega) rfl;simpa using this
 have c7:w.cell? ⟨kb,7,none⟩=some (.slice (some ⟨g,off,none⟩) us.length cap):=nM I rfl;have c5:w.cell? ⟨kb,5,none⟩=some (.int .i64 c.step):=nM I rfl;have c11:w.cell? ⟨kb,11,none⟩=some (.int .i64 cnt):=nM I rfl;have aa:(0:Int)<(us.length:Int):=by omega
 have ht:lF c us cnt=p.2.1+cnt*c.step:=by
  unfold lF;rw[aS,hp];rfl
 rw[ht];obtain⟨t1,t2⟩:=h.times p (aQ hp);obtain⟨s1,s2⟩:=h.step;have hc:=h.cnt;obtain⟨z,E⟩:∃x,c.step=x:=⟨_,rfl⟩
 rw[E]at s1 s2 c5⊢;have m1:0<=(cnt:Int)*z:=Int.mul_nonneg (by omega) s1
 have m2:(cnt:Int)*z<=85899345920:=by
  have h1:(cnt:Int)*z<=4294967296*z:=Int.mul_le_mul_of_nonneg_right (by omega) s1;omega
 obtain⟨tp,R⟩:∃x,p.2.1=x:=⟨_,rfl⟩
 rw[R]at t1 t2 k1⊢;have ae:IntKind.i64.wrap ((cnt:Int)*z)=(cnt:Int)*z:=by rw[IntKind.wrap_i64];omega
 have ab:IntKind.i64.wrap (tp+(cnt:Int)*z)=tp+(cnt:Int)*z:=by rw[IntKind.wrap_i64];omega
 clear h I J hx hp ht;go_enter (fq Tryz.func178 rfl),Tryz.ntmps178;go_upto_region 1 with fail;go_quiet (fail);go_wp2_with fail;go_ret;exact⟨rfl,_,rfl⟩
def zN(us:List PB)(e:Nat):Int:=(us.getD e (0,0,.nilFunc)).2.1
def Ey(us:List PB)(e:Nat):Int:=(us.getD e (0,0,.nilFunc)).1
theorem uH{p:PB}(h:us[e]? =some p):zN us e=p.2.1:=by
 unfold zN;rw[aS,h];rfl
theorem FT{p:PB}(h:us[e]? =some p):Ey us e=p.1:=by
 unfold Ey;rw[aS,h];rfl
theorem nC(kb:Nat)(c:Cf)(us:List PB)(cnt ep:Nat)(w:World)(h:Look w kb c us cnt ep)(I:0<us.length):Calls PQ 124 #[.pointer (some ⟨kb,0,none⟩)] w λe w'=>e=.returned (.int .i64 ((us.length-1:Nat):Int))/\∃m,w'=w.drewN m:=by
 obtain⟨vu,nb,vo,vw,sq,z,E⟩:=h.obj;obtain⟨g,off,cap,rfl,R,hg,Y⟩:=E.pos I;have c7:w.cell? ⟨kb,7,none⟩=some (.slice (some ⟨g,off,none⟩) us.length cap):=nM z rfl;have J:=h.len;obtain⟨n,hn⟩:∃n,us.length=n+1:=⟨us.length-1,by omega⟩
 rw[hn]at c7 J⊢;clear h z E Y;go_enter (fq Tryz.func124 rfl),Tryz.ntmps124;go_wp2_with fail;go_ret;refine⟨?_,0,rfl⟩;simp
theorem Ii(kb:Nat)(c:Cf)(us:List PB)(cnt ep:Nat)(e:Nat)(t:Int)(w:World)(h:Look w kb c us cnt ep)(he:e<us.length):Calls PQ 208 #[.pointer (some ⟨kb,0,none⟩),.int .i64 e,.int .i64 t] w λx w'=>x=.returned (.bool (decide (zN us e+c.drift<t)))/\∃m,w'=w.drewN m:=by
 obtain⟨vu,nb,vo,vw,sq,E,z⟩:=h.obj;obtain⟨g,off,cap,rfl,ac,hg,hx⟩:=z.pos (by omega);obtain⟨p,hp⟩:∃p,us[e]? =some p:=⟨_,aG he⟩
 have k1:w.cell? ⟨g,off+e*3+1,none⟩=some (.int .i64 p.2.1):=by
  have:=Rd.rec qc 3 (λ_=>rfl) z hp (i:=1) (u:=.int .i64 p.2.1) (by omega) rfl;rw[<-dO]at this;exact this
 have c7:w.cell? ⟨kb,7,none⟩=some (.slice (some ⟨g,off,none⟩) us.length cap):=nM E rfl;have c4:w.cell? ⟨kb,4,none⟩=some (.int .i64 c.drift):=nM E rfl;have aa:(e:Int)<us.length:=by omega
 rw[uH hp];obtain⟨t1,t2⟩:=h.times p (aQ hp);obtain⟨s1,s2⟩:=h.drift;obtain⟨I,Y⟩:∃x,c.drift=x:=⟨_,rfl⟩
 rw[Y]at s1 s2 c4⊢;obtain⟨J,R⟩:∃x,p.2.1=x:=⟨_,rfl⟩
 rw[R]at t1 t2 k1⊢;have ab:IntKind.i64.wrap (J+I)=J+I:=by rw[IntKind.wrap_i64];omega
 obtain⟨r,z⟩:∃r,decide (J+I<t)=r:=⟨_,rfl⟩
 rw[z];have Hr:Hid _:=z;clear h E hx hp z;go_enter (fq Tryz.func208 rfl),Tryz.ntmps208;go_upto_region 1 with fail;go_quiet (fail);go_wp2_with fail;go_ret;exact⟨by rw[<-Hr.out];rfl,_,rfl⟩
def Nj(b:Ba)(v:Value):Value:=.agg #[.int .i64 b.epoch,.int .i64 b.id,.int .i64 b.time,v,.int .i64 b.place]
def waits(c:Cf)(us:List PB)(ep:Nat)(t:Int)(b:Ba)(k:Nat):Bool:=if ep+1<=us.length-1 then false else(b.epoch == ep+1 || (k == 0&&decide (zN us ep+c.drift<t)))
theorem F7(kb:Nat)(c:Cf)(us:List PB)(cnt ep:Nat)(t:Int)(b:Ba)(va:Option Addr)(k vc:Nat)(w:World)(h:Look w kb c us cnt ep)(an:ep<us.length):Calls PQ 207 #[.pointer (some ⟨kb,0,none⟩),Nj b (.slice va k vc),.int .i64 t] w λx w'=>x=.returned (.bool (waits c us ep t b k))/\Below w.heap.size w w':=by
 unfold Nj;obtain⟨W,hW,ab,-⟩:=jE w #[.int .i64 b.epoch,.int .i64 b.id,.int .i64 b.time,.slice va k vc,.int .i64 b.place] 150;have z0:W.cell? ⟨w.heap.size,0,none⟩=some (.int .i64 b.epoch):=by rw[hW];simp
 have z3:W.cell? ⟨w.heap.size,3,none⟩=some (.slice va k vc):=by rw[hW];simp
 have J:=h.below ab;obtain⟨vu,nb,vo,vw,sq,ho,_⟩:=J.obj;have ae:W.cell? ⟨kb,12,none⟩=some (.int .i64 ep):=nM ho rfl;have E:=λm=>nC kb c us cnt ep (W.drewN m) (J.drewN m) (by omega);have z:=λV (hV:Below W.heap.size W V)=>Ii kb c us cnt ep ep t V (J.below hV) an;obtain⟨n,hn⟩:∃n,us.length-1=n:=⟨_,rfl⟩
 obtain⟨q,hq⟩:∃q,decide (zN us ep+c.drift<t)=q:=⟨_,rfl⟩
 obtain⟨r,hr⟩:∃r,waits c us ep t b k=r:=⟨_,rfl⟩
 have I:=hr;unfold waits at I;rw[hq,hn]at I;rw[hn]at E;rw[hq]at z;rw[hr];have hl:=h.len;have af:Hid _:=E;have aa:Hid _:=z;have H:Hid _:=jw I ab;clear h J ho E z hr I hq ab;go_enter (fq Tryz.func207 rfl),Tryz.ntmps207;go_upto_region 1 with fail;rw[<-hW];clear hW;go_quiet ((go_at_call 124;exact Calls.quiet_of (af.out _)));by_cases h1:ep+1<=n
 ·have ak:(ep:Int)+1<=(n:Int):=by omega
  go_wp2_with fail;go_ret;refine⟨?_,H.out.2.trans (below_drewN (aB _ _) _)⟩;rw[<-H.out.1,if_pos h1];rfl
 ·have ak:¬(ep:Int)+1<=(n:Int):=by omega
  go_upto_region 3 with fail;generalize hV:World.drewN _ _=V;have ag:Below W.heap.size W V:=by rw[<-hV];exact below_drewN (aB _ _) _
  have y0:V.cell? ⟨w.heap.size,0,none⟩=some (.int .i64 b.epoch):=by rw[<-hV];exact z0
  have y3:V.cell? ⟨w.heap.size,3,none⟩=some (.slice va k vc):=by rw[<-hV];exact z3
  have ao:V.cell? ⟨kb,12,none⟩=some (.int .i64 ep):=by rw[<-hV];exact ae
  have ah:=λm=>aa.out (V.drewN m) (below_drewN ag m);have ai:Hid _:=ah;have Y:Below w.heap.size w V:=H.out.2.trans (ag.mono H.out.2.size);clear hV z0 z3 ae ah;have ac:=H.out.1;rw[if_neg h1]at ac;have R:Hid _:=ac;clear ac;by_cases h2:b.epoch=ep+1
  ·have aj:((b.epoch:Int) == (ep:Int)+1)=true:=by rw[h2];simp
   have H2:Hid _:=h2;clear h2;go_quiet (fail);go_wp2_with fail;go_ret;refine⟨?_,Y.trans ⟨rfl,rfl,rfl,jA,λ_ _=>rfl⟩⟩;rw[<-R.out,H2.out];simp
  ·have aj:((b.epoch:Int) == (ep:Int)+1)=false:=beq_false_of_ne (by omega);have H2:Hid _:=h2;clear h2;by_cases h3:k=0
   ·have am:((k:Int) == 0)=true:=by rw[h3];rfl
    have H3:Hid _:=h3;clear h3;go_quiet ((go_at_call 208;exact Calls.quiet_of (ai.out _)));go_wp2_with fail;go_ret;refine⟨?_,Y.trans ⟨rfl,rfl,rfl,jA,λ_ _=>rfl⟩⟩;rw[<-R.out,beq_false_of_ne H2.out,H3.out];simp
   ·have am:((k:Int) == 0)=false:=beq_false_of_ne (by omega);have H3:Hid _:=h3;clear h3;go_quiet (fail);go_wp2_with fail;go_ret;refine⟨?_,Y.trans ⟨rfl,rfl,rfl,jA,λ_ _=>rfl⟩⟩;rw[<-R.out,beq_false_of_ne H2.out,beq_false_of_ne H3.out];simp
def allows(us:List PB)(ep:Nat)(t:Int)(b:Ba)(k:Nat):Bool:=k == 0&&(b.epoch != ep || decide (t<zN us (ep+1)))
theorem zT(kb:Nat)(c:Cf)(us:List PB)(cnt ep:Nat)(t:Int)(b:Ba)(va:Option Addr)(k vc:Nat)(w:World)(h:Look w kb c us cnt ep)(Y:k=0->b.epoch=ep->ep+1<us.length):Calls PQ 209 #[.pointer (some ⟨kb,0,none⟩),Nj b (.slice va k vc),.int .i64 t] w λx w'=>x=.returned (.bool (allows us ep t b k))/\Below w.heap.size w w':=by
 unfold Nj;obtain⟨W,hW,E,-⟩:=jE w #[.int .i64 b.epoch,.int .i64 b.id,.int .i64 b.time,.slice va k vc,.int .i64 b.place] 150;have z0:W.cell? ⟨w.heap.size,0,none⟩=some (.int .i64 b.epoch):=by rw[hW];simp
 have z3:W.cell? ⟨w.heap.size,3,none⟩=some (.slice va k vc):=by rw[hW];simp
 have aa:=h.below E;obtain⟨vu,nb,vo,vw,sq,ho,hr⟩:=aa.obj;have ag:W.cell? ⟨kb,12,none⟩=some (.int .i64 ep):=nM ho rfl;have c7:W.cell? ⟨kb,7,none⟩=some vu:=nM ho rfl;obtain⟨r,z⟩:∃r,allows us ep t b k=r:=⟨_,rfl⟩
 rw[z];unfold allows at z;have H:Hid _:=jw z (jw E (jw hr Y));have hl:=h.len;clear h aa ho z E hr Y;go_enter (fq Tryz.func209 rfl),Tryz.ntmps209;go_upto_region 1 with fail;rw[<-hW];clear hW;by_cases h3:k=0
 ·have ae:((k:Int) == 0)=true:=by rw[h3];rfl
  have J:Hid _:=h3;clear h3;by_cases h2:b.epoch=ep
  ·have ac:((b.epoch:Int) != (ep:Int))=false:=by rw[h2];simp
   have ab:=H.out.2.2.2 J.out h2;obtain⟨g,off,cap,rfl,ah,hg,hx⟩:=H.out.2.2.1.pos (by omega);obtain⟨p,hp⟩:∃p,us[ep+1]? =some p:=⟨_,aG ab⟩
   have k1:W.cell? ⟨g,off+(ep+1)*3+1,none⟩=some (.int .i64 p.2.1):=by
    have:=Rd.rec qc 3 (λ_=>rfl) H.out.2.2.1 hp (i:=1) (u:=.int .i64 p.2.1) (by omega) rfl;rw[<-dO]at this;exact this
   have af:(ep:Int)+1<(us.length:Int):=by omega
   have I:=uH hp;obtain⟨tp,R⟩:∃x,p.2.1=x:=⟨_,rfl⟩
   rw[R]at k1 I;have H2:Hid _:=jw h2 I;clear h2 hx hp R I;go_quiet (fail);go_wp2_with fail;go_ret;refine⟨?_,H.out.2.1.trans ⟨rfl,rfl,rfl,jA,λ_ _=>rfl⟩⟩;rw[<-H.out.1,H2.out.2,J.out,H2.out.1];simp
  ·have ac:((b.epoch:Int) != (ep:Int))=true:=by
    rw[bne_iff_ne];omega
   have H2:Hid _:=h2;clear h2;go_quiet (fail);go_wp2_with fail;go_ret;refine⟨?_,H.out.2.1.trans ⟨rfl,rfl,rfl,jA,λ_ _=>rfl⟩⟩;rw[<-H.out.1,J.out,bne_iff_ne.2 H2.out];simp
 ·have ae:((k:Int) == 0)=false:=beq_false_of_ne (by omega);have J:Hid _:=h3;clear h3;go_quiet (fail);go_wp2_with fail;go_ret;refine⟨?_,H.out.2.1.trans ⟨rfl,rfl,rfl,jA,λ_ _=>rfl⟩⟩;rw[<-H.out.1,beq_false_of_ne J.out];simp
end
def outside(c:Cf)(ep:Nat)(t:Int)(b:Ba):Bool:=decide ((b.time:Int)<t) || (b.epoch != ep&&b.epoch != ep+1) || decide ((b.epoch:Int)+c.window<(b.place:Int))
def OQ(c:Cf)(us:List PB)(ep:Nat)(t:Int)(b:Ba)(k:Nat):Bool:=decide ((b.id:Int)≠Ey us b.epoch) || decide (t<zN us b.epoch) || (decide (zN us b.epoch+c.drift<t)&&!allows us ep t b k)
def verdict(c:Cf)(us:List PB)(cnt ep:Nat)(b:Ba)(k:Nat):Nat:=
 if lF c us cnt<(b.time:Int)then 0 else if outside c ep (lF c us cnt) b then 1 else if waits c us ep (lF c us cnt) b k then 2 else if OQ c us ep (lF c us cnt) b k then 1 else 3
theorem Qh(kb:Nat)(c:Cf)(us:List PB)(cnt ep:Nat)(b:Ba)(va:Option Addr)(k vc:Nat)(w:World)(h:Look w kb c us cnt ep)(a7:ep<us.length)(hb:b.epoch<us.length)(bk:b.place<=4294967296)(aq:∀p,p∈us->∃a n cap,p.2.2=.slice a n cap):Calls PQ 179 #[.pointer (some ⟨kb,0,none⟩),Nj b (.slice va k vc)] w λx w'=>x=.returned (.int .u8 (verdict c us cnt ep b k:Nat))/\Below w.heap.size w w':=by
 unfold Nj;obtain⟨W,hW,ap,zo⟩:=jE w #[.int .i64 b.epoch,.int .i64 b.id,.int .i64 b.time,.slice va k vc,.int .i64 b.place] 150;have bd:w.heap.size<W.heap.size:=by rw[hW];simp
 have aa:=Dj kb c us cnt ep W (h.below ap) (by omega);obtain⟨t,ht⟩:∃t,lF c us cnt=t:=⟨_,rfl⟩
 obtain⟨r,hr⟩:∃r,verdict c us cnt ep b k=r:=⟨_,rfl⟩
 have am:=hr;unfold verdict at am;rw[ht]at am aa;rw[hr];have az:Hid _:=λ(_:Unit)=>aa;have H:Hid _:=jw am (jw ap (jw zo (jw h (jw a7 (jw hb (jw bk aq))))));obtain⟨vu,nb,vo,vw,sq,ho,a6⟩:=(h.below ap).obj;obtain⟨ba,aj⟩:∃x,c.window=x:=⟨_,rfl⟩
 have bg:=h.window;rw[aj]at bg;have hl:=h.len;have HO:Hid _:=jw ho (jw a6 aj);clear h ap zo aa hr am ht ho a6 aj aq;go_enter (fq Tryz.func179 rfl),Tryz.ntmps179;go_upto_region 1 with fail;rw[<-hW];clear hW;go_upto_region 2 with(first|(go_at_call 178;refine aK (az.out ()) ?_;rintro e w2 ⟨rfl,m,rfl⟩)|go_in)
 generalize hV:World.drewN _ _=V;have R:Below W.heap.size W V:=by rw[<-hV];exact below_drewN (aB _ _) _
 have zV:V.heap[w.heap.size]? =_:=(R.block _ bd).trans H.out.2.2.1;have oV:V.heap[kb]? =_:=(R.block _ (jC HO.out.1)).trans HO.out.1;obtain⟨z0,z1,z2,z3,z4⟩:=cells5 zV;have c3:V.cell? ⟨kb,3,none⟩=some (.int .i64 ba):=by rw[aA oV,<-HO.out.2.2];rfl
 have bj:V.cell? ⟨kb,12,none⟩=some (.int .i64 ep):=nM oV rfl;have ag:Below w.heap.size w V:=H.out.2.1.trans (R.mono H.out.2.1.size);have HV:Hid _:=jw R (jw zV (jw oV ag));clear hV R zV oV ag;by_cases h1:t<(b.time:Int)
 ·go_wp2_with fail;go_ret;refine⟨?_,HV.out.2.2.2⟩;rw[<-H.out.1,if_pos h1];rfl
 ·go_upto_region 4 with fail;obtain⟨q,hq⟩:∃q,outside c ep t b=q:=⟨_,rfl⟩
  have ao:=hq;unfold outside at ao;rw[HO.out.2.2]at ao;have Hq:Hid _:=jw hq ao;clear hq ao;go_cut [48] (λv wx=>v=.bool q/\∃m,wx=V.drewN m)
  case first=>
   by_cases h2:(b.time:Int)<t
   ·go_quiet (fail);go_wp2_with fail;go_meet;refine⟨?_,_,rfl⟩;rw[<-Hq.out.2,decide_eq_true h2];rfl
   ·have ay:decide ((b.time:Int)<t)=false:=decide_eq_false h2;by_cases h3:b.epoch=ep
    ·have bl:((b.epoch:Int) != (ep:Int))=false:=by rw[h3];simp
     have H3:Hid _:=h3;have H2:Hid _:=ay;clear h3;go_quiet (fail);go_wp2_with fail;go_meet;refine⟨?_,_,rfl⟩;rw[<-Hq.out.2,H2.out];have:(b.epoch != ep)=false:=by rw[H3.out];simp
     rw[this];simp
    ·have bl:((b.epoch:Int) != (ep:Int))=true:=by rw[bne_iff_ne];omega
     have H3:Hid _:=h3;clear h3;by_cases h4:b.epoch=ep+1
     ·have bm:((b.epoch:Int) != (ep:Int)+1)=false:=by rw[h4];simp
      have H4:Hid _:=h4;have H2:Hid _:=ay;clear h4;go_quiet (fail);go_wp2_with fail;go_meet;refine⟨?_,_,rfl⟩;rw[<-Hq.out.2,H2.out];have:(b.epoch != ep+1)=false:=by rw[H4.out];simp
      rw[this];simp
     ·have bm:((b.epoch:Int) != (ep:Int)+1)=true:=by rw[bne_iff_ne];omega
      have H4:Hid _:=h4;have H2:Hid _:=ay;clear h4;go_quiet (fail);go_wp2_with fail;go_meet;refine⟨?_,_,rfl⟩;rw[<-Hq.out.2,H2.out,bne_iff_ne.2 H3.out,bne_iff_ne.2 H4.out];rfl
  case rest=>
   obtain⟨rfl,m2,rfl⟩:=hcut;have au:=H.out.1;rw[if_neg h1,Hq.out.1]at au;have av:Hid _:=au;clear au;cases q
   ·generalize a8:World.drewN _ _=V2;obtain⟨R,zV,oV,ag⟩:=HV.out;have ax:Below V.heap.size V V2:=by rw[<-a8];exact below_drewN (aB _ _) _
    have z:Below w.heap.size w V2:=ag.trans (ax.mono ag.size);have z2:V2.heap[w.heap.size]? =_:=(ax.block _ (jC zV)).trans zV;have ae:=H.out.2.2.2.1.below z;have an:=F7 kb c us cnt ep t b va k vc V2 ae a7;obtain⟨q2,E⟩:∃q2,waits c us ep t b k=q2:=⟨_,rfl⟩
    rw[E]at an;unfold Nj at an;have a2:Hid _:=λ(_:Unit)=>an;obtain⟨x0,x1,x2,x3,x4⟩:=cells5 z2;have H2:Hid _:=jw z (jw z2 (jw ae E));clear R zV oV ag ax z z2 ae an E a8 z0 z1 z3 z4 c3 bj;cases q2
    ·go_upto_region 8 with(first|(go_at_call 207;refine aK (a2.out ()) ?_;rintro e w3 ⟨rfl,af⟩)|go_in)
     obtain⟨z,z2,ae,E⟩:=H2.out;have ac:=ae.below af;have z3:w3.heap[w.heap.size]? =_:=(af.block _ (jC z2)).trans z2;have I:Below w.heap.size w w3:=z.trans (af.mono z.size);obtain⟨bx,bu,bw,b0,bs,a1,J⟩:=ac.obj;obtain⟨g,off,cap,rfl,bz,hg,hx⟩:=J.pos (by omega);obtain⟨p,hp⟩:∃p,us[b.epoch]? =some p:=⟨_,aG hb⟩
     obtain⟨da,dn,dc,hd⟩:=H.out.2.2.2.2.2.2.2 p (aQ hp);have k0:w3.cell? ⟨g,off+b.epoch*3,none⟩=some (.int .i64 p.1):=Rd.rec qc 3 (λ_=>rfl) J hp (i:=0) (u:=.int .i64 p.1) (by omega) rfl
     have k1:w3.cell? ⟨g,off+b.epoch*3+1,none⟩=some (.int .i64 p.2.1):=by
      have:=Rd.rec qc 3 (λ_=>rfl) J hp (i:=1) (u:=.int .i64 p.2.1) (by omega) rfl;rw[<-dO]at this;exact this
     have k2:w3.cell? ⟨g,off+b.epoch*3+2,none⟩=some (.slice da dn dc):=by
      have:=Rd.rec qc 3 (λ_=>rfl) J hp (i:=2) (u:=.slice da dn dc) (by omega) (by rw[<-hd];rfl);rw[<-dO]at this;exact this
     have c7:w3.cell? ⟨kb,7,none⟩=some (.slice (some ⟨g,off,none⟩) us.length cap):=nM a1 rfl;have y0:=nO z3;have bv:(b.epoch:Int)<us.length:=by omega
     have hI:=FT hp;have hT:=uH hp;obtain⟨pi,a5⟩:∃x,p.1=x:=⟨_,rfl⟩
     obtain⟨pt,a4⟩:∃x,p.2.1=x:=⟨_,rfl⟩
     rw[a5]at k0 hI;rw[a4]at k1 hT;have b1:kb<w3.heap.size:=(jC a1)
     have bb:w.heap.size<w3.heap.size:=(jC z3)
     have H3:Hid _:=jw ac (jw z3 (jw I (jw E (jw hI hT))));clear z z2 ae E ac z3 I a1 J hx hp hd hI hT a5 a4 af x0 x1 x2 x3 x4 H2;go_cut [6] (λv wx=>v=.pointer (some ⟨w3.heap.size,0,none⟩)/\Hid (wx.heap[w3.heap.size]? =some (.cells #[.int .i64 pi,.int .i64 pt,.slice da dn dc] 139 (0,0))/\Below w3.heap.size w3 wx))
     case first=>
      go_region
      all_goals
       go_wp2_with fail;go_meet;refine⟨rfl,?_,?_⟩
       ·exact heap_alloc_new _ _
       ·first|exact((aB _ _).alloc jA _).drew|exact(aB _ _).drew.alloc jA _
     case rest=>
      obtain⟨rfl,a9⟩:=hcut;obtain⟨ub,ak⟩:=a9.out;obtain⟨ac,z3,I,E,hI,hT⟩:=H3.out;have a0:=ac.below ak;have zc:wc.heap[w.heap.size]? =_:=(ak.block _ bb).trans z3;have ar:Below w.heap.size w wc:=I.trans (ak.mono I.size);obtain⟨u0,u1⟩:=cells2 ub;obtain⟨x0,x1,x2,x3,x4⟩:=cells5 zc;have Y:=Ii kb c us cnt ep b.epoch t wc a0 hb;obtain⟨i3,ah⟩:∃x,decide (zN us b.epoch+c.drift<t)=x:=⟨_,rfl⟩
      obtain⟨i4,aw⟩:∃x,allows us ep t b k=x:=⟨_,rfl⟩
      have a3:i3=true->∀m,Calls PQ 209 #[.pointer (some ⟨kb,0,none⟩),.agg #[.int .i64 b.epoch,.int .i64 b.id,.int .i64 b.time,.slice va k vc,.int .i64 b.place],.int .i64 t] (wc.drewN m) λx w'=>x=.returned (.bool i4)/\Below (wc.drewN m).heap.size (wc.drewN m) w':=λh3 m=>by
       have:=zT kb c us cnt ep t b va k vc (wc.drewN m) (a0.drewN m) (λbh bq=>by
        refine gJ λbr=>?_;have hw:=E;unfold waits at hw;rw[if_neg (by omega),bh]at hw;rw[bq]at ah;rw[ah,h3]at hw;simp at hw)
       rw[aw]at this;exact this
      rw[ah]at Y;have ai:Hid _:=λ(_:Unit)=>Y;have bp:Hid _:=a3;have ab:=av.out;rw[E]at ab;unfold OQ at ab;rw[hI,aw]at ab;rw[hT]at ah ab;rw[ah]at ab;have HR:Hid _:=jw ab ar;clear ub ak ac z3 I E hI hT a0 zc ar Y a3 ab ah aw a9 k0 k1 k2 c7 y0;by_cases g1:(b.id:Int)=pi
      ·have bn:((b.id:Int) != pi)=false:=by rw[g1];simp
       have G1:Hid _:=g1;clear g1;by_cases g2:t<pt
       ·go_wp2_with fail;go_ret;refine⟨?_,HR.out.2⟩;rw[<-HR.out.1,decide_eq_true g2];simp
       ·cases i3
        ·go_wp2_with (first|(go_at_call 208;refine aK (ai.out ()) ?_;rintro e w4 ⟨rfl,m4,rfl⟩)|fail)
         go_ret;refine⟨?_,HR.out.2.trans (below_drewN (aB _ _) _)⟩;rw[<-HR.out.1,decide_eq_false (show ¬t<pt by omega),G1.out];simp
        ·cases i4
         all_goals
          go_wp2_with (first|(go_at_call 208;refine aK (ai.out ()) ?_;rintro e w4 ⟨rfl,m4,rfl⟩)|(go_at_call 209;refine aK (bp.out (by first|rfl|trivial) _) ?_;rintro e w5 ⟨rfl,bo⟩)|fail)
          go_ret;refine⟨?_,HR.out.2.trans ((below_drewN (aB wc.heap.size wc) m4).trans bo |>.mono HR.out.2.size)⟩;rw[<-HR.out.1,decide_eq_false (show ¬t<pt by omega),G1.out];simp
      ·have bn:((b.id:Int) != pi)=true:=by rw[bne_iff_ne];exact g1
       have G1:Hid _:=g1;clear g1;go_wp2_with fail;go_ret;refine⟨?_,HR.out.2⟩;rw[<-HR.out.1,decide_eq_true (show(b.id:Int)≠pi from G1.out)];simp
    ·go_wp2_with (first|(go_at_call 207;refine aK (a2.out ()) ?_;rintro e w3 ⟨rfl,af⟩)|go_in)
     go_ret;refine⟨?_,H2.out.1.trans (af.mono H2.out.1.size)⟩;rw[<-av.out,H2.out.2.2.2];rfl
   ·go_wp2_with fail;go_ret;refine⟨?_,HV.out.2.2.2.trans ⟨rfl,rfl,rfl,jA,λ_ _=>rfl⟩⟩;rw[<-av.out];rfl
section
variable {w:World}{e s n g off cap j:Nat}{xs:List Value}
theorem Row.put(h:Row w e s (.slice (some ⟨g,off,none⟩) n cap) n xs)(u:Value):Row (w.setCell ⟨g,off+j,none⟩ u) e s (.slice (some ⟨g,off,none⟩) n cap) n (xs.set j u):=by
 refine⟨by rw[List.length_set];exact h.1,?_⟩;rcases h.2 with⟨h0,_⟩|⟨g',aa,ab,E,hv,hh,J,R,Y,hc⟩
 ·cases h0
 ·simp only[Value.slice.injEq,aC,Addr.mk.injEq,and_true,true_and]at hv;obtain⟨⟨rfl,rfl⟩,rfl⟩:=hv;refine .inr ⟨g,off,cap,E.setIfInBounds (off+j) u,rfl,jT hh (off+j) u,J,R,by simpa using Y,λi v z=>?_⟩;rw[iJ]at z;rw[aO];by_cases e:j=i
  ·subst e;rw[if_pos rfl]at z;split at z
   ·rename_i I
    have:off+j<E.size:=by
     have:=hc j xs[j] (aG I);exact(jC this)
    rw[if_pos rfl,if_pos this];exact z
   ·cases z
  ·rw[if_neg e]at z;rw[if_neg (by omega)];exact hc i v z
theorem Row.take(h:Row w e s (.slice (some ⟨g,off,none⟩) n cap) n xs){k:Nat}(hk:k<=n):Row w e s (.slice (some ⟨g,off,none⟩) k cap) k (xs.take (k*s)):=by
 have ab:k*s<=n*s:=fD _ hk;refine⟨by rw[aZ,h.1];omega,?_⟩;rcases h.2 with⟨h0,_⟩|⟨g',Y,aa,E,R,hh,ac,I,J,hc⟩
 ·cases h0
 ·simp only[Value.slice.injEq,aC,Addr.mk.injEq,and_true,true_and]at R;obtain⟨⟨rfl,rfl⟩,rfl⟩:=R;refine .inr ⟨g,off,cap,E,rfl,hh,by omega,I,J,λi v z=>?_⟩;rw[gG]at z;split at z
  ·exact hc i v z
  ·cases z
theorem Row.there(h:Row w e s (.slice (some ⟨g,off,none⟩) n cap) n xs)(z:j<n*s):(w.cell? ⟨g,off+j,none⟩).isSome=true:=by
 rw[h.cell rfl j (xs[j]'(by rw[h.1];exact z)) (aG _)];rfl
end
end Hm
end Go.Proofs.YtpibpdpedjinhaaGreatDoor
