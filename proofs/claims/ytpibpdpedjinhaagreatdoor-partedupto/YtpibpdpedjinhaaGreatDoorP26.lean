import Derived.Test.YtpibpdpedjinhaaGreatDoorP25
import Derived.OrdersIn
set_option maxRecDepth 100000
set_option maxHeartbeats 8000000
set_option linter.unusedSimpArgs false
namespace Go.Proofs.YtpibpdpedjinhaaGreatDoor
namespace Hm
open Go.RowKit Go.Joins Go.Shelf
open Dv (U Cf Ba)
section
variable {W:World}{kb nb cB lo lo' R:Nat}{c:Cf}{vu vo vw v:Value}{us:List PB}{dl:Nat->List (List UInt8)}{s0 d:rM}{pre:List DX}{ok:Bool}{rc:Array Value}
def mW(kb:Nat)(c:Cf)(us:List PB)(W:World):Nat:=match W.heap[kb]? with
 |some (.cells cs _ _)=>match (cs[10]?:Option Value),(cs[11]?:Option Value),(cs[12]?:Option Value)with
  |some (.slice _ n _),some (.int _ a),some (.int _ e)=>n+(us.length-e.toNat)+((4294967298-lF c us a.toNat)/2).toNat
  |_,_,_=>0
 |_=>0
theorem YD{ws:List PW}{cnt ep sq:Nat}(h:qJ W kb c vu us dl nb vo vw ws cnt ep sq):mW kb c us W=meas c us ws cnt ep:=by
 obtain⟨a,cap,e⟩:=Row.slice h.wait;unfold mW;rw[h.obj,e];simp[jK,meas]
def XA:Value->Bool
 |.bool b=>b
 |_=>false
def mL(kb:Nat)(c:Cf)(us:List PB)(t:Value)(W:World):Nat:=if XA t then mW kb c us W+1 else 0
theorem Rn.below{W':World}(h:Rn kb cB c vu us dl nb vo vw s0 pre lo v ok W)(I:Below W.heap.size W W')(aa:lo'<=lo):Rn kb cB c vu us dl nb vo vw s0 pre lo' v ok W':=by
 have E:∀d,DA W kb c vu us dl nb vo vw d->DA W' kb c vu us dl nb vo vw d:=λd ⟨J,z,h2⟩=>⟨J,z.below I,h2⟩
 rcases h with⟨e,x,hx,z,⟨vd,h2,h3⟩,h4,h5,h6,h7⟩|⟨e,z,h2⟩
 ·exact .inl ⟨e,x,hx,z,⟨vd,h2,Row.below h3.1 I,λg hg=>aW aa (h3.2 g hg)⟩,λb Y=>Row.below (h4 b Y) I,h5,E _ h6,(I.cell (p:=⟨cB,0,none⟩) (fA W ⟨cB,0,none⟩ h7)).trans h7⟩
 ·exact .inr ⟨e,z,E _ h2⟩
theorem DA.qM(h:DA W kb c vu us dl nb vo vw d)(E:W.heap[R]? =some (.cells rc 62 (0,0)))(z Y x2 x3 I x5 J x7:Value):DA (qM W R z Y x2 x3 I x5 J x7) kb c vu us dl nb vo vw d:=
 let ⟨vw',h1,h2⟩:=h
 ⟨vw',Az h1 E _ _ _ _ _ _ _ _,h2⟩
theorem Rn.qM(h:Rn kb cB c vu us dl nb vo vw s0 pre lo v ok W)(ab:lo'<=lo)(hR:W.heap[R]? =some (.cells rc 62 (0,0)))(aa:cB≠R)(z x1 Y I E x5 x6 J:Value):Rn kb cB c vu us dl nb vo vw s0 pre lo' v ok (qM W R z x1 Y I E x5 x6 J):=by
 have hS:=λ(u:Value)(n:Nat)(l:List Value)(h:Row W 9 1 u n l)=>CU h hR z x1 Y I E x5 x6 J;have hD:=λ(d:rM)(h:DA W kb c vu us dl nb vo vw d)=>h.qM hR z x1 Y I E x5 x6 J;have hC:=(kL W R z x1 Y I E x5 x6 J).block cB;revert hS hD hC;generalize Hm.qM W R z x1 Y I E x5 x6 J=X;intro hS hD hC;rcases h with⟨e,x,hx,h1,⟨vd,h2,h3⟩,h4,h5,h6,h7⟩|⟨e,h1,h2⟩
 ·refine .inl ⟨e,x,hx,h1,⟨vd,h2,?_,λg hg=>aW ab (h3.2 g hg)⟩,?_,h5,hD _ h6,?_⟩
  ·exact hS _ _ _ h3.1
  ·intro b hb;exact hS _ _ _ (h4 b hb)
  ·exact(World.cell?_of_block (hC (fA W ⟨cB,0,none⟩ h7) aa)).trans h7
 ·exact .inr ⟨e,h1,hD _ h2⟩
theorem Nk{x:DX}(h:Steps c us s0 (pre++[x])):x.s=jI s0 pre/\jH c us x.s.ws x.s.cnt x.s.ep=(some (x.e,x.ob),x.s'.ws)/\x.s'=⟨x.s'.ws,x.s.cnt+1,x.e,jX x.s.cnt x.s.ep x.s.sq x.e⟩:=by
 generalize z:pre++[x]=l at h;cases h with
 |nil=>simp at z
 |snoc h1 h2 h3 h4=>
  obtain⟨rfl,e⟩:=List.append_inj' z rfl;cases e;exact⟨h2,h3,h4⟩
theorem Vu(h:Rn kb cB c vu us dl nb vo vw s0 pre lo v ok W)(hG:Good c us s0)(hp:Steps c us s0 pre)(E:2<=c.step):mL kb c us (.bool ok) W<meas c us (jI s0 pre).ws (jI s0 pre).cnt (jI s0 pre).ep+1:=by
 rcases h with⟨rfl,x,hx,I,_,_,h5,z⟩|⟨rfl,I,h2⟩
 ·obtain⟨⟨aa,z,_⟩,_⟩:=z;rw[vO]at z;obtain⟨e1,e2,Y⟩:=Nk I;obtain⟨J,g2,g3⟩:=hG pre hp;rw[<-e1]at J g3⊢;have hm:=Pj (J (by omega)) E g3 e2;unfold mL XA;rw[if_pos rfl,YD z];have ec:x.s'.cnt=x.s.cnt+1:=by rw[Y]
  have ee:x.s'.ep=x.e:=by rw[Y]
  rw[ec,ee];omega
 ·unfold mL XA;rw[if_neg (by simp)];omega
theorem XM(h:DA W kb c vu us dl nb vo vw d):mL kb c us (.bool true) W=meas c us d.ws d.cnt d.ep+1:=by
 obtain⟨E,z,_⟩:=h;unfold mL XA;rw[if_pos rfl,YD z]
theorem zJ{z w4:World}{o:Obj}(hc:jJ (λk=>k=kb\/vw.ownBlock=some k) (z.alloc o) w4)(ha:Rn kb cB c vu us dl nb vo vw s0 pre (z.alloc o).heap.size v ok w4)(hl:w4.heap[z.heap.size]? =some (.cells rc 62 (0,0)))(cb:w4.cell? ⟨cB,0,none⟩=some (.pointer (some ⟨kb,0,none⟩)))(aa:cB<z.heap.size)(E x1 x2 J I x5 x6 Y:Value):
  Rn kb cB c vu us dl nb vo vw s0 pre z.heap.size v ok (qM w4 z.heap.size E x1 x2 J I x5 x6 Y)/\jJ (λk=>k=kb\/vw.ownBlock=some k) z (qM w4 z.heap.size E x1 x2 J I x5 x6 Y)/\(qM w4 z.heap.size E x1 x2 J I x5 x6 Y).cell? ⟨cB,0,none⟩=some (.pointer (some ⟨kb,0,none⟩)):=by
 have h1:=Rn.qM (lo':=z.heap.size) ha (by simp) hl (iI aa) E x1 x2 J I x5 x6 Y;have h2:=kL w4 z.heap.size E x1 x2 J I x5 x6 Y;revert h1 h2;generalize qM w4 z.heap.size E x1 x2 J I x5 x6 Y=X;intro h1 h2;exact⟨h1,((jJ.alloc _ z o).trans hc (λ_ _ e=>e)).trans h2 (λk hk e=>absurd e (iI hk)),(World.cell?_of_block (h2.block cB (fA w4 ⟨cB,0,none⟩ cb) (iI aa))).trans cb⟩
end
end Hm
namespace Hm
open Go.RowKit Go.Joins Go.Shelf
open Dv (U Cf Ba)
attribute [local go_sem] Oper.semAt_some
theorem IG(kb I:Nat)(c:Cf)(vu:Value)(us:List PB)(dl:Nat->List (List UInt8))(nb:Nat)(vo vw:Value)(s0:rM)(hG:Good c us s0)(a5:2<=c.step)(hdl:∀j,(dl j).length<=4294967296)(af:¬(I=kb\/vw.ownBlock=some I)):
  Uo PQ 75 #[.pointer (some ⟨I,0,none⟩)] DX.encs (λk=>k=kb\/vw.ownBlock=some k) (DK kb I c vu us dl nb vo vw s0) (VX kb c vu us dl nb vo vw s0) (DY kb I c vu us dl nb vo vw s0) (DS c us s0) (λ_=>True):=by
 intro l J Jx W hM au ai an aq;have ax:∀k,(k=kb\/vw.ownBlock=some k)->k<W.heap.size:=λk hk=>Nat.lt_trans (hM k hk) au;have Hn:=λ(z:List DX)(V:World)(hp:Steps c us s0 z)(h:DK kb I c vu us dl nb vo vw s0 z V)=>KI hp hG hdl af h;have HN:Hid _:=Hn;have HY:Hid _:=an;have a4:Hid _:=aq;have HS:Hid _:=ai;have cb:=ai.2;have HG:Hid _:=jw hG (jw af ax);clear an aq Hn ai hG af hM ax au;refine callsIn_of_wp (fq Tryz.func75 rfl) rfl trivial ?_ rfl;simp only[Tryz.ntmps75,dL,aN,bM,Nat.reduceAdd,Nat.reduceSub,cO,bZ,dN,cZ,dM,dH];gi_wp2;refine⟨trivial,(callsIn_wide.2 (HN.out [] W .nil HS.out)).mono ?_⟩;rintro x1 w1 ⟨i0,i1,i2,i3,i4,ta,tn,tc,da,dn,dc,i7,ok,rfl,a3,ak,ab⟩;have HA:Hid _:=jw a3 ak;clear a3 ak;gi_wp2
 gi_loopw [3,4] (λv3 v4 wr=>∃(lb:Nat)(i0 i1 i2 i3 i4:Int)(ta:Option Addr)(tn tc:Nat)(da:Option Addr)(dn dc:Nat)(i7:Int)(ok:Bool)(z:List DX)(W0:World),v3=.pointer (some ⟨lb,0,none⟩)/\v4=.bool ok/\wr.heap[lb]? =some (.cells #[.int .i64 i0,.int .i64 i1,.int .i64 i2,.int .i64 i3,.int .i64 i4,.slice ta tn tc,.slice da dn dc,.int .i64 i7] 62 (0,0))/\wr.cell? ⟨I,0,none⟩=some (.pointer (some ⟨kb,0,none⟩))/\Hid (J z W0/\jJ (λk=>k=kb\/vw.ownBlock=some k) W0 wr/\W0.heap.size<=lb/\W.heap.size<=W0.heap.size/\Rn kb I c vu us dl nb vo vw s0 z W0.heap.size (.agg #[.int .i64 i0,.int .i64 i1,.int .i64 i2,.int .i64 i3,.int .i64 i4,.slice ta tn tc,.slice da dn dc,.int .i64 i7]) ok wr))
  (λ_ v4 wr=>mL kb c us v4 wr)
 case atStart=>
  have hb:=(aB w1.heap.size w1).alloc jA (.cells #[.int .i64 i0,.int .i64 i1,.int .i64 i2,.int .i64 i3,.int .i64 i4,.slice ta tn tc,.slice da dn dc,.int .i64 i7] 62);exact⟨w1.heap.size,i0,i1,i2,i3,i4,ta,tn,tc,da,dn,dc,i7,ok,[],W,rfl,rfl,heap_alloc_new _ _,(hb.cell (p:=⟨I,0,none⟩) (fA w1 ⟨I,0,none⟩ ab)).trans ab,⟨a4.out,HA.out.1.trans (.below hb jA _) (λ_ _ e=>e),HA.out.1.size,jA,HA.out.2.below hb jA⟩⟩
 case round=>
  clear HA ab cb;obtain⟨lb,i0,i1,i2,i3,i4,ta,tn,tc,da,dn,dc,i7,ok,z,W0,rfl,rfl,aj,cb,Hr⟩:=hrel;obtain⟨l0,l1,l2,l3,l4,l5,l6,l7,lf⟩:=kX aj;cases ok with
  |false=>
   gi_wp2;go_end0;obtain⟨hJ,hc,ar,am,ha⟩:=Hr.out;rcases ha with⟨e,_⟩|⟨_,hS,hE⟩
   ·cases e
   ·exact⟨⟨_,rfl⟩,.inl ⟨z,W0,hS,hJ,hc,hE⟩⟩
  |true=>
   obtain⟨hJ,hc,ar,am,ha⟩:=Hr.out;rcases ha with⟨_,x,ag,hy⟩|⟨e,_⟩
   ·obtain⟨fn,tmps,assign,body,a8,hR⟩:=HY.out z x W0 wr hJ hc hy;simp only[DX.encs,ag]at a8;have HR:Hid _:=hR;have Hy:Hid _:=jw hy ag;clear hR hy hc hJ ar ag am;have aw:lb<wr.heap.size:=(jC aj)
    gi_wp2;refine RoundIn.mono HR.out ?_;rintro e E (⟨rfl,a1,ao,Y,az⟩|⟨rfl,ay⟩)
    ·have av:=(az lb Hr.out.2.2.1 aw).trans aj;obtain⟨m0,m1,m2,m3,m4,m5,m6,m7,mf⟩:=kX av;have a2:=Y.2;have H3:Hid _:=jw a1 (jw ao Y);have ae:I<E.heap.size:=fA E ⟨I,0,none⟩ a2;have a9:∀o,(E.alloc o).cell? ⟨I,0,none⟩=some (.pointer (some ⟨kb,0,none⟩)):=λo=>(((aB E.heap.size E).alloc jA o).cell (p:=⟨I,0,none⟩) ae).trans a2;have aa:∀o,DK kb I c vu us dl nb vo vw s0 (z++[x]) (E.alloc o):=λo=>⟨let ⟨vw',q1,q2⟩:=Y.1;⟨vw',q1.below ((aB E.heap.size E).alloc jA o),q2⟩,a9 o⟩
     have ba:Hid _:=aa;clear a1 ao Y az av aa;gi_wp2;refine⟨trivial,(callsIn_wide.2 (HN.out (z++[x]) _ Hy.out.1.1 (ba.out _))).mono ?_⟩;rintro x1 w4 ⟨j0,j1,j2,j3,j4,ja,jn,jc,ka,kn,kc,j7,a6,rfl,ac,ap,a7⟩
     have a0:¬(E.heap.size=kb\/vw.ownBlock=some E.heap.size):=λh=>by
      have q1:=HG.out.2.2 _ h;have q2:=Hr.out.2.2.2.1;have q3:=Hr.out.2.1.size;have q4:=H3.out.2.1;omega
     have ah:=(ac.block E.heap.size (by simp) a0).trans (heap_alloc_new E _);obtain⟨n0,n1,n2,n3,n4,n5,n6,n7,nf⟩:=kX ah;have R:Hid _:=jw ac (jw ap (jw ah a7));clear ac ap ah a0;gi_wp2;go_roundw
     case rel=>
      have hE:=zJ R.out.1 R.out.2.1 R.out.2.2.1 R.out.2.2.2 ae (.int .i64 j0) (.int .i64 j1) (.int .i64 j2) (.int .i64 j3) (.int .i64 j4) (.slice ja jn jc) (.slice ka kn kc) (.int .i64 j7);have hO:=CP R.out.2.2.1 (.int .i64 j0) (.int .i64 j1) (.int .i64 j2) (.int .i64 j3) (.int .i64 j4) (.slice ja jn jc) (.slice ka kn kc) (.int .i64 j7);exact⟨E.heap.size,j0,j1,j2,j3,j4,ja,jn,jc,ka,kn,kc,j7,a6,z++[x],E,rfl,rfl,hO,hE.2.2,⟨H3.out.1,hE.2.1,jA,aW Hr.out.2.2.2.1 (aW Hr.out.2.1.size H3.out.2.1),hE.1⟩⟩
     case measure=>
      have hE:=zJ R.out.1 R.out.2.1 R.out.2.2.1 R.out.2.2.2 ae (.int .i64 j0) (.int .i64 j1) (.int .i64 j2) (.int .i64 j3) (.int .i64 j4) (.slice ja jn jc) (.slice ka kn kc) (.int .i64 j7);have hm:=Nat.lt_of_lt_of_eq (Vu hE.1 HG.out.1 Hy.out.1.1 a5) (XM Hy.out.1.2.2.2.2.1).symm;clear hE;unfold qM at hm;exact hm
    ·gi_wp2;refine bodyPost_ret (results_none rfl _ _ _) rfl ?_;exact⟨⟨_,rfl⟩,.inr ⟨z++[x],E,trivial,ay,jJ.refl _ _⟩⟩
   ·cases e
end Hm
namespace Dv
open Fr (F)
section
variable {b:Option Int}{u:U}{l:List U}
theorem kT{r:List U}(h:jV b (u::r)=true):mM b u=true/\jV (some u.time) r=true:=by
 simpa[jV]using h
theorem DC(h:mM b u=true):small u=true:=by
 unfold mM at h;simp only[bY]at h;exact h.2
theorem zx:∀(l:List U)(b:Int),jV (some b) l=true->∀k,k<l.length->b+(k:Int)<(l[k]!).time/\(l[k]!).time<=b+24*((k:Int)+1)
 |[],_,_,k,hk=>by simp at hk
 |u::r,b,h,0,_=>by
  have z:=(kT h).1;unfold mM at z;simp only[bY,decide_eq_true_eq]at z;simp only[List.getElem!_cons_zero];omega
 |u::r,b,h,k+1,hk=>by
  have z:=(kT h).1;unfold mM at z;simp only[bY,decide_eq_true_eq]at z;have:=zx r u.time (kT h).2 k (by simpa using hk);simp only[jk];omega
theorem zy:∀(l:List U)(b:Option Int),jV b l=true->∀i j,i<j->j<l.length->(l[i]!).time+((j:Int)-(i:Int))<=(l[j]!).time/\(l[j]!).time<=(l[i]!).time+24*((j:Int)-(i:Int))
 |[],_,_,_,j,_,hj=>by simp at hj
 |u::r,b,h,0,j+1,_,hj=>by
  have:=zx r u.time (kT h).2 j (by simpa using hj);simp only[List.getElem!_cons_zero,jk];omega
 |u::r,b,h,i+1,j+1,hij,hj=>by
  have:=zy r (some u.time) (kT h).2 i j (by omega) (by simpa using hj);simp only[jk];omega
theorem nY:∀(l:List U)(b:Option Int),jV b l=true->∀k,k<l.length->small (l[k]!)=true
 |[],_,_,k,hk=>by simp at hk
 |u::r,b,h,0,_=>DC (kT h).1
 |u::r,b,h,k+1,hk=>by
  rw[jk];exact nY r _ (kT h).2 k (by simpa using hk)
theorem kJ(h:jR l=true):1<=l.length/\l.length<=60/\jV none l=true/\0<=(l[0]!).time/\(l[0]!).time<=1000000:=by
 unfold jR at h;simp only[bY,decide_eq_true_eq]at h;obtain⟨⟨z,h2⟩,h3⟩:=h;refine⟨z,h2,h3,?_⟩;cases l with
 |nil=>simp at z
 |cons u r=>
  have:=(kT h3).1;unfold mM at this;simp only[bY,decide_eq_true_eq]at this;simpa using this.1
theorem rY(h:jR l=true){i j:Nat}(E:i<=j)(I:j<l.length):(l[i]!).time+((j:Int)-(i:Int))<=(l[j]!).time/\(l[j]!).time<=(l[i]!).time+24*((j:Int)-(i:Int)):=by
 rcases jl E with z|rfl
 ·exact zy l none (kJ h).2.2.1 i j z I
 ·omega
theorem Qr(h:jR l=true){i:Nat}(z:i<l.length):0<=(l[i]!).time/\(l[i]!).time<=1001440:=by
 have E:=kJ h;have h2:=rY h (dF i) z;omega
section
variable (c:Cf)(chain:List U)(n:Nat)
theorem Bj(e:Nat)(t:Int):∀l:List Ba,(sift c chain n e t l).2.length<=l.length
 |[]=>by simp[sift]
 |b::r=>by
  have z:=Bj e t r;rw[sift]
  repeat' split
  all_goals simp only[aN]
  all_goals omega
theorem xC(e:Nat)(t:Int):∀(l:List Ba)(b:Ba),(sift c chain n e t l).1=.got b->b∈l/\(b.time:Int)=t/\e<=b.epoch/\b.epoch<=e+1/\(b.epoch:Int)+c.window≥(b.place:Int)/\holds c chain n e t b=false/\wrong c chain e t b=false/\(sift c chain n e t l).2.length+1<=l.length
 |[],b,h=>by simp[sift]at h
 |x::r,b,h=>by
  have I:=xC e t r b;rw[sift]at h⊢;split at h
  ·rename_i J;rw[if_pos J];obtain⟨i1,i2,i3,i4,z,E,i7,R⟩:=I h;exact⟨bT _ i1,i2,i3,i4,z,E,i7,by simp only[aN];omega⟩
  ·rename_i J;rw[if_neg J];split at h
   ·rename_i h2;rw[if_pos h2];obtain⟨i1,i2,i3,i4,z,E,i7,R⟩:=I h;exact⟨bT _ i1,i2,i3,i4,z,E,i7,by simp only[aN];omega⟩
   ·rename_i h2;rw[if_neg h2];split at h
    ·cases h
    ·rename_i h3;rw[if_neg h3];split at h
     ·rename_i h4;rw[if_pos h4];obtain⟨i1,i2,i3,i4,z,E,i7,R⟩:=I h;exact⟨bT _ i1,i2,i3,i4,z,E,i7,by simp only[aN];omega⟩
     ·rename_i h4;rw[if_neg h4];cases h;simp only[late,iM,decide_eq_true_eq,not_or]at h2;exact⟨dK ..,by omega,by omega,by omega,by omega,by simpa using h3,by simpa using h4,by simp⟩
theorem Vw(h:Lo)(wait:List Ba):(draw c chain n h wait).2.length<=wait.length:=by
 have:=Bj c chain n h.epoch (h.time+c.step) wait;unfold draw;simp only;split
 ·exact this
 ·exact this
 ·split<;>exact this
theorem yA{h x:Lo}{wait k:List Ba}(R:jR chain=true)(z:jP c=true)(J:n<chain.length)(he:h.epoch<=n)(hd:draw c chain n h wait=(some x,k)):
  h.epoch<=x.epoch/\x.epoch<=h.epoch+1/\x.epoch<=n/\x.time=h.time+c.step/\x.number=h.number+1/\x.at_=n/\x.id=(chain[x.epoch]!).id/\
  k.length+1+(n-x.epoch)+((chain[n]!).time-x.time).toNat<=wait.length+(n-h.epoch)+((chain[n]!).time-h.time).toNat:=by
 unfold jP at z;simp only[decide_eq_true_eq]at z;have hl:=Bj c chain n h.epoch (h.time+c.step) wait;unfold draw at hd;simp only at hd;split at hd
 ·simp at hd
 ·rename_i b I;simp only[dA,aC]at hd;obtain⟨rfl,rfl⟩:=hd;obtain⟨_,_,i3,i4,_,E,_,Y⟩:=xC c chain n _ _ _ _ I
  have hk:b.epoch<=n:=by
   unfold holds at E;simp only[gV,iV,beq_eq_false_iff_ne,decide_eq_false_iff_not]at E;omega
  simp only[lay];refine⟨i3,i4,hk,trivial,trivial,trivial,trivial,?_⟩;omega
 ·split at hd
  ·simp at hd
  ·rename_i hw;simp only[dA,aC]at hd;obtain⟨rfl,rfl⟩:=hd;simp only[lay];by_cases ht:(chain[h.epoch+1]!).time<=h.time+c.step
   ·rw[if_pos ht];refine⟨by omega,by omega,by omega,trivial,trivial,trivial,trivial,?_⟩;omega
   ·rw[if_neg ht];have:=rY R (i:=h.epoch+1) (j:=n) (by omega) J;refine⟨by omega,by omega,by omega,trivial,trivial,trivial,trivial,?_⟩;omega
theorem wL(I:jR chain=true)(z:jP c=true)(J:n<chain.length):∀(f E:Nat)(h:Lo)(wait:List Ba),h.epoch<=n->left chain n h wait<f->left chain n h wait<E->draws c chain n f h wait=draws c chain n E h wait
 |0,_,_,_,_,h,_=>by omega
 |_,0,_,_,_,_,h=>by omega
 |f+1,E+1,h,wait,he,h1,h2=>by
  rw[draws,draws];cases hd:draw c chain n h wait with
  |mk o k=>
   cases o with
   |none=>rfl
   |some x=>
    have hs:=yA c chain n I z J he hd;unfold left at h1 h2;have R:=wL I z J f E x k (by omega) (by unfold left;omega) (by unfold left;omega);simp only[R]
theorem zu(J:jR chain=true)(E:jP c=true)(R:n<chain.length):∀(f:Nat)(h:Lo)(wait:List Ba),h.epoch<=n->
  let r:=draws c chain n f h wait
  let z:=(h::r.1).getLastD default
  z.epoch<=n/\h.epoch<=z.epoch/\z.time=h.time+c.step*(r.1.length:Int)/\z.number=h.number+r.1.length/\r.2.length+r.1.length+(n-z.epoch)+((chain[n]!).time-z.time).toNat<=wait.length+(n-h.epoch)+((chain[n]!).time-h.time).toNat
 |0,h,wait,he=>by simp[draws];exact he
 |f+1,h,wait,he=>by
  rw[draws];cases hd:draw c chain n h wait with
  |mk o k=>
   cases o with
   |none=>
    have:=Vw c chain n h wait;rw[hd]at this;simp only[List.getLastD_cons,List.getLastD_nil,bM]at this⊢;refine⟨he,jA,by omega,by omega,by omega⟩
   |some x=>
    have hs:=yA c chain n J E R he hd;have I:=zu J E R f x k (by omega);simp only[List.getLastD_cons,aN]at I⊢;obtain⟨i1,i2,i3,i4,Y⟩:=I;refine⟨i1,by omega,?_,by omega,by omega⟩;rw[i3,hs.2.2.2.1]
    push_cast
    rw[Int.mul_add];omega
end
theorem E8:∀(f:Nat)(s:List UInt8)(p:Nat)(l:List F),p<=s.length->Fr.rest f s p=some l->p+9*l.length<=s.length
 |0,s,p,l,hp,h=>by
  simp only[Fr.rest]at h;split at h
  ·simp at h;subst h;simp;exact hp
  ·simp at h
 |f+1,s,p,l,hp,h=>by
  rw[Fr.rest]at h;split at h
  ·simp at h;subst h;simp;exact hp
  ·cases z:Fr.one s p with
   |none=>rw[z]at h;simp at h
   |some x=>
    obtain⟨x,n⟩:=x;rw[z]at h;simp only at h;obtain⟨t,ht,rfl⟩:=aX.1 h;have E:=Fr.one_le z;have:=E8 f s _ t E.2 ht;simp only[aN];omega
theorem Ji(s:List UInt8):9*((Fr.frames s).getD []).length<=s.length:=by
 cases h:Fr.frames s with
 |none=>simp
 |some l=>
  unfold Fr.frames at h;split at h
  ·simp at h
  ·rename_i h2;have:=E8 _ _ _ _ (by omega) h;simp only[fB];omega
theorem yZ(c:Cf)(t:Tx)(h:t.data.length<=2000):(mG c t).length<=222:=by
 unfold mG;split
 ·have:=Ji t.data;omega
 ·simp
theorem Fj(c:Cf):∀(l:List Tx),(∀t,t∈l->t.data.length<=2000)->(heard c l).length<=222*l.length
 |[],_=>by simp[heard]
 |t::l,h=>by
  have z:=Fj c l (λx E=>h x (bT _ E));have I:=yZ c t (h t (dK ..));unfold heard at z⊢;rw[gQ,aJ,aN];omega
theorem yX(h:small u=true):u.txs.length<=20/\u.logs.length<=20/\(∀t,t∈u.txs->t.data.length<=2000)/\(∀s,s∈u.logs->s.length<=2000):=by
 unfold small at h;simp only[bY,decide_eq_true_eq,eY]at h;exact⟨h.1.1.1,h.1.1.2,h.1.2,h.2⟩
theorem zA(c:Cf)(h:small u=true):(heard c u.txs).length<=4440:=by
 have z:=yX h;have:=Fj c u.txs z.2.2.1;omega
theorem P6(most:Int)(n:Nat)(cs:List Ch)(f:F):(frame most n cs f).length<=cs.length+1:=by
 unfold frame;split
 ·have:=gU (λc:Ch=>c.name != f.chan) cs;simp only[aJ,aN,bM];omega
 ·simp
theorem sZ(most:Int)(n:Nat):∀(l:List F)(cs:List Ch),(l.foldl (frame most n) cs).length<=cs.length+l.length
 |[],cs=>by simp
 |f::l,cs=>by
  have z:=sZ most n l (frame most n cs f);have h2:=P6 most n cs f;simp only[List.foldl_cons,aN];omega
theorem CW:∀cs:List Ch,(pull cs).1.length+(pull cs).2.length=cs.length
 |[]=>by simp[pull]
 |c::cs=>by
  rw[pull];split
  ·simp
  ·have:=CW cs;simp only[aN];omega
theorem rW:∀(f:Nat)(s:List UInt8)(most:Int)(out:List UInt8),(out.length:Int)<=max most 0->((Sq.spread f s most out).1.length:Int)<=max most 0
 |0,_,_,out,h=>h
 |f+1,s,most,out,h=>by
  rw[Sq.spread];split
  ·exact h
  ·split
   ·exact h
   ·split
    ·simp only[aJ,aZ];omega
    ·rename_i h2;exact rW f _ _ _ (by simp only[aJ];omega)
theorem RY:∀(f:Nat)(s:List UInt8)(n:Nat),(rd f s n).length<=f
 |0,_,_=>by simp[rd]
 |f+1,s,n=>by
  rw[rd];split
  ·simp
  ·split
   ·simp
   ·split
    ·simp
    ·rename_i _ i k _ _ b _;have:=RY f (s.drop k) n;rw[aJ];split<;>simp only[aN,bM]<;>omega
theorem QS(s:List UInt8)(n:Nat):(reads s n).length<=4096:=by
 have z:=RY (Sq.spread s.length s 4096 []).1.length (Sq.spread s.length s 4096 []).1 n;have h2:=rW s.length s 4096 [] (by simp only[bM];omega);unfold reads;omega
theorem vX(n:Nat):∀l:List (List UInt8),(l.flatMap (λs=>reads s n)).length<=4096*l.length
 |[]=>by simp
 |s::l=>by
  have z:=vX n l;have h2:=QS s n;rw[gQ,aJ,aN];omega
theorem take_len(c:Cf)(u:U)(n:Nat)(cs:List Ch)(wait:List Ba)(z:small u=true):4096*(take c u n cs wait).1.length+(take c u n cs wait).2.length<=4096*cs.length+wait.length+18186240:=by
 have E:=zA c z;have h2:=sZ c.most n (heard c u.txs) (cs.filter λx=>decide ((n:Int)-(x.opened:Int)<=c.timeout));have h3:=gU (λx:Ch=>decide ((n:Int)-(x.opened:Int)<=c.timeout)) cs;have h4:=CW ((heard c u.txs).foldl (frame c.most n) (cs.filter λx=>decide ((n:Int)-(x.opened:Int)<=c.timeout)));have I:=vX n (pull ((heard c u.txs).foldl (frame c.most n) (cs.filter λx=>decide ((n:Int)-(x.opened:Int)<=c.timeout)))).1;unfold take;simp only[aJ];omega
def much(chain:List U)(n:Nat)(s:St):Nat:=4096*s.chs.length+s.wait.length+s.log.length+(n-(s.log.getLastD default).epoch)+((chain[n]!).time-(s.log.getLastD default).time).toNat
structure Fit(c:Cf)(chain:List U)(k:Nat)(s:St):Prop where
 some:s.log≠[]
 epoch:(s.log.getLastD default).epoch<=k-1
 time:(s.log.getLastD default).time=(chain[0]!).time+c.step*((s.log.length-1:Nat):Int)
 number:(s.log.getLastD default).number+1=s.log.length
 much:much chain (k-1) s<=2+k*18186265
theorem lU{α:Type}[Inhabited α](a b:List α)(_:a≠[]):(a++b).getLastD default=(a.getLastD default::b).getLastD default:=by
 cases b with
 |nil=>simp
 |cons x b=>
  simp only[List.getLastD_eq_getLast?,List.getLast?_append,List.getLast?_cons_cons];cases E:(x::b).getLast? with
  |none=>simp at E
  |some z=>simp
theorem RG{c:Cf}{chain:List U}(J:jR chain=true)(I:jP c=true){k:Nat}(hk:k<chain.length){s:St}(h:Fit c chain k s):Fit c chain (k+1) (step c chain k s):=by
 have R:=kJ J;have ab:=take_len c (chain[k]!) k s.chs s.wait (nY chain none R.2.2.1 k hk);have E:=zu c chain k J I hk (left chain k (s.log.getLastD default) (take c (chain[k]!) k s.chs s.wait).2+1) (s.log.getLastD default) (take c (chain[k]!) k s.chs s.wait).2 (by have:=h.epoch;omega);have hm:=h.much;have hs:=h.some;have Y:1<=s.log.length:=by cases hl:s.log with|nil=>exact absurd hl hs|cons=>simp
 have ht:=rY J (i:=k-1) (j:=k) (by omega) hk;have aa:=h.number;have z:=h.time;unfold Dv.much at hm;unfold step;simp only;generalize hT:take c (chain[k]!) k s.chs s.wait=T at *;generalize hD:draws c chain k (left chain k (s.log.getLastD default) T.2+1) (s.log.getLastD default) T.2=D at *;simp only at E;obtain⟨d1,d2,d3,d4,d5⟩:=E;refine⟨?_,?_,?_,?_,?_⟩
 ·simp[hs]
 ·rw[lU _ _ hs];exact d1
 ·rw[lU _ _ hs,d3,z,aJ,show s.log.length+D.1.length-1=(s.log.length-1)+D.1.length from by omega,Int.natCast_add,Int.mul_add];omega
 ·rw[lU _ _ hs,d4,aJ];omega
 ·unfold Dv.much;simp only[Nat.add_sub_cancel];rw[lU _ _ hs,aJ]
  have:((chain[k]!).time-(s.log.getLastD default).time).toNat<=((chain[k-1]!).time-(s.log.getLastD default).time).toNat+24:=by
   rcases gB k with rfl|ac
   ·simp
   ·omega
  omega
theorem Qz(c:Cf)(chain:List U):Fit c chain 0 (start chain):=by
 refine⟨by simp[start],by simp[start,first],by simp[start,first],by simp[start,first],?_⟩;simp[much,start,first]
theorem rJ{c:Cf}{chain:List U}(E:jR chain=true)(z:jP c=true):∀k,k<=chain.length->Fit c chain k (gone c chain k)
 |0,_=>Qz c chain
 |k+1,hk=>RG E z (by omega) (rJ E z k (by omega))
end
end Dv
namespace Hm
open Dv (U Cf Ba Lo)
section
variable {ep cnt T:Nat}{b:Ba}{h:Lo}{s s0:rM}{x:DX}{pre:List DX}{ws:List PW}
structure Lk(chain:List U)(us:List PB)(dl:Nat->List (List UInt8)):Prop where
 pos:0<us.length
 len:us.length<=chain.length
 id:∀j,j<us.length->Ey us j=(chain[j]!).id
 time:∀j,j<us.length->zN us j=(chain[j]!).time
 deps:∀j,j<us.length->dl j=Dv.jL (chain[j]!)
section
variable {c:Cf}{chain:List U}{us:List PB}{dl:Nat->List (List UInt8)}
theorem rV(ep:Nat)(t:Int)(b:Ba):outside c ep t b=Dv.late c ep t b:=by
 unfold outside Dv.late;rw[Bool.eq_iff_iff];simp only[iM,bY,decide_eq_true_eq,bne_iff_ne];omega
theorem Dk(l:List (List UInt8)):(l.length == 0)=l.isEmpty:=by cases l<;>simp
theorem y8(hk:Lk chain us dl)(I:ep<us.length){t:Int}(E:outside c ep t b=false):waits c us ep t b b.txs.length=Dv.holds c chain (us.length-1) ep t b:=by
 unfold waits Dv.holds;rw[Dk,<-hk.time ep I];unfold outside at E;simp only[gV,iV,decide_eq_false_iff_not,bne_eq_false_iff_eq]at E;rw[Bool.eq_iff_iff];by_cases h:ep+1<=us.length-1
 ·rw[if_pos h];simp only[iM,bY,decide_eq_true_eq,beq_iff_eq,bJ,false_iff,not_or,not_and];exact⟨λ_=>by omega,λ_ _=>by omega⟩
 ·rw[if_neg h];simp only[iM,bY,decide_eq_true_eq,beq_iff_eq];constructor
  ·rintro(z|⟨z,h2⟩)
   ·exact .inl ⟨z,by omega⟩
   ·rcases E.1.2 with h3|h3
    ·exact .inr ⟨⟨⟨z,h3⟩,by omega⟩,h2⟩
    ·exact .inl ⟨h3,by omega⟩
  ·rintro(⟨z,_⟩|⟨⟨⟨z,h3⟩,_⟩,h2⟩)
   ·exact .inl z
   ·exact .inr ⟨z,h2⟩
theorem JX(hk:Lk chain us dl)(R:ep<us.length){t:Int}(hb:b.epoch<us.length)(hw:waits c us ep t b b.txs.length=false):OQ c us ep t b b.txs.length=Dv.wrong c chain ep t b:=by
 have J:b.epoch=ep->b.txs.isEmpty=true->(chain[b.epoch]!).time+c.drift<t->ep+1<us.length:=λY I hl=>by
  unfold waits at hw;rw[Dk,I,hk.time _ R,<-Y]at hw;by_cases h:b.epoch+1<=us.length-1
  ·omega
  ·rw[if_neg h,decide_eq_true hl]at hw;simp at hw
 have h2:ep+1<us.length->zN us (ep+1)=(chain[ep+1]!).time:=hk.time _;unfold OQ Dv.wrong allows;rw[Dk,hk.id _ hb,hk.time _ hb]
 congr 1
 revert J h2;generalize (chain[b.epoch]!).time=A;generalize (chain[ep+1]!).time=D;generalize zN us (ep+1)=D';intro J h2;rw[Bool.eq_iff_iff];simp only[bY,decide_eq_true_eq,Bool.not_eq_true',iV,gV,bne_eq_false_iff_eq,decide_eq_false_iff_not,iM,beq_iff_eq];constructor
 ·rintro⟨z,E|⟨E,a3⟩⟩
  ·exact⟨z,.inl E⟩
  ·by_cases I:b.txs.isEmpty=true
   ·have:=h2 (J E I z);exact⟨z,.inr ⟨E,by omega⟩⟩
   ·exact⟨z,.inl (by simpa using I)⟩
 ·rintro⟨z,E|⟨E,a3⟩⟩
  ·exact⟨z,.inl E⟩
  ·by_cases I:b.txs.isEmpty=true
   ·have:=h2 (J E I z);exact⟨z,.inr ⟨E,by omega⟩⟩
   ·exact⟨z,.inl (by simpa using I)⟩
theorem Dw(hk:Lk chain us dl)(z:ep<us.length)(I:b.epoch<us.length):
  verdict c us cnt ep b b.txs.length=if lF c us cnt<(b.time:Int)then 0 else if Dv.late c ep (lF c us cnt) b then 1 else if Dv.holds c chain (us.length-1) ep (lF c us cnt) b then 2 else if Dv.wrong c chain ep (lF c us cnt) b then 1 else 3:=by
 unfold verdict;split
 ·rfl
 ·rw[rV];split
  ·rfl
  ·rename_i E;rw[y8 hk z (by rw[rV];simpa using E)];split
   ·rfl
   ·rename_i h2;rw[JX hk z I (by rw[y8 hk z (by rw[rV];simpa using E)];simpa using h2)]
theorem Ei(hk:Lk chain us dl){cnt ep:Nat}(E:ep<us.length):∀ws:List PW,(∀p,p∈ws->p.1.epoch<us.length)->
  (pick (judged c us cnt ep) ws).2.map Prod.fst=(Dv.sift c chain (us.length-1) ep (lF c us cnt) (ws.map Prod.fst)).2/\
  (match (Dv.sift c chain (us.length-1) ep (lF c us cnt) (ws.map Prod.fst)).1 with
   |.no=>(pick (judged c us cnt ep) ws).1=(0,none)
   |.hold=>(pick (judged c us cnt ep) ws).1=(2,none)
   |.got b=>∃v,(pick (judged c us cnt ep) ws).1=(3,some (b,v)))
 |[],_=>by simp[pick,Dv.sift]
 |b::r,h=>by
  obtain⟨i1,i2⟩:=Ei hk (cnt:=cnt) E r (λp hp=>h p (bT _ hp));have z:judged c us cnt ep b=_:=Dw (c:=c) hk (cnt:=cnt) E (h b dK);rw[dW,Dv.sift,pick];by_cases I:lF c us cnt<(b.1.time:Int)
  ·rw[if_pos I]at z⊢;rw[if_pos z];exact⟨by simp[i1],i2⟩
  ·rw[if_neg I]at z⊢;by_cases h2:Dv.late c ep (lF c us cnt) b.1=true
   ·rw[if_pos h2]at z⊢;rw[if_neg (by omega),if_neg (by omega),if_neg (by omega)];exact⟨i1,i2⟩
   ·rw[if_neg h2]at z⊢;by_cases h3:Dv.holds c chain (us.length-1) ep (lF c us cnt) b.1=true
    ·rw[if_pos h3]at z⊢;rw[if_neg (by omega),if_pos z];exact⟨rfl,rfl⟩
    ·rw[if_neg h3]at z⊢;by_cases h4:Dv.wrong c chain ep (lF c us cnt) b.1=true
     ·rw[if_pos h4]at z⊢;rw[if_neg (by omega),if_neg (by omega),if_neg (by omega)];exact⟨i1,i2⟩
     ·rw[if_neg h4]at z⊢;rw[if_neg (by omega),if_neg (by omega),if_pos z];exact⟨rfl,b.2,rfl⟩
def Bv:Option PW->List (List UInt8)
 |some b=>b.1.txs
 |none=>[]
def o9(c:Cf)(us:List PB)(dl:Nat->List (List UInt8))(x:DX):Lo:=⟨x.s.cnt,lF c us x.s.cnt,x.e,Ey us x.e,x.s'.sq,Bv x.ob,if x.s'.sq=0 then dl x.e else [],us.length-1⟩
structure Hs(c:Cf)(us:List PB)(h:Lo)(s:rM):Prop where
 number:h.number+1=s.cnt
 time:h.time+c.step=lF c us s.cnt
 epoch:h.epoch=s.ep
 seq:h.seq=s.sq
theorem Fg(hk:Lk chain us dl)(hs:Hs c us h s)(I:s.ep<us.length)(hw:1<=c.window)(E:∀p,p∈s.ws->p.1.epoch<us.length):
  (jH c us s.ws s.cnt s.ep).2.map Prod.fst=(Dv.draw c chain (us.length-1) h (s.ws.map Prod.fst)).2/\
  (match (jH c us s.ws s.cnt s.ep).1 with
   |none=>(Dv.draw c chain (us.length-1) h (s.ws.map Prod.fst)).1=none
   |some (e,ob)=>(Dv.draw c chain (us.length-1) h (s.ws.map Prod.fst)).1=some (Dv.lay c chain (us.length-1) h e (Bv ob))):=by
 have J:s.cnt≠0:=by have:=hs.number;omega
 obtain⟨i1,i2⟩:=Ei (c:=c) hk (cnt:=s.cnt) I s.ws E;unfold jH Dv.draw;rw[if_neg (by have:=hk.pos;omega),if_neg J];rw[hs.epoch,hs.time];cases z:(Dv.sift c chain (us.length-1) s.ep (lF c us s.cnt) (s.ws.map Prod.fst)).1 with
 |got b=>
  rw[z]at i2;obtain⟨v,Y⟩:=i2;rw[Y];dsimp only;rw[z];exact⟨i1,rfl⟩
 |hold=>
  rw[z]at i2;rw[i2];dsimp only;rw[z,if_neg (by simp)];exact⟨i1,rfl⟩
 |no=>
  rw[z]at i2;rw[i2];dsimp only;rw[z];by_cases R:((us.length-1:Nat):Int)<=(s.ep:Int)+c.window
  ·rw[if_neg (by omega)];dsimp only;rw[if_pos R];exact⟨i1,rfl⟩
  ·rw[if_pos ⟨by omega,by omega⟩];dsimp only;rw[if_neg R];refine⟨i1,?_⟩;unfold alone Bv;rw[hk.time _ (by omega:s.ep+1<us.length)]
theorem SN(hk:Lk chain us dl)(hs:Hs c us h x.s)(J:x.e<us.length)(I:x.s'=⟨x.s'.ws,x.s.cnt+1,x.e,jX x.s.cnt x.s.ep x.s.sq x.e⟩):Dv.lay c chain (us.length-1) h x.e (Bv x.ob)=o9 c us dl x/\Hs c us (o9 c us dl x) x.s':=by
 have R:x.s'.sq=jX x.s.cnt x.s.ep x.s.sq x.e:=by rw[I]
 have z:x.s'.cnt=x.s.cnt+1:=by rw[I]
 have E:x.s'.ep=x.e:=by rw[I]
 have Y:=hs.number;refine⟨?_,?_,?_,?_,?_⟩
 ·unfold Dv.lay o9;rw[R];unfold jX;rw[hs.number,hs.time,hs.epoch,hs.seq,hk.id _ J,hk.deps _ J];by_cases h2:x.e=x.s.ep
  ·rw[if_pos h2,if_pos h2,if_pos ⟨by omega,h2⟩,if_neg (by omega)]
  ·rw[if_neg h2,if_neg h2,if_neg (λq=>h2 q.2),if_pos rfl]
 ·exact z.symm
 ·rw[z,Ee];rfl
 ·exact E.symm
 ·rfl
inductive wF(c:Cf)(us:List PB):rM->List DX->Prop
 |nil (s0:rM):wF c us s0 []
 |cons {x:DX} {r:List DX}:jH c us x.s.ws x.s.cnt x.s.ep=(some (x.e,x.ob),x.s'.ws)->x.s'=⟨x.s'.ws,x.s.cnt+1,x.e,jX x.s.cnt x.s.ep x.s.sq x.e⟩->wF c us x.s' r->wF c us x.s (x::r)
theorem wF.snoc{s0:rM}{pre:List DX}(h:wF c us s0 pre):∀{x:DX},x.s=jI s0 pre->jH c us x.s.ws x.s.cnt x.s.ep=(some (x.e,x.ob),x.s'.ws)->x.s'=⟨x.s'.ws,x.s.cnt+1,x.e,jX x.s.cnt x.s.ep x.s.sq x.e⟩->wF c us s0 (pre++[x]):=by
 induction h with
 |nil s0=>
  intro x z h2 h3;have z:x.s=s0:=z;subst z;exact .cons h2 h3 (.nil _)
 |cons g1 g2 g3 ih=>
  intro x z h2 h3;exact .cons g1 g2 (ih z h2 h3)
theorem Steps.Xt(h:Steps c us s0 pre):wF c us s0 pre:=by
 induction h with
 |nil=>exact .nil _
 |snoc _ h2 h3 h4 ih=>exact ih.snoc h2 h3 h4
structure Ok(c:Cf)(chain:List U)(us:List PB)(T:Nat)(h:Lo)(s:rM):Prop where
 hs:Hs c us h s
 ep:s.ep<us.length
 ws:∀p,p∈s.ws->p.1.epoch<us.length/\p.1.place<=4294967296
 much:s.cnt+Dv.left chain (us.length-1) h (s.ws.map Prod.fst)<=T
 sq:s.sq<=s.cnt
theorem sD:∀p,p∈(jH c us ws cnt ep).2->p∈ws:=by
 intro p hp;have h2:=(pU (judged c us cnt ep) ws).2.1;unfold jH at hp;split at hp
 ·exact hp
 ·split at hp
  ·exact hp
  ·split at hp
   ·exact h2 p hp
   ·split at hp
    ·exact h2 p hp
    ·exact h2 p hp
theorem Ok.next(hk:Lk chain us dl)(hc:Dv.jR chain=true)(z:Dv.jP c=true)(o:Ok c chain us T h x.s)(h1:jH c us x.s.ws x.s.cnt x.s.ep=(some (x.e,x.ob),x.s'.ws))(h2:x.s'=⟨x.s'.ws,x.s.cnt+1,x.e,jX x.s.cnt x.s.ep x.s.sq x.e⟩):
  Dv.draw c chain (us.length-1) h (x.s.ws.map Prod.fst)=(some (o9 c us dl x),x.s'.ws.map Prod.fst)/\x.e<us.length/\Ok c chain us T (o9 c us dl x) x.s':=by
 have hw:1<=c.window:=by
  unfold Dv.jP at z;simp only[decide_eq_true_eq]at z;omega
 obtain⟨R,J⟩:=Fg hk o.hs o.ep hw (λp hp=>(o.ws p hp).1);rw[h1]at R J;dsimp only at R J;have hp:=hk.pos;have hl:=hk.len;have hd:Dv.draw c chain (us.length-1) h (x.s.ws.map Prod.fst)=(some (Dv.lay c chain (us.length-1) h x.e (Bv x.ob)),x.s'.ws.map Prod.fst):=Prod.ext J R.symm;have hs:=Dv.yA c chain (us.length-1) hc z (by omega) (by rw[o.hs.epoch];have:=o.ep;omega) hd
 have Y:x.e<us.length:=by
  have:=hs.2.2.1;simp only[Dv.lay]at this;omega
 obtain⟨e1,e2⟩:=SN hk o.hs Y h2;rw[e1]at hd hs;have E:x.s'.cnt=x.s.cnt+1:=by rw[h2]
 have I:x.s'.sq=jX x.s.cnt x.s.ep x.s.sq x.e:=by rw[h2]
 refine⟨hd,Y,e2,by rw[h2];exact Y,λp hp=>o.ws p ?_,?_,?_⟩
 ·have:=sD (c:=c) (us:=us) (ws:=x.s.ws) (cnt:=x.s.cnt) (ep:=x.s.ep) p;rw[h1]at this;exact this hp
 ·have hm:=o.much;unfold Dv.left at hm⊢;rw[E];have:=hs.2.2.2.2.2.2.2;omega
 ·rw[I,E];have:=o.sq;unfold jX;split<;>omega
theorem wF.ok(hk:Lk chain us dl)(R:Dv.jR chain=true)(E:Dv.jP c=true)(f:wF c us s0 pre):∀{h:Lo},Ok c chain us T h s0->∃z,Ok c chain us T z (jI s0 pre)/\z=(h::pre.map (o9 c us dl)).getLastD default:=by
 induction f with
 |nil s0=>
  intro h o;exact⟨h,o,rfl⟩
 |@cons x r h1 h2 _ ih=>
  intro h o;obtain⟨z,J,I⟩:=ih (o.next hk R E h1 h2).2.2;exact⟨z,J,by rw[I];simp⟩
theorem wF.draws(hk:Lk chain us dl)(Y:Dv.jR chain=true)(z:Dv.jP c=true)(f:wF c us s0 pre):∀{h:Lo}(n:Nat),Ok c chain us T h s0->(jH c us (jI s0 pre).ws (jI s0 pre).cnt (jI s0 pre).ep).1=none->pre.length<n->
  Dv.draws c chain (us.length-1) n h (s0.ws.map Prod.fst)=(pre.map (o9 c us dl),(jH c us (jI s0 pre).ws (jI s0 pre).cnt (jI s0 pre).ep).2.map Prod.fst):=by
 have hw:1<=c.window:=by
  unfold Dv.jP at z;simp only[decide_eq_true_eq]at z;omega
 induction f with
 |nil s0=>
  intro h n o E I;cases n with
  |zero=>simp at I
  |succ n=>
   obtain⟨R,J⟩:=Fg hk o.hs o.ep hw (λp hp=>(o.ws p hp).1);have E:(jH c us s0.ws s0.cnt s0.ep).1=none:=E;rw[E]at J;dsimp only at J;have hd:Dv.draw c chain (us.length-1) h (s0.ws.map Prod.fst)=(none,(jH c us s0.ws s0.cnt s0.ep).2.map Prod.fst):=Prod.ext J R.symm;rw[Dv.draws,hd];rfl
 |@cons x r h1 h2 _ ih=>
  intro h n o E I;cases n with
  |zero=>simp at I
  |succ n=>
   obtain⟨hd,he,o'⟩:=o.next hk Y z h1 h2;have:=ih n o' E (by simpa using I);rw[Dv.draws,hd];dsimp only;rw[this];rfl
theorem Steps.draws(hk:Lk chain us dl)(E:Dv.jR chain=true)(z:Dv.jP c=true)(f:wF c us s0 pre)(o:Ok c chain us T h s0)(I:(jH c us (jI s0 pre).ws (jI s0 pre).cnt (jI s0 pre).ep).1=none):
  Dv.draws c chain (us.length-1) (Dv.left chain (us.length-1) h (s0.ws.map Prod.fst)+1) h (s0.ws.map Prod.fst)=(pre.map (o9 c us dl),(jH c us (jI s0 pre).ws (jI s0 pre).cnt (jI s0 pre).ep).2.map Prod.fst):=by
 rw[Dv.wL c chain (us.length-1) E z (by have:=hk.len;have:=hk.pos;omega) _ (Dv.left chain (us.length-1) h (s0.ws.map Prod.fst)+1+pre.length) h _ (by rw[o.hs.epoch];have:=o.ep;omega) (by omega) (by omega)];exact f.draws hk E z _ o I (by omega)
theorem Lk.get(hk:Lk chain us dl){j:Nat}{p:PB}(h:us[j]? =some p):p.1=(chain[j]!).id/\p.2.1=(chain[j]!).time:=by
 have z:=(aF.1 h).1;exact⟨(FT h).symm.trans (hk.id j z),(uH h).symm.trans (hk.time j z)⟩
theorem Ok.sane(hk:Lk chain us dl)(J:Dv.jR chain=true)(z:Dv.jP c=true)(hT:T<4294967296)(o:Ok c chain us T h s):yL c us s.ws s.cnt s.ep:=by
 unfold Dv.jP at z;simp only[decide_eq_true_eq]at z;have R:=(Dv.kJ J).2.1;have hl:=hk.len;have E:=o.much;unfold Dv.left at E;rw[aU]at E;refine⟨λp hp=>?_,by omega,by omega,by omega,by omega,by omega,by omega,o.ep,o.ws⟩;obtain⟨j,I⟩:=jv.1 hp;have Y:=(aF.1 I).1;have:=Dv.Qr J (i:=j) (by omega);rw[(hk.get I).2];omega
theorem Xe(hk:Lk chain us dl)(J:Dv.jR chain=true)(E:Dv.jP c=true)(R:T<4294967296)(o:Ok c chain us T h s0):Good c us s0:=by
 intro pre hp;obtain⟨z,I,_⟩:=hp.Xt.ok hk J E o;have Y:=I.hs.number;have h2:=I.much;have h3:=I.sq;exact⟨λ_=>I.sane hk J E R,by omega,λe=>by omega⟩
theorem BR(z:us.length=1)(ws:List PW):jH c us ws 0 0=(some (0,none),ws):=by
 unfold jH;rw[if_neg (by omega),if_pos rfl]
theorem AQ(J:us.length=1)(f:wF c us ⟨ws,0,0,0⟩ pre):pre=[]\/∃x r,pre=x::r/\x.s=⟨ws,0,0,0⟩/\x.e=0/\x.ob=none/\x.s'=⟨ws,1,0,0⟩/\wF c us ⟨ws,1,0,0⟩ r:=by
 generalize z:(⟨ws,0,0,0⟩:rM)=s at f;cases f with
 |nil=>exact .inl rfl
 |@cons x r h1 h2 h3=>
  right;have hs:(⟨ws,0,0,0⟩:rM)=x.s:=z;clear z;rw[<-hs]at h1 h2;rw[BR J]at h1;simp only[dA,aC]at h1;obtain⟨⟨E,R⟩,I⟩:=h1;rw[<-E,<-I]at h2;have h2:x.s'=⟨ws,1,0,0⟩:=h2;rw[h2]at h3;exact⟨x,r,rfl,rfl,E.symm,R.symm,h2,h3⟩
theorem Nq(hk:Lk chain us dl)(E:us.length=1)(z:x.s=⟨ws,0,0,0⟩)(h2:x.e=0)(h3:x.ob=none)(h4:x.s'=⟨ws,1,0,0⟩):o9 c us dl x=Dv.first (chain[0]!):=by
 unfold o9 Dv.first;rw[z,h2,h3,h4]
 have ht:lF c us 0=zN us 0:=by
  unfold lF zN;simp
 dsimp only;rw[if_pos rfl,ht,hk.id 0 (by omega),hk.time 0 (by omega),hk.deps 0 (by omega),E];rfl
theorem CG(hk:Lk chain us dl)(E:us.length=1)(z:∀p,p∈ws->p.1.epoch<us.length/\p.1.place<=4294967296):Ok c chain us (1+ws.length) (Dv.first (chain[0]!)) ⟨ws,1,0,0⟩:=by
 refine⟨⟨rfl,?_,rfl,rfl⟩,by show 0<_;omega,z,?_,by simp⟩
 ·unfold Dv.first lF;have:=hk.time 0 (by omega);unfold zN at this;rw[this];simp
 ·unfold Dv.left Dv.first;rw[E];simp
theorem MI(hk:Lk chain us dl)(Y:Dv.jR chain=true)(E:Dv.jP c=true)(R:us.length=1)(aa:ws.length<4294967000)(I:∀p,p∈ws->p.1.epoch<us.length/\p.1.place<=4294967296):Good c us ⟨ws,0,0,0⟩:=by
 intro pre hp;rcases AQ R hp.Xt with rfl|⟨x,r,rfl,h1,h2,h3,h4,h5⟩
 ·refine⟨λ_=>?_,by show 0<_;omega,λ_=>rfl⟩;have:=(CG (c:=c) hk R I).sane hk Y E (by omega);exact⟨this.times,this.step,this.drift,this.window,by show 0<_;omega,this.len,this.wlen,this.ep,this.batch⟩
 ·obtain⟨z,J,_⟩:=h5.ok hk Y E (CG (c:=c) hk R I)
  have e:jI ⟨ws,0,0,0⟩ (x::r)=jI ⟨ws,1,0,0⟩ r:=by
   unfold jI;rw[List.foldl_cons,h4]
  rw[e];have h1:=J.hs.number;have h2:=J.much;have h3:=J.sq;exact⟨λ_=>J.sane hk Y E (by omega),by omega,λe=>by omega⟩
end
end
open Go.RowKit Go.Joins Go.Shelf
section
variable {M M':Nat->Prop}{W W' w w':World}{v vu vo vw v0:Value}{n kb nb cnt ep sq e s B0 cap:Nat}{c:Cf}{us:List PB}{dl:Nat->List (List UInt8)}{ws:List PW}{xs:List Value}{s0:rM}{pre:List DX}{x:DX}{a:Option Addr}
abbrev PL:=Lo×Value×Value
variable {p:PL}{ps0 ps:List PL}
def jY(p:PL):List Value:=[.int .i64 p.1.number,.int .i64 p.1.time,.int .i64 p.1.epoch,.int .i64 p.1.id,.int .i64 p.1.seq,p.2.1,p.2.2,.int .i64 p.1.at_]
structure Xn(M:Nat->Prop)(W:World)(p:PL):Prop where
 txs:kM W p.2.1 p.1.txs
 deps:kM W p.2.2 p.1.deps
 ntxs:∀g,p.2.1.ownBlock=some g->¬M g
 ndeps:∀g,p.2.2.ownBlock=some g->¬M g
def Oj(M:Nat->Prop)(W:World):Prop:=∀(k:Nat)(cs:Array Value)(z:Nat×Nat),W.heap[k]? =some (.cells cs 9 z)->¬M k
theorem kM.jO{l:List (List UInt8)}(h:kM W v l)(R:jJ M W W')(I:Oj M W):kM W' v l:=Row.jO h R (λg J=>by
 obtain⟨E,z⟩:=Row.obj h J;exact I g E _ z)
theorem Xn.jO(h:Xn M W p)(E:jJ M' W W')(z:Oj M' W):Xn M W' p:=⟨h.txs.jO E z,h.deps.jO E z,h.ntxs,h.ndeps⟩
theorem Xn.own(h:Xn M W p)(z:jJ M W W'):Xn M W' p:=⟨Row.jO h.txs z h.ntxs,Row.jO h.deps z h.ndeps,h.ntxs,h.ndeps⟩
def oJ(M:Nat->Prop)(W:World):Prop:=∀(k:Nat)(cs:Array Value)(t:Nat)(z:Nat×Nat),W.heap[k]? =some (.cells cs t z)->¬M k
theorem oJ.str(h:oJ M W):Oj M W:=λk cs z hk=>h k cs _ z hk
theorem lN{A B:World}{row:Option Nat}(I:A.grownBy B row)(E:∀r,row=some r->n<=r/\∃o:Obj,A.heap[r]? =some o/\o.isCells=false):∃M,jJ M A B/\oJ M A/\∀k,k<n->¬M k:=
 ⟨λk=>row=some k,.grown I,λk cs t R hk e=>(by
  obtain⟨_,o,z,J⟩:=E k e;rw[hk]at z;cases z;cases J),λk hk e=>(by have:=(E k e).1;omega)⟩
theorem qJ.mZ(h:qJ w kb c vu us dl nb vo vw ws cnt ep sq)(J:jJ M w w')(z:oJ M w):qJ w' kb c vu us dl nb vo vw ws cnt ep sq:=
 h.jO J (z _ _ _ _ h.obj) (λg I=>by obtain⟨E,e⟩:=h.upper.obj I;exact z g _ _ _ e) (λg I=>by obtain⟨E,e⟩:=h.wait.obj I;exact z g _ _ _ e) z.str
theorem tC(h:Row w e s v n xs)(J:jJ M w w')(E:oJ M w):Row w' e s v n xs:=h.jO J (λg I=>by
 obtain⟨z,e⟩:=h.obj I;exact E g _ _ _ e)
theorem vF{b t:Nat}(h:Boxed w b t v)(E:jJ M w w')(z:oJ M w):Boxed w' b t v:=(E.block b h.lt (z b _ _ _ h)).trans h
def Typed(t E:Nat)(M:Nat->Prop)(W:World):Prop:=∀(k:Nat)(cs:Array Value)(u:Nat)(z:Nat×Nat),W.heap[k]? =some (.cells cs u z)->M k->u=t\/u=E
theorem Typed.Ue(h:Typed 62 35 M W):Oj M W:=λk cs z hk e=>by
 rcases h k cs _ z hk e with h|h<;>revert h<;>decide
theorem qJ.typed(h:qJ w kb c vu us dl nb vo vw ws cnt ep sq)(J:jJ M w w')(z:Typed 62 35 M w):qJ w' kb c vu us dl nb vo vw ws cnt ep sq:=
 h.jO J (λe=>by rcases z _ _ _ _ h.obj e with h|h<;>revert h<;>decide) (λg I e=>by obtain⟨E,q⟩:=h.upper.obj I;rcases z g _ _ _ q e with h|h<;>revert h<;>decide) (λg I e=>by obtain⟨E,q⟩:=h.wait.obj I;rcases z g _ _ _ q e with h|h<;>revert h<;>decide) z.Ue
section
variable {F:Fence}{k:Nat}{P:Program}(w:World){ops:Array Oper}{rest:List Oper}{o:Oper}{a:Act}{Q:Exit->Act->World->Prop}
theorem uV(ab:o.guard=none)(s x:Operand)(t:TypeId)
  (ho:o.op=.call { callee:=.builtin .append,args:=#[s,x],argTypes:=#[t,t] })
  (e:TypeId) (i:TypeInfo) (z:Value) (size bytes:Nat) (ht:P.underlying t=some (.slice e)) (hi:P.info? e=some i) (hz:i.zero=some z)
  (J:i.size=size) (ag:i.bytes=bytes) (ah:z.cells.size=size) (af:0<size)
  (v:Value) (n:Nat) (xs:List Value) (hs:a.eval s=v) (Y:Row w e size v n xs)
  (ad:Addr) (m c:Nat) (E:List Value) (hx:a.eval x=.slice (some ad) m c) (hm:0<m) (hl:E.length=m*size) (R:∀j u,E[j]? =some u->w.cell? (ad.add j)=some u) (h1:∀u∈E,u.oneCell'=true)
  (ae:n+m<=maxLen) (I:(n+m)*bytes<=140737488355328)
  (h:∀g off cap w',Row w' e size (.slice (some ⟨g,off,none⟩) (n+m) cap) (n+m) (xs++E)->Grew v g w w'->wpListIn F k P ops Q rest (a.put o.dst (.slice (some ⟨g,off,none⟩) (n+m) cap)) w'):wpListIn F k P ops Q (o::rest) a w:=by
 refine wpListIn_plain ab λK hK=>?_;obtain⟨v',w',hr,h2,⟨g,off,cap,rfl⟩,h4⟩:=Y.append (P:=P) t o.type i z bytes ht hi hz J ag ah af ad m c E hm hl R h1 ae I;unfold Oper.wpIn;refine⟨?_,?_⟩
 ·simp[Oper.about,ho,resolve,Target.leads,Sem.run_pure]
 ·rw[Oper.semAt_plain F _ _ (by rw[ho];intro c ac;cases ac)];simp[execOp,ho,resolve,invoke,builtin,hs,hx,hr,Result.andThen];refine hK _ _ (h g off cap w' h2 ?_);rcases h4 with⟨e1,e2,e3⟩|⟨e1,e2,e3⟩
  ·have aa:v.ownBlock=some g:=e1.symm;exact .inl ⟨aa,by rw[<-aa];exact e2,e3⟩
  ·exact .inr ⟨by simpa[Value.ownBlock]using e1,e2,e3⟩
end
theorem Grew.others{g:Nat}(h:Grew v g w w')(z:Row w e s v n xs):KeepsOthers w w':=⟨h.jO.size,λk o hk J=>by
 refine(h.jO.block k (jC hk) (λR=>?_)).trans hk;obtain⟨I,E⟩:=z.obj R;rw[hk]at E;cases E;cases J⟩
theorem Ku{ws':List PW}{b:PW}(h:jH c us ws cnt ep=(some (e,some b),ws')):b∈ws:=by
 obtain⟨z,_,_⟩:=pU (judged c us cnt ep) ws;unfold jH at h;split at h
 ·cases h
 ·split at h
  ·cases h
  ·split at h
   ·rename_i R E;cases h;rcases z with z|z|⟨J,I,z⟩
    ·rw[z]at E;cases E
    ·rw[z]at E;cases E
    ·rw[z]at E;cases E;exact I
   ·split at h<;>cases h
theorem JD(h:Steps c us s0 pre):(∀p,p∈(jI s0 pre).ws->p∈s0.ws)/\(jI s0 pre).cnt=s0.cnt+pre.length:=by
 induction h with
 |nil=>exact⟨λ_ h=>h,rfl⟩
 |@snoc pre x _ h2 h3 h4 ih=>
  rw[vO];rw[<-h2]at ih;refine⟨λp hp=>ih.1 p ?_,?_⟩
  ·have:=sD (c:=c) (us:=us) (ws:=x.s.ws) (cnt:=x.s.cnt) (ep:=x.s.ep) p;rw[h3]at this;exact this hp
  ·rw[h4,aJ,iy]
   show x.s.cnt+1=_
   rw[ih.2];omega
theorem U5(h:Steps c us s0 (pre++[x])){b:PW}(E:x.ob=some b):b∈s0.ws/\x.s.cnt=s0.cnt+pre.length:=by
 generalize z:pre++[x]=l at h;cases h with
 |nil=>simp at z
 |snoc h1 h2 h3 h4=>
  obtain⟨rfl,e⟩:=List.append_inj' z rfl;cases e;rw[E]at h3;have:=JD h1;rw[<-h2]at this;exact⟨this.1 b (Ku h3),this.2⟩
theorem PE(h:Steps c us s0 (pre++[x])):Steps c us s0 pre:=by
 generalize z:pre++[x]=l at h;cases h with
 |nil=>simp at z
 |snoc h1 h2 h3 h4=>
  obtain⟨rfl,e⟩:=List.append_inj' z rfl;cases e;exact h1
structure SI(c:Cf)(us:List PB)(dl:Nat->List (List UInt8))(M:Nat->Prop)(B0:Nat)(v0:Value)(ps0:List PL)(w:World)(pre:List DX)(W:World)(ps:List PL)(a:Option Addr)(cap:Nat):Prop where
 los:ps.map Prod.fst=pre.map (o9 c us dl)
 box:Boxed W B0 35 (.slice a (ps0++ps).length cap)
 row:Row W 62 8 (.slice a (ps0++ps).length cap) (ps0++ps).length ((ps0++ps).flatMap jY)
 at_:∀p,p∈ps0++ps->Xn M W p
 own:∀g,(Value.slice a (ps0++ps).length cap).ownBlock=some g->v0.ownBlock=some g\/w.heap.size<=g
 jO:jJ (λk=>M k\/v0.ownBlock=some k) w W
 big:B0<W.heap.size
theorem SI.mZ(h:SI c us dl M B0 v0 ps0 w pre W ps a cap)(z:jJ M' W W')(I:oJ M' W)(E:∀k,k<w.heap.size->¬M' k):SI c us dl M B0 v0 ps0 w pre W' ps a cap:=
 ⟨h.los,vF h.box z I,tC h.row z I,λp hp=>(h.at_ p hp).jO z I.str,h.own,h.jO.trans z (λk hk e=>absurd e (E k hk)),aH h.big z.size⟩
theorem SI.turn(h:SI c us dl M B0 v0 ps0 w pre W ps a cap)(z:jJ M W W')(Y:¬M B0)(J:∀g,v0.ownBlock=some g->¬M g)(E:∀k,M k->k<w.heap.size):SI c us dl M B0 v0 ps0 w pre W' ps a cap:=
 ⟨h.los,(z.block B0 h.box.lt Y).trans h.box,h.row.jO z (λg R I=>by
  rcases h.own g R with q|q
  ·exact J g q I
  ·have:=E g I;omega),λp hp=>(h.at_ p hp).own z,h.own,h.jO.trans z (λk _ e=>.inl e),aH h.big z.size⟩
theorem SI.more(h:SI c us dl M B0 v0 ps0 w pre W ps a cap)(hp:p.1=o9 c us dl x)(aa:Xn M W p){a':Option Addr}{z:Nat}
  (Y:jJ (λk=>(Value.slice a (ps0++ps).length cap).ownBlock=some k\/k=B0) W W') (J:Boxed W' B0 35 (.slice a' ((ps0++ps).length+1) z)) (R:Row W' 62 8 (.slice a' ((ps0++ps).length+1) z) ((ps0++ps).length+1) ((ps0++ps).flatMap jY++jY p))
  (I:∀g,(Value.slice a' ((ps0++ps).length+1) z).ownBlock=some g->(Value.slice a (ps0++ps).length cap).ownBlock=some g\/w.heap.size<=g) (hB:w.heap.size<=B0):Typed 62 35 (λk=>(Value.slice a (ps0++ps).length cap).ownBlock=some k\/k=B0) W/\SI c us dl M B0 v0 ps0 w (pre++[x]) W' (ps++[p]) a' z:=by
 have hT:Typed 62 35 (λk=>(Value.slice a (ps0++ps).length cap).ownBlock=some k\/k=B0) W:=by
  rintro k cs u fz hk (e|rfl)
  ·obtain⟨ab,q⟩:=h.row.obj e;rw[hk]at q;simp at q;exact .inl q.2.1
  ·have q:=h.box;unfold Boxed at q;rw[hk]at q;simp at q;exact .inr q.2.1
 have hl:(ps0++(ps++[p])).length=(ps0++ps).length+1:=by simp;omega
 refine⟨hT,⟨by rw[aY,aY,h.los];simp[hp],by rw[hl];exact J,?_,λq E=>?_,λg hg=>?_,?_,aH h.big Y.size⟩⟩
 ·rw[hl,<-fE,gX];simpa using R
 ·rw[<-fE]at E;rcases dG.1 E with E|E
  ·exact(h.at_ q E).jO Y hT.Ue
  ·rw[dD.1 E];exact aa.jO Y hT.Ue
 ·rw[hl]at hg;rcases I g hg with q|q
  ·exact h.own g q
  ·exact .inr q
 ·refine h.jO.trans Y (λk hk e=>?_);rcases e with e|e
  ·rcases h.own k e with q|q
   ·exact .inr q
   ·omega
  ·omega
end
open Go.RowKit
section
variable {L:Array Bool}{i k:Nat}{a:Act}{v:Value}
def unl(L:Array Bool):Nat:=L.toList.countP (λb=>!b)
theorem OE(z:L[i]? =some false):0<unl L:=by
 obtain⟨h,e⟩:=dR.1 z;exact List.countP_pos_iff.2 ⟨false,by rw[<-e];exact Array.getElem_mem_toList h,rfl⟩
theorem V4(z:L[i]? =some false):unl (L.setIfInBounds i true)<unl L:=by
 have hp:=OE z;obtain⟨h,e⟩:=dR.1 z;unfold unl at hp⊢;rw[Array.toList_setIfInBounds,List.countP_set (by simpa using h)];have E:L.toList[i]'(by simpa using h)=false:=by simpa using e
 simp only[E,Bool.not_false,if_true,Bool.not_true,bJ,if_false];omega
theorem zM{md:Region.Mode}{ops:Array Oper}(h:i∈Region.ready md ops L):L[i]? =some false:=by
 unfold Region.ready at h;rw[fK,bY]at h;have z:=h.2.1;rw[eU]at z;cases E:L[i]? with
 |none=>rw[E]at z;simp at z
 |some b=>
  rw[E]at z;simp at z;rw[z]
section
variable {F:Fence}{n:Nat}{P:Program}{md:Region.Mode}{ops:Array Oper}{Q:Exit->Act->World->Prop}
theorem wpOpIn_mono{K I:Act->World->Prop}{w:World}(h:∀a w,K a w->I a w)(z:wpOpIn F n P ops Q i K a w):wpOpIn F n P ops Q i I a w:=by
 unfold wpOpIn at z⊢;cases E:ops[i]? with
 |none=>rw[E]at z;exact h _ _ z
 |some o=>
  rw[E]at z;dsimp only at z⊢;split
  ·rename_i hw;rw[if_pos hw]at z;exact Oper.wpIn_mono h z
  ·rename_i hw;rw[if_neg hw]at z;exact⟨z.1,h _ _ z.2⟩
theorem tY(Inv:Array Bool->Act->World->Prop)(z:∀L a w,Inv L a w->Region.ready md ops L=[]->Q .normal a w)
  (E:∀L a w i,Inv L a w->i∈Region.ready md ops L->wpOpIn F n P ops Q i (λa' w'=>Inv (L.setIfInBounds i true) a' w') a w):
  ∀(I:Nat)(L:Array Bool)(a:Act)(w:World),unl L<=I->Inv L a w->wpAnyIn F n P md ops Q I L a w
 |0,L,a,w,hf,hI=>by
  have J:Region.ready md ops L=[]:=by
   cases h:Region.ready md ops L with
   |nil=>rfl
   |cons i r=>
    have:=OE (zM (i:=i) (by rw[h];exact dK));omega
  exact⟨J,z L a w hI J⟩
 |f+1,L,a,w,hf,hI=>⟨λh=>z L a w hI h,λi R=>wpOpIn_mono (λa' w' h=>tY Inv z E f _ a' w' (by have:=V4 (zM R);omega) h) (E L a w i hI R)⟩
end
section
variable {l n:Nat}{P:Program}{ops:Array Oper}{Q:Exit->Act->World->Prop}{i:Nat}{o:Oper}{K:Act->World->Prop}{a:Act}{w w':World}
theorem lH(z:ops[i]? =some o)(J:o.guard=none)(hd:∀c,o.op≠.defer c)(E:(execOp a.eval o).run P w=.ok (.value v) w')(I:K (a.put o.dst v) w'):wpOpIn (Fence.wide.inRound l) n P ops Q i K a w:=by
 unfold wpOpIn;rw[z];dsimp only;rw[if_pos (by simp[Region.wanted,J])];refine⟨λ_ _=>trivial,?_⟩;rw[Oper.semAt_eq _ _ _ hd,E];exact I
theorem Jw(z:ops[i]? =some o)(J:o.guard=none)(hd:∀c,o.op≠.defer c)(E:(execOp a.eval o).run P w=.ok .skip w')(I:K (a.put o.dst undef) w'):wpOpIn (Fence.wide.inRound l) n P ops Q i K a w:=by
 unfold wpOpIn;rw[z];dsimp only;rw[if_pos (by simp[Region.wanted,J])];refine⟨λ_ _=>trivial,?_⟩;rw[Oper.semAt_eq _ _ _ hd,E];exact I
end
theorem GI{d:Nat}:(a.put (some d) v).tmps[k]? =if d=k then(if d<a.tmps.size then some v else none)else a.tmps[k]?:=by
 unfold Act.put;rw[aO]
theorem jW(h:a.tmps[k]? =some v):a.eval (.tmp k)=v:=by
 show a.tmps.getD k undef=v
 rw[eU,h];rfl
end
end Hm
end Go.Proofs.YtpibpdpedjinhaaGreatDoor
