import Derived.Test.YtpibpdpedjinhabGreatDoorP24
import Derived.OrdersIn
set_option maxRecDepth 100000
set_option maxHeartbeats 8000000
set_option linter.all false
open Bool renaming false->aR,true->bB
open Go renaming Addr->fR,Oper->km,Program->cU,Value->aD,World->X,callsIn_wide->iN,execOp->bO,heap_alloc_new->cY
open Go.IntKind renaming i64->aE
open Go.Obj renaming cells->aL
open Go.Region renaming ready->fL,wanted->cS
open Go.Value renaming int->N,pointer->aG,slice->aM
open List renaming append_inj'->oR
open Option renaming none->Z,some->M
open Prod renaming fst->cI
namespace Go.Proofs.YtpibpdpedjinhabGreatDoor
namespace Hm
open Go.RowKit Go.Joins Go.Shelf
open Dv (X2 Cf Ba)
section
variable {W:X}{kb nb cB lo lo' R:Nat}{c:Cf}{vu vo vw v:aD}{us:List PB}{dl:Nat->List (List UInt8)}{s0 d:sD}{pre:List DX}{ok:Bool}{rc:Array aD}
def mW(kb:Nat)(c:Cf)(us:List PB)(W:X):Nat:=match W.heap[kb]? with
 |some (aL cs _ _)=>match (cs[10]?:Option aD),(cs[11]?:Option aD),(cs[12]?:Option aD)with
  |some (.slice _ n _),M (.int _ a),M (.int _ e)=>n+(us.length-e.toNat)+((4294967298-lW c us a.toNat)/2).toNat
  |_,_,_=>0
 |_=>0
def abY{ws:List PW}{cnt ep sq:Nat}(h:rH W kb c vu us dl nb vo vw ws cnt ep sq):mW kb c us W=meas c us ws cnt ep:=by obtain⟨a,cap,e⟩:=Row.slice h.wait;unfold mW;rw[h.obj,e];simp[jP,meas]
def aaQ:aD->Bool
 |.bool b=>b
 |_=>aR
def mL(kb:Nat)(c:Cf)(us:List PB)(t:aD)(W:X):Nat:=if aaQ t then mW kb c us W+1 else 0
def Vq.below{W':X}(h:Vq kb cB c vu us dl nb vo vw s0 pre lo v ok W)(I:Below W.heap.size W W')(aa:lo'<=lo):Vq kb cB c vu us dl nb vo vw s0 pre lo' v ok W':=by
 have E:∀d,DA W kb c vu us dl nb vo vw d->DA W' kb c vu us dl nb vo vw d:=λd ⟨J,z,h2⟩=>⟨J,z.below I,h2⟩
 obtain⟨e,x,hx,z,⟨vd,h2,h3⟩,h4,h5,h6,h7⟩|⟨e,z,h2⟩:=h
 .exact .inl ⟨e,x,hx,z,⟨vd,h2,Row.below h3.1 I,λg hg=>bH aa (h3.2 g hg)⟩,λb Y=>Row.below (h4 b Y) I,h5,E _ h6,(I.cell (p:=⟨cB,0,Z⟩) (fG W _ h7)).trans h7⟩
 .exact .inr ⟨e,z,E _ h2⟩
def DA.rE(h:DA W kb c vu us dl nb vo vw d)(E:W.heap[R]? =M (aL rc 52 (0,0)))(z Y x2 x3 I x5 J x7:aD):DA (rE W R z Y x2 x3 I x5 J x7) kb c vu us dl nb vo vw d:=
 let ⟨vw',h1,h2⟩:=h
 ⟨vw',Bl h1 E _ _ _ _ _ _ _ _,h2⟩
def Vq.rE(h:Vq kb cB c vu us dl nb vo vw s0 pre lo v ok W)(ac:lo'<=lo)(hR:W.heap[R]? =M (aL rc 52 (0,0)))(aa:cB≠R)(z x1 Y I E x5 x6 J:aD):Vq kb cB c vu us dl nb vo vw s0 pre lo' v ok (rE W R z x1 Y I E x5 x6 J):=by
 have hS:=λu n l (h:Row W 9 1 u n l)=>DR h hR z x1 Y I E x5 x6 J;have hD:=λd (h:DA W kb c vu us dl nb vo vw d)=>h.rE hR z x1 Y I E x5 x6 J;have hC:=(kZ W R z x1 Y I E x5 x6 J).block cB;revert hS hD hC;generalize Hm.rE W R z x1 Y I E x5 x6 J=Wd;intro hS hD hC;obtain⟨e,x,hx,h1,⟨vd,h2,h3⟩,h4,h5,h6,h7⟩|⟨e,h1,h2⟩:=h
 .refine .inl ⟨e,x,hx,h1,⟨vd,h2,?_,λg hg=>bH ac (h3.2 g hg)⟩,?_,h5,hD _ h6,?_⟩
  .exact hS _ _ _ h3.1
  .intro b hb;exact hS _ _ _ (h4 b hb)
  .exact(World.cell?_of_block (hC (fG W _ h7) aa)).trans h7
 .exact .inr ⟨e,h1,hD _ h2⟩
def Qb{x:DX}(h:Steps c us s0 (pre++[x])):x.s=jQ s0 pre/\jO c us x.s.ws x.s.cnt x.s.ep=(M (x.e,x.ob),x.s'.ws)/\x.s'=⟨x.s'.ws,x.s.cnt+1,x.e,kG x.s.cnt x.s.ep x.s.sq x.e⟩:=by
 generalize z:pre++[x]=l at h;cases h with
 |nil=>simp at z
 |snoc h1 h2 h3 h4=>
  obtain⟨rfl,e⟩:=oR z rfl;cases e;exact⟨h2,h3,h4⟩
def Y2(h:Vq kb cB c vu us dl nb vo vw s0 pre lo v ok W)(hG:Good c us s0)(hp:Steps c us s0 pre)(E:2<=c.step):mL kb c us (.bool ok) W<meas c us (jQ s0 pre).ws (jQ s0 pre).cnt (jQ s0 pre).ep+1:=by
 obtain⟨rfl,x,hx,I,_,_,h5,z⟩|⟨rfl,I,h2⟩:=h
 .obtain⟨⟨aa,z,_⟩,_⟩:=z;rw[wE]at z;obtain⟨e1,e2,Y⟩:=Qb I;obtain⟨J,g2,g3⟩:=hG pre hp;rw[<-e1]at J g3⊢;have hm:=SS (J aA) E g3 e2;unfold mL aaQ;rw[ZD rfl,abY z];have ec:x.s'.cnt=x.s.cnt+1:=by rw[Y]
  have ee:x.s'.ep=x.e:=by rw[Y]
  rw[ec,ee];omega
 .unfold mL aaQ;rw[Zs aC];omega
def aa1(h:DA W kb c vu us dl nb vo vw d):mL kb c us (.bool bB) W=meas c us d.ws d.cnt d.ep+1:=by obtain⟨E,z,_⟩:=h;unfold mL aaQ;rw[ZD rfl,abY z]
def Aa{z w4:X}{o:Obj}(hc:jI (λk=>k=kb\/vw.ownBlock=M k) (z.alloc o) w4)(ha:Vq kb cB c vu us dl nb vo vw s0 pre (z.alloc o).heap.size v ok w4)(hl:w4.heap[z.heap.size]? =M (aL rc 52 (0,0)))(cb:w4.cell? ⟨cB,0,Z⟩=M (aG (M ⟨kb,0,Z⟩)))(aa:cB<z.heap.size)(E x1 x2 J I x5 x6 Y:aD):Vq kb cB c vu us dl nb vo vw s0 pre z.heap.size v ok (rE w4 z.heap.size E x1 x2 J I x5 x6 Y)/\jI (λk=>k=kb\/vw.ownBlock=M k) z (rE w4 z.heap.size E x1 x2 J I x5 x6 Y)/\(rE w4 z.heap.size E x1 x2 J I x5 x6 Y).cell? ⟨cB,0,Z⟩=M (aG (M ⟨kb,0,Z⟩)):=by
 have h1:=Vq.rE (lo':=z.heap.size) ha aC hl (iM aa) E x1 x2 J I x5 x6 Y;have h2:=kZ w4 z.heap.size E x1 x2 J I x5 x6 Y;revert h1 h2;generalize rE w4 z.heap.size E x1 x2 J I x5 x6 Y=Wd;intro h1 h2;exact⟨h1,((jI.alloc _ z o).trans hc (λ_ _ e=>e)).trans h2 (λk hk e=>Xs e (iM hk)),(World.cell?_of_block (h2.block cB (fG w4 _ cb) (iM aa))).trans cb⟩
end
end Hm
namespace Hm
open Go.RowKit Go.Joins Go.Shelf
open Dv (X2 Cf Ba)
attribute [local go_sem] Oper.semAt_some
def JX(kb E:Nat)(c:Cf)(vu:aD)(us:List PB)(dl:Nat->List (List UInt8))(nb:Nat)(vo vw:aD)(s0:sD)(hG:Good c us s0)(a7:2<=c.step)(hdl:∀j,(dl j).length<=4294967296)(ag:¬(E=kb\/vw.ownBlock=M E)):OX PQ 54 #[aG (M ⟨E,0,Z⟩)] DX.encs (λk=>k=kb\/vw.ownBlock=M k) (EP kb E c vu us dl nb vo vw s0) (Zf kb c vu us dl nb vo vw s0) (DY kb E c vu us dl nb vo vw s0) (DS c us s0) (λ_=>True):=by
 intro l J Jx W hM av aj ao ar;have a0:=λk hk=>Nat.lt_trans (hM k hk) av;have Hn:=λz V hp (h:EP kb E c vu us dl nb vo vw s0 z V)=>NQ hp hG hdl ag h;have HN:Hid _:=Hn;have HY:Hid _:=ao;have a6:Hid _:=ar;have HS:Hid _:=aj;have cb:=aj.2;have HG:Hid _:=jy hG (jy ag a0);clear ao ar Hn aj hG ag hM a0 av;refine callsIn_of_wp (fq Tryz.func54 rfl) rfl trivial ?_ rfl;simp only[Tryz.ntmps54,dR,aU,bY,Nat.reduceAdd,Nat.reduceSub,dH,dG,dU,dI,dS,dN];gi_wp2;refine⟨trivial,(iN.2 (HN.out [] W .nil HS.out)).mono ?_⟩;rintro x1 w1 ⟨i0,i1,i2,i3,i4,ta,tn,tc,da,dn,dc,i7,ok,rfl,aw,am,ac⟩;have HA:Hid _:=jy aw am;clear aw am;gi_wp2
 gi_loopw [3,4] (λv3 v4 wr=>∃(lb:Nat)(i0 i1 i2 i3 i4:Int)(ta:Option fR)(tn tc:Nat)(da:Option fR)(dn dc:Nat)(i7:Int)(ok:Bool)(z:List DX)(W0:X),v3=aG (M ⟨lb,0,Z⟩)/\v4=.bool ok/\wr.heap[lb]? =M (aL #[N aE i0,N aE i1,N aE i2,N aE i3,N aE i4,.slice ta tn tc,.slice da dn dc,N aE i7] 52 (0,0))/\wr.cell? ⟨E,0,Z⟩=M (aG (M ⟨kb,0,Z⟩))/\Hid (J z W0/\jI (λk=>k=kb\/vw.ownBlock=M k) W0 wr/\W0.heap.size<=lb/\W.heap.size<=W0.heap.size/\Vq kb E c vu us dl nb vo vw s0 z W0.heap.size (.agg #[N aE i0,N aE i1,N aE i2,N aE i3,N aE i4,.slice ta tn tc,.slice da dn dc,N aE i7]) ok wr))
  (λ_ v4 wr=>mL kb c us v4 wr)
 case atStart=>
  have hb:=(aJ _ w1).alloc jB (aL #[N aE i0,N aE i1,N aE i2,N aE i3,N aE i4,.slice ta tn tc,.slice da dn dc,N aE i7] 52);exact⟨_,i0,i1,i2,i3,i4,ta,tn,tc,da,dn,dc,i7,ok,[],W,rfl,rfl,cY _ _,(hb.cell (p:=⟨E,0,Z⟩) (fG w1 _ ac)).trans ac,⟨a6.out,HA.out.1.trans (.below hb jB _) (λ_ _ e=>e),HA.out.1.size,jB,HA.out.2.below hb jB⟩⟩
 case round=>
  clear HA ac cb;obtain⟨lb,i0,i1,i2,i3,i4,ta,tn,tc,da,dn,dc,i7,ok,z,W0,rfl,rfl,ak,cb,Hr⟩:=hrel;obtain⟨l0,l1,l2,l3,l4,l5,l6,l7,lf⟩:=lq ak;cases ok with
  |false=>
   gi_wp2;go_end0;obtain⟨hJ,hc,au,an,ha⟩:=Hr.out;obtain⟨e,_⟩|⟨_,hS,hE⟩:=ha
   .cases e
   .exact⟨⟨_,rfl⟩,.inl ⟨z,W0,hS,hJ,hc,hE⟩⟩
  |true=>
   obtain⟨hJ,hc,au,an,ha⟩:=Hr.out;obtain⟨_,x,ah,hy⟩|⟨e,_⟩:=ha
   .obtain⟨fn,tmps,assign,body,ba,hR⟩:=HY.out z x W0 wr hJ hc hy;simp only[DX.encs,ah]at ba;have HR:Hid _:=hR;have Hy:Hid _:=jy hy ah;clear hR hy hc hJ au ah an;have az:=(jE ak)
    gi_wp2;refine RoundIn.mono HR.out ?_;rintro e I (⟨rfl,a4,ap,Y,a2⟩|⟨rfl,a1⟩)
    .have ay:=(a2 lb Hr.out.2.2.1 az).trans ak;obtain⟨m0,m1,m2,m3,m4,m5,m6,m7,mf⟩:=lq ay;have a5:=Y.2;have H3:Hid _:=jy a4 (jy ap Y);have af:E<I.heap.size:=fG I _ a5;have bb:=λo=>(((aJ _ I).alloc jB o).cell (p:=⟨E,0,Z⟩) af).trans a5;have aa:∀o,EP kb E c vu us dl nb vo vw s0 (z++[x]) (I.alloc o):=λo=>⟨let ⟨vw',q1,q2⟩:=Y.1;⟨vw',q1.below ((aJ _ I).alloc jB o),q2⟩,bb o⟩
     have bd:Hid _:=aa;clear a4 ap Y a2 ay aa;gi_wp2;refine⟨trivial,(iN.2 (HN.out _ _ Hy.out.1.1 (bd.out _))).mono ?_⟩;rintro x1 w4 ⟨j0,j1,j2,j3,j4,ja,jn,jc,ka,kn,kc,j7,a8,rfl,ae,aq,a9⟩
     have a3:¬(I.heap.size=kb\/vw.ownBlock=M I.heap.size):=λh=>by
      have q1:=HG.out.2.2 _ h;have q2:=Hr.out.2.2.2.1;have q3:=Hr.out.2.1.size;have q4:=H3.out.2.1;omega
     have ai:=(ae.block _ aC a3).trans (cY I _);obtain⟨n0,n1,n2,n3,n4,n5,n6,n7,nf⟩:=lq ai;have R:Hid _:=jy ae (jy aq (jy ai a9));clear ae aq ai a3;gi_wp2;go_roundw
     case rel=>
      have hE:=Aa R.out.1 R.out.2.1 R.out.2.2.1 R.out.2.2.2 af (N aE j0) (N aE j1) (N aE j2) (N aE j3) (N aE j4) (.slice ja jn jc) (.slice ka kn kc) (N aE j7);have hO:=DJ R.out.2.2.1 (N aE j0) (N aE j1) (N aE j2) (N aE j3) (N aE j4) (.slice ja jn jc) (.slice ka kn kc) (N aE j7);exact⟨_,j0,j1,j2,j3,j4,ja,jn,jc,ka,kn,kc,j7,a8,_,I,rfl,rfl,hO,hE.2.2,⟨H3.out.1,hE.2.1,jB,bH Hr.out.2.2.2.1 (bH Hr.out.2.1.size H3.out.2.1),hE.1⟩⟩
     case measure=>
      have hE:=Aa R.out.1 R.out.2.1 R.out.2.2.1 R.out.2.2.2 af (N aE j0) (N aE j1) (N aE j2) (N aE j3) (N aE j4) (.slice ja jn jc) (.slice ka kn kc) (N aE j7);have hm:=Nat.lt_of_lt_of_eq (Y2 hE.1 HG.out.1 Hy.out.1.1 a7) (aa1 Hy.out.1.2.2.2.2.1).symm;clear hE;unfold rE at hm;exact hm
    .gi_wp2;refine bodyPost_ret (results_none rfl _ _ _) rfl ?_;exact⟨⟨_,rfl⟩,.inr ⟨_,I,trivial,a1,jI.refl _ _⟩⟩
   .cases e
end Hm
namespace Dv
open Fr (F)
section
variable {b:Option Int}{u:X2}{l:List X2}
def kK{r:List X2}(h:kF b (u::r)=bB):lY b u=bB/\kF (M u.time) r=bB:=by simpa[kF]using h
def EM(h:lY b u=bB):small u=bB:=by unfold lY at h;simp only[dF]at h;exact h.2
def zJ:∀(l:List X2)(b:Int),kF (M b) l=bB->∀k,k<l.length->b+(k:Int)<(l[k]!).time/\(l[k]!).time<=b+24*((k:Int)+1)
 |[],_,_,k,hk=>by simp at hk
 |u::r,b,h,0,_=>by
  have z:=(kK h).1;unfold lY at z;simp only[dF,Z3]at z;simp only[List.getElem!_cons_zero];omega
 |u::r,b,h,k+1,hk=>by
  have z:=(kK h).1;unfold lY at z;simp only[dF,Z3]at z;have:=zJ r u.time (kK h).2 k (by simpa using hk);simp only[jk];omega
def zL:∀(l:List X2)(b:Option Int),kF b l=bB->∀i j,i<j->j<l.length->(l[i]!).time+((j:Int)-(i:Int))<=(l[j]!).time/\(l[j]!).time<=(l[i]!).time+24*((j:Int)-(i:Int))
 |[],_,_,_,j,_,hj=>by simp at hj
 |u::r,b,h,0,j+1,_,hj=>by
  have:=zJ r _ (kK h).2 j (by simpa using hj);simp only[List.getElem!_cons_zero,jk];omega
 |u::r,b,h,i+1,j+1,hij,hj=>by
  have:=zL r (M u.time) (kK h).2 i j aA (by simpa using hj);simp only[jk];omega
def mG:∀(l:List X2)(b:Option Int),kF b l=bB->∀k,k<l.length->small (l[k]!)=bB
 |[],_,_,k,hk=>by simp at hk
 |u::r,b,h,0,_=>EM (kK h).1
 |u::r,b,h,k+1,hk=>by
  rw[jk];exact mG r _ (kK h).2 k (by simpa using hk)
def jW(h:jS l=bB):1<=l.length/\l.length<=60/\kF Z l=bB/\0<=(l[0]!).time/\(l[0]!).time<=1000000:=by
 unfold jS at h;simp only[dF,Z3]at h;obtain⟨⟨z,h2⟩,h3⟩:=h;refine⟨z,h2,h3,?_⟩;cases l with
 |nil=>simp at z
 |cons u r=>
  have:=(kK h3).1;unfold lY at this;simp only[dF,Z3]at this;simpa using this.1
def sO(h:jS l=bB){i j:Nat}(E:i<=j)(I:j<l.length):(l[i]!).time+((j:Int)-(i:Int))<=(l[j]!).time/\(l[j]!).time<=(l[i]!).time+24*((j:Int)-(i:Int)):=by
 obtain z|rfl:=jm E
 .exact zL l Z (jW h).2.2.1 i j z I
 .omega
def Gi(h:jS l=bB){i:Nat}(z:i<l.length):0<=(l[i]!).time/\(l[i]!).time<=1001440:=by have E:=jW h;have h2:=sO h (dL i) z;omega
section
variable (c:Cf)(chain:List X2)(n:Nat)
def Cb(e:Nat)(t:Int):∀l:List Ba,(sift c chain n e t l).2.length<=l.length
 |[]=>by simp[sift]
 |b::r=>by
  have z:=Cb e t r;rw[sift]
  repeat' split
  all_goals simp only[aU]
  all_goals omega
def LY(e:Nat)(t:Int):∀(l:List Ba)(x:Ba),x∈(sift c chain n e t l).2->x∈l
 |[],x,h=>by simp[sift]at h
 |b::r,x,h=>by
  have z:=LY e t r x;rw[sift]at h;split at h
  .grind
  .grind
def uG(e:Nat)(t:Int):∀(l:List Ba)(b:Ba),(sift c chain n e t l).1=.got b->b∈l/\(b.time:Int)=t/\e<=b.epoch/\b.epoch<=e+1/\(b.epoch:Int)+c.window≥(b.place:Int)/\holds c chain n e t b=aR/\wrong c chain e t b=aR/\(sift c chain n e t l).2.length+1<=l.length
 |[],b,h=>by simp[sift]at h
 |x::r,b,h=>by
  have E:=uG e t r b;rw[sift]at h⊢;split at h
  .grind
  .rename_i z;rw[Zs z];split at h
   .grind
   .rename_i h2;rw[Zs h2];split at h
    .cases h
    .rename_i h3;rw[Zs h3];split at h
     .grind
     .rename_i h4;rw[Zs h4];cases h;simp only[late,iQ,Z3,not_or]at h2;exact⟨dQ ..,aA,aA,aA,aA,by simpa using h3,by simpa using h4,aC⟩
def Y3(h:Lo)(wait:List Ba):(draw c chain n h wait).2.length<=wait.length:=by
 have:=Cb c chain n h.epoch (h.time+c.step) wait;unfold draw;simp only;split
 .exact this
 .exact this
 .split<;>exact this
def yG{h x:Lo}{wait k:List Ba}(hc:jS chain=bB)(hcf:jK c=bB)(I:n<chain.length)(Y:h.epoch<=n)(hd:draw c chain n h wait=(M x,k)):h.epoch<=x.epoch/\x.epoch<=h.epoch+1/\x.epoch<=n/\x.time=h.time+c.step/\x.number=h.number+1/\x.at_=n/\x.id=(chain[x.epoch]!).id/\k.length+1+(n-x.epoch)+((chain[n]!).time-x.time).toNat<=wait.length+(n-h.epoch)+((chain[n]!).time-h.time).toNat:=by
 unfold jK at hcf;simp only[Z3]at hcf;have R:=Cb c chain n h.epoch (h.time+c.step) wait;unfold draw at hd;simp only at hd;split at hd
 .simp at hd
 .rename_i b E;simp only[dJ,aK]at hd;obtain⟨rfl,rfl⟩:=hd;obtain⟨_,_,i3,i4,_,z,_,J⟩:=uG c chain n _ _ _ _ E
  have hk:b.epoch<=n:=by
   unfold holds at z;simp only[ig,iY,beq_eq_false_iff_ne,Z6]at z;omega
  simp only[lay];refine⟨i3,i4,hk,trivial,trivial,trivial,trivial,?_⟩;omega
 .split at hd
  .simp at hd
  .rename_i hw;simp only[dJ,aK]at hd;obtain⟨rfl,rfl⟩:=hd;simp only[lay];by_cases ht:(chain[h.epoch+1]!).time<=h.time+c.step
   .grind
   .rw[Zs ht];have:=sO hc (i:=h.epoch+1) (j:=n) aA I;refine⟨aA,aA,aA,trivial,trivial,trivial,trivial,?_⟩;omega
def xw(hc:jS chain=bB)(hcf:jK c=bB)(E:n<chain.length):∀(f z:Nat)(h:Lo)(wait:List Ba),h.epoch<=n->left chain n h wait<f->left chain n h wait<z->draws c chain n f h wait=draws c chain n z h wait
 |0,_,_,_,_,h,_=>aA
 |_,0,_,_,_,_,h=>aA
 |f+1,z+1,h,wait,he,h1,h2=>by
  rw[draws,draws];cases hd:draw c chain n h wait with
  |mk o k=>
   cases o with
   |none=>rfl
   |some x=>
    have hs:=yG c chain n hc hcf E he hd;unfold left at h1 h2;have I:=xw hc hcf E f z x k aA (by unfold left;omega) (by unfold left;omega);simp only[I]
def zI(hc:jS chain=bB)(hcf:jK c=bB)(I:n<chain.length):∀(f:Nat)(h:Lo)(wait:List Ba),h.epoch<=n->
  let r:=draws c chain n f h wait
  let z:=(h::r.1).getLastD default
  z.epoch<=n/\h.epoch<=z.epoch/\z.time=h.time+c.step*(r.1.length:Int)/\z.number=h.number+r.1.length/\r.2.length+r.1.length+(n-z.epoch)+((chain[n]!).time-z.time).toNat<=wait.length+(n-h.epoch)+((chain[n]!).time-h.time).toNat
 |0,h,wait,he=>by simp[draws];exact he
 |f+1,h,wait,he=>by
  rw[draws];cases hd:draw c chain n h wait with
  |mk o k=>
   cases o with
   |none=>
    have:=Y3 c chain n h wait;rw[hd]at this;simp only[List.getLastD_cons,List.getLastD_nil,bY]at this⊢;refine⟨he,jB,aA,aA,aA⟩
   |some x=>
    have hs:=yG c chain n hc hcf I he hd;have E:=zI hc hcf I f x k aA;simp only[List.getLastD_cons,aU]at E⊢;obtain⟨i1,i2,i3,i4,J⟩:=E;refine⟨i1,aA,?_,aA,aA⟩;rw[i3,hs.2.2.2.1]
    push_cast
    rw[Int.mul_add];omega
end
def Gq:∀(f:Nat)(s:List UInt8)(p:Nat)(l:List F),p<=s.length->Fr.rest f s p=M l->p+9*l.length<=s.length
 |0,s,p,l,hp,h=>by
  simp only[Fr.rest]at h;split at h
  .grind
  .simp at h
 |f+1,s,p,l,hp,h=>by
  rw[Fr.rest]at h;split at h
  .grind
  .cases z:Fr.one s p with
   |none=>rw[z]at h;simp at h
   |some x=>
    obtain⟨x,n⟩:=x;rw[z]at h;simp only at h;obtain⟨t,ht,rfl⟩:=bI.1 h;have E:=Fr.one_le z;have:=Gq f s _ t E.2 ht;simp only[aU];omega
def KP(s:List UInt8):9*((Fr.frames s).getD []).length<=s.length:=by
 cases h:Fr.frames s with
 |none=>simp
 |some l=>
  unfold Fr.frames at h;split at h
  .simp at h
  .rename_i h2;have:=Gq _ _ _ _ aA h;simp only[fH];omega
def zu(c:Cf)(t:Tx)(h:t.data.length<=2000):(qP c t).length<=222:=by
 unfold qP;split
 .have:=KP t.data;omega
 .simp
def GH(c:Cf):∀(l:List Tx),(∀t,t∈l->t.data.length<=2000)->(heard c l).length<=222*l.length
 |[],_=>by simp[heard]
 |t::l,h=>by
  have z:=GH c l (λx E=>h x (cZ _ E));have I:=zu c t (h t (dQ ..));unfold heard at z⊢;rw[gY,aS,aU];omega
def qj(h:small u=bB):u.txs.length<=20/\u.logs.length<=20/\(∀t,t∈u.txs->t.data.length<=2000)/\(∀s,s∈u.logs->s.length<=2000):=by unfold small at h;simp only[dF,Z3,fF]at h;exact⟨h.1.1.1,h.1.1.2,h.1.2,h.2⟩
def zM(c:Cf)(h:small u=bB):(heard c u.txs).length<=4440:=by have z:=qj h;have:=GH c _ z.2.2.1;omega
def TQ(most:Int)(n:Nat)(cs:List Ch)(f:F):(frame most n cs f).length<=cs.length+1:=by
 unfold frame;split
 .grind
 .simp
def uf(most:Int)(n:Nat):∀(l:List F)(cs:List Ch),(l.foldl (frame most n) cs).length<=cs.length+l.length
 |[],cs=>aC
 |f::l,cs=>by
  have z:=uf most n l (frame most n cs f);have h2:=TQ most n cs f;simp only[List.foldl_cons,aU];omega
def DW:∀cs:List Ch,(pull cs).1.length+(pull cs).2.length=cs.length
 |[]=>by simp[pull]
 |c::cs=>by
  rw[pull];split
  .simp
  .have:=DW cs;simp only[aU];omega
def qy:∀(f:Nat)(s:List UInt8)(most:Int)(out:List UInt8),(out.length:Int)<=max most 0->((Sq.spread f s most out).1.length:Int)<=max most 0
 |0,_,_,out,h=>h
 |f+1,s,most,out,h=>by
  rw[Sq.spread];split
  .exact h
  .split
   .exact h
   .split
    .grind
    .rename_i h2;exact qy f _ _ _ (by grind)
def Wj:∀(f:Nat)(s:List UInt8)(n:Nat),(rd f s n).length<=f
 |0,_,_=>by simp[rd]
 |f+1,s,n=>by
  rw[rd];split
  .simp
  .split
   .simp
   .split
    .simp
    .rename_i _ i k _ _ b _;have:=Wj f (s.drop k) n;rw[aS];split<;>simp only[aU,bY]<;>omega
def U3(s:List UInt8)(n:Nat):(reads s n).length<=4096:=by have z:=Wj (Sq.spread s.length s 4096 []).1.length (Sq.spread s.length s 4096 []).1 n;have h2:=qy s.length s 4096 [] (by grind);unfold reads;omega
def wL(n:Nat):∀l:List (List UInt8),(l.flatMap (λs=>reads s n)).length<=4096*l.length
 |[]=>aC
 |s::l=>by
  have z:=wL n l;have h2:=U3 s n;rw[gY,aS,aU];omega
def take_len(c:Cf)(u:X2)(n:Nat)(cs:List Ch)(wait:List Ba)(z:small u=bB):4096*(take c u n cs wait).1.length+(take c u n cs wait).2.length<=4096*cs.length+wait.length+18186240:=by have E:=zM c z;have h2:=uf c.most n (heard c u.txs) (cs.filter λx=>decide (n-x.opened<=c.timeout));have h3:=gZ (λx:Ch=>decide (n-x.opened<=c.timeout)) cs;have h4:=DW ((heard c u.txs).foldl (frame c.most n) (cs.filter λx=>decide (n-x.opened<=c.timeout)));have I:=wL n (pull ((heard c u.txs).foldl (frame c.most n) (cs.filter λx=>decide (n-x.opened<=c.timeout)))).1;unfold take;simp only[aS];omega
def much(chain:List X2)(n:Nat)(s:St):Nat:=4096*s.chs.length+s.wait.length+s.log.length+(n-(s.log.getLastD default).epoch)+((chain[n]!).time-(s.log.getLastD default).time).toNat
structure Fit(c:Cf)(chain:List X2)(k:Nat)(s:St):Prop where
 some:s.log≠[]
 epoch:(s.log.getLastD default).epoch<=k-1
 time:(s.log.getLastD default).time=(chain[0]!).time+c.step*((s.log.length-1:Nat):Int)
 number:(s.log.getLastD default).number+1=s.log.length
 much:much chain (k-1) s<=2+k*18186265
def tN{α:Type}[Inhabited α](a b:List α)(_:a≠[]):(a++b).getLastD default=(a.getLastD default::b).getLastD default:=by grind
def VU{c:Cf}{chain:List X2}(hc:jS chain=bB)(hcf:jK c=bB){k:Nat}(hk:k<chain.length){s:St}(h:Fit c chain k s):Fit c chain (k+1) (step c chain k s):=by
 have I:=jW hc;have Y:=take_len c _ k s.chs s.wait (mG chain Z I.2.2.1 k hk);have z:=zI c chain k hc hcf hk (left chain k (s.log.getLastD default) (take c (chain[k]!) k s.chs s.wait).2+1) (s.log.getLastD default) (take c (chain[k]!) k s.chs s.wait).2 (by have:=h.epoch;omega);have hm:=h.much;have hs:=h.some;have J:1<=s.log.length:=by cases hl:s.log with|nil=>exact Xs hl hs|cons=>simp
 have ht:=sO hc (i:=k-1) (j:=k) aA hk;have R:=h.number;have E:=h.time;unfold Dv.much at hm;unfold step;simp only;generalize hT:take c (chain[k]!) k s.chs s.wait=T at *;generalize hD:draws c chain k (left chain k (s.log.getLastD default) T.2+1) (s.log.getLastD default) T.2=D at *;simp only at z;obtain⟨d1,d2,d3,d4,d5⟩:=z;refine⟨?_,?_,?_,?_,?_⟩
 .simp[hs]
 .grind
 .grind
 .grind
 .unfold Dv.much;simp only[Nat.add_sub_cancel];rw[tN _ _ hs,aS]
  have:((chain[k]!).time-(s.log.getLastD default).time).toNat<=((chain[k-1]!).time-(s.log.getLastD default).time).toNat+24:=by
   obtain rfl|aa:=gQ k
   .simp
   .omega
  omega
def UH(c:Cf)(chain:List X2):Fit c chain 0 (start chain):=by refine⟨by simp[start],by simp[start,first],by simp[start,first],by simp[start,first],?_⟩;simp[much,start,first]
def oI{c:Cf}{chain:List X2}(hc:jS chain=bB)(hcf:jK c=bB):∀k,k<=chain.length->Fit c chain k (gone c chain k)
 |0,_=>UH c chain
 |k+1,hk=>VU hc hcf aA (oI hc hcf k aA)
end
end Dv
namespace Hm
open Dv (X2 Cf Ba Lo)
section
variable {ep cnt T:Nat}{b:Ba}{h:Lo}{s s0:sD}{x:DX}{pre:List DX}{ws:List PW}
structure Lk(chain:List X2)(us:List PB)(dl:Nat->List (List UInt8)):Prop where
 pos:0<us.length
 len:us.length<=chain.length
 id:∀j,j<us.length->FQ us j=(chain[j]!).id
 time:∀j,j<us.length->Ag us j=(chain[j]!).time
 deps:∀j,j<us.length->dl j=Dv.jR (chain[j]!)
section
variable {c:Cf}{chain:List X2}{us:List PB}{dl:Nat->List (List UInt8)}
def sJ(ep:Nat)(t:Int)(b:Ba):outside c ep t b=Dv.late c ep t b:=by unfold outside Dv.late;rw[Bool.eq_iff_iff];simp only[iQ,dF,Z3,bne_iff_ne];omega
def Em(l:List (List UInt8)):(l.length == 0)=l.isEmpty:=by cases l<;>simp
def zx(hk:Lk chain us dl)(z:ep<us.length){t:Int}(E:outside c ep t b=aR):waits c us ep t b b.txs.length=Dv.holds c chain (us.length-1) ep t b:=by
 unfold waits Dv.holds;rw[Em,<-hk.time ep z];unfold outside at E;simp only[ig,iY,Z6,bne_eq_false_iff_eq]at E;rw[Bool.eq_iff_iff];by_cases h:ep+1<=us.length-1
 .grind
 .grind
def MQ(hk:Lk chain us dl)(z:ep<us.length){t:Int}(J:b.epoch<us.length)(hw:waits c us ep t b b.txs.length=aR):RP c us ep t b b.txs.length=Dv.wrong c chain ep t b:=by
 have I:b.epoch=ep->b.txs.isEmpty=bB->(chain[b.epoch]!).time+c.drift<t->ep+1<us.length:=λE R Y=>by
  unfold waits at hw;rw[Em,R,hk.time _ z,<-E]at hw;by_cases h:b.epoch+1<=us.length-1
  .omega
  .grind
 have h2:ep+1<us.length->Ag us (ep+1)=(chain[ep+1]!).time:=hk.time _;unfold RP Dv.wrong allows;rw[Em,hk.id _ J,hk.time _ J]
 congr 1
 revert I h2;generalize (chain[b.epoch]!).time=A;generalize (chain[ep+1]!).time=D;generalize Ag us (ep+1)=D';intro I h2;rw[Bool.eq_iff_iff];simp only[dF,Z3,Bool.not_eq_true',iY,ig,bne_eq_false_iff_eq,Z6,iQ,YY];constructor
 .grind
 .grind
def EF(hk:Lk chain us dl)(z:ep<us.length)(I:b.epoch<us.length):
  verdict c us cnt ep b b.txs.length=if lW c us cnt<(b.time:Int)then 0 else if Dv.late c ep (lW c us cnt) b then 1 else if Dv.holds c chain (us.length-1) ep (lW c us cnt) b then 2 else if Dv.wrong c chain ep (lW c us cnt) b then 1 else 3:=by
 unfold verdict;split
 .rfl
 .rw[sJ];split
  .rfl
  .rename_i E;rw[zx hk z (by rw[sJ];simpa using E)];split
   .rfl
   .rename_i h2;rw[MQ hk z I (by rw[zx hk z (by rw[sJ];simpa using E)];simpa using h2)]
def Fv(hk:Lk chain us dl){cnt ep:Nat}(z:ep<us.length):∀ws:List PW,(∀p,p∈ws->p.1.epoch<us.length)->
  (pick (judged c us cnt ep) ws).2.map cI=(Dv.sift c chain (us.length-1) ep (lW c us cnt) (ws.map cI)).2/\
  (match (Dv.sift c chain (us.length-1) ep (lW c us cnt) (ws.map cI)).1 with
   |.no=>(pick (judged c us cnt ep) ws).1=(0,Z)
   |.hold=>(pick (judged c us cnt ep) ws).1=(2,Z)
   |.got b=>∃v,(pick (judged c us cnt ep) ws).1=(3,M (b,v)))
 |[],_=>by simp[pick,Dv.sift]
 |b::r,h=>by
  obtain⟨i1,i2⟩:=Fv hk (cnt:=cnt) z r (λp hp=>h p (cZ _ hp));have E:judged c us cnt ep b=_:=EF (c:=c) hk (cnt:=cnt) z (h b dQ);rw[eP,Dv.sift,pick];by_cases I:lW c us cnt<(b.1.time:Int)
  .grind
  .rw[Zs I]at E⊢;by_cases h2:Dv.late c ep (lW c us cnt) b.1=bB
   .grind
   .rw[Zs h2]at E⊢;by_cases h3:Dv.holds c chain (us.length-1) ep (lW c us cnt) b.1=bB
    .grind
    .rw[Zs h3]at E⊢;by_cases h4:Dv.wrong c chain ep (lW c us cnt) b.1=bB
     .grind
     .grind
def Cm:Option PW->List (List UInt8)
 |some b=>b.1.txs
 |none=>[]
def pJ(c:Cf)(us:List PB)(dl:Nat->List (List UInt8))(x:DX):Lo:=⟨x.s.cnt,lW c us x.s.cnt,x.e,FQ us x.e,x.s'.sq,Cm x.ob,if x.s'.sq=0 then dl x.e else [],us.length-1⟩
structure Hs(c:Cf)(us:List PB)(h:Lo)(s:sD):Prop where
 number:h.number+1=s.cnt
 time:h.time+c.step=lW c us s.cnt
 epoch:h.epoch=s.ep
 seq:h.seq=s.sq
def Gy(hk:Lk chain us dl)(hs:Hs c us h s)(I:s.ep<us.length)(hw:1<=c.window)(E:∀p,p∈s.ws->p.1.epoch<us.length):
  (jO c us s.ws s.cnt s.ep).2.map cI=(Dv.draw c chain (us.length-1) h (s.ws.map cI)).2/\
  (match (jO c us s.ws s.cnt s.ep).1 with
   |none=>(Dv.draw c chain (us.length-1) h (s.ws.map cI)).1=Z
   |some (e,ob)=>(Dv.draw c chain (us.length-1) h (s.ws.map cI)).1=M (Dv.lay c chain (us.length-1) h e (Cm ob))):=by
 have J:s.cnt≠0:=by have:=hs.number;omega
 obtain⟨i1,i2⟩:=Fv (c:=c) hk (cnt:=s.cnt) I _ E;unfold jO Dv.draw;rw[Zs (by have:=hk.pos;omega),Zs J];rw[hs.epoch,hs.time];cases z:(Dv.sift c chain (us.length-1) s.ep (lW c us s.cnt) (s.ws.map cI)).1 with
 |got b=>
  rw[z]at i2;obtain⟨v,R⟩:=i2;rw[R];dsimp only;rw[z];exact⟨i1,rfl⟩
 |hold=>
  grind
 |no=>
  rw[z]at i2;rw[i2];dsimp only;rw[z];by_cases Y:((us.length-1:Nat):Int)<=(s.ep:Int)+c.window
  .grind
  .rw[ZD ⟨aA,aA⟩];dsimp only;rw[Zs Y];refine⟨i1,?_⟩;unfold alone Cm;rw[hk.time _ (by omega:s.ep+1<us.length)]
def WO(hk:Lk chain us dl)(hs:Hs c us h x.s)(J:x.e<us.length)(I:x.s'=⟨x.s'.ws,x.s.cnt+1,x.e,kG x.s.cnt x.s.ep x.s.sq x.e⟩):Dv.lay c chain (us.length-1) h x.e (Cm x.ob)=pJ c us dl x/\Hs c us (pJ c us dl x) x.s':=by
 have R:x.s'.sq=kG x.s.cnt x.s.ep x.s.sq x.e:=by rw[I]
 have z:x.s'.cnt=x.s.cnt+1:=by rw[I]
 have E:x.s'.ep=x.e:=by rw[I]
 have Y:=hs.number;refine⟨?_,?_,?_,?_,?_⟩
 .unfold Dv.lay pJ;rw[R];unfold kG;rw[hs.number,hs.time,hs.epoch,hs.seq,hk.id _ J,hk.deps _ J];by_cases h2:x.e=x.s.ep
  .grind
  .grind
 .exact z.symm
 .rw[z,Fq];rfl
 .exact E.symm
 .rfl
inductive wZ(c:Cf)(us:List PB):sD->List DX->Prop
 |nil (s0:sD):wZ c us s0 []
 |cons {x:DX} {r:List DX}:jO c us x.s.ws x.s.cnt x.s.ep=(M (x.e,x.ob),x.s'.ws)->x.s'=⟨x.s'.ws,x.s.cnt+1,x.e,kG x.s.cnt x.s.ep x.s.sq x.e⟩->wZ c us x.s' r->wZ c us x.s (x::r)
def wZ.snoc{s0:sD}{pre:List DX}(h:wZ c us s0 pre):∀{x:DX},x.s=jQ s0 pre->jO c us x.s.ws x.s.cnt x.s.ep=(M (x.e,x.ob),x.s'.ws)->x.s'=⟨x.s'.ws,x.s.cnt+1,x.e,kG x.s.cnt x.s.ep x.s.sq x.e⟩->wZ c us s0 (pre++[x]):=by
 induction h with
 |nil s0=>
  intro x z h2 h3;have z:x.s=s0:=z;subst z;exact .cons h2 h3 (.nil _)
 |cons g1 g2 g3 ih=>
  intro x z h2 h3;exact .cons g1 g2 (ih z h2 h3)
def Steps.aaK(h:Steps c us s0 pre):wZ c us s0 pre:=by
 induction h with
 |nil=>exact .nil _
 |snoc _ h2 h3 h4 ih=>exact ih.snoc h2 h3 h4
structure Ok(c:Cf)(chain:List X2)(us:List PB)(T:Nat)(h:Lo)(s:sD):Prop where
 hs:Hs c us h s
 ep:s.ep<us.length
 ws:∀p,p∈s.ws->p.1.epoch<us.length/\p.1.place<=4294967296
 much:s.cnt+Dv.left chain (us.length-1) h (s.ws.map cI)<=T
 sq:s.sq<=s.cnt
def sU:∀p,p∈(jO c us ws cnt ep).2->p∈ws:=by
 intro p hp;have h2:=(qw (judged c us cnt ep) ws).2.1;unfold jO at hp;split at hp
 .exact hp
 .grind
def Ok.next(hk:Lk chain us dl)(hc:Dv.jS chain=bB)(hcf:Dv.jK c=bB)(o:Ok c chain us T h x.s)(Y:jO c us x.s.ws x.s.cnt x.s.ep=(M (x.e,x.ob),x.s'.ws))(h2:x.s'=⟨x.s'.ws,x.s.cnt+1,x.e,kG x.s.cnt x.s.ep x.s.sq x.e⟩):Dv.draw c chain (us.length-1) h (x.s.ws.map cI)=(M (pJ c us dl x),x.s'.ws.map cI)/\x.e<us.length/\Ok c chain us T (pJ c us dl x) x.s':=by
 have hw:1<=c.window:=by
  unfold Dv.jK at hcf;simp only[Z3]at hcf;omega
 obtain⟨J,I⟩:=Gy hk o.hs o.ep hw (λp hp=>(o.ws p hp).1);rw[Y]at J I;dsimp only at J I;have hp:=hk.pos;have hl:=hk.len;have hd:Dv.draw c chain (us.length-1) h (x.s.ws.map cI)=(M (Dv.lay c chain (us.length-1) h x.e (Cm x.ob)),x.s'.ws.map cI):=Prod.ext I J.symm;have hs:=Dv.yG c chain _ hc hcf aA (by rw[o.hs.epoch];have:=o.ep;omega) hd
 have R:x.e<us.length:=by
  have:=hs.2.2.1;simp only[Dv.lay]at this;omega
 obtain⟨e1,e2⟩:=WO hk o.hs R h2;rw[e1]at hd hs;have z:x.s'.cnt=x.s.cnt+1:=by rw[h2]
 have E:x.s'.sq=kG x.s.cnt x.s.ep x.s.sq x.e:=by rw[h2]
 refine⟨hd,R,e2,by rw[h2];exact R,λp hp=>o.ws p ?_,?_,?_⟩
 .have:=sU (c:=c) (us:=us) (ws:=x.s.ws) (cnt:=x.s.cnt) (ep:=x.s.ep) p;rw[Y]at this;exact this hp
 .have hm:=o.much;unfold Dv.left at hm⊢;rw[z];have:=hs.2.2.2.2.2.2.2;omega
 .rw[E,z];have:=o.sq;unfold kG;split<;>omega
def wZ.ok(hk:Lk chain us dl)(hc:Dv.jS chain=bB)(hcf:Dv.jK c=bB)(f:wZ c us s0 pre):∀{h:Lo},Ok c chain us T h s0->∃z,Ok c chain us T z (jQ s0 pre)/\z=(h::pre.map (pJ c us dl)).getLastD default:=by
 induction f with
 |nil s0=>
  intro h o;exact⟨h,o,rfl⟩
 |@cons x r h1 h2 _ ih=>
  intro h o;obtain⟨z,I,E⟩:=ih (o.next hk hc hcf h1 h2).2.2;exact⟨z,I,by rw[E];simp⟩
def wZ.draws(hk:Lk chain us dl)(hc:Dv.jS chain=bB)(hcf:Dv.jK c=bB)(f:wZ c us s0 pre):∀{h:Lo}(n:Nat),Ok c chain us T h s0->(jO c us (jQ s0 pre).ws (jQ s0 pre).cnt (jQ s0 pre).ep).1=Z->pre.length<n->Dv.draws c chain (us.length-1) n h (s0.ws.map cI)=(pre.map (pJ c us dl),(jO c us (jQ s0 pre).ws (jQ s0 pre).cnt (jQ s0 pre).ep).2.map cI):=by
 have hw:1<=c.window:=by
  unfold Dv.jK at hcf;simp only[Z3]at hcf;omega
 induction f with
 |nil s0=>
  intro h n o z E;cases n with
  |zero=>simp at E
  |succ n=>
   obtain⟨J,I⟩:=Gy hk o.hs o.ep hw (λp hp=>(o.ws p hp).1);have z:(jO c us s0.ws s0.cnt s0.ep).1=Z:=z;rw[z]at I;dsimp only at I;have hd:Dv.draw c chain (us.length-1) h (s0.ws.map cI)=(Z,(jO c us s0.ws s0.cnt s0.ep).2.map cI):=Prod.ext I J.symm;rw[Dv.draws,hd];rfl
 |@cons x r h1 h2 _ ih=>
  intro h n o z E;cases n with
  |zero=>simp at E
  |succ n=>
   obtain⟨hd,R,o'⟩:=o.next hk hc hcf h1 h2;have:=ih n o' z (by simpa using E);rw[Dv.draws,hd];dsimp only;rw[this];rfl
def Steps.draws(hk:Lk chain us dl)(hc:Dv.jS chain=bB)(hcf:Dv.jK c=bB)(f:wZ c us s0 pre)(o:Ok c chain us T h s0)(z:(jO c us (jQ s0 pre).ws (jQ s0 pre).cnt (jQ s0 pre).ep).1=Z):Dv.draws c chain (us.length-1) (Dv.left chain (us.length-1) h (s0.ws.map cI)+1) h (s0.ws.map cI)=(pre.map (pJ c us dl),(jO c us (jQ s0 pre).ws (jQ s0 pre).cnt (jQ s0 pre).ep).2.map cI):=by
 rw[Dv.xw c chain (us.length-1) hc hcf (by have:=hk.len;have:=hk.pos;omega) _ (Dv.left chain (us.length-1) h (s0.ws.map cI)+1+pre.length) h _ (by rw[o.hs.epoch];have:=o.ep;omega) aA aA];exact f.draws hk hc hcf _ o z aA
def Lk.get(hk:Lk chain us dl){j:Nat}{p:PB}(h:us[j]? =M p):p.1=(chain[j]!).id/\p.2.1=(chain[j]!).time:=by have z:=(aN.1 h).1;exact⟨(Hu h).symm.trans (hk.id j z),(uT h).symm.trans (hk.time j z)⟩
def Ok.sane(hk:Lk chain us dl)(hc:Dv.jS chain=bB)(hcf:Dv.jK c=bB)(Y:T<4294967296)(o:Ok c chain us T h s):yS c us s.ws s.cnt s.ep:=by unfold Dv.jK at hcf;simp only[Z3]at hcf;have I:=(Dv.jW hc).2.1;have R:=hk.len;have z:=o.much;unfold Dv.left at z;rw[bC]at z;refine⟨λp hp=>?_,aA,aA,aA,aA,aA,aA,o.ep,o.ws⟩;obtain⟨j,E⟩:=jw.1 hp;have J:=(aN.1 E).1;have:=Dv.Gi hc (i:=j) aA;rw[(hk.get E).2];omega
def aav(hk:Lk chain us dl)(hc:Dv.jS chain=bB)(hcf:Dv.jK c=bB)(I:T<4294967296)(o:Ok c chain us T h s0):Good c us s0:=by intro pre hp;obtain⟨z,E,_⟩:=hp.aaK.ok hk hc hcf o;have J:=E.hs.number;have h2:=E.much;have h3:=E.sq;exact⟨λ_=>E.sane hk hc hcf I,aA,λe=>aA⟩
def Dl(z:us.length=1)(ws:List PW):jO c us ws 0 0=(M (0,Z),ws):=by unfold jO;rw[Zs aA,ZD rfl]
def BA(J:us.length=1)(f:wZ c us ⟨ws,0,0,0⟩ pre):pre=[]\/∃x r,pre=x::r/\x.s=⟨ws,0,0,0⟩/\x.e=0/\x.ob=Z/\x.s'=⟨ws,1,0,0⟩/\wZ c us ⟨ws,1,0,0⟩ r:=by
 generalize z:(⟨ws,0,0,0⟩:sD)=s at f;cases f with
 |nil=>exact .inl rfl
 |@cons x r h1 h2 h3=>
  right;have hs:=z;clear z;rw[<-hs]at h1 h2;rw[Dl J]at h1;simp only[dJ,aK]at h1;obtain⟨⟨E,R⟩,I⟩:=h1;rw[<-E,<-I]at h2;have h2:x.s'=⟨ws,1,0,0⟩:=h2;rw[h2]at h3;exact⟨x,r,rfl,rfl,E.symm,R.symm,h2,h3⟩
def Qg(hk:Lk chain us dl)(E:us.length=1)(z:x.s=⟨ws,0,0,0⟩)(h2:x.e=0)(h3:x.ob=Z)(h4:x.s'=⟨ws,1,0,0⟩):pJ c us dl x=Dv.first (chain[0]!):=by
 unfold pJ Dv.first;rw[z,h2,h3,h4]
 have ht:lW c us 0=Ag us 0:=by
  unfold lW Ag;simp
 dsimp only;rw[ZD rfl,ht,hk.id 0 aA,hk.time 0 aA,hk.deps 0 aA,E];rfl
def Dy(hk:Lk chain us dl)(E:us.length=1)(z:∀p,p∈ws->p.1.epoch<us.length/\p.1.place<=4294967296):Ok c chain us (1+ws.length) (Dv.first (chain[0]!)) ⟨ws,1,0,0⟩:=by
 refine⟨⟨rfl,?_,rfl,rfl⟩,by show 0<_;omega,z,?_,aC⟩
 .unfold Dv.first lW;have:=hk.time 0 aA;unfold Ag at this;rw[this];simp
 .unfold Dv.left Dv.first;rw[E];simp
def Px(hk:Lk chain us dl)(hc:Dv.jS chain=bB)(hcf:Dv.jK c=bB)(J:us.length=1)(R:ws.length<4294967000)(E:∀p,p∈ws->p.1.epoch<us.length/\p.1.place<=4294967296):Good c us ⟨ws,0,0,0⟩:=by
 intro pre hp;obtain rfl|⟨x,r,rfl,Y,h2,h3,h4,h5⟩:=BA J hp.aaK
 .refine⟨λ_=>?_,by show 0<_;omega,λ_=>rfl⟩;have:=(Dy (c:=c) hk J E).sane hk hc hcf aA;exact⟨this.times,this.step,this.drift,this.window,by show 0<_;omega,this.len,this.wlen,this.ep,this.batch⟩
 .obtain⟨z,I,_⟩:=h5.ok hk hc hcf (Dy (c:=c) hk J E)
  have e:jQ ⟨ws,0,0,0⟩ (x::r)=jQ ⟨ws,1,0,0⟩ r:=by
   unfold jQ;rw[List.foldl_cons,h4]
  rw[e];have Y:=I.hs.number;have h2:=I.much;have h3:=I.sq;exact⟨λ_=>I.sane hk hc hcf aA,aA,λe=>aA⟩
end
end
open Go.RowKit Go.Joins Go.Shelf
section
variable {XS M':Nat->Prop}{W W' w w':X}{v vu vo vw v0:aD}{n kb nb cnt ep sq e s B0 cap:Nat}{c:Cf}{us:List PB}{dl:Nat->List (List UInt8)}{ws:List PW}{xs:List aD}{s0:sD}{pre:List DX}{x:DX}{a:Option fR}
abbrev PL:=Lo×aD×aD
variable {p:PL}{ps0 ps:List PL}
def jJ(p:PL):List aD:=[N aE p.1.number,N aE p.1.time,N aE p.1.epoch,N aE p.1.id,N aE p.1.seq,p.2.1,p.2.2,N aE p.1.at_]
structure LAt(XS:Nat->Prop)(W:X)(p:PL):Prop where
 txs:kQ W p.2.1 p.1.txs
 deps:kQ W p.2.2 p.1.deps
 ntxs:∀g,p.2.1.ownBlock=M g->¬XS g
 ndeps:∀g,p.2.2.ownBlock=M g->¬XS g
def QT(XS:Nat->Prop)(W:X):Prop:=∀(k:Nat)(cs:Array aD)(z:Nat×Nat),W.heap[k]? =M (aL cs 9 z)->¬XS k
def kQ.jM{l:List (List UInt8)}(h:kQ W v l)(hc:jI XS W W')(I:QT XS W):kQ W' v l:=Row.jM h hc (λg J=>by
 obtain⟨E,z⟩:=Row.obj h J;exact I g E _ z)
def LAt.jM(h:LAt XS W p)(hc:jI M' W W')(z:QT M' W):LAt XS W' p:=⟨h.txs.jM hc z,h.deps.jM hc z,h.ntxs,h.ndeps⟩
def LAt.own(h:LAt XS W p)(hc:jI XS W W'):LAt XS W' p:=⟨Row.jM h.txs hc h.ntxs,Row.jM h.deps hc h.ndeps,h.ntxs,h.ndeps⟩
def o8(XS:Nat->Prop)(W:X):Prop:=∀(k:Nat)(cs:Array aD)(t:Nat)(z:Nat×Nat),W.heap[k]? =M (aL cs t z)->¬XS k
def o8.str(h:o8 XS W):QT XS W:=λk cs z hk=>h k cs _ z hk
def lH{A B:X}{row:Option Nat}(I:A.grownBy B row)(E:∀r,row=M r->n<=r/\∃o:Obj,A.heap[r]? =M o/\o.isCells=aR):∃XS,jI XS A B/\o8 XS A/\∀k,k<n->¬XS k:=
 ⟨λk=>row=M k,.grown I,λk cs t J hk e=>(by
  obtain⟨_,o,z,hc⟩:=E k e;rw[hk]at z;cases z;cases hc),λk hk e=>(by have:=(E k e).1;omega)⟩
def rH.nU(h:rH w kb c vu us dl nb vo vw ws cnt ep sq)(hc:jI XS w w')(z:o8 XS w):rH w' kb c vu us dl nb vo vw ws cnt ep sq:=
 h.jM hc (z _ _ _ _ h.obj) (λg I=>by obtain⟨E,e⟩:=h.upper.obj I;exact z g _ _ _ e) (λg I=>by obtain⟨E,e⟩:=h.wait.obj I;exact z g _ _ _ e) z.str
def uw(h:Row w e s v n xs)(hc:jI XS w w')(E:o8 XS w):Row w' e s v n xs:=h.jM hc (λg I=>by
 obtain⟨z,e⟩:=h.obj I;exact E g _ _ _ e)
def vP{b t:Nat}(h:Boxed w b t v)(hc:jI XS w w')(z:o8 XS w):Boxed w' b t v:=(hc.block b h.lt (z b _ _ _ h)).trans h
def Typed(t E:Nat)(XS:Nat->Prop)(W:X):Prop:=∀(k:Nat)(cs:Array aD)(u:Nat)(z:Nat×Nat),W.heap[k]? =M (aL cs u z)->XS k->u=t\/u=E
def Typed.XD(h:Typed 52 44 XS W):QT XS W:=λk cs z hk e=>by
 rcases h k cs _ z hk e with h|h<;>revert h<;>decide
def rH.typed(h:rH w kb c vu us dl nb vo vw ws cnt ep sq)(hc:jI XS w w')(z:Typed 52 44 XS w):rH w' kb c vu us dl nb vo vw ws cnt ep sq:=
 h.jM hc (λe=>by rcases z _ _ _ _ h.obj e with h|h<;>revert h<;>decide) (λg I e=>by obtain⟨E,q⟩:=h.upper.obj I;rcases z g _ _ _ q e with h|h<;>revert h<;>decide) (λg I e=>by obtain⟨E,q⟩:=h.wait.obj I;rcases z g _ _ _ q e with h|h<;>revert h<;>decide) z.XD
section
variable {F:Fence}{k:Nat}{P:cU}(w:X){ops:Array km}{rest:List km}{o:km}{a:Act}{Q:Exit->Act->X->Prop}
def vH(ac:o.guard=Z)(s x:Operand)(t:TypeId)(ho:o.op=.call { callee:=.builtin .append,args:=#[s,x],argTypes:=#[t,t] })(e:TypeId)(i:TypeInfo)(z:aD)(size bytes:Nat)(ht:P.underlying t=M (.slice e))(hi:P.info? e=M i)(hz:i.zero=M z)(J:i.size=size)(ah:i.bytes=bytes)(ai:z.cells.size=size)(ag:0<size)(v:aD)(n:Nat)(xs:List aD)(hs:a.eval s=v)(Y:Row w e size v n xs)(ad:fR)(m c:Nat)(E:List aD)(hx:a.eval x=aM (M ad) m c)(hm:0<m)(hl:E.length=m*size)(R:∀j u,E[j]? =M u->w.cell? (ad.add j)=M u)(h1:∀u∈E,u.oneCell'=bB)(af:n+m<=maxLen)(I:(n+m)*bytes<=140737488355328)(h:∀g off cap w',Row w' e size (aM (M ⟨g,off,Z⟩) (n+m) cap) (n+m) (xs++E)->Grew v g w w'->wpListIn F k P ops Q rest (a.put o.dst (aM (M ⟨g,off,Z⟩) (n+m) cap)) w'):wpListIn F k P ops Q (o::rest) a w:=by
 refine wpListIn_plain ac λK hK=>?_;obtain⟨v',w',hr,h2,⟨g,off,cap,rfl⟩,h4⟩:=Y.append (P:=P) t o.type i z bytes ht hi hz J ah ai ag ad m c E hm hl R h1 af I;unfold Oper.wpIn;refine⟨?_,?_⟩
 .simp[Oper.about,ho,resolve,Target.leads,Sem.run_pure]
 .rw[Oper.semAt_plain F _ _ (by rw[ho];intro c ae;cases ae)];simp[bO,ho,resolve,invoke,builtin,hs,hx,hr,Result.andThen];refine hK _ _ (h g off cap w' h2 ?_);obtain⟨e1,e2,e3⟩|⟨e1,e2,e3⟩:=h4
  .have aa:v.ownBlock=M g:=e1.symm;exact .inl ⟨aa,by rw[<-aa];exact e2,e3⟩
  .exact .inr ⟨by simpa[Value.ownBlock]using e1,e2,e3⟩
end
def Grew.others{g:Nat}(h:Grew v g w w')(z:Row w e s v n xs):KeepsOthers w w':=⟨h.jM.size,λk o hk I=>by
 refine(h.jM.block k (jE hk) (λJ=>?_)).trans hk;obtain⟨E,hc⟩:=z.obj J;rw[hk]at hc;cases hc;cases I⟩
def Nv{ws':List PW}{b:PW}(h:jO c us ws cnt ep=(M (e,M b),ws')):b∈ws:=by
 obtain⟨z,_,_⟩:=qw (judged c us cnt ep) ws;unfold jO at h;split at h
 .cases h
 .split at h
  .cases h
  .split at h
   .rename_i R E;cases h;obtain z|z|⟨J,I,z⟩:=z
    .rw[z]at E;cases E
    .rw[z]at E;cases E
    .rw[z]at E;cases E;exact I
   .split at h<;>cases h
def LW(h:Steps c us s0 pre):(∀p,p∈(jQ s0 pre).ws->p∈s0.ws)/\(jQ s0 pre).cnt=s0.cnt+pre.length:=by
 induction h with
 |nil=>exact⟨λ_ h=>h,rfl⟩
 |@snoc pre x _ h2 h3 h4 ih=>
  rw[wE];rw[<-h2]at ih;refine⟨λp hp=>ih.1 p ?_,?_⟩
  .have:=sU (c:=c) (us:=us) (ws:=x.s.ws) (cnt:=x.s.cnt) (ep:=x.s.ep) p;rw[h3]at this;exact this hp
  .rw[h4,aS,iF]
   show x.s.cnt+1=_
   rw[ih.2];omega
def Yw(h:Steps c us s0 (pre++[x])){b:PW}(E:x.ob=M b):b∈s0.ws/\x.s.cnt=s0.cnt+pre.length:=by
 generalize z:pre++[x]=l at h;cases h with
 |nil=>simp at z
 |snoc h1 h2 h3 h4=>
  obtain⟨rfl,e⟩:=oR z rfl;cases e;rw[E]at h3;have:=LW h1;rw[<-h2]at this;exact⟨this.1 b (Nv h3),this.2⟩
def Tq(h:Steps c us s0 (pre++[x])):Steps c us s0 pre:=by
 generalize z:pre++[x]=l at h;cases h with
 |nil=>simp at z
 |snoc h1 h2 h3 h4=>
  obtain⟨rfl,e⟩:=oR z rfl;cases e;exact h1
structure SI(c:Cf)(us:List PB)(dl:Nat->List (List UInt8))(XS:Nat->Prop)(B0:Nat)(v0:aD)(ps0:List PL)(w:X)(pre:List DX)(W:X)(ps:List PL)(a:Option fR)(cap:Nat):Prop where
 los:ps.map cI=pre.map (pJ c us dl)
 box:Boxed W B0 44 (.slice a (ps0++ps).length cap)
 row:Row W 52 8 (.slice a (ps0++ps).length cap) (ps0++ps).length ((ps0++ps).flatMap jJ)
 at_:∀p,p∈ps0++ps->LAt XS W p
 own:∀g,(aM a (ps0++ps).length cap).ownBlock=M g->v0.ownBlock=M g\/w.heap.size<=g
 jM:jI (λk=>XS k\/v0.ownBlock=M k) w W
 big:B0<W.heap.size
def SI.nU(h:SI c us dl XS B0 v0 ps0 w pre W ps a cap)(hc:jI M' W W')(E:o8 M' W)(z:∀k,k<w.heap.size->¬M' k):SI c us dl XS B0 v0 ps0 w pre W' ps a cap:=
 ⟨h.los,vP h.box hc E,uw h.row hc E,λp hp=>(h.at_ p hp).jM hc E.str,h.own,h.jM.trans hc (λk hk e=>Xs e (z k hk)),aP h.big hc.size⟩
def SI.turn(h:SI c us dl XS B0 v0 ps0 w pre W ps a cap)(hc:jI XS W W')(R:¬XS B0)(I:∀g,v0.ownBlock=M g->¬XS g)(z:∀k,XS k->k<w.heap.size):SI c us dl XS B0 v0 ps0 w pre W' ps a cap:=
 ⟨h.los,(hc.block B0 h.box.lt R).trans h.box,h.row.jM hc (λg J E=>by
  obtain q|q:=h.own g J
  .exact I g q E
  .have:=z g E;omega),λp hp=>(h.at_ p hp).own hc,h.own,h.jM.trans hc (λk _ e=>.inl e),aP h.big hc.size⟩
def SI.more(h:SI c us dl XS B0 v0 ps0 w pre W ps a cap)(hp:p.1=pJ c us dl x)(Y:LAt XS W p){a':Option fR}{z:Nat}(hc:jI (λk=>(aM a (ps0++ps).length cap).ownBlock=M k\/k=B0) W W')(J:Boxed W' B0 44 (.slice a' ((ps0++ps).length+1) z))(R:Row W' 52 8 (.slice a' ((ps0++ps).length+1) z) ((ps0++ps).length+1) ((ps0++ps).flatMap jJ++jJ p))(I:∀g,(aM a' ((ps0++ps).length+1) z).ownBlock=M g->(aM a (ps0++ps).length cap).ownBlock=M g\/w.heap.size<=g)(hB:w.heap.size<=B0):Typed 52 44 (λk=>(aM a (ps0++ps).length cap).ownBlock=M k\/k=B0) W/\SI c us dl XS B0 v0 ps0 w (pre++[x]) W' (ps++[p]) a' z:=by
 have hT:Typed 52 44 (λk=>(aM a (ps0++ps).length cap).ownBlock=M k\/k=B0) W:=by
  rintro k cs u fz hk (e|rfl)
  .obtain⟨aa,q⟩:=h.row.obj e;rw[hk]at q;simp at q;exact .inl q.2.1
  .have q:=h.box;unfold Boxed at q;rw[hk]at q;simp at q;exact .inr q.2.1
 have hl:(ps0++(ps++[p])).length=(ps0++ps).length+1:=aF
 refine⟨hT,⟨by rw[bJ,bJ,h.los];simp[hp],by rw[hl];exact J,?_,λq E=>?_,λg hg=>?_,?_,aP h.big hc.size⟩⟩
 .rw[hl,<-fM,iw];simpa using R
 .rw[<-fM]at E;obtain E|E:=dM.1 E
  .exact(h.at_ q E).jM hc hT.XD
  .rw[dK.1 E];exact Y.jM hc hT.XD
 .rw[hl]at hg;obtain q|q:=I g hg
  .exact h.own g q
  .exact .inr q
 .refine h.jM.trans hc (λk hk e=>?_);obtain e|e:=e
  .obtain q|q:=h.own k e
   .exact .inr q
   .omega
  .omega
end
open Go.RowKit
section
variable {L:Array Bool}{i k:Nat}{a:Act}{v:aD}
def unl(L:Array Bool):Nat:=L.toList.countP (λb=>!b)
def Ry(z:L[i]? =M aR):0<unl L:=by obtain⟨h,e⟩:=dY.1 z;exact List.countP_pos_iff.2 ⟨aR,by rw[<-e];exact Array.getElem_mem_toList h,rfl⟩
def ZC(z:L[i]? =M aR):unl (L.setIfInBounds i bB)<unl L:=by
 have hp:=Ry z;obtain⟨h,e⟩:=dY.1 z;unfold unl at hp⊢;rw[Array.toList_setIfInBounds,List.countP_set (by simpa using h)];have E:L.toList[i]'(by simpa using h)=aR:=by simpa using e
 simp only[E,Bool.not_false,if_true,Bool.not_true,bU,if_false];omega
def Ae{md:Region.Mode}{ops:Array km}(h:i∈fL md ops L):L[i]? =M aR:=by
 unfold fL at h;rw[fU,dF]at h;have z:=h.2.1;rw[fD]at z;cases E:L[i]? with
 |none=>rw[E]at z;simp at z
 |some b=>
  rw[E]at z;simp at z;rw[z]
section
variable {F:Fence}{n:Nat}{P:cU}{md:Region.Mode}{ops:Array km}{Q:Exit->Act->X->Prop}
def wpOpIn_mono{K I:Act->X->Prop}{w:X}(h:∀a w,K a w->I a w)(z:wpOpIn F n P ops Q i K a w):wpOpIn F n P ops Q i I a w:=by
 unfold wpOpIn at z⊢;cases E:ops[i]? with
 |none=>rw[E]at z;exact h _ _ z
 |some o=>
  rw[E]at z;dsimp only at z⊢;split
  .rename_i hw;rw[ZD hw]at z;exact Oper.wpIn_mono h z
  .rename_i hw;rw[Zs hw]at z;exact⟨z.1,h _ _ z.2⟩
def uJ(Inv:Array Bool->Act->X->Prop)(z:∀L a w,Inv L a w->fL md ops L=[]->Q .normal a w)
  (E:∀L a w i,Inv L a w->i∈fL md ops L->wpOpIn F n P ops Q i (λa' w'=>Inv (L.setIfInBounds i bB) a' w') a w):
  ∀(I:Nat)(L:Array Bool)(a:Act)(w:X),unl L<=I->Inv L a w->wpAnyIn F n P md ops Q I L a w
 |0,L,a,w,hf,hI=>by
  have J:fL md ops L=[]:=by
   cases h:fL md ops L with
   |nil=>rfl
   |cons i r=>
    have:=Ry (Ae (i:=i) (by rw[h];exact dQ));omega
  exact⟨J,z L a w hI J⟩
 |f+1,L,a,w,hf,hI=>⟨λh=>z L a w hI h,λi R=>wpOpIn_mono (λa' w' h=>uJ Inv z E f _ a' w' (by have:=ZC (Ae R);omega) h) (E L a w i hI R)⟩
end
section
variable {l n:Nat}{P:cU}{ops:Array km}{Q:Exit->Act->X->Prop}{i:Nat}{o:km}{K:Act->X->Prop}{a:Act}{w w':X}
def lZ(z:ops[i]? =M o)(J:o.guard=Z)(hd:∀c,o.op≠.defer c)(E:(bO a.eval o).run P w=.ok (.value v) w')(I:K (a.put o.dst v) w'):wpOpIn (Fence.wide.inRound l) n P ops Q i K a w:=by unfold wpOpIn;rw[z];dsimp only;rw[ZD (by simp[cS,J])];refine⟨λ_ _=>trivial,?_⟩;rw[Oper.semAt_eq _ _ _ hd,E];exact I
def LC(z:ops[i]? =M o)(J:o.guard=Z)(hd:∀c,o.op≠.defer c)(E:(bO a.eval o).run P w=.ok .skip w')(I:K (a.put o.dst undef) w'):wpOpIn (Fence.wide.inRound l) n P ops Q i K a w:=by unfold wpOpIn;rw[z];dsimp only;rw[ZD (by simp[cS,J])];refine⟨λ_ _=>trivial,?_⟩;rw[Oper.semAt_eq _ _ _ hd,E];exact I
end
def I9{d:Nat}:(a.put (M d) v).tmps[k]? =if d=k then(if d<a.tmps.size then M v else Z)else a.tmps[k]?:=by unfold Act.put;rw[aV]
def kD(h:a.tmps[k]? =M v):a.eval (.tmp k)=v:=by
 show a.tmps.getD k undef=v
 rw[fD,h];rfl
end
end Hm
