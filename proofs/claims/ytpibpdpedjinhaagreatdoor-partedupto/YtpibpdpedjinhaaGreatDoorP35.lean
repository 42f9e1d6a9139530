import Derived.Test.YtpibpdpedjinhaaGreatDoorP34
import Derived.Deep.CutRange
import Derived.Test.YtpibpdpedjinhaaGreatDoorRows
import Derived.ProofKit
import Derived.OpenShut
import Derived.Deep.Slices
import Derived.Deep.Strs
import Derived.Deep.DeepHandedRow
import Derived.Lib.LaidTab
set_option maxRecDepth 100000
set_option maxHeartbeats 16000000
set_option linter.unusedSimpArgs false
namespace Go.Proofs.YtpibpdpedjinhaaGreatDoor
namespace Dv
open Fr (F)
section
def Like(u v:U):Prop:=u.id=v.id/\u.time=v.time/\jL u=jL v
section
variable {c:Cf}{a b:List U}{k:Nat}
theorem EL(z:∀i,i<=k->Like (a[i]!) (b[i]!)){e:Nat}(R:e<=k)(t:Int):∀l:List Ba,sift c a k e t l=sift c b k e t l
 |[]=>rfl
 |x::r=>by
  have ih:=EL z R t r;rw[sift,sift,ih];have h1:holds c a k e t x=holds c b k e t x:=by unfold holds;rw[(z e R).2.1]
  rw[h1];by_cases Y:late c e t x=true
  ·simp[Y]
  ·by_cases I:holds c b k e t x=true
   ·simp[I]
   ·have h2:wrong c a e t x=wrong c b e t x:=by
     simp only[late,iM,decide_eq_true_eq,not_or]at Y;unfold holds at I;simp only[iM,bY,beq_iff_eq,decide_eq_true_eq,not_or]at I;have hx:x.epoch<=k:=by omega
     unfold wrong;rw[(z _ hx).1,(z _ hx).2.1];by_cases hk:e+1<=k
     ·rw[(z _ hk).2.1]
     ·have E:x.epoch=e:=by omega
      rw[E];by_cases hd:(b[e]!).time+c.drift<t
      ·have:x.txs.isEmpty=false:=by
        cases J:x.txs.isEmpty with
        |false=>rfl
        |true=>exact absurd ⟨⟨⟨J,E⟩,by omega⟩,hd⟩ I.2
       rw[this];simp
      ·rw[show decide ((b[e]!).time+c.drift<t)=false from decide_eq_false hd];simp only[Bool.false_and]
    rw[h2]
theorem BO(z:∀i,i<=k->Like (a[i]!) (b[i]!)){h:Lo}{e:Nat}(E:e<=k)(txs:List (List UInt8)):lay c a k h e txs=lay c b k h e txs:=by
 unfold lay;rw[(z e E).1,(z e E).2.2]
theorem QX(hw:1<=c.window)(z:∀i,i<=k->Like (a[i]!) (b[i]!)){h:Lo}(E:h.epoch<=k)(wait:List Ba):draw c a k h wait=draw c b k h wait:=by
 have hs:=EL (c:=c) z E (h.time+c.step) wait;unfold draw;simp only;rw[hs];cases R:(sift c b k h.epoch (h.time+c.step) wait).1 with
 |hold=>rfl
 |got x=>
  simp only;obtain⟨_,_,i3,i4,_,J,_,_⟩:=xC c b k _ _ _ _ R
  have hk:x.epoch<=k:=by
   unfold holds at J;simp only[gV,iV,beq_eq_false_iff_ne,decide_eq_false_iff_not]at J;omega
  rw[BO z hk]
 |no=>
  simp only;split
  ·rfl
  ·rename_i Y;have I:h.epoch+1<=k:=by omega
   rw[(z _ I).2.1];split
   ·rw[BO z I]
   ·rw[BO z E]
theorem BN(hw:1<=c.window)(z:∀i,i<=k->Like (a[i]!) (b[i]!)):∀(f:Nat)(h:Lo)(wait:List Ba),h.epoch<=k->draws c a k f h wait=draws c b k f h wait
 |0,_,_,_=>rfl
 |f+1,h,wait,he=>by
  rw[draws,draws,QX hw z he];cases hd:draw c b k h wait with
  |mk o r=>
   cases o with
   |none=>rfl
   |some x=>
    have J:x.epoch<=k:=by
     unfold draw at hd;simp only at hd;split at hd
     ·simp at hd
     ·rename_i y I;simp only[dA,aC]at hd;obtain⟨rfl,rfl⟩:=hd;obtain⟨_,_,i3,i4,_,E,_,_⟩:=xC c b k _ _ _ _ I;simp only[lay];unfold holds at E;simp only[gV,iV,beq_eq_false_iff_ne,decide_eq_false_iff_not]at E;omega
     ·split at hd
      ·simp at hd
      ·simp only[dA,aC]at hd;obtain⟨rfl,rfl⟩:=hd;simp only[lay];split<;>omega
    simp only[BN hw z f x r J]
theorem O5(z:∀i,i<=k->Like (a[i]!) (b[i]!))(h:Lo)(wait:List Ba):left a k h wait=left b k h wait:=by
 unfold left;rw[(z k jA).2.1]
theorem Qu(hw:1<=c.window)(z:∀i,i<=k->Like (a[i]!) (b[i]!))(I:heard c (a[k]!).txs=heard c (b[k]!).txs){s:St}(E:(s.log.getLastD default).epoch<=k):step c a k s=step c b k s:=by
 have ht:take c (a[k]!) k s.chs s.wait=take c (b[k]!) k s.chs s.wait:=by unfold take;rw[I]
 unfold step;simp only;rw[ht,O5 z,BN hw z _ _ _ E]
end
def Alike(c:Cf)(u v:U):Prop:=Like u v/\heard c u.txs=heard c v.txs
theorem FN{c:Cf}{a b:List U}(E:jR a=true)(z:jP c=true):∀k,k<=a.length->(∀i,i<=k-1->Alike c (a[i]!) (b[i]!))->gone c a k=gone c b k
 |0,_,hab=>by
  have:=(hab 0 (by omega)).1;unfold gone start first
  rw[this.1,this.2.1,this.2.2]
 |k+1,hk,hab=>by
  have I:=FN E z k (by omega) (λi J=>hab i (by omega));have R:=(rJ E z k (by omega)).epoch
  have hw:1<=c.window:=by
   unfold jP at z;simp only[decide_eq_true_eq]at z;omega
  rw[gone,gone,<-I];exact Qu hw (λi J=>(hab i (by omega)).1) (hab k (by omega)).2 (by omega)
theorem sN{c:Cf}:∀(a b:List U)(p:Option Int),a.length=b.length->(∀i,i<a.length->Alike c (a[i]!) (b[i]!)/\small (a[i]!)=small (b[i]!))->jV p a=jV p b
 |[],[],_,_,_=>rfl
 |[],_::_,_,h,_=>by simp at h
 |_::_,[],_,h,_=>by simp at h
 |u::r,v::r',p,hl,h=>by
  have z:=h 0 (by simp);simp only[List.getElem!_cons_zero]at z;have E:=sN (c:=c) r r' (some u.time) (by simpa using hl) (λi I=>by have:=h (i+1) (by simpa using I);simpa using this);rw[jV,jV,E,z.1.1.2.1]
  congr 1
  unfold mM;rw[z.1.1.2.1,z.2]
theorem O4{c:Cf}{a b:List U}(I:a.length=b.length)(h:∀i,i<a.length->Alike c (a[i]!) (b[i]!)/\small (a[i]!)=small (b[i]!)):all c a=all c b:=by
 have R:jR a=jR b:=by
  unfold jR;rw[sN a b none I h,I]
 unfold all;rw[<-R];by_cases z:jP c=false
 ·rw[if_pos z,if_pos z]
 ·rw[if_neg z,if_neg z];by_cases E:jR a=false
  ·rw[if_pos E,if_pos E]
  ·rw[if_neg E,if_neg E];simp only[Bool.not_eq_false]at E z;have J:=(kJ E).1;rw[FN E z a.length jA (λi Y=>(h i (by omega)).1),I]
end
end Dv
namespace Pa
open Go Go.Conc Go.RowKit Go.Joins
open Hm (ptr jG jZ oC lI PU jY kM xW)
open Dv (U Cf)
open Po hiding U H B IT PR NB
open Cr (Fill)
section
variable {w:World}{va:Value}{pl:List Hm.PL}
theorem Ad{e s n:Nat}{v:Value}{xs:List Value}(h:Hm.Row w e s v n xs):n<=9223372036854775807:=by
 rcases h.2 with⟨_,h⟩|⟨g,off,cap,z,_,_,E,h2,_⟩
 ·omega
 ·have:maxLen=9223372036854775807:=rfl;omega
theorem NM(z:Hm.Row w 62 8 va pl.length (pl.flatMap jY))(hs:∀p,p∈pl->kM w p.2.1 p.1.txs/\kM w p.2.2 p.1.deps):xW w va pl:=
 ⟨z.rd,λp hp=>⟨(hs p hp).1,(hs p hp).2,Ad (hs p hp).1,Ad (hs p hp).2⟩⟩
theorem wJ{w':World}(h:xW w va pl)(z:jZ (λ_=>False) w w'):xW w' va pl:=
 ⟨Hm.Rd.kept h.1 z.size (λ_ g _ I=>z.block g I (λe=>e)),λp hp=>⟨Hm.Row.kept (h.2 p hp).1 (λg E=>z.block g (Hm.Row.lt (h.2 p hp).1 E) (λe=>e)),Hm.Row.kept (h.2 p hp).2.1 (λg E=>z.block g (Hm.Row.lt (h.2 p hp).2.1 E) (λe=>e)),(h.2 p hp).2.2⟩⟩
end
section
noncomputable def aaF:Code:=match Tryz.f29.body with
 |some (.seq c _)=>c
 |_=>.skip
noncomputable def Zt:Array Oper:=match Tryz.f29.body with
 |some (.seq _ (.seq (.region _ ops _) _))=>ops
 |_=>#[]
noncomputable def ops2:Array Oper:=match Tryz.f29.body with
 |some (.seq _ (.seq _ (.seq (.region _ ops _) _)))=>ops
 |_=>#[]
noncomputable def alT:Code:=match Tryz.f29.body with
 |some (.seq _ (.seq _ (.seq _ c)))=>c
 |_=>.skip
theorem Wn:∃E z,Tryz.f29.body=some (.seq aaF (.seq (.region E Zt false) (.seq (.region z ops2 false) alT))):=⟨_,_,rfl⟩
theorem MZ:List.range Zt.size=[0,1,2,3,4,5,6,7]:=by kernel_rfl
theorem KD:List.range ops2.size=[0,1,2,3,4,5,6,7]:=by kernel_rfl
theorem GY{w:World}{bc:Nat}{c:Cf}{a:Act}{s:Nat}(Y:w.heap[bc]? =some (.cells (jG c) 24 (0,0)))(hs:a.eval (.tmp s)=ptr bc):∀t d (o:Oper),o.op=.load 24 (.tmp s)->(execOp a.eval o).run PQ (on w t d)=.ok (.value (.agg (jG c))) (on w t d):=λt d o h=>by
 have c:=xq (w:=on w t d) Y;have J:=c 0;have z:=c 1;have E:=c 2;have I:=c 3;have k4:=c 4;have k5:=c 5;have R:=c 6;unfold execOp;simp only[h,hs,ptr];simp[go_sem,J,z,E,I,k4,k5,R,jG]
section
variable {Post:EO}{D:Nat->Prop}{Z A:List Frame}{w:World}{c:Cf}{ps qs:List PU}{xa xb:Option Addr}{vc vd:Nat}
theorem TR(rd:Cr.ReadW){b₀:Frame}{a₀:Act}{ops:Array Oper}{i:Nat}{rest:List Nat}{k:List Item}{o:Oper}{x y z:Operand}{bd:Array TypeId}(ho:ops[i]? =some o)(hw:Region.wanted o (yielded ops a₀.tmps)=true)
  (bj:o.op=.call { callee:=.value (.func 29),args:=#[x,y,z],argTypes:=bd }) (ex:a₀.eval x=.agg (jG c)) (ey:a₀.eval y=.slice xa ps.length vc) (ez:a₀.eval z=.slice xb qs.length vd)
  (bm:Tryz.prog.globals.size<=w.heap.size) (bg:lI w (.slice xa ps.length vc) ps) (a2:lI w (.slice xb qs.length vd) qs) (a9:ps.length<=4294967296) (bb:qs.length<=4294967296) (hH:qp w) (am:Dv.all c (ps.map Prod.fst)=Dv.all c (qs.map Prod.fst))
  (aq:∀D' w',jZ (λ_=>False) w w'->Wq D' Post Z (b₀.at (a₀.put o.dst (.bool true)) (.inRegion ops rest::k)) A w'):
  Wq D Post Z (b₀.at a₀ (.inRegion ops (i::rest)::k)) A w:=by
 obtain⟨r1,r2,an⟩:=Wn;refine Wq.call ho hw bj (fq Tryz.func29 rfl) rfl an ?_;simp only[fJ,dW,fG,ex,ey,ez,show Tryz.f29.ntmps=40 from rfl,dL,aN,bM,Nat.reduceAdd,Nat.reduceSub,cO,bZ,dN,cZ,dM,dH];obtain⟨w1,av,-,ah⟩:=jE w (jG c) 24;have ab:jZ (λ_=>False) w w1:=sK (by rw[av]);refine Wq.seq (Wq.walk λt d Q hN _=>?_);have HN:Hid _:=hN;clear hN;simp only[aaF,Tryz.f29,jG];go_wp2_with fail;refine HN.out _ _ (Wq.same (y:=w1) (λ_ _=>by rw[av];rfl) (Wq.seq ?_));clear HN;rw[show(on w t d).heap.size=w.heap.size from rfl];have s1:=ab.size;refine Wq.region ?_;rw[MZ];refine Wq.tZ (.load 24 (.tmp 3)) (some 14) (.agg (jG c)) w1 rfl (GY ah rfl) ?_;simp only[Act.put,bH,dJ,dI];refine Wq.tZ (.move (.tmp 1)) (some 15) (.slice xa ps.length vc) w1 rfl (λt d o h=>by unfold execOp;simp only[h];rfl) ?_;simp only[Act.put,bH,dJ,dI];obtain⟨y2,a7,ba,a8,bk⟩:∃o,Zt[2]? =some o/\o.op=.call { callee:=.value (.func 12),args:=#[.tmp 14,.tmp 15],argTypes:=#[24,25] }/\o.dst=some 16/\o.guard=none:=⟨_,rfl,rfl,rfl,rfl⟩
 refine KL rd (c:=c) (ps:=ps) a7 (Cr.ku bk) ba rfl rfl (by omega) (oN bg ab) a9 (hH.kept ab) λD2 w2 va pl ac ai aa ap=>?_;rw[a8];have I:=ab.trans ap (λ_ _ e=>e);have s2:=I.size;have ay:=(ap.block _ (jC ah) (λe=>e)).trans ah;obtain⟨e,he⟩:∃e,e=(Dv.all c (ps.map Prod.fst)).1:=⟨_,rfl⟩
 rw[<-he];simp only[Act.put,bH,dJ,dI];refine Wq.tZ (.move (.tmp 16)) (some 13) (.tuple #[va,.int .i64 e]) w2 rfl (λt d o h=>by unfold execOp;simp only[h];rfl) ?_;simp only[Act.put,bH,dJ,dI];refine Wq.tZ (.extract (.tmp 13) 0) (some 17) va w2 rfl (λt d o h=>by unfold execOp;simp only[h];rfl) ?_;simp only[Act.put,bH,dJ,dI];refine Wq.tZ (.extract (.tmp 13) 1) (some 18) (.int .i64 e) w2 rfl (λt d o h=>by unfold execOp;simp only[h];rfl) ?_;simp only[Act.put,bH,dJ,dI];refine Wq.tZ (.assign (.tmp 17)) (some 7) va w2 rfl (λt d o h=>by unfold execOp;simp only[h];rfl) ?_;simp only[Act.put,bH,dJ,dI];refine Wq.tZ (.assign (.tmp 18)) (some 8) (.int .i64 e) w2 rfl (λt d o h=>by unfold execOp;simp only[h];rfl) (Wq.done ?_);simp only[Act.put,bH,dJ,dI];refine Wq.seq (Wq.region ?_);rw[KD];refine Wq.tZ (.load 24 (.tmp 3)) (some 20) (.agg (jG c)) w2 rfl (GY ay rfl) ?_;simp only[Act.put,bH,dJ,dI];refine Wq.tZ (.move (.tmp 2)) (some 21) (.slice xb qs.length vd) w2 rfl (λt d o h=>by unfold execOp;simp only[h];rfl) ?_;simp only[Act.put,bH,dJ,dI];obtain⟨y3,bh,a4,a3,a5⟩:∃o,ops2[2]? =some o/\o.op=.call { callee:=.value (.func 12),args:=#[.tmp 20,.tmp 21],argTypes:=#[24,25] }/\o.dst=some 22/\o.guard=none:=⟨_,rfl,rfl,rfl,rfl⟩
 refine KL rd (c:=c) (ps:=qs) bh (Cr.ku a5) a4 rfl rfl (by omega) (oN a2 I) bb (hH.kept I) λD4 w4 vb R J Y E ao=>?_;rw[a3];have aj:=I.trans ao (λ_ _ e=>e);rw[<-am]at E⊢;rw[<-he];simp only[Act.put,bH,dJ,dI];refine Wq.tZ (.move (.tmp 22)) (some 19) (.tuple #[vb,.int .i64 e]) w4 rfl (λt d o h=>by unfold execOp;simp only[h];rfl) ?_;simp only[Act.put,bH,dJ,dI];refine Wq.tZ (.extract (.tmp 19) 0) (some 23) vb w4 rfl (λt d o h=>by unfold execOp;simp only[h];rfl) ?_;simp only[Act.put,bH,dJ,dI];refine Wq.tZ (.extract (.tmp 19) 1) (some 24) (.int .i64 e) w4 rfl (λt d o h=>by unfold execOp;simp only[h];rfl) ?_;simp only[Act.put,bH,dJ,dI];refine Wq.tZ (.assign (.tmp 23)) (some 9) vb w4 rfl (λt d o h=>by unfold execOp;simp only[h];rfl) ?_;simp only[Act.put,bH,dJ,dI];refine Wq.tZ (.assign (.tmp 24)) (some 10) (.int .i64 e) w4 rfl (λt d o h=>by unfold execOp;simp only[h];rfl) (Wq.done ?_);simp only[Act.put,bH,dJ,dI];have af:=wJ (NM ac ai) ao;have ag:=NM J Y;have aw:=Ad ac;have a0:=Ad J;have ak:R.map Prod.fst <+:pl.map Prod.fst:=by rw[aa,E];exact List.prefix_refl _
 have ae:pl.map Prod.fst <+:R.map Prod.fst:=by rw[aa,E];exact List.prefix_refl _
 refine Wq.walk λt d Q _ hR=>?_;have H1:Hid _:=λ(_:Unit)=>Hm.Cc va vb pl R (on w4 t d) (wJ af (x9 rfl)) (wJ ag (x9 rfl)) aw;have H2:Hid _:=λ(V:World)(hV:Below (on w4 t d).heap.size (on w4 t d) V)=>Hm.Cc vb va R pl V ((wJ ag (x9 rfl):xW (on w4 t d) vb R).below hV) ((wJ af (x9 rfl):xW (on w4 t d) va pl).below hV) a0;have HR:Hid _:=hR;have HP:Hid _:=jw ak ae;obtain⟨bq,bn,rfl⟩:=af.1.slice;obtain⟨bo,bp,rfl⟩:=ag.1.slice;have bl:(e == e)=true:=by simp
 have HC:Hid _:=aj;clear hR ak ae af ag aw a0 ac J ai Y aa E ao aj I ap ab ah ay he;simp only[alT,Tryz.f29];go_upto_region 4 with(go_at_call 23;refine aK (H1.out ()) ?_;rintro e1 W1 ⟨q1,rfl,a1,au⟩;obtain rfl:=a1.2 HP.out.1;have ar:Hid _:=au;clear a1 au)
 go_wp2_with (go_at_call 23;refine aK (H2.out _ ar.out) ?_;rintro e2 W2 ⟨q2,rfl,az,ax⟩;obtain rfl:=az.2 HP.out.2;have a6:Hid _:=ax;clear az ax)
 refine HR.out _ _ λtodo=>?_
 refine Wq.leave (v:=.bool true) (fn:=Tryz.f29) rfl rfl rfl (fq Tryz.func29 rfl) (λw=>by
  simp[results,Tryz.results29,go_sem,Frame.at]) ?_
 rw[fF,ho];refine aq _ _ (HC.out.trans (((Hm.jJ.below (ar.out.trans (a6.out.mono ar.out.size)) jA (λ_=>False)).h).heaps rfl rfl) (λ_ _ e=>e))
end
end
end Pa
namespace Hm
open Go.RowKit Go.Joins Go.Shelf
open Fr (below_drewN)
def Ky(l:List Int)(i:Nat):Int:=l.getD (i%l.length) 0
theorem Ze(v:Value)(l:List Int)(i:Nat)(w:World)(h:Rd w 1 v l.length (l.map (.int .i64)))(hl:l.length<=4294967296):Calls PQ 24 #[v,.int .i64 i] w λe w'=>e=.returned (.int .i64 (Ky l i))/\w'=w:=by
 obtain⟨a,cap,rfl⟩:=h.slice;obtain⟨n,J⟩:∃n,l.length=n:=⟨_,rfl⟩
 by_cases h0:n=0
 ·have E:Ky l i=0:=by
   have:l=[]:=bD (by omega);rw[this];simp[Ky]
  rw[E,J,h0];clear h;go_enter (fq Tryz.func24 rfl),Tryz.ntmps24;go_wp2_with fail;go_ret;exact⟨rfl,rfl⟩
 ·obtain⟨g,off,Y,e,_,_,hx⟩:=h.pos (by omega);simp only[Value.slice.injEq,true_and]at e;obtain⟨rfl,rfl⟩:=e;have I:i%n<n:=Nat.mod_lt _ (by omega)
  have E:l[i%n]? =some (Ky l i):=by
   unfold Ky;rw[J,aS,aG (by omega)];rfl
  have k0:w.cell? ⟨g,off+i%n,none⟩=some (.int .i64 (Ky l i)):=hx _ _ (by rw[eX,E];rfl);obtain⟨r,z⟩:∃r,Ky l i=r:=⟨_,rfl⟩
  rw[z]at k0⊢;obtain⟨j,R⟩:∃j,i%n=j:=⟨_,rfl⟩
  rw[R]at k0 I;have hm:(i:Int).tmod (n:Int)=j:=by rw[<-R];simp[Int.tmod_eq_emod_of_nonneg]
  have hw:IntKind.i64.wrap (j:Int)=j:=by rw[IntKind.wrap_i64];omega
  have ac:((n:Int) == 0)=false:=beq_false_of_ne (by omega);have ab:(n:Int)≠0:=by omega
  have aa:(j:Int)<n:=by omega
  rw[J];clear h hx E R z;go_enter (fq Tryz.func24 rfl),Tryz.ntmps24;go_wp2_with fail;go_ret;exact⟨rfl,rfl⟩
open Dv (U Cf Lo)
theorem Wp{l:List Value}{n:Nat}(h:l.length=n+1):∃a m,l=a::m/\m.length=n:=by
 cases l with
 |nil=>simp at h
 |cons a m=>exact⟨a,m,rfl,by simpa using h⟩
open Dv (U Cf Tx)
section
variable {w X w':World}{v:Value}
theorem vP:(PQ.info? 42).map (λi=>(i.zero,i.size,i.bytes))=some (some (.agg #[.int .i64 0,.int .i64 0,.slice none 0 0,.slice none 0 0]),4,64):=by kernel_rfl
theorem Xz:(PQ.info? 68).map (λi=>(i.zero,i.size,i.bytes))=some (some (.agg #[.int .u32 0,.int .u32 0,.string ⟨#[]⟩]),3,24):=by kernel_rfl
theorem Fp{cs:Array Value}{t b:Nat}(E:w.heap.size=b)(j:Nat)(u:Value)(h:cs.toList[j]? =some u):(w.alloc (.cells cs t)).cell? ((⟨b,0,none⟩:Addr).add j)=some u:=by
 subst E
 have e:(⟨w.heap.size,0,none⟩:Addr).add j=⟨w.heap.size,j,none⟩:=by
  unfold Addr.add;split
  ·rename_i z;subst z;rfl
  ·simp
 rw[e,aA (heap_alloc_new _ _)];simpa using h
theorem abv{a:Addr}(h:w.cell? a=some v)(o:Obj):(w.alloc o).cell? a=some v:=by
 have z:a.block<w.heap.size:=by
  unfold World.cell? at h;rcases fQ a.block w.heap.size with z|z
  ·exact z
  ·rw[iQ z]at h;cases h
 unfold World.cell? at h⊢;rw[Go.RowKit.Below.heap_alloc _ _ _ z];exact h
theorem SV{B g:Nat}{W:World}(E:Below B W X)(R:B<=X.heap.size)(I:∀q,v.ownBlock=some q->B<=q)(z:Grew v g X w'):Below B W w'/\B<=g:=by
 refine⟨⟨z.jO.os.trans E.os,z.jO.tape.trans E.tape,z.jO.output.trans E.output,aW E.size z.jO.size,λq J=>(z.jO.block q (aH J R) (λe=>?_)).trans (E.block q J)⟩,?_⟩
 ·have:=I q e;omega
 ·rcases z.own with e|e
  ·exact I g e
  ·omega
theorem Xo{e E s s' n I g:Nat}{v':Value}{xs xs':List Value}(hg:Grew v g X w')(Y:Row X e s v n xs)(h:Row X E s' v' I xs')(z:E≠e):Row w' E s' v' I xs':=by
 refine h.kept λq hq=>?_;obtain⟨R,J⟩:=h.obj hq;rw[hg.keep Y J z,J]
def OA(c:Cf)(w wr:World)(p q:PU):Prop:=oU w q.2.2 q.1.logs/\(um w q.2.1 q.1.txs\/Row wr 68 3 q.2.1 q.1.txs.length (q.1.txs.flatMap mX))/\(q.1.txs.length<=4294967296/\q.1.logs.length<=4294967296)/\Dv.Alike c p.1 q.1/\Dv.small p.1=Dv.small q.1
structure Ri(c:Cf)(w:World)(ps qs:List PU)(i:Nat)(v:Value)(wr:World):Prop where
 len:qs.length=i
 row:Row wr 42 4 v i (qs.flatMap uX)
 own:∀g,v.ownBlock=some g->w.heap.size<=g
 each:∀(j:Nat)(p q:PU),ps[j]? =some p->qs[j]? =some q->OA c w wr p q
 bel:Below w.heap.size w wr
section
variable {c:Cf}{w wr X w5 V wx:World}{ps qs:List PU}{i g5 off5 cap5:Nat}{v:Value}{p q:PU}
theorem Ri.zero:Ri c w ps [] 0 (.slice none 0 0) w:=⟨rfl,Row.nil _ _ _,λg h=>(by simp[Value.ownBlock]at h),λj p q _ h=>(by simp at h),aB _ _⟩
theorem Ri.add(h:Ri c w ps qs i v wr)(R:Below wr.heap.size wr X)(I:Row w5 42 4 (.slice (some ⟨g5,off5,none⟩) (i+1) cap5) (i+1) (qs.flatMap uX++uX q))(hg:Grew v g5 X w5)(hp:ps[i]? =some p)(hq:OA c w X p q):Ri c w ps (qs++[q]) (i+1) (.slice (some ⟨g5,off5,none⟩) (i+1) cap5) w5:=by
 have J:=h.bel.trans (R.mono h.bel.size);have hl:=SV J J.size h.own hg;have E:∀{a b:PU},OA c w X a b->OA c w w5 a b:=λY=>⟨Y.1,Y.2.1.imp id (λI=>Xo hg (h.row.below R) I (by decide)),Y.2.2⟩
 refine⟨by simp[h.len],by simpa using I,λg e=>?_,λj p' q' hp' z=>?_,hl.1⟩
 ·simp only[Value.ownBlock,aC]at e;subst e;exact hl.2
 ·rcases fQ j qs.length with hj|hj
  ·rw[bP hj]at z;have:=h.each j p' q' hp' z;exact E ⟨this.1,this.2.1.imp id (λI=>I.below R),this.2.2⟩
  ·rw[bK hj]at z
   have h0:j-qs.length=0:=by
    have:=(aF.1 z).1;simp at this;omega
   rw[h0]at z;simp at z;subst z;obtain rfl:j=i:=by have:=h.len;omega
   rw[hp]at hp';cases hp';exact E hq
theorem Ri.ups(h:Ri c w ps qs ps.length v wr):lI wr v qs:=by
 refine⟨by rw[h.len];exact h.row.rd,λq E=>?_⟩;obtain⟨j,z⟩:=jv.1 E;have I:=(aF.1 z).1;obtain⟨J,h2,h3,_⟩:=h.each j _ q (aG (by rw[<-h.len];exact I)) z;exact⟨h2.elim (λe=>Rd.below e h.bel) Row.rd,Rd.below J h.bel,h3⟩
theorem Ri.same(h:Ri c w ps qs ps.length v wr):Dv.all c (ps.map Prod.fst)=Dv.all c (qs.map Prod.fst):=by
 refine Dv.O4 (by rw[aU,aU,h.len]) λj z=>?_;rw[aU]at z;have E:j<qs.length:=by rw[h.len];exact z
 have:=(h.each j _ _ (aG z) (aG E)).2.2.2;rw[getElem!_def,getElem!_def,eX,eX,aG z,aG E];exact this
variable {l L:List Tx}{k m:Nat}{t:Tx}
end
end
end Hm
namespace Fr
open Go.RowKit Go.Joins
theorem KP(s:ByteArray)(w:World)(hs:s.size<=1048576):Calls PQ 30 #[.string s] w λe w'=>ZE w.heap.size w' e (frames s.data.toList)/\Below w.heap.size w w':=by
 have z:=Uu s w hs;generalize frames s.data.toList=fr at z⊢;have R:Hid (Calls _ _ _ _ _):=z;clear z;go_enter (fq Tryz.func30 rfl),Tryz.ntmps30;go_wp2_with fail;refine aK R.out ?_;rintro e w' ⟨I,E⟩;cases fr with
 |none=>
  obtain rfl:=I;go_wp2;exact bodyPost_ret (v:=.tuple #[.slice none 0 0,.bool false]) (by simp[results,Tryz.results30,go_sem]) rfl ⟨rfl,E⟩
 |some l=>
  obtain⟨a,cap,rfl,J⟩:=I;go_wp2;exact bodyPost_ret (v:=.tuple #[.slice a l.length cap,.bool true]) (by simp[results,Tryz.results30,go_sem]) rfl ⟨⟨a,cap,rfl,J⟩,E⟩
end Fr
namespace Hm
open Go.RowKit Go.Joins Go.Shelf
open Fr (F frames cat zK flat)
open Dv (U Cf Tx)
section
variable {s:List UInt8}{l:List F}{w:World}{base e n:Nat}{v:Value}{xs:List Value}
theorem Nc{c:Cf}{fr tw:Nat}{m p:Nat}(h:frames s=some l)(E:1<=m)(h2:m<l.length)(hp:p=1+(cat (l.take m)).length):
  Dv.mG c ⟨fr,tw,s⟩=Dv.mG c ⟨fr,tw,s.take p⟩++Dv.mG c ⟨fr,tw,0::s.drop p⟩/\p<=s.length:=by
 subst hp;obtain⟨z,J,I⟩:=zK h E h2;refine⟨?_,I⟩;unfold Dv.mG;dsimp only;split
 ·rw[h,z,J];simp
 ·rfl
theorem TK{j:Nat}{x:F}(I:l[j]? =some x):(cat (l.take (j+1))).length=(cat (l.take j)).length+9+x.data.length:=by
 have E:l.take (j+1)=l.take j++[x]:=by
  obtain⟨z,rfl⟩:=aF.1 I;exact dZ z
 rw[E];unfold cat;rw[gX,aJ];simp[Fr.lZ];omega
theorem NV:∀l:List F,flat l=l.flatMap Fr.qN
 |[]=>rfl
 |x::l=>by rw[flat,NV l,gQ]
theorem LD(h:frames s=some l):l.length<=s.length:=by
 obtain⟨hs,_,_⟩:=Fr.rQ h
 have:∀m:List F,m.length<=(cat m).length:=λm=>by
  induction m with
  |nil=>simp
  |cons x m ih=>
   have:cat (x::m)=Fr.enc x++cat m:=by simp[cat]
   rw[this,aJ,Fr.lZ,aN];omega
 have:=this l;rw[hs,aN];omega
theorem Yk{B:ByteArray}{l:List UInt8}(h:B.data.toList=l):(⟨l.toArray⟩:ByteArray)=B:=by
 subst h;simp
theorem Ul{s:Nat}(h:w.ownsRow base e s v n xs):∀g,v.ownBlock=some g->base<=g:=λg z=>by
 rcases h.2 with⟨rfl,_⟩|⟨g',cap,E,rfl,I,_⟩
 ·simp[Value.ownBlock]at z
 ·simp[Value.ownBlock]at z;omega
theorem YR{s:Nat}(h:w.ownsRow base e s v n xs):∀g,v.ownBlock=some g->g<w.heap.size:=λ_ z=>(Row.Ce h).lt z
theorem EC{B:Nat}{W X w':World}(z:Below B W X)(Y:B<=X.heap.size)(J:∀q,v.ownBlock=some q->B<=q)(R:X.grownBy w' v.ownBlock):Below B W w':=by
 have E:=jJ.grown R;refine⟨E.os.trans z.os,E.tape.trans z.tape,E.output.trans z.output,aW z.size E.size,λq I=>(E.block q (aH I Y) (λe=>?_)).trans (z.block q I)⟩;have:=J q e;omega
structure XT(c:Cf)(V:World)(l:List Tx)(k:Nat)(L:List Tx)(v:Value)(wx:World):Prop where
 own:wx.ownsRow V.heap.size 68 3 v L.length (L.flatMap mX)
 bel:Below V.heap.size V wx
 heard:Dv.heard c L=Dv.heard c (l.take k)
 small:L.all (λt=>decide (t.data.length<=2000))=(l.take k).all (λt=>decide (t.data.length<=2000))
 few:l.length<=20->L.length+(l.length-k)<=20
 many:20<l.length->L.length=k
section
variable {c:Cf}{V wx w5:World}{l L ns:List Tx}{k:Nat}{t:Tx}{v v':Value}
theorem XT.zero:XT c V l 0 [] (.slice none 0 0) V:=⟨⟨by simp,.inl ⟨rfl,rfl⟩⟩,aB _ _,by simp,by simp,λh=>by simpa using h,λ_=>rfl⟩
theorem XT.step(h:XT c V l k L v wx)(ht:l[k]? =some t)(Y:w5.ownsRow V.heap.size 68 3 v' (L++ns).length ((L++ns).flatMap mX))(hb:Below V.heap.size V w5)(J:Dv.heard c ns=Dv.mG c t)(e2:ns.all (λt=>decide (t.data.length<=2000))=decide (t.data.length<=2000))(e3:ns.length=1\/(ns.length=2/\L.length+(l.length-k)<20)):XT c V l (k+1) (L++ns) v' w5:=by
 have hk:=(aF.1 ht).1
 have z:l.take (k+1)=l.take k++[t]:=by
  obtain⟨E,rfl⟩:=aF.1 ht;exact dZ E
 refine⟨Y,hb,?_,?_,λI=>?_,λI=>?_⟩
 ·rw[z];have R:=h.heard;unfold Dv.heard at R J⊢;rw[gX,gX,R,J];simp
 ·rw[z,List.all_append,List.all_append,h.small,e2];simp
 ·have:=h.few I;rw[aJ];omega
 ·have:=h.many I;rw[aJ];omega
theorem XT.loud(h:XT c V l k L v wx)(hk:l.length<=k)(a b:Int)(s:List (List UInt8)):Dv.Alike c ⟨a,b,l,s⟩ ⟨a,b,L,s⟩/\Dv.small ⟨a,b,l,s⟩=Dv.small ⟨a,b,L,s⟩:=by
 have E:=h.heard;have h2:=h.small;have h3:=h.few;have h4:=h.many;rw[dV hk]at E h2;refine⟨⟨⟨rfl,rfl,rfl⟩,E.symm⟩,?_⟩;unfold Dv.small;dsimp only;rw[h2]
 have e:decide (L.length<=20/\s.length<=20)=decide (l.length<=20/\s.length<=20):=by
  by_cases z:l.length<=20
  ·have:=h3 z;simp[z,show L.length<=20 by omega]
  ·have:=h4 (by omega);have:¬L.length<=20:=by omega
   simp[z,this]
 rw[e]
end
noncomputable def Um:Code:=match Tryz.f9.body with
 |some (.seq c _)=>c
 |_=>.skip
noncomputable def Qc:Code:=match Tryz.f9.body with
 |some (.seq _ (.seq c _))=>c
 |_=>.skip
noncomputable def Vk:Code:=match Tryz.f9.body with
 |some (.seq _ (.seq _ (.seq c _)))=>c
 |_=>.skip
noncomputable def Ur:Code:=match Tryz.f9.body with
 |some (.seq _ (.seq _ (.seq _ (.seq c _))))=>c
 |_=>.skip
noncomputable def paL:Code:=match Tryz.f9.body with
 |some (.seq _ (.seq _ (.seq _ (.seq _ (.seq c _)))))=>c
 |_=>.skip
noncomputable def ET:Code:=match Tryz.f9.body with
 |some (.seq _ (.seq _ (.seq _ (.seq _ (.seq _ (.seq c _))))))=>c
 |_=>.skip
theorem Ou:Tryz.f9.body=some (.seq Um (.seq Qc (.seq Vk (.seq Ur (.seq paL (.seq ET .ret)))))):=by kernel_rfl
end
open Fr (below_drewN F frames cat flat)
def np(R:Act->World->Prop):Exit->Act->World->Prop
 |.normal,a,w=>R a w
 |_,_,_=>False
theorem Wj{tm:Array Value}(c:Cf)(vc ic:Nat)(xa ia:Option Addr)(ps:List PU)(is:List Int)(w:World){u3:Value}(hs:tm.size=142)(t1:tm[1]? =some (.slice xa ps.length vc))(t2:tm[2]? =some (.slice ia is.length ic))(t3:tm[3]? =some u3)(t8:tm[8]? =some (.slice none 0 0))
  (aq:lI w (.slice xa ps.length vc) ps) (de:ps.length<=4294967296) (aw:∀p∈ps,∀t∈p.1.txs,t.data.length<=1048576) (ak:Rd w 1 (.slice ia is.length ic) is.length (is.map (.int .i64))) (dm:is.length<=4294967296) (am:∀i,-9223372036854775808<=Ky is i/\Ky is i<=9223372036854775807) {Q:Exit->Act->World->Prop}
  (hQ:∀(a7:Array Value)(W:World)(qs:List PU)(ra:Option Addr)(rc:Nat),a7.size=142->a7[1]? =some (.slice xa ps.length vc)->a7[3]? =some u3->a7[8]? =some (.slice ra ps.length rc)->Ri c w ps qs ps.length (.slice ra ps.length rc) W->Q .normal { tmps:=a7,defers:=[] } W):paL.wp PQ Q { tmps:=tm,defers:=[] } w:=by
 obtain⟨l,rfl⟩:∃l:List Value,tm=l.toArray:=⟨tm.toList,by simp⟩
 replace hs:l.length=142:=by simpa using hs
 iterate 142 (obtain⟨_,l,rfl,h⟩:=Wp hs;clear hs;have hs:=h;clear h)
 obtain rfl:=List.length_eq_zero_iff.1 hs;clear hs;simp only[dY,dX,dQ,aC]at t1 t2 t3 t8;subst t1 t2 t3 t8;refine wp_mono (Q:=np λa w=>Q .normal a w) ?_ (λex a w h=>by cases ex<;>first|exact h|exact h.elim)
 as_aux_lemma=>
  obtain⟨m,hm⟩:∃m,ps.length=m:=⟨_,rfl⟩
  obtain⟨ni,an⟩:∃m,is.length=m:=⟨_,rfl⟩
  have HQ:Hid _:=hQ;have H:Hid _:=jw aq (jw aw (jw ak (jw am (jw hm an))));rw[hm]at de;rw[an]at dm;clear aq aw ak am hQ;rw[hm,an];clear hm an;obtain⟨iu,b3,cl,bx,cc⟩:=info_parts vP;obtain⟨it,ci,b0,bz,cr⟩:=info_parts Xz;have Hu:Hid _:=jw b3 (jw cl (jw bx cc));have Ht:Hid _:=jw ci (jw b0 (jw bz cr));clear b3 cl bx cc ci b0 bz cr;simp only[paL,Tryz.f9];go_wp2_with fail;go_loopg [8,9] m (λgg v8 v9 wr=>∃(i:Nat)(qs:List PU)(ra:Option Addr)(rc:Nat),i<=m/\v9=.int .i64 i/\v8=.slice ra i rc/\gg=m-i/\Hid (Ri c w ps qs i (.slice ra i rc) wr))
  case atStart=>exact⟨0,[],none,0,dF _,rfl,rfl,rfl,Ri.zero⟩
  case round=>
   obtain⟨i,qs,ra,rc,hi,rfl,rfl,rfl,HI⟩:=hrel;by_cases d7:i<m
   ·have cn:(i:Int)<m:=by omega
    obtain⟨aq,aw,ak,am,hm,an⟩:=H.out;obtain⟨⟨⟨bb,ut,bd,ul⟩,vt,vl⟩,hp⟩:∃x,ps[i]? =some x:=⟨_,aG (by omega)⟩
    have z:=aq.2 _ (aQ hp);have ah:=aw _ (aQ hp);dsimp only at z ah;obtain⟨ta,tc,b4⟩:=Rd.slice z.1;obtain⟨la,lc,cg⟩:=Rd.slice z.2.1;dsimp only at b4 cg;subst b4 cg;obtain⟨g,off,cap,hv,_⟩:=aq.1.pos (by omega);simp only[Value.slice.injEq,true_and]at hv;obtain⟨rfl,rfl⟩:=hv;obtain⟨d0,d1,d2,d3⟩:=(aq.below HI.out.bel).get hp;dsimp only at d0 d1 d2 d3;obtain⟨N,hN⟩:∃N,bd.length=N:=⟨_,rfl⟩
    obtain⟨nl,a8⟩:∃N,ul.length=N:=⟨_,rfl⟩
    rw[hN]at d2;rw[a8]at d3;have dz:N<=4294967296:=by rw[<-hN];exact z.2.2.1
    have HP:Hid _:=jw hp (jw z (jw hN (jw a8 ah)));have bj:Hid _:=λ(V:World)(hV:Below wr.heap.size wr V)=>HI.out.row.below hV;obtain⟨X,hX,av,x1⟩:=jE wr #[.int .i64 bb,.int .i64 ut,.slice ta N tc,.slice la nl lc] 42;have R:Below w.heap.size w X:=HI.out.bel.trans (av.mono HI.out.bel.size);clear aq aw ak am hm an hp z hN a8 ah;go_wp2_with fail;rw[<-hX];obtain⟨b,hb⟩:∃b,wr.heap.size=b:=⟨_,rfl⟩
    rw[hb]at x1 av bj⊢;have cv:b<X.heap.size:=(jC x1)
    have di:Hid _:=jw x1 (jw av (jw R hb));clear hX x1 av R hb d0 d1 d2 d3;go_loopg [11,12] N (λgg cw dj wx=>∃(k:Nat)(L:List Tx)(sa:Option Addr)(sc:Nat),k<=N/\dj=.int .i64 k/\cw=.slice sa L.length sc/\gg=N-k/\Hid (XT c X bd k L (.slice sa L.length sc) wx))
    case atStart=>exact⟨0,[],none,0,dF _,rfl,rfl,rfl,XT.zero⟩
    case round=>
     obtain⟨k,L,sa,sc,hk,rfl,rfl,rfl,HJ⟩:=hrel;obtain⟨x1,av,R,hb⟩:=di.out;have x1:=(HJ.out.bel.block _ cv).trans x1;obtain⟨-,-,z2⟩:=cells3 x1;by_cases dx:k<N
     ·have b2:(k:Int)<N:=by omega
      obtain⟨hp,z,hN,a8,ah⟩:=HP.out;obtain⟨⟨fr,tw,dt⟩,ht⟩:∃x,bd[k]? =some x:=⟨_,aG (by omega)⟩
      obtain⟨tg,du,dw,hv,_⟩:=Rd.pos z.1 (show 0<bd.length by omega);simp only[Value.slice.injEq,true_and]at hv;obtain⟨rfl,rfl⟩:=hv;obtain⟨e0,e1,e2⟩:=um.get (Rd.below z.1 (R.trans (HJ.out.bel.mono R.size))) ht;dsimp only at e0 e1 e2;obtain⟨I,hD⟩:∃D:ByteArray,(⟨dt.toArray⟩:ByteArray)=D:=⟨_,rfl⟩
      rw[hD]at e2;have ab:I.data.toList=dt:=by rw[<-hD]
      have ca:I.size<=1048576:=by rw[<-hD];exact ah _ (aQ ht)
      obtain⟨Y,hY,ax,y⟩:=jE wr #[.int .u32 fr,.int .u32 tw,.string I] 68;obtain⟨fs,aa⟩:∃fs,(frames dt).getD []=fs:=⟨_,rfl⟩
      obtain⟨ok,af⟩:∃ok,(frames dt).isSome=ok:=⟨_,rfl⟩
      obtain⟨fl,ag⟩:∃n,fs.length=n:=⟨_,rfl⟩
      have dq:fl<=1048576:=by
       have ea:dt.length<=1048576:=by rw[<-ab];exact ca
       rw[<-ag,<-aa];cases hr:frames dt with
       |none=>simp
       |some l=>
        have:=LD hr;simp;omega
      have d1:Calls PQ 30 #[.string I] Y λe w'=>∃a cap,e=.returned (.tuple #[.slice a fl cap,.bool ok])/\Hid (w'.ownsRow Y.heap.size 81 4 (.slice a fl cap) fl (flat fs))/\Below Y.heap.size Y w':=by
       refine aK (Fr.KP I Y ca) ?_;rintro e w' ⟨hg,a4⟩;rw[ab]at hg;subst aa af ag;cases hr:frames dt with
       |none=>
        rw[hr]at hg;exact⟨none,0,hg,⟨by simp[flat],.inl ⟨rfl,rfl⟩⟩,a4⟩
       |some l=>
        rw[hr]at hg;obtain⟨a,cap,rfl,ho⟩:=hg;exact⟨a,cap,rfl,ho,a4⟩
      have D1:Hid _:=d1;have HF:Hid _:=jw aa (jw af (jw ag (jw ab (jw ht (jw hN hD)))));obtain⟨sk,a9⟩:∃b,(!ok || (decide (fl<2) || (decide (2000<I.size) || decide (20<=L.length+(N-k)))))=b:=⟨_,rfl⟩
      have db:Hid _:=jw ax R
      have cm:L.length<=4294967296:=by
       have:=HJ.out.few;have:=HJ.out.many;omega
      have Z2:=abv z2;clear hp z hN a8 ah ht hD ab aa af ag d1 x1 av R hb;go_upto_region 15 with fail;rw[<-hY];obtain⟨q,hq⟩:∃q,wr.heap.size=q:=⟨_,rfl⟩
      rw[hq]at y⊢;have cu:q<Y.heap.size:=(jC y)
      obtain⟨-,-,Y2⟩:=cells3 y;have Hq:Hid _:=hq;clear hY e0 e1 e2 z2 Z2 ax hq;go_upto_region 16 with(go_at_call 30;refine aK D1.out ?_;rintro e w1 ⟨fa,fc,rfl,O1,b1⟩;have yw:=(b1.block _ cu).trans y;have y0:w1.cell? ⟨q,0,none⟩=some (.int .u32 fr):=(by rw[aA yw];rfl);have y1:w1.cell? ⟨q,1,none⟩=some (.int .u32 tw):=(by rw[aA yw];rfl);have y2:w1.cell? ⟨q,2,none⟩=some (.string I):=(by rw[aA yw];rfl);have dh:Hid _:=jw b1 yw;clear b1 yw)
      go_cut [75] from 33 to 131 (λv wx=>v=.bool sk/\wx=w1)
      case first=>
       have HS:Hid _:=a9;clear a9;cases ok
       ·go_wp2_with fail;go_meet
        case rel=>exact⟨congrArg Value.bool (by rw[<-HS.out];rfl),rfl⟩
       ·by_cases h1:fl<2
        ·have q1:decide ((fl:Int)<2)=true:=decide_eq_true (by omega);have q2:(fl:Int)<2:=by omega
         have HT:Hid _:=h1;clear h1;go_wp2_with fail;go_meet
         case rel=>exact⟨congrArg Value.bool (by rw[<-HS.out];simp[HT.out]),rfl⟩
        ·have q1:decide ((fl:Int)<2)=false:=decide_eq_false (by omega);have q2:¬(fl:Int)<2:=by omega
         by_cases h2:2000<I.size
         ·have q3:decide ((2000:Int)<(I.size:Int))=true:=decide_eq_true (by omega);have q4:(2000:Int)<(I.size:Int):=by omega
          have HT:Hid _:=h2;clear h1 h2;go_wp2_with fail;go_meet
          case rel=>exact⟨congrArg Value.bool (by rw[<-HS.out];simp[HT.out]),rfl⟩
         ·have q3:decide ((2000:Int)<(I.size:Int))=false:=decide_eq_false (by omega);have q4:¬(2000:Int)<(I.size:Int):=by omega
          obtain⟨b,a4⟩:∃b,decide (20<=L.length+(N-k))=b:=⟨_,rfl⟩
          have q5:decide ((20:Int)<=(L.length:Int)+((N:Int)-(k:Int)))=b:=by
           rw[<-a4];exact decide_eq_decide.2 (by omega)
          have HT:Hid _:=jw h1 (jw h2 a4);clear h1 h2 a4;go_wp2_with fail;go_meet
          case rel=>exact⟨congrArg Value.bool (by rw[<-HS.out];simp[HT.out]),rfl⟩
      case rest=>
       obtain⟨rfl,dg⟩:=hcut;obtain rfl:w1=wc:=dg.symm;obtain⟨b1,yw⟩:=dh.out;obtain⟨ax,R⟩:=db.out;have br:=HJ.out.bel.size;have ac:=ax.trans (b1.mono ax.size);have s1:=ac.size;have bm:Hid _:=λ(V:World)(hV:Below w1.heap.size w1 V)=>Fr.own_below HJ.out.own (ac.trans (hV.mono s1));have bn:Hid _:=λ(V w5:World)(hV:Below w1.heap.size w1 V)(hg:V.grownBy w5 (Value.ownBlock (.slice sa L.length sc)))=>EC (HJ.out.bel.trans ((ac.trans (hV.mono s1)).mono br)) (aW br (aW s1 hV.size)) (Ul HJ.out.own) hg;cases sk
       ·simp at a9;obtain⟨cj,h2,h3,h4⟩:=a9;obtain⟨aa,af,ag,ab,ht,hN,hD⟩:=HF.out
        have hR:frames dt=some fs:=by
         cases hr:frames dt with
         |none=>rw[hr,cj]at af;cases af
         |some l=>rw[hr]at aa;simp at aa;rw[aa]
        have ap:I.size=dt.length:=by rw[<-ab];rfl
        obtain⟨f,hf⟩:∃f:Nat->Nat,f=λj=>1+(cat (fs.take j)).length:=⟨_,rfl⟩
        have f0:f 0=1:=by rw[hf];simp[cat]
        have E:∀j x,fs[j]? =some x->f (j+1)=f j+9+x.data.length:=λj x hx=>by
         rw[hf];dsimp only;rw[TK hx];omega
        have ae:∀j,f j<=I.size:=λj=>by
         obtain⟨hs,_,_⟩:=Fr.rQ hR;have:cat fs=cat (fs.take j)++cat (fs.drop j):=by unfold cat;rw[<-gX,List.take_append_drop]
         rw[ap,hs,aN,this,aJ,hf];dsimp only;omega
        obtain⟨_,_,ak,am,_,an⟩:=H.out;have az:=am k;obtain⟨a0,bu⟩:∃a0,Ky is k=a0:=⟨_,rfl⟩
        rw[bu]at az;have dl:=Yy (c:=a0) (n:=(fl:Int)-1) (by omega);obtain⟨r,hr⟩:∃r:Nat,(r:Int)=pk a0 ((fl:Int)-1):=⟨(pk a0 ((fl:Int)-1)).toNat,by omega⟩
        have c3:r+1<fl:=by omega
        have ai:=HJ.out.bel.trans (ac.mono br);have bh:=Ze _ is k w1 (Rd.below ak (R.trans (ai.mono R.size))) (by omega);have ay:=pick_any a0 ((fl:Int)-1) w1 (by omega) (by omega) az.1 az.2;rw[bu]at bh;simp only[an]at bh;rw[<-hr]at ay;obtain⟨fg,dr,co,_,_⟩:=O1.out.form (by omega);simp only[Value.slice.injEq,true_and]at co;obtain⟨rfl,rfl⟩:=co
        have ao:∀j x,fs[j]? =some x->w1.cell? ⟨fg,j*4+2,none⟩=some (.string ⟨x.data.toArray⟩):=λj x hx=>by
         have h:=(Row.Ce O1.out).cell rfl (j*4+2) (.string ⟨x.data.toArray⟩) (by rw[NV,flat_get Fr.qN 4 (λ_=>rfl) fs j 2 x hx (by decide)];rfl);rwa[fC]at h
        have cx:Hid _:=λ(_:Unit)=>bh;have bo:Hid _:=λ(_:Unit)=>ay;have HG:Hid _:=jw hR (jw hf (jw E (jw ao (jw ae (jw ai (jw ap (jw yw ac)))))));have d9:=ae 0;clear bh ay dl hr bu az ak am an aa af ag ab ht hN hD hR hf E ao ae ai ap b1 yw ax R ac;go_wp2_with (first|(go_at_call 24;refine aK (cx.out ()) ?_;rintro e w2 ⟨rfl,a5⟩;obtain rfl:w1=w2:=a5.symm;clear a5)|(go_at_call 22;refine aK (bo.out ()) ?_;rintro e w2 ⟨rfl,a5⟩;obtain rfl:w1=w2:=a5.symm;clear a5))
        go_loopg [17,19] (r+1) (λgg c4 cz wx=>∃j:Nat,j<=r+1/\cz=.int .i64 j/\c4=.int .i64 (f j:Nat)/\gg=r+1-j/\wx=w1)
        case atStart=>exact⟨0,dF _,rfl,by rw[f0];rfl,rfl,rfl⟩
        case round=>
         obtain⟨j,hj,rfl,rfl,rfl,c6⟩:=hrel;obtain rfl:w1=wr:=c6.symm;obtain⟨hR,hf,E,ao,ae,ai,ap,yw,ac⟩:=HG.out;obtain⟨aa,af,ag,ab,ht,hN,hD⟩:=HF.out;by_cases d8:j<r+1
         ·have cq:(j:Int)<1+(r:Int):=by omega
          obtain⟨x,hx⟩:∃x,fs[j]? =some x:=⟨_,aG (by omega)⟩
          have k2:=ao j x hx;have f1:=E j x hx;have f2:=ae (j+1);have f3:=ae j;obtain⟨XB,bq⟩:∃XB:ByteArray,(⟨x.data.toArray⟩:ByteArray)=XB:=⟨_,rfl⟩
          rw[bq]at k2;have bg:x.data.length=XB.size:=by rw[<-bq];rfl
          rw[bg]at f1;obtain⟨fj,cd⟩:∃n,f j=n:=⟨_,rfl⟩
          rw[cd]at f1 f3⊢;have HT:Hid _:=f1;clear hR hf E ao ae ai ap yw ac aa af ag ab ht hN hD hx bq bg cd f0;go_wp2_with fail;go_roundg (r+1-(j+1))
          case measure=>omega
          case rel=>exact⟨j+1,by omega,by go_num,congrArg (Value.int .i64) (by rw[HT.out];omega),rfl,rfl⟩
         ·have cq:¬(j:Int)<1+(r:Int):=by omega
          obtain rfl:j=r+1:=by omega
          obtain⟨p,hp⟩:∃p,f (r+1)=p:=⟨_,rfl⟩
          have ck:=ae (r+1);rw[hp]at ck⊢;have b5:decide ((I.size:Int)<p)=false:=decide_eq_false (by omega);have b6:¬(I.size:Int)<p:=by omega
          have b7:(p:Int)<=I.size:=by omega
          have b8:(0:Int)<=(p:Int):=by omega
          have b9:¬9223372036854775807<1+(I.size-p):=by omega
          clear hR hf E ao ae ai ap yw ac aa af ag ab ht hN hD f0;have dk:Hid _:=λ(o:Obj)=>bm.out (w1.drew.alloc o) (((aB _ w1).drew).alloc jA o);go_upto_region 26 with fail;go_cut [11] from 33 to 131 (λv wx=>∃g5 J:Nat,v=.slice (some ⟨g5,0,none⟩) (L.length+1) J/\Hid (∃o:Obj,wx.ownsRow X.heap.size 68 3 (.slice (some ⟨g5,0,none⟩) (L.length+1) J) (L.length+1) (L.flatMap mX++[.int .u32 fr,.int .u32 tw,.string (I.extract 0 p)])/\(w1.drew.alloc o).grownBy wx (Value.ownBlock (.slice sa L.length sc))))
          case first=>
           as_aux_lemma=>
            go_region_law ((refine step_append_lies _ (by rfl) (.tmp 107) (.tmp 117) 39 (by rfl) X.heap.size 68 it _ 3 24 (uq Tryz.underlying39) Ht.out.1 Ht.out.2.1 Ht.out.2.2.1 Ht.out.2.2.2 (by rfl) (by decide) _ L.length _ (by rfl) (dk.out _) ⟨w1.heap.size,0,none⟩ 1 1 [.int .u32 fr,.int .u32 tw,.string (I.extract 0 p)] (by rfl) (by rfl) (by intro j u hj;match j,hj with|0,hj=>(simp at hj;subst hj;simp[Addr.add])|1,hj=>(simp at hj;subst hj;simp[Addr.add])|2,hj=>(simp at hj;subst hj;simp[Addr.add])) (by intro u hu;simp at hu;rcases hu with rfl|rfl|rfl<;>rfl) (by decide) (by unfold maxLen;omega) (by omega) (by simp;omega) (w1.heap.size+1) (by simp) ?_;intro g5 J w5 aj ar _ _;have au:Hid _:=jw aj ar;clear aj ar))
            all_goals
             go_wp2_with fail;go_meet
             case rel=>exact⟨g5,J,rfl,_,au.out.1,au.out.2⟩
          case rest=>
           as_aux_lemma=>
            obtain⟨g5,J,rfl,HK⟩:=hcut;obtain⟨o5,aj,ar⟩:=HK.out;obtain⟨hR,hf,E,ao,ae,ai,ap,yw,ac⟩:=HG.out;have hq:=Hq.out;have ba:Below w1.heap.size w1 (w1.drew.alloc o5):=((aB _ w1).drew).alloc jA o5;have bs:q<w1.heap.size:=(jC yw)
            have yc:wc.heap[q]? =some (.cells #[.int .u32 fr,.int .u32 tw,.string I] 68 (0,0)):=by
             refine((jJ.grown ar).block q (aH bs ba.size) (λe=>?_)).trans ((ba.block q bs).trans yw);have:=YR HJ.out.own q e;omega
            obtain⟨y0,y1,y2⟩:=cells3 yc;have bv:=bn.out _ _ ba ar;have bg:=bv.size;have ct:Hid _:=λ(o:Obj)=>Fr.own_below aj (((aB _ wc).drew).alloc jA o);have cy:Hid _:=λ(o:Obj)(w6:World)(hg:(wc.drew.alloc o).grownBy w6 (Value.ownBlock (.slice (some ⟨g5,0,none⟩) (L.length+1) J)))=>EC ((bv.drew).alloc bg o) (by simp;omega) (Ul aj) hg;clear hR hf E ao ae ai ap yw ac hq ba bs yc bv aj ar;go_upto_region 27 with fail;go_region_law ((refine step_append_lies _ (by rfl) (.tmp 119) (.tmp 130) 39 (by rfl) X.heap.size 68 it _ 3 24 (uq Tryz.underlying39) Ht.out.1 Ht.out.2.1 Ht.out.2.2.1 Ht.out.2.2.2 (by rfl) (by decide) _ (L.length+1) _ (by rfl) (ct.out _) ⟨wc.heap.size,0,none⟩ 1 1 [.int .u32 fr,.int .u32 tw,.string (⟨#[0]⟩++I.extract p I.size)] (by rfl) (by rfl) (by intro j u hj;match j,hj with|0,hj=>(simp at hj;subst hj;simp[Addr.add])|1,hj=>(simp at hj;subst hj;simp[Addr.add])|2,hj=>(simp at hj;subst hj;simp[Addr.add])) (by intro u hu;simp at hu;rcases hu with rfl|rfl|rfl<;>rfl) (by decide) (by unfold maxLen;omega) (by omega) (by simp;omega) (wc.heap.size+1) (by simp) ?_;intro g6 bw w6 cb cf _ _;have ce:Hid _:=jw cb cf;clear cb cf))
            all_goals
             go_wp2_with fail;go_roundg (N-(k+1))
             case measure=>omega
             case rel=>
              obtain⟨hR,hf,E,ao,ae,ai,ap,yw,ac⟩:=HG.out;obtain⟨aa,af,ag,ab,ht,hN,hD⟩:=HF.out;have c5:p=1+(cat (fs.take (r+1))).length:=by rw[<-hp,hf]
              have hh:=Nc (c:=c) (fr:=fr) (tw:=tw) hR (show 1<=r+1 by omega) (by rw[ag];exact c3) c5;have c1:(⟨(dt.take p).toArray⟩:ByteArray)=I.extract 0 p:=Yk (by rw[ext_list,ab];simp);have c2:(⟨(0::dt.drop p).toArray⟩:ByteArray)=⟨#[0]⟩++I.extract p I.size:=Yk (by rw[ByteArray.data_append,Array.toList_append,ext_list,ab,dV (by omega)];rfl)
              have e:(L++[(⟨fr,tw,dt.take p⟩:Tx),⟨fr,tw,0::dt.drop p⟩]).flatMap mX=L.flatMap mX++[.int .u32 fr,.int .u32 tw,.string (I.extract 0 p)]++[.int .u32 fr,.int .u32 tw,.string (⟨#[0]⟩++I.extract p I.size)]:=by
               rw[<-c1,<-c2,gX];simp[mX]
              refine⟨k+1,L++[(⟨fr,tw,dt.take p⟩:Tx),⟨fr,tw,0::dt.drop p⟩],some ⟨g6,0,none⟩,bw,by omega,by go_num,by simp,rfl,?_⟩;refine HJ.out.step ht (by rw[e,aJ];exact ce.out.1) (cy.out _ _ ce.out.2) ?_ ?_ (.inr ⟨rfl,by rw[hN];exact h4⟩)
              ·rw[hh.1];simp[Dv.heard]
              ·have a1:(dt.take p).length<=2000:=by rw[aZ];omega
               have a2:(0::dt.drop p).length<=2000:=by rw[aN,dP];omega
               have a3:dt.length<=2000:=by omega
               simp only[List.all_cons,List.all_nil,Bool.and_true,decide_eq_true a1,decide_eq_true a2,decide_eq_true a3]
       ·clear b1 yw ax R ac;go_wp2_with (first|(at_builtin;refine wpList_append_lies _ rfl (.tmp 76) (.tmp 78) 39 rfl X.heap.size 68 it _ 3 24 (uq Tryz.underlying39) Ht.out.1 Ht.out.2.1 Ht.out.2.2.1 Ht.out.2.2.2 rfl (by decide) _ L.length _ rfl (bm.out _ ((aB _ w1).alloc jA _)) ⟨w1.heap.size,0,none⟩ 1 1 [.int .u32 fr,.int .u32 tw,.string I] rfl rfl (λj u hj=>Fp rfl j u hj) (by intro u hu;simp at hu;rcases hu with rfl|rfl|rfl<;>rfl) (by decide) (by unfold maxLen;omega) (by omega) (by simp;omega) _ rfl ?_;intro g5 J w5 aj ar _ _;have au:Hid _:=jw aj ar;clear aj ar)|go_in)
        go_roundg (N-(k+1))
        case measure=>omega
        case rel=>
         obtain⟨_,_,_,_,ht,_,rfl⟩:=HF.out;have e:(L++[(⟨fr,tw,dt⟩:Tx)]).flatMap mX=L.flatMap mX++[.int .u32 fr,.int .u32 tw,.string ⟨dt.toArray⟩]:=by rw[gX];simp[mX]
         refine⟨k+1,L++[(⟨fr,tw,dt⟩:Tx)],some ⟨g5,0,none⟩,J,by omega,by go_num,by simp,rfl,?_⟩;exact HJ.out.step ht (by rw[e,aJ];exact au.out.1) (bn.out _ _ ((aB _ w1).alloc jA _) au.out.2) (by simp[Dv.heard]) (by simp) (.inl rfl)
     ·have b2:¬(k:Int)<N:=by omega
      obtain rfl:k=N:=by omega
      obtain⟨z0,z1,-,z3⟩:=cells4 x1;have fz:=aI x1;have bp:=av.trans (HJ.out.bel.mono (by omega));have cp:Hid _:=λ(v:Value)(o:Obj)=>(bp.setCell (p:=⟨b,2,none⟩) (Nat.le_refl b) v).alloc (by rw[World.size_setCell];have:=bp.size;omega) o;have c9:Hid _:=jw x1 hb;clear x1 av R hb bp;go_wp2_with (first|(at_builtin;refine lG _ rfl (.tmp 134) (.tmp 136) 25 rfl 42 iu _ 4 64 (uq Tryz.underlying25) Hu.out.1 Hu.out.2.1 Hu.out.2.2.1 Hu.out.2.2.2 rfl (by decide) _ i _ rfl (bj.out _ (cp.out _ _)) ⟨wr.heap.size,0,none⟩ 1 1 [.int .i64 bb,.int .i64 ut,.slice sa L.length sc,.slice la nl lc] rfl (by decide) rfl (λj u hj=>Fp (by simp) j u hj) (by intro u hu;simp at hu;rcases hu with rfl|rfl|rfl|rfl<;>rfl) (by unfold maxLen;omega) (by omega) ?_;intro g5 dv J w5 a6 bk;have au:Hid _:=jw a6 bk;clear a6 bk)|go_in)
      go_roundg (m-(i+1))
      case measure=>omega
      case rel=>
       obtain⟨hp,z,rfl,rfl,_⟩:=HP.out;obtain⟨x1,hb⟩:=c9.out;have bl:=Row.Ce HJ.out.own
       have cm:L.length<=4294967296:=by
        have:=HJ.out.few;have:=HJ.out.many;omega
       refine⟨i+1,_,_,_,by omega,by go_num,rfl,rfl,HI.out.add (q:=(⟨bb,ut,L,ul⟩,.slice sa L.length sc,.slice la ul.length lc)) (by rw[hb];exact cp.out _ _) au.out.1 au.out.2 hp ⟨z.2.1,.inr (Row.below (Row.kept bl λg hg=>?_) ((aB _ _).alloc jA _)),⟨cm,z.2.2.2⟩,HJ.out.loud jA bb ut ul⟩⟩;refine aP _ _ _ _ λe=>?_;obtain⟨dy,hc⟩:=bl.obj hg;dsimp only at e;subst e;rw[x1]at hc;simp at hc
   ·have cn:¬(i:Int)<m:=by omega
    obtain rfl:i=m:=by omega
    obtain⟨aq,aw,ak,am,rfl,rfl⟩:=H.out;have dd:=HI.out;clear aq aw ak am;go_wp2_with fail;exact HQ.out _ _ qs ra rc rfl rfl rfl rfl dd
end Hm
namespace Pa
open Go Go.Conc Go.RowKit Go.Joins
open Hm (ptr jG jZ oC lI PU Um Qc Vk Ur paL ET Rd Ky)
open Dv (U Cf Tx)
open Po hiding U H B IT PR NB
section
noncomputable def TU:Array Oper:=match Qc with
 |.region _ ops _=>ops
 |_=>#[]
theorem Xp:∃z,Qc=.region z TU false:=⟨_,rfl⟩
theorem JF:List.range TU.size=[0,1]:=by kernel_rfl
noncomputable def MJ:Array Oper:=match ET with
 |.region _ ops _=>ops
 |_=>#[]
theorem UF:∃z,ET=.region z MJ false:=⟨_,rfl⟩
theorem Gy:List.range MJ.size=[0,1,2,3,4]:=by kernel_rfl
theorem Ov{w w':World}{s n:Nat}{v:Value}{xs:List Value}(h:Rd w s v n xs)(z:jZ (λ_=>False) w w'):Rd w' s v n xs:=Hm.Rd.kept h z.size (λ_ g _ E=>z.block g E (λe=>e))
section
variable {Post:EO}{D:Nat->Prop}{w:World}{c:Cf}{ps:List PU}{is:List Int}{xa ia:Option Addr}{vc ic:Nat}
theorem O7(rd:Cr.ReadW)(a3:Tryz.prog.globals.size<=w.heap.size)(af:lI w (.slice xa ps.length vc) ps)(aa:ps.length<=4294967296)(av:∀p∈ps,∀t∈p.1.txs,t.data.length<=1048576)(aq:Rd w 1 (.slice ia is.length ic) is.length (is.map (.int .i64)))(a1:is.length<=4294967296)(aw:∀i,-9223372036854775808<=Ky is i/\Ky is i<=9223372036854775807)(hH:qp w)
  (ab:∀D' w' y,jZ (λ_=>False) w w'->WP (qe Tryz.prog.funcs D') w' y->Keep (qe Tryz.prog.funcs D') Post y->Post.post (.bool true) y):
  Wq D Post [] ((base 9).at { tmps:=#[.agg (jG c),.slice xa ps.length vc,.slice ia is.length ic]++Array.replicate 139 undef,defers:=[] } [.code (.seq Um (.seq Qc (.seq Vk (.seq Ur (.seq paL (.seq ET .ret))))))]) [] w:=by
 simp only[cO,bZ,dN,cZ,dM,dH];obtain⟨w1,ae,-,ai⟩:=jE w (jG c) 24;have ac:jZ (λ_=>False) w w1:=sK (by rw[ae]);have cf:∀{v:World},jZ (λ_=>False) w1 v->v.heap[w.heap.size]? =some (.cells (jG c) 24 (0,0)):=λh=>(h.block _ (jC ai) (λe=>e)).trans ai;refine Wq.seq (Wq.walk λt d Q J _=>?_);have HN:Hid _:=J;clear J;simp only[Um,Tryz.f9,jG];go_wp2_with fail;refine HN.out _ _ (Wq.same (y:=w1) (λ_ _=>by rw[ae];rfl) (Wq.seq ?_));clear HN;rw[show(on w t d).heap.size=w.heap.size from rfl];have s1:=ac.size;obtain⟨r1,ao⟩:=Xp;rw[ao];refine Wq.region ?_;rw[JF];obtain⟨y0,aj,a0,ax,ap⟩:∃o,TU[0]? =some o/\o.op=.call { callee:=.value (.func 21),args:=#[],argTypes:=#[] }/\o.dst=some 20/\o.guard=none:=⟨_,rfl,rfl,rfl,rfl⟩
 refine Vh rd aj (Cr.ku ap) a0 (by omega) (hH.kept ac) λD2 w2 R=>?_;rw[ax];have z:=ac.trans R (λ_ _ e=>e);have a4:=cf R;have s2:=z.size;simp only[Act.put,bH,dJ,dI];refine Wq.tZ (.assign (.tmp 20)) (some 7) (.bool true) w2 rfl (λt d o h=>by unfold execOp;simp only[h];rfl) (Wq.done ?_);simp only[Act.put,bH,dJ,dI];refine Wq.seq (Wq.walk λt d Q J _=>?_);have HN:Hid _:=J;clear J;simp only[Vk,Tryz.f9];go_wp2_with fail;refine HN.out _ _ (Wq.same (y:=w2) (λ_ _=>rfl) (Wq.seq (Wq.walk λt d Q J _=>?_)));have HN:Hid _:=J;clear J;simp only[Ur,Tryz.f9];go_wp2_with fail;refine HN.out _ _ (Wq.same (y:=w2) (λ_ _=>rfl) (Wq.seq ?_));clear HN;have ag:=oN af z;refine Wq.walk λt d Q J _=>Hm.Wj c vc ic xa ia ps is (on w2 t d) rfl rfl rfl rfl rfl (oN ag (x9 rfl)) aa av (Ov (Ov aq z) (x9 rfl)) a1 aw (λI w3 qs ra rc z0 z1 z4 ak hU=>J _ _ (Wq.seq ?_));have Y:jZ (λ_=>False) w2 w3:=((Hm.jJ.below hU.bel jA (λ_=>False)).h).heaps rfl rfl;have E:=z.trans Y (λ_ _ e=>e);have s3:=E.size;have au:=cf (R.trans Y (λ_ _ e=>e));obtain⟨a2,ah⟩:=UF;rw[ah];refine Wq.region ?_;rw[Gy];have ev:∀{s:Nat}{v:Value}{I:Array Value},I[s]? =some v->(Act.mk I []).eval (.tmp s)=v:=λh=>by simp[Act.eval,h]
 have put:∀{s s':Nat}{v u:Value}{I:Array Value},I[s]? =some v->s'≠s->(I.setIfInBounds s' u)[s]? =some v:=λh hn=>by rw[aO,if_neg hn];exact h
 have new:∀{s:Nat}{u:Value}{I:Array Value},s<I.size->(I.setIfInBounds s u)[s]? =some u:=λh=>by rw[aO,if_pos rfl,if_pos h]
 refine Wq.tZ (.load 24 (.tmp 3)) (some 138) (.agg (jG c)) w3 rfl (GY au (ev z4)) ?_;refine Wq.tZ (.move (.tmp 1)) (some 139) (.slice xa ps.length vc) w3 rfl (λt d o h=>by unfold execOp;simp only[h,Act.put,ev (put z1 (by decide:138≠1))];rfl) ?_;refine Wq.tZ (.move (.tmp 8)) (some 140) (.slice ra ps.length rc) w3 rfl (λt d o h=>by unfold execOp;simp only[h,Act.put,ev (put (put ak (by decide:138≠8)) (by decide:139≠8))];rfl) ?_;obtain⟨y3,ay,an,am,ar⟩:∃o,MJ[3]? =some o/\o.op=.call { callee:=.value (.func 29),args:=#[.tmp 138,.tmp 139,.tmp 140],argTypes:=#[24,25,25] }/\o.dst=some 141/\o.guard=none:=⟨_,rfl,rfl,rfl,rfl⟩
 simp only[Act.put];refine TR rd (c:=c) (ps:=ps) (qs:=qs) (xa:=xa) (xb:=ra) (vc:=vc) (vd:=rc) ay (Cr.ku ar) an (ev (put (put (new (by omega)) (by decide)) (by decide))) (ev (put (new (by rw[jg];omega)) (by decide))) (by rw[hU.len];exact ev (new (by rw[jg,jg];omega))) (by omega) (oN ag Y) (by rw[hU.len];exact hU.ups) aa (by rw[hU.len];exact aa) (hH.kept E) hU.same λD5 w5 az=>?_;rw[am];simp only[Act.put];generalize hT:((I.setIfInBounds 138 _).setIfInBounds 139 _).setIfInBounds 140 _=T;have a5:T.size=142:=by rw[<-hT];simp only[jg];exact z0
 refine Wq.tZ (.assign (.tmp 141)) (some 6) (.bool true) w5 rfl (λt d o h=>by unfold execOp;simp only[h];rw[ev (new (by omega))];rfl) (Wq.done (Wq.ret λtodo=>?_))
 exact Wq.last (v:=.bool true) (fn:=Tryz.f9) rfl rfl rfl Tryz.func9 (by kernel_rfl) (λw=>by
  have:((T.setIfInBounds 141 (.bool true)).setIfInBounds 6 (.bool true))[6]? =some (Value.bool true):=new (by rw[jg];omega);simp[results,Tryz.results9,go_sem,Frame.at,Act.put,this]) (λw=>by simp[results,Tryz.results9,go_sem]) (ab D5 w5 · (E.trans az (λ_ _ e=>e)))
end
end
end Pa
section
open Go.ChangeShapes Go.WideShapes Go.ChangeAt Go.RowKit
theorem LM:Tryz.prog.cellsOf 4=1:=by kernel_rfl
theorem Tt:Tryz.prog.cellsOf 5=1:=by kernel_rfl
theorem OW:Tryz.prog.globalNamed "tributary/item.heads"=some 1:=by kernel_rfl
theorem Gs:(Tryz.prog.globals[ 1 ]?).map (·.type)=some 306:=by kernel_rfl
theorem Iw:Tryz.prog.cellsOf 306=6:=by kernel_rfl
theorem Lj:Tryz.prog.cellsOf 280=3:=by kernel_rfl
theorem Vl{W:World}(h:laidMet Tryz.prog [("tributary/item.heads",Rows.laid_tributary_item_heads)] W):kQ W:=by
 obtain⟨ps,⟨g',t',cs,aa,p,q,R,Y,I,hd,_,_⟩,_⟩:=h;obtain rfl:=eP (OW.symm.trans R);obtain rfl:=eP (Gs.symm.trans Y);obtain⟨xs,m,_,hx,z,J,hi⟩:=DataW.trod_array Tryz.underlying306 hd;rw[Iw]at z;have E:=λi=>World.var?_cell OW I i;obtain⟨cs⟩:=cs
 match cs,z,xs,J with
 |[a0,a1,a2,a3,a4,a5],_,[x0,x1],_=>
 have h0:=hi 0 (by omega);have h1:=hi 1 (by omega);simp only[Lj]at h0 h1;simp only[Rows.laid_tributary_item_heads,dA,DataW.agg.injEq,dW,fG,List.cons.injEq,and_true]at hx;obtain⟨y0,y1,y2,n,hy,_,k0,k1,k2⟩:=Go.Deep.trod_struct3 Tryz.underlying280 h0;obtain⟨z0,z1,z2,n',hz,_,l0,l1,l2⟩:=Go.Deep.trod_struct3 Tryz.underlying280 h1;simp only[LM,Tt]at k0 k1 k2 l0 l1 l2;obtain⟨b0,e0,rfl⟩:=DataW.trod_bool Tryz.underlying4 k0;obtain⟨b1,e1,rfl,_⟩:=DataW.trod_int Tryz.underlying5 k1;obtain⟨b2,e2,rfl,_⟩:=DataW.trod_int Tryz.underlying5 k2;obtain⟨b3,e3,rfl⟩:=DataW.trod_bool Tryz.underlying4 l0;obtain⟨b4,e4,rfl,_⟩:=DataW.trod_int Tryz.underlying5 l1;obtain⟨b5,e5,rfl,_⟩:=DataW.trod_int Tryz.underlying5 l2;simp at e0 e1 e2 e3 e4 e5;subst e0 e1 e2 e3 e4 e5;subst hy hz;simp at hx;obtain⟨⟨⟨rfl,rfl,rfl⟩,rfl,rfl,rfl⟩,_⟩:=hx;exact⟨⟨E 0,E 1,E 2⟩,E 3,E 4,E 5⟩
end
end Go.Proofs.YtpibpdpedjinhaaGreatDoor
