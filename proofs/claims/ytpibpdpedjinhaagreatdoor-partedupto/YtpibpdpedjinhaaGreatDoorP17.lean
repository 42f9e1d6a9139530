import Derived.Test.YtpibpdpedjinhaaGreatDoorP13
import Derived.Test.YtpibpdpedjinhaaGreatDoorP16
import Derived.Laws.MakeOwn
import Derived.OwnWalk
set_option maxRecDepth 100000
set_option maxHeartbeats 8000000
set_option linter.unusedSimpArgs false
namespace Go.Proofs.YtpibpdpedjinhaaGreatDoor
namespace Cr
open Go Go.Conc Go.ConcN Go.RowKit Go.Conc.Lib Go.ConcR.Gen Go.ConcN.Gen
open Go.ConcR (KK WgAt stA smA Payload DC0)
section
theorem ace:∃o,tq[0]? =some o/\o.op=.load 29 (.tmp 3)/\o.dst=some 5/\o.guard=none:=⟨_,rfl,rfl,rfl,rfl⟩
theorem ab8:∃o,tq[1]? =some o/\o.op=.load 3 (.tmp 4)/\o.dst=some 6/\o.guard=none:=⟨_,rfl,rfl,rfl,rfl⟩
theorem acF:∃o,tq[2]? =some o/\o.op=.load 24 (.tmp 1)/\o.dst=some 7/\o.guard=none:=⟨_,rfl,rfl,rfl,rfl⟩
theorem acG:∃o,tq[3]? =some o/\o.op=.load 68 (.tmp 2)/\o.dst=some 8/\o.guard=none:=⟨_,rfl,rfl,rfl,rfl⟩
theorem acA:∃o,tq[4]? =some o/\o.op=.call { callee:=.value (.func 110),args:=#[.tmp 7,.tmp 8],argTypes:=#[24,68] }/\o.dst=some 9/\o.guard=none:=⟨_,rfl,rfl,rfl,rfl⟩
theorem acD:∃o,tq[5]? =some o/\o.op=.indexAddr 29 (.tmp 5) (.tmp 6)/\o.dst=some 10/\o.guard=none:=⟨_,rfl,rfl,rfl,rfl⟩
theorem acs:∃o,tq[6]? =some o/\o.op=.store 76 (.tmp 10) (.tmp 9)/\o.dst=none/\o.guard=none:=⟨_,rfl,rfl,rfl,rfl⟩
theorem ku{o:Oper}{y:Nat->Option Bool}(h:o.guard=none):Region.wanted o y=true:=by simp[Region.wanted,h]
section
variable {Wg C n i bc bx bf bi:Nat}{inbox batcher t0 t1 t2 t3 t4 fr ad:Int}{data:ByteArray}{fs:Nat->List Fr.F}{l0 l1 l2 l3 l4 l5 l6:Bool}{K:jU}{v:Value}{w:World}
theorem XO(rd:ReadW)(hi:i<n)(ap:C≠Wg)(ar:fs i=Fr.lQ inbox batcher fr ad data.data.toList)(hd:data.size<=1048576)(t:Nat)(h:Reg fs Wg C n i bc bx bf bi inbox batcher t0 t1 t2 t3 t4 fr ad data false false false false false false false K v w):
  kK Tryz.prog false (lS Wg C n) (some i) (qO Tryz.prog (lS Wg C n) (leftOf fs) i) K (tH Wg C n i bc bx bf bi inbox batcher t0 t1 t2 t3 t4 fr ad data #[false,false,false,false,false,false,false] v (Region.linearise.go .any tq 7 t (Array.replicate 7 false) [])) w:=by
 refine ER (σ:=jU×Value×World×Array Bool) (md:=.any) (ops:=tq)
  (λaj listed s=>s.2.2.2=listed/\∃l0 l1 l2 l3 l4 l5 l6,listed=#[l0,l1,l2,l3,l4,l5,l6]/\Cnt aj l0 l1 l2 l3 l4 l5 l6/\Reg fs Wg C n i bc bx bf bi inbox batcher t0 t1 t2 t3 t4 fr ad data l0 l1 l2 l3 l4 l5 l6 s.1 s.2.1 s.2.2.1)
  (λrest s=>kK Tryz.prog false (lS Wg C n) (some i) (qO Tryz.prog (lS Wg C n) (leftOf fs) i) s.1 (tH Wg C n i bc bx bf bi inbox batcher t0 t1 t2 t3 t4 fr ad data s.2.2.2 s.2.1 rest) s.2.2.1) ?done ?more 7 t (Array.replicate 7 false) (K,v,w,#[false,false,false,false,false,false,false]) ⟨rfl,false,false,false,false,false,false,false,rfl,rfl,h⟩
 case done=>
  rintro listed ⟨K,v,w,l⟩ ⟨rfl,l0,l1,l2,l3,l4,l5,l6,hl,hc,R⟩;have h4:l4=true:=by unfold Cnt at hc;revert hc;cases l0<;>cases l1<;>cases l2<;>cases l3<;>cases l4<;>cases l5<;>cases l6<;>simp
  have h6:l6=true:=by unfold Cnt at hc;revert hc;cases l0<;>cases l1<;>cases l2<;>cases l3<;>cases l4<;>cases l5<;>cases l6<;>simp
  exact Wv R.wf R.kw (R.has h6) (R.row h4)
 case more=>
  rintro aj listed ⟨K,v,w,l⟩ ⟨rfl,l0,l1,l2,l3,l4,l5,l6,hl,hc,R⟩;simp only at hl;subst hl;unfold Cnt at hc;refine⟨Md R.d4 R.d5 R.d6 (by omega),λk hk rest J=>?_⟩;have af:bW.kind≠.early:=baseD_kind _;rcases Pg hk with⟨rfl,e⟩|⟨rfl,e⟩|⟨rfl,e⟩|⟨rfl,e⟩|⟨rfl,e,e2,e3⟩|⟨rfl,e,e0,e1,e2,e3,e4⟩|⟨rfl,e,e5,e4⟩
  ·subst e;obtain⟨o,ho,ab,aa,Y⟩:=ace;refine kK.op ho (ku Y) af λE I=>?_;have z:=R.en I;obtain⟨r1,r2⟩:=acB z.wf (a:=⟨slots Wg C n i bc bx bf bi inbox batcher t0 t1 t2 t3 t4 fr ad data #[false,l1,l2,l3,l4,l5,l6] v,[dcall link.done #[.pointer (some ⟨Wg,0,none⟩)]]⟩) rfl ab;refine⟨_,E,r1,rH λe he=>?_,?_⟩
   ·have:=mem_listed he;rw[r2]at this;simp at this;exact⟨_,this,z.kw.f,z.kw.low _ z.kw.f⟩
   ·rw[kG,aa];have:=J (K,v,E,#[true,l1,l2,l3,l4,l5,l6]) ⟨by simp,true,l1,l2,l3,l4,l5,l6,by simp,by unfold Cnt;simp at hc⊢;omega,⟨z.d4,λh=>⟨rfl,(z.d5 h).2⟩,z.d6,z.wf,z.kw,z.row,z.has⟩⟩;simpa[tH,slots,NI,Act.put]using this
  ·subst e;obtain⟨o,ho,ab,aa,Y⟩:=ab8;refine kK.op ho (ku Y) af λE I=>?_;have z:=R.en I;obtain⟨r1,r2⟩:=acz z.wf (a:=⟨slots Wg C n i bc bx bf bi inbox batcher t0 t1 t2 t3 t4 fr ad data #[l0,false,l2,l3,l4,l5,l6] v,[dcall link.done #[.pointer (some ⟨Wg,0,none⟩)]]⟩) rfl ab;refine⟨_,E,r1,rH λe he=>?_,?_⟩
   ·have:=mem_listed he;rw[r2]at this;simp at this;exact⟨_,this,z.kw.i,z.kw.low _ z.kw.i⟩
   ·rw[kG,aa];have:=J (K,v,E,#[l0,true,l2,l3,l4,l5,l6]) ⟨by simp,l0,true,l2,l3,l4,l5,l6,by simp,by unfold Cnt;simp at hc⊢;omega,⟨z.d4,λh=>⟨(z.d5 h).1,rfl,(z.d5 h).2.2⟩,z.d6,z.wf,z.kw,z.row,z.has⟩⟩;simpa[tH,slots,NI,Act.put]using this
  ·subst e;obtain⟨o,ho,ab,aa,Y⟩:=acF;refine kK.op ho (ku Y) af λE I=>?_;have z:=R.en I;obtain⟨r1,r2⟩:=acL z.wf (a:=⟨slots Wg C n i bc bx bf bi inbox batcher t0 t1 t2 t3 t4 fr ad data #[l0,l1,false,l3,l4,l5,l6] v,[dcall link.done #[.pointer (some ⟨Wg,0,none⟩)]]⟩) rfl ab;refine⟨_,E,r1,rH λe he=>?_,?_⟩
   ·have:=mem_listed he;obtain⟨k,ak⟩:=r2 _ this;exact⟨_,ak,z.kw.c,z.kw.low _ z.kw.c⟩
   ·rw[kG,aa];have:=J (K,v,E,#[l0,l1,true,l3,l4,l5,l6]) ⟨by simp,l0,l1,true,l3,l4,l5,l6,by simp,by unfold Cnt;simp at hc⊢;omega,⟨λh=>⟨rfl,(z.d4 h).2⟩,λh=>⟨(z.d5 h).1,(z.d5 h).2.1,rfl,(z.d5 h).2.2.2⟩,z.d6,z.wf,z.kw,z.row,z.has⟩⟩;simpa[tH,slots,NI,Act.put]using this
  ·subst e;obtain⟨o,ho,ab,aa,Y⟩:=acG;refine kK.op ho (ku Y) af λE I=>?_;have z:=R.en I;obtain⟨r1,r2⟩:=ab3 z.wf (a:=⟨slots Wg C n i bc bx bf bi inbox batcher t0 t1 t2 t3 t4 fr ad data #[l0,l1,l2,false,l4,l5,l6] v,[dcall link.done #[.pointer (some ⟨Wg,0,none⟩)]]⟩) rfl ab;refine⟨_,E,r1,rH λe he=>?_,?_⟩
   ·have:=mem_listed he;obtain⟨k,ak⟩:=r2 _ this;exact⟨_,ak,z.kw.x,z.kw.low _ z.kw.x⟩
   ·rw[kG,aa];have:=J (K,v,E,#[l0,l1,l2,true,l4,l5,l6]) ⟨by simp,l0,l1,l2,true,l4,l5,l6,by simp,by unfold Cnt;simp at hc⊢;omega,⟨λh=>⟨(z.d4 h).1,rfl⟩,λh=>⟨(z.d5 h).1,(z.d5 h).2.1,(z.d5 h).2.2.1,rfl,(z.d5 h).2.2.2.2⟩,z.d6,z.wf,z.kw,z.row,z.has⟩⟩;simpa[tH,slots,NI,Act.put]using this
  ·subst e e2 e3;obtain⟨o,ho,ab,aa,Y⟩:=acA;refine rd _ _ _ _ _ _ _ _ _ _ _ _ _ _ _ _ inbox batcher t0 t1 t2 t3 t4 fr ad data ho (ku Y) af ab (by simp[slots,NI,Act.eval]) (by simp[slots,NI,Act.eval]) hd R.kw.sub R.kw.low R.kw.pay R.kw.grp R.kw.glob ?_
   ·rintro E I v' K' ag ae hO aw ac ah ai ax aq;have z:=R.en I;rw[<-ar]at ae;rw[aa];have ao:PayAt C n ag:=aq z.wf.pay;have am:WgLive link.tWg Wg ag:=ax z.wf.live
    have:=J (K',v',ag,#[l0,l1,true,true,true,l5,l6]) ⟨by simp,l0,l1,true,true,true,l5,l6,by simp,by unfold Cnt;simp at hc⊢;omega,⟨λ_=>⟨rfl,rfl⟩,λh=>(by have:=(z.d5 h).2.2.2.2;cases this),z.d6,⟨(ah _ R.kw.c).trans z.wf.c,(ah _ R.kw.x).trans z.wf.x,(ah _ R.kw.f).trans z.wf.f,(ah _ R.kw.i).trans z.wf.i,am,ao⟩,
     ⟨hO _ R.kw.c,hO _ R.kw.x,hO _ R.kw.f,hO _ R.kw.i,aw,λb hb=>(ai b hb).1,aH z.kw.pay ac,aH z.kw.grp ac,λb hb=>(ai b hb).2.elim (R.kw.ne b) λh=>by have:=z.kw.pay;omega,aW z.kw.glob ac⟩,λ_=>ae,λh=>(by have:=(z.d5 (z.d6 h)).2.2.2.2;cases this)⟩⟩
    simpa[tH,slots,NI,Act.put]using this
  ·subst e e0 e1 e2 e3 e4;obtain⟨o,ho,ab,aa,Y⟩:=acD;refine kK.op ho (ku Y) af λE I=>?_;have z:=R.en I;obtain⟨r1,r2⟩:=acj (w:=E) hi (a:=⟨slots Wg C n i bc bx bf bi inbox batcher t0 t1 t2 t3 t4 fr ad data #[true,true,true,true,true,false,l6] v,[dcall link.done #[.pointer (some ⟨Wg,0,none⟩)]]⟩) rfl rfl ab;refine⟨_,E,r1,rH λe he=>?_,?_⟩
   ·have:=mem_listed he;rw[r2]at this;simp at this
   ·rw[kG,aa];have:=J (K,v,E,#[true,true,true,true,true,true,l6]) ⟨by simp,true,true,true,true,true,true,l6,by simp,by unfold Cnt;simp at hc⊢;omega,⟨z.d4,λ_=>⟨rfl,rfl,rfl,rfl,rfl⟩,λ_=>rfl,z.wf,z.kw,z.row,z.has⟩⟩;simpa[tH,slots,NI,Act.put]using this
  ·subst e e5 e4;obtain⟨rfl,rfl,rfl,rfl,_⟩:=R.d5 rfl;obtain⟨o,ho,ab,aa,Y⟩:=acs;refine kK.opn ho (ku Y) af λE I=>?_;have z:=R.en I;have ae:=z.row rfl
   obtain⟨x,l,c,hv⟩:∃x l c,v=.slice x l c:=by
    rcases ae with⟨e,_⟩|⟨g,cap,ay,e,_⟩
    ·exact⟨_,_,_,e⟩
    ·exact⟨_,_,_,e⟩
   subst hv;obtain⟨r1,r2⟩:=acK (w:=E) z.wf.pay hi (a:=⟨slots Wg C n i bc bx bf bi inbox batcher t0 t1 t2 t3 t4 fr ad data #[true,true,true,true,true,true,false] (.slice x l c),[dcall link.done #[.pointer (some ⟨Wg,0,none⟩)]]⟩) rfl rfl ab
   have an:=Y5 (S:=lS Wg C n) (K:=K) (i:=i) (v:=.slice x l c) (es:=listed Tryz.prog bW.fn ⟨slots Wg C n i bc bx bf bi inbox batcher t0 t1 t2 t3 t4 fr ad data #[true,true,true,true,true,true,false] (.slice x l c),[dcall link.done #[.pointer (some ⟨Wg,0,none⟩)]]⟩ o E) z.wf.pay λe he=>by
    have:=mem_listed he;rw[r2]at this;simpa using this
   refine⟨_,r1,an,?_⟩;obtain⟨_,_,_,ac⟩:=jS E ⟨C,i,none⟩ (.slice x l c);rw[ac,kG,aa];have hb:∀b,K.O b->(E.setCell ⟨C,i,none⟩ (.slice x l c)).heap[b]? =E.heap[b]?:=λb hb=>kD (R.kw.ne b hb);have au:(E.setCell ⟨C,i,none⟩ (.slice x l c)).heap[Wg]? =E.heap[Wg]?:=kD (Ne.symm ap)
   have:=J (K,.slice x l c,E.setCell ⟨C,i,none⟩ (.slice x l c),#[true,true,true,true,true,true,true]) ⟨by simp,true,true,true,true,true,true,true,by simp,by unfold Cnt;simp at hc⊢;omega,
    ⟨λ_=>⟨rfl,rfl⟩,λ_=>⟨rfl,rfl,rfl,rfl,rfl⟩,λ_=>rfl,⟨(hb _ z.kw.c).trans z.wf.c,(hb _ z.kw.x).trans z.wf.x,(hb _ z.kw.f).trans z.wf.f,(hb _ z.kw.i).trans z.wf.i,let ⟨st,sm,hl⟩:=z.wf.live;⟨st,sm,hl.of_block au⟩,an.pay z.wf.pay⟩,
     ⟨z.kw.c,z.kw.x,z.kw.f,z.kw.i,z.kw.sub,λb av=>by rw[ac];exact z.kw.low b av,by rw[ac];exact z.kw.pay,by rw[ac];exact z.kw.grp,z.kw.ne,by rw[ac];exact z.kw.glob⟩,λ_=>ae.stands (λ_=>id) hb,λ_=>Ws z.wf.pay hi _⟩⟩
   simpa[tH,slots,NI,Act.put]using this
end
end
section
section
variable {Wg C n i bc bx bf bi:Nat}{inbox batcher t0 t1 t2 t3 t4 fr ad:Int}{data:ByteArray}{fs:Nat->List Fr.F}{K:jU}{w:World}
theorem KW.en{z:World}(h:KW Wg C bc bx bf bi K w)(r:En (lS Wg C n) (some i) K w z):KW Wg C bc bx bf bi K z:=
 ⟨h.c,h.x,h.f,h.i,h.sub,λb E=>aH (h.low b E) r.size,aH h.pay r.size,aH h.grp r.size,h.ne,aW h.glob r.size⟩
theorem MV(rd:ReadW)(hi:i<n)(aa:C≠Wg)(ab:fs i=Fr.lQ inbox batcher fr ad data.data.toList)(hd:data.size<=1048576)(hF:WF Wg C n i bc bx bf bi (cfg inbox batcher t0 t1 t2 t3 t4) (zL fr ad data) w)(Y:KW Wg C bc bx bf bi K w):
  kK Tryz.prog false (lS Wg C n) (some i) (qO Tryz.prog (lS Wg C n) (leftOf fs) i) K (born Tryz.prog (IC Wg bc bx bf bi)) w:=by
 refine kK.step rfl λz I=>⟨_,z,#[],born_step z,.still ..,?_⟩
 rw[kG];have E:WF Wg C n i bc bx bf bi (cfg inbox batcher t0 t1 t2 t3 t4) (zL fr ad data) z/\KW Wg C bc bx bf bi K z:=⟨hF.en Y.c Y.x Y.f Y.i I,Y.en I⟩
 have rl:∀{w z:World},(WF Wg C n i bc bx bf bi (cfg inbox batcher t0 t1 t2 t3 t4) (zL fr ad data) w/\KW Wg C bc bx bf bi K w)->En (lS Wg C n) (some i) K w z->(WF Wg C n i bc bx bf bi (cfg inbox batcher t0 t1 t2 t3 t4) (zL fr ad data) z/\KW Wg C bc bx bf bi K z):=
  λh r=>⟨h.1.en h.2.c h.2.x h.2.f h.2.i r,h.2.en r⟩
 clear hF Y I;have hb:Vb=(.seq (.region 0 #[{ dst:=none,op:=.defer { callee:=.value (.func 109),args:=#[.tmp 0],argTypes:=#[211] },type:=0,pos:= "upper.go:57",after:=#[],guard:=none }] false) (.region 1 tq true)):=rfl;rw[hb];refine kK.go (n:=10) ?_;u_c stepG_seq rl E;u_reg rl E;u_defer rl E;u_c stepG_region_end rl E;refine Goes.stop λae J=>?_;replace E:=rl E J;clear J;refine kK.draw λac R t=>?_;replace E:=rl E R;clear R;rw[sched];exact XO (v:=undef) rd hi aa ab hd t ⟨by simp,by simp,by simp,⟨E.1.c,E.1.x,E.1.f,E.1.i,E.1.live,E.1.pay⟩,⟨E.2.c,E.2.x,E.2.f,E.2.i,E.2.sub,E.2.low,E.2.pay,E.2.grp,E.2.ne,E.2.glob⟩,by simp,by simp⟩
end
end
section
variable {tb q b:Nat}{fr ad k j k1 k2:Int}{data k3:ByteArray}{ty:TypeId}{x y z:Value}{fn:FuncId}{e:Event}
section
variable {w:World}{a:Act}{o:Oper}
theorem YH(R:w.cell? ⟨tb,q,none⟩=some (.int .u32 fr))(J:w.cell? ⟨tb,q+1,none⟩=some (.int .u32 ad))(h2:w.cell? ⟨tb,q+2,none⟩=some (.string data))(I:a.eval (.tmp 17)=.pointer (some ⟨tb,q,none⟩))(E:o.op=.load 68 (.tmp 17)):
  (execOp a.eval o).run Tryz.prog w=.ok (.value (.agg (zL fr ad data))) w/\∀e∈(execOp a.eval o).events Tryz.prog w #[],∃k,e=⟨.cell ⟨tb,k,none⟩,false,false⟩:=by
 constructor
 ·unfold execOp;simp only[E,I];simp[go_sem,R,J,h2]
 ·unfold execOp;simp only[E,I];simp[go_sem,R,J,h2]
theorem abl(E:o.op=.alloc 3):(execOp a.eval o).run Tryz.prog w=.ok (.value (.pointer (some ⟨w.heap.size,0,none⟩))) (w.alloc (.cells #[.int .i64 0] 3))/\(execOp a.eval o).events Tryz.prog w #[]=#[]:=by
 constructor
 ·unfold execOp;simp only[E];simp[go_sem]
 ·unfold execOp;simp only[E];simp[go_sem]
theorem abp(E:o.op=.alloc 68):(execOp a.eval o).run Tryz.prog w=.ok (.value (.pointer (some ⟨w.heap.size,0,none⟩))) (w.alloc (.cells #[.int .u32 0,.int .u32 0,.string ⟨#[]⟩] 68))/\(execOp a.eval o).events Tryz.prog w #[]=#[]:=by
 constructor
 ·unfold execOp;simp only[E];simp[go_sem]
 ·unfold execOp;simp only[E];simp[go_sem]
theorem aaG(R:w.heap[b]? =some (.cells #[.int .i64 k] 3))(J:a.eval (.tmp 7)=.pointer (some ⟨b,0,none⟩))(I:a.eval (.tmp 16)=.int .i64 j)(E:o.op=.store 3 (.tmp 7) (.tmp 16)):
  (execOp a.eval o).run Tryz.prog w=.ok .skip (w.setCell ⟨b,0,none⟩ (.int .i64 j))/\(execOp a.eval o).events Tryz.prog w #[]=#[⟨.cell ⟨b,0,none⟩,true,false⟩]:=by
 have Y:w.cell? ⟨b,0,none⟩=some (.int .i64 k):=by simp[World.cell?,R]
 have hz:w.frozen? ⟨b,0,none⟩=false:=by simp[World.frozen?,R]
 constructor
 ·unfold execOp;simp only[E,J,I];simp[go_sem,stored,Y,hz]
 ·unfold execOp;simp only[E,J,I];simp[go_sem,storedEv,Y,hz]
theorem OU{u v:Value}(E:w.heap[b]? =some (.cells #[u] ty)):(w.setCell ⟨b,0,none⟩ v).heap[b]? =some (.cells #[v] ty):=by
 simp[World.setCell,bI,E]
def ug(w:World)(b:Nat)(x y z:Value):World:=((w.setCell ⟨b,0,none⟩ x).setCell ⟨b,1,none⟩ y).setCell ⟨b,2,none⟩ z
theorem TQ{E I J:Value}(R:w.heap[b]? =some (.cells #[E,I,J] ty)):(ug w b x y z).heap[b]? =some (.cells #[x,y,z] ty):=by
 simp[ug,World.setCell,bI,R]
theorem CV(w:World)(b:Nat)(x y z:Value):(ug w b x y z).tape=w.tape/\(ug w b x y z).os=w.os/\(ug w b x y z).output=w.output/\(ug w b x y z).heap.size=w.heap.size/\∀c,c≠b->(ug w b x y z).heap[c]? =w.heap[c]?:=by
 obtain⟨a1,a2,R,a4⟩:=jS w ⟨b,0,none⟩ x;obtain⟨I,b2,J,b4⟩:=jS (w.setCell ⟨b,0,none⟩ x) ⟨b,1,none⟩ y;obtain⟨Y,c2,c3,c4⟩:=jS ((w.setCell ⟨b,0,none⟩ x).setCell ⟨b,1,none⟩ y) ⟨b,2,none⟩ z
 exact⟨Y.trans (I.trans a1),c2.trans (b2.trans a2),c3.trans (J.trans R),c4.trans (b4.trans a4),λc E=>by
  unfold ug;rw[kD (ad:=⟨b,2,none⟩) E,kD (ad:=⟨b,1,none⟩) E,kD (ad:=⟨b,0,none⟩) E]⟩
theorem aa8(J:w.heap[b]? =some (.cells #[.int .u32 k1,.int .u32 k2,.string k3] 68))(h8:a.eval (.tmp 8)=.pointer (some ⟨b,0,none⟩))(E:a.eval (.tmp 18)=.agg (zL fr ad data))(I:o.op=.store 68 (.tmp 8) (.tmp 18)):
  (execOp a.eval o).run Tryz.prog w=.ok .skip (ug w b (.int .u32 fr) (.int .u32 ad) (.string data))/\∀e∈(execOp a.eval o).events Tryz.prog w #[],∃k,e=⟨.cell ⟨b,k,none⟩,true,false⟩:=by
 have b1:(w.setCell ⟨b,0,none⟩ (.int .u32 fr)).heap[b]? =some (.cells #[.int .u32 fr,.int .u32 k2,.string k3] 68):=by simp[World.setCell,bI,J]
 have b2:((w.setCell ⟨b,0,none⟩ (.int .u32 fr)).setCell ⟨b,1,none⟩ (.int .u32 ad)).heap[b]? =some (.cells #[.int .u32 fr,.int .u32 ad,.string k3] 68):=by simp[World.setCell,bI,J]
 have c0:w.cell? ⟨b,0,none⟩=some (.int .u32 k1):=by simp[World.cell?,J]
 have z0:w.frozen? ⟨b,0,none⟩=false:=by simp[World.frozen?,J]
 have c1:(w.setCell ⟨b,0,none⟩ (.int .u32 fr)).cell? ⟨b,1,none⟩=some (.int .u32 k2):=by simp[World.cell?,b1]
 have z1:(w.setCell ⟨b,0,none⟩ (.int .u32 fr)).frozen? ⟨b,1,none⟩=false:=by simp[World.frozen?,b1]
 have R:((w.setCell ⟨b,0,none⟩ (.int .u32 fr)).setCell ⟨b,1,none⟩ (.int .u32 ad)).cell? ⟨b,2,none⟩=some (.string k3):=by simp[World.cell?,b2]
 have Y:((w.setCell ⟨b,0,none⟩ (.int .u32 fr)).setCell ⟨b,1,none⟩ (.int .u32 ad)).frozen? ⟨b,2,none⟩=false:=by simp[World.frozen?,b2]
 constructor
 ·unfold execOp;simp only[I,h8,E];simp[go_sem,stored,c0,z0,c1,z1,R,Y,ug]
 ·unfold execOp;simp only[I,h8,E];simp[go_sem,stored,storedEv,c0,z0,c1,z1,R,Y,events_store _ _ _ _ _ _ (show(Value.string data).oneCell'=true from rfl)]
theorem QM(I:a.eval (.tmp 17)=.pointer (some ⟨tb,q,none⟩))(E:o.op=.load 68 (.tmp 17))(R:w.cell? ⟨tb,q,none⟩=some (.int .u32 fr))(J:w.cell? ⟨tb,q+1,none⟩=some (.int .u32 ad))(h2:w.cell? ⟨tb,q+2,none⟩=some (.string data)):
  (execOp a.eval o).run Tryz.prog w=.ok (.value (.agg (zL fr ad data))) w:=(YH R J h2 I E).1
theorem Rw(I:e∈listed Tryz.prog fn a o w)(J:a.eval (.tmp 17)=.pointer (some ⟨tb,q,none⟩))(E:o.op=.load 68 (.tmp 17))(Y:w.cell? ⟨tb,q,none⟩=some (.int .u32 fr))(R:w.cell? ⟨tb,q+1,none⟩=some (.int .u32 ad))(h2:w.cell? ⟨tb,q+2,none⟩=some (.string data)):
  ∃k,e=⟨.cell ⟨tb,k,none⟩,false,false⟩:=(YH Y R h2 J E).2 e (mem_listed I)
theorem RX(E:o.op=.alloc 3):(execOp a.eval o).run Tryz.prog w=.ok (.value (.pointer (some ⟨w.heap.size,0,none⟩))) (w.alloc (.cells #[.int .i64 0] 3)):=(abl E).1
theorem Xf(E:o.op=.alloc 3):listed Tryz.prog fn a o w=#[]:=by unfold listed;rw[(abl E).2,seen_none]
theorem Ry(E:o.op=.alloc 68):(execOp a.eval o).run Tryz.prog w=.ok (.value (.pointer (some ⟨w.heap.size,0,none⟩))) (w.alloc (.cells #[.int .u32 0,.int .u32 0,.string ⟨#[]⟩] 68)):=(abp E).1
theorem Yc(E:o.op=.alloc 68):listed Tryz.prog fn a o w=#[]:=by unfold listed;rw[(abp E).2,seen_none]
theorem SE(J:a.eval (.tmp 7)=.pointer (some ⟨b,0,none⟩))(I:a.eval (.tmp 16)=.int .i64 j)(E:o.op=.store 3 (.tmp 7) (.tmp 16))(R:w.heap[b]? =some (.cells #[.int .i64 k] 3)):
  (execOp a.eval o).run Tryz.prog w=.ok .skip (w.setCell ⟨b,0,none⟩ (.int .i64 j)):=(aaG R J I E).1
theorem Xm(J:e∈listed Tryz.prog fn a o w)(R:a.eval (.tmp 7)=.pointer (some ⟨b,0,none⟩))(I:a.eval (.tmp 16)=.int .i64 j)(E:o.op=.store 3 (.tmp 7) (.tmp 16))(Y:w.heap[b]? =some (.cells #[.int .i64 k] 3)):
  e=⟨.cell ⟨b,0,none⟩,true,false⟩:=by
 have:=mem_listed J;rw[(aaG Y R I E).2]at this;simpa using this
theorem SQ(J:a.eval (.tmp 8)=.pointer (some ⟨b,0,none⟩))(E:a.eval (.tmp 18)=.agg (zL fr ad data))(I:o.op=.store 68 (.tmp 8) (.tmp 18))(R:w.heap[b]? =some (.cells #[.int .u32 k1,.int .u32 k2,.string k3] 68)):
  (execOp a.eval o).run Tryz.prog w=.ok .skip (ug w b (.int .u32 fr) (.int .u32 ad) (.string data)):=(aa8 R J E I).1
theorem XZ(R:e∈listed Tryz.prog fn a o w)(J:a.eval (.tmp 8)=.pointer (some ⟨b,0,none⟩))(E:a.eval (.tmp 18)=.agg (zL fr ad data))(I:o.op=.store 68 (.tmp 8) (.tmp 18))(Y:w.heap[b]? =some (.cells #[.int .u32 k1,.int .u32 k2,.string k3] 68)):
  ∃k,e=⟨.cell ⟨b,k,none⟩,true,false⟩:=(aa8 Y J E I).2 e (mem_listed R)
theorem NS{S:Who}{R:Option Nat}{K:jU}{es:Array Event}(I:K.W b)(Y:b<w.heap.size)(hC:b≠S.C)(h:∀e∈es,∃k,e=⟨.cell ⟨b,k,none⟩,true,false⟩):Gu S R K w (ug w b x y z) es:=by
 obtain⟨J,h2,h3,h4,E⟩:=CV w b x y z;refine⟨J,h2,h3,jo h4.symm,λc _ hn _=>E c λe=>hn (e ▸ I),λ⟨cs,a,d⟩=>⟨cs,(E _ (Ne.symm hC)).trans a,d⟩,λi _=>cell_of_block (E _ (Ne.symm hC)) i,λe he=>?_⟩;obtain⟨k,rfl⟩:=h e he;exact .inl (.inl ⟨_,true,rfl,.inl (by simpa using I),by rw[h4];exact Y⟩)
end
end
section
abbrev bS:Frame:=base 71
theorem Aa(T:Array Value)(h:T.size=24):∃v0 v1 v2 v3 v4 v5 v6 v7 v8 v9 E ag J z ae R ac af ah aa Y I ab ai,T=#[v0,v1,v2,v3,v4,v5,v6,v7,v8,v9,E,ag,J,z,ae,R,ac,af,ah,aa,Y,I,ab,ai]:=by
 obtain⟨l⟩:=T
 match l,h with
 |[v0,v1,v2,v3,v4,v5,v6,v7,v8,v9,E,ag,J,z,ae,R,ac,af,ah,aa,Y,I,ab,ai],_=>exact⟨_,_,_,_,_,_,_,_,_,_,_,_,_,_,_,_,_,_,_,_,_,_,_,_,rfl⟩
noncomputable def loopS:Code:=match Tryz.f71.body with
 |some (.seq _ (.seq _ (.seq _ (.seq (.seq _ (.block _ (.loop c))) _))))=>c
 |_=>.skip
noncomputable def wI:Code:=match Tryz.f71.body with
 |some (.seq _ (.seq _ (.seq _ (.seq _ c))))=>c
 |_=>.skip
noncomputable def tail9:Code:=match wI with
 |.seq _ c=>c
 |_=>.skip
noncomputable def ops9:Array Oper:=match wI with
 |.seq (.region _ ops _) _=>ops
 |_=>#[]
structure SF(OB:Nat->Prop)(W:World)(Wg C n:Nat)(K:jU)(w:World):Prop where
 sub:∀b,OB b->K.O b
 old:∀b,OB b->w.heap[b]? =W.heap[b]?
 kw:∀b,K.W b->K.O b
 ko:∀b,K.O b->b<w.heap.size/\b≠Wg/\b≠C
 pay:PayAt C n w
 hC:C<w.heap.size
 hG:Wg<w.heap.size
 glob:Tryz.prog.globals.size<=w.heap.size
 new:∀b,K.O b->OB b\/W.heap.size<=b
 siz:W.heap.size<=w.heap.size
 still:w.tape=W.tape/\w.os=W.os/\w.output=W.output
 low:∀b,b<C-1->b<W.heap.size->b≠Wg->w.heap[b]? =W.heap[b]?
def leftB(bc bf:Nat)(W:World)(fs:Nat->List Fr.F):Left:=λi v O w=>leftOf fs i v O w/\∀b,O b->(b=bc\/b=bf)\/W.heap.size<=b
theorem GU(bc bf:Nat)(W:World)(fs:Nat->List Fr.F):(leftB bc bf W fs).mV:=λi v O w w₁ z h=>⟨Du fs i v O w w₁ z h.1,h.2⟩
section
variable {OB:Nat->Prop}{W:World}{Wg C n:Nat}{K:jU}{w w₁:World}
theorem SF.en(h:SF OB W Wg C n K w)(r:En (lS Wg C n) none K w w₁):SF OB W Wg C n K w₁:=
 ⟨h.sub,λb z=>(r.block b (h.sub b z)).trans (h.old b z),h.kw,λb z=>⟨aH (h.ko b z).1 r.size,(h.ko b z).2⟩,r.pay h.pay,aH h.hC r.size,aH h.hG r.size,aW h.glob r.size,h.new,aW h.siz r.size,⟨r.tape.trans h.still.1,r.os.trans h.still.2.1,r.output.trans h.still.2.2⟩,λb E h2 h3=>(r.low b E).trans (h.low b E h2 h3)⟩
theorem SF.wg(E:C≠Wg)(h:SF OB W Wg C n K w)(r:Go.Conc.Aside Wg w w₁):SF OB W Wg C n K w₁:=
 ⟨h.sub,λb z=>(r.block b (h.ko b (h.sub b z)).2.1).trans (h.old b z),h.kw,λb z=>⟨by rw[r.size];exact(h.ko b z).1,(h.ko b z).2⟩,let ⟨cs,I,h2⟩:=h.pay;⟨cs,(r.block _ E).trans I,h2⟩,by rw[r.size];exact h.hC,by rw[r.size];exact h.hG,by rw[r.size];exact h.glob,h.new,by rw[r.size];exact h.siz,⟨r.tape.trans h.still.1,r.os.trans h.still.2.1,r.output.trans h.still.2.2⟩,λb I h2 h3=>(r.block b h3).trans (h.low b I h2 h3)⟩
theorem SF.gu{w':World}{es:Array Event}(h:SF OB W Wg C n K w)(g:Gu (lS Wg C n) none K w w' es)(E:∀b,K.W b->¬OB b):SF OB W Wg C n (K.grow w.heap.size w'.heap.size) w':=by
 have hs:=g.size;have hC:=h.hC;have hG:=h.hG
 exact⟨λb z=>.inl (h.sub b z),λb z=>(g.block b (h.ko b (h.sub b z)).1 (λhw=>E b hw z) λ_=>rfl).trans (h.old b z),λb z=>z.imp (h.kw b) id,
  λb z=>z.elim (λx=>⟨aH (h.ko b x).1 hs,(h.ko b x).2⟩) λx=>⟨x.2,by omega,by omega⟩,g.pay h.pay,aH hC hs,aH hG hs,aW h.glob hs,
  λb z=>z.elim (h.new b) λx=>.inr (aW h.siz x.1),aW h.siz hs,⟨g.tape.trans h.still.1,g.os.trans h.still.2.1,g.output.trans h.still.2.2⟩,
  λb I h2 h3=>(g.block b (aH h2 h.siz) (λhw=>(h.new b (h.kw b hw)).elim (E b hw) λx=>by omega) λ_=>rfl).trans (h.low b I h2 h3)⟩
def N9(tx:Option Addr)(n cap Wg bc bf j:Nat)(cs:List Frame)(g:Goroutine):Prop:=
 ∃T:Array Value,g=G (bS.at ⟨T,[]⟩ [.code loopS,.inLoop loopS,.inBlock 0,.code wI]) cs/\T.size=24/\T[2]? =some (.pointer (some ⟨bc,0,none⟩))/\T[5]? =some (.pointer (some ⟨bf,0,none⟩))/\T[6]? =some (.pointer (some ⟨Wg,0,none⟩))/\
  T[12]? =some (.slice tx n cap)/\T[13]? =some (.int .i64 n)/\T[14]? =some (.int .i64 j)
def AnchS(OB:Nat->Prop)(W:World)(Wg C n bf:Nat)(cs:List Frame)(K:jU)(g:Goroutine)(w:World):Prop:=
 ∃T:Array Value,T.size=24/\T[5]? =some (.pointer (some ⟨bf,0,none⟩))/\Hw link (SF OB W Wg C n) Wg (bS.at ⟨T,[]⟩ (.inRegion ops9 (0::[])::[.code tail9])) cs K g w
def Zc(OB:Nat->Prop)(W:World)(Wg C n bf:Nat)(cs:List Frame)(K:jU)(g:Goroutine)(w:World):Prop:=
 ∃T:Array Value,T.size=24/\T[5]? =some (.pointer (some ⟨bf,0,none⟩))/\g=G (bS.at ⟨T,[]⟩ (.inRegion ops9 []::[.code tail9])) cs/\SF OB W Wg C n K w
variable {bf:Nat}{cs:List Frame}
theorem NJ(E:C≠Wg)(K:jU)(g:Goroutine)(w:World)(h:AnchS OB W Wg C n bf cs K g w):
  Way Tryz.prog (lS Wg C n) (sQ Tryz.prog (lS Wg C n) (Zc OB W Wg C n bf cs) (AnchS OB W Wg C n bf cs)) K g w:=by
 obtain⟨T,I,J,R⟩:=h;refine Way.mono (waitRound (L:=link) wgLib (Wg:=Wg) (C:=C) (n:=n) (Fin:=Zc OB W Wg C n bf cs) (Fk:=SF OB W Wg C n) (b₀:=bS) (a₀:=⟨T,[]⟩) (ops₀:=ops9) (i₀:=0) (rest₀:=[]) (k₀:=[.code tail9]) (cs:=cs) (λ_ _ _ r h=>h.en r) (λ_ _ _ r h=>h.wg E r) ?_ K g w R) λK g w x=>sQ.mono (λK g w y=>⟨T,I,J,y⟩) x;intro K w Y;refine Way.stop λw₁ z=>⟨T.setIfInBounds 22 (.tuple #[]),by simp[I],by rw[dS (by omega)];exact J,?_,Y.1.en z⟩
 rfl
end
end
section
variable {K:jU}{w:World}{g:Goroutine}
section
variable {OB:Nat->Prop}{W:World}{Wg C n cap bc bf tb q0:Nat}{cs:List Frame}{inbox batcher t0 t1 t2 t3 t4:Int}{fr ad:Nat->Int}{data:Nat->ByteArray}{fs:Nat->List Fr.F}
theorem kE{z:World}(h:SF OB W Wg C n K w/\WgLive link.tWg Wg w)(r:En (lS Wg C n) none K w z):SF OB W Wg C n K z/\WgLive link.tWg Wg z:=⟨h.1.en r,r.live h.2⟩
theorem Pm(tx:Option Addr)(hg:N9 tx n cap Wg bc bf n cs g)(z:SF OB W Wg C n K w/\WgLive link.tWg Wg w):
  Way Tryz.prog (lS Wg C n) (y9 Tryz.prog (lS Wg C n) (AnchS OB W Wg C n bf cs)) K g w:=by
 obtain⟨T,rfl,hT,t2,t5,t6,Y,J,R⟩:=hg;obtain⟨v0,v1,v2,v3,v4,v5,v6,v7,v8,v9,ab,ao,ae,aa,am,af,ak,an,ap,ai,ag,ac,aj,aq,rfl⟩:=Aa T hT;simp only[dY,dX,dQ,aC]at t2 t5 t6 Y J R;subst t2 t5 t6 Y J R;have ah:¬((n:Int)<n):=by omega
 simp only[loopS,wI,Tryz.f71];refine Way.go (n:=40) ?_;u_c stepG_seq kE z;u_reg kE z;u_op kE z;u_c stepG_region_end kE z;u_c stepG_seq kE z;u_cond false kE z;u_exit kE z;u_c stepG_seq kE z;u_reg kE z;u_in kE z;refine goes_call rfl rfl (by k_ne) rfl wgLib.f_wait (nm_wait link) rfl ⟨by u_nil,?_⟩;walk_nrmf waitFn;refine Goes.stop λI E=>?_;replace z:=kE z E;refine Way.mono (waitStart (L:=link) (P:=Tryz.prog) wgLib (Wg:=Wg) (C:=C) (n:=n) (Fk:=SF OB W Wg C n) (b₀:=bS) (a₀:=_) (ops₀:=ops9) (i₀:=0) (rest₀:=[]) (k₀:=[.code tail9]) (cs:=cs) (λ_ _ _ r h=>h.en r) K I z) λK g w x=>y9.mono (λK g w y=>⟨_,?_,?_,y⟩) x
 all_goals simp
theorem JH(rd:ReadW){St':jU->Goroutine->World->Prop}(ba:C≠Wg){j:Nat}(hj:j<n)(hn:n<9223372036854775808)(a4:OB tb)(bb:OB bc)(bk:OB bf)(bz:W.heap[bc]? =some (.cells (cfg inbox batcher t0 t1 t2 t3 t4) 24))(b5:W.heap[bf]? =some (.cells #[.slice (some ⟨C,0,none⟩) n n] 29))
  (hx:W.cell? ⟨tb,q0+j*3,none⟩=some (.int .u32 (fr j))/\W.cell? ⟨tb,q0+j*3+1,none⟩=some (.int .u32 (ad j))/\W.cell? ⟨tb,q0+j*3+2,none⟩=some (.string (data j))) (b0:fs j=Fr.lQ inbox batcher (fr j) (ad j) (data j).data.toList) (hd:(data j).size<=1048576)
  (hg:N9 (some ⟨tb,q0,none⟩) n cap Wg bc bf j cs g) (z:SF OB W Wg C n K w/\WgLive link.tWg Wg w) (hK:∀b,¬K.W b)
  (a6:∀K g w,N9 (some ⟨tb,q0,none⟩) n cap Wg bc bf (j+1) cs g->SF OB W Wg C n K w/\WgLive link.tWg Wg w->(∀b,¬K.W b)->Way Tryz.prog (lS Wg C n) St' K g w):
  Way Tryz.prog (lS Wg C n) (Jr Tryz.prog (lS Wg C n) (leftB bc bf W fs) j (λK g w=>Way Tryz.prog (lS Wg C n) St' K g w)) K g w:=by
 obtain⟨T,rfl,hT,t2,t5,t6,bo,bh,bw⟩:=hg;obtain⟨v0,v1,v2,v3,v4,v5,v6,v7,v8,v9,ck,cd,cn,b8,cm,ca,cb,ci,cp,cg,cf,b9,co,cq,rfl⟩:=Aa T hT;simp only[dY,dX,dQ,aC]at t2 t5 t6 bo bh bw;subst t2 t5 t6 bo bh bw;have ce:(j:Int)<n:=by omega
 have cc:(0:Int)<=(j:Int):=by omega
 simp only[loopS,Tryz.f71];refine Way.go (n:=40) ?_;u_c stepG_seq kE z;u_reg kE z;u_op kE z;u_c stepG_region_end kE z;u_c stepG_seq kE z;u_cond true kE z;u_c stepG_skip kE z;u_c stepG_seq kE z;u_c stepG_block kE z;u_c stepG_seq kE z;u_reg kE z
 iterate 2 u_op kE z
 refine Goes.stop λb7 a0=>?_;replace z:=kE z a0;clear a0;refine Way.m (kK.op rfl rfl (by k_ne) λax a1=>?_);replace z:=kE z a1;clear a1;have I:∀k,ax.cell? ⟨tb,k,none⟩=W.cell? ⟨tb,k,none⟩:=λk=>cell_of_block (z.1.old tb a4) k;refine⟨_,ax,QM rfl rfl ((I _).trans hx.1) ((I _).trans hx.2.1) ((I _).trans hx.2.2),rH λe he=>?_,?_⟩
 ·obtain⟨k,rfl⟩:=Rw he rfl rfl ((I _).trans hx.1) ((I _).trans hx.2.1) ((I _).trans hx.2.2);exact⟨_,rfl,z.1.sub tb a4,(z.1.ko tb (z.1.sub tb a4)).1⟩
 rw[kG];clear I;walk_nrm;refine kK.op rfl rfl (by k_ne) λao a2=>?_;replace z:=kE z a2;clear a2;have ae:Gu (lS Wg C n) none K ao (ao.alloc (.cells #[.int .i64 0] 3)) #[]:=Jb z.1.hC _;refine⟨_,_,RX rfl,by rw[Xf rfl];exact ae,?_⟩;have hS:=z.1.gu ae λb hb=>absurd hb (hK b);obtain⟨bi,aq⟩:∃bi,ao.heap.size=bi:=⟨_,rfl⟩
 obtain⟨V,hV⟩:∃V,ao.alloc (.cells #[.int .i64 0] 3)=V:=⟨_,rfl⟩
 have Y:V.heap[bi]? =some (.cells #[.int .i64 0] 3):=by rw[<-hV,<-aq];exact heap_alloc_new _ _
 have a7:V.heap.size=bi+1:=by rw[<-hV,<-aq];simp
 have ab:WgLive link.tWg Wg V:=let ⟨st,sm,hl⟩:=z.2;⟨st,sm,hl.of_block (by rw[<-hV];exact ae.block _ z.1.hG (hK _) λ_=>rfl)⟩
 rw[hV]at hS;rw[hV,aq];rw[aq]at hS;obtain⟨K1,au⟩:∃K1,K.grow bi V.heap.size=K1:=⟨_,rfl⟩
 rw[au]at hS⊢;have a8:K1.O bi:=by rw[<-au];exact .inr ⟨jA,by omega⟩
 have bg:K1.W bi:=by rw[<-au];exact .inr ⟨jA,by omega⟩
 have bd:∀b,K1.W b->b=bi:=by rw[<-au];exact λb hb=>hb.elim (λh=>absurd h (hK b)) λh=>by omega
 have bl:¬OB bi:=λh=>by have:=(z.1.ko bi (z.1.sub bi h)).1;omega
 replace z:SF OB W Wg C n K1 V/\WgLive link.tWg Wg V:=⟨hS,ab⟩
 clear ae hS ab hV au a7 aq;walk_nrm;refine kK.op rfl rfl (by k_ne) λag av=>?_;replace z:=kE z av;have bm:=(av.block bi a8).trans Y;clear av Y;have ae:Gu (lS Wg C n) none K1 ag (ag.alloc (.cells #[.int .u32 0,.int .u32 0,.string ⟨#[]⟩] 68)) #[]:=Jb z.1.hC _;refine⟨_,_,Ry rfl,by rw[Yc rfl];exact ae,?_⟩;have hS:=z.1.gu ae λb hb=>by rw[bd b hb];exact bl
 obtain⟨E,ap⟩:∃E,ag.heap.size=E:=⟨_,rfl⟩
 have cl:bi<E:=by rw[<-ap];exact(z.1.ko bi a8).1
 obtain⟨V2,hV⟩:∃V,ag.alloc (.cells #[.int .u32 0,.int .u32 0,.string ⟨#[]⟩] 68)=V:=⟨_,rfl⟩
 have ah:V2.heap[E]? =some (.cells #[.int .u32 0,.int .u32 0,.string ⟨#[]⟩] 68):=by rw[<-hV,<-ap];exact heap_alloc_new _ _
 have a7:V2.heap.size=E+1:=by rw[<-hV,<-ap];simp
 have Y:V2.heap[bi]? =some (.cells #[.int .i64 0] 3):=by
  rw[<-hV]
  show(ag.heap.push _)[bi]? =_
  rw[fH (by omega),<-bU];exact bm
 have ab:WgLive link.tWg Wg V2:=let ⟨st,sm,hl⟩:=z.2;⟨st,sm,hl.of_block (by rw[<-hV];exact ae.block _ z.1.hG (λh=>(z.1.ko _ (z.1.kw _ h)).2.1 rfl) λ_=>rfl)⟩
 rw[hV]at hS;rw[hV,ap];rw[ap]at hS;obtain⟨K2,aj⟩:∃K2,K1.grow E V2.heap.size=K2:=⟨_,rfl⟩
 rw[aj]at hS⊢;have af:K2.O E:=by rw[<-aj];exact .inr ⟨jA,by omega⟩
 have aw:K2.W E:=by rw[<-aj];exact .inr ⟨jA,by omega⟩
 have J:K2.O bi:=by rw[<-aj];exact .inl a8
 have b1:∀b,K2.W b->b=bi\/b=E:=by rw[<-aj];exact λb hb=>hb.elim (λh=>.inl (bd b h)) λh=>.inr (by omega)
 have b2:¬OB E:=λh=>by have:=(z.1.ko E (z.1.sub E h)).1;omega
 have az:K2.W bi:=by rw[<-aj];exact .inl bg
 replace z:SF OB W Wg C n K2 V2/\WgLive link.tWg Wg V2:=⟨hS,ab⟩
 clear ae hS ab hV aj a7 ap bm;walk_nrm;have bp:bi≠C:=(z.1.ko bi J).2.2;have bs:E≠C:=(z.1.ko E af).2.2;have br:bi≠Wg:=(z.1.ko bi J).2.1;have bj:E≠Wg:=(z.1.ko E af).2.1;have bu:∀b,K2.W b->¬OB b:=λb hb=>by rcases b1 b hb with rfl|rfl<;>assumption
 refine kK.opn rfl rfl (by k_ne) λaa am=>?_;replace z:=kE z am;have i5:=(am.block bi J).trans Y;have x5:=(am.block E af).trans ah;clear am Y ah;have ar:Gu (lS Wg C n) none K2 aa (aa.setCell ⟨bi,0,none⟩ (.int .i64 j)) #[]:=Sv az (z.1.ko bi J).1 bp (by simp);refine⟨_,SE rfl rfl rfl i5,Sv az (z.1.ko bi J).1 bp λe he=>Xm he rfl rfl rfl i5,?_⟩;have ai:=(jS aa ⟨bi,0,none⟩ (.int .i64 j)).2.2.2;have hS:=z.1.gu ar bu;rw[ai,kG]at hS;rw[ai,kG];have ab:WgLive link.tWg Wg (aa.setCell ⟨bi,0,none⟩ (.int .i64 j)):=let ⟨st,sm,hl⟩:=z.2;⟨st,sm,hl.of_block (kD (Ne.symm br))⟩
 have Y:(aa.setCell ⟨bi,0,none⟩ (.int .i64 j)).heap[bi]? =some (.cells #[.int .i64 j] 3):=OU i5;have ah:(aa.setCell ⟨bi,0,none⟩ (.int .i64 j)).heap[E]? =some (.cells #[.int .u32 0,.int .u32 0,.string ⟨#[]⟩] 68):=(kD (by show E≠bi;omega)).trans x5;replace z:SF OB W Wg C n K2 _/\WgLive link.tWg Wg _:=⟨hS,ab⟩
 clear ar hS ab ai i5 x5;generalize aa.setCell ⟨bi,0,none⟩ (.int .i64 j)=V5 at *;walk_nrm;refine kK.opn rfl rfl (by k_ne) λR ak=>?_;replace z:=kE z ak;have i6:=(ak.block bi J).trans Y;have x6:=(ak.block E af).trans ah;clear ak Y ah;have ar:Gu (lS Wg C n) none K2 R (ug R E (.int .u32 (fr j)) (.int .u32 (ad j)) (.string (data j))) #[]:=NS aw (z.1.ko E af).1 bs (by simp);refine⟨_,SQ rfl rfl rfl x6,NS aw (z.1.ko E af).1 bs λe he=>XZ he rfl rfl rfl x6,?_⟩;obtain⟨_,_,_,ai,a3⟩:=CV R E (.int .u32 (fr j)) (.int .u32 (ad j)) (.string (data j));have hS:=z.1.gu ar bu;rw[ai,kG]at hS;rw[ai,kG];have ab:WgLive link.tWg Wg (ug R E (.int .u32 (fr j)) (.int .u32 (ad j)) (.string (data j))):=let ⟨st,sm,hl⟩:=z.2;⟨st,sm,hl.of_block (a3 _ (Ne.symm bj))⟩
 have ah:(ug R E (.int .u32 (fr j)) (.int .u32 (ad j)) (.string (data j))).heap[E]? =some (.cells (zL (fr j) (ad j) (data j)) 68):=TQ x6;have Y:(ug R E (.int .u32 (fr j)) (.int .u32 (ad j)) (.string (data j))).heap[bi]? =some (.cells #[.int .i64 j] 3):=(a3 bi (by omega)).trans i6;replace z:SF OB W Wg C n K2 _/\WgLive link.tWg Wg _:=⟨hS,ab⟩
 clear ar hS ab ai i6 x6 a3;generalize ug R E (.int .u32 (fr j)) (.int .u32 (ad j)) (.string (data j))=V6 at *;walk_nrm;replace z:(SF OB W Wg C n K2 V6/\V6.heap[bi]? =some (.cells #[.int .i64 j] 3)/\V6.heap[E]? =some (.cells (zL (fr j) (ad j) (data j)) 68))/\WgLive link.tWg Wg V6:=⟨⟨z.1,Y,ah⟩,z.2⟩
 clear Y ah
 have ac:∀w w',En (lS Wg C n) none K2 w w'->(SF OB W Wg C n K2 w/\w.heap[bi]? =some (.cells #[.int .i64 j] 3)/\w.heap[E]? =some (.cells (zL (fr j) (ad j) (data j)) 68))->(SF OB W Wg C n K2 w'/\w'.heap[bi]? =some (.cells #[.int .i64 j] 3)/\w'.heap[E]? =some (.cells (zL (fr j) (ad j) (data j)) 68)):=
  λw w' r h=>⟨h.1.en r,(r.block bi J).trans h.2.1,(r.block E af).trans h.2.2⟩
 have b4:∀w w',Go.Conc.Aside Wg w w'->(SF OB W Wg C n K2 w/\w.heap[bi]? =some (.cells #[.int .i64 j] 3)/\w.heap[E]? =some (.cells (zL (fr j) (ad j) (data j)) 68))->(SF OB W Wg C n K2 w'/\w'.heap[bi]? =some (.cells #[.int .i64 j] 3)/\w'.heap[E]? =some (.cells (zL (fr j) (ad j) (data j)) 68)):=
  λw w' r h=>⟨h.1.wg ba r,(r.block bi br).trans h.2.1,(r.block E bj).trans h.2.2⟩
 refine kK.go (n:=20) ?_;u_c stepG_region_end (jy ac) z;u_c stepG_seq (jy ac) z;u_reg (jy ac) z;u_in (jy ac) z;refine goes_call rfl rfl (by k_ne) rfl wgLib.f_add (nm_add link) rfl ⟨by u_nil,?_⟩;walk_nrmf addFn;refine Goes.stop λbn ay=>?_;replace z:=jy ac z ay;clear ay;refine addPos (L:=link) (P:=Tryz.prog) wgLib ac b4 ?_ bn z;clear z;intro b6 z;walk_nrm;refine Way.go (n:=20) ?_;u_c stepG_region_end (jy ac) z;u_reg (jy ac) z;u_op (jy ac) z;refine Goes.stop λbv an=>Way.stop λwa ha=>?_;replace z:=jy ac (jy ac z an) ha;clear an ha;refine⟨rfl,?_⟩;rw[stepG_spawn (d:=IC Wg bc E bf bi) (w':=wa) (f:=.func 108) (c:=#[.pointer (some ⟨Wg,0,none⟩),.pointer (some ⟨bc,0,none⟩),.pointer (some ⟨E,0,none⟩),.pointer (some ⟨bf,0,none⟩),.pointer (some ⟨bi,0,none⟩)]) rfl rfl (by k_ne) (by simp[go_sem,IC,Deferred.ofValue]) rfl];generalize hL:listed _ _ _ _ _=Lx
 have b3:Lx=#[]:=by
  rw[<-hL];simp[listed,go_sem,seen,Deferred.ofValue];rfl
 subst b3;clear hL
 have a9:∀b,(b=bc\/b=E\/b=bf\/b=bi)->K2.O b:=by
  rintro b (rfl|rfl|rfl|rfl)
  ·exact z.1.1.sub _ bb
  ·exact af
  ·exact z.1.1.sub _ bk
  ·exact J
 refine⟨_,_,⟨K2.O,λ_=>False⟩,⟨λb=>b=bc\/b=E\/b=bf\/b=bi,λ_=>False⟩,rfl,rfl,λ_ h=>h,λ_ h=>h.elim,a9,λ_ h=>h.elim,λ_ h=>h.elim,λ_ h=>h.elim,λ_ h=>h.elim,λ_ h=>h.elim,λbq a5=>?_,?_⟩
 ·refine kK.mono (kK.keep (X:=λb=>b=bc\/b=bf) (B:=W.heap.size) (MV rd hj ba b0 hd ⟨(z.1.1.old bc bb).trans bz,z.1.2.2,(z.1.1.old bf bk).trans b5,z.1.2.1,a5,bq⟩ ⟨.inl rfl,.inr (.inl rfl),.inr (.inr (.inl rfl)),.inr (.inr (.inr rfl)),λ_ h=>h.elim,λb hb=>(z.1.1.ko b (a9 b hb)).1,z.1.1.hC,z.1.1.hG,λb hb=>(z.1.1.ko b (a9 b hb)).2.2,z.1.1.glob⟩) (λb hb=>by
   rcases hb with rfl|rfl|rfl|rfl
   ·exact .inl (.inl rfl)
   ·exact .inr ((z.1.1.new _ af).resolve_left b2)
   ·exact .inl (.inr rfl)
   ·exact .inr ((z.1.1.new _ J).resolve_left bl)) z.1.1.siz) λK g w x=>let ⟨⟨v,h1,h2⟩,h3⟩:=x;⟨v,h1,h2,h3⟩
 ·
  replace z:SF OB W Wg C n ⟨K2.O,λ_=>False⟩ wa/\WgLive link.tWg Wg wa:=⟨⟨z.1.1.sub,z.1.1.old,λ_ h=>h.elim,z.1.1.ko,z.1.1.pay,z.1.1.hC,z.1.1.hG,z.1.1.glob,z.1.1.new,z.1.1.siz,z.1.1.still,z.1.1.low⟩,z.2⟩
  have cj:IntKind.i64.wrap ((j:Int)+1)=((j+1:Nat):Int):=by rw[IntKind.wrap_i64];omega
  walk_nrm;refine Way.go (n:=20) ?_;u_c stepG_region_end kE z;u_c stepG_inBlock kE z;u_reg kE z
  iterate 2 u_op kE z
  u_c stepG_region_end kE z;u_c stepG_inLoop kE z;refine Goes.stop λbv an=>?_;replace z:=kE z an;refine a6 _ _ _ ⟨_,rfl,?_,?_,?_,?_,?_,?_,?_⟩ z λ_ h=>h
  all_goals simp
end
end
section
variable {tx:Option Addr}
section
variable {OB:Nat->Prop}{W:World}{Wg C n cap bc bf tb q0:Nat}{cs:List Frame}{inbox batcher t0 t1 t2 t3 t4:Int}{fr ad:Nat->Int}{data:Nat->ByteArray}{fs:Nat->List Fr.F}
structure Tz(OB:Nat->Prop)(W:World)(tx:Option Addr)(tb q0 n:Nat)(fr ad:Nat->Int)(data:Nat->ByteArray):Prop where
 at_:0<n->tx=some ⟨tb,q0,none⟩/\OB tb
 cell:∀j,j<n->W.cell? ⟨tb,q0+j*3,none⟩=some (.int .u32 (fr j))/\W.cell? ⟨tb,q0+j*3+1,none⟩=some (.int .u32 (ad j))/\W.cell? ⟨tb,q0+j*3+2,none⟩=some (.string (data j))
 size:∀j,j<n->(data j).size<=1048576
theorem Lm(rd:ReadW)(J:C≠Wg)(hn:n<9223372036854775808)(R:OB bc)(I:OB bf)(ab:W.heap[bc]? =some (.cells (cfg inbox batcher t0 t1 t2 t3 t4) 24))(ac:W.heap[bf]? =some (.cells #[.slice (some ⟨C,0,none⟩) n n] 29))
  (hx:Tz OB W tx tb q0 n fr ad data) (aa:∀j,j<n->fs j=Fr.lQ inbox batcher (fr j) (ad j) (data j).data.toList):
  ∀(r j:Nat),j+r=n->∀(K:jU)(g:Goroutine)(w:World),N9 tx n cap Wg bc bf j cs g->SF OB W Wg C n K w/\WgLive link.tWg Wg w->(∀b,¬K.W b)->pX Tryz.prog (lS Wg C n) (AnchS OB W Wg C n bf cs) (leftB bc bf W fs) r K g w:=by
 intro r
 induction r with
 |zero=>
  intro j hj K g w Y hF _;obtain rfl:j=n:=by omega
  exact Pm tx Y hF
 |succ r ih=>
  intro j hj K g w Y hF hK
  obtain⟨St',E⟩:∃St':jU->Goroutine->World->Prop,pX Tryz.prog (lS Wg C n) (AnchS OB W Wg C n bf cs) (leftB bc bf W fs) r=λK g w=>Way Tryz.prog (lS Wg C n) St' K g w:=by
   cases r with
   |zero=>exact⟨_,rfl⟩
   |succ r=>exact⟨_,rfl⟩
  obtain⟨rfl,ae⟩:=hx.at_ (by omega);have z:j<n:=by omega
  have h:=JH rd (St':=St') J z hn ae R I ab ac (hx.cell j z) (aa j z) (hx.size j z) Y hF hK λK g w h1 h2 h3=>by
   have:=ih (j+1) (by omega) K g w h1 h2 h3;rw[E]at this;exact this
  show ∃T,jM Tryz.prog true (lS Wg C n) none (Jr Tryz.prog (lS Wg C n) (leftB bc bf W fs) (n-(r+1)) (pX Tryz.prog (lS Wg C n) (AnchS OB W Wg C n bf cs) (leftB bc bf W fs) r)) T K g w
  rw[E,show n-(r+1)=j by omega];exact h
noncomputable def UL:Code:=match Tryz.f71.body with
 |some (.seq _ (.seq _ (.seq _ (.seq c _))))=>c
 |_=>.skip
theorem QE(rd:ReadW)(R:C≠Wg)(hn:n<9223372036854775808)(Y:OB bc)(J:OB bf)(ab:W.heap[bc]? =some (.cells (cfg inbox batcher t0 t1 t2 t3 t4) 24))(ac:W.heap[bf]? =some (.cells #[.slice (some ⟨C,0,none⟩) n n] 29))
  (hx:Tz OB W tx tb q0 n fr ad data) (aa:∀j,j<n->fs j=Fr.lQ inbox batcher (fr j) (ad j) (data j).data.toList) {K:jU} {w:World} {T:Array Value} (hT:T.size=24) (t1:T[1]? =some (.slice tx n cap)) (t2:T[2]? =some (.pointer (some ⟨bc,0,none⟩))) (t5:T[5]? =some (.pointer (some ⟨bf,0,none⟩))) (t6:T[6]? =some (.pointer (some ⟨Wg,0,none⟩)))
  (z:SF OB W Wg C n K w/\WgLive link.tWg Wg w) (hK:∀b,¬K.W b):pX Tryz.prog (lS Wg C n) (AnchS OB W Wg C n bf cs) (leftB bc bf W fs) n K (G (bS.at ⟨T,[]⟩ [.code UL,.code wI]) cs) w:=by
 obtain⟨St',ae⟩:∃St':jU->Goroutine->World->Prop,pX Tryz.prog (lS Wg C n) (AnchS OB W Wg C n bf cs) (leftB bc bf W fs) n=λK g w=>Way Tryz.prog (lS Wg C n) St' K g w:=by
  cases n with
  |zero=>exact⟨_,rfl⟩
  |succ r=>exact⟨_,rfl⟩
 have hl:=Lm (cap:=cap) (cs:=cs) rd R hn Y J ab ac hx aa n 0 (by omega);rw[ae]at hl⊢;obtain⟨v0,v1,v2,v3,v4,v5,v6,v7,v8,v9,ag,ar,ai,af,ap,aj,ao,aq,au,am,ak,ah,an,av,rfl⟩:=Aa T hT;simp only[dY,dX,dQ,aC]at t1 t2 t5 t6;subst t1 t2 t5 t6;simp only[UL,Tryz.f71];refine Way.go (n:=20) ?_;u_c stepG_seq kE z;u_reg kE z
 iterate 3 u_op kE z
 u_c stepG_region_end kE z;u_c stepG_block kE z;u_c stepG_loop kE z;refine Goes.stop λI E=>?_;replace z:=kE z E;refine hl K _ I ⟨_,rfl,?_,?_,?_,?_,?_,?_,?_⟩ z hK
 all_goals simp
end
end
section
variable {n b:Nat}
section
variable {w:World}{a:Act}{o:Oper}
theorem abk{inbox batcher t0 t1 t2 t3 t4:Int}(E:a.eval (.tmp 0)=.agg (cfg inbox batcher t0 t1 t2 t3 t4))(z:o.op=.box 24 (.tmp 0)):
  (execOp a.eval o).run Tryz.prog w=.ok (.value (.pointer (some ⟨w.heap.size,0,none⟩))) (w.alloc (.cells (cfg inbox batcher t0 t1 t2 t3 t4) 24))/\(execOp a.eval o).events Tryz.prog w #[]=#[]:=by
 constructor
 ·unfold execOp;simp only[z,E];simp[go_sem]
 ·unfold execOp;simp only[z,E];simp[go_sem]
theorem aa5(z:o.op=.alloc 29):(execOp a.eval o).run Tryz.prog w=.ok (.value (.pointer (some ⟨w.heap.size,0,none⟩))) (w.alloc (.cells #[.slice none 0 0] 29))/\(execOp a.eval o).events Tryz.prog w #[]=#[]:=by
 constructor
 ·unfold execOp;simp only[z];simp[go_sem]
 ·unfold execOp;simp only[z];simp[go_sem]
theorem abg(z:o.op=.alloc 211):(execOp a.eval o).run Tryz.prog w=.ok (.value (.pointer (some ⟨w.heap.size,0,none⟩))) (w.alloc (.cells #[.int .u64 0,.int .u32 0] 211))/\(execOp a.eval o).events Tryz.prog w #[]=#[]:=by
 constructor
 ·unfold execOp;simp only[z];simp[go_sem]
 ·unfold execOp;simp only[z];simp[go_sem]
theorem aaW:(Tryz.prog.info? 76).map (λi=>(i.zero,i.size,i.bytes))=some (some (.slice none 0 0),1,24):=by kernel_rfl
theorem aa6:Tryz.prog.underlying 29=some (.slice 76):=by kernel_rfl
theorem abd(hn:n<=16777216)(h:a.eval (.tmp 10)=.int .i64 n)(J:o.op=.makeSlice 29 (.tmp 10) (.tmp 10)):
  (execOp a.eval o).run Tryz.prog w=.ok (.value (.slice (some ⟨w.heap.size,0,none⟩) n n)) (w.alloc (.cells (madeCells #[.slice none 0 0] n) 76))/\(execOp a.eval o).events Tryz.prog w #[]=#[]:=by
 obtain⟨i0,hi,I,Y,z⟩:=info_parts aaW;have E:=run_make (P:=Tryz.prog) w 29 76 i0 (.slice none 0 0) aa6 hi I .i64 .i64 n n (by omega) (by omega) (by rw[z];omega) (by omega);have R:=λes=>events_make (P:=Tryz.prog) w 29 76 i0 (.slice none 0 0) aa6 hi I .i64 .i64 n n (by omega) (by omega) (by rw[z];omega) (by omega) (by rw[z];simp;omega) es;rw[Y]at E;simp only[Int.toNat_natCast,Nat.mul_one]at E;constructor
 ·unfold execOp;simp only[J,h];simp[go_sem,E,Value.cells]
 ·unfold execOp;simp only[J,h];simp[go_sem,R]
theorem Yl{C:Nat}{u:Value}(R:w.heap[b]? =some (.cells #[u] 29))(I:a.eval (.tmp 5)=.pointer (some ⟨b,0,none⟩))(z:a.eval (.tmp 11)=.slice (some ⟨C,0,none⟩) n n)(E:o.op=.store 29 (.tmp 5) (.tmp 11)):
  (execOp a.eval o).run Tryz.prog w=.ok .skip (w.setCell ⟨b,0,none⟩ (.slice (some ⟨C,0,none⟩) n n))/\∀e∈(execOp a.eval o).events Tryz.prog w #[],e=⟨.cell ⟨b,0,none⟩,true,false⟩:=by
 have J:w.cell? ⟨b,0,none⟩=some u:=by simp[World.cell?,R]
 have Y:w.frozen? ⟨b,0,none⟩=false:=by simp[World.frozen?,R]
 constructor
 ·unfold execOp;simp only[E,I,z];simp[go_sem,stored,J,Y]
 ·unfold execOp;simp only[E,I,z];simp[go_sem,J,Y,events_store _ _ _ _ _ _ (show(Value.slice (some ⟨C,0,none⟩) n n).oneCell'=true from rfl)]
theorem Ym{s:Option Addr}{m:Nat}(J:w.heap[b]? =some (.cells #[.slice s n m] 29))(E:a.eval (.tmp 5)=.pointer (some ⟨b,0,none⟩))(z:o.op=.load 29 (.tmp 5)):
  (execOp a.eval o).run Tryz.prog w=.ok (.value (.slice s n m)) w/\∀e∈(execOp a.eval o).events Tryz.prog w #[],e=⟨.cell ⟨b,0,none⟩,false,false⟩:=by
 have I:w.cell? ⟨b,0,none⟩=some (.slice s n m):=by simp[World.cell?,J]
 constructor
 ·unfold execOp;simp only[z,E];simp[go_sem,I]
 ·unfold execOp;simp only[z,E];simp[go_sem,I]
end
end
section
variable {v:Value}
section
variable {P:Program}{Post:Value->World->Prop}{Dead:Nat->Prop}
theorem nN.go:∀{n:Nat}{g:Goroutine}{w:World},Go.Conc.Goes P true AtRel DC0 (nN P Post Dead) n g w->nN P Post Dead g w:=by
 intro n
 induction n with
 |zero=>exact λ{g w} h=>h w (atRel_refl w)
 |succ n ih=>
  intro g w h;rcases h with h|⟨E,hs⟩
  ·exact h w (atRel_refl w)
  ·refine .step E λd=>?_;have:=hs (w.at d) ⟨d,rfl⟩;cases e:stepG P true g (w.at d)with
   |go g' w' es=>
    rw[e,goes_go]at this;obtain⟨⟨rfl,rfl⟩,hG⟩:=this;exact⟨g',_,_,rfl,jA,λe z=>by simp at z,ih hG⟩
   |_=>rw[e]at this;exact this.elim
theorem qj.go{B:Nat}:∀{n:Nat}{g:Goroutine}{w:World},Go.Conc.Goes P true AtRel DC0 (qj P Post Dead B) n g w->qj P Post Dead B g w:=by
 intro n
 induction n with
 |zero=>exact λ{g w} h=>h w (atRel_refl w)
 |succ n ih=>
  intro g w h;rcases h with h|⟨E,hs⟩
  ·exact h w (atRel_refl w)
  ·refine .step E λd=>?_;have:=hs (w.at d) ⟨d,rfl⟩;cases e:stepG P true g (w.at d)with
   |go g' w' es=>
    rw[e,goes_go]at this;obtain⟨⟨rfl,rfl⟩,hG⟩:=this;exact⟨g',_,_,B,rfl,jA,λe z=>by simp at z,ih hG⟩
   |_=>rw[e]at this;exact this.elim
section
variable {w w':World}{b:Frame}{a:Act}{k:List Item}{cs:List Frame}{ops:Array Oper}{i:Nat}{rest:List Nat}{o:Oper}
theorem nN.tZ(z:ops[i]? =some o)(hw:Region.wanted o (yielded ops a.tmps)=true)(hk:b.kind≠.early)(I:∀d,(execOp a.eval o).run P (w.at d)=.ok (.value v) (w'.at d))(hs:w.heap.size<=w'.heap.size)
  (E:∀d,∀e∈(execOp a.eval o).events P (w.at d) #[],EvL (Vg Dead) w'.heap.size e) (h:nN P Post Dead (G (b.at (a.put o.dst v) (.inRegion ops rest::k)) cs) w'):nN P Post Dead (G (b.at a (.inRegion ops (i::rest)::k)) cs) w:=
 .op z hw hk λd=>⟨v,w'.at d,I d,hs,λe h=>E d e (mem_listed h),h.at d⟩
theorem nN.aco(z:ops[i]? =some o)(hw:Region.wanted o (yielded ops a.tmps)=true)(hk:b.kind≠.early)(I:∀d,(execOp a.eval o).run P (w.at d)=.ok .skip (w'.at d))(hs:w.heap.size<=w'.heap.size)
  (E:∀d,∀e∈(execOp a.eval o).events P (w.at d) #[],EvL (Vg Dead) w'.heap.size e) (h:nN P Post Dead (G (b.at (a.put o.dst undef) (.inRegion ops rest::k)) cs) w'):nN P Post Dead (G (b.at a (.inRegion ops (i::rest)::k)) cs) w:=
 .opn z hw hk λd=>⟨w'.at d,I d,hs,λe h=>E d e (mem_listed h),h.at d⟩
theorem qj.acJ{B:Nat}(z:ops[i]? =some o)(hw:Region.wanted o (yielded ops a.tmps)=true)(hk:b.kind≠.early)(I:∀d,(execOp a.eval o).run P (w.at d)=.ok (.value v) (w'.at d))
  (E:∀d,(execOp a.eval o).events P (w.at d) #[]=#[]) (h:qj P Post Dead B (G (b.at (a.put o.dst v) (.inRegion ops rest::k)) cs) w'):qj P Post Dead B (G (b.at a (.inRegion ops (i::rest)::k)) cs) w:=
 .step rfl λd=>⟨_,w'.at d,_,B,stepG_value z hw hk (I d),jA,λe h=>by have:=mem_listed h;rw[E d]at this;simp at this,h.at d⟩
theorem Gp{es:Array Event}{p:Event->Prop}(h:es=#[]):∀e∈es,p e:=λe z=>by rw[h]at z;simp at z
end
theorem at_rl{w0 w z:World}(h:AtRel w0 w)(r:AtRel w z):AtRel w0 z:=atRel_trans _ _ _ h r
end
noncomputable def Vr:Code:=Tryz.f71.body.getD .skip
def lT(w:World)(c:Array Value)(n:Nat):World:=
 ((((w.alloc (.cells c 24)).alloc (.cells (madeCells #[.slice none 0 0] n) 76)).alloc (.cells #[.slice none 0 0] 29)).setCell ⟨w.heap.size+2,0,none⟩ (.slice (some ⟨w.heap.size+1,0,none⟩) n n)).alloc (.cells #[.int .u64 0,.int .u32 0] 211)
section
variable {Post:Value->World->Prop}{Dead:Nat->Prop}{w:World}{tx:Option Addr}{n cap:Nat}{cs:List Frame}{inbox batcher t0 t1 t2 t3 t4:Int}
theorem Gj(hn:n<=16777216)(hD:∀b,Dead b->b<w.heap.size)
  (ab:∀T:Array Value,T.size=24->T[1]? =some (.slice tx n cap)->T[2]? =some (.pointer (some ⟨w.heap.size,0,none⟩))->T[5]? =some (.pointer (some ⟨w.heap.size+2,0,none⟩))->T[6]? =some (.pointer (some ⟨w.heap.size+3,0,none⟩))->
   qj Tryz.prog Post Dead (w.heap.size+3) (G (bS.at ⟨T,[]⟩ [.code UL,.code wI]) cs) (lT w (cfg inbox batcher t0 t1 t2 t3 t4) n)):
  nN Tryz.prog Post Dead (G (bS.at ⟨#[.agg (cfg inbox batcher t0 t1 t2 t3 t4),.slice tx n cap,undef,undef,undef,undef,undef,undef,undef,undef,undef,undef,undef,undef,undef,undef,undef,undef,undef,undef,undef,undef,undef,undef],[]⟩ [.code Vr]) cs) w:=by
 have E:AtRel w w:=atRel_refl w;simp only[Vr,Tryz.f71,fB];refine nN.go (n:=20) ?_;u_c stepG_seq at_rl E;u_reg at_rl E;refine Goes.stop λI z=>?_;obtain⟨d,rfl⟩:=at_rl E z;refine nN.at ?_ d;clear E z;refine nN.tZ (v:=.pointer (some ⟨w.heap.size,0,none⟩)) (w':=w.alloc (.cells (cfg inbox batcher t0 t1 t2 t3 t4) 24)) rfl rfl (by k_ne) (λd=>(abk rfl rfl).1) (by simp) (λd=>Gp (abk rfl rfl).2) ?_;obtain⟨w1,aa⟩:∃w1,w1=w.alloc (.cells (cfg inbox batcher t0 t1 t2 t3 t4) 24):=⟨_,rfl⟩
 have s1:w1.heap.size=w.heap.size+1:=by rw[aa];simp
 rw[<-aa];walk_nrm;have E:AtRel w1 w1:=atRel_refl w1;refine nN.go (n:=20) ?_;u_op at_rl E;u_c stepG_region_end at_rl E;u_c stepG_seq at_rl E;u_reg at_rl E
 iterate 2 u_op at_rl E
 refine Goes.stop λI z=>?_;obtain⟨d,rfl⟩:=at_rl E z;refine nN.at ?_ d;clear E z;refine nN.tZ (v:=.slice (some ⟨w1.heap.size,0,none⟩) n n) (w':=w1.alloc (.cells (madeCells #[.slice none 0 0] n) 76)) rfl rfl (by k_ne) (λd=>(abd hn rfl rfl).1) (by simp) (λd=>Gp (abd hn rfl rfl).2) ?_;obtain⟨w2,Y⟩:∃w2,w2=w1.alloc (.cells (madeCells #[.slice none 0 0] n) 76):=⟨_,rfl⟩
 have s2:w2.heap.size=w.heap.size+2:=by rw[Y];simp[s1]
 rw[<-Y,s1];walk_nrm;refine nN.tZ (v:=.pointer (some ⟨w2.heap.size,0,none⟩)) (w':=w2.alloc (.cells #[.slice none 0 0] 29)) rfl rfl (by k_ne) (λd=>(aa5 rfl).1) (by simp) (λd=>Gp (aa5 rfl).2) ?_;obtain⟨w3,J⟩:∃w3,w3=w2.alloc (.cells #[.slice none 0 0] 29):=⟨_,rfl⟩
 have s3:w3.heap.size=w.heap.size+3:=by rw[J];simp[s2]
 have b3:w3.heap[w.heap.size+2]? =some (.cells #[.slice none 0 0] 29):=by rw[J,<-s2];exact heap_alloc_new _ _
 rw[<-J,s2];walk_nrm
 refine nN.aco (w':=w3.setCell ⟨w.heap.size+2,0,none⟩ (.slice (some ⟨w.heap.size+1,0,none⟩) n n)) rfl rfl (by k_ne) (λd=>(Yl (w:=w3.at d) b3 rfl rfl rfl).1) (jo (jS w3 _ _).2.2.2.symm)
  (λd e he=>by
   rw[(Yl (w:=w3.at d) b3 rfl rfl rfl).2 e he];refine evL_cell _ _ (λ⟨a,e,h⟩=>?_) ?_
   ·cases e;have:w.heap.size+2<w.heap.size:=hD _ h;omega
   ·rw[(jS w3 _ _).2.2.2,s3]
    show w.heap.size+2<_
    omega) ?_
 obtain⟨w4,R⟩:∃w4,w4=w3.setCell ⟨w.heap.size+2,0,none⟩ (.slice (some ⟨w.heap.size+1,0,none⟩) n n):=⟨_,rfl⟩
 have s4:w4.heap.size=w.heap.size+3:=by rw[R,(jS w3 _ _).2.2.2,s3]
 rw[<-R];walk_nrm
 show qj _ _ _ w4.heap.size _ _
 rw[s4];have E:AtRel w4 w4:=atRel_refl w4;refine qj.go (n:=20) ?_;u_c stepG_region_end at_rl E;u_c stepG_seq at_rl E;u_reg at_rl E;refine Goes.stop λI z=>?_;obtain⟨d,rfl⟩:=at_rl E z;refine qj.at ?_ d;clear E z;refine qj.acJ (v:=.pointer (some ⟨w4.heap.size,0,none⟩)) (w':=w4.alloc (.cells #[.int .u64 0,.int .u32 0] 211)) rfl rfl (by k_ne) (λd=>(abg rfl).1) (λd=>(abg rfl).2) ?_;obtain⟨w5,ac⟩:∃w5,w5=w4.alloc (.cells #[.int .u64 0,.int .u32 0] 211):=⟨_,rfl⟩
 rw[<-ac,s4];walk_nrm;have E:AtRel w5 w5:=atRel_refl w5;refine qj.go (n:=20) ?_;u_c stepG_region_end at_rl E;u_c stepG_seq at_rl E;refine Goes.stop λI z=>?_;obtain⟨d,rfl⟩:=at_rl E z;refine qj.at ?_ d;have e5:w5=lT w (cfg inbox batcher t0 t1 t2 t3 t4) n:=by rw[ac,R,J,Y,aa];rfl
 rw[e5];have:=λT h0 h1 h2 h3 h4=>ab T h0 h1 h2 h3 h4;simp only[UL,wI,Tryz.f71]at this;refine this _ ?_ ?_ ?_ ?_ ?_
 all_goals simp
end
end
end Cr
end Go.Proofs.YtpibpdpedjinhaaGreatDoor
