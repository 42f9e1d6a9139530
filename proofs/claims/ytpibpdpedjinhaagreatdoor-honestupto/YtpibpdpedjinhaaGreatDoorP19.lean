import Derived.Test.YtpibpdpedjinhaaGreatDoorP15
import Derived.Test.YtpibpdpedjinhaaGreatDoorP18
set_option maxRecDepth 100000
set_option maxHeartbeats 8000000
set_option linter.all false
open Bool renaming false->aL,true->bB
open Go renaming Frame->cU,Goroutine->bO,Value->aD,World->U,execOp->bL,heap_alloc_new->cX,stepG->eB,undef->aE
open Go.Act renaming eval->lL,put->iv
open Go.Conc renaming mem_listed->jp,stepG_region_end->bA,stepG_seq->bR
open Go.Conc.Goes renaming stop->cI
open Go.ConcN renaming WgLive->j9
open Go.IntKind renaming i64->X,u32->dE,wrap_i64->cP
open Go.Obj renaming cells->aG
open Go.Operand renaming tmp->eC
open Go.Proofs.Tryz renaming prog->bE
open Go.Region renaming ready->fI,schedule->ov,wanted->cT
open Go.Value renaming int->N,pointer->aM,string->aH
open Go.World renaming cell?->fR,frozen?->l8,setCell->eW
open Option renaming none->Z,some->M
open Or renaming inl->cJ,inr->cK
namespace Go.Proofs.YtpibpdpedjinhaaGreatDoor
namespace Cr
open Go Go.Conc Go.ConcN Go.RowKit Go.Conc.Lib Go.ConcR.Gen Go.ConcN.Gen
open Go.ConcR (KK WgAt stA smA Payload DC0)
section
def bW:cU:=baseD 108
noncomputable def MJ:cU:={ (default:cU)with fn:=Tryz.prog.funcs.size,defers:=[],mode:=.panicking [goexitEntry] }
noncomputable def Zj:Code:=Tryz.f108.body.getD .skip
section
variable (Wg C n i bc bx bf bi:Nat)(inbox batcher t0 t1 t2 t3 t4 fr ad:Int)(data:ByteArray)
def Lm:Deferred:={ target:=.fn (.func 108) #[aM (M ⟨Wg,0,Z⟩),aM (M ⟨bc,0,Z⟩),aM (M ⟨bx,0,Z⟩),aM (M ⟨bf,0,Z⟩),aM (M ⟨bi,0,Z⟩)],args:=#[] }
def QW(l:Bool)(v:aD):aD:=if l then v else aE
def slots(l:Array Bool)(v:aD):Array aD:=#[aM (M ⟨Wg,0,Z⟩),aM (M ⟨bc,0,Z⟩),aM (M ⟨bx,0,Z⟩),aM (M ⟨bf,0,Z⟩),aM (M ⟨bi,0,Z⟩),
 QW (l.getD 0 aL) (.slice (M ⟨C,0,Z⟩) n n),QW (l.getD 1 aL) (N X i),QW (l.getD 2 aL) (.agg (cfg inbox batcher t0 t1 t2 t3 t4)),QW (l.getD 3 aL) (.agg (BK fr ad data)),QW (l.getD 4 aL) v,QW (l.getD 5 aL) (aM (M ⟨C,i,Z⟩))]
end
section
variable {Wg C n i bc bx bf bi:Nat}{inbox batcher t0 t1 t2 t3 t4 fr ad:Int}{data:ByteArray}
theorem born_step(w:U):eB bE aL (born bE (Lm Wg bc bx bf bi)) w=.go (G (bW.at ⟨#[aM (M ⟨Wg,0,Z⟩),aM (M ⟨bc,0,Z⟩),aM (M ⟨bx,0,Z⟩),aM (M ⟨bf,0,Z⟩),aM (M ⟨bi,0,Z⟩),aE,aE,aE,aE,aE,aE],[]⟩ [.code Zj]) [MJ]) w #[]:=by
 simp[born,Lm,eB,unwind,callDeferred,invoke,callFunc,Tryz.func108,Tryz.f108,seen,GStep.after,G,Frame.enter,Frame.at,bW,baseD,MJ,Zj]
theorem quits_tail(T:Array aD):QuitsD bE 2 0 (G { bW.at ⟨T,[]⟩ []with mode:=.returning } [MJ]):=by
 refine QuitsD.ctl (g':=G MJ []) rfl (λw=>?_) ?_
 .simp[G,eB,unwind,doReturn,results,Frame.at,bW,baseD,MJ,Tryz.func108,Tryz.f108,seen,GStep.after,goexitEntry]
 refine QuitsD.ctl (g':={ G MJ []with status:=.finished }) rfl (λw=>?_) ⟨rfl,rfl⟩;simp[G,eB,unwind,MJ,goexitEntry,Frame.catches];rfl
structure KW(Wg C:Nat)(bc bx bf bi:Nat)(K:jZ)(w:U):Prop where
 c:K.O bc
 x:K.O bx
 f:K.O bf
 i:K.O bi
 sub:∀b,K.W b->K.O b
 low:∀b,K.O b->b<w.heap.size
 pay:C<w.heap.size
 grp:Wg<w.heap.size
 ne:∀b,K.O b->b≠C
 glob:Tryz.prog.globals.size<=w.heap.size
theorem sched(t:Nat)(m:Bool):ov m uU t=Region.linearise.go .any uU 7 t (Array.replicate 7 aL) []:=by
 have h:Region.departs uU=aL:=XN
 unfold ov;simp only[h,Bool.not_false,Bool.or_true,if_true];rfl
end
end
section
variable {w:U}{v:aD}{l0 l1 l2 l3 l4 l5 l6:Bool}
section
variable {Wg C n i bc bx bf bi:Nat}{inbox batcher t0 t1 t2 t3 t4 fr ad:Int}{data:ByteArray}{fs:Nat->List Fr.F}
abbrev mP(Wg C n:Nat):Who:=⟨Wg,C,n,link.tWg,C-1⟩
noncomputable def vJ(Wg C n i bc bx bf bi:Nat)(inbox batcher t0 t1 t2 t3 t4 fr ad:Int)(data:ByteArray)(l:Array Bool)(v:aD)(rest:List Nat):bO:=
 G (bW.at ⟨slots Wg C n i bc bx bf bi inbox batcher t0 t1 t2 t3 t4 fr ad data l v,[dcall link.done #[aM (M ⟨Wg,0,Z⟩)]]⟩ (.inRegion uU rest::[])) [MJ]
theorem aaF{K:jZ}{l:Array Bool}(hF:WF Wg C n i bc bx bf bi (cfg inbox batcher t0 t1 t2 t3 t4) (BK fr ad data) w)(J:KW Wg C bc bx bf bi K w)(Y:Has C i v w)(hr:rP K.O w v (fs i)):kV bE aL (mP Wg C n) (M i) (uJ bE (mP Wg C n) (leftOf fs) i) K (vJ Wg C n i bc bx bf bi inbox batcher t0 t1 t2 t3 t4 fr ad data l v []) w:=by
 have H:=wgLib;unfold vJ;have E:WF Wg C n i bc bx bf bi (cfg inbox batcher t0 t1 t2 t3 t4) (BK fr ad data) w/\Has C i v w/\rP K.O w v (fs i):=⟨hF,Y,hr⟩
 have rl:∀{w q:U},(WF Wg C n i bc bx bf bi (cfg inbox batcher t0 t1 t2 t3 t4) (BK fr ad data) w/\Has C i v w/\rP K.O w v (fs i))->En (mP Wg C n) (M i) K w q->(WF Wg C n i bc bx bf bi (cfg inbox batcher t0 t1 t2 t3 t4) (BK fr ad data) q/\Has C i v q/\rP K.O q v (fs i)):=
  λh r=>⟨h.1.en J.c J.x J.f J.i r,(r.cell i rfl).trans h.2.1,h.2.2.stands (λ_=>id) r.block⟩
 clear hF Y hr;refine kV.go (n:=10) ?_;u_c bA rl E;u_c stepG_end rl E;u_in rl E;rw[stepG_unwind_enter rfl H.f_done (nm_done link) rfl];simp only[goes_go];refine⟨by u_nil,?_⟩;refine cI λq I=>?_;replace E:=rl E I;exact abT (Q:=leftOf fs) H rfl (quits_tail _) q E.1.live E.2.1 λaa hb=>E.2.2.stands (λ_=>id) hb
structure Reg(fs:Nat->List Fr.F)(Wg C n i bc bx bf bi:Nat)(inbox batcher t0 t1 t2 t3 t4 fr ad:Int)(data:ByteArray)(l0 l1 l2 l3 l4 l5 l6:Bool)(K:jZ)(v:aD)(w:U):Prop where
 d4:l4=bB->l2=bB/\l3=bB
 d5:l5=bB->l0=bB/\l1=bB/\l2=bB/\l3=bB/\l4=bB
 d6:l6=bB->l5=bB
 wf:WF Wg C n i bc bx bf bi (cfg inbox batcher t0 t1 t2 t3 t4) (BK fr ad data) w
 kw:KW Wg C bc bx bf bi K w
 row:l4=bB->rP K.O w v (fs i)
 has:l6=bB->Has C i v w
def Cnt(q:Nat)(l0 l1 l2 l3 l4 l5 l6:Bool):Prop:=q+(l0.toNat+l1.toNat+l2.toNat+l3.toNat+l4.toNat+l5.toNat+l6.toNat)=7
theorem Reg.en{K:jZ}{q:U}(h:Reg fs Wg C n i bc bx bf bi inbox batcher t0 t1 t2 t3 t4 fr ad data l0 l1 l2 l3 l4 l5 l6 K v w)(r:En (mP Wg C n) (M i) K w q):Reg fs Wg C n i bc bx bf bi inbox batcher t0 t1 t2 t3 t4 fr ad data l0 l1 l2 l3 l4 l5 l6 K v q:=
 ⟨h.d4,h.d5,h.d6,h.wf.en h.kw.c h.kw.x h.kw.f h.kw.i r,⟨h.kw.c,h.kw.x,h.kw.f,h.kw.i,h.kw.sub,λb E=>aP (h.kw.low b E) r.size,aP h.kw.pay r.size,aP h.kw.grp r.size,h.kw.ne,bH h.kw.glob r.size⟩,
  λe=>(h.row e).stands (λ_=>id) r.block,λe=>(r.cell i rfl).trans (h.has e)⟩
def opens(l0 l1 l2 l3 l4 l5 l6:Bool):List Nat:=
 (if l0 then []else [0])++(if l1 then []else [1])++(if l2 then []else [2])++(if l3 then []else [3])++(if l4 then []else if l2&&l3 then [4]else [])++(if l5 then []else if l0&&l1&&l2&&l3&&l4 then [5]else [])++
  (if l6 then []else if l0&&l1&&l2&&l3&&l4&&l5 then [6]else [])
theorem ready_eq(l0 l1 l2 l3 l4 l5 l6:Bool):fI .any uU #[l0,l1,l2,l3,l4,l5,l6]=opens l0 l1 l2 l3 l4 l5 l6:=by
 cases l0<;>cases l1<;>cases l2<;>cases l3<;>cases l4<;>cases l5<;>cases l6<;>kernel_rfl
theorem TL{k:Nat}(h:k∈fI .any uU #[l0,l1,l2,l3,l4,l5,l6]):(k=0/\l0=aL)\/(k=1/\l1=aL)\/(k=2/\l2=aL)\/(k=3/\l3=aL)\/(k=4/\l4=aL/\l2=bB/\l3=bB)\/(k=5/\l5=aL/\l0=bB/\l1=bB/\l2=bB/\l3=bB/\l4=bB)\/(k=6/\l6=aL/\l5=bB/\l4=bB):=by
 rw[ready_eq]at h;revert h;cases l0<;>cases l1<;>cases l2<;>cases l3<;>cases l4<;>cases l5<;>cases l6<;>simp[opens]<;>omega
theorem Qe(h4:l4=bB->l2=bB/\l3=bB)(q:l5=bB->l0=bB/\l1=bB/\l2=bB/\l3=bB/\l4=bB)(E:l6=bB->l5=bB)(I:l0.toNat+l1.toNat+l2.toNat+l3.toNat+l4.toNat+l5.toNat+l6.toNat<7):fI .any uU #[l0,l1,l2,l3,l4,l5,l6]≠[]:=by
 rw[ready_eq];revert h4 q E I;cases l0<;>cases l1<;>cases l2<;>cases l3<;>cases l4<;>cases l5<;>cases l6<;>simp[opens]
end
end
section
def agt:∃o,uU[0]? =M o/\o.op=.load 29 (eC 3)/\o.dst=M 5/\o.guard=Z:=⟨_,rfl,rfl,rfl,rfl⟩
def agr:∃o,uU[1]? =M o/\o.op=.load 3 (eC 4)/\o.dst=M 6/\o.guard=Z:=⟨_,rfl,rfl,rfl,rfl⟩
def agP:∃o,uU[2]? =M o/\o.op=.load 24 (eC 1)/\o.dst=M 7/\o.guard=Z:=⟨_,rfl,rfl,rfl,rfl⟩
def agQ:∃o,uU[3]? =M o/\o.op=.load 68 (eC 2)/\o.dst=M 8/\o.guard=Z:=⟨_,rfl,rfl,rfl,rfl⟩
def agK:∃o,uU[4]? =M o/\o.op=.call { callee:=.value (.func 110),args:=#[eC 7,eC 8],argTypes:=#[24,68] }/\o.dst=M 9/\o.guard=Z:=⟨_,rfl,rfl,rfl,rfl⟩
def agN:∃o,uU[5]? =M o/\o.op=.indexAddr 29 (eC 5) (eC 6)/\o.dst=M 10/\o.guard=Z:=⟨_,rfl,rfl,rfl,rfl⟩
def agE:∃o,uU[6]? =M o/\o.op=.store 76 (eC 10) (eC 9)/\o.dst=Z/\o.guard=Z:=⟨_,rfl,rfl,rfl,rfl⟩
def kR{o:Oper}{y:Nat->Option Bool}(h:o.guard=Z):cT o y=bB:=by simp[cT,h]
section
variable {Wg C n i bc bx bf bi:Nat}{inbox batcher t0 t1 t2 t3 t4 fr ad:Int}{data:ByteArray}{fs:Nat->List Fr.F}{l0 l1 l2 l3 l4 l5 l6:Bool}{K:jZ}{v:aD}{w:U}
theorem abP(rd:ReadW)(hi:i<n)(aq:C≠Wg)(au:fs i=Fr.mg inbox batcher fr ad data.data.toList)(hd:data.size<=1048576)(t:Nat)(h:Reg fs Wg C n i bc bx bf bi inbox batcher t0 t1 t2 t3 t4 fr ad data aL aL aL aL aL aL aL K v w):kV bE aL (mP Wg C n) (M i) (uJ bE (mP Wg C n) (leftOf fs) i) K (vJ Wg C n i bc bx bf bi inbox batcher t0 t1 t2 t3 t4 fr ad data #[aL,aL,aL,aL,aL,aL,aL] v (Region.linearise.go .any uU 7 t (Array.replicate 7 aL) [])) w:=by
 refine Iw (σ:=jZ×aD×U×Array Bool) (md:=.any) (ops:=uU)
  (λak listed s=>s.2.2.2=listed/\∃l0 l1 l2 l3 l4 l5 l6,listed=#[l0,l1,l2,l3,l4,l5,l6]/\Cnt ak l0 l1 l2 l3 l4 l5 l6/\Reg fs Wg C n i bc bx bf bi inbox batcher t0 t1 t2 t3 t4 fr ad data l0 l1 l2 l3 l4 l5 l6 s.1 s.2.1 s.2.2.1)
  (λrest s=>kV _ aL _ _ _ s.1 (vJ Wg C n i bc bx bf bi inbox batcher t0 t1 t2 t3 t4 fr ad data s.2.2.2 s.2.1 rest) s.2.2.1) ?done ?more 7 t _ (K,v,w,#[aL,aL,aL,aL,aL,aL,aL]) ⟨rfl,aL,aL,aL,aL,aL,aL,aL,rfl,rfl,h⟩
 case done=>
  rintro listed ⟨K,v,w,l⟩ ⟨rfl,l0,l1,l2,l3,l4,l5,l6,hl,hc,Y⟩;have h4:l4=bB:=by unfold Cnt at hc;revert hc;cases l0<;>cases l1<;>cases l2<;>cases l3<;>cases l4<;>cases l5<;>cases l6<;>simp
  have h6:l6=bB:=by unfold Cnt at hc;revert hc;cases l0<;>cases l1<;>cases l2<;>cases l3<;>cases l4<;>cases l5<;>cases l6<;>simp
  exact aaF Y.wf Y.kw (Y.has h6) (Y.row h4)
 case more=>
  rintro ak listed ⟨K,v,w,l⟩ ⟨rfl,l0,l1,l2,l3,l4,l5,l6,hl,hc,Y⟩;simp only at hl;subst hl;unfold Cnt at hc;refine⟨Qe Y.d4 Y.d5 Y.d6 aA,λk hk rest J=>?_⟩;have ag:bW.kind≠.early:=baseD_kind _;obtain⟨rfl,e⟩|⟨rfl,e⟩|⟨rfl,e⟩|⟨rfl,e⟩|⟨rfl,e,e2,e3⟩|⟨rfl,e,e0,e1,e2,e3,e4⟩|⟨rfl,e,e5,e4⟩:=TL hk
  .subst e;obtain⟨o,ho,ac,ab,aa⟩:=agt;refine kV.op ho (kR aa) ag λE I=>?_;have q:=Y.en I;obtain⟨r1,r2⟩:=agL q.wf (a:=⟨slots Wg C n i bc bx bf bi inbox batcher t0 t1 t2 t3 t4 fr ad data #[aL,l1,l2,l3,l4,l5,l6] v,[dcall link.done #[aM (M ⟨Wg,0,Z⟩)]]⟩) rfl ac;refine⟨_,E,r1,tq λe he=>?_,?_⟩
   .have:=jp he;rw[r2]at this;simp at this;exact⟨_,this,q.kw.f,q.kw.low _ q.kw.f⟩
   .rw[kP,ab];have:=J (K,v,E,#[bB,l1,l2,l3,l4,l5,l6]) ⟨aC,bB,l1,l2,l3,l4,l5,l6,aC,by unfold Cnt;simp at hc⊢;omega,⟨q.d4,λh=>⟨rfl,(q.d5 h).2⟩,q.d6,q.wf,q.kw,q.row,q.has⟩⟩;simpa[vJ,slots,QW,iv]using this
  .subst e;obtain⟨o,ho,ac,ab,aa⟩:=agr;refine kV.op ho (kR aa) ag λE I=>?_;have q:=Y.en I;obtain⟨r1,r2⟩:=agJ q.wf (a:=⟨slots Wg C n i bc bx bf bi inbox batcher t0 t1 t2 t3 t4 fr ad data #[l0,aL,l2,l3,l4,l5,l6] v,[dcall link.done #[aM (M ⟨Wg,0,Z⟩)]]⟩) rfl ac;refine⟨_,E,r1,tq λe he=>?_,?_⟩
   .have:=jp he;rw[r2]at this;simp at this;exact⟨_,this,q.kw.i,q.kw.low _ q.kw.i⟩
   .rw[kP,ab];have:=J (K,v,E,#[l0,bB,l2,l3,l4,l5,l6]) ⟨aC,l0,bB,l2,l3,l4,l5,l6,aC,by unfold Cnt;simp at hc⊢;omega,⟨q.d4,λh=>⟨(q.d5 h).1,rfl,(q.d5 h).2.2⟩,q.d6,q.wf,q.kw,q.row,q.has⟩⟩;simpa[vJ,slots,QW,iv]using this
  .subst e;obtain⟨o,ho,ac,ab,aa⟩:=agP;refine kV.op ho (kR aa) ag λE I=>?_;have q:=Y.en I;obtain⟨r1,r2⟩:=agV q.wf (a:=⟨slots Wg C n i bc bx bf bi inbox batcher t0 t1 t2 t3 t4 fr ad data #[l0,l1,aL,l3,l4,l5,l6] v,[dcall link.done #[aM (M ⟨Wg,0,Z⟩)]]⟩) rfl ac;refine⟨_,E,r1,tq λe he=>?_,?_⟩
   .have:=jp he;obtain⟨k,am⟩:=r2 _ this;exact⟨_,am,q.kw.c,q.kw.low _ q.kw.c⟩
   .rw[kP,ab];have:=J (K,v,E,#[l0,l1,bB,l3,l4,l5,l6]) ⟨aC,l0,l1,bB,l3,l4,l5,l6,aC,by unfold Cnt;simp at hc⊢;omega,⟨λh=>⟨rfl,(q.d4 h).2⟩,λh=>⟨(q.d5 h).1,(q.d5 h).2.1,rfl,(q.d5 h).2.2.2⟩,q.d6,q.wf,q.kw,q.row,q.has⟩⟩;simpa[vJ,slots,QW,iv]using this
  .subst e;obtain⟨o,ho,ac,ab,aa⟩:=agQ;refine kV.op ho (kR aa) ag λE I=>?_;have q:=Y.en I;obtain⟨r1,r2⟩:=agj q.wf (a:=⟨slots Wg C n i bc bx bf bi inbox batcher t0 t1 t2 t3 t4 fr ad data #[l0,l1,l2,aL,l4,l5,l6] v,[dcall link.done #[aM (M ⟨Wg,0,Z⟩)]]⟩) rfl ac;refine⟨_,E,r1,tq λe he=>?_,?_⟩
   .have:=jp he;obtain⟨k,am⟩:=r2 _ this;exact⟨_,am,q.kw.x,q.kw.low _ q.kw.x⟩
   .rw[kP,ab];have:=J (K,v,E,#[l0,l1,l2,bB,l4,l5,l6]) ⟨aC,l0,l1,l2,bB,l4,l5,l6,aC,by unfold Cnt;simp at hc⊢;omega,⟨λh=>⟨(q.d4 h).1,rfl⟩,λh=>⟨(q.d5 h).1,(q.d5 h).2.1,(q.d5 h).2.2.1,rfl,(q.d5 h).2.2.2.2⟩,q.d6,q.wf,q.kw,q.row,q.has⟩⟩;simpa[vJ,slots,QW,iv]using this
  .subst e e2 e3;obtain⟨o,ho,ac,ab,aa⟩:=agK;refine rd _ _ _ _ _ _ _ _ _ _ _ _ _ _ _ _ inbox batcher t0 t1 t2 t3 t4 fr ad data ho (kR aa) ag ac (by simp[slots,QW,lL]) (by simp[slots,QW,lL]) hd Y.kw.sub Y.kw.low Y.kw.pay Y.kw.grp Y.kw.glob ?_
   .rintro E I v' K' ah af hO ax ae ai aj ay ar;have q:=Y.en I;rw[<-au]at af;rw[ab];have ap:PayAt C n ah:=ar q.wf.pay;have an:j9 link.tWg Wg ah:=ay q.wf.live
    have:=J (K',v',ah,#[l0,l1,bB,bB,bB,l5,l6]) ⟨aC,l0,l1,bB,bB,bB,l5,l6,aC,by unfold Cnt;simp at hc⊢;omega,⟨λ_=>⟨rfl,rfl⟩,λh=>(by have:=(q.d5 h).2.2.2.2;cases this),q.d6,⟨(ai _ Y.kw.c).trans q.wf.c,(ai _ Y.kw.x).trans q.wf.x,(ai _ Y.kw.f).trans q.wf.f,(ai _ Y.kw.i).trans q.wf.i,an,ap⟩,
     ⟨hO _ Y.kw.c,hO _ Y.kw.x,hO _ Y.kw.f,hO _ Y.kw.i,ax,λb hb=>(aj b hb).1,aP q.kw.pay ae,aP q.kw.grp ae,λb hb=>(aj b hb).2.elim (Y.kw.ne b) λh=>by have:=q.kw.pay;omega,bH q.kw.glob ae⟩,λ_=>af,λh=>(by have:=(q.d5 (q.d6 h)).2.2.2.2;cases this)⟩⟩
    simpa[vJ,slots,QW,iv]using this
  .subst e e0 e1 e2 e3 e4;obtain⟨o,ho,ac,ab,aa⟩:=agN;refine kV.op ho (kR aa) ag λE I=>?_;have q:=Y.en I;obtain⟨r1,r2⟩:=agy (w:=E) hi (a:=⟨slots Wg C n i bc bx bf bi inbox batcher t0 t1 t2 t3 t4 fr ad data #[bB,bB,bB,bB,bB,aL,l6] v,[dcall link.done #[aM (M ⟨Wg,0,Z⟩)]]⟩) rfl rfl ac;refine⟨_,E,r1,tq λe he=>?_,?_⟩
   .have:=jp he
    grind
   .rw[kP,ab];have:=J (K,v,E,#[bB,bB,bB,bB,bB,bB,l6]) ⟨aC,bB,bB,bB,bB,bB,bB,l6,aC,by unfold Cnt;simp at hc⊢;omega,⟨q.d4,λ_=>⟨rfl,rfl,rfl,rfl,rfl⟩,λ_=>rfl,q.wf,q.kw,q.row,q.has⟩⟩;simpa[vJ,slots,QW,iv]using this
  .subst e e5 e4;obtain⟨rfl,rfl,rfl,rfl,_⟩:=Y.d5 rfl;obtain⟨o,ho,ac,ab,aa⟩:=agE;refine kV.opn ho (kR aa) ag λE I=>?_;have q:=Y.en I;have af:=q.row rfl
   obtain⟨x,l,c,hv⟩:∃x l c,v=.slice x l c:=by
    obtain⟨e,_⟩|⟨g,cap,az,e,_⟩:=af
    .exact⟨_,_,_,e⟩
    grind
   subst hv;obtain⟨r1,r2⟩:=agU (w:=E) q.wf.pay hi (a:=⟨slots Wg C n i bc bx bf bi inbox batcher t0 t1 t2 t3 t4 fr ad data #[bB,bB,bB,bB,bB,bB,aL] (.slice x l c),[dcall link.done #[aM (M ⟨Wg,0,Z⟩)]]⟩) rfl rfl ac
   have ao:=adf (S:=mP Wg C n) (K:=K) (i:=i) (v:=.slice x l c) (es:=listed bE bW.fn ⟨slots Wg C n i bc bx bf bi inbox batcher t0 t1 t2 t3 t4 fr ad data #[bB,bB,bB,bB,bB,bB,aL] (.slice x l c),[dcall link.done #[aM (M ⟨Wg,0,Z⟩)]]⟩ o E) q.wf.pay λe he=>by
    have:=jp he
    grind
   refine⟨_,r1,ao,?_⟩;obtain⟨_,_,_,ae⟩:=ku E ⟨C,i,Z⟩ (.slice x l c);rw[ae,kP,ab];have hb:∀b,K.O b->(E.setCell ⟨C,i,Z⟩ (.slice x l c)).heap[b]? =E.heap[b]?:=λb hb=>kL (Y.kw.ne b hb);have av:(E.setCell ⟨C,i,Z⟩ (.slice x l c)).heap[Wg]? =E.heap[Wg]?:=kL (Ne.symm aq)
   have:=J (K,.slice x l c,E.setCell _ _,#[bB,bB,bB,bB,bB,bB,bB]) ⟨aC,bB,bB,bB,bB,bB,bB,bB,aC,by unfold Cnt;simp at hc⊢;omega,
    ⟨λ_=>⟨rfl,rfl⟩,λ_=>⟨rfl,rfl,rfl,rfl,rfl⟩,λ_=>rfl,⟨(hb _ q.kw.c).trans q.wf.c,(hb _ q.kw.x).trans q.wf.x,(hb _ q.kw.f).trans q.wf.f,(hb _ q.kw.i).trans q.wf.i,let ⟨st,sm,hl⟩:=q.wf.live;⟨st,sm,hl.of_block av⟩,ao.pay q.wf.pay⟩,
     ⟨q.kw.c,q.kw.x,q.kw.f,q.kw.i,q.kw.sub,λb aw=>by rw[ae];exact q.kw.low b aw,by rw[ae];exact q.kw.pay,by rw[ae];exact q.kw.grp,q.kw.ne,by rw[ae];exact q.kw.glob⟩,λ_=>af.stands (λ_=>id) hb,λ_=>aaC q.wf.pay hi _⟩⟩
   simpa[vJ,slots,QW,iv]using this
end
end
section
section
variable {Wg C n i bc bx bf bi:Nat}{inbox batcher t0 t1 t2 t3 t4 fr ad:Int}{data:ByteArray}{fs:Nat->List Fr.F}{K:jZ}{w:U}
theorem KW.en{q:U}(h:KW Wg C bc bx bf bi K w)(r:En (mP Wg C n) (M i) K w q):KW Wg C bc bx bf bi K q:=
 ⟨h.c,h.x,h.f,h.i,h.sub,λb E=>aP (h.low b E) r.size,aP h.pay r.size,aP h.grp r.size,h.ne,bH h.glob r.size⟩
theorem Qy(rd:ReadW)(hi:i<n)(aa:C≠Wg)(ab:fs i=Fr.mg inbox batcher fr ad data.data.toList)(hd:data.size<=1048576)(hF:WF Wg C n i bc bx bf bi (cfg inbox batcher t0 t1 t2 t3 t4) (BK fr ad data) w)(hK:KW Wg C bc bx bf bi K w):kV bE aL (mP Wg C n) (M i) (uJ bE (mP Wg C n) (leftOf fs) i) K (born bE (Lm Wg bc bx bf bi)) w:=by
 refine kV.step rfl λq I=>⟨_,q,_,born_step q,.still ..,?_⟩
 rw[kP];have E:WF Wg C n i bc bx bf bi (cfg inbox batcher t0 t1 t2 t3 t4) (BK fr ad data) q/\KW Wg C bc bx bf bi K q:=⟨hF.en hK.c hK.x hK.f hK.i I,hK.en I⟩
 have rl:∀{w q:U},(WF Wg C n i bc bx bf bi (cfg inbox batcher t0 t1 t2 t3 t4) (BK fr ad data) w/\KW Wg C bc bx bf bi K w)->En (mP Wg C n) (M i) K w q->(WF Wg C n i bc bx bf bi (cfg inbox batcher t0 t1 t2 t3 t4) (BK fr ad data) q/\KW Wg C bc bx bf bi K q):=
  λh r=>⟨h.1.en h.2.c h.2.x h.2.f h.2.i r,h.2.en r⟩
 clear hF hK I;have hb:Zj=(.seq (.region 0 #[{ dst:=Z,op:=.defer { callee:=.value (.func 109),args:=#[eC 0],argTypes:=#[211] },type:=0,pos:= "upper.go:57",after:=#[],guard:=Z }] aL) (.region 1 uU bB)):=rfl;rw[hb];refine kV.go (n:=10) ?_;u_c bR rl E;u_reg rl E;u_defer rl E;u_c bA rl E;refine cI λae J=>?_;replace E:=rl E J;clear J;refine kV.draw λac Y t=>?_;replace E:=rl E Y;clear Y;rw[sched];exact abP (v:=aE) rd hi aa ab hd t ⟨aC,aC,aC,⟨E.1.c,E.1.x,E.1.f,E.1.i,E.1.live,E.1.pay⟩,⟨E.2.c,E.2.x,E.2.f,E.2.i,E.2.sub,E.2.low,E.2.pay,E.2.grp,E.2.ne,E.2.glob⟩,aC,aC⟩
end
end
section
variable {tb q b:Nat}{fr ad k j k1 k2:Int}{data k3:ByteArray}{ty:TypeId}{x y z:aD}{fn:FuncId}{e:Event}
section
variable {w:U}{a:Act}{o:Oper}
theorem acQ(Y:w.cell? ⟨tb,q,Z⟩=M (N dE fr))(J:w.cell? ⟨tb,q+1,Z⟩=M (N dE ad))(h2:w.cell? ⟨tb,q+2,Z⟩=M (aH data))(I:a.eval (eC 17)=aM (M ⟨tb,q,Z⟩))(E:o.op=.load 68 (eC 17)):(bL a.eval o).run bE w=.ok (.value (.agg (BK fr ad data))) w/\∀e∈(bL a.eval o).events bE w #[],∃k,e=⟨.cell ⟨tb,k,Z⟩,aL,aL⟩:=by
 constructor
 .unfold bL;simp only[E,I];simp[go_sem,Y,J,h2]
 .unfold bL;simp only[E,I];simp[go_sem,Y,J,h2]
theorem afu(E:o.op=.alloc 3):(bL a.eval o).run bE w=.ok (.value (aM (M ⟨w.heap.size,0,Z⟩))) (w.alloc (aG #[N X 0] 3))/\(bL a.eval o).events bE w #[]=#[]:=by
 constructor
 .unfold bL;simp only[E];simp[go_sem]
 .unfold bL;simp only[E];simp[go_sem]
theorem afz(E:o.op=.alloc 68):(bL a.eval o).run bE w=.ok (.value (aM (M ⟨w.heap.size,0,Z⟩))) (w.alloc (aG #[N dE 0,N dE 0,aH ⟨#[]⟩] 68))/\(bL a.eval o).events bE w #[]=#[]:=by
 constructor
 .unfold bL;simp only[E];simp[go_sem]
 .unfold bL;simp only[E];simp[go_sem]
theorem aeO(Y:w.heap[b]? =M (aG #[N X k] 3))(J:a.eval (eC 7)=aM (M ⟨b,0,Z⟩))(I:a.eval (eC 16)=N X j)(E:o.op=.store 3 (eC 7) (eC 16)):(bL a.eval o).run bE w=.ok .skip (w.setCell ⟨b,0,Z⟩ (N X j))/\(bL a.eval o).events bE w #[]=#[⟨.cell ⟨b,0,Z⟩,bB,aL⟩]:=by
 have hc:w.cell? ⟨b,0,Z⟩=M (N X k):=by simp[fR,Y]
 have hz:w.frozen? ⟨b,0,Z⟩=aL:=by simp[l8,Y]
 constructor
 .unfold bL;simp only[E,J,I];simp[go_sem,stored,hc,hz]
 .unfold bL;simp only[E,J,I];simp[go_sem,storedEv,hc,hz]
theorem SY{u v:aD}(E:w.heap[b]? =M (aG #[u] ty)):(w.setCell ⟨b,0,Z⟩ v).heap[b]? =M (aG #[v] ty):=by simp[eW,bT,E]
def xq(w:U)(b:Nat)(x y z:aD):U:=((w.setCell ⟨b,0,Z⟩ x).setCell ⟨b,1,Z⟩ y).setCell ⟨b,2,Z⟩ z
theorem XK{E I J:aD}(Y:w.heap[b]? =M (aG #[E,I,J] ty)):(xq w b x y z).heap[b]? =M (aG #[x,y,z] ty):=by simp[xq,eW,bT,Y]
theorem Fj(w:U)(b:Nat)(x y z:aD):(xq w b x y z).tape=w.tape/\(xq w b x y z).os=w.os/\(xq w b x y z).output=w.output/\(xq w b x y z).heap.size=w.heap.size/\∀c,c≠b->(xq w b x y z).heap[c]? =w.heap[c]?:=by
 obtain⟨a1,a2,Y,a4⟩:=ku w ⟨b,0,Z⟩ x;obtain⟨I,b2,J,b4⟩:=ku (w.setCell ⟨b,0,Z⟩ x) ⟨b,1,Z⟩ y;obtain⟨c1,c2,c3,c4⟩:=ku ((w.setCell ⟨b,0,Z⟩ x).setCell ⟨b,1,Z⟩ y) ⟨b,2,Z⟩ z
 exact⟨c1.trans (I.trans a1),c2.trans (b2.trans a2),c3.trans (J.trans Y),c4.trans (b4.trans a4),λc E=>by
  unfold xq;rw[kL (ad:=⟨b,2,Z⟩) E,kL (ad:=⟨b,1,Z⟩) E,kL (ad:=⟨b,0,Z⟩) E]⟩
theorem afj(J:w.heap[b]? =M (aG #[N dE k1,N dE k2,aH k3] 68))(h8:a.eval (eC 8)=aM (M ⟨b,0,Z⟩))(E:a.eval (eC 18)=.agg (BK fr ad data))(I:o.op=.store 68 (eC 8) (eC 18)):(bL a.eval o).run bE w=.ok .skip (xq w b (N dE fr) (N dE ad) (aH data))/\∀e∈(bL a.eval o).events bE w #[],∃k,e=⟨.cell ⟨b,k,Z⟩,bB,aL⟩:=by
 have b1:(w.setCell ⟨b,0,Z⟩ (N dE fr)).heap[b]? =M (aG #[N dE fr,N dE k2,aH k3] 68):=by simp[eW,bT,J]
 have b2:((w.setCell ⟨b,0,Z⟩ (N dE fr)).setCell ⟨b,1,Z⟩ (N dE ad)).heap[b]? =M (aG #[N dE fr,N dE ad,aH k3] 68):=by simp[eW,bT,J]
 have c0:w.cell? ⟨b,0,Z⟩=M (N dE k1):=by simp[fR,J]
 have z0:w.frozen? ⟨b,0,Z⟩=aL:=by simp[l8,J]
 have c1:(w.setCell ⟨b,0,Z⟩ (N dE fr)).cell? ⟨b,1,Z⟩=M (N dE k2):=by simp[fR,b1]
 have z1:(w.setCell ⟨b,0,Z⟩ (N dE fr)).frozen? ⟨b,1,Z⟩=aL:=by simp[l8,b1]
 have Y:((w.setCell ⟨b,0,Z⟩ (N dE fr)).setCell ⟨b,1,Z⟩ (N dE ad)).cell? ⟨b,2,Z⟩=M (aH k3):=by simp[fR,b2]
 have z2:((w.setCell ⟨b,0,Z⟩ (N dE fr)).setCell ⟨b,1,Z⟩ (N dE ad)).frozen? ⟨b,2,Z⟩=aL:=by simp[l8,b2]
 constructor
 .unfold bL;simp only[I,h8,E];simp[go_sem,stored,c0,z0,c1,z1,Y,z2,xq]
 .unfold bL;simp only[I,h8,E];simp[go_sem,stored,storedEv,c0,z0,c1,z1,Y,z2,events_store _ _ _ _ _ _ (show(aH data).oneCell'=bB from rfl)]
theorem Vr(I:a.eval (eC 17)=aM (M ⟨tb,q,Z⟩))(E:o.op=.load 68 (eC 17))(Y:w.cell? ⟨tb,q,Z⟩=M (N dE fr))(J:w.cell? ⟨tb,q+1,Z⟩=M (N dE ad))(h2:w.cell? ⟨tb,q+2,Z⟩=M (aH data)):(bL a.eval o).run bE w=.ok (.value (.agg (BK fr ad data))) w:=(acQ Y J h2 I E).1
theorem VZ(I:e∈listed bE fn a o w)(J:a.eval (eC 17)=aM (M ⟨tb,q,Z⟩))(E:o.op=.load 68 (eC 17))(h0:w.cell? ⟨tb,q,Z⟩=M (N dE fr))(Y:w.cell? ⟨tb,q+1,Z⟩=M (N dE ad))(h2:w.cell? ⟨tb,q+2,Z⟩=M (aH data)):∃k,e=⟨.cell ⟨tb,k,Z⟩,aL,aL⟩:=(acQ h0 Y h2 J E).2 e (jp I)
theorem WG(E:o.op=.alloc 3):(bL a.eval o).run bE w=.ok (.value (aM (M ⟨w.heap.size,0,Z⟩))) (w.alloc (aG #[N X 0] 3)):=(afu E).1
theorem abf(E:o.op=.alloc 3):listed bE fn a o w=#[]:=by unfold listed;rw[(afu E).2,seen_none]
theorem Wh(E:o.op=.alloc 68):(bL a.eval o).run bE w=.ok (.value (aM (M ⟨w.heap.size,0,Z⟩))) (w.alloc (aG #[N dE 0,N dE 0,aH ⟨#[]⟩] 68)):=(afz E).1
theorem acf(E:o.op=.alloc 68):listed bE fn a o w=#[]:=by unfold listed;rw[(afz E).2,seen_none]
theorem Xa(J:a.eval (eC 7)=aM (M ⟨b,0,Z⟩))(I:a.eval (eC 16)=N X j)(E:o.op=.store 3 (eC 7) (eC 16))(Y:w.heap[b]? =M (aG #[N X k] 3)):(bL a.eval o).run bE w=.ok .skip (w.setCell ⟨b,0,Z⟩ (N X j)):=(aeO Y J I E).1
theorem abo(J:e∈listed bE fn a o w)(Y:a.eval (eC 7)=aM (M ⟨b,0,Z⟩))(I:a.eval (eC 16)=N X j)(E:o.op=.store 3 (eC 7) (eC 16))(hb:w.heap[b]? =M (aG #[N X k] 3)):e=⟨.cell ⟨b,0,Z⟩,bB,aL⟩:=by
 have:=jp J;rw[(aeO hb Y I E).2]at this;simpa using this
theorem Xf(J:a.eval (eC 8)=aM (M ⟨b,0,Z⟩))(E:a.eval (eC 18)=.agg (BK fr ad data))(I:o.op=.store 68 (eC 8) (eC 18))(Y:w.heap[b]? =M (aG #[N dE k1,N dE k2,aH k3] 68)):(bL a.eval o).run bE w=.ok .skip (xq w b (N dE fr) (N dE ad) (aH data)):=(afj Y J E I).1
theorem abZ(Y:e∈listed bE fn a o w)(J:a.eval (eC 8)=aM (M ⟨b,0,Z⟩))(E:a.eval (eC 18)=.agg (BK fr ad data))(I:o.op=.store 68 (eC 8) (eC 18))(hb:w.heap[b]? =M (aG #[N dE k1,N dE k2,aH k3] 68)):∃k,e=⟨.cell ⟨b,k,Z⟩,bB,aL⟩:=(afj hb J E I).2 e (jp Y)
theorem Q9{S:Who}{Y:Option Nat}{K:jZ}{es:Array Event}(I:K.W b)(hl:b<w.heap.size)(hC:b≠S.C)(h:∀e∈es,∃k,e=⟨.cell ⟨b,k,Z⟩,bB,aL⟩):Gu S Y K w (xq w b x y z) es:=by obtain⟨J,h2,h3,h4,E⟩:=Fj w b x y z;refine⟨J,h2,h3,jw h4.symm,λc _ hn _=>E c λe=>hn (e ▸ I),λ⟨cs,a,d⟩=>⟨cs,(E _ (Ne.symm hC)).trans a,d⟩,λi _=>cell_of_block (E _ (Ne.symm hC)) i,λe he=>?_⟩;obtain⟨k,rfl⟩:=h e he;exact cJ (cJ ⟨_,bB,rfl,cJ (by simpa using I),by rw[h4];exact hl⟩)
end
end
section
abbrev bS:cU:=base 71
def Cj(T:Array aD)(h:T.size=24):∃v0 v1 v2 v3 v4 v5 v6 v7 v8 v9 E ah J q af Y ae ag ai ab aa I ac aj,T=#[v0,v1,v2,v3,v4,v5,v6,v7,v8,v9,E,ah,J,q,af,Y,ae,ag,ai,ab,aa,I,ac,aj]:=by
 obtain⟨l⟩:=T
 match l,h with
 |[v0,v1,v2,v3,v4,v5,v6,v7,v8,v9,E,ah,J,q,af,Y,ae,ag,ai,ab,aa,I,ac,aj],_=>simp
noncomputable def loopS:Code:=match Tryz.f71.body with
 |some (.seq _ (.seq _ (.seq _ (.seq (.seq _ (.block _ (.loop c))) _))))=>c
 |_=>.skip
noncomputable def yD:Code:=match Tryz.f71.body with
 |some (.seq _ (.seq _ (.seq _ (.seq _ c))))=>c
 |_=>.skip
noncomputable def tail9:Code:=match yD with
 |.seq _ c=>c
 |_=>.skip
noncomputable def ops9:Array Oper:=match yD with
 |.seq (.region _ ops _) _=>ops
 |_=>#[]
structure SF(OB:Nat->Prop)(W:U)(Wg C n:Nat)(K:jZ)(w:U):Prop where
 sub:∀b,OB b->K.O b
 old:∀b,OB b->w.heap[b]? =W.heap[b]?
 kw:∀b,K.W b->K.O b
 ko:∀b,K.O b->b<w.heap.size/\b≠Wg/\b≠C
 pay:PayAt C n w
 hC:C<w.heap.size
 hG:Wg<w.heap.size
 glob:Tryz.prog.globals.size<=w.heap.size
 new:∀b,K.O b->OB b\/W.heap.size<=b
 siz:W.heap.size<=w.heap.size
 still:w.tape=W.tape/\w.os=W.os/\w.output=W.output
 low:∀b,b<C-1->b<W.heap.size->b≠Wg->w.heap[b]? =W.heap[b]?
def leftB(bc bf:Nat)(W:U)(fs:Nat->List Fr.F):Left:=λi v O w=>leftOf fs i v O w/\∀b,O b->(b=bc\/b=bf)\/W.heap.size<=b
def J6(bc bf:Nat)(W:U)(fs:Nat->List Fr.F):(leftB bc bf W fs).nN:=λi v O w w₁ q h=>⟨F7 fs i v O w w₁ q h.1,h.2⟩
section
variable {OB:Nat->Prop}{W:U}{Wg C n:Nat}{K:jZ}{w w₁:U}
theorem SF.en(h:SF OB W Wg C n K w)(r:En (mP Wg C n) Z K w w₁):SF OB W Wg C n K w₁:=
 ⟨h.sub,λb q=>(r.block b (h.sub b q)).trans (h.old b q),h.kw,λb q=>⟨aP (h.ko b q).1 r.size,(h.ko b q).2⟩,r.pay h.pay,aP h.hC r.size,aP h.hG r.size,bH h.glob r.size,h.new,bH h.siz r.size,⟨r.tape.trans h.still.1,r.os.trans h.still.2.1,r.output.trans h.still.2.2⟩,λb E h2 h3=>(r.low b E).trans (h.low b E h2 h3)⟩
theorem SF.wg(E:C≠Wg)(h:SF OB W Wg C n K w)(r:Go.Conc.Aside Wg w w₁):SF OB W Wg C n K w₁:=
 ⟨h.sub,λb q=>(r.block b (h.ko b (h.sub b q)).2.1).trans (h.old b q),h.kw,λb q=>⟨by rw[r.size];exact(h.ko b q).1,(h.ko b q).2⟩,let ⟨cs,I,h2⟩:=h.pay;⟨cs,(r.block _ E).trans I,h2⟩,by rw[r.size];exact h.hC,by rw[r.size];exact h.hG,by rw[r.size];exact h.glob,h.new,by rw[r.size];exact h.siz,⟨r.tape.trans h.still.1,r.os.trans h.still.2.1,r.output.trans h.still.2.2⟩,λb I h2 h3=>(r.block b h3).trans (h.low b I h2 h3)⟩
theorem SF.gu{w':U}{es:Array Event}(h:SF OB W Wg C n K w)(g:Gu (mP Wg C n) Z K w w' es)(E:∀b,K.W b->¬OB b):SF OB W Wg C n (K.grow w.heap.size w'.heap.size) w':=by
 have hs:=g.size;have hC:=h.hC;have hG:=h.hG
 exact⟨λb q=>cJ (h.sub b q),λb q=>(g.block b (h.ko b (h.sub b q)).1 (λhw=>E b hw q) λ_=>rfl).trans (h.old b q),λb q=>q.imp (h.kw b) id,
  λb q=>q.elim (λx=>⟨aP (h.ko b x).1 hs,(h.ko b x).2⟩) λx=>⟨x.2,aA,aA⟩,g.pay h.pay,aP hC hs,aP hG hs,bH h.glob hs,
  λb q=>q.elim (h.new b) λx=>cK (bH h.siz x.1),bH h.siz hs,⟨g.tape.trans h.still.1,g.os.trans h.still.2.1,g.output.trans h.still.2.2⟩,
  λb I h2 h3=>(g.block b (aP h2 h.siz) (λhw=>(h.new b (h.kw b hw)).elim (E b hw) λx=>aA) λ_=>rfl).trans (h.low b I h2 h3)⟩
def Ru(tx:Option Addr)(n cap Wg bc bf j:Nat)(cs:List cU)(g:bO):Prop:=
 ∃T:Array aD,g=G (bS.at ⟨T,[]⟩ [.code loopS,.inLoop loopS,.inBlock 0,.code yD]) cs/\T.size=24/\T[2]? =M (aM (M ⟨bc,0,Z⟩))/\T[5]? =M (aM (M ⟨bf,0,Z⟩))/\T[6]? =M (aM (M ⟨Wg,0,Z⟩))/\
  T[12]? =M (.slice tx n cap)/\T[13]? =M (N X n)/\T[14]? =M (N X j)
def AnchS(OB:Nat->Prop)(W:U)(Wg C n bf:Nat)(cs:List cU)(K:jZ)(g:bO)(w:U):Prop:=
 ∃T:Array aD,T.size=24/\T[5]? =M (aM (M ⟨bf,0,Z⟩))/\KH link (SF OB W Wg C n) Wg (bS.at ⟨T,[]⟩ (.inRegion ops9 (0::[])::[.code tail9])) cs K g w
def adp(OB:Nat->Prop)(W:U)(Wg C n bf:Nat)(cs:List cU)(K:jZ)(g:bO)(w:U):Prop:=
 ∃T:Array aD,T.size=24/\T[5]? =M (aM (M ⟨bf,0,Z⟩))/\g=G (bS.at ⟨T,[]⟩ (.inRegion ops9 []::[.code tail9])) cs/\SF OB W Wg C n K w
variable {bf:Nat}{cs:List cU}
theorem QX(E:C≠Wg)(K:jZ)(g:bO)(w:U)(h:AnchS OB W Wg C n bf cs K g w):Way bE (mP Wg C n) (uN bE (mP Wg C n) (adp OB W Wg C n bf cs) (AnchS OB W Wg C n bf cs)) K g w:=by
 obtain⟨T,I,J,Y⟩:=h;refine Way.mono (waitRound (L:=link) wgLib (Wg:=Wg) (C:=C) (n:=n) (Fin:=adp OB W Wg C n bf cs) (Fk:=SF OB W Wg C n) (b₀:=bS) (a₀:=⟨T,[]⟩) (ops₀:=ops9) (i₀:=0) (rest₀:=[]) (k₀:=[.code tail9]) (cs:=cs) (λ_ _ _ r h=>h.en r) (λ_ _ _ r h=>h.wg E r) ?_ K g w Y) λK g w x=>uN.mono (λK g w y=>⟨T,I,J,y⟩) x;intro K w hF;refine Way.stop λw₁ q=>⟨T.setIfInBounds 22 (.tuple #[]),by simp[I],by grind,?_,hF.1.en q⟩
 rfl
end
end
section
variable {K:jZ}{w:U}{g:bO}
section
variable {OB:Nat->Prop}{W:U}{Wg C n cap bc bf tb q0:Nat}{cs:List cU}{inbox batcher t0 t1 t2 t3 t4:Int}{fr ad:Nat->Int}{data:Nat->ByteArray}{fs:Nat->List Fr.F}
theorem kN{q:U}(h:SF OB W Wg C n K w/\j9 link.tWg Wg w)(r:En (mP Wg C n) Z K w q):SF OB W Wg C n K q/\j9 link.tWg Wg q:=⟨h.1.en r,r.live h.2⟩
theorem TT(tx:Option Addr)(hg:Ru tx n cap Wg bc bf n cs g)(q:SF OB W Wg C n K w/\j9 link.tWg Wg w):Way bE (mP Wg C n) (AP bE (mP Wg C n) (AnchS OB W Wg C n bf cs)) K g w:=by
 obtain⟨T,rfl,hT,t2,t5,t6,aa,J,Y⟩:=hg;obtain⟨v0,v1,v2,v3,v4,v5,v6,v7,v8,v9,ac,ap,af,ab,an,ag,am,ao,aq,aj,ah,ae,ak,ar,rfl⟩:=Cj T hT;simp only[eX,eU,dX,aK]at t2 t5 t6 aa J Y;subst t2 t5 t6 aa J Y;have ai:¬((n:Int)<n):=aA
 simp only[loopS,yD,Tryz.f71];refine Way.go (n:=40) ?_;u_c bR kN q;u_reg kN q;u_op kN q;u_c bA kN q;u_c bR kN q;u_cond aL kN q;u_exit kN q;u_c bR kN q;u_reg kN q;u_in kN q;refine goes_call rfl rfl (by k_ne) rfl wgLib.f_wait (nm_wait link) rfl ⟨by u_nil,?_⟩;walk_nrmf waitFn;refine cI λI E=>?_;replace q:=kN q E;refine Way.mono (waitStart (L:=link) (P:=bE) wgLib (Wg:=Wg) (C:=C) (n:=n) (Fk:=SF OB W Wg C n) (b₀:=bS) (a₀:=_) (ops₀:=ops9) (i₀:=0) (rest₀:=[]) (k₀:=[.code tail9]) (cs:=cs) (λ_ _ _ r h=>h.en r) K I q) λK g w x=>AP.mono (λK g w y=>⟨_,?_,?_,y⟩) x
 all_goals simp
theorem NI(rd:ReadW){St':jZ->bO->U->Prop}(bb:C≠Wg){j:Nat}(hj:j<n)(hn:n<9223372036854775808)(a5:OB tb)(bd:OB bc)(bl:OB bf)(b2:W.heap[bc]? =M (aG (cfg inbox batcher t0 t1 t2 t3 t4) 24))(b8:W.heap[bf]? =M (aG #[.slice (M ⟨C,0,Z⟩) n n] 29))(hx:W.cell? ⟨tb,q0+j*3,Z⟩=M (N dE (fr j))/\W.cell? ⟨tb,q0+j*3+1,Z⟩=M (N dE (ad j))/\W.cell? ⟨tb,q0+j*3+2,Z⟩=M (aH (data j)))(b4:fs j=Fr.mg inbox batcher (fr j) (ad j) (data j).data.toList)(hd:(data j).size<=1048576)(hg:Ru (M ⟨tb,q0,Z⟩) n cap Wg bc bf j cs g)(q:SF OB W Wg C n K w/\j9 link.tWg Wg w)(hK:∀b,¬K.W b)(a7:∀K g w,Ru (M ⟨tb,q0,Z⟩) n cap Wg bc bf (j+1) cs g->SF OB W Wg C n K w/\j9 link.tWg Wg w->(∀b,¬K.W b)->Way bE (mP Wg C n) St' K g w):Way bE (mP Wg C n) (MV bE (mP Wg C n) (leftB bc bf W fs) j (λK g w=>Way bE (mP Wg C n) St' K g w)) K g w:=by
 obtain⟨T,rfl,hT,t2,t5,t6,bq,bh,b0⟩:=hg;obtain⟨v0,v1,v2,v3,v4,v5,v6,v7,v8,v9,cr,ci,cv,cb,cu,cd,ce,co,cx,cl,ck,cc,cw,cy,rfl⟩:=Cj T hT;simp only[eX,eU,dX,aK]at t2 t5 t6 bq bh b0;subst t2 t5 t6 bq bh b0;have cj:(j:Int)<n:=aA
 have cg:(0:Int)<=(j:Int):=aA
 simp only[loopS,Tryz.f71];refine Way.go (n:=40) ?_;u_c bR kN q;u_reg kN q;u_op kN q;u_c bA kN q;u_c bR kN q;u_cond bB kN q;u_c stepG_skip kN q;u_c bR kN q;u_c stepG_block kN q;u_c bR kN q;u_reg kN q
 iterate 2 u_op kN q
 refine cI λca a1=>?_;replace q:=kN q a1;clear a1;refine Way.m (kV.op rfl rfl (by k_ne) λbk a2=>?_);replace q:=kN q a2;clear a2;have I:=λk=>cell_of_block (q.1.old tb a5) k;refine⟨_,bk,Vr rfl rfl ((I _).trans hx.1) ((I _).trans hx.2.1) ((I _).trans hx.2.2),tq λe he=>?_,?_⟩
 .obtain⟨k,rfl⟩:=VZ he rfl rfl ((I _).trans hx.1) ((I _).trans hx.2.1) ((I _).trans hx.2.2);exact⟨_,rfl,q.1.sub tb a5,(q.1.ko tb (q.1.sub tb a5)).1⟩
 rw[kP];clear I;walk_nrm;refine kV.op rfl rfl (by k_ne) λap a3=>?_;replace q:=kN q a3;clear a3;have af:Gu (mP Wg C n) Z K ap (ap.alloc (aG #[N X 0] 3)) #[]:=Me q.1.hC _;refine⟨_,_,WG rfl,by rw[abf rfl];exact af,?_⟩;have hS:=q.1.gu af λb hb=>Xs hb (hK b);obtain⟨bi,ar⟩:∃bi,ap.heap.size=bi:=⟨_,rfl⟩
 obtain⟨V,hV⟩:∃V,ap.alloc (aG #[N X 0] 3)=V:=⟨_,rfl⟩
 have Y:V.heap[bi]? =M (aG #[N X 0] 3):=by rw[<-hV,<-ar];exact cX _ _
 have a8:V.heap.size=bi+1:=by rw[<-hV,<-ar];simp
 have ab:j9 link.tWg Wg V:=let ⟨st,sm,hl⟩:=q.2;⟨st,sm,hl.of_block (by rw[<-hV];exact af.block _ q.1.hG (hK _) λ_=>rfl)⟩
 rw[hV]at hS;rw[hV,ar];rw[ar]at hS;obtain⟨K1,av⟩:∃K1,K.grow bi V.heap.size=K1:=⟨_,rfl⟩
 rw[av]at hS⊢;have a9:K1.O bi:=by rw[<-av];exact cK ⟨jE,aA⟩
 have bg:K1.W bi:=by rw[<-av];exact cK ⟨jE,aA⟩
 have b1:∀b,K1.W b->b=bi:=by rw[<-av];exact λb hb=>hb.elim (λh=>Xs h (hK b)) λh=>aA
 have b3:¬OB bi:=λh=>by have:=(q.1.ko bi (q.1.sub bi h)).1;omega
 replace q:SF OB W Wg C n K1 V/\j9 link.tWg Wg V:=⟨hS,ab⟩
 clear af hS ab hV av a8 ar;walk_nrm;refine kV.op rfl rfl (by k_ne) λah aw=>?_;replace q:=kN q aw;have bm:=(aw.block bi a9).trans Y;clear aw Y;have af:Gu (mP Wg C n) Z K1 ah (ah.alloc (aG #[N dE 0,N dE 0,aH ⟨#[]⟩] 68)) #[]:=Me q.1.hC _;refine⟨_,_,Wh rfl,by rw[acf rfl];exact af,?_⟩;have hS:=q.1.gu af λb hb=>by grind
 obtain⟨E,aq⟩:∃E,ah.heap.size=E:=⟨_,rfl⟩
 have ct:bi<E:=by rw[<-aq];exact(q.1.ko bi a9).1
 obtain⟨V2,hV⟩:∃V,ah.alloc (aG #[N dE 0,N dE 0,aH ⟨#[]⟩] 68)=V:=⟨_,rfl⟩
 have ai:V2.heap[E]? =M (aG #[N dE 0,N dE 0,aH ⟨#[]⟩] 68):=by rw[<-hV,<-aq];exact cX _ _
 have a8:V2.heap.size=E+1:=by rw[<-hV,<-aq];simp
 have Y:V2.heap[bi]? =M (aG #[N X 0] 3):=by
  rw[<-hV]
  show(ah.heap.push _)[bi]? =_
  rw[Array.getElem?_push_lt aA,<-dA];exact bm
 have ab:j9 link.tWg Wg V2:=let ⟨st,sm,hl⟩:=q.2;⟨st,sm,hl.of_block (by rw[<-hV];exact af.block _ q.1.hG (λh=>(q.1.ko _ (q.1.kw _ h)).2.1 rfl) λ_=>rfl)⟩
 rw[hV]at hS;rw[hV,aq];rw[aq]at hS;obtain⟨K2,ak⟩:∃K2,K1.grow E V2.heap.size=K2:=⟨_,rfl⟩
 rw[ak]at hS⊢;have ag:K2.O E:=by rw[<-ak];exact cK ⟨jE,aA⟩
 have ax:K2.W E:=by rw[<-ak];exact cK ⟨jE,aA⟩
 have J:K2.O bi:=by rw[<-ak];exact cJ a9
 have cm:∀b,K2.W b->b=bi\/b=E:=by rw[<-ak];exact λb hb=>hb.elim (λh=>cJ (b1 b h)) λh=>cK aA
 have b5:¬OB E:=λh=>by have:=(q.1.ko E (q.1.sub E h)).1;omega
 have az:K2.W bi:=by rw[<-ak];exact cJ bg
 replace q:SF OB W Wg C n K2 V2/\j9 link.tWg Wg V2:=⟨hS,ab⟩
 clear af hS ab hV ak a8 aq bm;walk_nrm;have br:=(q.1.ko bi J).2.2;have bv:=(q.1.ko E ag).2.2;have bu:=(q.1.ko bi J).2.1;have bj:=(q.1.ko E ag).2.1;have bw:∀b,K2.W b->¬OB b:=λb hb=>by grind
 refine kV.opn rfl rfl (by k_ne) λaa an=>?_;replace q:=kN q an;have i5:=(an.block bi J).trans Y;have x5:=(an.block E ag).trans ai;clear an Y ai;have au:Gu (mP Wg C n) Z K2 aa (aa.setCell ⟨bi,0,Z⟩ (N X j)) #[]:=WV az (q.1.ko bi J).1 br aC;refine⟨_,Xa rfl rfl rfl i5,WV az (q.1.ko bi J).1 br λe he=>abo he rfl rfl rfl i5,?_⟩;have aj:=(ku aa ⟨bi,0,Z⟩ (N X j)).2.2.2;have hS:=q.1.gu au bw;rw[aj,kP]at hS;rw[aj,kP];have ab:j9 link.tWg Wg (aa.setCell ⟨bi,0,Z⟩ (N X j)):=let ⟨st,sm,hl⟩:=q.2;⟨st,sm,hl.of_block (kL (Ne.symm bu))⟩
 have Y:(aa.setCell ⟨bi,0,Z⟩ (N X j)).heap[bi]? =M (aG #[N X j] 3):=SY i5;have ai:(aa.setCell ⟨bi,0,Z⟩ (N X j)).heap[E]? =M (aG #[N dE 0,N dE 0,aH ⟨#[]⟩] 68):=(kL (by show E≠bi;omega)).trans x5;replace q:SF OB W Wg C n K2 _/\j9 link.tWg Wg _:=⟨hS,ab⟩
 clear au hS ab aj i5 x5;generalize aa.setCell ⟨bi,0,Z⟩ (N X j)=V5 at *;walk_nrm;refine kV.opn rfl rfl (by k_ne) λae am=>?_;replace q:=kN q am;have i6:=(am.block bi J).trans Y;have x6:=(am.block E ag).trans ai;clear am Y ai;have au:Gu (mP Wg C n) Z K2 ae (xq ae E (N dE (fr j)) (N dE (ad j)) (aH (data j))) #[]:=Q9 ax (q.1.ko E ag).1 bv aC;refine⟨_,Xf rfl rfl rfl x6,Q9 ax (q.1.ko E ag).1 bv λe he=>abZ he rfl rfl rfl x6,?_⟩;obtain⟨_,_,_,aj,a4⟩:=Fj ae E (N dE (fr j)) (N dE (ad j)) (aH (data j));have hS:=q.1.gu au bw;rw[aj,kP]at hS;rw[aj,kP];have ab:j9 link.tWg Wg (xq ae E (N dE (fr j)) (N dE (ad j)) (aH (data j))):=let ⟨st,sm,hl⟩:=q.2;⟨st,sm,hl.of_block (a4 _ (Ne.symm bj))⟩
 have ai:(xq ae E (N dE (fr j)) (N dE (ad j)) (aH (data j))).heap[E]? =M (aG (BK (fr j) (ad j) (data j)) 68):=XK x6;have Y:=(a4 bi aA).trans i6;replace q:SF OB W Wg C n K2 _/\j9 link.tWg Wg _:=⟨hS,ab⟩
 clear au hS ab aj i6 x6 a4;generalize xq ae E (N dE (fr j)) (N dE (ad j)) (aH (data j))=V6 at *;walk_nrm;replace q:(SF OB W Wg C n K2 V6/\V6.heap[bi]? =M (aG #[N X j] 3)/\V6.heap[E]? =M (aG (BK (fr j) (ad j) (data j)) 68))/\j9 link.tWg Wg V6:=⟨⟨q.1,Y,ai⟩,q.2⟩
 clear Y ai
 have ac:∀w w',En (mP Wg C n) Z K2 w w'->(SF OB W Wg C n K2 w/\w.heap[bi]? =M (aG #[N X j] 3)/\w.heap[E]? =M (aG (BK (fr j) (ad j) (data j)) 68))->(SF OB W Wg C n K2 w'/\w'.heap[bi]? =M (aG #[N X j] 3)/\w'.heap[E]? =M (aG (BK (fr j) (ad j) (data j)) 68)):=
  λw w' r h=>⟨h.1.en r,(r.block bi J).trans h.2.1,(r.block E ag).trans h.2.2⟩
 have b7:∀w w',Go.Conc.Aside Wg w w'->(SF OB W Wg C n K2 w/\w.heap[bi]? =M (aG #[N X j] 3)/\w.heap[E]? =M (aG (BK (fr j) (ad j) (data j)) 68))->(SF OB W Wg C n K2 w'/\w'.heap[bi]? =M (aG #[N X j] 3)/\w'.heap[E]? =M (aG (BK (fr j) (ad j) (data j)) 68)):=
  λw w' r h=>⟨h.1.wg bb r,(r.block bi bu).trans h.2.1,(r.block E bj).trans h.2.2⟩
 refine kV.go (n:=20) ?_;u_c bA (jC ac) q;u_c bR (jC ac) q;u_reg (jC ac) q;u_in (jC ac) q;refine goes_call rfl rfl (by k_ne) rfl wgLib.f_add (nm_add link) rfl ⟨by u_nil,?_⟩;walk_nrmf addFn;refine cI λbo ay=>?_;replace q:=jC ac q ay;clear ay;refine addPos (L:=link) (P:=bE) wgLib ac b7 ?_ bo q;clear q;intro b9 q;walk_nrm;refine Way.go (n:=20) ?_;u_c bA (jC ac) q;u_reg (jC ac) q;u_op (jC ac) q;refine cI λbz ao=>Way.stop λwa ha=>?_;replace q:=jC ac (jC ac q ao) ha;clear ao ha;refine⟨rfl,?_⟩;rw[stepG_spawn (d:=Lm Wg bc E bf bi) (w':=wa) (f:=.func 108) (c:=#[aM (M ⟨Wg,0,Z⟩),aM (M ⟨bc,0,Z⟩),aM (M ⟨E,0,Z⟩),aM (M ⟨bf,0,Z⟩),aM (M ⟨bi,0,Z⟩)]) rfl rfl (by k_ne) (by simp[go_sem,Lm,Deferred.ofValue]) rfl];generalize hL:listed _ _ _ _ _=Lx
 have b6:Lx=#[]:=by
  rw[<-hL];simp[listed,go_sem,seen,Deferred.ofValue];rfl
 subst b6;clear hL
 have ba:∀b,(b=bc\/b=E\/b=bf\/b=bi)->K2.O b:=by
  rintro b (rfl|rfl|rfl|rfl)
  .exact q.1.1.sub _ bd
  .exact ag
  .exact q.1.1.sub _ bl
  .exact J
 refine⟨_,_,⟨K2.O,λ_=>False⟩,⟨_,λ_=>False⟩,rfl,rfl,λ_ h=>h,λ_ h=>h.elim,ba,λ_ h=>h.elim,λ_ h=>h.elim,λ_ h=>h.elim,λ_ h=>h.elim,λ_ h=>h.elim,λbs a6=>?_,?_⟩
 .refine kV.mono (kV.keep (Wa:=λb=>b=bc\/b=bf) (B:=W.heap.size) (Qy rd hj bb b4 hd ⟨(q.1.1.old bc bd).trans b2,q.1.2.2,(q.1.1.old bf bl).trans b8,q.1.2.1,a6,bs⟩ ⟨cJ rfl,cK (cJ rfl),cK (cK (cJ rfl)),cK (cK (cK rfl)),λ_ h=>h.elim,λb hb=>(q.1.1.ko b (ba b hb)).1,q.1.1.hC,q.1.1.hG,λb hb=>(q.1.1.ko b (ba b hb)).2.2,q.1.1.glob⟩) (λb hb=>by
   obtain rfl|rfl|rfl|rfl:=hb
   .exact cJ (cJ rfl)
   .exact cK ((q.1.1.new _ ag).resolve_left b5)
   .exact cJ (cK rfl)
   .exact cK ((q.1.1.new _ J).resolve_left b3)) q.1.1.siz) λK g w x=>let ⟨⟨v,h1,h2⟩,h3⟩:=x;⟨v,h1,h2,h3⟩
 ·
  replace q:SF OB W Wg C n ⟨K2.O,λ_=>False⟩ wa/\j9 link.tWg Wg wa:=⟨⟨q.1.1.sub,q.1.1.old,λ_ h=>h.elim,q.1.1.ko,q.1.1.pay,q.1.1.hC,q.1.1.hG,q.1.1.glob,q.1.1.new,q.1.1.siz,q.1.1.still,q.1.1.low⟩,q.2⟩
  have cp:IntKind.i64.wrap ((j:Int)+1)=((j+1:Nat):Int):=by rw[cP];omega
  walk_nrm;refine Way.go (n:=20) ?_;u_c bA kN q;u_c stepG_inBlock kN q;u_reg kN q
  iterate 2 u_op kN q
  u_c bA kN q;u_c stepG_inLoop kN q;refine cI λbz ao=>?_;replace q:=kN q ao;refine a7 _ _ _ ⟨_,rfl,?_,?_,?_,?_,?_,?_,?_⟩ q λ_ h=>h
  all_goals simp
end
end
end Cr
