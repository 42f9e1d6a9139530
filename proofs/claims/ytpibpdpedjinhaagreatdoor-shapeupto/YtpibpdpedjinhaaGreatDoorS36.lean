/- For every config and every upper chain of bulk at most 1048576 together tributarykeep.Shape returns true and leaves its arguments as they read: times, epochs, Seqs, drift and deposits of what All gives are as the document asks, and each epoch that is over has a block. The goroutines that it starts may still be leaving when it returns. The table of heads is tied to the program's text by the given tie; no other condition. -/
import Derived.Test.YtpibpdpedjinhaaGreatDoorS35
import Derived.Test.YtpibpdpedjinhaaGreatDoorCards
import Derived.Test.YtpibpdpedjinhaaGreatDoorTie
set_option maxRecDepth 100000
set_option maxHeartbeats 1000000
set_option linter.unusedSimpArgs false
namespace Go.Proofs.YtpibpdpedjinhaaGreatDoor
namespace shape
open Go.ChangeShapes Go.WideShapes Go.ChangeAt Go.RowKit Go.Conc Go.Proofs.YtpibpdpedjinhaaGreatDoor.Pa
open Hm (jI)
theorem own:ownKnob Tryz.prog.godebug=none:=by kernel_rfl
theorem laidOut:laidOutB Tryz.prog=true:=by kernel_rfl
theorem runs (rd:Cr.ReadW) (H:Type) (enc:TypeId×Value->H) (W:World) (base:Nat) (args:Array Value) (ds gs:List (DataW H)) (R:List MemPlace)
  (I:∀(j:Nat) t v,Tryz.f6.params[j]? =some t->args[j]? =some v->Value.okWide Tryz.prog W .any base t v)
  (hW:DataW.Whole enc Tryz.prog Tryz.f6.params.toList Rows.shapeSpec.vars false W args.toList ds gs R) (hk:Rows.uptoSmall H (ds++gs)=true) (hL:laidMetH Tryz.prog Rows.shapeUptoRow.laid W) (ag:W.ShapedOpen Tryz.prog):
  Cr.wo Tryz.prog (λv W'=>Rows.shapeSpec.post enc Tryz.prog Tryz.f6 false true false false W args v W') (solo (G (Frame.enter Tryz.prog 6 args .normal) []) W) #[]:=by
 have an:=hW
 obtain ⟨p,q,am,hV,rfl,ay,a1⟩:=hW
 have hA:DataW.TrodAll enc Tryz.prog W 0 (λ_=>true) true Tryz.f6.params.toList args.toList ds p:=am
 rw [Tryz.params6] at hA I
 obtain ⟨v0,aw,d0,au,p0,q0,z,rfl,rfl,h0,r0⟩:=trodAll_cons hA
 obtain ⟨v1,ar,d1,az,p1,q1,rfl,rfl,rfl,h1,r1⟩:=trodAll_cons r0
 obtain ⟨rfl,rfl,rfl⟩:=trodAll_nil r1
 obtain rfl:args=#[v0,v1]:=by cases args;simp_all
 obtain ⟨rfl,rfl⟩:=trodVars_none hV
 have k0:=h0
 have k1:=h1
 have ai:∀x∈p0,x.block < W.heap.size:=by obtain ⟨m,hm⟩:=k0;exact DataW.trod_lt m _ _ _ hm
 have aj:∀x∈p1,x.block < W.heap.size:=by obtain ⟨m,hm⟩:=k1;exact DataW.trod_lt m _ _ _ hm
 obtain ⟨cs,rfl,av⟩:=okWide_struct Tryz.underlying24 (I 0 24 v0 rfl rfl)
 obtain ⟨xa,n,vc,rfl⟩:=okWide_slice Tryz.underlying25 (I 1 25 v1 rfl rfl)
 obtain ⟨f0,ao⟩:=h0
 obtain ⟨f1,ap⟩:=h1
 obtain ⟨c,hc,af⟩:=IY ao
 simp only at af
 subst af
 obtain rfl:cs=jI c:=by
  have:cs.toList=(jI c).toList:=by simpa [Value.cells] using hc
  cases cs
  simp_all
 simp only [fU] at hk
 have aq:Rows.uptoBulk d1<=4294967296:=by
  have h:Rows.uptoBulkAll [d0,d1]<=1048576:=of_decide_eq_true hk
  simp only [Rows.uptoBulkAll] at h
  omega
 have aa:=Ze ag
 obtain ⟨v,ps,ax,a0,hv,ah,ac,ab⟩:=Uu ap aq
 obtain rfl:Value.slice xa n vc=v:=by simpa [Value.cells] using hv
 simp only [Value.slice.injEq] at ah
 obtain ⟨rfl,rfl,rfl⟩:=ah
 refine Cr.LZ ?_
 have ae:Frame.enter Tryz.prog 6 #[.agg (jI c),.slice xa ps.length vc] .normal=(Conc.base 6).at { tmps:=#[.agg (jI c),.slice xa ps.length vc]++Array.replicate 234 undef,defers:=[] } [.code (.seq Hm.acn (.seq Hm.abl (.seq Hm.ab6 (.seq Hm.abN (.seq Hm.abD (.seq Hm.abI Hm.uG))))))]:=by
  unfold Frame.enter
  simp only [Tryz.func6,bQ,fB,gK,Hm.aa6]
  rfl
 refine Po.OE (fr:=Frame.enter Tryz.prog 6 #[.agg (jI c),.slice xa ps.length vc] .normal) ?_ ?_
 ·rw [ae]
  refine ab4 rd (by simpa [Po.hush] using aa) (UQ ac) ab (JK ag (UM hL)) λD w' y hc hw ak=>?_
  have E:=O7 hc hw ak
  have z:=trodAll_cons_mk (Go.RowKit.Below.trod laidOut (by kernel_rfl) (of_decide_eq_true (by kernel_rfl)) k0 E ai) (trodAll_cons_mk (Go.RowKit.Below.trod laidOut (by kernel_rfl) (of_decide_eq_true (by kernel_rfl)) k1 E aj) trodAll_mk0)
  have Y:∀J,W.keptBut y J:=λJ=>⟨(E.frame J).1,(E.frame J).2.1,(E.frame J).2.2⟩
  exact ⟨_,_,_,[],_,[],an,trodAll_mk1 (shut_bool Tryz.underlying4 _),z.of_heap (by rfl),rfl,Y _,λh=>by cases h⟩
 ·rw [ae]
  exact ab7 Tryz.func6 rfl Hm.aa6
noncomputable def laidWorld (os:Os):World:=
 { World.holding Tryz.prog os ⟨#[],#[],[]⟩ with heap:=(World.holding Tryz.prog os ⟨#[],#[],[]⟩).heap.modify 1 fun
   |.cells _ t frozen=>.cells #[.bool false,.int .u8 128,.int .u8 183,.bool true,.int .u8 192,.int .u8 247] t frozen
   |o=>o }
def NH:Array Value:=#[.agg #[.int .u32 0,.int .u32 0,.int .i64 0,.int .i64 0,.int .i64 0,.int .i64 0,.int .i64 0],.slice none 0 0]
theorem laid_met (os:Os):laidMet Tryz.prog Rows.shapeUptoRow.laid ((laidWorld os).forCall (λ_ _=>0) ⟨#[],NH,[]⟩).memory:=
 laidMet_of_run' 8 (by kernel_rfl) (by kernel_rfl)
theorem reads (os:Os) {H:Type} (enc:TypeId×Value->H):∃q,DataW.whole enc Tryz.prog ((laidWorld os).forCall (λ_ _=>0) ⟨#[],NH,[]⟩).memory Tryz.f6.params.toList Rows.shapeSpec.vars false NH.toList 8=some ([.agg [.lit (.int .u32 0),.lit (.int .u32 0),.lit (.int .i64 0),.lit (.int .i64 0),.lit (.int .i64 0),.lit (.int .i64 0),.lit (.int .i64 0)],.nil],[],q):=
 ⟨[],by kernel_rfl⟩
theorem MW (rd:Cr.ReadW) (os:Os) (q:os.Started) (H:Type) (enc:TypeId×Value->H) (F:Stop.Interp):
  ReturnsInLeavingWide {} Tryz.checked os 6 .any ((Rows.OpenSpec.upto Rows.shapeSpec).preRow enc Tryz.prog Tryz.f6 Rows.shapeUptoRow.domain false Rows.shapeUptoRow.laid) (((Rows.OpenSpec.upto Rows.shapeSpec).at F).post enc Tryz.prog Tryz.f6 false true false false):=by
 obtain ⟨J,hx⟩:=reads os enc
 refine qN (C:=Tryz.checked) (s:=Rows.OpenSpec.upto Rows.shapeSpec) own q Tryz.func6
  (witness_row_at (enc:=enc) (C:=Tryz.checked) false (laidWorld os) NH rfl (by kernel_rfl) (by kernel_rfl) (by kernel_rfl)
   (OpenSpec.preRow_of_cond 8 hx (by kernel_rfl) (λk hk=>by cases hk;kernel_rfl) (by kernel_rfl) (laid_met os))) ?_
 intro W base args ds gs z I Y E hL R
 exact runs rd H enc W base args ds gs z I Y (E _ rfl) hL R
theorem RV (rd:Cr.ReadW):Rows.ShapeUptoSaid:=
 rP 6 Tryz.f6 rfl rfl rfl rfl rfl rfl rfl ⟨rfl,rfl,rfl,rfl,rfl⟩ rfl rfl rfl rfl rfl (by kernel_rfl) Tryz.func6 (by kernel_rfl)
  (of_decide_eq_true (by kernel_rfl)) (by unfold Func.isWrapper;first|(rw [if_pos (by decide+kernel)];kernel_rfl)|(rw [if_neg (by decide+kernel)];exact ⟨rfl,rfl⟩))
  (λos q H enc _ F=>by rw [OpenClaim.pre_eq_preRow];exact MW rd os q H enc F)
theorem plain (f:FuncId) (fn:Func) (z:Tryz.pinned.checked.prog.funcNamed "tributary/tributarykeep.Shape"=some f) (q:Tryz.pinned.checked.prog.funcs[f]? =some fn):
  false=Tryz.pinned.checked.prog.looks []/\∀(j:Nat) t,fn.params[j]? =some t->Tryz.pinned.checked.prog.wantsStandIn t=false:=by
 obtain rfl:f=6:=eP ((show Tryz.prog.funcNamed "tributary/tributarykeep.Shape"=some 6 by kernel_rfl).symm.trans z) |>.symm
 obtain rfl:fn=Tryz.f6:=(eP (Tryz.func6.symm.trans q)).symm
 refine ⟨by kernel_rfl,λj t ht=>?_⟩
 rw [Tryz.params6] at ht
 have ht:t=24\/t=25:=by simpa using fZ ht
 rcases ht with rfl|rfl
 ·exact (show Tryz.prog.wantsStandIn 24=false by kernel_rfl)
 ·exact (show Tryz.prog.wantsStandIn 25=false by kernel_rfl)
end shape
section
theorem shape_card_holds:Rows.ShapeUptoCardSaid:=
 zl .later [.data] true (true,"86f446d083b21c697143d8f604f5e2b0e35ced65590020ebfc29d445f4fc9267") false true (shape.RV Cr.I8) (by kernel_rfl) shapeUpto_row_tie rfl ⟨rfl,rfl⟩ (by kernel_rfl) rfl shape.plain (by kernel_rfl)
end
end Go.Proofs.YtpibpdpedjinhaaGreatDoor
