/- For every config, every upper chain and every number of bulk at most 1048576 together tributarykeep.Grows returns true and leaves its arguments as they read: what a chain that is cut gives, the longer one gives too, and more behind it. The goroutines that it starts may still be leaving when it returns. The table of heads is tied to the program's text by the given tie; no other condition. -/
import Derived.Test.YtpibpdpedjinhaaGreatDoorP35
import Derived.Conc.LeavingOf
import Derived.SevenTiedAt
import Derived.Test.YtpibpdpedjinhaaGreatDoorCards
import Derived.Test.YtpibpdpedjinhaaGreatDoorTie
set_option maxRecDepth 100000
set_option maxHeartbeats 1000000
set_option linter.unusedSimpArgs false
namespace Go.Proofs.YtpibpdpedjinhaaGreatDoor
section
open Go Go.Conc
section
variable {s:OpenSpec} {p:Pinned} {c:OpenClaim}
section
variable {H:Type} {enc:TypeId×Value->H}
theorem qN {a:Assume} {C:Checked} {os:Os} {f:FuncId} {fn:Func} {F:Stop.Interp} {R:List PathCond} {apart fresh z E:Bool} {J:List (String×DataW Unit)}
  (own:ownKnob C.prog.godebug=none) (I:os.Started) (ah:C.prog.funcs[f]? =some fn)
  (Y:∃(w:World) (tape:Tape) (i:Input),w.os=os/\(w.forCall tape i).Shaped C.prog/\i.vars=[]/\Input.okWide C.prog (w.forCall tape i) .any w.heap.size f i/\
   s.preRow enc C.prog fn R apart J (w.forCall tape i).memory i.args/\a.holds C.prog (lone (Frame.enter C.prog f i.args .normal) [] (w.forCall tape i)))
  (runs:∀(W:World) (base:Nat) (args:Array Value) (ds gs:List (DataW H)) (q:List MemPlace),
   (∀(j:Nat) t v,fn.params[j]? =some t->args[j]? =some v->Value.okWide C.prog W .any base t v)->
   DataW.Whole enc C.prog fn.params.toList s.vars apart W args.toList ds gs q->
   (∀k,s.cond=some k->k H (ds++gs)=true)->
   laidMetH C.prog J W->
   W.ShapedOpen C.prog->
   ∃M last o w' t',runNT C.prog (M+1) (solo (G (Frame.enter C.prog f args .normal) []) W) #[]=(.ended o w',t')/\runN C.prog M (solo (G (Frame.enter C.prog f args .normal) []) W)=.next last/\
    step C.prog last=.ended o w'/\Conc.Good C.prog (λv W'=>(s.at F).post enc C.prog fn apart fresh z E W args v W') last o w' t'):
  ReturnsInLeavingWide a C os f .any (s.preRow enc C.prog fn R apart J) ((s.at F).post enc C.prog fn apart fresh z E):=by
 refine returnsInLeavingWide_of_good own I Y ?_
 intro w tape i _ ag _ af ac _
 obtain ⟨_,_,_,ai,ab,_,_,_,_,aa⟩:=af
 have e:ai=fn:=eP (ab.symm.trans ah)
 subst e
 obtain ⟨⟨hp,hl⟩,hz⟩:=ac
 obtain ⟨ds,gs,q,hw,hc,hk⟩:=OpenSpec.pre_parts hp
 have ae:=DataW.Whole.of_heap (w':=w.forCall tape i) (by rfl) hw
 obtain ⟨M,last,o,w',t',h1,h2,h3,h4⟩:=runs (w.forCall tape i) w.heap.size i.args ds gs q aa ae hk (hl.of_heap (by rfl)) ag
 exact ⟨M,last,o,w',t',h1,h2,h3,h4.mono λv hp=>ChangeSpec.post_blind hp⟩
end
theorem rP (f:FuncId) (fn:Func)
  (hn:c.program=p.name) (hs:c.sum=p.sum) (a6:c.spec=s.name)
  (q:c.start=.entering) (z:c.outside=[]) (av:c.inits=[]) (a1:c.under=none) (aq:c.initsInPlace=[]/\c.initsUnfollowed=false/\c.initsRecurse=false/\c.initsNamed=[]/\c.initsPassed=[]) (ai:c.noBlocks=false) (ba:c.leaving=true) (Y:c.followed=none) (ag:c.narrowed=s.cond.isSome) (I:c.still=false)
  (a7:p.checked.prog.funcNamed c.func=some f) (hf:p.checked.prog.funcs[f]? =some fn)
  (E:joinedFacts p.checked.prog f fn s.bare c=true)
  (R:fn.isInstance p.checked.prog c.origin c.targs) (J:fn.isWrapper p.checked.prog c.wrapper c.mainSum)
  (h:∀os:Os,os.Started->∀(H:Type) (enc:TypeId×Value->H),(∀a b,enc a=enc b->a=b)->∀F:Stop.Interp,
   ReturnsInLeavingWide c.assume p.checked os f .any (c.pre enc p.checked.prog fn s) ((s.at F).post enc p.checked.prog fn c.apart c.fresh c.handsOn c.again)):c.holds p s:=by
 simp only [joinedFacts,bY,beq_iff_eq,Array.all_eq_true_iff_forall_mem,eY,decide_eq_true_eq] at E
 obtain ⟨⟨⟨⟨⟨⟨⟨⟨⟨⟨⟨⟨⟨⟨⟨⟨⟨⟨⟨⟨⟨⟨⟨⟨⟨⟨⟨⟨⟨⟨⟨k1,k2⟩,k3⟩,k4⟩,k5⟩,k6⟩,k7⟩,k8⟩,k9⟩,ap⟩,a2⟩,a3⟩,bb⟩,an⟩,ao⟩,a0⟩,ay⟩,ac⟩,am⟩,aw⟩,ar⟩,a4⟩,ax⟩,ah⟩,aa⟩,af⟩,ab⟩,ae⟩,ak⟩,a5⟩,a9⟩,aj⟩:=E
 have hq:∀os:Os,Stop.quiet p.checked.prog os:=λos k hk=>by rw [k9] at hk;cases hk
 refine ⟨k1,hn,hs,a6,k2,k3,by unfold OpenClaim.startFits;rw [q];exact af,by unfold OpenClaim.startTold;rw [q];exact ⟨av,a1,aq⟩,f,fn,a7,hf,⟨k4,aw⟩,(λhb=>by rw [ai] at hb;cases hb),by unfold OpenClaim.namedList;rw [Y];exact k5,R,J,
  k6.trans k7.symm,⟨k8.trans k9.symm,by unfold Program.envWorded;rw [k9];rfl,aa⟩,ap,a2,a3,bb,an,⟨ao,a9,aj⟩,⟨a0,ar⟩,⟨ay,a4,ak,a5⟩,⟨ax,ab,ae,ac⟩,(by rw [z,ag];cases a8:c.shortTexts with|none=>simp|some _=>rw [a8] at ah;cases ah),λn au=>varReadable_some (am n au),
  ⟨_,by unfold OpenClaim.world;rw [z,q];exact WideRow.started_initial,hq _⟩,[],by unfold OpenClaim.lists;rw [Y],λos st _ H enc inj=>?_⟩
 have az:os.Started:=by unfold OpenClaim.world at st;rw [z,q] at st;exact st
 rw [OpenClaim.post_not_still I]
 unfold OpenClaim.form
 rw [q,k6]
 intro F
 have e1:c.okInput=Input.okWide:=by unfold OpenClaim.okInput;rw [ai]
 have e2:c.atReturn p.checked.prog=leavingAtReturn p.checked.prog:=by unfold OpenClaim.atReturn;rw [ba]
 have e3:c.always p.checked.prog []=nothingAlways:=by unfold OpenClaim.always;rw [Y]
 have e4:s.post enc p.checked.prog fn F c.outside c.apart c.fresh c.handsOn c.again=(s.at F).post enc p.checked.prog fn c.apart c.fresh c.handsOn c.again:=by rw [z];rfl
 rw [e1,e2,e3]
 show ReturnsInOpen _ _ _ _ _ _ _ _ (s.post enc p.checked.prog fn F c.outside c.apart c.fresh c.handsOn c.again) _ _
 rw [e4]
 exact h os az H enc inj F af
theorem zl (Lk:Looks) (kinds:List LaidKind) (z:Bool) (q:Bool×String) (lk g:Bool)
  (hc:c.holds p s) (hw:c.wfByText s=true) (E:c.laidByTextAt Lk p kinds z)
  (I:c.start=.entering) (J:c.noBlocks=false/\c.again=false) (hm:p.checked.prog.mainIs=some (q.1,q.2.toList)) (hn:(!q.1&&q.2.isEmpty&&!lk)=false)
  (hl:∀f fn,p.checked.prog.funcNamed c.func=some f->p.checked.prog.funcs[f]? =some fn->lk=p.checked.prog.looks []/\∀(j:Nat) t,fn.params[j]? =some t->p.checked.prog.wantsStandIn t=false)
  (R:g=c.goesBy p.checked.prog):
  Claim7.holds p (.plain s) { stood:={ row:=c,standIns:=[],harness:=q,looks:=lk },kinds:=[],alts:=[],goes:=g,laidByText:=true,laidKinds:=kinds,laidTests:=z,laidLooks:=Lk }:=by
 have h6:∀r:OpenClaim,Claim7.isSixth { stood:={ row:=r,standIns:=[],harness:=q,looks:=lk },kinds:=[] }=false:=λr=>by simpa [Claim7.isSixth] using hn
 exact ⟨Claim7.tied_new_at Lk kinds z (Claim7.new_of_sixth hc q lk I J hm (h6 c) hl) hw,(λD Y=>by cases Y),E,(λh=>by cases h),R⟩
end
end
namespace grows
open Go.ChangeShapes Go.WideShapes Go.ChangeAt Go.RowKit Go.Conc Go.Proofs.YtpibpdpedjinhaaGreatDoor.Pa
open Hm (jI)
theorem own:ownKnob Tryz.prog.godebug=none:=by kernel_rfl
theorem laidOut:laidOutB Tryz.prog=true:=by kernel_rfl
theorem runs (rd:Cr.ReadW) (H:Type) (enc:TypeId×Value->H) (W:World) (base:Nat) (args:Array Value) (ds gs:List (DataW H)) (R:List MemPlace)
  (z:∀(j:Nat) t v,Tryz.f5.params[j]? =some t->args[j]? =some v->Value.okWide Tryz.prog W .any base t v)
  (hW:DataW.Whole enc Tryz.prog Tryz.f5.params.toList Rows.growsSpec.vars false W args.toList ds gs R) (hk:Rows.uptoSmall H (ds++gs)=true) (hL:laidMetH Tryz.prog Rows.growsUptoRow.laid W) (ai:W.ShapedOpen Tryz.prog):
  Cr.wo Tryz.prog (λv W'=>Rows.growsSpec.post enc Tryz.prog Tryz.f5 false true false false W args v W') (solo (G (Frame.enter Tryz.prog 5 args .normal) []) W) #[]:=by
 have ap:=hW
 obtain ⟨p,q,ao,hV,rfl,a1,a5⟩:=hW
 have hA:DataW.TrodAll enc Tryz.prog W 0 (λ_=>true) true Tryz.f5.params.toList args.toList ds p:=ao
 rw [Tryz.params5] at hA z
 obtain ⟨v0,ay,d0,aw,p0,q0,E,rfl,rfl,h0,r0⟩:=trodAll_cons hA
 obtain ⟨v1,av,d1,a2,p1,q1,rfl,rfl,rfl,h1,r1⟩:=trodAll_cons r0
 obtain ⟨v2,a4,d2,a0,p2,q2,rfl,rfl,rfl,h2,r2⟩:=trodAll_cons r1
 obtain ⟨rfl,rfl,rfl⟩:=trodAll_nil r2
 obtain rfl:args=#[v0,v1,v2]:=by cases args;simp_all
 obtain ⟨rfl,rfl⟩:=trodVars_none hV
 have k0:=h0
 have k1:=h1
 have ak:∀x∈p0,x.block < W.heap.size:=by obtain ⟨m,hm⟩:=k0;exact DataW.trod_lt m _ _ _ hm
 have am:∀x∈p1,x.block < W.heap.size:=by obtain ⟨m,hm⟩:=k1;exact DataW.trod_lt m _ _ _ hm
 obtain ⟨cs,rfl,ax⟩:=okWide_struct Tryz.underlying24 (z 0 24 v0 rfl rfl)
 obtain ⟨xa,n,vc,rfl⟩:=okWide_slice Tryz.underlying25 (z 1 25 v1 rfl rfl)
 obtain ⟨ct,rfl,rfl,rfl,aa⟩:=open_int Tryz.underlying3 (z 2 3 v2 rfl rfl) h2
 obtain ⟨f0,aq⟩:=h0
 obtain ⟨f1,ar⟩:=h1
 obtain ⟨c,hc,ah⟩:=IY aq
 simp only at ah
 subst ah
 obtain rfl:cs=jI c:=by
  have:cs.toList=(jI c).toList:=by simpa [Value.cells] using hc
  cases cs
  simp_all
 simp only [fU] at hk
 have au:Rows.uptoBulk d1<=4294967296:=by
  have h:Rows.uptoBulkAll [d0,d1,.lit (.int .i64 ct)]<=1048576:=of_decide_eq_true hk
  simp only [Rows.uptoBulkAll] at h
  omega
 have af:-9223372036854775808<=ct/\ct<=9223372036854775807:=by
  simp only [Lit.wf,bY,decide_eq_true_eq] at aa
  exact aa
 have ab:=Ze ai
 obtain ⟨v,ps,az,a3,hv,aj,ae,ac⟩:=Uu ar au
 obtain rfl:Value.slice xa n vc=v:=by simpa [Value.cells] using hv
 simp only [Value.slice.injEq] at aj
 obtain ⟨rfl,rfl,rfl⟩:=aj
 refine Cr.LZ ?_
 have ag:Frame.enter Tryz.prog 5 #[.agg (jI c),.slice xa ps.length vc,.int .i64 ct] .normal=(Conc.base 5).at { tmps:=#[.agg (jI c),.slice xa ps.length vc,.int .i64 ct]++Array.replicate 74 undef,defers:=[] } [.code (.seq Hm.DW (.seq Hm.Ea (.seq Hm.Em (.seq Hm.DV (.seq Hm.yX (.seq Hm.EZ (.seq Hm.EL Hm.Qc)))))))]:=by
  unfold Frame.enter
  simp only [Tryz.func5,bQ,fB,gK,Hm.GZ]
  rfl
 refine Po.OE (fr:=Frame.enter Tryz.prog 5 #[.agg (jI c),.slice xa ps.length vc,.int .i64 ct] .normal) ?_ ?_
 ·rw [ag]
  refine TA rd af.1 af.2 (by simpa [Po.hush] using ab) (UQ ae) ac (JK ai (UM hL)) λD w' y hc hw an=>?_
  have I:=O7 hc hw an
  have E:=trodAll_cons_mk (Go.RowKit.Below.trod laidOut (by kernel_rfl) (of_decide_eq_true (by kernel_rfl)) k0 I ak) (trodAll_cons_mk (Go.RowKit.Below.trod laidOut (by kernel_rfl) (of_decide_eq_true (by kernel_rfl)) k1 I am) (trodAll_cons_mk (shut_int Tryz.underlying3 aa) trodAll_mk0))
  have Y:∀J,W.keptBut y J:=λJ=>⟨(I.frame J).1,(I.frame J).2.1,(I.frame J).2.2⟩
  exact ⟨_,_,_,[],_,[],ap,trodAll_mk1 (shut_bool Tryz.underlying4 _),E.of_heap (by rfl),rfl,Y _,λh=>by cases h⟩
 ·rw [ag]
  exact SQ Tryz.func5 rfl Hm.GZ
noncomputable def laidWorld (os:Os):World:=
 { World.holding Tryz.prog os ⟨#[],#[],[]⟩ with heap:=(World.holding Tryz.prog os ⟨#[],#[],[]⟩).heap.modify 1 fun
   |.cells _ t frozen=>.cells #[.bool false,.int .u8 128,.int .u8 183,.bool true,.int .u8 192,.int .u8 247] t frozen
   |o=>o }
def NH:Array Value:=#[.agg #[.int .u32 0,.int .u32 0,.int .i64 0,.int .i64 0,.int .i64 0,.int .i64 0,.int .i64 0],.slice none 0 0,.int .i64 0]
theorem laid_met (os:Os):laidMet Tryz.prog Rows.growsUptoRow.laid ((laidWorld os).forCall (λ_ _=>0) ⟨#[],NH,[]⟩).memory:=
 laidMet_of_run' 8 (by kernel_rfl) (by kernel_rfl)
theorem reads (os:Os) {H:Type} (enc:TypeId×Value->H):∃q,DataW.whole enc Tryz.prog ((laidWorld os).forCall (λ_ _=>0) ⟨#[],NH,[]⟩).memory Tryz.f5.params.toList Rows.growsSpec.vars false NH.toList 8=some ([.agg [.lit (.int .u32 0),.lit (.int .u32 0),.lit (.int .i64 0),.lit (.int .i64 0),.lit (.int .i64 0),.lit (.int .i64 0),.lit (.int .i64 0)],.nil,.lit (.int .i64 0)],[],q):=
 ⟨[],by kernel_rfl⟩
theorem MW (rd:Cr.ReadW) (os:Os) (q:os.Started) (H:Type) (enc:TypeId×Value->H) (F:Stop.Interp):
  ReturnsInLeavingWide {} Tryz.checked os 5 .any ((Rows.OpenSpec.upto Rows.growsSpec).preRow enc Tryz.prog Tryz.f5 Rows.growsUptoRow.domain false Rows.growsUptoRow.laid) (((Rows.OpenSpec.upto Rows.growsSpec).at F).post enc Tryz.prog Tryz.f5 false true false false):=by
 obtain ⟨J,hx⟩:=reads os enc
 refine qN (C:=Tryz.checked) (s:=Rows.OpenSpec.upto Rows.growsSpec) own q Tryz.func5
  (witness_row_at (enc:=enc) (C:=Tryz.checked) false (laidWorld os) NH rfl (by kernel_rfl) (by kernel_rfl) (by kernel_rfl)
   (OpenSpec.preRow_of_cond 8 hx (by kernel_rfl) (λk hk=>by cases hk;kernel_rfl) (by kernel_rfl) (laid_met os))) ?_
 intro W base args ds gs z I Y E hL R
 exact runs rd H enc W base args ds gs z I Y (E _ rfl) hL R
theorem RV (rd:Cr.ReadW):Rows.GrowsUptoSaid:=
 rP 5 Tryz.f5 rfl rfl rfl rfl rfl rfl rfl ⟨rfl,rfl,rfl,rfl,rfl⟩ rfl rfl rfl rfl rfl (by kernel_rfl) Tryz.func5 (by kernel_rfl)
  (of_decide_eq_true (by kernel_rfl)) (by unfold Func.isWrapper;first|(rw [if_pos (by decide+kernel)];kernel_rfl)|(rw [if_neg (by decide+kernel)];exact ⟨rfl,rfl⟩))
  (λos q H enc _ F=>by rw [OpenClaim.pre_eq_preRow];exact MW rd os q H enc F)
theorem plain (f:FuncId) (fn:Func) (z:Tryz.pinned.checked.prog.funcNamed "tributary/tributarykeep.Grows"=some f) (q:Tryz.pinned.checked.prog.funcs[f]? =some fn):
  false=Tryz.pinned.checked.prog.looks []/\∀(j:Nat) t,fn.params[j]? =some t->Tryz.pinned.checked.prog.wantsStandIn t=false:=by
 obtain rfl:f=5:=eP ((show Tryz.prog.funcNamed "tributary/tributarykeep.Grows"=some 5 by kernel_rfl).symm.trans z) |>.symm
 obtain rfl:fn=Tryz.f5:=(eP (Tryz.func5.symm.trans q)).symm
 refine ⟨by kernel_rfl,λj t ht=>?_⟩
 rw [Tryz.params5] at ht
 have ht:t=24\/t=25\/t=3:=by simpa using fZ ht
 rcases ht with rfl|rfl|rfl
 ·exact (show Tryz.prog.wantsStandIn 24=false by kernel_rfl)
 ·exact (show Tryz.prog.wantsStandIn 25=false by kernel_rfl)
 ·exact (show Tryz.prog.wantsStandIn 3=false by kernel_rfl)
end grows
section
theorem grows_card_holds:Rows.GrowsUptoCardSaid:=
 zl .later [.data] true (true,"86f446d083b21c697143d8f604f5e2b0e35ced65590020ebfc29d445f4fc9267") false true (grows.RV Cr.I8) (by kernel_rfl) growsUpto_row_tie rfl ⟨rfl,rfl⟩ (by kernel_rfl) rfl grows.plain (by kernel_rfl)
end
end Go.Proofs.YtpibpdpedjinhaaGreatDoor
