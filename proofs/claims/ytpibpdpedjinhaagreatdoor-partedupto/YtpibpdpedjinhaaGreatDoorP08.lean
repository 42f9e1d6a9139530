import Derived.Test.YtpibpdpedjinhaaGreatDoorP07
set_option maxRecDepth 100000
namespace Go.Proofs.YtpibpdpedjinhaaGreatDoor
namespace Po
open Go
section
variable {l:Nat}{a b:Code}{P:Program}{x x1:World}{es es1:Array Event}
section
variable {e:Env}{α:Type}
theorem LP{k:Loop->Sem α}(hk:¬e.D l->∀r,wR e (.loop r)->Rb e (k r)):Rb e (Instr.getLoop l >>= k):=by
 unfold Instr.getLoop;rw[bind_assoc];refine GO ⟨⟨_,rfl⟩,λ_ _=>⟨_,rfl⟩⟩ λhd o z=>?_;cases o<;>first|exact H _|exact hk hd _ z
theorem MC(l:Nat)(j:Option Code)(E:∀c,j=some c->e.C c):Rb e (Instr.endRound l j):=by
 unfold Instr.endRound;exact LP λhd r z=>B (mO _ hd ⟨z.1,z.2.1,E⟩) λ_=>U _
theorem FY(l:Nat):Rb e (Instr.beginRound l):=by
 unfold Instr.beginRound;refine LP λhd r z=>B (mO _ hd z) λ_=>?_;split
 ·exact U _
 all_goals exact mg _
theorem OZ(l:Nat):Rb e (Instr.endLoop l):=by
 unfold Instr.endLoop;refine LP λhd r z=>?_;dsimp only;refine IT (B (mg _) λ_=>B (mO _ hd z) λ_=>U _) (B (mO _ hd z) λ_=>U _)
theorem JI(fn:FuncId)(tmps:Array Value)(ps:Array Tmp)(z:e.C a)(E:e.C b)(l:Option Nat):Rb e (Instr.enterLoop fn tmps ps a b l):=by
 unfold Instr.enterLoop;have key:∀d m,Rb e (do pure (<-newObj (.loop { state:=.ready,pending:=none,fn,tmps,params:=ps,assign:=a,body:=b,defers:=d }),m):Sem (Nat×List Deferred)):=λd m=>NB ⟨z,E,by intro c h;cases h⟩ λ_ _=>U _;cases l with
 |some l=>exact B (QL l) λ_=>key _ _
 |none=>exact NB rfl λ_ _=>key _ _
theorem BL(b:Nat):Rb e (Instr.takeDeferred b):=by
 unfold Instr.takeDeferred;refine GO ⟨⟨_,rfl⟩,λ_ _=>⟨_,rfl⟩⟩ λhd o z=>?_;cases o<;>first|exact H _|skip
 rename_i ds;cases ds with
 |none=>exact H _
 |some ds=>exact B (mO _ hd trivial) λ_=>U _
theorem PD(fn:Func)(tmps:Array Value):Rb e (results fn tmps):=by
 unfold results;refine B (UH (λr=>?_) _) λ_=>U _;cases r with
 |tmp t=>exact U _
 |cell a t=>exact B (Ve _) λ_=>Qx _ _
theorem entered{fn:FuncId}{tmps:Array Value}{ps:Array Tmp}{o:Option Nat}{m:List Deferred}(h:(Instr.enterLoop fn tmps ps a b o).runT P x es=(.ok (l,m) x1,es1)):∀d∈m,∃r,d.target=.collected r:=by
 unfold Instr.enterLoop at h;cases o with
 |none=>
  cases h;intro d hd;simp only[dD]at hd;subst hd;exact⟨_,rfl⟩
 |some o=>
  simp only[runT_bind]at h;split at h
  ·cases h;simp
  ·cases h
theorem taken{P:Program}{b:Nat}{x x1 y:World}{es es1:Array Event}{ds:List Deferred}(hw:WP e x y)(h:(Instr.takeDeferred b).runT P x es=(.ok ds x1,es1)):ds=[]:=by
 cases z:x.heap[b]? with
 |none=>
  simp only[Instr.takeDeferred,getObj,bind,Sem.bind,Sem.runT,z]at h;cases h
 |some o=>
  have E:=hw.objs b o z
  have:Sem.runT P (.getObj b λo=>(match o with
   |.deferred (some ds)=>do setObj b (.deferred none);pure ds
   |_=>stuck "range over a function: the deferred calls have been taken":Sem (List Deferred))) x es=(.ok ds x1,es1):=h
  simp only[Sem.runT,z]at this;cases o<;>first|(cases this;done)|skip
  rename_i d;cases d with
  |none=>cases this
  |some d=>
   simp only[setObj,bind,Sem.bind,Sem.runT,z,pure]at this;cases this;exact E
theorem ended{y:World}{j:Option Code}(hw:WP e x y)(h:(Instr.endLoop l).runT P x es=(.ok j x1,es1)):∀c,j=some c->e.C c:=by
 unfold Instr.endLoop at h;rw[runT_bind]at h;split at h
 ·rename_i R w1 I E;obtain⟨J,rfl⟩:=CX E;have z:=hw.objs l _ J;dsimp only at h;split at h
  ·rw[runT_bind]at h;cases h
  ·rw[runT_bind]at h;split at h
   ·cases h;exact z.2.2
   ·cases h
 ·cases h
end
end
section
section
variable {e:Env}{main:Bool}{fr f:Frame}{A c Z:List Frame}
theorem vV(z:OkG e fr A)(v:Value):Sm e Z λP C w=>doReturn P main fr (A++C) none v w:=by
 cases A with
 |cons a l=>exact(kV (z.pop.top ((z.2 a (.head _)).finish v))).of λP _ C w=>by simp only[doReturn,z.1.kind,dH]
 |nil=>exact λx y hw=>.inr (.inl ⟨_,x,#[],by simp only[doReturn,z.1.kind,dM],.inl ⟨v,rfl⟩⟩)
def AY:Option Code->Bool
 |none|some .ret=>true
 |_=>false
theorem xX(z:OkG e fr A){st:Program->List Frame->World->GStep}(j:Option Code)(hj:∀c,j=some c->e.C c)
  (J:fr.roundOf=none->∀P C w,st P C w=if AY j=true then .go (mk { fr with mode:=.returning } (A++C)) w else .ended (.stuck "exit, goto: no such block or label" (fr.pos P)) w)
  (Y:∀l,fr.roundOf=some l->∀P C w,st P C w=GStep.after (seen P fr.fn ((Instr.endRound l j).runT P w #[]).2) (match ((Instr.endRound l j).runT P w #[]).1 with
    |.ok v w=>doReturn P main fr (A++C) none v w
    |.halt _ w=>.ended (.stuck "range over a function: no such loop" (fr.pos P)) w)):Sm e Z st:=by
 cases E:fr.roundOf with
 |none=>
  by_cases R:AY j=true
  ·exact(kV (f:={ fr with mode:=.returning }) (z.top ⟨z.1.todo,z.1.defers,z.1.kind⟩)).of λP _ C w=>by rw[J E,if_pos R]
  ·exact Gz λw=>by rw[J E,if_neg R];exact kH
 |some l=>
  refine sF (MC l j hj) fr.fn (λP C r=>match r with
    |.ok v w=>doReturn P main fr (A++C) none v w
    |.halt _ w=>.ended (.stuck "range over a function: no such loop" (fr.pos P)) w) ?_ ?_ ?_
  ·intro w r es I hf;rw[Y l E,I];refine l9.after ?_ _;cases r with
   |ok v w=>cases hf
   |halt h w=>exact kH
  ·intro P _ C w r es I _;rw[Y l E,I]
  ·intro x y r es I hf hw;cases r with
   |halt h w=>exact .inl kH
   |ok v w=>exact .inr (vV z v)
theorem Xg{P:Program}{id:Nat}:∀{k k':List Item},exitTo id k=some k'->(∀i∈k,oH P i=true)->∀i∈k',oH P i=true:=by
 intro k
 induction k with
 |nil=>intro k' h;cases h
 |cons a k ih=>
  intro k' h hk;have z:∀i∈k,oH P i=true:=λi E=>hk i (.tail _ E);cases a<;>simp only[exitTo]at h
  case inBlock=>
   split at h
   ·cases h;exact z
   ·exact ih h z
  all_goals exact ih h z
theorem WA(F:Fit e)(J:OkG e fr A)(I:fr.mode=.run):Sm e Z λP C w=>stepG P main (mk fr (A++C)) w:=by
 have set:∀{k:List Item},(∀i∈k,oH e.P i=true)->OkG e { fr with todo:=k } A:=λhk=>J.top (J.1.set hk);cases ht:fr.todo with
 |nil=>exact xX J none (by intro c h;cases h) (λR P C w=>by simp[stepG,stepG.exec,I,ht,R,AY]) (λl R P C w=>by simp[stepG,stepG.exec,I,ht,R];rfl)
 |cons i k=>
  have z:oH e.P i=true:=J.1.todo i (by rw[ht];exact .head _);have hk:∀i∈k,oH e.P i=true:=λi z=>J.1.todo i (by rw[ht];exact .tail _ z)
  have one:∀{a:Item}{k:List Item},oH e.P a=true->(∀i∈k,oH e.P i=true)->∀i∈a::k,oH e.P i=true:=λha hk i z=>by
   rcases bV.1 z with rfl|z
   ·exact ha
   ·exact hk i z
  cases i with
  |inBlock id=>exact(kV (set hk)).of λP _ C w=>by simp[stepG,stepG.exec,I,ht]
  |inLoop b=>exact(kV (f:={ fr with todo:=.code b::.inLoop b::k }) (set (one z (one z hk)))).of λP _ C w=>by simp[stepG,stepG.exec,I,ht]
  |inScope b=>cases z
  |call d w r s=>cases z
  |extern r a=>cases z
  |inRangeFunc l=>exact Gz λw=>by simp[stepG,stepG.exec,I,ht];exact kH
  |inRegion ops l=>
   cases l with
   |nil=>exact(kV (set hk)).of λP _ C w=>by simp[stepG,stepG.exec,I,ht]
   |cons i l=>
    by_cases hw:((ops[i]?).map (Region.wanted · (yielded ops fr.tmps))).getD false=true
    ·obtain⟨o,ho⟩:∃o,ops[i]? =some o:=by
      cases ho:ops[i]? with
      |none=>rw[ho]at hw;cases hw
      |some o=>exact⟨o,rfl⟩
     have aa:QA e.P o.op=true:=eY.1 z o (by simpa using fZ ho);refine(yG F J (SB F fr.eval (λv=>rfl) o aa) λx es n x1 ab E=>OY F _ o aa E).of λP _ C w=>?_;have ac:fr.oper? =some o:=by simp only[Frame.oper?,ht,ho]
     simp only[stepG,stepG.exec,I,ht,hw,if_true,stepG.oper,ac];split
     ·rename_i hd _;rw[‹o.op=_›]at aa;cases aa
     ·rfl
    ·exact(kV (J.top (J.1.finish undef))).of λP _ C w=>by simp[stepG,stepG.exec,I,ht,hw]
  |endRangeFunc l=>
   refine sF (OZ l) fr.fn (λP C r=>match r with
    |.ok j w=>.go (mk { fr with todo:=(j.map Item.code).toList++k } (A++C)) w
    |.halt (.panic v) w=>.go (mk (fr.raise [{ v,recovered:=false }]) (A++C)) w
    |.halt _ w=>.ended (.stuck "range over a function: no such loop" (fr.pos P)) w) ?_ ?_ ?_
   ·intro w r es E Y;simp only[stepG,stepG.exec,I,ht,E];refine l9.after ?_ _;cases r with
    |ok v w=>cases Y
    |halt h w=>cases h<;>first|(cases Y;done)|exact kH
   ·intro P _ C w r es E _;simp only[stepG,stepG.exec,I,ht,E];cases r with
    |ok v w=>rfl
    |halt h w=>cases h<;>rfl
   ·intro x y r es E Y hw;cases r with
    |ok j w=>
     refine .inr (kV (set λi z=>?_));rcases dG.1 z with z|z
     ·cases j with
      |none=>cases z
      |some c=>
       simp only[bQ,Option.toList_some,dD]at z;subst z;exact(F.code _).1 (ended hw E c rfl)
     ·exact hk i z
    |halt h w=>cases h<;>first|(cases Y;done)|exact .inl kH|exact .inr (kV (J.top (J.1.raise _)))
  |beginRound=>
   refine(yG F J (s:=do fr.roundOf.elim (stuck "beginRound: no round") Instr.beginRound;pure .skip) (B ?_ λ_=>U _) λx es n x1 ab E=>.inl ((nU (k:=λ_=>pure .skip) λ_=>xO (n:=.skip) trivial) _ _ _ _ _ E)).of λP _ C w=>by simp only[stepG,stepG.exec,I,ht]
   cases fr.roundOf with
   |none=>exact H _
   |some l=>exact FY l
  |code c=>
   cases c with
   |skip=>exact(kV (set hk)).of λP _ C w=>by simp[stepG,stepG.exec,I,ht]
   |label l=>cases z
   |goto l=>cases z
   |scope b=>cases z
   |refuse s=>exact Gz λw=>by simp[stepG,stepG.exec,I,ht];exact kH
   |ret=>exact xX J (some .ret) (by intro c h;cases h;exact(F.code _).2 rfl) (λR P C w=>by simp[stepG,stepG.exec,I,ht,R,AY]) (λl R P C w=>by simp[stepG,stepG.exec,I,ht,R];rfl)
   |seq a b=>exact(kV (f:={ fr with todo:=.code a::.code b::k }) (set (one (iH.1 z).1 (one (iH.1 z).2 hk)))).of λP _ C w=>by simp[stepG,stepG.exec,I,ht]
   |block id b=>exact(kV (f:={ fr with todo:=.code b::.inBlock id::k }) (set (one z (one rfl hk)))).of λP _ C w=>by simp[stepG,stepG.exec,I,ht]
   |loop b=>exact(kV (f:={ fr with todo:=.code b::.inLoop b::k }) (set (one z (one z hk)))).of λP _ C w=>by simp[stepG,stepG.exec,I,ht]
   |cond o a b=>
    by_cases hb:∃q,fr.eval o=.bool q
    ·obtain⟨q,hq⟩:=hb;exact(kV (f:={ fr with todo:=.code (if q then a else b)::k }) (set (one (by cases q;exact(iH.1 z).2;exact(iH.1 z).1) hk))).of λP _ C w=>by simp[stepG,stepG.exec,I,ht,hq]
    ·refine Gz λw=>?_;simp only[stepG,stepG.exec,I,ht];cases hq:fr.eval o with
     |bool q=>exact absurd ⟨q,hq⟩ hb
     |_=>exact kH
   |exit id=>
    cases hx:exitTo id k with
    |some k'=>exact(kV (f:={ fr with todo:=k' }) (set (Xg hx hk))).of λP _ C w=>by simp[stepG,stepG.exec,I,ht,hx]
    |none=>exact xX J (some (.exit id)) (by intro c h;cases h;exact(F.code _).2 rfl) (λR P C w=>by simp[stepG,stepG.exec,I,ht,hx,R,AY]) (λl R P C w=>by simp[stepG,stepG.exec,I,ht,hx,R];rfl)
   |region id ops d=>
    cases d with
    |false=>exact(kV (f:={ fr with todo:=.inRegion ops (List.range ops.size)::k }) (set (one z hk))).of λP _ C w=>by simp[stepG,stepG.exec,I,ht]
    |true=>
     refine sF (jQ (.order fr.fn id)) fr.fn (λP C r=>match r with
      |.ok t w=>.go (mk { fr with todo:=.inRegion ops (Region.schedule (e.T.follows .mixedOrders) ops t)::k } (A++C)) w
      |.halt _ w=>.ended (.stuck "order" (fr.pos P)) w) ?_ ?_ ?_
     ·intro w r es E Y;simp only[choose,Sem.runT,Question.forced,bJ,if_false]at E;cases E;cases Y
     ·intro P hP C w r es E _;have hT:P.follows .mixedOrders=e.T.follows .mixedOrders:=by rcases hP with rfl|rfl<;>rfl
      simp only[choose,Sem.runT,Question.forced,bJ,if_false]at E;cases E;simp only[stepG,stepG.exec,I,ht,choose,Sem.run,Question.forced,bJ,if_false,Bool.not_true,hT,rD,uM]
     ·intro x y r es E Y hw;cases r with
      |ok t w=>exact .inr (kV (set (one z hk)))
      |halt h w=>exact .inl kH
   |rangeFunc o ps a b=>
    obtain⟨ha,hb⟩:=iH.1 z
    refine sF (JI fr.fn fr.tmps ps ((F.code _).2 ha) ((F.code _).2 hb) fr.roundOf) fr.fn (λP C r=>match r with
      |.ok (l,m) w=>stepG.apply P true { fr with todo:=.inRangeFunc l::k,defers:=m++fr.defers } (A++C) none (do let d <-Deferred.ofValue (fr.eval o) #[.func (.yield l) #[] #[]];invoke d.target d.args) w
      |.halt _ w=>.ended (.stuck "range over a function: no such loop" (fr.pos P)) w) ?_ ?_ ?_
    ·intro w r es E Y;simp only[stepG,stepG.exec,I,ht,E];refine l9.after ?_ _;cases r with
     |ok v w=>cases Y
     |halt h w=>exact kH
    ·intro P _ C w r es E _;have af:∀f:Frame,f.tmps=fr.tmps->f.eval=fr.eval:=λf h=>funext λo=>by cases o<;>simp only[Frame.eval,h]
     simp only[stepG,stepG.exec,I,ht,E];cases r with
     |ok v w=>
      obtain⟨l,m⟩:=v;simp only[resolve];rw[af { fr with todo:=.inRangeFunc l::k,defers:=m++fr.defers,mode:=.run } rfl,show Array.map fr.eval #[.const (.func (.yield l) #[] #[])]=#[.func (.yield l) #[] #[]] from by simp[Frame.eval]]
     |halt h w=>rfl
    ·intro x y r es E Y hw;cases r with
     |halt h w=>exact .inl kH
     |ok p w=>
      obtain⟨l,m⟩:=p;have ae:OkG e { fr with todo:=.inRangeFunc l::k,defers:=m++fr.defers } A:=J.top ⟨one rfl hk,λd hd=>(dG.1 hd).elim (λh=>entered E d h) (J.1.defers d),J.1.kind⟩;refine .inr (yG F ae ?_ ?_)
      ·unfold Deferred.ofValue;split
       ·exact Ci F _ _ _
       ·show Rb e (runtimePanic .nilDeref:Sem Next)
        exact mg _
       ·exact H _
      ·intro x es n x1 ab;unfold Deferred.ofValue;split
       ·exact λE=>EY F _ _ _ E
       ·show(runtimePanic .nilDeref:Sem Next).runT e.P x es=_->_
        exact λE=>.inl (xk _ _ _ _ _ _ E)
       ·intro E;cases E
theorem La(F:Fit e)(I:OkG e fr A)(hm:fr.mode≠.run):Sm e Z λP C w=>stepG P main (mk fr (A++C)) w:=by
 have E:∀P C w,stepG P main (mk fr (A++C)) w=unwind P main fr (A++C) none w:=λP C w=>by
  cases h:fr.mode with
  |run=>exact absurd h hm
  |_=>simp only[stepG,h]
 cases hd:fr.defers with
 |cons d ds=>
  obtain⟨b,hb⟩:=I.1.defers d (by rw[hd];exact .head _);obtain⟨t,as⟩:=d;cases hb
  refine sF (BL b) fr.fn (λP C r=>match r with
    |.ok calls w=>.go (mk { fr with defers:=calls++ds } (A++C)) w
    |.halt _ w=>.ended (.stuck "the deferred calls of a range-over-func loop have been taken" (fr.pos P)) w) ?_ ?_ ?_
  ·intro w r es z hf;simp only[E,unwind,hd,z];refine l9.after ?_ _;cases r with
   |ok v w=>cases hf
   |halt h w=>exact kH
  ·intro P _ C w r es z _;simp only[E,unwind,hd,z];cases r<;>rfl
  ·intro x y r es z hf hw;cases r with
   |halt h w=>exact .inl kH
   |ok c w=>
    cases taken hw z;exact .inr (kV (I.top ⟨I.1.todo,λd h=>I.1.defers d (by rw[hd];exact .tail _ h),I.1.kind⟩))
 |nil=>
  cases R:fr.mode with
  |run=>exact absurd R hm
  |panicking ch=>
   have hc:∀P,fr.catches P=false:=λP=>by
    unfold Frame.catches;split
    ·rename_i hk;exact absurd hk I.1.head
    ·rfl
   cases A with
   |cons a l=>exact(kV (I.pop.top ((I.2 a (.head _)).raise ch))).of λP _ C w=>by rw[E];simp[unwind,hd,R,hc]
   |nil=>exact λx y hw=>.inr (.inl ⟨_,x,#[],(E _ _ _).trans (by simp[unwind,hd,R,hc]),.inr ⟨ch,rfl⟩⟩)
  |returning=>
   have z:=F.results fr.fn;cases Y:e.F[fr.fn]? with
   |none=>
    have hG:e.G[fr.fn]? =none:=by
     rw[Y]at z;cases hG:e.G[fr.fn]? with
     |none=>rfl
     |some g=>rw[hG]at z;cases z
    refine(vV (main:=main) I (fr.tmps.getD 0 undef)).of λP hP C w=>?_;have:P.funcs[fr.fn]? =none:=by rcases hP with rfl|rfl;exact Y;exact hG
    simp only[E,unwind,hd,R,this]
   |some fn=>
    refine sF (PD fn fr.tmps) fr.fn (λP C r=>match r with
     |.ok v w=>doReturn P main fr (A++C) none v w
     |.halt (.stuck s) w=>.ended (.stuck s (fr.pos P)) w
     |.halt _ w=>.ended (.stuck "return: the result variables cannot be read" (fr.pos P)) w) ?_ ?_ ?_
    ·intro w r es z hf;simp only[E,unwind,hd,R,show e.P.funcs[fr.fn]? =some fn from Y,z];refine l9.after ?_ _;cases r with
     |ok v w=>cases hf
     |halt h w=>cases h<;>exact kH
    ·intro P hP C w r es aa _
     obtain⟨J,h1,h2⟩:∃J,P.funcs[fr.fn]? =some J/\results J fr.tmps=results fn fr.tmps:=by
      rcases hP with rfl|rfl
      ·exact⟨fn,Y,rfl⟩
      ·rw[Y]at z;cases hG:e.G[fr.fn]? with
       |none=>rw[hG]at z;cases z
       |some g=>
        rw[hG]at z;have h3:g.results=fn.results:=eP z;exact⟨g,rfl,by unfold results;rw[h3]⟩
     simp only[E,unwind,hd,R,h1,h2,aa];cases r with
     |ok v w=>rfl
     |halt h w=>cases h<;>rfl
    ·intro x y r es z hf hw;cases r with
     |ok v w=>exact .inr (vV I v)
     |halt h w=>cases h<;>exact .inl kH
theorem sim(F:Fit e)(E:OkG e fr A):Sm e Z λP C w=>stepG P main (mk fr (A++C)) w:=by
 by_cases z:fr.mode=.run
 ·exact WA F E z
 ·exact La F E z
end
end
end Po
end Go.Proofs.YtpibpdpedjinhaaGreatDoor
