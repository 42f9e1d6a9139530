import Derived.Test.YtpibpdpedjinhabGreatDoorP07
set_option maxRecDepth 100000
set_option linter.all false
open Go renaming Code->eN,Frame->cT,Program->cU,Value->aD,World->X,stepG->dC
open Go.Deferred renaming ofValue->kq
open Go.Instr renaming beginRound->m8,endLoop->mT,endRound->mC,enterLoop->mw,getLoop->kp,takeDeferred->ly
open Go.Sem renaming bind->fI,runT->cQ
open Option renaming none->Z,some->M
open Or renaming inl->bN,inr->cF
namespace Go.Proofs.YtpibpdpedjinhabGreatDoor
namespace Po
open Go
section
variable {l:Nat}{a b:eN}{P:cU}{x x1:X}{es es1:Array Event}
section
variable {e:Env}{α:Type}
def LP{k:Loop->Sem α}(hk:¬e.D l->∀r,xG e (.loop r)->Rb e (k r)):Rb e (kp l >>= k):=by unfold kp;rw[bind_assoc];refine GO ⟨⟨_,rfl⟩,λ_ _=>⟨_,rfl⟩⟩ λhd o z=>?_;cases o<;>first|exact H _|exact hk hd _ z
def Pj(l:Nat)(j:Option eN)(E:∀c,j=M c->e.C c):Rb e (mC l j):=by unfold mC;exact LP λhd r z=>B (nM _ hd ⟨z.1,z.2.1,E⟩) λ_=>X2 _
def Ig(l:Nat):Rb e (m8 l):=by
 unfold m8;refine LP λhd r z=>B (nM _ hd z) λ_=>?_;split
 .exact X2 _
 all_goals exact nC _
def Sr(l:Nat):Rb e (mT l):=by unfold mT;refine LP λhd r z=>?_;dsimp only;refine IT (B (nC _) λ_=>B (nM _ hd z) λ_=>X2 _) (B (nM _ hd z) λ_=>X2 _)
def L8(fn:FuncId)(tmps:Array aD)(ps:Array Tmp)(z:e.C a)(E:e.C b)(l:Option Nat):Rb e (mw fn tmps ps a b l):=by
 unfold mw;have key:∀d m,Rb e (do pure (<-newObj (.loop { state:=.ready,pending:=Z,fn,tmps,params:=ps,assign:=a,body:=b,defers:=d }),m):Sem (Nat×List Deferred)):=λd m=>NB ⟨z,E,by intro c h;cases h⟩ λ_ _=>X2 _;cases l with
 |some l=>exact B (U0 l) λ_=>key _ _
 |none=>exact NB rfl λ_ _=>key _ _
def CY(b:Nat):Rb e (ly b):=by
 unfold ly;refine GO ⟨⟨_,rfl⟩,λ_ _=>⟨_,rfl⟩⟩ λhd o z=>?_;cases o<;>first|exact H _|skip
 rename_i ds;cases ds with
 |none=>exact H _
 |some ds=>exact B (nM _ hd trivial) λ_=>X2 _
def Tn(fn:Func)(tmps:Array aD):Rb e (results fn tmps):=by
 unfold results;refine B (Ya (λr=>?_) _) λ_=>X2 _;cases r with
 |tmp t=>exact X2 _
 |cell a t=>exact B (YH _) λ_=>UE _ _
def entered{fn:FuncId}{tmps:Array aD}{ps:Array Tmp}{o:Option Nat}{m:List Deferred}(h:(mw fn tmps ps a b o).runT P x es=(.ok (l,m) x1,es1)):∀d∈m,∃r,d.target=.collected r:=by
 unfold mw at h;cases o with
 |none=>
  cases h;simp
 |some o=>
  simp only[runT_bind]at h;split at h
  .cases h;simp
  .cases h
def taken{P:cU}{b:Nat}{x x1 y:X}{es es1:Array Event}{ds:List Deferred}(hw:WP e x y)(h:(ly b).runT P x es=(.ok ds x1,es1)):ds=[]:=by
 cases z:x.heap[b]? with
 |none=>
  simp only[ly,getObj,bind,fI,cQ,z]at h;cases h
 |some o=>
  have E:=hw.objs b o z
  have:cQ P (.getObj b λo=>(match o with
   |.deferred (M ds)=>do setObj b (.deferred Z);pure ds
   |_=>stuck "range over a function: the deferred calls have been taken":Sem (List Deferred))) x es=(.ok ds x1,es1):=h
  simp only[cQ,z]at this;cases o<;>first|(cases this;done)|skip
  rename_i d;cases d with
  |none=>cases this
  |some d=>
   simp only[setObj,bind,fI,cQ,z,pure]at this;cases this;exact E
def ended{y:X}{j:Option eN}(hw:WP e x y)(h:(mT l).runT P x es=(.ok j x1,es1)):∀c,j=M c->e.C c:=by
 unfold mT at h;rw[runT_bind]at h;split at h
 .rename_i R w1 I E;obtain⟨J,rfl⟩:=DZ E;have z:=hw.objs l _ J;dsimp only at h;split at h
  .rw[runT_bind]at h;cases h
  .rw[runT_bind]at h;split at h
   .cases h;exact z.2.2
   .cases h
 .cases h
end
end
section
section
variable {e:Env}{main:Bool}{fr f:cT}{A c XX:List cT}
def wJ(z:OkG e fr A)(v:aD):Sm e XX λP C w=>doReturn P main fr (A++C) Z v w:=by
 cases A with
 |cons a l=>exact(lM (z.pop.top ((z.2 a (.head _)).finish v))).of λP _ C w=>by simp only[doReturn,z.1.kind,dN]
 |nil=>exact λx y hw=>cF (bN ⟨_,x,#[],by simp only[doReturn,z.1.kind,dS],bN ⟨v,rfl⟩⟩)
def BH:Option eN->Bool
 |none|some .ret=>true
 |_=>false
def yx(z:OkG e fr A){st:cU->List cT->X->GStep}(j:Option eN)(hj:∀c,j=M c->e.C c)
  (I:fr.roundOf=Z->∀P C w,st P C w=if BH j=true then .go (mk { fr with mode:=.returning } (A++C)) w else .ended (.stuck "exit, goto: no such block or label" (fr.pos P)) w)
  (h1:∀l,fr.roundOf=M l->∀P C w,st P C w=GStep.after (seen P fr.fn ((mC l j).runT P w #[]).2) (match ((mC l j).runT P w #[]).1 with
    |.ok v w=>doReturn P main fr (A++C) Z v w
    |.halt _ w=>.ended (.stuck "range over a function: no such loop" (fr.pos P)) w)):Sm e XX st:=by
 cases E:fr.roundOf with
 |none=>
  by_cases J:BH j=true
  .exact(lM (f:={ fr with mode:=.returning }) (z.top ⟨z.1.todo,z.1.defers,z.1.kind⟩)).of λP _ C w=>by rw[I E,ZD J]
  .exact I7 λw=>by rw[I E,Zs J];exact kU
 |some l=>
  refine sZ (Pj l j hj) fr.fn (λP C r=>match r with
    |.ok v w=>doReturn P main fr (A++C) Z v w
    |.halt _ w=>.ended (.stuck "range over a function: no such loop" (fr.pos P)) w) ?_ ?_ ?_
  .intro w r es Y R;rw[h1 l E,Y];refine ni.after ?_ _;cases r with
   |ok v w=>cases R
   |halt h w=>exact kU
  .grind
  .intro x y r es Y R hw;cases r with
   |halt h w=>exact bN kU
   |ok v w=>exact cF (wJ z v)
def aax{P:cU}{id:Nat}:∀{k k':List Item},exitTo id k=M k'->(∀i∈k,pK P i=true)->∀i∈k',pK P i=true:=by
 intro k
 induction k with
 |nil=>intro k' h;cases h
 |cons a k ih=>
  intro k' h hk;have z:∀i∈k,pK P i=true:=λi E=>hk i (.tail _ E);cases a<;>simp only[exitTo]at h
  case inBlock=>
   grind
  all_goals exact ih h z
def ZU(F:Fit e)(J:OkG e fr A)(I:fr.mode=.run):Sm e XX λP C w=>dC P main (mk fr (A++C)) w:=by
 have set:∀{k:List Item},(∀i∈k,pK e.P i=true)->OkG e { fr with todo:=k } A:=λhk=>J.top (J.1.set hk);cases ht:fr.todo with
 |nil=>exact yx J Z (by intro c h;cases h) (λR P C w=>by simp[dC,stepG.exec,I,ht,R,BH]) (λl R P C w=>by simp[dC,stepG.exec,I,ht,R];rfl)
 |cons i k=>
  have z:=J.1.todo i (by rw[ht];exact .head _);have hk:∀i∈k,pK e.P i=true:=λi z=>J.1.todo i (by grind)
  have one:∀{a:Item}{k:List Item},pK e.P a=true->(∀i∈k,pK e.P i=true)->∀i∈a::k,pK e.P i=true:=λha hk i z=>by
   grind
  cases i with
  |inBlock id=>exact(lM (set hk)).of λP _ C w=>by simp[dC,stepG.exec,I,ht]
  |inLoop b=>exact(lM (f:={ fr with todo:=.code b::.inLoop b::k }) (set (one z (one z hk)))).of λP _ C w=>by simp[dC,stepG.exec,I,ht]
  |inScope b=>cases z
  |call d w r s=>cases z
  |extern r a=>cases z
  |inRangeFunc l=>exact I7 λw=>by simp[dC,stepG.exec,I,ht];exact kU
  |inRegion ops l=>
   cases l with
   |nil=>exact(lM (set hk)).of λP _ C w=>by simp[dC,stepG.exec,I,ht]
   |cons i l=>
    by_cases hw:((ops[i]?).map (Region.wanted · (yielded ops fr.tmps))).getD false=true
    .obtain⟨o,ho⟩:∃o,ops[i]? =M o:=by
      grind
     have aa:=fF.1 z o (by grind);refine(yN F J (WE F fr.eval (λv=>rfl) o aa) λx es n x1 ac E=>Sl F _ o aa E).of λP _ C w=>?_;have ae:fr.oper? =M o:=by simp only[Frame.oper?,ht,ho]
     simp only[dC,stepG.exec,I,ht,hw,if_true,stepG.oper,ae];split
     .rename_i hd _;rw[‹o.op=_›]at aa;cases aa
     .rfl
    .exact(lM (J.top (J.1.finish undef))).of λP _ C w=>by simp[dC,stepG.exec,I,ht,hw]
  |endRangeFunc l=>
   refine sZ (Sr l) fr.fn (λP C r=>match r with
    |.ok j w=>.go (mk { fr with todo:=(j.map Item.code).toList++k } (A++C)) w
    |.halt (.panic v) w=>.go (mk (fr.raise [{ v,recovered:=false }]) (A++C)) w
    |.halt _ w=>.ended (.stuck "range over a function: no such loop" (fr.pos P)) w) ?_ ?_ ?_
   .intro w r es E Y;simp only[dC,stepG.exec,I,ht,E];refine ni.after ?_ _;cases r with
    |ok v w=>cases Y
    |halt h w=>cases h<;>first|(cases Y;done)|exact kU
   .intro P _ C w r es E _;simp only[dC,stepG.exec,I,ht,E]
    grind
   .intro x y r es E Y hw;cases r with
    |ok j w=>
     refine cF (lM (set λi z=>?_));obtain z|z:=dM.1 z
     .cases j with
      |none=>cases z
      |some c=>
       simp only[cO,Option.toList_some,dK]at z;subst z;exact(F.code _).1 (ended hw E c rfl)
     .exact hk i z
    |halt h w=>cases h<;>first|(cases Y;done)|exact bN kU|exact cF (lM (J.top (J.1.raise _)))
  |beginRound=>
   refine(yN F J (s:=do fr.roundOf.elim (stuck "beginRound: no round") m8;pure _) (B ?_ λ_=>X2 _) λx es n x1 ac E=>bN ((oD (k:=λ_=>pure _) λ_=>yh (n:=.skip) trivial) _ _ _ _ _ E)).of λP _ C w=>by simp only[dC,stepG.exec,I,ht]
   cases fr.roundOf with
   |none=>exact H _
   |some l=>exact Ig l
  |code c=>
   cases c with
   |skip=>exact(lM (set hk)).of λP _ C w=>by simp[dC,stepG.exec,I,ht]
   |label l=>cases z
   |goto l=>cases z
   |scope b=>cases z
   |refuse s=>exact I7 λw=>by simp[dC,stepG.exec,I,ht];exact kU
   |ret=>exact yx J (M .ret) (by intro c h;cases h;exact(F.code _).2 rfl) (λR P C w=>by simp[dC,stepG.exec,I,ht,R,BH]) (λl R P C w=>by simp[dC,stepG.exec,I,ht,R];rfl)
   |seq a b=>exact(lM (f:={ fr with todo:=.code a::.code b::k }) (set (one (iL.1 z).1 (one (iL.1 z).2 hk)))).of λP _ C w=>by simp[dC,stepG.exec,I,ht]
   |block id b=>exact(lM (f:={ fr with todo:=.code b::.inBlock id::k }) (set (one z (one rfl hk)))).of λP _ C w=>by simp[dC,stepG.exec,I,ht]
   |loop b=>exact(lM (f:={ fr with todo:=.code b::.inLoop b::k }) (set (one z (one z hk)))).of λP _ C w=>by simp[dC,stepG.exec,I,ht]
   |cond o a b=>
    by_cases hb:∃q,fr.eval o=.bool q
    .obtain⟨q,hq⟩:=hb;exact(lM (f:={ fr with todo:=.code (if q then a else b)::k }) (set (one (by cases q;exact(iL.1 z).2;exact(iL.1 z).1) hk))).of λP _ C w=>by simp[dC,stepG.exec,I,ht,hq]
    .refine I7 λw=>?_;simp only[dC,stepG.exec,I,ht];cases hq:fr.eval o with
     |bool q=>grind
     |_=>exact kU
   |exit id=>
    cases hx:exitTo id k with
    |some k'=>exact(lM (f:={ fr with todo:=k' }) (set (aax hx hk))).of λP _ C w=>by simp[dC,stepG.exec,I,ht,hx]
    |none=>exact yx J (M (.exit id)) (by intro c h;cases h;exact(F.code _).2 rfl) (λR P C w=>by simp[dC,stepG.exec,I,ht,hx,R,BH]) (λl R P C w=>by simp[dC,stepG.exec,I,ht,hx,R];rfl)
   |region id ops d=>
    cases d with
    |false=>exact(lM (f:={ fr with todo:=.inRegion ops (List.range ops.size)::k }) (set (one z hk))).of λP _ C w=>by simp[dC,stepG.exec,I,ht]
    |true=>
     refine sZ (jU (.order fr.fn id)) fr.fn (λP C r=>match r with
      |.ok t w=>.go (mk { fr with todo:=.inRegion ops (Region.schedule (e.T.follows .mixedOrders) ops t)::k } (A++C)) w
      |.halt _ w=>.ended (.stuck "order" (fr.pos P)) w) ?_ ?_ ?_
     .intro w r es E Y;simp only[choose,cQ,Question.forced,bU,if_false]at E;cases E;cases Y
     .intro P hP C w r es E _;have hT:P.follows .mixedOrders=e.T.follows .mixedOrders:=by rcases hP with rfl|rfl<;>rfl
      simp only[choose,cQ,Question.forced,bU,if_false]at E;cases E;simp only[dC,stepG.exec,I,ht,choose,Sem.run,Question.forced,bU,if_false,Bool.not_true,hT,rX,uX]
     .intro x y r es E Y hw;cases r with
      |ok t w=>exact cF (lM (set (one z hk)))
      |halt h w=>exact bN kU
   |rangeFunc o ps a b=>
    obtain⟨ha,hb⟩:=iL.1 z
    refine sZ (L8 fr.fn fr.tmps ps ((F.code _).2 ha) ((F.code _).2 hb) fr.roundOf) fr.fn (λP C r=>match r with
      |.ok (l,m) w=>stepG.apply P true { fr with todo:=.inRangeFunc l::k,defers:=m++fr.defers } (A++C) Z (do let d <-kq (fr.eval o) #[.func (.yield l) #[] #[]];invoke d.target d.args) w
      |.halt _ w=>.ended (.stuck "range over a function: no such loop" (fr.pos P)) w) ?_ ?_ ?_
    .intro w r es E Y;simp only[dC,stepG.exec,I,ht,E];refine ni.after ?_ _;cases r with
     |ok v w=>cases Y
     |halt h w=>exact kU
    .intro P _ C w r es E _;have ag:∀f:cT,f.tmps=fr.tmps->f.eval=fr.eval:=λf h=>funext λo=>by cases o<;>simp only[Frame.eval,h]
     simp only[dC,stepG.exec,I,ht,E];cases r with
     |ok v w=>
      obtain⟨l,m⟩:=v;simp only[resolve];rw[ag { fr with todo:=.inRangeFunc l::k,defers:=m++fr.defers,mode:=.run } rfl,show Array.map fr.eval #[.const (.func (.yield l) #[] #[])]=#[.func (.yield l) #[] #[]] from by simp[Frame.eval]]
     |halt h w=>rfl
    .intro x y r es E Y hw;cases r with
     |halt h w=>exact bN kU
     |ok p w=>
      obtain⟨l,m⟩:=p;have af:OkG e { fr with todo:=.inRangeFunc l::k,defers:=m++fr.defers } A:=J.top ⟨one rfl hk,λd hd=>(dM.1 hd).elim (λh=>entered E d h) (J.1.defers d),J.1.kind⟩;refine cF (yN F af ?_ ?_)
      .unfold kq;split
       .exact Du F _ _ _
       .show Rb e (runtimePanic .nilDeref:Sem Next)
        exact nC _
       .exact H _
      .intro x es n x1 ac;unfold kq;split
       .exact λE=>Gm F _ _ _ E
       .show(runtimePanic .nilDeref:Sem Next).runT e.P x es=_->_
        exact λE=>bN (xO _ _ _ _ _ _ E)
       .intro E;cases E
def Oe(F:Fit e)(I:OkG e fr A)(hm:fr.mode≠.run):Sm e XX λP C w=>dC P main (mk fr (A++C)) w:=by
 have E:∀P C w,dC P main (mk fr (A++C)) w=unwind P main fr (A++C) Z w:=λP C w=>by
  cases h:fr.mode with
  |run=>exact Xs h hm
  |_=>simp only[dC,h]
 cases hd:fr.defers with
 |cons d ds=>
  obtain⟨b,hb⟩:=I.1.defers d (by rw[hd];exact .head _);obtain⟨t,as⟩:=d;cases hb
  refine sZ (CY b) fr.fn (λP C r=>match r with
    |.ok calls w=>.go (mk { fr with defers:=calls++ds } (A++C)) w
    |.halt _ w=>.ended (.stuck "the deferred calls of a range-over-func loop have been taken" (fr.pos P)) w) ?_ ?_ ?_
  .intro w r es z hf;simp only[E,unwind,hd,z];refine ni.after ?_ _;cases r with
   |ok v w=>cases hf
   |halt h w=>exact kU
  .intro P _ C w r es z _;simp only[E,unwind,hd,z];cases r<;>rfl
  .intro x y r es z hf hw;cases r with
   |halt h w=>exact bN kU
   |ok c w=>
    cases taken hw z;exact cF (lM (I.top ⟨I.1.todo,λd h=>I.1.defers d (by grind),I.1.kind⟩))
 |nil=>
  cases R:fr.mode with
  |run=>exact Xs R hm
  |panicking ch=>
   have hc:∀P,fr.catches P=false:=λP=>by
    unfold Frame.catches;split
    .rename_i hk;exact Xs hk I.1.head
    .rfl
   cases A with
   |cons a l=>exact(lM (I.pop.top ((I.2 a (.head _)).raise ch))).of λP _ C w=>by rw[E];simp[unwind,hd,R,hc]
   |nil=>exact λx y hw=>cF (bN ⟨_,x,#[],(E _ _ _).trans (by simp[unwind,hd,R,hc]),cF ⟨ch,rfl⟩⟩)
  |returning=>
   have z:=F.results fr.fn;cases Y:e.F[fr.fn]? with
   |none=>
    have hG:e.G[fr.fn]? =Z:=by
     rw[Y]at z;cases hG:e.G[fr.fn]? with
     |none=>rfl
     |some g=>rw[hG]at z;cases z
    refine(wJ (main:=main) I (fr.tmps.getD 0 undef)).of λP hP C w=>?_;have:P.funcs[fr.fn]? =Z:=by obtain rfl|rfl:=hP;exact Y;exact hG
    simp only[E,unwind,hd,R,this]
   |some fn=>
    refine sZ (Tn fn fr.tmps) fr.fn (λP C r=>match r with
     |.ok v w=>doReturn P main fr (A++C) Z v w
     |.halt (.stuck s) w=>.ended (.stuck s (fr.pos P)) w
     |.halt _ w=>.ended (.stuck "return: the result variables cannot be read" (fr.pos P)) w) ?_ ?_ ?_
    .intro w r es z hf;simp only[E,unwind,hd,R,show e.P.funcs[fr.fn]? =M fn from Y,z];refine ni.after ?_ _;cases r with
     |ok v w=>cases hf
     |halt h w=>cases h<;>exact kU
    .intro P hP C w r es aa _
     obtain⟨J,h1,h2⟩:∃J,P.funcs[fr.fn]? =M J/\results J fr.tmps=results fn fr.tmps:=by
      obtain rfl|rfl:=hP
      .exact⟨fn,Y,rfl⟩
      .rw[Y]at z;cases hG:e.G[fr.fn]? with
       |none=>rw[hG]at z;cases z
       |some g=>
        rw[hG]at z;have h3:g.results=fn.results:=fC z;exact⟨g,rfl,by unfold results;rw[h3]⟩
     simp only[E,unwind,hd,R,h1,h2,aa]
     grind
    .intro x y r es z hf hw;cases r with
     |ok v w=>exact cF (wJ I v)
     |halt h w=>cases h<;>exact bN kU
def sim(F:Fit e)(E:OkG e fr A):Sm e XX λP C w=>dC P main (mk fr (A++C)) w:=by
 by_cases z:fr.mode=.run
 .exact ZU F E z
 .exact Oe F E z
end
end
end Po
