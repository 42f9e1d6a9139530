import Derived.Test.YtpibpdpedjinhaaGreatDoorP09
set_option maxRecDepth 100000
set_option linter.all false
open Bool renaming false->aL,true->bB
open Go renaming Code->im,Event->mb,Frame->cU,FuncId->qa,Program->cY,Value->aD,World->U,callFunc->ki,execOp->bL,stepG->eB
open Go.Deferred renaming ofValue->mr
open Go.Frame renaming enter->iS
open Go.GStep renaming after->gH
open Go.Instr renaming beginRound->ol,endLoop->oa,endRound->nE,enterLoop->mS,getLoop->kI,takeDeferred->ml
open Go.Sem renaming bind->fY,runT->cN
open Option renaming none->Z,some->M
open Or renaming inl->cJ,inr->cK
namespace Go.Proofs.YtpibpdpedjinhaaGreatDoor
namespace Po
open Go
section
variable {n:Next}{es es1:Array mb}{x x1:U}
section
variable {e:Env}{α:Type}
def Kd(e:Env):Next->Prop
 |.value _|.skip=>True
 |.enter f _=>∃fn c,e.F[f]? =M fn/\fn.body=M c
 |_=>False
def Pk(e:Env)(s:Sem Next):Prop:=∀x es n x1 es1,s.runT e.P x es=(.ok n x1,es1)->Kd e n
def Rd(x:U)(n:Next):Prop:=∃l f tmps a b lp,n=.round l f tmps a b/\x.heap[l]? =M (.loop lp)/\lp.assign=a/\lp.body=b
theorem oJ{s:Sem α}{k:α->Sem Next}(h:∀a,Pk e (k a)):Pk e (s >>= k):=by
 intro x es n x1 es1 q;rw[runT_bind]at q;split at q
 .exact h _ _ _ _ _ _ q
 .cases q
theorem zy(h:Kd e n):Pk e (pure n):=by intro x es m x1 es1 q;cases q;exact h
theorem CB(h:Halt):Pk e (.halt h):=by intro x es m x1 es1 q;cases q
theorem ae4(s:Sem aD):Pk e (do pure (.value (<-s))):=oJ λ_=>zy trivial
theorem yQ(x:RuntimeError):Pk e (runtimePanic x):=by unfold runtimePanic;refine oJ λp=>?_;cases x<;>first|exact CB _|exact oJ λ_=>oJ λ_=>CB _
theorem Fv{P:cY}{l:Nat}{lp:Loop}{W W1:U}(h:(kI l).runT P W es=(.ok lp W1,es1)):W.heap[l]? =M (.loop lp)/\W1=W:=by
 have q:(kI l).runT P W es=match W.heap[l]? with
   |some (.loop lp)=>(.ok lp W,es.push ⟨.obj l,aL,aL⟩)
   |some (.cells ..)=>(.halt (.stuck "getObj: a row of cells") W,es)
   |some o=>(.halt (.stuck "range over a function: no such loop") W,es.push ⟨.obj l,aL,o.isChan⟩)
   |none=>(.halt (.stuck "getObj: no such block") W,es):=by
  show cN P (.getObj l _) W es=_
  simp only[cN];cases W.heap[l]? with
  |none=>rfl
  |some o=>cases o<;>rfl
 rw[q]at h;split at h<;>cases h;exact⟨by assumption,rfl⟩
variable (F:Fit e)
include F
theorem vU(f:qa)(args:Array aD):Pk e (ki f args):=by
 intro x es n x1 es1 E;cases q:e.F[f]? with
 |none=>
  simp only[ki,program,bind,fY,cN,show e.P.funcs[f]? =Z from q]at E;cases E
 |some fn=>
  cases I:fn.body with
  |none=>obtain⟨v,rfl⟩:=(F.ext f fn args q I).2 x es n x1 es1 E;trivial
  |some c=>
   simp only[ki,program,bind,fY,cN,show e.P.funcs[f]? =M fn from q,F.name f fn q,I,Option.isNone_some,bU,if_false]at E;cases E;exact⟨fn,c,q,I⟩
theorem xw(v:aD)(s:String)(args:Array aD):Pk e (callMethod v s args):=by
 unfold callMethod;split
 .exact oJ λ_=>oJ λ_=>vU F _ _
 .exact yQ _
 .exact CB _
theorem IE(g:Fn)(cap args:Array aD)(q:(invoke (.fn g cap) args).runT e.P x es=(.ok n x1,es1)):Kd e n\/Rd x n:=by
 cases g with
 |func f=>exact cJ (vU F _ _ _ _ _ _ _ q)
 |method nm=>
  left;revert q
  show(match args[0]? with|some recv=>_|_=>_:Sem Next).runT e.P x es=_->_
  split
  .exact λq=>xw F _ _ _ _ _ _ _ _ q
  .intro q;cases q
 |methodOf t nm=>
  left;revert q
  show(match args[0]? with|some recv=>_|_=>_:Sem Next).runT e.P x es=_->_
  split
  .exact λq=>(oJ λ_=>xw F _ _ _) _ _ _ _ _ q
  .intro q;cases q
 |via t p f b=>
  left;revert q
  show(match args[0]? with|some recv=>_|_=>_:Sem Next).runT e.P x es=_->_
  split
  .exact λq=>(oJ λ_=>vU F _ _) _ _ _ _ _ q
  .intro q;cases q
 |yield l=>
  right;revert q
  show(Instr.yield l args).runT e.P x es=_->_
  unfold Instr.yield;rw[runT_bind];intro q;split at q
  .rename_i lp w1 I E;obtain⟨J,rfl⟩:=Fv E;split at q
   .cases q
   .cases q;exact⟨l,_,_,_,_,lp,rfl,J,rfl,rfl⟩
  .cases q
theorem Ti(ρ:Operand->aD)(o:Oper)(h:YW e.P o.op=bB)(q:(bL ρ o).runT e.P x es=(.ok n x1,es1)):Kd e n\/Rd x n:=by
 by_cases E:∃f args ts,o.op=.call { callee:=.value f,args,argTypes:=ts }
 .obtain⟨f,args,ts,ho⟩:=E;unfold bL at q;rw[ho]at q;revert q
  show(mr (ρ f) _ >>= λd=>invoke d.target d.args).runT e.P x es=_->_
  unfold mr;split
  .exact λq=>IE F _ _ _ q
  .show(runtimePanic .nilDeref:Sem Next).runT e.P x es=_->_
   exact λq=>cJ (yQ _ _ _ _ _ _ q)
  .intro q;cases q
 .left;revert q
  have:Pk e (bL ρ o):=by
   unfold bL;cases ho:o.op<;>rw[ho]at h<;>first|(cases h;done)|exact ae4 _|exact zy trivial|exact oJ (λ_=>zy trivial)|skip
   case nilCheck=>
    dsimp only
    repeat' first|exact zy trivial|exact yQ _|exact CB _|with_reducible refine oJ λ_=>?_|split
   case call c=>
    obtain⟨callee,args,ts⟩:=c;cases callee with
    |invoke _ _=>cases h
    |value f=>exact Xs ⟨f,args,ts,ho⟩ E
    |builtin b=>cases b<;>first|(cases h;done)|exact ae4 _
  exact this _ _ _ _ _
end
end
section
variable {s:Sem Next}
section
variable {e:Env}{β:Type}{main:Bool}{fr f:cU}{A cs c B:List cU}{x y:U}
theorem uP.finish(h:uP e fr)(v:aD):uP e (fr.finish v):=by
 have ht:=h.todo;unfold Frame.finish;split
 .rename_i hk;rw[hk]at ht;refine⟨λi q=>?_,h.defers,h.kind⟩;obtain rfl|q:=dD.1 q
  .exact(ht _ (.head _):)
  .exact ht _ (.tail _ q)
 .rename_i hk;rw[hk]at ht;exact⟨λi q=>(dD.1 q).elim (λh=>by rw[h];rfl) λq=>ht _ (.tail _ q),h.defers,h.kind⟩
 .rename_i hk;rw[hk]at ht;exact⟨λi q=>ht _ (.tail _ q),h.defers,h.kind⟩
 .rename_i hk;rw[hk]at ht;exact Xs (ht _ (.head _)) (by simp[qh])
 .rename_i hk;rw[hk]at ht;exact Xs (ht _ (.head _)) (by simp[qh])
 .exact h
theorem uP.raise(h:uP e fr)(ch:List PanicEntry):uP e (fr.raise ch):=by unfold Frame.raise;split<;>exact⟨h.todo,h.defers,h.kind⟩
theorem uP.head(h:uP e fr){d w r s k}:fr.todo≠.call d w r s::k:=λhk=>by
 have:=h.todo (.call d w r s) (by rw[hk];exact .head _);cases this
theorem wO(s:GStep):gH #[] s=s:=by cases s<;>simp[gH]
theorem sV(P:cY)(f:qa):seen P f #[]=#[]:=rfl
def ofR:Result β->Sem β
 |.ok a _=>pure a
 |.halt h _=>.halt h
theorem G8{P:cY}{w:U}{r:Result Next}{es:Array mb}(E:s.runT P w #[]=(r,es))(hk:fr.kind=.normal):stepG.apply P bB fr cs Z s w=gH (seen P fr.fn (match r with|.halt .blocked _|.halt .waiting _|.halt (.unsupported (.initOrder _)) _=>#[]|_=>es)) (stepG.apply P bB fr cs Z (ofR r) (wd r)):=by
 have h2:(ofR r).runT P (wd r) #[]=(r,#[]):=by cases r<;>rfl
 have q:(fr.kind == CallKind.early)=aL:=by rw[hk];rfl
 conv=>lhs;unfold stepG.apply
 conv=>rhs;arg 2;unfold stepG.apply
 simp only[E,h2,if_true,q,bU,if_false];cases r with
 |ok n w=>exact Z1 _ (wO _).symm
 |halt h w=>
  cases h with
  |unsupported u=>cases u<;>exact Z1 _ (wO _).symm
  |_=>exact Z1 _ (wO _).symm
theorem zX(F:Fit e)(q:OkG e fr A)(hs:Rb e s)(hk:∀x es n x1 Y,s.runT e.P x es=(.ok n x1,Y)->Kd e n\/Rd x n):Sm e B λP C w=>stepG.apply P bB fr (A++C) Z s w:=by
 have kd:(match fr.todo with|.call _ bB _ _::_=>CallKind.wrapped|_=>.normal)=.normal:=by
  split
  .exact Xs (by assumption) q.1.head
  .rfl
 refine uG hs fr.fn (λP C r=>stepG.apply P bB fr (A++C) Z (ofR r) (wd r)) ?_ ?_ ?_
 .intro w r es I E;rw[G8 I q.1.kind];refine ni.after ?_ _;cases r with
  |ok n w=>cases E
  |halt h w=>
   cases h<;>first|(cases E;done)|skip
   .unfold stepG.apply;refine ni.after ?_ _;rename_i u;cases u<;>first|exact Zi F _ _ _ _|exact kQ
   .unfold stepG.apply;exact ni.after kQ _
 .intro P _ C w r es I E;rw[G8 I q.1.kind];cases r with
  |ok n w=>rfl
  |halt h w=>cases h<;>first|rfl|cases E
 .intro x y r es I E hw;have go:∀f c,OkG e f c->(∀P,P=e.P\/P=e.Q->∀C w,stepG.apply P bB fr (A++C) Z (ofR (put r w)) (wd (put r w))=.go (mk f (c++C)) w #[])->Sm e B λP C w=>stepG.apply P bB fr (A++C) Z (ofR (put r w)) (wd (put r w)):=λf c aa h=>(lG aa).of h;right;cases r with
  |halt h w=>
   cases h<;>first|(cases E;done)|skip
   rename_i v;exact go (fr.raise [{ v,recovered:=aL }]) A (q.top (q.1.raise _)) λP _ C w'=>by unfold stepG.apply;simp[ofR,cN,sV,gH,wd,put]
  |ok n w=>
   obtain hn|⟨l,g,tmps,a,b,lp,rfl,hl,rfl,rfl⟩:=hk x _ _ _ _ I
   .cases n<;>first|(cases hn;done)|skip
    .rename_i v;exact go (fr.finish v) A (q.top (q.1.finish _)) λP _ C w'=>by unfold stepG.apply;simp[ofR,cN,pure,sV,gH,wd,put]
    .exact go (fr.finish undef) A (q.top (q.1.finish _)) λP _ C w'=>by unfold stepG.apply;simp[ofR,cN,pure,sV,gH,wd,put]
    .rename_i g args;obtain⟨fn,c,h1,h2⟩:=hn;obtain⟨h3,h4⟩:=F.same g fn c h1 h2;refine go (iS e.P g args _) _ (q.push ⟨λi J=>?_,λd hd=>?_,rfl⟩) λP hP C w'=>?_
     .simp only[iS,show e.P.funcs[g]? =M fn from h1,gX,h2,fH,dK]at J;subst J;exact h4
     .simp[iS]at hd
     .have:iS e.P g args .normal=iS P g args .normal:=by
       unfold iS;obtain rfl|rfl:=hP
       .rfl
       .rw[show e.P.funcs[g]? =M fn from h1,show e.Q.funcs[g]? =M fn from h3]
      rw[this];unfold stepG.apply;simp[ofR,cN,pure,sV,gH,wd,put];exact Z1 _ kd
   .obtain⟨o1,o2,_⟩:=hw.objs l _ hl;refine go (Frame.round l g tmps lp.assign lp.body _) _ (q.push ⟨λi J=>?_,λd hd=>?_,rfl⟩) λP _ C w'=>by unfold stepG.apply;simp[ofR,cN,pure,sV,gH,wd,put]
    .simp only[Frame.round,dD,List.not_mem_nil,or_false]at J;obtain rfl|rfl|rfl:=J
     .exact(F.code _).1 o1
     .rfl
     .exact(F.code _).1 o2
    .simp[Frame.round]at hd
end
end
section
variable {l:Nat}{a b:im}{P:cY}{x x1:U}{es es1:Array mb}
section
variable {e:Env}{α:Type}
theorem LP{k:Loop->Sem α}(hk:¬e.D l->∀r,yJ e (.loop r)->Rb e (k r)):Rb e (kI l >>= k):=by unfold kI;rw[bind_assoc];refine GO ⟨⟨_,rfl⟩,λ_ _=>⟨_,rfl⟩⟩ λhd o ho=>?_;cases o<;>first|exact H _|exact hk hd _ ho
theorem Qj(l:Nat)(j:Option im)(E:∀c,j=M c->e.C c):Rb e (nE l j):=by unfold nE;exact LP λhd r q=>B (nJ _ hd ⟨q.1,q.2.1,E⟩) λ_=>X2 _
theorem Jr(l:Nat):Rb e (ol l):=by
 unfold ol;refine LP λhd r q=>B (nJ _ hd q) λ_=>?_;split
 .exact X2 _
 all_goals exact ny _
theorem Tj(l:Nat):Rb e (oa l):=by unfold oa;refine LP λhd r q=>?_;dsimp only;refine IT (B (ny _) λ_=>B (nJ _ hd q) λ_=>X2 _) (B (nJ _ hd q) λ_=>X2 _)
theorem NK(fn:qa)(tmps:Array aD)(ps:Array Tmp)(q:e.C a)(E:e.C b)(l:Option Nat):Rb e (mS fn tmps ps a b l):=by
 unfold mS;have key:∀d m,Rb e (do pure (<-newObj (.loop { state:=.ready,pending:=Z,fn,tmps,params:=ps,assign:=a,body:=b,defers:=d }),m):Sem (Nat×List Deferred)):=λd m=>NB ⟨q,E,by intro c h;cases h⟩ λ_ _=>X2 _;cases l with
 |some l=>exact B (Vq l) λ_=>key _ _
 |none=>exact NB rfl λ_ _=>key _ _
theorem Ew(b:Nat):Rb e (ml b):=by
 unfold ml;refine GO ⟨⟨_,rfl⟩,λ_ _=>⟨_,rfl⟩⟩ λhd o ho=>?_;cases o<;>first|exact H _|skip
 rename_i ds;cases ds with
 |none=>exact H _
 |some ds=>exact B (nJ _ hd trivial) λ_=>X2 _
theorem Ud(fn:Func)(tmps:Array aD):Rb e (results fn tmps):=by
 unfold results;refine B (YD (λr=>?_) _) λ_=>X2 _;cases r with
 |tmp t=>exact X2 _
 |cell a t=>exact B (Zm _) λ_=>U6 _ _
theorem entered{fn:qa}{tmps:Array aD}{ps:Array Tmp}{o:Option Nat}{m:List Deferred}(h:(mS fn tmps ps a b o).runT P x es=(.ok (l,m) x1,es1)):∀d∈m,∃r,d.target=.collected r:=by
 unfold mS at h;cases o with
 |none=>
  cases h;simp
 |some o=>
  simp only[runT_bind]at h;split at h
  .cases h;simp
  .cases h
theorem taken{P:cY}{b:Nat}{x x1 y:U}{es es1:Array mb}{ds:List Deferred}(hw:WP e x y)(h:(ml b).runT P x es=(.ok ds x1,es1)):ds=[]:=by
 cases ho:x.heap[b]? with
 |none=>
  simp only[ml,getObj,bind,fY,cN,ho]at h;cases h
 |some o=>
  have q:=hw.objs b o ho
  have:cN P (.getObj b λo=>(match o with
   |.deferred (M ds)=>do setObj b (.deferred Z);pure ds
   |_=>stuck "range over a function: the deferred calls have been taken":Sem (List Deferred))) x es=(.ok ds x1,es1):=h
  simp only[cN,ho]at this;cases o<;>first|(cases this;done)|skip
  rename_i d;cases d with
  |none=>cases this
  |some d=>
   simp only[setObj,bind,fY,cN,ho,pure]at this;cases this;exact q
theorem ended{y:U}{j:Option im}(hw:WP e x y)(h:(oa l).runT P x es=(.ok j x1,es1)):∀c,j=M c->e.C c:=by
 unfold oa at h;rw[runT_bind]at h;split at h
 .rename_i lp w1 I E;obtain⟨J,rfl⟩:=Fv E;have q:=hw.objs l _ J;dsimp only at h;split at h
  .rw[runT_bind]at h;cases h
  .rw[runT_bind]at h;split at h
   .cases h;exact q.2.2
   .cases h
 .cases h
end
end
section
section
variable {e:Env}{main:Bool}{fr f:cU}{A c XX:List cU}
theorem xW(q:OkG e fr A)(v:aD):Sm e XX λP C w=>doReturn P main fr (A++C) Z v w:=by
 cases A with
 |cons a l=>exact(lG (q.pop.top ((q.2 a (.head _)).finish v))).of λP _ C w=>by simp only[doReturn,q.1.kind,dN]
 |nil=>exact λx y hw=>cK (cJ ⟨_,x,#[],by simp only[doReturn,q.1.kind,dS],cJ ⟨v,rfl⟩⟩)
def DC:Option im->Bool
 |none|some .ret=>bB
 |_=>aL
theorem zH(q:OkG e fr A){st:cY->List cU->U->GStep}(j:Option im)(hj:∀c,j=M c->e.C c)
  (I:fr.roundOf=Z->∀P C w,st P C w=if DC j=bB then .go (mk { fr with mode:=.returning } (A++C)) w else .ended (.stuck "exit, goto: no such block or label" (fr.pos P)) w)
  (h1:∀l,fr.roundOf=M l->∀P C w,st P C w=gH (seen P fr.fn ((nE l j).runT P w #[]).2) (match ((nE l j).runT P w #[]).1 with
    |.ok v w=>doReturn P main fr (A++C) Z v w
    |.halt _ w=>.ended (.stuck "range over a function: no such loop" (fr.pos P)) w)):Sm e XX st:=by
 cases E:fr.roundOf with
 |none=>
  by_cases J:DC j=bB
  .exact(lG (f:={ fr with mode:=.returning }) (q.top ⟨q.1.todo,q.1.defers,q.1.kind⟩)).of λP _ C w=>by rw[I E,ZD J]
  .exact JR λw=>by rw[I E,Zs J];exact kQ
 |some l=>
  refine uG (Qj l j hj) fr.fn (λP C r=>match r with
    |.ok v w=>doReturn P main fr (A++C) Z v w
    |.halt _ w=>.ended (.stuck "range over a function: no such loop" (fr.pos P)) w) ?_ ?_ ?_
  .intro w r es hr Y;rw[h1 l E,hr];refine ni.after ?_ _;cases r with
   |ok v w=>cases Y
   |halt h w=>exact kQ
  .grind
  .intro x y r es hr Y hw;cases r with
   |halt h w=>exact cJ kQ
   |ok v w=>exact cK (xW q v)
theorem abg{P:cY}{id:Nat}:∀{k k':List Item},exitTo id k=M k'->(∀i∈k,qh P i=bB)->∀i∈k',qh P i=bB:=by
 intro k
 induction k with
 |nil=>intro k' h;cases h
 |cons a k ih=>
  intro k' h hk;have q:∀i∈k,qh P i=bB:=λi E=>hk i (.tail _ E);cases a<;>simp only[exitTo]at h
  case inBlock=>
   grind
  all_goals exact ih h q
theorem aaL(F:Fit e)(Y:OkG e fr A)(J:fr.mode=.run):Sm e XX λP C w=>eB P main (mk fr (A++C)) w:=by
 have set:∀{k:List Item},(∀i∈k,qh e.P i=bB)->OkG e { fr with todo:=k } A:=λhk=>Y.top (Y.1.set hk);cases ht:fr.todo with
 |nil=>exact zH Y Z (by intro c h;cases h) (λhl P C w=>by simp[eB,stepG.exec,J,ht,hl,DC]) (λl hl P C w=>by simp[eB,stepG.exec,J,ht,hl];rfl)
 |cons i k=>
  have E:=Y.1.todo i (by rw[ht];exact .head _);have hk:∀i∈k,qh e.P i=bB:=λi E=>Y.1.todo i (by grind)
  have one:∀{a:Item}{k:List Item},qh e.P a=bB->(∀i∈k,qh e.P i=bB)->∀i∈a::k,qh e.P i=bB:=λha hk i E=>by
   grind
  cases i with
  |inBlock id=>exact(lG (set hk)).of λP _ C w=>by simp[eB,stepG.exec,J,ht]
  |inLoop b=>exact(lG (f:={ fr with todo:=.code b::.inLoop b::k }) (set (one E (one E hk)))).of λP _ C w=>by simp[eB,stepG.exec,J,ht]
  |inScope b=>cases E
  |call d w r s=>cases E
  |extern r a=>cases E
  |inRangeFunc l=>exact JR λw=>by simp[eB,stepG.exec,J,ht];exact kQ
  |inRegion ops l=>
   cases l with
   |nil=>exact(lG (set hk)).of λP _ C w=>by simp[eB,stepG.exec,J,ht]
   |cons i l=>
    by_cases hw:((ops[i]?).map (Region.wanted · (yielded ops fr.tmps))).getD aL=bB
    .obtain⟨o,ho⟩:∃o,ops[i]? =M o:=by
      grind
     have aa:=fF.1 E o (by grind);refine(zX F Y (WY F fr.eval (λv=>rfl) o aa) λx es n x1 ab I=>Ti F _ o aa I).of λP _ C w=>?_;have ac:fr.oper? =M o:=by simp only[Frame.oper?,ht,ho]
     simp only[eB,stepG.exec,J,ht,hw,if_true,stepG.oper,ac];split
     .rename_i hd _;rw[‹o.op=_›]at aa;cases aa
     .rfl
    .exact(lG (Y.top (Y.1.finish undef))).of λP _ C w=>by simp[eB,stepG.exec,J,ht,hw]
  |endRangeFunc l=>
   refine uG (Tj l) fr.fn (λP C r=>match r with
    |.ok j w=>.go (mk { fr with todo:=(j.map Item.code).toList++k } (A++C)) w
    |.halt (.panic v) w=>.go (mk (fr.raise [{ v,recovered:=aL }]) (A++C)) w
    |.halt _ w=>.ended (.stuck "range over a function: no such loop" (fr.pos P)) w) ?_ ?_ ?_
   .intro w r es I hf;simp only[eB,stepG.exec,J,ht,I];refine ni.after ?_ _;cases r with
    |ok v w=>cases hf
    |halt h w=>cases h<;>first|(cases hf;done)|exact kQ
   .intro P _ C w r es I _;simp only[eB,stepG.exec,J,ht,I]
    grind
   .intro x y r es I hf hw;cases r with
    |ok j w=>
     refine cK (lG (set λi E=>?_));obtain E|E:=dM.1 E
     .cases j with
      |none=>cases E
      |some c=>
       simp only[cO,Option.toList_some,dK]at E;subst E;exact(F.code _).1 (ended hw I c rfl)
     .exact hk i E
    |halt h w=>cases h<;>first|(cases hf;done)|exact cJ kQ|exact cK (lG (Y.top (Y.1.raise _)))
  |beginRound=>
   refine(zX F Y (s:=do fr.roundOf.elim (stuck "beginRound: no round") ol;pure _) (B ?_ λ_=>X2 _) λx es n x1 ab I=>cJ ((oJ (k:=λ_=>pure _) λ_=>zy (n:=.skip) trivial) _ _ _ _ _ I)).of λP _ C w=>by simp only[eB,stepG.exec,J,ht]
   cases fr.roundOf with
   |none=>exact H _
   |some l=>exact Jr l
  |code c=>
   cases c with
   |skip=>exact(lG (set hk)).of λP _ C w=>by simp[eB,stepG.exec,J,ht]
   |label l=>cases E
   |goto l=>cases E
   |scope b=>cases E
   |refuse s=>exact JR λw=>by simp[eB,stepG.exec,J,ht];exact kQ
   |ret=>exact zH Y (M .ret) (by intro c h;cases h;exact(F.code _).2 rfl) (λhl P C w=>by simp[eB,stepG.exec,J,ht,hl,DC]) (λl hl P C w=>by simp[eB,stepG.exec,J,ht,hl];rfl)
   |seq a b=>exact(lG (f:={ fr with todo:=.code a::.code b::k }) (set (one (iP.1 E).1 (one (iP.1 E).2 hk)))).of λP _ C w=>by simp[eB,stepG.exec,J,ht]
   |block id b=>exact(lG (f:={ fr with todo:=.code b::.inBlock id::k }) (set (one E (one rfl hk)))).of λP _ C w=>by simp[eB,stepG.exec,J,ht]
   |loop b=>exact(lG (f:={ fr with todo:=.code b::.inLoop b::k }) (set (one E (one E hk)))).of λP _ C w=>by simp[eB,stepG.exec,J,ht]
   |cond o a b=>
    by_cases hb:∃q,fr.eval o=.bool q
    .obtain⟨q,hq⟩:=hb;exact(lG (f:={ fr with todo:=.code (if q then a else b)::k }) (set (one (by cases q;exact(iP.1 E).2;exact(iP.1 E).1) hk))).of λP _ C w=>by simp[eB,stepG.exec,J,ht,hq]
    .refine JR λw=>?_;simp only[eB,stepG.exec,J,ht];cases hq:fr.eval o with
     |bool q=>grind
     |_=>exact kQ
   |exit id=>
    cases hx:exitTo id k with
    |some k'=>exact(lG (f:={ fr with todo:=k' }) (set (abg hx hk))).of λP _ C w=>by simp[eB,stepG.exec,J,ht,hx]
    |none=>exact zH Y (M (.exit id)) (by intro c h;cases h;exact(F.code _).2 rfl) (λhl P C w=>by simp[eB,stepG.exec,J,ht,hx,hl,DC]) (λl hl P C w=>by simp[eB,stepG.exec,J,ht,hx,hl];rfl)
   |region id ops d=>
    cases d with
    |false=>exact(lG (f:={ fr with todo:=.inRegion ops (List.range ops.size)::k }) (set (one E hk))).of λP _ C w=>by simp[eB,stepG.exec,J,ht]
    |true=>
     refine uG (jU (.order fr.fn id)) fr.fn (λP C r=>match r with
      |.ok t w=>.go (mk { fr with todo:=.inRegion ops (Region.schedule (e.T.follows .mixedOrders) ops t)::k } (A++C)) w
      |.halt _ w=>.ended (.stuck "order" (fr.pos P)) w) ?_ ?_ ?_
     .intro w r es I hf;simp only[choose,cN,Question.forced,bU,if_false]at I;cases I;cases hf
     .intro P hP C w r es I _;have hT:P.follows .mixedOrders=e.T.follows .mixedOrders:=by rcases hP with rfl|rfl<;>rfl
      simp only[choose,cN,Question.forced,bU,if_false]at I;cases I;simp only[eB,stepG.exec,J,ht,choose,Sem.run,Question.forced,bU,if_false,Bool.not_true,hT,sV,wO]
     .intro x y r es I hf hw;cases r with
      |ok t w=>exact cK (lG (set (one E hk)))
      |halt h w=>exact cJ kQ
   |rangeFunc o ps a b=>
    obtain⟨ha,hb⟩:=iP.1 E
    refine uG (NK fr.fn fr.tmps ps ((F.code _).2 ha) ((F.code _).2 hb) fr.roundOf) fr.fn (λP C r=>match r with
      |.ok (l,m) w=>stepG.apply P bB { fr with todo:=.inRangeFunc l::k,defers:=m++fr.defers } (A++C) Z (do let d <-mr (fr.eval o) #[.func (.yield l) #[] #[]];invoke d.target d.args) w
      |.halt _ w=>.ended (.stuck "range over a function: no such loop" (fr.pos P)) w) ?_ ?_ ?_
    .intro w r es I hf;simp only[eB,stepG.exec,J,ht,I];refine ni.after ?_ _;cases r with
     |ok v w=>cases hf
     |halt h w=>exact kQ
    .intro P _ C w r es I _;have af:∀f:cU,f.tmps=fr.tmps->f.eval=fr.eval:=λf h=>funext λo=>by cases o<;>simp only[Frame.eval,h]
     simp only[eB,stepG.exec,J,ht,I];cases r with
     |ok v w=>
      obtain⟨l,m⟩:=v;simp only[resolve];rw[af { fr with todo:=.inRangeFunc l::k,defers:=m++fr.defers,mode:=.run } rfl,show Array.map fr.eval #[.const (.func (.yield l) #[] #[])]=#[.func (.yield l) #[] #[]] from by simp[Frame.eval]]
     |halt h w=>rfl
    .intro x y r es I hf hw;cases r with
     |halt h w=>exact cJ kQ
     |ok p w=>
      obtain⟨l,m⟩:=p;have ae:OkG e { fr with todo:=.inRangeFunc l::k,defers:=m++fr.defers } A:=Y.top ⟨one rfl hk,λd hd=>(dM.1 hd).elim (λh=>entered I d h) (Y.1.defers d),Y.1.kind⟩;refine cK (zX F ae ?_ ?_)
      .unfold mr;split
       .exact EM F _ _ _
       .show Rb e (runtimePanic .nilDeref:Sem Next)
        exact ny _
       .exact H _
      .intro x es n x1 ab;unfold mr;split
       .exact λI=>IE F _ _ _ I
       .show(runtimePanic .nilDeref:Sem Next).runT e.P x es=_->_
        exact λI=>cJ (yQ _ _ _ _ _ _ I)
       .intro I;cases I
theorem O4(F:Fit e)(I:OkG e fr A)(hm:fr.mode≠.run):Sm e XX λP C w=>eB P main (mk fr (A++C)) w:=by
 have E:∀P C w,eB P main (mk fr (A++C)) w=unwind P main fr (A++C) Z w:=λP C w=>by
  cases h:fr.mode with
  |run=>exact Xs h hm
  |_=>simp only[eB,h]
 cases hd:fr.defers with
 |cons d ds=>
  obtain⟨b,hb⟩:=I.1.defers d (by rw[hd];exact .head _);obtain⟨t,as⟩:=d;cases hb
  refine uG (Ew b) fr.fn (λP C r=>match r with
    |.ok calls w=>.go (mk { fr with defers:=calls++ds } (A++C)) w
    |.halt _ w=>.ended (.stuck "the deferred calls of a range-over-func loop have been taken" (fr.pos P)) w) ?_ ?_ ?_
  .intro w r es q hf;simp only[E,unwind,hd,q];refine ni.after ?_ _;cases r with
   |ok v w=>cases hf
   |halt h w=>exact kQ
  .intro P _ C w r es q _;simp only[E,unwind,hd,q];cases r<;>rfl
  .intro x y r es q hf hw;cases r with
   |halt h w=>exact cJ kQ
   |ok c w=>
    cases taken hw q;exact cK (lG (I.top ⟨I.1.todo,λd h=>I.1.defers d (by grind),I.1.kind⟩))
 |nil=>
  cases Y:fr.mode with
  |run=>exact Xs Y hm
  |panicking ch=>
   have hc:∀P,fr.catches P=aL:=λP=>by
    unfold Frame.catches;split
    .rename_i hk;exact Xs hk I.1.head
    .rfl
   cases A with
   |cons a l=>exact(lG (I.pop.top ((I.2 a (.head _)).raise ch))).of λP _ C w=>by rw[E];simp[unwind,hd,Y,hc]
   |nil=>exact λx y hw=>cK (cJ ⟨_,x,#[],(E _ _ _).trans (by simp[unwind,hd,Y,hc]),cK ⟨ch,rfl⟩⟩)
  |returning=>
   have q:=F.results fr.fn;cases hF:e.F[fr.fn]? with
   |none=>
    have hG:e.G[fr.fn]? =Z:=by
     rw[hF]at q;cases hG:e.G[fr.fn]? with
     |none=>rfl
     |some g=>rw[hG]at q;cases q
    refine(xW (main:=main) I (fr.tmps.getD 0 undef)).of λP hP C w=>?_;have:P.funcs[fr.fn]? =Z:=by obtain rfl|rfl:=hP;exact hF;exact hG
    simp only[E,unwind,hd,Y,this]
   |some fn=>
    refine uG (Ud fn fr.tmps) fr.fn (λP C r=>match r with
     |.ok v w=>doReturn P main fr (A++C) Z v w
     |.halt (.stuck s) w=>.ended (.stuck s (fr.pos P)) w
     |.halt _ w=>.ended (.stuck "return: the result variables cannot be read" (fr.pos P)) w) ?_ ?_ ?_
    .intro w r es q hf;simp only[E,unwind,hd,Y,show e.P.funcs[fr.fn]? =M fn from hF,q];refine ni.after ?_ _;cases r with
     |ok v w=>cases hf
     |halt h w=>cases h<;>exact kQ
    .intro P hP C w r es aa _
     obtain⟨J,h1,h2⟩:∃J,P.funcs[fr.fn]? =M J/\results J fr.tmps=results fn fr.tmps:=by
      obtain rfl|rfl:=hP
      .exact⟨fn,hF,rfl⟩
      .rw[hF]at q;cases hG:e.G[fr.fn]? with
       |none=>rw[hG]at q;cases q
       |some g=>
        rw[hG]at q;have h3:g.results=fn.results:=fC q;exact⟨g,rfl,by unfold results;rw[h3]⟩
     simp only[E,unwind,hd,Y,h1,h2,aa]
     grind
    .intro x y r es q hf hw;cases r with
     |ok v w=>exact cK (xW I v)
     |halt h w=>cases h<;>exact cJ kQ
theorem sim(F:Fit e)(E:OkG e fr A):Sm e XX λP C w=>eB P main (mk fr (A++C)) w:=by
 by_cases q:fr.mode=.run
 .exact aaL F E q
 .exact O4 F E q
end
end
end Po
