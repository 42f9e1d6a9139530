import Derived.Test.YtpibpdpedjinhaaGreatDoorP13
import Derived.Orders
set_option maxRecDepth 100000
set_option linter.all false
open Go renaming Frame->cU,World->U,step_lone_go->oY
open Go.Item renaming inRegion->cD
namespace Go.Proofs.YtpibpdpedjinhaaGreatDoor
namespace Po
open Go Go.Conc
open Cr (oD)
section
variable {ops:Array Oper}{i id:Nat}{rest:List Nat}{c d:Code}{v:Value}
theorem Wj{P:Program}{b:cU}{a:Act}{k:List Item}{cs:List cU}{w:U}{K:Act->U->Prop}{Q:Exit->Act->U->Prop}(hQ:∀ex a w,Q ex a w->ex=.normal)(h:wpOp P ops Q i K a w):∃a' w',K a' w'/\Steps P (lone (b.at a (cD ops (i::rest)::k)) cs w) (lone (b.at a' (cD ops rest::k)) cs w'):=by
 unfold wpOp at h;cases ho:ops[i]? with
 |none=>
  simp only[ho]at h;have hs:=step_op_skip (P:=P) (b:=b) (a:=a) (k:=k) (cs:=cs) (w:=w) (ops:=ops) (i:=i) (rest:=rest) (by simp[ho]);simp only[ho,Option.bind_none,Act.put]at hs;exact⟨a,w,h,.one hs⟩
 |some o=>
  simp only[ho]at h;by_cases hw:Region.wanted o (yielded ops a.tmps)=true
  .simp only[hw,if_true]at h;obtain h|⟨_,_,_,hq⟩:=h
   case inr=>cases hQ _ _ _ hq
   simp only[Oper.wp,Oper.upon]at h;have hg:=stepG_op (P:=P) (b:=b) (k:=k) (cs:=cs) (w:=w) (rest:=rest) ho hw
   have I:∀v,(b.at a (cD ops (i::rest)::k)).finish v=b.at (a.put o.dst v) (cD ops rest::k):=by
    intro v;rw[Frame.finish_at,ho];rfl
   split at h
   .rename_i v w' Y;refine⟨_,_,h,.one (oY ?_)⟩;rw[hg,<-I];simp[stepG.apply,Y]
   .rename_i w' Y;refine⟨_,_,h,.one (oY ?_)⟩;rw[hg,<-I];simp[stepG.apply,Y]
   .rename_i d w' Y;refine⟨_,_,h,.one (oY ?_)⟩
    have:({ b.at a (cD ops (i::rest)::k)with defers:=d::a.defers }:cU).finish undef=
      b.at ({ a with defers:=d::a.defers }.put o.dst undef) (cD ops rest::k):=by
     have:=Frame.finish_at b { a with defers:=d::a.defers } ops i rest k undef;rw[ho]at this;exact this
    rw[hg];simp only[stepG.apply,Sem.runT_eq,Y,GStep.bare_after];exact Z1 (λfr=>GStep.go { frame:=fr,callers:=cs,status:=.running,dying:=none } w') this
   .rename_i f args w' Y;obtain⟨e,aa,fr,hR,E,_,J⟩:=h (b.at a (cD ops (i::rest)::k)::cs)
    have q:step P (lone (b.at a (cD ops (i::rest)::k)) cs w)=
      .next (lone (Frame.enter P f args .normal) (b.at a (cD ops (i::rest)::k)::cs) w'):=
     oY (by rw[hg];simp[stepG.apply,Y,Frame.at])
    cases e with
    |returned v=>
     refine⟨_,_,hR,.head q (E.trans (.one ?_))⟩;rw[<-I];exact step_leave_returned J
    |panicked chain=>cases hQ _ _ _ hR
    |outgrown=>obtain⟨_,_,hq⟩:=hR;cases hQ _ _ _ hq
   .rename_i row args w' Y;obtain⟨v,aa,hR,E⟩:=h (b.at a (cD ops (i::rest)::k)) cs
    have q:step P (lone (b.at a (cD ops (i::rest)::k)) cs w)=
      .next (lone (Frame.ofRow P row args .normal) (b.at a (cD ops (i::rest)::k)::cs) w'):=
     oY (by rw[hg];simp[stepG.apply,Y,Frame.at])
    refine⟨_,_,hR,.head q ?_⟩
    grind
   .cases hQ _ _ _ h
   .exact h.elim
  .simp only[hw,if_false,bU]at h
   have hs:=step_op_skip (P:=P) (b:=b) (a:=a) (k:=k) (cs:=cs) (w:=w) (ops:=ops) (i:=i) (rest:=rest)
    (by grind)
   simp only[ho,gX]at hs;exact⟨_,_,h,.one hs⟩
def Env.self(e:Env):Env:={ e with G:=e.F,D:=λ_=>False }
structure Fits(e:Env):Prop where
 fit:Fit e
 self:Fit e.self
section
variable {e:Env}{Post:Ir}{XX A:List cU}{fr:cU}{x:U}{b:cU}{a:Act}{k:List Item}
theorem Wk.steps(F:Fits e)(h:∀t d,∃q w',Steps e.P (lone fr [catcher e.P] (Po.on x t d)) (lone q [catcher e.P] w')/\Wk e Post XX q A w'):Wk e Post XX fr A x:=by
 intro ho y hw;have hs:uP e.self fr:=⟨ho.1.todo,ho.1.defers,ho.1.kind⟩
 have I:P6 e.self x:=λb o h=>by
  have:=hw.objs b o h;cases o<;>first|exact this|trivial
 have ht:Tree e.P (λfr w=>Wk e Post XX fr A w) fr [] x:=abW (e:=e.self) F.self rfl (λ_ h=>h) ⟨hs,aC⟩ I λt d=>by
  obtain⟨q,w',⟨n,J⟩,hk⟩:=h t d;exact⟨n,q,w',J,hk⟩
 exact QN (XX:=A++XX) F.fit ht (λ_ _ hs E=>hs ⟨E.1,ho.2⟩) ⟨ho.1,aC⟩ y hw
theorem Wk.ctl(F:Fits e){q:cU}(h:∀w,step e.P (lone fr [catcher e.P] w)=.next (lone q [catcher e.P] w))(k:Wk e Post XX q A x):Wk e Post XX fr A x:=
 .steps F λt d=>⟨q,_,.one (h _),k.FP t d⟩
def Cont(e:Env)(Post:Ir)(XX A:List cU)(b:cU)(k:List Item):Exit->Act->U->Prop
 |.normal,a,w=>Wk e Post XX (b.at a k) A w
 |.exit id,a,w=>∃k',exitTo id k=some k'/\Wk e Post XX (b.at a k') A w
 |.goto l,a,w=>∃k',gotoIn l k=some k'/\Wk e Post XX (b.at a k') A w
 |.ret,a,w=>∀todo,Wk e Post XX { b.at a todo with mode:=.returning } A w
 |_,_,_=>False
theorem Wk.arrives(F:Fits e)(h:∀t d,∃E a' w',Cont e Post XX A b k E a' w'/\Arrives e.P (lone fr [catcher e.P] (Po.on x t d)) b k [catcher e.P] E a' w'):Wk e Post XX fr A x:=
 .steps F λt d=>by
  obtain⟨E,a',w',q,I⟩:=h t d;cases E with
  |normal=>exact⟨_,_,I,q⟩
  |exit id=>obtain⟨k',J,h2⟩:=q;exact⟨_,_,I k' J,h2⟩
  |goto l=>obtain⟨k',J,h2⟩:=q;exact⟨_,_,I k' J,h2⟩
  |ret=>obtain⟨todo,hs⟩:=I;exact⟨_,_,hs,q todo⟩
  |panic c=>exact q.elim
  |outgrown=>exact q.elim
theorem Wk.code(F:Fits e)(h:∀t d,c.wp e.P (Cont e Post XX A b k) a (Po.on x t d)):Wk e Post XX (b.at a (.code c::k)) A x:=
 .arrives F λt d=>h t d b k _
theorem Wk.op(F:Fits e)(h:∀t d,wpOp e.P ops (λ_ _ _=>False) i (λa' w'=>Wk e Post XX (b.at a' (cD ops rest::k)) A w') a (Po.on x t d)):Wk e Post XX (b.at a (cD ops (i::rest)::k)) A x:=
 .steps F λt d=>by
  obtain⟨a',w',hk,hs⟩:=Wj (b:=b) (k:=k) (cs:=[catcher e.P]) (rest:=rest) (λ_ _ _ h=>h.elim) (h t d)
  grind
theorem Wk.seq(F:Fits e)(h:Wk e Post XX (b.at a (.code c::.code d::k)) A x):Wk e Post XX (b.at a (.code (.seq c d)::k)) A x:=.ctl F (λ_=>step_seq) h
theorem Wk.skip(F:Fits e)(h:Wk e Post XX (b.at a k) A x):Wk e Post XX (b.at a (.code .skip::k)) A x:=.ctl F (λ_=>step_skip) h
theorem Wk.block(F:Fits e)(h:Wk e Post XX (b.at a (.code c::.inBlock id::k)) A x):Wk e Post XX (b.at a (.code (.block id c)::k)) A x:=.ctl F (λ_=>step_block) h
theorem Wk.inBlock(F:Fits e)(h:Wk e Post XX (b.at a k) A x):Wk e Post XX (b.at a (.inBlock id::k)) A x:=.ctl F (λ_=>step_inBlock) h
theorem Wk.cond(F:Fits e){o:Operand}{t:Bool}(q:a.eval o=.bool t)(h:Wk e Post XX (b.at a (.code (if t then c else d)::k)) A x):Wk e Post XX (b.at a (.code (.cond o c d)::k)) A x:=.ctl F (λ_=>step_cond q) h
theorem Wk.exit(F:Fits e){k':List Item}(hk:exitTo id k=some k')(h:Wk e Post XX (b.at a k') A x):Wk e Post XX (b.at a (.code (.exit id)::k)) A x:=.ctl F (λ_=>step_exit hk) h
theorem Wk.ret(F:Fits e)(h:∀todo,Wk e Post XX { b.at a todo with mode:=.returning } A x):Wk e Post XX (b.at a (.code .ret::k)) A x:=.ctl F (λ_=>step_ret) (h _)
theorem Wk.fin(F:Fits e)(h:∀todo,Wk e Post XX { b.at a todo with mode:=.returning } A x):Wk e Post XX (b.at a []) A x:=.ctl F (λ_=>step_end) (h _)
theorem Wk.region(F:Fits e)(h:Wk e Post XX (b.at a (cD ops (List.range ops.size)::k)) A x):Wk e Post XX (b.at a (.code (.region id ops false)::k)) A x:=.ctl F (λ_=>step_region) h
theorem Wk.draw(F:Fits e)(h:∀t,Wk e Post XX (b.at a (cD ops (Region.schedule (e.P.follows .mixedOrders) ops t)::k)) A x):Wk e Post XX (b.at a (.code (.region id ops true)::k)) A x:=
 .steps F λt d=>⟨_,_,.one step_region_draw,(h _).FP t (d+1)⟩
theorem Wk.done(F:Fits e)(h:Wk e Post XX (b.at a k) A x):Wk e Post XX (b.at a (cD ops []::k)) A x:=.ctl F (λ_=>step_region_end) h
theorem Wk.call(F:Fits e){o:Oper}(ho:ops[i]? =some o)(hw:Region.wanted o (yielded ops a.tmps)=true)(h:∀t d,∃f args w',(execOp a.eval o).run e.P (Po.on x t d)=.ok (.enter f args) w'/\Wk e Post XX (Frame.enter e.P f args .normal) (b.at a (cD ops (i::rest)::k)::A) w'):Wk e Post XX (b.at a (cD ops (i::rest)::k)) A x:=
 .one F.fit λt d=>by
  obtain⟨f,args,w',q,hk⟩:=h t d;refine⟨_,_,_,?_,hk⟩;rw[show stepG e.P true (mk _ _) _=_ from stepG_op ho hw];simp[stepG.apply,q,Frame.at]
theorem Wk.leave(F:Fits e){c:cU}{fn:Func}(I:fr.mode=.returning)(hd:fr.defers=[])(hk:fr.kind=.normal)(q:e.F[fr.fn]? =some fn)(E:∀t d,(results fn fr.tmps).run e.P (Po.on x t d)=.ok v (Po.on x t d))(h:Wk e Post XX (c.finish v) A x):Wk e Post XX fr (c::A) x:=
 .one F.fit λt d=>by
  have q:e.P.funcs[fr.fn]? =some fn:=q;have E:=E t d;refine⟨_,_,_,?_,h.FP t d⟩;simp[stepG,unwind,doReturn,I,hd,hk,q,E]
theorem Wk.last{fn:Func}(E:fr.mode=.returning)(hd:fr.defers=[])(hk:fr.kind=.normal)(I:e.G[fr.fn]? =some fn)(hi:e.Q.inits.idxOf? fr.fn=none)(Y:∀w,(results fn fr.tmps).run e.Q w=.ok v w)(J:∀w,(results fn fr.tmps).events e.Q w #[]=#[])(hp:∀y,WP e x y->Keep e Post y->Post.post v y):Wk e Post [] fr [] x:=λ_ _ hw q=>
 Cr.oD.ret E hd hk I hi (λ_=>Y _) (λ_=>J _) λd=>hp _ (hw.re x.tape x.drawn d) ⟨q.dead,q.old,q.size,q.os,q.output⟩
end
end
end Po
