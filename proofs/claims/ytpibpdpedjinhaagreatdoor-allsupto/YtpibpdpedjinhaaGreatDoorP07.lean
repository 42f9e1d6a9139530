import Derived.Test.YtpibpdpedjinhaaGreatDoorP06
set_option maxRecDepth 100000
set_option linter.all false
open Go renaming Frame->tg,step_lone_go->qaK
open Go.Item renaming inRegion->ri
namespace Go.Proofs.YtpibpdpedjinhaaGreatDoor
namespace Po
open Go Go.Conc
open Cr (kY)
section
variable {P:Program}{ops:Array Oper}{cs:List tg}{w:World}{i f:Nat}{rest:List Nat}{c d:Code}{v:Value}
def KF{b:tg}{a k K Q}(j:∀d a w,Q d a w->d=.normal)(h:wpOp P ops Q i K a w):∃n c,K n c/\Steps P (lone (b.at a (ri ops (i::rest)::k)) cs w) (lone (b.at n (ri ops rest::k)) cs c):=by
 unfold wpOp at h;cases f:ops[i]? with
 |none=>
  simp only[f]at h;have d:=step_op_skip (P:=P) (b:=b) (a:=a) (k:=k) (cs:=cs) (w:=w) (ops:=ops) (i:=i) (rest:=rest) (by simp[f]);simp only[f,Option.bind_none,Act.put]at d;exact⟨a,w,h,.one d⟩
 |some o=>
  simp only[f]at h;by_cases hw:Region.wanted o (yielded ops a.1)=true
  .simp only[hw,if_true]at h;obtain h|⟨_,_,_,m⟩:=h
   case inr=>cases j _ _ _ m
   simp only[Oper.wp,Oper.upon]at h;have g:=stepG_op (P:=P) (b:=b) (k:=k) (cs:=cs) (w:=w) (rest:=rest) f hw
   have l:∀v,(b.at a (ri ops (i::rest)::k)).finish v=b.at (a.put o.1 v) (ri ops rest::k):=by
    intro v;rw[Frame.finish_at,f];rfl
   split at h
   .rename_i v c d;refine⟨_,_,h,.one (qaK ?_)⟩;rw[g,<-l];simp[stepG.apply,d]
   .rename_i c d;refine⟨_,_,h,.one (qaK ?_)⟩;rw[g,<-l];simp[stepG.apply,d]
   .rename_i d c e;refine⟨_,_,h,.one (qaK ?_)⟩
    have:({ b.at a (ri ops (i::rest)::k)with defers:=d::a.2 }:tg).finish undef=
      b.at ({ a with defers:=d::a.2 }.put o.1 undef) (ri ops rest::k):=by
     have:=Frame.finish_at b { a with defers:=d::a.2 } ops i rest k undef;rw[f]at this;exact this
    rw[g];simp only[stepG.apply,Sem.runT_eq,e,GStep.bare_after];exact Zf (λfr=>GStep.go { frame:=fr,callers:=cs,status:=.running,dying:=none } c) this
   .rename_i p o c s;obtain⟨e,u,fr,d,t,_,r⟩:=h (b.at a (ri ops (i::rest)::k)::cs)
    have q:step P (lone (b.at a (ri ops (i::rest)::k)) cs w)=
      .next (lone (Frame.enter P p o .normal) (b.at a (ri ops (i::rest)::k)::cs) c):=
     qaK (by rw[g];simp[stepG.apply,s,Frame.at])
    cases e with
    |returned v=>
     refine⟨_,_,d,.head q (t.trans (.one ?_))⟩;rw[<-l];exact step_leave_returned r
    |panicked chain=>cases j _ _ _ d
    |outgrown=>obtain⟨_,_,m⟩:=d;cases j _ _ _ m
   .rename_i row d c p;let⟨v,r,e,q⟩:=h (b.at a (ri ops (i::rest)::k)) cs
    have o:step P (lone (b.at a (ri ops (i::rest)::k)) cs w)=
      .next (lone (Frame.ofRow P row d .normal) (b.at a (ri ops (i::rest)::k)::cs) c):=
     qaK (by rw[g];simp[stepG.apply,p,Frame.at])
    refine⟨_,_,e,.head o ?_⟩
    grind
   .cases j _ _ _ h
   .exact h.elim
  .simp only[hw,if_false,bE]at h
   have d:=step_op_skip (P:=P) (b:=b) (a:=a) (k:=k) (cs:=cs) (w:=w) (ops:=ops) (i:=i) (rest:=rest)
    (by grind)
   simp only[f,dP]at d;exact⟨_,_,h,.one d⟩
def Env.self(e:Env):Env:={ e with G:=e.2,D:=λ_=>False }
structure jL(e:Env):Prop where
 fit:Fit e
 self:Fit e.self
section
variable {e:Env}{Post:Cl}{Zo A:List tg}{fr:tg}{x:World}{b:tg}{a:Act}{k:List Item}
def Wk.steps(F:jL e)(h:∀t d,∃a b,Steps e.P (lone fr [fY e.P] (Po.on x t d)) (lone a [fY e.P] b)/\Wk e Post Zo a A b):Wk e Post Zo fr A x:=by
 intro a y hw;have c:o7 e.self fr:=⟨a.1.1,a.1.2,a.1.3⟩
 have g:FT e.self x:=λb o h=>by
  have:=hw.6 b o h;cases o<;>first|exact this|trivial
 have k:Tree e.P (λfr w=>Wk e Post Zo fr A w) fr [] x:=Q5 (e:=e.self) F.2 R (λ_ h=>h) ⟨c,aC⟩ g λt d=>by
  obtain⟨f,l,⟨n,j⟩,i⟩:=h t d;exact⟨n,f,l,j,i⟩
 exact GA (Zo:=A++Zo) F.1 k (λ_ _ c f=>c ⟨f.1,a.2⟩) ⟨a.1,aC⟩ y hw
def Wk.ctl(F:jL e){a}(h:∀w,step e.P (lone fr [fY e.P] w)=.next (lone a [fY e.P] w))(k:Wk e Post Zo a A x):Wk e Post Zo fr A x:=
 .steps F λt d=>⟨a,_,.one (h _),k.zl t d⟩
def Cont(e:Env)(Post:Cl)(Zo A:List tg)(b:tg)(k:List Item):Exit->Act->World->Prop
 |.normal,a,w=>Wk e Post Zo (b.at a k) A w
 |.exit f,a,w=>∃c,exitTo f k=some c/\Wk e Post Zo (b.at a c) A w
 |.goto l,a,w=>∃c,gotoIn l k=some c/\Wk e Post Zo (b.at a c) A w
 |.ret,a,w=>∀c,Wk e Post Zo { b.at a c with mode:=.returning } A w
 |_,_,_=>False
def Wk.arrives(F:jL e)(h:∀t d,∃c a g,Cont e Post Zo A b k c a g/\Arrives e.P (lone fr [fY e.P] (Po.on x t d)) b k [fY e.P] c a g):Wk e Post Zo fr A x:=
 .steps F λt d=>by
  let⟨b,j,k,hc,a⟩:=h t d;cases b with
  |normal=>exact⟨_,_,a,hc⟩
  |exit f=>obtain⟨i,c,g⟩:=hc;exact⟨_,_,a i c,g⟩
  |goto l=>obtain⟨i,c,g⟩:=hc;exact⟨_,_,a i c,g⟩
  |ret=>obtain⟨g,c⟩:=a;exact⟨_,_,c,hc g⟩
  |panic c=>exact hc.elim
  |outgrown=>exact hc.elim
def Wk.code(F:jL e)(h:∀t d,c.wp e.P (Cont e Post Zo A b k) a (Po.on x t d)):Wk e Post Zo (b.at a (.code c::k)) A x:=
 .arrives F λt d=>h t d b k _
def Wk.op(F:jL e)(h:∀t d,wpOp e.P ops (λ_ _ _=>False) i (λc f=>Wk e Post Zo (b.at c (ri ops rest::k)) A f) a (Po.on x t d)):Wk e Post Zo (b.at a (ri ops (i::rest)::k)) A x:=
 .steps F λt d=>by
  let⟨c,j,f,g⟩:=KF (b:=b) (k:=k) (cs:=[fY e.P]) (rest:=rest) (λ_ _ _ h=>h.elim) (h t d)
  grind
def Wk.seq(F:jL e)(h:Wk e Post Zo (b.at a (.code c::.code d::k)) A x):Wk e Post Zo (b.at a (.code (.seq c d)::k)) A x:=.ctl F (λ_=>step_seq) h
def Wk.skip(F:jL e)(h:Wk e Post Zo (b.at a k) A x):Wk e Post Zo (b.at a (.code .skip::k)) A x:=.ctl F (λ_=>step_skip) h
def Wk.block(F:jL e)(h:Wk e Post Zo (b.at a (.code c::.inBlock f::k)) A x):Wk e Post Zo (b.at a (.code (.block f c)::k)) A x:=.ctl F (λ_=>step_block) h
def Wk.inBlock(F:jL e)(h:Wk e Post Zo (b.at a k) A x):Wk e Post Zo (b.at a (.inBlock f::k)) A x:=.ctl F (λ_=>step_inBlock) h
def Wk.cond(F:jL e){o t}(hc:a.eval o=.bool t)(h:Wk e Post Zo (b.at a (.code (if t then c else d)::k)) A x):Wk e Post Zo (b.at a (.code (.cond o c d)::k)) A x:=.ctl F (λ_=>step_cond hc) h
def Wk.exit(F:jL e){k'}(c:exitTo f k=some k')(h:Wk e Post Zo (b.at a k') A x):Wk e Post Zo (b.at a (.code (.exit f)::k)) A x:=.ctl F (λ_=>step_exit c) h
def Wk.ret(F:jL e)(h:∀c,Wk e Post Zo { b.at a c with mode:=.returning } A x):Wk e Post Zo (b.at a (.code .ret::k)) A x:=.ctl F (λ_=>step_ret) (h _)
def Wk.fin(F:jL e)(h:∀c,Wk e Post Zo { b.at a c with mode:=.returning } A x):Wk e Post Zo (b.at a []) A x:=.ctl F (λ_=>step_end) (h _)
def Wk.region(F:jL e)(h:Wk e Post Zo (b.at a (ri ops (List.range ops.size)::k)) A x):Wk e Post Zo (b.at a (.code (.region f ops false)::k)) A x:=.ctl F (λ_=>step_region) h
def Wk.draw(F:jL e)(h:∀t,Wk e Post Zo (b.at a (ri ops (Region.schedule (e.P.follows .mixedOrders) ops t)::k)) A x):Wk e Post Zo (b.at a (.code (.region f ops true)::k)) A x:=
 .steps F λt d=>⟨_,_,.one step_region_draw,(h _).zl t (d+1)⟩
def Wk.done(F:jL e)(h:Wk e Post Zo (b.at a k) A x):Wk e Post Zo (b.at a (ri ops []::k)) A x:=.ctl F (λ_=>step_region_end) h
def Wk.call(F:jL e){o}(j:ops[i]? =some o)(hw:Region.wanted o (yielded ops a.1)=true)(h:∀t d,∃f c g,(execOp a.eval o).run e.P (Po.on x t d)=.ok (.enter f c) g/\Wk e Post Zo (Frame.enter e.P f c .normal) (b.at a (ri ops (i::rest)::k)::A) g):Wk e Post Zo (b.at a (ri ops (i::rest)::k)) A x:=
 .one F.1 λt d=>by
  let⟨l,g,m,f,c⟩:=h t d;refine⟨_,_,_,?_,c⟩;rw[show stepG e.P true (mk _ _) _=_ from stepG_op j hw];simp[stepG.apply,f,Frame.at]
def Wk.leave(F:jL e){c fn}(i:fr.5=.returning)(f:fr.4=[])(g:fr.6=.normal)(a:e.2[fr.1]? =some fn)(b:∀t d,(results fn fr.2).run e.P (Po.on x t d)=.ok v (Po.on x t d))(h:Wk e Post Zo (c.finish v) A x):Wk e Post Zo fr (c::A) x:=
 .one F.1 λt d=>by
  have a:e.P.2[fr.1]? =some fn:=a;have b:=b t d;refine⟨_,_,_,?_,h.zl t d⟩;simp[stepG,unwind,doReturn,i,f,g,a,b]
def Wk.last{fn}(i:fr.5=.returning)(b:fr.4=[])(h:fr.6=.normal)(f:e.3[fr.1]? =some fn)(g:e.Q.inits.idxOf? fr.1=none)(j:∀w,(results fn fr.2).run e.Q w=.ok v w)(c:∀w,(results fn fr.2).events e.Q w #[]=#[])(hp:∀y,WP e x y->Keep e Post y->Post.3 v y):Wk e Post [] fr [] x:=λ_ _ hw a=>
 Cr.kY.ret i b h f g (λ_=>j _) (λ_=>c _) λd=>hp _ (hw.re x.2 x.3 d) ⟨a.1,a.2,a.3,a.4,a.5⟩
end
end
end Po
