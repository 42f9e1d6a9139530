import Derived.Test.YtpibpdpedjinhaaGreatDoorP11
import Derived.Test.YtpibpdpedjinhaaGreatDoorP12
set_option maxRecDepth 100000
set_option linter.all false
open Go renaming Frame->cU,Program->cY,World->U,stepG->eB
open Go.MemAct renaming ofEvent->cR,touch?->gL
namespace Go.Proofs.YtpibpdpedjinhaaGreatDoor
namespace Po
open Go Go.Conc
open Cr (oD Zq)
section
section
variable {e:Env}{St:cU->U->Prop}{Post:Value->U->Prop}
theorem adT{n:Nat}{v:Event}(h:Av e n v):EvL (Zq e.D) n v:=by
 obtain⟨l,wr,I⟩:=v;unfold Av at h;cases l with
 |cell a=>
  refine⟨λx q hs=>?_,aC,aC,?_⟩
  .obtain⟨a',E,h2⟩:=hs
   have:x.loc=.cell a:=by
    simp[cR,gL]at q;rw[<-q]
   grind
  .simp[cR,MemAct.low,Loc.low];exact h.2
 |obj r=>
  refine⟨λx q hs=>?_,aC,aC,by cases wr<;>cases I<;>exact h⟩;obtain⟨a',E,h2⟩:=hs;cases wr<;>cases I<;>simp[cR,gL]at q<;>rw[<-q]at E<;>cases E
 |output=>
  refine⟨λx q hs=>?_,aC,aC,by cases wr<;>cases I<;>trivial⟩;obtain⟨a',E,h2⟩:=hs;cases wr<;>cases I<;>simp[cR,gL]at q<;>rw[<-q]at E<;>cases E
 |goroutines=>exact h.elim
 |mark m=>cases m<;>first|exact h.elim|exact⟨λx q hs=>by simp[cR,gL]at q,aC,aC,trivial⟩
end
structure Ir where
 B:Nat->Prop
 W:U
 post:Value->U->Prop
structure Keep(e:Env)(Post:Ir)(y:U):Prop where
 dead:∀b,Post.B b->e.D b/\y.heap[b]? =Post.W.heap[b]?
 old:∀b,e.D b->b<Post.W.heap.size->Post.B b
 size:Post.W.heap.size<=y.heap.size
 os:y.os=Post.W.os
 output:y.output=Post.W.output
def Wk(e:Env)(Post:Ir)(XX:List cU)(fr:cU)(A:List cU)(x:U):Prop:=
 OkG e fr A->∀y,WP e x y->Keep e Post y->oD e.Q Post.post e.D (mk fr (A++XX)) y
section
variable {e:Env}{St:cU->U->Prop}{Post:Ir}{XX A:List cU}{fr:cU}{x:U}
theorem WP.re{y:U}(hw:WP e x y)(t:Tp)(d q:Nat):WP e (on x t d) (y.at q):=⟨hw.os,hw.output,hw.size,hw.out,hw.inn,hw.objs⟩
theorem Wk.acX{t:Tp}{d:Nat}(h:Wk e Post XX fr A (on x t d)):Wk e Post XX fr A x:=λho y hw=>h ho y (hw.re t d y.drawn)
theorem Wk.FP(t:Tp)(d:Nat)(h:Wk e Post XX fr A x):Wk e Post XX fr A (on x t d):=λho y hw=>h ho y ⟨hw.os,hw.output,hw.size,hw.out,hw.inn,hw.objs⟩
theorem Wk.one(F:Fit e)(hs:∀t d,∃E J x',(eB e.P true (mk fr (A++[catcher e.P])) (on x t d)).bare=.go (mk E (J++[catcher e.P])) x'/\Wk e Post XX E J x'):Wk e Post XX fr A x:=by
 intro aa y hw q;refine oD.step rfl λd=>?_;obtain⟨ac,A1,x1,h,hk⟩:=hs y.tape d;obtain⟨_,_,_,k⟩|⟨_,_,_,k,_⟩|⟨E,J,x',ae,k,hm,ab,hy⟩:=sim (main:=true) (XX:=XX) F aa _ _ (hw.re y.tape d d)
 .have h:GStep.bare ((λ(P:cY) C w=>eB P true (mk fr (A++C)) w) e.P [catcher e.P] (on x y.tape d))=_:=h;rw[k]at h;cases h
 .have h:GStep.bare ((λ(P:cY) C w=>eB P true (mk fr (A++C)) w) e.P [catcher e.P] (on x y.tape d))=_:=h;rw[k]at h;simp[GStep.bare]at h
 .have h:GStep.bare ((λ(P:cY) C w=>eB P true (mk fr (A++C)) w) e.P [catcher e.P] (on x y.tape d))=_:=h;rw[k]at h;obtain⟨y',ev,h1,h2,h3⟩:=hy λ_ _=>rfl;simp only[GStep.bare,GStep.go.injEq,Goroutine.mk.injEq,and_true]at h;obtain⟨⟨k1,k2⟩,k3⟩:=h;have k2:=jl k2;have Y:=h2.wp.size;refine⟨_,y',ev,h1,by rw[Y,hw.size];exact hm.2.2,λv hv=>by rw[Y];exact adT (h3 v hv),?_⟩;rw[k1,k2];exact hk (by grind) y' (by rw[<-k3];exact h2.wp) ⟨λb I=>⟨(q.dead b I).1,(h2.dead b (q.dead b I).1).trans (q.dead b I).2⟩,q.old,bH q.size (by rw[Y,hw.size];exact hm.2.2),h2.still.1.trans q.os,h2.still.2.trans q.output⟩
theorem QN(F:Fit e)(h:Tree e.P St fr A x)(q:∀fr x',St fr x'->Wk e Post XX fr [] x'):Wk e Post XX fr A x:=by
 induction h with
 |stop t d h=>exact(q _ _ h).acX
 |step nx hgo _ ih=>
  exact .one F λt d=>by
   obtain⟨es,h⟩:=hgo t d;exact⟨_,_,_,by rw[h];rfl,ih t d⟩
end
end
end Po
