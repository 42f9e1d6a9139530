import Derived.Test.YtpibpdpedjinhaaGreatDoorP09
import Derived.Test.YtpibpdpedjinhaaGreatDoorP10
set_option maxRecDepth 100000
namespace Go.Proofs.YtpibpdpedjinhaaGreatDoor
namespace Po
open Go Go.Conc
open Cr (nN Vg)
section
section
variable {e:Env}{St:Frame->World->Prop}{Post:Value->World->Prop}
theorem ZH{n:Nat}{v:Event}(h:Av e n v):EvL (Vg e.D) n v:=by
 obtain⟨l,wr,I⟩:=v;unfold Av at h;cases l with
 |cell a=>
  refine⟨λx z hs=>?_,by simp,by simp,?_⟩
  ·obtain⟨a',E,h2⟩:=hs
   have:x.loc=.cell a:=by
    simp[MemAct.ofEvent,MemAct.touch?]at z;rw[<-z]
   rw[this]at E;cases E;exact absurd h2 h.1
  ·simp[MemAct.ofEvent,MemAct.low,Loc.low];exact h.2
 |obj r=>
  refine⟨λx z hs=>?_,by simp,by simp,by cases wr<;>cases I<;>exact h⟩;obtain⟨a',E,h2⟩:=hs;cases wr<;>cases I<;>simp[MemAct.ofEvent,MemAct.touch?]at z<;>rw[<-z]at E<;>cases E
 |output=>
  refine⟨λx z hs=>?_,by simp,by simp,by cases wr<;>cases I<;>trivial⟩;obtain⟨a',E,h2⟩:=hs;cases wr<;>cases I<;>simp[MemAct.ofEvent,MemAct.touch?]at z<;>rw[<-z]at E<;>cases E
 |goroutines=>exact h.elim
 |mark m=>cases m<;>first|exact h.elim|exact⟨λx z hs=>by simp[MemAct.ofEvent,MemAct.touch?]at z,by simp,by simp,trivial⟩
end
structure EO where
 B:Nat->Prop
 W:World
 post:Value->World->Prop
structure Keep(e:Env)(Post:EO)(y:World):Prop where
 dead:∀b,Post.B b->e.D b/\y.heap[b]? =Post.W.heap[b]?
 old:∀b,e.D b->b<Post.W.heap.size->Post.B b
 size:Post.W.heap.size<=y.heap.size
 os:y.os=Post.W.os
 output:y.output=Post.W.output
def Wk(e:Env)(Post:EO)(Z:List Frame)(fr:Frame)(A:List Frame)(x:World):Prop:=
 OkG e fr A->∀y,WP e x y->Keep e Post y->nN e.Q Post.post e.D (mk fr (A++Z)) y
section
variable {e:Env}{St:Frame->World->Prop}{Post:EO}{Z A:List Frame}{fr:Frame}{x:World}
theorem WP.re{y:World}(hw:WP e x y)(t:Tp)(d z:Nat):WP e (on x t d) (y.at z):=⟨hw.os,hw.output,hw.size,hw.out,hw.inn,hw.objs⟩
theorem Wk.YO{t:Tp}{d:Nat}(h:Wk e Post Z fr A (on x t d)):Wk e Post Z fr A x:=λz y hw=>h z y (hw.re t d y.drawn)
theorem Wk.Df(t:Tp)(d:Nat)(h:Wk e Post Z fr A x):Wk e Post Z fr A (on x t d):=λz y hw=>h z y ⟨hw.os,hw.output,hw.size,hw.out,hw.inn,hw.objs⟩
theorem Wk.one(F:Fit e)(hs:∀t d,∃E A' x',(stepG e.P true (mk fr (A++[catcher e.P])) (on x t d)).bare=.go (mk E (A'++[catcher e.P])) x'/\Wk e Post Z E A' x'):Wk e Post Z fr A x:=by
 intro aa y hw z;refine nN.step rfl λd=>?_;obtain⟨ab,A1,x1,h,hk⟩:=hs y.tape d;rcases sim (main:=true) (Z:=Z) F aa _ _ (hw.re y.tape d d)with⟨_,_,_,k⟩|⟨_,_,_,k,_⟩|⟨E,A',x',ac,k,hm,I,hy⟩
 ·have h:GStep.bare ((λ(P:Program) C w=>stepG P true (mk fr (A++C)) w) e.P [catcher e.P] (on x y.tape d))=_:=h;rw[k]at h;cases h
 ·have h:GStep.bare ((λ(P:Program) C w=>stepG P true (mk fr (A++C)) w) e.P [catcher e.P] (on x y.tape d))=_:=h;rw[k]at h;simp[GStep.bare]at h
 ·have h:GStep.bare ((λ(P:Program) C w=>stepG P true (mk fr (A++C)) w) e.P [catcher e.P] (on x y.tape d))=_:=h;rw[k]at h;obtain⟨Y,ev,h1,h2,h3⟩:=hy λ_ _=>rfl;simp only[GStep.bare,GStep.go.injEq,Goroutine.mk.injEq,and_true]at h;obtain⟨⟨k1,J⟩,k3⟩:=h;have J:=jf J;have hz:Y.heap.size=x'.heap.size:=h2.wp.size;refine⟨_,Y,ev,h1,by rw[hz,hw.size];exact hm.2.2,λv hv=>by rw[hz];exact ZH (h3 v hv),?_⟩;rw[k1,J];exact hk (by rw[<-k1,<-J];exact I) Y (by rw[<-k3];exact h2.wp) ⟨λb R=>⟨(z.dead b R).1,(h2.dead b (z.dead b R).1).trans (z.dead b R).2⟩,z.old,aW z.size (by rw[hz,hw.size];exact hm.2.2),h2.still.1.trans z.os,h2.still.2.trans z.output⟩
theorem Nw(F:Fit e)(h:Tree e.P St fr A x)(z:∀fr x',St fr x'->Wk e Post Z fr [] x'):Wk e Post Z fr A x:=by
 induction h with
 |stop t d h=>exact(z _ _ h).YO
 |step nx hgo _ ih=>
  exact .one F λt d=>by
   obtain⟨es,h⟩:=hgo t d;exact⟨_,_,_,by rw[h];rfl,ih t d⟩
end
end
end Po
end Go.Proofs.YtpibpdpedjinhaaGreatDoor
