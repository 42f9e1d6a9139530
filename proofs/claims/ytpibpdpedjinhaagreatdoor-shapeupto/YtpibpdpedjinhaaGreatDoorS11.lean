import Derived.Test.YtpibpdpedjinhaaGreatDoorS09
import Derived.Test.YtpibpdpedjinhaaGreatDoorS10
set_option maxRecDepth 100000
namespace Go.Proofs.YtpibpdpedjinhaaGreatDoor
namespace Po
open Go Go.Conc
open Cr (nG UF)
section
section
variable {e:Env} {St:Frame->World->Prop} {Post:Value->World->Prop}
theorem Y6 {n:Nat} {v:Event} (h:Av e n v):EvL (UF e.D) n v:=by
 obtain ⟨l,wr,E⟩:=v
 unfold Av at h
 cases l with
 |cell a=>
  refine ⟨λx q hs=>?_,by simp,by simp,?_⟩
  ·obtain ⟨a',z,h2⟩:=hs
   have:x.loc=.cell a:=by
    simp [MemAct.ofEvent,MemAct.touch?] at q
    rw [<-q]
   rw [this] at z
   cases z
   exact absurd h2 h.1
  ·simp [MemAct.ofEvent,MemAct.low,Loc.low]
   exact h.2
 |obj r=>
  refine ⟨λx q hs=>?_,by simp,by simp,by cases wr<;>cases E<;>exact h⟩
  obtain ⟨a',z,h2⟩:=hs
  cases wr<;>cases E<;>simp [MemAct.ofEvent,MemAct.touch?] at q<;>rw [<-q] at z<;>cases z
 |output=>
  refine ⟨λx q hs=>?_,by simp,by simp,by cases wr<;>cases E<;>trivial⟩
  obtain ⟨a',z,h2⟩:=hs
  cases wr<;>cases E<;>simp [MemAct.ofEvent,MemAct.touch?] at q<;>rw [<-q] at z<;>cases z
 |goroutines=>exact h.elim
 |mark m=>cases m<;>first|exact h.elim|exact ⟨λx q hs=>by simp [MemAct.ofEvent,MemAct.touch?] at q,by simp,by simp,trivial⟩
end
structure Eh where
 B:Nat->Prop
 W:World
 post:Value->World->Prop
structure Keep (e:Env) (Post:Eh) (y:World):Prop where
 dead:∀b,Post.B b->e.D b/\y.heap[b]? =Post.W.heap[b]?
 old:∀b,e.D b->b < Post.W.heap.size->Post.B b
 size:Post.W.heap.size<=y.heap.size
 os:y.os=Post.W.os
 output:y.output=Post.W.output
def Wk (e:Env) (Post:Eh) (Z:List Frame) (fr:Frame) (A:List Frame) (x:World):Prop:=
 OkG e fr A->∀y,WP e x y->Keep e Post y->nG e.Q Post.post e.D (mk fr (A++Z)) y
section
variable {e:Env} {St:Frame->World->Prop} {Post:Eh} {Z A:List Frame} {fr:Frame} {x:World}
theorem WP.re {y:World} (hw:WP e x y) (t:Tp) (d q:Nat):WP e (on x t d) (y.at q):=⟨hw.os,hw.output,hw.size,hw.out,hw.inn,hw.objs⟩
theorem Wk.Yd {t:Tp} {d:Nat} (h:Wk e Post Z fr A (on x t d)):Wk e Post Z fr A x:=λq y hw=>h q y (hw.re t d y.drawn)
theorem Wk.BR (t:Tp) (d:Nat) (h:Wk e Post Z fr A x):Wk e Post Z fr A (on x t d):=λq y hw=>h q y ⟨hw.os,hw.output,hw.size,hw.out,hw.inn,hw.objs⟩
theorem Wk.one (F:Fit e) (hs:∀t d,∃z Y x',(stepG e.P true (mk fr (A++[catcher e.P])) (on x t d)).bare=.go (mk z (Y++[catcher e.P])) x'/\Wk e Post Z z Y x'):Wk e Post Z fr A x:=by
 intro aa y hw q
 refine nG.step rfl λd=>?_
 obtain ⟨ab,A1,x1,h,hk⟩:=hs y.tape d
 rcases QK (main:=true) (Z:=Z) F aa _ _ (hw.re y.tape d d) with ⟨_,_,_,k⟩|⟨_,_,_,k,_⟩|⟨z,Y,x',ac,k,hm,E,hy⟩
 ·have h:GStep.bare ((λ(P:Program) C w=>stepG P true (mk fr (A++C)) w) e.P [catcher e.P] (on x y.tape d))=_:=h
  rw [k] at h;cases h
 ·have h:GStep.bare ((λ(P:Program) C w=>stepG P true (mk fr (A++C)) w) e.P [catcher e.P] (on x y.tape d))=_:=h
  rw [k] at h;simp [GStep.bare] at h
 ·have h:GStep.bare ((λ(P:Program) C w=>stepG P true (mk fr (A++C)) w) e.P [catcher e.P] (on x y.tape d))=_:=h
  rw [k] at h
  obtain ⟨R,ev,h1,h2,h3⟩:=hy λ_ _=>rfl
  simp only [GStep.bare,GStep.go.injEq,Goroutine.mk.injEq,and_true] at h
  obtain ⟨⟨k1,I⟩,k3⟩:=h
  have I:=jg I
  have hz:R.heap.size=x'.heap.size:=h2.wp.size
  refine ⟨_,R,ev,h1,by rw [hz,hw.size];exact hm.2.2,λv hv=>by rw [hz];exact Y6 (h3 v hv),?_⟩
  rw [k1,I]
  exact hk (by rw [<-k1,<-I];exact E) R (by rw [<-k3];exact h2.wp) ⟨λb J=>⟨(q.dead b J).1,(h2.dead b (q.dead b J).1).trans (q.dead b J).2⟩,q.old,aW q.size (by rw [hz,hw.size];exact hm.2.2),h2.still.1.trans q.os,h2.still.2.trans q.output⟩
theorem MR (F:Fit e) (h:Tree e.P St fr A x) (q:∀fr x',St fr x'->Wk e Post Z fr [] x'):Wk e Post Z fr A x:=by
 induction h with
 |stop t d h=>exact (q _ _ h).Yd
 |step nx hgo _ ih=>
  exact .one F λt d=>by
   obtain ⟨es,h⟩:=hgo t d
   exact ⟨_,_,_,by rw [h];rfl,ih t d⟩
end
end
end Po
end Go.Proofs.YtpibpdpedjinhaaGreatDoor
