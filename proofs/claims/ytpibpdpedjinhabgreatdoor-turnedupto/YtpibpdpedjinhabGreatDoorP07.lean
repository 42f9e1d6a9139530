import Derived.Test.YtpibpdpedjinhabGreatDoorP05
import Derived.Test.YtpibpdpedjinhabGreatDoorP06
set_option maxRecDepth 100000
set_option linter.all false
open Go renaming Frame->cR,Program->cU,World->U,stepG->eC
open Go.MemAct renaming ofEvent->cX,touch?->gM
namespace Go.Proofs.YtpibpdpedjinhabGreatDoor
namespace Po
open Go Go.Conc
open Cr (ou YJ)
section
section
variable {e:Env}{St:cR->U->Prop}{Post:Value->U->Prop}
def adB{n:Nat}{v:Event}(h:Av e n v):EvL (YJ e.D) n v:=by
 obtain⟨l,wr,I⟩:=v;unfold Av at h;cases l with
 |cell a=>
  refine⟨λx z hs=>?_,aC,aC,?_⟩
  .obtain⟨a',E,h2⟩:=hs
   have:x.loc=.cell a:=by
    simp[cX,gM]at z;rw[<-z]
   grind
  .simp[cX,MemAct.low,Loc.low];exact h.2
 |obj r=>
  refine⟨λx z hs=>?_,aC,aC,by cases wr<;>cases I<;>exact h⟩;obtain⟨a',E,h2⟩:=hs;cases wr<;>cases I<;>simp[cX,gM]at z<;>rw[<-z]at E<;>cases E
 |output=>
  refine⟨λx z hs=>?_,aC,aC,by cases wr<;>cases I<;>trivial⟩;obtain⟨a',E,h2⟩:=hs;cases wr<;>cases I<;>simp[cX,gM]at z<;>rw[<-z]at E<;>cases E
 |goroutines=>exact h.elim
 |mark m=>cases m<;>first|exact h.elim|exact⟨λx z hs=>by simp[cX,gM]at z,aC,aC,trivial⟩
end
structure vU where
 B:Nat->Prop
 W:U
 post:Value->U->Prop
structure Keep(e:Env)(Post:vU)(y:U):Prop where
 dead:∀b,Post.B b->e.D b/\y.heap[b]? =Post.W.heap[b]?
 old:∀b,e.D b->b<Post.W.heap.size->Post.B b
 size:Post.W.heap.size<=y.heap.size
 os:y.os=Post.W.os
 output:y.output=Post.W.output
def Wk(e:Env)(Post:vU)(XX:List cR)(fr:cR)(A:List cR)(x:U):Prop:=
 OkG e fr A->∀y,WP e x y->Keep e Post y->ou e.Q Post.post e.D (mk fr (A++XX)) y
section
variable {e:Env}{St:cR->U->Prop}{Post:vU}{XX A:List cR}{fr:cR}{x:U}
def WP.re{y:U}(hw:WP e x y)(t:Tp)(d z:Nat):WP e (on x t d) (y.at z):=⟨hw.os,hw.output,hw.size,hw.out,hw.inn,hw.objs⟩
def Wk.acf{t:Tp}{d:Nat}(h:Wk e Post XX fr A (on x t d)):Wk e Post XX fr A x:=λho y hw=>h ho y (hw.re t d y.drawn)
def Wk.Ee(t:Tp)(d:Nat)(h:Wk e Post XX fr A x):Wk e Post XX fr A (on x t d):=λho y hw=>h ho y ⟨hw.os,hw.output,hw.size,hw.out,hw.inn,hw.objs⟩
def Wk.one(F:Fit e)(hs:∀t d,∃E J x',(eC e.P true (mk fr (A++[catcher e.P])) (on x t d)).bare=.go (mk E (J++[catcher e.P])) x'/\Wk e Post XX E J x'):Wk e Post XX fr A x:=by
 intro Y y hw z;refine ou.step rfl λd=>?_;obtain⟨ac,A1,x1,h,hk⟩:=hs y.tape d;obtain⟨_,_,_,k⟩|⟨_,_,_,k,_⟩|⟨E,J,x',ae,k,hm,aa,hy⟩:=sim (main:=true) (XX:=XX) F Y _ _ (hw.re y.tape d d)
 .have h:GStep.bare ((λ(P:cU) C w=>eC P true (mk fr (A++C)) w) e.P [catcher e.P] (on x y.tape d))=_:=h;rw[k]at h;cases h
 .have h:GStep.bare ((λ(P:cU) C w=>eC P true (mk fr (A++C)) w) e.P [catcher e.P] (on x y.tape d))=_:=h;rw[k]at h;simp[GStep.bare]at h
 .have h:GStep.bare ((λ(P:cU) C w=>eC P true (mk fr (A++C)) w) e.P [catcher e.P] (on x y.tape d))=_:=h;rw[k]at h;obtain⟨y',ev,h1,h2,h3⟩:=hy λ_ _=>rfl;simp only[GStep.bare,GStep.go.injEq,Goroutine.mk.injEq,and_true]at h;obtain⟨⟨k1,k2⟩,k3⟩:=h;have k2:=jg k2;have R:=h2.wp.size;refine⟨_,y',ev,h1,by rw[R,hw.size];exact hm.2.2,λv hv=>by rw[R];exact adB (h3 v hv),?_⟩;rw[k1,k2];exact hk (by grind) y' (by rw[<-k3];exact h2.wp) ⟨λb I=>⟨(z.dead b I).1,(h2.dead b (z.dead b I).1).trans (z.dead b I).2⟩,z.old,bH z.size (by rw[R,hw.size];exact hm.2.2),h2.still.1.trans z.os,h2.still.2.trans z.output⟩
def Ql(F:Fit e)(h:Tree e.P St fr A x)(z:∀fr x',St fr x'->Wk e Post XX fr [] x'):Wk e Post XX fr A x:=by
 induction h with
 |stop t d h=>exact(z _ _ h).acf
 |step nx hgo _ ih=>
  exact .one F λt d=>by
   obtain⟨es,h⟩:=hgo t d;exact⟨_,_,_,by rw[h];rfl,ih t d⟩
end
end
end Po
