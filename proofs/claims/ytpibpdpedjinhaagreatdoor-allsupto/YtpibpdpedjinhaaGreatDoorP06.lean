import Derived.Test.YtpibpdpedjinhaaGreatDoorP04
import Derived.Test.YtpibpdpedjinhaaGreatDoorP05
set_option maxRecDepth 100000
set_option linter.all false
open Go renaming Frame->tg,Program->th,World->pn,stepG->vi
open Go.MemAct renaming ofEvent->vj,touch?->tz
namespace Go.Proofs.YtpibpdpedjinhaaGreatDoor
namespace Po
open Go Go.Conc
open Cr (kY Nw)
section
section
variable {e:Env}{St:tg->pn->Prop}{Post:Value->pn->Prop}
def Tl{n v}(h:Av e n v):EvL (Nw e.4) n v:=by
 obtain⟨l,wr,b⟩:=v;unfold Av at h;cases l with
 |cell a=>
  refine⟨λx c d=>?_,aC,aC,?_⟩
  .obtain⟨f,g,i⟩:=d
   have:x.1=.cell a:=by
    simp[vj,tz]at c;rw[<-c]
   grind
  .simp[vj,MemAct.low,Loc.low];exact h.2
 |obj r=>
  refine⟨λx c d=>?_,aC,aC,by cases wr<;>cases b<;>exact h⟩;obtain⟨f,a,g⟩:=d;cases wr<;>cases b<;>simp[vj,tz]at c<;>rw[<-c]at a<;>cases a
 |output=>
  refine⟨λx c d=>?_,aC,aC,by cases wr<;>cases b<;>trivial⟩;obtain⟨f,a,g⟩:=d;cases wr<;>cases b<;>simp[vj,tz]at c<;>rw[<-c]at a<;>cases a
 |goroutines=>exact h.elim
 |mark m=>cases m<;>first|exact h.elim|exact⟨λx a c=>by simp[vj,tz]at a,aC,aC,trivial⟩
end
structure Cl where
 B:Nat->Prop
 W:pn
 post:Value->pn->Prop
structure Keep(e:Env)(Post:Cl)(y:pn):Prop where
 dead:∀b,Post.1 b->e.4 b/\y.1[b]? =Post.2.1[b]?
 old:∀b,e.4 b->b<Post.2.1.size->Post.1 b
 size:Post.2.1.size<=y.1.size
 os:y.4=Post.2.4
 output:y.5=Post.2.5
def Wk(e:Env)(Post:Cl)(Zo:List tg)(fr:tg)(A:List tg)(x:pn):=
 OkG e fr A->∀y,WP e x y->Keep e Post y->kY e.Q Post.3 e.4 (mk fr (A++Zo)) y
section
variable {e:Env}{St:tg->pn->Prop}{Post:Cl}{Zo A:List tg}{fr:tg}{x:pn}
def WP.re{y}(hw:WP e x y)(t d a):WP e (on x t d) (y.at a):=⟨hw.1,hw.2,hw.3,hw.4,hw.5,hw.6⟩
def Wk.R8{t d}(h:Wk e Post Zo fr A (on x t d)):Wk e Post Zo fr A x:=λa y hw=>h a y (hw.re t d y.3)
def Wk.zl(t d)(h:Wk e Post Zo fr A x):Wk e Post Zo fr A (on x t d):=λa y hw=>h a y ⟨hw.1,hw.2,hw.3,hw.4,hw.5,hw.6⟩
def Wk.one(F:Fit e)(q:∀t d,∃b a c,(vi e.P true (mk fr (A++[fY e.P])) (on x t d)).bare=.go (mk b (a++[fY e.P])) c/\Wk e Post Zo b a c):Wk e Post Zo fr A x:=by
 intro p y hw a;refine kY.step R λd=>?_;let⟨G,B,J,h,o⟩:=q y.2 d;obtain⟨_,_,_,k⟩|⟨_,_,_,k,_⟩|⟨E,z,I,D,k,j,H,s⟩:=WY (main:=true) (Zo:=Zo) F p _ _ (hw.re y.2 d d)
 .have h:GStep.bare ((λ(P:th) C w=>vi P true (mk fr (A++C)) w) e.P [fY e.P] (on x y.2 d))=_:=h;rw[k]at h;cases h
 .have h:GStep.bare ((λ(P:th) C w=>vi P true (mk fr (A++C)) w) e.P [fY e.P] (on x y.2 d))=_:=h;rw[k]at h;simp[GStep.bare]at h
 .have h:GStep.bare ((λ(P:th) C w=>vi P true (mk fr (A++C)) w) e.P [fY e.P] (on x y.2 d))=_:=h;rw[k]at h;let⟨l,ev,m,b,n⟩:=s λ_ _=>R;simp only[GStep.bare,GStep.go.injEq,Goroutine.mk.injEq,and_true]at h;obtain⟨⟨t,i⟩,u⟩:=h;have i:=eU i;have g:=b.1.3;refine⟨_,l,ev,m,by rw[g,hw.3];exact j.2.2,λv r=>by rw[g];exact Tl (n v r),?_⟩;rw[t,i];exact o (by grind) l (by rw[<-u];exact b.1) ⟨λc f=>⟨(a.1 c f).1,(b.4 c (a.1 c f).1).trans (a.1 c f).2⟩,a.2,aX a.3 (by rw[g,hw.3];exact j.2.2),b.5.1.trans a.4,b.5.2.trans a.5⟩
def GA(F:Fit e)(h:Tree e.P St fr A x)(b:∀fr a,St fr a->Wk e Post Zo fr [] a):Wk e Post Zo fr A x:=by
 induction h with
 |stop t d h=>exact(b _ _ h).R8
 |step nx hgo _ ih=>
  exact .one F λt d=>by
   let⟨a,h⟩:=hgo t d;exact⟨_,_,_,by rw[h];rfl,ih t d⟩
end
end
end Po
