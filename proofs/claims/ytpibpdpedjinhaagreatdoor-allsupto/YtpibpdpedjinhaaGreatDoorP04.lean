import Derived.Test.YtpibpdpedjinhaaGreatDoorP03
import Derived.Control
set_option maxRecDepth 100000
set_option linter.all false
open Bool renaming true->pw
open Classical renaming choose->yr
open Go renaming Frame->tg,Program->th,World->pn,stepG->vi
open Go.Goroutine.mk renaming injEq->qax
namespace Go.Proofs.YtpibpdpedjinhaaGreatDoor
namespace Po
open Go
section
variable {fr:tg}{cs:List tg}{w w':pn}{es:Array Event}{o:Outcome}{m a:Machine}
abbrev Tp:=Nat->Question->Nat
def on(w:pn)(t:Tp)(d:Nat):pn:={ w with tape:=t,drawn:=d }
def FT(e:Env)(x:pn):=∀(b:Nat)(o:Obj),x.1[b]? =some o->rW e o
section
variable {P:th}{e:Env}{St:tg->pn->Prop}
def Ia{b a}(h:vi P pw (mk fr cs) w=.go (mk b a) w' es):step P (lone fr cs w)=.next (lone b a w'):=
 step_lone_go (by rw[show vi P pw _ w=_ from h];rfl)
def xW(h:vi P pw (mk fr cs) w=.ended o w' es):step P (lone fr cs w)=.ended o w':=
 step_lone_ended (by rw[show vi P pw _ w=_ from h];rfl)
def Bg(h:step P m=.ended o w)(n):runN P (n+1) m=.ended o w:=by simp only[runN,h]
def Ej(h:step P m=.next a)(n):runN P (n+1) m=runN P n a:=by simp only[runN,h]
def Ju(c b){d}(h:runN P c m=.next a)(k:runN P (c+b) m=.next d):runN P b a=.next d:=by rw[runN_add,h]at k;exact k
def JX(h:W9 P fr)(w):jX (vi P pw (mk fr []) w):=by
 obtain⟨v,rfl⟩|⟨a,rfl⟩:=h
 .have b:Extern.next "fmt's door"=none:=by decide+kernel
  simp only[vi,stepG.exec,fY,Frame.finish,b,Option.elim_none];exact gZ
 .have hc:((fY P).raise a).catches P=pw:=by
   have b:P.2[P.2.size]? =none:=aC
   show(match P.2[P.2.size]?,(fY P).3 with
    |none,.call _ _ resume _::_=>resume.startsWith "fmt's door"
    |_,_=>false)=pw
   rw[b]
   show "fmt's door".startsWith "fmt's door"=pw
   exact gz
  have c:vi P pw (mk ((fY P).raise a) []) w=unwind P pw ((fY P).raise a) [] none w:=R;rw[c];unfold unwind
  show jX (if ((fY P).raise a).catches P=pw then _ else _)
  rw[Zb hc];exact gZ
inductive Tree(P:th)(St:tg->pn->Prop):tg->List tg->pn->Prop
 |stop {fr:tg} {w:pn} (t:Tp) (d:Nat):St fr (on w t d)->Tree P St fr [] w
 |step {fr:tg} {A:List tg} {w:pn} (nx:Tp->Nat->tg×List tg×pn):
   (∀t d,∃es,vi P pw (mk fr (A++[fY P])) (on w t d)=.go (mk (nx t d).1 ((nx t d).2.1++[fY P])) (nx t d).2.2 es)->
   (∀t d,Tree P St (nx t d).1 (nx t d).2.1 (nx t d).2.2)->Tree P St fr A w
def A9(F:Fit e)(B:e.3=e.2)(v:∀i,¬e.4 i){A}(x:OkG e fr A)(C:FT e w)(t d):jX (vi e.P pw (mk fr (A++[fY e.P])) (on w t d))\/(∃c a es,vi e.P pw (mk fr (A++[fY e.P])) (on w t d)=.go (mk c []) a es/\W9 e.P c)\/∃c g a es,vi e.P pw (mk fr (A++[fY e.P])) (on w t d)=.go (mk c (g++[fY e.P])) a es/\OkG e c g/\FT e a/\d<=a.3/\∀f b,(∀m<a.3-d,f (b+m)=t (d+m))->∃l,vi e.P pw (mk fr (A++[fY e.P])) (on w f b)=.go (mk c (g++[fY e.P])) (on a f (b+(a.3-d))) l:=by
 have hw:∀f b,WP e (on w t d) (on w f b):=λf b=>⟨R,R,R,λ_ _=>R,λi m=>Zl m (v i),C⟩
 have D:e.Q=e.P:=by show(⟨e.1,e.3⟩:th)=⟨e.1,e.2⟩;rw[B]
 obtain h|h|⟨c,g,a,es,h,G,H,I⟩:=WY (main:=pw) (Zo:=[fY e.P]) F x (on w t d) _ (hw t d)
 .exact .inl h
 .exact .inr (.inl h)
 obtain⟨_,_,_,K,_⟩:=I λ_ _=>R;refine .inr (.inr ⟨c,g,a,es,h,H,K.1.6,G.1,λf b E=>?_⟩);obtain k|⟨_,_,_,k,_⟩|⟨z,y,L,O,k,_,_,J⟩:=WY (main:=pw) (Zo:=[fY e.P]) F x (on w t d) _ (hw f b)
 .obtain⟨_,_,_,k⟩:=k;rw[h]at k;cases k
 .rw[h]at k;simp at k
 rw[h]at k
 obtain⟨rfl,rfl,rfl⟩:c=z/\g=y/\a=L:=by
  simp only[GStep.go.injEq,qax,and_true]at k;exact⟨k.1.1,eU k.1.2,k.2.1⟩
 obtain⟨n,l,o,j,_⟩:=J E;rw[D]at o;refine⟨l,Eq.trans o ?_⟩;have p:=dG λi=>j.1.4 i (v i);have q:=j.1.1;have r:=j.1.2;have s:n.2=f:=j.2;have u:n.3=b+(a.3-d):=j.3;cases n;simp only at p q r s u;subst p q r s u;rfl
end
end
section
variable {w:pn}
section
variable {e:Env}{St:tg->pn->Prop}
structure pN(e:Env)(St:tg->pn->Prop) where
 spot::
 fr:tg
 A:List tg
 w:pn
 ok:OkG e fr A
 objs:FT e w
 bad:¬Tree e.P St fr A w
abbrev pN.g(s:pN e St):Goroutine:=mk s.1 (s.2++[fY e.P])
def pN.to(s:pN e St)(t:Tp)(d:Nat)(s':pN e St):=∃a,vi e.P pw s.g (on s.3 t d)=.go s'.g s'.3 a
def pN.answers(s:pN e St):∃t d,∀c b f a,vi e.P pw s.g (on s.3 t d)=.go (mk c (b++[fY e.P])) f a->OkG e c b->FT e f->∃n,s.to t d n:=by
 apply dO;intro j
 have g:∀t d,∃(x:tg×List tg×pn),(∃a,vi e.P pw s.g (on s.3 t d)=.go (mk x.1 (x.2.1++[fY e.P])) x.2.2 a)/\Tree e.P St x.1 x.2.1 x.2.2:=by
  intro t d;apply dO;intro m;exact j ⟨t,d,λc b f a h k i=>⟨⟨c,b,f,k,i,λl=>m ⟨(c,b,f),⟨a,h⟩,l⟩⟩,a,h⟩⟩
 exact s.6 (.step _ (λt d=>(dJ (g t d)).1) λt d=>(dJ (g t d)).2)
def Q5(F:Fit e)(K:e.3=e.2)(J:∀d,¬e.4 d){x}(Q:OkG e x [])(B:FT e w)(hc:∀E z,∃b v y,runN e.P b (lone x [fY e.P] (on w E z))=.next (lone v [fY e.P] y)/\St v y):Tree e.P St x [] w:=by
 apply dO;intro W
 let s₀:pN e St:=⟨_,_,w,Q,B,W⟩
 have iO:∀s:pN e St,∃a:Tp×Nat,∀t r u H,vi e.P pw s.g (on s.3 a.1 a.2)=.go (mk t (r++[fY e.P])) u H->OkG e t r->FT e u->∃c,s.to a.1 a.2 c:=λs=>let ⟨E,z,h⟩:=s.answers;⟨(E,z),h⟩
 let a:pN e St->Tp×Nat:=λs=>yr (iO s)
 have ad:=λs:pN e St=>dJ (iO s)
 have O:∀s:pN e St,∃c,(∃c,s.to (a s).1 (a s).2 c)->s.to (a s).1 (a s).2 c:=by
  intro s;by_cases h:∃c,s.to (a s).1 (a s).2 c
  .grind
  .exact⟨s,λg=>Zl g h⟩
 let nx:pN e St->pN e St:=λs=>yr (O s)
 have aa:∀s:pN e St,(∃c,s.to (a s).1 (a s).2 c)->s.to (a s).1 (a s).2 (nx s):=λs=>dJ (O s)
 let σ:Nat->pN e St:=λk=>Nat.rec s₀ (λ_ s=>nx s) k
 have hσ:∀k,σ (k+1)=nx (σ k):=λ_=>R
 let good:Nat->Prop:=λk=>∃c,(σ k).to (a (σ k)).1 (a (σ k)).2 c
 let m:Nat->Nat:=λk=>(σ (k+1)).3.3-(a (σ k)).2
 let o:Nat->Nat:=λk=>Nat.rec 0 (λj g=>g+m j) k
 have ho:∀k,o (k+1)=o k+m k:=λ_=>R
 have ai:∀f d,f<=d->o f<=o d:=by
  intro f d g
  induction g with
  |refl=>exact fI
  |step _ ih=>rw[ho];omega
 let C:Nat->Nat->Prop:=λn k=>(∀j<k,good j)/\o k<=n/\(good k->n<o (k+1))
 have T:∀n f d,C n f->C n d->f=d:=by
  intro n f d g l;obtain h|h|h:=Nat.lt_trichotomy f d
  .grind
  .exact h
  .grind
 let τ:Tp:=λn=>open Classical in if h:∃k,C n k then(a (σ (yr h))).1 ((a (σ (yr h))).2+(n-o (yr h)))else λ_=>0
 have hτ:∀k,(∀j<k,good j)->∀i,(good k->i<m k)->τ (o k+i)=(a (σ k)).1 ((a (σ k)).2+i):=by
  intro k Y i hi;have m:C (o k+i) k:=⟨Y,aA,λp=>by grind⟩
  have g:∃k',C (o k+i) k':=⟨k,m⟩
  have q:τ (o k+i)=(a (σ (yr g))).1 ((a (σ (yr g))).2+(o k+i-o (yr g))):=dif_pos g;have l:=T _ _ _ (dJ g) m;have P:o k+i-o (yr g)=i:=by rw[l];omega
  rw[q,P,l]
 have G:∀k,(∀j<k,good j)->runN e.P k (lone x [fY e.P] (on w τ 0))=.next (lone (σ k).1 ((σ k).2++[fY e.P]) (on (σ k).3 τ (o k))):=by
  intro k
  induction k with
  |zero=>intro _;rfl
  |succ k ih=>
   intro g;let⟨H,h⟩:=aa _ (g k aA);obtain⟨_,_,_,q⟩|⟨_,_,_,q,_⟩|⟨t,r,u,o,q,_,_,P,l⟩:=A9 F K J (σ k).4 (σ k).5 (a (σ k)).1 (a (σ k)).2
   .grind
   .rw[show vi e.P pw (mk (σ k).1 _) _=_ from h]at q;simp[pN.g]at q
   .rw[show vi e.P pw (mk (σ k).1 _) _=_ from h]at q
    obtain⟨rfl,rfl,rfl⟩:t=(nx (σ k)).1/\r=(nx (σ k)).2/\u=(nx (σ k)).3:=by
     simp only[GStep.go.injEq,qax,and_true]at q;exact⟨q.1.1.symm,(eU q.1.2).symm,q.2.1.symm⟩
    let⟨C,l⟩:=l τ _ λi m=>hτ k (λj Y=>g j aA) i λ_=>m;rw[runN_add,ih λj Y=>g j aA]
    show runN e.P (0+1) _=_
    rw[Ej (Ia l)];rfl
 let⟨b,v,y,L,V⟩:=hc τ 0
 have all:∀k,k<=b->∀j<k,good j:=by
  intro k
  induction k with
  |zero=>intro _ j g;omega
  |succ k ih=>
   intro hk j hj;have l:=ih aA;obtain P|ah:=dH j k
   .exact l j P
   obtain rfl:j=k:=aA
   by_cases p:good j
   .exact p
   have ac:=G j l;have g:runN e.P (b-j) (lone (σ j).1 ((σ j).2++[fY e.P]) (on (σ j).3 τ (o j)))=.next (lone v [fY e.P] y):=Ju j _ ac (by rw[show j+(b-j)=b by omega];exact L);obtain⟨n,Y⟩:∃n,b-j=n+1:=⟨b-j-1,aA⟩
   rw[Y]at g;obtain⟨_,_,_,q⟩|⟨ag,ae,_,q,C⟩|⟨t,r,u,af,q,ab,B,hd,m⟩:=A9 F K J (σ j).4 (σ j).5 τ (o j)
   .rw[Bg (xW q)]at g;cases g
   .rw[Ej (Ia q)]at g;cases n with
    |zero=>simp[runN,lone]at g
    |succ n=>
     obtain⟨_,_,_,o⟩:=JX C ae;rw[Bg (xW o)]at g;cases g
   .let⟨o,m⟩:=m _ _ λi hi=>(hτ j l i λh=>Zl h p).symm;exact ad _ _ _ _ _ m ab B
 have D:=G b (all b fI);rw[L]at D;simp only[Stepped.next.injEq,lone,Machine.mk.injEq]at D;obtain⟨hw,p,_⟩:=D;simp only[Array.mk.injEq,List.cons.injEq,qax]at p;obtain⟨⟨S,I,_⟩,_⟩:=p
 have A:(σ b).2=[]:=by
  cases A:(σ b).2 with
  |nil=>rfl
  |cons f l=>rw[A]at I;simp at I
 refine(σ b).6 ?_;rw[A];subst S;exact .stop τ _ (hw ▸ V)
end
end
end Po
