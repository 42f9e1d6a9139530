import Derived.Test.YtpibpdpedjinhaaGreatDoorP10
import Derived.Control
set_option maxRecDepth 100000
set_option linter.all false
open Bool renaming true->bB
open Classical renaming choose->io
open Go renaming Frame->cU,Program->cY,World->U,stepG->eB
open Go.Goroutine.mk renaming injEq->oA
namespace Go.Proofs.YtpibpdpedjinhaaGreatDoor
namespace Po
open Go
section
variable {fr:cU}{cs:List cU}{w w':U}{es:Array Event}{o:Outcome}{m m₁:Machine}
abbrev Tp:=Nat->Question->Nat
def on(w:U)(t:Tp)(d:Nat):U:={ w with tape:=t,drawn:=d }
def P6(e:Env)(x:U):Prop:=∀(b:Nat)(o:Obj),x.heap[b]? =some o->yJ e o
section
variable {P:cY}{e:Env}{St:cU->U->Prop}
theorem SN{q:cU}{cs':List cU}(h:eB P bB (mk fr cs) w=.go (mk q cs') w' es):step P (lone fr cs w)=.next (lone q cs' w'):=
 step_lone_go (by rw[show eB P bB _ w=_ from h];rfl)
theorem Ei(h:eB P bB (mk fr cs) w=.ended o w' es):step P (lone fr cs w)=.ended o w':=
 step_lone_ended (by rw[show eB P bB _ w=_ from h];rfl)
theorem IU(h:step P m=.ended o w)(n:Nat):runN P (n+1) m=.ended o w:=by simp only[runN,h]
theorem Nq(h:step P m=.next m₁)(n:Nat):runN P (n+1) m=runN P n m₁:=by simp only[runN,h]
theorem UU(a b:Nat){q:Machine}(h:runN P a m=.next m₁)(k:runN P (a+b) m=.next q):runN P b m₁=.next q:=by rw[runN_add,h]at k;exact k
theorem Vp(h:Fal P fr)(w:U):ni (eB P bB (mk fr []) w):=by
 obtain⟨v,rfl⟩|⟨ch,rfl⟩:=h
 .have I:Extern.next "fmt's door"=none:=by decide+kernel
  simp only[eB,stepG.exec,catcher,Frame.finish,I,Option.elim_none];exact kQ
 .have E:((catcher P).raise ch).catches P=bB:=by
   have h2:P.funcs[P.funcs.size]? =none:=aC
   show(match P.funcs[P.funcs.size]?,(catcher P).todo with
    |none,.call _ _ resume _::_=>resume.startsWith "fmt's door"
    |_,_=>false)=bB
   rw[h2]
   show "fmt's door".startsWith "fmt's door"=bB
   decide+kernel
  have q:eB P bB (mk ((catcher P).raise ch) []) w=unwind P bB ((catcher P).raise ch) [] none w:=rfl;rw[q];unfold unwind
  show ni (if ((catcher P).raise ch).catches P=bB then _ else _)
  rw[ZD E];exact kQ
inductive Tree(P:cY)(St:cU->U->Prop):cU->List cU->U->Prop
 |stop {fr:cU} {w:U} (t:Tp) (d:Nat):St fr (on w t d)->Tree P St fr [] w
 |step {fr:cU} {A:List cU} {w:U} (nx:Tp->Nat->cU×List cU×U):
   (∀t d,∃es,eB P bB (mk fr (A++[catcher P])) (on w t d)=.go (mk (nx t d).1 ((nx t d).2.1++[catcher P])) (nx t d).2.2 es)->
   (∀t d,Tree P St (nx t d).1 (nx t d).2.1 (nx t d).2.2)->Tree P St fr A w
theorem IG(F:Fit e)(hG:e.G=e.F)(hD:∀b,¬e.D b){A:List cU}(hg:OkG e fr A)(hO:P6 e w)(t:Tp)(d:Nat):ni (eB e.P bB (mk fr (A++[catcher e.P])) (on w t d))\/(∃q x' es,eB e.P bB (mk fr (A++[catcher e.P])) (on w t d)=.go (mk q []) x' es/\Fal e.P q)\/∃q Y x' es,eB e.P bB (mk fr (A++[catcher e.P])) (on w t d)=.go (mk q (Y++[catcher e.P])) x' es/\OkG e q Y/\P6 e x'/\d<=x'.drawn/\∀E I,(∀i,i<x'.drawn-d->E (I+i)=t (d+i))->∃J,eB e.P bB (mk fr (A++[catcher e.P])) (on w E I)=.go (mk q (Y++[catcher e.P])) (on x' E (I+(x'.drawn-d))) J:=by
 have hw:∀E I,WP e (on w t d) (on w E I):=λE I=>⟨rfl,rfl,rfl,λ_ _=>rfl,λb hb=>Xs hb (hD b),hO⟩
 have hQ:e.Q=e.P:=by show(⟨e.T,e.G⟩:cY)=⟨e.T,e.F⟩;rw[hG]
 obtain h|h|⟨q,Y,x',es,h,hm,ac,hy⟩:=sim (main:=bB) (XX:=[catcher e.P]) F hg (on w t d) _ (hw t d)
 .exact .inl h
 .exact .inr (.inl h)
 obtain⟨_,_,_,t0,_⟩:=hy λ_ _=>rfl;refine .inr (.inr ⟨q,Y,x',es,h,ac,t0.wp.objs,hm.1,λE I ha=>?_⟩);obtain k|⟨_,_,_,k,_⟩|⟨ab,A2,x2,ae,k,_,_,aa⟩:=sim (main:=bB) (XX:=[catcher e.P]) F hg (on w t d) _ (hw E I)
 .obtain⟨_,_,_,k⟩:=k;rw[h]at k;cases k
 .rw[h]at k;simp at k
 rw[h]at k
 obtain⟨rfl,rfl,rfl⟩:q=ab/\Y=A2/\x'=x2:=by
  simp only[GStep.go.injEq,oA,and_true]at k;exact⟨k.1.1,jl k.1.2,k.2.1⟩
 obtain⟨y',J,h1,h2,_⟩:=aa ha;rw[hQ]at h1;refine⟨J,Eq.trans h1 ?_⟩;have h3:=gB λb=>h2.wp.out b (hD b);have h4:=h2.wp.os;have h5:=h2.wp.output;have h6:y'.tape=E:=h2.tape;have h7:y'.drawn=I+(x'.drawn-d):=h2.drawn;cases y';simp only at h3 h4 h5 h6 h7;subst h3 h4 h5 h6 h7;rfl
end
end
section
section
variable {e:Env}{St:cU->U->Prop}
structure vW(e:Env)(St:cU->U->Prop) where
 spot::
 fr:cU
 A:List cU
 w:U
 ok:OkG e fr A
 objs:P6 e w
 bad:¬Tree e.P St fr A w
abbrev vW.g(s:vW e St):Goroutine:=mk s.fr (s.A++[catcher e.P])
def vW.to(s:vW e St)(t:Tp)(d:Nat)(s':vW e St):Prop:=∃es,eB e.P bB s.g (on s.w t d)=.go s'.g s'.w es
theorem vW.answers(s:vW e St):∃t d,∀q I x' es,eB e.P bB s.g (on s.w t d)=.go (mk q (I++[catcher e.P])) x' es->OkG e q I->P6 e x'->∃s',s.to t d s':=by
 apply gW;intro J
 have E:∀t d,∃(x:cU×List cU×U),(∃es,eB e.P bB s.g (on s.w t d)=.go (mk x.1 (x.2.1++[catcher e.P])) x.2.2 es)/\Tree e.P St x.1 x.2.1 x.2.2:=by
  intro t d;apply gW;intro hx;exact J ⟨t,d,λq I x' es h Y hO=>⟨⟨q,I,x',Y,hO,λht=>hx ⟨(q,I,x'),⟨es,h⟩,ht⟩⟩,es,h⟩⟩
 exact s.bad (.step _ (λt d=>(gJ (E t d)).1) λt d=>(gJ (E t d)).2)
theorem abW(F:Fit e)(hG:e.G=e.F)(hD:∀b,¬e.D b){J:cU}{w:U}(h0:OkG e J [])(hO:P6 e w)(hc:∀t d,∃X1 fr w',runN e.P X1 (lone J [catcher e.P] (on w t d))=.next (lone fr [catcher e.P] w')/\St fr w'):Tree e.P St J [] w:=by
 apply gW;intro ah
 let s₀:vW e St:=⟨_,_,w,h0,hO,ah⟩
 have aj:∀s:vW e St,∃I:Tp×Nat,∀ae A' x' es,eB e.P bB s.g (on s.w I.1 I.2)=.go (mk ae (A'++[catcher e.P])) x' es->OkG e ae A'->P6 e x'->∃s',s.to I.1 I.2 s':=λs=>let ⟨t,d,h⟩:=s.answers;⟨(t,d),h⟩
 let I:vW e St->Tp×Nat:=λs=>io (aj s)
 have ao:=λs:vW e St=>gJ (aj s)
 have af:∀s:vW e St,∃s',(∃s',s.to (I s).1 (I s).2 s')->s.to (I s).1 (I s).2 s':=by
  intro s;by_cases h:∃s',s.to (I s).1 (I s).2 s'
  .grind
  .exact⟨s,λh'=>Xs h' h⟩
 let nx:vW e St->vW e St:=λs=>io (af s)
 have ag:∀s:vW e St,(∃s',s.to (I s).1 (I s).2 s')->s.to (I s).1 (I s).2 (nx s):=λs=>gJ (af s)
 let σ:Nat->vW e St:=λk=>Nat.rec s₀ (λ_ s=>nx s) k
 have hσ:∀k,σ (k+1)=nx (σ k):=λ_=>rfl
 let good:Nat->Prop:=λk=>∃s',(σ k).to (I (σ k)).1 (I (σ k)).2 s'
 let m:Nat->Nat:=λk=>(σ (k+1)).w.drawn-(I (σ k)).2
 let o:Nat->Nat:=λk=>Nat.rec 0 (λj x=>x+m j) k
 have ho:∀k,o (k+1)=o k+m k:=λ_=>rfl
 have av:∀a b,a<=b->o a<=o b:=by
  intro a b am
  induction am with
  |refl=>exact jE
  |step _ ih=>rw[ho];omega
 let C:Nat->Nat->Prop:=λn k=>(∀j,j<k->good j)/\o k<=n/\(good k->n<o (k+1))
 have hC:∀n a b,C n a->C n b->a=b:=by
  intro n a b ha hb;obtain h|h|h:=Nat.lt_trichotomy a b
  .grind
  .exact h
  .grind
 let τ:Tp:=λn=>open Classical in if h:∃k,C n k then(I (σ (io h))).1 ((I (σ (io h))).2+(n-o (io h)))else λ_=>0
 have hτ:∀k,(∀j,j<k->good j)->∀i,(good k->i<m k)->τ (o k+i)=(I (σ k)).1 ((I (σ k)).2+i):=by
  intro k hk i hi;have ai:C (o k+i) k:=⟨hk,aA,λhg=>by grind⟩
  have aa:∃k',C (o k+i) k':=⟨k,ai⟩
  have e1:τ (o k+i)=(I (σ (io aa))).1 ((I (σ (io aa))).2+(o k+i-o (io aa))):=dif_pos aa;have e2:=hC _ _ _ (gJ aa) ai;have e3:o k+i-o (io aa)=i:=by rw[e2];omega
  rw[e1,e3,e2]
 have ab:∀k,(∀j,j<k->good j)->runN e.P k (lone J [catcher e.P] (on w τ 0))=.next (lone (σ k).fr ((σ k).A++[catcher e.P]) (on (σ k).w τ (o k))):=by
  intro k
  induction k with
  |zero=>intro _;rfl
  |succ k ih=>
   intro hk;obtain⟨es,h⟩:=ag _ (hk k aA);obtain⟨_,_,_,q⟩|⟨_,_,_,q,_⟩|⟨ae,A',x',ap,q,_,_,hd,hs⟩:=IG F hG hD (σ k).ok (σ k).objs (I (σ k)).1 (I (σ k)).2
   .grind
   .rw[show eB e.P bB (mk (σ k).fr _) _=_ from h]at q;simp[vW.g]at q
   .rw[show eB e.P bB (mk (σ k).fr _) _=_ from h]at q
    obtain⟨rfl,rfl,rfl⟩:ae=(nx (σ k)).fr/\A'=(nx (σ k)).A/\x'=(nx (σ k)).w:=by
     simp only[GStep.go.injEq,oA,and_true]at q;exact⟨q.1.1.symm,(jl q.1.2).symm,q.2.1.symm⟩
    obtain⟨ar,hs⟩:=hs τ _ λi hi=>hτ k (λj hj=>hk j aA) i λ_=>hi;rw[runN_add,ih λj hj=>hk j aA]
    show runN e.P (0+1) _=_
    rw[Nq (SN hs)];rfl
 obtain⟨X1,fr,w',hN,au⟩:=hc τ 0
 have all:∀k,k<=X1->∀j,j<k->good j:=by
  intro k
  induction k with
  |zero=>intro _ j hj;omega
  |succ k ih=>
   intro hk j hj;have Y:=ih aA;obtain ak|aw:=gG j k
   .exact Y j ak
   obtain rfl:j=k:=aA
   by_cases hg:good j
   .exact hg
   have an:=ab j Y;have E:runN e.P (X1-j) (lone (σ j).fr ((σ j).A++[catcher e.P]) (on (σ j).w τ (o j)))=.next (lone fr [catcher e.P] w'):=UU j _ an (by rw[show j+(X1-j)=X1 by omega];exact hN);obtain⟨n,hn⟩:∃n,X1-j=n+1:=⟨X1-j-1,aA⟩
   rw[hn]at E;obtain⟨_,_,_,q⟩|⟨f,x,_,q,hf⟩|⟨ae,A',x',ap,q,aq,hO,hd,hs⟩:=IG F hG hD (σ j).ok (σ j).objs τ (o j)
   .rw[IU (Ei q)]at E;cases E
   .rw[Nq (SN q)]at E;cases n with
    |zero=>simp[runN,lone]at E
    |succ n=>
     obtain⟨_,_,_,q2⟩:=Vp hf x;rw[IU (Ei q2)]at E;cases E
   .obtain⟨ar,hs⟩:=hs _ _ λi hi=>(hτ j Y i λh=>Xs h hg).symm;exact ao _ _ _ _ _ hs aq hO
 have ac:=ab X1 (all X1 jE);rw[hN]at ac;simp only[Stepped.next.injEq,lone,Machine.mk.injEq]at ac;obtain⟨hw,hg,_⟩:=ac;simp only[Array.mk.injEq,List.cons.injEq,oA]at hg;obtain⟨⟨h1,h2,_⟩,_⟩:=hg
 have hA:(σ X1).A=[]:=by
  cases hA:(σ X1).A with
  |nil=>rfl
  |cons a l=>rw[hA]at h2;simp at h2
 refine(σ X1).bad ?_;rw[hA];subst h1;exact .stop τ _ (hw ▸ au)
end
end
end Po
