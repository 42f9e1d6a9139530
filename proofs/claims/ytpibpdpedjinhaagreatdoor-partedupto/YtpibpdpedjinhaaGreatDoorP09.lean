import Derived.Test.YtpibpdpedjinhaaGreatDoorP08
import Derived.Control
set_option maxRecDepth 100000
namespace Go.Proofs.YtpibpdpedjinhaaGreatDoor
namespace Po
open Go
section
variable {fr:Frame}{cs:List Frame}{w w':World}{es:Array Event}{o:Outcome}{m m₁:Machine}
abbrev Tp:=Nat->Question->Nat
def on(w:World)(t:Tp)(d:Nat):World:={ w with tape:=t,drawn:=d }
def LX(e:Env)(x:World):Prop:=∀(b:Nat)(o:Obj),x.heap[b]? =some o->wR e o
section
variable {P:Program}{e:Env}{St:Frame->World->Prop}
theorem OM{z:Frame}{cs':List Frame}(h:stepG P true (mk fr cs) w=.go (mk z cs') w' es):step P (lone fr cs w)=.next (lone z cs' w'):=
 step_lone_go (by rw[show stepG P true _ w=_ from h];rfl)
theorem BA(h:stepG P true (mk fr cs) w=.ended o w' es):step P (lone fr cs w)=.ended o w':=
 step_lone_ended (by rw[show stepG P true _ w=_ from h];rfl)
theorem Fe(h:step P m=.ended o w)(n:Nat):runN P (n+1) m=.ended o w:=by simp only[runN,h]
theorem JB(h:step P m=.next m₁)(n:Nat):runN P (n+1) m=runN P n m₁:=by simp only[runN,h]
theorem Qn(a b:Nat){z:Machine}(h:runN P a m=.next m₁)(k:runN P (a+b) m=.next z):runN P b m₁=.next z:=by
 rw[runN_add,h]at k;exact k
theorem QK(h:Fal P fr)(w:World):l9 (stepG P true (mk fr []) w):=by
 rcases h with⟨v,rfl⟩|⟨ch,rfl⟩
 ·have I:Extern.next "fmt's door"=none:=by decide+kernel
  simp only[stepG,stepG.exec,catcher,Frame.finish,I,Option.elim_none];exact kH
 ·have E:((catcher P).raise ch).catches P=true:=by
   have h2:P.funcs[P.funcs.size]? =none:=by simp
   show(match P.funcs[P.funcs.size]?,(catcher P).todo with
    |none,.call _ _ resume _::_=>resume.startsWith "fmt's door"
    |_,_=>false)=true
   rw[h2]
   show "fmt's door".startsWith "fmt's door"=true
   decide+kernel
  have z:stepG P true (mk ((catcher P).raise ch) []) w=unwind P true ((catcher P).raise ch) [] none w:=rfl;rw[z];unfold unwind
  show l9 (if ((catcher P).raise ch).catches P=true then _ else _)
  rw[if_pos E];exact kH
inductive Tree(P:Program)(St:Frame->World->Prop):Frame->List Frame->World->Prop
 |stop {fr:Frame} {w:World} (t:Tp) (d:Nat):St fr (on w t d)->Tree P St fr [] w
 |step {fr:Frame} {A:List Frame} {w:World} (nx:Tp->Nat->Frame×List Frame×World):
   (∀t d,∃es,stepG P true (mk fr (A++[catcher P])) (on w t d)=.go (mk (nx t d).1 ((nx t d).2.1++[catcher P])) (nx t d).2.2 es)->
   (∀t d,Tree P St (nx t d).1 (nx t d).2.1 (nx t d).2.2)->Tree P St fr A w
theorem EZ(F:Fit e)(hG:e.G=e.F)(hD:∀b,¬e.D b){A:List Frame}(hg:OkG e fr A)(hO:LX e w)(t:Tp)(d:Nat):
  l9 (stepG e.P true (mk fr (A++[catcher e.P])) (on w t d))\/(∃z x' es,stepG e.P true (mk fr (A++[catcher e.P])) (on w t d)=.go (mk z []) x' es/\Fal e.P z)\/
  ∃z R x' es,stepG e.P true (mk fr (A++[catcher e.P])) (on w t d)=.go (mk z (R++[catcher e.P])) x' es/\OkG e z R/\LX e x'/\d<=x'.drawn/\
   ∀E I,(∀i,i<x'.drawn-d->E (I+i)=t (d+i))->∃J,stepG e.P true (mk fr (A++[catcher e.P])) (on w E I)=.go (mk z (R++[catcher e.P])) (on x' E (I+(x'.drawn-d))) J:=by
 have hw:∀E I,WP e (on w t d) (on w E I):=λE I=>⟨rfl,rfl,rfl,λ_ _=>rfl,λb hb=>absurd hb (hD b),hO⟩
 have hQ:e.Q=e.P:=by show(⟨e.T,e.G⟩:Program)=⟨e.T,e.F⟩;rw[hG]
 rcases sim (main:=true) (Z:=[catcher e.P]) F hg (on w t d) _ (hw t d)with h|h|⟨z,R,x',es,h,hm,ac,hy⟩
 ·exact .inl h
 ·exact .inr (.inl h)
 obtain⟨_,_,_,t0,_⟩:=hy λ_ _=>rfl;refine .inr (.inr ⟨z,R,x',es,h,ac,t0.wp.objs,hm.1,λE I ha=>?_⟩);rcases sim (main:=true) (Z:=[catcher e.P]) F hg (on w t d) _ (hw E I)with k|⟨_,_,_,k,_⟩|⟨ab,A2,x2,ae,k,_,_,aa⟩
 ·obtain⟨_,_,_,k⟩:=k;rw[h]at k;cases k
 ·rw[h]at k;simp at k
 rw[h]at k
 obtain⟨rfl,rfl,rfl⟩:z=ab/\R=A2/\x'=x2:=by
  simp only[GStep.go.injEq,Goroutine.mk.injEq,and_true]at k;exact⟨k.1.1,jf k.1.2,k.2.1⟩
 obtain⟨Y,J,h1,h2,_⟩:=aa ha;rw[hQ]at h1;refine⟨J,Eq.trans h1 ?_⟩;have h3:Y.heap=x'.heap:=fP λb=>h2.wp.out b (hD b);have h4:=h2.wp.os;have h5:=h2.wp.output;have h6:Y.tape=E:=h2.tape;have h7:Y.drawn=I+(x'.drawn-d):=h2.drawn;cases Y;simp only at h3 h4 h5 h6 h7;subst h3 h4 h5 h6 h7;rfl
end
end
section
section
variable {e:Env}{St:Frame->World->Prop}
structure uj(e:Env)(St:Frame->World->Prop) where
 spot::
 fr:Frame
 A:List Frame
 w:World
 ok:OkG e fr A
 objs:LX e w
 bad:¬Tree e.P St fr A w
abbrev uj.g(s:uj e St):Goroutine:=mk s.fr (s.A++[catcher e.P])
def uj.to(s:uj e St)(t:Tp)(d:Nat)(s':uj e St):Prop:=∃es,stepG e.P true s.g (on s.w t d)=.go s'.g s'.w es
theorem uj.answers(s:uj e St):∃t d,∀E I x' es,stepG e.P true s.g (on s.w t d)=.go (mk E (I++[catcher e.P])) x' es->OkG e E I->LX e x'->∃s',s.to t d s':=by
 apply gJ;intro J
 have z:∀t d,∃(x:Frame×List Frame×World),(∃es,stepG e.P true s.g (on s.w t d)=.go (mk x.1 (x.2.1++[catcher e.P])) x.2.2 es)/\Tree e.P St x.1 x.2.1 x.2.2:=by
  intro t d;apply gJ;intro hx;exact J ⟨t,d,λE I x' es h R Y=>⟨⟨E,I,x',R,Y,λht=>hx ⟨(E,I,x'),⟨es,h⟩,ht⟩⟩,es,h⟩⟩
 exact s.bad (.step (λt d=>Classical.choose (z t d)) (λt d=>(fV (z t d)).1) λt d=>(fV (z t d)).2)
theorem XW(F:Fit e)(hG:e.G=e.F)(hD:∀b,¬e.D b){I:Frame}{w:World}(h0:OkG e I [])(hO:LX e w)
  (hc:∀t d,∃N fr w',runN e.P N (lone I [catcher e.P] (on w t d))=.next (lone fr [catcher e.P] w')/\St fr w'):Tree e.P St I [] w:=by
 apply gJ;intro ag
 let s₀:uj e St:=⟨_,_,w,h0,hO,ag⟩
 have ai:∀s:uj e St,∃E:Tp×Nat,∀ab A' x' es,stepG e.P true s.g (on s.w E.1 E.2)=.go (mk ab (A'++[catcher e.P])) x' es->OkG e ab A'->LX e x'->∃s',s.to E.1 E.2 s':=λs=>let ⟨t,d,h⟩:=s.answers;⟨(t,d),h⟩
 let E:uj e St->Tp×Nat:=λs=>Classical.choose (ai s)
 have an:=λs:uj e St=>fV (ai s)
 have ae:∀s:uj e St,∃s',(∃s',s.to (E s).1 (E s).2 s')->s.to (E s).1 (E s).2 s':=by
  intro s;by_cases h:∃s',s.to (E s).1 (E s).2 s'
  ·obtain⟨s',h⟩:=h;exact⟨s',λ_=>h⟩
  ·exact⟨s,λh'=>absurd h' h⟩
 let nx:uj e St->uj e St:=λs=>Classical.choose (ae s)
 have af:∀s:uj e St,(∃s',s.to (E s).1 (E s).2 s')->s.to (E s).1 (E s).2 (nx s):=λs=>fV (ae s)
 let σ:Nat->uj e St:=λk=>Nat.rec s₀ (λ_ s=>nx s) k
 have hσ:∀k,σ (k+1)=nx (σ k):=λ_=>rfl
 let good:Nat->Prop:=λk=>∃s',(σ k).to (E (σ k)).1 (E (σ k)).2 s'
 let m:Nat->Nat:=λk=>(σ (k+1)).w.drawn-(E (σ k)).2
 let o:Nat->Nat:=λk=>Nat.rec 0 (λj x=>x+m j) k
 have ho:∀k,o (k+1)=o k+m k:=λ_=>rfl
 have ac:∀a b,a<=b->o a<=o b:=by
  intro a b ak
  induction ak with
  |refl=>exact jA
  |step _ ih=>rw[ho];omega
 let C:Nat->Nat->Prop:=λn k=>(∀j,j<k->good j)/\o k<=n/\(good k->n<o (k+1))
 have hC:∀n a b,C n a->C n b->a=b:=by
  intro n a b ha hb;rcases Nat.lt_trichotomy a b with h|h|h
  ·have h1:=ha.2.2 (hb.1 a h);have h2:=ac (a+1) b h;have:=hb.2.1;omega
  ·exact h
  ·have h1:=hb.2.2 (ha.1 b h);have h2:=ac (b+1) a h;have:=ha.2.1;omega
 let τ:Tp:=λn=>open Classical in if h:∃k,C n k then(E (σ (Classical.choose h))).1 ((E (σ (Classical.choose h))).2+(n-o (Classical.choose h)))else λ_=>0
 have hτ:∀k,(∀j,j<k->good j)->∀i,(good k->i<m k)->τ (o k+i)=(E (σ k)).1 ((E (σ k)).2+i):=by
  intro k hk i hi;have ah:C (o k+i) k:=⟨hk,by omega,λhg=>by rw[ho];have:=hi hg;omega⟩
  have R:∃k',C (o k+i) k':=⟨k,ah⟩
  have e1:τ (o k+i)=(E (σ (Classical.choose R))).1 ((E (σ (Classical.choose R))).2+(o k+i-o (Classical.choose R))):=dif_pos R;have e2:Classical.choose R=k:=hC _ _ _ (fV R) ah;have e3:o k+i-o (Classical.choose R)=i:=by rw[e2];omega
  rw[e1,e3,e2]
 have Y:∀k,(∀j,j<k->good j)->runN e.P k (lone I [catcher e.P] (on w τ 0))=.next (lone (σ k).fr ((σ k).A++[catcher e.P]) (on (σ k).w τ (o k))):=by
  intro k
  induction k with
  |zero=>intro _;rfl
  |succ k ih=>
   intro hk;obtain⟨es,h⟩:=af (σ k) (hk k (by omega));rcases EZ F hG hD (σ k).ok (σ k).objs (E (σ k)).1 (E (σ k)).2 with⟨_,_,_,q⟩|⟨_,_,_,q,_⟩|⟨ab,A',x',ao,q,_,_,hd,hs⟩
   ·rw[show stepG e.P true (mk (σ k).fr _) _=_ from h]at q;cases q
   ·rw[show stepG e.P true (mk (σ k).fr _) _=_ from h]at q;simp[uj.g]at q
   ·rw[show stepG e.P true (mk (σ k).fr _) _=_ from h]at q
    obtain⟨rfl,rfl,rfl⟩:ab=(nx (σ k)).fr/\A'=(nx (σ k)).A/\x'=(nx (σ k)).w:=by
     simp only[GStep.go.injEq,Goroutine.mk.injEq,and_true]at q;exact⟨q.1.1.symm,(jf q.1.2).symm,q.2.1.symm⟩
    obtain⟨aq,hs⟩:=hs τ (o k) λi hi=>hτ k (λj hj=>hk j (by omega)) i λ_=>hi;rw[runN_add,ih λj hj=>hk j (by omega)]
    show runN e.P (0+1) _=_
    rw[JB (OM hs)];rfl
 obtain⟨N,fr,w',hN,ar⟩:=hc τ 0
 have all:∀k,k<=N->∀j,j<k->good j:=by
  intro k
  induction k with
  |zero=>intro _ j hj;omega
  |succ k ih=>
   intro hk j hj;have J:=ih (by omega);rcases fQ j k with aj|au
   ·exact J j aj
   obtain rfl:j=k:=by omega
   by_cases hg:good j
   ·exact hg
   have am:=Y j J;have z:runN e.P (N-j) (lone (σ j).fr ((σ j).A++[catcher e.P]) (on (σ j).w τ (o j)))=.next (lone fr [catcher e.P] w'):=Qn j (N-j) am (by rw[show j+(N-j)=N by omega];exact hN);obtain⟨n,hn⟩:∃n,N-j=n+1:=⟨N-j-1,by omega⟩
   rw[hn]at z;rcases EZ F hG hD (σ j).ok (σ j).objs τ (o j)with⟨_,_,_,q⟩|⟨f,x,_,q,hf⟩|⟨ab,A',x',ao,q,ap,hO,hd,hs⟩
   ·rw[Fe (BA q)]at z;cases z
   ·rw[JB (OM q)]at z;cases n with
    |zero=>simp[runN,lone]at z
    |succ n=>
     obtain⟨_,_,_,q2⟩:=QK hf x;rw[Fe (BA q2)]at z;cases z
   ·obtain⟨aq,hs⟩:=hs (E (σ j)).1 (E (σ j)).2 λi hi=>(hτ j J i λh=>absurd h hg).symm;exact an (σ j) _ _ _ _ hs ap hO
 have aa:=Y N (all N jA);rw[hN]at aa;simp only[Stepped.next.injEq,lone,Machine.mk.injEq]at aa;obtain⟨hw,hg,_⟩:=aa;simp only[Array.mk.injEq,List.cons.injEq,Goroutine.mk.injEq]at hg;obtain⟨⟨h1,h2,_⟩,_⟩:=hg
 have hA:(σ N).A=[]:=by
  cases hA:(σ N).A with
  |nil=>rfl
  |cons a l=>rw[hA]at h2;simp at h2
 refine(σ N).bad ?_;rw[hA];subst h1;exact .stop τ (o N) (hw ▸ ar)
end
end
end Po
end Go.Proofs.YtpibpdpedjinhaaGreatDoor
