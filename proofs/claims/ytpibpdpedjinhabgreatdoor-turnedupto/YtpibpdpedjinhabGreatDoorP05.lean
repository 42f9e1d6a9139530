import Derived.Test.YtpibpdpedjinhabGreatDoorP04
import Derived.Control
set_option maxRecDepth 100000
set_option linter.all false
open Bool renaming true->aR
open Classical renaming choose->im
open Go renaming Frame->cR,Program->cU,World->U,stepG->eC
open Go.Goroutine.mk renaming injEq->od
namespace Go.Proofs.YtpibpdpedjinhabGreatDoor
namespace Po
open Go
section
variable {fr:cR}{cs:List cR}{w w':U}{es:Array Event}{o:Outcome}{m m₁:Machine}
abbrev Tp:=Nat->Question->Nat
def on(w:U)(t:Tp)(d:Nat):U:={ w with tape:=t,drawn:=d }
def OT(e:Env)(x:U):Prop:=∀(b:Nat)(o:Obj),x.heap[b]? =some o->xG e o
section
variable {P:cU}{e:Env}{St:cR->U->Prop}
def RJ{z:cR}{cs':List cR}(h:eC P aR (mk fr cs) w=.go (mk z cs') w' es):step P (lone fr cs w)=.next (lone z cs' w'):=
 step_lone_go (by rw[show eC P aR _ w=_ from h];rfl)
def CP(h:eC P aR (mk fr cs) w=.ended o w' es):step P (lone fr cs w)=.ended o w':=
 step_lone_ended (by rw[show eC P aR _ w=_ from h];rfl)
def Gx(h:step P m=.ended o w)(n:Nat):runN P (n+1) m=.ended o w:=by simp only[runN,h]
def LQ(h:step P m=.next m₁)(n:Nat):runN P (n+1) m=runN P n m₁:=by simp only[runN,h]
def Ur(a:Nat){b:Nat}{z:Machine}(h:runN P a m=.next m₁)(k:runN P (a+b) m=.next z):runN P b m₁=.next z:=by rw[runN_add,h]at k;exact k
def UZ(h:Fal P fr)(w:U):ni (eC P aR (mk fr []) w):=by
 obtain⟨v,rfl⟩|⟨ch,rfl⟩:=h
 .have E:Extern.next "fmt's door"=none:=by decide+kernel
  simp only[eC,stepG.exec,catcher,Frame.finish,E,Option.elim_none];exact kU
 .have hc:((catcher P).raise ch).catches P=aR:=by
   have h2:P.funcs[P.funcs.size]? =none:=aC
   show(match P.funcs[P.funcs.size]?,(catcher P).todo with
    |none,.call _ _ resume _::_=>resume.startsWith "fmt's door"
    |_,_=>false)=aR
   rw[h2]
   show "fmt's door".startsWith "fmt's door"=aR
   decide+kernel
  have z:eC P aR (mk ((catcher P).raise ch) []) w=unwind P aR ((catcher P).raise ch) [] none w:=rfl;rw[z];unfold unwind
  show ni (if ((catcher P).raise ch).catches P=aR then _ else _)
  rw[ZD hc];exact kU
inductive Tree(P:cU)(St:cR->U->Prop):cR->List cR->U->Prop
 |stop {fr:cR} {w:U} (t:Tp) (d:Nat):St fr (on w t d)->Tree P St fr [] w
 |step {fr:cR} {A:List cR} {w:U} (nx:Tp->Nat->cR×List cR×U):
   (∀t d,∃es,eC P aR (mk fr (A++[catcher P])) (on w t d)=.go (mk (nx t d).1 ((nx t d).2.1++[catcher P])) (nx t d).2.2 es)->
   (∀t d,Tree P St (nx t d).1 (nx t d).2.1 (nx t d).2.2)->Tree P St fr A w
def Gn(F:Fit e)(hG:e.G=e.F)(hD:∀b,¬e.D b){A:List cR}(hg:OkG e fr A)(hO:OT e w)(t:Tp)(d:Nat):ni (eC e.P aR (mk fr (A++[catcher e.P])) (on w t d))\/(∃z x' es,eC e.P aR (mk fr (A++[catcher e.P])) (on w t d)=.go (mk z []) x' es/\Fal e.P z)\/∃z R x' es,eC e.P aR (mk fr (A++[catcher e.P])) (on w t d)=.go (mk z (R++[catcher e.P])) x' es/\OkG e z R/\OT e x'/\d<=x'.drawn/\∀E I,(∀i,i<x'.drawn-d->E (I+i)=t (d+i))->∃J,eC e.P aR (mk fr (A++[catcher e.P])) (on w E I)=.go (mk z (R++[catcher e.P])) (on x' E (I+(x'.drawn-d))) J:=by
 have hw:∀E I,WP e (on w t d) (on w E I):=λE I=>⟨rfl,rfl,rfl,λ_ _=>rfl,λb hb=>Xs hb (hD b),hO⟩
 have hQ:e.Q=e.P:=by show(⟨e.T,e.G⟩:cU)=⟨e.T,e.F⟩;rw[hG]
 obtain h|h|⟨z,R,x',es,h,hm,ac,hy⟩:=sim (main:=aR) (XX:=[catcher e.P]) F hg (on w t d) _ (hw t d)
 .exact .inl h
 .exact .inr (.inl h)
 obtain⟨_,_,_,t0,_⟩:=hy λ_ _=>rfl;refine .inr (.inr ⟨z,R,x',es,h,ac,t0.wp.objs,hm.1,λE I ha=>?_⟩);obtain k|⟨_,_,_,k,_⟩|⟨aa,A2,x2,ae,k,_,_,Y⟩:=sim (main:=aR) (XX:=[catcher e.P]) F hg (on w t d) _ (hw E I)
 .obtain⟨_,_,_,k⟩:=k;rw[h]at k;cases k
 .rw[h]at k;simp at k
 rw[h]at k
 obtain⟨rfl,rfl,rfl⟩:z=aa/\R=A2/\x'=x2:=by
  simp only[GStep.go.injEq,od,and_true]at k;exact⟨k.1.1,jg k.1.2,k.2.1⟩
 obtain⟨y',J,h1,h2,_⟩:=Y ha;rw[hQ]at h1;refine⟨J,Eq.trans h1 ?_⟩;have h3:=gB λb=>h2.wp.out b (hD b);have h4:=h2.wp.os;have h5:=h2.wp.output;have h6:y'.tape=E:=h2.tape;have h7:y'.drawn=I+(x'.drawn-d):=h2.drawn;cases y';simp only at h3 h4 h5 h6 h7;subst h3 h4 h5 h6 h7;rfl
end
end
section
section
variable {e:Env}{St:cR->U->Prop}
structure uN(e:Env)(St:cR->U->Prop) where
 spot::
 fr:cR
 A:List cR
 w:U
 ok:OkG e fr A
 objs:OT e w
 bad:¬Tree e.P St fr A w
abbrev uN.g(s:uN e St):Goroutine:=mk s.fr (s.A++[catcher e.P])
def uN.to(s:uN e St)(t:Tp)(d:Nat)(s':uN e St):Prop:=∃es,eC e.P aR s.g (on s.w t d)=.go s'.g s'.w es
def uN.answers(s:uN e St):∃t d,∀z I x' es,eC e.P aR s.g (on s.w t d)=.go (mk z (I++[catcher e.P])) x' es->OkG e z I->OT e x'->∃s',s.to t d s':=by
 apply gW;intro J
 have E:∀t d,∃(x:cR×List cR×U),(∃es,eC e.P aR s.g (on s.w t d)=.go (mk x.1 (x.2.1++[catcher e.P])) x.2.2 es)/\Tree e.P St x.1 x.2.1 x.2.2:=by
  intro t d;apply gW;intro hx;exact J ⟨t,d,λz I x' es h R Y=>⟨⟨z,I,x',R,Y,λht=>hx ⟨(z,I,x'),⟨es,h⟩,ht⟩⟩,es,h⟩⟩
 exact s.bad (.step _ (λt d=>(gJ (E t d)).1) λt d=>(gJ (E t d)).2)
def aa8(F:Fit e)(hG:e.G=e.F)(hD:∀b,¬e.D b){I:cR}{w:U}(h0:OkG e I [])(hO:OT e w)(hc:∀t d,∃X1 fr w',runN e.P X1 (lone I [catcher e.P] (on w t d))=.next (lone fr [catcher e.P] w')/\St fr w'):Tree e.P St I [] w:=by
 apply gW;intro ag
 let s₀:uN e St:=⟨_,_,w,h0,hO,ag⟩
 have ai:∀s:uN e St,∃E:Tp×Nat,∀ac A' x' es,eC e.P aR s.g (on s.w E.1 E.2)=.go (mk ac (A'++[catcher e.P])) x' es->OkG e ac A'->OT e x'->∃s',s.to E.1 E.2 s':=λs=>let ⟨t,d,h⟩:=s.answers;⟨(t,d),h⟩
 let E:uN e St->Tp×Nat:=λs=>im (ai s)
 have an:=λs:uN e St=>gJ (ai s)
 have ae:∀s:uN e St,∃s',(∃s',s.to (E s).1 (E s).2 s')->s.to (E s).1 (E s).2 s':=by
  intro s;by_cases h:∃s',s.to (E s).1 (E s).2 s'
  .grind
  .exact⟨s,λh'=>Xs h' h⟩
 let nx:uN e St->uN e St:=λs=>im (ae s)
 have af:∀s:uN e St,(∃s',s.to (E s).1 (E s).2 s')->s.to (E s).1 (E s).2 (nx s):=λs=>gJ (ae s)
 let σ:Nat->uN e St:=λk=>Nat.rec s₀ (λ_ s=>nx s) k
 have hσ:∀k,σ (k+1)=nx (σ k):=λ_=>rfl
 let good:Nat->Prop:=λk=>∃s',(σ k).to (E (σ k)).1 (E (σ k)).2 s'
 let m:Nat->Nat:=λk=>(σ (k+1)).w.drawn-(E (σ k)).2
 let o:Nat->Nat:=λk=>Nat.rec 0 (λj x=>x+m j) k
 have ho:∀k,o (k+1)=o k+m k:=λ_=>rfl
 have au:∀a b,a<=b->o a<=o b:=by
  intro a b ak
  induction ak with
  |refl=>exact jB
  |step _ ih=>rw[ho];omega
 let C:Nat->Nat->Prop:=λn k=>(∀j,j<k->good j)/\o k<=n/\(good k->n<o (k+1))
 have hC:∀n a b,C n a->C n b->a=b:=by
  intro n a b ha hb;obtain h|h|h:=Nat.lt_trichotomy a b
  .grind
  .exact h
  .grind
 let τ:Tp:=λn=>open Classical in if h:∃k,C n k then(E (σ (im h))).1 ((E (σ (im h))).2+(n-o (im h)))else λ_=>0
 have hτ:∀k,(∀j,j<k->good j)->∀i,(good k->i<m k)->τ (o k+i)=(E (σ k)).1 ((E (σ k)).2+i):=by
  intro k hk i hi;have ah:C (o k+i) k:=⟨hk,aA,λhg=>by grind⟩
  have R:∃k',C (o k+i) k':=⟨k,ah⟩
  have e1:τ (o k+i)=(E (σ (im R))).1 ((E (σ (im R))).2+(o k+i-o (im R))):=dif_pos R;have e2:=hC _ _ _ (gJ R) ah;have e3:o k+i-o (im R)=i:=by rw[e2];omega
  rw[e1,e3,e2]
 have Y:∀k,(∀j,j<k->good j)->runN e.P k (lone I [catcher e.P] (on w τ 0))=.next (lone (σ k).fr ((σ k).A++[catcher e.P]) (on (σ k).w τ (o k))):=by
  intro k
  induction k with
  |zero=>intro _;rfl
  |succ k ih=>
   intro hk;obtain⟨es,h⟩:=af _ (hk k aA);obtain⟨_,_,_,q⟩|⟨_,_,_,q,_⟩|⟨ac,A',x',ao,q,_,_,hd,hs⟩:=Gn F hG hD (σ k).ok (σ k).objs (E (σ k)).1 (E (σ k)).2
   .grind
   .rw[show eC e.P aR (mk (σ k).fr _) _=_ from h]at q;simp[uN.g]at q
   .rw[show eC e.P aR (mk (σ k).fr _) _=_ from h]at q
    obtain⟨rfl,rfl,rfl⟩:ac=(nx (σ k)).fr/\A'=(nx (σ k)).A/\x'=(nx (σ k)).w:=by
     simp only[GStep.go.injEq,od,and_true]at q;exact⟨q.1.1.symm,(jg q.1.2).symm,q.2.1.symm⟩
    obtain⟨aq,hs⟩:=hs τ _ λi hi=>hτ k (λj hj=>hk j aA) i λ_=>hi;rw[runN_add,ih λj hj=>hk j aA]
    show runN e.P (0+1) _=_
    rw[LQ (RJ hs)];rfl
 obtain⟨X1,fr,w',hN,ar⟩:=hc τ 0
 have all:∀k,k<=X1->∀j,j<k->good j:=by
  intro k
  induction k with
  |zero=>intro _ j hj;omega
  |succ k ih=>
   intro hk j hj;have J:=ih aA;obtain aj|av:=gG j k
   .exact J j aj
   obtain rfl:j=k:=aA
   by_cases hg:good j
   .exact hg
   have am:=Y j J;have z:runN e.P (X1-j) (lone (σ j).fr ((σ j).A++[catcher e.P]) (on (σ j).w τ (o j)))=.next (lone fr [catcher e.P] w'):=Ur j am (by rw[show j+(X1-j)=X1 by omega];exact hN);obtain⟨n,hn⟩:∃n,X1-j=n+1:=⟨X1-j-1,aA⟩
   rw[hn]at z;obtain⟨_,_,_,q⟩|⟨f,x,_,q,hf⟩|⟨ac,A',x',ao,q,ap,hO,hd,hs⟩:=Gn F hG hD (σ j).ok (σ j).objs τ (o j)
   .rw[Gx (CP q)]at z;cases z
   .rw[LQ (RJ q)]at z;cases n with
    |zero=>simp[runN,lone]at z
    |succ n=>
     obtain⟨_,_,_,q2⟩:=UZ hf x;rw[Gx (CP q2)]at z;cases z
   .obtain⟨aq,hs⟩:=hs _ _ λi hi=>(hτ j J i λh=>Xs h hg).symm;exact an _ _ _ _ _ hs ap hO
 have aa:=Y X1 (all X1 jB);rw[hN]at aa;simp only[Stepped.next.injEq,lone,Machine.mk.injEq]at aa;obtain⟨hw,hg,_⟩:=aa;simp only[Array.mk.injEq,List.cons.injEq,od]at hg;obtain⟨⟨h1,h2,_⟩,_⟩:=hg
 have hA:(σ X1).A=[]:=by
  cases hA:(σ X1).A with
  |nil=>rfl
  |cons a l=>rw[hA]at h2;simp at h2
 refine(σ X1).bad ?_;rw[hA];subst h1;exact .stop τ _ (hw ▸ ar)
end
end
end Po
