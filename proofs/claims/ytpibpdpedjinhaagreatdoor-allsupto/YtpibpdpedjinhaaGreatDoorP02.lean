import Derived.Test.YtpibpdpedjinhaaGreatDoorPA
import GoSem.Step
set_option maxRecDepth 100000
set_option linter.all false
open Array renaming mem_append->qbh,push->YV,setIfInBounds->qb
open Bool renaming false->pi,true->pw
open Eq renaming trans->oy
open Go renaming Addr->zm,Program->th,World->pn
open Go.Obj renaming cells->pj,isChan->Y2
open Go.Sem renaming bind->yz,runT->tp
open Go.World renaming cell?->Z,farStore->YU,freeze->wv,frozen?->sk,setCell->o3,shape?->sx
open MonadExcept renaming throw->ZS
open MonadExceptOf renaming throw->Zz
open Option renaming none->X,some->N
open Or renaming inl->rr,inr->rz,resolve_left->qae
namespace Go.Proofs.YtpibpdpedjinhaaGreatDoor
namespace Po
open Go
section
structure Env where
 T:Tables
 F:Array Func
 G:Array Func
 D:Nat->Prop
 C:Code->Prop
abbrev Env.P(e:Env):th:=⟨e.1,e.2⟩
abbrev Env.Q(e:Env):th:=⟨e.1,e.3⟩
def ghost:Obj->Bool
 |.loop _|.deferred _=>pw
 |_=>pi
def rW(e:Env):Obj->Prop
 |.loop l=>e.5 l.6/\e.5 l.7/\∀c,l.2=N c->e.5 c
 |.deferred (N ds)=>ds=[]
 |_=>True
structure WP(e:Env)(x y:pn):Prop where
 os:y.4=x.4
 output:y.5=x.5
 size:↑y=x.1.size
 out:∀b:Nat,¬e.4 b->y.1[b]? =x.1[b]?
 inn:∀b:Nat,e.4 b->(∃c t,y.1[b]? =N (pj c t (0,0))/\x.1[b]? =N (.pending c t)/\c≠#[])\/∃o,y.1[b]? =N o/\x.1[b]? =N (.coro X)/\ghost o=pw
 objs:∀(b:Nat)(o:Obj),x.1[b]? =N o->rW e o
def Av(e:Env)(n:Nat)(v:Event):Prop:=match v.1 with
 |.cell a=>¬e.4 a.1/\a.1<n
 |.obj r=>r<n
 |.mark .noRoom|.mark (.extern _)|.output=>True
 |_=>False
section
variable {α β:Type}{e:Env}{x y x1 y1:pn}
def wd:Result α->pn
 |.ok _ w|.halt _ w=>w
def put(r:Result α)(w:pn):Result α:=match r with
 |.ok a _=>.ok a w
 |.halt h _=>.halt h w
def fine:Result α->Bool
 |.ok ..|.halt (.panic _) _=>pw
 |_=>pi
def bad:Result α->Bool
 |.halt (.stuck _) _|.halt (.unsupported _) _=>pw
 |_=>pi
def GM{r:Result α}(b:fine r=pw):¬bad r=pw:=by
 cases r with
 |ok a w=>simp[bad]
 |halt h w=>cases h<;>first|(cases b;done)|simp[bad]
structure To(e:Env)(x x1 y y1:pn):Prop where
 wp:WP e x1 y1
 tape:y1.2=y.2
 drawn:y1.3=y.3+(x1.3-x.3)
 dead:∀b:Nat,e.4 b->y1.1[b]? =y.1[b]?
 still:y1.4=y.4/\y1.5=y.5
def WP.stay(h:WP e x y):To e x x y y:=⟨h,R,aC,λ_ _=>R,R,R⟩
def Ans(x x1 y:pn):=∀i<x1.3-x.3,y.2 (y.3+i)=x.2 (x.3+i)
def Rb(e:Env)(s:Sem α):=∀x b r c,s.runT e.P x b=(r,c)->∀y,WP e x y->bad r=pw\/fine r=pw/\
 ∀a,Ans x (wd r) y->∃y1 ev,s.runT e.Q y a=(put r y1,a++ev)/\To e x (wd r) y y1/\∀v∈ev,Av e (wd r).1.size v
def WP.own(hw:WP e x y):WP e x { y with tape:=x.2,drawn:=x.3 }:=⟨hw.1,hw.2,hw.3,hw.4,hw.5,hw.6⟩
def Av.le{n m}(h:n<=m){v}(k:Av e n v):Av e m v:=by unfold Av at k⊢;split at k<;>first|exact⟨k.1,aL k.2 h⟩|exact aL k h|trivial|exact k.elim
def Zq(a):Rb e (pure a:Sem α):=by intro x c r d b y hw;cases b;exact rz ⟨R,λf _=>⟨y,#[],by simp only[eO];rfl,hw.stay,aC⟩⟩
def L6:Halt->Bool
 |.panic _|.stuck _|.unsupported _=>pw
 |_=>pi
def H(h)(b:L6 h=pw:=by rfl):Rb e (.halt h:Sem α):=by intro x c r d a y hw;cases a;cases h<;>first|(cases b;done)|exact rr R|exact rz ⟨R,λf _=>⟨y,#[],by simp only[eO];rfl,hw.stay,aC⟩⟩
def runT_bind{P}(s)(k:α->Sem β):∀(w b),(s >>= k).runT P w b=match s.runT P w b with
  |(.ok a w1,es1)=>(k a).runT P w1 es1
  |(.halt x w1,es1)=>(.halt x w1,es1):=by
 show ∀w b,(s.bind k).runT P w b=_
 induction s with
 |pure a=>intro w b;rfl
 |load m a k' ih=>
  intro w b;simp only[yz,tp];split
  .exact ih _ _ _
  .split
   .exact ih _ _ _
   .rfl
 |store m a v k' ih=>
  intro w b;cases hc:Z w a with
  |some u=>cases c:sk w a<;>cases v<;>simp only[yz,tp,hc,c,if_true,bE,if_false]<;>first|rfl|exact ih _ _
  |none=>cases v<;>simp only[yz,tp,hc]<;>first
   |rfl
   |(generalize YU P w a _ _=r
     cases r with
     |error x=>rfl
     |ok y=>obtain⟨y,l⟩:=y;exact ih _ _)
 |new o k' ih|shape r k' ih|frozen a k' ih|sys c k' ih|program k' ih=>intro w b;exact ih _ _ _
 |freeze a n k' ih|mark m k' ih=>intro w b;exact ih _ _
 |getObj r k' ih|setObj r o k' ih=>
  intro w b;simp only[yz,tp];split<;>first|rfl|exact ih _ _ _|exact ih _ _
 |choose q k' ih=>
  intro w b;simp only[yz,tp];split<;>exact ih _ _ _
 |halt h=>intro w b;rfl
def NZ(q:Ask α):∀w:pn,(w.ask q).2.1=w.1/\(w.ask q).2.2=w.2/\w.3<=(w.ask q).2.3:=by
 induction q with
 |done a=>intro w;exact⟨R,R,fI⟩
 |ask what range k ih=>
  intro w;unfold World.ask;simp only;split
  .exact ih 0 w
  .let⟨a,b,c⟩:=ih (Question.cut (.extern what range) (w.2 w.3 (.extern what range))) { w with drawn:=w.3+1 };exact⟨a,b,by simp only at c;omega⟩
def zZ{P}{w x:pn}{d v b l}(a:w.farStore P d v b=.ok (x,l)):↑x=w.1.size/\x.3=w.3/\x.2=w.2:=by
 unfold YU at a;split at a
 .split at a
  .rename_i r c;simp only[Except.ok.injEq]at a;subst a;unfold World.viewStore at c;simp only[bind,Except.bind,pure,Except.pure]at c
   repeat' (split at c)
   all_goals first|(cases c;done)|(simp only[Except.ok.injEq,bR]at c;obtain⟨rfl,_⟩:=c;simp)
  .cases a
 .cases a
def Mo(x x1:pn):=x.3<=x1.3/\x1.2=x.2/\↑x<=x1.1.size
def Mo.of{a}(h:Mo x x1)(b:a.3<=x.3)(c:x.2=a.2)(d:a.1.size<=x.1.size):Mo a x1:=⟨aX b h.1,oy h.2.1 c,aX d h.2.2⟩
def mono{P}(s:Sem α):∀(x b),Mo x (wd (s.runT P x b).1):=by
 induction s with
 |pure a=>intro x b;exact⟨fI,R,fI⟩
 |halt a=>intro x b;exact⟨fI,R,fI⟩
 |load m a k ih=>
  intro x b;simp only[tp];split
  .exact ih _ _ _
  .split
   .exact ih _ _ _
   .exact⟨fI,R,fI⟩
 |store m a v k ih=>
  intro x b;cases hc:Z x a with
  |some u=>cases c:sk x a<;>cases v<;>simp only[tp,hc,c,if_true,bE,if_false]<;>first|exact⟨fI,R,fI⟩|exact(ih _ _).of fI R ja
  |none=>cases v<;>simp only[tp,hc]<;>first
   |exact⟨fI,R,fI⟩
   |(cases e:YU P x a _ (m == .atomic)with
     |error h=>exact⟨fI,R,fI⟩
     |ok y=>
      obtain⟨y,l⟩:=y;let⟨a,c,d⟩:=zZ e;exact(ih y _).of (fA c.symm) d (fA a.symm))
 |new o k ih=>intro x b;exact(ih _ _ b).of fI R aC
 |shape r k ih|frozen a k ih|program k ih=>intro x b;exact ih _ _ _
 |mark m k ih=>intro x b;exact ih _ _
 |freeze a n k ih=>
  intro x b;refine(ih _ b).of ?_ ?_ ?_<;>(unfold wv;split<;>simp)
 |sys c k ih=>
  intro x b;have h:=NZ (Kernel.perform c x.4) x;refine(ih _ _ _).of ?_ ?_ ?_<;>(unfold World.sys;split<;>rename_i a<;>(try rw[a]at h)<;>first|exact fI|rfl|exact h.2.2|exact h.2.1|exact fA (Zf _ h.1.symm))
 |getObj r k ih=>
  intro x b;simp only[tp];split<;>first|exact⟨fI,R,fI⟩|exact ih _ _ _
 |setObj r o k ih=>
  intro x b;simp only[tp];split<;>first|exact⟨fI,R,fI⟩|exact(ih _ _).of fI R aC
 |choose q k ih=>
  intro x b;simp only[tp];split
  .exact ih _ _ _
  .exact(ih _ _ b).of (Nat.le_succ _) R fI
def B{s}{k:α->Sem β}(m:Rb e s)(C:∀a,Rb e (k a)):Rb e (s >>= k):=by
 intro x d r w b y hw;rw[runT_bind]at b;have D:=mono (P:=e.P) s x d;cases g:s.runT e.P x d with
 |mk r0 es0=>
 rw[g]at b D;cases r0 with
 |halt h x0=>
  cases b;obtain j|⟨l,n⟩:=m x d _ _ g y hw
  .exact rr (by revert j;cases h<;>exact id)
  .refine rz ⟨by revert l;cases h<;>exact id,λf i=>?_⟩;let⟨y1,ev,a,c⟩:=n f i;exact⟨y1,ev,by rw[runT_bind,a];rfl,c⟩
 |ok j x0=>
  simp only at b;have n:=mono (P:=e.P) (k j) x0 es0;rw[b]at n;obtain⟨o,p,E⟩:=D;have P:x0.3<=(wd r).3:=n.1;have G:x0.1.size<=(wd r).1.size:=n.2.2;simp only[wd]at o p E;obtain⟨L,_,_,K,_⟩:=(qae (m x d _ _ g _ hw.own) (by simp[bad])).2 #[] λ_ _=>R;obtain h|⟨B,_⟩:=C j x0 es0 r w b L K.1
  .exact rr h
  refine rz ⟨B,λz A=>?_⟩;let⟨O,ev,F,a,u⟩:=(qae (m x d _ _ g y hw) (by simp[bad])).2 z λi l=>A i (by have l:i<x0.3-x.3:=l;omega)
  let⟨y1,J,H,c,I⟩:=(qae (C j x0 es0 r w b O a.1) (GM B)).2 (z++ev) λi l=>by
   have:=A (x0.3-x.3+i) aA;simp only[wd]at a;rw[a.2,a.3,p,cE,this,<-cE,Nat.add_sub_cancel' o]
  have t:=a.3;simp only[wd]at t u;refine⟨y1,ev++J,by rw[runT_bind,F,<-Array.append_assoc];exact H,⟨c.1,oy c.2 a.2,by rw[c.3,t];omega,λq h=>oy (c.4 q h) (a.4 q h),oy c.5.1 a.5.1,oy c.5.2 a.5.2⟩,λv f=>?_⟩;obtain f|f:=qbh.1 f
  .exact(u v f).le G
  .exact I v f
def IT{c}[Decidable c]{s t:Sem α}(h:Rb e s)(k:Rb e t):Rb e (if c then s else t):=by
 split
 .exact h
 .exact k
def PR{k:th->Sem α}(h:k e.Q=k e.P)(c:Rb e (k e.P)):Rb e (program >>= k):=by intro x a r b d y hw;have:=c x a r b d y hw;rw[<-h]at this;exact this
def gC(q):Rb e (choose q):=by
 intro x d r f a y hw;simp only[choose,tp]at a;split at a<;>rename_i b<;>cases a
 .exact rz ⟨R,λc _=>⟨y,#[],by simp only[choose,tp,b,if_true,eO];rfl,hw.stay,aC⟩⟩
 .refine rz ⟨R,λg c=>⟨{ y with drawn:=y.3+1 },#[],?_,⟨⟨hw.1,hw.2,hw.3,hw.4,hw.5,hw.6⟩,R,by simp[wd],λ_ _=>R,R,R⟩,aC⟩⟩;have:=c 0 (by simp[wd]);simp only[Nat.add_zero]at this;simp only[choose,tp,b,if_false,bE,this,eO];rfl
def TB{p:Prop}(h:p:=by repeat' first|with_reducible exact Zq _|with_reducible refine B ?_ λ_=>?_|with_reducible refine IT ?_ ?_|exact H _|split|(simp;done)|dsimp only|exact B (gC _) λ_=>Zq _):p:=h
def TP{p:Prop}(h:p:=by repeat' first|((with_reducible refine PR ?_ ?_);· rfl)|with_reducible exact Zq _|with_reducible refine B ?_ λ_=>?_|with_reducible refine IT ?_ ?_|exact H _|split|(simp;done)|dsimp only|exact B (gC _) λ_=>Zq _):p:=h
def CC(h:WP e x y){b}(a:e.4 b):b<x.1.size:=by rcases h.5 b a with⟨c,t,_,h,_⟩|⟨l,_,h,_⟩<;>exact(fO h)
def NB{o}{k:Nat->Sem α}(t:rW e o)(s:∀r,¬e.4 r->Rb e (k r)):Rb e (newObj o >>= k):=by
 intro x j z l u y hw;have p:¬e.4 x.1.size:=λh=>Nat.lt_irrefl _ (CC hw h)
 have g:To e x { x with heap:=YV x.1 o } y { y with heap:=YV y.1 o }:=by
  refine⟨⟨hw.1,hw.2,by simp[hw.3],λb a=>?_,λb a=>?_,λb w d=>?_⟩,R,aC,λb a=>?_,R,R⟩
  .simp only[dV,hw.3,hw.4 b a]
  .have:=CC hw a;have v:=hw.3;simp only[dV,v,Za (show ¬b=x.1.size by omega)];exact hw.5 b a
  .simp only[dV]at d;split at d
   .cases d;exact t
   .exact hw.6 b w d
  .have:=CC hw a;simp only[dV,hw.3,Za (show ¬b=x.1.size by omega)]
 obtain a|⟨q,r⟩:=s _ p { x with heap:=YV x.1 o } j z l u _ g.1
 .exact rr a
 refine rz ⟨q,λm n=>?_⟩;let⟨y1,ev,f,c,i⟩:=r m n;refine⟨y1,ev,?_,⟨c.1,c.2,c.3,λb a=>oy (c.4 b a) (g.4 b a),c.5⟩,i⟩;rw[<-hw.3]at f;exact f
end
end
section
section
variable (T:Tables)(F G:Array Func)
def P1(d):plainCell ⟨T,F⟩ d=plainCell ⟨T,G⟩ d:=by
 induction d with
 |zero=>rfl
 |succ d ih=>funext t o;simp only[plainCell,ih];rfl
def mP(d):byteOfCell ⟨T,F⟩ d=byteOfCell ⟨T,G⟩ d:=by
 induction d with
 |zero=>rfl
 |succ d ih=>funext t o;simp only[byteOfCell,ih];rfl
def J8(d):cellHolding ⟨T,F⟩ d=cellHolding ⟨T,G⟩ d:=by
 induction d with
 |zero=>rfl
 |succ d ih=>funext t o;simp only[cellHolding,ih];rfl
def QT(d):tight ⟨T,F⟩ d=tight ⟨T,G⟩ d:=by
 induction d with
 |zero=>rfl
 |succ d ih=>funext t;simp only[tight,ih];rfl
def EA(c t f):seenCells ⟨T,F⟩ c t f=seenCells ⟨T,G⟩ c t f:=by
 induction f with
 |zero=>rfl
 |succ f ih=>funext x s;simp only[seenCells,ih,J8 T F G];rfl
def MN(w:pn)(a u k b):w.seen ⟨T,F⟩ a u k b=w.seen ⟨T,G⟩ a u k b:=by simp only[World.seen,P1 T F G,mP T F G,EA T F G];rfl
def Iw(w:pn)(a b):w.farLoad ⟨T,F⟩ a b=w.farLoad ⟨T,G⟩ a b:=by simp only[World.farLoad,World.viewLoad,MN T F G]
def Fv(w:pn)(a v b):w.farStore ⟨T,F⟩ a v b=w.farStore ⟨T,G⟩ a v b:=by simp only[YU,World.viewStore,MN T F G,QT T F G];rfl
end
section
variable {P:th}{w:pn}
def seen_cells{x u k b}{y}(h:w.seen P x u k b=.ok y):∃c t f,w.1[x.1]? =N (pj c t f):=by
 unfold World.seen at h;simp only[bind,Except.bind,ZS,throwThe,Zz,pure,Except.pure]at h
 repeat' split at h
 all_goals first|(cases h;done)|exact⟨_,_,_,‹w.heap[x.block]? =N _›⟩
end
end
section
variable {v:Value}
section
variable {P:th}{w w' x y:pn}{e:Env}{α:Type}{b:Nat}
def WP.nd(h:WP e x y){o}(a:x.1[b]? =N o)(d:∀c t,o≠.pending c t)(f:o≠.coro X):¬e.4 b:=λg=>by
 rcases h.5 b g with⟨c,t,_,k,_⟩|⟨l,_,k,_⟩<;>rw[k]at a<;>cases a
 .exact d _ _ R
 .exact f R
def Fs{a b l}(h:w.farLoad P a b=.ok (v,l)):∃x u,w.1[a.1]? =N (.view x u)/\(∃c t f,w.1[x.1]? =N (pj c t f))/\(∀z∈l,z.1=x.1)/\∀w':pn,w'.1[a.1]? =w.1[a.1]?->w'.1[x.1]? =w.1[x.1]?->w'.farLoad P a b=.ok (v,l):=by
 have e:=h;unfold World.farLoad at h;split at h
 .rename_i x u d
  have j:∀w':pn,w'.1[a.1]? =w.1[a.1]?->w'.1[x.1]? =w.1[x.1]?->w'.farLoad P a b=.ok (v,l):=λw' g i=>by
   rw[<-e];unfold World.farLoad;rw[g,d];simp only[World.viewLoad,World.seen,i]
  refine⟨x,u,d,?_,?_,j⟩<;>
  .unfold World.viewLoad at h;simp only[bind,Except.bind,pure,Except.pure,ZS,throwThe,Zz]at h;cases c:w.seen P x u a b with
   |error y=>rw[c]at h;cases h
   |ok y=>
    first
    |exact seen_cells c
    |(obtain⟨k,t,m,first,like,cells⟩:=y
      rw[c]at h;simp only at h;generalize like.ofBytes _=ob at h;cases ob with
      |none=>cases h
      |some z=>
       simp only[Except.ok.injEq,bR]at h;obtain⟨_,rfl⟩:=h;intro y f;obtain⟨q,_,rfl⟩:=bB.1 f;rfl)
 .cases h
def G4{a}(h:Z w a=N v):∃c t f,w.1[a.1]? =N (pj c t f):=by
 unfold Z at h;split at h
 .exact⟨_,_,_,‹_›⟩
 .cases h
def sS{o}(h:w.1[b]? =N o):b<↑w:=(fO h)
def B9(d)(m:Mode:=.plain):Rb e (load d m):=by
 intro x r A s b y hw;simp only[load,tp]at b;cases a:Z x d with
 |some v=>
  rw[a]at b;cases b;let⟨h,t,i,c⟩:=G4 a;have f:=hw.nd c aC aC;have g:Z y d=N v:=by unfold Z at a⊢;rw[hw.4 _ f];exact a
  exact rz ⟨R,λj _=>⟨y,#[⟨.cell d,pi,m == .atomic⟩],by simp only[load,tp,g];rfl,hw.stay,λv a=>by simp at a;subst a;exact⟨f,sS c⟩⟩⟩
 |none=>
  rw[a]at b;simp only at b;cases c:x.farLoad e.P d (m == .atomic)with
  |error h=>
   rw[c]at b;cases b;left;unfold World.farLoad at c;split at c
   .split at c<;>cases c;rfl
   .cases c;unfold World.noCell;split<;>rfl
  |ok z=>
   obtain⟨v,l⟩:=z;rw[c]at b;cases b;obtain⟨w,C,n,⟨q,B,t,f⟩,k,i⟩:=Fs c;have g:=hw.nd f aC aC;have h:=hw.nd n aC aC
   have j:y.farLoad e.Q d (m == .atomic)=.ok (v,l):=by
    rw[Iw e.1 e.3 e.2];exact i y (hw.4 _ h) (hw.4 _ g)
   have o:Z y d=X:=by unfold Z at a⊢;rw[hw.4 _ h];exact a
   refine rz ⟨R,λu _=>⟨y,l.toArray.map (⟨.cell ·,pi,m == .atomic⟩),by simp only[load,tp,o,j];rfl,hw.stay,λv a=>?_⟩⟩;obtain⟨z,p,rfl⟩:=Array.mem_map.1 a;have:=k z (by simpa using p);exact⟨by rw[this];exact g,by rw[this];exact sS f⟩
end
end
section
variable {v:Value}
section
variable {P:th}{w w' x y:pn}{e:Env}{α:Type}{b:Nat}
def WP.put(h:WP e x y)(f:¬e.4 b){hp hp'}(j:hp.size=x.1.size)(m:hp'.size=y.1.size)(c:∀z≠b,hp[z]? =x.1[z]?)(d:∀z≠b,hp'[z]? =y.1[z]?)(g:hp'[b]? =hp[b]?)(i:∀o,hp[b]? =N o->rW e o):To e x { x with heap:=hp } y { y with heap:=hp' }:=by
 refine⟨⟨h.1,h.2,by show hp'.size=hp.size;rw[j,m,h.3],λz a=>?_,λz a=>?_,λz l a=>?_⟩,R,aC,λz a=>d z λk=>f (k ▸ a),R,R⟩
 .show hp'[z]? =hp[z]?
  by_cases k:z=b
  .subst k;exact g
  .rw[c z k,d z k];exact h.4 z a
 .show(∃n t,hp'[z]? =_/\hp[z]? =_/\_)\/∃o,hp'[z]? =N o/\hp[z]? =_/\_
  rw[c z λk=>f (k ▸ a),d z λk=>f (k ▸ a)];exact h.5 z a
 .have a:hp[z]? =N l:=a;by_cases k:z=b
  .subst k;exact i _ a
  .rw[c z k]at a;exact h.6 z l a
def WP.set(h:WP e x y)(a:¬e.4 b)(o)(c:rW e o):To e x { x with heap:=qb x.1 b o } y { y with heap:=qb y.1 b o }:=
 h.put a aC aC (λz k=>cI (Ne.symm k)) (λz k=>cI (Ne.symm k)) (by simp[aQ,h.3]) λd k=>by
  rw[aQ]at k;simp only[if_true]at k;split at k<;>cases k;exact c
def Do{w1 a b l}(h:w.farStore P a v b=.ok (w1,l)):∃x u c t f,w.1[a.1]? =N (.view x u)/\(∃c t f,w.1[x.1]? =N (pj c t f))/\(∀z∈l,z.1=x.1)/\w1={ w with heap:=qb w.1 x.1 (pj c t f) }/\∀w':pn,w'.1[a.1]? =w.1[a.1]?->w'.1[x.1]? =w.1[x.1]?->w'.farStore P a v b=.ok ({ w' with heap:=qb w'.1 x.1 (pj c t f) },l):=by
 unfold YU at h;cases n:w.1[a.1]? with
 |none=>rw[n]at h;cases h
 |some ob=>
 rw[n]at h;cases ob with
 |view x u=>
  simp only at h;unfold World.viewStore at h;simp only[bind,Except.bind,pure,Except.pure,ZS,throwThe,Zz]at h;by_cases g:(!tight P P.depth u)=pw
  .rw[Zb g]at h;cases h
  rw[Za g]at h;cases e:w.seen P x u a b with
  |error _=>rw[e]at h;cases h
  |ok y=>
  have hc:=seen_cells e;obtain⟨c,k,m,first,like,cells⟩:=y;rw[e]at h;simp only at h;cases j:v.bytes? with
  |none=>rw[j]at h;cases h
  |some bs=>
  rw[j]at h;simp only at h;by_cases i:N bs.length≠Option.map (λx=>x.length) like.bytes?
  .rw[Zb i]at h;cases h
  rw[Za i]at h;generalize o:(List.foldlM _ c cells:Except String (Array Value))=r at h;cases r with
  |error _=>cases h
  |ok d=>
   simp only[Except.ok.injEq,bR]at h;obtain⟨rfl,rfl⟩:=h;refine⟨x,u,d,k,m,R,hc,λz p=>?_,R,λw' q r=>?_⟩
   .obtain⟨d,_,rfl⟩:=bB.1 p;rfl
   .have d:w'.seen P x u a b=.ok (c,k,m,first,like,cells):=by rw[<-e];simp only[World.seen,r]
    unfold YU;rw[q];simp only;unfold World.viewStore;simp only[bind,Except.bind,pure,Except.pure,ZS,throwThe,Zz];rw[Za g,d];simp only[j];rw[Za i,o]
 |_=>cases h
def Nl(a v)(m:Mode:=.plain):Rb e (store a v m):=by
 intro x i E A b y hw
 have n:∀(W:pn) P i,(∀z,v≠.agg z)->(∀z,v≠.tuple z)->(store a v m).runT P W i=match Z W a with
   |some _=>if sk W a then(.halt (.unsupported (.unsafePointer "a write to bytes that a string shares")) W,i)else(.ok () (o3 W a v),YV i ⟨.cell a,pw,m == .atomic⟩)
   |none=>match W.farStore P a v (m == .atomic)with
    |.ok (W,l)=>(.ok () W,i++l.toArray.map (⟨.cell ·,pw,m == .atomic⟩))
    |.error x=>(.halt x W,i):=λW P i f g=>by
  cases v<;>first|rfl|exact Zl R (f _)|exact Zl R (g _)
 by_cases f:∀z,v≠.agg z
 case neg=>
  let⟨z,f⟩:=Classical.not_forall.1 f;cases Classical.not_not.1 f;cases b;exact rr R
 by_cases g:∀z,v≠.tuple z
 case neg=>
  let⟨z,g⟩:=Classical.not_forall.1 g;cases Classical.not_not.1 g;cases b;exact rr R
 rw[n _ _ _ f g]at b;cases c:Z x a with
 |some u=>
  rw[c]at b;simp only at b;cases d:sk x a with
  |true=>rw[d]at b;cases b;exact rr R
  |false=>
   rw[d]at b;cases b;let⟨s,C,t,j⟩:=G4 c;have h:=hw.nd j aC aC;have p:Z y a=N u:=by unfold Z at c⊢;rw[hw.4 _ h];exact c
   have r:sk y a=pi:=by unfold sk at d⊢;rw[hw.4 _ h];exact d
   refine rz ⟨R,λw _=>⟨o3 y a v,#[⟨.cell a,pw,m == .atomic⟩],by rw[n _ _ _ f g,p];simp only[r];rfl,?_,λv c=>by simp at c;subst c;exact⟨h,by simp[wd,o3];exact sS j⟩⟩⟩
   have o:∀(q:pn) z,z≠a.1->(o3 q a v).1[z]? =q.1[z]?:=λq z d=>by
    simp only[o3,bD,Za (Ne.symm d)]
   exact hw.put (b:=a.1) (hp:=(o3 x a v).1) (hp':=(o3 y a v).1) h ja ja (o x) (o y) (by simp only[o3,bD,hw.4 _ h]) λB k=>by
    simp only[o3,bD,if_true,j,bJ,aI]at k;subst k;trivial
 |none=>
  rw[c]at b;simp only at b;cases d:x.farStore e.P a v (m == .atomic)with
  |error h=>
   rw[d]at b;cases b;left;unfold YU at d;split at d
   .split at d<;>cases d;rfl
   .cases d;unfold World.noCell;split<;>rfl
  |ok z=>
   obtain⟨I,l⟩:=z;rw[d]at b;cases b;obtain⟨D,H,w,G,f1,r,⟨u,F,B,j⟩,q,rfl,p⟩:=Do d;have h:=hw.nd j aC aC;have k:=hw.nd r aC aC;have o:=p y (hw.4 _ k) (hw.4 _ h);rw[Fv e.1 e.2 e.3]at o;have s:Z y a=X:=by unfold Z at c⊢;rw[hw.4 _ k];exact c
   refine rz ⟨R,λC _=>⟨_,l.toArray.map (⟨.cell ·,pw,m == .atomic⟩),by rw[n _ _ _ f g,s];simp only[o];rfl,hw.set h _ trivial,λv c=>?_⟩⟩;obtain⟨z,t,rfl⟩:=Array.mem_map.1 c;have:=q z (by simpa using t);exact⟨by rw[this];exact h,by rw[this];simp[wd];exact sS j⟩
end
end
section
variable {r:Nat}
section
variable {P:th}{w w' x y:pn}{e:Env}{α:Type}{b:Nat}
def GO{k:Obj->Sem α}(m:(∃s,k (.coro X)=stuck s)/\∀c t,∃s,k (.pending c t)=stuck s)(C:¬e.4 r->∀o,rW e o->Rb e (k o)):Rb e (getObj r >>= k):=by
 intro x b F u a y hw
 have g:∀P (W:pn) b,(getObj r >>= k).runT P W b=match W.1[r]? with
   |some (pj ..)=>(.halt (.stuck "getObj: a row of cells") W,b)
   |some o=>(k o).runT P W (YV b ⟨.obj r,pi,Y2 o⟩)
   |none=>(.halt (.stuck "getObj: no such block") W,b):=λP W b=>by
  show tp P (.getObj r λo=>k o) W b=_
  simp only[tp];cases W.1[r]? with
  |none=>rfl
  |some o=>cases o<;>rfl
 rw[g]at a;cases c:x.1[r]? with
 |none=>rw[c]at a;cases a;exact rr R
 |some o=>
  by_cases hc:∃f t l,o=pj f t l
  .obtain⟨f,t,l,rfl⟩:=hc;rw[c]at a;cases a;exact rr R
  have j:∀P (W:pn) b,W.1[r]? =N o->(getObj r >>= k).runT P W b=(k o).runT P W (YV b ⟨.obj r,pi,Y2 o⟩):=λP W b h=>by
   rw[g,h];cases o<;>first|rfl|exact Zl ⟨_,_,_,R⟩ hc
  by_cases i:e.4 r
  .left;rw[<-g,j _ _ _ c]at a;rcases hw.5 r i with⟨f,t,_,h,_⟩|⟨H,_,h,_⟩<;>rw[h]at c<;>cases c
   .let⟨I,E⟩:=m.2 f t;rw[E]at a;cases a;rfl
   .let⟨I,E⟩:=m.1;rw[E]at a;cases a;rfl
  rw[<-g,j _ _ _ c]at a;have n:=(mono (P:=e.P) (k o) x (YV b ⟨.obj r,pi,Y2 o⟩)).2.2;rw[a]at n;obtain A|⟨B,D⟩:=C i o (hw.6 r o c) x _ F u a y hw
  .exact rr A
  refine rz ⟨B,λw z=>?_⟩;let⟨G,ev,p,q,s⟩:=D (YV w ⟨.obj r,pi,Y2 o⟩) z;refine⟨G,#[⟨.obj r,pi,Y2 o⟩]++ev,by rw[j _ _ _ (oy (hw.4 r i) c),p];simp,q,λv d=>?_⟩;obtain d|d:=qbh.1 d
  .simp at d;subst d;exact aL (sS c) n
  .exact s v d
def kD(o)(i:¬e.4 r)(l:rW e o):Rb e (setObj r o):=by
 intro x a q m b y hw
 have d:∀P (W:pn) a,(setObj r o).runT P W a=match W.1[r]? with
   |some (pj ..)=>(.halt (.stuck "setObj: a row of cells") W,a)
   |some _=>(.ok () { W with heap:=qb W.1 r o },YV a ⟨.obj r,pw,Y2 o⟩)
   |none=>(.halt (.stuck "setObj: no such block") W,a):=λP W a=>R
 rw[d]at b;cases c:x.1[r]? with
 |none=>rw[c]at b;cases b;exact rr R
 |some p=>
  by_cases hc:∃f t g,p=pj f t g
  .obtain⟨f,t,g,rfl⟩:=hc;rw[c]at b;cases b;exact rr R
  have k:∀P (W:pn) a,W.1[r]? =N p->(setObj r o).runT P W a=(.ok () { W with heap:=qb W.1 r o },YV a ⟨.obj r,pw,Y2 o⟩):=λP W a h=>by
   rw[d,h];cases p<;>first|rfl|exact Zl ⟨_,_,_,R⟩ hc
  rw[<-d (e.P) x,k _ _ _ c]at b;cases b;exact rz ⟨R,λn _=>⟨_,#[⟨_,pw,_⟩],k _ _ _ (oy (hw.4 r i) c),hw.set i o l,λv j=>by simp at j;subst j;simp only[Av,wd,eV];exact sS c⟩⟩
def TO{p:Prop}(h:p:=by repeat' first|exact kD _ (by assumption) trivial|((with_reducible refine GO ⟨⟨_,rfl⟩,λ_ _=>⟨_,rfl⟩⟩ λa o _=>?_))|with_reducible exact Zq _|with_reducible refine B ?_ λ_=>?_|with_reducible refine IT ?_ ?_|exact H _|split|(simp;done)|dsimp only|exact B (gC _) λ_=>Zq _):p:=h
def SH{k:Option (TypeId×Nat)->Sem α}(m:∀o,Rb e (k o))(n:e.4 r->∃h,k X=.halt h/\∀w,bad (.halt h w:Result α)=pw):Rb e (shape r >>= k):=by
 intro x a q i b y hw;have g:∀P (W:pn) a,(shape r >>= k).runT P W a=(k (sx W r)).runT P W a:=λP W a=>R;rw[g]at b;by_cases f:e.4 r
 .have:sx x r=X:=by
   unfold sx;rcases hw.5 r f with⟨j,t,d,c,_⟩|⟨l,d,c,_⟩<;>rw[c]
  rw[this]at b;let⟨h,d,c⟩:=n f;rw[d]at b;cases b;exact rr (c _)
 .have:sx y r=sx x r:=by unfold sx;rw[hw.4 r f]
  obtain j|⟨l,o⟩:=m _ x a q i b y hw
  .exact rr j
  refine rz ⟨l,λc d=>?_⟩;rw[g,this];exact o c d
def WP.Sz(hw:WP e x y)(a):sk y a=sk x a:=by
 unfold sk;by_cases d:e.4 a.1
 .rcases hw.5 _ d with⟨g,t,b,c,_⟩|⟨l,b,c,f⟩<;>rw[b,c]
  .simp
  .cases l<;>first|rfl|cases f
 .rw[hw.4 _ d]
def Ja(a):Rb e (frozen a):=by intro x c r d b y hw;cases b;exact rz ⟨R,λf _=>⟨y,#[],by simp only[frozen,tp,hw.Sz,eO];rfl,hw.stay,aC⟩⟩
def Bi(a n)(d:¬e.4 a.1):Rb e (freeze a n):=by
 intro x l r m g y hw;cases g;refine rz ⟨R,λo _=>⟨wv y a n,#[],by simp only[eO];rfl,?_,aC⟩⟩
 show To e x (wv x a n) y (wv y a n)
 by_cases b:n=0
 .subst b;exact hw.stay
 have f:∀(q:pn) z,z≠a.1->(wv q a n).1[z]? =q.1[z]?:=λq z j=>by
  simp only[wv,Za b,bD,Za (Ne.symm j)]
 have h:wv x a n={ x with heap:=(wv x a n).1 }:=by simp only[wv,Za b]
 have i:wv y a n={ y with heap:=(wv y a n).1 }:=by simp only[wv,Za b]
 rw[h,i];refine hw.put (b:=a.1) d (by simp[wv,b]) (by simp[wv,b]) (f x) (f y) (by simp only[wv,Za b,bD,hw.4 _ d]) λs k=>?_;simp only[wv,Za b,bD,if_true]at k;cases c:x.1[a.1]? with
 |none=>rw[c]at k;cases k
 |some p=>
  rw[c]at k;simp only[bJ,aI]at k;have:=hw.6 _ _ c;cases p<;>(subst k;first|trivial|exact this)
def Hh(m)(b:m=.noRoom\/∃f,m=.extern f):Rb e (mark m):=by intro x d r f c y hw;cases c;exact rz ⟨R,λh _=>⟨y,#[⟨_,pi,pw⟩],R,hw.stay,λv a=>by simp at a;subst a;rcases b with rfl|⟨g,rfl⟩<;>trivial⟩⟩
def RD{s}(g:pn->Option α)(f:∀P W a,∃h ev,s.runT P W a=(match g W with|some b=>.ok b W|none=>.halt (.stuck h) W,a++ev)/\∀v∈ev,Av e ↑W v)(n:∀x y,WP e x y->∀a,g x=N a->g y=N a):Rb e s:=by
 intro x j q o a y hw;obtain⟨h,ev,m,_⟩:=f e.P x j;rw[m]at a;cases b:g x with
 |none=>rw[b]at a;cases a;exact rr R
 |some i=>
  rw[b]at a;cases a;refine rz ⟨R,λl _=>?_⟩;let⟨p,k,c,d⟩:=f e.Q y l;rw[hw.3]at d;rw[n x y hw i b]at c;exact⟨y,k,c,hw.stay,d⟩
def Cu(r:Nat)(w:pn):Option (Option (zm×TypeId)):=(w.1[r]?).map fun|.view a t=>N (a,t)|_=>X
def numOf(r:Nat)(w:pn):Option (Option (zm×Bool)):=(w.1[r]?).map fun|.number a t=>N (a,t)|_=>X
def cellsOf(r:Nat)(w:pn):Option (Option Nat):=(w.1[r]?).map fun|pj c _ _=>N c.size|.pending c _=>N c.size|_=>X
def tO(f:Obj->α)(g:∀c t,f (pj c t (0,0))=f (.pending c t))(h:∀o,ghost o=pw->f o=f (.coro X))(hw:WP e x y)(r:Nat):(y.1[r]?).map f=(x.1[r]?).map f:=by
 by_cases a:e.4 r
 .rcases hw.5 r a with⟨d,t,b,c,_⟩|⟨l,b,c,i⟩<;>rw[b,c]
  .exact Zf N (g d t)
  .exact Zf N (h l i)
 .rw[hw.4 r a]
def J5(r):Rb e (viewAt r):=by
 refine RD (Cu r) (λP W i=>?_) λx y hw g d=>ju
 cases a:W.1[r]? with
 |none=>exact⟨ "getObj: no such block",#[],mq,aC⟩
 |some o=>
  cases o with
  |cells c t f=>exact⟨ "",#[],mq,aC⟩
  |_=>exact⟨ "",#[⟨.obj r,pi,_⟩],by simp[viewAt,shape,getObj,bind,yz,tp,sx,Cu,a,pure];rfl,λv b=>by simp at b;subst b;exact sS a⟩
def Du(r):Rb e (numberAt r):=by
 refine RD (numOf r) (λP W i=>?_) λx y hw g d=>ju
 cases a:W.1[r]? with
 |none=>exact⟨ "getObj: no such block",#[],mi,aC⟩
 |some o=>
  cases o with
  |cells c t f=>exact⟨ "",#[],mi,aC⟩
  |_=>exact⟨ "",#[⟨.obj r,pi,_⟩],by simp[numberAt,shape,getObj,bind,yz,tp,sx,numOf,a,pure];rfl,λv b=>by simp at b;subst b;exact sS a⟩
def F5(r):Rb e (cellsIn r):=by
 refine RD (cellsOf r) (λP W i=>?_) λx y hw g d=>ju
 cases a:W.1[r]? with
 |none=>exact⟨ "getObj: no such block",#[],mc,aC⟩
 |some o=>
  cases o with
  |cells c t f=>exact⟨ "",#[],mc,aC⟩
  |_=>exact⟨ "",#[⟨.obj r,pi,_⟩],by simp[cellsIn,shape,getObj,bind,yz,tp,sx,cellsOf,a,pure];rfl,λv b=>by simp at b;subst b;exact sS a⟩
def lM(a:zm)(w:pn):Bool:=sk w a || match sx w a.1 with
 |some (_,n)=>sk w { block:=a.1,off:=n }
 |none=>pi
def vC(hw:WP e x y)(a):lM a y=lM a x:=by
 unfold lM;rw[hw.Sz];by_cases b:e.4 a.1
 .unfold sx sk;rcases hw.5 _ b with⟨g,t,c,d,_⟩|⟨l,c,d,f⟩<;>simp[c,d];cases l<;>first|rfl|cases f
 .have:sx y a.1=sx x a.1:=by unfold sx;rw[hw.4 _ b]
  rw[this];cases sx x a.1 with
  |none=>rfl
  |some p=>simp only[hw.Sz]
def zR(P a W es):(stringish a).runT P W es=(.ok (lM a W) W,es):=by
 simp only[stringish,frozen,shape,bind,yz,tp,lM];cases c:sk W a with
 |true=>simp[tp,pure]
 |false=>cases b:sx W a.1<;>simp[tp,pure,b]
def GC(a b:zm)(w:pn):Bool:=(lM a w&&lM b w) || (lM a w&&(sx w a.1 matches N (_,0))) || (lM b w&&(sx w b.1 matches N (_,0)))
def Dp(a b):Rb e (mayBeOne a b):=by
 refine RD (λw=>N (GC a b w)) (λP W i=>⟨ "",#[],?_,aC⟩) λx y hw g hc=>?_
 .simp only[mayBeOne,shape,runT_bind,zR];simp[tp,pure,GC];rfl
 .rw[<-hc];unfold GC;rw[vC hw a,vC hw b]
  have f:∀a:zm,(lM a x&&(sx y a.1 matches N (_,0)))=(lM a x&&(sx x a.1 matches N (_,0))):=λa=>by
   by_cases c:e.4 a.1
   .have:lM a x=pi:=by
     unfold lM sx sk;rcases hw.5 _ c with⟨g,t,h,d,_⟩|⟨l,h,d,_⟩<;>simp[d]
    rw[this];rfl
   .have:sx y a.1=sx x a.1:=by unfold sx;rw[hw.4 _ c]
    rw[this]
  rw[f a,f b]
end
end
end Po
