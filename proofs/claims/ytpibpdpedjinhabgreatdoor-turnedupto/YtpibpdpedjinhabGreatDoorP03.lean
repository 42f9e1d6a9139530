import Derived.Test.YtpibpdpedjinhabGreatDoorPA
import GoSem.Step
set_option maxRecDepth 100000
set_option linter.all false
open Bool renaming false->aL,true->aR
open Go renaming Addr->eM,Event->jz,Obj->nL,Program->cU,TypeId->cG,Value->X,World->U
open Go.Obj renaming cells->aG
open Go.Sem renaming bind->fY,runT->cS
open Go.World renaming cell?->eB,farStore->lr,freeze->iN,frozen?->iX,setCell->eQ,shape?->gA
open MonadExcept renaming throw->mI
open MonadExceptOf renaming throw->mh
open Option renaming none->Z,some->M
open Or renaming inl->bE,inr->cD
namespace Go.Proofs.YtpibpdpedjinhabGreatDoor
namespace Po
open Go
section
structure Env where
 T:Tables
 F:Array Func
 G:Array Func
 D:Nat->Prop
 C:Code->Prop
abbrev Env.P(e:Env):cU:=⟨e.T,e.F⟩
abbrev Env.Q(e:Env):cU:=⟨e.T,e.G⟩
def ghost:nL->Bool
 |.loop _|.deferred _=>aR
 |_=>aL
def xG(e:Env):nL->Prop
 |.loop l=>e.C l.assign/\e.C l.body/\∀c,l.pending=M c->e.C c
 |.deferred (M ds)=>ds=[]
 |_=>True
structure WP(e:Env)(x y:U):Prop where
 os:y.os=x.os
 output:y.output=x.output
 size:↑y=x.heap.size
 out:∀b:Nat,¬e.D b->y.heap[b]? =x.heap[b]?
 inn:∀b:Nat,e.D b->(∃c t,y.heap[b]? =M (aG c t (0,0))/\x.heap[b]? =M (.pending c t)/\c≠#[])\/∃o,y.heap[b]? =M o/\x.heap[b]? =M (.coro Z)/\ghost o=aR
 objs:∀(b:Nat)(o:nL),x.heap[b]? =M o->xG e o
def Av(e:Env)(n:Nat)(v:jz):Prop:=match v.loc with
 |.cell a=>¬e.D a.block/\a.block<n
 |.obj r=>r<n
 |.mark .noRoom|.mark (.extern _)|.output=>True
 |_=>False
section
variable {α β:Type}{e:Env}{x y x1 y1:U}
def wd:Result α->U
 |.ok _ w|.halt _ w=>w
def put(r:Result α)(w:U):Result α:=match r with
 |.ok a _=>.ok a w
 |.halt h _=>.halt h w
def fine:Result α->Bool
 |.ok ..|.halt (.panic _) _=>aR
 |_=>aL
def bad:Result α->Bool
 |.halt (.stuck _) _|.halt (.unsupported _) _=>aR
 |_=>aL
def Qw{r:Result α}(z:fine r=aR):¬bad r=aR:=by
 cases r with
 |ok a w=>simp[bad]
 |halt h w=>cases h<;>first|(cases z;done)|simp[bad]
structure To(e:Env)(x x1 y y1:U):Prop where
 wp:WP e x1 y1
 tape:y1.tape=y.tape
 drawn:y1.drawn=y.drawn+(x1.drawn-x.drawn)
 dead:∀b:Nat,e.D b->y1.heap[b]? =y.heap[b]?
 still:y1.os=y.os/\y1.output=y.output
def WP.stay(h:WP e x y):To e x x y y:=⟨h,rfl,aC,λ_ _=>rfl,rfl,rfl⟩
def Ans(x x1 y:U):Prop:=∀i,i<x1.drawn-x.drawn->y.tape (y.drawn+i)=x.tape (x.drawn+i)
def Rb(e:Env)(s:Sem α):Prop:=∀x es r z,s.runT e.P x es=(r,z)->∀y,WP e x y->bad r=aR\/fine r=aR/\
 ∀fs,Ans x (wd r) y->∃y1 ev,s.runT e.Q y fs=(put r y1,fs++ev)/\To e x (wd r) y y1/\∀v∈ev,Av e (wd r).heap.size v
def WP.own(hw:WP e x y):WP e x { y with tape:=x.tape,drawn:=x.drawn }:=⟨hw.os,hw.output,hw.size,hw.out,hw.inn,hw.objs⟩
def Av.le{n m:Nat}(h:n<=m){v:jz}(k:Av e n v):Av e m v:=by unfold Av at k⊢;split at k<;>first|exact⟨k.1,aP k.2 h⟩|exact aP k h|trivial|exact k.elim
def X2(a:α):Rb e (pure a:Sem α):=by intro x es r z E y hw;cases E;exact cD ⟨rfl,λfs _=>⟨y,#[],by simp only[iW];rfl,hw.stay,aC⟩⟩
def agS:Halt->Bool
 |.panic _|.stuck _|.unsupported _=>aR
 |_=>aL
def H(h:Halt)(ht:agS h=aR:=by rfl):Rb e (.halt h:Sem α):=by intro x es r z E y hw;cases E;cases h<;>first|(cases ht;done)|exact bE rfl|exact cD ⟨rfl,λfs _=>⟨y,#[],by simp only[iW];rfl,hw.stay,aC⟩⟩
def runT_bind{P:cU}(s:Sem α)(k:α->Sem β):∀(w:U)(es:Array jz),(s >>= k).runT P w es=match s.runT P w es with
  |(.ok a w1,es1)=>(k a).runT P w1 es1
  |(.halt x w1,es1)=>(.halt x w1,es1):=by
 show ∀w es,(s.bind k).runT P w es=_
 induction s with
 |pure a=>intro w es;rfl
 |load m a k' ih=>
  intro w es;simp only[fY,cS];split
  .exact ih _ _ _
  .split
   .exact ih _ _ _
   .rfl
 |store m a v k' ih=>
  intro w es;cases hc:w.cell? a with
  |some u=>cases z:w.frozen? a<;>cases v<;>simp only[fY,cS,hc,z,if_true,bU,if_false]<;>first|rfl|exact ih _ _
  |none=>cases v<;>simp only[fY,cS,hc]<;>first
   |rfl
   |(generalize lr P w a _ _=r
     cases r with
     |error x=>rfl
     |ok y=>obtain⟨y,l⟩:=y;exact ih _ _)
 |new o k' ih|shape r k' ih|frozen a k' ih|sys c k' ih|program k' ih=>intro w es;exact ih _ _ _
 |freeze a n k' ih|mark m k' ih=>intro w es;exact ih _ _
 |getObj r k' ih|setObj r o k' ih=>
  intro w es;simp only[fY,cS];split<;>first|rfl|exact ih _ _ _|exact ih _ _
 |choose q k' ih=>
  intro w es;simp only[fY,cS];split<;>exact ih _ _ _
 |halt h=>intro w es;rfl
def Y5(q:Ask α):∀w:U,(w.ask q).2.heap=w.heap/\(w.ask q).2.tape=w.tape/\w.drawn<=(w.ask q).2.drawn:=by
 induction q with
 |done a=>intro w;exact⟨rfl,rfl,jB⟩
 |ask what range k ih=>
  intro w;unfold World.ask;simp only;split
  .exact ih 0 w
  .obtain⟨z,h2,h3⟩:=ih (Question.cut (.extern what range) (w.tape w.drawn (.extern what range))) { w with drawn:=w.drawn+1 };exact⟨z,h2,by simp only at h3;omega⟩
def EZ{P:cU}{w x:U}{a:eM}{v:X}{b:Bool}{l:List eM}(z:w.farStore P a v b=.ok (x,l)):↑x=w.heap.size/\x.drawn=w.drawn/\x.tape=w.tape:=by
 unfold lr at z;split at z
 .split at z
  .rename_i r E;simp only[Except.ok.injEq]at z;subst z;unfold World.viewStore at E;simp only[bind,Except.bind,pure,Except.pure]at E
   repeat' (split at E)
   all_goals first|(cases E;done)|(simp only[Except.ok.injEq,dJ]at E;obtain⟨rfl,_⟩:=E;simp)
  .cases z
 .cases z
def Mo(x x1:U):Prop:=x.drawn<=x1.drawn/\x1.tape=x.tape/\↑x<=x1.heap.size
def Mo.of{z:U}(h:Mo x x1)(E:z.drawn<=x.drawn)(h2:x.tape=z.tape)(h3:↑z<=x.heap.size):Mo z x1:=⟨bH E h.1,h.2.1.trans h2,bH h3 h.2.2⟩
def mono{P:cU}(s:Sem α):∀(x:U)(es:Array jz),Mo x (wd (s.runT P x es).1):=by
 induction s with
 |pure a=>intro x es;exact⟨jB,rfl,jB⟩
 |halt a=>intro x es;exact⟨jB,rfl,jB⟩
 |load m a k ih=>
  intro x es;simp only[cS];split
  .exact ih _ _ _
  .split
   .exact ih _ _ _
   .exact⟨jB,rfl,jB⟩
 |store m a v k ih=>
  intro x es;cases hc:x.cell? a with
  |some u=>cases z:x.frozen? a<;>cases v<;>simp only[cS,hc,z,if_true,bU,if_false]<;>first|exact⟨jB,rfl,jB⟩|exact(ih _ _).of jB rfl (by simp[eQ])
  |none=>cases v<;>simp only[cS,hc]<;>first
   |exact⟨jB,rfl,jB⟩
   |(cases I:lr P x a _ (m == .atomic)with
     |error h=>exact⟨jB,rfl,jB⟩
     |ok y=>
      obtain⟨y,l⟩:=y;obtain⟨J,h2,h3⟩:=EZ I;exact(ih y _).of (jq h2.symm) h3 (jq J.symm))
 |new o k ih=>intro x es;exact(ih _ _ es).of jB rfl aC
 |shape r k ih|frozen a k ih|program k ih=>intro x es;exact ih _ _ _
 |mark m k ih=>intro x es;exact ih _ _
 |freeze a n k ih=>
  intro x es;refine(ih _ es).of ?_ ?_ ?_<;>(unfold iN;split<;>simp)
 |sys c k ih=>
  intro x es;have h:=Y5 (Kernel.perform c x.os) x;refine(ih _ _ _).of ?_ ?_ ?_<;>(unfold World.sys;split<;>rename_i E<;>(try rw[E]at h)<;>first|exact jB|rfl|exact h.2.2|exact h.2.1|exact jq (Z1 _ h.1.symm))
 |getObj r k ih=>
  intro x es;simp only[cS];split<;>first|exact⟨jB,rfl,jB⟩|exact ih _ _ _
 |setObj r o k ih=>
  intro x es;simp only[cS];split<;>first|exact⟨jB,rfl,jB⟩|exact(ih _ _).of jB rfl aC
 |choose q k ih=>
  intro x es;simp only[cS];split
  .exact ih _ _ _
  .exact(ih _ _ es).of (Nat.le_succ _) rfl jB
def B{s:Sem α}{k:α->Sem β}(hs:Rb e s)(hk:∀a,Rb e (k a)):Rb e (s >>= k):=by
 intro x es r R E y hw;rw[runT_bind]at E;have m0:=mono (P:=e.P) s x es;cases h0:s.runT e.P x es with
 |mk r0 es0=>
 rw[h0]at E m0;cases r0 with
 |halt h x0=>
  cases E;obtain J|⟨hf,hq⟩:=hs x es _ _ h0 y hw
  .exact bE (by revert J;cases h<;>exact id)
  .refine cD ⟨by revert hf;cases h<;>exact id,λfs ha=>?_⟩;obtain⟨y1,ev,b2,z⟩:=hq fs ha;exact⟨y1,ev,by rw[runT_bind,b2];rfl,z⟩
 |ok a x0=>
  simp only at E;have m1:=mono (P:=e.P) (k a) x0 es0;rw[E]at m1;obtain⟨a1,a2,a3⟩:=m0;have c1:x0.drawn<=(wd r).drawn:=m1.1;have c3:x0.heap.size<=(wd r).heap.size:=m1.2.2;simp only[wd]at a1 a2 a3;obtain⟨y',_,_,t',_⟩:=((hs x es _ _ h0 _ hw.own).resolve_left (by simp[bad])).2 #[] λ_ _=>rfl;obtain J|⟨hf,_⟩:=hk a x0 es0 r R E y' t'.wp
  .exact bE J
  refine cD ⟨hf,λfs ha=>?_⟩;obtain⟨y0,ev,b2,z,b4⟩:=((hs x es _ _ h0 y hw).resolve_left (by simp[bad])).2 fs λi hi=>ha i (by have hi:i<x0.drawn-x.drawn:=hi;omega)
  obtain⟨y1,aa,d2,I,d4⟩:=((hk a x0 es0 r R E y0 z.wp).resolve_left (Qw hf)).2 (fs++ev) λi hi=>by
   have:=ha (x0.drawn-x.drawn+i) aA;simp only[wd]at z;rw[z.tape,z.drawn,a2,dV,this,<-dV,Nat.add_sub_cancel' a1]
  have Y:=z.drawn;simp only[wd]at Y b4;refine⟨y1,ev++aa,by rw[runT_bind,b2,<-Array.append_assoc];exact d2,⟨I.wp,I.tape.trans z.tape,by rw[I.drawn,Y];omega,λb J=>(I.dead b J).trans (z.dead b J),I.still.1.trans z.still.1,I.still.2.trans z.still.2⟩,λv hv=>?_⟩;obtain hv|hv:=Array.mem_append.1 hv
  .exact(b4 v hv).le c3
  .exact d4 v hv
def IT{c:Prop}[Decidable c]{s t:Sem α}(h:Rb e s)(k:Rb e t):Rb e (if c then s else t):=by
 split
 .exact h
 .exact k
def PR{k:cU->Sem α}(h:k e.Q=k e.P)(hk:Rb e (k e.P)):Rb e (program >>= k):=by intro x es r z E y hw;have:=hk x es r z E y hw;rw[<-h]at this;exact this
def jU(q:Question):Rb e (choose q):=by
 intro x es r I z y hw;simp only[choose,cS]at z;split at z<;>rename_i E<;>cases z
 .exact cD ⟨rfl,λfs _=>⟨y,#[],by simp only[choose,cS,E,if_true,iW];rfl,hw.stay,aC⟩⟩
 .refine cD ⟨rfl,λfs J=>⟨{ y with drawn:=y.drawn+1 },#[],?_,⟨⟨hw.os,hw.output,hw.size,hw.out,hw.inn,hw.objs⟩,rfl,by simp[wd],λ_ _=>rfl,rfl,rfl⟩,aC⟩⟩;have:=J 0 (by simp[wd]);simp only[Nat.add_zero]at this;simp only[choose,cS,E,if_false,bU,this,iW];rfl
def TB{p:Prop}(h:p:=by repeat' first|with_reducible exact X2 _|with_reducible refine B ?_ λ_=>?_|with_reducible refine IT ?_ ?_|exact H _|split|(simp;done)|dsimp only|exact B (jU _) λ_=>X2 _):p:=h
def TP{p:Prop}(h:p:=by repeat' first|((with_reducible refine PR ?_ ?_);· rfl)|with_reducible exact X2 _|with_reducible refine B ?_ λ_=>?_|with_reducible refine IT ?_ ?_|exact H _|split|(simp;done)|dsimp only|exact B (jU _) λ_=>X2 _):p:=h
def Jh(h:WP e x y){b:Nat}(z:e.D b):b<↑x:=by rcases h.inn b z with⟨c,t,_,h,_⟩|⟨l,_,h,_⟩<;>exact(jE h)
def NB{o:nL}{k:Nat->Sem α}(ho:xG e o)(hk:∀r,¬e.D r->Rb e (k r)):Rb e (newObj o >>= k):=by
 intro x es r J hr y hw;have hd:¬e.D x.heap.size:=λh=>Nat.lt_irrefl _ (Jh hw h)
 have ht:To e x { x with heap:=x.heap.push o } y { y with heap:=y.heap.push o }:=by
  refine⟨⟨hw.os,hw.output,by simp[hw.size],λb z=>?_,λb z=>?_,λb l I=>?_⟩,rfl,aC,λb z=>?_,rfl,rfl⟩
  .simp only[iy,hw.size,hw.out b z]
  .have:=Jh hw z;have hs:=hw.size;simp only[iy,hs,Zs (show ¬b=x.heap.size by omega)];exact hw.inn b z
  .simp only[iy]at I;split at I
   .cases I;exact ho
   .exact hw.objs b l I
  .have:=Jh hw z;simp only[iy,hw.size,Zs (show ¬b=x.heap.size by omega)]
 obtain z|⟨hf,Y⟩:=hk _ hd { x with heap:=x.heap.push o } es r J hr _ ht.wp
 .exact bE z
 refine cD ⟨hf,λfs ha=>?_⟩;obtain⟨y1,ev,R,E,b4⟩:=Y fs ha;refine⟨y1,ev,?_,⟨E.wp,E.tape,E.drawn,λb z=>(E.dead b z).trans (ht.dead b z),E.still⟩,b4⟩;rw[<-hw.size]at R;exact R
end
end
section
section
variable (T:Tables)(F G:Array Func)
def aar(d:Nat):plainCell ⟨T,F⟩ d=plainCell ⟨T,G⟩ d:=by
 induction d with
 |zero=>rfl
 |succ d ih=>funext t o;simp only[plainCell,ih];rfl
def qp(d:Nat):byteOfCell ⟨T,F⟩ d=byteOfCell ⟨T,G⟩ d:=by
 induction d with
 |zero=>rfl
 |succ d ih=>funext t o;simp only[byteOfCell,ih];rfl
def U8(d:Nat):cellHolding ⟨T,F⟩ d=cellHolding ⟨T,G⟩ d:=by
 induction d with
 |zero=>rfl
 |succ d ih=>funext t o;simp only[cellHolding,ih];rfl
def aaZ(d:Nat):tight ⟨T,F⟩ d=tight ⟨T,G⟩ d:=by
 induction d with
 |zero=>rfl
 |succ d ih=>funext t;simp only[tight,ih];rfl
def MC(c:Array X)(t:cG)(f:Nat):seenCells ⟨T,F⟩ c t f=seenCells ⟨T,G⟩ c t f:=by
 induction f with
 |zero=>rfl
 |succ f ih=>funext x s;simp only[seenCells,ih,U8 T F G];rfl
def Ye(w:U)(a:eM)(u:cG)(k:eM)(b:Bool):w.seen ⟨T,F⟩ a u k b=w.seen ⟨T,G⟩ a u k b:=by simp only[World.seen,aar T F G,qp T F G,MC T F G];rfl
def SC(w:U)(a:eM)(b:Bool):w.farLoad ⟨T,F⟩ a b=w.farLoad ⟨T,G⟩ a b:=by simp only[World.farLoad,World.viewLoad,Ye T F G]
def Ob(w:U)(a:eM)(v:X)(b:Bool):w.farStore ⟨T,F⟩ a v b=w.farStore ⟨T,G⟩ a v b:=by simp only[lr,World.viewStore,Ye T F G,aaZ T F G];rfl
end
section
variable {P:cU}{w:U}
def seen_cells{x:eM}{u:cG}{k:eM}{b:Bool}{y}(h:w.seen P x u k b=.ok y):∃c t f,w.heap[x.block]? =M (aG c t f):=by
 unfold World.seen at h;simp only[bind,Except.bind,mI,throwThe,mh,pure,Except.pure]at h
 repeat' split at h
 all_goals first|(cases h;done)|exact⟨_,_,_,‹w.heap[x.block]? =M _›⟩
end
end
section
variable {v:X}
section
variable {P:cU}{w w' x y:U}{e:Env}{α:Type}{b:Nat}
def WP.nd(h:WP e x y){o:nL}(z:x.heap[b]? =M o)(E:∀c t,o≠.pending c t)(h2:o≠.coro Z):¬e.D b:=λhd=>by
 rcases h.inn b hd with⟨c,t,_,k,_⟩|⟨l,_,k,_⟩<;>rw[k]at z<;>cases z
 .exact E _ _ rfl
 .exact h2 rfl
def N8{a:eM}{b:Bool}{l:List eM}(h:w.farLoad P a b=.ok (v,l)):∃x u,w.heap[a.block]? =M (.view x u)/\(∃c t f,w.heap[x.block]? =M (aG c t f))/\(∀z∈l,z.block=x.block)/\∀w':U,w'.heap[a.block]? =w.heap[a.block]?->w'.heap[x.block]? =w.heap[x.block]?->w'.farLoad P a b=.ok (v,l):=by
 have I:=h;unfold World.farLoad at h;split at h
 .rename_i x u E
  have key:∀w':U,w'.heap[a.block]? =w.heap[a.block]?->w'.heap[x.block]? =w.heap[x.block]?->w'.farLoad P a b=.ok (v,l):=λw' k1 R=>by
   rw[<-I];unfold World.farLoad;rw[k1,E];simp only[World.viewLoad,World.seen,R]
  refine⟨x,u,E,?_,?_,key⟩<;>
  .unfold World.viewLoad at h;simp only[bind,Except.bind,pure,Except.pure,mI,throwThe,mh]at h;cases hs:w.seen P x u a b with
   |error y=>rw[hs]at h;cases h
   |ok y=>
    first
    |exact seen_cells hs
    |(obtain⟨c,t,fr,first,like,cells⟩:=y
      rw[hs]at h;simp only at h;generalize like.ofBytes _=ob at h;cases ob with
      |none=>cases h
      |some z=>
       simp only[Except.ok.injEq,dJ]at h;obtain⟨_,rfl⟩:=h;intro y J;obtain⟨q,_,rfl⟩:=bM.1 J;rfl)
 .cases h
def QS{a:eM}(h:w.cell? a=M v):∃c t f,w.heap[a.block]? =M (aG c t f):=by
 unfold eB at h;split at h
 .exact⟨_,_,_,‹_›⟩
 .cases h
def xZ{o:nL}(h:w.heap[b]? =M o):b<↑w:=(jE h)
def Iw(a:eM)(m:Mode:=.plain):Rb e (load a m):=by
 intro x es r af I y hw;simp only[load,cS]at I;cases E:x.cell? a with
 |some v=>
  rw[E]at I;cases I;obtain⟨c,t,f,Y⟩:=QS E;have hd:=hw.nd Y aC aC;have R:y.cell? a=M v:=by unfold eB at E⊢;rw[hw.out _ hd];exact E
  exact cD ⟨rfl,λfs _=>⟨y,#[⟨.cell a,aL,m == .atomic⟩],by simp only[load,cS,R];rfl,hw.stay,λv E=>by simp at E;subst E;exact⟨hd,xZ Y⟩⟩⟩
 |none=>
  rw[E]at I;simp only at I;cases J:x.farLoad e.P a (m == .atomic)with
  |error h=>
   rw[J]at I;cases I;left;unfold World.farLoad at J;split at J
   .split at J<;>cases J;rfl
   .cases J;unfold World.noCell;split<;>rfl
  |ok z=>
   obtain⟨v,l⟩:=z;rw[J]at I;cases I;obtain⟨p,u,hp,⟨c,t,f,Y⟩,hm,aa⟩:=N8 J;have hd:=hw.nd Y aC aC;have ac:=hw.nd hp aC aC
   have ae:y.farLoad e.Q a (m == .atomic)=.ok (v,l):=by
    rw[SC e.T e.G e.F];exact aa y (hw.out _ ac) (hw.out _ hd)
   have R:y.cell? a=Z:=by unfold eB at E⊢;rw[hw.out _ ac];exact E
   refine cD ⟨rfl,λfs _=>⟨y,l.toArray.map (⟨.cell ·,aL,m == .atomic⟩),by simp only[load,cS,R,ae];rfl,hw.stay,λv E=>?_⟩⟩;obtain⟨z,hz,rfl⟩:=Array.mem_map.1 E;have:=hm z (by simpa using hz);exact⟨by rw[this];exact hd,by rw[this];exact xZ Y⟩
end
end
section
section
variable {P:cU}{w w' x y:U}{e:Env}{α:Type}{b:Nat}
def WP.put(h:WP e x y)(R:¬e.D b){hp hp':Array nL}(hs:hp.size=x.heap.size)(I:hp'.size=y.heap.size)(J:∀z,z≠b->hp[z]? =x.heap[z]?)(h2:∀z,z≠b->hp'[z]? =y.heap[z]?)(h3:hp'[b]? =hp[b]?)(Y:∀o,hp[b]? =M o->xG e o):To e x { x with heap:=hp } y { y with heap:=hp' }:=by
 refine⟨⟨h.os,h.output,by show hp'.size=hp.size;rw[hs,I,h.size],λz E=>?_,λz E=>?_,λz l E=>?_⟩,rfl,aC,λz E=>h2 z λk=>R (k ▸ E),rfl,rfl⟩
 .show hp'[z]? =hp[z]?
  by_cases k:z=b
  .subst k;exact h3
  .rw[J z k,h2 z k];exact h.out z E
 .show(∃c t,hp'[z]? =_/\hp[z]? =_/\_)\/∃o,hp'[z]? =M o/\hp[z]? =_/\_
  rw[J z λk=>R (k ▸ E),h2 z λk=>R (k ▸ E)];exact h.inn z E
 .have E:hp[z]? =M l:=E;by_cases k:z=b
  .subst k;exact Y _ E
  .rw[J z k]at E;exact h.objs z l E
def WP.set(h:WP e x y)(I:¬e.D b)(o:nL)(E:xG e o):To e x { x with heap:=x.heap.setIfInBounds b o } y { y with heap:=y.heap.setIfInBounds b o }:=
 h.put I aC aC (λz k=>dZ (Ne.symm k)) (λz k=>dZ (Ne.symm k)) (by simp[aV,h.size]) λo' k=>by
  rw[aV]at k;simp only[if_true]at k;split at k<;>cases k;exact E
def JZ{w1:U}{a:eM}{v:X}{b:Bool}{l:List eM}(h:w.farStore P a v b=.ok (w1,l)):∃x u c t f,w.heap[a.block]? =M (.view x u)/\(∃c t f,w.heap[x.block]? =M (aG c t f))/\(∀z∈l,z.block=x.block)/\w1={ w with heap:=w.heap.setIfInBounds x.block (aG c t f) }/\∀w':U,w'.heap[a.block]? =w.heap[a.block]?->w'.heap[x.block]? =w.heap[x.block]?->w'.farStore P a v b=.ok ({ w' with heap:=w'.heap.setIfInBounds x.block (aG c t f) },l):=by
 unfold lr at h;cases h4:w.heap[a.block]? with
 |none=>rw[h4]at h;cases h
 |some ob=>
 rw[h4]at h;cases ob with
 |view x u=>
  simp only at h;unfold World.viewStore at h;simp only[bind,Except.bind,pure,Except.pure,mI,throwThe,mh]at h;by_cases J:(!tight P P.depth u)=aR
  .rw[ZD J]at h;cases h
  rw[Zs J]at h;cases hs:w.seen P x u a b with
  |error _=>rw[hs]at h;cases h
  |ok y=>
  have hc:=seen_cells hs;obtain⟨c,R,fr,first,like,cells⟩:=y;rw[hs]at h;simp only at h;cases I:v.bytes? with
  |none=>rw[I]at h;cases h
  |some bs=>
  rw[I]at h;simp only at h;by_cases h2:M bs.length≠Option.map (λx=>x.length) like.bytes?
  .rw[ZD h2]at h;cases h
  rw[Zs h2]at h;generalize Y:(List.foldlM _ c cells:Except String (Array X))=r at h;cases r with
  |error _=>cases h
  |ok d=>
   simp only[Except.ok.injEq,dJ]at h;obtain⟨rfl,rfl⟩:=h;refine⟨x,u,d,R,fr,rfl,hc,λz hz=>?_,rfl,λw' k1 k2=>?_⟩
   .obtain⟨q,_,rfl⟩:=bM.1 hz;rfl
   .have E:w'.seen P x u a b=.ok (c,R,fr,first,like,cells):=by rw[<-hs];simp only[World.seen,k2]
    unfold lr;rw[k1];simp only;unfold World.viewStore;simp only[bind,Except.bind,pure,Except.pure,mI,throwThe,mh];rw[Zs J,E];simp only[I];rw[Zs h2,Y]
 |_=>cases h
def YC{a:eM}{v:X}(m:Mode:=.plain):Rb e (store a v m):=by
 intro x es r ah E y hw
 have ns:∀(W:U) P es,(∀z,v≠.agg z)->(∀z,v≠.tuple z)->(store a v m).runT P W es=match W.cell? a with
   |some _=>if W.frozen? a then(.halt (.unsupported (.unsafePointer "a write to bytes that a string shares")) W,es)else(.ok () (W.setCell a v),es.push ⟨.cell a,aR,m == .atomic⟩)
   |none=>match W.farStore P a v (m == .atomic)with
    |.ok (W,l)=>(.ok () W,es++l.toArray.map (⟨.cell ·,aR,m == .atomic⟩))
    |.error x=>(.halt x W,es):=λW P es k1 Y=>by
  cases v<;>first|rfl|exact Xs rfl (k1 _)|exact Xs rfl (Y _)
 by_cases k1:∀z,v≠.agg z
 case neg=>
  obtain⟨z,k1⟩:=Classical.not_forall.1 k1;cases Classical.not_not.1 k1;cases E;exact bE rfl
 by_cases Y:∀z,v≠.tuple z
 case neg=>
  obtain⟨z,Y⟩:=Classical.not_forall.1 Y;cases Classical.not_not.1 Y;cases E;exact bE rfl
 rw[ns _ _ _ k1 Y]at E;cases I:x.cell? a with
 |some u=>
  rw[I]at E;simp only at E;cases J:x.frozen? a with
  |true=>rw[J]at E;cases E;exact bE rfl
  |false=>
   rw[J]at E;cases E;obtain⟨c,t,f,hb⟩:=QS I;have hd:=hw.nd hb aC aC;have aa:y.cell? a=M u:=by unfold eB at I⊢;rw[hw.out _ hd];exact I
   have ag:y.frozen? a=aL:=by unfold iX at J⊢;rw[hw.out _ hd];exact J
   refine cD ⟨rfl,λfs _=>⟨y.setCell a v,#[⟨.cell a,aR,m == .atomic⟩],by rw[ns _ _ _ k1 Y,aa];simp only[ag];rfl,?_,λv I=>by simp at I;subst I;exact⟨hd,by simp[wd,eQ];exact xZ hb⟩⟩⟩
   have key:∀(q:U) z,z≠a.block->(q.setCell a v).heap[z]? =q.heap[z]?:=λq z J=>by
    simp only[eQ,bT,Zs (Ne.symm J)]
   exact hw.put (b:=a.block) (hp:=(x.setCell a v).heap) (hp':=(y.setCell a v).heap) hd (by simp[eQ]) (by simp[eQ]) (key x) (key y) (by simp only[eQ,bT,hw.out _ hd]) λo k=>by
    simp only[eQ,bT,if_true,hb,cO,aK]at k;subst k;trivial
 |none=>
  rw[I]at E;simp only at E;cases R:x.farStore e.P a v (m == .atomic)with
  |error h=>
   rw[R]at E;cases E;left;unfold lr at R;split at R
   .split at R<;>cases R;rfl
   .cases R;unfold World.noCell;split<;>rfl
  |ok z=>
   obtain⟨x1,l⟩:=z;rw[R]at E;cases E;obtain⟨p,u,c1,t1,f1,hp,⟨c,t,f,hb⟩,hm,rfl,ae⟩:=JZ R;have hd:=hw.nd hb aC aC;have af:=hw.nd hp aC aC;have ac:=ae y (hw.out _ af) (hw.out _ hd);rw[Ob e.T e.F e.G]at ac;have aa:y.cell? a=Z:=by unfold eB at I⊢;rw[hw.out _ af];exact I
   refine cD ⟨rfl,λfs _=>⟨_,l.toArray.map (⟨.cell ·,aR,m == .atomic⟩),by rw[ns _ _ _ k1 Y,aa];simp only[ac];rfl,hw.set hd _ trivial,λv I=>?_⟩⟩;obtain⟨z,J,rfl⟩:=Array.mem_map.1 I;have:=hm z (by simpa using J);exact⟨by rw[this];exact hd,by rw[this];simp[wd];exact xZ hb⟩
end
end
section
variable {r:Nat}
section
variable {P:cU}{w w' x y:U}{e:Env}{α:Type}{b:Nat}
def GO{k:nL->Sem α}(Y:(∃s,k (.coro Z)=stuck s)/\∀c t,∃s,k (.pending c t)=stuck s)(hk:¬e.D r->∀o,xG e o->Rb e (k o)):Rb e (getObj r >>= k):=by
 intro x es q R z y hw
 have E:∀P (W:U) es,(getObj r >>= k).runT P W es=match W.heap[r]? with
   |some (aG ..)=>(.halt (.stuck "getObj: a row of cells") W,es)
   |some o=>(k o).runT P W (es.push ⟨.obj r,aL,o.isChan⟩)
   |none=>(.halt (.stuck "getObj: no such block") W,es):=λP W es=>by
  show cS P (.getObj r λo=>k o) W es=_
  simp only[cS];cases W.heap[r]? with
  |none=>rfl
  |some o=>cases o<;>rfl
 rw[E]at z;cases ho:x.heap[r]? with
 |none=>rw[ho]at z;cases z;exact bE rfl
 |some o=>
  by_cases hc:∃c t f,o=aG c t f
  .obtain⟨c,t,f,rfl⟩:=hc;rw[ho]at z;cases z;exact bE rfl
  have I:∀P (W:U) es,W.heap[r]? =M o->(getObj r >>= k).runT P W es=(k o).runT P W (es.push ⟨.obj r,aL,o.isChan⟩):=λP W es h=>by
   rw[E,h];cases o<;>first|rfl|exact Xs ⟨_,_,_,rfl⟩ hc
  by_cases hd:e.D r
  .left;rw[<-E,I _ _ _ ho]at z;rcases hw.inn r hd with⟨c,t,_,h,_⟩|⟨l,_,h,_⟩<;>rw[h]at ho<;>cases ho
   .obtain⟨s,hs⟩:=Y.2 c t;rw[hs]at z;cases z;rfl
   .obtain⟨s,hs⟩:=Y.1;rw[hs]at z;cases z;rfl
  rw[<-E,I _ _ _ ho]at z;have hm:=(mono (P:=e.P) (k o) x (es.push ⟨.obj r,aL,o.isChan⟩)).2.2;rw[z]at hm;obtain hb|⟨hf,hq⟩:=hk hd o (hw.objs r o ho) x _ q R z y hw
  .exact bE hb
  refine cD ⟨hf,λfs ha=>?_⟩;obtain⟨y1,ev,b2,b3,b4⟩:=hq (fs.push ⟨.obj r,aL,o.isChan⟩) ha;refine⟨y1,#[⟨.obj r,aL,o.isChan⟩]++ev,by rw[I _ _ _ ((hw.out r hd).trans ho),b2];simp,b3,λv J=>?_⟩;obtain J|J:=Array.mem_append.1 J
  .simp at J;subst J;exact aP (xZ ho) hm
  .exact b4 v J
def nM{o:nL}(hd:¬e.D r)(ho:xG e o):Rb e (setObj r o):=by
 intro x es q R E y hw
 have z:∀P (W:U) es,(setObj r o).runT P W es=match W.heap[r]? with
   |some (aG ..)=>(.halt (.stuck "setObj: a row of cells") W,es)
   |some _=>(.ok () { W with heap:=W.heap.setIfInBounds r o },es.push ⟨.obj r,aR,o.isChan⟩)
   |none=>(.halt (.stuck "setObj: no such block") W,es):=λP W es=>rfl
 rw[z]at E;cases hp:x.heap[r]? with
 |none=>rw[hp]at E;cases E;exact bE rfl
 |some p=>
  by_cases hc:∃c t f,p=aG c t f
  .obtain⟨c,t,f,rfl⟩:=hc;rw[hp]at E;cases E;exact bE rfl
  have I:∀P (W:U) es,W.heap[r]? =M p->(setObj r o).runT P W es=(.ok () { W with heap:=W.heap.setIfInBounds r o },es.push ⟨.obj r,aR,o.isChan⟩):=λP W es h=>by
   rw[z,h];cases p<;>first|rfl|exact Xs ⟨_,_,_,rfl⟩ hc
  rw[<-z (e.P) x,I _ _ _ hp]at E;cases E;exact cD ⟨rfl,λfs _=>⟨_,#[⟨_,aR,_⟩],I _ _ _ ((hw.out r hd).trans hp),hw.set hd o ho,λv J=>by simp at J;subst J;simp only[Av,wd,jh];exact xZ hp⟩⟩
def TO{p:Prop}(h:p:=by repeat' first|exact nM (by assumption) trivial|((with_reducible refine GO ⟨⟨_,rfl⟩,λ_ _=>⟨_,rfl⟩⟩ λhd o _=>?_))|with_reducible exact X2 _|with_reducible refine B ?_ λ_=>?_|with_reducible refine IT ?_ ?_|exact H _|split|(simp;done)|dsimp only|exact B (jU _) λ_=>X2 _):p:=h
def SH{k:Option (cG×Nat)->Sem α}(hk:∀o,Rb e (k o))(hn:e.D r->∃h,k Z=.halt h/\∀w,bad (.halt h w:Result α)=aR):Rb e (shape r >>= k):=by
 intro x es q I E y hw;have z:∀P (W:U) es,(shape r >>= k).runT P W es=(k (W.shape? r)).runT P W es:=λP W es=>rfl;rw[z]at E;by_cases hd:e.D r
 .have:x.shape? r=Z:=by
   unfold gA;rcases hw.inn r hd with⟨c,t,J,h2,_⟩|⟨l,J,h2,_⟩<;>rw[h2]
  rw[this]at E;obtain⟨h,J,h2⟩:=hn hd;rw[J]at E;cases E;exact bE (h2 _)
 .have:y.shape? r=x.shape? r:=by unfold gA;rw[hw.out r hd]
  obtain R|⟨hf,Y⟩:=hk _ x es q I E y hw
  .exact bE R
  refine cD ⟨hf,λfs ha=>?_⟩;rw[z,this];exact Y fs ha
def WP.acK(hw:WP e x y)(a:eM):y.frozen? a=x.frozen? a:=by
 unfold iX;by_cases hd:e.D a.block
 .rcases hw.inn _ hd with⟨c,t,z,h2,_⟩|⟨l,z,h2,h3⟩<;>rw[z,h2]
  .simp
  .cases l<;>first|rfl|cases h3
 .rw[hw.out _ hd]
def TT(a:eM):Rb e (frozen a):=by intro x es r z E y hw;cases E;exact cD ⟨rfl,λfs _=>⟨y,#[],by simp only[frozen,cS,hw.acK,iW];rfl,hw.stay,aC⟩⟩
def Gz(a:eM)(n:Nat)(hd:¬e.D a.block):Rb e (freeze a n):=by
 intro x es r I Y y hw;cases Y;refine cD ⟨rfl,λfs _=>⟨y.freeze a n,#[],by simp only[iW];rfl,?_,aC⟩⟩
 show To e x (x.freeze a n) y (y.freeze a n)
 by_cases E:n=0
 .subst E;exact hw.stay
 have key:∀(q:U) z,z≠a.block->(q.freeze a n).heap[z]? =q.heap[z]?:=λq z J=>by
  simp only[iN,Zs E,bT,Zs (Ne.symm J)]
 have hx:x.freeze a n={ x with heap:=(x.freeze a n).heap }:=by simp only[iN,Zs E]
 have R:y.freeze a n={ y with heap:=(y.freeze a n).heap }:=by simp only[iN,Zs E]
 rw[hx,R];refine hw.put (b:=a.block) hd (by simp[iN,E]) (by simp[iN,E]) (key x) (key y) (by simp only[iN,Zs E,bT,hw.out _ hd]) λo k=>?_;simp only[iN,Zs E,bT,if_true]at k;cases ho:x.heap[a.block]? with
 |none=>rw[ho]at k;cases k
 |some p=>
  rw[ho]at k;simp only[cO,aK]at k;have:=hw.objs _ _ ho;cases p<;>(subst k;first|trivial|exact this)
def Rk(m:Mark)(E:m=.noRoom\/∃f,m=.extern f):Rb e (mark m):=by intro x es r I J y hw;cases J;exact cD ⟨rfl,λfs _=>⟨y,#[⟨_,aL,aR⟩],rfl,hw.stay,λv z=>by simp at z;subst z;rcases E with rfl|⟨f,rfl⟩<;>trivial⟩⟩
def RD{s:Sem α}(g:U->Option α)(hs:∀P W es,∃h ev,s.runT P W es=(match g W with|some a=>.ok a W|none=>.halt (.stuck h) W,es++ev)/\∀v∈ev,Av e ↑W v)(J:∀x y,WP e x y->∀a,g x=M a->g y=M a):Rb e s:=by
 intro x es q R z y hw;obtain⟨h,ev,Y,_⟩:=hs e.P x es;rw[Y]at z;cases E:g x with
 |none=>rw[E]at z;cases z;exact bE rfl
 |some a=>
  rw[E]at z;cases z;refine cD ⟨rfl,λfs _=>?_⟩;obtain⟨h',I,h2,h3⟩:=hs e.Q y fs;rw[hw.size]at h3;rw[J x y hw a E]at h2;exact⟨y,I,h2,hw.stay,h3⟩
def I8(r:Nat)(w:U):Option (Option (eM×cG)):=(w.heap[r]?).map fun|.view a t=>M (a,t)|_=>Z
def numOf(r:Nat)(w:U):Option (Option (eM×Bool)):=(w.heap[r]?).map fun|.number a t=>M (a,t)|_=>Z
def cellsOf(r:Nat)(w:U):Option (Option Nat):=(w.heap[r]?).map fun|aG c _ _=>M c.size|.pending c _=>M c.size|_=>Z
def yF{f:nL->α}(I:∀c t,f (aG c t (0,0))=f (.pending c t))(h2:∀o,ghost o=aR->f o=f (.coro Z))(hw:WP e x y)(r:Nat):(y.heap[r]?).map f=(x.heap[r]?).map f:=by
 by_cases hd:e.D r
 .rcases hw.inn r hd with⟨c,t,k1,z,_⟩|⟨l,k1,z,E⟩<;>rw[k1,z]
  .exact Z1 M (I c t)
  .exact Z1 M (h2 l E)
 .rw[hw.out r hd]
def U4(r:Nat):Rb e (viewAt r):=by
 refine RD (I8 r) (λP W es=>?_) λx y hw a E=>by rw[<-E];exact yF (λ_ _=>rfl) (λo h=>by cases o<;>first|rfl|cases h) hw r
 cases ho:W.heap[r]? with
 |none=>exact⟨ "getObj: no such block",#[],by simp[viewAt,shape,getObj,bind,fY,cS,gA,I8,ho,pure],aC⟩
 |some o=>
  cases o with
  |cells c t f=>exact⟨ "",#[],by simp[viewAt,shape,getObj,bind,fY,cS,gA,I8,ho,pure],aC⟩
  |_=>exact⟨ "",#[⟨.obj r,aL,_⟩],by simp[viewAt,shape,getObj,bind,fY,cS,gA,I8,ho,pure];rfl,λv z=>by simp at z;subst z;exact xZ ho⟩
def J8(r:Nat):Rb e (numberAt r):=by
 refine RD (numOf r) (λP W es=>?_) λx y hw a E=>by rw[<-E];exact yF (λ_ _=>rfl) (λo h=>by cases o<;>first|rfl|cases h) hw r
 cases ho:W.heap[r]? with
 |none=>exact⟨ "getObj: no such block",#[],by simp[numberAt,shape,getObj,bind,fY,cS,gA,numOf,ho,pure],aC⟩
 |some o=>
  cases o with
  |cells c t f=>exact⟨ "",#[],by simp[numberAt,shape,getObj,bind,fY,cS,gA,numOf,ho,pure],aC⟩
  |_=>exact⟨ "",#[⟨.obj r,aL,_⟩],by simp[numberAt,shape,getObj,bind,fY,cS,gA,numOf,ho,pure];rfl,λv z=>by simp at z;subst z;exact xZ ho⟩
def Pn(r:Nat):Rb e (cellsIn r):=by
 refine RD (cellsOf r) (λP W es=>?_) λx y hw a E=>by rw[<-E];exact yF (λ_ _=>rfl) (λo h=>by cases o<;>first|rfl|cases h) hw r
 cases ho:W.heap[r]? with
 |none=>exact⟨ "getObj: no such block",#[],by simp[cellsIn,shape,getObj,bind,fY,cS,gA,cellsOf,ho,pure],aC⟩
 |some o=>
  cases o with
  |cells c t f=>exact⟨ "",#[],by simp[cellsIn,shape,getObj,bind,fY,cS,gA,cellsOf,ho,pure],aC⟩
  |_=>exact⟨ "",#[⟨.obj r,aL,_⟩],by simp[cellsIn,shape,getObj,bind,fY,cS,gA,cellsOf,ho,pure];rfl,λv z=>by simp at z;subst z;exact xZ ho⟩
def oU(a:eM)(w:U):Bool:=w.frozen? a || match w.shape? a.block with
 |some (_,n)=>w.frozen? { block:=a.block,off:=n }
 |none=>aL
def zY(hw:WP e x y)(a:eM):oU a y=oU a x:=by
 unfold oU;rw[hw.acK];by_cases hd:e.D a.block
 .unfold gA iX;rcases hw.inn _ hd with⟨c,t,k1,z,_⟩|⟨l,k1,z,E⟩<;>simp[k1,z];cases l<;>first|rfl|cases E
 .have:y.shape? a.block=x.shape? a.block:=by unfold gA;rw[hw.out _ hd]
  rw[this];cases x.shape? a.block with
  |none=>rfl
  |some p=>simp only[hw.acK]
def EU(P:cU)(a:eM)(W:U)(es:Array jz):(stringish a).runT P W es=(.ok (oU a W) W,es):=by
 simp only[stringish,frozen,shape,bind,fY,cS,oU];cases z:W.frozen? a with
 |true=>simp[cS,pure]
 |false=>cases hs:W.shape? a.block<;>simp[cS,pure,hs]
def Qm(a b:eM)(w:U):Bool:=(oU a w&&oU b w) || (oU a w&&(w.shape? a.block matches M (_,0))) || (oU b w&&(w.shape? b.block matches M (_,0)))
def J5(a b:eM):Rb e (mayBeOne a b):=by
 refine RD (λw=>M (Qm a b w)) (λP W es=>⟨ "",#[],?_,aC⟩) λx y hw c hc=>?_
 .simp only[mayBeOne,shape,runT_bind,EU];simp[cS,pure,Qm];rfl
 .rw[<-hc];unfold Qm;rw[zY hw a,zY hw b]
  have key:∀a:eM,(oU a x&&(y.shape? a.block matches M (_,0)))=(oU a x&&(x.shape? a.block matches M (_,0))):=λa=>by
   by_cases hd:e.D a.block
   .have:oU a x=aL:=by
     unfold oU gA iX;rcases hw.inn _ hd with⟨c,t,k1,z,_⟩|⟨l,k1,z,_⟩<;>simp[z]
    rw[this];rfl
   .have:y.shape? a.block=x.shape? a.block:=by unfold gA;rw[hw.out _ hd]
    rw[this]
  rw[key a,key b]
end
end
end Po
