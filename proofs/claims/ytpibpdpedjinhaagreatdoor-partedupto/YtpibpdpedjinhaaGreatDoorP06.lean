import Derived.Test.YtpibpdpedjinhaaGreatDoorPA
import GoSem.Step
set_option maxRecDepth 100000
namespace Go.Proofs.YtpibpdpedjinhaaGreatDoor
namespace Po
open Go
section
structure Env where
 T:Tables
 F:Array Func
 G:Array Func
 D:Nat->Prop
 C:Code->Prop
abbrev Env.P(e:Env):Program:=⟨e.T,e.F⟩
abbrev Env.Q(e:Env):Program:=⟨e.T,e.G⟩
def ghost:Obj->Bool
 |.loop _|.deferred _=>true
 |_=>false
def wR(e:Env):Obj->Prop
 |.loop l=>e.C l.assign/\e.C l.body/\∀c,l.pending=some c->e.C c
 |.deferred (some ds)=>ds=[]
 |_=>True
structure WP(e:Env)(x y:World):Prop where
 os:y.os=x.os
 output:y.output=x.output
 size:y.heap.size=x.heap.size
 out:∀b:Nat,¬e.D b->y.heap[b]? =x.heap[b]?
 inn:∀b:Nat,e.D b->(∃c t,y.heap[b]? =some (.cells c t (0,0))/\x.heap[b]? =some (.pending c t)/\c≠#[])\/∃o,y.heap[b]? =some o/\x.heap[b]? =some (.coro none)/\ghost o=true
 objs:∀(b:Nat)(o:Obj),x.heap[b]? =some o->wR e o
def Av(e:Env)(n:Nat)(v:Event):Prop:=match v.loc with
 |.cell a=>¬e.D a.block/\a.block<n
 |.obj r=>r<n
 |.mark .noRoom|.mark (.extern _)|.output=>True
 |_=>False
section
variable {α β:Type}{e:Env}{x y x1 y1:World}
def wd:Result α->World
 |.ok _ w|.halt _ w=>w
def put(r:Result α)(w:World):Result α:=match r with
 |.ok a _=>.ok a w
 |.halt h _=>.halt h w
def fine:Result α->Bool
 |.ok ..|.halt (.panic _) _=>true
 |_=>false
def bad:Result α->Bool
 |.halt (.stuck _) _|.halt (.unsupported _) _=>true
 |_=>false
theorem NQ{r:Result α}(z:fine r=true):¬bad r=true:=by
 cases r with
 |ok a w=>simp[bad]
 |halt h w=>cases h<;>first|(cases z;done)|simp[bad]
structure To(e:Env)(x x1 y y1:World):Prop where
 wp:WP e x1 y1
 tape:y1.tape=y.tape
 drawn:y1.drawn=y.drawn+(x1.drawn-x.drawn)
 dead:∀b:Nat,e.D b->y1.heap[b]? =y.heap[b]?
 still:y1.os=y.os/\y1.output=y.output
theorem WP.stay(h:WP e x y):To e x x y y:=⟨h,rfl,by simp,λ_ _=>rfl,rfl,rfl⟩
def Ans(x x1 y:World):Prop:=∀i,i<x1.drawn-x.drawn->y.tape (y.drawn+i)=x.tape (x.drawn+i)
def Rb(e:Env)(s:Sem α):Prop:=∀x es r z,s.runT e.P x es=(r,z)->∀y,WP e x y->bad r=true\/fine r=true/\
 ∀fs,Ans x (wd r) y->∃y1 ev,s.runT e.Q y fs=(put r y1,fs++ev)/\To e x (wd r) y y1/\∀v∈ev,Av e (wd r).heap.size v
theorem WP.own(hw:WP e x y):WP e x { y with tape:=x.tape,drawn:=x.drawn }:=⟨hw.os,hw.output,hw.size,hw.out,hw.inn,hw.objs⟩
theorem Av.le{n m:Nat}(h:n<=m){v:Event}(k:Av e n v):Av e m v:=by
 unfold Av at k⊢;split at k<;>first|exact⟨k.1,aH k.2 h⟩|exact aH k h|trivial|exact k.elim
theorem U(a:α):Rb e (pure a:Sem α):=by
 intro x es r z E y hw;cases E;exact .inr ⟨rfl,λfs _=>⟨y,#[],by simp only[iU];rfl,hw.stay,by simp⟩⟩
def acn:Halt->Bool
 |.panic _|.stuck _|.unsupported _=>true
 |_=>false
theorem H(h:Halt)(ht:acn h=true:=by rfl):Rb e (.halt h:Sem α):=by
 intro x es r z E y hw;cases E;cases h<;>first|(cases ht;done)|exact .inl rfl|exact .inr ⟨rfl,λfs _=>⟨y,#[],by simp only[iU];rfl,hw.stay,by simp⟩⟩
theorem runT_bind{P:Program}(s:Sem α)(k:α->Sem β):∀(w:World)(es:Array Event),(s >>= k).runT P w es=match s.runT P w es with
  |(.ok a w1,es1)=>(k a).runT P w1 es1
  |(.halt x w1,es1)=>(.halt x w1,es1):=by
 show ∀w es,(s.bind k).runT P w es=_
 induction s with
 |pure a=>intro w es;rfl
 |load m a k' ih=>
  intro w es;simp only[Sem.bind,Sem.runT];split
  ·exact ih _ _ _
  ·split
   ·exact ih _ _ _
   ·rfl
 |store m a v k' ih=>
  intro w es;cases z:w.cell? a with
  |some u=>cases E:w.frozen? a<;>cases v<;>simp only[Sem.bind,Sem.runT,z,E,if_true,bJ,if_false]<;>first|rfl|exact ih _ _
  |none=>cases v<;>simp only[Sem.bind,Sem.runT,z]<;>first
   |rfl
   |(generalize World.farStore P w a _ _=r
     cases r with
     |error x=>rfl
     |ok y=>obtain⟨y,l⟩:=y;exact ih _ _)
 |new o k' ih|shape r k' ih|frozen a k' ih|sys c k' ih|program k' ih=>intro w es;exact ih _ _ _
 |freeze a n k' ih|mark m k' ih=>intro w es;exact ih _ _
 |getObj r k' ih|setObj r o k' ih=>
  intro w es;simp only[Sem.bind,Sem.runT];split<;>first|rfl|exact ih _ _ _|exact ih _ _
 |choose q k' ih=>
  intro w es;simp only[Sem.bind,Sem.runT];split<;>exact ih _ _ _
 |halt h=>intro w es;rfl
theorem Vx(q:Ask α):∀w:World,(w.ask q).2.heap=w.heap/\(w.ask q).2.tape=w.tape/\w.drawn<=(w.ask q).2.drawn:=by
 induction q with
 |done a=>intro w;exact⟨rfl,rfl,jA⟩
 |ask what range k ih=>
  intro w;unfold World.ask;simp only;split
  ·exact ih 0 w
  ·obtain⟨z,h2,h3⟩:=ih (Question.cut (.extern what range) (w.tape w.drawn (.extern what range))) { w with drawn:=w.drawn+1 };exact⟨z,h2,by simp only at h3;omega⟩
theorem DV{P:Program}{w x:World}{a:Addr}{v:Value}{b:Bool}{l:List Addr}(z:w.farStore P a v b=.ok (x,l)):x.heap.size=w.heap.size/\x.drawn=w.drawn/\x.tape=w.tape:=by
 unfold World.farStore at z;split at z
 ·split at z
  ·rename_i r E;simp only[Except.ok.injEq]at z;subst z;unfold World.viewStore at E;simp only[bind,Except.bind,pure,Except.pure]at E
   repeat' (split at E)
   all_goals first|(cases E;done)|(simp only[Except.ok.injEq,dA]at E;obtain⟨rfl,_⟩:=E;simp)
  ·cases z
 ·cases z
def Mo(x x1:World):Prop:=x.drawn<=x1.drawn/\x1.tape=x.tape/\x.heap.size<=x1.heap.size
theorem Mo.of{z:World}(h:Mo x x1)(E:z.drawn<=x.drawn)(h2:x.tape=z.tape)(h3:z.heap.size<=x.heap.size):Mo z x1:=⟨aW E h.1,h.2.1.trans h2,aW h3 h.2.2⟩
theorem mono{P:Program}(s:Sem α):∀(x:World)(es:Array Event),Mo x (wd (s.runT P x es).1):=by
 induction s with
 |pure a=>intro x es;exact⟨jA,rfl,jA⟩
 |halt a=>intro x es;exact⟨jA,rfl,jA⟩
 |load m a k ih=>
  intro x es;simp only[Sem.runT];split
  ·exact ih _ _ _
  ·split
   ·exact ih _ _ _
   ·exact⟨jA,rfl,jA⟩
 |store m a v k ih=>
  intro x es;cases z:x.cell? a with
  |some u=>cases E:x.frozen? a<;>cases v<;>simp only[Sem.runT,z,E,if_true,bJ,if_false]<;>first|exact⟨jA,rfl,jA⟩|exact(ih (x.setCell a _) _).of jA rfl (by simp[World.setCell])
  |none=>cases v<;>simp only[Sem.runT,z]<;>first
   |exact⟨jA,rfl,jA⟩
   |(cases J:World.farStore P x a _ (m == .atomic)with
     |error h=>exact⟨jA,rfl,jA⟩
     |ok y=>
      obtain⟨y,l⟩:=y;obtain⟨R,h2,h3⟩:=DV J;exact(ih y _).of (jo h2.symm) h3 (jo R.symm))
 |new o k ih=>intro x es;exact(ih _ { x with heap:=x.heap.push o } es).of jA rfl (by simp)
 |shape r k ih|frozen a k ih|program k ih=>intro x es;exact ih _ _ _
 |mark m k ih=>intro x es;exact ih _ _
 |freeze a n k ih=>
  intro x es;refine(ih (x.freeze a n) es).of ?_ ?_ ?_<;>(unfold World.freeze;split<;>simp)
 |sys c k ih=>
  intro x es;have h:=Vx (Kernel.perform c x.os) x;refine(ih _ (x.sys c).2 _).of ?_ ?_ ?_<;>(unfold World.sys;split<;>rename_i I<;>(try rw[I]at h)<;>first|exact jA|rfl|exact h.2.2|exact h.2.1|exact jo (congrArg Array.size h.1.symm))
 |getObj r k ih=>
  intro x es;simp only[Sem.runT];split<;>first|exact⟨jA,rfl,jA⟩|exact ih _ _ _
 |setObj r o k ih=>
  intro x es;simp only[Sem.runT];split<;>first|exact⟨jA,rfl,jA⟩|exact(ih { x with heap:=x.heap.setIfInBounds r o } _).of jA rfl (by simp)
 |choose q k ih=>
  intro x es;simp only[Sem.runT];split
  ·exact ih _ _ _
  ·exact(ih _ { x with drawn:=x.drawn+1 } es).of (Nat.le_succ _) rfl jA
theorem B{s:Sem α}{k:α->Sem β}(hs:Rb e s)(hk:∀a,Rb e (k a)):Rb e (s >>= k):=by
 intro x es r R E y hw;rw[runT_bind]at E;have m0:=mono (P:=e.P) s x es;cases h0:s.runT e.P x es with
 |mk r0 es0=>
 rw[h0]at E m0;cases r0 with
 |halt h x0=>
  cases E;rcases hs x es _ _ h0 y hw with J|⟨hf,hq⟩
  ·exact .inl (by revert J;cases h<;>exact id)
  ·refine .inr ⟨by revert hf;cases h<;>exact id,λfs ha=>?_⟩;obtain⟨y1,ev,b2,z⟩:=hq fs ha;exact⟨y1,ev,by rw[runT_bind,b2];rfl,z⟩
 |ok a x0=>
  simp only at E;have m1:=mono (P:=e.P) (k a) x0 es0;rw[E]at m1;obtain⟨a1,a2,a3⟩:=m0;have c1:x0.drawn<=(wd r).drawn:=m1.1;have c3:x0.heap.size<=(wd r).heap.size:=m1.2.2;simp only[wd]at a1 a2 a3;obtain⟨y',_,_,t',_⟩:=((hs x es _ _ h0 _ hw.own).resolve_left (by simp[bad])).2 #[] λ_ _=>rfl;rcases hk a x0 es0 r R E y' t'.wp with J|⟨hf,_⟩
  ·exact .inl J
  refine .inr ⟨hf,λfs ha=>?_⟩;obtain⟨y0,ev,b2,z,b4⟩:=((hs x es _ _ h0 y hw).resolve_left (by simp[bad])).2 fs λi hi=>ha i (by have hi:i<x0.drawn-x.drawn:=hi;omega)
  obtain⟨y1,aa,d2,I,d4⟩:=((hk a x0 es0 r R E y0 z.wp).resolve_left (NQ hf)).2 (fs++ev) λi hi=>by
   have:=ha (x0.drawn-x.drawn+i) (by omega);simp only[wd]at z;rw[z.tape,z.drawn,a2,dO,this,<-dO,Nat.add_sub_cancel' a1]
  have Y:=z.drawn;simp only[wd]at Y b4;refine⟨y1,ev++aa,by rw[runT_bind,b2,<-Array.append_assoc];exact d2,⟨I.wp,I.tape.trans z.tape,by rw[I.drawn,Y];omega,λb J=>(I.dead b J).trans (z.dead b J),I.still.1.trans z.still.1,I.still.2.trans z.still.2⟩,λv hv=>?_⟩;rcases Array.mem_append.1 hv with hv|hv
  ·exact(b4 v hv).le c3
  ·exact d4 v hv
theorem IT{c:Prop}[Decidable c]{s t:Sem α}(h:Rb e s)(k:Rb e t):Rb e (if c then s else t):=by
 split
 ·exact h
 ·exact k
theorem PR{k:Program->Sem α}(h:k e.Q=k e.P)(hk:Rb e (k e.P)):Rb e (program >>= k):=by
 intro x es r z E y hw;have:=hk x es r z E y hw;rw[<-h]at this;exact this
theorem jQ(q:Question):Rb e (choose q):=by
 intro x es r I z y hw;simp only[choose,Sem.runT]at z;split at z<;>rename_i E<;>cases z
 ·exact .inr ⟨rfl,λfs _=>⟨y,#[],by simp only[choose,Sem.runT,E,if_true,iU];rfl,hw.stay,by simp⟩⟩
 ·refine .inr ⟨rfl,λfs J=>⟨{ y with drawn:=y.drawn+1 },#[],?_,⟨⟨hw.os,hw.output,hw.size,hw.out,hw.inn,hw.objs⟩,rfl,by simp[wd],λ_ _=>rfl,rfl,rfl⟩,by simp⟩⟩;have:=J 0 (by simp[wd]);simp only[Nat.add_zero]at this;simp only[choose,Sem.runT,E,if_false,bJ,this,iU];rfl
theorem TB{p:Prop}(h:p:=by repeat' first|with_reducible exact U _|with_reducible refine B ?_ λ_=>?_|with_reducible refine IT ?_ ?_|exact H _|split|(simp;done)|dsimp only|exact B (jQ _) λ_=>U _):p:=h
theorem TP{p:Prop}(h:p:=by repeat' first|((with_reducible refine PR ?_ ?_);· rfl)|with_reducible exact U _|with_reducible refine B ?_ λ_=>?_|with_reducible refine IT ?_ ?_|exact H _|split|(simp;done)|dsimp only|exact B (jQ _) λ_=>U _):p:=h
theorem GX(h:WP e x y){b:Nat}(z:e.D b):b<x.heap.size:=by
 rcases h.inn b z with⟨c,t,_,h,_⟩|⟨l,_,h,_⟩<;>exact(jC h)
theorem NB{o:Obj}{k:Nat->Sem α}(ho:wR e o)(hk:∀r,¬e.D r->Rb e (k r)):Rb e (newObj o >>= k):=by
 intro x es r J hr y hw;have hd:¬e.D x.heap.size:=λh=>Nat.lt_irrefl _ (GX hw h)
 have ht:To e x { x with heap:=x.heap.push o } y { y with heap:=y.heap.push o }:=by
  refine⟨⟨hw.os,hw.output,by simp[hw.size],λb z=>?_,λb z=>?_,λb l I=>?_⟩,rfl,by simp,λb z=>?_,rfl,rfl⟩
  ·simp only[gY,hw.size,hw.out b z]
  ·have:=GX hw z;have hs:=hw.size;simp only[gY,hs,if_neg (show ¬b=x.heap.size by omega)];exact hw.inn b z
  ·simp only[gY]at I;split at I
   ·cases I;exact ho
   ·exact hw.objs b l I
  ·have:=GX hw z;simp only[gY,hw.size,if_neg (show ¬b=x.heap.size by omega)]
 rcases hk _ hd { x with heap:=x.heap.push o } es r J hr _ ht.wp with z|⟨hf,Y⟩
 ·exact .inl z
 refine .inr ⟨hf,λfs ha=>?_⟩;obtain⟨y1,ev,R,E,b4⟩:=Y fs ha;refine⟨y1,ev,?_,⟨E.wp,E.tape,E.drawn,λb z=>(E.dead b z).trans (ht.dead b z),E.still⟩,b4⟩;rw[<-hw.size]at R;exact R
end
end
section
section
variable (T:Tables)(F G:Array Func)
theorem Xb(d:Nat):plainCell ⟨T,F⟩ d=plainCell ⟨T,G⟩ d:=by
 induction d with
 |zero=>rfl
 |succ d ih=>funext t o;simp only[plainCell,ih];rfl
theorem pR(d:Nat):byteOfCell ⟨T,F⟩ d=byteOfCell ⟨T,G⟩ d:=by
 induction d with
 |zero=>rfl
 |succ d ih=>funext t o;simp only[byteOfCell,ih];rfl
theorem QY(d:Nat):cellHolding ⟨T,F⟩ d=cellHolding ⟨T,G⟩ d:=by
 induction d with
 |zero=>rfl
 |succ d ih=>funext t o;simp only[cellHolding,ih];rfl
theorem XK(d:Nat):tight ⟨T,F⟩ d=tight ⟨T,G⟩ d:=by
 induction d with
 |zero=>rfl
 |succ d ih=>funext t;simp only[tight,ih];rfl
theorem JM(c:Array Value)(t:TypeId)(f:Nat):seenCells ⟨T,F⟩ c t f=seenCells ⟨T,G⟩ c t f:=by
 induction f with
 |zero=>rfl
 |succ f ih=>funext x s;simp only[seenCells,ih,QY T F G];rfl
theorem UN(w:World)(a:Addr)(u:TypeId)(k:Addr)(b:Bool):w.seen ⟨T,F⟩ a u k b=w.seen ⟨T,G⟩ a u k b:=by
 simp only[World.seen,Xb T F G,pR T F G,JM T F G];rfl
theorem O6(w:World)(a:Addr)(b:Bool):w.farLoad ⟨T,F⟩ a b=w.farLoad ⟨T,G⟩ a b:=by
 simp only[World.farLoad,World.viewLoad,UN T F G]
theorem KY(w:World)(a:Addr)(v:Value)(b:Bool):w.farStore ⟨T,F⟩ a v b=w.farStore ⟨T,G⟩ a v b:=by
 simp only[World.farStore,World.viewStore,UN T F G,XK T F G];rfl
end
section
variable {P:Program}{w:World}
theorem seen_cells{x:Addr}{u:TypeId}{k:Addr}{b:Bool}{y}(h:w.seen P x u k b=.ok y):∃c t f,w.heap[x.block]? =some (.cells c t f):=by
 unfold World.seen at h;simp only[bind,Except.bind,MonadExcept.throw,throwThe,MonadExceptOf.throw,pure,Except.pure]at h
 repeat' split at h
 all_goals first|(cases h;done)|exact⟨_,_,_,‹w.heap[x.block]? =some _›⟩
end
end
section
variable {v:Value}
section
variable {P:Program}{w w' x y:World}{e:Env}{α:Type}{b:Nat}
theorem WP.nd(h:WP e x y){o:Obj}(z:x.heap[b]? =some o)(E:∀c t,o≠.pending c t)(h2:o≠.coro none):¬e.D b:=λhd=>by
 rcases h.inn b hd with⟨c,t,_,k,_⟩|⟨l,_,k,_⟩<;>rw[k]at z<;>cases z
 ·exact E _ _ rfl
 ·exact h2 rfl
theorem KU{a:Addr}{b:Bool}{l:List Addr}(h:w.farLoad P a b=.ok (v,l)):∃x u,w.heap[a.block]? =some (.view x u)/\(∃c t f,w.heap[x.block]? =some (.cells c t f))/\(∀z∈l,z.block=x.block)/\
  ∀w':World,w'.heap[a.block]? =w.heap[a.block]?->w'.heap[x.block]? =w.heap[x.block]?->w'.farLoad P a b=.ok (v,l):=by
 have J:=h;unfold World.farLoad at h;split at h
 ·rename_i x u E
  have key:∀w':World,w'.heap[a.block]? =w.heap[a.block]?->w'.heap[x.block]? =w.heap[x.block]?->w'.farLoad P a b=.ok (v,l):=λw' I Y=>by
   rw[<-J];unfold World.farLoad;rw[I,E];simp only[World.viewLoad,World.seen,Y]
  refine⟨x,u,E,?_,?_,key⟩<;>
  ·unfold World.viewLoad at h;simp only[bind,Except.bind,pure,Except.pure,MonadExcept.throw,throwThe,MonadExceptOf.throw]at h;cases hs:w.seen P x u a b with
   |error y=>rw[hs]at h;cases h
   |ok y=>
    first
    |exact seen_cells hs
    |(obtain⟨c,t,fr,first,like,cells⟩:=y
      rw[hs]at h;simp only at h;generalize like.ofBytes _=ob at h;cases ob with
      |none=>cases h
      |some z=>
       simp only[Except.ok.injEq,dA]at h;obtain⟨_,rfl⟩:=h;intro y R;obtain⟨q,_,rfl⟩:=bC.1 R;rfl)
 ·cases h
theorem Oi{a:Addr}(h:w.cell? a=some v):∃c t f,w.heap[a.block]? =some (.cells c t f):=by
 unfold World.cell? at h;split at h
 ·exact⟨_,_,_,‹_›⟩
 ·cases h
theorem xI{o:Obj}(h:w.heap[b]? =some o):b<w.heap.size:=(jC h)
theorem Gi(a:Addr)(m:Mode:=.plain):Rb e (load a m):=by
 intro x es r ae I y hw;simp only[load,Sem.runT]at I;cases E:x.cell? a with
 |some v=>
  rw[E]at I;cases I;obtain⟨c,t,f,Y⟩:=Oi E;have hd:=hw.nd Y (by simp) (by simp);have R:y.cell? a=some v:=by unfold World.cell? at E⊢;rw[hw.out _ hd];exact E
  exact .inr ⟨rfl,λfs _=>⟨y,#[⟨.cell a,false,m == .atomic⟩],by simp only[load,Sem.runT,R];rfl,hw.stay,λv E=>by simp at E;subst E;exact⟨hd,xI Y⟩⟩⟩
 |none=>
  rw[E]at I;simp only at I;cases J:x.farLoad e.P a (m == .atomic)with
  |error h=>
   rw[J]at I;cases I;left;unfold World.farLoad at J;split at J
   ·split at J<;>cases J;rfl
   ·cases J;unfold World.noCell;split<;>rfl
  |ok z=>
   obtain⟨v,l⟩:=z;rw[J]at I;cases I;obtain⟨p,u,hp,⟨c,t,f,Y⟩,hm,aa⟩:=KU J;have hd:=hw.nd Y (by simp) (by simp);have ab:=hw.nd hp (by simp) (by simp)
   have ac:y.farLoad e.Q a (m == .atomic)=.ok (v,l):=by
    rw[O6 e.T e.G e.F];exact aa y (hw.out _ ab) (hw.out _ hd)
   have R:y.cell? a=none:=by unfold World.cell? at E⊢;rw[hw.out _ ab];exact E
   refine .inr ⟨rfl,λfs _=>⟨y,l.toArray.map (⟨.cell ·,false,m == .atomic⟩),by simp only[load,Sem.runT,R,ac];rfl,hw.stay,λv E=>?_⟩⟩;obtain⟨z,hz,rfl⟩:=Array.mem_map.1 E;have:=hm z (by simpa using hz);exact⟨by rw[this];exact hd,by rw[this];exact xI Y⟩
end
end
section
section
variable {P:Program}{w w' x y:World}{e:Env}{α:Type}{b:Nat}
theorem WP.put(h:WP e x y)(R:¬e.D b){hp hp':Array Obj}(hs:hp.size=x.heap.size)(I:hp'.size=y.heap.size)(J:∀z,z≠b->hp[z]? =x.heap[z]?)(h2:∀z,z≠b->hp'[z]? =y.heap[z]?)(h3:hp'[b]? =hp[b]?)(Y:∀o,hp[b]? =some o->wR e o):To e x { x with heap:=hp } y { y with heap:=hp' }:=by
 refine⟨⟨h.os,h.output,by show hp'.size=hp.size;rw[hs,I,h.size],λz E=>?_,λz E=>?_,λz l E=>?_⟩,rfl,by simp,λz E=>h2 z λk=>R (k ▸ E),rfl,rfl⟩
 ·show hp'[z]? =hp[z]?
  by_cases k:z=b
  ·subst k;exact h3
  ·rw[J z k,h2 z k];exact h.out z E
 ·show(∃c t,hp'[z]? =_/\hp[z]? =_/\_)\/∃o,hp'[z]? =some o/\hp[z]? =_/\_
  rw[J z λk=>R (k ▸ E),h2 z λk=>R (k ▸ E)];exact h.inn z E
 ·have E:hp[z]? =some l:=E;by_cases k:z=b
  ·subst k;exact Y _ E
  ·rw[J z k]at E;exact h.objs z l E
theorem WP.set(h:WP e x y)(I:¬e.D b)(o:Obj)(E:wR e o):To e x { x with heap:=x.heap.setIfInBounds b o } y { y with heap:=y.heap.setIfInBounds b o }:=
 h.put I (by simp) (by simp) (λz k=>dS (Ne.symm k)) (λz k=>dS (Ne.symm k)) (by simp[aO,h.size]) λo' k=>by
  rw[aO]at k;simp only[if_true]at k;split at k<;>cases k;exact E
theorem IJ{w1:World}{a:Addr}{v:Value}{b:Bool}{l:List Addr}(h:w.farStore P a v b=.ok (w1,l)):∃x u c t f,w.heap[a.block]? =some (.view x u)/\(∃c t f,w.heap[x.block]? =some (.cells c t f))/\(∀z∈l,z.block=x.block)/\w1={ w with heap:=w.heap.setIfInBounds x.block (.cells c t f) }/\
  ∀w':World,w'.heap[a.block]? =w.heap[a.block]?->w'.heap[x.block]? =w.heap[x.block]?->w'.farStore P a v b=.ok ({ w' with heap:=w'.heap.setIfInBounds x.block (.cells c t f) },l):=by
 unfold World.farStore at h;cases h4:w.heap[a.block]? with
 |none=>rw[h4]at h;cases h
 |some ob=>
 rw[h4]at h;cases ob with
 |view x u=>
  simp only at h;unfold World.viewStore at h;simp only[bind,Except.bind,pure,Except.pure,MonadExcept.throw,throwThe,MonadExceptOf.throw]at h;by_cases J:(!tight P P.depth u)=true
  ·rw[if_pos J]at h;cases h
  rw[if_neg J]at h;cases hs:w.seen P x u a b with
  |error _=>rw[hs]at h;cases h
  |ok y=>
  have hc:=seen_cells hs;obtain⟨c,R,fr,first,like,cells⟩:=y;rw[hs]at h;simp only at h;cases I:v.bytes? with
  |none=>rw[I]at h;cases h
  |some bs=>
  rw[I]at h;simp only at h;by_cases h2:some bs.length≠Option.map (λx=>x.length) like.bytes?
  ·rw[if_pos h2]at h;cases h
  rw[if_neg h2]at h;generalize hg:(List.foldlM _ c cells:Except String (Array Value))=r at h;cases r with
  |error _=>cases h
  |ok d=>
   simp only[Except.ok.injEq,dA]at h;obtain⟨rfl,rfl⟩:=h;refine⟨x,u,d,R,fr,rfl,hc,λz hz=>?_,rfl,λw' Y k2=>?_⟩
   ·obtain⟨q,_,rfl⟩:=bC.1 hz;rfl
   ·have E:w'.seen P x u a b=.ok (c,R,fr,first,like,cells):=by rw[<-hs];simp only[World.seen,k2]
    unfold World.farStore;rw[Y];simp only;unfold World.viewStore;simp only[bind,Except.bind,pure,Except.pure,MonadExcept.throw,throwThe,MonadExceptOf.throw];rw[if_neg J,E];simp only[I];rw[if_neg h2,hg]
 |_=>cases h
theorem U9(a:Addr)(v:Value)(m:Mode:=.plain):Rb e (store a v m):=by
 intro x es r ag E y hw
 have ns:∀(W:World) P es,(∀z,v≠.agg z)->(∀z,v≠.tuple z)->(store a v m).runT P W es=match W.cell? a with
   |some _=>if W.frozen? a then(.halt (.unsupported (.unsafePointer "a write to bytes that a string shares")) W,es)else(.ok () (W.setCell a v),es.push ⟨.cell a,true,m == .atomic⟩)
   |none=>match W.farStore P a v (m == .atomic)with
    |.ok (W,l)=>(.ok () W,es++l.toArray.map (⟨.cell ·,true,m == .atomic⟩))
    |.error x=>(.halt x W,es):=λW P es J k2=>by
  cases v<;>first|rfl|exact absurd rfl (J _)|exact absurd rfl (k2 _)
 by_cases J:∀z,v≠.agg z
 case neg=>
  obtain⟨z,J⟩:=Classical.not_forall.1 J;cases Classical.not_not.1 J;cases E;exact .inl rfl
 by_cases k2:∀z,v≠.tuple z
 case neg=>
  obtain⟨z,k2⟩:=Classical.not_forall.1 k2;cases Classical.not_not.1 k2;cases E;exact .inl rfl
 rw[ns _ _ _ J k2]at E;cases I:x.cell? a with
 |some u=>
  rw[I]at E;simp only at E;cases R:x.frozen? a with
  |true=>rw[R]at E;cases E;exact .inl rfl
  |false=>
   rw[R]at E;cases E;obtain⟨c,t,f,hb⟩:=Oi I;have hd:=hw.nd hb (by simp) (by simp);have aa:y.cell? a=some u:=by unfold World.cell? at I⊢;rw[hw.out _ hd];exact I
   have af:y.frozen? a=false:=by unfold World.frozen? at R⊢;rw[hw.out _ hd];exact R
   refine .inr ⟨rfl,λfs _=>⟨y.setCell a v,#[⟨.cell a,true,m == .atomic⟩],by rw[ns _ _ _ J k2,aa];simp only[af];rfl,?_,λv I=>by simp at I;subst I;exact⟨hd,by simp[wd,World.setCell];exact xI hb⟩⟩⟩
   have key:∀(q:World) z,z≠a.block->(q.setCell a v).heap[z]? =q.heap[z]?:=λq z R=>by
    simp only[World.setCell,bI,if_neg (Ne.symm R)]
   exact hw.put (b:=a.block) (hp:=(x.setCell a v).heap) (hp':=(y.setCell a v).heap) hd (by simp[World.setCell]) (by simp[World.setCell]) (key x) (key y) (by simp only[World.setCell,bI,hw.out _ hd]) λo k=>by
    simp only[World.setCell,bI,if_true,hb,bQ,aC]at k;subst k;trivial
 |none=>
  rw[I]at E;simp only at E;cases Y:x.farStore e.P a v (m == .atomic)with
  |error h=>
   rw[Y]at E;cases E;left;unfold World.farStore at Y;split at Y
   ·split at Y<;>cases Y;rfl
   ·cases Y;unfold World.noCell;split<;>rfl
  |ok z=>
   obtain⟨x1,l⟩:=z;rw[Y]at E;cases E;obtain⟨p,u,c1,t1,f1,hp,⟨c,t,f,hb⟩,hm,rfl,ac⟩:=IJ Y;have hd:=hw.nd hb (by simp) (by simp);have ae:=hw.nd hp (by simp) (by simp);have ab:=ac y (hw.out _ ae) (hw.out _ hd);rw[KY e.T e.F e.G]at ab;have aa:y.cell? a=none:=by unfold World.cell? at I⊢;rw[hw.out _ ae];exact I
   refine .inr ⟨rfl,λfs _=>⟨_,l.toArray.map (⟨.cell ·,true,m == .atomic⟩),by rw[ns _ _ _ J k2,aa];simp only[ab];rfl,hw.set hd _ trivial,λv I=>?_⟩⟩;obtain⟨z,R,rfl⟩:=Array.mem_map.1 I;have:=hm z (by simpa using R);exact⟨by rw[this];exact hd,by rw[this];simp[wd];exact xI hb⟩
end
end
section
variable {r:Nat}
section
variable {P:Program}{w w' x y:World}{e:Env}{α:Type}{b:Nat}
theorem GO{k:Obj->Sem α}(hX:(∃s,k (.coro none)=stuck s)/\∀c t,∃s,k (.pending c t)=stuck s)(hk:¬e.D r->∀o,wR e o->Rb e (k o)):Rb e (getObj r >>= k):=by
 intro x es q Y z y hw
 have E:∀P (W:World) es,(getObj r >>= k).runT P W es=match W.heap[r]? with
   |some (.cells ..)=>(.halt (.stuck "getObj: a row of cells") W,es)
   |some o=>(k o).runT P W (es.push ⟨.obj r,false,o.isChan⟩)
   |none=>(.halt (.stuck "getObj: no such block") W,es):=λP W es=>by
  show Sem.runT P (.getObj r λo=>k o) W es=_
  simp only[Sem.runT];cases W.heap[r]? with
  |none=>rfl
  |some o=>cases o<;>rfl
 rw[E]at z;cases I:x.heap[r]? with
 |none=>rw[I]at z;cases z;exact .inl rfl
 |some o=>
  by_cases hc:∃c t f,o=.cells c t f
  ·obtain⟨c,t,f,rfl⟩:=hc;rw[I]at z;cases z;exact .inl rfl
  have J:∀P (W:World) es,W.heap[r]? =some o->(getObj r >>= k).runT P W es=(k o).runT P W (es.push ⟨.obj r,false,o.isChan⟩):=λP W es h=>by
   rw[E,h];cases o<;>first|rfl|exact absurd ⟨_,_,_,rfl⟩ hc
  by_cases hd:e.D r
  ·left;rw[<-E,J _ _ _ I]at z;rcases hw.inn r hd with⟨c,t,_,h,_⟩|⟨l,_,h,_⟩<;>rw[h]at I<;>cases I
   ·obtain⟨s,hs⟩:=hX.2 c t;rw[hs]at z;cases z;rfl
   ·obtain⟨s,hs⟩:=hX.1;rw[hs]at z;cases z;rfl
  rw[<-E,J _ _ _ I]at z;have hm:=(mono (P:=e.P) (k o) x (es.push ⟨.obj r,false,o.isChan⟩)).2.2;rw[z]at hm;rcases hk hd o (hw.objs r o I) x _ q Y z y hw with hb|⟨hf,hq⟩
  ·exact .inl hb
  refine .inr ⟨hf,λfs ha=>?_⟩;obtain⟨y1,ev,b2,b3,b4⟩:=hq (fs.push ⟨.obj r,false,o.isChan⟩) ha;refine⟨y1,#[⟨.obj r,false,o.isChan⟩]++ev,by rw[J _ _ _ ((hw.out r hd).trans I),b2];simp,b3,λv R=>?_⟩;rcases Array.mem_append.1 R with R|R
  ·simp at R;subst R;exact aH (xI I) hm
  ·exact b4 v R
theorem mO(o:Obj)(hd:¬e.D r)(ho:wR e o):Rb e (setObj r o):=by
 intro x es q Y E y hw
 have z:∀P (W:World) es,(setObj r o).runT P W es=match W.heap[r]? with
   |some (.cells ..)=>(.halt (.stuck "setObj: a row of cells") W,es)
   |some _=>(.ok () { W with heap:=W.heap.setIfInBounds r o },es.push ⟨.obj r,true,o.isChan⟩)
   |none=>(.halt (.stuck "setObj: no such block") W,es):=λP W es=>rfl
 rw[z]at E;cases hp:x.heap[r]? with
 |none=>rw[hp]at E;cases E;exact .inl rfl
 |some p=>
  by_cases R:∃c t f,p=.cells c t f
  ·obtain⟨c,t,f,rfl⟩:=R;rw[hp]at E;cases E;exact .inl rfl
  have I:∀P (W:World) es,W.heap[r]? =some p->(setObj r o).runT P W es=(.ok () { W with heap:=W.heap.setIfInBounds r o },es.push ⟨.obj r,true,o.isChan⟩):=λP W es h=>by
   rw[z,h];cases p<;>first|rfl|exact absurd ⟨_,_,_,rfl⟩ R
  rw[<-z (e.P) x,I _ _ _ hp]at E;cases E;exact .inr ⟨rfl,λfs _=>⟨_,#[⟨.obj r,true,o.isChan⟩],I _ _ _ ((hw.out r hd).trans hp),hw.set hd o ho,λv J=>by simp at J;subst J;simp only[Av,wd,jg];exact xI hp⟩⟩
theorem TO{p:Prop}(h:p:=by repeat' first|exact mO _ (by assumption) trivial|((with_reducible refine GO ⟨⟨_,rfl⟩,λ_ _=>⟨_,rfl⟩⟩ λhd o _=>?_))|with_reducible exact U _|with_reducible refine B ?_ λ_=>?_|with_reducible refine IT ?_ ?_|exact H _|split|(simp;done)|dsimp only|exact B (jQ _) λ_=>U _):p:=h
theorem SH{k:Option (TypeId×Nat)->Sem α}(hk:∀o,Rb e (k o))(hn:e.D r->∃h,k none=.halt h/\∀w,bad (.halt h w:Result α)=true):Rb e (shape r >>= k):=by
 intro x es q I E y hw;have z:∀P (W:World) es,(shape r >>= k).runT P W es=(k (W.shape? r)).runT P W es:=λP W es=>rfl;rw[z]at E;by_cases hd:e.D r
 ·have:x.shape? r=none:=by
   unfold World.shape?;rcases hw.inn r hd with⟨c,t,J,h2,_⟩|⟨l,J,h2,_⟩<;>rw[h2]
  rw[this]at E;obtain⟨h,J,h2⟩:=hn hd;rw[J]at E;cases E;exact .inl (h2 _)
 ·have:y.shape? r=x.shape? r:=by unfold World.shape?;rw[hw.out r hd]
  rcases hk _ x es q I E y hw with R|⟨hf,Y⟩
  ·exact .inl R
  refine .inr ⟨hf,λfs ha=>?_⟩;rw[z,this];exact Y fs ha
theorem WP.Y9(hw:WP e x y)(a:Addr):y.frozen? a=x.frozen? a:=by
 unfold World.frozen?;by_cases hd:e.D a.block
 ·rcases hw.inn _ hd with⟨c,t,z,h2,_⟩|⟨l,z,h2,h3⟩<;>rw[z,h2]
  ·simp
  ·cases l<;>first|rfl|cases h3
 ·rw[hw.out _ hd]
theorem P8(a:Addr):Rb e (frozen a):=by
 intro x es r z E y hw;cases E;exact .inr ⟨rfl,λfs _=>⟨y,#[],by simp only[frozen,Sem.runT,hw.Y9,iU];rfl,hw.stay,by simp⟩⟩
theorem Fh(a:Addr)(n:Nat)(hd:¬e.D a.block):Rb e (freeze a n):=by
 intro x es r J hr y hw;cases hr;refine .inr ⟨rfl,λfs _=>⟨y.freeze a n,#[],by simp only[iU];rfl,?_,by simp⟩⟩
 show To e x (x.freeze a n) y (y.freeze a n)
 by_cases E:n=0
 ·subst E;exact hw.stay
 have key:∀(q:World) z,z≠a.block->(q.freeze a n).heap[z]? =q.heap[z]?:=λq z R=>by
  simp only[World.freeze,if_neg E,bI,if_neg (Ne.symm R)]
 have hx:x.freeze a n={ x with heap:=(x.freeze a n).heap }:=by simp only[World.freeze,if_neg E]
 have Y:y.freeze a n={ y with heap:=(y.freeze a n).heap }:=by simp only[World.freeze,if_neg E]
 rw[hx,Y];refine hw.put (b:=a.block) hd (by simp[World.freeze,E]) (by simp[World.freeze,E]) (key x) (key y) (by simp only[World.freeze,if_neg E,bI,hw.out _ hd]) λo k=>?_;simp only[World.freeze,if_neg E,bI,if_true]at k;cases I:x.heap[a.block]? with
 |none=>rw[I]at k;cases k
 |some p=>
  rw[I]at k;simp only[bQ,aC]at k;have:=hw.objs _ _ I;cases p<;>(subst k;first|trivial|exact this)
theorem Oy(m:Mark)(E:m=.noRoom\/∃f,m=.extern f):Rb e (mark m):=by
 intro x es r I J y hw;cases J;exact .inr ⟨rfl,λfs _=>⟨y,#[⟨.mark m,false,true⟩],rfl,hw.stay,λv z=>by simp at z;subst z;rcases E with rfl|⟨f,rfl⟩<;>trivial⟩⟩
theorem RD{s:Sem α}(g:World->Option α)(hs:∀P W es,∃h ev,s.runT P W es=(match g W with|some a=>.ok a W|none=>.halt (.stuck h) W,es++ev)/\∀v∈ev,Av e W.heap.size v)(J:∀x y,WP e x y->∀a,g x=some a->g y=some a):Rb e s:=by
 intro x es q R z y hw;obtain⟨h,ev,Y,_⟩:=hs e.P x es;rw[Y]at z;cases E:g x with
 |none=>rw[E]at z;cases z;exact .inl rfl
 |some a=>
  rw[E]at z;cases z;refine .inr ⟨rfl,λfs _=>?_⟩;obtain⟨h',I,h2,h3⟩:=hs e.Q y fs;rw[hw.size]at h3;rw[J x y hw a E]at h2;exact⟨y,I,h2,hw.stay,h3⟩
def GH(r:Nat)(w:World):Option (Option (Addr×TypeId)):=(w.heap[r]?).map fun|.view a t=>some (a,t)|_=>none
def numOf(r:Nat)(w:World):Option (Option (Addr×Bool)):=(w.heap[r]?).map fun|.number a t=>some (a,t)|_=>none
def cellsOf(r:Nat)(w:World):Option (Option Nat):=(w.heap[r]?).map fun|.cells c _ _=>some c.size|.pending c _=>some c.size|_=>none
theorem yx(f:Obj->α)(J:∀c t,f (.cells c t (0,0))=f (.pending c t))(h2:∀o,ghost o=true->f o=f (.coro none))(hw:WP e x y)(r:Nat):(y.heap[r]?).map f=(x.heap[r]?).map f:=by
 by_cases hd:e.D r
 ·rcases hw.inn r hd with⟨c,t,z,E,_⟩|⟨l,z,E,I⟩<;>rw[z,E]
  ·exact congrArg some (J c t)
  ·exact congrArg some (h2 l I)
 ·rw[hw.out r hd]
theorem QU(r:Nat):Rb e (viewAt r):=by
 refine RD (GH r) (λP W es=>?_) λx y hw a I=>by rw[<-I];exact yx _ (λ_ _=>rfl) (λo h=>by cases o<;>first|rfl|cases h) hw r
 cases z:W.heap[r]? with
 |none=>exact⟨ "getObj: no such block",#[],by simp[viewAt,shape,getObj,bind,Sem.bind,Sem.runT,World.shape?,GH,z,pure],by simp⟩
 |some o=>
  cases o with
  |cells c t f=>exact⟨ "",#[],by simp[viewAt,shape,getObj,bind,Sem.bind,Sem.runT,World.shape?,GH,z,pure],by simp⟩
  |_=>exact⟨ "",#[⟨.obj r,false,_⟩],by simp[viewAt,shape,getObj,bind,Sem.bind,Sem.runT,World.shape?,GH,z,pure];rfl,λv E=>by simp at E;subst E;exact xI z⟩
theorem IW(r:Nat):Rb e (numberAt r):=by
 refine RD (numOf r) (λP W es=>?_) λx y hw a I=>by rw[<-I];exact yx _ (λ_ _=>rfl) (λo h=>by cases o<;>first|rfl|cases h) hw r
 cases z:W.heap[r]? with
 |none=>exact⟨ "getObj: no such block",#[],by simp[numberAt,shape,getObj,bind,Sem.bind,Sem.runT,World.shape?,numOf,z,pure],by simp⟩
 |some o=>
  cases o with
  |cells c t f=>exact⟨ "",#[],by simp[numberAt,shape,getObj,bind,Sem.bind,Sem.runT,World.shape?,numOf,z,pure],by simp⟩
  |_=>exact⟨ "",#[⟨.obj r,false,_⟩],by simp[numberAt,shape,getObj,bind,Sem.bind,Sem.runT,World.shape?,numOf,z,pure];rfl,λv E=>by simp at E;subst E;exact xI z⟩
theorem MG(r:Nat):Rb e (cellsIn r):=by
 refine RD (cellsOf r) (λP W es=>?_) λx y hw a I=>by rw[<-I];exact yx _ (λ_ _=>rfl) (λo h=>by cases o<;>first|rfl|cases h) hw r
 cases z:W.heap[r]? with
 |none=>exact⟨ "getObj: no such block",#[],by simp[cellsIn,shape,getObj,bind,Sem.bind,Sem.runT,World.shape?,cellsOf,z,pure],by simp⟩
 |some o=>
  cases o with
  |cells c t f=>exact⟨ "",#[],by simp[cellsIn,shape,getObj,bind,Sem.bind,Sem.runT,World.shape?,cellsOf,z,pure],by simp⟩
  |_=>exact⟨ "",#[⟨.obj r,false,_⟩],by simp[cellsIn,shape,getObj,bind,Sem.bind,Sem.runT,World.shape?,cellsOf,z,pure];rfl,λv E=>by simp at E;subst E;exact xI z⟩
def oG(a:Addr)(w:World):Bool:=w.frozen? a || match w.shape? a.block with
 |some (_,n)=>w.frozen? { block:=a.block,off:=n }
 |none=>false
theorem zI(hw:WP e x y)(a:Addr):oG a y=oG a x:=by
 unfold oG;rw[hw.Y9];by_cases hd:e.D a.block
 ·unfold World.shape? World.frozen?;rcases hw.inn _ hd with⟨c,t,z,E,_⟩|⟨l,z,E,I⟩<;>simp[z,E];cases l<;>first|rfl|cases I
 ·have:y.shape? a.block=x.shape? a.block:=by unfold World.shape?;rw[hw.out _ hd]
  rw[this];cases x.shape? a.block with
  |none=>rfl
  |some p=>simp only[hw.Y9]
theorem DN(P:Program)(a:Addr)(W:World)(es:Array Event):(stringish a).runT P W es=(.ok (oG a W) W,es):=by
 simp only[stringish,frozen,shape,bind,Sem.bind,Sem.runT,oG];cases z:W.frozen? a with
 |true=>simp[Sem.runT,pure]
 |false=>cases hs:W.shape? a.block<;>simp[Sem.runT,pure,hs]
def Nz(a b:Addr)(w:World):Bool:=(oG a w&&oG b w) || (oG a w&&(w.shape? a.block matches some (_,0))) || (oG b w&&(w.shape? b.block matches some (_,0)))
theorem IL(a b:Addr):Rb e (mayBeOne a b):=by
 refine RD (λw=>some (Nz a b w)) (λP W es=>⟨ "",#[],?_,by simp⟩) λx y hw c I=>?_
 ·simp only[mayBeOne,shape,runT_bind,DN];simp[Sem.runT,pure,Nz];rfl
 ·rw[<-I];unfold Nz;rw[zI hw a,zI hw b]
  have key:∀a:Addr,(oG a x&&(y.shape? a.block matches some (_,0)))=(oG a x&&(x.shape? a.block matches some (_,0))):=λa=>by
   by_cases hd:e.D a.block
   ·have:oG a x=false:=by
     unfold oG World.shape? World.frozen?;rcases hw.inn _ hd with⟨c,t,E,z,_⟩|⟨l,E,z,_⟩<;>simp[z]
    rw[this];rfl
   ·have:y.shape? a.block=x.shape? a.block:=by unfold World.shape?;rw[hw.out _ hd]
    rw[this]
  rw[key a,key b]
end
end
end Po
end Go.Proofs.YtpibpdpedjinhaaGreatDoor
