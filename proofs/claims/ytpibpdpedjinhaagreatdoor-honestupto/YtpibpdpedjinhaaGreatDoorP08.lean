import Derived.Test.YtpibpdpedjinhaaGreatDoorPA
import GoSem.Step
set_option maxRecDepth 100000
set_option linter.all false
open Bool renaming false->aL,true->bB
open Go renaming Addr->gF,Event->mb,Obj->pT,Program->cY,TypeId->cH,Value->aD,World->U
open Go.Obj renaming cells->aG
open Go.Sem renaming bind->fY,runT->cN
open Go.World renaming cell?->fR,farStore->ly,freeze->iN,frozen?->l8,setCell->eW,shape?->gC
open MonadExcept renaming throw->mU
open MonadExceptOf renaming throw->mp
open Option renaming none->Z,some->M
open Or renaming inl->cJ,inr->cK
namespace Go.Proofs.YtpibpdpedjinhaaGreatDoor
namespace Po
open Go
section
structure Env where
 T:Tables
 F:Array Func
 G:Array Func
 D:Nat->Prop
 C:Code->Prop
abbrev Env.P(e:Env):cY:=⟨e.T,e.F⟩
abbrev Env.Q(e:Env):cY:=⟨e.T,e.G⟩
def ghost:pT->Bool
 |.loop _|.deferred _=>bB
 |_=>aL
def yJ(e:Env):pT->Prop
 |.loop l=>e.C l.assign/\e.C l.body/\∀c,l.pending=M c->e.C c
 |.deferred (M ds)=>ds=[]
 |_=>True
structure WP(e:Env)(x y:U):Prop where
 os:y.os=x.os
 output:y.output=x.output
 size:y.heap.size=x.heap.size
 out:∀b:Nat,¬e.D b->y.heap[b]? =x.heap[b]?
 inn:∀b:Nat,e.D b->(∃c t,y.heap[b]? =M (aG c t (0,0))/\x.heap[b]? =M (.pending c t)/\c≠#[])\/∃o,y.heap[b]? =M o/\x.heap[b]? =M (.coro Z)/\ghost o=bB
 objs:∀(b:Nat)(o:pT),x.heap[b]? =M o->yJ e o
def Av(e:Env)(n:Nat)(v:mb):Prop:=match v.loc with
 |.cell a=>¬e.D a.block/\a.block<n
 |.obj r=>r<n
 |.mark .noRoom|.mark (.extern _)|.output=>True
 |_=>False
section
variable {α β:Type}{e:Env}{x y x1 y1:U}
def wd:Result α->U
 |.ok _ w|.halt _ w=>w
def put(r:Result α)(w:U):Result α:=match r with
 |.ok a _=>.ok a w
 |.halt h _=>.halt h w
def fine:Result α->Bool
 |.ok ..|.halt (.panic _) _=>bB
 |_=>aL
def bad:Result α->Bool
 |.halt (.stuck _) _|.halt (.unsupported _) _=>bB
 |_=>aL
theorem Q8{r:Result α}(q:fine r=bB):¬bad r=bB:=by
 cases r with
 |ok a w=>simp[bad]
 |halt h w=>cases h<;>first|(cases q;done)|simp[bad]
structure To(e:Env)(x x1 y y1:U):Prop where
 wp:WP e x1 y1
 tape:y1.tape=y.tape
 drawn:y1.drawn=y.drawn+(x1.drawn-x.drawn)
 dead:∀b:Nat,e.D b->y1.heap[b]? =y.heap[b]?
 still:y1.os=y.os/\y1.output=y.output
theorem WP.stay(h:WP e x y):To e x x y y:=⟨h,rfl,aC,λ_ _=>rfl,rfl,rfl⟩
def Ans(x x1 y:U):Prop:=∀i,i<x1.drawn-x.drawn->y.tape (y.drawn+i)=x.tape (x.drawn+i)
def Rb(e:Env)(s:Sem α):Prop:=∀x es r q,s.runT e.P x es=(r,q)->∀y,WP e x y->bad r=bB\/fine r=bB/\
 ∀fs,Ans x (wd r) y->∃y1 ev,s.runT e.Q y fs=(put r y1,fs++ev)/\To e x (wd r) y y1/\∀v∈ev,Av e (wd r).heap.size v
theorem WP.own(hw:WP e x y):WP e x { y with tape:=x.tape,drawn:=x.drawn }:=⟨hw.os,hw.output,hw.size,hw.out,hw.inn,hw.objs⟩
theorem Av.le{n m:Nat}(h:n<=m){v:mb}(k:Av e n v):Av e m v:=by unfold Av at k⊢;split at k<;>first|exact⟨k.1,aP k.2 h⟩|exact aP k h|trivial|exact k.elim
theorem X2(a:α):Rb e (pure a:Sem α):=by intro x es r q E y hw;cases E;exact cK ⟨rfl,λfs _=>⟨y,#[],by simp only[je];rfl,hw.stay,aC⟩⟩
def agz:Halt->Bool
 |.panic _|.stuck _|.unsupported _=>bB
 |_=>aL
theorem H(h:Halt)(ht:agz h=bB:=by rfl):Rb e (.halt h:Sem α):=by intro x es r q E y hw;cases E;cases h<;>first|(cases ht;done)|exact cJ rfl|exact cK ⟨rfl,λfs _=>⟨y,#[],by simp only[je];rfl,hw.stay,aC⟩⟩
theorem runT_bind{P:cY}(s:Sem α)(k:α->Sem β):∀(w:U)(es:Array mb),(s >>= k).runT P w es=match s.runT P w es with
  |(.ok a w1,es1)=>(k a).runT P w1 es1
  |(.halt x w1,es1)=>(.halt x w1,es1):=by
 show ∀w es,(s.bind k).runT P w es=_
 induction s with
 |pure a=>intro w es;rfl
 |load m a k' ih=>
  intro w es;simp only[fY,cN];split
  .exact ih _ _ _
  .split
   .exact ih _ _ _
   .rfl
 |store m a v k' ih=>
  intro w es;cases E:w.cell? a with
  |some u=>cases I:w.frozen? a<;>cases v<;>simp only[fY,cN,E,I,if_true,bU,if_false]<;>first|rfl|exact ih _ _
  |none=>cases v<;>simp only[fY,cN,E]<;>first
   |rfl
   |(generalize ly P w a _ _=r
     cases r with
     |error x=>rfl
     |ok y=>obtain⟨y,l⟩:=y;exact ih _ _)
 |new o k' ih|shape r k' ih|frozen a k' ih|sys c k' ih|program k' ih=>intro w es;exact ih _ _ _
 |freeze a n k' ih|mark m k' ih=>intro w es;exact ih _ _
 |getObj r k' ih|setObj r o k' ih=>
  intro w es;simp only[fY,cN];split<;>first|rfl|exact ih _ _ _|exact ih _ _
 |choose q k' ih=>
  intro w es;simp only[fY,cN];split<;>exact ih _ _ _
 |halt h=>intro w es;rfl
theorem ZT(q:Ask α):∀w:U,(w.ask q).2.heap=w.heap/\(w.ask q).2.tape=w.tape/\w.drawn<=(w.ask q).2.drawn:=by
 induction q with
 |done a=>intro w;exact⟨rfl,rfl,jE⟩
 |ask what range k ih=>
  intro w;unfold World.ask;simp only;split
  .exact ih 0 w
  .obtain⟨E,h2,h3⟩:=ih (Question.cut (.extern what range) (w.tape w.drawn (.extern what range))) { w with drawn:=w.drawn+1 };exact⟨E,h2,by simp only at h3;omega⟩
theorem Gx{P:cY}{w x:U}{a:gF}{v:aD}{b:Bool}{l:List gF}(q:w.farStore P a v b=.ok (x,l)):x.heap.size=w.heap.size/\x.drawn=w.drawn/\x.tape=w.tape:=by
 unfold ly at q;split at q
 .split at q
  .rename_i r E;simp only[Except.ok.injEq]at q;subst q;unfold World.viewStore at E;simp only[bind,Except.bind,pure,Except.pure]at E
   repeat' (split at E)
   all_goals first|(cases E;done)|(simp only[Except.ok.injEq,dJ]at E;obtain⟨rfl,_⟩:=E;simp)
  .cases q
 .cases q
def Mo(x x1:U):Prop:=x.drawn<=x1.drawn/\x1.tape=x.tape/\x.heap.size<=x1.heap.size
theorem Mo.of{q:U}(h:Mo x x1)(E:q.drawn<=x.drawn)(h2:x.tape=q.tape)(h3:q.heap.size<=x.heap.size):Mo q x1:=⟨bH E h.1,h.2.1.trans h2,bH h3 h.2.2⟩
theorem mono{P:cY}(s:Sem α):∀(x:U)(es:Array mb),Mo x (wd (s.runT P x es).1):=by
 induction s with
 |pure a=>intro x es;exact⟨jE,rfl,jE⟩
 |halt a=>intro x es;exact⟨jE,rfl,jE⟩
 |load m a k ih=>
  intro x es;simp only[cN];split
  .exact ih _ _ _
  .split
   .exact ih _ _ _
   .exact⟨jE,rfl,jE⟩
 |store m a v k ih=>
  intro x es;cases E:x.cell? a with
  |some u=>cases I:x.frozen? a<;>cases v<;>simp only[cN,E,I,if_true,bU,if_false]<;>first|exact⟨jE,rfl,jE⟩|exact(ih _ _).of jE rfl (by simp[eW])
  |none=>cases v<;>simp only[cN,E]<;>first
   |exact⟨jE,rfl,jE⟩
   |(cases Y:ly P x a _ (m == .atomic)with
     |error h=>exact⟨jE,rfl,jE⟩
     |ok y=>
      obtain⟨y,l⟩:=y;obtain⟨h1,h2,h3⟩:=Gx Y;exact(ih y _).of (jw h2.symm) h3 (jw h1.symm))
 |new o k ih=>intro x es;exact(ih _ _ es).of jE rfl aC
 |shape r k ih|frozen a k ih|program k ih=>intro x es;exact ih _ _ _
 |mark m k ih=>intro x es;exact ih _ _
 |freeze a n k ih=>
  intro x es;refine(ih _ es).of ?_ ?_ ?_<;>(unfold iN;split<;>simp)
 |sys c k ih=>
  intro x es;have h:=ZT (Kernel.perform c x.os) x;refine(ih _ _ _).of ?_ ?_ ?_<;>(unfold World.sys;split<;>rename_i J<;>(try rw[J]at h)<;>first|exact jE|rfl|exact h.2.2|exact h.2.1|exact jw (Z1 _ h.1.symm))
 |getObj r k ih=>
  intro x es;simp only[cN];split<;>first|exact⟨jE,rfl,jE⟩|exact ih _ _ _
 |setObj r o k ih=>
  intro x es;simp only[cN];split<;>first|exact⟨jE,rfl,jE⟩|exact(ih _ _).of jE rfl aC
 |choose q k ih=>
  intro x es;simp only[cN];split
  .exact ih _ _ _
  .exact(ih _ _ es).of (Nat.le_succ _) rfl jE
theorem B{s:Sem α}{k:α->Sem β}(hs:Rb e s)(hk:∀a,Rb e (k a)):Rb e (s >>= k):=by
 intro x es r Y E y hw;rw[runT_bind]at E;have m0:=mono (P:=e.P) s x es;cases h0:s.runT e.P x es with
 |mk r0 es0=>
 rw[h0]at E m0;cases r0 with
 |halt h x0=>
  cases E;obtain J|⟨hf,hq⟩:=hs x es _ _ h0 y hw
  .exact cJ (by revert J;cases h<;>exact id)
  .refine cK ⟨by revert hf;cases h<;>exact id,λfs ha=>?_⟩;obtain⟨y1,ev,b2,q⟩:=hq fs ha;exact⟨y1,ev,by rw[runT_bind,b2];rfl,q⟩
 |ok a x0=>
  simp only at E;have m1:=mono (P:=e.P) (k a) x0 es0;rw[E]at m1;obtain⟨a1,a2,a3⟩:=m0;have c1:x0.drawn<=(wd r).drawn:=m1.1;have c3:x0.heap.size<=(wd r).heap.size:=m1.2.2;simp only[wd]at a1 a2 a3;obtain⟨y',_,_,t',_⟩:=((hs x es _ _ h0 _ hw.own).resolve_left (by simp[bad])).2 #[] λ_ _=>rfl;obtain J|⟨hf,_⟩:=hk a x0 es0 r Y E y' t'.wp
  .exact cJ J
  refine cK ⟨hf,λfs ha=>?_⟩;obtain⟨y0,ev,b2,q,b4⟩:=((hs x es _ _ h0 y hw).resolve_left (by simp[bad])).2 fs λi hi=>ha i (by have hi:i<x0.drawn-x.drawn:=hi;omega)
  obtain⟨y1,ab,d2,I,d4⟩:=((hk a x0 es0 r Y E y0 q.wp).resolve_left (Q8 hf)).2 (fs++ev) λi hi=>by
   have:=ha (x0.drawn-x.drawn+i) aA;simp only[wd]at q;rw[q.tape,q.drawn,a2,dV,this,<-dV,Nat.add_sub_cancel' a1]
  have aa:=q.drawn;simp only[wd]at aa b4;refine⟨y1,ev++ab,by rw[runT_bind,b2,<-Array.append_assoc];exact d2,⟨I.wp,I.tape.trans q.tape,by rw[I.drawn,aa];omega,λb J=>(I.dead b J).trans (q.dead b J),I.still.1.trans q.still.1,I.still.2.trans q.still.2⟩,λv hv=>?_⟩;obtain hv|hv:=Array.mem_append.1 hv
  .exact(b4 v hv).le c3
  .exact d4 v hv
theorem IT{c:Prop}[Decidable c]{s t:Sem α}(h:Rb e s)(k:Rb e t):Rb e (if c then s else t):=by
 split
 .exact h
 .exact k
theorem PR{k:cY->Sem α}(h:k e.Q=k e.P)(hk:Rb e (k e.P)):Rb e (program >>= k):=by intro x es r q E y hw;have:=hk x es r q E y hw;rw[<-h]at this;exact this
theorem jU(q:Question):Rb e (choose q):=by
 intro x es r J E y hw;simp only[choose,cN]at E;split at E<;>rename_i I<;>cases E
 .exact cK ⟨rfl,λfs _=>⟨y,#[],by simp only[choose,cN,I,if_true,je];rfl,hw.stay,aC⟩⟩
 .refine cK ⟨rfl,λfs Y=>⟨{ y with drawn:=y.drawn+1 },#[],?_,⟨⟨hw.os,hw.output,hw.size,hw.out,hw.inn,hw.objs⟩,rfl,by simp[wd],λ_ _=>rfl,rfl,rfl⟩,aC⟩⟩;have:=Y 0 (by simp[wd]);simp only[Nat.add_zero]at this;simp only[choose,cN,I,if_false,bU,this,je];rfl
theorem TB{p:Prop}(h:p:=by repeat' first|with_reducible exact X2 _|with_reducible refine B ?_ λ_=>?_|with_reducible refine IT ?_ ?_|exact H _|split|(simp;done)|dsimp only|exact B (jU _) λ_=>X2 _):p:=h
theorem TP{p:Prop}(h:p:=by repeat' first|((with_reducible refine PR ?_ ?_);· rfl)|with_reducible exact X2 _|with_reducible refine B ?_ λ_=>?_|with_reducible refine IT ?_ ?_|exact H _|split|(simp;done)|dsimp only|exact B (jU _) λ_=>X2 _):p:=h
theorem J9(h:WP e x y){b:Nat}(q:e.D b):b<x.heap.size:=by rcases h.inn b q with⟨c,t,_,h,_⟩|⟨l,_,h,_⟩<;>exact(jG h)
theorem NB{o:pT}{k:Nat->Sem α}(ho:yJ e o)(hk:∀r,¬e.D r->Rb e (k r)):Rb e (newObj o >>= k):=by
 intro x es r J hr y hw;have hd:¬e.D x.heap.size:=λh=>Nat.lt_irrefl _ (J9 hw h)
 have ht:To e x { x with heap:=x.heap.push o } y { y with heap:=y.heap.push o }:=by
  refine⟨⟨hw.os,hw.output,by simp[hw.size],λb q=>?_,λb q=>?_,λb l I=>?_⟩,rfl,aC,λb q=>?_,rfl,rfl⟩
  .simp only[iD,hw.size,hw.out b q]
  .have:=J9 hw q;have hs:=hw.size;simp only[iD,hs,Zs (show ¬b=x.heap.size by omega)];exact hw.inn b q
  .simp only[iD]at I;split at I
   .cases I;exact ho
   .exact hw.objs b l I
  .have:=J9 hw q;simp only[iD,hw.size,Zs (show ¬b=x.heap.size by omega)]
 obtain q|⟨hf,hq⟩:=hk _ hd { x with heap:=x.heap.push o } es r J hr _ ht.wp
 .exact cJ q
 refine cK ⟨hf,λfs ha=>?_⟩;obtain⟨y1,ev,Y,E,b4⟩:=hq fs ha;refine⟨y1,ev,?_,⟨E.wp,E.tape,E.drawn,λb q=>(E.dead b q).trans (ht.dead b q),E.still⟩,b4⟩;rw[<-hw.size]at Y;exact Y
end
end
section
section
variable (T:Tables)(F G:Array Func)
theorem aa9(d:Nat):plainCell ⟨T,F⟩ d=plainCell ⟨T,G⟩ d:=by
 induction d with
 |zero=>rfl
 |succ d ih=>funext t o;simp only[plainCell,ih];rfl
theorem qL(d:Nat):byteOfCell ⟨T,F⟩ d=byteOfCell ⟨T,G⟩ d:=by
 induction d with
 |zero=>rfl
 |succ d ih=>funext t o;simp only[byteOfCell,ih];rfl
theorem VB(d:Nat):cellHolding ⟨T,F⟩ d=cellHolding ⟨T,G⟩ d:=by
 induction d with
 |zero=>rfl
 |succ d ih=>funext t o;simp only[cellHolding,ih];rfl
theorem abM(d:Nat):tight ⟨T,F⟩ d=tight ⟨T,G⟩ d:=by
 induction d with
 |zero=>rfl
 |succ d ih=>funext t;simp only[tight,ih];rfl
theorem NS(c:Array aD)(t:cH)(f:Nat):seenCells ⟨T,F⟩ c t f=seenCells ⟨T,G⟩ c t f:=by
 induction f with
 |zero=>rfl
 |succ f ih=>funext x s;simp only[seenCells,ih,VB T F G];rfl
theorem YK(w:U)(a:gF)(u:cH)(k:gF)(b:Bool):w.seen ⟨T,F⟩ a u k b=w.seen ⟨T,G⟩ a u k b:=by simp only[World.seen,aa9 T F G,qL T F G,NS T F G];rfl
theorem TA(w:U)(a:gF)(b:Bool):w.farLoad ⟨T,F⟩ a b=w.farLoad ⟨T,G⟩ a b:=by simp only[World.farLoad,World.viewLoad,YK T F G]
theorem OZ(w:U)(a:gF)(v:aD)(b:Bool):w.farStore ⟨T,F⟩ a v b=w.farStore ⟨T,G⟩ a v b:=by simp only[ly,World.viewStore,YK T F G,abM T F G];rfl
end
section
variable {P:cY}{w:U}
theorem seen_cells{x:gF}{u:cH}{k:gF}{b:Bool}{y}(h:w.seen P x u k b=.ok y):∃c t f,w.heap[x.block]? =M (aG c t f):=by
 unfold World.seen at h;simp only[bind,Except.bind,mU,throwThe,mp,pure,Except.pure]at h
 repeat' split at h
 all_goals first|(cases h;done)|exact⟨_,_,_,‹w.heap[x.block]? =M _›⟩
end
end
section
variable {v:aD}
section
variable {P:cY}{w w' x y:U}{e:Env}{α:Type}{b:Nat}
theorem WP.nd(h:WP e x y){o:pT}(q:x.heap[b]? =M o)(E:∀c t,o≠.pending c t)(h2:o≠.coro Z):¬e.D b:=λhd=>by
 rcases h.inn b hd with⟨c,t,_,k,_⟩|⟨l,_,k,_⟩<;>rw[k]at q<;>cases q
 .exact E _ _ rfl
 .exact h2 rfl
theorem OX{a:gF}{b:Bool}{l:List gF}(h:w.farLoad P a b=.ok (v,l)):∃x u,w.heap[a.block]? =M (.view x u)/\(∃c t f,w.heap[x.block]? =M (aG c t f))/\(∀z∈l,z.block=x.block)/\∀w':U,w'.heap[a.block]? =w.heap[a.block]?->w'.heap[x.block]? =w.heap[x.block]?->w'.farLoad P a b=.ok (v,l):=by
 have J:=h;unfold World.farLoad at h;split at h
 .rename_i x u E
  have key:∀w':U,w'.heap[a.block]? =w.heap[a.block]?->w'.heap[x.block]? =w.heap[x.block]?->w'.farLoad P a b=.ok (v,l):=λw' I k2=>by
   rw[<-J];unfold World.farLoad;rw[I,E];simp only[World.viewLoad,World.seen,k2]
  refine⟨x,u,E,?_,?_,key⟩<;>
  .unfold World.viewLoad at h;simp only[bind,Except.bind,pure,Except.pure,mU,throwThe,mp]at h;cases hs:w.seen P x u a b with
   |error y=>rw[hs]at h;cases h
   |ok y=>
    first
    |exact seen_cells hs
    |(obtain⟨c,t,fr,first,like,cells⟩:=y
      rw[hs]at h;simp only at h;generalize like.ofBytes _=ob at h;cases ob with
      |none=>cases h
      |some z=>
       simp only[Except.ok.injEq,dJ]at h;obtain⟨_,rfl⟩:=h;intro y Y;obtain⟨q,_,rfl⟩:=bM.1 Y;rfl)
 .cases h
theorem RJ{a:gF}(h:w.cell? a=M v):∃c t f,w.heap[a.block]? =M (aG c t f):=by
 unfold fR at h;split at h
 .exact⟨_,_,_,‹_›⟩
 .cases h
theorem zh{o:pT}(h:w.heap[b]? =M o):b<w.heap.size:=(jG h)
theorem JC(a:gF)(m:Mode:=.plain):Rb e (load a m):=by
 intro x es r ae E y hw;simp only[load,cN]at E;cases q:x.cell? a with
 |some v=>
  rw[q]at E;cases E;obtain⟨c,t,f,Y⟩:=RJ q;have hd:=hw.nd Y aC aC;have J:y.cell? a=M v:=by unfold fR at q⊢;rw[hw.out _ hd];exact q
  exact cK ⟨rfl,λfs _=>⟨y,#[⟨.cell a,aL,m == .atomic⟩],by simp only[load,cN,J];rfl,hw.stay,λv q=>by simp at q;subst q;exact⟨hd,zh Y⟩⟩⟩
 |none=>
  rw[q]at E;simp only at E;cases I:x.farLoad e.P a (m == .atomic)with
  |error h=>
   rw[I]at E;cases E;left;unfold World.farLoad at I;split at I
   .split at I<;>cases I;rfl
   .cases I;unfold World.noCell;split<;>rfl
  |ok z=>
   obtain⟨v,l⟩:=z;rw[I]at E;cases E;obtain⟨p,u,hp,⟨c,t,f,Y⟩,hm,aa⟩:=OX I;have hd:=hw.nd Y aC aC;have ab:=hw.nd hp aC aC
   have ac:y.farLoad e.Q a (m == .atomic)=.ok (v,l):=by
    rw[TA e.T e.G e.F];exact aa y (hw.out _ ab) (hw.out _ hd)
   have J:y.cell? a=Z:=by unfold fR at q⊢;rw[hw.out _ ab];exact q
   refine cK ⟨rfl,λfs _=>⟨y,l.toArray.map (⟨.cell ·,aL,m == .atomic⟩),by simp only[load,cN,J,ac];rfl,hw.stay,λv q=>?_⟩⟩;obtain⟨z,hz,rfl⟩:=Array.mem_map.1 q;have:=hm z (by simpa using hz);exact⟨by rw[this];exact hd,by rw[this];exact zh Y⟩
end
end
section
section
variable {P:cY}{w w' x y:U}{e:Env}{α:Type}{b:Nat}
theorem WP.put(h:WP e x y)(J:¬e.D b){hp hp':Array pT}(hs:hp.size=x.heap.size)(E:hp'.size=y.heap.size)(I:∀z,z≠b->hp[z]? =x.heap[z]?)(h2:∀z,z≠b->hp'[z]? =y.heap[z]?)(h3:hp'[b]? =hp[b]?)(Y:∀o,hp[b]? =M o->yJ e o):To e x { x with heap:=hp } y { y with heap:=hp' }:=by
 refine⟨⟨h.os,h.output,by show hp'.size=hp.size;rw[hs,E,h.size],λz q=>?_,λz q=>?_,λz l q=>?_⟩,rfl,aC,λz q=>h2 z λk=>J (k ▸ q),rfl,rfl⟩
 .show hp'[z]? =hp[z]?
  by_cases k:z=b
  .subst k;exact h3
  .rw[I z k,h2 z k];exact h.out z q
 .show(∃c t,hp'[z]? =_/\hp[z]? =_/\_)\/∃o,hp'[z]? =M o/\hp[z]? =_/\_
  rw[I z λk=>J (k ▸ q),h2 z λk=>J (k ▸ q)];exact h.inn z q
 .have q:hp[z]? =M l:=q;by_cases k:z=b
  .subst k;exact Y _ q
  .rw[I z k]at q;exact h.objs z l q
theorem WP.set(h:WP e x y)(E:¬e.D b)(o:pT)(q:yJ e o):To e x { x with heap:=x.heap.setIfInBounds b o } y { y with heap:=y.heap.setIfInBounds b o }:=
 h.put E aC aC (λz k=>dZ (Ne.symm k)) (λz k=>dZ (Ne.symm k)) (by simp[aV,h.size]) λo' k=>by
  rw[aV]at k;simp only[if_true]at k;split at k<;>cases k;exact q
theorem Lu{w1:U}{a:gF}{v:aD}{b:Bool}{l:List gF}(h:w.farStore P a v b=.ok (w1,l)):∃x u c t f,w.heap[a.block]? =M (.view x u)/\(∃c t f,w.heap[x.block]? =M (aG c t f))/\(∀z∈l,z.block=x.block)/\w1={ w with heap:=w.heap.setIfInBounds x.block (aG c t f) }/\∀w':U,w'.heap[a.block]? =w.heap[a.block]?->w'.heap[x.block]? =w.heap[x.block]?->w'.farStore P a v b=.ok ({ w' with heap:=w'.heap.setIfInBounds x.block (aG c t f) },l):=by
 unfold ly at h;cases h4:w.heap[a.block]? with
 |none=>rw[h4]at h;cases h
 |some ob=>
 rw[h4]at h;cases ob with
 |view x u=>
  simp only at h;unfold World.viewStore at h;simp only[bind,Except.bind,pure,Except.pure,mU,throwThe,mp]at h;by_cases J:(!tight P P.depth u)=bB
  .rw[ZD J]at h;cases h
  rw[Zs J]at h;cases hs:w.seen P x u a b with
  |error _=>rw[hs]at h;cases h
  |ok y=>
  have hc:=seen_cells hs;obtain⟨c,Y,fr,first,like,cells⟩:=y;rw[hs]at h;simp only at h;cases I:v.bytes? with
  |none=>rw[I]at h;cases h
  |some bs=>
  rw[I]at h;simp only at h;by_cases h2:M bs.length≠Option.map (λx=>x.length) like.bytes?
  .rw[ZD h2]at h;cases h
  rw[Zs h2]at h;generalize hg:(List.foldlM _ c cells:Except String (Array aD))=r at h;cases r with
  |error _=>cases h
  |ok d=>
   simp only[Except.ok.injEq,dJ]at h;obtain⟨rfl,rfl⟩:=h;refine⟨x,u,d,Y,fr,rfl,hc,λz hz=>?_,rfl,λw' k1 k2=>?_⟩
   .obtain⟨q,_,rfl⟩:=bM.1 hz;rfl
   .have E:w'.seen P x u a b=.ok (c,Y,fr,first,like,cells):=by rw[<-hs];simp only[World.seen,k2]
    unfold ly;rw[k1];simp only;unfold World.viewStore;simp only[bind,Except.bind,pure,Except.pure,mU,throwThe,mp];rw[Zs J,E];simp only[I];rw[Zs h2,hg]
 |_=>cases h
theorem Zh(a:gF)(v:aD)(m:Mode:=.plain):Rb e (store a v m):=by
 intro x es r ag E y hw
 have ns:∀(W:U) P es,(∀z,v≠.agg z)->(∀z,v≠.tuple z)->(store a v m).runT P W es=match W.cell? a with
   |some _=>if W.frozen? a then(.halt (.unsupported (.unsafePointer "a write to bytes that a string shares")) W,es)else(.ok () (W.setCell a v),es.push ⟨.cell a,bB,m == .atomic⟩)
   |none=>match W.farStore P a v (m == .atomic)with
    |.ok (W,l)=>(.ok () W,es++l.toArray.map (⟨.cell ·,bB,m == .atomic⟩))
    |.error x=>(.halt x W,es):=λW P es J k2=>by
  cases v<;>first|rfl|exact Xs rfl (J _)|exact Xs rfl (k2 _)
 by_cases J:∀z,v≠.agg z
 case neg=>
  obtain⟨z,J⟩:=Classical.not_forall.1 J;cases Classical.not_not.1 J;cases E;exact cJ rfl
 by_cases k2:∀z,v≠.tuple z
 case neg=>
  obtain⟨z,k2⟩:=Classical.not_forall.1 k2;cases Classical.not_not.1 k2;cases E;exact cJ rfl
 rw[ns _ _ _ J k2]at E;cases I:x.cell? a with
 |some u=>
  rw[I]at E;simp only at E;cases Y:x.frozen? a with
  |true=>rw[Y]at E;cases E;exact cJ rfl
  |false=>
   rw[Y]at E;cases E;obtain⟨c,t,f,hb⟩:=RJ I;have hd:=hw.nd hb aC aC;have aa:y.cell? a=M u:=by unfold fR at I⊢;rw[hw.out _ hd];exact I
   have af:y.frozen? a=aL:=by unfold l8 at Y⊢;rw[hw.out _ hd];exact Y
   refine cK ⟨rfl,λfs _=>⟨y.setCell a v,#[⟨.cell a,bB,m == .atomic⟩],by rw[ns _ _ _ J k2,aa];simp only[af];rfl,?_,λv I=>by simp at I;subst I;exact⟨hd,by simp[wd,eW];exact zh hb⟩⟩⟩
   have key:∀(q:U) z,z≠a.block->(q.setCell a v).heap[z]? =q.heap[z]?:=λq z Y=>by
    simp only[eW,bT,Zs (Ne.symm Y)]
   exact hw.put (b:=a.block) (hp:=(x.setCell a v).heap) (hp':=(y.setCell a v).heap) hd (by simp[eW]) (by simp[eW]) (key x) (key y) (by simp only[eW,bT,hw.out _ hd]) λo k=>by
    simp only[eW,bT,if_true,hb,cO,aK]at k;subst k;trivial
 |none=>
  rw[I]at E;simp only at E;cases hl:x.farStore e.P a v (m == .atomic)with
  |error h=>
   rw[hl]at E;cases E;left;unfold ly at hl;split at hl
   .split at hl<;>cases hl;rfl
   .cases hl;unfold World.noCell;split<;>rfl
  |ok z=>
   obtain⟨x1,l⟩:=z;rw[hl]at E;cases E;obtain⟨p,u,c1,t1,f1,hp,⟨c,t,f,hb⟩,hm,rfl,ac⟩:=Lu hl;have hd:=hw.nd hb aC aC;have ae:=hw.nd hp aC aC;have ab:=ac y (hw.out _ ae) (hw.out _ hd);rw[OZ e.T e.F e.G]at ab;have aa:y.cell? a=Z:=by unfold fR at I⊢;rw[hw.out _ ae];exact I
   refine cK ⟨rfl,λfs _=>⟨_,l.toArray.map (⟨.cell ·,bB,m == .atomic⟩),by rw[ns _ _ _ J k2,aa];simp only[ab];rfl,hw.set hd _ trivial,λv I=>?_⟩⟩;obtain⟨z,Y,rfl⟩:=Array.mem_map.1 I;have:=hm z (by simpa using Y);exact⟨by rw[this];exact hd,by rw[this];simp[wd];exact zh hb⟩
end
end
section
variable {r:Nat}
section
variable {P:cY}{w w' x y:U}{e:Env}{α:Type}{b:Nat}
theorem GO{k:pT->Sem α}(hX:(∃s,k (.coro Z)=stuck s)/\∀c t,∃s,k (.pending c t)=stuck s)(hk:¬e.D r->∀o,yJ e o->Rb e (k o)):Rb e (getObj r >>= k):=by
 intro x es q aa E y hw
 have I:∀P (W:U) es,(getObj r >>= k).runT P W es=match W.heap[r]? with
   |some (aG ..)=>(.halt (.stuck "getObj: a row of cells") W,es)
   |some o=>(k o).runT P W (es.push ⟨.obj r,aL,o.isChan⟩)
   |none=>(.halt (.stuck "getObj: no such block") W,es):=λP W es=>by
  show cN P (.getObj r λo=>k o) W es=_
  simp only[cN];cases W.heap[r]? with
  |none=>rfl
  |some o=>cases o<;>rfl
 rw[I]at E;cases ho:x.heap[r]? with
 |none=>rw[ho]at E;cases E;exact cJ rfl
 |some o=>
  by_cases hc:∃c t f,o=aG c t f
  .obtain⟨c,t,f,rfl⟩:=hc;rw[ho]at E;cases E;exact cJ rfl
  have J:∀P (W:U) es,W.heap[r]? =M o->(getObj r >>= k).runT P W es=(k o).runT P W (es.push ⟨.obj r,aL,o.isChan⟩):=λP W es h=>by
   rw[I,h];cases o<;>first|rfl|exact Xs ⟨_,_,_,rfl⟩ hc
  by_cases hd:e.D r
  .left;rw[<-I,J _ _ _ ho]at E;rcases hw.inn r hd with⟨c,t,_,h,_⟩|⟨l,_,h,_⟩<;>rw[h]at ho<;>cases ho
   .obtain⟨s,hs⟩:=hX.2 c t;rw[hs]at E;cases E;rfl
   .obtain⟨s,hs⟩:=hX.1;rw[hs]at E;cases E;rfl
  rw[<-I,J _ _ _ ho]at E;have hm:=(mono (P:=e.P) (k o) x (es.push ⟨.obj r,aL,o.isChan⟩)).2.2;rw[E]at hm;obtain hb|⟨hf,hq⟩:=hk hd o (hw.objs r o ho) x _ q aa E y hw
  .exact cJ hb
  refine cK ⟨hf,λfs ha=>?_⟩;obtain⟨y1,ev,b2,b3,b4⟩:=hq (fs.push ⟨.obj r,aL,o.isChan⟩) ha;refine⟨y1,#[⟨.obj r,aL,o.isChan⟩]++ev,by rw[J _ _ _ ((hw.out r hd).trans ho),b2];simp,b3,λv Y=>?_⟩;obtain Y|Y:=Array.mem_append.1 Y
  .simp at Y;subst Y;exact aP (zh ho) hm
  .exact b4 v Y
theorem nJ(o:pT)(hd:¬e.D r)(ho:yJ e o):Rb e (setObj r o):=by
 intro x es q aa I y hw
 have E:∀P (W:U) es,(setObj r o).runT P W es=match W.heap[r]? with
   |some (aG ..)=>(.halt (.stuck "setObj: a row of cells") W,es)
   |some _=>(.ok () { W with heap:=W.heap.setIfInBounds r o },es.push ⟨.obj r,bB,o.isChan⟩)
   |none=>(.halt (.stuck "setObj: no such block") W,es):=λP W es=>rfl
 rw[E]at I;cases hp:x.heap[r]? with
 |none=>rw[hp]at I;cases I;exact cJ rfl
 |some p=>
  by_cases hc:∃c t f,p=aG c t f
  .obtain⟨c,t,f,rfl⟩:=hc;rw[hp]at I;cases I;exact cJ rfl
  have J:∀P (W:U) es,W.heap[r]? =M p->(setObj r o).runT P W es=(.ok () { W with heap:=W.heap.setIfInBounds r o },es.push ⟨.obj r,bB,o.isChan⟩):=λP W es h=>by
   rw[E,h];cases p<;>first|rfl|exact Xs ⟨_,_,_,rfl⟩ hc
  rw[<-E (e.P) x,J _ _ _ hp]at I;cases I;exact cK ⟨rfl,λfs _=>⟨_,#[⟨_,bB,_⟩],J _ _ _ ((hw.out r hd).trans hp),hw.set hd o ho,λv Y=>by simp at Y;subst Y;simp only[Av,wd,jm];exact zh hp⟩⟩
theorem TO{p:Prop}(h:p:=by repeat' first|exact nJ _ (by assumption) trivial|((with_reducible refine GO ⟨⟨_,rfl⟩,λ_ _=>⟨_,rfl⟩⟩ λhd o _=>?_))|with_reducible exact X2 _|with_reducible refine B ?_ λ_=>?_|with_reducible refine IT ?_ ?_|exact H _|split|(simp;done)|dsimp only|exact B (jU _) λ_=>X2 _):p:=h
theorem SH{k:Option (cH×Nat)->Sem α}(hk:∀o,Rb e (k o))(hn:e.D r->∃h,k Z=.halt h/\∀w,bad (.halt h w:Result α)=bB):Rb e (shape r >>= k):=by
 intro x es q J I y hw;have E:∀P (W:U) es,(shape r >>= k).runT P W es=(k (W.shape? r)).runT P W es:=λP W es=>rfl;rw[E]at I;by_cases hd:e.D r
 .have:x.shape? r=Z:=by
   unfold gC;rcases hw.inn r hd with⟨c,t,Y,h2,_⟩|⟨l,Y,h2,_⟩<;>rw[h2]
  rw[this]at I;obtain⟨h,Y,h2⟩:=hn hd;rw[Y]at I;cases I;exact cJ (h2 _)
 .have:y.shape? r=x.shape? r:=by unfold gC;rw[hw.out r hd]
  obtain hb|⟨hf,hq⟩:=hk _ x es q J I y hw
  .exact cJ hb
  refine cK ⟨hf,λfs ha=>?_⟩;rw[E,this];exact hq fs ha
theorem WP.adk(hw:WP e x y)(a:gF):y.frozen? a=x.frozen? a:=by
 unfold l8;by_cases hd:e.D a.block
 .rcases hw.inn _ hd with⟨c,t,q,h2,_⟩|⟨l,q,h2,h3⟩<;>rw[q,h2]
  .simp
  .cases l<;>first|rfl|cases h3
 .rw[hw.out _ hd]
theorem Uw(a:gF):Rb e (frozen a):=by intro x es r q E y hw;cases E;exact cK ⟨rfl,λfs _=>⟨y,#[],by simp only[frozen,cN,hw.adk,je];rfl,hw.stay,aC⟩⟩
theorem IW(a:gF)(n:Nat)(hd:¬e.D a.block):Rb e (freeze a n):=by
 intro x es r I hr y hw;cases hr;refine cK ⟨rfl,λfs _=>⟨y.freeze a n,#[],by simp only[je];rfl,?_,aC⟩⟩
 show To e x (x.freeze a n) y (y.freeze a n)
 by_cases E:n=0
 .subst E;exact hw.stay
 have key:∀(q:U) z,z≠a.block->(q.freeze a n).heap[z]? =q.heap[z]?:=λq z J=>by
  simp only[iN,Zs E,bT,Zs (Ne.symm J)]
 have hx:x.freeze a n={ x with heap:=(x.freeze a n).heap }:=by simp only[iN,Zs E]
 have Y:y.freeze a n={ y with heap:=(y.freeze a n).heap }:=by simp only[iN,Zs E]
 rw[hx,Y];refine hw.put (b:=a.block) hd (by simp[iN,E]) (by simp[iN,E]) (key x) (key y) (by simp only[iN,Zs E,bT,hw.out _ hd]) λo k=>?_;simp only[iN,Zs E,bT,if_true]at k;cases ho:x.heap[a.block]? with
 |none=>rw[ho]at k;cases k
 |some p=>
  rw[ho]at k;simp only[cO,aK]at k;have:=hw.objs _ _ ho;cases p<;>(subst k;first|trivial|exact this)
theorem RZ(m:Mark)(E:m=.noRoom\/∃f,m=.extern f):Rb e (mark m):=by intro x es r I J y hw;cases J;exact cK ⟨rfl,λfs _=>⟨y,#[⟨_,aL,bB⟩],rfl,hw.stay,λv q=>by simp at q;subst q;rcases E with rfl|⟨f,rfl⟩<;>trivial⟩⟩
theorem RD{s:Sem α}(g:U->Option α)(hs:∀P W es,∃h ev,s.runT P W es=(match g W with|some a=>.ok a W|none=>.halt (.stuck h) W,es++ev)/\∀v∈ev,Av e W.heap.size v)(Y:∀x y,WP e x y->∀a,g x=M a->g y=M a):Rb e s:=by
 intro x es q aa E y hw;obtain⟨h,ev,h1,_⟩:=hs e.P x es;rw[h1]at E;cases I:g x with
 |none=>rw[I]at E;cases E;exact cJ rfl
 |some a=>
  rw[I]at E;cases E;refine cK ⟨rfl,λfs _=>?_⟩;obtain⟨h',J,h2,h3⟩:=hs e.Q y fs;rw[hw.size]at h3;rw[Y x y hw a I]at h2;exact⟨y,J,h2,hw.stay,h3⟩
def JU(r:Nat)(w:U):Option (Option (gF×cH)):=(w.heap[r]?).map fun|.view a t=>M (a,t)|_=>Z
def numOf(r:Nat)(w:U):Option (Option (gF×Bool)):=(w.heap[r]?).map fun|.number a t=>M (a,t)|_=>Z
def cellsOf(r:Nat)(w:U):Option (Option Nat):=(w.heap[r]?).map fun|aG c _ _=>M c.size|.pending c _=>M c.size|_=>Z
theorem zN(f:pT->α)(J:∀c t,f (aG c t (0,0))=f (.pending c t))(h2:∀o,ghost o=bB->f o=f (.coro Z))(hw:WP e x y)(r:Nat):(y.heap[r]?).map f=(x.heap[r]?).map f:=by
 by_cases hd:e.D r
 .rcases hw.inn r hd with⟨c,t,q,E,_⟩|⟨l,q,E,I⟩<;>rw[q,E]
  .exact Z1 M (J c t)
  .exact Z1 M (h2 l I)
 .rw[hw.out r hd]
theorem Vx(r:Nat):Rb e (viewAt r):=by
 refine RD (JU r) (λP W es=>?_) λx y hw a E=>by rw[<-E];exact zN _ (λ_ _=>rfl) (λo h=>by cases o<;>first|rfl|cases h) hw r
 cases ho:W.heap[r]? with
 |none=>exact⟨ "getObj: no such block",#[],by simp[viewAt,shape,getObj,bind,fY,cN,gC,JU,ho,pure],aC⟩
 |some o=>
  cases o with
  |cells c t f=>exact⟨ "",#[],by simp[viewAt,shape,getObj,bind,fY,cN,gC,JU,ho,pure],aC⟩
  |_=>exact⟨ "",#[⟨.obj r,aL,_⟩],by simp[viewAt,shape,getObj,bind,fY,cN,gC,JU,ho,pure];rfl,λv q=>by simp at q;subst q;exact zh ho⟩
theorem LM(r:Nat):Rb e (numberAt r):=by
 refine RD (numOf r) (λP W es=>?_) λx y hw a E=>by rw[<-E];exact zN _ (λ_ _=>rfl) (λo h=>by cases o<;>first|rfl|cases h) hw r
 cases ho:W.heap[r]? with
 |none=>exact⟨ "getObj: no such block",#[],by simp[numberAt,shape,getObj,bind,fY,cN,gC,numOf,ho,pure],aC⟩
 |some o=>
  cases o with
  |cells c t f=>exact⟨ "",#[],by simp[numberAt,shape,getObj,bind,fY,cN,gC,numOf,ho,pure],aC⟩
  |_=>exact⟨ "",#[⟨.obj r,aL,_⟩],by simp[numberAt,shape,getObj,bind,fY,cN,gC,numOf,ho,pure];rfl,λv q=>by simp at q;subst q;exact zh ho⟩
theorem Qk(r:Nat):Rb e (cellsIn r):=by
 refine RD (cellsOf r) (λP W es=>?_) λx y hw a E=>by rw[<-E];exact zN _ (λ_ _=>rfl) (λo h=>by cases o<;>first|rfl|cases h) hw r
 cases ho:W.heap[r]? with
 |none=>exact⟨ "getObj: no such block",#[],by simp[cellsIn,shape,getObj,bind,fY,cN,gC,cellsOf,ho,pure],aC⟩
 |some o=>
  cases o with
  |cells c t f=>exact⟨ "",#[],by simp[cellsIn,shape,getObj,bind,fY,cN,gC,cellsOf,ho,pure],aC⟩
  |_=>exact⟨ "",#[⟨.obj r,aL,_⟩],by simp[cellsIn,shape,getObj,bind,fY,cN,gC,cellsOf,ho,pure];rfl,λv q=>by simp at q;subst q;exact zh ho⟩
def pz(a:gF)(w:U):Bool:=w.frozen? a || match w.shape? a.block with
 |some (_,n)=>w.frozen? { block:=a.block,off:=n }
 |none=>aL
theorem BG(hw:WP e x y)(a:gF):pz a y=pz a x:=by
 unfold pz;rw[hw.adk];by_cases hd:e.D a.block
 .unfold gC l8;rcases hw.inn _ hd with⟨c,t,q,E,_⟩|⟨l,q,E,I⟩<;>simp[q,E];cases l<;>first|rfl|cases I
 .have:y.shape? a.block=x.shape? a.block:=by unfold gC;rw[hw.out _ hd]
  rw[this];cases x.shape? a.block with
  |none=>rfl
  |some p=>simp only[hw.adk]
theorem Gq(P:cY)(a:gF)(W:U)(es:Array mb):(stringish a).runT P W es=(.ok (pz a W) W,es):=by
 simp only[stringish,frozen,shape,bind,fY,cN,pz];cases q:W.frozen? a with
 |true=>simp[cN,pure]
 |false=>cases hs:W.shape? a.block<;>simp[cN,pure,hs]
def QS(a b:gF)(w:U):Bool:=(pz a w&&pz b w) || (pz a w&&(w.shape? a.block matches M (_,0))) || (pz b w&&(w.shape? b.block matches M (_,0)))
theorem LD(a b:gF):Rb e (mayBeOne a b):=by
 refine RD (λw=>M (QS a b w)) (λP W es=>⟨ "",#[],?_,aC⟩) λx y hw c I=>?_
 .simp only[mayBeOne,shape,runT_bind,Gq];simp[cN,pure,QS];rfl
 .rw[<-I];unfold QS;rw[BG hw a,BG hw b]
  have key:∀a:gF,(pz a x&&(y.shape? a.block matches M (_,0)))=(pz a x&&(x.shape? a.block matches M (_,0))):=λa=>by
   by_cases hd:e.D a.block
   .have:pz a x=aL:=by
     unfold pz gC l8;rcases hw.inn _ hd with⟨c,t,E,q,_⟩|⟨l,E,q,_⟩<;>simp[q]
    rw[this];rfl
   .have:y.shape? a.block=x.shape? a.block:=by unfold gC;rw[hw.out _ hd]
    rw[this]
  rw[key a,key b]
end
end
end Po
