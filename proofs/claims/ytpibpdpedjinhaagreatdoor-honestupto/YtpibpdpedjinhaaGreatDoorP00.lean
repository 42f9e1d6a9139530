import Derived.Test.YtpibpdpedjinhaaGreatDoorPA
import Derived.Calls
import Derived.StepT
import Derived.Laws.Sem
import Derived.Conc.WgGenN2
import Derived.Conc.Beside
set_option maxRecDepth 100000
set_option linter.all false
open Go renaming Goroutine->bO,World->U,stepG->eB
open Go.Conc renaming Deaf_other->mN,Goes->jj,getElem?_append_cases->ix,lt_size_of_getElem?->nW
open Option renaming none->Z,some->M
open Or renaming inl->cJ,inr->cK
open Prod.Lex renaming left->js,right->j8
namespace Go.Proofs.YtpibpdpedjinhaaGreatDoor
namespace Cr
open Go Go.Conc Go.ConcN
open Go.ConcR (KK wgBlock WgAt stA smA rd wr Payload DC0)
section
variable {g:bO}
inductive Tr where
 |leaf
 |node (f:U->Tr)
variable {T:Tr}
def Tr.Lt(a b:Tr):Prop:=∃f w,b=.node f/\a=f w
theorem Tr.wf:WellFounded Tr.Lt:=⟨λa=>by
 induction a with
 |leaf=>exact⟨_,λy ⟨f,w,e,_⟩=>by cases e⟩
 |node f ih=>exact⟨_,λy ⟨f',w,e,h⟩=>by cases e;subst h;exact ih w⟩⟩
theorem Tr.lt(f:U->Tr)(w:U):Tr.Lt (f w) (.node f):=⟨f,w,rfl,rfl⟩
def Tr.chain:Nat->Tr
 |0=>.leaf
 |n+1=>.node λ_=>chain n
theorem Tr.Xm(n:Nat):Tr.Lt (Tr.chain n) (Tr.chain (n+1)):=⟨_,default,rfl,rfl⟩
def PL(j:Nat)(a b:Nat->Tr):Prop:=∃i,i<j/\Tr.Lt (a i) (b i)/\∀k,k≠i->a k=b k
theorem PL.wf(j:Nat):WellFounded (PL j):=by
 induction j with
 |zero=>exact⟨λa=>⟨_,λy ⟨i,J,_⟩=>Xs J aA⟩⟩
 |succ j ih=>
  refine Subrelation.wf (r:=InvImage (Prod.Lex Tr.Lt (PL j)) λf=>(f j,f)) ?_ (InvImage.wf _ (Prod.lex ⟨_,Tr.wf⟩ ⟨_,ih⟩).wf);rintro a b ⟨i,J,E,I⟩
  show Prod.Lex Tr.Lt (PL j) (a j,a) (b j,b)
  by_cases e:i=j
  .subst e;exact js _ _ E
  .rw[I j (Ne.symm e)];exact j8 _ ⟨i,aA,E,I⟩
abbrev Mu:=(Nat×Nat)×((Nat->Tr)×(Nat×Tr))
def FX:Nat×Tr->Nat×Tr->Prop:=Prod.Lex (·<·) Tr.Lt
def qA(n:Nat):Mu->Mu->Prop:=Prod.Lex (Prod.Lex (·<·) (·<·)) (Prod.Lex (PL n) FX)
theorem qA.wf(n:Nat):WellFounded (qA n):=
 (Prod.lex (Prod.lex Nat.lt_wfRel Nat.lt_wfRel) (Prod.lex ⟨PL n,PL.wf n⟩ (Prod.lex Nat.lt_wfRel ⟨Tr.Lt,Tr.wf⟩))).wf
section
variable {n q q' s s':Nat}{f f':Nat->Tr}{x x':Nat×Tr}
theorem qA.quit(h:q'<q):qA n ((q',s'),(f',x')) ((q,s),(f,x)):=js _ _ (js _ _ h)
theorem qA.stage(h:s'<s):qA n ((q,s'),(f',x')) ((q,s),(f,x)):=js _ _ (j8 _ h)
theorem qA.way(h:PL n f' f):qA n ((q,s),(f',x')) ((q,s),(f,x)):=j8 _ (js _ _ h)
theorem qA.own(h:FX x' x):qA n ((q,s),(f,x')) ((q,s),(f,x)):=j8 _ (j8 _ h)
end
theorem qA.trans{n:Nat}{a c:Mu}{q s s':Nat}{f:Nat->Tr}{x x':Nat×Tr}(h:qA n a ((q,s),(f,x)))(hs:s<s')(E:c=((q,s'),(f,x'))):qA n a c:=by
 subst E;obtain⟨⟨I,J⟩,Y⟩:=a;cases h with
 |left _ _ h=>
  cases h with
  |left _ _ h=>exact js _ _ (js _ _ h)
  |right _ h=>exact js _ _ (j8 _ aA)
 |right _ h=>exact js _ _ (j8 _ hs)
theorem FX.way{k:Nat}{a b:Tr}(h:Tr.Lt a b):FX (k,a) (k,b):=j8 _ h
structure jZ where
 O:Nat->Prop
 W:Nat->Prop
def jZ.grow(K:jZ)(a b:Nat):jZ:=⟨λx=>K.O x\/(a<=x/\x<b),λx=>K.W x\/(a<=x/\x<b)⟩
structure Who where
 Wg:Nat
 C:Nat
 n:Nat
 ty:TypeId
 lo:Nat
section
variable [Payload]
structure En(S:Who)(me:Option Nat)(K:jZ)(w w₁:U):Prop where
 tape:w₁.tape=w.tape
 os:w₁.os=w.os
 output:w₁.output=w.output
 size:w.heap.size<=w₁.heap.size
 block:∀b,K.O b->w₁.heap[b]? =w.heap[b]?
 live:WgLive S.ty S.Wg w->WgLive S.ty S.Wg w₁
 pay:PayAt S.C S.n w->PayAt S.C S.n w₁
 cell:∀i,me=M i->w₁.cell? ⟨S.C,i,Z⟩=w.cell? ⟨S.C,i,Z⟩
 low:∀b,b<S.lo->w₁.heap[b]? =w.heap[b]?
variable {S:Who}{me:Option Nat}{K:jZ}{w w₁ w₂:U}
theorem En.refl(S:Who)(me:Option Nat)(K:jZ)(w:U):En S me K w w:=⟨rfl,rfl,rfl,jE,λ_ _=>rfl,id,id,λ_ _=>rfl,λ_ _=>rfl⟩
theorem En.trans(h:En S me K w w₁)(k:En S me K w₁ w₂):En S me K w w₂:=
 ⟨k.tape.trans h.tape,k.os.trans h.os,k.output.trans h.output,bH h.size k.size,λb E=>(k.block b E).trans (h.block b E),k.live∘h.live,k.pay∘h.pay,λi I=>(k.cell i I).trans (h.cell i I),λb E=>(k.low b E).trans (h.low b E)⟩
theorem En.at(S:Who)(me:Option Nat)(K:jZ)(w:U)(d:Nat):En S me K w (w.at d):=⟨rfl,rfl,rfl,jE,λ_ _=>rfl,id,id,λ_ _=>rfl,λ_ _=>rfl⟩
def EvX(K:jZ)(n I:Nat)(e:Event):Prop:=
 (∃a wr,e=⟨.cell a,wr,false⟩/\((if wr then K.W a.block else K.O a.block)\/n<=a.block)/\a.block<I)\/(∃r wr,e=⟨.obj r,wr,false⟩/\((if wr then K.W r else K.O r)\/n<=r)/\r<I)\/
  (∃wr E,e=⟨.mark .noRoom,wr,E⟩)\/∃f wr E,e=⟨.mark (.extern f),wr,E⟩
def EvM(S:Who)(me:Option Nat)(K:jZ)(n E:Nat)(e:Event):Prop:=
 EvX K n E e\/(∃i wr,me=M i/\e=⟨.cell ⟨S.C,i,Z⟩,wr,false⟩)\/(me=Z/\(e=Go.ConcR.mk (.read (smA S.Wg))\/e=Go.ConcR.mk (.write (smA S.Wg))))
structure Gu(S:Who)(me:Option Nat)(K:jZ)(w w':U)(es:Array Event):Prop where
 tape:w'.tape=w.tape
 os:w'.os=w.os
 output:w'.output=w.output
 size:w.heap.size<=w'.heap.size
 block:∀b,b<w.heap.size->¬K.W b->(b=S.C->me=Z)->w'.heap[b]? =w.heap[b]?
 pay:PayAt S.C S.n w->PayAt S.C S.n w'
 cells:∀i,M i≠me->w'.cell? ⟨S.C,i,Z⟩=w.cell? ⟨S.C,i,Z⟩
 events:∀e∈es,EvM S me K w.heap.size w'.heap.size e
theorem Gu.still(S:Who)(me:Option Nat)(K:jZ)(w:U):Gu S me K w w #[]:=⟨rfl,rfl,rfl,jE,λ_ _ _ _=>rfl,id,λ_ _=>rfl,λe E=>by simp at E⟩
def jQ(P:Program)(main:Bool)(S:Who)(me:Option Nat)(Stop:jZ->bO->U->Prop):Tr->jZ->bO->U->Prop
 |.leaf,K,g,w=>∀w₁,En S me K w w₁->Stop K g w₁
 |.node f,K,g,w=>g.status=.running/\∀w₁,En S me K w w₁->∃g' w' es,eB P main g w₁=.go g' w' es/\Gu S me K w₁ w' es/\jQ P main S me Stop (f w₁) (K.grow w₁.heap.size w'.heap.size) g' w'
variable {P:Program}{main:Bool}{Stop Stop':jZ->bO->U->Prop}
theorem jQ.rely(h:jQ P main S me Stop T K g w)(I:En S me K w w₁):jQ P main S me Stop T K g w₁:=by
 cases T with
 |leaf=>exact λw₂ E=>h w₂ (I.trans E)
 |node f=>exact⟨h.1,λw₂ E=>h.2 w₂ (I.trans E)⟩
theorem jQ.mono:∀{K:jZ}{g:bO}{w:U},jQ P main S me Stop T K g w->(∀K g w,Stop K g w->Stop' K g w)->jQ P main S me Stop' T K g w:=by
 induction T with
 |leaf=>exact λh hs w₁ E=>hs _ _ _ (h w₁ E)
 |node f ih=>exact λh hs=>⟨h.1,λw₁ E=>let ⟨g',w',es,e,hg,hr⟩:=h.2 w₁ E;⟨g',w',es,e,hg,ih w₁ hr hs⟩⟩
theorem jQ.running(h:jQ P main S me Stop T K g w)(hs:∀K g w,Stop K g w->g.status=.running):g.status=.running:=by
 cases T with
 |leaf=>exact hs _ _ _ (h w (.refl ..))
 |node f=>exact h.1
theorem jQ.cases(h:jQ P main S me Stop T K g w):Stop K g w\/∃f g' w' es,T=.node f/\eB P main g w=.go g' w' es/\Gu S me K w w' es/\jQ P main S me Stop (f w) (K.grow w.heap.size w'.heap.size) g' w':=by
 cases T with
 |leaf=>exact cJ (h w (.refl ..))
 |node f=>obtain⟨g',w',es,e,I,E⟩:=h.2 w (.refl ..);exact cK ⟨f,g',w',es,rfl,e,I,E⟩
theorem jQ.bind:∀{K:jZ}{g:bO}{w:U},jQ P main S me Stop T K g w->(∀K g w,Stop K g w->∃T',jQ P main S me Stop' T' K g w)->∃T',jQ P main S me Stop' T' K g w:=by
 induction T with
 |leaf=>
  intro K g w h hs;obtain⟨T',I⟩:=hs _ _ _ (h w (.refl ..));exact⟨T',I⟩
 |node f ih=>
  intro K g w h hs
  have key:∀w₁,En S me K w w₁->∃T',∃g' w' es,eB P main g w₁=.go g' w' es/\Gu S me K w₁ w' es/\jQ P main S me Stop' T' (K.grow w₁.heap.size w'.heap.size) g' w':=by
   intro w₁ E;obtain⟨g',w',es,e,Y,J⟩:=h.2 w₁ E;obtain⟨T',I⟩:=ih w₁ J hs;exact⟨T',g',w',es,e,Y,I⟩
  refine⟨.node λw₁=>open Classical in if E:En S me K w w₁ then Classical.choose (key w₁ E)else .leaf,h.1,λw₁ E=>?_⟩;simp only[dif_pos E];exact gJ (key w₁ E)
theorem jQ.one(hs:g.status=.running)(h:∀w₁,En S me K w w₁->∃g' w' es,eB P main g w₁=.go g' w' es/\Gu S me K w₁ w' es/\∃T',jQ P main S me Stop T' (K.grow w₁.heap.size w'.heap.size) g' w'):∃T,jQ P main S me Stop T K g w:=by
 have key:∀w₁,En S me K w w₁->∃T',∃g' w' es,eB P main g w₁=.go g' w' es/\Gu S me K w₁ w' es/\jQ P main S me Stop T' (K.grow w₁.heap.size w'.heap.size) g' w':=by
  intro w₁ E;obtain⟨g',w',es,e,J,T',I⟩:=h w₁ E;exact⟨T',g',w',es,e,J,I⟩
 refine⟨.node λw₁=>open Classical in if E:En S me K w w₁ then Classical.choose (key w₁ E)else .leaf,hs,λw₁ E=>?_⟩;simp only[dif_pos E];exact gJ (key w₁ E)
theorem jQ.stop(h:∀w₁,En S me K w w₁->Stop K g w₁):∃T,jQ P main S me Stop T K g w:=⟨.leaf,h⟩
omit [Payload] in
theorem kP(K:jZ)(a:Nat):K.grow a a=K:=by
 cases K with
 |mk O W=>
  simp only[jZ.grow,jZ.mk.injEq];constructor<;>funext x<;>(refine propext ⟨λh=>h.elim id λh=>Xs h aA,cJ⟩)
theorem jQ.Rk{R:U->U->Prop}{J:bO->U->Prop}(I:∀w w₁,En S me K w w₁->R w w₁):∀{n:Nat}{g:bO}{w:U},jj P main R DC0 J n g w->∃T,jQ P main S me (λK' g w=>K'=K/\J g w) T K g w:=by
 intro n
 induction n with
 |zero=>exact λh=>jQ.stop λw₁ E=>⟨rfl,h w₁ (I _ _ E)⟩
 |succ n ih=>
  intro g w h;obtain h|⟨hs,h⟩:=h
  .exact jQ.stop λw₁ E=>⟨rfl,h w₁ (I _ _ E)⟩
  .refine jQ.one hs λw₁ E=>?_;have:=h w₁ (I _ _ E);cases Y:eB P main g w₁ with
   |go g' w' es=>
    rw[Y,goes_go]at this;obtain⟨⟨rfl,rfl⟩,hG⟩:=this;obtain⟨T,hT⟩:=ih hG;exact⟨g',w',_,rfl,.still ..,T,by rw[kP];exact hT⟩
   |_=>rw[Y]at this;exact this.elim
end
end
open Go.ConcR (KK wgBlock WgAt stA smA rd wr Payload DC0 Bk g_of_ofEvents loc_of_ofEvent ofEvent_cell ofEvent_loc_mark bk_of_mute)
section
def blk:Loc->Option Nat
 |.cell a=>M a.block
 |.obj r=>M r
 |_=>Z
def gno(m:Nat):Nat->Nat
 |0=>0
 |p+1=>m+p
def who:Nat->Option Nat
 |0=>Z
 |p+1=>M p
structure TM(t:Trace)(g:Nat)(K:jZ):Prop where
 own:∀l b,blk l=M b->K.W b->Perm t g l
 see:∀l b,blk l=M b->K.O b->PermW t g l
structure KN(S:Who)(sz j:Nat)(K:Nat->jZ):Prop where
 w:∀p,p<=j->∀b,(K p).W b->(K p).O b
 o:∀p,p<=j->∀b,(K p).O b->b<sz/\b≠S.Wg/\b≠S.C
 d:∀p q,p<=j->q<=j->p≠q->∀b,(K p).W b->¬(K q).O b
 hWg:S.Wg<sz
 hC:S.C<sz
 ne:S.C≠S.Wg
 lo:∀p,p<=j->∀b,(K p).W b->S.lo<=b
 lWg:S.lo<=S.Wg
 lC:S.lo<=S.C
structure TI(S:Who)(Shun:Loc->Prop)(m:Nat)(t:Trace)(sz j:Nat)(K:Nat->jZ):Prop where
 mem:∀p,p<=j->TM t (gno m p) (K p)
 cell:∀i,i<j->Perm t (m+i) (.cell ⟨S.C,i,Z⟩)
 cell0:∀i,j<=i->Perm t 0 (.cell ⟨S.C,i,Z⟩)
 quiet:Quiet (ShN S.Wg) t
 cls:∀i a,touchAt t i=M a->a.loc.isMemory=true->Knows t 0 i\/((Shun a.loc\/ShN S.Wg a.loc)/\a.kind=.atomic)\/((∃k,k<j/\t.g? i=M (m+k))/\(a.kind=.atomic->ShN S.Wg a.loc))
 nr:∀said,¬Race said t
 seen:∀op∈t,op.act.low sz
 norel:NoRelease (stA S.Wg) t
 above:∀g,m+j<=g->Deaf t g=0
 over:∀i g,t.g? i=M g->g≠0->t.counts i->(∃q,t.g? q=M 0/\HappensBefore t i q)\/∃k,k<j/\g=m+k
def Okt(S:Who)(p:Nat)(K:jZ)(sz sz':Nat)(x:Touch):Prop:=
 (∃b,blk x.loc=M b/\b<sz'/\x.kind=.plain/\((if x.write then K.W b else K.O b)\/sz<=b))\/(∃i,who p=M i/\x.loc=.cell ⟨S.C,i,Z⟩/\x.kind=.plain)\/(ShN S.Wg x.loc/\x.kind≠.plain/\(x.kind=.said->p=0))
section
variable {S:Who}{Shun:Loc->Prop}{m:Nat}{t u:Trace}{sz sz' j p:Nat}{K:Nat->jZ}
theorem adL(q:1<=m)(hp:p<=j):gno m p<m+j:=by cases p<;>simp only[gno]<;>omega
theorem zK{act:MemAct}{x:Touch}{b B:Nat}(I:act.low B)(E:act.touch? =M x)(q:blk x.loc=M b):b<B:=by
 cases act with
 |access e=>
  simp only[MemAct.touch?,aK]at E;subst E;simp only[MemAct.low]at I;cases h:e.loc<;>rw[h]at I q<;>simp only[blk,aK]at q
  .subst q;exact I
  .subst q;exact I
  all_goals cases q
 |mark k=>cases k<;>simp only[MemAct.touch?,aK]at E<;>first|(cases E;done)|(subst E;simp only[blk,aK]at q;subst q;exact I)
 |_=>cases E
theorem MQ{α:Type}(f:Nat->α)(p:Nat)(x:α)(q:Nat):upd f p x q=if q=p then x else f q:=rfl
theorem TI.app(hm:1<=m)(A:KN S sz j K)(h:TI S Shun m t sz j K)(hp:p<=j)(ap:sz<=sz')(hg:∀op∈u,op.g=gno m p)(ac:∀op∈u,∀x,op.act.touch? =M x->Okt S p (K p) sz sz' x)(aj:∀op∈u,op.act.low sz')(ak:∀op∈u,op.act≠.mark (.release (stA S.Wg))):TI S Shun m (t++u) sz' j (upd K p ((K p).grow sz sz')):=by
 have fresh:∀{i:Nat}{a:Touch}{b:Nat},touchAt t i=M a->blk a.loc=M b->b<sz:=by
  intro i a b ha Y;obtain⟨x,hx,ab⟩:=touch_of ha;exact zK (h.seen x (gK hx)) ab Y
 have ae:∀q,q<=j->q≠p->∀l b,blk l=M b->∀op∈u,∀x,op.act.touch? =M x->x.loc=l->((K q).W b->False)/\((K q).O b->x.write=true->False):=by
  intro q hq aa l b Y op E x hx e;subst e;refine⟨λhW=>?_,λhO hw=>?_⟩
  .have hO:=A.w q hq b hW;obtain⟨h1,h2,h3⟩:=A.o q hq b hO;obtain⟨b',J,_,_,I⟩|⟨i,_,J,_⟩|⟨⟨a,J,I⟩,_⟩:=ac op E x hx
   .rw[Y]at J;cases J;obtain I|I:=I
    .cases hw:x.write with
     |true=>rw[hw,ZD rfl]at I;exact A.d p q hp hq (Ne.symm aa) b I hO
     |false=>rw[hw]at I;exact A.d q p hq hp aa b hW (by simpa using I)
    .omega
   .rw[J]at Y;simp only[blk,aK]at Y;exact h3 Y.symm
   .rw[J]at Y;simp only[blk,aK]at Y;omega
  .obtain⟨h1,h2,h3⟩:=A.o q hq b hO;obtain⟨b',J,_,_,I⟩|⟨i,_,J,_⟩|⟨⟨a,J,I⟩,_⟩:=ac op E x hx
   .rw[Y]at J;cases J;obtain I|I:=I
    .rw[hw,ZD rfl]at I;exact A.d p q hp hq (Ne.symm aa) b I hO
    .omega
   .rw[J]at Y;simp only[blk,aK]at Y;exact h3 Y.symm
   .rw[J]at Y;simp only[blk,aK]at Y;omega
 have ah:∀l b,blk l=M b->sz<=b->Perm (t++u) (gno m p) l:=by
  intro l b Y aw i a ha e;obtain⟨x,hx,ab⟩:=touch_of ha;obtain⟨_,ag⟩|⟨_,af⟩:=ix hx
  .have:=fresh (i:=i) (a:=a) (b:=b) (by rw[touchAt_of ag];exact ab) (by rw[e];exact Y);omega
  .have:=knows_own hx;grind
 have ar:∀(i:Nat) op,op∈u->∀x,op.act.touch? =M x->x.loc=.cell ⟨S.C,i,Z⟩->p=i+1:=by
  intro i op E x hx e;obtain⟨b',J,_,_,I⟩|⟨i',e0,J,_⟩|⟨⟨a,J,I⟩,_⟩:=ac op E x hx
  .rw[e]at J;simp only[blk,aK]at J;subst J;obtain I|I:=I
   .have hO:(K p).O S.C:=by
     cases hw:x.write with
     |true=>rw[hw,ZD rfl]at I;exact A.w p hp _ I
     |false=>grind
    exact Xs rfl (A.o p hp _ hO).2.2
   .have:=A.hC;omega
  .rw[e]at J;have aq:i=i':=by injection J with J;injection J
   subst aq;cases p with
   |zero=>cases e0
   |succ p=>simp only[who,aK]at e0;omega
  .rw[e]at J;cases J;exact Xs I A.ne
 refine⟨λq hq=>?_,λi hi=>(h.cell i hi).app λop E x hx e=>?_,λi hi=>(h.cell0 i hi).app λop E x hx e=>?_,h.quiet.app λop E x hx hs=>?_,λi a ha am=>?_,λsaid=>?_,
  λop E=>?_,h.norel.app ak,λg av=>?_,λi g ai h0 hc=>?_⟩
 .rw[MQ];split
  .rename_i e;subst e;refine⟨λl b Y hW=>?_,λl b Y hO=>?_⟩
   .obtain hW|⟨hW,_⟩:=hW
    .exact((h.mem q hq).own l b Y hW).app λop E _ _ _=>hg op E
    grind
   .obtain hO|⟨hO,_⟩:=hO
    .exact((h.mem q hq).see l b Y hO).app λop E _ _ _ _=>hg op E
    .exact PermW.of (ah l b Y hO)
  .rename_i aa
   exact⟨λl b Y hW=>((h.mem q hq).own l b Y hW).app λop E x hx e=>((ae q hq aa l b Y op E x hx e).1 hW).elim,
    λl b Y hO=>((h.mem q hq).see l b Y hO).app λop E x hx e hw=>((ae q hq aa l b Y op E x hx e).2 hO hw).elim⟩
 .have:=ar i op E x hx e;subst this;exact hg op E
 .grind
 .obtain⟨b,J,_,_,I⟩|⟨i,_,J,_⟩|⟨_,I,e3⟩:=ac op E x hx
  .obtain⟨a,ea,eb⟩:=hs;rw[ea]at J;simp only[blk,aK]at J;rw[eb]at J;subst J;obtain I|I:=I
   .have hO:(K p).O S.Wg:=by
     cases hw:x.write with
     |true=>rw[hw,ZD rfl]at I;exact A.w p hp _ I
     |false=>grind
    exact Xs rfl (A.o p hp _ hO).2.1
   .have:=A.hWg;omega
  .obtain⟨a,ea,eb⟩:=hs;rw[ea]at J;cases J;exact Xs eb A.ne
  .exact⟨I,λe=>by rw[hg op E,e3 e];rfl⟩
 .obtain⟨x,hx,ab⟩:=touch_of ha;obtain⟨hi,ag⟩|⟨_,af⟩:=ix hx
  .obtain k|k|⟨⟨k,hk,e⟩,k2⟩:=h.cls i a (by rw[touchAt_of ag];exact ab) am
   .exact cJ (k.app u)
   .exact cK (cJ k)
   .exact cK (cK ⟨⟨k,hk,by rw[g?_old hi];exact e⟩,k2⟩)
  .cases p with
   |zero=>have:=knows_own hx;rw[hg x af]at this;exact cJ this
   |succ p=>
    refine cK (cK ⟨⟨p,aA,by simp[Trace.g?,hx,hg x af,gno]⟩,λhk=>?_⟩);obtain⟨_,_,_,e,_⟩|⟨_,_,_,e⟩|⟨e,_⟩:=ac x af a ab
    .rw[hk]at e;cases e
    .rw[hk]at e;cases e
    .exact e
 .refine noRace_append (h.nr said) hg λi a ha op E b Y hc=>?_;obtain⟨k,J,_,_,I⟩|⟨i',e0,J,_⟩|⟨J,I,e3⟩:=ac op E b Y
  .obtain I|I:=I
   .cases hw:b.write with
    |true=>rw[hw,ZD rfl]at I;exact(h.mem p hp).own _ k J I i a ha hc.1
    |false=>rw[hw]at I;exact(h.mem p hp).see _ k J (by simpa using I) i a ha hc.1 (hc.2.2.1.resolve_right (by simp[hw]))
   .have:=fresh (i:=i) (a:=a) (b:=k) ha (by rw[hc.1];exact J);omega
  .have ao:p=i'+1:=by
    cases p with
    |zero=>cases e0
    |succ p=>grind
   subst ao;exact h.cell i' aA i a ha (hc.1.trans J)
  .exact h.quiet.known J I (λe=>by rw[e3 e];rfl) i a ha hc
 .obtain h1|h1:=Array.mem_append.1 E
  .exact MemAct.low_mono ap (h.seen op h1)
  .exact aj op h1
 .have:=adL (m:=m) (p:=p) (j:=j) hm hp;rw[mN t (g':=gno m p) aA u hg];exact h.above g av
 .obtain⟨op,ho,au⟩:=bI.1 ai;obtain⟨hi,ax⟩|⟨_,an⟩:=ix ho
  .refine(h.over i g (by rw[<-g?_old (u:=u) hi];exact ai) h0 ((counts_old hi).1 hc)).imp (λ⟨q,h1,h2⟩=>?_) id
   have hq:q<t.size:=by
    unfold Trace.g? at h1;obtain⟨z,hz,_⟩:=bI.1 h1;exact nW hz
   exact⟨q,by rw[g?_old hq];exact h1,hb_app u h2⟩
  .have:=hg op an;rw[au]at this;cases p with
   |zero=>exact Xs this h0
   |succ p=>exact cK ⟨p,aA,this⟩
theorem TI.mute(h:TI S Shun m t sz j K){g:Nat}(ai:g<m)(hg:∀op∈u,op.g=g)(hn:∀op∈u,op.act.touch? =Z)(aa:∀op∈u,op.act.low sz)(ab:∀op∈u,op.act≠.mark (.release (stA S.Wg))):TI S Shun m (t++u) sz j K:=by
 have no:∀op∈u,∀x,op.act.touch? =M x->False:=λop E x I=>by grind
 refine⟨λq hq=>⟨λl b hb hW=>((h.mem q hq).own l b hb hW).app λop E x I _=>(no op E x I).elim,λl b hb hO=>((h.mem q hq).see l b hb hO).app λop E x I _ _=>(no op E x I).elim⟩,
  λi J=>(h.cell i J).app λop E x I _=>(no op E x I).elim,λi J=>(h.cell0 i J).app λop E x I _=>(no op E x I).elim,h.quiet.app λop E x I _=>(no op E x I).elim,λi a ha ac=>?_,
  λsaid=>noRace_append (h.nr said) hg λi a _ op E b hb _=>(no op E b hb).elim,seen_app h.seen aa,h.norel.app ab,λg' ah=>?_,λi g' Y af hc=>?_⟩
 .obtain⟨x,I,ag⟩:=touch_of ha;obtain⟨J,ae⟩|⟨_,aj⟩:=ix I
  .obtain k|k|⟨⟨k,hk,e⟩,k2⟩:=h.cls i a (by rw[touchAt_of ae];exact ag) ac
   .exact cJ (k.app u)
   .exact cK (cJ k)
   .exact cK (cK ⟨⟨k,hk,by rw[g?_old J];exact e⟩,k2⟩)
  grind
 .rw[mN t (g':=g) aA u hg];exact h.above g' ah
 .obtain⟨op,ho,ao⟩:=bI.1 Y;obtain⟨J,am⟩|⟨_,ak⟩:=ix ho
  .refine(h.over i g' (by rw[<-g?_old (u:=u) J];exact Y) af ((counts_old J).1 hc)).imp (λ⟨q,h1,h2⟩=>?_) id
   have hq:q<t.size:=by
    unfold Trace.g? at h1;obtain⟨z,hz,_⟩:=bI.1 h1;exact nW hz
   exact⟨q,by rw[g?_old hq];exact h1,hb_app u h2⟩
  .obtain⟨x,I,_⟩:=hc;obtain⟨y,hy,an⟩:=touch_of I
   grind
theorem TI.fork(h:TI S Shun m t sz j K){x y:MemOp}(hx:x.g=0/\x.act=.go (m+j))(hy:y.g=m+j/\y.act=.start)(hd:Deaf t 0=0){K0 Kc:jZ}(ak:∀b,K0.O b->(K 0).O b)(ag:∀b,K0.W b->(K 0).W b)(ai:∀b,Kc.O b->(K 0).O b)(ah:∀b,Kc.W b->(K 0).W b):TI S Shun m (t++#[x,y]) sz (j+1) (upd (upd K 0 K0) (j+1) Kc):=by
 have hk:=h.above _ jE;have Y:∀op∈#[x,y],op=x\/op=y:=by intro op E;simpa using E
 have no:∀op∈#[x,y],∀b,op.act.touch? =M b->False:=by
  intro op E b I;obtain rfl|rfl:=Y op E
  .rw[hx.2]at I;cases I
  .rw[hy.2]at I;cases I
 have old:∀{i:Nat}{a:Touch},touchAt (t++#[x,y]) i=M a->touchAt t i=M a:=by
  intro i a J;obtain⟨z,hz,aj⟩:=touch_of J;obtain⟨_,am⟩|⟨_,ap⟩:=ix hz
  .rw[touchAt_of am];exact aj
  .grind
 have m0:=h.mem 0 (dL _);refine⟨λq hq=>?_,λi hi=>?_,λi hi=>(h.cell0 i aA).app λop E b I _=>(no op E b I).elim,h.quiet.app λop E b I _=>(no op E b I).elim,λi a J ab=>?_,λsaid=>?_,?_,h.norel.app λop E=>?_,λg ar=>?_,λi g aa h0 hc=>?_⟩
 .rw[MQ];split
  .rename_i e;subst e;refine⟨λl b I hW i a J e=>?_,λl b I hO i a J e hw=>?_⟩
   .exact fork_knows hx hy hd hk (m0.own l b I (ah b hW) i a (old J) e)
   .exact fork_knows hx hy hd hk (m0.see l b I (ai b hO) i a (old J) e hw)
  .rw[MQ];split
   .rename_i e;subst e;exact⟨λl b I hW=>(m0.own l b I (ag b hW)).app λop E b I _=>(no op E b I).elim,λl b I hO=>(m0.see l b I (ak b hO)).app λop E b I _ _=>(no op E b I).elim⟩
   .have mq:=h.mem q aA;exact⟨λl b I hW=>(mq.own l b I hW).app λop E b I _=>(no op E b I).elim,λl b I hO=>(mq.see l b I hO).app λop E b I _ _=>(no op E b I).elim⟩
 .obtain ae|an:=gG i j
  .exact(h.cell i ae).app λop E b I _=>(no op E b I).elim
  .obtain rfl:i=j:=by omega
   exact λi' a J e=>fork_knows hx hy hd hk (h.cell0 i jE i' a (old J) e)
 .have hi:i<t.size:=by
   obtain⟨z,hz,_⟩:=touch_of (old J);exact nW hz
  obtain k|k|⟨⟨k,ao,e⟩,k2⟩:=h.cls i a (old J) ab
  .exact cJ (k.app _)
  .exact cK (cJ k)
  .exact cK (cK ⟨⟨k,aA,by rw[g?_old hi];exact e⟩,k2⟩)
 .have e:t++#[x,y]=(t++#[x])++#[y]:=by apply Array.ext';simp
  rw[e]
  exact noRace_append (g:=m+j) (noRace_append (g:=0) (h.nr said) (λop E=>by grind) (λi a _ op E b I _=>(no op (by grind) b I).elim))
   (λop E=>by grind) (λi a _ op E b I _=>(no op (by grind) b I).elim)
 .refine seen_app h.seen λop E=>?_;obtain rfl|rfl:=Y op E
  .rw[hx.2];trivial
  .rw[hy.2];trivial
 .grind
 .rw[Deaf_still t _ _ λop E=>?_]
  .exact h.above g aA
  grind
 .obtain⟨op,ho,ac⟩:=bI.1 aa;obtain⟨hi,aq⟩|⟨_,af⟩:=ix ho
  .refine(h.over i g (by rw[<-g?_old (u:=#[x,y]) hi];exact aa) h0 ((counts_old hi).1 hc)).imp (λ⟨q,h1,h2⟩=>?_) λ⟨k,hk,e⟩=>⟨k,aA,e⟩
   have hq:q<t.size:=by
    unfold Trace.g? at h1;obtain⟨z,hz,_⟩:=bI.1 h1;exact nW hz
   exact⟨q,by rw[g?_old hq];exact h1,hb_app _ h2⟩
  .obtain rfl|rfl:=Y op af
   .omega
   .rw[hy.1]at ac;exact cK ⟨j,aA,ac.symm⟩
theorem TI.past(h:TI S Shun m t sz j K)(hd:Deaf t 0=0){q:Nat}(hq:t.act? q=M (.mark (.acquire (stA S.Wg))))(ag:t.g? q=M 0)(hh:t.heard q)(Y:∀k,k<j->∃r,RelBy (stA S.Wg) t (m+k) r/\r<q):Past (λl=>Shun l\/ShN S.Wg l) sz t:=by
 have E:∀k,k<j->∀i,t.g? i=M (m+k)->t.counts i->HappensBefore t i q:=by
  intro k hk i hi hc;obtain⟨r,Y,ab⟩:=Y k hk;have aa:HappensBefore t r q:=.single (cK ⟨.marked ab (cK Y.act) hq (λk _ _=>h.norel k),Y.heard,hh⟩);have aj:=Nat.le_of_not_lt λJ=>Y.after i J hi hc;obtain J|ah:=gG i r
  .exact .trans (.single (cJ ⟨J,_,hi,Y.g⟩)) aa
  .grind
 obtain⟨z,hz,af⟩:=bI.1 ag;refine⟨h.nr,λi a ha I=>?_,λi g ac h0 hc=>?_,hd,h.seen⟩
 .obtain k|k|⟨⟨k,hk,e⟩,k2⟩:=h.cls i a ha I
  .exact cJ k
  .exact cK k
  .by_cases hc:t.counts i
   .exact cJ ⟨q,z,hz,af,cK (E k hk i e hc)⟩
   .have ai:=gW λae=>hc ⟨a,ha,I,cJ ae⟩
    grind
 .obtain k|⟨k,hk,rfl⟩:=h.over i g ac h0 hc
  .exact k
  grind
theorem TI.begin{B:Nat}(h:Past Shun B t)(hg:∀g,m<=g->Deaf t g=0)(hB:B<=S.Wg)(hC:B<=S.C\/∀i,¬Shun (.cell ⟨S.C,i,Z⟩))(ac:B<=sz)(hO:∀b,(K 0).O b->∀l,blk l=M b->¬Shun l)(hW:∀b,(K 0).W b->(K 0).O b):TI S Shun m t sz 0 K:=by
 have kn:∀i a,touchAt t i=M a->a.loc.isMemory=true->¬Shun a.loc->Knows t 0 i:=λi a q hm hs=>(h.known i a q hm).resolve_right λx=>hs x.1
 have E:∀{l:Loc}{b:Nat},blk l=M b->l.isMemory=true:=by
  intro l b I;cases l<;>first|rfl|cases I
 have J:∀{i:Nat}{a:Touch}{b:Nat},touchAt t i=M a->blk a.loc=M b->b<B:=by
  intro i a b q I;obtain⟨x,hx,af⟩:=touch_of q;exact zK (h.seen x (gK hx)) af I
 refine⟨λp hp=>?_,λi hi=>aA,λi _ i' a q e=>?_,λi op x hi hx ⟨a,e1,e2⟩=>?_,λi a q Y=>(h.known i a q Y).imp id λx=>cJ ⟨cJ x.1,x.2⟩,h.clean,λop ab=>MemAct.low_mono ac (h.seen op ab),λi hi=>?_,λg ag=>hg g aA,λi g aa h0 hc=>cJ (h.over i g aa h0 hc)⟩
 .obtain rfl:p=0:=by omega
  refine⟨λl b I hw i a q e=>kn i a q (by rw[e];exact E I) (by grind),λl b I ho i a q e _=>kn i a q (by rw[e];exact E I) (by grind)⟩
 .obtain hC|hC:=hC
  .have:=J (i:=i') (a:=a) (b:=S.C) q (by rw[e];rfl);omega
  .exact kn i' a q (by rw[e];rfl) (by rw[e];exact hC i)
 .have:=zK (h.seen op (gK hi)) hx (b:=S.Wg) (by rw[e1];simp[blk,e2]);omega
 .obtain⟨op,ho,ae⟩:=bI.1 hi;have:=h.seen op (gK ho);rw[ae]at this;have:S.Wg<B:=this;omega
end
end
end Cr
