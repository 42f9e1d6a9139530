import Derived.Test.YtpibpdpedjinhaaGreatDoorPA
import Derived.Calls
import Derived.StepT
import Derived.Laws.Sem
import Derived.Conc.WgGenN2
import Derived.Conc.Beside
set_option maxRecDepth 100000
namespace Go.Proofs.YtpibpdpedjinhaaGreatDoor
namespace Cr
open Go Go.Conc Go.ConcN
open Go.ConcR (KK wgBlock WgAt stA smA rd wr Payload DC0)
section
variable {g:Goroutine}
inductive Tr where
 |leaf
 |node (f:World->Tr)
variable {T:Tr}
def Tr.Lt(a b:Tr):Prop:=∃f w,b=.node f/\a=f w
theorem Tr.wf:WellFounded Tr.Lt:=⟨λa=>by
 induction a with
 |leaf=>exact⟨_,λy ⟨f,w,e,_⟩=>by cases e⟩
 |node f ih=>exact⟨_,λy ⟨f',w,e,h⟩=>by cases e;subst h;exact ih w⟩⟩
theorem Tr.lt(f:World->Tr)(w:World):Tr.Lt (f w) (.node f):=⟨f,w,rfl,rfl⟩
def Tr.chain:Nat->Tr
 |0=>.leaf
 |n+1=>.node λ_=>chain n
theorem Tr.Td(n:Nat):Tr.Lt (Tr.chain n) (Tr.chain (n+1)):=⟨_,default,rfl,rfl⟩
def PL(j:Nat)(a b:Nat->Tr):Prop:=∃i,i<j/\Tr.Lt (a i) (b i)/\∀k,k≠i->a k=b k
theorem PL.wf(j:Nat):WellFounded (PL j):=by
 induction j with
 |zero=>exact⟨λa=>⟨_,λy ⟨i,I,_⟩=>absurd I (by omega)⟩⟩
 |succ j ih=>
  refine Subrelation.wf (r:=InvImage (Prod.Lex Tr.Lt (PL j)) λf=>(f j,f)) ?_ (InvImage.wf _ (Prod.lex ⟨Tr.Lt,Tr.wf⟩ ⟨PL j,ih⟩).wf);rintro a b ⟨i,I,z,E⟩
  show Prod.Lex Tr.Lt (PL j) (a j,a) (b j,b)
  by_cases e:i=j
  ·subst e;exact Prod.Lex.left _ _ z
  ·rw[E j (Ne.symm e)];exact Prod.Lex.right _ ⟨i,by omega,z,E⟩
abbrev Mu:=(Nat×Nat)×((Nat->Tr)×(Nat×Tr))
def Dn:Nat×Tr->Nat×Tr->Prop:=Prod.Lex (·<·) Tr.Lt
def pz(n:Nat):Mu->Mu->Prop:=Prod.Lex (Prod.Lex (·<·) (·<·)) (Prod.Lex (PL n) Dn)
theorem pz.wf(n:Nat):WellFounded (pz n):=
 (Prod.lex (Prod.lex Nat.lt_wfRel Nat.lt_wfRel) (Prod.lex ⟨PL n,PL.wf n⟩ (Prod.lex Nat.lt_wfRel ⟨Tr.Lt,Tr.wf⟩))).wf
section
variable {n q q' s s':Nat}{f f':Nat->Tr}{x x':Nat×Tr}
theorem pz.quit(h:q'<q):pz n ((q',s'),(f',x')) ((q,s),(f,x)):=Prod.Lex.left _ _ (Prod.Lex.left _ _ h)
theorem pz.stage(h:s'<s):pz n ((q,s'),(f',x')) ((q,s),(f,x)):=Prod.Lex.left _ _ (Prod.Lex.right _ h)
theorem pz.way(h:PL n f' f):pz n ((q,s),(f',x')) ((q,s),(f,x)):=Prod.Lex.right _ (Prod.Lex.left _ _ h)
theorem pz.own(h:Dn x' x):pz n ((q,s),(f,x')) ((q,s),(f,x)):=Prod.Lex.right _ (Prod.Lex.right _ h)
end
theorem pz.trans{n:Nat}{a c:Mu}{q s s':Nat}{f:Nat->Tr}{x x':Nat×Tr}(h:pz n a ((q,s),(f,x)))(hs:s<s')(z:c=((q,s'),(f,x'))):pz n a c:=by
 subst z;obtain⟨⟨E,I⟩,J⟩:=a;cases h with
 |left _ _ h=>
  cases h with
  |left _ _ h=>exact Prod.Lex.left _ _ (Prod.Lex.left _ _ h)
  |right _ h=>exact Prod.Lex.left _ _ (Prod.Lex.right _ (by omega))
 |right _ h=>exact Prod.Lex.left _ _ (Prod.Lex.right _ hs)
theorem Dn.way{k:Nat}{a b:Tr}(h:Tr.Lt a b):Dn (k,a) (k,b):=Prod.Lex.right _ h
structure jU where
 O:Nat->Prop
 W:Nat->Prop
def jU.grow(K:jU)(a b:Nat):jU:=⟨λx=>K.O x\/(a<=x/\x<b),λx=>K.W x\/(a<=x/\x<b)⟩
structure Who where
 Wg:Nat
 C:Nat
 n:Nat
 ty:TypeId
 lo:Nat
section
variable [Payload]
structure En(S:Who)(me:Option Nat)(K:jU)(w w₁:World):Prop where
 tape:w₁.tape=w.tape
 os:w₁.os=w.os
 output:w₁.output=w.output
 size:w.heap.size<=w₁.heap.size
 block:∀b,K.O b->w₁.heap[b]? =w.heap[b]?
 live:WgLive S.ty S.Wg w->WgLive S.ty S.Wg w₁
 pay:PayAt S.C S.n w->PayAt S.C S.n w₁
 cell:∀i,me=some i->w₁.cell? ⟨S.C,i,none⟩=w.cell? ⟨S.C,i,none⟩
 low:∀b,b<S.lo->w₁.heap[b]? =w.heap[b]?
variable {S:Who}{me:Option Nat}{K:jU}{w w₁ w₂:World}
theorem En.refl(S:Who)(me:Option Nat)(K:jU)(w:World):En S me K w w:=⟨rfl,rfl,rfl,jA,λ_ _=>rfl,id,id,λ_ _=>rfl,λ_ _=>rfl⟩
theorem En.trans(h:En S me K w w₁)(k:En S me K w₁ w₂):En S me K w w₂:=
 ⟨k.tape.trans h.tape,k.os.trans h.os,k.output.trans h.output,aW h.size k.size,λb z=>(k.block b z).trans (h.block b z),k.live∘h.live,k.pay∘h.pay,λi E=>(k.cell i E).trans (h.cell i E),λb z=>(k.low b z).trans (h.low b z)⟩
theorem En.at(S:Who)(me:Option Nat)(K:jU)(w:World)(d:Nat):En S me K w (w.at d):=⟨rfl,rfl,rfl,jA,λ_ _=>rfl,id,id,λ_ _=>rfl,λ_ _=>rfl⟩
def EvX(K:jU)(n E:Nat)(e:Event):Prop:=
 (∃a wr,e=⟨.cell a,wr,false⟩/\((if wr then K.W a.block else K.O a.block)\/n<=a.block)/\a.block<E)\/(∃r wr,e=⟨.obj r,wr,false⟩/\((if wr then K.W r else K.O r)\/n<=r)/\r<E)\/
  (∃wr z,e=⟨.mark .noRoom,wr,z⟩)\/∃f wr z,e=⟨.mark (.extern f),wr,z⟩
def EvM(S:Who)(me:Option Nat)(K:jU)(n z:Nat)(e:Event):Prop:=
 EvX K n z e\/(∃i wr,me=some i/\e=⟨.cell ⟨S.C,i,none⟩,wr,false⟩)\/(me=none/\(e=Go.ConcR.mk (.read (smA S.Wg))\/e=Go.ConcR.mk (.write (smA S.Wg))))
structure Gu(S:Who)(me:Option Nat)(K:jU)(w w':World)(es:Array Event):Prop where
 tape:w'.tape=w.tape
 os:w'.os=w.os
 output:w'.output=w.output
 size:w.heap.size<=w'.heap.size
 block:∀b,b<w.heap.size->¬K.W b->(b=S.C->me=none)->w'.heap[b]? =w.heap[b]?
 pay:PayAt S.C S.n w->PayAt S.C S.n w'
 cells:∀i,some i≠me->w'.cell? ⟨S.C,i,none⟩=w.cell? ⟨S.C,i,none⟩
 events:∀e∈es,EvM S me K w.heap.size w'.heap.size e
theorem Gu.still(S:Who)(me:Option Nat)(K:jU)(w:World):Gu S me K w w #[]:=⟨rfl,rfl,rfl,jA,λ_ _ _ _=>rfl,id,λ_ _=>rfl,λe z=>by simp at z⟩
def jM(P:Program)(main:Bool)(S:Who)(me:Option Nat)(Stop:jU->Goroutine->World->Prop):Tr->jU->Goroutine->World->Prop
 |.leaf,K,g,w=>∀w₁,En S me K w w₁->Stop K g w₁
 |.node f,K,g,w=>g.status=.running/\∀w₁,En S me K w w₁->∃g' w' es,stepG P main g w₁=.go g' w' es/\Gu S me K w₁ w' es/\jM P main S me Stop (f w₁) (K.grow w₁.heap.size w'.heap.size) g' w'
variable {P:Program}{main:Bool}{Stop Stop':jU->Goroutine->World->Prop}
theorem jM.rely(h:jM P main S me Stop T K g w)(E:En S me K w w₁):jM P main S me Stop T K g w₁:=by
 cases T with
 |leaf=>exact λw₂ z=>h w₂ (E.trans z)
 |node f=>exact⟨h.1,λw₂ z=>h.2 w₂ (E.trans z)⟩
theorem jM.mono:∀{K:jU}{g:Goroutine}{w:World},jM P main S me Stop T K g w->(∀K g w,Stop K g w->Stop' K g w)->jM P main S me Stop' T K g w:=by
 induction T with
 |leaf=>exact λh hs w₁ z=>hs _ _ _ (h w₁ z)
 |node f ih=>exact λh hs=>⟨h.1,λw₁ z=>let ⟨g',w',es,e,hg,hr⟩:=h.2 w₁ z;⟨g',w',es,e,hg,ih w₁ hr hs⟩⟩
theorem jM.running(h:jM P main S me Stop T K g w)(hs:∀K g w,Stop K g w->g.status=.running):g.status=.running:=by
 cases T with
 |leaf=>exact hs _ _ _ (h w (.refl ..))
 |node f=>exact h.1
theorem jM.cases(h:jM P main S me Stop T K g w):Stop K g w\/∃f g' w' es,T=.node f/\stepG P main g w=.go g' w' es/\Gu S me K w w' es/\jM P main S me Stop (f w) (K.grow w.heap.size w'.heap.size) g' w':=by
 cases T with
 |leaf=>exact .inl (h w (.refl ..))
 |node f=>obtain⟨g',w',es,e,E,z⟩:=h.2 w (.refl ..);exact .inr ⟨f,g',w',es,rfl,e,E,z⟩
theorem jM.bind:∀{K:jU}{g:Goroutine}{w:World},jM P main S me Stop T K g w->(∀K g w,Stop K g w->∃T',jM P main S me Stop' T' K g w)->∃T',jM P main S me Stop' T' K g w:=by
 induction T with
 |leaf=>
  intro K g w h hs;obtain⟨T',E⟩:=hs _ _ _ (h w (.refl ..));exact⟨T',E⟩
 |node f ih=>
  intro K g w h hs
  have key:∀w₁,En S me K w w₁->∃T',∃g' w' es,stepG P main g w₁=.go g' w' es/\Gu S me K w₁ w' es/\jM P main S me Stop' T' (K.grow w₁.heap.size w'.heap.size) g' w':=by
   intro w₁ z;obtain⟨g',w',es,e,J,I⟩:=h.2 w₁ z;obtain⟨T',E⟩:=ih w₁ I hs;exact⟨T',g',w',es,e,J,E⟩
  refine⟨.node λw₁=>open Classical in if z:En S me K w w₁ then Classical.choose (key w₁ z)else .leaf,h.1,λw₁ z=>?_⟩;simp only[dif_pos z];exact fV (key w₁ z)
theorem jM.one(hs:g.status=.running)(h:∀w₁,En S me K w w₁->∃g' w' es,stepG P main g w₁=.go g' w' es/\Gu S me K w₁ w' es/\∃T',jM P main S me Stop T' (K.grow w₁.heap.size w'.heap.size) g' w'):∃T,jM P main S me Stop T K g w:=by
 have key:∀w₁,En S me K w w₁->∃T',∃g' w' es,stepG P main g w₁=.go g' w' es/\Gu S me K w₁ w' es/\jM P main S me Stop T' (K.grow w₁.heap.size w'.heap.size) g' w':=by
  intro w₁ z;obtain⟨g',w',es,e,I,T',E⟩:=h w₁ z;exact⟨T',g',w',es,e,I,E⟩
 refine⟨.node λw₁=>open Classical in if z:En S me K w w₁ then Classical.choose (key w₁ z)else .leaf,hs,λw₁ z=>?_⟩;simp only[dif_pos z];exact fV (key w₁ z)
theorem jM.stop(h:∀w₁,En S me K w w₁->Stop K g w₁):∃T,jM P main S me Stop T K g w:=⟨.leaf,h⟩
omit [Payload] in
theorem kG(K:jU)(a:Nat):K.grow a a=K:=by
 cases K with
 |mk O W=>
  simp only[jU.grow,jU.mk.injEq];constructor<;>funext x<;>(refine propext ⟨λh=>h.elim id λh=>absurd h (by omega),.inl⟩)
theorem jM.NW{R:World->World->Prop}{I:Goroutine->World->Prop}(E:∀w w₁,En S me K w w₁->R w w₁):∀{n:Nat}{g:Goroutine}{w:World},Go.Conc.Goes P main R DC0 I n g w->∃T,jM P main S me (λK' g w=>K'=K/\I g w) T K g w:=by
 intro n
 induction n with
 |zero=>exact λh=>jM.stop λw₁ z=>⟨rfl,h w₁ (E _ _ z)⟩
 |succ n ih=>
  intro g w h;rcases h with h|⟨hs,h⟩
  ·exact jM.stop λw₁ z=>⟨rfl,h w₁ (E _ _ z)⟩
  ·refine jM.one hs λw₁ z=>?_;have:=h w₁ (E _ _ z);cases J:stepG P main g w₁ with
   |go g' w' es=>
    rw[J,goes_go]at this;obtain⟨⟨rfl,rfl⟩,hG⟩:=this;obtain⟨T,Y⟩:=ih hG;exact⟨g',w',#[],rfl,.still ..,T,by rw[kG];exact Y⟩
   |_=>rw[J]at this;exact this.elim
end
end
open Go.ConcR (KK wgBlock WgAt stA smA rd wr Payload DC0 Bk g_of_ofEvents loc_of_ofEvent ofEvent_cell ofEvent_loc_mark bk_of_mute)
section
def blk:Loc->Option Nat
 |.cell a=>some a.block
 |.obj r=>some r
 |_=>none
def WV(m:Nat):Nat->Nat
 |0=>0
 |p+1=>m+p
def who:Nat->Option Nat
 |0=>none
 |p+1=>some p
structure TM(t:Trace)(g:Nat)(K:jU):Prop where
 own:∀l b,blk l=some b->K.W b->Perm t g l
 see:∀l b,blk l=some b->K.O b->PermW t g l
structure Ig(S:Who)(sz j:Nat)(K:Nat->jU):Prop where
 w:∀p,p<=j->∀b,(K p).W b->(K p).O b
 o:∀p,p<=j->∀b,(K p).O b->b<sz/\b≠S.Wg/\b≠S.C
 d:∀p q,p<=j->q<=j->p≠q->∀b,(K p).W b->¬(K q).O b
 hWg:S.Wg<sz
 hC:S.C<sz
 ne:S.C≠S.Wg
 lo:∀p,p<=j->∀b,(K p).W b->S.lo<=b
 lWg:S.lo<=S.Wg
 lC:S.lo<=S.C
structure TI(S:Who)(Shun:Loc->Prop)(m:Nat)(t:Trace)(sz j:Nat)(K:Nat->jU):Prop where
 mem:∀p,p<=j->TM t (WV m p) (K p)
 cell:∀i,i<j->Perm t (m+i) (.cell ⟨S.C,i,none⟩)
 cell0:∀i,j<=i->Perm t 0 (.cell ⟨S.C,i,none⟩)
 quiet:Quiet (ShN S.Wg) t
 cls:∀i a,touchAt t i=some a->a.loc.isMemory=true->Knows t 0 i\/((Shun a.loc\/ShN S.Wg a.loc)/\a.kind=.atomic)\/((∃k,k<j/\t.g? i=some (m+k))/\(a.kind=.atomic->ShN S.Wg a.loc))
 nr:∀said,¬Race said t
 seen:∀op∈t,op.act.low sz
 norel:NoRelease (stA S.Wg) t
 above:∀g,m+j<=g->Deaf t g=0
 over:∀i g,t.g? i=some g->g≠0->t.counts i->(∃q,t.g? q=some 0/\HappensBefore t i q)\/∃k,k<j/\g=m+k
def Okt(S:Who)(p:Nat)(K:jU)(sz sz':Nat)(x:Touch):Prop:=
 (∃b,blk x.loc=some b/\b<sz'/\x.kind=.plain/\((if x.write then K.W b else K.O b)\/sz<=b))\/(∃i,who p=some i/\x.loc=.cell ⟨S.C,i,none⟩/\x.kind=.plain)\/(ShN S.Wg x.loc/\x.kind≠.plain/\(x.kind=.said->p=0))
section
variable {S:Who}{Shun:Loc->Prop}{m:Nat}{t u:Trace}{sz sz' j p:Nat}{K:Nat->jU}
theorem Zx(z:1<=m)(hp:p<=j):WV m p<m+j:=by cases p<;>simp only[WV]<;>omega
theorem yj{act:MemAct}{x:Touch}{b B:Nat}(I:act.low B)(E:act.touch? =some x)(z:blk x.loc=some b):b<B:=by
 cases act with
 |access e=>
  simp only[MemAct.touch?,aC]at E;subst E;simp only[MemAct.low]at I;cases h:e.loc<;>rw[h]at I z<;>simp only[blk,aC]at z
  ·subst z;exact I
  ·subst z;exact I
  all_goals cases z
 |mark k=>cases k<;>simp only[MemAct.touch?,aC]at E<;>first|(cases E;done)|(subst E;simp only[blk,aC]at z;subst z;exact I)
 |_=>cases E
theorem Jo{α:Type}(f:Nat->α)(p:Nat)(x:α)(q:Nat):upd f p x q=if q=p then x else f q:=rfl
theorem TI.app(hm:1<=m)(A:Ig S sz j K)(h:TI S Shun m t sz j K)(hp:p<=j)(aq:sz<=sz')(hg:∀op∈u,op.g=WV m p)
  (ac:∀op∈u,∀x,op.act.touch? =some x->Okt S p (K p) sz sz' x) (aj:∀op∈u,op.act.low sz') (ak:∀op∈u,op.act≠.mark (.release (stA S.Wg))):
  TI S Shun m (t++u) sz' j (upd K p ((K p).grow sz sz')):=by
 have fresh:∀{i:Nat}{a:Touch}{b:Nat},touchAt t i=some a->blk a.loc=some b->b<sz:=by
  intro i a b ha R;obtain⟨x,Y,ab⟩:=touch_of ha;exact yj (h.seen x (fZ Y)) ab R
 have ag:∀q,q<=j->q≠p->∀l b,blk l=some b->∀op∈u,∀x,op.act.touch? =some x->x.loc=l->((K q).W b->False)/\((K q).O b->x.write=true->False):=by
  intro q hq aa l b R op E x Y e;subst e;refine⟨λhW=>?_,λhO hw=>?_⟩
  ·have hO:=A.w q hq b hW;obtain⟨h1,h2,h3⟩:=A.o q hq b hO;rcases ac op E x Y with⟨b',J,_,_,I⟩|⟨i,_,J,_⟩|⟨⟨a,J,I⟩,_⟩
   ·rw[R]at J;cases J;rcases I with I|I
    ·cases hw:x.write with
     |true=>rw[hw,if_pos rfl]at I;exact A.d p q hp hq (Ne.symm aa) b I hO
     |false=>rw[hw]at I;exact A.d q p hq hp aa b hW (by simpa using I)
    ·omega
   ·rw[J]at R;simp only[blk,aC]at R;exact h3 R.symm
   ·rw[J]at R;simp only[blk,aC]at R;exact h2 (R.symm.trans I)
  ·obtain⟨h1,h2,h3⟩:=A.o q hq b hO;rcases ac op E x Y with⟨b',J,_,_,I⟩|⟨i,_,J,_⟩|⟨⟨a,J,I⟩,_⟩
   ·rw[R]at J;cases J;rcases I with I|I
    ·rw[hw,if_pos rfl]at I;exact A.d p q hp hq (Ne.symm aa) b I hO
    ·omega
   ·rw[J]at R;simp only[blk,aC]at R;exact h3 R.symm
   ·rw[J]at R;simp only[blk,aC]at R;exact h2 (R.symm.trans I)
 have af:∀l b,blk l=some b->sz<=b->Perm (t++u) (WV m p) l:=by
  intro l b R aw i a ha e;obtain⟨x,Y,ab⟩:=touch_of ha;rcases getElem?_append_cases Y with⟨_,ah⟩|⟨_,ae⟩
  ·have:=fresh (i:=i) (a:=a) (b:=b) (by rw[touchAt_of ah];exact ab) (by rw[e];exact R);omega
  ·have:=knows_own Y;rwa[hg x ae]at this
 have am:∀(i:Nat) op,op∈u->∀x,op.act.touch? =some x->x.loc=.cell ⟨S.C,i,none⟩->p=i+1:=by
  intro i op E x Y e;rcases ac op E x Y with⟨b',J,_,_,I⟩|⟨i',e0,J,_⟩|⟨⟨a,J,I⟩,_⟩
  ·rw[e]at J;simp only[blk,aC]at J;subst J;rcases I with I|I
   ·have hO:(K p).O S.C:=by
     cases hw:x.write with
     |true=>rw[hw,if_pos rfl]at I;exact A.w p hp _ I
     |false=>rw[hw]at I;simpa using I
    exact absurd rfl (A.o p hp _ hO).2.2
   ·have:=A.hC;omega
  ·rw[e]at J;have ar:i=i':=by injection J with J;injection J
   subst ar;cases p with
   |zero=>cases e0
   |succ p=>simp only[who,aC]at e0;omega
  ·rw[e]at J;cases J;exact absurd I A.ne
 refine⟨λq hq=>?_,λi hi=>(h.cell i hi).app λop E x Y e=>?_,λi hi=>(h.cell0 i hi).app λop E x Y e=>?_,h.quiet.app λop E x Y hs=>?_,λi a ha an=>?_,λsaid=>?_,
  λop E=>?_,h.norel.app ak,λg av=>?_,λi g ai h0 hc=>?_⟩
 ·rw[Jo];split
  ·rename_i e;subst e;refine⟨λl b R hW=>?_,λl b R hO=>?_⟩
   ·rcases hW with hW|⟨hW,_⟩
    ·exact((h.mem q hq).own l b R hW).app λop E _ _ _=>hg op E
    ·exact af l b R hW
   ·rcases hO with hO|⟨hO,_⟩
    ·exact((h.mem q hq).see l b R hO).app λop E _ _ _ _=>hg op E
    ·exact PermW.of (af l b R hO)
  ·rename_i aa
   exact⟨λl b R hW=>((h.mem q hq).own l b R hW).app λop E x Y e=>((ag q hq aa l b R op E x Y e).1 hW).elim,
    λl b R hO=>((h.mem q hq).see l b R hO).app λop E x Y e hw=>((ag q hq aa l b R op E x Y e).2 hO hw).elim⟩
 ·have:=am i op E x Y e;subst this;exact hg op E
 ·have:=am i op E x Y e;omega
 ·rcases ac op E x Y with⟨b,J,_,_,I⟩|⟨i,_,J,_⟩|⟨_,I,e3⟩
  ·obtain⟨a,ea,eb⟩:=hs;rw[ea]at J;simp only[blk,aC]at J;rw[eb]at J;subst J;rcases I with I|I
   ·have hO:(K p).O S.Wg:=by
     cases hw:x.write with
     |true=>rw[hw,if_pos rfl]at I;exact A.w p hp _ I
     |false=>rw[hw]at I;simpa using I
    exact absurd rfl (A.o p hp _ hO).2.1
   ·have:=A.hWg;omega
  ·obtain⟨a,ea,eb⟩:=hs;rw[ea]at J;cases J;exact absurd eb A.ne
  ·exact⟨I,λe=>by rw[hg op E,e3 e];rfl⟩
 ·obtain⟨x,Y,ab⟩:=touch_of ha;rcases getElem?_append_cases Y with⟨hi,ah⟩|⟨_,ae⟩
  ·rcases h.cls i a (by rw[touchAt_of ah];exact ab) an with k|k|⟨⟨k,hk,e⟩,k2⟩
   ·exact .inl (k.app u)
   ·exact .inr (.inl k)
   ·exact .inr (.inr ⟨⟨k,hk,by rw[g?_old hi];exact e⟩,k2⟩)
  ·cases p with
   |zero=>have:=knows_own Y;rw[hg x ae]at this;exact .inl this
   |succ p=>
    refine .inr (.inr ⟨⟨p,by omega,by simp[Trace.g?,Y,hg x ae,WV]⟩,λhk=>?_⟩);rcases ac x ae a ab with⟨_,_,_,e,_⟩|⟨_,_,_,e⟩|⟨e,_⟩
    ·rw[hk]at e;cases e
    ·rw[hk]at e;cases e
    ·exact e
 ·refine noRace_append (h.nr said) hg λi a ha op E b R hc=>?_;rcases ac op E b R with⟨k,J,_,_,I⟩|⟨i',e0,J,_⟩|⟨J,I,e3⟩
  ·rcases I with I|I
   ·cases hw:b.write with
    |true=>rw[hw,if_pos rfl]at I;exact(h.mem p hp).own b.loc k J I i a ha hc.1
    |false=>rw[hw]at I;exact(h.mem p hp).see b.loc k J (by simpa using I) i a ha hc.1 (hc.2.2.1.resolve_right (by simp[hw]))
   ·have:=fresh (i:=i) (a:=a) (b:=k) ha (by rw[hc.1];exact J);omega
  ·have ap:p=i'+1:=by
    cases p with
    |zero=>cases e0
    |succ p=>simp only[who,aC]at e0;omega
   subst ap;exact h.cell i' (by omega) i a ha (hc.1.trans J)
  ·exact h.quiet.known J I (λe=>by rw[e3 e];rfl) i a ha hc
 ·rcases Array.mem_append.1 E with h1|h1
  ·exact MemAct.low_mono aq (h.seen op h1)
  ·exact aj op h1
 ·have:=Zx (m:=m) (p:=p) (j:=j) hm hp;rw[Deaf_other t (g':=WV m p) (by omega) u hg];exact h.above g av
 ·obtain⟨op,ho,au⟩:=aX.1 ai;rcases getElem?_append_cases ho with⟨hi,ax⟩|⟨_,ao⟩
  ·refine(h.over i g (by rw[<-g?_old (u:=u) hi];exact ai) h0 ((counts_old hi).1 hc)).imp (λ⟨q,h1,h2⟩=>?_) id
   have hq:q<t.size:=by
    unfold Trace.g? at h1;obtain⟨z,hz,_⟩:=aX.1 h1;exact lt_size_of_getElem? hz
   exact⟨q,by rw[g?_old hq];exact h1,hb_app u h2⟩
  ·have:=hg op ao;rw[au]at this;cases p with
   |zero=>exact absurd this h0
   |succ p=>exact .inr ⟨p,by omega,this⟩
theorem TI.mute(h:TI S Shun m t sz j K){g:Nat}(ak:g<m)(hg:∀op∈u,op.g=g)(hn:∀op∈u,op.act.touch? =none)(Y:∀op∈u,op.act.low sz)(aa:∀op∈u,op.act≠.mark (.release (stA S.Wg))):
  TI S Shun m (t++u) sz j K:=by
 have no:∀op∈u,∀x,op.act.touch? =some x->False:=λop E x I=>by rw[hn op E]at I;cases I
 refine⟨λq hq=>⟨λl b hb hW=>((h.mem q hq).own l b hb hW).app λop E x I _=>(no op E x I).elim,λl b hb hO=>((h.mem q hq).see l b hb hO).app λop E x I _ _=>(no op E x I).elim⟩,
  λi J=>(h.cell i J).app λop E x I _=>(no op E x I).elim,λi J=>(h.cell0 i J).app λop E x I _=>(no op E x I).elim,h.quiet.app λop E x I _=>(no op E x I).elim,λi a ha ac=>?_,
  λsaid=>noRace_append (h.nr said) hg λi a _ op E b hb _=>(no op E b hb).elim,seen_app h.seen Y,h.norel.app aa,λg' aj=>?_,λi g' R af hc=>?_⟩
 ·obtain⟨x,I,ab⟩:=touch_of ha;rcases getElem?_append_cases I with⟨J,ae⟩|⟨_,ag⟩
  ·rcases h.cls i a (by rw[touchAt_of ae];exact ab) ac with k|k|⟨⟨k,hk,e⟩,k2⟩
   ·exact .inl (k.app u)
   ·exact .inr (.inl k)
   ·exact .inr (.inr ⟨⟨k,hk,by rw[g?_old J];exact e⟩,k2⟩)
  ·exact(no x ag a ab).elim
 ·rw[Deaf_other t (g':=g) (by omega) u hg];exact h.above g' aj
 ·obtain⟨op,ho,an⟩:=aX.1 R;rcases getElem?_append_cases ho with⟨J,am⟩|⟨_,ah⟩
  ·refine(h.over i g' (by rw[<-g?_old (u:=u) J];exact R) af ((counts_old J).1 hc)).imp (λ⟨q,h1,h2⟩=>?_) id
   have hq:q<t.size:=by
    unfold Trace.g? at h1;obtain⟨z,hz,_⟩:=aX.1 h1;exact lt_size_of_getElem? hz
   exact⟨q,by rw[g?_old hq];exact h1,hb_app u h2⟩
  ·obtain⟨x,I,_⟩:=hc;obtain⟨y,hy,ai⟩:=touch_of I;rw[ho]at hy;cases hy;exact(no op ah x ai).elim
theorem TI.fork(h:TI S Shun m t sz j K){x y:MemOp}(hx:x.g=0/\x.act=.go (m+j))(Y:y.g=m+j/\y.act=.start)(hd:Deaf t 0=0){K0 Kc:jU}
  (am:∀b,K0.O b->(K 0).O b) (ah:∀b,K0.W b->(K 0).W b) (ak:∀b,Kc.O b->(K 0).O b) (aj:∀b,Kc.W b->(K 0).W b):
  TI S Shun m (t++#[x,y]) sz (j+1) (upd (upd K 0 K0) (j+1) Kc):=by
 have hk:Deaf t (m+j)=0:=h.above _ jA;have J:∀op∈#[x,y],op=x\/op=y:=by intro op E;simpa using E
 have no:∀op∈#[x,y],∀b,op.act.touch? =some b->False:=by
  intro op E b I;rcases J op E with rfl|rfl
  ·rw[hx.2]at I;cases I
  ·rw[Y.2]at I;cases I
 have old:∀{i:Nat}{a:Touch},touchAt (t++#[x,y]) i=some a->touchAt t i=some a:=by
  intro i a R;obtain⟨z,hz,ac⟩:=touch_of R;rcases getElem?_append_cases hz with⟨_,an⟩|⟨_,ai⟩
  ·rw[touchAt_of an];exact ac
  ·exact(no z ai a ac).elim
 have m0:=h.mem 0 (dF _);refine⟨λq hq=>?_,λi hi=>?_,λi hi=>(h.cell0 i (by omega)).app λop E b I _=>(no op E b I).elim,h.quiet.app λop E b I _=>(no op E b I).elim,λi a R ae=>?_,λsaid=>?_,?_,h.norel.app λop E=>?_,λg ar=>?_,λi g ab h0 hc=>?_⟩
 ·rw[Jo];split
  ·rename_i e;subst e;refine⟨λl b I hW i a R e=>?_,λl b I hO i a R e hw=>?_⟩
   ·exact fork_knows hx Y hd hk (m0.own l b I (aj b hW) i a (old R) e)
   ·exact fork_knows hx Y hd hk (m0.see l b I (ak b hO) i a (old R) e hw)
  ·rw[Jo];split
   ·rename_i e;subst e;exact⟨λl b I hW=>(m0.own l b I (ah b hW)).app λop E b I _=>(no op E b I).elim,λl b I hO=>(m0.see l b I (am b hO)).app λop E b I _ _=>(no op E b I).elim⟩
   ·have mq:=h.mem q (by omega);exact⟨λl b I hW=>(mq.own l b I hW).app λop E b I _=>(no op E b I).elim,λl b I hO=>(mq.see l b I hO).app λop E b I _ _=>(no op E b I).elim⟩
 ·rcases fQ i j with af|ao
  ·exact(h.cell i af).app λop E b I _=>(no op E b I).elim
  ·obtain rfl:i=j:=by omega
   exact λi' a R e=>fork_knows hx Y hd hk (h.cell0 i jA i' a (old R) e)
 ·have hi:i<t.size:=by
   obtain⟨z,hz,_⟩:=touch_of (old R);exact lt_size_of_getElem? hz
  rcases h.cls i a (old R) ae with k|k|⟨⟨k,ap,e⟩,k2⟩
  ·exact .inl (k.app _)
  ·exact .inr (.inl k)
  ·exact .inr (.inr ⟨⟨k,by omega,by rw[g?_old hi];exact e⟩,k2⟩)
 ·have e:t++#[x,y]=(t++#[x])++#[y]:=by apply Array.ext';simp
  rw[e]
  exact noRace_append (g:=m+j) (noRace_append (g:=0) (h.nr said) (λop E=>by simp at E;rw[E];exact hx.1) (λi a _ op E b I _=>(no op (by simp at E⊢;exact .inl E) b I).elim))
   (λop E=>by simp at E;rw[E];exact Y.1) (λi a _ op E b I _=>(no op (by simp at E⊢;exact .inr E) b I).elim)
 ·refine seen_app h.seen λop E=>?_;rcases J op E with rfl|rfl
  ·rw[hx.2];trivial
  ·rw[Y.2];trivial
 ·rcases J op E with rfl|rfl
  ·rw[hx.2];simp
  ·rw[Y.2];simp
 ·rw[Deaf_still t _ _ λop E=>?_]
  ·exact h.above g (by omega)
  ·rcases J op E with rfl|rfl
   ·rw[hx.2];exact⟨by simp,by simp⟩
   ·rw[Y.2];exact⟨by simp,by simp⟩
 ·obtain⟨op,ho,aa⟩:=aX.1 ab;rcases getElem?_append_cases ho with⟨hi,aq⟩|⟨_,ag⟩
  ·refine(h.over i g (by rw[<-g?_old (u:=#[x,y]) hi];exact ab) h0 ((counts_old hi).1 hc)).imp (λ⟨q,h1,h2⟩=>?_) λ⟨k,hk,e⟩=>⟨k,by omega,e⟩
   have hq:q<t.size:=by
    unfold Trace.g? at h1;obtain⟨z,hz,_⟩:=aX.1 h1;exact lt_size_of_getElem? hz
   exact⟨q,by rw[g?_old hq];exact h1,hb_app _ h2⟩
  ·rcases J op ag with rfl|rfl
   ·rw[hx.1]at aa;exact absurd aa.symm h0
   ·rw[Y.1]at aa;exact .inr ⟨j,by omega,aa.symm⟩
theorem TI.past(h:TI S Shun m t sz j K)(hd:Deaf t 0=0){q:Nat}(hq:t.act? q=some (.mark (.acquire (stA S.Wg))))(ac:t.g? q=some 0)(hh:t.heard q)
  (hr:∀k,k<j->∃r,RelBy (stA S.Wg) t (m+k) r/\r<q):Past (λl=>Shun l\/ShN S.Wg l) sz t:=by
 have E:∀k,k<j->∀i,t.g? i=some (m+k)->t.counts i->HappensBefore t i q:=by
  intro k hk i hi Y;obtain⟨r,hr,ae⟩:=hr k hk;have I:HappensBefore t r q:=.single (.inr ⟨.marked ae (.inr hr.act) hq (λk _ _=>h.norel k),hr.heard,hh⟩);have ai:i<=r:=Nat.le_of_not_lt λR=>hr.after i R hi Y;rcases fQ i r with R|ah
  ·exact .trans (.single (.inl ⟨R,m+k,hi,hr.g⟩)) I
  ·obtain rfl:i=r:=by omega
   exact I
 obtain⟨z,hz,ag⟩:=aX.1 ac;refine⟨h.nr,λi a ha J=>?_,λi g aa h0 Y=>?_,hd,h.seen⟩
 ·rcases h.cls i a ha J with k|k|⟨⟨k,hk,e⟩,k2⟩
  ·exact .inl k
  ·exact .inr k
  ·by_cases Y:t.counts i
   ·exact .inl ⟨q,z,hz,ag,.inr (E k hk i e Y)⟩
   ·have ab:a.kind=.atomic:=gJ λaf=>Y ⟨a,ha,J,.inl af⟩;exact .inr ⟨.inr (k2 ab),ab⟩
 ·rcases h.over i g aa h0 Y with k|⟨k,hk,rfl⟩
  ·exact k
  ·exact⟨q,ac,E k hk i aa Y⟩
theorem TI.begin{B:Nat}(h:Past Shun B t)(hg:∀g,m<=g->Deaf t g=0)(hB:B<=S.Wg)(hC:B<=S.C\/∀i,¬Shun (.cell ⟨S.C,i,none⟩))(ac:B<=sz)(hO:∀b,(K 0).O b->∀l,blk l=some b->¬Shun l)(hW:∀b,(K 0).W b->(K 0).O b):TI S Shun m t sz 0 K:=by
 have kn:∀i a,touchAt t i=some a->a.loc.isMemory=true->¬Shun a.loc->Knows t 0 i:=λi a z hm hs=>(h.known i a z hm).resolve_right λx=>hs x.1
 have E:∀{l:Loc}{b:Nat},blk l=some b->l.isMemory=true:=by
  intro l b I;cases l<;>first|rfl|cases I
 have J:∀{i:Nat}{a:Touch}{b:Nat},touchAt t i=some a->blk a.loc=some b->b<B:=by
  intro i a b z I;obtain⟨x,hx,af⟩:=touch_of z;exact yj (h.seen x (fZ hx)) af I
 refine⟨λp hp=>?_,λi Y=>by omega,λi _ i' a z e=>?_,λi op x Y hx ⟨a,e1,e2⟩=>?_,λi a z R=>(h.known i a z R).imp id λx=>.inl ⟨.inl x.1,x.2⟩,h.clean,λop ab=>MemAct.low_mono ac (h.seen op ab),λi Y=>?_,λg ag=>hg g (by omega),λi g aa h0 hc=>.inl (h.over i g aa h0 hc)⟩
 ·obtain rfl:p=0:=by omega
  refine⟨λl b I hw i a z e=>kn i a z (by rw[e];exact E I) (by rw[e];exact hO b (hW b hw) l I),λl b I ho i a z e _=>kn i a z (by rw[e];exact E I) (by rw[e];exact hO b ho l I)⟩
 ·rcases hC with hC|hC
  ·have:=J (i:=i') (a:=a) (b:=S.C) z (by rw[e];rfl);omega
  ·exact kn i' a z (by rw[e];rfl) (by rw[e];exact hC i)
 ·have:=yj (h.seen op (fZ Y)) hx (b:=S.Wg) (by rw[e1];simp[blk,e2]);omega
 ·obtain⟨op,ho,ae⟩:=aX.1 Y;have:=h.seen op (fZ ho);rw[ae]at this;have:S.Wg<B:=this;omega
end
end
end Cr
end Go.Proofs.YtpibpdpedjinhaaGreatDoor
