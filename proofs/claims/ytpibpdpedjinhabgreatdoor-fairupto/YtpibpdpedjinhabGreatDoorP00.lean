import Derived.Test.YtpibpdpedjinhabGreatDoorPA
import Derived.Calls
import Derived.StepT
import Derived.Laws.Sem
import Derived.Conc.WgGenN2
import Derived.Conc.Beside
set_option maxRecDepth 100000
set_option linter.all false
open Go renaming Goroutine->cA,World->X,stepG->dC
open Go.Conc renaming Deaf_other->mr,Goes->iA,getElem?_append_cases->il,lt_size_of_getElem?->mI
open Option renaming none->Z,some->M
open Or renaming inl->bN,inr->cF
open Prod.Lex renaming left->iS,right->jj
namespace Go.Proofs.YtpibpdpedjinhabGreatDoor
namespace Cr
open Go Go.Conc Go.ConcN
open Go.ConcR (KK wgBlock WgAt stA smA rd wr Payload DC0)
section
variable {g:cA}
inductive Tr where
 |leaf
 |node (f:X->Tr)
variable {T:Tr}
def Tr.Lt(a b:Tr):Prop:=∃f w,b=.node f/\a=f w
def Tr.wf:WellFounded Tr.Lt:=⟨λa=>by
 induction a with
 |leaf=>exact⟨_,λy ⟨f,w,e,_⟩=>by cases e⟩
 |node f ih=>exact⟨_,λy ⟨f',w,e,h⟩=>by cases e;subst h;exact ih w⟩⟩
def Tr.lt(f:X->Tr)(w:X):Tr.Lt (f w) (.node f):=⟨f,w,rfl,rfl⟩
def Tr.chain:Nat->Tr
 |0=>.leaf
 |n+1=>.node λ_=>chain n
def Tr.WY(n:Nat):Tr.Lt (Tr.chain n) (Tr.chain (n+1)):=⟨_,default,rfl,rfl⟩
def PL(j:Nat)(a b:Nat->Tr):Prop:=∃i,i<j/\Tr.Lt (a i) (b i)/\∀k,k≠i->a k=b k
def PL.wf(j:Nat):WellFounded (PL j):=by
 induction j with
 |zero=>exact⟨λa=>⟨_,λy ⟨i,I,_⟩=>Xs I aA⟩⟩
 |succ j ih=>
  refine Subrelation.wf (r:=InvImage (Prod.Lex Tr.Lt (PL j)) λf=>(f j,f)) ?_ (InvImage.wf _ (Prod.lex ⟨_,Tr.wf⟩ ⟨_,ih⟩).wf);rintro a b ⟨i,I,z,E⟩
  show Prod.Lex Tr.Lt (PL j) (a j,a) (b j,b)
  by_cases e:i=j
  .subst e;exact iS _ _ z
  .rw[E j (Ne.symm e)];exact jj _ ⟨i,aA,z,E⟩
abbrev Mu:=(Nat×Nat)×((Nat->Tr)×(Nat×Tr))
def Ep:Nat×Tr->Nat×Tr->Prop:=Prod.Lex (·<·) Tr.Lt
def pU(n:Nat):Mu->Mu->Prop:=Prod.Lex (Prod.Lex (·<·) (·<·)) (Prod.Lex (PL n) Ep)
def pU.wf(n:Nat):WellFounded (pU n):=
 (Prod.lex (Prod.lex Nat.lt_wfRel Nat.lt_wfRel) (Prod.lex ⟨PL n,PL.wf n⟩ (Prod.lex Nat.lt_wfRel ⟨Tr.Lt,Tr.wf⟩))).wf
section
variable {n q q' s s':Nat}{f f':Nat->Tr}{x x':Nat×Tr}
def pU.quit(h:q'<q):pU n ((q',s'),(f',x')) ((q,s),(f,x)):=iS _ _ (iS _ _ h)
def pU.stage(h:s'<s):pU n ((q,s'),(f',x')) ((q,s),(f,x)):=iS _ _ (jj _ h)
def pU.way(h:PL n f' f):pU n ((q,s),(f',x')) ((q,s),(f,x)):=jj _ (iS _ _ h)
def pU.own(h:Ep x' x):pU n ((q,s),(f,x')) ((q,s),(f,x)):=jj _ (jj _ h)
end
def pU.trans{n:Nat}{a c:Mu}{q s s':Nat}{f:Nat->Tr}{x x':Nat×Tr}(h:pU n a ((q,s),(f,x)))(hs:s<s')(hc:c=((q,s'),(f,x'))):pU n a c:=by
 subst hc;obtain⟨⟨z,E⟩,I⟩:=a;cases h with
 |left _ _ h=>
  cases h with
  |left _ _ h=>exact iS _ _ (iS _ _ h)
  |right _ h=>exact iS _ _ (jj _ aA)
 |right _ h=>exact iS _ _ (jj _ hs)
def Ep.way{k:Nat}{a b:Tr}(h:Tr.Lt a b):Ep (k,a) (k,b):=jj _ h
structure kC where
 O:Nat->Prop
 W:Nat->Prop
def kC.grow(K:kC)(a b:Nat):kC:=⟨λx=>K.O x\/(a<=x/\x<b),λx=>K.W x\/(a<=x/\x<b)⟩
structure Who where
 Wg:Nat
 C:Nat
 n:Nat
 ty:TypeId
 lo:Nat
section
variable [Payload]
structure En(S:Who)(me:Option Nat)(K:kC)(w w₁:X):Prop where
 tape:w₁.tape=w.tape
 os:w₁.os=w.os
 output:w₁.output=w.output
 size:w.heap.size<=w₁.heap.size
 block:∀b,K.O b->w₁.heap[b]? =w.heap[b]?
 live:WgLive S.ty S.Wg w->WgLive S.ty S.Wg w₁
 pay:PayAt S.C S.n w->PayAt S.C S.n w₁
 cell:∀i,me=M i->w₁.cell? ⟨S.C,i,Z⟩=w.cell? ⟨S.C,i,Z⟩
 low:∀b,b<S.lo->w₁.heap[b]? =w.heap[b]?
variable {S:Who}{me:Option Nat}{K:kC}{w w₁ w₂:X}
def En.refl(S:Who)(me:Option Nat)(K:kC)(w:X):En S me K w w:=⟨rfl,rfl,rfl,jB,λ_ _=>rfl,id,id,λ_ _=>rfl,λ_ _=>rfl⟩
def En.trans(h:En S me K w w₁)(k:En S me K w₁ w₂):En S me K w w₂:=
 ⟨k.tape.trans h.tape,k.os.trans h.os,k.output.trans h.output,bH h.size k.size,λb z=>(k.block b z).trans (h.block b z),k.live∘h.live,k.pay∘h.pay,λi E=>(k.cell i E).trans (h.cell i E),λb z=>(k.low b z).trans (h.low b z)⟩
def En.at(S:Who)(me:Option Nat)(K:kC)(w:X)(d:Nat):En S me K w (w.at d):=⟨rfl,rfl,rfl,jB,λ_ _=>rfl,id,id,λ_ _=>rfl,λ_ _=>rfl⟩
def EvX(K:kC)(n E:Nat)(e:Event):Prop:=
 (∃a wr,e=⟨.cell a,wr,false⟩/\((if wr then K.W a.block else K.O a.block)\/n<=a.block)/\a.block<E)\/(∃r wr,e=⟨.obj r,wr,false⟩/\((if wr then K.W r else K.O r)\/n<=r)/\r<E)\/
  (∃wr z,e=⟨.mark .noRoom,wr,z⟩)\/∃f wr z,e=⟨.mark (.extern f),wr,z⟩
def EvM(S:Who)(me:Option Nat)(K:kC)(n z:Nat)(e:Event):Prop:=
 EvX K n z e\/(∃i wr,me=M i/\e=⟨.cell ⟨S.C,i,Z⟩,wr,false⟩)\/(me=Z/\(e=Go.ConcR.mk (.read (smA S.Wg))\/e=Go.ConcR.mk (.write (smA S.Wg))))
structure Gu(S:Who)(me:Option Nat)(K:kC)(w w':X)(es:Array Event):Prop where
 tape:w'.tape=w.tape
 os:w'.os=w.os
 output:w'.output=w.output
 size:w.heap.size<=w'.heap.size
 block:∀b,b<w.heap.size->¬K.W b->(b=S.C->me=Z)->w'.heap[b]? =w.heap[b]?
 pay:PayAt S.C S.n w->PayAt S.C S.n w'
 cells:∀i,M i≠me->w'.cell? ⟨S.C,i,Z⟩=w.cell? ⟨S.C,i,Z⟩
 events:∀e∈es,EvM S me K w.heap.size w'.heap.size e
def Gu.still(S:Who)(me:Option Nat)(K:kC)(w:X):Gu S me K w w #[]:=⟨rfl,rfl,rfl,jB,λ_ _ _ _=>rfl,id,λ_ _=>rfl,λe z=>by simp at z⟩
def jT(P:Program)(main:Bool)(S:Who)(me:Option Nat)(Stop:kC->cA->X->Prop):Tr->kC->cA->X->Prop
 |.leaf,K,g,w=>∀w₁,En S me K w w₁->Stop K g w₁
 |.node f,K,g,w=>g.status=.running/\∀w₁,En S me K w w₁->∃g' w' es,dC P main g w₁=.go g' w' es/\Gu S me K w₁ w' es/\jT P main S me Stop (f w₁) (K.grow w₁.heap.size w'.heap.size) g' w'
variable {P:Program}{main:Bool}{Stop Stop':kC->cA->X->Prop}
def jT.rely(h:jT P main S me Stop T K g w)(E:En S me K w w₁):jT P main S me Stop T K g w₁:=by
 cases T with
 |leaf=>exact λw₂ z=>h w₂ (E.trans z)
 |node f=>exact⟨h.1,λw₂ z=>h.2 w₂ (E.trans z)⟩
def jT.mono:∀{K:kC}{g:cA}{w:X},jT P main S me Stop T K g w->(∀K g w,Stop K g w->Stop' K g w)->jT P main S me Stop' T K g w:=by
 induction T with
 |leaf=>exact λh hs w₁ z=>hs _ _ _ (h w₁ z)
 |node f ih=>exact λh hs=>⟨h.1,λw₁ z=>let ⟨g',w',es,e,hg,hr⟩:=h.2 w₁ z;⟨g',w',es,e,hg,ih w₁ hr hs⟩⟩
def jT.running(h:jT P main S me Stop T K g w)(hs:∀K g w,Stop K g w->g.status=.running):g.status=.running:=by
 cases T with
 |leaf=>exact hs _ _ _ (h w (.refl ..))
 |node f=>exact h.1
def jT.cases(h:jT P main S me Stop T K g w):Stop K g w\/∃f g' w' es,T=.node f/\dC P main g w=.go g' w' es/\Gu S me K w w' es/\jT P main S me Stop (f w) (K.grow w.heap.size w'.heap.size) g' w':=by
 cases T with
 |leaf=>exact bN (h w (.refl ..))
 |node f=>obtain⟨g',w',es,e,E,z⟩:=h.2 w (.refl ..);exact cF ⟨f,g',w',es,rfl,e,E,z⟩
def jT.bind:∀{K:kC}{g:cA}{w:X},jT P main S me Stop T K g w->(∀K g w,Stop K g w->∃T',jT P main S me Stop' T' K g w)->∃T',jT P main S me Stop' T' K g w:=by
 induction T with
 |leaf=>
  intro K g w h hs;obtain⟨T',E⟩:=hs _ _ _ (h w (.refl ..));exact⟨T',E⟩
 |node f ih=>
  intro K g w h hs
  have key:∀w₁,En S me K w w₁->∃T',∃g' w' es,dC P main g w₁=.go g' w' es/\Gu S me K w₁ w' es/\jT P main S me Stop' T' (K.grow w₁.heap.size w'.heap.size) g' w':=by
   intro w₁ z;obtain⟨g',w',es,e,J,I⟩:=h.2 w₁ z;obtain⟨T',E⟩:=ih w₁ I hs;exact⟨T',g',w',es,e,J,E⟩
  refine⟨.node λw₁=>open Classical in if z:En S me K w w₁ then Classical.choose (key w₁ z)else .leaf,h.1,λw₁ z=>?_⟩;simp only[dif_pos z];exact gJ (key w₁ z)
def jT.one(hs:g.status=.running)(h:∀w₁,En S me K w w₁->∃g' w' es,dC P main g w₁=.go g' w' es/\Gu S me K w₁ w' es/\∃T',jT P main S me Stop T' (K.grow w₁.heap.size w'.heap.size) g' w'):∃T,jT P main S me Stop T K g w:=by
 have key:∀w₁,En S me K w w₁->∃T',∃g' w' es,dC P main g w₁=.go g' w' es/\Gu S me K w₁ w' es/\jT P main S me Stop T' (K.grow w₁.heap.size w'.heap.size) g' w':=by
  intro w₁ z;obtain⟨g',w',es,e,I,T',E⟩:=h w₁ z;exact⟨T',g',w',es,e,I,E⟩
 refine⟨.node λw₁=>open Classical in if z:En S me K w w₁ then Classical.choose (key w₁ z)else .leaf,hs,λw₁ z=>?_⟩;simp only[dif_pos z];exact gJ (key w₁ z)
def jT.stop(h:∀w₁,En S me K w w₁->Stop K g w₁):∃T,jT P main S me Stop T K g w:=⟨.leaf,h⟩
omit [Payload] in
def kR(K:kC)(a:Nat):K.grow a a=K:=by
 cases K with
 |mk O W=>
  simp only[kC.grow,kC.mk.injEq];constructor<;>funext x<;>(refine propext ⟨λh=>h.elim id λh=>Xs h aA,bN⟩)
def jT.QA{R:X->X->Prop}{I:cA->X->Prop}(E:∀w w₁,En S me K w w₁->R w w₁):∀{n:Nat}{g:cA}{w:X},iA P main R DC0 I n g w->∃T,jT P main S me (λK' g w=>K'=K/\I g w) T K g w:=by
 intro n
 induction n with
 |zero=>exact λh=>jT.stop λw₁ z=>⟨rfl,h w₁ (E _ _ z)⟩
 |succ n ih=>
  intro g w h;obtain h|⟨hs,h⟩:=h
  .exact jT.stop λw₁ z=>⟨rfl,h w₁ (E _ _ z)⟩
  .refine jT.one hs λw₁ z=>?_;have:=h w₁ (E _ _ z);cases J:dC P main g w₁ with
   |go g' w' es=>
    rw[J,goes_go]at this;obtain⟨⟨rfl,rfl⟩,hG⟩:=this;obtain⟨T,Y⟩:=ih hG;exact⟨g',w',_,rfl,.still ..,T,by rw[kR];exact Y⟩
   |_=>rw[J]at this;exact this.elim
end
end
open Go.ConcR (KK wgBlock WgAt stA smA rd wr Payload DC0 Bk g_of_ofEvents loc_of_ofEvent ofEvent_cell ofEvent_loc_mark bk_of_mute)
section
def blk:Loc->Option Nat
 |.cell a=>M a.block
 |.obj r=>M r
 |_=>Z
def gno(m:Nat):Nat->Nat
 |0=>0
 |p+1=>m+p
def who:Nat->Option Nat
 |0=>Z
 |p+1=>M p
structure TM(t:Trace)(g:Nat)(K:kC):Prop where
 own:∀l b,blk l=M b->K.W b->Perm t g l
 see:∀l b,blk l=M b->K.O b->PermW t g l
structure Jy(S:Who)(sz j:Nat)(K:Nat->kC):Prop where
 w:∀p,p<=j->∀b,(K p).W b->(K p).O b
 o:∀p,p<=j->∀b,(K p).O b->b<sz/\b≠S.Wg/\b≠S.C
 d:∀p q,p<=j->q<=j->p≠q->∀b,(K p).W b->¬(K q).O b
 hWg:S.Wg<sz
 hC:S.C<sz
 ne:S.C≠S.Wg
 lo:∀p,p<=j->∀b,(K p).W b->S.lo<=b
 lWg:S.lo<=S.Wg
 lC:S.lo<=S.C
structure TI(S:Who)(Shun:Loc->Prop)(m:Nat)(t:Trace)(sz j:Nat)(K:Nat->kC):Prop where
 mem:∀p,p<=j->TM t (gno m p) (K p)
 cell:∀i,i<j->Perm t (m+i) (.cell ⟨S.C,i,Z⟩)
 cell0:∀i,j<=i->Perm t 0 (.cell ⟨S.C,i,Z⟩)
 quiet:Quiet (ShN S.Wg) t
 cls:∀i a,touchAt t i=M a->a.loc.isMemory=true->Knows t 0 i\/((Shun a.loc\/ShN S.Wg a.loc)/\a.kind=.atomic)\/((∃k,k<j/\t.g? i=M (m+k))/\(a.kind=.atomic->ShN S.Wg a.loc))
 nr:∀said,¬Race said t
 seen:∀op∈t,op.act.low sz
 norel:NoRelease (stA S.Wg) t
 above:∀g,m+j<=g->Deaf t g=0
 over:∀i g,t.g? i=M g->g≠0->t.counts i->(∃q,t.g? q=M 0/\HappensBefore t i q)\/∃k,k<j/\g=m+k
def Okt(S:Who)(p:Nat)(K:kC)(sz sz':Nat)(x:Touch):Prop:=
 (∃b,blk x.loc=M b/\b<sz'/\x.kind=.plain/\((if x.write then K.W b else K.O b)\/sz<=b))\/(∃i,who p=M i/\x.loc=.cell ⟨S.C,i,Z⟩/\x.kind=.plain)\/(ShN S.Wg x.loc/\x.kind≠.plain/\(x.kind=.said->p=0))
section
variable {S:Who}{Shun:Loc->Prop}{m:Nat}{t u:Trace}{sz sz' j p:Nat}{K:Nat->kC}
def adg(z:1<=m)(hp:p<=j):gno m p<m+j:=by cases p<;>simp only[gno]<;>omega
def yC{act:MemAct}{x:Touch}{b B:Nat}(I:act.low B)(E:act.touch? =M x)(z:blk x.loc=M b):b<B:=by
 cases act with
 |access e=>
  simp only[MemAct.touch?,aK]at E;subst E;simp only[MemAct.low]at I;cases h:e.loc<;>rw[h]at I z<;>simp only[blk,aK]at z
  .subst z;exact I
  .subst z;exact I
  all_goals cases z
 |mark k=>cases k<;>simp only[MemAct.touch?,aK]at E<;>first|(cases E;done)|(subst E;simp only[blk,aK]at z;subst z;exact I)
 |_=>cases E
def Ld{α:Type}(f:Nat->α)(p:Nat)(x:α)(q:Nat):upd f p x q=if q=p then x else f q:=rfl
def TI.app(hm:1<=m)(A:Jy S sz j K)(h:TI S Shun m t sz j K)(hp:p<=j)(aq:sz<=sz')(hg:∀op∈u,op.g=gno m p)(ae:∀op∈u,∀x,op.act.touch? =M x->Okt S p (K p) sz sz' x)(ak:∀op∈u,op.act.low sz')(am:∀op∈u,op.act≠.mark (.release (stA S.Wg))):TI S Shun m (t++u) sz' j (upd K p ((K p).grow sz sz')):=by
 have fresh:∀{i:Nat}{a:Touch}{b:Nat},touchAt t i=M a->blk a.loc=M b->b<sz:=by
  intro i a b ha R;obtain⟨x,Y,ac⟩:=touch_of ha;exact yC (h.seen x (gK Y)) ac R
 have af:∀q,q<=j->q≠p->∀l b,blk l=M b->∀op∈u,∀x,op.act.touch? =M x->x.loc=l->((K q).W b->False)/\((K q).O b->x.write=true->False):=by
  intro q hq aa l b R op E x Y e;subst e;refine⟨λhW=>?_,λhO hw=>?_⟩
  .have hO:=A.w q hq b hW;obtain⟨h1,h2,h3⟩:=A.o q hq b hO;obtain⟨b',J,_,_,I⟩|⟨i,_,J,_⟩|⟨⟨a,J,I⟩,_⟩:=ae op E x Y
   .rw[R]at J;cases J;obtain I|I:=I
    .cases hw:x.write with
     |true=>rw[hw,ZD rfl]at I;exact A.d p q hp hq (Ne.symm aa) b I hO
     |false=>rw[hw]at I;exact A.d q p hq hp aa b hW (by simpa using I)
    .omega
   .rw[J]at R;simp only[blk,aK]at R;exact h3 R.symm
   .rw[J]at R;simp only[blk,aK]at R;omega
  .obtain⟨h1,h2,h3⟩:=A.o q hq b hO;obtain⟨b',J,_,_,I⟩|⟨i,_,J,_⟩|⟨⟨a,J,I⟩,_⟩:=ae op E x Y
   .rw[R]at J;cases J;obtain I|I:=I
    .rw[hw,ZD rfl]at I;exact A.d p q hp hq (Ne.symm aa) b I hO
    .omega
   .rw[J]at R;simp only[blk,aK]at R;exact h3 R.symm
   .rw[J]at R;simp only[blk,aK]at R;omega
 have ai:∀l b,blk l=M b->sz<=b->Perm (t++u) (gno m p) l:=by
  intro l b R ay i a ha e;obtain⟨x,Y,ac⟩:=touch_of ha;obtain⟨_,ah⟩|⟨_,ag⟩:=il Y
  .have:=fresh (i:=i) (a:=a) (b:=b) (by rw[touchAt_of ah];exact ac) (by rw[e];exact R);omega
  .have:=knows_own Y;grind
 have au:∀(i:Nat) op,op∈u->∀x,op.act.touch? =M x->x.loc=.cell ⟨S.C,i,Z⟩->p=i+1:=by
  intro i op E x Y e;obtain⟨b',J,_,_,I⟩|⟨i',e0,J,_⟩|⟨⟨a,J,I⟩,_⟩:=ae op E x Y
  .rw[e]at J;simp only[blk,aK]at J;subst J;obtain I|I:=I
   .have hO:(K p).O S.C:=by
     cases hw:x.write with
     |true=>rw[hw,ZD rfl]at I;exact A.w p hp _ I
     |false=>grind
    exact Xs rfl (A.o p hp _ hO).2.2
   .have:=A.hC;omega
  .rw[e]at J;have ar:i=i':=by injection J with J;injection J
   subst ar;cases p with
   |zero=>cases e0
   |succ p=>simp only[who,aK]at e0;omega
  .rw[e]at J;cases J;exact Xs I A.ne
 refine⟨λq hq=>?_,λi hi=>(h.cell i hi).app λop E x Y e=>?_,λi hi=>(h.cell0 i hi).app λop E x Y e=>?_,h.quiet.app λop E x Y hs=>?_,λi a ha an=>?_,λsaid=>?_,
  λop E=>?_,h.norel.app am,λg aw=>?_,λi g aj h0 hc=>?_⟩
 .rw[Ld];split
  .rename_i e;subst e;refine⟨λl b R hW=>?_,λl b R hO=>?_⟩
   .obtain hW|⟨hW,_⟩:=hW
    .exact((h.mem q hq).own l b R hW).app λop E _ _ _=>hg op E
    grind
   .obtain hO|⟨hO,_⟩:=hO
    .exact((h.mem q hq).see l b R hO).app λop E _ _ _ _=>hg op E
    .exact PermW.of (ai l b R hO)
  .rename_i aa
   exact⟨λl b R hW=>((h.mem q hq).own l b R hW).app λop E x Y e=>((af q hq aa l b R op E x Y e).1 hW).elim,
    λl b R hO=>((h.mem q hq).see l b R hO).app λop E x Y e hw=>((af q hq aa l b R op E x Y e).2 hO hw).elim⟩
 .have:=au i op E x Y e;subst this;exact hg op E
 .grind
 .obtain⟨b,J,_,_,I⟩|⟨i,_,J,_⟩|⟨_,I,e3⟩:=ae op E x Y
  .obtain⟨a,ea,eb⟩:=hs;rw[ea]at J;simp only[blk,aK]at J;rw[eb]at J;subst J;obtain I|I:=I
   .have hO:(K p).O S.Wg:=by
     cases hw:x.write with
     |true=>rw[hw,ZD rfl]at I;exact A.w p hp _ I
     |false=>grind
    exact Xs rfl (A.o p hp _ hO).2.1
   .have:=A.hWg;omega
  .obtain⟨a,ea,eb⟩:=hs;rw[ea]at J;cases J;exact Xs eb A.ne
  .exact⟨I,λe=>by rw[hg op E,e3 e];rfl⟩
 .obtain⟨x,Y,ac⟩:=touch_of ha;obtain⟨hi,ah⟩|⟨_,ag⟩:=il Y
  .obtain k|k|⟨⟨k,hk,e⟩,k2⟩:=h.cls i a (by rw[touchAt_of ah];exact ac) an
   .exact bN (k.app u)
   .exact cF (bN k)
   .exact cF (cF ⟨⟨k,hk,by rw[g?_old hi];exact e⟩,k2⟩)
  .cases p with
   |zero=>have:=knows_own Y;rw[hg x ag]at this;exact bN this
   |succ p=>
    refine cF (cF ⟨⟨p,aA,by simp[Trace.g?,Y,hg x ag,gno]⟩,λhk=>?_⟩);obtain⟨_,_,_,e,_⟩|⟨_,_,_,e⟩|⟨e,_⟩:=ae x ag a ac
    .rw[hk]at e;cases e
    .rw[hk]at e;cases e
    .exact e
 .refine noRace_append (h.nr said) hg λi a ha op E b R hc=>?_;obtain⟨k,J,_,_,I⟩|⟨i',e0,J,_⟩|⟨J,I,e3⟩:=ae op E b R
  .obtain I|I:=I
   .cases hw:b.write with
    |true=>rw[hw,ZD rfl]at I;exact(h.mem p hp).own _ k J I i a ha hc.1
    |false=>rw[hw]at I;exact(h.mem p hp).see _ k J (by simpa using I) i a ha hc.1 (hc.2.2.1.resolve_right (by simp[hw]))
   .have:=fresh (i:=i) (a:=a) (b:=k) ha (by rw[hc.1];exact J);omega
  .have ap:p=i'+1:=by
    cases p with
    |zero=>cases e0
    |succ p=>grind
   subst ap;exact h.cell i' aA i a ha (hc.1.trans J)
  .exact h.quiet.known J I (λe=>by rw[e3 e];rfl) i a ha hc
 .obtain h1|h1:=Array.mem_append.1 E
  .exact MemAct.low_mono aq (h.seen op h1)
  .exact ak op h1
 .have:=adg (m:=m) (p:=p) (j:=j) hm hp;rw[mr t (g':=gno m p) aA u hg];exact h.above g aw
 .obtain⟨op,ho,av⟩:=bI.1 aj;obtain⟨hi,az⟩|⟨_,ao⟩:=il ho
  .refine(h.over i g (by rw[<-g?_old (u:=u) hi];exact aj) h0 ((counts_old hi).1 hc)).imp (λ⟨q,h1,h2⟩=>?_) id
   have hq:q<t.size:=by
    unfold Trace.g? at h1;obtain⟨z,hz,_⟩:=bI.1 h1;exact mI hz
   exact⟨q,by rw[g?_old hq];exact h1,hb_app u h2⟩
  .have:=hg op ao;rw[av]at this;cases p with
   |zero=>exact Xs this h0
   |succ p=>exact cF ⟨p,aA,this⟩
def TI.mute(h:TI S Shun m t sz j K){g:Nat}(ai:g<m)(hg:∀op∈u,op.g=g)(hn:∀op∈u,op.act.touch? =Z)(Y:∀op∈u,op.act.low sz)(aa:∀op∈u,op.act≠.mark (.release (stA S.Wg))):TI S Shun m (t++u) sz j K:=by
 have no:∀op∈u,∀x,op.act.touch? =M x->False:=λop E x I=>by grind
 refine⟨λq hq=>⟨λl b hb hW=>((h.mem q hq).own l b hb hW).app λop E x I _=>(no op E x I).elim,λl b hb hO=>((h.mem q hq).see l b hb hO).app λop E x I _ _=>(no op E x I).elim⟩,
  λi J=>(h.cell i J).app λop E x I _=>(no op E x I).elim,λi J=>(h.cell0 i J).app λop E x I _=>(no op E x I).elim,h.quiet.app λop E x I _=>(no op E x I).elim,λi a ha ac=>?_,
  λsaid=>noRace_append (h.nr said) hg λi a _ op E b hb _=>(no op E b hb).elim,seen_app h.seen Y,h.norel.app aa,λg' ah=>?_,λi g' R af hc=>?_⟩
 .obtain⟨x,I,ag⟩:=touch_of ha;obtain⟨J,ae⟩|⟨_,aj⟩:=il I
  .obtain k|k|⟨⟨k,hk,e⟩,k2⟩:=h.cls i a (by rw[touchAt_of ae];exact ag) ac
   .exact bN (k.app u)
   .exact cF (bN k)
   .exact cF (cF ⟨⟨k,hk,by rw[g?_old J];exact e⟩,k2⟩)
  grind
 .rw[mr t (g':=g) aA u hg];exact h.above g' ah
 .obtain⟨op,ho,ao⟩:=bI.1 R;obtain⟨J,am⟩|⟨_,ak⟩:=il ho
  .refine(h.over i g' (by rw[<-g?_old (u:=u) J];exact R) af ((counts_old J).1 hc)).imp (λ⟨q,h1,h2⟩=>?_) id
   have hq:q<t.size:=by
    unfold Trace.g? at h1;obtain⟨z,hz,_⟩:=bI.1 h1;exact mI hz
   exact⟨q,by rw[g?_old hq];exact h1,hb_app u h2⟩
  .obtain⟨x,I,_⟩:=hc;obtain⟨y,hy,an⟩:=touch_of I
   grind
def TI.fork(h:TI S Shun m t sz j K){x y:MemOp}(hx:x.g=0/\x.act=.go (m+j))(Y:y.g=m+j/\y.act=.start)(hd:Deaf t 0=0){K0 Kc:kC}(am:∀b,K0.O b->(K 0).O b)(ah:∀b,K0.W b->(K 0).W b)(aj:∀b,Kc.O b->(K 0).O b)(ai:∀b,Kc.W b->(K 0).W b):TI S Shun m (t++#[x,y]) sz (j+1) (upd (upd K 0 K0) (j+1) Kc):=by
 have hk:=h.above _ jB;have R:∀op∈#[x,y],op=x\/op=y:=by intro op E;simpa using E
 have no:∀op∈#[x,y],∀b,op.act.touch? =M b->False:=by
  intro op E b I;obtain rfl|rfl:=R op E
  .rw[hx.2]at I;cases I
  .rw[Y.2]at I;cases I
 have old:∀{i:Nat}{a:Touch},touchAt (t++#[x,y]) i=M a->touchAt t i=M a:=by
  intro i a J;obtain⟨z,hz,ak⟩:=touch_of J;obtain⟨_,an⟩|⟨_,aq⟩:=il hz
  .rw[touchAt_of an];exact ak
  .grind
 have m0:=h.mem 0 (dL _);refine⟨λq hq=>?_,λi hi=>?_,λi hi=>(h.cell0 i aA).app λop E b I _=>(no op E b I).elim,h.quiet.app λop E b I _=>(no op E b I).elim,λi a J ac=>?_,λsaid=>?_,?_,h.norel.app λop E=>?_,λg au=>?_,λi g aa h0 hc=>?_⟩
 .rw[Ld];split
  .rename_i e;subst e;refine⟨λl b I hW i a J e=>?_,λl b I hO i a J e hw=>?_⟩
   .exact fork_knows hx Y hd hk (m0.own l b I (ai b hW) i a (old J) e)
   .exact fork_knows hx Y hd hk (m0.see l b I (aj b hO) i a (old J) e hw)
  .rw[Ld];split
   .rename_i e;subst e;exact⟨λl b I hW=>(m0.own l b I (ah b hW)).app λop E b I _=>(no op E b I).elim,λl b I hO=>(m0.see l b I (am b hO)).app λop E b I _ _=>(no op E b I).elim⟩
   .have mq:=h.mem q aA;exact⟨λl b I hW=>(mq.own l b I hW).app λop E b I _=>(no op E b I).elim,λl b I hO=>(mq.see l b I hO).app λop E b I _ _=>(no op E b I).elim⟩
 .obtain af|ao:=gG i j
  .exact(h.cell i af).app λop E b I _=>(no op E b I).elim
  .obtain rfl:i=j:=by omega
   exact λi' a J e=>fork_knows hx Y hd hk (h.cell0 i jB i' a (old J) e)
 .have hi:i<t.size:=by
   obtain⟨z,hz,_⟩:=touch_of (old J);exact mI hz
  obtain k|k|⟨⟨k,ap,e⟩,k2⟩:=h.cls i a (old J) ac
  .exact bN (k.app _)
  .exact cF (bN k)
  .exact cF (cF ⟨⟨k,aA,by rw[g?_old hi];exact e⟩,k2⟩)
 .have e:t++#[x,y]=(t++#[x])++#[y]:=by apply Array.ext';simp
  rw[e]
  exact noRace_append (g:=m+j) (noRace_append (g:=0) (h.nr said) (λop E=>by grind) (λi a _ op E b I _=>(no op (by grind) b I).elim))
   (λop E=>by grind) (λi a _ op E b I _=>(no op (by grind) b I).elim)
 .refine seen_app h.seen λop E=>?_;obtain rfl|rfl:=R op E
  .rw[hx.2];trivial
  .rw[Y.2];trivial
 .grind
 .rw[Deaf_still t _ _ λop E=>?_]
  .exact h.above g aA
  grind
 .obtain⟨op,ho,ae⟩:=bI.1 aa;obtain⟨hi,ar⟩|⟨_,ag⟩:=il ho
  .refine(h.over i g (by rw[<-g?_old (u:=#[x,y]) hi];exact aa) h0 ((counts_old hi).1 hc)).imp (λ⟨q,h1,h2⟩=>?_) λ⟨k,hk,e⟩=>⟨k,aA,e⟩
   have hq:q<t.size:=by
    unfold Trace.g? at h1;obtain⟨z,hz,_⟩:=bI.1 h1;exact mI hz
   exact⟨q,by rw[g?_old hq];exact h1,hb_app _ h2⟩
  .obtain rfl|rfl:=R op ag
   .omega
   .rw[Y.1]at ae;exact cF ⟨j,aA,ae.symm⟩
def TI.past(h:TI S Shun m t sz j K)(hd:Deaf t 0=0){q:Nat}(hq:t.act? q=M (.mark (.acquire (stA S.Wg))))(ag:t.g? q=M 0)(hh:t.heard q)(R:∀k,k<j->∃r,RelBy (stA S.Wg) t (m+k) r/\r<q):Past (λl=>Shun l\/ShN S.Wg l) sz t:=by
 have E:∀k,k<j->∀i,t.g? i=M (m+k)->t.counts i->HappensBefore t i q:=by
  intro k hk i hi hc;obtain⟨r,R,aa⟩:=R k hk;have Y:HappensBefore t r q:=.single (cF ⟨.marked aa (cF R.act) hq (λk _ _=>h.norel k),R.heard,hh⟩);have aj:=Nat.le_of_not_lt λJ=>R.after i J hi hc;obtain J|ah:=gG i r
  .exact .trans (.single (bN ⟨J,_,hi,R.g⟩)) Y
  .grind
 obtain⟨z,hz,af⟩:=bI.1 ag;refine⟨h.nr,λi a ha I=>?_,λi g ac h0 hc=>?_,hd,h.seen⟩
 .obtain k|k|⟨⟨k,hk,e⟩,k2⟩:=h.cls i a ha I
  .exact bN k
  .exact cF k
  .by_cases hc:t.counts i
   .exact bN ⟨q,z,hz,af,cF (E k hk i e hc)⟩
   .have ai:=gW λae=>hc ⟨a,ha,I,bN ae⟩
    grind
 .obtain k|⟨k,hk,rfl⟩:=h.over i g ac h0 hc
  .exact k
  grind
def TI.begin{B:Nat}(h:Past Shun B t)(hg:∀g,m<=g->Deaf t g=0)(hB:B<=S.Wg)(hC:B<=S.C\/∀i,¬Shun (.cell ⟨S.C,i,Z⟩))(ae:B<=sz)(hO:∀b,(K 0).O b->∀l,blk l=M b->¬Shun l)(hW:∀b,(K 0).W b->(K 0).O b):TI S Shun m t sz 0 K:=by
 have kn:∀i a,touchAt t i=M a->a.loc.isMemory=true->¬Shun a.loc->Knows t 0 i:=λi a z hm hs=>(h.known i a z hm).resolve_right λx=>hs x.1
 have E:∀{l:Loc}{b:Nat},blk l=M b->l.isMemory=true:=by
  intro l b I;cases l<;>first|rfl|cases I
 have J:∀{i:Nat}{a:Touch}{b:Nat},touchAt t i=M a->blk a.loc=M b->b<B:=by
  intro i a b z I;obtain⟨x,hx,ag⟩:=touch_of z;exact yC (h.seen x (gK hx)) ag I
 refine⟨λp hp=>?_,λi Y=>aA,λi _ i' a z e=>?_,λi op x Y hx ⟨a,e1,e2⟩=>?_,λi a z R=>(h.known i a z R).imp id λx=>bN ⟨bN x.1,x.2⟩,h.clean,λop ac=>MemAct.low_mono ae (h.seen op ac),λi Y=>?_,λg ah=>hg g aA,λi g aa h0 hc=>bN (h.over i g aa h0 hc)⟩
 .obtain rfl:p=0:=by omega
  refine⟨λl b I hw i a z e=>kn i a z (by rw[e];exact E I) (by grind),λl b I ho i a z e _=>kn i a z (by rw[e];exact E I) (by grind)⟩
 .obtain hC|hC:=hC
  .have:=J (i:=i') (a:=a) (b:=S.C) z (by rw[e];rfl);omega
  .exact kn i' a z (by rw[e];rfl) (by rw[e];exact hC i)
 .have:=yC (h.seen op (gK Y)) hx (b:=S.Wg) (by rw[e1];simp[blk,e2]);omega
 .obtain⟨op,ho,af⟩:=bI.1 Y;have:=h.seen op (gK ho);rw[af]at this;have:S.Wg<B:=this;omega
end
end
end Cr
