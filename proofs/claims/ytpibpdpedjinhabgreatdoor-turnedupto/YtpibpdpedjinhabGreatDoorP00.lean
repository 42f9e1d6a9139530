import Derived.Test.YtpibpdpedjinhabGreatDoorPA
import Derived.Calls
import Derived.StepT
import Derived.Laws.Sem
import Derived.Conc.WgGenN2
import Derived.Conc.Beside
set_option maxRecDepth 100000
set_option maxHeartbeats 1600000
set_option linter.all false
open Bool renaming false->aL,true->aR
open Go renaming Event->jz,Goroutine->cA,Program->cU,World->U,deafBehind->gH,stepG->eC
open Go.Conc renaming Deaf_other->mC,Goes->iv,aside_setCell->iz,getElem?_append_cases->iu,lt_size_of_getElem?->nq,mem_ofEvents->oj
open Go.Conc.Goes renaming cases->oX
open Go.ConcN renaming Mode->gS,PayAt->pL,WgLive->iB,upd_ne->kr,upd_same->fN
open Go.ConcN.RW renaming refl->j9
open Go.ConcR renaming Payload->pf,g_of_ofEvents->fI,mk->cY,ofEvent_loc_mark->lj
open Go.GoStatus renaming running->eN
open Go.MemAct renaming ofEvent->cX,touch?->gM
open Go.MemOp renaming ofEvents->eL
open Ne renaming symm->mn
open Option renaming none->Z,some->M
open Or renaming inl->bE,inr->cD
open Prod.Lex renaming left->ju,right->kg
namespace Go.Proofs.YtpibpdpedjinhabGreatDoor
namespace Cr
open Go Go.Conc Go.ConcN
open Go.ConcR (KK wgBlock WgAt stA smA rd wr Payload DC0)
section
variable {g:cA}
inductive Tr where
 |leaf
 |node (f:U->Tr)
variable {T:Tr}
def Tr.Lt(a b:Tr):Prop:=∃f w,b=.node f/\a=f w
def Tr.wf:WellFounded Tr.Lt:=⟨λa=>by
 induction a with
 |leaf=>exact⟨_,λy ⟨f,w,e,_⟩=>by cases e⟩
 |node f ih=>exact⟨_,λy ⟨f',w,e,h⟩=>by cases e;subst h;exact ih w⟩⟩
def Tr.lt(f:U->Tr)(w:U):Tr.Lt (f w) (.node f):=⟨f,w,rfl,rfl⟩
def Tr.chain:Nat->Tr
 |0=>.leaf
 |n+1=>.node λ_=>chain n
def Tr.WY(n:Nat):Tr.Lt (Tr.chain n) (Tr.chain (n+1)):=⟨_,default,rfl,rfl⟩
def PL(j:Nat)(a b:Nat->Tr):Prop:=∃i,i<j/\Tr.Lt (a i) (b i)/\∀k,k≠i->a k=b k
def PL.wf(j:Nat):WellFounded (PL j):=by
 induction j with
 |zero=>exact⟨λa=>⟨_,λy ⟨i,I,_⟩=>Xs I aA⟩⟩
 |succ j ih=>
  refine Subrelation.wf (r:=InvImage (Prod.Lex Tr.Lt (PL j)) λf=>(f j,f)) ?_ (InvImage.wf _ (Prod.lex ⟨_,Tr.wf⟩ ⟨_,ih⟩).wf);rintro a b ⟨i,I,z,E⟩
  show Prod.Lex Tr.Lt (PL j) (a j,a) (b j,b)
  by_cases e:i=j
  .subst e;exact ju _ _ z
  .rw[E j (mn e)];exact kg _ ⟨i,aA,z,E⟩
abbrev Mu:=(Nat×Nat)×((Nat->Tr)×(Nat×Tr))
def Ep:Nat×Tr->Nat×Tr->Prop:=Prod.Lex (·<·) Tr.Lt
def pU(n:Nat):Mu->Mu->Prop:=Prod.Lex (Prod.Lex (·<·) (·<·)) (Prod.Lex (PL n) Ep)
def pU.wf(n:Nat):WellFounded (pU n):=
 (Prod.lex (Prod.lex Nat.lt_wfRel Nat.lt_wfRel) (Prod.lex ⟨PL n,PL.wf n⟩ (Prod.lex Nat.lt_wfRel ⟨Tr.Lt,Tr.wf⟩))).wf
section
variable {n q q' s s':Nat}{f f':Nat->Tr}{x x':Nat×Tr}
def pU.quit(h:q'<q):pU n ((q',s'),(f',x')) ((q,s),(f,x)):=ju _ _ (ju _ _ h)
def pU.stage(h:s'<s):pU n ((q,s'),(f',x')) ((q,s),(f,x)):=ju _ _ (kg _ h)
def pU.way(h:PL n f' f):pU n ((q,s),(f',x')) ((q,s),(f,x)):=kg _ (ju _ _ h)
def pU.own(h:Ep x' x):pU n ((q,s),(f,x')) ((q,s),(f,x)):=kg _ (kg _ h)
end
def pU.trans{n:Nat}{a c:Mu}{q s s':Nat}{f:Nat->Tr}{x x':Nat×Tr}(h:pU n a ((q,s),(f,x)))(hs:s<s')(hc:c=((q,s'),(f,x'))):pU n a c:=by
 subst hc;obtain⟨⟨z,E⟩,I⟩:=a;cases h with
 |left _ _ h=>
  cases h with
  |left _ _ h=>exact ju _ _ (ju _ _ h)
  |right _ h=>exact ju _ _ (kg _ aA)
 |right _ h=>exact ju _ _ (kg _ hs)
def Ep.way{k:Nat}{a b:Tr}(h:Tr.Lt a b):Ep (k,a) (k,b):=kg _ h
structure kC where
 O:Nat->Prop
 W:Nat->Prop
def kC.grow(K:kC)(a b:Nat):kC:=⟨λx=>K.O x\/(a<=x/\x<b),λx=>K.W x\/(a<=x/\x<b)⟩
structure Who where
 Wg:Nat
 C:Nat
 n:Nat
 ty:TypeId
 lo:Nat
section
variable [pf]
structure En(S:Who)(me:Option Nat)(K:kC)(w w₁:U):Prop where
 tape:w₁.tape=w.tape
 os:w₁.os=w.os
 output:w₁.output=w.output
 size:↑w<=w₁.heap.size
 block:∀b,K.O b->w₁.heap[b]? =w.heap[b]?
 live:iB S.ty S.Wg w->iB S.ty S.Wg w₁
 pay:pL S.C S.n w->pL S.C S.n w₁
 cell:∀i,me=M i->w₁.cell? ⟨S.C,i,Z⟩=w.cell? ⟨S.C,i,Z⟩
 low:∀b,b<S.lo->w₁.heap[b]? =w.heap[b]?
variable {S:Who}{me:Option Nat}{K:kC}{w w₁ w₂:U}
def En.refl(S:Who)(me:Option Nat)(K:kC)(w:U):En S me K w w:=⟨rfl,rfl,rfl,jB,λ_ _=>rfl,id,id,λ_ _=>rfl,λ_ _=>rfl⟩
def En.trans(h:En S me K w w₁)(k:En S me K w₁ w₂):En S me K w w₂:=
 ⟨k.tape.trans h.tape,k.os.trans h.os,k.output.trans h.output,bH h.size k.size,λb z=>(k.block b z).trans (h.block b z),k.live∘h.live,k.pay∘h.pay,λi E=>(k.cell i E).trans (h.cell i E),λb z=>(k.low b z).trans (h.low b z)⟩
def En.at(S:Who)(me:Option Nat)(K:kC)(w:U)(d:Nat):En S me K w (w.at d):=⟨rfl,rfl,rfl,jB,λ_ _=>rfl,id,id,λ_ _=>rfl,λ_ _=>rfl⟩
def EvX(K:kC)(n E:Nat)(e:jz):Prop:=
 (∃a wr,e=⟨.cell a,wr,aL⟩/\((if wr then K.W a.block else K.O a.block)\/n<=a.block)/\a.block<E)\/(∃r wr,e=⟨.obj r,wr,aL⟩/\((if wr then K.W r else K.O r)\/n<=r)/\r<E)\/
  (∃wr z,e=⟨.mark .noRoom,wr,z⟩)\/∃f wr z,e=⟨.mark (.extern f),wr,z⟩
def EvM(S:Who)(me:Option Nat)(K:kC)(n z:Nat)(e:jz):Prop:=
 EvX K n z e\/(∃i wr,me=M i/\e=⟨.cell ⟨S.C,i,Z⟩,wr,aL⟩)\/(me=Z/\(e=cY (.read (smA S.Wg))\/e=cY (.write (smA S.Wg))))
structure Gu(S:Who)(me:Option Nat)(K:kC)(w w':U)(es:Array jz):Prop where
 tape:w'.tape=w.tape
 os:w'.os=w.os
 output:w'.output=w.output
 size:↑w<=w'.heap.size
 block:∀b,b<w.heap.size->¬K.W b->(b=S.C->me=Z)->w'.heap[b]? =w.heap[b]?
 pay:pL S.C S.n w->pL S.C S.n w'
 cells:∀i,M i≠me->w'.cell? ⟨S.C,i,Z⟩=w.cell? ⟨S.C,i,Z⟩
 events:∀e∈es,EvM S me K ↑w ↑w' e
def Gu.still(S:Who)(me:Option Nat)(K:kC)(w:U):Gu S me K w w #[]:=⟨rfl,rfl,rfl,jB,λ_ _ _ _=>rfl,id,λ_ _=>rfl,λe z=>by simp at z⟩
def jT(P:cU)(main:Bool)(S:Who)(me:Option Nat)(Stop:kC->cA->U->Prop):Tr->kC->cA->U->Prop
 |.leaf,K,g,w=>∀w₁,En S me K w w₁->Stop K g w₁
 |.node f,K,g,w=>g.status=eN/\∀w₁,En S me K w w₁->∃g' w' es,eC P main g w₁=.go g' w' es/\Gu S me K w₁ w' es/\jT P main S me Stop (f w₁) (K.grow ↑w₁ ↑w') g' w'
variable {P:cU}{main:Bool}{Stop Stop':kC->cA->U->Prop}
def jT.rely(h:jT P main S me Stop T K g w)(E:En S me K w w₁):jT P main S me Stop T K g w₁:=by
 cases T with
 |leaf=>exact λw₂ z=>h w₂ (E.trans z)
 |node f=>exact⟨h.1,λw₂ z=>h.2 w₂ (E.trans z)⟩
def jT.mono:∀{K:kC}{g:cA}{w:U},jT P main S me Stop T K g w->(∀K g w,Stop K g w->Stop' K g w)->jT P main S me Stop' T K g w:=by
 induction T with
 |leaf=>exact λh hs w₁ z=>hs _ _ _ (h w₁ z)
 |node f ih=>exact λh hs=>⟨h.1,λw₁ z=>let ⟨g',w',es,e,hg,hr⟩:=h.2 w₁ z;⟨g',w',es,e,hg,ih w₁ hr hs⟩⟩
def jT.running(h:jT P main S me Stop T K g w)(hs:∀K g w,Stop K g w->g.status=eN):g.status=eN:=by
 cases T with
 |leaf=>exact hs _ _ _ (h w (.refl ..))
 |node f=>exact h.1
def jT.cases(h:jT P main S me Stop T K g w):Stop K g w\/∃f g' w' es,T=.node f/\eC P main g w=.go g' w' es/\Gu S me K w w' es/\jT P main S me Stop (f w) (K.grow ↑w ↑w') g' w':=by
 cases T with
 |leaf=>exact bE (h w (.refl ..))
 |node f=>obtain⟨g',w',es,e,E,z⟩:=h.2 w (.refl ..);exact cD ⟨f,g',w',es,rfl,e,E,z⟩
def jT.bind:∀{K:kC}{g:cA}{w:U},jT P main S me Stop T K g w->(∀K g w,Stop K g w->∃T',jT P main S me Stop' T' K g w)->∃T',jT P main S me Stop' T' K g w:=by
 induction T with
 |leaf=>
  intro K g w h hs;obtain⟨T',E⟩:=hs _ _ _ (h w (.refl ..));exact⟨T',E⟩
 |node f ih=>
  intro K g w h hs
  have key:∀w₁,En S me K w w₁->∃T',∃g' w' es,eC P main g w₁=.go g' w' es/\Gu S me K w₁ w' es/\jT P main S me Stop' T' (K.grow ↑w₁ ↑w') g' w':=by
   intro w₁ z;obtain⟨g',w',es,e,J,I⟩:=h.2 w₁ z;obtain⟨T',E⟩:=ih w₁ I hs;exact⟨T',g',w',es,e,J,E⟩
  refine⟨.node λw₁=>open Classical in if z:En S me K w w₁ then Classical.choose (key w₁ z)else .leaf,h.1,λw₁ z=>?_⟩;simp only[dif_pos z];exact gJ (key w₁ z)
def jT.one(hs:g.status=eN)(h:∀w₁,En S me K w w₁->∃g' w' es,eC P main g w₁=.go g' w' es/\Gu S me K w₁ w' es/\∃T',jT P main S me Stop T' (K.grow ↑w₁ ↑w') g' w'):∃T,jT P main S me Stop T K g w:=by
 have key:∀w₁,En S me K w w₁->∃T',∃g' w' es,eC P main g w₁=.go g' w' es/\Gu S me K w₁ w' es/\jT P main S me Stop T' (K.grow ↑w₁ ↑w') g' w':=by
  intro w₁ z;obtain⟨g',w',es,e,I,T',E⟩:=h w₁ z;exact⟨T',g',w',es,e,I,E⟩
 refine⟨.node λw₁=>open Classical in if z:En S me K w w₁ then Classical.choose (key w₁ z)else .leaf,hs,λw₁ z=>?_⟩;simp only[dif_pos z];exact gJ (key w₁ z)
def jT.stop(h:∀w₁,En S me K w w₁->Stop K g w₁):∃T,jT P main S me Stop T K g w:=⟨.leaf,h⟩
omit [Payload] in
def kR(K:kC)(a:Nat):K.grow a a=K:=by
 cases K with
 |mk O W=>
  simp only[kC.grow,kC.mk.injEq];constructor<;>funext x<;>(refine propext ⟨λh=>h.elim id λh=>Xs h aA,bE⟩)
def jT.QA{R:U->U->Prop}{I:cA->U->Prop}(E:∀w w₁,En S me K w w₁->R w w₁):∀{n:Nat}{g:cA}{w:U},iv P main R DC0 I n g w->∃T,jT P main S me (λK' g w=>K'=K/\I g w) T K g w:=by
 intro n
 induction n with
 |zero=>exact λh=>jT.stop λw₁ z=>⟨rfl,h w₁ (E _ _ z)⟩
 |succ n ih=>
  intro g w h;obtain h|⟨hs,h⟩:=h
  .exact jT.stop λw₁ z=>⟨rfl,h w₁ (E _ _ z)⟩
  .refine jT.one hs λw₁ z=>?_;have:=h w₁ (E _ _ z);cases J:eC P main g w₁ with
   |go g' w' es=>
    rw[J,goes_go]at this;obtain⟨⟨rfl,rfl⟩,hG⟩:=this;obtain⟨T,Y⟩:=ih hG;exact⟨g',w',_,rfl,.still ..,T,by rw[kR];exact Y⟩
   |_=>rw[J]at this;exact this.elim
end
end
open Go.ConcR (KK wgBlock WgAt stA smA rd wr Payload DC0 Bk g_of_ofEvents loc_of_ofEvent ofEvent_cell ofEvent_loc_mark bk_of_mute)
section
def blk:Loc->Option Nat
 |.cell a=>M a.block
 |.obj r=>M r
 |_=>Z
def gno(m:Nat):Nat->Nat
 |0=>0
 |p+1=>m+p
def who:Nat->Option Nat
 |0=>Z
 |p+1=>M p
structure TM(t:Trace)(g:Nat)(K:kC):Prop where
 own:∀l b,blk l=M b->K.W b->Perm t g l
 see:∀l b,blk l=M b->K.O b->PermW t g l
structure Jy(S:Who)(sz j:Nat)(K:Nat->kC):Prop where
 w:∀p,p<=j->∀b,(K p).W b->(K p).O b
 o:∀p,p<=j->∀b,(K p).O b->b<sz/\b≠S.Wg/\b≠S.C
 d:∀p q,p<=j->q<=j->p≠q->∀b,(K p).W b->¬(K q).O b
 hWg:S.Wg<sz
 hC:S.C<sz
 ne:S.C≠S.Wg
 lo:∀p,p<=j->∀b,(K p).W b->S.lo<=b
 lWg:S.lo<=S.Wg
 lC:S.lo<=S.C
structure TI(S:Who)(Shun:Loc->Prop)(m:Nat)(t:Trace)(sz j:Nat)(K:Nat->kC):Prop where
 mem:∀p,p<=j->TM t (gno m p) (K p)
 cell:∀i,i<j->Perm t (m+i) (.cell ⟨S.C,i,Z⟩)
 cell0:∀i,j<=i->Perm t 0 (.cell ⟨S.C,i,Z⟩)
 quiet:Quiet (ShN S.Wg) t
 cls:∀i a,touchAt t i=M a->a.loc.isMemory=aR->Knows t 0 i\/((Shun a.loc\/ShN S.Wg a.loc)/\a.kind=.atomic)\/((∃k,k<j/\t.g? i=M (m+k))/\(a.kind=.atomic->ShN S.Wg a.loc))
 nr:∀said,¬Race said t
 seen:∀op∈t,op.act.low sz
 norel:NoRelease (stA S.Wg) t
 above:∀g,m+j<=g->Deaf t g=0
 over:∀i g,t.g? i=M g->g≠0->t.counts i->(∃q,t.g? q=M 0/\HappensBefore t i q)\/∃k,k<j/\g=m+k
def Okt(S:Who)(p:Nat)(K:kC)(sz sz':Nat)(x:Touch):Prop:=
 (∃b,blk x.loc=M b/\b<sz'/\x.kind=.plain/\((if x.write then K.W b else K.O b)\/sz<=b))\/(∃i,who p=M i/\x.loc=.cell ⟨S.C,i,Z⟩/\x.kind=.plain)\/(ShN S.Wg x.loc/\x.kind≠.plain/\(x.kind=.said->p=0))
section
variable {S:Who}{Shun:Loc->Prop}{m:Nat}{t u:Trace}{sz sz' j p:Nat}{K:Nat->kC}
def adg(z:1<=m)(hp:p<=j):gno m p<m+j:=by cases p<;>simp only[gno]<;>omega
def yC{act:MemAct}{x:Touch}{b B:Nat}(I:act.low B)(E:act.touch? =M x)(z:blk x.loc=M b):b<B:=by
 cases act with
 |access e=>
  simp only[gM,aK]at E;subst E;simp only[MemAct.low]at I;cases h:e.loc<;>rw[h]at I z<;>simp only[blk,aK]at z
  .subst z;exact I
  .subst z;exact I
  all_goals cases z
 |mark k=>cases k<;>simp only[gM,aK]at E<;>first|(cases E;done)|(subst E;simp only[blk,aK]at z;subst z;exact I)
 |_=>cases E
def Ld{α:Type}(f:Nat->α)(p:Nat)(x:α)(q:Nat):upd f p x q=if q=p then x else f q:=rfl
def TI.app(hm:1<=m)(A:Jy S sz j K)(h:TI S Shun m t sz j K)(hp:p<=j)(aq:sz<=sz')(hg:∀op∈u,op.g=gno m p)(ae:∀op∈u,∀x,op.act.touch? =M x->Okt S p (K p) sz sz' x)(ak:∀op∈u,op.act.low sz')(am:∀op∈u,op.act≠.mark (.release (stA S.Wg))):TI S Shun m (t++u) sz' j (upd K p ((K p).grow sz sz')):=by
 have fresh:∀{i:Nat}{a:Touch}{b:Nat},touchAt t i=M a->blk a.loc=M b->b<sz:=by
  intro i a b ha R;obtain⟨x,Y,ac⟩:=touch_of ha;exact yC (h.seen x (gK Y)) ac R
 have af:∀q,q<=j->q≠p->∀l b,blk l=M b->∀op∈u,∀x,op.act.touch? =M x->x.loc=l->((K q).W b->False)/\((K q).O b->x.write=aR->False):=by
  intro q hq aa l b R op E x Y e;subst e;refine⟨λhW=>?_,λhO hw=>?_⟩
  .have hO:=A.w q hq b hW;obtain⟨h1,h2,h3⟩:=A.o q hq b hO;obtain⟨b',J,_,_,I⟩|⟨i,_,J,_⟩|⟨⟨a,J,I⟩,_⟩:=ae op E x Y
   .rw[R]at J;cases J;obtain I|I:=I
    .cases hw:x.write with
     |true=>rw[hw,ZD rfl]at I;exact A.d p q hp hq (mn aa) b I hO
     |false=>rw[hw]at I;exact A.d q p hq hp aa b hW (by simpa using I)
    .omega
   .rw[J]at R;simp only[blk,aK]at R;exact h3 R.symm
   .rw[J]at R;simp only[blk,aK]at R;omega
  .obtain⟨h1,h2,h3⟩:=A.o q hq b hO;obtain⟨b',J,_,_,I⟩|⟨i,_,J,_⟩|⟨⟨a,J,I⟩,_⟩:=ae op E x Y
   .rw[R]at J;cases J;obtain I|I:=I
    .rw[hw,ZD rfl]at I;exact A.d p q hp hq (mn aa) b I hO
    .omega
   .rw[J]at R;simp only[blk,aK]at R;exact h3 R.symm
   .rw[J]at R;simp only[blk,aK]at R;omega
 have ai:∀l b,blk l=M b->sz<=b->Perm (t++u) (gno m p) l:=by
  intro l b R ay i a ha e;obtain⟨x,Y,ac⟩:=touch_of ha;obtain⟨_,ah⟩|⟨_,ag⟩:=iu Y
  .have:=fresh (i:=i) (a:=a) (b:=b) (by rw[touchAt_of ah];exact ac) (by rw[e];exact R);omega
  .have:=knows_own Y;grind
 have au:∀(i:Nat) op,op∈u->∀x,op.act.touch? =M x->x.loc=.cell ⟨S.C,i,Z⟩->p=i+1:=by
  intro i op E x Y e;obtain⟨b',J,_,_,I⟩|⟨i',e0,J,_⟩|⟨⟨a,J,I⟩,_⟩:=ae op E x Y
  .rw[e]at J;simp only[blk,aK]at J;subst J;obtain I|I:=I
   .have hO:(K p).O S.C:=by
     cases hw:x.write with
     |true=>rw[hw,ZD rfl]at I;exact A.w p hp _ I
     |false=>grind
    exact Xs rfl (A.o p hp _ hO).2.2
   .have:=A.hC;omega
  .rw[e]at J;have ar:i=i':=by injection J with J;injection J
   subst ar;cases p with
   |zero=>cases e0
   |succ p=>simp only[who,aK]at e0;omega
  .rw[e]at J;cases J;exact Xs I A.ne
 refine⟨λq hq=>?_,λi hi=>(h.cell i hi).app λop E x Y e=>?_,λi hi=>(h.cell0 i hi).app λop E x Y e=>?_,h.quiet.app λop E x Y hs=>?_,λi a ha an=>?_,λsaid=>?_,
  λop E=>?_,h.norel.app am,λg aw=>?_,λi g aj h0 hc=>?_⟩
 .rw[Ld];split
  .rename_i e;subst e;refine⟨λl b R hW=>?_,λl b R hO=>?_⟩
   .obtain hW|⟨hW,_⟩:=hW
    .exact((h.mem q hq).own l b R hW).app λop E _ _ _=>hg op E
    grind
   .obtain hO|⟨hO,_⟩:=hO
    .exact((h.mem q hq).see l b R hO).app λop E _ _ _ _=>hg op E
    .exact PermW.of (ai l b R hO)
  .rename_i aa
   exact⟨λl b R hW=>((h.mem q hq).own l b R hW).app λop E x Y e=>((af q hq aa l b R op E x Y e).1 hW).elim,
    λl b R hO=>((h.mem q hq).see l b R hO).app λop E x Y e hw=>((af q hq aa l b R op E x Y e).2 hO hw).elim⟩
 .have:=au i op E x Y e;subst this;exact hg op E
 .grind
 .obtain⟨b,J,_,_,I⟩|⟨i,_,J,_⟩|⟨_,I,e3⟩:=ae op E x Y
  .obtain⟨a,ea,eb⟩:=hs;rw[ea]at J;simp only[blk,aK]at J;rw[eb]at J;subst J;obtain I|I:=I
   .have hO:(K p).O S.Wg:=by
     cases hw:x.write with
     |true=>rw[hw,ZD rfl]at I;exact A.w p hp _ I
     |false=>grind
    exact Xs rfl (A.o p hp _ hO).2.1
   .have:=A.hWg;omega
  .obtain⟨a,ea,eb⟩:=hs;rw[ea]at J;cases J;exact Xs eb A.ne
  .exact⟨I,λe=>by rw[hg op E,e3 e];rfl⟩
 .obtain⟨x,Y,ac⟩:=touch_of ha;obtain⟨hi,ah⟩|⟨_,ag⟩:=iu Y
  .obtain k|k|⟨⟨k,hk,e⟩,k2⟩:=h.cls i a (by rw[touchAt_of ah];exact ac) an
   .exact bE (k.app u)
   .exact cD (bE k)
   .exact cD (cD ⟨⟨k,hk,by rw[g?_old hi];exact e⟩,k2⟩)
  .cases p with
   |zero=>have:=knows_own Y;rw[hg x ag]at this;exact bE this
   |succ p=>
    refine cD (cD ⟨⟨p,aA,by simp[Trace.g?,Y,hg x ag,gno]⟩,λhk=>?_⟩);obtain⟨_,_,_,e,_⟩|⟨_,_,_,e⟩|⟨e,_⟩:=ae x ag a ac
    .rw[hk]at e;cases e
    .rw[hk]at e;cases e
    .exact e
 .refine noRace_append (h.nr said) hg λi a ha op E b R hc=>?_;obtain⟨k,J,_,_,I⟩|⟨i',e0,J,_⟩|⟨J,I,e3⟩:=ae op E b R
  .obtain I|I:=I
   .cases hw:b.write with
    |true=>rw[hw,ZD rfl]at I;exact(h.mem p hp).own _ k J I i a ha hc.1
    |false=>rw[hw]at I;exact(h.mem p hp).see _ k J (by simpa using I) i a ha hc.1 (hc.2.2.1.resolve_right (by simp[hw]))
   .have:=fresh (i:=i) (a:=a) (b:=k) ha (by rw[hc.1];exact J);omega
  .have ap:p=i'+1:=by
    cases p with
    |zero=>cases e0
    |succ p=>grind
   subst ap;exact h.cell i' aA i a ha (hc.1.trans J)
  .exact h.quiet.known J I (λe=>by rw[e3 e];rfl) i a ha hc
 .obtain h1|h1:=Array.mem_append.1 E
  .exact MemAct.low_mono aq (h.seen op h1)
  .exact ak op h1
 .have:=adg (m:=m) (p:=p) (j:=j) hm hp;rw[mC t (g':=gno m p) aA u hg];exact h.above g aw
 .obtain⟨op,ho,av⟩:=bI.1 aj;obtain⟨hi,az⟩|⟨_,ao⟩:=iu ho
  .refine(h.over i g (by rw[<-g?_old (u:=u) hi];exact aj) h0 ((counts_old hi).1 hc)).imp (λ⟨q,h1,h2⟩=>?_) id
   have hq:q<t.size:=by
    unfold Trace.g? at h1;obtain⟨z,hz,_⟩:=bI.1 h1;exact nq hz
   exact⟨q,by rw[g?_old hq];exact h1,hb_app u h2⟩
  .have:=hg op ao;rw[av]at this;cases p with
   |zero=>exact Xs this h0
   |succ p=>exact cD ⟨p,aA,this⟩
def TI.mute(h:TI S Shun m t sz j K){g:Nat}(ai:g<m)(hg:∀op∈u,op.g=g)(hn:∀op∈u,op.act.touch? =Z)(Y:∀op∈u,op.act.low sz)(aa:∀op∈u,op.act≠.mark (.release (stA S.Wg))):TI S Shun m (t++u) sz j K:=by
 have no:∀op∈u,∀x,op.act.touch? =M x->False:=λop E x I=>by grind
 refine⟨λq hq=>⟨λl b hb hW=>((h.mem q hq).own l b hb hW).app λop E x I _=>(no op E x I).elim,λl b hb hO=>((h.mem q hq).see l b hb hO).app λop E x I _ _=>(no op E x I).elim⟩,
  λi J=>(h.cell i J).app λop E x I _=>(no op E x I).elim,λi J=>(h.cell0 i J).app λop E x I _=>(no op E x I).elim,h.quiet.app λop E x I _=>(no op E x I).elim,λi a ha ac=>?_,
  λsaid=>noRace_append (h.nr said) hg λi a _ op E b hb _=>(no op E b hb).elim,seen_app h.seen Y,h.norel.app aa,λg' ah=>?_,λi g' R af hc=>?_⟩
 .obtain⟨x,I,ag⟩:=touch_of ha;obtain⟨J,ae⟩|⟨_,aj⟩:=iu I
  .obtain k|k|⟨⟨k,hk,e⟩,k2⟩:=h.cls i a (by rw[touchAt_of ae];exact ag) ac
   .exact bE (k.app u)
   .exact cD (bE k)
   .exact cD (cD ⟨⟨k,hk,by rw[g?_old J];exact e⟩,k2⟩)
  grind
 .rw[mC t (g':=g) aA u hg];exact h.above g' ah
 .obtain⟨op,ho,ao⟩:=bI.1 R;obtain⟨J,am⟩|⟨_,ak⟩:=iu ho
  .refine(h.over i g' (by rw[<-g?_old (u:=u) J];exact R) af ((counts_old J).1 hc)).imp (λ⟨q,h1,h2⟩=>?_) id
   have hq:q<t.size:=by
    unfold Trace.g? at h1;obtain⟨z,hz,_⟩:=bI.1 h1;exact nq hz
   exact⟨q,by rw[g?_old hq];exact h1,hb_app u h2⟩
  .obtain⟨x,I,_⟩:=hc;obtain⟨y,hy,an⟩:=touch_of I
   grind
def TI.fork(h:TI S Shun m t sz j K){x y:MemOp}(hx:x.g=0/\x.act=.go (m+j))(Y:y.g=m+j/\y.act=.start)(hd:Deaf t 0=0){K0 Kc:kC}(am:∀b,K0.O b->(K 0).O b)(ah:∀b,K0.W b->(K 0).W b)(aj:∀b,Kc.O b->(K 0).O b)(ai:∀b,Kc.W b->(K 0).W b):TI S Shun m (t++#[x,y]) sz (j+1) (upd (upd K 0 K0) (j+1) Kc):=by
 have hk:=h.above _ jB;have R:∀op∈#[x,y],op=x\/op=y:=by intro op E;simpa using E
 have no:∀op∈#[x,y],∀b,op.act.touch? =M b->False:=by
  intro op E b I;obtain rfl|rfl:=R op E
  .rw[hx.2]at I;cases I
  .rw[Y.2]at I;cases I
 have old:∀{i:Nat}{a:Touch},touchAt (t++#[x,y]) i=M a->touchAt t i=M a:=by
  intro i a J;obtain⟨z,hz,ak⟩:=touch_of J;obtain⟨_,an⟩|⟨_,aq⟩:=iu hz
  .rw[touchAt_of an];exact ak
  .grind
 have m0:=h.mem 0 (dL _);refine⟨λq hq=>?_,λi hi=>?_,λi hi=>(h.cell0 i aA).app λop E b I _=>(no op E b I).elim,h.quiet.app λop E b I _=>(no op E b I).elim,λi a J ac=>?_,λsaid=>?_,?_,h.norel.app λop E=>?_,λg au=>?_,λi g aa h0 hc=>?_⟩
 .rw[Ld];split
  .rename_i e;subst e;refine⟨λl b I hW i a J e=>?_,λl b I hO i a J e hw=>?_⟩
   .exact fork_knows hx Y hd hk (m0.own l b I (ai b hW) i a (old J) e)
   .exact fork_knows hx Y hd hk (m0.see l b I (aj b hO) i a (old J) e hw)
  .rw[Ld];split
   .rename_i e;subst e;exact⟨λl b I hW=>(m0.own l b I (ah b hW)).app λop E b I _=>(no op E b I).elim,λl b I hO=>(m0.see l b I (am b hO)).app λop E b I _ _=>(no op E b I).elim⟩
   .have mq:=h.mem q aA;exact⟨λl b I hW=>(mq.own l b I hW).app λop E b I _=>(no op E b I).elim,λl b I hO=>(mq.see l b I hO).app λop E b I _ _=>(no op E b I).elim⟩
 .obtain af|ao:=gG i j
  .exact(h.cell i af).app λop E b I _=>(no op E b I).elim
  .obtain rfl:i=j:=by omega
   exact λi' a J e=>fork_knows hx Y hd hk (h.cell0 i jB i' a (old J) e)
 .have hi:i<t.size:=by
   obtain⟨z,hz,_⟩:=touch_of (old J);exact nq hz
  obtain k|k|⟨⟨k,ap,e⟩,k2⟩:=h.cls i a (old J) ac
  .exact bE (k.app _)
  .exact cD (bE k)
  .exact cD (cD ⟨⟨k,aA,by rw[g?_old hi];exact e⟩,k2⟩)
 .have e:t++#[x,y]=(t++#[x])++#[y]:=by apply Array.ext';simp
  rw[e]
  exact noRace_append (g:=m+j) (noRace_append (g:=0) (h.nr said) (λop E=>by grind) (λi a _ op E b I _=>(no op (by grind) b I).elim))
   (λop E=>by grind) (λi a _ op E b I _=>(no op (by grind) b I).elim)
 .refine seen_app h.seen λop E=>?_;obtain rfl|rfl:=R op E
  .rw[hx.2];trivial
  .rw[Y.2];trivial
 .grind
 .rw[Deaf_still t _ _ λop E=>?_]
  .exact h.above g aA
  grind
 .obtain⟨op,ho,ae⟩:=bI.1 aa;obtain⟨hi,ar⟩|⟨_,ag⟩:=iu ho
  .refine(h.over i g (by rw[<-g?_old (u:=#[x,y]) hi];exact aa) h0 ((counts_old hi).1 hc)).imp (λ⟨q,h1,h2⟩=>?_) λ⟨k,hk,e⟩=>⟨k,aA,e⟩
   have hq:q<t.size:=by
    unfold Trace.g? at h1;obtain⟨z,hz,_⟩:=bI.1 h1;exact nq hz
   exact⟨q,by rw[g?_old hq];exact h1,hb_app _ h2⟩
  .obtain rfl|rfl:=R op ag
   .omega
   .rw[Y.1]at ae;exact cD ⟨j,aA,ae.symm⟩
def TI.past(h:TI S Shun m t sz j K)(hd:Deaf t 0=0){q:Nat}(hq:t.act? q=M (.mark (.acquire (stA S.Wg))))(ag:t.g? q=M 0)(hh:t.heard q)(R:∀k,k<j->∃r,RelBy (stA S.Wg) t (m+k) r/\r<q):Past (λl=>Shun l\/ShN S.Wg l) sz t:=by
 have E:∀k,k<j->∀i,t.g? i=M (m+k)->t.counts i->HappensBefore t i q:=by
  intro k hk i hi hc;obtain⟨r,R,aa⟩:=R k hk;have Y:HappensBefore t r q:=.single (cD ⟨.marked aa (cD R.act) hq (λk _ _=>h.norel k),R.heard,hh⟩);have aj:=Nat.le_of_not_lt λJ=>R.after i J hi hc;obtain J|ah:=gG i r
  .exact .trans (.single (bE ⟨J,_,hi,R.g⟩)) Y
  .grind
 obtain⟨z,hz,af⟩:=bI.1 ag;refine⟨h.nr,λi a ha I=>?_,λi g ac h0 hc=>?_,hd,h.seen⟩
 .obtain k|k|⟨⟨k,hk,e⟩,k2⟩:=h.cls i a ha I
  .exact bE k
  .exact cD k
  .by_cases hc:t.counts i
   .exact bE ⟨q,z,hz,af,cD (E k hk i e hc)⟩
   .have ai:=gW λae=>hc ⟨a,ha,I,bE ae⟩
    grind
 .obtain k|⟨k,hk,rfl⟩:=h.over i g ac h0 hc
  .exact k
  grind
def TI.begin{B:Nat}(h:Past Shun B t)(hg:∀g,m<=g->Deaf t g=0)(hB:B<=S.Wg)(hC:B<=S.C\/∀i,¬Shun (.cell ⟨S.C,i,Z⟩))(ae:B<=sz)(hO:∀b,(K 0).O b->∀l,blk l=M b->¬Shun l)(hW:∀b,(K 0).W b->(K 0).O b):TI S Shun m t sz 0 K:=by
 have kn:∀i a,touchAt t i=M a->a.loc.isMemory=aR->¬Shun a.loc->Knows t 0 i:=λi a z hm hs=>(h.known i a z hm).resolve_right λx=>hs x.1
 have E:∀{l:Loc}{b:Nat},blk l=M b->l.isMemory=aR:=by
  intro l b I;cases l<;>first|rfl|cases I
 have J:∀{i:Nat}{a:Touch}{b:Nat},touchAt t i=M a->blk a.loc=M b->b<B:=by
  intro i a b z I;obtain⟨x,hx,ag⟩:=touch_of z;exact yC (h.seen x (gK hx)) ag I
 refine⟨λp hp=>?_,λi Y=>aA,λi _ i' a z e=>?_,λi op x Y hx ⟨a,e1,e2⟩=>?_,λi a z R=>(h.known i a z R).imp id λx=>bE ⟨bE x.1,x.2⟩,h.clean,λop ac=>MemAct.low_mono ae (h.seen op ac),λi Y=>?_,λg ah=>hg g aA,λi g aa h0 hc=>bE (h.over i g aa h0 hc)⟩
 .obtain rfl:p=0:=by omega
  refine⟨λl b I hw i a z e=>kn i a z (by rw[e];exact E I) (by grind),λl b I ho i a z e _=>kn i a z (by rw[e];exact E I) (by grind)⟩
 .obtain hC|hC:=hC
  .have:=J (i:=i') (a:=a) (b:=S.C) z (by rw[e];rfl);omega
  .exact kn i' a z (by rw[e];rfl) (by rw[e];exact hC i)
 .have:=yC (h.seen op (gK Y)) hx (b:=S.Wg) (by rw[e1];simp[blk,e2]);omega
 .obtain⟨op,ho,af⟩:=bI.1 Y;have:=h.seen op (gK ho);rw[af]at this;have:S.Wg<B:=this;omega
end
end
open Go.ConcR (KK wgBlock WgAt stA smA rd wr Payload DC0 Bk g_of_ofEvents again_blocked)
section
section
variable [pf](P:cU)(S:Who)
abbrev pO:Nat->Loc->Prop:=λ_ _=>False
abbrev Left:=Nat->Value->(Nat->Prop)->U->Prop
def Left.nR(Q:Left):Prop:=∀i v O w w₁,(∀b,O b->w₁.heap[b]? =w.heap[b]?)->Q i v O w->Q i v O w₁
def tC(Q:Left)(i:Nat)(K:kC)(g:cA)(w:U):Prop:=∃v,AtR0 P S.ty S.Wg S.C S.n 0 (i+1) v g w/\Q i v K.O w
inductive WS(Q:Left)(i:Nat)(K:kC):Nat->Tr->Nat->cA->U->Prop
 |work {T:Tr} {g:cA} {w:U}:jT P aL S (M i) (tC P S Q i) T K g w->WS Q i K 7 T 0 g w
 |later {v:Value} {s m d:Nat} {g:cA} {w:U}:WSit P S.ty S.Wg S.C S.n pO pO 0 (i+1) v s m d g w->s<=6->Q i v K.O w->Has S.C i v w->WS Q i K s (Tr.chain m) d g w
section
variable (Fin AnchW:kC->cA->U->Prop)
def VZ(K:kC)(g:cA)(w:U):Prop:=
 g.status=eN/\∃g',eC P aR g w=.go g' w #[cY (.acquire (stA S.Wg))]/\∃T,jT P aR S Z Fin T K g' w
def Xy(K:kC)(g:cA)(w:U):Prop:=
 g.status=eN/\∃g',eC P aR g w=.go g' w #[cY .enable]/\∃T,jT P aR S Z (VZ P S Fin) T K g' w
def abO(K:kC)(g:cA)(w:U):Prop:=
 g.status=eN/\(WgAt S.ty S.Wg w 0 0->∃g',eC P aR g w=.go g' w #[rd (stA S.Wg)]/\∃T,jT P aR S Z (Xy P S Fin) T K g' w)
def YM(K:kC)(g:cA)(w:U):Prop:=
 g.status=eN/\g.offers=Z/\((∃st,WgAt S.ty S.Wg w st 0)->eC P aR g w=.go { g with status:=.blocked } w #[])/\
  (WgAt S.ty S.Wg w 0 1->∃g',eC P aR g w=.go g' (w.setCell (smA S.Wg) (.int .u32 0)) (semEvents (smA S.Wg))/\∃T,jT P aR S Z (abO P S Fin) T K g' (w.setCell (smA S.Wg) (.int .u32 0)))
def G6(vs:Nat)(K:kC)(g:cA)(w:U):Prop:=
 g.status=eN/\∀v:Nat,v<2147483648->WgAt S.ty S.Wg w (v*KK) 0->
  (v=vs->∃g',eC P aR g w=.go g' (w.setCell (stA S.Wg) (.int .u64 (v*KK+1))) #[rd (stA S.Wg),wr (stA S.Wg)]/\∃T,jT P aR S Z (YM P S Fin) T K g' (w.setCell (stA S.Wg) (.int .u64 (v*KK+1))))/\
  (v≠vs->∃g',eC P aR g w=.go g' w #[rd (stA S.Wg)]/\∃T,jT P aR S Z AnchW T K g' w)
def Ah(K:kC)(g:cA)(w:U):Prop:=
 g.status=eN/\∀v:Nat,v<2147483648->WgAt S.ty S.Wg w (v*KK) 0->∃g',eC P aR g w=.go g' w #[rd (stA S.Wg)]/\
  (v=0->∃T,jT P aR S Z (Xy P S Fin) T K g' w)/\(v≠0->∃T,jT P aR S Z (G6 P S Fin AnchW v) T K g' w)
def zy(K:kC)(g:cA)(w:U):Prop:=
 g.status=eN/\∃g',eC P aR g w=.go g' w #[cY .disable]/\∃T,jT P aR S Z AnchW T K g' w
variable (Q:Left)
def Wn(i:Nat)(I:kC->cA->U->Prop)(K:kC)(g:cA)(w:U):Prop:=
 g.status=eN/\∃g' z K0 E,eC P aR g w=.spawn g' z w #[]/\z.status=eN/\(∀b,K0.O b->K.O b)/\(∀b,K0.W b->K.W b)/\(∀b,E.O b->K.O b)/\(∀b,E.W b->K.W b)/\
  (∀b,K0.W b->¬E.O b)/\(∀b,E.W b->¬K0.O b)/\(∀b,K0.W b->K0.O b)/\(∀b,E.W b->E.O b)/\
  (pL S.C S.n w->iB S.ty S.Wg w->∃T,jT P aL S (M i) (tC P S Q i) T E z w)/\I K0 g' w
def abT(i:Nat)(z:kC->cA->U->Prop)(K:kC)(g:cA)(w:U):Prop:=
 g.status=eN/\∃g',eC P aR g w=.go g' w #[cY .enable]/\∃T,jT P aR S Z (Wn P S Q i z) T K g' w
def ab9(i:Nat)(z:kC->cA->U->Prop)(K:kC)(g:cA)(w:U):Prop:=
 g.status=eN/\∀v:Nat,v<2147483647->WgAt S.ty S.Wg w (v*KK) 0->
  ∃g',eC P aR g w=.go g' (w.setCell (stA S.Wg) (.int .u64 ((v+1)*KK))) #[rd (stA S.Wg),wr (stA S.Wg)]/\∃T,jT P aR S Z (abT P S Q i z) T K g' (w.setCell (stA S.Wg) (.int .u64 ((v+1)*KK)))
def Lj(i:Nat)(z:kC->cA->U->Prop)(K:kC)(g:cA)(w:U):Prop:=
 g.status=eN/\∃g',eC P aR g w=.go g' w #[cY .disable]/\∃T,jT P aR S Z (ab9 P S Q i z) T K g' w
def qA:Nat->kC->cA->U->Prop
 |0,K,g,w=>∃T,jT P aR S Z (zy P S AnchW) T K g w
 |r+1,K,g,w=>∃T,jT P aR S Z (Lj P S Q (S.n-(r+1)) (qA r)) T K g w
inductive CS:CTag->Nat->Nat×Tr->Nat->kC->cA->U->Prop
 |skd {r:Nat} {T:Tr} {K:kC} {g:cA} {w:U}:r<S.n->jT P aR S Z (Lj P S Q (S.n-(r+1)) (qA P S AnchW Q r)) T K g w->CS (.sp r 5) (S.n-(r+1)) (0,T) 0 K g w
 |sa1 {r:Nat} {T:Tr} {K:kC} {g:cA} {w:U}:r<S.n->jT P aR S Z (ab9 P S Q (S.n-(r+1)) (qA P S AnchW Q r)) T K g w->CS (.sp r 4) (S.n-(r+1)) (0,T) 1 K g w
 |ske {r:Nat} {T:Tr} {K:kC} {g:cA} {w:U}:r<S.n->jT P aR S Z (abT P S Q (S.n-(r+1)) (qA P S AnchW Q r)) T K g w->CS (.sp r 3) (S.n-(r+1)) (0,T) 1 K g w
 |sgo {r:Nat} {T:Tr} {K:kC} {g:cA} {w:U}:r<S.n->jT P aR S Z (Wn P S Q (S.n-(r+1)) (qA P S AnchW Q r)) T K g w->CS (.sp r 2) (S.n-(r+1)) (0,T) 0 K g w
 |kd {T:Tr} {K:kC} {g:cA} {w:U}:jT P aR S Z (zy P S AnchW) T K g w->CS .kd S.n (0,T) 0 K g w
 |anch {T:Tr} {K:kC} {g:cA} {w:U}:jT P aR S Z AnchW T K g w->CS .anch S.n (0,T) 1 K g w
 |w1 {T:Tr} {K:kC} {g:cA} {w:U}:jT P aR S Z (Ah P S Fin AnchW) T K g w->CS .w1 S.n (0,T) 1 K g w
 |w2 {vs:Nat} {T:Tr} {K:kC} {g:cA} {w:U}:jT P aR S Z (G6 P S Fin AnchW vs) T K g w->CS (.w2 vs) S.n (0,T) 1 K g w
 |w3 {T:Tr} {K:kC} {g:cA} {w:U}:jT P aR S Z (YM P S Fin) T K g w->CS .w3 S.n (1,T) 1 K g w
 |blk {K:kC} {g:cA} {w:U}:(∀w₁,En S Z K w w₁->YM P S Fin K g w₁)->CS .blk S.n (0,.leaf) 1 K { g with status:=.blocked } w
 |w4 {T:Tr} {K:kC} {g:cA} {w:U}:jT P aR S Z (abO P S Fin) T K g w->CS .w4 S.n (0,T) 1 K g w
 |ke {T:Tr} {K:kC} {g:cA} {w:U}:jT P aR S Z (Xy P S Fin) T K g w->CS .ke S.n (0,T) 1 K g w
 |acq {T:Tr} {K:kC} {g:cA} {w:U}:jT P aR S Z (VZ P S Fin) T K g w->CS .acq S.n (0,T) 0 K g w
 |ret {T:Tr} {K:kC} {g:cA} {w:U}:jT P aR S Z Fin T K g w->CS .ret S.n (0,T) 0 K g w
end
end
section
variable [pf]{P:cU}{S:Who}{Q:Left}{i:Nat}{K:kC}{s d:Nat}{T:Tr}{g:cA}{w w₁:U}
def En.rw(h:En S (M i) K w w₁):RW S.ty S.Wg S.C S.n 0 i w w₁:=⟨λb z=>Xs z aA,h.live,h.pay,h.cell i rfl⟩
def WS.rely(E:Q.nR)(h:WS P S Q i K s T d g w)(z:En S (M i) K w w₁):WS P S Q i K s T d g w₁:=by
 cases h with
 |work h=>exact .work (h.rely z)
 |later h hs hq hh=>exact .later (h.rely z.rw) hs (E _ _ _ _ _ z.block hq) ((z.cell i rfl).trans hh)
def WS.status(h:WS P S Q i K s T d g w):g.status=eN\/g.status=.finished:=by
 cases h with
 |work h=>exact bE (h.running λ_ _ _ ⟨_,x,_⟩=>x.1)
 |later h _ _ _=>exact h.status
def WS.woken(h:WS P S Q i K s T d g w)(a a':cA)(w':U):Go.Conc.woken P a a' w' g=g:=by
 unfold Go.Conc.woken;split
 .exact again_running _ h.status
 .rfl
def WS.quits(h:WS P S Q i K s T d g w)(hs:s=1):∃m,T=Tr.chain m/\QuitsD P m d g/\∃v,Q i v K.O w/\Has S.C i v w:=by
 cases h with
 |work _=>cases hs
 |later h _ hq hh=>exact⟨_,rfl,h.quits hs,_,hq,hh⟩
def WS.running_of(h:WS P S Q i K s T d g w)(hs:2<=s):g.status=eN:=by
 cases h with
 |work h=>exact h.running λ_ _ _ ⟨_,x,_⟩=>x.1
 |later h _ _ _=>exact h.running_of aA
variable {Fin AnchW:kC->cA->U->Prop}{tag:CTag}{j:Nat}{f:Nat×Tr}
def CS.rely(h:CS P S Fin AnchW Q tag j f d K g w)(z:En S Z K w w₁):CS P S Fin AnchW Q tag j f d K g w₁:=by
 cases h with
 |skd hn h=>exact .skd hn (h.rely z)
 |sa1 hn h=>exact .sa1 hn (h.rely z)
 |ske hn h=>exact .ske hn (h.rely z)
 |sgo hn h=>exact .sgo hn (h.rely z)
 |kd h=>exact .kd (h.rely z)
 |anch h=>exact .anch (h.rely z)
 |w1 h=>exact .w1 (h.rely z)
 |w2 h=>exact .w2 (h.rely z)
 |w3 h=>exact .w3 (h.rely z)
 |blk h=>exact .blk (λI E=>h I (z.trans E))
 |w4 h=>exact .w4 (h.rely z)
 |ke h=>exact .ke (h.rely z)
 |acq h=>exact .acq (h.rely z)
 |ret h=>exact .ret (h.rely z)
def CS.status(E:∀K g w,Fin K g w->g.status=eN)(z:∀K g w,AnchW K g w->g.status=eN)(h:CS P S Fin AnchW Q tag j f d K g w):(g.status=eN/\tag≠.blk)\/(g.status=.blocked/\tag=.blk):=by
 cases h with
 |skd _ h=>exact bE ⟨h.running λ_ _ _ x=>x.1,aC⟩
 |sa1 _ h=>exact bE ⟨h.running λ_ _ _ x=>x.1,aC⟩
 |ske _ h=>exact bE ⟨h.running λ_ _ _ x=>x.1,aC⟩
 |sgo _ h=>exact bE ⟨h.running λ_ _ _ x=>x.1,aC⟩
 |kd h=>exact bE ⟨h.running λ_ _ _ x=>x.1,aC⟩
 |anch h=>exact bE ⟨h.running z,aC⟩
 |w1 h=>exact bE ⟨h.running λ_ _ _ x=>x.1,aC⟩
 |w2 h=>exact bE ⟨h.running λ_ _ _ x=>x.1,aC⟩
 |w3 h=>exact bE ⟨h.running λ_ _ _ x=>x.1,aC⟩
 |blk h=>simp
 |w4 h=>exact bE ⟨h.running λ_ _ _ x=>x.1,aC⟩
 |ke h=>exact bE ⟨h.running λ_ _ _ x=>x.1,aC⟩
 |acq h=>exact bE ⟨h.running λ_ _ _ x=>x.1,aC⟩
 |ret h=>exact bE ⟨h.running E,aC⟩
def CS.wokenBy(hF:∀K g w,Fin K g w->g.status=eN)(Y:∀K g w,AnchW K g w->g.status=eN)(h:CS P S Fin AnchW Q tag j f d K g w)(J:En S Z K w w₁)(x x':cA):∃z R,CS P S Fin AnchW Q z j R d K (woken P x x' w₁ g) w₁/\(z=tag\/(tag=.blk/\z=.w3))/\(mayWake P x=aR->x'.status=eN->z≠.blk):=by
 have E:=h.rely J;unfold Go.Conc.woken;split
 .obtain⟨hs,I⟩|⟨_,rfl⟩:=E.status hF Y
  .exact⟨tag,f,by rw[again_running _ (bE hs)];exact E,bE rfl,λ_ _=>I⟩
  .cases E with
   |blk hb=>
    have h3:=hb w₁ (.refl ..);exact⟨_,(1,.leaf),by rw[again_blocked h3.1 h3.2.1];exact .w3 (T:=.leaf) hb,cD ⟨rfl,rfl⟩,λ_ _=>aC⟩
 grind
def CS.bound(h:CS P S Fin AnchW Q tag j f d K g w):j+pend tag<=S.n:=by
 cases h<;>simp only[pend]<;>(try simp)<;>omega
end
end
open Go.ConcR (KK wgBlock WgAt stA smA rd wr Payload DC0 Bk g_of_ofEvents again_blocked loc_of_ofEvent)
section
variable {Shun:Loc->Prop}{t:Trace}{g g' a':cA}{fn:FuncId}{pos:String}{es:Array jz}
section
variable [pf]
omit [Payload] in
def ZJ{p q:Nat}(h:who p=who q):p=q:=by
 cases p<;>cases q<;>simp_all[who]
section
variable {S:Who}{w w':U}{es:Array jz}{j p q sz sz':Nat}{K:Nat->kC}
omit [Payload] in
def Jy.agY(A:Jy S sz j K)(hp:p<=j):¬(K p).W S.Wg:=λh=>(A.o p hp _ (A.w p hp _ h)).2.1 rfl
def Gu.wg(A:Jy S ↑w j K)(hp:p<=j)(h:Gu S (who p) (K p) w w' es):w'.heap[S.Wg]? =w.heap[S.Wg]?:=h.block _ A.hWg (A.agY hp) λe=>Xs e.symm A.ne
def Gu.en(A:Jy S ↑w j K)(hp:p<=j)(I:q<=j)(z:q≠p)(h:Gu S (who p) (K p) w w' es):En S (who q) (K q) w w':=by refine⟨h.tape,h.os,h.output,h.size,λb E=>?_,λ⟨st,Y,J⟩=>⟨st,Y,J.of_block (h.wg A hp)⟩,h.pay,λi hi=>h.cells i λe=>z (ZJ (hi.trans e)),λb E=>h.block b (by have:=A.lWg;have:=A.hWg;omega) (λhw=>by have:=A.lo p hp b hw;omega) λe=>by have:=A.lC;omega⟩;obtain⟨R,h2,h3⟩:=A.o q I b E;exact h.block b R (λhw=>A.d p q hp I (mn z) b hw E) λe=>Xs e h3
def abU(A:Jy S ↑w j K)(E:q<=j)(h:Aside S.Wg w w')(I:iB S.ty S.Wg w'):En S (who q) (K q) w w':=by refine⟨h.tape,h.os,h.output,jq h.size.symm,λb z=>h.block b (A.o q E b z).2.1,λ_=>I,λ⟨cs,J,h2⟩=>⟨cs,(h.block _ A.ne).trans J,h2⟩,λi _=>cell_of_block (h.block _ A.ne) i,λb z=>h.block b (by have:=A.lWg;omega)⟩
omit [Payload] in
def Jy.grow(A:Jy S sz j K)(hs:sz<=sz')(hp:p<=j):Jy S sz' j (upd K p ((K p).grow sz sz')):=by
 have hWg:=A.hWg;have hC:=A.hC;refine⟨λq J b z=>?_,λq J b z=>?_,λa b Y z E x R I=>?_,aP hWg hs,aP hC hs,A.ne,λq J b z=>?_,A.lWg,A.lC⟩
 .rw[Ld]at z⊢;split
  .rename_i e;subst e;rw[ZD rfl]at z;exact z.imp (A.w q J b) id
  .rename_i e;rw[Zs e]at z;exact A.w q J b z
 .rw[Ld]at z;split at z
  .rename_i e;subst e;obtain z|⟨h1,h2⟩:=z
   .obtain⟨h1,h2⟩:=A.o q J b z;omega
   omega
  .obtain⟨h1,h2⟩:=A.o q J b z;omega
 .rw[Ld]at R I;split at R
  .rename_i e;subst e;rw[Zs (mn E)]at I;obtain R|⟨h1,_⟩:=R
   .exact A.d a b Y z E x R I
   .have:=(A.o b z x I).1;omega
  .split at I
   .rename_i e;subst e;obtain I|⟨h1,_⟩:=I
    .exact A.d a b Y z E x R I
    .have:=(A.o a Y x (A.w a Y x R)).1;omega
   .exact A.d a b Y z E x R I
 .rw[Ld]at z;split at z
  .rename_i e;subst e;exact z.elim (A.lo q J b) λh=>by have:=A.lWg;omega
  .exact A.lo q J b z
omit [Payload] in
def xu{α:Type}(f:Nat->α)(i:Nat):upd f i (f i)=f:=by funext a;rw[Ld];split<;>simp_all
end
section
variable {S:Who}{m:Nat}{K:Nat->kC}{sz sz' j p:Nat}{fn:FuncId}{pos:String}{es:Array jz}
omit [Payload] in
def Le(r:Nat)(wr:Bool):cX ⟨.obj r,wr,aL⟩=.access ⟨.obj r,wr,aL⟩:=by cases wr<;>rfl
omit [Payload] in
def vX(a:Addr)(wr:Bool):cX ⟨.cell a,wr,aL⟩=.access ⟨.cell a,wr,aL⟩:=by cases wr<;>rfl
omit [Payload] in
def CX(A:Jy S sz j K)(hp:p<=j)(hs:sz<=sz'){e:jz}(h:EvM S (who p) (K p) sz sz' e):(∀x,(cX e).touch? =M x->Okt S p (K p) sz sz' x)/\(cX e).low sz'/\cX e≠.mark (.release (stA S.Wg))/\e.loc≠.mark .disable/\e.loc≠.mark .enable:=by
 have hWg:=A.hWg;have hC:=A.hC;obtain(⟨a,wr,rfl,E,h2⟩|⟨r,wr,rfl,E,h2⟩|⟨wr,I,rfl⟩|⟨f,wr,I,rfl⟩)|⟨i,wr,E,rfl⟩|⟨E,rfl|rfl⟩:=h
 .rw[vX];refine⟨λx z=>?_,h2,aC,aC,aC⟩;simp only[gM,aK]at z;subst z;exact bE ⟨_,rfl,h2,rfl,E⟩
 .rw[Le];refine⟨λx z=>?_,h2,aC,aC,aC⟩;simp only[gM,aK]at z;subst z;exact bE ⟨r,rfl,h2,rfl,E⟩
 .exact⟨λx z=>by simp[cX,gM]at z,trivial,by simp[cX],aC,aC⟩
 .exact⟨λx z=>by simp[cX,gM]at z,trivial,by simp[cX],aC,aC⟩
 .rw[vX];refine⟨λx z=>?_,(show S.C<sz' by omega),aC,aC,aC⟩;simp only[gM,aK]at z;subst z;exact cD (bE ⟨i,E,rfl,rfl⟩)
 .refine⟨λx z=>?_,(show S.Wg<sz' by omega),by simp[cY,cX],by simp[cY],by simp[cY]⟩;simp only[cY,cX,gM,aK]at z;subst z;exact cD (cD ⟨⟨_,rfl,rfl⟩,aC,λ_=>by cases p with|zero=>rfl|succ p=>cases E⟩)
 .refine⟨λx z=>?_,(show S.Wg<sz' by omega),by simp[cY,cX],by simp[cY],by simp[cY]⟩;simp only[cY,cX,gM,aK]at z;subst z;exact cD (cD ⟨⟨_,rfl,rfl⟩,aC,λ_=>by cases p with|zero=>rfl|succ p=>cases E⟩)
omit [Payload] in
def TI.plain(I:1<=m)(A:Jy S sz j K)(h:TI S Shun m t sz j K)(hp:p<=j)(hs:sz<=sz')(J:∀e∈es,EvM S (who p) (K p) sz sz' e):TI S Shun m (t++eL (gno m p) fn pos es) sz' j (upd K p ((K p).grow sz sz')):=by
 refine h.app I A hp hs fI (λop z x R=>?_) (λop z=>?_) (λop z=>?_)
 all_goals
  obtain⟨e,E,rfl⟩:=oj z;have:=CX A hp hs (J e E)
 .exact this.1 x R
 .exact this.2.1
 .exact this.2.2.1
def ZX(Wg:Nat)(e:jz):Prop:=Bk Wg e\/e=cY (.releaseMerge (stA Wg))\/e=cY (.acquire (stA Wg))
omit [Payload] in
def TI.book(hm:1<=m)(A:Jy S sz j K)(h:TI S Shun m t sz j K)(hp:p<=j)(Y:∀e∈es,ZX S.Wg e):TI S Shun m (t++eL (gno m p) fn pos es) sz j K:=by
 have hWg:=A.hWg;have e0:upd K p ((K p).grow sz sz)=K:=by rw[kR,xu]
 rw[<-e0];refine h.app hm A hp jB fI (λop I x E=>?_) (λop I=>?_) (λop I hr=>?_)
 all_goals
  obtain⟨e,J,rfl⟩:=oj I
 .obtain(z|z|⟨a,wr,rfl,ha⟩)|rfl|rfl:=Y e J
  .simp only[lj z]at E;cases E
  .simp only[lj z]at E;cases E
  .simp only[Go.ConcR.ofEvent_cell,gM,aK]at E;subst E;exact cD (cD ⟨⟨a,rfl,ha⟩,aC,aC⟩)
  .simp[cY,cX,gM]at E
  .simp[cY,cX,gM]at E
 .obtain(z|z|⟨a,wr,rfl,ha⟩)|rfl|rfl:=Y e J
  .show(cX e).low sz;rw[lj z];trivial
  .show(cX e).low sz;rw[lj z];trivial
  .simp only[Go.ConcR.ofEvent_cell];show a.block<sz;omega
  .exact hWg
  .exact hWg
 .have R:=loc_of_ofEvent hr;obtain(z|z|⟨a,wr,rfl,ha⟩)|rfl|rfl:=Y e J
  .rw[z]at R;cases R
  .rw[z]at R;cases R
  .cases R
  .cases R
  .cases R
end
section
variable (P:cU)(S:Who)(Q:Left)(Shun:Loc->Prop)(m:Nat)
structure Co(j:Nat)(gs:Array cA)(w:U)(t:Trace)(D:Nat->WD)(F:Nat->Tr)(d0:Nat)(K:Nat->kC)(q:Nat->Nat):Prop where
 size:gs.size=m+j
 wk:∀i,i<j->∃g,gs[m+i]? =M g/\WS P S Q i (K (i+1)) (D i).stage (F i) (D i).deaf g w
 old:∀i,0<i->i<m->∃g,gs[i]? =M g/\QuitsD P (q i) (Deaf t i) g
 ti:TI S Shun m t ↑w j K
 apt:Jy S ↑w j K
 deaf0:Deaf t 0=d0
 deafW:∀i,i<j->Deaf t (m+i)=(D i).deaf
 rel:∀i,i<j->(D i).stage<=6->∃r,RelBy (stA S.Wg) t (m+i) r
 pay:pL S.C S.n w
def Acq(j:Nat)(t:Trace):Prop:=
 ∃q,t.act? q=M (.mark (.acquire (stA S.Wg)))/\t.g? q=M 0/\t.heard q/\∀i,i<j->∃r,RelBy (stA S.Wg) t (m+i) r/\r<q
end
section
variable {P:cU}{S:Who}{Q:Left}{Shun:Loc->Prop}{m j:Nat}{gs:Array cA}{w w':U}{t u:Trace}{D:Nat->WD}{F:Nat->Tr}{d0:Nat}{K:Nat->kC}{q:Nat->Nat}
omit [Payload] in
def Acq.app(h:Acq S m j t)(J:∀i r,i<j->RelBy (stA S.Wg) t (m+i) r->RelBy (stA S.Wg) (t++u) (m+i) r):Acq S m j (t++u):=by obtain⟨q,E,h2,h3,h4⟩:=h;have z:=lt_of_act? E;exact⟨q,by rw[act?_old z];exact E,by rw[g?_old z];exact h2,(heard_old z).2 h3,λi I=>let ⟨r,hr,hrq⟩:=h4 i I;⟨r,J i r I hr,hrq⟩⟩
def Co.at(z:Q.nR)(h:Co P S Q Shun m j gs w t D F d0 K q)(d:Nat):Co P S Q Shun m j gs (w.at d) t D F d0 K q:=
 ⟨h.size,λi E=>let ⟨g,hg,hs⟩:=h.wk i E;⟨g,hg,hs.rely z (.at ..)⟩,h.old,h.ti,h.apt,h.deaf0,h.deafW,h.rel,h.pay⟩
def Co.stepW(hm:1<=m)(hQ:Q.nR)(h:Co P S Q Shun m j gs w t D F d0 K q){i:Nat}(hi:i<j){s' dd':Nat}{T':Tr}{Ki:kC}(ag:∀p,p<=j->p≠i+1->En S (who p) (K p) w w')(ah:TI S Shun m (t++eL (m+i) fn pos es) ↑w' j (upd K (i+1) Ki))(R:Jy S ↑w' j (upd K (i+1) Ki))(af:WS P S Q i Ki s' T' dd' g' w')(J:gH (D i).deaf es=dd')(Y:s'<=6->∃r,RelBy (stA S.Wg) (t++eL (m+i) fn pos es) (m+i) r)(aa:pL S.C S.n w'):Co P S Q Shun m j ((gs.map (woken P g g' w')).setIfInBounds (m+i) g') w' (t++eL (m+i) fn pos es) (upd D i ⟨s',0,dd'⟩) (upd F i T') d0 (upd K (i+1) Ki) q:=by
 refine⟨by simp[h.size],λE z=>?_,λk hk ae=>?_,ah,R,by rw[mC t aA _ fI,h.deaf0],λE z=>?_,λE z I=>?_,aa⟩
 .by_cases e:E=i
  .subst e;exact⟨g',get_map_set_same _ _ _ (by rw[h.size];omega),by rw[fN,fN,fN];exact af⟩
  .obtain⟨x,hx,ac⟩:=h.wk E z;refine⟨x,by rw[get_map_set _ _ _ _ aA,hx,cO,ac.woken],?_⟩;rw[kr D _ e,kr F _ e,kr K _ aA];exact ac.rely hQ (ag (E+1) aA aA)
 .obtain⟨x,hx,hq⟩:=h.old k hk ae;refine⟨x,by rw[get_map_set _ _ _ _ aA,hx,cO,woken_quitsD hq],?_⟩;rw[mC t aA _ fI];exact hq
 .by_cases e:E=i
  .subst e;rw[Deaf_own,h.deafW E z,fN];exact J
  .rw[mC t aA _ fI,h.deafW E z,kr D _ e]
 .by_cases e:E=i
  .subst e;rw[fN]at I;exact Y I
  .rw[kr D _ e]at I;obtain⟨r,hr⟩:=h.rel E z I;exact⟨r,hr.appOther fI aA⟩
def Co.step0(hm:1<=m)(hQ:Q.nR)(h:Co P S Q Shun m j gs w t D F d0 K q){a:cA}{K0:kC}(aa:∀p,p<=j->p≠0->En S (who p) (K p) w w')(ac:TI S Shun m (t++eL 0 fn pos es) ↑w' j (upd K 0 K0))(z:Jy S ↑w' j (upd K 0 K0))(I:pL S.C S.n w'):Co P S Q Shun m j ((gs.map (woken P a a' w')).setIfInBounds 0 a') w' (t++eL 0 fn pos es) D F (gH d0 es) (upd K 0 K0) q:=by
 refine⟨by simp[h.size],λi E=>?_,λk hk R=>?_,ac,z,by rw[Deaf_own,h.deaf0],λi E=>by rw[mC t aA _ fI,h.deafW i E],λi E Y=>?_,I⟩
 .obtain⟨x,hx,J⟩:=h.wk i E;exact⟨x,by rw[get_map_set _ _ _ _ aA,hx,cO,J.woken],by rw[kr K _ aA];exact J.rely hQ (aa (i+1) aA aA)⟩
 .obtain⟨x,hx,hq⟩:=h.old k hk R;refine⟨x,by rw[get_map_set _ _ _ _ aA,hx,cO,woken_quitsD hq],?_⟩;rw[mC t aA _ fI];exact hq
 .obtain⟨r,hr⟩:=h.rel i E Y;exact⟨r,hr.appOther fI aA⟩
def Co.aeZ(h:Co P S Q Shun m j gs w t D F d0 K q){k:Nat}(hk:0<k)(ac:k<m){n:Nat}(z:∀e∈es,Event.mute e=aR)(hq:QuitsD P n (gH (Deaf t k) es) g'):Co P S Q Shun m j ((gs.map (woken P g g' w)).setIfInBounds k g') w (t++eL k fn pos es) D F d0 K (upd q k n):=by
 refine⟨by simp[h.size],λi R=>?_,λk' af I=>?_,?_,h.apt,by rw[mC t aA _ fI,h.deaf0],λi R=>by rw[mC t aA _ fI,h.deafW i R],λi R ae=>?_,h.pay⟩
 .obtain⟨x,hx,aa⟩:=h.wk i R;exact⟨x,by rw[get_map_set _ _ _ _ aA,hx,cO,aa.woken],aa⟩
 .by_cases e:k'=k
  .subst e;exact⟨g',get_map_set_same _ _ _ (by rw[h.size];omega),by rw[fN,Deaf_own];exact hq⟩
  .obtain⟨x,hx,Y⟩:=h.old k' af I;refine⟨x,by rw[get_map_set _ _ _ _ aA,hx,cO,woken_quitsD Y],?_⟩;rw[mC t aA _ fI,kr q _ e];exact Y
 .refine h.ti.mute ac fI (λop E=>?_) (λop E=>?_) (λop E hr=>?_)
  all_goals obtain⟨e,he,rfl⟩:=oj E
  .exact touch_mute (z e he)
  .exact low_mute (z e he) _
  .have J:=loc_of_ofEvent hr;have:=z e he;obtain h1|h1|⟨a,wr,rfl,_⟩:=Go.ConcR.bk_of_mute (Wg:=0) this
   .rw[h1]at J;cases J
   .rw[h1]at J;cases J
   .cases J
 .obtain⟨r,hr⟩:=h.rel i R ae;exact⟨r,hr.appOther fI aA⟩
def Co.spawn(hm:1<=m)(h:Co P S Q Shun m j gs w t D F 0 K q){J:cA}{x y:MemOp}{T:Tr}{K0 Kc:kC}(hx:x.g=0/\x.act=.go (m+j))(hy:y.g=m+j/\y.act=.start)(aj:∀b,K0.O b->(K 0).O b)(ag:∀b,K0.W b->(K 0).W b)(ai:∀b,Kc.O b->(K 0).O b)(ah:∀b,Kc.W b->(K 0).W b)(d1:∀b,K0.W b->¬Kc.O b)(d2:∀b,Kc.W b->¬K0.O b)(w0:∀b,K0.W b->K0.O b)(wc:∀b,Kc.W b->Kc.O b)(hc:jT P aL S (M j) (tC P S Q j) T Kc J w):Co P S Q Shun m (j+1) ((gs.setIfInBounds 0 a').push J) w (t++#[x,y]) (upd D j ⟨7,0,0⟩) (upd F j T) 0 (upd (upd K 0 K0) (j+1) Kc) q:=by
 have A:=h.apt;have an:∀op∈#[x,y],op=x\/op=y:=by intro op aa;simpa using aa
 have af:∀op∈#[x,y],op.act≠.mark .disable/\op.act≠.mark .enable:=by
  intro op aa;obtain rfl|rfl:=an op aa
  .grind
  .grind
 have old:∀p,p<=j->p≠0->upd (upd K 0 K0) (j+1) Kc p=K p:=λp hp h0=>by rw[kr _ _ aA,kr _ _ h0]
 have ac:upd (upd K 0 K0) (j+1) Kc 0=K0:=by rw[kr _ _ aA,fN]
 refine⟨by simp[h.size];omega,λi hi=>?_,λk hk ao=>?_,h.ti.fork hx hy h.deaf0 aj ag ai ah,⟨λp hp b z=>?_,λp hp b z=>?_,λp Y hp hp' ae b z E=>?_,A.hWg,A.hC,A.ne,λp hp b z=>?lo,A.lWg,A.lC⟩,by rw[Deaf_still t 0 _ af,h.deaf0],λi hi=>?_,λi hi hs=>?_,h.pay⟩
 case lo=>
  by_cases e:p=j+1
  .subst e;rw[fN]at z;exact A.lo 0 aA b (ah b z)
  .by_cases I:p=0
   .subst I;rw[ac]at z;exact A.lo 0 aA b (ag b z)
   .rw[old p aA I]at z;exact A.lo p aA b z
 .obtain R|ak:=gG i j
  .obtain⟨g,hg,aq⟩:=h.wk i R;refine⟨g,?_,by rw[kr D _ aA,kr F _ aA,old _ aA aA];exact aq⟩
   grind
  .obtain rfl:i=j:=by omega
   refine⟨J,?_,by rw[fN,fN,fN];exact .work hc⟩;rw[show m+i=(gs.setIfInBounds 0 a').size by simp[h.size],Array.getElem?_push_size]
 .obtain⟨g,hg,ap⟩:=h.old k hk ao;refine⟨g,?_,by rw[Deaf_still t _ _ af];exact ap⟩
  grind
 .by_cases e:p=j+1
  .subst e;rw[fN]at z⊢;exact wc b z
  .by_cases I:p=0
   .grind
   .rw[old p aA I]at z⊢;exact A.w p aA b z
 .by_cases e:p=j+1
  .subst e;rw[fN]at z;exact A.o 0 aA b (ai b z)
  .by_cases I:p=0
   .subst I;rw[ac]at z;exact A.o 0 aA b (aj b z)
   .rw[old p aA I]at z;exact A.o p aA b z
 .by_cases e:p=j+1
  .subst e;rw[fN]at z;by_cases I:Y=0
   .grind
   .rw[old Y aA I]at E;exact A.d 0 Y aA aA (mn I) b (ah b z) E
  .by_cases I:p=0
   .subst I;rw[ac]at z;by_cases e':Y=j+1
    .subst e';rw[fN]at E;exact d1 b z E
    .rw[old Y aA (mn ae)]at E;exact A.d 0 Y aA aA ae b (ag b z) E
   .rw[old p aA I]at z;by_cases e':Y=j+1
    .subst e';rw[fN]at E;exact A.d p 0 aA aA I b z (ai b E)
    .by_cases am:Y=0
     .subst am;rw[ac]at E;exact A.d p 0 aA aA I b z (aj b E)
     .rw[old Y aA am]at E;exact A.d p Y aA aA ae b z E
 .rw[Deaf_still t _ _ af];obtain R|ak:=gG i j
  .rw[h.deafW i R,kr D _ aA]
  .obtain rfl:i=j:=by omega
   rw[fN];exact h.ti.above _ jB
 .obtain R|ak:=gG i j
  .rw[kr D _ aA]at hs;obtain⟨r,hr⟩:=h.rel i R hs;refine⟨r,hr.appNot λop aa=>?_⟩
   grind
  .obtain rfl:i=j:=by omega
   rw[fN]at hs;simp at hs
end
end
end
open Go.ConcR (KK wgBlock WgAt stA smA rd wr Payload DC0 Bk g_of_ofEvents again_blocked loc_of_ofEvent bk_of_mute ofEvent_loc_mark)
section
variable {g:cA}{es:Array jz}
section
variable [pf](P:cU)(S:Who)(Q:Left)(Shun:Loc->Prop)(m:Nat)(Fin AnchW:kC->cA->U->Prop)
def Inv(R:Mu)(Y:Machine)(t:Trace):Prop:=
 ∃(z:Array cA)(w:U)(sl:Option (Nat×Nat))(j:Nat)(D:Nat->WD)(F:Nat->Tr)(tag:CTag)(J:Nat×Tr)(E:Nat)(K:Nat->kC)(a:cA)(st I:Int)(q:Nat->Nat),
  Y=crowd z w sl/\z[0]? =M a/\CS P S Fin AnchW Q tag j J E (K 0) a w/\Co P S Q Shun m j z w t D F E K q/\WgAt S.ty S.Wg w st I/\gS j D tag st I/\(tag=.ret->Acq S m j t)/\
   R=((sumTo m q,phi S.n (Vc j D) tag+Ssum j D),(F,J))
def Down(I:Mu)(J:Machine)(t:Trace)(i:Nat):Prop:=∃z ops E,runT P J i=(.next z,ops)/\pU S.n E I/\Inv P S Q Shun m Fin AnchW E z (t++ops)
end
section
variable [pf]{P:cU}{S:Who}{Q:Left}{Shun:Loc->Prop}{m:Nat}{Fin AnchW:kC->cA->U->Prop}
 {gs:Array cA} {w w':U} {sl:Option (Nat×Nat)} {j:Nat} {D:Nat->WD} {F:Nat->Tr} {tag:CTag} {f0:Nat×Tr} {d0:Nat} {K:Nat->kC} {a:cA} {t:Trace} {st sm:Int} {q:Nat->Nat}
def BJ(hm:1<=m)(hQ:Q.nR)(hF:∀K g w,Fin K g w->g.status=eN)(hA:∀K g w,AnchW K g w->g.status=eN)(ha:gs[0]? =M a)(ag:CS P S Fin AnchW Q tag j f0 d0 (K 0) a w)(am:Co P S Q Shun m j gs w t D F d0 K q){i:Nat}(hi:i<j){g':cA}{s' dd':Nat}{T':Tr}{Ki:kC}{Y J:Int}(hg:gs[m+i]? =M g)(ar:eC P aL g w=.go g' w' es)(ae:∀p,p<=j->p≠i+1->En S (who p) (K p) w w')(aq:TI S Shun m (t++eL (m+i) g.frame.fn g.frame.place es) ↑w' j (upd K (i+1) Ki))(aa:Jy S ↑w' j (upd K (i+1) Ki))(ak:WS P S Q i Ki s' T' dd' g' w')(I:gH (D i).deaf es=dd')(ac:s'<=6->∃r,RelBy (stA S.Wg) (t++eL (m+i) g.frame.fn g.frame.place es) (m+i) r)(ah:pL S.C S.n w')(au:WgAt S.ty S.Wg w' Y J)(R:∀z,(z=tag\/(tag=.blk/\z=.w3))->(mayWake P g=aR->g'.status=eN->z≠.blk)->gS j (upd D i ⟨s',0,dd'⟩) z Y J)(av:tag=.ret->Acq S m j (t++eL (m+i) g.frame.fn g.frame.place es))(aj:(s'<(D i).stage/\cnt ⟨s',0,dd'⟩<=cnt (D i))\/(s'=(D i).stage/\Tr.Lt T' (F i))):Down P S Q Shun m Fin AnchW ((sumTo m q,phi S.n (Vc j D) tag+Ssum j D),(F,f0)) (crowd gs w sl) t (m+i):=by
 obtain⟨z,f',ai,E,ap⟩:=ag.wokenBy hF hA (ae 0 aA aA) g g';have an:(m+i == 0)=aL:=aF
 have af:=runT_crowd_go (P:=P) (sl:=sl) (i:=m+i) hg (by rw[an];exact ar);have e1:=sumTo_upd D (⟨s',0,dd'⟩) cnt hi;have e2:=sumTo_upd D (⟨s',0,dd'⟩) WD.stage hi;have hb:=ag.bound
 refine⟨_,_,_,af,?_,
  _,w',sl,j,_,_,z,f',d0,_,woken P g g' w' a,Y,J,q,rfl,by grind,by rw[kr K _ aA];exact ai,am.stepW hm hQ hi ae aq aa ak I ac ah,au,R z E ap,?_,rfl⟩
 .rw[phi_retag S.n _ E];simp only[Vc,Ssum]at *;obtain⟨h1,h2⟩|⟨h1,h2⟩:=aj
  .refine pU.stage ?_;have:=phi_mono S.n (v':=sumTo j λa=>cnt (upd D i ⟨s',0,dd'⟩ a)) (v:=sumTo j λa=>cnt (D a)) aA tag;omega
  .have ec:cnt (⟨s',0,dd'⟩:WD)=cnt (D i):=by simp only[cnt,h1]
   have ev:(sumTo j λa=>cnt (upd D i ⟨s',0,dd'⟩ a))=sumTo j λa=>cnt (D a):=aA
   have ao:(sumTo j λa=>(upd D i ⟨s',0,dd'⟩ a).stage)=sumTo j λa=>(D a).stage:=aA
   rw[ev,ao];exact pU.way ⟨i,aA,by rw[fN];exact h2,λk hk=>kr F _ hk⟩
 .grind
omit [Payload] in
def adW{Wg:Nat}(h:∀e∈es,Bk Wg e):∀e∈es,ZX Wg e:=λe z=>bE (h e z)
def adK(hm:1<=m)(hQ:Q.nR)(hF:∀K g w,Fin K g w->g.status=eN)(hA:∀K g w,AnchW K g w->g.status=eN)(hn:S.n<2147483648)(ha:gs[0]? =M a)(a2:CS P S Fin AnchW Q tag j f0 d0 (K 0) a w)(aa:Co P S Q Shun m j gs w t D F d0 K q)(Y:WgAt S.ty S.Wg w st sm)(R:gS j D tag st sm)(bm:tag=.ret->Acq S m j t){i:Nat}(hi:i<j)(hg:gs[m+i]? =M g)(a5:g.status=eN):Down P S Q Shun m Fin AnchW ((sumTo m q,phi S.n (Vc j D) tag+Ssum j D),(F,f0)) (crowd gs w sl) t (m+i):=by
 obtain⟨bn,bu,hs⟩:=aa.wk i hi;obtain rfl:g=bn:=by grind
 have A:=aa.apt;have ah:i+1<=j:=hi;generalize ae:(D i).stage=s at hs;generalize bl:F i=T at hs;generalize a3:(D i).deaf=dd at hs;have hb:=a2.bound;have b3:=Vc_le j D;have a9:Deaf t (m+i)=dd:=by rw[aa.deafW i hi,a3]
 have nr:s≠1->tag≠.ret:=λh=>R.not_ret hi aA;have ak:=xu K (i+1);cases hs with
 |work h=>
  obtain⟨v,I,hq⟩|⟨f,g',w',es,rfl,z,ag,hT⟩:=h.cases
  .obtain⟨_,bk,g',z,am,hk⟩:=I;have bd:Has S.C i v w:=by simpa using bk
   refine BJ hm hQ hF hA ha a2 aa hi hg z (λp _ _=>.refl ..) (Ki:=K _) (T':=Tr.chain am) (s':=6) (dd':=0) (by rw[ak];exact aa.ti.book hm A (p:=i+1) ah (by intro e J;simp at J;subst J;exact cD (bE rfl))) (by rw[ak];exact A)
    (.later (.k1 hk) aA hq bd) (by rw[a3];rfl) (λ_=>⟨_,RelBy.new a9 _ _⟩) aa.pay Y (λ_ ht _=>(R.counted hi aA (bE rfl) _ _).retag ht) (λe=>Xs e (nr aA)) (bE ⟨aA,by simp[cnt,ae]⟩)
  .refine BJ hm hQ hF hA ha a2 aa hi hg z (λp hp bp=>Gu.en (p:=i+1) A ah hp bp ag) (Ki:=(K _).grow _ _) (T':=f w) (s':=7) (dd':=0) (aa.ti.plain hm A (p:=i+1) ah ag.size ag.events) (A.grow ag.size ah)
    (.work hT) ?_ (λh=>aA) (ag.pay aa.pay) (Y.of_block (Gu.wg (p:=i+1) A ah ag)) (λ_ ht _=>Go.ConcN.Mode.retag (by have:=R.same (i:=i) 0 0;rwa[ae]at this) ht) (λe=>Xs e (nr aA)) (cD ⟨ae.symm,by rw[bl];exact Tr.lt f w⟩)
   rw[a3];exact deafBehind_idle (λe J=>⟨(CX A (p:=i+1) ah ag.size (ag.events e J)).2.2.2.1,(CX A (p:=i+1) ah ag.size (ag.events e J)).2.2.2.2⟩) 0
 |later h h6 hq hh=>
  rename_i v mf
  have ay:∀{g':cA}{w':U}{es:Array jz}{s' m' dd':Nat}{ar au:Int},eC P aL g w=.go g' w' es->Aside S.Wg w w'->WgAt S.ty S.Wg w' ar au->(∀e∈es,Bk S.Wg e)->
    (∀jx e,es[jx]? =M e->(cX e).touch? =Z\/0<gH dd (es.extract 0 jx))->WSit P S.ty S.Wg S.C S.n pO pO 0 (i+1) v s' m' dd' g' w'->gH dd es=dd'->
    (∀af,(af=tag\/(tag=.blk/\af=.w3))->(mayWake P g=aR->g'.status=eN->af≠.blk)->gS j (upd D i ⟨s',0,dd'⟩) af ar au)->(tag=.ret->Acq S m j (t++eL (m+i) g.frame.fn g.frame.place es))->
    ((s'<s/\cnt ⟨s',0,dd'⟩<=cnt (D i))\/(s'=s/\mf=m'+1))->
    Down P S Q Shun m Fin AnchW ((sumTo m q,phi S.n (Vc j D) tag+Ssum j D),(F,f0)) (crowd gs w sl) t (m+i):=by
   intro g' w' es s' m' dd' ar au z av aq ap hd aw bg ai ao a1;have bq:s'<=6:=by rcases a1 with⟨h,_⟩|⟨h,_⟩<;>omega
   have bo:∀p,p<=j->En S (who p) (K p) w w':=λp hp=>abU A hp av ⟨_,_,aq⟩;have bb:=bo _ ah
   refine BJ hm hQ hF hA ha a2 aa hi hg z (λp hp _=>bo p hp) (Ki:=K _) (T':=Tr.chain m') (by rw[ak,av.size];exact aa.ti.book hm A (p:=i+1) ah (adW ap)) (by rw[ak,av.size];exact A)
    (.later aw bq (hQ _ _ _ _ _ bb.block hq) ((bb.cell i rfl).trans hh)) (by rw[a3];exact bg) (λ_=>let ⟨r,hr⟩:=aa.rel i hi aA;⟨r,hr.book a9 _ _ ap hd⟩) (bb.pay aa.pay) aq ai ao ?_
   rw[ae,bl];exact a1.imp id λ⟨h1,h2⟩=>⟨h1,by rw[h2];exact Tr.WY m'⟩
  have book:∀{g':cA}{w':U}{es:Array jz}{s' m' dd':Nat}{ar au:Int},eC P aL g w=.go g' w' es->Aside S.Wg w w'->WgAt S.ty S.Wg w' ar au->(∀e∈es,Bk S.Wg e)->
    (∀jx e,es[jx]? =M e->(cX e).touch? =Z\/0<gH dd (es.extract 0 jx))->WSit P S.ty S.Wg S.C S.n pO pO 0 (i+1) v s' m' dd' g' w'->gH dd es=dd'->
    gS j (upd D i ⟨s',0,dd'⟩) tag ar au->(tag=.ret->Acq S m j (t++eL (m+i) g.frame.fn g.frame.place es))->((s'<s/\cnt ⟨s',0,dd'⟩<=cnt (D i))\/(s'=s/\mf=m'+1))->
    Down P S Q Shun m Fin AnchW ((sumTo m q,phi S.n (Vc j D) tag+Ssum j D),(F,f0)) (crowd gs w sl) t (m+i):=
   λz av aq ap hd aw bg ai ao a1=>ay z av aq ap hd aw bg (λ_ ht _=>ai.retag ht) ao a1
  have an:∀{g':cA}{m':Nat},eC P aL g w=.go g' w #[]->WSit P S.ty S.Wg S.C S.n pO pO 0 (i+1) v s m' dd g' w->mf=m'+1->s≠1->
    Down P S Q Shun m Fin AnchW ((sumTo m q,phi S.n (Vc j D) tag+Ssum j D),(F,f0)) (crowd gs w sl) t (m+i):=by
   intro g' m' z aw bv h1;exact book z (.refl _ w) Y aC aC aw rfl (by have:=R.same (i:=i) 0 dd;rwa[ae]at this) (λe=>Xs e (nr h1)) (cD ⟨rfl,bv⟩)
  cases h with
  |r0 _=>omega
  |k1 h=>
   obtain I|⟨m',rfl,E⟩:=oX h
   .obtain⟨_,g',z,am,hk⟩:=I w (j9 w)
    exact book z (.refl _ w) Y (by intro e J;simp at J;subst J;exact bE rfl) (by intro jx e J;exact bE (by have:=gK J;simp at this;subst this;rfl)) (.d1 hk) rfl
     (R.counted hi aA (cD rfl) _ _) (λe=>Xs e (nr aA)) (bE ⟨aA,by simp[cnt,ae]⟩)
   .obtain⟨g',w',es,z,⟨rfl,rfl⟩,aj⟩:=E w (j9 w);exact an z (.k1 aj) rfl aA
  |d1 h=>
   obtain I|⟨m',rfl,E⟩:=oX h
   .obtain⟨_,a4⟩:=I w (j9 w);have bz:cnt (D i)=1:=by simp[cnt,ae]
    have b2:1<=Vc j D:=by have:=le_sumTo (f:=λx=>cnt (D x)) hi;simp only[Vc];omega
    have a6:∀e∈#[rd (stA S.Wg),wr (stA S.Wg)],Bk S.Wg e:=by intro e J;simp at J;rcases J with rfl|rfl<;>exact bk_cell _ _ rfl
    have ba:∀jx e,(#[rd (stA S.Wg),wr (stA S.Wg)]:Array jz)[jx]? =M e->(cX e).touch? =Z\/0<gH 1 ((#[rd (stA S.Wg),wr (stA S.Wg)]:Array jz).extract 0 jx):=by
     intro jx e J
     match jx,J with
     |0,_=>exact cD (by simp[gH])
     |1,_=>exact cD (by simp[gH,rd])
     |jx+2,J=>simp at J
    have b1:cnt (⟨1,0,1⟩:WD)=0:=rfl
    have opq:OpenSt j D->OpenSt j (upd D i ⟨1,0,1⟩):=λh a ha=>by
     by_cases e:a=i
     .subst e;rw[fN];simp
     .rw[kr D _ e];exact h a ha
    cases R with
    |opn h1 h2 h3=>
     obtain⟨v,hv⟩:∃v,Vc j D+pend tag=v+1:=⟨Vc j D+pend tag-1,aA⟩
     rw[hv]at Y;have a7:WgAt S.ty S.Wg w (((v:Nat)+1)*KK+((0:Nat):Int)) 0:=by simpa using Y
     obtain⟨g',z,_,hq⟩:=a4 v 0 aA aA a7;obtain⟨qq,hq⟩:=hq aA;have bh:Vc j (upd D i ⟨1,0,1⟩)+pend tag=v:=by have:=Vc_upd D (⟨1,0,1⟩) hi;omega
     refine book z (iz w (stA S.Wg) _) (Y.setSt _) a6 ba (.quit hq) rfl ?_ (λe=>Xs e (nr aA)) (bE ⟨aA,by simp[cnt]⟩);have e:((v:Nat):Int)*KK+((0:Nat):Int)=((Vc j (upd D i ⟨1,0,1⟩)+pend tag:Nat):Int)*KK:=by rw[bh];simp
     rw[e];exact .opn h1 (opq h2) (λvs ev=>by have:=h3 vs ev;omega)
    |reg h1 h2 h3=>
     obtain⟨v,hv⟩:∃v,Vc j D=v+1:=⟨Vc j D-1,aA⟩
     rw[hv]at Y;have hp:pend tag=0:=by cases tag<;>first|rfl|exact h1.elim
     have a7:WgAt S.ty S.Wg w (((v:Nat)+1)*KK+((1:Nat):Int)) 0:=by simpa using Y
     obtain⟨g',z,hl,hq⟩:=a4 v 1 aA aA a7;by_cases bw:v=0
     .subst bw;obtain⟨am,hk⟩:=hl ⟨rfl,rfl⟩;refine book z (iz w (stA S.Wg) _) (Y.setSt _) a6 ba (.d2 hk) rfl ?_ (λe=>Xs e (nr aA)) (bE ⟨aA,by simp[cnt]⟩)
      have ac:∀a,a<j->a≠i->(D a).stage=1:=λa ha e=>by
       have c0:=others_uncounted hi hv bz a ha e;have:=h2 a ha;simp only[cnt]at c0;split at c0<;>omega
      have:=Go.ConcN.Mode.last (j:=j) (D:=upd D i ⟨4,0,1⟩) (tag:=tag) i h1 hi (by rw[fN];simp) (λa ha e=>by rw[kr D _ e];exact ac a ha e);rw[fN]at this;simpa using this
     .obtain⟨qq,hq⟩:=hq aA;have bh:Vc j (upd D i ⟨1,0,1⟩)=v:=by have:=Vc_upd D (⟨1,0,1⟩) hi;omega
      refine book z (iz w (stA S.Wg) _) (Y.setSt _) a6 ba (.quit hq) rfl ?_ (λe=>Xs e (nr aA)) (bE ⟨aA,by simp[cnt]⟩);have e:((v:Nat):Int)*KK+((1:Nat):Int)=((Vc j (upd D i ⟨1,0,1⟩):Nat):Int)*KK+1:=by rw[bh];simp
      rw[e];exact .reg h1 (opq h2) aA
    |last L _ h2 h3 h4=>
     grind
    |sema h2=>have:=h2 i hi;omega
    |fin _ h2=>have:=h2 i hi;omega
   .obtain⟨g',w',es,z,⟨rfl,rfl⟩,aj⟩:=E w (j9 w);exact an z (.d1 aj) rfl aA
  |d2 h=>
   obtain I|⟨m',rfl,E⟩:=oX h
   .obtain⟨_,hx⟩:=I w (j9 w);obtain⟨az,ac,rfl,rfl⟩:=R.isLast hi aA;simp only[ae]at Y;obtain⟨g',z,am,hk⟩:=hx (by simpa using Y);refine book z (.refl _ w) Y (by intro e J;simp at J;subst J;exact bk_cell _ _ rfl) (by intro jx e J;match jx,J with|0,_=>exact cD (by simp[gH])|jx+1,J=>simp at J) (.d3 hk) rfl ?_ (λe=>Xs e (nr aA)) (bE ⟨aA,by simp[cnt]⟩);have:=Go.ConcN.Mode.last (j:=j) (D:=upd D i ⟨3,0,1⟩) (tag:=tag) i az hi (by rw[fN];simp) (λa ha e=>by rw[kr D _ e];exact ac a ha e);rw[fN]at this;simpa using this
   .obtain⟨g',w',es,z,⟨rfl,rfl⟩,aj⟩:=E w (j9 w);exact an z (.d2 aj) rfl aA
  |d3 h=>
   obtain I|⟨m',rfl,E⟩:=oX h
   .obtain⟨_,hx⟩:=I w (j9 w);obtain⟨az,ac,rfl,rfl⟩:=R.isLast hi aA;simp only[ae]at Y;obtain⟨g',z,am,hk⟩:=hx (by simpa using Y);refine book z (iz w (stA S.Wg) _) (Y.setSt 0) (by intro e J;simp at J;subst J;exact bk_cell _ _ rfl) (by intro jx e J;match jx,J with|0,_=>exact cD (by simp[gH])|jx+1,J=>simp at J) (.d4 hk) rfl ?_ (λe=>Xs e (nr aA)) (bE ⟨aA,by simp[cnt]⟩);have:=Go.ConcN.Mode.last (j:=j) (D:=upd D i ⟨2,0,1⟩) (tag:=tag) i az hi (by rw[fN];simp) (λa ha e=>by rw[kr D _ e];exact ac a ha e);rw[fN]at this;simpa using this
   .obtain⟨g',w',es,z,⟨rfl,rfl⟩,aj⟩:=E w (j9 w);exact an z (.d3 aj) rfl aA
  |d4 h=>
   obtain I|⟨m',rfl,E⟩:=oX h
   .obtain⟨_,br,hx⟩:=I w (j9 w);obtain⟨az,ac,rfl,rfl⟩:=R.isLast hi aA;simp only[ae]at Y;obtain⟨g',z,qq,hq⟩:=hx (by simpa using Y)
    have a8:g'.status=eN:=by
     cases qq with
     |zero=>exact Xs hq.2 aB
     |succ qq=>exact hq.elim (λx=>Xs x.2 aB) (λx=>x.1)
    refine ay z (iz w (smA S.Wg) _) (Y.setSm 1) (es:=semEvents _) bk_sem ?_ (.quit hq) (by simp[gH,semEvents]) ?_ (λe=>Xs e (nr aA)) (bE ⟨aA,by simp[cnt]⟩)
    .intro jx e J
     match jx,J with
     |0,J=>simp[semEvents]at J;subst J;exact bE rfl
     |1,_=>exact cD (by simp[gH,semEvents])
     |2,_=>exact cD (by simp[gH,semEvents])
     |3,J=>simp[semEvents]at J;subst J;exact bE rfl
     |jx+4,J=>simp[semEvents]at J
    .intro af ht hw;have bs:=hw br a8
     have e3:af=.w3:=by
      obtain rfl|⟨_,rfl⟩:=ht
      .cases af<;>first|rfl|exact az.elim|exact Xs rfl bs
      .rfl
     subst e3;simp only[if_true]
     exact .sema λa ha=>by
      by_cases e:a=i
      .subst e;rw[fN]
      .rw[kr D _ e];exact ac a ha e
   .obtain⟨g',w',es,z,⟨rfl,rfl⟩,aj⟩:=E w (j9 w);exact an z (.d4 aj) rfl aA
  |quit h=>
   cases mf with
   |zero=>rw[h.1]at a5;cases a5
   |succ qq=>
    obtain⟨hf,_⟩|⟨_,g',es,a0,E,hq⟩:=h
    .grind
    .have ap:∀e∈es,Bk S.Wg e:=λe J=>bk_of_mute (a0 e J);have bj:∀jx e,es[jx]? =M e->(cX e).touch? =Z\/0<gH dd (es.extract 0 jx):=λjx e J=>bE (touch_mute (a0 e (gK J)));refine book (E w) (.refl _ w) Y ap bj (.quit hq) rfl (by have:=R.same (i:=i) 0 (gH dd es);rwa[ae]at this) (λe=>(bm e).app λi' r b0 hr=>?_) (cD ⟨rfl,rfl⟩);by_cases e':i'=i
     .subst e';exact hr.book a9 _ _ ap bj
     .exact hr.appOther fI aA
def Zr(hF:∀K g w,Fin K g w->g.status=eN)(hA:∀K g w,AnchW K g w->g.status=eN)(ha:gs[0]? =M a)(ak:CS P S Fin AnchW Q tag j f0 d0 (K 0) a w)(af:Co P S Q Shun m j gs w t D F d0 K q)(ao:WgAt S.ty S.Wg w st sm)(Y:gS j D tag st sm)(ai:tag=.ret->Acq S m j t){k:Nat}(hk:0<k)(I:k<m)(hg:gs[k]? =M g)(E:g.status=eN):Down P S Q Shun m Fin AnchW ((sumTo m q,phi S.n (Vc j D) tag+Ssum j D),(F,f0)) (crowd gs w sl) t k:=by
 obtain⟨ag,an,hq⟩:=af.old k hk I;obtain rfl:g=ag:=by grind
 cases J:q k with
 |zero=>rw[J]at hq;rw[hq.1]at E;cases E
 |succ n=>
  rw[J]at hq;obtain⟨hf,_⟩|⟨_,g',es,ac,aa,am⟩:=hq
  .grind
  obtain⟨ae,f',ah,z,aq⟩:=ak.wokenBy hF hA (.refl S Z _ w) g g';have aj:(k == 0)=aL:=aF
  have R:=runT_crowd_go (P:=P) (sl:=sl) (i:=k) hg (by rw[aj];exact aa w)
  have ap:sumTo m (upd q k n)+(n+1)=sumTo m q+n:=by
   have:=sumTo_upd q n id I;simpa[J]using this
  refine⟨_,_,_,R,pU.quit aA,
   _,w,sl,j,D,F,ae,f',d0,K,_,st,sm,_,rfl,by grind,ah,af.aeZ hk I ac am,ao,Y.retag z,λe=>?_,rfl⟩
  obtain rfl|⟨_,rfl⟩:=z
  .exact(ai e).app λi r _ hr=>hr.appOther fI aA
  .cases e
end
end
end Cr
