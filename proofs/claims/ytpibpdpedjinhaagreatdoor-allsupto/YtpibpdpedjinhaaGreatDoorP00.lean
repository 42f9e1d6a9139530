import Derived.Test.YtpibpdpedjinhaaGreatDoorPA
import Derived.Conc.WgGenN2
import Derived.Conc.Beside
set_option maxRecDepth 100000
set_option maxHeartbeats 1600000
set_option linter.all false
open Array renaming setIfInBounds->qb,size->qd
open Bool renaming false->pi,true->pw
open Classical renaming choose->yr
open Eq renaming trans->oy
open False renaming elim->sj
open Go renaming Event->Zx,Goroutine->r9,Program->th,World->pn,deafBehind->yy,stepG->vi
open Go.Conc renaming Deaf_other->Y3,Goes->X7,aside_setCell->IN,getElem?_append_cases->Yb,lt_size_of_getElem?->qac,mem_ofEvents->qaA
open Go.Conc.Goes renaming cases->ZL
open Go.ConcN renaming Mode->AS,PayAt->qap,WgLive->AI,upd_ne->YD,upd_same->xo
open Go.ConcN.Mode renaming fin_inv->Y6,open_inv->Y0,reopen->Yn
open Go.ConcN.RW renaming refl->Yv
open Go.ConcN.RelBy renaming appOther->zp
open Go.ConcR renaming Payload->ZF,g_of_ofEvents->xj,mk->vm,ofEvent_loc_mark->YS
open Go.ConcR.WgAt renaming setSt->Yr
open Go.Frame renaming place->yl
open Go.GoStatus renaming running->ux
open Go.MemAct renaming ofEvent->vj,touch?->tz
open Go.MemOp renaming ofEvents->vp
open Go.World renaming setCell->o3
open Ne renaming symm->YI
open Option renaming none->X,some->N
open Or renaming inl->rr,inr->rz
open Prod.Lex renaming left->X9,right->Yy
namespace Go.Proofs.YtpibpdpedjinhaaGreatDoor
namespace Cr
open Go Go.Conc Go.ConcN
open Go.ConcR (KK wgBlock WgAt stA smA rd wr Payload DC0)
section
variable {g:r9}
inductive Tr where
 |leaf
 |node (f:pn->Tr)
variable {T:Tr}
def Tr.Lt(a b:Tr):=∃f w,b=.node f/\a=f w
def Tr.wf:WellFounded Tr.Lt:=⟨λa=>by
 induction a with
 |leaf=>exact⟨_,λy ⟨f,w,e,_⟩=>by cases e⟩
 |node f ih=>exact⟨_,λy ⟨f',w,e,h⟩=>by cases e;subst h;exact ih w⟩⟩
def Tr.lt(f w):Tr.Lt (f w) (.node f):=⟨f,w,R,R⟩
def Tr.chain:Nat->Tr
 |0=>.leaf
 |n+1=>.node λ_=>chain n
def Tr.LC(n):Tr.Lt (Tr.chain n) (Tr.chain (n+1)):=⟨_,default,R,R⟩
def PL(j:Nat)(a b:Nat->Tr):=∃i,i<j/\Tr.Lt (a i) (b i)/\∀k≠i,a k=b k
def PL.wf(j):WellFounded (PL j):=by
 induction j with
 |zero=>exact⟨λa=>⟨_,λy ⟨i,b,_⟩=>Zl b aA⟩⟩
 |succ j ih=>
  refine Subrelation.wf (r:=InvImage (Prod.Lex Tr.Lt (PL j)) λf=>(f j,f)) ?_ (InvImage.wf _ (Prod.lex ⟨_,Tr.wf⟩ ⟨_,ih⟩).wf);rintro a b ⟨i,h,d,c⟩
  show Prod.Lex Tr.Lt (PL j) (a j,a) (b j,b)
  by_cases e:i=j
  .subst e;exact X9 _ _ d
  .rw[c j (YI e)];exact Yy _ ⟨i,aA,d,c⟩
abbrev Mu:=(Nat×Nat)×((Nat->Tr)×(Nat×Tr))
def zB:Nat×Tr->Nat×Tr->Prop:=Prod.Lex (·<·) Tr.Lt
def mC(n:Nat):Mu->Mu->Prop:=Prod.Lex (Prod.Lex (·<·) (·<·)) (Prod.Lex (PL n) zB)
def mC.wf(n):WellFounded (mC n):=
 (Prod.lex (Prod.lex Nat.lt_wfRel Nat.lt_wfRel) (Prod.lex ⟨PL n,PL.wf n⟩ (Prod.lex Nat.lt_wfRel ⟨Tr.Lt,Tr.wf⟩))).wf
section
variable {n q q' s s':Nat}{f f':Nat->Tr}{x x':Nat×Tr}
def mC.quit(h:q'<q):mC n ((q',s'),(f',x')) ((q,s),(f,x)):=X9 _ _ (X9 _ _ h)
def mC.stage(h:s'<s):mC n ((q,s'),(f',x')) ((q,s),(f,x)):=X9 _ _ (Yy _ h)
def mC.way(h:PL n f' f):mC n ((q,s),(f',x')) ((q,s),(f,x)):=Yy _ (X9 _ _ h)
def mC.own(h:zB x' x):mC n ((q,s),(f,x')) ((q,s),(f,x)):=Yy _ (Yy _ h)
end
def mC.trans{n}{a c:Mu}{q s s' f x x'}(h:mC n a ((q,s),(f,x)))(b:s<s')(hc:c=((q,s'),(f,x'))):mC n a c:=by
 subst hc;obtain⟨⟨d,e⟩,i⟩:=a;cases h with
 |left _ _ h=>
  cases h with
  |left _ _ h=>exact X9 _ _ (X9 _ _ h)
  |right _ h=>exact X9 _ _ (Yy _ aA)
 |right _ h=>exact X9 _ _ (Yy _ b)
def zB.way{k a b}(h:Tr.Lt a b):zB (k,a) (k,b):=Yy _ h
structure gL where
 O:Nat->Prop
 W:Nat->Prop
def gL.grow(K:gL)(a b:Nat):gL:=⟨λx=>K.1 x\/(a<=x/\x<b),λx=>K.2 x\/(a<=x/\x<b)⟩
structure Who where
 Wg:Nat
 C:Nat
 n:Nat
 ty:TypeId
 lo:Nat
section
variable [ZF]
structure En(S:Who)(me:Option Nat)(K:gL)(w w₁:pn):Prop where
 tape:w₁.2=w.2
 os:w₁.4=w.4
 output:w₁.5=w.5
 size:↑w<=w₁.1.size
 block:∀b,K.1 b->w₁.1[b]? =w.1[b]?
 live:AI S.4 S.1 w->AI S.4 S.1 w₁
 pay:qap S.2 S.3 w->qap S.2 S.3 w₁
 cell:∀i,me=N i->w₁.cell? ⟨S.2,i,X⟩=w.cell? ⟨S.2,i,X⟩
 low:∀b<S.5,w₁.1[b]? =w.1[b]?
variable {S:Who}{me:Option Nat}{K:gL}{w w₁ w₂:pn}
def En.refl(S me K w):En S me K w w:=⟨R,R,R,fI,λ_ _=>R,id,id,λ_ _=>R,λ_ _=>R⟩
def En.trans(h:En S me K w w₁)(k:En S me K w₁ w₂):En S me K w w₂:=
 ⟨oy k.1 h.1,oy k.2 h.2,oy k.3 h.3,aX h.4 k.4,λb a=>oy (k.5 b a) (h.5 b a),k.6∘h.6,k.7∘h.7,λi c=>oy (k.8 i c) (h.8 i c),λb a=>oy (k.9 b a) (h.9 b a)⟩
def En.at(S me K w d):En S me K w (w.at d):=⟨R,R,R,fI,λ_ _=>R,id,id,λ_ _=>R,λ_ _=>R⟩
def XN(K:gL)(n c:Nat)(e:Zx):=
 (∃a wr,e=⟨.cell a,wr,pi⟩/\((if wr then K.2 a.1 else K.1 a.1)\/n<=a.1)/\a.1<c)\/(∃r wr,e=⟨.obj r,wr,pi⟩/\((if wr then K.2 r else K.1 r)\/n<=r)/\r<c)\/
  (∃wr b,e=⟨.mark .noRoom,wr,b⟩)\/∃f wr b,e=⟨.mark (.extern f),wr,b⟩
def EvM(S:Who)(me:Option Nat)(K:gL)(n a:Nat)(e:Zx):=
 XN K n a e\/(∃i wr,me=N i/\e=⟨.cell ⟨S.2,i,X⟩,wr,pi⟩)\/(me=X/\(e=vm (.read (smA S.1))\/e=vm (.write (smA S.1))))
structure Gu(S:Who)(me:Option Nat)(K:gL)(w w':pn)(es:Array Zx):Prop where
 tape:w'.2=w.2
 os:w'.4=w.4
 output:w'.5=w.5
 size:↑w<=w'.1.size
 block:∀b<w.1.size,¬K.2 b->(b=S.2->me=X)->w'.1[b]? =w.1[b]?
 pay:qap S.2 S.3 w->qap S.2 S.3 w'
 cells:∀i,N i≠me->w'.cell? ⟨S.2,i,X⟩=w.cell? ⟨S.2,i,X⟩
 events:∀e∈es,EvM S me K ↑w ↑w' e
def Gu.still(S me K w):Gu S me K w w #[]:=⟨R,R,R,fI,λ_ _ _ _=>R,id,λ_ _=>R,λe a=>by simp at a⟩
def gy(P:th)(main:Bool)(S:Who)(me:Option Nat)(Stop:gL->r9->pn->Prop):Tr->gL->r9->pn->Prop
 |.leaf,K,g,w=>∀w₁,En S me K w w₁->Stop K g w₁
 |.node f,K,g,w=>g.3=ux/\∀w₁,En S me K w w₁->∃c a b,vi P main g w₁=.go c a b/\Gu S me K w₁ a b/\gy P main S me Stop (f w₁) (K.grow ↑w₁ ↑a) c a
variable {P:th}{main:Bool}{Stop Stop':gL->r9->pn->Prop}
def gy.rely(h:gy P main S me Stop T K g w)(a:En S me K w w₁):gy P main S me Stop T K g w₁:=by
 cases T with
 |leaf=>exact λw₂ b=>h w₂ (a.trans b)
 |node f=>exact⟨h.1,λw₂ b=>h.2 w₂ (a.trans b)⟩
def gy.mono:∀{K g w},gy P main S me Stop T K g w->(∀K g w,Stop K g w->Stop' K g w)->gy P main S me Stop' T K g w:=by
 induction T with
 |leaf=>exact λh a w₁ h₁=>a _ _ _ (h w₁ h₁)
 |node f ih=>exact λh a=>⟨h.1,λw₁ h₁=>let ⟨g',w',es,e,hg,hr⟩:=h.2 w₁ h₁;⟨g',w',es,e,hg,ih w₁ hr a⟩⟩
def gy.running(h:gy P main S me Stop T K g w)(a:∀K g w,Stop K g w->g.3=ux):g.3=ux:=by
 cases T with
 |leaf=>exact a _ _ _ (h w (.refl ..))
 |node f=>exact h.1
def gy.cases(h:gy P main S me Stop T K g w):Stop K g w\/∃f c a b,T=.node f/\vi P main g w=.go c a b/\Gu S me K w a b/\gy P main S me Stop (f w) (K.grow w.1.size ↑a) c a:=by
 cases T with
 |leaf=>exact rr (h w (.refl ..))
 |node f=>let⟨c,a,b,e,d,i⟩:=h.2 w (.refl ..);exact rz ⟨f,c,a,b,R,e,d,i⟩
def gy.bind:∀{K g w},gy P main S me Stop T K g w->(∀K g w,Stop K g w->∃a,gy P main S me Stop' a K g w)->∃a,gy P main S me Stop' a K g w:=by
 induction T with
 |leaf=>
  intro K g w h c;let⟨a,b⟩:=c _ _ _ (h w (.refl ..));exact⟨a,b⟩
 |node f ih=>
  intro K g w h o
  have i:∀w₁,En S me K w w₁->∃a,∃d b c,vi P main g w₁=.go d b c/\Gu S me K w₁ b c/\gy P main S me Stop' a (K.grow ↑w₁ ↑b) d b:=by
   intro w₁ h₁;let⟨d,b,c,e,l,m⟩:=h.2 w₁ h₁;let⟨a,j⟩:=ih w₁ m o;exact⟨a,d,b,c,e,l,j⟩
  refine⟨.node λw₁=>open Classical in if h₁:En S me K w w₁ then yr (i w₁ h₁)else .leaf,h.1,λw₁ h₁=>?_⟩;simp only[dif_pos h₁];exact dJ (i w₁ h₁)
def gy.one(m:g.3=ux)(h:∀w₁,En S me K w w₁->∃c a b,vi P main g w₁=.go c a b/\Gu S me K w₁ a b/\∃d,gy P main S me Stop d (K.grow ↑w₁ ↑a) c a):∃T,gy P main S me Stop T K g w:=by
 have i:∀w₁,En S me K w w₁->∃d,∃c a b,vi P main g w₁=.go c a b/\Gu S me K w₁ a b/\gy P main S me Stop d (K.grow ↑w₁ ↑a) c a:=by
  intro w₁ h₁;let⟨c,a,b,e,l,d,j⟩:=h w₁ h₁;exact⟨d,c,a,b,e,l,j⟩
 refine⟨.node λw₁=>open Classical in if h₁:En S me K w w₁ then yr (i w₁ h₁)else .leaf,m,λw₁ h₁=>?_⟩;simp only[dif_pos h₁];exact dJ (i w₁ h₁)
def gy.stop(h:∀w₁,En S me K w w₁->Stop K g w₁):∃T,gy P main S me Stop T K g w:=⟨.leaf,h⟩
omit [Payload] in
def gX(K:gL)(a):K.grow a a=K:=by
 cases K with
 |mk O W=>
  simp only[gL.grow,gL.mk.injEq];constructor<;>funext x<;>(refine propext ⟨λh=>h.elim id λh=>Zl h aA,rr⟩)
def gy.GS{Zs St}(a:∀w w₁,En S me K w w₁->Zs w w₁):∀{n g w},X7 P main Zs DC0 St n g w->∃T,gy P main S me (λb g w=>b=K/\St g w) T K g w:=by
 intro n
 induction n with
 |zero=>exact λh=>gy.stop λw₁ h₁=>⟨R,h w₁ (a _ _ h₁)⟩
 |succ n ih=>
  intro g w h;obtain h|⟨e,h⟩:=h
  .exact gy.stop λw₁ h₁=>⟨R,h w₁ (a _ _ h₁)⟩
  .refine gy.one e λw₁ h₁=>?_;have:=h w₁ (a _ _ h₁);cases b:vi P main g w₁ with
   |go g' w' es=>
    rw[b,goes_go]at this;obtain⟨⟨rfl,rfl⟩,c⟩:=this;let⟨T,d⟩:=ih c;exact⟨g',w',_,R,.still ..,T,by rw[gX];exact d⟩
   |_=>rw[b]at this;exact sj this
end
end
open Go.ConcR (KK wgBlock WgAt stA smA rd wr Payload DC0 Bk g_of_ofEvents loc_of_ofEvent ofEvent_cell ofEvent_loc_mark bk_of_mute)
section
def blk:Loc->Option Nat
 |.cell a=>N a.1
 |.obj r=>N r
 |_=>X
def PH(m:Nat):Nat->Nat
 |0=>0
 |p+1=>m+p
def who:Nat->Option Nat
 |0=>X
 |p+1=>N p
structure TM(t:Trace)(g:Nat)(K:gL):Prop where
 own:∀l b,blk l=N b->K.2 b->Perm t g l
 see:∀l b,blk l=N b->K.1 b->PermW t g l
structure CZ(S:Who)(sz j:Nat)(K:Nat->gL):Prop where
 w:∀p,p<=j->∀b,(K p).2 b->(K p).1 b
 o:∀p,p<=j->∀b,(K p).1 b->b<sz/\b≠S.1/\b≠S.2
 d:∀p q,p<=j->q<=j->p≠q->∀b,(K p).2 b->¬(K q).1 b
 hWg:S.1<sz
 hC:S.2<sz
 ne:S.2≠S.1
 lo:∀p,p<=j->∀b,(K p).2 b->S.5<=b
 lWg:S.5<=S.1
 lC:S.5<=S.2
structure TI(S:Who)(Shun:Loc->Prop)(m:Nat)(t:Trace)(sz j:Nat)(K:Nat->gL):Prop where
 mem:∀p,p<=j->TM t (PH m p) (K p)
 cell:∀i<j,Perm t (m+i) (.cell ⟨S.2,i,X⟩)
 cell0:∀i,j<=i->Perm t 0 (.cell ⟨S.2,i,X⟩)
 quiet:Quiet (ShN S.1) t
 cls:∀i a,touchAt t i=N a->a.1.isMemory=pw->Knows t 0 i\/((Shun a.1\/ShN S.1 a.1)/\a.3=.atomic)\/((∃k,k<j/\t.g? i=N (m+k))/\(a.3=.atomic->ShN S.1 a.1))
 nr:∀said,¬Race said t
 seen:∀op∈t,op.4.low sz
 norel:NoRelease (stA S.1) t
 above:∀g,m+j<=g->Deaf t g=0
 over:∀i g,t.g? i=N g->g≠0->t.counts i->(∃q,t.g? q=N 0/\HappensBefore t i q)\/∃k,k<j/\g=m+k
def XB(S:Who)(p:Nat)(K:gL)(sz sz':Nat)(x:Touch):=
 (∃b,blk x.1=N b/\b<sz'/\x.3=.plain/\((if x.2 then K.2 b else K.1 b)\/sz<=b))\/(∃i,who p=N i/\x.1=.cell ⟨S.2,i,X⟩/\x.3=.plain)\/(ShN S.1 x.1/\x.3≠.plain/\(x.3=.said->p=0))
section
variable {S:Who}{Shun:Loc->Prop}{m:Nat}{t u:Trace}{sz sz' j p:Nat}{K:Nat->gL}
def S7(a:1<=m)(hp:p<=j):PH m p<m+j:=by cases p<;>simp only[PH]<;>omega
def tK{f x b B}(d:f.low B)(c:tz f=N x)(a:blk x.1=N b):b<B:=by
 cases f with
 |access e=>
  simp only[tz,aI]at c;subst c;simp only[MemAct.low]at d;cases h:e.1<;>rw[h]at d a<;>simp only[blk,aI]at a
  .subst a;exact d
  .subst a;exact d
  all_goals cases a
 |mark k=>cases k<;>simp only[tz,aI]at c<;>first|(cases c;done)|(subst c;simp only[blk,aI]at a;subst a;exact d)
 |_=>cases c
def DW{α}(f:Nat->α)(p x q):upd f p x q=if q=p then x else f q:=rfl
def TI.app(Q:1<=m)(A:CZ S sz j K)(h:TI S Shun m t sz j K)(hp:p<=j)(V:sz<=sz')(r:∀op∈u,op.1=PH m p)(y:∀op∈u,∀x,tz op.4=N x->XB S p (K p) sz sz' x)(P:∀op∈u,op.4.low sz')(hrel:∀op∈u,op.4≠.mark (.release (stA S.1))):TI S Shun m (t++u) sz' j (upd K p ((K p).grow sz sz')):=by
 have fresh:∀{i:Nat}{a:Touch}{b:Nat},touchAt t i=N a->blk a.1=N b->b<sz:=by
  intro i a b o n;let⟨x,d,s⟩:=touch_of o;exact tK (h.7 x (dK d)) s n
 have G:∀q,q<=j->q≠p->∀l b,blk l=N b->∀op∈u,∀x,tz op.4=N x->x.1=l->((K q).2 b->False)/\((K q).1 b->x.2=pw->False):=by
  intro q f B l b n op c x d e;subst e;refine⟨λD=>?_,λz hw=>?_⟩
  .have z:=A.1 q f b D;let⟨h1,h2,J⟩:=A.2 q f b z;obtain⟨Y,w,_,_,s⟩|⟨i,_,w,_⟩|⟨⟨a,w,s⟩,_⟩:=y op c x d
   .rw[n]at w;cases w;obtain s|s:=s
    .cases hw:x.2 with
     |true=>rw[hw,Zb R]at s;exact A.3 p q hp f (YI B) b s z
     |false=>rw[hw]at s;exact A.3 q p f hp B b D (by simpa using s)
    .omega
   .rw[w]at n;simp only[blk,aI]at n;exact J n.symm
   .rw[w]at n;simp only[blk,aI]at n;omega
  .let⟨h1,h2,J⟩:=A.2 q f b z;obtain⟨Y,s,_,_,w⟩|⟨i,_,s,_⟩|⟨⟨a,s,w⟩,_⟩:=y op c x d
   .rw[n]at s;cases s;obtain w|w:=w
    .rw[hw,Zb R]at w;exact A.3 p q hp f (YI B) b w z
    .omega
   .rw[s]at n;simp only[blk,aI]at n;exact J n.symm
   .rw[s]at n;simp only[blk,aI]at n;omega
 have W:∀l b,blk l=N b->sz<=b->Perm (t++u) (PH m p) l:=by
  intro l b n z i a o e;let⟨x,d,w⟩:=touch_of o;obtain⟨_,s⟩|⟨_,B⟩:=Yb d
  .have:=fresh (i:=i) (a:=a) (b:=b) (by rw[touchAt_of s];exact w) (by rw[e];exact n);omega
  .have:=knows_own d;grind
 have I:∀(i:Nat) op,op∈u->∀x,tz op.4=N x->x.1=.cell ⟨S.2,i,X⟩->p=i+1:=by
  intro i op c x d e;obtain⟨D,n,_,_,s⟩|⟨B,w,n,_⟩|⟨⟨a,n,s⟩,_⟩:=y op c x d
  .rw[e]at n;simp only[blk,aI]at n;subst n;obtain s|s:=s
   .have z:(K p).1 S.2:=by
     cases hw:x.2 with
     |true=>rw[hw,Zb R]at s;exact A.1 p hp _ s
     |false=>grind
    exact Zl R (A.2 p hp _ z).2.2
   .have:=A.5;omega
  .rw[e]at n;have z:i=B:=by injection n with n;injection n
   subst z;cases p with
   |zero=>cases w
   |succ p=>simp only[who,aI]at w;omega
  .rw[e]at n;cases n;exact Zl s A.6
 refine⟨λq f=>?_,λi v=>(h.2 i v).app λop c x d e=>?_,λi v=>(h.3 i v).app λop c x d e=>?_,h.4.app λop c x d F=>?_,λi a o T=>?_,λsaid=>?_,
  λop c=>?_,h.8.app hrel,λg O=>?_,λi g E C hc=>?_⟩
 .rw[DW];split
  .rename_i e;subst e;refine⟨λl b w s=>?_,λl b w n=>?_⟩
   .obtain s|⟨s,_⟩:=s
    .exact((h.1 q f).1 l b w s).app λop c _ _ _=>r op c
    grind
   .obtain n|⟨n,_⟩:=n
    .exact((h.1 q f).2 l b w n).app λop c _ _ _ _=>r op c
    .exact PermW.of (W l b w n)
  .rename_i z
   exact⟨λl b n w=>((h.1 q f).1 l b n w).app λop c x d e=>sj ((G q f z l b n op c x d e).1 w),
    λl b n s=>((h.1 q f).2 l b n s).app λop c x d e hw=>sj ((G q f z l b n op c x d e).2 s hw)⟩
 .have:=I i op c x d e;subst this;exact r op c
 .grind
 .obtain⟨b,n,_,_,s⟩|⟨i,_,n,_⟩|⟨_,s,w⟩:=y op c x d
  .obtain⟨a,z,B⟩:=F;rw[z]at n;simp only[blk,aI]at n;rw[B]at n;subst n;obtain s|s:=s
   .have D:(K p).1 S.1:=by
     cases hw:x.2 with
     |true=>rw[hw,Zb R]at s;exact A.1 p hp _ s
     |false=>grind
    exact Zl R (A.2 p hp _ D).2.1
   .have:=A.4;omega
  .obtain⟨a,z,B⟩:=F;rw[z]at n;cases n;exact Zl B A.6
  .exact⟨s,λe=>by rw[r op c,w e];rfl⟩
 .let⟨x,d,w⟩:=touch_of o;obtain⟨v,z⟩|⟨_,n⟩:=Yb d
  .obtain k|k|⟨⟨k,s,e⟩,B⟩:=h.5 i a (by rw[touchAt_of z];exact w) T
   .exact rr (k.app u)
   .exact rz (rr k)
   .exact rz (rz ⟨⟨k,s,by rw[g?_old v];exact e⟩,B⟩)
  .cases p with
   |zero=>have:=knows_own d;rw[r x n]at this;exact rr this
   |succ p=>
    refine rz (rz ⟨⟨p,aA,by simp[Trace.g?,d,r x n,PH]⟩,λs=>?_⟩);obtain⟨_,_,_,e,_⟩|⟨_,_,_,e⟩|⟨e,_⟩:=y x n a w
    .rw[s]at e;cases e
    .rw[s]at e;cases e
    .exact e
 .refine noRace_append (h.6 said) r λi a o op c b D hc=>?_;obtain⟨k,s,_,_,n⟩|⟨w,z,s,_⟩|⟨s,n,B⟩:=y op c b D
  .obtain n|n:=n
   .cases hw:b.2 with
    |true=>rw[hw,Zb R]at n;exact(h.1 p hp).1 _ k s n i a o hc.1
    |false=>rw[hw]at n;exact(h.1 p hp).2 _ k s (by simpa using n) i a o hc.1 (hc.2.2.1.resolve_right (by simp[hw]))
   .have:=fresh (i:=i) (a:=a) (b:=k) o (by rw[hc.1];exact s);omega
  .have J:p=w+1:=by
    cases p with
    |zero=>cases z
    |succ p=>grind
   subst J;exact h.2 w aA i a o (oy hc.1 s)
  .exact h.4.known s n (λe=>by rw[B e];rfl) i a o hc
 .obtain n|n:=Array.mem_append.1 c
  .exact MemAct.low_mono V (h.7 op n)
  .exact P op n
 .have:=S7 (m:=m) (p:=p) (j:=j) Q hp;rw[Y3 t (g':=PH m p) aA u r];exact h.9 g O
 .let⟨op,w,B⟩:=aY.1 E;obtain⟨v,Y⟩|⟨_,D⟩:=Yb w
  .refine(h.10 i g (by rw[<-g?_old (u:=u) v];exact E) C ((counts_old v).1 hc)).imp (λ⟨q,n,s⟩=>?_) id
   have f:q<qd t:=by
    unfold Trace.g? at n;obtain⟨z,J,_⟩:=aY.1 n;exact qac J
   exact⟨q,by rw[g?_old f];exact n,hb_app u s⟩
  .have:=r op D;rw[B]at this;cases p with
   |zero=>exact Zl this C
   |succ p=>exact rz ⟨p,aA,this⟩
def TI.mute(h:TI S Shun m t sz j K){g}(F:g<m)(s:∀op∈u,op.1=g)(G:∀op∈u,tz op.4=X)(C:∀op∈u,op.4.low sz)(hrel:∀op∈u,op.4≠.mark (.release (stA S.1))):TI S Shun m (t++u) sz j K:=by
 have no:∀op∈u,∀x,tz op.4=N x->False:=λop d x c=>by grind
 refine⟨λq o=>⟨λl b n w=>((h.1 q o).1 l b n w).app λop d x c _=>sj (no op d x c),λl b n e=>((h.1 q o).2 l b n e).app λop d x c _ _=>sj (no op d x c)⟩,
  λi f=>(h.2 i f).app λop d x c _=>sj (no op d x c),λi f=>(h.3 i f).app λop d x c _=>sj (no op d x c),h.4.app λop d x c _=>sj (no op d x c),λi a A D=>?_,
  λsaid=>noRace_append (h.6 said) s λi a _ op d b n _=>sj (no op d b n),seen_app h.7 C,h.8.app hrel,λr B=>?_,λi r v E hc=>?_⟩
 .let⟨x,c,y⟩:=touch_of A;obtain⟨f,w⟩|⟨_,I⟩:=Yb c
  .obtain k|k|⟨⟨k,l,e⟩,z⟩:=h.5 i a (by rw[touchAt_of w];exact y) D
   .exact rr (k.app u)
   .exact rz (rr k)
   .exact rz (rz ⟨⟨k,l,by rw[g?_old f];exact e⟩,z⟩)
  grind
 .rw[Y3 t (g':=g) aA u s];exact h.9 r B
 .let⟨op,w,J⟩:=aY.1 v;obtain⟨f,I⟩|⟨_,O⟩:=Yb w
  .refine(h.10 i r (by rw[<-g?_old (u:=u) f];exact v) E ((counts_old f).1 hc)).imp (λ⟨q,e,l⟩=>?_) id
   have o:q<qd t:=by
    unfold Trace.g? at e;obtain⟨z,y,_⟩:=aY.1 e;exact qac y
   exact⟨q,by rw[g?_old o];exact e,hb_app u l⟩
  .obtain⟨x,c,_⟩:=hc;let⟨y,e,l⟩:=touch_of c
   grind
def TI.fork(h:TI S Shun m t sz j K){x y}(r:x.1=0/\x.4=.go (m+j))(o:y.1=m+j/\y.4=.start)(A:Deaf t 0=0){K0 w}(I:∀b,K0.1 b->(K 0).1 b)(P:∀b,K0.2 b->(K 0).2 b)(J:∀b,w.1 b->(K 0).1 b)(Q:∀b,w.2 b->(K 0).2 b):TI S Shun m (t++#[x,y]) sz (j+1) (upd (upd K 0 K0) (j+1) w):=by
 have s:=h.9 _ fI;have B:∀op∈#[x,y],op=x\/op=y:=by intro op d;exact ky
 have no:∀op∈#[x,y],∀b,tz op.4=N b->False:=by
  intro op d b c;obtain rfl|rfl:=B op d
  .rw[r.2]at c;cases c
  .rw[o.2]at c;cases c
 have old:∀{i:Nat}{a:Touch},touchAt (t++#[x,y]) i=N a->touchAt t i=N a:=by
  intro i a f;let⟨z,l,G⟩:=touch_of f;obtain⟨_,D⟩|⟨_,O⟩:=Yb l
  .rw[touchAt_of D];exact G
  .grind
 have v:=h.1 0 (bU _);refine⟨λq E=>?_,λi n=>?_,λi n=>(h.3 i aA).app λop d b c _=>sj (no op d b c),h.4.app λop d b c _=>sj (no op d b c),λi a f T=>?_,λsaid=>?_,?_,h.8.app λop d=>?_,λg Y=>?_,λi g C F hc=>?_⟩
 .rw[DW];split
  .rename_i e;subst e;refine⟨λl b c G i a f e=>?_,λl b c D i a f e hw=>?_⟩
   .exact fork_knows r o A s (v.1 l b c (Q b G) i a (old f) e)
   .exact fork_knows r o A s (v.2 l b c (J b D) i a (old f) e hw)
  .rw[DW];split
   .rename_i e;subst e;exact⟨λl b c G=>(v.1 l b c (P b G)).app λop d b c _=>sj (no op d b c),λl b c D=>(v.2 l b c (I b D)).app λop d b c _ _=>sj (no op d b c)⟩
   .have D:=h.1 q aA;exact⟨λl b c O=>(D.1 l b c O).app λop d b c _=>sj (no op d b c),λl b c G=>(D.2 l b c G).app λop d b c _ _=>sj (no op d b c)⟩
 .obtain l|G:=dH i j
  .exact(h.2 i l).app λop d b c _=>sj (no op d b c)
  .obtain rfl:i=j:=by omega
   exact λD a f e=>fork_knows r o A s (h.3 i fI D a (old f) e)
 .have n:i<qd t:=by
   obtain⟨z,l,_⟩:=touch_of (old f);exact qac l
  obtain k|k|⟨⟨k,G,e⟩,D⟩:=h.5 i a (old f) T
  .exact rr (k.app _)
  .exact rz (rr k)
  .exact rz (rz ⟨⟨k,aA,by rw[g?_old n];exact e⟩,D⟩)
 .have e:t++#[x,y]=(t++#[x])++#[y]:=by apply Array.ext';simp
  rw[e]
  exact noRace_append (g:=m+j) (noRace_append (g:=0) (h.6 said) (λop d=>by grind) (λi a _ op d b c _=>sj (no op (by grind) b c)))
   (λop d=>by grind) (λi a _ op d b c _=>sj (no op (by grind) b c))
 .refine seen_app h.7 λop d=>?_;obtain rfl|rfl:=B op d
  .rw[r.2];trivial
  .rw[o.2];trivial
 .grind
 .rw[Deaf_still t _ _ λop d=>?_]
  .exact h.9 g aA
  grind
 .let⟨op,O,D⟩:=aY.1 C;obtain⟨n,aa⟩|⟨_,V⟩:=Yb O
  .refine(h.10 i g (by rw[<-g?_old (u:=#[x,y]) n];exact C) F ((counts_old n).1 hc)).imp (λ⟨q,l,G⟩=>?_) λ⟨k,s,e⟩=>⟨k,aA,e⟩
   have E:q<qd t:=by
    unfold Trace.g? at l;obtain⟨z,W,_⟩:=aY.1 l;exact qac W
   exact⟨q,by rw[g?_old E];exact l,hb_app _ G⟩
  .obtain rfl|rfl:=B op V
   .omega
   .rw[o.1]at D;exact rz ⟨j,aA,D.symm⟩
def TI.past(h:TI S Shun m t sz j K)(s:Deaf t 0=0){q}(y:t.act? q=N (.mark (.acquire (stA S.1))))(A:t.g? q=N 0)(w:t.heard q)(b:∀k<j,∃r,RelBy (stA S.1) t (m+k) r/\r<q):Past (λl=>Shun l\/ShN S.1 l) sz t:=by
 have n:∀k<j,∀i,t.g? i=N (m+k)->t.counts i->HappensBefore t i q:=by
  intro k x i e hc;let⟨r,b,B⟩:=b k x;have l:HappensBefore t r q:=.single (rz ⟨.marked B (rz b.1) y (λk _ _=>h.8 k),b.3,w⟩);have F:=Nat.le_of_not_lt λc=>b.4 i c e hc;obtain c|E:=dH i r
  .exact .trans (.single (rr ⟨c,_,e,b.2⟩)) l
  .grind
 let⟨z,C,D⟩:=aY.1 A;refine⟨h.6,λi a d f=>?_,λi g v o hc=>?_,s,h.7⟩
 .obtain k|k|⟨⟨k,c,e⟩,B⟩:=h.5 i a d f
  .exact rr k
  .exact rz k
  .by_cases hc:t.counts i
   .exact rr ⟨q,z,C,D,rz (n k c i e hc)⟩
   .have x:=dO λl=>hc ⟨a,d,f,rr l⟩
    grind
 .obtain k|⟨k,c,rfl⟩:=h.10 i g v o hc
  .exact k
  grind
def TI.begin{B}(h:Past Shun B t)(z:∀g,m<=g->Deaf t g=0)(J:B<=S.1)(d:B<=S.2\/∀i,¬Shun (.cell ⟨S.2,i,X⟩))(I:B<=sz)(O:∀b,(K 0).1 b->∀l,blk l=N b->¬Shun l)(P:∀b,(K 0).2 b->(K 0).1 b):TI S Shun m t sz 0 K:=by
 have q:∀i a,touchAt t i=N a->a.1.isMemory=pw->¬Shun a.1->Knows t 0 i:=λi a c C G=>(h.2 i a c C).resolve_right λx=>G x.1
 have s:∀{l:Loc}{b:Nat},blk l=N b->l.isMemory=pw:=by
  intro l b n;cases l<;>first|rfl|cases n
 have SW:∀{i:Nat}{a:Touch}{b:Nat},touchAt t i=N a->blk a.1=N b->b<B:=by
  intro i a b c n;let⟨x,o,E⟩:=touch_of c;exact tK (h.5 x (dK o)) E n
 refine⟨λp T=>?_,λi f=>aA,λi _ r a c e=>?_,λi op x f o ⟨a,v,w⟩=>?_,λi a c D=>(h.2 i a c D).imp id λx=>rr ⟨rr x.1,x.2⟩,h.1,λop F=>MemAct.low_mono I (h.5 op F),λi f=>?_,λg Q=>z g aA,λi g A y hc=>rr (h.3 i g A y hc)⟩
 .obtain rfl:p=0:=by omega
  refine⟨λl b n hw i a c e=>q i a c (by rw[e];exact s n) (by grind),λl b n E i a c e _=>q i a c (by rw[e];exact s n) (by grind)⟩
 .obtain d|d:=d
  .have:=SW (i:=r) (a:=a) (b:=S.2) c (by rw[e];rfl);omega
  .exact q r a c (by rw[e];rfl) (by rw[e];exact d i)
 .have:=tK (h.5 op (dK f)) o (b:=S.1) (by rw[v];simp[blk,w]);omega
 .let⟨op,n,E⟩:=aY.1 f;have:=h.5 op (dK n);rw[E]at this;have:S.1<B:=this;omega
end
end
open Go.ConcR (KK wgBlock WgAt stA smA rd wr Payload DC0 Bk g_of_ofEvents again_blocked)
section
section
variable [ZF](P:th)(S:Who)
abbrev mA:Nat->Loc->Prop:=λ_ _=>False
abbrev Left:=Nat->Value->(Nat->Prop)->pn->Prop
def Left.kI(Q:Left):=∀i v O w w₁,(∀b,O b->w₁.1[b]? =w.1[b]?)->Q i v O w->Q i v O w₁
def oT(Q:Left)(i:Nat)(K:gL)(g:r9)(w:pn):=∃v,AtR0 P S.4 S.1 S.2 S.3 0 (i+1) v g w/\Q i v K.1 w
inductive WS(Q:Left)(i:Nat)(K:gL):Nat->Tr->Nat->r9->pn->Prop
 |work {T:Tr} {g:r9} {w:pn}:gy P pi S (N i) (oT P S Q i) T K g w->WS Q i K 7 T 0 g w
 |later {v:Value} {s m d:Nat} {g:r9} {w:pn}:WSit P S.4 S.1 S.2 S.3 mA mA 0 (i+1) v s m d g w->s<=6->Q i v K.1 w->Has S.2 i v w->WS Q i K s (Tr.chain m) d g w
section
variable (Fin AnchW:gL->r9->pn->Prop)
def KN(K:gL)(g:r9)(w:pn):=
 g.3=ux/\∃a,vi P pw g w=.go a w #[vm (.acquire (stA S.1))]/\∃T,gy P pw S X Fin T K a w
def L9(K:gL)(g:r9)(w:pn):=
 g.3=ux/\∃a,vi P pw g w=.go a w #[vm .enable]/\∃T,gy P pw S X (KN P S Fin) T K a w
def RL(K:gL)(g:r9)(w:pn):=
 g.3=ux/\(WgAt S.4 S.1 w 0 0->∃a,vi P pw g w=.go a w #[rd (stA S.1)]/\∃T,gy P pw S X (L9 P S Fin) T K a w)
def NA(K:gL)(g:r9)(w:pn):=
 g.3=ux/\g.5=X/\((∃st,WgAt S.4 S.1 w st 0)->vi P pw g w=.go { g with status:=.blocked } w #[])/\
  (WgAt S.4 S.1 w 0 1->∃a,vi P pw g w=.go a (o3 w (smA S.1) (.int .u32 0)) (semEvents (smA S.1))/\∃T,gy P pw S X (RL P S Fin) T K a (o3 w (smA S.1) (.int .u32 0)))
def BE(vs:Nat)(K:gL)(g:r9)(w:pn):=
 g.3=ux/\∀v:Nat,v<2147483648->WgAt S.4 S.1 w (v*KK) 0->
  (v=vs->∃a,vi P pw g w=.go a (o3 w (stA S.1) (.int .u64 (v*KK+1))) #[rd (stA S.1),wr (stA S.1)]/\∃T,gy P pw S X (NA P S Fin) T K a (o3 w (stA S.1) (.int .u64 (v*KK+1))))/\
  (v≠vs->∃a,vi P pw g w=.go a w #[rd (stA S.1)]/\∃T,gy P pw S X AnchW T K a w)
def oX(K:gL)(g:r9)(w:pn):=
 g.3=ux/\∀v:Nat,v<2147483648->WgAt S.4 S.1 w (v*KK) 0->∃a,vi P pw g w=.go a w #[rd (stA S.1)]/\
  (v=0->∃T,gy P pw S X (L9 P S Fin) T K a w)/\(v≠0->∃T,gy P pw S X (BE P S Fin AnchW v) T K a w)
def uH(K:gL)(g:r9)(w:pn):=
 g.3=ux/\∃a,vi P pw g w=.go a w #[vm .disable]/\∃T,gy P pw S X AnchW T K a w
variable (Q:Left)
def KY(i:Nat)(l:gL->r9->pn->Prop)(K:gL)(g:r9)(w:pn):=
 g.3=ux/\∃h e a c,vi P pw g w=.spawn h e w #[]/\e.3=ux/\(∀b,a.1 b->K.1 b)/\(∀b,a.2 b->K.2 b)/\(∀b,c.1 b->K.1 b)/\(∀b,c.2 b->K.2 b)/\
  (∀b,a.2 b->¬c.1 b)/\(∀b,c.2 b->¬a.1 b)/\(∀b,a.2 b->a.1 b)/\(∀b,c.2 b->c.1 b)/\
  (qap S.2 S.3 w->AI S.4 S.1 w->∃T,gy P pi S (N i) (oT P S Q i) T c e w)/\l a h w
def RQ(i:Nat)(b:gL->r9->pn->Prop)(K:gL)(g:r9)(w:pn):=
 g.3=ux/\∃a,vi P pw g w=.go a w #[vm .enable]/\∃T,gy P pw S X (KY P S Q i b) T K a w
def R5(i:Nat)(b:gL->r9->pn->Prop)(K:gL)(g:r9)(w:pn):=
 g.3=ux/\∀v:Nat,v<2147483647->WgAt S.4 S.1 w (v*KK) 0->
  ∃a,vi P pw g w=.go a (o3 w (stA S.1) (.int .u64 ((v+1)*KK))) #[rd (stA S.1),wr (stA S.1)]/\∃T,gy P pw S X (RQ P S Q i b) T K a (o3 w (stA S.1) (.int .u64 ((v+1)*KK)))
def D8(i:Nat)(b:gL->r9->pn->Prop)(K:gL)(g:r9)(w:pn):=
 g.3=ux/\∃a,vi P pw g w=.go a w #[vm .disable]/\∃T,gy P pw S X (R5 P S Q i b) T K a w
def mR:Nat->gL->r9->pn->Prop
 |0,K,g,w=>∃T,gy P pw S X (uH P S AnchW) T K g w
 |r+1,K,g,w=>∃T,gy P pw S X (D8 P S Q (S.3-(r+1)) (mR r)) T K g w
inductive CS:CTag->Nat->Nat×Tr->Nat->gL->r9->pn->Prop
 |skd {r:Nat} {T:Tr} {K:gL} {g:r9} {w:pn}:r<S.3->gy P pw S X (D8 P S Q (S.3-(r+1)) (mR P S AnchW Q r)) T K g w->CS (.sp r 5) (S.3-(r+1)) (0,T) 0 K g w
 |sa1 {r:Nat} {T:Tr} {K:gL} {g:r9} {w:pn}:r<S.3->gy P pw S X (R5 P S Q (S.3-(r+1)) (mR P S AnchW Q r)) T K g w->CS (.sp r 4) (S.3-(r+1)) (0,T) 1 K g w
 |ske {r:Nat} {T:Tr} {K:gL} {g:r9} {w:pn}:r<S.3->gy P pw S X (RQ P S Q (S.3-(r+1)) (mR P S AnchW Q r)) T K g w->CS (.sp r 3) (S.3-(r+1)) (0,T) 1 K g w
 |sgo {r:Nat} {T:Tr} {K:gL} {g:r9} {w:pn}:r<S.3->gy P pw S X (KY P S Q (S.3-(r+1)) (mR P S AnchW Q r)) T K g w->CS (.sp r 2) (S.3-(r+1)) (0,T) 0 K g w
 |kd {T:Tr} {K:gL} {g:r9} {w:pn}:gy P pw S X (uH P S AnchW) T K g w->CS .kd S.3 (0,T) 0 K g w
 |anch {T:Tr} {K:gL} {g:r9} {w:pn}:gy P pw S X AnchW T K g w->CS .anch S.3 (0,T) 1 K g w
 |w1 {T:Tr} {K:gL} {g:r9} {w:pn}:gy P pw S X (oX P S Fin AnchW) T K g w->CS .w1 S.3 (0,T) 1 K g w
 |w2 {vs:Nat} {T:Tr} {K:gL} {g:r9} {w:pn}:gy P pw S X (BE P S Fin AnchW vs) T K g w->CS (.w2 vs) S.3 (0,T) 1 K g w
 |w3 {T:Tr} {K:gL} {g:r9} {w:pn}:gy P pw S X (NA P S Fin) T K g w->CS .w3 S.3 (1,T) 1 K g w
 |blk {K:gL} {g:r9} {w:pn}:(∀w₁,En S X K w w₁->NA P S Fin K g w₁)->CS .blk S.3 (0,.leaf) 1 K { g with status:=.blocked } w
 |w4 {T:Tr} {K:gL} {g:r9} {w:pn}:gy P pw S X (RL P S Fin) T K g w->CS .w4 S.3 (0,T) 1 K g w
 |ke {T:Tr} {K:gL} {g:r9} {w:pn}:gy P pw S X (L9 P S Fin) T K g w->CS .ke S.3 (0,T) 1 K g w
 |acq {T:Tr} {K:gL} {g:r9} {w:pn}:gy P pw S X (KN P S Fin) T K g w->CS .acq S.3 (0,T) 0 K g w
 |ret {T:Tr} {K:gL} {g:r9} {w:pn}:gy P pw S X Fin T K g w->CS .ret S.3 (0,T) 0 K g w
end
end
section
variable [ZF]{P:th}{S:Who}{Q:Left}{i:Nat}{K:gL}{s d:Nat}{T:Tr}{g:r9}{w w₁:pn}
def En.rw(h:En S (N i) K w w₁):RW S.4 S.1 S.2 S.3 0 i w w₁:=⟨λb a=>Zl a aA,h.6,h.7,h.8 i R⟩
def WS.rely(b:Q.kI)(h:WS P S Q i K s T d g w)(a:En S (N i) K w w₁):WS P S Q i K s T d g w₁:=by
 cases h with
 |work h=>exact .work (h.rely a)
 |later h hs hq hh=>exact .later (h.rely a.rw) hs (b _ _ _ _ _ a.5 hq) (oy (a.8 i R) hh)
def WS.status(h:WS P S Q i K s T d g w):g.3=ux\/g.3=.finished:=by
 cases h with
 |work h=>exact rr (h.running λ_ _ _ ⟨_,x,_⟩=>x.1)
 |later h _ _ _=>exact h.status
def WS.woken(h:WS P S Q i K s T d g w)(a b w'):Go.Conc.woken P a b w' g=g:=by
 unfold Go.Conc.woken;split
 .exact again_running _ h.status
 .rfl
def WS.quits(h:WS P S Q i K s T d g w)(a:s=1):∃m,T=Tr.chain m/\QuitsD P m d g/\∃v,Q i v K.1 w/\Has S.2 i v w:=by
 cases h with
 |work _=>cases a
 |later h _ hq hh=>exact⟨_,R,h.quits a,_,hq,hh⟩
def WS.running_of(h:WS P S Q i K s T d g w)(a:2<=s):g.3=ux:=by
 cases h with
 |work h=>exact h.running λ_ _ _ ⟨_,x,_⟩=>x.1
 |later h _ _ _=>exact h.running_of aA
variable {Fin AnchW:gL->r9->pn->Prop}{tag:CTag}{j:Nat}{f:Nat×Tr}
def CS.rely(h:CS P S Fin AnchW Q tag j f d K g w)(a:En S X K w w₁):CS P S Fin AnchW Q tag j f d K g w₁:=by
 cases h with
 |skd hn h=>exact .skd hn (h.rely a)
 |sa1 hn h=>exact .sa1 hn (h.rely a)
 |ske hn h=>exact .ske hn (h.rely a)
 |sgo hn h=>exact .sgo hn (h.rely a)
 |kd h=>exact .kd (h.rely a)
 |anch h=>exact .anch (h.rely a)
 |w1 h=>exact .w1 (h.rely a)
 |w2 h=>exact .w2 (h.rely a)
 |w3 h=>exact .w3 (h.rely a)
 |blk h=>exact .blk (λc b=>h c (a.trans b))
 |w4 h=>exact .w4 (h.rely a)
 |ke h=>exact .ke (h.rely a)
 |acq h=>exact .acq (h.rely a)
 |ret h=>exact .ret (h.rely a)
def CS.status(hF:∀K g w,Fin K g w->g.3=ux)(a:∀K g w,AnchW K g w->g.3=ux)(h:CS P S Fin AnchW Q tag j f d K g w):(g.3=ux/\tag≠.blk)\/(g.3=.blocked/\tag=.blk):=by
 cases h with
 |skd _ h=>exact rr ⟨h.running λ_ _ _ x=>x.1,aC⟩
 |sa1 _ h=>exact rr ⟨h.running λ_ _ _ x=>x.1,aC⟩
 |ske _ h=>exact rr ⟨h.running λ_ _ _ x=>x.1,aC⟩
 |sgo _ h=>exact rr ⟨h.running λ_ _ _ x=>x.1,aC⟩
 |kd h=>exact rr ⟨h.running λ_ _ _ x=>x.1,aC⟩
 |anch h=>exact rr ⟨h.running a,aC⟩
 |w1 h=>exact rr ⟨h.running λ_ _ _ x=>x.1,aC⟩
 |w2 h=>exact rr ⟨h.running λ_ _ _ x=>x.1,aC⟩
 |w3 h=>exact rr ⟨h.running λ_ _ _ x=>x.1,aC⟩
 |blk h=>simp
 |w4 h=>exact rr ⟨h.running λ_ _ _ x=>x.1,aC⟩
 |ke h=>exact rr ⟨h.running λ_ _ _ x=>x.1,aC⟩
 |acq h=>exact rr ⟨h.running λ_ _ _ x=>x.1,aC⟩
 |ret h=>exact rr ⟨h.running hF,aC⟩
def CS.wokenBy(hF:∀K g w,Fin K g w->g.3=ux)(l:∀K g w,AnchW K g w->g.3=ux)(h:CS P S Fin AnchW Q tag j f d K g w)(n:En S X K w w₁)(x x'):∃a e,CS P S Fin AnchW Q a j e d K (woken P x x' w₁ g) w₁/\(a=tag\/(tag=.blk/\a=.w3))/\(mayWake P x=pw->x'.3=ux->a≠.blk):=by
 have b:=h.rely n;unfold Go.Conc.woken;split
 .obtain⟨o,m⟩|⟨_,rfl⟩:=b.status hF l
  .exact⟨tag,f,by rw[again_running _ (rr o)];exact b,rr R,λ_ _=>m⟩
  .cases b with
   |blk hb=>
    have c:=hb w₁ (.refl ..);exact⟨_,(1,.leaf),by rw[again_blocked c.1 c.2.1];exact .w3 (T:=.leaf) hb,rz ⟨R,R⟩,λ_ _=>aC⟩
 grind
def CS.bound(h:CS P S Fin AnchW Q tag j f d K g w):j+pend tag<=S.3:=by
 cases h<;>simp only[pend]<;>(try simp)<;>omega
end
end
open Go.ConcR (KK wgBlock WgAt stA smA rd wr Payload DC0 Bk g_of_ofEvents again_blocked loc_of_ofEvent)
section
variable {g g' a':r9}{T:Tr}
section
variable [ZF]
omit [Payload] in
def OZ{p q}(h:who p=who q):p=q:=by
 cases p<;>cases q<;>simp_all[who]
section
variable {S:Who}{w w':pn}{es:Array Zx}{j p q sz sz':Nat}{K:Nat->gL}
omit [Payload] in
def CZ.W7(A:CZ S sz j K)(hp:p<=j):¬(K p).2 S.1:=λh=>(A.2 p hp _ (A.1 p hp _ h)).2.1 R
def Gu.wg(A:CZ S ↑w j K)(hp:p<=j)(h:Gu S (who p) (K p) w w' es):w'.1[S.1]? =w.1[S.1]?:=h.5 _ A.4 (A.W7 hp) λe=>Zl e.symm A.6
def Gu.en(A:CZ S ↑w j K)(hp:p<=j)(d:q<=j)(c:q≠p)(h:Gu S (who p) (K p) w w' es):En S (who q) (K q) w w':=by refine⟨h.1,h.2,h.3,h.4,λb a=>?_,λ⟨st,r,o⟩=>⟨st,r,o.of_block (h.wg A hp)⟩,h.6,λi n=>h.7 i λe=>c (OZ (oy n e)),λb a=>h.5 b (by have:=A.8;have:=A.4;omega) (λhw=>by have:=A.7 p hp b hw;omega) λe=>by have:=A.9;omega⟩;let⟨f,s,l⟩:=A.2 q d b a;exact h.5 b f (λhw=>A.3 p q hp d (YI c) b hw a) λe=>Zl e l
def RR(A:CZ S ↑w j K)(l:q<=j)(h:Aside S.1 w w')(f:AI S.4 S.1 w'):En S (who q) (K q) w w':=by refine⟨h.1,h.2,h.3,fA h.4.symm,λb a=>h.5 b (A.2 q l b a).2.1,λ_=>f,λ⟨c,d,e⟩=>⟨c,oy (h.5 _ A.6) d,e⟩,λi _=>cell_of_block (h.5 _ A.6) i,λb a=>h.5 b (by have:=A.8;omega)⟩
omit [Payload] in
def CZ.grow(A:CZ S sz j K)(o:sz<=sz')(hp:p<=j):CZ S sz' j (upd K p ((K p).grow sz sz')):=by
 have v:=A.4;have s:=A.5;refine⟨λq f b c=>?_,λq f b c=>?_,λa b l c n x i d=>?_,aL v o,aL s o,A.6,λq f b c=>?_,A.8,A.9⟩
 .rw[DW]at c⊢;split
  .rename_i e;subst e;rw[Zb R]at c;exact c.imp (A.1 q f b) id
  .rename_i e;rw[Za e]at c;exact A.1 q f b c
 .rw[DW]at c;split at c
  .rename_i e;subst e;obtain c|⟨h,r⟩:=c
   .let⟨h,r⟩:=A.2 q f b c;omega
   omega
  .let⟨h,r⟩:=A.2 q f b c;omega
 .rw[DW]at i d;split at i
  .rename_i e;subst e;rw[Za (YI n)]at d;obtain i|⟨h,_⟩:=i
   .exact A.3 a b l c n x i d
   .have:=(A.2 b c x d).1;omega
  .split at d
   .rename_i e;subst e;obtain d|⟨h,_⟩:=d
    .exact A.3 a b l c n x i d
    .have:=(A.2 a l x (A.1 a l x i)).1;omega
   .exact A.3 a b l c n x i d
 .rw[DW]at c;split at c
  .rename_i e;subst e;exact c.elim (A.7 q f b) λh=>by have:=A.8;omega
  .exact A.7 q f b c
omit [Payload] in
def rO{α}(f:Nat->α)(i):upd f i (f i)=f:=by funext a;rw[DW];split<;>simp_all
end
section
variable {S:Who}{m:Nat}{K:Nat->gL}{sz sz' j p:Nat}{fn:FuncId}{pos:String}{es:Array Zx}
omit [Payload] in
def DZ(r wr):vj ⟨.obj r,wr,pi⟩=.access ⟨.obj r,wr,pi⟩:=by cases wr<;>rfl
omit [Payload] in
def qH(a wr):vj ⟨.cell a,wr,pi⟩=.access ⟨.cell a,wr,pi⟩:=by cases wr<;>rfl
omit [Payload] in
def yc(A:CZ S sz j K)(hp:p<=j)(s:sz<=sz'){e}(h:EvM S (who p) (K p) sz sz' e):(∀x,tz (vj e)=N x->XB S p (K p) sz sz' x)/\(vj e).low sz'/\vj e≠.mark (.release (stA S.1))/\e.1≠.mark .disable/\e.1≠.mark .enable:=by
 have o:=A.4;have n:=A.5;obtain(⟨a,wr,rfl,b,c⟩|⟨r,wr,rfl,b,c⟩|⟨wr,l,rfl⟩|⟨f,wr,l,rfl⟩)|⟨i,wr,b,rfl⟩|⟨b,rfl|rfl⟩:=h
 .rw[qH];refine⟨λx d=>?_,c,aC,aC,aC⟩;simp only[tz,aI]at d;subst d;exact rr ⟨_,R,c,R,b⟩
 .rw[DZ];refine⟨λx d=>?_,c,aC,aC,aC⟩;simp only[tz,aI]at d;subst d;exact rr ⟨r,R,c,R,b⟩
 .exact lw
 .exact lw
 .rw[qH];refine⟨λx d=>?_,(show S.2<sz' by omega),aC,aC,aC⟩;simp only[tz,aI]at d;subst d;exact rz (rr ⟨i,b,R,R⟩)
 .refine⟨λx d=>?_,(show S.1<sz' by omega),by simp[vm,vj],j9,j9⟩;simp only[vm,vj,tz,aI]at d;subst d;exact rz (rz ⟨⟨_,R,R⟩,aC,λ_=>by cases p with|zero=>rfl|succ p=>cases b⟩)
 .refine⟨λx d=>?_,(show S.1<sz' by omega),by simp[vm,vj],j9,j9⟩;simp only[vm,vj,tz,aI]at d;subst d;exact rz (rz ⟨⟨_,R,R⟩,aC,λ_=>by cases p with|zero=>rfl|succ p=>cases b⟩)
omit [Payload] in
def TI.plain{Shun t}(f:1<=m)(A:CZ S sz j K)(h:TI S Shun m t sz j K)(hp:p<=j)(b:sz<=sz')(c:∀e∈es,EvM S (who p) (K p) sz sz' e):TI S Shun m (t++vp (PH m p) fn pos es) sz' j (upd K p ((K p).grow sz sz')):=by
 refine h.app f A hp b xj (λop a x i=>?_) (λop a=>?_) (λop a=>?_)
 all_goals
  obtain⟨e,d,rfl⟩:=qaA a;have:=yc A hp b (c e d)
 .exact this.1 x i
 .exact this.2.1
 .exact this.2.2.1
def Pl(Wg:Nat)(e:Zx):=Bk Wg e\/e=vm (.releaseMerge (stA Wg))\/e=vm (.acquire (stA Wg))
omit [Payload] in
def TI.book{Shun t}(r:1<=m)(A:CZ S sz j K)(h:TI S Shun m t sz j K)(hp:p<=j)(f:∀e∈es,Pl S.1 e):TI S Shun m (t++vp (PH m p) fn pos es) sz j K:=by
 have n:=A.4;have o:upd K p ((K p).grow sz sz)=K:=by rw[gX,rO]
 rw[<-o];refine h.app r A hp fI xj (λop l x b=>?_) (λop l=>?_) (λop l s=>?_)
 all_goals
  obtain⟨e,i,rfl⟩:=qaA l
 .obtain(c|c|⟨a,wr,rfl,d⟩)|rfl|rfl:=f e i
  .simp only[YS c]at b;cases b
  .simp only[YS c]at b;cases b
  .simp only[Go.ConcR.ofEvent_cell,tz,aI]at b;subst b;exact rz (rz ⟨⟨a,R,d⟩,aC,aC⟩)
  .simp[vm,vj,tz]at b
  .simp[vm,vj,tz]at b
 .obtain(c|c|⟨a,wr,rfl,d⟩)|rfl|rfl:=f e i
  .show(vj e).low sz;rw[YS c];trivial
  .show(vj e).low sz;rw[YS c];trivial
  .simp only[Go.ConcR.ofEvent_cell];show a.1<sz;omega
  .exact n
  .exact n
 .have c:=loc_of_ofEvent s;obtain(d|d|⟨a,wr,rfl,v⟩)|rfl|rfl:=f e i
  .rw[d]at c;cases c
  .rw[d]at c;cases c
  .cases c
  .cases c
  .cases c
end
section
variable (P:th)(S:Who)(Q:Left)(Shun:Loc->Prop)(m:Nat)
structure Co(j:Nat)(gs:Array r9)(w:pn)(t:Trace)(D:Nat->WD)(F:Nat->Tr)(d0:Nat)(K:Nat->gL)(q:Nat->Nat):Prop where
 size:qd gs=m+j
 wk:∀i<j,∃g,gs[m+i]? =N g/\WS P S Q i (K (i+1)) (D i).1 (F i) (D i).3 g w
 old:∀i,0<i->i<m->∃g,gs[i]? =N g/\QuitsD P (q i) (Deaf t i) g
 ti:TI S Shun m t ↑w j K
 apt:CZ S ↑w j K
 deaf0:Deaf t 0=d0
 deafW:∀i<j,Deaf t (m+i)=(D i).3
 rel:∀i<j,(D i).1<=6->∃r,RelBy (stA S.1) t (m+i) r
 pay:qap S.2 S.3 w
def Acq(j:Nat)(t:Trace):=
 ∃q,t.act? q=N (.mark (.acquire (stA S.1)))/\t.g? q=N 0/\t.heard q/\∀i<j,∃r,RelBy (stA S.1) t (m+i) r/\r<q
end
section
variable {P:th}{S:Who}{Q:Left}{Shun:Loc->Prop}{m j:Nat}{gs:Array r9}{w w':pn}{t u:Trace}{D:Nat->WD}{F:Nat->Tr}{d0:Nat}{K:Nat->gL}{q:Nat->Nat}
omit [Payload] in
def Acq.app(h:Acq S m j t)(l:∀i r,i<j->RelBy (stA S.1) t (m+i) r->RelBy (stA S.1) (t++u) (m+i) r):Acq S m j (t++u):=by obtain⟨q,b,d,e,f⟩:=h;have a:=lt_of_act? b;exact⟨q,by rw[act?_old a];exact b,by rw[g?_old a];exact d,(heard_old a).2 e,λi c=>let ⟨r,hr,hrq⟩:=f i c;⟨r,l i r c hr,hrq⟩⟩
def Co.at(a:Q.kI)(h:Co P S Q Shun m j gs w t D F d0 K q)(d):Co P S Q Shun m j gs (w.at d) t D F d0 K q:=
 ⟨h.1,λi b=>let ⟨g,hg,hs⟩:=h.2 i b;⟨g,hg,hs.rely a (.at ..)⟩,h.3,h.4,h.5,h.6,h.7,h.8,h.9⟩
def Co.stepW(E:1<=m)(f:Q.kI)(h:Co P S Q Shun m j gs w t D F d0 K q){i}(C:i<j){fn pos es s' dd' T' Ki}(o:∀p,p<=j->p≠i+1->En S (who p) (K p) w w')(A:TI S Shun m (t++vp (m+i) fn pos es) w'.1.size j (upd K (i+1) Ki))(l:CZ S w'.1.size j (upd K (i+1) Ki))(z:WS P S Q i Ki s' T' dd' g' w')(n:yy (D i).3 es=dd')(hrel:s'<=6->∃r,RelBy (stA S.1) (t++vp (m+i) fn pos es) (m+i) r)(y:qap S.2 S.3 w'):Co P S Q Shun m j (qb (gs.map (woken P g g' w')) (m+i) g') w' (t++vp (m+i) fn pos es) (upd D i ⟨s',0,dd'⟩) (upd F i T') d0 (upd K (i+1) Ki) q:=by
 refine⟨by simp[h.1],λa b=>?_,λk s v=>?_,A,l,by rw[Y3 t aA _ xj,h.6],λa b=>?_,λa b c=>?_,y⟩
 .by_cases e:a=i
  .subst e;exact⟨g',get_map_set_same _ _ _ (by rw[h.1];omega),by rw[xo,xo,xo];exact z⟩
  .let⟨x,B,d⟩:=h.2 a b;refine⟨x,by rw[get_map_set _ _ _ _ aA,B,bJ,d.woken],?_⟩;rw[YD D _ e,YD F _ e,YD K _ aA];exact d.rely f (o (a+1) aA aA)
 .let⟨x,B,d⟩:=h.3 k s v;refine⟨x,by rw[get_map_set _ _ _ _ aA,B,bJ,woken_quitsD d],?_⟩;rw[Y3 t aA _ xj];exact d
 .by_cases e:a=i
  .subst e;rw[Deaf_own,h.7 a b,xo];exact n
  .rw[Y3 t aA _ xj,h.7 a b,YD D _ e]
 .by_cases e:a=i
  .subst e;rw[xo]at c;exact hrel c
  .rw[YD D _ e]at c;let⟨r,d⟩:=h.8 a b c;exact⟨r,zp d xj aA⟩
def Co.step0(y:1<=m)(d:Q.kI)(h:Co P S Q Shun m j gs w t D F d0 K q){a fn pos es K0}(f:∀p,p<=j->p≠0->En S (who p) (K p) w w')(v:TI S Shun m (t++vp 0 fn pos es) w'.1.size j (upd K 0 K0))(e:CZ S w'.1.size j (upd K 0 K0))(o:qap S.2 S.3 w'):Co P S Q Shun m j (qb (gs.map (woken P a a' w')) 0 a') w' (t++vp 0 fn pos es) D F (yy d0 es) (upd K 0 K0) q:=by
 refine⟨by simp[h.1],λi b=>?_,λk l n=>?_,v,e,by rw[Deaf_own,h.6],λi b=>by rw[Y3 t aA _ xj,h.7 i b],λi b s=>?_,o⟩
 .let⟨x,r,c⟩:=h.2 i b;exact⟨x,by rw[get_map_set _ _ _ _ aA,r,bJ,c.woken],by rw[YD K _ aA];exact c.rely d (f (i+1) aA aA)⟩
 .let⟨x,r,c⟩:=h.3 k l n;refine⟨x,by rw[get_map_set _ _ _ _ aA,r,bJ,woken_quitsD c],?_⟩;rw[Y3 t aA _ xj];exact c
 .let⟨r,c⟩:=h.8 i b s;exact⟨r,zp c xj aA⟩
def Co.UN(h:Co P S Q Shun m j gs w t D F d0 K q){k}(C:0<k)(y:k<m){fn pos es n}(l:∀e∈es,Event.mute e=pw)(A:QuitsD P n (yy (Deaf t k) es) g'):Co P S Q Shun m j (qb (gs.map (woken P g g' w)) k g') w (t++vp k fn pos es) D F d0 K (upd q k n):=by
 refine⟨by simp[h.1],λi b=>?_,λs v z=>?_,?_,h.5,by rw[Y3 t aA _ xj,h.6],λi b=>by rw[Y3 t aA _ xj,h.7 i b],λi b B=>?_,h.9⟩
 .let⟨x,c,a⟩:=h.2 i b;exact⟨x,by rw[get_map_set _ _ _ _ aA,c,bJ,a.woken],a⟩
 .by_cases e:s=k
  .subst e;exact⟨g',get_map_set_same _ _ _ (by rw[h.1];omega),by rw[xo,Deaf_own];exact A⟩
  .let⟨x,c,a⟩:=h.3 s v z;refine⟨x,by rw[get_map_set _ _ _ _ aA,c,bJ,woken_quitsD a],?_⟩;rw[Y3 t aA _ xj,YD q _ e];exact a
 .refine h.4.mute y xj (λop o=>?_) (λop o=>?_) (λop o r=>?_)
  all_goals obtain⟨e,f,rfl⟩:=qaA o
  .exact touch_mute (l e f)
  .exact low_mute (l e f) _
  .have c:=loc_of_ofEvent r;have:=l e f;obtain d|d|⟨a,wr,rfl,_⟩:=Go.ConcR.bk_of_mute (Wg:=0) this
   .rw[d]at c;cases c
   .rw[d]at c;cases c
   .cases c
 .let⟨r,a⟩:=h.8 i b B;exact⟨r,zp a xj aA⟩
def Co.spawn(hm:1<=m)(h:Co P S Q Shun m j gs w t D F 0 K q){z x y K0 d}(hx:x.1=0/\x.4=.go (m+j))(hy:y.1=m+j/\y.4=.start)(B:∀b,K0.1 b->(K 0).1 b)(E:∀b,K0.2 b->(K 0).2 b)(C:∀b,d.1 b->(K 0).1 b)(G:∀b,d.2 b->(K 0).2 b)(V:∀b,K0.2 b->¬d.1 b)(d2:∀b,d.2 b->¬K0.1 b)(w0:∀b,K0.2 b->K0.1 b)(wc:∀b,d.2 b->d.1 b)(hc:gy P pi S (N j) (oT P S Q j) T d z w):Co P S Q Shun m (j+1) ((qb gs 0 a').push z) w (t++#[x,y]) (upd D j ⟨7,0,0⟩) (upd F j T) 0 (upd (upd K 0 K0) (j+1) d) q:=by
 have A:=h.5;have ab:∀op∈#[x,y],op=x\/op=y:=by intro op o;simpa using o
 have J:∀op∈#[x,y],op.4≠.mark .disable/\op.4≠.mark .enable:=by
  intro op o;obtain rfl|rfl:=ab op o
  .grind
  .grind
 have old:∀p,p<=j->p≠0->upd (upd K 0 K0) (j+1) d p=K p:=λp s Y=>by rw[YD _ _ aA,YD _ _ Y]
 have l:upd (upd K 0 K0) (j+1) d 0=K0:=by rw[YD _ _ aA,xo]
 refine⟨by simp[h.1];omega,λi O=>?_,λk hk aa=>?_,h.4.fork hx hy h.6 B E C G,⟨λp s b a=>?_,λp s b a=>?_,λp f s ad I b a c=>?_,A.4,A.5,A.6,λp s b a=>?lo,A.8,A.9⟩,by rw[Deaf_still t 0 _ J,h.6],λi O=>?_,λi O v=>?_,h.9⟩
 case lo=>
  by_cases e:p=j+1
  .subst e;rw[xo]at a;exact A.7 0 aA b (G b a)
  .by_cases n:p=0
   .subst n;rw[l]at a;exact A.7 0 aA b (E b a)
   .rw[old p aA n]at a;exact A.7 p aA b a
 .obtain n|ac:=dH i j
  .let⟨g,W,r⟩:=h.2 i n;refine⟨g,?_,by rw[YD D _ aA,YD F _ aA,old _ aA aA];exact r⟩
   grind
  .obtain rfl:i=j:=by omega
   refine⟨z,?_,by rw[xo,xo,xo];exact .work hc⟩;rw[show m+i=qd (qb gs 0 a') by simp[h.1],Array.getElem?_push_size]
 .let⟨g,r,n⟩:=h.3 k hk aa;refine⟨g,?_,by rw[Deaf_still t _ _ J];exact n⟩
  grind
 .by_cases e:p=j+1
  .subst e;rw[xo]at a⊢;exact wc b a
  .by_cases n:p=0
   .grind
   .rw[old p aA n]at a⊢;exact A.1 p aA b a
 .by_cases e:p=j+1
  .subst e;rw[xo]at a;exact A.2 0 aA b (C b a)
  .by_cases n:p=0
   .subst n;rw[l]at a;exact A.2 0 aA b (B b a)
   .rw[old p aA n]at a;exact A.2 p aA b a
 .by_cases e:p=j+1
  .subst e;rw[xo]at a;by_cases n:f=0
   .grind
   .rw[old f aA n]at c;exact A.3 0 f aA aA (YI n) b (G b a) c
  .by_cases n:p=0
   .subst n;rw[l]at a;by_cases r:f=j+1
    .subst r;rw[xo]at c;exact V b a c
    .rw[old f aA (YI I)]at c;exact A.3 0 f aA aA I b (E b a) c
   .rw[old p aA n]at a;by_cases W:f=j+1
    .subst W;rw[xo]at c;exact A.3 p 0 aA aA n b a (C b c)
    .by_cases r:f=0
     .subst r;rw[l]at c;exact A.3 p 0 aA aA n b a (B b c)
     .rw[old f aA r]at c;exact A.3 p f aA aA I b a c
 .rw[Deaf_still t _ _ J];obtain n|r:=dH i j
  .rw[h.7 i n,YD D _ aA]
  .obtain rfl:i=j:=by omega
   rw[xo];exact h.4.9 _ fI
 .obtain n|ac:=dH i j
  .rw[YD D _ aA]at v;let⟨r,W⟩:=h.8 i n v;refine⟨r,W.appNot λop o=>?_⟩
   grind
  .obtain rfl:i=j:=by omega
   rw[xo]at v;simp at v
end
end
end
open Go.ConcR (KK wgBlock WgAt stA smA rd wr Payload DC0 Bk g_of_ofEvents again_blocked loc_of_ofEvent bk_of_mute ofEvent_loc_mark)
section
variable {g g':r9}{es:Array Zx}
section
variable [ZF](P:th)(S:Who)(Q:Left)(Shun:Loc->Prop)(m:Nat)(Fin AnchW:gL->r9->pn->Prop)
def Inv(μ:Mu)(h:Machine)(t:Trace):=
 ∃(c:Array r9)(w:pn)(i:Option (Nat×Nat))(j:Nat)(D:Nat->WD)(F:Nat->Tr)(b:CTag)(e:Nat×Tr)(d:Nat)(K:Nat->gL)(a:r9)(st f:Int)(q:Nat->Nat),
  h=crowd c w i/\c[0]? =N a/\CS P S Fin AnchW Q b j e d (K 0) a w/\Co P S Q Shun m j c w t D F d K q/\WgAt S.4 S.1 w st f/\AS j D b st f/\(b=.ret->Acq S m j t)/\
   μ=((sumTo m q,phi S.3 (Vc j D) b+Ssum j D),(F,e))
def Down(μ:Mu)(c:Machine)(t:Trace)(i:Nat):=∃a ops b,runT P c i=(.next a,ops)/\mC S.3 b μ/\Inv P S Q Shun m Fin AnchW b a (t++ops)
end
section
variable [ZF]{P:th}{S:Who}{Q:Left}{Shun:Loc->Prop}{m:Nat}{Fin AnchW:gL->r9->pn->Prop}
 {gs:Array r9} {w w':pn} {sl:Option (Nat×Nat)} {j:Nat} {D:Nat->WD} {F:Nat->Tr} {tag:CTag} {f0:Nat×Tr} {d0:Nat} {K:Nat->gL} {a:r9} {t:Trace} {st sm:Int} {q:Nat->Nat}
def wY(G:1<=m)(v:Q.kI)(hF:∀K g w,Fin K g w->g.3=ux)(u:∀K g w,AnchW K g w->g.3=ux)(ha:gs[0]? =N a)(l:CS P S Fin AnchW Q tag j f0 d0 (K 0) a w)(y:Co P S Q Shun m j gs w t D F d0 K q){i:Nat}(c:i<j){s' dd':Nat}{T':Tr}{Ki:gL}{e d:Int}(B:gs[m+i]? =N g)(C:vi P pi g w=.go g' w' es)(n:∀p,p<=j->p≠i+1->En S (who p) (K p) w w')(W:TI S Shun m (t++vp (m+i) g.1.1 (yl g.1) es) ↑w' j (upd K (i+1) Ki))(x:CZ S ↑w' j (upd K (i+1) Ki))(V:WS P S Q i Ki s' T' dd' g' w')(A:yy (D i).3 es=dd')(hrel:s'<=6->∃r,RelBy (stA S.1) (t++vp (m+i) g.1.1 (yl g.1) es) (m+i) r)(O:qap S.2 S.3 w')(Y:WgAt S.4 S.1 w' e d)(J:∀b,(b=tag\/(tag=.blk/\b=.w3))->(mayWake P g=pw->g'.3=ux->b≠.blk)->AS j (upd D i ⟨s',0,dd'⟩) b e d)(ab:tag=.ret->Acq S m j (t++vp (m+i) g.1.1 (yl g.1) es))(E:(s'<(D i).1/\cnt ⟨s',0,dd'⟩<=cnt (D i))\/(s'=(D i).1/\Tr.Lt T' (F i))):Down P S Q Shun m Fin AnchW ((sumTo m q,phi S.3 (Vc j D) tag+Ssum j D),(F,f0)) (crowd gs w sl) t (m+i):=by
 let⟨b,s,z,o,aa⟩:=l.wokenBy hF u (n 0 aA aA) g g';have I:(m+i == 0)=pi:=aD
 have T:=runT_crowd_go (P:=P) (sl:=sl) (i:=m+i) B (by rw[I];exact C);have e1:=sumTo_upd D (⟨s',0,dd'⟩) cnt c;have e2:=sumTo_upd D (⟨s',0,dd'⟩) WD.stage c;have hb:=l.bound
 refine⟨_,_,_,T,?_,
  _,w',sl,j,_,_,b,s,d0,_,woken P g g' w' a,e,d,q,R,by grind,by rw[YD K _ aA];exact z,y.stepW G v c n W x V A hrel O,Y,J b o aa,?_,R⟩
 .rw[phi_retag S.3 _ o];simp only[Vc,Ssum]at *;obtain⟨f,h⟩|⟨f,h⟩:=E
  .refine mC.stage ?_;have:=phi_mono S.3 (v':=sumTo j λa=>cnt (upd D i ⟨s',0,dd'⟩ a)) (v:=sumTo j λa=>cnt (D a)) aA tag;omega
  .have q:cnt (⟨s',0,dd'⟩:WD)=cnt (D i):=by simp only[cnt,f]
   have ev:(sumTo j λa=>cnt (upd D i ⟨s',0,dd'⟩ a))=sumTo j λa=>cnt (D a):=aA
   have p:(sumTo j λa=>(upd D i ⟨s',0,dd'⟩ a).1)=sumTo j λa=>(D a).1:=aA
   rw[ev,p];exact mC.way ⟨i,aA,by rw[xo];exact h,λk j=>YD F _ j⟩
 .grind
omit [Payload] in
def TF{Wg}(h:∀e∈es,Bk Wg e):∀e∈es,Pl Wg e:=λe a=>rr (h e a)
def Tu(V:1<=m)(hQ:Q.kI)(hF:∀K g w,Fin K g w->g.3=ux)(hA:∀K g w,AnchW K g w->g.3=ux)(hn:S.3<2147483648)(l:gs[0]? =N a)(ad:CS P S Fin AnchW Q tag j f0 d0 (K 0) a w)(u:Co P S Q Shun m j gs w t D F d0 K q)(d:WgAt S.4 S.1 w st sm)(E:AS j D tag st sm)(av:tag=.ret->Acq S m j t){i:Nat}(c:i<j)(hg:gs[m+i]? =N g)(aq:g.3=ux):Down P S Q Shun m Fin AnchW ((sumTo m q,phi S.3 (Vc j D) tag+Ssum j D),(F,f0)) (crowd gs w sl) t (m+i):=by
 let⟨au,a6,hs⟩:=u.2 i c;obtain rfl:g=au:=by grind
 have A:=u.5;have J:i+1<=j:=c;generalize B:(D i).1=s at hs;generalize ap:F i=T at hs;generalize ae:(D i).3=dd at hs;have hb:=ad.bound;have a5:=Vc_le j D;have ai:Deaf t (m+i)=dd:=by rw[u.7 i c,ae]
 have G:s≠1->tag≠.ret:=λh=>E.not_ret c aA;have ac:=rO K (i+1);cases hs with
 |work h=>
  obtain⟨v,x,t⟩|⟨f,g',z,es,rfl,j,b,o⟩:=h.cases
  .obtain⟨_,q,g',j,y,s⟩:=x;have r:Has S.2 i v w:=by simpa using q
   refine wY V hQ hF hA l ad u c hg j (λp _ _=>.refl ..) (Ki:=K _) (T':=Tr.chain y) (s':=6) (dd':=0) (by rw[ac];exact u.4.book V A (p:=i+1) J (by intro e n;simp at n;subst n;exact rz (rr R))) (by rw[ac];exact A)
    (.later (.k1 s) aA t r) (by rw[ae];rfl) (λ_=>⟨_,RelBy.new ai _ _⟩) u.9 d (λ_ n _=>(E.counted c aA (rr R) _ _).retag n) (λe=>Zl e (G aA)) (rr ⟨aA,by simp[cnt,B]⟩)
  .refine wY V hQ hF hA l ad u c hg j (λp q n=>Gu.en (p:=i+1) A J q n b) (Ki:=(K _).grow _ _) (T':=f w) (s':=7) (dd':=0) (u.4.plain V A (p:=i+1) J b.4 b.8) (A.grow b.4 J)
    (.work o) ?_ (λh=>aA) (b.6 u.9) (d.of_block (Gu.wg (p:=i+1) A J b)) (λ_ n _=>Go.ConcN.Mode.retag (by have:=E.same (i:=i) 0 0;rwa[B]at this) n) (λe=>Zl e (G aA)) (rz ⟨B.symm,by rw[ap];exact Tr.lt f w⟩)
   rw[ae];exact deafBehind_idle (λe n=>⟨(yc A (p:=i+1) J b.4 (b.8 e n)).2.2.2.1,(yc A (p:=i+1) J b.4 (b.8 e n)).2.2.2.2⟩) 0
 |later h h6 o hh=>
  rename_i v mf
  have am:∀{g':r9}{n:pn}{es:Array Zx}{y f C:Nat}{W T:Int},vi P pi g w=.go g' n es->Aside S.1 w n->WgAt S.4 S.1 n W T->(∀e∈es,Bk S.1 e)->
    (∀j e,es[j]? =N e->tz (vj e)=X\/0<yy dd (Array.extract es 0 j))->WSit P S.4 S.1 S.2 S.3 mA mA 0 (i+1) v y f C g' n->yy dd es=C->
    (∀q,(q=tag\/(tag=.blk/\q=.w3))->(mayWake P g=pw->g'.3=ux->q≠.blk)->AS j (upd D i ⟨y,0,C⟩) q W T)->(tag=.ret->Acq S m j (t++vp (m+i) g.1.1 (yl g.1) es))->
    ((y<s/\cnt ⟨y,0,C⟩<=cnt (D i))\/(y=s/\mf=f+1))->
    Down P S Q Shun m Fin AnchW ((sumTo m q,phi S.3 (Vc j D) tag+Ssum j D),(F,f0)) (crowd gs w sl) t (m+i):=by
   intro g' n es y f C W T b Y ag O hd aa hdd ak ah af;have az:y<=6:=by rcases af with⟨h,_⟩|⟨h,_⟩<;>omega
   have ao:∀p,p<=j->En S (who p) (K p) w n:=λp hp=>RR A hp Y ⟨_,_,ag⟩;have aj:=ao _ J
   refine wY V hQ hF hA l ad u c hg b (λp hp _=>ao p hp) (Ki:=K _) (T':=Tr.chain f) (by rw[ac,Y.4];exact u.4.book V A (p:=i+1) J (TF O)) (by rw[ac,Y.4];exact A)
    (.later aa az (hQ _ _ _ _ _ aj.5 o) (oy (aj.8 i R) hh)) (by rw[ae];exact hdd) (λ_=>let ⟨r,j⟩:=u.8 i c aA;⟨r,j.book ai _ _ O hd⟩) (aj.7 u.9) ag ak ah ?_
   rw[B,ap];exact af.imp id λ⟨I,z⟩=>⟨I,by rw[z];exact Tr.LC f⟩
  have book:∀{g':r9}{n:pn}{es:Array Zx}{y f C:Nat}{W T:Int},vi P pi g w=.go g' n es->Aside S.1 w n->WgAt S.4 S.1 n W T->(∀e∈es,Bk S.1 e)->
    (∀j e,es[j]? =N e->tz (vj e)=X\/0<yy dd (Array.extract es 0 j))->WSit P S.4 S.1 S.2 S.3 mA mA 0 (i+1) v y f C g' n->yy dd es=C->
    AS j (upd D i ⟨y,0,C⟩) tag W T->(tag=.ret->Acq S m j (t++vp (m+i) g.1.1 (yl g.1) es))->((y<s/\cnt ⟨y,0,C⟩<=cnt (D i))\/(y=s/\mf=f+1))->
    Down P S Q Shun m Fin AnchW ((sumTo m q,phi S.3 (Vc j D) tag+Ssum j D),(F,f0)) (crowd gs w sl) t (m+i):=
   λb Y ag O hd aa hdd ak ah af=>am b Y ag O hd aa hdd (λ_ j _=>ak.retag j) ah af
  have ab:∀{g':r9}{f:Nat},vi P pi g w=.go g' w #[]->WSit P S.4 S.1 S.2 S.3 mA mA 0 (i+1) v s f dd g' w->mf=f+1->s≠1->
    Down P S Q Shun m Fin AnchW ((sumTo m q,phi S.3 (Vc j D) tag+Ssum j D),(F,f0)) (crowd gs w sl) t (m+i):=by
   intro g' f b aa ax I;exact book b (.refl _ w) d aC aC aa R (by have:=E.same (i:=i) 0 dd;rwa[B]at this) (λe=>Zl e (G I)) (rz ⟨R,ax⟩)
  cases h with
  |r0 _=>omega
  |k1 h=>
   obtain t|⟨f,rfl,s⟩:=ZL h
   .obtain⟨_,g',b,F,q⟩:=t w (Yv w)
    exact book b (.refl _ w) d (by intro e j;simp at j;subst j;exact rr R) (by intro D e j;exact rr (by have:=dK j;simp at this;subst this;rfl)) (.d1 q) R
     (E.counted c aA (rz R) _ _) (λe=>Zl e (G aA)) (rr ⟨aA,by simp[cnt,B]⟩)
   .obtain⟨g',n,es,b,⟨rfl,rfl⟩,j⟩:=s w (Yv w);exact ab b (.k1 j) R aA
  |d1 h=>
   obtain a1|⟨f,rfl,a0⟩:=ZL h
   .obtain⟨_,an⟩:=a1 w (Yv w);have aw:cnt (D i)=1:=by simp[cnt,B]
    have a4:1<=Vc j D:=by have:=le_sumTo (f:=λx=>cnt (D x)) c;simp only[Vc];omega
    have t:∀e∈#[rd (stA S.1),wr (stA S.1)],Bk S.1 e:=by intro e q;simp at q;rcases q with rfl|rfl<;>exact bk_cell _ _ R
    have F:∀s e,(#[rd (stA S.1),wr (stA S.1)]:Array Zx)[s]? =N e->tz (vj e)=X\/0<yy 1 (Array.extract (#[rd (stA S.1),wr (stA S.1)]:Array Zx) 0 s):=by
     intro s e q
     match s,q with
     |0,_=>exact rz (by simp[yy])
     |1,_=>exact rz (by simp[yy,rd])
     |s+2,q=>simp at q
    have a7:cnt (⟨1,0,1⟩:WD)=0:=R
    have ar:OpenSt j D->OpenSt j (upd D i ⟨1,0,1⟩):=λh a l=>by
     by_cases e:a=i
     .subst e;rw[xo];simp
     .rw[YD D _ e];exact h a l
    cases E with
    |opn I z h3=>
     obtain⟨v,hv⟩:∃v,Vc j D+pend tag=v+1:=⟨Vc j D+pend tag-1,aA⟩
     rw[hv]at d;have a2:WgAt S.4 S.1 w (((v:Nat)+1)*KK+((0:Nat):Int)) 0:=ky
     obtain⟨g',b,_,o⟩:=an v 0 aA aA a2;let⟨qq,o⟩:=o aA;have ay:Vc j (upd D i ⟨1,0,1⟩)+pend tag=v:=by have:=Vc_upd D (⟨1,0,1⟩) c;omega
     refine book b (IN w (stA S.1) _) (Yr d _) t F (.quit o) R ?_ (λe=>Zl e (G aA)) (rr ⟨aA,by simp[cnt]⟩);have e:((v:Nat):Int)*KK+((0:Nat):Int)=((Vc j (upd D i ⟨1,0,1⟩)+pend tag:Nat):Int)*KK:=by rw[ay];simp
     rw[e];exact .opn I (ar z) (λj ev=>by have:=h3 j ev;omega)
    |reg I z h3=>
     obtain⟨v,hv⟩:∃v,Vc j D=v+1:=⟨Vc j D-1,aA⟩
     rw[hv]at d;have hp:pend tag=0:=by cases tag<;>first|rfl|exact sj I
     have a3:WgAt S.4 S.1 w (((v:Nat)+1)*KK+((1:Nat):Int)) 0:=ky
     let⟨g',b,hl,o⟩:=an v 1 aA aA a3;by_cases a2:v=0
     .subst a2;let⟨a8,hk⟩:=hl ⟨R,R⟩;refine book b (IN w (stA S.1) _) (Yr d _) t F (.d2 hk) R ?_ (λe=>Zl e (G aA)) (rr ⟨aA,by simp[cnt]⟩)
      have ay:∀a<j,a≠i->(D a).1=1:=λa l e=>by
       have j:=others_uncounted c hv aw a l e;have:=z a l;simp only[cnt]at j;split at j<;>omega
      have:=Go.ConcN.Mode.last (j:=j) (D:=upd D i ⟨4,0,1⟩) (tag:=tag) i I c (by rw[xo];simp) (λa l e=>by rw[YD D _ e];exact ay a l e);rw[xo]at this;exact ir
     .let⟨qq,o⟩:=o aA;have ay:Vc j (upd D i ⟨1,0,1⟩)=v:=by have:=Vc_upd D (⟨1,0,1⟩) c;omega
      refine book b (IN w (stA S.1) _) (Yr d _) t F (.quit o) R ?_ (λe=>Zl e (G aA)) (rr ⟨aA,by simp[cnt]⟩);have e:((v:Nat):Int)*KK+((1:Nat):Int)=((Vc j (upd D i ⟨1,0,1⟩):Nat):Int)*KK+1:=by rw[ay];simp
      rw[e];exact .reg I (ar z) aA
    |last L _ z h3 h4=>
     grind
    |sema z=>have:=z i c;omega
    |fin _ z=>have:=z i c;omega
   .obtain⟨g',n,es,b,⟨rfl,rfl⟩,j⟩:=a0 w (Yv w);exact ab b (.d1 j) R aA
  |d2 h=>
   obtain ar|⟨f,rfl,an⟩:=ZL h
   .obtain⟨_,hx⟩:=ar w (Yv w);obtain⟨s,F,rfl,rfl⟩:=E.isLast c aA;simp only[B]at d;let⟨g',b,aw,t⟩:=hx ky;refine book b (.refl _ w) d (by intro e j;simp at j;subst j;exact bk_cell _ _ R) (by intro q e j;match q,j with|0,_=>exact rz (by simp[yy])|q+1,j=>simp at j) (.d3 t) R ?_ (λe=>Zl e (G aA)) (rr ⟨aA,by simp[cnt]⟩);have:=Go.ConcN.Mode.last (j:=j) (D:=upd D i ⟨3,0,1⟩) (tag:=tag) i s c (by rw[xo];simp) (λa l e=>by rw[YD D _ e];exact F a l e);rw[xo]at this;simpa using this
   .obtain⟨g',n,es,b,⟨rfl,rfl⟩,j⟩:=an w (Yv w);exact ab b (.d2 j) R aA
  |d3 h=>
   obtain ar|⟨f,rfl,an⟩:=ZL h
   .obtain⟨_,hx⟩:=ar w (Yv w);obtain⟨s,F,rfl,rfl⟩:=E.isLast c aA;simp only[B]at d;let⟨g',b,aw,t⟩:=hx ky;refine book b (IN w (stA S.1) _) (Yr d 0) (by intro e j;simp at j;subst j;exact bk_cell _ _ R) (by intro q e j;match q,j with|0,_=>exact rz (by simp[yy])|q+1,j=>simp at j) (.d4 t) R ?_ (λe=>Zl e (G aA)) (rr ⟨aA,by simp[cnt]⟩);have:=Go.ConcN.Mode.last (j:=j) (D:=upd D i ⟨2,0,1⟩) (tag:=tag) i s c (by rw[xo];simp) (λa l e=>by rw[YD D _ e];exact F a l e);rw[xo]at this;simpa using this
   .obtain⟨g',n,es,b,⟨rfl,rfl⟩,j⟩:=an w (Yv w);exact ab b (.d3 j) R aA
  |d4 h=>
   obtain a0|⟨f,rfl,ay⟩:=ZL h
   .obtain⟨_,F,hx⟩:=a0 w (Yv w);obtain⟨t,ar,rfl,rfl⟩:=E.isLast c aA;simp only[B]at d;let⟨g',b,s,o⟩:=hx ky
    have aw:g'.3=ux:=by
     cases s with
     |zero=>exact Zl o.2 aB
     |succ s=>exact o.elim (λx=>Zl x.2 aB) (λx=>x.1)
    refine am b (IN w (smA S.1) _) (d.setSm 1) (es:=semEvents _) bk_sem ?_ (.quit o) (by simp[yy,semEvents]) ?_ (λe=>Zl e (G aA)) (rr ⟨aA,by simp[cnt]⟩)
    .intro q e j
     match q,j with
     |0,j=>simp[semEvents]at j;subst j;exact rr R
     |1,_=>exact rz (by simp[yy,semEvents])
     |2,_=>exact rz (by simp[yy,semEvents])
     |3,j=>simp[semEvents]at j;subst j;exact rr R
     |q+4,j=>simp[semEvents]at j
    .intro j ht hw;have an:=hw F aw
     have q:j=.w3:=by
      obtain rfl|⟨_,rfl⟩:=ht
      .cases j<;>first|rfl|exact sj t|exact Zl R an
      .rfl
     subst q;simp only[if_true]
     exact .sema λa l=>by
      by_cases e:a=i
      .subst e;rw[xo]
      .rw[YD D _ e];exact ar a l e
   .obtain⟨g',n,es,b,⟨rfl,rfl⟩,j⟩:=ay w (Yv w);exact ab b (.d4 j) R aA
  |quit h=>
   cases mf with
   |zero=>rw[h.1]at aq;cases aq
   |succ qq=>
    obtain⟨hf,_⟩|⟨_,g',es,s,an,o⟩:=h
    .grind
    .have O:∀e∈es,Bk S.1 e:=λe j=>bk_of_mute (s e j);have t:∀q e,es[q]? =N e->tz (vj e)=X\/0<yy dd (Array.extract es 0 q):=λq e j=>rr (touch_mute (s e (dK j)));refine book (an w) (.refl _ w) d O t (.quit o) R (by have:=E.same (i:=i) 0 (yy dd es);rwa[B]at this) (λe=>(av e).app λi' r ar D=>?_) (rz ⟨R,R⟩);by_cases F:i'=i
     .subst F;exact D.book ai _ _ O t
     .exact zp D xj aA
def OI(hF:∀K g w,Fin K g w->g.3=ux)(s:∀K g w,AnchW K g w->g.3=ux)(J:gs[0]? =N a)(v:CS P S Fin AnchW Q tag j f0 d0 (K 0) a w)(f:Co P S Q Shun m j gs w t D F d0 K q)(G:WgAt S.4 S.1 w st sm)(z:AS j D tag st sm)(u:tag=.ret->Acq S m j t){k:Nat}(h:0<k)(c:k<m)(x:gs[k]? =N g)(l:g.3=ux):Down P S Q Shun m Fin AnchW ((sumTo m q,phi S.3 (Vc j D) tag+Ssum j D),(F,f0)) (crowd gs w sl) t k:=by
 let⟨p,T,b⟩:=f.3 k h c;obtain rfl:g=p:=by grind
 cases d:q k with
 |zero=>rw[d]at b;rw[b.1]at l;cases l
 |succ n=>
  rw[d]at b;obtain⟨O,_⟩|⟨_,g',es,A,E,B⟩:=b
  .grind
  let⟨I,o,t,a,W⟩:=v.wokenBy hF s (.refl S X _ w) g g';have y:(k == 0)=pi:=aD
  have C:=runT_crowd_go (P:=P) (sl:=sl) (i:=k) x (by rw[y];exact E w)
  have V:sumTo m (upd q k n)+(n+1)=sumTo m q+n:=by
   have:=sumTo_upd q n id c;simpa[d]using this
  refine⟨_,_,_,C,mC.quit aA,
   _,w,sl,j,D,F,I,o,d0,K,_,st,sm,_,R,by grind,t,f.UN h c A B,G,z.retag a,λe=>?_,R⟩
  obtain rfl|⟨_,rfl⟩:=a
  .exact(u e).app λi r _ j=>zp j xj aA
  .cases e
end
end
open Go.ConcR (KK wgBlock WgAt stA smA rd wr Payload DC0 Bk g_of_ofEvents again_blocked loc_of_ofEvent bk_of_mute ofEvent_loc_mark ofEvent_mk)
section
variable {Wg:Nat}{T:Tr}
section
variable [ZF]{P:th}{S:Who}{Q:Left}{Shun:Loc->Prop}{m:Nat}{Fin AnchW:gL->r9->pn->Prop}
 {gs:Array r9} {w w':pn} {sl:Option (Nat×Nat)} {j:Nat} {D:Nat->WD} {F:Nat->Tr} {tag tag':CTag} {f0 f':Nat×Tr} {d0:Nat} {K:Nat->gL} {a a':r9} {t:Trace} {st sm st' sm':Int} {q:Nat->Nat} {es:Array Zx}
def AW(s:1<=m)(e:Q.kI)(f:gs[0]? =N a)(b:Co P S Q Shun m j gs w t D F d0 K q){K0}(o:vi P pw a w=.go a' w' es)(n:∀p,p<=j->p≠0->En S (who p) (K p) w w')(y:TI S Shun m (t++vp 0 a.1.1 (yl a.1) es) ↑w' j (upd K 0 K0))(i:CZ S ↑w' j (upd K 0 K0))(v:qap S.2 S.3 w')(l:CS P S Fin AnchW Q tag' j f' (yy d0 es) K0 a' w')(z:WgAt S.4 S.1 w' st' sm')(u:AS j D tag' st' sm')(g:tag'=.ret->Acq S m j (t++vp 0 a.1.1 (yl a.1) es))(r:phi S.3 (Vc j D) tag'<phi S.3 (Vc j D) tag\/(phi S.3 (Vc j D) tag'=phi S.3 (Vc j D) tag/\zB f' f0)):Down P S Q Shun m Fin AnchW ((sumTo m q,phi S.3 (Vc j D) tag+Ssum j D),(F,f0)) (crowd gs w sl) t 0:=by
 have x:=runT_crowd_go (P:=P) (sl:=sl) (i:=0) f (by simpa using o)
 refine⟨_,_,_,x,?_,
  _,w',sl,j,D,F,tag',f',_,_,a',st',sm',q,R,get_map_set_same _ _ _ (by rw[b.1];omega),by rw[xo];exact l,b.step0 s e n y i v,z,u,g,R⟩
 obtain h|⟨c,d⟩:=r
 .exact mC.stage aA
 .rw[c];exact mC.own d
def kA(d:1<=m)(f:Q.kI)(g:gs[0]? =N a)(c:Co P S Q Shun m j gs w t D F d0 K q)(o:vi P pw a w=.go a' w' es)(b:Gu S X (K 0) w w' es)(v:WgAt S.4 S.1 w st sm)(u:AS j D tag st sm)(h:tag=.ret->Acq S m j t)(l:CS P S Fin AnchW Q tag j f' d0 ((K 0).grow w.1.size ↑w') a' w')(s:zB f' f0):Down P S Q Shun m Fin AnchW ((sumTo m q,phi S.3 (Vc j D) tag+Ssum j D),(F,f0)) (crowd gs w sl) t 0:=by
 have A:=c.5;have n:=deafBehind_idle (λe a=>⟨(yc A (p:=0) (bU _) b.4 (b.8 e a)).2.2.2.1,(yc A (p:=0) (bU _) b.4 (b.8 e a)).2.2.2.2⟩) d0
 exact AW d f g c o (λp i a=>Gu.en (p:=0) A (bU _) i a b) (c.4.plain d A (p:=0) (bU _) b.4 b.8) (A.grow b.4 (bU _)) (b.6 c.9)
  (by rw[n];exact l) (v.of_block (Gu.wg (p:=0) A (bU _) b)) u (λe=>(h e).app λi r _ a=>zp a xj aA) (rz ⟨R,s⟩)
def lB(d:1<=m)(l:Q.kI)(n:gs[0]? =N a)(c:Co P S Q Shun m j gs w t D F d0 K q)(u:vi P pw a w=.go a' w' es)(b:Aside S.1 w w')(f:WgAt S.4 S.1 w' st' sm')(r:∀e∈es,Pl S.1 e)(s:CS P S Fin AnchW Q tag' j f' (yy d0 es) (K 0) a' w')(x:AS j D tag' st' sm')(o:tag'=.ret->Acq S m j (t++vp 0 a.1.1 (yl a.1) es))(v:phi S.3 (Vc j D) tag'<phi S.3 (Vc j D) tag\/(phi S.3 (Vc j D) tag'=phi S.3 (Vc j D) tag/\zB f' f0)):Down P S Q Shun m Fin AnchW ((sumTo m q,phi S.3 (Vc j D) tag+Ssum j D),(F,f0)) (crowd gs w sl) t 0:=by
 have A:=c.5;let⟨g,h,i⟩:=c.9;exact AW d l n c u (λp a _=>RR A a b ⟨_,_,f⟩) (by rw[rO,b.4];exact c.4.book d A (p:=0) (bU _) r) (by rw[rO,b.4];exact A) ⟨g,oy (b.5 _ A.6) h,i⟩ s f x o v
omit [Payload] in
def GU:∀e∈#[vm .disable],Pl Wg e:=λe a=>rr (bk_dis e a)
omit [Payload] in
def M1:∀e∈#[vm .enable],Pl Wg e:=λe a=>rr (bk_en e a)
omit [Payload] in
def CV:∀e∈#[rd (stA Wg)],Pl Wg e:=λe a=>rr (bk_rd e a)
omit [Payload] in
def M4:∀e∈#[rd (stA Wg),wr (stA Wg)],Pl Wg e:=λe a=>rr (bk_rw e a)
omit [Payload] in
def PV:∀e∈semEvents (smA Wg),Pl Wg e:=λe a=>rr (bk_sem e a)
omit [Payload] in
def OC:∀e∈#[vm (.acquire (stA Wg))],Pl Wg e:=by intro e a;simp at a;subst a;exact rz (rz R)
def UX(j:1<=m)(d:Q.kI)(z:S.3<2147483648)(g:gs[0]? =N a)(i:Co P S Q Shun m S.3 gs w t D F 1 K q)(c:WgAt S.4 S.1 w st sm)(l:AS S.3 D .w1 st sm)(h:gy P pw S X (oX P S Fin AnchW) T (K 0) a w):Down P S Q Shun m Fin AnchW ((sumTo m q,phi S.3 (Vc S.3 D) .w1+Ssum S.3 D),(F,(0,T))) (crowd gs w sl) t 0:=by
 have y:=Vc_le S.3 D;obtain⟨_,p⟩|⟨f,x,B,v,rfl,b,r,o⟩:=h.cases
 .obtain⟨s,rfl,rfl,_⟩:=Y0 l trivial;let⟨u,b,a,n⟩:=p (Vc S.3 D) aA (by simpa[pend]using c);by_cases e:Vc S.3 D=0
  .let⟨t,q⟩:=a e;refine lB j d g i b (.refl _ w) c CV (.ke q) ?_ aC (rr gx);have:=Go.ConcN.Mode.fin (j:=S.3) (D:=D) (tag:=.ke) trivial (allQuit_of s e);simpa[e,pend]using this
  .let⟨t,q⟩:=n e;exact lB j d g i b (.refl _ w) c CV (.w2 q) (Yn l trivial trivial R (λA w=>by grind)) aC (rr gx)
 .exact kA j d g i b r c l aC (.w1 o) (.way (Tr.lt f w))
def Tq(l:1<=m)(n:Q.kI)(C:S.3<2147483648)(O:∀K g w,AnchW K g w->∃T,gy P pw S X (oX P S Fin AnchW) T K g w)(d:gs[0]? =N a)(B:CS P S Fin AnchW Q tag j f0 d0 (K 0) a w)(c:Co P S Q Shun m j gs w t D F d0 K q)(b:WgAt S.4 S.1 w st sm)(o:AS j D tag st sm)(ac:tag=.ret->Acq S m j t)(af:a.3=ux)(am:¬(tag=.ret/\Fin (K 0) a w)):Down P S Q Shun m Fin AnchW ((sumTo m q,phi S.3 (Vc j D) tag+Ssum j D),(F,f0)) (crowd gs w sl) t 0:=by
 have ak:=Vc_le j D;generalize hK:K 0=K₀ at B;cases B with
 |skd g h=>
  subst hK;obtain⟨_,t,a,s,q⟩|⟨f,v,x,u,rfl,a,p,j⟩:=h.cases
  .exact lB l n d c a (.refl _ w) b GU (.sa1 g q) (Yn o trivial trivial R aC) aC (rr gx)
  .exact kA l n d c a p b o aC (.skd g j) (.way (Tr.lt f w))
 |sa1 g h=>
  rename_i r T;subst hK;obtain⟨_,p⟩|⟨f,x,y,v,rfl,a,q,j⟩:=h.cases
  .obtain⟨s,rfl,rfl,_⟩:=Y0 o trivial;let⟨u,a,t,h⟩:=p (Vc (S.3-(r+1)) D) aA (by simpa[pend]using b);refine lB l n d c a (IN w (stA S.1) _) (Yr b _) M4 (.ske g h) ?_ aC (rr gx);have e:(((Vc (S.3-(r+1)) D:Nat):Int)+1)*KK=((Vc (S.3-(r+1)) D+pend (.sp r 3):Nat):Int)*KK:=by simp[pend]
   rw[e];exact .opn trivial s aC
  .exact kA l n d c a q b o aC (.sa1 g j) (.way (Tr.lt f w))
 |ske g h=>
  subst hK;obtain⟨_,t,a,s,q⟩|⟨f,v,x,u,rfl,a,p,j⟩:=h.cases
  .exact lB l n d c a (.refl _ w) b M1 (.sgo g q) (Yn o trivial trivial R aC) aC (rr gx)
  .exact kA l n d c a p b o aC (.ske g j) (.way (Tr.lt f w))
 |sgo hr h=>
  rename_i r T;subst hK;obtain⟨_,g,y,x,F,ag,_,V,aa,W,ab,G,I,w0,wc,ai,E⟩|⟨f,g',w',es,rfl,ad,ae,Y⟩:=h.cases
  .obtain⟨aj,ah⟩:=ai c.9 ⟨_,_,b⟩;obtain⟨ho,rfl,rfl,_⟩:=Y0 o trivial;have u:=runT_crowd_spawn (P:=P) (sl:=sl) (i:=0) d (by simpa using ag);rw[c.1]at u;have h:=c.spawn l (a':=g) (x:={ g:=0,fn:=a.1.1,pos:=yl a.1,act:=.go _ }) (y:={ g:=m+(S.3-(r+1)),fn:=y.1.1,pos:=yl a.1,act:=.start }) ⟨R,R⟩ ⟨R,R⟩ V aa W ab G I w0 wc ah
   have s:Vc (S.3-(r+1)+1) (upd D (S.3-(r+1)) ⟨7,0,0⟩)=Vc (S.3-(r+1)) D+1:=by
    simp only[Vc,sumTo,xo];rw[sumTo_upd_out D _ cnt fI];rfl
   have z:Ssum (S.3-(r+1)+1) (upd D (S.3-(r+1)) ⟨7,0,0⟩)=Ssum (S.3-(r+1)) D+7:=by
    simp only[Ssum,sumTo,xo];rw[sumTo_upd_out D _ WD.stage fI]
   have j:OpenSt (S.3-(r+1)+1) (upd D (S.3-(r+1)) ⟨7,0,0⟩):=λi hi=>by
    by_cases e:i=S.3-(r+1)
    .subst e;rw[xo];simp
    .rw[YD D _ e];exact ho i aA
   have A:((qb gs 0 g).push y)[0]? =N g:=by
    have:0<qd gs:=by rw[c.1];omega
    rw[Array.getElem?_push_lt (by simp;exact this),<-bL];simp[this]
   have J:S.3-(r+1)+1=S.3-r:=aA
   have p:upd (upd K 0 x) (S.3-r) F 0=x:=by rw[YD _ _ aA,xo]
   rw[J]at h s z j;have t:∀v,pend v=0->((Vc (S.3-(r+1)) D+pend (.sp r 2):Nat):Int)*KK=((Vc (S.3-r) (upd D (S.3-(r+1)) ⟨7,0,0⟩)+pend v:Nat):Int)*KK:=λv hp=>by rw[s,hp];simp[pend]
   cases r with
   |zero=>
    obtain⟨a,D⟩:=E;simp only[Nat.sub_zero]at h s z j t p
    refine⟨_,_,_,u,mC.stage gx,
     _,w,sl,_,_,_,.kd,(0,a),0,_,g,_,_,q,R,A,by rw[p];exact .kd D,h,b,?_,aC,R⟩
    rw[t .kd R];exact .opn trivial j aC
   |succ r'=>
    obtain⟨a,D⟩:=E
    refine⟨_,_,_,u,mC.stage gx,
     _,w,sl,_,_,_,.sp r' 5,(0,a),0,_,g,_,_,q,R,A,by rw[p];exact .skd aA D,h,b,?_,aC,R⟩
    rw[t (.sp r' 5) R];exact .opn trivial j aC
  .exact kA l n d c ad ae b o aC (.sgo hr Y) (.way (Tr.lt f w))
 |kd h=>
  subst hK;obtain⟨_,s,a,q,p⟩|⟨f,u,v,t,rfl,a,j,g⟩:=h.cases
  .exact lB l n d c a (.refl _ w) b GU (.anch p) (Yn o trivial trivial R aC) aC (rr gx)
  .exact kA l n d c a j b o aC (.kd g) (.way (Tr.lt f w))
 |anch h=>
  subst hK;obtain t|⟨f,z,A,y,rfl,p,q,j⟩:=h.cases
  .let⟨x,s⟩:=O _ _ _ t;let⟨u,ops,v,a,g,h⟩:=UX (sl:=sl) l n C d c b (Yn o trivial trivial R aC) s;refine⟨u,ops,v,a,?_,h⟩;exact mC.trans g gx R
  .exact kA l n d c p q b o aC (.anch j) (.way (Tr.lt f w))
 |w1 h=>subst hK;exact UX l n C d c b o h
 |w2 h=>
  rename_i g T;subst hK;obtain⟨_,p⟩|⟨f,A,G,z,rfl,a,q,j⟩:=h.cases
  .obtain⟨u,rfl,rfl,v⟩:=Y0 o trivial;let⟨F,E⟩:=v g R;let⟨h,t⟩:=p (Vc S.3 D) aA (by simpa[pend]using b);by_cases e:Vc S.3 D=g
   .let⟨y,a,x,s⟩:=h e;exact lB l n d c a (IN w (stA S.1) _) (Yr b _) M4 (.w3 s) (.reg trivial u aA) aC (rr gx)
   .let⟨y,a,x,s⟩:=t e;exact lB l n d c a (.refl _ w) b CV (.anch s) (Yn o trivial trivial R aC) aC (rr gx)
  .exact kA l n d c a q b o aC (.w2 j) (.way (Tr.lt f w))
 |w3 h=>
  rename_i T;subst hK;cases T with
  |leaf=>
   obtain⟨_,t,a,p⟩:=h w (.refl ..);cases o with
   |opn g _ _=>exact sj g
   |reg q g j=>exact lB l n d c (a ⟨_,b⟩) (.refl _ w) b aC (.blk h) (.reg trivial g j) aC (rz ⟨R,X9 _ _ aA⟩)
   |last L q g j h4=>exact lB l n d c (a ⟨_,b⟩) (.refl _ w) b aC (.blk h) (.last L trivial g j h4) aC (rz ⟨R,X9 _ _ aA⟩)
   |sema g=>
    let⟨s,h,q,j⟩:=p b;exact lB l n d c h (IN w (smA S.1) _) (b.setSm 0) PV (.w4 j) (.fin trivial g) aC (rr gx)
   |fin g _=>exact sj g
  |node f=>
   let⟨q,s,p,g,j,a⟩:=h.2 w (.refl ..);exact kA l n d c g j b o aC (.w3 a) (.way (Tr.lt f w))
 |blk h=>simp at af
 |w4 h=>
  subst hK;obtain⟨_,q⟩|⟨f,v,x,u,rfl,a,j,g⟩:=h.cases
  .obtain⟨p,rfl,rfl⟩:=Y6 o trivial;let⟨t,a,s,h⟩:=q b;exact lB l n d c a (.refl _ w) b CV (.ke h) (.fin trivial p) aC (rr gx)
  .exact kA l n d c a j b o aC (.w4 g) (.way (Tr.lt f w))
 |ke h=>
  subst hK;obtain⟨_,s,a,q,p⟩|⟨f,u,v,t,rfl,a,j,g⟩:=h.cases
  .obtain⟨h,rfl,rfl⟩:=Y6 o trivial;exact lB l n d c a (.refl _ w) b M1 (.acq p) (.fin trivial h) aC (rr gx)
  .exact kA l n d c a j b o aC (.ke g) (.way (Tr.lt f w))
 |acq h=>
  subst hK;obtain⟨_,z,j,y,v⟩|⟨f,D,E,A,rfl,j,u,s⟩:=h.cases
  .obtain⟨p,rfl,rfl⟩:=Y6 o trivial;refine lB l n d c j (.refl _ w) b OC (.ret v) (.fin trivial p) (λ_=>?_) (rr gx);have g:vp 0 a.1.1 (yl a.1) #[vm (.acquire (stA S.1))]=#[{ g:=0,fn:=a.1.1,pos:=yl a.1,act:=.mark (.acquire (stA S.1)) }]:=by rw[ofEvents_eq];simp[ofEvent_mk]
   have x:(t++#[({ g:=0,fn:=a.1.1,pos:=yl a.1,act:=.mark (.acquire (stA S.1)) }:MemOp)])[qd t]? =N { g:=0,fn:=a.1.1,pos:=yl a.1,act:=.mark (.acquire (stA S.1)) }:=aC
   refine⟨qd t,by rw[g,act?_of x],by rw[g];simp[Trace.g?],by rw[g];exact⟨0,by simp[Trace.g?],by rw[deaf_old fI];exact c.6⟩,λi h=>?_⟩;let⟨r,q⟩:=c.8 i h (by rw[p i h];omega);exact⟨r,zp q xj aA,lt_of_act? q.1⟩
  .exact kA l n d c j u b o aC (.acq s) (.way (Tr.lt f w))
 |ret h=>
  subst hK;obtain s|⟨f,q,t,p,rfl,g,j,a⟩:=h.cases
  .grind
  .exact kA l n d c g j b o ac (.ret a) (.way (Tr.lt f w))
end
end
section
variable {t:Trace}
section
variable [ZF]{P:th}{S:Who}{Q:Left}{Shun:Loc->Prop}{m:Nat}{Fin AnchW:gL->r9->pn->Prop}
def jX(P:th)(S:Who)(Q:Left)(Shun:Loc->Prop)(m:Nat)(Fin:gL->r9->pn->Prop)(c:Machine)(t:Trace):=
 ∃(b:Array r9)(w:pn)(d:Option (Nat×Nat))(D:Nat->WD)(F:Nat->Tr)(K:Nat->gL)(a:r9)(q:Nat->Nat),
  c=crowd b w d/\b[0]? =N a/\Fin (K 0) a w/\Co P S Q Shun m S.3 b w t D F 0 K q/\AllQuit S.3 D/\Acq S m S.3 t/\WgAt S.4 S.1 w 0 0
omit [Payload] in
def Fy{j D}(h:1<=Vc j D):∃i,i<j/\5<=(D i).1:=exists_counted h
def FV(G:1<=m)(u:Q.kI)(I:S.3<2147483648)(hF:∀K g w,Fin K g w->g.3=ux)(o:∀K g w,AnchW K g w->g.3=ux)(Y:∀K g w,AnchW K g w->∃T,gy P pw S X (oX P S Fin AnchW) T K g w)(aa:∀K g w d,Fin K g w->Fin K g (w.at d)){μ:Mu}{A:Machine}(h:Inv P S Q Shun m Fin AnchW μ A t):jX P S Q Shun m Fin A t\/∃O ops W,stepT P A=(.next O,ops)/\mC S.3 W μ/\Inv P S Q Shun m Fin AnchW W O (t++ops):=by
 obtain⟨r,w,V,j,D,F,ae,f0,d0,K,a,st,sm,q,rfl,f,l,c,J,n,p,rfl⟩:=h;by_cases B:ae=.ret/\Fin (K 0) a w
 .obtain⟨rfl,b⟩:=B;obtain⟨e,rfl,rfl⟩:=Y6 n trivial;generalize hK:K 0=K₀ at l;cases l with
  |ret _=>exact rr ⟨r,w,V,D,F,K,a,q,R,f,b,c,e,p R,J⟩
 .have T:∀g∈r,Go.Conc.awake g:=by
   intro g b tm;let⟨i,e⟩:=Array.mem_iff_getElem?.1 b;by_cases s:i=0
   .subst s;rw[f]at e;cases e;rcases l.status hF o with⟨C,_⟩|⟨C,_⟩<;>rw[C]<;>simp
   .obtain E|af:=dH i m
    .let⟨g',C,ab⟩:=c.3 i aA E;rw[e]at C;cases C;rcases ab.status with h|h<;>rw[h]<;>simp
    .have E:i<m+j:=by have:=(fO e);rw[c.1]at this;omega
     let⟨g',C,hs⟩:=c.2 (i-m) aA;rw[show m+(i-m)=i by omega,e]at C;cases C;rcases hs.status with h|h<;>rw[h]<;>simp
  have runs:∃(i:Nat)(g:r9),r[i]? =N g/\g.3=ux:=by
   obtain⟨e,_⟩|⟨_,rfl⟩:=l.status hF o
   .grind
   .cases n with
    |opn C _ _=>exact sj C
    |reg _ _ h3=>
     let⟨i,C,E⟩:=Fy h3;let⟨g,b,e⟩:=c.2 i C;exact⟨_,g,b,e.running_of aA⟩
    |last L _ C h3 _=>
     let⟨g,b,e⟩:=c.2 L C;exact⟨_,g,b,e.running_of aA⟩
    |fin C _=>exact sj C
  let⟨i,g,d,ad,b,y,ac⟩:=crowd_pick (P:=P) (w:=w) (sl:=V) T runs;rw[ac];have x:=l.rely (En.at S X _ w d);have v:=c.at u d;have z:WgAt S.4 S.1 (w.at d) st sm:=J;right;by_cases s:i=0
  .subst s;rw[f]at b;cases b;exact Tq G u I Y f x v z n p y λ⟨e,C⟩=>B ⟨e,(show Fin _ a ((w.at d).at _) from aa _ _ _ _ C)⟩
  .obtain C|E:=dH i m
   .exact OI hF o f x v z n p aA C b y
   .have C:i<m+j:=by have:=(fO b);rw[c.1]at this;omega
    have e:m+(i-m)=i:=aA
    have:=Tu (sl:=ad) G u hF o I f x v z n p (i:=i-m) aA (g:=g) (by rw[e];exact b) y;exact my
def Fq(o:1<=m)(j:Q.kI)(p:S.3<2147483648)(hF:∀K g w,Fin K g w->g.3=ux)(e:∀K g w,AnchW K g w->g.3=ux)(f:∀K g w,AnchW K g w->∃T,gy P pw S X (oX P S Fin AnchW) T K g w)(i:∀K g w d,Fin K g w->Fin K g (w.at d))(μ:Mu):∀(a:Machine)(t:Trace),Inv P S Q Shun m Fin AnchW μ a t->∃Zp b c,runNT P Zp a t=(.next b,c)/\jX P S Q Shun m Fin b c:=by
 induction μ using(mC.wf S.3).induction with
 |_ μ ih=>
  intro a t h;obtain h|⟨s,ops,u,r,n,d⟩:=FV o j p hF e f i h
  .exact⟨0,a,t,R,h⟩
  .let⟨Zp,b,c,q,l⟩:=ih u n s _ d;exact⟨Zp+1,b,c,by simp only[runNT,r];exact q,l⟩
def phase{B}(hQ:Q.kI)(hn:S.3<2147483648)(hF:∀K g w,Fin K g w->g.3=ux)(hA:∀K g w,AnchW K g w->g.3=ux)(af:∀K g w,AnchW K g w->∃T,gy P pw S X (oX P S Fin AnchW) T K g w)(ah:∀K g w d,Fin K g w->Fin K g (w.at d)){c:Array r9}{a:r9}{w:pn}{sl:Option (Nat×Nat)}{q:Nat->Nat}{K0:gL}(I:c[0]? =N a)(hL:Leavers P t c q)(hP:Past Shun B t)(hW:∀b,K0.2 b->K0.1 b)(hO:∀b,K0.1 b->b<w.1.size/\b≠S.1/\b≠S.2/\∀l,blk l=N b->¬Shun l)(aj:S.1<w.1.size)(hC:S.2<w.1.size)(V:S.2≠S.1)(hB:B<=S.1)(ag:B<=S.2\/∀i,¬Shun (.cell ⟨S.2,i,X⟩))(ar:∀b,K0.2 b->S.5<=b)(aq:S.5<=S.1)(ap:S.5<=S.2)(ad:WgAt S.4 S.1 w 0 0)(au:qap S.2 S.3 w)(A:mR P S AnchW Q S.3 K0 a w):∃Zp s z n aa u Y K,runNT P Zp (crowd c w sl) t=(.next (crowd s n aa),u)/\s[0]? =N z/\Fin K z n/\Leavers P u s Y/\Past (λl=>Shun l\/ShN S.1 l) n.1.size u/\(∀i<S.3,∃v O,Has S.2 i v n/\Q i v O n)/\qap S.2 S.3 n/\WgAt S.4 S.1 n 0 0:=by
 have an:1<=qd c:=by have:=(fO I);omega
 have ae:CZ S ↑w 0 (λ_=>K0):=⟨λp _ b d=>hW b d,λp _ b d=>let ⟨C,E,G,_⟩:=hO b d;⟨C,E,G⟩,λp q e hq V=>Zl aA V,aj,hC,V,λ_ _=>ar,aq,ap⟩
 have ab:Co P S Q Shun (qd c) 0 c w t (λ_=>⟨0,0,0⟩) (λ_=>.leaf) 0 (λ_=>K0) q:=
  ⟨R,λi j=>aA,λi j ao=>⟨_,aC,hL.1 i _ j (bL ao)⟩,
   TI.begin hP hL.2 hB ag aA (λb d=>(hO b d).2.2.2) hW,ae,hP.4,λi j=>aA,λi j=>aA,au⟩
 have ac:∀y,isOpen y->pend y=0->(∀d,y≠.w2 d)->AS 0 (λ_=>(⟨0,0,0⟩:WD)) y 0 0:=λy C E G=>by
  have:=Go.ConcN.Mode.opn (j:=0) (D:=λ_=>(⟨0,0,0⟩)) C (λi j=>aA) (λd e=>Zl e (G d));simpa[Vc,sumTo,E]using this
 have ai:∃μ,Inv P S Q Shun (qd c) Fin AnchW μ (crowd c w sl) t:=by
  cases d:S.3 with
  |zero=>
   rw[d]at A;obtain⟨T,e⟩:=A;refine⟨_,c,w,sl,0,_,_,_,(0,T),0,_,a,0,0,q,R,I,?_,ab,ad,ac .kd trivial R aC,aC,R⟩;have:=CS.kd (P:=P) (S:=S) (Fin:=Fin) (AnchW:=AnchW) (Q:=Q) e;rwa[d]at this
  |succ r=>
   rw[d]at A;obtain⟨T,e⟩:=A;refine⟨_,c,w,sl,0,_,_,_,(0,T),0,_,a,0,0,q,R,I,?_,ab,ad,ac (.sp r 5) trivial R aC,aC,R⟩;have:=CS.skd (P:=P) (S:=S) (Fin:=Fin) (AnchW:=AnchW) (Q:=Q) (r:=r) aA e
   grind
 obtain⟨μ,hI⟩:=ai;obtain⟨Zp,a1,u,hr,s,n,aa,D,F,K,z,Y,rfl,ak,am,o,hq,⟨x,aw,ax,ay,az⟩,av⟩:=Fq an hQ hn hF hA af ah μ _ _ hI
 have a0:∀i<S.3,∃W g v,s[qd c+i]? =N g/\QuitsD P W (Deaf u (qd c+i)) g/\Has S.2 i v n/\Q i v (K (i+1)).1 n:=by
  intro i j;let⟨g,J,h⟩:=o.2 i j;obtain⟨W,_,e,v,p,d⟩:=h.quits (hq i j);exact⟨W,g,v,J,by rw[o.7 i j];exact e,d,p⟩
 obtain⟨f,hf⟩:∃f:Nat->Nat,∀i<S.3,∃g v,s[qd c+i]? =N g/\QuitsD P (f i) (Deaf u (qd c+i)) g/\Has S.2 i v n/\Q i v (K (i+1)).1 n:=
  ⟨λi=>if h:i<S.3 then yr (a0 i h)else 0,λi j=>by grind⟩
 refine⟨Zp,s,z,n,aa,u,λi=>if qd c<=i then f (i-qd c)else Y i,_,hr,ak,am,⟨λi g j J=>?_,λi j=>?_⟩,o.4.past o.6 aw ax ay az,λi j=>?_,o.9,av⟩
 .obtain d|p:=dH i (qd c)
  .rw[Za aA];let⟨e,h,r⟩:=o.3 i j d
   grind
  .have d:i-qd c<S.3:=by have:=(fO J);rw[o.1]at this;omega
   grind
 .exact o.4.9 i (by rw[o.1]at j;exact j)
 grind
end
end
end Cr
