import Derived.Test.YtpibpdpedjinhaaGreatDoorP00
set_option maxRecDepth 100000
set_option maxHeartbeats 1600000
set_option linter.all false
open Bool renaming false->aL,true->bB
open Go renaming Event->mb,Goroutine->bO,Program->cY,World->U,deafBehind->gN,stepG->eB
open Go.Conc renaming Deaf_other->mN,aside_setCell->mh,mem_ofEvents->oB
open Go.Conc.Goes renaming cases->o6
open Go.ConcN renaming Mode->ir,PayAt->rL,upd_ne->lj,upd_same->fN
open Go.ConcN.RW renaming refl->jN
open Go.ConcR renaming Payload->p9,g_of_ofEvents->fS,mk->cV,ofEvent_loc_mark->lw
open Go.GoStatus renaming running->eJ
open Go.MemAct renaming ofEvent->cR,touch?->gL
open Go.MemOp renaming ofEvents->eD
open Option renaming none->Z,some->M
open Or renaming inl->cJ,inr->cK
namespace Go.Proofs.YtpibpdpedjinhaaGreatDoor
namespace Cr
open Go Go.Conc Go.ConcN
open Go.ConcR (KK wgBlock WgAt stA smA rd wr Payload DC0 Bk g_of_ofEvents again_blocked)
section
section
variable [p9](P:cY)(S:Who)
abbrev qw:Nat->Loc->Prop:=λ_ _=>False
abbrev Left:=Nat->Value->(Nat->Prop)->U->Prop
def Left.nN(Q:Left):Prop:=∀i v O w w₁,(∀b,O b->w₁.heap[b]? =w.heap[b]?)->Q i v O w->Q i v O w₁
def uJ(Q:Left)(i:Nat)(K:jZ)(g:bO)(w:U):Prop:=∃v,AtR0 P S.ty S.Wg S.C S.n 0 (i+1) v g w/\Q i v K.O w
inductive WS(Q:Left)(i:Nat)(K:jZ):Nat->Tr->Nat->bO->U->Prop
 |work {T:Tr} {g:bO} {w:U}:jQ P aL S (M i) (uJ P S Q i) T K g w->WS Q i K 7 T 0 g w
 |later {v:Value} {s m d:Nat} {g:bO} {w:U}:WSit P S.ty S.Wg S.C S.n qw qw 0 (i+1) v s m d g w->s<=6->Q i v K.O w->Has S.C i v w->WS Q i K s (Tr.chain m) d g w
section
variable (Fin AnchW:jZ->bO->U->Prop)
def Wy(K:jZ)(g:bO)(w:U):Prop:=
 g.status=eJ/\∃g',eB P bB g w=.go g' w #[cV (.acquire (stA S.Wg))]/\∃T,jQ P bB S Z Fin T K g' w
def X0(K:jZ)(g:bO)(w:U):Prop:=
 g.status=eJ/\∃g',eB P bB g w=.go g' w #[cV .enable]/\∃T,jQ P bB S Z (Wy P S Fin) T K g' w
def acD(K:jZ)(g:bO)(w:U):Prop:=
 g.status=eJ/\(WgAt S.ty S.Wg w 0 0->∃g',eB P bB g w=.go g' w #[rd (stA S.Wg)]/\∃T,jQ P bB S Z (X0 P S Fin) T K g' w)
def Zu(K:jZ)(g:bO)(w:U):Prop:=
 g.status=eJ/\g.offers=Z/\((∃st,WgAt S.ty S.Wg w st 0)->eB P bB g w=.go { g with status:=.blocked } w #[])/\
  (WgAt S.ty S.Wg w 0 1->∃g',eB P bB g w=.go g' (w.setCell (smA S.Wg) (.int .u32 0)) (semEvents (smA S.Wg))/\∃T,jQ P bB S Z (acD P S Fin) T K g' (w.setCell (smA S.Wg) (.int .u32 0)))
def Ji(vs:Nat)(K:jZ)(g:bO)(w:U):Prop:=
 g.status=eJ/\∀v:Nat,v<2147483648->WgAt S.ty S.Wg w (v*KK) 0->
  (v=vs->∃g',eB P bB g w=.go g' (w.setCell (stA S.Wg) (.int .u64 (v*KK+1))) #[rd (stA S.Wg),wr (stA S.Wg)]/\∃T,jQ P bB S Z (Zu P S Fin) T K g' (w.setCell (stA S.Wg) (.int .u64 (v*KK+1))))/\
  (v≠vs->∃g',eB P bB g w=.go g' w #[rd (stA S.Wg)]/\∃T,jQ P bB S Z AnchW T K g' w)
def uN(K:jZ)(g:bO)(w:U):Prop:=
 g.status=eJ/\∀v:Nat,v<2147483648->WgAt S.ty S.Wg w (v*KK) 0->∃g',eB P bB g w=.go g' w #[rd (stA S.Wg)]/\
  (v=0->∃T,jQ P bB S Z (X0 P S Fin) T K g' w)/\(v≠0->∃T,jQ P bB S Z (Ji P S Fin AnchW v) T K g' w)
def AP(K:jZ)(g:bO)(w:U):Prop:=
 g.status=eJ/\∃g',eB P bB g w=.go g' w #[cV .disable]/\∃T,jQ P bB S Z AnchW T K g' w
variable (Q:Left)
def WJ(i:Nat)(I:jZ->bO->U->Prop)(K:jZ)(g:bO)(w:U):Prop:=
 g.status=eJ/\∃g' q K0 E,eB P bB g w=.spawn g' q w #[]/\q.status=eJ/\(∀b,K0.O b->K.O b)/\(∀b,K0.W b->K.W b)/\(∀b,E.O b->K.O b)/\(∀b,E.W b->K.W b)/\
  (∀b,K0.W b->¬E.O b)/\(∀b,E.W b->¬K0.O b)/\(∀b,K0.W b->K0.O b)/\(∀b,E.W b->E.O b)/\
  (rL S.C S.n w->WgLive S.ty S.Wg w->∃T,jQ P aL S (M i) (uJ P S Q i) T E q w)/\I K0 g' w
def acG(i:Nat)(q:jZ->bO->U->Prop)(K:jZ)(g:bO)(w:U):Prop:=
 g.status=eJ/\∃g',eB P bB g w=.go g' w #[cV .enable]/\∃T,jQ P bB S Z (WJ P S Q i q) T K g' w
def acU(i:Nat)(q:jZ->bO->U->Prop)(K:jZ)(g:bO)(w:U):Prop:=
 g.status=eJ/\∀v:Nat,v<2147483647->WgAt S.ty S.Wg w (v*KK) 0->
  ∃g',eB P bB g w=.go g' (w.setCell (stA S.Wg) (.int .u64 ((v+1)*KK))) #[rd (stA S.Wg),wr (stA S.Wg)]/\∃T,jQ P bB S Z (acG P S Q i q) T K g' (w.setCell (stA S.Wg) (.int .u64 ((v+1)*KK)))
def MV(i:Nat)(q:jZ->bO->U->Prop)(K:jZ)(g:bO)(w:U):Prop:=
 g.status=eJ/\∃g',eB P bB g w=.go g' w #[cV .disable]/\∃T,jQ P bB S Z (acU P S Q i q) T K g' w
def qO:Nat->jZ->bO->U->Prop
 |0,K,g,w=>∃T,jQ P bB S Z (AP P S AnchW) T K g w
 |r+1,K,g,w=>∃T,jQ P bB S Z (MV P S Q (S.n-(r+1)) (qO r)) T K g w
inductive CS:CTag->Nat->Nat×Tr->Nat->jZ->bO->U->Prop
 |skd {r:Nat} {T:Tr} {K:jZ} {g:bO} {w:U}:r<S.n->jQ P bB S Z (MV P S Q (S.n-(r+1)) (qO P S AnchW Q r)) T K g w->CS (.sp r 5) (S.n-(r+1)) (0,T) 0 K g w
 |sa1 {r:Nat} {T:Tr} {K:jZ} {g:bO} {w:U}:r<S.n->jQ P bB S Z (acU P S Q (S.n-(r+1)) (qO P S AnchW Q r)) T K g w->CS (.sp r 4) (S.n-(r+1)) (0,T) 1 K g w
 |ske {r:Nat} {T:Tr} {K:jZ} {g:bO} {w:U}:r<S.n->jQ P bB S Z (acG P S Q (S.n-(r+1)) (qO P S AnchW Q r)) T K g w->CS (.sp r 3) (S.n-(r+1)) (0,T) 1 K g w
 |sgo {r:Nat} {T:Tr} {K:jZ} {g:bO} {w:U}:r<S.n->jQ P bB S Z (WJ P S Q (S.n-(r+1)) (qO P S AnchW Q r)) T K g w->CS (.sp r 2) (S.n-(r+1)) (0,T) 0 K g w
 |kd {T:Tr} {K:jZ} {g:bO} {w:U}:jQ P bB S Z (AP P S AnchW) T K g w->CS .kd S.n (0,T) 0 K g w
 |anch {T:Tr} {K:jZ} {g:bO} {w:U}:jQ P bB S Z AnchW T K g w->CS .anch S.n (0,T) 1 K g w
 |w1 {T:Tr} {K:jZ} {g:bO} {w:U}:jQ P bB S Z (uN P S Fin AnchW) T K g w->CS .w1 S.n (0,T) 1 K g w
 |w2 {vs:Nat} {T:Tr} {K:jZ} {g:bO} {w:U}:jQ P bB S Z (Ji P S Fin AnchW vs) T K g w->CS (.w2 vs) S.n (0,T) 1 K g w
 |w3 {T:Tr} {K:jZ} {g:bO} {w:U}:jQ P bB S Z (Zu P S Fin) T K g w->CS .w3 S.n (1,T) 1 K g w
 |blk {K:jZ} {g:bO} {w:U}:(∀w₁,En S Z K w w₁->Zu P S Fin K g w₁)->CS .blk S.n (0,.leaf) 1 K { g with status:=.blocked } w
 |w4 {T:Tr} {K:jZ} {g:bO} {w:U}:jQ P bB S Z (acD P S Fin) T K g w->CS .w4 S.n (0,T) 1 K g w
 |ke {T:Tr} {K:jZ} {g:bO} {w:U}:jQ P bB S Z (X0 P S Fin) T K g w->CS .ke S.n (0,T) 1 K g w
 |acq {T:Tr} {K:jZ} {g:bO} {w:U}:jQ P bB S Z (Wy P S Fin) T K g w->CS .acq S.n (0,T) 0 K g w
 |ret {T:Tr} {K:jZ} {g:bO} {w:U}:jQ P bB S Z Fin T K g w->CS .ret S.n (0,T) 0 K g w
end
end
section
variable [p9]{P:cY}{S:Who}{Q:Left}{i:Nat}{K:jZ}{s d:Nat}{T:Tr}{g:bO}{w w₁:U}
theorem En.rw(h:En S (M i) K w w₁):RW S.ty S.Wg S.C S.n 0 i w w₁:=⟨λb q=>Xs q aA,h.live,h.pay,h.cell i rfl⟩
theorem WS.rely(E:Q.nN)(h:WS P S Q i K s T d g w)(q:En S (M i) K w w₁):WS P S Q i K s T d g w₁:=by
 cases h with
 |work h=>exact .work (h.rely q)
 |later h hs hq hh=>exact .later (h.rely q.rw) hs (E _ _ _ _ _ q.block hq) ((q.cell i rfl).trans hh)
theorem WS.status(h:WS P S Q i K s T d g w):g.status=eJ\/g.status=.finished:=by
 cases h with
 |work h=>exact cJ (h.running λ_ _ _ ⟨_,x,_⟩=>x.1)
 |later h _ _ _=>exact h.status
theorem WS.woken(h:WS P S Q i K s T d g w)(a a':bO)(w':U):Go.Conc.woken P a a' w' g=g:=by
 unfold Go.Conc.woken;split
 .exact again_running _ h.status
 .rfl
theorem WS.quits(h:WS P S Q i K s T d g w)(hs:s=1):∃m,T=Tr.chain m/\QuitsD P m d g/\∃v,Q i v K.O w/\Has S.C i v w:=by
 cases h with
 |work _=>cases hs
 |later h _ hq hh=>exact⟨_,rfl,h.quits hs,_,hq,hh⟩
theorem WS.running_of(h:WS P S Q i K s T d g w)(hs:2<=s):g.status=eJ:=by
 cases h with
 |work h=>exact h.running λ_ _ _ ⟨_,x,_⟩=>x.1
 |later h _ _ _=>exact h.running_of aA
variable {Fin AnchW:jZ->bO->U->Prop}{tag:CTag}{j:Nat}{f:Nat×Tr}
theorem CS.rely(h:CS P S Fin AnchW Q tag j f d K g w)(q:En S Z K w w₁):CS P S Fin AnchW Q tag j f d K g w₁:=by
 cases h with
 |skd hn h=>exact .skd hn (h.rely q)
 |sa1 hn h=>exact .sa1 hn (h.rely q)
 |ske hn h=>exact .ske hn (h.rely q)
 |sgo hn h=>exact .sgo hn (h.rely q)
 |kd h=>exact .kd (h.rely q)
 |anch h=>exact .anch (h.rely q)
 |w1 h=>exact .w1 (h.rely q)
 |w2 h=>exact .w2 (h.rely q)
 |w3 h=>exact .w3 (h.rely q)
 |blk h=>exact .blk (λI E=>h I (q.trans E))
 |w4 h=>exact .w4 (h.rely q)
 |ke h=>exact .ke (h.rely q)
 |acq h=>exact .acq (h.rely q)
 |ret h=>exact .ret (h.rely q)
theorem CS.status(E:∀K g w,Fin K g w->g.status=eJ)(q:∀K g w,AnchW K g w->g.status=eJ)(h:CS P S Fin AnchW Q tag j f d K g w):(g.status=eJ/\tag≠.blk)\/(g.status=.blocked/\tag=.blk):=by
 cases h with
 |skd _ h=>exact cJ ⟨h.running λ_ _ _ x=>x.1,aC⟩
 |sa1 _ h=>exact cJ ⟨h.running λ_ _ _ x=>x.1,aC⟩
 |ske _ h=>exact cJ ⟨h.running λ_ _ _ x=>x.1,aC⟩
 |sgo _ h=>exact cJ ⟨h.running λ_ _ _ x=>x.1,aC⟩
 |kd h=>exact cJ ⟨h.running λ_ _ _ x=>x.1,aC⟩
 |anch h=>exact cJ ⟨h.running q,aC⟩
 |w1 h=>exact cJ ⟨h.running λ_ _ _ x=>x.1,aC⟩
 |w2 h=>exact cJ ⟨h.running λ_ _ _ x=>x.1,aC⟩
 |w3 h=>exact cJ ⟨h.running λ_ _ _ x=>x.1,aC⟩
 |blk h=>simp
 |w4 h=>exact cJ ⟨h.running λ_ _ _ x=>x.1,aC⟩
 |ke h=>exact cJ ⟨h.running λ_ _ _ x=>x.1,aC⟩
 |acq h=>exact cJ ⟨h.running λ_ _ _ x=>x.1,aC⟩
 |ret h=>exact cJ ⟨h.running E,aC⟩
theorem CS.wokenBy(hF:∀K g w,Fin K g w->g.status=eJ)(hA:∀K g w,AnchW K g w->g.status=eJ)(h:CS P S Fin AnchW Q tag j f d K g w)(J:En S Z K w w₁)(x x':bO):∃q Y,CS P S Fin AnchW Q q j Y d K (woken P x x' w₁ g) w₁/\(q=tag\/(tag=.blk/\q=.w3))/\(mayWake P x=bB->x'.status=eJ->q≠.blk):=by
 have E:=h.rely J;unfold Go.Conc.woken;split
 .obtain⟨hs,I⟩|⟨_,rfl⟩:=E.status hF hA
  .exact⟨tag,f,by rw[again_running _ (cJ hs)];exact E,cJ rfl,λ_ _=>I⟩
  .cases E with
   |blk hb=>
    have h3:=hb w₁ (.refl ..);exact⟨_,(1,.leaf),by rw[again_blocked h3.1 h3.2.1];exact .w3 (T:=.leaf) hb,cK ⟨rfl,rfl⟩,λ_ _=>aC⟩
 grind
theorem CS.bound(h:CS P S Fin AnchW Q tag j f d K g w):j+pend tag<=S.n:=by
 cases h<;>simp only[pend]<;>(try simp)<;>omega
end
end
open Go.ConcR (KK wgBlock WgAt stA smA rd wr Payload DC0 Bk g_of_ofEvents again_blocked loc_of_ofEvent)
section
variable {Shun:Loc->Prop}{t:Trace}{g g' a':bO}{fn:FuncId}{pos:String}{es:Array mb}
section
variable [p9]
omit [Payload] in
theorem aaA{p q:Nat}(h:who p=who q):p=q:=by
 cases p<;>cases q<;>simp_all[who]
section
variable {S:Who}{w w':U}{es:Array mb}{j p q sz sz':Nat}{K:Nat->jZ}
omit [Payload] in
theorem KN.agF(A:KN S sz j K)(hp:p<=j):¬(K p).W S.Wg:=λh=>(A.o p hp _ (A.w p hp _ h)).2.1 rfl
theorem Gu.wg(A:KN S w.heap.size j K)(hp:p<=j)(h:Gu S (who p) (K p) w w' es):w'.heap[S.Wg]? =w.heap[S.Wg]?:=h.block _ A.hWg (A.agF hp) λe=>Xs e.symm A.ne
theorem Gu.en(A:KN S w.heap.size j K)(hp:p<=j)(J:q<=j)(E:q≠p)(h:Gu S (who p) (K p) w w' es):En S (who q) (K q) w w':=by refine⟨h.tape,h.os,h.output,h.size,λb I=>?_,λ⟨st,sm,Y⟩=>⟨st,sm,Y.of_block (h.wg A hp)⟩,h.pay,λi hi=>h.cells i λe=>E (aaA (hi.trans e)),λb I=>h.block b (by have:=A.lWg;have:=A.hWg;omega) (λhw=>by have:=A.lo p hp b hw;omega) λe=>by have:=A.lC;omega⟩;obtain⟨h1,h2,h3⟩:=A.o q J b I;exact h.block b h1 (λhw=>A.d p q hp J (Ne.symm E) b hw I) λe=>Xs e h3
theorem acH(A:KN S w.heap.size j K)(I:q<=j)(h:Aside S.Wg w w')(J:WgLive S.ty S.Wg w'):En S (who q) (K q) w w':=by refine⟨h.tape,h.os,h.output,jw h.size.symm,λb E=>h.block b (A.o q I b E).2.1,λ_=>J,λ⟨cs,Y,h2⟩=>⟨cs,(h.block _ A.ne).trans Y,h2⟩,λi _=>cell_of_block (h.block _ A.ne) i,λb E=>h.block b (by have:=A.lWg;omega)⟩
omit [Payload] in
theorem KN.grow(A:KN S sz j K)(hs:sz<=sz')(hp:p<=j):KN S sz' j (upd K p ((K p).grow sz sz')):=by
 have hWg:=A.hWg;have hC:=A.hC;refine⟨λq Y b E=>?_,λq Y b E=>?_,λa b ha E I x hx J=>?_,aP hWg hs,aP hC hs,A.ne,λq Y b E=>?_,A.lWg,A.lC⟩
 .rw[MQ]at E⊢;split
  .rename_i e;subst e;rw[ZD rfl]at E;exact E.imp (A.w q Y b) id
  .rename_i e;rw[Zs e]at E;exact A.w q Y b E
 .rw[MQ]at E;split at E
  .rename_i e;subst e;obtain E|⟨h1,h2⟩:=E
   .obtain⟨h1,h2⟩:=A.o q Y b E;omega
   omega
  .obtain⟨h1,h2⟩:=A.o q Y b E;omega
 .rw[MQ]at hx J;split at hx
  .rename_i e;subst e;rw[Zs (Ne.symm I)]at J;obtain hx|⟨h1,_⟩:=hx
   .exact A.d a b ha E I x hx J
   .have:=(A.o b E x J).1;omega
  .split at J
   .rename_i e;subst e;obtain J|⟨h1,_⟩:=J
    .exact A.d a b ha E I x hx J
    .have:=(A.o a ha x (A.w a ha x hx)).1;omega
   .exact A.d a b ha E I x hx J
 .rw[MQ]at E;split at E
  .rename_i e;subst e;exact E.elim (A.lo q Y b) λh=>by have:=A.lWg;omega
  .exact A.lo q Y b E
omit [Payload] in
theorem yE{α:Type}(f:Nat->α)(i:Nat):upd f i (f i)=f:=by funext a;rw[MQ];split<;>simp_all
end
section
variable {S:Who}{m:Nat}{K:Nat->jZ}{sz sz' j p:Nat}{fn:FuncId}{pos:String}{es:Array mb}
omit [Payload] in
theorem MR(r:Nat)(wr:Bool):cR ⟨.obj r,wr,aL⟩=.access ⟨.obj r,wr,aL⟩:=by cases wr<;>rfl
omit [Payload] in
theorem xJ(a:Addr)(wr:Bool):cR ⟨.cell a,wr,aL⟩=.access ⟨.cell a,wr,aL⟩:=by cases wr<;>rfl
omit [Payload] in
theorem Et(A:KN S sz j K)(hp:p<=j)(hs:sz<=sz'){e:mb}(h:EvM S (who p) (K p) sz sz' e):(∀x,(cR e).touch? =M x->Okt S p (K p) sz sz' x)/\(cR e).low sz'/\cR e≠.mark (.release (stA S.Wg))/\e.loc≠.mark .disable/\e.loc≠.mark .enable:=by
 have hWg:=A.hWg;have hC:=A.hC;obtain(⟨a,wr,rfl,I,h2⟩|⟨r,wr,rfl,I,h2⟩|⟨wr,J,rfl⟩|⟨f,wr,J,rfl⟩)|⟨i,wr,I,rfl⟩|⟨I,rfl|rfl⟩:=h
 .rw[xJ];refine⟨λx E=>?_,h2,aC,aC,aC⟩;simp only[gL,aK]at E;subst E;exact cJ ⟨_,rfl,h2,rfl,I⟩
 .rw[MR];refine⟨λx E=>?_,h2,aC,aC,aC⟩;simp only[gL,aK]at E;subst E;exact cJ ⟨r,rfl,h2,rfl,I⟩
 .exact⟨λx E=>by simp[cR,gL]at E,trivial,by simp[cR],aC,aC⟩
 .exact⟨λx E=>by simp[cR,gL]at E,trivial,by simp[cR],aC,aC⟩
 .rw[xJ];refine⟨λx E=>?_,(show S.C<sz' by omega),aC,aC,aC⟩;simp only[gL,aK]at E;subst E;exact cK (cJ ⟨i,I,rfl,rfl⟩)
 .refine⟨λx E=>?_,(show S.Wg<sz' by omega),by simp[cV,cR],by simp[cV],by simp[cV]⟩;simp only[cV,cR,gL,aK]at E;subst E;exact cK (cK ⟨⟨_,rfl,rfl⟩,aC,λ_=>by cases p with|zero=>rfl|succ p=>cases I⟩)
 .refine⟨λx E=>?_,(show S.Wg<sz' by omega),by simp[cV,cR],by simp[cV],by simp[cV]⟩;simp only[cV,cR,gL,aK]at E;subst E;exact cK (cK ⟨⟨_,rfl,rfl⟩,aC,λ_=>by cases p with|zero=>rfl|succ p=>cases I⟩)
omit [Payload] in
theorem TI.plain(J:1<=m)(A:KN S sz j K)(h:TI S Shun m t sz j K)(hp:p<=j)(hs:sz<=sz')(Y:∀e∈es,EvM S (who p) (K p) sz sz' e):TI S Shun m (t++eD (gno m p) fn pos es) sz' j (upd K p ((K p).grow sz sz')):=by
 refine h.app J A hp hs fS (λop E x hx=>?_) (λop E=>?_) (λop E=>?_)
 all_goals
  obtain⟨e,I,rfl⟩:=oB E;have:=Et A hp hs (Y e I)
 .exact this.1 x hx
 .exact this.2.1
 .exact this.2.2.1
def BkW(Wg:Nat)(e:mb):Prop:=Bk Wg e\/e=cV (.releaseMerge (stA Wg))\/e=cV (.acquire (stA Wg))
omit [Payload] in
theorem TI.book(hm:1<=m)(A:KN S sz j K)(h:TI S Shun m t sz j K)(hp:p<=j)(he:∀e∈es,BkW S.Wg e):TI S Shun m (t++eD (gno m p) fn pos es) sz j K:=by
 have hWg:=A.hWg;have e0:upd K p ((K p).grow sz sz)=K:=by rw[kP,yE]
 rw[<-e0];refine h.app hm A hp jE fS (λop J x I=>?_) (λop J=>?_) (λop J hr=>?_)
 all_goals
  obtain⟨e,Y,rfl⟩:=oB J
 .obtain(E|E|⟨a,wr,rfl,ha⟩)|rfl|rfl:=he e Y
  .simp only[lw E]at I;cases I
  .simp only[lw E]at I;cases I
  .simp only[Go.ConcR.ofEvent_cell,gL,aK]at I;subst I;exact cK (cK ⟨⟨a,rfl,ha⟩,aC,aC⟩)
  .simp[cV,cR,gL]at I
  .simp[cV,cR,gL]at I
 .obtain(E|E|⟨a,wr,rfl,ha⟩)|rfl|rfl:=he e Y
  .show(cR e).low sz;rw[lw E];trivial
  .show(cR e).low sz;rw[lw E];trivial
  .simp only[Go.ConcR.ofEvent_cell];show a.block<sz;omega
  .exact hWg
  .exact hWg
 .have hl:=loc_of_ofEvent hr;obtain(E|E|⟨a,wr,rfl,ha⟩)|rfl|rfl:=he e Y
  .rw[E]at hl;cases hl
  .rw[E]at hl;cases hl
  .cases hl
  .cases hl
  .cases hl
end
section
variable (P:cY)(S:Who)(Q:Left)(Shun:Loc->Prop)(m:Nat)
structure Co(j:Nat)(gs:Array bO)(w:U)(t:Trace)(D:Nat->WD)(F:Nat->Tr)(d0:Nat)(K:Nat->jZ)(q:Nat->Nat):Prop where
 size:gs.size=m+j
 wk:∀i,i<j->∃g,gs[m+i]? =M g/\WS P S Q i (K (i+1)) (D i).stage (F i) (D i).deaf g w
 old:∀i,0<i->i<m->∃g,gs[i]? =M g/\QuitsD P (q i) (Deaf t i) g
 ti:TI S Shun m t w.heap.size j K
 apt:KN S w.heap.size j K
 deaf0:Deaf t 0=d0
 deafW:∀i,i<j->Deaf t (m+i)=(D i).deaf
 rel:∀i,i<j->(D i).stage<=6->∃r,RelBy (stA S.Wg) t (m+i) r
 pay:rL S.C S.n w
def Acq(j:Nat)(t:Trace):Prop:=
 ∃q,t.act? q=M (.mark (.acquire (stA S.Wg)))/\t.g? q=M 0/\t.heard q/\∀i,i<j->∃r,RelBy (stA S.Wg) t (m+i) r/\r<q
end
section
variable {P:cY}{S:Who}{Q:Left}{Shun:Loc->Prop}{m j:Nat}{gs:Array bO}{w w':U}{t u:Trace}{D:Nat->WD}{F:Nat->Tr}{d0:Nat}{K:Nat->jZ}{q:Nat->Nat}
omit [Payload] in
theorem Acq.app(h:Acq S m j t)(Y:∀i r,i<j->RelBy (stA S.Wg) t (m+i) r->RelBy (stA S.Wg) (t++u) (m+i) r):Acq S m j (t++u):=by obtain⟨q,I,h2,h3,h4⟩:=h;have E:=lt_of_act? I;exact⟨q,by rw[act?_old E];exact I,by rw[g?_old E];exact h2,(heard_old E).2 h3,λi J=>let ⟨r,hr,hrq⟩:=h4 i J;⟨r,Y i r J hr,hrq⟩⟩
theorem Co.at(E:Q.nN)(h:Co P S Q Shun m j gs w t D F d0 K q)(d:Nat):Co P S Q Shun m j gs (w.at d) t D F d0 K q:=
 ⟨h.size,λi I=>let ⟨g,hg,hs⟩:=h.wk i I;⟨g,hg,hs.rely E (.at ..)⟩,h.old,h.ti,h.apt,h.deaf0,h.deafW,h.rel,h.pay⟩
theorem Co.stepW(hm:1<=m)(hQ:Q.nN)(h:Co P S Q Shun m j gs w t D F d0 K q){i:Nat}(hi:i<j){s' dd':Nat}{T':Tr}{Ki:jZ}(ah:∀p,p<=j->p≠i+1->En S (who p) (K p) w w')(ai:TI S Shun m (t++eD (m+i) fn pos es) w'.heap.size j (upd K (i+1) Ki))(aa:KN S w'.heap.size j (upd K (i+1) Ki))(ag:WS P S Q i Ki s' T' dd' g' w')(Y:gN (D i).deaf es=dd')(ab:s'<=6->∃r,RelBy (stA S.Wg) (t++eD (m+i) fn pos es) (m+i) r)(ac:rL S.C S.n w'):Co P S Q Shun m j ((gs.map (woken P g g' w')).setIfInBounds (m+i) g') w' (t++eD (m+i) fn pos es) (upd D i ⟨s',0,dd'⟩) (upd F i T') d0 (upd K (i+1) Ki) q:=by
 refine⟨by simp[h.size],λI E=>?_,λk hk af=>?_,ai,aa,by rw[mN t aA _ fS,h.deaf0],λI E=>?_,λI E J=>?_,ac⟩
 .by_cases e:I=i
  .subst e;exact⟨g',get_map_set_same _ _ _ (by rw[h.size];omega),by rw[fN,fN,fN];exact ag⟩
  .obtain⟨x,hx,ae⟩:=h.wk I E;refine⟨x,by rw[get_map_set _ _ _ _ aA,hx,cO,ae.woken],?_⟩;rw[lj D _ e,lj F _ e,lj K _ aA];exact ae.rely hQ (ah (I+1) aA aA)
 .obtain⟨x,hx,hq⟩:=h.old k hk af;refine⟨x,by rw[get_map_set _ _ _ _ aA,hx,cO,woken_quitsD hq],?_⟩;rw[mN t aA _ fS];exact hq
 .by_cases e:I=i
  .subst e;rw[Deaf_own,h.deafW I E,fN];exact Y
  .rw[mN t aA _ fS,h.deafW I E,lj D _ e]
 .by_cases e:I=i
  .subst e;rw[fN]at J;exact ab J
  .rw[lj D _ e]at J;obtain⟨r,hr⟩:=h.rel I E J;exact⟨r,hr.appOther fS aA⟩
theorem Co.step0(hm:1<=m)(hQ:Q.nN)(h:Co P S Q Shun m j gs w t D F d0 K q){a:bO}{K0:jZ}(ac:∀p,p<=j->p≠0->En S (who p) (K p) w w')(ae:TI S Shun m (t++eD 0 fn pos es) w'.heap.size j (upd K 0 K0))(E:KN S w'.heap.size j (upd K 0 K0))(J:rL S.C S.n w'):Co P S Q Shun m j ((gs.map (woken P a a' w')).setIfInBounds 0 a') w' (t++eD 0 fn pos es) D F (gN d0 es) (upd K 0 K0) q:=by
 refine⟨by simp[h.size],λi I=>?_,λk hk aa=>?_,ae,E,by rw[Deaf_own,h.deaf0],λi I=>by rw[mN t aA _ fS,h.deafW i I],λi I ab=>?_,J⟩
 .obtain⟨x,hx,Y⟩:=h.wk i I;exact⟨x,by rw[get_map_set _ _ _ _ aA,hx,cO,Y.woken],by rw[lj K _ aA];exact Y.rely hQ (ac (i+1) aA aA)⟩
 .obtain⟨x,hx,hq⟩:=h.old k hk aa;refine⟨x,by rw[get_map_set _ _ _ _ aA,hx,cO,woken_quitsD hq],?_⟩;rw[mN t aA _ fS];exact hq
 .obtain⟨r,hr⟩:=h.rel i I ab;exact⟨r,hr.appOther fS aA⟩
theorem Co.ae2(h:Co P S Q Shun m j gs w t D F d0 K q){k:Nat}(hk:0<k)(ac:k<m){n:Nat}(E:∀e∈es,Event.mute e=bB)(hq:QuitsD P n (gN (Deaf t k) es) g'):Co P S Q Shun m j ((gs.map (woken P g g' w)).setIfInBounds k g') w (t++eD k fn pos es) D F d0 K (upd q k n):=by
 refine⟨by simp[h.size],λi hi=>?_,λk' af J=>?_,?_,h.apt,by rw[mN t aA _ fS,h.deaf0],λi hi=>by rw[mN t aA _ fS,h.deafW i hi],λi hi ae=>?_,h.pay⟩
 .obtain⟨x,hx,ab⟩:=h.wk i hi;exact⟨x,by rw[get_map_set _ _ _ _ aA,hx,cO,ab.woken],ab⟩
 .by_cases e:k'=k
  .subst e;exact⟨g',get_map_set_same _ _ _ (by rw[h.size];omega),by rw[fN,Deaf_own];exact hq⟩
  .obtain⟨x,hx,aa⟩:=h.old k' af J;refine⟨x,by rw[get_map_set _ _ _ _ aA,hx,cO,woken_quitsD aa],?_⟩;rw[mN t aA _ fS,lj q _ e];exact aa
 .refine h.ti.mute ac fS (λop I=>?_) (λop I=>?_) (λop I hr=>?_)
  all_goals obtain⟨e,he,rfl⟩:=oB I
  .exact touch_mute (E e he)
  .exact low_mute (E e he) _
  .have Y:=loc_of_ofEvent hr;have:=E e he;obtain h1|h1|⟨a,wr,rfl,_⟩:=Go.ConcR.bk_of_mute (Wg:=0) this
   .rw[h1]at Y;cases Y
   .rw[h1]at Y;cases Y
   .cases Y
 .obtain⟨r,hr⟩:=h.rel i hi ae;exact⟨r,hr.appOther fS aA⟩
theorem Co.spawn(hm:1<=m)(h:Co P S Q Shun m j gs w t D F 0 K q){Y:bO}{x y:MemOp}{T:Tr}{K0 Kc:jZ}(hx:x.g=0/\x.act=.go (m+j))(hy:y.g=m+j/\y.act=.start)(aj:∀b,K0.O b->(K 0).O b)(ag:∀b,K0.W b->(K 0).W b)(ai:∀b,Kc.O b->(K 0).O b)(ah:∀b,Kc.W b->(K 0).W b)(d1:∀b,K0.W b->¬Kc.O b)(d2:∀b,Kc.W b->¬K0.O b)(w0:∀b,K0.W b->K0.O b)(wc:∀b,Kc.W b->Kc.O b)(hc:jQ P aL S (M j) (uJ P S Q j) T Kc Y w):Co P S Q Shun m (j+1) ((gs.setIfInBounds 0 a').push Y) w (t++#[x,y]) (upd D j ⟨7,0,0⟩) (upd F j T) 0 (upd (upd K 0 K0) (j+1) Kc) q:=by
 have A:=h.apt;have an:∀op∈#[x,y],op=x\/op=y:=by intro op ab;simpa using ab
 have af:∀op∈#[x,y],op.act≠.mark .disable/\op.act≠.mark .enable:=by
  intro op ab;obtain rfl|rfl:=an op ab
  .grind
  .grind
 have old:∀p,p<=j->p≠0->upd (upd K 0 K0) (j+1) Kc p=K p:=λp hp h0=>by rw[lj _ _ aA,lj _ _ h0]
 have ac:upd (upd K 0 K0) (j+1) Kc 0=K0:=by rw[lj _ _ aA,fN]
 refine⟨by simp[h.size];omega,λi hi=>?_,λk hk ao=>?_,h.ti.fork hx hy h.deaf0 aj ag ai ah,⟨λp hp b E=>?_,λp hp b E=>?_,λp p' hp hp' ae b E I=>?_,A.hWg,A.hC,A.ne,λp hp b E=>?lo,A.lWg,A.lC⟩,by rw[Deaf_still t 0 _ af,h.deaf0],λi hi=>?_,λi hi hs=>?_,h.pay⟩
 case lo=>
  by_cases e:p=j+1
  .subst e;rw[fN]at E;exact A.lo 0 aA b (ah b E)
  .by_cases J:p=0
   .subst J;rw[ac]at E;exact A.lo 0 aA b (ag b E)
   .rw[old p aA J]at E;exact A.lo p aA b E
 .obtain aa|ak:=gG i j
  .obtain⟨g,hg,aq⟩:=h.wk i aa;refine⟨g,?_,by rw[lj D _ aA,lj F _ aA,old _ aA aA];exact aq⟩
   grind
  .obtain rfl:i=j:=by omega
   refine⟨Y,?_,by rw[fN,fN,fN];exact .work hc⟩;rw[show m+i=(gs.setIfInBounds 0 a').size by simp[h.size],Array.getElem?_push_size]
 .obtain⟨g,hg,ap⟩:=h.old k hk ao;refine⟨g,?_,by rw[Deaf_still t _ _ af];exact ap⟩
  grind
 .by_cases e:p=j+1
  .subst e;rw[fN]at E⊢;exact wc b E
  .by_cases J:p=0
   .grind
   .rw[old p aA J]at E⊢;exact A.w p aA b E
 .by_cases e:p=j+1
  .subst e;rw[fN]at E;exact A.o 0 aA b (ai b E)
  .by_cases J:p=0
   .subst J;rw[ac]at E;exact A.o 0 aA b (aj b E)
   .rw[old p aA J]at E;exact A.o p aA b E
 .by_cases e:p=j+1
  .subst e;rw[fN]at E;by_cases J:p'=0
   .grind
   .rw[old p' aA J]at I;exact A.d 0 p' aA aA (Ne.symm J) b (ah b E) I
  .by_cases J:p=0
   .subst J;rw[ac]at E;by_cases e':p'=j+1
    .subst e';rw[fN]at I;exact d1 b E I
    .rw[old p' aA (Ne.symm ae)]at I;exact A.d 0 p' aA aA ae b (ag b E) I
   .rw[old p aA J]at E;by_cases e':p'=j+1
    .subst e';rw[fN]at I;exact A.d p 0 aA aA J b E (ai b I)
    .by_cases am:p'=0
     .subst am;rw[ac]at I;exact A.d p 0 aA aA J b E (aj b I)
     .rw[old p' aA am]at I;exact A.d p p' aA aA ae b E I
 .rw[Deaf_still t _ _ af];obtain aa|ak:=gG i j
  .rw[h.deafW i aa,lj D _ aA]
  .obtain rfl:i=j:=by omega
   rw[fN];exact h.ti.above _ jE
 .obtain aa|ak:=gG i j
  .rw[lj D _ aA]at hs;obtain⟨r,hr⟩:=h.rel i aa hs;refine⟨r,hr.appNot λop ab=>?_⟩
   grind
  .obtain rfl:i=j:=by omega
   rw[fN]at hs;simp at hs
end
end
end
open Go.ConcR (KK wgBlock WgAt stA smA rd wr Payload DC0 Bk g_of_ofEvents again_blocked loc_of_ofEvent bk_of_mute ofEvent_loc_mark)
section
variable {g:bO}{es:Array mb}
section
variable [p9](P:cY)(S:Who)(Q:Left)(Shun:Loc->Prop)(m:Nat)(Fin AnchW:jZ->bO->U->Prop)
def Inv(μ:Mu)(mc:Machine)(t:Trace):Prop:=
 ∃(E:Array bO)(w:U)(sl:Option (Nat×Nat))(j:Nat)(D:Nat->WD)(F:Nat->Tr)(tag:CTag)(Y:Nat×Tr)(I:Nat)(K:Nat->jZ)(a:bO)(st J:Int)(q:Nat->Nat),
  mc=crowd E w sl/\E[0]? =M a/\CS P S Fin AnchW Q tag j Y I (K 0) a w/\Co P S Q Shun m j E w t D F I K q/\WgAt S.ty S.Wg w st J/\ir j D tag st J/\(tag=.ret->Acq S m j t)/\
   μ=((sumTo m q,phi S.n (Vc j D) tag+Ssum j D),(F,Y))
def Down(I:Mu)(J:Machine)(t:Trace)(i:Nat):Prop:=∃q ops E,runT P J i=(.next q,ops)/\qA S.n E I/\Inv P S Q Shun m Fin AnchW E q (t++ops)
end
section
variable [p9]{P:cY}{S:Who}{Q:Left}{Shun:Loc->Prop}{m:Nat}{Fin AnchW:jZ->bO->U->Prop}
 {gs:Array bO} {w w':U} {sl:Option (Nat×Nat)} {j:Nat} {D:Nat->WD} {F:Nat->Tr} {tag:CTag} {f0:Nat×Tr} {d0:Nat} {K:Nat->jZ} {a:bO} {t:Trace} {st sm:Int} {q:Nat->Nat}
theorem DF(hm:1<=m)(hQ:Q.nN)(hF:∀K g w,Fin K g w->g.status=eJ)(hA:∀K g w,AnchW K g w->g.status=eJ)(ha:gs[0]? =M a)(ah:CS P S Fin AnchW Q tag j f0 d0 (K 0) a w)(an:Co P S Q Shun m j gs w t D F d0 K q){i:Nat}(hi:i<j){g':bO}{s' dd':Nat}{T':Tr}{Ki:jZ}{ab Y:Int}(hg:gs[m+i]? =M g)(au:eB P aL g w=.go g' w' es)(af:∀p,p<=j->p≠i+1->En S (who p) (K p) w w')(ar:TI S Shun m (t++eD (m+i) g.frame.fn g.frame.place es) w'.heap.size j (upd K (i+1) Ki))(ac:KN S w'.heap.size j (upd K (i+1) Ki))(am:WS P S Q i Ki s' T' dd' g' w')(J:gN (D i).deaf es=dd')(ae:s'<=6->∃r,RelBy (stA S.Wg) (t++eD (m+i) g.frame.fn g.frame.place es) (m+i) r)(ai:rL S.C S.n w')(av:WgAt S.ty S.Wg w' ab Y)(aa:∀E,(E=tag\/(tag=.blk/\E=.w3))->(mayWake P g=bB->g'.status=eJ->E≠.blk)->ir j (upd D i ⟨s',0,dd'⟩) E ab Y)(aw:tag=.ret->Acq S m j (t++eD (m+i) g.frame.fn g.frame.place es))(ak:(s'<(D i).stage/\cnt ⟨s',0,dd'⟩<=cnt (D i))\/(s'=(D i).stage/\Tr.Lt T' (F i))):Down P S Q Shun m Fin AnchW ((sumTo m q,phi S.n (Vc j D) tag+Ssum j D),(F,f0)) (crowd gs w sl) t (m+i):=by
 obtain⟨E,f',aj,I,aq⟩:=ah.wokenBy hF hA (af 0 aA aA) g g';have ao:(m+i == 0)=aL:=aF
 have ag:=runT_crowd_go (P:=P) (sl:=sl) (i:=m+i) hg (by rw[ao];exact au);have e1:=sumTo_upd D (⟨s',0,dd'⟩) cnt hi;have e2:=sumTo_upd D (⟨s',0,dd'⟩) WD.stage hi;have hb:=ah.bound
 refine⟨_,_,_,ag,?_,
  _,w',sl,j,_,_,E,f',d0,_,woken P g g' w' a,ab,Y,q,rfl,by grind,by rw[lj K _ aA];exact aj,an.stepW hm hQ hi af ar ac am J ae ai,av,aa E I aq,?_,rfl⟩
 .rw[phi_retag S.n _ I];simp only[Vc,Ssum]at *;obtain⟨h1,h2⟩|⟨h1,h2⟩:=ak
  .refine qA.stage ?_;have:=phi_mono S.n (v':=sumTo j λa=>cnt (upd D i ⟨s',0,dd'⟩ a)) (v:=sumTo j λa=>cnt (D a)) aA tag;omega
  .have ec:cnt (⟨s',0,dd'⟩:WD)=cnt (D i):=by simp only[cnt,h1]
   have ev:(sumTo j λa=>cnt (upd D i ⟨s',0,dd'⟩ a))=sumTo j λa=>cnt (D a):=aA
   have ap:(sumTo j λa=>(upd D i ⟨s',0,dd'⟩ a).stage)=sumTo j λa=>(D a).stage:=aA
   rw[ev,ap];exact qA.way ⟨i,aA,by rw[fN];exact h2,λk hk=>lj F _ hk⟩
 .grind
omit [Payload] in
theorem aea{Wg:Nat}(h:∀e∈es,Bk Wg e):∀e∈es,BkW Wg e:=λe q=>cJ (h e q)
theorem ad1(hm:1<=m)(hQ:Q.nN)(hF:∀K g w,Fin K g w->g.status=eJ)(hA:∀K g w,AnchW K g w->g.status=eJ)(hn:S.n<2147483648)(ha:gs[0]? =M a)(a3:CS P S Fin AnchW Q tag j f0 d0 (K 0) a w)(ac:Co P S Q Shun m j gs w t D F d0 K q)(ab:WgAt S.ty S.Wg w st sm)(aa:ir j D tag st sm)(bo:tag=.ret->Acq S m j t){i:Nat}(hi:i<j)(hg:gs[m+i]? =M g)(a6:g.status=eJ):Down P S Q Shun m Fin AnchW ((sumTo m q,phi S.n (Vc j D) tag+Ssum j D),(F,f0)) (crowd gs w sl) t (m+i):=by
 obtain⟨bq,bx,hs⟩:=ac.wk i hi;obtain rfl:g=bq:=by grind
 have A:=ac.apt;have ai:i+1<=j:=hi;generalize af:(D i).stage=s at hs;generalize bm:F i=T at hs;generalize a4:(D i).deaf=dd at hs;have hb:=a3.bound;have b5:=Vc_le j D;have ba:Deaf t (m+i)=dd:=by rw[ac.deafW i hi,a4]
 have nr:s≠1->tag≠.ret:=λh=>aa.not_ret hi aA;have am:=yE K (i+1);cases hs with
 |work h=>
  obtain⟨v,J,hq⟩|⟨f,g',w',es,rfl,E,ah,hT⟩:=h.cases
  .obtain⟨_,bl,g',E,an,hk⟩:=J;have bg:Has S.C i v w:=by simpa using bl
   refine DF hm hQ hF hA ha a3 ac hi hg E (λp _ _=>.refl ..) (Ki:=K _) (T':=Tr.chain an) (s':=6) (dd':=0) (by rw[am];exact ac.ti.book hm A (p:=i+1) ai (by intro e Y;simp at Y;subst Y;exact cK (cJ rfl))) (by rw[am];exact A)
    (.later (.k1 hk) aA hq bg) (by rw[a4];rfl) (λ_=>⟨_,RelBy.new ba _ _⟩) ac.pay ab (λ_ ht _=>(aa.counted hi aA (cJ rfl) _ _).retag ht) (λe=>Xs e (nr aA)) (cJ ⟨aA,by simp[cnt,af]⟩)
  .refine DF hm hQ hF hA ha a3 ac hi hg E (λp hp bs=>Gu.en (p:=i+1) A ai hp bs ah) (Ki:=(K _).grow _ _) (T':=f w) (s':=7) (dd':=0) (ac.ti.plain hm A (p:=i+1) ai ah.size ah.events) (A.grow ah.size ai)
    (.work hT) ?_ (λh=>aA) (ah.pay ac.pay) (ab.of_block (Gu.wg (p:=i+1) A ai ah)) (λ_ ht _=>Go.ConcN.Mode.retag (by have:=aa.same (i:=i) 0 0;rwa[af]at this) ht) (λe=>Xs e (nr aA)) (cK ⟨af.symm,by rw[bm];exact Tr.lt f w⟩)
   rw[a4];exact deafBehind_idle (λe Y=>⟨(Et A (p:=i+1) ai ah.size (ah.events e Y)).2.2.2.1,(Et A (p:=i+1) ai ah.size (ah.events e Y)).2.2.2.2⟩) 0
 |later h h6 hq hh=>
  rename_i v mf
  have ay:∀{g':bO}{w':U}{es:Array mb}{s' m' dd':Nat}{au av:Int},eB P aL g w=.go g' w' es->Aside S.Wg w w'->WgAt S.ty S.Wg w' au av->(∀e∈es,Bk S.Wg e)->
    (∀jx e,es[jx]? =M e->(cR e).touch? =Z\/0<gN dd (es.extract 0 jx))->WSit P S.ty S.Wg S.C S.n qw qw 0 (i+1) v s' m' dd' g' w'->gN dd es=dd'->
    (∀ag,(ag=tag\/(tag=.blk/\ag=.w3))->(mayWake P g=bB->g'.status=eJ->ag≠.blk)->ir j (upd D i ⟨s',0,dd'⟩) ag au av)->(tag=.ret->Acq S m j (t++eD (m+i) g.frame.fn g.frame.place es))->
    ((s'<s/\cnt ⟨s',0,dd'⟩<=cnt (D i))\/(s'=s/\mf=m'+1))->
    Down P S Q Shun m Fin AnchW ((sumTo m q,phi S.n (Vc j D) tag+Ssum j D),(F,f0)) (crowd gs w sl) t (m+i):=by
   intro g' w' es s' m' dd' au av E aw ar aq hd ax bh aj ap a2;have bu:s'<=6:=by rcases a2 with⟨h,_⟩|⟨h,_⟩<;>omega
   have br:∀p,p<=j->En S (who p) (K p) w w':=λp hp=>acH A hp aw ⟨_,_,ar⟩;have bd:=br _ ai
   refine DF hm hQ hF hA ha a3 ac hi hg E (λp hp _=>br p hp) (Ki:=K _) (T':=Tr.chain m') (by rw[am,aw.size];exact ac.ti.book hm A (p:=i+1) ai (aea aq)) (by rw[am,aw.size];exact A)
    (.later ax bu (hQ _ _ _ _ _ bd.block hq) ((bd.cell i rfl).trans hh)) (by rw[a4];exact bh) (λ_=>let ⟨r,hr⟩:=ac.rel i hi aA;⟨r,hr.book ba _ _ aq hd⟩) (bd.pay ac.pay) ar aj ap ?_
   rw[af,bm];exact a2.imp id λ⟨h1,h2⟩=>⟨h1,by rw[h2];exact Tr.Xm m'⟩
  have book:∀{g':bO}{w':U}{es:Array mb}{s' m' dd':Nat}{au av:Int},eB P aL g w=.go g' w' es->Aside S.Wg w w'->WgAt S.ty S.Wg w' au av->(∀e∈es,Bk S.Wg e)->
    (∀jx e,es[jx]? =M e->(cR e).touch? =Z\/0<gN dd (es.extract 0 jx))->WSit P S.ty S.Wg S.C S.n qw qw 0 (i+1) v s' m' dd' g' w'->gN dd es=dd'->
    ir j (upd D i ⟨s',0,dd'⟩) tag au av->(tag=.ret->Acq S m j (t++eD (m+i) g.frame.fn g.frame.place es))->((s'<s/\cnt ⟨s',0,dd'⟩<=cnt (D i))\/(s'=s/\mf=m'+1))->
    Down P S Q Shun m Fin AnchW ((sumTo m q,phi S.n (Vc j D) tag+Ssum j D),(F,f0)) (crowd gs w sl) t (m+i):=
   λE aw ar aq hd ax bh aj ap a2=>ay E aw ar aq hd ax bh (λ_ ht _=>aj.retag ht) ap a2
  have ao:∀{g':bO}{m':Nat},eB P aL g w=.go g' w #[]->WSit P S.ty S.Wg S.C S.n qw qw 0 (i+1) v s m' dd g' w->mf=m'+1->s≠1->
    Down P S Q Shun m Fin AnchW ((sumTo m q,phi S.n (Vc j D) tag+Ssum j D),(F,f0)) (crowd gs w sl) t (m+i):=by
   intro g' m' E ax bz h1;exact book E (.refl _ w) ab aC aC ax rfl (by have:=aa.same (i:=i) 0 dd;rwa[af]at this) (λe=>Xs e (nr h1)) (cK ⟨rfl,bz⟩)
  cases h with
  |r0 _=>omega
  |k1 h=>
   obtain J|⟨m',rfl,I⟩:=o6 h
   .obtain⟨_,g',E,an,hk⟩:=J w (jN w)
    exact book E (.refl _ w) ab (by intro e Y;simp at Y;subst Y;exact cJ rfl) (by intro jx e Y;exact cJ (by have:=gK Y;simp at this;subst this;rfl)) (.d1 hk) rfl
     (aa.counted hi aA (cK rfl) _ _) (λe=>Xs e (nr aA)) (cJ ⟨aA,by simp[cnt,af]⟩)
   .obtain⟨g',w',es,E,⟨rfl,rfl⟩,ak⟩:=I w (jN w);exact ao E (.k1 ak) rfl aA
  |d1 h=>
   obtain J|⟨m',rfl,I⟩:=o6 h
   .obtain⟨_,a5⟩:=J w (jN w);have b1:cnt (D i)=1:=by simp[cnt,af]
    have b4:1<=Vc j D:=by have:=le_sumTo (f:=λx=>cnt (D x)) hi;simp only[Vc];omega
    have a7:∀e∈#[rd (stA S.Wg),wr (stA S.Wg)],Bk S.Wg e:=by intro e Y;simp at Y;rcases Y with rfl|rfl<;>exact bk_cell _ _ rfl
    have bb:∀jx e,(#[rd (stA S.Wg),wr (stA S.Wg)]:Array mb)[jx]? =M e->(cR e).touch? =Z\/0<gN 1 ((#[rd (stA S.Wg),wr (stA S.Wg)]:Array mb).extract 0 jx):=by
     intro jx e Y
     match jx,Y with
     |0,_=>exact cK (by simp[gN])
     |1,_=>exact cK (by simp[gN,rd])
     |jx+2,Y=>simp at Y
    have b3:cnt (⟨1,0,1⟩:WD)=0:=rfl
    have opq:OpenSt j D->OpenSt j (upd D i ⟨1,0,1⟩):=λh a ha=>by
     by_cases e:a=i
     .subst e;rw[fN];simp
     .rw[lj D _ e];exact h a ha
    cases aa with
    |opn h1 h2 h3=>
     obtain⟨v,hv⟩:∃v,Vc j D+pend tag=v+1:=⟨Vc j D+pend tag-1,aA⟩
     rw[hv]at ab;have a8:WgAt S.ty S.Wg w (((v:Nat)+1)*KK+((0:Nat):Int)) 0:=by simpa using ab
     obtain⟨g',E,_,hq⟩:=a5 v 0 aA aA a8;obtain⟨qq,hq⟩:=hq aA;have bj:Vc j (upd D i ⟨1,0,1⟩)+pend tag=v:=by have:=Vc_upd D (⟨1,0,1⟩) hi;omega
     refine book E (mh w (stA S.Wg) _) (ab.setSt _) a7 bb (.quit hq) rfl ?_ (λe=>Xs e (nr aA)) (cJ ⟨aA,by simp[cnt]⟩);have e:((v:Nat):Int)*KK+((0:Nat):Int)=((Vc j (upd D i ⟨1,0,1⟩)+pend tag:Nat):Int)*KK:=by rw[bj];simp
     rw[e];exact .opn h1 (opq h2) (λvs ev=>by have:=h3 vs ev;omega)
    |reg h1 h2 h3=>
     obtain⟨v,hv⟩:∃v,Vc j D=v+1:=⟨Vc j D-1,aA⟩
     rw[hv]at ab;have hp:pend tag=0:=by cases tag<;>first|rfl|exact h1.elim
     have a8:WgAt S.ty S.Wg w (((v:Nat)+1)*KK+((1:Nat):Int)) 0:=by simpa using ab
     obtain⟨g',E,hl,hq⟩:=a5 v 1 aA aA a8;by_cases b0:v=0
     .subst b0;obtain⟨an,hk⟩:=hl ⟨rfl,rfl⟩;refine book E (mh w (stA S.Wg) _) (ab.setSt _) a7 bb (.d2 hk) rfl ?_ (λe=>Xs e (nr aA)) (cJ ⟨aA,by simp[cnt]⟩)
      have ae:∀a,a<j->a≠i->(D a).stage=1:=λa ha e=>by
       have c0:=others_uncounted hi hv b1 a ha e;have:=h2 a ha;simp only[cnt]at c0;split at c0<;>omega
      have:=Go.ConcN.Mode.last (j:=j) (D:=upd D i ⟨4,0,1⟩) (tag:=tag) i h1 hi (by rw[fN];simp) (λa ha e=>by rw[lj D _ e];exact ae a ha e);rw[fN]at this;simpa using this
     .obtain⟨qq,hq⟩:=hq aA;have bj:Vc j (upd D i ⟨1,0,1⟩)=v:=by have:=Vc_upd D (⟨1,0,1⟩) hi;omega
      refine book E (mh w (stA S.Wg) _) (ab.setSt _) a7 bb (.quit hq) rfl ?_ (λe=>Xs e (nr aA)) (cJ ⟨aA,by simp[cnt]⟩);have e:((v:Nat):Int)*KK+((1:Nat):Int)=((Vc j (upd D i ⟨1,0,1⟩):Nat):Int)*KK+1:=by rw[bj];simp
      rw[e];exact .reg h1 (opq h2) aA
    |last L _ h2 h3 h4=>
     grind
    |sema h2=>have:=h2 i hi;omega
    |fin _ h2=>have:=h2 i hi;omega
   .obtain⟨g',w',es,E,⟨rfl,rfl⟩,ak⟩:=I w (jN w);exact ao E (.d1 ak) rfl aA
  |d2 h=>
   obtain J|⟨m',rfl,I⟩:=o6 h
   .obtain⟨_,hx⟩:=J w (jN w);obtain⟨az,ae,rfl,rfl⟩:=aa.isLast hi aA;simp only[af]at ab;obtain⟨g',E,an,hk⟩:=hx (by simpa using ab);refine book E (.refl _ w) ab (by intro e Y;simp at Y;subst Y;exact bk_cell _ _ rfl) (by intro jx e Y;match jx,Y with|0,_=>exact cK (by simp[gN])|jx+1,Y=>simp at Y) (.d3 hk) rfl ?_ (λe=>Xs e (nr aA)) (cJ ⟨aA,by simp[cnt]⟩);have:=Go.ConcN.Mode.last (j:=j) (D:=upd D i ⟨3,0,1⟩) (tag:=tag) i az hi (by rw[fN];simp) (λa ha e=>by rw[lj D _ e];exact ae a ha e);rw[fN]at this;simpa using this
   .obtain⟨g',w',es,E,⟨rfl,rfl⟩,ak⟩:=I w (jN w);exact ao E (.d2 ak) rfl aA
  |d3 h=>
   obtain J|⟨m',rfl,I⟩:=o6 h
   .obtain⟨_,hx⟩:=J w (jN w);obtain⟨az,ae,rfl,rfl⟩:=aa.isLast hi aA;simp only[af]at ab;obtain⟨g',E,an,hk⟩:=hx (by simpa using ab);refine book E (mh w (stA S.Wg) _) (ab.setSt 0) (by intro e Y;simp at Y;subst Y;exact bk_cell _ _ rfl) (by intro jx e Y;match jx,Y with|0,_=>exact cK (by simp[gN])|jx+1,Y=>simp at Y) (.d4 hk) rfl ?_ (λe=>Xs e (nr aA)) (cJ ⟨aA,by simp[cnt]⟩);have:=Go.ConcN.Mode.last (j:=j) (D:=upd D i ⟨2,0,1⟩) (tag:=tag) i az hi (by rw[fN];simp) (λa ha e=>by rw[lj D _ e];exact ae a ha e);rw[fN]at this;simpa using this
   .obtain⟨g',w',es,E,⟨rfl,rfl⟩,ak⟩:=I w (jN w);exact ao E (.d3 ak) rfl aA
  |d4 h=>
   obtain J|⟨m',rfl,I⟩:=o6 h
   .obtain⟨_,bv,hx⟩:=J w (jN w);obtain⟨az,ae,rfl,rfl⟩:=aa.isLast hi aA;simp only[af]at ab;obtain⟨g',E,qq,hq⟩:=hx (by simpa using ab)
    have a9:g'.status=eJ:=by
     cases qq with
     |zero=>exact Xs hq.2 aB
     |succ qq=>exact hq.elim (λx=>Xs x.2 aB) (λx=>x.1)
    refine ay E (mh w (smA S.Wg) _) (ab.setSm 1) (es:=semEvents _) bk_sem ?_ (.quit hq) (by simp[gN,semEvents]) ?_ (λe=>Xs e (nr aA)) (cJ ⟨aA,by simp[cnt]⟩)
    .intro jx e Y
     match jx,Y with
     |0,Y=>simp[semEvents]at Y;subst Y;exact cJ rfl
     |1,_=>exact cK (by simp[gN,semEvents])
     |2,_=>exact cK (by simp[gN,semEvents])
     |3,Y=>simp[semEvents]at Y;subst Y;exact cJ rfl
     |jx+4,Y=>simp[semEvents]at Y
    .intro ag ht hw;have bw:=hw bv a9
     have e3:ag=.w3:=by
      obtain rfl|⟨_,rfl⟩:=ht
      .cases ag<;>first|rfl|exact az.elim|exact Xs rfl bw
      .rfl
     subst e3;simp only[if_true]
     exact .sema λa ha=>by
      by_cases e:a=i
      .subst e;rw[fN]
      .rw[lj D _ e];exact ae a ha e
   .obtain⟨g',w',es,E,⟨rfl,rfl⟩,ak⟩:=I w (jN w);exact ao E (.d4 ak) rfl aA
  |quit h=>
   cases mf with
   |zero=>rw[h.1]at a6;cases a6
   |succ qq=>
    obtain⟨hf,_⟩|⟨_,g',es,a1,I,hq⟩:=h
    .grind
    .have aq:∀e∈es,Bk S.Wg e:=λe Y=>bk_of_mute (a1 e Y);have bk:∀jx e,es[jx]? =M e->(cR e).touch? =Z\/0<gN dd (es.extract 0 jx):=λjx e Y=>cJ (touch_mute (a1 e (gK Y)));refine book (I w) (.refl _ w) ab aq bk (.quit hq) rfl (by have:=aa.same (i:=i) 0 (gN dd es);rwa[af]at this) (λe=>(bo e).app λi' r b2 hr=>?_) (cK ⟨rfl,rfl⟩);by_cases e':i'=i
     .subst e';exact hr.book ba _ _ aq bk
     .exact hr.appOther fS aA
theorem aao(hF:∀K g w,Fin K g w->g.status=eJ)(hA:∀K g w,AnchW K g w->g.status=eJ)(ha:gs[0]? =M a)(am:CS P S Fin AnchW Q tag j f0 d0 (K 0) a w)(ag:Co P S Q Shun m j gs w t D F d0 K q)(ap:WgAt S.ty S.Wg w st sm)(ab:ir j D tag st sm)(aj:tag=.ret->Acq S m j t){k:Nat}(hk:0<k)(J:k<m)(hg:gs[k]? =M g)(I:g.status=eJ):Down P S Q Shun m Fin AnchW ((sumTo m q,phi S.n (Vc j D) tag+Ssum j D),(F,f0)) (crowd gs w sl) t k:=by
 obtain⟨ah,ao,hq⟩:=ag.old k hk J;obtain rfl:g=ah:=by grind
 cases Y:q k with
 |zero=>rw[Y]at hq;rw[hq.1]at I;cases I
 |succ n=>
  rw[Y]at hq;obtain⟨hf,_⟩|⟨_,g',es,ae,ac,an⟩:=hq
  .grind
  obtain⟨af,f',ai,E,ar⟩:=am.wokenBy hF hA (.refl S Z _ w) g g';have ak:(k == 0)=aL:=aF
  have aa:=runT_crowd_go (P:=P) (sl:=sl) (i:=k) hg (by rw[ak];exact ac w)
  have aq:sumTo m (upd q k n)+(n+1)=sumTo m q+n:=by
   have:=sumTo_upd q n id J;simpa[Y]using this
  refine⟨_,_,_,aa,qA.quit aA,
   _,w,sl,j,D,F,af,f',d0,K,_,st,sm,_,rfl,by grind,ai,ag.ae2 hk J ae an,ap,ab.retag E,λe=>?_,rfl⟩
  obtain rfl|⟨_,rfl⟩:=E
  .exact(aj e).app λi r _ hr=>hr.appOther fS aA
  .cases e
end
end
end Cr
