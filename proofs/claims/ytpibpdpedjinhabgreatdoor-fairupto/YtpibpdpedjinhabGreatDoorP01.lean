import Derived.Test.YtpibpdpedjinhabGreatDoorP00
set_option maxRecDepth 100000
set_option maxHeartbeats 1600000
set_option linter.all false
open Bool renaming false->aR,true->bB
open Go renaming Event->lh,Goroutine->cA,Program->cU,World->X,deafBehind->gC,stepG->dC
open Go.Conc renaming Deaf_other->mr,aside_setCell->ir,mem_ofEvents->nA
open Go.Conc.Goes renaming cases->oj
open Go.ConcN renaming Mode->ii,PayAt->py,upd_ne->ju,upd_same->eW
open Go.ConcN.RW renaming refl->jb
open Go.ConcR renaming Payload->pc,g_of_ofEvents->eR,mk->cX,ofEvent_loc_mark->kv
open Go.GoStatus renaming running->eC
open Go.MemAct renaming ofEvent->cV,touch?->gH
open Go.MemOp renaming ofEvents->dE
open Option renaming none->Z,some->M
open Or renaming inl->bN,inr->cF
namespace Go.Proofs.YtpibpdpedjinhabGreatDoor
namespace Cr
open Go Go.Conc Go.ConcN
open Go.ConcR (KK wgBlock WgAt stA smA rd wr Payload DC0 Bk g_of_ofEvents again_blocked)
section
section
variable [pc](P:cU)(S:Who)
abbrev pO:Nat->Loc->Prop:=λ_ _=>False
abbrev Left:=Nat->Value->(Nat->Prop)->X->Prop
def Left.nR(Q:Left):Prop:=∀i v O w w₁,(∀b,O b->w₁.heap[b]? =w.heap[b]?)->Q i v O w->Q i v O w₁
def tC(Q:Left)(i:Nat)(K:kC)(g:cA)(w:X):Prop:=∃v,AtR0 P S.ty S.Wg S.C S.n 0 (i+1) v g w/\Q i v K.O w
inductive WS(Q:Left)(i:Nat)(K:kC):Nat->Tr->Nat->cA->X->Prop
 |work {T:Tr} {g:cA} {w:X}:jT P aR S (M i) (tC P S Q i) T K g w->WS Q i K 7 T 0 g w
 |later {v:Value} {s m d:Nat} {g:cA} {w:X}:WSit P S.ty S.Wg S.C S.n pO pO 0 (i+1) v s m d g w->s<=6->Q i v K.O w->Has S.C i v w->WS Q i K s (Tr.chain m) d g w
section
variable (Fin AnchW:kC->cA->X->Prop)
def VZ(K:kC)(g:cA)(w:X):Prop:=
 g.status=eC/\∃g',dC P bB g w=.go g' w #[cX (.acquire (stA S.Wg))]/\∃T,jT P bB S Z Fin T K g' w
def Xy(K:kC)(g:cA)(w:X):Prop:=
 g.status=eC/\∃g',dC P bB g w=.go g' w #[cX .enable]/\∃T,jT P bB S Z (VZ P S Fin) T K g' w
def abO(K:kC)(g:cA)(w:X):Prop:=
 g.status=eC/\(WgAt S.ty S.Wg w 0 0->∃g',dC P bB g w=.go g' w #[rd (stA S.Wg)]/\∃T,jT P bB S Z (Xy P S Fin) T K g' w)
def YM(K:kC)(g:cA)(w:X):Prop:=
 g.status=eC/\g.offers=Z/\((∃st,WgAt S.ty S.Wg w st 0)->dC P bB g w=.go { g with status:=.blocked } w #[])/\
  (WgAt S.ty S.Wg w 0 1->∃g',dC P bB g w=.go g' (w.setCell (smA S.Wg) (.int .u32 0)) (semEvents (smA S.Wg))/\∃T,jT P bB S Z (abO P S Fin) T K g' (w.setCell (smA S.Wg) (.int .u32 0)))
def G6(vs:Nat)(K:kC)(g:cA)(w:X):Prop:=
 g.status=eC/\∀v:Nat,v<2147483648->WgAt S.ty S.Wg w (v*KK) 0->
  (v=vs->∃g',dC P bB g w=.go g' (w.setCell (stA S.Wg) (.int .u64 (v*KK+1))) #[rd (stA S.Wg),wr (stA S.Wg)]/\∃T,jT P bB S Z (YM P S Fin) T K g' (w.setCell (stA S.Wg) (.int .u64 (v*KK+1))))/\
  (v≠vs->∃g',dC P bB g w=.go g' w #[rd (stA S.Wg)]/\∃T,jT P bB S Z AnchW T K g' w)
def tV(K:kC)(g:cA)(w:X):Prop:=
 g.status=eC/\∀v:Nat,v<2147483648->WgAt S.ty S.Wg w (v*KK) 0->∃g',dC P bB g w=.go g' w #[rd (stA S.Wg)]/\
  (v=0->∃T,jT P bB S Z (Xy P S Fin) T K g' w)/\(v≠0->∃T,jT P bB S Z (G6 P S Fin AnchW v) T K g' w)
def zy(K:kC)(g:cA)(w:X):Prop:=
 g.status=eC/\∃g',dC P bB g w=.go g' w #[cX .disable]/\∃T,jT P bB S Z AnchW T K g' w
variable (Q:Left)
def Wn(i:Nat)(I:kC->cA->X->Prop)(K:kC)(g:cA)(w:X):Prop:=
 g.status=eC/\∃g' z K0 E,dC P bB g w=.spawn g' z w #[]/\z.status=eC/\(∀b,K0.O b->K.O b)/\(∀b,K0.W b->K.W b)/\(∀b,E.O b->K.O b)/\(∀b,E.W b->K.W b)/\
  (∀b,K0.W b->¬E.O b)/\(∀b,E.W b->¬K0.O b)/\(∀b,K0.W b->K0.O b)/\(∀b,E.W b->E.O b)/\
  (py S.C S.n w->WgLive S.ty S.Wg w->∃T,jT P aR S (M i) (tC P S Q i) T E z w)/\I K0 g' w
def abT(i:Nat)(z:kC->cA->X->Prop)(K:kC)(g:cA)(w:X):Prop:=
 g.status=eC/\∃g',dC P bB g w=.go g' w #[cX .enable]/\∃T,jT P bB S Z (Wn P S Q i z) T K g' w
def ab9(i:Nat)(z:kC->cA->X->Prop)(K:kC)(g:cA)(w:X):Prop:=
 g.status=eC/\∀v:Nat,v<2147483647->WgAt S.ty S.Wg w (v*KK) 0->
  ∃g',dC P bB g w=.go g' (w.setCell (stA S.Wg) (.int .u64 ((v+1)*KK))) #[rd (stA S.Wg),wr (stA S.Wg)]/\∃T,jT P bB S Z (abT P S Q i z) T K g' (w.setCell (stA S.Wg) (.int .u64 ((v+1)*KK)))
def Lj(i:Nat)(z:kC->cA->X->Prop)(K:kC)(g:cA)(w:X):Prop:=
 g.status=eC/\∃g',dC P bB g w=.go g' w #[cX .disable]/\∃T,jT P bB S Z (ab9 P S Q i z) T K g' w
def qA:Nat->kC->cA->X->Prop
 |0,K,g,w=>∃T,jT P bB S Z (zy P S AnchW) T K g w
 |r+1,K,g,w=>∃T,jT P bB S Z (Lj P S Q (S.n-(r+1)) (qA r)) T K g w
inductive CS:CTag->Nat->Nat×Tr->Nat->kC->cA->X->Prop
 |skd {r:Nat} {T:Tr} {K:kC} {g:cA} {w:X}:r<S.n->jT P bB S Z (Lj P S Q (S.n-(r+1)) (qA P S AnchW Q r)) T K g w->CS (.sp r 5) (S.n-(r+1)) (0,T) 0 K g w
 |sa1 {r:Nat} {T:Tr} {K:kC} {g:cA} {w:X}:r<S.n->jT P bB S Z (ab9 P S Q (S.n-(r+1)) (qA P S AnchW Q r)) T K g w->CS (.sp r 4) (S.n-(r+1)) (0,T) 1 K g w
 |ske {r:Nat} {T:Tr} {K:kC} {g:cA} {w:X}:r<S.n->jT P bB S Z (abT P S Q (S.n-(r+1)) (qA P S AnchW Q r)) T K g w->CS (.sp r 3) (S.n-(r+1)) (0,T) 1 K g w
 |sgo {r:Nat} {T:Tr} {K:kC} {g:cA} {w:X}:r<S.n->jT P bB S Z (Wn P S Q (S.n-(r+1)) (qA P S AnchW Q r)) T K g w->CS (.sp r 2) (S.n-(r+1)) (0,T) 0 K g w
 |kd {T:Tr} {K:kC} {g:cA} {w:X}:jT P bB S Z (zy P S AnchW) T K g w->CS .kd S.n (0,T) 0 K g w
 |anch {T:Tr} {K:kC} {g:cA} {w:X}:jT P bB S Z AnchW T K g w->CS .anch S.n (0,T) 1 K g w
 |w1 {T:Tr} {K:kC} {g:cA} {w:X}:jT P bB S Z (tV P S Fin AnchW) T K g w->CS .w1 S.n (0,T) 1 K g w
 |w2 {vs:Nat} {T:Tr} {K:kC} {g:cA} {w:X}:jT P bB S Z (G6 P S Fin AnchW vs) T K g w->CS (.w2 vs) S.n (0,T) 1 K g w
 |w3 {T:Tr} {K:kC} {g:cA} {w:X}:jT P bB S Z (YM P S Fin) T K g w->CS .w3 S.n (1,T) 1 K g w
 |blk {K:kC} {g:cA} {w:X}:(∀w₁,En S Z K w w₁->YM P S Fin K g w₁)->CS .blk S.n (0,.leaf) 1 K { g with status:=.blocked } w
 |w4 {T:Tr} {K:kC} {g:cA} {w:X}:jT P bB S Z (abO P S Fin) T K g w->CS .w4 S.n (0,T) 1 K g w
 |ke {T:Tr} {K:kC} {g:cA} {w:X}:jT P bB S Z (Xy P S Fin) T K g w->CS .ke S.n (0,T) 1 K g w
 |acq {T:Tr} {K:kC} {g:cA} {w:X}:jT P bB S Z (VZ P S Fin) T K g w->CS .acq S.n (0,T) 0 K g w
 |ret {T:Tr} {K:kC} {g:cA} {w:X}:jT P bB S Z Fin T K g w->CS .ret S.n (0,T) 0 K g w
end
end
section
variable [pc]{P:cU}{S:Who}{Q:Left}{i:Nat}{K:kC}{s d:Nat}{T:Tr}{g:cA}{w w₁:X}
def En.rw(h:En S (M i) K w w₁):RW S.ty S.Wg S.C S.n 0 i w w₁:=⟨λb z=>Xs z aA,h.live,h.pay,h.cell i rfl⟩
def WS.rely(E:Q.nR)(h:WS P S Q i K s T d g w)(z:En S (M i) K w w₁):WS P S Q i K s T d g w₁:=by
 cases h with
 |work h=>exact .work (h.rely z)
 |later h hs hq hh=>exact .later (h.rely z.rw) hs (E _ _ _ _ _ z.block hq) ((z.cell i rfl).trans hh)
def WS.status(h:WS P S Q i K s T d g w):g.status=eC\/g.status=.finished:=by
 cases h with
 |work h=>exact bN (h.running λ_ _ _ ⟨_,x,_⟩=>x.1)
 |later h _ _ _=>exact h.status
def WS.woken(h:WS P S Q i K s T d g w)(a a':cA)(w':X):Go.Conc.woken P a a' w' g=g:=by
 unfold Go.Conc.woken;split
 .exact again_running _ h.status
 .rfl
def WS.quits(h:WS P S Q i K s T d g w)(hs:s=1):∃m,T=Tr.chain m/\QuitsD P m d g/\∃v,Q i v K.O w/\Has S.C i v w:=by
 cases h with
 |work _=>cases hs
 |later h _ hq hh=>exact⟨_,rfl,h.quits hs,_,hq,hh⟩
def WS.running_of(h:WS P S Q i K s T d g w)(hs:2<=s):g.status=eC:=by
 cases h with
 |work h=>exact h.running λ_ _ _ ⟨_,x,_⟩=>x.1
 |later h _ _ _=>exact h.running_of aA
variable {Fin AnchW:kC->cA->X->Prop}{tag:CTag}{j:Nat}{f:Nat×Tr}
def CS.rely(h:CS P S Fin AnchW Q tag j f d K g w)(z:En S Z K w w₁):CS P S Fin AnchW Q tag j f d K g w₁:=by
 cases h with
 |skd hn h=>exact .skd hn (h.rely z)
 |sa1 hn h=>exact .sa1 hn (h.rely z)
 |ske hn h=>exact .ske hn (h.rely z)
 |sgo hn h=>exact .sgo hn (h.rely z)
 |kd h=>exact .kd (h.rely z)
 |anch h=>exact .anch (h.rely z)
 |w1 h=>exact .w1 (h.rely z)
 |w2 h=>exact .w2 (h.rely z)
 |w3 h=>exact .w3 (h.rely z)
 |blk h=>exact .blk (λI E=>h I (z.trans E))
 |w4 h=>exact .w4 (h.rely z)
 |ke h=>exact .ke (h.rely z)
 |acq h=>exact .acq (h.rely z)
 |ret h=>exact .ret (h.rely z)
def CS.status(E:∀K g w,Fin K g w->g.status=eC)(z:∀K g w,AnchW K g w->g.status=eC)(h:CS P S Fin AnchW Q tag j f d K g w):(g.status=eC/\tag≠.blk)\/(g.status=.blocked/\tag=.blk):=by
 cases h with
 |skd _ h=>exact bN ⟨h.running λ_ _ _ x=>x.1,aC⟩
 |sa1 _ h=>exact bN ⟨h.running λ_ _ _ x=>x.1,aC⟩
 |ske _ h=>exact bN ⟨h.running λ_ _ _ x=>x.1,aC⟩
 |sgo _ h=>exact bN ⟨h.running λ_ _ _ x=>x.1,aC⟩
 |kd h=>exact bN ⟨h.running λ_ _ _ x=>x.1,aC⟩
 |anch h=>exact bN ⟨h.running z,aC⟩
 |w1 h=>exact bN ⟨h.running λ_ _ _ x=>x.1,aC⟩
 |w2 h=>exact bN ⟨h.running λ_ _ _ x=>x.1,aC⟩
 |w3 h=>exact bN ⟨h.running λ_ _ _ x=>x.1,aC⟩
 |blk h=>simp
 |w4 h=>exact bN ⟨h.running λ_ _ _ x=>x.1,aC⟩
 |ke h=>exact bN ⟨h.running λ_ _ _ x=>x.1,aC⟩
 |acq h=>exact bN ⟨h.running λ_ _ _ x=>x.1,aC⟩
 |ret h=>exact bN ⟨h.running E,aC⟩
def CS.wokenBy(hF:∀K g w,Fin K g w->g.status=eC)(Y:∀K g w,AnchW K g w->g.status=eC)(h:CS P S Fin AnchW Q tag j f d K g w)(J:En S Z K w w₁)(x x':cA):∃z R,CS P S Fin AnchW Q z j R d K (woken P x x' w₁ g) w₁/\(z=tag\/(tag=.blk/\z=.w3))/\(mayWake P x=bB->x'.status=eC->z≠.blk):=by
 have E:=h.rely J;unfold Go.Conc.woken;split
 .obtain⟨hs,I⟩|⟨_,rfl⟩:=E.status hF Y
  .exact⟨tag,f,by rw[again_running _ (bN hs)];exact E,bN rfl,λ_ _=>I⟩
  .cases E with
   |blk hb=>
    have h3:=hb w₁ (.refl ..);exact⟨_,(1,.leaf),by rw[again_blocked h3.1 h3.2.1];exact .w3 (T:=.leaf) hb,cF ⟨rfl,rfl⟩,λ_ _=>aC⟩
 grind
def CS.bound(h:CS P S Fin AnchW Q tag j f d K g w):j+pend tag<=S.n:=by
 cases h<;>simp only[pend]<;>(try simp)<;>omega
end
end
open Go.ConcR (KK wgBlock WgAt stA smA rd wr Payload DC0 Bk g_of_ofEvents again_blocked loc_of_ofEvent)
section
variable {Shun:Loc->Prop}{t:Trace}{g g' a':cA}{fn:FuncId}{pos:String}{es:Array lh}
section
variable [pc]
omit [Payload] in
def ZJ{p q:Nat}(h:who p=who q):p=q:=by
 cases p<;>cases q<;>simp_all[who]
section
variable {S:Who}{w w':X}{es:Array lh}{j p q sz sz':Nat}{K:Nat->kC}
omit [Payload] in
def Jy.agY(A:Jy S sz j K)(hp:p<=j):¬(K p).W S.Wg:=λh=>(A.o p hp _ (A.w p hp _ h)).2.1 rfl
def Gu.wg(A:Jy S w.heap.size j K)(hp:p<=j)(h:Gu S (who p) (K p) w w' es):w'.heap[S.Wg]? =w.heap[S.Wg]?:=h.block _ A.hWg (A.agY hp) λe=>Xs e.symm A.ne
def Gu.en(A:Jy S w.heap.size j K)(hp:p<=j)(I:q<=j)(z:q≠p)(h:Gu S (who p) (K p) w w' es):En S (who q) (K q) w w':=by refine⟨h.tape,h.os,h.output,h.size,λb E=>?_,λ⟨st,Y,J⟩=>⟨st,Y,J.of_block (h.wg A hp)⟩,h.pay,λi hi=>h.cells i λe=>z (ZJ (hi.trans e)),λb E=>h.block b (by have:=A.lWg;have:=A.hWg;omega) (λhw=>by have:=A.lo p hp b hw;omega) λe=>by have:=A.lC;omega⟩;obtain⟨R,h2,h3⟩:=A.o q I b E;exact h.block b R (λhw=>A.d p q hp I (Ne.symm z) b hw E) λe=>Xs e h3
def abU(A:Jy S w.heap.size j K)(E:q<=j)(h:Aside S.Wg w w')(I:WgLive S.ty S.Wg w'):En S (who q) (K q) w w':=by refine⟨h.tape,h.os,h.output,jq h.size.symm,λb z=>h.block b (A.o q E b z).2.1,λ_=>I,λ⟨cs,J,h2⟩=>⟨cs,(h.block _ A.ne).trans J,h2⟩,λi _=>cell_of_block (h.block _ A.ne) i,λb z=>h.block b (by have:=A.lWg;omega)⟩
omit [Payload] in
def Jy.grow(A:Jy S sz j K)(hs:sz<=sz')(hp:p<=j):Jy S sz' j (upd K p ((K p).grow sz sz')):=by
 have hWg:=A.hWg;have hC:=A.hC;refine⟨λq J b z=>?_,λq J b z=>?_,λa b Y z E x R I=>?_,aP hWg hs,aP hC hs,A.ne,λq J b z=>?_,A.lWg,A.lC⟩
 .rw[Ld]at z⊢;split
  .rename_i e;subst e;rw[ZD rfl]at z;exact z.imp (A.w q J b) id
  .rename_i e;rw[Zs e]at z;exact A.w q J b z
 .rw[Ld]at z;split at z
  .rename_i e;subst e;obtain z|⟨h1,h2⟩:=z
   .obtain⟨h1,h2⟩:=A.o q J b z;omega
   omega
  .obtain⟨h1,h2⟩:=A.o q J b z;omega
 .rw[Ld]at R I;split at R
  .rename_i e;subst e;rw[Zs (Ne.symm E)]at I;obtain R|⟨h1,_⟩:=R
   .exact A.d a b Y z E x R I
   .have:=(A.o b z x I).1;omega
  .split at I
   .rename_i e;subst e;obtain I|⟨h1,_⟩:=I
    .exact A.d a b Y z E x R I
    .have:=(A.o a Y x (A.w a Y x R)).1;omega
   .exact A.d a b Y z E x R I
 .rw[Ld]at z;split at z
  .rename_i e;subst e;exact z.elim (A.lo q J b) λh=>by have:=A.lWg;omega
  .exact A.lo q J b z
omit [Payload] in
def xu{α:Type}(f:Nat->α)(i:Nat):upd f i (f i)=f:=by funext a;rw[Ld];split<;>simp_all
end
section
variable {S:Who}{m:Nat}{K:Nat->kC}{sz sz' j p:Nat}{fn:FuncId}{pos:String}{es:Array lh}
omit [Payload] in
def Le(r:Nat)(wr:Bool):cV ⟨.obj r,wr,aR⟩=.access ⟨.obj r,wr,aR⟩:=by cases wr<;>rfl
omit [Payload] in
def vX(a:Addr)(wr:Bool):cV ⟨.cell a,wr,aR⟩=.access ⟨.cell a,wr,aR⟩:=by cases wr<;>rfl
omit [Payload] in
def CX(A:Jy S sz j K)(hp:p<=j)(hs:sz<=sz'){e:lh}(h:EvM S (who p) (K p) sz sz' e):(∀x,(cV e).touch? =M x->Okt S p (K p) sz sz' x)/\(cV e).low sz'/\cV e≠.mark (.release (stA S.Wg))/\e.loc≠.mark .disable/\e.loc≠.mark .enable:=by
 have hWg:=A.hWg;have hC:=A.hC;obtain(⟨a,wr,rfl,E,h2⟩|⟨r,wr,rfl,E,h2⟩|⟨wr,I,rfl⟩|⟨f,wr,I,rfl⟩)|⟨i,wr,E,rfl⟩|⟨E,rfl|rfl⟩:=h
 .rw[vX];refine⟨λx z=>?_,h2,aC,aC,aC⟩;simp only[gH,aK]at z;subst z;exact bN ⟨_,rfl,h2,rfl,E⟩
 .rw[Le];refine⟨λx z=>?_,h2,aC,aC,aC⟩;simp only[gH,aK]at z;subst z;exact bN ⟨r,rfl,h2,rfl,E⟩
 .exact⟨λx z=>by simp[cV,gH]at z,trivial,by simp[cV],aC,aC⟩
 .exact⟨λx z=>by simp[cV,gH]at z,trivial,by simp[cV],aC,aC⟩
 .rw[vX];refine⟨λx z=>?_,(show S.C<sz' by omega),aC,aC,aC⟩;simp only[gH,aK]at z;subst z;exact cF (bN ⟨i,E,rfl,rfl⟩)
 .refine⟨λx z=>?_,(show S.Wg<sz' by omega),by simp[cX,cV],by simp[cX],by simp[cX]⟩;simp only[cX,cV,gH,aK]at z;subst z;exact cF (cF ⟨⟨_,rfl,rfl⟩,aC,λ_=>by cases p with|zero=>rfl|succ p=>cases E⟩)
 .refine⟨λx z=>?_,(show S.Wg<sz' by omega),by simp[cX,cV],by simp[cX],by simp[cX]⟩;simp only[cX,cV,gH,aK]at z;subst z;exact cF (cF ⟨⟨_,rfl,rfl⟩,aC,λ_=>by cases p with|zero=>rfl|succ p=>cases E⟩)
omit [Payload] in
def TI.plain(I:1<=m)(A:Jy S sz j K)(h:TI S Shun m t sz j K)(hp:p<=j)(hs:sz<=sz')(J:∀e∈es,EvM S (who p) (K p) sz sz' e):TI S Shun m (t++dE (gno m p) fn pos es) sz' j (upd K p ((K p).grow sz sz')):=by
 refine h.app I A hp hs eR (λop z x R=>?_) (λop z=>?_) (λop z=>?_)
 all_goals
  obtain⟨e,E,rfl⟩:=nA z;have:=CX A hp hs (J e E)
 .exact this.1 x R
 .exact this.2.1
 .exact this.2.2.1
def ZX(Wg:Nat)(e:lh):Prop:=Bk Wg e\/e=cX (.releaseMerge (stA Wg))\/e=cX (.acquire (stA Wg))
omit [Payload] in
def TI.book(hm:1<=m)(A:Jy S sz j K)(h:TI S Shun m t sz j K)(hp:p<=j)(Y:∀e∈es,ZX S.Wg e):TI S Shun m (t++dE (gno m p) fn pos es) sz j K:=by
 have hWg:=A.hWg;have e0:upd K p ((K p).grow sz sz)=K:=by rw[kR,xu]
 rw[<-e0];refine h.app hm A hp jB eR (λop I x E=>?_) (λop I=>?_) (λop I hr=>?_)
 all_goals
  obtain⟨e,J,rfl⟩:=nA I
 .obtain(z|z|⟨a,wr,rfl,ha⟩)|rfl|rfl:=Y e J
  .simp only[kv z]at E;cases E
  .simp only[kv z]at E;cases E
  .simp only[Go.ConcR.ofEvent_cell,gH,aK]at E;subst E;exact cF (cF ⟨⟨a,rfl,ha⟩,aC,aC⟩)
  .simp[cX,cV,gH]at E
  .simp[cX,cV,gH]at E
 .obtain(z|z|⟨a,wr,rfl,ha⟩)|rfl|rfl:=Y e J
  .show(cV e).low sz;rw[kv z];trivial
  .show(cV e).low sz;rw[kv z];trivial
  .simp only[Go.ConcR.ofEvent_cell];show a.block<sz;omega
  .exact hWg
  .exact hWg
 .have R:=loc_of_ofEvent hr;obtain(z|z|⟨a,wr,rfl,ha⟩)|rfl|rfl:=Y e J
  .rw[z]at R;cases R
  .rw[z]at R;cases R
  .cases R
  .cases R
  .cases R
end
section
variable (P:cU)(S:Who)(Q:Left)(Shun:Loc->Prop)(m:Nat)
structure Co(j:Nat)(gs:Array cA)(w:X)(t:Trace)(D:Nat->WD)(F:Nat->Tr)(d0:Nat)(K:Nat->kC)(q:Nat->Nat):Prop where
 size:gs.size=m+j
 wk:∀i,i<j->∃g,gs[m+i]? =M g/\WS P S Q i (K (i+1)) (D i).stage (F i) (D i).deaf g w
 old:∀i,0<i->i<m->∃g,gs[i]? =M g/\QuitsD P (q i) (Deaf t i) g
 ti:TI S Shun m t w.heap.size j K
 apt:Jy S w.heap.size j K
 deaf0:Deaf t 0=d0
 deafW:∀i,i<j->Deaf t (m+i)=(D i).deaf
 rel:∀i,i<j->(D i).stage<=6->∃r,RelBy (stA S.Wg) t (m+i) r
 pay:py S.C S.n w
def Acq(j:Nat)(t:Trace):Prop:=
 ∃q,t.act? q=M (.mark (.acquire (stA S.Wg)))/\t.g? q=M 0/\t.heard q/\∀i,i<j->∃r,RelBy (stA S.Wg) t (m+i) r/\r<q
end
section
variable {P:cU}{S:Who}{Q:Left}{Shun:Loc->Prop}{m j:Nat}{gs:Array cA}{w w':X}{t u:Trace}{D:Nat->WD}{F:Nat->Tr}{d0:Nat}{K:Nat->kC}{q:Nat->Nat}
omit [Payload] in
def Acq.app(h:Acq S m j t)(J:∀i r,i<j->RelBy (stA S.Wg) t (m+i) r->RelBy (stA S.Wg) (t++u) (m+i) r):Acq S m j (t++u):=by obtain⟨q,E,h2,h3,h4⟩:=h;have z:=lt_of_act? E;exact⟨q,by rw[act?_old z];exact E,by rw[g?_old z];exact h2,(heard_old z).2 h3,λi I=>let ⟨r,hr,hrq⟩:=h4 i I;⟨r,J i r I hr,hrq⟩⟩
def Co.at(z:Q.nR)(h:Co P S Q Shun m j gs w t D F d0 K q)(d:Nat):Co P S Q Shun m j gs (w.at d) t D F d0 K q:=
 ⟨h.size,λi E=>let ⟨g,hg,hs⟩:=h.wk i E;⟨g,hg,hs.rely z (.at ..)⟩,h.old,h.ti,h.apt,h.deaf0,h.deafW,h.rel,h.pay⟩
def Co.stepW(hm:1<=m)(hQ:Q.nR)(h:Co P S Q Shun m j gs w t D F d0 K q){i:Nat}(hi:i<j){s' dd':Nat}{T':Tr}{Ki:kC}(ag:∀p,p<=j->p≠i+1->En S (who p) (K p) w w')(ah:TI S Shun m (t++dE (m+i) fn pos es) w'.heap.size j (upd K (i+1) Ki))(R:Jy S w'.heap.size j (upd K (i+1) Ki))(af:WS P S Q i Ki s' T' dd' g' w')(J:gC (D i).deaf es=dd')(Y:s'<=6->∃r,RelBy (stA S.Wg) (t++dE (m+i) fn pos es) (m+i) r)(aa:py S.C S.n w'):Co P S Q Shun m j ((gs.map (woken P g g' w')).setIfInBounds (m+i) g') w' (t++dE (m+i) fn pos es) (upd D i ⟨s',0,dd'⟩) (upd F i T') d0 (upd K (i+1) Ki) q:=by
 refine⟨by simp[h.size],λE z=>?_,λk hk ae=>?_,ah,R,by rw[mr t aA _ eR,h.deaf0],λE z=>?_,λE z I=>?_,aa⟩
 .by_cases e:E=i
  .subst e;exact⟨g',get_map_set_same _ _ _ (by rw[h.size];omega),by rw[eW,eW,eW];exact af⟩
  .obtain⟨x,hx,ac⟩:=h.wk E z;refine⟨x,by rw[get_map_set _ _ _ _ aA,hx,cO,ac.woken],?_⟩;rw[ju D _ e,ju F _ e,ju K _ aA];exact ac.rely hQ (ag (E+1) aA aA)
 .obtain⟨x,hx,hq⟩:=h.old k hk ae;refine⟨x,by rw[get_map_set _ _ _ _ aA,hx,cO,woken_quitsD hq],?_⟩;rw[mr t aA _ eR];exact hq
 .by_cases e:E=i
  .subst e;rw[Deaf_own,h.deafW E z,eW];exact J
  .rw[mr t aA _ eR,h.deafW E z,ju D _ e]
 .by_cases e:E=i
  .subst e;rw[eW]at I;exact Y I
  .rw[ju D _ e]at I;obtain⟨r,hr⟩:=h.rel E z I;exact⟨r,hr.appOther eR aA⟩
def Co.step0(hm:1<=m)(hQ:Q.nR)(h:Co P S Q Shun m j gs w t D F d0 K q){a:cA}{K0:kC}(aa:∀p,p<=j->p≠0->En S (who p) (K p) w w')(ac:TI S Shun m (t++dE 0 fn pos es) w'.heap.size j (upd K 0 K0))(z:Jy S w'.heap.size j (upd K 0 K0))(I:py S.C S.n w'):Co P S Q Shun m j ((gs.map (woken P a a' w')).setIfInBounds 0 a') w' (t++dE 0 fn pos es) D F (gC d0 es) (upd K 0 K0) q:=by
 refine⟨by simp[h.size],λi E=>?_,λk hk R=>?_,ac,z,by rw[Deaf_own,h.deaf0],λi E=>by rw[mr t aA _ eR,h.deafW i E],λi E Y=>?_,I⟩
 .obtain⟨x,hx,J⟩:=h.wk i E;exact⟨x,by rw[get_map_set _ _ _ _ aA,hx,cO,J.woken],by rw[ju K _ aA];exact J.rely hQ (aa (i+1) aA aA)⟩
 .obtain⟨x,hx,hq⟩:=h.old k hk R;refine⟨x,by rw[get_map_set _ _ _ _ aA,hx,cO,woken_quitsD hq],?_⟩;rw[mr t aA _ eR];exact hq
 .obtain⟨r,hr⟩:=h.rel i E Y;exact⟨r,hr.appOther eR aA⟩
def Co.aeZ(h:Co P S Q Shun m j gs w t D F d0 K q){k:Nat}(hk:0<k)(ac:k<m){n:Nat}(z:∀e∈es,Event.mute e=bB)(hq:QuitsD P n (gC (Deaf t k) es) g'):Co P S Q Shun m j ((gs.map (woken P g g' w)).setIfInBounds k g') w (t++dE k fn pos es) D F d0 K (upd q k n):=by
 refine⟨by simp[h.size],λi R=>?_,λk' af I=>?_,?_,h.apt,by rw[mr t aA _ eR,h.deaf0],λi R=>by rw[mr t aA _ eR,h.deafW i R],λi R ae=>?_,h.pay⟩
 .obtain⟨x,hx,aa⟩:=h.wk i R;exact⟨x,by rw[get_map_set _ _ _ _ aA,hx,cO,aa.woken],aa⟩
 .by_cases e:k'=k
  .subst e;exact⟨g',get_map_set_same _ _ _ (by rw[h.size];omega),by rw[eW,Deaf_own];exact hq⟩
  .obtain⟨x,hx,Y⟩:=h.old k' af I;refine⟨x,by rw[get_map_set _ _ _ _ aA,hx,cO,woken_quitsD Y],?_⟩;rw[mr t aA _ eR,ju q _ e];exact Y
 .refine h.ti.mute ac eR (λop E=>?_) (λop E=>?_) (λop E hr=>?_)
  all_goals obtain⟨e,he,rfl⟩:=nA E
  .exact touch_mute (z e he)
  .exact low_mute (z e he) _
  .have J:=loc_of_ofEvent hr;have:=z e he;obtain h1|h1|⟨a,wr,rfl,_⟩:=Go.ConcR.bk_of_mute (Wg:=0) this
   .rw[h1]at J;cases J
   .rw[h1]at J;cases J
   .cases J
 .obtain⟨r,hr⟩:=h.rel i R ae;exact⟨r,hr.appOther eR aA⟩
def Co.spawn(hm:1<=m)(h:Co P S Q Shun m j gs w t D F 0 K q){J:cA}{x y:MemOp}{T:Tr}{K0 Kc:kC}(hx:x.g=0/\x.act=.go (m+j))(hy:y.g=m+j/\y.act=.start)(aj:∀b,K0.O b->(K 0).O b)(ag:∀b,K0.W b->(K 0).W b)(ai:∀b,Kc.O b->(K 0).O b)(ah:∀b,Kc.W b->(K 0).W b)(d1:∀b,K0.W b->¬Kc.O b)(d2:∀b,Kc.W b->¬K0.O b)(w0:∀b,K0.W b->K0.O b)(wc:∀b,Kc.W b->Kc.O b)(hc:jT P aR S (M j) (tC P S Q j) T Kc J w):Co P S Q Shun m (j+1) ((gs.setIfInBounds 0 a').push J) w (t++#[x,y]) (upd D j ⟨7,0,0⟩) (upd F j T) 0 (upd (upd K 0 K0) (j+1) Kc) q:=by
 have A:=h.apt;have an:∀op∈#[x,y],op=x\/op=y:=by intro op aa;simpa using aa
 have af:∀op∈#[x,y],op.act≠.mark .disable/\op.act≠.mark .enable:=by
  intro op aa;obtain rfl|rfl:=an op aa
  .grind
  .grind
 have old:∀p,p<=j->p≠0->upd (upd K 0 K0) (j+1) Kc p=K p:=λp hp h0=>by rw[ju _ _ aA,ju _ _ h0]
 have ac:upd (upd K 0 K0) (j+1) Kc 0=K0:=by rw[ju _ _ aA,eW]
 refine⟨by simp[h.size];omega,λi hi=>?_,λk hk ao=>?_,h.ti.fork hx hy h.deaf0 aj ag ai ah,⟨λp hp b z=>?_,λp hp b z=>?_,λp Y hp hp' ae b z E=>?_,A.hWg,A.hC,A.ne,λp hp b z=>?lo,A.lWg,A.lC⟩,by rw[Deaf_still t 0 _ af,h.deaf0],λi hi=>?_,λi hi hs=>?_,h.pay⟩
 case lo=>
  by_cases e:p=j+1
  .subst e;rw[eW]at z;exact A.lo 0 aA b (ah b z)
  .by_cases I:p=0
   .subst I;rw[ac]at z;exact A.lo 0 aA b (ag b z)
   .rw[old p aA I]at z;exact A.lo p aA b z
 .obtain R|ak:=gG i j
  .obtain⟨g,hg,aq⟩:=h.wk i R;refine⟨g,?_,by rw[ju D _ aA,ju F _ aA,old _ aA aA];exact aq⟩
   grind
  .obtain rfl:i=j:=by omega
   refine⟨J,?_,by rw[eW,eW,eW];exact .work hc⟩;rw[show m+i=(gs.setIfInBounds 0 a').size by simp[h.size],Array.getElem?_push_size]
 .obtain⟨g,hg,ap⟩:=h.old k hk ao;refine⟨g,?_,by rw[Deaf_still t _ _ af];exact ap⟩
  grind
 .by_cases e:p=j+1
  .subst e;rw[eW]at z⊢;exact wc b z
  .by_cases I:p=0
   .grind
   .rw[old p aA I]at z⊢;exact A.w p aA b z
 .by_cases e:p=j+1
  .subst e;rw[eW]at z;exact A.o 0 aA b (ai b z)
  .by_cases I:p=0
   .subst I;rw[ac]at z;exact A.o 0 aA b (aj b z)
   .rw[old p aA I]at z;exact A.o p aA b z
 .by_cases e:p=j+1
  .subst e;rw[eW]at z;by_cases I:Y=0
   .grind
   .rw[old Y aA I]at E;exact A.d 0 Y aA aA (Ne.symm I) b (ah b z) E
  .by_cases I:p=0
   .subst I;rw[ac]at z;by_cases e':Y=j+1
    .subst e';rw[eW]at E;exact d1 b z E
    .rw[old Y aA (Ne.symm ae)]at E;exact A.d 0 Y aA aA ae b (ag b z) E
   .rw[old p aA I]at z;by_cases e':Y=j+1
    .subst e';rw[eW]at E;exact A.d p 0 aA aA I b z (ai b E)
    .by_cases am:Y=0
     .subst am;rw[ac]at E;exact A.d p 0 aA aA I b z (aj b E)
     .rw[old Y aA am]at E;exact A.d p Y aA aA ae b z E
 .rw[Deaf_still t _ _ af];obtain R|ak:=gG i j
  .rw[h.deafW i R,ju D _ aA]
  .obtain rfl:i=j:=by omega
   rw[eW];exact h.ti.above _ jB
 .obtain R|ak:=gG i j
  .rw[ju D _ aA]at hs;obtain⟨r,hr⟩:=h.rel i R hs;refine⟨r,hr.appNot λop aa=>?_⟩
   grind
  .obtain rfl:i=j:=by omega
   rw[eW]at hs;simp at hs
end
end
end
open Go.ConcR (KK wgBlock WgAt stA smA rd wr Payload DC0 Bk g_of_ofEvents again_blocked loc_of_ofEvent bk_of_mute ofEvent_loc_mark)
section
variable {g:cA}{es:Array lh}
section
variable [pc](P:cU)(S:Who)(Q:Left)(Shun:Loc->Prop)(m:Nat)(Fin AnchW:kC->cA->X->Prop)
def Inv(R:Mu)(Y:Machine)(t:Trace):Prop:=
 ∃(z:Array cA)(w:X)(sl:Option (Nat×Nat))(j:Nat)(D:Nat->WD)(F:Nat->Tr)(tag:CTag)(J:Nat×Tr)(E:Nat)(K:Nat->kC)(a:cA)(st I:Int)(q:Nat->Nat),
  Y=crowd z w sl/\z[0]? =M a/\CS P S Fin AnchW Q tag j J E (K 0) a w/\Co P S Q Shun m j z w t D F E K q/\WgAt S.ty S.Wg w st I/\ii j D tag st I/\(tag=.ret->Acq S m j t)/\
   R=((sumTo m q,phi S.n (Vc j D) tag+Ssum j D),(F,J))
def Down(I:Mu)(J:Machine)(t:Trace)(i:Nat):Prop:=∃z ops E,runT P J i=(.next z,ops)/\pU S.n E I/\Inv P S Q Shun m Fin AnchW E z (t++ops)
end
section
variable [pc]{P:cU}{S:Who}{Q:Left}{Shun:Loc->Prop}{m:Nat}{Fin AnchW:kC->cA->X->Prop}
 {gs:Array cA} {w w':X} {sl:Option (Nat×Nat)} {j:Nat} {D:Nat->WD} {F:Nat->Tr} {tag:CTag} {f0:Nat×Tr} {d0:Nat} {K:Nat->kC} {a:cA} {t:Trace} {st sm:Int} {q:Nat->Nat}
def BJ(hm:1<=m)(hQ:Q.nR)(hF:∀K g w,Fin K g w->g.status=eC)(hA:∀K g w,AnchW K g w->g.status=eC)(ha:gs[0]? =M a)(ag:CS P S Fin AnchW Q tag j f0 d0 (K 0) a w)(am:Co P S Q Shun m j gs w t D F d0 K q){i:Nat}(hi:i<j){g':cA}{s' dd':Nat}{T':Tr}{Ki:kC}{Y J:Int}(hg:gs[m+i]? =M g)(ar:dC P aR g w=.go g' w' es)(ae:∀p,p<=j->p≠i+1->En S (who p) (K p) w w')(aq:TI S Shun m (t++dE (m+i) g.frame.fn g.frame.place es) w'.heap.size j (upd K (i+1) Ki))(aa:Jy S w'.heap.size j (upd K (i+1) Ki))(ak:WS P S Q i Ki s' T' dd' g' w')(I:gC (D i).deaf es=dd')(ac:s'<=6->∃r,RelBy (stA S.Wg) (t++dE (m+i) g.frame.fn g.frame.place es) (m+i) r)(ah:py S.C S.n w')(au:WgAt S.ty S.Wg w' Y J)(R:∀z,(z=tag\/(tag=.blk/\z=.w3))->(mayWake P g=bB->g'.status=eC->z≠.blk)->ii j (upd D i ⟨s',0,dd'⟩) z Y J)(av:tag=.ret->Acq S m j (t++dE (m+i) g.frame.fn g.frame.place es))(aj:(s'<(D i).stage/\cnt ⟨s',0,dd'⟩<=cnt (D i))\/(s'=(D i).stage/\Tr.Lt T' (F i))):Down P S Q Shun m Fin AnchW ((sumTo m q,phi S.n (Vc j D) tag+Ssum j D),(F,f0)) (crowd gs w sl) t (m+i):=by
 obtain⟨z,f',ai,E,ap⟩:=ag.wokenBy hF hA (ae 0 aA aA) g g';have an:(m+i == 0)=aR:=aF
 have af:=runT_crowd_go (P:=P) (sl:=sl) (i:=m+i) hg (by rw[an];exact ar);have e1:=sumTo_upd D (⟨s',0,dd'⟩) cnt hi;have e2:=sumTo_upd D (⟨s',0,dd'⟩) WD.stage hi;have hb:=ag.bound
 refine⟨_,_,_,af,?_,
  _,w',sl,j,_,_,z,f',d0,_,woken P g g' w' a,Y,J,q,rfl,by grind,by rw[ju K _ aA];exact ai,am.stepW hm hQ hi ae aq aa ak I ac ah,au,R z E ap,?_,rfl⟩
 .rw[phi_retag S.n _ E];simp only[Vc,Ssum]at *;obtain⟨h1,h2⟩|⟨h1,h2⟩:=aj
  .refine pU.stage ?_;have:=phi_mono S.n (v':=sumTo j λa=>cnt (upd D i ⟨s',0,dd'⟩ a)) (v:=sumTo j λa=>cnt (D a)) aA tag;omega
  .have ec:cnt (⟨s',0,dd'⟩:WD)=cnt (D i):=by simp only[cnt,h1]
   have ev:(sumTo j λa=>cnt (upd D i ⟨s',0,dd'⟩ a))=sumTo j λa=>cnt (D a):=aA
   have ao:(sumTo j λa=>(upd D i ⟨s',0,dd'⟩ a).stage)=sumTo j λa=>(D a).stage:=aA
   rw[ev,ao];exact pU.way ⟨i,aA,by rw[eW];exact h2,λk hk=>ju F _ hk⟩
 .grind
omit [Payload] in
def adW{Wg:Nat}(h:∀e∈es,Bk Wg e):∀e∈es,ZX Wg e:=λe z=>bN (h e z)
def adK(hm:1<=m)(hQ:Q.nR)(hF:∀K g w,Fin K g w->g.status=eC)(hA:∀K g w,AnchW K g w->g.status=eC)(hn:S.n<2147483648)(ha:gs[0]? =M a)(a2:CS P S Fin AnchW Q tag j f0 d0 (K 0) a w)(aa:Co P S Q Shun m j gs w t D F d0 K q)(Y:WgAt S.ty S.Wg w st sm)(R:ii j D tag st sm)(bm:tag=.ret->Acq S m j t){i:Nat}(hi:i<j)(hg:gs[m+i]? =M g)(a5:g.status=eC):Down P S Q Shun m Fin AnchW ((sumTo m q,phi S.n (Vc j D) tag+Ssum j D),(F,f0)) (crowd gs w sl) t (m+i):=by
 obtain⟨bn,bu,hs⟩:=aa.wk i hi;obtain rfl:g=bn:=by grind
 have A:=aa.apt;have ah:i+1<=j:=hi;generalize ae:(D i).stage=s at hs;generalize bl:F i=T at hs;generalize a3:(D i).deaf=dd at hs;have hb:=a2.bound;have b3:=Vc_le j D;have a9:Deaf t (m+i)=dd:=by rw[aa.deafW i hi,a3]
 have nr:s≠1->tag≠.ret:=λh=>R.not_ret hi aA;have ak:=xu K (i+1);cases hs with
 |work h=>
  obtain⟨v,I,hq⟩|⟨f,g',w',es,rfl,z,ag,hT⟩:=h.cases
  .obtain⟨_,bk,g',z,am,hk⟩:=I;have bd:Has S.C i v w:=by simpa using bk
   refine BJ hm hQ hF hA ha a2 aa hi hg z (λp _ _=>.refl ..) (Ki:=K _) (T':=Tr.chain am) (s':=6) (dd':=0) (by rw[ak];exact aa.ti.book hm A (p:=i+1) ah (by intro e J;simp at J;subst J;exact cF (bN rfl))) (by rw[ak];exact A)
    (.later (.k1 hk) aA hq bd) (by rw[a3];rfl) (λ_=>⟨_,RelBy.new a9 _ _⟩) aa.pay Y (λ_ ht _=>(R.counted hi aA (bN rfl) _ _).retag ht) (λe=>Xs e (nr aA)) (bN ⟨aA,by simp[cnt,ae]⟩)
  .refine BJ hm hQ hF hA ha a2 aa hi hg z (λp hp bp=>Gu.en (p:=i+1) A ah hp bp ag) (Ki:=(K _).grow _ _) (T':=f w) (s':=7) (dd':=0) (aa.ti.plain hm A (p:=i+1) ah ag.size ag.events) (A.grow ag.size ah)
    (.work hT) ?_ (λh=>aA) (ag.pay aa.pay) (Y.of_block (Gu.wg (p:=i+1) A ah ag)) (λ_ ht _=>Go.ConcN.Mode.retag (by have:=R.same (i:=i) 0 0;rwa[ae]at this) ht) (λe=>Xs e (nr aA)) (cF ⟨ae.symm,by rw[bl];exact Tr.lt f w⟩)
   rw[a3];exact deafBehind_idle (λe J=>⟨(CX A (p:=i+1) ah ag.size (ag.events e J)).2.2.2.1,(CX A (p:=i+1) ah ag.size (ag.events e J)).2.2.2.2⟩) 0
 |later h h6 hq hh=>
  rename_i v mf
  have ay:∀{g':cA}{w':X}{es:Array lh}{s' m' dd':Nat}{ar au:Int},dC P aR g w=.go g' w' es->Aside S.Wg w w'->WgAt S.ty S.Wg w' ar au->(∀e∈es,Bk S.Wg e)->
    (∀jx e,es[jx]? =M e->(cV e).touch? =Z\/0<gC dd (es.extract 0 jx))->WSit P S.ty S.Wg S.C S.n pO pO 0 (i+1) v s' m' dd' g' w'->gC dd es=dd'->
    (∀af,(af=tag\/(tag=.blk/\af=.w3))->(mayWake P g=bB->g'.status=eC->af≠.blk)->ii j (upd D i ⟨s',0,dd'⟩) af ar au)->(tag=.ret->Acq S m j (t++dE (m+i) g.frame.fn g.frame.place es))->
    ((s'<s/\cnt ⟨s',0,dd'⟩<=cnt (D i))\/(s'=s/\mf=m'+1))->
    Down P S Q Shun m Fin AnchW ((sumTo m q,phi S.n (Vc j D) tag+Ssum j D),(F,f0)) (crowd gs w sl) t (m+i):=by
   intro g' w' es s' m' dd' ar au z av aq ap hd aw bg ai ao a1;have bq:s'<=6:=by rcases a1 with⟨h,_⟩|⟨h,_⟩<;>omega
   have bo:∀p,p<=j->En S (who p) (K p) w w':=λp hp=>abU A hp av ⟨_,_,aq⟩;have bb:=bo _ ah
   refine BJ hm hQ hF hA ha a2 aa hi hg z (λp hp _=>bo p hp) (Ki:=K _) (T':=Tr.chain m') (by rw[ak,av.size];exact aa.ti.book hm A (p:=i+1) ah (adW ap)) (by rw[ak,av.size];exact A)
    (.later aw bq (hQ _ _ _ _ _ bb.block hq) ((bb.cell i rfl).trans hh)) (by rw[a3];exact bg) (λ_=>let ⟨r,hr⟩:=aa.rel i hi aA;⟨r,hr.book a9 _ _ ap hd⟩) (bb.pay aa.pay) aq ai ao ?_
   rw[ae,bl];exact a1.imp id λ⟨h1,h2⟩=>⟨h1,by rw[h2];exact Tr.WY m'⟩
  have book:∀{g':cA}{w':X}{es:Array lh}{s' m' dd':Nat}{ar au:Int},dC P aR g w=.go g' w' es->Aside S.Wg w w'->WgAt S.ty S.Wg w' ar au->(∀e∈es,Bk S.Wg e)->
    (∀jx e,es[jx]? =M e->(cV e).touch? =Z\/0<gC dd (es.extract 0 jx))->WSit P S.ty S.Wg S.C S.n pO pO 0 (i+1) v s' m' dd' g' w'->gC dd es=dd'->
    ii j (upd D i ⟨s',0,dd'⟩) tag ar au->(tag=.ret->Acq S m j (t++dE (m+i) g.frame.fn g.frame.place es))->((s'<s/\cnt ⟨s',0,dd'⟩<=cnt (D i))\/(s'=s/\mf=m'+1))->
    Down P S Q Shun m Fin AnchW ((sumTo m q,phi S.n (Vc j D) tag+Ssum j D),(F,f0)) (crowd gs w sl) t (m+i):=
   λz av aq ap hd aw bg ai ao a1=>ay z av aq ap hd aw bg (λ_ ht _=>ai.retag ht) ao a1
  have an:∀{g':cA}{m':Nat},dC P aR g w=.go g' w #[]->WSit P S.ty S.Wg S.C S.n pO pO 0 (i+1) v s m' dd g' w->mf=m'+1->s≠1->
    Down P S Q Shun m Fin AnchW ((sumTo m q,phi S.n (Vc j D) tag+Ssum j D),(F,f0)) (crowd gs w sl) t (m+i):=by
   intro g' m' z aw bv h1;exact book z (.refl _ w) Y aC aC aw rfl (by have:=R.same (i:=i) 0 dd;rwa[ae]at this) (λe=>Xs e (nr h1)) (cF ⟨rfl,bv⟩)
  cases h with
  |r0 _=>omega
  |k1 h=>
   obtain I|⟨m',rfl,E⟩:=oj h
   .obtain⟨_,g',z,am,hk⟩:=I w (jb w)
    exact book z (.refl _ w) Y (by intro e J;simp at J;subst J;exact bN rfl) (by intro jx e J;exact bN (by have:=gK J;simp at this;subst this;rfl)) (.d1 hk) rfl
     (R.counted hi aA (cF rfl) _ _) (λe=>Xs e (nr aA)) (bN ⟨aA,by simp[cnt,ae]⟩)
   .obtain⟨g',w',es,z,⟨rfl,rfl⟩,aj⟩:=E w (jb w);exact an z (.k1 aj) rfl aA
  |d1 h=>
   obtain I|⟨m',rfl,E⟩:=oj h
   .obtain⟨_,a4⟩:=I w (jb w);have bz:cnt (D i)=1:=by simp[cnt,ae]
    have b2:1<=Vc j D:=by have:=le_sumTo (f:=λx=>cnt (D x)) hi;simp only[Vc];omega
    have a6:∀e∈#[rd (stA S.Wg),wr (stA S.Wg)],Bk S.Wg e:=by intro e J;simp at J;rcases J with rfl|rfl<;>exact bk_cell _ _ rfl
    have ba:∀jx e,(#[rd (stA S.Wg),wr (stA S.Wg)]:Array lh)[jx]? =M e->(cV e).touch? =Z\/0<gC 1 ((#[rd (stA S.Wg),wr (stA S.Wg)]:Array lh).extract 0 jx):=by
     intro jx e J
     match jx,J with
     |0,_=>exact cF (by simp[gC])
     |1,_=>exact cF (by simp[gC,rd])
     |jx+2,J=>simp at J
    have b1:cnt (⟨1,0,1⟩:WD)=0:=rfl
    have opq:OpenSt j D->OpenSt j (upd D i ⟨1,0,1⟩):=λh a ha=>by
     by_cases e:a=i
     .subst e;rw[eW];simp
     .rw[ju D _ e];exact h a ha
    cases R with
    |opn h1 h2 h3=>
     obtain⟨v,hv⟩:∃v,Vc j D+pend tag=v+1:=⟨Vc j D+pend tag-1,aA⟩
     rw[hv]at Y;have a7:WgAt S.ty S.Wg w (((v:Nat)+1)*KK+((0:Nat):Int)) 0:=by simpa using Y
     obtain⟨g',z,_,hq⟩:=a4 v 0 aA aA a7;obtain⟨qq,hq⟩:=hq aA;have bh:Vc j (upd D i ⟨1,0,1⟩)+pend tag=v:=by have:=Vc_upd D (⟨1,0,1⟩) hi;omega
     refine book z (ir w (stA S.Wg) _) (Y.setSt _) a6 ba (.quit hq) rfl ?_ (λe=>Xs e (nr aA)) (bN ⟨aA,by simp[cnt]⟩);have e:((v:Nat):Int)*KK+((0:Nat):Int)=((Vc j (upd D i ⟨1,0,1⟩)+pend tag:Nat):Int)*KK:=by rw[bh];simp
     rw[e];exact .opn h1 (opq h2) (λvs ev=>by have:=h3 vs ev;omega)
    |reg h1 h2 h3=>
     obtain⟨v,hv⟩:∃v,Vc j D=v+1:=⟨Vc j D-1,aA⟩
     rw[hv]at Y;have hp:pend tag=0:=by cases tag<;>first|rfl|exact h1.elim
     have a7:WgAt S.ty S.Wg w (((v:Nat)+1)*KK+((1:Nat):Int)) 0:=by simpa using Y
     obtain⟨g',z,hl,hq⟩:=a4 v 1 aA aA a7;by_cases bw:v=0
     .subst bw;obtain⟨am,hk⟩:=hl ⟨rfl,rfl⟩;refine book z (ir w (stA S.Wg) _) (Y.setSt _) a6 ba (.d2 hk) rfl ?_ (λe=>Xs e (nr aA)) (bN ⟨aA,by simp[cnt]⟩)
      have ac:∀a,a<j->a≠i->(D a).stage=1:=λa ha e=>by
       have c0:=others_uncounted hi hv bz a ha e;have:=h2 a ha;simp only[cnt]at c0;split at c0<;>omega
      have:=Go.ConcN.Mode.last (j:=j) (D:=upd D i ⟨4,0,1⟩) (tag:=tag) i h1 hi (by rw[eW];simp) (λa ha e=>by rw[ju D _ e];exact ac a ha e);rw[eW]at this;simpa using this
     .obtain⟨qq,hq⟩:=hq aA;have bh:Vc j (upd D i ⟨1,0,1⟩)=v:=by have:=Vc_upd D (⟨1,0,1⟩) hi;omega
      refine book z (ir w (stA S.Wg) _) (Y.setSt _) a6 ba (.quit hq) rfl ?_ (λe=>Xs e (nr aA)) (bN ⟨aA,by simp[cnt]⟩);have e:((v:Nat):Int)*KK+((1:Nat):Int)=((Vc j (upd D i ⟨1,0,1⟩):Nat):Int)*KK+1:=by rw[bh];simp
      rw[e];exact .reg h1 (opq h2) aA
    |last L _ h2 h3 h4=>
     grind
    |sema h2=>have:=h2 i hi;omega
    |fin _ h2=>have:=h2 i hi;omega
   .obtain⟨g',w',es,z,⟨rfl,rfl⟩,aj⟩:=E w (jb w);exact an z (.d1 aj) rfl aA
  |d2 h=>
   obtain I|⟨m',rfl,E⟩:=oj h
   .obtain⟨_,hx⟩:=I w (jb w);obtain⟨az,ac,rfl,rfl⟩:=R.isLast hi aA;simp only[ae]at Y;obtain⟨g',z,am,hk⟩:=hx (by simpa using Y);refine book z (.refl _ w) Y (by intro e J;simp at J;subst J;exact bk_cell _ _ rfl) (by intro jx e J;match jx,J with|0,_=>exact cF (by simp[gC])|jx+1,J=>simp at J) (.d3 hk) rfl ?_ (λe=>Xs e (nr aA)) (bN ⟨aA,by simp[cnt]⟩);have:=Go.ConcN.Mode.last (j:=j) (D:=upd D i ⟨3,0,1⟩) (tag:=tag) i az hi (by rw[eW];simp) (λa ha e=>by rw[ju D _ e];exact ac a ha e);rw[eW]at this;simpa using this
   .obtain⟨g',w',es,z,⟨rfl,rfl⟩,aj⟩:=E w (jb w);exact an z (.d2 aj) rfl aA
  |d3 h=>
   obtain I|⟨m',rfl,E⟩:=oj h
   .obtain⟨_,hx⟩:=I w (jb w);obtain⟨az,ac,rfl,rfl⟩:=R.isLast hi aA;simp only[ae]at Y;obtain⟨g',z,am,hk⟩:=hx (by simpa using Y);refine book z (ir w (stA S.Wg) _) (Y.setSt 0) (by intro e J;simp at J;subst J;exact bk_cell _ _ rfl) (by intro jx e J;match jx,J with|0,_=>exact cF (by simp[gC])|jx+1,J=>simp at J) (.d4 hk) rfl ?_ (λe=>Xs e (nr aA)) (bN ⟨aA,by simp[cnt]⟩);have:=Go.ConcN.Mode.last (j:=j) (D:=upd D i ⟨2,0,1⟩) (tag:=tag) i az hi (by rw[eW];simp) (λa ha e=>by rw[ju D _ e];exact ac a ha e);rw[eW]at this;simpa using this
   .obtain⟨g',w',es,z,⟨rfl,rfl⟩,aj⟩:=E w (jb w);exact an z (.d3 aj) rfl aA
  |d4 h=>
   obtain I|⟨m',rfl,E⟩:=oj h
   .obtain⟨_,br,hx⟩:=I w (jb w);obtain⟨az,ac,rfl,rfl⟩:=R.isLast hi aA;simp only[ae]at Y;obtain⟨g',z,qq,hq⟩:=hx (by simpa using Y)
    have a8:g'.status=eC:=by
     cases qq with
     |zero=>exact Xs hq.2 aB
     |succ qq=>exact hq.elim (λx=>Xs x.2 aB) (λx=>x.1)
    refine ay z (ir w (smA S.Wg) _) (Y.setSm 1) (es:=semEvents _) bk_sem ?_ (.quit hq) (by simp[gC,semEvents]) ?_ (λe=>Xs e (nr aA)) (bN ⟨aA,by simp[cnt]⟩)
    .intro jx e J
     match jx,J with
     |0,J=>simp[semEvents]at J;subst J;exact bN rfl
     |1,_=>exact cF (by simp[gC,semEvents])
     |2,_=>exact cF (by simp[gC,semEvents])
     |3,J=>simp[semEvents]at J;subst J;exact bN rfl
     |jx+4,J=>simp[semEvents]at J
    .intro af ht hw;have bs:=hw br a8
     have e3:af=.w3:=by
      obtain rfl|⟨_,rfl⟩:=ht
      .cases af<;>first|rfl|exact az.elim|exact Xs rfl bs
      .rfl
     subst e3;simp only[if_true]
     exact .sema λa ha=>by
      by_cases e:a=i
      .subst e;rw[eW]
      .rw[ju D _ e];exact ac a ha e
   .obtain⟨g',w',es,z,⟨rfl,rfl⟩,aj⟩:=E w (jb w);exact an z (.d4 aj) rfl aA
  |quit h=>
   cases mf with
   |zero=>rw[h.1]at a5;cases a5
   |succ qq=>
    obtain⟨hf,_⟩|⟨_,g',es,a0,E,hq⟩:=h
    .grind
    .have ap:∀e∈es,Bk S.Wg e:=λe J=>bk_of_mute (a0 e J);have bj:∀jx e,es[jx]? =M e->(cV e).touch? =Z\/0<gC dd (es.extract 0 jx):=λjx e J=>bN (touch_mute (a0 e (gK J)));refine book (E w) (.refl _ w) Y ap bj (.quit hq) rfl (by have:=R.same (i:=i) 0 (gC dd es);rwa[ae]at this) (λe=>(bm e).app λi' r b0 hr=>?_) (cF ⟨rfl,rfl⟩);by_cases e':i'=i
     .subst e';exact hr.book a9 _ _ ap bj
     .exact hr.appOther eR aA
def Zr(hF:∀K g w,Fin K g w->g.status=eC)(hA:∀K g w,AnchW K g w->g.status=eC)(ha:gs[0]? =M a)(ak:CS P S Fin AnchW Q tag j f0 d0 (K 0) a w)(af:Co P S Q Shun m j gs w t D F d0 K q)(ao:WgAt S.ty S.Wg w st sm)(Y:ii j D tag st sm)(ai:tag=.ret->Acq S m j t){k:Nat}(hk:0<k)(I:k<m)(hg:gs[k]? =M g)(E:g.status=eC):Down P S Q Shun m Fin AnchW ((sumTo m q,phi S.n (Vc j D) tag+Ssum j D),(F,f0)) (crowd gs w sl) t k:=by
 obtain⟨ag,an,hq⟩:=af.old k hk I;obtain rfl:g=ag:=by grind
 cases J:q k with
 |zero=>rw[J]at hq;rw[hq.1]at E;cases E
 |succ n=>
  rw[J]at hq;obtain⟨hf,_⟩|⟨_,g',es,ac,aa,am⟩:=hq
  .grind
  obtain⟨ae,f',ah,z,aq⟩:=ak.wokenBy hF hA (.refl S Z _ w) g g';have aj:(k == 0)=aR:=aF
  have R:=runT_crowd_go (P:=P) (sl:=sl) (i:=k) hg (by rw[aj];exact aa w)
  have ap:sumTo m (upd q k n)+(n+1)=sumTo m q+n:=by
   have:=sumTo_upd q n id I;simpa[J]using this
  refine⟨_,_,_,R,pU.quit aA,
   _,w,sl,j,D,F,ae,f',d0,K,_,st,sm,_,rfl,by grind,ah,af.aeZ hk I ac am,ao,Y.retag z,λe=>?_,rfl⟩
  obtain rfl|⟨_,rfl⟩:=z
  .exact(ai e).app λi r _ hr=>hr.appOther eR aA
  .cases e
end
end
open Go.ConcR (KK wgBlock WgAt stA smA rd wr Payload DC0 Bk g_of_ofEvents again_blocked loc_of_ofEvent bk_of_mute ofEvent_loc_mark ofEvent_mk)
section
variable {Wg:Nat}
section
variable [pc]{P:cU}{S:Who}{Q:Left}{Shun:Loc->Prop}{m:Nat}{Fin AnchW:kC->cA->X->Prop}
 {gs:Array cA} {w w':X} {sl:Option (Nat×Nat)} {j:Nat} {D:Nat->WD} {F:Nat->Tr} {tag tag':CTag} {f0 f':Nat×Tr} {d0:Nat} {K:Nat->kC} {a a':cA} {t:Trace} {st sm st' sm':Int} {q:Nat->Nat} {es:Array lh}
def F8(hm:1<=m)(hQ:Q.nR)(ha:gs[0]? =M a)(I:Co P S Q Shun m j gs w t D F d0 K q){K0:kC}(ag:dC P bB a w=.go a' w' es)(ae:∀p,p<=j->p≠0->En S (who p) (K p) w w')(af:TI S Shun m (t++dE 0 a.frame.fn a.frame.place es) w'.heap.size j (upd K 0 K0))(E:Jy S w'.heap.size j (upd K 0 K0))(R:py S.C S.n w')(Y:CS P S Fin AnchW Q tag' j f' (gC d0 es) K0 a' w')(ah:WgAt S.ty S.Wg w' st' sm')(z:ii j D tag' st' sm')(aa:tag'=.ret->Acq S m j (t++dE 0 a.frame.fn a.frame.place es))(ac:phi S.n (Vc j D) tag'<phi S.n (Vc j D) tag\/(phi S.n (Vc j D) tag'=phi S.n (Vc j D) tag/\Ep f' f0)):Down P S Q Shun m Fin AnchW ((sumTo m q,phi S.n (Vc j D) tag+Ssum j D),(F,f0)) (crowd gs w sl) t 0:=by
 have J:=runT_crowd_go (P:=P) (sl:=sl) (i:=0) ha (by simpa using ag)
 refine⟨_,_,_,J,?_,
  _,w',sl,j,D,F,tag',f',_,_,a',st',sm',q,rfl,get_map_set_same _ _ _ (by rw[I.size];omega),by rw[eW];exact Y,I.step0 hm hQ ae af E R,ah,z,aa,rfl⟩
 obtain h|⟨h1,h2⟩:=ac
 .exact pU.stage aA
 .rw[h1];exact pU.own h2
def nG(hm:1<=m)(hQ:Q.nR)(ha:gs[0]? =M a)(E:Co P S Q Shun m j gs w t D F d0 K q)(ac:dC P bB a w=.go a' w' es)(z:Gu S Z (K 0) w w' es)(ae:WgAt S.ty S.Wg w st sm)(I:ii j D tag st sm)(R:tag=.ret->Acq S m j t)(J:CS P S Fin AnchW Q tag j f' d0 ((K 0).grow w.heap.size w'.heap.size) a' w')(Y:Ep f' f0):Down P S Q Shun m Fin AnchW ((sumTo m q,phi S.n (Vc j D) tag+Ssum j D),(F,f0)) (crowd gs w sl) t 0:=by
 have A:=E.apt;have hd:=deafBehind_idle (λe he=>⟨(CX A (p:=0) (dL _) z.size (z.events e he)).2.2.2.1,(CX A (p:=0) (dL _) z.size (z.events e he)).2.2.2.2⟩) d0
 exact F8 hm hQ ha E ac (λp hp aa=>Gu.en (p:=0) A (dL _) hp aa z) (E.ti.plain hm A (p:=0) (dL _) z.size z.events) (A.grow z.size (dL _)) (z.pay E.pay)
  (by rw[hd];exact J) (ae.of_block (Gu.wg (p:=0) A (dL _) z)) I (λe=>(R e).app λi r _ hr=>hr.appOther eR aA) (cF ⟨rfl,Y⟩)
def oH(hm:1<=m)(hQ:Q.nR)(ha:gs[0]? =M a)(E:Co P S Q Shun m j gs w t D F d0 K q)(ae:dC P bB a w=.go a' w' es)(z:Aside S.Wg w w')(J:WgAt S.ty S.Wg w' st' sm')(ac:∀e∈es,ZX S.Wg e)(R:CS P S Fin AnchW Q tag' j f' (gC d0 es) (K 0) a' w')(I:ii j D tag' st' sm')(Y:tag'=.ret->Acq S m j (t++dE 0 a.frame.fn a.frame.place es))(aa:phi S.n (Vc j D) tag'<phi S.n (Vc j D) tag\/(phi S.n (Vc j D) tag'=phi S.n (Vc j D) tag/\Ep f' f0)):Down P S Q Shun m Fin AnchW ((sumTo m q,phi S.n (Vc j D) tag+Ssum j D),(F,f0)) (crowd gs w sl) t 0:=by
 have A:=E.apt;obtain⟨cs,h1,h2⟩:=E.pay;exact F8 hm hQ ha E ae (λp hp _=>abU A hp z ⟨_,_,J⟩) (by rw[xu,z.size];exact E.ti.book hm A (p:=0) (dL _) ac) (by rw[xu,z.size];exact A) ⟨cs,(z.block _ A.ne).trans h1,h2⟩ R J I Y aa
omit [Payload] in
def QE:∀e∈#[cX .disable],ZX Wg e:=λe z=>bN (bk_dis e z)
omit [Payload] in
def Yl:∀e∈#[cX .enable],ZX Wg e:=λe z=>bN (bk_en e z)
omit [Payload] in
def Ju:∀e∈#[rd (stA Wg)],ZX Wg e:=λe z=>bN (bk_rd e z)
omit [Payload] in
def Yo:∀e∈#[rd (stA Wg),wr (stA Wg)],ZX Wg e:=λe z=>bN (bk_rw e z)
omit [Payload] in
def aap:∀e∈semEvents (smA Wg),ZX Wg e:=λe z=>bN (bk_sem e z)
omit [Payload] in
def Zp:∀e∈#[cX (.acquire (stA Wg))],ZX Wg e:=by intro e z;simp at z;subst z;exact cF (cF rfl)
def afc(hm:1<=m)(hQ:Q.nR)(hn:S.n<2147483648)(ha:gs[0]? =M a)(J:Co P S Q Shun m S.n gs w t D F 1 K q)(I:WgAt S.ty S.Wg w st sm)(z:ii S.n D .w1 st sm){T:Tr}(h:jT P bB S Z (tV P S Fin AnchW) T (K 0) a w):Down P S Q Shun m Fin AnchW ((sumTo m q,phi S.n (Vc S.n D) .w1+Ssum S.n D),(F,(0,T))) (crowd gs w sl) t 0:=by
 have ac:=Vc_le S.n D;obtain⟨_,Y⟩|⟨f,g',w',es,rfl,E,aa,hT⟩:=h.cases
 .obtain⟨ho,rfl,rfl,_⟩:=z.open_inv trivial;obtain⟨a',E,h0,h1⟩:=Y (Vc S.n D) aA (by simpa[pend]using I);by_cases e:Vc S.n D=0
  .obtain⟨R,hk⟩:=h0 e;refine oH hm hQ ha J E (.refl _ w) I Ju (.ke hk) ?_ aC (bN (by simp only[phi];omega));have:=Go.ConcN.Mode.fin (j:=S.n) (D:=D) (tag:=.ke) trivial (allQuit_of ho e);simpa[e,pend]using this
  .obtain⟨R,hk⟩:=h1 e;exact oH hm hQ ha J E (.refl _ w) I Ju (.w2 hk) (z.reopen trivial trivial rfl (λvs hv=>by grind)) aC (bN (by simp only[phi];omega))
 .exact nG hm hQ ha J E aa I z aC (.w1 hT) (.way (Tr.lt f w))
def adD(hm:1<=m)(hQ:Q.nR)(hn:S.n<2147483648)(a7:∀K g w,AnchW K g w->∃T,jT P bB S Z (tV P S Fin AnchW) T K g w)(ha:gs[0]? =M a)(au:CS P S Fin AnchW Q tag j f0 d0 (K 0) a w)(J:Co P S Q Shun m j gs w t D F d0 K q)(I:WgAt S.ty S.Wg w st sm)(z:ii j D tag st sm)(aw:tag=.ret->Acq S m j t)(ay:a.status=eC)(ba:¬(tag=.ret/\Fin (K 0) a w)):Down P S Q Shun m Fin AnchW ((sumTo m q,phi S.n (Vc j D) tag+Ssum j D),(F,f0)) (crowd gs w sl) t 0:=by
 have bd:=Vc_le j D;generalize hK:K 0=K₀ at au;cases au with
 |skd hr h=>
  subst hK;obtain⟨_,a',E,Y,hk⟩|⟨f,g',w',es,rfl,E,R,hT⟩:=h.cases
  .exact oH hm hQ ha J E (.refl _ w) I QE (.sa1 hr hk) (z.reopen trivial trivial rfl aC) aC (bN (by simp only[phi];omega))
  .exact nG hm hQ ha J E R I z aC (.skd hr hT) (.way (Tr.lt f w))
 |sa1 hr h=>
  rename_i r T;subst hK;obtain⟨_,ae⟩|⟨f,g',w',es,rfl,E,R,hT⟩:=h.cases
  .obtain⟨ho,rfl,rfl,_⟩:=z.open_inv trivial;obtain⟨a',E,Y,hk⟩:=ae (Vc (S.n-(r+1)) D) aA (by simpa[pend]using I);refine oH hm hQ ha J E (ir w (stA S.Wg) _) (I.setSt _) Yo (.ske hr hk) ?_ aC (bN (by simp only[phi];omega));have e:(((Vc (S.n-(r+1)) D:Nat):Int)+1)*KK=((Vc (S.n-(r+1)) D+pend (.sp r 3):Nat):Int)*KK:=by simp[pend]
   rw[e];exact .opn trivial ho aC
  .exact nG hm hQ ha J E R I z aC (.sa1 hr hT) (.way (Tr.lt f w))
 |ske hr h=>
  subst hK;obtain⟨_,a',E,Y,hk⟩|⟨f,g',w',es,rfl,E,R,hT⟩:=h.cases
  .exact oH hm hQ ha J E (.refl _ w) I Yl (.sgo hr hk) (z.reopen trivial trivial rfl aC) aC (bN (by simp only[phi];omega))
  .exact nG hm hQ ha J E R I z aC (.ske hr hT) (.way (Tr.lt f w))
 |sgo hr h=>
  rename_i r T;subst hK;obtain⟨_,a',ai,K0,Kc,a5,_,a3,a4,a8,a2,d1,d2,w0,wc,av,af⟩|⟨f,g',w',es,rfl,E,R,hT⟩:=h.cases
  .obtain⟨Y,a1⟩:=av J.pay ⟨_,_,I⟩;obtain⟨ho,rfl,rfl,_⟩:=z.open_inv trivial;have aa:=runT_crowd_spawn (P:=P) (sl:=sl) (i:=0) ha (by simpa using a5);rw[J.size]at aa;have ac:=J.spawn hm (a':=a') (x:={ g:=0,fn:=a.frame.fn,pos:=a.frame.place,act:=.go _ }) (y:={ g:=m+(S.n-(r+1)),fn:=ai.frame.fn,pos:=a.frame.place,act:=.start }) ⟨rfl,rfl⟩ ⟨rfl,rfl⟩ a3 a4 a8 a2 d1 d2 w0 wc a1
   have eV:Vc (S.n-(r+1)+1) (upd D (S.n-(r+1)) ⟨7,0,0⟩)=Vc (S.n-(r+1)) D+1:=by
    simp only[Vc,sumTo,eW];rw[sumTo_upd_out D _ cnt jB];rfl
   have eS:Ssum (S.n-(r+1)+1) (upd D (S.n-(r+1)) ⟨7,0,0⟩)=Ssum (S.n-(r+1)) D+7:=by
    simp only[Ssum,sumTo,eW];rw[sumTo_upd_out D _ WD.stage jB]
   have ak:OpenSt (S.n-(r+1)+1) (upd D (S.n-(r+1)) ⟨7,0,0⟩):=λi hi=>by
    by_cases e:i=S.n-(r+1)
    .subst e;rw[eW];simp
    .rw[ju D _ e];exact ho i aA
   have az:((gs.setIfInBounds 0 a').push ai)[0]? =M a':=by
    have:0<gs.size:=by rw[J.size];omega
    rw[Array.getElem?_push_lt (by simp;exact this),<-dA];simp[this]
   have ej:S.n-(r+1)+1=S.n-r:=aA
   have eK:upd (upd K 0 K0) (S.n-r) Kc 0=K0:=by rw[ju _ _ aA,eW]
   rw[ej]at ac eV eS ak;have ao:∀ag,pend ag=0->((Vc (S.n-(r+1)) D+pend (.sp r 2):Nat):Int)*KK=((Vc (S.n-r) (upd D (S.n-(r+1)) ⟨7,0,0⟩)+pend ag:Nat):Int)*KK:=λag hp=>by rw[eV,hp];simp[pend]
   cases r with
   |zero=>
    obtain⟨ah,hk⟩:=af;simp only[Nat.sub_zero]at ac eV eS ak ao eK
    refine⟨_,_,_,aa,pU.stage (by simp only[phi];omega),
     _,w,sl,_,_,_,.kd,(0,ah),0,_,a',_,_,q,rfl,az,by rw[eK];exact .kd hk,ac,I,?_,aC,rfl⟩
    rw[ao .kd rfl];exact .opn trivial ak aC
   |succ r'=>
    obtain⟨ah,hk⟩:=af
    refine⟨_,_,_,aa,pU.stage (by simp only[phi];omega),
     _,w,sl,_,_,_,.sp r' 5,(0,ah),0,_,a',_,_,q,rfl,az,by rw[eK];exact .skd aA hk,ac,I,?_,aC,rfl⟩
    rw[ao (.sp r' 5) rfl];exact .opn trivial ak aC
  .exact nG hm hQ ha J E R I z aC (.sgo hr hT) (.way (Tr.lt f w))
 |kd h=>
  subst hK;obtain⟨_,a',E,Y,hk⟩|⟨f,g',w',es,rfl,E,R,hT⟩:=h.cases
  .exact oH hm hQ ha J E (.refl _ w) I QE (.anch hk) (z.reopen trivial trivial rfl aC) aC (bN (by simp only[phi];omega))
  .exact nG hm hQ ha J E R I z aC (.kd hT) (.way (Tr.lt f w))
 |anch h=>
  subst hK;obtain aj|⟨f,g',w',es,rfl,E,R,hT⟩:=h.cases
  .obtain⟨Y,hk⟩:=a7 _ _ _ aj;obtain⟨ar,ops,a6,h1,h2,h3⟩:=afc (sl:=sl) hm hQ hn ha J I (z.reopen trivial trivial rfl aC) hk;refine⟨ar,ops,a6,h1,?_,h3⟩;exact pU.trans h2 (by simp only[phi];omega) rfl
  .exact nG hm hQ ha J E R I z aC (.anch hT) (.way (Tr.lt f w))
 |w1 h=>subst hK;exact afc hm hQ hn ha J I z h
 |w2 h=>
  rename_i vs T;subst hK;obtain⟨_,ae⟩|⟨f,g',w',es,rfl,E,R,hT⟩:=h.cases
  .obtain⟨ho,rfl,rfl,a0⟩:=z.open_inv trivial;obtain⟨bb,h1⟩:=a0 vs rfl;obtain⟨aq,ap⟩:=ae (Vc S.n D) aA (by simpa[pend]using I);by_cases e:Vc S.n D=vs
   .obtain⟨a',E,Y,hk⟩:=aq e;exact oH hm hQ ha J E (ir w (stA S.Wg) _) (I.setSt _) Yo (.w3 hk) (.reg trivial ho aA) aC (bN (by simp only[phi];omega))
   .obtain⟨a',E,Y,hk⟩:=ap e;exact oH hm hQ ha J E (.refl _ w) I Ju (.anch hk) (z.reopen trivial trivial rfl aC) aC (bN (by simp only[phi];omega))
  .exact nG hm hQ ha J E R I z aC (.w2 hT) (.way (Tr.lt f w))
 |w3 h=>
  rename_i T;subst hK;cases T with
  |leaf=>
   obtain⟨_,a9,am,an⟩:=h w (.refl ..);cases z with
   |opn h1 _ _=>exact h1.elim
   |reg h1 h2 h3=>exact oH hm hQ ha J (am ⟨_,I⟩) (.refl _ w) I aC (.blk h) (.reg trivial h2 h3) aC (cF ⟨rfl,Prod.Lex.left _ _ aA⟩)
   |last L h1 h2 h3 h4=>exact oH hm hQ ha J (am ⟨_,I⟩) (.refl _ w) I aC (.blk h) (.last L trivial h2 h3 h4) aC (cF ⟨rfl,Prod.Lex.left _ _ aA⟩)
   |sema h2=>
    obtain⟨a',E,Y,hk⟩:=an I;exact oH hm hQ ha J E (ir w (smA S.Wg) _) (I.setSm 0) aap (.w4 hk) (.fin trivial h2) aC (bN (by simp only[phi];omega))
   |fin h1 _=>exact h1.elim
  |node f=>
   obtain⟨g',w',es,E,R,hT⟩:=h.2 w (.refl ..);exact nG hm hQ ha J E R I z aC (.w3 hT) (.way (Tr.lt f w))
 |blk h=>simp at ay
 |w4 h=>
  subst hK;obtain⟨_,hx⟩|⟨f,g',w',es,rfl,E,R,hT⟩:=h.cases
  .obtain⟨hq,rfl,rfl⟩:=z.fin_inv trivial;obtain⟨a',E,Y,hk⟩:=hx I;exact oH hm hQ ha J E (.refl _ w) I Ju (.ke hk) (.fin trivial hq) aC (bN (by simp only[phi];omega))
  .exact nG hm hQ ha J E R I z aC (.w4 hT) (.way (Tr.lt f w))
 |ke h=>
  subst hK;obtain⟨_,a',E,Y,hk⟩|⟨f,g',w',es,rfl,E,R,hT⟩:=h.cases
  .obtain⟨hq,rfl,rfl⟩:=z.fin_inv trivial;exact oH hm hQ ha J E (.refl _ w) I Yl (.acq hk) (.fin trivial hq) aC (bN (by simp only[phi];omega))
  .exact nG hm hQ ha J E R I z aC (.ke hT) (.way (Tr.lt f w))
 |acq h=>
  subst hK;obtain⟨_,a',E,Y,hk⟩|⟨f,g',w',es,rfl,E,R,hT⟩:=h.cases
  .obtain⟨hq,rfl,rfl⟩:=z.fin_inv trivial;refine oH hm hQ ha J E (.refl _ w) I Zp (.ret hk) (.fin trivial hq) (λ_=>?_) (bN (by simp only[phi];omega));have e1:dE 0 a.frame.fn a.frame.place #[cX (.acquire (stA S.Wg))]=#[{ g:=0,fn:=a.frame.fn,pos:=a.frame.place,act:=.mark (.acquire (stA S.Wg)) }]:=by rw[ofEvents_eq];simp[ofEvent_mk]
   have hy:(t++#[({ g:=0,fn:=a.frame.fn,pos:=a.frame.place,act:=.mark (.acquire (stA S.Wg)) }:MemOp)])[t.size]? =M { g:=0,fn:=a.frame.fn,pos:=a.frame.place,act:=.mark (.acquire (stA S.Wg)) }:=aC
   refine⟨t.size,by rw[e1,act?_of hy],by rw[e1];simp[Trace.g?],by rw[e1];exact⟨0,by simp[Trace.g?],by rw[deaf_old jB];exact J.deaf0⟩,λi hi=>?_⟩;obtain⟨r,hr⟩:=J.rel i hi (by rw[hq i hi];omega);exact⟨r,hr.appOther eR aA,lt_of_act? hr.act⟩
  .exact nG hm hQ ha J E R I z aC (.acq hT) (.way (Tr.lt f w))
 |ret h=>
  subst hK;obtain aj|⟨f,g',w',es,rfl,E,R,hT⟩:=h.cases
  .grind
  .exact nG hm hQ ha J E R I z aw (.ret hT) (.way (Tr.lt f w))
end
end
end Cr
