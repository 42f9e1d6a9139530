import Derived.Test.YtpibpdpedjinhaaGreatDoorP00
set_option maxRecDepth 100000
set_option maxHeartbeats 1600000
namespace Go.Proofs.YtpibpdpedjinhaaGreatDoor
namespace Cr
open Go Go.Conc Go.ConcN
open Go.ConcR (KK wgBlock WgAt stA smA rd wr Payload DC0 Bk g_of_ofEvents again_blocked)
section
section
variable [Payload](P:Program)(S:Who)
abbrev oZ:Nat->Loc->Prop:=λ_ _=>False
abbrev Left:=Nat->Value->(Nat->Prop)->World->Prop
def Left.mV(Q:Left):Prop:=∀i v O w w₁,(∀b,O b->w₁.heap[b]? =w.heap[b]?)->Q i v O w->Q i v O w₁
def qO(Q:Left)(i:Nat)(K:jU)(g:Goroutine)(w:World):Prop:=∃v,AtR0 P S.ty S.Wg S.C S.n 0 (i+1) v g w/\Q i v K.O w
inductive WS(Q:Left)(i:Nat)(K:jU):Nat->Tr->Nat->Goroutine->World->Prop
 |work {T:Tr} {g:Goroutine} {w:World}:jM P false S (some i) (qO P S Q i) T K g w->WS Q i K 7 T 0 g w
 |later {v:Value} {s m d:Nat} {g:Goroutine} {w:World}:WSit P S.ty S.Wg S.C S.n oZ oZ 0 (i+1) v s m d g w->s<=6->Q i v K.O w->Has S.C i v w->WS Q i K s (Tr.chain m) d g w
section
variable (Fin AnchW:jU->Goroutine->World->Prop)
def RP(K:jU)(g:Goroutine)(w:World):Prop:=
 g.status=.running/\∃g',stepG P true g w=.go g' w #[Go.ConcR.mk (.acquire (stA S.Wg))]/\∃T,jM P true S none Fin T K g' w
def Ub(K:jU)(g:Goroutine)(w:World):Prop:=
 g.status=.running/\∃g',stepG P true g w=.go g' w #[Go.ConcR.mk .enable]/\∃T,jM P true S none (RP P S Fin) T K g' w
def Yr(K:jU)(g:Goroutine)(w:World):Prop:=
 g.status=.running/\(WgAt S.ty S.Wg w 0 0->∃g',stepG P true g w=.go g' w #[rd (stA S.Wg)]/\∃T,jM P true S none (Ub P S Fin) T K g' w)
def Vj(K:jU)(g:Goroutine)(w:World):Prop:=
 g.status=.running/\g.offers=none/\((∃st,WgAt S.ty S.Wg w st 0)->stepG P true g w=.go { g with status:=.blocked } w #[])/\
  (WgAt S.ty S.Wg w 0 1->∃g',stepG P true g w=.go g' (w.setCell (smA S.Wg) (.int .u32 0)) (semEvents (smA S.Wg))/\∃T,jM P true S none (Yr P S Fin) T K g' (w.setCell (smA S.Wg) (.int .u32 0)))
def FM(vs:Nat)(K:jU)(g:Goroutine)(w:World):Prop:=
 g.status=.running/\∀v:Nat,v<2147483648->WgAt S.ty S.Wg w (v*KK) 0->
  (v=vs->∃g',stepG P true g w=.go g' (w.setCell (stA S.Wg) (.int .u64 (v*KK+1))) #[rd (stA S.Wg),wr (stA S.Wg)]/\∃T,jM P true S none (Vj P S Fin) T K g' (w.setCell (stA S.Wg) (.int .u64 (v*KK+1))))/\
  (v≠vs->∃g',stepG P true g w=.go g' w #[rd (stA S.Wg)]/\∃T,jM P true S none AnchW T K g' w)
def sQ(K:jU)(g:Goroutine)(w:World):Prop:=
 g.status=.running/\∀v:Nat,v<2147483648->WgAt S.ty S.Wg w (v*KK) 0->∃g',stepG P true g w=.go g' w #[rd (stA S.Wg)]/\
  (v=0->∃T,jM P true S none (Ub P S Fin) T K g' w)/\(v≠0->∃T,jM P true S none (FM P S Fin AnchW v) T K g' w)
def y9(K:jU)(g:Goroutine)(w:World):Prop:=
 g.status=.running/\∃g',stepG P true g w=.go g' w #[Go.ConcR.mk .disable]/\∃T,jM P true S none AnchW T K g' w
variable (Q:Left)
def RZ(i:Nat)(I:jU->Goroutine->World->Prop)(K:jU)(g:Goroutine)(w:World):Prop:=
 g.status=.running/\∃g' z K0 E,stepG P true g w=.spawn g' z w #[]/\z.status=.running/\(∀b,K0.O b->K.O b)/\(∀b,K0.W b->K.W b)/\(∀b,E.O b->K.O b)/\(∀b,E.W b->K.W b)/\
  (∀b,K0.W b->¬E.O b)/\(∀b,E.W b->¬K0.O b)/\(∀b,K0.W b->K0.O b)/\(∀b,E.W b->E.O b)/\
  (PayAt S.C S.n w->WgLive S.ty S.Wg w->∃T,jM P false S (some i) (qO P S Q i) T E z w)/\I K0 g' w
def Yv(i:Nat)(z:jU->Goroutine->World->Prop)(K:jU)(g:Goroutine)(w:World):Prop:=
 g.status=.running/\∃g',stepG P true g w=.go g' w #[Go.ConcR.mk .enable]/\∃T,jM P true S none (RZ P S Q i z) T K g' w
def YL(i:Nat)(z:jU->Goroutine->World->Prop)(K:jU)(g:Goroutine)(w:World):Prop:=
 g.status=.running/\∀v:Nat,v<2147483647->WgAt S.ty S.Wg w (v*KK) 0->
  ∃g',stepG P true g w=.go g' (w.setCell (stA S.Wg) (.int .u64 ((v+1)*KK))) #[rd (stA S.Wg),wr (stA S.Wg)]/\∃T,jM P true S none (Yv P S Q i z) T K g' (w.setCell (stA S.Wg) (.int .u64 ((v+1)*KK)))
def Jr(i:Nat)(z:jU->Goroutine->World->Prop)(K:jU)(g:Goroutine)(w:World):Prop:=
 g.status=.running/\∃g',stepG P true g w=.go g' w #[Go.ConcR.mk .disable]/\∃T,jM P true S none (YL P S Q i z) T K g' w
def pX:Nat->jU->Goroutine->World->Prop
 |0,K,g,w=>∃T,jM P true S none (y9 P S AnchW) T K g w
 |r+1,K,g,w=>∃T,jM P true S none (Jr P S Q (S.n-(r+1)) (pX r)) T K g w
inductive CS:CTag->Nat->Nat×Tr->Nat->jU->Goroutine->World->Prop
 |skd {r:Nat} {T:Tr} {K:jU} {g:Goroutine} {w:World}:r<S.n->jM P true S none (Jr P S Q (S.n-(r+1)) (pX P S AnchW Q r)) T K g w->CS (.sp r 5) (S.n-(r+1)) (0,T) 0 K g w
 |sa1 {r:Nat} {T:Tr} {K:jU} {g:Goroutine} {w:World}:r<S.n->jM P true S none (YL P S Q (S.n-(r+1)) (pX P S AnchW Q r)) T K g w->CS (.sp r 4) (S.n-(r+1)) (0,T) 1 K g w
 |ske {r:Nat} {T:Tr} {K:jU} {g:Goroutine} {w:World}:r<S.n->jM P true S none (Yv P S Q (S.n-(r+1)) (pX P S AnchW Q r)) T K g w->CS (.sp r 3) (S.n-(r+1)) (0,T) 1 K g w
 |sgo {r:Nat} {T:Tr} {K:jU} {g:Goroutine} {w:World}:r<S.n->jM P true S none (RZ P S Q (S.n-(r+1)) (pX P S AnchW Q r)) T K g w->CS (.sp r 2) (S.n-(r+1)) (0,T) 0 K g w
 |kd {T:Tr} {K:jU} {g:Goroutine} {w:World}:jM P true S none (y9 P S AnchW) T K g w->CS .kd S.n (0,T) 0 K g w
 |anch {T:Tr} {K:jU} {g:Goroutine} {w:World}:jM P true S none AnchW T K g w->CS .anch S.n (0,T) 1 K g w
 |w1 {T:Tr} {K:jU} {g:Goroutine} {w:World}:jM P true S none (sQ P S Fin AnchW) T K g w->CS .w1 S.n (0,T) 1 K g w
 |w2 {vs:Nat} {T:Tr} {K:jU} {g:Goroutine} {w:World}:jM P true S none (FM P S Fin AnchW vs) T K g w->CS (.w2 vs) S.n (0,T) 1 K g w
 |w3 {T:Tr} {K:jU} {g:Goroutine} {w:World}:jM P true S none (Vj P S Fin) T K g w->CS .w3 S.n (1,T) 1 K g w
 |blk {K:jU} {g:Goroutine} {w:World}:(∀w₁,En S none K w w₁->Vj P S Fin K g w₁)->CS .blk S.n (0,.leaf) 1 K { g with status:=.blocked } w
 |w4 {T:Tr} {K:jU} {g:Goroutine} {w:World}:jM P true S none (Yr P S Fin) T K g w->CS .w4 S.n (0,T) 1 K g w
 |ke {T:Tr} {K:jU} {g:Goroutine} {w:World}:jM P true S none (Ub P S Fin) T K g w->CS .ke S.n (0,T) 1 K g w
 |acq {T:Tr} {K:jU} {g:Goroutine} {w:World}:jM P true S none (RP P S Fin) T K g w->CS .acq S.n (0,T) 0 K g w
 |ret {T:Tr} {K:jU} {g:Goroutine} {w:World}:jM P true S none Fin T K g w->CS .ret S.n (0,T) 0 K g w
end
end
section
variable [Payload]{P:Program}{S:Who}{Q:Left}{i:Nat}{K:jU}{s d:Nat}{T:Tr}{g:Goroutine}{w w₁:World}
theorem En.rw(h:En S (some i) K w w₁):RW S.ty S.Wg S.C S.n 0 i w w₁:=⟨λb z=>absurd z (by omega),h.live,h.pay,h.cell i rfl⟩
theorem WS.rely(E:Q.mV)(h:WS P S Q i K s T d g w)(z:En S (some i) K w w₁):WS P S Q i K s T d g w₁:=by
 cases h with
 |work h=>exact .work (h.rely z)
 |later h hs hq hh=>exact .later (h.rely z.rw) hs (E _ _ _ _ _ z.block hq) ((z.cell i rfl).trans hh)
theorem WS.status(h:WS P S Q i K s T d g w):g.status=.running\/g.status=.finished:=by
 cases h with
 |work h=>exact .inl (h.running λ_ _ _ ⟨_,x,_⟩=>x.1)
 |later h _ _ _=>exact h.status
theorem WS.woken(h:WS P S Q i K s T d g w)(a a':Goroutine)(w':World):Go.Conc.woken P a a' w' g=g:=by
 unfold Go.Conc.woken;split
 ·exact again_running _ h.status
 ·rfl
theorem WS.quits(h:WS P S Q i K s T d g w)(hs:s=1):∃m,T=Tr.chain m/\QuitsD P m d g/\∃v,Q i v K.O w/\Has S.C i v w:=by
 cases h with
 |work _=>cases hs
 |later h _ hq hh=>exact⟨_,rfl,h.quits hs,_,hq,hh⟩
theorem WS.running_of(h:WS P S Q i K s T d g w)(hs:2<=s):g.status=.running:=by
 cases h with
 |work h=>exact h.running λ_ _ _ ⟨_,x,_⟩=>x.1
 |later h _ _ _=>exact h.running_of (by omega)
variable {Fin AnchW:jU->Goroutine->World->Prop}{tag:CTag}{j:Nat}{f:Nat×Tr}
theorem CS.rely(h:CS P S Fin AnchW Q tag j f d K g w)(z:En S none K w w₁):CS P S Fin AnchW Q tag j f d K g w₁:=by
 cases h with
 |skd hn h=>exact .skd hn (h.rely z)
 |sa1 hn h=>exact .sa1 hn (h.rely z)
 |ske hn h=>exact .ske hn (h.rely z)
 |sgo hn h=>exact .sgo hn (h.rely z)
 |kd h=>exact .kd (h.rely z)
 |anch h=>exact .anch (h.rely z)
 |w1 h=>exact .w1 (h.rely z)
 |w2 h=>exact .w2 (h.rely z)
 |w3 h=>exact .w3 (h.rely z)
 |blk h=>exact .blk (λI E=>h I (z.trans E))
 |w4 h=>exact .w4 (h.rely z)
 |ke h=>exact .ke (h.rely z)
 |acq h=>exact .acq (h.rely z)
 |ret h=>exact .ret (h.rely z)
theorem CS.status(E:∀K g w,Fin K g w->g.status=.running)(z:∀K g w,AnchW K g w->g.status=.running)(h:CS P S Fin AnchW Q tag j f d K g w):(g.status=.running/\tag≠.blk)\/(g.status=.blocked/\tag=.blk):=by
 cases h with
 |skd _ h=>exact .inl ⟨h.running λ_ _ _ x=>x.1,by simp⟩
 |sa1 _ h=>exact .inl ⟨h.running λ_ _ _ x=>x.1,by simp⟩
 |ske _ h=>exact .inl ⟨h.running λ_ _ _ x=>x.1,by simp⟩
 |sgo _ h=>exact .inl ⟨h.running λ_ _ _ x=>x.1,by simp⟩
 |kd h=>exact .inl ⟨h.running λ_ _ _ x=>x.1,by simp⟩
 |anch h=>exact .inl ⟨h.running z,by simp⟩
 |w1 h=>exact .inl ⟨h.running λ_ _ _ x=>x.1,by simp⟩
 |w2 h=>exact .inl ⟨h.running λ_ _ _ x=>x.1,by simp⟩
 |w3 h=>exact .inl ⟨h.running λ_ _ _ x=>x.1,by simp⟩
 |blk h=>exact .inr ⟨rfl,rfl⟩
 |w4 h=>exact .inl ⟨h.running λ_ _ _ x=>x.1,by simp⟩
 |ke h=>exact .inl ⟨h.running λ_ _ _ x=>x.1,by simp⟩
 |acq h=>exact .inl ⟨h.running λ_ _ _ x=>x.1,by simp⟩
 |ret h=>exact .inl ⟨h.running E,by simp⟩
theorem CS.wokenBy(hF:∀K g w,Fin K g w->g.status=.running)(hA:∀K g w,AnchW K g w->g.status=.running)(h:CS P S Fin AnchW Q tag j f d K g w)(J:En S none K w w₁)(x x':Goroutine):
  ∃z Y,CS P S Fin AnchW Q z j Y d K (woken P x x' w₁ g) w₁/\(z=tag\/(tag=.blk/\z=.w3))/\(mayWake P x=true->x'.status=.running->z≠.blk):=by
 have E:=h.rely J;unfold Go.Conc.woken;split
 ·rcases E.status hF hA with⟨hs,I⟩|⟨_,rfl⟩
  ·exact⟨tag,f,by rw[again_running _ (.inl hs)];exact E,.inl rfl,λ_ _=>I⟩
  ·cases E with
   |blk hb=>
    have h3:=hb w₁ (.refl ..);exact⟨.w3,(1,.leaf),by rw[again_blocked h3.1 h3.2.1];exact .w3 (T:=.leaf) hb,.inr ⟨rfl,rfl⟩,λ_ _=>by simp⟩
 ·rename_i hc;exact⟨tag,f,E,.inl rfl,λR h2=>absurd (by simp[R,h2]) hc⟩
theorem CS.bound(h:CS P S Fin AnchW Q tag j f d K g w):j+pend tag<=S.n:=by
 cases h<;>simp only[pend]<;>(try simp)<;>omega
end
end
open Go.ConcR (KK wgBlock WgAt stA smA rd wr Payload DC0 Bk g_of_ofEvents again_blocked loc_of_ofEvent)
section
variable {Shun:Loc->Prop}{t:Trace}{g g' a':Goroutine}{fn:FuncId}{pos:String}{es:Array Event}
section
variable [Payload]
omit [Payload] in
theorem Wh{p q:Nat}(h:who p=who q):p=q:=by
 cases p<;>cases q<;>simp_all[who]
section
variable {S:Who}{w w':World}{es:Array Event}{j p q sz sz':Nat}{K:Nat->jU}
omit [Payload] in
theorem Ig.acu(A:Ig S sz j K)(hp:p<=j):¬(K p).W S.Wg:=λh=>(A.o p hp _ (A.w p hp _ h)).2.1 rfl
theorem Gu.wg(A:Ig S w.heap.size j K)(hp:p<=j)(h:Gu S (who p) (K p) w w' es):w'.heap[S.Wg]? =w.heap[S.Wg]?:=h.block _ A.hWg (A.acu hp) λe=>absurd e.symm A.ne
theorem Gu.en(A:Ig S w.heap.size j K)(hp:p<=j)(I:q<=j)(z:q≠p)(h:Gu S (who p) (K p) w w' es):En S (who q) (K q) w w':=by
 refine⟨h.tape,h.os,h.output,h.size,λb E=>?_,λ⟨st,Y,J⟩=>⟨st,Y,J.of_block (h.wg A hp)⟩,h.pay,λi hi=>h.cells i λe=>z (Wh (hi.trans e)),λb E=>h.block b (by have:=A.lWg;have:=A.hWg;omega) (λhw=>by have:=A.lo p hp b hw;omega) λe=>by have:=A.lC;omega⟩;obtain⟨R,h2,h3⟩:=A.o q I b E;exact h.block b R (λhw=>A.d p q hp I (Ne.symm z) b hw E) λe=>absurd e h3
theorem Yw(A:Ig S w.heap.size j K)(E:q<=j)(h:Aside S.Wg w w')(I:WgLive S.ty S.Wg w'):En S (who q) (K q) w w':=by
 refine⟨h.tape,h.os,h.output,jo h.size.symm,λb z=>h.block b (A.o q E b z).2.1,λ_=>I,λ⟨cs,J,h2⟩=>⟨cs,(h.block _ A.ne).trans J,h2⟩,λi _=>cell_of_block (h.block _ A.ne) i,λb z=>h.block b (by have:=A.lWg;omega)⟩
omit [Payload] in
theorem Ig.grow(A:Ig S sz j K)(hs:sz<=sz')(hp:p<=j):Ig S sz' j (upd K p ((K p).grow sz sz')):=by
 have hWg:=A.hWg;have hC:=A.hC;refine⟨λq J b z=>?_,λq J b z=>?_,λa b Y z E x R I=>?_,aH hWg hs,aH hC hs,A.ne,λq J b z=>?_,A.lWg,A.lC⟩
 ·rw[Jo]at z⊢;split
  ·rename_i e;subst e;rw[if_pos rfl]at z;exact z.imp (A.w q J b) id
  ·rename_i e;rw[if_neg e]at z;exact A.w q J b z
 ·rw[Jo]at z;split at z
  ·rename_i e;subst e;rcases z with z|⟨h1,h2⟩
   ·obtain⟨h1,h2⟩:=A.o q J b z;exact⟨by omega,h2⟩
   ·exact⟨h2,by omega,by omega⟩
  ·obtain⟨h1,h2⟩:=A.o q J b z;exact⟨by omega,h2⟩
 ·rw[Jo]at R I;split at R
  ·rename_i e;subst e;rw[if_neg (Ne.symm E)]at I;rcases R with R|⟨h1,_⟩
   ·exact A.d a b Y z E x R I
   ·have:=(A.o b z x I).1;omega
  ·split at I
   ·rename_i e;subst e;rcases I with I|⟨h1,_⟩
    ·exact A.d a b Y z E x R I
    ·have:=(A.o a Y x (A.w a Y x R)).1;omega
   ·exact A.d a b Y z E x R I
 ·rw[Jo]at z;split at z
  ·rename_i e;subst e;exact z.elim (A.lo q J b) λh=>by have:=A.lWg;omega
  ·exact A.lo q J b z
omit [Payload] in
theorem wK{α:Type}(f:Nat->α)(i:Nat):upd f i (f i)=f:=by funext a;rw[Jo];split<;>simp_all
end
section
variable {S:Who}{m:Nat}{K:Nat->jU}{sz sz' j p:Nat}{fn:FuncId}{pos:String}{es:Array Event}
omit [Payload] in
theorem Jp(r:Nat)(wr:Bool):MemAct.ofEvent ⟨.obj r,wr,false⟩=.access ⟨.obj r,wr,false⟩:=by cases wr<;>rfl
omit [Payload] in
theorem vJ(a:Addr)(wr:Bool):MemAct.ofEvent ⟨.cell a,wr,false⟩=.access ⟨.cell a,wr,false⟩:=by cases wr<;>rfl
omit [Payload] in
theorem BK(A:Ig S sz j K)(hp:p<=j)(hs:sz<=sz'){e:Event}(h:EvM S (who p) (K p) sz sz' e):
  (∀x,(MemAct.ofEvent e).touch? =some x->Okt S p (K p) sz sz' x)/\(MemAct.ofEvent e).low sz'/\MemAct.ofEvent e≠.mark (.release (stA S.Wg))/\e.loc≠.mark .disable/\e.loc≠.mark .enable:=by
 have hWg:=A.hWg;have hC:=A.hC;rcases h with(⟨a,wr,rfl,E,h2⟩|⟨r,wr,rfl,E,h2⟩|⟨wr,I,rfl⟩|⟨f,wr,I,rfl⟩)|⟨i,wr,E,rfl⟩|⟨E,rfl|rfl⟩
 ·rw[vJ];refine⟨λx z=>?_,h2,by simp,by simp,by simp⟩;simp only[MemAct.touch?,aC]at z;subst z;exact .inl ⟨a.block,rfl,h2,rfl,E⟩
 ·rw[Jp];refine⟨λx z=>?_,h2,by simp,by simp,by simp⟩;simp only[MemAct.touch?,aC]at z;subst z;exact .inl ⟨r,rfl,h2,rfl,E⟩
 ·exact⟨λx z=>by simp[MemAct.ofEvent,MemAct.touch?]at z,trivial,by simp[MemAct.ofEvent],by simp,by simp⟩
 ·exact⟨λx z=>by simp[MemAct.ofEvent,MemAct.touch?]at z,trivial,by simp[MemAct.ofEvent],by simp,by simp⟩
 ·rw[vJ];refine⟨λx z=>?_,(show S.C<sz' by omega),by simp,by simp,by simp⟩;simp only[MemAct.touch?,aC]at z;subst z;exact .inr (.inl ⟨i,E,rfl,rfl⟩)
 ·refine⟨λx z=>?_,(show S.Wg<sz' by omega),by simp[Go.ConcR.mk,MemAct.ofEvent],by simp[Go.ConcR.mk],by simp[Go.ConcR.mk]⟩;simp only[Go.ConcR.mk,MemAct.ofEvent,MemAct.touch?,aC]at z;subst z;exact .inr (.inr ⟨⟨_,rfl,rfl⟩,by simp,λ_=>by cases p with|zero=>rfl|succ p=>cases E⟩)
 ·refine⟨λx z=>?_,(show S.Wg<sz' by omega),by simp[Go.ConcR.mk,MemAct.ofEvent],by simp[Go.ConcR.mk],by simp[Go.ConcR.mk]⟩;simp only[Go.ConcR.mk,MemAct.ofEvent,MemAct.touch?,aC]at z;subst z;exact .inr (.inr ⟨⟨_,rfl,rfl⟩,by simp,λ_=>by cases p with|zero=>rfl|succ p=>cases E⟩)
omit [Payload] in
theorem TI.plain(I:1<=m)(A:Ig S sz j K)(h:TI S Shun m t sz j K)(hp:p<=j)(hs:sz<=sz')(J:∀e∈es,EvM S (who p) (K p) sz sz' e):
  TI S Shun m (t++MemOp.ofEvents (WV m p) fn pos es) sz' j (upd K p ((K p).grow sz sz')):=by
 refine h.app I A hp hs g_of_ofEvents (λop z x R=>?_) (λop z=>?_) (λop z=>?_)
 all_goals
  obtain⟨e,E,rfl⟩:=Go.Conc.mem_ofEvents z;have:=BK A hp hs (J e E)
 ·exact this.1 x R
 ·exact this.2.1
 ·exact this.2.2.1
def WE(Wg:Nat)(e:Event):Prop:=Bk Wg e\/e=Go.ConcR.mk (.releaseMerge (stA Wg))\/e=Go.ConcR.mk (.acquire (stA Wg))
omit [Payload] in
theorem TI.book(hm:1<=m)(A:Ig S sz j K)(h:TI S Shun m t sz j K)(hp:p<=j)(Y:∀e∈es,WE S.Wg e):
  TI S Shun m (t++MemOp.ofEvents (WV m p) fn pos es) sz j K:=by
 have hWg:=A.hWg;have e0:upd K p ((K p).grow sz sz)=K:=by rw[kG,wK]
 rw[<-e0];refine h.app hm A hp jA g_of_ofEvents (λop I x E=>?_) (λop I=>?_) (λop I hr=>?_)
 all_goals
  obtain⟨e,J,rfl⟩:=Go.Conc.mem_ofEvents I
 ·rcases Y e J with(z|z|⟨a,wr,rfl,ha⟩)|rfl|rfl
  ·simp only[Go.ConcR.ofEvent_loc_mark z]at E;cases E
  ·simp only[Go.ConcR.ofEvent_loc_mark z]at E;cases E
  ·simp only[Go.ConcR.ofEvent_cell,MemAct.touch?,aC]at E;subst E;exact .inr (.inr ⟨⟨a,rfl,ha⟩,by simp,by simp⟩)
  ·simp[Go.ConcR.mk,MemAct.ofEvent,MemAct.touch?]at E
  ·simp[Go.ConcR.mk,MemAct.ofEvent,MemAct.touch?]at E
 ·rcases Y e J with(z|z|⟨a,wr,rfl,ha⟩)|rfl|rfl
  ·show(MemAct.ofEvent e).low sz;rw[Go.ConcR.ofEvent_loc_mark z];trivial
  ·show(MemAct.ofEvent e).low sz;rw[Go.ConcR.ofEvent_loc_mark z];trivial
  ·simp only[Go.ConcR.ofEvent_cell];show a.block<sz;omega
  ·exact hWg
  ·exact hWg
 ·have R:=loc_of_ofEvent hr;rcases Y e J with(z|z|⟨a,wr,rfl,ha⟩)|rfl|rfl
  ·rw[z]at R;cases R
  ·rw[z]at R;cases R
  ·cases R
  ·cases R
  ·cases R
end
section
variable (P:Program)(S:Who)(Q:Left)(Shun:Loc->Prop)(m:Nat)
structure Co(j:Nat)(gs:Array Goroutine)(w:World)(t:Trace)(D:Nat->WD)(F:Nat->Tr)(d0:Nat)(K:Nat->jU)(q:Nat->Nat):Prop where
 size:gs.size=m+j
 wk:∀i,i<j->∃g,gs[m+i]? =some g/\WS P S Q i (K (i+1)) (D i).stage (F i) (D i).deaf g w
 old:∀i,0<i->i<m->∃g,gs[i]? =some g/\QuitsD P (q i) (Deaf t i) g
 ti:TI S Shun m t w.heap.size j K
 apt:Ig S w.heap.size j K
 deaf0:Deaf t 0=d0
 deafW:∀i,i<j->Deaf t (m+i)=(D i).deaf
 rel:∀i,i<j->(D i).stage<=6->∃r,RelBy (stA S.Wg) t (m+i) r
 pay:PayAt S.C S.n w
def Acq(j:Nat)(t:Trace):Prop:=
 ∃q,t.act? q=some (.mark (.acquire (stA S.Wg)))/\t.g? q=some 0/\t.heard q/\∀i,i<j->∃r,RelBy (stA S.Wg) t (m+i) r/\r<q
end
section
variable {P:Program}{S:Who}{Q:Left}{Shun:Loc->Prop}{m j:Nat}{gs:Array Goroutine}{w w':World}{t u:Trace}{D:Nat->WD}{F:Nat->Tr}{d0:Nat}{K:Nat->jU}{q:Nat->Nat}
omit [Payload] in
theorem Acq.app(h:Acq S m j t)(J:∀i r,i<j->RelBy (stA S.Wg) t (m+i) r->RelBy (stA S.Wg) (t++u) (m+i) r):Acq S m j (t++u):=by
 obtain⟨q,E,h2,h3,h4⟩:=h;have z:=lt_of_act? E;exact⟨q,by rw[act?_old z];exact E,by rw[g?_old z];exact h2,(heard_old z).2 h3,λi I=>let ⟨r,hr,hrq⟩:=h4 i I;⟨r,J i r I hr,hrq⟩⟩
theorem Co.at(z:Q.mV)(h:Co P S Q Shun m j gs w t D F d0 K q)(d:Nat):Co P S Q Shun m j gs (w.at d) t D F d0 K q:=
 ⟨h.size,λi E=>let ⟨g,hg,hs⟩:=h.wk i E;⟨g,hg,hs.rely z (.at ..)⟩,h.old,h.ti,h.apt,h.deaf0,h.deafW,h.rel,h.pay⟩
theorem Co.stepW(hm:1<=m)(hQ:Q.mV)(h:Co P S Q Shun m j gs w t D F d0 K q){i:Nat}(hi:i<j){s' dd':Nat}{T':Tr}{Ki:jU}
  (af:∀p,p<=j->p≠i+1->En S (who p) (K p) w w') (ag:TI S Shun m (t++MemOp.ofEvents (m+i) fn pos es) w'.heap.size j (upd K (i+1) Ki)) (R:Ig S w'.heap.size j (upd K (i+1) Ki))
  (ae:WS P S Q i Ki s' T' dd' g' w') (J:deafBehind (D i).deaf es=dd') (Y:s'<=6->∃r,RelBy (stA S.Wg) (t++MemOp.ofEvents (m+i) fn pos es) (m+i) r) (aa:PayAt S.C S.n w'):
  Co P S Q Shun m j ((gs.map (woken P g g' w')).setIfInBounds (m+i) g') w' (t++MemOp.ofEvents (m+i) fn pos es) (upd D i ⟨s',0,dd'⟩) (upd F i T') d0 (upd K (i+1) Ki) q:=by
 refine⟨by simp[h.size],λE z=>?_,λk hk ac=>?_,ag,R,by rw[Deaf_other t (by omega) _ g_of_ofEvents,h.deaf0],λE z=>?_,λE z I=>?_,aa⟩
 ·by_cases e:E=i
  ·subst e;exact⟨g',get_map_set_same _ _ _ (by rw[h.size];omega),by rw[upd_same,upd_same,upd_same];exact ae⟩
  ·obtain⟨x,hx,ab⟩:=h.wk E z;refine⟨x,by rw[get_map_set _ _ _ _ (by omega),hx,bQ,ab.woken],?_⟩;rw[upd_ne D _ e,upd_ne F _ e,upd_ne K _ (by omega)];exact ab.rely hQ (af (E+1) (by omega) (by omega))
 ·obtain⟨x,hx,hq⟩:=h.old k hk ac;refine⟨x,by rw[get_map_set _ _ _ _ (by omega),hx,bQ,woken_quitsD hq],?_⟩;rw[Deaf_other t (by omega) _ g_of_ofEvents];exact hq
 ·by_cases e:E=i
  ·subst e;rw[Deaf_own,h.deafW E z,upd_same];exact J
  ·rw[Deaf_other t (by omega) _ g_of_ofEvents,h.deafW E z,upd_ne D _ e]
 ·by_cases e:E=i
  ·subst e;rw[upd_same]at I;exact Y I
  ·rw[upd_ne D _ e]at I;obtain⟨r,hr⟩:=h.rel E z I;exact⟨r,hr.appOther g_of_ofEvents (by omega)⟩
theorem Co.step0(hm:1<=m)(hQ:Q.mV)(h:Co P S Q Shun m j gs w t D F d0 K q){a:Goroutine}{K0:jU}
  (aa:∀p,p<=j->p≠0->En S (who p) (K p) w w') (ab:TI S Shun m (t++MemOp.ofEvents 0 fn pos es) w'.heap.size j (upd K 0 K0)) (z:Ig S w'.heap.size j (upd K 0 K0)) (I:PayAt S.C S.n w'):
  Co P S Q Shun m j ((gs.map (woken P a a' w')).setIfInBounds 0 a') w' (t++MemOp.ofEvents 0 fn pos es) D F (deafBehind d0 es) (upd K 0 K0) q:=by
 refine⟨by simp[h.size],λi E=>?_,λk hk R=>?_,ab,z,by rw[Deaf_own,h.deaf0],λi E=>by rw[Deaf_other t (by omega) _ g_of_ofEvents,h.deafW i E],λi E Y=>?_,I⟩
 ·obtain⟨x,hx,J⟩:=h.wk i E;exact⟨x,by rw[get_map_set _ _ _ _ (by omega),hx,bQ,J.woken],by rw[upd_ne K _ (by omega)];exact J.rely hQ (aa (i+1) (by omega) (by omega))⟩
 ·obtain⟨x,hx,hq⟩:=h.old k hk R;refine⟨x,by rw[get_map_set _ _ _ _ (by omega),hx,bQ,woken_quitsD hq],?_⟩;rw[Deaf_other t (by omega) _ g_of_ofEvents];exact hq
 ·obtain⟨r,hr⟩:=h.rel i E Y;exact⟨r,hr.appOther g_of_ofEvents (by omega)⟩
theorem Co.aaT(h:Co P S Q Shun m j gs w t D F d0 K q){k:Nat}(hk:0<k)(ab:k<m){n:Nat}(z:∀e∈es,Event.mute e=true)
  (hq:QuitsD P n (deafBehind (Deaf t k) es) g'):Co P S Q Shun m j ((gs.map (woken P g g' w)).setIfInBounds k g') w (t++MemOp.ofEvents k fn pos es) D F d0 K (upd q k n):=by
 refine⟨by simp[h.size],λi R=>?_,λk' ae I=>?_,?_,h.apt,by rw[Deaf_other t (by omega) _ g_of_ofEvents,h.deaf0],λi R=>by rw[Deaf_other t (by omega) _ g_of_ofEvents,h.deafW i R],λi R ac=>?_,h.pay⟩
 ·obtain⟨x,hx,aa⟩:=h.wk i R;exact⟨x,by rw[get_map_set _ _ _ _ (by omega),hx,bQ,aa.woken],aa⟩
 ·by_cases e:k'=k
  ·subst e;exact⟨g',get_map_set_same _ _ _ (by rw[h.size];omega),by rw[upd_same,Deaf_own];exact hq⟩
  ·obtain⟨x,hx,Y⟩:=h.old k' ae I;refine⟨x,by rw[get_map_set _ _ _ _ (by omega),hx,bQ,woken_quitsD Y],?_⟩;rw[Deaf_other t (by omega) _ g_of_ofEvents,upd_ne q _ e];exact Y
 ·refine h.ti.mute ab g_of_ofEvents (λop E=>?_) (λop E=>?_) (λop E hr=>?_)
  all_goals obtain⟨e,he,rfl⟩:=Go.Conc.mem_ofEvents E
  ·exact touch_mute (z e he)
  ·exact low_mute (z e he) _
  ·have J:=loc_of_ofEvent hr;have:=z e he;rcases Go.ConcR.bk_of_mute (Wg:=0) this with h1|h1|⟨a,wr,rfl,_⟩
   ·rw[h1]at J;cases J
   ·rw[h1]at J;cases J
   ·cases J
 ·obtain⟨r,hr⟩:=h.rel i R ac;exact⟨r,hr.appOther g_of_ofEvents (by omega)⟩
theorem Co.spawn(hm:1<=m)(h:Co P S Q Shun m j gs w t D F 0 K q){J:Goroutine}{x y:MemOp}{T:Tr}{K0 Kc:jU}(hx:x.g=0/\x.act=.go (m+j))(hy:y.g=m+j/\y.act=.start)
  (ah:∀b,K0.O b->(K 0).O b) (ae:∀b,K0.W b->(K 0).W b) (ag:∀b,Kc.O b->(K 0).O b) (af:∀b,Kc.W b->(K 0).W b) (d1:∀b,K0.W b->¬Kc.O b) (d2:∀b,Kc.W b->¬K0.O b) (w0:∀b,K0.W b->K0.O b) (wc:∀b,Kc.W b->Kc.O b)
  (hc:jM P false S (some j) (qO P S Q j) T Kc J w):
  Co P S Q Shun m (j+1) ((gs.setIfInBounds 0 a').push J) w (t++#[x,y]) (upd D j ⟨7,0,0⟩) (upd F j T) 0 (upd (upd K 0 K0) (j+1) Kc) q:=by
 have A:=h.apt;have aj:∀op∈#[x,y],op=x\/op=y:=by intro op aa;simpa using aa
 have ac:∀op∈#[x,y],op.act≠.mark .disable/\op.act≠.mark .enable:=by
  intro op aa;rcases aj op aa with rfl|rfl
  ·rw[hx.2];exact⟨by simp,by simp⟩
  ·rw[hy.2];exact⟨by simp,by simp⟩
 have old:∀p,p<=j->p≠0->upd (upd K 0 K0) (j+1) Kc p=K p:=λp hp h0=>by rw[upd_ne _ _ (by omega),upd_ne _ _ h0]
 have R:upd (upd K 0 K0) (j+1) Kc 0=K0:=by rw[upd_ne _ _ (by omega),upd_same]
 refine⟨by simp[h.size];omega,λi hi=>?_,λk hk am=>?_,h.ti.fork hx hy h.deaf0 ah ae ag af,⟨λp hp b z=>?_,λp hp b z=>?_,λp p' hp hp' ab b z E=>?_,A.hWg,A.hC,A.ne,λp hp b z=>?lo,A.lWg,A.lC⟩,by rw[Deaf_still t 0 _ ac,h.deaf0],λi hi=>?_,λi hi hs=>?_,h.pay⟩
 case lo=>
  by_cases e:p=j+1
  ·subst e;rw[upd_same]at z;exact A.lo 0 (by omega) b (af b z)
  ·by_cases I:p=0
   ·subst I;rw[R]at z;exact A.lo 0 (by omega) b (ae b z)
   ·rw[old p (by omega) I]at z;exact A.lo p (by omega) b z
 ·rcases fQ i j with Y|ai
  ·obtain⟨g,hg,ao⟩:=h.wk i Y;refine⟨g,?_,by rw[upd_ne D _ (by omega),upd_ne F _ (by omega),old _ (by omega) (by omega)];exact ao⟩;rw[fH (by simp[h.size];omega),<-bU,dS (by omega)];exact hg
  ·obtain rfl:i=j:=by omega
   refine⟨J,?_,by rw[upd_same,upd_same,upd_same];exact .work hc⟩;rw[show m+i=(gs.setIfInBounds 0 a').size by simp[h.size],Array.getElem?_push_size]
 ·obtain⟨g,hg,an⟩:=h.old k hk am;refine⟨g,?_,by rw[Deaf_still t _ _ ac];exact an⟩;rw[fH (by simp[h.size];omega),<-bU,dS (by omega)];exact hg
 ·by_cases e:p=j+1
  ·subst e;rw[upd_same]at z⊢;exact wc b z
  ·by_cases I:p=0
   ·subst I;rw[R]at z⊢;exact w0 b z
   ·rw[old p (by omega) I]at z⊢;exact A.w p (by omega) b z
 ·by_cases e:p=j+1
  ·subst e;rw[upd_same]at z;exact A.o 0 (by omega) b (ag b z)
  ·by_cases I:p=0
   ·subst I;rw[R]at z;exact A.o 0 (by omega) b (ah b z)
   ·rw[old p (by omega) I]at z;exact A.o p (by omega) b z
 ·by_cases e:p=j+1
  ·subst e;rw[upd_same]at z;by_cases I:p'=0
   ·subst I;rw[R]at E;exact d2 b z E
   ·rw[old p' (by omega) I]at E;exact A.d 0 p' (by omega) (by omega) (Ne.symm I) b (af b z) E
  ·by_cases I:p=0
   ·subst I;rw[R]at z;by_cases e':p'=j+1
    ·subst e';rw[upd_same]at E;exact d1 b z E
    ·rw[old p' (by omega) (Ne.symm ab)]at E;exact A.d 0 p' (by omega) (by omega) ab b (ae b z) E
   ·rw[old p (by omega) I]at z;by_cases e':p'=j+1
    ·subst e';rw[upd_same]at E;exact A.d p 0 (by omega) (by omega) I b z (ag b E)
    ·by_cases ak:p'=0
     ·subst ak;rw[R]at E;exact A.d p 0 (by omega) (by omega) I b z (ah b E)
     ·rw[old p' (by omega) ak]at E;exact A.d p p' (by omega) (by omega) ab b z E
 ·rw[Deaf_still t _ _ ac];rcases fQ i j with Y|ai
  ·rw[h.deafW i Y,upd_ne D _ (by omega)]
  ·obtain rfl:i=j:=by omega
   rw[upd_same];exact h.ti.above _ jA
 ·rcases fQ i j with Y|ai
  ·rw[upd_ne D _ (by omega)]at hs;obtain⟨r,hr⟩:=h.rel i Y hs;refine⟨r,hr.appNot λop aa=>?_⟩;rcases aj op aa with rfl|rfl
   ·rw[hx.1];omega
   ·rw[hy.1];omega
  ·obtain rfl:i=j:=by omega
   rw[upd_same]at hs;simp at hs
end
end
end
open Go.ConcR (KK wgBlock WgAt stA smA rd wr Payload DC0 Bk g_of_ofEvents again_blocked loc_of_ofEvent bk_of_mute ofEvent_loc_mark)
section
variable {g:Goroutine}{es:Array Event}
section
variable [Payload](P:Program)(S:Who)(Q:Left)(Shun:Loc->Prop)(m:Nat)(Fin AnchW:jU->Goroutine->World->Prop)
def Inv(R:Mu)(Y:Machine)(t:Trace):Prop:=
 ∃(z:Array Goroutine)(w:World)(sl:Option (Nat×Nat))(j:Nat)(D:Nat->WD)(F:Nat->Tr)(tag:CTag)(J:Nat×Tr)(E:Nat)(K:Nat->jU)(a:Goroutine)(st I:Int)(q:Nat->Nat),
  Y=crowd z w sl/\z[0]? =some a/\CS P S Fin AnchW Q tag j J E (K 0) a w/\Co P S Q Shun m j z w t D F E K q/\WgAt S.ty S.Wg w st I/\Go.ConcN.Mode j D tag st I/\(tag=.ret->Acq S m j t)/\
   R=((sumTo m q,phi S.n (Vc j D) tag+Ssum j D),(F,J))
def Down(I:Mu)(J:Machine)(t:Trace)(i:Nat):Prop:=∃z ops E,runT P J i=(.next z,ops)/\pz S.n E I/\Inv P S Q Shun m Fin AnchW E z (t++ops)
end
section
variable [Payload]{P:Program}{S:Who}{Q:Left}{Shun:Loc->Prop}{m:Nat}{Fin AnchW:jU->Goroutine->World->Prop}
 {gs:Array Goroutine} {w w':World} {sl:Option (Nat×Nat)} {j:Nat} {D:Nat->WD} {F:Nat->Tr} {tag:CTag} {f0:Nat×Tr} {d0:Nat} {K:Nat->jU} {a:Goroutine} {t:Trace} {st sm:Int} {q:Nat->Nat}
theorem AZ(hm:1<=m)(hQ:Q.mV)(hF:∀K g w,Fin K g w->g.status=.running)(hA:∀K g w,AnchW K g w->g.status=.running)
  (ha:gs[0]? =some a) (af:CS P S Fin AnchW Q tag j f0 d0 (K 0) a w) (am:Co P S Q Shun m j gs w t D F d0 K q)
  {i:Nat} (hi:i<j) {g':Goroutine} {s' dd':Nat} {T':Tr} {Ki:jU} {Y J:Int} (hg:gs[m+i]? =some g) (ar:stepG P false g w=.go g' w' es)
  (ac:∀p,p<=j->p≠i+1->En S (who p) (K p) w w') (aq:TI S Shun m (t++MemOp.ofEvents (m+i) g.frame.fn g.frame.place es) w'.heap.size j (upd K (i+1) Ki)) (aa:Ig S w'.heap.size j (upd K (i+1) Ki))
  (ak:WS P S Q i Ki s' T' dd' g' w') (I:deafBehind (D i).deaf es=dd')
  (ab:s'<=6->∃r,RelBy (stA S.Wg) (t++MemOp.ofEvents (m+i) g.frame.fn g.frame.place es) (m+i) r) (ag:PayAt S.C S.n w') (au:WgAt S.ty S.Wg w' Y J)
  (R:∀z,(z=tag\/(tag=.blk/\z=.w3))->(mayWake P g=true->g'.status=.running->z≠.blk)->Go.ConcN.Mode j (upd D i ⟨s',0,dd'⟩) z Y J)
  (ai:tag=.ret->Acq S m j (t++MemOp.ofEvents (m+i) g.frame.fn g.frame.place es))
  (aj:(s'<(D i).stage/\cnt ⟨s',0,dd'⟩<=cnt (D i))\/(s'=(D i).stage/\Tr.Lt T' (F i))):
  Down P S Q Shun m Fin AnchW ((sumTo m q,phi S.n (Vc j D) tag+Ssum j D),(F,f0)) (crowd gs w sl) t (m+i):=by
 obtain⟨z,f',ah,E,ap⟩:=af.wokenBy hF hA (ac 0 (by omega) (by omega)) g g';have an:(m+i == 0)=false:=by simp;omega
 have ae:=runT_crowd_go (P:=P) (sl:=sl) (i:=m+i) hg (by rw[an];exact ar);have e1:=sumTo_upd D (⟨s',0,dd'⟩:WD) cnt hi;have e2:=sumTo_upd D (⟨s',0,dd'⟩:WD) WD.stage hi;have hb:=af.bound
 refine⟨_,_,((sumTo m q,phi S.n (Vc j (upd D i ⟨s',0,dd'⟩)) z+Ssum j (upd D i ⟨s',0,dd'⟩)),(upd F i T',f')),ae,?_,
  _,w',sl,j,upd D i ⟨s',0,dd'⟩,upd F i T',z,f',d0,upd K (i+1) Ki,woken P g g' w' a,Y,J,q,rfl,by rw[get_map_set _ _ _ _ (by omega),ha];rfl,by rw[upd_ne K _ (by omega)];exact ah,am.stepW hm hQ hi ac aq aa ak I ab ag,au,R z E ap,?_,rfl⟩
 ·rw[phi_retag S.n _ E];simp only[Vc,Ssum]at *;rcases aj with⟨h1,h2⟩|⟨h1,h2⟩
  ·refine pz.stage ?_;have:=phi_mono S.n (v':=sumTo j λa=>cnt (upd D i ⟨s',0,dd'⟩ a)) (v:=sumTo j λa=>cnt (D a)) (by omega) tag;omega
  ·have ec:cnt (⟨s',0,dd'⟩:WD)=cnt (D i):=by simp only[cnt,h1]
   have ev:(sumTo j λa=>cnt (upd D i ⟨s',0,dd'⟩ a))=sumTo j λa=>cnt (D a):=by omega
   have ao:(sumTo j λa=>(upd D i ⟨s',0,dd'⟩ a).stage)=sumTo j λa=>(D a).stage:=by omega
   rw[ev,ao];exact pz.way ⟨i,by omega,by rw[upd_same];exact h2,λk hk=>upd_ne F _ hk⟩
 ·intro e;rcases E with rfl|⟨_,rfl⟩
  ·exact ai e
  ·cases e
omit [Payload] in
theorem ZW{Wg:Nat}(h:∀e∈es,Bk Wg e):∀e∈es,WE Wg e:=λe z=>.inl (h e z)
theorem ZM(hm:1<=m)(hQ:Q.mV)(hF:∀K g w,Fin K g w->g.status=.running)(hA:∀K g w,AnchW K g w->g.status=.running)(hn:S.n<2147483648)
  (ha:gs[0]? =some a) (a2:CS P S Fin AnchW Q tag j f0 d0 (K 0) a w) (aa:Co P S Q Shun m j gs w t D F d0 K q) (Y:WgAt S.ty S.Wg w st sm) (R:Go.ConcN.Mode j D tag st sm)
  (bl:tag=.ret->Acq S m j t) {i:Nat} (hi:i<j) (hg:gs[m+i]? =some g) (aq:g.status=.running):
  Down P S Q Shun m Fin AnchW ((sumTo m q,phi S.n (Vc j D) tag+Ssum j D),(F,f0)) (crowd gs w sl) t (m+i):=by
 obtain⟨bm,ax,hs⟩:=aa.wk i hi;obtain rfl:g=bm:=by rw[hg]at ax;exact eP ax
 have A:=aa.apt;have ag:i+1<=j:=hi;generalize ac:(D i).stage=s at hs;generalize bk:F i=T at hs;generalize a3:(D i).deaf=dd at hs;have hb:=a2.bound;have b0:=Vc_le j D;have a8:Deaf t (m+i)=dd:=by rw[aa.deafW i hi,a3]
 have nr:s≠1->tag≠.ret:=λh=>R.not_ret hi (by omega);have aj:upd K (i+1) (K (i+1))=K:=wK K (i+1);cases hs with
 |work h=>
  rcases h.cases with⟨v,I,hq⟩|⟨f,g',w',es,rfl,z,af,hT⟩
  ·obtain⟨_,bj,g',z,ak,hk⟩:=I;have bb:Has S.C i v w:=by simpa using bj
   refine AZ hm hQ hF hA ha a2 aa hi hg z (λp _ _=>.refl ..) (Ki:=K (i+1)) (T':=Tr.chain ak) (s':=6) (dd':=0) (by rw[aj];exact aa.ti.book hm A (p:=i+1) ag (by intro e J;simp at J;subst J;exact .inr (.inl rfl))) (by rw[aj];exact A)
    (.later (.k1 hk) (by omega) hq bb) (by rw[a3];rfl) (λ_=>⟨t.size,RelBy.new a8 _ _⟩) aa.pay Y (λ_ ht _=>(R.counted hi (by omega) (.inl rfl) _ _).retag ht) (λe=>absurd e (nr (by omega))) (.inl ⟨by omega,by simp[cnt,ac]⟩)
  ·refine AZ hm hQ hF hA ha a2 aa hi hg z (λp hp bo=>Gu.en (p:=i+1) A ag hp bo af) (Ki:=(K (i+1)).grow w.heap.size w'.heap.size) (T':=f w) (s':=7) (dd':=0) (aa.ti.plain hm A (p:=i+1) ag af.size af.events) (A.grow af.size ag)
    (.work hT) ?_ (λh=>by omega) (af.pay aa.pay) (Y.of_block (Gu.wg (p:=i+1) A ag af)) (λ_ ht _=>Go.ConcN.Mode.retag (by have:=R.same (i:=i) 0 0;rwa[ac]at this) ht) (λe=>absurd e (nr (by omega))) (.inr ⟨ac.symm,by rw[bk];exact Tr.lt f w⟩)
   rw[a3];exact deafBehind_idle (λe J=>⟨(BK A (p:=i+1) ag af.size (af.events e J)).2.2.2.1,(BK A (p:=i+1) ag af.size (af.events e J)).2.2.2.2⟩) 0
 |later h h6 hq hh=>
  rename_i v mf
  have ay:∀{g':Goroutine}{w':World}{es:Array Event}{s' m' dd':Nat}{ar au:Int},stepG P false g w=.go g' w' es->Aside S.Wg w w'->WgAt S.ty S.Wg w' ar au->(∀e∈es,Bk S.Wg e)->
    (∀jx e,es[jx]? =some e->(MemAct.ofEvent e).touch? =none\/0<deafBehind dd (es.extract 0 jx))->WSit P S.ty S.Wg S.C S.n oZ oZ 0 (i+1) v s' m' dd' g' w'->deafBehind dd es=dd'->
    (∀ae,(ae=tag\/(tag=.blk/\ae=.w3))->(mayWake P g=true->g'.status=.running->ae≠.blk)->Go.ConcN.Mode j (upd D i ⟨s',0,dd'⟩) ae ar au)->(tag=.ret->Acq S m j (t++MemOp.ofEvents (m+i) g.frame.fn g.frame.place es))->
    ((s'<s/\cnt ⟨s',0,dd'⟩<=cnt (D i))\/(s'=s/\mf=m'+1))->
    Down P S Q Shun m Fin AnchW ((sumTo m q,phi S.n (Vc j D) tag+Ssum j D),(F,f0)) (crowd gs w sl) t (m+i):=by
   intro g' w' es s' m' dd' ar au z av ap ao hd aw bd ah an a1;have bp:s'<=6:=by rcases a1 with⟨h,_⟩|⟨h,_⟩<;>omega
   have bn:∀p,p<=j->En S (who p) (K p) w w':=λp hp=>Yw A hp av ⟨_,_,ap⟩;have ba:=bn (i+1) ag
   refine AZ hm hQ hF hA ha a2 aa hi hg z (λp hp _=>bn p hp) (Ki:=K (i+1)) (T':=Tr.chain m') (by rw[aj,av.size];exact aa.ti.book hm A (p:=i+1) ag (ZW ao)) (by rw[aj,av.size];exact A)
    (.later aw bp (hQ _ _ _ _ _ ba.block hq) ((ba.cell i rfl).trans hh)) (by rw[a3];exact bd) (λ_=>let ⟨r,hr⟩:=aa.rel i hi (by omega);⟨r,hr.book a8 _ _ ao hd⟩) (ba.pay aa.pay) ap ah an ?_
   rw[ac,bk];exact a1.imp id λ⟨h1,h2⟩=>⟨h1,by rw[h2];exact Tr.Td m'⟩
  have book:∀{g':Goroutine}{w':World}{es:Array Event}{s' m' dd':Nat}{ar au:Int},stepG P false g w=.go g' w' es->Aside S.Wg w w'->WgAt S.ty S.Wg w' ar au->(∀e∈es,Bk S.Wg e)->
    (∀jx e,es[jx]? =some e->(MemAct.ofEvent e).touch? =none\/0<deafBehind dd (es.extract 0 jx))->WSit P S.ty S.Wg S.C S.n oZ oZ 0 (i+1) v s' m' dd' g' w'->deafBehind dd es=dd'->
    Go.ConcN.Mode j (upd D i ⟨s',0,dd'⟩) tag ar au->(tag=.ret->Acq S m j (t++MemOp.ofEvents (m+i) g.frame.fn g.frame.place es))->((s'<s/\cnt ⟨s',0,dd'⟩<=cnt (D i))\/(s'=s/\mf=m'+1))->
    Down P S Q Shun m Fin AnchW ((sumTo m q,phi S.n (Vc j D) tag+Ssum j D),(F,f0)) (crowd gs w sl) t (m+i):=
   λz av ap ao hd aw bd ah an a1=>ay z av ap ao hd aw bd (λ_ ht _=>ah.retag ht) an a1
  have am:∀{g':Goroutine}{m':Nat},stepG P false g w=.go g' w #[]->WSit P S.ty S.Wg S.C S.n oZ oZ 0 (i+1) v s m' dd g' w->mf=m'+1->s≠1->
    Down P S Q Shun m Fin AnchW ((sumTo m q,phi S.n (Vc j D) tag+Ssum j D),(F,f0)) (crowd gs w sl) t (m+i):=by
   intro g' m' z aw bs h1;exact book z (.refl S.Wg w) Y (by simp) (by simp) aw rfl (by have:=R.same (i:=i) 0 dd;rwa[ac]at this) (λe=>absurd e (nr h1)) (.inr ⟨rfl,bs⟩)
  cases h with
  |r0 _=>omega
  |k1 h=>
   rcases Goes.cases h with I|⟨m',rfl,E⟩
   ·obtain⟨_,g',z,ak,hk⟩:=I w (RW.refl w)
    exact book z (.refl S.Wg w) Y (by intro e J;simp at J;subst J;exact .inl rfl) (by intro jx e J;exact .inl (by have:=fZ J;simp at this;subst this;rfl)) (.d1 hk) rfl
     (R.counted hi (by omega) (.inr rfl) _ _) (λe=>absurd e (nr (by omega))) (.inl ⟨by omega,by simp[cnt,ac]⟩)
   ·obtain⟨g',w',es,z,⟨rfl,rfl⟩,ai⟩:=E w (RW.refl w);exact am z (.k1 ai) rfl (by omega)
  |d1 h=>
   rcases Goes.cases h with I|⟨m',rfl,E⟩
   ·obtain⟨_,a4⟩:=I w (RW.refl w);have bv:cnt (D i)=1:=by simp[cnt,ac]
    have bz:1<=Vc j D:=by have:=le_sumTo (f:=λx=>cnt (D x)) hi;simp only[Vc];omega
    have a5:∀e∈#[rd (stA S.Wg),wr (stA S.Wg)],Bk S.Wg e:=by intro e J;simp at J;rcases J with rfl|rfl<;>exact bk_cell _ _ rfl
    have a9:∀jx e,(#[rd (stA S.Wg),wr (stA S.Wg)]:Array Event)[jx]? =some e->(MemAct.ofEvent e).touch? =none\/0<deafBehind 1 ((#[rd (stA S.Wg),wr (stA S.Wg)]:Array Event).extract 0 jx):=by
     intro jx e J
     match jx,J with
     |0,_=>exact .inr (by simp[deafBehind])
     |1,_=>exact .inr (by simp[deafBehind,rd])
     |jx+2,J=>simp at J
    have bx:cnt (⟨1,0,1⟩:WD)=0:=rfl
    have opq:OpenSt j D->OpenSt j (upd D i ⟨1,0,1⟩):=λh a ha=>by
     by_cases e:a=i
     ·subst e;rw[upd_same];simp
     ·rw[upd_ne D _ e];exact h a ha
    cases R with
    |opn h1 h2 h3=>
     obtain⟨v,hv⟩:∃v,Vc j D+pend tag=v+1:=⟨Vc j D+pend tag-1,by omega⟩
     rw[hv]at Y;have a6:WgAt S.ty S.Wg w (((v:Nat)+1)*KK+((0:Nat):Int)) 0:=by simpa using Y
     obtain⟨g',z,_,hq⟩:=a4 v 0 (by omega) (by omega) a6;obtain⟨qq,hq⟩:=hq (by omega);have bg:Vc j (upd D i ⟨1,0,1⟩)+pend tag=v:=by have:=Vc_upd D (⟨1,0,1⟩:WD) hi;omega
     refine book z (aside_setCell w (stA S.Wg) _) (Y.setSt _) a5 a9 (.quit hq) rfl ?_ (λe=>absurd e (nr (by omega))) (.inl ⟨by omega,by simp[cnt]⟩);have e:((v:Nat):Int)*KK+((0:Nat):Int)=((Vc j (upd D i ⟨1,0,1⟩)+pend tag:Nat):Int)*KK:=by rw[bg];simp
     rw[e];exact .opn h1 (opq h2) (λvs ev=>by have:=h3 vs ev;omega)
    |reg h1 h2 h3=>
     obtain⟨v,hv⟩:∃v,Vc j D=v+1:=⟨Vc j D-1,by omega⟩
     rw[hv]at Y;have hp:pend tag=0:=by cases tag<;>first|rfl|exact h1.elim
     have a6:WgAt S.ty S.Wg w (((v:Nat)+1)*KK+((1:Nat):Int)) 0:=by simpa using Y
     obtain⟨g',z,hl,hq⟩:=a4 v 1 (by omega) (by omega) a6;by_cases bu:v=0
     ·subst bu;obtain⟨ak,hk⟩:=hl ⟨rfl,rfl⟩;refine book z (aside_setCell w (stA S.Wg) _) (Y.setSt _) a5 a9 (.d2 hk) rfl ?_ (λe=>absurd e (nr (by omega))) (.inl ⟨by omega,by simp[cnt]⟩)
      have ab:∀a,a<j->a≠i->(D a).stage=1:=λa ha e=>by
       have c0:=others_uncounted hi hv bv a ha e;have:=h2 a ha;simp only[cnt]at c0;split at c0<;>omega
      have:=Go.ConcN.Mode.last (j:=j) (D:=upd D i ⟨4,0,1⟩) (tag:=tag) i h1 hi (by rw[upd_same];simp) (λa ha e=>by rw[upd_ne D _ e];exact ab a ha e);rw[upd_same]at this;simpa using this
     ·obtain⟨qq,hq⟩:=hq (by omega);have bg:Vc j (upd D i ⟨1,0,1⟩)=v:=by have:=Vc_upd D (⟨1,0,1⟩:WD) hi;omega
      refine book z (aside_setCell w (stA S.Wg) _) (Y.setSt _) a5 a9 (.quit hq) rfl ?_ (λe=>absurd e (nr (by omega))) (.inl ⟨by omega,by simp[cnt]⟩);have e:((v:Nat):Int)*KK+((1:Nat):Int)=((Vc j (upd D i ⟨1,0,1⟩):Nat):Int)*KK+1:=by rw[bg];simp
      rw[e];exact .reg h1 (opq h2) (by omega)
    |last L _ h2 h3 h4=>
     by_cases e:i=L
     ·subst e;omega
     ·have:=h4 i hi e;omega
    |sema h2=>have:=h2 i hi;omega
    |fin _ h2=>have:=h2 i hi;omega
   ·obtain⟨g',w',es,z,⟨rfl,rfl⟩,ai⟩:=E w (RW.refl w);exact am z (.d1 ai) rfl (by omega)
  |d2 h=>
   rcases Goes.cases h with I|⟨m',rfl,E⟩
   ·obtain⟨_,hx⟩:=I w (RW.refl w);obtain⟨az,ab,rfl,rfl⟩:=R.isLast hi (by omega);simp only[ac]at Y;obtain⟨g',z,ak,hk⟩:=hx (by simpa using Y);refine book z (.refl S.Wg w) Y (by intro e J;simp at J;subst J;exact bk_cell _ _ rfl) (by intro jx e J;match jx,J with|0,_=>exact .inr (by simp[deafBehind])|jx+1,J=>simp at J) (.d3 hk) rfl ?_ (λe=>absurd e (nr (by omega))) (.inl ⟨by omega,by simp[cnt]⟩);have:=Go.ConcN.Mode.last (j:=j) (D:=upd D i ⟨3,0,1⟩) (tag:=tag) i az hi (by rw[upd_same];simp) (λa ha e=>by rw[upd_ne D _ e];exact ab a ha e);rw[upd_same]at this;simpa using this
   ·obtain⟨g',w',es,z,⟨rfl,rfl⟩,ai⟩:=E w (RW.refl w);exact am z (.d2 ai) rfl (by omega)
  |d3 h=>
   rcases Goes.cases h with I|⟨m',rfl,E⟩
   ·obtain⟨_,hx⟩:=I w (RW.refl w);obtain⟨az,ab,rfl,rfl⟩:=R.isLast hi (by omega);simp only[ac]at Y;obtain⟨g',z,ak,hk⟩:=hx (by simpa using Y);refine book z (aside_setCell w (stA S.Wg) _) (Y.setSt 0) (by intro e J;simp at J;subst J;exact bk_cell _ _ rfl) (by intro jx e J;match jx,J with|0,_=>exact .inr (by simp[deafBehind])|jx+1,J=>simp at J) (.d4 hk) rfl ?_ (λe=>absurd e (nr (by omega))) (.inl ⟨by omega,by simp[cnt]⟩);have:=Go.ConcN.Mode.last (j:=j) (D:=upd D i ⟨2,0,1⟩) (tag:=tag) i az hi (by rw[upd_same];simp) (λa ha e=>by rw[upd_ne D _ e];exact ab a ha e);rw[upd_same]at this;simpa using this
   ·obtain⟨g',w',es,z,⟨rfl,rfl⟩,ai⟩:=E w (RW.refl w);exact am z (.d3 ai) rfl (by omega)
  |d4 h=>
   rcases Goes.cases h with I|⟨m',rfl,E⟩
   ·obtain⟨_,bq,hx⟩:=I w (RW.refl w);obtain⟨az,ab,rfl,rfl⟩:=R.isLast hi (by omega);simp only[ac]at Y;obtain⟨g',z,qq,hq⟩:=hx (by simpa using Y)
    have a7:g'.status=.running:=by
     cases qq with
     |zero=>exact absurd hq.2 (by decide)
     |succ qq=>exact hq.elim (λx=>absurd x.2 (by decide)) (λx=>x.1)
    refine ay z (aside_setCell w (smA S.Wg) _) (Y.setSm 1) (es:=semEvents (smA S.Wg)) bk_sem ?_ (.quit hq) (by simp[deafBehind,semEvents]) ?_ (λe=>absurd e (nr (by omega))) (.inl ⟨by omega,by simp[cnt]⟩)
    ·intro jx e J
     match jx,J with
     |0,J=>simp[semEvents]at J;subst J;exact .inl rfl
     |1,_=>exact .inr (by simp[deafBehind,semEvents])
     |2,_=>exact .inr (by simp[deafBehind,semEvents])
     |3,J=>simp[semEvents]at J;subst J;exact .inl rfl
     |jx+4,J=>simp[semEvents]at J
    ·intro ae ht hw;have br:=hw bq a7
     have e3:ae=.w3:=by
      rcases ht with rfl|⟨_,rfl⟩
      ·cases ae<;>first|rfl|exact az.elim|exact absurd rfl br
      ·rfl
     subst e3;simp only[if_true]
     exact .sema λa ha=>by
      by_cases e:a=i
      ·subst e;rw[upd_same]
      ·rw[upd_ne D _ e];exact ab a ha e
   ·obtain⟨g',w',es,z,⟨rfl,rfl⟩,ai⟩:=E w (RW.refl w);exact am z (.d4 ai) rfl (by omega)
  |quit h=>
   cases mf with
   |zero=>rw[h.1]at aq;cases aq
   |succ qq=>
    rcases h with⟨hf,_⟩|⟨_,g',es,a0,E,hq⟩
    ·rw[hf]at aq;cases aq
    ·have ao:∀e∈es,Bk S.Wg e:=λe J=>bk_of_mute (a0 e J);have bh:∀jx e,es[jx]? =some e->(MemAct.ofEvent e).touch? =none\/0<deafBehind dd (es.extract 0 jx):=λjx e J=>.inl (touch_mute (a0 e (fZ J)));refine book (E w) (.refl S.Wg w) Y ao bh (.quit hq) rfl (by have:=R.same (i:=i) 0 (deafBehind dd es);rwa[ac]at this) (λe=>(bl e).app λi' r bw hr=>?_) (.inr ⟨rfl,rfl⟩);by_cases e':i'=i
     ·subst e';exact hr.book a8 _ _ ao bh
     ·exact hr.appOther g_of_ofEvents (by omega)
theorem VR(hF:∀K g w,Fin K g w->g.status=.running)(hA:∀K g w,AnchW K g w->g.status=.running)
  (ha:gs[0]? =some a) (ak:CS P S Fin AnchW Q tag j f0 d0 (K 0) a w) (af:Co P S Q Shun m j gs w t D F d0 K q) (an:WgAt S.ty S.Wg w st sm) (ab:Go.ConcN.Mode j D tag st sm)
  (ai:tag=.ret->Acq S m j t) {k:Nat} (hk:0<k) (R:k<m) (hg:gs[k]? =some g) (z:g.status=.running):
  Down P S Q Shun m Fin AnchW ((sumTo m q,phi S.n (Vc j D) tag+Ssum j D),(F,f0)) (crowd gs w sl) t k:=by
 obtain⟨ag,E,hq⟩:=af.old k hk R;obtain rfl:g=ag:=by rw[hg]at E;exact eP E
 cases Y:q k with
 |zero=>rw[Y]at hq;rw[hq.1]at z;cases z
 |succ n=>
  rw[Y]at hq;rcases hq with⟨hf,_⟩|⟨_,g',es,ae,ac,am⟩
  ·rw[hf]at z;cases z
  obtain⟨J,f',ah,I,ap⟩:=ak.wokenBy hF hA (.refl S none (K 0) w) g g';have aj:(k == 0)=false:=by simp;omega
  have aa:=runT_crowd_go (P:=P) (sl:=sl) (i:=k) hg (by rw[aj];exact ac w)
  have ao:sumTo m (upd q k n)+(n+1)=sumTo m q+n:=by
   have:=sumTo_upd q n id R;simpa[Y]using this
  refine⟨_,_,((sumTo m (upd q k n),phi S.n (Vc j D) J+Ssum j D),(F,f')),aa,pz.quit (by show sumTo m (upd q k n)<sumTo m q;omega),
   _,w,sl,j,D,F,J,f',d0,K,woken P g g' w a,st,sm,upd q k n,rfl,by rw[get_map_set _ _ _ _ (by omega),ha];rfl,ah,af.aaT hk R ae am,an,ab.retag I,λe=>?_,rfl⟩
  rcases I with rfl|⟨_,rfl⟩
  ·exact(ai e).app λi r _ hr=>hr.appOther g_of_ofEvents (by omega)
  ·cases e
end
end
open Go.ConcR (KK wgBlock WgAt stA smA rd wr Payload DC0 Bk g_of_ofEvents again_blocked loc_of_ofEvent bk_of_mute ofEvent_loc_mark ofEvent_mk)
section
variable {Wg:Nat}
section
variable [Payload]{P:Program}{S:Who}{Q:Left}{Shun:Loc->Prop}{m:Nat}{Fin AnchW:jU->Goroutine->World->Prop}
 {gs:Array Goroutine} {w w':World} {sl:Option (Nat×Nat)} {j:Nat} {D:Nat->WD} {F:Nat->Tr} {tag tag':CTag} {f0 f':Nat×Tr} {d0:Nat} {K:Nat->jU} {a a':Goroutine} {t:Trace} {st sm st' sm':Int} {q:Nat->Nat} {es:Array Event}
theorem EM(hm:1<=m)(hQ:Q.mV)(ha:gs[0]? =some a)(I:Co P S Q Shun m j gs w t D F d0 K q){K0:jU}(af:stepG P true a w=.go a' w' es)
  (ac:∀p,p<=j->p≠0->En S (who p) (K p) w w') (ae:TI S Shun m (t++MemOp.ofEvents 0 a.frame.fn a.frame.place es) w'.heap.size j (upd K 0 K0)) (E:Ig S w'.heap.size j (upd K 0 K0)) (R:PayAt S.C S.n w')
  (Y:CS P S Fin AnchW Q tag' j f' (deafBehind d0 es) K0 a' w') (ag:WgAt S.ty S.Wg w' st' sm') (z:Go.ConcN.Mode j D tag' st' sm') (aa:tag'=.ret->Acq S m j (t++MemOp.ofEvents 0 a.frame.fn a.frame.place es))
  (ab:phi S.n (Vc j D) tag'<phi S.n (Vc j D) tag\/(phi S.n (Vc j D) tag'=phi S.n (Vc j D) tag/\Dn f' f0)):
  Down P S Q Shun m Fin AnchW ((sumTo m q,phi S.n (Vc j D) tag+Ssum j D),(F,f0)) (crowd gs w sl) t 0:=by
 have J:=runT_crowd_go (P:=P) (sl:=sl) (i:=0) ha (by simpa using af)
 refine⟨_,_,((sumTo m q,phi S.n (Vc j D) tag'+Ssum j D),(F,f')),J,?_,
  _,w',sl,j,D,F,tag',f',deafBehind d0 es,upd K 0 K0,a',st',sm',q,rfl,get_map_set_same _ _ _ (by rw[I.size];omega),by rw[upd_same];exact Y,I.step0 hm hQ ac ae E R,ag,z,aa,rfl⟩
 rcases ab with h|⟨h1,h2⟩
 ·exact pz.stage (by omega)
 ·rw[h1];exact pz.own h2
theorem mF(hm:1<=m)(hQ:Q.mV)(ha:gs[0]? =some a)(E:Co P S Q Shun m j gs w t D F d0 K q)(ab:stepG P true a w=.go a' w' es)(z:Gu S none (K 0) w w' es)
  (ac:WgAt S.ty S.Wg w st sm) (I:Go.ConcN.Mode j D tag st sm) (R:tag=.ret->Acq S m j t)
  (J:CS P S Fin AnchW Q tag j f' d0 ((K 0).grow w.heap.size w'.heap.size) a' w') (Y:Dn f' f0):
  Down P S Q Shun m Fin AnchW ((sumTo m q,phi S.n (Vc j D) tag+Ssum j D),(F,f0)) (crowd gs w sl) t 0:=by
 have A:=E.apt;have hd:deafBehind d0 es=d0:=deafBehind_idle (λe he=>⟨(BK A (p:=0) (dF _) z.size (z.events e he)).2.2.2.1,(BK A (p:=0) (dF _) z.size (z.events e he)).2.2.2.2⟩) d0
 exact EM hm hQ ha E ab (λp hp aa=>Gu.en (p:=0) A (dF _) hp aa z) (E.ti.plain hm A (p:=0) (dF _) z.size z.events) (A.grow z.size (dF _)) (z.pay E.pay)
  (by rw[hd];exact J) (ac.of_block (Gu.wg (p:=0) A (dF _) z)) I (λe=>(R e).app λi r _ hr=>hr.appOther g_of_ofEvents (by omega)) (.inr ⟨rfl,Y⟩)
theorem nX(hm:1<=m)(hQ:Q.mV)(ha:gs[0]? =some a)(E:Co P S Q Shun m j gs w t D F d0 K q)(ac:stepG P true a w=.go a' w' es)(z:Aside S.Wg w w')(J:WgAt S.ty S.Wg w' st' sm')(ab:∀e∈es,WE S.Wg e)
  (R:CS P S Fin AnchW Q tag' j f' (deafBehind d0 es) (K 0) a' w') (I:Go.ConcN.Mode j D tag' st' sm') (Y:tag'=.ret->Acq S m j (t++MemOp.ofEvents 0 a.frame.fn a.frame.place es))
  (aa:phi S.n (Vc j D) tag'<phi S.n (Vc j D) tag\/(phi S.n (Vc j D) tag'=phi S.n (Vc j D) tag/\Dn f' f0)):
  Down P S Q Shun m Fin AnchW ((sumTo m q,phi S.n (Vc j D) tag+Ssum j D),(F,f0)) (crowd gs w sl) t 0:=by
 have A:=E.apt;obtain⟨cs,h1,h2⟩:=E.pay;exact EM hm hQ ha E ac (λp hp _=>Yw A hp z ⟨_,_,J⟩) (by rw[wK,z.size];exact E.ti.book hm A (p:=0) (dF _) ab) (by rw[wK,z.size];exact A) ⟨cs,(z.block _ A.ne).trans h1,h2⟩ R J I Y aa
omit [Payload] in
theorem N7:∀e∈#[Go.ConcR.mk .disable],WE Wg e:=λe z=>.inl (bk_dis e z)
omit [Payload] in
theorem UZ:∀e∈#[Go.ConcR.mk .enable],WE Wg e:=λe z=>.inl (bk_en e z)
omit [Payload] in
theorem Ia:∀e∈#[rd (stA Wg)],WE Wg e:=λe z=>.inl (bk_rd e z)
omit [Payload] in
theorem U0:∀e∈#[rd (stA Wg),wr (stA Wg)],WE Wg e:=λe z=>.inl (bk_rw e z)
omit [Payload] in
theorem W9:∀e∈semEvents (smA Wg),WE Wg e:=λe z=>.inl (bk_sem e z)
omit [Payload] in
theorem VP:∀e∈#[Go.ConcR.mk (.acquire (stA Wg))],WE Wg e:=by intro e z;simp at z;subst z;exact .inr (.inr rfl)
theorem aa1(hm:1<=m)(hQ:Q.mV)(hn:S.n<2147483648)(ha:gs[0]? =some a)(J:Co P S Q Shun m S.n gs w t D F 1 K q)(I:WgAt S.ty S.Wg w st sm)(z:Go.ConcN.Mode S.n D .w1 st sm){T:Tr}(h:jM P true S none (sQ P S Fin AnchW) T (K 0) a w):
  Down P S Q Shun m Fin AnchW ((sumTo m q,phi S.n (Vc S.n D) .w1+Ssum S.n D),(F,(0,T))) (crowd gs w sl) t 0:=by
 have ab:=Vc_le S.n D;rcases h.cases with⟨_,Y⟩|⟨f,g',w',es,rfl,E,aa,hT⟩
 ·obtain⟨ho,rfl,rfl,_⟩:=z.open_inv trivial;obtain⟨a',E,h0,h1⟩:=Y (Vc S.n D) (by omega) (by simpa[pend]using I);by_cases e:Vc S.n D=0
  ·obtain⟨R,hk⟩:=h0 e;refine nX hm hQ ha J E (.refl S.Wg w) I Ia (.ke hk) ?_ (by simp) (.inl (by simp only[phi];omega));have:=Go.ConcN.Mode.fin (j:=S.n) (D:=D) (tag:=.ke) trivial (allQuit_of ho e);simpa[e,pend]using this
  ·obtain⟨R,hk⟩:=h1 e;exact nX hm hQ ha J E (.refl S.Wg w) I Ia (.w2 hk) (z.reopen trivial trivial rfl (λvs hv=>by cases hv;exact⟨jA,by omega⟩)) (by simp) (.inl (by simp only[phi];omega))
 ·exact mF hm hQ ha J E aa I z (by simp) (.w1 hT) (.way (Tr.lt f w))
theorem ZJ(hm:1<=m)(hQ:Q.mV)(hn:S.n<2147483648)(a6:∀K g w,AnchW K g w->∃T,jM P true S none (sQ P S Fin AnchW) T K g w)
  (ha:gs[0]? =some a) (ar:CS P S Fin AnchW Q tag j f0 d0 (K 0) a w) (J:Co P S Q Shun m j gs w t D F d0 K q) (I:WgAt S.ty S.Wg w st sm) (z:Go.ConcN.Mode j D tag st sm)
  (av:tag=.ret->Acq S m j t) (ax:a.status=.running) (aw:¬(tag=.ret/\Fin (K 0) a w)):
  Down P S Q Shun m Fin AnchW ((sumTo m q,phi S.n (Vc j D) tag+Ssum j D),(F,f0)) (crowd gs w sl) t 0:=by
 have ba:=Vc_le j D;generalize hK:K 0=K₀ at ar;cases ar with
 |skd hr h=>
  subst hK;rcases h.cases with⟨_,a',E,Y,hk⟩|⟨f,g',w',es,rfl,E,R,hT⟩
  ·exact nX hm hQ ha J E (.refl S.Wg w) I N7 (.sa1 hr hk) (z.reopen trivial trivial rfl (by simp)) (by simp) (.inl (by simp only[phi];omega))
  ·exact mF hm hQ ha J E R I z (by simp) (.skd hr hT) (.way (Tr.lt f w))
 |sa1 hr h=>
  rename_i r T;subst hK;rcases h.cases with⟨_,af⟩|⟨f,g',w',es,rfl,E,R,hT⟩
  ·obtain⟨ho,rfl,rfl,_⟩:=z.open_inv trivial;obtain⟨a',E,Y,hk⟩:=af (Vc (S.n-(r+1)) D) (by omega) (by simpa[pend]using I);refine nX hm hQ ha J E (aside_setCell w (stA S.Wg) _) (I.setSt _) U0 (.ske hr hk) ?_ (by simp) (.inl (by simp only[phi];omega));have e:(((Vc (S.n-(r+1)) D:Nat):Int)+1)*KK=((Vc (S.n-(r+1)) D+pend (.sp r 3):Nat):Int)*KK:=by simp[pend]
   rw[e];exact .opn trivial ho (by simp)
  ·exact mF hm hQ ha J E R I z (by simp) (.sa1 hr hT) (.way (Tr.lt f w))
 |ske hr h=>
  subst hK;rcases h.cases with⟨_,a',E,Y,hk⟩|⟨f,g',w',es,rfl,E,R,hT⟩
  ·exact nX hm hQ ha J E (.refl S.Wg w) I UZ (.sgo hr hk) (z.reopen trivial trivial rfl (by simp)) (by simp) (.inl (by simp only[phi];omega))
  ·exact mF hm hQ ha J E R I z (by simp) (.ske hr hT) (.way (Tr.lt f w))
 |sgo hr h=>
  rename_i r T;subst hK;rcases h.cases with⟨_,a',ai,K0,Kc,a4,_,a2,a3,a7,a1,d1,d2,w0,wc,au,ag⟩|⟨f,g',w',es,rfl,E,R,hT⟩
  ·obtain⟨Y,a0⟩:=au J.pay ⟨_,_,I⟩;obtain⟨ho,rfl,rfl,_⟩:=z.open_inv trivial;have ab:=runT_crowd_spawn (P:=P) (sl:=sl) (i:=0) ha (by simpa using a4);rw[J.size]at ab;have ae:=J.spawn hm (a':=a') (x:={ g:=0,fn:=a.frame.fn,pos:=a.frame.place,act:=.go (m+(S.n-(r+1))) }) (y:={ g:=m+(S.n-(r+1)),fn:=ai.frame.fn,pos:=a.frame.place,act:=.start }) ⟨rfl,rfl⟩ ⟨rfl,rfl⟩ a2 a3 a7 a1 d1 d2 w0 wc a0
   have eV:Vc (S.n-(r+1)+1) (upd D (S.n-(r+1)) ⟨7,0,0⟩)=Vc (S.n-(r+1)) D+1:=by
    simp only[Vc,sumTo,upd_same];rw[sumTo_upd_out D _ cnt jA];rfl
   have eS:Ssum (S.n-(r+1)+1) (upd D (S.n-(r+1)) ⟨7,0,0⟩)=Ssum (S.n-(r+1)) D+7:=by
    simp only[Ssum,sumTo,upd_same];rw[sumTo_upd_out D _ WD.stage jA]
   have aj:OpenSt (S.n-(r+1)+1) (upd D (S.n-(r+1)) ⟨7,0,0⟩):=λi hi=>by
    by_cases e:i=S.n-(r+1)
    ·subst e;rw[upd_same];simp
    ·rw[upd_ne D _ e];exact ho i (by omega)
   have ay:((gs.setIfInBounds 0 a').push ai)[0]? =some a':=by
    have:0<gs.size:=by rw[J.size];omega
    rw[fH (by simp;exact this),<-bU];simp[this]
   have ej:S.n-(r+1)+1=S.n-r:=by omega
   have eK:upd (upd K 0 K0) (S.n-r) Kc 0=K0:=by rw[upd_ne _ _ (by omega),upd_same]
   rw[ej]at ae eV eS aj;have an:∀ah,pend ah=0->((Vc (S.n-(r+1)) D+pend (.sp r 2):Nat):Int)*KK=((Vc (S.n-r) (upd D (S.n-(r+1)) ⟨7,0,0⟩)+pend ah:Nat):Int)*KK:=λah hp=>by rw[eV,hp];simp[pend]
   cases r with
   |zero=>
    obtain⟨aa,hk⟩:=ag;simp only[Nat.sub_zero]at ae eV eS aj an eK
    refine⟨_,_,((sumTo m q,phi S.n (Vc S.n (upd D (S.n-(0+1)) ⟨7,0,0⟩)) .kd+Ssum S.n (upd D (S.n-(0+1)) ⟨7,0,0⟩)),(upd F (S.n-(0+1)) Y,(0,aa))),ab,pz.stage (by simp only[phi];omega),
     _,w,sl,S.n,_,_,.kd,(0,aa),0,_,a',_,_,q,rfl,ay,by rw[eK];exact .kd hk,ae,I,?_,by simp,rfl⟩
    rw[an .kd rfl];exact .opn trivial aj (by simp)
   |succ r'=>
    obtain⟨aa,hk⟩:=ag
    refine⟨_,_,((sumTo m q,phi S.n (Vc (S.n-(r'+1)) (upd D (S.n-(r'+1+1)) ⟨7,0,0⟩)) (.sp r' 5)+Ssum (S.n-(r'+1)) (upd D (S.n-(r'+1+1)) ⟨7,0,0⟩)),(upd F (S.n-(r'+1+1)) Y,(0,aa))),ab,pz.stage (by simp only[phi];omega),
     _,w,sl,S.n-(r'+1),_,_,.sp r' 5,(0,aa),0,_,a',_,_,q,rfl,ay,by rw[eK];exact .skd (by omega) hk,ae,I,?_,by simp,rfl⟩
    rw[an (.sp r' 5) rfl];exact .opn trivial aj (by simp)
  ·exact mF hm hQ ha J E R I z (by simp) (.sgo hr hT) (.way (Tr.lt f w))
 |kd h=>
  subst hK;rcases h.cases with⟨_,a',E,Y,hk⟩|⟨f,g',w',es,rfl,E,R,hT⟩
  ·exact nX hm hQ ha J E (.refl S.Wg w) I N7 (.anch hk) (z.reopen trivial trivial rfl (by simp)) (by simp) (.inl (by simp only[phi];omega))
  ·exact mF hm hQ ha J E R I z (by simp) (.kd hT) (.way (Tr.lt f w))
 |anch h=>
  subst hK;rcases h.cases with ac|⟨f,g',w',es,rfl,E,R,hT⟩
  ·obtain⟨Y,hk⟩:=a6 _ _ _ ac;obtain⟨aq,ops,a5,h1,h2,h3⟩:=aa1 (sl:=sl) hm hQ hn ha J I (z.reopen trivial trivial rfl (by simp)) hk;refine⟨aq,ops,a5,h1,?_,h3⟩;exact pz.trans h2 (by simp only[phi];omega) rfl
  ·exact mF hm hQ ha J E R I z (by simp) (.anch hT) (.way (Tr.lt f w))
 |w1 h=>subst hK;exact aa1 hm hQ hn ha J I z h
 |w2 h=>
  rename_i vs T;subst hK;rcases h.cases with⟨_,af⟩|⟨f,g',w',es,rfl,E,R,hT⟩
  ·obtain⟨ho,rfl,rfl,az⟩:=z.open_inv trivial;obtain⟨a9,h1⟩:=az vs rfl;obtain⟨ap,ao⟩:=af (Vc S.n D) (by omega) (by simpa[pend]using I);by_cases e:Vc S.n D=vs
   ·obtain⟨a',E,Y,hk⟩:=ap e;exact nX hm hQ ha J E (aside_setCell w (stA S.Wg) _) (I.setSt _) U0 (.w3 hk) (.reg trivial ho (by omega)) (by simp) (.inl (by simp only[phi];omega))
   ·obtain⟨a',E,Y,hk⟩:=ao e;exact nX hm hQ ha J E (.refl S.Wg w) I Ia (.anch hk) (z.reopen trivial trivial rfl (by simp)) (by simp) (.inl (by simp only[phi];omega))
  ·exact mF hm hQ ha J E R I z (by simp) (.w2 hT) (.way (Tr.lt f w))
 |w3 h=>
  rename_i T;subst hK;cases T with
  |leaf=>
   obtain⟨_,a8,ak,am⟩:=h w (.refl ..);cases z with
   |opn h1 _ _=>exact h1.elim
   |reg h1 h2 h3=>exact nX hm hQ ha J (ak ⟨_,I⟩) (.refl S.Wg w) I (by simp) (.blk h) (.reg trivial h2 h3) (by simp) (.inr ⟨rfl,Prod.Lex.left _ _ (by omega)⟩)
   |last L h1 h2 h3 h4=>exact nX hm hQ ha J (ak ⟨_,I⟩) (.refl S.Wg w) I (by simp) (.blk h) (.last L trivial h2 h3 h4) (by simp) (.inr ⟨rfl,Prod.Lex.left _ _ (by omega)⟩)
   |sema h2=>
    obtain⟨a',E,Y,hk⟩:=am I;exact nX hm hQ ha J E (aside_setCell w (smA S.Wg) _) (I.setSm 0) W9 (.w4 hk) (.fin trivial h2) (by simp) (.inl (by simp only[phi];omega))
   |fin h1 _=>exact h1.elim
  |node f=>
   obtain⟨g',w',es,E,R,hT⟩:=h.2 w (.refl ..);exact mF hm hQ ha J E R I z (by simp) (.w3 hT) (.way (Tr.lt f w))
 |blk h=>simp at ax
 |w4 h=>
  subst hK;rcases h.cases with⟨_,hx⟩|⟨f,g',w',es,rfl,E,R,hT⟩
  ·obtain⟨hq,rfl,rfl⟩:=z.fin_inv trivial;obtain⟨a',E,Y,hk⟩:=hx I;exact nX hm hQ ha J E (.refl S.Wg w) I Ia (.ke hk) (.fin trivial hq) (by simp) (.inl (by simp only[phi];omega))
  ·exact mF hm hQ ha J E R I z (by simp) (.w4 hT) (.way (Tr.lt f w))
 |ke h=>
  subst hK;rcases h.cases with⟨_,a',E,Y,hk⟩|⟨f,g',w',es,rfl,E,R,hT⟩
  ·obtain⟨hq,rfl,rfl⟩:=z.fin_inv trivial;exact nX hm hQ ha J E (.refl S.Wg w) I UZ (.acq hk) (.fin trivial hq) (by simp) (.inl (by simp only[phi];omega))
  ·exact mF hm hQ ha J E R I z (by simp) (.ke hT) (.way (Tr.lt f w))
 |acq h=>
  subst hK;rcases h.cases with⟨_,a',E,Y,hk⟩|⟨f,g',w',es,rfl,E,R,hT⟩
  ·obtain⟨hq,rfl,rfl⟩:=z.fin_inv trivial;refine nX hm hQ ha J E (.refl S.Wg w) I VP (.ret hk) (.fin trivial hq) (λ_=>?_) (.inl (by simp only[phi];omega));have e1:MemOp.ofEvents 0 a.frame.fn a.frame.place #[Go.ConcR.mk (.acquire (stA S.Wg))]=#[{ g:=0,fn:=a.frame.fn,pos:=a.frame.place,act:=.mark (.acquire (stA S.Wg)) }]:=by rw[ofEvents_eq];simp[ofEvent_mk]
   have hy:(t++#[({ g:=0,fn:=a.frame.fn,pos:=a.frame.place,act:=.mark (.acquire (stA S.Wg)) }:MemOp)])[t.size]? =some { g:=0,fn:=a.frame.fn,pos:=a.frame.place,act:=.mark (.acquire (stA S.Wg)) }:=by simp
   refine⟨t.size,by rw[e1,act?_of hy],by rw[e1];simp[Trace.g?],by rw[e1];exact⟨0,by simp[Trace.g?],by rw[deaf_old jA];exact J.deaf0⟩,λi hi=>?_⟩;obtain⟨r,hr⟩:=J.rel i hi (by rw[hq i hi];omega);exact⟨r,hr.appOther g_of_ofEvents (by omega),lt_of_act? hr.act⟩
  ·exact mF hm hQ ha J E R I z (by simp) (.acq hT) (.way (Tr.lt f w))
 |ret h=>
  subst hK;rcases h.cases with ac|⟨f,g',w',es,rfl,E,R,hT⟩
  ·exact absurd ⟨rfl,ac⟩ aw
  ·exact mF hm hQ ha J E R I z av (.ret hT) (.way (Tr.lt f w))
end
end
end Cr
end Go.Proofs.YtpibpdpedjinhaaGreatDoor
