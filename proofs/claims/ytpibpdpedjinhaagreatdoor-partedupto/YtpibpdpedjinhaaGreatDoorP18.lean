import Derived.Test.YtpibpdpedjinhaaGreatDoorP17
import Derived.Conc.Own4
import Derived.Maps.RangeWalk
import Derived.Maps.OwnOps
set_option maxRecDepth 100000
set_option maxHeartbeats 4000000
set_option linter.unusedSimpArgs false
namespace Go.Proofs.YtpibpdpedjinhaaGreatDoor
namespace Cr
open Go Go.Conc Go.ConcN Go.RowKit Go.Conc.Lib Go.ConcR.Gen Go.ConcN.Gen
open Go.ConcR (KK WgAt stA smA Payload DC0)
section
variable {b C i:Nat}{T:Array Value}{b₀:Frame}{a₀:Act}{ops:Array Oper}{rest:List Nat}{k:List Item}
section
variable {w:World}{c:Array Value}{n:Nat}
theorem Jt:(lT w c n).heap.size=w.heap.size+4:=by
 unfold lT;rw[eH,(jS _ _ _).2.2.2];simp
theorem Gh:(lT w c n).tape=w.tape/\(lT w c n).os=w.os/\(lT w c n).output=w.output:=by
 unfold lT;obtain⟨z,h2,h3,_⟩:=jS (((w.alloc (.cells c 24)).alloc (.cells (madeCells #[.slice none 0 0] n) 76)).alloc (.cells #[.slice none 0 0] 29)) ⟨w.heap.size+2,0,none⟩ (.slice (some ⟨w.heap.size+1,0,none⟩) n n);exact⟨z,h2,h3⟩
theorem alloc_old(w:World)(o:Obj)(h:b<w.heap.size):(w.alloc o).heap[b]? =w.heap[b]?:=by
 show(w.heap.push o)[b]? =w.heap[b]?
 rw[fH h,bU h]
theorem tX(h:b<w.heap.size+3)(z:b≠w.heap.size+2):(lT w c n).heap[b]? =((w.alloc (.cells c 24)).alloc (.cells (madeCells #[.slice none 0 0] n) 76)).heap[b]?:=by
 unfold lT;rw[alloc_old _ _ (by rw[(jS _ _ _).2.2.2];simp;omega),kD (show b≠w.heap.size+2 from z),alloc_old _ _ (by simp;omega)]
theorem KE(h:b<w.heap.size):(lT w c n).heap[b]? =w.heap[b]?:=by
 rw[tX (by omega) (by omega),alloc_old _ _ (by simp;omega),alloc_old _ _ h]
theorem U2:(lT w c n).heap[w.heap.size]? =some (.cells c 24):=by
 rw[tX (by omega) (by omega),alloc_old _ _ (by simp)];exact heap_alloc_new _ _
theorem UK:(lT w c n).heap[w.heap.size+1]? =some (.cells (madeCells #[.slice none 0 0] n) 76):=by
 rw[tX (by omega) (by omega)];have:=heap_alloc_new (w.alloc (.cells c 24)) (.cells (madeCells #[.slice none 0 0] n) 76);simpa only[eH]using this
theorem SK:(lT w c n).heap[w.heap.size+2]? =some (.cells #[.slice (some ⟨w.heap.size+1,0,none⟩) n n] 29):=by
 unfold lT;rw[alloc_old _ _ (by rw[(jS _ _ _).2.2.2];simp)];refine OU (u:=.slice none 0 0) ?_;have:=heap_alloc_new ((w.alloc (.cells c 24)).alloc (.cells (madeCells #[.slice none 0 0] n) 76)) (.cells #[.slice none 0 0] 29);simpa only[eH]using this
theorem TL:(lT w c n).heap[w.heap.size+3]? =some (.cells #[.int .u64 0,.int .u32 0] 211):=by
 unfold lT;have:=heap_alloc_new ((((w.alloc (.cells c 24)).alloc (.cells (madeCells #[.slice none 0 0] n) 76)).alloc (.cells #[.slice none 0 0] 29)).setCell ⟨w.heap.size+2,0,none⟩ (.slice (some ⟨w.heap.size+1,0,none⟩) n n)) (.cells #[.int .u64 0,.int .u32 0] 211);rw[(jS _ _ _).2.2.2]at this;simpa only[eH]using this
end
structure Found(w:World)(n:Nat)(fs:Nat->List Fr.F)(w':World):Prop where
 old:∀b,b<w.heap.size->w'.heap[b]? =w.heap[b]?
 still:w'.tape=w.tape/\w'.os=w.os/\w'.output=w.output
 size:w.heap.size+4<=w'.heap.size
 rows:∃vs:Array Value,w'.heap[w.heap.size+1]? =some (.cells vs 76)/\vs.size=n/\∀i,i<n->∃v,vs[i]? =some v/\qH (λb=>w.heap.size+4<=b) w' v (fs i)
 wg:∃c t,c≠#[]/\w'.heap[w.heap.size+3]? =some (.cells c t (0,0))
section
variable {Post:Value->World->Prop}{Dead:Nat->Prop}{w w':World}{tx:Option Addr}{n cap tb q0:Nat}{cs:List Frame}{inbox batcher t0 t1 t2 t3 t4:Int}{fr ad:Nat->Int}{data:Nat->ByteArray}{fs:Nat->List Fr.F}
theorem He{bf:Nat}(hT:T.size=24)(t5:T[5]? =some (.pointer (some ⟨bf,0,none⟩)))(R:w.heap[bf]? =some (.cells #[.slice (some ⟨C,0,none⟩) n n] 29))(Y:¬Dead bf)
  (I:nN Tryz.prog Post Dead (G (b₀.at (a₀.put ((ops[i]?).bind (·.dst)) (.slice (some ⟨C,0,none⟩) n n)) (.inRegion ops rest::k)) cs) w):
  nN Tryz.prog Post Dead (G (bS.at ⟨T,[]⟩ (.inRegion ops9 []::[.code tail9])) (b₀.at a₀ (.inRegion ops (i::rest)::k)::cs)) w:=by
 obtain⟨v0,v1,v2,v3,v4,v5,v6,v7,v8,v9,ab,an,ae,aa,ak,af,aj,am,ao,ah,ag,ac,ai,ap,rfl⟩:=Aa T hT;simp only[dY,dX,dQ,aC]at t5;subst t5;have E:AtRel w w:=atRel_refl w;simp only[tail9,wI,Tryz.f71];refine nN.go (n:=20) ?_;u_c stepG_region_end at_rl E;u_c stepG_seq at_rl E;u_reg at_rl E;refine Goes.stop λJ z=>?_;obtain⟨d,rfl⟩:=at_rl E z;refine nN.at ?_ d;clear E z;refine nN.tZ (v:=.slice (some ⟨C,0,none⟩) n n) (w':=w) rfl rfl (by k_ne) (λd=>(Ym (w:=w.at d) R rfl rfl).1) jA (λd e he=>?_) ?_
 ·rw[(Ym (w:=w.at d) R rfl rfl).2 e he];refine evL_cell _ _ (λ⟨a,e,h⟩=>?_) (jC R);cases e;exact Y h
 walk_nrm;have E:AtRel w w:=atRel_refl w;refine nN.go (n:=20) ?_;u_op at_rl E;u_c stepG_region_end at_rl E;u_c stepG_ret' at_rl E;u_in at_rl E;refine goes_leave1 rfl rfl Tryz.func71 rfl ⟨by u_nil,?_⟩;refine Goes.stop λJ z=>?_;obtain⟨d,rfl⟩:=at_rl E z;exact I.at d
theorem SF.at{OB:Nat->Prop}{W:World}{Wg:Nat}{K:jU}(h:SF OB W Wg C n K w)(d:Nat):SF OB W Wg C n K (w.at d):=
 ⟨h.sub,h.old,h.kw,h.ko,h.pay,h.hC,h.hG,h.glob,h.new,h.siz,h.still,h.low⟩
def Lu(N:Nat)(Dead:Nat->Prop)(b:Nat):Prop:=b<N+3/\b≠N+1/\¬Dead b
theorem KF(rd:ReadW)(hn:n<=16777216)(hD:∀b,Dead b->b<w.heap.size)(aj:Tryz.prog.globals.size<=w.heap.size)
  (hx:Tz (λb=>b<w.heap.size/\¬Dead b) w tx tb q0 n fr ad data) (a0:∀j,j<n->fs j=Fr.lQ inbox batcher (fr j) (ad j) (data j).data.toList)
  (J:∀w',Found w n fs w'->nN Tryz.prog Post (λb=>Dead b\/b=w.heap.size+3) (G (b₀.at (a₀.put ((ops[i]?).bind (·.dst)) (.slice (some ⟨w.heap.size+1,0,none⟩) n n)) (.inRegion ops rest::k)) cs) w')
  (hT:T.size=24) (ay:T[1]? =some (.slice tx n cap)) (ag:T[2]? =some (.pointer (some ⟨w.heap.size,0,none⟩))) (af:T[5]? =some (.pointer (some ⟨w.heap.size+2,0,none⟩))) (ai:T[6]? =some (.pointer (some ⟨w.heap.size+3,0,none⟩))):
  qj Tryz.prog Post Dead (w.heap.size+3) (G (bS.at ⟨T,[]⟩ [.code UL,.code wI]) (b₀.at a₀ (.inRegion ops (i::rest)::k)::cs)) (lT w (cfg inbox batcher t0 t1 t2 t3 t4) n):=by
 intro d gs sl t q h0 hL hP;obtain⟨N,R⟩:∃N,w.heap.size=N:=⟨_,rfl⟩
 obtain⟨W,hW⟩:∃W,lT w (cfg inbox batcher t0 t1 t2 t3 t4) n=W:=⟨_,rfl⟩
 have sW:W.heap.size=N+4:=by rw[<-hW,Jt,R]
 have oW:∀b,b<N->W.heap[b]? =w.heap[b]?:=λb z=>by rw[<-hW];exact KE (by omega)
 have cW:W.heap[N]? =some (.cells (cfg inbox batcher t0 t1 t2 t3 t4) 24):=by rw[<-hW,<-R];exact U2
 have pW:W.heap[N+1]? =some (.cells (madeCells #[.slice none 0 0] n) 76):=by rw[<-hW,<-R];exact UK
 have fW:W.heap[N+2]? =some (.cells #[.slice (some ⟨N+1,0,none⟩) n n] 29):=by rw[<-hW,<-R];exact SK
 have wW:W.heap[N+3]? =some (.cells #[.int .u64 0,.int .u32 0] 211):=by rw[<-hW,<-R];exact TL
 have ae:W.tape=w.tape/\W.os=w.os/\W.output=w.output:=by rw[<-hW];exact Gh
 rw[hW];rw[R]at hP ag af ai aj J;have I:∀b,Dead b->b<N:=λb z=>by rw[<-R];exact hD b z
 have aa:PayAt (N+1) n (W.at d):=⟨_,pW,size_madeCells _ _⟩
 have aw:SF (Lu N Dead) W (N+3) (N+1) n ⟨Lu N Dead,λ_=>False⟩ (W.at d):=by
  refine⟨λ_ h=>h,λ_ _=>rfl,λ_ h=>h.elim,λb z=>⟨?_,?_,z.2.1⟩,aa,?_,?_,?_,λ_ h=>.inl h,jA,⟨rfl,rfl,rfl⟩,λ_ _ _ _=>rfl⟩
  all_goals (try show _<W.heap.size);(try show _<=W.heap.size)
  ·have:=z.1;omega
  ·have:=z.1;omega
  ·omega
  ·omega
  ·exact aW aj (by omega)
 have E:∀(j:Nat)(v:Value),w.cell? ⟨tb,j,none⟩=some v->tb<N->W.cell? ⟨tb,j,none⟩=some v:=λj v h z=>by rw[<-h];exact cell_of_block (oW tb z) j
 have hX:Tz (Lu N Dead) W tx tb q0 n fr ad data:=by
  refine⟨λh=>let ⟨h1,h2,h3⟩:=hx.at_ h;⟨h1,by omega,by omega,h3⟩,λj hj=>?_,hx.size⟩;obtain⟨_,z,_⟩:=hx.at_ (by omega);obtain⟨c1,c2,c3⟩:=hx.cell j hj;exact⟨E _ _ c1 (by omega),E _ _ c2 (by omega),E _ _ c3 (by omega)⟩
 have a3:=QE (OB:=Lu N Dead) (W:=W) (Wg:=N+3) (C:=N+1) (bc:=N) (bf:=N+2) (cap:=cap) (cs:=b₀.at a₀ (.inRegion ops (i::rest)::k)::cs) rd (by omega) (by omega) ⟨by omega,by omega,λh=>by have:=I _ h;omega⟩ ⟨by omega,by omega,λh=>by have:=I _ h;omega⟩ cW fW hX a0 hT ay ag af ai
  ⟨aw,0,0,(show W.heap[N+3]? =_ from wW)⟩ (λ_ h=>h)
 obtain⟨Np,az,a',w',a5,t',q',K,hr,a6,ap,a2,a4,ac,⟨cs',Y,ar⟩,ah⟩:=phase (P:=Tryz.prog) (S:=lS (N+3) (N+1) n) (Shun:=Vg Dead) (B:=N+3) (Fin:=Zc (Lu N Dead) W (N+3) (N+1) n (N+2) (b₀.at a₀ (.inRegion ops (i::rest)::k)::cs)) (AnchW:=AnchS (Lu N Dead) W (N+3) (N+1) n (N+2) (b₀.at a₀ (.inRegion ops (i::rest)::k)::cs))
  (GU N (N+2) W fs) (show n<2147483648 by omega) (λK g w h=>by obtain⟨_,_,_,rfl,_⟩:=h;rfl) (λK g w h=>by obtain⟨_,_,_,_,rfl,_⟩:=h;rfl)
  (NJ (by omega)) (λK g w d h=>let ⟨T,h1,h2,h3,h4⟩:=h;⟨T,h1,h2,h3,h4.at d⟩) (sl:=sl) (w:=W.at d) h0 hL hP (K0:=⟨Lu N Dead,λ_=>False⟩) (λ_ h=>h.elim)
  (λb z=>⟨by show b<W.heap.size;have:=z.1;omega,by show b≠N+3;have:=z.1;omega,z.2.1,λl hl=>by rintro⟨a,rfl,h⟩;cases hl;exact z.2.2 h⟩)
  (by show N+3<W.heap.size;omega) (by show N+1<W.heap.size;omega) (by show N+1≠N+3;omega) jA (.inr λi ⟨a,e,h⟩=>by cases e;have:N+1<N:=I _ h;omega) (λ_ h=>h.elim) (show N+1-1<=N+3 by omega) (show N+1-1<=N+1 by omega)
  (show W.heap[N+3]? =_ from wW) aa a3
 obtain⟨T',a1,au,rfl,hS⟩:=ap;refine wZ.after hr ?_;have ak:w'.heap[N+2]? =some (.cells #[.slice (some ⟨N+1,0,none⟩) n n] 29):=(hS.old (N+2) ⟨by omega,by omega,λh=>by have:=I _ h;omega⟩).trans fW;have av:w'.heap[N]? =some (.cells (cfg inbox batcher t0 t1 t2 t3 t4) 24):=(hS.old N ⟨by omega,by omega,λh=>by have:=I _ h;omega⟩).trans cW
 have ab:Found w n fs w':=by
  refine⟨λb z=>?_,⟨hS.still.1.trans ae.1,hS.still.2.1.trans ae.2.1,hS.still.2.2.trans ae.2.2⟩,?_,⟨cs',?_,ar,λi hi=>?_⟩,?_⟩
  ·rw[R]at z;exact(hS.low b (by omega) (by omega) (by omega)).trans (oW b z)
  ·have:=hS.siz;omega
  ·rw[R];exact Y
  ·obtain⟨v,O,hh,aq,hO⟩:=ac i hi;refine⟨v,?_,?_⟩
   ·have ao:w'.cell? ⟨N+1,i,none⟩=some v:=hh;simp only[World.cell?,Y]at ao;exact ao
   ·rcases aq with h|⟨g,am,ax,h1,h2,h3,h4⟩
    ·exact .inl h
    ·refine .inr ⟨g,am,ax,h1,?_,h3,h4⟩;rcases hO g h2 with(e|e)|h
     ·rw[e,av]at h3;simp at h3
     ·rw[e,ak]at h3;simp at h3
     ·show w.heap.size+4<=g;omega
  ·rw[R];exact⟨_,_,by simp,ah⟩
 have an:=He (cs:=cs) (b₀:=b₀) (a₀:=a₀) (ops:=ops) (i:=i) (rest:=rest) (k:=k) a1 au ak (Dead:=λb=>Dead b\/b=N+3) (λh=>h.elim (λh=>by have:=I _ h;omega) λh=>by omega) (J w' ab);exact an w'.drawn az a5 t' q' a6 a2 (yR a4 λl hl=>hl.elim (λ⟨a,e,h⟩=>⟨a,e,.inl h⟩) λ⟨a,e,h⟩=>⟨a,e,.inr h⟩)
theorem aaO(A B:Value):(#[A,B]++Array.replicate (24-(#[A,B]:Array Value).size) undef:Array Value)=#[A,B,undef,undef,undef,undef,undef,undef,undef,undef,undef,undef,undef,undef,undef,undef,undef,undef,undef,undef,undef,undef,undef,undef]:=by
 apply Array.ext';rw[Array.toList_append,Array.toList_replicate];rfl
theorem nmS:(Tryz.f71.name == "runtime.NumGoroutine")=false:=rfl
theorem bdS:Tryz.f71.body=some Vr:=rfl
theorem ntS:Tryz.f71.ntmps=24:=rfl
theorem uT(rd:ReadW){o:Oper}{x y:Operand}{Y:Array TypeId}(ho:ops[i]? =some o)(hw:Region.wanted o (yielded ops a₀.tmps)=true)(hk:b₀.kind≠.early)
  (I:o.op=.call { callee:=.value (.func 71),args:=#[x,y],argTypes:=Y }) (ex:a₀.eval x=.agg (cfg inbox batcher t0 t1 t2 t3 t4)) (ey:a₀.eval y=.slice tx n cap)
  (hn:n<=16777216) (hD:∀b,Dead b->b<w.heap.size) (R:Tryz.prog.globals.size<=w.heap.size)
  (hx:Tz (λb=>b<w.heap.size/\¬Dead b) w tx tb q0 n fr ad data) (J:∀j,j<n->fs j=Fr.lQ inbox batcher (fr j) (ad j) (data j).data.toList)
  (z:∀w',Found w n fs w'->nN Tryz.prog Post (λb=>Dead b\/b=w.heap.size+3) (G (b₀.at (a₀.put o.dst (.slice (some ⟨w.heap.size+1,0,none⟩) n n)) (.inRegion ops rest::k)) cs) w'):
  nN Tryz.prog Post Dead (G (b₀.at a₀ (.inRegion ops (i::rest)::k)) cs) w:=by
 have hF:AtRel w w:=atRel_refl w;refine nN.go (n:=1) ?_;u_in at_rl hF;refine goes_call ho hw hk I Tryz.func71 nmS bdS ⟨by u_nil,?_⟩;obtain⟨d,rfl⟩:=hF;refine Goes.stop λaa E=>?_;obtain⟨d',rfl⟩:=E;refine nN.at (nN.at ?_ d) d'
 have h:=Gj (Post:=Post) (cap:=cap) (tx:=tx) (cs:=b₀.at a₀ (.inRegion ops (i::rest)::k)::cs) (inbox:=inbox) (batcher:=batcher) (t0:=t0) (t1:=t1) (t2:=t2) (t3:=t3) (t4:=t4) hn hD λT h0 h1 h2 h5 h6=>
  KF rd hn hD R hx J (by rw[ho];exact z) h0 h1 h2 h5 h6
 have e:(#[x,y].map a₀.eval)=#[.agg (cfg inbox batcher t0 t1 t2 t3 t4),.slice tx n cap]:=by simp[ex,ey]
 rw[e,ntS,aaO];exact h
end
end
end Cr
namespace Po
open Go Go.Conc
open Cr (nN Found Tz qH cfg)
section
def pend:Obj->Obj
 |.cells c t _=>.pending c t
 |o=>o
def behind(x w:World)(g:Nat):World:={ w with heap:=w.heap.mapIdx λi o=>(x.heap[i]?).getD (if i=g then pend o else if ghost o then .coro none else o) }
section
variable {x y w:World}{g b:Nat}
theorem su(hs:x.heap.size<=w.heap.size)(h:b<x.heap.size):(behind x w g).heap[b]? =x.heap[b]?:=by
 show(w.heap.mapIdx _)[b]? =_
 rw[iW,bU (show b<w.heap.size by omega),bU h];rfl
theorem pK(h:x.heap.size<=b):(behind x w g).heap[b]? =(w.heap[b]?).map λo=>if b=g then pend o else if ghost o then .coro none else o:=by
 show(w.heap.mapIdx _)[b]? =_
 rw[iW,iQ h];rfl
theorem Qj{e J:Env}(hw:WP e x y)(hC:∀c,e.C c->J.C c)(hold:∀b,b<y.heap.size->w.heap[b]? =y.heap[b]?)(hs:y.heap.size<=w.heap.size)(hg:y.heap.size<=g){c:Array Value}{t:TypeId}(hc:c≠#[])(E:w.heap[g]? =some (.cells c t (0,0)))
  (Y:∀b,J.D b↔e.D b\/b=g\/y.heap.size<=b/\∃o,w.heap[b]? =some o/\ghost o=true):WP J (behind x w g) w where
 os:=rfl
 output:=rfl
 size:=by simp[behind]
 out b z:=by
  have hz:=hw.size;rw[Y]at z;rcases fQ b x.heap.size with h|h
  ·rw[su (by omega) h,hold b (by omega),hw.out b λk=>z (.inl k)]
  ·rw[pK h];cases I:w.heap[b]? with
   |none=>rfl
   |some o=>
    have h1:b≠g:=λk=>z (.inr (.inl k))
    have h2:ghost o=false:=by
     cases k:ghost o with
     |false=>rfl
     |true=>exact absurd (.inr (.inr ⟨by omega,o,I,k⟩)) z
    simp[h1,h2]
 inn b z:=by
  have hz:=hw.size;rw[Y]at z;rcases z with z|rfl|⟨h1,o,h2,h3⟩
  ·have hl:b<x.heap.size:=by
    rcases hw.inn b z with⟨_,_,_,h,_⟩|⟨_,_,h,_⟩<;>exact(jC h)
   rw[su (by omega) hl,hold b (by omega)];exact hw.inn b z
  ·exact .inl ⟨c,t,E,by rw[pK (by omega),E];simp[pend],hc⟩
  ·by_cases k:b=g
   ·subst k;rw[E]at h2;cases h2;cases h3
   ·exact .inr ⟨o,h2,by rw[pK (by omega),h2];simp[k,h3],h3⟩
 objs b o h:=by
  have hz:=hw.size;rcases fQ b x.heap.size with k|k
  ·rw[su (by omega) k]at h;have:=hw.objs b o h;cases o with
   |loop l=>exact⟨hC _ this.1,hC _ this.2.1,λc k=>hC _ (this.2.2 c k)⟩
   |deferred ds=>cases ds<;>exact this
   |_=>trivial
  ·rw[pK k]at h;cases I:w.heap[b]? with
   |none=>rw[I]at h;cases h
   |some u=>
    rw[I]at h;simp only[bQ,aC]at h;subst h;refine zn ?_;by_cases R:b=g
    ·subst R;rw[E]at I;cases I;simp[pend,ghost]
    ·rw[if_neg R];split
     ·rfl
     ·exact Bool.eq_false_iff.2 ‹_›
end
structure Bc(x:World)(n:Nat)(fs:Nat->List Fr.F)(x':World):Prop where
 old:∀b,b<x.heap.size->x'.heap[b]? =x.heap[b]?
 still:x'.os=x.os/\x'.output=x.output
 size:x.heap.size+4<=x'.heap.size
 rows:∃vs:Array Value,x'.heap[x.heap.size+1]? =some (.cells vs 76)/\vs.size=n/\∀i,i<n->∃v,vs[i]? =some v/\qH (λb=>x.heap.size+4<=b) x' v (fs i)
section
variable {D:Nat->Prop}{Post:EO}{Z A:List Frame}{x:World}{b:Frame}{a:Act}{k:List Item}{tx:Option Addr}{n cap tb q0:Nat}{inbox batcher t0 t1 t2 t3 t4:Int}{fr ad:Nat->Int}{data:Nat->ByteArray}{fs:Nat->List Fr.F}
theorem uN{e:Env}{y:World}(hw:WP e x y){c:Addr}{v:Value}(h:x.cell? c=some v):¬e.D c.block/\c.block<x.heap.size/\y.cell? c=some v:=by
 have hd:¬e.D c.block:=λhd=>by
  rcases hw.inn _ hd with⟨_,_,_,k,_⟩|⟨_,_,k,_⟩<;>simp[World.cell?,k]at h
 refine⟨hd,?_,by rw[<-h];simp only[World.cell?,hw.out _ hd]⟩;cases k:x.heap[c.block]? with
 |none=>simp[World.cell?,k]at h
 |some o=>exact(jC k)
theorem Wk.frames(rd:Cr.ReadW){ops:Array Oper}{i:Nat}{rest:List Nat}{o:Oper}{p q:Operand}{ai:Array TypeId}(ho:ops[i]? =some o)(hw:Region.wanted o (yielded ops a.tmps)=true)
  (ab:o.op=.call { callee:=.value (.func 71),args:=#[p,q],argTypes:=ai }) (ep:a.eval p=.agg (cfg inbox batcher t0 t1 t2 t3 t4)) (eq:a.eval q=.slice tx n cap) (hn:n<=16777216) (ah:Tryz.prog.globals.size<=x.heap.size)
  (hx:Tz (λ_=>True) x tx tb q0 n fr ad data) (ae:∀j,j<n->fs j=Fr.lQ inbox batcher (fr j) (ad j) (data j).data.toList)
  (Y:∀D' x',Bc x n fs x'->Wk (qe Tryz.prog.funcs D') Post Z (b.at (a.put o.dst (.slice (some ⟨x.heap.size+1,0,none⟩) n n)) (.inRegion ops rest::k)) A x'):
  Wk (qe Tryz.prog.funcs D) Post Z (b.at a (.inRegion ops (i::rest)::k)) A x:=by
 intro E y z I;have hz:=z.size
 rewrite [Yb]
 refine Cr.uT (n:=n) (w:=y) (Dead:=D) (cs:=A++Z) rd ho hw (λh=>by have:=E.1.kind;rw[show(b.at a _).kind=b.kind from rfl,h]at this;cases this) ab ep eq hn (λc hc=>?_) (by rw[hz];exact ah) (tb:=tb) (q0:=q0) (fr:=fr) (ad:=ad) (data:=data) (fs:=fs) ⟨λh=>?_,λj hj=>?_,hx.size⟩ ae λw' R=>?_
 ·rcases z.inn c hc with⟨_,_,h,_⟩|⟨_,h,_⟩<;>exact(jC h)
 ·have h1:=uN z (hx.cell 0 h).1;exact⟨(hx.at_ h).1,by rw[hz];exact h1.2.1,h1.1⟩
 ·obtain⟨c1,c2,c3⟩:=hx.cell j hj;exact⟨(uN z c1).2.2,(uN z c2).2.2,(uN z c3).2.2⟩
 ·obtain⟨c,t,hc,ag⟩:=R.wg;have hs:=R.size
  let D':Nat->Prop:=λb=>D b\/b=y.heap.size+3\/y.heap.size<=b/\∃o,w'.heap[b]? =some o/\ghost o=true
  have aa:WP (qe Tryz.prog.funcs D') (behind x w' (y.heap.size+3)) w':=Qj z (λ_ h=>h) R.old (by omega) (by omega) hc ag λb=>Iff.rfl
  have keep:∀{b:Nat}{o:Obj},y.heap.size<=b->b≠y.heap.size+3->w'.heap[b]? =some o->ghost o=false->(behind x w' (y.heap.size+3)).heap[b]? =some o:=λh1 h2 h3 h4=>by
   rw[pK (by omega),h3];simp[h2,h4]
  have hP:Bc x n fs (behind x w' (y.heap.size+3)):=by
   refine⟨λb h=>su (by omega) h,⟨R.still.2.1.trans z.os,R.still.2.2.trans z.output⟩,by simp only[behind,Array.size_mapIdx];omega,?_⟩;obtain⟨vs,h1,h2,h3⟩:=R.rows;refine⟨vs,by rw[<-hz];exact keep (by omega) (by omega) h1 rfl,h2,λi hi=>?_⟩;obtain⟨v,g1,g2⟩:=h3 i hi;refine⟨v,g1,g2.imp id λ⟨g,cap,af,r1,r2,r3,r4⟩=>⟨g,cap,af,r1,by rw[<-hz];exact r2,keep (by omega) (by omega) r3 rfl,r4⟩⟩
  have hk:=Y D' _ hP ⟨⟨λit ac=>?_,?_,E.1.kind⟩,λf hf=>⟨(E.2 f hf).todo,(E.2 f hf).defers,(E.2 f hf).kind⟩⟩ w' aa ⟨λb J=>⟨.inl (I.dead b J).1,(R.old b ?lt).trans (I.dead b J).2⟩,λb J hl=>?old,?size,R.still.2.1.trans I.os,R.still.2.2.trans I.output⟩
  case lt=>rcases z.inn b (I.dead b J).1 with⟨_,_,h,_⟩|⟨_,h,_⟩<;>exact(jC h)
  case old=>
   have:=I.size;rcases J with J|J|J
   ·exact I.old b J hl
   ·omega
   ·omega
  case size=>have:=I.size;omega
  ·rewrite [Yb]at hk
   rw[<-hz]at hk;exact hk.dead λb h=>h.elim .inl λh=>.inr (.inl h)
  ·rcases bV.1 ac with rfl|h
   ·exact E.1.todo (.inRegion ops (i::rest)) (.head _)
   ·exact E.1.todo _ (.tail _ h)
  ·intro d hd;refine E.1.defers d ?_;have:(a.put o.dst (.slice (some ⟨x.heap.size+1,0,none⟩) n n)).defers=a.defers:=by cases o.dst<;>rfl
   have hd:d∈(a.put o.dst (.slice (some ⟨x.heap.size+1,0,none⟩) n n)).defers:=hd;rw[this]at hd;exact hd
end
end
section
variable {fn:Func}{c d:Code}{ops:Array Oper}{i id:Nat}{rest:List Nat}
abbrev Wq(D:Nat->Prop)(Post:EO)(Z:List Frame)(fr:Frame)(A:List Frame)(x:World):Prop:=Wk (qe Tryz.prog.funcs D) Post Z fr A x
section
variable {D:Nat->Prop}{Post:EO}{Z A:List Frame}{fr:Frame}{x:World}{b:Frame}{a:Act}{k:List Item}
theorem Yd{P:Program}{G:Array Func}{D:Nat->Prop}{k:Nat}(h:P.funcs[k]? =some fn):(DL P G D).F[k]? =some fn:=h
theorem Wq.piece{Q:Act->World->Prop}(h:∀t d,c.wp PQ (λz a' w'=>z=.normal/\Q a' w') a (on x t d))(J:∀a' x',Q a' x'->Wq D Post Z (b.at a' k) A x'):Wq D Post Z (b.at a (.code c::k)) A x:=by
 refine Wk.code (fits D) ?_
 rewrite [Ec]
 exact λt d=>wp_mono (h t d) λz a' w' ⟨I,E⟩=>by subst I;exact J a' w' E
theorem Wq.code(h:∀t d,c.wp PQ (Cont (qe Tryz.prog.funcs D) Post Z A b k) a (on x t d)):Wq D Post Z (b.at a (.code c::k)) A x:=by
 refine Wk.code (fits D) ?_
 rewrite [Ec]
 exact h
theorem Wq.op(h:∀t d,wpOp PQ ops (λ_ _ _=>False) i (λa' w'=>Wq D Post Z (b.at a' (.inRegion ops rest::k)) A w') a (on x t d)):Wq D Post Z (b.at a (.inRegion ops (i::rest)::k)) A x:=by
 refine Wk.op (fits D) ?_
 rewrite [Ec]
 exact h
theorem Wq.draw(h:∀t,Wq D Post Z (b.at a (.inRegion ops (Region.schedule (PQ.follows .mixedOrders) ops t)::k)) A x):Wq D Post Z (b.at a (.code (.region id ops true)::k)) A x:=by
 refine Wk.draw (fits D) ?_
 rewrite [Ec]
 exact h
theorem Wq.call{o:Oper}{f:FuncId}{args:Array Operand}{I:Array TypeId}(ho:ops[i]? =some o)(hw:Region.wanted o (yielded ops a.tmps)=true)
  (E:o.op=.call { callee:=.value (.func f),args,argTypes:=I }) (R:PQ.funcs[f]? =some fn) (z:(fn.name == "runtime.NumGoroutine")=false) (Y:fn.body=some c)
  (h:Wq D Post Z ((base f).at { tmps:=args.map a.eval++Array.replicate (fn.ntmps-(args.map a.eval).size) undef,defers:=[] } [.code c]) (b.at a (.inRegion ops (i::rest)::k)::A) x):
  Wq D Post Z (b.at a (.inRegion ops (i::rest)::k)) A x:=by
 refine Wk.call (fits D) ho hw ?_
 rewrite [Ec]
 intro t d;refine⟨f,args.map a.eval,on x t d,?_,?_⟩
 ·exact run_call_body E R z (by rw[Y];rfl)
 ·have J:Frame.enter PQ f (args.map a.eval) .normal=(base f).at { tmps:=args.map a.eval++Array.replicate (fn.ntmps-(args.map a.eval).size) undef,defers:=[] } [.code c]:=by
   simp[Frame.enter,Frame.at,R,Y,base]
  rw[J];exact h.Df t d
theorem Wq.leave{c:Frame}{v:Value}(z:fr.mode=.returning)(hd:fr.defers=[])(hk:fr.kind=.normal)(E:PQ.funcs[fr.fn]? =some fn)(I:∀w,(results fn fr.tmps).run PQ w=.ok v w)
  (h:Wq D Post Z (c.finish v) A x):Wq D Post Z fr (c::A) x:=by
 refine Wk.leave (fits D) z hd hk (Yd E) ?_ h
 rewrite [Ec]
 exact λt d=>I _
theorem Wq.seq(h:Wq D Post Z (b.at a (.code c::.code d::k)) A x):Wq D Post Z (b.at a (.code (.seq c d)::k)) A x:=Wk.seq (fits D) h
theorem Wq.cond{o:Operand}{t:Bool}(z:a.eval o=.bool t)(h:Wq D Post Z (b.at a (.code (if t then c else d)::k)) A x):Wq D Post Z (b.at a (.code (.cond o c d)::k)) A x:=Wk.cond (fits D) z h
theorem Wq.region(h:Wq D Post Z (b.at a (.inRegion ops (List.range ops.size)::k)) A x):Wq D Post Z (b.at a (.code (.region id ops false)::k)) A x:=Wk.region (fits D) h
theorem Wq.done(h:Wq D Post Z (b.at a k) A x):Wq D Post Z (b.at a (.inRegion ops []::k)) A x:=Wk.done (fits D) h
theorem Wq.ret(h:∀todo,Wq D Post Z { b.at a todo with mode:=.returning } A x):Wq D Post Z (b.at a (.code .ret::k)) A x:=Wk.ret (fits D) h
theorem Wq.fin(h:∀todo,Wq D Post Z { b.at a todo with mode:=.returning } A x):Wq D Post Z (b.at a []) A x:=Wk.fin (fits D) h
end
end
section
variable {ds:List Deferred}
section
variable {D:Nat->Prop}{Post:EO}{Z A:List Frame}{fr:Frame}{x:World}
theorem Wk.takes{e:Env}(F:Fits e){b:Nat}(z:fr.mode=.returning)(hd:fr.defers={ target:=.collected b,args:=#[] }::ds)(hk:x.heap[b]? =some (.deferred (some [])))(h:Wk e Post Z { fr with defers:=ds } A (x.putObj b (.deferred none))):Wk e Post Z fr A x:=
 .one F.fit λt d=>by
  refine⟨{ fr with defers:=ds },A,on (x.putObj b (.deferred none)) t d,?_,h.Df t d⟩;have E:=run_takeDeferred (P:=e.P) (w:=on x t d) (b:=b) (ds:=[]) hk;simp[stepG,unwind,z,hd,E];rfl
theorem Wq.takes{b:Nat}(z:fr.mode=.returning)(hd:fr.defers={ target:=.collected b,args:=#[] }::ds)(hk:x.heap[b]? =some (.deferred (some [])))(h:Wq D Post Z { fr with defers:=ds } A (x.putObj b (.deferred none))):Wq D Post Z fr A x:=Wk.takes (fits D) z hd hk h
end
end
open Cr (Fill fills Dc)
section
variable {id:Nat}{c:Code}{v:Value}
section
variable {D:Nat->Prop}{Post:EO}{Z A:List Frame}{fr:Frame}{x y:World}{b:Frame}{a:Act}{k:List Item}{ops:Array Oper}{i:Nat}{rest:List Nat}{o:Oper}
theorem Wq.same(h:∀t d,on x t d=on y t d)(hk:Wq D Post Z fr A y):Wq D Post Z fr A x:=Wk.YO (t:=y.tape) (d:=y.drawn) (by rw[h];exact hk.Df _ _)
theorem Wq.skip(h:Wq D Post Z (b.at a k) A x):Wq D Post Z (b.at a (.code .skip::k)) A x:=Wk.skip (fits D) h
theorem Wq.block(h:Wq D Post Z (b.at a (.code c::.inBlock id::k)) A x):Wq D Post Z (b.at a (.code (.block id c)::k)) A x:=Wk.block (fits D) h
theorem Wq.inBlock(h:Wq D Post Z (b.at a k) A x):Wq D Post Z (b.at a (.inBlock id::k)) A x:=Wk.inBlock (fits D) h
theorem Wq.exit{k':List Item}(hk:exitTo id k=.some k')(h:Wq D Post Z (b.at a k') A x):Wq D Post Z (b.at a (.code (.exit id)::k)) A x:=Wk.exit (fits D) hk h
theorem Wq.loop(h:Wq D Post Z (b.at a (.code c::.inLoop c::k)) A x):Wq D Post Z (b.at a (.code (.loop c)::k)) A x:=Wk.ctl (fits D) (λ_=>step_loop) h
theorem Wq.inLoop(h:Wq D Post Z (b.at a (.code c::.inLoop c::k)) A x):Wq D Post Z (b.at a (.inLoop c::k)) A x:=Wk.ctl (fits D) (λ_=>step_inLoop) h
theorem Wq.val{x':World}(z:ops[i]? =.some o)(I:o.guard=none)(E:∀t d,(execOp a.eval o).run PQ (on x t d)=.ok (.value v) (on x' t d))(h:Wq D Post Z (b.at (a.put o.dst v) (.inRegion ops rest::k)) A x'):Wq D Post Z (b.at a (.inRegion ops (i::rest)::k)) A x:=by
 refine Wq.op λt d=>?_;unfold wpOp;rw[z];simp only[Region.wanted,I,if_true];refine .inl ?_;unfold Oper.wp;rw[E t d];exact h.Df t d
theorem Wq.tZ(op:Op)(dst:Option Tmp)(v:Value)(x':World)(z:(ops[i]?).map (λo=>(o.op,o.dst,o.guard))=.some (op,dst,none))(I:∀t d (o:Oper),o.op=op->(execOp a.eval o).run PQ (on x t d)=.ok (.value v) (on x' t d))(h:Wq D Post Z (b.at (a.put dst v) (.inRegion ops rest::k)) A x'):Wq D Post Z (b.at a (.inRegion ops (i::rest)::k)) A x:=by
 cases E:ops[i]? with
 |none=>rw[E]at z;cases z
 |some o=>
  rw[E]at z;simp only[bQ,aC,dA]at z;obtain⟨J,rfl,h3⟩:=z;exact Wq.val E h3 (λt d=>I t d o J) h
theorem Wq.walk(h:∀t d (Q:Exit->Act->World->Prop),(∀a' w',Wq D Post Z (b.at a' k) A w'->Q .normal a' w')->(∀a' w',(∀todo,Wq D Post Z { b.at a' todo with mode:=.returning } A w')->Q .ret a' w')->c.wp PQ Q a (on x t d)):Wq D Post Z (b.at a (.code c::k)) A x:=
 Wq.code λt d=>h t d _ (λ_ _ h=>h) (λ_ _ h=>h)
theorem Wq.fill{τ:Type}{aa:Nat}(V:τ->Nat->Value)(J:Array Bool->World->(Nat->Prop)->τ->Prop)(hf:fills a.tmps.size ops=true)
  (done:∀l a' x' R z,(∀i,i<ops.size->l.getD i false=true)->Fill ops (V z) a l a'->J l x' R z->Wq R Post Z (b.at a' k) A x')
  (more:∀l a' x' R z i o rest,ops[i]? =.some o->l.getD i true=false->(∀j,Cr.waits ops i j=true->l.getD j false=true)->Fill ops (V z) a l a'->J l x' R z->(∀E I Y,(∀j,l.getD j false=true->V Y j=V z j)->J (l.setIfInBounds i true) E I Y->Wq I Post Z (b.at (a'.put o.dst (V Y i)) (.inRegion ops rest::k)) A E)->Wq R Post Z (b.at a' (.inRegion ops (i::rest)::k)) A x')
  (z:τ) (h:J (Array.replicate ops.size false) x D z):Wq D Post Z (b.at a (.code (.region aa ops true)::k)) A x:=
 Wq.draw λt=>Dc (σ:=World×(Nat->Prop)×τ) (λs=>V s.2.2) (λl s=>J l s.1 s.2.1 s.2.2) (λrest a s=>Wq s.2.1 Post Z (b.at a (.inRegion ops rest::k)) A s.1) hf (λl a _ h1 h2 h3=>Wq.done (done l a _ _ _ h1 h2 h3)) (λl a _ i o rest h1 h2 h3 h4 h5 h6=>more l a _ _ _ i o rest h1 h2 h3 h4 h5 λx D z h7 h8=>h6 (x,D,z) h7 h8) _ t (x,D,z) h
theorem Wq.last{fn:Func}(z:fr.mode=.returning)(hd:fr.defers=[])(hk:fr.kind=.normal)(E:Tryz.prog.funcs[fr.fn]? =.some fn)(R:Tryz.prog.inits.idxOf? fr.fn=none)(J:∀w,(results fn fr.tmps).run Tryz.prog w=.ok v w)(I:∀w,(results fn fr.tmps).events Tryz.prog w #[]=#[])(hp:∀y,WP (qe Tryz.prog.funcs D) x y->Keep (qe Tryz.prog.funcs D) Post y->Post.post v y):Wq D Post [] fr [] x:=by
 refine Wk.last z hd hk E ?_ ?_ ?_ hp<;>rewrite [Yb]<;>assumption
end
end
end Po
namespace Hm
open Go.ChangeMaps (setBlock)
open Go.MapKept (heap_set)
section
variable {q:IntKind}{k j:Nat}{v:Value}
abbrev AL:=List (Nat×Value)
variable {m:AL}
def lM(m:AL)(k:Nat):Option Value:=(m.find? (λp=>p.1 == k)).map Prod.snd
def uU(m:AL)(k:Nat)(v:Value):AL:=if k∈m.map Prod.fst then m.map (λp=>if p.1=k then(k,v)else p)else m++[(k,v)]
def nD(m:AL)(k:Nat):AL:=m.filter (λp=>p.1 != k)
def entryOf(q:IntKind)(e:MapEntry)(p:Nat×Value):Prop:=e.key=.int q p.1/\e.val=p.2
inductive mY(q:IntKind):List MapEntry->AL->Prop
 |nil:mY q [] []
 |cons {e:MapEntry} {p:Nat×Value} {es:List MapEntry} {m:AL}:entryOf q e p->mY q es m->mY q (e::es) (p::m)
def lu(w:World)(B:Nat)(q:IntKind)(m:AL):Prop:=
 ∃es z,w.heap[B]? =some (.map es z)/\mY q es.toList m/\(m.map Prod.fst).Nodup/\(es.toList.map (·.born)).Nodup/\∀e,e∈es.toList->e.born<z
theorem mY.length:∀{es:List MapEntry}{m:AL},mY q es m->es.length=m.length
 |_,_,.nil=>rfl
 |_,_,.cons _ h=>by simp[h.length]
theorem mY.append:∀{es z:List MapEntry}{m E:AL},mY q es m->mY q z E->mY q (es++z) (m++E)
 |_,_,_,_,.nil,h'=>h'
 |_,_,_,_,.cons a h,h'=>.cons a (h.append h')
theorem mY.mem:∀{es:List MapEntry}{m:AL}{e:MapEntry},mY q es m->e∈es->∃p,p∈m/\entryOf q e p
 |_,_,_,.nil,h=>by simp at h
 |_,_,_,.cons a hr,h=>by
  rcases bV.1 h with rfl|h
  ·exact⟨_,by simp,a⟩
  ·obtain⟨p,hp,z⟩:=hr.mem h;exact⟨p,by simp[hp],z⟩
theorem mY.mem':∀{es:List MapEntry}{m:AL}{p:Nat×Value},mY q es m->p∈m->∃e,e∈es/\entryOf q e p
 |_,_,_,.nil,h=>by simp at h
 |_,_,_,.cons a hr,h=>by
  rcases bV.1 h with rfl|h
  ·exact⟨_,by simp,a⟩
  ·obtain⟨p,hp,z⟩:=hr.mem' h;exact⟨p,by simp[hp],z⟩
theorem pG{q:IntKind}(k:Nat):∀{es:List MapEntry}{m:AL}(i:Nat),mY q es m->
  (k∉m.map Prod.fst/\Instr.findNow (.int q) (.int q k) es i=some none/\lM m k=none/\nD m k=m)\/
  ∃j v,Instr.findNow (.int q) (.int q k) es i=some (some (i+j,v))/\m[j]? =some (k,v)/\lM m k=some v
 |_,_,i,.nil=>.inl ⟨by simp,rfl,rfl,rfl⟩
 |_,_,i,.cons (e:=e) (p:=p) (es:=es) (m:=m) a hr=>by
  obtain⟨pk,R⟩:=p;obtain⟨hk,J⟩:=a;simp only at hk J;by_cases z:pk=k
  ·subst z;refine .inr ⟨0,R,?_,by simp,by simp[lM]⟩;simp[Instr.findNow,Instr.sameNow,hk,J]
  ·have E:((k:Int) == (pk:Int))=false:=beq_false_of_ne (by omega);have hs:Instr.sameNow (.int q) (.int q (k:Int)) e.key=some false:=by rw[hk];simp[Instr.sameNow,E]
   rcases pG k (i+1) hr with⟨I,h2,h3,h4⟩|⟨j,v,I,h2,h3⟩
   ·refine .inl ⟨?_,?_,?_,?_⟩
    ·simp only[dW,bV,not_or];exact⟨λe=>z e.symm,I⟩
    ·unfold Instr.findNow;rw[hs];exact h2
    ·unfold lM at h3⊢;rw[iw];simp only[show(pk == k)=false from beq_false_of_ne z];exact h3
    ·unfold nD at h4⊢;rw[dU,if_pos (by simp[z]),h4]
   ·refine .inr ⟨j+1,v,?_,by simpa using h2,?_⟩
    ·unfold Instr.findNow;rw[hs];simp only;rw[I];congr 3;omega
    ·unfold lM at h3⊢;rw[iw];simp only[show(pk == k)=false from beq_false_of_ne z];exact h3
theorem mY.set:∀{es:List MapEntry}{m:AL}(j:Nat)(f:MapEntry->MapEntry),mY q es m->(∀e,entryOf q (f e) (k,v))->mY q (es.modify j f) (m.set j (k,v))
 |_,_,j,f,.nil,hf=>by simpa using mY.nil
 |_,_,0,f,.cons a hr,hf=>by simpa using mY.cons (hf _) hr
 |_,_,j+1,f,.cons a hr,hf=>by simpa using mY.cons a (hr.set j f hf)
theorem Uw{v':Value}(hn:(m.map Prod.fst).Nodup)(hj:m[j]? =some (k,v)):m.set j (k,v')=uU m k v':=by
 have R:k∈m.map Prod.fst:=bC.2 ⟨_,aQ hj,rfl⟩;unfold uU;rw[if_pos R];refine List.ext_getElem? (λi=>?_);rw[iJ,eX];obtain⟨E,Y⟩:=aF.1 hj;by_cases I:j=i
 ·subst I;rw[if_pos rfl,if_pos E,hj];simp
 ·rw[if_neg I];cases hi:m[i]? with
  |none=>rfl
  |some p=>
   have:p.1≠k:=λe=>by
    obtain⟨aa,J⟩:=aF.1 hi;have hp:List.Pairwise (·≠·) (m.map Prod.fst):=hn;rw[ig]at hp;rcases Nat.lt_or_gt_of_ne I with z|z
    ·exact hp j i (by simpa using E) (by simpa using aa) z (by simp[Y,J,e])
    ·exact hp i j (by simpa using aa) (by simpa using E) z (by simp[Y,J,e])
   simp[this]
theorem BD(Y:(m.map Prod.fst).Nodup)(I:m[j]? =some (k,v)):m.eraseIdx j=nD m k:=by
 induction m generalizing j with
 |nil=>simp at I
 |cons p m ih=>
  have z:=iq.1 (by simpa using Y:(p.1::m.map Prod.fst).Nodup);cases j with
  |zero=>
   simp at I;subst I
   have:nD m k=m:=iO.2 (λx R=>by
    simp only[bne_iff_ne,ne_eq];exact λe=>z.1 (bC.2 ⟨x,R,e⟩))
   unfold nD at this⊢;rw[dU,if_neg (by simp),this];rfl
  |succ j=>
   have E:m[j]? =some (k,v):=by simpa using I
   have J:p.1≠k:=λe=>z.1 (bC.2 ⟨_,aQ E,e.symm⟩);have:=ih z.2 E;unfold nD at this⊢;rw[List.eraseIdx_cons_succ,dU,if_pos (by simp[J]),this]
theorem mY.erase:∀{es:List MapEntry}{m:AL}(j:Nat),mY q es m->mY q (es.eraseIdx j) (m.eraseIdx j)
 |_,_,j,.nil=>by simpa using mY.nil
 |_,_,0,.cons a hr=>by simpa using hr
 |_,_,j+1,.cons a hr=>by simpa using mY.cons a (hr.erase j)
theorem Ej(E:(m.map Prod.fst).Nodup):((uU m k v).map Prod.fst).Nodup:=by
 unfold uU;split
 ·rw[jq]
  have:(Prod.fst∘λp:Nat×Value=>if p.1=k then(k,v)else p)=Prod.fst:=by
   funext p;simp only[Function.comp];split
   ·rename_i h;exact h.symm
   ·rfl
  rw[this];exact E
 ·rename_i h;rw[aY];refine List.nodup_append.2 ⟨E,by simp,λa I b z e=>?_⟩;simp at z;subst z;exact h (e ▸ I)
theorem uK(z:(m.map Prod.fst).Nodup):((nD m k).map Prod.fst).Nodup:=by
 unfold nD;exact(List.filter_sublist.map _).nodup z
section
variable {P:Program}{w:World}{B:Nat}{q:IntKind}{m:AL}{t kt e:TypeId}
theorem nJ{z:Bool}{k:Int}(hk:P.underlying kt=some (.int q)):(Instr.checkKey z 10000 kt (.int q k)).run P w=.ok () w:=by
 refine MapKept.run_checkKey hk ?_ z 9999;simp[MapKept.IsKey]
theorem oP{es:List MapEntry}{r:Option (Nat×Value)}(hk:P.underlying kt=some (.int q))(h:Instr.findNow (.int q) (.int q k) es 0=some r):(Instr.findKey kt (.int q k) es).run P w=.ok r w:=by
 simp[Instr.findKey,run_underlying hk,Result.andThen,h]
theorem lu.lookup(h:lu w B q m)(ht:P.underlying t=some (.map kt e))(hk:P.underlying kt=some (.int q)){z:Value}(Y:(zeroValue e).run P w=.ok z w)(k:Nat)(ok:Bool):
  (Instr.lookup t (.map (some B)) (.int q k) ok).run P w=.ok (if ok then .tuple #[(lM m k).getD z,.bool (lM m k).isSome]else(lM m k).getD z) w:=by
 obtain⟨es,E,J,R,_⟩:=h;rcases pG k 0 R with⟨I,h2,h3,_⟩|⟨j,v,I,h2,h3⟩
 ·rw[h3];cases ok<;>simp[Instr.lookup,run_underlying ht,MapKept.run_getObj_map J,nJ hk,oP hk h2,Y,Result.andThen]
 ·rw[h3];cases ok<;>simp[Instr.lookup,run_underlying ht,MapKept.run_getObj_map J,nJ hk,oP hk I,Result.andThen]
theorem pJ{o o':Obj}(E:w.heap[B]? =some o):w.grownBy (setBlock w B o') (some B)/\(setBlock w B o').heap.size=w.heap.size:=
 ⟨⟨rfl,rfl,rfl,by simp[setBlock],λi _ I=>(heap_set E).2 i (λz=>I (by rw[z]))⟩,by simp[setBlock]⟩
theorem lu.update(h:lu w B q m)(ht:P.underlying t=some (.map kt e))(hk:P.underlying kt=some (.int q))(k:Nat)(v:Value):
  ∃w',(Instr.mapUpdate t (.map (some B)) (.int q k) v).run P w=.ok () w'/\lu w' B q (uU m k v)/\w.grownBy w' (some B)/\w'.heap.size=w.heap.size:=by
 obtain⟨es,z,I,he,hn,aa,J⟩:=h;rcases pG k 0 he with⟨h1,h2,h3,_⟩|⟨j,v0,h1,h2,h3⟩
 ·refine⟨setBlock w B (.map (es.push ⟨.int q k,v,z⟩) (z+1)),?_,⟨_,_,(heap_set I).1,?_,Ej hn,?_,?_⟩,pJ I⟩
  ·simp[Instr.mapUpdate,run_underlying ht,MapKept.run_getObj_map I,nJ hk,oP hk h2,MapKept.run_setObj_map _ I,Result.andThen,setBlock]
  ·rw[Array.toList_push];unfold uU;rw[if_neg h1];exact he.append (.cons ⟨rfl,rfl⟩ .nil)
  ·rw[Array.toList_push,aY];refine List.nodup_append.2 ⟨aa,by simp,λa ha b ag e=>?_⟩;simp at ag;obtain⟨x,E,rfl⟩:=bC.1 ha;have:=J x E;omega
  ·intro x E;rw[Array.toList_push]at E;rcases dG.1 E with E|E
   ·have:=J x E;omega
   ·simp at E;subst E;simp
 ·rw[fC]at h1;have ab:j<es.toList.length:=by rw[he.length];exact(aF.1 h2).1
  have ah:j<es.size:=by simpa using ab
  obtain⟨R,Y⟩:∃R,es.toList[j]? =some R:=⟨_,aG ab⟩
  have ac:R.key=.int q k:=by
   have:∀{l:List MapEntry}{mm:AL}(i:Nat),mY q l mm->l[i]? =some R->mm[i]? =some (k,v0)->R.key=.int q k:=by
    intro l mm i hl
    induction hl generalizing i with
    |nil=>intro h;simp at h
    |cons a hr ih=>
     cases i with
     |zero=>intro h h';simp at h h';subst h;subst h';exact a.1
     |succ i=>intro h h';exact ih i (by simpa using h) (by simpa using h')
   exact this j he Y h2
  have af:es[j]? =some R:=by simpa using Y
  refine⟨setBlock w B (.map (es.modify j λe=>{ e with key:=.int q k,val:=v }) z),?_,⟨_,_,(heap_set I).1,?_,Ej hn,?_,?_⟩,pJ I⟩
  ·have ae:(Instr.keyThatStays (.int q (k:Int)) (.int q (k:Int))).run P w=.ok (.int q (k:Int)) w:=by simp[Instr.keyThatStays,Instr.sameBits]
   simp[Instr.mapUpdate,run_underlying ht,MapKept.run_getObj_map I,nJ hk,oP hk h1,MapKept.run_setObj_map _ I,Result.andThen,setBlock,af,ac,ae]
  ·rw[Array.toList_modify,<-Uw hn h2];exact he.set j _ (λ_=>⟨rfl,rfl⟩)
  ·rw[Array.toList_modify]
   have:∀(l:List MapEntry)(i:Nat),(l.modify i λe=>{ e with key:=.int q k,val:=v }).map (·.born)=l.map (·.born):=by
    intro l
    induction l with
    |nil=>intro i;simp
    |cons a l ih=>intro i;cases i with
     |zero=>simp
     |succ i=>simp[ih]
   rw[this];exact aa
  ·intro x E;rw[Array.toList_modify]at E
   have:∀(l:List MapEntry)(i:Nat),x∈(l.modify i λe=>{ e with key:=.int q k,val:=v })->∃y,y∈l/\y.born=x.born:=by
    intro l
    induction l with
    |nil=>intro i h;simp at h
    |cons a l ih=>intro i h;cases i with
     |zero=>
      simp at h;rcases h with rfl|h
      ·exact⟨a,by simp,rfl⟩
      ·exact⟨x,by simp[h],rfl⟩
     |succ i=>
      simp at h;rcases h with rfl|h
      ·exact⟨x,by simp,rfl⟩
      ·obtain⟨y,hy,e⟩:=ih i h;exact⟨y,by simp[hy],e⟩
   obtain⟨y,hy,e⟩:=this _ _ E;rw[<-e];exact J y hy
theorem o8(es:Array MapEntry)(j:Nat)(z:j<es.size):(es.eraseIdxIfInBounds j).toList=es.toList.eraseIdx j:=by
 unfold Array.eraseIdxIfInBounds;rw[dif_pos z];simp
theorem lu.delete(h:lu w B q m)(ht:P.underlying t=some (.map kt e))(hk:P.underlying kt=some (.int q))(k:Nat)(ty:TypeId):
  ∃w',(Builtin.delete_ #[t,kt] ty #[.map (some B),.int q k]).run P w=.ok (.tuple #[]) w'/\lu w' B q (nD m k)/\w.grownBy w' (some B)/\w'.heap.size=w.heap.size:=by
 obtain⟨es,z,E,Y,hn,J,R⟩:=h;rcases pG k 0 Y with⟨h1,h2,h3,h4⟩|⟨j,v0,h1,h2,h3⟩
 ·refine⟨setBlock w B (.map es z),?_,⟨_,_,(heap_set E).1,by rw[h4];exact Y,uK hn,J,R⟩,pJ E⟩;simp[Builtin.delete_,run_underlying ht,MapKept.run_getObj_map E,nJ hk,oP hk h2,MapKept.run_setObj_map _ E,Result.andThen,setBlock]
 ·rw[fC]at h1
  have I:j<es.size:=by
   have:j<es.toList.length:=by rw[Y.length];exact(aF.1 h2).1
   simpa using this
  refine⟨setBlock w B (.map (es.eraseIdxIfInBounds j) z),?_,⟨_,_,(heap_set E).1,?_,uK hn,?_,?_⟩,pJ E⟩
  ·simp[Builtin.delete_,run_underlying ht,MapKept.run_getObj_map E,nJ hk,oP hk h1,MapKept.run_setObj_map _ E,Result.andThen,setBlock]
  ·rw[o8 es j I,<-BD hn h2];exact Y.erase j
  ·rw[o8 es j I];exact((List.eraseIdx_sublist _ _).map _).nodup J
  ·intro x hx;rw[o8 es j I]at hx;exact R x ((List.eraseIdx_sublist _ _).subset hx)
theorem lu.len(h:lu w B q m)(ht:P.underlying t=some (.map kt e))(ty:TypeId):(Builtin.len_ #[t] ty #[.map (some B)]).run P w=.ok (goInt m.length) w:=by
 obtain⟨es,z,I,E,_⟩:=h;have:es.size=m.length:=by rw[<-E.length];simp
 simp[Builtin.len_,run_underlying ht,MapKept.run_getObj_map I,Result.andThen,this]
theorem lu.len_nil(ht:P.underlying t=some (.map kt e))(ty:TypeId):(Builtin.len_ #[t] ty #[.map none]).run P w=.ok (goInt 0) w:=by
 simp[Builtin.len_,run_underlying ht,Result.andThen]
theorem lu.lt(h:lu w B q m):B<w.heap.size:=by
 obtain⟨es,z,E,_⟩:=h;exact(jC E)
theorem lu.of_block{w':World}(h:lu w B q m)(I:w'.heap[B]? =w.heap[B]?):lu w' B q m:=by
 obtain⟨es,z,E,r⟩:=h;exact⟨es,z,I.trans E,r⟩
theorem lu.made(w:World)(q:IntKind):lu (w.alloc (.map #[] 0)) w.heap.size q []:=⟨#[],0,(MapKept.heap_alloc w _).1,.nil,by simp,by simp,by simp⟩
end
end
section
variable {es:List MapEntry}{x y:MapEntry}
def kP(w:World)(B r:Nat)(q:IntKind)(m:AL)(L:Nat->Bool)(cnt:Nat):Prop:=
 ∃es E z seen c0,w.heap[B]? =some (.map es E)/\mY q es.toList m/\(m.map Prod.fst).Nodup/\(es.toList.map (·.born)).Nodup/\(∀e,e∈es.toList->e.born<E)/\
  w.heap[r]? =some (.mapIter (some B) z seen c0)/\(∀e,e∈es.toList->e.born<z)/\z<=c0/\z<=E/\(leftOf es seen).size=cnt/\
  (∀e k,e∈es.toList->e.key=.int q (k:Nat)->L k=!seen.contains e.born)/\∀k,L k=true->k∈m.map Prod.fst
section
variable {P:Program}{w:World}{B r:Nat}{q:IntKind}{m:AL}{L:Nat->Bool}{cnt:Nat}{t kt e:TypeId}
theorem kP.V7(h:kP w B r q m L cnt):lu w B q m:=by
 obtain⟨es,z,E,seen,c0,I,h2,h3,h4,J,_⟩:=h;exact⟨es,z,I,h2,h3,h4,J⟩
theorem kP.lt(h:kP w B r q m L cnt):r<w.heap.size:=by
 obtain⟨es,E,z,seen,c0,J,h2,h3,h4,R,I,_⟩:=h;exact(jC I)
theorem kP.ne(h:kP w B r q m L cnt):r≠B:=by
 obtain⟨es,E,z,seen,c0,J,h2,h3,h4,R,I,_⟩:=h;intro e;rw[e,J]at I;cases I
theorem kP.Ew{w':World}(h:kP w B r q m L cnt)(hb:w'.heap[B]? =w.heap[B]?)(J:w'.heap[r]? =w.heap[r]?):kP w' B r q m L cnt:=by
 obtain⟨es,E,z,seen,c0,R,h2,h3,h4,h5,I,Y⟩:=h;exact⟨es,E,z,seen,c0,hb.trans R,h2,h3,h4,h5,J.trans I,Y⟩
theorem lu.range(h:lu w B q m)(ht:P.underlying t=some (.map kt e)):
  ∃w',(Instr.range t (.map (some B))).run P w=.ok (.pointer (some ⟨w.heap.size,0,none⟩)) w'/\kP w' B w.heap.size q m (λk=>decide (k∈m.map Prod.fst)) m.length/\w.grownBy w' none/\w'.heap.size=w.heap.size+1:=by
 have I:=h.lt;obtain⟨es,z,Y,R,hn,J,E⟩:=h;refine⟨_,run_range_map w t kt e B es z ht Y,⟨es,z,z,#[],z,((MapKept.heap_alloc w _).2 B I).trans Y,R,hn,J,E,(MapKept.heap_alloc w _).1,E,jA,jA,?_,?_,?_⟩,World.grownBy_alloc w _ none,by simp⟩
 ·simp[leftOf,<-R.length]
 ·intro x k hx hk;obtain⟨p,hp,h1,h2⟩:=R.mem hx;rw[hk]at h1;simp only[Value.int.injEq,true_and]at h1;have:k=p.1:=by omega
  subst this;simp only[decide_eq_true (bC.2 ⟨p,hp,rfl⟩)];simp
 ·intro k hk;exact of_decide_eq_true hk
theorem mY.key_inj{m:AL}(h:mY q es m)(hn:(m.map Prod.fst).Nodup)(Y:x∈es)(E:y∈es)(hk:x.key=y.key):x=y:=by
 induction h with
 |nil=>simp at Y
 |cons a hr ih=>
  rename_i e0 p J m0;have I:=iq.1 (by simpa using hn:(p.1::m0.map Prod.fst).Nodup)
  have far:∀z,z∈J->z.key=e0.key->False:=λz hz e=>by
   obtain⟨p',hp',R,_⟩:=hr.mem hz;rw[e,a.1]at R;simp only[Value.int.injEq,true_and]at R;have:p.1=p'.1:=by omega
   exact I.1 (this ▸ bC.2 ⟨p',hp',rfl⟩)
  rcases bV.1 Y with rfl|aa
  ·rcases bV.1 E with rfl|E
   ·rfl
   ·exact(far y E hk.symm).elim
  ·rcases bV.1 E with rfl|E
   ·exact(far x (by assumption) hk).elim
   ·exact ih I.2 (by assumption) E
theorem mY.lM{m:AL}(h:mY q es m)(hn:(m.map Prod.fst).Nodup){p:Nat×Value}(hp:p∈m):Hm.lM m p.1=some p.2:=by
 rcases pG p.1 0 h with⟨h1,_⟩|⟨j,v,_,h2,h3⟩
 ·exact(h1 (bC.2 ⟨p,hp,rfl⟩)).elim
 ·rw[h3];have hm:=aQ h2;obtain⟨i,Y,rfl⟩:=List.getElem_of_mem hp;obtain⟨J,E⟩:=aF.1 h2;have I:List.Pairwise (·≠·) (m.map Prod.fst):=hn;rw[ig]at I;by_cases R:i=j
  ·subst R;rw[E]
  ·rcases Nat.lt_or_gt_of_ne R with z|z
   ·exact(I i j (by simpa using Y) (by simpa using J) z (by simp[E])).elim
   ·exact(I j i (by simpa using J) (by simpa using Y) z (by simp[E])).elim
theorem TW(J:(es.map (·.born)).Nodup)(R:x∈es)(E:y∈es)(h:x.born=y.born):x=y:=by
 induction es with
 |nil=>simp at R
 |cons a l ih=>
  have z:=iq.1 (by simpa using J:(a.born::l.map (·.born)).Nodup);rcases bV.1 R with rfl|I
  ·rcases bV.1 E with rfl|E
   ·rfl
   ·exact(z.1 (h ▸ bC.2 ⟨y,E,rfl⟩)).elim
  ·rcases bV.1 E with rfl|E
   ·exact(z.1 (h ▸ bC.2 ⟨x,I,rfl⟩)).elim
   ·exact ih z.2 I E
theorem kP.next(h:kP w B r q m L cnt)(ty:TypeId):
  (cnt=0/\(∀k,L k=false)/\(Instr.next (.pointer (some ⟨r,0,none⟩)) false ty).run P w=.ok (.tuple #[.bool false]) w)\/
  ∃(k:Nat)(v:Value)(w':World)(ac:Nat),L k=true/\(k,v)∈m/\Hm.lM m k=some v/\(Instr.next (.pointer (some ⟨r,0,none⟩)) false ty).run P w=.ok (.tuple #[.bool true,.int q k,v]) w'/\
   kP w' B r q m (λx=>L x&&x != k) ac/\ac<cnt/\w.grownBy w' (some r)/\w'.heap.size=w.heap.size/\(Instr.entry (.pointer (some ⟨r,0,none⟩))).run P w'=.ok (.tuple #[.int q k,v]) w':=by
 have am:=h.ne;obtain⟨es,z,E,seen,c0,hb,he,hn,ae,ar,hr,hold,aq,ag,rfl,af,ah⟩:=h;rcases run_next_at (P:=P) w ty r B E c0 seen es z hr hb hold aq with⟨h0,I⟩|⟨x,hx,w1,aa,I⟩
 ·refine .inl ⟨h0,λk=>?_,I⟩;cases hk:L k
  ·rfl
  ·obtain⟨p,hp,rfl⟩:=bC.1 (ah k hk);obtain⟨y,hy,an,av⟩:=he.mem' hp;rw[af y p.1 hy an,all_seen es seen h0 y hy]at hk;cases hk
 ·obtain⟨Y,ao⟩:=mem_left hx;obtain⟨p,hp,R,aj⟩:=he.mem Y;have ap:w1.heap[r]? =some (.mapIter (some B) E seen c0):=by rcases aa with rfl|rfl<;>exact hr
  have au:w1.heap[B]? =some (.map es z):=by rcases aa with rfl|rfl<;>exact hb
  have J:=heap_set (o':=.mapIter (some B) E (seen.push x.born) z) ap;have ak:(setBlock w1 r (.mapIter (some B) E (seen.push x.born) z)).heap[B]? =some (.map es z):=(J.2 B (λe1=>am e1.symm)).trans au;rw[R,aj]at I;have ai:=run_entry_at (P:=P) _ r B E seen es z x J.1 ak Y ae;rw[R,aj]at ai
  refine .inr ⟨p.1,p.2,_,_,by rw[af x p.1 Y R,ao];rfl,hp,he.lM hn hp,I,
   ⟨es,z,E,seen.push x.born,z,ak,he,hn,ae,ar,J.1,hold,ag,ag,rfl,λy k hy hk=>?_,λk hk=>ah k (by simp at hk;exact hk.1)⟩,left_shrinks es seen x hx,?_,?_,ai⟩
  ·show(L k&&k != p.1)=_
   rw[af y k hy hk,contains_push]
   have:(k != p.1)=!(y.born == x.born):=by
    by_cases ab:k=p.1
    ·have:y=x:=he.key_inj hn hy Y (by rw[hk,R,ab]);rw[ab,this];simp only[bne_self_eq_false,beq_self_eq_true,Bool.not_true]
    ·have:y.born≠x.born:=λe1=>ab (by
      have:=TW ae hy Y e1;rw[this,R]at hk;have:=(Value.int.inj hk).2;omega)
     rw[beq_false_of_ne this,(bne_iff_ne.2 ab:(k != p.1)=true)];rfl
   rw[this];cases seen.contains y.born<;>cases(y.born == x.born)<;>rfl
  ·rcases aa with rfl|rfl<;>exact⟨rfl,rfl,rfl,by simp[setBlock],λi _ hi=>J.2 i (λe1=>hi (by rw[e1]))⟩
  ·rcases aa with rfl|rfl<;>simp[setBlock]
theorem Ep(a:Array MapEntry)(seen:Array Nat):(leftOf a seen).size=(a.toList.filter λe=>!seen.contains e.born).length:=by
 unfold leftOf;rw[<-Array.toList_filter,ji]
theorem kP.delete(h:kP w B r q m L cnt)(ht:P.underlying t=some (.map kt e))(hk:P.underlying kt=some (.int q))(k:Nat)(ty:TypeId):
  ∃w' ab,(Builtin.delete_ #[t,kt] ty #[.map (some B),.int q k]).run P w=.ok (.tuple #[]) w'/\kP w' B r q (nD m k) (λx=>L x&&x != k) ab/\ab<=cnt/\w.grownBy w' (some B)/\w'.heap.size=w.heap.size:=by
 have ae:=h.ne;obtain⟨es,z,aa,seen,c0,hb,he,hn,af,ak,hr,hold,aj,ac,rfl,ai,ag⟩:=h;rcases pG k 0 he with⟨h1,h2,h3,h4⟩|⟨j,v0,h1,h2,h3⟩
 ·have I:=heap_set (o':=.map es z) hb;refine⟨setBlock w B (.map es z),_,?_,⟨es,z,aa,seen,c0,I.1,by rw[h4];exact he,uK hn,af,ak,(I.2 r ae).trans hr,hold,aj,ac,rfl,λy k' hy E=>?_,λk' E=>?_⟩,jA,pJ hb⟩
  ·simp[Builtin.delete_,run_underlying ht,MapKept.run_getObj_map hb,nJ hk,oP hk h2,MapKept.run_setObj_map _ hb,Result.andThen,setBlock]
  ·show(L k'&&k' != k)=_
   rw[ai y k' hy E]
   have:k'≠k:=λe1=>by
    obtain⟨p,hp,Y,_⟩:=he.mem hy;rw[E]at Y;simp only[Value.int.injEq,true_and]at Y;exact h1 (bC.2 ⟨p,hp,by omega⟩)
   simp[this]
  ·rw[h4];simp at E;exact ag k' E.1
 ·rw[fC]at h1;have an:j<es.toList.length:=by rw[he.length];exact(aF.1 h2).1
  have am:j<es.size:=by simpa using an
  have I:=heap_set (o':=.map (es.eraseIdxIfInBounds j) z) hb;have J:=List.eraseIdx_sublist es.toList j;have R:=o8 es j am;have ah:mY q (es.eraseIdxIfInBounds j).toList (nD m k):=by rw[R,<-BD hn h2];exact he.erase j
  refine⟨setBlock w B (.map (es.eraseIdxIfInBounds j) z),_,?_,⟨es.eraseIdxIfInBounds j,z,aa,seen,c0,I.1,ah,uK hn,?_,?_,(I.2 r ae).trans hr,?_,aj,ac,rfl,λy k' hy E=>?_,λk' E=>?_⟩,?_,pJ hb⟩
  ·simp[Builtin.delete_,run_underlying ht,MapKept.run_getObj_map hb,nJ hk,oP hk h1,MapKept.run_setObj_map _ hb,Result.andThen,setBlock]
  ·rw[R];exact(J.map _).nodup af
  ·intro x hx;rw[R]at hx;exact ak x (J.subset hx)
  ·intro x hx;rw[R]at hx;exact hold x (J.subset hx)
  ·show(L k'&&k' != k)=_
   have ao:=hy;rw[R]at hy;rw[ai y k' (J.subset hy) E]
   have:k'≠k:=λe1=>by
    obtain⟨p,hp,Y,_⟩:=ah.mem ao;rw[E]at Y;simp only[Value.int.injEq,true_and]at Y;have:=(fK.1 hp).2;simp only[bne_iff_ne,ne_eq]at this;omega
   simp[this]
  ·simp only[bY,bne_iff_ne,ne_eq]at E;obtain⟨p,hp,rfl⟩:=bC.1 (ag k' E.1);exact bC.2 ⟨p,fK.2 ⟨hp,by simp[E.2]⟩,rfl⟩
  ·rw[Ep,Ep,R];exact(J.filter _).length_le
end
section
variable {P:Program}(w:World){ops:Array Oper}{rest:List Oper}{o:Oper}{a:Act}{Q:Exit->Act->World->Prop}
theorem uh(hg:o.guard=none)(x y:Operand)(t kt:TypeId)(I:o.op=Op.call { callee:=Callee.builtin Builtin.delete,args:=#[x,y],argTypes:=#[t,kt] })(e:TypeId)(q:IntKind)(ht:P.underlying t=some (.map kt e))(hk:P.underlying kt=some (.int q))
  (B r:Nat) (m:AL) (L:Nat->Bool) (cnt k:Nat) (hx:a.eval x=.map (some B)) (hy:a.eval y=.int q k) (h:kP w B r q m L cnt)
  (hK:∀w' z,kP w' B r q (nD m k) (λx=>L x&&x != k) z->z<=cnt->w.grownBy w' (some B)->w'.heap.size=w.heap.size->wpList P ops Q rest (a.put o.dst (.tuple #[])) w'):wpList P ops Q (o::rest) a w:=by
 refine wpList_plain hg λK' J=>?_;obtain⟨w',z,E,Y,r2,R,r4⟩:=h.delete ht hk k o.type;unfold Oper.wp;simp[execOp,I,resolve,invoke,builtin,hx,hy,E,Result.andThen];exact J _ _ (hK w' z Y r2 R r4)
theorem xw(Y:o.guard=none)(x:Operand)(t:TypeId)(E:o.op=Op.range t x)(kt e:TypeId)(q:IntKind)(ht:P.underlying t=some (.map kt e))(B:Nat)(m:AL)(hx:a.eval x=.map (some B))(h:lu w B q m)
  (hK:∀w',kP w' B w.heap.size q m (λk=>decide (k∈m.map Prod.fst)) m.length->w.grownBy w' none->w'.heap.size=w.heap.size+1->wpList P ops Q rest (a.put o.dst (.pointer (some ⟨w.heap.size,0,none⟩))) w'):wpList P ops Q (o::rest) a w:=by
 refine wpList_plain Y λK' I=>?_;obtain⟨w',z,R,r2,J⟩:=h.range (P:=P) ht;unfold Oper.wp;simp[execOp,E,hx,z,Result.andThen];exact I _ _ (hK w' R r2 J)
theorem vZ(hg:o.guard=none)(it:Operand)(R:o.op=Op.next it false)(B r:Nat)(q:IntKind)(m:AL)(L:Nat->Bool)(cnt:Nat)(Y:a.eval it=.pointer (some ⟨r,0,none⟩))(h:kP w B r q m L cnt)
  (I:cnt=0->(∀k,L k=false)->wpList P ops Q rest (a.put o.dst (.tuple #[.bool false])) w)
  (J:∀(k:Nat)(v:Value)(w':World)(z:Nat),L k=true->(k,v)∈m->lM m k=some v->kP w' B r q m (λx=>L x&&x != k) z->z<cnt->w.grownBy w' (some r)->w'.heap.size=w.heap.size->
   (Instr.entry (.pointer (some ⟨r,0,none⟩))).run P w'=.ok (.tuple #[.int q k,v]) w'->wpList P ops Q rest (a.put o.dst (.tuple #[.bool true,.int q k,v])) w'):wpList P ops Q (o::rest) a w:=by
 refine wpList_plain hg λK' aa=>?_;unfold Oper.wp;rcases h.next (P:=P) o.type with⟨h0,hl,E⟩|⟨k,v,w',z,h1,h2,ab,E,h3,h4,h5,h6,h7⟩
 ·simp[execOp,R,Y,E,Result.andThen];exact aa _ _ (I h0 hl)
 ·simp[execOp,R,Y,E,Result.andThen];exact aa _ _ (J k v w' z h1 h2 ab h3 h4 h5 h6 h7)
end
end
end Hm
end Go.Proofs.YtpibpdpedjinhaaGreatDoor
