import Derived.Test.YtpibpdpedjinhaaGreatDoorPA
import Derived.Conc.Beside
import Derived.Conc.Crowd
import Derived.Conc.QuitsD
import Derived.Conc.Starve
import Derived.Conc.RingFork
import Derived.Conc.CompanyDraw
set_option maxRecDepth 100000
namespace Go.Proofs.YtpibpdpedjinhaaGreatDoor
namespace Cr
open Go Go.Conc
open Go.ConcN (sumTo upd sumTo_upd upd_ne upd_same)
section
variable {g g':Goroutine}{fn:FuncId}{pos:String}{es:Array Event}{t:Trace}{gs:Array Goroutine}{q:Nat->Nat}{w:World}
section
variable {P:Program}
theorem Ua{g:Nat}:∀op∈MemOp.ofEvents g fn pos es,op.g=g:=λop z=>by
 obtain⟨e,_,rfl⟩:=Go.Conc.mem_ofEvents z;rfl
theorem xB{i:Nat}(hi:i<gs.size)(J:Leavers P t gs q):
  (∀j x,0<j->i≠j->((gs.map (woken P g g' w)).setIfInBounds i g')[j]? =some x->QuitsD P (q j) (Deaf (t++MemOp.ofEvents i fn pos es) j) x)/\
  ∀j,((gs.map (woken P g g' w)).setIfInBounds i g').size<=j->Deaf (t++MemOp.ofEvents i fn pos es) j=0:=by
 constructor
 ·intro j x I z R;rw[dS z,iD,aX]at R;obtain⟨y,Y,rfl⟩:=R;have h:=J.old j y I Y;rwa[woken_quitsD h,Deaf_other t z _ Ua]
 ·intro j I;have E:gs.size<=j:=by simpa using I
  rw[Deaf_other t (by omega) _ Ua];exact J.above j E
theorem Kt(I:0<gs.size)(E:Leavers P t gs q):
  Leavers P (t++MemOp.ofEvents 0 fn pos es) ((gs.map (woken P g g' w)).setIfInBounds 0 g') q:=
 have h:=xB (fn:=fn) (pos:=pos) (es:=es) (g:=g) (g':=g') (w:=w) I E
 ⟨λj x z J=>h.1 j x z (iI z) J,h.2⟩
theorem GV{i k:Nat}(I:i<gs.size)(Y:Leavers P t gs q)(J:QuitsD P k (deafBehind (Deaf t i) es) g'):
  Leavers P (t++MemOp.ofEvents i fn pos es) ((gs.map (woken P g g' w)).setIfInBounds i g') (upd q i k):=by
 have h:=xB (fn:=fn) (pos:=pos) (es:=es) (g:=g) (g':=g') (w:=w) I Y;refine⟨λj x R E=>?_,h.2⟩;by_cases z:i=j
 ·subst z;rw[Array.getElem?_setIfInBounds_self_of_lt (by simpa using I)]at E;cases E;rw[upd_same,Deaf_own];exact J
 ·rw[upd_ne q k (Ne.symm z)];exact h.1 j x R z E
theorem all_awake{a:Goroutine}(R:Leavers P t gs q)(I:gs[0]? =some a)(E:a.status=.running):∀g∈gs,awake g:=by
 intro g J;obtain⟨i,z⟩:=Array.mem_iff_getElem?.1 J;cases i with
 |zero=>rw[I]at z;cases z;exact awake_of (.inl E)
 |succ i=>exact awake_of ((R.old _ _ (Nat.succ_pos i) z).status.imp id .inr)
end
end
section
variable {t:Trace}{B:Nat}
def Vg(Dead:Nat->Prop)(l:Loc):Prop:=∃a:Addr,l=.cell a/\Dead a.block
def wZ(P:Program)(Post:Value->World->Prop)(m:Machine)(t:Trace):Prop:=
 ∃N last o w' z,runNT P (N+1) m t=(.ended o w',z)/\runN P N m=.next last/\step P last=.ended o w'/\Good P Post last o w' z
def qj(P:Program)(Post:Value->World->Prop)(Dead:Nat->Prop)(B:Nat)(g:Goroutine)(w:World):Prop:=
 ∀(d:Nat)(z:Array Goroutine)(sl:Option (Nat×Nat))(t:Trace)(q:Nat->Nat),z[0]? =some g->Leavers P t z q->Past (Vg Dead) B t->wZ P Post (crowd z (w.at d) sl) t
def nN(P:Program)(Post:Value->World->Prop)(Dead:Nat->Prop)(g:Goroutine)(w:World):Prop:=qj P Post Dead w.heap.size g w
section
variable {P:Program}{Post:Value->World->Prop}{Dead:Nat->Prop}{g:Goroutine}{w:World}
theorem wZ.after{m I:Machine}{E:Trace}{N:Nat}(h:runNT P N m t=(.next I,E))(R:wZ P Post I E):wZ P Post m t:=by
 obtain⟨K,last,o,w',z,J,e2,Y,e4⟩:=R;refine⟨N+K,last,o,w',z,?_,?_,Y,e4⟩
 ·rw[dO,runNT_add,h];exact J
 ·rw[runN_add,<-runNT_fst P _ _ t,h];exact e2
theorem yR{Shun z:Loc->Prop}(h:Past Shun B t)(hs:∀l,Shun l->z l):Past z B t:=
 ⟨h.clean,λi a I E=>(h.known i a I E).imp id λx=>⟨hs _ x.1,x.2⟩,h.over,h.hears,h.seen⟩
theorem nN.at(h:nN P Post Dead g w)(d:Nat):nN P Post Dead g (w.at d):=λE I sl t q J R z=>h E I sl t q J R z
theorem qj.at(h:qj P Post Dead B g w)(d:Nat):qj P Post Dead B g (w.at d):=λE I sl t q J R z=>h E I sl t q J R z
theorem qj.step(J:g.status=.running)(h:∀d,∃g' w' es B',stepG P true g (w.at d)=.go g' w' es/\B<=B'/\(∀e∈es,EvL (Vg Dead) B' e)/\qj P Post Dead B' g' w'):qj P Post Dead B g w:=by
 intro d R sl t q h0 hL hP;generalize hM:sumTo R.size q=M
 induction M using Nat.strongRecOn generalizing d R sl t q with
 |ind M ih=>
  have ag:=all_awake hL h0 J;obtain⟨i,E,d',Y,hi,hg,aa⟩:=crowd_pick (P:=P) (w:=w.at d) (sl:=sl) ag ⟨0,g,h0,J⟩;rw[show(w.at d).at d'=w.at d' from rfl]at aa;rcases gB i with rfl|ae
  ·obtain rfl:E=g:=by rw[h0]at hi;exact(eP hi).symm
   obtain⟨g',w',es,B',e,hs,aj,hD⟩:=h d';have z:=runT_crowd_go (P:=P) (sl:=Y) (i:=0) hi (show stepG P (0 == 0) E (w.at d')=_ from e);have I:0<R.size:=(jC h0)
   refine wZ.after (N:=1) (by simp only[runNT,aa,z];rfl) ?_;exact hD w'.drawn _ Y _ q (by simp[I]) (Kt I hL) ((hP.mono hs).own aj)
  ·have hq:=hL.old i E ae hi;have ak:(i == 0)=false:=by simp;omega
   have I:i<R.size:=(jC hi)
   cases ab:q i with
   |zero=>rw[ab]at hq;rw[hq.1]at hg;cases hg
   |succ k=>
    rw[ab]at hq;rcases hq with⟨hf,_⟩|⟨_,g',es,hm,ac,ai⟩
    ·rw[hf]at hg;cases hg
    have z:=runT_crowd_go (P:=P) (sl:=Y) (i:=i) hi (by rw[ak];exact ac (w.at d'));have ah:((R.map (woken P E g' (w.at d'))).setIfInBounds i g').size=R.size:=by simp
    have am:sumTo R.size (upd q i k)+(k+1)=sumTo R.size q+k:=by
     have:=sumTo_upd q k id I;simpa[ab]using this
    refine wZ.after (N:=1) (by simp only[runNT,aa,z];rfl) ?_;refine ih (sumTo R.size (upd q i k)) (by omega) d' _ Y _ (upd q i k) ?_ (GV I hL ai) (hP.mute (by omega) hm) (by rw[ah]);have af:i≠0:=by omega
    rw[dS af,iD,h0];simp[woken_run J]
theorem nN.step(z:g.status=.running)(h:∀d,∃g' w' es,stepG P true g (w.at d)=.go g' w' es/\w.heap.size<=w'.heap.size/\(∀e∈es,EvL (Vg Dead) w'.heap.size e)/\nN P Post Dead g' w'):nN P Post Dead g w:=
 qj.step z λd=>let ⟨g',w',es,h1,h2,h3,h4⟩:=h d;⟨g',w',es,_,h1,h2,h3,h4⟩
theorem nN.done(h:∀d,AtEnd P (Vg Dead) w.heap.size Post g (w.at d)):nN P Post Dead g w:=λd _ _ _ _ J R E=>
 beside_ends (D:=λ_ _ _=>False) (n:=0) (λ_ _ _ x=>x.elim) J R E λz ⟨I,e⟩=>by rw[e];exact h I
section
variable {b:Frame}{a:Act}{k:List Item}{cs:List Frame}{ops:Array Oper}{i:Nat}{rest:List Nat}{o:Oper}
theorem nN.op(z:ops[i]? =some o)(hw:Region.wanted o (yielded ops a.tmps)=true)(hk:b.kind≠.early)
  (h:∀d,∃v w',(execOp a.eval o).run P (w.at d)=.ok (.value v) w'/\w.heap.size<=w'.heap.size/\(∀e∈listed P b.fn a o (w.at d),EvL (Vg Dead) w'.heap.size e)/\nN P Post Dead (G (b.at (a.put o.dst v) (.inRegion ops rest::k)) cs) w'):
  nN P Post Dead (G (b.at a (.inRegion ops (i::rest)::k)) cs) w:=
 .step rfl λd=>let ⟨_,w',hr,hs,he,hD⟩:=h d;⟨_,w',_,stepG_value z hw hk hr,hs,he,hD⟩
theorem nN.opn(z:ops[i]? =some o)(hw:Region.wanted o (yielded ops a.tmps)=true)(hk:b.kind≠.early)
  (h:∀d,∃w',(execOp a.eval o).run P (w.at d)=.ok .skip w'/\w.heap.size<=w'.heap.size/\(∀e∈listed P b.fn a o (w.at d),EvL (Vg Dead) w'.heap.size e)/\nN P Post Dead (G (b.at (a.put o.dst undef) (.inRegion ops rest::k)) cs) w'):
  nN P Post Dead (G (b.at a (.inRegion ops (i::rest)::k)) cs) w:=
 .step rfl λd=>let ⟨w',hr,hs,he,hD⟩:=h d;⟨_,w',_,stepG_none z hw hk hr,hs,he,hD⟩
end
end
end
section
section
variable {P:Program}{Post Post':Value->World->Prop}{Dead:Nat->Prop}{g:Goroutine}{w:World}
theorem MN(h:nN P Post (λ_=>False) g w):wZ P Post (solo g w) #[]:=by
 rw[solo_eq_crowd];exact h w.drawn #[g] none #[] (λ_=>0) rfl (leavers_one _ _) (yR (past_nil.mono (dF _)) λ_ x=>x.elim)
theorem nN.dead{z:Nat->Prop}(h:nN P Post z g w)(hd:∀b,Dead b->z b):nN P Post Dead g w:=
 λd I sl t q J R E=>h d I sl t q J R (yR E λ_ ⟨a,e,x⟩=>⟨a,e,hd _ x⟩)
theorem nN.ret{fr:Frame}{v:Value}{fn:Func}(E:fr.mode=.returning)(hd:fr.defers=[])(hk:fr.kind=.normal)(I:P.funcs[fr.fn]? =some fn)(Y:P.inits.idxOf? fr.fn=none)(J:∀d,(results fn fr.tmps).run P (w.at d)=.ok v (w.at d))(z:∀d,(results fn fr.tmps).events P (w.at d) #[]=#[])
  (hp:∀d,Post v (w.at d)):nN P Post Dead (G fr []) w:=by
 refine nN.done λd=>⟨rfl,v,#[],?_,λe z=>by simp at z,hp d⟩
 have R:=J d;have h2:=z d;simp[G,stepG,unwind,doReturn,E,hd,hk,I,Y,R,h2,GStep.after,seen]
end
end
end Cr
end Go.Proofs.YtpibpdpedjinhaaGreatDoor
