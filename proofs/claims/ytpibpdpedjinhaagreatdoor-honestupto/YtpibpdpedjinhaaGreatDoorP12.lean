import Derived.Test.YtpibpdpedjinhaaGreatDoorPA
import Derived.Conc.Beside
import Derived.Conc.Crowd
import Derived.Conc.QuitsD
import Derived.Conc.Starve
import Derived.Conc.RingFork
import Derived.Conc.CompanyDraw
set_option maxRecDepth 100000
set_option linter.all false
open Go renaming Goroutine->bO,Program->cY,Value->aD,World->U,stepG->eB
open Go.MemOp renaming ofEvents->eD
namespace Go.Proofs.YtpibpdpedjinhaaGreatDoor
namespace Cr
open Go Go.Conc
open Go.ConcN (sumTo upd sumTo_upd upd_ne upd_same)
section
variable {g g':bO}{fn:FuncId}{pos:String}{es:Array Event}{t:Trace}{gs:Array bO}{q:Nat->Nat}{w:U}
section
variable {P:cY}
theorem XZ{g:Nat}:∀op∈eD g fn pos es,op.g=g:=λop E=>by
 obtain⟨e,_,rfl⟩:=Go.Conc.mem_ofEvents E;rfl
theorem yV{i:Nat}(hi:i<gs.size)(Y:Leavers P t gs q):(∀j x,0<j->i≠j->((gs.map (woken P g g' w)).setIfInBounds i g')[j]? =some x->QuitsD P (q j) (Deaf (t++eD i fn pos es) j) x)/\∀j,((gs.map (woken P g g' w)).setIfInBounds i g').size<=j->Deaf (t++eD i fn pos es) j=0:=by
 constructor
 .intro j x J E hx;rw[dZ E,iK,bI]at hx;obtain⟨y,hy,rfl⟩:=hx;have h:=Y.old j y J hy;rwa[woken_quitsD h,Deaf_other t E _ XZ]
 .intro j J;have I:gs.size<=j:=by simpa using J
  rw[Deaf_other t aA _ XZ];exact Y.above j I
theorem Ov(J:0<gs.size)(I:Leavers P t gs q):Leavers P (t++eD 0 fn pos es) ((gs.map (woken P g g' w)).setIfInBounds 0 g') q:=
 have h:=yV (fn:=fn) (pos:=pos) (es:=es) (g:=g) (g':=g') (w:=w) J I
 ⟨λj x E Y=>h.1 j x E (iQ E) Y,h.2⟩
theorem J8{i k:Nat}(J:i<gs.size)(hL:Leavers P t gs q)(Y:QuitsD P k (deafBehind (Deaf t i) es) g'):Leavers P (t++eD i fn pos es) ((gs.map (woken P g g' w)).setIfInBounds i g') (upd q i k):=by
 have h:=yV (fn:=fn) (pos:=pos) (es:=es) (g:=g) (g':=g') (w:=w) J hL;refine⟨λj x hj I=>?_,h.2⟩;by_cases E:i=j
 .subst E;rw[Array.getElem?_setIfInBounds_self_of_lt (by simpa using J)]at I;cases I;rw[upd_same,Deaf_own];exact Y
 .rw[upd_ne q k (Ne.symm E)];exact h.1 j x hj E I
theorem all_awake{a:bO}(hL:Leavers P t gs q)(J:gs[0]? =some a)(I:a.status=.running):∀g∈gs,awake g:=by
 intro g Y;obtain⟨i,E⟩:=Array.mem_iff_getElem?.1 Y;cases i with
 |zero=>rw[J]at E;cases E;exact awake_of (.inl I)
 |succ i=>exact awake_of ((hL.old _ _ (Nat.succ_pos i) E).status.imp id .inr)
end
end
section
variable {t:Trace}{B:Nat}
def Zq(Dead:Nat->Prop)(l:Loc):Prop:=∃a:Addr,l=.cell a/\Dead a.block
def yP(P:cY)(Post:aD->U->Prop)(m:Machine)(t:Trace):Prop:=
 ∃X1 last o w' q,runNT P (X1+1) m t=(.ended o w',q)/\runN P X1 m=.next last/\step P last=.ended o w'/\Good P Post last o w' q
def ru(P:cY)(Post:aD->U->Prop)(Dead:Nat->Prop)(B:Nat)(g:bO)(w:U):Prop:=
 ∀(d:Nat)(E:Array bO)(sl:Option (Nat×Nat))(t:Trace)(q:Nat->Nat),E[0]? =some g->Leavers P t E q->Past (Zq Dead) B t->yP P Post (crowd E (w.at d) sl) t
def oD(P:cY)(Post:aD->U->Prop)(Dead:Nat->Prop)(g:bO)(w:U):Prop:=ru P Post Dead w.heap.size g w
section
variable {P:cY}{Post:aD->U->Prop}{Dead:Nat->Prop}{g:bO}{w:U}
theorem yP.after{m I:Machine}{E:Trace}{X1:Nat}(h:runNT P X1 m t=(.next I,E))(Y:yP P Post I E):yP P Post m t:=by
 obtain⟨K,last,o,w',q,J,e2,e3,e4⟩:=Y;refine⟨X1+K,last,o,w',q,?_,?_,e3,e4⟩
 .rw[dV,runNT_add,h];exact J
 .rw[runN_add,<-runNT_fst P _ _ t,h];exact e2
theorem Ak{Shun q:Loc->Prop}(h:Past Shun B t)(hs:∀l,Shun l->q l):Past q B t:=
 ⟨h.clean,λi a I E=>(h.known i a I E).imp id λx=>⟨hs _ x.1,x.2⟩,h.over,h.hears,h.seen⟩
theorem oD.at(h:oD P Post Dead g w)(d:Nat):oD P Post Dead g (w.at d):=λI J sl t q Y hL E=>h I J sl t q Y hL E
theorem ru.at(h:ru P Post Dead B g w)(d:Nat):ru P Post Dead B g (w.at d):=λI J sl t q Y hL E=>h I J sl t q Y hL E
theorem ru.step(Y:g.status=.running)(h:∀d,∃g' w' es B',eB P true g (w.at d)=.go g' w' es/\B<=B'/\(∀e∈es,EvL (Zq Dead) B' e)/\ru P Post Dead B' g' w'):ru P Post Dead B g w:=by
 intro d gs sl t q h0 hL hP;generalize hM:sumTo gs.size q=XS
 induction XS using Nat.strongRecOn generalizing d gs sl t q with
 |ind XS ih=>
  have ah:=all_awake hL h0 Y;obtain⟨i,I,d',aa,hi,hg,ab⟩:=crowd_pick (P:=P) (w:=w.at d) (sl:=sl) ah ⟨0,g,h0,Y⟩;rw[show(w.at d).at d'=w.at d' from rfl]at ab;obtain rfl|af:=gQ i
  .obtain rfl:I=g:=by grind
   obtain⟨g',w',es,B',e,hs,ak,hD⟩:=h d';have E:=runT_crowd_go (P:=P) (sl:=aa) (i:=0) hi (show eB P _ I _=_ from e);have J:=(jG h0)
   refine yP.after (X1:=1) (by simp only[runNT,ab,E];rfl) ?_;exact hD _ _ aa _ q (by simp[J]) (Ov J hL) ((hP.mono hs).own ak)
  .have hq:=hL.old i I af hi;have am:(i == 0)=false:=by simp;omega
   have J:=(jG hi)
   cases ac:q i with
   |zero=>rw[ac]at hq;rw[hq.1]at hg;cases hg
   |succ k=>
    rw[ac]at hq;obtain⟨hf,_⟩|⟨_,g',es,hm,ae,aj⟩:=hq
    .rw[hf]at hg;cases hg
    have E:=runT_crowd_go (P:=P) (sl:=aa) (i:=i) hi (by rw[am];exact ae (w.at d'));have ai:((gs.map (woken P I g' (w.at d'))).setIfInBounds i g').size=gs.size:=aC
    have an:sumTo gs.size (upd q i k)+(k+1)=sumTo gs.size q+k:=by
     have:=sumTo_upd q k id J;simpa[ac]using this
    refine yP.after (X1:=1) (by simp only[runNT,ab,E];rfl) ?_;refine ih (sumTo gs.size (upd q i k)) aA d' _ aa _ _ ?_ (J8 J hL aj) (hP.mute aA hm) (by rw[ai]);have ag:i≠0:=aA
    rw[dZ ag,iK,h0];simp[woken_run Y]
theorem oD.step(q:g.status=.running)(h:∀d,∃g' w' es,eB P true g (w.at d)=.go g' w' es/\w.heap.size<=w'.heap.size/\(∀e∈es,EvL (Zq Dead) w'.heap.size e)/\oD P Post Dead g' w'):oD P Post Dead g w:=
 ru.step q λd=>let ⟨g',w',es,h1,h2,h3,h4⟩:=h d;⟨g',w',es,_,h1,h2,h3,h4⟩
theorem oD.done(h:∀d,AtEnd P (Zq Dead) w.heap.size Post g (w.at d)):oD P Post Dead g w:=λd _ _ _ _ J Y E=>
 beside_ends (D:=λ_ _ _=>False) (n:=0) (λ_ _ _ x=>x.elim) J Y E λq ⟨I,e⟩=>by rw[e];exact h I
section
variable {b:Frame}{a:Act}{k:List Item}{cs:List Frame}{ops:Array Oper}{i:Nat}{rest:List Nat}{o:Oper}
theorem oD.op(ho:ops[i]? =some o)(hw:Region.wanted o (yielded ops a.tmps)=true)(hk:b.kind≠.early)(h:∀d,∃v w',(execOp a.eval o).run P (w.at d)=.ok (.value v) w'/\w.heap.size<=w'.heap.size/\(∀e∈listed P b.fn a o (w.at d),EvL (Zq Dead) w'.heap.size e)/\oD P Post Dead (G (b.at (a.put o.dst v) (.inRegion ops rest::k)) cs) w'):oD P Post Dead (G (b.at a (.inRegion ops (i::rest)::k)) cs) w:=
 .step rfl λd=>let ⟨_,w',hr,hs,he,hD⟩:=h d;⟨_,w',_,stepG_value ho hw hk hr,hs,he,hD⟩
theorem oD.opn(ho:ops[i]? =some o)(hw:Region.wanted o (yielded ops a.tmps)=true)(hk:b.kind≠.early)(h:∀d,∃w',(execOp a.eval o).run P (w.at d)=.ok .skip w'/\w.heap.size<=w'.heap.size/\(∀e∈listed P b.fn a o (w.at d),EvL (Zq Dead) w'.heap.size e)/\oD P Post Dead (G (b.at (a.put o.dst undef) (.inRegion ops rest::k)) cs) w'):oD P Post Dead (G (b.at a (.inRegion ops (i::rest)::k)) cs) w:=
 .step rfl λd=>let ⟨w',hr,hs,he,hD⟩:=h d;⟨_,w',_,stepG_none ho hw hk hr,hs,he,hD⟩
end
end
end
section
section
variable {P:cY}{Post Post':aD->U->Prop}{Dead:Nat->Prop}{g:bO}{w:U}
theorem Qq(h:oD P Post (λ_=>False) g w):yP P Post (solo g w) #[]:=by rw[solo_eq_crowd];exact h _ _ none _ _ rfl (leavers_one _ _) (Ak (past_nil.mono (dL _)) λ_ x=>x.elim)
theorem oD.dead{E:Nat->Prop}(h:oD P Post E g w)(hd:∀b,Dead b->E b):oD P Post Dead g w:=
 λd J sl t q Y hL I=>h d J sl t q Y hL (Ak I λ_ ⟨a,e,x⟩=>⟨a,e,hd _ x⟩)
theorem oD.ret{fr:Frame}{v:aD}{fn:Func}(E:fr.mode=.returning)(hd:fr.defers=[])(hk:fr.kind=.normal)(I:P.funcs[fr.fn]? =some fn)(hi:P.inits.idxOf? fr.fn=none)(J:∀d,(results fn fr.tmps).run P (w.at d)=.ok v (w.at d))(q:∀d,(results fn fr.tmps).events P (w.at d) #[]=#[])(hp:∀d,Post v (w.at d)):oD P Post Dead (G fr []) w:=by
 refine oD.done λd=>⟨rfl,v,#[],?_,λe q=>by simp at q,hp d⟩
 have Y:=J d;have h2:=q d;simp[G,eB,unwind,doReturn,E,hd,hk,I,hi,Y,h2,GStep.after,seen]
end
end
end Cr
