import Derived.Test.YtpibpdpedjinhabGreatDoorPA
import Derived.Conc.Beside
import Derived.Conc.Crowd
import Derived.Conc.QuitsD
import Derived.Conc.Starve
import Derived.Conc.RingFork
import Derived.Conc.CompanyDraw
set_option maxRecDepth 100000
set_option linter.all false
open Go renaming Goroutine->cA,Program->cU,Value->X,World->U,stepG->eC
open Go.MemOp renaming ofEvents->eL
namespace Go.Proofs.YtpibpdpedjinhabGreatDoor
namespace Cr
open Go Go.Conc
open Go.ConcN (sumTo upd sumTo_upd upd_ne upd_same)
section
variable {g g':cA}{fn:FuncId}{pos:String}{es:Array Event}{t:Trace}{gs:Array cA}{q:Nat->Nat}{w:U}
section
variable {P:cU}
def Xx{g:Nat}:∀op∈eL g fn pos es,op.g=g:=λop z=>by
 obtain⟨e,_,rfl⟩:=Go.Conc.mem_ofEvents z;rfl
def xW{i:Nat}(hi:i<gs.size)(J:Leavers P t gs q):(∀j x,0<j->i≠j->((gs.map (woken P g g' w)).setIfInBounds i g')[j]? =some x->QuitsD P (q j) (Deaf (t++eL i fn pos es) j) x)/\∀j,((gs.map (woken P g g' w)).setIfInBounds i g').size<=j->Deaf (t++eL i fn pos es) j=0:=by
 constructor
 .intro j x I z R;rw[dZ z,iH,bI]at R;obtain⟨y,Y,rfl⟩:=R;have h:=J.old j y I Y;rwa[woken_quitsD h,Deaf_other t z _ Xx]
 .intro j I;have E:gs.size<=j:=by simpa using I
  rw[Deaf_other t aA _ Xx];exact J.above j E
def Nu(I:0<gs.size)(E:Leavers P t gs q):Leavers P (t++eL 0 fn pos es) ((gs.map (woken P g g' w)).setIfInBounds 0 g') q:=
 have h:=xW (fn:=fn) (pos:=pos) (es:=es) (g:=g) (g':=g') (w:=w) I E
 ⟨λj x z J=>h.1 j x z (iM z) J,h.2⟩
def Jg{i k:Nat}(I:i<gs.size)(Y:Leavers P t gs q)(J:QuitsD P k (deafBehind (Deaf t i) es) g'):Leavers P (t++eL i fn pos es) ((gs.map (woken P g g' w)).setIfInBounds i g') (upd q i k):=by
 have h:=xW (fn:=fn) (pos:=pos) (es:=es) (g:=g) (g':=g') (w:=w) I Y;refine⟨λj x R E=>?_,h.2⟩;by_cases z:i=j
 .subst z;rw[Array.getElem?_setIfInBounds_self_of_lt (by simpa using I)]at E;cases E;rw[upd_same,Deaf_own];exact J
 .rw[upd_ne q k (Ne.symm z)];exact h.1 j x R z E
def all_awake{a:cA}(R:Leavers P t gs q)(I:gs[0]? =some a)(E:a.status=.running):∀g∈gs,awake g:=by
 intro g J;obtain⟨i,z⟩:=Array.mem_iff_getElem?.1 J;cases i with
 |zero=>rw[I]at z;cases z;exact awake_of (.inl E)
 |succ i=>exact awake_of ((R.old _ _ (Nat.succ_pos i) z).status.imp id .inr)
end
end
section
variable {t:Trace}{B:Nat}
def YJ(Dead:Nat->Prop)(l:Loc):Prop:=∃a:Addr,l=.cell a/\Dead a.block
def xM(P:cU)(Post:X->U->Prop)(m:Machine)(t:Trace):Prop:=
 ∃X1 last o w' z,runNT P (X1+1) m t=(.ended o w',z)/\runN P X1 m=.next last/\step P last=.ended o w'/\Good P Post last o w' z
def qK(P:cU)(Post:X->U->Prop)(Dead:Nat->Prop)(B:Nat)(g:cA)(w:U):Prop:=
 ∀(d:Nat)(z:Array cA)(sl:Option (Nat×Nat))(t:Trace)(q:Nat->Nat),z[0]? =some g->Leavers P t z q->Past (YJ Dead) B t->xM P Post (crowd z (w.at d) sl) t
def ou(P:cU)(Post:X->U->Prop)(Dead:Nat->Prop)(g:cA)(w:U):Prop:=qK P Post Dead ↑w g w
section
variable {P:cU}{Post:X->U->Prop}{Dead:Nat->Prop}{g:cA}{w:U}
def xM.after{m I:Machine}{E:Trace}{X1:Nat}(h:runNT P X1 m t=(.next I,E))(R:xM P Post I E):xM P Post m t:=by
 obtain⟨K,last,o,w',z,J,e2,Y,e4⟩:=R;refine⟨X1+K,last,o,w',z,?_,?_,Y,e4⟩
 .rw[dV,runNT_add,h];exact J
 .rw[runN_add,<-runNT_fst P _ _ t,h];exact e2
def y8{Shun z:Loc->Prop}(h:Past Shun B t)(hs:∀l,Shun l->z l):Past z B t:=
 ⟨h.clean,λi a I E=>(h.known i a I E).imp id λx=>⟨hs _ x.1,x.2⟩,h.over,h.hears,h.seen⟩
def ou.at(h:ou P Post Dead g w)(d:Nat):ou P Post Dead g (w.at d):=λE I sl t q J R z=>h E I sl t q J R z
def qK.at(h:qK P Post Dead B g w)(d:Nat):qK P Post Dead B g (w.at d):=λE I sl t q J R z=>h E I sl t q J R z
def qK.step(J:g.status=.running)(h:∀d,∃g' w' es B',eC P true g (w.at d)=.go g' w' es/\B<=B'/\(∀e∈es,EvL (YJ Dead) B' e)/\qK P Post Dead B' g' w'):qK P Post Dead B g w:=by
 intro d gs sl t q h0 hL hP;generalize hM:sumTo gs.size q=XS
 induction XS using Nat.strongRecOn generalizing d gs sl t q with
 |ind XS ih=>
  have ag:=all_awake hL h0 J;obtain⟨i,E,d',R,hi,hg,Y⟩:=crowd_pick (P:=P) (w:=w.at d) (sl:=sl) ag ⟨0,g,h0,J⟩;rw[show(w.at d).at d'=w.at d' from rfl]at Y;obtain rfl|ae:=gQ i
  .obtain rfl:E=g:=by grind
   obtain⟨g',w',es,B',e,hs,aj,hD⟩:=h d';have z:=runT_crowd_go (P:=P) (sl:=R) (i:=0) hi (show eC P _ E _=_ from e);have I:=(jE h0)
   refine xM.after (X1:=1) (by simp only[runNT,Y,z];rfl) ?_;exact hD _ _ R _ q (by simp[I]) (Nu I hL) ((hP.mono hs).own aj)
  .have hq:=hL.old i E ae hi;have ak:(i == 0)=false:=by simp;omega
   have I:=(jE hi)
   cases aa:q i with
   |zero=>rw[aa]at hq;rw[hq.1]at hg;cases hg
   |succ k=>
    rw[aa]at hq;obtain⟨hf,_⟩|⟨_,g',es,hm,ac,ai⟩:=hq
    .rw[hf]at hg;cases hg
    have z:=runT_crowd_go (P:=P) (sl:=R) (i:=i) hi (by rw[ak];exact ac (w.at d'));have ah:((gs.map (woken P E g' (w.at d'))).setIfInBounds i g').size=gs.size:=aC
    have am:sumTo gs.size (upd q i k)+(k+1)=sumTo gs.size q+k:=by
     have:=sumTo_upd q k id I;simpa[aa]using this
    refine xM.after (X1:=1) (by simp only[runNT,Y,z];rfl) ?_;refine ih (sumTo gs.size (upd q i k)) aA d' _ R _ _ ?_ (Jg I hL ai) (hP.mute aA hm) (by rw[ah]);have af:i≠0:=aA
    rw[dZ af,iH,h0];simp[woken_run J]
def ou.step(z:g.status=.running)(h:∀d,∃g' w' es,eC P true g (w.at d)=.go g' w' es/\↑w<=w'.heap.size/\(∀e∈es,EvL (YJ Dead) ↑w' e)/\ou P Post Dead g' w'):ou P Post Dead g w:=
 qK.step z λd=>let ⟨g',w',es,h1,h2,h3,h4⟩:=h d;⟨g',w',es,_,h1,h2,h3,h4⟩
def ou.done(h:∀d,AtEnd P (YJ Dead) ↑w Post g (w.at d)):ou P Post Dead g w:=λd _ _ _ _ J R E=>
 beside_ends (D:=λ_ _ _=>False) (n:=0) (λ_ _ _ x=>x.elim) J R E λz ⟨I,e⟩=>by rw[e];exact h I
section
variable {b:Frame}{a:Act}{k:List Item}{cs:List Frame}{ops:Array Oper}{i:Nat}{rest:List Nat}{o:Oper}
def ou.op(ho:ops[i]? =some o)(hw:Region.wanted o (yielded ops a.tmps)=true)(hk:b.kind≠.early)(h:∀d,∃v w',(execOp a.eval o).run P (w.at d)=.ok (.value v) w'/\↑w<=w'.heap.size/\(∀e∈listed P b.fn a o (w.at d),EvL (YJ Dead) ↑w' e)/\ou P Post Dead (G (b.at (a.put o.dst v) (.inRegion ops rest::k)) cs) w'):ou P Post Dead (G (b.at a (.inRegion ops (i::rest)::k)) cs) w:=
 .step rfl λd=>let ⟨_,w',hr,hs,he,hD⟩:=h d;⟨_,w',_,stepG_value ho hw hk hr,hs,he,hD⟩
def ou.opn(ho:ops[i]? =some o)(hw:Region.wanted o (yielded ops a.tmps)=true)(hk:b.kind≠.early)(h:∀d,∃w',(execOp a.eval o).run P (w.at d)=.ok .skip w'/\↑w<=w'.heap.size/\(∀e∈listed P b.fn a o (w.at d),EvL (YJ Dead) ↑w' e)/\ou P Post Dead (G (b.at (a.put o.dst undef) (.inRegion ops rest::k)) cs) w'):ou P Post Dead (G (b.at a (.inRegion ops (i::rest)::k)) cs) w:=
 .step rfl λd=>let ⟨w',hr,hs,he,hD⟩:=h d;⟨_,w',_,stepG_none ho hw hk hr,hs,he,hD⟩
end
end
end
section
section
variable {P:cU}{Post Post':X->U->Prop}{Dead:Nat->Prop}{g:cA}{w:U}
def PD(h:ou P Post (λ_=>False) g w):xM P Post (solo g w) #[]:=by rw[solo_eq_crowd];exact h _ _ none _ _ rfl (leavers_one _ _) (y8 (past_nil.mono (dL _)) λ_ x=>x.elim)
def ou.dead{z:Nat->Prop}(h:ou P Post z g w)(hd:∀b,Dead b->z b):ou P Post Dead g w:=
 λd I sl t q J R E=>h d I sl t q J R (y8 E λ_ ⟨a,e,x⟩=>⟨a,e,hd _ x⟩)
def ou.ret{fr:Frame}{v:X}{fn:Func}(E:fr.mode=.returning)(hd:fr.defers=[])(hk:fr.kind=.normal)(I:P.funcs[fr.fn]? =some fn)(Y:P.inits.idxOf? fr.fn=none)(J:∀d,(results fn fr.tmps).run P (w.at d)=.ok v (w.at d))(z:∀d,(results fn fr.tmps).events P (w.at d) #[]=#[])(hp:∀d,Post v (w.at d)):ou P Post Dead (G fr []) w:=by
 refine ou.done λd=>⟨rfl,v,#[],?_,λe z=>by simp at z,hp d⟩
 have R:=J d;have h2:=z d;simp[G,eC,unwind,doReturn,E,hd,hk,I,Y,R,h2,GStep.after,seen]
end
end
end Cr
