import Derived.Test.YtpibpdpedjinhaaGreatDoorPA
import Derived.Conc.Beside
import Derived.Conc.RingFork
import Derived.Conc.CompanyDraw
set_option maxRecDepth 100000
set_option linter.all false
open Array renaming setIfInBounds->qb
open Go renaming Goroutine->r9,Program->th,Value->po,World->pn,stepG->vi
open Go.MemOp renaming ofEvents->vp
namespace Go.Proofs.YtpibpdpedjinhaaGreatDoor
namespace Cr
open Go Go.Conc
open Go.ConcN (sumTo upd sumTo_upd upd_ne upd_same)
section
variable {g g':r9}{fn:FuncId}{pos:String}{es:Array Event}{t:Trace}{gs:Array r9}{q:Nat->Nat}{w:pn}
section
variable {P:th}
def L4{g}:∀op∈vp g fn pos es,op.1=g:=λop a=>by
 obtain⟨e,_,rfl⟩:=Go.Conc.mem_ofEvents a;rfl
def sL{i}(f:i<gs.size)(a:Leavers P t gs q):(∀j x,0<j->i≠j->(qb (gs.map (woken P g g' w)) i g')[j]? =some x->QuitsD P (q j) (Deaf (t++vp i fn pos es) j) x)/\∀j,(qb (gs.map (woken P g g' w)) i g').size<=j->Deaf (t++vp i fn pos es) j=0:=by
 constructor
 .intro j x d b c;rw[cI b,eB,aY]at c;obtain⟨y,e,rfl⟩:=c;have h:=a.1 j y d e;rwa[woken_quitsD h,Deaf_other t b _ L4]
 .intro j b;have c:gs.size<=j:=by simpa using b
  rw[Deaf_other t aA _ L4];exact a.2 j c
def E1(c:0<gs.size)(b:Leavers P t gs q):Leavers P (t++vp 0 fn pos es) (qb (gs.map (woken P g g' w)) 0 g') q:=
 have h:=sL (fn:=fn) (pos:=pos) (es:=es) (g:=g) (g':=g') (w:=w) c b
 ⟨λj x a d=>h.1 j x a (eH a) d,h.2⟩
def CA{i k}(c:i<gs.size)(d:Leavers P t gs q)(f:QuitsD P k (deafBehind (Deaf t i) es) g'):Leavers P (t++vp i fn pos es) (qb (gs.map (woken P g g' w)) i g') (upd q i k):=by
 have h:=sL (fn:=fn) (pos:=pos) (es:=es) (g:=g) (g':=g') (w:=w) c d;refine⟨λj x e b=>?_,h.2⟩;by_cases a:i=j
 .subst a;rw[Array.getElem?_setIfInBounds_self_of_lt lr]at b;cases b;rw[upd_same,Deaf_own];exact f
 .rw[upd_ne q k (Ne.symm a)];exact h.1 j x e a b
def all_awake{a}(d:Leavers P t gs q)(c:gs[0]? =some a)(e:a.3=.running):∀g∈gs,awake g:=by
 intro g f;let⟨i,b⟩:=Array.mem_iff_getElem?.1 f;cases i with
 |zero=>rw[c]at b;cases b;exact awake_of (.inl e)
 |succ i=>exact awake_of ((d.1 _ _ (Nat.succ_pos i) b).status.imp id .inr)
end
end
section
variable {t:Trace}{B:Nat}
def Nw(Dead:Nat->Prop)(l:Loc):=∃a:Addr,l=.cell a/\Dead a.1
def sD(P:th)(Post:po->pn->Prop)(m:Machine)(t:Trace):=
 ∃Zp last o c d,runNT P (Zp+1) m t=(.ended o c,d)/\runN P Zp m=.next last/\step P last=.ended o c/\Good P Post last o c d
def nA(P:th)(Post:po->pn->Prop)(Dead:Nat->Prop)(B:Nat)(g:r9)(w:pn):=
 ∀(d:Nat)(c:Array r9)(e:Option (Nat×Nat))(t:Trace)(q:Nat->Nat),c[0]? =some g->Leavers P t c q->Past (Nw Dead) B t->sD P Post (crowd c (w.at d) e) t
def kY(P:th)(Post:po->pn->Prop)(Dead:Nat->Prop)(g:r9)(w:pn):=nA P Post Dead ↑w g w
section
variable {P:th}{Post:po->pn->Prop}{Dead:Nat->Prop}{g:r9}{w:pn}
def sD.after{m c d Zp}(h:runNT P Zp m t=(.next c,d))(n:sD P Post c d):sD P Post m t:=by
 obtain⟨K,last,o,q,p,e,f,j,l⟩:=n;refine⟨Zp+K,last,o,q,p,?_,?_,j,l⟩
 .rw[cE,runNT_add,h];exact e
 .rw[runN_add,<-runNT_fst P _ _ t,h];exact f
def uy{c d}(h:Past c B t)(j:∀l,c l->d l):Past d B t:=
 ⟨h.1,λi a e f=>(h.2 i a e f).imp id λx=>⟨j _ x.1,x.2⟩,h.3,h.4,h.5⟩
def kY.at(h:kY P Post Dead g w)(d):kY P Post Dead g (w.at d):=λc e m t q f j l=>h c e m t q f j l
def nA.at(h:nA P Post Dead B g w)(d):nA P Post Dead B g (w.at d):=λc e m t q f j l=>h c e m t q f j l
def nA.step(v:g.3=.running)(h:∀d,∃j l f c,vi P true g (w.at d)=.go j l f/\B<=c/\(∀e∈f,EvL (Nw Dead) c e)/\nA P Post Dead c j l):nA P Post Dead B g w:=by
 intro d c C t q l m z;generalize W:sumTo c.size q=Zn
 induction Zn using Nat.strongRecOn generalizing d c C t q with
 |ind Zn ih=>
  have D:=all_awake m l v;let⟨i,j,f,s,p,n,x⟩:=crowd_pick (P:=P) (w:=w.at d) (sl:=C) D ⟨0,g,l,v⟩;rw[show(w.at d).at f=w.at f from R]at x;obtain rfl|J:=dL i
  .obtain rfl:j=g:=by grind
   let⟨I,O,G,F,e,E,y,u⟩:=h f;have A:=runT_crowd_go (P:=P) (sl:=s) (i:=0) p (show vi P _ j _=_ from e);have r:=(fO l)
   refine sD.after (Zp:=1) (by simp only[runNT,x,A];rfl) ?_;exact u _ _ s _ q (by simp[r]) (E1 r m) ((z.mono E).own y)
  .have r:=m.1 i j J p;have F:(i == 0)=false:=by simp;omega
   have A:=(fO p)
   cases u:q i with
   |zero=>rw[u]at r;rw[r.1]at n;cases n
   |succ k=>
    rw[u]at r;obtain⟨E,_⟩|⟨_,y,V,G,S,O⟩:=r
    .rw[E]at n;cases n
    have Q:=runT_crowd_go (P:=P) (sl:=s) (i:=i) p (by rw[F];exact S (w.at f));have T:(qb (c.map (woken P j y (w.at f))) i y).size=c.size:=aC
    have Y:sumTo c.size (upd q i k)+(k+1)=sumTo c.size q+k:=by
     have:=sumTo_upd q k id A;simpa[u]using this
    refine sD.after (Zp:=1) (by simp only[runNT,x,Q];rfl) ?_;refine ih (sumTo c.size (upd q i k)) aA f _ s _ _ ?_ (CA A m O) (z.mute aA G) (by rw[T]);have I:i≠0:=aA
    rw[cI I,eB,l];simp[woken_run v]
def kY.step(l:g.3=.running)(h:∀d,∃j c f,vi P true g (w.at d)=.go j c f/\↑w<=c.1.size/\(∀e∈f,EvL (Nw Dead) ↑c e)/\kY P Post Dead j c):kY P Post Dead g w:=
 nA.step l λd=>let ⟨j,c,f,h1,h2,h3,h4⟩:=h d;⟨j,c,f,_,h1,h2,h3,h4⟩
def kY.done(h:∀d,AtEnd P (Nw Dead) ↑w Post g (w.at d)):kY P Post Dead g w:=λd _ _ _ _ f j l=>
 beside_ends (D:=λ_ _ _=>False) (n:=0) (λ_ _ _ x=>x.elim) f j l λw₁ ⟨c,e⟩=>by rw[e];exact h c
section
variable {b:Frame}{a:Act}{k:List Item}{cs:List Frame}{ops:Array Oper}{i:Nat}{rest:List Nat}{o:Oper}
def kY.op(j:ops[i]? =some o)(hw:Region.wanted o (yielded ops a.1)=true)(f:b.6≠.early)(h:∀d,∃v c,(execOp a.eval o).run P (w.at d)=.ok (.value v) c/\↑w<=c.1.size/\(∀e∈listed P b.1 a o (w.at d),EvL (Nw Dead) ↑c e)/\kY P Post Dead (G (b.at (a.put o.1 v) (.inRegion ops rest::k)) cs) c):kY P Post Dead (G (b.at a (.inRegion ops (i::rest)::k)) cs) w:=
 .step R λd=>let ⟨_,c,hr,hs,he,hD⟩:=h d;⟨_,c,_,stepG_value j hw f hr,hs,he,hD⟩
def kY.opn(j:ops[i]? =some o)(hw:Region.wanted o (yielded ops a.1)=true)(f:b.6≠.early)(h:∀d,∃c,(execOp a.eval o).run P (w.at d)=.ok .skip c/\↑w<=c.1.size/\(∀e∈listed P b.1 a o (w.at d),EvL (Nw Dead) ↑c e)/\kY P Post Dead (G (b.at (a.put o.1 undef) (.inRegion ops rest::k)) cs) c):kY P Post Dead (G (b.at a (.inRegion ops (i::rest)::k)) cs) w:=
 .step R λd=>let ⟨c,hr,hs,he,hD⟩:=h d;⟨_,c,_,stepG_none j hw f hr,hs,he,hD⟩
end
end
end
section
variable {fr:Frame}{v:po}
section
variable {P:th}{Post Post':po->pn->Prop}{Dead:Nat->Prop}{g:r9}{w:pn}
def Gc(h:kY P Post (λ_=>False) g w):sD P Post (solo g w) #[]:=by rw[solo_eq_crowd];exact h _ _ none _ _ R (leavers_one _ _) (uy (past_nil.mono (bU _)) λ_ x=>x.elim)
def kY.dead{c}(h:kY P Post c g w)(m:∀b,Dead b->c b):kY P Post Dead g w:=
 λd f n t q i j l=>h d f n t q i j (uy l λ_ ⟨a,e,x⟩=>⟨a,e,m _ x⟩)
def kY.ret{fn}(l:fr.5=.returning)(f:fr.4=[])(j:fr.6=.normal)(h:P.2[fr.1]? =some fn)(i:P.inits.idxOf? fr.1=none)(m:∀d,(results fn fr.2).run P (w.at d)=.ok v (w.at d))(a:∀d,(results fn fr.2).events P (w.at d) #[]=#[])(hp:∀d,Post v (w.at d)):kY P Post Dead (G fr []) w:=by
 refine kY.done λd=>⟨R,v,#[],?_,λe a=>by simp at a,hp d⟩
 have b:=m d;have c:=a d;simp[G,vi,unwind,doReturn,l,f,j,h,i,b,c,GStep.after,seen]
end
end
end Cr
