import Derived.Test.YtpibpdpedjinhabGreatDoorP03
import Derived.RangeFuncRecord
set_option maxRecDepth 100000
set_option maxHeartbeats 8000000
set_option linter.all false
open Array renaming replicate->ms
open Bool renaming false->aR,true->bB
open Go renaming Frame->cT,Goroutine->cA,Obj->oA,Oper->km,Program->cU,Value->aD,World->X,execOp->bO,stepG->dC,undef->aH
open Go.Conc renaming Goes->iA,mem_listed->im,stepG_region_end->bA,stepG_seq->cE
open Go.ConcN.RW renaming live->ky,refl->jb
open Go.ConcR renaming mk->cX
open Go.GStep.go renaming injEq->nt
open Go.Item renaming inRegion->bR
open Go.Region renaming schedule->oB,wanted->cS
open List renaming getElem?_set->ov,range->iv
open Option renaming some->M
open Or renaming inl->bN,inr->cF
namespace Go.Proofs.YtpibpdpedjinhabGreatDoor
namespace Cr
open Go Go.Conc
section
def nN(ops:Array km)(i:Nat):Option Tmp:=(ops[i]?).bind (·.dst)
def rank(md:Region.Mode)(ops:Array km)(i:Nat):Nat:=(Region.linearise md ops 0).idxOf i
def fills(n:Nat)(ops:Array km):Bool:=(iv ops.size).all λi=>(nN ops i).all (·<n)&&((ops[i]?).all λo=>o.after.toList.all λe=>decide (e.on<ops.size)&&[Region.Mode.text,.gc,.any].all λmd=>!Region.binds md e || decide (rank md ops e.on<rank md ops i))&&(iv ops.size).all λj=>i == j || (nN ops i).isNone || nN ops i != nN ops j
def waits(ops:Array km)(i j:Nat):Bool:=(ops[i]?).any λo=>o.after.toList.any λe=>Region.binds .any e&&e.on == j
def kM{ops:Array km}{i:Nat}{o:km}(p:Op×Option (Nat×Bool))(z:ops[i]? =M o)(h:(ops[i]?).map (λo=>(o.op,o.guard))=M p):o.op=p.1/\o.guard=p.2:=by grind
def AP{l:Array Bool}{i:Nat}(h:l.getD i bB=aR):l.getD i aR=aR/\(l.setIfInBounds i bB).getD i aR=bB:=by
 rw[fD]at h;cases z:l[i]? with
 |none=>rw[z]at h;cases h
 |some x=>
  rw[z]at h;have E:=(jE z)
  exact⟨by rw[fD,z];exact h,by simp[E]⟩
structure Fill(ops:Array km)(V:Nat->aD)(a0:Act)(l:Array Bool)(a:Act):Prop where
 size:a.tmps.size=a0.tmps.size
 defers:a.defers=a0.defers
 got:∀i s,nN ops i=M s->l.getD i aR=bB->a.tmps[s]? =M (V i)
 kept:∀s,(∀i,nN ops i≠M s)->a.tmps[s]? =a0.tmps[s]?
 clo:∀i j,waits ops i j=bB->l.getD i aR=bB->l.getD j aR=bB
section
variable {ops:Array km}{V:Nat->aD}{a0 a:Act}{l:Array Bool}{i s:Nat}{o:km}
def Fill.ev(h:Fill ops V a0 l a)(hd:nN ops i=M s)(z:l.getD i aR=bB):a.eval (.tmp s)=V i:=by have:=h.got i s hd z;simp[Act.eval,this]
def Fill.slot(h:Fill ops V a0 l a)(hs:((iv ops.size).all λi=>nN ops i != M s)=bB):a.tmps[s]? =a0.tmps[s]?:=h.kept s λi z=>by
 have E:i<ops.size:=by
  unfold nN at z;cases h:ops[i]? with
  |none=>rw[h]at z;cases z
  |some o=>grind
 grind
def Fill.old{v:aD}(h:Fill ops V a0 l a)(hs:((iv ops.size).all λi=>nN ops i != M s)=bB)(z:a0.tmps[s]? =M v):a.eval (.tmp s)=v:=by have:=(h.slot hs).trans z;simp[Act.eval,this]
def Nr{n:Nat}(I:fills n ops=bB)(z:ops[i]? =M o):(∀s,o.dst=M s->s<n/\∀j,nN ops j=M s->j=i)/\∀e∈o.after,e.on<ops.size/\∀md,Region.binds md e=bB->rank md ops e.on<rank md ops i:=by
 have Y:=(jE z)
 have h:=fF.1 I i (gV.2 Y);simp only[dF]at h;obtain⟨⟨h1,h2⟩,h3⟩:=h;have hd:nN ops i=o.dst:=by unfold nN;rw[z];rfl
 rw[z]at h2;refine⟨λs hs=>⟨by grind,λj E=>?_⟩,λe R=>?_⟩
 .have J:j<ops.size:=by
   unfold nN at E;cases h:ops[j]? with
   |none=>rw[h]at E;cases E
   |some o=>grind
  grind
 .simp only[Option.all_some]at h2;have:=fF.1 h2 e (Array.mem_toList_iff.2 R);simp only[dF,Z3]at this;refine⟨this.1,λmd hb=>?_⟩;have:=fF.1 this.2 md (by cases md<;>simp)
  grind
def Fill.put{I:Nat->aD}(hf:fills a0.tmps.size ops=bB)(ho:ops[i]? =M o)(hV:∀j,l.getD j aR=bB->I j=V j)(hw:∀j,waits ops i j=bB->l.getD j aR=bB)(h:Fill ops V a0 l a):Fill ops I a0 (l.setIfInBounds i bB) (a.put o.dst (I i)):=by
 have hd:nN ops i=o.dst:=by unfold nN;rw[ho];rfl
 have hu:=(Nr hf ho).1;have hl:∀j,j≠i->(l.setIfInBounds i bB).getD j aR=l.getD j aR:=λj E=>getD_set_ne aR (Ne.symm E)
 have hm:∀j,l.getD j aR=bB->(l.setIfInBounds i bB).getD j aR=bB:=λj E=>by
  by_cases e:j=i
  .subst e;rw[fD]at E;cases hx:l[j]? with
   |none=>rw[hx]at E;cases E
   |some x=>simp[(jE hx)]
  grind
 have Y:∀k j,waits ops k j=bB->(l.setIfInBounds i bB).getD k aR=bB->(l.setIfInBounds i bB).getD j aR=bB:=λk j R hk=>hm j (by
  by_cases e:k=i
  .subst e;exact hw j R
  .rw[hl k e]at hk;exact h.clo k j R hk)
 cases hs:o.dst with
 |none=>
  refine⟨h.size,h.defers,λj s E z=>?_,h.kept,Y⟩;by_cases e:j=i
  .grind
  .rw[hl j e]at z;rw[hV j z];exact h.got j s E z
 |some t=>
  obtain⟨aa,ae⟩:=hu t hs
  have ac:(a.put (M t) (I i)).tmps[t]? =M (I i):=by
   simp[Act.put,h.size,aa]
  have J:∀s,s≠t->(a.put (M t) (I i)).tmps[s]? =a.tmps[s]?:=λs e=>by simp[Act.put,dZ (Ne.symm e)]
  refine⟨by simp[Act.put,h.size],h.defers,λj s E z=>?_,λs hk=>?_,Y⟩
  .by_cases e:j=i
   .grind
   .rw[hl j e]at z;by_cases e2:s=t
    .grind
    .rw[J s e2,hV j z];exact h.got j s E z
  .rw[J s λe=>hk i (by rw[hd,hs,e])];exact h.kept s hk
def TG{md:Region.Mode}{e:Edge}(h:Region.binds .any e=bB):Region.binds md e=bB:=by
 unfold Region.binds at *
 grind
def Ec{σ:Type}(V:σ->Nat->aD)(J:Array Bool->σ->Prop)(XX:List Nat->Act->σ->Prop)(hf:fills a0.tmps.size ops=bB)(done:∀l a s,(∀i,i<ops.size->l.getD i aR=bB)->Fill ops (V s) a0 l a->J l s->XX [] a s)(more:∀l a s i o rest,ops[i]? =M o->l.getD i bB=aR->(∀j,waits ops i j=bB->l.getD j aR=bB)->Fill ops (V s) a0 l a->J l s->(∀s',(∀j,l.getD j aR=bB->V s' j=V s j)->J (l.setIfInBounds i bB) s'->XX rest (a.put o.dst (V s' i)) s')->XX (i::rest) a s)(m:Bool)(t:Nat)(s:σ)(h:J (ms ops.size aR) s):XX (oB m ops t) a0 s:=by
 have key:∀md t,XX (Region.linearise.go md ops ops.size t (ms ops.size aR) []) a0 s:=λmd t=>by
  refine Gh (σ:=Act×σ) (md:=md) (ops:=ops) (λR l s=>l.size=ops.size/\l.count aR=R/\Fill ops (V s.2) a0 l s.1/\J l s.2) (λrest s=>XX rest s.1 s.2) ?_ ?_ _ t _ (a0,s) ⟨aC,aC,⟨rfl,rfl,λi s' _ hl=>?_,λ_ _=>rfl,λi _ _ hl=>?_⟩,h⟩
  .rintro l ⟨a,s⟩ ⟨Y,hc,hF,hJ⟩;refine done l a s (λi I=>?_) hF hJ;cases z:l.getD i aR with
   |true=>rfl
   |false=>
    have hm:aR∈l:=by
     rw[<-Y]at I;simp[I]at z;exact z ▸ Array.getElem_mem I
    grind
  .rintro R l ⟨a,s⟩ ⟨Y,hc,hF,hJ⟩;refine⟨λhe=>?_,λi I rest hn=>?_⟩
   .have hm:aR∈l:=Array.count_pos_iff.1 aA;obtain⟨i,I,z⟩:=Array.mem_iff_getElem.1 hm
    have key:∀n i,rank md ops i<n->l.getD i bB=aR->False:=by
     intro n
     induction n with
     |zero=>omega
     |succ n ih=>
      intro i I z
      have E:i<ops.size:=by
       rw[<-Y];apply Nat.lt_of_not_le;intro h;simp[Nat.not_lt.2 h]at z
      have:i∈Region.ready md ops l:=mem_ready.2 ⟨z,_,dA E,λe he hb=>by
       have hr:=(Nr hf (dA E)).2 e he
       grind⟩
      grind
    exact key _ i (Nat.lt_succ_self _) (by simp[I,z])
   .obtain⟨z,o,ho,aa⟩:=mem_ready.1 I
    have hw:∀j,waits ops i j=bB->l.getD j aR=bB:=λj hj=>by
     unfold waits at hj;rw[ho]at hj;obtain⟨e,he,hb⟩:=List.any_eq_true.1 hj;simp only[dF,YY]at hb;rw[<-hb.2];exact aa e (Array.mem_toList_iff.1 he) (TG hb.1)
    refine more l a s i o rest ho z hw hF hJ λs' hV ac=>hn (_,s') ⟨by simp[Y],?_,hF.put hf ho hV hw,ac⟩;have E:i<l.size:=by rw[Y];exact(jE ho)
    have ae:l[i]=aR:=by simpa[E]using z
    grind
  all_goals
   rw[fD,Array.getElem?_replicate]at hl;split at hl<;>simp at hl
 unfold oB;split
 .exact key _ t
 .exact key _ _
end
end
open Go Go.Conc Go.ConcN
open Go.ConcR (Payload DC0)
section
variable {ob o o':oA}{i B:Nat}
section
variable [Payload]
structure At(S:Who)(K0:kC)(w0:X)(L:List (Nat×oA))(K:kC)(w:X):Prop where
 sub:∀x,K.W x->K.O x
 low:∀x,K.O x->x<w.heap.size
 pay0:S.C<w0.heap.size
 grp0:S.Wg<w0.heap.size
 size:w0.heap.size<=w.heap.size
 old:∀x,K0.O x->x<w0.heap.size/\K.O x/\w.heap[x]? =w0.heap[x]?
 new:∀x,K.O x->K0.O x\/w0.heap.size<=x
 live:WgLive S.ty S.Wg w0->WgLive S.ty S.Wg w
 pay:PayAt S.C S.n w0->PayAt S.C S.n w
 mem:∀p∈L,w0.heap.size<=p.1/\K.W p.1/\w.heap[p.1]? =M p.2
 ord:L.Pairwise λp q=>q.1≠p.1
structure Lies(L:List (Nat×oA))(n0:Nat)(w:X):Prop where
 size:n0<=w.heap.size
 mem:∀p∈L,n0<=p.1/\w.heap[p.1]? =M p.2
 ord:L.Pairwise λp q=>q.1≠p.1
def InL(L:List (Nat×oA))(n z b:Nat):Prop:=(∃p∈L,p.1=b)\/(n<=b/\b<z)
def EvA(L:List (Nat×oA))(n E:Nat)(e:Event):Prop:=
 (∃a wr,e=⟨.cell a,wr,aR⟩/\InL L n E a.block)\/(∃r wr,e=⟨.obj r,wr,aR⟩/\InL L n E r)\/(∃wr z,e=⟨.mark .noRoom,wr,z⟩)\/∃f wr z,e=⟨.mark (.extern f),wr,z⟩
structure Turn(L L':List (Nat×oA))(w w':X)(es:Array Event):Prop where
 tape:w'.tape=w.tape
 os:w'.os=w.os
 output:w'.output=w.output
 size:w.heap.size<=w'.heap.size
 block:∀x,x<w.heap.size->(∀p∈L,p.1≠x)->w'.heap[x]? =w.heap[x]?
 mem:∀p∈L',InL L w.heap.size w'.heap.size p.1/\w'.heap[p.1]? =M p.2
 ord:L'.Pairwise λp q=>q.1≠p.1
 events:∀e∈es,EvA L w.heap.size w'.heap.size e
variable {S:Who}{m:Nat}{K0 K:kC}{w0 w w':X}{L L':List (Nat×oA)}{es:Array Event}
def At.en{z:X}(h:At S K0 w0 L K w)(r:En S (M m) K w z):At S K0 w0 L K z:=
 ⟨h.sub,λx E=>aP (h.low x E) r.size,h.pay0,h.grp0,bH h.size r.size,λx E=>⟨(h.old x E).1,(h.old x E).2.1,(r.block x (h.old x E).2.1).trans (h.old x E).2.2⟩,h.new,r.live∘h.live,r.pay∘h.pay,λp hp=>⟨(h.mem p hp).1,(h.mem p hp).2.1,(r.block _ (h.sub _ (h.mem p hp).2.1)).trans (h.mem p hp).2.2⟩,h.ord⟩
def At.lies(h:At S K0 w0 L K w):Lies L w0.heap.size w:=⟨h.size,λp hp=>⟨(h.mem p hp).1,(h.mem p hp).2.2⟩,h.ord⟩
omit [Payload] in
def Lies.lt(h:Lies L w0.heap.size w){p:Nat×oA}(hp:p∈L):p.1<w.heap.size:=(dY.1 (h.mem p hp).2).1
def At.afq(h:At S K0 w0 L K w){x:Nat}(z:x<w0.heap.size):∀p∈L,p.1≠x:=λp hp e=>by have:=(h.mem p hp).1;omega
def At.turn(h:At S K0 w0 L K w)(t:Turn L L' w w' es):At S K0 w0 L' (K.grow w.heap.size w'.heap.size) w':=by
 have E:=λx z=>t.block x (aP z h.size) (h.afq z);refine⟨λx z=>z.imp (h.sub x) id,λx z=>z.elim (λk=>aP (h.low x k) t.size) (·.2),h.pay0,h.grp0,bH h.size t.size,λx z=>⟨(h.old x z).1,bN (h.old x z).2.1,(E x (h.old x z).1).trans (h.old x z).2.2⟩,λx z=>z.elim (h.new x) λk=>cF (bH h.size k.1),λk=>?_,λk=>?_,λp hp=>?_,t.ord⟩
 .obtain⟨st,sm,R⟩:=h.live k;exact⟨st,sm,R.of_block (E _ h.grp0)⟩
 .obtain⟨cs,Y,h2⟩:=h.pay k;exact⟨cs,(E _ h.pay0).trans Y,h2⟩
 .obtain⟨k,I⟩:=t.mem p hp;obtain⟨q,J,e⟩|k:=k
  .rw[<-e];exact⟨(h.mem q J).1,bN (h.mem q J).2.1,by rw[e];exact I⟩
  .exact⟨bH h.size k.1,cF k,I⟩
def At.gu(h:At S K0 w0 L K w)(t:Turn L L' w w' es):Gu S (M m) K w w' es:=by
 have J:=λx R=>t.block x (aP R h.size) (h.afq R)
 have I:∀{b:Nat},InL L w.heap.size w'.heap.size b->(K.W b\/w.heap.size<=b)/\b<w'.heap.size:=λz=>by
  obtain⟨p,hp,rfl⟩|k:=z
  .exact⟨bN (h.mem p hp).2.1,aP (h.low _ (h.sub _ (h.mem p hp).2.1)) t.size⟩
  omega
 have E:∀{b:Nat}{wr:Bool},InL L w.heap.size w'.heap.size b->((if wr then K.W b else K.O b)\/w.heap.size<=b)/\b<w'.heap.size:=λ{b wr} z=>by
  refine⟨(I z).1.imp (λk=>?_) id,(I z).2⟩;cases wr
  .exact h.sub _ k
  .exact k
 refine⟨t.tape,t.os,t.output,t.size,λb hl hn _=>t.block b hl λp hp e=>hn (e ▸ (h.mem p hp).2.1),λ⟨cs,Y,h2⟩=>⟨cs,(J _ h.pay0).trans Y,h2⟩,λi _=>by simp only[World.cell?,J _ h.pay0],λe he=>bN ?_⟩;obtain⟨a,wr,rfl,z⟩|⟨r,wr,rfl,z⟩|k|k:=t.events e he
 .exact bN ⟨a,wr,rfl,E z⟩
 .exact cF (bN ⟨r,wr,rfl,E z⟩)
 .exact cF (cF (bN k))
 .exact cF (cF (cF k))
def Wc(P:cU)(S:Who)(m:Nat)(St:kC->cA->X->Prop)(K0:kC)(w0:X)(L:List (Nat×oA))(g:cA):Prop:=∀K w,At S K0 w0 L K w->kY P aR S (M m) St K g w
variable {P:cU}{St:kC->cA->X->Prop}{g g':cA}
def Wc.use(h:Wc P S m St K0 w0 L g)(z:At S K0 w0 L K w):kY P aR S (M m) St K g w:=h K w z
def Wc.step(hs:g.status=.running)(h:∀w,Lies L w0.heap.size w->∃g' w' es L',dC P aR g w=.go g' w' es/\Turn L L' w w' es/\Wc P S m St K0 w0 L' g'):Wc P S m St K0 w0 L g:=λK w I=>.step hs λE z=>by
 obtain⟨g',w',es,L',e,ht,hw⟩:=h E (I.en z).lies;exact⟨g',w',es,e,(I.en z).gu ht,hw _ _ ((I.en z).turn ht)⟩
def Wc.go(n:Nat)(h:∀K w,At S K0 w0 L K w->iA P aR (En S (M m) K) DC0 (λg w=>kY P aR S (M m) St K g w) n g w):Wc P S m St K0 w0 L g:=λK w z=>kY.go (h K w z)
def Wc.drop(E:L'.Sublist L)(h:Wc P S m St K0 w0 L' g):Wc P S m St K0 w0 L g:=λK w z=>
 h K w ⟨z.sub,z.low,z.pay0,z.grp0,z.size,z.old,z.new,z.live,z.pay,λp hp=>z.mem p (E.subset hp),z.ord.sublist E⟩
omit [Payload] in
def Turn.still(h:Lies L w0.heap.size w)(z:∀e∈es,EvA L w.heap.size w.heap.size e):Turn L L w w es:=⟨rfl,rfl,rfl,jB,λ_ _ _=>rfl,λp hp=>⟨bN ⟨p,hp,rfl⟩,(h.mem p hp).2⟩,h.ord,z⟩
omit [Payload] in
def Turn.lay(h:Lies L w0.heap.size w)(hz:w'.heap.size=w.heap.size+1)(z:∀x,x<w.heap.size->w'.heap[x]? =w.heap[x]?)(Y:w'.heap[w.heap.size]? =M ob)(ht:w'.tape=w.tape)(E:w'.os=w.os)(J:w'.output=w.output)(I:∀e∈es,EvA L w.heap.size (w.heap.size+1) e):Turn L ((w.heap.size,ob)::L) w w' es:=by
 refine⟨ht,E,J,aA,λx R _=>z x R,λp hp=>?_,List.pairwise_cons.2 ⟨λp hp=>iM (h.lt hp),h.ord⟩,by rw[hz];exact I⟩;obtain rfl|hp:=dD.1 hp
 .exact⟨cF ⟨jB,by simp only;omega⟩,Y⟩
 .exact⟨bN ⟨p,hp,rfl⟩,(z _ (h.lt hp)).trans (h.mem p hp).2⟩
omit [Payload] in
def Turn.alloc(h:Lies L w0.heap.size w)(o:oA)(z:∀e∈es,EvA L w.heap.size (w.heap.size+1) e):Turn L ((w.heap.size,o)::L) w (w.alloc o) es:=
 .lay h aC (λx E=>by
  show(w.heap.push o)[x]? =w.heap[x]?
  grind) (World.alloc_heap_new w o) rfl rfl rfl z
omit [Payload] in
def Turn.set(h:Lies L w0.heap.size w)(hi:L[i]? =M (B,o))(hz:w'.heap.size=w.heap.size)(Y:∀x,x≠B->w'.heap[x]? =w.heap[x]?)(hn:w'.heap[B]? =M o')(ht:w'.tape=w.tape)(R:w'.os=w.os)(hu:w'.output=w.output)(he:∀e∈es,EvA L w.heap.size w.heap.size e):Turn L (L.set i (B,o')) w w' es:=by
 have z:=(aN.1 hi).1;have hB:=aX hi
 have I:(L.set i (B,o')).map Prod.fst=L.map Prod.fst:=by
  rw[List.map_set];apply List.ext_getElem?;intro k;rw[ov];split
  .grind
  .rfl
 refine⟨ht,R,hu,aA,λx _ hn=>Y x λe=>hn _ hB e.symm,λp hp=>?_,?_,by rw[hz];exact he⟩
 .have hm:p.1∈L.map Prod.fst:=by rw[<-I];exact List.mem_map_of_mem hp
  obtain⟨q,hq,e⟩:=bM.1 hm;refine⟨bN ⟨q,hq,e⟩,?_⟩;by_cases e2:p.1=B
  .obtain⟨k,hk⟩:=jw.1 hp;rw[ov]at hk;split at hk
   .grind
   .have aa:k≠i:=λe=>‹¬i=k› e.symm;have E:=(aN.1 hk).1;obtain J|J:=gG k i
    .have:=iD.1 h.ord k i E z J
     grind
    .have:=iD.1 h.ord i k z E aA
     grind
  .rw[Y _ e2];obtain⟨k,hk⟩:=jw.1 hp;rw[ov]at hk;split at hk
   .grind
   .exact(h.mem p (aX hk)).2
 .have J:(L.map Prod.fst).Pairwise (λa b=>b≠a):=List.pairwise_map.2 h.ord
  grind
omit [Payload] in
def Turn.put(h:Lies L w0.heap.size w)(z:L[i]? =M (B,o))(E:∀e∈es,EvA L w.heap.size w.heap.size e):Turn L (L.set i (B,o')) w (w.putObj B o') es:=
 .set h z aC (λ_ I=>World.putObj_heap_other I) (World.putObj_heap_same (h.lt (aX z))) rfl rfl rfl E
section
variable {b:cT}{a:Act}{k:List Item}{cs:List cT}{ops:Array km}{i:Nat}{rest:List Nat}{o:km}
def Wc.op(I:ops[i]? =M o)(hw:cS o (yielded ops a.tmps)=bB)(hk:b.kind≠.early)(h:∀w,Lies L w0.heap.size w->∃v w' L',((bO a.eval o).run P w=.ok (.value v) w'\/(bO a.eval o).run P w=.ok .skip w'/\v=aH)/\Turn L L' w w' (listed P b.fn a o w)/\Wc P S m St K0 w0 L' (G (b.at (a.put o.dst v) (bR ops rest::k)) cs)):Wc P S m St K0 w0 L (G (b.at a (bR ops (i::rest)::k)) cs):=
 .step rfl λw J=>by
  obtain⟨v,w',L',z,ht,E⟩:=h w J;obtain z|⟨z,rfl⟩:=z
  .exact⟨_,w',_,L',stepG_value I hw hk z,ht,E⟩
  .exact⟨_,w',_,L',stepG_none I hw hk z,ht,E⟩
def Wc.rd(v:aD)(I:ops[i]? =M o)(hw:cS o (yielded ops a.tmps)=bB)(hk:b.kind≠.early)(h:∀w,Lies L w0.heap.size w->(bO a.eval o).run P w=.ok (.value v) w/\∀e∈(bO a.eval o).events P w #[],EvA L w.heap.size w.heap.size e)(E:Wc P S m St K0 w0 L (G (b.at (a.put o.dst v) (bR ops rest::k)) cs)):Wc P S m St K0 w0 L (G (b.at a (bR ops (i::rest)::k)) cs):=
 .op I hw hk λw z=>⟨v,w,L,bN (h w z).1,.still z λe J=>(h w z).2 e (im J),E⟩
def Wc.al(ob:oA)(v:Nat->aD)(I:ops[i]? =M o)(hw:cS o (yielded ops a.tmps)=bB)(hk:b.kind≠.early)(h:∀w,Lies L w0.heap.size w->(bO a.eval o).run P w=.ok (.value (v w.heap.size)) (w.alloc ob)/\∀e∈(bO a.eval o).events P w #[],EvA L w.heap.size (w.heap.size+1) e)(E:∀n,Wc P S m St K0 w0 ((n,ob)::L) (G (b.at (a.put o.dst (v n)) (bR ops rest::k)) cs)):Wc P S m St K0 w0 L (G (b.at a (bR ops (i::rest)::k)) cs):=
 .op I hw hk λw z=>⟨_,_,_,bN (h w z).1,.alloc z ob λe J=>(h w z).2 e (im J),E _⟩
def Wc.st{j:Nat}(z:oA)(R:L[j]? =M (B,ob))(J:ops[i]? =M o)(hw:cS o (yielded ops a.tmps)=bB)(hk:b.kind≠.early)(h:∀w,Lies L w0.heap.size w->(bO a.eval o).run P w=.ok .skip (w.putObj B z)/\∀e∈(bO a.eval o).events P w #[],EvA L w.heap.size w.heap.size e)(I:Wc P S m St K0 w0 (L.set j (B,z)) (G (b.at (a.put o.dst aH) (bR ops rest::k)) cs)):Wc P S m St K0 w0 L (G (b.at a (bR ops (i::rest)::k)) cs):=
 .op J hw hk λw E=>⟨_,_,_,cF ⟨(h w E).1,rfl⟩,.put E R λe Y=>(h w E).2 e (im Y),I⟩
def Wc.fill{aa:Nat}{V:Nat->aD}(hf:fills a.tmps.size ops=bB)(done:∀l a',(∀i,i<ops.size->l.getD i aR=bB)->Fill ops V a l a'->Wc P S m St K0 w0 L' (G (b.at a' k) cs))(J:Array Bool->List (Nat×oA))(R:J (ms ops.size aR)=L)(I:∀l,(∀i,i<ops.size->l.getD i aR=bB)->J l=L')(more:∀l a' i o rest,ops[i]? =M o->l.getD i bB=aR->(∀j,waits ops i j=bB->l.getD j aR=bB)->Fill ops V a l a'->Wc P S m St K0 w0 (J (l.setIfInBounds i bB)) (G (b.at (a'.put o.dst (V i)) (bR ops rest::k)) cs)->Wc P S m St K0 w0 (J l) (G (b.at a' (bR ops (i::rest)::k)) cs)):Wc P S m St K0 w0 L (G (b.at a (.code (.region aa ops bB)::k)) cs):=by
 refine .step rfl λw E=>⟨_,_,_,L,stepG_region_draw,⟨rfl,rfl,rfl,jB,λ_ _ _=>rfl,λp hp=>⟨bN ⟨p,hp,rfl⟩,(E.mem p hp).2⟩,E.ord,λe Y=>by simp at Y⟩,?_⟩
 rw[<-R];refine Ec (σ:=Array Bool) (λ_=>V) (λl s=>s=l) (λrest a s=>Wc P S m St K0 w0 (J s) (G (b.at a (bR ops rest::k)) cs)) hf (λl a' s z h2 h3=>?_) (λl a' s i o rest z h2 h3 h4 h5 h6=>?_) _ _ _ rfl
 .rw[h3,I l z];exact .step rfl λw E=>⟨_,w,_,L',bA,.still E λe Y=>by simp at Y,done l a' z h2⟩
 .rw[h5];exact more l a' i o rest z h2 h3 h4 (h6 _ (λ_ _=>rfl) rfl)
end
end
end
open Go Go.Conc Go.ConcN Go.RowKit Go.Conc.Lib Go.ConcR.Gen Go.ConcN.Gen
open Go.ConcR (KK wgBlock WgAt stA smA rd wr Payload DC0)
section
variable {v:aD}{c:cT}{cs:List cT}
section
variable [Payload]{P:cU}{ty:TypeId}{Wg C n i lo:Nat}
def IK(P:cU)(ty:TypeId)(Wg C n i:Nat)(g:cA)(w:X):Prop:=
 ∃g',(∀z,dC P aR g z=.go g' z #[cX (.releaseMerge (stA Wg))])/\∃m,iA P aR (RW ty Wg C n 0 i) DC0 (λg _=>∃E,∀z,dC P aR g z=.go E z #[cX .disable]) m g' w
def OI:∀{m k:Nat}{g:cA}{w:X},iA P aR (RW ty Wg C n 0 i) DC0 (λg _=>∃E,∀z,dC P aR g z=.go E z #[cX .disable]) m g w->iA P aR (RW ty Wg C n 0 (i+1-1)) (DWs Wg pO pO C n (i+1)) (AtR0 P ty Wg C n 0 (i+1) v) k g w->False:=by
 intro m
 have last:∀{k:Nat}{g:cA}{w:X},(∃E,∀z,dC P aR g z=.go E z #[cX .disable])->iA P aR (RW ty Wg C n 0 (i+1-1)) (DWs Wg pO pO C n (i+1)) (AtR0 P ty Wg C n 0 (i+1) v) k g w->False:=by
  rintro k g w ⟨E,I⟩ hk;obtain hs|⟨k',rfl,hs⟩:=Goes.cases hk
  .obtain⟨_,_,g',e,_⟩:=hs w (jb w);rw[I w]at e;simp only[nt]at e;have:=e.2.2;simp[cX]at this
  .obtain⟨g',w',es,e,⟨_,Y⟩,_⟩:=hs w (jb w);rw[I w]at e;simp only[nt]at e;obtain⟨_,_,rfl⟩:=e;exact(Y (cX _) aC).2.1 rfl
 induction m with
 |zero=>exact λh hk=>last (h _ (jb _)) hk
 |succ m ih=>
  intro k g w h hk;obtain h|⟨_,h⟩:=h
  .exact last (h _ (jb _)) hk
  .have J:=h w (jb w);cases hg:dC P aR g w with
   |go g' w' es=>
    rw[hg,goes_go]at J;obtain⟨⟨rfl,rfl⟩,J⟩:=J;obtain hs|⟨k',rfl,hs⟩:=Goes.cases hk
    .obtain⟨_,_,R,e,_⟩:=hs _ (jb _)
     grind
    .obtain⟨R,z,aa,e,_,ac⟩:=hs _ (jb _)
     grind
   |_=>rw[hg]at J;exact J.elim
def follow{Q:Left}{K:kC}:∀{m k:Nat}{g:cA}{w:X},iA P aR (RW ty Wg C n 0 i) DC0 (IK P ty Wg C n i) m g w->iA P aR (RW ty Wg C n 0 (i+1-1)) (DWs Wg pO pO C n (i+1)) (AtR0 P ty Wg C n 0 (i+1) v) k g w->(∀z,RW ty Wg C n 0 i w z->(∀b,K.O b->z.heap[b]? =w.heap[b]?)->Q i v K.O z)->kY P aR ⟨Wg,C,n,ty,lo⟩ (M i) (tC P ⟨Wg,C,n,ty,lo⟩ Q i) K g w:=by
 intro m;have tr:∀a b c,RW ty Wg C n 0 (i+1-1) a b->RW ty Wg C n 0 (i+1-1) b c->RW ty Wg C n 0 (i+1-1) a c:=λ_ _ _ h1 h2=>h1.trans h2
 have last:∀{k:Nat}{g:cA}{w:X},(∀z,RW ty Wg C n 0 i w z->IK P ty Wg C n i g z)->iA P aR (RW ty Wg C n 0 (i+1-1)) (DWs Wg pO pO C n (i+1)) (AtR0 P ty Wg C n 0 (i+1) v) k g w->
   (∀z,RW ty Wg C n 0 i w z->(∀b,K.O b->z.heap[b]? =w.heap[b]?)->Q i v K.O z)->kY P aR ⟨Wg,C,n,ty,lo⟩ (M i) (tC P ⟨Wg,C,n,ty,lo⟩ Q i) K g w:=by
  intro k g w hr hk R;refine kY.stop λz E=>⟨v,?_,R z E.rw E.block⟩
  obtain hs|⟨k',rfl,hs⟩:=Goes.cases (hk.rely tr E.rw)
  .exact hs z (jb z)
  .exfalso;obtain⟨g',Y,m',hd⟩:=hr z E.rw;obtain⟨aj,ah,es,e,_,I⟩:=hs z (jb z);rw[Y z]at e;simp only[nt]at e;obtain⟨rfl,rfl,rfl⟩:=e;exact OI hd I
 induction m with
 |zero=>exact λh hk R=>last h hk R
 |succ m ih=>
  intro k g w h hk R;obtain h|⟨ae,h⟩:=h
  .exact last h hk R
  .refine kY.step ae λz E=>?_;have J:=h z E.rw;cases hg:dC P aR g z with
   |go g' w' es=>
    rw[hg,goes_go]at J;obtain⟨⟨rfl,rfl⟩,J⟩:=J;refine⟨g',w',_,rfl,.still ..,?_⟩;rw[kR];obtain hs|⟨k',rfl,hs⟩:=Goes.cases (hk.rely tr E.rw)
    .obtain⟨_,_,ac,e,_⟩:=hs _ (jb _)
     grind
    .obtain⟨ac,ah,ai,e,_,I⟩:=hs _ (jb _);rw[hg]at e;simp only[nt]at e;obtain⟨rfl,rfl,rfl⟩:=e;exact ih J I λag aa hb=>R ag (E.rw.trans aa) λb af=>(hb b af).trans (E.block b af)
   |_=>rw[hg]at J;exact J.elim
variable {L:WgLink}
def aaj(H:WgLib P L)(w:X)(z:WgLive L.tWg Wg w):iA P aR (RW L.tWg Wg C n 0 i) DC0 (IK P L.tWg Wg C n i) 60 (G ((baseD L.done).at ⟨#[.pointer (M ⟨Wg,0,none⟩),aH,aH,aH],[]⟩ [.code (body_done L)]) (c::cs)) w:=by
 lib_facts
 simp only[body_done,doneFn,fH];u_reg (λh r=>ky r h) z;u_op (λh r=>ky r h) z;u_in (λh r=>ky r h) z;refine goes_call rfl rfl (by k_ne) rfl H.f_add (nm_add L) rfl ⟨by u_nil,?_⟩;walk_nrmf addFn;u_c cE (λh r=>ky r h) z;u_cond bB (λh r=>ky r h) z
 iterate 2 u_c cE (λh r=>ky r h) z
 u_reg (λh r=>ky r h) z
 iterate 2 u_op (λh r=>ky r h) z
 u_c bA (λh r=>ky r h) z;u_cond bB (λh r=>ky r h) z;u_reg (λh r=>ky r h) z;u_op (λh r=>ky r h) z;u_conv H.underlying_tWgP H.room_tWg (WgLive.cell0 z).choose_spec (λh r=>ky r h) z;refine Goes.stop (λJ E=>?_);replace z:=E.live z;clear E;refine⟨_,λI=>stepG_markAt _ aC rfl rfl (by k_ne) rfl H.f_relMerge (x_relMerge_n L) (x_relMerge_b L) (x_relMerge_x L) (x_relMerge_f L) (by simp[Act.eval,stA]),10,?_⟩;walk_nrm;u_c bA (λh r=>ky r h) z;u_c cE (λh r=>ky r h) z;u_reg (λh r=>ky r h) z;exact Goes.stop (λJ E=>⟨_,λI=>stepG_mark0 _ aC rfl rfl (by k_ne) rfl H.f_disable (x_disable_n L) (x_disable_b L) (x_disable_x L) (x_disable_f L)⟩)
def aa6(H:WgLib P L){Q:Left}{K:kC}{J:Nat}(E:c.mode=.returning)(R:QuitsD P J 0 (G c cs))(w:X)(I:WgLive L.tWg Wg w)(Y:Has C i v w)(hQ:∀z,(∀b,K.O b->z.heap[b]? =w.heap[b]?)->Q i v K.O z):kY P aR ⟨Wg,C,n,L.tWg,lo⟩ (M i) (tC P ⟨Wg,C,n,L.tWg,lo⟩ Q i) K (G ((baseD L.done).at ⟨#[.pointer (M ⟨Wg,0,none⟩),aH,aH,aH],[]⟩ [.code (body_done L)]) (c::cs)) w:=
 follow (aaj H w I) (doneN H (k:=i+1) E R w ⟨I,Y⟩) λz _ hb=>hQ z hb
end
end
end Cr
