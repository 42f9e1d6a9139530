import Derived.Test.YtpibpdpedjinhaaGreatDoorP03
import Derived.RangeFuncRecord
set_option maxRecDepth 100000
set_option maxHeartbeats 8000000
namespace Go.Proofs.YtpibpdpedjinhaaGreatDoor
namespace Cr
open Go Go.Conc
section
def nK(ops:Array Oper)(i:Nat):Option Tmp:=(ops[i]?).bind (·.dst)
def rank(md:Region.Mode)(ops:Array Oper)(i:Nat):Nat:=(Region.linearise md ops 0).idxOf i
def fills(n:Nat)(ops:Array Oper):Bool:=(List.range ops.size).all λi=>(nK ops i).all (·<n)&&((ops[i]?).all λo=>o.after.toList.all λe=>decide (e.on<ops.size)&&[Region.Mode.text,.gc,.any].all λmd=>!Region.binds md e || decide (rank md ops e.on<rank md ops i))&&(List.range ops.size).all λj=>i == j || (nK ops i).isNone || nK ops i != nK ops j
def waits(ops:Array Oper)(i j:Nat):Bool:=(ops[i]?).any λo=>o.after.toList.any λe=>Region.binds .any e&&e.on == j
theorem kZ{ops:Array Oper}{i:Nat}{o:Oper}(p:Op×Option (Nat×Bool))(z:ops[i]? =some o)(h:(ops[i]?).map (λo=>(o.op,o.guard))=some p):o.op=p.1/\o.guard=p.2:=by
 rw[z]at h;cases h;exact⟨rfl,rfl⟩
theorem Oq{l:Array Bool}{i:Nat}(h:l.getD i true=false):l.getD i false=false/\(l.setIfInBounds i true).getD i false=true:=by
 rw[eU]at h;cases z:l[i]? with
 |none=>rw[z]at h;cases h
 |some x=>
  rw[z]at h;have E:=(jC z)
  exact⟨by rw[eU,z];exact h,by simp[E]⟩
structure Fill(ops:Array Oper)(V:Nat->Value)(a0:Act)(l:Array Bool)(a:Act):Prop where
 size:a.tmps.size=a0.tmps.size
 defers:a.defers=a0.defers
 got:∀i s,nK ops i=some s->l.getD i false=true->a.tmps[s]? =some (V i)
 kept:∀s,(∀i,nK ops i≠some s)->a.tmps[s]? =a0.tmps[s]?
 clo:∀i j,waits ops i j=true->l.getD i false=true->l.getD j false=true
section
variable {ops:Array Oper}{V:Nat->Value}{a0 a:Act}{l:Array Bool}{i s:Nat}{o:Oper}
theorem Fill.ev(h:Fill ops V a0 l a)(hd:nK ops i=some s)(z:l.getD i false=true):a.eval (.tmp s)=V i:=by
 have:=h.got i s hd z;simp[Act.eval,this]
theorem Fill.slot(h:Fill ops V a0 l a)(hs:((List.range ops.size).all λi=>nK ops i != some s)=true):a.tmps[s]? =a0.tmps[s]?:=h.kept s λi z=>by
 have E:i<ops.size:=by
  unfold nK at z;cases h:ops[i]? with
  |none=>rw[h]at z;cases z
  |some o=>exact(jC h)
 have:=eY.1 hs i (gI.2 E);rw[z]at this;simp at this
theorem Fill.old{v:Value}(h:Fill ops V a0 l a)(hs:((List.range ops.size).all λi=>nK ops i != some s)=true)(z:a0.tmps[s]? =some v):a.eval (.tmp s)=v:=by
 have:=(h.slot hs).trans z;simp[Act.eval,this]
theorem Kq{n:Nat}(R:fills n ops=true)(I:ops[i]? =some o):(∀s,o.dst=some s->s<n/\∀j,nK ops j=some s->j=i)/\∀e∈o.after,e.on<ops.size/\∀md,Region.binds md e=true->rank md ops e.on<rank md ops i:=by
 have hi:=(jC I)
 have h:=eY.1 R i (gI.2 hi);simp only[bY]at h;obtain⟨⟨J,h2⟩,h3⟩:=h;have hd:nK ops i=o.dst:=by unfold nK;rw[I];rfl
 rw[I]at h2;refine⟨λs hs=>⟨by rw[hd,hs]at J;simpa using J,λj z=>?_⟩,λe Y=>?_⟩
 ·have E:j<ops.size:=by
   unfold nK at z;cases h:ops[j]? with
   |none=>rw[h]at z;cases z
   |some o=>exact(jC h)
  have:=eY.1 h3 j (gI.2 E);rw[hd,hs,z]at this;simp at this;exact this.symm
 ·simp only[Option.all_some]at h2;have:=eY.1 h2 e (Array.mem_toList_iff.2 Y);simp only[bY,decide_eq_true_eq]at this;refine⟨this.1,λmd hb=>?_⟩;have:=eY.1 this.2 md (by cases md<;>simp);rw[hb]at this;simpa using this
theorem Fill.put{I:Nat->Value}(hf:fills a0.tmps.size ops=true)(ho:ops[i]? =some o)(hV:∀j,l.getD j false=true->I j=V j)(hw:∀j,waits ops i j=true->l.getD j false=true)(h:Fill ops V a0 l a):Fill ops I a0 (l.setIfInBounds i true) (a.put o.dst (I i)):=by
 have hd:nK ops i=o.dst:=by unfold nK;rw[ho];rfl
 have hu:=(Kq hf ho).1;have hl:∀j,j≠i->(l.setIfInBounds i true).getD j false=l.getD j false:=λj z=>getD_set_ne false (Ne.symm z)
 have hm:∀j,l.getD j false=true->(l.setIfInBounds i true).getD j false=true:=λj z=>by
  by_cases e:j=i
  ·subst e;rw[eU]at z;cases hx:l[j]? with
   |none=>rw[hx]at z;cases z
   |some x=>simp[(jC hx)]
  ·rw[hl j e];exact z
 have aa:∀k j,waits ops k j=true->(l.setIfInBounds i true).getD k false=true->(l.setIfInBounds i true).getD j false=true:=λk j Y hk=>hm j (by
  by_cases e:k=i
  ·subst e;exact hw j Y
  ·rw[hl k e]at hk;exact h.clo k j Y hk)
 cases hs:o.dst with
 |none=>
  refine⟨h.size,h.defers,λj s z E=>?_,h.kept,aa⟩;by_cases e:j=i
  ·rw[e,hd,hs]at z;cases z
  ·rw[hl j e]at E;rw[hV j E];exact h.got j s z E
 |some t=>
  obtain⟨ab,ac⟩:=hu t hs
  have J:(a.put (some t) (I i)).tmps[t]? =some (I i):=by
   simp[Act.put,h.size,ab]
  have R:∀s,s≠t->(a.put (some t) (I i)).tmps[s]? =a.tmps[s]?:=λs e=>by simp[Act.put,dS (Ne.symm e)]
  refine⟨by simp[Act.put,h.size],h.defers,λj s z E=>?_,λs hk=>?_,aa⟩
  ·by_cases e:j=i
   ·subst e;rw[hd,hs]at z;cases z;exact J
   ·rw[hl j e]at E;by_cases e2:s=t
    ·subst e2;exact absurd (ac j z) e
    ·rw[R s e2,hV j E];exact h.got j s z E
  ·rw[R s λe=>hk i (by rw[hd,hs,e])];exact h.kept s hk
theorem PZ{md:Region.Mode}{e:Edge}(h:Region.binds .any e=true):Region.binds md e=true:=by
 unfold Region.binds at *;cases z:e.ground<;>simp[z]at h⊢
theorem Dc{σ:Type}(V:σ->Nat->Value)(J:Array Bool->σ->Prop)(Z:List Nat->Act->σ->Prop)(hf:fills a0.tmps.size ops=true)
  (done:∀l a s,(∀i,i<ops.size->l.getD i false=true)->Fill ops (V s) a0 l a->J l s->Z [] a s)
  (more:∀l a s i o rest,ops[i]? =some o->l.getD i true=false->(∀j,waits ops i j=true->l.getD j false=true)->Fill ops (V s) a0 l a->J l s->(∀s',(∀j,l.getD j false=true->V s' j=V s j)->J (l.setIfInBounds i true) s'->Z rest (a.put o.dst (V s' i)) s')->Z (i::rest) a s)
  (m:Bool) (t:Nat) (s:σ) (h:J (Array.replicate ops.size false) s):Z (Region.schedule m ops t) a0 s:=by
 have key:∀md t,Z (Region.linearise.go md ops ops.size t (Array.replicate ops.size false) []) a0 s:=λmd t=>by
  refine ER (σ:=Act×σ) (md:=md) (ops:=ops) (λR l s=>l.size=ops.size/\l.count false=R/\Fill ops (V s.2) a0 l s.1/\J l s.2) (λrest s=>Z rest s.1 s.2) ?_ ?_ ops.size t _ (a0,s) ⟨by simp,by simp,⟨rfl,rfl,λi s' _ hl=>?_,λ_ _=>rfl,λi _ _ hl=>?_⟩,h⟩
  ·rintro l ⟨a,s⟩ ⟨Y,hc,hF,hJ⟩;refine done l a s (λi E=>?_) hF hJ;cases I:l.getD i false with
   |true=>rfl
   |false=>
    have hm:false∈l:=by
     rw[<-Y]at E;simp[E]at I;exact I ▸ Array.getElem_mem E
    have:=Array.count_pos_iff.2 hm;omega
  ·rintro R l ⟨a,s⟩ ⟨Y,hc,hF,hJ⟩;refine⟨λhe=>?_,λi E rest hn=>?_⟩
   ·have hm:false∈l:=Array.count_pos_iff.1 (by omega);obtain⟨i,E,I⟩:=Array.mem_iff_getElem.1 hm
    have key:∀n i,rank md ops i<n->l.getD i true=false->False:=by
     intro n
     induction n with
     |zero=>exact λi E=>absurd E (by omega)
     |succ n ih=>
      intro i E I
      have z:i<ops.size:=by
       rw[<-Y];apply Nat.lt_of_not_le;intro h;simp[Nat.not_lt.2 h]at I
      have:i∈Region.ready md ops l:=mem_ready.2 ⟨I,_,bU z,λe he hb=>by
       have hr:=(Kq hf (bU z)).2 e he;cases aa:l.getD e.on false with
       |true=>rfl
       |false=>
        refine(ih e.on (by have:=hr.2 md hb;omega) ?_).elim;have hl:e.on<l.size:=by rw[Y];exact hr.1
        simp[hl]at aa⊢;exact aa⟩
      rw[‹Region.ready md ops l=[]›]at this;cases this
    exact key _ i (Nat.lt_succ_self _) (by simp[E,I])
   ·obtain⟨I,o,ho,ab⟩:=mem_ready.1 E
    have hw:∀j,waits ops i j=true->l.getD j false=true:=λj hj=>by
     unfold waits at hj;rw[ho]at hj;obtain⟨e,he,hb⟩:=List.any_eq_true.1 hj;simp only[bY,beq_iff_eq]at hb;rw[<-hb.2];exact ab e (Array.mem_toList_iff.1 he) (PZ hb.1)
    refine more l a s i o rest ho I hw hF hJ λs' hV ac=>hn (_,s') ⟨by simp[Y],?_,hF.put hf ho hV hw,ac⟩;have z:i<l.size:=by rw[Y];exact(jC ho)
    have ae:l[i]=false:=by simpa[z]using I
    rw[Array.setIfInBounds,dif_pos z,Array.count_set];simp[ae];omega
  all_goals
   rw[eU,Array.getElem?_replicate]at hl;split at hl<;>simp at hl
 unfold Region.schedule;split
 ·exact key .any t
 ·exact key _ _
end
end
open Go Go.Conc Go.ConcN
open Go.ConcR (Payload DC0)
section
variable {ob o o':Obj}{i B:Nat}
section
variable [Payload]
structure At(S:Who)(K0:jU)(w0:World)(L:List (Nat×Obj))(K:jU)(w:World):Prop where
 sub:∀x,K.W x->K.O x
 low:∀x,K.O x->x<w.heap.size
 pay0:S.C<w0.heap.size
 grp0:S.Wg<w0.heap.size
 size:w0.heap.size<=w.heap.size
 old:∀x,K0.O x->x<w0.heap.size/\K.O x/\w.heap[x]? =w0.heap[x]?
 new:∀x,K.O x->K0.O x\/w0.heap.size<=x
 live:WgLive S.ty S.Wg w0->WgLive S.ty S.Wg w
 pay:PayAt S.C S.n w0->PayAt S.C S.n w
 mem:∀p∈L,w0.heap.size<=p.1/\K.W p.1/\w.heap[p.1]? =some p.2
 ord:L.Pairwise λp q=>q.1≠p.1
structure Lies(L:List (Nat×Obj))(n0:Nat)(w:World):Prop where
 size:n0<=w.heap.size
 mem:∀p∈L,n0<=p.1/\w.heap[p.1]? =some p.2
 ord:L.Pairwise λp q=>q.1≠p.1
def InL(L:List (Nat×Obj))(n z b:Nat):Prop:=(∃p∈L,p.1=b)\/(n<=b/\b<z)
def EvA(L:List (Nat×Obj))(n E:Nat)(e:Event):Prop:=
 (∃a wr,e=⟨.cell a,wr,false⟩/\InL L n E a.block)\/(∃r wr,e=⟨.obj r,wr,false⟩/\InL L n E r)\/(∃wr z,e=⟨.mark .noRoom,wr,z⟩)\/∃f wr z,e=⟨.mark (.extern f),wr,z⟩
structure Turn(L L':List (Nat×Obj))(w w':World)(es:Array Event):Prop where
 tape:w'.tape=w.tape
 os:w'.os=w.os
 output:w'.output=w.output
 size:w.heap.size<=w'.heap.size
 block:∀x,x<w.heap.size->(∀p∈L,p.1≠x)->w'.heap[x]? =w.heap[x]?
 mem:∀p∈L',InL L w.heap.size w'.heap.size p.1/\w'.heap[p.1]? =some p.2
 ord:L'.Pairwise λp q=>q.1≠p.1
 events:∀e∈es,EvA L w.heap.size w'.heap.size e
variable {S:Who}{m:Nat}{K0 K:jU}{w0 w w':World}{L L':List (Nat×Obj)}{es:Array Event}
theorem At.en{z:World}(h:At S K0 w0 L K w)(r:En S (some m) K w z):At S K0 w0 L K z:=
 ⟨h.sub,λx E=>aH (h.low x E) r.size,h.pay0,h.grp0,aW h.size r.size,λx E=>⟨(h.old x E).1,(h.old x E).2.1,(r.block x (h.old x E).2.1).trans (h.old x E).2.2⟩,h.new,r.live∘h.live,r.pay∘h.pay,λp hp=>⟨(h.mem p hp).1,(h.mem p hp).2.1,(r.block _ (h.sub _ (h.mem p hp).2.1)).trans (h.mem p hp).2.2⟩,h.ord⟩
theorem At.lies(h:At S K0 w0 L K w):Lies L w0.heap.size w:=⟨h.size,λp hp=>⟨(h.mem p hp).1,(h.mem p hp).2.2⟩,h.ord⟩
omit [Payload] in
theorem Lies.lt(h:Lies L w0.heap.size w){p:Nat×Obj}(hp:p∈L):p.1<w.heap.size:=(dR.1 (h.mem p hp).2).1
theorem At.aa7(h:At S K0 w0 L K w){x:Nat}(z:x<w0.heap.size):∀p∈L,p.1≠x:=λp hp e=>by have:=(h.mem p hp).1;omega
theorem At.turn(h:At S K0 w0 L K w)(t:Turn L L' w w' es):At S K0 w0 L' (K.grow w.heap.size w'.heap.size) w':=by
 have E:∀x,x<w0.heap.size->w'.heap[x]? =w.heap[x]?:=λx z=>t.block x (aH z h.size) (h.aa7 z);refine⟨λx z=>z.imp (h.sub x) id,λx z=>z.elim (λk=>aH (h.low x k) t.size) (·.2),h.pay0,h.grp0,aW h.size t.size,λx z=>⟨(h.old x z).1,.inl (h.old x z).2.1,(E x (h.old x z).1).trans (h.old x z).2.2⟩,λx z=>z.elim (h.new x) λk=>.inr (aW h.size k.1),λk=>?_,λk=>?_,λp hp=>?_,t.ord⟩
 ·obtain⟨st,sm,R⟩:=h.live k;exact⟨st,sm,R.of_block (E _ h.grp0)⟩
 ·obtain⟨cs,Y,h2⟩:=h.pay k;exact⟨cs,(E _ h.pay0).trans Y,h2⟩
 ·obtain⟨k,I⟩:=t.mem p hp;rcases k with⟨q,J,e⟩|k
  ·rw[<-e];exact⟨(h.mem q J).1,.inl (h.mem q J).2.1,by rw[e];exact I⟩
  ·exact⟨aW h.size k.1,.inr k,I⟩
theorem At.gu(h:At S K0 w0 L K w)(t:Turn L L' w w' es):Gu S (some m) K w w' es:=by
 have J:∀x,x<w0.heap.size->w'.heap[x]? =w.heap[x]?:=λx R=>t.block x (aH R h.size) (h.aa7 R)
 have I:∀{b:Nat},InL L w.heap.size w'.heap.size b->(K.W b\/w.heap.size<=b)/\b<w'.heap.size:=λz=>by
  rcases z with⟨p,hp,rfl⟩|k
  ·exact⟨.inl (h.mem p hp).2.1,aH (h.low _ (h.sub _ (h.mem p hp).2.1)) t.size⟩
  ·exact⟨.inr k.1,k.2⟩
 have E:∀{b:Nat}{wr:Bool},InL L w.heap.size w'.heap.size b->((if wr then K.W b else K.O b)\/w.heap.size<=b)/\b<w'.heap.size:=λ{b wr} z=>by
  refine⟨(I z).1.imp (λk=>?_) id,(I z).2⟩;cases wr
  ·exact h.sub _ k
  ·exact k
 refine⟨t.tape,t.os,t.output,t.size,λb hl hn _=>t.block b hl λp hp e=>hn (e ▸ (h.mem p hp).2.1),λ⟨cs,Y,h2⟩=>⟨cs,(J _ h.pay0).trans Y,h2⟩,λi _=>by simp only[World.cell?,J _ h.pay0],λe he=>.inl ?_⟩;rcases t.events e he with⟨a,wr,rfl,z⟩|⟨r,wr,rfl,z⟩|k|k
 ·exact .inl ⟨a,wr,rfl,E z⟩
 ·exact .inr (.inl ⟨r,wr,rfl,E z⟩)
 ·exact .inr (.inr (.inl k))
 ·exact .inr (.inr (.inr k))
def Wc(P:Program)(S:Who)(m:Nat)(St:jU->Goroutine->World->Prop)(K0:jU)(w0:World)(L:List (Nat×Obj))(g:Goroutine):Prop:=∀K w,At S K0 w0 L K w->kK P false S (some m) St K g w
variable {P:Program}{St:jU->Goroutine->World->Prop}{g g':Goroutine}
theorem Wc.use(h:Wc P S m St K0 w0 L g)(z:At S K0 w0 L K w):kK P false S (some m) St K g w:=h K w z
theorem Wc.step(hs:g.status=.running)(h:∀w,Lies L w0.heap.size w->∃g' w' es L',stepG P false g w=.go g' w' es/\Turn L L' w w' es/\Wc P S m St K0 w0 L' g'):Wc P S m St K0 w0 L g:=λK w I=>.step hs λE z=>by
 obtain⟨g',w',es,L',e,ht,hw⟩:=h E (I.en z).lies;exact⟨g',w',es,e,(I.en z).gu ht,hw _ _ ((I.en z).turn ht)⟩
theorem Wc.go(n:Nat)(h:∀K w,At S K0 w0 L K w->Go.Conc.Goes P false (En S (some m) K) DC0 (λg w=>kK P false S (some m) St K g w) n g w):Wc P S m St K0 w0 L g:=λK w z=>kK.go (h K w z)
theorem Wc.drop(E:L'.Sublist L)(h:Wc P S m St K0 w0 L' g):Wc P S m St K0 w0 L g:=λK w z=>
 h K w ⟨z.sub,z.low,z.pay0,z.grp0,z.size,z.old,z.new,z.live,z.pay,λp hp=>z.mem p (E.subset hp),z.ord.sublist E⟩
omit [Payload] in
theorem Turn.still(h:Lies L w0.heap.size w)(z:∀e∈es,EvA L w.heap.size w.heap.size e):Turn L L w w es:=⟨rfl,rfl,rfl,jA,λ_ _ _=>rfl,λp hp=>⟨.inl ⟨p,hp,rfl⟩,(h.mem p hp).2⟩,h.ord,z⟩
omit [Payload] in
theorem Turn.lay(h:Lies L w0.heap.size w)(hz:w'.heap.size=w.heap.size+1)(z:∀x,x<w.heap.size->w'.heap[x]? =w.heap[x]?)(Y:w'.heap[w.heap.size]? =some ob)(ht:w'.tape=w.tape)(E:w'.os=w.os)(J:w'.output=w.output)(I:∀e∈es,EvA L w.heap.size (w.heap.size+1) e):Turn L ((w.heap.size,ob)::L) w w' es:=by
 refine⟨ht,E,J,by omega,λx R _=>z x R,λp hp=>?_,List.pairwise_cons.2 ⟨λp hp=>iI (h.lt hp),h.ord⟩,by rw[hz];exact I⟩;rcases bV.1 hp with rfl|hp
 ·exact⟨.inr ⟨jA,by simp only;omega⟩,Y⟩
 ·exact⟨.inl ⟨p,hp,rfl⟩,(z _ (h.lt hp)).trans (h.mem p hp).2⟩
omit [Payload] in
theorem Turn.alloc(h:Lies L w0.heap.size w)(o:Obj)(E:∀e∈es,EvA L w.heap.size (w.heap.size+1) e):Turn L ((w.heap.size,o)::L) w (w.alloc o) es:=
 .lay h (by simp) (λx z=>by
  show(w.heap.push o)[x]? =w.heap[x]?
  rw[fH z,bU z]) (World.alloc_heap_new w o) rfl rfl rfl E
omit [Payload] in
theorem Turn.set(h:Lies L w0.heap.size w)(R:L[i]? =some (B,o))(hz:w'.heap.size=w.heap.size)(ho:∀x,x≠B->w'.heap[x]? =w.heap[x]?)(hn:w'.heap[B]? =some o')(ht:w'.tape=w.tape)(aa:w'.os=w.os)(hu:w'.output=w.output)(he:∀e∈es,EvA L w.heap.size w.heap.size e):Turn L (L.set i (B,o')) w w' es:=by
 have E:=(aF.1 R).1;have hB:(B,o)∈L:=aQ R
 have z:(L.set i (B,o')).map Prod.fst=L.map Prod.fst:=by
  rw[List.map_set];apply List.ext_getElem?;intro k;rw[iJ];split
  ·rename_i e;subst e;have:=(aF.1 R).2;simp[E,this]
  ·rfl
 refine⟨ht,aa,hu,by omega,λx _ hn=>ho x λe=>hn _ hB e.symm,λp hp=>?_,?_,by rw[hz];exact he⟩
 ·have hm:p.1∈L.map Prod.fst:=by rw[<-z];exact List.mem_map_of_mem hp
  obtain⟨q,hq,e⟩:=bC.1 hm;refine⟨.inl ⟨q,hq,e⟩,?_⟩;by_cases Y:p.1=B
  ·obtain⟨k,hk⟩:=jv.1 hp;rw[iJ]at hk;split at hk
   ·simp only[aC]at hk;subst hk;exact hn
   ·have ab:k≠i:=λe=>‹¬i=k› e.symm;have I:=(aF.1 hk).1;rcases fQ k i with J|J
    ·have:=ig.1 h.ord k i I E J;rw[(aF.1 hk).2,(aF.1 R).2]at this;exact absurd Y.symm this
    ·have:=ig.1 h.ord i k E I (by omega);rw[(aF.1 hk).2,(aF.1 R).2]at this;exact absurd Y this
  ·rw[ho _ Y];obtain⟨k,hk⟩:=jv.1 hp;rw[iJ]at hk;split at hk
   ·simp only[aC]at hk;subst hk;exact absurd rfl Y
   ·exact(h.mem p (aQ hk)).2
 ·have J:(L.map Prod.fst).Pairwise (λa b=>b≠a):=List.pairwise_map.2 h.ord;rw[<-z]at J;exact List.pairwise_map.1 J
omit [Payload] in
theorem Turn.put(h:Lies L w0.heap.size w)(z:L[i]? =some (B,o))(E:∀e∈es,EvA L w.heap.size w.heap.size e):Turn L (L.set i (B,o')) w (w.putObj B o') es:=
 .set h z (by simp) (λ_ I=>World.putObj_heap_other I) (World.putObj_heap_same (h.lt (aQ z))) rfl rfl rfl E
section
variable {b:Frame}{a:Act}{k:List Item}{cs:List Frame}{ops:Array Oper}{i:Nat}{rest:List Nat}{o:Oper}
theorem Wc.op(I:ops[i]? =some o)(hw:Region.wanted o (yielded ops a.tmps)=true)(hk:b.kind≠.early)
  (h:∀w,Lies L w0.heap.size w->∃v w' L',((execOp a.eval o).run P w=.ok (.value v) w'\/(execOp a.eval o).run P w=.ok .skip w'/\v=undef)/\Turn L L' w w' (listed P b.fn a o w)/\Wc P S m St K0 w0 L' (G (b.at (a.put o.dst v) (.inRegion ops rest::k)) cs)):Wc P S m St K0 w0 L (G (b.at a (.inRegion ops (i::rest)::k)) cs):=
 .step rfl λw J=>by
  obtain⟨v,w',L',z,ht,E⟩:=h w J;rcases z with z|⟨z,rfl⟩
  ·exact⟨_,w',_,L',stepG_value I hw hk z,ht,E⟩
  ·exact⟨_,w',_,L',stepG_none I hw hk z,ht,E⟩
theorem Wc.rd(v:Value)(I:ops[i]? =some o)(hw:Region.wanted o (yielded ops a.tmps)=true)(hk:b.kind≠.early)
  (h:∀w,Lies L w0.heap.size w->(execOp a.eval o).run P w=.ok (.value v) w/\∀e∈(execOp a.eval o).events P w #[],EvA L w.heap.size w.heap.size e) (E:Wc P S m St K0 w0 L (G (b.at (a.put o.dst v) (.inRegion ops rest::k)) cs)):Wc P S m St K0 w0 L (G (b.at a (.inRegion ops (i::rest)::k)) cs):=
 .op I hw hk λw z=>⟨v,w,L,.inl (h w z).1,.still z λe J=>(h w z).2 e (mem_listed J),E⟩
theorem Wc.al(ob:Obj)(v:Nat->Value)(I:ops[i]? =some o)(hw:Region.wanted o (yielded ops a.tmps)=true)(hk:b.kind≠.early)
  (h:∀w,Lies L w0.heap.size w->(execOp a.eval o).run P w=.ok (.value (v w.heap.size)) (w.alloc ob)/\∀e∈(execOp a.eval o).events P w #[],EvA L w.heap.size (w.heap.size+1) e) (E:∀n,Wc P S m St K0 w0 ((n,ob)::L) (G (b.at (a.put o.dst (v n)) (.inRegion ops rest::k)) cs)):Wc P S m St K0 w0 L (G (b.at a (.inRegion ops (i::rest)::k)) cs):=
 .op I hw hk λw z=>⟨_,_,_,.inl (h w z).1,.alloc z ob λe J=>(h w z).2 e (mem_listed J),E _⟩
theorem Wc.st{j:Nat}(z:Obj)(R:L[j]? =some (B,ob))(J:ops[i]? =some o)(hw:Region.wanted o (yielded ops a.tmps)=true)(hk:b.kind≠.early)
  (h:∀w,Lies L w0.heap.size w->(execOp a.eval o).run P w=.ok .skip (w.putObj B z)/\∀e∈(execOp a.eval o).events P w #[],EvA L w.heap.size w.heap.size e) (I:Wc P S m St K0 w0 (L.set j (B,z)) (G (b.at (a.put o.dst undef) (.inRegion ops rest::k)) cs)):Wc P S m St K0 w0 L (G (b.at a (.inRegion ops (i::rest)::k)) cs):=
 .op J hw hk λw E=>⟨_,_,_,.inr ⟨(h w E).1,rfl⟩,.put E R λe Y=>(h w E).2 e (mem_listed Y),I⟩
theorem Wc.fill{aa:Nat}{V:Nat->Value}(hf:fills a.tmps.size ops=true)
  (done:∀l a',(∀i,i<ops.size->l.getD i false=true)->Fill ops V a l a'->Wc P S m St K0 w0 L' (G (b.at a' k) cs))
  (J:Array Bool->List (Nat×Obj)) (R:J (Array.replicate ops.size false)=L) (I:∀l,(∀i,i<ops.size->l.getD i false=true)->J l=L')
  (more:∀l a' i o rest,ops[i]? =some o->l.getD i true=false->(∀j,waits ops i j=true->l.getD j false=true)->Fill ops V a l a'->Wc P S m St K0 w0 (J (l.setIfInBounds i true)) (G (b.at (a'.put o.dst (V i)) (.inRegion ops rest::k)) cs)->Wc P S m St K0 w0 (J l) (G (b.at a' (.inRegion ops (i::rest)::k)) cs)):
  Wc P S m St K0 w0 L (G (b.at a (.code (.region aa ops true)::k)) cs):=by
 refine .step rfl λw E=>⟨_,_,_,L,stepG_region_draw,⟨rfl,rfl,rfl,jA,λ_ _ _=>rfl,λp hp=>⟨.inl ⟨p,hp,rfl⟩,(E.mem p hp).2⟩,E.ord,λe Y=>by simp at Y⟩,?_⟩
 rw[<-R];refine Dc (σ:=Array Bool) (λ_=>V) (λl s=>s=l) (λrest a s=>Wc P S m St K0 w0 (J s) (G (b.at a (.inRegion ops rest::k)) cs)) hf (λl a' s z h2 h3=>?_) (λl a' s i o rest z h2 h3 h4 h5 h6=>?_) _ _ _ rfl
 ·rw[h3,I l z];exact .step rfl λw E=>⟨_,w,#[],L',stepG_region_end,.still E λe Y=>by simp at Y,done l a' z h2⟩
 ·rw[h5];exact more l a' i o rest z h2 h3 h4 (h6 _ (λ_ _=>rfl) rfl)
end
end
end
open Go Go.Conc Go.ConcN Go.RowKit Go.Conc.Lib Go.ConcR.Gen Go.ConcN.Gen
open Go.ConcR (KK wgBlock WgAt stA smA rd wr Payload DC0)
section
variable {v:Value}{c:Frame}{cs:List Frame}
section
variable [Payload]{P:Program}{ty:TypeId}{Wg C n i lo:Nat}
def Gn(P:Program)(ty:TypeId)(Wg C n i:Nat)(g:Goroutine)(w:World):Prop:=
 ∃g',(∀z,stepG P false g z=.go g' z #[Go.ConcR.mk (.releaseMerge (stA Wg))])/\∃m,Go.Conc.Goes P false (RW ty Wg C n 0 i) DC0 (λg _=>∃E,∀z,stepG P false g z=.go E z #[Go.ConcR.mk .disable]) m g' w
theorem LJ:∀{m k:Nat}{g:Goroutine}{w:World},Go.Conc.Goes P false (RW ty Wg C n 0 i) DC0 (λg _=>∃E,∀z,stepG P false g z=.go E z #[Go.ConcR.mk .disable]) m g w->
  Go.Conc.Goes P false (RW ty Wg C n 0 (i+1-1)) (DWs Wg oZ oZ C n (i+1)) (AtR0 P ty Wg C n 0 (i+1) v) k g w->False:=by
 intro m
 have last:∀{k:Nat}{g:Goroutine}{w:World},(∃E,∀z,stepG P false g z=.go E z #[Go.ConcR.mk .disable])->Go.Conc.Goes P false (RW ty Wg C n 0 (i+1-1)) (DWs Wg oZ oZ C n (i+1)) (AtR0 P ty Wg C n 0 (i+1) v) k g w->False:=by
  rintro k g w ⟨E,I⟩ hk;rcases Goes.cases hk with hs|⟨k',rfl,hs⟩
  ·obtain⟨_,_,g',e,_⟩:=hs w (RW.refl w);rw[I w]at e;simp only[GStep.go.injEq]at e;have:=e.2.2;simp[Go.ConcR.mk]at this
  ·obtain⟨g',w',es,e,⟨_,aa⟩,_⟩:=hs w (RW.refl w);rw[I w]at e;simp only[GStep.go.injEq]at e;obtain⟨_,_,rfl⟩:=e;exact(aa (Go.ConcR.mk .disable) (by simp)).2.1 rfl
 induction m with
 |zero=>exact λh hk=>last (h _ (RW.refl _)) hk
 |succ m ih=>
  intro k g w h hk;rcases h with h|⟨_,h⟩
  ·exact last (h _ (RW.refl _)) hk
  ·have J:=h w (RW.refl w);cases Y:stepG P false g w with
   |go g' w' es=>
    rw[Y,goes_go]at J;obtain⟨⟨rfl,rfl⟩,J⟩:=J;rcases Goes.cases hk with hs|⟨k',rfl,hs⟩
    ·obtain⟨_,_,R,e,_⟩:=hs _ (RW.refl _);rw[Y]at e;simp only[GStep.go.injEq]at e;have:=e.2.2;simp at this
    ·obtain⟨R,z,ac,e,_,ab⟩:=hs _ (RW.refl _);rw[Y]at e;simp only[GStep.go.injEq]at e;obtain⟨rfl,rfl,rfl⟩:=e;exact ih J ab
   |_=>rw[Y]at J;exact J.elim
theorem follow{Q:Left}{K:jU}:∀{m k:Nat}{g:Goroutine}{w:World},Go.Conc.Goes P false (RW ty Wg C n 0 i) DC0 (Gn P ty Wg C n i) m g w->
  Go.Conc.Goes P false (RW ty Wg C n 0 (i+1-1)) (DWs Wg oZ oZ C n (i+1)) (AtR0 P ty Wg C n 0 (i+1) v) k g w->(∀z,RW ty Wg C n 0 i w z->(∀b,K.O b->z.heap[b]? =w.heap[b]?)->Q i v K.O z)->
  kK P false ⟨Wg,C,n,ty,lo⟩ (some i) (qO P ⟨Wg,C,n,ty,lo⟩ Q i) K g w:=by
 intro m;have tr:∀a b c,RW ty Wg C n 0 (i+1-1) a b->RW ty Wg C n 0 (i+1-1) b c->RW ty Wg C n 0 (i+1-1) a c:=λ_ _ _ h1 h2=>h1.trans h2
 have last:∀{k:Nat}{g:Goroutine}{w:World},(∀z,RW ty Wg C n 0 i w z->Gn P ty Wg C n i g z)->Go.Conc.Goes P false (RW ty Wg C n 0 (i+1-1)) (DWs Wg oZ oZ C n (i+1)) (AtR0 P ty Wg C n 0 (i+1) v) k g w->
   (∀z,RW ty Wg C n 0 i w z->(∀b,K.O b->z.heap[b]? =w.heap[b]?)->Q i v K.O z)->kK P false ⟨Wg,C,n,ty,lo⟩ (some i) (qO P ⟨Wg,C,n,ty,lo⟩ Q i) K g w:=by
  intro k g w hr hk R;refine kK.stop λz E=>⟨v,?_,R z E.rw E.block⟩
  rcases Goes.cases (hk.rely tr E.rw)with hs|⟨k',rfl,hs⟩
  ·exact hs z (RW.refl z)
  ·exfalso;obtain⟨g',Y,m',hd⟩:=hr z E.rw;obtain⟨ai,ag,es,e,_,I⟩:=hs z (RW.refl z);rw[Y z]at e;simp only[GStep.go.injEq]at e;obtain⟨rfl,rfl,rfl⟩:=e;exact LJ hd I
 induction m with
 |zero=>exact λh hk R=>last h hk R
 |succ m ih=>
  intro k g w h hk R;rcases h with h|⟨ac,h⟩
  ·exact last h hk R
  ·refine kK.step ac λz E=>?_;have J:=h z E.rw;cases hg:stepG P false g z with
   |go g' w' es=>
    rw[hg,goes_go]at J;obtain⟨⟨rfl,rfl⟩,J⟩:=J;refine⟨g',w',#[],rfl,.still ..,?_⟩;rw[kG];rcases Goes.cases (hk.rely tr E.rw)with hs|⟨k',rfl,hs⟩
    ·obtain⟨_,_,ab,e,_⟩:=hs _ (RW.refl _);rw[hg]at e;simp only[GStep.go.injEq]at e;have:=e.2.2;simp at this
    ·obtain⟨ab,ag,ah,e,_,I⟩:=hs _ (RW.refl _);rw[hg]at e;simp only[GStep.go.injEq]at e;obtain⟨rfl,rfl,rfl⟩:=e;exact ih J I λaf aa hb=>R af (E.rw.trans aa) λb ae=>(hb b ae).trans (E.block b ae)
   |_=>rw[hg]at J;exact J.elim
variable {L:WgLink}
theorem WU(H:WgLib P L)(w:World)(z:WgLive L.tWg Wg w):
  Go.Conc.Goes P false (RW L.tWg Wg C n 0 i) DC0 (Gn P L.tWg Wg C n i) 60 (G ((baseD L.done).at ⟨#[.pointer (some ⟨Wg,0,none⟩),undef,undef,undef],[]⟩ [.code (body_done L)]) (c::cs)) w:=by
 lib_facts
 simp only[body_done,doneFn,fB];u_reg (λh r=>RW.live r h) z;u_op (λh r=>RW.live r h) z;u_in (λh r=>RW.live r h) z;refine goes_call rfl rfl (by k_ne) rfl H.f_add (nm_add L) rfl ⟨by u_nil,?_⟩;walk_nrmf addFn;u_c stepG_seq (λh r=>RW.live r h) z;u_cond true (λh r=>RW.live r h) z
 iterate 2 u_c stepG_seq (λh r=>RW.live r h) z
 u_reg (λh r=>RW.live r h) z
 iterate 2 u_op (λh r=>RW.live r h) z
 u_c stepG_region_end (λh r=>RW.live r h) z;u_cond true (λh r=>RW.live r h) z;u_reg (λh r=>RW.live r h) z;u_op (λh r=>RW.live r h) z;u_conv H.underlying_tWgP H.room_tWg (WgLive.cell0 z).choose_spec (λh r=>RW.live r h) z;refine Goes.stop (λJ E=>?_);replace z:=E.live z;clear E;refine⟨_,λI=>stepG_markAt .releaseMerge (by simp) rfl rfl (by k_ne) rfl H.f_relMerge (x_relMerge_n L) (x_relMerge_b L) (x_relMerge_x L) (x_relMerge_f L) (by simp[Act.eval,stA]),10,?_⟩;walk_nrm;u_c stepG_region_end (λh r=>RW.live r h) z;u_c stepG_seq (λh r=>RW.live r h) z;u_reg (λh r=>RW.live r h) z;exact Goes.stop (λJ E=>⟨_,λI=>stepG_mark0 .disable (by simp) rfl rfl (by k_ne) rfl H.f_disable (x_disable_n L) (x_disable_b L) (x_disable_x L) (x_disable_f L)⟩)
theorem XU(H:WgLib P L){Q:Left}{K:jU}{J:Nat}(E:c.mode=.returning)(R:QuitsD P J 0 (G c cs))(w:World)(I:WgLive L.tWg Wg w)(Y:Has C i v w)
  (hQ:∀z,(∀b,K.O b->z.heap[b]? =w.heap[b]?)->Q i v K.O z):
  kK P false ⟨Wg,C,n,L.tWg,lo⟩ (some i) (qO P ⟨Wg,C,n,L.tWg,lo⟩ Q i) K (G ((baseD L.done).at ⟨#[.pointer (some ⟨Wg,0,none⟩),undef,undef,undef],[]⟩ [.code (body_done L)]) (c::cs)) w:=
 follow (WU H w I) (doneN H (k:=i+1) E R w ⟨I,Y⟩) λz _ hb=>hQ z hb
end
end
end Cr
end Go.Proofs.YtpibpdpedjinhaaGreatDoor
