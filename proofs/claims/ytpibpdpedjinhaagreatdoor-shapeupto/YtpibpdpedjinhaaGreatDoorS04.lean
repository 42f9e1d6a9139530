import Derived.Test.YtpibpdpedjinhaaGreatDoorS03
import Derived.RangeFuncRecord
set_option maxRecDepth 100000
set_option maxHeartbeats 8000000
namespace Go.Proofs.YtpibpdpedjinhaaGreatDoor
namespace Cr
open Go Go.Conc
section
def mO (ops:Array Oper) (i:Nat):Option Tmp:=(ops[i]?).bind (·.dst)
def rank (md:Region.Mode) (ops:Array Oper) (i:Nat):Nat:=(Region.linearise md ops 0).idxOf i
def fills (n:Nat) (ops:Array Oper):Bool:=(List.range ops.size).all λi=>(mO ops i).all (· < n)&&((ops[i]?).all λo=>o.after.toList.all λe=>decide (e.on < ops.size)&&[Region.Mode.text,.gc,.any].all λmd=>!Region.binds md e || decide (rank md ops e.on < rank md ops i))&&(List.range ops.size).all λj=>i == j || (mO ops i).isNone || mO ops i != mO ops j
def waits (ops:Array Oper) (i j:Nat):Bool:=(ops[i]?).any λo=>o.after.toList.any λe=>Region.binds .any e&&e.on == j
theorem kL {ops:Array Oper} {i:Nat} {o:Oper} (p:Op×Option (Nat×Bool)) (q:ops[i]? =some o) (h:(ops[i]?).map (λo=>(o.op,o.guard))=some p):o.op=p.1/\o.guard=p.2:=by
 rw [q] at h
 cases h
 exact ⟨rfl,rfl⟩
theorem F6 {l:Array Bool} {i:Nat} (h:l.getD i true=false):l.getD i false=false/\(l.setIfInBounds i true).getD i false=true:=by
 rw [eU] at h
 cases q:l[i]? with
 |none=>rw [q] at h;cases h
 |some x=>
  rw [q] at h
  have z:=(jE q)
  exact ⟨by rw [eU,q];exact h,by simp [z]⟩
structure Fill (ops:Array Oper) (V:Nat->Value) (a0:Act) (l:Array Bool) (a:Act):Prop where
 size:a.tmps.size=a0.tmps.size
 defers:a.defers=a0.defers
 got:∀i s,mO ops i=some s->l.getD i false=true->a.tmps[s]? =some (V i)
 kept:∀s,(∀i,mO ops i≠some s)->a.tmps[s]? =a0.tmps[s]?
 clo:∀i j,waits ops i j=true->l.getD i false=true->l.getD j false=true
section
variable {ops:Array Oper} {V:Nat->Value} {a0 a:Act} {l:Array Bool} {i s:Nat} {o:Oper}
theorem Fill.ev (h:Fill ops V a0 l a) (hd:mO ops i=some s) (q:l.getD i false=true):a.eval (.tmp s)=V i:=by
 have:=h.got i s hd q
 simp [Act.eval,this]
theorem Fill.slot (h:Fill ops V a0 l a) (hs:((List.range ops.size).all λi=>mO ops i != some s)=true):a.tmps[s]? =a0.tmps[s]?:=h.kept s λi q=>by
 have z:i < ops.size:=by
  unfold mO at q
  cases h:ops[i]? with
  |none=>rw [h] at q;cases q
  |some o=>exact (jE h)
 have:=eY.1 hs i (gI.2 z)
 rw [q] at this
 simp at this
theorem Fill.old {v:Value} (h:Fill ops V a0 l a) (hs:((List.range ops.size).all λi=>mO ops i != some s)=true) (q:a0.tmps[s]? =some v):a.eval (.tmp s)=v:=by
 have:=(h.slot hs).trans q
 simp [Act.eval,this]
theorem JR {n:Nat} (J:fills n ops=true) (E:ops[i]? =some o):(∀s,o.dst=some s->s < n/\∀j,mO ops j=some s->j=i)/\∀e∈o.after,e.on < ops.size/\∀md,Region.binds md e=true->rank md ops e.on < rank md ops i:=by
 have hi:=(jE E)
 have h:=eY.1 J i (gI.2 hi)
 simp only [bY] at h
 obtain ⟨⟨I,h2⟩,h3⟩:=h
 have hd:mO ops i=o.dst:=by unfold mO;rw [E];rfl
 rw [E] at h2
 refine ⟨λs hs=>⟨by rw [hd,hs] at I;simpa using I,λj q=>?_⟩,λe R=>?_⟩
 ·have z:j < ops.size:=by
   unfold mO at q
   cases h:ops[j]? with
   |none=>rw [h] at q;cases q
   |some o=>exact (jE h)
  have:=eY.1 h3 j (gI.2 z)
  rw [hd,hs,q] at this
  simp at this
  exact this.symm
 ·simp only [Option.all_some] at h2
  have:=eY.1 h2 e (Array.mem_toList_iff.2 R)
  simp only [bY,decide_eq_true_eq] at this
  refine ⟨this.1,λmd Y=>?_⟩
  have:=eY.1 this.2 md (by cases md<;>simp)
  rw [Y] at this
  simpa using this
theorem Fill.put {E:Nat->Value} (hf:fills a0.tmps.size ops=true) (ho:ops[i]? =some o) (hV:∀j,l.getD j false=true->E j=V j) (hw:∀j,waits ops i j=true->l.getD j false=true) (h:Fill ops V a0 l a):Fill ops E a0 (l.setIfInBounds i true) (a.put o.dst (E i)):=by
 have hd:mO ops i=o.dst:=by unfold mO;rw [ho];rfl
 have hu:=(JR hf ho).1
 have hl:∀j,j≠i->(l.setIfInBounds i true).getD j false=l.getD j false:=λj q=>getD_set_ne false (Ne.symm q)
 have hm:∀j,l.getD j false=true->(l.setIfInBounds i true).getD j false=true:=λj q=>by
  by_cases e:j=i
  ·subst e
   rw [eU] at q
   cases hx:l[j]? with
   |none=>rw [hx] at q;cases q
   |some x=>simp [(jE hx)]
  ·rw [hl j e];exact q
 have Y:∀k j,waits ops k j=true->(l.setIfInBounds i true).getD k false=true->(l.setIfInBounds i true).getD j false=true:=λk j R hk=>hm j (by
  by_cases e:k=i
  ·subst e;exact hw j R
  ·rw [hl k e] at hk;exact h.clo k j R hk)
 cases hs:o.dst with
 |none=>
  refine ⟨h.size,h.defers,λj s q z=>?_,h.kept,Y⟩
  by_cases e:j=i
  ·rw [e,hd,hs] at q;cases q
  ·rw [hl j e] at z;rw [hV j z];exact h.got j s q z
 |some t=>
  obtain ⟨aa,ab⟩:=hu t hs
  have I:(a.put (some t) (E i)).tmps[t]? =some (E i):=by
   simp [Act.put,h.size,aa]
  have J:∀s,s≠t->(a.put (some t) (E i)).tmps[s]? =a.tmps[s]?:=λs e=>by simp [Act.put,dS (Ne.symm e)]
  refine ⟨by simp [Act.put,h.size],h.defers,λj s q z=>?_,λs hk=>?_,Y⟩
  ·by_cases e:j=i
   ·subst e
    rw [hd,hs] at q
    cases q
    exact I
   ·rw [hl j e] at z
    by_cases e2:s=t
    ·subst e2;exact absurd (ab j q) e
    ·rw [J s e2,hV j z];exact h.got j s q z
  ·rw [J s λe=>hk i (by rw [hd,hs,e])]
   exact h.kept s hk
theorem O4 {md:Region.Mode} {e:Edge} (h:Region.binds .any e=true):Region.binds md e=true:=by
 unfold Region.binds at *
 cases q:e.ground<;>simp [q] at h⊢
theorem BP {σ:Type} (V:σ->Nat->Value) (J:Array Bool->σ->Prop) (Z:List Nat->Act->σ->Prop) (hf:fills a0.tmps.size ops=true)
  (done:∀l a s,(∀i,i < ops.size->l.getD i false=true)->Fill ops (V s) a0 l a->J l s->Z [] a s)
  (more:∀l a s i o rest,ops[i]? =some o->l.getD i true=false->(∀j,waits ops i j=true->l.getD j false=true)->Fill ops (V s) a0 l a->J l s->(∀s',(∀j,l.getD j false=true->V s' j=V s j)->J (l.setIfInBounds i true) s'->Z rest (a.put o.dst (V s' i)) s')->Z (i::rest) a s)
  (m:Bool) (t:Nat) (s:σ) (h:J (Array.replicate ops.size false) s):Z (Region.schedule m ops t) a0 s:=by
 have key:∀md t,Z (Region.linearise.go md ops ops.size t (Array.replicate ops.size false) []) a0 s:=λmd t=>by
  refine Ej (σ:=Act×σ) (md:=md) (ops:=ops) (λI l s=>l.size=ops.size/\l.count false=I/\Fill ops (V s.2) a0 l s.1/\J l s.2) (λrest s=>Z rest s.1 s.2) ?_ ?_ ops.size t _ (a0,s) ⟨by simp,by simp,⟨rfl,rfl,λi s' _ Y=>?_,λ_ _=>rfl,λi _ _ Y=>?_⟩,h⟩
  ·rintro l ⟨a,s⟩ ⟨R,hc,hF,hJ⟩
   refine done l a s (λi z=>?_) hF hJ
   cases E:l.getD i false with
   |true=>rfl
   |false=>
    have hm:false∈l:=by
     rw [<-R] at z
     simp [z] at E
     exact E ▸ Array.getElem_mem z
    have:=Array.count_pos_iff.2 hm
    omega
  ·rintro I l ⟨a,s⟩ ⟨R,hc,hF,hJ⟩
   refine ⟨λhe=>?_,λi z rest hn=>?_⟩
   ·have hm:false∈l:=Array.count_pos_iff.1 (by omega)
    obtain ⟨i,z,E⟩:=Array.mem_iff_getElem.1 hm
    have key:∀n i,rank md ops i < n->l.getD i true=false->False:=by
     intro n
     induction n with
     |zero=>exact λi z=>absurd z (by omega)
     |succ n ih=>
      intro i z E
      have q:i < ops.size:=by
       rw [<-R]
       apply Nat.lt_of_not_le
       intro h
       simp [Nat.not_lt.2 h] at E
      have:i∈Region.ready md ops l:=mem_ready.2 ⟨E,_,bU q,λe he hb=>by
       have hr:=(JR hf (bU q)).2 e he
       cases aa:l.getD e.on false with
       |true=>rfl
       |false=>
        refine (ih e.on (by have:=hr.2 md hb;omega) ?_).elim
        have Y:e.on < l.size:=by rw [R];exact hr.1
        simp [Y] at aa⊢
        exact aa⟩
      rw [‹Region.ready md ops l=[]›] at this
      cases this
    exact key _ i (Nat.lt_succ_self _) (by simp [z,E])
   ·obtain ⟨E,o,ho,ab⟩:=mem_ready.1 z
    have hw:∀j,waits ops i j=true->l.getD j false=true:=λj hj=>by
     unfold waits at hj
     rw [ho] at hj
     obtain ⟨e,he,hb⟩:=List.any_eq_true.1 hj
     simp only [bY,beq_iff_eq] at hb
     rw [<-hb.2]
     exact ab e (Array.mem_toList_iff.1 he) (O4 hb.1)
    refine more l a s i o rest ho E hw hF hJ λs' hV ac=>hn (_,s') ⟨by simp [R],?_,hF.put hf ho hV hw,ac⟩
    have q:i < l.size:=by rw [R];exact (jE ho)
    have ae:l[i]=false:=by simpa [q] using E
    rw [Array.setIfInBounds,dif_pos q,Array.count_set]
    simp [ae]
    omega
  all_goals
   rw [eU,Array.getElem?_replicate] at Y
   split at Y<;>simp at Y
 unfold Region.schedule
 split
 ·exact key .any t
 ·exact key _ _
end
end
open Go Go.Conc Go.ConcN
open Go.ConcR (Payload DC0)
section
variable {ob o o':Obj} {i B:Nat}
section
variable [Payload]
structure At (S:Who) (K0:jV) (w0:World) (L:List (Nat×Obj)) (K:jV) (w:World):Prop where
 sub:∀x,K.W x->K.O x
 low:∀x,K.O x->x < w.heap.size
 pay0:S.C < w0.heap.size
 grp0:S.Wg < w0.heap.size
 size:w0.heap.size<=w.heap.size
 old:∀x,K0.O x->x < w0.heap.size/\K.O x/\w.heap[x]? =w0.heap[x]?
 new:∀x,K.O x->K0.O x\/w0.heap.size<=x
 live:WgLive S.ty S.Wg w0->WgLive S.ty S.Wg w
 pay:PayAt S.C S.n w0->PayAt S.C S.n w
 mem:∀p∈L,w0.heap.size<=p.1/\K.W p.1/\w.heap[p.1]? =some p.2
 ord:L.Pairwise λp q=>q.1≠p.1
structure Lies (L:List (Nat×Obj)) (n0:Nat) (w:World):Prop where
 size:n0<=w.heap.size
 mem:∀p∈L,n0<=p.1/\w.heap[p.1]? =some p.2
 ord:L.Pairwise λp q=>q.1≠p.1
def IE (L:List (Nat×Obj)) (n q b:Nat):Prop:=(∃p∈L,p.1=b)\/(n<=b/\b < q)
def EvA (L:List (Nat×Obj)) (n z:Nat) (e:Event):Prop:=
 (∃a wr,e=⟨.cell a,wr,false⟩/\IE L n z a.block)\/(∃r wr,e=⟨.obj r,wr,false⟩/\IE L n z r)\/(∃wr q,e=⟨.mark .noRoom,wr,q⟩)\/∃f wr q,e=⟨.mark (.extern f),wr,q⟩
structure Turn (L L':List (Nat×Obj)) (w w':World) (es:Array Event):Prop where
 tape:w'.tape=w.tape
 os:w'.os=w.os
 output:w'.output=w.output
 size:w.heap.size<=w'.heap.size
 block:∀x,x < w.heap.size->(∀p∈L,p.1≠x)->w'.heap[x]? =w.heap[x]?
 mem:∀p∈L',IE L w.heap.size w'.heap.size p.1/\w'.heap[p.1]? =some p.2
 ord:L'.Pairwise λp q=>q.1≠p.1
 events:∀e∈es,EvA L w.heap.size w'.heap.size e
variable {S:Who} {m:Nat} {K0 K:jV} {w0 w w':World} {L L':List (Nat×Obj)} {es:Array Event}
theorem At.en {q:World} (h:At S K0 w0 L K w) (r:En S (some m) K w q):At S K0 w0 L K q:=
 ⟨h.sub,λx z=>aH (h.low x z) r.size,h.pay0,h.grp0,aW h.size r.size,λx z=>⟨(h.old x z).1,(h.old x z).2.1,(r.block x (h.old x z).2.1).trans (h.old x z).2.2⟩,h.new,r.live∘h.live,r.pay∘h.pay,λp hp=>⟨(h.mem p hp).1,(h.mem p hp).2.1,(r.block _ (h.sub _ (h.mem p hp).2.1)).trans (h.mem p hp).2.2⟩,h.ord⟩
theorem At.lies (h:At S K0 w0 L K w):Lies L w0.heap.size w:=⟨h.size,λp hp=>⟨(h.mem p hp).1,(h.mem p hp).2.2⟩,h.ord⟩
omit [Payload] in
theorem Lies.lt (h:Lies L w0.heap.size w) {p:Nat×Obj} (hp:p∈L):p.1 < w.heap.size:=(dR.1 (h.mem p hp).2).1
theorem At.aaw (h:At S K0 w0 L K w) {x:Nat} (q:x < w0.heap.size):∀p∈L,p.1≠x:=λp hp e=>by have:=(h.mem p hp).1;omega
theorem At.turn (h:At S K0 w0 L K w) (t:Turn L L' w w' es):At S K0 w0 L' (K.grow w.heap.size w'.heap.size) w':=by
 have E:∀x,x < w0.heap.size->w'.heap[x]? =w.heap[x]?:=λx z=>t.block x (aH z h.size) (h.aaw z)
 refine ⟨λx z=>z.imp (h.sub x) id,λx z=>z.elim (λk=>aH (h.low x k) t.size) (·.2),h.pay0,h.grp0,aW h.size t.size,λx z=>⟨(h.old x z).1,.inl (h.old x z).2.1,(E x (h.old x z).1).trans (h.old x z).2.2⟩,λx z=>z.elim (h.new x) λk=>.inr (aW h.size k.1),λk=>?_,λk=>?_,λp hp=>?_,t.ord⟩
 ·obtain ⟨st,sm,R⟩:=h.live k
  exact ⟨st,sm,R.of_block (E _ h.grp0)⟩
 ·obtain ⟨cs,Y,h2⟩:=h.pay k
  exact ⟨cs,(E _ h.pay0).trans Y,h2⟩
 ·obtain ⟨k,I⟩:=t.mem p hp
  rcases k with ⟨q,J,e⟩|k
  ·rw [<-e]
   exact ⟨(h.mem q J).1,.inl (h.mem q J).2.1,by rw [e];exact I⟩
  ·exact ⟨aW h.size k.1,.inr k,I⟩
theorem At.gu (h:At S K0 w0 L K w) (t:Turn L L' w w' es):Gu S (some m) K w w' es:=by
 have I:∀x,x < w0.heap.size->w'.heap[x]? =w.heap[x]?:=λx J=>t.block x (aH J h.size) (h.aaw J)
 have E:∀{b:Nat},IE L w.heap.size w'.heap.size b->(K.W b\/w.heap.size<=b)/\b < w'.heap.size:=λq=>by
  rcases q with ⟨p,hp,rfl⟩|k
  ·exact ⟨.inl (h.mem p hp).2.1,aH (h.low _ (h.sub _ (h.mem p hp).2.1)) t.size⟩
  ·exact ⟨.inr k.1,k.2⟩
 have z:∀{b:Nat} {wr:Bool},IE L w.heap.size w'.heap.size b->((if wr then K.W b else K.O b)\/w.heap.size<=b)/\b < w'.heap.size:=λ{b wr} q=>by
  refine ⟨(E q).1.imp (λk=>?_) id,(E q).2⟩
  cases wr
  ·exact h.sub _ k
  ·exact k
 refine ⟨t.tape,t.os,t.output,t.size,λb Y hn _=>t.block b Y λp hp e=>hn (e ▸ (h.mem p hp).2.1),λ⟨cs,R,h2⟩=>⟨cs,(I _ h.pay0).trans R,h2⟩,λi _=>by simp only [World.cell?,I _ h.pay0],λe he=>.inl ?_⟩
 rcases t.events e he with ⟨a,wr,rfl,q⟩|⟨r,wr,rfl,q⟩|k|k
 ·exact .inl ⟨a,wr,rfl,z q⟩
 ·exact .inr (.inl ⟨r,wr,rfl,z q⟩)
 ·exact .inr (.inr (.inl k))
 ·exact .inr (.inr (.inr k))
def Wc (P:Program) (S:Who) (m:Nat) (St:jV->Goroutine->World->Prop) (K0:jV) (w0:World) (L:List (Nat×Obj)) (g:Goroutine):Prop:=∀K w,At S K0 w0 L K w->kP P false S (some m) St K g w
variable {P:Program} {St:jV->Goroutine->World->Prop} {g g':Goroutine}
theorem Wc.use (h:Wc P S m St K0 w0 L g) (q:At S K0 w0 L K w):kP P false S (some m) St K g w:=h K w q
theorem Wc.step (hs:g.status=.running) (h:∀w,Lies L w0.heap.size w->∃g' w' es L',stepG P false g w=.go g' w' es/\Turn L L' w w' es/\Wc P S m St K0 w0 L' g'):Wc P S m St K0 w0 L g:=λK w E=>.step hs λz q=>by
 obtain ⟨g',w',es,L',e,ht,hw⟩:=h z (E.en q).lies
 exact ⟨g',w',es,e,(E.en q).gu ht,hw _ _ ((E.en q).turn ht)⟩
theorem Wc.go (n:Nat) (h:∀K w,At S K0 w0 L K w->Go.Conc.Goes P false (En S (some m) K) DC0 (λg w=>kP P false S (some m) St K g w) n g w):Wc P S m St K0 w0 L g:=λK w q=>kP.go (h K w q)
theorem Wc.drop (z:L'.Sublist L) (h:Wc P S m St K0 w0 L' g):Wc P S m St K0 w0 L g:=λK w q=>
 h K w ⟨q.sub,q.low,q.pay0,q.grp0,q.size,q.old,q.new,q.live,q.pay,λp hp=>q.mem p (z.subset hp),q.ord.sublist z⟩
omit [Payload] in
theorem Turn.still (h:Lies L w0.heap.size w) (q:∀e∈es,EvA L w.heap.size w.heap.size e):Turn L L w w es:=⟨rfl,rfl,rfl,jC,λ_ _ _=>rfl,λp hp=>⟨.inl ⟨p,hp,rfl⟩,(h.mem p hp).2⟩,h.ord,q⟩
omit [Payload] in
theorem Turn.lay (h:Lies L w0.heap.size w) (Y:w'.heap.size=w.heap.size+1) (q:∀x,x < w.heap.size->w'.heap[x]? =w.heap[x]?) (R:w'.heap[w.heap.size]? =some ob) (ht:w'.tape=w.tape) (z:w'.os=w.os) (I:w'.output=w.output) (E:∀e∈es,EvA L w.heap.size (w.heap.size+1) e):Turn L ((w.heap.size,ob)::L) w w' es:=by
 refine ⟨ht,z,I,by omega,λx J _=>q x J,λp hp=>?_,List.pairwise_cons.2 ⟨λp hp=>iJ (h.lt hp),h.ord⟩,by rw [Y];exact E⟩
 rcases bV.1 hp with rfl|hp
 ·exact ⟨.inr ⟨jC,by simp only;omega⟩,R⟩
 ·exact ⟨.inl ⟨p,hp,rfl⟩,(q _ (h.lt hp)).trans (h.mem p hp).2⟩
omit [Payload] in
theorem Turn.alloc (h:Lies L w0.heap.size w) (o:Obj) (z:∀e∈es,EvA L w.heap.size (w.heap.size+1) e):Turn L ((w.heap.size,o)::L) w (w.alloc o) es:=
 .lay h (by simp) (λx q=>by
  show (w.heap.push o)[x]? =w.heap[x]?
  rw [fH q,bU q]) (World.alloc_heap_new w o) rfl rfl rfl z
omit [Payload] in
theorem Turn.set (h:Lies L w0.heap.size w) (R:L[i]? =some (B,o)) (hz:w'.heap.size=w.heap.size) (ho:∀x,x≠B->w'.heap[x]? =w.heap[x]?) (hn:w'.heap[B]? =some o') (ht:w'.tape=w.tape) (aa:w'.os=w.os) (hu:w'.output=w.output) (he:∀e∈es,EvA L w.heap.size w.heap.size e):Turn L (L.set i (B,o')) w w' es:=by
 have E:=(aF.1 R).1
 have hB:(B,o)∈L:=aQ R
 have z:(L.set i (B,o')).map Prod.fst=L.map Prod.fst:=by
  rw [List.map_set]
  apply List.ext_getElem?
  intro k
  rw [iK]
  split
  ·rename_i e
   subst e
   have:=(aF.1 R).2
   simp [E,this]
  ·rfl
 refine ⟨ht,aa,hu,by omega,λx _ hn=>ho x λe=>hn _ hB e.symm,λp hp=>?_,?_,by rw [hz];exact he⟩
 ·have hm:p.1∈L.map Prod.fst:=by rw [<-z];exact List.mem_map_of_mem hp
  obtain ⟨q,hq,e⟩:=bC.1 hm
  refine ⟨.inl ⟨q,hq,e⟩,?_⟩
  by_cases Y:p.1=B
  ·obtain ⟨k,hk⟩:=jw.1 hp
   rw [iK] at hk
   split at hk
   ·simp only [aC] at hk
    subst hk
    exact hn
   ·have ab:k≠i:=λe=>‹¬i=k› e.symm
    have I:=(aF.1 hk).1
    rcases fQ k i with J|J
    ·have:=XB.1 h.ord k i I E J
     rw [(aF.1 hk).2,(aF.1 R).2] at this
     exact absurd Y.symm this
    ·have:=XB.1 h.ord i k E I (by omega)
     rw [(aF.1 hk).2,(aF.1 R).2] at this
     exact absurd Y this
  ·rw [ho _ Y]
   obtain ⟨k,hk⟩:=jw.1 hp
   rw [iK] at hk
   split at hk
   ·simp only [aC] at hk
    subst hk
    exact absurd rfl Y
   ·exact (h.mem p (aQ hk)).2
 ·have J:(L.map Prod.fst).Pairwise (λa b=>b≠a):=List.pairwise_map.2 h.ord
  rw [<-z] at J
  exact List.pairwise_map.1 J
omit [Payload] in
theorem Turn.put (h:Lies L w0.heap.size w) (q:L[i]? =some (B,o)) (z:∀e∈es,EvA L w.heap.size w.heap.size e):Turn L (L.set i (B,o')) w (w.putObj B o') es:=
 .set h q (by simp) (λ_ E=>World.putObj_heap_other E) (World.putObj_heap_same (h.lt (aQ q))) rfl rfl rfl z
section
variable {b:Frame} {a:Act} {k:List Item} {cs:List Frame} {ops:Array Oper} {i:Nat} {rest:List Nat} {o:Oper}
theorem Wc.op (E:ops[i]? =some o) (hw:Region.wanted o (yielded ops a.tmps)=true) (hk:b.kind≠.early)
  (h:∀w,Lies L w0.heap.size w->∃v w' L',((execOp a.eval o).run P w=.ok (.value v) w'\/(execOp a.eval o).run P w=.ok .skip w'/\v=undef)/\Turn L L' w w' (listed P b.fn a o w)/\Wc P S m St K0 w0 L' (G (b.at (a.put o.dst v) (.inRegion ops rest::k)) cs)):Wc P S m St K0 w0 L (G (b.at a (.inRegion ops (i::rest)::k)) cs):=
 .step rfl λw I=>by
  obtain ⟨v,w',L',q,ht,z⟩:=h w I
  rcases q with q|⟨q,rfl⟩
  ·exact ⟨_,w',_,L',stepG_value E hw hk q,ht,z⟩
  ·exact ⟨_,w',_,L',stepG_none E hw hk q,ht,z⟩
theorem Wc.rd (v:Value) (E:ops[i]? =some o) (hw:Region.wanted o (yielded ops a.tmps)=true) (hk:b.kind≠.early)
  (h:∀w,Lies L w0.heap.size w->(execOp a.eval o).run P w=.ok (.value v) w/\∀e∈(execOp a.eval o).events P w #[],EvA L w.heap.size w.heap.size e) (z:Wc P S m St K0 w0 L (G (b.at (a.put o.dst v) (.inRegion ops rest::k)) cs)):Wc P S m St K0 w0 L (G (b.at a (.inRegion ops (i::rest)::k)) cs):=
 .op E hw hk λw q=>⟨v,w,L,.inl (h w q).1,.still q λe I=>(h w q).2 e (mem_listed I),z⟩
theorem Wc.al (ob:Obj) (v:Nat->Value) (E:ops[i]? =some o) (hw:Region.wanted o (yielded ops a.tmps)=true) (hk:b.kind≠.early)
  (h:∀w,Lies L w0.heap.size w->(execOp a.eval o).run P w=.ok (.value (v w.heap.size)) (w.alloc ob)/\∀e∈(execOp a.eval o).events P w #[],EvA L w.heap.size (w.heap.size+1) e) (z:∀n,Wc P S m St K0 w0 ((n,ob)::L) (G (b.at (a.put o.dst (v n)) (.inRegion ops rest::k)) cs)):Wc P S m St K0 w0 L (G (b.at a (.inRegion ops (i::rest)::k)) cs):=
 .op E hw hk λw q=>⟨_,_,_,.inl (h w q).1,.alloc q ob λe I=>(h w q).2 e (mem_listed I),z _⟩
theorem Wc.st {j:Nat} (q:Obj) (J:L[j]? =some (B,ob)) (I:ops[i]? =some o) (hw:Region.wanted o (yielded ops a.tmps)=true) (hk:b.kind≠.early)
  (h:∀w,Lies L w0.heap.size w->(execOp a.eval o).run P w=.ok .skip (w.putObj B q)/\∀e∈(execOp a.eval o).events P w #[],EvA L w.heap.size w.heap.size e) (E:Wc P S m St K0 w0 (L.set j (B,q)) (G (b.at (a.put o.dst undef) (.inRegion ops rest::k)) cs)):Wc P S m St K0 w0 L (G (b.at a (.inRegion ops (i::rest)::k)) cs):=
 .op I hw hk λw z=>⟨_,_,_,.inr ⟨(h w z).1,rfl⟩,.put z J λe R=>(h w z).2 e (mem_listed R),E⟩
theorem Wc.fill {Y:Nat} {V:Nat->Value} (hf:fills a.tmps.size ops=true)
  (done:∀l a',(∀i,i < ops.size->l.getD i false=true)->Fill ops V a l a'->Wc P S m St K0 w0 L' (G (b.at a' k) cs))
  (J:Array Bool->List (Nat×Obj)) (I:J (Array.replicate ops.size false)=L) (E:∀l,(∀i,i < ops.size->l.getD i false=true)->J l=L')
  (more:∀l a' i o rest,ops[i]? =some o->l.getD i true=false->(∀j,waits ops i j=true->l.getD j false=true)->Fill ops V a l a'->Wc P S m St K0 w0 (J (l.setIfInBounds i true)) (G (b.at (a'.put o.dst (V i)) (.inRegion ops rest::k)) cs)->Wc P S m St K0 w0 (J l) (G (b.at a' (.inRegion ops (i::rest)::k)) cs)):
  Wc P S m St K0 w0 L (G (b.at a (.code (.region Y ops true)::k)) cs):=by
 refine .step rfl λw z=>⟨_,_,_,L,stepG_region_draw,⟨rfl,rfl,rfl,jC,λ_ _ _=>rfl,λp hp=>⟨.inl ⟨p,hp,rfl⟩,(z.mem p hp).2⟩,z.ord,λe R=>by simp at R⟩,?_⟩
 rw [<-I]
 refine BP (σ:=Array Bool) (λ_=>V) (λl s=>s=l) (λrest a s=>Wc P S m St K0 w0 (J s) (G (b.at a (.inRegion ops rest::k)) cs)) hf (λl a' s q h2 h3=>?_) (λl a' s i o rest q h2 h3 h4 h5 h6=>?_) _ _ _ rfl
 ·rw [h3,E l q]
  exact .step rfl λw z=>⟨_,w,#[],L',stepG_region_end,.still z λe R=>by simp at R,done l a' q h2⟩
 ·rw [h5]
  exact more l a' i o rest q h2 h3 h4 (h6 _ (λ_ _=>rfl) rfl)
end
end
end
open Go Go.Conc Go.ConcN Go.RowKit Go.Conc.Lib Go.ConcR.Gen Go.ConcN.Gen
open Go.ConcR (KK wgBlock WgAt stA smA rd wr Payload DC0)
section
variable {v:Value} {c:Frame} {cs:List Frame}
section
variable [Payload] {P:Program} {ty:TypeId} {Wg C n i lo:Nat}
def FU (P:Program) (ty:TypeId) (Wg C n i:Nat) (g:Goroutine) (w:World):Prop:=
 ∃g',(∀q,stepG P false g q=.go g' q #[Go.ConcR.mk (.releaseMerge (stA Wg))])/\∃m,Go.Conc.Goes P false (RW ty Wg C n 0 i) DC0 (λg _=>∃z,∀q,stepG P false g q=.go z q #[Go.ConcR.mk .disable]) m g' w
theorem La:∀{m k:Nat} {g:Goroutine} {w:World},Go.Conc.Goes P false (RW ty Wg C n 0 i) DC0 (λg _=>∃z,∀q,stepG P false g q=.go z q #[Go.ConcR.mk .disable]) m g w->
  Go.Conc.Goes P false (RW ty Wg C n 0 (i+1 - 1)) (DWs Wg oH oH C n (i+1)) (AtR0 P ty Wg C n 0 (i+1) v) k g w->False:=by
 intro m
 have last:∀{k:Nat} {g:Goroutine} {w:World},(∃z,∀q,stepG P false g q=.go z q #[Go.ConcR.mk .disable])->Go.Conc.Goes P false (RW ty Wg C n 0 (i+1 - 1)) (DWs Wg oH oH C n (i+1)) (AtR0 P ty Wg C n 0 (i+1) v) k g w->False:=by
  rintro k g w ⟨z,E⟩ hk
  rcases Goes.cases hk with hs|⟨k',rfl,hs⟩
  ·obtain ⟨_,_,g',e,_⟩:=hs w (RW.refl w)
   rw [E w] at e
   simp only [GStep.go.injEq] at e
   have:=e.2.2
   simp [Go.ConcR.mk] at this
  ·obtain ⟨g',w',es,e,⟨_,Y⟩,_⟩:=hs w (RW.refl w)
   rw [E w] at e
   simp only [GStep.go.injEq] at e
   obtain ⟨_,_,rfl⟩:=e
   exact (Y (Go.ConcR.mk .disable) (by simp)).2.1 rfl
 induction m with
 |zero=>exact λh hk=>last (h _ (RW.refl _)) hk
 |succ m ih=>
  intro k g w h hk
  rcases h with h|⟨_,h⟩
  ·exact last (h _ (RW.refl _)) hk
  ·have I:=h w (RW.refl w)
   cases R:stepG P false g w with
   |go g' w' es=>
    rw [R,goes_go] at I
    obtain ⟨⟨rfl,rfl⟩,I⟩:=I
    rcases Goes.cases hk with hs|⟨k',rfl,hs⟩
    ·obtain ⟨_,_,J,e,_⟩:=hs _ (RW.refl _)
     rw [R] at e
     simp only [GStep.go.injEq] at e
     have:=e.2.2
     simp at this
    ·obtain ⟨J,q,ab,e,_,aa⟩:=hs _ (RW.refl _)
     rw [R] at e
     simp only [GStep.go.injEq] at e
     obtain ⟨rfl,rfl,rfl⟩:=e
     exact ih I aa
   |_=>rw [R] at I;exact I.elim
theorem follow {Q:Left} {K:jV}:∀{m k:Nat} {g:Goroutine} {w:World},Go.Conc.Goes P false (RW ty Wg C n 0 i) DC0 (FU P ty Wg C n i) m g w->
  Go.Conc.Goes P false (RW ty Wg C n 0 (i+1 - 1)) (DWs Wg oH oH C n (i+1)) (AtR0 P ty Wg C n 0 (i+1) v) k g w->(∀q,RW ty Wg C n 0 i w q->(∀b,K.O b->q.heap[b]? =w.heap[b]?)->Q i v K.O q)->
  kP P false ⟨Wg,C,n,ty,lo⟩ (some i) (qB P ⟨Wg,C,n,ty,lo⟩ Q i) K g w:=by
 intro m
 have tr:∀a b c,RW ty Wg C n 0 (i+1 - 1) a b->RW ty Wg C n 0 (i+1 - 1) b c->RW ty Wg C n 0 (i+1 - 1) a c:=λ_ _ _ h1 h2=>h1.trans h2
 have last:∀{k:Nat} {g:Goroutine} {w:World},(∀q,RW ty Wg C n 0 i w q->FU P ty Wg C n i g q)->Go.Conc.Goes P false (RW ty Wg C n 0 (i+1 - 1)) (DWs Wg oH oH C n (i+1)) (AtR0 P ty Wg C n 0 (i+1) v) k g w->
   (∀q,RW ty Wg C n 0 i w q->(∀b,K.O b->q.heap[b]? =w.heap[b]?)->Q i v K.O q)->kP P false ⟨Wg,C,n,ty,lo⟩ (some i) (qB P ⟨Wg,C,n,ty,lo⟩ Q i) K g w:=by
  intro k g w hr hk J
  refine kP.stop λq z=>⟨v,?_,J q z.rw z.block⟩
  rcases Goes.cases (hk.rely tr z.rw) with hs|⟨k',rfl,hs⟩
  ·exact hs q (RW.refl q)
  ·exfalso
   obtain ⟨g',R,m',hd⟩:=hr q z.rw
   obtain ⟨ah,af,es,e,_,E⟩:=hs q (RW.refl q)
   rw [R q] at e
   simp only [GStep.go.injEq] at e
   obtain ⟨rfl,rfl,rfl⟩:=e
   exact La hd E
 induction m with
 |zero=>exact λh hk J=>last h hk J
 |succ m ih=>
  intro k g w h hk J
  rcases h with h|⟨ab,h⟩
  ·exact last h hk J
  ·refine kP.step ab λq z=>?_
   have I:=h q z.rw
   cases hg:stepG P false g q with
   |go g' w' es=>
    rw [hg,goes_go] at I
    obtain ⟨⟨rfl,rfl⟩,I⟩:=I
    refine ⟨g',w',#[],rfl,.still ..,?_⟩
    rw [kH]
    rcases Goes.cases (hk.rely tr z.rw) with hs|⟨k',rfl,hs⟩
    ·obtain ⟨_,_,aa,e,_⟩:=hs _ (RW.refl _)
     rw [hg] at e
     simp only [GStep.go.injEq] at e
     have:=e.2.2
     simp at this
    ·obtain ⟨aa,af,ag,e,_,E⟩:=hs _ (RW.refl _)
     rw [hg] at e
     simp only [GStep.go.injEq] at e
     obtain ⟨rfl,rfl,rfl⟩:=e
     exact ih I E λae Y hb=>J ae (z.rw.trans Y) λb ac=>(hb b ac).trans (z.block b ac)
   |_=>rw [hg] at I;exact I.elim
variable {L:WgLink}
theorem acp (H:WgLib P L) (w:World) (q:WgLive L.tWg Wg w):
  Go.Conc.Goes P false (RW L.tWg Wg C n 0 i) DC0 (FU P L.tWg Wg C n i) 60 (G ((baseD L.done).at ⟨#[.pointer (some ⟨Wg,0,none⟩),undef,undef,undef],[]⟩ [.code (body_done L)]) (c::cs)) w:=by
 lib_facts
 simp only [body_done,doneFn,fB]
 u_reg (λh r=>RW.live r h) q
 u_op (λh r=>RW.live r h) q
 u_in (λh r=>RW.live r h) q
 refine goes_call rfl rfl (by k_ne) rfl H.f_add (nm_add L) rfl ⟨by u_nil,?_⟩
 walk_nrmf addFn
 u_c stepG_seq (λh r=>RW.live r h) q
 u_cond true (λh r=>RW.live r h) q
 iterate 2 u_c stepG_seq (λh r=>RW.live r h) q
 u_reg (λh r=>RW.live r h) q
 iterate 2 u_op (λh r=>RW.live r h) q
 u_c stepG_region_end (λh r=>RW.live r h) q
 u_cond true (λh r=>RW.live r h) q
 u_reg (λh r=>RW.live r h) q
 u_op (λh r=>RW.live r h) q
 u_conv H.underlying_tWgP H.room_tWg (WgLive.cell0 q).choose_spec (λh r=>RW.live r h) q
 refine Goes.stop (λI z=>?_)
 replace q:=z.live q
 clear z
 refine ⟨_,λE=>stepG_markAt .releaseMerge (by simp) rfl rfl (by k_ne) rfl H.f_relMerge (x_relMerge_n L) (x_relMerge_b L) (x_relMerge_x L) (x_relMerge_f L) (by simp [Act.eval,stA]),10,?_⟩
 walk_nrm
 u_c stepG_region_end (λh r=>RW.live r h) q
 u_c stepG_seq (λh r=>RW.live r h) q
 u_reg (λh r=>RW.live r h) q
 exact Goes.stop (λI z=>⟨_,λE=>stepG_mark0 .disable (by simp) rfl rfl (by k_ne) rfl H.f_disable (x_disable_n L) (x_disable_b L) (x_disable_x L) (x_disable_f L)⟩)
theorem Xh (H:WgLib P L) {Q:Left} {K:jV} {I:Nat} (z:c.mode=.returning) (J:QuitsD P I 0 (G c cs)) (w:World) (E:WgLive L.tWg Wg w) (R:Has C i v w)
  (hQ:∀q,(∀b,K.O b->q.heap[b]? =w.heap[b]?)->Q i v K.O q):
  kP P false ⟨Wg,C,n,L.tWg,lo⟩ (some i) (qB P ⟨Wg,C,n,L.tWg,lo⟩ Q i) K (G ((baseD L.done).at ⟨#[.pointer (some ⟨Wg,0,none⟩),undef,undef,undef],[]⟩ [.code (body_done L)]) (c::cs)) w:=
 follow (acp H w E) (doneN H (k:=i+1) z J w ⟨E,R⟩) λq _ Y=>hQ q Y
end
end
end Cr
end Go.Proofs.YtpibpdpedjinhaaGreatDoor
