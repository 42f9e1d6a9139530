import Derived.Test.YtpibpdpedjinhaaGreatDoorP03
import Derived.Conc.CompanyDraw
set_option maxRecDepth 100000
set_option linter.all false
open Bool renaming false->aL,true->bB
open Go renaming Goroutine->bO,Oper->lR,Value->aD,World->U
open Go.Region renaming ready->fI,schedule->ov,wanted->cT
open Go.Region.linearise renaming go->mn
open List renaming range->gE
open Option renaming none->Z,some->M
namespace Go.Proofs.YtpibpdpedjinhaaGreatDoor
namespace Cr
open Go Go.Conc Go.ConcN
open Go.ConcR (KK wgBlock WgAt stA smA rd wr Payload DC0)
section
variable {es:Array Event}{v:aD}
section
variable [Payload]{P:Program}{main:Bool}{S:Who}{me:Option Nat}{K:jZ}{St St':jZ->bO->U->Prop}{g:bO}{w w':U}
def kV(P:Program)(main:Bool)(S:Who)(me:Option Nat)(St:jZ->bO->U->Prop)(K:jZ)(g:bO)(w:U):Prop:=∃T,jQ P main S me St T K g w
theorem kV.go{n:Nat}(h:Go.Conc.Goes P main (En S me K) DC0 (λg w=>kV P main S me St K g w) n g w):kV P main S me St K g w:=by obtain⟨T,q⟩:=jQ.Rk (λ_ _ x=>x) h;exact q.bind λE g w ⟨e,hw⟩=>by rw[e];exact hw
theorem kV.stop(h:∀q,En S me K w q->St K g q):kV P main S me St K g w:=jQ.stop h
theorem kV.step(hs:g.status=.running)(h:∀q,En S me K w q->∃g' w' es,stepG P main g q=.go g' w' es/\Gu S me K q w' es/\kV P main S me St (K.grow q.heap.size w'.heap.size) g' w'):kV P main S me St K g w:=jQ.one hs h
theorem Way.m(h:kV P bB S Z St K g w):Way P S St K g w:=h
section
variable {b:Frame}{a:Act}{k:List Item}{cs:List Frame}{ops:Array lR}{i:Nat}{rest:List Nat}{o:lR}
theorem kV.op(ho:ops[i]? =M o)(hw:cT o (yielded ops a.tmps)=bB)(hk:b.kind≠.early)(h:∀q,En S me K w q->∃v w',(execOp a.eval o).run P q=.ok (.value v) w'/\Gu S me K q w' (listed P b.fn a o q)/\kV P main S me St (K.grow q.heap.size w'.heap.size) (G (b.at (a.put o.dst v) (.inRegion ops rest::k)) cs) w'):kV P main S me St K (G (b.at a (.inRegion ops (i::rest)::k)) cs) w:=
 .step rfl λq E=>let ⟨_,w',hr,hg,hW⟩:=h q E;⟨_,w',_,stepG_value ho hw hk hr,hg,hW⟩
theorem kV.opn(ho:ops[i]? =M o)(hw:cT o (yielded ops a.tmps)=bB)(hk:b.kind≠.early)(h:∀q,En S me K w q->∃w',(execOp a.eval o).run P q=.ok .skip w'/\Gu S me K q w' (listed P b.fn a o q)/\kV P main S me St (K.grow q.heap.size w'.heap.size) (G (b.at (a.put o.dst undef) (.inRegion ops rest::k)) cs) w'):kV P main S me St K (G (b.at a (.inRegion ops (i::rest)::k)) cs) w:=
 .step rfl λq E=>let ⟨w',hr,hg,hW⟩:=h q E;⟨_,w',_,stepG_none ho hw hk hr,hg,hW⟩
theorem kV.draw{I:Nat}(h:∀q,En S me K w q->∀t,kV P main S me St K (G (b.at a (.inRegion ops (ov (P.follows .mixedOrders) ops t)::k)) cs) { q with drawn:=q.drawn+1 }):kV P main S me St K (G (b.at a (.code (.region I ops bB)::k)) cs) w:=
 .step rfl λq E=>⟨_,_,_,stepG_region_draw,⟨rfl,rfl,rfl,jE,λ_ _ _ _=>rfl,id,λ_ _=>rfl,λe J=>by simp at J⟩,by
  rw[show K.grow q.heap.size ({ q with drawn:=q.drawn+1 }:U).heap.size=K from kP ..];exact h q E _⟩
end
theorem tq(h:∀e∈es,∃a:Addr,e=⟨.cell a,aL,aL⟩/\K.O a.block/\a.block<w.heap.size):Gu S me K w w es:=
 ⟨rfl,rfl,rfl,jE,λ_ _ _ _=>rfl,id,λ_ _=>rfl,λe q=>by
  obtain⟨a,rfl,E,h2⟩:=h e q;exact .inl (.inl ⟨a,aL,rfl,.inl (by simpa using E),h2⟩)⟩
theorem Me(hC:S.C<w.heap.size)(o:Obj):Gu S me K w (w.alloc o) #[]:=by
 have q:∀b,b<w.heap.size->(w.alloc o).heap[b]? =w.heap[b]?:=λb q=>by
  show(w.heap.push o)[b]? =w.heap[b]?
  grind
 exact⟨rfl,rfl,rfl,aC,λb h _ _=>q b h,λ⟨cs,I,h2⟩=>⟨cs,(q _ hC).trans I,h2⟩,λi _=>by simp only[World.cell?,q _ hC],λe E=>by simp at E⟩
omit [Payload] in
theorem kL{ad:Addr}{b:Nat}(h:b≠ad.block):(w.setCell ad v).heap[b]? =w.heap[b]?:=(aside_setCell w ad v).block b h
omit [Payload] in
theorem ku(w:U)(ad:Addr)(v:aD):(w.setCell ad v).tape=w.tape/\(w.setCell ad v).os=w.os/\(w.setCell ad v).output=w.output/\(w.setCell ad v).heap.size=w.heap.size:=
 have h:=aside_setCell w ad v;⟨h.tape,h.os,h.output,h.size⟩
theorem WV{ad:Addr}(q:K.W ad.block)(I:ad.block<w.heap.size)(hC:ad.block≠S.C)(h:∀e∈es,e=⟨.cell ad,bB,aL⟩):Gu S me K w (w.setCell ad v) es:=by obtain⟨Y,h2,h3,h4⟩:=ku w ad v;have E:=kL (w:=w) (ad:=ad) (v:=v) (b:=S.C) (Ne.symm hC);refine⟨Y,h2,h3,jw h4.symm,λb _ hn _=>kL λe=>hn (e ▸ q),λ⟨cs,a,b⟩=>⟨cs,E.trans a,b⟩,λi _=>by simp only[World.cell?,E],λe J=>?_⟩;rw[h e J];exact .inl (.inl ⟨ad,bB,rfl,.inl (by simpa using q),by rw[h4];exact I⟩)
theorem adf{i:Nat}(hp:PayAt S.C S.n w)(h:∀e∈es,e=⟨.cell ⟨S.C,i,Z⟩,bB,aL⟩):Gu S (M i) K w (w.setCell ⟨S.C,i,Z⟩ v) es:=by
 obtain⟨Y,h2,h3,h4⟩:=ku w ⟨S.C,i,Z⟩ v;obtain⟨cs,q,hn⟩:=hp
 have hw:(w.setCell ⟨S.C,i,Z⟩ v).heap[S.C]? =M (.cells (cs.setIfInBounds i v) Payload.ety):=by
  have J:=(jG q)
  simp[World.setCell,bT,q]
 refine⟨Y,h2,h3,jw h4.symm,λb _ _ hc=>kL λe=>?_,λ_=>⟨_,hw,by simpa using hn⟩,λi' I=>?_,λe he=>?_⟩
 .grind
 .have E:i≠i':=λe=>I (by rw[e]);simp[World.cell?,hw,q,dZ E]
 .rw[h e he];exact .inr (.inl ⟨i,bB,rfl,rfl⟩)
end
theorem Iw{σ:Type}{md:Region.Mode}{ops:Array lR}(I:Nat->Array Bool->σ->Prop)(XX:List Nat->σ->Prop)(done:∀listed s,I 0 listed s->XX [] s)(more:∀q listed s,I (q+1) listed s->fI md ops listed≠[]/\∀i∈fI md ops listed,∀rest,(∀s',I q (listed.setIfInBounds i bB) s'->XX rest s')->XX (i::rest) s):∀(q t:Nat)(listed:Array Bool)(s:σ),I q listed s->XX (mn md ops q t listed []) s:=by
 intro q
 induction q with
 |zero=>intro t listed s h;exact done listed s h
 |succ q ih=>
  intro t listed s h;obtain⟨Y,aa⟩:=more q listed s h;simp only[mn]
  show XX (match (fI md ops listed)[t%(fI md ops listed).length]? with
   |some i=>mn md ops q (t/(fI md ops listed).length) (listed.setIfInBounds i bB) [i]
   |none=>[]) s
  have E:=List.length_pos_iff.2 Y;have J:=Nat.mod_lt t E;rw[aO J];simp only;rw[linearise_go_acc,List.reverse_singleton,List.singleton_append]
  grind
end
open Go Go.Conc
section
def ou(ops:Array lR)(i:Nat):Option Tmp:=(ops[i]?).bind (·.dst)
def rank(md:Region.Mode)(ops:Array lR)(i:Nat):Nat:=(Region.linearise md ops 0).idxOf i
def fills(n:Nat)(ops:Array lR):Bool:=(gE ops.size).all λi=>(ou ops i).all (·<n)&&((ops[i]?).all λo=>o.after.toList.all λe=>decide (e.on<ops.size)&&[Region.Mode.text,.gc,.any].all λmd=>!Region.binds md e || decide (rank md ops e.on<rank md ops i))&&(gE ops.size).all λj=>i == j || (ou ops i).isNone || ou ops i != ou ops j
def waits(ops:Array lR)(i j:Nat):Bool:=(ops[i]?).any λo=>o.after.toList.any λe=>Region.binds .any e&&e.on == j
def lK{ops:Array lR}{i:Nat}{o:lR}(p:Op×Option (Nat×Bool))(ho:ops[i]? =M o)(h:(ops[i]?).map (λo=>(o.op,o.guard))=M p):o.op=p.1/\o.guard=p.2:=by grind
def RV{l:Array Bool}{i:Nat}(h:l.getD i bB=aL):l.getD i aL=aL/\(l.setIfInBounds i bB).getD i aL=bB:=by
 rw[fD]at h;cases q:l[i]? with
 |none=>rw[q]at h;cases h
 |some x=>
  rw[q]at h;have E:=(jG q)
  exact⟨by rw[fD,q];exact h,by simp[E]⟩
structure Fill(ops:Array lR)(V:Nat->aD)(a0:Act)(l:Array Bool)(a:Act):Prop where
 size:a.tmps.size=a0.tmps.size
 defers:a.defers=a0.defers
 got:∀i s,ou ops i=M s->l.getD i aL=bB->a.tmps[s]? =M (V i)
 kept:∀s,(∀i,ou ops i≠M s)->a.tmps[s]? =a0.tmps[s]?
 clo:∀i j,waits ops i j=bB->l.getD i aL=bB->l.getD j aL=bB
section
variable {ops:Array lR}{V:Nat->aD}{a0 a:Act}{l:Array Bool}{i s:Nat}{o:lR}
theorem Fill.ev(h:Fill ops V a0 l a)(hd:ou ops i=M s)(q:l.getD i aL=bB):a.eval (.tmp s)=V i:=by have:=h.got i s hd q;simp[Act.eval,this]
theorem Fill.slot(h:Fill ops V a0 l a)(hs:((gE ops.size).all λi=>ou ops i != M s)=bB):a.tmps[s]? =a0.tmps[s]?:=h.kept s λi q=>by
 have E:i<ops.size:=by
  unfold ou at q;cases h:ops[i]? with
  |none=>rw[h]at q;cases q
  |some o=>grind
 grind
theorem Fill.old{v:aD}(h:Fill ops V a0 l a)(hs:((gE ops.size).all λi=>ou ops i != M s)=bB)(q:a0.tmps[s]? =M v):a.eval (.tmp s)=v:=by have:=(h.slot hs).trans q;simp[Act.eval,this]
theorem Ot{n:Nat}(E:fills n ops=bB)(ho:ops[i]? =M o):(∀s,o.dst=M s->s<n/\∀j,ou ops j=M s->j=i)/\∀e∈o.after,e.on<ops.size/\∀md,Region.binds md e=bB->rank md ops e.on<rank md ops i:=by
 have Y:=(jG ho)
 have h:=fF.1 E i (gV.2 Y);simp only[dF]at h;obtain⟨⟨h1,h2⟩,h3⟩:=h;have hd:ou ops i=o.dst:=by unfold ou;rw[ho];rfl
 rw[ho]at h2;refine⟨λs hs=>⟨by grind,λj q=>?_⟩,λe J=>?_⟩
 .have I:j<ops.size:=by
   unfold ou at q;cases h:ops[j]? with
   |none=>rw[h]at q;cases q
   |some o=>grind
  grind
 .simp only[Option.all_some]at h2;have:=fF.1 h2 e (Array.mem_toList_iff.2 J);simp only[dF,Z3]at this;refine⟨this.1,λmd hb=>?_⟩;have:=fF.1 this.2 md (by cases md<;>simp)
  grind
theorem Fill.put{I:Nat->aD}(hf:fills a0.tmps.size ops=bB)(ho:ops[i]? =M o)(hV:∀j,l.getD j aL=bB->I j=V j)(hw:∀j,waits ops i j=bB->l.getD j aL=bB)(h:Fill ops V a0 l a):Fill ops I a0 (l.setIfInBounds i bB) (a.put o.dst (I i)):=by
 have hd:ou ops i=o.dst:=by unfold ou;rw[ho];rfl
 have hu:=(Ot hf ho).1;have hl:∀j,j≠i->(l.setIfInBounds i bB).getD j aL=l.getD j aL:=λj E=>getD_set_ne aL (Ne.symm E)
 have hm:∀j,l.getD j aL=bB->(l.setIfInBounds i bB).getD j aL=bB:=λj E=>by
  by_cases e:j=i
  .subst e;rw[fD]at E;cases hx:l[j]? with
   |none=>rw[hx]at E;cases E
   |some x=>simp[(jG hx)]
  grind
 have aa:∀k j,waits ops k j=bB->(l.setIfInBounds i bB).getD k aL=bB->(l.setIfInBounds i bB).getD j aL=bB:=λk j Y hk=>hm j (by
  by_cases e:k=i
  .subst e;exact hw j Y
  .rw[hl k e]at hk;exact h.clo k j Y hk)
 cases hs:o.dst with
 |none=>
  refine⟨h.size,h.defers,λj s E q=>?_,h.kept,aa⟩;by_cases e:j=i
  .grind
  .rw[hl j e]at q;rw[hV j q];exact h.got j s E q
 |some t=>
  obtain⟨ab,ae⟩:=hu t hs
  have ac:(a.put (M t) (I i)).tmps[t]? =M (I i):=by
   simp[Act.put,h.size,ab]
  have J:∀s,s≠t->(a.put (M t) (I i)).tmps[s]? =a.tmps[s]?:=λs e=>by simp[Act.put,dZ (Ne.symm e)]
  refine⟨by simp[Act.put,h.size],h.defers,λj s E q=>?_,λs hk=>?_,aa⟩
  .by_cases e:j=i
   .grind
   .rw[hl j e]at q;by_cases e2:s=t
    .grind
    .rw[J s e2,hV j q];exact h.got j s E q
  .rw[J s λe=>hk i (by rw[hd,hs,e])];exact h.kept s hk
theorem Uo{md:Region.Mode}{e:Edge}(h:Region.binds .any e=bB):Region.binds md e=bB:=by
 unfold Region.binds at *
 grind
theorem FM{σ:Type}(V:σ->Nat->aD)(J:Array Bool->σ->Prop)(XX:List Nat->Act->σ->Prop)(hf:fills a0.tmps.size ops=bB)(done:∀l a s,(∀i,i<ops.size->l.getD i aL=bB)->Fill ops (V s) a0 l a->J l s->XX [] a s)(more:∀l a s i o rest,ops[i]? =M o->l.getD i bB=aL->(∀j,waits ops i j=bB->l.getD j aL=bB)->Fill ops (V s) a0 l a->J l s->(∀s',(∀j,l.getD j aL=bB->V s' j=V s j)->J (l.setIfInBounds i bB) s'->XX rest (a.put o.dst (V s' i)) s')->XX (i::rest) a s)(m:Bool)(t:Nat)(s:σ)(h:J (Array.replicate ops.size aL) s):XX (ov m ops t) a0 s:=by
 have key:∀md t,XX (mn md ops ops.size t (Array.replicate ops.size aL) []) a0 s:=λmd t=>by
  refine Iw (σ:=Act×σ) (md:=md) (ops:=ops) (λY l s=>l.size=ops.size/\l.count aL=Y/\Fill ops (V s.2) a0 l s.1/\J l s.2) (λrest s=>XX rest s.1 s.2) ?_ ?_ _ t _ (a0,s) ⟨aC,aC,⟨rfl,rfl,λi s' _ hl=>?_,λ_ _=>rfl,λi _ _ hl=>?_⟩,h⟩
  .rintro l ⟨a,s⟩ ⟨hz,hc,hF,hJ⟩;refine done l a s (λi I=>?_) hF hJ;cases q:l.getD i aL with
   |true=>rfl
   |false=>
    have hm:aL∈l:=by
     rw[<-hz]at I;simp[I]at q;exact q ▸ Array.getElem_mem I
    grind
  .rintro Y l ⟨a,s⟩ ⟨hz,hc,hF,hJ⟩;refine⟨λhe=>?_,λi I rest hn=>?_⟩
   .have hm:aL∈l:=Array.count_pos_iff.1 aA;obtain⟨i,I,q⟩:=Array.mem_iff_getElem.1 hm
    have key:∀n i,rank md ops i<n->l.getD i bB=aL->False:=by
     intro n
     induction n with
     |zero=>omega
     |succ n ih=>
      intro i I q
      have E:i<ops.size:=by
       rw[<-hz];apply Nat.lt_of_not_le;intro h;simp[Nat.not_lt.2 h]at q
      have:i∈fI md ops l:=mem_ready.2 ⟨q,_,dA E,λe he hb=>by
       have hr:=(Ot hf (dA E)).2 e he
       grind⟩
      grind
    exact key _ i (Nat.lt_succ_self _) (by simp[I,q])
   .obtain⟨q,o,ho,aa⟩:=mem_ready.1 I
    have hw:∀j,waits ops i j=bB->l.getD j aL=bB:=λj hj=>by
     unfold waits at hj;rw[ho]at hj;obtain⟨e,he,hb⟩:=List.any_eq_true.1 hj;simp only[dF,YY]at hb;rw[<-hb.2];exact aa e (Array.mem_toList_iff.1 he) (Uo hb.1)
    refine more l a s i o rest ho q hw hF hJ λs' hV ab=>hn (_,s') ⟨by simp[hz],?_,hF.put hf ho hV hw,ab⟩;have E:i<l.size:=by rw[hz];exact(jG ho)
    have ac:l[i]=aL:=by simpa[E]using q
    grind
  all_goals
   rw[fD,Array.getElem?_replicate]at hl;split at hl<;>simp at hl
 unfold ov;split
 .exact key _ t
 .exact key _ _
end
end
end Cr
