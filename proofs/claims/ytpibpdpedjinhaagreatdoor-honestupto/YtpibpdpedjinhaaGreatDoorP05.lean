import Derived.Test.YtpibpdpedjinhaaGreatDoorP04
import Derived.RangeFuncRecord
set_option maxRecDepth 100000
set_option maxHeartbeats 8000000
set_option linter.all false
open Bool renaming false->aL,true->bB
open Go renaming Frame->cU,Goroutine->bO,Obj->pT,Program->cY,Value->aD,World->U,execOp->bL,stepG->eB,undef->aE
open Go.Conc renaming Goes->jj,mem_listed->jp,stepG_region_end->bA,stepG_seq->bR
open Go.ConcN.RW renaming live->lx,refl->jN
open Go.ConcR renaming mk->cV
open Go.GStep.go renaming injEq->ow
open Go.Item renaming inRegion->cD
open Go.Region renaming wanted->cT
open Option renaming some->M
open Or renaming inl->cJ,inr->cK
namespace Go.Proofs.YtpibpdpedjinhaaGreatDoor
namespace Cr
open Go Go.Conc Go.ConcN
open Go.ConcR (Payload DC0)
section
variable {ob o o':pT}{i B:Nat}
section
variable [Payload]
structure At(S:Who)(K0:jZ)(w0:U)(L:List (Nat×pT))(K:jZ)(w:U):Prop where
 sub:∀x,K.W x->K.O x
 low:∀x,K.O x->x<w.heap.size
 pay0:S.C<w0.heap.size
 grp0:S.Wg<w0.heap.size
 size:w0.heap.size<=w.heap.size
 old:∀x,K0.O x->x<w0.heap.size/\K.O x/\w.heap[x]? =w0.heap[x]?
 new:∀x,K.O x->K0.O x\/w0.heap.size<=x
 live:WgLive S.ty S.Wg w0->WgLive S.ty S.Wg w
 pay:PayAt S.C S.n w0->PayAt S.C S.n w
 mem:∀p∈L,w0.heap.size<=p.1/\K.W p.1/\w.heap[p.1]? =M p.2
 ord:L.Pairwise λp q=>q.1≠p.1
structure Lies(L:List (Nat×pT))(n0:Nat)(w:U):Prop where
 size:n0<=w.heap.size
 mem:∀p∈L,n0<=p.1/\w.heap[p.1]? =M p.2
 ord:L.Pairwise λp q=>q.1≠p.1
def InL(L:List (Nat×pT))(n q b:Nat):Prop:=(∃p∈L,p.1=b)\/(n<=b/\b<q)
def EvA(L:List (Nat×pT))(n E:Nat)(e:Event):Prop:=
 (∃a wr,e=⟨.cell a,wr,aL⟩/\InL L n E a.block)\/(∃r wr,e=⟨.obj r,wr,aL⟩/\InL L n E r)\/(∃wr q,e=⟨.mark .noRoom,wr,q⟩)\/∃f wr q,e=⟨.mark (.extern f),wr,q⟩
structure Turn(L L':List (Nat×pT))(w w':U)(es:Array Event):Prop where
 tape:w'.tape=w.tape
 os:w'.os=w.os
 output:w'.output=w.output
 size:w.heap.size<=w'.heap.size
 block:∀x,x<w.heap.size->(∀p∈L,p.1≠x)->w'.heap[x]? =w.heap[x]?
 mem:∀p∈L',InL L w.heap.size w'.heap.size p.1/\w'.heap[p.1]? =M p.2
 ord:L'.Pairwise λp q=>q.1≠p.1
 events:∀e∈es,EvA L w.heap.size w'.heap.size e
variable {S:Who}{m:Nat}{K0 K:jZ}{w0 w w':U}{L L':List (Nat×pT)}{es:Array Event}
theorem At.en{q:U}(h:At S K0 w0 L K w)(r:En S (M m) K w q):At S K0 w0 L K q:=
 ⟨h.sub,λx E=>aP (h.low x E) r.size,h.pay0,h.grp0,bH h.size r.size,λx E=>⟨(h.old x E).1,(h.old x E).2.1,(r.block x (h.old x E).2.1).trans (h.old x E).2.2⟩,h.new,r.live∘h.live,r.pay∘h.pay,λp hp=>⟨(h.mem p hp).1,(h.mem p hp).2.1,(r.block _ (h.sub _ (h.mem p hp).2.1)).trans (h.mem p hp).2.2⟩,h.ord⟩
theorem At.lies(h:At S K0 w0 L K w):Lies L w0.heap.size w:=⟨h.size,λp hp=>⟨(h.mem p hp).1,(h.mem p hp).2.2⟩,h.ord⟩
omit [Payload] in
theorem Lies.lt(h:Lies L w0.heap.size w){p:Nat×pT}(hp:p∈L):p.1<w.heap.size:=(dY.1 (h.mem p hp).2).1
theorem At.afh(h:At S K0 w0 L K w){x:Nat}(q:x<w0.heap.size):∀p∈L,p.1≠x:=λp hp e=>by have:=(h.mem p hp).1;omega
theorem At.turn(h:At S K0 w0 L K w)(t:Turn L L' w w' es):At S K0 w0 L' (K.grow w.heap.size w'.heap.size) w':=by
 have I:=λx E=>t.block x (aP E h.size) (h.afh E);refine⟨λx E=>E.imp (h.sub x) id,λx E=>E.elim (λk=>aP (h.low x k) t.size) (·.2),h.pay0,h.grp0,bH h.size t.size,λx E=>⟨(h.old x E).1,cJ (h.old x E).2.1,(I x (h.old x E).1).trans (h.old x E).2.2⟩,λx E=>E.elim (h.new x) λk=>cK (bH h.size k.1),λk=>?_,λk=>?_,λp hp=>?_,t.ord⟩
 .obtain⟨st,sm,hl⟩:=h.live k;exact⟨st,sm,hl.of_block (I _ h.grp0)⟩
 .obtain⟨cs,h1,h2⟩:=h.pay k;exact⟨cs,(I _ h.pay0).trans h1,h2⟩
 .obtain⟨k,J⟩:=t.mem p hp;obtain⟨q,Y,e⟩|k:=k
  .rw[<-e];exact⟨(h.mem q Y).1,cJ (h.mem q Y).2.1,by rw[e];exact J⟩
  .exact⟨bH h.size k.1,cK k,J⟩
theorem At.gu(h:At S K0 w0 L K w)(t:Turn L L' w w' es):Gu S (M m) K w w' es:=by
 have J:=λx Y=>t.block x (aP Y h.size) (h.afh Y)
 have I:∀{b:Nat},InL L w.heap.size w'.heap.size b->(K.W b\/w.heap.size<=b)/\b<w'.heap.size:=λq=>by
  obtain⟨p,hp,rfl⟩|k:=q
  .exact⟨cJ (h.mem p hp).2.1,aP (h.low _ (h.sub _ (h.mem p hp).2.1)) t.size⟩
  omega
 have E:∀{b:Nat}{wr:Bool},InL L w.heap.size w'.heap.size b->((if wr then K.W b else K.O b)\/w.heap.size<=b)/\b<w'.heap.size:=λ{b wr} q=>by
  refine⟨(I q).1.imp (λk=>?_) id,(I q).2⟩;cases wr
  .exact h.sub _ k
  .exact k
 refine⟨t.tape,t.os,t.output,t.size,λb hl hn _=>t.block b hl λp hp e=>hn (e ▸ (h.mem p hp).2.1),λ⟨cs,h1,h2⟩=>⟨cs,(J _ h.pay0).trans h1,h2⟩,λi _=>by simp only[World.cell?,J _ h.pay0],λe he=>cJ ?_⟩;obtain⟨a,wr,rfl,q⟩|⟨r,wr,rfl,q⟩|k|k:=t.events e he
 .exact cJ ⟨a,wr,rfl,E q⟩
 .exact cK (cJ ⟨r,wr,rfl,E q⟩)
 .exact cK (cK (cJ k))
 .exact cK (cK (cK k))
def Wc(P:cY)(S:Who)(m:Nat)(St:jZ->bO->U->Prop)(K0:jZ)(w0:U)(L:List (Nat×pT))(g:bO):Prop:=∀K w,At S K0 w0 L K w->kV P aL S (M m) St K g w
variable {P:cY}{St:jZ->bO->U->Prop}{g g':bO}
theorem Wc.use(h:Wc P S m St K0 w0 L g)(q:At S K0 w0 L K w):kV P aL S (M m) St K g w:=h K w q
theorem Wc.step(hs:g.status=.running)(h:∀w,Lies L w0.heap.size w->∃g' w' es L',eB P aL g w=.go g' w' es/\Turn L L' w w' es/\Wc P S m St K0 w0 L' g'):Wc P S m St K0 w0 L g:=λK w I=>.step hs λE q=>by
 obtain⟨g',w',es,L',e,ht,hw⟩:=h E (I.en q).lies;exact⟨g',w',es,e,(I.en q).gu ht,hw _ _ ((I.en q).turn ht)⟩
theorem Wc.go(n:Nat)(h:∀K w,At S K0 w0 L K w->jj P aL (En S (M m) K) DC0 (λg w=>kV P aL S (M m) St K g w) n g w):Wc P S m St K0 w0 L g:=λK w q=>kV.go (h K w q)
theorem Wc.drop(E:L'.Sublist L)(h:Wc P S m St K0 w0 L' g):Wc P S m St K0 w0 L g:=λK w q=>
 h K w ⟨q.sub,q.low,q.pay0,q.grp0,q.size,q.old,q.new,q.live,q.pay,λp hp=>q.mem p (E.subset hp),q.ord.sublist E⟩
omit [Payload] in
theorem Turn.still(h:Lies L w0.heap.size w)(q:∀e∈es,EvA L w.heap.size w.heap.size e):Turn L L w w es:=⟨rfl,rfl,rfl,jE,λ_ _ _=>rfl,λp hp=>⟨cJ ⟨p,hp,rfl⟩,(h.mem p hp).2⟩,h.ord,q⟩
omit [Payload] in
theorem Turn.lay(h:Lies L w0.heap.size w)(hz:w'.heap.size=w.heap.size+1)(q:∀x,x<w.heap.size->w'.heap[x]? =w.heap[x]?)(Y:w'.heap[w.heap.size]? =M ob)(ht:w'.tape=w.tape)(ho:w'.os=w.os)(I:w'.output=w.output)(E:∀e∈es,EvA L w.heap.size (w.heap.size+1) e):Turn L ((w.heap.size,ob)::L) w w' es:=by
 refine⟨ht,ho,I,aA,λx J _=>q x J,λp hp=>?_,List.pairwise_cons.2 ⟨λp hp=>iQ (h.lt hp),h.ord⟩,by rw[hz];exact E⟩;obtain rfl|hp:=dD.1 hp
 .exact⟨cK ⟨jE,by simp only;omega⟩,Y⟩
 .exact⟨cJ ⟨p,hp,rfl⟩,(q _ (h.lt hp)).trans (h.mem p hp).2⟩
omit [Payload] in
theorem Turn.alloc(h:Lies L w0.heap.size w)(o:pT)(q:∀e∈es,EvA L w.heap.size (w.heap.size+1) e):Turn L ((w.heap.size,o)::L) w (w.alloc o) es:=
 .lay h aC (λx E=>by
  show(w.heap.push o)[x]? =w.heap[x]?
  grind) (World.alloc_heap_new w o) rfl rfl rfl q
omit [Payload] in
theorem Turn.set(h:Lies L w0.heap.size w)(hi:L[i]? =M (B,o))(hz:w'.heap.size=w.heap.size)(ho:∀x,x≠B->w'.heap[x]? =w.heap[x]?)(hn:w'.heap[B]? =M o')(ht:w'.tape=w.tape)(aa:w'.os=w.os)(hu:w'.output=w.output)(he:∀e∈es,EvA L w.heap.size w.heap.size e):Turn L (L.set i (B,o')) w w' es:=by
 have E:=(aN.1 hi).1;have hB:=aX hi
 have J:(L.set i (B,o')).map Prod.fst=L.map Prod.fst:=by
  rw[List.map_set];apply List.ext_getElem?;intro k;rw[iR];split
  .grind
  .rfl
 refine⟨ht,aa,hu,aA,λx _ hn=>ho x λe=>hn _ hB e.symm,λp hp=>?_,?_,by rw[hz];exact he⟩
 .have hm:p.1∈L.map Prod.fst:=by rw[<-J];exact List.mem_map_of_mem hp
  obtain⟨q,hq,e⟩:=bM.1 hm;refine⟨cJ ⟨q,hq,e⟩,?_⟩;by_cases e2:p.1=B
  .obtain⟨k,hk⟩:=jB.1 hp;rw[iR]at hk;split at hk
   .grind
   .have ab:k≠i:=λe=>‹¬i=k› e.symm;have I:=(aN.1 hk).1;obtain Y|Y:=gG k i
    .have:=iF.1 h.ord k i I E Y
     grind
    .have:=iF.1 h.ord i k E I aA
     grind
  .rw[ho _ e2];obtain⟨k,hk⟩:=jB.1 hp;rw[iR]at hk;split at hk
   .grind
   .exact(h.mem p (aX hk)).2
 .have Y:(L.map Prod.fst).Pairwise (λa b=>b≠a):=List.pairwise_map.2 h.ord
  grind
omit [Payload] in
theorem Turn.put(h:Lies L w0.heap.size w)(q:L[i]? =M (B,o))(E:∀e∈es,EvA L w.heap.size w.heap.size e):Turn L (L.set i (B,o')) w (w.putObj B o') es:=
 .set h q aC (λ_ I=>World.putObj_heap_other I) (World.putObj_heap_same (h.lt (aX q))) rfl rfl rfl E
section
variable {b:cU}{a:Act}{k:List Item}{cs:List cU}{ops:Array Oper}{i:Nat}{rest:List Nat}{o:Oper}
theorem Wc.op(ho:ops[i]? =M o)(hw:cT o (yielded ops a.tmps)=bB)(hk:b.kind≠.early)(h:∀w,Lies L w0.heap.size w->∃v w' L',((bL a.eval o).run P w=.ok (.value v) w'\/(bL a.eval o).run P w=.ok .skip w'/\v=aE)/\Turn L L' w w' (listed P b.fn a o w)/\Wc P S m St K0 w0 L' (G (b.at (a.put o.dst v) (cD ops rest::k)) cs)):Wc P S m St K0 w0 L (G (b.at a (cD ops (i::rest)::k)) cs):=
 .step rfl λw I=>by
  obtain⟨v,w',L',q,ht,E⟩:=h w I;obtain q|⟨q,rfl⟩:=q
  .exact⟨_,w',_,L',stepG_value ho hw hk q,ht,E⟩
  .exact⟨_,w',_,L',stepG_none ho hw hk q,ht,E⟩
theorem Wc.rd(v:aD)(ho:ops[i]? =M o)(hw:cT o (yielded ops a.tmps)=bB)(hk:b.kind≠.early)(h:∀w,Lies L w0.heap.size w->(bL a.eval o).run P w=.ok (.value v) w/\∀e∈(bL a.eval o).events P w #[],EvA L w.heap.size w.heap.size e)(E:Wc P S m St K0 w0 L (G (b.at (a.put o.dst v) (cD ops rest::k)) cs)):Wc P S m St K0 w0 L (G (b.at a (cD ops (i::rest)::k)) cs):=
 .op ho hw hk λw q=>⟨v,w,L,cJ (h w q).1,.still q λe I=>(h w q).2 e (jp I),E⟩
theorem Wc.al(ob:pT)(v:Nat->aD)(ho:ops[i]? =M o)(hw:cT o (yielded ops a.tmps)=bB)(hk:b.kind≠.early)(h:∀w,Lies L w0.heap.size w->(bL a.eval o).run P w=.ok (.value (v w.heap.size)) (w.alloc ob)/\∀e∈(bL a.eval o).events P w #[],EvA L w.heap.size (w.heap.size+1) e)(E:∀n,Wc P S m St K0 w0 ((n,ob)::L) (G (b.at (a.put o.dst (v n)) (cD ops rest::k)) cs)):Wc P S m St K0 w0 L (G (b.at a (cD ops (i::rest)::k)) cs):=
 .op ho hw hk λw q=>⟨_,_,_,cJ (h w q).1,.alloc q ob λe I=>(h w q).2 e (jp I),E _⟩
theorem Wc.st{j:Nat}(q:pT)(J:L[j]? =M (B,ob))(ho:ops[i]? =M o)(hw:cT o (yielded ops a.tmps)=bB)(hk:b.kind≠.early)(h:∀w,Lies L w0.heap.size w->(bL a.eval o).run P w=.ok .skip (w.putObj B q)/\∀e∈(bL a.eval o).events P w #[],EvA L w.heap.size w.heap.size e)(I:Wc P S m St K0 w0 (L.set j (B,q)) (G (b.at (a.put o.dst aE) (cD ops rest::k)) cs)):Wc P S m St K0 w0 L (G (b.at a (cD ops (i::rest)::k)) cs):=
 .op ho hw hk λw E=>⟨_,_,_,cK ⟨(h w E).1,rfl⟩,.put E J λe Y=>(h w E).2 e (jp Y),I⟩
theorem Wc.fill{aa:Nat}{V:Nat->aD}(hf:fills a.tmps.size ops=bB)(done:∀l a',(∀i,i<ops.size->l.getD i aL=bB)->Fill ops V a l a'->Wc P S m St K0 w0 L' (G (b.at a' k) cs))(J:Array Bool->List (Nat×pT))(Y:J (Array.replicate ops.size aL)=L)(I:∀l,(∀i,i<ops.size->l.getD i aL=bB)->J l=L')(more:∀l a' i o rest,ops[i]? =M o->l.getD i bB=aL->(∀j,waits ops i j=bB->l.getD j aL=bB)->Fill ops V a l a'->Wc P S m St K0 w0 (J (l.setIfInBounds i bB)) (G (b.at (a'.put o.dst (V i)) (cD ops rest::k)) cs)->Wc P S m St K0 w0 (J l) (G (b.at a' (cD ops (i::rest)::k)) cs)):Wc P S m St K0 w0 L (G (b.at a (.code (.region aa ops bB)::k)) cs):=by
 refine .step rfl λw E=>⟨_,_,_,L,stepG_region_draw,⟨rfl,rfl,rfl,jE,λ_ _ _=>rfl,λp hp=>⟨cJ ⟨p,hp,rfl⟩,(E.mem p hp).2⟩,E.ord,λe he=>by simp at he⟩,?_⟩
 rw[<-Y];refine FM (σ:=Array Bool) (λ_=>V) (λl s=>s=l) (λrest a s=>Wc P S m St K0 w0 (J s) (G (b.at a (cD ops rest::k)) cs)) hf (λl a' s q h2 h3=>?_) (λl a' s i o rest q h2 h3 h4 h5 h6=>?_) _ _ _ rfl
 .rw[h3,I l q];exact .step rfl λw E=>⟨_,w,_,L',bA,.still E λe he=>by simp at he,done l a' q h2⟩
 .rw[h5];exact more l a' i o rest q h2 h3 h4 (h6 _ (λ_ _=>rfl) rfl)
end
end
end
open Go Go.Conc Go.ConcN Go.RowKit Go.Conc.Lib Go.ConcR.Gen Go.ConcN.Gen
open Go.ConcR (KK wgBlock WgAt stA smA rd wr Payload DC0)
section
variable {v:aD}{c:cU}{cs:List cU}
section
variable [Payload]{P:cY}{ty:TypeId}{Wg C n i lo:Nat}
def JG(P:cY)(ty:TypeId)(Wg C n i:Nat)(g:bO)(w:U):Prop:=
 ∃g',(∀q,eB P aL g q=.go g' q #[cV (.releaseMerge (stA Wg))])/\∃m,jj P aL (RW ty Wg C n 0 i) DC0 (λg _=>∃E,∀q,eB P aL g q=.go E q #[cV .disable]) m g' w
theorem PK:∀{m k:Nat}{g:bO}{w:U},jj P aL (RW ty Wg C n 0 i) DC0 (λg _=>∃E,∀q,eB P aL g q=.go E q #[cV .disable]) m g w->jj P aL (RW ty Wg C n 0 (i+1-1)) (DWs Wg qw qw C n (i+1)) (AtR0 P ty Wg C n 0 (i+1) v) k g w->False:=by
 intro m
 have last:∀{k:Nat}{g:bO}{w:U},(∃E,∀q,eB P aL g q=.go E q #[cV .disable])->jj P aL (RW ty Wg C n 0 (i+1-1)) (DWs Wg qw qw C n (i+1)) (AtR0 P ty Wg C n 0 (i+1) v) k g w->False:=by
  rintro k g w ⟨E,I⟩ hk;obtain hs|⟨k',rfl,hs⟩:=Goes.cases hk
  .obtain⟨_,_,g',e,_⟩:=hs w (jN w);rw[I w]at e;simp only[ow]at e;have:=e.2.2;simp[cV]at this
  .obtain⟨g',w',es,e,⟨_,aa⟩,_⟩:=hs w (jN w);rw[I w]at e;simp only[ow]at e;obtain⟨_,_,rfl⟩:=e;exact(aa (cV _) aC).2.1 rfl
 induction m with
 |zero=>exact λh hk=>last (h _ (jN _)) hk
 |succ m ih=>
  intro k g w h hk;obtain h|⟨_,h⟩:=h
  .exact last (h _ (jN _)) hk
  .have J:=h w (jN w);cases hg:eB P aL g w with
   |go g' w' es=>
    rw[hg,goes_go]at J;obtain⟨⟨rfl,rfl⟩,J⟩:=J;obtain hs|⟨k',rfl,hs⟩:=Goes.cases hk
    .obtain⟨_,_,Y,e,_⟩:=hs _ (jN _)
     grind
    .obtain⟨Y,q,ab,e,_,ac⟩:=hs _ (jN _)
     grind
   |_=>rw[hg]at J;exact J.elim
theorem follow{Q:Left}{K:jZ}:∀{m k:Nat}{g:bO}{w:U},jj P aL (RW ty Wg C n 0 i) DC0 (JG P ty Wg C n i) m g w->jj P aL (RW ty Wg C n 0 (i+1-1)) (DWs Wg qw qw C n (i+1)) (AtR0 P ty Wg C n 0 (i+1) v) k g w->(∀q,RW ty Wg C n 0 i w q->(∀b,K.O b->q.heap[b]? =w.heap[b]?)->Q i v K.O q)->kV P aL ⟨Wg,C,n,ty,lo⟩ (M i) (uJ P ⟨Wg,C,n,ty,lo⟩ Q i) K g w:=by
 intro m;have tr:∀a b c,RW ty Wg C n 0 (i+1-1) a b->RW ty Wg C n 0 (i+1-1) b c->RW ty Wg C n 0 (i+1-1) a c:=λ_ _ _ h1 h2=>h1.trans h2
 have last:∀{k:Nat}{g:bO}{w:U},(∀q,RW ty Wg C n 0 i w q->JG P ty Wg C n i g q)->jj P aL (RW ty Wg C n 0 (i+1-1)) (DWs Wg qw qw C n (i+1)) (AtR0 P ty Wg C n 0 (i+1) v) k g w->
   (∀q,RW ty Wg C n 0 i w q->(∀b,K.O b->q.heap[b]? =w.heap[b]?)->Q i v K.O q)->kV P aL ⟨Wg,C,n,ty,lo⟩ (M i) (uJ P ⟨Wg,C,n,ty,lo⟩ Q i) K g w:=by
  intro k g w hr hk Y;refine kV.stop λq E=>⟨v,?_,Y q E.rw E.block⟩
  obtain hs|⟨k',rfl,hs⟩:=Goes.cases (hk.rely tr E.rw)
  .exact hs q (jN q)
  .exfalso;obtain⟨g',aa,m',hd⟩:=hr q E.rw;obtain⟨aj,ah,es,e,_,I⟩:=hs q (jN q);rw[aa q]at e;simp only[ow]at e;obtain⟨rfl,rfl,rfl⟩:=e;exact PK hd I
 induction m with
 |zero=>exact λh hk Y=>last h hk Y
 |succ m ih=>
  intro k g w h hk Y;obtain h|⟨ae,h⟩:=h
  .exact last h hk Y
  .refine kV.step ae λq E=>?_;have J:=h q E.rw;cases hg:eB P aL g q with
   |go g' w' es=>
    rw[hg,goes_go]at J;obtain⟨⟨rfl,rfl⟩,J⟩:=J;refine⟨g',w',_,rfl,.still ..,?_⟩;rw[kP];obtain hs|⟨k',rfl,hs⟩:=Goes.cases (hk.rely tr E.rw)
    .obtain⟨_,_,ac,e,_⟩:=hs _ (jN _)
     grind
    .obtain⟨ac,ah,ai,e,_,I⟩:=hs _ (jN _);rw[hg]at e;simp only[ow]at e;obtain⟨rfl,rfl,rfl⟩:=e;exact ih J I λag ab hb=>Y ag (E.rw.trans ab) λb af=>(hb b af).trans (E.block b af)
   |_=>rw[hg]at J;exact J.elim
variable {L:WgLink}
theorem aaZ(H:WgLib P L)(w:U)(q:WgLive L.tWg Wg w):jj P aL (RW L.tWg Wg C n 0 i) DC0 (JG P L.tWg Wg C n i) 60 (G ((baseD L.done).at ⟨#[.pointer (M ⟨Wg,0,none⟩),aE,aE,aE],[]⟩ [.code (body_done L)]) (c::cs)) w:=by
 lib_facts
 simp only[body_done,doneFn,fH];u_reg (λh r=>lx r h) q;u_op (λh r=>lx r h) q;u_in (λh r=>lx r h) q;refine goes_call rfl rfl (by k_ne) rfl H.f_add (nm_add L) rfl ⟨by u_nil,?_⟩;walk_nrmf addFn;u_c bR (λh r=>lx r h) q;u_cond bB (λh r=>lx r h) q
 iterate 2 u_c bR (λh r=>lx r h) q
 u_reg (λh r=>lx r h) q
 iterate 2 u_op (λh r=>lx r h) q
 u_c bA (λh r=>lx r h) q;u_cond bB (λh r=>lx r h) q;u_reg (λh r=>lx r h) q;u_op (λh r=>lx r h) q;u_conv H.underlying_tWgP H.room_tWg (WgLive.cell0 q).choose_spec (λh r=>lx r h) q;refine Goes.stop (λJ E=>?_);replace q:=E.live q;clear E;refine⟨_,λI=>stepG_markAt _ aC rfl rfl (by k_ne) rfl H.f_relMerge (x_relMerge_n L) (x_relMerge_b L) (x_relMerge_x L) (x_relMerge_f L) (by simp[Act.eval,stA]),10,?_⟩;walk_nrm;u_c bA (λh r=>lx r h) q;u_c bR (λh r=>lx r h) q;u_reg (λh r=>lx r h) q;exact Goes.stop (λJ E=>⟨_,λI=>stepG_mark0 _ aC rfl rfl (by k_ne) rfl H.f_disable (x_disable_n L) (x_disable_b L) (x_disable_x L) (x_disable_f L)⟩)
theorem abT(H:WgLib P L){Q:Left}{K:jZ}{J:Nat}(E:c.mode=.returning)(Y:QuitsD P J 0 (G c cs))(w:U)(I:WgLive L.tWg Wg w)(hh:Has C i v w)(hQ:∀q,(∀b,K.O b->q.heap[b]? =w.heap[b]?)->Q i v K.O q):kV P aL ⟨Wg,C,n,L.tWg,lo⟩ (M i) (uJ P ⟨Wg,C,n,L.tWg,lo⟩ Q i) K (G ((baseD L.done).at ⟨#[.pointer (M ⟨Wg,0,none⟩),aE,aE,aE],[]⟩ [.code (body_done L)]) (c::cs)) w:=
 follow (aaZ H w I) (doneN H (k:=i+1) E Y w ⟨I,hh⟩) λq _ hb=>hQ q hb
end
end
end Cr
