import Derived.Test.YtpibpdpedjinhabGreatDoorP32
set_option maxRecDepth 100000
set_option maxHeartbeats 4000000
set_option linter.all false
open Bool renaming false->aR,true->bB
open Go renaming Addr->fR,Calls->eL,Ending->pv,TypeId->cH,Value->aD,World->X,bodyPost_ret->cN,callsIn_wide->iN,info_parts->pu,run_underlying->eB,undef->aH
open Go.Builtin renaming append_->iB,firstCells->nL,lenOf->oE,zeroCells->lB
open Go.Ending renaming returned->bX
open Go.IntKind renaming i64->aE
open Go.Obj renaming cells->aL,deferred->eA
open Go.Proofs.Tryz renaming underlying44->ma
open Go.RowKit renaming Below->cG,Hid->cJ
open Go.RowKit.Below renaming heap_setCell->mB
open Go.Value renaming int->N,pointer->aG,slice->aM,tuple->cP
open Go.World renaming cell?_of_block->cD,frozen?->js
open List renaming length_set->oc,mem_append_right->ml,take_append_drop->mj
open Option renaming none->Z,some->M
open Or renaming inl->bN,inr->cF
open Prod renaming fst->cI
namespace Go.Proofs.YtpibpdpedjinhabGreatDoor
namespace Hm
open Go.RowKit Go.Joins Go.Shelf
open Fr (below_drewN)
section
section
variable {P:Program}{w:X}{E s n g off cap:Nat}{xs:List aD}
theorem BM(t e ty:cH)(z:aD)(ht:P.underlying t=M (.slice e))(hv:∀w,(zeroValue e).run P w=.ok z w)(hz:z.cells.size=s)(Y:∀v,v∈z.cells->v.oneCell'=bB)(b o n c:Nat)(hn:0<n)(hc:∀j,j<n*s->(w.cell? ⟨b,o+j,Z⟩).isSome=bB)(hf:∀j,w.frozen? ⟨b,j,Z⟩=aR):∃vs,vs.length=n*s/\(Builtin.clear_ #[t] ty #[aM (M ⟨b,o,Z⟩) n c]).run P w=.ok (cP #[]) (w.setCells b o vs):=by
 have R:(lB z.cells n).toList.length=n*s:=by simp[lB,hz]
 refine⟨(lB z.cells n).toList,R,?_⟩
 have I:=run_storeCells_cells (P:=P) b o (lB z.cells n).toList 0 w (by rw[R];simpa using hc) (λj _=>hf _) (λv J=>by
  simp only[lB,Array.toList_map,bM]at J;obtain⟨i,_,rfl⟩:=J;by_cases hs:z.cells.size=0
  .rw[Array.getElem!_eq_getD,fD,Array.getElem?_eq_none aA];rfl
  .have:i%z.cells.size<z.cells.size:=Nat.mod_lt _ aA;rw[getElem!_pos z.cells _ this];exact Y _ (Array.getElem_mem this))
 simp only[Nat.add_zero]at I;obtain⟨m,rfl⟩:∃m,n=m+1:=⟨n-1,aA⟩
 simp[Builtin.clear_,eB ht,hv,I]
theorem Row.behind(h:Row w E s (aM (M ⟨g,off,Z⟩) n cap) n xs)(vs:List aD):Row (w.setCells g (off+n*s) vs) E s (aM (M ⟨g,off,Z⟩) n cap) n xs:=by
 obtain⟨Y,h⟩:=h;refine⟨Y,?_⟩;obtain⟨e,_⟩|⟨g',I,J,aa,e,hh,h1,h2,h3,h4⟩:=h
 .cases e
 .cases e;obtain⟨z,q1,q2,q3,_⟩:=oK vs (off+n*s) hh;refine cF ⟨g,off,cap,z,rfl,q1,h1,h2,by rw[q2];exact h3,λj u R=>?_⟩;have:=(aN.1 R).1;rw[q3 _ (bN aA)];exact h4 j u R
theorem Row.room(h:Row w E s (aM (M ⟨g,off,Z⟩) n cap) n xs){j:Nat}(Y:j<cap*s):(w.cell? ⟨g,off+j,Z⟩).isSome=bB:=by
 obtain⟨e,_⟩|⟨g',z,I,J,e,R,h1,h2,h3,h4⟩:=h.2
 .cases e
 .cases e;rw[aI R,dA aA];rfl
theorem Row.moved(h:Row w E s (aM (M ⟨g,off,Z⟩) n cap) n xs){j:Nat}(hj:j<=n):Row (w.setCells g off (xs.drop (j*s))) E s (aM (M ⟨g,off,Z⟩) (n-j) cap) (n-j) (xs.drop (j*s)):=by
 obtain⟨h0,h⟩:=h;have R:(xs.drop (j*s)).length=(n-j)*s:=by rw[dW,h0,Nat.sub_mul]
 refine⟨R,?_⟩;obtain⟨e,_⟩|⟨g',I,J,aa,e,hh,h1,h2,h3,h4⟩:=h
 .cases e
 .cases e;obtain⟨z,q1,q2,_,q4⟩:=oK (xs.drop (j*s)) off hh;refine cF ⟨g,off,cap,z,rfl,q1,aA,h2,by rw[q2];exact h3,λi u Y=>q4 i u Y ?_⟩;have:=(aN.1 Y).1;have:n*s<=cap*s:=fK _ h1;rw[R,Nat.sub_mul]at *;omega
end
def ae1(w:X):(zeroValue 52).run PQ w=.ok (.agg #[N aE 0,N aE 0,N aE 0,N aE 0,N aE 0,aM Z 0 0,aM Z 0 0,N aE 0]) w:=(zvq Tryz.zeroValue52) w
def aeQ(w:X)(v:aD)(n j:Nat)(xs:List aD)(e:pv)(w':X):Prop:=∃a cap,e=bX (.slice a (n-j) cap)/\Row w' 52 8 (.slice a (n-j) cap) (n-j) (xs.drop (j*8))/\(aM a (n-j) cap).ownBlock=v.ownBlock/\jI (λk=>v.ownBlock=M k) w w'
def adp(v:aD)(n j:Nat)(xs:List aD)(w:X)(h:Row w 52 8 v n xs)(h1:∀u,u∈xs->u.oneCell'=bB)(hj:j<=n)(hn:n<=4294967296):eL PQ 39 #[v,N aE 0,N aE j] w (aeQ w v n j xs):=by
 obtain rfl|aq:=gQ j
 .obtain⟨a,cap,rfl⟩:=h.slice
  have hc:n<=cap:=by
   obtain⟨_,a',c',e,hc,_⟩:=h.rd;cases e;exact hc
  have ag:(n:Int)<=cap:=aA
  have H:cJ _:=h;clear h h1;go_enter (fq Tryz.func39 rfl),Tryz.ntmps39;go_wp2_with fail;go_ret;exact⟨a,cap,rfl,by rw[Nat.zero_mul,List.drop_zero];exact H.out,rfl,.refl _ _⟩
 .obtain⟨g,off,cap,rfl,hc⟩:=h.pos aA;have ag:(n:Int)<=cap:=by omega
  have ai:(0:Int)<j:=aA
  have ar:(j:Int)<=n:=aA
  have au:(j:Int)<=cap:=aA
  have aj:((0:Int) == (j:Int))=aR:=ZS aA;have ap:¬(0=j):=aA
  obtain⟨i0,J,aa,R,ac⟩:=pu rF;obtain⟨m,hm⟩:∃m,n-j=m:=⟨_,rfl⟩
  have am:(n:Int)-j=m:=aA
  have hdl:(xs.drop (j*8)).length=m*8:=by rw[dW,h.1];omega
  have z:∀i u,(xs.drop (j*8))[i]? =M u->w.cell? ⟨g,off+j*8+i,Z⟩=M u:=λi u I=>by
   rw[iV]at I;have:=h.cell rfl _ _ I;rw[<-dV]at this;exact this
  have H:cJ _:=jy h (jy h1 (jy hdl (jy z (jy J R))));have af:=h.frozen rfl
  have H2:cJ (∀i u,(xs.drop (j*8))[i]? =M u->w.drew.cell? ((⟨g,off+j*8,Z⟩:fR).add i)=M u):=λi u I=>by
   have:w.drew.cell? ⟨g,off+j*8+i,Z⟩=M u:=z i u I;unfold Addr.add;split
   .rename_i h0;subst h0;exact this
   .exact this
  have H3:cJ (∀i,i<(xs.drop (j*8)).length->(w.drew.cell? ⟨g,off+0*8+i,Z⟩).isSome=bB/\w.drew.frozen? ⟨g,off+0*8+i,Z⟩=aR):=λi I=>by
   rw[Nat.zero_mul,Nat.add_zero];exact⟨h.there aA,af _⟩
  unfold aeQ;rw[hm];clear h h1 hdl z J aa R ac;go_enter (fq Tryz.func39 rfl),Tryz.ntmps39;go_upto_region 5 with fail;go_cut [0] (λv wx=>v=aM (M ⟨g,off,Z⟩) m cap/\cJ (Row wx 52 8 (aM (M ⟨g,off,Z⟩) m cap) m (xs.drop (j*8))/\jI (λk=>k=g) w wx))
  case first=>
   by_cases ae:cap=j
   .obtain rfl:m=0:=by omega
    obtain rfl:j=n:=aA
    obtain rfl:cap=j:=ae;have hx:xs.drop (cap*8)=[]:=bP (by rw[H.out.2.2.1]);go_region_law ((refine step_append_room (by rfl) (.tmp 22) (.tmp 25) 44 (by rfl) 52 i0 8 (uq ma) H.out.2.2.2.2.1 H.out.2.2.2.2.2 g off 0 cap (by rfl) ⟨g,off,Z⟩ 0 0 [] (by rfl) (by rfl) (λi u I=>by simp at I) (λu hu=>by simp at hu) aA (λi I=>by simp at I) ?_))
    all_goals
     go_wp2_with fail;go_meet;have Y:=(H.out.1.kept (w':=w.drew) λ_ _=>rfl).moved (Nat.le_refl cap);rw[hx,Nat.sub_self]at Y;rw[hx];exact⟨rfl,Y,.drew _ w⟩
   .go_region_law ((refine step_append_room (by rfl) (.tmp 22) (.tmp 25) 44 (by rfl) 52 i0 8 (uq ma) H.out.2.2.2.2.1 H.out.2.2.2.2.2 g off 0 cap (by rfl) ⟨g,off+j*8,Z⟩ m (cap-j) (xs.drop (j*8)) (by rfl) H.out.2.2.1 H2.out (λu hu=>H.out.2.1 u (je hu)) aA H3.out ?_))
    all_goals
     go_wp2_with fail;go_meet;have Y:=(H.out.1.kept (w':=w.drew) λ_ _=>rfl).moved hj;rw[hm]at Y;exact⟨rfl,Y,(jI.drew _ w).trans (.grown (kH g _ off w.drew).1) λk _ e=>by simpa using e.symm⟩
  case rest=>
   obtain⟨rfl,HC⟩:=hcut;have ao:¬(cap=m):=aA
   have an:(m:Int)<=n:=aA
   have ak:(m:Int)<=cap:=aA
   obtain⟨vs,-,ah⟩:=BM (P:=PQ) (w:=wc) (s:=8) 44 52 0 _ (uq ma) ae1 rfl (by simp[Value.cells,Value.oneCell']) g (off+m*8) (n-m) (cap-m) aA (λi I=>by have:=HC.out.1.room (j:=m*8+i) aA;rw[<-dV]at this;exact this) (HC.out.1.frozen rfl);go_wp2_with fail;go_ret;exact⟨_,cap,rfl,HC.out.1.behind vs,rfl,(HC.out.2.trans (.grown (kH g _ _ wc).1) λk _ e=>by simpa using e.symm).mono λk _ e=>by rw[e];rfl⟩
end
open Dv (Lo)
section
section
variable {P:Program}{w:X}{ops:Array Oper}{o:Oper}{a:Act}{K:Act->X->Prop}{Q:Exit->Act->X->Prop}{E:Prop}
theorem yI(hg:o.guard=Z)(s x:Operand)(t:cH)(af:o.op=.call { callee:=.builtin .append,args:=#[s,x],argTypes:=#[t,t] })
  (e:cH) (i:TypeInfo) (z:aD) (size bytes:Nat) (ht:P.underlying t=M (.slice e)) (hi:P.info? e=M i) (hz:i.zero=M z)
  (R:i.size=size) (ai:i.bytes=bytes) (aj:z.cells.size=size) (ah:0<size)
  (v:aD) (n:Nat) (xs:List aD) (hs:a.eval s=v) (J:Row w e size v n xs)
  (ax:Option fR) (m c:Nat) (I:List aD) (hx:a.eval x=.slice ax m c) (hl:I.length=m*size) (ac:0<m->∃ad,ax=M ad/\∀j u,I[j]? =M u->w.cell? (ad.add j)=M u) (h1:∀u∈I,u.oneCell'=bB)
  (ag:n+m<=maxLen) (aa:(n+m)*bytes<=140737488355328)
  (h:∀a' Y w',Row w' e size (.slice a' (n+m) Y) (n+m) (xs++I)->jI (λk=>v.ownBlock=M k) w w'->(∀g,(aM a' (n+m) Y).ownBlock=M g->v.ownBlock=M g\/w.heap.size<=g)->K (a.put o.dst (.slice a' (n+m) Y)) w'):
  if Region.wanted o (yielded ops a.tmps)=bB then Oper.wp P o a w K Q else E:=by
 by_cases hm:0<m
 .obtain⟨ad,rfl,hn⟩:=ac hm;exact pG hg s x t af e i z size bytes ht hi hz R ai aj ah v n xs hs J ad m c I hx hm hl hn h1 ag aa λg off cap w' r q=>h _ _ _ r q.jM λg' e=>by cases e;exact q.own
 .obtain rfl:m=0:=by omega
  obtain rfl:I=[]:=bP aA;have hw:Region.wanted o (yielded ops a.tmps)=bB:=by simp[Region.wanted,hg]
  rw[ZD hw];obtain⟨b,cap,rfl⟩:=J.slice
  have hc:n<=cap:=by
   obtain⟨_,a',c',e,hc,_⟩:=J.rd;cases e;exact hc
  have hr:(iB #[t,t] o.type #[.slice b n cap,.slice ax 0 c]).run P w=.ok (.slice b n cap) w:=by
   have ae:(sizeOf e).run P w=.ok size w:=by rw[<-R];simp[sizeOf,typeInfo,hi]
   cases b<;>cases ax<;>simp[iB,eB ht,ae,hc,oE,nL,storeCells,loadCells,loadCellsFrom]
  have:=h b cap w (by rw[gI];exact J) (.refl _ _) λg e=>bN e;unfold Oper.wp;simp[execOp,af,resolve,invoke,builtin,hs,hx,hr,Result.andThen];exact this
end
structure Vw where
 vb:Nat
 vs:aD
 seen:List Int
 kb:Nat
 vl:aD
 log:List PL
 vc:aD
 com:List PL
def Vw.cells(v:Vw):Array aD:=#[v.vs,aG (M ⟨v.kb,0,Z⟩),v.vl,v.vc]
structure lF(w:X)(v:Vw):Prop where
 obj:w.heap[v.vb]? =M (aL v.cells 73 (0,0))
 seen:Row w 3 1 v.vs v.seen.length (v.seen.map λi=>N aE i)
 log:Row w 52 8 v.vl v.log.length (v.log.flatMap jJ)
 com:Row w 52 8 v.vc v.com.length (v.com.flatMap jJ)
 lor:∀p,p∈v.log++v.com->IE w p
 ne:∀g,v.vl.ownBlock=M g->v.vc.ownBlock≠M g
 few:v.log.length+v.com.length<=4294967296
def VL(v:Vw)(k:Nat):Prop:=k=v.vb\/v.vl.ownBlock=M k\/v.vc.ownBlock=M k
def VO(v:Vw)(k:Nat):Prop:=VL v k\/v.vs.ownBlock=M k
def Qa{l:List PL}{w:X}(h:∀p,p∈l->IE w p):∀u,u∈l.flatMap jJ->u.oneCell'=bB:=λu z=>by
 obtain⟨p,hp,z⟩:=List.mem_flatMap.1 z;obtain⟨Y,c1,I⟩:=Row.slice (h p hp).1;obtain⟨a2,R,J⟩:=Row.slice (h p hp).2;simp only[jJ,I,J,dD,List.not_mem_nil,or_false]at z;rcases z with rfl|rfl|rfl|rfl|rfl|rfl|rfl|rfl<;>rfl
section
variable {w w':X}{v:Vw}
theorem lF.types(h:lF w v){k:Nat}{cs:Array aD}{t:cH}{I:Nat×Nat}(hk:VO v k)(hc:w.heap[k]? =M (aL cs t I)):t=73\/t=52\/t=3:=by
 have key:∀{E s n:Nat}{u:aD}{xs:List aD},Row w E s u n xs->u.ownBlock=M k->t=E:=λJ e=>by
  obtain⟨c,z⟩:=J.obj e;rw[z]at hc;simp at hc;exact hc.2.1.symm
 obtain(rfl|e|e)|e:=hk
 .rw[h.obj]at hc;simp at hc;exact bN hc.2.1.symm
 .exact cF (bN (key h.log e))
 .exact cF (bN (key h.com e))
 .exact cF (cF (key h.seen e))
theorem lF.lt(h:lF w v){k:Nat}(hk:VO v k):k<w.heap.size:=by
 obtain(rfl|e|e)|e:=hk
 .exact(jE h.obj)
 .exact h.log.lt e
 .exact h.com.lt e
 .exact h.seen.lt e
theorem lF.ro(h:lF w v)(hc:jI (VO v) w w'):Ro w w':=.jM hc λk cs t z hk e=>by
 rcases h.types hk e with rfl|rfl|rfl<;>exact⟨aB,aB⟩
theorem IE.ro{p:PL}(h:IE w p)(z:Ro w w'):IE w' p:=⟨Row.ro h.1 (cF rfl) z,Row.ro h.2 (cF rfl) z⟩
theorem lF.kept(h:lF w v)(hk:∀k,VO v k->w'.heap[k]? =w.heap[k]?)(z:Ro w w'):lF w' v:=
 ⟨(hk _ (bN (bN rfl))).trans h.obj,h.seen.kept λg e=>hk g (cF e),h.log.kept λg e=>hk g (bN (cF (bN e))),h.com.kept λg e=>hk g (bN (cF (cF e))),λp hp=>(h.lor p hp).ro z,h.ne,h.few⟩
theorem lF.below(h:lF w v)(z:cG w.heap.size w w'):lF w' v:=h.kept (λk hk=>z.block k (h.lt hk)) λg _ _ _ hc _=>z.block g (jE hc)
theorem lF.apart(h:lF w v):v.vs.ownBlock≠M v.vb/\v.vl.ownBlock≠M v.vb/\v.vc.ownBlock≠M v.vb:=by
 have key:∀{E s n:Nat}{u:aD}{xs:List aD},Row w E s u n xs->E≠73->u.ownBlock≠M v.vb:=λJ I e=>by
  obtain⟨c,z⟩:=J.obj e;rw[h.obj]at z;simp at z;exact I z.2.symm
 exact⟨key h.seen aB,key h.log aB,key h.com aB⟩
end
def Xj(w:X)(v:Vw)(n:Nat)(w':X):Prop:=∃vl vc,lF w' { v with vl:=vl,log:=v.log++v.com.take n,vc:=vc,com:=v.com.drop n }/\jI (VL v) w w'/\(∀g,vl.ownBlock=M g->v.vl.ownBlock=M g\/w.heap.size<=g)/\vc.ownBlock=v.vc.ownBlock
structure VH(w:X)(v:Vw)(n:Nat)(vl:aD)(wx:X):Prop where
 obj:wx.heap[v.vb]? =M (aL #[v.vs,aG (M ⟨v.kb,0,Z⟩),vl,v.vc] 73 (0,0))
 log:Row wx 52 8 vl (v.log.length+n) (v.log.flatMap jJ++(v.com.take n).flatMap jJ)
 com:Row wx 52 8 v.vc v.com.length (v.com.flatMap jJ)
 jM:jI (VL v) w wx
 own:∀g,vl.ownBlock=M g->v.vl.ownBlock=M g\/w.heap.size<=g
def Dk(v:Vw)(n:Nat)(w:X)(h:lF w v)(hn:n<=v.com.length):eL PQ 23 #[aG (M ⟨v.vb,0,Z⟩),N aE n] w λe w'=>e=bX (cP #[])/\Xj w v n w':=by
 obtain⟨va,vcap,hvl⟩:=h.log.slice;obtain⟨ca,cc,hvc⟩:=h.com.slice;obtain⟨c0,c1,c2,c3⟩:=cells4 h.obj;have fz:=aQ h.obj;rw[hvl]at c2;rw[hvc]at c3
 have hcc:v.com.length<=cc:=by
  obtain⟨_,a',c',e,hc,_⟩:=h.com.rd;rw[hvc]at e;cases e;exact hc
 have hc1:(n:Int)<=cc:=aA
 obtain⟨i0,hi0,hz0,hz1,hz2⟩:=pu rF;have hrow:Row w.drew 52 8 (.slice va v.log.length vcap) v.log.length (v.log.flatMap jJ):=by rw[<-hvl];exact h.log.kept λ_ _=>rfl
 have hnl:((v.com.take n).flatMap jJ).length=n*8:=by rw[mQ jJ 8 (λ_=>rfl),bK,fZ hn]
 have hnews:0<n->∃ad,ca=M ad/\∀j u,((v.com.take n).flatMap jJ)[j]? =M u->w.drew.cell? (ad.add j)=M u:=λhp=>by
  obtain⟨g,off,cap,e,_⟩:=h.com.pos aA;rw[hvc]at e;cases e;refine⟨_,rfl,λj u hj=>?_⟩
  have:(v.com.flatMap jJ)[j]? =M u:=by
   rw[<-mj n v.com,iw,bZ (aN.1 hj).1];exact hj
  have:=h.com.cell hvc j u this;unfold Addr.add;split
  .rename_i h0;subst h0;exact this
  .exact this
 have hone:=Qa (l:=v.com.take n) λp hp=>h.lor p (ml _ (jd hp));have H:cJ _:=jy h (jy hrow (jy hnl (jy hnews (jy hone (jy hi0 (jy hz0 (jy hz1 hz2)))))));have hfew:=h.few;have HV:cJ _:=jy hvl hvc;clear h hrow hnl hnews hone hi0 hz0 hz1 hz2 hvl hvc;go_enter (fq Tryz.func23 rfl),Tryz.ntmps23;go_upto_region 0 with fail;go_cut [15] (λvl wx=>cJ (VH w v n vl wx))
 case first=>
  go_region_law ((refine yI (by rfl) (.tmp 8) (.tmp 14) 44 (by rfl) 52 i0 _ 8 96 (uq ma) H.out.2.2.2.2.2.1 H.out.2.2.2.2.2.2.1 H.out.2.2.2.2.2.2.2.1 H.out.2.2.2.2.2.2.2.2 (by rfl) aB _ v.log.length _ (by rfl) H.out.2.1 ca n cc _ (by rfl) H.out.2.2.1 H.out.2.2.2.1 H.out.2.2.2.2.1 (by unfold maxLen;omega) aA ?_;intro a' cap' w4 hr4 hc4 ho4;have hk4:=(hc4.block v.vb (jE H.out.1.obj) (λe=>H.out.1.apart.2.1 (by rw[HV.out.1];exact e))).trans H.out.1.obj;have f4:=aQ hk4;obtain⟨d0,d1,d2,d3⟩:=cells4 hk4;have H4:cJ _:=jy hr4 (jy hc4 (jy ho4 hk4));clear hr4 hc4 ho4 hk4))
  all_goals
   go_wp2_with fail;go_meet;obtain⟨h1,h2,h3⟩:=H.out.1.apart;have hvb:=(jE H.out.1.obj)
   rw[<-HV.out.1]at H4;have hc:jI (VL v) w (w4.setCell ⟨v.vb,2,Z⟩ (.slice a' (v.log.length+n) cap')):=((jI.drew _ w).trans H4.out.2.1 λk _ e=>cF (bN e)).trans (.set w4 v.vb 2 _) λk _ e=>bN e;refine⟨by rw[block_setCell H4.out.2.2.2];rfl,H4.out.1.jM (.set w4 v.vb 2 _) λg hg e=>?_,(H.out.1.com.jM ((jI.drew _ w).trans H4.out.2.1 λ_ _ e=>e) λg hg e=>H.out.1.ne g e hg).jM (.set w4 v.vb 2 _) λg hg e=>h3 (by rw[hg,e]),hc,H4.out.2.2.1⟩;obtain e'|e':=H4.out.2.2.1 g hg
   .exact h2 (by rw[e',e])
   .exact Xs e' (by show ¬w.heap.size<=g;omega)
 case rest=>
  have HX:=hcut;clear hcut c0 c1 c2 c3 fz;obtain⟨c0,c1,c2,c3⟩:=cells4 HX.out.obj;have hD:=adp _ _ n _ wc HX.out.com (Qa (l:=v.com) λp hp=>H.out.1.lor p (ml _ hp)) hn aA;have HD:cJ _:=λ(_:Unit)=>hD;clear hD;go_wp2_with (go_at_call 39;refine aT (HD.out ()) ?_;rintro e w5 ⟨a5,cap5,rfl,hr5,ho5,hc5⟩;have hk5:=(hc5.block v.vb (jE HX.out.obj) (λe=>H.out.1.apart.2.2 e)).trans HX.out.obj;have f5:=aQ hk5;obtain⟨d0,d1,d2,d3⟩:=cells4 hk5;have H5:cJ _:=jy hr5 (jy ho5 (jy hc5 hk5));clear hr5 ho5 hc5 hk5)
  go_end0;obtain⟨h1,h2,h3⟩:=H.out.1.apart;have hs:=jI.set w5 v.vb 3 (.slice a5 (v.com.length-n) cap5);have hc:jI (VL v) w (w5.setCell ⟨v.vb,3,Z⟩ (.slice a5 (v.com.length-n) cap5)):=(HX.out.jM.trans H5.out.2.2.1 λk _ e=>cF (cF e)).trans hs λk _ e=>bN e;have hr:=H.out.1.ro (hc.mono λk _ e=>bN e)
  have hlog:∀g,(u15:aD).ownBlock=M g->v.vc.ownBlock≠M g/\g≠v.vb:=λg hg=>by
   have hvb:=(jE H.out.1.obj)
   obtain e|e:=HX.out.own g hg
   .exact⟨H.out.1.ne g e,λe'=>h2 (by rw[e,e'])⟩
   .exact⟨λe'=>by have:=H.out.1.com.lt e';omega,aA⟩
  refine⟨rfl,u15,.slice a5 (v.com.length-n) cap5,⟨?_,?_,?_,?_,λp hp=>(H.out.1.lor p ?_).ro hr,λg hg=>by rw[H5.out.2.1];exact(hlog g hg).1,?_⟩,hc,HX.out.own,H5.out.2.1⟩
  .rw[block_setCell H5.out.2.2.2];rfl
  .exact H.out.1.seen.jM hc λg hg e=>by
    obtain⟨c,hc⟩:=H.out.1.seen.obj hg
    have key:∀{u:aD}{m:Nat}{ys:List aD},Row w 52 8 u m ys->u.ownBlock≠M g:=λhr e=>by
     obtain⟨c',hc'⟩:=hr.obj e;rw[hc]at hc';simp at hc'
    obtain rfl|e|e:=e
    .exact h1 hg
    .exact key H.out.1.log e
    .exact key H.out.1.com e
  .have:=(HX.out.log.jM H5.out.2.2.1 λg hg=>(hlog g hg).1).jM hs λg hg=>(hlog g hg).2;simpa[iw,fZ hn]using this
  .have:=H5.out.1.jM hs λg hg e=>h3 (by rw[<-H5.out.2.1,hg,e])
   have e:(v.com.drop n).flatMap jJ=(v.com.flatMap jJ).drop (n*8):=by
    have h1:v.com.flatMap jJ=(v.com.take n).flatMap jJ++(v.com.drop n).flatMap jJ:=by rw[<-iw,mj]
    rw[h1,<-H.out.2.2.1,List.drop_left]
   simpa[e]using this
  .dsimp only at hp;rw[fM,mj]at hp;exact hp
  .simp only[aS,bK,dW];omega
end
open Dv (Lo Cf)
def tK(c:Cf)(w:X):X:=((((w.alloc (aL (jF c) 24)).alloc (aL (jF c) 24)).alloc (.map #[] 0)).alloc (aL (jP c (aM Z 0 0) (w.heap.size+2) (aM Z 0 0) (aM Z 0 0) 0 0 0) 100)).alloc (aL #[aM Z 0 0,aG (M ⟨w.heap.size+3,0,Z⟩),aM Z 0 0,aM Z 0 0] 73)
def zZ(c:Cf)(w:X):eL PQ 20 #[.agg (jF c)] w λe w'=>e=bX (aG (M ⟨w.heap.size+4,0,Z⟩))/\w'=tK c w:=by
 obtain⟨W,z,-,I⟩:=jD w (jF c) 24;have hC:=new_any c W;have hs:W.heap.size=w.heap.size+1:=by rw[z];simp
 rw[hs]at hC;have J:cJ _:=λ(_:Unit)=>hC;have Y:cJ _:=jy z hs;unfold jF at I J z⊢;obtain⟨z0,z1,z2,z3,z4,z5,z6⟩:=Dn I;clear hC I hs;go_enter (fq Tryz.func20 rfl),Tryz.ntmps20;go_upto_region 1 with fail;rw[<-z];clear z;go_wp2_with (go_at_call 30;refine aT (J.out ()) ?_;rintro e w1 ⟨rfl,E⟩;have R:cJ _:=E;clear E)
 go_ret;have E:=R.out;obtain⟨z,hs⟩:=Y.out;have h2:w1.heap.size=w.heap.size+4:=by rw[E];simp[hs]
 refine⟨?_,?_⟩
 .show Ending.returned (aG (M ⟨w1.heap.size,0,Z⟩))=_
  rw[h2]
 .rw[E,z];rfl
def SB(v:Vw)(w:X)(h:lF w v)(z:v.seen.length<=4294967296):eL PQ 43 #[aG (M ⟨v.vb,0,Z⟩)] w λe w'=>e=bX (N aE ((v.seen.length:Int)-1))/\w'=w:=by obtain⟨a,cap,hs⟩:=h.seen.slice;have c0:=kJ h.obj;rw[hs]at c0;clear h hs;go_enter (fq Tryz.func43 rfl),Tryz.ntmps43;go_wp2_with fail;go_ret;exact⟨rfl,rfl⟩
def KG(v:Vw)(a:Option fR)(n cap:Nat)(w:X)(h:lF w v):eL PQ 64 #[aG (M ⟨v.vb,0,Z⟩),.slice a n cap] w λe w'=>e=bX (.bool (decide (v.com.length=0/\v.log.length<n)))/\w'=w:=by
 obtain⟨la,Y,E⟩:=h.log.slice;obtain⟨ca,cc,hc⟩:=h.com.slice;obtain⟨-,-,I,J⟩:=cells4 h.obj;rw[E]at I;rw[hc]at J;clear h E hc;generalize v.com.length=x at *;generalize v.log.length=y at *;go_enter (fq Tryz.func64 rfl),Tryz.ntmps64;by_cases z:x=0
 .subst z;go_wp2_with fail;go_ret;exact⟨aC,rfl⟩
 .have R:((x:Int) == (0:Int))=aR:=ZS aA;go_wp2_with fail;go_ret;exact⟨by simp[z],rfl⟩
section
variable {ps:List PL}
section
variable {α:Type}(f:α->List aD)(s:Nat)(hf:∀x,(f x).length=s)
include hf
theorem Me:∀(l:List α)(i j:Nat)(x y:α)(u:aD),l[i]? =M x->j<s->f y=(f x).set j u->(l.flatMap f).set (i*s+j) u=(l.set i y).flatMap f
 |[],i,j,x,y,u,h,_,_=>by simp at h
 |z::l,0,j,x,y,u,h,hj,hy=>by
  simp at h;subst h;rw[gY,Nat.zero_mul,fJ,List.set_append_left _ _ (by rw[hf];exact hj),dO,gY,hy]
 |z::l,i+1,j,x,y,u,h,hj,hy=>by
  rw[gY,List.set_append_right _ _ (by rw[hf,iP];omega),hf,show(i+1)*s+j-s=i*s+j by rw[iP];omega,Me l i j x y u (by simpa using h) hj hy,dP,gY]
end
theorem map_set{i:Nat}{p q:PL}(h:ps[i]? =M p)(e:q.1=p.1):(ps.set i q).map cI=ps.map cI:=by rw[List.map_set,e];obtain⟨z,rfl⟩:=aN.1 h;have:(ps.map cI).set i ((ps.map cI)[i]'(by simpa using z))=ps.map cI:=List.set_getElem_self _;simpa using this
structure LI2(w:X)(va:aD)(ls:List Lo)(ps:List PL)(wx:X):Prop where
 row:Row wx 52 8 va ps.length (ps.flatMap jJ)
 fst:ps.map cI=ls
 lor:∀p,p∈ps->IE wx p
 low:∀g,va.ownBlock=M g->w.heap.size<=g
 b:cG w.heap.size w wx
theorem LI2.put{w J w1:X}{g off cap n j i:Nat}{ls:List Lo}{p q:PL}{u:aD}(h:LI2 w (aM (M ⟨g,off,Z⟩) n cap) ls ps J)(hn:ps.length=n)(hp:ps[i]? =M p)(E:cG J.heap.size J w1)(hj:j<8)(hq:jJ q=(jJ p).set j u)(e:q.1=p.1)(R:IE w1 q):LI2 w (aM (M ⟨g,off,Z⟩) n cap) ls (ps.set i q) (w1.setCell ⟨g,off+i*8+j,Z⟩ u)/\IE (w1.setCell ⟨g,off+i*8+j,Z⟩ u) q:=by
 subst hn;have Y:=h.row.below E
 have z:Ro w1 (w1.setCell ⟨g,off+i*8+j,Z⟩ u):=.jM (.set w1 g _ u) λk cs t fz hk hc=>by
  subst hk;obtain⟨c,I⟩:=Y.obj (g:=k) rfl;rw[I]at hc;simp at hc;rw[<-hc.2.1];exact⟨aB,aB⟩
 refine⟨⟨?_,(map_set hp e).trans h.fst,λp' hp'=>?_,h.low,((jI.below (h.b.trans (E.mono h.b.size)) jB (λ_=>False)).trans (.set w1 g _ u) λk hk e=>?_).lQ⟩,R.ro z⟩
 .have:=Y.put (j:=i*8+j) u;rw[Me jJ 8 (λ_=>rfl) ps i j p q u hp hj hq,<-dV]at this;rw[oc];exact this
 .obtain hp'|rfl:=List.mem_or_eq_of_mem_set hp'
  .exact((h.lor p' hp').below E).ro z
  .exact R.ro z
 .have:=h.low g rfl;omega
theorem P7(v:aD)(ps:List PL)(w:X)(h:pz w v ps)(hl:ps.length<=4294967296)(hn:0<ps.length)(hs:∀p,p∈ps->p.1.txs.length<=4294967296/\p.1.deps.length<=4294967296):eL PQ 28 #[v] w λe w'=>∃va qs,e=bX va/\LI2 w va (ps.map cI) qs w':=by
 have hC:=Y9 v ps.length _ w h.1 (Qa h.2) hl;have HC:cJ _:=λ(_:Unit)=>hC;have H:cJ _:=jy h hs;clear h hs hC;go_enter (fq Tryz.func28 rfl),Tryz.ntmps28;go_upto_region 2 with(go_at_call 46;refine aT (HC.out ()) ?_;rintro e w1 ⟨a,cap,rfl,hr,ho,Y⟩;have H1:cJ _:=jy hr (jy ho Y);clear hr ho Y)
 obtain⟨g,off,an,e,_⟩:=H1.out.1.pos hn;cases e;go_upto_region 3 with fail;go_loopg [4,9] ps.length (λgg _ t wx=>∃i:Nat,t=N aE i/\i<=ps.length/\gg=ps.length-i/\cJ (∃qs,qs.length=ps.length/\LI2 w (aM (M ⟨g,off,Z⟩) ps.length cap) (ps.map cI) qs wx))
 case atStart=>exact⟨0,rfl,dL _,rfl,ps,rfl,H1.out.1,rfl,λp hp=>(H.out.1.2 p hp).below H1.out.2.2,H1.out.2.1,H1.out.2.2⟩
 case round=>
  obtain⟨i,rfl,hi,rfl,HI⟩:=hrel;obtain⟨qs,hq,hI⟩:=HI.out;by_cases ao:i<ps.length
  .have af:(i:Int)<ps.length:=by omega
   obtain⟨q,I⟩:∃q,qs[i]? =M q:=⟨_,aO aA⟩
   obtain⟨l,v1,v2⟩:=q;have hm:=hI.lor _ (aX I);obtain⟨a1,c1,e1⟩:=Row.slice hm.1;obtain⟨a2,c2,e2⟩:=Row.slice hm.2;dsimp only at e1 e2;subst e1 e2
   have J:l.txs.length<=4294967296/\l.deps.length<=4294967296:=by
    have:l∈ps.map cI:=by rw[<-hI.fst];exact bM.2 ⟨_,aX I,rfl⟩
    obtain⟨p,hp,rfl⟩:=bM.1 this;exact H.out.2 p hp
   have kk:=λ(j:Nat) u (hj:j<8) (hu:(jJ (l,.slice a1 l.txs.length c1,.slice a2 l.deps.length c2))[j]? =M u)=>hI.row.cell (by rw[hq]) (i*8+j) u ((flat_get jJ 8 (λ_=>rfl) qs i j _ I hj).trans hu);have k5:=kk 5 _ aA rfl;rw[<-dV]at k5;have ag:=CB _ _ _ wr (Row.rd hm.1) (λu hu=>by obtain⟨t,_,rfl⟩:=bM.1 hu;rfl) J.1;have aj:cJ _:=λ(_:Unit)=>ag;have hg:=hI.row.lt (g:=g) (by rfl);have HJ:cJ _:=jy hI (jy I (jy hm J));have fg:=hI.row.frozen (by rw[hq]);clear hI I hm J kk ag;go_upto_region 6 with(go_at_call 47;refine aT (aj.out ()) ?_;rintro e w2 ⟨a3,c3,rfl,hr,ho,Y⟩;have ah:=(Y.cell (p:=⟨g,off+i*8+5,Z⟩) hg).trans k5;have f5:w2.frozen? ⟨g,off+i*8+5,Z⟩=aR:=by { have:=Y.block g hg;unfold js;rw[this];exact fg _ };have H2:cJ _:=jy hr (jy ho Y);clear hr ho Y)
   obtain⟨hI,I,hm,J⟩:=HJ.out;obtain⟨E,R⟩:=hI.put (j:=5) (q:=(l,.slice a3 l.txs.length c3,.slice a2 l.deps.length c2)) (u:=.slice a3 l.txs.length c3) hq I H2.out.2.2 aA rfl rfl ⟨H2.out.1,Row.below hm.2 H2.out.2.2⟩;have z:(qs.set i (l,.slice a3 l.txs.length c3,.slice a2 l.deps.length c2))[i]? =M (l,.slice a3 l.txs.length c3,.slice a2 l.deps.length c2):=by rw[List.getElem?_set_self aA]
   have aa:(qs.set i (l,aM a3 l.txs.length c3,aM a2 l.deps.length c2)).length=ps.length:=by rw[oc];exact hq
   obtain⟨Wd,hX⟩:∃Wd,Wd=w2.setCell ⟨g,off+i*8+5,Z⟩ (.slice a3 l.txs.length c3):=⟨_,rfl⟩
   rw[<-hX]at E R⊢;generalize qs.set i (l,aM a3 l.txs.length c3,aM a2 l.deps.length c2)=rs at *;have k6:=E.row.cell (by rw[aa]) (i*8+6) (.slice a2 l.deps.length c2) ((flat_get jJ 8 (λ_=>rfl) rs i 6 _ z aA).trans rfl);rw[<-dV]at k6;have ae:=CB _ _ _ Wd (Row.rd R.2) (λu hu=>by obtain⟨t,_,rfl⟩:=bM.1 hu;rfl) J.2;have am:cJ _:=λ(_:Unit)=>ae;have ac:=E.row.lt (g:=g) (by rfl);have ai:=E.row.frozen (by rw[aa]);have HK:cJ _:=jy E (jy z R);clear hI I hm J E R z ae hX k5 ah f5 fg;go_wp2_with (go_at_call 47;refine aT (am.out ()) ?_;rintro e w3 ⟨a4,c4,rfl,hr,ho,Y⟩;have ap:=(Y.cell (p:=⟨g,off+i*8+6,Z⟩) ac).trans k6;have f6:w3.frozen? ⟨g,off+i*8+6,Z⟩=aR:=by { have:=Y.block g ac;unfold js;rw[this];exact ai _ };have H3:cJ _:=jy hr (jy ho Y);clear hr ho Y)
   go_roundg (ps.length-(i+1))
   case measure=>omega
   case rel=>
    obtain⟨E,z,R⟩:=HK.out;obtain⟨ak,aq⟩:=E.put (j:=6) (q:=(l,.slice a3 l.txs.length c3,.slice a4 l.deps.length c4)) (u:=.slice a4 l.deps.length c4) aa z H3.out.2.2 aA rfl rfl ⟨Row.below R.1 H3.out.2.2,H3.out.1⟩;exact⟨i+1,by go_num,aA,rfl,_,by rw[oc];exact aa,ak⟩
  .have af:¬(i:Int)<ps.length:=by omega
   have HJ:cJ _:=hI;clear hI;go_wp2_with fail;go_ret;exact⟨_,rfl,qs,HJ.out⟩
end
open Dv (X2)
section
section
variable {w w' W w1:X}{sb:Nat}{vb:aD}{ps:List PU}{last sil:Nat}{ev:aD}{i:Int}{e:pv}
theorem rW.wrap{x0 x1 x2 x3:aD}(h:ku w sb vb ps last sil)(R:cG w.heap.size w W)(Y:W.heap[w.heap.size]? =M (aL #[x0,x1,x2,x3] 28 (0,0)))(E:rW W sb vb ps last sil ev i e w1):∃u:X2,∃ta tn tc la ln J b v,e=bX (cP #[.agg #[N aE u.id,N aE u.time,.slice ta tn tc,.slice la ln J],.bool b,v])/\w1.heap[w.heap.size]? =M (aL #[x0,x1,x2,x3] 28 (0,0))/\rW w sb vb ps last sil ev i e (Iz w1 w.heap.size (N aE u.id) (N aE u.time) (.slice ta tn tc) (.slice la ln J)):=by
 have hl:=h.lt;have hW:=h.below R;unfold rW at E⊢;by_cases h0:0<sil
 .simp only[ZD h0]at E⊢;obtain⟨rfl,hs,hc⟩:=E;have z:=(hc.block _ (jE Y) aA).trans Y;obtain⟨q1,q2⟩:=nK z (N aE 0) (N aE 0) (aM Z 0 0) (aM Z 0 0);refine⟨⟨0,0,[],[]⟩,Z,0,0,Z,0,0,aR,ev,rfl,z,rfl,hs.kept (λk hk=>q2.block k ?_ ?_) (.jM q2 λk cs t fz hk e=>?_),((jI.below R jB _).trans hc λ_ _ e=>e).trans q2 λk hk e=>aA⟩
  .obtain rfl|e:=hk
   .exact hs.lt
   .exact hs.row.lt e
  .obtain rfl|e:=hk
   .omega
   .have:=h.row.lt e;omega
  .subst hk;rw[z]at e;simp at e;rw[<-e.2.1];exact⟨aB,aB⟩
 .simp only[Zs h0]at E⊢;obtain⟨I,E⟩:=E;have z:=(I.block _ (jE Y)).trans Y;have hB:=λa b c d=>((jI.below (R.trans (I.mono R.size)) jB (λ_=>False)).trans (nK z a b c d).2 λk hk e=>aA).lQ;obtain⟨n,p,hi,hp,rfl⟩|⟨hi,rfl⟩:=E
  .obtain⟨u,vt,vl⟩:=p;have hu:=h.up _ (aX hp);obtain⟨ta,tc,rfl⟩:∃a c,vt=.slice a u.txs.length c:=hu.1.slice;obtain⟨la,J,rfl⟩:∃a c,vl=.slice a u.logs.length c:=Row.slice hu.2;exact⟨u,ta,_,tc,la,_,J,bB,_,rfl,z,hB _ _ _ _,bN ⟨n,_,hi,hp,rfl⟩⟩
  .exact⟨⟨0,0,[],[]⟩,Z,0,0,Z,0,0,aR,_,rfl,z,hB _ _ _ _,cF ⟨hi,rfl⟩⟩
theorem rW.from(E:cG w.heap.size w W)(z:rW W sb vb ps last sil ev i e w1):rW w sb vb ps last sil ev i e w1:=by
 unfold rW at z⊢;split at z
 .rename_i h;rw[ZD h];exact⟨z.1,z.2.1,(jI.below E jB _).trans z.2.2 λ_ _ e=>e⟩
 .rename_i h;rw[Zs h];exact⟨E.trans (z.1.mono E.size),z.2⟩
theorem II(h:ku w sb vb ps last sil)(E:w.cell? ⟨0,0,Z⟩=M ev):eL PQ 21 #[aG (M ⟨sb,0,Z⟩),N aE i] w (rW w sb vb ps last sil ev i):=by
 obtain⟨W,R,J,Y⟩:=jD w #[N aE 0,N aE 0,aM Z 0 0,aM Z 0 0] 28;have I:=CO i (h.below J) (lu E J);have HA:cJ _:=λ(_:Unit)=>I;have H:cJ _:=jy h (jy J Y);clear h J Y I E;go_enter (fq Tryz.func21 rfl),Tryz.ntmps21;go_upto_region 1 with fail;rw[<-R];clear R;go_wp2_with (go_at_call 38;refine aT (HA.out ()) ?_;intro e w1 I;obtain⟨u,ta,tn,tc,la,ln,lc,b,v,rfl,z,hP⟩:=I.wrap H.out.1 H.out.2.1 H.out.2.2;have fz:=aQ z;obtain⟨z0,z1,z2,z3⟩:=cells4 z;have HP:cJ _:=jy hP z;clear hP z I)
 exact cN (Uf (p:=(u,.slice ta tn tc,.slice la ln lc)) rfl rfl rfl rfl (nK HP.out.2 _ _ _ _).1) rfl HP.out.1
theorem TU(u:X2)(ta la:Option fR)(tn tc J E:Nat)(id:Int)(R:Nat)(hc:w.cell? ⟨R,0,Z⟩=M (N aE id)):eL PQ 95 #[.agg #[N aE u.id,N aE u.time,.slice ta tn tc,.slice la J E],aG (M ⟨R,0,Z⟩)] w λe w'=>e=bX (.bool (decide (u.id=id)))/\cG w.heap.size w w':=by obtain⟨W,I,z,Y⟩:=jD w #[N aE u.id,N aE u.time,.slice ta tn tc,.slice la J E] 28;have z0:=kJ Y;have hc:=lu hc z;have Hb:cJ _:=z;clear z Y;go_enter (fq Tryz.func95 rfl),Tryz.ntmps95;go_upto_region 1 with fail;rw[<-I];clear I;go_wp2_with fail;go_ret;exact⟨rfl,Hb.out⟩
theorem MW(id:Int)(bb:Nat)(h:ku w sb vb ps last sil)(hn:0<ps.length)(hc:w.cell? ⟨bb,0,Z⟩=M (N aE id)):eL PQ 94 #[vb,.func (.func 95) #[] #[aG (M ⟨bb,0,Z⟩)]] w λe w'=>e=bX (N aE (idx (λp:PU=>decide (p.1.id=id)) ps))/\cG w.heap.size w w':=by
 have eg:=enters_of (P:=PQ) (fq Tryz.func95 rfl) XN rfl;obtain⟨g,off,cap,rfl,af⟩:=h.row.pos hn;have Hf:cJ _:=λ(W:X)(hb:cG w.heap.size w W)(j:Nat)(p:PU)(R:ps[j]? =M p)(i:Nat) x (hi:i<4) (hx:(oq p)[i]? =M x)=>Rd.rec oq 4 (λ_=>rfl) (h.below hb).row.rd R hi hx;have Hc:cJ _:=hc;have H:cJ _:=h;have ae:=h.len;clear h hc;go_enter (fq Tryz.func94 rfl),Tryz.ntmps94;go_wp2_with fail;go_loopg [5,8] ps.length (λgg _ v8 wx=>∃i:Nat,i<=ps.length/\v8=N aE i/\gg=ps.length-i/\cJ (∀(j:Nat)(y:PU),j<i->ps[j]? =M y->decide (y.1.id=id)=aR)/\cJ (cG w.heap.size w wx))
 case atStart=>exact⟨0,dL _,rfl,rfl,λj y R=>aA,aJ _ _⟩
 case round=>
  obtain⟨i,hi,rfl,rfl,Hi,I⟩:=hrel;by_cases ac:i<ps.length
  .have aa:(i:Int)<ps.length:=by omega
   obtain⟨⟨u,vt,vl⟩,ht⟩:∃t,ps[i]? =M t:=⟨_,aO ac⟩
   have hu:=H.out.up _ (aX ht);obtain⟨ta,tc,rfl⟩:∃a c,vt=.slice a u.txs.length c:=hu.1.slice;obtain⟨la,lc,rfl⟩:∃a c,vl=.slice a u.logs.length c:=Row.slice hu.2;have k0:=Hf.out wr I.out i _ ht 0 _ aA rfl;have k1:=Hf.out wr I.out i _ ht 1 _ aA rfl;have k2:=Hf.out wr I.out i _ ht 2 _ aA rfl;have k3:=Hf.out wr I.out i _ ht 3 _ aA rfl;rw[<-dV]at k0 k1 k2 k3;rw[Nat.add_zero]at k0;have z:=TU u ta la u.txs.length tc u.logs.length lc id bb (lu Hc.out I.out);have Ht:cJ _:=ht;clear ht hu;cases hq:decide (u.id=id)
   .rw[hq]at z;have E:cJ _:=λ(_:Unit)=>z;have Hq:cJ _:=hq;clear z hq;go_wp2_with (go_at_call 95;refine(E.out ()).mono ?_;rintro e w2 ⟨rfl,Y⟩)
    go_roundg (ps.length-(i+1))
    case measure=>omega
    case rel=>
     refine⟨i+1,aA,by go_num,rfl,λj y R J=>?_,I.out.trans (Y.mono I.out.size)⟩;obtain R|rfl:=jm (Nat.lt_succ_iff.1 R)
     .exact Hi.out j y R J
     .rw[Ht.out]at J;cases J;exact Hq.out
   .rw[hq]at z;have E:cJ _:=λ(_:Unit)=>z;have Hq:cJ _:=hq;clear z hq;go_wp2_with (go_at_call 95;refine(E.out ()).mono ?_;rintro e w2 ⟨rfl,Y⟩)
    go_ret;exact⟨by rw[xR Ht.out Hq.out (λj y R J=>Hi.out j y R J)];rfl,I.out.trans (Y.mono I.out.size)⟩
  .have aa:¬(i:Int)<ps.length:=by omega
   go_wp2_with fail;go_ret;refine⟨?_,I.out⟩;rw[xB (λj y J=>Hi.out j y (by have:=(aN.1 J).1;omega) J)];rfl
theorem X4(id:Int)(h:ku w sb vb ps last sil)(hn:0<ps.length)(R:w.cell? ⟨0,0,Z⟩=M ev):eL PQ 63 #[aG (M ⟨sb,0,Z⟩),N aE id] w (rW w sb vb ps last sil ev (idx (λp:PU=>decide (p.1.id=id)) ps)):=by
 obtain⟨V,hV,J,hi⟩:=jD w #[N aE id] 3;obtain⟨W,hW,z,hz⟩:=jD V #[N aE 0,N aE 0,aM Z 0 0,aM Z 0 0] 28;have aa:cJ (V.heap.size=w.heap.size+1):=by show _=_;rw[hV];simp
 have hI:=MW id w.heap.size ((h.below J).below z) hn (lu (kJ hi) z);have c0:=kJ ((h.below J).below z).obj;have HI:cJ _:=λ(_:Unit)=>hI;have H:cJ _:=jy h (jy J (jy z (jy hz R)));have hl:=h.lt;have ac:w.heap.size<V.heap.size:=(jE hi)
 obtain⟨q,hq⟩:∃q,q=idx (λp:PU=>decide (p.1.id=id)) ps:=⟨_,rfl⟩
 rw[<-hq]at HI⊢;clear h J z hz hI R hi;go_enter (fq Tryz.func63 rfl),Tryz.ntmps63;go_upto_region 1 with fail;rw[<-hV,<-hW];clear hV hW hq;go_wp2_with (first|(go_at_call 94;refine aT (HI.out ()) ?_;rintro e w2 ⟨rfl,Y⟩;have I:cJ _:=Y;clear Y)|(go_at_call 38;refine aT (CO q (((H.out.1.below H.out.2.1).below H.out.2.2.1).below I.out) (lu (lu (lu H.out.2.2.2.2 H.out.2.1) H.out.2.2.1) I.out)) ?_;intro e w3 hA;obtain⟨u,ta,tn,tc,la,ln,lc,b,v,rfl,E,hP⟩:=hA.wrap (H.out.1.below H.out.2.1) (H.out.2.2.1.trans (I.out.mono H.out.2.2.1.size)) ((I.out.block _ (jE H.out.2.2.2.1)).trans H.out.2.2.2.1);rw[aa.out]at E hP;have fz:=aQ E;obtain⟨z0,z1,z2,z3⟩:=cells4 E;have HP:cJ _:=jy (hP.from H.out.2.1) E;clear hP E hA))
 exact cN (Uf (p:=(u,.slice ta tn tc,.slice la ln lc)) rfl rfl rfl rfl (nK HP.out.2 _ _ _ _).1) rfl HP.out.1
end
end
end Hm
namespace Hm
open Go.RowKit Go.Joins Go.Shelf
open Fr (below_drewN)
open Dv (Lo)
attribute [local go_sem] Oper.semAt_some
variable {W w:X}{sb last sil nk:Nat}{vb e k:aD}{ps:List PU}
theorem Hw(a:Option fR)(n c:Nat)(w:X):eL PQ 93 #[.slice a n c] w λe w'=>e=bX (.func (.func 130) #[] #[aG (M ⟨w.heap.size,0,Z⟩)])/\w'=w.alloc (aL #[.slice a n c] 70):=by go_enter (fq Tryz.func93 rfl),Tryz.ntmps93;go_wp2_with fail;go_ret;exact⟨rfl,rfl⟩
theorem EC(v:Vw)(a:Option fR)(c:Nat)(w:X)(h:lF w v)(z:v.vs=.slice a v.seen.length c):eL PQ 62 #[aG (M ⟨v.vb,0,Z⟩)] w λe w'=>e=bX (.func (.func 130) #[] #[aG (M ⟨w.heap.size,0,Z⟩)])/\w'=w.alloc (aL #[.slice a v.seen.length c] 70):=by
 have c0:=kJ h.obj;rw[z]at c0;clear h z;go_enter (fq Tryz.func62 rfl),Tryz.ntmps62;go_wp2_with (go_at_call 93;refine aT (Hw a v.seen.length c _) ?_;rintro e w1 ⟨rfl,rfl⟩)
 go_ret;exact⟨rfl,rfl⟩
def BwS(E g off n cap:Nat)(id:Int)(z:List Unit)(W:X):Prop:=z=[]/\W.cell? ⟨E,0,Z⟩=M (aM (M ⟨g,off,Z⟩) n cap)/\W.cell? ⟨g,off+(n-1),Z⟩=M (N aE id)
theorem Vu(R g off n cap:Nat)(id:Int)(hn:0<n)(hl:n<=4294967296):OX PQ 130 #[aG (M ⟨R,0,Z⟩)] (λ_:Unit=>#[N aE ((n:Int)-1),N aE id]) (λ_=>False) (BwS R g off n cap id) (λ_ _=>True) (λz _ _ W=>BwS R g off n cap id z W) (λ_=>False) (λz=>z=[()]):=by
 intro l J Jx W hM ac hS E I;obtain⟨-,c0,c1⟩:=hS;obtain⟨m,hm⟩:∃m,m=n-1:=⟨_,rfl⟩
 have aa:(n:Int)-1=m:=aA
 rw[<-hm]at c1;have HY:cJ _:=jy E I;have Hm:cJ _:=hm;clear E I hm hM;refine callsIn_of_wp (fq Tryz.func130 rfl) rfl trivial ?_ rfl;simp only[Tryz.ntmps130,dR,aU,bY,Nat.reduceAdd,Nat.reduceSub,dH,dG,dU,dI,dS,dN];gi_wp2;gi_loopw [3] (λt wr=>t=N aE m/\wr=W) (λ_ _=>0)
 case atStart=>exact⟨rfl,rfl⟩
 case round=>
  obtain⟨rfl,rfl⟩:=hrel;have ae:(0:Int)<=(m:Int):=aA
  have af:(m:Int)<(n:Int):=aA
  obtain⟨fn,tmps,assign,body,hy,hR⟩:=HY.out.1 [] () wr wr HY.out.2 (.refl _ _) ⟨rfl,c0,by rw[<-Hm.out];exact c1⟩;rw[aa]at hy;have HR:cJ _:=hR;clear hR;gi_wp2;refine RoundIn.mono HR.out ?_;rintro e W3 (⟨rfl,_,_,hS,_⟩|⟨rfl,Y⟩)
  .cases hS.1
  .gi_wp2;refine cN (results_none rfl _ _ _) rfl ?_;exact⟨⟨_,rfl⟩,cF ⟨_,W3,rfl,Y,.refl _ _⟩⟩
def lI(c:Dv.Cf)(sb vb:Nat)(rs:Bool):Array aD:=#[N .u32 c.inbox,N .u32 c.batcher,N aE c.timeout,N aE c.window,N aE c.drift,N aE c.step,N aE c.most,aG (M ⟨sb,0,Z⟩),aG (M ⟨vb,0,Z⟩),.bool rs]
structure YR(w:X)(nk:Nat)(k e:aD)(W:X):Prop where
 box:W.heap[w.heap.size]? =M (aL #[aG (M ⟨nk,0,Z⟩)] 31 (0,0))
 r1:W.heap[w.heap.size+1]? =M (aL #[k] 3 (0,0))
 r2:W.heap[w.heap.size+2]? =M (aL #[e] 62 (0,0))
def Ll(w:X)(sb:Nat)(vb:aD)(ps:List PU)(last sil:Nat)(ev:aD)(k:aD)(e:pv)(w':X):Prop:=
 if 0<sil then e=bX (cP #[k,ev])/\ku w' sb vb ps last (sil-1)/\jI (λk=>k=sb) w w'
 else e=bX (cP #[k,.nilIface])/\cG w.heap.size w w'
theorem Gt{b o:Nat}{v:aD}(h:W.cell? ⟨b,o,Z⟩=M v):∃cs t z,W.heap[b]? =M (aL cs t z):=by
 unfold World.cell? at h;simp only at h;split at h
 .rename_i cs t z hk;exact⟨cs,t,z,hk⟩
 .cases h
theorem BwS.own(E g off n cap:Nat)(id:Int)(m:Nat):OwnFrom m (BwS E g off n cap id):=by rintro aa A B row ⟨R,J,h2⟩ Y hr;obtain⟨M',hc,I,ac⟩:=lH Y hr;obtain⟨cs,t,fz,hk⟩:=Gt J;obtain⟨cs',t',ae,z⟩:=Gt h2;exact⟨R,(cD (hc.block E (jE hk) (I _ _ _ _ hk))).trans J,(cD (hc.block g (jE z) (I _ _ _ _ z))).trans h2⟩
def CoI(w:X)(nk:Nat)(z:List Unit)(W:X):Prop:=z=[]/\YR w nk (N aE 0) .nilIface W/\jI (λ_=>False) w W
def CoX(w:X)(sb:Nat)(vb:aD)(ps:List PU)(last sil:Nat)(ev:aD)(k:aD)(c:Code)(_:List Unit)(W:X):Prop:=
 c=.ret/\∃e nk,YR w nk k e W/\Ll w sb vb ps last sil ev k (bX (cP #[k,e])) W
theorem rW.jM{w':X}{ev:aD}{i:Int}{e:pv}(h:rW w sb vb ps last sil ev i e w'):jI (λk=>k=sb) w w':=by
 unfold rW at h;split at h
 .exact h.2.2
 .exact .below h.1 jB _
theorem YR.kept{W':X}(h:YR w nk k e W)(hk:∀j,w.heap.size<=j->j<w.heap.size+3->W'.heap[j]? =W.heap[j]?):YR w nk k e W':=⟨(hk _ aA aA).trans h.box,(hk _ aA aA).trans h.r1,(hk _ aA aA).trans h.r2⟩
def coF(w w2:X)(a b c d k e:aD):X:=((w2.alloc (aL #[a,b,c,d] 28)).setCell ⟨w.heap.size+1,0,Z⟩ k).setCell ⟨w.heap.size+1+1,0,Z⟩ e
theorem YR.fin{w2:X}{J I:aD}(h:YR w nk J I w2)(a b c d k e:aD):YR w nk k e (coF w w2 a b c d k e)/\jI (λj=>j=w.heap.size+1\/j=w.heap.size+2) w2 (coF w w2 a b c d k e):=by
 have Y:=(jE h.r2)
 obtain⟨A,R,z,-⟩:=jD w2 #[a,b,c,d] 28;have hc:jI (λ_=>False) w2 A:=.below z jB _;have E:=h.kept (W':=A) λj _ hj=>hc.block j aA (λe=>e);unfold coF;rw[<-R];refine⟨⟨?_,?_,?_⟩,((hc.mono λ_ _ e=>e.elim).trans (.set _ (w.heap.size+1) 0 k) λ_ _ e=>bN e).trans (.set _ (w.heap.size+2) 0 e) λ_ _ e=>cF e⟩
 .rw[mB _ _ _ _ (by dsimp only;omega),mB _ _ _ _ (by dsimp only;omega)];exact E.box
 .rw[mB _ _ _ _ (by dsimp only;omega),block_setCell E.r1];rfl
 .rw[block_setCell ((mB _ _ _ _ (by dsimp only;omega)).trans E.r2)];rfl
theorem YR.lt(h:YR w nk k e W):w.heap.size+2<W.heap.size:=(jE h.r2)
theorem CoI.own(w:X)(nk m:Nat)(hm:w.heap.size+3<=m):OwnFrom m (CoI w nk):=by rintro R A B row ⟨I,E,h2⟩ J Y;obtain⟨M',hc,hM,z⟩:=lH J Y;have:=E.lt;exact⟨I,E.kept λj _ hj=>hc.block j aA (z j aA),h2.trans hc λk hk e=>z k aA e⟩
theorem CoX.own(w:X)(sb:Nat)(vb:aD)(ps:List PU)(last sil:Nat)(ev k:aD)(c:Code)(m:Nat)(hm:w.heap.size+3<=m):OwnFrom m (CoX w sb vb ps last sil ev k c):=by
 rintro aa A B row ⟨Y,e,nk,J,h2⟩ hg hr;obtain⟨M',hc,I,E⟩:=lH hg hr;have:=J.lt;refine⟨Y,e,nk,J.kept λj _ R=>hc.block j aA (E j aA),?_⟩;unfold Ll at h2⊢;split at h2
 .rename_i hs;rw[ZD hs];refine⟨h2.1,h2.2.1.kept (λj R=>?_) λg cs t fz z _=>hc.block g (jE z) (I _ _ _ _ z),h2.2.2.trans hc λk hk e=>Xs e (E k aA)⟩;obtain rfl|e:=R
  .exact hc.block _ h2.2.1.lt (I _ _ _ _ h2.2.1.obj)
  .obtain⟨cs,z⟩:=h2.2.1.row.obj e;exact hc.block _ (h2.2.1.row.lt e) (I _ _ _ _ z)
 .rename_i hs;rw[Zs hs];exact⟨h2.1,((jI.below h2.2 jB (λ_=>False)).trans hc λk hk e=>E k aA e).lQ⟩
theorem Ud{id:Int}(h:∃p,p∈ps/\p.1.id=id):∃i:Nat,idx (λp:PU=>decide (p.1.id=id)) ps=i/\i<ps.length:=by
 obtain⟨p,hp,e⟩:=h;unfold idx;cases z:ps.findIdx? (λp:PU=>decide (p.1.id=id))with
 |none=>
  rw[List.findIdx?_eq_none_iff]at z;have:=z p hp;simp[e]at this
 |some i=>
  exact⟨i,rfl,(iZ.1 z).1⟩
theorem Oa{c:Dv.Cf}{v:Vw}{rs:Bool}{te:cH}{xe:aD}{id:Int}(hN:w.heap[nk]? =M (aL (lI c sb v.vb rs) 60 (0,0)))(hS:ku w sb vb ps last sil)(hV:lF w v)(a2:w.cell? ⟨0,0,Z⟩=M (.iface te xe))(ar:v.seen[v.seen.length-1]? =M id)(hl:v.seen.length<=60)(hf:∃p,p∈ps/\p.1.id=id):eL PQ 42 #[aG (M ⟨nk,0,Z⟩)] w (Ll w sb vb ps last sil (.iface te xe) (N aE ((v.seen.length:Int)-1))):=by
 have hn:0<v.seen.length:=by have:=(aN.1 ar).1;omega
 obtain⟨g,off,cap,aj,_⟩:=hV.seen.pos hn;obtain⟨A,hA,ak,a0⟩:=jD w #[aG (M ⟨nk,0,Z⟩)] 31;obtain⟨B,hB,aa,b0⟩:=jD A #[N aE 0] 3;obtain⟨V,aq,ae,v0⟩:=jD B #[.nilIface] 62;have sA:A.heap.size=w.heap.size+1:=by rw[hA];simp
 have sB:B.heap.size=w.heap.size+2:=by rw[hB];simp[sA]
 rw[sA]at b0;rw[sB]at v0;have ag:cG w.heap.size w V:=ak.trans ((aa.trans (ae.mono aa.size)).mono ak.size);have ai:YR w nk (N aE 0) .nilIface V:=⟨((aa.trans (ae.mono aa.size)).block _ aA).trans a0,(ae.block _ aA).trans b0,v0⟩
 have kN:∀W,cG w.heap.size w W->W.cell? ⟨nk,7,Z⟩=M (aG (M ⟨sb,0,Z⟩))/\W.cell? ⟨nk,8,Z⟩=M (aG (M ⟨v.vb,0,Z⟩)):=λW hb=>by
  have:=(hb.block nk (jE hN)).trans hN;exact⟨by rw[aI this];rfl,by rw[aI this];rfl⟩
 have ac:=EC v (M ⟨g,off,Z⟩) cap V (hV.below ag) aj;have sV:V.heap.size=w.heap.size+3:=by rw[aq];simp[sB]
 rw[sV]at ac;have HA:cJ _:=λ(_:Unit)=>ac;have H:cJ _:=jy hS (jy hV (jy a2 (jy ar (jy hf (jy kN (jy ag (jy ai (jy aj sV))))))));obtain⟨_,k8⟩:=kN V ag;have x0:=kJ ai.box;obtain⟨n,av⟩:∃n,v.seen.length=n:=⟨_,rfl⟩
 rw[av]at hn hl HA⊢;have Hn:cJ _:=av;clear hN hS hV a2 ar hf kN ag ai ac aj ak aa ae a0 b0 v0 av;refine iN.1 (callsIn_of_wp_marks (n:=3) (fq Tryz.func42 rfl) rfl trivial ?_ rfl);simp only[Tryz.ntmps42,dR,aU,bY,Nat.reduceAdd,Nat.reduceSub,dH,dG,dU,dI,dS,dN];have af:V=((w.alloc (aL #[aG (M ⟨nk,0,Z⟩)] 31)).alloc (aL #[N aE 0] 3)).alloc (aL #[.nilIface] 62):=by rw[aq,hB,hA]
 clear hA hB aq;rw[af]at k8 x0;gi_wp2;rw[<-af];refine⟨trivial,(iN.2 (HA.out ())).mono ?_⟩;rintro e w' ⟨rfl,rfl⟩;obtain⟨Wd,hX,ay,x1⟩:=jD V #[aM (M ⟨g,off,Z⟩) n cap] 70;gi_wp2;rw[af]at hX;have sX:Wd.heap.size=w.heap.size+4:=by rw[hX];simp
 rw[<-hX];clear af hX;have az:=H.out.2.2.2.2.2.2.1.trans (ay.mono H.out.2.2.2.2.2.2.1.size);have x2:Wd.cell? ⟨w.heap.size+3,0,Z⟩=M (aM (M ⟨g,off,Z⟩) n cap):=by rw[H.out.2.2.2.2.2.2.2.2.2]at x1;exact kJ x1
 have x3:Wd.cell? ⟨g,off+(n-1),Z⟩=M (N aE id):=by
  have hr:=(H.out.2.1.below az).seen;refine hr.cell H.out.2.2.2.2.2.2.2.2.1 (n-1) _ ?_;rw[fE,<-Hn.out,H.out.2.2.2.1];rfl
 refine tq (gf:=130) (lb:=#[.pointer _]) rfl (enters_of (fq Tryz.func130 rfl) XN rfl)
  (Lu (Vu (w.heap.size+3) g off n cap id hn aA)) (λ_ h=>h.elim) (λ_ _ _ _ _ h=>h) (BwS.own _ _ _ _ _ _ _) (λ_ _ _ _ _ _ _=>trivial) (λ_ q A A' row h hg hr=>BwS.own _ _ _ _ _ _ _ q.1 A A' row h hg hr) (λ_=>rfl)
  (CoI w nk) (CoX w sb vb ps last sil (.iface te xe) (N aE ((n:Int)-1))) (CoI.own _ _ _ aA) (λ_=>CoX.own _ _ _ _ _ _ _ _ _ _ aA) ⟨rfl,H.out.2.2.2.2.2.2.2.1.kept λj _ Y=>ay.block j (by have:=H.out.2.2.2.2.2.2.2.2.2;omega),.below az jB _⟩ ⟨rfl,x2,x3⟩
  (λ_ _=>{ tmps:=#[aG (M ⟨nk,0,Z⟩),aG (M ⟨w.heap.size,0,Z⟩),aG (M ⟨w.heap.size+1,0,Z⟩),aG (M ⟨w.heap.size+1+1,0,Z⟩),N aE ((n:Int)-1),N aE id,aH,aH,aH,aG (M ⟨nk,0,Z⟩),aG (M ⟨nk,0,Z⟩),aG (M ⟨nk,8,Z⟩),aG (M ⟨v.vb,0,Z⟩),.func (.func 130) #[] #[aG (M ⟨w.heap.size+3,0,Z⟩)],N aE ((n:Int)-1),N aE id,aH,aH,aH,aH,aH,aH,aH,aH,aH,aH,aH,aH,aH,aH,aH,aH,aH],defers:=[] }) (λ_ W=>W) (λ_ _ _ _=>rfl) (λ_ _=>jB) (λ_ _ _ _ _=>rfl) ?assign ?body ?done ?stop
 case assign=>
  intro l x W K hK;gi_wp2;exact hK
 case body=>
  rintro l an x W0 W1 a8 a7 ⟨r,hr⟩ ⟨rfl,hB,hc⟩ ao _ hy;have E:cG w.heap.size w W1:=(hc.trans ao λ_ _ e=>e).lQ;have ah:=hB.kept (W':=W1) λj _ Y=>ao.block j (by have:=hB.lt;omega) (λe=>e);have au:=H.out.1.below E;have k7:=(H.out.2.2.2.2.2.1 W1 E).1;have y0:=kJ ah.box;obtain⟨i,hi,a6⟩:=Ud H.out.2.2.2.2.1;have I:=X4 id au aA (lu H.out.2.2.1 E);rw[hi]at I;have HB:cJ _:=λ(_:Unit)=>I;have HW:cJ _:=jy E (jy ah (jy au a6));clear I E ah au hB hc ao hy hi hr;gi_wp2;refine⟨trivial,(iN.2 (HB.out ())).mono ?_⟩;intro e w2 hA;have ap:jI (λk=>k=sb) W1 w2:=hA.jM;have J:=HW.out.2.1.kept (W':=w2) λj Y ba=>ap.block j (by have:=HW.out.2.1.lt;omega) (by have:=H.out.1.lt;omega);have a3:=J.lt;have q1:∀o,(w2.alloc o).cell? ⟨w.heap.size+1,0,Z⟩=M (N aE 0):=λo=>kJ ((fV _ _ _ aA).trans J.r1);have q2:∀o,(w2.alloc o).cell? ⟨w.heap.size+1+1,0,Z⟩=M .nilIface:=λo=>kJ ((fV _ _ _ aA).trans J.r2);have q3:∀o j,(w2.alloc o).frozen? ⟨w.heap.size+1,j,Z⟩=aR:=λo=>aQ ((fV _ _ _ aA).trans J.r1);have q4:∀o j,(w2.alloc o).frozen? ⟨w.heap.size+1+1,j,Z⟩=aR:=λo=>aQ ((fV _ _ _ aA).trans J.r2);have n1:w.heap.size+1≠w2.heap.size:=aA
  have n2:w.heap.size+1+1≠w2.heap.size:=aA
  have z:cJ _:=jy J ap;clear J ap a3;unfold rW at hA;by_cases h0:0<sil
  .rw[ZD h0]at hA;obtain⟨rfl,a1,_⟩:=hA;have am:cJ _:=a1;clear a1;simp only[YS,upZ];gi_wp2;obtain⟨f1,f2⟩:=z.out.1.fin (N aE 0) (N aE 0) (aM Z 0 0) (aM Z 0 0) (N aE ((n:Int)-1)) (.iface te xe);refine⟨⟨bH z.out.2.size f2.size,λj o Y ho _=>?_⟩,rfl,_,nk,f1,?_⟩
   .have R:=(jE ho)
    have:=H.out.1.lt;exact((f2.block j (aP R z.out.2.size) aA).trans (z.out.2.block j R aA)).trans ho
   .unfold Ll;rw[ZD h0];refine⟨rfl,am.out.kept (λj Y=>f2.block j ?_ ?_) (.jM f2 λj cs t fz Y hc=>?_),(((jI.below HW.out.1 jB _).trans z.out.2 λ_ _ e=>e).trans f2 λj Y e=>aA)⟩
    .obtain rfl|e:=Y
     .exact am.out.lt
     .exact am.out.row.lt e
    .have a4:j<w.heap.size:=by
      obtain rfl|e:=Y
      .exact H.out.1.lt
      .exact H.out.1.row.lt e
     omega
    .obtain rfl|rfl:=Y
     .rw[z.out.1.r1]at hc;simp at hc;rw[<-hc.2.1];exact⟨aB,aB⟩
     .rw[z.out.1.r2]at hc;simp at hc;rw[<-hc.2.1];exact⟨aB,aB⟩
  .rw[Zs h0]at hA;obtain⟨aw,⟨m,⟨u,vt,vl⟩,hm,hp,rfl⟩|⟨hm,rfl⟩⟩:=hA
   .have hu:=HW.out.2.2.1.up _ (aX hp);obtain⟨ta,tc,rfl⟩:∃a c,vt=.slice a u.txs.length c:=hu.1.slice;obtain⟨la,lc,rfl⟩:∃a c,vl=.slice a u.logs.length c:=Row.slice hu.2;have a5:cJ _:=aw;clear aw hu hp hm;simp only[YS];gi_wp2;obtain⟨f1,f2⟩:=z.out.1.fin (N aE u.id) (N aE u.time) (.slice ta u.txs.length tc) (.slice la u.logs.length lc) (N aE ((n:Int)-1)) .nilIface;refine⟨⟨bH z.out.2.size f2.size,λj o Y ho _=>?_⟩,rfl,_,nk,f1,?_⟩
    .have R:=(jE ho)
     have:=H.out.1.lt;exact((f2.block j (aP R z.out.2.size) aA).trans (z.out.2.block j R aA)).trans ho
    .unfold Ll;rw[Zs h0];exact⟨rfl,(((jI.below HW.out.1 jB (λ_=>False)).trans (.below a5.out jB (λ_=>False)) λ_ _ e=>e).trans f2 λj Y e=>aA).lQ⟩
   .have:=HW.out.2.2.2;omega
 case done=>
  intro D xs W0 W _ _ h;exact h.elim
 case stop=>
  rintro D cd an W0 W hD a4 _ h hc _ hK;have h1:=CoX.own _ _ _ _ _ _ _ _ _ Wd.heap.size aA an W0 W Z h ⟨hc.os,hc.tape,hc.output,hc.size,λk hk _=>hc.block k hk (λe=>e)⟩ (λr e=>by cases e)
  have h2:=CoX.own _ _ _ _ _ _ _ _ _ Wd.heap.size aA an W (W.putObj D (eA Z)) _ h1 (grownBy_putObj' W D (eA Z)) (λr e=>by
   have e:D=r:=by simpa using e
   subst e;exact⟨aA,_,hK,rfl⟩)
  obtain⟨rfl,e,a9,hB,hP⟩:=h2;have z1:=kJ hB.r1;have z2:=kJ hB.r2;have HP:cJ _:=hP;clear hB hP h h1 hc;gi_wp2;refine⟨aC,bN ⟨_,_,rfl,run_takeDeferred hK,?_⟩⟩;exact⟨_,by simp[results,Tryz.results42,go_sem,z1,z2],HP.out⟩
end Hm
