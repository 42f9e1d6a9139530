import Derived.Test.YtpibpdpedjinhaaGreatDoorP42
set_option maxRecDepth 100000
set_option maxHeartbeats 4000000
set_option linter.all false
open Go renaming Code->im,Value->aD,World->U
open Go.Value renaming int->N,slice->aR
open List renaming length_set->pN,mem_or_eq_of_mem_set->pS
open Option renaming none->Z,some->M
namespace Go.Proofs.YtpibpdpedjinhaaGreatDoor
namespace Hm
open Go.RowKit Go.Joins Go.Shelf
open Fr (below_drewN)
open Dv (Lo)
def PZ{a b:ByteArray}(h:a.toList=b.toList):a=b:=by apply ByteArray.ext;apply Array.ext';simpa[ByteArray.toList_eq]using h
def Je{α:Type}{l:List α}{j:Nat}{x:α}(h:l[j]? =M x):l.take (j+1)=l.take j++[x]:=by rw[List.take_add_one,h];rfl
def Gs(va vb:aD)(la lb:List (List UInt8))(w:U)(ha:Rd w 1 va la.length (la.map lM))(I:Rd w 1 vb lb.length (lb.map lM))(hl:la.length<=9223372036854775807):Calls PQ 28 #[va,vb] w λe w'=>e=.returned (.bool (decide (la=lb)))/\Below w.heap.size w w':=by
 obtain⟨aa,ac,rfl⟩:=ha.slice;obtain⟨ba,bc,rfl⟩:=I.slice;obtain⟨r,Y⟩:∃r,decide (la=lb)=r:=⟨_,rfl⟩
 rw[Y];obtain⟨na,q⟩:∃n,la.length=n:=⟨_,rfl⟩
 obtain⟨nb,E⟩:∃n,lb.length=n:=⟨_,rfl⟩
 have H:Hid _:=jD ha (jD I (jD Y (jD q E)));rw[q]at hl;rw[q,E];clear ha I Y q E;by_cases hn:na=nb
 .subst hn;have aj:((na:Int) == (na:Int))=true:=by simp
  go_enter (fq Tryz.func28 rfl),Tryz.ntmps28;go_wp2_with fail;go_loopg [5] na (λgg t wr=>∃i:Nat,i<=na/\t=N .i64 i/\gg=na-i/\Hid (la.take i=lb.take i/\Below w.heap.size w wr))
  case atStart=>exact⟨0,dL _,rfl,rfl,⟨rfl,aJ _ _⟩⟩
  case round=>
   obtain⟨i,hi,rfl,rfl,HI⟩:=hrel;obtain⟨ha,I,Y,q,E⟩:=H.out;by_cases ao:i<na
   .have ag:(i:Int)<na:=by omega
    obtain⟨x,hx⟩:∃x,la[i]? =M x:=⟨_,aO aA⟩
    obtain⟨y,hy⟩:∃y,lb[i]? =M y:=⟨_,aO aA⟩
    obtain⟨g1,o1,c1,e1,_,am,q1⟩:=ha.pos aA;obtain⟨g2,o2,c2,e2,_,ak,q2⟩:=I.pos aA;simp only[Value.slice.injEq]at e1 e2;obtain⟨rfl,_,rfl⟩:=e1;obtain⟨rfl,_,rfl⟩:=e2;have k1:wr.cell? ⟨g1,o1+i,Z⟩=M (lM x):=(HI.out.2.cell (p:=⟨g1,_,Z⟩) am).trans (q1 i _ (by rw[fE,hx];rfl));have k2:wr.cell? ⟨g2,o2+i,Z⟩=M (lM y):=(HI.out.2.cell (p:=⟨g2,_,Z⟩) ak).trans (q2 i _ (by rw[fE,hy];rfl));unfold lM at k1 k2;obtain⟨XB,ae⟩:∃Wa:ByteArray,(⟨x.toArray⟩:ByteArray)=Wa:=⟨_,rfl⟩
    obtain⟨YB,ab⟩:∃Wa:ByteArray,(⟨y.toArray⟩:ByteArray)=Wa:=⟨_,rfl⟩
    rw[ae]at k1;rw[ab]at k2;have ah:=HI.out.2;by_cases J:x=y
    .have af:XB=YB:=by rw[<-ae,<-ab,J]
     subst af;clear ha I q1 q2 Y q E;go_wp2_with fail;go_quiet (fail);go_wp2_with fail;go_roundg (na-(i+1))
     case measure=>omega
     case rel=>exact⟨_,aA,by go_num,rfl,⟨by rw[Je hx,Je hy,HI.out.1,J],below_drewN ah _⟩⟩
    .have af:XB≠YB:=λe=>J (by
      have:x.toArray=y.toArray:=by
       rw[<-ae,<-ab]at e;simpa using e
      simpa using this)
     have an:=ZS (λe=>af (PZ e));clear ha I q1 q2;go_wp2_with fail;go_quiet (fail);go_wp2_with fail;go_ret;refine⟨?_,below_drewN ah _⟩;have ai:la≠lb:=λe=>J (by rw[e,hy]at hx;exact(fC hx).symm)
     show Ending.returned (.bool false)=_
     rw[<-Y,ZZ ai]
   .have ag:¬(i:Int)<na:=by omega
    clear ha I;go_wp2_with fail;go_ret;obtain rfl:i=na:=aA
    have h1:=HI.out.1;rw[eH aA,eH aA]at h1;exact⟨by rw[<-Y,h1];simp,HI.out.2⟩
 .have aj:((na:Int) == (nb:Int))=false:=by simp;omega
  go_enter (fq Tryz.func28 rfl),Tryz.ntmps28;go_wp2_with fail;go_ret;obtain⟨ha,I,Y,q,E⟩:=H.out;refine⟨?_,aJ _ _⟩;rw[<-Y,ZZ (λe=>hn (by rw[<-q,<-E,e]))];rfl
open Dv (X2 Cf Tx)
section
variable {v:aD}{Wa w':U}
theorem Sl:(PQ.info? 68).map (λi=>(i.zero,i.size,i.bytes))=M (M (.agg #[N .u32 0,N .u32 0,.string ⟨#[]⟩]),3,24):=XN
theorem BH{w:U}{a:Addr}(h:w.cell? a=M v)(o:Obj):(w.alloc o).cell? a=M v:=by
 have q:a.block<w.heap.size:=by
  unfold World.cell? at h;obtain q|q:=gG a.block w.heap.size
  .exact q
  .rw[Array.getElem?_eq_none q]at h;cases h
 unfold World.cell? at h⊢;rw[Go.RowKit.Below.heap_alloc _ _ _ q];exact h
theorem yL{B g:Nat}{W:U}(I:Below B W Wa)(Y:B<=Wa.heap.size)(ho:∀q,v.ownBlock=M q->B<=q)(E:Grew v g Wa w'):Below B W w'/\B<=g:=by
 refine⟨⟨E.jR.os.trans I.os,E.jR.tape.trans I.tape,E.jR.output.trans I.output,bH I.size E.jR.size,λq J=>(E.jR.block q (aP J Y) (λe=>?_)).trans (I.block q J)⟩,?_⟩
 .have:=ho q e;omega
 .obtain e|e:=E.own
  .exact ho g e
  .omega
theorem uh{e I s s' n J g:Nat}{v':aD}{xs xs':List aD}(hg:Grew v g Wa w')(hv:Row Wa e s v n xs)(h:Row Wa I s' v' J xs')(E:I≠e):Row w' I s' v' J xs':=by refine h.kept λq hq=>?_;obtain⟨aa,Y⟩:=h.obj hq;rw[hg.keep hv Y E,Y]
end
section
def EY{α:Type}(f:α->List aD)(s:Nat)(E:∀x,(f x).length=s):∀(l:List α)(i j:Nat)(x y:α)(u:aD),l[i]? =M x->j<s->f y=(f x).set j u->(l.flatMap f).set (i*s+j) u=(l.set i y).flatMap f
 |[],i,j,x,y,u,h,_,_=>by simp at h
 |z::l,0,j,x,y,u,h,hj,hy=>by
  simp at h;subst h;rw[gY,Nat.zero_mul,fJ,List.set_append_left _ _ (by rw[E];exact hj),dO,gY,hy]
 |z::l,i+1,j,x,y,u,h,hj,hy=>by
  rw[gY,List.set_append_right _ _ (by rw[E,iU];omega),E,show(i+1)*s+j-s=i*s+j by rw[iU];omega,EY f s E l i j x y u (by simpa using h) hj hy,dP,gY]
structure wZ(w:U)(cb g off cap:Nat)(c:Cf)(us:List PU)(vw:aD)(ws:List PL)(wx:U):Prop where
 bel:Below w.heap.size w wx
 bc:wx.heap[cb]? =M (.cells (jL c) 24 (0,0))
 row:Row wx 42 4 (aR (M ⟨g,off,Z⟩) us.length cap) us.length (us.flatMap mO)
 lg:w.heap.size<=g
 tx:∀q,q∈us->Row wx 68 3 q.2.1 q.1.txs.length (q.1.txs.flatMap oZ)/\q.2.2=aR Z 0 0/\q.1.logs=[]
 own:∀q,q∈us->∀b,q.2.1.ownBlock=M b->w.heap.size<=b
 apart:∀(i j:Nat)(q r:PU)(b:Nat),us[i]? =M q->us[j]? =M r->q.2.1.ownBlock=M b->r.2.1.ownBlock=M b->i=j
 wrow:Row wx 62 8 vw ws.length (ws.flatMap kM)
 wown:∀b,vw.ownBlock=M b->w.heap.size<=b
 wstr:∀q,q∈ws->kX wx q.2.1 q.1.txs
section
variable {w wx wy Wa w5:U}{cb g off cap m g5 off5 cap5:Nat}{c:Cf}{us:List PU}{vw u:aD}{ws:List PL}{q q':PU}{t:Tx}{x:PL}
theorem wZ.below(h:wZ w cb g off cap c us vw ws wx)(E:Below wx.heap.size wx wy):wZ w cb g off cap c us vw ws wy:=
 ⟨h.bel.trans (E.mono h.bel.size),(E.block _ (jG h.bc)).trans h.bc,h.row.below E,h.lg,λq I=>⟨(h.tx q I).1.below E,(h.tx q I).2⟩,h.own,h.apart,h.wrow.below E,h.wown,λq I=>Row.below (h.wstr q I) E⟩
theorem wZ.put(h:wZ w cb g off cap c us vw ws wx)(hq:us[m]? =M q){o:Nat}(ho:o<4)(hc:mO q'=(mO q).set o u)(hl:q'.2.2=aR Z 0 0/\q'.1.logs=[])(ht:Row wx 68 3 q'.2.1 q'.1.txs.length (q'.1.txs.flatMap oZ))(hw:∀b,q'.2.1.ownBlock=M b->w.heap.size<=b)(ha:∀j r b,j≠m->us[j]? =M r->r.2.1.ownBlock=M b->q'.2.1.ownBlock≠M b):wZ w cb g off cap c (us.set m q') vw ws (wx.setCell ⟨g,off+(m*4+o),Z⟩ u):=by
 obtain⟨ac,I⟩:=h.row.obj (g:=g) rfl;have ab:=(aN.1 hq).1
 have far:∀{e s n:Nat}{v:aD}{xs:List aD},Row wx e s v n xs->e≠42->Row (wx.setCell ⟨g,off+(m*4+o),Z⟩ u) e s v n xs:=λE aa=>E.kept λb hb=>aW _ _ _ _ λe=>by
  subst e;exact jJ E I (Ne.symm aa) hb
 have mem:∀r,r∈us.set m q'->r∈us\/r=q':=λr E=>pS E;refine⟨h.bel.setCell h.lg _,?_,?_,h.lg,λr E=>?_,λr E=>?_,λi j r r' b hi Y hb J=>?_,far h.wrow aB,h.wown,λr E=>far (h.wstr r E) aB⟩
 .refine(aW _ _ _ _ λe=>?_).trans h.bc;have:=h.bc;rw[e,I]at this;simp at this
 .rw[pN];have:=Row.put h.row (j:=m*4+o) u;rwa[EY mO 4 (λ_=>rfl) us m o q q' u hq ho hc]at this
 .obtain E|rfl:=mem r E
  .exact⟨far (h.tx r E).1 aB,(h.tx r E).2⟩
  .exact⟨far ht aB,hl⟩
 .obtain E|rfl:=mem r E
  .exact h.own r E
  .exact hw
 .rw[iR]at hi Y;split at hi
  .rename_i e;cases hi;split at Y
   .omega
   .rename_i e2;exact Xs hb (ha j r' b (λe3=>e2 e3.symm) Y J)
  .rename_i e;split at Y
   .rename_i e2;cases Y;exact Xs J (ha i r b (λe3=>e e3.symm) hi hb)
   .exact h.apart i j r r' b hi Y hb J
theorem wZ.ae6(h:wZ w cb g off cap c us vw ws wx)(E:us[m]? =M q){o:Nat}(ho:o<4)(hc:mO q'=(mO q).set o u)(h2:q'.2=q.2)(h3:q'.1.txs=q.1.txs)(h4:q'.1.logs=q.1.logs):wZ w cb g off cap c (us.set m q') vw ws (wx.setCell ⟨g,off+(m*4+o),Z⟩ u):=by have I:=aX E;obtain⟨t1,t2,t3⟩:=h.tx q I;refine h.put E ho hc (by rw[h2,h4];exact⟨t2,t3⟩) (by rw[h2,h3];exact t1) (by rw[h2];exact h.own q I) λj r b hj Y J e=>hj ?_;rw[h2]at e;exact h.apart j m r q b Y E J e
theorem wZ.app(h:wZ w cb g off cap c us vw ws wx)(hq:us[m]? =M q)(hX:Below wx.heap.size wx Wa)(I:Row w5 68 3 (aR (M ⟨g5,off5,Z⟩) (q.1.txs.length+1) cap5) (q.1.txs.length+1) (q.1.txs.flatMap oZ++oZ t))(hg:Grew q.2.1 g5 Wa w5):wZ w cb g off cap c (us.set m (⟨q.1.id,q.1.time,q.1.txs++[t],q.1.logs⟩,aR (M ⟨g5,off5,Z⟩) (q.1.txs.length+1) cap5,q.2.2)) vw ws (w5.setCell ⟨g,off+(m*4+2),Z⟩ (aR (M ⟨g5,off5,Z⟩) (q.1.txs.length+1) cap5)):=by
 have hm:=aX hq;replace h:=h.below hX;obtain⟨t1,t2,t3⟩:=h.tx q hm;have aa:=yL h.bel h.bel.size (h.own q hm) hg;have tk:∀j r b,j≠m->us[j]? =M r->r.2.1.ownBlock=M b->q.2.1.ownBlock≠M b:=λj r b E I J e=>E (h.apart j m r q b I hq J e);obtain⟨ah,ab⟩:=h.row.obj (g:=g) rfl
 have hn:∀j r b,j≠m->us[j]? =M r->r.2.1.ownBlock=M b->(aR (M ⟨g5,off5,Z⟩) (q.1.txs.length+1) cap5).ownBlock≠M b:=λj r b E I J e=>by
  cases e;obtain e|e:=hg.own
  .exact tk j r g5 E I J e
  .have:g5<Wa.heap.size:=(h.tx r (aX I)).1.lt J;omega
 have rows:∀j r,j≠m->us[j]? =M r->Row w5 68 3 r.2.1 r.1.txs.length (r.1.txs.flatMap oZ):=λj r E I=>(h.tx r (aX I)).1.kept λb J=>hg.jR.block b ((h.tx r (aX I)).1.lt J) (tk j r b E I J);have ag:=(aN.1 hq).1;have af:=hg.keep t1 ab aB
 have far:∀{e s n:Nat}{v:aD}{xs:List aD},Row w5 e s v n xs->e≠42->Row (w5.setCell ⟨g,off+(m*4+2),Z⟩ (aR (M ⟨g5,off5,Z⟩) (q.1.txs.length+1) cap5)) e s v n xs:=λI ae=>I.kept λb J=>aW _ _ _ _ λe=>by
  subst e;exact jJ I af (Ne.symm ae) J
 refine⟨aa.1.setCell h.lg _,?_,?_,h.lg,λr Y=>?_,λr Y=>?_,λi j r r' b hi E J ac=>?_,far (uh hg t1 h.wrow aB) aB,h.wown,λr I=>far (uh hg t1 (h.wstr r I) aB) aB⟩
 .refine(aW _ _ _ _ λe=>?_).trans (hg.keep t1 h.bc aB);have:=h.bc;rw[e,ab]at this;simp at this
 .rw[pN];have:=Row.put (uh hg t1 h.row aB) (j:=m*4+2) (aR (M ⟨g5,off5,Z⟩) (q.1.txs.length+1) cap5);rwa[EY mO 4 (λ_=>rfl) us m 2 q (⟨q.1.id,q.1.time,q.1.txs++[t],q.1.logs⟩,aR (M ⟨g5,off5,Z⟩) (q.1.txs.length+1) cap5,q.2.2) _ hq aA rfl]at this
 .obtain⟨j,E⟩:=jB.1 Y;rw[iR]at E;split at E
  .cases E;refine⟨far ?_ aB,t2,t3⟩;simpa using I
  .rename_i e;exact⟨far (rows j r (λe2=>e e2.symm) E) aB,(h.tx r (aX E)).2⟩
 .obtain Y|rfl:=pS Y
  .exact h.own r Y
  .intro b e;cases e;exact aa.2
 .rw[iR]at hi E;split at hi
  .rename_i e;cases hi;split at E
   .omega
   .rename_i e2;exact Xs J (hn j r' b (λe3=>e2 e3.symm) E ac)
  .rename_i e;split at E
   .rename_i e2;cases E;exact Xs ac (hn i r b (λe3=>e e3.symm) hi J)
   .exact h.apart i j r r' b hi E J ac
theorem wZ.want(h:wZ w cb g off cap c us vw ws wx)(Y:Below wx.heap.size wx Wa)(hr:Row w5 62 8 (aR (M ⟨g5,off5,Z⟩) (ws.length+1) cap5) (ws.length+1) (ws.flatMap kM++kM x))(J:Grew vw g5 Wa w5)(hx:kX wx x.2.1 x.1.txs):wZ w cb g off cap c us (aR (M ⟨g5,off5,Z⟩) (ws.length+1) cap5) (ws++[x]) w5:=by
 replace h:=h.below Y;have E:=yL h.bel h.bel.size h.wown J;refine⟨E.1,J.keep h.wrow h.bc aB,uh J h.wrow h.row aB,h.lg,λq I=>⟨uh J h.wrow (h.tx q I).1 aB,(h.tx q I).2⟩,h.own,h.apart,by simpa using hr,λb e=>?_,λq I=>?_⟩
 .cases e;exact E.2
 .obtain I|I:=dM.1 I
  .exact uh J h.wrow (h.wstr q I) aB
  .rw[dK.1 I];exact uh J h.wrow (Row.below hx Y) aB
theorem wZ.get(h:wZ w cb g off cap c us vw ws wx)(I:us[m]? =M q):wx.cell? ⟨g,off+m*4,Z⟩=M (N .i64 q.1.id)/\wx.cell? ⟨g,off+m*4+1,Z⟩=M (N .i64 q.1.time)/\wx.cell? ⟨g,off+m*4+2,Z⟩=M q.2.1/\wx.cell? ⟨g,off+m*4+3,Z⟩=M q.2.2:=by have k:=λi u hi (E:(mO q)[i]? =M u)=>Rd.rec mO 4 (λ_=>rfl) h.row.rd I hi E;exact⟨k 0 _ aA rfl,k 1 _ aA rfl,k 2 _ aA rfl,k 3 _ aA rfl⟩
theorem wZ.ups(h:wZ w cb g off cap c us vw ws wx)(I:∀q,q∈us->q.1.txs.length<=4294967296):nK wx (aR (M ⟨g,off,Z⟩) us.length cap) us:=
 ⟨h.row.rd,λq E=>⟨(h.tx q E).1.rd,by rw[(h.tx q E).2.1,(h.tx q E).2.2];exact Rd.nil _ _ _ _,I q E,by rw[(h.tx q E).2.2];simp⟩⟩
end
end
open Dv (Lo Cf X2 Tx)
noncomputable def mD:im:=match Tryz.f7.body with
 |some c=>c
 |_=>.ret
noncomputable def ho0:im:=cq [0] mD
noncomputable def ho1:im:=cq [1,0] mD
noncomputable def ho2:im:=cq [1,1,0] mD
noncomputable def ho4:im:=cq [1,1,1,0] mD
noncomputable def ho5:im:=cq [1,1,1,1,0] mD
noncomputable def ho6:im:=cq [1,1,1,1,1,0] mD
noncomputable def VR:im:=cq [1,1,1,1,1,1,0,0] mD
noncomputable def ho8:im:=cq [1,1,1,1,1,1,0,1,4,5,0,0] mD
noncomputable def ho9:im:=cq [1,1,1,1,1,1,0,1,4,5,1,1] mD
noncomputable def XR:im:=cq [1,1,1,1,1,1,0,1,4,5,1,0,4,0] mD
noncomputable def Uy:im:=cq [1,1,1,1,1,1,0,1,4,5,1,0,4,1,0,0] mD
noncomputable def Qh:im:=cq [1,1,1,1,1,1,0,1,4,5,1,0,4,1,0,1,2] mD
noncomputable def Ul:im:=cq [1,1,1,1,1,1,0,1,4,5,1,0,4,1,1,0] mD
noncomputable def Tt:im:=cq [1,1,1,1,1,1,0,1,4,5,1,0,4,1,1,1,2,0] mD
noncomputable def Tn:im:=cq [1,1,1,1,1,1,0,1,4,5,1,0,4,1,1,1,2,1,0] mD
noncomputable def Uc:im:=cq [1,1,1,1,1,1,0,1,4,5,1,0,4,1,1,1,2,1,1,0] mD
noncomputable def U4:im:=cq [1,1,1,1,1,1,0,1,4,5,1,0,4,1,1,1,2,1,1,1] mD
noncomputable def abr:im:=cq [1,1,1,1,1,1,1,0] mD
noncomputable def acg:im:=cq [1,1,1,1,1,1,1,1,0] mD
noncomputable def Xj:im:=cq [1,1,1,1,1,1,1,1,1,0,0] mD
noncomputable def XG:im:=cq [1,1,1,1,1,1,1,1,1,0,1,4,5,0,0] mD
noncomputable def Vw:im:=cq [1,1,1,1,1,1,1,1,1,0,1,4,5,1,1] mD
noncomputable def Yq:im:=cq [1,1,1,1,1,1,1,1,1,0,1,4,5,1,0,4,0] mD
noncomputable def Yh:im:=cq [1,1,1,1,1,1,1,1,1,0,1,4,5,1,0,4,1,0] mD
noncomputable def XP:im:=cq [1,1,1,1,1,1,1,1,1,0,1,4,5,1,0,4,1,1,0] mD
noncomputable def XU:im:=cq [1,1,1,1,1,1,1,1,1,0,1,4,5,1,0,4,1,1,1,0] mD
noncomputable def ZM:im:=cq [1,1,1,1,1,1,1,1,1,0,1,4,5,1,0,4,1,1,1,1,0] mD
noncomputable def YH:im:=cq [1,1,1,1,1,1,1,1,1,0,1,4,5,1,0,4,1,1,1,1,1,0] mD
noncomputable def YR:im:=cq [1,1,1,1,1,1,1,1,1,0,1,4,5,1,0,4,1,1,1,1,1,1,0] mD
noncomputable def YO:im:=cq [1,1,1,1,1,1,1,1,1,0,1,4,5,1,0,4,1,1,1,1,1,1,1] mD
noncomputable def adX:im:=cq [1,1,1,1,1,1,1,1,1,1,0] mD
noncomputable def Yb:im:=cq [1,1,1,1,1,1,1,1,1,1,1,0] mD
noncomputable def aac:im:=cq [1,1,1,1,1,1,1,1,1,1,1,1,0,0] mD
noncomputable def ZV:im:=cq [1,1,1,1,1,1,1,1,1,1,1,1,0,1,4,5,0,0] mD
noncomputable def UK:im:=cq [1,1,1,1,1,1,1,1,1,1,1,1,0,1,4,5,1,1] mD
noncomputable def ZR:im:=cq [1,1,1,1,1,1,1,1,1,1,1,1,0,1,4,5,1,0,4,0] mD
noncomputable def Za:im:=cq [1,1,1,1,1,1,1,1,1,1,1,1,0,1,4,5,1,0,4,1,0] mD
noncomputable def Zp:im:=cq [1,1,1,1,1,1,1,1,1,1,1,1,0,1,4,5,1,0,4,1,1] mD
noncomputable def YJ:im:=cq [1,1,1,1,1,1,1,1,1,1,1,1,1,0] mD
structure Ho(tm:Array aD)(pb cb g off cap n:Nat):Prop where
 size:tm.size=273
 s1:tm[1]? =M (.pointer (M ⟨pb,0,Z⟩))
 s4:tm[4]? =M (.pointer (M ⟨cb,0,Z⟩))
 s5:tm[5]? =M (N .i64 n)
 s6:tm[6]? =M (aR (M ⟨g,off,Z⟩) n cap)
structure Hk(tm:Array aD)(pb cb g off cap n:Nat)(vw:aD)(e k:Nat):Prop where
 ho:Ho tm pb cb g off cap n
 s9:tm[9]? =M vw
 s10:tm[10]? =M (N .i64 e)
 s11:tm[11]? =M (N .i64 k)
structure Hz(tm:Array aD)(vw vl:aD)(i:Nat):Prop where
 size:tm.size=273
 s9:tm[9]? =M vw
 s16:tm[16]? =M vl
 s18:tm[18]? =M (N .i64 i)
def U7:(PQ.info? 42).map (λi=>(i.zero,i.size,i.bytes))=M (M (.agg #[N .i64 0,N .i64 0,aR Z 0 0,aR Z 0 0]),4,64):=XN
end Hm
