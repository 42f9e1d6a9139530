import Derived.Test.YtpibpdpedjinhabGreatDoorP30
set_option maxRecDepth 100000
set_option maxHeartbeats 8000000
set_option linter.all false
open Bool renaming false->aR,true->bB
open Go renaming Addr->fR,Code->eN,Frame->cT,Value->aD,World->X,undef->aH
open Go.Addr renaming add->lr
open Go.Code renaming seq->bL
open Go.IntKind renaming i64->aE,u32->dT,wrap_i64->gA
open Go.Obj renaming cells->aL,deferred->eA
open Go.Proofs.Tryz renaming f15->j6
open Go.Value renaming agg->gR,bool->cM,int->N,pointer->aG,slice->aM
open Go.World renaming cell?->eQ,cell?_of_block->cD
open Option renaming none->Z,some->M
open Or renaming inl->bN,inr->cF
open Prod renaming fst->cI
namespace Go.Proofs.YtpibpdpedjinhabGreatDoor
namespace Pa
open Go Go.Conc Go.RowKit Go.Joins
open Hm (ptr kD jF jP TS jL kW AL PC PB PW lives wV wG wP takeB AX ops2 Fits)
open Dv (X2 Cf Ch)
open Po hiding X2 H B IT PR NB
section
section
variable {Post:vU}{D:Nat->Prop}{w w':X}{b:cT}{a:Act}{k:List Item}{XX A:List cT}
variable {kb nb:Nat}{c:Cf}{vu:aD}{us:List PB}{dl:Nat->List (List UInt8)}{vo vw:aD}{ws:List PW}{nm:AL}{os:List PC}{cnt ep sq:Nat}{u:X2}{vt vl:aD}{b2 b3 b4 n:Nat}
theorem UU{c0:Nat}(hS:TS w kb nb c vu us dl vo vw ws nm os cnt ep sq)(hA:SA a b2 b3 b4)(hB:TB w b2 b3 b4 kb c0 u vt vl)(ag:os.length<=4294967296)(ae:∀s,s∈(Dv.pull (lives nm os)).1->s.length<=4096)(aa:ws.length+4096*(Dv.pull (lives nm os)).1.length<4294967296)(ai:∀a' w' (dd:Nat) I Y R E z,a'.defers=[{ target:=.collected dd,args:=#[] }]->w'.heap[dd]? =M (eA (M []))->w.heap.size<=dd->TS w' kb nb c vu us dl I Y (ws++R) E z cnt ep sq->jL (λj=>j=kb\/j=nb\/vw.ownBlock=M j) w w'->(∀j,Hm.Own nb I z j->Hm.Own nb vo os j)->(∀g,Y.ownBlock=M g->vw.ownBlock=M g\/w.heap.size<=g)->z.length<=4294967296->lives E z=(Dv.pull (lives nm os)).2->R.map cI=(Dv.pull (lives nm os)).1.flatMap (λs=>Dv.reads s c0)->Wq D Post XX (b.at a' []) A w'):Wq D Post XX (b.at a [.code AX]) A w:=by
 refine Wq.piece (Q:=λa' W=>∃(dd:Nat),∃I Y R E z,a'.defers=[{ target:=.collected dd,args:=#[] }]/\W.heap[dd]? =M (eA (M []))/\w.heap.size<=dd/\TS W kb nb c vu us dl I Y (ws++R) E z cnt ep sq/\jL (λj=>j=kb\/j=nb\/vw.ownBlock=M j) w W/\(∀j,Hm.Own nb I z j->Hm.Own nb vo os j)/\(∀g,Y.ownBlock=M g->vw.ownBlock=M g\/w.heap.size<=g)/\z.length<=4294967296/\lives E z=(Dv.pull (lives nm os)).2/\R.map cI=(Dv.pull (lives nm os)).1.flatMap (λs=>Dv.reads s c0)) (λt d=>?_) ?_
 .have J:TS (on w t d) kb nb c vu us dl vo vw ws nm os cnt ep sq:=hS.heap rfl;obtain⟨tm,df⟩:=a;obtain⟨sz,ac,t2,t3,t4⟩:=hA;dsimp only at sz ac t2 t3 t4;subst ac;obtain⟨u0,u1,u2,u3,u4,u5,u6,u7,u8,u9,ba,ct,a8,bz,cp,b8,av,ci,aw,a2,bb,cy,a1,az,b7,ao,cq,cr,c1,ap,cz,b1,c6,bs,bg,ck,cv,bu,cb,bw,cm,cd,bl,co,cf,cl,ca,ar,a4,a9,bq,bj,ak,br,db,b0,bv,c2,bh,c9,bp,cu,cn,c4,dg,cc,b5,cx,bd,au,c3,a6,ay,bm,b9,am,b6,bo,aq,a0,cj,a5,aj,c5,a3,de,bk,a7,bn,cg,ce,cw,an,rfl⟩:=Hm.Wv sz;simp only[eX,eU,dX,aK]at t2 t3 t4;subst t2 t3 t4;obtain⟨ah,tt,fz,q1,q2,q3,_⟩:=J.ht;refine Hm.Qk _ _ _ _ _ _ _ _ _ _ _ _ _ _ _ _ _ _ _ _ _ _ _ _ _ _ _ _ _ _ _ _ _ _ _ _ _ _ _ _ _ _ _ _ _ _ _ _ _ _ _ _ _ _ _ _ _ _ _ _ _ _ _ _ _ _ _ _ _ _ _ _ _ _ _ _ _ _ _ _ _ _ _ _ _ _ _ _ _ _ _ b2 b4 kb nb c0 _ vo vw nm os ws _ hB.h2 hB.h4 J.d.obj rfl rfl rfl J.ch ag J.d.wait J.d.txs J.hd ⟨ah,tt,fz,q1,q2,q3⟩ ae aa ?_;intro D W' v9 af R cs' I E z hT hP h1 h2 h3 h4;exact⟨rfl,D,I,af,R,E,z,rfl,h4,h2,J.pulled hT hP,hT.jM.h.heaps rfl rfl,hP.own,hT.own,hP.len,h1,hT.fst⟩
 grind
end
end
end Pa
namespace Fr
section
variable {s:List UInt8}
def be:Nat->Nat->List UInt8
 |0,_=>[]
 |k+1,v=>be k (v/256)++[UInt8.ofNat (v%256)]
theorem FV:∀k v,(be k v).length=k
 |0,_=>rfl
 |k+1,v=>by rw[be,aS,FV];rfl
theorem Jk:∀(k:Nat)(s:List UInt8)(p:Nat),p+k<=s.length->(s.drop p).take k=be k (big s p k)
 |0,_,_,_=>by simp[be]
 |k+1,s,p,h=>by
  have h2:=(s.getD (p+k) 0).toNat_lt
  rw[big,be,show(256*big s p k+(s.getD (p+k) 0).toNat)/256=big s p k from by omega,<-Jk k s p aA,show(256*big s p k+(s.getD (p+k) 0).toNat)%256=(s.getD (p+k) 0).toNat from by omega,
   eY (by grind),List.getElem_drop]
  congr 2
  rw[aY,aO aA];simp
def fits(x:F):Prop:=x.chan<4294967296/\x.num<65536/\x.data.length<65536
def enc(x:F):List UInt8:=be 4 x.chan++be 2 x.num++be 2 x.data.length++x.data++[if x.last then 1 else 0]
theorem OZ(x:F):(enc x).length=9+x.data.length:=by simp[enc,FV];omega
theorem aag{p:Nat}{x:F}{n:Nat}(h:one s p=M (x,n)):s.drop p=enc x++s.drop (p+n)/\fits x/\n=(enc x).length:=by
 have aa:=one_le h;unfold one at h;split at h
 .simp at h
 .rename_i h9;split at h
  .simp at h
  .rename_i hN;split at h
   .simp at h
   .rename_i hc;simp only[aK,dJ]at h;obtain⟨rfl,rfl⟩:=h;have Y:=Jk 4 s p aA;have b2:=Jk 2 s (p+4) aA;have I:=Jk 2 s (p+6) aA;have z:=uD s p 4;have l2:=uD s (p+4) 2;have E:=uD s (p+6) 2;simp only[Nat.reducePow]at z l2 E;generalize big s (p+6) 2=X1 at *;generalize big s p 4=C4 at *;generalize big s (p+4) 2=C2 at *;have hdl:((s.take (p+8+X1)).drop (p+8)).length=X1:=by simp;omega
    refine⟨?_,⟨z,l2,by rw[hdl];exact E⟩,by rw[OZ,hdl]⟩
    have J:[if ((s.getD (p+8+X1) 0).toNat == 1)=bB then(1:UInt8)else 0]=(s.drop (p+8+X1)).take 1:=by
     have R:s.getD (p+8+X1) 0=s[p+8+X1]' aA:=by rw[aY,aO aA];rfl
     rw[R]at hc⊢;rw[List.drop_eq_getElem_cons aA];simp only[List.take_succ_cons,List.take_zero,List.cons.injEq,and_true];obtain h|h:=(by omega:(s[p+8+X1]' aA).toNat=0\/(s[p+8+X1]' aA).toNat=1)
     .rw[h];simp;exact jv.1 (by rw[h];rfl)
     .rw[h];simp;exact jv.1 (by rw[h];rfl)
    have hd:(s.take (p+8+X1)).drop (p+8)=(s.drop (p+8)).take X1:=by rw[List.drop_take];congr 1;omega
    unfold enc;simp only;rw[hdl,J,<-Y,<-b2,<-I,hd];have j:∀(q k:Nat),s.drop q=(s.drop q).take k++s.drop (q+k):=λq k=>by rw[<-iC,List.take_append_drop]
    conv=>lhs;rw[j p 4,j (p+4) 2,show p+4+2=p+6 from rfl,j (p+6) 2,show p+6+2=p+8 from rfl,j (p+8) X1,j (p+8+X1) 1]
    rw[show p+(9+X1)=p+8+X1+1 from by omega];simp only[fM]
def cat(l:List F):List UInt8:=l.flatMap enc
theorem JW:∀(f:Nat)(s:List UInt8)(p:Nat)(l:List F),rest f s p=M l->s.drop p=cat l/\∀x,x∈l->fits x
 |0,s,p,l,h=>by
  simp only[rest]at h;split at h
  .simp at h;subst h;simp[cat];assumption
  .simp at h
 |f+1,s,p,l,h=>by
  rw[rest]at h;split at h
  .simp at h;subst h;simp[cat];assumption
  .cases z:one s p with
   |none=>rw[z]at h;simp at h
   |some x=>
    obtain⟨x,n⟩:=x;rw[z]at h;simp only at h;obtain⟨t,ht,rfl⟩:=bI.1 h;obtain⟨I,h2,_⟩:=aag z;obtain⟨h3,h4⟩:=JW f s _ t ht;refine⟨by rw[I,h3];simp[cat],λy E=>?_⟩;obtain rfl|E:=dD.1 E
    .exact h2
    .exact h4 y E
theorem Ov{l:List F}(h:frames s=M l):s=0::cat l/\l≠[]/\∀x,x∈l->fits x:=by
 unfold frames at h;split at h
 .simp at h
 .rename_i h2;obtain⟨h3,h4⟩:=JW _ _ _ _ h
  have hs:s=0::s.drop 1:=by
   cases s with
   |nil=>simp at h2
   |cons x r=>
    grind
  refine⟨hs.trans (by rw[h3]),?_,h4⟩;rintro rfl;have:(s.drop 1).length=0:=by rw[h3];rfl
  rw[dW]at this;omega
end
end Fr
namespace Pa
open Go Go.Conc Go.RowKit Go.Joins
open Hm (ptr kD jF jP TS jL kW AL PC PB PW lives wV wG wP takeB AX ops2 Fits)
open Dv (X2 Cf Ch Tx)
open Po hiding X2 H B IT PR NB
open Cr (Xh)
section
variable {w':X}
def Tk(kb nb:Nat)(vu vo vw:aD)(os:List PC)(k:Nat):Prop:=k=kb\/vu.ownBlock=M k\/vw.ownBlock=M k\/Hm.Own nb vo os k
theorem pV{XS:Nat->Prop}{w:X}{u:X2}{vt vl:aD}(h:kW w u vt vl)(hc:jL XS w w')(J:∀g,(0<u.txs.length/\vt.ownBlock=M g)\/(0<u.logs.length/\vl.ownBlock=M g)->¬XS g):kW w' u vt vl:=
 ⟨Hm.Rd.kept h.1 hc.size (λI g E z=>hc.block g z (J g (bN ⟨I,E⟩))),Hm.Rd.kept h.2.1 hc.size (λI g E z=>hc.block g z (J g (cF ⟨I,E⟩))),h.2.2⟩
def frJ(u:X2)(j:Nat):Int:=((u.txs[j]?.map (·.fr)).getD 0:Nat)
def adJ(u:X2)(j:Nat):Int:=((u.txs[j]?.map (·.dest)).getD 0:Nat)
def daJ(u:X2)(j:Nat):ByteArray:=⟨((u.txs[j]?.map (·.data)).getD []).toArray⟩
def Vs(c:Cf)(u:X2)(j:Nat):List Fr.F:=Fr.mg c.inbox c.batcher (frJ u j) (adJ u j) (daJ u j).data.toList
theorem yT(c:Cf)(u:X2)(j:Nat)(t:Tx)(h:u.txs[j]? =M t):Vs c u j=Dv.qP c t:=by unfold Vs frJ adJ daJ Fr.mg Dv.qP;rw[h];simp only[cO,fH,Int.ofNat_inj]
theorem aai(c:Cf)(u:X2)(h:∀t,t∈u.txs->t.data.length<=2000)(j:Nat):(Vs c u j).length<=222:=by
 cases ht:u.txs[j]? with
 |some t=>rw[yT c u j t ht];exact Dv.zu c t (h t (aX ht))
 |none=>
  unfold Vs daJ Fr.mg;rw[ht];split
  .simp[Fr.frames]
  .simp
theorem Uk(c:Cf)(u:X2)(j:Nat)(x:Fr.F)(h:x∈Vs c u j):x.num<65536/\x.data.length<=65536:=by
 unfold Vs Fr.mg at h;split at h
 .cases z:Fr.frames (daJ u j).data.toList with
  |none=>rw[z]at h;simp at h
  |some l=>
   rw[z]at h;obtain⟨_,h2,h3⟩:=(Fr.Ov z).2.2 x h;exact⟨h2,aA⟩
 .simp at h
theorem G5:∀{l m:List Nat},l.Nodup->(∀x,x∈l->x∈m)->l.length<=m.length
 |[],_,_,_=>dL _
 |x::l,m,hn,hs=>by
  have E:=hs x dQ;obtain⟨I,h2⟩:=iE.1 hn;have:=G5 (l:=l) (m:=m.erase x) h2 (λy z=>(List.mem_erase_of_ne (λe=>I (by rw[<-e];exact z))).2 (hs y (cZ _ z)));rw[List.length_erase_of_mem E]at this;have:=List.length_pos_of_mem E;rw[aU];omega
section
variable {w:X}
variable {kb nb:Nat}{c:Cf}{vu:aD}{us:List PB}{dl:Nat->List (List UInt8)}{vo vw:aD}{ws:List PW}{nm:AL}{os:List PC}{cnt ep sq:Nat}{u:X2}{ta la:Option fR}{tn tc ln lc:Nat}
theorem acg(I:kW w u (.slice ta tn tc) (.slice la ln lc))(J:∀t,t∈u.txs->t.data.length<=2000):tn=u.txs.length/\∃tb p0,Xh (λ_=>True) w ta tb p0 tn (frJ u) (adJ u) (daJ u):=by
 obtain⟨hx,_⟩:=I;obtain⟨_,a,cap,e,_,z⟩:=hx;cases e;refine⟨rfl,?_⟩;obtain R|R:=gQ u.txs.length
 .exact⟨0,0,λh=>aA,λj E=>aA,λj E=>aA⟩
 .obtain⟨g,off,rfl,Y,hc⟩:=z R;refine⟨g,off,λ_=>⟨rfl,trivial⟩,λj E=>?_,λj E=>?_⟩<;>obtain⟨t,ht⟩:∃t,u.txs[j]? =M t:=⟨_,aO E⟩
  .have q:=Hm.yc.get (w:=w) (l:=u.txs) (g:=g) (off:=off) (cap:=tc) ⟨‹_›,_,_,rfl,‹_›,λ_=>⟨g,off,rfl,Y,hc⟩⟩ ht;unfold frJ adJ daJ;rw[ht];exact q
  .unfold daJ;rw[ht];have:=J t (aX ht)
   show t.data.toArray.size<=_
   simp;omega
theorem Oy(hS:TS w kb nb c vu us dl vo vw ws nm os cnt ep sq){Y ac:aD}{ws':List PW}{ai:AL}{I:List PC}(J:TS w' kb nb c vu us dl Y ac ws' ai I cnt ep sq)(hc:jL (λj=>j=kb\/j=nb\/vw.ownBlock=M j) w w')(R:∀j,Hm.Own nb Y I j->Hm.Own nb vo os j):I.length<=os.length:=by
 have h:=G5 (l:=I.map _) (m:=os.map (·.blk)) J.ch.apart (λx hx=>?_)
 .simpa using h
 obtain⟨o,ho,rfl⟩:=bM.1 hx;have E:w'.heap[o.blk]? =_:=(J.ch.chans o ho).obj;unfold Hm.vW at E
 have aj:o.blk≠kb:=λe=>by
  rw[e,J.d.obj]at E;simp at E
 have ah:o.blk≠nb:=λe=>Hm.lg E J.ch.named e
 have hold:vw.ownBlock≠M o.blk->o.blk<w.heap.size->w.heap[o.blk]? =_:=λh hl=>(hc.block _ hl (by
  grind)).symm.trans E
 obtain e|e|⟨o',af,e|e⟩:=R o.blk (cF (cF ⟨o,ho,bN rfl⟩))
 .exact Xs e ah
 .exfalso;obtain⟨ae,z⟩:=hS.ch.order.obj e;have hv:=Hm.jH hS.d.wait z aB;rw[hold hv (jE z)]at z;simp at z
 .grind
 .exfalso;have aa:=hS.ch.chans o' af
  have ag:o'.ch.spoilt=aR:=by
   cases hs:o'.ch.spoilt with
   |false=>rfl
   |true=>have:=(aa.spoilt hs).2;rw[e]at this;cases this
  obtain⟨B,hB,hm⟩:=(aa.sound ag).map;rw[e]at hB;cases hB;obtain⟨es,cl,hb,_⟩:=hm
  have hv:vw.ownBlock≠M o.blk:=λq=>by
   obtain⟨ae,z⟩:=hS.d.wait.obj q;rw[hb]at z;cases z
  rw[hold hv (jE hb)]at hb;cases hb
theorem TS.mark(z:TS w kb nb c vu us dl vo vw ws nm os cnt ep sq){D:Nat}(hD:w.heap[D]? =M (eA (M []))):TS (w.putObj D (eA Z)) kb nb c vu us dl vo vw ws nm os cnt ep sq:=by
 have J:∀(j:Nat)(cs:Array aD)(t:Nat)(fz:Nat×Nat),w.heap[j]? =M (aL cs t fz)->j≠D:=λj cs t fz h e=>by
  grind
 have ac:∀(j:Nat)(q:IntKind)(m:AL),Hm.lS w j q m->j≠D:=λj q m h e=>by
  obtain⟨es,cl,h,_⟩:=h;subst e;rw[hD]at h;cases h
 have R:∀j,j≠D->(w.putObj D (eA Z)).heap[j]? =w.heap[j]?:=λj hj=>World.putObj_heap_other hj
 have E:∀{e s n:Nat}{v:aD}{xs:List aD},Hm.Row w e s v n xs->Hm.Row (w.putObj D (eA Z)) e s v n xs:=λhr=>hr.kept (λg hg=>R g (by
  obtain⟨ae,Y⟩:=hr.obj hg;exact J g _ _ _ Y))
 have aa:1≠D:=by
  obtain⟨hc,t,fz,q,_⟩:=z.ht;exact J _ _ _ _ q
 have I:∀i,(w.putObj D (eA Z)).cell? ⟨1,i,Z⟩=w.cell? ⟨1,i,Z⟩:=λi=>by unfold eQ;rw[R _ aa]
 refine⟨⟨(R _ (J _ _ _ _ z.d.obj)).trans z.d.obj,E z.d.upper,E z.d.wait,λj p hp=>E (z.d.deps j p hp),λp hp=>E (z.d.txs p hp)⟩,⟨z.ch.named.of_block (R _ (ac _ _ _ z.ch.named)),E z.ch.order,λo ho=>?_,z.ch.apart,z.ch.maps,z.ch.far,z.ch.entries⟩,⟨⟨by rw[I];exact z.hd.1.1,by rw[I];exact z.hd.1.2.1,by rw[I];exact z.hd.1.2.2⟩,⟨by rw[I];exact z.hd.2.1,by rw[I];exact z.hd.2.2.1,by rw[I];exact z.hd.2.2.2⟩⟩,by rw[R _ aa];exact z.ht⟩;have h:=z.ch.chans o ho;refine⟨(R _ (J _ _ _ _ h.obj)).trans h.obj,h.fine,h.small,h.lastLt,λe=>?_,h.spoilt⟩;have s:=h.sound e;obtain⟨B,hB,hm⟩:=s.map;exact⟨⟨B,hB,hm.of_block (R _ (ac _ _ _ hm))⟩,s.size,s.room,s.ended,s.last⟩
theorem QH(rd:Cr.ReadW){Post:vU}{D:Nat->Prop}{b₀:cT}{a₀:Act}{ops:Array Oper}{i:Nat}{rest:List Nat}{k:List Item}{XX A:List cT}{o:Oper}{x y:Operand}{cl:Array TypeId}(ho:ops[i]? =M o)(hw:Region.wanted o (yielded ops a₀.tmps)=bB)(cn:o.op=.call { callee:=.value (.func 31),args:=#[x,y],argTypes:=cl })(ex:a₀.eval x=ptr kb)(ey:a₀.eval y=gR #[N aE u.id,N aE u.time,.slice ta tn tc,.slice la ln lc])(c4:Tryz.prog.globals.size<=w.heap.size)(hS:TS w kb nb c vu us dl vo vw ws nm os cnt ep sq)(cp:kW w u (.slice ta tn tc) (.slice la ln lc))(ah:∀g,(0<u.txs.length/\(aM ta tn tc).ownBlock=M g)\/(0<u.logs.length/\(aM la ln lc).ownBlock=M g)->g<w.heap.size/\¬Tk kb nb vu vo vw os g)(z:Dv.small u=bB)(hcf:Dv.jK c=bB)(dj:us.length<=60)(c9:os.length<=1000000)(bs:Fits c.most (lives nm os))(cv:ws.length+4096*(lives nm os).length<=2000000000)(az:∀D' w' b1 v3 bo bq ak ar E,TS w' kb nb c b1 (us++[(u.id,u.time,v3)]) (Nz dl us.length u) bo bq (ws++ak) ar E cnt ep sq->jL (Tk kb nb vu vo vw os) w w'->(∀j,Tk kb nb b1 bo bq E j->Tk kb nb vu vo vw os j\/w.heap.size<=j)->E.length<=os.length+4440->Fits c.most (lives ar E)->(lives ar E,(ws++ak).map cI)=Dv.take c u us.length (lives nm os) (ws.map cI)->Wq D' Post XX (b₀.at (a₀.put o.dst (.tuple #[])) (.inRegion ops rest::k)) A w'):Wq D Post XX (b₀.at a₀ (.inRegion ops (i::rest)::k)) A w:=by
 obtain⟨di,dk,bl,cb⟩:=Dv.qj z
 have dh:1<=c.timeout/\c.timeout<=8/\1<=c.window/\c.window<=8/\0<=c.drift/\c.drift<=100/\2<=c.step/\c.step<=20/\1<=c.most/\c.most<=4096:=by
  unfold Dv.jK at hcf;exact Z2 hcf
 refine Wq.call ho hw cn (fq Tryz.func31 rfl) rfl SG ?_;simp only[fQ,eP,fP,ex,ey,show Tryz.f31.ntmps=93 from rfl,dR,aU,bY,Nat.reduceAdd,Nat.reduceSub,dH,dG,dU,dI,dS,dN];refine Tf (u:=u) hS rfl ?_;intro a1 w1 cc am ba;have bw:=hS.kept am (λ_ _ e=>e);have an:=pV cp am (λ_ _ e=>e);refine aaJ bw cc ba an (λx hx=>by have:=cb x hx;omega) aA ?_;intro a2 w2 b3 v3 b5 bu af ap;have bp:=ba.jM af (λj cs t fz h ht=>bw.Uj h aA aA)
 have bh:=pV an af (λg hg=>by
  rintro(e|e)
  .exact(ah g hg).2 (bN e)
  .exact(ah g hg).2 (cF (bN e)))
 refine WL (c0:=us.length) bu b5 bp aA aA aA ?_;intro a3 w3 b9 a7 aj ce bb ag av cu R;have au:=bp.jM ag (λj cs t fz h ht=>bu.JA h aA aA aA)
 have bj:=pV bh ag (λg hg=>by
  rintro(e|e)
  .exact(ah g hg).2 (bN e)
  .exact(ah g hg).2 (cF (cF (cF e))))
 have s1:=am.size;have s2:=af.size;have s3:=ag.size;refine Wq.seq (Wq.seq ?_);obtain⟨dg,bg⟩:=TL;rw[bg];obtain⟨br,tb,p0,cd⟩:=acg bj bl;refine abn (u:=u) (c:=c) (fs:=Vs c u) rd ce au.h2 au.h3 bb.d.obj aA aA cd (λ_ _=>rfl) ?_;intro a4 w4 D4 cm cr ca cf hF;have ae:jL (λ_=>False) w3 w4:=⟨by have:=hF.size;omega,λj hj _=>hF.old j hj⟩
 have s4:=ae.size;have bv:=bb.kept ae (λ_ _ e=>e);have bm:=au.jM ae (λ_ _ _ _ _ _ e=>e);obtain⟨vs,a9,bk,a0⟩:=hF.rows;have ac:Hm.lT (Vs c u) tn=Dv.heard c u.txs:=by rw[br];exact Hm.MK c _ _ (yT c u)
 have cz:(Hm.lT (Vs c u) tn).length<=4440:=by rw[ac];exact Dv.zM c z
 refine aaO (c0:=us.length) (C:=w3.heap.size+1) (m:=tn) (vs:=vs) (fs:=Vs c u) bv cm bm cr ca cf a9 bk (λi hi=>?rows) (λi f _ hf=>Uk c u i f hf) aA (λi=>by have:=aai c u bl i;omega) aA aA ?_
 case rows=>
  obtain⟨v,h1,h2⟩:=a0 i hi;refine⟨v,h1,h2.imp id ?_⟩;rintro⟨g,cap,b4,r1,_,r2,r3,_,_,r4⟩;exact⟨g,cap,b4,r1,r2,r3,r4⟩
 intro a5 w5 b8 ai I co bd a8 cj cx aa;have cg:=bm.jM a8 (λj cs t fz h ht=>bv.JA h aA aA aA);have s5:=a8.size;have aw:Fits c.most (lives a7 aj):=by rw[R];exact Hm.Kw bs _
 have Y:Fits c.most (lives ai I):=by rw[aa];exact Hm.FN aA _ aw
 have cy:(lives a7 aj).length<=(lives nm os).length:=by rw[R];exact gZ _ _
 have ct:(lives ai I).length<=(lives nm os).length+4440:=by
  rw[aa];have:=Dv.uf c.most us.length (Hm.lT (Vs c u) tn) (lives a7 aj);omega
 have de:=Dv.DW (lives ai I);refine UU (c0:=us.length) bd co cg aA (λs hs=>by have:=(Hm.zf Y).1 s hs;omega) aA ?_;intro a6 w6 dd ci b2 ak ck b6 b7 hD db bz ay J aq cw ao bn;have s6:=ay.size;have cq:=Oy bd bz ay J;refine Wq.fin λtodo=>Wq.takes (b:=dd) (ds:=[]) rfl b7 hD ?_;refine Wq.leave (v:=.tuple #[]) (fn:=Tryz.f31) rfl rfl rfl (fq Tryz.func31 rfl) (λw=>by simp[results,Tryz.results31,go_sem]) ?_;rw[fO,ho];have b0:∀j,j<w.heap.size->(w6.putObj dd (eA Z)).heap[j]? =w6.heap[j]?:=λj hj=>World.putObj_heap_other aA;have c1:(w6.putObj dd (eA Z)).heap.size=w6.heap.size:=World.putObj_size;have g3:∀j,Hm.Own nb b9 aj j->Hm.Own nb vo os j\/w.heap.size<=j:=λj hj=>(av j hj).imp id (λq=>aA)
 have g5:∀j,Hm.Own nb b8 I j->Hm.Own nb vo os j\/w.heap.size<=j:=λj hj=>by
  grind
 refine az D4 _ b3 v3 ci b2 ak ck b6 (TS.mark bz hD) ⟨aA,λj hj hn=>?jM⟩ (λj hj=>?own) aA (by rw[ao];exact(Hm.zf Y).2) ?take
 case jM=>
  rw[b0 j hj,ay.block j aA ?c6,a8.block j aA ?c5,ae.block j aA (λe=>e),ag.block j aA ?c3,af.block j aA ?c2,am.block j hj (λe=>e)]
  case c6=>
   rintro(e|e|e)
   .exact hn (bN e)
   .rw[e]at hn;exact hn (cF (cF (cF (bN rfl))))
   .exact hn (cF (cF (bN e)))
  case c5=>
   rintro(e|e)
   .exact hn (bN e)
   .obtain q|q:=g3 j e
    .exact hn (cF (cF (cF q)))
    .omega
  case c3=>
   rintro(e|e)
   .exact hn (bN e)
   .exact hn (cF (cF (cF e)))
  case c2=>
   rintro(e|e)
   .exact hn (bN e)
   .exact hn (cF (bN e))
 case own=>
  obtain q|q|q|q:=hj
  .exact bN (bN q)
  .obtain r|r:=ap j q
   .exact bN (cF (bN r))
   .exact cF aA
  .obtain r|r:=aq j q
   .exact bN (cF (cF (bN r)))
   .exact cF aA
  .obtain r|r:=g5 j (J j q)
   .exact bN (cF (cF (cF r)))
   .exact cF r
 case take=>
  rw[Hm.Wu c u us.length (lives nm os) (ws.map cI) (Vs c u) (yT c u) (lives ai I) (by rw[aa,R,br]),ao,bJ,bn]
end
end
end Pa
namespace Hm
open Go.RowKit Go.Joins Go.Shelf
open Dv (X2 Cf Ba Lo)
attribute [local go_sem] Oper.semAt_some
variable {kb nb:Nat}{vu vo vw:aD}{us:List PB}{dl:Nat->List (List UInt8)}{W:X}
theorem Qh:(PQ.info? 52).map (λi=>(i.zero,i.size,i.bytes))=M (M lo0,8,96):=XN
def SJ(c:Cf)(us:List PB)(dl:Nat->List (List UInt8))(XS:Nat->Prop)(I:Nat)(v0:aD)(z:List PL)(w:X)(E:List DX)(W:X):Prop:=∃ps a cap,SI c us dl XS I v0 z w E W ps a cap
theorem SJ.own(c:Cf)(us:List PB)(dl:Nat->List (List UInt8))(XS:Nat->Prop)(Y:Nat)(v0:aD)(z:List PL)(w:X)(n:Nat)(hn:w.heap.size<=n):OwnFrom n (SJ c us dl XS Y v0 z w):=by rintro R A B row ⟨ps,a,cap,h⟩ J hr;obtain⟨M',hc,I,E⟩:=lH J hr;exact⟨ps,a,cap,h.nU hc I (λk hk=>E k aA)⟩
theorem DA.own{c:Cf}{d:sD}{A B:X}{XS:Nat->Prop}(h:DA A kb c vu us dl nb vo vw d)(hc:jI XS A B)(E:o8 XS A):DA B kb c vu us dl nb vo vw d:=by obtain⟨z,I,h2⟩:=h;exact⟨z,I.nU hc E,h2⟩
theorem Xe{b:Nat}{v:aD}(h:W.cell? ⟨b,0,Z⟩=M v):∃cs t z,W.heap[b]? =M (aL cs t z):=by
 unfold eQ at h;simp only at h;split at h
 .rename_i cs t z hk;exact⟨cs,t,z,hk⟩
 .cases h
theorem EP.own(kb z:Nat)(c:Cf)(vu:aD)(us:List PB)(dl:Nat->List (List UInt8))(nb:Nat)(vo vw:aD)(s0:sD)(n:Nat):OwnFrom n (EP kb z c vu us dl nb vo vw s0):=by rintro J A B row ⟨R,h2⟩ I Y;obtain⟨M',hc,E,aa⟩:=lH I Y;obtain⟨cs,t,fz,hk⟩:=Xe h2;exact⟨R.own hc E,(cD (hc.block z (jE hk) (E _ _ _ _ hk))).trans h2⟩
theorem Zf.own(kb:Nat)(c:Cf)(vu:aD)(us:List PB)(dl:Nat->List (List UInt8))(nb:Nat)(vo vw:aD)(s0:sD)(n:Nat):OwnFrom n (Zf kb c vu us dl nb vo vw s0):=by rintro I A B row J E R;obtain⟨M',hc,z,Y⟩:=lH E R;exact DA.own J hc z
theorem DY.own(kb E:Nat)(c:Cf)(vu:aD)(us:List PB)(dl:Nat->List (List UInt8))(nb:Nat)(vo vw:aD)(s0:sD)(n lo:Nat):OwnFrom n (λ(q:List DX×DX) W=>DY kb E c vu us dl nb vo vw s0 q.1 q.2 lo W):=by rintro q A B row ⟨h1,⟨vd,h2,h3⟩,h4,h5,h6⟩ J R;have z:=EP.own kb E c vu us dl nb vo vw s0 n _ A B row h6 J R;obtain⟨M',hc,I,aa⟩:=lH J R;exact⟨h1,⟨vd,h2,kQ.jM h3.1 hc I.str,h3.2⟩,λb Y=>(h4 b Y).jM hc I.str,h5,z⟩
theorem DY.pl{R:Nat}{c:Cf}{s0:sD}{J:List DX}{x:DX}{lo:Nat}{w:X}(h:DY kb R c vu us dl nb vo vw s0 J x lo W)(aa:w.heap.size<=lo)(Y:∀k,(k=kb\/vw.ownBlock=M k)->k<w.heap.size)(I:∀p,p∈s0.ws->∀g,p.2.ownBlock=M g->¬(g=kb\/vw.ownBlock=M g)):∃p:PL,p.1=pJ c us dl x/\LAt (λk=>k=kb\/vw.ownBlock=M k) W p/\jJ p=x.lv.cells.toList:=by
 obtain⟨h1,⟨vd,h2,h3⟩,h4,h5,h6⟩:=h;refine⟨(pJ c us dl x,txV x.ob,vd),rfl,⟨?_,?_,?_,?_⟩,?_⟩
 .cases z:x.ob with
  |none=>
   unfold pJ kQ txV Cm;rw[z];exact Row.nil _ _ _
  |some b=>
   have:=h4 b z;unfold pJ txV Cm;rw[z];exact this
 .exact h3.1
 .intro g E;cases z:x.ob with
  |none=>
   rw[z]at E;cases E
  |some b=>
   rw[z]at E;exact I b (Yw h1 z).1 g E
 .intro g E e;have:=h3.2 g E;have:=Y g e;omega
 .unfold DX.v loV at h2;have:=Z1 (λv=>match v with|.agg l=>l.toList|_=>[]) h2;dsimp only at this;rw[this];rfl
theorem vT(kb cB:Nat)(c:Cf)(vu:aD)(us:List PB)(dl:Nat->List (List UInt8))(nb:Nat)(vo vw:aD)(s0:sD)(v0:aD)(z:List PL)(w:X)(hG:Good c us s0)(bu:2<=c.step)(hdl:∀j,(dl j).length<=4294967296)(hD:rH w kb c vu us dl nb vo vw s0.ws s0.cnt s0.ep s0.sq)(ar:Boxed w cB 71 (aG (M ⟨kb,0,Z⟩)))(b0:0<us.length)(ag:Row w 52 8 v0 z.length (z.flatMap jJ))(aq:∀p,p∈z->kQ w p.2.1 p.1.txs/\kQ w p.2.2 p.1.deps)(a2:z.length<=s0.cnt):Calls PQ 32 #[v0,.func (.func 54) #[] #[aG (M ⟨cB,0,Z⟩)]] w λe w'=>∃E ps a cap,e=.returned (.slice a (z++ps).length cap)/\DS c us s0 E/\ps.map cI=E.map (pJ c us dl)/\Row w' 52 8 (.slice a (z++ps).length cap) (z++ps).length ((z++ps).flatMap jJ) /\(∀p,p∈z++ps->kQ w' p.2.1 p.1.txs/\kQ w' p.2.2 p.1.deps)/\Zf kb c vu us dl nb vo vw s0 E w'/\jI (λk=>(k=kb\/vw.ownBlock=M k)\/v0.ownBlock=M k) w w'/\(∀g,(aM a (z++ps).length cap).ownBlock=M g->v0.ownBlock=M g\/w.heap.size<=g):=by
 obtain⟨XS,ai⟩:∃XS:Nat->Prop,XS=λk=>k=kb\/vw.ownBlock=M k:=⟨_,rfl⟩
 have av:∀k,XS k->k<w.heap.size:=by
  rw[ai];rintro k (rfl|e)
  .exact(jE hD.obj)
  .exact hD.wait.lt e
 have ay:∀k cs t fz,w.heap[k]? =M (aL cs t fz)->XS k->t=100\/t=118:=by
  rw[ai];rintro k cs t fz hk (rfl|e)
  .have:=hD.obj;rw[hk]at this;simp at this;exact bN this.2.1
  .obtain⟨bh,q⟩:=hD.wait.obj e;rw[hk]at q;simp at q;exact cF q.2.1
 have ap:¬XS cB:=λe=>by rcases ay cB _ _ _ ar e with h|h<;>revert h<;>decide
 have bn:∀g,v0.ownBlock=M g->¬XS g:=λg hg e=>by
  obtain⟨bh,q⟩:=ag.obj hg;rcases ay g _ _ _ q e with h|h<;>revert h<;>decide
 have ak:∀v l,kQ w v l->∀g,v.ownBlock=M g->¬XS g:=λv l h g hg e=>by
  obtain⟨bh,q⟩:=Row.obj h hg;rcases ay g _ _ _ q e with h|h<;>revert h<;>decide
 have a9:=λp hp=>ak _ _ (hD.txs p hp);have aj:=JX kb cB c vu us dl nb vo vw s0 hG bu hdl (by rw[ai]at ap;exact ap);have bb:=λE x n W (h:DY kb cB c vu us dl nb vo vw s0 E x n W) (hn:w.heap.size<=n)=>DY.pl h hn (by rw[ai]at av;exact av) (by rw[ai]at a9;exact a9)
 have a1:∀(E:List DX)(x:DX),Steps c us s0 (E++[x])->s0.cnt+E.length<4294967296:=λE x h=>by
  have h1:=Tq h;have h2:=((hG E h1).1 b0).cnt;rw[(LW h1).2]at h2;exact h2
 rw[<-ai]at aj bb;obtain⟨a0,J,rfl⟩:=ag.slice;rw[show(λk=>(k=kb\/vw.ownBlock=M k)\/(aM a0 z.length J).ownBlock=M k)=(λk=>XS k\/(aM a0 z.length J).ownBlock=M k) from by rw[ai]];obtain⟨V,hV⟩:∃V:X,V=w.alloc (aL #[.slice a0 z.length J] 44):=⟨_,rfl⟩
 have b7:V.heap.size=w.heap.size+1:=by rw[hV];simp
 have ah:Below w.heap.size w V:=by rw[hV];exact(aJ _ w).alloc jB _
 have bm:Boxed V w.heap.size 44 (.slice a0 z.length J):=by unfold Boxed;rw[hV];exact heap_alloc_new _ _
 have a3:=ar.lt;have a4:EP kb cB c vu us dl nb vo vw s0 [] V:=⟨⟨vw,hD.below ah,λg h=>h⟩,(ah.cell (p:=⟨cB,0,Z⟩) a3).trans ar.cell⟩
 have bj:SJ c us dl XS w.heap.size (.slice a0 z.length J) z w [] V:=⟨[],a0,J,⟨rfl,by simpa using bm,by simpa using ag.below ah,λp hp=>by
  rw[gI]at hp;exact⟨Row.below (aq p hp).1 ah,Row.below (aq p hp).2 ah,ak _ _ (aq p hp).1,ak _ _ (aq p hp).2⟩,λg hg=>bN (by simpa using hg),.below ah jB _,aA⟩⟩
 have ao:(∀g,(aM a0 z.length J).ownBlock=M g->g≠cB)/\cB<w.heap.size:=⟨λg hg e=>jH ag ar aB (by rw[hg,e]),a3⟩
 have H0:Hid _:=jy aj (jy bb (jy a1 (jy av (jy bn (jy a4 (jy bj (jy ah a2)))))));have bq:∀k,XS k->k<V.heap.size:=λk hk=>by have:=av k hk;omega
 clear aj bb a1 bn a4 bj ah hD hG hdl ar ag aq a2 ay ap ak a9 bm;refine callsIn_wide.1 (callsIn_of_wp_marks (n:=3) (fq Tryz.func32 rfl) rfl trivial ?_ rfl);simp only[Tryz.ntmps32,dR,aU,bY,Nat.reduceAdd,Nat.reduceSub,dH,dG,dU,dI,dS,dN];gi_wp2;rw[<-hV];clear hV;obtain⟨i0,hi,bs,b1,bw⟩:=info_parts Qh
 refine tq (gf:=54) (lb:=#[.pointer _]) rfl (enters_of (fq Tryz.func54 rfl) XN rfl)
  (Lu H0.out.1) bq (λ_ _ _ _ _ h=>h) (EP.own kb cB c vu us dl nb vo vw s0 _) (Zf.own kb c vu us dl nb vo vw s0 _) (λn=>DY.own kb cB c vu us dl nb vo vw s0 _ n) (λ_=>rfl)
  _ (λ_ _ _=>False) (SJ.own c us dl XS _ _ z w _ aA) (λ_ _ _ _ _ h=>h.elim) H0.out.2.2.2.2.2.2.1 H0.out.2.2.2.2.2.1
  (λx B=>{ tmps:=#[.slice a0 z.length J,.func (.func 54) #[] #[aG (M ⟨cB,0,Z⟩)],aG (M ⟨w.heap.size,0,Z⟩),aH,aM Z 0 0,aG (M ⟨B,0,Z⟩),.func (.func 54) #[] #[aG (M ⟨cB,0,Z⟩)],.agg x.lv.cells,aH,aH,aH,aH,aH],defers:=[] })
  (λx W=>W.alloc (aL x.lv.cells 52)) (λ_ W k hk=>aZ W _ k hk) (λ_ W=>aC) (λ_ W l o hl=>yw W l _ o hl) ?assign ?body ?done ?stop
 case assign=>
  intro l x W K hK;simp only[DX.encs,DX.v,LV.cells]at hK⊢;gi_wp2;exact hK
 case body=>
  rintro l E x W0 W1 b4 b3 ⟨r,hr⟩ ⟨ps,a,cap,hI⟩ hc _ hy;have bz:=hI.jM.size;obtain⟨p,az,aw,au⟩:=H0.out.2.1 E x _ W1 hy bz;have Y:=hI.turn hc (λe=>by have:=H0.out.2.2.2.1 _ e;omega) H0.out.2.2.2.2.1 H0.out.2.2.2.1;have b5:=H0.out.2.2.1 E x hy.1
  have b2:ps.length=E.length:=by
   have:=Z1 List.length hI.los;simpa using this
  have b6:=H0.out.2.2.2.2.2.2.2.2;have b8:=hc.size;obtain⟨X1,hN⟩:∃X1,(z++ps).length=X1:=⟨_,rfl⟩
  have ca:X1<4294967296:=by rw[<-hN,aS];omega
  have an:=Y.box;have ba:=Y.row;rw[hN]at an ba;obtain⟨G,bd,gb,gk⟩:=jD W1 x.lv.cells 52;rw[<-bd];have gs:G.heap.size=W1.heap.size+1:=by rw[bd];simp
  clear bd;unfold LV.cells at gk;obtain⟨k0,k1,k2,k3,k4,k5,k6,k7,kf⟩:=lq gk;have bG:Boxed G w.heap.size 44 (.slice a X1 cap):=(gb.block _ an.lt).trans an;have m0:=bG.cell;have qG:=ba.below gb;have Hc:Hid _:=jy bG (jy qG (jy hy (jy Y (jy hc (jy az (jy aw (jy au (jy gb (jy hN hI)))))))));clear bG qG hy Y hc az aw au gb hN hI hr an ba gk;gi_wp2_with (gi_at_builtin;refine vH _ (by rfl) (.tmp 8) (.tmp 10) 44 (by rfl) 52 i0 _ 8 96 (uq Tryz.underlying44) hi bs b1 bw (by rfl) aB _ X1 _ (by rfl) (Hc.out.2.1.below ((aJ _ G).alloc jB _)) ⟨W1.heap.size+1,0,Z⟩ 1 1 x.lv.cells.toList (by rfl) aB (by rfl) (by intro j u I;rw[<-gs];unfold LV.cells at I;match j,I with|0,I=>(simp at I;subst I;simp[lr])|1,I=>(simp at I;subst I;simp[lr])|2,I=>(simp at I;subst I;simp[lr])|3,I=>(simp at I;subst I;simp[lr])|4,I=>(simp at I;subst I;simp[lr])|5,I=>(simp at I;subst I;simp[lr])|6,I=>(simp at I;subst I;simp[lr])|7,I=>(simp at I;subst I;simp[lr])) (by intro u hu;unfold LV.cells at hu;simp at hu;rcases hu with rfl|rfl|rfl|rfl|rfl|rfl|rfl|rfl<;>rfl) (by unfold maxLen;omega) aA ?_;intro g off af w4 aa ac;have e0:Boxed w4 w.heap.size 44 (.slice a X1 cap):=ac.keep (Hc.out.2.1.below ((aJ _ G).alloc jB _)) (Hc.out.1.alloc _) aB;have n0:=e0.cell;have n1:=e0.frozen;have HF:Hid _:=jy aa (jy ac e0);clear aa ac e0)
  obtain⟨aa,ac,e0⟩:=HF.out;obtain⟨bG,qG,hy,Y,hc,az,aw,au,gb,hN,hI⟩:=Hc.out;have e1:Boxed (w4.setCell ⟨w.heap.size,0,Z⟩ (aM (M ⟨g,off,Z⟩) (X1+1) af)) w.heap.size 44 (aM (M ⟨g,off,Z⟩) (X1+1) af):=e0.set _;have bl:=(aJ _ G).alloc jB (aL x.lv.cells 52);have bp:=qG.below bl
  have e2:Row (w4.setCell ⟨w.heap.size,0,Z⟩ (aM (M ⟨g,off,Z⟩) (X1+1) af)) 52 8 (aM (M ⟨g,off,Z⟩) (X1+1) af) (X1+1) ((z++ps).flatMap jJ++jJ p):=by
   rw[au];exact aa.jM (jI.set w4 _ 0 _) (λq hq e=>jH aa e0 aB (by rw[hq,e]))
  have ae:jI (λk=>(aM a X1 cap).ownBlock=M k\/k=w.heap.size) W1 (w4.setCell ⟨w.heap.size,0,Z⟩ (aM (M ⟨g,off,Z⟩) (X1+1) af)):=
   (((jI.below gb jB _).trans (jI.below bl jB (λ_=>False)) (λ_ _ e=>e.elim)).trans ac.jM (λk _ e=>bN e)).trans (jI.set w4 _ 0 _) (λk _ e=>cF e)
  have a8:KeepsOthers G (w4.setCell ⟨w.heap.size,0,Z⟩ (aM (M ⟨g,off,Z⟩) (X1+1) af)):=((KeepsOthers.alloc G _).trans (ac.others bp)).trans (KeepsOthers.setCell _ _ _);rw[<-hN]at ae e1 e2
  obtain⟨hT,R⟩:=Y.more az aw ae e1 e2 (λq hq=>by
   rw[hN];have hq:g=q:=by simpa[Value.ownBlock]using hq
   subst hq;obtain q|q:=ac.own
   .exact bN q
   .refine cF ?_;have q2:(G.alloc (aL x.lv.cells 52)).heap.size<=g:=q;simp at q2;omega) jB
  rw[hN]at ae hT R;refine⟨a8.from _,?_,?_,_,_,_,R⟩
  .obtain⟨⟨bv,h1,h2⟩,h3⟩:=hy.2.2.2.2;refine⟨⟨bv,h1.typed ae hT,h2⟩,?_⟩;refine(cD (ae.block cB (fG W1 _ h3) ?_)).trans h3;rintro(e|e)
   .rw[<-hN]at e;obtain q|q:=Y.own cB e
    .exact ao.1 cB q rfl
    .have:=ao.2;omega
   .have:=ao.2;omega
  .intro k b9 bk;refine(ae.block k bk ?_).trans (gb.block k bk).symm;rintro(e|e)
   .rw[<-hN]at e;have:=hI.row.lt e;omega
   .have:=hI.big;omega
 case done=>
  rintro D xs W0 W hD br hS ⟨ps,a,cap,hI⟩ hc _ bg hK;have Y:=hI.turn hc (λe=>by have:=H0.out.2.2.2.1 _ e;omega) H0.out.2.2.2.2.1 H0.out.2.2.2.1;have m0:=Y.box.cell;have bo:=grownBy_putObj' W D (eA Z)
  obtain⟨M',a7,a6,a5⟩:=lH (n:=w.heap.size) bo (λr e=>by
   have e:D=r:=by simpa using e
   subst e;exact⟨aA,_,hK,rfl⟩)
  have R:=Y.nU a7 a6 a5;have am:Zf kb c vu us dl nb vo vw s0 xs (W.putObj D (eA Z)):=DA.own bg a7 a6;have HF:Hid _:=jy R (jy am hS);clear hI Y R bg am hc a7 a6 a5 bo hS;gi_wp2;refine⟨aC,bN ⟨_,_,rfl,run_takeDeferred hK,?_⟩⟩;obtain⟨R,am,hS⟩:=HF.out;exact⟨_,by simp[results,Tryz.results32,go_sem],xs,ps,a,cap,rfl,hS,R.los,R.row,λp hp=>⟨(R.at_ p hp).txs,(R.at_ p hp).deps⟩,am,R.jM,R.own⟩
 case stop=>
  rintro D c E W0 W hD br _ h;exact h.elim
end Hm
namespace Hm
open Go.RowKit Go.Joins Go.Shelf
def Bh(kb:Nat)(w:X):Calls PQ 33 #[aG (M ⟨kb,0,Z⟩)] w λe w'=>e=.returned (.func (.func 54) #[] #[aG (M ⟨w.heap.size,0,Z⟩)])/\w'=w.alloc (aL #[aG (M ⟨kb,0,Z⟩)] 71):=by go_enter (fq Tryz.func33 rfl),Tryz.ntmps33;go_wp2_with fail;go_ret;exact⟨rfl,rfl⟩
open Fr (below_drewN)
open Dv (X2 Cf Ba Ch)
section
variable {u1 u3 u6 u7 u8 u9 u10 u11 u12 u13 u14 u15 u16 u17 u18 u19 u20 u21 u22 u23 u24 u25 u26 u27 u28 u29 u30 u31 u32 u0 u4 u5 u2:aD}{Q:Exit->Act->X->Prop}
noncomputable def RZ:eN:=match Tryz.f15.body with
 |some (bL c _)=>c
 |_=>.skip
noncomputable def GU:eN:=match Tryz.f15.body with
 |some (bL _ (bL c _))=>c
 |_=>.skip
noncomputable def FU:eN:=match Tryz.f15.body with
 |some (bL _ (bL _ (bL c _)))=>c
 |_=>.skip
noncomputable def QY:eN:=match Tryz.f15.body with
 |some (bL _ (bL _ (bL _ (bL c _))))=>c
 |_=>.skip
noncomputable def Rt:eN:=match Tryz.f15.body with
 |some (bL _ (bL _ (bL _ (bL _ (bL c _)))))=>c
 |_=>.skip
noncomputable def RU:eN:=match Tryz.f15.body with
 |some (bL _ (bL _ (bL _ (bL _ (bL _ (bL (bL c _) _))))))=>c
 |_=>.skip
noncomputable def allL:eN:=match Tryz.f15.body with
 |some (bL _ (bL _ (bL _ (bL _ (bL _ (bL (bL _ (.block _ (.loop c))) _))))))=>c
 |_=>.skip
noncomputable def BR:eN:=match Tryz.f15.body with
 |some (bL _ (bL _ (bL _ (bL _ (bL _ (bL _ (bL c _)))))))=>c
 |_=>.skip
noncomputable def FC:eN:=match allL with
 |bL c _=>c
 |_=>.skip
noncomputable def GY:eN:=match allL with
 |bL _ (bL _ (bL (.block _ (bL c _)) _))=>c
 |_=>.skip
noncomputable def yP:eN:=match allL with
 |bL _ (bL _ (bL (.block _ (bL _ (bL c _))) _))=>c
 |_=>.skip
noncomputable def zh:eN:=match allL with
 |bL _ (bL _ (bL (.block _ (bL _ (bL _ c))) _))=>c
 |_=>.skip
noncomputable def yR:eN:=match allL with
 |bL _ (bL _ (bL _ c))=>c
 |_=>.skip
theorem X6:Tryz.f15.body=M (bL RZ (bL GU (bL FU (bL QY (bL Rt (bL (bL RU (.block 0 (.loop allL))) (bL BR .ret))))))):=XN
theorem KF:allL=bL FC (bL (.cond (.tmp 21) .skip (.exit 0)) (bL (.block 1 (bL GY (bL yP zh))) yR)):=XN
theorem ad5{u2 u4 u5:aD}(c:Cf)(w:X)(z:Q .normal { tmps:=#[gR #[N dT c.inbox,N dT c.batcher,N aE c.timeout,N aE c.window,N aE c.drift,N aE c.step,N aE c.most],u1,aG (M ⟨w.heap.size,0,Z⟩),u3,aM Z 0 0,N aE 0,u6,u7,u8,u9,u10,u11,u12,u13,u14,u15,u16,u17,u18,u19,u20,u21,u22,u23,u24,u25,u26,u27,u28,u29,u30,u31,u32],defers:=[] } (w.alloc (aL #[N dT c.inbox,N dT c.batcher,N aE c.timeout,N aE c.window,N aE c.drift,N aE c.step,N aE c.most] 24))):RZ.wp PQ Q { tmps:=#[gR #[N dT c.inbox,N dT c.batcher,N aE c.timeout,N aE c.window,N aE c.drift,N aE c.step,N aE c.most],u1,u2,u3,u4,u5,u6,u7,u8,u9,u10,u11,u12,u13,u14,u15,u16,u17,u18,u19,u20,u21,u22,u23,u24,u25,u26,u27,u28,u29,u30,u31,u32],defers:=[] } w:=by
 simp only[RZ,j6];go_wp2_with fail;exact z
theorem acH{u10 u11 u12:aD}(c:Cf)(E:Nat)(w:X)(k0:w.cell? ⟨E,0,Z⟩=M (N dT c.inbox))(k1:w.cell? ⟨E,1,Z⟩=M (N dT c.batcher))(k2:w.cell? ⟨E,2,Z⟩=M (N aE c.timeout))(k3:w.cell? ⟨E,3,Z⟩=M (N aE c.window))(k4:w.cell? ⟨E,4,Z⟩=M (N aE c.drift))(k5:w.cell? ⟨E,5,Z⟩=M (N aE c.step))(k6:w.cell? ⟨E,6,Z⟩=M (N aE c.most))(hcf:Dv.jK c=bB)(J:∀W',Below w.heap.size w W'->Q .normal { tmps:=#[u0,u1,aG (M ⟨E,0,Z⟩),u3,u4,u5,u6,u7,u8,u9,gR #[N dT c.inbox,N dT c.batcher,N aE c.timeout,N aE c.window,N aE c.drift,N aE c.step,N aE c.most],cM bB,cM aR,u13,u14,u15,u16,u17,u18,u19,u20,u21,u22,u23,u24,u25,u26,u27,u28,u29,u30,u31,u32],defers:=[] } W'):GU.wp PQ Q { tmps:=#[u0,u1,aG (M ⟨E,0,Z⟩),u3,u4,u5,u6,u7,u8,u9,u10,u11,u12,u13,u14,u15,u16,u17,u18,u19,u20,u21,u22,u23,u24,u25,u26,u27,u28,u29,u30,u31,u32],defers:=[] } w:=by
 have z:=wX c w;rw[hcf]at z;have H:Hid _:=z;have R:Hid _:=J;clear z J hcf;simp only[GU,j6];go_wp2_with (go_at_call 17;refine aT H.out ?_;rintro Y w5 ⟨rfl,I⟩)
 exact R.out _ I
theorem Qi{u4 u5 u10 u11 u12:aD}(c:Cf)(E:Nat)(w:X)(k0:w.cell? ⟨E,0,Z⟩=M (N dT c.inbox))(k1:w.cell? ⟨E,1,Z⟩=M (N dT c.batcher))(k2:w.cell? ⟨E,2,Z⟩=M (N aE c.timeout))(k3:w.cell? ⟨E,3,Z⟩=M (N aE c.window))(k4:w.cell? ⟨E,4,Z⟩=M (N aE c.drift))(k5:w.cell? ⟨E,5,Z⟩=M (N aE c.step))(k6:w.cell? ⟨E,6,Z⟩=M (N aE c.most))(hcf:Dv.jK c=aR)(J:∀W',Below w.heap.size w W'->Q .ret { tmps:=#[u0,u1,aG (M ⟨E,0,Z⟩),u3,aM Z 0 0,N aE 1,u6,u7,u8,u9,gR #[N dT c.inbox,N dT c.batcher,N aE c.timeout,N aE c.window,N aE c.drift,N aE c.step,N aE c.most],cM aR,cM bB,u13,u14,u15,u16,u17,u18,u19,u20,u21,u22,u23,u24,u25,u26,u27,u28,u29,u30,u31,u32],defers:=[] } W'):GU.wp PQ Q { tmps:=#[u0,u1,aG (M ⟨E,0,Z⟩),u3,u4,u5,u6,u7,u8,u9,u10,u11,u12,u13,u14,u15,u16,u17,u18,u19,u20,u21,u22,u23,u24,u25,u26,u27,u28,u29,u30,u31,u32],defers:=[] } w:=by
 have z:=wX c w;rw[hcf]at z;have H:Hid _:=z;have R:Hid _:=J;clear z J hcf;simp only[GU,j6];go_wp2_with (go_at_call 17;refine aT H.out ?_;rintro Y w5 ⟨rfl,I⟩)
 exact R.out _ I
theorem ad6{u13 u14 u15:aD}(R:Option fR)(n vc:Nat)(ps:List PU)(w:X)(I:oz w (.slice R n vc) ps)(E:ps.length<=4294967296)(J:Dv.jS (ps.map cI)=bB)(hQ:∀W',Below w.heap.size w W'->Q .normal { tmps:=#[u0,.slice R n vc,u2,u3,u4,u5,u6,u7,u8,u9,u10,u11,u12,.slice R n vc,cM bB,cM aR,u16,u17,u18,u19,u20,u21,u22,u23,u24,u25,u26,u27,u28,u29,u30,u31,u32],defers:=[] } W'):FU.wp PQ Q { tmps:=#[u0,.slice R n vc,u2,u3,u4,u5,u6,u7,u8,u9,u10,u11,u12,u13,u14,u15,u16,u17,u18,u19,u20,u21,u22,u23,u24,u25,u26,u27,u28,u29,u30,u31,u32],defers:=[] } w:=by
 have z:=GK _ ps w I E;rw[J]at z;have H:Hid _:=z;have HQ:Hid _:=hQ;clear z hQ J I E;simp only[FU,j6];go_wp2_with (go_at_call 29;refine aT H.out ?_;rintro e5 w5 ⟨rfl,Y⟩)
 exact HQ.out _ Y
theorem NP{u4 u5 u13 u14 u15:aD}(R:Option fR)(n vc:Nat)(ps:List PU)(w:X)(I:oz w (.slice R n vc) ps)(E:ps.length<=4294967296)(J:Dv.jS (ps.map cI)=aR)(hQ:∀W',Below w.heap.size w W'->Q .ret { tmps:=#[u0,.slice R n vc,u2,u3,aM Z 0 0,N aE 2,u6,u7,u8,u9,u10,u11,u12,.slice R n vc,cM aR,cM bB,u16,u17,u18,u19,u20,u21,u22,u23,u24,u25,u26,u27,u28,u29,u30,u31,u32],defers:=[] } W'):FU.wp PQ Q { tmps:=#[u0,.slice R n vc,u2,u3,u4,u5,u6,u7,u8,u9,u10,u11,u12,u13,u14,u15,u16,u17,u18,u19,u20,u21,u22,u23,u24,u25,u26,u27,u28,u29,u30,u31,u32],defers:=[] } w:=by
 have z:=GK _ ps w I E;rw[J]at z;have H:Hid _:=z;have HQ:Hid _:=hQ;clear z hQ J I E;simp only[FU,j6];go_wp2_with (go_at_call 29;refine aT H.out ?_;rintro e5 w5 ⟨rfl,Y⟩)
 exact HQ.out _ Y
theorem acD{u6:aD}(w:X)(z:Q .normal { tmps:=#[u0,u1,u2,u3,u4,u5,aM Z 0 0,u7,u8,u9,u10,u11,u12,u13,u14,u15,u16,u17,u18,u19,u20,u21,u22,u23,u24,u25,u26,u27,u28,u29,u30,u31,u32],defers:=[] } w):QY.wp PQ Q { tmps:=#[u0,u1,u2,u3,u4,u5,u6,u7,u8,u9,u10,u11,u12,u13,u14,u15,u16,u17,u18,u19,u20,u21,u22,u23,u24,u25,u26,u27,u28,u29,u30,u31,u32],defers:=[] } w:=by
 simp only[QY,j6];go_wp2_with fail;exact z
theorem acR{u7 u16 u17:aD}(c:Cf)(E:Nat)(w:X)(k0:w.cell? ⟨E,0,Z⟩=M (N dT c.inbox))(k1:w.cell? ⟨E,1,Z⟩=M (N dT c.batcher))(k2:w.cell? ⟨E,2,Z⟩=M (N aE c.timeout))(k3:w.cell? ⟨E,3,Z⟩=M (N aE c.window))(k4:w.cell? ⟨E,4,Z⟩=M (N aE c.drift))(k5:w.cell? ⟨E,5,Z⟩=M (N aE c.step))(k6:w.cell? ⟨E,6,Z⟩=M (N aE c.most))(J:∀W',W'=((w.alloc (aL (jF c) 24)).alloc (.map #[] 0)).alloc (aL (jP c (aM Z 0 0) (w.heap.size+1) (aM Z 0 0) (aM Z 0 0) 0 0 0) 100)->Q .normal { tmps:=#[u0,u1,aG (M ⟨E,0,Z⟩),u3,u4,u5,u6,aG (M ⟨w.heap.size+2,0,Z⟩),u8,u9,u10,u11,u12,u13,u14,u15,gR #[N dT c.inbox,N dT c.batcher,N aE c.timeout,N aE c.window,N aE c.drift,N aE c.step,N aE c.most],aG (M ⟨w.heap.size+2,0,Z⟩),u18,u19,u20,u21,u22,u23,u24,u25,u26,u27,u28,u29,u30,u31,u32],defers:=[] } W'):Rt.wp PQ Q { tmps:=#[u0,u1,aG (M ⟨E,0,Z⟩),u3,u4,u5,u6,u7,u8,u9,u10,u11,u12,u13,u14,u15,u16,u17,u18,u19,u20,u21,u22,u23,u24,u25,u26,u27,u28,u29,u30,u31,u32],defers:=[] } w:=by
 have z:=new_any c w;have H:Hid _:=z;have R:Hid _:=J;clear z J;simp only[Rt,j6];go_wp2_with (go_at_call 30;refine aT H.out ?_;rintro e5 w5 ⟨rfl,I⟩;have Y:Hid _:=I;clear I)
 exact R.out _ Y.out
theorem ach{u18 u19 u20:aD}(z:Option fR)(n vc:Nat)(w:X)(E:Q .normal { tmps:=#[u0,.slice z n vc,u2,u3,u4,u5,u6,u7,u8,u9,u10,u11,u12,u13,u14,u15,u16,u17,.slice z n vc,N aE n,N aE 0,u21,u22,u23,u24,u25,u26,u27,u28,u29,u30,u31,u32],defers:=[] } w):RU.wp PQ Q { tmps:=#[u0,.slice z n vc,u2,u3,u4,u5,u6,u7,u8,u9,u10,u11,u12,u13,u14,u15,u16,u17,u18,u19,u20,u21,u22,u23,u24,u25,u26,u27,u28,u29,u30,u31,u32],defers:=[] } w:=by
 simp only[RU,j6];go_wp2_with fail;exact E
theorem Yu{u21:aD}(j n:Nat)(w:X)(z:Q .normal { tmps:=#[u0,u1,u2,u3,u4,u5,u6,u7,u8,u9,u10,u11,u12,u13,u14,u15,u16,u17,u18,N aE n,N aE j,cM (decide (j<n)),u22,u23,u24,u25,u26,u27,u28,u29,u30,u31,u32],defers:=[] } w):FC.wp PQ Q { tmps:=#[u0,u1,u2,u3,u4,u5,u6,u7,u8,u9,u10,u11,u12,u13,u14,u15,u16,u17,u18,N aE n,N aE j,u21,u22,u23,u24,u25,u26,u27,u28,u29,u30,u31,u32],defers:=[] } w:=by
 simp only[FC,allL,j6];go_wp2_with fail;exact z
theorem acW{u9 u22 u23:aD}(g off n vc j:Nat)(id tm:Int)(ta:Option fR)(tn tc:Nat)(la:Option fR)(E z:Nat)(w:X)(hj:j<n)(k0:w.cell? ⟨g,off+j*4,Z⟩=M (N aE id))(k1:w.cell? ⟨g,off+j*4+1,Z⟩=M (N aE tm))(k2:w.cell? ⟨g,off+j*4+2,Z⟩=M (.slice ta tn tc))(k3:w.cell? ⟨g,off+j*4+3,Z⟩=M (.slice la E z))(I:∀W',W'.heap=(w.alloc (aL #[N aE id,N aE tm,.slice ta tn tc,.slice la E z] 28)).heap->Q .normal { tmps:=#[u0,u1,u2,u3,u4,u5,u6,u7,u8,aG (M ⟨w.heap.size,0,Z⟩),u10,u11,u12,u13,u14,u15,u16,u17,aM (M ⟨g,off,Z⟩) n vc,u19,N aE j,u21,aG (M ⟨g,off+j*4,Z⟩),gR #[N aE id,N aE tm,.slice ta tn tc,.slice la E z],u24,u25,u26,u27,u28,u29,u30,u31,u32],defers:=[] } W'):GY.wp PQ Q { tmps:=#[u0,u1,u2,u3,u4,u5,u6,u7,u8,u9,u10,u11,u12,u13,u14,u15,u16,u17,aM (M ⟨g,off,Z⟩) n vc,u19,N aE j,u21,u22,u23,u24,u25,u26,u27,u28,u29,u30,u31,u32],defers:=[] } w:=by
 have J:(0:Int)<=j:=aA
 have Y:(j:Int)<n:=aA
 have R:Hid _:=I;clear I;simp only[GY,allL,j6];go_wp2_with fail;exact R.out _ rfl
theorem aaX{u31:aD}(j:Nat)(w:X)(E:j<=4294967296)(z:Q .normal { tmps:=#[u0,u1,u2,u3,u4,u5,u6,u7,u8,u9,u10,u11,u12,u13,u14,u15,u16,u17,u18,u19,N aE ((j+1:Nat):Int),u21,u22,u23,u24,u25,u26,u27,u28,u29,u30,N aE ((j+1:Nat):Int),u32],defers:=[] } w):yR.wp PQ Q { tmps:=#[u0,u1,u2,u3,u4,u5,u6,u7,u8,u9,u10,u11,u12,u13,u14,u15,u16,u17,u18,u19,N aE j,u21,u22,u23,u24,u25,u26,u27,u28,u29,u30,u31,u32],defers:=[] } w:=by
 have hw:IntKind.i64.wrap ((j:Int)+1)=((j+1:Nat):Int):=by rw[gA];omega
 simp only[yR,allL,j6];go_wp2_with fail;exact z
theorem ZV{u4 u5 u32:aD}(z:Option fR)(n vc:Nat)(w:X)(E:Q .normal { tmps:=#[u0,u1,u2,u3,.slice z n vc,N aE 0,.slice z n vc,u7,u8,u9,u10,u11,u12,u13,u14,u15,u16,u17,u18,u19,u20,u21,u22,u23,u24,u25,u26,u27,u28,u29,u30,u31,.slice z n vc],defers:=[] } w):BR.wp PQ Q { tmps:=#[u0,u1,u2,u3,u4,u5,.slice z n vc,u7,u8,u9,u10,u11,u12,u13,u14,u15,u16,u17,u18,u19,u20,u21,u22,u23,u24,u25,u26,u27,u28,u29,u30,u31,u32],defers:=[] } w:=by
 simp only[BR,j6];go_wp2_with fail;exact E
theorem aat{u27 u28 u29 u30:aD}(kb:Nat)(I:Option fR)(E z:Nat)(R:Option fR->Nat->Nat->X->Prop)(w:X)(hc:Calls PQ 32 #[.slice I E z,.func (.func 54) #[] #[aG (M ⟨w.heap.size,0,Z⟩)]] (w.alloc (aL #[aG (M ⟨kb,0,Z⟩)] 71)) (λe W'=>∃a n cap,e=.returned (.slice a n cap)/\R a n cap W'))(J:∀a n cap W',R a n cap W'->Q .normal { tmps:=#[u0,u1,u2,u3,u4,u5,.slice a n cap,aG (M ⟨kb,0,Z⟩),u8,u9,u10,u11,u12,u13,u14,u15,u16,u17,u18,u19,u20,u21,u22,u23,u24,u25,u26,.slice I E z,aG (M ⟨kb,0,Z⟩),.func (.func 54) #[] #[aG (M ⟨w.heap.size,0,Z⟩)],.slice a n cap,u31,u32],defers:=[] } W'):zh.wp PQ Q { tmps:=#[u0,u1,u2,u3,u4,u5,.slice I E z,aG (M ⟨kb,0,Z⟩),u8,u9,u10,u11,u12,u13,u14,u15,u16,u17,u18,u19,u20,u21,u22,u23,u24,u25,u26,u27,u28,u29,u30,u31,u32],defers:=[] } w:=by
 have H1:Hid _:=Bh kb w;have H2:Hid _:=hc;have HQ:Hid _:=J;clear hc J;simp only[zh,allL,j6];go_wp2_with (first|(go_at_call 33;refine aT H1.out ?_;rintro e5 w5 ⟨rfl,rfl⟩)|(go_at_call 32;refine aT H2.out ?_;rintro e6 w6 ⟨a,n,cap,rfl,Y⟩;have HR:Hid _:=Y;clear Y))
 exact HQ.out _ _ _ _ HR.out
end
open Dv (X2 Cf Ba Ch Lo St)
section
variable {n i:Nat}{b:Ba}{us:List PB}{x:PB}
theorem Ai{l:Im.It}(h:Dv.pY l n=M b):b.place=n:=by
 unfold Dv.pY at h
 grind
theorem Fp{i:Im.It}(h:Dv.tH i n=M b):b.place=n:=by
 unfold Dv.tH at h;split at h
 .cases h
 .split at h
  .cases h
  .split at h
   .rw[Option.bind_eq_some_iff]at h;obtain⟨l,_,h⟩:=h;exact Ai h
   .cases h
theorem MS:∀(f:Nat)(s:List UInt8)(n:Nat)(b:Ba),b∈Dv.rd f s n->b.epoch<=n/\b.place=n
 |0,s,n,b,h=>by simp[Dv.rd]at h
 |f+1,s,n,b,h=>by
  rw[Dv.rd]at h;split at h
  .simp at h
  .split at h
   .simp at h
   .split at h
    .simp at h
    .rename_i x z;obtain h|h:=dM.1 h
     .split at h
      .rw[dK.1 h];exact⟨‹_›,Fp z⟩
      .simp at h
     .exact MS f _ n b h
theorem OJ{c:Cf}{u:X2}{cs:List Ch}{wait:List Ba}(h:b∈(Dv.take c u n cs wait).2):b∈wait\/(b.epoch<=n/\b.place=n):=by
 unfold Dv.take at h;simp only at h;obtain h|h:=dM.1 h
 .exact bN h
 .obtain⟨s,_,hs⟩:=List.mem_flatMap.1 h;exact cF (MS _ _ _ _ hs)
structure RM(c:Cf)(chain:List X2)(j:Nat)(us:List PB)(dl:Nat->List (List UInt8))(s:sD)(cs:List Ch)(log:List Lo):Prop where
 len:us.length=j
 id:∀i,i<j->FQ us i=(chain[i]!).id
 time:∀i,i<j->Ag us i=(chain[i]!).time
 deps:∀i,i<j->dl i=Dv.jR (chain[i]!)
 chs:cs=(Dv.gone c chain j).chs
 wait:s.ws.map cI=(Dv.gone c chain j).wait
 ws:∀p,p∈s.ws->p.1.epoch<j/\p.1.place<=4294967296
 zero:j=0->log=[]/\s.cnt=0/\s.ep=0/\s.sq=0
 some:0<j->log=(Dv.gone c chain j).log/\Hs c us (log.getLastD default) s/\s.ep<j/\s.sq<=s.cnt
theorem RM.start(c:Cf)(chain:List X2)(dl:Nat->List (List UInt8)):RM c chain 0 [] dl ⟨[],0,0,0⟩ [] []:=
 ⟨rfl,λi h=>aA,λi h=>aA,λi h=>aA,rfl,rfl,λp h=>by simp at h,λ_=>⟨rfl,rfl,rfl,rfl⟩,λh=>aA⟩
section
variable {c:Cf}{chain:List X2}{j:Nat}{us:List PB}{dl:Nat->List (List UInt8)}{s:sD}{cs:List Ch}{log:List Lo}
theorem aaR(h:i<us.length):FQ (us++[x]) i=FQ us i:=by
 unfold FQ
 grind
theorem aac(h:i<us.length):Ag (us++[x]) i=Ag us i:=by
 unfold Ag
 grind
theorem abz:FQ (us++[x]) us.length=x.1:=by unfold FQ;simp
theorem abg:Ag (us++[x]) us.length=x.2.1:=by unfold Ag;simp
structure RT(c:Cf)(chain:List X2)(j:Nat)(us:List PB)(dl:Nat->List (List UInt8))(s:sD)(cs:List Ch)(log:List Lo):Prop where
 lk:Lk chain us dl
 len:us.length=j+1
 take:(cs,s.ws.map cI)=Dv.take c (chain[j]!) j (Dv.gone c chain j).chs (Dv.gone c chain j).wait
 ws:∀p,p∈s.ws->p.1.epoch<us.length/\p.1.place<=4294967296
 zero:j=0->log=[]/\s.cnt=0/\s.ep=0/\s.sq=0
 some:0<j->log=(Dv.gone c chain j).log/\Hs c us (log.getLastD default) s/\s.ep<us.length/\s.sq<=s.cnt
theorem RM.took(h:RM c chain j us dl s cs log)(hj:j<chain.length)(I:j<=60){v:aD}{ws':List PW}{cs':List Ch}(ht:(cs',ws'.map cI)=Dv.take c (chain[j]!) j cs (s.ws.map cI)):
  RT c chain j (us++[((chain[j]!).id,(chain[j]!).time,v)]) (λi=>if i=us.length then Dv.jR (chain[j]!)else dl i) ⟨ws',s.cnt,s.ep,s.sq⟩ cs' log:=by
 have E:=h.len;have z:(us++[((chain[j]!).id,(chain[j]!).time,v)]).length=j+1:=by simp[E]
 rw[h.chs,h.wait]at ht;refine⟨⟨aA,aA,λi J=>?_,λi J=>?_,λi J=>?_⟩,z,ht,λp hp=>?_,λe=>h.zero e,λe=>?_⟩
 .by_cases e:i=us.length
  .rw[e,abz,E]
  .rw[aaR aA];exact h.id i aA
 .by_cases e:i=us.length
  .rw[e,abg,E]
  .rw[aac aA];exact h.time i aA
 .by_cases e:i=us.length
  .rw[ZD e,e,E]
  .rw[Zs e];exact h.deps i aA
 .have Y:p.1∈(Dv.take c (chain[j]!) j (Dv.gone c chain j).chs (Dv.gone c chain j).wait).2:=by
   rw[<-ht];exact bM.2 ⟨p,hp,rfl⟩
  rw[z];obtain q|⟨q1,q2⟩:=OJ Y
  .rw[<-h.wait]at q;obtain⟨p',hp',e⟩:=bM.1 q;have:=h.ws p' hp'
   grind
  .omega
 .obtain⟨R,h2,h3,h4⟩:=h.some e;refine⟨R,⟨h2.number,h2.time.trans ?_,h2.epoch,h2.seq⟩,by show s.ep<_;omega,h4⟩;unfold lW
  grind
theorem RT.fit(h:RT c chain j us dl s cs log)(hc:Dv.jS chain=bB)(hcf:Dv.jK c=bB)(hj:j<chain.length)(J:0<j):∃T,T<4294967296/\Ok c chain us T (log.getLastD default) s:=by
 obtain⟨h1,h2,h3,h4⟩:=h.some J;have aa:=(Dv.jW hc).2.1;have Y:=Dv.oI hc hcf j aA;have I:=Dv.take_len c _ j (Dv.gone c chain j).chs (Dv.gone c chain j).wait (Dv.mG chain Z (Dv.jW hc).2.2.1 j hj);rw[<-h.take]at I;simp only[bC]at I;have hm:=Y.much;unfold Dv.much at hm;have ht:=Dv.sO hc (i:=j-1) (j:=j) aA hj;have z:=Y.number;have R:=Y.epoch;rw[<-h1]at hm z R
 have E:s.cnt=log.length:=by
  rw[<-z];exact h2.number.symm
 refine⟨_,?_,h2,h3,h.ws,jB,h4⟩;unfold Dv.left;rw[h.len,E,bC]
 grind
theorem RT.good(h:RT c chain j us dl s cs log)(hc:Dv.jS chain=bB)(hcf:Dv.jK c=bB)(R:j<chain.length):Good c us s:=by
 obtain E|E:=gQ j
 .obtain⟨_,I,Y,J⟩:=h.zero E
  have hs:s=⟨s.ws,0,0,0⟩:=by
   cases s;simp only at I Y J;subst I Y J;rfl
  rw[hs];have z:=Dv.take_len c _ j (Dv.gone c chain j).chs (Dv.gone c chain j).wait (Dv.mG chain Z (Dv.jW hc).2.2.1 j R);rw[<-h.take,E]at z;simp only[Dv.gone,Dv.start,bC,bY]at z;exact Px h.lk hc hcf (by rw[h.len,E]) aA h.ws
 .obtain⟨T,hT,o⟩:=h.fit hc hcf R E;exact aav h.lk hc hcf hT o
theorem RT.drawn(h:RT c chain j us dl s cs log)(hc:Dv.jS chain=bB)(hcf:Dv.jK c=bB)(hj:j<chain.length){E:List DX}(hp:DS c us s E):RM c chain (j+1) us dl ⟨(jO c us (jQ s E).ws (jQ s E).cnt (jQ s E).ep).2,(jQ s E).cnt,(jQ s E).ep,(jQ s E).sq⟩ cs (log++E.map (pJ c us dl)):=by
 have hl:=h.len;have ae:cs=(Dv.take c (chain[j]!) j (Dv.gone c chain j).chs (Dv.gone c chain j).wait).1:=by rw[<-h.take]
 have ac:s.ws.map cI=(Dv.take c (chain[j]!) j (Dv.gone c chain j).chs (Dv.gone c chain j).wait).2:=by rw[<-h.take]
 have main:∀(R:Lo)(s0:sD)(r:List DX)(T:Nat),Ok c chain us T R s0->s0.ws=s.ws->(Dv.gone c chain j).log.getLastD default=R->(Dv.gone c chain j).log≠[]->wZ c us s0 r->jQ s0 r=jQ s E->log++E.map (pJ c us dl)=(Dv.gone c chain j).log++r.map (pJ c us dl)->
   RM c chain (j+1) us dl ⟨(jO c us (jQ s E).ws (jQ s E).cnt (jQ s E).ep).2,(jQ s E).cnt,(jQ s E).ep,(jQ s E).sq⟩ cs (log++E.map (pJ c us dl)):=by
  intro R s0 r T o e1 e2 e3 f e4 e5;have hn:=hp.2;rw[<-e4]at hn;have hd:=Steps.draws h.lk hc hcf f o hn;obtain⟨z,Y,hz⟩:=f.ok h.lk hc hcf o;rw[e4]at Y hd;rw[hl]at hd;simp only[Nat.add_sub_cancel]at hd;rw[e1,ac]at hd
  have I:Dv.gone c chain (j+1)=⟨(Dv.take c (chain[j]!) j (Dv.gone c chain j).chs (Dv.gone c chain j).wait).1,(jO c us (jQ s E).ws (jQ s E).cnt (jQ s E).ep).2.map cI,(Dv.gone c chain j).log++r.map (pJ c us dl)⟩:=by
   rw[Dv.gone,Dv.step,e2,hd]
  refine⟨hl,λi hi=>h.lk.id i aA,λi hi=>h.lk.time i aA,λi hi=>h.lk.deps i aA,by rw[I];exact ae,by rw[I],λp hp=>?_,λe=>aA,λ_=>⟨by rw[I];exact e5,?_,by have:=Y.ep;grind,Y.sq⟩⟩
  .have:=Y.ws p (sU p hp);omega
  .have af:(log++E.map (pJ c us dl)).getLastD default=z:=by
    rw[e5,Dv.tN _ _ e3,e2,hz]
   rw[af];exact⟨Y.hs.number,Y.hs.time,Y.hs.epoch,Y.hs.seq⟩
 obtain R|R:=gQ j
 .obtain⟨e0,e1,e2,e3⟩:=h.zero R
  have hs:s=⟨s.ws,0,0,0⟩:=by
   cases s;simp only at e1 e2 e3;subst e1 e2 e3;rfl
  have hu:us.length=1:=aA
  have J:=hp.1.aaK;rw[hs]at J;obtain rfl|⟨x,r,rfl,q1,q2,q3,q4,q5⟩:=BA hu J
  .exfalso;have hn:=hp.2;have el:jQ s []=s:=rfl;rw[el,e1,e2,Dl hu]at hn;cases hn
  .have hg:(Dv.gone c chain j).log=[Dv.first (chain[0]!)]:=by rw[R];rfl
   refine main _ _ r _ (Dy h.lk hu h.ws) rfl (by rw[hg];rfl) (by rw[hg];simp) q5 ?_ ?_
   .unfold jQ
    grind
   .rw[e0,hg,eP,Qg h.lk hu q1 q2 q3 q4];rfl
 .obtain⟨T,hT,o⟩:=h.fit hc hcf hj R;obtain⟨g1,_⟩:=h.some R;have aa:=(Dv.oI hc hcf j aA).some;exact main _ s E T o rfl (by rw[g1]) aa hp.1.aaK rfl (by rw[<-g1])
end
end
end Hm
