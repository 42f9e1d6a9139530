import Derived.Test.YtpibpdpedjinhabGreatDoorP31
set_option maxRecDepth 100000
set_option maxHeartbeats 4000000
set_option linter.all false
open Bool renaming false->aR,true->bB
open Go renaming Addr->fR,Calls->eL,Frame->cT,Oper->km,Value->aD,World->X,bodyPost_ret->cN,heap_alloc_new->cY,info_parts->pu
open Go.Ending renaming returned->bX
open Go.IntKind renaming i64->aE
open Go.Item renaming code->kB,inRegion->bR
open Go.Obj renaming cells->aL
open Go.Operand renaming tmp->cR
open Go.Proofs.Tryz renaming f15->j6,ntmps47->n9,underlying26->nq,underlying44->ma
open Go.RowKit renaming Below->cG,Hid->cJ
open Go.Value renaming bool->cM,int->N,pointer->aG,slice->aM,tuple->cP
open Nat renaming eq_zero_of_not_pos->nF
open Option renaming none->Z,some->M
open Or renaming inl->bN,inr->cF
open Prod renaming fst->cI
namespace Go.Proofs.YtpibpdpedjinhabGreatDoor
namespace Pa
open Go Go.Conc Go.RowKit Go.Joins
open Hm (ptr kD jF jP TS jL kW oz AL PC PB PW PU lives Fits jJ kQ RZ GU FU QY Rt RU allL FC GY yP zh yR BR)
open Dv (X2 Cf Ch)
open Po hiding X2 H B IT PR NB
section
variable {w w':X}{v:aD}{ps:List PU}{j s n:Nat}{xs:List aD}
theorem abV{t:Array aD}(h:t.size=33):∃u0 u1 u2 u3 u4 u5 u6 u7 u8 u9 I E ag ao am av ah ac ai ap J R ak aj ar Y au z af aa ae aq an,t=#[u0,u1,u2,u3,u4,u5,u6,u7,u8,u9,I,E,ag,ao,am,av,ah,ac,ai,ap,J,R,ak,aj,ar,Y,au,z,af,aa,ae,aq,an]:=by
 obtain⟨l⟩:=t;replace h:l.length=33:=h
 iterate 33 (obtain⟨_,l,rfl,h'⟩:=Hm.yO h;clear h;have h:=h';clear h')
 obtain rfl:=List.length_eq_zero_iff.1 h;exact⟨_,_,_,_,_,_,_,_,_,_,_,_,_,_,_,_,_,_,_,_,_,_,_,_,_,_,_,_,_,_,_,_,_,rfl⟩
structure SL(a:Act)(v va:aD)(kb n j:Nat):Prop where
 sz:a.tmps.size=33
 df:a.defers=[]
 t1:a.tmps[1]? =M v
 t6:a.tmps[6]? =M va
 t7:a.tmps[7]? =M (ptr kb)
 t18:a.tmps[18]? =M v
 t19:a.tmps[19]? =M (N aE n)
 t20:a.tmps[20]? =M (N aE j)
theorem QI{tm:Array aD}{z E:aD}(h4:tm[4]? =M z)(I:tm[5]? =M E)(w:X):(results j6 tm).run PQ w=.ok (cP #[z,E]) w:=by simp[results,Tryz.results15,go_sem,h4,I]
theorem JR(h:oz w v ps)(q:w'.heap=w.heap):oz w' v ps:=⟨Hm.Rd.heap h.1 q,λp hp=>(h.2 p hp).heap q⟩
theorem um{z:Nat}{c:Cf}(h:w.heap[z]? =M (aL (jF c) 24 (0,0)))(i:Nat):w.cell? ⟨z,i,Z⟩=(jF c)[i]?:=aI h _
section
variable {w w':X}{kb nb:Nat}{c:Cf}{vu:aD}{us:List PB}{dl:Nat->List (List UInt8)}{vo vw:aD}{ws:List PW}{nm:AL}{os:List PC}{cnt ep sq:Nat}
theorem TS.zn(h:TS w kb nb c vu us dl vo vw ws nm os cnt ep sq){cs:Array aD}{t:Nat}{E:Nat×Nat}(z:w.heap[j]? =M (aL cs t E))(t1:t≠100)(t2:t≠102)(t3:t≠118)(t4:t≠136)(t5:t≠140):¬Tk kb nb vu vo vw os j:=by
 rintro(e|e|e|e)
 .exact h.JA z t1 t4 t5 (bN e)
 .exact Hm.jH h.d.upper z t2 e
 .exact Hm.jH h.d.wait z t3 e
 .exact h.JA z t1 t4 t5 (cF e)
theorem BF(h:TS w kb nb c vu us dl vo vw ws nm os cnt ep sq)(hc:jL (Tk kb nb vu vo vw os) w w'){e:Nat}(E:Hm.Row w e s v n xs)(t1:e≠100)(t2:e≠102)(t3:e≠118)(t4:e≠136)(t5:e≠140):Hm.Row w' e s v n xs:=
 E.kept (λg I=>hc.block g (E.lt I) (by
  obtain⟨J,z⟩:=E.obj I;exact TS.zn h z t1 t2 t3 t4 t5))
theorem TS.drawn(h:TS w kb nb c vu us dl vo vw ws nm os cnt ep sq){I:aD}{ws':List PW}{E J R:Nat}(hD:Hm.rH w' kb c vu us dl nb vo I ws' E J R){v0:aD}(hr:Hm.Row w 52 8 v0 n xs)(hc:jL (λk=>(k=kb\/vw.ownBlock=M k)\/v0.ownBlock=M k) w w')(hh:v0.ownBlock≠M 1):TS w' kb nb c vu us dl vo I ws' nm os E J R:=by
 obtain⟨ac,t,fz,Y,q2,q3,q4,q5,q6⟩:=h.ht
 have hM:¬((1=kb\/vw.ownBlock=M 1)\/v0.ownBlock=M 1):=by
  rintro((e|e)|e)
  .exact h.JA Y q2 q5 q6 (bN e)
  .exact Hm.jH h.d.wait Y q3 e
  .exact hh e
 refine⟨hD,?_,Hm.mX h.hd hc hM,by rw[hc.block _ h.hd.pos hM];exact⟨ac,t,fz,Y,q2,q3,q4,q5,q6⟩⟩;obtain⟨v,hv,hq⟩:=hc.fake;refine(h.ch.jM hv (λk hk=>?_)).heap hq.symm;rintro((rfl|e)|e)
 .exact h.ch.lK h.d.obj aB aB hk
 .obtain⟨aa,z⟩:=h.d.wait.obj e;exact h.ch.lK z aB aB hk
 .obtain⟨aa,z⟩:=hr.obj e;exact h.ch.lK z aB aB hk
theorem Bg(h:oz w v ps)(hc:jL (λ_=>False) w w'):oz w' v ps:=
 ⟨Hm.Rd.kept h.1 hc.size (λ_ g _ z=>hc.block g z (λe=>e)),λp hp=>pV (h.2 p hp) hc (λ_ _ e=>e)⟩
theorem Rj{g:Nat}(h:Hm.Rd w s v n xs)(E:0<n)(e:v.ownBlock=M g):g<w.heap.size:=by obtain⟨g',off,cap,rfl,_,z,_⟩:=h.pos E;cases e;exact z
theorem Y1(c:Cf)(hd:lJ w)(ht:∃hc t R,w.heap[1]? =M (aL hc t R)/\t≠100/\t≠118/\t≠102/\t≠136/\t≠140)(E:w'.heap=(((w.alloc (aL (jF c) 24)).alloc (.map #[] 0)).alloc (aL (jP c (aM Z 0 0) (w.heap.size+1) (aM Z 0 0) (aM Z 0 0) 0 0 0) 100)).heap):TS w' (w.heap.size+2) (w.heap.size+1) c (aM Z 0 0) [] (λ_=>[]) (aM Z 0 0) (aM Z 0 0) [] [] [] 0 0 0:=by
 have hold:∀j,j<w.heap.size->w'.heap[j]? =w.heap[j]?:=λj J=>by
  rw[E,fV _ _ _ aF,fV _ _ _ aF,fV _ _ _ J]
 have Y:w'.heap[w.heap.size+1]? =M (.map #[] 0):=by
  rw[E,fV _ _ _ aC];have:=cY (w.alloc (aL (jF c) 24)) (.map #[] 0);simpa using this
 have hk:w'.heap[w.heap.size+2]? =M (aL (jP c (aM Z 0 0) (w.heap.size+1) (aM Z 0 0) (aM Z 0 0) 0 0 0) 100 (0,0)):=by
  rw[E];have:=cY ((w.alloc (aL (jF c) 24)).alloc (.map #[] 0)) (aL (jP c (aM Z 0 0) (w.heap.size+1) (aM Z 0 0) (aM Z 0 0) 0 0 0) 100);simpa using this
 have I:w.heap.size<=w'.heap.size:=by rw[E];simp;omega
 refine⟨⟨hk,Hm.Row.nil _ _ _,Hm.Row.nil _ _ _,λj p hp=>by simp at hp,λp hp=>by simp at hp⟩,⟨⟨_,0,Y,.nil,aC,aC,λe he=>by simp at he⟩,Hm.Row.nil _ _ _,λo z=>by simp at z,aC,λo o' z=>by simp at z,λo z=>by simp at z,λp hp=>by simp at hp⟩,Hm.mX (XS:=λ_=>False) hd ⟨I,λj J _=>hold j J⟩ (λe=>e),by grind⟩
end
structure LI(w0:X)(c:Cf)(ps:List PU)(kb nb:Nat)(vu:aD)(us:List PB)(dl:Nat->List (List UInt8))(vo vw:aD)(ws:List PW)(nm:AL)(os:List PC)(cnt ep sq:Nat)(va:aD)(pl:List Hm.PL)(j:Nat)(w:X):Prop where
 ts:TS w kb nb c vu us dl vo vw ws nm os cnt ep sq
 rm:Hm.RM c (ps.map cI) j us dl ⟨ws,cnt,ep,sq⟩ (lives nm os) (pl.map cI)
 row:Hm.Row w 52 8 va pl.length (pl.flatMap jJ)
 strs:∀p,p∈pl->kQ w p.2.1 p.1.txs/\kQ w p.2.2 p.1.deps
 osl:os.length<=4440*j
 fits:Fits c.most (lives nm os)
 hdl:∀i,(dl i).length<=4294967296
 low:∀k,Tk kb nb vu vo vw os k->w0.heap.size<=k
 vlow:∀g,va.ownBlock=M g->w0.heap.size<=g
 jM:jL (λ_=>False) w0 w
section
variable {w0 w w':X}{c:Cf}{ps:List PU}{kb nb:Nat}{vu:aD}{us:List PB}{dl:Nat->List (List UInt8)}{vo vw:aD}{ws:List PW}{nm:AL}{os:List PC}{cnt ep sq:Nat}{va:aD}{pl:List Hm.PL}{j:Nat}
theorem LI.kept(h:LI w0 c ps kb nb vu us dl vo vw ws nm os cnt ep sq va pl j w)(hc:jL (λ_=>False) w w'):LI w0 c ps kb nb vu us dl vo vw ws nm os cnt ep sq va pl j w':=
 ⟨h.ts.kept hc (λ_ _ e=>e),h.rm,h.row.kept (λg z=>hc.block g (h.row.lt z) (λe=>e)),λp hp=>⟨Hm.Row.kept (h.strs p hp).1 (λg z=>hc.block g (Hm.Row.lt (h.strs p hp).1 z) (λe=>e)),Hm.Row.kept (h.strs p hp).2 (λg z=>hc.block g (Hm.Row.lt (h.strs p hp).2 z) (λe=>e))⟩,h.osl,h.fits,h.hdl,h.low,h.vlow,h.jM.trans hc (λ_ _ e=>e)⟩
theorem Ie(q:w'.heap=w.heap):jL (λ_=>False) w w':=⟨by grind,λk _ _=>by rw[q]⟩
theorem tJ{o:Obj}(q:w'.heap=(w.alloc o).heap):jL (λ_=>False) w w':=⟨by rw[q];simp,λk hk _=>by rw[q,fV _ _ _ hk]⟩
theorem RT.count{chain:List X2}{s:Hm.sD}{cs:List Ch}{log:List Dv.Lo}(h:Hm.RT c chain j us dl s cs log)(hc:Dv.jS chain=bB)(hcf:Dv.jK c=bB)(R:j<chain.length):log.length<=s.cnt:=by
 obtain z|z:=gQ j
 .rw[(h.zero z).1];exact dL _
 .obtain⟨I,E,_⟩:=h.some z;have J:=(Dv.oI hc hcf j aA).number;rw[<-I]at J;have:=E.number;omega
theorem Rn(u:X2)(h:Dv.small u=bB):(Dv.jR u).length<=4294967296:=by have:=(Dv.qj h).2.1;have h2:=gZ Dv.isDep u.logs;unfold Dv.jR;omega
theorem LI.much(h:LI w0 c ps kb nb vu us dl vo vw ws nm os cnt ep sq va pl j w)(hc:Dv.jS (ps.map cI)=bB)(hcf:Dv.jK c=bB)(I:j<=(ps.map cI).length):ws.length+4096*(lives nm os).length<=2000000000:=by have z:=(Dv.oI hc hcf j I).much;have E:=(Dv.jW hc).2.1;unfold Dv.much at z;rw[<-h.rm.chs,<-h.rm.wait,bC]at z;have:ws.length=(Hm.sD.mk ws cnt ep sq).ws.length:=rfl;omega
end
noncomputable def MH:Array km:=match yP with
 |.region _ ops _=>ops
 |_=>#[]
theorem S9:∃z,yP=.region z MH aR:=⟨_,rfl⟩
theorem JQ:List.range MH.size=[0,1,2]:=XN
def RD(c:Cf)(us:List PB)(dl:Nat->List (List UInt8))(kb nb:Nat)(vu vo vw:aD)(s:Hm.sD)(pl:List Hm.PL)(v0:aD)(w:X)(a:Option fR)(n cap:Nat)(W:X):Prop:=
 ∃E z,n=(pl++z).length/\Hm.DS c us s E/\z.map cI=E.map (Hm.pJ c us dl)/\Hm.Row W 52 8 (.slice a n cap) (pl++z).length ((pl++z).flatMap jJ)/\(∀p,p∈pl++z->kQ W p.2.1 p.1.txs/\kQ W p.2.2 p.1.deps)/\Hm.Zf kb c vu us dl nb vo vw s E W/\jL (λk=>(k=kb\/vw.ownBlock=M k)\/v0.ownBlock=M k) w W/\∀g,(aM a n cap).ownBlock=M g->v0.ownBlock=M g\/w.heap.size<=g
section
variable {Post:vU}{XX A:List cT}{w0:X}{c:Cf}{ps:List PU}{xa:Option fR}{vc:Nat}{b₀:cT}{a₀:Act}{ops:Array km}{i:Nat}{rest:List Nat}{k:List Item}{o:km}
theorem V7{p:PU}(h:ps[j]? =M p):(ps.map cI)[j]! =p.1:=by grind
theorem KY(rd:Cr.ReadW)(ho:ops[i]? =M o)(hc:Dv.jS (ps.map cI)=bB)(hcf:Dv.jK c=bB)(b7:Tryz.prog.globals.size<=w0.heap.size)(I:oz w0 (.slice xa ps.length vc) ps)(a9:∀D w va (pl:List Hm.PL),Hm.Row w 52 8 va pl.length (pl.flatMap jJ)->(∀p,p∈pl->kQ w p.2.1 p.1.txs/\kQ w p.2.2 p.1.deps)->pl.map cI=(Dv.gone c (ps.map cI) ps.length).log->jL (λ_=>False) w0 w->Wq D Post XX (b₀.at (a₀.put o.dst (cP #[va,N aE 0])) (bR ops rest::k)) A w):∀r j,j+r=ps.length->∀D w a kb nb vu us dl vo vw ws nm os cnt ep sq va pl,LI w0 c ps kb nb vu us dl vo vw ws nm os cnt ep sq va pl j w->SL a (.slice xa ps.length vc) va kb ps.length j->Wq D Post XX ((base 15).at a [.code allL,.inLoop allL,.inBlock 0,.code (.seq BR .ret)]) (b₀.at a₀ (bR ops (i::rest)::k)::A) w:=by
 have b9:=(Dv.jW hc).2.1;have h1:=(Dv.jW hc).1;rw[bC]at b9 h1
 have dk:1<=c.timeout/\c.timeout<=8/\1<=c.window/\c.window<=8/\0<=c.drift/\c.drift<=100/\2<=c.step/\c.step<=20/\1<=c.most/\c.most<=4096:=by
  unfold Dv.jK at hcf;exact Z2 hcf
 have di:=aP (show 1<Tryz.prog.globals.size from Z2 XN) b7;intro r
 induction r with
 |zero=>
  intro j hj D w a kb nb vu us dl vo vw ws nm os cnt ep sq va pl hI hA;have hj:j=ps.length:=aA
  obtain⟨tm,df⟩:=a;obtain⟨sz,ai,t1,t6,t7,t18,t19,t20⟩:=hA;dsimp only at sz ai t1 t6 t7 t18 t19 t20;subst ai;obtain⟨u0,u1,u2,u3,u4,u5,u6,u7,u8,u9,ca,cv,b8,cg,cp,ck,b0,cm,b1,b6,cb,cy,b4,b2,cj,bv,cr,cu,c4,bw,cz,ci,dd,rfl⟩:=abV sz;simp only[eX,eU,dX,aK]at t1 t6 t7 t18 t19 t20;subst t1 t6 t7 t18 t19 t20;obtain⟨aa,ac,ba⟩:=hI.row.slice;subst ba;rw[show kB allL=kB (.seq FC (.seq (.cond (cR 21) .skip (.exit 0)) (.seq (.block 1 (.seq GY (.seq yP zh))) yR))) from by rw[Hm.KF]];refine Wq.seq (Wq.walk λt d Q hN _=>Hm.Yu j _ _ (hN _ _ (Wq.same (y:=w) (λ_ _=>rfl) ?_)));refine Wq.seq (Wq.cond (t:=decide _) rfl ?_);rw[Zs (by simp[hj])];refine Wq.exit (k':=[.code _]) rfl (Wq.seq (Wq.walk λt d Q hN _=>Hm.ZV aa _ ac _ (hN _ _ (Wq.same (y:=w) (λ_ _=>rfl) ?_))));refine Wq.ret λtodo=>Wq.leave (v:=cP #[.slice aa _ ac,.int _ 0]) (fn:=j6) rfl rfl rfl (fq Tryz.func15 rfl) (QI rfl rfl) ?_;rw[fO,ho];exact a9 D w _ pl hI.row hI.strs (by rw[<-hj];exact(hI.rm.some aA).1) hI.jM
 |succ r ih=>
  intro j hj D w a kb nb vu us dl vo vw ws nm os cnt ep sq va pl hI hA;have an:j<ps.length:=aA
  have ag:j<(ps.map cI).length:=by rw[bC];exact an
  obtain⟨g,off,ay,ce,_⟩:=Hm.Rd.pos I.1 aA;cases ce;obtain⟨tm,df⟩:=a;obtain⟨sz,ai,t1,t6,t7,t18,t19,t20⟩:=hA;dsimp only at sz ai t1 t6 t7 t18 t19 t20;subst ai;obtain⟨u0,u1,u2,u3,u4,u5,u6,u7,u8,u9,ca,cv,b8,cg,cp,ck,b0,cm,b1,b6,cb,cy,b4,b2,cj,bv,cr,cu,c4,bw,cz,ci,dd,rfl⟩:=abV sz;simp only[eX,eU,dX,aK]at t1 t6 t7 t18 t19 t20;subst t1 t6 t7 t18 t19 t20;rw[show kB allL=kB (.seq FC (.seq (.cond (cR 21) .skip (.exit 0)) (.seq (.block 1 (.seq GY (.seq yP zh))) yR))) from by rw[Hm.KF]];refine Wq.seq (Wq.walk λt d Q hN _=>Hm.Yu j _ _ (hN _ _ (Wq.same (y:=w) (λ_ _=>rfl) ?_)));refine Wq.seq (Wq.cond (t:=decide _) rfl ?_);rw[ZD (by simp[an])];refine Wq.skip (Wq.seq (Wq.block (Wq.seq ?_)));obtain⟨p,bb⟩:∃p,ps[j]? =M p:=⟨_,aO an⟩
  have ao:=aX bb;have a2:=V7 bb;have af:Dv.small p.1=bB:=by rw[<-a2];exact Dv.mG _ Z (Dv.jW hc).2.2.1 j ag
  obtain⟨k0,k1,k2,k3⟩:=(Bg I hI.jM).get bb;obtain⟨ta,tc,bd⟩:=Hm.Rd.slice (I.2 p ao).1;obtain⟨la,lc,bg⟩:=Hm.Rd.slice (I.2 p ao).2.1;rw[bd]at k2;rw[bg]at k3;refine Wq.walk λt d Q hN _=>Hm.acW g off _ vc j _ _ ta _ tc la _ lc _ an k0 k1 k2 k3 (λw2 ar=>hN _ _ ?_);rw[show(on w t d).heap.size=w.heap.size from rfl];have ar:w2.heap=(w.alloc (aL #[N aE p.1.id,N aE p.1.time,.slice ta p.1.txs.length tc,.slice la p.1.logs.length lc] 28)).heap:=ar;have z:=hI.kept (tJ ar)
  have cc:w2.heap[w.heap.size]? =M (aL #[N aE p.1.id,N aE p.1.time,.slice ta p.1.txs.length tc,.slice la p.1.logs.length lc] 28 (0,0)):=by
   rw[ar];exact cY _ _
  refine Wq.seq ?_;obtain⟨dj,bl⟩:=S9;rw[bl];refine Wq.region ?_;rw[JQ];obtain⟨p0,db,bs,cq,b3⟩:∃o,MH[0]? =M o/\o.op=.move (cR 7)/\o.dst=M 24/\o.guard=Z:=⟨_,rfl,rfl,rfl,rfl⟩
  obtain⟨p1,cw,bo,co,cd⟩:∃o,MH[1]? =M o/\o.op=.load 28 (cR 9)/\o.dst=M 25/\o.guard=Z:=⟨_,rfl,rfl,rfl,rfl⟩
  obtain⟨p2,cn,bn,cl,c5⟩:∃o,MH[2]? =M o/\o.op=.call { callee:=.value (.func 31),args:=#[cR 24,cR 25],argTypes:=#[71,28] }/\o.dst=M 26/\o.guard=Z:=⟨_,rfl,rfl,rfl,rfl⟩
  refine Wq.val (v:=ptr kb) (x':=w2) db b3 (λt d=>by unfold execOp;simp only[bs];rfl) ?_;rw[cq]
  refine Wq.val (v:=.agg #[N aE p.1.id,N aE p.1.time,.slice ta p.1.txs.length tc,.slice la p.1.logs.length lc]) (x':=w2) cw cd (λt d=>by
   have c:=aI (show(on w2 t d).heap[w.heap.size]? =_ from cc);have c0:=c 0;have c1:=c 1;have c2:=c 2;have c3:=c 3;unfold execOp;simp only[bo];simp[go_sem,Act.put,Act.eval,c0,c1,c2,c3]) ?_
  rw[co];have aw:=(Bg I z.jM).2 p ao;rw[bd,bg]at aw;have s2:=z.jM.size;have de:=z.osl;refine QH rd cn (Cr.jY c5) bn rfl rfl aA z.ts aw (λq hq=>?ap) af hcf (by rw[z.rm.len];omega) aA z.fits (z.much hc hcf aA) ?_
  case ap=>
   have dg:q<w0.heap.size:=by
    have hu:=I.2 p ao;rw[bd,bg]at hu;obtain⟨hn,e⟩|⟨hn,e⟩:=hq
    .exact Rj hu.1 hn e
    .exact Rj hu.2.1 hn e
   exact⟨aA,λe=>by have:=z.low q e;omega⟩
  intro D3 w3 am v3 aj av J bh au bj ak a6 c6 a8 a3;rw[cl];refine Wq.done ?_;have aq:=z.rm.took ag aA (v:=v3) (cs':=lives bh au) (ws':=ws++J) (by rw[a2,a3,z.rm.len]);rw[a2]at aq;have Y:=BF z.ts ak z.row aB aB aB aB aB
  have ah:∀q,q∈pl->kQ w3 q.2.1 q.1.txs/\kQ w3 q.2.2 q.1.deps:=λq hq=>
   ⟨BF z.ts ak (z.strs q hq).1 aB aB aB aB aB,BF z.ts ak (z.strs q hq).2 aB aB aB aB aB⟩
  have a0:∀i,(Nz dl us.length p.1 i).length<=4294967296:=λi=>by
   unfold Nz;split
   .exact Rn _ af
   .exact z.hdl i
  have ae:=RT.count aq hc hcf ag;rw[bC]at ae;have a7:=aq.good hc hcf ag;obtain⟨aa,ac,ba⟩:=Y.slice;subst ba
  have E:∀q,Tk kb nb am aj av au q->w0.heap.size<=q:=λq hq=>by
   obtain e|e:=a6 q hq
   .exact z.low q e
   .omega
  refine Wq.walk λt d Q hN _=>Hm.aat kb aa _ ac (RD c (us++[(p.1.id,p.1.time,v3)]) (Nz dl us.length p.1) kb nb am aj av ⟨ws++J,cnt,ep,sq⟩ pl (.slice aa pl.length ac) w3) _ ?calls (λdm n4 dh w4 hX=>hN _ _ ?_)
  case calls=>
   have hb:RowKit.Below w3.heap.size (on w3 t d) ((on w3 t d).alloc (aL #[aG (M ⟨kb,0,Z⟩)] 71)):=(RowKit.Below.refl _ (on w3 t d)).alloc jB _;have c9:TS (on w3 t d) kb nb c am (us++[(p.1.id,p.1.time,v3)]) (Nz dl us.length p.1) aj av (ws++J) bh au cnt ep sq:=bj.heap rfl;refine(Hm.vT kb w3.heap.size c am _ _ nb aj av ⟨_,cnt,ep,sq⟩ _ pl _ a7 aA a0 (c9.d.below hb) (Boxed.new _ _ _) aC ((Y.heap (w':=on w3 t d) rfl).below hb) (λq hq=>⟨Hm.Row.below (Hm.Row.heap (w':=on w3 t d) (ah q hq).1 rfl) hb,Hm.Row.below (Hm.Row.heap (w':=on w3 t d) (ah q hq).2 rfl) hb⟩) ae).mono ?_;rintro e W' ⟨R,bm,a',ay,rfl,q1,q2,q3,q4,q5,q6,q7⟩;refine⟨a',_,ay,rfl,R,bm,rfl,q1,q2,q3,q4,q5,?_,λg hg=>(q7 g hg).imp id (λq=>bH hb.size q)⟩;exact((Hm.jI.below hb jB _).trans q6 (λ_ _ e=>e)).h.heaps rfl rfl
  obtain⟨R,bm,ct,bu,bp,a5,a4,a1,bq,b5⟩:=hX;subst ct;have br:=aq.drawn hc hcf ag bu;unfold Hm.Zf at a1;generalize (Hm.sD.mk (Hm.jO c (us++[(p.1.id,p.1.time,v3)]) (Hm.jQ ⟨ws++J,cnt,ep,sq⟩ R).ws (Hm.jQ ⟨ws++J,cnt,ep,sq⟩ R).cnt (Hm.jQ ⟨ws++J,cnt,ep,sq⟩ R).ep).2 (Hm.jQ ⟨ws++J,cnt,ep,sq⟩ R).cnt (Hm.jQ ⟨ws++J,cnt,ep,sq⟩ R).ep (Hm.jQ ⟨ws++J,cnt,ep,sq⟩ R).sq)=s4 at a1 br;obtain⟨bz,cf,bk⟩:=a1;refine Wq.inBlock (Wq.walk λt d Q hN _=>Hm.aaX j _ aA (hN _ _ (Wq.same (y:=w4) (λ_ _=>rfl) (Wq.inLoop ?_))));have az:=z.vlow;have cx:=TS.drawn bj cf Y bq (λe=>by have:=az _ e;omega);have s3:=ak.size;refine ih _ aA D3 w4 _ kb nb am _ _ aj bz _ bh au _ _ _ _ _ ⟨cx,?_,a5,a4,aA,a8,a0,λq hq=>?_,λg hg=>?_,?_⟩ ⟨rfl,rfl,rfl,rfl,rfl,rfl,rfl,rfl⟩
  .rw[bJ,bp];exact br
  .obtain e|e|e|e:=hq
   .exact E q (bN e)
   .exact E q (cF (bN e))
   .exact E q (cF (cF (bN (bk q e))))
   .exact E q (cF (cF (cF e)))
  .grind
  .refine(z.jM.trans ak (λq hq e=>?_)).trans bq (λq hq e=>?_)
   .have:=z.low q e;omega
   .obtain(e|e)|e:=e
    .have:=E q (bN e);omega
    .have:=E q (cF (cF (bN e)));omega
    .have:=az q e;omega
end
structure qM(w:X):Prop where
 hd:lJ w
 ty:∃hc t fz,w.heap[1]? =M (aL hc t fz)/\t≠100/\t≠118/\t≠102/\t≠136/\t≠140
theorem qM.kept(h:qM w)(hc:jL (λ_=>False) w w'):qM w':=⟨Hm.mX h.hd hc (λe=>e),by rw[hc.block _ h.hd.pos (λe=>e)];exact h.ty⟩
section
variable {Post:vU}{D:Nat->Prop}{XX A:List cT}{w:X}{c:Cf}{ps:List PU}{xa:Option fR}{vc:Nat}
theorem acv(rd:Cr.ReadW){b₀:cT}{a₀:Act}{ops:Array km}{i:Nat}{rest:List Nat}{k:List Item}{o:km}{x y:Operand}{a1:Array TypeId}(ho:ops[i]? =M o)(hw:Region.wanted o (yielded ops a₀.tmps)=bB)(a2:o.op=.call { callee:=.value (.func 15),args:=#[x,y],argTypes:=a1 })(ex:a₀.eval x=.agg (jF c))(ey:a₀.eval y=.slice xa ps.length vc)(ay:Tryz.prog.globals.size<=w.heap.size)(ae:oz w (.slice xa ps.length vc) ps)(ar:ps.length<=4294967296)(hH:qM w)(I:∀D' w' va (pl:List Hm.PL),Hm.Row w' 52 8 va pl.length (pl.flatMap jJ)->(∀p,p∈pl->kQ w' p.2.1 p.1.txs/\kQ w' p.2.2 p.1.deps)->pl.map cI=(Dv.all c (ps.map cI)).2->jL (λ_=>False) w w'->Wq D' Post XX (b₀.at (a₀.put o.dst (cP #[va,N aE (Dv.all c (ps.map cI)).1])) (bR ops rest::k)) A w'):Wq D Post XX (b₀.at a₀ (bR ops (i::rest)::k)) A w:=by
 refine Wq.call ho hw a2 (fq Tryz.func15 rfl) rfl Hm.X6 ?_;simp only[fQ,eP,fP,ex,ey,show Tryz.f15.ntmps=33 from rfl,dR,aU,bY,Nat.reduceAdd,Nat.reduceSub,dH,dG,dU,dI,dS,dN]
 have bad:∀(a':Act)(w':X)(todo:List Item)(er:Int),a'.defers=[]->a'.tmps[4]? =M (aM Z 0 0)->a'.tmps[5]? =M (N aE er)->jL (λ_=>False) w w'->Dv.all c (ps.map cI)=(er,[])->Wq D Post XX { (base 15).at a' todo with mode:=.returning } (b₀.at a₀ (bR ops (i::rest)::k)::A) w':=by
  intro a' w' todo er h0 h4 h5 az z;refine Wq.leave (v:=.tuple _) (fn:=j6) rfl h0 rfl (fq Tryz.func15 rfl) (QI h4 h5) ?_;rw[fO,ho];have:=I D w' _ [] (Hm.Row.nil _ _ _) (λp hp=>by simp at hp) (by rw[z];rfl) az;rw[z]at this;exact this
 refine Wq.seq (Wq.walk λt d Q R _=>Hm.ad5 c _ (R _ _ (Wq.same (y:=w.alloc (aL (jF c) 24)) (λ_ _=>rfl) ?_)));obtain⟨w1,am,-,aj⟩:=jD w (jF c) 24;have aa:jL (λ_=>False) w w1:=tJ (by rw[am]);have cf:∀{v:X},jL (λ_=>False) w1 v->v.heap[w.heap.size]? =M (aL (jF c) 24 (0,0)):=λh=>(h.block _ (jE aj) (λe=>e)).trans aj;have Y:∀{u v:X} {t d},RowKit.Below u.heap.size (on u t d) v->jL (λ_=>False) u v:=λh=>((Hm.jI.below h jB _).h).heaps rfl rfl;rw[<-am];refine Wq.seq ?_;have k1:=λt d=>um (w:=on w1 t d) aj;cases hcf:Dv.jK c with
 |false=>exact Wq.walk λt d Q _ hR=>Hm.Qi c _ _ (k1 t d 0) (k1 t d 1) (k1 t d 2) (k1 t d 3) (k1 t d 4) (k1 t d 5) (k1 t d 6) hcf (λw2 ah=>hR _ _ λtodo=>bad _ w2 todo 1 rfl rfl rfl (aa.trans (Y (u:=w1) ah) (λ_ _ e=>e)) (by unfold Dv.all;rw[hcf];rfl))
 |true=>
  refine Wq.walk λt d Q R _=>Hm.acH c _ _ (k1 t d 0) (k1 t d 1) (k1 t d 2) (k1 t d 3) (k1 t d 4) (k1 t d 5) (k1 t d 6) hcf (λw2 ah=>R _ _ ?_);have ag:jL (λ_=>False) w1 w2:=Y ah;have ac:=Bg ae (aa.trans ag (λ_ _ e=>e));refine Wq.seq ?_;cases J:Dv.jS (ps.map cI)with
  |false=>exact Wq.walk λt d Q _ hR=>Hm.NP xa _ vc ps _ (JR ac rfl) ar J (λw3 ai=>hR _ _ λtodo=>bad _ w3 todo 2 rfl rfl rfl ((aa.trans ag (λ_ _ e=>e)).trans (Y (u:=w2) ai) (λ_ _ e=>e)) (by unfold Dv.all;rw[hcf,J];rfl))
  |true=>
   refine Wq.walk λt d Q R _=>Hm.ad6 xa _ vc ps _ (JR ac rfl) ar J (λw3 ai=>R _ _ ?_);have aq:=ag.trans (Y (u:=w2) ai) (λ_ _ e=>e);have b3:=cf aq;have k3:=λt d=>um (w:=on w3 t d) b3;refine Wq.seq (Wq.walk λt d Q R _=>Hm.acD _ (R _ _ (Wq.same (y:=w3) (λ_ _=>rfl) (Wq.seq ?_))));refine Wq.walk λt d Q R _=>Hm.acR c _ _ (k3 t d 0) (k3 t d 1) (k3 t d 2) (k3 t d 3) (k3 t d 4) (k3 t d 5) (k3 t d 6) (λw4 av=>R _ _ ?_);have af:w4.heap=(((w3.alloc (aL (jF c) 24)).alloc (.map #[] 0)).alloc (aL (jP c (aM Z 0 0) (w3.heap.size+1) (aM Z 0 0) (aM Z 0 0) 0 0 0) 100)).heap:=by rw[av];rfl
   have E:=aa.trans aq (λ_ _ e=>e);have s3:=E.size;have an:=hH.kept E;have a0:=Y1 c an.hd an.ty af
   have ap:jL (λ_=>False) w3 w4:=⟨by rw[af];simp;omega,λj hj _=>by
    rw[af,fV _ _ _ aF,fV _ _ _ aF,fV _ _ _ hj]⟩
   refine Wq.seq (Wq.seq (Wq.walk λt d Q R _=>Hm.ach xa _ vc _ (R _ _ (Wq.same (y:=w4) (λ_ _=>rfl) (Wq.block (Wq.loop ?_))))))
   refine KY rd ho J hcf ay ae ?_ ps.length 0 aA D w4 _ _ _ _ [] _ _ _ [] [] [] 0 0 0 _ [] ⟨a0,Hm.RM.start _ _ _,Hm.Row.nil _ _ _,λp hp=>by simp at hp,aC,λx hx=>by simp[lives]at hx,λi=>aC,λq hq=>by
     obtain e|e|e|e|e|⟨x,hx,_⟩:=hq
     .omega
     .cases e
     .cases e
     .omega
     .cases e
     .simp at hx,λg hg=>(by cases hg),E.trans ap (λ_ _ e=>e)⟩ ⟨rfl,rfl,rfl,rfl,rfl,rfl,rfl,rfl⟩
   intro D7 w7 va pl au ak ao aw
   have z:Dv.all c (ps.map cI)=(0,(Dv.gone c (ps.map cI) ps.length).log):=by
    unfold Dv.all;rw[hcf,J,bC];rfl
   have:=I D7 w7 va pl au ak (by rw[z];exact ao) aw;rw[z]at this;exact this
end
end
end Pa
namespace Hm
open Go.RowKit Go.Joins Go.Shelf
open Fr (below_drewN)
open Dv (X2)
section
def upZ:PU:=(⟨0,0,[],[]⟩,aM Z 0 0,aM Z 0 0)
def YS(p:PU):aD:=.agg #[N aE p.1.id,N aE p.1.time,p.2.1,p.2.2]
def Pe(w:X)(p:PU):Prop:=Row w 125 3 p.2.1 p.1.txs.length (p.1.txs.flatMap oO)/\kQ w p.2.2 p.1.logs
def Ro(w w':X):Prop:=∀(g:Nat) cs t fz,w.heap[g]? =M (aL cs t fz)->t=125\/t=9->w'.heap[g]? =w.heap[g]?
section
variable {w w':X}{p:PU}{e s n:Nat}{v:aD}{xs:List aD}
theorem Row.ro(h:Row w e s v n xs)(z:e=125\/e=9)(E:Ro w w'):Row w' e s v n xs:=h.kept λg I=>by
 obtain⟨c,hc⟩:=h.obj I;exact E g c e _ hc z
theorem Pe.ro(h:Pe w p)(z:Ro w w'):Pe w' p:=⟨h.1.ro (bN rfl) z,Row.ro h.2 (cF rfl) z⟩
theorem Ro.jM{XS:Nat->Prop}(hc:jI XS w w')(E:∀k cs t z,XS k->w.heap[k]? =M (aL cs t z)->t≠125/\t≠9):Ro w w':=λg cs t z h ht=>hc.block g (jE h) λe=>by
 obtain⟨I,h2⟩:=E g cs t z e h;exact ht.elim I h2
theorem Pe.at(h:Pe w p)(z:p.1.txs.length<=4294967296)(h2:p.1.logs.length<=4294967296):kW w p.1 p.2.1 p.2.2:=⟨h.1.rd,Row.rd h.2,z,h2⟩
end
def lu{w w':X}{a:fR}{v:aD}(h:w.cell? a=M v)(E:cG w.heap.size w w'):w'.cell? a=M v:=by
 refine(E.cell ?_).trans h;unfold World.cell? at h;cases z:w.heap[a.block]? with
 |none=>rw[z]at h;cases h
 |some o=>exact(jE z)
structure ku(w:X)(sb:Nat)(vb:aD)(ps:List PU)(last sil:Nat):Prop where
 obj:w.heap[sb]? =M (aL #[vb,N aE last,N aE sil] 83 (0,0))
 row:Row w 28 4 vb ps.length (ps.flatMap oq)
 up:∀p,p∈ps->Pe w p
 len:ps.length<=60
 few:sil<=20
 ids:last<=1099511627776
def SO(sb:Nat)(vb:aD)(k:Nat):Prop:=k=sb\/vb.ownBlock=M k
section
variable {w w':X}{sb:Nat}{vb:aD}{ps:List PU}{last sil:Nat}
theorem ku.lt(h:ku w sb vb ps last sil):sb<w.heap.size:=(jE h.obj)
theorem ku.ne(h:ku w sb vb ps last sil):vb.ownBlock≠M sb:=λe=>by
 obtain⟨c,hc⟩:=h.row.obj e;rw[h.obj]at hc;simp at hc
theorem ku.types(h:ku w sb vb ps last sil){k:Nat}{cs:Array aD}{t:TypeId}{E:Nat×Nat}(hk:SO sb vb k)(hc:w.heap[k]? =M (aL cs t E)):t=83\/t=28:=by
 obtain rfl|e:=hk
 .rw[h.obj]at hc;simp at hc;exact bN hc.2.1.symm
 .obtain⟨c,z⟩:=h.row.obj e;rw[z]at hc;simp at hc;exact cF hc.2.1.symm
theorem ku.kept(h:ku w sb vb ps last sil)(hk:∀k,SO sb vb k->w'.heap[k]? =w.heap[k]?)(z:Ro w w'):ku w' sb vb ps last sil:=
 ⟨(hk sb (bN rfl)).trans h.obj,h.row.kept λg E=>hk g (cF E),λp hp=>(h.up p hp).ro z,h.len,h.few,h.ids⟩
theorem ku.below(h:ku w sb vb ps last sil)(z:cG w.heap.size w w'):ku w' sb vb ps last sil:=
 h.kept (λk hk=>z.block k (by
  obtain rfl|e:=hk
  .exact h.lt
  .exact h.row.lt e)) λg cs t E hc _=>z.block g (jE hc)
theorem ku.ro(h:ku w sb vb ps last sil)(hc:jI (SO sb vb) w w'):Ro w w':=.jM hc λk cs t z hk e=>by
 obtain rfl|rfl:=h.types hk e
 .exact⟨aB,aB⟩
 .exact⟨aB,aB⟩
theorem ku.silent(h:ku w sb vb ps last sil){s:Nat}(hs:s<=20):ku (w.setCell ⟨sb,2,Z⟩ (N aE s)) sb vb ps last s:=by have hc:=jI.set w sb 2 (N aE s);refine⟨?_,h.row.jM hc (λg z e=>h.ne (by rw[z,e])),λp hp=>(h.up p hp).ro (h.ro (hc.mono λk _ e=>bN e)),h.len,hs,h.ids⟩;rw[block_setCell h.obj];rfl
theorem JB(n:Int)(h:ku w sb vb ps last sil):eL PQ 26 #[aG (M ⟨sb,0,Z⟩),N aE n] w λe w'=>
  if n<0\/20<n then e=bX (N aE 3)/\w'=w else e=bX (N aE 0)/\w'=w.setCell ⟨sb,2,Z⟩ (N aE n):=by
 obtain⟨c0,R,E⟩:=cells3 h.obj;have z:=aQ h.obj;have I:=h.lt;clear h;go_enter (fq Tryz.func26 rfl),Tryz.ntmps26;by_cases J:n<0
 .go_wp2_with fail;go_ret;exact⟨rfl,rfl⟩
 .by_cases h2:20<n
  .go_wp2_with fail;go_ret;exact⟨rfl,rfl⟩
  .go_wp2_with fail;go_ret;exact⟨rfl,rfl⟩
def Iz(w:X)(R:Nat)(a b c d:aD):X:=(((w.setCell ⟨R,0,Z⟩ a).setCell ⟨R,1,Z⟩ b).setCell ⟨R,2,Z⟩ c).setCell ⟨R,3,Z⟩ d
theorem nK{R t:Nat}{z E J I:aD}(h:w.heap[R]? =M (aL #[z,E,J,I] t (0,0)))(a b c d:aD):(Iz w R a b c d).heap[R]? =M (aL #[a,b,c,d] t (0,0))/\jI (λk=>k=R) w (Iz w R a b c d):=by refine⟨?_,(((jI.set w R 0 a).trans (.set _ R 1 b) λ_ _ e=>e).trans (.set _ R 2 c) λ_ _ e=>e).trans (.set _ R 3 d) λ_ _ e=>e⟩;have:=jX (jX (jX (jX h 0 a) 1 b) 2 c) 3 d;simpa[Iz]using this
def rW(w:X)(sb:Nat)(vb:aD)(ps:List PU)(last sil:Nat)(ev:aD)(i:Int)(e:Ending)(w':X):Prop:=
 if 0<sil then e=bX (cP #[YS upZ,cM aR,ev])/\ku w' sb vb ps last (sil-1)/\jI (λk=>k=sb) w w'
 else cG w.heap.size w w'/\((∃(n:Nat)(p:PU),i=n/\ps[n]? =M p/\e=bX (cP #[YS p,cM bB,.nilIface]))\/(i<0\/(ps.length:Int)<=i)/\e=bX (cP #[YS upZ,cM aR,.nilIface]))
theorem Uf{fn:Func}{tm:Array aD}{R:Nat}{p:PU}{E z:aD}(I:fn.results=#[.cell 4 28,.tmp 5,.tmp 6])(h4:tm[4]? =M (aG (M ⟨R,0,Z⟩)))(h5:tm[5]? =M E)(J:tm[6]? =M z)(hz:w.heap[R]? =M (aL #[N aE p.1.id,N aE p.1.time,p.2.1,p.2.2] 28 (0,0))):(results fn tm).run PQ w=.ok (cP #[YS p,E,z]) w:=by obtain⟨z0,z1,Y,z3⟩:=cells4 hz;simp[results,I,go_sem,h4,h5,J,z0,z1,Y,z3,YS]
theorem CO{ev:aD}(i:Int)(h:ku w sb vb ps last sil)(ac:w.cell? ⟨0,0,Z⟩=M ev):eL PQ 38 #[aG (M ⟨sb,0,Z⟩),N aE i] w (rW w sb vb ps last sil ev i):=by
 obtain⟨W,J,z,E⟩:=jD w #[N aE 0,N aE 0,aM Z 0 0,aM Z 0 0] 28;have I:=h.below z;obtain⟨c0,c1,c2⟩:=cells3 I.obj;obtain⟨z0,z1,z2,z3⟩:=cells4 E;have fz:=aQ I.obj;have ai:=aQ E;have hl:=h.lt;have R:sb≠w.heap.size:=aA
 have he:=lu ac z;have hf:=h.few;have H:cJ _:=jy h (jy z (jy I E));by_cases h0:0<sil
 .have ae:(0:Int)<sil:=by omega
  clear h z I E;go_enter (fq Tryz.func38 rfl),Tryz.ntmps38;go_upto_region 1 with fail;rw[<-J];clear J;go_upto_region 3 with fail;go_region
  all_goals
   go_wp2_with fail;obtain⟨h,z,I,E⟩:=H.out;rw[show((sil:Int)-1)=((sil-1:Nat):Int) by omega];have hV:=I.silent (s:=sil-1) aA;have aa:=(aW W ⟨sb,2,Z⟩ (N aE (sil-1:Nat)) w.heap.size R.symm).trans E;obtain⟨q1,q2⟩:=nK aa (N aE 0) (N aE 0) (aM Z 0 0) (aM Z 0 0);refine cN (Uf (p:=upZ) rfl rfl rfl rfl q1) rfl ?_;unfold rW;rw[ZD h0];have q3:=q2.trans (.drew (λk=>k=w.heap.size) _) λ_ _ e=>e;refine⟨rfl,hV.kept (λk hk=>q3.block k ?_ ?_) (.jM q3 λk cs t fz hk e=>?_),((jI.below z jB _).trans (.set W sb 2 _) λ_ _ e=>e).trans q3 λk hk e=>aA⟩
   .have:=hV.lt;obtain rfl|e:=hk
    .exact this
    .exact hV.row.lt e
   .obtain rfl|e:=hk
    .exact R
    .intro e';have:=h.row.lt e;omega
   .subst hk;rw[aa]at e;simp at e;rw[<-e.2.1];exact⟨aB,aB⟩
 .have ae:¬(0:Int)<sil:=by omega
  have hold:∀(n:Nat) a b c d,cG w.heap.size w (Iz W w.heap.size a b c d):=λn a b c d=>((jI.below (XS:=λ_=>False) z jB).trans (nK E a b c d).2 λk hk e=>aA).lQ;by_cases h1:i<0
  .clear h z I E;go_enter (fq Tryz.func38 rfl),Tryz.ntmps38;go_upto_region 1 with fail;rw[<-J];clear J;go_wp2_with fail;refine cN (Uf (p:=upZ) rfl rfl rfl rfl (nK H.out.2.2.2 _ _ _ _).1) rfl ?_;unfold rW;rw[Zs h0];exact⟨hold 0 _ _ _ _,cF ⟨bN h1,rfl⟩⟩
  .by_cases h2:(ps.length:Int)<=i
   .obtain⟨a,cap,hv⟩:=h.row.slice;clear h z I E;subst hv;go_enter (fq Tryz.func38 rfl),Tryz.ntmps38;go_upto_region 1 with fail;rw[<-J];clear J;go_wp2_with fail;refine cN (Uf (p:=upZ) rfl rfl rfl rfl (nK H.out.2.2.2 _ _ _ _).1) rfl ?_;unfold rW;rw[Zs h0];exact⟨hold 0 _ _ _ _,cF ⟨cF h2,rfl⟩⟩
   .obtain⟨n,rfl⟩:∃n:Nat,i=n:=⟨i.toNat,aA⟩
    obtain⟨g,off,cap,rfl,ag⟩:=h.row.pos aA;obtain⟨p,hp⟩:∃p,ps[n]? =M p:=⟨_,aO aA⟩
    obtain⟨u,vt,vl⟩:=p;have hu:=h.up _ (aX hp);obtain⟨ta,tc,rfl⟩:∃a c,vt=.slice a u.txs.length c:=hu.1.slice;obtain⟨la,lc,rfl⟩:∃a c,vl=.slice a u.logs.length c:=Row.slice hu.2;have Y:=λ(j:Nat) x (hj:j<4) (hu:(oq (u,.slice ta u.txs.length tc,.slice la u.logs.length lc))[j]? =M x)=>Rd.rec oq 4 (λ_=>rfl) I.row.rd hp hj hu;have k0:=Y 0 _ aA rfl;have k1:=Y 1 _ aA rfl;have k2:=Y 2 _ aA rfl;have k3:=Y 3 _ aA rfl;rw[<-dV]at k0 k1 k2 k3;rw[Nat.add_zero]at k0;have ah:g≠w.heap.size:=by have:=h.row.lt (g:=g) rfl;omega
    have af:(n:Int)<ps.length:=aA
    have Hp:cJ _:=hp;clear h z I E Y hp hu;go_enter (fq Tryz.func38 rfl),Tryz.ntmps38;go_upto_region 1 with fail;rw[<-J];clear J;go_wp2_with fail;refine cN (Uf (p:=(u,.slice ta u.txs.length tc,.slice la u.logs.length lc)) rfl rfl rfl rfl (nK H.out.2.2.2 _ _ _ _).1) rfl ?_;unfold rW;rw[Zs h0];exact⟨hold 0 _ _ _ _,bN ⟨n,_,rfl,Hp.out,rfl⟩⟩
end
end
section
def XF(w:X)(E s n:Nat)(xs:List aD)(e:Ending)(w':X):Prop:=∃a cap,e=bX (.slice a n cap)/\Row w' E s (.slice a n cap) n xs/\(∀g,(aM a n cap).ownBlock=M g->w.heap.size<=g)/\cG w.heap.size w w'
def He(w:X)(E s:Nat):XF w E s 0 [] (bX (aM Z 0 0)) w:=⟨Z,0,rfl,Row.nil _ _ _,λg e=>(by cases e),aJ _ _⟩
structure NY(w W:X)(E s n:Nat)(xs:List aD)(g off cap:Nat):Prop where
 b:cG w.heap.size w W
 o:W.heap[w.heap.size]? =M (aL #[] E (0,0))
 r:Row W E s (aM (M ⟨w.heap.size,0,Z⟩) 0 0) 0 []
 c:0<n->∀j u,xs[j]? =M u->W.cell? ((⟨g,off,Z⟩:fR).add j)=M u
 l:xs.length=n*s
section
variable {w W:X}{E s n g off cap:Nat}{xs:List aD}{a:fR}
theorem NY.of(z:cG w.heap.size w W)(I:W.heap[w.heap.size]? =M (aL #[] E (0,0)))(h:Rd w s (aM (M a) n cap) n xs):∃g off,(0<n->a=⟨g,off,Z⟩)/\NY w W E s n xs g off cap:=by
 obtain⟨h1,a',Y,hv,hc,hp⟩:=h;cases hv;have hr:Row W E s (aM (M ⟨w.heap.size,0,Z⟩) 0 0) 0 []:=⟨aC,cF ⟨w.heap.size,0,0,#[],rfl,I,jB,by unfold maxLen;omega,aC,λj u R=>by simp at R⟩⟩
 by_cases J:0<n
 .obtain⟨g,off,ha,hg,hx⟩:=hp J;cases ha;refine⟨g,off,λ_=>rfl,z,I,hr,λ_ j u R=>?_,h1⟩;have:=lu (hx j u R) z;unfold Addr.add;split
  .rename_i h0;subst h0;exact this
  .exact this
 .exact⟨0,0,λe=>Xs e J,z,I,hr,λe=>Xs e J,h1⟩
theorem NY.fin(h:NY w W E s n xs g off cap){J I z:Nat}{R:X}(Y:Row R E s (aM (M ⟨J,I,Z⟩) (0+n) z) (0+n) ([]++xs))(hg:Grew (aM (M ⟨w.heap.size,0,Z⟩) 0 0) J W R):XF w E s n xs (bX (aM (M ⟨J,I,Z⟩) n z)) R:=by
 rw[fJ,dS]at Y;refine⟨M ⟨J,I,Z⟩,z,rfl,Y,λq hq=>?_,((jI.below h.b jB (λ_=>False)).trans hg.jM λk hk e=>?_).lQ⟩
 .have:M J=M q:=hq;cases this;obtain e|e:=hg.own
  .cases e;exact jB
  .exact bH h.b.size e
 .have:w.heap.size=k:=fC e;omega
end
def Xu(w:X)(n k:Nat):(binOp .eql 25 (aM Z n k) (aM Z 0 0)).run PQ w=.ok (cM bB) w:=XN
def Ua(w:X)(a:fR)(n k:Nat):(binOp .eql 25 (aM (M a) n k) (aM Z 0 0)).run PQ w=.ok (cM aR) w:=XN
def ES:(PQ.info? 125).map (λi=>(i.zero,i.size,i.bytes))=M (M (.agg #[N .u32 0,N .u32 0,.string ⟨#[]⟩]),3,24):=XN
def X8(v:aD)(n:Nat)(xs:List aD)(w:X)(h:Rd w 3 v n xs)(h1:∀u,u∈xs->u.oneCell'=bB)(hl:n<=4294967296):eL PQ 91 #[v] w (XF w 125 3 n xs):=by
 obtain⟨a,cap,rfl⟩:=h.slice;cases a with
 |none=>
  obtain⟨h2,a',ag,hv,hc,hp⟩:=h;cases hv;obtain rfl:n=0:=nF λe=>by obtain⟨g,off,ha,_⟩:=hp e;cases ha
  obtain rfl:xs=[]:=bP aA;have af:=Xu;clear h2 hc hp h1 hl;go_enter (fq Tryz.func91 rfl),Tryz.ntmps91;go_wp2_with fail;go_ret;exact He _ _ _
 |some a=>
  obtain⟨i0,Y,R,aa,ac⟩:=pu ES;obtain⟨W,hW,hb,ho⟩:=jD w #[] 125;obtain⟨g,off,ha,hS⟩:=NY.of hb ho h;have z:cJ _:=jy Y (jy R (jy aa (jy ac (jy hS h1))));have af:=Ua;clear hb ho Y R aa ac h h1 hS;by_cases hn:n=0
  .subst hn;have hx:xs=[]:=bP (by rw[z.out.2.2.2.2.1.l]);subst hx;clear ha;go_enter (fq Tryz.func91 rfl),Tryz.ntmps91;go_upto_region 3 with fail;go_wp2_with (first|(at_builtin;rw[<-hW];refine kT _ rfl (cR 5) (cR 6) 25 rfl 125 i0 3 (uq Tryz.underlying25) z.out.1 z.out.2.2.1 w.heap.size 0 0 0 rfl a 0 cap [] rfl rfl (by intro j u hj;simp at hj) (by intro u hu;simp at hu) aA (by intro j hj;simp at hj) (by intro j;exact aQ z.out.2.2.2.2.1.o j) ?_)|go_in)
   go_ret;subst hW;exact⟨M ⟨w.heap.size,0,Z⟩,0,rfl,z.out.2.2.2.2.1.r,λq hq=>by cases hq;exact jB,z.out.2.2.2.2.1.b⟩
  .obtain rfl:=ha aA;clear ha;go_enter (fq Tryz.func91 rfl),Tryz.ntmps91;go_upto_region 3 with fail;go_wp2_with (first|(at_builtin;rw[<-hW];refine kX _ rfl (cR 5) (cR 6) 25 rfl 125 i0 _ 3 24 (uq Tryz.underlying25) z.out.1 z.out.2.1 z.out.2.2.1 z.out.2.2.2.1 rfl aB _ 0 [] rfl z.out.2.2.2.2.1.r ⟨g,off,Z⟩ n cap xs rfl aA z.out.2.2.2.2.1.l (z.out.2.2.2.2.1.c aA) z.out.2.2.2.2.2 (by unfold maxLen;omega) aA ?_;intro g5 ah ai w5 I J;have ae:cJ _:=jy I J;clear I J)|go_in)
   go_ret;have:=z.out.2.2.2.2.1.fin ae.out.1 ae.out.2;simpa using this
def Y0(w:X)(n k:Nat):(binOp .eql 26 (aM Z n k) (aM Z 0 0)).run PQ w=.ok (cM bB) w:=XN
def Uu(w:X)(a:fR)(n k:Nat):(binOp .eql 26 (aM (M a) n k) (aM Z 0 0)).run PQ w=.ok (cM aR) w:=XN
def E8:(PQ.info? 9).map (λi=>(i.zero,i.size,i.bytes))=M (M (.string ⟨#[]⟩),1,16):=XN
def CB(v:aD)(n:Nat)(xs:List aD)(w:X)(h:Rd w 1 v n xs)(h1:∀u,u∈xs->u.oneCell'=bB)(hl:n<=4294967296):eL PQ 47 #[v] w (XF w 9 1 n xs):=by
 obtain⟨a,cap,rfl⟩:=h.slice;cases a with
 |none=>
  obtain⟨h2,a',ag,hv,hc,hp⟩:=h;cases hv;obtain rfl:n=0:=nF λe=>by obtain⟨g,off,ha,_⟩:=hp e;cases ha
  obtain rfl:xs=[]:=bP aA;have af:=Y0;clear h2 hc hp h1 hl;go_enter (fq Tryz.func47 rfl),n9;go_wp2_with fail;go_ret;exact He _ _ _
 |some a=>
  obtain⟨i0,Y,R,aa,ac⟩:=pu E8;obtain⟨W,hW,hb,ho⟩:=jD w #[] 9;obtain⟨g,off,ha,hS⟩:=NY.of hb ho h;have z:cJ _:=jy Y (jy R (jy aa (jy ac (jy hS h1))));have af:=Uu;clear hb ho Y R aa ac h h1 hS;by_cases hn:n=0
  .subst hn;have hx:xs=[]:=bP (by rw[z.out.2.2.2.2.1.l]);subst hx;clear ha;go_enter (fq Tryz.func47 rfl),n9;go_upto_region 3 with fail;go_wp2_with (first|(at_builtin;rw[<-hW];refine kT _ rfl (cR 5) (cR 6) 26 rfl 9 i0 1 (uq nq) z.out.1 z.out.2.2.1 w.heap.size 0 0 0 rfl a 0 cap [] rfl rfl (by intro j u hj;simp at hj) (by intro u hu;simp at hu) aA (by intro j hj;simp at hj) (by intro j;exact aQ z.out.2.2.2.2.1.o j) ?_)|go_in)
   go_ret;subst hW;exact⟨M ⟨w.heap.size,0,Z⟩,0,rfl,z.out.2.2.2.2.1.r,λq hq=>by cases hq;exact jB,z.out.2.2.2.2.1.b⟩
  .obtain rfl:=ha aA;clear ha;go_enter (fq Tryz.func47 rfl),n9;go_upto_region 3 with fail;go_wp2_with (first|(at_builtin;rw[<-hW];refine kX _ rfl (cR 5) (cR 6) 26 rfl 9 i0 _ 1 16 (uq nq) z.out.1 z.out.2.1 z.out.2.2.1 z.out.2.2.2.1 rfl aB _ 0 [] rfl z.out.2.2.2.2.1.r ⟨g,off,Z⟩ n cap xs rfl aA z.out.2.2.2.2.1.l (z.out.2.2.2.2.1.c aA) z.out.2.2.2.2.2 (by unfold maxLen;omega) aA ?_;intro g5 ah ai w5 I J;have ae:cJ _:=jy I J;clear I J)|go_in)
   go_ret;have:=z.out.2.2.2.2.1.fin ae.out.1 ae.out.2;simpa using this
def VN(w:X)(n k:Nat):(binOp .eql 44 (aM Z n k) (aM Z 0 0)).run PQ w=.ok (cM bB) w:=XN
def UF(w:X)(a:fR)(n k:Nat):(binOp .eql 44 (aM (M a) n k) (aM Z 0 0)).run PQ w=.ok (cM aR) w:=XN
def rF:(PQ.info? 52).map (λi=>(i.zero,i.size,i.bytes))=M (M (.agg #[N aE 0,N aE 0,N aE 0,N aE 0,N aE 0,aM Z 0 0,aM Z 0 0,N aE 0]),8,96):=XN
def Y9(v:aD)(n:Nat)(xs:List aD)(w:X)(h:Rd w 8 v n xs)(h1:∀u,u∈xs->u.oneCell'=bB)(hl:n<=4294967296):eL PQ 46 #[v] w (XF w 52 8 n xs):=by
 obtain⟨a,cap,rfl⟩:=h.slice;cases a with
 |none=>
  obtain⟨h2,a',ag,hv,hc,hp⟩:=h;cases hv;obtain rfl:n=0:=nF λe=>by obtain⟨g,off,ha,_⟩:=hp e;cases ha
  obtain rfl:xs=[]:=bP aA;have af:=VN;clear h2 hc hp h1 hl;go_enter (fq Tryz.func46 rfl),Tryz.ntmps46;go_wp2_with fail;go_ret;exact He _ _ _
 |some a=>
  obtain⟨i0,Y,R,aa,ac⟩:=pu rF;obtain⟨W,hW,hb,ho⟩:=jD w #[] 52;obtain⟨g,off,ha,hS⟩:=NY.of hb ho h;have z:cJ _:=jy Y (jy R (jy aa (jy ac (jy hS h1))));have af:=UF;clear hb ho Y R aa ac h h1 hS;by_cases hn:n=0
  .subst hn;have hx:xs=[]:=bP (by rw[z.out.2.2.2.2.1.l]);subst hx;clear ha;go_enter (fq Tryz.func46 rfl),Tryz.ntmps46;go_upto_region 3 with fail;go_wp2_with (first|(at_builtin;rw[<-hW];refine kT _ rfl (cR 5) (cR 6) 44 rfl 52 i0 8 (uq ma) z.out.1 z.out.2.2.1 w.heap.size 0 0 0 rfl a 0 cap [] rfl rfl (by intro j u hj;simp at hj) (by intro u hu;simp at hu) aA (by intro j hj;simp at hj) (by intro j;exact aQ z.out.2.2.2.2.1.o j) ?_)|go_in)
   go_ret;subst hW;exact⟨M ⟨w.heap.size,0,Z⟩,0,rfl,z.out.2.2.2.2.1.r,λq hq=>by cases hq;exact jB,z.out.2.2.2.2.1.b⟩
  .obtain rfl:=ha aA;clear ha;go_enter (fq Tryz.func46 rfl),Tryz.ntmps46;go_upto_region 3 with fail;go_wp2_with (first|(at_builtin;rw[<-hW];refine kX _ rfl (cR 5) (cR 6) 44 rfl 52 i0 _ 8 96 (uq ma) z.out.1 z.out.2.1 z.out.2.2.1 z.out.2.2.2.1 rfl aB _ 0 [] rfl z.out.2.2.2.2.1.r ⟨g,off,Z⟩ n cap xs rfl aA z.out.2.2.2.2.1.l (z.out.2.2.2.2.1.c aA) z.out.2.2.2.2.2 (by unfold maxLen;omega) aA ?_;intro g5 ah ai w5 I J;have ae:cJ _:=jy I J;clear I J)|go_in)
   go_ret;have:=z.out.2.2.2.2.1.fin ae.out.1 ae.out.2;simpa using this
end
open Dv (Lo)
section
variable {w w':X}{v:aD}
theorem Row.short{e s n:Nat}{xs:List aD}(h:Row w e s v n xs):n<=9223372036854775807:=by
 obtain⟨_,h⟩|⟨g,off,cap,z,_,_,E,h2,_⟩:=h.2
 .omega
 .have:maxLen=9223372036854775807:=rfl;omega
theorem Nk(va vb:aD)(l:List (List UInt8))(w:X)(z:kQ w va l)(E:kQ w vb l):eL PQ 131 #[va,vb] w λe w'=>e=bX (cM bB)/\cG w.heap.size w w':=by
 obtain⟨aa,ac,rfl⟩:=Row.slice z;obtain⟨ba,bc,rfl⟩:=Row.slice E;have hl:=Row.short z;obtain⟨n,Y⟩:∃n,l.length=n:=⟨_,rfl⟩
 have H:cJ _:=jy z (jy E Y);rw[Y]at hl⊢;clear z E Y;have af:((n:Int) == (n:Int))=bB:=aC
 go_enter (fq Tryz.func131 rfl),Tryz.ntmps131;go_wp2_with fail;go_loopg [5,13] n (λgg _ t wr=>∃i:Nat,i<=n/\t=N aE i/\gg=n-i/\cJ (cG w.heap.size w wr))
 case atStart=>exact⟨0,dL _,rfl,rfl,aJ _ _⟩
 case round=>
  obtain⟨i,hi,rfl,rfl,HI⟩:=hrel;by_cases ae:i<n
  .have J:(i:Int)<n:=by omega
   obtain⟨z,E,Y⟩:=H.out;obtain⟨x,hx⟩:∃x,l[i]? =M x:=⟨_,aO aA⟩
   obtain⟨g1,o1,c1,e1,_⟩:=Row.pos z aA;obtain⟨g2,o2,c2,e2,_⟩:=Row.pos E aA;cases e1;cases e2;have I:(l.map nT)[i]? =M (nT x):=by rw[fE,hx];rfl
   have k1:=(HI.out.cell (p:=⟨g1,o1+i,Z⟩) (Row.lt z rfl)).trans (Row.cell z rfl i _ I);have k2:=(HI.out.cell (p:=⟨g2,o2+i,Z⟩) (Row.lt E rfl)).trans (Row.cell E rfl i _ I);unfold nT at k1 k2;obtain⟨XB,R⟩:∃Wd:ByteArray,(⟨x.toArray⟩:ByteArray)=Wd:=⟨_,rfl⟩
   rw[R]at k1 k2;clear z E Y hx I R;go_wp2_with fail;go_quiet (fail);go_wp2_with fail;go_roundg (n-(i+1))
   case measure=>omega
   case rel=>exact⟨i+1,aA,by go_num,rfl,below_drewN HI.out _⟩
  .have J:¬(i:Int)<n:=by omega
   go_wp2_with fail;go_ret;exact⟨rfl,HI.out⟩
def IE(w:X)(p:PL):Prop:=kQ w p.2.1 p.1.txs/\kQ w p.2.2 p.1.deps
theorem IE.below{p:PL}(h:IE w p)(z:cG w.heap.size w w'):IE w' p:=⟨Row.below h.1 z,Row.below h.2 z⟩
theorem Xv(p q:PL)(w:X)(e:p.1=q.1)(hp:IE w p)(hq:IE w q):eL PQ 96 #[.agg (jJ p).toArray,.agg (jJ q).toArray] w λe w'=>e=bX (cM bB)/\cG w.heap.size w w':=by
 have J:=λ(V:X)(hV:cG w.heap.size w V)=>Nk _ _ _ V (Row.below hp.1 hV) (Row.below (by rw[e];exact hq.1:kQ w q.2.1 p.1.txs) hV);have R:=λ(V:X)(hV:cG w.heap.size w V)=>Nk _ _ _ V (Row.below hp.2 hV) (Row.below (by rw[e];exact hq.2:kQ w q.2.2 p.1.deps) hV);obtain⟨a1,c1,e1⟩:=Row.slice hp.1;obtain⟨a2,c2,e2⟩:=Row.slice hp.2;obtain⟨a3,c3,e3⟩:=Row.slice hq.1;obtain⟨a4,c4,e4⟩:=Row.slice hq.2;have t1:((p.1.number:Int) == (q.1.number:Int))=bB:=by rw[e];exact beq_self_eq_true _
 have t2:(p.1.time == q.1.time)=bB:=by rw[e];exact beq_self_eq_true _
 have t3:((p.1.epoch:Int) == (q.1.epoch:Int))=bB:=by rw[e];exact beq_self_eq_true _
 have t4:(p.1.id == q.1.id)=bB:=by rw[e];exact beq_self_eq_true _
 have t5:((p.1.seq:Int) == (q.1.seq:Int))=bB:=by rw[e];exact beq_self_eq_true _
 have t6:((p.1.at_:Int) == (q.1.at_:Int))=bB:=by rw[e];exact beq_self_eq_true _
 clear hp hq e;unfold jJ;rw[e1,e2,e3,e4];rw[e1,e3]at J;rw[e2,e4]at R;clear e1 e2 e3 e4;generalize p.1.txs.length=n1 at *;generalize p.1.deps.length=n2 at *;generalize q.1.txs.length=n3 at *;generalize q.1.deps.length=n4 at *;generalize p.1.number=f1 at *;generalize p.1.time=f2 at *;generalize p.1.epoch=f3 at *;generalize p.1.id=f4 at *;generalize p.1.seq=f5 at *;generalize p.1.at_=f6 at *;generalize q.1.number=g1 at *;generalize q.1.time=g2 at *;generalize q.1.epoch=g3 at *;generalize q.1.id=g4 at *;generalize q.1.seq=g5 at *;generalize q.1.at_=g6 at *;obtain⟨Y,hY,E,y1⟩:=jD w #[N aE f1,N aE f2,N aE f3,N aE f4,N aE f5,.slice a1 n1 c1,.slice a2 n2 c2,N aE f6] 52;obtain⟨Wd,hX,I,x2⟩:=jD Y #[N aE g1,N aE g2,N aE g3,N aE g4,N aE g5,.slice a3 n3 c3,.slice a4 n4 c4,N aE g6] 52;have aa:Y.heap.size=w.heap.size+1:=by rw[hY];simp
 have x1:=(I.block w.heap.size aA).trans y1;rw[aa]at x2;have hb:=E.trans (I.mono E.size);have l1:=(jE x1)
 have l2:=(jE x2)
 obtain⟨k0,k1,k2,k3,k4,k5,k6,k7,kf⟩:=lq x1;obtain⟨m0,m1,m2,m3,m4,m5,m6,m7,mf⟩:=lq x2;have H:cJ _:=jy J (jy R (jy hb (jy x1 x2)));clear J R hb x1 x2 y1 E I aa kf mf;go_enter (fq Tryz.func96 rfl),Tryz.ntmps96;go_upto_region 1 with fail;rw[<-hY,<-hX];clear hX hY;go_wp2_with (go_at_call 131;first|((with_reducible refine aT (H.out.1 _ H.out.2.2.1) ?_);rintro e w2 ⟨rfl,z⟩;obtain⟨_,_,_,_,_,_,p6,_,_⟩:=lq ((z.block _ l1).trans H.out.2.2.2.1);obtain⟨_,_,_,_,_,_,r6,_,_⟩:=lq ((z.block _ l2).trans H.out.2.2.2.2);have Hb:cJ _:=H.out.2.2.1.trans (z.mono H.out.2.2.1.size);clear z)|((with_reducible refine aT (H.out.2.1 _ Hb.out) ?_);rintro e w3 ⟨rfl,ac⟩;have ae:cJ _:=Hb.out.trans (ac.mono Hb.out.size);clear ac))
 go_ret;exact⟨rfl,ae.out⟩
def pz(w:X)(v:aD)(ps:List PL):Prop:=Rd w 8 v ps.length (ps.flatMap jJ)/\∀p,p∈ps->IE w p
theorem pz.below{ps:List PL}(h:pz w v ps)(z:cG w.heap.size w w'):pz w' v ps:=⟨h.1.below z,λp hp=>(h.2 p hp).below z⟩
theorem pz.cells{w:X}{g off cap:Nat}{ps:List PL}(h:pz w (aM (M ⟨g,off,Z⟩) ps.length cap) ps){i:Nat}{p:PL}(R:ps[i]? =M p):∃I n1 z J n2 E,p.2.1=.slice I n1 z/\p.2.2=.slice J n2 E/\w.cell? ⟨g,off+i*8,Z⟩=M (N aE p.1.number)/\w.cell? ⟨g,off+i*8+1,Z⟩=M (N aE p.1.time)/\w.cell? ⟨g,off+i*8+2,Z⟩=M (N aE p.1.epoch)/\w.cell? ⟨g,off+i*8+3,Z⟩=M (N aE p.1.id)/\w.cell? ⟨g,off+i*8+4,Z⟩=M (N aE p.1.seq)/\w.cell? ⟨g,off+i*8+5,Z⟩=M (.slice I n1 z)/\w.cell? ⟨g,off+i*8+6,Z⟩=M (.slice J n2 E)/\w.cell? ⟨g,off+i*8+7,Z⟩=M (N aE p.1.at_):=by
 obtain⟨I,z,e1⟩:=Row.slice (h.2 p (aX R)).1;obtain⟨J,E,e2⟩:=Row.slice (h.2 p (aX R)).2;have k:=λ(j:Nat) u (hj:j<8) (hu:(jJ p)[j]? =M u)=>Rd.rec jJ 8 (λ_=>rfl) h.1 R hj hu;have Y:=k 5 _ aA rfl;have k6:=k 6 _ aA rfl;rw[e1]at Y;rw[e2]at k6;exact⟨I,_,z,J,_,E,e1,e2,k 0 _ aA rfl,k 1 _ aA rfl,k 2 _ aA rfl,k 3 _ aA rfl,k 4 _ aA rfl,Y,k6,k 7 _ aA rfl⟩
theorem Xg(va vb:aD)(I E:List PL)(w:X)(ha:pz w va I)(J:pz w vb E)(hl:I.length<=4294967296/\E.length<=4294967296)(he:∀(i:Nat) p q,I[i]? =M p->E[i]? =M q->p.1=q.1):eL PQ 65 #[va,vb] w λe w'=>e=bX (N aE (min I.length E.length:Nat))/\cG w.heap.size w w':=by
 obtain⟨aa,ac,rfl⟩:=ha.1.slice;obtain⟨ba,bc,rfl⟩:=J.1.slice;obtain⟨m,hm⟩:∃m,min I.length E.length=m:=⟨_,rfl⟩
 have ar:m<=I.length:=aA
 have ap:m<=E.length:=aA
 have an:min (I.length:Int) (E.length:Int)=m:=aA
 rw[hm];have H:cJ _:=jy ha (jy J he);clear ha J he;go_enter (fq Tryz.func65 rfl),Tryz.ntmps65;go_wp2_with fail;go_loopg [6,13] m (λgg _ t wr=>∃i:Nat,i<=m/\t=N aE i/\gg=m-i/\cJ (cG w.heap.size w wr))
 case atStart=>exact⟨0,dL _,rfl,rfl,aJ _ _⟩
 case round=>
  obtain⟨i,hi,rfl,rfl,HI⟩:=hrel;by_cases ao:i<m
  .have aj:(i:Int)<m:=by omega
   have aq:(i:Int)<I.length:=aA
   have au:(i:Int)<E.length:=aA
   obtain⟨ha,J,he⟩:=H.out;obtain⟨p,hp⟩:∃x,I[i]? =M x:=⟨_,aO aA⟩
   obtain⟨q,hq⟩:∃x,E[i]? =M x:=⟨_,aO aA⟩
   have ai:=he i p q hp hq;obtain⟨g1,o1,c1,e1,_⟩:=ha.1.pos aA;obtain⟨g2,o2,c2,e2,_⟩:=J.1.pos aA;cases e1;cases e2;have ae:=ha.below HI.out;have Y:=J.below HI.out;obtain⟨a1,n1,k1,a2,n2,k2,ah,ag,x0,x1,x2,x3,x4,x5,x6,x7⟩:=ae.cells hp;obtain⟨a3,n3,k3,a4,n4,k4,am,af,y0,y1,y2,y3,y4,y5,y6,y7⟩:=Y.cells hq;have hs:=λV (hV:cG wr.heap.size wr V)=>Xv p q V ai ((ae.2 p (aX hp)).below hV) ((Y.2 q (aX hq)).below hV);unfold jJ at hs;rw[ah,ag,am,af]at hs;have HS:cJ _:=hs;have z:=aJ wr.heap.size wr;clear hs ha J ae Y he ai hp hq ah ag am af;go_upto_region 5 with fail;go_cut [13,25] from 13 to 27 (λu v wx=>u=N aE i/\v=cM aR/\cJ (cG wr.heap.size wr wx))
   case first=>
    go_region_with (go_at_call 96;(refine aT (HS.out _ ?_) ?_;(first|exact z|exact z.drew|exact below_drewN z _);rintro e w5 ⟨rfl,ak⟩;have R:cJ _:=ak;clear ak))
    all_goals
     go_wp2_with fail;go_meet;refine⟨rfl,rfl,?_⟩
     first|exact R.out|exact z.drew.trans R.out|exact(below_drewN z _).trans R.out
   case rest=>
    obtain⟨rfl,rfl,Hc⟩:=hcut;go_wp2_with fail;go_roundg (m-(i+1))
    case measure=>omega
    case rel=>exact⟨i+1,aA,by go_num,rfl,HI.out.trans (Hc.out.mono HI.out.size)⟩
  .have aj:¬(i:Int)<m:=by omega
   obtain rfl:i=m:=aA
   go_wp2_with fail;go_ret;exact⟨rfl,HI.out⟩
end
end Hm
