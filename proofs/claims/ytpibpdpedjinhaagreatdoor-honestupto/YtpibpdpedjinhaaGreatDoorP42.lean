import Derived.Test.YtpibpdpedjinhaaGreatDoorP40
import Derived.Test.YtpibpdpedjinhaaGreatDoorP41
set_option maxRecDepth 100000
set_option maxHeartbeats 4000000
set_option linter.all false
open Bool renaming false->aL,true->bB
open Go renaming Code->im,Frame->cU,Item->rR,Oper->lR,TypeId->cH,Value->aD,World->U,execOp->bL,heap_alloc_new->cX,undef->aE
open Go.Act renaming eval->lL,put->iv
open Go.Code renaming seq->cL
open Go.IntKind renaming i64->X,wrap_i64->cP
open Go.Item renaming inRegion->cD
open Go.Obj renaming cells->aG
open Go.Operand renaming tmp->eC
open Go.Value renaming agg->gP,bool->cF,int->N,slice->aR,string->aH,tuple->dC
open Option renaming none->Z,some->M
open Prod renaming fst->cG,snd->lr
namespace Go.Proofs.YtpibpdpedjinhaaGreatDoor
namespace Pa
open Go Go.Conc Go.RowKit Go.Joins
open Hm (ptr kC jL jT TS kF pR nK AL PC PB PW PU lives Fits kM kX S9 I7 Ie RS Sr SX allL GY Jd zY Ap Aa DU)
open Dv (X2 Cf Ch)
open Po hiding X2 H B IT PR NB
section
variable {w w':U}{v:aD}{ps:List PU}{j s n i:Nat}{xs:List aD}{b₀:cU}{ops:Array lR}{rest:List Nat}{k:List rR}{x y:Operand}{ats:Array cH}
theorem acJ{t:Array aD}(h:t.size=33):∃u0 u1 u2 u3 u4 u5 u6 u7 u8 u9 I E ag ao am av ah ac ai ap J Y ak aj ar aa au q af ab ae aq an,t=#[u0,u1,u2,u3,u4,u5,u6,u7,u8,u9,I,E,ag,ao,am,av,ah,ac,ai,ap,J,Y,ak,aj,ar,aa,au,q,af,ab,ae,aq,an]:=by
 obtain⟨l⟩:=t;replace h:l.length=33:=h
 iterate 33 (obtain⟨_,l,rfl,h'⟩:=Hm.II h;clear h;have h:=h';clear h')
 obtain rfl:=List.length_eq_zero_iff.1 h;exact⟨_,_,_,_,_,_,_,_,_,_,_,_,_,_,_,_,_,_,_,_,_,_,_,_,_,_,_,_,_,_,_,_,_,rfl⟩
structure SL(a:Act)(v va:aD)(kb n j:Nat):Prop where
 sz:a.tmps.size=33
 df:a.defers=[]
 t1:a.tmps[1]? =M v
 t6:a.tmps[6]? =M va
 t7:a.tmps[7]? =M (ptr kb)
 t18:a.tmps[18]? =M v
 t19:a.tmps[19]? =M (N X n)
 t20:a.tmps[20]? =M (N X j)
theorem Rw{tm:Array aD}{q E:aD}(h4:tm[4]? =M q)(I:tm[5]? =M E)(w:U):(results Tryz.f12 tm).run PQ w=.ok (dC #[q,E]) w:=by simp[results,Tryz.results12,go_sem,h4,I]
theorem Ll(h:nK w v ps)(q:w'.heap=w.heap):nK w' v ps:=⟨Hm.Rd.heap h.1 q,λp hp=>(h.2 p hp).heap q⟩
theorem yR{q:Nat}{c:Cf}(h:w.heap[q]? =M (aG (jL c) 24 (0,0)))(i:Nat):w.cell? ⟨q,i,Z⟩=(jL c)[i]?:=aI h _
section
variable {w w':U}{kb nb:Nat}{c:Cf}{vu:aD}{us:List PB}{dl:Nat->List (List UInt8)}{vo vw:aD}{ws:List PW}{nm:AL}{os:List PC}{cnt ep sq:Nat}
theorem TS.agW(h:TS w kb nb c vu us dl vo vw ws nm os cnt ep sq){cs:Array aD}{t:Nat}{I:Nat×Nat}(q:w.heap[j]? =M (aG cs t I))(t1:t≠137)(t2:t≠139)(t3:t≠150)(t4:t≠197)(E:t≠201):¬Tk kb nb vu vo vw os j:=by
 rintro(e|e|e|e)
 .exact h.CV q t1 t4 E (.inl e)
 .exact Hm.jJ h.d.upper q t2 e
 .exact Hm.jJ h.d.wait q t3 e
 .exact h.CV q t1 t4 E (.inr e)
theorem Dy(h:TS w kb nb c vu us dl vo vw ws nm os cnt ep sq)(Y:kF (Tk kb nb vu vo vw os) w w'){e:Nat}(E:Hm.Row w e s v n xs)(t1:e≠137)(t2:e≠139)(t3:e≠150)(t4:e≠197)(t5:e≠201):Hm.Row w' e s v n xs:=
 E.kept (λg I=>Y.block g (E.lt I) (by
  obtain⟨J,q⟩:=E.obj I;exact TS.agW h q t1 t2 t3 t4 t5))
theorem TS.drawn(h:TS w kb nb c vu us dl vo vw ws nm os cnt ep sq){I:aD}{ws':List PW}{E J Y:Nat}(hD:Hm.sD w' kb c vu us dl nb vo I ws' E J Y){v0:aD}(hr:Hm.Row w 62 8 v0 n xs)(hc:kF (λk=>(k=kb\/vw.ownBlock=M k)\/v0.ownBlock=M k) w w')(hh:v0.ownBlock≠M 1):TS w' kb nb c vu us dl vo I ws' nm os E J Y:=by
 obtain⟨ab,t,fz,q1,q2,q3,q4,q5,q6⟩:=h.ht
 have hM:¬((1=kb\/vw.ownBlock=M 1)\/v0.ownBlock=M 1):=by
  rintro((e|e)|e)
  .exact h.CV q1 q2 q5 q6 (.inl e)
  .exact Hm.jJ h.d.wait q1 q3 e
  .exact hh e
 refine⟨hD,?_,Hm.mG h.hd hc hM,by rw[hc.block _ h.hd.pos hM];exact⟨ab,t,fz,q1,q2,q3,q4,q5,q6⟩⟩;obtain⟨v,hv,hq⟩:=hc.fake;refine(h.ch.jR hv (λk hk=>?_)).heap hq.symm;rintro((rfl|e)|e)
 .exact h.ch.lF h.d.obj aB aB hk
 .obtain⟨aa,q⟩:=h.d.wait.obj e;exact h.ch.lF q aB aB hk
 .obtain⟨aa,q⟩:=hr.obj e;exact h.ch.lF q aB aB hk
theorem Dh(h:nK w v ps)(q:kF (λ_=>False) w w'):nK w' v ps:=
 ⟨Hm.Rd.kept h.1 q.size (λ_ g _ E=>q.block g E (λe=>e)),λp hp=>CP (h.2 p hp) q (λ_ _ e=>e)⟩
theorem acM{g:Nat}(h:Hm.Rd w s v n xs)(E:0<n)(e:v.ownBlock=M g):g<w.heap.size:=by obtain⟨g',off,cap,rfl,_,q,_⟩:=h.pos E;cases e;exact q
theorem aeh(c:Cf)(hd:kG w)(ht:∃hc t J,w.heap[1]? =M (aG hc t J)/\t≠137/\t≠150/\t≠139/\t≠197/\t≠201)(q:w'.heap=(((w.alloc (aG (jL c) 24)).alloc (.map #[] 0)).alloc (aG (jT c (aR Z 0 0) (w.heap.size+1) (aR Z 0 0) (aR Z 0 0) 0 0 0) 137)).heap):TS w' (w.heap.size+2) (w.heap.size+1) c (aR Z 0 0) [] (λ_=>[]) (aR Z 0 0) (aR Z 0 0) [] [] [] 0 0 0:=by
 have hold:∀j,j<w.heap.size->w'.heap[j]? =w.heap[j]?:=λj I=>by
  rw[q,fV _ _ _ aF,fV _ _ _ aF,fV _ _ _ I]
 have Y:w'.heap[w.heap.size+1]? =M (.map #[] 0):=by
  rw[q,fV _ _ _ aC];have:=cX (w.alloc (aG (jL c) 24)) (.map #[] 0);simpa using this
 have hk:w'.heap[w.heap.size+2]? =M (aG (jT c (aR Z 0 0) (w.heap.size+1) (aR Z 0 0) (aR Z 0 0) 0 0 0) 137 (0,0)):=by
  rw[q];have:=cX ((w.alloc (aG (jL c) 24)).alloc (.map #[] 0)) (aG (jT c (aR Z 0 0) (w.heap.size+1) (aR Z 0 0) (aR Z 0 0) 0 0 0) 137);simpa using this
 have E:w.heap.size<=w'.heap.size:=by rw[q];simp;omega
 refine⟨⟨hk,Hm.Row.nil _ _ _,Hm.Row.nil _ _ _,λj p hp=>by simp at hp,λp hp=>by simp at hp⟩,⟨⟨_,0,Y,.nil,aC,aC,λe he=>by simp at he⟩,Hm.Row.nil _ _ _,λo ho=>by simp at ho,aC,λo o' ho=>by simp at ho,λo ho=>by simp at ho,λp hp=>by simp at hp⟩,Hm.mG (XS:=λ_=>False) hd ⟨E,λj I _=>hold j I⟩ (λe=>e),by grind⟩
end
structure LI(w0:U)(c:Cf)(ps:List PU)(kb nb:Nat)(vu:aD)(us:List PB)(dl:Nat->List (List UInt8))(vo vw:aD)(ws:List PW)(nm:AL)(os:List PC)(cnt ep sq:Nat)(va:aD)(pl:List Hm.PL)(j:Nat)(w:U):Prop where
 ts:TS w kb nb c vu us dl vo vw ws nm os cnt ep sq
 rm:Hm.RM c (ps.map cG) j us dl ⟨ws,cnt,ep,sq⟩ (lives nm os) (pl.map cG)
 row:Hm.Row w 62 8 va pl.length (pl.flatMap kM)
 strs:∀p,p∈pl->kX w p.2.1 p.1.txs/\kX w p.2.2 p.1.deps
 osl:os.length<=4440*j
 fits:Fits c.most (lives nm os)
 hdl:∀i,(dl i).length<=4294967296
 low:∀k,Tk kb nb vu vo vw os k->w0.heap.size<=k
 vlow:∀g,va.ownBlock=M g->w0.heap.size<=g
 jR:kF (λ_=>False) w0 w
 own:Hm.kH w0.heap.size w.heap.size (Hm.lv pl++ws.map lr)
section
variable {w0 w w':U}{c:Cf}{ps:List PU}{kb nb:Nat}{vu:aD}{us:List PB}{dl:Nat->List (List UInt8)}{vo vw:aD}{ws:List PW}{nm:AL}{os:List PC}{cnt ep sq:Nat}{va:aD}{pl:List Hm.PL}{j:Nat}
theorem LI.kept(h:LI w0 c ps kb nb vu us dl vo vw ws nm os cnt ep sq va pl j w)(q:kF (λ_=>False) w w'):LI w0 c ps kb nb vu us dl vo vw ws nm os cnt ep sq va pl j w':=
 ⟨h.ts.kept q (λ_ _ e=>e),h.rm,h.row.kept (λg E=>q.block g (h.row.lt E) (λe=>e)),λp hp=>⟨Hm.Row.kept (h.strs p hp).1 (λg E=>q.block g (Hm.Row.lt (h.strs p hp).1 E) (λe=>e)),Hm.Row.kept (h.strs p hp).2 (λg E=>q.block g (Hm.Row.lt (h.strs p hp).2 E) (λe=>e))⟩,h.osl,h.fits,h.hdl,h.low,h.vlow,h.jR.trans q (λ_ _ e=>e),h.own.mono jE q.size⟩
theorem adb(q:w'.heap=w.heap):kF (λ_=>False) w w':=⟨by grind,λk _ _=>by rw[q]⟩
theorem zn{o:Obj}(q:w'.heap=(w.alloc o).heap):kF (λ_=>False) w w':=⟨by rw[q];simp,λk hk _=>by rw[q,fV _ _ _ hk]⟩
theorem RT.count{chain:List X2}{s:Hm.uy}{cs:List Ch}{log:List Dv.Lo}(h:Hm.RT c chain j us dl s cs log)(Y:Dv.jY chain=bB)(q:Dv.jP c=bB)(hj:j<chain.length):log.length<=s.cnt:=by
 obtain E|E:=gQ j
 .rw[(h.zero E).1];exact dL _
 .obtain⟨J,I,_⟩:=h.some E;have hn:=(Dv.vO Y q j aA).number;rw[<-J]at hn;have:=I.number;omega
theorem abK(u:X2)(h:Dv.small u=bB):(Dv.jS u).length<=4294967296:=by have:=(Dv.wX h).2.1;have h2:=gZ Dv.isDep u.logs;unfold Dv.jS;omega
theorem LI.much(h:LI w0 c ps kb nb vu us dl vo vw ws nm os cnt ep sq va pl j w)(E:Dv.jY (ps.map cG)=bB)(q:Dv.jP c=bB)(Y:j<=(ps.map cG).length):ws.length+4096*(lives nm os).length<=2000000000:=by have I:=(Dv.vO E q j Y).much;have J:=(Dv.kU E).2.1;unfold Dv.much at I;rw[<-h.rm.chs,<-h.rm.wait,bC]at I;have:ws.length=(Hm.uy.mk ws cnt ep sq).ws.length:=rfl;omega
end
noncomputable def NV:Array lR:=match zY with
 |.region _ ops _=>ops
 |_=>#[]
theorem TV:∃q,zY=.region q NV aL:=⟨_,rfl⟩
theorem Lj:List.range NV.size=[0,1,2]:=XN
def RD(c:Cf)(us:List PB)(dl:Nat->List (List UInt8))(kb nb:Nat)(vu vo vw:aD)(s:Hm.uy)(pl:List Hm.PL)(I:aD)(w:U)(a:Option Addr)(n cap:Nat)(W:U):Prop:=
 ∃E q,n=(pl++q).length/\Hm.DS c us s E/\q.map cG=E.map (Hm.qx c us dl)/\Hm.Row W 62 8 (.slice a n cap) (pl++q).length ((pl++q).flatMap kM)/\(∀p,p∈pl++q->kX W p.2.1 p.1.txs/\kX W p.2.2 p.1.deps)/\Hm.DEn kb c vu us dl nb vo vw s E W/\kF (λk=>(k=kb\/vw.ownBlock=M k)\/I.ownBlock=M k) w W/\(∀g,(aR a n cap).ownBlock=M g->I.ownBlock=M g\/w.heap.size<=g)/\(q.map λp=>p.2.1)=(E.map λx=>Hm.ET x.ob)/\Hm.kH w.heap.size W.heap.size (q.map λp=>p.2.2)
section
variable {Post:Ir}{XX A:List cU}{w0:U}{c:Cf}{ps:List PU}{xa:Option Addr}{vc:Nat}{b₀:cU}{a₀:Act}{ops:Array lR}{i:Nat}{rest:List Nat}{k:List rR}{o:lR}
theorem WB{p:PU}(h:ps[j]? =M p):(ps.map cG)[j]! =p.1:=by grind
theorem MP(rd:Cr.ReadW)(ho:ops[i]? =M o)(hc:Dv.jY (ps.map cG)=bB)(af:Dv.jP c=bB)(ci:Tryz.prog.globals.size<=w0.heap.size)(ab:nK w0 (.slice xa ps.length vc) ps)(bj:∀D w va (pl:List Hm.PL),Hm.Row w 62 8 va pl.length (pl.flatMap kM)->(∀p,p∈pl->kX w p.2.1 p.1.txs/\kX w p.2.2 p.1.deps)->pl.map cG=(Dv.gone c (ps.map cG) ps.length).log->kF (λ_=>False) w0 w->Hm.kH w0.heap.size w.heap.size (Hm.lv pl)->(∀g,va.ownBlock=M g->w0.heap.size<=g)->Wq D Post XX (b₀.at (a₀.put o.dst (dC #[va,N X 0])) (cD ops rest::k)) A w):∀r j,j+r=ps.length->∀D w a kb nb vu us dl vo vw ws nm os cnt ep sq va pl,LI w0 c ps kb nb vu us dl vo vw ws nm os cnt ep sq va pl j w->SL a (.slice xa ps.length vc) va kb ps.length j->Wq D Post XX ((base 12).at a [.code allL,.inLoop allL,.inBlock 0,.code (cL DU .ret)]) (b₀.at a₀ (cD ops (i::rest)::k)::A) w:=by
 have ck:=(Dv.kU hc).2.1;have h1:=(Dv.kU hc).1;rw[bC]at ck h1
 have d1:1<=c.timeout/\c.timeout<=8/\1<=c.window/\c.window<=8/\0<=c.drift/\c.drift<=100/\2<=c.step/\c.step<=20/\1<=c.most/\c.most<=4096:=by
  unfold Dv.jP at af;exact Z2 af
 have dz:=aP (show 1<Tryz.prog.globals.size from Z2 XN) ci;intro r
 induction r with
 |zero=>
  intro j hj D w a kb nb vu us dl vo vw ws nm os cnt ep sq va pl hI hA;have hj:j=ps.length:=aA
  obtain⟨tm,df⟩:=a;obtain⟨sz,am,t1,t6,t7,t18,t19,t20⟩:=hA;dsimp only at sz am t1 t6 t7 t18 t19 t20;subst am;obtain⟨u0,u1,u2,u3,u4,u5,u6,u7,u8,u9,cl,dg,cj,cu,c6,cx,b9,cz,ca,cg,cm,dj,cd,cb,cw,b6,db,de,dm,b7,dk,cv,dv,rfl⟩:=acJ sz;simp only[eX,eU,dX,aK]at t1 t6 t7 t18 t19 t20;subst t1 t6 t7 t18 t19 t20;obtain⟨aa,ac,bl⟩:=hI.row.slice;subst bl;rw[show Item.code allL=Item.code (cL GY (cL (.cond (eC 21) .skip (.exit 0)) (cL (.block 1 (cL Jd (cL zY Ap))) Aa))) from by rw[Hm.MF]];refine Wq.seq (Wq.walk λt d Q hN _=>Hm.Y4 j _ _ (hN _ _ (Wq.same (y:=w) (λ_ _=>rfl) ?_)));refine Wq.seq (Wq.cond (t:=decide _) rfl ?_);rw[Zs (by simp[hj])];refine Wq.exit (k':=[.code _]) rfl (Wq.seq (Wq.walk λt d Q hN _=>Hm.aaM aa _ ac _ (hN _ _ (Wq.same (y:=w) (λ_ _=>rfl) ?_))));refine Wq.ret λtodo=>Wq.leave (v:=dC #[.slice aa _ ac,.int _ 0]) (fn:=Tryz.f12) rfl rfl rfl (fq Tryz.func12 rfl) (Rw rfl rfl) ?_;rw[fO,ho];exact bj D w _ pl hI.row hI.strs (by rw[<-hj];exact(hI.rm.some aA).1) hI.jR (hI.own.less λg=>by rw[Hm.xP];omega) hI.vlow
 |succ r ih=>
  intro j hj D w a kb nb vu us dl vo vw ws nm os cnt ep sq va pl hI hA;have ar:j<ps.length:=aA
  have aj:j<(ps.map cG).length:=by rw[bC];exact ar
  obtain⟨g,off,a3,cr,_⟩:=Hm.Rd.pos ab.1 aA;cases cr;obtain⟨tm,df⟩:=a;obtain⟨sz,am,t1,t6,t7,t18,t19,t20⟩:=hA;dsimp only at sz am t1 t6 t7 t18 t19 t20;subst am;obtain⟨u0,u1,u2,u3,u4,u5,u6,u7,u8,u9,cl,dg,cj,cu,c6,cx,b9,cz,ca,cg,cm,dj,cd,cb,cw,b6,db,de,dm,b7,dk,cv,dv,rfl⟩:=acJ sz;simp only[eX,eU,dX,aK]at t1 t6 t7 t18 t19 t20;subst t1 t6 t7 t18 t19 t20;rw[show Item.code allL=Item.code (cL GY (cL (.cond (eC 21) .skip (.exit 0)) (cL (.block 1 (cL Jd (cL zY Ap))) Aa))) from by rw[Hm.MF]];refine Wq.seq (Wq.walk λt d Q hN _=>Hm.Y4 j _ _ (hN _ _ (Wq.same (y:=w) (λ_ _=>rfl) ?_)));refine Wq.seq (Wq.cond (t:=decide _) rfl ?_);rw[ZD (by simp[ar])];refine Wq.skip (Wq.seq (Wq.block (Wq.seq ?_)));obtain⟨p,bm⟩:∃p,ps[j]? =M p:=⟨_,aO ar⟩
  have au:=aX bm;have a7:=WB bm;have ai:Dv.small p.1=bB:=by rw[<-a7];exact Dv.oN _ Z (Dv.kU hc).2.2.1 j aj
  obtain⟨k0,k1,k2,k3⟩:=(Dh ab hI.jR).get bm;obtain⟨ta,tc,bo⟩:=Hm.Rd.slice (ab.2 p au).1;obtain⟨la,lc,bq⟩:=Hm.Rd.slice (ab.2 p au).2.1;rw[bo]at k2;rw[bq]at k3;refine Wq.walk λt d Q hN _=>Hm.adv g off _ vc j _ _ ta _ tc la _ lc _ ar k0 k1 k2 k3 (λw2 ax=>hN _ _ ?_);rw[show(on w t d).heap.size=w.heap.size from rfl];have ax:w2.heap=(w.alloc (aG #[N X p.1.id,N X p.1.time,.slice ta p.1.txs.length tc,.slice la p.1.logs.length lc] 42)).heap:=ax;have E:=hI.kept (zn ax)
  have co:w2.heap[w.heap.size]? =M (aG #[N X p.1.id,N X p.1.time,.slice ta p.1.txs.length tc,.slice la p.1.logs.length lc] 42 (0,0)):=by
   rw[ax];exact cX _ _
  refine Wq.seq ?_;obtain⟨d0,bx⟩:=TV;rw[bx];refine Wq.region ?_;rw[Lj];obtain⟨p0,du,b4,c9,cc⟩:∃o,NV[0]? =M o/\o.op=.move (eC 7)/\o.dst=M 24/\o.guard=Z:=⟨_,rfl,rfl,rfl,rfl⟩
  obtain⟨p1,dh,b0,c5,cp⟩:∃o,NV[1]? =M o/\o.op=.load 42 (eC 9)/\o.dst=M 25/\o.guard=Z:=⟨_,rfl,rfl,rfl,rfl⟩
  obtain⟨p2,c4,bz,cy,dq⟩:∃o,NV[2]? =M o/\o.op=.call { callee:=.value (.func 39),args:=#[eC 24,eC 25],argTypes:=#[93,42] }/\o.dst=M 26/\o.guard=Z:=⟨_,rfl,rfl,rfl,rfl⟩
  refine Wq.val (v:=ptr kb) (x':=w2) du cc (λt d=>by unfold bL;simp only[b4];rfl) ?_;rw[c9]
  refine Wq.val (v:=gP #[N X p.1.id,N X p.1.time,.slice ta p.1.txs.length tc,.slice la p.1.logs.length lc]) (x':=w2) dh cp (λt d=>by
   have c:=aI (show(on w2 t d).heap[w.heap.size]? =_ from co);have c0:=c 0;have c1:=c 1;have c2:=c 2;have c3:=c 3;unfold bL;simp only[b0];simp[go_sem,iv,lL,c0,c1,c2,c3]) ?_
  rw[c5];have a2:=(Dh ab E.jR).2 p au;rw[bo,bq]at a2;have s2:=E.jR.size;have dw:=E.osl;refine Y8 rd c4 (Cr.kR dq) bz rfl rfl aA E.ts a2 (λq hq=>?ap) ai af (by rw[E.rm.len];omega) aA E.fits (E.much hc af aA) ?_
  case ap=>
   have dx:q<w0.heap.size:=by
    have hu:=ab.2 p au;rw[bo,bq]at hu;obtain⟨hn,e⟩|⟨hn,e⟩:=hq
    .exact acM hu.1 hn e
    .exact acM hu.2.1 hn e
   exact⟨aA,λe=>by have:=E.low q e;omega⟩
  intro D3 w3 aq v3 an az I br ay bv ag bb dr bh a8 b1;rw[cy];refine Wq.done ?_;have av:=E.rm.took aj aA (v:=v3) (cs':=lives br ay) (ws':=ws++I) (by rw[a7,a8,E.rm.len]);rw[a7]at av;have ae:=Dy E.ts ag E.row aB aB aB aB aB
  have ak:∀q,q∈pl->kX w3 q.2.1 q.1.txs/\kX w3 q.2.2 q.1.deps:=λq hq=>
   ⟨Dy E.ts ag (E.strs q hq).1 aB aB aB aB aB,Dy E.ts ag (E.strs q hq).2 aB aB aB aB aB⟩
  have a5:∀i,(dlx dl us.length p.1 i).length<=4294967296:=λi=>by
   unfold dlx;split
   .exact abK _ ai
   .exact E.hdl i
  have ah:=RT.count av hc af aj;rw[bC]at ah;have bd:=av.good hc af aj;obtain⟨aa,ac,bl⟩:=ae.slice;subst bl
  have Y:∀q,Tk kb nb aq an az ay q->w0.heap.size<=q:=λq hq=>by
   obtain e|e:=bb q hq
   .exact E.low q e
   .omega
  refine Wq.walk λt d Q hN _=>Hm.abd kb aa _ ac (RD c (us++[(p.1.id,p.1.time,v3)]) (dlx dl us.length p.1) kb nb aq an az ⟨ws++I,cnt,ep,sq⟩ pl (.slice aa pl.length ac) w3) _ ?calls (λd2 n4 dy w4 hX=>hN _ _ ?_)
  case calls=>
   have hb:RowKit.Below w3.heap.size (on w3 t d) ((on w3 t d).alloc (aG #[.pointer (M ⟨kb,0,Z⟩)] 93)):=(RowKit.Below.refl _ (on w3 t d)).alloc jE _;have dt:TS (on w3 t d) kb nb c aq (us++[(p.1.id,p.1.time,v3)]) (dlx dl us.length p.1) an az (ws++I) br ay cnt ep sq:=bv.heap rfl;refine(Hm.Eh kb w3.heap.size c aq _ _ nb an az ⟨_,cnt,ep,sq⟩ _ pl _ bd aA a5 (dt.d.below hb) (Boxed.new _ _ _) aC ((ae.heap (w':=on w3 t d) rfl).below hb) (λq hq=>⟨Hm.Row.below (Hm.Row.heap (w':=on w3 t d) (ak q hq).1 rfl) hb,Hm.Row.below (Hm.Row.heap (w':=on w3 t d) (ak q hq).2 rfl) hb⟩) ah).mono ?_;rintro e W' ⟨J,aw,a',a3,rfl,q1,q2,q3,q4,q5,q6,q7,q8,q9⟩;refine⟨a',_,a3,rfl,J,aw,rfl,q1,q2,q3,q4,q5,?_,λg hg=>(q7 g hg).imp id (λq=>bH hb.size q),q8,q9.mono hb.size jE⟩;exact((Hm.jO.below hb jE _).trans q6 (λ_ _ e=>e)).h.heaps rfl rfl
  obtain⟨J,aw,dd,bu,b2,ba,a9,a6,bg,ce,bk,bs⟩:=hX;subst dd;have b3:=av.drawn hc af aj bu;have a1:=λg=>bH (Nat.add_le_add_left (Hm.QZ c (us++[(p.1.id,p.1.time,v3)]) (Hm.jM ⟨ws++I,cnt,ep,sq⟩ J).ws (Hm.jM ⟨ws++I,cnt,ep,sq⟩ J).cnt (Hm.jM ⟨ws++I,cnt,ep,sq⟩ J).ep g).1 _) (Hm.Z9 bu.1 g)
  have ao:Hm.kH w0.heap.size w4.heap.size (Hm.lv (pl++aw)++(Hm.jK c (us++[(p.1.id,p.1.time,v3)]) (Hm.jM ⟨ws++I,cnt,ep,sq⟩ J).ws (Hm.jM ⟨ws++I,cnt,ep,sq⟩ J).cnt (Hm.jM ⟨ws++I,cnt,ep,sq⟩ J).ep).2.map lr):=by
   refine Hm.kH.drawn (us:=(ws++I).map lr) ?_ bs (λg=>by rw[bk];exact a1 g) (by have:=ag.size;omega) bg.size;rw[bJ,<-fM];exact E.own.append b1 s2 ag.size
  clear a1;unfold Hm.DEn at a6;generalize b5:(Hm.uy.mk (Hm.jK c (us++[(p.1.id,p.1.time,v3)]) (Hm.jM ⟨ws++I,cnt,ep,sq⟩ J).ws (Hm.jM ⟨ws++I,cnt,ep,sq⟩ J).cnt (Hm.jM ⟨ws++I,cnt,ep,sq⟩ J).ep).2 (Hm.jM ⟨ws++I,cnt,ep,sq⟩ J).cnt (Hm.jM ⟨ws++I,cnt,ep,sq⟩ J).ep (Hm.jM ⟨ws++I,cnt,ep,sq⟩ J).sq)=s4 at a6 b3;replace ao:Hm.kH w0.heap.size w4.heap.size (Hm.lv (pl++aw)++s4.ws.map lr):=by rw[<-b5];exact ao
  clear b5;obtain⟨b8,ct,bw⟩:=a6;refine Wq.inBlock (Wq.walk λt d Q hN _=>Hm.abL j _ aA (hN _ _ (Wq.same (y:=w4) (λ_ _=>rfl) (Wq.inLoop ?_))));have a4:=E.vlow;have di:=TS.drawn bv ct ae bg (λe=>by have:=a4 _ e;omega);have s3:=ag.size;refine ih _ aA D3 w4 _ kb nb aq _ _ an b8 _ br ay _ _ _ _ _ ⟨di,?_,ba,a9,aA,bh,a5,λq hq=>?_,λg hg=>?_,?_,ao⟩ ⟨rfl,rfl,rfl,rfl,rfl,rfl,rfl,rfl⟩
  .rw[bJ,b2];exact b3
  .obtain e|e|e|e:=hq
   .exact Y q (.inl e)
   .exact Y q (.inr (.inl e))
   .exact Y q (.inr (.inr (.inl (bw q e))))
   .exact Y q (.inr (.inr (.inr e)))
  .grind
  .refine(E.jR.trans ag (λq hq e=>?_)).trans bg (λq hq e=>?_)
   .have:=E.low q e;omega
   .obtain(e|e)|e:=e
    .have:=Y q (.inl e);omega
    .have:=Y q (.inr (.inr (.inl e)));omega
    .have:=a4 q e;omega
end
structure rD(w:U):Prop where
 hd:kG w
 ty:∃hc t fz,w.heap[1]? =M (aG hc t fz)/\t≠137/\t≠150/\t≠139/\t≠197/\t≠201
theorem rD.kept(h:rD w)(q:kF (λ_=>False) w w'):rD w':=⟨Hm.mG h.hd q (λe=>e),by rw[q.block _ h.hd.pos (λe=>e)];exact h.ty⟩
section
variable {Post:Ir}{D:Nat->Prop}{XX A:List cU}{w:U}{c:Cf}{ps:List PU}{xa:Option Addr}{vc:Nat}
theorem abn(rd:Cr.ReadW){a₀:Act}{o:lR}(ho:ops[i]? =M o)(hw:Region.wanted o (yielded ops a₀.tmps)=bB)(a4:o.op=.call { callee:=.value (.func 12),args:=#[x,y],argTypes:=ats })(ex:a₀.eval x=.agg (jL c))(ey:a₀.eval y=.slice xa ps.length vc)(a1:Tryz.prog.globals.size<=w.heap.size)(af:nK w (.slice xa ps.length vc) ps)(aw:ps.length<=4294967296)(hH:rD w)(aa:∀D' w' va (pl:List Hm.PL),Hm.Row w' 62 8 va pl.length (pl.flatMap kM)->(∀p,p∈pl->kX w' p.2.1 p.1.txs/\kX w' p.2.2 p.1.deps)->pl.map cG=(Dv.all c (ps.map cG)).2->kF (λ_=>False) w w'->Hm.kH w.heap.size w'.heap.size (Hm.lv pl)->(∀g,va.ownBlock=M g->w.heap.size<=g)->Wq D' Post XX (b₀.at (a₀.put o.dst (dC #[va,N X (Dv.all c (ps.map cG)).1])) (cD ops rest::k)) A w'):Wq D Post XX (b₀.at a₀ (cD ops (i::rest)::k)) A w:=by
 refine Wq.call ho hw a4 (fq Tryz.func12 rfl) rfl Hm.Yy ?_;simp only[fQ,eP,fP,ex,ey,show Tryz.f12.ntmps=33 from rfl,dR,aU,bY,Nat.reduceAdd,Nat.reduceSub,dH,dG,dU,dI,dS,dN]
 have bad:∀(a':Act)(w':U)(todo:List rR)(er:Int),a'.defers=[]->a'.tmps[4]? =M (aR Z 0 0)->a'.tmps[5]? =M (N X er)->kF (λ_=>False) w w'->Dv.all c (ps.map cG)=(er,[])->Wq D Post XX { (base 12).at a' todo with mode:=.returning } (b₀.at a₀ (cD ops (i::rest)::k)::A) w':=by
  intro a' w' todo er h0 h4 h5 a2 E;refine Wq.leave (v:=.tuple _) (fn:=Tryz.f12) rfl h0 rfl (fq Tryz.func12 rfl) (Rw h4 h5) ?_;rw[fO,ho];have:=aa D w' _ [] (Hm.Row.nil _ _ _) (λp hp=>by simp at hp) (by rw[E];rfl) a2 (Hm.kH.nil _ _) (λg hg=>by cases hg);rw[E]at this;exact this
 refine Wq.seq (Wq.walk λt d Q hN _=>Hm.aee c _ (hN _ _ (Wq.same (y:=w.alloc (aG (jL c) 24)) (λ_ _=>rfl) ?_)));obtain⟨w1,ao,-,ak⟩:=jI w (jL c) 24;have ac:kF (λ_=>False) w w1:=zn (by rw[ao]);have cf:∀{v:U},kF (λ_=>False) w1 v->v.heap[w.heap.size]? =M (aG (jL c) 24 (0,0)):=λh=>(h.block _ (jG ak) (λe=>e)).trans ak;have bel:∀{u v:U} {t d},RowKit.Below u.heap.size (on u t d) v->kF (λ_=>False) u v:=λh=>((Hm.jO.below h jE _).h).heaps rfl rfl;rw[<-ao];refine Wq.seq ?_;have I:=λt d=>yR (w:=on w1 t d) ak;cases J:Dv.jP c with
 |false=>exact Wq.walk λt d Q _ hR=>Hm.QJ c _ _ (I t d 0) (I t d 1) (I t d 2) (I t d 3) (I t d 4) (I t d 5) (I t d 6) J (λw2 ai=>hR _ _ λtodo=>bad _ w2 todo 1 rfl rfl rfl (ac.trans (bel (u:=w1) ai) (λ_ _ e=>e)) (by unfold Dv.all;rw[J];rfl))
 |true=>
  refine Wq.walk λt d Q hN _=>Hm.adg c _ _ (I t d 0) (I t d 1) (I t d 2) (I t d 3) (I t d 4) (I t d 5) (I t d 6) J (λw2 ai=>hN _ _ ?_);have ah:kF (λ_=>False) w1 w2:=bel ai;have ae:=Dh af (ac.trans ah (λ_ _ e=>e));refine Wq.seq ?_;cases ab:Dv.jY (ps.map cG)with
  |false=>exact Wq.walk λt d Q _ hR=>Hm.OJ xa _ vc ps _ (Ll ae rfl) aw ab (λw3 aj=>hR _ _ λtodo=>bad _ w3 todo 2 rfl rfl rfl ((ac.trans ah (λ_ _ e=>e)).trans (bel (u:=w2) aj) (λ_ _ e=>e)) (by unfold Dv.all;rw[J,ab];rfl))
  |true=>
   refine Wq.walk λt d Q hN _=>Hm.aeg xa _ vc ps _ (Ll ae rfl) aw ab (λw3 aj=>hN _ _ ?_);have av:=ah.trans (bel (u:=w2) aj) (λ_ _ e=>e);have b3:=cf av;have k3:=λt d=>yR (w:=on w3 t d) b3;refine Wq.seq (Wq.walk λt d Q hN _=>Hm.ada _ (hN _ _ (Wq.same (y:=w3) (λ_ _=>rfl) (Wq.seq ?_))));refine Wq.walk λt d Q hN _=>Hm.adr c _ _ (k3 t d 0) (k3 t d 1) (k3 t d 2) (k3 t d 3) (k3 t d 4) (k3 t d 5) (k3 t d 6) (λw4 ay=>hN _ _ ?_);have ag:w4.heap=(((w3.alloc (aG (jL c) 24)).alloc (.map #[] 0)).alloc (aG (jT c (aR Z 0 0) (w3.heap.size+1) (aR Z 0 0) (aR Z 0 0) 0 0 0) 137)).heap:=by rw[ay];rfl
   have Y:=ac.trans av (λ_ _ e=>e);have s3:=Y.size;have ap:=hH.kept Y;have a3:=aeh c ap.hd ap.ty ag
   have au:kF (λ_=>False) w3 w4:=⟨by rw[ag];simp;omega,λj hj _=>by
    rw[ag,fV _ _ _ aF,fV _ _ _ aF,fV _ _ _ hj]⟩
   refine Wq.seq (Wq.seq (Wq.walk λt d Q hN _=>Hm.acZ xa _ vc _ (hN _ _ (Wq.same (y:=w4) (λ_ _=>rfl) (Wq.block (Wq.loop ?_))))))
   refine MP rd ho ab J a1 af ?_ ps.length 0 aA D w4 _ _ _ _ [] _ _ _ [] [] [] 0 0 0 _ [] ⟨a3,Hm.RM.start _ _ _,Hm.Row.nil _ _ _,λp hp=>by simp at hp,aC,λx hx=>by simp[lives]at hx,λi=>aC,λq hq=>by
     obtain e|e|e|e|e|⟨x,hx,_⟩:=hq
     .omega
     .cases e
     .cases e
     .omega
     .cases e
     .simp at hx,λg hg=>(by cases hg),Y.trans au (λ_ _ e=>e),Hm.kH.nil _ _⟩ ⟨rfl,rfl,rfl,rfl,rfl,rfl,rfl,rfl⟩
   intro D7 w7 va pl ax am ar az aq an
   have E:Dv.all c (ps.map cG)=(0,(Dv.gone c (ps.map cG) ps.length).log):=by
    unfold Dv.all;rw[J,ab,bC];rfl
   have:=aa D7 w7 va pl ax am (by rw[E];exact ar) az aq an;rw[E]at this;exact this
theorem Wi(rd:Cr.ReadW){a₀:Act}{o:lR}(ho:ops[i]? =M o)(hw:Region.wanted o (yielded ops a₀.tmps)=bB)(J:o.op=.call { callee:=.value (.func 12),args:=#[x,y],argTypes:=ats })(ex:a₀.eval x=.agg (jL c))(ey:a₀.eval y=.slice xa ps.length vc)(aa:Tryz.prog.globals.size<=w.heap.size)(E:nK w (.slice xa ps.length vc) ps)(I:ps.length<=4294967296)(hH:rD w)(q:∀Y w' va (pl:List Hm.PL),Hm.Row w' 62 8 va pl.length (pl.flatMap kM)->(∀p,p∈pl->kX w' p.2.1 p.1.txs/\kX w' p.2.2 p.1.deps)->pl.map cG=(Dv.all c (ps.map cG)).2->kF (λ_=>False) w w'->Wq Y Post XX (b₀.at (a₀.put o.dst (dC #[va,N X (Dv.all c (ps.map cG)).1])) (cD ops rest::k)) A w'):Wq D Post XX (b₀.at a₀ (cD ops (i::rest)::k)) A w:=
 abn rd ho hw J ex ey aa E I hH λY w' va pl h1 h2 h3 h4 _ _=>q Y w' va pl h1 h2 h3 h4
end
end
end Pa
namespace Hm
open Go.RowKit Go.Joins Go.Shelf
section
variable {Q:Exit->Act->U->Prop}
noncomputable def SK:im:=match Tryz.f21.body with
 |some (cL c _)=>c
 |_=>.skip
noncomputable def RY:im:=match Tryz.f21.body with
 |some (cL _ (cL c _))=>c
 |_=>.skip
noncomputable def RF:im:=match Tryz.f21.body with
 |some (cL _ (cL _ (cL c _)))=>c
 |_=>.skip
noncomputable def aaJ:im:=match Tryz.f21.body with
 |some (cL _ (cL _ (cL _ c)))=>c
 |_=>.skip
theorem Yc:Tryz.f21.body=M (cL SK (cL RY (cL RF aaJ))):=XN
theorem afa{u0 u1 u4 u5 u6 u7 u8 u9 aj bm ah az bj a4 aa a9 ab af ak br ae ac a3 I bk bl bu J bs a2 bw av am ba bq aw a6 ay bd a7 ap bh a8 bb a5 Y ag ai ar ao E au bz a1 ax bv an bx aq bo bg:aD}(g off cap:Nat)(w:U){xs:List aD}(q:Row w 62 8 (aR (M ⟨g,off,Z⟩) 3 cap) 3 xs)(k1:xs[10]? =M (N X 0))(k2:xs[9]? =M (N X 2))(k3:xs[18]? =M (N X 1))(k4:xs[19]? =M (N X 6))(k5:xs[23]? =M (N X 2))(va:Option Addr)(vc:Nat)(k6:xs[22]? =M (.slice va 1 vc))(hQ:∀tm:Array aD,tm[0]? =M (cF bB)->Q .ret ⟨tm,[]⟩ w):aaJ.wp PQ Q { tmps:=#[u0,u1,aR (M ⟨g,off,Z⟩) 3 cap,N X 0,u4,u5,u6,u7,u8,u9,aj,bm,ah,az,bj,a4,aa,a9,ab,af,ak,br,ae,ac,a3,I,bk,bl,bu,J,bs,a2,bw,av,am,ba,bq,aw,a6,ay,bd,a7,ap,bh,a8,bb,a5,Y,ag,ai,ar,ao,E,au,bz,a1,ax,bv,an,bx,aq,bo,bg],defers:=[] } w:=by
 have c1:=q.cell rfl _ _ k1;have c2:=q.cell rfl _ _ k2;have c3:=q.cell rfl _ _ k3;have c4:=q.cell rfl _ _ k4;have c5:=q.cell rfl _ _ k5;have c6:=q.cell rfl _ _ k6;have HQ:Hid _:=hQ;clear hQ q k1 k2 k3 k4 k5 k6;simp only[aaJ,Tryz.f21];go_wp2_with fail;exact HQ _ rfl
theorem adl(w:U)(q:Q .normal { tmps:=#[cF aL,aE,aE,aE,aE,aE,aE,aE,aE,aE,aE,aE,aE,aE,aE,aE,aE,aE,aE,aE,aE,aE,aE,aE,aE,aE,aE,aE,aE,aE,aE,aE,aE,aE,aE,aE,aE,aE,aE,aE,aE,aE,aE,aE,aE,aE,aE,aE,aE,aE,aE,aE,aE,aE,aE,aE,aE,aE,aE,aE,aE,aE,aE],defers:=[] } w):SK.wp PQ Q { tmps:=#[aE,aE,aE,aE,aE,aE,aE,aE,aE,aE,aE,aE,aE,aE,aE,aE,aE,aE,aE,aE,aE,aE,aE,aE,aE,aE,aE,aE,aE,aE,aE,aE,aE,aE,aE,aE,aE,aE,aE,aE,aE,aE,aE,aE,aE,aE,aE,aE,aE,aE,aE,aE,aE,aE,aE,aE,aE,aE,aE,aE,aE,aE,aE],defers:=[] } w:=by simp only[SK,Tryz.f21];go_wp2_with fail;exact q
theorem adS(w:U)(q:Q .normal { tmps:=#[cF aL,.pointer (M ⟨w.heap.size,0,Z⟩),aE,aE,gP #[N .u32 0,N .u32 0,N X 1,N X 1,N X 100,N X 2,N X 100],aE,aE,aE,aE,aE,aE,aE,aE,aE,aE,aE,aE,aE,aE,aE,aE,aE,aE,aE,aE,aE,aE,aE,aE,aE,aE,aE,aE,aE,aE,aE,aE,aE,aE,aE,aE,aE,aE,aE,aE,aE,aE,aE,aE,aE,aE,aE,aE,aE,aE,aE,aE,aE,aE,aE,aE,aE,aE],defers:=[] } (w.alloc (aG #[N .u32 0,N .u32 0,N X 1,N X 1,N X 100,N X 2,N X 100] 24))):RY.wp PQ Q { tmps:=#[cF aL,aE,aE,aE,aE,aE,aE,aE,aE,aE,aE,aE,aE,aE,aE,aE,aE,aE,aE,aE,aE,aE,aE,aE,aE,aE,aE,aE,aE,aE,aE,aE,aE,aE,aE,aE,aE,aE,aE,aE,aE,aE,aE,aE,aE,aE,aE,aE,aE,aE,aE,aE,aE,aE,aE,aE,aE,aE,aE,aE,aE,aE,aE],defers:=[] } w:=by simp only[RY,Tryz.f21];go_wp2_with fail;exact q
end
end Hm
namespace Pa
open Go Go.Conc Go.RowKit Go.Joins
open Hm (ptr kC jL kF pR nK PU kM kX SK RY RF aaJ)
open Dv (X2 Cf)
open Po hiding X2 H B IT PR NB
section
def Zk:Cf:={ inbox:=0,batcher:=0,timeout:=1,window:=1,drift:=100,step:=2,most:=100 }
def UO:List UInt8:=[194,7,128]
def afE:List X2:=[⟨5,0,[],[]⟩,⟨6,3,[],[UO]⟩,⟨7,6,[],[]⟩]
def WC:List Dv.Lo:=[⟨0,0,0,5,0,[],[],0⟩,⟨1,2,0,5,1,[],[],2⟩,⟨2,4,1,6,0,[],[UO],2⟩]
def abN:Dv.all Zk afE=(0,WC):=XN
noncomputable def opsL:Array lR:=match RF with
 |.region _ ops _=>ops
 |_=>#[]
def Yw:∃q,RF=.region q opsL aL:=⟨_,rfl⟩
def QV:List.range opsL.size=[0,1,2,3,4,5,6,7,8,9,10,11]:=XN
def Rt{t:cH}{n:Nat}{z:aD}(h:(PQ.info? t).map (λi=>(i.size,i.zero))=M (n,M z)):∃q,PQ.info? t=M q/\q.size=n/\q.zero=M z:=by
 cases E:PQ.info? t with
 |none=>rw[E]at h;cases h
 |some q=>
  grind
def O7:∃q,PQ.info? 42=M q/\q.size=4/\q.zero=M (gP #[N X 0,N X 0,aR Z 0 0,aR Z 0 0]):=Rt XN
def Oz:∃q,PQ.info? 9=M q/\q.size=1/\q.zero=M (aH ⟨#[]⟩):=Rt XN
def bl7(w:U):(Instr.build 42 #[(0,N X 5)]).run PQ w=.ok (gP #[N X 5,N X 0,aR Z 0 0,aR Z 0 0]) w:=run_build w _ _ _ XN
def bl9(w:U)(n:Nat):(Instr.build 42 #[(0,N X 6),(1,N X 3),(3,aR (M ⟨n,0,Z⟩) 1 1)]).run PQ w=.ok (gP #[N X 6,N X 3,aR Z 0 0,aR (M ⟨n,0,Z⟩) 1 1]) w:=run_build w _ _ _ XN
def agl(w:U):(Instr.build 42 #[(0,N X 7),(1,N X 6)]).run PQ w=.ok (gP #[N X 7,N X 6,aR Z 0 0,aR Z 0 0]) w:=run_build w _ _ _ XN
def J4(n:Nat):Array aD:=#[N X 5,N X 0,aR Z 0 0,aR Z 0 0,N X 6,N X 3,aR Z 0 0,aR (M ⟨n,0,Z⟩) 1 1,N X 7,N X 6,aR Z 0 0,aR Z 0 0]
def bs8(w:U):(Instr.buildSlice 40 1 #[(0,aH ⟨#[194,7,128]⟩)]).run PQ w=.ok (aR (M ⟨w.heap.size,0,Z⟩) 1 1) (w.alloc (aG #[aH ⟨#[194,7,128]⟩] 9)):=by obtain⟨q,E,h2,h3⟩:=Oz;exact run_buildSlice w _ _ 1 _ _ q _ (uq Tryz.underlying40) E h3 (by rw[h2];decide) (by rw[h2];decide) (by rw[h2];kernel_rfl)
def agp(w:U)(n:Nat):(Instr.buildSlice 25 3 #[(0,gP #[N X 5,N X 0,aR Z 0 0,aR Z 0 0]),(1,gP #[N X 6,N X 3,aR Z 0 0,aR (M ⟨n,0,Z⟩) 1 1]),(2,gP #[N X 7,N X 6,aR Z 0 0,aR Z 0 0])]).run PQ w=.ok (aR (M ⟨w.heap.size,0,Z⟩) 3 3) (w.alloc (aG (J4 n) 42)):=by obtain⟨q,E,h2,h3⟩:=O7;exact run_buildSlice w _ _ 3 _ _ q _ (uq Tryz.underlying25) E h3 (by rw[h2];decide) (by rw[h2];decide) (by rw[h2];kernel_rfl)
def lv(n:Nat):aD:=aR (M ⟨n,0,Z⟩) 1 1
def LX(n:Nat):List PU:=[(⟨5,0,[],[]⟩,aR Z 0 0,aR Z 0 0),(⟨6,3,[],[UO]⟩,aR Z 0 0,lv n),(⟨7,6,[],[]⟩,aR Z 0 0,aR Z 0 0)]
def VX(n:Nat):(LX n).map cG=afE:=rfl
def CU(w:U)(s:Nat):Hm.Rd w s (aR Z 0 0) 0 []:=⟨aC,Z,0,rfl,jE,λh=>Xs h aA⟩
def aaq{w:U}{n m:Nat}(E:w.heap[n]? =M (aG #[aH ⟨#[194,7,128]⟩] 9 (0,0)))(h2:w.heap[m]? =M (aG (J4 n) 42 (0,0))):nK w (aR (M ⟨m,0,Z⟩) (LX n).length 3) (LX n):=by
 have I:pR w ⟨5,0,[],[]⟩ (aR Z 0 0) (aR Z 0 0):=⟨CU w 3,CU w 1,aC,aC⟩
 have Y:pR w ⟨7,6,[],[]⟩ (aR Z 0 0) (aR Z 0 0):=⟨CU w 3,CU w 1,aC,aC⟩
 have J:pR w ⟨6,3,[],[UO]⟩ (aR Z 0 0) (lv n):=by
  refine⟨CU w 3,⟨rfl,_,1,rfl,jE,λ_=>⟨n,0,rfl,(jG E),λj u q=>?_⟩⟩,aC,aC⟩;rw[aI E,fJ]
  match j,q with
  |0,q=>exact q
  |j+1,q=>simp[UO]at q
 refine⟨⟨rfl,_,3,rfl,jE,λ_=>⟨m,0,rfl,(jG h2),λj u q=>?_⟩⟩,λp hp=>?_⟩
 .rw[aI h2,fJ];have:(LX n).flatMap Hm.mO=(J4 n).toList:=rfl;rw[this,Array.getElem?_toList]at q;exact q
 .simp only[LX,dD,List.not_mem_nil,or_false]at hp;obtain rfl|rfl|rfl:=hp
  .exact I
  .exact J
  .exact Y
section
variable {Post:Ir}{D:Nat->Prop}{XX A:List cU}{w:U}
theorem Zt(rd:Cr.ReadW){b₀:cU}{a₀:Act}{ops:Array lR}{i:Nat}{rest:List Nat}{k:List rR}{o:lR}{an:Array cH}(ho:ops[i]? =M o)(hw:Region.wanted o (yielded ops a₀.tmps)=bB)(ao:o.op=.call { callee:=.value (.func 21),args:=#[],argTypes:=an })(aq:Tryz.prog.globals.size<=w.heap.size)(hH:rD w)(J:∀D' w',kF (λ_=>False) w w'->Wq D' Post XX (b₀.at (a₀.put o.dst (cF bB)) (cD ops rest::k)) A w'):Wq D Post XX (b₀.at a₀ (cD ops (i::rest)::k)) A w:=by
 refine Wq.call ho hw ao (fq Tryz.func21 rfl) rfl Hm.Yc ?_;simp only[fQ,fP,show Tryz.f21.ntmps=63 from rfl,dR,bY,Nat.sub_zero,dH,dG,dU,dI,dS,dN];refine Wq.seq (Wq.walk λt d Q hN _=>Hm.adl _ (hN _ _ (Wq.same (y:=w) (λ_ _=>rfl) ?_)));refine Wq.seq (Wq.walk λt d Q hN _=>Hm.adS _ (hN _ _ (Wq.same (y:=w.alloc (aG (jL Zk) 24)) (λ_ _=>rfl) (Wq.seq ?_))));rw[show(on w t d).heap.size=w.heap.size from rfl];obtain⟨w2,ac,-,hb⟩:=jI w (jL Zk) 24;have ai:kF (λ_=>False) w w2:=zn (by rw[ac]);rw[<-ac];obtain⟨ar,ae⟩:=Yw;rw[ae];refine Wq.region ?_;rw[QV]
 refine Wq.CG (.load 24 (eC 1)) (M 6) (.agg (jL Zk)) w2 rfl (λt d o h=>by
  have c:=yR (w:=on w2 t d) hb;have k0:=c 0;have k1:=c 1;have k2:=c 2;have k3:=c 3;have k4:=c 4;have k5:=c 5;have k6:=c 6;unfold bL;simp only[h];simp[go_sem,lL,k0,k1,k2,k3,k4,k5,k6,jL]) ?_
 refine Wq.CG (.build 42 _) (M 7) (gP #[N X 5,N X 0,aR Z 0 0,aR Z 0 0]) w2 rfl (λt d o h=>by
  unfold bL;simp only[h,fQ,eP,fP,lL,iZ,bl7,iy];rfl) ?_
 obtain⟨n,hn⟩:∃n,n=w2.heap.size:=⟨_,rfl⟩
 obtain⟨w3,Y⟩:∃w3,w3=w2.alloc (aG #[aH ⟨#[194,7,128]⟩] 9):=⟨_,rfl⟩
 refine Wq.CG (.buildSlice 40 1 _) (M 8) (lv n) w3 rfl (λt d o h=>by
  unfold bL;simp only[h,fQ,eP,fP,lL,iZ,bs8,iy];rw[Y,hn];rfl) ?_
 have aj:kF (λ_=>False) w2 w3:=zn (by rw[Y]);have n3:w3.heap[n]? =M (aG #[aH ⟨#[194,7,128]⟩] 9 (0,0)):=by rw[Y,hn];exact cX _ _
 simp only[iv,bQ,dP,dO]
 refine Wq.CG (.build 42 #[(0,.const _),(1,.const _),(3,eC 8)]) (M 9) (gP #[N X 6,N X 3,aR Z 0 0,aR (M ⟨n,0,Z⟩) 1 1]) w3 rfl (λt d o h=>by
  unfold bL;simp only[h,fQ,eP,fP,lL,fD,eX,eU,dX,fH,lv,iZ,bl9,iy];rfl) ?_
 refine Wq.CG (.build 42 _) (M 10) (gP #[N X 7,N X 6,aR Z 0 0,aR Z 0 0]) w3 rfl (λt d o h=>by
  unfold bL;simp only[h,fQ,eP,fP,lL,iZ,agl,iy];rfl) ?_
 simp only[iv,bQ,dP,dO];obtain⟨w4,aa,-,m4⟩:=jI w3 (J4 n) 42
 refine Wq.CG (.buildSlice 25 3 #[(0,eC 7),(1,eC 9),(2,eC 10)]) (M 11) (aR (M ⟨w3.heap.size,0,Z⟩) (LX n).length 3) w4 rfl (λt d o h=>by
  unfold bL;simp only[h,fQ,eP,fP,lL,fD,eX,eU,dX,fH,iZ,agp,iy];rw[aa];rfl) ?_
 have ag:kF (λ_=>False) w3 w4:=zn (by rw[aa]);have n4:=(ag.block _ (jG n3) (λe=>e)).trans n3;have q:=(ai.trans aj (λ_ _ e=>e)).trans ag (λ_ _ e=>e);have s4:=q.size;simp only[iv,bQ,dP,dO];obtain⟨x6,ho6,ak,ah,am⟩:∃o,opsL[6]? =M o/\o.op=.call { callee:=.value (.func 12),args:=#[eC 6,eC 11],argTypes:=#[24,25] }/\o.dst=M 12/\o.guard=Z:=⟨_,rfl,rfl,rfl,rfl⟩
 refine Wi rd (c:=Zk) (ps:=LX n) ho6 (Cr.kR am) ak rfl rfl aA (aaq n4 m4) (by simp[LX]) (hH.kept q) ?_;intro D5 w5 va pl I ab E ap;rw[VX,abN]at E⊢;rw[ah];simp only[iv,bQ,dP,dO];refine Wq.CG (.move (eC 12)) (M 5) (dC #[va,N X 0]) w5 rfl (λt d o h=>by unfold bL;simp only[h];rfl) ?_;simp only[iv,bQ,dP,dO];refine Wq.CG (.extract (eC 5) 0) (M 13) va w5 rfl (λt d o h=>by unfold bL;simp only[h];rfl) ?_;simp only[iv,bQ,dP,dO];refine Wq.CG (.extract (eC 5) 1) (M 14) (N X 0) w5 rfl (λt d o h=>by unfold bL;simp only[h];rfl) ?_;simp only[iv,bQ,dP,dO];refine Wq.CG (.assign (eC 13)) (M 2) va w5 rfl (λt d o h=>by unfold bL;simp only[h];rfl) ?_;simp only[iv,bQ,dP,dO];refine Wq.CG (.assign (eC 14)) (M 3) (N X 0) w5 rfl (λt d o h=>by unfold bL;simp only[h];rfl) ?_;simp only[iv,bQ,dP,dO];refine Wq.done ?_
 obtain⟨p0,p1,p2,rfl,e0,e1,e2⟩:∃p0 p1 p2,pl=[p0,p1,p2]/\p0.1=(⟨0,0,0,5,0,[],[],0⟩:Dv.Lo)/\p1.1=(⟨1,2,0,5,1,[],[],2⟩:Dv.Lo)/\p2.1=(⟨2,4,1,6,0,[],[UO],2⟩:Dv.Lo):=by
  match pl,E with
  |[],h=>cases h
  |[_],h=>simp[WC]at h
  |[_,_],h=>simp[WC]at h
  |[p0,p1,p2],h=>
   simp only[eP,fP,WC,List.cons.injEq,and_true]at h;exact⟨p0,p1,p2,rfl,h.1,h.2.1,h.2.2⟩
  |_::_::_::_::_,h=>simp[WC]at h
 obtain⟨g,off,cap,rfl,_⟩:=I.pos aC;obtain⟨sa,sc,af⟩:=(ab p2 aC).2.slice;rw[e2]at af;refine Wq.walk λt d Q _ hR=>Hm.afa g off cap _ (I.kept λ_ _=>rfl) ?_ ?_ ?_ ?_ ?_ sa sc ?_ (λtm h=>hR _ _ λtodo=>?_)
 .simp[kM,e1]
 .simp[kM,e1]
 .simp[kM,e2]
 .simp[kM,e2]
 .simp[kM,e2]
 .simp[kM,af]
 refine Wq.leave (v:=cF bB) (fn:=Tryz.f21) rfl rfl rfl (fq Tryz.func21 rfl) (λw=>by
  have:=h;simp[results,Tryz.results21,go_sem,Frame.at,this]) ?_
 rw[fO,ho];exact Wq.same (y:=w5) (λ_ _=>rfl) (J D5 w5 (q.trans ap (λ_ _ e=>e)))
end
end
end Pa
namespace Po
open Go Go.Conc
section
def Xq:im->Array lR
 |.region _ ops _=>ops
 |_=>#[]
section
variable {D:Nat->Prop}{Post:Ir}{XX A:List cU}{x:U}{b:cU}{a:Act}{k:List rR}{C:im}{n:Nat}
theorem Wq.reg(E:∃q,C=.region q (Xq C) aL)(I:(Xq C).size=n)(h:Wq D Post XX (b.at a (cD (Xq C) (List.range n)::k)) A x):Wq D Post XX (b.at a (.code C::k)) A x:=by obtain⟨q,e⟩:=E;rw[e];exact Wq.region (by rw[I];exact h)
end
section
variable {tm:Array aD}{s:Nat}{v u:aD}{w:U}
theorem G5{tm:Array aD}{s:Nat}{v:aD}(h:tm[s]? =M v):(Act.mk tm []).eval (eC s)=v:=by simp[lL,h]
theorem mv(h:tm[s]? =M v):∀t d (o:lR),o.op=.move (eC s)->(bL (Act.mk tm []).eval o).run PQ (on w t d)=.ok (.value v) (on w t d):=λt d o q=>by unfold bL;simp only[q,G5 h];rfl
theorem asg(h:tm[s]? =M v):∀t d (o:lR),o.op=.assign (eC s)->(bL (Act.mk tm []).eval o).run PQ (on w t d)=.ok (.value v) (on w t d):=λt d o q=>by unfold bL;simp only[q,G5 h];rfl
theorem xt{l:Array aD}{i:Nat}(h:tm[s]? =M (.tuple l))(E:l[i]? =M u):∀t d (o:lR),o.op=.extract (eC s) i->(bL (Act.mk tm []).eval o).run PQ (on w t d)=.ok (.value u) (on w t d):=λt d o q=>by unfold bL;simp only[q,G5 h];simp[go_sem,E]
end
end
end Po
namespace Hm
open Go.RowKit
def jX{n:Nat}{tm:Array aD}(h:tm.size=n):∃l:List aD,tm=l.toArray/\l.length=n:=⟨tm.toList,aC,by simpa using h⟩
def jW{l:List aD}{n:Nat}(h:l.length=n+1):∃a m,l=a::m/\m.length=n:=by
 cases l with
 |nil=>simp at h
 |cons a m=>exact⟨a,m,rfl,by simpa using h⟩
def cq:List Nat->im->im
 |[],c=>c
 |0::l,cL a _=>cq l a
 |1::l,cL _ b=>cq l b
 |2::l,.cond _ a _=>cq l a
 |3::l,.cond _ _ b=>cq l b
 |4::l,.block _ c=>cq l c
 |5::l,.loop c=>cq l c
 |_,c=>c
def Ee{p:Nat->Prop}(h:∃k,p k):∃k,p k/\∀j,p j->k<=j:=by
 obtain⟨k,hk⟩:=h
 induction k using Nat.strongRecOn with
 |_ k ih=>
  by_cases h:∃j,j<k/\p j
  .obtain⟨j,q,hp⟩:=h;exact ih j q hp
  .exact⟨k,hk,λj q=>Nat.not_lt.1 λE=>h ⟨j,E,q⟩⟩
def DT{P:Program}{c:im}{a:Act}{w:U}{Q:Exit->Act->U->Prop}(I:Nat->Act->U->Prop)(E:∃k,I k a w)(q:∀k a w,I k a w->c.wp P (Exit.then (λa' w'=>∃k',k'<k/\I k' a' w') Q) a w):(Code.loop c).wp P Q a w:=by
 classical
 refine wp_loop (λa w=>∃k,I k a w) (λa w=>if h:∃k,I k a w then(Ee h).choose else 0) E λa w h=>?_;refine wp_mono (q _ a w (Ee h).choose_spec.1) λe a' w' Y=>?_;cases e with
 |normal=>
  obtain⟨k',hk,J⟩:=Y;refine⟨⟨k',J⟩,?_⟩;rw[dif_pos ⟨k',J⟩,dif_pos h];exact Nat.lt_of_le_of_lt ((Ee ⟨k',J⟩).choose_spec.2 _ J) hk
 |_=>exact Y
open Go.RowKit Go.Joins Go.Shelf
open Fr (below_drewN)
def pk(c n:Int):Int:=(if c<0 then -(c+1)else c).tmod n
def sU{c n:Int}(E:0<n):0<=pk c n/\pk c n<n:=by
 unfold pk;have q:0<=(if c<0 then -(c+1)else c):=by split<;>omega
 exact⟨Int.tmod_nonneg _ q,Int.tmod_lt_of_pos _ E⟩
def pick_any(c n:Int)(w:U)(Y:0<n)(J:n<=9223372036854775807)(ab:-9223372036854775808<=c)(I:c<=9223372036854775807):Calls PQ 22 #[N X c,N X n] w λe w'=>e=.returned (N X (pk c n))/\w'=w:=by
 have hp:=sU (c:=c) Y;have aa:(n == 0)=aL:=ZS aA;have E:n≠0:=aA
 obtain⟨r,q⟩:∃r,pk c n=r:=⟨_,rfl⟩
 rw[q]at hp⊢;have hw:IntKind.i64.wrap r=r:=by rw[cP];omega
 by_cases h:c<0
 .have h1:IntKind.i64.wrap (c+1)=c+1:=by rw[cP];omega
  have h2:IntKind.i64.wrap (-(c+1))=-(c+1):=by rw[cP];omega
  have h3:(-(c+1)).tmod n=r:=by rw[<-q,pk,ZD h]
  go_enter (fq Tryz.func22 rfl),Tryz.ntmps22;go_wp2_with fail;go_ret;exact⟨rfl,rfl⟩
 .have h3:c.tmod n=r:=by rw[<-q,pk,Zs h]
  go_enter (fq Tryz.func22 rfl),Tryz.ntmps22;go_wp2_with fail;go_ret;exact⟨rfl,rfl⟩
def pV(l:List Int)(i:Nat):Int:=l.getD (i%l.length) 0
def Pq(v:aD)(l:List Int)(i:Nat)(w:U)(h:Rd w 1 v l.length (l.map (N X)))(hl:l.length<=4294967296):Calls PQ 24 #[v,N X i] w λe w'=>e=.returned (N X (pV l i))/\w'=w:=by
 obtain⟨a,cap,rfl⟩:=h.slice;obtain⟨n,J⟩:∃n,l.length=n:=⟨_,rfl⟩
 by_cases h0:n=0
 .have E:pV l i=0:=by
   have:l=[]:=bP aA;rw[this];simp[pV]
  rw[E,J,h0];clear h;go_enter (fq Tryz.func24 rfl),Tryz.ntmps24;go_wp2_with fail;go_ret;exact⟨rfl,rfl⟩
 .obtain⟨g,off,aa,e,_,_,hx⟩:=h.pos aA;simp only[Value.slice.injEq,true_and]at e;obtain⟨rfl,rfl⟩:=e;have I:i%n<n:=Nat.mod_lt _ aA
  have E:l[i%n]? =M (pV l i):=by
   unfold pV;rw[J,aY,aO aA];rfl
  have k0:w.cell? ⟨g,off+i%n,Z⟩=M (N X (pV l i)):=hx _ _ (by rw[fE,E];rfl);obtain⟨r,q⟩:∃r,pV l i=r:=⟨_,rfl⟩
  rw[q]at k0⊢;obtain⟨j,Y⟩:∃j,i%n=j:=⟨_,rfl⟩
  rw[Y]at k0 I;have hm:(i:Int).tmod (n:Int)=j:=by rw[<-Y];simp[Int.tmod_eq_emod_of_nonneg]
  have hw:IntKind.i64.wrap (j:Int)=j:=by rw[cP];omega
  have ae:((n:Int) == 0)=aL:=ZS aA;have ac:(n:Int)≠0:=aA
  have ab:(j:Int)<n:=aA
  rw[J];clear h hx E Y q;go_enter (fq Tryz.func24 rfl),Tryz.ntmps24;go_wp2_with fail;go_ret;exact⟨rfl,rfl⟩
end Hm
