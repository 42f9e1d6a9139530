import Derived.Test.YtpibpdpedjinhaaGreatDoorP33
set_option maxRecDepth 100000
set_option maxHeartbeats 8000000
set_option linter.unusedSimpArgs false
namespace Go.Proofs.YtpibpdpedjinhaaGreatDoor
namespace Pa
open Go Go.Conc Go.RowKit Go.Joins
open Hm (ptr jW jG jK TS jZ oC lI AL PC PB PW PU lives Fits jY kM OV Fz Ez Ol OC OT allL Em FD yH yT yJ yh)
open Dv (U Cf Ch)
open Po hiding U H B IT PR NB
section
variable {w w':World}{v:Value}{ps:List PU}{j s n:Nat}{xs:List Value}
theorem Yx{t:Array Value}(h:t.size=33):∃u0 u1 u2 u3 u4 u5 u6 u7 u8 u9 I E af an ak au ag ab ah ao J R aj ai aq Y ar z ae aa ac ap am,t=#[u0,u1,u2,u3,u4,u5,u6,u7,u8,u9,I,E,af,an,ak,au,ag,ab,ah,ao,J,R,aj,ai,aq,Y,ar,z,ae,aa,ac,ap,am]:=by
 obtain⟨l⟩:=t;replace h:l.length=33:=h
 iterate 33 (obtain⟨_,l,rfl,h'⟩:=Hm.E5 h;clear h;have h:=h';clear h')
 obtain rfl:=List.length_eq_zero_iff.1 h;exact⟨_,_,_,_,_,_,_,_,_,_,_,_,_,_,_,_,_,_,_,_,_,_,_,_,_,_,_,_,_,_,_,_,_,rfl⟩
structure SL(a:Act)(v va:Value)(kb n j:Nat):Prop where
 sz:a.tmps.size=33
 df:a.defers=[]
 t1:a.tmps[1]? =some v
 t6:a.tmps[6]? =some va
 t7:a.tmps[7]? =some (ptr kb)
 t18:a.tmps[18]? =some v
 t19:a.tmps[19]? =some (.int .i64 n)
 t20:a.tmps[20]? =some (.int .i64 j)
theorem Oa{z:Array Value}{E I:Value}(h4:z[4]? =some E)(J:z[5]? =some I)(w:World):(results Tryz.f12 z).run PQ w=.ok (.tuple #[E,I]) w:=by simp[results,Tryz.results12,go_sem,h4,J]
theorem Iz(h:lI w v ps)(q:w'.heap=w.heap):lI w' v ps:=⟨Hm.Rd.heap h.1 q,λp hp=>(h.2 p hp).heap q⟩
theorem xq{z:Nat}{c:Cf}(h:w.heap[z]? =some (.cells (jG c) 24 (0,0)))(i:Nat):w.cell? ⟨z,i,none⟩=(jG c)[i]?:=aA h _
section
variable {w w':World}{kb nb:Nat}{c:Cf}{vu:Value}{us:List PB}{dl:Nat->List (List UInt8)}{vo vw:Value}{ws:List PW}{nm:AL}{os:List PC}{cnt ep sq:Nat}
theorem TS.acM(h:TS w kb nb c vu us dl vo vw ws nm os cnt ep sq){cs:Array Value}{t:Nat}{I:Nat×Nat}(z:w.heap[j]? =some (.cells cs t I))(t1:t≠137)(t2:t≠139)(t3:t≠150)(t4:t≠197)(E:t≠201):¬Tk kb nb vu vo vw os j:=by
 rintro(e|e|e|e)
 ·exact h.Ih z t1 t4 E (.inl e)
 ·exact Hm.jF h.d.upper z t2 e
 ·exact Hm.jF h.d.wait z t3 e
 ·exact h.Ih z t1 t4 E (.inr e)
theorem AV(h:TS w kb nb c vu us dl vo vw ws nm os cnt ep sq)(R:jZ (Tk kb nb vu vo vw os) w w'){e:Nat}(E:Hm.Row w e s v n xs)(t1:e≠137)(t2:e≠139)(t3:e≠150)(t4:e≠197)(Y:e≠201):Hm.Row w' e s v n xs:=
 E.kept (λg I=>R.block g (E.lt I) (by
  obtain⟨J,z⟩:=E.obj I;exact TS.acM h z t1 t2 t3 t4 Y))
theorem TS.drawn(h:TS w kb nb c vu us dl vo vw ws nm os cnt ep sq){I:Value}{ws':List PW}{E J R:Nat}(hD:Hm.qJ w' kb c vu us dl nb vo I ws' E J R){Y:Value}(hr:Hm.Row w 62 8 Y n xs)(hc:jZ (λk=>(k=kb\/vw.ownBlock=some k)\/Y.ownBlock=some k) w w')(hh:Y.ownBlock≠some 1):TS w' kb nb c vu us dl vo I ws' nm os E J R:=by
 obtain⟨ab,t,fz,q1,q2,q3,q4,q5,q6⟩:=h.ht
 have hM:¬((1=kb\/vw.ownBlock=some 1)\/Y.ownBlock=some 1):=by
  rintro((e|e)|e)
  ·exact h.Ih q1 q2 q5 q6 (.inl e)
  ·exact Hm.jF h.d.wait q1 q3 e
  ·exact hh e
 refine⟨hD,?_,Hm.ng h.hd hc hM,by rw[hc.block _ h.hd.pos hM];exact⟨ab,t,fz,q1,q2,q3,q4,q5,q6⟩⟩;obtain⟨v,hv,hq⟩:=hc.fake;refine(h.ch.jO hv (λk hk=>?_)).heap hq.symm;rintro((rfl|e)|e)
 ·exact h.ch.kU h.d.obj (by decide) (by decide) hk
 ·obtain⟨aa,z⟩:=h.d.wait.obj e;exact h.ch.kU z (by decide) (by decide) hk
 ·obtain⟨aa,z⟩:=hr.obj e;exact h.ch.kU z (by decide) (by decide) hk
theorem oN(h:lI w v ps)(z:jZ (λ_=>False) w w'):lI w' v ps:=
 ⟨Hm.Rd.kept h.1 z.size (λ_ g _ E=>z.block g E (λe=>e)),λp hp=>Ah (h.2 p hp) z (λ_ _ e=>e)⟩
theorem YC{g:Nat}(h:Hm.Rd w s v n xs)(E:0<n)(e:v.ownBlock=some g):g<w.heap.size:=by
 obtain⟨g',off,cap,rfl,_,z,_⟩:=h.pos E;cases e;exact z
theorem Z8(c:Cf)(hd:kQ w)(ht:∃hc t R,w.heap[1]? =some (.cells hc t R)/\t≠137/\t≠150/\t≠139/\t≠197/\t≠201)(E:w'.heap=(((w.alloc (.cells (jG c) 24)).alloc (.map #[] 0)).alloc (.cells (jK c (.slice none 0 0) (w.heap.size+1) (.slice none 0 0) (.slice none 0 0) 0 0 0) 137)).heap):
  TS w' (w.heap.size+2) (w.heap.size+1) c (.slice none 0 0) [] (λ_=>[]) (.slice none 0 0) (.slice none 0 0) [] [] [] 0 0 0:=by
 have hold:∀j,j<w.heap.size->w'.heap[j]? =w.heap[j]?:=λj J=>by
  rw[E,fM _ _ _ (by simp;omega),fM _ _ _ (by simp;omega),fM _ _ _ J]
 have Y:w'.heap[w.heap.size+1]? =some (.map #[] 0):=by
  rw[E,fM _ _ _ (by simp)];have:=heap_alloc_new (w.alloc (.cells (jG c) 24)) (.map #[] 0);simpa using this
 have hk:w'.heap[w.heap.size+2]? =some (.cells (jK c (.slice none 0 0) (w.heap.size+1) (.slice none 0 0) (.slice none 0 0) 0 0 0) 137 (0,0)):=by
  rw[E];have:=heap_alloc_new ((w.alloc (.cells (jG c) 24)).alloc (.map #[] 0)) (.cells (jK c (.slice none 0 0) (w.heap.size+1) (.slice none 0 0) (.slice none 0 0) 0 0 0) 137);simpa using this
 have I:w.heap.size<=w'.heap.size:=by rw[E];simp;omega
 refine⟨⟨hk,Hm.Row.nil _ _ _,Hm.Row.nil _ _ _,λj p hp=>by simp at hp,λp hp=>by simp at hp⟩,⟨⟨#[],0,Y,.nil,by simp,by simp,λe he=>by simp at he⟩,Hm.Row.nil _ _ _,λo z=>by simp at z,by simp,λo o' z=>by simp at z,λo z=>by simp at z,λp hp=>by simp at hp⟩,Hm.ng (M:=λ_=>False) hd ⟨I,λj J _=>hold j J⟩ (λe=>e),by rw[hold _ hd.pos];exact ht⟩
end
structure LI(w0:World)(c:Cf)(ps:List PU)(kb nb:Nat)(vu:Value)(us:List PB)(dl:Nat->List (List UInt8))(vo vw:Value)(ws:List PW)(nm:AL)(os:List PC)(cnt ep sq:Nat)(va:Value)(pl:List Hm.PL)(j:Nat)(w:World):Prop where
 ts:TS w kb nb c vu us dl vo vw ws nm os cnt ep sq
 rm:Hm.RM c (ps.map Prod.fst) j us dl ⟨ws,cnt,ep,sq⟩ (lives nm os) (pl.map Prod.fst)
 row:Hm.Row w 62 8 va pl.length (pl.flatMap jY)
 strs:∀p,p∈pl->kM w p.2.1 p.1.txs/\kM w p.2.2 p.1.deps
 osl:os.length<=4440*j
 fits:Fits c.most (lives nm os)
 hdl:∀i,(dl i).length<=4294967296
 low:∀k,Tk kb nb vu vo vw os k->w0.heap.size<=k
 vlow:∀g,va.ownBlock=some g->w0.heap.size<=g
 jO:jZ (λ_=>False) w0 w
section
variable {w0 w w':World}{c:Cf}{ps:List PU}{kb nb:Nat}{vu:Value}{us:List PB}{dl:Nat->List (List UInt8)}{vo vw:Value}{ws:List PW}{nm:AL}{os:List PC}{cnt ep sq:Nat}{va:Value}{pl:List Hm.PL}{j:Nat}
theorem LI.kept(h:LI w0 c ps kb nb vu us dl vo vw ws nm os cnt ep sq va pl j w)(E:jZ (λ_=>False) w w'):LI w0 c ps kb nb vu us dl vo vw ws nm os cnt ep sq va pl j w':=
 ⟨h.ts.kept E (λ_ _ e=>e),h.rm,h.row.kept (λg z=>E.block g (h.row.lt z) (λe=>e)),λp hp=>⟨Hm.Row.kept (h.strs p hp).1 (λg z=>E.block g (Hm.Row.lt (h.strs p hp).1 z) (λe=>e)),Hm.Row.kept (h.strs p hp).2 (λg z=>E.block g (Hm.Row.lt (h.strs p hp).2 z) (λe=>e))⟩,h.osl,h.fits,h.hdl,h.low,h.vlow,h.jO.trans E (λ_ _ e=>e)⟩
theorem x9(q:w'.heap=w.heap):jZ (λ_=>False) w w':=⟨by rw[q];exact jA,λk _ _=>by rw[q]⟩
theorem sK{o:Obj}(q:w'.heap=(w.alloc o).heap):jZ (λ_=>False) w w':=⟨by rw[q];simp,λk hk _=>by rw[q,fM _ _ _ hk]⟩
theorem RT.count{chain:List U}{s:Hm.rM}{cs:List Ch}{log:List Dv.Lo}(h:Hm.RT c chain j us dl s cs log)(R:Dv.jR chain=true)(z:Dv.jP c=true)(hj:j<chain.length):log.length<=s.cnt:=by
 rcases gB j with E|E
 ·rw[(h.zero E).1];exact dF _
 ·obtain⟨J,I,_⟩:=h.some E;have Y:=(Dv.rJ R z j (by omega)).number;rw[<-J]at Y;have:=I.number;omega
theorem XI(u:U)(h:Dv.small u=true):(Dv.jL u).length<=4294967296:=by
 have:=(Dv.yX h).2.1;have h2:=gU Dv.isDep u.logs;unfold Dv.jL;omega
theorem LI.much(h:LI w0 c ps kb nb vu us dl vo vw ws nm os cnt ep sq va pl j w)(E:Dv.jR (ps.map Prod.fst)=true)(z:Dv.jP c=true)(R:j<=(ps.map Prod.fst).length):ws.length+4096*(lives nm os).length<=2000000000:=by
 have I:=(Dv.rJ E z j R).much;have J:=(Dv.kJ E).2.1;unfold Dv.much at I;rw[<-h.rm.chs,<-h.rm.wait,aU]at I;have:ws.length=(Hm.rM.mk ws cnt ep sq).ws.length:=rfl;omega
end
noncomputable def JO:Array Oper:=match yH with
 |.region _ ops _=>ops
 |_=>#[]
theorem Pq:∃z,yH=.region z JO false:=⟨_,rfl⟩
theorem Iy:List.range JO.size=[0,1,2]:=by kernel_rfl
def RD(c:Cf)(us:List PB)(dl:Nat->List (List UInt8))(kb nb:Nat)(vu vo vw:Value)(s:Hm.rM)(pl:List Hm.PL)(I:Value)(w:World)(a:Option Addr)(n cap:Nat)(W:World):Prop:=
 ∃E z,n=(pl++z).length/\Hm.DS c us s E/\z.map Prod.fst=E.map (Hm.o9 c us dl)/\Hm.Row W 62 8 (.slice a n cap) (pl++z).length ((pl++z).flatMap jY)/\(∀p,p∈pl++z->kM W p.2.1 p.1.txs/\kM W p.2.2 p.1.deps)/\Hm.VX kb c vu us dl nb vo vw s E W/\jZ (λk=>(k=kb\/vw.ownBlock=some k)\/I.ownBlock=some k) w W/\∀g,(Value.slice a n cap).ownBlock=some g->I.ownBlock=some g\/w.heap.size<=g
section
variable {Post:EO}{Z A:List Frame}{w0:World}{c:Cf}{ps:List PU}{xa:Option Addr}{vc:Nat}{b₀:Frame}{a₀:Act}{ops:Array Oper}{i:Nat}{rest:List Nat}{k:List Item}{o:Oper}
theorem RS{p:PU}(h:ps[j]? =some p):(ps.map Prod.fst)[j]! =p.1:=by
 rw[List.getElem!_eq_getElem?_getD,eX,h];rfl
theorem Jm(rd:Cr.ReadW)(ho:ops[i]? =some o)(hc:Dv.jR (ps.map Prod.fst)=true)(ab:Dv.jP c=true)(b5:Tryz.prog.globals.size<=w0.heap.size)(J:lI w0 (.slice xa ps.length vc) ps)
  (ba:∀D w va (pl:List Hm.PL),Hm.Row w 62 8 va pl.length (pl.flatMap jY)->(∀p,p∈pl->kM w p.2.1 p.1.txs/\kM w p.2.2 p.1.deps)->pl.map Prod.fst=(Dv.gone c (ps.map Prod.fst) ps.length).log->jZ (λ_=>False) w0 w->Wq D Post Z (b₀.at (a₀.put o.dst (.tuple #[va,.int .i64 0])) (.inRegion ops rest::k)) A w):
  ∀r j,j+r=ps.length->∀D w a kb nb vu us dl vo vw ws nm os cnt ep sq va pl,LI w0 c ps kb nb vu us dl vo vw ws nm os cnt ep sq va pl j w->SL a (.slice xa ps.length vc) va kb ps.length j->
   Wq D Post Z ((base 12).at a [.code allL,.inLoop allL,.inBlock 0,.code (.seq yh .ret)]) (b₀.at a₀ (.inRegion ops (i::rest)::k)::A) w:=by
 have b7:=(Dv.kJ hc).2.1;have h1:=(Dv.kJ hc).1;rw[aU]at b7 h1
 have dj:1<=c.timeout/\c.timeout<=8/\1<=c.window/\c.window<=8/\0<=c.drift/\c.drift<=100/\2<=c.step/\c.step<=20/\1<=c.most/\c.most<=4096:=by
  unfold Dv.jP at ab;exact of_decide_eq_true ab
 have dh:1<w0.heap.size:=aH (show 1<Tryz.prog.globals.size from of_decide_eq_true (by kernel_rfl)) b5;intro r
 induction r with
 |zero=>
  intro j hj D w a kb nb vu us dl vo vw ws nm os cnt ep sq va pl hI hA;have hj:j=ps.length:=by omega
  obtain⟨tm,df⟩:=a;obtain⟨sz,ai,t1,t6,t7,t18,t19,t20⟩:=hA;dsimp only at sz ai t1 t6 t7 t18 t19 t20;subst ai;obtain⟨u0,u1,u2,u3,u4,u5,u6,u7,u8,u9,b8,cu,b6,cf,co,cj,bz,cl,b0,b4,b9,cx,b3,b1,ci,bv,cq,ct,cz,bw,cy,cg,dd,rfl⟩:=Yx sz;simp only[dY,dX,dQ,aC]at t1 t6 t7 t18 t19 t20;subst t1 t6 t7 t18 t19 t20;obtain⟨aa,ac,bb⟩:=hI.row.slice;subst bb;rw[show Item.code allL=Item.code (.seq Em (.seq (.cond (.tmp 21) .skip (.exit 0)) (.seq (.block 1 (.seq FD (.seq yH yT))) yJ))) from by rw[Hm.Je]];refine Wq.seq (Wq.walk λt d Q hN _=>Hm.U4 j _ _ (hN _ _ (Wq.same (y:=w) (λ_ _=>rfl) ?_)));refine Wq.seq (Wq.cond (t:=decide (j<ps.length)) rfl ?_);rw[if_neg (by simp[hj])];refine Wq.exit (k':=[.code (.seq yh .ret)]) rfl (Wq.seq (Wq.walk λt d Q hN _=>Hm.WB aa _ ac _ (hN _ _ (Wq.same (y:=w) (λ_ _=>rfl) ?_))));refine Wq.ret λtodo=>Wq.leave (v:=.tuple #[.slice aa pl.length ac,.int .i64 0]) (fn:=Tryz.f12) rfl rfl rfl (fq Tryz.func12 rfl) (Oa rfl rfl) ?_;rw[fF,ho];exact ba D w _ pl hI.row hI.strs (by rw[<-hj];exact(hI.rm.some (by omega)).1) hI.jO
 |succ r ih=>
  intro j hj D w a kb nb vu us dl vo vw ws nm os cnt ep sq va pl hI hA;have ao:j<ps.length:=by omega
  have ag:j<(ps.map Prod.fst).length:=by rw[aU];exact ao
  obtain⟨g,off,az,cc,_⟩:=Hm.Rd.pos J.1 (by omega);cases cc;obtain⟨tm,df⟩:=a;obtain⟨sz,ai,t1,t6,t7,t18,t19,t20⟩:=hA;dsimp only at sz ai t1 t6 t7 t18 t19 t20;subst ai;obtain⟨u0,u1,u2,u3,u4,u5,u6,u7,u8,u9,b8,cu,b6,cf,co,cj,bz,cl,b0,b4,b9,cx,b3,b1,ci,bv,cq,ct,cz,bw,cy,cg,dd,rfl⟩:=Yx sz;simp only[dY,dX,dQ,aC]at t1 t6 t7 t18 t19 t20;subst t1 t6 t7 t18 t19 t20;rw[show Item.code allL=Item.code (.seq Em (.seq (.cond (.tmp 21) .skip (.exit 0)) (.seq (.block 1 (.seq FD (.seq yH yT))) yJ))) from by rw[Hm.Je]];refine Wq.seq (Wq.walk λt d Q hN _=>Hm.U4 j _ _ (hN _ _ (Wq.same (y:=w) (λ_ _=>rfl) ?_)));refine Wq.seq (Wq.cond (t:=decide (j<ps.length)) rfl ?_);rw[if_pos (by simp[ao])];refine Wq.skip (Wq.seq (Wq.block (Wq.seq ?_)));obtain⟨p,bd⟩:∃p,ps[j]? =some p:=⟨_,aG ao⟩
  have aq:p∈ps:=aQ bd;have a2:=RS bd;have af:Dv.small p.1=true:=by rw[<-a2];exact Dv.nY _ none (Dv.kJ hc).2.2.1 j ag
  obtain⟨k0,k1,k2,k3⟩:=(oN J hI.jO).get bd;obtain⟨ta,tc,bg⟩:=Hm.Rd.slice (J.2 p aq).1;obtain⟨la,lc,bh⟩:=Hm.Rd.slice (J.2 p aq).2.1;rw[bg]at k2;rw[bh]at k3;refine Wq.walk λt d Q hN _=>Hm.Zj g off _ vc j p.1.id p.1.time ta _ tc la _ lc _ ao k0 k1 k2 k3 (λw2 av=>hN _ _ ?_);rw[show(on w t d).heap.size=w.heap.size from rfl];have av:w2.heap=(w.alloc (.cells #[.int .i64 p.1.id,.int .i64 p.1.time,.slice ta p.1.txs.length tc,.slice la p.1.logs.length lc] 42)).heap:=av;have z:=hI.kept (sK av)
  have ca:w2.heap[w.heap.size]? =some (.cells #[.int .i64 p.1.id,.int .i64 p.1.time,.slice ta p.1.txs.length tc,.slice la p.1.logs.length lc] 42 (0,0)):=by
   rw[av];exact heap_alloc_new _ _
  refine Wq.seq ?_;obtain⟨di,bm⟩:=Pq;rw[bm];refine Wq.region ?_;rw[Iy];obtain⟨p0,db,bs,cp,b2⟩:∃o,JO[0]? =some o/\o.op=.move (.tmp 7)/\o.dst=some 24/\o.guard=none:=⟨_,rfl,rfl,rfl,rfl⟩
  obtain⟨p1,cv,bo,cn,cb⟩:∃o,JO[1]? =some o/\o.op=.load 42 (.tmp 9)/\o.dst=some 25/\o.guard=none:=⟨_,rfl,rfl,rfl,rfl⟩
  obtain⟨p2,cm,bn,ck,c4⟩:∃o,JO[2]? =some o/\o.op=.call { callee:=.value (.func 39),args:=#[.tmp 24,.tmp 25],argTypes:=#[93,42] }/\o.dst=some 26/\o.guard=none:=⟨_,rfl,rfl,rfl,rfl⟩
  refine Wq.val (v:=ptr kb) (x':=w2) db b2 (λt d=>by unfold execOp;simp only[bs];rfl) ?_;rw[cp]
  refine Wq.val (v:=.agg #[.int .i64 p.1.id,.int .i64 p.1.time,.slice ta p.1.txs.length tc,.slice la p.1.logs.length lc]) (x':=w2) cv cb (λt d=>by
   have c:=aA (show(on w2 t d).heap[w.heap.size]? =_ from ca);have c0:=c 0;have c1:=c 1;have c2:=c 2;have c3:=c 3;unfold execOp;simp only[bo];simp[go_sem,Act.put,Act.eval,c0,c1,c2,c3]) ?_
  rw[cn];have ay:=(oN J z.jO).2 p aq;rw[bg,bh]at ay;have s2:=z.jO.size;have de:=z.osl;refine WQ rd cm (Cr.ku c4) bn rfl rfl (by omega) z.ts ay (λq hq=>?ap) af ab (by rw[z.rm.len];omega) (by omega) z.fits (z.much hc ab (by omega)) ?_
  case ap=>
   have dg:q<w0.heap.size:=by
    have hu:=J.2 p aq;rw[bg,bh]at hu;rcases hq with⟨hn,e⟩|⟨hn,e⟩
    ·exact YC hu.1 hn e
    ·exact YC hu.2.1 hn e
   exact⟨by omega,λe=>by have:=z.low q e;omega⟩
  intro D3 w3 an v3 aj ax I bj aw bk am a7 c6 a9 a3;rw[ck];refine Wq.done ?_;have ar:=z.rm.took ag (by omega) (v:=v3) (cs':=lives bj aw) (ws':=ws++I) (by rw[a2,a3,z.rm.len]);rw[a2]at ar;have Y:=AV z.ts am z.row (by decide) (by decide) (by decide) (by decide) (by decide)
  have ah:∀q,q∈pl->kM w3 q.2.1 q.1.txs/\kM w3 q.2.2 q.1.deps:=λq hq=>
   ⟨AV z.ts am (z.strs q hq).1 (by decide) (by decide) (by decide) (by decide) (by decide),AV z.ts am (z.strs q hq).2 (by decide) (by decide) (by decide) (by decide) (by decide)⟩
  have a0:∀i,(V3 dl us.length p.1 i).length<=4294967296:=λi=>by
   unfold V3;split
   ·exact XI p.1 af
   ·exact z.hdl i
  have ae:=RT.count ar hc ab ag;rw[aU]at ae;have a8:=ar.good hc ab ag;obtain⟨aa,ac,bb⟩:=Y.slice;subst bb
  have E:∀q,Tk kb nb an aj ax aw q->w0.heap.size<=q:=λq hq=>by
   rcases a7 q hq with e|e
   ·exact z.low q e
   ·omega
  refine Wq.walk λt d Q hN _=>Hm.Xd kb aa pl.length ac (RD c (us++[(p.1.id,p.1.time,v3)]) (V3 dl us.length p.1) kb nb an aj ax ⟨ws++I,cnt,ep,sq⟩ pl (.slice aa pl.length ac) w3) _ ?calls (λc5 n4 ce w4 hX=>hN _ _ ?_)
  case calls=>
   have hb:RowKit.Below w3.heap.size (on w3 t d) ((on w3 t d).alloc (.cells #[.pointer (some ⟨kb,0,none⟩)] 93)):=(RowKit.Below.refl (on w3 t d).heap.size (on w3 t d)).alloc jA _;have c9:TS (on w3 t d) kb nb c an (us++[(p.1.id,p.1.time,v3)]) (V3 dl us.length p.1) aj ax (ws++I) bj aw cnt ep sq:=bk.heap rfl;refine(Hm.DT kb w3.heap.size c an (us++[(p.1.id,p.1.time,v3)]) (V3 dl us.length p.1) nb aj ax ⟨ws++I,cnt,ep,sq⟩ (.slice aa pl.length ac) pl ((on w3 t d).alloc (.cells #[.pointer (some ⟨kb,0,none⟩)] 93)) a8 (by omega) a0 (c9.d.below hb) (Boxed.new _ _ _) (by simp) ((Y.heap (w':=on w3 t d) rfl).below hb) (λq hq=>⟨Hm.Row.below (Hm.Row.heap (w':=on w3 t d) (ah q hq).1 rfl) hb,Hm.Row.below (Hm.Row.heap (w':=on w3 t d) (ah q hq).2 rfl) hb⟩) ae).mono ?_;rintro e W' ⟨R,au,a',az,rfl,q1,q2,q3,q4,q5,q6,q7⟩;refine⟨a',_,az,rfl,R,au,rfl,q1,q2,q3,q4,q5,?_,λg hg=>(q7 g hg).imp id (λq=>aW hb.size q)⟩;exact((Hm.jJ.below hb jA _).trans q6 (λ_ _ e=>e)).h.heaps rfl rfl
  obtain⟨R,au,cr,bu,bp,a6,a4,a1,bq,a5⟩:=hX;subst cr;have br:=ar.drawn hc ab ag bu;unfold Hm.VX at a1;generalize (Hm.rM.mk (Hm.jH c (us++[(p.1.id,p.1.time,v3)]) (Hm.jI ⟨ws++I,cnt,ep,sq⟩ R).ws (Hm.jI ⟨ws++I,cnt,ep,sq⟩ R).cnt (Hm.jI ⟨ws++I,cnt,ep,sq⟩ R).ep).2 (Hm.jI ⟨ws++I,cnt,ep,sq⟩ R).cnt (Hm.jI ⟨ws++I,cnt,ep,sq⟩ R).ep (Hm.jI ⟨ws++I,cnt,ep,sq⟩ R).sq)=s4 at a1 br;obtain⟨bx,cd,bl⟩:=a1;refine Wq.inBlock (Wq.walk λt d Q hN _=>Hm.XJ j _ (by omega) (hN _ _ (Wq.same (y:=w4) (λ_ _=>rfl) (Wq.inLoop ?_))));have ak:∀q,(Value.slice aa pl.length ac).ownBlock=some q->w0.heap.size<=q:=z.vlow;have cw:=TS.drawn bk cd Y bq (λe=>by have:=ak _ e;omega);have s3:=am.size;refine ih (j+1) (by omega) D3 w4 _ kb nb an (us++[(p.1.id,p.1.time,v3)]) (V3 dl us.length p.1) aj bx s4.ws bj aw s4.cnt s4.ep s4.sq (.slice c5 (pl++au).length ce) (pl++au) ⟨cw,?_,a6,a4,by omega,a9,a0,λq hq=>?_,λg hg=>?_,?_⟩ ⟨rfl,rfl,rfl,rfl,rfl,rfl,rfl,rfl⟩
  ·rw[aY,bp];exact br
  ·rcases hq with e|e|e|e
   ·exact E q (.inl e)
   ·exact E q (.inr (.inl e))
   ·exact E q (.inr (.inr (.inl (bl q e))))
   ·exact E q (.inr (.inr (.inr e)))
  ·rcases a5 g hg with e|e
   ·exact ak g e
   ·omega
  ·refine(z.jO.trans am (λq hq e=>?_)).trans bq (λq hq e=>?_)
   ·have:=z.low q e;omega
   ·rcases e with(e|e)|e
    ·have:=E q (.inl e);omega
    ·have:=E q (.inr (.inr (.inl e)));omega
    ·have:=ak q e;omega
end
structure qp(w:World):Prop where
 hd:kQ w
 ty:∃hc t fz,w.heap[1]? =some (.cells hc t fz)/\t≠137/\t≠150/\t≠139/\t≠197/\t≠201
theorem qp.kept(h:qp w)(z:jZ (λ_=>False) w w'):qp w':=⟨Hm.ng h.hd z (λe=>e),by rw[z.block _ h.hd.pos (λe=>e)];exact h.ty⟩
section
variable {Post:EO}{D:Nat->Prop}{Z A:List Frame}{w:World}{c:Cf}{ps:List PU}{xa:Option Addr}{vc:Nat}
theorem KL(rd:Cr.ReadW){b₀:Frame}{a₀:Act}{ops:Array Oper}{i:Nat}{rest:List Nat}{k:List Item}{o:Oper}{x y:Operand}{az:Array TypeId}(ho:ops[i]? =some o)(hw:Region.wanted o (yielded ops a₀.tmps)=true)
  (a0:o.op=.call { callee:=.value (.func 12),args:=#[x,y],argTypes:=az }) (ex:a₀.eval x=.agg (jG c)) (ey:a₀.eval y=.slice xa ps.length vc)
  (aw:Tryz.prog.globals.size<=w.heap.size) (ac:lI w (.slice xa ps.length vc) ps) (aq:ps.length<=4294967296) (hH:qp w)
  (R:∀D' w' va (pl:List Hm.PL),Hm.Row w' 62 8 va pl.length (pl.flatMap jY)->(∀p,p∈pl->kM w' p.2.1 p.1.txs/\kM w' p.2.2 p.1.deps)->pl.map Prod.fst=(Dv.all c (ps.map Prod.fst)).2->jZ (λ_=>False) w w'->
   Wq D' Post Z (b₀.at (a₀.put o.dst (.tuple #[va,.int .i64 (Dv.all c (ps.map Prod.fst)).1])) (.inRegion ops rest::k)) A w'):
  Wq D Post Z (b₀.at a₀ (.inRegion ops (i::rest)::k)) A w:=by
 refine Wq.call ho hw a0 (fq Tryz.func12 rfl) rfl Hm.UC ?_;simp only[fJ,dW,fG,ex,ey,show Tryz.f12.ntmps=33 from rfl,dL,aN,bM,Nat.reduceAdd,Nat.reduceSub,cO,bZ,dN,cZ,dM,dH]
 have bad:∀(a':Act)(w':World)(todo:List Item)(er:Int),a'.defers=[]->a'.tmps[4]? =some (.slice none 0 0)->a'.tmps[5]? =some (.int .i64 er)->jZ (λ_=>False) w w'->Dv.all c (ps.map Prod.fst)=(er,[])->Wq D Post Z { (base 12).at a' todo with mode:=.returning } (b₀.at a₀ (.inRegion ops (i::rest)::k)::A) w':=by
  intro a' w' todo er h0 h4 h5 ax z;refine Wq.leave (v:=.tuple #[.slice none 0 0,.int .i64 er]) (fn:=Tryz.f12) rfl h0 rfl (fq Tryz.func12 rfl) (Oa h4 h5) ?_;rw[fF,ho];have:=R D w' (.slice none 0 0) [] (Hm.Row.nil _ _ _) (λp hp=>by simp at hp) (by rw[z];rfl) ax;rw[z]at this;exact this
 refine Wq.seq (Wq.walk λt d Q hN _=>Hm.Z5 c _ (hN _ _ (Wq.same (y:=w.alloc (.cells (jG c) 24)) (λ_ _=>rfl) ?_)));obtain⟨w1,ak,-,ai⟩:=jE w (jG c) 24;have aa:jZ (λ_=>False) w w1:=sK (by rw[ak]);have cf:∀{v:World},jZ (λ_=>False) w1 v->v.heap[w.heap.size]? =some (.cells (jG c) 24 (0,0)):=λh=>(h.block _ (jC ai) (λe=>e)).trans ai;have bel:∀{u v:World} {t d},RowKit.Below u.heap.size (on u t d) v->jZ (λ_=>False) u v:=λh=>((Hm.jJ.below h jA (λ_=>False)).h).heaps rfl rfl;rw[<-ak];refine Wq.seq ?_;have E:=λt d=>xq (w:=on w1 t d) ai;cases I:Dv.jP c with
 |false=>exact Wq.walk λt d Q _ hR=>Hm.Ns c _ _ (E t d 0) (E t d 1) (E t d 2) (E t d 3) (E t d 4) (E t d 5) (E t d 6) I (λw2 ag=>hR _ _ λtodo=>bad _ w2 todo 1 rfl rfl rfl (aa.trans (bel (u:=w1) ag) (λ_ _ e=>e)) (by unfold Dv.all;rw[I];rfl))
 |true=>
  refine Wq.walk λt d Q hN _=>Hm.Y6 c _ _ (E t d 0) (E t d 1) (E t d 2) (E t d 3) (E t d 4) (E t d 5) (E t d 6) I (λw2 ag=>hN _ _ ?_);have af:jZ (λ_=>False) w1 w2:=bel ag;have ab:=oN ac (aa.trans af (λ_ _ e=>e));refine Wq.seq ?_;cases Y:Dv.jR (ps.map Prod.fst)with
  |false=>exact Wq.walk λt d Q _ hR=>Hm.KH xa _ vc ps _ (Iz ab rfl) aq Y (λw3 ah=>hR _ _ λtodo=>bad _ w3 todo 2 rfl rfl rfl ((aa.trans af (λ_ _ e=>e)).trans (bel (u:=w2) ah) (λ_ _ e=>e)) (by unfold Dv.all;rw[I,Y];rfl))
  |true=>
   refine Wq.walk λt d Q hN _=>Hm.Z7 xa _ vc ps _ (Iz ab rfl) aq Y (λw3 ah=>hN _ _ ?_);have ap:=af.trans (bel (u:=w2) ah) (λ_ _ e=>e);have b3:=cf ap;have k3:=λt d=>xq (w:=on w3 t d) b3;refine Wq.seq (Wq.walk λt d Q hN _=>Hm.Y3 _ (hN _ _ (Wq.same (y:=w3) (λ_ _=>rfl) (Wq.seq ?_))));refine Wq.walk λt d Q hN _=>Hm.Zf c _ _ (k3 t d 0) (k3 t d 1) (k3 t d 2) (k3 t d 3) (k3 t d 4) (k3 t d 5) (k3 t d 6) (λw4 au=>hN _ _ ?_);have ae:w4.heap=(((w3.alloc (.cells (jG c) 24)).alloc (.map #[] 0)).alloc (.cells (jK c (.slice none 0 0) (w3.heap.size+1) (.slice none 0 0) (.slice none 0 0) 0 0 0) 137)).heap:=by rw[au];rfl
   have J:=aa.trans ap (λ_ _ e=>e);have s3:=J.size;have am:=hH.kept J;have ay:=Z8 c am.hd am.ty ae
   have ao:jZ (λ_=>False) w3 w4:=⟨by rw[ae];simp;omega,λj hj _=>by
    rw[ae,fM _ _ _ (by simp;omega),fM _ _ _ (by simp;omega),fM _ _ _ hj]⟩
   refine Wq.seq (Wq.seq (Wq.walk λt d Q hN _=>Hm.YQ xa _ vc _ (hN _ _ (Wq.same (y:=w4) (λ_ _=>rfl) (Wq.block (Wq.loop ?_))))))
   refine Jm rd ho Y I aw ac ?_ ps.length 0 (by omega) D w4 _ (w3.heap.size+2) (w3.heap.size+1) (.slice none 0 0) [] (λ_=>[]) (.slice none 0 0) (.slice none 0 0) [] [] [] 0 0 0 (.slice none 0 0) [] ⟨ay,Hm.RM.start _ _ _,Hm.Row.nil _ _ _,λp hp=>by simp at hp,by simp,λx hx=>by simp[lives]at hx,λi=>by simp,λq hq=>by
     rcases hq with e|e|e|e|e|⟨x,hx,_⟩
     ·omega
     ·cases e
     ·cases e
     ·omega
     ·cases e
     ·simp at hx,λg hg=>(by cases hg),J.trans ao (λ_ _ e=>e)⟩ ⟨rfl,rfl,rfl,rfl,rfl,rfl,rfl,rfl⟩
   intro D7 w7 va pl ar aj an av
   have z:Dv.all c (ps.map Prod.fst)=(0,(Dv.gone c (ps.map Prod.fst) ps.length).log):=by
    unfold Dv.all;rw[I,Y,aU];rfl
   have:=R D7 w7 va pl ar aj (by rw[z];exact an) av;rw[z]at this;exact this
end
end
end Pa
namespace Hm
open Go.RowKit Go.Joins Go.Shelf
section
variable {Q:Exit->Act->World->Prop}
noncomputable def OL:Code:=match Tryz.f21.body with
 |some (.seq c _)=>c
 |_=>.skip
noncomputable def Ox:Code:=match Tryz.f21.body with
 |some (.seq _ (.seq c _))=>c
 |_=>.skip
noncomputable def Og:Code:=match Tryz.f21.body with
 |some (.seq _ (.seq _ (.seq c _)))=>c
 |_=>.skip
noncomputable def Wy:Code:=match Tryz.f21.body with
 |some (.seq _ (.seq _ (.seq _ c)))=>c
 |_=>.skip
theorem Ui:Tryz.f21.body=some (.seq OL (.seq Ox (.seq Og Wy))):=by kernel_rfl
theorem aa0{u0 u1 u4 u5 u6 u7 u8 u9 ai bk ag ay bg a2 Y a7 aa ae aj bn ac ab a1 I bh bj bp J bo a0 br au ak a8 bm av a4 ax ba a5 ao bd a6 a9 a3 R af ah aq an E ar bu az aw bq am bs ap bl bb:Value}(g off cap:Nat)(w:World){xs:List Value}(z:Row w 62 8 (.slice (some ⟨g,off,none⟩) 3 cap) 3 xs)
  (k1:xs[10]? =some (.int .i64 0)) (k2:xs[9]? =some (.int .i64 2)) (k3:xs[18]? =some (.int .i64 1)) (k4:xs[19]? =some (.int .i64 6)) (k5:xs[23]? =some (.int .i64 2)) (va:Option Addr) (vc:Nat) (k6:xs[22]? =some (.slice va 1 vc))
  (hQ:∀tm:Array Value,tm[0]? =some (.bool true)->Q .ret { tmps:=tm,defers:=[] } w):
  Wy.wp PQ Q { tmps:=#[u0,u1,.slice (some ⟨g,off,none⟩) 3 cap,.int .i64 0,u4,u5,u6,u7,u8,u9,ai,bk,ag,ay,bg,a2,Y,a7,aa,ae,aj,bn,ac,ab,a1,I,bh,bj,bp,J,bo,a0,br,au,ak,a8,bm,av,a4,ax,ba,a5,ao,bd,a6,a9,a3,R,af,ah,aq,an,E,ar,bu,az,aw,bq,am,bs,ap,bl,bb],defers:=[] } w:=by
 have c1:=z.cell rfl _ _ k1;have c2:=z.cell rfl _ _ k2;have c3:=z.cell rfl _ _ k3;have c4:=z.cell rfl _ _ k4;have c5:=z.cell rfl _ _ k5;have c6:=z.cell rfl _ _ k6;have HQ:Hid _:=hQ;clear hQ z k1 k2 k3 k4 k5 k6;simp only[Wy,Tryz.f21];go_wp2_with fail;exact HQ _ rfl
theorem Za(w:World)(z:Q .normal { tmps:=#[.bool false,undef,undef,undef,undef,undef,undef,undef,undef,undef,undef,undef,undef,undef,undef,undef,undef,undef,undef,undef,undef,undef,undef,undef,undef,undef,undef,undef,undef,undef,undef,undef,undef,undef,undef,undef,undef,undef,undef,undef,undef,undef,undef,undef,undef,undef,undef,undef,undef,undef,undef,undef,undef,undef,undef,undef,undef,undef,undef,undef,undef,undef,undef],defers:=[] } w):OL.wp PQ Q { tmps:=#[undef,undef,undef,undef,undef,undef,undef,undef,undef,undef,undef,undef,undef,undef,undef,undef,undef,undef,undef,undef,undef,undef,undef,undef,undef,undef,undef,undef,undef,undef,undef,undef,undef,undef,undef,undef,undef,undef,undef,undef,undef,undef,undef,undef,undef,undef,undef,undef,undef,undef,undef,undef,undef,undef,undef,undef,undef,undef,undef,undef,undef,undef,undef],defers:=[] } w:=by
 simp only[OL,Tryz.f21];go_wp2_with fail;exact z
theorem ZG(w:World)(z:Q .normal { tmps:=#[.bool false,.pointer (some ⟨w.heap.size,0,none⟩),undef,undef,.agg #[.int .u32 0,.int .u32 0,.int .i64 1,.int .i64 1,.int .i64 100,.int .i64 2,.int .i64 100],undef,undef,undef,undef,undef,undef,undef,undef,undef,undef,undef,undef,undef,undef,undef,undef,undef,undef,undef,undef,undef,undef,undef,undef,undef,undef,undef,undef,undef,undef,undef,undef,undef,undef,undef,undef,undef,undef,undef,undef,undef,undef,undef,undef,undef,undef,undef,undef,undef,undef,undef,undef,undef,undef,undef,undef,undef,undef],defers:=[] } (w.alloc (.cells #[.int .u32 0,.int .u32 0,.int .i64 1,.int .i64 1,.int .i64 100,.int .i64 2,.int .i64 100] 24))):Ox.wp PQ Q { tmps:=#[.bool false,undef,undef,undef,undef,undef,undef,undef,undef,undef,undef,undef,undef,undef,undef,undef,undef,undef,undef,undef,undef,undef,undef,undef,undef,undef,undef,undef,undef,undef,undef,undef,undef,undef,undef,undef,undef,undef,undef,undef,undef,undef,undef,undef,undef,undef,undef,undef,undef,undef,undef,undef,undef,undef,undef,undef,undef,undef,undef,undef,undef,undef,undef],defers:=[] } w:=by
 simp only[Ox,Tryz.f21];go_wp2_with fail;exact z
end
end Hm
namespace Pa
open Go Go.Conc Go.RowKit Go.Joins
open Hm (ptr jW jG jZ oC lI PU jY kM OL Ox Og Wy)
open Dv (U Cf)
open Po hiding U H B IT PR NB
section
def Vd:Cf:={ inbox:=0,batcher:=0,timeout:=1,window:=1,drift:=100,step:=2,most:=100 }
def Ql:List UInt8:=[194,7,128]
def abw:List U:=[⟨5,0,[],[]⟩,⟨6,3,[],[Ql]⟩,⟨7,6,[],[]⟩]
def RU:List Dv.Lo:=[⟨0,0,0,5,0,[],[],0⟩,⟨1,2,0,5,1,[],[],2⟩,⟨2,4,1,6,0,[],[Ql],2⟩]
theorem XL:Dv.all Vd abw=(0,RU):=by kernel_rfl
noncomputable def opsL:Array Oper:=match Og with
 |.region _ ops _=>ops
 |_=>#[]
theorem UA:∃z,Og=.region z opsL false:=⟨_,rfl⟩
theorem NH:List.range opsL.size=[0,1,2,3,4,5,6,7,8,9,10,11]:=by kernel_rfl
theorem N8{t:TypeId}{n:Nat}{z:Value}(h:(PQ.info? t).map (λi=>(i.size,i.zero))=some (n,some z)):∃E,PQ.info? t=some E/\E.size=n/\E.zero=some z:=by
 cases I:PQ.info? t with
 |none=>rw[I]at h;cases h
 |some E=>
  rw[I]at h;simp only[bQ,aC,dA]at h;exact⟨E,rfl,h.1,h.2⟩
theorem vP:∃z,PQ.info? 42=some z/\z.size=4/\z.zero=some (.agg #[.int .i64 0,.int .i64 0,.slice none 0 0,.slice none 0 0]):=N8 (by kernel_rfl)
theorem Kw:∃z,PQ.info? 9=some z/\z.size=1/\z.zero=some (.string ⟨#[]⟩):=N8 (by kernel_rfl)
theorem bl7(w:World):(Instr.build 42 #[(0,.int .i64 5)]).run PQ w=.ok (.agg #[.int .i64 5,.int .i64 0,.slice none 0 0,.slice none 0 0]) w:=run_build w _ _ _ (by kernel_rfl)
theorem bl9(w:World)(n:Nat):(Instr.build 42 #[(0,.int .i64 6),(1,.int .i64 3),(3,.slice (some ⟨n,0,none⟩) 1 1)]).run PQ w=.ok (.agg #[.int .i64 6,.int .i64 3,.slice none 0 0,.slice (some ⟨n,0,none⟩) 1 1]) w:=run_build w _ _ _ (by kernel_rfl)
theorem ab5(w:World):(Instr.build 42 #[(0,.int .i64 7),(1,.int .i64 6)]).run PQ w=.ok (.agg #[.int .i64 7,.int .i64 6,.slice none 0 0,.slice none 0 0]) w:=run_build w _ _ _ (by kernel_rfl)
def GR(n:Nat):Array Value:=#[.int .i64 5,.int .i64 0,.slice none 0 0,.slice none 0 0,.int .i64 6,.int .i64 3,.slice none 0 0,.slice (some ⟨n,0,none⟩) 1 1,.int .i64 7,.int .i64 6,.slice none 0 0,.slice none 0 0]
theorem bs8(w:World):(Instr.buildSlice 40 1 #[(0,.string ⟨#[194,7,128]⟩)]).run PQ w=.ok (.slice (some ⟨w.heap.size,0,none⟩) 1 1) (w.alloc (.cells #[.string ⟨#[194,7,128]⟩] 9)):=by
 obtain⟨z,E,h2,h3⟩:=Kw;exact run_buildSlice w _ _ 1 _ _ z _ (uq Tryz.underlying40) E h3 (by rw[h2];decide) (by rw[h2];decide) (by rw[h2];kernel_rfl)
theorem ab7(w:World)(n:Nat):(Instr.buildSlice 25 3 #[(0,.agg #[.int .i64 5,.int .i64 0,.slice none 0 0,.slice none 0 0]),(1,.agg #[.int .i64 6,.int .i64 3,.slice none 0 0,.slice (some ⟨n,0,none⟩) 1 1]),(2,.agg #[.int .i64 7,.int .i64 6,.slice none 0 0,.slice none 0 0])]).run PQ w=.ok (.slice (some ⟨w.heap.size,0,none⟩) 3 3) (w.alloc (.cells (GR n) 42)):=by
 obtain⟨z,E,h2,h3⟩:=vP;exact run_buildSlice w _ _ 3 _ _ z _ (uq Tryz.underlying25) E h3 (by rw[h2];decide) (by rw[h2];decide) (by rw[h2];kernel_rfl)
def lv(n:Nat):Value:=.slice (some ⟨n,0,none⟩) 1 1
def I4(n:Nat):List PU:=[(⟨5,0,[],[]⟩,.slice none 0 0,.slice none 0 0),(⟨6,3,[],[Ql]⟩,.slice none 0 0,lv n),(⟨7,6,[],[]⟩,.slice none 0 0,.slice none 0 0)]
theorem Ru(n:Nat):(I4 n).map Prod.fst=abw:=rfl
theorem Aj(w:World)(s:Nat):Hm.Rd w s (.slice none 0 0) 0 []:=⟨by simp,none,0,rfl,jA,λh=>absurd h (by omega)⟩
theorem VU{w:World}{n m:Nat}(E:w.heap[n]? =some (.cells #[.string ⟨#[194,7,128]⟩] 9 (0,0)))(h2:w.heap[m]? =some (.cells (GR n) 42 (0,0))):lI w (.slice (some ⟨m,0,none⟩) (I4 n).length 3) (I4 n):=by
 have I:oC w ⟨5,0,[],[]⟩ (.slice none 0 0) (.slice none 0 0):=⟨Aj w 3,Aj w 1,by simp,by simp⟩
 have R:oC w ⟨7,6,[],[]⟩ (.slice none 0 0) (.slice none 0 0):=⟨Aj w 3,Aj w 1,by simp,by simp⟩
 have J:oC w ⟨6,3,[],[Ql]⟩ (.slice none 0 0) (lv n):=by
  refine⟨Aj w 3,⟨rfl,some ⟨n,0,none⟩,1,rfl,jA,λ_=>⟨n,0,rfl,(jC E),λj u z=>?_⟩⟩,by simp,by simp⟩;rw[aA E,fC]
  match j,z with
  |0,z=>exact z
  |j+1,z=>simp[Ql]at z
 refine⟨⟨rfl,some ⟨m,0,none⟩,3,rfl,jA,λ_=>⟨m,0,rfl,(jC h2),λj u z=>?_⟩⟩,λp hp=>?_⟩
 ·rw[aA h2,fC];have:(I4 n).flatMap Hm.uX=(GR n).toList:=rfl;rw[this,Array.getElem?_toList]at z;exact z
 ·simp only[I4,bV,List.not_mem_nil,or_false]at hp;rcases hp with rfl|rfl|rfl
  ·exact I
  ·exact J
  ·exact R
section
variable {Post:EO}{D:Nat->Prop}{Z A:List Frame}{w:World}
theorem Vh(rd:Cr.ReadW){b₀:Frame}{a₀:Act}{ops:Array Oper}{i:Nat}{rest:List Nat}{k:List Item}{o:Oper}{ao:Array TypeId}(ho:ops[i]? =some o)(hw:Region.wanted o (yielded ops a₀.tmps)=true)
  (ap:o.op=.call { callee:=.value (.func 21),args:=#[],argTypes:=ao }) (ar:Tryz.prog.globals.size<=w.heap.size) (hH:qp w)
  (R:∀D' w',jZ (λ_=>False) w w'->Wq D' Post Z (b₀.at (a₀.put o.dst (.bool true)) (.inRegion ops rest::k)) A w'):
  Wq D Post Z (b₀.at a₀ (.inRegion ops (i::rest)::k)) A w:=by
 refine Wq.call ho hw ap (fq Tryz.func21 rfl) rfl Hm.Ui ?_;simp only[fJ,fG,show Tryz.f21.ntmps=63 from rfl,dL,bM,Nat.sub_zero,cO,bZ,dN,cZ,dM,dH];refine Wq.seq (Wq.walk λt d Q hN _=>Hm.Za _ (hN _ _ (Wq.same (y:=w) (λ_ _=>rfl) ?_)));refine Wq.seq (Wq.walk λt d Q hN _=>Hm.ZG _ (hN _ _ (Wq.same (y:=w.alloc (.cells (jG Vd) 24)) (λ_ _=>rfl) (Wq.seq ?_))));rw[show(on w t d).heap.size=w.heap.size from rfl];obtain⟨w2,ac,-,hb⟩:=jE w (jG Vd) 24;have ai:jZ (λ_=>False) w w2:=sK (by rw[ac]);rw[<-ac];obtain⟨au,ae⟩:=UA;rw[ae];refine Wq.region ?_;rw[NH]
 refine Wq.tZ (.load 24 (.tmp 1)) (some 6) (.agg (jG Vd)) w2 rfl (λt d o h=>by
  have c:=xq (w:=on w2 t d) hb;have k0:=c 0;have k1:=c 1;have k2:=c 2;have k3:=c 3;have k4:=c 4;have k5:=c 5;have k6:=c 6;unfold execOp;simp only[h];simp[go_sem,Act.eval,k0,k1,k2,k3,k4,k5,k6,jG]) ?_
 refine Wq.tZ (.build 42 #[(0,.const (.int .i64 5))]) (some 7) (.agg #[.int .i64 5,.int .i64 0,.slice none 0 0,.slice none 0 0]) w2 rfl (λt d o h=>by
  unfold execOp;simp only[h,fJ,dW,fG,Act.eval,iR,bl7,gW];rfl) ?_
 obtain⟨n,hn⟩:∃n,n=w2.heap.size:=⟨_,rfl⟩
 obtain⟨w3,Y⟩:∃w3,w3=w2.alloc (.cells #[.string ⟨#[194,7,128]⟩] 9):=⟨_,rfl⟩
 refine Wq.tZ (.buildSlice 40 1 #[(0,.const (.string ⟨#[194,7,128]⟩))]) (some 8) (lv n) w3 rfl (λt d o h=>by
  unfold execOp;simp only[h,fJ,dW,fG,Act.eval,iR,bs8,gW];rw[Y,hn];rfl) ?_
 have aj:jZ (λ_=>False) w2 w3:=sK (by rw[Y]);have n3:w3.heap[n]? =some (.cells #[.string ⟨#[194,7,128]⟩] 9 (0,0)):=by rw[Y,hn];exact heap_alloc_new _ _
 simp only[Act.put,bH,dJ,dI]
 refine Wq.tZ (.build 42 #[(0,.const (.int .i64 6)),(1,.const (.int .i64 3)),(3,.tmp 8)]) (some 9) (.agg #[.int .i64 6,.int .i64 3,.slice none 0 0,.slice (some ⟨n,0,none⟩) 1 1]) w3 rfl (λt d o h=>by
  unfold execOp;simp only[h,fJ,dW,fG,Act.eval,eU,dY,dX,dQ,fB,lv,iR,bl9,gW];rfl) ?_
 refine Wq.tZ (.build 42 #[(0,.const (.int .i64 7)),(1,.const (.int .i64 6))]) (some 10) (.agg #[.int .i64 7,.int .i64 6,.slice none 0 0,.slice none 0 0]) w3 rfl (λt d o h=>by
  unfold execOp;simp only[h,fJ,dW,fG,Act.eval,iR,ab5,gW];rfl) ?_
 simp only[Act.put,bH,dJ,dI];obtain⟨w4,aa,-,m4⟩:=jE w3 (GR n) 42
 refine Wq.tZ (.buildSlice 25 3 #[(0,.tmp 7),(1,.tmp 9),(2,.tmp 10)]) (some 11) (.slice (some ⟨w3.heap.size,0,none⟩) (I4 n).length 3) w4 rfl (λt d o h=>by
  unfold execOp;simp only[h,fJ,dW,fG,Act.eval,eU,dY,dX,dQ,fB,iR,ab7,gW];rw[aa];rfl) ?_
 have ag:jZ (λ_=>False) w3 w4:=sK (by rw[aa]);have n4:w4.heap[n]? =some (.cells #[.string ⟨#[194,7,128]⟩] 9 (0,0)):=(ag.block _ (jC n3) (λe=>e)).trans n3;have z:=(ai.trans aj (λ_ _ e=>e)).trans ag (λ_ _ e=>e);have s4:=z.size;simp only[Act.put,bH,dJ,dI];obtain⟨x6,ak,am,ah,an⟩:∃o,opsL[6]? =some o/\o.op=.call { callee:=.value (.func 12),args:=#[.tmp 6,.tmp 11],argTypes:=#[24,25] }/\o.dst=some 12/\o.guard=none:=⟨_,rfl,rfl,rfl,rfl⟩
 refine KL rd (c:=Vd) (ps:=I4 n) ak (Cr.ku an) am rfl rfl (by omega) (VU n4 m4) (by simp[I4]) (hH.kept z) ?_;intro D5 J va pl I ab E aq;rw[Ru,XL]at E⊢;rw[ah];simp only[Act.put,bH,dJ,dI];refine Wq.tZ (.move (.tmp 12)) (some 5) (.tuple #[va,.int .i64 0]) J rfl (λt d o h=>by unfold execOp;simp only[h];rfl) ?_;simp only[Act.put,bH,dJ,dI];refine Wq.tZ (.extract (.tmp 5) 0) (some 13) va J rfl (λt d o h=>by unfold execOp;simp only[h];rfl) ?_;simp only[Act.put,bH,dJ,dI];refine Wq.tZ (.extract (.tmp 5) 1) (some 14) (.int .i64 0) J rfl (λt d o h=>by unfold execOp;simp only[h];rfl) ?_;simp only[Act.put,bH,dJ,dI];refine Wq.tZ (.assign (.tmp 13)) (some 2) va J rfl (λt d o h=>by unfold execOp;simp only[h];rfl) ?_;simp only[Act.put,bH,dJ,dI];refine Wq.tZ (.assign (.tmp 14)) (some 3) (.int .i64 0) J rfl (λt d o h=>by unfold execOp;simp only[h];rfl) ?_;simp only[Act.put,bH,dJ,dI];refine Wq.done ?_
 obtain⟨p0,p1,p2,rfl,e0,e1,e2⟩:∃p0 p1 p2,pl=[p0,p1,p2]/\p0.1=(⟨0,0,0,5,0,[],[],0⟩:Dv.Lo)/\p1.1=(⟨1,2,0,5,1,[],[],2⟩:Dv.Lo)/\p2.1=(⟨2,4,1,6,0,[],[Ql],2⟩:Dv.Lo):=by
  match pl,E with
  |[],h=>cases h
  |[_],h=>simp[RU]at h
  |[_,_],h=>simp[RU]at h
  |[p0,p1,p2],h=>
   simp only[dW,fG,RU,List.cons.injEq,and_true]at h;exact⟨p0,p1,p2,rfl,h.1,h.2.1,h.2.2⟩
  |_::_::_::_::_,h=>simp[RU]at h
 obtain⟨g,off,cap,rfl,_⟩:=I.pos (by simp);obtain⟨sa,sc,af⟩:=(ab p2 (by simp)).2.slice;rw[e2]at af;refine Wq.walk λt d Q _ hR=>Hm.aa0 g off cap (on J t d) (I.kept λ_ _=>rfl) ?_ ?_ ?_ ?_ ?_ sa sc ?_ (λtm h=>hR _ _ λtodo=>?_)
 ·simp[jY,e1]
 ·simp[jY,e1]
 ·simp[jY,e2]
 ·simp[jY,e2]
 ·simp[jY,e2]
 ·simp[jY,af]
 refine Wq.leave (v:=.bool true) (fn:=Tryz.f21) rfl rfl rfl (fq Tryz.func21 rfl) (λw=>by
  have:tm[0]? =some (.bool true):=h;simp[results,Tryz.results21,go_sem,Frame.at,this]) ?_
 rw[fF,ho];exact Wq.same (y:=J) (λ_ _=>rfl) (R D5 J (z.trans aq (λ_ _ e=>e)))
end
end
end Pa
namespace Hm
open Go.RowKit Go.Joins Go.Shelf
open Fr (below_drewN)
open Dv (Lo)
theorem LU{a b:ByteArray}(h:a.toList=b.toList):a=b:=by
 apply ByteArray.ext;apply Array.ext';simpa[ByteArray.toList_eq]using h
theorem uS{α:Type}{l:List α}{j:Nat}{x:α}(h:l[j]? =some x):l.take (j+1)=l.take j++[x]:=by
 rw[List.take_add_one,h];rfl
theorem vC(va vb:Value)(Y lb:List (List UInt8))(w:World)(ha:Rd w 1 va Y.length (Y.map nZ))(I:Rd w 1 vb lb.length (lb.map nZ))(hl:Y.length<=9223372036854775807):Calls PQ 28 #[va,vb] w λe w'=>e=.returned (.bool (decide (Y=lb)))/\Below w.heap.size w w':=by
 obtain⟨aa,ac,rfl⟩:=ha.slice;obtain⟨ba,bc,rfl⟩:=I.slice;obtain⟨r,R⟩:∃r,decide (Y=lb)=r:=⟨_,rfl⟩
 rw[R];obtain⟨na,z⟩:∃n,Y.length=n:=⟨_,rfl⟩
 obtain⟨nb,E⟩:∃n,lb.length=n:=⟨_,rfl⟩
 have H:Hid _:=jw ha (jw I (jw R (jw z E)));rw[z]at hl;rw[z,E];clear ha I R z E;by_cases hn:na=nb
 ·subst hn;have aj:((na:Int) == (na:Int))=true:=by simp
  go_enter (fq Tryz.func28 rfl),Tryz.ntmps28;go_wp2_with fail;go_loopg [5] na (λgg t wr=>∃i:Nat,i<=na/\t=.int .i64 i/\gg=na-i/\Hid (Y.take i=lb.take i/\Below w.heap.size w wr))
  case atStart=>exact⟨0,dF _,rfl,rfl,⟨rfl,aB _ _⟩⟩
  case round=>
   obtain⟨i,hi,rfl,rfl,HI⟩:=hrel;obtain⟨ha,I,R,z,E⟩:=H.out;by_cases ao:i<na
   ·have ag:(i:Int)<na:=by omega
    obtain⟨x,hx⟩:∃x,Y[i]? =some x:=⟨_,aG (by omega)⟩
    obtain⟨y,hy⟩:∃y,lb[i]? =some y:=⟨_,aG (by omega)⟩
    obtain⟨g1,o1,c1,e1,_,am,q1⟩:=ha.pos (by omega);obtain⟨g2,o2,c2,e2,_,ak,q2⟩:=I.pos (by omega);simp only[Value.slice.injEq]at e1 e2;obtain⟨rfl,_,rfl⟩:=e1;obtain⟨rfl,_,rfl⟩:=e2;have k1:wr.cell? ⟨g1,o1+i,none⟩=some (nZ x):=(HI.out.2.cell (p:=⟨g1,o1+i,none⟩) am).trans (q1 i _ (by rw[eX,hx];rfl));have k2:wr.cell? ⟨g2,o2+i,none⟩=some (nZ y):=(HI.out.2.cell (p:=⟨g2,o2+i,none⟩) ak).trans (q2 i _ (by rw[eX,hy];rfl));unfold nZ at k1 k2;obtain⟨XB,ae⟩:∃X:ByteArray,(⟨x.toArray⟩:ByteArray)=X:=⟨_,rfl⟩
    obtain⟨YB,ab⟩:∃X:ByteArray,(⟨y.toArray⟩:ByteArray)=X:=⟨_,rfl⟩
    rw[ae]at k1;rw[ab]at k2;have ah:=HI.out.2;by_cases J:x=y
    ·have af:XB=YB:=by rw[<-ae,<-ab,J]
     subst af;clear ha I q1 q2 R z E;go_wp2_with fail;go_quiet (fail);go_wp2_with fail;go_roundg (na-(i+1))
     case measure=>omega
     case rel=>exact⟨i+1,by omega,by go_num,rfl,⟨by rw[uS hx,uS hy,HI.out.1,J],below_drewN ah _⟩⟩
    ·have af:XB≠YB:=λe=>J (by
      have:x.toArray=y.toArray:=by
       rw[<-ae,<-ab]at e;simpa using e
      simpa using this)
     have an:(XB.toList == YB.toList)=false:=beq_false_of_ne (λe=>af (LU e));clear ha I q1 q2;go_wp2_with fail;go_quiet (fail);go_wp2_with fail;go_ret;refine⟨?_,below_drewN ah _⟩;have ai:Y≠lb:=λe=>J (by rw[e,hy]at hx;exact(eP hx).symm)
     show Ending.returned (.bool false)=_
     rw[<-R,decide_eq_false ai]
   ·have ag:¬(i:Int)<na:=by omega
    clear ha I;go_wp2_with fail;go_ret;obtain rfl:i=na:=by omega
    have h1:=HI.out.1;rw[dV (by omega),dV (by omega)]at h1;exact⟨by rw[<-R,h1];simp,HI.out.2⟩
 ·have aj:((na:Int) == (nb:Int))=false:=by simp;omega
  go_enter (fq Tryz.func28 rfl),Tryz.ntmps28;go_wp2_with fail;go_ret;obtain⟨ha,I,R,z,E⟩:=H.out;refine⟨?_,aB _ _⟩;rw[<-R,decide_eq_false (λe=>hn (by rw[<-z,<-E,e]))];rfl
theorem Y0{a b:Lo}(I:a.number=b.number)(h2:a.time=b.time)(h3:a.epoch=b.epoch)(h4:a.id=b.id)(R:a.seq=b.seq)(z:a.txs=b.txs)(J:a.deps=b.deps)(E:a.at_=b.at_):a=b:=by
 cases a;cases b
 simp_all
theorem RV(p q:PL)(w:World)(ar:kM w p.2.1 p.1.txs)(an:kM w p.2.2 p.1.deps)(aq:kM w q.2.1 q.1.txs)(ak:kM w q.2.2 q.1.deps)(ax:p.1.txs.length<=9223372036854775807)(az:p.1.deps.length<=9223372036854775807):Calls PQ 54 #[.agg (jY p).toArray,.agg (jY q).toArray] w λe w'=>∃r,e=.returned (.bool r)/\(r=true↔p.1=q.1)/\Below w.heap.size w w':=by
 obtain⟨a1,c1,e1⟩:=Row.slice ar;obtain⟨a2,c2,e2⟩:=Row.slice an;obtain⟨a3,c3,e3⟩:=Row.slice aq;obtain⟨a4,c4,e4⟩:=Row.slice ak;have r1:=Row.rd ar;have r2:=Row.rd an;have r3:=Row.rd aq;have r4:=Row.rd ak;rw[e1]at r1;rw[e2]at r2;rw[e3]at r3;rw[e4]at r4;unfold jY;rw[e1,e2,e3,e4];clear ar an aq ak e1 e2 e3 e4;have ao:=λ(V:World)(hV:Below w.heap.size w V)=>vC _ _ _ _ V (r1.below hV) (r3.below hV) ax;have ah:=λ(V:World)(hV:Below w.heap.size w V)=>vC _ _ _ _ V (r2.below hV) (r4.below hV) az;generalize p.1.txs.length=n1 at *;generalize p.1.deps.length=n2 at *;generalize q.1.txs.length=n3 at *;generalize q.1.deps.length=n4 at *;obtain⟨bx,aj⟩:∃b,decide (p.1.txs=q.1.txs)=b:=⟨_,rfl⟩
 obtain⟨bd,ai⟩:∃b,decide (p.1.deps=q.1.deps)=b:=⟨_,rfl⟩
 rw[aj]at ao;rw[ai]at ah;have a0:Hid _:=ao;have ay:Hid _:=ah;have HB:Hid _:=jw aj ai;obtain⟨X,hX⟩:∃X:World,X=(w.alloc (.cells #[.int .i64 p.1.number,.int .i64 p.1.time,.int .i64 p.1.epoch,.int .i64 p.1.id,.int .i64 p.1.seq,.slice a1 n1 c1,.slice a2 n2 c2,.int .i64 p.1.at_] 62)).alloc (.cells #[.int .i64 q.1.number,.int .i64 q.1.time,.int .i64 q.1.epoch,.int .i64 q.1.id,.int .i64 q.1.seq,.slice a3 n3 c3,.slice a4 n4 c4,.int .i64 q.1.at_] 62):=⟨_,rfl⟩
 have aw:Below w.heap.size w X:=by rw[hX];exact((aB _ w).alloc jA _).alloc (by simp) _
 have x1:X.heap[w.heap.size]? =some (.cells #[.int .i64 p.1.number,.int .i64 p.1.time,.int .i64 p.1.epoch,.int .i64 p.1.id,.int .i64 p.1.seq,.slice a1 n1 c1,.slice a2 n2 c2,.int .i64 p.1.at_] 62 (0,0)):=by rw[hX];exact(aT _ _ _ (by simp)).trans (heap_alloc_new _ _)
 have x2:X.heap[w.heap.size+1]? =some (.cells #[.int .i64 q.1.number,.int .i64 q.1.time,.int .i64 q.1.epoch,.int .i64 q.1.id,.int .i64 q.1.seq,.slice a3 n3 c3,.slice a4 n4 c4,.int .i64 q.1.at_] 62 (0,0)):=by
  have:=heap_alloc_new (w.alloc (.cells #[.int .i64 p.1.number,.int .i64 p.1.time,.int .i64 p.1.epoch,.int .i64 p.1.id,.int .i64 p.1.seq,.slice a1 n1 c1,.slice a2 n2 c2,.int .i64 p.1.at_] 62)) (.cells #[.int .i64 q.1.number,.int .i64 q.1.time,.int .i64 q.1.epoch,.int .i64 q.1.id,.int .i64 q.1.seq,.slice a3 n3 c3,.slice a4 n4 c4,.int .i64 q.1.at_] 62);rw[eH]at this;rw[hX];exact this
 have l1:=(jC x1)
 have l2:=(jC x2)
 obtain⟨k0,k1,k2,k3,k4,k5,k6,k7,kf⟩:=kX x1;obtain⟨m0,m1,m2,m3,m4,m5,m6,m7,mf⟩:=kX x2;have HX:Hid _:=jw x1 (jw x2 aw);clear x1 x2 aw ao ah aj ai r1 r2 r3 r4;go_enter (fq Tryz.func54 rfl),Tryz.ntmps54;go_upto_region 1 with fail;rw[<-hX];clear hX;go_upto_region 2 with(go_at_call 28;refine aK (a0.out _ HX.out.2.2) ?_;rintro e w2 ⟨rfl,R⟩)
 have y1:=(R.block _ l1).trans HX.out.1;have y2:=(R.block _ l2).trans HX.out.2.1;have ag:Below w.heap.size w w2:=HX.out.2.2.trans (R.mono HX.out.2.2.size);have s2:=R.size;clear k0 k1 k2 k3 k4 k5 k6 k7 kf m0 m1 m2 m3 m4 m5 m6 m7 mf;obtain⟨k0,k1,k2,k3,k4,k5,k6,k7,kf⟩:=kX y1;obtain⟨m0,m1,m2,m3,m4,m5,m6,m7,mf⟩:=kX y2;have HY:Hid _:=jw y1 (jw y2 ag);clear y1 y2 ag R;go_upto_region 3 with(go_at_call 28;refine aK (ay.out _ HY.out.2.2) ?_;rintro e w3 ⟨rfl,ae⟩)
 have z1:=(ae.block _ (by omega)).trans HY.out.1;have z2:=(ae.block _ (by omega)).trans HY.out.2.1;have af:Below w.heap.size w w3:=HY.out.2.2.trans (ae.mono HY.out.2.2.size);clear k0 k1 k2 k3 k4 k5 k6 k7 kf m0 m1 m2 m3 m4 m5 m6 m7 mf;obtain⟨k0,k1,k2,k3,k4,k5,k6,k7,kf⟩:=kX z1;obtain⟨m0,m1,m2,m3,m4,m5,m6,m7,mf⟩:=kX z2;have HZ:Hid _:=af;clear z1 z2 af ae;cases bx with
 |false=>
  go_wp2_with fail;go_ret;refine⟨false,rfl,⟨λe=>(by cases e),λe=>?_⟩,HZ.out⟩;exfalso;exact of_decide_eq_false HB.out.1 (by rw[e])
 |true=>
  cases bd with
  |false=>
   go_wp2_with fail;go_ret;refine⟨false,rfl,⟨λe=>(by cases e),λe=>?_⟩,HZ.out⟩;exfalso;exact of_decide_eq_false HB.out.2 (by rw[e])
  |true=>
   by_cases z:p.1.number=q.1.number;rotate_left
   ·have J:((p.1.number:Int) == (q.1.number:Int))=false:=beq_false_of_ne (by omega);go_wp2_with fail;go_ret;refine⟨false,rfl,⟨λe=>(by cases e),λe=>?_⟩,HZ.out⟩;exfalso;exact z (by rw[e])
   have J:((p.1.number:Int) == (q.1.number:Int))=true:=by rw[z];exact beq_self_eq_true _
   by_cases I:p.1.time=q.1.time;rotate_left
   ·have ac:((p.1.time:Int) == (q.1.time:Int))=false:=beq_false_of_ne (by omega);go_wp2_with fail;go_ret;refine⟨false,rfl,⟨λe=>(by cases e),λe=>?_⟩,HZ.out⟩;exfalso;exact I (by rw[e])
   have ac:((p.1.time:Int) == (q.1.time:Int))=true:=by rw[I];exact beq_self_eq_true _
   by_cases E:p.1.epoch=q.1.epoch;rotate_left
   ·have aa:((p.1.epoch:Int) == (q.1.epoch:Int))=false:=beq_false_of_ne (by omega);go_wp2_with fail;go_ret;refine⟨false,rfl,⟨λe=>(by cases e),λe=>?_⟩,HZ.out⟩;exfalso;exact E (by rw[e])
   have aa:((p.1.epoch:Int) == (q.1.epoch:Int))=true:=by rw[E];exact beq_self_eq_true _
   by_cases ap:p.1.id=q.1.id;rotate_left
   ·have av:((p.1.id:Int) == (q.1.id:Int))=false:=beq_false_of_ne (by omega);go_wp2_with fail;go_ret;refine⟨false,rfl,⟨λe=>(by cases e),λe=>?_⟩,HZ.out⟩;exfalso;exact ap (by rw[e])
   have av:((p.1.id:Int) == (q.1.id:Int))=true:=by rw[ap];exact beq_self_eq_true _
   by_cases ab:p.1.seq=q.1.seq;rotate_left
   ·have am:((p.1.seq:Int) == (q.1.seq:Int))=false:=beq_false_of_ne (by omega);go_wp2_with fail;go_ret;refine⟨false,rfl,⟨λe=>(by cases e),λe=>?_⟩,HZ.out⟩;exfalso;exact ab (by rw[e])
   have am:((p.1.seq:Int) == (q.1.seq:Int))=true:=by rw[ab];exact beq_self_eq_true _
   by_cases Y:p.1.at_=q.1.at_;rotate_left
   ·have au:((p.1.at_:Int) == (q.1.at_:Int))=false:=beq_false_of_ne (by omega);go_wp2_with fail;go_ret;refine⟨false,rfl,⟨λe=>(by cases e),λe=>?_⟩,HZ.out⟩;exfalso;exact Y (by rw[e])
   have au:((p.1.at_:Int) == (q.1.at_:Int))=true:=by rw[Y];exact beq_self_eq_true _
   go_wp2_with fail;go_ret;exact⟨true,rfl,⟨λ_=>Y0 z I E ap ab (of_decide_eq_true HB.out.1) (of_decide_eq_true HB.out.2) Y,λ_=>rfl⟩,HZ.out⟩
section
variable {w w':World}{ps qs:List PL}
def xW(w:World)(v:Value)(ps:List PL):Prop:=Rd w 8 v ps.length (ps.flatMap jY)/\∀p,p∈ps->kM w p.2.1 p.1.txs/\kM w p.2.2 p.1.deps/\p.1.txs.length<=9223372036854775807/\p.1.deps.length<=9223372036854775807
theorem xW.below{v:Value}(h:xW w v ps)(z:Below w.heap.size w w'):xW w' v ps:=⟨h.1.below z,λp hp=>⟨Row.below (h.2 p hp).1 z,Row.below (h.2 p hp).2.1 z,(h.2 p hp).2.2⟩⟩
theorem Ld(p:PL):(jY p).length=8:=rfl
theorem xW.cells{w:World}{g off cap:Nat}{ps:List PL}{n:Nat}(h:xW w (.slice (some ⟨g,off,none⟩) n cap) ps){i:Nat}{p:PL}(E:ps[i]? =some p):∀(j:Nat)(u:Value),(jY p)[j]? =some u->w.cell? ⟨g,off+(i*8+j),none⟩=some u:=λj u z=>by
 have I:n=ps.length:=by
  obtain⟨a,c,e⟩:=h.1.slice;simp only[Value.slice.injEq]at e;exact e.2.1
 subst I;exact Rd.rec jY 8 Ld h.1 E (by have:=(aF.1 z).1;simpa[jY]using this) z
def JW(ps qs:List PL)(w:World)(e:Ending)(w':World):Prop:=∃r,e=.returned (.bool r)/\(r=true↔(qs.map Prod.fst) <+:(ps.map Prod.fst))/\Below w.heap.size w w'
theorem JW.yes(h:(qs.map Prod.fst) <+:(ps.map Prod.fst))(z:Below w.heap.size w w'):JW ps qs w (.returned (.bool true)) w':=⟨true,rfl,⟨λ_=>h,λ_=>rfl⟩,z⟩
theorem JW.no(h:¬(qs.map Prod.fst) <+:(ps.map Prod.fst))(z:Below w.heap.size w w'):JW ps qs w (.returned (.bool false)) w':=⟨false,rfl,⟨λe=>(by cases e),λe=>absurd e h⟩,z⟩
theorem Cc(va vb:Value)(ps qs:List PL)(w:World)(ha:xW w va ps)(hb:xW w vb qs)(hl:ps.length<=9223372036854775807):Calls PQ 23 #[va,vb] w (JW ps qs w):=by
 obtain⟨aa,ac,rfl⟩:=ha.1.slice;obtain⟨ba,bc,rfl⟩:=hb.1.slice;obtain⟨na,I⟩:∃n,ps.length=n:=⟨_,rfl⟩
 obtain⟨nb,J⟩:∃n,qs.length=n:=⟨_,rfl⟩
 have H:Hid _:=jw ha (jw hb (jw I J));rw[I]at hl;rw[I,J];clear ha hb I J;by_cases hn:na<nb
 ·have aj:(na:Int)<nb:=by omega
  go_enter (fq Tryz.func23 rfl),Tryz.ntmps23;go_wp2_with fail;go_ret;obtain⟨ha,hb,I,J⟩:=H.out;refine JW.no (λe=>?_) (aB _ _);have:=e.length_le;simp only[aU]at this;omega
 ·have aj:¬(na:Int)<nb:=by omega
  go_enter (fq Tryz.func23 rfl),Tryz.ntmps23;go_wp2_with fail;go_loopg [5,6] nb (λgg t _ wr=>∃i:Nat,i<=nb/\t=.int .i64 i/\gg=nb-i/\Hid ((qs.map Prod.fst).take i=(ps.map Prod.fst).take i/\Below w.heap.size w wr))
  case atStart=>exact⟨0,dF _,rfl,rfl,⟨rfl,aB _ _⟩⟩
  case round=>
   obtain⟨i,hi,rfl,rfl,HI⟩:=hrel;obtain⟨ha,hb,I,J⟩:=H.out;by_cases ao:i<nb
   ·have ai:(i:Int)<nb:=by omega
    have an:(i:Int)<na:=by omega
    obtain⟨x,hx⟩:∃x,ps[i]? =some x:=⟨_,aG (by omega)⟩
    obtain⟨y,hy⟩:∃y,qs[i]? =some y:=⟨_,aG (by omega)⟩
    have E:=HI.out.2;obtain⟨g1,o1,d1,e1,_⟩:=ha.1.pos (by omega);obtain⟨g2,o2,d2,e2,_⟩:=hb.1.pos (by omega);simp only[Value.slice.injEq]at e1 e2;obtain⟨rfl,_,rfl⟩:=e1;obtain⟨rfl,_,rfl⟩:=e2;have Y:=(ha.below E).cells hx;have R:=(hb.below E).cells hy;have sx:=ha.2 x (aQ hx);have sy:=hb.2 y (aQ hy);have z:=λ(V:World)(hV:Below w.heap.size w V)=>RV x y V (Row.below sx.1 hV) (Row.below sx.2.1 hV) (Row.below sy.1 hV) (Row.below sy.2.1 hV) sx.2.2.1 sx.2.2.2;obtain⟨a1,c1,f1⟩:=Row.slice sx.1;obtain⟨a2,c2,f2⟩:=Row.slice sx.2.1;obtain⟨a3,c3,f3⟩:=Row.slice sy.1;obtain⟨a4,c4,f4⟩:=Row.slice sy.2.1;unfold jY at Y R z;rw[f1,f2,f3,f4]at z;rw[f1,f2]at Y;rw[f3,f4]at R;have k0:wr.cell? ⟨g1,o1+i*8,none⟩=_:=Y 0 _ rfl;have k1:wr.cell? ⟨g1,o1+i*8+1,none⟩=_:=Y 1 _ rfl;have k2:wr.cell? ⟨g1,o1+i*8+2,none⟩=_:=Y 2 _ rfl;have k3:wr.cell? ⟨g1,o1+i*8+3,none⟩=_:=Y 3 _ rfl;have k4:wr.cell? ⟨g1,o1+i*8+4,none⟩=_:=Y 4 _ rfl;have k5:wr.cell? ⟨g1,o1+i*8+5,none⟩=_:=Y 5 _ rfl;have k6:wr.cell? ⟨g1,o1+i*8+6,none⟩=_:=Y 6 _ rfl;have k7:wr.cell? ⟨g1,o1+i*8+7,none⟩=_:=Y 7 _ rfl;have m0:wr.cell? ⟨g2,o2+i*8,none⟩=_:=R 0 _ rfl;have m1:wr.cell? ⟨g2,o2+i*8+1,none⟩=_:=R 1 _ rfl;have m2:wr.cell? ⟨g2,o2+i*8+2,none⟩=_:=R 2 _ rfl;have m3:wr.cell? ⟨g2,o2+i*8+3,none⟩=_:=R 3 _ rfl;have m4:wr.cell? ⟨g2,o2+i*8+4,none⟩=_:=R 4 _ rfl;have m5:wr.cell? ⟨g2,o2+i*8+5,none⟩=_:=R 5 _ rfl;have m6:wr.cell? ⟨g2,o2+i*8+6,none⟩=_:=R 6 _ rfl;have m7:wr.cell? ⟨g2,o2+i*8+7,none⟩=_:=R 7 _ rfl;have af:Hid _:=z;have ab:Hid _:=jw hx hy;have HN:Hid _:=jw I J;clear z ha hb Y R sx sy hx hy f1 f2 f3 f4 I J;go_upto_region 6 with fail;go_region_with (go_at_call 54;refine aK (af.out _ ?_) ?_;(first|exact E.drew|exact below_drewN E _|exact E);rintro e5 w5 ⟨r,rfl,ah,am⟩)
    all_goals
     have ae:Below w.heap.size w w5:=Below.trans (by first|exact E.drew|exact below_drewN E _|exact E) (am.mono (by simpa using E.size));have ag:Hid (r=true↔x.1=y.1):=ah;clear ah;cases r
     ·go_wp2_with fail;go_ret;refine JW.no (λe=>?_) ae;obtain⟨tl,ak⟩:=e;have J:=HN.out.2;have q1:=congrArg (λl=>l[i]?) ak;rw[bP (by rw[aU];omega),eX,eX,ab.out.1,ab.out.2]at q1;have q2:=ag.out.2 (eP q1).symm;cases q2
     ·go_wp2_with fail;go_roundg (nb-(i+1))
      case measure=>omega
      case rel=>exact⟨i+1,by omega,by go_num,rfl,⟨by rw[uS (x:=y.1) (by rw[eX,ab.out.2];rfl),uS (x:=x.1) (by rw[eX,ab.out.1];rfl),HI.out.1,ag.out.1 (by first|exact trivial|rfl)],ae⟩⟩
   ·have ai:¬(i:Int)<nb:=by omega
    clear ha hb;go_wp2_with fail;go_ret;obtain rfl:i=nb:=by omega
    have h1:=HI.out.1;rw[dV (by rw[aU];omega)]at h1;exact JW.yes (by rw[h1];exact List.take_prefix _ _) HI.out.2
end
def pk(c n:Int):Int:=(if c<0 then -(c+1)else c).tmod n
theorem Yy{c n:Int}(E:0<n):0<=pk c n/\pk c n<n:=by
 unfold pk;have z:0<=(if c<0 then -(c+1)else c):=by split<;>omega
 exact⟨Int.tmod_nonneg _ z,Int.tmod_lt_of_pos _ E⟩
theorem pick_any(c n:Int)(w:World)(R:0<n)(J:n<=9223372036854775807)(aa:-9223372036854775808<=c)(I:c<=9223372036854775807):Calls PQ 22 #[.int .i64 c,.int .i64 n] w λe w'=>e=.returned (.int .i64 (pk c n))/\w'=w:=by
 have hp:=Yy (c:=c) R;have Y:(n == 0)=false:=beq_false_of_ne (by omega);have E:n≠0:=by omega
 obtain⟨r,z⟩:∃r,pk c n=r:=⟨_,rfl⟩
 rw[z]at hp⊢;have hw:IntKind.i64.wrap r=r:=by rw[IntKind.wrap_i64];omega
 by_cases h:c<0
 ·have h1:IntKind.i64.wrap (c+1)=c+1:=by rw[IntKind.wrap_i64];omega
  have h2:IntKind.i64.wrap (-(c+1))=-(c+1):=by rw[IntKind.wrap_i64];omega
  have h3:(-(c+1)).tmod n=r:=by rw[<-z,pk,if_pos h]
  go_enter (fq Tryz.func22 rfl),Tryz.ntmps22;go_wp2_with fail;go_ret;exact⟨rfl,rfl⟩
 ·have h3:c.tmod n=r:=by rw[<-z,pk,if_neg h]
  go_enter (fq Tryz.func22 rfl),Tryz.ntmps22;go_wp2_with fail;go_ret;exact⟨rfl,rfl⟩
end Hm
end Go.Proofs.YtpibpdpedjinhaaGreatDoor
