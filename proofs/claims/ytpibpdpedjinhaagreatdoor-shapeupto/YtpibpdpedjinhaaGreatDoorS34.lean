import Derived.Test.YtpibpdpedjinhaaGreatDoorS33
set_option maxRecDepth 100000
set_option maxHeartbeats 4000000
set_option linter.unusedSimpArgs false
namespace Go.Proofs.YtpibpdpedjinhaaGreatDoor
namespace Pa
open Go Go.Conc Go.RowKit Go.Joins
open Hm (ptr jY jI jO TS kF oG lN AL PC PB PW PU lives Fits ku kM Oj EO DZ NP NY Oh allL DF ES xJ yg xM xg)
open Dv (U Cf Ch)
open Po hiding U H B IT PR NB
section
variable {w w':World} {v:Value} {ps:List PU} {j s n:Nat} {xs:List Value}
theorem XT {t:Array Value} (h:t.size=33):∃u0 u1 u2 u3 u4 u5 u6 u7 u8 u9 ab an aa ae aj ah E ai I Y ac ao R J ag q ak am aq z ap af ar,t=#[u0,u1,u2,u3,u4,u5,u6,u7,u8,u9,ab,an,aa,ae,aj,ah,E,ai,I,Y,ac,ao,R,J,ag,q,ak,am,aq,z,ap,af,ar]:=by
 obtain ⟨l⟩:=t
 have h0:l.length=33:=h
 obtain ⟨u0,l0,rfl,h1⟩:=Hm.jy h0
 obtain ⟨u1,l1,rfl,h2⟩:=Hm.jy h1
 obtain ⟨u2,l2,rfl,h3⟩:=Hm.jy h2
 obtain ⟨u3,l3,rfl,h4⟩:=Hm.jy h3
 obtain ⟨u4,l4,rfl,h5⟩:=Hm.jy h4
 obtain ⟨u5,l5,rfl,h6⟩:=Hm.jy h5
 obtain ⟨u6,l6,rfl,h7⟩:=Hm.jy h6
 obtain ⟨u7,l7,rfl,h8⟩:=Hm.jy h7
 obtain ⟨u8,l8,rfl,h9⟩:=Hm.jy h8
 obtain ⟨u9,l9,rfl,h10⟩:=Hm.jy h9
 obtain ⟨ab,bl,rfl,bj⟩:=Hm.jy h10
 obtain ⟨an,b5,rfl,a5⟩:=Hm.jy bj
 obtain ⟨aa,b6,rfl,au⟩:=Hm.jy a5
 obtain ⟨ae,bw,rfl,av⟩:=Hm.jy au
 obtain ⟨aj,bn,rfl,aw⟩:=Hm.jy av
 obtain ⟨ah,b0,rfl,ay⟩:=Hm.jy aw
 obtain ⟨E,bx,rfl,a4⟩:=Hm.jy ay
 obtain ⟨ai,b2,rfl,ba⟩:=Hm.jy a4
 obtain ⟨I,b3,rfl,a3⟩:=Hm.jy ba
 obtain ⟨Y,bo,rfl,az⟩:=Hm.jy a3
 obtain ⟨ac,br,rfl,a9⟩:=Hm.jy az
 obtain ⟨ao,bz,rfl,bd⟩:=Hm.jy a9
 obtain ⟨R,bv,rfl,bb⟩:=Hm.jy bd
 obtain ⟨J,bp,rfl,a1⟩:=Hm.jy bb
 obtain ⟨ag,bm,rfl,bg⟩:=Hm.jy a1
 obtain ⟨q,b8,rfl,a2⟩:=Hm.jy bg
 obtain ⟨ak,bs,rfl,ax⟩:=Hm.jy a2
 obtain ⟨am,b7,rfl,a6⟩:=Hm.jy ax
 obtain ⟨aq,b9,rfl,a0⟩:=Hm.jy a6
 obtain ⟨z,b1,rfl,bh⟩:=Hm.jy a0
 obtain ⟨ap,b4,rfl,bk⟩:=Hm.jy bh
 obtain ⟨af,bq,rfl,a7⟩:=Hm.jy bk
 obtain ⟨ar,bu,rfl,a8⟩:=Hm.jy a7
 obtain rfl:=bD a8
 exact ⟨u0,u1,u2,u3,u4,u5,u6,u7,u8,u9,ab,an,aa,ae,aj,ah,E,ai,I,Y,ac,ao,R,J,ag,q,ak,am,aq,z,ap,af,ar,rfl⟩
structure SL (a:Act) (v va:Value) (kb n j:Nat):Prop where
 sz:a.tmps.size=33
 df:a.defers=[]
 t1:a.tmps[1]? =some v
 t6:a.tmps[6]? =some va
 t7:a.tmps[7]? =some (ptr kb)
 t18:a.tmps[18]? =some v
 t19:a.tmps[19]? =some (.int .i64 n)
 t20:a.tmps[20]? =some (.int .i64 j)
theorem ND {q:Array Value} {z E:Value} (h4:q[4]? =some z) (I:q[5]? =some E) (w:World):(results Tryz.f12 q).run PQ w=.ok (.tuple #[z,E]) w:=by simp [results,Tryz.results12,go_sem,h4,I]
theorem Ic (h:lN w v ps) (q:w'.heap=w.heap):lN w' v ps:=⟨Hm.Rd.heap h.1 q,λp hp=>(h.2 p hp).heap q⟩
theorem su {q:Nat} {c:Cf} (h:w.heap[q]? =some (.cells (jI c) 24 (0,0))) (i:Nat):w.cell? ⟨q,i,none⟩=(jI c)[i]?:=aA h _
section
variable {w w':World} {kb nb:Nat} {c:Cf} {vu:Value} {us:List PB} {dl:Nat->List (List UInt8)} {vo vw:Value} {ws:List PW} {nm:AL} {os:List PC} {cnt ep sq:Nat}
theorem TS.ab3 (h:TS w kb nb c vu us dl vo vw ws nm os cnt ep sq) {cs:Array Value} {t:Nat} {E:Nat×Nat} (q:w.heap[j]? =some (.cells cs t E)) (t1:t≠137) (t2:t≠139) (t3:t≠150) (t4:t≠197) (z:t≠201):¬Tk kb nb vu vo vw os j:=by
 rintro (e|e|e|e)
 ·exact h.GY q t1 t4 z (.inl e)
 ·exact Hm.jH h.d.upper q t2 e
 ·exact Hm.jH h.d.wait q t3 e
 ·exact h.GY q t1 t4 z (.inr e)
theorem Aa (h:TS w kb nb c vu us dl vo vw ws nm os cnt ep sq) (J:kF (Tk kb nb vu vo vw os) w w') {e:Nat} (z:Hm.Row w e s v n xs) (t1:e≠137) (t2:e≠139) (t3:e≠150) (t4:e≠197) (R:e≠201):Hm.Row w' e s v n xs:=
 z.kept (λg E=>J.block g (z.lt E) (by
  obtain ⟨I,q⟩:=z.obj E
  exact TS.ab3 h q t1 t2 t3 t4 R))
theorem TS.drawn (h:TS w kb nb c vu us dl vo vw ws nm os cnt ep sq) {E:Value} {ws':List PW} {z I J:Nat} (hD:Hm.qw w' kb c vu us dl nb vo E ws' z I J) {R:Value} (hr:Hm.Row w 62 8 R n xs) (hc:kF (λk=>(k=kb\/vw.ownBlock=some k)\/R.ownBlock=some k) w w') (hh:R.ownBlock≠some 1):TS w' kb nb c vu us dl vo E ws' nm os z I J:=by
 obtain ⟨ab,t,fz,Y,q2,q3,q4,q5,q6⟩:=h.ht
 have hM:¬((1=kb\/vw.ownBlock=some 1)\/R.ownBlock=some 1):=by
  rintro ((e|e)|e)
  ·exact h.GY Y q2 q5 q6 (.inl e)
  ·exact Hm.jH h.d.wait Y q3 e
  ·exact hh e
 refine ⟨hD,?_,Hm.mZ h.hd hc hM,by rw [hc.block _ h.hd.pos hM];exact ⟨ab,t,fz,Y,q2,q3,q4,q5,q6⟩⟩
 obtain ⟨v,hv,hq⟩:=hc.fake
 refine (h.ch.jR hv (λk hk=>?_)).heap hq.symm
 rintro ((rfl|e)|e)
 ·exact h.ch.kX h.d.obj (by decide) (by decide) hk
 ·obtain ⟨aa,q⟩:=h.d.wait.obj e
  exact h.ch.kX q (by decide) (by decide) hk
 ·obtain ⟨aa,q⟩:=hr.obj e
  exact h.ch.kX q (by decide) (by decide) hk
theorem rW (h:lN w v ps) (q:kF (λ_=>False) w w'):lN w' v ps:=
 ⟨Hm.Rd.kept h.1 q.size (λ_ g _ z=>q.block g z (λe=>e)),λp hp=>zG (h.2 p hp) q (λ_ _ e=>e)⟩
theorem XW {g:Nat} (h:Hm.Rd w s v n xs) (z:0 < n) (e:v.ownBlock=some g):g < w.heap.size:=by
 obtain ⟨g',off,cap,rfl,_,q,_⟩:=h.pos z
 cases e
 exact q
theorem Zq (c:Cf) (hd:kU w) (ht:∃hc t J,w.heap[1]? =some (.cells hc t J)/\t≠137/\t≠150/\t≠139/\t≠197/\t≠201) (z:w'.heap=(((w.alloc (.cells (jI c) 24)).alloc (.map #[] 0)).alloc (.cells (jO c (.slice none 0 0) (w.heap.size+1) (.slice none 0 0) (.slice none 0 0) 0 0 0) 137)).heap):
  TS w' (w.heap.size+2) (w.heap.size+1) c (.slice none 0 0) [] (λ_=>[]) (.slice none 0 0) (.slice none 0 0) [] [] [] 0 0 0:=by
 have hold:∀j,j < w.heap.size->w'.heap[j]? =w.heap[j]?:=λj I=>by
  rw [z,fM _ _ _ (by simp;omega),fM _ _ _ (by simp;omega),fM _ _ _ I]
 have R:w'.heap[w.heap.size+1]? =some (.map #[] 0):=by
  rw [z,fM _ _ _ (by simp)]
  have:=heap_alloc_new (w.alloc (.cells (jI c) 24)) (.map #[] 0)
  simpa using this
 have hk:w'.heap[w.heap.size+2]? =some (.cells (jO c (.slice none 0 0) (w.heap.size+1) (.slice none 0 0) (.slice none 0 0) 0 0 0) 137 (0,0)):=by
  rw [z]
  have:=heap_alloc_new ((w.alloc (.cells (jI c) 24)).alloc (.map #[] 0)) (.cells (jO c (.slice none 0 0) (w.heap.size+1) (.slice none 0 0) (.slice none 0 0) 0 0 0) 137)
  simpa using this
 have E:w.heap.size<=w'.heap.size:=by rw [z];simp;omega
 refine ⟨⟨hk,Hm.Row.nil _ _ _,Hm.Row.nil _ _ _,λj p hp=>by simp at hp,λp hp=>by simp at hp⟩,⟨⟨#[],0,R,.nil,by simp,by simp,λe Y=>by simp at Y⟩,Hm.Row.nil _ _ _,λo q=>by simp at q,by simp,λo o' q=>by simp at q,λo q=>by simp at q,λp hp=>by simp at hp⟩,Hm.mZ (M:=λ_=>False) hd ⟨E,λj I _=>hold j I⟩ (λe=>e),by rw [hold _ hd.pos];exact ht⟩
end
structure LI (w0:World) (c:Cf) (ps:List PU) (kb nb:Nat) (vu:Value) (us:List PB) (dl:Nat->List (List UInt8)) (vo vw:Value) (ws:List PW) (nm:AL) (os:List PC) (cnt ep sq:Nat) (va:Value) (pl:List Hm.PL) (j:Nat) (w:World):Prop where
 ts:TS w kb nb c vu us dl vo vw ws nm os cnt ep sq
 rm:Hm.RM c (ps.map Prod.fst) j us dl ⟨ws,cnt,ep,sq⟩ (lives nm os) (pl.map Prod.fst)
 row:Hm.Row w 62 8 va pl.length (pl.flatMap ku)
 strs:∀p,p∈pl->kM w p.2.1 p.1.txs/\kM w p.2.2 p.1.deps
 osl:os.length<=4440 * j
 fits:Fits c.most (lives nm os)
 hdl:∀i,(dl i).length<=4294967296
 low:∀k,Tk kb nb vu vo vw os k->w0.heap.size<=k
 vlow:∀g,va.ownBlock=some g->w0.heap.size<=g
 jR:kF (λ_=>False) w0 w
section
variable {w0 w w':World} {c:Cf} {ps:List PU} {kb nb:Nat} {vu:Value} {us:List PB} {dl:Nat->List (List UInt8)} {vo vw:Value} {ws:List PW} {nm:AL} {os:List PC} {cnt ep sq:Nat} {va:Value} {pl:List Hm.PL} {j:Nat}
theorem LI.kept (h:LI w0 c ps kb nb vu us dl vo vw ws nm os cnt ep sq va pl j w) (z:kF (λ_=>False) w w'):LI w0 c ps kb nb vu us dl vo vw ws nm os cnt ep sq va pl j w':=
 ⟨h.ts.kept z (λ_ _ e=>e),h.rm,h.row.kept (λg q=>z.block g (h.row.lt q) (λe=>e)),λp hp=>⟨Hm.Row.kept (h.strs p hp).1 (λg q=>z.block g (Hm.Row.lt (h.strs p hp).1 q) (λe=>e)),Hm.Row.kept (h.strs p hp).2 (λg q=>z.block g (Hm.Row.lt (h.strs p hp).2 q) (λe=>e))⟩,h.osl,h.fits,h.hdl,h.low,h.vlow,h.jR.trans z (λ_ _ e=>e)⟩
theorem Yq (q:w'.heap=w.heap):kF (λ_=>False) w w':=⟨by rw [q];exact jC,λk _ _=>by rw [q]⟩
theorem um {o:Obj} (q:w'.heap=(w.alloc o).heap):kF (λ_=>False) w w':=⟨by rw [q];simp,λk hk _=>by rw [q,fM _ _ _ hk]⟩
theorem RT.count {chain:List U} {s:Hm.qW} {cs:List Ch} {log:List Dv.Lo} (h:Hm.RT c chain j us dl s cs log) (J:Dv.jS chain=true) (q:Dv.jQ c=true) (Y:j < chain.length):log.length<=s.cnt:=by
 rcases gB j with z|z
 ·rw [(h.zero z).1]
  exact dF _
 ·obtain ⟨I,E,_⟩:=h.some z
  have R:=(Dv.qR J q j (by omega)).number
  rw [<-I] at R
  have:=E.number
  omega
theorem WZ (u:U) (h:Dv.small u=true):(Dv.jP u).length<=4294967296:=by
 have:=(Dv.yt h).2.1
 have h2:=gU Dv.isDep u.logs
 unfold Dv.jP
 omega
theorem LI.much (h:LI w0 c ps kb nb vu us dl vo vw ws nm os cnt ep sq va pl j w) (z:Dv.jS (ps.map Prod.fst)=true) (q:Dv.jQ c=true) (J:j<=(ps.map Prod.fst).length):ws.length+4096 * (lives nm os).length<=2000000000:=by
 have E:=(Dv.qR z q j J).much
 have I:=(Dv.kJ z).2.1
 unfold Dv.much at E
 rw [<-h.rm.chs,<-h.rm.wait,aU] at E
 have:ws.length=(Hm.qW.mk ws cnt ep sq).ws.length:=rfl
 omega
end
noncomputable def Jy:Array Oper:=match xJ with
 |.region _ ops _=>ops
 |_=>#[]
theorem OJ:∃q,xJ=.region q Jy false:=⟨_,rfl⟩
theorem Ib:List.range Jy.size=[0,1,2]:=by kernel_rfl
def RD (c:Cf) (us:List PB) (dl:Nat->List (List UInt8)) (kb nb:Nat) (vu vo vw:Value) (s:Hm.qW) (pl:List Hm.PL) (E:Value) (w:World) (a:Option Addr) (n cap:Nat) (W:World):Prop:=
 ∃z q,n=(pl++q).length/\Hm.DS c us s z/\q.map Prod.fst=z.map (Hm.oK c us dl)/\Hm.Row W 62 8 (.slice a n cap) (pl++q).length ((pl++q).flatMap ku)/\(∀p,p∈pl++q->kM W p.2.1 p.1.txs/\kM W p.2.2 p.1.deps)/\Hm.Vr kb c vu us dl nb vo vw s z W/\kF (λk=>(k=kb\/vw.ownBlock=some k)\/E.ownBlock=some k) w W/\∀g,(Value.slice a n cap).ownBlock=some g->E.ownBlock=some g\/w.heap.size<=g
section
variable {Post:Eh} {Z A:List Frame} {w0:World} {c:Cf} {ps:List PU} {xa:Option Addr} {vc:Nat} {b₀:Frame} {a₀:Act} {ops:Array Oper} {i:Nat} {rest:List Nat} {k:List Item} {o:Oper}
theorem Q8 {p:PU} (h:ps[j]? =some p):(ps.map Prod.fst)[j]! =p.1:=by
 rw [List.getElem!_eq_getElem?_getD,eX,h]
 rfl
theorem I9 (rd:Cr.ReadW) (ho:ops[i]? =some o) (hc:Dv.jS (ps.map Prod.fst)=true) (ab:Dv.jQ c=true) (b5:Tryz.prog.globals.size<=w0.heap.size) (J:lN w0 (.slice xa ps.length vc) ps)
  (ba:∀D w va (pl:List Hm.PL),Hm.Row w 62 8 va pl.length (pl.flatMap ku)->(∀p,p∈pl->kM w p.2.1 p.1.txs/\kM w p.2.2 p.1.deps)->pl.map Prod.fst=(Dv.gone c (ps.map Prod.fst) ps.length).log->kF (λ_=>False) w0 w->Wq D Post Z (b₀.at (a₀.put o.dst (.tuple #[va,.int .i64 0])) (.inRegion ops rest::k)) A w):
  ∀r j,j+r=ps.length->∀D w a kb nb vu us dl vo vw ws nm os cnt ep sq va pl,LI w0 c ps kb nb vu us dl vo vw ws nm os cnt ep sq va pl j w->SL a (.slice xa ps.length vc) va kb ps.length j->
   Wq D Post Z ((base 12).at a [.code allL,.inLoop allL,.inBlock 0,.code (.seq xg .ret)]) (b₀.at a₀ (.inRegion ops (i::rest)::k)::A) w:=by
 have b7:=(Dv.kJ hc).2.1
 have h1:=(Dv.kJ hc).1
 rw [aU] at b7 h1
 have dj:1<=c.timeout/\c.timeout<=8/\1<=c.window/\c.window<=8/\0<=c.drift/\c.drift<=100/\2<=c.step/\c.step<=20/\1<=c.most/\c.most<=4096:=by
  unfold Dv.jQ at ab
  exact of_decide_eq_true ab
 have dh:1 < w0.heap.size:=aH (show 1 < Tryz.prog.globals.size from of_decide_eq_true (by kernel_rfl)) b5
 intro r
 induction r with
 |zero=>
  intro j hj D w a kb nb vu us dl vo vw ws nm os cnt ep sq va pl hI hA
  have hj:j=ps.length:=by omega
  obtain ⟨tm,df⟩:=a
  obtain ⟨sz,ai,t1,t6,t7,t18,t19,t20⟩:=hA
  dsimp only at sz ai t1 t6 t7 t18 t19 t20
  subst ai
  obtain ⟨u0,u1,u2,u3,u4,u5,u6,u7,u8,u9,b8,cu,b6,cf,co,cj,bz,cl,b0,b4,b9,cx,b3,b1,ci,bv,cq,ct,cz,bw,cy,cg,dd,rfl⟩:=XT sz
  simp only [dY,dX,dQ,aC] at t1 t6 t7 t18 t19 t20
  subst t1 t6 t7 t18 t19 t20
  obtain ⟨aa,ac,bb⟩:=hI.row.slice
  subst bb
  rw [show Item.code allL=Item.code (.seq DF (.seq (.cond (.tmp 21) .skip (.exit 0)) (.seq (.block 1 (.seq ES (.seq xJ yg))) xM))) from by rw [Hm.IV]]
  refine Wq.seq (Wq.walk λt d Q hN _=>Hm.Un j _ _ (hN _ _ (Wq.same (y:=w) (λ_ _=>rfl) ?_)))
  refine Wq.seq (Wq.cond (t:=decide (j < ps.length)) rfl ?_)
  rw [if_neg (by simp [hj])]
  refine Wq.exit (k':=[.code (.seq xg .ret)]) rfl (Wq.seq (Wq.walk λt d Q hN _=>Hm.VL aa _ ac _ (hN _ _ (Wq.same (y:=w) (λ_ _=>rfl) ?_))))
  refine Wq.ret λtodo=>Wq.leave (v:=.tuple #[.slice aa pl.length ac,.int .i64 0]) (fn:=Tryz.f12) rfl rfl rfl (fq Tryz.func12 rfl) (ND rfl rfl) ?_
  rw [fF,ho]
  exact ba D w _ pl hI.row hI.strs (by rw [<-hj];exact (hI.rm.some (by omega)).1) hI.jR
 |succ r ih=>
  intro j hj D w a kb nb vu us dl vo vw ws nm os cnt ep sq va pl hI hA
  have ao:j < ps.length:=by omega
  have ag:j < (ps.map Prod.fst).length:=by rw [aU];exact ao
  obtain ⟨g,off,az,cc,_⟩:=Hm.Rd.pos J.1 (by omega)
  cases cc
  obtain ⟨tm,df⟩:=a
  obtain ⟨sz,ai,t1,t6,t7,t18,t19,t20⟩:=hA
  dsimp only at sz ai t1 t6 t7 t18 t19 t20
  subst ai
  obtain ⟨u0,u1,u2,u3,u4,u5,u6,u7,u8,u9,b8,cu,b6,cf,co,cj,bz,cl,b0,b4,b9,cx,b3,b1,ci,bv,cq,ct,cz,bw,cy,cg,dd,rfl⟩:=XT sz
  simp only [dY,dX,dQ,aC] at t1 t6 t7 t18 t19 t20
  subst t1 t6 t7 t18 t19 t20
  rw [show Item.code allL=Item.code (.seq DF (.seq (.cond (.tmp 21) .skip (.exit 0)) (.seq (.block 1 (.seq ES (.seq xJ yg))) xM))) from by rw [Hm.IV]]
  refine Wq.seq (Wq.walk λt d Q hN _=>Hm.Un j _ _ (hN _ _ (Wq.same (y:=w) (λ_ _=>rfl) ?_)))
  refine Wq.seq (Wq.cond (t:=decide (j < ps.length)) rfl ?_)
  rw [if_pos (by simp [ao])]
  refine Wq.skip (Wq.seq (Wq.block (Wq.seq ?_)))
  obtain ⟨p,bd⟩:∃p,ps[j]? =some p:=⟨_,aG ao⟩
  have aq:p∈ps:=aQ bd
  have a2:=Q8 bd
  have af:Dv.small p.1=true:=by rw [<-a2];exact Dv.nS _ none (Dv.kJ hc).2.2.1 j ag
  obtain ⟨k0,k1,k2,k3⟩:=(rW J hI.jR).get bd
  obtain ⟨ta,tc,bg⟩:=Hm.Rd.slice (J.2 p aq).1
  obtain ⟨la,lc,bh⟩:=Hm.Rd.slice (J.2 p aq).2.1
  rw [bg] at k2
  rw [bh] at k3
  refine Wq.walk λt d Q hN _=>Hm.YI g off _ vc j p.1.id p.1.time ta _ tc la _ lc _ ao k0 k1 k2 k3 (λw2 av=>hN _ _ ?_)
  rw [show (on w t d).heap.size=w.heap.size from rfl]
  have av:w2.heap=(w.alloc (.cells #[.int .i64 p.1.id,.int .i64 p.1.time,.slice ta p.1.txs.length tc,.slice la p.1.logs.length lc] 42)).heap:=av
  have z:=hI.kept (um av)
  have ca:w2.heap[w.heap.size]? =some (.cells #[.int .i64 p.1.id,.int .i64 p.1.time,.slice ta p.1.txs.length tc,.slice la p.1.logs.length lc] 42 (0,0)):=by
   rw [av]
   exact heap_alloc_new _ _
  refine Wq.seq ?_
  obtain ⟨di,bm⟩:=OJ
  rw [bm]
  refine Wq.region ?_
  rw [Ib]
  obtain ⟨p0,db,bs,cp,b2⟩:∃o,Jy[0]? =some o/\o.op=.move (.tmp 7)/\o.dst=some 24/\o.guard=none:=⟨_,rfl,rfl,rfl,rfl⟩
  obtain ⟨p1,cv,bo,cn,cb⟩:∃o,Jy[1]? =some o/\o.op=.load 42 (.tmp 9)/\o.dst=some 25/\o.guard=none:=⟨_,rfl,rfl,rfl,rfl⟩
  obtain ⟨p2,cm,bn,ck,c4⟩:∃o,Jy[2]? =some o/\o.op=.call { callee:=.value (.func 39),args:=#[.tmp 24,.tmp 25],argTypes:=#[93,42] }/\o.dst=some 26/\o.guard=none:=⟨_,rfl,rfl,rfl,rfl⟩
  refine Wq.val (v:=ptr kb) (x':=w2) db b2 (λt d=>by unfold execOp;simp only [bs];rfl) ?_
  rw [cp]
  refine Wq.val (v:=.agg #[.int .i64 p.1.id,.int .i64 p.1.time,.slice ta p.1.txs.length tc,.slice la p.1.logs.length lc]) (x':=w2) cv cb (λt d=>by
   have c:=aA (show (on w2 t d).heap[w.heap.size]? =_ from ca)
   have c0:=c 0
   have c1:=c 1
   have c2:=c 2
   have c3:=c 3
   unfold execOp
   simp only [bo]
   simp [go_sem,Act.put,Act.eval,c0,c1,c2,c3]) ?_
  rw [cn]
  have ay:=(rW J z.jR).2 p aq
  rw [bg,bh] at ay
  have s2:=z.jR.size
  have de:=z.osl
  refine VX rd cm (Cr.kG c4) bn rfl rfl (by omega) z.ts ay (λq hq=>?ap) af ab (by rw [z.rm.len];omega) (by omega) z.fits (z.much hc ab (by omega)) ?_
  case ap=>
   have dg:q < w0.heap.size:=by
    have hu:=J.2 p aq
    rw [bg,bh] at hu
    rcases hq with ⟨hn,e⟩|⟨hn,e⟩
    ·exact XW hu.1 hn e
    ·exact XW hu.2.1 hn e
   exact ⟨by omega,λe=>by have:=z.low q e;omega⟩
  intro D3 w3 an v3 aj ax I bj aw bk am a7 c6 a9 a3
  rw [ck]
  refine Wq.done ?_
  have ar:=z.rm.took ag (by omega) (v:=v3) (cs':=lives bj aw) (ws':=ws++I) (by rw [a2,a3,z.rm.len])
  rw [a2] at ar
  have Y:=Aa z.ts am z.row (by decide) (by decide) (by decide) (by decide) (by decide)
  have ah:∀q,q∈pl->kM w3 q.2.1 q.1.txs/\kM w3 q.2.2 q.1.deps:=λq hq=>
   ⟨Aa z.ts am (z.strs q hq).1 (by decide) (by decide) (by decide) (by decide) (by decide),Aa z.ts am (z.strs q hq).2 (by decide) (by decide) (by decide) (by decide) (by decide)⟩
  have a0:∀i,(Vw dl us.length p.1 i).length<=4294967296:=λi=>by
   unfold Vw
   split
   ·exact WZ p.1 af
   ·exact z.hdl i
  have ae:=RT.count ar hc ab ag
  rw [aU] at ae
  have a8:=ar.good hc ab ag
  obtain ⟨aa,ac,bb⟩:=Y.slice
  subst bb
  have E:∀q,Tk kb nb an aj ax aw q->w0.heap.size<=q:=λq hq=>by
   rcases a7 q hq with e|e
   ·exact z.low q e
   ·omega
  refine Wq.walk λt d Q hN _=>Hm.Ws kb aa pl.length ac (RD c (us++[(p.1.id,p.1.time,v3)]) (Vw dl us.length p.1) kb nb an aj ax ⟨ws++I,cnt,ep,sq⟩ pl (.slice aa pl.length ac) w3) _ ?calls (λc5 n4 ce w4 hX=>hN _ _ ?_)
  case calls=>
   have hb:RowKit.Below w3.heap.size (on w3 t d) ((on w3 t d).alloc (.cells #[.pointer (some ⟨kb,0,none⟩)] 93)):=(RowKit.Below.refl (on w3 t d).heap.size (on w3 t d)).alloc jC _
   have c9:TS (on w3 t d) kb nb c an (us++[(p.1.id,p.1.time,v3)]) (Vw dl us.length p.1) aj ax (ws++I) bj aw cnt ep sq:=bk.heap rfl
   refine (Hm.Dc kb w3.heap.size c an (us++[(p.1.id,p.1.time,v3)]) (Vw dl us.length p.1) nb aj ax ⟨ws++I,cnt,ep,sq⟩ (.slice aa pl.length ac) pl ((on w3 t d).alloc (.cells #[.pointer (some ⟨kb,0,none⟩)] 93)) a8 (by omega) a0 (c9.d.below hb) (Boxed.new _ _ _) (by simp) ((Y.heap (w':=on w3 t d) rfl).below hb) (λq hq=>⟨Hm.Row.below (Hm.Row.heap (w':=on w3 t d) (ah q hq).1 rfl) hb,Hm.Row.below (Hm.Row.heap (w':=on w3 t d) (ah q hq).2 rfl) hb⟩) ae).mono ?_
   rintro e W' ⟨R,au,a',az,rfl,q1,q2,q3,q4,q5,q6,q7⟩
   refine ⟨a',_,az,rfl,R,au,rfl,q1,q2,q3,q4,q5,?_,λg hg=>(q7 g hg).imp id (λq=>aW hb.size q)⟩
   exact ((Hm.jL.below hb jC _).trans q6 (λ_ _ e=>e)).h.heaps rfl rfl
  obtain ⟨R,au,cr,bu,bp,a6,a4,a1,bq,a5⟩:=hX
  subst cr
  have br:=ar.drawn hc ab ag bu
  unfold Hm.Vr at a1
  generalize (Hm.qW.mk (Hm.jJ c (us++[(p.1.id,p.1.time,v3)]) (Hm.jK ⟨ws++I,cnt,ep,sq⟩ R).ws (Hm.jK ⟨ws++I,cnt,ep,sq⟩ R).cnt (Hm.jK ⟨ws++I,cnt,ep,sq⟩ R).ep).2 (Hm.jK ⟨ws++I,cnt,ep,sq⟩ R).cnt (Hm.jK ⟨ws++I,cnt,ep,sq⟩ R).ep (Hm.jK ⟨ws++I,cnt,ep,sq⟩ R).sq)=s4 at a1 br
  obtain ⟨bx,cd,bl⟩:=a1
  refine Wq.inBlock (Wq.walk λt d Q hN _=>Hm.W9 j _ (by omega) (hN _ _ (Wq.same (y:=w4) (λ_ _=>rfl) (Wq.inLoop ?_))))
  have ak:∀q,(Value.slice aa pl.length ac).ownBlock=some q->w0.heap.size<=q:=z.vlow
  have cw:=TS.drawn bk cd Y bq (λe=>by have:=ak _ e;omega)
  have s3:=am.size
  refine ih (j+1) (by omega) D3 w4 _ kb nb an (us++[(p.1.id,p.1.time,v3)]) (Vw dl us.length p.1) aj bx s4.ws bj aw s4.cnt s4.ep s4.sq (.slice c5 (pl++au).length ce) (pl++au) ⟨cw,?_,a6,a4,by omega,a9,a0,λq hq=>?_,λg hg=>?_,?_⟩ ⟨rfl,rfl,rfl,rfl,rfl,rfl,rfl,rfl⟩
  ·rw [aY,bp]
   exact br
  ·rcases hq with e|e|e|e
   ·exact E q (.inl e)
   ·exact E q (.inr (.inl e))
   ·exact E q (.inr (.inr (.inl (bl q e))))
   ·exact E q (.inr (.inr (.inr e)))
  ·rcases a5 g hg with e|e
   ·exact ak g e
   ·omega
  ·refine (z.jR.trans am (λq hq e=>?_)).trans bq (λq hq e=>?_)
   ·have:=z.low q e;omega
   ·rcases e with (e|e)|e
    ·have:=E q (.inl e);omega
    ·have:=E q (.inr (.inr (.inl e)));omega
    ·have:=ak q e;omega
end
structure pV (w:World):Prop where
 hd:kU w
 ty:∃hc t fz,w.heap[1]? =some (.cells hc t fz)/\t≠137/\t≠150/\t≠139/\t≠197/\t≠201
theorem pV.kept (h:pV w) (q:kF (λ_=>False) w w'):pV w':=⟨Hm.mZ h.hd q (λe=>e),by rw [q.block _ h.hd.pos (λe=>e)];exact h.ty⟩
section
variable {Post:Eh} {D:Nat->Prop} {Z A:List Frame} {w:World} {c:Cf} {ps:List PU} {xa:Option Addr} {vc:Nat}
theorem Kr (rd:Cr.ReadW) {b₀:Frame} {a₀:Act} {ops:Array Oper} {i:Nat} {rest:List Nat} {k:List Item} {o:Oper} {x y:Operand} {a0:Array TypeId} (ho:ops[i]? =some o) (hw:Region.wanted o (yielded ops a₀.tmps)=true)
  (a1:o.op=.call { callee:=.value (.func 12),args:=#[x,y],argTypes:=a0 }) (ex:a₀.eval x=.agg (jI c)) (ey:a₀.eval y=.slice xa ps.length vc)
  (ax:Tryz.prog.globals.size<=w.heap.size) (ae:lN w (.slice xa ps.length vc) ps) (ar:ps.length<=4294967296) (hH:pV w)
  (R:∀D' w' va (pl:List Hm.PL),Hm.Row w' 62 8 va pl.length (pl.flatMap ku)->(∀p,p∈pl->kM w' p.2.1 p.1.txs/\kM w' p.2.2 p.1.deps)->pl.map Prod.fst=(Dv.all c (ps.map Prod.fst)).2->kF (λ_=>False) w w'->
   Wq D' Post Z (b₀.at (a₀.put o.dst (.tuple #[va,.int .i64 (Dv.all c (ps.map Prod.fst)).1])) (.inRegion ops rest::k)) A w'):
  Wq D Post Z (b₀.at a₀ (.inRegion ops (i::rest)::k)) A w:=by
 refine Wq.call ho hw a1 (fq Tryz.func12 rfl) rfl Hm.TT ?_
 simp only [fJ,dW,fG,ex,ey,show Tryz.f12.ntmps=33 from rfl,dL,aN,bM,Nat.reduceAdd,Nat.reduceSub,cO,bZ,dN,cZ,dM,dH]
 have bad:∀(a':Act) (w':World) (todo:List Item) (er:Int),a'.defers=[]->a'.tmps[4]? =some (.slice none 0 0)->a'.tmps[5]? =some (.int .i64 er)->kF (λ_=>False) w w'->Dv.all c (ps.map Prod.fst)=(er,[])->Wq D Post Z { (base 12).at a' todo with mode:=.returning } (b₀.at a₀ (.inRegion ops (i::rest)::k)::A) w':=by
  intro a' w' todo er h0 h4 h5 ay z
  refine Wq.leave (v:=.tuple #[.slice none 0 0,.int .i64 er]) (fn:=Tryz.f12) rfl h0 rfl (fq Tryz.func12 rfl) (ND h4 h5) ?_
  rw [fF,ho]
  have:=R D w' (.slice none 0 0) [] (Hm.Row.nil _ _ _) (λp hp=>by simp at hp) (by rw [z];rfl) ay
  rw [z] at this
  exact this
 refine Wq.seq (Wq.walk λt d Q hN _=>Hm.Zo c _ (hN _ _ (Wq.same (y:=w.alloc (.cells (jI c) 24)) (λ_ _=>rfl) ?_)))
 obtain ⟨w1,af⟩:∃w1,w1=w.alloc (.cells (jI c) 24):=⟨_,rfl⟩
 have ab:kF (λ_=>False) w w1:=um (by rw [af])
 have ak:w1.heap[w.heap.size]? =some (.cells (jI c) 24 (0,0)):=by rw [af];exact heap_alloc_new _ _
 have cf:∀{v:World},kF (λ_=>False) w1 v->v.heap[w.heap.size]? =some (.cells (jI c) 24 (0,0)):=λh=>(h.block _ (jE ak) (λe=>e)).trans ak
 have aa:∀{u v:World} {t d},RowKit.Below u.heap.size (on u t d) v->kF (λ_=>False) u v:=λh=>((Hm.jL.below h jC (λ_=>False)).h).heaps rfl rfl
 rw [<-af]
 refine Wq.seq ?_
 have E:=λt d=>su (w:=on w1 t d) ak
 cases I:Dv.jQ c with
 |false=>exact Wq.walk λt d Q _ hR=>Hm.MO c _ _ (E t d 0) (E t d 1) (E t d 2) (E t d 3) (E t d 4) (E t d 5) (E t d 6) I (λw2 ai=>hR _ _ λtodo=>bad _ w2 todo 1 rfl rfl rfl (ab.trans (aa (u:=w1) ai) (λ_ _ e=>e)) (by unfold Dv.all;rw [I];rfl))
 |true=>
  refine Wq.walk λt d Q hN _=>Hm.Yu c _ _ (E t d 0) (E t d 1) (E t d 2) (E t d 3) (E t d 4) (E t d 5) (E t d 6) I (λw2 ai=>hN _ _ ?_)
  have ah:kF (λ_=>False) w1 w2:=aa ai
  have ac:=rW ae (ab.trans ah (λ_ _ e=>e))
  refine Wq.seq ?_
  cases Y:Dv.jS (ps.map Prod.fst) with
  |false=>exact Wq.walk λt d Q _ hR=>Hm.J9 xa _ vc ps _ (Ic ac rfl) ar Y (λw3 aj=>hR _ _ λtodo=>bad _ w3 todo 2 rfl rfl rfl ((ab.trans ah (λ_ _ e=>e)).trans (aa (u:=w2) aj) (λ_ _ e=>e)) (by unfold Dv.all;rw [I,Y];rfl))
  |true=>
   refine Wq.walk λt d Q hN _=>Hm.Zp xa _ vc ps _ (Ic ac rfl) ar Y (λw3 aj=>hN _ _ ?_)
   have aq:=ah.trans (aa (u:=w2) aj) (λ_ _ e=>e)
   have b3:=cf aq
   have k3:=λt d=>su (w:=on w3 t d) b3
   refine Wq.seq (Wq.walk λt d Q hN _=>Hm.Yp _ (hN _ _ (Wq.same (y:=w3) (λ_ _=>rfl) (Wq.seq ?_))))
   refine Wq.walk λt d Q hN _=>Hm.YE c _ _ (k3 t d 0) (k3 t d 1) (k3 t d 2) (k3 t d 3) (k3 t d 4) (k3 t d 5) (k3 t d 6) (λw4 av=>hN _ _ ?_)
   have ag:w4.heap=(((w3.alloc (.cells (jI c) 24)).alloc (.map #[] 0)).alloc (.cells (jO c (.slice none 0 0) (w3.heap.size+1) (.slice none 0 0) (.slice none 0 0) 0 0 0) 137)).heap:=by rw [av];rfl
   have J:=ab.trans aq (λ_ _ e=>e)
   have s3:=J.size
   have an:=hH.kept J
   have az:=Zq c an.hd an.ty ag
   have ap:kF (λ_=>False) w3 w4:=⟨by rw [ag];simp;omega,λj hj _=>by
    rw [ag,fM _ _ _ (by simp;omega),fM _ _ _ (by simp;omega),fM _ _ _ hj]⟩
   refine Wq.seq (Wq.seq (Wq.walk λt d Q hN _=>Hm.Yf xa _ vc _ (hN _ _ (Wq.same (y:=w4) (λ_ _=>rfl) (Wq.block (Wq.loop ?_))))))
   refine I9 rd ho Y I ax ae ?_ ps.length 0 (by omega) D w4 _ (w3.heap.size+2) (w3.heap.size+1) (.slice none 0 0) [] (λ_=>[]) (.slice none 0 0) (.slice none 0 0) [] [] [] 0 0 0 (.slice none 0 0) [] ⟨az,Hm.RM.start _ _ _,Hm.Row.nil _ _ _,λp hp=>by simp at hp,by simp,λx hx=>by simp [lives] at hx,λi=>by simp,λq hq=>by
     rcases hq with e|e|e|e|e|⟨x,hx,_⟩
     ·omega
     ·cases e
     ·cases e
     ·omega
     ·cases e
     ·simp at hx,λg hg=>(by cases hg),J.trans ap (λ_ _ e=>e)⟩ ⟨rfl,rfl,rfl,rfl,rfl,rfl,rfl,rfl⟩
   intro D7 w7 va pl au am ao aw
   have z:Dv.all c (ps.map Prod.fst)=(0,(Dv.gone c (ps.map Prod.fst) ps.length).log):=by
    unfold Dv.all
    rw [I,Y,aU]
    rfl
   have:=R D7 w7 va pl au am (by rw [z];exact ao) aw
   rw [z] at this
   exact this
end
end
end Pa
namespace Hm
open Go.RowKit Go.Joins Go.Shelf
section
variable {Q:Exit->Act->World->Prop}
noncomputable def Ob:Code:=match Tryz.f21.body with
 |some (.seq c _)=>c
 |_=>.skip
noncomputable def NU:Code:=match Tryz.f21.body with
 |some (.seq _ (.seq c _))=>c
 |_=>.skip
noncomputable def NI:Code:=match Tryz.f21.body with
 |some (.seq _ (.seq _ (.seq c _)))=>c
 |_=>.skip
noncomputable def VJ:Code:=match Tryz.f21.body with
 |some (.seq _ (.seq _ (.seq _ c)))=>c
 |_=>.skip
theorem Ti:Tryz.f21.body=some (.seq Ob (.seq NU (.seq NI VJ))):=by kernel_rfl
theorem aap {u0 u1 u4 u5 u6 u7 u8 u9 ah bj af ax bd a1 R a6 Y ac ai bm ab aa a0 E bg bh bo I bn az bq ar aj a7 bl au a3 aw a9 a4 an bb a5 a8 a2 J ae ag ap am z aq bs ay av bp ak br ao bk ba:Value} (g off cap:Nat) (w:World) {xs:List Value} (q:Row w 62 8 (.slice (some ⟨g,off,none⟩) 3 cap) 3 xs)
  (k1:xs[10]? =some (.int .i64 0)) (k2:xs[9]? =some (.int .i64 2)) (k3:xs[18]? =some (.int .i64 1)) (k4:xs[19]? =some (.int .i64 6)) (k5:xs[23]? =some (.int .i64 2)) (va:Option Addr) (vc:Nat) (k6:xs[22]? =some (.slice va 1 vc))
  (hQ:∀tm:Array Value,tm[0]? =some (.bool true)->Q .ret { tmps:=tm,defers:=[] } w):
  VJ.wp PQ Q { tmps:=#[u0,u1,.slice (some ⟨g,off,none⟩) 3 cap,.int .i64 0,u4,u5,u6,u7,u8,u9,ah,bj,af,ax,bd,a1,R,a6,Y,ac,ai,bm,ab,aa,a0,E,bg,bh,bo,I,bn,az,bq,ar,aj,a7,bl,au,a3,aw,a9,a4,an,bb,a5,a8,a2,J,ae,ag,ap,am,z,aq,bs,ay,av,bp,ak,br,ao,bk,ba],defers:=[] } w:=by
 have c1:=q.cell rfl _ _ k1
 have c2:=q.cell rfl _ _ k2
 have c3:=q.cell rfl _ _ k3
 have c4:=q.cell rfl _ _ k4
 have c5:=q.cell rfl _ _ k5
 have c6:=q.cell rfl _ _ k6
 have HQ:Hid _:=hQ
 clear hQ q k1 k2 k3 k4 k5 k6
 simp only [VJ,Tryz.f21]
 go_wp2_with fail
 exact HQ _ rfl
theorem Yy (w:World) (q:Q .normal { tmps:=#[.bool false,undef,undef,undef,undef,undef,undef,undef,undef,undef,undef,undef,undef,undef,undef,undef,undef,undef,undef,undef,undef,undef,undef,undef,undef,undef,undef,undef,undef,undef,undef,undef,undef,undef,undef,undef,undef,undef,undef,undef,undef,undef,undef,undef,undef,undef,undef,undef,undef,undef,undef,undef,undef,undef,undef,undef,undef,undef,undef,undef,undef,undef,undef],defers:=[] } w):Ob.wp PQ Q { tmps:=#[undef,undef,undef,undef,undef,undef,undef,undef,undef,undef,undef,undef,undef,undef,undef,undef,undef,undef,undef,undef,undef,undef,undef,undef,undef,undef,undef,undef,undef,undef,undef,undef,undef,undef,undef,undef,undef,undef,undef,undef,undef,undef,undef,undef,undef,undef,undef,undef,undef,undef,undef,undef,undef,undef,undef,undef,undef,undef,undef,undef,undef,undef,undef],defers:=[] } w:=by
 simp only [Ob,Tryz.f21]
 go_wp2_with fail
 exact q
theorem Y5 (w:World) (q:Q .normal { tmps:=#[.bool false,.pointer (some ⟨w.heap.size,0,none⟩),undef,undef,.agg #[.int .u32 0,.int .u32 0,.int .i64 1,.int .i64 1,.int .i64 100,.int .i64 2,.int .i64 100],undef,undef,undef,undef,undef,undef,undef,undef,undef,undef,undef,undef,undef,undef,undef,undef,undef,undef,undef,undef,undef,undef,undef,undef,undef,undef,undef,undef,undef,undef,undef,undef,undef,undef,undef,undef,undef,undef,undef,undef,undef,undef,undef,undef,undef,undef,undef,undef,undef,undef,undef,undef,undef,undef,undef,undef,undef,undef],defers:=[] } (w.alloc (.cells #[.int .u32 0,.int .u32 0,.int .i64 1,.int .i64 1,.int .i64 100,.int .i64 2,.int .i64 100] 24))):NU.wp PQ Q { tmps:=#[.bool false,undef,undef,undef,undef,undef,undef,undef,undef,undef,undef,undef,undef,undef,undef,undef,undef,undef,undef,undef,undef,undef,undef,undef,undef,undef,undef,undef,undef,undef,undef,undef,undef,undef,undef,undef,undef,undef,undef,undef,undef,undef,undef,undef,undef,undef,undef,undef,undef,undef,undef,undef,undef,undef,undef,undef,undef,undef,undef,undef,undef,undef,undef],defers:=[] } w:=by
 simp only [NU,Tryz.f21]
 go_wp2_with fail
 exact q
end
end Hm
namespace Pa
open Go Go.Conc Go.RowKit Go.Joins
open Hm (ptr jY jI kF oG lN PU ku kM Ob NU NI VJ)
open Dv (U Cf)
open Po hiding U H B IT PR NB
section
def Qg:Cf:={ inbox:=0,batcher:=0,timeout:=1,window:=1,drift:=100,step:=2,most:=100 }
def Py:List UInt8:=[194,7,128]
def aaR:List U:=[⟨5,0,[],[]⟩,⟨6,3,[],[Py]⟩,⟨7,6,[],[]⟩]
def Q9:List Dv.Lo:=[⟨0,0,0,5,0,[],[],0⟩,⟨1,2,0,5,1,[],[],2⟩,⟨2,4,1,6,0,[],[Py],2⟩]
theorem Xb:Dv.all Qg aaR=(0,Q9):=by kernel_rfl
noncomputable def opsL:Array Oper:=match NI with
 |.region _ ops _=>ops
 |_=>#[]
theorem TQ:∃q,NI=.region q opsL false:=⟨_,rfl⟩
theorem MZ:List.range opsL.size=[0,1,2,3,4,5,6,7,8,9,10,11]:=by kernel_rfl
theorem Ny {t:TypeId} {n:Nat} {z:Value} (h:(PQ.info? t).map (λi=>(i.size,i.zero))=some (n,some z)):∃q,PQ.info? t=some q/\q.size=n/\q.zero=some z:=by
 cases E:PQ.info? t with
 |none=>rw [E] at h;cases h
 |some q=>
  rw [E] at h
  simp only [bQ,aC,dA] at h
  exact ⟨q,rfl,h.1,h.2⟩
theorem KG:∃q,PQ.info? 42=some q/\q.size=4/\q.zero=some (.agg #[.int .i64 0,.int .i64 0,.slice none 0 0,.slice none 0 0]):=Ny (by kernel_rfl)
theorem JY:∃q,PQ.info? 9=some q/\q.size=1/\q.zero=some (.string ⟨#[]⟩):=Ny (by kernel_rfl)
theorem UU (w:World):(Instr.build 42 #[(0,.int .i64 5)]).run PQ w=.ok (.agg #[.int .i64 5,.int .i64 0,.slice none 0 0,.slice none 0 0]) w:=run_build w _ _ _ (by kernel_rfl)
theorem bl9 (w:World) (n:Nat):(Instr.build 42 #[(0,.int .i64 6),(1,.int .i64 3),(3,.slice (some ⟨n,0,none⟩) 1 1)]).run PQ w=.ok (.agg #[.int .i64 6,.int .i64 3,.slice none 0 0,.slice (some ⟨n,0,none⟩) 1 1]) w:=run_build w _ _ _ (by kernel_rfl)
theorem abt (w:World):(Instr.build 42 #[(0,.int .i64 7),(1,.int .i64 6)]).run PQ w=.ok (.agg #[.int .i64 7,.int .i64 6,.slice none 0 0,.slice none 0 0]) w:=run_build w _ _ _ (by kernel_rfl)
def Bj (n:Nat):Array Value:=#[.int .i64 5,.int .i64 0,.slice none 0 0,.slice none 0 0,.int .i64 6,.int .i64 3,.slice none 0 0,.slice (some ⟨n,0,none⟩) 1 1,.int .i64 7,.int .i64 6,.slice none 0 0,.slice none 0 0]
theorem bs8 (w:World):(Instr.buildSlice 40 1 #[(0,.string ⟨#[194,7,128]⟩)]).run PQ w=.ok (.slice (some ⟨w.heap.size,0,none⟩) 1 1) (w.alloc (.cells #[.string ⟨#[194,7,128]⟩] 9)):=by
 obtain ⟨q,z,h2,h3⟩:=JY
 exact run_buildSlice w _ _ 1 _ _ q _ (uq Tryz.underlying40) z h3 (by rw [h2];decide) (by rw [h2];decide) (by rw [h2];kernel_rfl)
theorem abv (w:World) (n:Nat):(Instr.buildSlice 25 3 #[(0,.agg #[.int .i64 5,.int .i64 0,.slice none 0 0,.slice none 0 0]),(1,.agg #[.int .i64 6,.int .i64 3,.slice none 0 0,.slice (some ⟨n,0,none⟩) 1 1]),(2,.agg #[.int .i64 7,.int .i64 6,.slice none 0 0,.slice none 0 0])]).run PQ w=.ok (.slice (some ⟨w.heap.size,0,none⟩) 3 3) (w.alloc (.cells (Bj n) 42)):=by
 obtain ⟨q,z,h2,h3⟩:=KG
 exact run_buildSlice w _ _ 3 _ _ q _ (uq Tryz.underlying25) z h3 (by rw [h2];decide) (by rw [h2];decide) (by rw [h2];kernel_rfl)
def lv (n:Nat):Value:=.slice (some ⟨n,0,none⟩) 1 1
def Iz (n:Nat):List PU:=[(⟨5,0,[],[]⟩,.slice none 0 0,.slice none 0 0),(⟨6,3,[],[Py]⟩,.slice none 0 0,lv n),(⟨7,6,[],[]⟩,.slice none 0 0,.slice none 0 0)]
theorem QN (n:Nat):(Iz n).map Prod.fst=aaR:=rfl
theorem zI (w:World) (s:Nat):Hm.Rd w s (.slice none 0 0) 0 []:=⟨by simp,none,0,rfl,jC,λh=>absurd h (by omega)⟩
theorem Vp {w:World} {n m:Nat} (z:w.heap[n]? =some (.cells #[.string ⟨#[194,7,128]⟩] 9 (0,0))) (h2:w.heap[m]? =some (.cells (Bj n) 42 (0,0))):lN w (.slice (some ⟨m,0,none⟩) (Iz n).length 3) (Iz n):=by
 have E:oG w ⟨5,0,[],[]⟩ (.slice none 0 0) (.slice none 0 0):=⟨zI w 3,zI w 1,by simp,by simp⟩
 have J:oG w ⟨7,6,[],[]⟩ (.slice none 0 0) (.slice none 0 0):=⟨zI w 3,zI w 1,by simp,by simp⟩
 have I:oG w ⟨6,3,[],[Py]⟩ (.slice none 0 0) (lv n):=by
  refine ⟨zI w 3,⟨rfl,some ⟨n,0,none⟩,1,rfl,jC,λ_=>⟨n,0,rfl,(jE z),λj u q=>?_⟩⟩,by simp,by simp⟩
  rw [aA z,fC]
  match j,q with
  |0,q=>exact q
  |j+1,q=>simp [Py] at q
 refine ⟨⟨rfl,some ⟨m,0,none⟩,3,rfl,jC,λ_=>⟨m,0,rfl,(jE h2),λj u q=>?_⟩⟩,λp hp=>?_⟩
 ·rw [aA h2,fC]
  have:(Iz n).flatMap Hm.rV=(Bj n).toList:=rfl
  rw [this,Array.getElem?_toList] at q
  exact q
 ·simp only [Iz,bV,List.not_mem_nil,or_false] at hp
  rcases hp with rfl|rfl|rfl
  ·exact E
  ·exact I
  ·exact J
section
variable {Post:Eh} {D:Nat->Prop} {Z A:List Frame} {w:World}
theorem UG (rd:Cr.ReadW) {b₀:Frame} {a₀:Act} {ops:Array Oper} {i:Nat} {rest:List Nat} {k:List Item} {o:Oper} {an:Array TypeId} (ho:ops[i]? =some o) (hw:Region.wanted o (yielded ops a₀.tmps)=true)
  (ao:o.op=.call { callee:=.value (.func 21),args:=#[],argTypes:=an }) (aq:Tryz.prog.globals.size<=w.heap.size) (hH:pV w)
  (Y:∀D' w',kF (λ_=>False) w w'->Wq D' Post Z (b₀.at (a₀.put o.dst (.bool true)) (.inRegion ops rest::k)) A w'):
  Wq D Post Z (b₀.at a₀ (.inRegion ops (i::rest)::k)) A w:=by
 refine Wq.call ho hw ao (fq Tryz.func21 rfl) rfl Hm.Ti ?_
 simp only [fJ,fG,show Tryz.f21.ntmps=63 from rfl,dL,bM,Nat.sub_zero,cO,bZ,dN,cZ,dM,dH]
 refine Wq.seq (Wq.walk λt d Q hN _=>Hm.Yy _ (hN _ _ (Wq.same (y:=w) (λ_ _=>rfl) ?_)))
 refine Wq.seq (Wq.walk λt d Q hN _=>Hm.Y5 _ (hN _ _ (Wq.same (y:=w.alloc (.cells (jI Qg) 24)) (λ_ _=>rfl) (Wq.seq ?_))))
 rw [show (on w t d).heap.size=w.heap.size from rfl]
 obtain ⟨w2,R⟩:∃w2,w2=w.alloc (.cells (jI Qg) 24):=⟨_,rfl⟩
 have ah:kF (λ_=>False) w w2:=um (by rw [R])
 have hb:w2.heap[w.heap.size]? =some (.cells (jI Qg) 24 (0,0)):=by rw [R];exact heap_alloc_new _ _
 rw [<-R]
 obtain ⟨ar,ac⟩:=TQ
 rw [ac]
 refine Wq.region ?_
 rw [MZ]
 refine Wq.zF (.load 24 (.tmp 1)) (some 6) (.agg (jI Qg)) w2 rfl (λt d o h=>by
  have c:=su (w:=on w2 t d) hb
  have k0:=c 0
  have k1:=c 1
  have k2:=c 2
  have k3:=c 3
  have k4:=c 4
  have k5:=c 5
  have k6:=c 6
  unfold execOp
  simp only [h]
  simp [go_sem,Act.eval,k0,k1,k2,k3,k4,k5,k6,jI]) ?_
 refine Wq.zF (.build 42 #[(0,.const (.int .i64 5))]) (some 7) (.agg #[.int .i64 5,.int .i64 0,.slice none 0 0,.slice none 0 0]) w2 rfl (λt d o h=>by
  unfold execOp
  simp only [h,fJ,dW,fG,Act.eval,iT,UU,gW]
  rfl) ?_
 obtain ⟨n,hn⟩:∃n,n=w2.heap.size:=⟨_,rfl⟩
 obtain ⟨w3,aa⟩:∃w3,w3=w2.alloc (.cells #[.string ⟨#[194,7,128]⟩] 9):=⟨_,rfl⟩
 refine Wq.zF (.buildSlice 40 1 #[(0,.const (.string ⟨#[194,7,128]⟩))]) (some 8) (lv n) w3 rfl (λt d o h=>by
  unfold execOp
  simp only [h,fJ,dW,fG,Act.eval,iT,bs8,gW]
  rw [aa,hn]
  rfl) ?_
 have ai:kF (λ_=>False) w2 w3:=um (by rw [aa])
 have n3:w3.heap[n]? =some (.cells #[.string ⟨#[194,7,128]⟩] 9 (0,0)):=by rw [aa,hn];exact heap_alloc_new _ _
 simp only [Act.put,bH,dJ,dI]
 refine Wq.zF (.build 42 #[(0,.const (.int .i64 6)),(1,.const (.int .i64 3)),(3,.tmp 8)]) (some 9) (.agg #[.int .i64 6,.int .i64 3,.slice none 0 0,.slice (some ⟨n,0,none⟩) 1 1]) w3 rfl (λt d o h=>by
  unfold execOp
  simp only [h,fJ,dW,fG,Act.eval,eU,dY,dX,dQ,fB,lv,iT,bl9,gW]
  rfl) ?_
 refine Wq.zF (.build 42 #[(0,.const (.int .i64 7)),(1,.const (.int .i64 6))]) (some 10) (.agg #[.int .i64 7,.int .i64 6,.slice none 0 0,.slice none 0 0]) w3 rfl (λt d o h=>by
  unfold execOp
  simp only [h,fJ,dW,fG,Act.eval,iT,abt,gW]
  rfl) ?_
 simp only [Act.put,bH,dJ,dI]
 obtain ⟨w4,J⟩:∃w4,w4=w3.alloc (.cells (Bj n) 42):=⟨_,rfl⟩
 refine Wq.zF (.buildSlice 25 3 #[(0,.tmp 7),(1,.tmp 9),(2,.tmp 10)]) (some 11) (.slice (some ⟨w3.heap.size,0,none⟩) (Iz n).length 3) w4 rfl (λt d o h=>by
  unfold execOp
  simp only [h,fJ,dW,fG,Act.eval,eU,dY,dX,dQ,fB,iT,abv,gW]
  rw [J]
  rfl) ?_
 have af:kF (λ_=>False) w3 w4:=um (by rw [J])
 have n4:w4.heap[n]? =some (.cells #[.string ⟨#[194,7,128]⟩] 9 (0,0)):=(af.block _ (jE n3) (λe=>e)).trans n3
 have m4:w4.heap[w3.heap.size]? =some (.cells (Bj n) 42 (0,0)):=by rw [J];exact heap_alloc_new _ _
 have q:=(ah.trans ai (λ_ _ e=>e)).trans af (λ_ _ e=>e)
 have s4:=q.size
 simp only [Act.put,bH,dJ,dI]
 obtain ⟨x6,aj,ak,ag,am⟩:∃o,opsL[6]? =some o/\o.op=.call { callee:=.value (.func 12),args:=#[.tmp 6,.tmp 11],argTypes:=#[24,25] }/\o.dst=some 12/\o.guard=none:=⟨_,rfl,rfl,rfl,rfl⟩
 refine Kr rd (c:=Qg) (ps:=Iz n) aj (Cr.kG am) ak rfl rfl (by omega) (Vp n4 m4) (by simp [Iz]) (hH.kept q) ?_
 intro D5 I va pl E ab z ap
 rw [QN,Xb] at z⊢
 rw [ag]
 simp only [Act.put,bH,dJ,dI]
 refine Wq.zF (.move (.tmp 12)) (some 5) (.tuple #[va,.int .i64 0]) I rfl (λt d o h=>by unfold execOp;simp only [h];rfl) ?_
 simp only [Act.put,bH,dJ,dI]
 refine Wq.zF (.extract (.tmp 5) 0) (some 13) va I rfl (λt d o h=>by unfold execOp;simp only [h];rfl) ?_
 simp only [Act.put,bH,dJ,dI]
 refine Wq.zF (.extract (.tmp 5) 1) (some 14) (.int .i64 0) I rfl (λt d o h=>by unfold execOp;simp only [h];rfl) ?_
 simp only [Act.put,bH,dJ,dI]
 refine Wq.zF (.assign (.tmp 13)) (some 2) va I rfl (λt d o h=>by unfold execOp;simp only [h];rfl) ?_
 simp only [Act.put,bH,dJ,dI]
 refine Wq.zF (.assign (.tmp 14)) (some 3) (.int .i64 0) I rfl (λt d o h=>by unfold execOp;simp only [h];rfl) ?_
 simp only [Act.put,bH,dJ,dI]
 refine Wq.done ?_
 obtain ⟨p0,p1,p2,rfl,e0,e1,e2⟩:∃p0 p1 p2,pl=[p0,p1,p2]/\p0.1=(⟨0,0,0,5,0,[],[],0⟩:Dv.Lo)/\p1.1=(⟨1,2,0,5,1,[],[],2⟩:Dv.Lo)/\p2.1=(⟨2,4,1,6,0,[],[Py],2⟩:Dv.Lo):=by
  match pl,z with
  |[],h=>cases h
  |[_],h=>simp [Q9] at h
  |[_,_],h=>simp [Q9] at h
  |[p0,p1,p2],h=>
   simp only [dW,fG,Q9,List.cons.injEq,and_true] at h
   exact ⟨p0,p1,p2,rfl,h.1,h.2.1,h.2.2⟩
  |_::_::_::_::_,h=>simp [Q9] at h
 obtain ⟨g,off,cap,rfl,_⟩:=E.pos (by simp)
 obtain ⟨sa,sc,ae⟩:=(ab p2 (by simp)).2.slice
 rw [e2] at ae
 refine Wq.walk λt d Q _ hR=>Hm.aap g off cap (on I t d) (E.kept λ_ _=>rfl) ?_ ?_ ?_ ?_ ?_ sa sc ?_ (λtm h=>hR _ _ λtodo=>?_)
 ·simp [ku,e1]
 ·simp [ku,e1]
 ·simp [ku,e2]
 ·simp [ku,e2]
 ·simp [ku,e2]
 ·simp [ku,ae]
 refine Wq.leave (v:=.bool true) (fn:=Tryz.f21) rfl rfl rfl (fq Tryz.func21 rfl) (λw=>by
  have:tm[0]? =some (.bool true):=h
  simp [results,Tryz.results21,go_sem,Frame.at,this]) ?_
 rw [fF,ho]
 exact Wq.same (y:=I) (λ_ _=>rfl) (Y D5 I (q.trans ap (λ_ _ e=>e)))
end
end
end Pa
namespace Hm
open Go.RowKit Go.Joins Go.Shelf
open Fr (below_drewN)
open Dv (Lo)
def uQ (w:World) (v:Value) (ps:List PL):Prop:=Rd w 8 v ps.length (ps.flatMap ku)/\∀p,p∈ps->kM w p.2.1 p.1.txs/\kM w p.2.2 p.1.deps/\p.1.txs.length<=9223372036854775807/\p.1.deps.length<=9223372036854775807
theorem uQ.below {w w':World} {v:Value} {ps:List PL} (h:uQ w v ps) (q:Below w.heap.size w w'):uQ w' v ps:=⟨h.1.below q,λp hp=>⟨Row.below (h.2 p hp).1 q,Row.below (h.2 p hp).2.1 q,(h.2 p hp).2.2⟩⟩
theorem KH (p:PL):(ku p).length=8:=rfl
theorem uQ.cells {w:World} {g off cap:Nat} {ps:List PL} {n:Nat} (h:uQ w (.slice (some ⟨g,off,none⟩) n cap) ps) {i:Nat} {p:PL} (z:ps[i]? =some p):∀(j:Nat) (u:Value),(ku p)[j]? =some u->w.cell? ⟨g,off+(i * 8+j),none⟩=some u:=λj u q=>by
 have E:n=ps.length:=by
  obtain ⟨a,c,e⟩:=h.1.slice
  simp only [Value.slice.injEq] at e
  exact e.2.1
 subst E
 exact Rd.rec ku 8 KH h.1 z (by have:=(aF.1 q).1;simpa [ku] using this) q
open Dv (U Cf Lo)
noncomputable def DW:Code:=match Tryz.f5.body with
 |some (.seq c _)=>c
 |_=>.skip
noncomputable def Ea:Code:=match Tryz.f5.body with
 |some (.seq _ (.seq c _))=>c
 |_=>.skip
noncomputable def Em:Code:=match Tryz.f5.body with
 |some (.seq _ (.seq _ (.seq c _)))=>c
 |_=>.skip
noncomputable def DV:Code:=match Tryz.f5.body with
 |some (.seq _ (.seq _ (.seq _ (.seq c _))))=>c
 |_=>.skip
noncomputable def yX:Code:=match Tryz.f5.body with
 |some (.seq _ (.seq _ (.seq _ (.seq _ (.seq c _)))))=>c
 |_=>.skip
noncomputable def EZ:Code:=match Tryz.f5.body with
 |some (.seq _ (.seq _ (.seq _ (.seq _ (.seq _ (.seq c _))))))=>c
 |_=>.skip
noncomputable def EL:Code:=match Tryz.f5.body with
 |some (.seq _ (.seq _ (.seq _ (.seq _ (.seq _ (.seq _ (.seq c _)))))))=>c
 |_=>.skip
noncomputable def Qc:Code:=match Tryz.f5.body with
 |some (.seq _ (.seq _ (.seq _ (.seq _ (.seq _ (.seq _ (.seq _ c)))))))=>c
 |_=>.skip
end Hm
namespace Dv
open Fr (F)
section
variable {chain:List U} {n:Nat}
def Like (u v:U):Prop:=u.id=v.id/\u.time=v.time/\jP u=jP v
theorem Like.refl (u:U):Like u u:=⟨rfl,rfl,rfl⟩
section
variable {c:Cf} {a b:List U} {k:Nat}
theorem Ed (q:∀i,i<=k->Like (a[i]!) (b[i]!)) {e:Nat} (J:e<=k) (t:Int):∀l:List Ba,sift c a k e t l=sift c b k e t l
 |[]=>rfl
 |x::r=>by
  have ih:=Ed q J t r
  rw [sift,sift,ih]
  have h1:holds c a k e t x=holds c b k e t x:=by unfold holds;rw [(q e J).2.1]
  rw [h1]
  by_cases R:late c e t x=true
  ·simp [R]
  ·by_cases E:holds c b k e t x=true
   ·simp [E]
   ·have h2:wrong c a e t x=wrong c b e t x:=by
     simp only [late,iO,decide_eq_true_eq,not_or] at R
     unfold holds at E
     simp only [iO,bY,beq_iff_eq,decide_eq_true_eq,not_or] at E
     have Y:x.epoch<=k:=by omega
     unfold wrong
     rw [(q _ Y).1,(q _ Y).2.1]
     by_cases hk:e+1<=k
     ·rw [(q _ hk).2.1]
     ·have z:x.epoch=e:=by omega
      rw [z]
      by_cases hd:(b[e]!).time+c.drift < t
      ·have:x.txs.isEmpty=false:=by
        cases I:x.txs.isEmpty with
        |false=>rfl
        |true=>exact absurd ⟨⟨⟨I,z⟩,by omega⟩,hd⟩ E.2
       rw [this]
       simp
      ·rw [show decide ((b[e]!).time+c.drift < t)=false from decide_eq_false hd]
       simp only [Bool.false_and]
    rw [h2]
theorem AZ (q:∀i,i<=k->Like (a[i]!) (b[i]!)) {h:Lo} {e:Nat} (z:e<=k) (txs:List (List UInt8)):lay c a k h e txs=lay c b k h e txs:=by
 unfold lay
 rw [(q e z).1,(q e z).2.2]
theorem Qv (hw:1<=c.window) (q:∀i,i<=k->Like (a[i]!) (b[i]!)) {h:Lo} (z:h.epoch<=k) (wait:List Ba):draw c a k h wait=draw c b k h wait:=by
 have hs:=Ed (c:=c) q z (h.time+c.step) wait
 unfold draw
 simp only
 rw [hs]
 cases J:(sift c b k h.epoch (h.time+c.step) wait).1 with
 |hold=>rfl
 |got x=>
  simp only
  obtain ⟨_,_,i3,i4,_,I,_,_⟩:=wI c b k _ _ _ _ J
  have hk:x.epoch<=k:=by
   unfold holds at I
   simp only [gV,iW,beq_eq_false_iff_ne,decide_eq_false_iff_not] at I
   omega
  rw [AZ q hk]
 |no=>
  simp only
  split
  ·rfl
  ·rename_i R
   have E:h.epoch+1<=k:=by omega
   rw [(q _ E).2.1]
   split
   ·rw [AZ q E]
   ·rw [AZ q z]
theorem AY (hw:1<=c.window) (q:∀i,i<=k->Like (a[i]!) (b[i]!)):∀(f:Nat) (h:Lo) (wait:List Ba),h.epoch<=k->draws c a k f h wait=draws c b k f h wait
 |0,_,_,_=>rfl
 |f+1,h,wait,he=>by
  rw [draws,draws,Qv hw q he]
  cases hd:draw c b k h wait with
  |mk o r=>
   cases o with
   |none=>rfl
   |some x=>
    have I:x.epoch<=k:=by
     unfold draw at hd
     simp only at hd
     split at hd
     ·simp at hd
     ·rename_i y E
      simp only [dA,aC] at hd
      obtain ⟨rfl,rfl⟩:=hd
      obtain ⟨_,_,i3,i4,_,z,_,_⟩:=wI c b k _ _ _ _ E
      simp only [lay]
      unfold holds at z
      simp only [gV,iW,beq_eq_false_iff_ne,decide_eq_false_iff_not] at z
      omega
     ·split at hd
      ·simp at hd
      ·simp only [dA,aC] at hd
       obtain ⟨rfl,rfl⟩:=hd
       simp only [lay]
       split<;>omega
    simp only [AY hw q f x r I]
theorem Ou (q:∀i,i<=k->Like (a[i]!) (b[i]!)) (h:Lo) (wait:List Ba):left a k h wait=left b k h wait:=by
 unfold left
 rw [(q k jC).2.1]
theorem PO (hw:1<=c.window) (q:∀i,i<=k->Like (a[i]!) (b[i]!)) (E:heard c (a[k]!).txs=heard c (b[k]!).txs) {s:St} (z:(s.log.getLastD default).epoch<=k):step c a k s=step c b k s:=by
 have ht:take c (a[k]!) k s.chs s.wait=take c (b[k]!) k s.chs s.wait:=by unfold take;rw [E]
 unfold step
 simp only
 rw [ht,Ou q,AY hw q _ _ _ z]
end
def Alike (c:Cf) (u v:U):Prop:=Like u v/\heard c u.txs=heard c v.txs
theorem E5 {c:Cf} {a b:List U} (z:jS a=true) (q:jQ c=true):∀k,k<=a.length->(∀i,i<=k - 1->Alike c (a[i]!) (b[i]!))->gone c a k=gone c b k
 |0,_,hab=>by
  have:=(hab 0 (by omega)).1
  unfold gone start first
  rw [this.1,this.2.1,this.2.2]
 |k+1,hk,hab=>by
  have E:=E5 z q k (by omega) (λi I=>hab i (by omega))
  have J:=(qR z q k (by omega)).epoch
  have hw:1<=c.window:=by
   unfold jQ at q
   simp only [decide_eq_true_eq] at q
   omega
  rw [gone,gone,<-E]
  exact PO hw (λi I=>(hab i (by omega)).1) (hab k (by omega)).2 (by omega)
theorem Qk {c:Cf} (z:jS chain=true) (q:jQ c=true) (I:1<=n) (E:n<=chain.length):gone c (chain.take n) n=gone c chain n:=by
 refine (E5 z q n E (λi J=>?_)).symm
 have:(chain.take n)[i]! =chain[i]!:=by
  simp only [List.getElem!_eq_getElem?_getD]
  rw [iF (by omega)]
 rw [this]
 exact ⟨Like.refl _,rfl⟩
theorem sZ:∀(l:List U) (b:Option Int) (n:Nat),jW b l=true->jW b (l.take n)=true
 |[],_,_,_=>by simp [jW]
 |_::_,_,0,_=>by simp [jW]
 |u::r,b,n+1,h=>by
  rw [List.take_succ_cons,jW,(kC h).1,sZ r _ n (kC h).2]
  rfl
theorem F7 (q:jS chain=true) (z:1<=n) (E:n<=chain.length):jS (chain.take n)=true:=by
 have h:=kJ q
 unfold jS
 rw [sZ _ _ _ h.2.2.1]
 simp only [aZ,Bool.and_true,decide_eq_true_eq]
 omega
theorem Ar {c:Cf} {chain:List U} {k:Nat}:∀(f:Nat) (h:Lo) (wait:List Ba) (x:Lo),x∈(draws c chain k f h wait).1->x.at_=k
 |0,_,_,x,q=>by simp [draws] at q
 |f+1,h,wait,x,q=>by
  rw [draws] at q
  cases hd:draw c chain k h wait with
  |mk o r=>
   rw [hd] at q
   cases o with
   |none=>simp at q
   |some y=>
    simp only [bV] at q
    rcases q with rfl|q
    ·unfold draw at hd
     simp only at hd
     split at hd
     ·simp at hd
     ·simp only [dA,aC] at hd
      obtain ⟨rfl,_⟩:=hd
      rfl
     ·split at hd
      ·simp at hd
      ·simp only [dA,aC] at hd
       obtain ⟨rfl,_⟩:=hd
       rfl
    ·exact Ar f y r x q
theorem Ey (c:Cf) (chain:List U) (n:Nat):∀m:Nat,∃r,(gone c chain (n+m)).log=(gone c chain n).log++r/\∀x,x∈r->n<=x.at_
 |0=>⟨[],by simp,by simp⟩
 |m+1=>by
  obtain ⟨r,z,h2⟩:=Ey c chain n m
  rw [<-dO,gone]
  unfold step
  simp only
  rw [z]
  refine ⟨_,fE ..,λx q=>?_⟩
  rcases dG.1 q with q|q
  ·exact h2 x q
  ·have:=Ar _ _ _ _ q
   omega
theorem Oo (c:Cf) (chain:List U):∀n:Nat,∀x,x∈(gone c chain n).log->x.at_ < n\/x.at_=0
 |0,x,q=>by
  simp [gone,start,first] at q
  subst q
  exact .inr rfl
 |n+1,x,q=>by
  rw [gone] at q
  unfold step at q
  simp only at q
  rcases dG.1 q with q|q
  ·rcases Oo c chain n x q with h|h
   ·exact .inl (by omega)
   ·exact .inr h
  ·have:=Ar _ _ _ _ q
   exact .inl (by omega)
theorem Ov {c:Cf} (E:jS chain=true) (q:jQ c=true) (R:1<=n) (I:n<=chain.length):
  ∃r,(all c chain).2=(all c (chain.take n)).2++r/\(∀x,x∈r->n<=x.at_)/\(∀x,x∈(all c (chain.take n)).2->x.at_ < n)/\(all c (chain.take n)).1=0:=by
 have z:=F7 E R I
 have Y:all c chain=(0,(gone c chain chain.length).log):=by unfold all;rw [if_neg (by simp [q]),if_neg (by simp [E])]
 have e2:all c (chain.take n)=(0,(gone c chain n).log):=by
  unfold all
  rw [if_neg (by simp [q]),if_neg (by simp [z]),aZ,fO I,Qk E q R I]
 obtain ⟨r,J,h2⟩:=Ey c chain n (chain.length - n)
 rw [show n+(chain.length - n)=chain.length from by omega] at J
 rw [Y,e2]
 exact ⟨r,J,h2,λx hx=>by rcases Oo c chain n x hx with h|h<;>omega,rfl⟩
end
end Dv
namespace Pa
open Go Go.Conc Go.RowKit Go.Joins
open Hm (ptr jI kF oG lN PU ku kM DW Ea Em DV yX EZ EL Qc uQ)
open Dv (U Cf)
open Po hiding U H B IT PR NB
open Cr (Fill)
section
variable {w:World} {va:Value} {pl:List Hm.PL}
theorem F5 {e s n:Nat} {v:Value} {xs:List Value} (h:Hm.Row w e s v n xs):n<=9223372036854775807:=by
 rcases h.2 with ⟨_,h⟩|⟨g,off,cap,q,_,_,z,h2,_⟩
 ·omega
 ·have:maxLen=9223372036854775807:=rfl
  omega
theorem Nh (q:Hm.Row w 62 8 va pl.length (pl.flatMap ku)) (hs:∀p,p∈pl->kM w p.2.1 p.1.txs/\kM w p.2.2 p.1.deps):uQ w va pl:=
 ⟨q.rd,λp hp=>⟨(hs p hp).1,(hs p hp).2,F5 (hs p hp).1,F5 (hs p hp).2⟩⟩
theorem Nk {w':World} (h:uQ w va pl) (q:kF (λ_=>False) w w'):uQ w' va pl:=
 ⟨Hm.Rd.kept h.1 q.size (λ_ g _ E=>q.block g E (λe=>e)),λp hp=>⟨Hm.Row.kept (h.2 p hp).1 (λg z=>q.block g (Hm.Row.lt (h.2 p hp).1 z) (λe=>e)),Hm.Row.kept (h.2 p hp).2.1 (λg z=>q.block g (Hm.Row.lt (h.2 p hp).2.1 z) (λe=>e)),(h.2 p hp).2.2⟩⟩
end
end Pa
namespace Hm
open Go.RowKit Go.Joins Go.Shelf
open Fr (below_drewN)
open Dv (U Cf Lo)
noncomputable def acn:Code:=match Tryz.f6.body with
 |some (.seq c _)=>c
 |_=>.skip
noncomputable def abl:Code:=match Tryz.f6.body with
 |some (.seq _ (.seq c _))=>c
 |_=>.skip
noncomputable def ab6:Code:=match Tryz.f6.body with
 |some (.seq _ (.seq _ (.seq c _)))=>c
 |_=>.skip
noncomputable def abN:Code:=match Tryz.f6.body with
 |some (.seq _ (.seq _ (.seq _ (.seq c _))))=>c
 |_=>.skip
noncomputable def abD:Code:=match Tryz.f6.body with
 |some (.seq _ (.seq _ (.seq _ (.seq _ (.seq c _)))))=>c
 |_=>.skip
noncomputable def abI:Code:=match Tryz.f6.body with
 |some (.seq _ (.seq _ (.seq _ (.seq _ (.seq _ (.seq c _))))))=>c
 |_=>.skip
noncomputable def uG:Code:=match Tryz.f6.body with
 |some (.seq _ (.seq _ (.seq _ (.seq _ (.seq _ (.seq _ c))))))=>c
 |_=>.skip
theorem aa6:Tryz.f6.body=some (.seq acn (.seq abl (.seq ab6 (.seq abN (.seq abD (.seq abI uG)))))):=by kernel_rfl
theorem aa0 {l:List Value} {n:Nat} (h:l.length=n+1):∃a m,l=a::m/\m.length=n:=by
 cases l with
 |nil=>simp at h
 |cons a m=>exact ⟨a,m,rfl,by simpa using h⟩
theorem acC {q:Array Value} {J:Value} (g off n cap z E m vc:Nat) (t0:Int) (xa:Option Addr) (tc:Nat) (hs:q.size=236) (t1:q[1]? =some (.slice (some ⟨z,E,none⟩) m vc)) (t2:q[2]? =some J) (t6:q[6]? =some (.slice (some ⟨g,off,none⟩) n cap)) (hn:0 < n) (aa:n<=9223372036854775807) (hm:0 < m) (Y:m<=4294967296) (w:World) (k0:w.cell? ⟨g,off,none⟩=some (.int .i64 0)) (k1:w.cell? ⟨g,off+1,none⟩=some (.int .i64 t0)) (k2:w.cell? ⟨g,off+2,none⟩=some (.int .i64 0)) (k4:w.cell? ⟨g,off+4,none⟩=some (.int .i64 0)) (k5:w.cell? ⟨g,off+5,none⟩=some (.slice xa 0 tc)) (q1:w.cell? ⟨z,E+1,none⟩=some (.int .i64 t0)) {Q:Exit->Act->World->Prop}
  (I:∀(q:Array Value) (k:Nat),q.size=236->q[1]? =some (.slice (some ⟨z,E,none⟩) m vc)->q[2]? =some J->q[6]? =some (.slice (some ⟨g,off,none⟩) n cap)->Q .normal { tmps:=q,defers:=[] } (w.drewN k)):abI.wp PQ Q { tmps:=q,defers:=[] } w:=by
 obtain ⟨l,rfl⟩:∃l:List Value,q=l.toArray:=⟨q.toList,by simp⟩
 replace hs:l.length=236:=by simpa using hs
 iterate 236 (obtain ⟨_,l,rfl,h⟩:=aa0 hs;clear hs;have hs:=h;clear h)
 obtain rfl:=List.length_eq_zero_iff.1 hs
 clear hs
 simp only [dY,dX,dQ,aC] at t1 t2 t6
 subst t1 t2 t6
 have R:Hid _:=I
 clear I
 have e0:((n:Int) == 0)=false:=by simp;omega
 have e1:(t0 == t0)=true:=by simp
 have h0:¬(n:Int)=0:=by omega
 have h3:(0:Int) < (n:Int):=by omega
 have h4:(0:Int) < (m:Int):=by omega
 simp only [abI,Tryz.f6]
 go_wp2_with fail
 go_quiet (fail)
 go_wp2_with fail
 refine R.out _ _ ?_ ?_ ?_ ?_<;>rfl
end Hm
end Go.Proofs.YtpibpdpedjinhaaGreatDoor
