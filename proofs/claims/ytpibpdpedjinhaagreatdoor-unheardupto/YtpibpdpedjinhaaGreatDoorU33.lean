import Derived.Test.YtpibpdpedjinhaaGreatDoorU32
set_option maxRecDepth 100000
set_option maxHeartbeats 8000000
set_option linter.unusedSimpArgs false
namespace Go.Proofs.YtpibpdpedjinhaaGreatDoor
namespace Hm
open Go.RowKit Go.Joins Go.Shelf
open Dv (U Cf Ba Lo)
attribute [local go_sem] Oper.semAt_some
variable {kb nb:Nat} {vu vo vw:Value} {us:List PB} {dl:Nat->List (List UInt8)} {W:World}
theorem MN:(PQ.info? 62).map (λi=>(i.zero,i.size,i.bytes))=some (some LU,8,96):=by kernel_rfl
def SJ (c:Cf) (us:List PB) (dl:Nat->List (List UInt8)) (M:Nat->Prop) (I:Nat) (J:Value) (z:List PL) (w:World) (E:List DX) (W:World):Prop:=∃ps a cap,SI c us dl M I J z w E W ps a cap
theorem SJ.own (c:Cf) (us:List PB) (dl:Nat->List (List UInt8)) (M:Nat->Prop) (Y:Nat) (v0:Value) (z:List PL) (w:World) (n:Nat) (hn:w.heap.size<=n):OwnFrom n (SJ c us dl M Y v0 z w):=by
 rintro R A B row ⟨ps,a,cap,h⟩ J hr
 obtain ⟨M',hc,I,E⟩:=lK J hr
 exact ⟨ps,a,cap,h.mX hc I (λk hk=>E k (by omega))⟩
theorem DA.own {c:Cf} {d:qW} {A B:World} {M:Nat->Prop} (h:DA A kb c vu us dl nb vo vw d) (J:jL M A B) (E:ou M A):DA B kb c vu us dl nb vo vw d:=by
 obtain ⟨z,I,h2⟩:=h
 exact ⟨z,I.mX J E,h2⟩
theorem Sl {b:Nat} {v:Value} (h:W.cell? ⟨b,0,none⟩=some v):∃cs t z,W.heap[b]? =some (.cells cs t z):=by
 unfold World.cell? at h
 simp only at h
 split at h
 ·rename_i cs t z hk
  exact ⟨cs,t,z,hk⟩
 ·cases h
theorem CX.own (kb z:Nat) (c:Cf) (vu:Value) (us:List PB) (dl:Nat->List (List UInt8)) (nb:Nat) (vo vw:Value) (s0:qW) (n:Nat):OwnFrom n (CX kb z c vu us dl nb vo vw s0):=by
 rintro R A B row ⟨Y,h2⟩ J hr
 obtain ⟨M',I,E,aa⟩:=lK J hr
 obtain ⟨cs,t,fz,hk⟩:=Sl h2
 exact ⟨Y.own I E,(World.cell?_of_block (I.block z (jE hk) (E _ _ _ _ hk))).trans h2⟩
theorem Vr.own (kb:Nat) (c:Cf) (vu:Value) (us:List PB) (dl:Nat->List (List UInt8)) (nb:Nat) (vo vw:Value) (s0:qW) (n:Nat):OwnFrom n (Vr kb c vu us dl nb vo vw s0):=by
 rintro I A B row J E R
 obtain ⟨M',hc,z,Y⟩:=lK E R
 exact DA.own J hc z
theorem DY.own (kb E:Nat) (c:Cf) (vu:Value) (us:List PB) (dl:Nat->List (List UInt8)) (nb:Nat) (vo vw:Value) (s0:qW) (n lo:Nat):OwnFrom n (λ(q:List DX×DX) W=>DY kb E c vu us dl nb vo vw s0 q.1 q.2 lo W):=by
 rintro q A B row ⟨h1,⟨vd,h2,h3⟩,h4,h5,h6⟩ J R
 have z:=CX.own kb E c vu us dl nb vo vw s0 n (q.1++[q.2]) A B row h6 J R
 obtain ⟨M',Y,I,aa⟩:=lK J R
 exact ⟨h1,⟨vd,h2,kM.jR h3.1 Y I.str,h3.2⟩,λb hb=>(h4 b hb).jR Y I.str,h5,z⟩
theorem DY.pl {R:Nat} {c:Cf} {s0:qW} {J:List DX} {x:DX} {lo:Nat} {w:World} (h:DY kb R c vu us dl nb vo vw s0 J x lo W) (aa:w.heap.size<=lo) (Y:∀k,(k=kb\/vw.ownBlock=some k)->k < w.heap.size) (I:∀p,p∈s0.ws->∀g,p.2.ownBlock=some g->¬(g=kb\/vw.ownBlock=some g)):
  ∃p:PL,p.1=oK c us dl x/\WH (λk=>k=kb\/vw.ownBlock=some k) W p/\ku p=x.lv.cells.toList:=by
 obtain ⟨h1,⟨vd,h2,h3⟩,h4,h5,h6⟩:=h
 refine ⟨(oK c us dl x,X3 x.ob,vd),rfl,⟨?_,?_,?_,?_⟩,?_⟩
 ·cases z:x.ob with
  |none=>
   unfold oK kM X3 Aw
   rw [z]
   exact Row.nil _ _ _
  |some b=>
   have:=h4 b z
   unfold oK X3 Aw
   rw [z]
   exact this
 ·exact h3.1
 ·intro g E
  cases z:x.ob with
  |none=>
   rw [z] at E
   cases E
  |some b=>
   rw [z] at E
   exact I b (Ur h1 z).1 g E
 ·intro g E e
  have:=h3.2 g E
  have:=Y g e
  omega
 ·unfold DX.v XU at h2
  have:=congrArg (λv=>match v with|.agg l=>l.toList|_=>[]) h2
  dsimp only at this
  rw [this]
  rfl
theorem Dc (kb cB:Nat) (c:Cf) (vu:Value) (us:List PB) (dl:Nat->List (List UInt8)) (nb:Nat) (vo vw:Value) (s0:qW) (v0:Value) (z:List PL) (w:World) (hG:Good c us s0) (br:2<=c.step) (hdl:∀j,(dl j).length<=4294967296)
  (hD:qw w kb c vu us dl nb vo vw s0.ws s0.cnt s0.ep s0.sq) (aq:Boxed w cB 93 (.pointer (some ⟨kb,0,none⟩))) (bw:0 < us.length)
  (af:Row w 62 8 v0 z.length (z.flatMap ku)) (ap:∀p,p∈z->kM w p.2.1 p.1.txs/\kM w p.2.2 p.1.deps) (a1:z.length<=s0.cnt):
  Calls PQ 40 #[v0,.func (.func 75) #[] #[.pointer (some ⟨cB,0,none⟩)]] w λe w'=>∃E ps a cap,e=.returned (.slice a (z++ps).length cap)/\DS c us s0 E/\ps.map Prod.fst=E.map (oK c us dl)/\Row w' 62 8 (.slice a (z++ps).length cap) (z++ps).length ((z++ps).flatMap ku)
   /\(∀p,p∈z++ps->kM w' p.2.1 p.1.txs/\kM w' p.2.2 p.1.deps)/\Vr kb c vu us dl nb vo vw s0 E w'/\jL (λk=>(k=kb\/vw.ownBlock=some k)\/v0.ownBlock=some k) w w'/\(∀g,(Value.slice a (z++ps).length cap).ownBlock=some g->v0.ownBlock=some g\/w.heap.size<=g):=by
 obtain ⟨M,ah⟩:∃M:Nat->Prop,M=λk=>k=kb\/vw.ownBlock=some k:=⟨_,rfl⟩
 have av:∀k,M k->k < w.heap.size:=by
  rw [ah]
  rintro k (rfl|e)
  ·exact (jE hD.obj)
  ·exact hD.wait.lt e
 have ax:∀k cs t fz,w.heap[k]? =some (.cells cs t fz)->M k->t=137\/t=150:=by
  rw [ah]
  rintro k cs t fz hk (rfl|e)
  ·have:=hD.obj
   rw [hk] at this
   simp at this
   exact .inl this.2.1
  ·obtain ⟨bd,q⟩:=hD.wait.obj e
   rw [hk] at q
   simp at q
   exact .inr q.2.1
 have ao:¬M cB:=λe=>by rcases ax cB _ _ _ aq e with h|h<;>revert h<;>decide
 have bl:∀g,v0.ownBlock=some g->¬M g:=λg hg e=>by
  obtain ⟨bd,q⟩:=af.obj hg
  rcases ax g _ _ _ q e with h|h<;>revert h<;>decide
 have aj:∀v l,kM w v l->∀g,v.ownBlock=some g->¬M g:=λv l h g hg e=>by
  obtain ⟨bd,q⟩:=Row.obj h hg
  rcases ax g _ _ _ q e with h|h<;>revert h<;>decide
 have a8:∀p,p∈s0.ws->∀g,p.2.ownBlock=some g->¬M g:=λp hp=>aj _ _ (hD.txs p hp)
 have ai:=Ih kb cB c vu us dl nb vo vw s0 hG br hdl (by rw [ah] at ao;exact ao)
 have ba:=λ(E:List DX) (x:DX) (n:Nat) (W:World) (h:DY kb cB c vu us dl nb vo vw s0 E x n W) (hn:w.heap.size<=n)=>DY.pl h hn (by rw [ah] at av;exact av) (by rw [ah] at a8;exact a8)
 have az:∀(E:List DX) (x:DX),Steps c us s0 (E++[x])->s0.cnt+E.length < 4294967296:=λE x h=>by
  have h1:=OU h
  have h2:=((hG E h1).1 bw).cnt
  rw [(Jo h1).2] at h2
  exact h2
 rw [<-ah] at ai ba
 obtain ⟨a0,I,rfl⟩:=af.slice
 rw [show (λk=>(k=kb\/vw.ownBlock=some k)\/(Value.slice a0 z.length I).ownBlock=some k)=(λk=>M k\/(Value.slice a0 z.length I).ownBlock=some k) from by rw [ah]]
 obtain ⟨V,hV⟩:∃V:World,V=w.alloc (Obj.cells #[.slice a0 z.length I] 35):=⟨_,rfl⟩
 have b4:V.heap.size=w.heap.size+1:=by rw [hV];simp
 have ag:Below w.heap.size w V:=by rw [hV];exact (aB _ w).alloc jC _
 have bk:Boxed V w.heap.size 35 (.slice a0 z.length I):=by unfold Boxed;rw [hV];exact heap_alloc_new _ _
 have a2:=aq.lt
 have a3:CX kb cB c vu us dl nb vo vw s0 [] V:=⟨⟨vw,hD.below ag,λg h=>h⟩,(ag.cell (p:=⟨cB,0,none⟩) a2).trans aq.cell⟩
 have bg:SJ c us dl M w.heap.size (.slice a0 z.length I) z w [] V:=⟨[],a0,I,⟨rfl,by simpa using bk,by simpa using af.below ag,λp hp=>by
  rw [fU] at hp
  exact ⟨Row.below (ap p hp).1 ag,Row.below (ap p hp).2 ag,aj _ _ (ap p hp).1,aj _ _ (ap p hp).2⟩,λg hg=>.inl (by simpa using hg),.below ag jC _,by omega⟩⟩
 have an:(∀g,(Value.slice a0 z.length I).ownBlock=some g->g≠cB)/\cB < w.heap.size:=⟨λg hg e=>jH af aq (by decide) (by rw [hg,e]),a2⟩
 have H0:Hid _:=jB ai (jB ba (jB az (jB av (jB bl (jB a3 (jB bg (jB ag a1)))))))
 have bo:∀k,M k->k < V.heap.size:=λk hk=>by have:=av k hk;omega
 clear ai ba az bl a3 bg ag hD hG hdl aq af ap a1 ax ao aj a8 bk
 refine callsIn_wide.1 (callsIn_of_wp_marks (n:=3) (fq Tryz.func40 rfl) rfl trivial ?_ rfl)
 simp only [Tryz.ntmps40,dL,aN,bM,Nat.reduceAdd,Nat.reduceSub,cO,bZ,dN,cZ,dM,dH]
 gi_wp2
 rw [<-hV]
 clear hV
 obtain ⟨i0,hi,bq,bx,bu⟩:=info_parts MN
 refine Gp (gf:=75) (lb:=#[.pointer (some ⟨cB,0,none⟩)]) rfl (enters_of (fq Tryz.func75 rfl) (by kernel_rfl) rfl)
  H0.out.1 bo (CX.own kb cB c vu us dl nb vo vw s0 _) (Vr.own kb c vu us dl nb vo vw s0 _) (λn=>DY.own kb cB c vu us dl nb vo vw s0 _ n) (λ_=>rfl)
  (SJ c us dl M w.heap.size (.slice a0 z.length I) z w) (λ_ _ _=>False) (SJ.own c us dl M w.heap.size _ z w _ (by omega)) (λ_ _ _ _ _ h=>h.elim) H0.out.2.2.2.2.2.2.1 H0.out.2.2.2.2.2.1
  (λx B=>{ tmps:=#[.slice a0 z.length I,.func (.func 75) #[] #[.pointer (some ⟨cB,0,none⟩)],.pointer (some ⟨w.heap.size,0,none⟩),undef,.slice none 0 0,.pointer (some ⟨B,0,none⟩),.func (.func 75) #[] #[.pointer (some ⟨cB,0,none⟩)],.agg x.lv.cells,undef,undef,undef,undef,undef],defers:=[] })
  (λx=>.cells x.lv.cells 62) ?assign ?body ?done ?stop
 case assign=>
  intro l x W K hK
  simp only [DX.encs,DX.v,LV.cells] at hK⊢
  gi_wp2
  exact hK
 case body=>
  rintro l E x W0 W1 b1 b0 ⟨r,hr⟩ ⟨ps,a,cap,hI⟩ hc hy
  have bv:w.heap.size<=W0.heap.size:=hI.jR.size
  obtain ⟨p,ay,aw,au⟩:=H0.out.2.1 E x _ W1 hy bv
  have Y:=hI.turn hc (λe=>by have:=H0.out.2.2.2.1 _ e;omega) H0.out.2.2.2.2.1 H0.out.2.2.2.1
  have b2:=H0.out.2.2.1 E x hy.1
  have bz:ps.length=E.length:=by
   have:=congrArg List.length hI.los
   simpa using this
  have b3:=H0.out.2.2.2.2.2.2.2.2
  have b5:=hc.size
  obtain ⟨N,hN⟩:∃N,(z++ps).length=N:=⟨_,rfl⟩
  have b7:N < 4294967296:=by rw [<-hN,aJ];omega
  have am:=Y.box
  have a9:=Y.row
  rw [hN] at am a9
  obtain ⟨G,ar⟩:∃G:World,G=W1.alloc (.cells x.lv.cells 62):=⟨_,rfl⟩
  rw [<-ar]
  have gs:G.heap.size=W1.heap.size+1:=by rw [ar];simp
  have gb:Below W1.heap.size W1 G:=by rw [ar];exact (aB _ _).alloc jC _
  have gk:G.heap[W1.heap.size]? =some (.cells x.lv.cells 62 (0,0)):=by rw [ar];exact heap_alloc_new _ _
  clear ar
  unfold LV.cells at gk
  obtain ⟨k0,k1,k2,k3,k4,k5,k6,k7,kf⟩:=lg gk
  have bG:Boxed G w.heap.size 35 (.slice a N cap):=(gb.block _ am.lt).trans am
  have m0:=bG.cell
  have qG:Row G 62 8 (.slice a N cap) N ((z++ps).flatMap ku):=a9.below gb
  have Hc:Hid _:=jB bG (jB qG (jB hy (jB Y (jB hc (jB ay (jB aw (jB au (jB gb (jB hN hI)))))))))
  clear bG qG hy Y hc ay aw au gb hN hI hr am a9 gk
  gi_wp2_with (gi_at_builtin;refine uy _ (by rfl) (.tmp 8) (.tmp 10) 35 (by rfl) 62 i0 _ 8 96 (uq Tryz.underlying35) hi bq bx bu (by rfl) (by decide) _ N ((z++ps).flatMap ku) (by rfl) (Hc.out.2.1.below ((aB _ G).alloc jC _)) ⟨W1.heap.size+1,0,none⟩ 1 1 x.lv.cells.toList (by rfl) (by decide) (by rfl) (by intro j u J;rw [<-gs];unfold LV.cells at J;match j,J with|0,J=>(simp at J;subst J;simp [Addr.add])|1,J=>(simp at J;subst J;simp [Addr.add])|2,J=>(simp at J;subst J;simp [Addr.add])|3,J=>(simp at J;subst J;simp [Addr.add])|4,J=>(simp at J;subst J;simp [Addr.add])|5,J=>(simp at J;subst J;simp [Addr.add])|6,J=>(simp at J;subst J;simp [Addr.add])|7,J=>(simp at J;subst J;simp [Addr.add])) (by intro u hu;unfold LV.cells at hu;simp at hu;rcases hu with rfl|rfl|rfl|rfl|rfl|rfl|rfl|rfl<;>rfl) (by unfold maxLen;omega) (by omega) ?_;intro g off ae w4 aa ab;have e0:Boxed w4 w.heap.size 35 (.slice a N cap):=ab.keep (Hc.out.2.1.below ((aB _ G).alloc jC _)) (Hc.out.1.alloc _) (by decide);have n0:=e0.cell;have n1:=e0.frozen;have HF:Hid _:=jB aa (jB ab e0);clear aa ab e0)
  obtain ⟨aa,ab,e0⟩:=HF.out
  obtain ⟨bG,qG,hy,Y,hc,ay,aw,au,gb,hN,hI⟩:=Hc.out
  have e1:Boxed (w4.setCell ⟨w.heap.size,0,none⟩ (.slice (some ⟨g,off,none⟩) (N+1) ae)) w.heap.size 35 (.slice (some ⟨g,off,none⟩) (N+1) ae):=e0.set _
  have bj:=(aB _ G).alloc jC (.cells x.lv.cells 62)
  have bn:=qG.below bj
  have e2:Row (w4.setCell ⟨w.heap.size,0,none⟩ (.slice (some ⟨g,off,none⟩) (N+1) ae)) 62 8 (.slice (some ⟨g,off,none⟩) (N+1) ae) (N+1) ((z++ps).flatMap ku++ku p):=by
   rw [au]
   exact aa.jR (jL.set w4 w.heap.size 0 _) (λq hq e=>jH aa e0 (by decide) (by rw [hq,e]))
  have ac:jL (λk=>(Value.slice a N cap).ownBlock=some k\/k=w.heap.size) W1 (w4.setCell ⟨w.heap.size,0,none⟩ (.slice (some ⟨g,off,none⟩) (N+1) ae)):=
   (((jL.below gb jC _).trans (jL.below bj jC (λ_=>False)) (λ_ _ e=>e.elim)).trans ab.jR (λk _ e=>.inl e)).trans (jL.set w4 w.heap.size 0 _) (λk _ e=>.inr e)
  have a7:KeepsOthers G (w4.setCell ⟨w.heap.size,0,none⟩ (.slice (some ⟨g,off,none⟩) (N+1) ae)):=((KeepsOthers.alloc G _).trans (ab.others bn)).trans (KeepsOthers.setCell _ _ _)
  rw [<-hN] at ac e1 e2
  obtain ⟨hT,R⟩:=Y.more ay aw ac e1 e2 (λq hq=>by
   rw [hN]
   have hq:g=q:=by simpa [Value.ownBlock] using hq
   subst hq
   rcases ab.own with q|q
   ·exact .inl q
   ·refine .inr ?_
    have q2:(G.alloc (.cells x.lv.cells 62)).heap.size<=g:=q
    simp at q2
    omega) jC
  rw [hN] at ac hT R
  refine ⟨a7.from _,?_,?_,_,_,_,R⟩
  ·obtain ⟨⟨bs,h1,h2⟩,h3⟩:=hy.2.2.2.2
   refine ⟨⟨bs,h1.typed ac hT,h2⟩,?_⟩
   refine (World.cell?_of_block (ac.block cB (fA W1 ⟨cB,0,none⟩ h3) ?_)).trans h3
   rintro (e|e)
   ·rw [<-hN] at e
    rcases Y.own cB e with q|q
    ·exact an.1 cB q rfl
    ·have:=an.2
     omega
   ·have:=an.2
    omega
  ·intro k b6 bh
   refine (ac.block k bh ?_).trans (gb.block k bh).symm
   rintro (e|e)
   ·rw [<-hN] at e
    have:=hI.row.lt e
    omega
   ·have:=hI.big
    omega
 case done=>
  rintro D xs W0 W hD bp hS ⟨ps,a,cap,hI⟩ hc bb hK
  have Y:=hI.turn hc (λe=>by have:=H0.out.2.2.2.1 _ e;omega) H0.out.2.2.2.2.1 H0.out.2.2.2.1
  have m0:=Y.box.cell
  have bm:=grownBy_putObj' W D (.deferred none)
  obtain ⟨M',a6,a5,a4⟩:=lK (n:=w.heap.size) bm (λr e=>by
   have e:D=r:=by simpa using e
   subst e
   exact ⟨by omega,_,hK,rfl⟩)
  have R:=Y.mX a6 a5 a4
  have ak:Vr kb c vu us dl nb vo vw s0 xs (W.putObj D (.deferred none)):=DA.own bb a6 a5
  have HF:Hid _:=jB R (jB ak hS)
  clear hI Y R bb ak hc a6 a5 a4 bm hS
  gi_wp2
  refine ⟨by simp,.inl ⟨_,_,rfl,run_takeDeferred hK,?_⟩⟩
  obtain ⟨R,ak,hS⟩:=HF.out
  exact ⟨.slice a (z++ps).length cap,by simp [results,Tryz.results40,go_sem],xs,ps,a,cap,rfl,hS,R.los,R.row,λp hp=>⟨(R.at_ p hp).txs,(R.at_ p hp).deps⟩,ak,R.jR,R.own⟩
 case stop=>
  rintro D c E W0 W hD bp _ h
  exact h.elim
end Hm
namespace Hm
open Go.RowKit Go.Joins Go.Shelf
theorem Kq (kb:Nat) (w:World):Calls PQ 41 #[.pointer (some ⟨kb,0,none⟩)] w λe w'=>e=.returned (.func (.func 75) #[] #[.pointer (some ⟨w.heap.size,0,none⟩)])/\w'=w.alloc (.cells #[.pointer (some ⟨kb,0,none⟩)] 93):=by
 go_enter (fq Tryz.func41 rfl),Tryz.ntmps41
 go_wp2_with fail
 go_ret
 exact ⟨rfl,rfl⟩
open Fr (below_drewN)
open Dv (U Cf Ba Ch)
section
variable {u1 u3 u6 u7 u8 u9 u10 u11 u12 u13 u14 u15 u16 u17 u18 u19 u20 u21 u22 u23 u24 u25 u26 u27 u28 u29 u30 u31 u32 u0 u4 u5 u2:Value} {Q:Exit->Act->World->Prop}
noncomputable def Oj:Code:=match Tryz.f12.body with
 |some (.seq c _)=>c
 |_=>.skip
noncomputable def EO:Code:=match Tryz.f12.body with
 |some (.seq _ (.seq c _))=>c
 |_=>.skip
noncomputable def DZ:Code:=match Tryz.f12.body with
 |some (.seq _ (.seq _ (.seq c _)))=>c
 |_=>.skip
noncomputable def NP:Code:=match Tryz.f12.body with
 |some (.seq _ (.seq _ (.seq _ (.seq c _))))=>c
 |_=>.skip
noncomputable def NY:Code:=match Tryz.f12.body with
 |some (.seq _ (.seq _ (.seq _ (.seq _ (.seq c _)))))=>c
 |_=>.skip
noncomputable def Oh:Code:=match Tryz.f12.body with
 |some (.seq _ (.seq _ (.seq _ (.seq _ (.seq _ (.seq (.seq c _) _))))))=>c
 |_=>.skip
noncomputable def allL:Code:=match Tryz.f12.body with
 |some (.seq _ (.seq _ (.seq _ (.seq _ (.seq _ (.seq (.seq _ (.block _ (.loop c))) _))))))=>c
 |_=>.skip
noncomputable def xg:Code:=match Tryz.f12.body with
 |some (.seq _ (.seq _ (.seq _ (.seq _ (.seq _ (.seq _ (.seq c _)))))))=>c
 |_=>.skip
noncomputable def DF:Code:=match allL with
 |.seq c _=>c
 |_=>.skip
noncomputable def ES:Code:=match allL with
 |.seq _ (.seq _ (.seq (.block _ (.seq c _)) _))=>c
 |_=>.skip
noncomputable def xJ:Code:=match allL with
 |.seq _ (.seq _ (.seq (.block _ (.seq _ (.seq c _))) _))=>c
 |_=>.skip
noncomputable def yg:Code:=match allL with
 |.seq _ (.seq _ (.seq (.block _ (.seq _ (.seq _ c))) _))=>c
 |_=>.skip
noncomputable def xM:Code:=match allL with
 |.seq _ (.seq _ (.seq _ c))=>c
 |_=>.skip
theorem TT:Tryz.f12.body=some (.seq Oj (.seq EO (.seq DZ (.seq NP (.seq NY (.seq (.seq Oh (.block 0 (.loop allL))) (.seq xg .ret))))))):=by kernel_rfl
theorem IV:allL=.seq DF (.seq (.cond (.tmp 21) .skip (.exit 0)) (.seq (.block 1 (.seq ES (.seq xJ yg))) xM)):=by kernel_rfl
theorem Zo {u2 u4 u5:Value} (c:Cf) (w:World)
  (z:Q .normal { tmps:=#[.agg #[.int .u32 c.inbox,.int .u32 c.batcher,.int .i64 c.timeout,.int .i64 c.window,.int .i64 c.drift,.int .i64 c.step,.int .i64 c.most],u1,.pointer (some ⟨w.heap.size,0,none⟩),u3,.slice none 0 0,.int .i64 0,u6,u7,u8,u9,u10,u11,u12,u13,u14,u15,u16,u17,u18,u19,u20,u21,u22,u23,u24,u25,u26,u27,u28,u29,u30,u31,u32],defers:=[] } (w.alloc (.cells #[.int .u32 c.inbox,.int .u32 c.batcher,.int .i64 c.timeout,.int .i64 c.window,.int .i64 c.drift,.int .i64 c.step,.int .i64 c.most] 24))):
  Oj.wp PQ Q { tmps:=#[.agg #[.int .u32 c.inbox,.int .u32 c.batcher,.int .i64 c.timeout,.int .i64 c.window,.int .i64 c.drift,.int .i64 c.step,.int .i64 c.most],u1,u2,u3,u4,u5,u6,u7,u8,u9,u10,u11,u12,u13,u14,u15,u16,u17,u18,u19,u20,u21,u22,u23,u24,u25,u26,u27,u28,u29,u30,u31,u32],defers:=[] } w:=by
 simp only [Oj,Tryz.f12]
 go_wp2_with fail
 exact z
theorem Yu {u10 u11 u12:Value} (c:Cf) (E:Nat) (w:World) (k0:w.cell? ⟨E,0,none⟩=some (.int .u32 c.inbox)) (k1:w.cell? ⟨E,1,none⟩=some (.int .u32 c.batcher)) (k2:w.cell? ⟨E,2,none⟩=some (.int .i64 c.timeout)) (k3:w.cell? ⟨E,3,none⟩=some (.int .i64 c.window)) (k4:w.cell? ⟨E,4,none⟩=some (.int .i64 c.drift)) (k5:w.cell? ⟨E,5,none⟩=some (.int .i64 c.step)) (k6:w.cell? ⟨E,6,none⟩=some (.int .i64 c.most)) (I:Dv.jQ c=true)
  (R:∀Y,Below w.heap.size w Y->Q .normal { tmps:=#[u0,u1,.pointer (some ⟨E,0,none⟩),u3,u4,u5,u6,u7,u8,u9,.agg #[.int .u32 c.inbox,.int .u32 c.batcher,.int .i64 c.timeout,.int .i64 c.window,.int .i64 c.drift,.int .i64 c.step,.int .i64 c.most],.bool true,.bool false,u13,u14,u15,u16,u17,u18,u19,u20,u21,u22,u23,u24,u25,u26,u27,u28,u29,u30,u31,u32],defers:=[] } Y):
  EO.wp PQ Q { tmps:=#[u0,u1,.pointer (some ⟨E,0,none⟩),u3,u4,u5,u6,u7,u8,u9,u10,u11,u12,u13,u14,u15,u16,u17,u18,u19,u20,u21,u22,u23,u24,u25,u26,u27,u28,u29,u30,u31,u32],defers:=[] } w:=by
 have z:=Bo c w
 rw [I] at z
 have H:Hid _:=z
 have HQ:Hid _:=R
 clear z R I
 simp only [EO,Tryz.f12]
 go_wp2_with (go_at_call 36;refine aK H.out ?_;rintro e5 w5 ⟨rfl,J⟩)
 exact HQ.out _ J
theorem MO {u4 u5 u10 u11 u12:Value} (c:Cf) (E:Nat) (w:World) (k0:w.cell? ⟨E,0,none⟩=some (.int .u32 c.inbox)) (k1:w.cell? ⟨E,1,none⟩=some (.int .u32 c.batcher)) (k2:w.cell? ⟨E,2,none⟩=some (.int .i64 c.timeout)) (k3:w.cell? ⟨E,3,none⟩=some (.int .i64 c.window)) (k4:w.cell? ⟨E,4,none⟩=some (.int .i64 c.drift)) (k5:w.cell? ⟨E,5,none⟩=some (.int .i64 c.step)) (k6:w.cell? ⟨E,6,none⟩=some (.int .i64 c.most)) (I:Dv.jQ c=false)
  (R:∀Y,Below w.heap.size w Y->Q .ret { tmps:=#[u0,u1,.pointer (some ⟨E,0,none⟩),u3,.slice none 0 0,.int .i64 1,u6,u7,u8,u9,.agg #[.int .u32 c.inbox,.int .u32 c.batcher,.int .i64 c.timeout,.int .i64 c.window,.int .i64 c.drift,.int .i64 c.step,.int .i64 c.most],.bool false,.bool true,u13,u14,u15,u16,u17,u18,u19,u20,u21,u22,u23,u24,u25,u26,u27,u28,u29,u30,u31,u32],defers:=[] } Y):
  EO.wp PQ Q { tmps:=#[u0,u1,.pointer (some ⟨E,0,none⟩),u3,u4,u5,u6,u7,u8,u9,u10,u11,u12,u13,u14,u15,u16,u17,u18,u19,u20,u21,u22,u23,u24,u25,u26,u27,u28,u29,u30,u31,u32],defers:=[] } w:=by
 have z:=Bo c w
 rw [I] at z
 have H:Hid _:=z
 have HQ:Hid _:=R
 clear z R I
 simp only [EO,Tryz.f12]
 go_wp2_with (go_at_call 36;refine aK H.out ?_;rintro e5 w5 ⟨rfl,J⟩)
 exact HQ.out _ J
theorem Zp {u13 u14 u15:Value} (R:Option Addr) (n vc:Nat) (ps:List PU) (w:World) (I:lN w (.slice R n vc) ps) (E:ps.length<=4294967296) (J:Dv.jS (ps.map Prod.fst)=true)
  (hQ:∀W',Below w.heap.size w W'->Q .normal { tmps:=#[u0,.slice R n vc,u2,u3,u4,u5,u6,u7,u8,u9,u10,u11,u12,.slice R n vc,.bool true,.bool false,u16,u17,u18,u19,u20,u21,u22,u23,u24,u25,u26,u27,u28,u29,u30,u31,u32],defers:=[] } W'):
  DZ.wp PQ Q { tmps:=#[u0,.slice R n vc,u2,u3,u4,u5,u6,u7,u8,u9,u10,u11,u12,u13,u14,u15,u16,u17,u18,u19,u20,u21,u22,u23,u24,u25,u26,u27,u28,u29,u30,u31,u32],defers:=[] } w:=by
 have z:=EM _ ps w I E
 rw [J] at z
 have H:Hid _:=z
 have HQ:Hid _:=hQ
 clear z hQ J I E
 simp only [DZ,Tryz.f12]
 go_wp2_with (go_at_call 37;refine aK H.out ?_;rintro e5 w5 ⟨rfl,Y⟩)
 exact HQ.out _ Y
theorem J9 {u4 u5 u13 u14 u15:Value} (R:Option Addr) (n vc:Nat) (ps:List PU) (w:World) (I:lN w (.slice R n vc) ps) (E:ps.length<=4294967296) (J:Dv.jS (ps.map Prod.fst)=false)
  (hQ:∀W',Below w.heap.size w W'->Q .ret { tmps:=#[u0,.slice R n vc,u2,u3,.slice none 0 0,.int .i64 2,u6,u7,u8,u9,u10,u11,u12,.slice R n vc,.bool false,.bool true,u16,u17,u18,u19,u20,u21,u22,u23,u24,u25,u26,u27,u28,u29,u30,u31,u32],defers:=[] } W'):
  DZ.wp PQ Q { tmps:=#[u0,.slice R n vc,u2,u3,u4,u5,u6,u7,u8,u9,u10,u11,u12,u13,u14,u15,u16,u17,u18,u19,u20,u21,u22,u23,u24,u25,u26,u27,u28,u29,u30,u31,u32],defers:=[] } w:=by
 have z:=EM _ ps w I E
 rw [J] at z
 have H:Hid _:=z
 have HQ:Hid _:=hQ
 clear z hQ J I E
 simp only [DZ,Tryz.f12]
 go_wp2_with (go_at_call 37;refine aK H.out ?_;rintro e5 w5 ⟨rfl,Y⟩)
 exact HQ.out _ Y
theorem Yp {u6:Value} (w:World)
  (z:Q .normal { tmps:=#[u0,u1,u2,u3,u4,u5,.slice none 0 0,u7,u8,u9,u10,u11,u12,u13,u14,u15,u16,u17,u18,u19,u20,u21,u22,u23,u24,u25,u26,u27,u28,u29,u30,u31,u32],defers:=[] } w):
  NP.wp PQ Q { tmps:=#[u0,u1,u2,u3,u4,u5,u6,u7,u8,u9,u10,u11,u12,u13,u14,u15,u16,u17,u18,u19,u20,u21,u22,u23,u24,u25,u26,u27,u28,u29,u30,u31,u32],defers:=[] } w:=by
 simp only [NP,Tryz.f12]
 go_wp2_with fail
 exact z
theorem YE {u7 u16 u17:Value} (c:Cf) (E:Nat) (w:World) (k0:w.cell? ⟨E,0,none⟩=some (.int .u32 c.inbox)) (k1:w.cell? ⟨E,1,none⟩=some (.int .u32 c.batcher)) (k2:w.cell? ⟨E,2,none⟩=some (.int .i64 c.timeout)) (k3:w.cell? ⟨E,3,none⟩=some (.int .i64 c.window)) (k4:w.cell? ⟨E,4,none⟩=some (.int .i64 c.drift)) (k5:w.cell? ⟨E,5,none⟩=some (.int .i64 c.step)) (k6:w.cell? ⟨E,6,none⟩=some (.int .i64 c.most))
  (J:∀R,R=((w.alloc (.cells (jI c) 24)).alloc (.map #[] 0)).alloc (.cells (jO c (.slice none 0 0) (w.heap.size+1) (.slice none 0 0) (.slice none 0 0) 0 0 0) 137)->Q .normal { tmps:=#[u0,u1,.pointer (some ⟨E,0,none⟩),u3,u4,u5,u6,.pointer (some ⟨w.heap.size+2,0,none⟩),u8,u9,u10,u11,u12,u13,u14,u15,.agg #[.int .u32 c.inbox,.int .u32 c.batcher,.int .i64 c.timeout,.int .i64 c.window,.int .i64 c.drift,.int .i64 c.step,.int .i64 c.most],.pointer (some ⟨w.heap.size+2,0,none⟩),u18,u19,u20,u21,u22,u23,u24,u25,u26,u27,u28,u29,u30,u31,u32],defers:=[] } R):
  NY.wp PQ Q { tmps:=#[u0,u1,.pointer (some ⟨E,0,none⟩),u3,u4,u5,u6,u7,u8,u9,u10,u11,u12,u13,u14,u15,u16,u17,u18,u19,u20,u21,u22,u23,u24,u25,u26,u27,u28,u29,u30,u31,u32],defers:=[] } w:=by
 have z:=new_any c w
 have H:Hid _:=z
 have Y:Hid _:=J
 clear z J
 simp only [NY,Tryz.f12]
 go_wp2_with (go_at_call 38;refine aK H.out ?_;rintro e5 w5 ⟨rfl,I⟩;have HW:Hid _:=I;clear I)
 exact Y.out _ HW.out
theorem Yf {u18 u19 u20:Value} (z:Option Addr) (n vc:Nat) (w:World)
  (E:Q .normal { tmps:=#[u0,.slice z n vc,u2,u3,u4,u5,u6,u7,u8,u9,u10,u11,u12,u13,u14,u15,u16,u17,.slice z n vc,.int .i64 n,.int .i64 0,u21,u22,u23,u24,u25,u26,u27,u28,u29,u30,u31,u32],defers:=[] } w):
  Oh.wp PQ Q { tmps:=#[u0,.slice z n vc,u2,u3,u4,u5,u6,u7,u8,u9,u10,u11,u12,u13,u14,u15,u16,u17,u18,u19,u20,u21,u22,u23,u24,u25,u26,u27,u28,u29,u30,u31,u32],defers:=[] } w:=by
 simp only [Oh,Tryz.f12]
 go_wp2_with fail
 exact E
theorem Un {u21:Value} (j n:Nat) (w:World)
  (z:Q .normal { tmps:=#[u0,u1,u2,u3,u4,u5,u6,u7,u8,u9,u10,u11,u12,u13,u14,u15,u16,u17,u18,.int .i64 n,.int .i64 j,.bool (decide (j < n)),u22,u23,u24,u25,u26,u27,u28,u29,u30,u31,u32],defers:=[] } w):
  DF.wp PQ Q { tmps:=#[u0,u1,u2,u3,u4,u5,u6,u7,u8,u9,u10,u11,u12,u13,u14,u15,u16,u17,u18,.int .i64 n,.int .i64 j,u21,u22,u23,u24,u25,u26,u27,u28,u29,u30,u31,u32],defers:=[] } w:=by
 simp only [DF,allL,Tryz.f12]
 go_wp2_with fail
 exact z
theorem YI {u9 u22 u23:Value} (g off n vc j:Nat) (id I:Int) (ta:Option Addr) (tn tc:Nat) (E:Option Addr) (J z:Nat) (w:World) (hj:j < n) (k0:w.cell? ⟨g,off+j * 4,none⟩=some (.int .i64 id)) (k1:w.cell? ⟨g,off+j * 4+1,none⟩=some (.int .i64 I)) (k2:w.cell? ⟨g,off+j * 4+2,none⟩=some (.slice ta tn tc)) (k3:w.cell? ⟨g,off+j * 4+3,none⟩=some (.slice E J z))
  (R:∀Y,Y.heap=(w.alloc (.cells #[.int .i64 id,.int .i64 I,.slice ta tn tc,.slice E J z] 42)).heap->Q .normal { tmps:=#[u0,u1,u2,u3,u4,u5,u6,u7,u8,.pointer (some ⟨w.heap.size,0,none⟩),u10,u11,u12,u13,u14,u15,u16,u17,.slice (some ⟨g,off,none⟩) n vc,u19,.int .i64 j,u21,.pointer (some ⟨g,off+j * 4,none⟩),.agg #[.int .i64 id,.int .i64 I,.slice ta tn tc,.slice E J z],u24,u25,u26,u27,u28,u29,u30,u31,u32],defers:=[] } Y):
  ES.wp PQ Q { tmps:=#[u0,u1,u2,u3,u4,u5,u6,u7,u8,u9,u10,u11,u12,u13,u14,u15,u16,u17,.slice (some ⟨g,off,none⟩) n vc,u19,.int .i64 j,u21,u22,u23,u24,u25,u26,u27,u28,u29,u30,u31,u32],defers:=[] } w:=by
 have aa:(0:Int)<=j:=by omega
 have ab:(j:Int) < (n:Int):=by omega
 have HQ:Hid _:=R
 clear R
 simp only [ES,allL,Tryz.f12]
 go_wp2_with fail
 exact HQ.out _ rfl
theorem W9 {u31:Value} (j:Nat) (w:World) (E:j<=4294967296)
  (z:Q .normal { tmps:=#[u0,u1,u2,u3,u4,u5,u6,u7,u8,u9,u10,u11,u12,u13,u14,u15,u16,u17,u18,u19,.int .i64 ((j+1:Nat):Int),u21,u22,u23,u24,u25,u26,u27,u28,u29,u30,.int .i64 ((j+1:Nat):Int),u32],defers:=[] } w):
  xM.wp PQ Q { tmps:=#[u0,u1,u2,u3,u4,u5,u6,u7,u8,u9,u10,u11,u12,u13,u14,u15,u16,u17,u18,u19,.int .i64 j,u21,u22,u23,u24,u25,u26,u27,u28,u29,u30,u31,u32],defers:=[] } w:=by
 have hw:IntKind.i64.wrap ((j:Int)+1)=((j+1:Nat):Int):=by rw [IntKind.wrap_i64];omega
 simp only [xM,allL,Tryz.f12]
 go_wp2_with fail
 exact z
theorem VL {u4 u5 u32:Value} (z:Option Addr) (n vc:Nat) (w:World)
  (E:Q .normal { tmps:=#[u0,u1,u2,u3,.slice z n vc,.int .i64 0,.slice z n vc,u7,u8,u9,u10,u11,u12,u13,u14,u15,u16,u17,u18,u19,u20,u21,u22,u23,u24,u25,u26,u27,u28,u29,u30,u31,.slice z n vc],defers:=[] } w):
  xg.wp PQ Q { tmps:=#[u0,u1,u2,u3,u4,u5,.slice z n vc,u7,u8,u9,u10,u11,u12,u13,u14,u15,u16,u17,u18,u19,u20,u21,u22,u23,u24,u25,u26,u27,u28,u29,u30,u31,u32],defers:=[] } w:=by
 simp only [xg,Tryz.f12]
 go_wp2_with fail
 exact E
theorem Ws {u27 u28 u29 u30:Value} (kb:Nat) (J:Option Addr) (I z:Nat) (R:Option Addr->Nat->Nat->World->Prop) (w:World) (hc:Calls PQ 40 #[.slice J I z,.func (.func 75) #[] #[.pointer (some ⟨w.heap.size,0,none⟩)]] (w.alloc (.cells #[.pointer (some ⟨kb,0,none⟩)] 93)) (λe E=>∃a n cap,e=.returned (.slice a n cap)/\R a n cap E))
  (Y:∀a n cap E,R a n cap E->Q .normal { tmps:=#[u0,u1,u2,u3,u4,u5,.slice a n cap,.pointer (some ⟨kb,0,none⟩),u8,u9,u10,u11,u12,u13,u14,u15,u16,u17,u18,u19,u20,u21,u22,u23,u24,u25,u26,.slice J I z,.pointer (some ⟨kb,0,none⟩),.func (.func 75) #[] #[.pointer (some ⟨w.heap.size,0,none⟩)],.slice a n cap,u31,u32],defers:=[] } E):
  yg.wp PQ Q { tmps:=#[u0,u1,u2,u3,u4,u5,.slice J I z,.pointer (some ⟨kb,0,none⟩),u8,u9,u10,u11,u12,u13,u14,u15,u16,u17,u18,u19,u20,u21,u22,u23,u24,u25,u26,u27,u28,u29,u30,u31,u32],defers:=[] } w:=by
 have H1:Hid _:=Kq kb w
 have H2:Hid _:=hc
 have HQ:Hid _:=Y
 clear hc Y
 simp only [yg,allL,Tryz.f12]
 go_wp2_with (first|(go_at_call 41;refine aK H1.out ?_;rintro e5 w5 ⟨rfl,rfl⟩)|(go_at_call 40;refine aK H2.out ?_;rintro e6 w6 ⟨a,n,cap,rfl,h6⟩;have HR:Hid _:=h6;clear h6))
 exact HQ.out _ _ _ _ HR.out
end
open Dv (U Cf Ba Ch Lo St)
section
variable {n i:Nat} {b:Ba} {us:List PB} {x:PB}
theorem y9 {l:Im.It} (h:Dv.qM l n=some b):b.place=n:=by
 unfold Dv.qM at h
 split at h
 ·split at h
  ·cases h
  ·split at h
   ·split at h
    ·cases h;rfl
    ·cases h
   ·cases h
 ·cases h
theorem Du {i:Im.It} (h:Dv.wM i n=some b):b.place=n:=by
 unfold Dv.wM at h
 split at h
 ·cases h
 ·split at h
  ·cases h
  ·split at h
   ·rw [Option.bind_eq_some_iff] at h
    obtain ⟨l,_,h⟩:=h
    exact y9 h
   ·cases h
theorem JH:∀(f:Nat) (s:List UInt8) (n:Nat) (b:Ba),b∈Dv.rd f s n->b.epoch<=n/\b.place=n
 |0,s,n,b,h=>by simp [Dv.rd] at h
 |f+1,s,n,b,h=>by
  rw [Dv.rd] at h
  split at h
  ·simp at h
  ·split at h
   ·simp at h
   ·split at h
    ·simp at h
    ·rename_i x z
     rcases dG.1 h with h|h
     ·split at h
      ·rw [dD.1 h]
       exact ⟨‹_›,Du z⟩
      ·simp at h
     ·exact JH f _ n b h
theorem Lc {c:Cf} {u:U} {cs:List Ch} {wait:List Ba} (h:b∈(Dv.take c u n cs wait).2):b∈wait\/(b.epoch<=n/\b.place=n):=by
 unfold Dv.take at h
 simp only at h
 rcases dG.1 h with h|h
 ·exact .inl h
 ·obtain ⟨s,_,hs⟩:=List.mem_flatMap.1 h
  exact .inr (JH _ _ _ _ hs)
structure RM (c:Cf) (chain:List U) (j:Nat) (us:List PB) (dl:Nat->List (List UInt8)) (s:qW) (cs:List Ch) (log:List Lo):Prop where
 len:us.length=j
 id:∀i,i < j->DU us i=(chain[i]!).id
 time:∀i,i < j->y8 us i=(chain[i]!).time
 deps:∀i,i < j->dl i=Dv.jP (chain[i]!)
 chs:cs=(Dv.gone c chain j).chs
 wait:s.ws.map Prod.fst=(Dv.gone c chain j).wait
 ws:∀p,p∈s.ws->p.1.epoch < j/\p.1.place<=4294967296
 zero:j=0->log=[]/\s.cnt=0/\s.ep=0/\s.sq=0
 some:0 < j->log=(Dv.gone c chain j).log/\Hs c us (log.getLastD default) s/\s.ep < j/\s.sq<=s.cnt
theorem RM.start (c:Cf) (chain:List U) (dl:Nat->List (List UInt8)):RM c chain 0 [] dl ⟨[],0,0,0⟩ [] []:=
 ⟨rfl,λi h=>by omega,λi h=>by omega,λi h=>by omega,rfl,rfl,λp h=>by simp at h,λ_=>⟨rfl,rfl,rfl,rfl⟩,λh=>by omega⟩
section
variable {c:Cf} {chain:List U} {j:Nat} {us:List PB} {dl:Nat->List (List UInt8)} {s:qW} {cs:List Ch} {log:List Lo}
theorem WU (h:i < us.length):DU (us++[x]) i=DU us i:=by
 unfold DU
 rw [aS,aS,bP h]
theorem VU (h:i < us.length):y8 (us++[x]) i=y8 us i:=by
 unfold y8
 rw [aS,aS,bP h]
theorem Xy:DU (us++[x]) us.length=x.1:=by
 unfold DU
 rw [aS,bK jC,Nat.sub_self]
 rfl
theorem Xn:y8 (us++[x]) us.length=x.2.1:=by
 unfold y8
 rw [aS,bK jC,Nat.sub_self]
 rfl
structure RT (c:Cf) (chain:List U) (j:Nat) (us:List PB) (dl:Nat->List (List UInt8)) (s:qW) (cs:List Ch) (log:List Lo):Prop where
 lk:Lk chain us dl
 len:us.length=j+1
 take:(cs,s.ws.map Prod.fst)=Dv.take c (chain[j]!) j (Dv.gone c chain j).chs (Dv.gone c chain j).wait
 ws:∀p,p∈s.ws->p.1.epoch < us.length/\p.1.place<=4294967296
 zero:j=0->log=[]/\s.cnt=0/\s.ep=0/\s.sq=0
 some:0 < j->log=(Dv.gone c chain j).log/\Hs c us (log.getLastD default) s/\s.ep < us.length/\s.sq<=s.cnt
theorem RM.took (h:RM c chain j us dl s cs log) (hj:j < chain.length) (I:j<=60) {v:Value} {ws':List PW} {cs':List Ch} (ht:(cs',ws'.map Prod.fst)=Dv.take c (chain[j]!) j cs (s.ws.map Prod.fst)):
  RT c chain j (us++[((chain[j]!).id,(chain[j]!).time,v)]) (λi=>if i=us.length then Dv.jP (chain[j]!) else dl i) ⟨ws',s.cnt,s.ep,s.sq⟩ cs' log:=by
 have E:=h.len
 have z:(us++[((chain[j]!).id,(chain[j]!).time,v)]).length=j+1:=by simp [E]
 rw [h.chs,h.wait] at ht
 refine ⟨⟨by omega,by omega,λi J=>?_,λi J=>?_,λi J=>?_⟩,z,ht,λp hp=>?_,λe=>h.zero e,λe=>?_⟩
 ·by_cases e:i=us.length
  ·rw [e,Xy,E]
  ·rw [WU (by omega)];exact h.id i (by omega)
 ·by_cases e:i=us.length
  ·rw [e,Xn,E]
  ·rw [VU (by omega)];exact h.time i (by omega)
 ·by_cases e:i=us.length
  ·rw [if_pos e,e,E]
  ·rw [if_neg e];exact h.deps i (by omega)
 ·have Y:p.1∈(Dv.take c (chain[j]!) j (Dv.gone c chain j).chs (Dv.gone c chain j).wait).2:=by
   rw [<-ht]
   exact bC.2 ⟨p,hp,rfl⟩
  rw [z]
  rcases Lc Y with q|⟨q1,q2⟩
  ·rw [<-h.wait] at q
   obtain ⟨p',hp',e⟩:=bC.1 q
   have:=h.ws p' hp'
   rw [e] at this
   omega
  ·omega
 ·obtain ⟨R,h2,h3,h4⟩:=h.some e
  refine ⟨R,⟨h2.number,h2.time.trans ?_,h2.epoch,h2.seq⟩,by show s.ep < _;omega,h4⟩
  unfold lG
  rw [aS,aS,bP (by omega)]
theorem RT.fit (h:RT c chain j us dl s cs log) (J:Dv.jS chain=true) (aa:Dv.jQ c=true) (hj:j < chain.length) (R:0 < j):∃T,T < 4294967296/\Ok c chain us T (log.getLastD default) s:=by
 obtain ⟨h1,h2,h3,h4⟩:=h.some R
 have ab:=(Dv.kJ J).2.1
 have hF:=Dv.qR J aa j (by omega)
 have I:=Dv.take_len c (chain[j]!) j (Dv.gone c chain j).chs (Dv.gone c chain j).wait (Dv.nS chain none (Dv.kJ J).2.2.1 j hj)
 rw [<-h.take] at I
 simp only [aU] at I
 have hm:=hF.much
 unfold Dv.much at hm
 have ht:=Dv.rE J (i:=j - 1) (j:=j) (by omega) hj
 have z:=hF.number
 have Y:=hF.epoch
 rw [<-h1] at hm z Y
 have E:s.cnt=log.length:=by
  rw [<-z]
  exact h2.number.symm
 refine ⟨s.cnt+Dv.left chain (us.length - 1) (log.getLastD default) (s.ws.map Prod.fst),?_,h2,h3,h.ws,jC,h4⟩
 unfold Dv.left
 rw [h.len,E,aU]
 simp only [Nat.add_sub_cancel]
 omega
theorem RT.good (h:RT c chain j us dl s cs log) (J:Dv.jS chain=true) (z:Dv.jQ c=true) (hj:j < chain.length):Good c us s:=by
 rcases gB j with I|I
 ·obtain ⟨_,R,e2,Y⟩:=h.zero I
  have hs:s=⟨s.ws,0,0,0⟩:=by
   cases s
   simp only at R e2 Y
   subst R e2 Y
   rfl
  rw [hs]
  have E:=Dv.take_len c (chain[j]!) j (Dv.gone c chain j).chs (Dv.gone c chain j).wait (Dv.nS chain none (Dv.kJ J).2.2.1 j hj)
  rw [<-h.take,I] at E
  simp only [Dv.gone,Dv.start,aU,bM] at E
  exact LW h.lk J z (by rw [h.len,I]) (by omega) h.ws
 ·obtain ⟨T,hT,o⟩:=h.fit J z hj I
  exact Wu h.lk J z hT o
theorem RT.drawn (h:RT c chain j us dl s cs log) (hc:Dv.jS chain=true) (Y:Dv.jQ c=true) (hj:j < chain.length) {E:List DX} (hp:DS c us s E):
  RM c chain (j+1) us dl ⟨(jJ c us (jK s E).ws (jK s E).cnt (jK s E).ep).2,(jK s E).cnt,(jK s E).ep,(jK s E).sq⟩ cs (log++E.map (oK c us dl)):=by
 have hl:=h.len
 have ac:cs=(Dv.take c (chain[j]!) j (Dv.gone c chain j).chs (Dv.gone c chain j).wait).1:=by rw [<-h.take]
 have ab:s.ws.map Prod.fst=(Dv.take c (chain[j]!) j (Dv.gone c chain j).chs (Dv.gone c chain j).wait).2:=by rw [<-h.take]
 have main:∀(R:Lo) (s0:qW) (r:List DX) (T:Nat),Ok c chain us T R s0->s0.ws=s.ws->(Dv.gone c chain j).log.getLastD default=R->(Dv.gone c chain j).log≠[]->vK c us s0 r->jK s0 r=jK s E->log++E.map (oK c us dl)=(Dv.gone c chain j).log++r.map (oK c us dl)->
   RM c chain (j+1) us dl ⟨(jJ c us (jK s E).ws (jK s E).cnt (jK s E).ep).2,(jK s E).cnt,(jK s E).ep,(jK s E).sq⟩ cs (log++E.map (oK c us dl)):=by
  intro R s0 r T o e1 e2 e3 f e4 e5
  have hn:=hp.2
  rw [<-e4] at hn
  have hd:=Steps.draws h.lk hc Y f o hn
  obtain ⟨z,oz,hz⟩:=f.ok h.lk hc Y o
  rw [e4] at oz hd
  rw [hl] at hd
  simp only [Nat.add_sub_cancel] at hd
  rw [e1,ab] at hd
  have I:Dv.gone c chain (j+1)=⟨(Dv.take c (chain[j]!) j (Dv.gone c chain j).chs (Dv.gone c chain j).wait).1,(jJ c us (jK s E).ws (jK s E).cnt (jK s E).ep).2.map Prod.fst,(Dv.gone c chain j).log++r.map (oK c us dl)⟩:=by
   rw [Dv.gone,Dv.step,e2,hd]
  refine ⟨hl,λi hi=>h.lk.id i (by omega),λi hi=>h.lk.time i (by omega),λi hi=>h.lk.deps i (by omega),by rw [I];exact ac,by rw [I],λp hp=>?_,λe=>by omega,λ_=>⟨by rw [I];exact e5,?_,by have:=oz.ep;show (jK s E).ep < _;omega,oz.sq⟩⟩
  ·have:=oz.ws p (rH p hp)
   omega
  ·have ae:(log++E.map (oK c us dl)).getLastD default=z:=by
    rw [e5,Dv.lT _ _ e3,e2,hz]
   rw [ae]
   exact ⟨oz.hs.number,oz.hs.time,oz.hs.epoch,oz.hs.seq⟩
 rcases gB j with R|R
 ·obtain ⟨e0,e1,e2,e3⟩:=h.zero R
  have hs:s=⟨s.ws,0,0,0⟩:=by
   cases s
   simp only at e1 e2 e3
   subst e1 e2 e3
   rfl
  have hu:us.length=1:=by omega
  have J:=hp.1.WL
  rw [hs] at J
  rcases zY hu J with rfl|⟨x,r,rfl,q1,q2,q3,q4,q5⟩
  ·exfalso
   have hn:=hp.2
   have el:jK s []=s:=rfl
   rw [el,e1,e2,Bd hu] at hn
   cases hn
  ·have hg:(Dv.gone c chain j).log=[Dv.first (chain[0]!)]:=by rw [R];rfl
   refine main (Dv.first (chain[0]!)) ⟨s.ws,1,0,0⟩ r (1+s.ws.length) (Bz h.lk hu h.ws) rfl (by rw [hg];rfl) (by rw [hg];simp) q5 ?_ ?_
   ·unfold jK
    rw [List.foldl_cons,q4]
   ·rw [e0,hg,dW,ML h.lk hu q1 q2 q3 q4]
    rfl
 ·obtain ⟨T,hT,o⟩:=h.fit hc Y hj R
  obtain ⟨g1,_⟩:=h.some R
  have aa:=(Dv.qR hc Y j (by omega)).some
  exact main (log.getLastD default) s E T o rfl (by rw [g1]) aa hp.1.WL rfl (by rw [<-g1])
end
end
end Hm
end Go.Proofs.YtpibpdpedjinhaaGreatDoor
