import Derived.Test.YtpibpdpedjinhaaGreatDoorU13
import Derived.Test.YtpibpdpedjinhaaGreatDoorU16
import Derived.Laws.MakeOwn
import Derived.OwnWalk
import Derived.Conc.Own4
set_option maxRecDepth 100000
set_option maxHeartbeats 8000000
namespace Go.Proofs.YtpibpdpedjinhaaGreatDoor
namespace Cr
open Go Go.Conc Go.ConcN Go.RowKit Go.Conc.Lib Go.ConcR.Gen Go.ConcN.Gen
open Go.ConcR (KK WgAt stA smA Payload DC0)
section
abbrev bS:Frame:=base 71
theorem zA (T:Array Value) (h:T.size=24):∃v0 v1 v2 v3 v4 v5 v6 v7 v8 v9 E ag J z ae R ac af ah aa Y I ab ai,T=#[v0,v1,v2,v3,v4,v5,v6,v7,v8,v9,E,ag,J,z,ae,R,ac,af,ah,aa,Y,I,ab,ai]:=by
 obtain ⟨l⟩:=T
 match l,h with
 |[v0,v1,v2,v3,v4,v5,v6,v7,v8,v9,E,ag,J,z,ae,R,ac,af,ah,aa,Y,I,ab,ai],_=>exact ⟨_,_,_,_,_,_,_,_,_,_,_,_,_,_,_,_,_,_,_,_,_,_,_,_,rfl⟩
noncomputable def loopS:Code:=match Tryz.f71.body with
 |some (.seq _ (.seq _ (.seq _ (.seq (.seq _ (.block _ (.loop c))) _))))=>c
 |_=>.skip
noncomputable def vN:Code:=match Tryz.f71.body with
 |some (.seq _ (.seq _ (.seq _ (.seq _ c))))=>c
 |_=>.skip
noncomputable def tail9:Code:=match vN with
 |.seq _ c=>c
 |_=>.skip
noncomputable def ops9:Array Oper:=match vN with
 |.seq (.region _ ops _) _=>ops
 |_=>#[]
structure SF (OB:Nat->Prop) (W:World) (Wg C n:Nat) (K:jV) (w:World):Prop where
 sub:∀b,OB b->K.O b
 old:∀b,OB b->w.heap[b]? =W.heap[b]?
 kw:∀b,K.W b->K.O b
 ko:∀b,K.O b->b < w.heap.size/\b≠Wg/\b≠C
 pay:PayAt C n w
 hC:C < w.heap.size
 hG:Wg < w.heap.size
 glob:Tryz.prog.globals.size<=w.heap.size
 new:∀b,K.O b->OB b\/W.heap.size<=b
 siz:W.heap.size<=w.heap.size
 still:w.tape=W.tape/\w.os=W.os/\w.output=W.output
 low:∀b,b < C - 1->b < W.heap.size->b≠Wg->w.heap[b]? =W.heap[b]?
def leftB (bc bf:Nat) (W:World) (fs:Nat->List Fr.F):Left:=λi v O w=>leftOf fs i v O w/\∀b,O b->(b=bc\/b=bf)\/W.heap.size<=b
theorem Gq (bc bf:Nat) (W:World) (fs:Nat->List Fr.F):(leftB bc bf W fs).mQ:=λi v O w w₁ z h=>⟨CG fs i v O w w₁ z h.1,h.2⟩
section
variable {OB:Nat->Prop} {W:World} {Wg C n:Nat} {K:jV} {w w₁:World}
theorem SF.en (h:SF OB W Wg C n K w) (r:En (lQ Wg C n) none K w w₁):SF OB W Wg C n K w₁:=
 ⟨h.sub,λb z=>(r.block b (h.sub b z)).trans (h.old b z),h.kw,λb z=>⟨aH (h.ko b z).1 r.size,(h.ko b z).2⟩,r.pay h.pay,aH h.hC r.size,aH h.hG r.size,aW h.glob r.size,h.new,aW h.siz r.size,⟨r.tape.trans h.still.1,r.os.trans h.still.2.1,r.output.trans h.still.2.2⟩,λb E h2 h3=>(r.low b E).trans (h.low b E h2 h3)⟩
theorem SF.wg (E:C≠Wg) (h:SF OB W Wg C n K w) (r:Go.Conc.Aside Wg w w₁):SF OB W Wg C n K w₁:=
 ⟨h.sub,λb z=>(r.block b (h.ko b (h.sub b z)).2.1).trans (h.old b z),h.kw,λb z=>⟨by rw [r.size];exact (h.ko b z).1,(h.ko b z).2⟩,let ⟨cs,I,h2⟩:=h.pay;⟨cs,(r.block _ E).trans I,h2⟩,by rw [r.size];exact h.hC,by rw [r.size];exact h.hG,by rw [r.size];exact h.glob,h.new,by rw [r.size];exact h.siz,⟨r.tape.trans h.still.1,r.os.trans h.still.2.1,r.output.trans h.still.2.2⟩,λb I h2 h3=>(r.block b h3).trans (h.low b I h2 h3)⟩
theorem SF.gu {w':World} {es:Array Event} (h:SF OB W Wg C n K w) (g:Gu (lQ Wg C n) none K w w' es) (E:∀b,K.W b->¬OB b):SF OB W Wg C n (K.grow w.heap.size w'.heap.size) w':=by
 have hs:=g.size
 have hC:=h.hC
 have hG:=h.hG
 exact ⟨λb z=>.inl (h.sub b z),λb z=>(g.block b (h.ko b (h.sub b z)).1 (λhw=>E b hw z) λ_=>rfl).trans (h.old b z),λb z=>z.imp (h.kw b) id,
  λb z=>z.elim (λx=>⟨aH (h.ko b x).1 hs,(h.ko b x).2⟩) λx=>⟨x.2,by omega,by omega⟩,g.pay h.pay,aH hC hs,aH hG hs,aW h.glob hs,
  λb z=>z.elim (h.new b) λx=>.inr (aW h.siz x.1),aW h.siz hs,⟨g.tape.trans h.still.1,g.os.trans h.still.2.1,g.output.trans h.still.2.2⟩,
  λb I h2 h3=>(g.block b (aH h2 h.siz) (λhw=>(h.new b (h.kw b hw)).elim (E b hw) λx=>by omega) λ_=>rfl).trans (h.low b I h2 h3)⟩
def Nz (tx:Option Addr) (n cap Wg bc bf j:Nat) (cs:List Frame) (g:Goroutine):Prop:=
 ∃T:Array Value,g=G (bS.at ⟨T,[]⟩ [.code loopS,.inLoop loopS,.inBlock 0,.code vN]) cs/\T.size=24/\T[2]? =some (.pointer (some ⟨bc,0,none⟩))/\T[5]? =some (.pointer (some ⟨bf,0,none⟩))/\T[6]? =some (.pointer (some ⟨Wg,0,none⟩))/\
  T[12]? =some (.slice tx n cap)/\T[13]? =some (.int .i64 n)/\T[14]? =some (.int .i64 j)
def AnchS (OB:Nat->Prop) (W:World) (Wg C n bf:Nat) (cs:List Frame) (K:jV) (g:Goroutine) (w:World):Prop:=
 ∃T:Array Value,T.size=24/\T[5]? =some (.pointer (some ⟨bf,0,none⟩))/\GN link (SF OB W Wg C n) Wg (bS.at ⟨T,[]⟩ (.inRegion ops9 (0::[])::[.code tail9])) cs K g w
def YA (OB:Nat->Prop) (W:World) (Wg C n bf:Nat) (cs:List Frame) (K:jV) (g:Goroutine) (w:World):Prop:=
 ∃T:Array Value,T.size=24/\T[5]? =some (.pointer (some ⟨bf,0,none⟩))/\g=G (bS.at ⟨T,[]⟩ (.inRegion ops9 []::[.code tail9])) cs/\SF OB W Wg C n K w
variable {bf:Nat} {cs:List Frame}
theorem Nb (E:C≠Wg) (K:jV) (g:Goroutine) (w:World) (h:AnchS OB W Wg C n bf cs K g w):
  Way Tryz.prog (lQ Wg C n) (rO Tryz.prog (lQ Wg C n) (YA OB W Wg C n bf cs) (AnchS OB W Wg C n bf cs)) K g w:=by
 obtain ⟨T,I,J,R⟩:=h
 refine Way.mono (waitRound (L:=link) wgLib (Wg:=Wg) (C:=C) (n:=n) (Fin:=YA OB W Wg C n bf cs) (Fk:=SF OB W Wg C n) (b₀:=bS) (a₀:=⟨T,[]⟩) (ops₀:=ops9) (i₀:=0) (rest₀:=[]) (k₀:=[.code tail9]) (cs:=cs) (λ_ _ _ r h=>h.en r) (λ_ _ _ r h=>h.wg E r) ?_ K g w R) λK g w x=>rO.mono (λK g w y=>⟨T,I,J,y⟩) x
 intro K w Y
 refine Way.stop λw₁ z=>⟨T.setIfInBounds 22 (.tuple #[]),by simp [I],by rw [dS (by omega)];exact J,?_,Y.1.en z⟩
 rfl
end
end
section
variable {K:jV} {w:World} {g:Goroutine}
section
variable {OB:Nat->Prop} {W:World} {Wg C n cap bc bf tb q0:Nat} {cs:List Frame} {inbox batcher t0 t1 t2 t3 t4:Int} {fr ad:Nat->Int} {data:Nat->ByteArray} {fs:Nat->List Fr.F}
theorem kE {z:World} (h:SF OB W Wg C n K w/\WgLive link.tWg Wg w) (r:En (lQ Wg C n) none K w z):SF OB W Wg C n K z/\WgLive link.tWg Wg z:=⟨h.1.en r,r.live h.2⟩
theorem OH (tx:Option Addr) (hg:Nz tx n cap Wg bc bf n cs g) (z:SF OB W Wg C n K w/\WgLive link.tWg Wg w):
  Way Tryz.prog (lQ Wg C n) (yA Tryz.prog (lQ Wg C n) (AnchS OB W Wg C n bf cs)) K g w:=by
 obtain ⟨T,rfl,hT,t2,t5,t6,Y,J,R⟩:=hg
 obtain ⟨v0,v1,v2,v3,v4,v5,v6,v7,v8,v9,ab,ao,ae,aa,am,af,ak,an,ap,ai,ag,ac,aj,aq,rfl⟩:=zA T hT
 simp only [dY,dX,dQ,aC] at t2 t5 t6 Y J R
 subst t2 t5 t6 Y J R
 have ah:¬((n:Int) < (n:Int)):=by omega
 simp only [loopS,vN,Tryz.f71]
 refine Way.go (n:=40) ?_
 u_c stepG_seq kE z
 u_reg kE z
 u_op kE z
 u_c stepG_region_end kE z
 u_c stepG_seq kE z
 u_cond false kE z
 u_exit kE z
 u_c stepG_seq kE z
 u_reg kE z
 u_in kE z
 refine goes_call rfl rfl (by k_ne) rfl wgLib.f_wait (nm_wait link) rfl ⟨by u_nil,?_⟩
 walk_nrmf waitFn
 refine Goes.stop λI E=>?_
 replace z:=kE z E
 refine Way.mono (waitStart (L:=link) (P:=Tryz.prog) wgLib (Wg:=Wg) (C:=C) (n:=n) (Fk:=SF OB W Wg C n) (b₀:=bS) (a₀:=_) (ops₀:=ops9) (i₀:=0) (rest₀:=[]) (k₀:=[.code tail9]) (cs:=cs) (λ_ _ _ r h=>h.en r) K I z) λK g w x=>yA.mono (λK g w y=>⟨_,?_,?_,y⟩) x
 all_goals simp
theorem Jr (rd:ReadW) {St':jV->Goroutine->World->Prop} (ba:C≠Wg) {j:Nat} (hj:j < n) (hn:n < 9223372036854775808) (a4:OB tb) (bb:OB bc) (bk:OB bf) (bz:W.heap[bc]? =some (.cells (cfg inbox batcher t0 t1 t2 t3 t4) 24)) (b5:W.heap[bf]? =some (.cells #[.slice (some ⟨C,0,none⟩) n n] 29))
  (hx:W.cell? ⟨tb,q0+j * 3,none⟩=some (.int .u32 (fr j))/\W.cell? ⟨tb,q0+j * 3+1,none⟩=some (.int .u32 (ad j))/\W.cell? ⟨tb,q0+j * 3+2,none⟩=some (.string (data j))) (b0:fs j=Fr.lM inbox batcher (fr j) (ad j) (data j).data.toList) (hd:(data j).size<=1048576)
  (hg:Nz (some ⟨tb,q0,none⟩) n cap Wg bc bf j cs g) (z:SF OB W Wg C n K w/\WgLive link.tWg Wg w) (hK:∀b,¬K.W b)
  (a6:∀K g w,Nz (some ⟨tb,q0,none⟩) n cap Wg bc bf (j+1) cs g->SF OB W Wg C n K w/\WgLive link.tWg Wg w->(∀b,¬K.W b)->Way Tryz.prog (lQ Wg C n) St' K g w):
  Way Tryz.prog (lQ Wg C n) (Jd Tryz.prog (lQ Wg C n) (leftB bc bf W fs) j (λK g w=>Way Tryz.prog (lQ Wg C n) St' K g w)) K g w:=by
 obtain ⟨T,rfl,hT,t2,t5,t6,bo,bh,bw⟩:=hg
 obtain ⟨v0,v1,v2,v3,v4,v5,v6,v7,v8,v9,ck,cd,cn,b8,cm,ca,cb,ci,cp,cg,cf,b9,co,cq,rfl⟩:=zA T hT
 simp only [dY,dX,dQ,aC] at t2 t5 t6 bo bh bw
 subst t2 t5 t6 bo bh bw
 have ce:(j:Int) < (n:Int):=by omega
 have cc:(0:Int)<=(j:Int):=by omega
 simp only [loopS,Tryz.f71]
 refine Way.go (n:=40) ?_
 u_c stepG_seq kE z
 u_reg kE z
 u_op kE z
 u_c stepG_region_end kE z
 u_c stepG_seq kE z
 u_cond true kE z
 u_c stepG_skip kE z
 u_c stepG_seq kE z
 u_c stepG_block kE z
 u_c stepG_seq kE z
 u_reg kE z
 iterate 2 u_op kE z
 refine Goes.stop λb7 a0=>?_
 replace z:=kE z a0
 clear a0
 refine Way.m (kP.op rfl rfl (by k_ne) λax a1=>?_)
 replace z:=kE z a1
 clear a1
 have I:∀k,ax.cell? ⟨tb,k,none⟩=W.cell? ⟨tb,k,none⟩:=λk=>cell_of_block (z.1.old tb a4) k
 refine ⟨_,ax,Qo rfl rfl ((I _).trans hx.1) ((I _).trans hx.2.1) ((I _).trans hx.2.2),qQ λe he=>?_,?_⟩
 ·obtain ⟨k,rfl⟩:=QO he rfl rfl ((I _).trans hx.1) ((I _).trans hx.2.1) ((I _).trans hx.2.2)
  exact ⟨_,rfl,z.1.sub tb a4,(z.1.ko tb (z.1.sub tb a4)).1⟩
 rw [kH]
 clear I
 walk_nrm
 refine kP.op rfl rfl (by k_ne) λao a2=>?_
 replace z:=kE z a2
 clear a2
 have ae:Gu (lQ Wg C n) none K ao (ao.alloc (.cells #[.int .i64 0] 3)) #[]:=IL z.1.hC _
 refine ⟨_,_,Ri rfl,by rw [Wv rfl];exact ae,?_⟩
 have hS:=z.1.gu ae λb hb=>absurd hb (hK b)
 obtain ⟨bi,aq⟩:∃bi,ao.heap.size=bi:=⟨_,rfl⟩
 obtain ⟨V,hV⟩:∃V,ao.alloc (.cells #[.int .i64 0] 3)=V:=⟨_,rfl⟩
 have Y:V.heap[bi]? =some (.cells #[.int .i64 0] 3):=by rw [<-hV,<-aq];exact heap_alloc_new _ _
 have a7:V.heap.size=bi+1:=by rw [<-hV,<-aq];simp
 have ab:WgLive link.tWg Wg V:=let ⟨st,sm,hl⟩:=z.2;⟨st,sm,hl.of_block (by rw [<-hV];exact ae.block _ z.1.hG (hK _) λ_=>rfl)⟩
 rw [hV] at hS
 rw [hV,aq]
 rw [aq] at hS
 obtain ⟨K1,au⟩:∃K1,K.grow bi V.heap.size=K1:=⟨_,rfl⟩
 rw [au] at hS⊢
 have a8:K1.O bi:=by rw [<-au];exact .inr ⟨jC,by omega⟩
 have bg:K1.W bi:=by rw [<-au];exact .inr ⟨jC,by omega⟩
 have bd:∀b,K1.W b->b=bi:=by rw [<-au];exact λb hb=>hb.elim (λh=>absurd h (hK b)) λh=>by omega
 have bl:¬OB bi:=λh=>by have:=(z.1.ko bi (z.1.sub bi h)).1;omega
 replace z:SF OB W Wg C n K1 V/\WgLive link.tWg Wg V:=⟨hS,ab⟩
 clear ae hS ab hV au a7 aq
 walk_nrm
 refine kP.op rfl rfl (by k_ne) λag av=>?_
 replace z:=kE z av
 have bm:=(av.block bi a8).trans Y
 clear av Y
 have ae:Gu (lQ Wg C n) none K1 ag (ag.alloc (.cells #[.int .u32 0,.int .u32 0,.string ⟨#[]⟩] 68)) #[]:=IL z.1.hC _
 refine ⟨_,_,QT rfl,by rw [Xv rfl];exact ae,?_⟩
 have hS:=z.1.gu ae λb hb=>by rw [bd b hb];exact bl
 obtain ⟨E,ap⟩:∃E,ag.heap.size=E:=⟨_,rfl⟩
 have cl:bi < E:=by rw [<-ap];exact (z.1.ko bi a8).1
 obtain ⟨V2,hV⟩:∃V,ag.alloc (.cells #[.int .u32 0,.int .u32 0,.string ⟨#[]⟩] 68)=V:=⟨_,rfl⟩
 have ah:V2.heap[E]? =some (.cells #[.int .u32 0,.int .u32 0,.string ⟨#[]⟩] 68):=by rw [<-hV,<-ap];exact heap_alloc_new _ _
 have a7:V2.heap.size=E+1:=by rw [<-hV,<-ap];simp
 have Y:V2.heap[bi]? =some (.cells #[.int .i64 0] 3):=by
  rw [<-hV]
  show (ag.heap.push _)[bi]? =_
  rw [fH (by omega),<-bU]
  exact bm
 have ab:WgLive link.tWg Wg V2:=let ⟨st,sm,hl⟩:=z.2;⟨st,sm,hl.of_block (by rw [<-hV];exact ae.block _ z.1.hG (λh=>(z.1.ko _ (z.1.kw _ h)).2.1 rfl) λ_=>rfl)⟩
 rw [hV] at hS
 rw [hV,ap]
 rw [ap] at hS
 obtain ⟨K2,aj⟩:∃K2,K1.grow E V2.heap.size=K2:=⟨_,rfl⟩
 rw [aj] at hS⊢
 have af:K2.O E:=by rw [<-aj];exact .inr ⟨jC,by omega⟩
 have aw:K2.W E:=by rw [<-aj];exact .inr ⟨jC,by omega⟩
 have J:K2.O bi:=by rw [<-aj];exact .inl a8
 have b1:∀b,K2.W b->b=bi\/b=E:=by rw [<-aj];exact λb hb=>hb.elim (λh=>.inl (bd b h)) λh=>.inr (by omega)
 have b2:¬OB E:=λh=>by have:=(z.1.ko E (z.1.sub E h)).1;omega
 have az:K2.W bi:=by rw [<-aj];exact .inl bg
 replace z:SF OB W Wg C n K2 V2/\WgLive link.tWg Wg V2:=⟨hS,ab⟩
 clear ae hS ab hV aj a7 ap bm
 walk_nrm
 have bp:bi≠C:=(z.1.ko bi J).2.2
 have bs:E≠C:=(z.1.ko E af).2.2
 have br:bi≠Wg:=(z.1.ko bi J).2.1
 have bj:E≠Wg:=(z.1.ko E af).2.1
 have bu:∀b,K2.W b->¬OB b:=λb hb=>by rcases b1 b hb with rfl|rfl<;>assumption
 refine kP.opn rfl rfl (by k_ne) λaa am=>?_
 replace z:=kE z am
 have i5:=(am.block bi J).trans Y
 have x5:=(am.block E af).trans ah
 clear am Y ah
 have ar:Gu (lQ Wg C n) none K2 aa (aa.setCell ⟨bi,0,none⟩ (.int .i64 j)) #[]:=Rt az (z.1.ko bi J).1 bp (by simp)
 refine ⟨_,Ry rfl rfl rfl i5,Rt az (z.1.ko bi J).1 bp λe he=>WG he rfl rfl rfl i5,?_⟩
 have ai:=(jT aa ⟨bi,0,none⟩ (.int .i64 j)).2.2.2
 have hS:=z.1.gu ar bu
 rw [ai,kH] at hS
 rw [ai,kH]
 have ab:WgLive link.tWg Wg (aa.setCell ⟨bi,0,none⟩ (.int .i64 j)):=let ⟨st,sm,hl⟩:=z.2;⟨st,sm,hl.of_block (kD (Ne.symm br))⟩
 have Y:(aa.setCell ⟨bi,0,none⟩ (.int .i64 j)).heap[bi]? =some (.cells #[.int .i64 j] 3):=Oi i5
 have ah:(aa.setCell ⟨bi,0,none⟩ (.int .i64 j)).heap[E]? =some (.cells #[.int .u32 0,.int .u32 0,.string ⟨#[]⟩] 68):=(kD (by show E≠bi;omega)).trans x5
 replace z:SF OB W Wg C n K2 _/\WgLive link.tWg Wg _:=⟨hS,ab⟩
 clear ar hS ab ai i5 x5
 generalize aa.setCell ⟨bi,0,none⟩ (.int .i64 j)=V5 at *
 walk_nrm
 refine kP.opn rfl rfl (by k_ne) λR ak=>?_
 replace z:=kE z ak
 have i6:=(ak.block bi J).trans Y
 have x6:=(ak.block E af).trans ah
 clear ak Y ah
 have ar:Gu (lQ Wg C n) none K2 R (sS R E (.int .u32 (fr j)) (.int .u32 (ad j)) (.string (data j))) #[]:=Nq aw (z.1.ko E af).1 bs (by simp)
 refine ⟨_,RH rfl rfl rfl x6,Nq aw (z.1.ko E af).1 bs λe he=>Xl he rfl rfl rfl x6,?_⟩
 obtain ⟨_,_,_,ai,a3⟩:=BJ R E (.int .u32 (fr j)) (.int .u32 (ad j)) (.string (data j))
 have hS:=z.1.gu ar bu
 rw [ai,kH] at hS
 rw [ai,kH]
 have ab:WgLive link.tWg Wg (sS R E (.int .u32 (fr j)) (.int .u32 (ad j)) (.string (data j))):=let ⟨st,sm,hl⟩:=z.2;⟨st,sm,hl.of_block (a3 _ (Ne.symm bj))⟩
 have ah:(sS R E (.int .u32 (fr j)) (.int .u32 (ad j)) (.string (data j))).heap[E]? =some (.cells (yY (fr j) (ad j) (data j)) 68):=SC x6
 have Y:(sS R E (.int .u32 (fr j)) (.int .u32 (ad j)) (.string (data j))).heap[bi]? =some (.cells #[.int .i64 j] 3):=(a3 bi (by omega)).trans i6
 replace z:SF OB W Wg C n K2 _/\WgLive link.tWg Wg _:=⟨hS,ab⟩
 clear ar hS ab ai i6 x6 a3
 generalize sS R E (.int .u32 (fr j)) (.int .u32 (ad j)) (.string (data j))=V6 at *
 walk_nrm
 replace z:(SF OB W Wg C n K2 V6/\V6.heap[bi]? =some (.cells #[.int .i64 j] 3)/\V6.heap[E]? =some (.cells (yY (fr j) (ad j) (data j)) 68))/\WgLive link.tWg Wg V6:=⟨⟨z.1,Y,ah⟩,z.2⟩
 clear Y ah
 have ac:∀w w',En (lQ Wg C n) none K2 w w'->(SF OB W Wg C n K2 w/\w.heap[bi]? =some (.cells #[.int .i64 j] 3)/\w.heap[E]? =some (.cells (yY (fr j) (ad j) (data j)) 68))->(SF OB W Wg C n K2 w'/\w'.heap[bi]? =some (.cells #[.int .i64 j] 3)/\w'.heap[E]? =some (.cells (yY (fr j) (ad j) (data j)) 68)):=
  λw w' r h=>⟨h.1.en r,(r.block bi J).trans h.2.1,(r.block E af).trans h.2.2⟩
 have b4:∀w w',Go.Conc.Aside Wg w w'->(SF OB W Wg C n K2 w/\w.heap[bi]? =some (.cells #[.int .i64 j] 3)/\w.heap[E]? =some (.cells (yY (fr j) (ad j) (data j)) 68))->(SF OB W Wg C n K2 w'/\w'.heap[bi]? =some (.cells #[.int .i64 j] 3)/\w'.heap[E]? =some (.cells (yY (fr j) (ad j) (data j)) 68)):=
  λw w' r h=>⟨h.1.wg ba r,(r.block bi br).trans h.2.1,(r.block E bj).trans h.2.2⟩
 refine kP.go (n:=20) ?_
 u_c stepG_region_end (jA ac) z
 u_c stepG_seq (jA ac) z
 u_reg (jA ac) z
 u_in (jA ac) z
 refine goes_call rfl rfl (by k_ne) rfl wgLib.f_add (nm_add link) rfl ⟨by u_nil,?_⟩
 walk_nrmf addFn
 refine Goes.stop λbn ay=>?_
 replace z:=jA ac z ay
 clear ay
 refine addPos (L:=link) (P:=Tryz.prog) wgLib ac b4 ?_ bn z
 clear z
 intro b6 z
 walk_nrm
 refine Way.go (n:=20) ?_
 u_c stepG_region_end (jA ac) z
 u_reg (jA ac) z
 u_op (jA ac) z
 refine Goes.stop λbv an=>Way.stop λwa ha=>?_
 replace z:=jA ac (jA ac z an) ha
 clear an ha
 refine ⟨rfl,?_⟩
 rw [stepG_spawn (d:=Ie Wg bc E bf bi) (w':=wa) (f:=.func 108) (c:=#[.pointer (some ⟨Wg,0,none⟩),.pointer (some ⟨bc,0,none⟩),.pointer (some ⟨E,0,none⟩),.pointer (some ⟨bf,0,none⟩),.pointer (some ⟨bi,0,none⟩)]) rfl rfl (by k_ne) (by simp [go_sem,Ie,Deferred.ofValue]) rfl]
 generalize hL:listed _ _ _ _ _=Lx
 have b3:Lx=#[]:=by
  rw [<-hL]
  simp [listed,go_sem,seen,Deferred.ofValue]
  rfl
 subst b3
 clear hL
 have a9:∀b,(b=bc\/b=E\/b=bf\/b=bi)->K2.O b:=by
  rintro b (rfl|rfl|rfl|rfl)
  ·exact z.1.1.sub _ bb
  ·exact af
  ·exact z.1.1.sub _ bk
  ·exact J
 refine ⟨_,_,⟨K2.O,λ_=>False⟩,⟨λb=>b=bc\/b=E\/b=bf\/b=bi,λ_=>False⟩,rfl,rfl,λ_ h=>h,λ_ h=>h.elim,a9,λ_ h=>h.elim,λ_ h=>h.elim,λ_ h=>h.elim,λ_ h=>h.elim,λ_ h=>h.elim,λbq a5=>?_,?_⟩
 ·refine kP.mono (kP.keep (X:=λb=>b=bc\/b=bf) (B:=W.heap.size) (Md rd hj ba b0 hd ⟨(z.1.1.old bc bb).trans bz,z.1.2.2,(z.1.1.old bf bk).trans b5,z.1.2.1,a5,bq⟩ ⟨.inl rfl,.inr (.inl rfl),.inr (.inr (.inl rfl)),.inr (.inr (.inr rfl)),λ_ h=>h.elim,λb hb=>(z.1.1.ko b (a9 b hb)).1,z.1.1.hC,z.1.1.hG,λb hb=>(z.1.1.ko b (a9 b hb)).2.2,z.1.1.glob⟩) (λb hb=>by
   rcases hb with rfl|rfl|rfl|rfl
   ·exact .inl (.inl rfl)
   ·exact .inr ((z.1.1.new _ af).resolve_left b2)
   ·exact .inl (.inr rfl)
   ·exact .inr ((z.1.1.new _ J).resolve_left bl)) z.1.1.siz) λK g w x=>let ⟨⟨v,h1,h2⟩,h3⟩:=x;⟨v,h1,h2,h3⟩
 ·
  replace z:SF OB W Wg C n ⟨K2.O,λ_=>False⟩ wa/\WgLive link.tWg Wg wa:=⟨⟨z.1.1.sub,z.1.1.old,λ_ h=>h.elim,z.1.1.ko,z.1.1.pay,z.1.1.hC,z.1.1.hG,z.1.1.glob,z.1.1.new,z.1.1.siz,z.1.1.still,z.1.1.low⟩,z.2⟩
  have cj:IntKind.i64.wrap ((j:Int)+1)=((j+1:Nat):Int):=by rw [IntKind.wrap_i64];omega
  walk_nrm
  refine Way.go (n:=20) ?_
  u_c stepG_region_end kE z
  u_c stepG_inBlock kE z
  u_reg kE z
  iterate 2 u_op kE z
  u_c stepG_region_end kE z
  u_c stepG_inLoop kE z
  refine Goes.stop λbv an=>?_
  replace z:=kE z an
  refine a6 _ _ _ ⟨_,rfl,?_,?_,?_,?_,?_,?_,?_⟩ z λ_ h=>h
  all_goals simp
end
end
section
variable {tx:Option Addr}
section
variable {OB:Nat->Prop} {W:World} {Wg C n cap bc bf tb q0:Nat} {cs:List Frame} {inbox batcher t0 t1 t2 t3 t4:Int} {fr ad:Nat->Int} {data:Nat->ByteArray} {fs:Nat->List Fr.F}
structure Sr (OB:Nat->Prop) (W:World) (tx:Option Addr) (tb q0 n:Nat) (fr ad:Nat->Int) (data:Nat->ByteArray):Prop where
 at_:0 < n->tx=some ⟨tb,q0,none⟩/\OB tb
 cell:∀j,j < n->W.cell? ⟨tb,q0+j * 3,none⟩=some (.int .u32 (fr j))/\W.cell? ⟨tb,q0+j * 3+1,none⟩=some (.int .u32 (ad j))/\W.cell? ⟨tb,q0+j * 3+2,none⟩=some (.string (data j))
 size:∀j,j < n->(data j).size<=1048576
theorem KP (rd:ReadW) (J:C≠Wg) (hn:n < 9223372036854775808) (R:OB bc) (I:OB bf) (ab:W.heap[bc]? =some (.cells (cfg inbox batcher t0 t1 t2 t3 t4) 24)) (ac:W.heap[bf]? =some (.cells #[.slice (some ⟨C,0,none⟩) n n] 29))
  (hx:Sr OB W tx tb q0 n fr ad data) (aa:∀j,j < n->fs j=Fr.lM inbox batcher (fr j) (ad j) (data j).data.toList):
  ∀(r j:Nat),j+r=n->∀(K:jV) (g:Goroutine) (w:World),Nz tx n cap Wg bc bf j cs g->SF OB W Wg C n K w/\WgLive link.tWg Wg w->(∀b,¬K.W b)->sF Tryz.prog (lQ Wg C n) (AnchS OB W Wg C n bf cs) (leftB bc bf W fs) r K g w:=by
 intro r
 induction r with
 |zero=>
  intro j hj K g w Y hF _
  obtain rfl:j=n:=by omega
  exact OH tx Y hF
 |succ r ih=>
  intro j hj K g w Y hF hK
  obtain ⟨St',E⟩:∃St':jV->Goroutine->World->Prop,sF Tryz.prog (lQ Wg C n) (AnchS OB W Wg C n bf cs) (leftB bc bf W fs) r=λK g w=>Way Tryz.prog (lQ Wg C n) St' K g w:=by
   cases r with
   |zero=>exact ⟨_,rfl⟩
   |succ r=>exact ⟨_,rfl⟩
  obtain ⟨rfl,ae⟩:=hx.at_ (by omega)
  have z:j < n:=by omega
  have h:=Jr rd (St':=St') J z hn ae R I ab ac (hx.cell j z) (aa j z) (hx.size j z) Y hF hK λK g w h1 h2 h3=>by
   have:=ih (j+1) (by omega) K g w h1 h2 h3
   rw [E] at this
   exact this
  show ∃T,jX Tryz.prog true (lQ Wg C n) none (Jd Tryz.prog (lQ Wg C n) (leftB bc bf W fs) (n - (r+1)) (sF Tryz.prog (lQ Wg C n) (AnchS OB W Wg C n bf cs) (leftB bc bf W fs) r)) T K g w
  rw [E,show n - (r+1)=j by omega]
  exact h
noncomputable def Ua:Code:=match Tryz.f71.body with
 |some (.seq _ (.seq _ (.seq _ (.seq c _))))=>c
 |_=>.skip
theorem Qd (rd:ReadW) (R:C≠Wg) (hn:n < 9223372036854775808) (Y:OB bc) (J:OB bf) (ab:W.heap[bc]? =some (.cells (cfg inbox batcher t0 t1 t2 t3 t4) 24)) (ac:W.heap[bf]? =some (.cells #[.slice (some ⟨C,0,none⟩) n n] 29))
  (hx:Sr OB W tx tb q0 n fr ad data) (aa:∀j,j < n->fs j=Fr.lM inbox batcher (fr j) (ad j) (data j).data.toList) {K:jV} {w:World} {T:Array Value} (hT:T.size=24) (t1:T[1]? =some (.slice tx n cap)) (t2:T[2]? =some (.pointer (some ⟨bc,0,none⟩))) (t5:T[5]? =some (.pointer (some ⟨bf,0,none⟩))) (t6:T[6]? =some (.pointer (some ⟨Wg,0,none⟩)))
  (z:SF OB W Wg C n K w/\WgLive link.tWg Wg w) (hK:∀b,¬K.W b):sF Tryz.prog (lQ Wg C n) (AnchS OB W Wg C n bf cs) (leftB bc bf W fs) n K (G (bS.at ⟨T,[]⟩ [.code Ua,.code vN]) cs) w:=by
 obtain ⟨St',ae⟩:∃St':jV->Goroutine->World->Prop,sF Tryz.prog (lQ Wg C n) (AnchS OB W Wg C n bf cs) (leftB bc bf W fs) n=λK g w=>Way Tryz.prog (lQ Wg C n) St' K g w:=by
  cases n with
  |zero=>exact ⟨_,rfl⟩
  |succ r=>exact ⟨_,rfl⟩
 have hl:=KP (cap:=cap) (cs:=cs) rd R hn Y J ab ac hx aa n 0 (by omega)
 rw [ae] at hl⊢
 obtain ⟨v0,v1,v2,v3,v4,v5,v6,v7,v8,v9,ag,ar,ai,af,ap,aj,ao,aq,au,am,ak,ah,an,av,rfl⟩:=zA T hT
 simp only [dY,dX,dQ,aC] at t1 t2 t5 t6
 subst t1 t2 t5 t6
 simp only [Ua,Tryz.f71]
 refine Way.go (n:=20) ?_
 u_c stepG_seq kE z
 u_reg kE z
 iterate 3 u_op kE z
 u_c stepG_region_end kE z
 u_c stepG_block kE z
 u_c stepG_loop kE z
 refine Goes.stop λI E=>?_
 replace z:=kE z E
 refine hl K _ I ⟨_,rfl,?_,?_,?_,?_,?_,?_,?_⟩ z hK
 all_goals simp
end
end
section
variable {n b:Nat}
section
variable {w:World} {a:Act} {o:Oper}
theorem aaG {inbox batcher t0 t1 t2 t3 t4:Int} (E:a.eval (.tmp 0)=.agg (cfg inbox batcher t0 t1 t2 t3 t4)) (z:o.op=.box 24 (.tmp 0)):
  (execOp a.eval o).run Tryz.prog w=.ok (.value (.pointer (some ⟨w.heap.size,0,none⟩))) (w.alloc (.cells (cfg inbox batcher t0 t1 t2 t3 t4) 24))/\(execOp a.eval o).events Tryz.prog w #[]=#[]:=by
 constructor
 ·unfold execOp
  simp only [z,E]
  simp [go_sem]
 ·unfold execOp
  simp only [z,E]
  simp [go_sem]
theorem aau (z:o.op=.alloc 29):(execOp a.eval o).run Tryz.prog w=.ok (.value (.pointer (some ⟨w.heap.size,0,none⟩))) (w.alloc (.cells #[.slice none 0 0] 29))/\(execOp a.eval o).events Tryz.prog w #[]=#[]:=by
 constructor
 ·unfold execOp
  simp only [z]
  simp [go_sem]
 ·unfold execOp
  simp only [z]
  simp [go_sem]
theorem aaD (z:o.op=.alloc 211):(execOp a.eval o).run Tryz.prog w=.ok (.value (.pointer (some ⟨w.heap.size,0,none⟩))) (w.alloc (.cells #[.int .u64 0,.int .u32 0] 211))/\(execOp a.eval o).events Tryz.prog w #[]=#[]:=by
 constructor
 ·unfold execOp
  simp only [z]
  simp [go_sem]
 ·unfold execOp
  simp only [z]
  simp [go_sem]
theorem aal:(Tryz.prog.info? 76).map (λi=>(i.zero,i.size,i.bytes))=some (some (.slice none 0 0),1,24):=by kernel_rfl
theorem aav:Tryz.prog.underlying 29=some (.slice 76):=by kernel_rfl
theorem aaA (hn:n<=16777216) (h:a.eval (.tmp 10)=.int .i64 n) (J:o.op=.makeSlice 29 (.tmp 10) (.tmp 10)):
  (execOp a.eval o).run Tryz.prog w=.ok (.value (.slice (some ⟨w.heap.size,0,none⟩) n n)) (w.alloc (.cells (madeCells #[.slice none 0 0] n) 76))/\(execOp a.eval o).events Tryz.prog w #[]=#[]:=by
 obtain ⟨i0,hi,I,Y,z⟩:=info_parts aal
 have E:=run_make (P:=Tryz.prog) w 29 76 i0 (.slice none 0 0) aav hi I .i64 .i64 n n (by omega) (by omega) (by rw [z];omega) (by omega)
 have R:=λes=>events_make (P:=Tryz.prog) w 29 76 i0 (.slice none 0 0) aav hi I .i64 .i64 n n (by omega) (by omega) (by rw [z];omega) (by omega) (by rw [z];simp;omega) es
 rw [Y] at E
 simp only [Int.toNat_natCast,Nat.mul_one] at E
 constructor
 ·unfold execOp
  simp only [J,h]
  simp [go_sem,E,Value.cells]
 ·unfold execOp
  simp only [J,h]
  simp [go_sem,R]
theorem XG {C:Nat} {u:Value} (R:w.heap[b]? =some (.cells #[u] 29)) (I:a.eval (.tmp 5)=.pointer (some ⟨b,0,none⟩)) (z:a.eval (.tmp 11)=.slice (some ⟨C,0,none⟩) n n) (E:o.op=.store 29 (.tmp 5) (.tmp 11)):
  (execOp a.eval o).run Tryz.prog w=.ok .skip (w.setCell ⟨b,0,none⟩ (.slice (some ⟨C,0,none⟩) n n))/\∀e∈(execOp a.eval o).events Tryz.prog w #[],e=⟨.cell ⟨b,0,none⟩,true,false⟩:=by
 have J:w.cell? ⟨b,0,none⟩=some u:=by simp [World.cell?,R]
 have Y:w.frozen? ⟨b,0,none⟩=false:=by simp [World.frozen?,R]
 constructor
 ·unfold execOp
  simp only [E,I,z]
  simp [go_sem,stored,J,Y]
 ·unfold execOp
  simp only [E,I,z]
  simp [go_sem,J,Y,events_store _ _ _ _ _ _ (show (Value.slice (some ⟨C,0,none⟩) n n).oneCell'=true from rfl)]
theorem XH {s:Option Addr} {m:Nat} (J:w.heap[b]? =some (.cells #[.slice s n m] 29)) (E:a.eval (.tmp 5)=.pointer (some ⟨b,0,none⟩)) (z:o.op=.load 29 (.tmp 5)):
  (execOp a.eval o).run Tryz.prog w=.ok (.value (.slice s n m)) w/\∀e∈(execOp a.eval o).events Tryz.prog w #[],e=⟨.cell ⟨b,0,none⟩,false,false⟩:=by
 have I:w.cell? ⟨b,0,none⟩=some (.slice s n m):=by simp [World.cell?,J]
 constructor
 ·unfold execOp
  simp only [z,E]
  simp [go_sem,I]
 ·unfold execOp
  simp only [z,E]
  simp [go_sem,I]
end
end
section
variable {v:Value}
section
variable {P:Program} {Post:Value->World->Prop} {Dead:Nat->Prop}
theorem nG.go:∀{n:Nat} {g:Goroutine} {w:World},Go.Conc.Goes P true AtRel DC0 (nG P Post Dead) n g w->nG P Post Dead g w:=by
 intro n
 induction n with
 |zero=>exact λ{g w} h=>h w (atRel_refl w)
 |succ n ih=>
  intro g w h
  rcases h with h|⟨E,hs⟩
  ·exact h w (atRel_refl w)
  ·refine .step E λd=>?_
   have:=hs (w.at d) ⟨d,rfl⟩
   cases e:stepG P true g (w.at d) with
   |go g' w' es=>
    rw [e,goes_go] at this
    obtain ⟨⟨rfl,rfl⟩,hG⟩:=this
    exact ⟨g',_,_,rfl,jC,λe z=>by simp at z,ih hG⟩
   |_=>rw [e] at this;exact this.elim
theorem pO.go {B:Nat}:∀{n:Nat} {g:Goroutine} {w:World},Go.Conc.Goes P true AtRel DC0 (pO P Post Dead B) n g w->pO P Post Dead B g w:=by
 intro n
 induction n with
 |zero=>exact λ{g w} h=>h w (atRel_refl w)
 |succ n ih=>
  intro g w h
  rcases h with h|⟨E,hs⟩
  ·exact h w (atRel_refl w)
  ·refine .step E λd=>?_
   have:=hs (w.at d) ⟨d,rfl⟩
   cases e:stepG P true g (w.at d) with
   |go g' w' es=>
    rw [e,goes_go] at this
    obtain ⟨⟨rfl,rfl⟩,hG⟩:=this
    exact ⟨g',_,_,B,rfl,jC,λe z=>by simp at z,ih hG⟩
   |_=>rw [e] at this;exact this.elim
section
variable {w w':World} {b:Frame} {a:Act} {k:List Item} {cs:List Frame} {ops:Array Oper} {i:Nat} {rest:List Nat} {o:Oper}
theorem nG.zF (z:ops[i]? =some o) (hw:Region.wanted o (yielded ops a.tmps)=true) (hk:b.kind≠.early) (I:∀d,(execOp a.eval o).run P (w.at d)=.ok (.value v) (w'.at d)) (hs:w.heap.size<=w'.heap.size)
  (E:∀d,∀e∈(execOp a.eval o).events P (w.at d) #[],EvL (UF Dead) w'.heap.size e) (h:nG P Post Dead (G (b.at (a.put o.dst v) (.inRegion ops rest::k)) cs) w'):nG P Post Dead (G (b.at a (.inRegion ops (i::rest)::k)) cs) w:=
 .op z hw hk λd=>⟨v,w'.at d,I d,hs,λe h=>E d e (mem_listed h),h.at d⟩
theorem nG.abH (z:ops[i]? =some o) (hw:Region.wanted o (yielded ops a.tmps)=true) (hk:b.kind≠.early) (I:∀d,(execOp a.eval o).run P (w.at d)=.ok .skip (w'.at d)) (hs:w.heap.size<=w'.heap.size)
  (E:∀d,∀e∈(execOp a.eval o).events P (w.at d) #[],EvL (UF Dead) w'.heap.size e) (h:nG P Post Dead (G (b.at (a.put o.dst undef) (.inRegion ops rest::k)) cs) w'):nG P Post Dead (G (b.at a (.inRegion ops (i::rest)::k)) cs) w:=
 .opn z hw hk λd=>⟨w'.at d,I d,hs,λe h=>E d e (mem_listed h),h.at d⟩
theorem pO.abZ {B:Nat} (z:ops[i]? =some o) (hw:Region.wanted o (yielded ops a.tmps)=true) (hk:b.kind≠.early) (I:∀d,(execOp a.eval o).run P (w.at d)=.ok (.value v) (w'.at d))
  (E:∀d,(execOp a.eval o).events P (w.at d) #[]=#[]) (h:pO P Post Dead B (G (b.at (a.put o.dst v) (.inRegion ops rest::k)) cs) w'):pO P Post Dead B (G (b.at a (.inRegion ops (i::rest)::k)) cs) w:=
 .step rfl λd=>⟨_,w'.at d,_,B,stepG_value z hw hk (I d),jC,λe h=>by have:=mem_listed h;rw [E d] at this;simp at this,h.at d⟩
theorem FW {es:Array Event} {p:Event->Prop} (h:es=#[]):∀e∈es,p e:=λe z=>by rw [h] at z;simp at z
end
theorem at_rl {w0 w z:World} (h:AtRel w0 w) (r:AtRel w z):AtRel w0 z:=atRel_trans _ _ _ h r
end
noncomputable def UY:Code:=Tryz.f71.body.getD .skip
def lS (w:World) (c:Array Value) (n:Nat):World:=
 ((((w.alloc (.cells c 24)).alloc (.cells (madeCells #[.slice none 0 0] n) 76)).alloc (.cells #[.slice none 0 0] 29)).setCell ⟨w.heap.size+2,0,none⟩ (.slice (some ⟨w.heap.size+1,0,none⟩) n n)).alloc (.cells #[.int .u64 0,.int .u32 0] 211)
section
variable {Post:Value->World->Prop} {Dead:Nat->Prop} {w:World} {tx:Option Addr} {n cap:Nat} {cs:List Frame} {inbox batcher t0 t1 t2 t3 t4:Int}
theorem FP (hn:n<=16777216) (hD:∀b,Dead b->b < w.heap.size)
  (ab:∀T:Array Value,T.size=24->T[1]? =some (.slice tx n cap)->T[2]? =some (.pointer (some ⟨w.heap.size,0,none⟩))->T[5]? =some (.pointer (some ⟨w.heap.size+2,0,none⟩))->T[6]? =some (.pointer (some ⟨w.heap.size+3,0,none⟩))->
   pO Tryz.prog Post Dead (w.heap.size+3) (G (bS.at ⟨T,[]⟩ [.code Ua,.code vN]) cs) (lS w (cfg inbox batcher t0 t1 t2 t3 t4) n)):
  nG Tryz.prog Post Dead (G (bS.at ⟨#[.agg (cfg inbox batcher t0 t1 t2 t3 t4),.slice tx n cap,undef,undef,undef,undef,undef,undef,undef,undef,undef,undef,undef,undef,undef,undef,undef,undef,undef,undef,undef,undef,undef,undef],[]⟩ [.code UY]) cs) w:=by
 have E:AtRel w w:=atRel_refl w
 simp only [UY,Tryz.f71,fB]
 refine nG.go (n:=20) ?_
 u_c stepG_seq at_rl E
 u_reg at_rl E
 refine Goes.stop λI z=>?_
 obtain ⟨d,rfl⟩:=at_rl E z
 refine nG.at ?_ d
 clear E z
 refine nG.zF (v:=.pointer (some ⟨w.heap.size,0,none⟩)) (w':=w.alloc (.cells (cfg inbox batcher t0 t1 t2 t3 t4) 24)) rfl rfl (by k_ne) (λd=>(aaG rfl rfl).1) (by simp) (λd=>FW (aaG rfl rfl).2) ?_
 obtain ⟨w1,aa⟩:∃w1,w1=w.alloc (.cells (cfg inbox batcher t0 t1 t2 t3 t4) 24):=⟨_,rfl⟩
 have s1:w1.heap.size=w.heap.size+1:=by rw [aa];simp
 rw [<-aa]
 walk_nrm
 have E:AtRel w1 w1:=atRel_refl w1
 refine nG.go (n:=20) ?_
 u_op at_rl E
 u_c stepG_region_end at_rl E
 u_c stepG_seq at_rl E
 u_reg at_rl E
 iterate 2 u_op at_rl E
 refine Goes.stop λI z=>?_
 obtain ⟨d,rfl⟩:=at_rl E z
 refine nG.at ?_ d
 clear E z
 refine nG.zF (v:=.slice (some ⟨w1.heap.size,0,none⟩) n n) (w':=w1.alloc (.cells (madeCells #[.slice none 0 0] n) 76)) rfl rfl (by k_ne) (λd=>(aaA hn rfl rfl).1) (by simp) (λd=>FW (aaA hn rfl rfl).2) ?_
 obtain ⟨w2,Y⟩:∃w2,w2=w1.alloc (.cells (madeCells #[.slice none 0 0] n) 76):=⟨_,rfl⟩
 have s2:w2.heap.size=w.heap.size+2:=by rw [Y];simp [s1]
 rw [<-Y,s1]
 walk_nrm
 refine nG.zF (v:=.pointer (some ⟨w2.heap.size,0,none⟩)) (w':=w2.alloc (.cells #[.slice none 0 0] 29)) rfl rfl (by k_ne) (λd=>(aau rfl).1) (by simp) (λd=>FW (aau rfl).2) ?_
 obtain ⟨w3,J⟩:∃w3,w3=w2.alloc (.cells #[.slice none 0 0] 29):=⟨_,rfl⟩
 have s3:w3.heap.size=w.heap.size+3:=by rw [J];simp [s2]
 have b3:w3.heap[w.heap.size+2]? =some (.cells #[.slice none 0 0] 29):=by rw [J,<-s2];exact heap_alloc_new _ _
 rw [<-J,s2]
 walk_nrm
 refine nG.abH (w':=w3.setCell ⟨w.heap.size+2,0,none⟩ (.slice (some ⟨w.heap.size+1,0,none⟩) n n)) rfl rfl (by k_ne) (λd=>(XG (w:=w3.at d) b3 rfl rfl rfl).1) (jq (jT w3 _ _).2.2.2.symm)
  (λd e he=>by
   rw [(XG (w:=w3.at d) b3 rfl rfl rfl).2 e he]
   refine evL_cell _ _ (λ⟨a,e,h⟩=>?_) ?_
   ·cases e
    have:w.heap.size+2 < w.heap.size:=hD _ h
    omega
   ·rw [(jT w3 _ _).2.2.2,s3]
    show w.heap.size+2 < _
    omega) ?_
 obtain ⟨w4,R⟩:∃w4,w4=w3.setCell ⟨w.heap.size+2,0,none⟩ (.slice (some ⟨w.heap.size+1,0,none⟩) n n):=⟨_,rfl⟩
 have s4:w4.heap.size=w.heap.size+3:=by rw [R,(jT w3 _ _).2.2.2,s3]
 rw [<-R]
 walk_nrm
 show pO _ _ _ w4.heap.size _ _
 rw [s4]
 have E:AtRel w4 w4:=atRel_refl w4
 refine pO.go (n:=20) ?_
 u_c stepG_region_end at_rl E
 u_c stepG_seq at_rl E
 u_reg at_rl E
 refine Goes.stop λI z=>?_
 obtain ⟨d,rfl⟩:=at_rl E z
 refine pO.at ?_ d
 clear E z
 refine pO.abZ (v:=.pointer (some ⟨w4.heap.size,0,none⟩)) (w':=w4.alloc (.cells #[.int .u64 0,.int .u32 0] 211)) rfl rfl (by k_ne) (λd=>(aaD rfl).1) (λd=>(aaD rfl).2) ?_
 obtain ⟨w5,ac⟩:∃w5,w5=w4.alloc (.cells #[.int .u64 0,.int .u32 0] 211):=⟨_,rfl⟩
 rw [<-ac,s4]
 walk_nrm
 have E:AtRel w5 w5:=atRel_refl w5
 refine pO.go (n:=20) ?_
 u_c stepG_region_end at_rl E
 u_c stepG_seq at_rl E
 refine Goes.stop λI z=>?_
 obtain ⟨d,rfl⟩:=at_rl E z
 refine pO.at ?_ d
 have e5:w5=lS w (cfg inbox batcher t0 t1 t2 t3 t4) n:=by rw [ac,R,J,Y,aa];rfl
 rw [e5]
 have:=λT h0 h1 h2 h3 h4=>ab T h0 h1 h2 h3 h4
 simp only [Ua,vN,Tryz.f71] at this
 refine this _ ?_ ?_ ?_ ?_ ?_
 all_goals simp
end
end
section
variable {b C i:Nat} {T:Array Value} {b₀:Frame} {a₀:Act} {ops:Array Oper} {rest:List Nat} {k:List Item}
section
variable {w:World} {c:Array Value} {n:Nat}
theorem Jf:(lS w c n).heap.size=w.heap.size+4:=by
 unfold lS
 rw [eH,(jT _ _ _).2.2.2]
 simp
theorem FM:(lS w c n).tape=w.tape/\(lS w c n).os=w.os/\(lS w c n).output=w.output:=by
 unfold lS
 obtain ⟨z,h2,h3,_⟩:=jT (((w.alloc (.cells c 24)).alloc (.cells (madeCells #[.slice none 0 0] n) 76)).alloc (.cells #[.slice none 0 0] 29)) ⟨w.heap.size+2,0,none⟩ (.slice (some ⟨w.heap.size+1,0,none⟩) n n)
 exact ⟨z,h2,h3⟩
theorem alloc_old (w:World) (o:Obj) (h:b < w.heap.size):(w.alloc o).heap[b]? =w.heap[b]?:=by
 show (w.heap.push o)[b]? =w.heap[b]?
 rw [fH h,bU h]
theorem sN (h:b < w.heap.size+3) (z:b≠w.heap.size+2):(lS w c n).heap[b]? =((w.alloc (.cells c 24)).alloc (.cells (madeCells #[.slice none 0 0] n) 76)).heap[b]?:=by
 unfold lS
 rw [alloc_old _ _ (by rw [(jT _ _ _).2.2.2];simp;omega),kD (show b≠w.heap.size+2 from z),alloc_old _ _ (by simp;omega)]
theorem J6 (h:b < w.heap.size):(lS w c n).heap[b]? =w.heap[b]?:=by
 rw [sN (by omega) (by omega),alloc_old _ _ (by simp;omega),alloc_old _ _ h]
theorem Ul:(lS w c n).heap[w.heap.size]? =some (.cells c 24):=by
 rw [sN (by omega) (by omega),alloc_old _ _ (by simp)]
 exact heap_alloc_new _ _
theorem TY:(lS w c n).heap[w.heap.size+1]? =some (.cells (madeCells #[.slice none 0 0] n) 76):=by
 rw [sN (by omega) (by omega)]
 have:=heap_alloc_new (w.alloc (.cells c 24)) (.cells (madeCells #[.slice none 0 0] n) 76)
 simpa only [eH] using this
theorem RF:(lS w c n).heap[w.heap.size+2]? =some (.cells #[.slice (some ⟨w.heap.size+1,0,none⟩) n n] 29):=by
 unfold lS
 rw [alloc_old _ _ (by rw [(jT _ _ _).2.2.2];simp)]
 refine Oi (u:=.slice none 0 0) ?_
 have:=heap_alloc_new ((w.alloc (.cells c 24)).alloc (.cells (madeCells #[.slice none 0 0] n) 76)) (.cells #[.slice none 0 0] 29)
 simpa only [eH] using this
theorem SB:(lS w c n).heap[w.heap.size+3]? =some (.cells #[.int .u64 0,.int .u32 0] 211):=by
 unfold lS
 have:=heap_alloc_new ((((w.alloc (.cells c 24)).alloc (.cells (madeCells #[.slice none 0 0] n) 76)).alloc (.cells #[.slice none 0 0] 29)).setCell ⟨w.heap.size+2,0,none⟩ (.slice (some ⟨w.heap.size+1,0,none⟩) n n)) (.cells #[.int .u64 0,.int .u32 0] 211)
 rw [(jT _ _ _).2.2.2] at this
 simpa only [eH] using this
end
structure Found (w:World) (n:Nat) (fs:Nat->List Fr.F) (w':World):Prop where
 old:∀b,b < w.heap.size->w'.heap[b]? =w.heap[b]?
 still:w'.tape=w.tape/\w'.os=w.os/\w'.output=w.output
 size:w.heap.size+4<=w'.heap.size
 rows:∃vs:Array Value,w'.heap[w.heap.size+1]? =some (.cells vs 76)/\vs.size=n/\∀i,i < n->∃v,vs[i]? =some v/\qm (λb=>w.heap.size+4<=b) w' v (fs i)
 wg:∃c t,c≠#[]/\w'.heap[w.heap.size+3]? =some (.cells c t (0,0))
section
variable {Post:Value->World->Prop} {Dead:Nat->Prop} {w w':World} {tx:Option Addr} {n cap tb q0:Nat} {cs:List Frame} {inbox batcher t0 t1 t2 t3 t4:Int} {fr ad:Nat->Int} {data:Nat->ByteArray} {fs:Nat->List Fr.F}
theorem GK {bf:Nat} (hT:T.size=24) (t5:T[5]? =some (.pointer (some ⟨bf,0,none⟩))) (R:w.heap[bf]? =some (.cells #[.slice (some ⟨C,0,none⟩) n n] 29)) (Y:¬Dead bf)
  (I:nG Tryz.prog Post Dead (G (b₀.at (a₀.put ((ops[i]?).bind (·.dst)) (.slice (some ⟨C,0,none⟩) n n)) (.inRegion ops rest::k)) cs) w):
  nG Tryz.prog Post Dead (G (bS.at ⟨T,[]⟩ (.inRegion ops9 []::[.code tail9])) (b₀.at a₀ (.inRegion ops (i::rest)::k)::cs)) w:=by
 obtain ⟨v0,v1,v2,v3,v4,v5,v6,v7,v8,v9,ab,an,ae,aa,ak,af,aj,am,ao,ah,ag,ac,ai,ap,rfl⟩:=zA T hT
 simp only [dY,dX,dQ,aC] at t5
 subst t5
 have E:AtRel w w:=atRel_refl w
 simp only [tail9,vN,Tryz.f71]
 refine nG.go (n:=20) ?_
 u_c stepG_region_end at_rl E
 u_c stepG_seq at_rl E
 u_reg at_rl E
 refine Goes.stop λJ z=>?_
 obtain ⟨d,rfl⟩:=at_rl E z
 refine nG.at ?_ d
 clear E z
 refine nG.zF (v:=.slice (some ⟨C,0,none⟩) n n) (w':=w) rfl rfl (by k_ne) (λd=>(XH (w:=w.at d) R rfl rfl).1) jC (λd e he=>?_) ?_
 ·rw [(XH (w:=w.at d) R rfl rfl).2 e he]
  refine evL_cell _ _ (λ⟨a,e,h⟩=>?_) (jE R)
  cases e
  exact Y h
 walk_nrm
 have E:AtRel w w:=atRel_refl w
 refine nG.go (n:=20) ?_
 u_op at_rl E
 u_c stepG_region_end at_rl E
 u_c stepG_ret' at_rl E
 u_in at_rl E
 refine goes_leave1 rfl rfl Tryz.func71 rfl ⟨by u_nil,?_⟩
 refine Goes.stop λJ z=>?_
 obtain ⟨d,rfl⟩:=at_rl E z
 exact I.at d
theorem SF.at {OB:Nat->Prop} {W:World} {Wg:Nat} {K:jV} (h:SF OB W Wg C n K w) (d:Nat):SF OB W Wg C n K (w.at d):=
 ⟨h.sub,h.old,h.kw,h.ko,h.pay,h.hC,h.hG,h.glob,h.new,h.siz,h.still,h.low⟩
def KU (N:Nat) (Dead:Nat->Prop) (b:Nat):Prop:=b < N+3/\b≠N+1/\¬Dead b
theorem J7 (rd:ReadW) (hn:n<=16777216) (hD:∀b,Dead b->b < w.heap.size) (aj:Tryz.prog.globals.size<=w.heap.size)
  (hx:Sr (λb=>b < w.heap.size/\¬Dead b) w tx tb q0 n fr ad data) (a0:∀j,j < n->fs j=Fr.lM inbox batcher (fr j) (ad j) (data j).data.toList)
  (J:∀w',Found w n fs w'->nG Tryz.prog Post (λb=>Dead b\/b=w.heap.size+3) (G (b₀.at (a₀.put ((ops[i]?).bind (·.dst)) (.slice (some ⟨w.heap.size+1,0,none⟩) n n)) (.inRegion ops rest::k)) cs) w')
  (hT:T.size=24) (ay:T[1]? =some (.slice tx n cap)) (ag:T[2]? =some (.pointer (some ⟨w.heap.size,0,none⟩))) (af:T[5]? =some (.pointer (some ⟨w.heap.size+2,0,none⟩))) (ai:T[6]? =some (.pointer (some ⟨w.heap.size+3,0,none⟩))):
  pO Tryz.prog Post Dead (w.heap.size+3) (G (bS.at ⟨T,[]⟩ [.code Ua,.code vN]) (b₀.at a₀ (.inRegion ops (i::rest)::k)::cs)) (lS w (cfg inbox batcher t0 t1 t2 t3 t4) n):=by
 intro d gs sl t q h0 hL hP
 obtain ⟨N,R⟩:∃N,w.heap.size=N:=⟨_,rfl⟩
 obtain ⟨W,hW⟩:∃W,lS w (cfg inbox batcher t0 t1 t2 t3 t4) n=W:=⟨_,rfl⟩
 have sW:W.heap.size=N+4:=by rw [<-hW,Jf,R]
 have oW:∀b,b < N->W.heap[b]? =w.heap[b]?:=λb z=>by rw [<-hW];exact J6 (by omega)
 have cW:W.heap[N]? =some (.cells (cfg inbox batcher t0 t1 t2 t3 t4) 24):=by rw [<-hW,<-R];exact Ul
 have pW:W.heap[N+1]? =some (.cells (madeCells #[.slice none 0 0] n) 76):=by rw [<-hW,<-R];exact TY
 have fW:W.heap[N+2]? =some (.cells #[.slice (some ⟨N+1,0,none⟩) n n] 29):=by rw [<-hW,<-R];exact RF
 have wW:W.heap[N+3]? =some (.cells #[.int .u64 0,.int .u32 0] 211):=by rw [<-hW,<-R];exact SB
 have ae:W.tape=w.tape/\W.os=w.os/\W.output=w.output:=by rw [<-hW];exact FM
 rw [hW]
 rw [R] at hP ag af ai aj J
 have I:∀b,Dead b->b < N:=λb z=>by rw [<-R];exact hD b z
 have aa:PayAt (N+1) n (W.at d):=⟨_,pW,size_madeCells _ _⟩
 have aw:SF (KU N Dead) W (N+3) (N+1) n ⟨KU N Dead,λ_=>False⟩ (W.at d):=by
  refine ⟨λ_ h=>h,λ_ _=>rfl,λ_ h=>h.elim,λb z=>⟨?_,?_,z.2.1⟩,aa,?_,?_,?_,λ_ h=>.inl h,jC,⟨rfl,rfl,rfl⟩,λ_ _ _ _=>rfl⟩
  all_goals (try show _ < W.heap.size);(try show _<=W.heap.size)
  ·have:=z.1;omega
  ·have:=z.1;omega
  ·omega
  ·omega
  ·exact aW aj (by omega)
 have E:∀(j:Nat) (v:Value),w.cell? ⟨tb,j,none⟩=some v->tb < N->W.cell? ⟨tb,j,none⟩=some v:=λj v h z=>by rw [<-h];exact cell_of_block (oW tb z) j
 have hX:Sr (KU N Dead) W tx tb q0 n fr ad data:=by
  refine ⟨λh=>let ⟨h1,h2,h3⟩:=hx.at_ h;⟨h1,by omega,by omega,h3⟩,λj hj=>?_,hx.size⟩
  obtain ⟨_,z,_⟩:=hx.at_ (by omega)
  obtain ⟨c1,c2,c3⟩:=hx.cell j hj
  exact ⟨E _ _ c1 (by omega),E _ _ c2 (by omega),E _ _ c3 (by omega)⟩
 have a3:=Qd (OB:=KU N Dead) (W:=W) (Wg:=N+3) (C:=N+1) (bc:=N) (bf:=N+2) (cap:=cap) (cs:=b₀.at a₀ (.inRegion ops (i::rest)::k)::cs) rd (by omega) (by omega) ⟨by omega,by omega,λh=>by have:=I _ h;omega⟩ ⟨by omega,by omega,λh=>by have:=I _ h;omega⟩ cW fW hX a0 hT ay ag af ai
  ⟨aw,0,0,(show W.heap[N+3]? =_ from wW)⟩ (λ_ h=>h)
 obtain ⟨Np,az,a',w',a5,t',q',K,hr,a6,ap,a2,a4,ac,⟨cs',Y,ar⟩,ah⟩:=phase (P:=Tryz.prog) (S:=lQ (N+3) (N+1) n) (Shun:=UF Dead) (B:=N+3) (Fin:=YA (KU N Dead) W (N+3) (N+1) n (N+2) (b₀.at a₀ (.inRegion ops (i::rest)::k)::cs)) (AnchW:=AnchS (KU N Dead) W (N+3) (N+1) n (N+2) (b₀.at a₀ (.inRegion ops (i::rest)::k)::cs))
  (Gq N (N+2) W fs) (show n < 2147483648 by omega) (λK g w h=>by obtain ⟨_,_,_,rfl,_⟩:=h;rfl) (λK g w h=>by obtain ⟨_,_,_,_,rfl,_⟩:=h;rfl)
  (Nb (by omega)) (λK g w d h=>let ⟨T,h1,h2,h3,h4⟩:=h;⟨T,h1,h2,h3,h4.at d⟩) (sl:=sl) (w:=W.at d) h0 hL hP (K0:=⟨KU N Dead,λ_=>False⟩) (λ_ h=>h.elim)
  (λb z=>⟨by show b < W.heap.size;have:=z.1;omega,by show b≠N+3;have:=z.1;omega,z.2.1,λl hl=>by rintro ⟨a,rfl,h⟩;cases hl;exact z.2.2 h⟩)
  (by show N+3 < W.heap.size;omega) (by show N+1 < W.heap.size;omega) (by show N+1≠N+3;omega) jC (.inr λi ⟨a,e,h⟩=>by cases e;have:N+1 < N:=I _ h;omega) (λ_ h=>h.elim) (show N+1 - 1<=N+3 by omega) (show N+1 - 1<=N+1 by omega)
  (show W.heap[N+3]? =_ from wW) aa a3
 obtain ⟨T',a1,au,rfl,hS⟩:=ap
 refine wo.after hr ?_
 have ak:w'.heap[N+2]? =some (.cells #[.slice (some ⟨N+1,0,none⟩) n n] 29):=(hS.old (N+2) ⟨by omega,by omega,λh=>by have:=I _ h;omega⟩).trans fW
 have av:w'.heap[N]? =some (.cells (cfg inbox batcher t0 t1 t2 t3 t4) 24):=(hS.old N ⟨by omega,by omega,λh=>by have:=I _ h;omega⟩).trans cW
 have ab:Found w n fs w':=by
  refine ⟨λb z=>?_,⟨hS.still.1.trans ae.1,hS.still.2.1.trans ae.2.1,hS.still.2.2.trans ae.2.2⟩,?_,⟨cs',?_,ar,λi hi=>?_⟩,?_⟩
  ·rw [R] at z
   exact (hS.low b (by omega) (by omega) (by omega)).trans (oW b z)
  ·have:=hS.siz;omega
  ·rw [R];exact Y
  ·obtain ⟨v,O,hh,aq,hO⟩:=ac i hi
   refine ⟨v,?_,?_⟩
   ·have ao:w'.cell? ⟨N+1,i,none⟩=some v:=hh
    simp only [World.cell?,Y] at ao
    exact ao
   ·rcases aq with h|⟨g,am,ax,h1,h2,h3,h4⟩
    ·exact .inl h
    ·refine .inr ⟨g,am,ax,h1,?_,h3,h4⟩
     rcases hO g h2 with (e|e)|h
     ·rw [e,av] at h3;simp at h3
     ·rw [e,ak] at h3;simp at h3
     ·show w.heap.size+4<=g;omega
  ·rw [R];exact ⟨_,_,by simp,ah⟩
 have an:=GK (cs:=cs) (b₀:=b₀) (a₀:=a₀) (ops:=ops) (i:=i) (rest:=rest) (k:=k) a1 au ak (Dead:=λb=>Dead b\/b=N+3) (λh=>h.elim (λh=>by have:=I _ h;omega) λh=>by omega) (J w' ab)
 exact an w'.drawn az a5 t' q' a6 a2 (xZ a4 λl hl=>hl.elim (λ⟨a,e,h⟩=>⟨a,e,.inl h⟩) λ⟨a,e,h⟩=>⟨a,e,.inr h⟩)
theorem aad (A B:Value):(#[A,B]++Array.replicate (24 - (#[A,B]:Array Value).size) undef:Array Value)=#[A,B,undef,undef,undef,undef,undef,undef,undef,undef,undef,undef,undef,undef,undef,undef,undef,undef,undef,undef,undef,undef,undef,undef]:=by
 apply Array.ext'
 rw [Array.toList_append,Array.toList_replicate]
 rfl
theorem nmS:(Tryz.f71.name == "runtime.NumGoroutine")=false:=rfl
theorem Ut:Tryz.f71.body=some UY:=rfl
theorem ntS:Tryz.f71.ntmps=24:=rfl
theorem yj (rd:ReadW) {o:Oper} {x y:Operand} {Y:Array TypeId} (ho:ops[i]? =some o) (hw:Region.wanted o (yielded ops a₀.tmps)=true) (hk:b₀.kind≠.early)
  (I:o.op=.call { callee:=.value (.func 71),args:=#[x,y],argTypes:=Y }) (ex:a₀.eval x=.agg (cfg inbox batcher t0 t1 t2 t3 t4)) (ey:a₀.eval y=.slice tx n cap)
  (hn:n<=16777216) (hD:∀b,Dead b->b < w.heap.size) (R:Tryz.prog.globals.size<=w.heap.size)
  (hx:Sr (λb=>b < w.heap.size/\¬Dead b) w tx tb q0 n fr ad data) (J:∀j,j < n->fs j=Fr.lM inbox batcher (fr j) (ad j) (data j).data.toList)
  (z:∀w',Found w n fs w'->nG Tryz.prog Post (λb=>Dead b\/b=w.heap.size+3) (G (b₀.at (a₀.put o.dst (.slice (some ⟨w.heap.size+1,0,none⟩) n n)) (.inRegion ops rest::k)) cs) w'):
  nG Tryz.prog Post Dead (G (b₀.at a₀ (.inRegion ops (i::rest)::k)) cs) w:=by
 have hF:AtRel w w:=atRel_refl w
 refine nG.go (n:=1) ?_
 u_in at_rl hF
 refine goes_call ho hw hk I Tryz.func71 nmS Ut ⟨by u_nil,?_⟩
 obtain ⟨d,rfl⟩:=hF
 refine Goes.stop λaa E=>?_
 obtain ⟨d',rfl⟩:=E
 refine nG.at (nG.at ?_ d) d'
 have h:=FP (Post:=Post) (cap:=cap) (tx:=tx) (cs:=b₀.at a₀ (.inRegion ops (i::rest)::k)::cs) (inbox:=inbox) (batcher:=batcher) (t0:=t0) (t1:=t1) (t2:=t2) (t3:=t3) (t4:=t4) hn hD λT h0 h1 h2 h5 h6=>
  J7 rd hn hD R hx J (by rw [ho];exact z) h0 h1 h2 h5 h6
 have e:(#[x,y].map a₀.eval)=#[.agg (cfg inbox batcher t0 t1 t2 t3 t4),.slice tx n cap]:=by simp [ex,ey]
 rw [e,ntS,aad]
 exact h
end
end
end Cr
namespace Po
open Go Go.Conc
open Cr (nG Found Sr qm cfg)
section
def pend:Obj->Obj
 |.cells c t _=>.pending c t
 |o=>o
def behind (x w:World) (g:Nat):World:={ w with heap:=w.heap.mapIdx λi o=>(x.heap[i]?).getD (if i=g then pend o else if ghost o then .coro none else o) }
section
variable {x y w:World} {g b:Nat}
theorem rG (hs:x.heap.size<=w.heap.size) (h:b < x.heap.size):(behind x w g).heap[b]? =x.heap[b]?:=by
 show (w.heap.mapIdx _)[b]? =_
 rw [iY,bU (show b < w.heap.size by omega),bU h]
 rfl
theorem o8 (h:x.heap.size<=b):(behind x w g).heap[b]? =(w.heap[b]?).map λo=>if b=g then pend o else if ghost o then .coro none else o:=by
 show (w.heap.mapIdx _)[b]? =_
 rw [iY,iR h]
 rfl
theorem Pv {e J:Env} (hw:WP e x y) (hC:∀c,e.C c->J.C c) (hold:∀b,b < y.heap.size->w.heap[b]? =y.heap[b]?) (hs:y.heap.size<=w.heap.size) (hg:y.heap.size<=g) {c:Array Value} {t:TypeId} (hc:c≠#[]) (E:w.heap[g]? =some (.cells c t (0,0)))
  (Y:∀b,J.D b↔e.D b\/b=g\/y.heap.size<=b/\∃o,w.heap[b]? =some o/\ghost o=true):WP J (behind x w g) w where
 os:=rfl
 output:=rfl
 size:=by simp [behind]
 out b z:=by
  have hz:=hw.size
  rw [Y] at z
  rcases fQ b x.heap.size with h|h
  ·rw [rG (by omega) h,hold b (by omega),hw.out b λk=>z (.inl k)]
  ·rw [o8 h]
   cases I:w.heap[b]? with
   |none=>rfl
   |some o=>
    have h1:b≠g:=λk=>z (.inr (.inl k))
    have h2:ghost o=false:=by
     cases k:ghost o with
     |false=>rfl
     |true=>exact absurd (.inr (.inr ⟨by omega,o,I,k⟩)) z
    simp [h1,h2]
 inn b z:=by
  have hz:=hw.size
  rw [Y] at z
  rcases z with z|rfl|⟨h1,o,h2,h3⟩
  ·have hl:b < x.heap.size:=by
    rcases hw.inn b z with ⟨_,_,_,h,_⟩|⟨_,_,h,_⟩<;>exact (jE h)
   rw [rG (by omega) hl,hold b (by omega)]
   exact hw.inn b z
  ·exact .inl ⟨c,t,E,by rw [o8 (by omega),E];simp [pend],hc⟩
  ·by_cases k:b=g
   ·subst k;rw [E] at h2;cases h2;cases h3
   ·exact .inr ⟨o,h2,by rw [o8 (by omega),h2];simp [k,h3],h3⟩
 objs b o h:=by
  have hz:=hw.size
  rcases fQ b x.heap.size with k|k
  ·rw [rG (by omega) k] at h
   have:=hw.objs b o h
   cases o with
   |loop l=>exact ⟨hC _ this.1,hC _ this.2.1,λc k=>hC _ (this.2.2 c k)⟩
   |deferred ds=>cases ds<;>exact this
   |_=>trivial
  ·rw [o8 k] at h
   cases I:w.heap[b]? with
   |none=>rw [I] at h;cases h
   |some u=>
    rw [I] at h
    simp only [bQ,aC] at h
    subst h
    refine yG ?_
    by_cases R:b=g
    ·subst R;rw [E] at I;cases I;simp [pend,ghost]
    ·rw [if_neg R]
     split
     ·rfl
     ·exact Bool.eq_false_iff.2 ‹_›
end
structure Ah (x:World) (n:Nat) (fs:Nat->List Fr.F) (x':World):Prop where
 old:∀b,b < x.heap.size->x'.heap[b]? =x.heap[b]?
 still:x'.os=x.os/\x'.output=x.output
 size:x.heap.size+4<=x'.heap.size
 rows:∃vs:Array Value,x'.heap[x.heap.size+1]? =some (.cells vs 76)/\vs.size=n/\∀i,i < n->∃v,vs[i]? =some v/\qm (λb=>x.heap.size+4<=b) x' v (fs i)
section
variable {D:Nat->Prop} {Post:Eh} {Z A:List Frame} {x:World} {b:Frame} {a:Act} {k:List Item} {tx:Option Addr} {n cap tb q0:Nat} {inbox batcher t0 t1 t2 t3 t4:Int} {fr ad:Nat->Int} {data:Nat->ByteArray} {fs:Nat->List Fr.F}
theorem tZ {e:Env} {y:World} (hw:WP e x y) {c:Addr} {v:Value} (h:x.cell? c=some v):¬e.D c.block/\c.block < x.heap.size/\y.cell? c=some v:=by
 have hd:¬e.D c.block:=λhd=>by
  rcases hw.inn _ hd with ⟨_,_,_,k,_⟩|⟨_,_,k,_⟩<;>simp [World.cell?,k] at h
 refine ⟨hd,?_,by rw [<-h];simp only [World.cell?,hw.out _ hd]⟩
 cases k:x.heap[c.block]? with
 |none=>simp [World.cell?,k] at h
 |some o=>exact (jE k)
theorem Wk.frames (rd:Cr.ReadW) {ops:Array Oper} {i:Nat} {rest:List Nat} {o:Oper} {p q:Operand} {ai:Array TypeId} (ho:ops[i]? =some o) (hw:Region.wanted o (yielded ops a.tmps)=true)
  (ab:o.op=.call { callee:=.value (.func 71),args:=#[p,q],argTypes:=ai }) (ep:a.eval p=.agg (cfg inbox batcher t0 t1 t2 t3 t4)) (eq:a.eval q=.slice tx n cap) (hn:n<=16777216) (ah:Tryz.prog.globals.size<=x.heap.size)
  (hx:Sr (λ_=>True) x tx tb q0 n fr ad data) (ae:∀j,j < n->fs j=Fr.lM inbox batcher (fr j) (ad j) (data j).data.toList)
  (Y:∀D' x',Ah x n fs x'->Wk (qe Tryz.prog.funcs D') Post Z (b.at (a.put o.dst (.slice (some ⟨x.heap.size+1,0,none⟩) n n)) (.inRegion ops rest::k)) A x'):
  Wk (qe Tryz.prog.funcs D) Post Z (b.at a (.inRegion ops (i::rest)::k)) A x:=by
 intro E y z I
 have hz:=z.size
 rewrite [Xu]
 refine Cr.yj (n:=n) (w:=y) (Dead:=D) (cs:=A++Z) rd ho hw (λh=>by have:=E.1.kind;rw [show (b.at a _).kind=b.kind from rfl,h] at this;cases this) ab ep eq hn (λc hc=>?_) (by rw [hz];exact ah) (tb:=tb) (q0:=q0) (fr:=fr) (ad:=ad) (data:=data) (fs:=fs) ⟨λh=>?_,λj hj=>?_,hx.size⟩ ae λw' R=>?_
 ·rcases z.inn c hc with ⟨_,_,h,_⟩|⟨_,h,_⟩<;>exact (jE h)
 ·have h1:=tZ z (hx.cell 0 h).1
  exact ⟨(hx.at_ h).1,by rw [hz];exact h1.2.1,h1.1⟩
 ·obtain ⟨c1,c2,c3⟩:=hx.cell j hj
  exact ⟨(tZ z c1).2.2,(tZ z c2).2.2,(tZ z c3).2.2⟩
 ·obtain ⟨c,t,hc,ag⟩:=R.wg
  have hs:=R.size
  let D':Nat->Prop:=λb=>D b\/b=y.heap.size+3\/y.heap.size<=b/\∃o,w'.heap[b]? =some o/\ghost o=true
  have aa:WP (qe Tryz.prog.funcs D') (behind x w' (y.heap.size+3)) w':=Pv z (λ_ h=>h) R.old (by omega) (by omega) hc ag λb=>Iff.rfl
  have keep:∀{b:Nat} {o:Obj},y.heap.size<=b->b≠y.heap.size+3->w'.heap[b]? =some o->ghost o=false->(behind x w' (y.heap.size+3)).heap[b]? =some o:=λh1 h2 h3 h4=>by
   rw [o8 (by omega),h3];simp [h2,h4]
  have hP:Ah x n fs (behind x w' (y.heap.size+3)):=by
   refine ⟨λb h=>rG (by omega) h,⟨R.still.2.1.trans z.os,R.still.2.2.trans z.output⟩,by simp only [behind,Array.size_mapIdx];omega,?_⟩
   obtain ⟨vs,h1,h2,h3⟩:=R.rows
   refine ⟨vs,by rw [<-hz];exact keep (by omega) (by omega) h1 rfl,h2,λi hi=>?_⟩
   obtain ⟨v,g1,g2⟩:=h3 i hi
   refine ⟨v,g1,g2.imp id λ⟨g,cap,af,r1,r2,r3,r4⟩=>⟨g,cap,af,r1,by rw [<-hz];exact r2,keep (by omega) (by omega) r3 rfl,r4⟩⟩
  have hk:=Y D' _ hP ⟨⟨λit ac=>?_,?_,E.1.kind⟩,λf hf=>⟨(E.2 f hf).todo,(E.2 f hf).defers,(E.2 f hf).kind⟩⟩ w' aa ⟨λb J=>⟨.inl (I.dead b J).1,(R.old b ?lt).trans (I.dead b J).2⟩,λb J hl=>?old,?size,R.still.2.1.trans I.os,R.still.2.2.trans I.output⟩
  case lt=>rcases z.inn b (I.dead b J).1 with ⟨_,_,h,_⟩|⟨_,h,_⟩<;>exact (jE h)
  case old=>
   have:=I.size
   rcases J with J|J|J
   ·exact I.old b J hl
   ·omega
   ·omega
  case size=>have:=I.size;omega
  ·rewrite [Xu] at hk
   rw [<-hz] at hk
   exact hk.dead λb h=>h.elim .inl λh=>.inr (.inl h)
  ·rcases bV.1 ac with rfl|h
   ·exact E.1.todo (.inRegion ops (i::rest)) (.head _)
   ·exact E.1.todo _ (.tail _ h)
  ·intro d hd
   refine E.1.defers d ?_
   have:(a.put o.dst (.slice (some ⟨x.heap.size+1,0,none⟩) n n)).defers=a.defers:=by cases o.dst<;>rfl
   have hd:d∈(a.put o.dst (.slice (some ⟨x.heap.size+1,0,none⟩) n n)).defers:=hd
   rw [this] at hd
   exact hd
end
end
section
variable {fn:Func} {c d:Code} {ops:Array Oper} {i id:Nat} {rest:List Nat}
abbrev Wq (D:Nat->Prop) (Post:Eh) (Z:List Frame) (fr:Frame) (A:List Frame) (x:World):Prop:=Wk (qe Tryz.prog.funcs D) Post Z fr A x
section
variable {D:Nat->Prop} {Post:Eh} {Z A:List Frame} {fr:Frame} {x:World} {b:Frame} {a:Act} {k:List Item}
theorem Xx {P:Program} {G:Array Func} {D:Nat->Prop} {k:Nat} (h:P.funcs[k]? =some fn):(CY P G D).F[k]? =some fn:=h
theorem Wq.piece {Q:Act->World->Prop} (h:∀t d,c.wp PQ (λz a' w'=>z=.normal/\Q a' w') a (on x t d)) (J:∀a' x',Q a' x'->Wq D Post Z (b.at a' k) A x'):Wq D Post Z (b.at a (.code c::k)) A x:=by
 refine Wk.code (fits D) ?_
 rewrite [Dt]
 exact λt d=>wp_mono (h t d) λz a' w' ⟨I,E⟩=>by subst I;exact J a' w' E
theorem Wq.code (h:∀t d,c.wp PQ (Cont (qe Tryz.prog.funcs D) Post Z A b k) a (on x t d)):Wq D Post Z (b.at a (.code c::k)) A x:=by
 refine Wk.code (fits D) ?_
 rewrite [Dt]
 exact h
theorem Wq.op (h:∀t d,wpOp PQ ops (λ_ _ _=>False) i (λa' w'=>Wq D Post Z (b.at a' (.inRegion ops rest::k)) A w') a (on x t d)):Wq D Post Z (b.at a (.inRegion ops (i::rest)::k)) A x:=by
 refine Wk.op (fits D) ?_
 rewrite [Dt]
 exact h
theorem Wq.draw (h:∀t,Wq D Post Z (b.at a (.inRegion ops (Region.schedule (PQ.follows .mixedOrders) ops t)::k)) A x):Wq D Post Z (b.at a (.code (.region id ops true)::k)) A x:=by
 refine Wk.draw (fits D) ?_
 rewrite [Dt]
 exact h
theorem Wq.call {o:Oper} {f:FuncId} {args:Array Operand} {I:Array TypeId} (ho:ops[i]? =some o) (hw:Region.wanted o (yielded ops a.tmps)=true)
  (E:o.op=.call { callee:=.value (.func f),args,argTypes:=I }) (R:PQ.funcs[f]? =some fn) (z:(fn.name == "runtime.NumGoroutine")=false) (Y:fn.body=some c)
  (h:Wq D Post Z ((base f).at { tmps:=args.map a.eval++Array.replicate (fn.ntmps - (args.map a.eval).size) undef,defers:=[] } [.code c]) (b.at a (.inRegion ops (i::rest)::k)::A) x):
  Wq D Post Z (b.at a (.inRegion ops (i::rest)::k)) A x:=by
 refine Wk.call (fits D) ho hw ?_
 rewrite [Dt]
 intro t d
 refine ⟨f,args.map a.eval,on x t d,?_,?_⟩
 ·exact run_call_body E R z (by rw [Y];rfl)
 ·have J:Frame.enter PQ f (args.map a.eval) .normal=(base f).at { tmps:=args.map a.eval++Array.replicate (fn.ntmps - (args.map a.eval).size) undef,defers:=[] } [.code c]:=by
   simp [Frame.enter,Frame.at,R,Y,base]
  rw [J]
  exact h.BR t d
theorem Wq.leave {c:Frame} {v:Value} (z:fr.mode=.returning) (hd:fr.defers=[]) (hk:fr.kind=.normal) (E:PQ.funcs[fr.fn]? =some fn) (I:∀w,(results fn fr.tmps).run PQ w=.ok v w)
  (h:Wq D Post Z (c.finish v) A x):Wq D Post Z fr (c::A) x:=by
 refine Wk.leave (fits D) z hd hk (Xx E) ?_ h
 rewrite [Dt]
 exact λt d=>I _
theorem Wq.seq (h:Wq D Post Z (b.at a (.code c::.code d::k)) A x):Wq D Post Z (b.at a (.code (.seq c d)::k)) A x:=Wk.seq (fits D) h
theorem Wq.cond {o:Operand} {t:Bool} (z:a.eval o=.bool t) (h:Wq D Post Z (b.at a (.code (if t then c else d)::k)) A x):Wq D Post Z (b.at a (.code (.cond o c d)::k)) A x:=Wk.cond (fits D) z h
theorem Wq.region (h:Wq D Post Z (b.at a (.inRegion ops (List.range ops.size)::k)) A x):Wq D Post Z (b.at a (.code (.region id ops false)::k)) A x:=Wk.region (fits D) h
theorem Wq.done (h:Wq D Post Z (b.at a k) A x):Wq D Post Z (b.at a (.inRegion ops []::k)) A x:=Wk.done (fits D) h
theorem Wq.ret (h:∀todo,Wq D Post Z { b.at a todo with mode:=.returning } A x):Wq D Post Z (b.at a (.code .ret::k)) A x:=Wk.ret (fits D) h
theorem Wq.fin (h:∀todo,Wq D Post Z { b.at a todo with mode:=.returning } A x):Wq D Post Z (b.at a []) A x:=Wk.fin (fits D) h
end
end
section
variable {ds:List Deferred}
section
variable {D:Nat->Prop} {Post:Eh} {Z A:List Frame} {fr:Frame} {x:World}
theorem Wk.takes {e:Env} (F:Fits e) {b:Nat} (z:fr.mode=.returning) (hd:fr.defers={ target:=.collected b,args:=#[] }::ds) (hk:x.heap[b]? =some (.deferred (some []))) (h:Wk e Post Z { fr with defers:=ds } A (x.putObj b (.deferred none))):Wk e Post Z fr A x:=
 .one F.fit λt d=>by
  refine ⟨{ fr with defers:=ds },A,on (x.putObj b (.deferred none)) t d,?_,h.BR t d⟩
  have E:=run_takeDeferred (P:=e.P) (w:=on x t d) (b:=b) (ds:=[]) hk
  simp [stepG,unwind,z,hd,E]
  rfl
theorem Wq.takes {b:Nat} (z:fr.mode=.returning) (hd:fr.defers={ target:=.collected b,args:=#[] }::ds) (hk:x.heap[b]? =some (.deferred (some []))) (h:Wq D Post Z { fr with defers:=ds } A (x.putObj b (.deferred none))):Wq D Post Z fr A x:=Wk.takes (fits D) z hd hk h
end
end
end Po
end Go.Proofs.YtpibpdpedjinhaaGreatDoor
