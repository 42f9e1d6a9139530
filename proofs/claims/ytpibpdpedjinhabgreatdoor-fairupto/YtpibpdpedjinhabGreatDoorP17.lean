import Derived.Test.YtpibpdpedjinhabGreatDoorP13
import Derived.Test.YtpibpdpedjinhabGreatDoorP16
import Derived.Laws.MakeOwn
import Derived.OwnWalk
import Derived.Conc.Own4
set_option maxRecDepth 100000
set_option maxHeartbeats 8000000
set_option linter.all false
open Array renaming replicate->ms
open Bool renaming false->aR,true->bB
open Go renaming Addr->fR,Code->eN,Frame->cT,Goroutine->cA,Item->pB,Oper->km,Operand->l8,TypeId->cH,Value->aD,World->X,execOp->bO,heap_alloc_new->cY,undef->aH
open Go.Code renaming seq->bL
open Go.Conc renaming Goes->iA,atRel_refl->kr,mem_listed->im,stepG_block->pA,stepG_region_end->bA,stepG_seq->cE
open Go.Conc.Goes renaming stop->cL
open Go.ConcN renaming WgLive->lP
open Go.FrameMode renaming returning->j9
open Go.IntKind renaming i64->aE,u32->dT,u64->pw,wrap_i64->gA
open Go.Item renaming inRegion->bR
open Go.Obj renaming cells->aL,deferred->eA
open Go.Proofs.Tryz renaming prog->U
open Go.Region renaming wanted->cS
open Go.Value renaming int->N,pointer->aG,slice->aM,string->bE
open Go.World renaming cell?->eQ
open Option renaming none->Z,some->M
open Or renaming inl->bN,inr->cF
namespace Go.Proofs.YtpibpdpedjinhabGreatDoor
namespace Cr
open Go Go.Conc Go.ConcN Go.RowKit Go.Conc.Lib Go.ConcR.Gen Go.ConcN.Gen
open Go.ConcR (KK WgAt stA smA Payload DC0)
section
abbrev bS:cT:=base 50
def AB(T:Array aD)(h:T.size=24):∃v0 v1 v2 v3 v4 v5 v6 v7 v8 v9 E ah J z af R ae ag ai aa Y I ac aj,T=#[v0,v1,v2,v3,v4,v5,v6,v7,v8,v9,E,ah,J,z,af,R,ae,ag,ai,aa,Y,I,ac,aj]:=by
 obtain⟨l⟩:=T
 match l,h with
 |[v0,v1,v2,v3,v4,v5,v6,v7,v8,v9,E,ah,J,z,af,R,ae,ag,ai,aa,Y,I,ac,aj],_=>simp
noncomputable def loopS:eN:=match Tryz.f50.body with
 |some (bL _ (bL _ (bL _ (bL (bL _ (.block _ (.loop c))) _))))=>c
 |_=>.skip
noncomputable def xq:eN:=match Tryz.f50.body with
 |some (bL _ (bL _ (bL _ (bL _ c))))=>c
 |_=>.skip
noncomputable def tail9:eN:=match xq with
 |bL _ c=>c
 |_=>.skip
noncomputable def ops9:Array km:=match xq with
 |bL (.region _ ops _) _=>ops
 |_=>#[]
structure SF(OB:Nat->Prop)(W:X)(Wg C n:Nat)(K:kC)(w:X):Prop where
 sub:∀b,OB b->K.O b
 old:∀b,OB b->w.heap[b]? =W.heap[b]?
 kw:∀b,K.W b->K.O b
 ko:∀b,K.O b->b<w.heap.size/\b≠Wg/\b≠C
 pay:PayAt C n w
 hC:C<w.heap.size
 hG:Wg<w.heap.size
 glob:Tryz.prog.globals.size<=w.heap.size
 new:∀b,K.O b->OB b\/W.heap.size<=b
 siz:W.heap.size<=w.heap.size
 still:w.tape=W.tape/\w.os=W.os/\w.output=W.output
 low:∀b,b<C-1->b<W.heap.size->b≠Wg->w.heap[b]? =W.heap[b]?
def leftB(bc bf:Nat)(W:X)(fs:Nat->List Fr.F):Left:=λi v O w=>leftOf fs i v O w/\∀b,O b->(b=bc\/b=bf)\/W.heap.size<=b
def Jf(bc bf:Nat)(W:X)(fs:Nat->List Fr.F):(leftB bc bf W fs).nR:=λi v O w w₁ z h=>⟨Ez fs i v O w w₁ z h.1,h.2⟩
section
variable {OB:Nat->Prop}{W:X}{Wg C n:Nat}{K:kC}{w w₁:X}
def SF.en(h:SF OB W Wg C n K w)(r:En (mJ Wg C n) Z K w w₁):SF OB W Wg C n K w₁:=
 ⟨h.sub,λb z=>(r.block b (h.sub b z)).trans (h.old b z),h.kw,λb z=>⟨aP (h.ko b z).1 r.size,(h.ko b z).2⟩,r.pay h.pay,aP h.hC r.size,aP h.hG r.size,bH h.glob r.size,h.new,bH h.siz r.size,⟨r.tape.trans h.still.1,r.os.trans h.still.2.1,r.output.trans h.still.2.2⟩,λb E h2 h3=>(r.low b E).trans (h.low b E h2 h3)⟩
def SF.wg(E:C≠Wg)(h:SF OB W Wg C n K w)(r:Go.Conc.Aside Wg w w₁):SF OB W Wg C n K w₁:=
 ⟨h.sub,λb z=>(r.block b (h.ko b (h.sub b z)).2.1).trans (h.old b z),h.kw,λb z=>⟨by rw[r.size];exact(h.ko b z).1,(h.ko b z).2⟩,let ⟨cs,I,h2⟩:=h.pay;⟨cs,(r.block _ E).trans I,h2⟩,by rw[r.size];exact h.hC,by rw[r.size];exact h.hG,by rw[r.size];exact h.glob,h.new,by rw[r.size];exact h.siz,⟨r.tape.trans h.still.1,r.os.trans h.still.2.1,r.output.trans h.still.2.2⟩,λb I h2 h3=>(r.block b h3).trans (h.low b I h2 h3)⟩
def SF.gu{w':X}{es:Array Event}(h:SF OB W Wg C n K w)(g:Gu (mJ Wg C n) Z K w w' es)(E:∀b,K.W b->¬OB b):SF OB W Wg C n (K.grow w.heap.size w'.heap.size) w':=by
 have hs:=g.size;have hC:=h.hC;have hG:=h.hG
 exact⟨λb z=>bN (h.sub b z),λb z=>(g.block b (h.ko b (h.sub b z)).1 (λhw=>E b hw z) λ_=>rfl).trans (h.old b z),λb z=>z.imp (h.kw b) id,
  λb z=>z.elim (λx=>⟨aP (h.ko b x).1 hs,(h.ko b x).2⟩) λx=>⟨x.2,aA,aA⟩,g.pay h.pay,aP hC hs,aP hG hs,bH h.glob hs,
  λb z=>z.elim (h.new b) λx=>cF (bH h.siz x.1),bH h.siz hs,⟨g.tape.trans h.still.1,g.os.trans h.still.2.1,g.output.trans h.still.2.2⟩,
  λb I h2 h3=>(g.block b (aP h2 h.siz) (λhw=>(h.new b (h.kw b hw)).elim (E b hw) λx=>aA) λ_=>rfl).trans (h.low b I h2 h3)⟩
def QG(tx:Option fR)(n cap Wg bc bf j:Nat)(cs:List cT)(g:cA):Prop:=
 ∃T:Array aD,g=G (bS.at ⟨T,[]⟩ [.code loopS,.inLoop loopS,.inBlock 0,.code xq]) cs/\T.size=24/\T[2]? =M (aG (M ⟨bc,0,Z⟩))/\T[5]? =M (aG (M ⟨bf,0,Z⟩))/\T[6]? =M (aG (M ⟨Wg,0,Z⟩))/\
  T[12]? =M (.slice tx n cap)/\T[13]? =M (N aE n)/\T[14]? =M (N aE j)
def AnchS(OB:Nat->Prop)(W:X)(Wg C n bf:Nat)(cs:List cT)(K:kC)(g:cA)(w:X):Prop:=
 ∃T:Array aD,T.size=24/\T[5]? =M (aG (M ⟨bf,0,Z⟩))/\Jt link (SF OB W Wg C n) Wg (bS.at ⟨T,[]⟩ (bR ops9 (0::[])::[.code tail9])) cs K g w
def acO(OB:Nat->Prop)(W:X)(Wg C n bf:Nat)(cs:List cT)(K:kC)(g:cA)(w:X):Prop:=
 ∃T:Array aD,T.size=24/\T[5]? =M (aG (M ⟨bf,0,Z⟩))/\g=G (bS.at ⟨T,[]⟩ (bR ops9 []::[.code tail9])) cs/\SF OB W Wg C n K w
variable {bf:Nat}{cs:List cT}
def Qr(E:C≠Wg)(K:kC)(g:cA)(w:X)(h:AnchS OB W Wg C n bf cs K g w):Way U (mJ Wg C n) (tV U (mJ Wg C n) (acO OB W Wg C n bf cs) (AnchS OB W Wg C n bf cs)) K g w:=by
 obtain⟨T,I,t5,J⟩:=h;refine Way.mono (waitRound (L:=link) wgLib (Wg:=Wg) (C:=C) (n:=n) (Fin:=acO OB W Wg C n bf cs) (Fk:=SF OB W Wg C n) (b₀:=bS) (a₀:=⟨T,[]⟩) (ops₀:=ops9) (i₀:=0) (rest₀:=[]) (k₀:=[.code tail9]) (cs:=cs) (λ_ _ _ r h=>h.en r) (λ_ _ _ r h=>h.wg E r) ?_ K g w J) λK g w x=>tV.mono (λK g w y=>⟨T,I,t5,y⟩) x;intro K w R;refine Way.stop λw₁ z=>⟨T.setIfInBounds 22 (.tuple #[]),by simp[I],by grind,?_,R.1.en z⟩
 rfl
end
end
section
variable {K:kC}{w:X}{g:cA}
section
variable {OB:Nat->Prop}{W:X}{Wg C n cap bc bf tb q0:Nat}{cs:List cT}{inbox batcher t0 t1 t2 t3 t4:Int}{fr ad:Nat->Int}{data:Nat->ByteArray}{fs:Nat->List Fr.F}
def kP{z:X}(h:SF OB W Wg C n K w/\lP link.tWg Wg w)(r:En (mJ Wg C n) Z K w z):SF OB W Wg C n K z/\lP link.tWg Wg z:=⟨h.1.en r,r.live h.2⟩
def SX(tx:Option fR)(hg:QG tx n cap Wg bc bf n cs g)(z:SF OB W Wg C n K w/\lP link.tWg Wg w):Way U (mJ Wg C n) (zy U (mJ Wg C n) (AnchS OB W Wg C n bf cs)) K g w:=by
 obtain⟨T,rfl,hT,t2,t5,t6,t12,J,t14⟩:=hg;obtain⟨v0,v1,v2,v3,v4,v5,v6,v7,v8,v9,Y,an,ac,R,ak,ae,aj,am,ao,ah,af,aa,ai,ap,rfl⟩:=AB T hT;simp only[eX,eU,dX,aK]at t2 t5 t6 t12 J t14;subst t2 t5 t6 t12 J t14;have ag:¬((n:Int)<n):=aA
 simp only[loopS,xq,Tryz.f50];refine Way.go (n:=40) ?_;u_c cE kP z;u_reg kP z;u_op kP z;u_c bA kP z;u_c cE kP z;u_cond aR kP z;u_exit kP z;u_c cE kP z;u_reg kP z;u_in kP z;refine goes_call rfl rfl (by k_ne) rfl wgLib.f_wait (nm_wait link) rfl ⟨by u_nil,?_⟩;walk_nrmf waitFn;refine cL λI E=>?_;replace z:=kP z E;refine Way.mono (waitStart (L:=link) (P:=U) wgLib (Wg:=Wg) (C:=C) (n:=n) (Fk:=SF OB W Wg C n) (b₀:=bS) (a₀:=_) (ops₀:=ops9) (i₀:=0) (rest₀:=[]) (k₀:=[.code tail9]) (cs:=cs) (λ_ _ _ r h=>h.en r) K I z) λK g w x=>zy.mono (λK g w y=>⟨_,?_,?_,y⟩) x
 all_goals simp
def L6(rd:ReadW){St':kC->cA->X->Prop}(ba:C≠Wg){j:Nat}(hj:j<n)(hn:n<9223372036854775808)(a4:OB tb)(bb:OB bc)(bk:OB bf)(bv:W.heap[bc]? =M (aL (cfg inbox batcher t0 t1 t2 t3 t4) 24))(b3:W.heap[bf]? =M (aL #[aM (M ⟨C,0,Z⟩) n n] 104))(hx:W.cell? ⟨tb,q0+j*3,Z⟩=M (N dT (fr j))/\W.cell? ⟨tb,q0+j*3+1,Z⟩=M (N dT (ad j))/\W.cell? ⟨tb,q0+j*3+2,Z⟩=M (bE (data j)))(bz:fs j=Fr.mg inbox batcher (fr j) (ad j) (data j).data.toList)(hd:(data j).size<=1048576)(hg:QG (M ⟨tb,q0,Z⟩) n cap Wg bc bf j cs g)(z:SF OB W Wg C n K w/\lP link.tWg Wg w)(hK:∀b,¬K.W b)(a6:∀K g w,QG (M ⟨tb,q0,Z⟩) n cap Wg bc bf (j+1) cs g->SF OB W Wg C n K w/\lP link.tWg Wg w->(∀b,¬K.W b)->Way U (mJ Wg C n) St' K g w):Way U (mJ Wg C n) (Lj U (mJ Wg C n) (leftB bc bf W fs) j (λK g w=>Way U (mJ Wg C n) St' K g w)) K g w:=by
 obtain⟨T,rfl,hT,t2,t5,t6,t12,bg,t14⟩:=hg;obtain⟨v0,v1,v2,v3,v4,v5,v6,v7,v8,v9,cj,cb,cm,b6,cl,b8,b9,cg,co,ce,cd,b7,cn,cp,rfl⟩:=AB T hT;simp only[eX,eU,dX,aK]at t2 t5 t6 t12 bg t14;subst t2 t5 t6 t12 bg t14;have cc:(j:Int)<n:=aA
 have ca:(0:Int)<=(j:Int):=aA
 simp only[loopS,Tryz.f50];refine Way.go (n:=40) ?_;u_c cE kP z;u_reg kP z;u_op kP z;u_c bA kP z;u_c cE kP z;u_cond bB kP z;u_c stepG_skip kP z;u_c cE kP z;u_c pA kP z;u_c cE kP z;u_reg kP z
 iterate 2 u_op kP z
 refine cL λb5 a0=>?_;replace z:=kP z a0;clear a0;refine Way.m (kY.op rfl rfl (by k_ne) λbj a1=>?_);replace z:=kP z a1;clear a1;have E:=λk=>cell_of_block (z.1.old tb a4) k;refine⟨_,bj,U1 rfl rfl ((E _).trans hx.1) ((E _).trans hx.2.1) ((E _).trans hx.2.2),su λe he=>?_,?_⟩
 .obtain⟨k,rfl⟩:=VB he rfl rfl ((E _).trans hx.1) ((E _).trans hx.2.1) ((E _).trans hx.2.2);exact⟨_,rfl,z.1.sub tb a4,(z.1.ko tb (z.1.sub tb a4)).1⟩
 rw[kR];clear E;walk_nrm;refine kY.op rfl rfl (by k_ne) λao a2=>?_;replace z:=kP z a2;clear a2;have ae:Gu (mJ Wg C n) Z K ao (ao.alloc (aL #[N aE 0] 3)) #[]:=KC z.1.hC _;refine⟨_,_,Wi rfl,by rw[aaw rfl];exact ae,?_⟩;have hS:=z.1.gu ae λb hb=>Xs hb (hK b);obtain⟨bi,aq⟩:∃bi,ao.heap.size=bi:=⟨_,rfl⟩
 obtain⟨V,hV⟩:∃V,ao.alloc (aL #[N aE 0] 3)=V:=⟨_,rfl⟩
 have J:V.heap[bi]? =M (aL #[N aE 0] 3):=by rw[<-hV,<-aq];exact cY _ _
 have a7:V.heap.size=bi+1:=by rw[<-hV,<-aq];simp
 have Y:lP link.tWg Wg V:=let ⟨st,sm,hl⟩:=z.2;⟨st,sm,hl.of_block (by rw[<-hV];exact ae.block _ z.1.hG (hK _) λ_=>rfl)⟩
 rw[hV]at hS;rw[hV,aq];rw[aq]at hS;obtain⟨K1,au⟩:∃K1,K.grow bi V.heap.size=K1:=⟨_,rfl⟩
 rw[au]at hS⊢;have a8:K1.O bi:=by rw[<-au];exact cF ⟨jB,aA⟩
 have bd:K1.W bi:=by rw[<-au];exact cF ⟨jB,aA⟩
 have bu:∀b,K1.W b->b=bi:=by rw[<-au];exact λb hb=>hb.elim (λh=>Xs h (hK b)) λh=>aA
 have bw:¬OB bi:=λh=>by have:=(z.1.ko bi (z.1.sub bi h)).1;omega
 replace z:SF OB W Wg C n K1 V/\lP link.tWg Wg V:=⟨hS,Y⟩
 clear ae hS Y hV au a7 aq;walk_nrm;refine kY.op rfl rfl (by k_ne) λag av=>?_;replace z:=kP z av;have bl:=(av.block bi a8).trans J;clear av J;have ae:Gu (mJ Wg C n) Z K1 ag (ag.alloc (aL #[N dT 0,N dT 0,bE ⟨#[]⟩] 125)) #[]:=KC z.1.hC _;refine⟨_,_,VJ rfl,by rw[abu rfl];exact ae,?_⟩;have hS:=z.1.gu ae λb hb=>by grind
 obtain⟨bx,ap⟩:∃bx,ag.heap.size=bx:=⟨_,rfl⟩
 have ck:bi<bx:=by rw[<-ap];exact(z.1.ko bi a8).1
 obtain⟨V2,hV⟩:∃V,ag.alloc (aL #[N dT 0,N dT 0,bE ⟨#[]⟩] 125)=V:=⟨_,rfl⟩
 have ah:V2.heap[bx]? =M (aL #[N dT 0,N dT 0,bE ⟨#[]⟩] 125):=by rw[<-hV,<-ap];exact cY _ _
 have a7:V2.heap.size=bx+1:=by rw[<-hV,<-ap];simp
 have J:V2.heap[bi]? =M (aL #[N aE 0] 3):=by
  rw[<-hV]
  show(ag.heap.push _)[bi]? =_
  rw[Array.getElem?_push_lt aA,<-dA];exact bl
 have Y:lP link.tWg Wg V2:=let ⟨st,sm,hl⟩:=z.2;⟨st,sm,hl.of_block (by rw[<-hV];exact ae.block _ z.1.hG (λh=>(z.1.ko _ (z.1.kw _ h)).2.1 rfl) λ_=>rfl)⟩
 rw[hV]at hS;rw[hV,ap];rw[ap]at hS;obtain⟨K2,aj⟩:∃K2,K1.grow bx V2.heap.size=K2:=⟨_,rfl⟩
 rw[aj]at hS⊢;have af:K2.O bx:=by rw[<-aj];exact cF ⟨jB,aA⟩
 have aw:K2.W bx:=by rw[<-aj];exact cF ⟨jB,aA⟩
 have I:K2.O bi:=by rw[<-aj];exact bN a8
 have cf:∀b,K2.W b->b=bi\/b=bx:=by rw[<-aj];exact λb hb=>hb.elim (λh=>bN (bu b h)) λh=>cF aA
 have b0:¬OB bx:=λh=>by have:=(z.1.ko bx (z.1.sub bx h)).1;omega
 have az:K2.W bi:=by rw[<-aj];exact bN bd
 replace z:SF OB W Wg C n K2 V2/\lP link.tWg Wg V2:=⟨hS,Y⟩
 clear ae hS Y hV aj a7 ap bl;walk_nrm;have bn:=(z.1.ko bi I).2.2;have bq:=(z.1.ko bx af).2.2;have bp:=(z.1.ko bi I).2.1;have bh:=(z.1.ko bx af).2.1;have br:∀b,K2.W b->¬OB b:=λb hb=>by grind
 refine kY.opn rfl rfl (by k_ne) λR am=>?_;replace z:=kP z am;have i5:=(am.block bi I).trans J;have x5:=(am.block bx af).trans ah;clear am J ah;have ar:Gu (mJ Wg C n) Z K2 R (R.setCell ⟨bi,0,Z⟩ (N aE j)) #[]:=Wx az (z.1.ko bi I).1 bn aC;refine⟨_,WJ rfl rfl rfl i5,Wx az (z.1.ko bi I).1 bn λe he=>aaF he rfl rfl rfl i5,?_⟩;have ai:=(kE R ⟨bi,0,Z⟩ (N aE j)).2.2.2;have hS:=z.1.gu ar br;rw[ai,kR]at hS;rw[ai,kR];have Y:lP link.tWg Wg (R.setCell ⟨bi,0,Z⟩ (N aE j)):=let ⟨st,sm,hl⟩:=z.2;⟨st,sm,hl.of_block (kL (Ne.symm bp))⟩
 have J:(R.setCell ⟨bi,0,Z⟩ (N aE j)).heap[bi]? =M (aL #[N aE j] 3):=RV i5;have ah:(R.setCell ⟨bi,0,Z⟩ (N aE j)).heap[bx]? =M (aL #[N dT 0,N dT 0,bE ⟨#[]⟩] 125):=(kL (by show bx≠bi;omega)).trans x5;replace z:SF OB W Wg C n K2 _/\lP link.tWg Wg _:=⟨hS,Y⟩
 clear ar hS Y ai i5 x5;generalize R.setCell ⟨bi,0,Z⟩ (N aE j)=V5 at *;walk_nrm;refine kY.opn rfl rfl (by k_ne) λac ak=>?_;replace z:=kP z ak;have i6:=(ak.block bi I).trans J;have x6:=(ak.block bx af).trans ah;clear ak J ah;have ar:Gu (mJ Wg C n) Z K2 ac (vJ ac bx (N dT (fr j)) (N dT (ad j)) (bE (data j))) #[]:=Qx aw (z.1.ko bx af).1 bq aC;refine⟨_,WQ rfl rfl rfl x6,Qx aw (z.1.ko bx af).1 bq λe he=>abe he rfl rfl rfl x6,?_⟩;obtain⟨_,_,_,ai,a3⟩:=DT ac bx (N dT (fr j)) (N dT (ad j)) (bE (data j));have hS:=z.1.gu ar br;rw[ai,kR]at hS;rw[ai,kR];have Y:lP link.tWg Wg (vJ ac bx (N dT (fr j)) (N dT (ad j)) (bE (data j))):=let ⟨st,sm,hl⟩:=z.2;⟨st,sm,hl.of_block (a3 _ (Ne.symm bh))⟩
 have ah:(vJ ac bx (N dT (fr j)) (N dT (ad j)) (bE (data j))).heap[bx]? =M (aL (Ad (fr j) (ad j) (data j)) 125):=Xn x6;have J:=(a3 bi aA).trans i6;replace z:SF OB W Wg C n K2 _/\lP link.tWg Wg _:=⟨hS,Y⟩
 clear ar hS Y ai i6 x6 a3;generalize vJ ac bx (N dT (fr j)) (N dT (ad j)) (bE (data j))=V6 at *;walk_nrm;replace z:(SF OB W Wg C n K2 V6/\V6.heap[bi]? =M (aL #[N aE j] 3)/\V6.heap[bx]? =M (aL (Ad (fr j) (ad j) (data j)) 125))/\lP link.tWg Wg V6:=⟨⟨z.1,J,ah⟩,z.2⟩
 clear J ah
 have aa:∀w w',En (mJ Wg C n) Z K2 w w'->(SF OB W Wg C n K2 w/\w.heap[bi]? =M (aL #[N aE j] 3)/\w.heap[bx]? =M (aL (Ad (fr j) (ad j) (data j)) 125))->(SF OB W Wg C n K2 w'/\w'.heap[bi]? =M (aL #[N aE j] 3)/\w'.heap[bx]? =M (aL (Ad (fr j) (ad j) (data j)) 125)):=
  λw w' r h=>⟨h.1.en r,(r.block bi I).trans h.2.1,(r.block bx af).trans h.2.2⟩
 have b2:∀w w',Go.Conc.Aside Wg w w'->(SF OB W Wg C n K2 w/\w.heap[bi]? =M (aL #[N aE j] 3)/\w.heap[bx]? =M (aL (Ad (fr j) (ad j) (data j)) 125))->(SF OB W Wg C n K2 w'/\w'.heap[bi]? =M (aL #[N aE j] 3)/\w'.heap[bx]? =M (aL (Ad (fr j) (ad j) (data j)) 125)):=
  λw w' r h=>⟨h.1.wg ba r,(r.block bi bp).trans h.2.1,(r.block bx bh).trans h.2.2⟩
 refine kY.go (n:=20) ?_;u_c bA (jA aa) z;u_c cE (jA aa) z;u_reg (jA aa) z;u_in (jA aa) z;refine goes_call rfl rfl (by k_ne) rfl wgLib.f_add (nm_add link) rfl ⟨by u_nil,?_⟩;walk_nrmf addFn;refine cL λbm ay=>?_;replace z:=jA aa z ay;clear ay;refine addPos (L:=link) (P:=U) wgLib aa b2 ?_ bm z;clear z;intro b4 z;walk_nrm;refine Way.go (n:=20) ?_;u_c bA (jA aa) z;u_reg (jA aa) z;u_op (jA aa) z;refine cL λbs an=>Way.stop λwa ha=>?_;replace z:=jA aa (jA aa z an) ha;clear an ha;refine⟨rfl,?_⟩;rw[stepG_spawn (d:=JU Wg bc bx bf bi) (w':=wa) (f:=.func 71) (c:=#[aG (M ⟨Wg,0,Z⟩),aG (M ⟨bc,0,Z⟩),aG (M ⟨bx,0,Z⟩),aG (M ⟨bf,0,Z⟩),aG (M ⟨bi,0,Z⟩)]) rfl rfl (by k_ne) (by simp[go_sem,JU,Deferred.ofValue]) rfl];generalize hL:listed _ _ _ _ _=Lx
 have b1:Lx=#[]:=by
  rw[<-hL];simp[listed,go_sem,seen,Deferred.ofValue];rfl
 subst b1;clear hL
 have a9:∀b,(b=bc\/b=bx\/b=bf\/b=bi)->K2.O b:=by
  rintro b (rfl|rfl|rfl|rfl)
  .exact z.1.1.sub _ bb
  .exact af
  .exact z.1.1.sub _ bk
  .exact I
 refine⟨_,_,⟨K2.O,λ_=>False⟩,⟨_,λ_=>False⟩,rfl,rfl,λ_ h=>h,λ_ h=>h.elim,a9,λ_ h=>h.elim,λ_ h=>h.elim,λ_ h=>h.elim,λ_ h=>h.elim,λ_ h=>h.elim,λbo a5=>?_,?_⟩
 .refine kY.mono (kY.keep (Wd:=λb=>b=bc\/b=bf) (B:=W.heap.size) (PO rd hj ba bz hd ⟨(z.1.1.old bc bb).trans bv,z.1.2.2,(z.1.1.old bf bk).trans b3,z.1.2.1,a5,bo⟩ ⟨bN rfl,cF (bN rfl),cF (cF (bN rfl)),cF (cF (cF rfl)),λ_ h=>h.elim,λb hb=>(z.1.1.ko b (a9 b hb)).1,z.1.1.hC,z.1.1.hG,λb hb=>(z.1.1.ko b (a9 b hb)).2.2,z.1.1.glob⟩) (λb hb=>by
   obtain rfl|rfl|rfl|rfl:=hb
   .exact bN (bN rfl)
   .exact cF ((z.1.1.new _ af).resolve_left b0)
   .exact bN (cF rfl)
   .exact cF ((z.1.1.new _ I).resolve_left bw)) z.1.1.siz) λK g w x=>let ⟨⟨v,h1,h2⟩,h3⟩:=x;⟨v,h1,h2,h3⟩
 ·
  replace z:SF OB W Wg C n ⟨K2.O,λ_=>False⟩ wa/\lP link.tWg Wg wa:=⟨⟨z.1.1.sub,z.1.1.old,λ_ h=>h.elim,z.1.1.ko,z.1.1.pay,z.1.1.hC,z.1.1.hG,z.1.1.glob,z.1.1.new,z.1.1.siz,z.1.1.still,z.1.1.low⟩,z.2⟩
  have ci:IntKind.i64.wrap ((j:Int)+1)=((j+1:Nat):Int):=by rw[gA];omega
  walk_nrm;refine Way.go (n:=20) ?_;u_c bA kP z;u_c stepG_inBlock kP z;u_reg kP z
  iterate 2 u_op kP z
  u_c bA kP z;u_c stepG_inLoop kP z;refine cL λbs an=>?_;replace z:=kP z an;refine a6 _ _ _ ⟨_,rfl,?_,?_,?_,?_,?_,?_,?_⟩ z λ_ h=>h
  all_goals simp
end
end
section
variable {tx:Option fR}
section
variable {OB:Nat->Prop}{W:X}{Wg C n cap bc bf tb q0:Nat}{cs:List cT}{inbox batcher t0 t1 t2 t3 t4:Int}{fr ad:Nat->Int}{data:Nat->ByteArray}{fs:Nat->List Fr.F}
structure Xh(OB:Nat->Prop)(W:X)(tx:Option fR)(tb q0 n:Nat)(fr ad:Nat->Int)(data:Nat->ByteArray):Prop where
 at_:0<n->tx=M ⟨tb,q0,Z⟩/\OB tb
 cell:∀j,j<n->W.cell? ⟨tb,q0+j*3,Z⟩=M (N dT (fr j))/\W.cell? ⟨tb,q0+j*3+1,Z⟩=M (N dT (ad j))/\W.cell? ⟨tb,q0+j*3+2,Z⟩=M (bE (data j))
 size:∀j,j<n->(data j).size<=1048576
def Ox(rd:ReadW)(J:C≠Wg)(hn:n<9223372036854775808)(R:OB bc)(I:OB bf)(ac:W.heap[bc]? =M (aL (cfg inbox batcher t0 t1 t2 t3 t4) 24))(ae:W.heap[bf]? =M (aL #[aM (M ⟨C,0,Z⟩) n n] 104))(hx:Xh OB W tx tb q0 n fr ad data)(aa:∀j,j<n->fs j=Fr.mg inbox batcher (fr j) (ad j) (data j).data.toList):∀(r j:Nat),j+r=n->∀(K:kC)(g:cA)(w:X),QG tx n cap Wg bc bf j cs g->SF OB W Wg C n K w/\lP link.tWg Wg w->(∀b,¬K.W b)->qA U (mJ Wg C n) (AnchS OB W Wg C n bf cs) (leftB bc bf W fs) r K g w:=by
 intro r
 induction r with
 |zero=>
  intro j hj K g w Y hF _;obtain rfl:j=n:=aA
  exact SX tx Y hF
 |succ r ih=>
  intro j hj K g w Y hF hK
  obtain⟨St',E⟩:∃St':kC->cA->X->Prop,qA U (mJ Wg C n) (AnchS OB W Wg C n bf cs) (leftB bc bf W fs) r=λK g w=>Way U (mJ Wg C n) St' K g w:=by
   cases r with
   |zero=>exact⟨_,rfl⟩
   |succ r=>exact⟨_,rfl⟩
  obtain⟨rfl,af⟩:=hx.at_ aA;have z:j<n:=aA
  have h:=L6 rd (St':=St') J z hn af R I ac ae (hx.cell j z) (aa j z) (hx.size j z) Y hF hK λK g w h1 h2 h3=>by
   have:=ih _ aA K g w h1 h2 h3;rw[E]at this;exact this
  show ∃T,jT U bB (mJ Wg C n) Z (Lj U (mJ Wg C n) (leftB bc bf W fs) (n-(r+1)) (qA U (mJ Wg C n) (AnchS OB W Wg C n bf cs) (leftB bc bf W fs) r)) T K g w
  rw[E,show n-(r+1)=j by omega];exact h
noncomputable def Yc:eN:=match Tryz.f50.body with
 |some (bL _ (bL _ (bL _ (bL c _))))=>c
 |_=>.skip
def UN(rd:ReadW)(R:C≠Wg)(hn:n<9223372036854775808)(Y:OB bc)(J:OB bf)(ac:W.heap[bc]? =M (aL (cfg inbox batcher t0 t1 t2 t3 t4) 24))(ae:W.heap[bf]? =M (aL #[aM (M ⟨C,0,Z⟩) n n] 104))(hx:Xh OB W tx tb q0 n fr ad data)(aa:∀j,j<n->fs j=Fr.mg inbox batcher (fr j) (ad j) (data j).data.toList){K:kC}{w:X}{T:Array aD}(hT:T.size=24)(t1:T[1]? =M (.slice tx n cap))(t2:T[2]? =M (aG (M ⟨bc,0,Z⟩)))(t5:T[5]? =M (aG (M ⟨bf,0,Z⟩)))(t6:T[6]? =M (aG (M ⟨Wg,0,Z⟩)))(z:SF OB W Wg C n K w/\lP link.tWg Wg w)(hK:∀b,¬K.W b):qA U (mJ Wg C n) (AnchS OB W Wg C n bf cs) (leftB bc bf W fs) n K (G (bS.at ⟨T,[]⟩ [.code Yc,.code xq]) cs) w:=by
 obtain⟨St',af⟩:∃St':kC->cA->X->Prop,qA U (mJ Wg C n) (AnchS OB W Wg C n bf cs) (leftB bc bf W fs) n=λK g w=>Way U (mJ Wg C n) St' K g w:=by
  cases n with
  |zero=>exact⟨_,rfl⟩
  |succ r=>exact⟨_,rfl⟩
 have hl:=Ox (cap:=cap) (cs:=cs) rd R hn Y J ac ae hx aa n 0 aA;rw[af]at hl⊢;obtain⟨v0,v1,v2,v3,v4,v5,v6,v7,v8,v9,ah,au,aj,ag,aq,ak,ap,ar,av,an,am,ai,ao,aw,rfl⟩:=AB T hT;simp only[eX,eU,dX,aK]at t1 t2 t5 t6;subst t1 t2 t5 t6;simp only[Yc,Tryz.f50];refine Way.go (n:=20) ?_;u_c cE kP z;u_reg kP z
 iterate 3 u_op kP z
 u_c bA kP z;u_c pA kP z;u_c stepG_loop kP z;refine cL λI E=>?_;replace z:=kP z E;refine hl K _ I ⟨_,rfl,?_,?_,?_,?_,?_,?_,?_⟩ z hK
 all_goals simp
end
end
section
variable {n b:Nat}
section
variable {w:X}{a:Act}{o:km}
def afE{inbox batcher t0 t1 t2 t3 t4:Int}(E:a.eval (.tmp 0)=.agg (cfg inbox batcher t0 t1 t2 t3 t4))(z:o.op=.box 24 (.tmp 0)):(bO a.eval o).run U w=.ok (.value (aG (M ⟨w.heap.size,0,Z⟩))) (w.alloc (aL (cfg inbox batcher t0 t1 t2 t3 t4) 24))/\(bO a.eval o).events U w #[]=#[]:=by
 constructor
 .unfold bO;simp only[z,E];simp[go_sem]
 .unfold bO;simp only[z,E];simp[go_sem]
def afk(z:o.op=.alloc 104):(bO a.eval o).run U w=.ok (.value (aG (M ⟨w.heap.size,0,Z⟩))) (w.alloc (aL #[aM Z 0 0] 104))/\(bO a.eval o).events U w #[]=#[]:=by
 constructor
 .unfold bO;simp only[z];simp[go_sem]
 .unfold bO;simp only[z];simp[go_sem]
def afB(z:o.op=.alloc 150):(bO a.eval o).run U w=.ok (.value (aG (M ⟨w.heap.size,0,Z⟩))) (w.alloc (aL #[N pw 0,N dT 0] 150))/\(bO a.eval o).events U w #[]=#[]:=by
 constructor
 .unfold bO;simp only[z];simp[go_sem]
 .unfold bO;simp only[z];simp[go_sem]
def ae5:(Tryz.prog.info? 106).map (λi=>(i.zero,i.size,i.bytes))=M (M (aM Z 0 0),1,24):=XN
def afp:Tryz.prog.underlying 104=M (.slice 106):=XN
def afx(hn:n<=16777216)(h:a.eval (.tmp 10)=N aE n)(J:o.op=.makeSlice 104 (.tmp 10) (.tmp 10)):(bO a.eval o).run U w=.ok (.value (aM (M ⟨w.heap.size,0,Z⟩) n n)) (w.alloc (aL (madeCells #[aM Z 0 0] n) 106))/\(bO a.eval o).events U w #[]=#[]:=by
 obtain⟨i0,hi,I,Y,z⟩:=info_parts ae5;have E:=run_make (P:=U) w 104 106 i0 _ afp hi I aE aE n n aA aA (by rw[z];omega) aA;have R:=λes=>events_make (P:=U) w 104 106 i0 _ afp hi I aE aE n n aA aA (by rw[z];omega) aA (by rw[z];simp;omega) es;rw[Y]at E;simp only[Int.toNat_natCast,Nat.mul_one]at E;constructor
 .unfold bO;simp only[J,h];simp[go_sem,E,Value.cells]
 .unfold bO;simp only[J,h];simp[go_sem,R]
def abH{C:Nat}{u:aD}(J:w.heap[b]? =M (aL #[u] 104))(I:a.eval (.tmp 5)=aG (M ⟨b,0,Z⟩))(z:a.eval (.tmp 11)=aM (M ⟨C,0,Z⟩) n n)(E:o.op=.store 104 (.tmp 5) (.tmp 11)):(bO a.eval o).run U w=.ok .skip (w.setCell ⟨b,0,Z⟩ (aM (M ⟨C,0,Z⟩) n n))/\∀e∈(bO a.eval o).events U w #[],e=⟨.cell ⟨b,0,Z⟩,bB,aR⟩:=by
 have hc:w.cell? ⟨b,0,Z⟩=M u:=by simp[eQ,J]
 have R:w.frozen? ⟨b,0,Z⟩=aR:=by simp[World.frozen?,J]
 constructor
 .unfold bO;simp only[E,I,z];simp[go_sem,stored,hc,R]
 .unfold bO;simp only[E,I,z];simp[go_sem,hc,R,events_store _ _ _ _ _ _ (show(aM (M ⟨C,0,Z⟩) n n).oneCell'=bB from rfl)]
def abI{s:Option fR}{m:Nat}(I:w.heap[b]? =M (aL #[.slice s n m] 104))(E:a.eval (.tmp 5)=aG (M ⟨b,0,Z⟩))(z:o.op=.load 104 (.tmp 5)):(bO a.eval o).run U w=.ok (.value (.slice s n m)) w/\∀e∈(bO a.eval o).events U w #[],e=⟨.cell ⟨b,0,Z⟩,aR,aR⟩:=by
 have hc:w.cell? ⟨b,0,Z⟩=M (.slice s n m):=by simp[eQ,I]
 constructor
 .unfold bO;simp only[z,E];simp[go_sem,hc]
 .unfold bO;simp only[z,E];simp[go_sem,hc]
end
end
section
variable {v:aD}
section
variable {P:Program}{Post:aD->X->Prop}{Dead:Nat->Prop}
def ou.go:∀{n:Nat}{g:cA}{w:X},iA P bB AtRel DC0 (ou P Post Dead) n g w->ou P Post Dead g w:=by
 intro n
 induction n with
 |zero=>exact λ{g w} h=>h w (kr w)
 |succ n ih=>
  intro g w h;obtain h|⟨E,hs⟩:=h
  .exact h w (kr w)
  .refine .step E λd=>?_;have:=hs _ ⟨d,rfl⟩;cases e:stepG P bB g (w.at d)with
   |go g' w' es=>
    rw[e,goes_go]at this;obtain⟨⟨rfl,rfl⟩,hG⟩:=this;exact⟨g',_,_,rfl,jB,λe z=>by simp at z,ih hG⟩
   |_=>rw[e]at this;exact this.elim
def qK.go{B:Nat}:∀{n:Nat}{g:cA}{w:X},iA P bB AtRel DC0 (qK P Post Dead B) n g w->qK P Post Dead B g w:=by
 intro n
 induction n with
 |zero=>exact λ{g w} h=>h w (kr w)
 |succ n ih=>
  intro g w h;obtain h|⟨E,hs⟩:=h
  .exact h w (kr w)
  .refine .step E λd=>?_;have:=hs _ ⟨d,rfl⟩;cases e:stepG P bB g (w.at d)with
   |go g' w' es=>
    rw[e,goes_go]at this;obtain⟨⟨rfl,rfl⟩,hG⟩:=this;exact⟨g',_,_,B,rfl,jB,λe z=>by simp at z,ih hG⟩
   |_=>rw[e]at this;exact this.elim
section
variable {w w':X}{b:cT}{a:Act}{k:List pB}{cs:List cT}{ops:Array km}{i:Nat}{rest:List Nat}{o:km}
def ou.qJ(z:ops[i]? =M o)(hw:cS o (yielded ops a.tmps)=bB)(hk:b.kind≠.early)(I:∀d,(bO a.eval o).run P (w.at d)=.ok (.value v) (w'.at d))(hs:w.heap.size<=w'.heap.size)(E:∀d,∀e∈(bO a.eval o).events P (w.at d) #[],EvL (YJ Dead) w'.heap.size e)(h:ou P Post Dead (G (b.at (a.put o.dst v) (bR ops rest::k)) cs) w'):ou P Post Dead (G (b.at a (bR ops (i::rest)::k)) cs) w:=
 .op z hw hk λd=>⟨v,w'.at d,I d,hs,λe h=>E d e (im h),h.at d⟩
def ou.agU(z:ops[i]? =M o)(hw:cS o (yielded ops a.tmps)=bB)(hk:b.kind≠.early)(I:∀d,(bO a.eval o).run P (w.at d)=.ok .skip (w'.at d))(hs:w.heap.size<=w'.heap.size)(E:∀d,∀e∈(bO a.eval o).events P (w.at d) #[],EvL (YJ Dead) w'.heap.size e)(h:ou P Post Dead (G (b.at (a.put o.dst aH) (bR ops rest::k)) cs) w'):ou P Post Dead (G (b.at a (bR ops (i::rest)::k)) cs) w:=
 .opn z hw hk λd=>⟨w'.at d,I d,hs,λe h=>E d e (im h),h.at d⟩
def qK.ahd{B:Nat}(z:ops[i]? =M o)(hw:cS o (yielded ops a.tmps)=bB)(hk:b.kind≠.early)(I:∀d,(bO a.eval o).run P (w.at d)=.ok (.value v) (w'.at d))(E:∀d,(bO a.eval o).events P (w.at d) #[]=#[])(h:qK P Post Dead B (G (b.at (a.put o.dst v) (bR ops rest::k)) cs) w'):qK P Post Dead B (G (b.at a (bR ops (i::rest)::k)) cs) w:=
 .step rfl λd=>⟨_,w'.at d,_,B,stepG_value z hw hk (I d),jB,λe h=>by have:=im h;rw[E d]at this;simp at this,h.at d⟩
def IQ{es:Array Event}{p:Event->Prop}(h:es=#[]):∀e∈es,p e:=λe z=>by grind
end
def at_rl{w0 w z:X}(h:AtRel w0 w)(r:AtRel w z):AtRel w0 z:=atRel_trans _ _ _ h r
end
noncomputable def YV:eN:=Tryz.f50.body.getD .skip
def mF(w:X)(c:Array aD)(n:Nat):X:=
 ((((w.alloc (aL c 24)).alloc (aL (madeCells #[aM Z 0 0] n) 106)).alloc (aL #[aM Z 0 0] 104)).setCell ⟨w.heap.size+2,0,Z⟩ (aM (M ⟨w.heap.size+1,0,Z⟩) n n)).alloc (aL #[N pw 0,N dT 0] 150)
section
variable {Post:aD->X->Prop}{Dead:Nat->Prop}{w:X}{tx:Option fR}{n cap:Nat}{cs:List cT}{inbox batcher t0 t1 t2 t3 t4:Int}
def Iy(hn:n<=16777216)(hD:∀b,Dead b->b<w.heap.size)(ac:∀T:Array aD,T.size=24->T[1]? =M (.slice tx n cap)->T[2]? =M (aG (M ⟨w.heap.size,0,Z⟩))->T[5]? =M (aG (M ⟨w.heap.size+2,0,Z⟩))->T[6]? =M (aG (M ⟨w.heap.size+3,0,Z⟩))->qK U Post Dead (w.heap.size+3) (G (bS.at ⟨T,[]⟩ [.code Yc,.code xq]) cs) (mF w (cfg inbox batcher t0 t1 t2 t3 t4) n)):ou U Post Dead (G (bS.at ⟨#[.agg (cfg inbox batcher t0 t1 t2 t3 t4),.slice tx n cap,aH,aH,aH,aH,aH,aH,aH,aH,aH,aH,aH,aH,aH,aH,aH,aH,aH,aH,aH,aH,aH,aH],[]⟩ [.code YV]) cs) w:=by
 have E:=kr w;simp only[YV,Tryz.f50,fH];refine ou.go (n:=20) ?_;u_c cE at_rl E;u_reg at_rl E;refine cL λI z=>?_;obtain⟨d,rfl⟩:=at_rl E z;refine ou.at ?_ d;clear E z;refine ou.qJ (v:=aG (M ⟨w.heap.size,0,Z⟩)) (w':=w.alloc _) rfl rfl (by k_ne) (λd=>(afE rfl rfl).1) aC (λd=>IQ (afE rfl rfl).2) ?_;obtain⟨w1,aa⟩:∃w1,w1=w.alloc (aL (cfg inbox batcher t0 t1 t2 t3 t4) 24):=⟨_,rfl⟩
 have s1:w1.heap.size=w.heap.size+1:=by rw[aa];simp
 rw[<-aa];walk_nrm;have E:=kr w1;refine ou.go (n:=20) ?_;u_op at_rl E;u_c bA at_rl E;u_c cE at_rl E;u_reg at_rl E
 iterate 2 u_op at_rl E
 refine cL λI z=>?_;obtain⟨d,rfl⟩:=at_rl E z;refine ou.at ?_ d;clear E z;refine ou.qJ (v:=aM (M ⟨w1.heap.size,0,Z⟩) n n) (w':=w1.alloc _) rfl rfl (by k_ne) (λd=>(afx hn rfl rfl).1) aC (λd=>IQ (afx hn rfl rfl).2) ?_;obtain⟨w2,Y⟩:∃w2,w2=w1.alloc (aL (madeCells #[aM Z 0 0] n) 106):=⟨_,rfl⟩
 have s2:w2.heap.size=w.heap.size+2:=by rw[Y];simp[s1]
 rw[<-Y,s1];walk_nrm;refine ou.qJ (v:=aG (M ⟨w2.heap.size,0,Z⟩)) (w':=w2.alloc _) rfl rfl (by k_ne) (λd=>(afk rfl).1) aC (λd=>IQ (afk rfl).2) ?_;obtain⟨w3,J⟩:∃w3,w3=w2.alloc (aL #[aM Z 0 0] 104):=⟨_,rfl⟩
 have s3:w3.heap.size=w.heap.size+3:=by rw[J];simp[s2]
 have b3:w3.heap[w.heap.size+2]? =M (aL #[aM Z 0 0] 104):=by rw[J,<-s2];exact cY _ _
 rw[<-J,s2];walk_nrm
 refine ou.agU (w':=w3.setCell _ _) rfl rfl (by k_ne) (λd=>(abH (w:=w3.at d) b3 rfl rfl rfl).1) (jq (kE w3 _ _).2.2.2.symm)
  (λd e he=>by
   rw[(abH (w:=w3.at d) b3 rfl rfl rfl).2 e he];refine evL_cell _ _ (λ⟨a,e,h⟩=>?_) ?_
   .grind
   .rw[(kE w3 _ _).2.2.2,s3]
    show w.heap.size+2<_
    omega) ?_
 obtain⟨w4,R⟩:∃w4,w4=w3.setCell ⟨w.heap.size+2,0,Z⟩ (aM (M ⟨w.heap.size+1,0,Z⟩) n n):=⟨_,rfl⟩
 have s4:w4.heap.size=w.heap.size+3:=by rw[R,(kE w3 _ _).2.2.2,s3]
 rw[<-R];walk_nrm
 show qK _ _ _ w4.heap.size _ _
 rw[s4];have E:=kr w4;refine qK.go (n:=20) ?_;u_c bA at_rl E;u_c cE at_rl E;u_reg at_rl E;refine cL λI z=>?_;obtain⟨d,rfl⟩:=at_rl E z;refine qK.at ?_ d;clear E z;refine qK.ahd (v:=aG (M ⟨w4.heap.size,0,Z⟩)) (w':=w4.alloc _) rfl rfl (by k_ne) (λd=>(afB rfl).1) (λd=>(afB rfl).2) ?_;obtain⟨w5,ae⟩:∃w5,w5=w4.alloc (aL #[N pw 0,N dT 0] 150):=⟨_,rfl⟩
 rw[<-ae,s4];walk_nrm;have E:=kr w5;refine qK.go (n:=20) ?_;u_c bA at_rl E;u_c cE at_rl E;refine cL λI z=>?_;obtain⟨d,rfl⟩:=at_rl E z;refine qK.at ?_ d;have e5:w5=mF w (cfg inbox batcher t0 t1 t2 t3 t4) n:=by rw[ae,R,J,Y,aa];rfl
 rw[e5];have:=λT h0 h1 h2 h3 h4=>ac T h0 h1 h2 h3 h4;simp only[Yc,xq,Tryz.f50]at this;refine this _ ?_ ?_ ?_ ?_ ?_
 all_goals simp
end
end
section
variable {b C i:Nat}{T:Array aD}{b₀:cT}{a₀:Act}{ops:Array km}{rest:List Nat}{k:List pB}
section
variable {w:X}{c:Array aD}{n:Nat}
def Lp:(mF w c n).heap.size=w.heap.size+4:=by unfold mF;simp
def Iu:(mF w c n).tape=w.tape/\(mF w c n).os=w.os/\(mF w c n).output=w.output:=by unfold mF;obtain⟨z,h2,h3,_⟩:=kE (((w.alloc (aL c 24)).alloc (aL (madeCells #[aM Z 0 0] n) 106)).alloc (aL #[aM Z 0 0] 104)) ⟨w.heap.size+2,0,Z⟩ (aM (M ⟨w.heap.size+1,0,Z⟩) n n);exact⟨z,h2,h3⟩
def alloc_old(w:X)(o:Obj)(h:b<w.heap.size):(w.alloc o).heap[b]? =w.heap[b]?:=by
 show(w.heap.push o)[b]? =w.heap[b]?
 grind
def uI(h:b<w.heap.size+3)(z:b≠w.heap.size+2):(mF w c n).heap[b]? =((w.alloc (aL c 24)).alloc (aL (madeCells #[aM Z 0 0] n) 106)).heap[b]?:=by unfold mF;rw[alloc_old _ _ (by rw[(kE _ _ _).2.2.2];simp;omega),kL (show b≠w.heap.size+2 from z),alloc_old _ _ aF]
def NI(h:b<w.heap.size):(mF w c n).heap[b]? =w.heap[b]?:=by rw[uI aA aA,alloc_old _ _ aF,alloc_old _ _ h]
def Yq:(mF w c n).heap[w.heap.size]? =M (aL c 24):=by rw[uI aA aA,alloc_old _ _ aC];exact cY _ _
def Yb:(mF w c n).heap[w.heap.size+1]? =M (aL (madeCells #[aM Z 0 0] n) 106):=by rw[uI aA aA];have:=cY (w.alloc (aL c 24)) (aL (madeCells #[aM Z 0 0] n) 106);simpa only[fB]using this
def WM:(mF w c n).heap[w.heap.size+2]? =M (aL #[aM (M ⟨w.heap.size+1,0,Z⟩) n n] 104):=by unfold mF;rw[alloc_old _ _ aC];refine RV (u:=aM Z 0 0) ?_;have:=cY ((w.alloc (aL c 24)).alloc (aL (madeCells #[aM Z 0 0] n) 106)) (aL #[aM Z 0 0] 104);simpa only[fB]using this
def Xm:(mF w c n).heap[w.heap.size+3]? =M (aL #[N pw 0,N dT 0] 150):=by unfold mF;have:=cY ((((w.alloc (aL c 24)).alloc (aL (madeCells #[aM Z 0 0] n) 106)).alloc (aL #[aM Z 0 0] 104)).setCell ⟨w.heap.size+2,0,Z⟩ (aM (M ⟨w.heap.size+1,0,Z⟩) n n)) (aL #[N pw 0,N dT 0] 150);rw[(kE _ _ _).2.2.2]at this;simpa only[fB]using this
end
structure Found(w:X)(n:Nat)(fs:Nat->List Fr.F)(w':X):Prop where
 old:∀b,b<w.heap.size->w'.heap[b]? =w.heap[b]?
 still:w'.tape=w.tape/\w'.os=w.os/\w'.output=w.output
 size:w.heap.size+4<=w'.heap.size
 rows:∃vs:Array aD,w'.heap[w.heap.size+1]? =M (aL vs 106)/\vs.size=n/\∀i,i<n->∃v,vs[i]? =M v/\qY (λb=>w.heap.size+4<=b) w' v (fs i)
 wg:∃c t,c≠#[]/\w'.heap[w.heap.size+3]? =M (aL c t (0,0))
section
variable {Post:aD->X->Prop}{Dead:Nat->Prop}{w w':X}{tx:Option fR}{n cap tb q0:Nat}{cs:List cT}{inbox batcher t0 t1 t2 t3 t4:Int}{fr ad:Nat->Int}{data:Nat->ByteArray}{fs:Nat->List Fr.F}
def Jr{bf:Nat}(hT:T.size=24)(t5:T[5]? =M (aG (M ⟨bf,0,Z⟩)))(R:w.heap[bf]? =M (aL #[aM (M ⟨C,0,Z⟩) n n] 104))(Y:¬Dead bf)(I:ou U Post Dead (G (b₀.at (a₀.put ((ops[i]?).bind (·.dst)) (aM (M ⟨C,0,Z⟩) n n)) (bR ops rest::k)) cs) w):ou U Post Dead (G (bS.at ⟨T,[]⟩ (bR ops9 []::[.code tail9])) (b₀.at a₀ (bR ops (i::rest)::k)::cs)) w:=by
 obtain⟨v0,v1,v2,v3,v4,v5,v6,v7,v8,v9,ac,ao,af,aa,am,ag,ak,an,ap,ai,ah,ae,aj,aq,rfl⟩:=AB T hT;simp only[eX,eU,dX,aK]at t5;subst t5;have E:=kr w;simp only[tail9,xq,Tryz.f50];refine ou.go (n:=20) ?_;u_c bA at_rl E;u_c cE at_rl E;u_reg at_rl E;refine cL λJ z=>?_;obtain⟨d,rfl⟩:=at_rl E z;refine ou.at ?_ d;clear E z;refine ou.qJ (v:=.slice _ n n) (w':=w) rfl rfl (by k_ne) (λd=>(abI (w:=w.at d) R rfl rfl).1) jB (λd e he=>?_) ?_
 .rw[(abI (w:=w.at d) R rfl rfl).2 e he];refine evL_cell _ _ (λ⟨a,e,h⟩=>?_) (jE R);cases e;exact Y h
 walk_nrm;have E:=kr w;refine ou.go (n:=20) ?_;u_op at_rl E;u_c bA at_rl E;u_c stepG_ret' at_rl E;u_in at_rl E;refine goes_leave1 rfl rfl Tryz.func50 rfl ⟨by u_nil,?_⟩;refine cL λJ z=>?_;obtain⟨d,rfl⟩:=at_rl E z;exact I.at d
def SF.at{OB:Nat->Prop}{W:X}{Wg:Nat}{K:kC}(h:SF OB W Wg C n K w)(d:Nat):SF OB W Wg C n K (w.at d):=
 ⟨h.sub,h.old,h.kw,h.ko,h.pay,h.hC,h.hG,h.glob,h.new,h.siz,h.still,h.low⟩
def OC(X1:Nat)(Dead:Nat->Prop)(b:Nat):Prop:=b<X1+3/\b≠X1+1/\¬Dead b
def NJ(rd:ReadW)(hn:n<=16777216)(hD:∀b,Dead b->b<w.heap.size)(aw:Tryz.prog.globals.size<=w.heap.size)(hx:Xh (λb=>b<w.heap.size/\¬Dead b) w tx tb q0 n fr ad data)(a1:∀j,j<n->fs j=Fr.mg inbox batcher (fr j) (ad j) (data j).data.toList)(I:∀w',Found w n fs w'->ou U Post (λb=>Dead b\/b=w.heap.size+3) (G (b₀.at (a₀.put ((ops[i]?).bind (·.dst)) (aM (M ⟨w.heap.size+1,0,Z⟩) n n)) (bR ops rest::k)) cs) w')(hT:T.size=24)(ay:T[1]? =M (.slice tx n cap))(ah:T[2]? =M (aG (M ⟨w.heap.size,0,Z⟩)))(ag:T[5]? =M (aG (M ⟨w.heap.size+2,0,Z⟩)))(aj:T[6]? =M (aG (M ⟨w.heap.size+3,0,Z⟩))):qK U Post Dead (w.heap.size+3) (G (bS.at ⟨T,[]⟩ [.code Yc,.code xq]) (b₀.at a₀ (bR ops (i::rest)::k)::cs)) (mF w (cfg inbox batcher t0 t1 t2 t3 t4) n):=by
 intro d gs sl t q h0 hL hP;obtain⟨X1,R⟩:∃X1,w.heap.size=X1:=⟨_,rfl⟩
 obtain⟨W,hW⟩:∃W,mF w (cfg inbox batcher t0 t1 t2 t3 t4) n=W:=⟨_,rfl⟩
 have sW:W.heap.size=X1+4:=by rw[<-hW,Lp,R]
 have oW:∀b,b<X1->W.heap[b]? =w.heap[b]?:=λb z=>by rw[<-hW];exact NI aA
 have cW:W.heap[X1]? =M (aL (cfg inbox batcher t0 t1 t2 t3 t4) 24):=by rw[<-hW,<-R];exact Yq
 have pW:W.heap[X1+1]? =M (aL (madeCells #[aM Z 0 0] n) 106):=by rw[<-hW,<-R];exact Yb
 have fW:W.heap[X1+2]? =M (aL #[aM (M ⟨X1+1,0,Z⟩) n n] 104):=by rw[<-hW,<-R];exact WM
 have wW:W.heap[X1+3]? =M (aL #[N pw 0,N dT 0] 150):=by rw[<-hW,<-R];exact Xm
 have af:W.tape=w.tape/\W.os=w.os/\W.output=w.output:=by rw[<-hW];exact Iu
 rw[hW];rw[R]at hP ah ag aj aw I;have J:∀b,Dead b->b<X1:=λb z=>by grind
 have aa:PayAt (X1+1) n (W.at d):=⟨_,pW,size_madeCells _ _⟩
 have au:SF (OC X1 Dead) W (X1+3) (X1+1) n ⟨OC X1 Dead,λ_=>False⟩ (W.at d):=by
  refine⟨λ_ h=>h,λ_ _=>rfl,λ_ h=>h.elim,λb z=>⟨?_,?_,z.2.1⟩,aa,?_,?_,?_,λ_ h=>bN h,jB,⟨rfl,rfl,rfl⟩,λ_ _ _ _=>rfl⟩
  all_goals (try show _<W.heap.size);(try show _<=W.heap.size)
  .have:=z.1;omega
  .have:=z.1;omega
  .omega
  .omega
  .grind
 have E:∀(j:Nat)(v:aD),w.cell? ⟨tb,j,Z⟩=M v->tb<X1->W.cell? ⟨tb,j,Z⟩=M v:=λj v h z=>by rw[<-h];exact cell_of_block (oW tb z) j
 have hX:Xh (OC X1 Dead) W tx tb q0 n fr ad data:=by
  refine⟨λh=>let ⟨h1,h2,h3⟩:=hx.at_ h;⟨h1,aA,aA,h3⟩,λj hj=>?_,hx.size⟩;obtain⟨_,z,_⟩:=hx.at_ aA;obtain⟨c1,c2,c3⟩:=hx.cell j hj;exact⟨E _ _ c1 aA,E _ _ c2 aA,E _ _ c3 aA⟩
 have a4:=UN (OB:=OC X1 Dead) (W:=W) (Wg:=X1+3) (C:=X1+1) (bc:=X1) (bf:=X1+2) (cap:=cap) (cs:=b₀.at a₀ (bR ops (i::rest)::k)::cs) rd aA aA ⟨aA,aA,λh=>by have:=J _ h;omega⟩ ⟨aA,aA,λh=>by have:=J _ h;omega⟩ cW fW hX a1 hT ay ah ag aj
  ⟨au,0,0,(show W.heap[X1+3]? =_ from wW)⟩ (λ_ h=>h)
 obtain⟨Np,a0,a',w',a6,t',q',K,hr,a7,ao,a3,a5,ae,⟨cs',Y,aq⟩,ai⟩:=phase (P:=U) (S:=mJ (X1+3) (X1+1) n) (Shun:=YJ Dead) (B:=X1+3) (Fin:=acO (OC X1 Dead) W (X1+3) (X1+1) n (X1+2) (b₀.at a₀ (bR ops (i::rest)::k)::cs)) (AnchW:=AnchS (OC X1 Dead) W (X1+3) (X1+1) n (X1+2) (b₀.at a₀ (bR ops (i::rest)::k)::cs))
  (Jf X1 (X1+2) W fs) (show n<2147483648 by omega) (λK g w h=>by obtain⟨_,_,_,rfl,_⟩:=h;rfl) (λK g w h=>by obtain⟨_,_,_,_,rfl,_⟩:=h;rfl)
  (Qr aA) (λK g w d h=>let ⟨T,h1,h2,h3,h4⟩:=h;⟨T,h1,h2,h3,h4.at d⟩) (sl:=sl) (w:=W.at d) h0 hL hP (K0:=⟨OC X1 Dead,λ_=>False⟩) (λ_ h=>h.elim)
  (λb z=>⟨by show b<W.heap.size;have:=z.1;omega,by show b≠X1+3;have:=z.1;omega,z.2.1,λl hl=>by rintro⟨a,rfl,h⟩;cases hl;exact z.2.2 h⟩)
  (by show X1+3<W.heap.size;omega) (by show X1+1<W.heap.size;omega) aC jB (cF λi ⟨a,e,h⟩=>by grind) (λ_ h=>h.elim) (show X1+1-1<=X1+3 by omega) (show X1+1-1<=X1+1 by omega)
  (show W.heap[X1+3]? =_ from wW) aa a4
 obtain⟨T',a2,ar,rfl,hS⟩:=ao;refine xM.after hr ?_;have az:=(hS.old _ ⟨aA,aA,λh=>by have:=J _ h;omega⟩).trans fW;have a8:=(hS.old X1 ⟨aA,aA,λh=>by have:=J _ h;omega⟩).trans cW
 have ac:Found w n fs w':=by
  refine⟨λb z=>?_,⟨hS.still.1.trans af.1,hS.still.2.1.trans af.2.1,hS.still.2.2.trans af.2.2⟩,?_,⟨cs',?_,aq,λi hi=>?_⟩,?_⟩
  .rw[R]at z;exact(hS.low b aA aA aA).trans (oW b z)
  .have:=hS.siz;omega
  .rw[R];exact Y
  .obtain⟨v,O,hh,ap,hO⟩:=ae i hi;refine⟨v,?_,?_⟩
   .have an:w'.cell? ⟨X1+1,i,Z⟩=M v:=hh;simp only[eQ,Y]at an;exact an
   .obtain h|⟨g,ak,av,h1,h2,h3,h4⟩:=ap
    .exact bN h
    .refine cF ⟨g,ak,av,h1,?_,h3,h4⟩
     grind
  .rw[R];exact⟨_,_,aC,ai⟩
 have am:=Jr (cs:=cs) (b₀:=b₀) (a₀:=a₀) (ops:=ops) (i:=i) (rest:=rest) (k:=k) a2 ar az (Dead:=λb=>Dead b\/b=X1+3) (λh=>h.elim (λh=>by have:=J _ h;omega) λh=>aA) (I w' ac);exact am _ a0 a6 t' q' a7 a3 (y8 a5 λl hl=>hl.elim (λ⟨a,e,h⟩=>⟨a,e,bN h⟩) λ⟨a,e,h⟩=>⟨a,e,cF h⟩)
def aeU(A B:aD):(#[A,B]++ms (24-(#[A,B]:Array aD).size) aH:Array aD)=#[A,B,aH,aH,aH,aH,aH,aH,aH,aH,aH,aH,aH,aH,aH,aH,aH,aH,aH,aH,aH,aH,aH,aH]:=by simp
def nmS:(Tryz.f50.name == "runtime.NumGoroutine")=aR:=rfl
def bdS:Tryz.f50.body=M YV:=rfl
def ntS:Tryz.f50.ntmps=24:=rfl
def zl(rd:ReadW){o:km}{x y:l8}{Y:Array cH}(ho:ops[i]? =M o)(hw:cS o (yielded ops a₀.tmps)=bB)(hk:b₀.kind≠.early)(I:o.op=.call { callee:=.value (.func 50),args:=#[x,y],argTypes:=Y })(ex:a₀.eval x=.agg (cfg inbox batcher t0 t1 t2 t3 t4))(ey:a₀.eval y=.slice tx n cap)(hn:n<=16777216)(hD:∀b,Dead b->b<w.heap.size)(R:Tryz.prog.globals.size<=w.heap.size)(hx:Xh (λb=>b<w.heap.size/\¬Dead b) w tx tb q0 n fr ad data)(J:∀j,j<n->fs j=Fr.mg inbox batcher (fr j) (ad j) (data j).data.toList)(z:∀w',Found w n fs w'->ou U Post (λb=>Dead b\/b=w.heap.size+3) (G (b₀.at (a₀.put o.dst (aM (M ⟨w.heap.size+1,0,Z⟩) n n)) (bR ops rest::k)) cs) w'):ou U Post Dead (G (b₀.at a₀ (bR ops (i::rest)::k)) cs) w:=by
 have hF:=kr w;refine ou.go (n:=1) ?_;u_in at_rl hF;refine goes_call ho hw hk I Tryz.func50 nmS bdS ⟨by u_nil,?_⟩;obtain⟨d,rfl⟩:=hF;refine cL λaa E=>?_;obtain⟨d',rfl⟩:=E;refine ou.at (ou.at ?_ d) d'
 have h:=Iy (Post:=Post) (cap:=cap) (tx:=tx) (cs:=b₀.at a₀ (bR ops (i::rest)::k)::cs) (inbox:=inbox) (batcher:=batcher) (t0:=t0) (t1:=t1) (t2:=t2) (t3:=t3) (t4:=t4) hn hD λT h0 h1 h2 h5 h6=>
  NJ rd hn hD R hx J (by rw[ho];exact z) h0 h1 h2 h5 h6
 have e:(#[x,y].map a₀.eval)=#[.agg (cfg inbox batcher t0 t1 t2 t3 t4),.slice tx n cap]:=by simp[ex,ey]
 rw[e,ntS,aeU];exact h
end
end
end Cr
namespace Po
open Go Go.Conc
open Cr (ou Found Xh qY cfg)
section
def pend:Obj->Obj
 |aL c t _=>.pending c t
 |o=>o
def behind(x w:X)(g:Nat):X:={ w with heap:=w.heap.mapIdx λi o=>(x.heap[i]?).getD (if i=g then pend o else if ghost o then .coro Z else o) }
section
variable {x y w:X}{g b:Nat}
def sS(hs:x.heap.size<=w.heap.size)(h:b<x.heap.size):(behind x w g).heap[b]? =x.heap[b]?:=by
 show(w.heap.mapIdx _)[b]? =_
 grind
def ql(h:x.heap.size<=b):(behind x w g).heap[b]? =(w.heap[b]?).map λo=>if b=g then pend o else if ghost o then .coro Z else o:=by
 show(w.heap.mapIdx _)[b]? =_
 grind
def Ul{e J:Env}(hw:WP e x y)(hC:∀c,e.C c->J.C c)(hold:∀b,b<y.heap.size->w.heap[b]? =y.heap[b]?)(hs:y.heap.size<=w.heap.size)(hg:y.heap.size<=g){c:Array aD}{t:cH}(hc:c≠#[])(z:w.heap[g]? =M (aL c t (0,0)))
  (R:∀b,J.D b↔e.D b\/b=g\/y.heap.size<=b/\∃o,w.heap[b]? =M o/\ghost o=bB):WP J (behind x w g) w where
 os:=rfl
 output:=rfl
 size:=by simp[behind]
 out b E:=by
  have Y:=hw.size;rw[R]at E;obtain h|h:=gG b x.heap.size
  .rw[sS aA h,hold b aA,hw.out b λk=>E (bN k)]
  .rw[ql h]
   grind
 inn b E:=by
  have Y:=hw.size;rw[R]at E;obtain E|rfl|⟨h1,o,h2,h3⟩:=E
  .have hl:b<x.heap.size:=by
    rcases hw.inn b E with⟨_,_,_,h,_⟩|⟨_,_,h,_⟩<;>exact(jE h)
   rw[sS aA hl,hold b aA];exact hw.inn b E
  .exact bN ⟨c,t,z,by rw[ql aA,z];simp[pend],hc⟩
  .by_cases k:b=g
   .subst k;rw[z]at h2;cases h2;cases h3
   .exact cF ⟨o,h2,by rw[ql aA,h2];simp[k,h3],h3⟩
 objs b o h:=by
  have Y:=hw.size;obtain k|k:=gG b x.heap.size
  .rw[sS aA k]at h;have:=hw.objs b o h;cases o with
   |loop l=>exact⟨hC _ this.1,hC _ this.2.1,λc k=>hC _ (this.2.2 c k)⟩
   |deferred ds=>cases ds<;>exact this
   |_=>trivial
  .rw[ql k]at h;cases I:w.heap[b]? with
   |none=>rw[I]at h;cases h
   |some u=>
    rw[I]at h;simp only[cO,aK]at h;subst h;refine zG ?_;by_cases k1:b=g
    .subst k1;rw[z]at I;cases I;simp[pend,ghost]
    .rw[Zs k1];split
     .rfl
     grind
end
structure BO(x:X)(n:Nat)(fs:Nat->List Fr.F)(x':X):Prop where
 old:∀b,b<x.heap.size->x'.heap[b]? =x.heap[b]?
 still:x'.os=x.os/\x'.output=x.output
 size:x.heap.size+4<=x'.heap.size
 rows:∃vs:Array aD,x'.heap[x.heap.size+1]? =M (aL vs 106)/\vs.size=n/\∀i,i<n->∃v,vs[i]? =M v/\qY (λb=>x.heap.size+4<=b) x' v (fs i)
section
variable {D:Nat->Prop}{Post:vU}{XX A:List cT}{x:X}{b:cT}{a:Act}{k:List pB}{tx:Option fR}{n cap tb q0:Nat}{inbox batcher t0 t1 t2 t3 t4:Int}{fr ad:Nat->Int}{data:Nat->ByteArray}{fs:Nat->List Fr.F}
def uY{e:Env}{y:X}(hw:WP e x y){c:fR}{v:aD}(h:x.cell? c=M v):¬e.D c.block/\c.block<x.heap.size/\y.cell? c=M v:=by
 have hd:¬e.D c.block:=λhd=>by
  rcases hw.inn _ hd with⟨_,_,_,k,_⟩|⟨_,_,k,_⟩<;>simp[eQ,k]at h
 refine⟨hd,?_,by rw[<-h];simp only[eQ,hw.out _ hd]⟩;cases k:x.heap[c.block]? with
 |none=>simp[eQ,k]at h
 |some o=>grind
def Wk.frames(rd:Cr.ReadW){ops:Array km}{i:Nat}{rest:List Nat}{o:km}{p q:l8}{aj:Array cH}(ho:ops[i]? =M o)(hw:cS o (yielded ops a.tmps)=bB)(ac:o.op=.call { callee:=.value (.func 50),args:=#[p,q],argTypes:=aj })(ep:a.eval p=.agg (cfg inbox batcher t0 t1 t2 t3 t4))(eq:a.eval q=.slice tx n cap)(hn:n<=16777216)(ai:Tryz.prog.globals.size<=x.heap.size)(hx:Xh (λ_=>True) x tx tb q0 n fr ad data)(af:∀j,j<n->fs j=Fr.mg inbox batcher (fr j) (ad j) (data j).data.toList)(Y:∀D' x',BO x n fs x'->Wk (qe Tryz.prog.funcs D') Post XX (b.at (a.put o.dst (aM (M ⟨x.heap.size+1,0,Z⟩) n n)) (bR ops rest::k)) A x'):Wk (qe Tryz.prog.funcs D) Post XX (b.at a (bR ops (i::rest)::k)) A x:=by
 intro E y z I;have hz:=z.size
 rewrite [abp]
 refine Cr.zl (n:=n) (w:=y) (Dead:=D) (cs:=A++XX) rd ho hw (λh=>by have:=E.1.kind;rw[show(b.at a _).kind=b.kind from rfl,h]at this;cases this) ac ep eq hn (λc hc=>?_) (by rw[hz];exact ai) (tb:=tb) (q0:=q0) (fr:=fr) (ad:=ad) (data:=data) (fs:=fs) ⟨λh=>?_,λj hj=>?_,hx.size⟩ af λw' R=>?_
 .rcases z.inn c hc with⟨_,_,h,_⟩|⟨_,h,_⟩<;>exact(jE h)
 .have h1:=uY z (hx.cell 0 h).1;exact⟨(hx.at_ h).1,by rw[hz];exact h1.2.1,h1.1⟩
 .obtain⟨c1,c2,c3⟩:=hx.cell j hj;exact⟨(uY z c1).2.2,(uY z c2).2.2,(uY z c3).2.2⟩
 .obtain⟨c,t,hc,ah⟩:=R.wg;have hs:=R.size
  let D':Nat->Prop:=λb=>D b\/b=y.heap.size+3\/y.heap.size<=b/\∃o,w'.heap[b]? =M o/\ghost o=bB
  have aa:WP (qe Tryz.prog.funcs D') (behind x w' (y.heap.size+3)) w':=Ul z (λ_ h=>h) R.old aA aA hc ah λb=>Iff.rfl
  have keep:∀{b:Nat}{o:Obj},y.heap.size<=b->b≠y.heap.size+3->w'.heap[b]? =M o->ghost o=aR->(behind x w' (y.heap.size+3)).heap[b]? =M o:=λh1 h2 h3 h4=>by
   rw[ql aA,h3];simp[h2,h4]
  have hP:BO x n fs (behind x w' (y.heap.size+3)):=by
   refine⟨λb h=>sS aA h,⟨R.still.2.1.trans z.os,R.still.2.2.trans z.output⟩,by simp only[behind,Array.size_mapIdx];omega,?_⟩;obtain⟨vs,h1,h2,h3⟩:=R.rows;refine⟨vs,by rw[<-hz];exact keep aA aA h1 rfl,h2,λi hi=>?_⟩;obtain⟨v,g1,g2⟩:=h3 i hi;refine⟨v,g1,g2.imp id λ⟨g,cap,ag,r1,r2,r3,r4⟩=>⟨g,cap,ag,r1,by rw[<-hz];exact r2,keep aA aA r3 rfl,r4⟩⟩
  have hk:=Y D' _ hP ⟨⟨λit ae=>?_,?_,E.1.kind⟩,λf hf=>⟨(E.2 f hf).todo,(E.2 f hf).defers,(E.2 f hf).kind⟩⟩ w' aa ⟨λb J=>⟨bN (I.dead b J).1,(R.old b ?lt).trans (I.dead b J).2⟩,λb J hl=>?old,?size,R.still.2.1.trans I.os,R.still.2.2.trans I.output⟩
  case lt=>rcases z.inn b (I.dead b J).1 with⟨_,_,h,_⟩|⟨_,h,_⟩<;>exact(jE h)
  case old=>
   have:=I.size;obtain J|J|J:=J
   .exact I.old b J hl
   .omega
   .omega
  case size=>have:=I.size;omega
  .rewrite [abp]at hk
   rw[<-hz]at hk;exact hk.dead λb h=>h.elim bN λh=>cF (bN h)
  .obtain rfl|h:=dD.1 ae
   .exact E.1.todo (bR ops (i::rest)) (.head _)
   .exact E.1.todo _ (.tail _ h)
  .intro d hd;refine E.1.defers d ?_;have:(a.put o.dst (aM (M ⟨x.heap.size+1,0,Z⟩) n n)).defers=a.defers:=by cases o.dst<;>rfl
   have hd:d∈(a.put o.dst (aM (M ⟨x.heap.size+1,0,Z⟩) n n)).defers:=hd;rw[this]at hd;exact hd
end
end
section
variable {fn:Func}{c d:eN}{ops:Array km}{i id:Nat}{rest:List Nat}
abbrev Wq(D:Nat->Prop)(Post:vU)(XX:List cT)(fr:cT)(A:List cT)(x:X):Prop:=Wk (qe Tryz.prog.funcs D) Post XX fr A x
section
variable {D:Nat->Prop}{Post:vU}{XX A:List cT}{fr:cT}{x:X}{b:cT}{a:Act}{k:List pB}
def abx{P:Program}{G:Array Func}{D:Nat->Prop}{k:Nat}(h:P.funcs[k]? =M fn):(ER P G D).F[k]? =M fn:=h
def Wq.piece{Q:Act->X->Prop}(h:∀t d,c.wp PQ (λz a' w'=>z=.normal/\Q a' w') a (on x t d))(J:∀a' x',Q a' x'->Wq D Post XX (b.at a' k) A x'):Wq D Post XX (b.at a (.code c::k)) A x:=by
 refine Wk.code (fits D) ?_
 rewrite [Fj]
 exact λt d=>wp_mono (h t d) λz a' w' ⟨I,E⟩=>by subst I;exact J a' w' E
def Wq.code(h:∀t d,c.wp PQ (Cont (qe Tryz.prog.funcs D) Post XX A b k) a (on x t d)):Wq D Post XX (b.at a (.code c::k)) A x:=by
 refine Wk.code (fits D) ?_
 rewrite [Fj]
 exact h
def Wq.op(h:∀t d,wpOp PQ ops (λ_ _ _=>False) i (λa' w'=>Wq D Post XX (b.at a' (bR ops rest::k)) A w') a (on x t d)):Wq D Post XX (b.at a (bR ops (i::rest)::k)) A x:=by
 refine Wk.op (fits D) ?_
 rewrite [Fj]
 exact h
def Wq.draw(h:∀t,Wq D Post XX (b.at a (bR ops (Region.schedule (PQ.follows .mixedOrders) ops t)::k)) A x):Wq D Post XX (b.at a (.code (.region id ops bB)::k)) A x:=by
 refine Wk.draw (fits D) ?_
 rewrite [Fj]
 exact h
def Wq.call{o:km}{f:FuncId}{args:Array l8}{I:Array cH}(ho:ops[i]? =M o)(hw:cS o (yielded ops a.tmps)=bB)(E:o.op=.call { callee:=.value (.func f),args,argTypes:=I })(R:PQ.funcs[f]? =M fn)(z:(fn.name == "runtime.NumGoroutine")=aR)(Y:fn.body=M c)(h:Wq D Post XX ((base f).at { tmps:=args.map a.eval++ms (fn.ntmps-(args.map a.eval).size) aH,defers:=[] } [.code c]) (b.at a (bR ops (i::rest)::k)::A) x):Wq D Post XX (b.at a (bR ops (i::rest)::k)) A x:=by
 refine Wk.call (fits D) ho hw ?_
 rewrite [Fj]
 intro t d;refine⟨f,args.map a.eval,on x t d,?_,?_⟩
 .exact run_call_body E R z (by rw[Y];rfl)
 .have J:Frame.enter PQ f (args.map a.eval) .normal=(base f).at { tmps:=args.map a.eval++ms (fn.ntmps-(args.map a.eval).size) aH,defers:=[] } [.code c]:=by
   simp[Frame.enter,Frame.at,R,Y,base]
  rw[J];exact h.Ee t d
def Wq.leave{c:cT}{v:aD}(z:fr.mode=j9)(hd:fr.defers=[])(hk:fr.kind=.normal)(E:PQ.funcs[fr.fn]? =M fn)(I:∀w,(results fn fr.tmps).run PQ w=.ok v w)(h:Wq D Post XX (c.finish v) A x):Wq D Post XX fr (c::A) x:=by
 refine Wk.leave (fits D) z hd hk (abx E) ?_ h
 rewrite [Fj]
 exact λt d=>I _
def Wq.seq(h:Wq D Post XX (b.at a (.code c::.code d::k)) A x):Wq D Post XX (b.at a (.code (bL c d)::k)) A x:=Wk.seq (fits D) h
def Wq.cond{o:l8}{t:Bool}(hc:a.eval o=.bool t)(h:Wq D Post XX (b.at a (.code (if t then c else d)::k)) A x):Wq D Post XX (b.at a (.code (.cond o c d)::k)) A x:=Wk.cond (fits D) hc h
def Wq.region(h:Wq D Post XX (b.at a (bR ops (List.range ops.size)::k)) A x):Wq D Post XX (b.at a (.code (.region id ops aR)::k)) A x:=Wk.region (fits D) h
def Wq.done(h:Wq D Post XX (b.at a k) A x):Wq D Post XX (b.at a (bR ops []::k)) A x:=Wk.done (fits D) h
def Wq.ret(h:∀todo,Wq D Post XX { b.at a todo with mode:=j9 } A x):Wq D Post XX (b.at a (.code .ret::k)) A x:=Wk.ret (fits D) h
def Wq.fin(h:∀todo,Wq D Post XX { b.at a todo with mode:=j9 } A x):Wq D Post XX (b.at a []) A x:=Wk.fin (fits D) h
end
end
section
variable {ds:List Deferred}
section
variable {D:Nat->Prop}{Post:vU}{XX A:List cT}{fr:cT}{x:X}
def Wk.takes{e:Env}(F:Fits e){b:Nat}(z:fr.mode=j9)(hd:fr.defers={ target:=.collected b,args:=#[] }::ds)(hk:x.heap[b]? =M (eA (M [])))(h:Wk e Post XX { fr with defers:=ds } A (x.putObj b (eA Z))):Wk e Post XX fr A x:=
 .one F.fit λt d=>by
  refine⟨_,A,_,?_,h.Ee t d⟩;have E:=run_takeDeferred (P:=e.P) (w:=on x t d) (b:=b) (ds:=[]) hk;simp[stepG,unwind,z,hd,E];rfl
def Wq.takes{b:Nat}(z:fr.mode=j9)(hd:fr.defers={ target:=.collected b,args:=#[] }::ds)(hk:x.heap[b]? =M (eA (M [])))(h:Wq D Post XX { fr with defers:=ds } A (x.putObj b (eA Z))):Wq D Post XX fr A x:=Wk.takes (fits D) z hd hk h
end
end
open Cr (Fill fills Ec)
section
variable {id:Nat}{c:eN}{v:aD}
section
variable {D:Nat->Prop}{Post:vU}{XX A:List cT}{fr:cT}{x y:X}{b:cT}{a:Act}{k:List pB}{ops:Array km}{i:Nat}{rest:List Nat}{o:km}
def Wq.same(h:∀t d,on x t d=on y t d)(hk:Wq D Post XX fr A y):Wq D Post XX fr A x:=Wk.acf (t:=y.tape) (d:=y.drawn) (by rw[h];exact hk.Ee _ _)
def Wq.skip(h:Wq D Post XX (b.at a k) A x):Wq D Post XX (b.at a (.code .skip::k)) A x:=Wk.skip (fits D) h
def Wq.block(h:Wq D Post XX (b.at a (.code c::.inBlock id::k)) A x):Wq D Post XX (b.at a (.code (.block id c)::k)) A x:=Wk.block (fits D) h
def Wq.inBlock(h:Wq D Post XX (b.at a k) A x):Wq D Post XX (b.at a (.inBlock id::k)) A x:=Wk.inBlock (fits D) h
def Wq.exit{k':List pB}(hk:exitTo id k=.some k')(h:Wq D Post XX (b.at a k') A x):Wq D Post XX (b.at a (.code (.exit id)::k)) A x:=Wk.exit (fits D) hk h
def Wq.loop(h:Wq D Post XX (b.at a (.code c::.inLoop c::k)) A x):Wq D Post XX (b.at a (.code (.loop c)::k)) A x:=Wk.ctl (fits D) (λ_=>step_loop) h
def Wq.inLoop(h:Wq D Post XX (b.at a (.code c::.inLoop c::k)) A x):Wq D Post XX (b.at a (.inLoop c::k)) A x:=Wk.ctl (fits D) (λ_=>step_inLoop) h
def Wq.val{x':X}(z:ops[i]? =.some o)(I:o.guard=Z)(E:∀t d,(bO a.eval o).run PQ (on x t d)=.ok (.value v) (on x' t d))(h:Wq D Post XX (b.at (a.put o.dst v) (bR ops rest::k)) A x'):Wq D Post XX (b.at a (bR ops (i::rest)::k)) A x:=by refine Wq.op λt d=>?_;unfold wpOp;rw[z];simp only[cS,I,if_true];refine bN ?_;unfold Oper.wp;rw[E t d];exact h.Ee t d
def Wq.qJ(op:Op)(dst:Option Tmp)(v:aD)(x':X)(z:(ops[i]?).map (λo=>(o.op,o.dst,o.guard))=.some (op,dst,Z))(I:∀t d (o:km),o.op=op->(bO a.eval o).run PQ (on x t d)=.ok (.value v) (on x' t d))(h:Wq D Post XX (b.at (a.put dst v) (bR ops rest::k)) A x'):Wq D Post XX (b.at a (bR ops (i::rest)::k)) A x:=by
 cases E:ops[i]? with
 |none=>rw[E]at z;cases z
 |some o=>
  rw[E]at z;simp only[cO,aK,dJ]at z;obtain⟨J,rfl,h3⟩:=z;exact Wq.val E h3 (λt d=>I t d o J) h
def Wq.walk(h:∀t d (Q:Exit->Act->X->Prop),(∀a' w',Wq D Post XX (b.at a' k) A w'->Q .normal a' w')->(∀a' w',(∀todo,Wq D Post XX { b.at a' todo with mode:=j9 } A w')->Q .ret a' w')->c.wp PQ Q a (on x t d)):Wq D Post XX (b.at a (.code c::k)) A x:=
 Wq.code λt d=>h t d _ (λ_ _ h=>h) (λ_ _ h=>h)
def Wq.fill{τ:Type}{aa:Nat}(V:τ->Nat->aD)(J:Array Bool->X->(Nat->Prop)->τ->Prop)(hf:fills a.tmps.size ops=bB)(done:∀l a' x' R z,(∀i,i<ops.size->l.getD i aR=bB)->Fill ops (V z) a l a'->J l x' R z->Wq R Post XX (b.at a' k) A x')(more:∀l a' x' R z i o rest,ops[i]? =.some o->l.getD i bB=aR->(∀j,Cr.waits ops i j=bB->l.getD j aR=bB)->Fill ops (V z) a l a'->J l x' R z->(∀E I Y,(∀j,l.getD j aR=bB->V Y j=V z j)->J (l.setIfInBounds i bB) E I Y->Wq I Post XX (b.at (a'.put o.dst (V Y i)) (bR ops rest::k)) A E)->Wq R Post XX (b.at a' (bR ops (i::rest)::k)) A x')(z:τ)(h:J (ms ops.size aR) x D z):Wq D Post XX (b.at a (.code (.region aa ops bB)::k)) A x:=
 Wq.draw λt=>Ec (σ:=X×(Nat->Prop)×τ) (λs=>V s.2.2) (λl s=>J l s.1 s.2.1 s.2.2) (λrest a s=>Wq s.2.1 Post XX (b.at a (bR ops rest::k)) A s.1) hf (λl a _ h1 h2 h3=>Wq.done (done l a _ _ _ h1 h2 h3)) (λl a _ i o rest h1 h2 h3 h4 h5 h6=>more l a _ _ _ i o rest h1 h2 h3 h4 h5 λx D z h7 h8=>h6 (x,D,z) h7 h8) _ t (x,D,z) h
def Wq.last{fn:Func}(z:fr.mode=j9)(hd:fr.defers=[])(hk:fr.kind=.normal)(E:Tryz.prog.funcs[fr.fn]? =.some fn)(R:Tryz.prog.inits.idxOf? fr.fn=Z)(J:∀w,(results fn fr.tmps).run U w=.ok v w)(I:∀w,(results fn fr.tmps).events U w #[]=#[])(hp:∀y,WP (qe Tryz.prog.funcs D) x y->Keep (qe Tryz.prog.funcs D) Post y->Post.post v y):Wq D Post [] fr [] x:=by refine Wk.last z hd hk E ?_ ?_ ?_ hp<;>rewrite [abp]<;>assumption
end
end
end Po
