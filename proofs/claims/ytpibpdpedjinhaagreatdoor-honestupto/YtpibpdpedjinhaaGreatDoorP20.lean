import Derived.Test.YtpibpdpedjinhaaGreatDoorP19
import Derived.Laws.MakeOwn
import Derived.OwnWalk
import Derived.Conc.Own4
set_option maxRecDepth 100000
set_option maxHeartbeats 4000000
set_option linter.all false
open Array renaming replicate->mi
open Bool renaming false->aL,true->bB
open Go renaming Addr->gF,Frame->cU,Goroutine->bO,Item->rR,Oper->lR,Operand->nL,TypeId->cH,Value->aD,World->U,execOp->bL,heap_alloc_new->cX,undef->aE
open Go.Conc renaming Goes->jj,atRel_refl->lm,mem_listed->jp,stepG_region_end->bA,stepG_seq->bR
open Go.Conc.Goes renaming stop->cI
open Go.FrameMode renaming returning->oc
open Go.Item renaming inRegion->cD
open Go.Obj renaming cells->aG,deferred->eM
open Go.Proofs.Tryz renaming prog->bE
open Go.Region renaming wanted->cT
open Go.Value renaming int->N,pointer->aM,slice->aR
open Go.World renaming cell?->fR
open Option renaming none->Z,some->M
namespace Go.Proofs.YtpibpdpedjinhaaGreatDoor
namespace Cr
open Go Go.Conc Go.ConcN Go.RowKit Go.Conc.Lib Go.ConcR.Gen Go.ConcN.Gen
open Go.ConcR (KK WgAt stA smA Payload DC0)
section
variable {tx:Option gF}
section
variable {OB:Nat->Prop}{W:U}{Wg C n cap bc bf tb q0:Nat}{cs:List cU}{inbox batcher t0 t1 t2 t3 t4:Int}{fr ad:Nat->Int}{data:Nat->ByteArray}{fs:Nat->List Fr.F}
structure XA(OB:Nat->Prop)(W:U)(tx:Option gF)(tb q0 n:Nat)(fr ad:Nat->Int)(data:Nat->ByteArray):Prop where
 at_:0<n->tx=M ⟨tb,q0,Z⟩/\OB tb
 cell:∀j,j<n->W.cell? ⟨tb,q0+j*3,Z⟩=M (N .u32 (fr j))/\W.cell? ⟨tb,q0+j*3+1,Z⟩=M (N .u32 (ad j))/\W.cell? ⟨tb,q0+j*3+2,Z⟩=M (.string (data j))
 size:∀j,j<n->(data j).size<=1048576
theorem Pm(rd:ReadW)(J:C≠Wg)(hn:n<9223372036854775808)(Y:OB bc)(I:OB bf)(ab:W.heap[bc]? =M (aG (cfg inbox batcher t0 t1 t2 t3 t4) 24))(ac:W.heap[bf]? =M (aG #[aR (M ⟨C,0,Z⟩) n n] 29))(hx:XA OB W tx tb q0 n fr ad data)(aa:∀j,j<n->fs j=Fr.mg inbox batcher (fr j) (ad j) (data j).data.toList):∀(r j:Nat),j+r=n->∀(K:jZ)(g:bO)(w:U),Ru tx n cap Wg bc bf j cs g->SF OB W Wg C n K w/\WgLive link.tWg Wg w->(∀b,¬K.W b)->qO bE (mP Wg C n) (AnchS OB W Wg C n bf cs) (leftB bc bf W fs) r K g w:=by
 intro r
 induction r with
 |zero=>
  intro j hj K g w hg hF _;obtain rfl:j=n:=aA
  exact TT tx hg hF
 |succ r ih=>
  intro j hj K g w hg hF hK
  obtain⟨St',E⟩:∃St':jZ->bO->U->Prop,qO bE (mP Wg C n) (AnchS OB W Wg C n bf cs) (leftB bc bf W fs) r=λK g w=>Way bE (mP Wg C n) St' K g w:=by
   cases r with
   |zero=>exact⟨_,rfl⟩
   |succ r=>exact⟨_,rfl⟩
  obtain⟨rfl,ae⟩:=hx.at_ aA;have q:j<n:=aA
  have h:=NI rd (St':=St') J q hn ae Y I ab ac (hx.cell j q) (aa j q) (hx.size j q) hg hF hK λK g w h1 h2 h3=>by
   have:=ih _ aA K g w h1 h2 h3;rw[E]at this;exact this
  show ∃T,jQ bE bB (mP Wg C n) Z (MV bE (mP Wg C n) (leftB bc bf W fs) (n-(r+1)) (qO bE (mP Wg C n) (AnchS OB W Wg C n bf cs) (leftB bc bf W fs) r)) T K g w
  rw[E,show n-(r+1)=j by omega];exact h
noncomputable def YF:Code:=match Tryz.f71.body with
 |some (.seq _ (.seq _ (.seq _ (.seq c _))))=>c
 |_=>.skip
theorem Ve(rd:ReadW)(Y:C≠Wg)(hn:n<9223372036854775808)(aa:OB bc)(J:OB bf)(ac:W.heap[bc]? =M (aG (cfg inbox batcher t0 t1 t2 t3 t4) 24))(ae:W.heap[bf]? =M (aG #[aR (M ⟨C,0,Z⟩) n n] 29))(hx:XA OB W tx tb q0 n fr ad data)(ab:∀j,j<n->fs j=Fr.mg inbox batcher (fr j) (ad j) (data j).data.toList){K:jZ}{w:U}{T:Array aD}(hT:T.size=24)(t1:T[1]? =M (.slice tx n cap))(t2:T[2]? =M (aM (M ⟨bc,0,Z⟩)))(t5:T[5]? =M (aM (M ⟨bf,0,Z⟩)))(t6:T[6]? =M (aM (M ⟨Wg,0,Z⟩)))(q:SF OB W Wg C n K w/\WgLive link.tWg Wg w)(hK:∀b,¬K.W b):qO bE (mP Wg C n) (AnchS OB W Wg C n bf cs) (leftB bc bf W fs) n K (G (bS.at ⟨T,[]⟩ [.code YF,.code yD]) cs) w:=by
 obtain⟨St',af⟩:∃St':jZ->bO->U->Prop,qO bE (mP Wg C n) (AnchS OB W Wg C n bf cs) (leftB bc bf W fs) n=λK g w=>Way bE (mP Wg C n) St' K g w:=by
  cases n with
  |zero=>exact⟨_,rfl⟩
  |succ r=>exact⟨_,rfl⟩
 have hl:=Pm (cap:=cap) (cs:=cs) rd Y hn aa J ac ae hx ab n 0 aA;rw[af]at hl⊢;obtain⟨v0,v1,v2,v3,v4,v5,v6,v7,v8,v9,ah,au,aj,ag,aq,ak,ap,ar,av,an,am,ai,ao,aw,rfl⟩:=Cj T hT;simp only[eX,eU,dX,aK]at t1 t2 t5 t6;subst t1 t2 t5 t6;simp only[YF,Tryz.f71];refine Way.go (n:=20) ?_;u_c bR kN q;u_reg kN q
 iterate 3 u_op kN q
 u_c bA kN q;u_c stepG_block kN q;u_c stepG_loop kN q;refine cI λI E=>?_;replace q:=kN q E;refine hl K _ I ⟨_,rfl,?_,?_,?_,?_,?_,?_,?_⟩ q hK
 all_goals simp
end
end
section
variable {n b:Nat}
section
variable {w:U}{a:Act}{o:lR}
theorem afs{inbox batcher t0 t1 t2 t3 t4:Int}(E:a.eval (.tmp 0)=.agg (cfg inbox batcher t0 t1 t2 t3 t4))(q:o.op=.box 24 (.tmp 0)):(bL a.eval o).run bE w=.ok (.value (aM (M ⟨w.heap.size,0,Z⟩))) (w.alloc (aG (cfg inbox batcher t0 t1 t2 t3 t4) 24))/\(bL a.eval o).events bE w #[]=#[]:=by
 constructor
 .unfold bL;simp only[q,E];simp[go_sem]
 .unfold bL;simp only[q,E];simp[go_sem]
theorem aff(q:o.op=.alloc 29):(bL a.eval o).run bE w=.ok (.value (aM (M ⟨w.heap.size,0,Z⟩))) (w.alloc (aG #[aR Z 0 0] 29))/\(bL a.eval o).events bE w #[]=#[]:=by
 constructor
 .unfold bL;simp only[q];simp[go_sem]
 .unfold bL;simp only[q];simp[go_sem]
theorem afp(q:o.op=.alloc 211):(bL a.eval o).run bE w=.ok (.value (aM (M ⟨w.heap.size,0,Z⟩))) (w.alloc (aG #[N .u64 0,N .u32 0] 211))/\(bL a.eval o).events bE w #[]=#[]:=by
 constructor
 .unfold bL;simp only[q];simp[go_sem]
 .unfold bL;simp only[q];simp[go_sem]
theorem ae5:(Tryz.prog.info? 76).map (λi=>(i.zero,i.size,i.bytes))=M (M (aR Z 0 0),1,24):=XN
theorem afg:Tryz.prog.underlying 29=M (.slice 76):=XN
theorem afm(hn:n<=16777216)(h:a.eval (.tmp 10)=N .i64 n)(J:o.op=.makeSlice 29 (.tmp 10) (.tmp 10)):(bL a.eval o).run bE w=.ok (.value (aR (M ⟨w.heap.size,0,Z⟩) n n)) (w.alloc (aG (madeCells #[aR Z 0 0] n) 76))/\(bL a.eval o).events bE w #[]=#[]:=by
 obtain⟨i0,hi,I,aa,q⟩:=info_parts ae5;have E:=run_make (P:=bE) w 29 76 i0 _ afg hi I .i64 .i64 n n aA aA (by rw[q];omega) aA;have Y:=λes=>events_make (P:=bE) w 29 76 i0 _ afg hi I .i64 .i64 n n aA aA (by rw[q];omega) aA (by rw[q];simp;omega) es;rw[aa]at E;simp only[Int.toNat_natCast,Nat.mul_one]at E;constructor
 .unfold bL;simp only[J,h];simp[go_sem,E,Value.cells]
 .unfold bL;simp only[J,h];simp[go_sem,Y]
theorem acv{C:Nat}{u:aD}(Y:w.heap[b]? =M (aG #[u] 29))(I:a.eval (.tmp 5)=aM (M ⟨b,0,Z⟩))(q:a.eval (.tmp 11)=aR (M ⟨C,0,Z⟩) n n)(E:o.op=.store 29 (.tmp 5) (.tmp 11)):(bL a.eval o).run bE w=.ok .skip (w.setCell ⟨b,0,Z⟩ (aR (M ⟨C,0,Z⟩) n n))/\∀e∈(bL a.eval o).events bE w #[],e=⟨.cell ⟨b,0,Z⟩,bB,aL⟩:=by
 have J:w.cell? ⟨b,0,Z⟩=M u:=by simp[fR,Y]
 have hz:w.frozen? ⟨b,0,Z⟩=aL:=by simp[World.frozen?,Y]
 constructor
 .unfold bL;simp only[E,I,q];simp[go_sem,stored,J,hz]
 .unfold bL;simp only[E,I,q];simp[go_sem,J,hz,events_store _ _ _ _ _ _ (show(aR (M ⟨C,0,Z⟩) n n).oneCell'=bB from rfl)]
theorem acw{s:Option gF}{m:Nat}(J:w.heap[b]? =M (aG #[.slice s n m] 29))(E:a.eval (.tmp 5)=aM (M ⟨b,0,Z⟩))(q:o.op=.load 29 (.tmp 5)):(bL a.eval o).run bE w=.ok (.value (.slice s n m)) w/\∀e∈(bL a.eval o).events bE w #[],e=⟨.cell ⟨b,0,Z⟩,aL,aL⟩:=by
 have I:w.cell? ⟨b,0,Z⟩=M (.slice s n m):=by simp[fR,J]
 constructor
 .unfold bL;simp only[q,E];simp[go_sem,I]
 .unfold bL;simp only[q,E];simp[go_sem,I]
end
end
section
variable {v:aD}
section
variable {P:Program}{Post:aD->U->Prop}{Dead:Nat->Prop}
theorem oD.go:∀{n:Nat}{g:bO}{w:U},jj P bB AtRel DC0 (oD P Post Dead) n g w->oD P Post Dead g w:=by
 intro n
 induction n with
 |zero=>exact λ{g w} h=>h w (lm w)
 |succ n ih=>
  intro g w h;obtain h|⟨E,hs⟩:=h
  .exact h w (lm w)
  .refine .step E λd=>?_;have:=hs _ ⟨d,rfl⟩;cases e:stepG P bB g (w.at d)with
   |go g' w' es=>
    rw[e,goes_go]at this;obtain⟨⟨rfl,rfl⟩,hG⟩:=this;exact⟨g',_,_,rfl,jE,λe q=>by simp at q,ih hG⟩
   |_=>rw[e]at this;exact this.elim
theorem ru.go{B:Nat}:∀{n:Nat}{g:bO}{w:U},jj P bB AtRel DC0 (ru P Post Dead B) n g w->ru P Post Dead B g w:=by
 intro n
 induction n with
 |zero=>exact λ{g w} h=>h w (lm w)
 |succ n ih=>
  intro g w h;obtain h|⟨E,hs⟩:=h
  .exact h w (lm w)
  .refine .step E λd=>?_;have:=hs _ ⟨d,rfl⟩;cases e:stepG P bB g (w.at d)with
   |go g' w' es=>
    rw[e,goes_go]at this;obtain⟨⟨rfl,rfl⟩,hG⟩:=this;exact⟨g',_,_,B,rfl,jE,λe q=>by simp at q,ih hG⟩
   |_=>rw[e]at this;exact this.elim
section
variable {w w':U}{b:cU}{a:Act}{k:List rR}{cs:List cU}{ops:Array lR}{i:Nat}{rest:List Nat}{o:lR}
theorem oD.CG(ho:ops[i]? =M o)(hw:cT o (yielded ops a.tmps)=bB)(hk:b.kind≠.early)(E:∀d,(bL a.eval o).run P (w.at d)=.ok (.value v) (w'.at d))(hs:w.heap.size<=w'.heap.size)(q:∀d,∀e∈(bL a.eval o).events P (w.at d) #[],EvL (Zq Dead) w'.heap.size e)(h:oD P Post Dead (G (b.at (a.put o.dst v) (cD ops rest::k)) cs) w'):oD P Post Dead (G (b.at a (cD ops (i::rest)::k)) cs) w:=
 .op ho hw hk λd=>⟨v,w'.at d,E d,hs,λe h=>q d e (jp h),h.at d⟩
theorem oD.agA(ho:ops[i]? =M o)(hw:cT o (yielded ops a.tmps)=bB)(hk:b.kind≠.early)(E:∀d,(bL a.eval o).run P (w.at d)=.ok .skip (w'.at d))(hs:w.heap.size<=w'.heap.size)(q:∀d,∀e∈(bL a.eval o).events P (w.at d) #[],EvL (Zq Dead) w'.heap.size e)(h:oD P Post Dead (G (b.at (a.put o.dst aE) (cD ops rest::k)) cs) w'):oD P Post Dead (G (b.at a (cD ops (i::rest)::k)) cs) w:=
 .opn ho hw hk λd=>⟨w'.at d,E d,hs,λe h=>q d e (jp h),h.at d⟩
theorem ru.agT{B:Nat}(ho:ops[i]? =M o)(hw:cT o (yielded ops a.tmps)=bB)(hk:b.kind≠.early)(E:∀d,(bL a.eval o).run P (w.at d)=.ok (.value v) (w'.at d))(q:∀d,(bL a.eval o).events P (w.at d) #[]=#[])(h:ru P Post Dead B (G (b.at (a.put o.dst v) (cD ops rest::k)) cs) w'):ru P Post Dead B (G (b.at a (cD ops (i::rest)::k)) cs) w:=
 .step rfl λd=>⟨_,w'.at d,_,B,stepG_value ho hw hk (E d),jE,λe h=>by have:=jp h;rw[q d]at this;simp at this,h.at d⟩
theorem JI{es:Array Event}{p:Event->Prop}(h:es=#[]):∀e∈es,p e:=λe q=>by grind
end
theorem at_rl{w0 w q:U}(h:AtRel w0 w)(r:AtRel w q):AtRel w0 q:=atRel_trans _ _ _ h r
end
noncomputable def ZI:Code:=Tryz.f71.body.getD .skip
def mM(w:U)(c:Array aD)(n:Nat):U:=
 ((((w.alloc (aG c 24)).alloc (aG (madeCells #[aR Z 0 0] n) 76)).alloc (aG #[aR Z 0 0] 29)).setCell ⟨w.heap.size+2,0,Z⟩ (aR (M ⟨w.heap.size+1,0,Z⟩) n n)).alloc (aG #[N .u64 0,N .u32 0] 211)
section
variable {Post:aD->U->Prop}{Dead:Nat->Prop}{w:U}{tx:Option gF}{n cap:Nat}{cs:List cU}{inbox batcher t0 t1 t2 t3 t4:Int}
theorem JD(hn:n<=16777216)(hD:∀b,Dead b->b<w.heap.size)(ac:∀T:Array aD,T.size=24->T[1]? =M (.slice tx n cap)->T[2]? =M (aM (M ⟨w.heap.size,0,Z⟩))->T[5]? =M (aM (M ⟨w.heap.size+2,0,Z⟩))->T[6]? =M (aM (M ⟨w.heap.size+3,0,Z⟩))->ru bE Post Dead (w.heap.size+3) (G (bS.at ⟨T,[]⟩ [.code YF,.code yD]) cs) (mM w (cfg inbox batcher t0 t1 t2 t3 t4) n)):oD bE Post Dead (G (bS.at ⟨#[.agg (cfg inbox batcher t0 t1 t2 t3 t4),.slice tx n cap,aE,aE,aE,aE,aE,aE,aE,aE,aE,aE,aE,aE,aE,aE,aE,aE,aE,aE,aE,aE,aE,aE],[]⟩ [.code ZI]) cs) w:=by
 have E:=lm w;simp only[ZI,Tryz.f71,fH];refine oD.go (n:=20) ?_;u_c bR at_rl E;u_reg at_rl E;refine cI λI q=>?_;obtain⟨d,rfl⟩:=at_rl E q;refine oD.at ?_ d;clear E q;refine oD.CG (v:=aM (M ⟨w.heap.size,0,Z⟩)) (w':=w.alloc _) rfl rfl (by k_ne) (λd=>(afs rfl rfl).1) aC (λd=>JI (afs rfl rfl).2) ?_;obtain⟨w1,ab⟩:∃w1,w1=w.alloc (aG (cfg inbox batcher t0 t1 t2 t3 t4) 24):=⟨_,rfl⟩
 have s1:w1.heap.size=w.heap.size+1:=by rw[ab];simp
 rw[<-ab];walk_nrm;have E:=lm w1;refine oD.go (n:=20) ?_;u_op at_rl E;u_c bA at_rl E;u_c bR at_rl E;u_reg at_rl E
 iterate 2 u_op at_rl E
 refine cI λI q=>?_;obtain⟨d,rfl⟩:=at_rl E q;refine oD.at ?_ d;clear E q;refine oD.CG (v:=aR (M ⟨w1.heap.size,0,Z⟩) n n) (w':=w1.alloc _) rfl rfl (by k_ne) (λd=>(afm hn rfl rfl).1) aC (λd=>JI (afm hn rfl rfl).2) ?_;obtain⟨w2,aa⟩:∃w2,w2=w1.alloc (aG (madeCells #[aR Z 0 0] n) 76):=⟨_,rfl⟩
 have s2:w2.heap.size=w.heap.size+2:=by rw[aa];simp[s1]
 rw[<-aa,s1];walk_nrm;refine oD.CG (v:=aM (M ⟨w2.heap.size,0,Z⟩)) (w':=w2.alloc _) rfl rfl (by k_ne) (λd=>(aff rfl).1) aC (λd=>JI (aff rfl).2) ?_;obtain⟨w3,J⟩:∃w3,w3=w2.alloc (aG #[aR Z 0 0] 29):=⟨_,rfl⟩
 have s3:w3.heap.size=w.heap.size+3:=by rw[J];simp[s2]
 have b3:w3.heap[w.heap.size+2]? =M (aG #[aR Z 0 0] 29):=by rw[J,<-s2];exact cX _ _
 rw[<-J,s2];walk_nrm
 refine oD.agA (w':=w3.setCell _ _) rfl rfl (by k_ne) (λd=>(acv (w:=w3.at d) b3 rfl rfl rfl).1) (jw (ku w3 _ _).2.2.2.symm)
  (λd e he=>by
   rw[(acv (w:=w3.at d) b3 rfl rfl rfl).2 e he];refine evL_cell _ _ (λ⟨a,e,h⟩=>?_) ?_
   .grind
   .rw[(ku w3 _ _).2.2.2,s3]
    show w.heap.size+2<_
    omega) ?_
 obtain⟨w4,Y⟩:∃w4,w4=w3.setCell ⟨w.heap.size+2,0,Z⟩ (aR (M ⟨w.heap.size+1,0,Z⟩) n n):=⟨_,rfl⟩
 have s4:w4.heap.size=w.heap.size+3:=by rw[Y,(ku w3 _ _).2.2.2,s3]
 rw[<-Y];walk_nrm
 show ru _ _ _ w4.heap.size _ _
 rw[s4];have E:=lm w4;refine ru.go (n:=20) ?_;u_c bA at_rl E;u_c bR at_rl E;u_reg at_rl E;refine cI λI q=>?_;obtain⟨d,rfl⟩:=at_rl E q;refine ru.at ?_ d;clear E q;refine ru.agT (v:=aM (M ⟨w4.heap.size,0,Z⟩)) (w':=w4.alloc _) rfl rfl (by k_ne) (λd=>(afp rfl).1) (λd=>(afp rfl).2) ?_;obtain⟨w5,ae⟩:∃w5,w5=w4.alloc (aG #[N .u64 0,N .u32 0] 211):=⟨_,rfl⟩
 rw[<-ae,s4];walk_nrm;have E:=lm w5;refine ru.go (n:=20) ?_;u_c bA at_rl E;u_c bR at_rl E;refine cI λI q=>?_;obtain⟨d,rfl⟩:=at_rl E q;refine ru.at ?_ d;have e5:w5=mM w (cfg inbox batcher t0 t1 t2 t3 t4) n:=by rw[ae,Y,J,aa,ab];rfl
 rw[e5];have:=λT h0 h1 h2 h3 h4=>ac T h0 h1 h2 h3 h4;simp only[YF,yD,Tryz.f71]at this;refine this _ ?_ ?_ ?_ ?_ ?_
 all_goals simp
end
end
section
variable {b C i:Nat}{T:Array aD}{b₀:cU}{a₀:Act}{ops:Array lR}{rest:List Nat}{k:List rR}
section
variable {w:U}{c:Array aD}{n:Nat}
theorem MX:(mM w c n).heap.size=w.heap.size+4:=by unfold mM;simp
theorem JA:(mM w c n).tape=w.tape/\(mM w c n).os=w.os/\(mM w c n).output=w.output:=by unfold mM;obtain⟨q,h2,h3,_⟩:=ku (((w.alloc (aG c 24)).alloc (aG (madeCells #[aR Z 0 0] n) 76)).alloc (aG #[aR Z 0 0] 29)) ⟨w.heap.size+2,0,Z⟩ (aR (M ⟨w.heap.size+1,0,Z⟩) n n);exact⟨q,h2,h3⟩
theorem alloc_old(w:U)(o:Obj)(h:b<w.heap.size):(w.alloc o).heap[b]? =w.heap[b]?:=by
 show(w.heap.push o)[b]? =w.heap[b]?
 grind
theorem vP(h:b<w.heap.size+3)(q:b≠w.heap.size+2):(mM w c n).heap[b]? =((w.alloc (aG c 24)).alloc (aG (madeCells #[aR Z 0 0] n) 76)).heap[b]?:=by unfold mM;rw[alloc_old _ _ (by rw[(ku _ _ _).2.2.2];simp;omega),kL (show b≠w.heap.size+2 from q),alloc_old _ _ aF]
theorem OG(h:b<w.heap.size):(mM w c n).heap[b]? =w.heap[b]?:=by rw[vP aA aA,alloc_old _ _ aF,alloc_old _ _ h]
theorem Y2:(mM w c n).heap[w.heap.size]? =M (aG c 24):=by rw[vP aA aA,alloc_old _ _ aC];exact cX _ _
theorem YE:(mM w c n).heap[w.heap.size+1]? =M (aG (madeCells #[aR Z 0 0] n) 76):=by rw[vP aA aA];have:=cX (w.alloc (aG c 24)) (aG (madeCells #[aR Z 0 0] n) 76);simpa only[fB]using this
theorem Xd:(mM w c n).heap[w.heap.size+2]? =M (aG #[aR (M ⟨w.heap.size+1,0,Z⟩) n n] 29):=by unfold mM;rw[alloc_old _ _ aC];refine SY (u:=aR Z 0 0) ?_;have:=cX ((w.alloc (aG c 24)).alloc (aG (madeCells #[aR Z 0 0] n) 76)) (aG #[aR Z 0 0] 29);simpa only[fB]using this
theorem XJ:(mM w c n).heap[w.heap.size+3]? =M (aG #[N .u64 0,N .u32 0] 211):=by unfold mM;have:=cX ((((w.alloc (aG c 24)).alloc (aG (madeCells #[aR Z 0 0] n) 76)).alloc (aG #[aR Z 0 0] 29)).setCell ⟨w.heap.size+2,0,Z⟩ (aR (M ⟨w.heap.size+1,0,Z⟩) n n)) (aG #[N .u64 0,N .u32 0] 211);rw[(ku _ _ _).2.2.2]at this;simpa only[fB]using this
end
structure Found(w:U)(n:Nat)(fs:Nat->List Fr.F)(w':U):Prop where
 old:∀b,b<w.heap.size->w'.heap[b]? =w.heap[b]?
 still:w'.tape=w.tape/\w'.os=w.os/\w'.output=w.output
 size:w.heap.size+4<=w'.heap.size
 rows:∃vs:Array aD,w'.heap[w.heap.size+1]? =M (aG vs 76)/\vs.size=n/\∀i,i<n->∃v,vs[i]? =M v/\rP (λb=>w.heap.size+4<=b) w' v (fs i)
 wg:∃c t,c≠#[]/\w'.heap[w.heap.size+3]? =M (aG c t (0,0))
section
variable {Post:aD->U->Prop}{Dead:Nat->Prop}{w w':U}{tx:Option gF}{n cap tb q0:Nat}{cs:List cU}{inbox batcher t0 t1 t2 t3 t4:Int}{fr ad:Nat->Int}{data:Nat->ByteArray}{fs:Nat->List Fr.F}
theorem KF{bf:Nat}(hT:T.size=24)(t5:T[5]? =M (aM (M ⟨bf,0,Z⟩)))(Y:w.heap[bf]? =M (aG #[aR (M ⟨C,0,Z⟩) n n] 29))(aa:¬Dead bf)(I:oD bE Post Dead (G (b₀.at (a₀.put ((ops[i]?).bind (·.dst)) (aR (M ⟨C,0,Z⟩) n n)) (cD ops rest::k)) cs) w):oD bE Post Dead (G (bS.at ⟨T,[]⟩ (cD ops9 []::[.code tail9])) (b₀.at a₀ (cD ops (i::rest)::k)::cs)) w:=by
 obtain⟨v0,v1,v2,v3,v4,v5,v6,v7,v8,v9,ac,ao,af,ab,am,ag,ak,an,ap,ai,ah,ae,aj,aq,rfl⟩:=Cj T hT;simp only[eX,eU,dX,aK]at t5;subst t5;have E:=lm w;simp only[tail9,yD,Tryz.f71];refine oD.go (n:=20) ?_;u_c bA at_rl E;u_c bR at_rl E;u_reg at_rl E;refine cI λJ q=>?_;obtain⟨d,rfl⟩:=at_rl E q;refine oD.at ?_ d;clear E q;refine oD.CG (v:=.slice _ n n) (w':=w) rfl rfl (by k_ne) (λd=>(acw (w:=w.at d) Y rfl rfl).1) jE (λd e he=>?_) ?_
 .rw[(acw (w:=w.at d) Y rfl rfl).2 e he];refine evL_cell _ _ (λ⟨a,e,h⟩=>?_) (jG Y);cases e;exact aa h
 walk_nrm;have E:=lm w;refine oD.go (n:=20) ?_;u_op at_rl E;u_c bA at_rl E;u_c stepG_ret' at_rl E;u_in at_rl E;refine goes_leave1 rfl rfl Tryz.func71 rfl ⟨by u_nil,?_⟩;refine cI λJ q=>?_;obtain⟨d,rfl⟩:=at_rl E q;exact I.at d
theorem SF.at{OB:Nat->Prop}{W:U}{Wg:Nat}{K:jZ}(h:SF OB W Wg C n K w)(d:Nat):SF OB W Wg C n K (w.at d):=
 ⟨h.sub,h.old,h.kw,h.ko,h.pay,h.hC,h.hG,h.glob,h.new,h.siz,h.still,h.low⟩
def Pz(X1:Nat)(Dead:Nat->Prop)(b:Nat):Prop:=b<X1+3/\b≠X1+1/\¬Dead b
theorem OH(rd:ReadW)(hn:n<=16777216)(hD:∀b,Dead b->b<w.heap.size)(aw:Tryz.prog.globals.size<=w.heap.size)(hx:XA (λb=>b<w.heap.size/\¬Dead b) w tx tb q0 n fr ad data)(a1:∀j,j<n->fs j=Fr.mg inbox batcher (fr j) (ad j) (data j).data.toList)(J:∀w',Found w n fs w'->oD bE Post (λb=>Dead b\/b=w.heap.size+3) (G (b₀.at (a₀.put ((ops[i]?).bind (·.dst)) (aR (M ⟨w.heap.size+1,0,Z⟩) n n)) (cD ops rest::k)) cs) w')(hT:T.size=24)(ax:T[1]? =M (.slice tx n cap))(ah:T[2]? =M (aM (M ⟨w.heap.size,0,Z⟩)))(ag:T[5]? =M (aM (M ⟨w.heap.size+2,0,Z⟩)))(aj:T[6]? =M (aM (M ⟨w.heap.size+3,0,Z⟩))):ru bE Post Dead (w.heap.size+3) (G (bS.at ⟨T,[]⟩ [.code YF,.code yD]) (b₀.at a₀ (cD ops (i::rest)::k)::cs)) (mM w (cfg inbox batcher t0 t1 t2 t3 t4) n):=by
 intro d gs sl t q h0 hL hP;obtain⟨X1,hN⟩:∃X1,w.heap.size=X1:=⟨_,rfl⟩
 obtain⟨W,hW⟩:∃W,mM w (cfg inbox batcher t0 t1 t2 t3 t4) n=W:=⟨_,rfl⟩
 have sW:W.heap.size=X1+4:=by rw[<-hW,MX,hN]
 have oW:∀b,b<X1->W.heap[b]? =w.heap[b]?:=λb E=>by rw[<-hW];exact OG aA
 have cW:W.heap[X1]? =M (aG (cfg inbox batcher t0 t1 t2 t3 t4) 24):=by rw[<-hW,<-hN];exact Y2
 have pW:W.heap[X1+1]? =M (aG (madeCells #[aR Z 0 0] n) 76):=by rw[<-hW,<-hN];exact YE
 have fW:W.heap[X1+2]? =M (aG #[aR (M ⟨X1+1,0,Z⟩) n n] 29):=by rw[<-hW,<-hN];exact Xd
 have wW:W.heap[X1+3]? =M (aG #[N .u64 0,N .u32 0] 211):=by rw[<-hW,<-hN];exact XJ
 have af:W.tape=w.tape/\W.os=w.os/\W.output=w.output:=by rw[<-hW];exact JA
 rw[hW];rw[hN]at hP ah ag aj aw J;have Y:∀b,Dead b->b<X1:=λb E=>by grind
 have ab:PayAt (X1+1) n (W.at d):=⟨_,pW,size_madeCells _ _⟩
 have au:SF (Pz X1 Dead) W (X1+3) (X1+1) n ⟨Pz X1 Dead,λ_=>False⟩ (W.at d):=by
  refine⟨λ_ h=>h,λ_ _=>rfl,λ_ h=>h.elim,λb E=>⟨?_,?_,E.2.1⟩,ab,?_,?_,?_,λ_ h=>.inl h,jE,⟨rfl,rfl,rfl⟩,λ_ _ _ _=>rfl⟩
  all_goals (try show _<W.heap.size);(try show _<=W.heap.size)
  .have:=E.1;omega
  .have:=E.1;omega
  .omega
  .omega
  .grind
 have I:∀(j:Nat)(v:aD),w.cell? ⟨tb,j,Z⟩=M v->tb<X1->W.cell? ⟨tb,j,Z⟩=M v:=λj v h E=>by rw[<-h];exact cell_of_block (oW tb E) j
 have hX:XA (Pz X1 Dead) W tx tb q0 n fr ad data:=by
  refine⟨λh=>let ⟨h1,h2,h3⟩:=hx.at_ h;⟨h1,aA,aA,h3⟩,λj hj=>?_,hx.size⟩;obtain⟨_,E,_⟩:=hx.at_ aA;obtain⟨c1,c2,c3⟩:=hx.cell j hj;exact⟨I _ _ c1 aA,I _ _ c2 aA,I _ _ c3 aA⟩
 have a4:=Ve (OB:=Pz X1 Dead) (W:=W) (Wg:=X1+3) (C:=X1+1) (bc:=X1) (bf:=X1+2) (cap:=cap) (cs:=b₀.at a₀ (cD ops (i::rest)::k)::cs) rd aA aA ⟨aA,aA,λh=>by have:=Y _ h;omega⟩ ⟨aA,aA,λh=>by have:=Y _ h;omega⟩ cW fW hX a1 hT ax ah ag aj
  ⟨au,0,0,(show W.heap[X1+3]? =_ from wW)⟩ (λ_ h=>h)
 obtain⟨Np,az,a',w',a6,t',q',K,hr,a7,ao,a3,a5,ae,⟨cs',aa,aq⟩,ai⟩:=phase (P:=bE) (S:=mP (X1+3) (X1+1) n) (Shun:=Zq Dead) (B:=X1+3) (Fin:=adp (Pz X1 Dead) W (X1+3) (X1+1) n (X1+2) (b₀.at a₀ (cD ops (i::rest)::k)::cs)) (AnchW:=AnchS (Pz X1 Dead) W (X1+3) (X1+1) n (X1+2) (b₀.at a₀ (cD ops (i::rest)::k)::cs))
  (J6 X1 (X1+2) W fs) (show n<2147483648 by omega) (λK g w h=>by obtain⟨_,_,_,rfl,_⟩:=h;rfl) (λK g w h=>by obtain⟨_,_,_,_,rfl,_⟩:=h;rfl)
  (QX aA) (λK g w d h=>let ⟨T,h1,h2,h3,h4⟩:=h;⟨T,h1,h2,h3,h4.at d⟩) (sl:=sl) (w:=W.at d) h0 hL hP (K0:=⟨Pz X1 Dead,λ_=>False⟩) (λ_ h=>h.elim)
  (λb E=>⟨by show b<W.heap.size;have:=E.1;omega,by show b≠X1+3;have:=E.1;omega,E.2.1,λl hl=>by rintro⟨a,rfl,h⟩;cases hl;exact E.2.2 h⟩)
  (by show X1+3<W.heap.size;omega) (by show X1+1<W.heap.size;omega) aC jE (.inr λi ⟨a,e,h⟩=>by grind) (λ_ h=>h.elim) (show X1+1-1<=X1+3 by omega) (show X1+1-1<=X1+1 by omega)
  (show W.heap[X1+3]? =_ from wW) ab a4
 obtain⟨T',a2,ar,rfl,hS⟩:=ao;refine yP.after hr ?_;have ay:=(hS.old _ ⟨aA,aA,λh=>by have:=Y _ h;omega⟩).trans fW;have a8:=(hS.old X1 ⟨aA,aA,λh=>by have:=Y _ h;omega⟩).trans cW
 have ac:Found w n fs w':=by
  refine⟨λb E=>?_,⟨hS.still.1.trans af.1,hS.still.2.1.trans af.2.1,hS.still.2.2.trans af.2.2⟩,?_,⟨cs',?_,aq,λi hi=>?_⟩,?_⟩
  .rw[hN]at E;exact(hS.low b aA aA aA).trans (oW b E)
  .have:=hS.siz;omega
  .rw[hN];exact aa
  .obtain⟨v,O,hh,ap,hO⟩:=ae i hi;refine⟨v,?_,?_⟩
   .have an:w'.cell? ⟨X1+1,i,Z⟩=M v:=hh;simp only[fR,aa]at an;exact an
   .obtain h|⟨g,ak,av,h1,h2,h3,h4⟩:=ap
    .exact .inl h
    .refine .inr ⟨g,ak,av,h1,?_,h3,h4⟩
     grind
  .rw[hN];exact⟨_,_,aC,ai⟩
 have am:=KF (cs:=cs) (b₀:=b₀) (a₀:=a₀) (ops:=ops) (i:=i) (rest:=rest) (k:=k) a2 ar ay (Dead:=λb=>Dead b\/b=X1+3) (λh=>h.elim (λh=>by have:=Y _ h;omega) λh=>aA) (J w' ac);exact am _ az a6 t' q' a7 a3 (Ak a5 λl hl=>hl.elim (λ⟨a,e,h⟩=>⟨a,e,.inl h⟩) λ⟨a,e,h⟩=>⟨a,e,.inr h⟩)
theorem aeX(A B:aD):(#[A,B]++mi (24-(#[A,B]:Array aD).size) aE:Array aD)=#[A,B,aE,aE,aE,aE,aE,aE,aE,aE,aE,aE,aE,aE,aE,aE,aE,aE,aE,aE,aE,aE,aE,aE]:=by simp
theorem nmS:(Tryz.f71.name == "runtime.NumGoroutine")=aL:=rfl
theorem bdS:Tryz.f71.body=M ZI:=rfl
theorem ntS:Tryz.f71.ntmps=24:=rfl
theorem Ar(rd:ReadW){o:lR}{x y:nL}{aa:Array cH}(ho:ops[i]? =M o)(hw:cT o (yielded ops a₀.tmps)=bB)(hk:b₀.kind≠.early)(I:o.op=.call { callee:=.value (.func 71),args:=#[x,y],argTypes:=aa })(ex:a₀.eval x=.agg (cfg inbox batcher t0 t1 t2 t3 t4))(ey:a₀.eval y=.slice tx n cap)(hn:n<=16777216)(hD:∀b,Dead b->b<w.heap.size)(Y:Tryz.prog.globals.size<=w.heap.size)(hx:XA (λb=>b<w.heap.size/\¬Dead b) w tx tb q0 n fr ad data)(J:∀j,j<n->fs j=Fr.mg inbox batcher (fr j) (ad j) (data j).data.toList)(q:∀w',Found w n fs w'->oD bE Post (λb=>Dead b\/b=w.heap.size+3) (G (b₀.at (a₀.put o.dst (aR (M ⟨w.heap.size+1,0,Z⟩) n n)) (cD ops rest::k)) cs) w'):oD bE Post Dead (G (b₀.at a₀ (cD ops (i::rest)::k)) cs) w:=by
 have hF:=lm w;refine oD.go (n:=1) ?_;u_in at_rl hF;refine goes_call ho hw hk I Tryz.func71 nmS bdS ⟨by u_nil,?_⟩;obtain⟨d,rfl⟩:=hF;refine cI λab E=>?_;obtain⟨d',rfl⟩:=E;refine oD.at (oD.at ?_ d) d'
 have h:=JD (Post:=Post) (cap:=cap) (tx:=tx) (cs:=b₀.at a₀ (cD ops (i::rest)::k)::cs) (inbox:=inbox) (batcher:=batcher) (t0:=t0) (t1:=t1) (t2:=t2) (t3:=t3) (t4:=t4) hn hD λT h0 h1 h2 h5 h6=>
  OH rd hn hD Y hx J (by rw[ho];exact q) h0 h1 h2 h5 h6
 have e:(#[x,y].map a₀.eval)=#[.agg (cfg inbox batcher t0 t1 t2 t3 t4),.slice tx n cap]:=by simp[ex,ey]
 rw[e,ntS,aeX];exact h
end
end
end Cr
namespace Po
open Go Go.Conc
open Cr (oD Found XA rP cfg)
section
def pend:Obj->Obj
 |aG c t _=>.pending c t
 |o=>o
def behind(x w:U)(g:Nat):U:={ w with heap:=w.heap.mapIdx λi o=>(x.heap[i]?).getD (if i=g then pend o else if ghost o then .coro Z else o) }
section
variable {x y w:U}{g b:Nat}
theorem uD(hs:x.heap.size<=w.heap.size)(h:b<x.heap.size):(behind x w g).heap[b]? =x.heap[b]?:=by
 show(w.heap.mapIdx _)[b]? =_
 grind
theorem qI(h:x.heap.size<=b):(behind x w g).heap[b]? =(w.heap[b]?).map λo=>if b=g then pend o else if ghost o then .coro Z else o:=by
 show(w.heap.mapIdx _)[b]? =_
 grind
theorem UM{e J:Env}(hw:WP e x y)(hC:∀c,e.C c->J.C c)(hold:∀b,b<y.heap.size->w.heap[b]? =y.heap[b]?)(hs:y.heap.size<=w.heap.size)(hg:y.heap.size<=g){c:Array aD}{t:cH}(hc:c≠#[])(q:w.heap[g]? =M (aG c t (0,0)))
  (hD:∀b,J.D b↔e.D b\/b=g\/y.heap.size<=b/\∃o,w.heap[b]? =M o/\ghost o=bB):WP J (behind x w g) w where
 os:=rfl
 output:=rfl
 size:=by simp[behind]
 out b E:=by
  have hz:=hw.size;rw[hD]at E;obtain h|h:=gG b x.heap.size
  .rw[uD aA h,hold b aA,hw.out b λk=>E (.inl k)]
  .rw[qI h]
   grind
 inn b E:=by
  have hz:=hw.size;rw[hD]at E;obtain E|rfl|⟨h1,o,h2,h3⟩:=E
  .have hl:b<x.heap.size:=by
    rcases hw.inn b E with⟨_,_,_,h,_⟩|⟨_,_,h,_⟩<;>exact(jG h)
   rw[uD aA hl,hold b aA];exact hw.inn b E
  .exact .inl ⟨c,t,q,by rw[qI aA,q];simp[pend],hc⟩
  .by_cases k:b=g
   .subst k;rw[q]at h2;cases h2;cases h3
   .exact .inr ⟨o,h2,by rw[qI aA,h2];simp[k,h3],h3⟩
 objs b o h:=by
  have hz:=hw.size;obtain k|k:=gG b x.heap.size
  .rw[uD aA k]at h;have:=hw.objs b o h;cases o with
   |loop l=>exact⟨hC _ this.1,hC _ this.2.1,λc k=>hC _ (this.2.2 c k)⟩
   |deferred ds=>cases ds<;>exact this
   |_=>trivial
  .rw[qI k]at h;cases I:w.heap[b]? with
   |none=>rw[I]at h;cases h
   |some u=>
    rw[I]at h;simp only[cO,aK]at h;subst h;refine A8 ?_;by_cases Y:b=g
    .subst Y;rw[q]at I;cases I;simp[pend,ghost]
    .rw[Zs Y];split
     .rfl
     grind
end
structure DN(x:U)(n:Nat)(fs:Nat->List Fr.F)(x':U):Prop where
 old:∀b,b<x.heap.size->x'.heap[b]? =x.heap[b]?
 still:x'.os=x.os/\x'.output=x.output
 size:x.heap.size+4<=x'.heap.size
 rows:∃vs:Array aD,x'.heap[x.heap.size+1]? =M (aG vs 76)/\vs.size=n/\∀i,i<n->∃v,vs[i]? =M v/\rP (λb=>x.heap.size+4<=b) x' v (fs i)
section
variable {D:Nat->Prop}{Post:Ir}{XX A:List cU}{x:U}{b:cU}{a:Act}{k:List rR}{tx:Option gF}{n cap tb q0:Nat}{inbox batcher t0 t1 t2 t3 t4:Int}{fr ad:Nat->Int}{data:Nat->ByteArray}{fs:Nat->List Fr.F}
theorem wP{e:Env}{y:U}(hw:WP e x y){c:gF}{v:aD}(h:x.cell? c=M v):¬e.D c.block/\c.block<x.heap.size/\y.cell? c=M v:=by
 have hd:¬e.D c.block:=λhd=>by
  rcases hw.inn _ hd with⟨_,_,_,k,_⟩|⟨_,_,k,_⟩<;>simp[fR,k]at h
 refine⟨hd,?_,by rw[<-h];simp only[fR,hw.out _ hd]⟩;cases k:x.heap[c.block]? with
 |none=>simp[fR,k]at h
 |some o=>grind
theorem Wk.frames(rd:Cr.ReadW){ops:Array lR}{i:Nat}{rest:List Nat}{o:lR}{p q:nL}{aj:Array cH}(ho:ops[i]? =M o)(hw:cT o (yielded ops a.tmps)=bB)(ac:o.op=.call { callee:=.value (.func 71),args:=#[p,q],argTypes:=aj })(ep:a.eval p=.agg (cfg inbox batcher t0 t1 t2 t3 t4))(eq:a.eval q=.slice tx n cap)(hn:n<=16777216)(ai:Tryz.prog.globals.size<=x.heap.size)(hx:XA (λ_=>True) x tx tb q0 n fr ad data)(af:∀j,j<n->fs j=Fr.mg inbox batcher (fr j) (ad j) (data j).data.toList)(aa:∀D' x',DN x n fs x'->Wk (qe Tryz.prog.funcs D') Post XX (b.at (a.put o.dst (aR (M ⟨x.heap.size+1,0,Z⟩) n n)) (cD ops rest::k)) A x'):Wk (qe Tryz.prog.funcs D) Post XX (b.at a (cD ops (i::rest)::k)) A x:=by
 intro I y E J;have hz:=E.size
 rewrite [ace]
 refine Cr.Ar (n:=n) (w:=y) (Dead:=D) (cs:=A++XX) rd ho hw (λh=>by have:=I.1.kind;rw[show(b.at a _).kind=b.kind from rfl,h]at this;cases this) ac ep eq hn (λc hc=>?_) (by rw[hz];exact ai) (tb:=tb) (q0:=q0) (fr:=fr) (ad:=ad) (data:=data) (fs:=fs) ⟨λh=>?_,λj hj=>?_,hx.size⟩ af λw' hF=>?_
 .rcases E.inn c hc with⟨_,_,h,_⟩|⟨_,h,_⟩<;>exact(jG h)
 .have h1:=wP E (hx.cell 0 h).1;exact⟨(hx.at_ h).1,by rw[hz];exact h1.2.1,h1.1⟩
 .obtain⟨c1,c2,c3⟩:=hx.cell j hj;exact⟨(wP E c1).2.2,(wP E c2).2.2,(wP E c3).2.2⟩
 .obtain⟨c,t,hc,ah⟩:=hF.wg;have hs:=hF.size
  let D':Nat->Prop:=λb=>D b\/b=y.heap.size+3\/y.heap.size<=b/\∃o,w'.heap[b]? =M o/\ghost o=bB
  have ab:WP (qe Tryz.prog.funcs D') (behind x w' (y.heap.size+3)) w':=UM E (λ_ h=>h) hF.old aA aA hc ah λb=>Iff.rfl
  have keep:∀{b:Nat}{o:Obj},y.heap.size<=b->b≠y.heap.size+3->w'.heap[b]? =M o->ghost o=aL->(behind x w' (y.heap.size+3)).heap[b]? =M o:=λh1 h2 h3 h4=>by
   rw[qI aA,h3];simp[h2,h4]
  have hP:DN x n fs (behind x w' (y.heap.size+3)):=by
   refine⟨λb h=>uD aA h,⟨hF.still.2.1.trans E.os,hF.still.2.2.trans E.output⟩,by simp only[behind,Array.size_mapIdx];omega,?_⟩;obtain⟨vs,h1,h2,h3⟩:=hF.rows;refine⟨vs,by rw[<-hz];exact keep aA aA h1 rfl,h2,λi hi=>?_⟩;obtain⟨v,g1,g2⟩:=h3 i hi;refine⟨v,g1,g2.imp id λ⟨g,cap,ag,r1,r2,r3,r4⟩=>⟨g,cap,ag,r1,by rw[<-hz];exact r2,keep aA aA r3 rfl,r4⟩⟩
  have hk:=aa D' _ hP ⟨⟨λit ae=>?_,?_,I.1.kind⟩,λf hf=>⟨(I.2 f hf).todo,(I.2 f hf).defers,(I.2 f hf).kind⟩⟩ w' ab ⟨λb Y=>⟨.inl (J.dead b Y).1,(hF.old b ?lt).trans (J.dead b Y).2⟩,λb Y hl=>?old,?size,hF.still.2.1.trans J.os,hF.still.2.2.trans J.output⟩
  case lt=>rcases E.inn b (J.dead b Y).1 with⟨_,_,h,_⟩|⟨_,h,_⟩<;>exact(jG h)
  case old=>
   have:=J.size;obtain Y|Y|Y:=Y
   .exact J.old b Y hl
   .omega
   .omega
  case size=>have:=J.size;omega
  .rewrite [ace]at hk
   rw[<-hz]at hk;exact hk.dead λb h=>h.elim .inl λh=>.inr (.inl h)
  .obtain rfl|h:=dD.1 ae
   .exact I.1.todo (cD ops (i::rest)) (.head _)
   .exact I.1.todo _ (.tail _ h)
  .intro d hd;refine I.1.defers d ?_;have:(a.put o.dst (aR (M ⟨x.heap.size+1,0,Z⟩) n n)).defers=a.defers:=by cases o.dst<;>rfl
   have hd:d∈(a.put o.dst (aR (M ⟨x.heap.size+1,0,Z⟩) n n)).defers:=hd;rw[this]at hd;exact hd
end
end
section
variable {fn:Func}{c d:Code}{ops:Array lR}{i id:Nat}{rest:List Nat}
abbrev Wq(D:Nat->Prop)(Post:Ir)(XX:List cU)(fr:cU)(A:List cU)(x:U):Prop:=Wk (qe Tryz.prog.funcs D) Post XX fr A x
section
variable {D:Nat->Prop}{Post:Ir}{XX A:List cU}{fr:cU}{x:U}{b:cU}{a:Act}{k:List rR}
theorem ach{P:Program}{G:Array Func}{D:Nat->Prop}{k:Nat}(h:P.funcs[k]? =M fn):(Gm P G D).F[k]? =M fn:=h
theorem Wq.piece{Q:Act->U->Prop}(h:∀t d,c.wp PQ (λq a' w'=>q=.normal/\Q a' w') a (on x t d))(J:∀a' x',Q a' x'->Wq D Post XX (b.at a' k) A x'):Wq D Post XX (b.at a (.code c::k)) A x:=by
 refine Wk.code (fits D) ?_
 rewrite [GN]
 exact λt d=>wp_mono (h t d) λq a' w' ⟨I,E⟩=>by subst I;exact J a' w' E
theorem Wq.code(h:∀t d,c.wp PQ (Cont (qe Tryz.prog.funcs D) Post XX A b k) a (on x t d)):Wq D Post XX (b.at a (.code c::k)) A x:=by
 refine Wk.code (fits D) ?_
 rewrite [GN]
 exact h
theorem Wq.op(h:∀t d,wpOp PQ ops (λ_ _ _=>False) i (λa' w'=>Wq D Post XX (b.at a' (cD ops rest::k)) A w') a (on x t d)):Wq D Post XX (b.at a (cD ops (i::rest)::k)) A x:=by
 refine Wk.op (fits D) ?_
 rewrite [GN]
 exact h
theorem Wq.draw(h:∀t,Wq D Post XX (b.at a (cD ops (Region.schedule (PQ.follows .mixedOrders) ops t)::k)) A x):Wq D Post XX (b.at a (.code (.region id ops bB)::k)) A x:=by
 refine Wk.draw (fits D) ?_
 rewrite [GN]
 exact h
theorem Wq.call{o:lR}{f:FuncId}{args:Array nL}{I:Array cH}(ho:ops[i]? =M o)(hw:cT o (yielded ops a.tmps)=bB)(E:o.op=.call { callee:=.value (.func f),args,argTypes:=I })(Y:PQ.funcs[f]? =M fn)(q:(fn.name == "runtime.NumGoroutine")=aL)(hb:fn.body=M c)(h:Wq D Post XX ((base f).at { tmps:=args.map a.eval++mi (fn.ntmps-(args.map a.eval).size) aE,defers:=[] } [.code c]) (b.at a (cD ops (i::rest)::k)::A) x):Wq D Post XX (b.at a (cD ops (i::rest)::k)) A x:=by
 refine Wk.call (fits D) ho hw ?_
 rewrite [GN]
 intro t d;refine⟨f,args.map a.eval,on x t d,?_,?_⟩
 .exact run_call_body E Y q (by rw[hb];rfl)
 .have J:Frame.enter PQ f (args.map a.eval) .normal=(base f).at { tmps:=args.map a.eval++mi (fn.ntmps-(args.map a.eval).size) aE,defers:=[] } [.code c]:=by
   simp[Frame.enter,Frame.at,Y,hb,base]
  rw[J];exact h.FP t d
theorem Wq.leave{c:cU}{v:aD}(q:fr.mode=oc)(hd:fr.defers=[])(hk:fr.kind=.normal)(E:PQ.funcs[fr.fn]? =M fn)(I:∀w,(results fn fr.tmps).run PQ w=.ok v w)(h:Wq D Post XX (c.finish v) A x):Wq D Post XX fr (c::A) x:=by
 refine Wk.leave (fits D) q hd hk (ach E) ?_ h
 rewrite [GN]
 exact λt d=>I _
theorem Wq.seq(h:Wq D Post XX (b.at a (.code c::.code d::k)) A x):Wq D Post XX (b.at a (.code (.seq c d)::k)) A x:=Wk.seq (fits D) h
theorem Wq.cond{o:nL}{t:Bool}(q:a.eval o=.bool t)(h:Wq D Post XX (b.at a (.code (if t then c else d)::k)) A x):Wq D Post XX (b.at a (.code (.cond o c d)::k)) A x:=Wk.cond (fits D) q h
theorem Wq.region(h:Wq D Post XX (b.at a (cD ops (List.range ops.size)::k)) A x):Wq D Post XX (b.at a (.code (.region id ops aL)::k)) A x:=Wk.region (fits D) h
theorem Wq.done(h:Wq D Post XX (b.at a k) A x):Wq D Post XX (b.at a (cD ops []::k)) A x:=Wk.done (fits D) h
theorem Wq.ret(h:∀todo,Wq D Post XX { b.at a todo with mode:=oc } A x):Wq D Post XX (b.at a (.code .ret::k)) A x:=Wk.ret (fits D) h
theorem Wq.fin(h:∀todo,Wq D Post XX { b.at a todo with mode:=oc } A x):Wq D Post XX (b.at a []) A x:=Wk.fin (fits D) h
end
end
section
variable {ds:List Deferred}
section
variable {D:Nat->Prop}{Post:Ir}{XX A:List cU}{fr:cU}{x:U}
theorem Wk.takes{e:Env}(F:Fits e){b:Nat}(q:fr.mode=oc)(hd:fr.defers={ target:=.collected b,args:=#[] }::ds)(hk:x.heap[b]? =M (eM (M [])))(h:Wk e Post XX { fr with defers:=ds } A (x.putObj b (eM Z))):Wk e Post XX fr A x:=
 .one F.fit λt d=>by
  refine⟨_,A,_,?_,h.FP t d⟩;have E:=run_takeDeferred (P:=e.P) (w:=on x t d) (b:=b) (ds:=[]) hk;simp[stepG,unwind,q,hd,E];rfl
theorem Wq.takes{b:Nat}(q:fr.mode=oc)(hd:fr.defers={ target:=.collected b,args:=#[] }::ds)(hk:x.heap[b]? =M (eM (M [])))(h:Wq D Post XX { fr with defers:=ds } A (x.putObj b (eM Z))):Wq D Post XX fr A x:=Wk.takes (fits D) q hd hk h
end
end
open Cr (Fill fills FM)
section
variable {id:Nat}{c:Code}{v:aD}
section
variable {D:Nat->Prop}{Post:Ir}{XX A:List cU}{fr:cU}{x y:U}{b:cU}{a:Act}{k:List rR}{ops:Array lR}{i:Nat}{rest:List Nat}{o:lR}
theorem Wq.same(h:∀t d,on x t d=on y t d)(hk:Wq D Post XX fr A y):Wq D Post XX fr A x:=Wk.acX (t:=y.tape) (d:=y.drawn) (by rw[h];exact hk.FP _ _)
theorem Wq.skip(h:Wq D Post XX (b.at a k) A x):Wq D Post XX (b.at a (.code .skip::k)) A x:=Wk.skip (fits D) h
theorem Wq.block(h:Wq D Post XX (b.at a (.code c::.inBlock id::k)) A x):Wq D Post XX (b.at a (.code (.block id c)::k)) A x:=Wk.block (fits D) h
theorem Wq.inBlock(h:Wq D Post XX (b.at a k) A x):Wq D Post XX (b.at a (.inBlock id::k)) A x:=Wk.inBlock (fits D) h
theorem Wq.exit{k':List rR}(hk:exitTo id k=.some k')(h:Wq D Post XX (b.at a k') A x):Wq D Post XX (b.at a (.code (.exit id)::k)) A x:=Wk.exit (fits D) hk h
theorem Wq.loop(h:Wq D Post XX (b.at a (.code c::.inLoop c::k)) A x):Wq D Post XX (b.at a (.code (.loop c)::k)) A x:=Wk.ctl (fits D) (λ_=>step_loop) h
theorem Wq.inLoop(h:Wq D Post XX (b.at a (.code c::.inLoop c::k)) A x):Wq D Post XX (b.at a (.inLoop c::k)) A x:=Wk.ctl (fits D) (λ_=>step_inLoop) h
theorem Wq.val{x':U}(ho:ops[i]? =.some o)(E:o.guard=Z)(q:∀t d,(bL a.eval o).run PQ (on x t d)=.ok (.value v) (on x' t d))(h:Wq D Post XX (b.at (a.put o.dst v) (cD ops rest::k)) A x'):Wq D Post XX (b.at a (cD ops (i::rest)::k)) A x:=by refine Wq.op λt d=>?_;unfold wpOp;rw[ho];simp only[cT,E,if_true];refine .inl ?_;unfold Oper.wp;rw[q t d];exact h.FP t d
theorem Wq.CG(op:Op)(dst:Option Tmp)(v:aD)(x':U)(ho:(ops[i]?).map (λo=>(o.op,o.dst,o.guard))=.some (op,dst,Z))(E:∀t d (o:lR),o.op=op->(bL a.eval o).run PQ (on x t d)=.ok (.value v) (on x' t d))(h:Wq D Post XX (b.at (a.put dst v) (cD ops rest::k)) A x'):Wq D Post XX (b.at a (cD ops (i::rest)::k)) A x:=by
 cases q:ops[i]? with
 |none=>rw[q]at ho;cases ho
 |some o=>
  rw[q]at ho;simp only[cO,aK,dJ]at ho;obtain⟨I,rfl,h3⟩:=ho;exact Wq.val q h3 (λt d=>E t d o I) h
theorem Wq.walk(h:∀t d (Q:Exit->Act->U->Prop),(∀a' w',Wq D Post XX (b.at a' k) A w'->Q .normal a' w')->(∀a' w',(∀todo,Wq D Post XX { b.at a' todo with mode:=oc } A w')->Q .ret a' w')->c.wp PQ Q a (on x t d)):Wq D Post XX (b.at a (.code c::k)) A x:=
 Wq.code λt d=>h t d _ (λ_ _ h=>h) (λ_ _ h=>h)
theorem Wq.fill{τ:Type}{aa:Nat}(V:τ->Nat->aD)(J:Array Bool->U->(Nat->Prop)->τ->Prop)(hf:fills a.tmps.size ops=bB)(done:∀l a' x' I z,(∀i,i<ops.size->l.getD i aL=bB)->Fill ops (V z) a l a'->J l x' I z->Wq I Post XX (b.at a' k) A x')(more:∀l a' x' I z i o rest,ops[i]? =.some o->l.getD i bB=aL->(∀j,Cr.waits ops i j=bB->l.getD j aL=bB)->Fill ops (V z) a l a'->J l x' I z->(∀q E Y,(∀j,l.getD j aL=bB->V Y j=V z j)->J (l.setIfInBounds i bB) q E Y->Wq E Post XX (b.at (a'.put o.dst (V Y i)) (cD ops rest::k)) A q)->Wq I Post XX (b.at a' (cD ops (i::rest)::k)) A x')(z:τ)(h:J (mi ops.size aL) x D z):Wq D Post XX (b.at a (.code (.region aa ops bB)::k)) A x:=
 Wq.draw λt=>FM (σ:=U×(Nat->Prop)×τ) (λs=>V s.2.2) (λl s=>J l s.1 s.2.1 s.2.2) (λrest a s=>Wq s.2.1 Post XX (b.at a (cD ops rest::k)) A s.1) hf (λl a _ h1 h2 h3=>Wq.done (done l a _ _ _ h1 h2 h3)) (λl a _ i o rest h1 h2 h3 h4 h5 h6=>more l a _ _ _ i o rest h1 h2 h3 h4 h5 λx D z h7 h8=>h6 (x,D,z) h7 h8) _ t (x,D,z) h
theorem Wq.last{fn:Func}(q:fr.mode=oc)(hd:fr.defers=[])(hk:fr.kind=.normal)(E:Tryz.prog.funcs[fr.fn]? =.some fn)(Y:Tryz.prog.inits.idxOf? fr.fn=Z)(J:∀w,(results fn fr.tmps).run bE w=.ok v w)(I:∀w,(results fn fr.tmps).events bE w #[]=#[])(hp:∀y,WP (qe Tryz.prog.funcs D) x y->Keep (qe Tryz.prog.funcs D) Post y->Post.post v y):Wq D Post [] fr [] x:=by refine Wk.last q hd hk E ?_ ?_ ?_ hp<;>rewrite [ace]<;>assumption
end
end
end Po
