import Derived.Test.YtpibpdpedjinhabGreatDoorP14
import Derived.Great.BuildSlice
set_option maxRecDepth 100000
set_option maxHeartbeats 4000000
set_option linter.all false
open Bool renaming false->aR,true->bB
open Go renaming Event->lh,Frame->cT,Goroutine->cA,Obj->oA,Oper->km,Operand->l8,TypeId->cH,Value->aD,World->X,events_store->pg,execOp->bO,run_underlying->eB,undef->aH
open Go.Builtin renaming append_->iB
open Go.Code renaming seq->bL
open Go.Conc renaming mem_listed->im,stepG_region_end->bA,stepG_seq->cE,stepG_skip->ij
open Go.Conc.Goes renaming stop->cL
open Go.ConcR.Gen renaming base_kind->eD
open Go.Instr renaming buildSlice->m9,index->lj,slice->kI,sliceBounds->mR
open Go.IntKind renaming i64->aE,u16->mb,u32->dT,wrap_i64->gA
open Go.Item renaming inRegion->bR
open Go.Obj renaming cells->aL,deferred->eA
open Go.Operand renaming tmp->cR
open Go.Proofs.Tryz renaming prog->U,underlying106->lz,underlying9->eI
open Go.Region renaming wanted->cS
open Go.Value renaming bool->cM,int->N,ownBlock->eE,pointer->aG,slice->aM,string->bE,tuple->cP
open Go.World renaming cell?->eQ,setCell->eO,setCells->od
open Option renaming none->Z,some->M
open Or renaming inl->bN,inr->cF
namespace Go.Proofs.YtpibpdpedjinhabGreatDoor
namespace Cr
open Go Go.Conc Go.ConcN Go.RowKit Go.Conc.Lib Go.ConcR.Gen Go.ConcN.Gen
open Go.ConcR (KK WgAt stA smA Payload DC0)
open Fr (big one fv)
variable {n:Nat}{t:cH}{w:X}
def wn{o:km}{y:Nat->Option Bool}(h:o.guard=Z):cS o y=bB:=by simp[cS,h]
def abZ(u:X)(s:ByteArray)(i:Int)(j:Nat)(z:j<s.size)(e:i=(j:Int)):(lj 9 (bE s) (N aE i)).run U u=.ok (N .u8 (s[j].toNat:Int)) u:=by subst e;rw[run_index_string u _ s aE _ eI,dif_pos aA];simp
def yg(l:Int)(n:Nat)(c:BoundsCode)(w:X)(es:Array lh)(E:0<=l)(z:l<=n):(Instr.sliceBound (N aE l) n c).events U w es=es:=by
 have h2:¬l<0:=aA
 have h3:¬(n:Int)<l:=aA
 simp[Instr.sliceBound,asIntOf,asInt,E,z,h2,h3]
def CU(s:ByteArray)(l h:Int)(w:X)(es:Array lh)(z:0<=l)(E:l<=h)(h2:h<=s.size):(kI 9 (bE s) (M (N aE l)) (M (N aE h)) Z).events U w es=es:=by have k:=λc=>yg l h.toNat c w es z aA;simp[kI,eB eI,mR,run_sliceBound,yg,sliced,E,h2,(by omega:0<=h),z,k]
def PI(s:ByteArray)(h:Int)(w:X)(es:Array lh)(z:0<=h)(h2:h<=s.size):(kI 9 (bE s) Z (M (N aE h)) Z).events U w es=es:=by simp[kI,eB eI,mR,run_sliceBound,yg,sliced,h2,z]
def Ci(s:ByteArray)(l:Int)(w:X)(es:Array lh)(E:0<=l)(z:l<=s.size):(kI 9 (bE s) (M (N aE l)) Z Z).events U w es=es:=by simp[kI,eB eI,mR,run_sliceBound,yg,sliced,z,E]
def oJ(s:ByteArray)(lo z:Option aD)(w:X)(es:Array lh)(h:(kI 9 (bE s) lo z Z).events U w es=es):(Instr.sliceAt 9 (bE s) lo z Z).events U w es=es:=by simp[Instr.sliceAt,h]
def Ef(s:ByteArray)(i:Int)(w:X)(es:Array lh)(E:0<=i)(z:i<s.size):(lj 9 (bE s) (N aE i)).events U w es=es:=by simp[lj,eB eI,go_sem,E,z]
abbrev LD(ch z:Int)(d:ByteArray)(l:Bool):Array aD:=#[N dT ch,N mb z,bE d,.bool l]
abbrev JC:Array aD:=LD 0 0 ⟨#[]⟩ aR
noncomputable def Gl:Array km:=match Tryz.f146.body with
 |some (bL _ (bL _ (bL _ (bL _ (bL (.region _ ops _) _)))))=>ops
 |_=>#[]
def ada:fills 47 Gl=bB:=XN
section
variable {S:Who}{m:Nat}{St:kC->cA->X->Prop}{K0:kC}{w0:X}{L:List (Nat×oA)}{cs:List cT}
def uS{j:Nat}{c:Array aD}{z:Nat×Nat}(h:Lies ((n,aL c t z)::L) w0.heap.size w):w.cell? ⟨n,j,Z⟩=c[j]?:=by have:=oC h;simp[eQ,this]
def ahc{a b c d x y z u:aD}(h:w.heap[n]? =M (aL #[a,b,c,d] t)):(((w.setCell ⟨n,0,Z⟩ x).setCell ⟨n,1,Z⟩ y).setCell ⟨n,2,Z⟩ z).setCell ⟨n,3,Z⟩ u=w.putObj n (aL #[x,y,z,u] t):=by
 simp only[eO,World.putObj]
 congr 1
 apply gB;intro j;by_cases e:n=j
 .subst e;have E:=(jE h)
  rw[bT,ZD rfl,bT,ZD rfl,bT,ZD rfl,bT,ZD rfl,h,aV,ZD rfl,ZD E];rfl
 .grind
def qB{c0 n0 z E:Int}{d0 Y:ByteArray}{l0 l1:Bool}{p q:l8}{a:Act}{o:km}(hp:a.eval p=aG (M ⟨n,0,Z⟩))(hq:a.eval q=.agg (LD z E Y l1))(R:o.op=.store 109 p q)(w:X)(hl:Lies ((n,aL (LD c0 n0 d0 l0) 109)::L) w0.heap.size w):(bO a.eval o).run U w=.ok .skip (w.putObj n (aL (LD z E Y l1) 109))/\∀e∈(bO a.eval o).events U w #[],EvA ((n,aL (LD c0 n0 d0 l0) 109)::L) w.heap.size w.heap.size e:=by
 have h:=oC hl;have b1:(w.setCell ⟨n,0,Z⟩ (N dT z)).heap[n]? =M (aL #[N dT z,N mb n0,bE d0,.bool l0] 109):=by simp[eO,bT,h]
 have b2:((w.setCell ⟨n,0,Z⟩ (N dT z)).setCell ⟨n,1,Z⟩ (N mb E)).heap[n]? =M (aL #[N dT z,N mb E,bE d0,.bool l0] 109):=by simp[eO,bT,h]
 have b3:(((w.setCell ⟨n,0,Z⟩ (N dT z)).setCell ⟨n,1,Z⟩ (N mb E)).setCell ⟨n,2,Z⟩ (bE Y)).heap[n]? =M (aL #[N dT z,N mb E,bE Y,.bool l0] 109):=by simp[eO,bT,h]
 have I:=aI h 0;have J:=aI b1 1;have aa:=aI b2 2;have ac:=aI b3 3;have z0:=aQ h 0;have z1:=aQ b1 1;have z2:=aQ b2 2;have z3:=aQ b3 3;constructor
 .unfold bO;simp only[R,hp,hq];rw[<-ahc h];simp[go_sem,stored,I,z0,J,z1,aa,z2,ac,z3]
 .unfold bO;simp only[R,hp,hq];intro e he;simp[go_sem,stored,storedEv,I,z0,J,z1,aa,z2,ac,z3,pg _ _ _ _ _ _ (show(bE Y).oneCell'=bB from rfl),pg _ _ _ _ _ _ (show(cM l1).oneCell'=bB from rfl)]at he;rcases he with rfl|rfl|rfl|rfl<;>exact Jm
def qL{c R:Int}{d:ByteArray}{l:Bool}{E v4:aD}{a:Act}{todo:List Item}{cf:cT}(hd:a.defers=[])(t2:a.tmps[2]? =M (aG (M ⟨n,0,Z⟩)))(t3:a.tmps[3]? =M E)(t4:a.tmps[4]? =M v4)(nx:Wc U S m St K0 w0 L (G (cf.finish (cP #[.agg (LD c R d l),E,v4])) cs)):Wc U S m St K0 w0 ((n,aL (LD c R d l) 109)::L) (G { (base 146).at a todo with mode:=.returning } (cf::cs)):=by
 refine Wc.leave _ rfl hd rfl Tryz.func146 (λw z=>?_) (Wc.drop (iT _ _) nx);have c0:=uS (j:=0) z;have I:=uS (j:=1) z;have J:=uS (j:=2) z;have Y:=uS (j:=3) z;refine⟨by simp[results,Tryz.results146,go_sem,Frame.at,t2,t3,t4,c0,I,J,Y],λe he=>?_⟩;simp[results,Tryz.results146,go_sem,Frame.at,t2,t3,t4,c0,I,J,Y]at he;rcases he with rfl|rfl|rfl|rfl<;>exact Jm
end
def Aj(s D:ByteArray)(E z c X1:Nat)(lb:Bool)(i:Nat):aD:=(#[bE s,bE (s.extract 0 4),N dT E,bE s,bE (s.extract 4 6),N dT z,N mb z,bE s,N aE (8+(X1:Int)+1),N aE (8+(X1:Int)),bE D,bE D,bE s,N aE (8+(X1:Int)+1),N aE (8+(X1:Int)),N .u8 c,.bool lb,.agg (LD E z D lb),N aE (8+(X1:Int)+1),aH,N aE (8+(X1:Int)+1),cM bB]:Array aD).getD i aH
def jl6(n E z:Nat)(D:ByteArray)(lb:Bool)(L:List (Nat×oA))(l:Array Bool):List (Nat×oA):=(n,if l.getD 19 aR then aL (LD E z D lb) 109 else aL JC 109)::L
section
variable {S:Who}{m:Nat}{St:kC->cA->X->Prop}{K0:kC}{w0:X}{L:List (Nat×oA)}{cs:List cT}{cf:cT}
def acP{s D:ByteArray}{C4 C2 c X1:Nat}{lb:Bool}(hs:s.size<=16777216)(ah:(8:Int)<=(s.size:Int))(aw:8+X1<s.size)(l4:C2<65536)(ar:∀u:X,(lj 9 (bE s) (N aE (8+(X1:Int)))).run U u=.ok (N .u8 (c:Int)) u)(av:((c:Int) == 1)=lb)(hD:s.extract 8 (8+X1)=D)(aq:D.size<=16777216)(n4:Ret 153 #[bE (s.extract 4 6)] (N dT C2))(n0:Ret 153 #[bE (s.extract 0 4)] (N dT C4))(nx:Wc U S m St K0 w0 L (G (cf.finish (cP #[.agg (LD C4 C2 D lb),N aE (8+(X1:Int)+1),cM bB])) cs))(a:Act)(ha:a.tmps.size=47/\a.defers=[]/\a.tmps[2]? =M (aG (M ⟨n,0,Z⟩))/\a.tmps[0]? =M (bE s)/\a.tmps[5]? =M (N aE (8+(X1:Int)+1))):Wc U S m St K0 w0 ((n,aL JC 109)::L) (G ((base 146).at a [.code (bL (.region 6 Gl bB) .ret)]) (cf::cs)):=by
 refine Wc.seq (Wc.fill (V:=Aj s D C4 C2 c X1 lb) (L':=(n,aL (LD C4 C2 D lb) 109)::L) (by rw[ha.1];exact ada) (λl a' hl hF=>?_) (jl6 n C4 C2 D lb L) rfl (λl hl=>by rw[jl6,hl 19 aB];rfl) λl a' i o rest R hi ap hF Y=>?_)
 .have e:∀{i t},i<22->nN Gl i=M t->a'.tmps[t]? =M (Aj s D C4 C2 c X1 lb i):=λhi hd=>hF.got _ _ hd (hl _ hi);exact .ret λtodo=>qL (hF.defers.trans ha.2.1) ((hF.slot XN).trans ha.2.2.1) (e (i:=20) aB rfl) (e (i:=21) aB rfl) nx
 .have keep:i≠19->jl6 n C4 C2 D lb L (l.setIfInBounds i bB)=jl6 n C4 C2 D lb L l:=λe=>by simp only[jl6,getD_set_ne aR e]
  have go:i≠19->o.guard=Z->(∀w,(bO a'.eval o).run U w=.ok (.value (Aj s D C4 C2 c X1 lb i)) w)->(∀w,∀e∈(bO a'.eval o).events U w #[],False)->Wc U S m St K0 w0 (jl6 n C4 C2 D lb L l) (G ((base 146).at a' (bR Gl (i::rest)::[.code .ret])) (cf::cs)):=λe J hr E=>
   Wc.rd _ R (wn J) (eD _) (λw _=>⟨hr w,λe h=>(E w e h).elim⟩) (by grind)
  have am:=(jE R)
  have I:∀j t,waits Gl i j=bB->nN Gl j=M t->a'.eval (cR t)=Aj s D C4 C2 c X1 lb j:=λj t hw hd=>hF.ev hd (ap j hw);have e0:=hF.old (s:=0) XN ha.2.2.2.1;have e5:=hF.old (s:=5) XN ha.2.2.2.2;have ai:(4:Int)<=(s.size:Int):=aA
  have aj:(6:Int)<=(s.size:Int):=aA
  have hN:8+(X1:Int)<=s.size:=aA
  have ag:IntKind.u16.wrap (C2:Int)=C2:=by rw[IntKind.wrap_u16];omega
  have ae:IntKind.i64.wrap (8+(X1:Int))=8+(X1:Int):=by rw[gA];omega
  have ac:IntKind.i64.wrap (8+(X1:Int)+1-1)=8+(X1:Int):=by rw[gA];omega
  have aa:8+(X1:Int)+1-1=8+(X1:Int):=aA
  have an:=λw es=>oJ s _ _ w es (PI s 4 w es aA ai);have au:=λw es=>oJ s _ _ w es (CU s 4 6 w es aA aA aj);have ak:=λw es=>oJ s _ _ w es (CU s 8 _ w es aA aA hN);have ao:=λw es=>Ef s (8+X1) w es aA aA;have sl:∀u:X,(kI 9 (bE s) (M (N aE 8)) (M (N aE (8+(X1:Int)))) Z).run U u=.ok (bE D) u:=λu=>by rw[run_slice_string u _ s aE aE _ _ eI aA aA hN,show s.extract (8:Int).toNat (8+(X1:Int)).toNat=D by rw[<-hD];congr 1]
  have bd:∀w:X,(Instr.build 109 #[(0,N dT C4),(1,N mb C2),(2,bE D),(3,.bool lb)]).run U w=.ok (.agg (LD C4 C2 D lb)) w:=λw=>run_build w _ _ _ XN
  match i,am with
  |0,_=>
   obtain⟨z,J⟩:=kM (.move (cR 0),Z) R rfl;refine go aB J (λw=>?_) λw e E=>?_
   .unfold bO;simp only[z,e0];rfl
   .unfold bO at E;simp only[z,e0]at E;simp[go_sem]at E
  |1,_=>
   obtain⟨z,J⟩:=kM (.slice 9 (cR 28) Z _ Z,Z) R rfl;refine go aB J (λw=>?_) λw e E=>?_
   .unfold bO;simp only[z,jf,cO,I 0 28 rfl rfl];simp[Aj,go_sem,ah,ai]
   .unfold bO at E;simp only[z,jf,cO,I 0 28 rfl rfl]at E;simp[Aj,go_sem,an]at E
  |2,_=>
   obtain⟨z,J⟩:=kM (.call { callee:=.value (.func 153),args:=#[cR 29],argTypes:=#[9] },Z) R rfl;have hn:=Y;rw[keep aB]at hn;exact n0 _ _ _ _ _ _ _ _ _ _ _ _ _ _ _ _ R (wn J) (eD _) z (by simp[I 1 29 rfl rfl,Aj]) hn
  |3,_=>
   obtain⟨z,J⟩:=kM (.move (cR 0),Z) R rfl;refine go aB J (λw=>?_) λw e E=>?_
   .unfold bO;simp only[z,e0];rfl
   .unfold bO at E;simp only[z,e0]at E;simp[go_sem]at E
  |4,_=>
   obtain⟨z,J⟩:=kM (.slice 9 (cR 31) _ _ Z,Z) R rfl;refine go aB J (λw=>?_) λw e E=>?_
   .unfold bO;simp only[z,jf,cO,I 3 31 rfl rfl];simp[Aj,go_sem,ah,aj]
   .unfold bO at E;simp only[z,jf,cO,I 3 31 rfl rfl]at E;simp[Aj,go_sem,au]at E
  |5,_=>
   obtain⟨z,J⟩:=kM (.call { callee:=.value (.func 153),args:=#[cR 32],argTypes:=#[9] },Z) R rfl;have hn:=Y;rw[keep aB]at hn;exact n4 _ _ _ _ _ _ _ _ _ _ _ _ _ _ _ _ R (wn J) (eD _) z (by simp[I 4 32 rfl rfl,Aj]) hn
  |6,_=>
   obtain⟨z,J⟩:=kM (.convert 22 107 (cR 33),Z) R rfl;refine go aB J (λw=>?_) λw e E=>?_
   .unfold bO;simp only[z,I 5 33 rfl rfl];simp[Aj,go_sem,ag]
   .unfold bO at E;simp only[z,I 5 33 rfl rfl]at E;simp[Aj,go_sem]at E
  |7,_=>
   obtain⟨z,J⟩:=kM (.move (cR 0),Z) R rfl;refine go aB J (λw=>?_) λw e E=>?_
   .unfold bO;simp only[z,e0];rfl
   .unfold bO at E;simp only[z,e0]at E;simp[go_sem]at E
  |8,_=>
   obtain⟨z,J⟩:=kM (.move (cR 5),Z) R rfl;refine go aB J (λw=>?_) λw e E=>?_
   .unfold bO;simp only[z,e5];rfl
   .unfold bO at E;simp only[z,e5]at E;simp[go_sem]at E
  |9,_=>
   obtain⟨z,J⟩:=kM (.binOp _ 3 (cR 36) _ 3,Z) R rfl;refine go aB J (λw=>?_) λw e E=>?_
   .unfold bO;simp only[z,I 8 36 rfl rfl];simp[Aj,go_sem,ac,aa,ae]
   .unfold bO at E;simp only[z,I 8 36 rfl rfl]at E;simp[Aj,go_sem]at E
  |10,_=>
   obtain⟨z,J⟩:=kM (.slice 9 (cR 35) _ (M (cR 37)) Z,Z) R rfl;refine go aB J (λw=>?_) λw e E=>?_
   .unfold bO;simp only[z,jf,cO,I 7 35 rfl rfl,I 9 37 rfl rfl];simp[Aj,go_sem,sl w]
   .unfold bO at E;simp only[z,jf,cO,I 7 35 rfl rfl,I 9 37 rfl rfl]at E;simp[Aj,go_sem,ak]at E
  |11,_=>
   obtain⟨z,J⟩:=kM (.call { callee:=.value (.func 92),args:=#[cR 38],argTypes:=#[9] },Z) R rfl;have hn:=Y;rw[keep aB]at hn;exact Tj D aq _ _ _ _ _ _ _ _ _ _ _ _ _ _ _ _ R (wn J) (eD _) z (by simp[I 10 38 rfl rfl,Aj]) hn
  |12,_=>
   obtain⟨z,J⟩:=kM (.move (cR 0),Z) R rfl;refine go aB J (λw=>?_) λw e E=>?_
   .unfold bO;simp only[z,e0];rfl
   .unfold bO at E;simp only[z,e0]at E;simp[go_sem]at E
  |13,_=>
   obtain⟨z,J⟩:=kM (.move (cR 5),Z) R rfl;refine go aB J (λw=>?_) λw e E=>?_
   .unfold bO;simp only[z,e5];rfl
   .unfold bO at E;simp only[z,e5]at E;simp[go_sem]at E
  |14,_=>
   obtain⟨z,J⟩:=kM (.binOp _ 3 (cR 41) _ 3,Z) R rfl;refine go aB J (λw=>?_) λw e E=>?_
   .unfold bO;simp only[z,I 13 41 rfl rfl];simp[Aj,go_sem,ac,aa,ae]
   .unfold bO at E;simp only[z,I 13 41 rfl rfl]at E;simp[Aj,go_sem]at E
  |15,_=>
   obtain⟨z,J⟩:=kM (.index 9 (cR 40) (cR 42),Z) R rfl;refine go aB J (λw=>?_) λw e E=>?_
   .unfold bO;simp only[z,I 12 40 rfl rfl,I 14 42 rfl rfl];simp[Aj,go_sem,ar]
   .unfold bO at E;simp only[z,I 12 40 rfl rfl,I 14 42 rfl rfl]at E;simp[Aj,go_sem,ao]at E
  |16,_=>
   obtain⟨z,J⟩:=kM (.binOp _ 5 (cR 43) _ 5,Z) R rfl;refine go aB J (λw=>?_) λw e E=>?_
   .unfold bO;simp only[z,I 15 43 rfl rfl];simp[Aj,go_sem,av]
   .unfold bO at E;simp only[z,I 15 43 rfl rfl]at E;simp[Aj,go_sem]at E
  |17,_=>
   obtain⟨z,J⟩:=kM (.build 109 #[(0,cR 30),(1,cR 34),(2,cR 39),(3,cR 44)],Z) R rfl;refine go aB J (λw=>?_) λw e E=>?_
   .unfold bO;simp only[z,fQ,eP,fP,I 2 30 rfl rfl,I 6 34 rfl rfl,I 11 39 rfl rfl,I 16 44 rfl rfl];simp[Aj,go_sem,bd]
   .unfold bO at E;simp only[z,fQ,eP,fP,I 2 30 rfl rfl,I 6 34 rfl rfl,I 11 39 rfl rfl,I 16 44 rfl rfl]at E;simp[Aj,go_sem]at E
  |18,_=>
   obtain⟨z,J⟩:=kM (.move (cR 5),Z) R rfl;refine go aB J (λw=>?_) λw e E=>?_
   .unfold bO;simp only[z,e5];rfl
   .unfold bO at E;simp only[z,e5]at E;simp[go_sem]at E
  |19,_=>
   obtain⟨z,J⟩:=kM (.store 109 (cR 2) (cR 45),Z) R rfl;have af:=AP hi;have hn:=Y;simp only[jl6,af.1,af.2,if_true,if_false,bU]at hn⊢;exact Wc.st (j:=0) _ rfl R (wn J) (eD _) (λw hl=>qB (hF.old (s:=2) XN ha.2.2.1) (I 17 45 rfl rfl) z w hl) hn
  |20,_=>
   obtain⟨z,J⟩:=kM (.assign (cR 46),Z) R rfl;refine go aB J (λw=>?_) λw e E=>?_
   .unfold bO;simp only[z,I 18 46 rfl rfl];rfl
   .unfold bO at E;simp only[z,I 18 46 rfl rfl]at E;simp[go_sem]at E
  |21,_=>
   obtain⟨z,J⟩:=kM (.assign _,Z) R rfl;refine go aB J (λw=>?_) λw e E=>?_
   .unfold bO;simp only[z];rfl
   .unfold bO at E;simp only[z]at E;simp[go_sem]at E
end
def TA(s:ByteArray)(hs:s.size<=16777216):Ret 146 #[bE s] (fv (one s.data.toList 0)):=by
 intro S m St K0 w0 L b a k cs ops i rest o xs a2 ho hw hk aj hx nx;refine Wc.call ho hw hk aj Tryz.func146 rfl rfl ?_;rw[hx];simp only[Tryz.ntmps146,dR,aU,bY,Nat.reduceAdd,Nat.reduceSub,dH,dG,dU,dI,dS,dN]
 have nx:Wc U S m St K0 w0 L (G ((b.at a (bR ops (i::rest)::k)).finish (fv (one s.data.toList 0))) cs):=by
  rw[fO,ho];exact nx
 have hl:=bD s;obtain⟨R,hR⟩:∃R,one s.data.toList 0=R:=⟨_,rfl⟩
 rw[hR]at nx;generalize b.at a (bR ops (i::rest)::k)=cf at nx;have NX:Hid _:=nx;have el:=Ip;clear nx ho hw hk aj hx;refine Wc.seq (Wc.reg [0,1,2] rfl ?_);refine Wc.al (aL JC 109) (λn=>aG (M ⟨n,0,Z⟩)) rfl rfl (eD _) (λw hl=>⟨by simp[go_sem],λe he=>by simp[go_sem]at he⟩) λn=>?_;walk_nrm;by_cases h8:s.size<8
 .obtain rfl:R=Z:=hR.symm.trans (Fr.KN aA);have ar:(s.size:Int)<8:=by omega
  clear hl hR;refine Wc.go 30 λK w z=>?_
  iterate 2 u_op At.en z
  u_c bA At.en z
  iterate 2 u_c cE At.en z
  u_reg At.en z
  iterate 3 u_op At.en z
  u_c bA At.en z;u_cond bB At.en z;u_c cE At.en z;u_reg At.en z;u_op At.en z;refine cL λ_ E=>Wc.use ?_ (z.en E);clear z;refine Wc.st (j:=0) (aL JC 109) rfl rfl rfl (eD _) (λw hl=>qB rfl rfl rfl w hl) ?_;walk_nrm;refine Wc.go 30 λK w z=>?_
  iterate 2 u_op At.en z
  u_c bA At.en z;refine cL λ_ E=>Wc.use ?_ (z.en E);exact .ret λtodo=>qL rfl rfl rfl rfl NX.out
 have ar:¬(s.size:Int)<8:=aA
 have ae:(8:Int)<=(s.size:Int):=aA
 have e6:big (s.extract 6 8).data.toList 0 (s.extract 6 8).size=big s.data.toList 6 2:=by
  rw[Fr.ext_list,show(s.extract 6 8).size=2 from by simp[fA];omega];exact Fr.IU _ 6 2
 have e4:big (s.extract 4 6).data.toList 0 (s.extract 4 6).size=big s.data.toList 4 2:=by
  rw[Fr.ext_list,show(s.extract 4 6).size=2 from by simp[fA];omega];exact Fr.IU _ 4 2
 have e0:big (s.extract 0 4).data.toList 0 (s.extract 0 4).size=big s.data.toList 0 4:=by
  rw[Fr.ext_list,show(s.extract 0 4).size=4 from by simp[fA];omega];exact Fr.IU _ 0 4
 have n6:=wu (s.extract 6 8) (by simp[fA];omega);have n4:=wu (s.extract 4 6) (by simp[fA];omega);have n0:=wu (s.extract 0 4) (by simp[fA];omega);rw[e6]at n6;rw[e4]at n4;rw[e0]at n0;clear e6 e4 e0;have l6:=Fr.uD s.data.toList 6 2;have l0:=Fr.uD s.data.toList 0 4;have l4:=Fr.uD s.data.toList 4 2;simp only[Nat.reducePow]at l6 l0 l4;have I:s.size≠8->one s.data.toList 0=_:=λh=>Fr.abb (s:=s.data.toList) (p:=0) aA;simp only[fJ]at I;generalize hN:big s.data.toList 6 2=X1 at *;generalize av:big s.data.toList 0 4=C4 at *;generalize an:big s.data.toList 4 2=C2 at *;have N6:Hid _:=n6;have N4:Hid _:=n4;have N0:Hid _:=n0;have J:Hid _:=I;have Hl:Hid _:=hl;have HR:Hid _:=hR;clear n6 n4 n0 I hl hN av an hR;refine Wc.go 30 λK w z=>?_
 iterate 2 u_op At.en z
 u_c bA At.en z
 iterate 2 u_c cE At.en z
 u_reg At.en z
 iterate 3 u_op At.en z
 u_c bA At.en z;u_cond aR At.en z;u_c ij At.en z;u_c cE At.en z;u_reg At.en z;u_op At.en z;have ev:=λw es=>oJ s _ _ w es (CU s 6 8 w es aA aA ae);u_op At.en z;refine cL λ_ E=>Wc.use ?_ (z.en E);clear z ev;refine N6.out _ _ _ _ _ _ _ _ _ _ _ _ _ _ _ _ rfl rfl (eD _) rfl (by simp[Act.eval]) ?_;walk_nrm;have a1:IntKind.i64.wrap (X1:Int)=X1:=by rw[gA];omega
 have ay:IntKind.i64.wrap (8+(X1:Int))=8+(X1:Int):=by rw[gA];omega
 have a0:IntKind.i64.wrap (8+(X1:Int)+1)=8+(X1:Int)+1:=by rw[gA];omega
 by_cases hn:s.size<9+X1
 .have ao:(s.size:Int)<8+(X1:Int)+1:=by omega
  obtain rfl:R=Z:=HR.out.symm.trans (by
   by_cases h:s.size=8
   .exact Fr.KN (by rw[<-Hl.out];omega)
   .rw[J.out h,ZD (by rw[<-Hl.out];exact hn)])
  refine Wc.go 40 λK w z=>?_
  iterate 4 u_op At.en z
  u_c bA At.en z
  iterate 2 u_c cE At.en z
  u_reg At.en z
  iterate 5 u_op At.en z
  iterate 5 u_skip At.en z
  u_op At.en z;u_c bA At.en z;u_cond bB At.en z;u_c cE At.en z;u_reg At.en z;u_op At.en z;refine cL λ_ E=>Wc.use ?_ (z.en E);clear z;refine Wc.st (j:=0) (aL JC 109) rfl rfl rfl (eD _) (λw hl=>qB rfl rfl rfl w hl) ?_;walk_nrm;refine Wc.go 30 λK w z=>?_
  iterate 2 u_op At.en z
  u_c bA At.en z;refine cL λ_ E=>Wc.use ?_ (z.en E);exact .ret λtodo=>qL rfl rfl rfl rfl NX.out
 have ao:¬(s.size:Int)<8+(X1:Int)+1:=aA
 have ac:8+X1<s.size:=aA
 have ai:=λu=>abZ u s (8+X1) _ ac aA;have a3:=λw es=>Ef s (8+X1) w es aA aA;have ah:=Fr.getD_byte s _ ac;obtain⟨c,hc⟩:∃c:Nat,s[8+X1].toNat=c:=⟨_,rfl⟩
 have a4:c<256:=by rw[<-hc];exact UInt8.toNat_lt _
 rw[hc]at ai;have Y:=J.out aA;rw[Zs (by rw[<-Hl.out];omega),ah,hc]at Y;have aa:Hid _:=Y;have aw:IntKind.i64.wrap (8+(X1:Int)+1-1)=8+(X1:Int):=by rw[gA];omega
 have az:8+(X1:Int)+1-1=8+(X1:Int):=aA
 clear ah hc Y J;by_cases ak:1<c
 .have af:(1:Int)<(c:Int):=by omega
  obtain rfl:R=Z:=HR.out.symm.trans (by rw[aa.out,ZD ak]);refine Wc.go 40 λK w z=>?_
  iterate 4 u_op At.en z
  u_c bA At.en z
  iterate 2 u_c cE At.en z
  u_reg At.en z
  iterate 11 u_op At.en z
  u_c bA At.en z;u_cond bB At.en z;u_c cE At.en z;u_reg At.en z;u_op At.en z;refine cL λ_ E=>Wc.use ?_ (z.en E);clear z;refine Wc.st (j:=0) (aL JC 109) rfl rfl rfl (eD _) (λw hl=>qB rfl rfl rfl w hl) ?_;walk_nrm;refine Wc.go 30 λK w z=>?_
  iterate 2 u_op At.en z
  u_c bA At.en z;refine cL λ_ E=>Wc.use ?_ (z.en E);exact .ret λtodo=>qL rfl rfl rfl rfl NX.out
 .have af:¬(1:Int)<(c:Int):=by omega
  obtain⟨lb,am⟩:∃lb:Bool,((c:Int) == 1)=lb:=⟨_,rfl⟩
  have ag:(c == 1)=lb:=by
   rw[<-am];rcases(by omega:c=0\/c=1)with rfl|rfl<;>rfl
  obtain⟨D,hD⟩:∃D:ByteArray,s.extract 8 (8+X1)=D:=⟨_,rfl⟩
  have ap:(⟨((s.data.toList.take (8+X1)).drop 8).toArray⟩:ByteArray)=D:=by rw[<-hD,<-Fr.ext_list]
  have aq:D.size<=16777216:=by rw[<-hD];simp[fA];omega
  have au:fv R=cP #[.agg (LD C4 C2 D lb),N aE (8+(X1:Int)+1),cM bB]:=by
   rw[<-HR.out,aa.out,Zs ak,ag];simp only[fv,ap,LD]
   congr 5
   omega
  rw[au]at NX;refine Wc.go 40 λK w z=>?_
  iterate 4 u_op At.en z
  u_c bA At.en z
  iterate 2 u_c cE At.en z
  u_reg At.en z
  iterate 11 u_op At.en z
  u_c bA At.en z;u_cond aR At.en z;u_c ij At.en z;refine cL λ_ E=>Wc.use ?_ (z.en E);clear z;exact acP (c:=c) hs ae ac l4 ai am hD aq N4.out N0.out NX.out _ ⟨rfl,rfl,rfl,rfl,rfl⟩
end Cr
namespace Hm
open Go.RowKit Go.Joins
section
variable {g off cap:Nat}
def jX{w:X}{b:Nat}{z:Array aD}{e:cH}{E:Nat×Nat}(h:w.heap[b]? =M (aL z e E))(i:Nat)(v:aD):(w.setCell ⟨b,i,Z⟩ v).heap[b]? =M (aL (z.setIfInBounds i v) e E):=block_setCell h v
def oK:∀(vs:List aD)(o:Nat){w:X}{b:Nat}{E:Array aD}{e:cH}{I:Nat×Nat},w.heap[b]? =M (aL E e I)->
  ∃z,(w.setCells b o vs).heap[b]? =M (aL z e I)/\z.size=E.size/\(∀j,j<o\/o+vs.length<=j->z[j]? =E[j]?)/\∀j u,vs[j]? =M u->o+j<E.size->z[o+j]? =M u
 |[],o,w,b,E,e,I,h=>⟨E,h,rfl,λ_ _=>rfl,λj u J=>by simp at J⟩
 |v::vs,o,w,b,E,e,I,h=>by
  obtain⟨z,Y,h2,h3,h4⟩:=oK vs (o+1) (jX h o v);refine⟨z,Y,by rw[h2];simp,λj J=>?_,λj u J R=>?_⟩
  .grind
  grind
def kH(b:Nat):∀(vs:List aD)(o:Nat)(w:X),w.grownBy (w.setCells b o vs) (M b)/\(w.setCells b o vs).heap.size=w.heap.size
 |[],o,w=>⟨⟨rfl,rfl,rfl,jB,λ_ _ _=>rfl⟩,rfl⟩
 |v::vs,o,w=>by
  obtain⟨h,hs⟩:=kH b vs (o+1) (w.setCell ⟨b,o,Z⟩ v);have E:(w.setCell ⟨b,o,Z⟩ v).heap.size=w.heap.size:=aC
  refine⟨⟨h.os.trans ?_,h.tape.trans ?_,h.output.trans ?_,by rw[od,hs,E];exact jB,λk hk z=>(h.block k (by rw[E];exact hk) z).trans (aW _ _ _ _ (λI=>z (by rw[I])))⟩,by rw[od,hs,E]⟩
  .rfl
  .rfl
  .rfl
def Row(w:X)(e s:Nat)(v:aD)(n:Nat)(xs:List aD):Prop:=
 xs.length=n*s/\((v=aM Z 0 0/\n=0)\/
  ∃g off cap z,v=aM (M ⟨g,off,Z⟩) n cap/\w.heap[g]? =M (aL z e (0,0))/\n<=cap/\cap<=maxLen/\off+cap*s<=z.size/\∀j u,xs[j]? =M u->z[off+j]? =M u)
section
variable {w w':X}{e s:Nat}{v:aD}{n:Nat}{xs:List aD}
def Row.slice(h:Row w e s v n xs):∃a cap,v=.slice a n cap:=by
 obtain⟨rfl,rfl⟩|⟨g,off,cap,z,rfl,_⟩:=h.2
 .exact⟨_,_,rfl⟩
 simp
def Row.pos(h:Row w e s v n xs)(I:0<n):∃g off cap,v=aM (M ⟨g,off,Z⟩) n cap/\n<=cap:=by
 obtain⟨rfl,rfl⟩|⟨g,off,cap,z,rfl,_,E,_⟩:=h.2
 .omega
 grind
def Row.obj(h:Row w e s v n xs)(E:v.ownBlock=M g):∃z,w.heap[g]? =M (aL z e (0,0)):=by
 obtain⟨rfl,_⟩|⟨g',off,cap,z,rfl,I,_⟩:=h.2
 .simp[eE]at E
 .simp[eE]at E
  grind
def Row.lt(h:Row w e s v n xs)(E:v.ownBlock=M g):g<w.heap.size:=by
 obtain⟨z,hc⟩:=h.obj E
 grind
def Row.kept(h:Row w e s v n xs)(hk:∀g,v.ownBlock=M g->w'.heap[g]? =w.heap[g]?):Row w' e s v n xs:=by
 refine⟨h.1,?_⟩;obtain I|⟨g,off,cap,z,rfl,E,r⟩:=h.2
 .exact bN I
 .exact cF ⟨g,off,cap,z,rfl,(hk g rfl).trans E,r⟩
def Row.nil(w:X)(e s:Nat):Row w e s (aM Z 0 0) 0 []:=⟨aC,bN ⟨rfl,rfl⟩⟩
def Row.Yv{lo:Nat}(h:w.ownsRow lo e s v n xs):Row w e s v n xs:=by
 have z:=h.1;refine⟨z,?_⟩;obtain Y|⟨g,cap,E,rfl,hb,hh,I,J,aa,R⟩:=h.2
 .exact bN Y
 grind
def Row.cell(h:Row w e s v n xs)(z:v=aM (M ⟨g,off,Z⟩) n cap)(j:Nat)(u:aD)(R:xs[j]? =M u):w.cell? ⟨g,off+j,Z⟩=M u:=by
 obtain⟨rfl,_⟩|⟨g',E,I,J,rfl,Y,_,_,_,hc⟩:=h.2
 .cases z
 .simp only[Value.slice.injEq,aK,Addr.mk.injEq,and_true,true_and]at z;obtain⟨⟨rfl,rfl⟩,rfl⟩:=z;have:=hc j u R;simp[eQ,Y,this]
def Row.frozen(h:Row w e s v n xs)(z:v=aM (M ⟨g,off,Z⟩) n cap)(i:Nat):w.frozen? ⟨g,i,Z⟩=aR:=by
 obtain⟨rfl,_⟩|⟨g',E,I,J,rfl,R,_⟩:=h.2
 .cases z
 .simp only[Value.slice.injEq,aK,Addr.mk.injEq,and_true,true_and]at z;obtain⟨⟨rfl,rfl⟩,rfl⟩:=z;exact aQ R i
def Row.append{P:Program}(h:Row w e s v n xs)(t ty:cH)(i:TypeInfo)(z:aD)(bytes:Nat)(ht:P.underlying t=M (.slice e))(hi:P.info? e=M i)(hz:i.zero=M z)(I:i.size=s)(ag:i.bytes=bytes)(an:z.cells.size=s)(ak:0<s)(a:Addr)(m c:Nat)(E:List aD)(hm:0<m)(hl:E.length=m*s)(J:∀j u,E[j]? =M u->w.cell? (a.add j)=M u)(h1:∀u∈E,u.oneCell'=bB)(ae:n+m<=maxLen)(Y:(n+m)*bytes<=140737488355328):∃v' w',(iB #[t,t] ty #[v,aM (M a) m c]).run P w=.ok v' w'/\Row w' e s v' (n+m) (xs++E)/\(∃g off cap,v'=aM (M ⟨g,off,Z⟩) (n+m) cap)/\((v'.ownBlock=v.ownBlock/\w.grownBy w' v.ownBlock/\w'.heap.size=w.heap.size)\/(v'.ownBlock=M w.heap.size/\w.grownBy w' Z/\w'.heap.size=w.heap.size+1)):=by
 have aj:∀b cap R,R.length=n*s->(∀j u,R[j]? =M u->w.cell? (b.add j)=M u)->cap<n+m->
   ∃v' w',(iB #[t,t] ty #[aM (M b) n cap,aM (M a) m c]).run P w=.ok v' w'/\Row w' e s v' (n+m) (R++E)/\(∃g off cap,v'=aM (M ⟨g,off,Z⟩) (n+m) cap)/\v'.ownBlock=M w.heap.size/\w.grownBy w' Z/\w'.heap.size=w.heap.size+1:=by
  intro b cap R ao holds hg;obtain⟨v',w',hr,ho,ah⟩:=run_append_arg_grows (P:=P) w t ty e i z s bytes ht hi hz I ag an ak b n cap R ao holds a m c E hl J hg ae Y;have aa:=run_append_grow (P:=P) w t ty e i z ht hi hz b n cap R (by rw[I];exact ao) holds a m c E (by rw[I];exact hl) J hg (by simp only[maxLen]at ae;omega) (growslice_fits hg (by rw[ag];exact Y));rw[hr]at aa;simp only[Result.ok.injEq]at aa;obtain⟨e1,e2⟩:=aa;exact⟨v',w',hr,.Yv ho,⟨_,_,_,e1⟩,by rw[e1];rfl,ah,by rw[e2];simp⟩
 obtain⟨rfl,rfl⟩|⟨g,off,cap,am,rfl,hh,a3,aq,au,hc⟩:=h.2
 .have hx:xs=[]:=bP (by simpa using h.1);subst hx;obtain⟨v',w',hr,ho,ah,a0⟩:=run_append_own (P:=P) w _ t ty e i z s bytes ht hi hz I ag an ak _ 0 [] (World.ownsRow_nil w _ e s) a m c E hl J h1 ae Y jB;have ar:Row w' e s v' (0+m) ([]++E):=.Yv ho;obtain⟨rfl,h0⟩|⟨g,cap,am,rfl,ay,hh,_⟩:=ho.2
  .omega
  .refine⟨_,w',hr,ar,⟨_,_,_,rfl⟩,cF ?_⟩
   have ai:w'.heap.size=w.heap.size+1:=by
    have aa:=run_append_nil (P:=P) w t ty e i z ht hi hz a m c E (by rw[I];exact hl) J aA (by simp only[maxLen]at ae;omega) (by grind);rw[hr]at aa;simp only[Result.ok.injEq]at aa;rw[aa.2];simp
   have az:=(jE hh)
   exact⟨by simp[eE];omega,ah,ai⟩
 .by_cases ac:n+m<=cap
  .have aw:n*s+E.length=(n+m)*s:=by rw[hl,iP]
   have a4:(n+m)*s<=cap*s:=fK _ ac
   have af:∀j,j<E.length->(w.cell? ⟨g,off+n*i.size+j,Z⟩).isSome=bB:=λj hj=>by
    have:off+n*i.size+j<am.size:=by rw[I];omega
    simp[eQ,hh,dA this]
   have hr:=run_append_room_cells (P:=P) w t ty e i ht hi g off n cap a m c E (by rw[I];exact hl) J h1 ac af (λj _=>aQ hh _);rw[I]at hr;obtain⟨ap,k1,k2,k3,k4⟩:=oK E (off+n*s) hh;refine⟨_,_,hr,⟨by rw[aS,h.1,hl,iP],cF ⟨g,off,cap,ap,rfl,k1,ac,aq,by rw[k2];exact au,λj u hj=>?_⟩⟩,⟨_,_,_,rfl⟩,bN ⟨rfl,(kH g E _ w).1,(kH g E _ w).2⟩⟩
   .by_cases av:j<xs.length
    .rw[bZ av]at hj;rw[k3 (off+j) (bN (by rw[<-h.1];omega))];exact hc j u hj
    .rw[bV aA]at hj;have a2:=(aN.1 hj).1;have a1:=h.1
     grind
  .obtain⟨v',w',hr,h2,h3,h4,h5,h6⟩:=aj ⟨g,off,Z⟩ cap xs h.1 (λj u hj=>by
    have:=h.cell rfl j u hj;unfold Addr.add
    grind) aA
   grind
end
end
end Hm
namespace Cr
open Go Go.Conc Go.ConcN Go.RowKit Go.Conc.Lib Go.ConcR.Gen Go.ConcN.Gen
open Go.ConcR (KK WgAt stA smA Payload DC0)
open Fr (F flat)
section
variable {v:aD}{fs:List F}{R:List (Nat×oA)}
def zq(v:aD)(fs:List F)(R:List (Nat×oA)):Prop:=
 (v=aM Z 0 0/\fs=[]/\R=[])\/∃g cap z,v=aM (M ⟨g,0,Z⟩) fs.length cap/\R=[(g,aL z 109)]/\fs.length<=cap/\cap<=maxLen/\z.size=cap*4/\z.toList.take (fs.length*4)=flat fs
def zq.slice(h:zq v fs R):∃a c,v=.slice a fs.length c:=by rcases h with⟨rfl,rfl,_⟩|⟨g,cap,z,rfl,_⟩<;>exact⟨_,_,rfl⟩
abbrev Ey(x:F):Array aD:=LD x.chan x.num ⟨x.data.toArray⟩ x.last
def Qs:(Tryz.prog.info? 109).map (λi=>(i.zero,i.size,i.bytes))=M (M (.agg JC),4,32):=XN
def abf{A L0:List (Nat×oA)}{n0 n3:Nat}{x:F}{w:X}(hR:zq v fs R)(hl:Lies (A++(R++L0)) n0 w)(am:(n3,aL (Ey x) 109)∈A)(a2:fs.length<1048576):∃v' w' R',(iB #[106,106] 106 #[v,aM (M ⟨n3,0,Z⟩) 1 1]).run U w=.ok v' w'/\zq v' (fs++[x]) R'/\∀es:Array lh,(∀e∈es,e∈(iB #[106,106] 106 #[v,aM (M ⟨n3,0,Z⟩) 1 1]).events U w #[])->Turn (A++(R++L0)) (A++(R'++L0)) w w' es:=by
 obtain⟨ie,hi,ae,ah,ag⟩:∃i,Tryz.prog.info? 109=M i/\i.zero=M (.agg JC)/\i.size=4/\i.bytes=32:=by
  have:=Qs;cases h:Tryz.prog.info? 109 with
  |none=>grind
  |some i=>
   grind
 have Y:=λp hp=>(hl.mem p hp).2;have h3:=Y _ (List.mem_append_left _ am);have an:=Fr.flat_length fs
 have aa:w.ownsRow 0 109 4 v fs.length (flat fs):=by
  refine⟨an,hR.imp (λh=>⟨h.1,by rw[h.2.1];rfl⟩) ?_⟩;rintro⟨g,cap,z,e,rfl,r⟩;exact⟨g,cap,z,e,dL _,Y (g,aL z 109) aC,r⟩
 have ao:Hm.Row w 109 4 v fs.length (flat fs):=by
  refine⟨an,hR.imp (λh=>⟨h.1,by rw[h.2.1];rfl⟩) ?_⟩;rintro⟨g,cap,z,e,rfl,r1,r2,r3,r4⟩;refine⟨g,0,cap,z,e,Y (g,aL z 109) aC,r1,r2,aA,λj u hj=>?_⟩;rw[<-r4]at hj;rw[fJ,<-Array.getElem?_toList]
  have au:j<fs.length*4:=by
   have:=(aN.1 hj).1;rw[bK]at this;omega
  rw[iI au]at hj;exact hj
 have ai:(Ey x).toList.length=1*4:=rfl
 have J:∀j u,(Ey x).toList[j]? =M u->w.cell? ((⟨n3,0,Z⟩:Addr).add j)=M u:=λj u hj=>by
  rw[show(⟨n3,0,Z⟩:Addr).add j=⟨n3,j,Z⟩ from by unfold Addr.add;split<;>simp_all,aI h3];simpa using hj
 have I:∀u∈(Ey x).toList,u.oneCell'=bB:=λu hu=>by
  simp only[dD,List.not_mem_nil,or_false]at hu;rcases hu with rfl|rfl|rfl|rfl<;>rfl
 have af:fs.length+1<=maxLen:=by unfold maxLen;omega
 obtain⟨v',w',hr,ho,hg,a3⟩:=run_append_own (P:=U) w 0 106 106 109 ie _ 4 32 lz hi ae ah ag rfl aA v _ _ aa _ 1 1 _ ai J I af aA (dL _);obtain⟨a7,a6,ac,_,⟨g2,a4,a5,az⟩,ar⟩:=ao.append (P:=U) 106 106 ie _ 32 lz hi ae ah ag rfl aA _ 1 1 _ aA ai J I af aA;rw[hr]at ac;simp only[Result.ok.injEq]at ac;obtain⟨rfl,rfl⟩:=ac;have a1:=events_append_where (P:=U) w 0 106 106 109 ie _ 4 32 lz hi ae ah ag v _ _ aa _ 1 1 _ ai J I af aA
 obtain⟨g',aj,E,aq,_,ak,a8,aw,ay,av⟩:∃g cap z,v'=aM (M ⟨g,0,Z⟩) (fs.length+1) cap/\0<=g/\w'.heap[g]? =M (aL z 109 (0,0))/\fs.length+1<=cap/\cap<=maxLen/\z.size=cap*4/\z.toList.take ((fs.length+1)*4)=flat fs++(Ey x).toList:=by
  obtain⟨h,_⟩|h:=ho.2
  .rw[az]at h;cases h
  .exact h
 refine⟨v',w',_,hr,cF ⟨g',aj,E,by grind,rfl,by grind,aw,ay,by rw[aS,Fr.zT];exact av⟩,λes a0=>?_⟩
 have ap:∀g,v.ownBlock=M g->∃ob,R=[(g,ob)]:=λg hg=>by
  obtain⟨rfl,_⟩|⟨g',cap,z,rfl,rfl,_⟩:=hR
  .cases hg
  .cases hg;exact⟨_,rfl⟩
 have hE:∀{X1 N':Nat},∀e∈es,EvA (A++(R++L0)) X1 N' e:=λe he=>by
  have he:=a0 e he;obtain⟨ad,I,⟨_,h2⟩|h2⟩|⟨mk,rfl,h2⟩:=a1 e he
  .exact WX (Ol (Mc _ _ _) he) I ⟨_,List.mem_append_left _ am,h2.symm⟩
  .obtain⟨ob,rfl⟩:=ap _ h2.symm;exact WX (Ol (Mc _ _ _) he) I ⟨(ad.block,ob),aC,rfl⟩
  .unfold Neutral at h2;subst h2;exact cF (cF (bN ⟨_,_,rfl⟩))
 obtain⟨I,h2,h3⟩|⟨I,h2,h3⟩:=ar
 .rw[aq]at I;have I:M g'=v.ownBlock:=I;obtain⟨ob,rfl⟩:=ap _ I.symm;have:=Turn.set (i:=A.length) (o':=aL E 109) (w0:={ w with heap:=Array.replicate n0 default }) (es:=es) (by simpa using hl) (show(A++([(g',ob)]++L0))[A.length]? =M (g',ob) by simp) h3 (λy hy=>?_) ak h2.tape h2.os h2.output hE
  .simpa using this
  .obtain h|h:=gG y w.heap.size
   .exact h2.block y h λe=>hy (by grind)
   grind
 .rw[aq]at I;have I:M g'=M w.heap.size:=I;cases I;have ht:=Turn.lay (w0:={ w with heap:=Array.replicate n0 default }) (es:=es) (by simpa using hl) h3 (λy hy=>h2.block y hy aC) ak h2.tape h2.os h2.output hE;have hs:(A++(w.heap.size,aL E 109)::L0).Sublist (A++(w.heap.size,aL E 109)::(R++L0)):=(iO A).append (.cons_cons _ (List.sublist_append_right _ _));have hp:((w.heap.size,aL E 109)::(A++(R++L0))).Perm (A++(w.heap.size,aL E 109)::(R++L0)):=List.perm_middle.symm;exact⟨ht.tape,ht.os,ht.output,ht.size,ht.block,λp hp'=>ht.mem p (hp.mem_iff.2 (hs.subset hp')),((hp.pairwise_iff λh=>Ne.symm h).1 ht.ord).sublist hs,ht.events⟩
end
end Cr
namespace Cr
open Go Go.Conc Go.ConcN Go.RowKit Go.Conc.Lib Go.ConcR.Gen Go.ConcN.Gen
open Go.ConcR (KK WgAt stA smA Payload DC0)
open Fr (F flat one fv frames)
variable {n j:Nat}{w:X}{v v':aD}{t:cH}{p:l8}
def o9(o:km):Bool:=match o.op with|.defer _=>aR|_=>bB
def o9.out{o:km}(h:o9 o=bB)(c:Go.Call):o.op≠.defer c:=λe=>by simp[o9,e]at h
section
variable {S:Who}{m:Nat}{St:kC->cA->X->Prop}{K0:kC}{w0:X}{L L0:List (Nat×oA)}{b:cT}{a:Act}{k:List Item}{cs:List cT}{ops:Array km}{i:Nat}{rest:List Nat}{o:km}
def QO{X1 z i:Nat}{ob:oA}{wr:Bool}(h:L[j]? =M (n,ob)):EvA L X1 z ⟨.cell ⟨n,i,Z⟩,wr,aR⟩:=bN ⟨_,_,rfl,bN ⟨_,aX h,rfl⟩⟩
def Wc.rdR(v:aD)(I:ops[i]? =M o)(hw:cS o (yielded ops a.tmps)=bB)(hk:b.kind≠.early)(hd:o9 o=bB)(h:∀w,Lies L w0.heap.size w->(bO a.eval o).run U w=.ok (.value v) w/\∀e∈(bO a.eval o).events U w #[],EvA L w.heap.size w.heap.size e)(E:Wc U S m St K0 w0 L (G (b.atR (a.put o.dst v) (bR ops rest::k)) cs)):Wc U S m St K0 w0 L (G (b.atR a (bR ops (i::rest)::k)) cs):=
 .opR I hw hk (o9.out hd) λw z=>⟨v,w,L,bN (h w z).1,.still z λe J=>(h w z).2 e (im J),E⟩
def Wc.alR(ob:oA)(v:Nat->aD)(I:ops[i]? =M o)(hw:cS o (yielded ops a.tmps)=bB)(hk:b.kind≠.early)(hd:o9 o=bB)(h:∀w,Lies L w0.heap.size w->(bO a.eval o).run U w=.ok (.value (v w.heap.size)) (w.alloc ob)/\∀e∈(bO a.eval o).events U w #[],EvA L w.heap.size (w.heap.size+1) e)(E:∀n,Wc U S m St K0 w0 ((n,ob)::L) (G (b.atR (a.put o.dst (v n)) (bR ops rest::k)) cs)):Wc U S m St K0 w0 L (G (b.atR a (bR ops (i::rest)::k)) cs):=
 .opR I hw hk (o9.out hd) λw z=>⟨_,_,_,bN (h w z).1,.alloc z ob λe J=>(h w z).2 e (im J),E _⟩
def Wc.stR{B:Nat}{ob:oA}(z:oA)(R:L[j]? =M (B,ob))(J:ops[i]? =M o)(hw:cS o (yielded ops a.tmps)=bB)(hk:b.kind≠.early)(hd:o9 o=bB)(h:∀w,Lies L w0.heap.size w->(bO a.eval o).run U w=.ok .skip (w.putObj B z)/\∀e∈(bO a.eval o).events U w #[],EvA L w.heap.size w.heap.size e)(I:Wc U S m St K0 w0 (L.set j (B,z)) (G (b.atR (a.put o.dst aH) (bR ops rest::k)) cs)):Wc U S m St K0 w0 L (G (b.atR a (bR ops (i::rest)::k)) cs):=
 .opR J hw hk (o9.out hd) λw E=>⟨_,_,_,cF ⟨(h w E).1,rfl⟩,.put E R λe Y=>(h w E).2 e (im Y),I⟩
def DN(I:L[j]? =M (n,aL #[v] t))(J:Lies L w0.heap.size w)(hp:a.eval p=aG (M ⟨n,0,Z⟩))(z:o.op=.load t p)(ht:t=106\/t=3\/t=9):(bO a.eval o).run U w=.ok (.value v) w/\∀e∈(bO a.eval o).events U w #[],EvA L w.heap.size w.heap.size e:=by
 have h:=oG J I;have c0:w.cell? ⟨n,0,Z⟩=M v:=by simp[eQ,h]
 unfold bO;simp only[z,hp];rcases ht with rfl|rfl|rfl<;>
 .refine⟨by simp[go_sem,c0],λe E=>?_⟩;simp[go_sem,c0]at E;subst E;exact QO I
def P5{q:l8}(E:L[j]? =M (n,aL #[v] t))(Y:Lies L w0.heap.size w)(hp:a.eval p=aG (M ⟨n,0,Z⟩))(R:a.eval q=v')(z:o.op=.store t p q)(ht:(∃a k c,v'=.slice a k c/\t=106)\/∃e,v'=N aE e/\t=3):(bO a.eval o).run U w=.ok .skip (w.putObj n (aL #[v'] t))/\∀e∈(bO a.eval o).events U w #[],EvA L w.heap.size w.heap.size e:=by
 have h:=oG Y E;have c0:w.cell? ⟨n,0,Z⟩=M v:=by simp[eQ,h]
 have J:w.frozen? ⟨n,0,Z⟩=aR:=aQ h 0;have hs:w.setCell ⟨n,0,Z⟩ v'=w.putObj n (aL #[v'] t):=TD h;unfold bO;simp only[z,hp,R,<-hs];rcases ht with⟨a,k,c,rfl,rfl⟩|⟨e,rfl,rfl⟩<;>
 .refine⟨by simp[go_sem,stored,c0,J],λe I=>?_⟩;simp[go_sem,stored,storedEv,c0,J,pg _ _ _ _ _ _ (show(aM _ _ _).oneCell'=bB from rfl)]at I;subst I;exact QO E
def E5{w':X}{xv:aD}(s x:l8)(t:cH)(z:o.op=.call { callee:=.builtin .append,args:=#[s,x],argTypes:=#[t,t] })(hs:a.eval s=v)(I:a.eval x=xv)(E:(iB #[t,t] o.type #[v,xv]).run U w=.ok v' w'):(bO a.eval o).run U w=.ok (.value v') w':=by
 unfold bO;simp only[z,resolve,invoke,builtin,iU,Sem.run_pure,iq,fQ,eP,fP,hs,I,E]
def VW(w:X)(x:F):(m9 106 1 #[(0,.agg (Ey x))]).run U w=.ok (aM (M ⟨w.heap.size,0,Z⟩) 1 1) (w.alloc (aL (Ey x) 109))/\(m9 106 1 #[(0,.agg (Ey x))]).events U w #[]=#[]:=by
 obtain⟨J,R,I,z,Y⟩:∃i,Tryz.prog.info? 109=M i/\i.zero=M (.agg JC)/\i.size=4/\i.bytes=32:=by
  have:=Qs;cases h:Tryz.prog.info? 109 with
  |none=>grind
  |some i=>
   grind
 have E:Instr.fill (λi=>M (i*J.size,J.size)) ((Array.range (1*J.size)).map ((Value.agg JC).cells[· % (Value.agg JC).cells.size]!)) (#[(0,Value.agg (Ey x))]:Array (Nat×aD)).toList=M (Ey x):=by rw[z];kernel_rfl
 refine⟨run_buildSlice w _ _ 1 _ _ J _ lz R I (by rw[z];decide) (by rw[z];decide) E,?_⟩;have E:Instr.fill (λi=>M (i*4,4)) (Array.map (λx=>(Value.agg JC).cells[x%(Value.agg JC).cells.size]!) (Array.range 4)) [(0,.agg (Ey x))]=M (Ey x):=by rw[z]at E;exact E
 simp[E,m9,eB lz,sizeOf,typeInfo,zeroValue,R,I,z,newRow]
def MO{c0 n0:Int}{I:ByteArray}{J:Bool}(R:L[j]? =M (n,aL (LD c0 n0 I J) 109))(hl:Lies L w0.heap.size w)(hp:a.eval p=aG (M ⟨n,0,Z⟩))(z:o.op=.load 109 p):(bO a.eval o).run U w=.ok (.value (.agg (LD c0 n0 I J))) w/\∀e∈(bO a.eval o).events U w #[],EvA L w.heap.size w.heap.size e:=by
 have h:=oG hl R;have c0:=aI h 0;have c1:=aI h 1;have E:=aI h 2;have c3:=aI h 3;unfold bO;simp only[z,hp];refine⟨by simp[go_sem,c0,c1,E,c3],λe Y=>?_⟩;simp[go_sem,c0,c1,E,c3]at Y;rcases Y with rfl|rfl|rfl|rfl<;>exact QO R
noncomputable def YI:Code:=match Tryz.f112.body with
 |some (bL _ (bL _ (bL _ (bL _ (bL _ (bL (bL _ (.block _ (.rangeFunc _ _ c _))) _))))))=>c
 |_=>.skip
noncomputable def VT:Code:=match Tryz.f112.body with
 |some (bL _ (bL _ (bL _ (bL _ (bL _ (bL (bL _ (.block _ (.rangeFunc _ _ _ c))) _))))))=>c
 |_=>.skip
noncomputable def ftl:Code:=match Tryz.f112.body with
 |some (bL _ (bL _ (bL _ (bL _ (bL _ (bL _ c))))))=>c
 |_=>.skip
def UG{u0 u1 u2 u3 u4 u7 u8 u9 ae ac a4 az aw au ao aj ap a0 av ar a2 ah a3 aa am ai ak a1 ay aq af an ag:aD}{l d sb E F p e:Nat}{T:ByteArray}{fs:List Fr.F}{x:Fr.F}{R:List (Nat×oA)}{r:Loop}{c:cT}(a8:r.state=.ready)(a9:r.pending=Z)(hR:zq v fs R)(a7:fs.length<1048576)(nx:∀v' R',zq v' (fs++[x]) R'->Wc U S m St K0 w0 ((l,.loop r)::(d,eA (M []))::(sb,aL #[bE T] 9)::(E,aL #[N aE e] 3)::(F,aL #[v'] 106)::(R'++L0)) (G (c.finish (cM bB)) cs)):Wc U S m St K0 w0 ((l,.loop r)::(d,eA (M []))::(sb,aL #[bE T] 9)::(E,aL #[N aE p] 3)::(F,aL #[v] 106)::(R++L0)) (G (Frame.round l 112 #[u0,u1,u2,u3,u4,aG (M ⟨F,0,Z⟩),aG (M ⟨E,0,Z⟩),u7,u8,u9,ae,ac,a4,az,aw,au,ao,aj,ap,a0,N aE e,.agg (Ey x),av,ar,a2,ah,a3,aa,am,ai,ak,a1,ay,aq,af,an,ag] YI VT .normal) (c::cs)):=by
 rw[show Frame.round l 112 #[u0,u1,u2,u3,u4,aG (M ⟨F,0,Z⟩),aG (M ⟨E,0,Z⟩),u7,u8,u9,ae,ac,a4,az,aw,au,ao,aj,ap,a0,N aE e,.agg (Ey x),av,ar,a2,ah,a3,aa,am,ai,ak,a1,ay,aq,af,an,ag] YI VT .normal=Frame.atR { base 112 with roundOf:=M l } { tmps:=#[u0,u1,u2,u3,u4,aG (M ⟨F,0,Z⟩),aG (M ⟨E,0,Z⟩),u7,u8,u9,ae,ac,a4,az,aw,au,ao,aj,ap,a0,N aE e,.agg (Ey x),av,ar,a2,ah,a3,aa,am,ai,ak,a1,ay,aq,af,an,ag],defers:=[] } [.code YI,.beginRound,.code VT] from rfl];obtain⟨bb,Y⟩:∃bb,bb=({ base 112 with roundOf:=M l }:cT):=⟨_,rfl⟩
 have hk:bb.kind=.normal:=by rw[Y];rfl
 have z:bb.kind≠.early:=by rw[hk];decide
 have a5:bb.roundOf=M l:=by rw[Y]
 rw[<-Y];clear Y;have NX:Hid _:=nx;clear nx;rw[show YI=bL _ _ from rfl];refine Wc.aft (Wc.aaP [0] rfl ?_);refine Wc.rdR (.int _ e) rfl rfl z rfl (λw _=>⟨rfl,λe J=>by simp[go_sem]at J⟩) ?_;walk_nrm;refine Wc.Sj (Wc.aaP [0,1] rfl ?_);refine Wc.alR (aL JC 109) (λn=>aG (M ⟨n,0,Z⟩)) rfl rfl z rfl (λw I=>⟨by simp[go_sem],λe J=>by simp[go_sem]at J⟩) λfb=>?_;walk_nrm;refine Wc.stR (j:=0) (aL (Ey x) 109) rfl rfl rfl z rfl (λw I=>qB rfl rfl rfl w I) ?_;walk_nrm;refine Wc.Sj (Wc.begin (j:=1) rfl a8 a5 z ?_);rw[show VT=.block 1 (bL _ _) from rfl];refine Wc.acF (Wc.aft (Wc.aaP [0,1,2,3,4] rfl ?_));refine Wc.rdR v rfl rfl z rfl (λw I=>DN (j:=5) rfl I rfl rfl (bN rfl)) ?_;walk_nrm;refine Wc.rdR (.agg (Ey x)) rfl rfl z rfl (λw I=>MO (j:=0) rfl I rfl rfl) ?_;walk_nrm;refine Wc.alR (aL (Ey x) 109) (λn=>aM (M ⟨n,0,Z⟩) 1 1) rfl rfl z rfl (λw I=>?_) λn3=>?_
 .have h:=VW w x;refine⟨by simp[go_sem,h.1],λe J=>?_⟩;simp[go_sem,h.2]at J
 walk_nrm;refine Wc.opR rfl rfl z (o9.out rfl) λw I=>?_;obtain⟨v',w',R',h1,a6,h2⟩:=abf (A:=[(n3,aL _ 109),(fb,aL _ 109),(l,.loop _),(d,.deferred _),(sb,aL _ 9),(E,aL _ 3),(F,aL _ 106)]) (n3:=n3) hR I (.head _) a7;refine⟨v',w',_,bN (E5 _ _ _ rfl rfl rfl h1),h2 _ λe J=>by have J:=im J;rw[events_append_op (v:=v) (xv:=aM (M ⟨n3,0,Z⟩) 1 1) (cR 22) (cR 24) 106 rfl rfl rfl]at J;exact J,?_⟩;clear h1 h2 I;obtain⟨va,vc,hv⟩:=a6.slice;walk_nrm;refine Wc.stR (j:=6) (aL #[v'] 106) rfl rfl rfl z rfl (λw I=>P5 (j:=6) rfl I rfl rfl rfl (bN ⟨_,_,_,hv,rfl⟩)) ?_;walk_nrm;refine Wc.Sj (Wc.aaP [0,1] rfl ?_);refine Wc.rdR (.int _ e) rfl rfl z rfl (λw _=>⟨rfl,λe J=>by simp[go_sem]at J⟩) ?_;walk_nrm;refine Wc.stR (j:=5) (aL #[.int _ e] 3) rfl rfl rfl z rfl (λw I=>P5 (j:=5) rfl I rfl rfl rfl (cF ⟨_,rfl,rfl⟩)) ?_;walk_nrm;refine Wc.Sj (Wc.VY (Wc.ag5 (j:=2) rfl a5 hk ?_));refine Wc.drop (.cons _ (.cons _ (iO _))) ?_;have hr:({ ({ r with state:=.busy }:Loop)with state:=.ready,pending:=Z }:Loop)=r:=by cases r;simp_all
 rw[hr];exact NX.out v' R' a6
end
end Cr
namespace Cr
open Go Go.Conc Go.ConcN Go.RowKit Go.Conc.Lib Go.ConcR.Gen Go.ConcN.Gen
open Go.ConcR (KK WgAt stA smA Payload DC0)
open Fr (F flat one fv frames Vk)
noncomputable def YP:Code:=match Tryz.f145.body with
 |some (bL _ (.block _ (.loop c)))=>c
 |_=>.skip
section
variable {S:Who}{m:Nat}{St:kC->cA->X->Prop}{K0:kC}{w0:X}{L0:List (Nat×oA)}{cs:List cT}
abbrev fTA(s T:ByteArray)(F E sb:Nat)(x y:aD):Array aD:=#[bE s,aH,aM Z 0 0,cM aR,bE T,aG (M ⟨F,0,Z⟩),aG (M ⟨E,0,Z⟩),aH,aH,bE s,cM aR,cM aR,bE s,N .u8 0,cM aR,cM aR,bE s,bE T,bE T,.func (.func 145) #[] #[aG (M ⟨sb,0,Z⟩)],x,y,aH,aH,aH,aH,aH,aH,aH,aH,aH,aH,aH,aH,aH,aH,aH]
noncomputable abbrev aaN(s T:ByteArray)(F E sb d:Nat):Loop:={ state:=.ready,pending:=Z,fn:=112,tmps:=fTA s T F E sb aH aH,params:=#[20,21],assign:=YI,body:=VT,defers:=d }
noncomputable abbrev fLs(s T:ByteArray)(F E sb d l p:Nat)(v:aD)(R:List (Nat×oA)):List (Nat×oA):=(l,.loop (aaN s T F E sb d))::(d,eA (M []))::(sb,aL #[bE T] 9)::(E,aL #[N aE p] 3)::(F,aL #[v] 106)::R
def Ut{s T:ByteArray}{l d sb E F:Nat}{b:cT}{a:Act}{k:List Item}(hT:T.size<=1048576)(nx:∀v fs R p,zq v fs R->Vk T.data.toList fs p->one T.data.toList p=Z->Wc U S m St K0 w0 (fLs s T F E sb d l p v (R++L0)) (G (b.at a (.endRangeFunc l::k)) cs)):∀r p,T.size-p<r->∀v fs R,zq v fs R->Vk T.data.toList fs p->∀u4 u5 u6 u7 u8 u9 ac aa au ap ao am ai ah aj ar ae ag an ak af:aD,Wc U S m St K0 w0 (fLs s T F E sb d l p v (R++L0)) (G ((base 145).at { tmps:=#[.func (.yield l) #[] #[],aG (M ⟨sb,0,Z⟩),aH,N aE p,u4,u5,u6,u7,u8,u9,ac,aa,au,ap,ao,am,ai,ah,aj,ar,ae,ag,an,ak,af],defers:=[] } [.code YP,.inLoop YP,.inBlock 0]) (b.at a (.inRangeFunc l::k)::cs)):=by
 intro r
 induction r with
 |zero=>intro p hr;omega
 |succ r ih=>
  intro p hr v fs R hR hA u4 u5 u6 u7 u8 u9 ac aa au ap ao am ai ah aj ar ae ag an ak af;have aq:=hA.le;rw[<-bD]at aq;have ay:(0:Int)<=(p:Int):=aA
  have av:(p:Int)<=T.size:=aA
  have Y:=TA (T.extract p T.size) aF;rw[show(T.extract p T.size).data.toList=T.data.toList.drop p by rw[Fr.ext_list,eH aC],<-Fr.BK _ _ (by rw[<-bD];exact aq.1)]at Y;have ev:=λw es=>oJ T _ _ w es (Ci T p w es ay av);rw[show YP=.block 1 (bL _ _) from rfl];refine Wc.block (Wc.seq (Wc.reg [0,1,2,3,4,5,6,7,8,9,10,11] rfl ?_));refine Wc.rd _ rfl rfl (eD _) (λw J=>DN (j:=2) rfl J rfl rfl (cF (cF rfl))) ?_;walk_nrm;have HR:Hid _:=hR;have HA:Hid _:=hA;have NX:Hid _:=nx;have IH:Hid _:=ih;have HF:Hid _:=Y;clear hR hA nx ih Y;refine Wc.go 50 λK w z=>?_
  iterate 2 u_op At.en z
  refine cL λ_ I=>Wc.use ?_ (z.en I);clear z;refine HF.out _ _ _ _ _ _ _ _ _ _ _ _ _ _ _ _ rfl rfl (eD _) rfl (by simp[Act.eval]) ?_;walk_nrm;generalize hC:one T.data.toList p=C;cases C with
  |none=>
   simp only[fv];refine Wc.go 50 λK w z=>?_
   iterate 4 u_op At.en z
   refine cL λ_ I=>Wc.use ?_ (z.en I);clear z;refine Wc.al (aL JC 109) (λn=>aG (M ⟨n,0,Z⟩)) rfl rfl (eD _) (λw J=>⟨by simp[go_sem],λe he=>by simp[go_sem]at he⟩) λfb=>?_;walk_nrm;refine Wc.st (j:=0) (aL JC 109) rfl rfl rfl (eD _) (λw J=>qB rfl rfl rfl w J) ?_;walk_nrm;refine Wc.go 50 λK w z=>?_
   iterate 2 u_op At.en z
   u_c bA At.en z
   iterate 2 u_c cE At.en z
   u_reg At.en z
   iterate 2 u_op At.en z
   u_c bA At.en z;u_cond bB At.en z;refine cL λ_ I=>Wc.use ?_ (z.en I);clear z;refine .ret λtodo=>.back _ rfl rfl rfl Tryz.func145 (λw=>⟨results_none rfl _ _ _,by simp[results,Tryz.results145]⟩) (Wc.drop (iT _ _) (NX.out _ _ _ _ HR.out HA.out hC))
  |some x=>
   obtain⟨f,n⟩:=x;have ho:=Fr.one_le hC;rw[<-bD]at ho;simp only[fv];refine Wc.go 50 λK w z=>?_
   iterate 4 u_op At.en z
   refine cL λ_ I=>Wc.use ?_ (z.en I);clear z;refine Wc.al (aL JC 109) (λn=>aG (M ⟨n,0,Z⟩)) rfl rfl (eD _) (λw J=>⟨by simp[go_sem],λe he=>by simp[go_sem]at he⟩) λfb=>?_;walk_nrm;refine Wc.st (j:=0) (aL (Ey f) 109) rfl rfl rfl (eD _) (λw J=>qB rfl rfl rfl w J) ?_;walk_nrm;refine Wc.go 50 λK w z=>?_
   iterate 2 u_op At.en z
   u_c bA At.en z
   iterate 2 u_c cE At.en z
   u_reg At.en z
   iterate 2 u_op At.en z
   u_c bA At.en z;u_cond aR At.en z;u_c ij At.en z;u_c cE At.en z;u_reg At.en z
   iterate 4 u_op At.en z
   u_c bA At.en z;u_c cE At.en z;u_reg At.en z
   iterate 2 u_op At.en z
   refine cL λ_ I=>Wc.use ?_ (z.en I);clear z;refine Wc.rd (.agg (Ey f)) rfl rfl (eD _) (λw J=>MO (j:=0) rfl J rfl rfl) ?_;walk_nrm;rw[show IntKind.i64.wrap ((p:Int)+n)=((p+n:Nat):Int) by rw[gA];omega];refine Wc.yield (j:=1) rfl rfl rfl (eD _) rfl rfl rfl ?_;refine Wc.drop (iT _ _) ?_;have ht:((aaN s T F E sb d).params.zip #[N aE ((p+n:Nat):Int),.agg (Ey f)]).foldl (λtmps (t,a)=>tmps.setIfInBounds t a) (aaN s T F E sb d).tmps=fTA s T F E sb (N aE ((p+n:Nat):Int)) (.agg (Ey f)):=XN
   walk_nrm;rw[ht];refine UG (r:=aaN s T F E sb d) (x:=f) (e:=p+n) rfl rfl HR.out aA λv' R' aw=>?_;rw[fO];walk_nrm;refine Wc.go 50 λK w z=>?_;u_op At.en z;u_c bA At.en z;u_cond aR At.en z;u_c ij At.en z;u_c stepG_inBlock At.en z;u_c stepG_inLoop At.en z;refine cL λ_ I=>Wc.use ?_ (z.en I);exact IH.out _ aA v' _ R' aw (.snoc HA.out hC) _ _ _ _ _ _ _ _ _ _ _ _ _ _ _ _ _ _ _ _ _
end
end Cr
