import Derived.Test.YtpibpdpedjinhaaGreatDoorP16
import Derived.Great.BuildSlice
set_option maxRecDepth 100000
set_option maxHeartbeats 4000000
set_option linter.all false
open Bool renaming false->aL,true->bB
open Go renaming Addr->gF,Event->mb,Frame->cU,Program->cY,TypeId->cH,Value->aD,World->U,events_store->rK,execOp->bL,run_underlying->eL
open Go.Builtin renaming append_->lO,copy_->oF,firstCells->oS,len_->mA,unsafeString_->oo
open Go.Conc renaming mem_listed->jp,stepG_region_end->bA,stepG_seq->bR,stepG_skip->gM
open Go.Conc.Goes renaming stop->cI
open Go.ConcR.Gen renaming base_kind->dT
open Go.Instr renaming index->mo,slice->lA,sliceBounds->n9
open Go.IntKind renaming i64->X,u16->mE,u32->dE,wrap_i64->cP
open Go.Lib renaming byteCells->lz,byteCells_length->nv
open Go.Obj renaming cells->aG
open Go.Operand renaming tmp->eC
open Go.Proofs.Tryz renaming prog->bE,underlying155->fX,underlying239->qt,underlying76->mx,underlying9->eI
open Go.Value renaming bool->cF,int->N,ownBlock->eA,pointer->aM,slice->aR,string->aH,tuple->dC
open Go.World renaming cell?->fR,freeze->iN,setCell->eW,setCells->oX,shape?->gC
open Option renaming none->Z,some->M
open Or renaming inl->cJ,inr->cK
namespace Go.Proofs.YtpibpdpedjinhaaGreatDoor
namespace Cr
open Go Go.Conc Go.ConcN Go.RowKit Go.Conc.Lib Go.ConcR.Gen Go.ConcN.Gen
open Go.ConcR (KK WgAt stA smA Payload DC0)
section
variable {e:mb}{P:cY}{w:U}
theorem Xl{L:List (Nat×Obj)}{X1 E:Nat}{ad:gF}(hp:pl e)(q:e.loc=.cell ad)(I:∃p∈L,p.1=ad.block):EvA L X1 E e:=by obtain⟨J,wr,Y⟩:=e;cases q;cases hp ad rfl;exact cJ ⟨ad,wr,rfl,cJ I⟩
theorem yN{P:cY}{w:U}:∀(l:List UInt8)(a:gF)(E:ByteArray)(es:Array mb),(∀j x,l[j]? =M x->w.cell? (a.add j)=M (N .u8 x.toNat))->∀e∈(loadBytes a E l.length).events P w es,e∈es\/∃a',e=⟨.cell a',aL,aL⟩/\a'.block=a.block
 |[],_,_,_,_=>λe q=>cJ (by simpa[loadBytes]using q)
 |x::l,a,E,es,h=>λe q=>by
  have J:w.cell? a=M (N .u8 x.toNat):=by
   have:=h 0 x rfl;simpa[Addr.add]using this
  simp only[aU,loadBytes,Sem.events_bind]at q;simp[J]at q;obtain k|⟨a',rfl,k⟩:=yN l (a.add 1) _ _ (λj y I=>by have:=h (j+1) y (by simpa using I);rw[show(a.add 1).add j=a.add (j+1) from by unfold Addr.add;split<;>split<;>simp_all<;>omega];exact this) e q
  .grind
  .exact cK ⟨a',rfl,k.trans (addBlock a 1)⟩
theorem afe(pt it ty e:cH)(hp:P.underlying pt=M (.pointer e))(hc:P.cellsOf e=1)(g cells:Nat)(aa:w.shape? g=M (e,cells))(l:List UInt8)(h0:l≠[])(hn:l.length<=cells)(ac:l.length<=9223372036854775807)(q:∀j x,l[j]? =M x->w.cell? ((⟨g,0,Z⟩:gF).add j)=M (N .u8 x.toNat)):∀ev∈(oo #[pt,it] ty #[aM (M ⟨g,0,Z⟩),N X l.length]).events P w #[],∃a',ev=⟨.cell a',aL,aL⟩/\a'.block=g:=by
 have hl:l.length≠0:=by simpa using h0
 have ab:=Lib.run_loadBytes (P:=P) w l _ .empty q;have E:=Lib.liesAt_bytes (P:=P) hc (cells/P.cellsOf e) l.length (by rw[hc];simpa using hn);have J:¬(9223372036854775807:Int)<(l.length:Int):=aA
 have I:IntKind.i64.max=9223372036854775807:=rfl;have Y:¬(l.length:Int)<0:=aA
 intro ev he;change ev∈(asInt (N X l.length) >>= _).events P w #[]at he;simp[asInt,asIntOf,I,J,Y,hl,variablesAt,aa,elemOf,eL hp,E,ab]at he;obtain k|k:=yN l ⟨g,0,Z⟩ .empty #[] q ev he
 .simp at k
 .exact k
theorem Jz(ty:cH)(s:ByteArray)(w:U)(es:Array mb):(mA #[9] ty #[aH s]).events bE w es=es:=by simp[mA,eL eI]
theorem O9{α:Type}{s:Sem α}(h:na s)(q:e∈s.events P w #[]):pl e:=aeT h w #[] aC e q
theorem acd:(Tryz.prog.info? 5).map (λi=>(i.zero,i.size,i.bytes))=M (M (N .u8 0),1,1):=XN
theorem VF(s:ByteArray)(hs:s.size<=16777216):Ret 198 #[aH s] (aH s):=by
 intro S m St K0 w0 L b a k cs ops i rest o xs av ho hw hk am hx nx;refine Wc.call ho hw hk am Tryz.func198 rfl rfl ?_;rw[hx];simp only[Tryz.ntmps198,dR,aU,bY,Nat.reduceAdd,Nat.reduceSub,dH,dG,dU,dI,dS,dN];have NX:Hid _:=nx;have el:=Jz;clear nx;by_cases h0:s.size=0
 .obtain rfl:s=⟨#[]⟩:=ByteArray.ext (Array.eq_empty_of_size_eq_zero h0);refine Wc.go 30 λK w q=>?_;u_c bR At.en q;u_reg At.en q;u_op At.en q;u_c bA At.en q
  iterate 2 u_c bR At.en q
  u_reg At.en q
  iterate 3 u_op At.en q
  u_c bA At.en q;u_cond bB At.en q;u_c bR At.en q;u_reg At.en q;u_op At.en q;u_c bA At.en q;refine cI λ_ E=>Wc.use ?_ (q.en E);refine .ret λtodo=>.Bq rfl rfl rfl Tryz.func198 rfl rfl ?_;rw[fO,ho];exact NX.out
 have ar:((s.size:Int) == 0)=aL:=by rw[beq_eq_false_iff_ne];omega
 refine Wc.go 30 λK w q=>?_;u_c bR At.en q;u_reg At.en q;u_op At.en q;u_c bA At.en q
 iterate 2 u_c bR At.en q
 u_reg At.en q
 iterate 3 u_op At.en q
 u_c bA At.en q;u_cond aL At.en q;u_c gM At.en q;u_c bR At.en q;u_reg At.en q
 iterate 2 u_op At.en q
 refine cI λ_ E=>Wc.use ?_ (q.en E);clear q
 obtain⟨ie,hi,af,ah,ab⟩:∃i,Tryz.prog.info? 5=M i/\i.zero=M (N .u8 0)/\i.size=1/\i.bytes=1:=by
  have:=acd;cases h:Tryz.prog.info? 5 with
  |none=>grind
  |some i=>
   grind
 obtain⟨XS,hM⟩:∃XS,XS=madeCells (N .u8 0).cells (((s.size:Nat):Int).toNat*ie.size):=⟨_,rfl⟩
 have ao:XS.size=s.size:=by rw[hM,size_madeCells,ah];simp
 refine Wc.al (aG XS 5) (λn=>aR (M ⟨n,0,Z⟩) s.size s.size) rfl rfl (dT _) (λw I=>?_) λn=>?_
 .have ai:=run_make (P:=bE) w 155 5 ie _ fX hi af X X s.size s.size aA aA (by rw[ab];omega) aA;have an:=events_make (P:=bE) w 155 5 ie _ fX hi af X X s.size s.size aA aA (by rw[ab];omega) aA (by rw[ab];omega) #[];rw[<-hM]at ai;refine⟨by simp[go_sem,ai],λe J=>?_⟩;simp[go_sem,an]at J
 clear hM;walk_nrm;refine Wc.go 30 λK w q=>?_;u_op At.en q;u_c bA At.en q;u_c bR At.en q;u_reg At.en q
 iterate 2 u_op At.en q
 refine cI λ_ E=>Wc.use ?_ (q.en E);clear q;obtain⟨Y,hY⟩:∃Y,Y=(XS.toList.take 0++lz s.data.toList++XS.toList.drop (0+s.size)).toArray:=⟨_,rfl⟩
 have ag:Y.toList=lz s.data.toList:=by
  rw[hY,List.toList_toArray,List.take_zero,dS,List.drop_of_length_le (by grind),gI]
 have au:Y.size=s.size:=by rw[<-Array.length_toList,ag,nv,<-bD]
 refine Wc.op rfl rfl (dT _) λw I=>⟨goInt s.size,w.setRow n Y,(n,aG Y 5)::L,cJ ?run,?turn,?_⟩
 case run=>
  have ae:=Lib.run_copy_row_string (P:=bE) w 155 9 3 5 n 0 _ s.size s XS 5 fX (by rw[hi];simp[ah]) (oH I) jE aA;rw[<-hY]at ae;simp[go_sem,ae]
 case turn=>
  refine Turn.set (i:=0) I rfl aC (λx hx=>setRow_other _ _ _ _ hx) (setRow_heap _ _ XS _ _ _ (oH I)) rfl rfl rfl λe J=>?_;have J:e∈(oF #[155,9] 3 #[aR (M ⟨n,0,Z⟩) s.size s.size,aH s]).events bE w #[]:=by simpa[go_sem]using jp J
  have hp:=O9 (adt _ _ _) J;simp[oF,eL fX,Builtin.lenOf,oS,sizeOf,typeInfo,hi]at J
  have ak:List.take s.size (List.map (λb:UInt8=>N IntKind.u8 (b.toNat:Int)) s.data.toList)=lz s.data.toList:=by
   rw[eH aC];rfl
  rw[ak]at J;have aq:(lz s.data.toList).length=s.size:=by rw[nv,<-bD]
  obtain k|⟨ad,k1,k2⟩:=events_storeCells_at n 0 5 (lz s.data.toList) 0 XS w #[] (oH I) aA (Lib.byteCells_one _) e J
  .simp at k
  .exact Xl hp k1 ⟨_,.head _,k2.symm⟩
 clear I hY ao XS;walk_nrm;have ap:0<s.size:=aA
 refine Wc.go 30 λK w q=>?_;u_c bA At.en q;u_c bR At.en q;u_reg At.en q
 iterate 4 u_op At.en q
 refine cI λ_ E=>Wc.use ?_ (q.en E);clear q;have aa:s.data.toList≠[]:=λe=>h0 (by rw[bD,e];rfl);have aj:∀(w:U),w.heap[n]? =M (aG Y 5 (0,0))->∀j x,s.data.toList[j]? =M x->w.cell? ((⟨n,0,Z⟩:gF).add j)=M (N .u8 x.toNat):=λw hg j x hx=>Lib.cells_of_row hg Y.size j _ (by rw[eH aC,ag];simp[lz,hx]);refine Wc.op rfl rfl (dT _) λw I=>⟨aH s,w.freeze ⟨n,0,Z⟩ s.size,(n,aG Y 5 (0,s.size))::L,cJ ?run,?turn,?_⟩
 case run=>
  have ac:=Lib.run_unsafeString_row (P:=bE) w 239 3 9 5 qt XN n Y.size (by unfold gC;rw[oH I]) _ aa (by rw[<-bD];omega) (by rw[<-bD];omega) (aj w (oH I));rw[<-bD]at ac;simp[go_sem,ac]
 case turn=>
  have hf:(w.freeze ⟨n,0,Z⟩ s.size).heap=w.heap.modify n λo=>match o with|aG c e (lo,hi)=>aG c e (if lo == hi then(0,0+s.size)else(min lo 0,max hi (0+s.size)))|o=>o:=by simp only[iN,Zs h0];rfl
  refine Turn.set (i:=0) I rfl (by rw[hf];simp) (λx hx=>by grind) (by rw[hf,bT,ZD rfl,oH I];simp) (by simp[iN,h0]) (by simp[iN,h0]) (by simp[iN,h0]) λe J=>?_;have J:e∈(oo #[239,3] 9 #[aM (M ⟨n,0,Z⟩),N X s.size]).events bE w #[]:=by simpa[go_sem]using jp J
  rw[bD]at J;obtain⟨a',rfl,k⟩:=afe 239 3 9 5 qt XN n Y.size (by unfold gC;rw[oH I]) _ aa (by rw[<-bD];omega) (by rw[<-bD];omega) (aj w (oH I)) e J;exact cJ ⟨a',aL,rfl,cJ ⟨_,.head _,k.symm⟩⟩
 clear I;walk_nrm;refine Wc.go 30 λK w q=>?_;u_op At.en q;u_c bA At.en q;refine cI λ_ E=>Wc.use ?_ (q.en E);refine .ret λtodo=>.Bq rfl rfl rfl Tryz.func198 rfl rfl (Wc.drop (iY _ _) ?_);rw[fO,ho];exact NX.out
theorem Ub(s:ByteArray)(hs:s.size<=16777216):Ret 151 #[aH s] (aH s):=by intro S m St K0 w0 L b a k cs ops i rest o xs aa ho hw hk I hx J;refine Wc.call ho hw hk I Tryz.func151 rfl rfl ?_;rw[hx];simp only[Tryz.ntmps151,dR,aU,bY,Nat.reduceAdd,Nat.reduceSub,dH,dG,dU,dI,dS,dN];have Y:Hid _:=J;clear J;refine Wc.go 30 λK w q=>?_;u_c bR At.en q;u_reg At.en q;u_op At.en q;u_c bA At.en q;u_c bR At.en q;u_reg At.en q;u_op At.en q;refine cI λ_ E=>Wc.use ?_ (q.en E);clear q;refine VF s hs _ _ _ _ _ _ _ _ _ _ _ _ _ _ _ _ rfl rfl (dT _) rfl (by simp[Act.eval]) ?_;walk_nrm;refine Wc.go 30 λK w q=>?_;u_op At.en q;u_c bA At.en q;refine cI λ_ E=>Wc.use ?_ (q.en E);refine .ret λtodo=>.Bq rfl rfl rfl Tryz.func151 rfl rfl ?_;rw[fO,ho];exact Y.out
end
end Cr
namespace Cr
open Go Go.Conc Go.ConcN Go.RowKit Go.Conc.Lib Go.ConcR.Gen Go.ConcN.Gen
open Go.ConcR (KK WgAt stA smA Payload DC0)
open Fr (big one fv)
variable {n:Nat}{t:cH}{w:U}
theorem wn{o:Oper}{y:Nat->Option Bool}(h:o.guard=Z):Region.wanted o y=bB:=by simp[Region.wanted,h]
theorem acO(u:U)(s:ByteArray)(i:Int)(j:Nat)(q:j<s.size)(e:i=(j:Int)):(mo 9 (aH s) (N X i)).run bE u=.ok (N .u8 (s[j].toNat:Int)) u:=by subst e;rw[run_index_string u _ s X _ eI,dif_pos aA];simp
theorem zx(l:Int)(n:Nat)(c:BoundsCode)(w:U)(es:Array mb)(E:0<=l)(q:l<=n):(Instr.sliceBound (N X l) n c).events bE w es=es:=by
 have h2:¬l<0:=aA
 have h3:¬(n:Int)<l:=aA
 simp[Instr.sliceBound,asIntOf,asInt,E,q,h2,h3]
theorem Em(s:ByteArray)(l h:Int)(w:U)(es:Array mb)(q:0<=l)(E:l<=h)(h2:h<=s.size):(lA 9 (aH s) (M (N X l)) (M (N X h)) Z).events bE w es=es:=by have k:=λc=>zx l h.toNat c w es q aA;simp[lA,eL eI,n9,run_sliceBound,zx,sliced,E,h2,(by omega:0<=h),q,k]
theorem Qu(s:ByteArray)(h:Int)(w:U)(es:Array mb)(q:0<=h)(h2:h<=s.size):(lA 9 (aH s) Z (M (N X h)) Z).events bE w es=es:=by simp[lA,eL eI,n9,run_sliceBound,zx,sliced,h2,q]
theorem D9(s:ByteArray)(l:Int)(w:U)(es:Array mb)(E:0<=l)(q:l<=s.size):(lA 9 (aH s) (M (N X l)) Z Z).events bE w es=es:=by simp[lA,eL eI,n9,run_sliceBound,zx,sliced,q,E]
theorem oP(s:ByteArray)(lo q:Option aD)(w:U)(es:Array mb)(h:(lA 9 (aH s) lo q Z).events bE w es=es):(Instr.sliceAt 9 (aH s) lo q Z).events bE w es=es:=by simp[Instr.sliceAt,h]
theorem FQ(s:ByteArray)(i:Int)(w:U)(es:Array mb)(E:0<=i)(q:i<s.size):(mo 9 (aH s) (N X i)).events bE w es=es:=by simp[mo,eL eI,go_sem,E,q]
abbrev Nh(ch q:Int)(d:ByteArray)(l:Bool):Array aD:=#[N dE ch,N mE q,aH d,.bool l]
abbrev KP:Array aD:=Nh 0 0 ⟨#[]⟩ aL
noncomputable def IC:Array Oper:=match Tryz.f142.body with
 |some (.seq _ (.seq _ (.seq _ (.seq _ (.seq (.region _ ops _) _)))))=>ops
 |_=>#[]
theorem adG:fills 47 IC=bB:=XN
section
variable {S:Who}{m:Nat}{St:jZ->Goroutine->U->Prop}{K0:jZ}{w0:U}{L:List (Nat×Obj)}{cs:List cU}
theorem wI{j:Nat}{c:Array aD}{q:Nat×Nat}(h:Lies ((n,aG c t q)::L) w0.heap.size w):w.cell? ⟨n,j,Z⟩=c[j]?:=by have:=oH h;simp[fR,this]
theorem agS{a b c d x y z u:aD}(h:w.heap[n]? =M (aG #[a,b,c,d] t)):(((w.setCell ⟨n,0,Z⟩ x).setCell ⟨n,1,Z⟩ y).setCell ⟨n,2,Z⟩ z).setCell ⟨n,3,Z⟩ u=w.putObj n (aG #[x,y,z,u] t):=by
 simp only[eW,World.putObj]
 congr 1
 apply gB;intro j;by_cases e:n=j
 .subst e;have q:=(jG h)
  rw[bT,ZD rfl,bT,ZD rfl,bT,ZD rfl,bT,ZD rfl,h,aV,ZD rfl,ZD q];rfl
 .grind
theorem qQ{c0 n0 E n1:Int}{d0 d1:ByteArray}{l0 l1:Bool}{p q:Operand}{a:Act}{o:Oper}(hp:a.eval p=aM (M ⟨n,0,Z⟩))(hq:a.eval q=.agg (Nh E n1 d1 l1))(Y:o.op=.store 81 p q)(w:U)(hl:Lies ((n,aG (Nh c0 n0 d0 l0) 81)::L) w0.heap.size w):(bL a.eval o).run bE w=.ok .skip (w.putObj n (aG (Nh E n1 d1 l1) 81))/\∀e∈(bL a.eval o).events bE w #[],EvA ((n,aG (Nh c0 n0 d0 l0) 81)::L) w.heap.size w.heap.size e:=by
 have h:=oH hl;have b1:(w.setCell ⟨n,0,Z⟩ (N dE E)).heap[n]? =M (aG #[N dE E,N mE n0,aH d0,.bool l0] 81):=by simp[eW,bT,h]
 have b2:((w.setCell ⟨n,0,Z⟩ (N dE E)).setCell ⟨n,1,Z⟩ (N mE n1)).heap[n]? =M (aG #[N dE E,N mE n1,aH d0,.bool l0] 81):=by simp[eW,bT,h]
 have b3:(((w.setCell ⟨n,0,Z⟩ (N dE E)).setCell ⟨n,1,Z⟩ (N mE n1)).setCell ⟨n,2,Z⟩ (aH d1)).heap[n]? =M (aG #[N dE E,N mE n1,aH d1,.bool l0] 81):=by simp[eW,bT,h]
 have I:=aI h 0;have J:=aI b1 1;have aa:=aI b2 2;have ab:=aI b3 3;have z0:=aQ h 0;have z1:=aQ b1 1;have z2:=aQ b2 2;have z3:=aQ b3 3;constructor
 .unfold bL;simp only[Y,hp,hq];rw[<-agS h];simp[go_sem,stored,I,z0,J,z1,aa,z2,ab,z3]
 .unfold bL;simp only[Y,hp,hq];intro e he;simp[go_sem,stored,storedEv,I,z0,J,z1,aa,z2,ab,z3,rK _ _ _ _ _ _ (show(aH d1).oneCell'=bB from rfl),rK _ _ _ _ _ _ (show(cF l1).oneCell'=bB from rfl)]at he;rcases he with rfl|rfl|rfl|rfl<;>exact Kv
theorem rC{c Y:Int}{d:ByteArray}{l:Bool}{E v4:aD}{a:Act}{todo:List Item}{cf:cU}(hd:a.defers=[])(t2:a.tmps[2]? =M (aM (M ⟨n,0,Z⟩)))(t3:a.tmps[3]? =M E)(t4:a.tmps[4]? =M v4)(nx:Wc bE S m St K0 w0 L (G (cf.finish (dC #[.agg (Nh c Y d l),E,v4])) cs)):Wc bE S m St K0 w0 ((n,aG (Nh c Y d l) 81)::L) (G { (base 142).at a todo with mode:=.returning } (cf::cs)):=by
 refine Wc.leave _ rfl hd rfl Tryz.func142 (λw q=>?_) (Wc.drop (iY _ _) nx);have c0:=wI (j:=0) q;have I:=wI (j:=1) q;have J:=wI (j:=2) q;have c3:=wI (j:=3) q;refine⟨by simp[results,Tryz.results142,go_sem,Frame.at,t2,t3,t4,c0,I,J,c3],λe he=>?_⟩;simp[results,Tryz.results142,go_sem,Frame.at,t2,t3,t4,c0,I,J,c3]at he;rcases he with rfl|rfl|rfl|rfl<;>exact Kv
end
def BO(s D:ByteArray)(E q c X1:Nat)(lb:Bool)(i:Nat):aD:=(#[aH s,aH (s.extract 0 4),N dE E,aH s,aH (s.extract 4 6),N dE q,N mE q,aH s,N X (8+(X1:Int)+1),N X (8+(X1:Int)),aH D,aH D,aH s,N X (8+(X1:Int)+1),N X (8+(X1:Int)),N .u8 c,.bool lb,.agg (Nh E q D lb),N X (8+(X1:Int)+1),undef,N X (8+(X1:Int)+1),cF bB]:Array aD).getD i undef
def jl6(n E q:Nat)(D:ByteArray)(lb:Bool)(L:List (Nat×Obj))(l:Array Bool):List (Nat×Obj):=(n,if l.getD 19 aL then aG (Nh E q D lb) 81 else aG KP 81)::L
section
variable {S:Who}{m:Nat}{St:jZ->Goroutine->U->Prop}{K0:jZ}{w0:U}{L:List (Nat×Obj)}{cs:List cU}{cf:cU}
theorem adq{s D:ByteArray}{C4 Y c X1:Nat}{lb:Bool}(hs:s.size<=16777216)(ag:(8:Int)<=(s.size:Int))(av:8+X1<s.size)(l4:Y<65536)(aq:∀u:U,(mo 9 (aH s) (N X (8+(X1:Int)))).run bE u=.ok (N .u8 (c:Int)) u)(au:((c:Int) == 1)=lb)(hD:s.extract 8 (8+X1)=D)(ap:D.size<=16777216)(n4:Ret 194 #[aH (s.extract 4 6)] (N dE Y))(n0:Ret 194 #[aH (s.extract 0 4)] (N dE C4))(nx:Wc bE S m St K0 w0 L (G (cf.finish (dC #[.agg (Nh C4 Y D lb),N X (8+(X1:Int)+1),cF bB])) cs))(a:Act)(ha:a.tmps.size=47/\a.defers=[]/\a.tmps[2]? =M (aM (M ⟨n,0,Z⟩))/\a.tmps[0]? =M (aH s)/\a.tmps[5]? =M (N X (8+(X1:Int)+1))):Wc bE S m St K0 w0 ((n,aG KP 81)::L) (G ((base 142).at a [.code (.seq (.region 6 IC bB) .ret)]) (cf::cs)):=by
 refine Wc.seq (Wc.fill (V:=BO s D C4 Y c X1 lb) (L':=(n,aG (Nh C4 Y D lb) 81)::L) (by rw[ha.1];exact adG) (λl a' hl hF=>?_) (jl6 n C4 Y D lb L) rfl (λl hl=>by rw[jl6,hl 19 aB];rfl) λl a' i o rest ho hi ao hF J=>?_)
 .have e:∀{i t},i<22->ou IC i=M t->a'.tmps[t]? =M (BO s D C4 Y c X1 lb i):=λhi hd=>hF.got _ _ hd (hl _ hi);exact .ret λtodo=>rC (hF.defers.trans ha.2.1) ((hF.slot XN).trans ha.2.2.1) (e (i:=20) aB rfl) (e (i:=21) aB rfl) nx
 .have keep:i≠19->jl6 n C4 Y D lb L (l.setIfInBounds i bB)=jl6 n C4 Y D lb L l:=λe=>by simp only[jl6,getD_set_ne aL e]
  have go:i≠19->o.guard=Z->(∀w,(bL a'.eval o).run bE w=.ok (.value (BO s D C4 Y c X1 lb i)) w)->(∀w,∀e∈(bL a'.eval o).events bE w #[],False)->Wc bE S m St K0 w0 (jl6 n C4 Y D lb L l) (G ((base 142).at a' (.inRegion IC (i::rest)::[.code .ret])) (cf::cs)):=λe I hr E=>
   Wc.rd _ ho (wn I) (dT _) (λw _=>⟨hr w,λe h=>(E w e h).elim⟩) (by grind)
  have ak:=(jG ho)
  have dep:∀j t,waits IC i j=bB->ou IC j=M t->a'.eval (eC t)=BO s D C4 Y c X1 lb j:=λj t hw hd=>hF.ev hd (ao j hw);have e0:=hF.old (s:=0) XN ha.2.2.2.1;have e5:=hF.old (s:=5) XN ha.2.2.2.2;have ah:(4:Int)<=(s.size:Int):=aA
  have ai:(6:Int)<=(s.size:Int):=aA
  have hN:8+(X1:Int)<=s.size:=aA
  have af:IntKind.u16.wrap (Y:Int)=Y:=by rw[IntKind.wrap_u16];omega
  have ac:IntKind.i64.wrap (8+(X1:Int))=8+(X1:Int):=by rw[cP];omega
  have ab:IntKind.i64.wrap (8+(X1:Int)+1-1)=8+(X1:Int):=by rw[cP];omega
  have aa:8+(X1:Int)+1-1=8+(X1:Int):=aA
  have am:=λw es=>oP s _ _ w es (Qu s 4 w es aA ah);have ar:=λw es=>oP s _ _ w es (Em s 4 6 w es aA aA ai);have aj:=λw es=>oP s _ _ w es (Em s 8 _ w es aA aA hN);have an:=λw es=>FQ s (8+X1) w es aA aA;have sl:∀u:U,(lA 9 (aH s) (M (N X 8)) (M (N X (8+(X1:Int)))) Z).run bE u=.ok (aH D) u:=λu=>by rw[run_slice_string u _ s X X _ _ eI aA aA hN,show s.extract (8:Int).toNat (8+(X1:Int)).toNat=D by rw[<-hD];congr 1]
  have bd:∀w:U,(Instr.build 81 #[(0,N dE C4),(1,N mE Y),(2,aH D),(3,.bool lb)]).run bE w=.ok (.agg (Nh C4 Y D lb)) w:=λw=>run_build w _ _ _ XN
  match i,ak with
  |0,_=>
   obtain⟨q,I⟩:=lK (.move (eC 0),Z) ho rfl;refine go aB I (λw=>?_) λw e E=>?_
   .unfold bL;simp only[q,e0];rfl
   .unfold bL at E;simp only[q,e0]at E;simp[go_sem]at E
  |1,_=>
   obtain⟨q,I⟩:=lK (.slice 9 (eC 28) Z _ Z,Z) ho rfl;refine go aB I (λw=>?_) λw e E=>?_
   .unfold bL;simp only[q,jk,cO,dep 0 28 rfl rfl];simp[BO,go_sem,ag,ah]
   .unfold bL at E;simp only[q,jk,cO,dep 0 28 rfl rfl]at E;simp[BO,go_sem,am]at E
  |2,_=>
   obtain⟨q,I⟩:=lK (.call { callee:=.value (.func 194),args:=#[eC 29],argTypes:=#[9] },Z) ho rfl;have hn:=J;rw[keep aB]at hn;exact n0 _ _ _ _ _ _ _ _ _ _ _ _ _ _ _ _ ho (wn I) (dT _) q (by simp[dep 1 29 rfl rfl,BO]) hn
  |3,_=>
   obtain⟨q,I⟩:=lK (.move (eC 0),Z) ho rfl;refine go aB I (λw=>?_) λw e E=>?_
   .unfold bL;simp only[q,e0];rfl
   .unfold bL at E;simp only[q,e0]at E;simp[go_sem]at E
  |4,_=>
   obtain⟨q,I⟩:=lK (.slice 9 (eC 31) _ _ Z,Z) ho rfl;refine go aB I (λw=>?_) λw e E=>?_
   .unfold bL;simp only[q,jk,cO,dep 3 31 rfl rfl];simp[BO,go_sem,ag,ai]
   .unfold bL at E;simp only[q,jk,cO,dep 3 31 rfl rfl]at E;simp[BO,go_sem,ar]at E
  |5,_=>
   obtain⟨q,I⟩:=lK (.call { callee:=.value (.func 194),args:=#[eC 32],argTypes:=#[9] },Z) ho rfl;have hn:=J;rw[keep aB]at hn;exact n4 _ _ _ _ _ _ _ _ _ _ _ _ _ _ _ _ ho (wn I) (dT _) q (by simp[dep 4 32 rfl rfl,BO]) hn
  |6,_=>
   obtain⟨q,I⟩:=lK (.convert 22 79 (eC 33),Z) ho rfl;refine go aB I (λw=>?_) λw e E=>?_
   .unfold bL;simp only[q,dep 5 33 rfl rfl];simp[BO,go_sem,af]
   .unfold bL at E;simp only[q,dep 5 33 rfl rfl]at E;simp[BO,go_sem]at E
  |7,_=>
   obtain⟨q,I⟩:=lK (.move (eC 0),Z) ho rfl;refine go aB I (λw=>?_) λw e E=>?_
   .unfold bL;simp only[q,e0];rfl
   .unfold bL at E;simp only[q,e0]at E;simp[go_sem]at E
  |8,_=>
   obtain⟨q,I⟩:=lK (.move (eC 5),Z) ho rfl;refine go aB I (λw=>?_) λw e E=>?_
   .unfold bL;simp only[q,e5];rfl
   .unfold bL at E;simp only[q,e5]at E;simp[go_sem]at E
  |9,_=>
   obtain⟨q,I⟩:=lK (.binOp _ 3 (eC 36) _ 3,Z) ho rfl;refine go aB I (λw=>?_) λw e E=>?_
   .unfold bL;simp only[q,dep 8 36 rfl rfl];simp[BO,go_sem,ab,aa,ac]
   .unfold bL at E;simp only[q,dep 8 36 rfl rfl]at E;simp[BO,go_sem]at E
  |10,_=>
   obtain⟨q,I⟩:=lK (.slice 9 (eC 35) _ (M (eC 37)) Z,Z) ho rfl;refine go aB I (λw=>?_) λw e E=>?_
   .unfold bL;simp only[q,jk,cO,dep 7 35 rfl rfl,dep 9 37 rfl rfl];simp[BO,go_sem,sl w]
   .unfold bL at E;simp only[q,jk,cO,dep 7 35 rfl rfl,dep 9 37 rfl rfl]at E;simp[BO,go_sem,aj]at E
  |11,_=>
   obtain⟨q,I⟩:=lK (.call { callee:=.value (.func 151),args:=#[eC 38],argTypes:=#[9] },Z) ho rfl;have hn:=J;rw[keep aB]at hn;exact Ub D ap _ _ _ _ _ _ _ _ _ _ _ _ _ _ _ _ ho (wn I) (dT _) q (by simp[dep 10 38 rfl rfl,BO]) hn
  |12,_=>
   obtain⟨q,I⟩:=lK (.move (eC 0),Z) ho rfl;refine go aB I (λw=>?_) λw e E=>?_
   .unfold bL;simp only[q,e0];rfl
   .unfold bL at E;simp only[q,e0]at E;simp[go_sem]at E
  |13,_=>
   obtain⟨q,I⟩:=lK (.move (eC 5),Z) ho rfl;refine go aB I (λw=>?_) λw e E=>?_
   .unfold bL;simp only[q,e5];rfl
   .unfold bL at E;simp only[q,e5]at E;simp[go_sem]at E
  |14,_=>
   obtain⟨q,I⟩:=lK (.binOp _ 3 (eC 41) _ 3,Z) ho rfl;refine go aB I (λw=>?_) λw e E=>?_
   .unfold bL;simp only[q,dep 13 41 rfl rfl];simp[BO,go_sem,ab,aa,ac]
   .unfold bL at E;simp only[q,dep 13 41 rfl rfl]at E;simp[BO,go_sem]at E
  |15,_=>
   obtain⟨q,I⟩:=lK (.index 9 (eC 40) (eC 42),Z) ho rfl;refine go aB I (λw=>?_) λw e E=>?_
   .unfold bL;simp only[q,dep 12 40 rfl rfl,dep 14 42 rfl rfl];simp[BO,go_sem,aq]
   .unfold bL at E;simp only[q,dep 12 40 rfl rfl,dep 14 42 rfl rfl]at E;simp[BO,go_sem,an]at E
  |16,_=>
   obtain⟨q,I⟩:=lK (.binOp _ 5 (eC 43) _ 5,Z) ho rfl;refine go aB I (λw=>?_) λw e E=>?_
   .unfold bL;simp only[q,dep 15 43 rfl rfl];simp[BO,go_sem,au]
   .unfold bL at E;simp only[q,dep 15 43 rfl rfl]at E;simp[BO,go_sem]at E
  |17,_=>
   obtain⟨q,I⟩:=lK (.build 81 #[(0,eC 30),(1,eC 34),(2,eC 39),(3,eC 44)],Z) ho rfl;refine go aB I (λw=>?_) λw e E=>?_
   .unfold bL;simp only[q,fQ,eP,fP,dep 2 30 rfl rfl,dep 6 34 rfl rfl,dep 11 39 rfl rfl,dep 16 44 rfl rfl];simp[BO,go_sem,bd]
   .unfold bL at E;simp only[q,fQ,eP,fP,dep 2 30 rfl rfl,dep 6 34 rfl rfl,dep 11 39 rfl rfl,dep 16 44 rfl rfl]at E;simp[BO,go_sem]at E
  |18,_=>
   obtain⟨q,I⟩:=lK (.move (eC 5),Z) ho rfl;refine go aB I (λw=>?_) λw e E=>?_
   .unfold bL;simp only[q,e5];rfl
   .unfold bL at E;simp only[q,e5]at E;simp[go_sem]at E
  |19,_=>
   obtain⟨q,I⟩:=lK (.store 81 (eC 2) (eC 45),Z) ho rfl;have ae:=RV hi;have hn:=J;simp only[jl6,ae.1,ae.2,if_true,if_false,bU]at hn⊢;exact Wc.st (j:=0) _ rfl ho (wn I) (dT _) (λw hl=>qQ (hF.old (s:=2) XN ha.2.2.1) (dep 17 45 rfl rfl) q w hl) hn
  |20,_=>
   obtain⟨q,I⟩:=lK (.assign (eC 46),Z) ho rfl;refine go aB I (λw=>?_) λw e E=>?_
   .unfold bL;simp only[q,dep 18 46 rfl rfl];rfl
   .unfold bL at E;simp only[q,dep 18 46 rfl rfl]at E;simp[go_sem]at E
  |21,_=>
   obtain⟨q,I⟩:=lK (.assign _,Z) ho rfl;refine go aB I (λw=>?_) λw e E=>?_
   .unfold bL;simp only[q];rfl
   .unfold bL at E;simp only[q]at E;simp[go_sem]at E
end
theorem Uk(s:ByteArray)(hs:s.size<=16777216):Ret 142 #[aH s] (fv (one s.data.toList 0)):=by
 intro S m St K0 w0 L b a k cs ops i rest o xs a1 ho hw hk ai hx nx;refine Wc.call ho hw hk ai Tryz.func142 rfl rfl ?_;rw[hx];simp only[Tryz.ntmps142,dR,aU,bY,Nat.reduceAdd,Nat.reduceSub,dH,dG,dU,dI,dS,dN]
 have nx:Wc bE S m St K0 w0 L (G ((b.at a (.inRegion ops (i::rest)::k)).finish (fv (one s.data.toList 0))) cs):=by
  rw[fO,ho];exact nx
 have hl:=bD s;obtain⟨R,hR⟩:∃R,one s.data.toList 0=R:=⟨_,rfl⟩
 rw[hR]at nx;generalize b.at a (.inRegion ops (i::rest)::k)=cf at nx;have NX:Hid _:=nx;have el:=Jz;clear nx ho hw hk ai hx;refine Wc.seq (Wc.reg [0,1,2] rfl ?_);refine Wc.al (aG KP 81) (λn=>aM (M ⟨n,0,Z⟩)) rfl rfl (dT _) (λw hl=>⟨by simp[go_sem],λe he=>by simp[go_sem]at he⟩) λn=>?_;walk_nrm;by_cases h8:s.size<8
 .obtain rfl:R=Z:=hR.symm.trans (Fr.MH aA);have aq:(s.size:Int)<8:=by omega
  clear hl hR;refine Wc.go 30 λK w q=>?_
  iterate 2 u_op At.en q
  u_c bA At.en q
  iterate 2 u_c bR At.en q
  u_reg At.en q
  iterate 3 u_op At.en q
  u_c bA At.en q;u_cond bB At.en q;u_c bR At.en q;u_reg At.en q;u_op At.en q;refine cI λ_ E=>Wc.use ?_ (q.en E);clear q;refine Wc.st (j:=0) (aG KP 81) rfl rfl rfl (dT _) (λw hl=>qQ rfl rfl rfl w hl) ?_;walk_nrm;refine Wc.go 30 λK w q=>?_
  iterate 2 u_op At.en q
  u_c bA At.en q;refine cI λ_ E=>Wc.use ?_ (q.en E);exact .ret λtodo=>rC rfl rfl rfl rfl NX.out
 have aq:¬(s.size:Int)<8:=aA
 have ac:(8:Int)<=(s.size:Int):=aA
 have e6:big (s.extract 6 8).data.toList 0 (s.extract 6 8).size=big s.data.toList 6 2:=by
  rw[Fr.ext_list,show(s.extract 6 8).size=2 from by simp[fA];omega];exact Fr.JJ _ 6 2
 have e4:big (s.extract 4 6).data.toList 0 (s.extract 4 6).size=big s.data.toList 4 2:=by
  rw[Fr.ext_list,show(s.extract 4 6).size=2 from by simp[fA];omega];exact Fr.JJ _ 4 2
 have e0:big (s.extract 0 4).data.toList 0 (s.extract 0 4).size=big s.data.toList 0 4:=by
  rw[Fr.ext_list,show(s.extract 0 4).size=4 from by simp[fA];omega];exact Fr.JJ _ 0 4
 have n6:=xO (s.extract 6 8) (by simp[fA];omega);have n4:=xO (s.extract 4 6) (by simp[fA];omega);have n0:=xO (s.extract 0 4) (by simp[fA];omega);rw[e6]at n6;rw[e4]at n4;rw[e0]at n0;clear e6 e4 e0;have l6:=Fr.vM s.data.toList 6 2;have l0:=Fr.vM s.data.toList 0 4;have l4:=Fr.vM s.data.toList 4 2;simp only[Nat.reducePow]at l6 l0 l4;have I:s.size≠8->one s.data.toList 0=_:=λh=>Fr.abX (s:=s.data.toList) (p:=0) aA;simp only[fJ]at I;generalize hN:big s.data.toList 6 2=X1 at *;generalize au:big s.data.toList 0 4=C4 at *;generalize am:big s.data.toList 4 2=C2 at *;have N6:Hid _:=n6;have N4:Hid _:=n4;have N0:Hid _:=n0;have J:Hid _:=I;have Hl:Hid _:=hl;have HR:Hid _:=hR;clear n6 n4 n0 I hl hN au am hR;refine Wc.go 30 λK w q=>?_
 iterate 2 u_op At.en q
 u_c bA At.en q
 iterate 2 u_c bR At.en q
 u_reg At.en q
 iterate 3 u_op At.en q
 u_c bA At.en q;u_cond aL At.en q;u_c gM At.en q;u_c bR At.en q;u_reg At.en q;u_op At.en q;have ev:=λw es=>oP s _ _ w es (Em s 6 8 w es aA aA ac);u_op At.en q;refine cI λ_ E=>Wc.use ?_ (q.en E);clear q ev;refine N6.out _ _ _ _ _ _ _ _ _ _ _ _ _ _ _ _ rfl rfl (dT _) rfl (by simp[Act.eval]) ?_;walk_nrm;have az:IntKind.i64.wrap (X1:Int)=X1:=by rw[cP];omega
 have aw:IntKind.i64.wrap (8+(X1:Int))=8+(X1:Int):=by rw[cP];omega
 have ay:IntKind.i64.wrap (8+(X1:Int)+1)=8+(X1:Int)+1:=by rw[cP];omega
 by_cases hn:s.size<9+X1
 .have an:(s.size:Int)<8+(X1:Int)+1:=by omega
  obtain rfl:R=Z:=HR.out.symm.trans (by
   by_cases h:s.size=8
   .exact Fr.MH (by rw[<-Hl.out];omega)
   .rw[J.out h,ZD (by rw[<-Hl.out];exact hn)])
  refine Wc.go 40 λK w q=>?_
  iterate 4 u_op At.en q
  u_c bA At.en q
  iterate 2 u_c bR At.en q
  u_reg At.en q
  iterate 5 u_op At.en q
  iterate 5 u_skip At.en q
  u_op At.en q;u_c bA At.en q;u_cond bB At.en q;u_c bR At.en q;u_reg At.en q;u_op At.en q;refine cI λ_ E=>Wc.use ?_ (q.en E);clear q;refine Wc.st (j:=0) (aG KP 81) rfl rfl rfl (dT _) (λw hl=>qQ rfl rfl rfl w hl) ?_;walk_nrm;refine Wc.go 30 λK w q=>?_
  iterate 2 u_op At.en q
  u_c bA At.en q;refine cI λ_ E=>Wc.use ?_ (q.en E);exact .ret λtodo=>rC rfl rfl rfl rfl NX.out
 have an:¬(s.size:Int)<8+(X1:Int)+1:=aA
 have ab:8+X1<s.size:=aA
 have ah:=λu=>acO u s (8+X1) _ ab aA;have a2:=λw es=>FQ s (8+X1) w es aA aA;have ag:=Fr.getD_byte s _ ab;obtain⟨c,hc⟩:∃c:Nat,s[8+X1].toNat=c:=⟨_,rfl⟩
 have a3:c<256:=by rw[<-hc];exact UInt8.toNat_lt _
 rw[hc]at ah;have Y:=J.out aA;rw[Zs (by rw[<-Hl.out];omega),ag,hc]at Y;have aa:Hid _:=Y;have av:IntKind.i64.wrap (8+(X1:Int)+1-1)=8+(X1:Int):=by rw[cP];omega
 have ax:8+(X1:Int)+1-1=8+(X1:Int):=aA
 clear ag hc Y J;by_cases aj:1<c
 .have ae:(1:Int)<(c:Int):=by omega
  obtain rfl:R=Z:=HR.out.symm.trans (by rw[aa.out,ZD aj]);refine Wc.go 40 λK w q=>?_
  iterate 4 u_op At.en q
  u_c bA At.en q
  iterate 2 u_c bR At.en q
  u_reg At.en q
  iterate 11 u_op At.en q
  u_c bA At.en q;u_cond bB At.en q;u_c bR At.en q;u_reg At.en q;u_op At.en q;refine cI λ_ E=>Wc.use ?_ (q.en E);clear q;refine Wc.st (j:=0) (aG KP 81) rfl rfl rfl (dT _) (λw hl=>qQ rfl rfl rfl w hl) ?_;walk_nrm;refine Wc.go 30 λK w q=>?_
  iterate 2 u_op At.en q
  u_c bA At.en q;refine cI λ_ E=>Wc.use ?_ (q.en E);exact .ret λtodo=>rC rfl rfl rfl rfl NX.out
 .have ae:¬(1:Int)<(c:Int):=by omega
  obtain⟨lb,ak⟩:∃lb:Bool,((c:Int) == 1)=lb:=⟨_,rfl⟩
  have af:(c == 1)=lb:=by
   rw[<-ak];rcases(by omega:c=0\/c=1)with rfl|rfl<;>rfl
  obtain⟨D,hD⟩:∃D:ByteArray,s.extract 8 (8+X1)=D:=⟨_,rfl⟩
  have ao:(⟨((s.data.toList.take (8+X1)).drop 8).toArray⟩:ByteArray)=D:=by rw[<-hD,<-Fr.ext_list]
  have ap:D.size<=16777216:=by rw[<-hD];simp[fA];omega
  have ar:fv R=dC #[.agg (Nh C4 C2 D lb),N X (8+(X1:Int)+1),cF bB]:=by
   rw[<-HR.out,aa.out,Zs aj,af];simp only[fv,ao,Nh]
   congr 5
   omega
  rw[ar]at NX;refine Wc.go 40 λK w q=>?_
  iterate 4 u_op At.en q
  u_c bA At.en q
  iterate 2 u_c bR At.en q
  u_reg At.en q
  iterate 11 u_op At.en q
  u_c bA At.en q;u_cond aL At.en q;u_c gM At.en q;refine cI λ_ E=>Wc.use ?_ (q.en E);clear q;exact adq (c:=c) hs ac ab l4 ah ak hD ap N4.out N0.out NX.out _ ⟨rfl,rfl,rfl,rfl,rfl⟩
end Cr
namespace Hm
open Go.RowKit Go.Joins
section
variable {g off cap:Nat}
theorem jV{w:U}{b:Nat}{q:Array aD}{e:cH}{E:Nat×Nat}(h:w.heap[b]? =M (aG q e E))(i:Nat)(v:aD):(w.setCell ⟨b,i,Z⟩ v).heap[b]? =M (aG (q.setIfInBounds i v) e E):=block_setCell h v
theorem sH:∀(vs:List aD)(o:Nat){w:U}{b:Nat}{E:Array aD}{e:cH}{I:Nat×Nat},w.heap[b]? =M (aG E e I)->
  ∃q,(w.setCells b o vs).heap[b]? =M (aG q e I)/\q.size=E.size/\(∀j,j<o\/o+vs.length<=j->q[j]? =E[j]?)/\∀j u,vs[j]? =M u->o+j<E.size->q[o+j]? =M u
 |[],o,w,b,E,e,I,h=>⟨E,h,rfl,λ_ _=>rfl,λj u J=>by simp at J⟩
 |v::vs,o,w,b,E,e,I,h=>by
  obtain⟨q,h1,h2,h3,h4⟩:=sH vs (o+1) (jV h o v);refine⟨q,h1,by rw[h2];simp,λj J=>?_,λj u J Y=>?_⟩
  .grind
  grind
theorem kT(b:Nat):∀(vs:List aD)(o:Nat)(w:U),w.grownBy (w.setCells b o vs) (M b)/\(w.setCells b o vs).heap.size=w.heap.size
 |[],o,w=>⟨⟨rfl,rfl,rfl,jE,λ_ _ _=>rfl⟩,rfl⟩
 |v::vs,o,w=>by
  obtain⟨h,hs⟩:=kT b vs (o+1) (w.setCell ⟨b,o,Z⟩ v);have E:(w.setCell ⟨b,o,Z⟩ v).heap.size=w.heap.size:=aC
  refine⟨⟨h.os.trans ?_,h.tape.trans ?_,h.output.trans ?_,by rw[oX,hs,E];exact jE,λk hk q=>(h.block k (by rw[E];exact hk) q).trans (aW _ _ _ _ (λI=>q (by rw[I])))⟩,by rw[oX,hs,E]⟩
  .rfl
  .rfl
  .rfl
def Row(w:U)(e s:Nat)(v:aD)(n:Nat)(xs:List aD):Prop:=
 xs.length=n*s/\((v=aR Z 0 0/\n=0)\/
  ∃g off cap q,v=aR (M ⟨g,off,Z⟩) n cap/\w.heap[g]? =M (aG q e (0,0))/\n<=cap/\cap<=maxLen/\off+cap*s<=q.size/\∀j u,xs[j]? =M u->q[off+j]? =M u)
section
variable {w w':U}{e s:Nat}{v:aD}{n:Nat}{xs:List aD}
theorem Row.slice(h:Row w e s v n xs):∃a cap,v=.slice a n cap:=by
 obtain⟨rfl,rfl⟩|⟨g,off,cap,q,rfl,_⟩:=h.2
 .exact⟨_,_,rfl⟩
 simp
theorem Row.pos(h:Row w e s v n xs)(I:0<n):∃g off cap,v=aR (M ⟨g,off,Z⟩) n cap/\n<=cap:=by
 obtain⟨rfl,rfl⟩|⟨g,off,cap,q,rfl,_,E,_⟩:=h.2
 .omega
 grind
theorem Row.obj(h:Row w e s v n xs)(E:v.ownBlock=M g):∃q,w.heap[g]? =M (aG q e (0,0)):=by
 obtain⟨rfl,_⟩|⟨g',off,cap,q,rfl,I,_⟩:=h.2
 .simp[eA]at E
 .simp[eA]at E
  grind
theorem Row.lt(h:Row w e s v n xs)(E:v.ownBlock=M g):g<w.heap.size:=by
 obtain⟨q,I⟩:=h.obj E
 grind
theorem Row.kept(h:Row w e s v n xs)(hk:∀g,v.ownBlock=M g->w'.heap[g]? =w.heap[g]?):Row w' e s v n xs:=by
 refine⟨h.1,?_⟩;obtain I|⟨g,off,cap,q,rfl,E,r⟩:=h.2
 .exact cJ I
 .exact cK ⟨g,off,cap,q,rfl,(hk g rfl).trans E,r⟩
theorem Row.nil(w:U)(e s:Nat):Row w e s (aR Z 0 0) 0 []:=⟨aC,cJ ⟨rfl,rfl⟩⟩
theorem Row.Y7{lo:Nat}(h:w.ownsRow lo e s v n xs):Row w e s v n xs:=by
 have q:=h.1;refine⟨q,?_⟩;obtain h0|⟨g,cap,E,rfl,hb,hh,I,J,aa,Y⟩:=h.2
 .exact cJ h0
 grind
theorem Row.cell(h:Row w e s v n xs)(q:v=aR (M ⟨g,off,Z⟩) n cap)(j:Nat)(u:aD)(Y:xs[j]? =M u):w.cell? ⟨g,off+j,Z⟩=M u:=by
 obtain⟨rfl,_⟩|⟨g',E,I,J,rfl,hh,_,_,_,hc⟩:=h.2
 .cases q
 .simp only[Value.slice.injEq,aK,Addr.mk.injEq,and_true,true_and]at q;obtain⟨⟨rfl,rfl⟩,rfl⟩:=q;have:=hc j u Y;simp[fR,hh,this]
theorem Row.frozen(h:Row w e s v n xs)(q:v=aR (M ⟨g,off,Z⟩) n cap)(i:Nat):w.frozen? ⟨g,i,Z⟩=aL:=by
 obtain⟨rfl,_⟩|⟨g',E,I,J,rfl,Y,_⟩:=h.2
 .cases q
 .simp only[Value.slice.injEq,aK,Addr.mk.injEq,and_true,true_and]at q;obtain⟨⟨rfl,rfl⟩,rfl⟩:=q;exact aQ Y i
theorem Row.append{P:cY}(h:Row w e s v n xs)(t ty:cH)(i:TypeInfo)(z:aD)(bytes:Nat)(ht:P.underlying t=M (.slice e))(hi:P.info? e=M i)(hz:i.zero=M z)(E:i.size=s)(af:i.bytes=bytes)(ak:z.cells.size=s)(ai:0<s)(a:gF)(m c:Nat)(q:List aD)(hm:0<m)(hl:q.length=m*s)(I:∀j u,q[j]? =M u->w.cell? (a.add j)=M u)(h1:∀u∈q,u.oneCell'=bB)(ac:n+m<=maxLen)(Y:(n+m)*bytes<=140737488355328):∃v' w',(lO #[t,t] ty #[v,aR (M a) m c]).run P w=.ok v' w'/\Row w' e s v' (n+m) (xs++q)/\(∃g off cap,v'=aR (M ⟨g,off,Z⟩) (n+m) cap)/\((v'.ownBlock=v.ownBlock/\w.grownBy w' v.ownBlock/\w'.heap.size=w.heap.size)\/(v'.ownBlock=M w.heap.size/\w.grownBy w' Z/\w'.heap.size=w.heap.size+1)):=by
 have hnew:∀b cap J,J.length=n*s->(∀j u,J[j]? =M u->w.cell? (b.add j)=M u)->cap<n+m->
   ∃v' w',(lO #[t,t] ty #[aR (M b) n cap,aR (M a) m c]).run P w=.ok v' w'/\Row w' e s v' (n+m) (J++q)/\(∃g off cap,v'=aR (M ⟨g,off,Z⟩) (n+m) cap)/\v'.ownBlock=M w.heap.size/\w.grownBy w' Z/\w'.heap.size=w.heap.size+1:=by
  intro b cap J am holds hg;obtain⟨v',w',hr,ho,ag⟩:=run_append_arg_grows (P:=P) w t ty e i z s bytes ht hi hz E af ak ai b n cap J am holds a m c q hl I hg ac Y;have aa:=run_append_grow (P:=P) w t ty e i z ht hi hz b n cap J (by rw[E];exact am) holds a m c q (by rw[E];exact hl) I hg (by simp only[maxLen]at ac;omega) (growslice_fits hg (by rw[af];exact Y));rw[hr]at aa;simp only[Result.ok.injEq]at aa;obtain⟨e1,e2⟩:=aa;exact⟨v',w',hr,.Y7 ho,⟨_,_,_,e1⟩,by rw[e1];rfl,ag,by rw[e2];simp⟩
 obtain⟨rfl,rfl⟩|⟨g,off,cap,aj,rfl,hh,a1,ao,aq,hc⟩:=h.2
 .have hx:xs=[]:=bP (by simpa using h.1);subst hx;obtain⟨v',w',hr,ho,ag,ax⟩:=run_append_own (P:=P) w _ t ty e i z s bytes ht hi hz E af ak ai _ 0 [] (World.ownsRow_nil w _ e s) a m c q hl I h1 ac Y jE;have ap:Row w' e s v' (0+m) ([]++q):=.Y7 ho;obtain⟨rfl,h0⟩|⟨g,cap,aj,rfl,av,hh,_⟩:=ho.2
  .omega
  .refine⟨_,w',hr,ap,⟨_,_,_,rfl⟩,cK ?_⟩
   have ah:w'.heap.size=w.heap.size+1:=by
    have aa:=run_append_nil (P:=P) w t ty e i z ht hi hz a m c q (by rw[E];exact hl) I aA (by simp only[maxLen]at ac;omega) (by grind);rw[hr]at aa;simp only[Result.ok.injEq]at aa;rw[aa.2];simp
   have aw:=(jG hh)
   exact⟨by simp[eA];omega,ag,ah⟩
 .by_cases ab:n+m<=cap
  .have au:n*s+q.length=(n+m)*s:=by rw[hl,iU]
   have a2:(n+m)*s<=cap*s:=fK _ ab
   have ae:∀j,j<q.length->(w.cell? ⟨g,off+n*i.size+j,Z⟩).isSome=bB:=λj hj=>by
    have:off+n*i.size+j<aj.size:=by rw[E];omega
    simp[fR,hh,dA this]
   have hr:=run_append_room_cells (P:=P) w t ty e i ht hi g off n cap a m c q (by rw[E];exact hl) I h1 ab ae (λj _=>aQ hh _);rw[E]at hr;obtain⟨an,k1,k2,k3,k4⟩:=sH q (off+n*s) hh;refine⟨_,_,hr,⟨by rw[aS,h.1,hl,iU],cK ⟨g,off,cap,an,rfl,k1,ab,ao,by rw[k2];exact aq,λj u hj=>?_⟩⟩,⟨_,_,_,rfl⟩,cJ ⟨rfl,(kT g q _ w).1,(kT g q _ w).2⟩⟩
   .by_cases ar:j<xs.length
    .rw[bZ ar]at hj;rw[k3 (off+j) (cJ (by rw[<-h.1];omega))];exact hc j u hj
    .rw[bV aA]at hj;have az:=(aN.1 hj).1;have ay:=h.1
     grind
  .obtain⟨v',w',hr,h2,h3,h4,h5,h6⟩:=hnew ⟨g,off,Z⟩ cap xs h.1 (λj u hj=>by
    have:=h.cell rfl j u hj;unfold Addr.add
    grind) aA
   grind
end
end
end Hm
namespace Cr
open Go Go.Conc Go.ConcN Go.RowKit Go.Conc.Lib Go.ConcR.Gen Go.ConcN.Gen
open Go.ConcR (KK WgAt stA smA Payload DC0)
open Fr (F flat)
section
variable {v:aD}{fs:List F}{R:List (Nat×Obj)}
def Aw(v:aD)(fs:List F)(R:List (Nat×Obj)):Prop:=
 (v=aR Z 0 0/\fs=[]/\R=[])\/∃g cap q,v=aR (M ⟨g,0,Z⟩) fs.length cap/\R=[(g,aG q 81)]/\fs.length<=cap/\cap<=maxLen/\q.size=cap*4/\q.toList.take (fs.length*4)=flat fs
theorem Aw.slice(h:Aw v fs R):∃a c,v=.slice a fs.length c:=by rcases h with⟨rfl,rfl,_⟩|⟨g,cap,q,rfl,_⟩<;>exact⟨_,_,rfl⟩
abbrev F6(x:F):Array aD:=Nh x.chan x.num ⟨x.data.toArray⟩ x.last
theorem QY:(Tryz.prog.info? 81).map (λi=>(i.zero,i.size,i.bytes))=M (M (.agg KP),4,32):=XN
theorem ab1{A L0:List (Nat×Obj)}{n0 n3:Nat}{x:F}{w:U}(hR:Aw v fs R)(hl:Lies (A++(R++L0)) n0 w)(ak:(n3,aG (F6 x) 81)∈A)(a1:fs.length<1048576):∃v' w' R',(lO #[76,76] 76 #[v,aR (M ⟨n3,0,Z⟩) 1 1]).run bE w=.ok v' w'/\Aw v' (fs++[x]) R'/\∀es:Array mb,(∀e∈es,e∈(lO #[76,76] 76 #[v,aR (M ⟨n3,0,Z⟩) 1 1]).events bE w #[])->Turn (A++(R++L0)) (A++(R'++L0)) w w' es:=by
 obtain⟨ie,hi,ac,ag,af⟩:∃i,Tryz.prog.info? 81=M i/\i.zero=M (.agg KP)/\i.size=4/\i.bytes=32:=by
  have:=QY;cases h:Tryz.prog.info? 81 with
  |none=>grind
  |some i=>
   grind
 have Y:=λp hp=>(hl.mem p hp).2;have h3:=Y _ (List.mem_append_left _ ak);have am:=Fr.flat_length fs
 have aa:w.ownsRow 0 81 4 v fs.length (flat fs):=by
  refine⟨am,hR.imp (λh=>⟨h.1,by rw[h.2.1];rfl⟩) ?_⟩;rintro⟨g,cap,q,e,rfl,r⟩;exact⟨g,cap,q,e,dL _,Y (g,aG q 81) aC,r⟩
 have an:Hm.Row w 81 4 v fs.length (flat fs):=by
  refine⟨am,hR.imp (λh=>⟨h.1,by rw[h.2.1];rfl⟩) ?_⟩;rintro⟨g,cap,q,e,rfl,r1,r2,r3,r4⟩;refine⟨g,0,cap,q,e,Y (g,aG q 81) aC,r1,r2,aA,λj u hj=>?_⟩;rw[<-r4]at hj;rw[fJ,<-Array.getElem?_toList]
  have ar:j<fs.length*4:=by
   have:=(aN.1 hj).1;rw[bK]at this;omega
  rw[iL ar]at hj;exact hj
 have ah:(F6 x).toList.length=1*4:=rfl
 have J:∀j u,(F6 x).toList[j]? =M u->w.cell? ((⟨n3,0,Z⟩:gF).add j)=M u:=λj u hj=>by
  rw[show(⟨n3,0,Z⟩:gF).add j=⟨n3,j,Z⟩ from by unfold Addr.add;split<;>simp_all,aI h3];simpa using hj
 have I:∀u∈(F6 x).toList,u.oneCell'=bB:=λu hu=>by
  simp only[dD,List.not_mem_nil,or_false]at hu;rcases hu with rfl|rfl|rfl|rfl<;>rfl
 have ae:fs.length+1<=maxLen:=by unfold maxLen;omega
 obtain⟨v',w',hr,ho,hg,a2⟩:=run_append_own (P:=bE) w 0 76 76 81 ie _ 4 32 mx hi ac ag af rfl aA v _ _ aa _ 1 1 _ ah J I ae aA (dL _);obtain⟨a6,a5,ab,_,⟨g2,a3,a4,ax⟩,aq⟩:=an.append (P:=bE) 76 76 ie _ 32 mx hi ac ag af rfl aA _ 1 1 _ aA ah J I ae aA;rw[hr]at ab;simp only[Result.ok.injEq]at ab;obtain⟨rfl,rfl⟩:=ab;have az:=events_append_where (P:=bE) w 0 76 76 81 ie _ 4 32 mx hi ac ag af v _ _ aa _ 1 1 _ ah J I ae aA
 obtain⟨g',ai,E,ap,_,aj,a7,av,aw,au⟩:∃g cap q,v'=aR (M ⟨g,0,Z⟩) (fs.length+1) cap/\0<=g/\w'.heap[g]? =M (aG q 81 (0,0))/\fs.length+1<=cap/\cap<=maxLen/\q.size=cap*4/\q.toList.take ((fs.length+1)*4)=flat fs++(F6 x).toList:=by
  obtain⟨h,_⟩|h:=ho.2
  .rw[ax]at h;cases h
  .exact h
 refine⟨v',w',_,hr,cK ⟨g',ai,E,by grind,rfl,by grind,av,aw,by rw[aS,Fr.Bz];exact au⟩,λes ay=>?_⟩
 have ao:∀g,v.ownBlock=M g->∃ob,R=[(g,ob)]:=λg hg=>by
  obtain⟨rfl,_⟩|⟨g',cap,q,rfl,rfl,_⟩:=hR
  .cases hg
  .cases hg;exact⟨_,rfl⟩
 have hE:∀{X1 N':Nat},∀e∈es,EvA (A++(R++L0)) X1 N' e:=λe he=>by
  have he:=ay e he;obtain⟨ad,I,⟨_,h2⟩|h2⟩|⟨mk,rfl,h2⟩:=az e he
  .exact Xl (O9 (NP _ _ _) he) I ⟨_,List.mem_append_left _ ak,h2.symm⟩
  .obtain⟨ob,rfl⟩:=ao _ h2.symm;exact Xl (O9 (NP _ _ _) he) I ⟨(ad.block,ob),aC,rfl⟩
  .unfold Neutral at h2;subst h2;exact cK (cK (cJ ⟨_,_,rfl⟩))
 obtain⟨I,h2,h3⟩|⟨I,h2,h3⟩:=aq
 .rw[ap]at I;have I:M g'=v.ownBlock:=I;obtain⟨ob,rfl⟩:=ao _ I.symm;have:=Turn.set (i:=A.length) (o':=aG E 81) (w0:={ w with heap:=Array.replicate n0 default }) (es:=es) (by simpa using hl) (show(A++([(g',ob)]++L0))[A.length]? =M (g',ob) by simp) h3 (λy hy=>?_) aj h2.tape h2.os h2.output hE
  .simpa using this
  .obtain h|h:=gG y w.heap.size
   .exact h2.block y h λe=>hy (by grind)
   grind
 .rw[ap]at I;have I:M g'=M w.heap.size:=I;cases I;have ht:=Turn.lay (w0:={ w with heap:=Array.replicate n0 default }) (es:=es) (by simpa using hl) h3 (λy hy=>h2.block y hy aC) aj h2.tape h2.os h2.output hE;have hs:(A++(w.heap.size,aG E 81)::L0).Sublist (A++(w.heap.size,aG E 81)::(R++L0)):=(iT A).append (.cons_cons _ (List.sublist_append_right _ _));have hp:((w.heap.size,aG E 81)::(A++(R++L0))).Perm (A++(w.heap.size,aG E 81)::(R++L0)):=List.perm_middle.symm;exact⟨ht.tape,ht.os,ht.output,ht.size,ht.block,λp hp'=>ht.mem p (hp.mem_iff.2 (hs.subset hp')),((hp.pairwise_iff λh=>Ne.symm h).1 ht.ord).sublist hs,ht.events⟩
end
end Cr
