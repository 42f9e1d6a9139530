import Derived.Test.YtpibpdpedjinhabGreatDoorP12
import Derived.Test.YtpibpdpedjinhabGreatDoorP15
set_option maxRecDepth 100000
set_option maxHeartbeats 4000000
set_option linter.all false
open Bool renaming false->aR,true->bB
open Go renaming Frame->cT,Func->pj,FuncId->o6,Goroutine->cA,Oper->km,Program->cU,TypeId->cH,Value->aD,World->X,callFunc->iu,events_store->pg,execOp->bO,stepG->dC,undef->aH
open Go.Act renaming eval->n8,put->eM
open Go.Conc renaming mem_listed->im,stepG_region_end->bA,stepG_seq->cE,stepG_skip->ij
open Go.Conc.Goes renaming stop->cL
open Go.ConcR.Gen renaming base_kind->eD
open Go.Extern.BytealgMakeNoZero renaming makeNoZero->mo
open Go.IntKind renaming i64->aE,u32->dT
open Go.Item renaming inRegion->bR
open Go.Obj renaming cells->aL
open Go.Operand renaming tmp->cR
open Go.Proofs.Tryz renaming func112->mA,prog->U
open Go.Region renaming ready->fL,schedule->oB,wanted->cS
open Go.Value renaming int->N,pointer->aG,slice->aM,string->bE,tuple->cP
open Go.World renaming cell?->eQ,frozen?->js,setCell->eO
open List renaming sublist_append_right->pd
open Option renaming none->Z,some->M
open Or renaming inl->bN,inr->cF
namespace Go.Proofs.YtpibpdpedjinhabGreatDoor
namespace Cr
open Go Go.Conc Go.ConcN Go.RowKit Go.Conc.Lib Go.ConcR.Gen Go.ConcN.Gen
open Go.ConcR (KK WgAt stA smA Payload DC0)
open Fr (F flat one fv frames Vk)
def aeM(f:o6)(args:Array aD)(r:aD->aD)(fs:List F):Prop:=∀(S:Who)(m:Nat)(St:kC->cA->X->Prop)(K0:kC)(w0:X)(L:List (Nat×Obj))(b:cT)(a:Act)(k:List Item)(cs:List cT)(ops:Array km)(i:Nat)(rest:List Nat)(o:km)(xs:Array Operand)(z:Array cH),
 ops[i]? =M o->cS o (yielded ops a.tmps)=bB->b.kind≠.early->o.op=.call { callee:=.value (.func f),args:=xs,argTypes:=z }->xs.map a.eval=args->(∀v R,zq v fs R->Wc U S m St K0 w0 (R++L) (G (b.at (a.put o.dst (r v)) (bR ops rest::k)) cs))->Wc U S m St K0 w0 L (G (b.at a (bR ops (i::rest)::k)) cs)
def abm(a:Option Addr)(n c:Nat)(w:X)(es:Array Event):(Builtin.len_ #[106] 3 #[.slice a n c]).events U w es=es:=by simp[Builtin.len_,run_underlying Tryz.underlying106]
section
variable {S:Who}{m:Nat}{St:kC->cA->X->Prop}{K0:kC}{w0:X}{L0:List (Nat×Obj)}{cs:List cT}
def Zo{s T:ByteArray}{l d sb E F p:Nat}{v:aD}{fs:List Fr.F}{R:List (Nat×Obj)}{cf:cT}(hR:zq v fs R)
  (J:∀v' R',zq v' ((if fs.length=0\/p<T.size then Z else M fs).getD []) R'->Wc U S m St K0 w0 (R'++L0) (G (cf.finish (cP #[v',.bool (if fs.length=0\/p<T.size then Z else M fs).isSome])) cs)):
  Wc U S m St K0 w0 (fLs s T F E sb d l p v (R++L0)) (G ((base 112).at { tmps:=fTA s T F E sb aH aH,defers:=[{ target:=.collected d,args:=#[] }] } [.endRangeFunc l,.inBlock 0,.code ftl]) (cf::cs)):=by
 obtain⟨va,vc,hv⟩:=hR.slice;subst hv;have NX:Hid _:=J;have HR:Hid _:=hR;have el:=Ip;have ae:=abm;clear J hR;refine Wc.over (j:=0) rfl (show LoopState.ready≠.busy by decide) rfl (Wc.inBlock ?_);rw[show ftl=.seq (.seq _ _) _ from rfl];refine Wc.seq (Wc.seq (Wc.reg [0,1,2,3,4,5,6,7,8] rfl ?_));refine Wc.rd _ rfl rfl (eD _) (λw Y=>DN (j:=4) rfl Y rfl rfl (bN rfl)) ?_;walk_nrm;by_cases h0:fs.length=0
 .have ac:((fs.length:Int) == 0)=bB:=by simp[h0]
  refine Wc.go 50 λK w z=>?_
  iterate 3 u_op At.en z
  iterate 4 u_skip At.en z
  u_op At.en z;u_c bA At.en z;u_cond bB At.en z;u_c cE At.en z;u_reg At.en z
  iterate 2 u_op At.en z
  u_c bA At.en z;refine cL λ_ I=>Wc.use ?_ (z.en I);clear z;have J:=NX.out;rw[ZD (bN h0)]at J;exact .ret λtodo=>.takes (j:=1) rfl rfl rfl (.JG rfl rfl rfl mA rfl rfl rfl (Wc.drop (.cons _ (.cons _ (.cons _ (.cons _ (.cons _ (pd _ _)))))) (J _ [] (bN ⟨rfl,rfl,rfl⟩))))
 have ac:((fs.length:Int) == 0)=aR:=ZS aA;refine Wc.go 50 λK w z=>?_
 iterate 3 u_op At.en z
 refine cL λ_ I=>Wc.use ?_ (z.en I);clear z;refine Wc.rd _ rfl rfl (eD _) (λw Y=>DN (j:=3) rfl Y rfl rfl (cF (bN rfl))) ?_;walk_nrm;by_cases h1:p<T.size
 .have aa:(p:Int)<T.size:=by omega
  refine Wc.go 50 λK w z=>?_
  iterate 4 u_op At.en z
  u_c bA At.en z;u_cond bB At.en z;u_c cE At.en z;u_reg At.en z
  iterate 2 u_op At.en z
  u_c bA At.en z;refine cL λ_ I=>Wc.use ?_ (z.en I);clear z;have J:=NX.out;rw[ZD (cF h1)]at J;exact .ret λtodo=>.takes (j:=1) rfl rfl rfl (.JG rfl rfl rfl mA rfl rfl rfl (Wc.drop (.cons _ (.cons _ (.cons _ (.cons _ (.cons _ (pd _ _)))))) (J _ [] (bN ⟨rfl,rfl,rfl⟩))))
 have aa:¬(p:Int)<T.size:=aA
 refine Wc.go 50 λK w z=>?_
 iterate 4 u_op At.en z
 u_c bA At.en z;u_cond aR At.en z;u_c ij At.en z;u_c cE At.en z;u_reg At.en z;refine cL λ_ I=>Wc.use ?_ (z.en I);clear z;refine Wc.rd _ rfl rfl (eD _) (λw Y=>DN (j:=4) rfl Y rfl rfl (bN rfl)) ?_;walk_nrm;refine Wc.go 50 λK w z=>?_
 iterate 2 u_op At.en z
 u_c bA At.en z;refine cL λ_ I=>Wc.use ?_ (z.en I);clear z;have J:=NX.out;rw[Zs aA]at J;exact .ret λtodo=>.takes (j:=1) rfl rfl rfl (.JG rfl rfl rfl mA rfl rfl rfl (Wc.drop (.cons _ (.cons _ (.cons _ (.cons _ (.cons _ (iO _)))))) (J _ R HR.out)))
end
def aay(s:ByteArray)(hs:s.size<=1048576):aeM 112 #[bE s] (λv=>cP #[v,.bool (frames s.data.toList).isSome]) ((frames s.data.toList).getD []):=by
 intro S m St K0 w0 L b a k cs ops i rest o xs ao ho hw hk ae hx nx;refine Wc.call ho hw hk ae mA rfl rfl ?_;rw[hx];simp only[Tryz.ntmps112,dR,aU,bY,Nat.reduceAdd,Nat.reduceSub,dH,dG,dU,dI,dS,dN]
 have nx:∀v R,zq v ((frames s.data.toList).getD []) R->Wc U S m St K0 w0 (R++L) (G ((b.at a (bR ops (i::rest)::k)).finish (cP #[v,.bool (frames s.data.toList).isSome])) cs):=by
  intro v R h;rw[fO,ho];exact nx v R h
 generalize b.at a (bR ops (i::rest)::k)=cf at nx;have Y:=bD s;have el:=Ip;have te:=Fr.toList_empty s;have NX:Hid _:=nx;clear nx ho hw hk ae hx;by_cases ah:s.size=0
 .have ai:s.toList.isEmpty=bB:=by rw[te];exact Z0 ah
  clear te;refine Wc.go 50 λK w z=>?_;u_c cE At.en z;u_reg At.en z
  iterate 2 u_op At.en z
  u_c bA At.en z
  iterate 2 u_c cE At.en z
  u_reg At.en z
  iterate 3 u_op At.en z
  iterate 3 u_skip At.en z
  u_op At.en z;u_c bA At.en z;u_cond bB At.en z;u_c cE At.en z;u_reg At.en z
  iterate 2 u_op At.en z
  u_c bA At.en z;refine cL λ_ I=>Wc.use ?_ (z.en I);rw[Fr.yV (bN aA)]at NX;exact .ret λtodo=>.JG rfl rfl rfl mA rfl rfl rfl (NX.out _ [] (bN ⟨rfl,rfl,rfl⟩))
 have af:0<s.size:=aA
 have ai:s.toList.isEmpty=aR:=by rw[te];exact ZZ aA
 have aj:=λu=>abZ u s 0 0 af rfl;have am:=λw es=>Ef s 0 w es aA aA;have hg:=Fr.getD_byte s 0 af;clear te;by_cases h0:s[0].toNat=0
 .have ag:(1:Int)<=(s.size:Int):=by omega
  rw[h0]at aj;obtain⟨T,hT⟩:∃T:ByteArray,s.extract 1 s.size=T:=⟨_,rfl⟩
  have J:T.data.toList=s.data.toList.drop 1:=by rw[<-hT,Fr.ext_list,eH aA]
  have ac:T.size=s.size-1:=by rw[<-hT];simp[fA]
  have aa:s.data.toList.getD 0 0=0:=by rw[hg];exact jv.1 h0
  have ak:=λw es=>oJ s _ _ w es (Ci s 1 w es aA ag);have HT:Hid _:=jy J (jy ac aa);clear J ac aa hg Y h0;refine Wc.go 50 λK w z=>?_;u_c cE At.en z;u_reg At.en z
  iterate 2 u_op At.en z
  u_c bA At.en z
  iterate 2 u_c cE At.en z
  u_reg At.en z
  iterate 7 u_op At.en z
  u_c bA At.en z;u_cond aR At.en z;u_c ij At.en z;u_c cE At.en z;u_reg At.en z
  iterate 3 u_op At.en z
  u_c bA At.en z;refine cL λ_ I=>Wc.use ?_ (z.en I);clear z;refine Wc.seq (Wc.reg [0] rfl ?_);refine Wc.al (aL #[aM Z 0 0] 106) (λn=>aG (M ⟨n,0,Z⟩)) rfl rfl (eD _) (λw Y=>⟨by simp[go_sem],λe he=>by simp[go_sem]at he⟩) λF=>?_;refine Wc.done (Wc.seq (Wc.reg [0,1] rfl ?_));walk_nrm;refine Wc.al (aL #[N aE 0] 3) (λn=>aG (M ⟨n,0,Z⟩)) rfl rfl (eD _) (λw Y=>⟨by simp[go_sem],λe he=>by simp[go_sem]at he⟩) λE=>?_;walk_nrm;refine Wc.st (j:=0) (aL #[.int _ 0] 3) rfl rfl rfl (eD _) (λw Y=>P5 (j:=0) rfl Y rfl rfl rfl (cF ⟨_,rfl,rfl⟩)) ?_;walk_nrm;refine Wc.done (Wc.seq (Wc.seq (Wc.reg [0,1] rfl ?_)));refine Wc.go 50 λK w z=>?_;u_op At.en z;refine cL λ_ I=>Wc.use ?_ (z.en I);clear z;refine Wc.call rfl rfl (eD _) rfl Tryz.func136 rfl rfl ?_;simp only[Tryz.ntmps136,dR,aU,bY,Nat.reduceAdd,Nat.reduceSub,dH,dG,dU,dI,dS,dN];walk_nrm;refine Wc.seq (Wc.reg [0,1] rfl ?_);refine Wc.al (aL #[bE T] 9) (λn=>aG (M ⟨n,0,Z⟩)) rfl rfl (eD _) (λw Y=>⟨by simp[go_sem],λe he=>by simp[go_sem]at he⟩) λsb=>?_;walk_nrm;refine Wc.go 50 λK w z=>?_;u_op At.en z;u_c bA At.en z;u_c cE At.en z;u_reg At.en z
  iterate 2 u_op At.en z
  u_c bA At.en z;refine cL λ_ I=>Wc.use ?_ (z.en I);clear z;refine .ret λtodo=>.zQ rfl rfl rfl Tryz.func136 rfl rfl ?_;rw[fO];walk_nrm;refine Wc.done (Wc.block (Wc.range (f:=145) (cap:=#[.pointer _]) rfl Tryz.func145 rfl rfl λd=>?_));simp only[Tryz.ntmps145,dR,aU,bY,Nat.reduceAdd,Nat.reduceSub,dH,dG,dU,dI,dS,dN];refine Wc.go 50 λK w z=>?_;u_c cE At.en z;u_reg At.en z;u_op At.en z;u_c bA At.en z;u_c stepG_block At.en z;u_c stepG_loop At.en z;refine cL λ_ I=>Wc.use ?_ (z.en I);clear z;obtain⟨J,ac,aa⟩:=HT.out;refine Ut (s:=s) (T:=T) (d:=d) aA (λv fs R p hR hA hn=>?_) (T.size+1) 0 aA _ [] [] (bN ⟨rfl,rfl,rfl⟩) .nil _ _ _ _ _ _ _ _ _ _ _ _ _ _ _ _ _ _ _ _ _;have Y:=bD s;have hf:=Fr.zl (s:=s.data.toList) aA aa (by rw[<-J];exact hA) (by rw[<-J];exact hn);rw[<-Y,<-ac]at hf;rw[hf]at NX;exact Zo hR NX.out
 .have an:((s[0].toNat:Int) != 0)=bB:=by simp;omega
  rw[Fr.yV (cF (by rw[hg];intro h;exact h0 (by rw[h];rfl)))]at NX;clear hg Y h0;generalize s[0].toNat=c at *;refine Wc.go 50 λK w z=>?_;u_c cE At.en z;u_reg At.en z
  iterate 2 u_op At.en z
  u_c bA At.en z
  iterate 2 u_c cE At.en z
  u_reg At.en z
  iterate 7 u_op At.en z
  u_c bA At.en z;u_cond bB At.en z;u_c cE At.en z;u_reg At.en z
  iterate 2 u_op At.en z
  u_c bA At.en z;refine cL λ_ I=>Wc.use ?_ (z.en I);exact .ret λtodo=>.JG rfl rfl rfl mA rfl rfl rfl (NX.out _ [] (bN ⟨rfl,rfl,rfl⟩))
end Cr
namespace Cr
open Go Go.Conc Go.ConcN Go.RowKit Go.Conc.Lib Go.ConcR.Gen Go.ConcN.Gen
open Go.ConcR (KK WgAt stA smA Payload DC0)
open Fr (F flat one fv frames mg)
section
variable {w0:X}{L:List (Nat×Obj)}{a:Act}{o:km}
def AZ{w:X}{n j i:Nat}{c:Array aD}{v:aD}{t J:cH}{p:Operand}(E:L[j]? =M (n,aL c J))(Y:c[i]? =M v)(R:Lies L w0.heap.size w)(hp:a.eval p=aG (M ⟨n,i,Z⟩))(z:o.op=.load t p)(ht:t=22\/t=9):(bO a.eval o).run U w=.ok (.value v) w/\∀e∈(bO a.eval o).events U w #[],EvA L w.heap.size w.heap.size e:=by
 have h:=oG R E;have c0:w.cell? ⟨n,i,Z⟩=M v:=by simp[eQ,h,Y]
 unfold bO;simp only[z,hp];rcases ht with rfl|rfl<;>
 .refine⟨by simp[go_sem,c0],λe I=>?_⟩;simp[go_sem,c0]at I;subst I;exact QO E
end
def XR(inbox batcher t0 t1 t2 t3 t4 fr ad:Int)(data:ByteArray)(hs:data.size<=1048576):aeM 73 #[.agg (cfg inbox batcher t0 t1 t2 t3 t4),.agg (Ad fr ad data)] id (mg inbox batcher fr ad data.data.toList):=by
 intro S m St K0 w0 L b a k cs ops i rest o xs ac ho hw hk aa hx nx;refine Wc.call ho hw hk aa Tryz.func73 rfl rfl ?_;rw[hx];simp only[Tryz.ntmps73,dR,aU,bY,Nat.reduceAdd,Nat.reduceSub,dH,dG,dU,dI,dS,dN]
 have nx:∀v R,zq v (mg inbox batcher fr ad data.data.toList) R->Wc U S m St K0 w0 (R++L) (G ((b.at a (bR ops (i::rest)::k)).finish v) cs):=by
  intro v R h;rw[fO,ho];exact nx v R h
 generalize b.at a (bR ops (i::rest)::k)=cf at nx;have Y:Hid _:=nx;clear nx ho hw hk aa hx;refine Wc.seq (Wc.reg [0,1,2] rfl ?_);refine Wc.al (aL (cfg inbox batcher t0 t1 t2 t3 t4) 24) (λn=>aG (M ⟨n,0,Z⟩)) rfl rfl (eD _) (λw I=>⟨by simp[go_sem],λe he=>by simp[go_sem]at he⟩) λcb=>?_;walk_nrm;refine Wc.al (aL (Ad fr ad data) 125) (λn=>aG (M ⟨n,0,Z⟩)) rfl rfl (eD _) (λw I=>⟨by simp[go_sem],λe he=>by simp[go_sem]at he⟩) λxb=>?_;walk_nrm;refine Wc.go 50 λK w z=>?_;u_op At.en z;u_c bA At.en z
 iterate 2 u_c cE At.en z
 u_reg At.en z;u_op At.en z;refine cL λ_ E=>Wc.use ?_ (z.en E);clear z;refine Wc.rd (.int _ ad) rfl rfl (eD _) (λw I=>AZ (j:=0) rfl rfl I rfl rfl (bN rfl)) ?_;walk_nrm;refine Wc.go 50 λK w z=>?_;u_op At.en z;refine cL λ_ E=>Wc.use ?_ (z.en E);clear z;refine Wc.rd (.int _ inbox) rfl rfl (eD _) (λw I=>AZ (j:=1) rfl rfl I rfl rfl (bN rfl)) ?_;walk_nrm;by_cases J:ad=inbox
 case neg=>
  have e1:(ad != inbox)=bB:=by simp[J]
  rw[mg,Zs (λh=>J h.1)]at Y;clear J;refine Wc.go 50 λK w z=>?_
  iterate 2 u_op At.en z
  iterate 5 u_skip At.en z
  u_op At.en z;u_c bA At.en z;u_cond bB At.en z;u_c cE At.en z;u_reg At.en z;u_op At.en z;u_c bA At.en z;refine cL λ_ E=>Wc.use ?_ (z.en E);exact .ret λtodo=>.zQ rfl rfl rfl Tryz.func73 rfl rfl (Wc.drop (.cons _ (.cons _ (iO _))) (Y.out _ [] (bN ⟨rfl,rfl,rfl⟩)))
 have e1:(ad != inbox)=aR:=by simp[J]
 refine Wc.go 50 λK w z=>?_
 iterate 3 u_op At.en z
 refine cL λ_ E=>Wc.use ?_ (z.en E);clear z;refine Wc.rd (.int _ fr) rfl rfl (eD _) (λw I=>AZ (j:=0) rfl rfl I rfl rfl (bN rfl)) ?_;walk_nrm;refine Wc.go 50 λK w z=>?_;u_op At.en z;refine cL λ_ E=>Wc.use ?_ (z.en E);clear z;refine Wc.rd (.int _ batcher) rfl rfl (eD _) (λw I=>AZ (j:=1) rfl rfl I rfl rfl (bN rfl)) ?_;walk_nrm;by_cases h2:fr=batcher
 case neg=>
  have e2:(fr != batcher)=bB:=by simp[h2]
  rw[mg,Zs (λh=>h2 h.2)]at Y;clear J h2;refine Wc.go 50 λK w z=>?_
  iterate 2 u_op At.en z
  u_c bA At.en z;u_cond bB At.en z;u_c cE At.en z;u_reg At.en z;u_op At.en z;u_c bA At.en z;refine cL λ_ E=>Wc.use ?_ (z.en E);exact .ret λtodo=>.zQ rfl rfl rfl Tryz.func73 rfl rfl (Wc.drop (.cons _ (.cons _ (iO _))) (Y.out _ [] (bN ⟨rfl,rfl,rfl⟩)))
 have e2:(fr != batcher)=aR:=by simp[h2]
 rw[mg,ZD ⟨J,h2⟩]at Y;clear J h2;refine Wc.go 50 λK w z=>?_
 iterate 2 u_op At.en z
 u_c bA At.en z;u_cond aR At.en z;u_c ij At.en z;u_c cE At.en z;u_reg At.en z;u_op At.en z;refine cL λ_ E=>Wc.use ?_ (z.en E);clear z;refine Wc.rd (bE data) rfl rfl (eD _) (λw I=>AZ (j:=0) rfl rfl I rfl rfl (cF rfl)) ?_;walk_nrm;refine aay data hs _ _ _ _ _ _ _ _ _ _ _ _ _ _ _ _ rfl rfl (eD _) rfl (by simp[n8]) λv R hR=>?_;walk_nrm;generalize (frames data.data.toList).isSome=ok;refine Wc.go 50 λK w z=>?_
 iterate 5 u_op At.en z
 u_c bA At.en z;u_c cE At.en z;u_reg At.en z
 iterate 2 u_op At.en z
 u_c bA At.en z;refine cL λ_ E=>Wc.use ?_ (z.en E);exact .ret λtodo=>.zQ rfl rfl rfl Tryz.func73 rfl rfl (Wc.drop ((iO _).append (.cons _ (.cons _ (iO _)))) (Y.out _ R hR))
def KX:ReadW:=by
 intro S m St K w b a k cs ops j rest o x y aa inbox batcher t0 t1 t2 t3 t4 fr ad data ho hw hk Y E hy hs h1 h2 h3 h4 _ nx;have hA:At S K w [] K w:=⟨h1,h2,h3,h4,jB,λx E=>⟨h2 x E,E,rfl⟩,λx=>bN,id,id,λp hp=>by simp at hp,.nil⟩
 refine Wc.use (XR inbox batcher t0 t1 t2 t3 t4 fr ad data hs S m St K w [] b a k cs ops j rest o _ aa ho hw hk Y (by simp[E,hy]) λv R hR K' J z=>?_) hA;refine nx w (.refl _ _ _ _) v K' J (hR.imp (λh=>⟨h.1,h.2.1⟩) ?_) (λx E=>(z.old x E).2.1) z.sub z.size (λx E=>(z.old x E).2.2) (λx E=>⟨z.low x E,z.new x E⟩) z.live z.pay;rintro⟨g,cap,I,e,rfl,r⟩;have hm:=z.mem (g,aL I 109) aC;exact⟨g,cap,I,e,z.sub _ hm.2.1,hm.2.2,r⟩
end Cr
namespace Po
open Go
section
variable {P:cU}{G:Array pj}{k f:Nat}{fn:pj}
def ER(P:cU)(G:Array pj)(D:Nat->Prop):Env:={ T:=P.toTables,F:=P.funcs,G:=G,D:=D,C:=λc=>oP P c=bB }
def adZ(P:cU)(G:Array pj)(D:Nat->Prop):(ER P G D).P=P:=rfl
def ade(P:cU)(G:Array pj)(D:Nat->Prop)(c:Code):(ER P G D).C c↔oP P c=bB:=Iff.rfl
def Js(h:∀k:Nat,(G[k]?).map (·.results)=(P.funcs[k]?).map (·.results))(D:Nat->Prop):∀k:Nat,((ER P G D).G[k]?).map (·.results)=((ER P G D).F[k]?).map (·.results):=h
noncomputable abbrev qe(G:Array pj)(D:Nat->Prop):Env:=ER PQ G D
def Fj(G:Array pj)(D:Nat->Prop):(qe G D).P=PQ:=adZ PQ G D
def Zq:((List.range 186).all λk=>!DC k || match Tryz.prog.funcs[k]? with
  |some f=>!(f.name == "runtime.NumGoroutine")&&(match f.body with|some c=>oP PQ c|none=>k == 147 || k == 160)
  |none=>aR)=bB:=XN
def ae0:Tryz.prog.funcs.size=186:=XN
def acZ:Extern.allNextRows.lookup ""=Z:=XN
def P8:Extern.allGenericRows.lookup ""=Z/\Extern.allTypedRows.lookup ""=Z/\Extern.allRows.lookup ""=Z:=⟨XN,XN,XN⟩
def adX{L:o6->Bool}(h:(rQ P L).funcs[k]? =M fn):(L k=bB/\P.funcs[k]? =M fn)\/L k=aR/\fn.body=Z/\fn.name= ""/\fn.origin= "":=by
 have h:(P.funcs.mapIdx _)[k]? =M fn:=h
 grind
def MI(P:cU)(L:o6->Bool)(k:Nat):(P.funcs[k]?).map (·.results)=((rQ P L).funcs[k]?).map (·.results):=by
 show _=((P.funcs.mapIdx _)[k]?).map _
 grind
def Q5{f:pj}(E:DC k=bB)(z:Tryz.prog.funcs[k]? =M f):(f.name == "runtime.NumGoroutine")=aR/\(match f.body with|some c=>oP PQ c=bB|none=>k=147\/k=160):=by
 have hk:k<186:=by rw[<-ae0];exact(jE z)
 have:=fF.1 Zq k (gV.2 hk)
 grind
section
variable {e:Env}
def abE(hf:e.F[f]? =M fn)(R:fn.body=Z)(E:fn.name= "")(I:fn.origin= "")(args:Array aD):Rb e (iu f args)/\∀x es n J z,(iu f args).runT e.P x es=(.ok n J,z)->∃v,n=.value v:=by
 have Y:Extern.findNext fn=Z:=by simp only[Extern.findNext,E,I,acZ];rfl
 have h2:Extern.find fn=Z:=by simp only[Extern.find,E,I,P8.1,P8.2.1,P8.2.2];rfl
 have h3:("" == "runtime.NumGoroutine")=aR:=by decide+kernel
 have h4:("".endsWith ".init")=aR:=by decide+kernel
 have hr:∀x es,(iu f args).runT e.P x es=(.halt (.unsupported (.extern "")) x,es.push ⟨.mark (.extern f),aR,bB⟩):=by
  intro x es;simp only[iu,program,bind,Sem.bind,Sem.runT,show e.P.funcs[f]? =M fn from hf,E,h3,R,Option.isNone_none,bU,if_false,if_true,Y,h2,h4,mark,Bool.false_and,unsupported]
 refine⟨λx es r z h y _=>bN ?_,λx es n J z h=>?_⟩
 .rw[hr]at h;cases h;rfl
 grind
def RN(I:e.F[f]? =M fn)(hg:e.G[f]? =M fn)(R:fn.body=Z)(hn:(fn.name == "runtime.NumGoroutine")=aR)(Y:Extern.findNext fn=Z){s:Array aD->Sem aD}(hs:Extern.find fn=M s){args:Array aD}(h:Rb e (s args)):Rb e (iu f args)/\∀x es n J E,(iu f args).runT e.P x es=(.ok n J,E)->∃v,n=.value v:=by
 refine⟨?_,λx es n J E z=>?_⟩
 .unfold iu;refine PR ?_ ?_
  .grind
  .simp only[show e.P.funcs[f]? =M fn from I,hn,R,Y,hs,Option.isNone_none,bU,↓reduceIte];exact B (Rk _ (cF ⟨f,rfl⟩)) λ_=>B h λ_=>X2 _
 .rw[iu,runT_bind]at z;simp only[program,Sem.runT,show e.P.funcs[f]? =M fn from I,hn,R,Y,hs,Option.isNone_none,bU,↓reduceIte]at z;rw[runT_bind]at z;split at z
  .rw[runT_bind]at z;split at z
   .cases z;exact⟨_,rfl⟩
   .cases z
  .cases z
def acC(args:Array aD):Rb e (Extern.AbiNoEscape.same args):=by
 obtain⟨l⟩:=args
 match l with
 |[]=>exact H _
 |[x]=>exact X2 _
 |_::_::_=>exact H _
def I5(ps rs:Array cH)(args:Array aD):Rb e (mo ps rs args):=by
 obtain⟨l⟩:=args
 match l with
 |[]=>exact H _
 |_::_::_=>cases ‹aD›<;>exact H _
 |[x]=>
  cases x<;>first|exact H _|skip
  case int k n=>
   cases k<;>first|exact H _|skip
   show Rb e (match rs[0]? with|some t=>_|_=>_)
   repeat' first|with_reducible exact X2 _|with_reducible refine B ?_ λ_=>?_|with_reducible refine IT ?_ ?_|exact H _|split|(simp;done)|dsimp only
end
def ac3(h:PQ.funcs[k]? =M fn):(DC k=bB/\Tryz.prog.funcs[k]? =M fn)\/DC k=aR/\fn.body=Z/\fn.name= ""/\fn.origin= "":=adX (P:=U) (L:=DC) h
def Ij{D:Nat->Prop}(h:(ER P G D).F[k]? =M fn):P.funcs[k]? =M fn:=h
def XQ(hG:∀(k:Nat)(fn:pj),DC k=bB->Tryz.prog.funcs[k]? =M fn->G[k]? =M fn)(I:∀k:Nat,(G[k]?).map (·.results)=(PQ.funcs[k]?).map (·.results))(D:Nat->Prop):Fit (qe G D) where
 code c:=by rewrite [Fj];exact ade PQ G D c
 name f fn h:=by
  obtain⟨z,h2⟩|⟨_,_,h2,_⟩:=ac3 (Ij h)
  .exact(Q5 z h2).1
  grind
 same f fn c h hb:=by
  obtain⟨z,h2⟩|⟨_,h2,_⟩:=ac3 (Ij h)
  .have:=(Q5 z h2).2;rw[hb]at this;exact⟨hG _ _ z h2,by rewrite [Fj];exact this⟩
  grind
 ext f fn args h hb:=by
  obtain⟨z,h2⟩|⟨_,_,h3,h4⟩:=ac3 (Ij h)
  .have:=(Q5 z h2).2;rw[hb]at this;have E:=hG _ _ z h2;obtain rfl|rfl:=this
   .obtain rfl:=fC (Tryz.func147.symm.trans h2);exact RN h E hb (by rfl) (by rfl) (s:=Extern.AbiNoEscape.same) (by rfl) (acC _)
   .obtain rfl:=fC (Tryz.func160.symm.trans h2);exact RN h E hb (by rfl) (by rfl) (s:=mo _ _) (by rfl) (I5 _ _ _)
  .exact abE h hb h3 h4 _
 results:=Js I D
 early:=by rewrite [Fj];kernel_rfl
def TF(k:Nat):(Tryz.prog.funcs[k]?).map (·.results)=(PQ.funcs[k]?).map (·.results):=MI ..
def UO(P:cU)(G:Array pj)(D:Nat->Prop):(ER P G D).self=ER P P.funcs λ_=>False:=rfl
def fits(D:Nat->Prop):Fits (qe Tryz.prog.funcs D):=
 ⟨XQ (λ_ _ _ h=>h) TF D,by rewrite [UO];exact XQ (λ_ _ h k=>fq k h) (λ_=>rfl) _⟩
end
open Go Go.Conc
open Cr (ou)
section
variable {w:X}{o:Obj}
def aff(P:cU)(L:o6->Bool)(D:Nat->Prop):(ER (rQ P L) P.funcs D).Q=P:=rfl
def abp(D:Nat->Prop):(qe Tryz.prog.funcs D).Q=U:=aff U DC D
def yZ(w:X)(b:Nat):Prop:=∃o,w.heap[b]? =M o/\ghost o=bB
def hush(w:X):X:={ w with heap:=w.heap.map λo=>if ghost o then .coro Z else o }
def Qu{b:Nat}(h:w.heap[b]? =M o)(z:ghost o=aR):(hush w).heap[b]? =M o:=by
 show(w.heap.map _)[b]? =_
 grind
def aam{b:Nat}(h:(hush w).heap[b]? =M o):ghost o=aR:=by
 have h:(w.heap.map _)[b]? =_:=h;rw[iH]at h;cases z:w.heap[b]? with
 |none=>rw[z]at h;cases h
 |some u=>
  rw[z]at h;simp only[cO,aK]at h;subst h;split
  .rfl
  grind
def zG{e:Env}(h:ghost o=aR):xG e o:=by
 cases o<;>first|trivial|(cases h;done)
section
variable {w:X}{Post:aD->X->Prop}{fr:cT}
def aa5{e:Env}(E:e.D=yZ w):WP e (hush w) w where
 os:=rfl
 output:=rfl
 size:=by simp[hush]
 out b hb:=by
  show _=(w.heap.map _)[b]?
  rw[iH];cases I:w.heap[b]? with
  |none=>rfl
  |some o=>
   cases z:ghost o with
   |true=>exact Xs ⟨o,I,z⟩ (E ▸ hb)
   |false=>simp[z]
 inn b hb:=by
  rw[E]at hb;obtain⟨o,h,z⟩:=hb;refine cF ⟨o,h,?_,z⟩
  show(w.heap.map _)[b]? =_
  grind
 objs b o h:=zG (aam h)
def SQ(h:Wk (qe Tryz.prog.funcs (yZ w)) ⟨yZ w,w,Post⟩ [] fr [] (hush w))(E:tZ (qe Tryz.prog.funcs (yZ w)) fr):ou U Post (λ_=>False) (mk fr []) w:=by
 have k:=h ⟨E,aC⟩ w (aa5 rfl) ⟨λ_ z=>⟨z,rfl⟩,λ_ z _=>z,jB,rfl,rfl⟩
 rewrite [abp]at k
 exact k.dead λ_ x=>x.elim
end
end
end Po
namespace Cr
open Go Go.Conc Go.ConcN Go.RowKit Go.Conc.Lib Go.ConcR.Gen Go.ConcN.Gen
open Go.ConcR (KK WgAt stA smA Payload DC0)
section
variable {a:Act}{o:km}
structure WF(Wg C n i bc bx bf bi:Nat)(cf xf:Array aD)(w:X):Prop where
 c:w.heap[bc]? =M (aL cf 24)
 x:w.heap[bx]? =M (aL xf 125)
 f:w.heap[bf]? =M (aL #[aM (M ⟨C,0,Z⟩) n n] 104)
 i:w.heap[bi]? =M (aL #[N aE i] 3)
 live:WgLive link.tWg Wg w
 pay:PayAt C n w
section
variable {Wg C n i bc bx bf bi:Nat}{inbox batcher t0 t1 t2 t3 t4 fr ad:Int}{data:ByteArray}{cf xf:Array aD}{w w₁:X}{K:kC}
def WF.en(h:WF Wg C n i bc bx bf bi cf xf w)(hc:K.O bc)(I:K.O bx)(z:K.O bf)(E:K.O bi)(r:En ⟨Wg,C,n,link.tWg,C-1⟩ (M i) K w w₁):WF Wg C n i bc bx bf bi cf xf w₁:=
 ⟨(r.block _ hc).trans h.c,(r.block _ I).trans h.x,(r.block _ z).trans h.f,(r.block _ E).trans h.i,r.live h.live,r.pay h.pay⟩
noncomputable def ug:Array km:=match Tryz.f71.body with
 |some (.seq _ (.region _ ops _))=>ops
 |_=>#[]
def cell_of{b:Nat}{cs:Array aD}{ty:cH}(h:w.heap[b]? =M (aL cs ty))(o:Nat):w.cell? ⟨b,o,Z⟩=cs[o]?:=by simp[eQ,h]
def ag4(h:WF Wg C n i bc bx bf bi cf xf w)(I:a.eval (cR 3)=aG (M ⟨bf,0,Z⟩))(z:o.op=.load 104 (cR 3)):(bO a.eval o).run U w=.ok (.value (aM (M ⟨C,0,Z⟩) n n)) w/\(bO a.eval o).events U w #[]=#[⟨.cell ⟨bf,0,Z⟩,aR,aR⟩]:=by
 have E:=cell_of h.f 0;constructor
 .unfold bO;simp only[z,I];simp[go_sem,E]
 .unfold bO;simp only[z,I];simp[go_sem,E]
def ahf(h:WF Wg C n i bc bx bf bi (cfg inbox batcher t0 t1 t2 t3 t4) xf w)(I:a.eval (cR 1)=aG (M ⟨bc,0,Z⟩))(z:o.op=.load 24 (cR 1)):(bO a.eval o).run U w=.ok (.value (.agg (cfg inbox batcher t0 t1 t2 t3 t4))) w/\∀e∈(bO a.eval o).events U w #[],∃k,e=⟨.cell ⟨bc,k,Z⟩,aR,aR⟩:=by
 have Y:=cell_of h.c 0;have J:=cell_of h.c 1;have h2:=cell_of h.c 2;have h3:=cell_of h.c 3;have h4:=cell_of h.c 4;have R:=cell_of h.c 5;have E:=cell_of h.c 6;constructor
 .unfold bO;simp only[z,I];simp[go_sem,Y,J,h2,h3,h4,R,E]
 .unfold bO;simp only[z,I];simp[go_sem,Y,J,h2,h3,h4,R,E]
def agF(h:WF Wg C n i bc bx bf bi cf (Ad fr ad data) w)(E:a.eval (cR 2)=aG (M ⟨bx,0,Z⟩))(z:o.op=.load 125 (cR 2)):(bO a.eval o).run U w=.ok (.value (.agg (Ad fr ad data))) w/\∀e∈(bO a.eval o).events U w #[],∃k,e=⟨.cell ⟨bx,k,Z⟩,aR,aR⟩:=by
 have J:=cell_of h.x 0;have I:=cell_of h.x 1;have h2:=cell_of h.x 2;constructor
 .unfold bO;simp only[z,E];simp[go_sem,J,I,h2]
 .unfold bO;simp only[z,E];simp[go_sem,J,I,h2]
def ag2(h:WF Wg C n i bc bx bf bi cf xf w)(I:a.eval (cR 4)=aG (M ⟨bi,0,Z⟩))(z:o.op=.load 3 (cR 4)):(bO a.eval o).run U w=.ok (.value (N aE i)) w/\(bO a.eval o).events U w #[]=#[⟨.cell ⟨bi,0,Z⟩,aR,aR⟩]:=by
 have E:=cell_of h.i 0;constructor
 .unfold bO;simp only[z,I];simp[go_sem,E]
 .unfold bO;simp only[z,I];simp[go_sem,E]
def agR(Y:i<n)(R:a.eval (cR 5)=aM (M ⟨C,0,Z⟩) n n)(J:a.eval (cR 6)=N aE i)(I:o.op=.indexAddr 104 (cR 5) (cR 6)):(bO a.eval o).run U w=.ok (.value (aG (M ⟨C,i,Z⟩))) w/\(bO a.eval o).events U w #[]=#[]:=by
 have E:(i:Int)<n:=aA
 have z:(0:Int)<=(i:Int):=aA
 constructor
 .unfold bO;simp only[I,R,J];simp[go_sem,E,z,Addr.add];exact λe=>e.symm
 .unfold bO;simp only[I,R,J];simp[go_sem,E,z]
def ahe(hp:PayAt C n w)(R:i<n){x:Option Addr}{l c:Nat}(h10:a.eval (cR 10)=aG (M ⟨C,i,Z⟩))(I:a.eval (cR 9)=.slice x l c)(z:o.op=.store 106 (cR 10) (cR 9)):(bO a.eval o).run U w=.ok .skip (w.setCell ⟨C,i,Z⟩ (.slice x l c))/\(bO a.eval o).events U w #[]=#[⟨.cell ⟨C,i,Z⟩,bB,aR⟩]:=by
 obtain⟨cs,E,Y⟩:=hp;have hc:w.cell? ⟨C,i,Z⟩=M cs[i]:=by simp[eQ,E,Y,R]
 have J:w.frozen? ⟨C,i,Z⟩=aR:=by simp[js,E]
 constructor
 .unfold bO;simp only[z,h10,I];simp[go_sem,stored,hc,J]
 .unfold bO;simp only[z,h10,I];simp[go_sem,pg _ _ _ _ _ _ (show(aM x l c).oneCell'=bB from rfl),hc,J]
def ZM(hp:PayAt C n w)(E:i<n)(v:aD):Has C i v (w.setCell ⟨C,i,Z⟩ v):=by obtain⟨cs,z,I⟩:=hp;simp[Has,eQ,eO,bT,z,I,E]
end
end
section
def bW:cT:=baseD 71
noncomputable def KO:cT:={ (default:cT)with fn:=Tryz.prog.funcs.size,defers:=[],mode:=.panicking [goexitEntry] }
noncomputable def YE:Code:=Tryz.f71.body.getD .skip
section
variable (Wg C n i bc bx bf bi:Nat)(inbox batcher t0 t1 t2 t3 t4 fr ad:Int)(data:ByteArray)
def JU:Deferred:={ target:=.fn (.func 71) #[aG (M ⟨Wg,0,Z⟩),aG (M ⟨bc,0,Z⟩),aG (M ⟨bx,0,Z⟩),aG (M ⟨bf,0,Z⟩),aG (M ⟨bi,0,Z⟩)],args:=#[] }
def Qq(l:Bool)(v:aD):aD:=if l then v else aH
def slots(l:Array Bool)(v:aD):Array aD:=#[aG (M ⟨Wg,0,Z⟩),aG (M ⟨bc,0,Z⟩),aG (M ⟨bx,0,Z⟩),aG (M ⟨bf,0,Z⟩),aG (M ⟨bi,0,Z⟩),
 Qq (l.getD 0 aR) (aM (M ⟨C,0,Z⟩) n n),Qq (l.getD 1 aR) (N aE i),Qq (l.getD 2 aR) (.agg (cfg inbox batcher t0 t1 t2 t3 t4)),Qq (l.getD 3 aR) (.agg (Ad fr ad data)),Qq (l.getD 4 aR) v,Qq (l.getD 5 aR) (aG (M ⟨C,i,Z⟩))]
end
section
variable {Wg C n i bc bx bf bi:Nat}{inbox batcher t0 t1 t2 t3 t4 fr ad:Int}{data:ByteArray}
def born_step(w:X):dC U aR (born U (JU Wg bc bx bf bi)) w=.go (G (bW.at ⟨#[aG (M ⟨Wg,0,Z⟩),aG (M ⟨bc,0,Z⟩),aG (M ⟨bx,0,Z⟩),aG (M ⟨bf,0,Z⟩),aG (M ⟨bi,0,Z⟩),aH,aH,aH,aH,aH,aH],[]⟩ [.code YE]) [KO]) w #[]:=by
 simp[born,JU,dC,unwind,callDeferred,invoke,iu,Tryz.func71,Tryz.f71,seen,GStep.after,G,Frame.enter,Frame.at,bW,baseD,KO,YE]
def quits_tail(T:Array aD):QuitsD U 2 0 (G { bW.at ⟨T,[]⟩ []with mode:=.returning } [KO]):=by
 refine QuitsD.ctl (g':=G KO []) rfl (λw=>?_) ?_
 .simp[G,dC,unwind,doReturn,results,Frame.at,bW,baseD,KO,Tryz.func71,Tryz.f71,seen,GStep.after,goexitEntry]
 refine QuitsD.ctl (g':={ G KO []with status:=.finished }) rfl (λw=>?_) ⟨rfl,rfl⟩;simp[G,dC,unwind,KO,goexitEntry,Frame.catches];rfl
structure KW(Wg C:Nat)(bc bx bf bi:Nat)(K:kC)(w:X):Prop where
 c:K.O bc
 x:K.O bx
 f:K.O bf
 i:K.O bi
 sub:∀b,K.W b->K.O b
 low:∀b,K.O b->b<w.heap.size
 pay:C<w.heap.size
 grp:Wg<w.heap.size
 ne:∀b,K.O b->b≠C
 glob:Tryz.prog.globals.size<=w.heap.size
def sched(t:Nat)(m:Bool):oB m ug t=Region.linearise.go .any ug 7 t (Array.replicate 7 aR) []:=by
 have h:Region.departs ug=aR:=XN
 unfold oB;simp only[h,Bool.not_false,Bool.or_true,if_true];rfl
end
end
section
variable {w:X}{v:aD}{l0 l1 l2 l3 l4 l5 l6:Bool}
section
variable {Wg C n i bc bx bf bi:Nat}{inbox batcher t0 t1 t2 t3 t4 fr ad:Int}{data:ByteArray}{fs:Nat->List Fr.F}
abbrev mJ(Wg C n:Nat):Who:=⟨Wg,C,n,link.tWg,C-1⟩
noncomputable def uy(Wg C n i bc bx bf bi:Nat)(inbox batcher t0 t1 t2 t3 t4 fr ad:Int)(data:ByteArray)(l:Array Bool)(v:aD)(rest:List Nat):cA:=
 G (bW.at ⟨slots Wg C n i bc bx bf bi inbox batcher t0 t1 t2 t3 t4 fr ad data l v,[dcall link.done #[aG (M ⟨Wg,0,Z⟩)]]⟩ (bR ug rest::[])) [KO]
def ZO{K:kC}{l:Array Bool}(hF:WF Wg C n i bc bx bf bi (cfg inbox batcher t0 t1 t2 t3 t4) (Ad fr ad data) w)(R:KW Wg C bc bx bf bi K w)(Y:Has C i v w)(hr:qY K.O w v (fs i)):kY U aR (mJ Wg C n) (M i) (tC U (mJ Wg C n) (leftOf fs) i) K (uy Wg C n i bc bx bf bi inbox batcher t0 t1 t2 t3 t4 fr ad data l v []) w:=by
 have H:=wgLib;unfold uy;have E:WF Wg C n i bc bx bf bi (cfg inbox batcher t0 t1 t2 t3 t4) (Ad fr ad data) w/\Has C i v w/\qY K.O w v (fs i):=⟨hF,Y,hr⟩
 have J:∀{w z:X},(WF Wg C n i bc bx bf bi (cfg inbox batcher t0 t1 t2 t3 t4) (Ad fr ad data) w/\Has C i v w/\qY K.O w v (fs i))->En (mJ Wg C n) (M i) K w z->(WF Wg C n i bc bx bf bi (cfg inbox batcher t0 t1 t2 t3 t4) (Ad fr ad data) z/\Has C i v z/\qY K.O z v (fs i)):=
  λh r=>⟨h.1.en R.c R.x R.f R.i r,(r.cell i rfl).trans h.2.1,h.2.2.stands (λ_=>id) r.block⟩
 clear hF Y hr;refine kY.go (n:=10) ?_;u_c bA J E;u_c stepG_end J E;u_in J E;rw[stepG_unwind_enter rfl H.f_done (nm_done link) rfl];simp only[goes_go];refine⟨by u_nil,?_⟩;refine cL λz I=>?_;replace E:=J E I;exact aa6 (Q:=leftOf fs) H rfl (quits_tail _) z E.1.live E.2.1 λaa hb=>E.2.2.stands (λ_=>id) hb
structure Reg(fs:Nat->List Fr.F)(Wg C n i bc bx bf bi:Nat)(inbox batcher t0 t1 t2 t3 t4 fr ad:Int)(data:ByteArray)(l0 l1 l2 l3 l4 l5 l6:Bool)(K:kC)(v:aD)(w:X):Prop where
 d4:l4=bB->l2=bB/\l3=bB
 d5:l5=bB->l0=bB/\l1=bB/\l2=bB/\l3=bB/\l4=bB
 d6:l6=bB->l5=bB
 wf:WF Wg C n i bc bx bf bi (cfg inbox batcher t0 t1 t2 t3 t4) (Ad fr ad data) w
 kw:KW Wg C bc bx bf bi K w
 row:l4=bB->qY K.O w v (fs i)
 has:l6=bB->Has C i v w
def Cnt(z:Nat)(l0 l1 l2 l3 l4 l5 l6:Bool):Prop:=z+(l0.toNat+l1.toNat+l2.toNat+l3.toNat+l4.toNat+l5.toNat+l6.toNat)=7
def Reg.en{K:kC}{z:X}(h:Reg fs Wg C n i bc bx bf bi inbox batcher t0 t1 t2 t3 t4 fr ad data l0 l1 l2 l3 l4 l5 l6 K v w)(r:En (mJ Wg C n) (M i) K w z):Reg fs Wg C n i bc bx bf bi inbox batcher t0 t1 t2 t3 t4 fr ad data l0 l1 l2 l3 l4 l5 l6 K v z:=
 ⟨h.d4,h.d5,h.d6,h.wf.en h.kw.c h.kw.x h.kw.f h.kw.i r,⟨h.kw.c,h.kw.x,h.kw.f,h.kw.i,h.kw.sub,λb E=>aP (h.kw.low b E) r.size,aP h.kw.pay r.size,aP h.kw.grp r.size,h.kw.ne,bH h.kw.glob r.size⟩,
  λe=>(h.row e).stands (λ_=>id) r.block,λe=>(r.cell i rfl).trans (h.has e)⟩
def opens(l0 l1 l2 l3 l4 l5 l6:Bool):List Nat:=
 (if l0 then []else [0])++(if l1 then []else [1])++(if l2 then []else [2])++(if l3 then []else [3])++(if l4 then []else if l2&&l3 then [4]else [])++(if l5 then []else if l0&&l1&&l2&&l3&&l4 then [5]else [])++
  (if l6 then []else if l0&&l1&&l2&&l3&&l4&&l5 then [6]else [])
def ready_eq(l0 l1 l2 l3 l4 l5 l6:Bool):fL .any ug #[l0,l1,l2,l3,l4,l5,l6]=opens l0 l1 l2 l3 l4 l5 l6:=by
 cases l0<;>cases l1<;>cases l2<;>cases l3<;>cases l4<;>cases l5<;>cases l6<;>kernel_rfl
def SN{k:Nat}(h:k∈fL .any ug #[l0,l1,l2,l3,l4,l5,l6]):(k=0/\l0=aR)\/(k=1/\l1=aR)\/(k=2/\l2=aR)\/(k=3/\l3=aR)\/(k=4/\l4=aR/\l2=bB/\l3=bB)\/(k=5/\l5=aR/\l0=bB/\l1=bB/\l2=bB/\l3=bB/\l4=bB)\/(k=6/\l6=aR/\l5=bB/\l4=bB):=by
 rw[ready_eq]at h;revert h;cases l0<;>cases l1<;>cases l2<;>cases l3<;>cases l4<;>cases l5<;>cases l6<;>simp[opens]<;>omega
def O6(h4:l4=bB->l2=bB/\l3=bB)(z:l5=bB->l0=bB/\l1=bB/\l2=bB/\l3=bB/\l4=bB)(E:l6=bB->l5=bB)(hc:l0.toNat+l1.toNat+l2.toNat+l3.toNat+l4.toNat+l5.toNat+l6.toNat<7):fL .any ug #[l0,l1,l2,l3,l4,l5,l6]≠[]:=by
 rw[ready_eq];revert h4 z E hc;cases l0<;>cases l1<;>cases l2<;>cases l3<;>cases l4<;>cases l5<;>cases l6<;>simp[opens]
end
end
section
def agN:∃o,ug[0]? =M o/\o.op=.load 104 (cR 3)/\o.dst=M 5/\o.guard=Z:=⟨_,rfl,rfl,rfl,rfl⟩
def agK:∃o,ug[1]? =M o/\o.op=.load 3 (cR 4)/\o.dst=M 6/\o.guard=Z:=⟨_,rfl,rfl,rfl,rfl⟩
def ag8:∃o,ug[2]? =M o/\o.op=.load 24 (cR 1)/\o.dst=M 7/\o.guard=Z:=⟨_,rfl,rfl,rfl,rfl⟩
def ag9:∃o,ug[3]? =M o/\o.op=.load 125 (cR 2)/\o.dst=M 8/\o.guard=Z:=⟨_,rfl,rfl,rfl,rfl⟩
def ag3:∃o,ug[4]? =M o/\o.op=.call { callee:=.value (.func 73),args:=#[cR 7,cR 8],argTypes:=#[24,125] }/\o.dst=M 9/\o.guard=Z:=⟨_,rfl,rfl,rfl,rfl⟩
def ag6:∃o,ug[5]? =M o/\o.op=.indexAddr 104 (cR 5) (cR 6)/\o.dst=M 10/\o.guard=Z:=⟨_,rfl,rfl,rfl,rfl⟩
def agX:∃o,ug[6]? =M o/\o.op=.store 106 (cR 10) (cR 9)/\o.dst=Z/\o.guard=Z:=⟨_,rfl,rfl,rfl,rfl⟩
def jY{o:km}{y:Nat->Option Bool}(h:o.guard=Z):cS o y=bB:=by simp[cS,h]
section
variable {Wg C n i bc bx bf bi:Nat}{inbox batcher t0 t1 t2 t3 t4 fr ad:Int}{data:ByteArray}{fs:Nat->List Fr.F}{l0 l1 l2 l3 l4 l5 l6:Bool}{K:kC}{v:aD}{w:X}
def aa2(rd:ReadW)(hi:i<n)(aq:C≠Wg)(au:fs i=Fr.mg inbox batcher fr ad data.data.toList)(hd:data.size<=1048576)(t:Nat)(h:Reg fs Wg C n i bc bx bf bi inbox batcher t0 t1 t2 t3 t4 fr ad data aR aR aR aR aR aR aR K v w):kY U aR (mJ Wg C n) (M i) (tC U (mJ Wg C n) (leftOf fs) i) K (uy Wg C n i bc bx bf bi inbox batcher t0 t1 t2 t3 t4 fr ad data #[aR,aR,aR,aR,aR,aR,aR] v (Region.linearise.go .any ug 7 t (Array.replicate 7 aR) [])) w:=by
 refine Gh (σ:=kC×aD×X×Array Bool) (md:=.any) (ops:=ug)
  (λak listed s=>s.2.2.2=listed/\∃l0 l1 l2 l3 l4 l5 l6,listed=#[l0,l1,l2,l3,l4,l5,l6]/\Cnt ak l0 l1 l2 l3 l4 l5 l6/\Reg fs Wg C n i bc bx bf bi inbox batcher t0 t1 t2 t3 t4 fr ad data l0 l1 l2 l3 l4 l5 l6 s.1 s.2.1 s.2.2.1)
  (λrest s=>kY _ aR _ _ _ s.1 (uy Wg C n i bc bx bf bi inbox batcher t0 t1 t2 t3 t4 fr ad data s.2.2.2 s.2.1 rest) s.2.2.1) ?done ?more 7 t _ (K,v,w,#[aR,aR,aR,aR,aR,aR,aR]) ⟨rfl,aR,aR,aR,aR,aR,aR,aR,rfl,rfl,h⟩
 case done=>
  rintro listed ⟨K,v,w,l⟩ ⟨rfl,l0,l1,l2,l3,l4,l5,l6,hl,hc,R⟩;have h4:l4=bB:=by unfold Cnt at hc;revert hc;cases l0<;>cases l1<;>cases l2<;>cases l3<;>cases l4<;>cases l5<;>cases l6<;>simp
  have h6:l6=bB:=by unfold Cnt at hc;revert hc;cases l0<;>cases l1<;>cases l2<;>cases l3<;>cases l4<;>cases l5<;>cases l6<;>simp
  exact ZO R.wf R.kw (R.has h6) (R.row h4)
 case more=>
  rintro ak listed ⟨K,v,w,l⟩ ⟨rfl,l0,l1,l2,l3,l4,l5,l6,hl,hc,R⟩;simp only at hl;subst hl;unfold Cnt at hc;refine⟨O6 R.d4 R.d5 R.d6 aA,λk hk rest J=>?_⟩;have ag:bW.kind≠.early:=baseD_kind _;obtain⟨rfl,e⟩|⟨rfl,e⟩|⟨rfl,e⟩|⟨rfl,e⟩|⟨rfl,e,e2,e3⟩|⟨rfl,e,e0,e1,e2,e3,e4⟩|⟨rfl,e,e5,e4⟩:=SN hk
  .subst e;obtain⟨o,ho,ac,aa,Y⟩:=agN;refine kY.op ho (jY Y) ag λE I=>?_;have z:=R.en I;obtain⟨r1,r2⟩:=ag4 z.wf (a:=⟨slots Wg C n i bc bx bf bi inbox batcher t0 t1 t2 t3 t4 fr ad data #[aR,l1,l2,l3,l4,l5,l6] v,[dcall link.done #[aG (M ⟨Wg,0,Z⟩)]]⟩) rfl ac;refine⟨_,E,r1,su λe he=>?_,?_⟩
   .have:=im he;rw[r2]at this;simp at this;exact⟨_,this,z.kw.f,z.kw.low _ z.kw.f⟩
   .rw[kR,aa];have:=J (K,v,E,#[bB,l1,l2,l3,l4,l5,l6]) ⟨aC,bB,l1,l2,l3,l4,l5,l6,aC,by unfold Cnt;simp at hc⊢;omega,⟨z.d4,λh=>⟨rfl,(z.d5 h).2⟩,z.d6,z.wf,z.kw,z.row,z.has⟩⟩;simpa[uy,slots,Qq,eM]using this
  .subst e;obtain⟨o,ho,ac,aa,Y⟩:=agK;refine kY.op ho (jY Y) ag λE I=>?_;have z:=R.en I;obtain⟨r1,r2⟩:=ag2 z.wf (a:=⟨slots Wg C n i bc bx bf bi inbox batcher t0 t1 t2 t3 t4 fr ad data #[l0,aR,l2,l3,l4,l5,l6] v,[dcall link.done #[aG (M ⟨Wg,0,Z⟩)]]⟩) rfl ac;refine⟨_,E,r1,su λe he=>?_,?_⟩
   .have:=im he;rw[r2]at this;simp at this;exact⟨_,this,z.kw.i,z.kw.low _ z.kw.i⟩
   .rw[kR,aa];have:=J (K,v,E,#[l0,bB,l2,l3,l4,l5,l6]) ⟨aC,l0,bB,l2,l3,l4,l5,l6,aC,by unfold Cnt;simp at hc⊢;omega,⟨z.d4,λh=>⟨(z.d5 h).1,rfl,(z.d5 h).2.2⟩,z.d6,z.wf,z.kw,z.row,z.has⟩⟩;simpa[uy,slots,Qq,eM]using this
  .subst e;obtain⟨o,ho,ac,aa,Y⟩:=ag8;refine kY.op ho (jY Y) ag λE I=>?_;have z:=R.en I;obtain⟨r1,r2⟩:=ahf z.wf (a:=⟨slots Wg C n i bc bx bf bi inbox batcher t0 t1 t2 t3 t4 fr ad data #[l0,l1,aR,l3,l4,l5,l6] v,[dcall link.done #[aG (M ⟨Wg,0,Z⟩)]]⟩) rfl ac;refine⟨_,E,r1,su λe he=>?_,?_⟩
   .have:=im he;obtain⟨k,am⟩:=r2 _ this;exact⟨_,am,z.kw.c,z.kw.low _ z.kw.c⟩
   .rw[kR,aa];have:=J (K,v,E,#[l0,l1,bB,l3,l4,l5,l6]) ⟨aC,l0,l1,bB,l3,l4,l5,l6,aC,by unfold Cnt;simp at hc⊢;omega,⟨λh=>⟨rfl,(z.d4 h).2⟩,λh=>⟨(z.d5 h).1,(z.d5 h).2.1,rfl,(z.d5 h).2.2.2⟩,z.d6,z.wf,z.kw,z.row,z.has⟩⟩;simpa[uy,slots,Qq,eM]using this
  .subst e;obtain⟨o,ho,ac,aa,Y⟩:=ag9;refine kY.op ho (jY Y) ag λE I=>?_;have z:=R.en I;obtain⟨r1,r2⟩:=agF z.wf (a:=⟨slots Wg C n i bc bx bf bi inbox batcher t0 t1 t2 t3 t4 fr ad data #[l0,l1,l2,aR,l4,l5,l6] v,[dcall link.done #[aG (M ⟨Wg,0,Z⟩)]]⟩) rfl ac;refine⟨_,E,r1,su λe he=>?_,?_⟩
   .have:=im he;obtain⟨k,am⟩:=r2 _ this;exact⟨_,am,z.kw.x,z.kw.low _ z.kw.x⟩
   .rw[kR,aa];have:=J (K,v,E,#[l0,l1,l2,bB,l4,l5,l6]) ⟨aC,l0,l1,l2,bB,l4,l5,l6,aC,by unfold Cnt;simp at hc⊢;omega,⟨λh=>⟨(z.d4 h).1,rfl⟩,λh=>⟨(z.d5 h).1,(z.d5 h).2.1,(z.d5 h).2.2.1,rfl,(z.d5 h).2.2.2.2⟩,z.d6,z.wf,z.kw,z.row,z.has⟩⟩;simpa[uy,slots,Qq,eM]using this
  .subst e e2 e3;obtain⟨o,ho,ac,aa,Y⟩:=ag3;refine rd _ _ _ _ _ _ _ _ _ _ _ _ _ _ _ _ inbox batcher t0 t1 t2 t3 t4 fr ad data ho (jY Y) ag ac (by simp[slots,Qq,n8]) (by simp[slots,Qq,n8]) hd R.kw.sub R.kw.low R.kw.pay R.kw.grp R.kw.glob ?_
   .rintro E I v' K' ah af hO ay ae ai aj az ar;have z:=R.en I;rw[<-au]at af;rw[aa];have ap:PayAt C n ah:=ar z.wf.pay;have an:WgLive link.tWg Wg ah:=az z.wf.live
    have:=J (K',v',ah,#[l0,l1,bB,bB,bB,l5,l6]) ⟨aC,l0,l1,bB,bB,bB,l5,l6,aC,by unfold Cnt;simp at hc⊢;omega,⟨λ_=>⟨rfl,rfl⟩,λh=>(by have:=(z.d5 h).2.2.2.2;cases this),z.d6,⟨(ai _ R.kw.c).trans z.wf.c,(ai _ R.kw.x).trans z.wf.x,(ai _ R.kw.f).trans z.wf.f,(ai _ R.kw.i).trans z.wf.i,an,ap⟩,
     ⟨hO _ R.kw.c,hO _ R.kw.x,hO _ R.kw.f,hO _ R.kw.i,ay,λb hb=>(aj b hb).1,aP z.kw.pay ae,aP z.kw.grp ae,λb hb=>(aj b hb).2.elim (R.kw.ne b) λh=>by have:=z.kw.pay;omega,bH z.kw.glob ae⟩,λ_=>af,λh=>(by have:=(z.d5 (z.d6 h)).2.2.2.2;cases this)⟩⟩
    simpa[uy,slots,Qq,eM]using this
  .subst e e0 e1 e2 e3 e4;obtain⟨o,ho,ac,aa,Y⟩:=ag6;refine kY.op ho (jY Y) ag λE I=>?_;have z:=R.en I;obtain⟨r1,r2⟩:=agR (w:=E) hi (a:=⟨slots Wg C n i bc bx bf bi inbox batcher t0 t1 t2 t3 t4 fr ad data #[bB,bB,bB,bB,bB,aR,l6] v,[dcall link.done #[aG (M ⟨Wg,0,Z⟩)]]⟩) rfl rfl ac;refine⟨_,E,r1,su λe he=>?_,?_⟩
   .have:=im he
    grind
   .rw[kR,aa];have:=J (K,v,E,#[bB,bB,bB,bB,bB,bB,l6]) ⟨aC,bB,bB,bB,bB,bB,bB,l6,aC,by unfold Cnt;simp at hc⊢;omega,⟨z.d4,λ_=>⟨rfl,rfl,rfl,rfl,rfl⟩,λ_=>rfl,z.wf,z.kw,z.row,z.has⟩⟩;simpa[uy,slots,Qq,eM]using this
  .subst e e5 e4;obtain⟨rfl,rfl,rfl,rfl,_⟩:=R.d5 rfl;obtain⟨o,ho,ac,aa,Y⟩:=agX;refine kY.opn ho (jY Y) ag λE I=>?_;have z:=R.en I;have af:=z.row rfl
   obtain⟨x,l,c,hv⟩:∃x l c,v=.slice x l c:=by
    obtain⟨e,_⟩|⟨g,cap,a0,e,_⟩:=af
    .exact⟨_,_,_,e⟩
    grind
   subst hv;obtain⟨r1,r2⟩:=ahe (w:=E) z.wf.pay hi (a:=⟨slots Wg C n i bc bx bf bi inbox batcher t0 t1 t2 t3 t4 fr ad data #[bB,bB,bB,bB,bB,bB,aR] (.slice x l c),[dcall link.done #[aG (M ⟨Wg,0,Z⟩)]]⟩) rfl rfl ac
   have ao:=acG (S:=mJ Wg C n) (K:=K) (i:=i) (v:=.slice x l c) (es:=listed U bW.fn ⟨slots Wg C n i bc bx bf bi inbox batcher t0 t1 t2 t3 t4 fr ad data #[bB,bB,bB,bB,bB,bB,aR] (.slice x l c),[dcall link.done #[aG (M ⟨Wg,0,Z⟩)]]⟩ o E) z.wf.pay λe he=>by
    have:=im he
    grind
   refine⟨_,r1,ao,?_⟩;obtain⟨_,_,_,ae⟩:=kE E ⟨C,i,Z⟩ (.slice x l c);rw[ae,kR,aa];have hb:∀b,K.O b->(E.setCell ⟨C,i,Z⟩ (.slice x l c)).heap[b]? =E.heap[b]?:=λb hb=>kL (R.kw.ne b hb);have av:(E.setCell ⟨C,i,Z⟩ (.slice x l c)).heap[Wg]? =E.heap[Wg]?:=kL (Ne.symm aq)
   have:=J (K,.slice x l c,E.setCell _ _,#[bB,bB,bB,bB,bB,bB,bB]) ⟨aC,bB,bB,bB,bB,bB,bB,bB,aC,by unfold Cnt;simp at hc⊢;omega,
    ⟨λ_=>⟨rfl,rfl⟩,λ_=>⟨rfl,rfl,rfl,rfl,rfl⟩,λ_=>rfl,⟨(hb _ z.kw.c).trans z.wf.c,(hb _ z.kw.x).trans z.wf.x,(hb _ z.kw.f).trans z.wf.f,(hb _ z.kw.i).trans z.wf.i,let ⟨st,sm,hl⟩:=z.wf.live;⟨st,sm,hl.of_block av⟩,ao.pay z.wf.pay⟩,
     ⟨z.kw.c,z.kw.x,z.kw.f,z.kw.i,z.kw.sub,λb aw=>by rw[ae];exact z.kw.low b aw,by rw[ae];exact z.kw.pay,by rw[ae];exact z.kw.grp,z.kw.ne,by rw[ae];exact z.kw.glob⟩,λ_=>af.stands (λ_=>id) hb,λ_=>ZM z.wf.pay hi _⟩⟩
   simpa[uy,slots,Qq,eM]using this
end
end
section
section
variable {Wg C n i bc bx bf bi:Nat}{inbox batcher t0 t1 t2 t3 t4 fr ad:Int}{data:ByteArray}{fs:Nat->List Fr.F}{K:kC}{w:X}
def KW.en{z:X}(h:KW Wg C bc bx bf bi K w)(r:En (mJ Wg C n) (M i) K w z):KW Wg C bc bx bf bi K z:=
 ⟨h.c,h.x,h.f,h.i,h.sub,λb E=>aP (h.low b E) r.size,aP h.pay r.size,aP h.grp r.size,h.ne,bH h.glob r.size⟩
def PO(rd:ReadW)(hi:i<n)(aa:C≠Wg)(ac:fs i=Fr.mg inbox batcher fr ad data.data.toList)(hd:data.size<=1048576)(hF:WF Wg C n i bc bx bf bi (cfg inbox batcher t0 t1 t2 t3 t4) (Ad fr ad data) w)(Y:KW Wg C bc bx bf bi K w):kY U aR (mJ Wg C n) (M i) (tC U (mJ Wg C n) (leftOf fs) i) K (born U (JU Wg bc bx bf bi)) w:=by
 refine kY.step rfl λz I=>⟨_,z,_,born_step z,.still ..,?_⟩
 rw[kR];have E:WF Wg C n i bc bx bf bi (cfg inbox batcher t0 t1 t2 t3 t4) (Ad fr ad data) z/\KW Wg C bc bx bf bi K z:=⟨hF.en Y.c Y.x Y.f Y.i I,Y.en I⟩
 have rl:∀{w z:X},(WF Wg C n i bc bx bf bi (cfg inbox batcher t0 t1 t2 t3 t4) (Ad fr ad data) w/\KW Wg C bc bx bf bi K w)->En (mJ Wg C n) (M i) K w z->(WF Wg C n i bc bx bf bi (cfg inbox batcher t0 t1 t2 t3 t4) (Ad fr ad data) z/\KW Wg C bc bx bf bi K z):=
  λh r=>⟨h.1.en h.2.c h.2.x h.2.f h.2.i r,h.2.en r⟩
 clear hF Y I;have hb:YE=(.seq (.region 0 #[{ dst:=Z,op:=.defer { callee:=.value (.func 72),args:=#[cR 0],argTypes:=#[150] },type:=0,pos:= "upper.go:57",after:=#[],guard:=Z }] aR) (.region 1 ug bB)):=rfl;rw[hb];refine kY.go (n:=10) ?_;u_c cE rl E;u_reg rl E;u_defer rl E;u_c bA rl E;refine cL λaf J=>?_;replace E:=rl E J;clear J;refine kY.draw λae R t=>?_;replace E:=rl E R;clear R;rw[sched];exact aa2 (v:=aH) rd hi aa ac hd t ⟨aC,aC,aC,⟨E.1.c,E.1.x,E.1.f,E.1.i,E.1.live,E.1.pay⟩,⟨E.2.c,E.2.x,E.2.f,E.2.i,E.2.sub,E.2.low,E.2.pay,E.2.grp,E.2.ne,E.2.glob⟩,aC,aC⟩
end
end
section
variable {tb q b:Nat}{fr ad k j k1 k2:Int}{data k3:ByteArray}{ty:cH}{x y z:aD}{fn:o6}{e:Event}
section
variable {w:X}{a:Act}{o:km}
def ab3(R:w.cell? ⟨tb,q,Z⟩=M (N dT fr))(J:w.cell? ⟨tb,q+1,Z⟩=M (N dT ad))(h2:w.cell? ⟨tb,q+2,Z⟩=M (bE data))(I:a.eval (cR 17)=aG (M ⟨tb,q,Z⟩))(E:o.op=.load 125 (cR 17)):(bO a.eval o).run U w=.ok (.value (.agg (Ad fr ad data))) w/\∀e∈(bO a.eval o).events U w #[],∃k,e=⟨.cell ⟨tb,k,Z⟩,aR,aR⟩:=by
 constructor
 .unfold bO;simp only[E,I];simp[go_sem,R,J,h2]
 .unfold bO;simp only[E,I];simp[go_sem,R,J,h2]
def afG(E:o.op=.alloc 3):(bO a.eval o).run U w=.ok (.value (aG (M ⟨w.heap.size,0,Z⟩))) (w.alloc (aL #[N aE 0] 3))/\(bO a.eval o).events U w #[]=#[]:=by
 constructor
 .unfold bO;simp only[E];simp[go_sem]
 .unfold bO;simp only[E];simp[go_sem]
def afL(E:o.op=.alloc 125):(bO a.eval o).run U w=.ok (.value (aG (M ⟨w.heap.size,0,Z⟩))) (w.alloc (aL #[N dT 0,N dT 0,bE ⟨#[]⟩] 125))/\(bO a.eval o).events U w #[]=#[]:=by
 constructor
 .unfold bO;simp only[E];simp[go_sem]
 .unfold bO;simp only[E];simp[go_sem]
def aeI(R:w.heap[b]? =M (aL #[N aE k] 3))(J:a.eval (cR 7)=aG (M ⟨b,0,Z⟩))(I:a.eval (cR 16)=N aE j)(E:o.op=.store 3 (cR 7) (cR 16)):(bO a.eval o).run U w=.ok .skip (w.setCell ⟨b,0,Z⟩ (N aE j))/\(bO a.eval o).events U w #[]=#[⟨.cell ⟨b,0,Z⟩,bB,aR⟩]:=by
 have hc:w.cell? ⟨b,0,Z⟩=M (N aE k):=by simp[eQ,R]
 have Y:w.frozen? ⟨b,0,Z⟩=aR:=by simp[js,R]
 constructor
 .unfold bO;simp only[E,J,I];simp[go_sem,stored,hc,Y]
 .unfold bO;simp only[E,J,I];simp[go_sem,storedEv,hc,Y]
def RV{u v:aD}(E:w.heap[b]? =M (aL #[u] ty)):(w.setCell ⟨b,0,Z⟩ v).heap[b]? =M (aL #[v] ty):=by simp[eO,bT,E]
def vJ(w:X)(b:Nat)(x y z:aD):X:=((w.setCell ⟨b,0,Z⟩ x).setCell ⟨b,1,Z⟩ y).setCell ⟨b,2,Z⟩ z
def Xn{E I J:aD}(R:w.heap[b]? =M (aL #[E,I,J] ty)):(vJ w b x y z).heap[b]? =M (aL #[x,y,z] ty):=by simp[vJ,eO,bT,R]
def DT(w:X)(b:Nat)(x y z:aD):(vJ w b x y z).tape=w.tape/\(vJ w b x y z).os=w.os/\(vJ w b x y z).output=w.output/\(vJ w b x y z).heap.size=w.heap.size/\∀c,c≠b->(vJ w b x y z).heap[c]? =w.heap[c]?:=by
 obtain⟨a1,a2,J,Y⟩:=kE w ⟨b,0,Z⟩ x;obtain⟨E,b2,I,b4⟩:=kE (w.setCell ⟨b,0,Z⟩ x) ⟨b,1,Z⟩ y;obtain⟨R,c2,c3,c4⟩:=kE ((w.setCell ⟨b,0,Z⟩ x).setCell ⟨b,1,Z⟩ y) ⟨b,2,Z⟩ z
 exact⟨R.trans (E.trans a1),c2.trans (b2.trans a2),c3.trans (I.trans J),c4.trans (b4.trans Y),λc hc=>by
  unfold vJ;rw[kL (ad:=⟨b,2,Z⟩) hc,kL (ad:=⟨b,1,Z⟩) hc,kL (ad:=⟨b,0,Z⟩) hc]⟩
def afr(J:w.heap[b]? =M (aL #[N dT k1,N dT k2,bE k3] 125))(h8:a.eval (cR 8)=aG (M ⟨b,0,Z⟩))(E:a.eval (cR 18)=.agg (Ad fr ad data))(I:o.op=.store 125 (cR 8) (cR 18)):(bO a.eval o).run U w=.ok .skip (vJ w b (N dT fr) (N dT ad) (bE data))/\∀e∈(bO a.eval o).events U w #[],∃k,e=⟨.cell ⟨b,k,Z⟩,bB,aR⟩:=by
 have b1:(w.setCell ⟨b,0,Z⟩ (N dT fr)).heap[b]? =M (aL #[N dT fr,N dT k2,bE k3] 125):=by simp[eO,bT,J]
 have b2:((w.setCell ⟨b,0,Z⟩ (N dT fr)).setCell ⟨b,1,Z⟩ (N dT ad)).heap[b]? =M (aL #[N dT fr,N dT ad,bE k3] 125):=by simp[eO,bT,J]
 have c0:w.cell? ⟨b,0,Z⟩=M (N dT k1):=by simp[eQ,J]
 have z0:w.frozen? ⟨b,0,Z⟩=aR:=by simp[js,J]
 have c1:(w.setCell ⟨b,0,Z⟩ (N dT fr)).cell? ⟨b,1,Z⟩=M (N dT k2):=by simp[eQ,b1]
 have z1:(w.setCell ⟨b,0,Z⟩ (N dT fr)).frozen? ⟨b,1,Z⟩=aR:=by simp[js,b1]
 have R:((w.setCell ⟨b,0,Z⟩ (N dT fr)).setCell ⟨b,1,Z⟩ (N dT ad)).cell? ⟨b,2,Z⟩=M (bE k3):=by simp[eQ,b2]
 have Y:((w.setCell ⟨b,0,Z⟩ (N dT fr)).setCell ⟨b,1,Z⟩ (N dT ad)).frozen? ⟨b,2,Z⟩=aR:=by simp[js,b2]
 constructor
 .unfold bO;simp only[I,h8,E];simp[go_sem,stored,c0,z0,c1,z1,R,Y,vJ]
 .unfold bO;simp only[I,h8,E];simp[go_sem,stored,storedEv,c0,z0,c1,z1,R,Y,pg _ _ _ _ _ _ (show(bE data).oneCell'=bB from rfl)]
def U1(I:a.eval (cR 17)=aG (M ⟨tb,q,Z⟩))(E:o.op=.load 125 (cR 17))(R:w.cell? ⟨tb,q,Z⟩=M (N dT fr))(J:w.cell? ⟨tb,q+1,Z⟩=M (N dT ad))(h2:w.cell? ⟨tb,q+2,Z⟩=M (bE data)):(bO a.eval o).run U w=.ok (.value (.agg (Ad fr ad data))) w:=(ab3 R J h2 I E).1
def VB(I:e∈listed U fn a o w)(J:a.eval (cR 17)=aG (M ⟨tb,q,Z⟩))(E:o.op=.load 125 (cR 17))(Y:w.cell? ⟨tb,q,Z⟩=M (N dT fr))(R:w.cell? ⟨tb,q+1,Z⟩=M (N dT ad))(h2:w.cell? ⟨tb,q+2,Z⟩=M (bE data)):∃k,e=⟨.cell ⟨tb,k,Z⟩,aR,aR⟩:=(ab3 Y R h2 J E).2 e (im I)
def Wi(E:o.op=.alloc 3):(bO a.eval o).run U w=.ok (.value (aG (M ⟨w.heap.size,0,Z⟩))) (w.alloc (aL #[N aE 0] 3)):=(afG E).1
def aaw(E:o.op=.alloc 3):listed U fn a o w=#[]:=by unfold listed;rw[(afG E).2,seen_none]
def VJ(E:o.op=.alloc 125):(bO a.eval o).run U w=.ok (.value (aG (M ⟨w.heap.size,0,Z⟩))) (w.alloc (aL #[N dT 0,N dT 0,bE ⟨#[]⟩] 125)):=(afL E).1
def abu(E:o.op=.alloc 125):listed U fn a o w=#[]:=by unfold listed;rw[(afL E).2,seen_none]
def WJ(J:a.eval (cR 7)=aG (M ⟨b,0,Z⟩))(I:a.eval (cR 16)=N aE j)(E:o.op=.store 3 (cR 7) (cR 16))(R:w.heap[b]? =M (aL #[N aE k] 3)):(bO a.eval o).run U w=.ok .skip (w.setCell ⟨b,0,Z⟩ (N aE j)):=(aeI R J I E).1
def aaF(J:e∈listed U fn a o w)(R:a.eval (cR 7)=aG (M ⟨b,0,Z⟩))(I:a.eval (cR 16)=N aE j)(E:o.op=.store 3 (cR 7) (cR 16))(Y:w.heap[b]? =M (aL #[N aE k] 3)):e=⟨.cell ⟨b,0,Z⟩,bB,aR⟩:=by
 have:=im J;rw[(aeI Y R I E).2]at this;simpa using this
def WQ(J:a.eval (cR 8)=aG (M ⟨b,0,Z⟩))(E:a.eval (cR 18)=.agg (Ad fr ad data))(I:o.op=.store 125 (cR 8) (cR 18))(R:w.heap[b]? =M (aL #[N dT k1,N dT k2,bE k3] 125)):(bO a.eval o).run U w=.ok .skip (vJ w b (N dT fr) (N dT ad) (bE data)):=(afr R J E I).1
def abe(R:e∈listed U fn a o w)(J:a.eval (cR 8)=aG (M ⟨b,0,Z⟩))(E:a.eval (cR 18)=.agg (Ad fr ad data))(I:o.op=.store 125 (cR 8) (cR 18))(Y:w.heap[b]? =M (aL #[N dT k1,N dT k2,bE k3] 125)):∃k,e=⟨.cell ⟨b,k,Z⟩,bB,aR⟩:=(afr Y J E I).2 e (im R)
def Qx{S:Who}{R:Option Nat}{K:kC}{es:Array Event}(I:K.W b)(Y:b<w.heap.size)(hC:b≠S.C)(h:∀e∈es,∃k,e=⟨.cell ⟨b,k,Z⟩,bB,aR⟩):Gu S R K w (vJ w b x y z) es:=by obtain⟨J,h2,h3,h4,E⟩:=DT w b x y z;refine⟨J,h2,h3,jq h4.symm,λc _ hn _=>E c λe=>hn (e ▸ I),λ⟨cs,a,d⟩=>⟨cs,(E _ (Ne.symm hC)).trans a,d⟩,λi _=>cell_of_block (E _ (Ne.symm hC)) i,λe he=>?_⟩;obtain⟨k,rfl⟩:=h e he;exact bN (bN ⟨_,bB,rfl,bN (by simpa using I),by rw[h4];exact Y⟩)
end
end
end Cr
