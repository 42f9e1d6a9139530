import Derived.Test.YtpibpdpedjinhabGreatDoorP05
import Derived.Test.YtpibpdpedjinhabGreatDoorProg
import Derived.Test.YtpibpdpedjinhabGreatDoorChecked
import Derived.WalkSpells
import Derived.BigCall
import Derived.Deep.QuietTactic
import Derived.BigQuiet
import Derived.Deep.DeepCutAuto
import Derived.Deep.RegionWith
import Derived.Deep.AppendLies
import Derived.Deep.RegionHeld3
import Derived.RangeFuncBox
import Derived.OwnWalkIn
import Init
import Derived.RangeFuncNested
import Derived.RangeFuncBound
import Derived.RangeFuncCalls
import Derived.RangeFuncLeaves
import Derived.Below
import Derived.Laws.Bits64b
import Derived.Shelf.Abstract
import Derived.Shelf.Strconv.Clone
import Derived.TacticsInMore
import Derived.LoopNIn
import Derived.LoopIn
set_option maxRecDepth 100000
set_option maxHeartbeats 4000000
set_option linter.all false
open BitVec renaming ofInt->np,ofInt_natCast->nW,toNat_ofNat->oi
open Bool renaming false->aR,true->bB
open Go renaming Code->eN,Frame->cT,FuncId->o6,Goroutine->cA,Obj->oA,Operand->l8,Program->cU,TypeId->cH,Value->aD,World->X,callFunc->iu,run_underlying->eB
open Go.Builtin renaming copy_->nQ,firstCells->nL,lenOf->oE,len_->mi,unsafeString_->nj
open Go.Conc renaming mem_listed->im,stepG_block->pA,stepG_region_end->bA,stepG_seq->cE,stepG_skip->ij
open Go.Conc.Goes renaming stop->cL
open Go.Fence renaming wide->gL
open Go.Frame renaming finish_at->nz
open Go.IntKind renaming i64->aE,u32->dT,wrap_i64->gA
open Go.Lib renaming byteCells->kA,byteCells_length->oo
open Go.Obj renaming cells->aL,deferred->eA
open Go.Proofs.Tryz renaming prog->U,underlying199->gE,underlying223->om,underlying3->gN,underlying4->oY,underlying5->gP,underlying9->eI
open Go.RowKit renaming Below->cG
open Go.RowKit.Below renaming heap_alloc->fY
open Go.Target renaming collected->oF
open Go.Value renaming bool->cM,int->N,slice->aM,string->bE
open Go.World renaming freeze->ix,shape?->fT
open Option renaming none->Z,some->M
open Or renaming inl->bN,inr->cF
namespace Go.Proofs.YtpibpdpedjinhabGreatDoor
section
open Go
section
variable {k:Nat}{f:Func}
section
variable (P:cU)(L:o6->Bool)(t:cH)(w:X)
def rQ:cU:={ P with funcs:=P.funcs.mapIdx λi f=>if L i then f else { f with body:=Z,name:= "",origin:= "" } }
def W9(h:P.funcs[k]? =M f)(hk:L k=bB):(rQ P L).funcs[k]? =M f:=by
 show(P.funcs.mapIdx _)[k]? =M f
 rw[Array.getElem?_mapIdx,h];simp only[cO,hk,if_true]
def Ls:(rQ P L).info? t=P.info? t:=rfl
def zi:(rQ P L).underlying t=P.underlying t:=rfl
def Bc:(underlying t).run (rQ P L) w=(underlying t).run P w:=by simp only[underlying,program,bind,Sem.bind,Sem.run,zi];cases P.underlying t<;>rfl
def Pq:(sizeOf t).run (rQ P L) w=(sizeOf t).run P w:=by simp only[sizeOf,typeInfo,program,bind,Sem.bind,Sem.run,Ls];cases P.info? t<;>rfl
def Vd:(isAgg t).run (rQ P L) w=(isAgg t).run P w:=by
 simp only[isAgg,underlying,program,bind,Sem.bind,Sem.run,zi];cases P.underlying t with
 |none=>rfl
 |some d=>cases d<;>rfl
def EN:(zeroValue t).run (rQ P L) w=(zeroValue t).run P w:=by
 simp only[zeroValue,typeInfo,program,bind,Sem.bind,Sem.run,Ls];cases P.info? t with
 |none=>rfl
 |some i=>
  show Sem.run (rQ P L) (match i.zero with|some v=>pure v|none=>_) w=Sem.run P (match i.zero with|some v=>pure v|none=>_) w
  cases i.zero<;>rfl
def Yg(h:P.funcs[k]? =M f)(hk:L k=bB)(E:(f.name == "runtime.NumGoroutine")=aR)(z:f.body.isNone=aR)(args:Array aD):(iu k args).run (rQ P L) w=.ok (.enter k args) w:=by simp only[iu,program,bind,Sem.bind,Sem.run,W9 P L h hk,E,z];rfl
end
def DC(k:o6):Bool:=!([0,1,50,70,71,74,99,100,101,102,103,104,105,106,107,108,109,110,111,113,114,115,116,117,132,133,134,135,137,161,162,163,164,165,166,167,168,169,170,171,172,173,174,175,176,177,178,179,181,182,183,184]:List Nat).contains k
noncomputable def PQ:cU:=rQ U DC
def fq(h:Tryz.prog.funcs[k]? =M f)(hk:DC k=bB):PQ.funcs[k]? =M f:=W9 _ _ h hk
section
variable (t:cH)(w:X)
@[simp] def ZP:PQ.underlying t=Tryz.prog.underlying t:=zi ..
@[simp] def ZI:(underlying t).run PQ w=(underlying t).run U w:=Bc ..
@[simp] def Xz:(sizeOf t).run PQ w=(sizeOf t).run U w:=Pq ..
@[simp] def ZK:(isAgg t).run PQ w=(isAgg t).run U w:=Vd ..
@[simp] def KD:(zeroValue t).run PQ w=(zeroValue t).run U w:=EN ..
end
section
variable {t:cH}
def uq{d:Option TypeDesc}(h:Tryz.prog.underlying t=d):PQ.underlying t=d:=(ZP t).trans h
def szq{d:Nat}(h:∀w,(sizeOf t).run U w=.ok d w)(w:X):(sizeOf t).run PQ w=.ok d w:=(Xz t w).trans (h w)
def iaq{d:Bool}(h:∀w,(isAgg t).run U w=.ok d w)(w:X):(isAgg t).run PQ w=.ok d w:=(ZK t w).trans (h w)
def zvq{d:aD}(h:∀w,(zeroValue t).run U w=.ok d w)(w:X):(zeroValue t).run PQ w=.ok d w:=(KD t w).trans (h w)
end
abbrev YT:Nat:=50572354309897307802473086500525809114090795055137685500
def agB:((List.range 186).all λk=>(YT >>> k)%2 != 1 || match Tryz.prog.funcs[k]? with
  |some f=>DC k&&!(f.name == "runtime.NumGoroutine")&&!f.body.isNone
  |none=>aR)=bB:=XN
@[simp] def ahs(h:(50572354309897307802473086500525809114090795055137685500 >>> k)%2=1)(a:Array aD)(w:X):(iu k a).run PQ w=.ok (.enter k a) w:=by
 have h:(YT >>> k)%2=1:=h
 have hk:k<186:=by
  apply Nat.lt_of_not_le;intro hk;obtain⟨j,rfl⟩:=Nat.exists_eq_add_of_le hk;rw[Nat.shiftRight_add,show YT >>> 186=0 by decide,Nat.zero_shiftRight]at h;cases h
 have:=fF.1 agB k (gV.2 hk);rw[h]at this;cases hf:Tryz.prog.funcs[k]? with
 |none=>grind
 |some f=>
  rw[hf]at this;simp only[bne_self_eq_false,Bool.false_or,dF,Bool.not_eq_true']at this;exact Yg _ _ w hf this.1.1 this.1.2 this.2 a
end
end
namespace Fr
open Go.RowKit Go.Joins
def toList_empty(s:ByteArray):s.toList.isEmpty=decide (s.size=0):=by rw[ByteArray.toList_eq,Lib.size_eq];cases s.data.toList<;>simp
def getD_byte(s:ByteArray)(f:Nat)(h:f<s.size):s.data.toList.getD f 0=s[f]:=by have z:=Lib.size_eq s;rw[aY,aO aA,Array.getElem_toList];rfl
def ext_list(s:ByteArray)(a b:Nat):(s.extract a b).data.toList=(s.data.toList.take b).drop a:=by simp[ByteArray.data_extract,Array.toList_extract,List.drop_take]
def below_drewN{B:Nat}{a w:X}(h:cG B a w)(n:Nat):cG B a (w.drewN n):=h.trans ⟨rfl,rfl,rfl,jB,λ_ _=>rfl⟩
end Fr
section
open Go.Conc
def mZ{w:X}{n i:Nat}{c:Array aD}{t:cH}{f:Nat×Nat}{v:aD}(h:w.heap[n]? =M (aL c t f))(k:c[i]? =M v):w.cell? ⟨n,i,Z⟩=M v:=(Lib.cell_of_heap h i).trans k
abbrev aI:=@Go.Lib.cell_of_heap
abbrev aJ:=@Go.RowKit.Below.refl
abbrev aQ:=@Go.Lib.frozen_of_heap
abbrev aT:=@Go.Calls.mono
abbrev aW:=@Go.RowKit.Below.heap_setCell
abbrev aZ:=@fY
abbrev bD:=@Go.Lib.size_eq
abbrev fB:=@Go.World.size_alloc
abbrev fG:=@Go.World.block_lt_of_cell?
abbrev fO:=@Go.Frame.finish_at
abbrev fV:=@fY
abbrev iq:=@Go.Result.andThen_ok
abbrev iU:=@Go.Sem.run_bind
end
namespace Fr
section
variable {s:List UInt8}{p:Nat}
structure F where
 chan:Nat
 num:Nat
 data:List UInt8
 last:Bool
variable {l:List F}
def big(s:List UInt8)(p:Nat):Nat->Nat
 |0=>0
 |k+1=>256*big s p k+(s.getD (p+k) 0).toNat
def uD(s:List UInt8)(p:Nat):∀k,big s p k<256 ^ k
 |0=>by simp[big]
 |k+1=>by
  have z:=uD s p k;have h2:=(s.getD (p+k) 0).toNat_lt;rw[big,Nat.pow_succ];omega
def one(s:List UInt8)(p:Nat):Option (F×Nat):=
 if s.length<p+9 then Z
 else if s.length<p+9+big s (p+6) 2 then Z
 else if 1<(s.getD (p+8+big s (p+6) 2) 0).toNat then Z
 else M (⟨big s p 4,big s (p+4) 2,(s.take (p+8+big s (p+6) 2)).drop (p+8),(s.getD (p+8+big s (p+6) 2) 0).toNat == 1⟩,9+big s (p+6) 2)
def abb(h:¬s.length<p+9):one s p=if s.length<p+9+big s (p+6) 2 then Z
 else if 1<(s.getD (p+8+big s (p+6) 2) 0).toNat then Z
 else M (⟨big s p 4,big s (p+4) 2,(s.take (p+8+big s (p+6) 2)).drop (p+8),(s.getD (p+8+big s (p+6) 2) 0).toNat == 1⟩,9+big s (p+6) 2):=by
 unfold one;rw[Zs h]
def KN(h:s.length<p+9):one s p=Z:=by unfold one;rw[ZD h]
def rest:Nat->List UInt8->Nat->Option (List F)
 |0,s,p=>if s.length<=p then M []else Z
 |f+1,s,p=>if s.length<=p then M []else match one s p with
  |none=>Z
  |some (x,n)=>(rest f s (p+n)).map (x::·)
def frames(s:List UInt8):Option (List F):=if s.length<2\/s.getD 0 0≠0 then Z else rest s.length s 1
def one_le{x:F}{n:Nat}(h:one s p=M (x,n)):9<=n/\p+n<=s.length:=by
 unfold one at h
 grind
inductive qO(s:List UInt8):List F->Nat->Prop
 |nil:qO s [] 1
 |snoc {l:List F} {p:Nat} {x:F} {n:Nat}:qO s l p->p<s.length->one s p=M (x,n)->qO s (l++[x]) (p+n)
def qO.le(hs:1<=s.length)(h:qO s l p):p<=s.length/\l.length<p:=by
 induction h with
 |nil=>grind
 |snoc h hp ho ih=>
  have:=one_le ho
  grind
def qO.rest(h:qO s l p):∀f,l.length<=f->Fr.rest f s 1=(Fr.rest (f-l.length) s p).map (λr=>l++r):=by
 induction h with
 |nil=>intro f _;simp
 |@snoc l p x n h hp ho ih=>
  intro f I;simp only[aS,aU,bY]at I⊢;rw[ih f aA];obtain⟨z,E⟩:∃z,f-l.length=z+1:=⟨f-l.length-1,aA⟩
  rw[E,Fr.rest,Zs aA,ho];simp only;rw[show f-(l.length+(0+1))=z from by omega];cases Fr.rest z s (p+n)<;>simp
def qO.all(h2:¬(s.length<2\/s.getD 0 0≠0))(h:qO s l p)(hp:s.length<=p):frames s=M l:=by have:=h.le aA;rw[frames,Zs h2,h.rest s.length aA];cases s.length-l.length<;>simp[Fr.rest,hp]
def qO.stuck(h2:¬(s.length<2\/s.getD 0 0≠0))(h:qO s l p)(hp:p<s.length)(z:one s p=Z):frames s=Z:=by
 have:=h.le aA;rw[frames,Zs h2,h.rest s.length aA];cases s.length-l.length with
 |zero=>rw[Fr.rest,Zs aA];rfl
 |succ f=>rw[Fr.rest,Zs aA,z];rfl
def yV(h:s.length<2\/s.getD 0 0≠0):frames s=Z:=by rw[frames,ZD h]
end
open Go.RowKit Go.Joins
def wU(x:F):List aD:=[N dT x.chan,N .u16 x.num,bE ⟨x.data.toArray⟩,.bool x.last]
def flat:List F->List aD
 |[]=>[]
 |x::l=>wU x++flat l
def zT:∀(a b:List F),flat (a++b)=flat a++flat b
 |[],_=>rfl
 |x::a,b=>by rw[dN,flat,flat,zT a b,fM]
def flat_length:∀l:List F,(flat l).length=l.length*4
 |[]=>rfl
 |x::l=>by rw[flat,aS,flat_length l];simp[wU];omega
end Fr
section
open Go.RowKit
section
variable {B gf:Nat}{P:cU}{g:l8}{ps:Array Tmp}{assign body:eN}{Q:Exit->Act->X->Prop}{w w0:X}{lb:Array aD}{ks:Nat->Prop}
def yt{a b:X}(h:cG B a b)(l:Nat)(o:oA)(z:l<a.heap.size):cG B (a.putObj l o) (b.putObj l o):=
 ⟨h.os,h.tape,h.output,by simp;exact h.size,λk hk=>by
  by_cases e:k=l
  .subst e;rw[World.putObj_heap_same z,World.putObj_heap_same (aP z h.size)]
  .rw[World.putObj_heap_other e,World.putObj_heap_other e];exact h.block k hk⟩
def yw(w:X)(l:Nat)(o o':oA)(I:l<w.heap.size):(w.alloc o).putObj l o'=(w.putObj l o').alloc o:=by
 have:(w.heap.push o).setIfInBounds l o'=(w.heap.setIfInBounds l o').push o:=by
  apply gB;intro i;simp only[aV,iy,Array.size_push,jh];by_cases e:l=i
  .grind
  .simp[e]
 show { (w.alloc o)with heap:=(w.alloc o).heap.setIfInBounds l o' }={ (w.putObj l o')with heap:=(w.putObj l o').heap.push o }
 have z:(w.alloc o).heap=w.heap.push o:=rfl;have E:(w.putObj l o').heap=w.heap.setIfInBounds l o':=rfl;rw[z,E,this];rfl
def Gives{α:Type}(P:cU)(g:Nat)(lb:Array aD)(encs:α->Array aD)(ks:Nat->Prop)(Y:List α->α->Nat->X->Prop)(S Sp:List α->Prop)(w:X):Prop:=
 ∀(l:Nat)(J R:List α->X->Prop)(W:X),cG w.heap.size w W->
  (∀z x E I,J z E->cG E.heap.size E I->Y z x E.heap.size I->YieldAt gL 1 P l (encs x) I λe W'=>
   (e=.returned (cM bB)/\J (z++[x]) W'/\I.heap.size<=W'.heap.size/\∀k,ks k->W'.heap[k]? =I.heap[k]?)\/(e=.returned (cM aR)/\R (z++[x]) W'))->
  J [] W->
  CallsIn gL 2 P g (#[.func (.yield l) #[] #[]]++lb) W λe W'=>(∃v,e=.returned v)/\((∃xs E,S xs/\J xs E/\cG E.heap.size E W')\/(∃z E,Sp z/\R z E/\cG E.heap.size E W'))
def NC(W:X)(k:Nat):Prop:=∀(cs:Array aD)(t:Nat)(z:Nat×Nat),W.heap[k]?≠M (aL cs t z)
def QK{k:Nat}{W z:X}{o':oA}(h:KeepsFrom B (W.alloc o') z)(hk:k<W.heap.size)(J:NC W k)(I:B<=k):z.heap[k]? =(W.alloc o').heap[k]?:=by
 obtain⟨o,E⟩:∃o,W.heap[k]? =M o:=⟨_,dA hk⟩
 have e:=(fY W o' k hk).trans E;refine(h.same k o I e ?_).trans e.symm;cases o with
 |cells cs t fz=>exact Xs E (J cs t fz)
 |_=>rfl
structure qm(B:Nat)(W W':X):Prop where
 size:W.heap.size<=W'.heap.size
 one:W'.heap[B]? =W.heap[B]?
 two:W'.heap[B+1]? =W.heap[B+1]?
def ac0{α:Type}(B:Nat)(ks:Nat->Prop)(I:List α->X->Prop)(z:eN->List α->X->Prop)(xs:List α)(W:X):Exit->Act->X->Prop
 |.normal,_,W'=>qm B W W'/\(∀k,ks k->W'.heap[k]? =W.heap[k]?)/\I xs W'
 |.ret,_,W'=>qm B W W'/\z .ret xs W'
 |.exit id,_,W'=>qm B W W'/\z (.exit id) xs W'
 |.goto t,_,W'=>qm B W W'/\z (.goto t) xs W'
 |.panic _,_,_=>False
 |.outgrown,_,_=>False
def xK{α:Type}{a:Act}(hg:a.eval g=.func (.func gf) #[] lb)(eg:∀args w,(iu gf args).run P w=.ok (.enter gf args) w){encs:α->Array aD}{Y:List α->α->Nat->X->Prop}{S Sp:List α->Prop}(ap:Gives P gf lb encs ks Y S Sp w0)(an:cG w0.heap.size w0 w)(aw:∀k,ks k->k<w.heap.size)(hY:∀z x lo W W',(∀k,lo<=k->W'.heap[k]? =W.heap[k]?)->W'.heap.size=W.heap.size->Y z x lo W->Y z x lo W')(aq:∀x,(encs x).size=ps.size)(I:List α->X->Prop)(Ix:eN->List α->X->Prop)(hI:∀xs A r o,I xs A->A.heap[w.heap.size+1]? =M (.loop r)->I xs (A.putObj (w.heap.size+1) (.loop o)))(ae:∀c xs A r o,Ix c xs A->A.heap[w.heap.size+1]? =M (.loop r)->Ix c xs (A.putObj (w.heap.size+1) (.loop o)))(h0:∀o1 o2,I [] ((w.alloc o1).alloc o2))(ag:α->Nat->Act)(ox:α->oA)(ac:∀(l:Nat)(x:α)(W:X)(K:Act->X->Prop),K (ag x W.heap.size) (W.alloc (ox x))->assign.wpIn (Fence.wide.inRound l) 1 P (Exit.then K (λ_ _ _=>False)) { tmps:=(ps.zip (encs x)).foldl (λt (p,v)=>t.setIfInBounds p v) a.tmps,defers:=[] } W)(ah:∀(l:Nat)(z:List α)(x:α)(J W1:X),l=w.heap.size+1->l<J.heap.size->NC W1 w.heap.size->NC W1 (w.heap.size+1)->I z J->cG J.heap.size J W1->Y z x J.heap.size W1->body.wpIn (Fence.wide.inRound l) 1 P (ac0 w.heap.size ks I Ix (z++[x]) (W1.alloc (ox x))) (ag x W1.heap.size) (W1.alloc (ox x)))(ai:∀(D:Nat)(xs:List α)(J W:X),D=w.heap.size->D<J.heap.size->S xs->I xs J->cG J.heap.size J W->W.heap[D]? =M (eA (M []))->Q .normal { a with defers:={ target:=oF D,args:=#[] }::a.defers } W)(ak:∀(D:Nat)(c:eN)(z:List α)(J W:X),D=w.heap.size->D<J.heap.size->Sp z->Ix c z J->cG J.heap.size J W->W.heap[D]? =M (eA (M []))->c.wpIn gL 3 P Q { a with defers:={ target:=oF D,args:=#[] }::a.defers } W):(Code.rangeFunc g ps assign body).wpIn gL 3 P Q a w:=by
 refine wpIn_rangeFunc λfn av=>?_;obtain⟨rc,R⟩:∃rc:LoopState->Option eN->Loop,rc=λst pe=>{ state:=st,pending:=pe,fn,tmps:=a.tmps,params:=ps,assign,body,defers:=w.heap.size }:=⟨_,rfl⟩
 obtain⟨V,hV⟩:∃V,(w.alloc (eA (M []))).alloc (.loop (rc .ready Z))=V:=⟨_,rfl⟩
 have vl:V.heap[w.heap.size+1]? =M (.loop (rc .ready Z)):=by
  have:=World.alloc_heap_new (w.alloc (eA (M []))) (.loop (rc .ready Z));rw[World.size_alloc,hV]at this;exact this
 have vd:V.heap[w.heap.size]? =M (eA (M [])):=by rw[<-hV];exact(fY _ _ _ aC).trans (World.alloc_heap_new w _)
 have vI:I [] V:=by rw[<-hV];exact h0 _ _
 have vb:cG w0.heap.size w0 V:=by rw[<-hV];exact an.trans ((((Below.refl _ w).alloc jB _).alloc aC _).mono an.size)
 refine⟨w.heap.size+1,[{ target:=oF w.heap.size,args:=#[] }],V,{ target:=.fn (.func gf) lb,args:=#[.func (.yield (w.heap.size+1)) #[] #[]] },V,gf,
  #[.func (.yield (w.heap.size+1)) #[] #[]]++lb,V,?_,?_,λ_ _=>trivial,by simp[invoke,go_sem,eg],λh=>by simp[gL]at h,?_⟩
 .rw[<-hV,R];exact run_enterLoop_outer _ _ _ _ _
 .simp only[resolve,hg];simp[go_sem]
 refine(ap _
  (λz W=>I z W/\W.heap[w.heap.size+1]? =M _/\W.heap[w.heap.size]? =M _)
  (λz W=>∃c,Ix c z W/\W.heap[w.heap.size+1]? =M (.loop (rc .done (M c)))/\W.heap[w.heap.size]? =M (eA (M []))) V vb ?_ ⟨vI,vl,vd⟩).mono ?_
 .rintro z x J W1 ⟨i0,l0,d0⟩ hb hy;have aa:=(jE l0)
  have l1:=(hb.block _ aa).trans l0;have d1:=(hb.block _ (by omega:w.heap.size<J.heap.size)).trans d0;have af:=(jE l1)
  have ry:=run_yield (P:=P) (args:=encs x) l1 (by rw[R];exact aq x);rw[R]at ry;refine⟨fn,_,assign,body,ry,roundIn_of_wpIn av (ac _ x W1 _ ⟨_,run_beginRound ((fY _ _ _ af).trans l1) (by rw[R]),?_⟩)⟩;clear ry;rw[yw _ _ _ _ af];obtain⟨o,ho⟩:∃o:oA,Obj.loop { rc .ready Z with state:=.busy }=o:=⟨_,rfl⟩
  rw[ho];have b1:=yt hb _ o aa
  have y1:Y z x (J.putObj (w.heap.size+1) o).heap.size (W1.putObj (w.heap.size+1) o):=by
   rw[World.putObj_size];exact hY z x _ W1 _ (λk hk=>World.putObj_heap_other aA) aC hy
  have aj:=ah _ z x _ _ rfl aF (λcs t fz hk=>by rw[World.putObj_heap_other aA,d1]at hk;cases hk) (λcs t fz hk=>by rw[World.putObj_heap_same af,<-ho]at hk;cases hk) (by grind) (by simpa using b1) y1;rw[World.putObj_size]at aj;refine wpIn_mono aj ?_;clear aj;have au:((W1.putObj (w.heap.size+1) o).alloc (ox x)).heap[w.heap.size+1]? =M o:=(fY _ _ _ aF).trans (World.putObj_heap_same af);have ar:((W1.putObj (w.heap.size+1) o).alloc (ox x)).heap[w.heap.size]? =M (eA (M [])):=(fY _ _ _ aF).trans ((World.putObj_heap_other aA).trans d1)
  have fin:∀(E:Option eN)(W3:X),qm w.heap.size ((W1.putObj (w.heap.size+1) o).alloc (ox x)) W3->
    (Instr.endRound (w.heap.size+1) E).run P W3=.ok (.bool E.isNone) (W3.putObj (w.heap.size+1) (.loop (rc (if E.isNone then .ready else .done) E)))/\
    W3.heap[w.heap.size+1]? =M o/\
    (W3.putObj (w.heap.size+1) (.loop (rc (if E.isNone then .ready else .done) E))).heap[w.heap.size+1]? =M (.loop (rc (if E.isNone then .ready else .done) E))/\
    (W3.putObj (w.heap.size+1) (.loop (rc (if E.isNone then .ready else .done) E))).heap[w.heap.size]? =M (eA (M [])):=λE W3 ao=>by
   have q1:=ao.two.trans au;have q2:=ao.one.trans ar;have am:=q1;rw[<-ho]at am;have:=run_endRound (P:=P) E am;refine⟨?_,q1,World.putObj_heap_same (jE q1),(World.putObj_heap_other aA).trans q2⟩;rw[R]at this⊢;exact this
  rintro e a3 W3 hp;cases e with
  |normal=>
   obtain⟨k3,kk,i3⟩:=hp;obtain⟨hr,l3,l4,d4⟩:=fin Z W3 k3;refine⟨_,_,hr,bN ⟨rfl,⟨hI _ _ _ _ i3 (l3.trans (Z1 M ho.symm)),l4,d4⟩,by have:=k3.size;simp at this⊢;omega,λk hk=>?_⟩⟩;have ay:=aw k hk;rw[World.putObj_heap_other aA,kk k hk,fY _ _ _ aF,World.putObj_heap_other aA]
  |ret=>
   obtain⟨k3,i3⟩:=hp;obtain⟨hr,l3,l4,d4⟩:=fin (M .ret) W3 k3;exact⟨_,_,hr,cF ⟨rfl,_,ae _ _ _ _ _ i3 (l3.trans (Z1 M ho.symm)),l4,d4⟩⟩
  |exit id=>
   obtain⟨k3,i3⟩:=hp;obtain⟨hr,l3,l4,d4⟩:=fin (M (.exit id)) W3 k3;exact⟨_,_,hr,cF ⟨rfl,_,ae _ _ _ _ _ i3 (l3.trans (Z1 M ho.symm)),l4,d4⟩⟩
  |goto t=>
   obtain⟨k3,i3⟩:=hp;obtain⟨hr,l3,l4,d4⟩:=fin (M (.goto t)) W3 k3;exact⟨_,_,hr,cF ⟨rfl,_,ae _ _ _ _ _ i3 (l3.trans (Z1 M ho.symm)),l4,d4⟩⟩
  |panic ch=>exact hp.elim
  |outgrown=>exact hp.elim
 .rintro e W2 ⟨⟨v,rfl⟩,(⟨xs,J,hS,⟨i0,l0,d0⟩,hb⟩|⟨z,J,hS,⟨c,i0,l0,d0⟩,hb⟩)⟩
  .have aa:=(jE l0)
   have l2:=(hb.block _ aa).trans l0;have d2:=(hb.block _ (by omega:w.heap.size<J.heap.size)).trans d0;refine⟨Z,_,by have:=run_endLoop (P:=P) l2 (by rw[R];simp);rw[R]at this;exact this,?_⟩;exact ai _ xs _ _ rfl aF hS (hI _ _ _ _ i0 l0) (by simpa using yt hb (w.heap.size+1) _ aa) ((World.putObj_heap_other aA).trans d2)
  .have aa:=(jE l0)
   have l2:=(hb.block _ aa).trans l0;have d2:=(hb.block _ (by omega:w.heap.size<J.heap.size)).trans d0;refine⟨M c,_,by have:=run_endLoop (P:=P) l2 (by rw[R];simp);rw[R]at this;exact this,?_⟩;exact ak _ c z _ _ rfl aF hS (ae c _ _ _ _ i0 l0) (by simpa using yt hb (w.heap.size+1) _ aa) ((World.putObj_heap_other aA).trans d2)
def abQ{α:Type}(B:Nat)(ks:Nat->Prop)(I:List α->X->Prop)(z:eN->List α->X->Prop)(xs:List α)(W:X):Exit->Act->X->Prop
 |.normal,_,W'=>KeepsFrom B W W'/\(∀k,ks k->W'.heap[k]? =W.heap[k]?)/\I xs W'
 |.ret,_,W'=>KeepsFrom B W W'/\z .ret xs W'
 |.exit id,_,W'=>KeepsFrom B W W'/\z (.exit id) xs W'
 |.goto t,_,W'=>KeepsFrom B W W'/\z (.goto t) xs W'
 |.panic _,_,_=>False
 |.outgrown,_,_=>False
def zO{α:Type}{a:Act}(hg:a.eval g=.func (.func gf) #[] lb)(eg:∀args w,(iu gf args).run P w=.ok (.enter gf args) w){encs:α->Array aD}{Y:List α->α->Nat->X->Prop}{S Sp:List α->Prop}(af:Gives P gf lb encs ks Y S Sp w0)(ah:cG w0.heap.size w0 w)(ag:∀k,ks k->k<w.heap.size)(hY:∀z x lo W W',(∀k,lo<=k->W'.heap[k]? =W.heap[k]?)->W'.heap.size=W.heap.size->Y z x lo W->Y z x lo W')(aj:∀x,(encs x).size=ps.size)(I:List α->X->Prop)(Ix:eN->List α->X->Prop)(hI:OwnFrom w.heap.size I)(ai:∀c,OwnFrom w.heap.size (Ix c))(h0:I [] w)(J:α->Nat->Act)(ox:α->oA)(R:∀(l:Nat)(x:α)(W:X)(K:Act->X->Prop),K (J x W.heap.size) (W.alloc (ox x))->assign.wpIn (Fence.wide.inRound l) 1 P (Exit.then K (λ_ _ _=>False)) { tmps:=(ps.zip (encs x)).foldl (λt (p,v)=>t.setIfInBounds p v) a.tmps,defers:=[] } W)(ae:∀(l:Nat)(z:List α)(x:α)(E W1:X),w.heap.size<E.heap.size->I z E->cG E.heap.size E W1->Y z x E.heap.size W1->body.wpIn (Fence.wide.inRound l) 1 P (abQ w.heap.size ks I Ix (z++[x]) (W1.alloc (ox x))) (J x W1.heap.size) (W1.alloc (ox x)))(aa:∀(D:Nat)(xs:List α)(E W:X),w.heap.size<=D->D<E.heap.size->S xs->I xs E->cG E.heap.size E W->W.heap[D]? =M (eA (M []))->Q .normal { a with defers:={ target:=oF D,args:=#[] }::a.defers } W)(ac:∀(D:Nat)(c:eN)(z:List α)(E W:X),w.heap.size<=D->D<E.heap.size->Sp z->Ix c z E->cG E.heap.size E W->W.heap[D]? =M (eA (M []))->c.wpIn gL 3 P Q { a with defers:={ target:=oF D,args:=#[] }::a.defers } W):(Code.rangeFunc g ps assign body).wpIn gL 3 P Q a w:=by
 refine xK hg eg af ah ag hY aj I Ix (λ_ _ _ _ h hl=>hI.putObj _ h aA hl rfl) (λc _ _ _ _ h hl=>(ai c).putObj _ h aA hl rfl) (λ_ _=>hI.alloc _ (hI.alloc _ h0)) J ox R (λl z x E W1 e hl n1 n2 hi hb hy=>wpIn_mono (ae l z x E W1 aA hi hb hy) ?_) (λD xs E W e=>aa D xs E W aA) (λD c z E W e=>ac D c z E W aA);have sz:=hb.size;have kt:∀{W3},KeepsFrom w.heap.size (W1.alloc (ox x)) W3->qm w.heap.size (W1.alloc (ox x)) W3:=λk=>⟨k.size,QK k aA n1 jB,QK k aA n2 aA⟩
 rintro e a3 W3 hp;cases e with
 |normal=>exact⟨kt hp.1,hp.2⟩
 |ret=>exact⟨kt hp.1,hp.2⟩
 |exit id=>exact⟨kt hp.1,hp.2⟩
 |goto t=>exact⟨kt hp.1,hp.2⟩
 |panic ch=>exact hp
 |outgrown=>exact hp
end
end
namespace Fr
open Go.RowKit Go.Joins Go.Shelf
def AO(a c:Nat)(hc:c<256):(a*256) |||c=256*a+c:=by have:=Nat.two_pow_add_eq_or_of_lt (i:=8) (b:=c) aA a;rw[show a*256=2 ^ 8*a from by omega,<-this]
def Ak(a b:Nat)(E:a<4294967296)(I:b<4294967296):bits .or dT (a:Int) (b:Int)=((a |||b:Nat):Int):=by
 have J:a |||b<2 ^ 32:=Nat.or_lt_two_pow aA aA
 have z:(np 32 (a:Int)).toNat=a:=by
  rw[nW,oi];exact Nat.mod_eq_of_lt aA
 have h2:(np 32 (b:Int)).toNat=b:=by
  rw[nW,oi];exact Nat.mod_eq_of_lt aA
 show IntKind.u32.wrap ((np 32 (a:Int) |||BitVec.ofInt 32 (b:Int)).toNat:Int)=_
 rw[BitVec.toNat_or,z,h2,IntKind.wrap_u32];omega
def below_bytesWorld{B:Nat}{w u:X}(h:cG B w u)(E:B<=u.heap.size)(e:cH)(s:ByteArray):cG B w (Lib.bytesWorld u e s):=
 h.trans ⟨rfl,rfl,rfl,by rw[Lib.bytesWorld_size];omega,λm z=>Lib.bytesWorld_at_old u e s m aA⟩
def uh(s:List UInt8)(p q:Nat):∀k,big (s.drop p) q k=big s (p+q) k
 |0=>rfl
 |k+1=>by
  rw[big,big,uh s p q k,aY,aY,iV,dV]
def Lm(s:List UInt8)(q m:Nat):∀k,q+k<=m->big (s.take m) q k=big s q k
 |0,_=>rfl
 |k+1,h=>by
  rw[big,big,Lm s q m k aA,aY,aY,iI aA]
def IU(s:List UInt8)(p k:Nat):big ((s.take (p+k)).drop p) 0 k=big s p k:=by rw[uh,Nat.add_zero,Lm _ _ _ _ jB]
def BK(s:List UInt8)(p:Nat)(hp:p<=s.length):one s p=one (s.drop p) 0:=by
 unfold one;rw[uh,uh,uh,dW];simp only[Nat.add_zero,fJ]
 have e:(s.drop p).getD (8+big s (p+6) 2) 0=s.getD (p+8+big s (p+6) 2) 0:=by
  rw[aY,aY,iV,dV]
 have z:((s.drop p).take (8+big s (p+6) 2)).drop 8=(s.take (p+8+big s (p+6) 2)).drop (p+8):=by
  rw[List.take_drop,iC]
  congr 1
  rw[dV]
 rw[e,z];by_cases E:s.length<p+9
 .grind
 .grind
def Xi:Go.Shelf.Ren:=⟨fun|316=>129|n=>n,fun|0=>0|3=>3|4=>4|5=>5|9=>9|37=>199|127=>223|n=>n,fun|n=>n⟩
def Jq:Go.Proofs.LaysM.n316 PQ Xi:={
 mixed:=XN
 f316:=(fq Tryz.func129 rfl).trans (Z1 M XN)
 t0:=(uq Tryz.underlying0)
 a0:=(iaq Tryz.isAgg0)
 z0:=(szq Tryz.sizeOf0)
 v0:=(zvq Tryz.zeroValue0)
 t3:=(uq gN)
 a3:=(iaq Tryz.isAgg3)
 z3:=(szq Tryz.sizeOf3)
 v3:=(zvq Tryz.zeroValue3)
 t4:=(uq oY)
 a4:=(iaq Tryz.isAgg4)
 z4:=(szq Tryz.sizeOf4)
 v4:=(zvq Tryz.zeroValue4)
 t5:=(uq gP)
 a5:=(iaq Tryz.isAgg5)
 z5:=(szq Tryz.sizeOf5)
 v5:=(zvq Tryz.zeroValue5)
 t9:=(uq eI)
 a9:=(iaq Tryz.isAgg9)
 z9:=(szq Tryz.sizeOf9)
 v9:=(zvq Tryz.zeroValue9)
 t37:=(uq gE)
 a37:=(iaq Tryz.isAgg199)
 z37:=(szq Tryz.sizeOf199)
 v37:=(zvq Tryz.zeroValue199)
 t127:=(uq om)
 a127:=(iaq Tryz.isAgg223)
 z127:=(szq Tryz.sizeOf223)
 v127:=(zvq Tryz.zeroValue223)
 i0:=XN
 i3:=XN
 i4:=XN
 i5:=XN
 i9:=XN
 i37:=XN
 i127:=by kernel_rfl }
def clone_any(s:ByteArray)(w:X)(hs:s.size<=16777216):Calls PQ 92 #[bE s] w λe w'=>e=.returned (bE s)/\cG w.heap.size w w':=by go_enter (fq Tryz.func92 rfl),Tryz.ntmps92;go_wp2_with fail;refine(Any.stringslite_Clone (ρ:=Xi) Jq s w aA).mono ?_;rintro e w1 ⟨rfl,z⟩;go_wp2_with fail;go_ret;exact⟨rfl,z⟩
open Go.RowKit Go.Joins
def fv:Option (F×Nat)->aD
 |none=>.tuple #[.agg #[N dT 0,N .u16 0,bE ⟨#[]⟩,cM aR],N aE 0,cM aR]
 |some x=>.tuple #[.agg #[N dT x.1.chan,N .u16 x.1.num,bE ⟨x.1.data.toArray⟩,.bool x.1.last],N aE x.2,cM bB]
end Fr
namespace Fr
open Go.RowKit Go.Joins
attribute [local go_sem] Oper.semAt_some
inductive Vk(s:List UInt8):List F->Nat->Prop
 |nil:Vk s [] 0
 |snoc {l:List F} {p:Nat} {x:F} {n:Nat}:Vk s l p->one s p=M (x,n)->Vk s (l++[x]) (p+n)
def Vk.le{s:List UInt8}{l:List F}{p:Nat}(h:Vk s l p):p<=s.length/\l.length<=p:=by
 induction h with
 |nil=>simp
 |snoc h ho ih=>
  have:=one_le ho;simp only[aS,aU,bY];omega
end Fr
namespace Fr
open Go.RowKit Go.Joins
attribute [local go_sem] Oper.semAt_some
variable {s:List UInt8}{l:List F}
def Kv(s:List UInt8)(p:Nat)(hp:p+1<=s.length):one s (p+1)=one (s.drop 1) p:=by rw[BK s (p+1) hp,BK (s.drop 1) p (by grind),iC,Nat.add_comm 1 p]
def Vk.ae6(hs:1<=s.length){p:Nat}(h:Vk (s.drop 1) l p):qO s l (p+1):=by
 induction h with
 |nil=>exact qO.nil
 |@snoc l p x n h ho ih=>
  have z:=one_le ho;rw[dW]at z;rw[show p+n+1=p+1+n from by omega];exact qO.snoc ih aA (by rw[Kv s p aA];exact ho)
def zl(hs:1<=s.length)(R:s.getD 0 0=0){p:Nat}(E:Vk (s.drop 1) l p)(Y:one (s.drop 1) p=Z):
  frames s=if l.length=0\/p<s.length-1 then Z else M l:=by
 have J:=E.ae6 hs;have I:=E.le;rw[dW]at I;by_cases h2:s.length<2
 .rw[yV (bN h2),ZD (bN aA)]
 .have z:¬(s.length<2\/s.getD 0 0≠0):=by
   rintro(h|h)
   .exact h2 h
   .exact h R
  by_cases hp:p<s.length-1
  .rw[ZD (cF hp)];exact J.stuck z aA (by rw[Kv s p aA];exact Y)
  .rw[Zs]
   .exact J.all z aA
   .rintro(h|h)
    .cases E with
     |nil=>omega
     |snoc=>simp at h
    .exact hp h
end Fr
namespace Cr
open Go
abbrev link:Go.Conc.Lib.WgLink:={ add:=70,done:=72,wait:=74,relMerge:=99,disable:=100,enable:=101,inBubble:=102,associate:=103,fatal:=104,uOr:=105,uAdd:=106,raceRead:=107,uLoad:=108,uStore:=109,disassociate:=110,semrelease:=111,acquire:=113,isAssociated:=114,uCas:=115,raceWrite:=116,semacquire:=117,orU64:=132,addU64:=133,loadU64:=134,storeU64:=135,casU64:=137,tWgP:=178,tUP:=180,tAssoc:=181,tWg:=150,tAU:=148,tU64:=146,tUint:=185,tU32:=22,tPU32:=186,tPAU:=214,tPU64:=216,tNoCopy:=143,tANoCopy:=144,tAlign64:=145 }
def wgLib:Go.Conc.Lib.WgLib U link:=
 ⟨Tryz.func70,Tryz.func72,Tryz.func74,Tryz.func99,Tryz.func100,Tryz.func101,Tryz.func102,Tryz.func103,Tryz.func104,Tryz.func105,Tryz.func106,Tryz.func107,Tryz.func108,Tryz.func109,Tryz.func110,Tryz.func111,Tryz.func113,Tryz.func114,Tryz.func115,Tryz.func116,Tryz.func117,Tryz.func132,Tryz.func133,Tryz.func134,Tryz.func135,Tryz.func137,Tryz.underlying178,Tryz.runUnderlying178,Tryz.sizeOf178,Tryz.isAgg178,Tryz.zeroValue178,Tryz.underlying180,Tryz.runUnderlying180,Tryz.sizeOf180,Tryz.isAgg180,Tryz.zeroValue180,Tryz.underlying181,Tryz.runUnderlying181,Tryz.sizeOf181,Tryz.isAgg181,Tryz.zeroValue181,Tryz.underlying150,Tryz.runUnderlying150,Tryz.sizeOf150,Tryz.isAgg150,Tryz.zeroValue150,Tryz.underlying148,Tryz.runUnderlying148,Tryz.sizeOf148,Tryz.isAgg148,Tryz.zeroValue148,Tryz.underlying146,Tryz.runUnderlying146,Tryz.sizeOf146,Tryz.isAgg146,Tryz.zeroValue146,Tryz.underlying185,Tryz.runUnderlying185,Tryz.sizeOf185,Tryz.isAgg185,Tryz.zeroValue185,Tryz.underlying22,Tryz.runUnderlying22,Tryz.sizeOf22,Tryz.isAgg22,Tryz.zeroValue22,Tryz.underlying186,Tryz.runUnderlying186,Tryz.sizeOf186,Tryz.isAgg186,Tryz.zeroValue186,Tryz.underlying214,Tryz.runUnderlying214,Tryz.sizeOf214,Tryz.isAgg214,Tryz.zeroValue214,Tryz.underlying216,Tryz.runUnderlying216,Tryz.sizeOf216,Tryz.isAgg216,Tryz.zeroValue216,Tryz.underlying0,Tryz.runUnderlying0,Tryz.sizeOf0,Tryz.isAgg0,Tryz.zeroValue0,gN,Tryz.runUnderlying3,Tryz.sizeOf3,Tryz.isAgg3,Tryz.zeroValue3,oY,Tryz.runUnderlying4,Tryz.sizeOf4,Tryz.isAgg4,Tryz.zeroValue4,eI,Tryz.runUnderlying9,Tryz.sizeOf9,Tryz.isAgg9,Tryz.zeroValue9,Tryz.underlying20,Tryz.runUnderlying20,Tryz.sizeOf20,Tryz.isAgg20,Tryz.zeroValue20,Tryz.underlying21,Tryz.runUnderlying21,Tryz.sizeOf21,Tryz.isAgg21,Tryz.zeroValue21,XN,XN⟩
end Cr
namespace Fr
def mg(inbox batcher fr ad:Int)(data:List UInt8):List F:=if ad=inbox/\fr=batcher then(frames data).getD []else []
end Fr
namespace Cr
open Go Go.Conc Go.ConcN Go.RowKit Go.Conc.Lib Go.ConcR.Gen Go.ConcN.Gen
open Go.ConcR (KK WgAt stA smA Payload DC0)
instance payFrames:Payload:=⟨106⟩
def qY(O:Nat->Prop)(w:X)(v:aD)(fs:List Fr.F):Prop:=
 (v=aM Z 0 0/\fs=[])\/∃g cap z,v=aM (M ⟨g,0,Z⟩) fs.length cap/\O g/\w.heap[g]? =M (aL z 109 (0,0))/\fs.length<=cap/\cap<=maxLen/\z.size=cap*4/\z.toList.take (fs.length*4)=Fr.flat fs
def qY.stands{O I:Nat->Prop}{w z:X}{v:aD}{fs:List Fr.F}(h:qY O w v fs)(R:∀b,O b->I b)(Y:∀b,O b->z.heap[b]? =w.heap[b]?):qY I z v fs:=
 h.imp id λ⟨g,cap,E,e,J,h2,r⟩=>⟨g,cap,E,e,R g J,(Y g J).trans h2,r⟩
def leftOf(fs:Nat->List Fr.F):Left:=λi v O w=>qY O w v (fs i)
def Ez(fs:Nat->List Fr.F):(leftOf fs).nR:=λ_ _ _ _ _ z h=>qY.stands h (λ_=>id) z
abbrev cfg(inbox batcher t0 t1 t2 t3 t4:Int):Array aD:=#[N dT inbox,N dT batcher,N aE t0,N aE t1,N aE t2,N aE t3,N aE t4]
abbrev Ad(fr ad:Int)(data:ByteArray):Array aD:=#[N dT fr,N dT ad,bE data]
def ReadW:Prop:=∀(S:Who)(m:Nat)(R:kC->cA->X->Prop)(K:kC)(w:X)(b:cT)(a:Act)(k:List Item)(cs:List cT)(ops:Array Oper)(j:Nat)(rest:List Nat)(o:Oper)(x y:l8)(J:Array cH)(inbox batcher t0 t1 t2 t3 t4 fr ad:Int)(data:ByteArray),
 ops[j]? =M o->Region.wanted o (yielded ops a.tmps)=bB->b.kind≠.early->o.op=.call { callee:=.value (.func 73),args:=#[x,y],argTypes:=J }->a.eval x=.agg (cfg inbox batcher t0 t1 t2 t3 t4)->a.eval y=.agg (Ad fr ad data)->data.size<=1048576->
 (∀x,K.W x->K.O x)->(∀x,K.O x->x<w.heap.size)->S.C<w.heap.size->S.Wg<w.heap.size->Tryz.prog.globals.size<=w.heap.size->
 (∀E,En S (M m) K w E->∀v I z,qY I.O z v (Fr.mg inbox batcher fr ad data.data.toList)->(∀x,K.O x->I.O x)->(∀x,I.W x->I.O x)->E.heap.size<=z.heap.size->(∀x,K.O x->z.heap[x]? =E.heap[x]?)->(∀x,I.O x->x<z.heap.size/\(K.O x\/E.heap.size<=x))->
  (WgLive S.ty S.Wg E->WgLive S.ty S.Wg z)->(PayAt S.C S.n E->PayAt S.C S.n z)->kY U aR S (M m) R I (G (b.at (a.put o.dst v) (.inRegion ops rest::k)) cs) z)->
 kY U aR S (M m) R K (G (b.at a (.inRegion ops (j::rest)::k)) cs) w
end Cr
namespace Cr
open Go Go.Conc Go.ConcN Go.RowKit Go.Conc.Lib Go.ConcR.Gen Go.ConcN.Gen
open Go.ConcR (KK WgAt stA smA Payload DC0)
open Fr (big)
section
def Ret(f:o6)(args:Array aD)(v:aD):Prop:=∀(S:Who)(m:Nat)(St:kC->cA->X->Prop)(K0:kC)(w0:X)(L:List (Nat×oA))(b:cT)(a:Act)(k:List Item)(cs:List cT)(ops:Array Oper)(i:Nat)(rest:List Nat)(o:Oper)(xs:Array l8)(z:Array cH),
 ops[i]? =M o->Region.wanted o (yielded ops a.tmps)=bB->b.kind≠.early->o.op=.call { callee:=.value (.func f),args:=xs,argTypes:=z }->xs.map a.eval=args->Wc U S m St K0 w0 L (G (b.at (a.put o.dst v) (.inRegion ops rest::k)) cs)->Wc U S m St K0 w0 L (G (b.at a (.inRegion ops (i::rest)::k)) cs)
noncomputable def Yk:eN:=match Tryz.f153.body with
 |some (.seq _ (.seq _ (.seq (.seq _ (.block _ (.loop c))) _)))=>c
 |_=>.skip
noncomputable def adQ:eN:=match Tryz.f153.body with
 |some (.seq _ (.seq _ (.seq _ c)))=>c
 |_=>.skip
section
variable {S:Who}{m:Nat}{St:kC->cA->X->Prop}{K0:kC}{w0:X}{L:List (Nat×oA)}{cs:List cT}{cf:cT}
def oC{p:Nat×oA}{w:X}(h:Lies (p::L) w0.heap.size w):w.heap[p.1]? =M p.2:=(h.mem p (.head _)).2
def Jm{n:Nat}{ob:oA}{j X1 z:Nat}{wr:Bool}:EvA ((n,ob)::L) X1 z ⟨.cell ⟨n,j,Z⟩,wr,aR⟩:=bN ⟨_,_,rfl,bN ⟨_,.head _,rfl⟩⟩
def Nb(s:ByteArray)(hs:s.size<=4)(n cap:Nat)(c:Array aD)(fz:Nat×Nat)(hc:∀j,j<s.size->c[j]? =M (N .u8 (s.data.toList.getD j 0).toNat))(nx:Wc U S m St K0 w0 ((n,aL c 5 fz)::L) (G (cf.finish (N dT (big s.data.toList 0 s.size:Nat))) cs)):∀r k,k+r=s.size->∀u5 Y R ac ah ag ai ae aa af:aD,Wc U S m St K0 w0 ((n,aL c 5 fz)::L) (G ((base 153).at { tmps:=#[bE s,undef,N dT 0,N dT (big s.data.toList 0 k:Nat),undef,u5,bE s,aM (M ⟨n,0,Z⟩) s.size cap,N aE s.size,N aE k,Y,R,ac,ah,ag,ai,ae,aa,af,undef],defers:=[] } [.code Yk,.inLoop Yk,.inBlock 0,.code adQ]) (cf::cs)):=by
 intro r
 induction r with
 |zero=>
  intro k hk u5 Y R ac ah ag ai ae aa af;obtain rfl:k=s.size:=aA
  simp only[Yk,Tryz.f153];refine Wc.go 30 λK w z=>?_;u_c cE At.en z;u_reg At.en z;u_op At.en z;u_c bA At.en z;u_c cE At.en z;u_cond aR At.en z;u_exit At.en z;simp only[adQ,Tryz.f153];u_c cE At.en z;u_reg At.en z
  iterate 2 u_op At.en z
  u_c bA At.en z;refine cL λ_ E=>Wc.use ?_ (z.en E);exact .ret λtodo=>.zQ rfl rfl rfl Tryz.func153 rfl rfl nx
 |succ r ih=>
  intro k hk u5 Y R ac ah ag ai ae aa af;have ak:(k:Int)<s.size:=aA
  have am:big s.data.toList 0 k<16777216:=by
   have:=Fr.uD s.data.toList 0 k;have:=iK (n:=256) aB (show k<=3 by omega);omega
  have hc:=hc k aA;have J:big s.data.toList 0 (k+1)=256*big s.data.toList 0 k+(s.data.toList.getD k 0).toNat:=by rw[big,fJ]
  generalize hb:(s.data.toList.getD k 0).toNat=y at hc J;have aj:y<256:=by rw[<-hb];exact UInt8.toNat_lt _
  have ih:=ih (k+1) aA;rw[J]at ih;generalize big s.data.toList 0 k=V at *;have IH:Hid _:=ih;have NX:Hid _:=nx;clear ih nx hb J;simp only[Yk,Tryz.f153];refine Wc.go 30 λK w z=>?_;u_c cE At.en z;u_reg At.en z;u_op At.en z;u_c bA At.en z;u_c cE At.en z;u_cond bB At.en z;u_c ij At.en z;u_c cE At.en z;u_c pA At.en z;u_c cE At.en z;u_reg At.en z;u_op At.en z;refine cL λ_ E=>Wc.use ?_ (z.en E);clear z;refine Wc.rd (N .u8 y) rfl rfl (base_kind _) (λw hl=>?_) ?_
  .have h1:=oC hl;have I:w.cell? ⟨n,k,Z⟩=M (N .u8 y):=by simp[World.cell?,h1,hc]
   refine⟨by simp[go_sem,I],λe he=>?_⟩;simp[go_sem,I]at he;subst he;exact Jm
  walk_nrm;refine Wc.go 30 λK w z=>?_;u_op At.en z;u_c bA At.en z;u_reg At.en z
  iterate 6 u_op At.en z
  u_c bA At.en z;u_c stepG_inBlock At.en z;u_reg At.en z
  iterate 2 u_op At.en z
  u_c bA At.en z;u_c stepG_inLoop At.en z;refine cL λ_ E=>Wc.use ?_ (z.en E);clear z
  have e:bits .or dT ((V:Int)*256) (y:Int)=((256*V+y:Nat):Int):=by
   rw[show(V:Int)*256=((V*256:Nat):Int) from by omega,Fr.Ak _ _ aA aA,Fr.AO V y aj]
  rw[show(V:Int)*256%4294967296=V*256 by omega,show(y:Int)%4294967296=y by omega,e,show IntKind.i64.wrap ((k:Int)+1)=((k+1:Nat):Int) by rw[gA];omega];exact IH.out _ _ _ _ _ _ _ _ _ _
end
def wu(s:ByteArray)(hs:s.size<=4):Ret 153 #[bE s] (N dT (big s.data.toList 0 s.size:Nat)):=by
 intro S m St K0 w0 L b a k cs ops i rest o xs aa Y hw hk I hx nx;refine Wc.call Y hw hk I Tryz.func153 rfl (show Tryz.f153.body=M (.seq _ (.seq _ (.seq (.seq _ (.block 0 (.loop Yk))) adQ))) from rfl) ?_;rw[hx];simp only[Tryz.ntmps153,dR,aU,bY,Nat.reduceAdd,Nat.reduceSub,dH,dG,dU,dI,dS,dN];have NX:Hid _:=nx;clear nx;refine Wc.go 30 λK w z=>?_;u_c cE At.en z;u_reg At.en z;u_op At.en z;u_c bA At.en z;u_c cE At.en z;u_reg At.en z;u_op At.en z;u_c bA At.en z
 iterate 2 u_c cE At.en z
 u_reg At.en z;u_op At.en z;refine cL λ_ E=>Wc.use ?_ (z.en E);clear z;refine Wc.op rfl rfl (base_kind _) λw hl=>⟨aM (M ⟨w.heap.size,0,Z⟩) s.size (grownCap w s.size 0 5),Lib.bytesWorld w 5 s,(w.heap.size,aL (Lib.bytesCells w 5 s) 5 ((Lib.bytesCells w 5 s).size,(Lib.bytesCells w 5 s).size+1))::L,bN ?run,?turn,?_⟩
 case run=>
  have:=Lib.run_convert_string_bytes (P:=U) w 9 199 5 s eI gE gP;simp[go_sem,this]
 case turn=>
  refine .lay hl (Lib.bytesWorld_size _ _ _) (Lib.bytesWorld_at_old _ _ _) (Lib.bytesWorld_at_new _ _ _) rfl rfl rfl λe R=>?_;have R:=im R
  have J:∀c:Array aD,(w.alloc (aL c 5)).shape? w.heap.size=M (5,c.size):=by
   intro c;simp[fT,World.alloc,-World.alloc_eq]
  simp[go_sem,convert,eB (P:=U) eI,eB (P:=U) gE,eB (P:=U) gP,Conv.stringToBytes,newRow,markStringish,Question.forced,J]at R
 have hc:∀j,j<s.size->(Lib.bytesCells w 5 s)[j]? =M (N .u8 (s.data.toList.getD j 0).toNat):=λj hj=>by simp[Lib.bytesCells,Array.getElem?_append,List.getD,hj]
 generalize Lib.bytesCells w 5 s=c at hc;generalize w.heap.size=n;generalize grownCap w s.size 0 5=cap;clear hl;walk_nrm;refine Wc.go 30 λK w z=>?_
 iterate 2 u_op At.en z
 u_c bA At.en z;u_c pA At.en z;u_c stepG_loop At.en z;refine cL λ_ E=>Wc.use ?_ (z.en E);refine Nb s hs n cap c _ hc ?_ s.size 0 aA _ _ _ _ _ _ _ _ _ _;refine Wc.drop (iT _ _) ?_;rw[nz,Y];exact NX.out
end
section
variable {e:Event}{P:cU}{w:X}
def WX{L:List (Nat×oA)}{X1 E:Nat}{ad:Addr}(hp:pl e)(z:e.loc=.cell ad)(I:∃p∈L,p.1=ad.block):EvA L X1 E e:=by obtain⟨J,wr,R⟩:=e;cases z;cases hp ad rfl;exact bN ⟨ad,wr,rfl,bN I⟩
def xJ{P:cU}{w:X}:∀(l:List UInt8)(a:Addr)(E:ByteArray)(es:Array Event),(∀j x,l[j]? =M x->w.cell? (a.add j)=M (N .u8 x.toNat))->∀e∈(loadBytes a E l.length).events P w es,e∈es\/∃a',e=⟨.cell a',aR,aR⟩/\a'.block=a.block
 |[],_,_,_,_=>λe z=>bN (by simpa[loadBytes]using z)
 |x::l,a,E,es,h=>λe z=>by
  have J:w.cell? a=M (N .u8 x.toNat):=by
   have:=h 0 x rfl;simpa[Addr.add]using this
  simp only[aU,loadBytes,Sem.events_bind]at z;simp[J]at z;obtain k|⟨a',rfl,k⟩:=xJ l (a.add 1) _ _ (λj y I=>by have:=h (j+1) y (by simpa using I);rw[show(a.add 1).add j=a.add (j+1) from by unfold Addr.add;split<;>split<;>simp_all<;>omega];exact this) e z
  .grind
  .exact cF ⟨a',rfl,k.trans (addBlock a 1)⟩
def afi(pt it ty e:cH)(hp:P.underlying pt=M (.pointer e))(hc:P.cellsOf e=1)(g cells:Nat)(Y:w.shape? g=M (e,cells))(l:List UInt8)(h0:l≠[])(hn:l.length<=cells)(ac:l.length<=9223372036854775807)(z:∀j x,l[j]? =M x->w.cell? ((⟨g,0,Z⟩:Addr).add j)=M (N .u8 x.toNat)):∀ev∈(nj #[pt,it] ty #[.pointer (M ⟨g,0,Z⟩),N aE l.length]).events P w #[],∃a',ev=⟨.cell a',aR,aR⟩/\a'.block=g:=by
 have hl:l.length≠0:=by simpa using h0
 have aa:=Lib.run_loadBytes (P:=P) w l _ .empty z;have E:=Lib.liesAt_bytes (P:=P) hc (cells/P.cellsOf e) l.length (by rw[hc];simpa using hn);have J:¬(9223372036854775807:Int)<(l.length:Int):=aA
 have I:IntKind.i64.max=9223372036854775807:=rfl;have R:¬(l.length:Int)<0:=aA
 intro ev he;change ev∈(asInt (N aE l.length) >>= _).events P w #[]at he;simp[asInt,asIntOf,I,J,R,hl,variablesAt,Y,elemOf,eB hp,E,aa]at he;obtain k|k:=xJ l ⟨g,0,Z⟩ .empty #[] z ev he
 .simp at k
 .exact k
def Ip(ty:cH)(s:ByteArray)(w:X)(es:Array Event):(mi #[9] ty #[bE s]).events U w es=es:=by simp[mi,eB eI]
def Ol{α:Type}{s:Sem α}(h:na s)(z:e∈s.events P w #[]):pl e:=aeO h w #[] aC e z
def abo:(Tryz.prog.info? 5).map (λi=>(i.zero,i.size,i.bytes))=M (M (N .u8 0),1,1):=XN
def Ve(s:ByteArray)(hs:s.size<=16777216):Ret 129 #[bE s] (bE s):=by
 intro S m St K0 w0 L b a k cs ops i rest o xs av ho hw hk am hx nx;refine Wc.call ho hw hk am Tryz.func129 rfl rfl ?_;rw[hx];simp only[Tryz.ntmps129,dR,aU,bY,Nat.reduceAdd,Nat.reduceSub,dH,dG,dU,dI,dS,dN];have NX:Hid _:=nx;have el:=Ip;clear nx;by_cases h0:s.size=0
 .obtain rfl:s=⟨#[]⟩:=ByteArray.ext (Array.eq_empty_of_size_eq_zero h0);refine Wc.go 30 λK w z=>?_;u_c cE At.en z;u_reg At.en z;u_op At.en z;u_c bA At.en z
  iterate 2 u_c cE At.en z
  u_reg At.en z
  iterate 3 u_op At.en z
  u_c bA At.en z;u_cond bB At.en z;u_c cE At.en z;u_reg At.en z;u_op At.en z;u_c bA At.en z;refine cL λ_ E=>Wc.use ?_ (z.en E);refine .ret λtodo=>.zQ rfl rfl rfl Tryz.func129 rfl rfl ?_;rw[nz,ho];exact NX.out
 have ar:((s.size:Int) == 0)=aR:=by rw[beq_eq_false_iff_ne];omega
 refine Wc.go 30 λK w z=>?_;u_c cE At.en z;u_reg At.en z;u_op At.en z;u_c bA At.en z
 iterate 2 u_c cE At.en z
 u_reg At.en z
 iterate 3 u_op At.en z
 u_c bA At.en z;u_cond aR At.en z;u_c ij At.en z;u_c cE At.en z;u_reg At.en z
 iterate 2 u_op At.en z
 refine cL λ_ E=>Wc.use ?_ (z.en E);clear z
 obtain⟨ie,hi,af,ah,aa⟩:∃i,Tryz.prog.info? 5=M i/\i.zero=M (N .u8 0)/\i.size=1/\i.bytes=1:=by
  have:=abo;cases h:Tryz.prog.info? 5 with
  |none=>grind
  |some i=>
   grind
 obtain⟨XS,hM⟩:∃XS,XS=madeCells (N .u8 0).cells (((s.size:Nat):Int).toNat*ie.size):=⟨_,rfl⟩
 have ao:XS.size=s.size:=by rw[hM,size_madeCells,ah];simp
 refine Wc.al (aL XS 5) (λn=>aM (M ⟨n,0,Z⟩) s.size s.size) rfl rfl (base_kind _) (λw I=>?_) λn=>?_
 .have ai:=run_make (P:=U) w 199 5 ie _ gE hi af aE aE s.size s.size aA aA (by rw[aa];omega) aA;have an:=events_make (P:=U) w 199 5 ie _ gE hi af aE aE s.size s.size aA aA (by rw[aa];omega) aA (by rw[aa];omega) #[];rw[<-hM]at ai;refine⟨by simp[go_sem,ai],λe J=>?_⟩;simp[go_sem,an]at J
 clear hM;walk_nrm;refine Wc.go 30 λK w z=>?_;u_op At.en z;u_c bA At.en z;u_c cE At.en z;u_reg At.en z
 iterate 2 u_op At.en z
 refine cL λ_ E=>Wc.use ?_ (z.en E);clear z;obtain⟨Y,hY⟩:∃Y,Y=(XS.toList.take 0++kA s.data.toList++XS.toList.drop (0+s.size)).toArray:=⟨_,rfl⟩
 have ag:Y.toList=kA s.data.toList:=by
  rw[hY,List.toList_toArray,List.take_zero,dS,List.drop_of_length_le (by grind),gI]
 have au:Y.size=s.size:=by rw[<-Array.length_toList,ag,oo,<-Lib.size_eq]
 refine Wc.op rfl rfl (base_kind _) λw I=>⟨goInt s.size,w.setRow n Y,(n,aL Y 5)::L,bN ?run,?turn,?_⟩
 case run=>
  have ae:=Lib.run_copy_row_string (P:=U) w 199 9 3 5 n 0 _ s.size s XS 5 gE (by rw[hi];simp[ah]) (oC I) jB aA;rw[<-hY]at ae;simp[go_sem,ae]
 case turn=>
  refine Turn.set (i:=0) I rfl aC (λx hx=>setRow_other _ _ _ _ hx) (setRow_heap _ _ XS _ _ _ (oC I)) rfl rfl rfl λe J=>?_;have J:e∈(nQ #[199,9] 3 #[aM (M ⟨n,0,Z⟩) s.size s.size,bE s]).events U w #[]:=by simpa[go_sem]using im J
  have hp:=Ol (acT _ _ _) J;simp[nQ,eB gE,oE,nL,sizeOf,typeInfo,hi]at J
  have ak:List.take s.size (List.map (λb:UInt8=>N IntKind.u8 (b.toNat:Int)) s.data.toList)=kA s.data.toList:=by
   rw[eH aC];rfl
  rw[ak]at J;have aq:(kA s.data.toList).length=s.size:=by rw[oo,<-Lib.size_eq]
  obtain k|⟨ad,k1,k2⟩:=events_storeCells_at n 0 5 (kA s.data.toList) 0 XS w #[] (oC I) aA (Lib.byteCells_one _) e J
  .simp at k
  .exact WX hp k1 ⟨_,.head _,k2.symm⟩
 clear I hY ao XS;walk_nrm;have ap:0<s.size:=aA
 refine Wc.go 30 λK w z=>?_;u_c bA At.en z;u_c cE At.en z;u_reg At.en z
 iterate 4 u_op At.en z
 refine cL λ_ E=>Wc.use ?_ (z.en E);clear z;have R:s.data.toList≠[]:=λe=>h0 (by rw[Lib.size_eq,e];rfl);have aj:∀(w:X),w.heap[n]? =M (aL Y 5 (0,0))->∀j x,s.data.toList[j]? =M x->w.cell? ((⟨n,0,Z⟩:Addr).add j)=M (N .u8 x.toNat):=λw hg j x hx=>Lib.cells_of_row hg Y.size j _ (by rw[eH aC,ag];simp[kA,hx]);refine Wc.op rfl rfl (base_kind _) λw I=>⟨bE s,w.freeze ⟨n,0,Z⟩ s.size,(n,aL Y 5 (0,s.size))::L,bN ?run,?turn,?_⟩
 case run=>
  have ac:=Lib.run_unsafeString_row (P:=U) w 223 3 9 5 om XN n Y.size (by unfold fT;rw[oC I]) _ R (by rw[<-Lib.size_eq];omega) (by rw[<-Lib.size_eq];omega) (aj w (oC I));rw[<-Lib.size_eq]at ac;simp[go_sem,ac]
 case turn=>
  have hf:(w.freeze ⟨n,0,Z⟩ s.size).heap=w.heap.modify n λo=>match o with|aL c e (lo,hi)=>aL c e (if lo == hi then(0,0+s.size)else(min lo 0,max hi (0+s.size)))|o=>o:=by simp only[ix,Zs h0];rfl
  refine Turn.set (i:=0) I rfl (by rw[hf];simp) (λx hx=>by grind) (by rw[hf,bT,ZD rfl,oC I];simp) (by simp[ix,h0]) (by simp[ix,h0]) (by simp[ix,h0]) λe J=>?_;have J:e∈(nj #[223,3] 9 #[.pointer (M ⟨n,0,Z⟩),N aE s.size]).events U w #[]:=by simpa[go_sem]using im J
  rw[Lib.size_eq]at J;obtain⟨a',rfl,k⟩:=afi 223 3 9 5 om XN n Y.size (by unfold fT;rw[oC I]) _ R (by rw[<-Lib.size_eq];omega) (by rw[<-Lib.size_eq];omega) (aj w (oC I)) e J;exact bN ⟨a',aR,rfl,bN ⟨_,.head _,k.symm⟩⟩
 clear I;walk_nrm;refine Wc.go 30 λK w z=>?_;u_op At.en z;u_c bA At.en z;refine cL λ_ E=>Wc.use ?_ (z.en E);refine .ret λtodo=>.zQ rfl rfl rfl Tryz.func129 rfl rfl (Wc.drop (iT _ _) ?_);rw[nz,ho];exact NX.out
def Tj(s:ByteArray)(hs:s.size<=16777216):Ret 92 #[bE s] (bE s):=by intro S m St K0 w0 L b a k cs ops i rest o xs aa J hw hk I hx R;refine Wc.call J hw hk I Tryz.func92 rfl rfl ?_;rw[hx];simp only[Tryz.ntmps92,dR,aU,bY,Nat.reduceAdd,Nat.reduceSub,dH,dG,dU,dI,dS,dN];have Y:Hid _:=R;clear R;refine Wc.go 30 λK w z=>?_;u_c cE At.en z;u_reg At.en z;u_op At.en z;u_c bA At.en z;u_c cE At.en z;u_reg At.en z;u_op At.en z;refine cL λ_ E=>Wc.use ?_ (z.en E);clear z;refine Ve s hs _ _ _ _ _ _ _ _ _ _ _ _ _ _ _ _ rfl rfl (base_kind _) rfl (by simp[Act.eval]) ?_;walk_nrm;refine Wc.go 30 λK w z=>?_;u_op At.en z;u_c bA At.en z;refine cL λ_ E=>Wc.use ?_ (z.en E);refine .ret λtodo=>.zQ rfl rfl rfl Tryz.func92 rfl rfl ?_;rw[nz,J];exact Y.out
end
end Cr
