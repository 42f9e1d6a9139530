import Derived.Test.YtpibpdpedjinhaaGreatDoorP06
import Derived.Test.YtpibpdpedjinhaaGreatDoorProg
import Derived.Test.YtpibpdpedjinhaaGreatDoorChecked
import Derived.WalkSpells
import Derived.BigCall
import Derived.Deep.QuietTactic
import Derived.BigQuiet
import Derived.Deep.DeepCutAuto
import Derived.Deep.RegionWith
import Derived.Deep.AppendLies
import Derived.Deep.RegionHeld3
import Derived.RangeFuncBox
import Derived.OwnWalkIn
import Init
import Derived.RangeFuncNested
import Derived.RangeFuncBound
import Derived.RangeFuncCalls
import Derived.RangeFuncLeaves
import Derived.Below
import Derived.Laws.Bits64b
import Derived.Shelf.Abstract
import Derived.Shelf.Strconv.Clone
import Derived.TacticsInMore
import Derived.LoopNIn
import Derived.LoopIn
set_option maxRecDepth 100000
set_option maxHeartbeats 4000000
set_option linter.all false
open BitVec renaming ofInt->ot,ofInt_natCast->oR,toNat_ofNat->o5
open Bool renaming false->aL,true->bB
open Go renaming Code->im,Frame->cU,FuncId->qa,Goroutine->bO,KeepsFrom->lB,Obj->pT,Operand->nL,Program->cY,TypeId->cH,Value->aD,World->U,callFunc->ki,run_endLoop->rI,run_underlying->eL
open Go.Conc renaming stepG_block->rN,stepG_region_end->bA,stepG_seq->bR
open Go.Fence renaming wide->gS
open Go.IntKind renaming i64->X,u32->dE,wrap_i64->cP
open Go.Lib renaming bytesCells->mw,bytesWorld->pg,bytesWorld_size->pf
open Go.Obj renaming cells->aG,deferred->eM
open Go.Proofs.Tryz renaming prog->bE,sizeOf4->qb,sizeOf9->qd,underlying0->py,underlying155->fX,underlying3->mC,underlying4->nj,underlying5->gD,underlying9->eI,zeroValue0->pE,zeroValue3->rr,zeroValue4->pH,zeroValue9->pL
open Go.RowKit.Below renaming heap_alloc->gA
open Go.Target renaming collected->pj
open Go.Value renaming bool->cF,int->N,slice->aR,string->aH
open Go.World renaming alloc_heap_new->oT,putObj_heap_other->cE,putObj_heap_same->eR,putObj_size->eO
open Option renaming none->Z,some->M
namespace Go.Proofs.YtpibpdpedjinhaaGreatDoor
section
open Go
section
variable {k:Nat}{f:Func}
section
variable (P:cY)(L:qa->Bool)(t:cH)(w:U)
def sN:cY:={ P with funcs:=P.funcs.mapIdx λi f=>if L i then f else { f with body:=Z,name:= "",origin:= "" } }
theorem Xt(h:P.funcs[k]? =M f)(hk:L k=bB):(sN P L).funcs[k]? =M f:=by
 show(P.funcs.mapIdx _)[k]? =M f
 rw[Array.getElem?_mapIdx,h];simp only[cO,hk,if_true]
theorem Na:(sN P L).info? t=P.info? t:=rfl
theorem Aq:(sN P L).underlying t=P.underlying t:=rfl
theorem C9:(underlying t).run (sN P L) w=(underlying t).run P w:=by simp only[underlying,program,bind,Sem.bind,Sem.run,Aq];cases P.underlying t<;>rfl
theorem Ql:(sizeOf t).run (sN P L) w=(sizeOf t).run P w:=by simp only[sizeOf,typeInfo,program,bind,Sem.bind,Sem.run,Na];cases P.info? t<;>rfl
theorem VE:(isAgg t).run (sN P L) w=(isAgg t).run P w:=by
 simp only[isAgg,underlying,program,bind,Sem.bind,Sem.run,Aq];cases P.underlying t with
 |none=>rfl
 |some d=>cases d<;>rfl
theorem Gi:(zeroValue t).run (sN P L) w=(zeroValue t).run P w:=by
 simp only[zeroValue,typeInfo,program,bind,Sem.bind,Sem.run,Na];cases P.info? t with
 |none=>rfl
 |some i=>
  show Sem.run (sN P L) (match i.zero with|some v=>pure v|none=>_) w=Sem.run P (match i.zero with|some v=>pure v|none=>_) w
  cases i.zero<;>rfl
theorem YN(h:P.funcs[k]? =M f)(hk:L k=bB)(E:(f.name == "runtime.NumGoroutine")=aL)(q:f.body.isNone=aL)(args:Array aD):(ki k args).run (sN P L) w=.ok (.enter k args) w:=by simp only[ki,program,bind,Sem.bind,Sem.run,Xt P L h hk,E,q];rfl
end
def EW(k:qa):Bool:=!([0,1,71,107,108,111,153,154,155,156,157,158,159,160,161,162,163,164,165,166,167,168,169,170,199,200,201,202,203,233,234,235,236,237,238,239,240,241,242,243,244,245,246,247,248,249,250,252,253,254,255]:List Nat).contains k
noncomputable def PQ:cY:=sN bE EW
theorem fq(h:Tryz.prog.funcs[k]? =M f)(hk:EW k=bB):PQ.funcs[k]? =M f:=Xt _ _ h hk
section
variable (t:cH)(w:U)
@[simp] theorem aaH:PQ.underlying t=Tryz.prog.underlying t:=Aq ..
@[simp] theorem aaz:(underlying t).run PQ w=(underlying t).run bE w:=C9 ..
@[simp] theorem X3:(sizeOf t).run PQ w=(sizeOf t).run bE w:=Ql ..
@[simp] theorem aaB:(isAgg t).run PQ w=(isAgg t).run bE w:=VE ..
@[simp] theorem MB:(zeroValue t).run PQ w=(zeroValue t).run bE w:=Gi ..
end
section
variable {t:cH}
theorem uq{d:Option TypeDesc}(h:Tryz.prog.underlying t=d):PQ.underlying t=d:=(aaH t).trans h
theorem oO{d:Nat}(h:∀w,(sizeOf t).run bE w=.ok d w)(w:U):(sizeOf t).run PQ w=.ok d w:=(X3 t w).trans (h w)
theorem qp{d:Bool}(h:∀w,(isAgg t).run bE w=.ok d w)(w:U):(isAgg t).run PQ w=.ok d w:=(aaB t w).trans (h w)
theorem qj{d:aD}(h:∀w,(zeroValue t).run bE w=.ok d w)(w:U):(zeroValue t).run PQ w=.ok d w:=(MB t w).trans (h w)
end
abbrev ZG:Nat:=119410605829474995185314158946067881063668245145992106791403157890852007706620
theorem agh:((List.range 257).all λk=>(ZG >>> k)%2 != 1 || match Tryz.prog.funcs[k]? with
  |some f=>EW k&&!(f.name == "runtime.NumGoroutine")&&!f.body.isNone
  |none=>aL)=bB:=XN
@[simp] theorem ag6(h:(119410605829474995185314158946067881063668245145992106791403157890852007706620 >>> k)%2=1)(a:Array aD)(w:U):(ki k a).run PQ w=.ok (.enter k a) w:=by
 have h:(ZG >>> k)%2=1:=h
 have hk:k<257:=by
  apply Nat.lt_of_not_le;intro hk;obtain⟨j,rfl⟩:=Nat.exists_eq_add_of_le hk;rw[Nat.shiftRight_add,show ZG >>> 257=0 by decide,Nat.zero_shiftRight]at h;cases h
 have:=fF.1 agh k (gV.2 hk);rw[h]at this;cases hf:Tryz.prog.funcs[k]? with
 |none=>grind
 |some f=>
  rw[hf]at this;simp only[bne_self_eq_false,Bool.false_or,dF,Bool.not_eq_true']at this;exact YN _ _ w hf this.1.1 this.1.2 this.2 a
end
end
namespace Fr
open Go.RowKit Go.Joins
def toList_empty(s:ByteArray):s.toList.isEmpty=decide (s.size=0):=by rw[ByteArray.toList_eq,Lib.size_eq];cases s.data.toList<;>simp
def getD_byte(s:ByteArray)(f:Nat)(h:f<s.size):s.data.toList.getD f 0=s[f]:=by have q:=Lib.size_eq s;rw[aY,aO aA,Array.getElem_toList];rfl
def ext_list(s:ByteArray)(a b:Nat):(s.extract a b).data.toList=(s.data.toList.take b).drop a:=by simp[ByteArray.data_extract,Array.toList_extract,List.drop_take]
def below_drewN{B:Nat}{a w:U}(h:Below B a w)(n:Nat):Below B a (w.drewN n):=h.trans ⟨rfl,rfl,rfl,jE,λ_ _=>rfl⟩
end Fr
section
open Go.Conc
def nV{w:U}{n i:Nat}{c:Array aD}{t:cH}{f:Nat×Nat}{v:aD}(h:w.heap[n]? =M (aG c t f))(k:c[i]? =M v):w.cell? ⟨n,i,Z⟩=M v:=(Lib.cell_of_heap h i).trans k
abbrev aI:=@Go.Lib.cell_of_heap
abbrev aJ:=@Go.RowKit.Below.refl
abbrev aQ:=@Go.Lib.frozen_of_heap
abbrev aT:=@Go.Calls.mono
abbrev aW:=@Go.RowKit.Below.heap_setCell
abbrev aZ:=@gA
abbrev bD:=@Go.Lib.size_eq
abbrev fB:=@Go.World.size_alloc
abbrev fG:=@Go.World.block_lt_of_cell?
abbrev fO:=@Go.Frame.finish_at
abbrev fV:=@gA
abbrev iy:=@Go.Result.andThen_ok
abbrev iZ:=@Go.Sem.run_bind
end
namespace Fr
section
variable {s:List UInt8}{p:Nat}
structure F where
 chan:Nat
 num:Nat
 data:List UInt8
 last:Bool
variable {l:List F}
def big(s:List UInt8)(p:Nat):Nat->Nat
 |0=>0
 |k+1=>256*big s p k+(s.getD (p+k) 0).toNat
theorem vM(s:List UInt8)(p:Nat):∀k,big s p k<256 ^ k
 |0=>by simp[big]
 |k+1=>by
  have q:=vM s p k;have h2:=(s.getD (p+k) 0).toNat_lt;rw[big,Nat.pow_succ];omega
def one(s:List UInt8)(p:Nat):Option (F×Nat):=
 if s.length<p+9 then Z
 else if s.length<p+9+big s (p+6) 2 then Z
 else if 1<(s.getD (p+8+big s (p+6) 2) 0).toNat then Z
 else M (⟨big s p 4,big s (p+4) 2,(s.take (p+8+big s (p+6) 2)).drop (p+8),(s.getD (p+8+big s (p+6) 2) 0).toNat == 1⟩,9+big s (p+6) 2)
theorem abX(h:¬s.length<p+9):one s p=if s.length<p+9+big s (p+6) 2 then Z
 else if 1<(s.getD (p+8+big s (p+6) 2) 0).toNat then Z
 else M (⟨big s p 4,big s (p+4) 2,(s.take (p+8+big s (p+6) 2)).drop (p+8),(s.getD (p+8+big s (p+6) 2) 0).toNat == 1⟩,9+big s (p+6) 2):=by
 unfold one;rw[Zs h]
theorem MH(h:s.length<p+9):one s p=Z:=by unfold one;rw[ZD h]
def rest:Nat->List UInt8->Nat->Option (List F)
 |0,s,p=>if s.length<=p then M []else Z
 |f+1,s,p=>if s.length<=p then M []else match one s p with
  |none=>Z
  |some (x,n)=>(rest f s (p+n)).map (x::·)
def frames(s:List UInt8):Option (List F):=if s.length<2\/s.getD 0 0≠0 then Z else rest s.length s 1
theorem one_le{x:F}{n:Nat}(h:one s p=M (x,n)):9<=n/\p+n<=s.length:=by
 unfold one at h
 grind
inductive rF(s:List UInt8):List F->Nat->Prop
 |nil:rF s [] 1
 |snoc {l:List F} {p:Nat} {x:F} {n:Nat}:rF s l p->p<s.length->one s p=M (x,n)->rF s (l++[x]) (p+n)
theorem rF.le(hs:1<=s.length)(h:rF s l p):p<=s.length/\l.length<p:=by
 induction h with
 |nil=>grind
 |snoc h hp ho ih=>
  have:=one_le ho
  grind
theorem rF.rest(h:rF s l p):∀f,l.length<=f->Fr.rest f s 1=(Fr.rest (f-l.length) s p).map (λr=>l++r):=by
 induction h with
 |nil=>intro f _;simp
 |@snoc l p x n h hp ho ih=>
  intro f I;simp only[aS,aU,bY]at I⊢;rw[ih f aA];obtain⟨q,E⟩:∃q,f-l.length=q+1:=⟨f-l.length-1,aA⟩
  rw[E,Fr.rest,Zs aA,ho];simp only;rw[show f-(l.length+(0+1))=q from by omega];cases Fr.rest q s (p+n)<;>simp
theorem rF.all(h2:¬(s.length<2\/s.getD 0 0≠0))(h:rF s l p)(hp:s.length<=p):frames s=M l:=by have:=h.le aA;rw[frames,Zs h2,h.rest s.length aA];cases s.length-l.length<;>simp[Fr.rest,hp]
theorem rF.stuck(h2:¬(s.length<2\/s.getD 0 0≠0))(h:rF s l p)(hp:p<s.length)(q:one s p=Z):frames s=Z:=by
 have:=h.le aA;rw[frames,Zs h2,h.rest s.length aA];cases s.length-l.length with
 |zero=>rw[Fr.rest,Zs aA];rfl
 |succ f=>rw[Fr.rest,Zs aA,q];rfl
theorem Af(h:s.length<2\/s.getD 0 0≠0):frames s=Z:=by rw[frames,ZD h]
end
open Go.RowKit Go.Joins
def yu(x:F):List aD:=[N dE x.chan,N .u16 x.num,aH ⟨x.data.toArray⟩,.bool x.last]
def flat:List F->List aD
 |[]=>[]
 |x::l=>yu x++flat l
def Bz:∀(a b:List F),flat (a++b)=flat a++flat b
 |[],_=>rfl
 |x::a,b=>by rw[dN,flat,flat,Bz a b,fM]
def flat_length:∀l:List F,(flat l).length=l.length*4
 |[]=>rfl
 |x::l=>by rw[flat,aS,flat_length l];simp[yu];omega
end Fr
section
open Go.RowKit
section
variable {B gf:Nat}{P:cY}{g:nL}{ps:Array Tmp}{assign body:im}{Q:Exit->Act->U->Prop}{w w0:U}{lb:Array aD}{ks:Nat->Prop}
theorem zB{a b:U}(h:Below B a b)(l:Nat)(o:pT)(q:l<a.heap.size):Below B (a.putObj l o) (b.putObj l o):=
 ⟨h.os,h.tape,h.output,by simp;exact h.size,λk hk=>by
  by_cases e:k=l
  .subst e;rw[eR q,eR (aP q h.size)]
  .rw[cE e,cE e];exact h.block k hk⟩
theorem zG(w:U)(l:Nat)(o o':pT)(I:l<w.heap.size):(w.alloc o).putObj l o'=(w.putObj l o').alloc o:=by
 have:(w.heap.push o).setIfInBounds l o'=(w.heap.setIfInBounds l o').push o:=by
  apply gB;intro i;simp only[aV,iD,Array.size_push,jm];by_cases e:l=i
  .grind
  .simp[e]
 show { (w.alloc o)with heap:=(w.alloc o).heap.setIfInBounds l o' }={ (w.putObj l o')with heap:=(w.putObj l o').heap.push o }
 have q:(w.alloc o).heap=w.heap.push o:=rfl;have E:(w.putObj l o').heap=w.heap.setIfInBounds l o':=rfl;rw[q,E,this];rfl
def Gives{α:Type}(P:cY)(g:Nat)(lb:Array aD)(encs:α->Array aD)(ks:Nat->Prop)(Y:List α->α->Nat->U->Prop)(S Sp:List α->Prop)(w:U):Prop:=
 ∀(l:Nat)(J Jx:List α->U->Prop)(W:U),Below w.heap.size w W->
  (∀q x E W1,J q E->Below E.heap.size E W1->Y q x E.heap.size W1->YieldAt gS 1 P l (encs x) W1 λe I=>
   (e=.returned (cF bB)/\J (q++[x]) I/\W1.heap.size<=I.heap.size/\∀k,ks k->I.heap[k]? =W1.heap[k]?)\/(e=.returned (cF aL)/\Jx (q++[x]) I))->
  J [] W->
  CallsIn gS 2 P g (#[.func (.yield l) #[] #[]]++lb) W λe I=>(∃v,e=.returned v)/\((∃xs E,S xs/\J xs E/\Below E.heap.size E I)\/(∃q E,Sp q/\Jx q E/\Below E.heap.size E I))
def NC(W:U)(k:Nat):Prop:=∀(cs:Array aD)(t:Nat)(q:Nat×Nat),W.heap[k]?≠M (aG cs t q)
theorem Ry{k:Nat}{W W3:U}{o':pT}(h:lB B (W.alloc o') W3)(hk:k<W.heap.size)(E:NC W k)(q:B<=k):W3.heap[k]? =(W.alloc o').heap[k]?:=by
 obtain⟨o,ho⟩:∃o,W.heap[k]? =M o:=⟨_,dA hk⟩
 have e:=(gA W o' k hk).trans ho;refine(h.same k o q e ?_).trans e.symm;cases o with
 |cells cs t fz=>exact Xs ho (E cs t fz)
 |_=>rfl
structure qK(B:Nat)(W W':U):Prop where
 size:W.heap.size<=W'.heap.size
 one:W'.heap[B]? =W.heap[B]?
 two:W'.heap[B+1]? =W.heap[B+1]?
def adz{α:Type}(B:Nat)(ks:Nat->Prop)(I:List α->U->Prop)(q:im->List α->U->Prop)(xs:List α)(W:U):Exit->Act->U->Prop
 |.normal,_,W'=>qK B W W'/\(∀k,ks k->W'.heap[k]? =W.heap[k]?)/\I xs W'
 |.ret,_,W'=>qK B W W'/\q .ret xs W'
 |.exit id,_,W'=>qK B W W'/\q (.exit id) xs W'
 |.goto t,_,W'=>qK B W W'/\q (.goto t) xs W'
 |.panic _,_,_=>False
 |.outgrown,_,_=>False
theorem yO{α:Type}{a:Act}(hg:a.eval g=.func (.func gf) #[] lb)(eg:∀args w,(ki gf args).run P w=.ok (.enter gf args) w){encs:α->Array aD}{Y:List α->α->Nat->U->Prop}{S Sp:List α->Prop}(ap:Gives P gf lb encs ks Y S Sp w0)(an:Below w0.heap.size w0 w)(aw:∀k,ks k->k<w.heap.size)(hY:∀q x lo W W',(∀k,lo<=k->W'.heap[k]? =W.heap[k]?)->W'.heap.size=W.heap.size->Y q x lo W->Y q x lo W')(aq:∀x,(encs x).size=ps.size)(I:List α->U->Prop)(Ix:im->List α->U->Prop)(hI:∀xs A r o,I xs A->A.heap[w.heap.size+1]? =M (.loop r)->I xs (A.putObj (w.heap.size+1) (.loop o)))(ae:∀c xs A r o,Ix c xs A->A.heap[w.heap.size+1]? =M (.loop r)->Ix c xs (A.putObj (w.heap.size+1) (.loop o)))(h0:∀o1 o2,I [] ((w.alloc o1).alloc o2))(ag:α->Nat->Act)(ox:α->pT)(ac:∀(l:Nat)(x:α)(W:U)(K:Act->U->Prop),K (ag x W.heap.size) (W.alloc (ox x))->assign.wpIn (Fence.wide.inRound l) 1 P (Exit.then K (λ_ _ _=>False)) { tmps:=(ps.zip (encs x)).foldl (λt (p,v)=>t.setIfInBounds p v) a.tmps,defers:=[] } W)(ah:∀(l:Nat)(q:List α)(x:α)(J W1:U),l=w.heap.size+1->l<J.heap.size->NC W1 w.heap.size->NC W1 (w.heap.size+1)->I q J->Below J.heap.size J W1->Y q x J.heap.size W1->body.wpIn (Fence.wide.inRound l) 1 P (adz w.heap.size ks I Ix (q++[x]) (W1.alloc (ox x))) (ag x W1.heap.size) (W1.alloc (ox x)))(ai:∀(D:Nat)(xs:List α)(J W:U),D=w.heap.size->D<J.heap.size->S xs->I xs J->Below J.heap.size J W->W.heap[D]? =M (eM (M []))->Q .normal { a with defers:={ target:=pj D,args:=#[] }::a.defers } W)(ak:∀(D:Nat)(c:im)(q:List α)(J W:U),D=w.heap.size->D<J.heap.size->Sp q->Ix c q J->Below J.heap.size J W->W.heap[D]? =M (eM (M []))->c.wpIn gS 3 P Q { a with defers:={ target:=pj D,args:=#[] }::a.defers } W):(Code.rangeFunc g ps assign body).wpIn gS 3 P Q a w:=by
 refine wpIn_rangeFunc λfn av=>?_;obtain⟨rc,aa⟩:∃rc:LoopState->Option im->Loop,rc=λst pe=>{ state:=st,pending:=pe,fn,tmps:=a.tmps,params:=ps,assign,body,defers:=w.heap.size }:=⟨_,rfl⟩
 obtain⟨V,hV⟩:∃V,(w.alloc (eM (M []))).alloc (.loop (rc .ready Z))=V:=⟨_,rfl⟩
 have vl:V.heap[w.heap.size+1]? =M (.loop (rc .ready Z)):=by
  have:=oT (w.alloc (eM (M []))) (.loop (rc .ready Z));rw[World.size_alloc,hV]at this;exact this
 have vd:V.heap[w.heap.size]? =M (eM (M [])):=by rw[<-hV];exact(gA _ _ _ aC).trans (oT w _)
 have vI:I [] V:=by rw[<-hV];exact h0 _ _
 have vb:Below w0.heap.size w0 V:=by rw[<-hV];exact an.trans ((((Below.refl _ w).alloc jE _).alloc aC _).mono an.size)
 refine⟨w.heap.size+1,[{ target:=pj w.heap.size,args:=#[] }],V,{ target:=.fn (.func gf) lb,args:=#[.func (.yield (w.heap.size+1)) #[] #[]] },V,gf,
  #[.func (.yield (w.heap.size+1)) #[] #[]]++lb,V,?_,?_,λ_ _=>trivial,by simp[invoke,go_sem,eg],λh=>by simp[gS]at h,?_⟩
 .rw[<-hV,aa];exact run_enterLoop_outer _ _ _ _ _
 .simp only[resolve,hg];simp[go_sem]
 refine(ap _
  (λq W=>I q W/\W.heap[w.heap.size+1]? =M _/\W.heap[w.heap.size]? =M _)
  (λq W=>∃c,Ix c q W/\W.heap[w.heap.size+1]? =M (.loop (rc .done (M c)))/\W.heap[w.heap.size]? =M (eM (M []))) V vb ?_ ⟨vI,vl,vd⟩).mono ?_
 .rintro q x J W1 ⟨i0,l0,d0⟩ hb hy;have ab:=(jG l0)
  have l1:=(hb.block _ ab).trans l0;have d1:=(hb.block _ (by omega:w.heap.size<J.heap.size)).trans d0;have af:=(jG l1)
  have ry:=run_yield (P:=P) (args:=encs x) l1 (by rw[aa];exact aq x);rw[aa]at ry;refine⟨fn,_,assign,body,ry,roundIn_of_wpIn av (ac _ x W1 _ ⟨_,run_beginRound ((gA _ _ _ af).trans l1) (by rw[aa]),?_⟩)⟩;clear ry;rw[zG _ _ _ _ af];obtain⟨o,ho⟩:∃o:pT,Obj.loop { rc .ready Z with state:=.busy }=o:=⟨_,rfl⟩
  rw[ho];have b1:=zB hb _ o ab
  have y1:Y q x (J.putObj (w.heap.size+1) o).heap.size (W1.putObj (w.heap.size+1) o):=by
   rw[eO];exact hY q x _ W1 _ (λk hk=>cE aA) aC hy
  have aj:=ah _ q x _ _ rfl aF (λcs t fz hk=>by rw[cE aA,d1]at hk;cases hk) (λcs t fz hk=>by rw[eR af,<-ho]at hk;cases hk) (by grind) (by simpa using b1) y1;rw[eO]at aj;refine wpIn_mono aj ?_;clear aj;have au:((W1.putObj (w.heap.size+1) o).alloc (ox x)).heap[w.heap.size+1]? =M o:=(gA _ _ _ aF).trans (eR af);have ar:((W1.putObj (w.heap.size+1) o).alloc (ox x)).heap[w.heap.size]? =M (eM (M [])):=(gA _ _ _ aF).trans ((cE aA).trans d1)
  have fin:∀(E:Option im)(W3:U),qK w.heap.size ((W1.putObj (w.heap.size+1) o).alloc (ox x)) W3->
    (Instr.endRound (w.heap.size+1) E).run P W3=.ok (.bool E.isNone) (W3.putObj (w.heap.size+1) (.loop (rc (if E.isNone then .ready else .done) E)))/\
    W3.heap[w.heap.size+1]? =M o/\
    (W3.putObj (w.heap.size+1) (.loop (rc (if E.isNone then .ready else .done) E))).heap[w.heap.size+1]? =M (.loop (rc (if E.isNone then .ready else .done) E))/\
    (W3.putObj (w.heap.size+1) (.loop (rc (if E.isNone then .ready else .done) E))).heap[w.heap.size]? =M (eM (M [])):=λE W3 ao=>by
   have q1:=ao.two.trans au;have q2:=ao.one.trans ar;have am:=q1;rw[<-ho]at am;have:=run_endRound (P:=P) E am;refine⟨?_,q1,eR (jG q1),(cE aA).trans q2⟩;rw[aa]at this⊢;exact this
  rintro e a3 W3 hp;cases e with
  |normal=>
   obtain⟨k3,kk,i3⟩:=hp;obtain⟨hr,l3,l4,d4⟩:=fin Z W3 k3;refine⟨_,_,hr,.inl ⟨rfl,⟨hI _ _ _ _ i3 (l3.trans (Z1 M ho.symm)),l4,d4⟩,by have:=k3.size;simp at this⊢;omega,λk hk=>?_⟩⟩;have ax:=aw k hk;rw[cE aA,kk k hk,gA _ _ _ aF,cE aA]
  |ret=>
   obtain⟨k3,i3⟩:=hp;obtain⟨hr,l3,l4,d4⟩:=fin (M .ret) W3 k3;exact⟨_,_,hr,.inr ⟨rfl,_,ae _ _ _ _ _ i3 (l3.trans (Z1 M ho.symm)),l4,d4⟩⟩
  |exit id=>
   obtain⟨k3,i3⟩:=hp;obtain⟨hr,l3,l4,d4⟩:=fin (M (.exit id)) W3 k3;exact⟨_,_,hr,.inr ⟨rfl,_,ae _ _ _ _ _ i3 (l3.trans (Z1 M ho.symm)),l4,d4⟩⟩
  |goto t=>
   obtain⟨k3,i3⟩:=hp;obtain⟨hr,l3,l4,d4⟩:=fin (M (.goto t)) W3 k3;exact⟨_,_,hr,.inr ⟨rfl,_,ae _ _ _ _ _ i3 (l3.trans (Z1 M ho.symm)),l4,d4⟩⟩
  |panic ch=>exact hp.elim
  |outgrown=>exact hp.elim
 .rintro e W2 ⟨⟨v,rfl⟩,(⟨xs,J,hS,⟨i0,l0,d0⟩,hb⟩|⟨q,J,hS,⟨c,i0,l0,d0⟩,hb⟩)⟩
  .have ab:=(jG l0)
   have l2:=(hb.block _ ab).trans l0;have d2:=(hb.block _ (by omega:w.heap.size<J.heap.size)).trans d0;refine⟨Z,_,by have:=rI (P:=P) l2 (by rw[aa];simp);rw[aa]at this;exact this,?_⟩;exact ai _ xs _ _ rfl aF hS (hI _ _ _ _ i0 l0) (by simpa using zB hb (w.heap.size+1) _ ab) ((cE aA).trans d2)
  .have ab:=(jG l0)
   have l2:=(hb.block _ ab).trans l0;have d2:=(hb.block _ (by omega:w.heap.size<J.heap.size)).trans d0;refine⟨M c,_,by have:=rI (P:=P) l2 (by rw[aa];simp);rw[aa]at this;exact this,?_⟩;exact ak _ c q _ _ rfl aF hS (ae c _ _ _ _ i0 l0) (by simpa using zB hb (w.heap.size+1) _ ab) ((cE aA).trans d2)
def acF{α:Type}(B:Nat)(ks:Nat->Prop)(I:List α->U->Prop)(q:im->List α->U->Prop)(xs:List α)(W:U):Exit->Act->U->Prop
 |.normal,_,W'=>lB B W W'/\(∀k,ks k->W'.heap[k]? =W.heap[k]?)/\I xs W'
 |.ret,_,W'=>lB B W W'/\q .ret xs W'
 |.exit id,_,W'=>lB B W W'/\q (.exit id) xs W'
 |.goto t,_,W'=>lB B W W'/\q (.goto t) xs W'
 |.panic _,_,_=>False
 |.outgrown,_,_=>False
theorem Bo{α:Type}{a:Act}(hg:a.eval g=.func (.func gf) #[] lb)(eg:∀args w,(ki gf args).run P w=.ok (.enter gf args) w){encs:α->Array aD}{Y:List α->α->Nat->U->Prop}{S Sp:List α->Prop}(af:Gives P gf lb encs ks Y S Sp w0)(ah:Below w0.heap.size w0 w)(ag:∀k,ks k->k<w.heap.size)(hY:∀q x lo W W',(∀k,lo<=k->W'.heap[k]? =W.heap[k]?)->W'.heap.size=W.heap.size->Y q x lo W->Y q x lo W')(aj:∀x,(encs x).size=ps.size)(I:List α->U->Prop)(Ix:im->List α->U->Prop)(hI:OwnFrom w.heap.size I)(ai:∀c,OwnFrom w.heap.size (Ix c))(h0:I [] w)(J:α->Nat->Act)(ox:α->pT)(aa:∀(l:Nat)(x:α)(W:U)(K:Act->U->Prop),K (J x W.heap.size) (W.alloc (ox x))->assign.wpIn (Fence.wide.inRound l) 1 P (Exit.then K (λ_ _ _=>False)) { tmps:=(ps.zip (encs x)).foldl (λt (p,v)=>t.setIfInBounds p v) a.tmps,defers:=[] } W)(ae:∀(l:Nat)(q:List α)(x:α)(E W1:U),w.heap.size<E.heap.size->I q E->Below E.heap.size E W1->Y q x E.heap.size W1->body.wpIn (Fence.wide.inRound l) 1 P (acF w.heap.size ks I Ix (q++[x]) (W1.alloc (ox x))) (J x W1.heap.size) (W1.alloc (ox x)))(ab:∀(D:Nat)(xs:List α)(E W:U),w.heap.size<=D->D<E.heap.size->S xs->I xs E->Below E.heap.size E W->W.heap[D]? =M (eM (M []))->Q .normal { a with defers:={ target:=pj D,args:=#[] }::a.defers } W)(ac:∀(D:Nat)(c:im)(q:List α)(E W:U),w.heap.size<=D->D<E.heap.size->Sp q->Ix c q E->Below E.heap.size E W->W.heap[D]? =M (eM (M []))->c.wpIn gS 3 P Q { a with defers:={ target:=pj D,args:=#[] }::a.defers } W):(Code.rangeFunc g ps assign body).wpIn gS 3 P Q a w:=by
 refine yO hg eg af ah ag hY aj I Ix (λ_ _ _ _ h hl=>hI.putObj _ h aA hl rfl) (λc _ _ _ _ h hl=>(ai c).putObj _ h aA hl rfl) (λ_ _=>hI.alloc _ (hI.alloc _ h0)) J ox aa (λl q x E W1 e hl n1 n2 hi hb hy=>wpIn_mono (ae l q x E W1 aA hi hb hy) ?_) (λD xs E W e=>ab D xs E W aA) (λD c q E W e=>ac D c q E W aA);have sz:=hb.size;have kt:∀{W3},lB w.heap.size (W1.alloc (ox x)) W3->qK w.heap.size (W1.alloc (ox x)) W3:=λk=>⟨k.size,Ry k aA n1 jE,Ry k aA n2 aA⟩
 rintro e a3 W3 hp;cases e with
 |normal=>exact⟨kt hp.1,hp.2⟩
 |ret=>exact⟨kt hp.1,hp.2⟩
 |exit id=>exact⟨kt hp.1,hp.2⟩
 |goto t=>exact⟨kt hp.1,hp.2⟩
 |panic ch=>exact hp
 |outgrown=>exact hp
end
end
namespace Fr
open Go.RowKit Go.Joins Go.Shelf
def Cm(a c:Nat)(q:c<256):(a*256) |||c=256*a+c:=by have:=Nat.two_pow_add_eq_or_of_lt (i:=8) (b:=c) aA a;rw[show a*256=2 ^ 8*a from by omega,<-this]
def BP(a b:Nat)(E:a<4294967296)(I:b<4294967296):bits .or dE (a:Int) (b:Int)=((a |||b:Nat):Int):=by
 have J:a |||b<2 ^ 32:=Nat.or_lt_two_pow aA aA
 have q:(ot 32 (a:Int)).toNat=a:=by
  rw[oR,o5];exact Nat.mod_eq_of_lt aA
 have h2:(ot 32 (b:Int)).toNat=b:=by
  rw[oR,o5];exact Nat.mod_eq_of_lt aA
 show IntKind.u32.wrap ((ot 32 (a:Int) |||BitVec.ofInt 32 (b:Int)).toNat:Int)=_
 rw[BitVec.toNat_or,q,h2,IntKind.wrap_u32];omega
def below_bytesWorld{B:Nat}{w u:U}(h:Below B w u)(E:B<=u.heap.size)(e:cH)(s:ByteArray):Below B w (pg u e s):=
 h.trans ⟨rfl,rfl,rfl,by rw[pf];omega,λm q=>Lib.bytesWorld_at_old u e s m aA⟩
def uZ(s:List UInt8)(p q:Nat):∀k,big (s.drop p) q k=big s (p+q) k
 |0=>rfl
 |k+1=>by
  rw[big,big,uZ s p q k,aY,aY,jd,dV]
def MW(s:List UInt8)(q m:Nat):∀k,q+k<=m->big (s.take m) q k=big s q k
 |0,_=>rfl
 |k+1,h=>by
  rw[big,big,MW s q m k aA,aY,aY,iL aA]
def JJ(s:List UInt8)(p k:Nat):big ((s.take (p+k)).drop p) 0 k=big s p k:=by rw[uZ,Nat.add_zero,MW _ _ _ _ jE]
def DJ(s:List UInt8)(p:Nat)(hp:p<=s.length):one s p=one (s.drop p) 0:=by
 unfold one;rw[uZ,uZ,uZ,dW];simp only[Nat.add_zero,fJ]
 have e:(s.drop p).getD (8+big s (p+6) 2) 0=s.getD (p+8+big s (p+6) 2) 0:=by
  rw[aY,aY,jd,dV]
 have q:((s.drop p).take (8+big s (p+6) 2)).drop 8=(s.take (p+8+big s (p+6) 2)).drop (p+8):=by
  rw[List.take_drop,iE]
  congr 1
  rw[dV]
 rw[e,q];by_cases E:s.length<p+9
 .grind
 .grind
def XC:Go.Shelf.Ren:=⟨fun|316=>198|n=>n,fun|0=>0|3=>3|4=>4|5=>5|9=>9|37=>155|127=>239|n=>n,fun|n=>n⟩
def KE:Go.Proofs.LaysM.n316 PQ XC:={
 mixed:=XN
 f316:=(fq Tryz.func198 rfl).trans (Z1 M XN)
 t0:=(uq py)
 a0:=(qp Tryz.isAgg0)
 z0:=(oO Tryz.sizeOf0)
 v0:=(qj pE)
 t3:=(uq mC)
 a3:=(qp Tryz.isAgg3)
 z3:=(oO Tryz.sizeOf3)
 v3:=(qj rr)
 t4:=(uq nj)
 a4:=(qp Tryz.isAgg4)
 z4:=(oO qb)
 v4:=(qj pH)
 t5:=(uq gD)
 a5:=(qp Tryz.isAgg5)
 z5:=(oO Tryz.sizeOf5)
 v5:=(qj Tryz.zeroValue5)
 t9:=(uq eI)
 a9:=(qp Tryz.isAgg9)
 z9:=(oO qd)
 v9:=(qj pL)
 t37:=(uq fX)
 a37:=(qp Tryz.isAgg155)
 z37:=(oO Tryz.sizeOf155)
 v37:=(qj Tryz.zeroValue155)
 t127:=(uq Tryz.underlying239)
 a127:=(qp Tryz.isAgg239)
 z127:=(oO Tryz.sizeOf239)
 v127:=(qj Tryz.zeroValue239)
 i0:=XN
 i3:=XN
 i4:=XN
 i5:=XN
 i9:=XN
 i37:=XN
 i127:=by kernel_rfl }
def clone_any(s:ByteArray)(w:U)(hs:s.size<=16777216):Calls PQ 151 #[aH s] w λe w'=>e=.returned (aH s)/\Below w.heap.size w w':=by go_enter (fq Tryz.func151 rfl),Tryz.ntmps151;go_wp2_with fail;refine(Any.stringslite_Clone (ρ:=XC) KE s w aA).mono ?_;rintro e w1 ⟨rfl,q⟩;go_wp2_with fail;go_ret;exact⟨rfl,q⟩
open Go.RowKit Go.Joins
def fv:Option (F×Nat)->aD
 |none=>.tuple #[.agg #[N dE 0,N .u16 0,aH ⟨#[]⟩,cF aL],N X 0,cF aL]
 |some x=>.tuple #[.agg #[N dE x.1.chan,N .u16 x.1.num,aH ⟨x.1.data.toArray⟩,.bool x.1.last],N X x.2,cF bB]
end Fr
namespace Fr
open Go.RowKit Go.Joins
attribute [local go_sem] Oper.semAt_some
inductive VK(s:List UInt8):List F->Nat->Prop
 |nil:VK s [] 0
 |snoc {l:List F} {p:Nat} {x:F} {n:Nat}:VK s l p->one s p=M (x,n)->VK s (l++[x]) (p+n)
def VK.le{s:List UInt8}{l:List F}{p:Nat}(h:VK s l p):p<=s.length/\l.length<=p:=by
 induction h with
 |nil=>simp
 |snoc h ho ih=>
  have:=one_le ho;simp only[aS,aU,bY];omega
end Fr
namespace Fr
open Go.RowKit Go.Joins
attribute [local go_sem] Oper.semAt_some
variable {s:List UInt8}{l:List F}
theorem LY(s:List UInt8)(p:Nat)(hp:p+1<=s.length):one s (p+1)=one (s.drop 1) p:=by rw[DJ s (p+1) hp,DJ (s.drop 1) p (by grind),iE,Nat.add_comm 1 p]
theorem VK.ae7(hs:1<=s.length){p:Nat}(h:VK (s.drop 1) l p):rF s l (p+1):=by
 induction h with
 |nil=>exact rF.nil
 |@snoc l p x n h ho ih=>
  have q:=one_le ho;rw[dW]at q;rw[show p+n+1=p+1+n from by omega];exact rF.snoc ih aA (by rw[LY s p aA];exact ho)
theorem Ar(hs:1<=s.length)(Y:s.getD 0 0=0){p:Nat}(E:VK (s.drop 1) l p)(hn:one (s.drop 1) p=Z):
  frames s=if l.length=0\/p<s.length-1 then Z else M l:=by
 have J:=E.ae7 hs;have I:=E.le;rw[dW]at I;by_cases h2:s.length<2
 .rw[Af (.inl h2),ZD (.inl aA)]
 .have q:¬(s.length<2\/s.getD 0 0≠0):=by
   rintro(h|h)
   .exact h2 h
   .exact h Y
  by_cases hp:p<s.length-1
  .rw[ZD (.inr hp)];exact J.stuck q aA (by rw[LY s p aA];exact hn)
  .rw[Zs]
   .exact J.all q aA
   .rintro(h|h)
    .cases E with
     |nil=>omega
     |snoc=>simp at h
    .exact hp h
end Fr
namespace Cr
open Go
abbrev link:Go.Conc.Lib.WgLink:={ add:=107,done:=109,wait:=111,relMerge:=153,disable:=154,enable:=155,inBubble:=156,associate:=157,fatal:=158,uOr:=159,uAdd:=160,raceRead:=161,uLoad:=162,uStore:=163,disassociate:=164,semrelease:=165,acquire:=166,isAssociated:=167,uCas:=168,raceWrite:=169,semacquire:=170,orU64:=199,addU64:=200,loadU64:=201,storeU64:=202,casU64:=203,tWgP:=251,tUP:=253,tAssoc:=254,tWg:=211,tAU:=209,tU64:=207,tUint:=154,tU32:=22,tPU32:=258,tPAU:=289,tPU64:=291,tNoCopy:=204,tANoCopy:=205,tAlign64:=206 }
def wgLib:Go.Conc.Lib.WgLib bE link:=
 ⟨Tryz.func107,Tryz.func109,Tryz.func111,Tryz.func153,Tryz.func154,Tryz.func155,Tryz.func156,Tryz.func157,Tryz.func158,Tryz.func159,Tryz.func160,Tryz.func161,Tryz.func162,Tryz.func163,Tryz.func164,Tryz.func165,Tryz.func166,Tryz.func167,Tryz.func168,Tryz.func169,Tryz.func170,Tryz.func199,Tryz.func200,Tryz.func201,Tryz.func202,Tryz.func203,Tryz.underlying251,Tryz.runUnderlying251,Tryz.sizeOf251,Tryz.isAgg251,Tryz.zeroValue251,Tryz.underlying253,Tryz.runUnderlying253,Tryz.sizeOf253,Tryz.isAgg253,Tryz.zeroValue253,Tryz.underlying254,Tryz.runUnderlying254,Tryz.sizeOf254,Tryz.isAgg254,Tryz.zeroValue254,Tryz.underlying211,Tryz.runUnderlying211,Tryz.sizeOf211,Tryz.isAgg211,Tryz.zeroValue211,Tryz.underlying209,Tryz.runUnderlying209,Tryz.sizeOf209,Tryz.isAgg209,Tryz.zeroValue209,Tryz.underlying207,Tryz.runUnderlying207,Tryz.sizeOf207,Tryz.isAgg207,Tryz.zeroValue207,Tryz.underlying154,Tryz.runUnderlying154,Tryz.sizeOf154,Tryz.isAgg154,Tryz.zeroValue154,Tryz.underlying22,Tryz.runUnderlying22,Tryz.sizeOf22,Tryz.isAgg22,Tryz.zeroValue22,Tryz.underlying258,Tryz.runUnderlying258,Tryz.sizeOf258,Tryz.isAgg258,Tryz.zeroValue258,Tryz.underlying289,Tryz.runUnderlying289,Tryz.sizeOf289,Tryz.isAgg289,Tryz.zeroValue289,Tryz.underlying291,Tryz.runUnderlying291,Tryz.sizeOf291,Tryz.isAgg291,Tryz.zeroValue291,py,Tryz.runUnderlying0,Tryz.sizeOf0,Tryz.isAgg0,pE,mC,Tryz.runUnderlying3,Tryz.sizeOf3,Tryz.isAgg3,rr,nj,Tryz.runUnderlying4,qb,Tryz.isAgg4,pH,eI,Tryz.runUnderlying9,qd,Tryz.isAgg9,pL,Tryz.underlying20,Tryz.runUnderlying20,Tryz.sizeOf20,Tryz.isAgg20,Tryz.zeroValue20,Tryz.underlying21,Tryz.runUnderlying21,Tryz.sizeOf21,Tryz.isAgg21,Tryz.zeroValue21,XN,XN⟩
end Cr
namespace Fr
def mg(inbox batcher fr ad:Int)(data:List UInt8):List F:=if ad=inbox/\fr=batcher then(frames data).getD []else []
end Fr
namespace Cr
open Go Go.Conc Go.ConcN Go.RowKit Go.Conc.Lib Go.ConcR.Gen Go.ConcN.Gen
open Go.ConcR (KK WgAt stA smA Payload DC0)
instance payFrames:Payload:=⟨76⟩
def rP(O:Nat->Prop)(w:U)(v:aD)(fs:List Fr.F):Prop:=
 (v=aR Z 0 0/\fs=[])\/∃g cap q,v=aR (M ⟨g,0,Z⟩) fs.length cap/\O g/\w.heap[g]? =M (aG q 81 (0,0))/\fs.length<=cap/\cap<=maxLen/\q.size=cap*4/\q.toList.take (fs.length*4)=Fr.flat fs
def rP.stands{O I:Nat->Prop}{w q:U}{v:aD}{fs:List Fr.F}(h:rP O w v fs)(Y:∀b,O b->I b)(hb:∀b,O b->q.heap[b]? =w.heap[b]?):rP I q v fs:=
 h.imp id λ⟨g,cap,E,e,J,h2,r⟩=>⟨g,cap,E,e,Y g J,(hb g J).trans h2,r⟩
def leftOf(fs:Nat->List Fr.F):Left:=λi v O w=>rP O w v (fs i)
def F7(fs:Nat->List Fr.F):(leftOf fs).nN:=λ_ _ _ _ _ q h=>rP.stands h (λ_=>id) q
abbrev cfg(inbox batcher t0 t1 t2 t3 t4:Int):Array aD:=#[N dE inbox,N dE batcher,N X t0,N X t1,N X t2,N X t3,N X t4]
abbrev BK(fr ad:Int)(data:ByteArray):Array aD:=#[N dE fr,N dE ad,aH data]
def ReadW:Prop:=∀(S:Who)(m:Nat)(Y:jZ->bO->U->Prop)(K:jZ)(w:U)(b:cU)(a:Act)(k:List Item)(cs:List cU)(ops:Array Oper)(j:Nat)(rest:List Nat)(o:Oper)(x y:nL)(J:Array cH)(inbox batcher t0 t1 t2 t3 t4 fr ad:Int)(data:ByteArray),
 ops[j]? =M o->Region.wanted o (yielded ops a.tmps)=bB->b.kind≠.early->o.op=.call { callee:=.value (.func 110),args:=#[x,y],argTypes:=J }->a.eval x=.agg (cfg inbox batcher t0 t1 t2 t3 t4)->a.eval y=.agg (BK fr ad data)->data.size<=1048576->
 (∀x,K.W x->K.O x)->(∀x,K.O x->x<w.heap.size)->S.C<w.heap.size->S.Wg<w.heap.size->Tryz.prog.globals.size<=w.heap.size->
 (∀E,En S (M m) K w E->∀v I q,rP I.O q v (Fr.mg inbox batcher fr ad data.data.toList)->(∀x,K.O x->I.O x)->(∀x,I.W x->I.O x)->E.heap.size<=q.heap.size->(∀x,K.O x->q.heap[x]? =E.heap[x]?)->(∀x,I.O x->x<q.heap.size/\(K.O x\/E.heap.size<=x))->
  (WgLive S.ty S.Wg E->WgLive S.ty S.Wg q)->(PayAt S.C S.n E->PayAt S.C S.n q)->kV bE aL S (M m) Y I (G (b.at (a.put o.dst v) (.inRegion ops rest::k)) cs) q)->
 kV bE aL S (M m) Y K (G (b.at a (.inRegion ops (j::rest)::k)) cs) w
end Cr
namespace Cr
open Go Go.Conc Go.ConcN Go.RowKit Go.Conc.Lib Go.ConcR.Gen Go.ConcN.Gen
open Go.ConcR (KK WgAt stA smA Payload DC0)
open Fr (big)
section
def Ret(f:qa)(args:Array aD)(v:aD):Prop:=∀(S:Who)(m:Nat)(St:jZ->bO->U->Prop)(K0:jZ)(w0:U)(L:List (Nat×pT))(b:cU)(a:Act)(k:List Item)(cs:List cU)(ops:Array Oper)(i:Nat)(rest:List Nat)(o:Oper)(xs:Array nL)(q:Array cH),
 ops[i]? =M o->Region.wanted o (yielded ops a.tmps)=bB->b.kind≠.early->o.op=.call { callee:=.value (.func f),args:=xs,argTypes:=q }->xs.map a.eval=args->Wc bE S m St K0 w0 L (G (b.at (a.put o.dst v) (.inRegion ops rest::k)) cs)->Wc bE S m St K0 w0 L (G (b.at a (.inRegion ops (i::rest)::k)) cs)
noncomputable def YT:im:=match Tryz.f194.body with
 |some (.seq _ (.seq _ (.seq (.seq _ (.block _ (.loop c))) _)))=>c
 |_=>.skip
noncomputable def ad6:im:=match Tryz.f194.body with
 |some (.seq _ (.seq _ (.seq _ c)))=>c
 |_=>.skip
section
variable {S:Who}{m:Nat}{St:jZ->bO->U->Prop}{K0:jZ}{w0:U}{L:List (Nat×pT)}{cs:List cU}{cf:cU}
theorem oH{p:Nat×pT}{w:U}(h:Lies (p::L) w0.heap.size w):w.heap[p.1]? =M p.2:=(h.mem p (.head _)).2
theorem Kv{n:Nat}{ob:pT}{j X1 q:Nat}{wr:Bool}:EvA ((n,ob)::L) X1 q ⟨.cell ⟨n,j,Z⟩,wr,aL⟩:=.inl ⟨_,_,rfl,.inl ⟨_,.head _,rfl⟩⟩
theorem Oh(s:ByteArray)(hs:s.size<=4)(n cap:Nat)(c:Array aD)(fz:Nat×Nat)(hc:∀j,j<s.size->c[j]? =M (N .u8 (s.data.toList.getD j 0).toNat))(nx:Wc bE S m St K0 w0 ((n,aG c 5 fz)::L) (G (cf.finish (N dE (big s.data.toList 0 s.size:Nat))) cs)):∀r k,k+r=s.size->∀u5 aa Y ac ah ag ai ae ab af:aD,Wc bE S m St K0 w0 ((n,aG c 5 fz)::L) (G ((base 194).at { tmps:=#[aH s,undef,N dE 0,N dE (big s.data.toList 0 k:Nat),undef,u5,aH s,aR (M ⟨n,0,Z⟩) s.size cap,N X s.size,N X k,aa,Y,ac,ah,ag,ai,ae,ab,af,undef],defers:=[] } [.code YT,.inLoop YT,.inBlock 0,.code ad6]) (cf::cs)):=by
 intro r
 induction r with
 |zero=>
  intro k hk u5 aa Y ac ah ag ai ae ab af;obtain rfl:k=s.size:=aA
  simp only[YT,Tryz.f194];refine Wc.go 30 λK w q=>?_;u_c bR At.en q;u_reg At.en q;u_op At.en q;u_c bA At.en q;u_c bR At.en q;u_cond aL At.en q;u_exit At.en q;simp only[ad6,Tryz.f194];u_c bR At.en q;u_reg At.en q
  iterate 2 u_op At.en q
  u_c bA At.en q;refine Goes.stop λ_ E=>Wc.use ?_ (q.en E);exact .ret λtodo=>.Bq rfl rfl rfl Tryz.func194 rfl rfl nx
 |succ r ih=>
  intro k hk u5 aa Y ac ah ag ai ae ab af;have ak:(k:Int)<s.size:=aA
  have am:big s.data.toList 0 k<16777216:=by
   have:=Fr.vM s.data.toList 0 k;have:=iO (n:=256) aB (show k<=3 by omega);omega
  have hc:=hc k aA;have J:big s.data.toList 0 (k+1)=256*big s.data.toList 0 k+(s.data.toList.getD k 0).toNat:=by rw[big,fJ]
  generalize hb:(s.data.toList.getD k 0).toNat=y at hc J;have aj:y<256:=by rw[<-hb];exact UInt8.toNat_lt _
  have ih:=ih (k+1) aA;rw[J]at ih;generalize big s.data.toList 0 k=V at *;have IH:Hid _:=ih;have NX:Hid _:=nx;clear ih nx hb J;simp only[YT,Tryz.f194];refine Wc.go 30 λK w q=>?_;u_c bR At.en q;u_reg At.en q;u_op At.en q;u_c bA At.en q;u_c bR At.en q;u_cond bB At.en q;u_c stepG_skip At.en q;u_c bR At.en q;u_c rN At.en q;u_c bR At.en q;u_reg At.en q;u_op At.en q;refine Goes.stop λ_ E=>Wc.use ?_ (q.en E);clear q;refine Wc.rd (N .u8 y) rfl rfl (base_kind _) (λw hl=>?_) ?_
  .have h1:=oH hl;have I:w.cell? ⟨n,k,Z⟩=M (N .u8 y):=by simp[World.cell?,h1,hc]
   refine⟨by simp[go_sem,I],λe he=>?_⟩;simp[go_sem,I]at he;subst he;exact Kv
  walk_nrm;refine Wc.go 30 λK w q=>?_;u_op At.en q;u_c bA At.en q;u_reg At.en q
  iterate 6 u_op At.en q
  u_c bA At.en q;u_c stepG_inBlock At.en q;u_reg At.en q
  iterate 2 u_op At.en q
  u_c bA At.en q;u_c stepG_inLoop At.en q;refine Goes.stop λ_ E=>Wc.use ?_ (q.en E);clear q
  have e:bits .or dE ((V:Int)*256) (y:Int)=((256*V+y:Nat):Int):=by
   rw[show(V:Int)*256=((V*256:Nat):Int) from by omega,Fr.BP _ _ aA aA,Fr.Cm V y aj]
  rw[show(V:Int)*256%4294967296=V*256 by omega,show(y:Int)%4294967296=y by omega,e,show IntKind.i64.wrap ((k:Int)+1)=((k+1:Nat):Int) by rw[cP];omega];exact IH.out _ _ _ _ _ _ _ _ _ _
end
def xO(s:ByteArray)(hs:s.size<=4):Ret 194 #[aH s] (N dE (big s.data.toList 0 s.size:Nat)):=by
 intro S m St K0 w0 L b a k cs ops i rest o xs aa ho hw hk I hx nx;refine Wc.call ho hw hk I Tryz.func194 rfl (show Tryz.f194.body=M (.seq _ (.seq _ (.seq (.seq _ (.block 0 (.loop YT))) ad6))) from rfl) ?_;rw[hx];simp only[Tryz.ntmps194,dR,aU,bY,Nat.reduceAdd,Nat.reduceSub,dH,dG,dU,dI,dS,dN];have NX:Hid _:=nx;clear nx;refine Wc.go 30 λK w q=>?_;u_c bR At.en q;u_reg At.en q;u_op At.en q;u_c bA At.en q;u_c bR At.en q;u_reg At.en q;u_op At.en q;u_c bA At.en q
 iterate 2 u_c bR At.en q
 u_reg At.en q;u_op At.en q;refine Goes.stop λ_ E=>Wc.use ?_ (q.en E);clear q;refine Wc.op rfl rfl (base_kind _) λw hl=>⟨aR (M ⟨w.heap.size,0,Z⟩) s.size (grownCap w s.size 0 5),pg w 5 s,(w.heap.size,aG (mw w 5 s) 5 ((mw w 5 s).size,(mw w 5 s).size+1))::L,.inl ?run,?turn,?_⟩
 case run=>
  have:=Lib.run_convert_string_bytes (P:=bE) w 9 155 5 s eI fX gD;simp[go_sem,this]
 case turn=>
  refine .lay hl (pf _ _ _) (Lib.bytesWorld_at_old _ _ _) (Lib.bytesWorld_at_new _ _ _) rfl rfl rfl λe Y=>?_;have Y:=mem_listed Y
  have J:∀c:Array aD,(w.alloc (aG c 5)).shape? w.heap.size=M (5,c.size):=by
   intro c;simp[World.shape?,World.alloc,-World.alloc_eq]
  simp[go_sem,convert,eL (P:=bE) eI,eL (P:=bE) fX,eL (P:=bE) gD,Conv.stringToBytes,newRow,markStringish,Question.forced,J]at Y
 have hc:∀j,j<s.size->(mw w 5 s)[j]? =M (N .u8 (s.data.toList.getD j 0).toNat):=λj hj=>by simp[mw,Array.getElem?_append,List.getD,hj]
 generalize mw w 5 s=c at hc;generalize w.heap.size=n;generalize grownCap w s.size 0 5=cap;clear hl;walk_nrm;refine Wc.go 30 λK w q=>?_
 iterate 2 u_op At.en q
 u_c bA At.en q;u_c rN At.en q;u_c stepG_loop At.en q;refine Goes.stop λ_ E=>Wc.use ?_ (q.en E);refine Oh s hs n cap c _ hc ?_ s.size 0 aA _ _ _ _ _ _ _ _ _ _;refine Wc.drop (iY _ _) ?_;rw[Frame.finish_at,ho];exact NX.out
end
end Cr
