import Derived.Test.YtpibpdpedjinhabGreatDoorP04
import Derived.Conc.Own5
import Derived.Laws.World
import Derived.Conc.AppendWalk
import Derived.Lib.UnsafeStr
import Derived.Lib.BufferWrite
import Derived.Lib.ConvBytes
import Derived.ArgAppend
import Derived.Lib.SmallJoins
import Derived.Lib.Builder
import Derived.WalkKit
import Derived.AtR
import Derived.RangeFuncIn
set_option maxRecDepth 100000
set_option linter.all false
open Bool renaming false->aR,true->bB
open Go renaming Addr->fR,Code->eN,Event->lh,Frame->cT,Goroutine->cA,Oper->km,Operand->l8,Program->cU,TypeId->cH,Value->aD,World->X,execOp->bO,stepG->dC,undef->aH
open Go.Builtin renaming append_->iB,copy_->nQ,firstCells->nL,holdsCells->mu,lenOf->oE,mayShare->mN
open Go.CallKind renaming early->nu
open Go.Frame renaming atR->kg
open Go.FrameMode renaming returning->j9
open Go.GStep renaming after->gD
open Go.Instr renaming beginRound->m8,endLoop->mT,endRound->mC,enterLoop->mw,getLoop->kp,takeDeferred->ly
open Go.Item renaming inRegion->bR
open Go.Lib renaming cell_of_heap->jz
open Go.Obj renaming cells->aL,deferred->eA
open Go.Region renaming wanted->cS
open Go.Sem renaming bind->fI,runT->cQ,runT_eq->gT
open Option renaming none->Z,some->M
namespace Go.Proofs.YtpibpdpedjinhabGreatDoor
namespace Cr
open Go Go.Conc Go.ConcN
open Go.ConcR (Payload DC0)
section
variable {id:Nat}{c fr:cT}{fn:Func}{v:aD}
section
variable [Payload]{P:cU}{S:Who}{m:Nat}{St:kC->cA->X->Prop}{K0:kC}{w0 w:X}{L L':List (Nat×Obj)}{g g':cA}{b:cT}{a:Act}{k:List Item}{cs:List cT}{ops:Array km}{i:Nat}{rest:List Nat}{o:km}
def Wc.ctl(hs:g.status=.running)(h:∀w,dC P aR g w=.go g' w #[])(k:Wc P S m St K0 w0 L g'):Wc P S m St K0 w0 L g:=.step hs λw z=>⟨g',w,#[],L,h w,.still z λe E=>by simp at E,k⟩
def Wc.seq{x y:eN}(h:Wc P S m St K0 w0 L (G (b.at a (.code x::.code y::k)) cs)):Wc P S m St K0 w0 L (G (b.at a (.code (.seq x y)::k)) cs):=.ctl rfl (λ_=>stepG_seq) h
def Wc.block{c:eN}(h:Wc P S m St K0 w0 L (G (b.at a (.code c::.inBlock id::k)) cs)):Wc P S m St K0 w0 L (G (b.at a (.code (.block id c)::k)) cs):=.ctl rfl (λ_=>stepG_block) h
def Wc.inBlock(h:Wc P S m St K0 w0 L (G (b.at a k) cs)):Wc P S m St K0 w0 L (G (b.at a (.inBlock id::k)) cs):=.ctl rfl (λ_=>stepG_inBlock) h
def Wc.reg(l:List Nat)(z:List.range ops.size=l)(h:Wc P S m St K0 w0 L (G (b.at a (bR ops l::k)) cs)):Wc P S m St K0 w0 L (G (b.at a (.code (.region id ops aR)::k)) cs):=.ctl rfl (λ_=>stepG_region) (by rw[z];exact h)
def Wc.done(h:Wc P S m St K0 w0 L (G (b.at a k) cs)):Wc P S m St K0 w0 L (G (b.at a (bR ops []::k)) cs):=.ctl rfl (λ_=>stepG_region_end) h
def Wc.ret(h:∀todo,Wc P S m St K0 w0 L (G { b.at a todo with mode:=j9 } cs)):Wc P S m St K0 w0 L (G (b.at a (.code .ret::k)) cs):=.ctl rfl (λ_=>stepG_ret') (h _)
def Wc.call{f:FuncId}{c:eN}{args:Array l8}{J:Array cH}(ho:ops[i]? =M o)(hw:cS o (yielded ops a.tmps)=bB)(hk:b.kind≠.early)(R:o.op=.call { callee:=.value (.func f),args,argTypes:=J })(Y:P.funcs[f]? =M fn)(z:(fn.name == "runtime.NumGoroutine")=aR)(hb:fn.body=M c)(h:Wc P S m St K0 w0 L (G ((base f).at { tmps:=args.map a.eval++Array.replicate (fn.ntmps-(args.map a.eval).size) aH,defers:=[] } [.code c]) (b.at a (bR ops (i::rest)::k)::cs))):Wc P S m St K0 w0 L (G (b.at a (bR ops (i::rest)::k)) cs):=
 .go 1 λ_ _ hq=>Goes.step rfl λ_ E=>goes_call ho hw hk R Y z hb ⟨⟨rfl,rfl⟩,Goes.stop λ_ I=>Wc.use h ((hq.en E).en I)⟩
def Wc.leave(v:aD)(I:fr.mode=j9)(hd:fr.defers=[])(hk:fr.kind=.normal)(J:P.funcs[fr.fn]? =M fn)(E:∀w,Lies L w0.heap.size w->(results fn fr.tmps).run P w=.ok v w/\∀e∈(results fn fr.tmps).events P w #[],EvA L w.heap.size w.heap.size e)(h:Wc P S m St K0 w0 L (G (c.finish v) cs)):Wc P S m St K0 w0 L (G fr (c::cs)):=
 .step rfl λw z=>⟨_,w,seen P fr.fn ((results fn fr.tmps).events P w #[]),L,by
  have Y:=(E w z).1;simp[G,dC,unwind,doReturn,I,hd,hk,J,Y,gD],.still z λe R=>(E w z).2 e (mem_seen R),h⟩
def Wc.back(v:aD)(I:fr.mode=j9)(hd:fr.defers=[])(hk:fr.kind=.normal)(J:P.funcs[fr.fn]? =M fn)(E:ResultsC P fn fr.tmps v)(h:Wc P S m St K0 w0 L (G (c.finish v) cs)):Wc P S m St K0 w0 L (G fr (c::cs)):=
 .leave v I hd hk J (λw _=>⟨(E w).1,λe z=>by rw[(E w).2]at z;simp at z⟩) h
def Wc.zQ{t:Tmp}(z:fr.mode=j9)(hd:fr.defers=[])(hk:fr.kind=.normal)(E:P.funcs[fr.fn]? =M fn)(J:fn.results=#[.tmp t])(I:fr.tmps.getD t aH=v)(h:Wc P S m St K0 w0 L (G (c.finish v) cs)):Wc P S m St K0 w0 L (G fr (c::cs)):=.back v z hd hk E (I ▸ resultsC_tmp J _) h
def Wc.JG{t u:Tmp}{v':aD}(E:fr.mode=j9)(hd:fr.defers=[])(hk:fr.kind=.normal)(I:P.funcs[fr.fn]? =M fn)(R:fn.results=#[.tmp t,.tmp u])(J:fr.tmps.getD t aH=v)(z:fr.tmps.getD u aH=v')(h:Wc P S m St K0 w0 L (G (c.finish (.tuple #[v,v'])) cs)):Wc P S m St K0 w0 L (G fr (c::cs)):=.back _ E hd hk I (J ▸ z ▸ resultsC_tmp2 R _) h
end
def TD{w:X}{B j:Nat}{c:Array aD}{t:cH}{z:Nat×Nat}(h:w.heap[B]? =M (aL c t z)):w.setCell ⟨B,j,Z⟩ v=w.putObj B (aL (c.setIfInBounds j v) t z):=by
 simp only[World.setCell,World.putObj,Option.isSome_none,bU,if_false]
 congr 1
 grind
end
end Cr
namespace Cr
open Go Go.Conc
variable {es:Array lh}
def na{α:Type}:Sem α->Prop
 |.pure _|.halt _=>True
 |.load m _ k=>m=.plain/\∀v,na (k v)
 |.store m _ _ k=>m=.plain/\na k
 |.new _ k=>∀x,na (k x)
 |.shape _ k=>∀x,na (k x)
 |.freeze _ _ k=>na k
 |.frozen _ k=>∀x,na (k x)
 |.getObj _ k=>∀x,na (k x)
 |.setObj _ _ k=>na k
 |.choose _ k=>∀x,na (k x)
 |.sys _ k=>∀x,na (k x)
 |.program k=>∀x,na (k x)
 |.mark _ k=>na k
def pl(e:lh):Prop:=∀a,e.loc=.cell a->e.sync=aR
section
variable {α β:Type}{P:cU}{s:Sem α}
def nB{f:α->Sem β}(h:na s)(E:∀a,na (f a)):na (s >>= f):=by
 show na (s.bind f)
 induction s with
 |pure a=>exact E a
 |halt x=>trivial
 |load m a k z=>exact⟨h.1,λv=>z v (h.2 v)⟩
 |store m a v k z=>exact⟨h.1,z h.2⟩
 |freeze a n k z=>exact z h
 |setObj r o k z=>exact z h
 |mark m k z=>exact z h
 |_=>rename_i z;exact λx=>z x (h x)
def uO{e:lh}(h:∀e∈es,pl e)(z:pl e):∀x∈es.push e,pl x:=λx E=>(Array.mem_push.1 E).elim (h x) λk=>k ▸ z
def Xq{l:List fR}{wr:Bool}(h:∀e∈es,pl e):∀x∈es++l.toArray.map (⟨.cell ·,wr,aR⟩),pl x:=λx z=>(Array.mem_append.1 z).elim (h x) λk a _=>by
 obtain⟨y,_,rfl⟩:=Array.mem_map.1 k;rfl
def aeO(h:na s):∀(w:X)(es:Array lh),(∀e∈es,pl e)->∀e∈(s.runT P w es).2,pl e:=by
 induction s with
 |pure a=>exact λw es z=>z
 |halt x=>exact λw es z=>z
 |load m a k ih=>
  obtain⟨rfl,h⟩:=h;intro w es z;simp only[cQ];split
  .exact ih _ (h _) _ _ (uO z λ_ _=>rfl)
  .split
   .exact ih _ (h _) _ _ (Xq z)
   .exact z
 |store m a v k ih=>
  obtain⟨rfl,h⟩:=h;intro w es z
  have key:∀e∈((match w.cell? a with
   |some _=>if w.frozen? a then(.halt (.unsupported (.unsafePointer "a write to bytes that a string shares")) w,es)else k.runT P (w.setCell a v) (es.push ⟨.cell a,bB,Mode.plain == .atomic⟩)
   |none=>match w.farStore P a v (Mode.plain == .atomic)with
    |.ok (w,touched)=>k.runT P w (es++touched.toArray.map (⟨.cell ·,bB,Mode.plain == .atomic⟩))
    |.error h=>(.halt h w,es)):Result α×Array lh).2,pl e:=by
   split
   .split
    .exact z
    .exact ih h _ _ (uO z λ_ _=>rfl)
   .split
    .exact ih h _ _ (Xq z)
    .exact z
  cases v<;>first|exact key|exact z
 |new o k ih=>exact λw es z=>ih _ (h _) _ _ z
 |shape r k ih=>exact λw es z=>ih _ (h _) _ _ z
 |freeze a n k ih=>exact λw es z=>ih h _ _ z
 |frozen a k ih=>exact λw es z=>ih _ (h _) _ _ z
 |getObj r k ih=>
  intro w es z;simp only[cQ];split
  .exact z
  .exact ih _ (h _) _ _ (uO z λ_ k=>by cases k)
  .exact z
 |setObj r o k ih=>
  intro w es z;simp only[cQ];split
  .exact z
  .exact ih h _ _ (uO z λ_ k=>by cases k)
  .exact z
 |choose q k ih=>
  intro w es z;simp only[cQ];split
  .exact ih _ (h _) _ _ z
  .exact ih _ (h _) _ _ z
 |sys c k ih=>exact λw es z=>ih _ (h _) _ _ (uO z λ_ k=>by cases k)
 |program k ih=>exact λw es z=>ih _ (h _) _ _ z
 |mark m k ih=>exact λw es z=>ih h _ _ (uO z λ_ k=>by cases k)
def nP(a:α):na (pure a:Sem α):=trivial
def nH(h:Halt):na (.halt h:Sem α):=trivial
def nI{c:Prop}[Decidable c]{t:Sem α}(h:na s)(ht:na t):na (if c then s else t):=by split<;>assumption
def TN{p:Prop}(h:p:=by repeat' first|with_reducible exact nP _|with_reducible refine nB ?_ λ_=>?_|with_reducible refine nI ?_ ?_|exact nH _|split|(simp;done)|dsimp only):p:=h
@[simp] def adR(t:cH):na (typeInfo t):=by unfold typeInfo;exact nB (λ_=>trivial) λ_=>by split<;>trivial
@[simp] def abB(t:cH):na (underlying t):=by unfold underlying;exact nB (λ_=>trivial) λ_=>by split<;>trivial
@[simp] def adt(a:fR):na (load a):=⟨rfl,λ_=>trivial⟩
@[simp] def aaE(a:fR)(v:aD):na (store a v):=⟨rfl,trivial⟩
@[simp] def afP(q:Question):na (choose q):=λ_=>trivial
@[simp] def ahn(o:Obj):na (newObj o):=λ_=>trivial
@[simp] def agq(r:Nat):na (shape r):=λ_=>trivial
@[simp] def afZ(a:fR):na (frozen a):=λ_=>trivial
@[simp] def agZ(m:Mark):na (mark m):=trivial
@[simp] def PG(a:fR):∀(n i:Nat)(acc:Array aD),na (loadCellsFrom a i n acc)
 |0,_,_=>trivial
 |n+1,_,_=>nB (adt _) λ_=>PG a n _ _
@[simp] def IG(a:fR):∀(vs:List aD)(i:Nat),na (storeCells a vs i)
 |[],_=>trivial
 |_::vs,_=>nB (aaE _ _) λ_=>IG a vs _
@[simp] def aex:na program:=λ_=>trivial
@[simp] def aen(v:aD):na (asIntOf v):=by unfold asIntOf;exact TN
@[simp] def agp(v:aD):na (asInt v):=by unfold asInt;exact TN
@[simp] def afM(t:cH):na (elemOf t):=by unfold elemOf;exact TN
@[simp] def acd(t:cH):na (zeroValue t):=by unfold zeroValue;exact TN
@[simp] def afA(t:cH):na (sizeOf t):=by unfold sizeOf;exact TN
@[simp] def afW(t:cH)(c:Array aD):na (newRow t c):=by unfold newRow;exact TN
@[simp] def afd(t:cH)(v:aD):na (newVar t v):=by unfold newVar;exact TN
@[simp] def aek(n:Nat):na (askRoom n):=by unfold askRoom;exact TN
@[simp] def abL(a:fR)(n:Nat):na (loadCells a n):=by unfold loadCells;exact TN
@[simp] def aas(a n:Nat)(v:aD):na (nL a n v):=by unfold nL;exact TN
@[simp] def agv(v:aD):na (oE v):=by unfold oE;exact TN
@[simp] def aa7(a:fR)(n:Nat):na (mu a n):=by unfold mu;exact TN
@[simp] def adw(a b c:Nat)(d:Option fR)(v:aD):na (mN a b c d v):=by unfold mN;exact TN
@[simp] def Y6(x:RuntimeError):na ((runtimePanic x:Sem α)):=by unfold runtimePanic;exact TN
@[simp] def Mc(ts:Array cH)(t:cH)(vs:Array aD):na (iB ts t vs):=by unfold iB;exact TN
@[simp] def acT(ts:Array cH)(t:cH)(vs:Array aD):na (nQ ts t vs):=by unfold nQ;exact TN
end
end Cr
section
open Go.RowKit Go.Joins
section
def jD(w:X)(c:Array aD)(t:cH):∃W,W=w.alloc (aL c t)/\Below w.heap.size w W/\W.heap[w.heap.size]? =M (aL c t (0,0)):=
 ⟨_,rfl,(Below.refl _ w).alloc jB _,heap_alloc_new _ _⟩
section
variable {w:X}{b:Nat}{a0 a1 a2 a3 a4 a5 a6 a7:aD}{l:List aD}{t:cH}{f:Nat×Nat}
def kJ(h:w.heap[b]? =M (aL (a0::l).toArray t f)):w.cell? ⟨b,0,Z⟩=M a0:=by simp[jz h]
def cells2(h:w.heap[b]? =M (aL (a0::a1::l).toArray t f)):w.cell? ⟨b,0,Z⟩=M a0/\w.cell? ⟨b,1,Z⟩=M a1:=by simp[jz h]
def cells3(h:w.heap[b]? =M (aL (a0::a1::a2::l).toArray t f)):w.cell? ⟨b,0,Z⟩=M a0/\w.cell? ⟨b,1,Z⟩=M a1/\w.cell? ⟨b,2,Z⟩=M a2:=by simp[jz h]
def cells4(h:w.heap[b]? =M (aL (a0::a1::a2::a3::l).toArray t f)):w.cell? ⟨b,0,Z⟩=M a0/\w.cell? ⟨b,1,Z⟩=M a1/\w.cell? ⟨b,2,Z⟩=M a2/\w.cell? ⟨b,3,Z⟩=M a3:=by simp[jz h]
def cells5(h:w.heap[b]? =M (aL (a0::a1::a2::a3::a4::l).toArray t f)):w.cell? ⟨b,0,Z⟩=M a0/\w.cell? ⟨b,1,Z⟩=M a1/\w.cell? ⟨b,2,Z⟩=M a2/\w.cell? ⟨b,3,Z⟩=M a3/\w.cell? ⟨b,4,Z⟩=M a4:=by simp[jz h]
def Xk(h:w.heap[b]? =M (aL (a0::a1::a2::a3::a4::a5::l).toArray t f)):w.cell? ⟨b,0,Z⟩=M a0/\w.cell? ⟨b,1,Z⟩=M a1/\w.cell? ⟨b,2,Z⟩=M a2/\w.cell? ⟨b,3,Z⟩=M a3/\w.cell? ⟨b,4,Z⟩=M a4/\w.cell? ⟨b,5,Z⟩=M a5:=by simp[jz h]
def Dn(h:w.heap[b]? =M (aL (a0::a1::a2::a3::a4::a5::a6::l).toArray t f)):w.cell? ⟨b,0,Z⟩=M a0/\w.cell? ⟨b,1,Z⟩=M a1/\w.cell? ⟨b,2,Z⟩=M a2/\w.cell? ⟨b,3,Z⟩=M a3/\w.cell? ⟨b,4,Z⟩=M a4/\w.cell? ⟨b,5,Z⟩=M a5/\w.cell? ⟨b,6,Z⟩=M a6:=by simp[jz h]
end
end
end
namespace Cr
open Go Go.Conc Go.ConcN
open Go.ConcR (Payload DC0)
section
variable {id j l:Nat}{r:Loop}
section
variable {P:cU}{main:Bool}{b:cT}{a:Act}{k:List Item}{cs:List cT}{w w':X}{ops:Array km}{i:Nat}{rest:List Nat}{o:km}
def zX(E:ops[i]? =M o)(hw:cS o (yielded ops a.tmps)=bB)(hd:∀c,o.op≠.defer c):dC P main (G (b.atR a (bR ops (i::rest)::k)) cs) w=stepG.apply P bB (b.atR a (bR ops (i::rest)::k)) cs Z (bO a.eval o) w:=by
 have z:=Frame.eval_atR b a (bR ops (i::rest)::k);simp only[kg]at z;simp only[G,dC,stepG.exec,stepG.oper,Frame.oper?,kg,E,hw,cO,fH,if_true,z]
 grind
def finish_atR(v:aD)(z:ops[i]? =M o):(b.atR a (bR ops (i::rest)::k)).finish v=b.atR (a.put o.dst v) (bR ops rest::k):=by
 cases h:o.dst<;>simp[Frame.finish,kg,z,Act.put,h]
def MX{v:aD}(E:ops[i]? =M o)(hw:cS o (yielded ops a.tmps)=bB)(hk:b.kind≠.early)(hd:∀c,o.op≠.defer c)(I:(bO a.eval o).run P w=.ok (.value v) w'):dC P main (G (b.atR a (bR ops (i::rest)::k)) cs) w=.go (G (b.atR (a.put o.dst v) (bR ops rest::k)) cs) w' (listed P b.fn a o w):=by
 have z:(b.kind == nu)=aR:=by simpa using hk
 rw[zX E hw hd,<-finish_atR v E];simp[stepG.apply,gT,I,z,kg,listed,gD,G]
def OA(E:ops[i]? =M o)(hw:cS o (yielded ops a.tmps)=bB)(hk:b.kind≠.early)(hd:∀c,o.op≠.defer c)(I:(bO a.eval o).run P w=.ok .skip w'):dC P main (G (b.atR a (bR ops (i::rest)::k)) cs) w=.go (G (b.atR (a.put o.dst aH) (bR ops rest::k)) cs) w' (listed P b.fn a o w):=by
 have z:(b.kind == nu)=aR:=by simpa using hk
 rw[zX E hw hd,<-finish_atR aH E];simp[stepG.apply,gT,I,z,kg,listed,gD,G]
end
section
variable [Payload]{P:cU}{S:Who}{m:Nat}{St:kC->cA->X->Prop}{K0:kC}{w0:X}{L L':List (Nat×Obj)}{b:cT}{a:Act}{k:List Item}{cs:List cT}{ops:Array km}{i:Nat}{rest:List Nat}{o:km}
def Wc.aft{x y:eN}(h:Wc P S m St K0 w0 L (G (b.atR a (.code x::.code y::k)) cs)):Wc P S m St K0 w0 L (G (b.atR a (.code (.seq x y)::k)) cs):=.ctl rfl (λ_=>by simp[G,dC,stepG.exec,kg]) h
def Wc.acF{c:eN}(h:Wc P S m St K0 w0 L (G (b.atR a (.code c::.inBlock id::k)) cs)):Wc P S m St K0 w0 L (G (b.atR a (.code (.block id c)::k)) cs):=.ctl rfl (λ_=>by simp[G,dC,stepG.exec,kg]) h
def Wc.VY(h:Wc P S m St K0 w0 L (G (b.atR a k) cs)):Wc P S m St K0 w0 L (G (b.atR a (.inBlock id::k)) cs):=.ctl rfl (λ_=>by simp[G,dC,stepG.exec,kg]) h
def Wc.aaP(l:List Nat)(z:List.range ops.size=l)(h:Wc P S m St K0 w0 L (G (b.atR a (bR ops l::k)) cs)):Wc P S m St K0 w0 L (G (b.atR a (.code (.region id ops aR)::k)) cs):=.ctl (g':=G (b.atR a (bR ops l::k)) cs) rfl (λ_=>by simp[G,dC,stepG.exec,kg,z]) h
def Wc.Sj(h:Wc P S m St K0 w0 L (G (b.atR a k) cs)):Wc P S m St K0 w0 L (G (b.atR a (bR ops []::k)) cs):=.ctl rfl (λ_=>by simp[G,dC,stepG.exec,kg]) h
def Wc.opR(I:ops[i]? =M o)(hw:cS o (yielded ops a.tmps)=bB)(hk:b.kind≠.early)(hd:∀c,o.op≠.defer c)(h:∀w,Lies L w0.heap.size w->∃v w' L',((bO a.eval o).run P w=.ok (.value v) w'\/(bO a.eval o).run P w=.ok .skip w'/\v=aH)/\Turn L L' w w' (listed P b.fn a o w)/\Wc P S m St K0 w0 L' (G (b.atR (a.put o.dst v) (bR ops rest::k)) cs)):Wc P S m St K0 w0 L (G (b.atR a (bR ops (i::rest)::k)) cs):=
 .step rfl λw J=>by
  obtain⟨v,w',L',z,ht,E⟩:=h w J;obtain z|⟨z,rfl⟩:=z
  .exact⟨_,w',_,L',MX I hw hk hd z,ht,E⟩
  .exact⟨_,w',_,L',OA I hw hk hd z,ht,E⟩
omit [Payload] in
def Eo{r X1 E:Nat}{ob:Obj}{es:Array lh}(h:L[j]? =M (r,ob))(z:∀e∈es,e.loc=.obj r/\e.sync=aR):∀e∈es,EvA L X1 E e:=λe k=>by
 obtain⟨J,wr,R⟩:=e;obtain⟨I,h2⟩:=z _ k;cases I;cases h2;exact .inr (.inl ⟨r,wr,rfl,.inl ⟨_,aX h,rfl⟩⟩)
omit [Payload] in
def oG{w:X}{p:Nat×Obj}(h:Lies L w0.heap.size w)(z:L[j]? =M p):w.heap[p.1]? =M p.2:=(h.mem p (aX z)).2
def Wc.begin(I:L[j]? =M (l,.loop r))(hr:r.state=.ready)(R:b.roundOf=M l)(hk:b.kind≠.early)(h:Wc P S m St K0 w0 (L.set j (l,.loop { r with state:=.busy })) (G (b.atR a k) cs)):Wc P S m St K0 w0 L (G (b.atR a (.beginRound::k)) cs):=
 .step rfl λw Y=>by
  have z:=oG Y I;have h2:=run_beginRound (P:=P) (w:=w) z hr;have E:(b.kind == nu)=aR:=by simpa using hk
  refine⟨_,_,seen P b.fn ((m8 l).events P w #[]),_,?_,.put Y I λe J=>Eo I ?_ e (mem_seen J),h⟩
  .simp[G,dC,stepG.exec,stepG.apply,kg,R,gT,h2,E,gD,Frame.finish]
  .have z:w.heap[l]? =M (.loop r):=z;intro e J;simp[-gT,Sem.events,m8,kp,getObj,setObj,bind,fI,pure,cQ,z,hr,Obj.isChan]at J
   grind
def Wc.ag5{c:cT}(I:L[j]? =M (l,.loop r))(J:b.roundOf=M l)(hk:b.kind=.normal)(h:Wc P S m St K0 w0 (L.set j (l,.loop { r with state:=.ready,pending:=Z })) (G (c.finish (.bool bB)) cs)):Wc P S m St K0 w0 L (G (b.atR a []) (c::cs)):=
 .step rfl λw R=>by
  have z:=oG R I;have h2:=run_endRound (P:=P) (w:=w) Z z;refine⟨_,_,seen P b.fn ((mC l Z).events P w #[]),_,?_,.put R I λe E=>Eo I ?_ e (mem_seen E),h⟩
  .simp[G,dC,stepG.exec,kg,J,gT,h2,doReturn,hk,gD]
  .have z:w.heap[l]? =M (.loop r):=z;intro e E;simp[-gT,Sem.events,mC,kp,getObj,setObj,bind,fI,pure,cQ,z,Obj.isChan]at E
   grind
def Wc.over(I:L[j]? =M (l,.loop r))(R:r.state≠.busy)(hp:r.pending=Z)(h:Wc P S m St K0 w0 (L.set j (l,.loop { r with state:=.exhausted })) (G (b.at a k) cs)):Wc P S m St K0 w0 L (G (b.at a (.endRangeFunc l::k)) cs):=
 .step rfl λw J=>by
  have z:=oG J I;have h2:=run_endLoop (P:=P) (w:=w) z R;rw[hp]at h2;refine⟨_,_,seen P b.fn ((mT l).events P w #[]),_,?_,.put J I λe E=>Eo I ?_ e (mem_seen E),h⟩
  .simp[G,dC,stepG.exec,Frame.at,gT,h2,hp,gD]
  .have z:w.heap[l]? =M (.loop r):=z;intro e E;simp[-gT,Sem.events,mT,kp,getObj,setObj,bind,fI,pure,cQ,z,R,Obj.isChan]at E
   grind
def Wc.takes{d:Nat}{fr:cT}{ds:List Deferred}(E:L[j]? =M (d,eA (M [])))(R:fr.mode=j9)(hd:fr.defers={ target:=.collected d,args:=#[] }::ds)(h:Wc P S m St K0 w0 (L.set j (d,eA Z)) (G { fr with defers:=ds } cs)):Wc P S m St K0 w0 L (G fr cs):=
 .step rfl λw J=>by
  have z:=oG J E;have h2:=run_takeDeferred (P:=P) (w:=w) z;refine⟨_,_,seen P fr.fn ((ly d).events P w #[]),_,?_,.put J E λe I=>Eo E ?_ e (mem_seen I),h⟩
  .simp[G,dC,unwind,R,hd,gT,h2,gD]
  .have z:w.heap[d]? =M (eA (M [])):=z;intro e I;simp[-gT,Sem.events,ly,getObj,setObj,bind,fI,pure,cQ,z,Obj.isChan]at I
   grind
def Wc.yield{y:l8}{xs:Array l8}{Y:Array cH}(hj:L[j]? =M (l,.loop r))(ho:ops[i]? =M o)(hw:cS o (yielded ops a.tmps)=bB)(hk:b.kind≠.early)(J:o.op=.call { callee:=.value y,args:=xs,argTypes:=Y })(hy:a.eval y=.func (.yield l) #[] #[])(hs:xs.size=r.params.size)(h:Wc P S m St K0 w0 L (G (Frame.round l r.fn ((r.params.zip (xs.map a.eval)).foldl (λtmps (t,a)=>tmps.setIfInBounds t a) r.tmps) r.assign r.body .normal) (b.at a (bR ops (i::rest)::k)::cs))):Wc P S m St K0 w0 L (G (b.at a (bR ops (i::rest)::k)) cs):=
 .step rfl λw hl=>by
  have E:=oG hl hj;have h2:=run_yield (P:=P) (w:=w) (args:=xs.map a.eval) E (by simpa using hs);have R:(b.kind == nu)=aR:=by simpa using hk
  have z:bO a.eval o=Instr.yield l (xs.map a.eval):=by
   unfold bO;simp only[J,resolve,hy];simp[Deferred.ofValue,invoke]
  refine⟨_,w,listed P b.fn a o w,L,?_,.still hl λe I=>Eo hj ?_ e (mem_listed I),h⟩
  .rw[stepG_oper ho hw];simp[stepG.apply,z,gT,h2,R,Frame.at,listed,gD,G]
  .have E:w.heap[l]? =M (.loop r):=E;intro e I;rw[z]at I;have aa:¬(xs.map a.eval).size≠r.params.size:=by simpa using hs
   simp[-gT,Sem.events,Instr.yield,kp,getObj,bind,fI,pure,cQ,E,hs,Obj.isChan]at I
   grind
def Wc.range{t:Tmp}{ps:Array Tmp}{assign body:eN}{f:FuncId}{fn:Func}{c:eN}{cap:Array aD}(hg:a.tmps[t]? =M (.func (.func f) #[] cap))(hf:P.funcs[f]? =M fn)(I:(fn.name == "runtime.NumGoroutine")=aR)(hb:fn.body=M c)(h:∀n,Wc P S m St K0 w0 ((n+1,.loop { state:=.ready,pending:=Z,fn:=b.fn,tmps:=a.tmps,params:=ps,assign,body,defers:=n })::(n,eA (M []))::L) (G ((base f).at { tmps:=#[.func (.yield (n+1)) #[] #[]]++cap++Array.replicate (fn.ntmps-(#[.func (.yield (n+1)) #[] #[]]++cap:Array aD).size) aH,defers:=[] } [.code c]) (b.at { a with defers:={ target:=.collected n,args:=#[] }::a.defers } (.inRangeFunc (n+1)::k)::cs))):Wc P S m St K0 w0 L (G (b.at a (.code (.rangeFunc (.tmp t) ps assign body)::k)) cs):=
 .step rfl λw R=>by
  obtain⟨z,h1⟩:∃z,z=Obj.deferred (M []):=⟨_,rfl⟩
  obtain⟨E,h2⟩:∃E,E=Obj.loop { state:=.ready,pending:=Z,fn:=b.fn,tmps:=a.tmps,params:=ps,assign,body,defers:=w.heap.size }:=⟨_,rfl⟩
  have hz:((w.alloc z).alloc E).heap.size=w.heap.size+2:=aC
  have hold:∀x,x<w.heap.size->((w.alloc z).alloc E).heap[x]? =w.heap[x]?:=λx hx=>by
   show((w.heap.push z).push E)[x]? =w.heap[x]?
   grind
  have Y:((w.alloc z).alloc E).heap[w.heap.size]? =M z:=by
   show((w.heap.push z).push E)[w.heap.size]? =M z
   rw[Array.getElem?_push_lt aC];simp
  have ac:((w.alloc z).alloc E).heap[w.heap.size+1]? =M E:=by
   have:=World.alloc_heap_new (w.alloc z) E;simpa using this
  refine⟨_,(w.alloc z).alloc E,#[],_,?_,⟨rfl,rfl,rfl,aA,λx hx _=>hold x hx,λp hp=>?_,?_,λe he=>by simp at he⟩,h w.heap.size⟩
  .have he:=run_enterLoop_outer (P:=P) (w:=w) b.fn a.tmps ps assign body;have aa:(mw b.fn a.tmps ps assign body Z).events P w #[]=#[]:=by simp[-gT,Sem.events,mw,newObj,bind,fI,pure,cQ]
   have k1:¬fn.name= "runtime.NumGoroutine":=by simpa using I
   have J:=Frame.eval_at' b { a with defers:={ target:=.collected w.heap.size,args:=#[] }::a.defers } (.inRangeFunc (w.heap.size+1)::k);simp only[Frame.at]at J;simp[G,dC,stepG.exec,Frame.at,gT,he,aa,stepG.apply,resolve,J,hg,Act.eval,Deferred.ofValue,invoke,callFunc,hf,k1,hb,Frame.enter,base,gD,seen,h1,h2]
  .obtain rfl|hp:=dD.1 hp
   .exact⟨.inr ⟨aC,by simp only;omega⟩,by rw[<-h2];exact ac⟩
   obtain rfl|hp:=dD.1 hp
   .exact⟨.inr ⟨jB,by simp only;omega⟩,by rw[<-h1];exact Y⟩
   .exact⟨.inl ⟨p,hp,rfl⟩,(hold _ (R.lt hp)).trans (R.mem p hp).2⟩
  .refine List.pairwise_cons.2 ⟨λp hp=>?_,List.pairwise_cons.2 ⟨λp hp=>iM (R.lt hp),R.ord⟩⟩;obtain rfl|hp:=dD.1 hp
   .omega
   .exact iM (Nat.lt_succ_of_lt (R.lt hp))
end
end
end Cr
