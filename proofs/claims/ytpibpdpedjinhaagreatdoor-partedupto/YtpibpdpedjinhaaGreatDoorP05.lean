import Derived.Test.YtpibpdpedjinhaaGreatDoorP04
import Derived.Conc.Own5
import Derived.Laws.World
import Derived.Conc.AppendWalk
import Derived.Lib.UnsafeStr
import Derived.Lib.BufferWrite
import Derived.Lib.ConvBytes
import Derived.ArgAppend
import Derived.Lib.SmallJoins
import Derived.Lib.Builder
import Derived.WalkKit
import Derived.AtR
import Derived.RangeFuncIn
set_option maxRecDepth 100000
namespace Go.Proofs.YtpibpdpedjinhaaGreatDoor
namespace Cr
open Go Go.Conc Go.ConcN
open Go.ConcR (Payload DC0)
section
variable {id:Nat}{c fr:Frame}{fn:Func}{v:Value}
section
variable [Payload]{P:Program}{S:Who}{m:Nat}{St:jU->Goroutine->World->Prop}{K0:jU}{w0 w:World}{L L':List (Nat×Obj)}{g g':Goroutine}{b:Frame}{a:Act}{k:List Item}{cs:List Frame}{ops:Array Oper}{i:Nat}{rest:List Nat}{o:Oper}
theorem Wc.ctl(hs:g.status=.running)(h:∀w,stepG P false g w=.go g' w #[])(k:Wc P S m St K0 w0 L g'):Wc P S m St K0 w0 L g:=.step hs λw z=>⟨g',w,#[],L,h w,.still z λe E=>by simp at E,k⟩
theorem Wc.seq{x y:Code}(h:Wc P S m St K0 w0 L (G (b.at a (.code x::.code y::k)) cs)):Wc P S m St K0 w0 L (G (b.at a (.code (.seq x y)::k)) cs):=.ctl rfl (λ_=>stepG_seq) h
theorem Wc.block{c:Code}(h:Wc P S m St K0 w0 L (G (b.at a (.code c::.inBlock id::k)) cs)):Wc P S m St K0 w0 L (G (b.at a (.code (.block id c)::k)) cs):=.ctl rfl (λ_=>stepG_block) h
theorem Wc.inBlock(h:Wc P S m St K0 w0 L (G (b.at a k) cs)):Wc P S m St K0 w0 L (G (b.at a (.inBlock id::k)) cs):=.ctl rfl (λ_=>stepG_inBlock) h
theorem Wc.reg(l:List Nat)(z:List.range ops.size=l)(h:Wc P S m St K0 w0 L (G (b.at a (.inRegion ops l::k)) cs)):Wc P S m St K0 w0 L (G (b.at a (.code (.region id ops false)::k)) cs):=.ctl rfl (λ_=>stepG_region) (by rw[z];exact h)
theorem Wc.done(h:Wc P S m St K0 w0 L (G (b.at a k) cs)):Wc P S m St K0 w0 L (G (b.at a (.inRegion ops []::k)) cs):=.ctl rfl (λ_=>stepG_region_end) h
theorem Wc.ret(h:∀todo,Wc P S m St K0 w0 L (G { b.at a todo with mode:=.returning } cs)):Wc P S m St K0 w0 L (G (b.at a (.code .ret::k)) cs):=.ctl rfl (λ_=>stepG_ret') (h _)
theorem Wc.call{f:FuncId}{c:Code}{args:Array Operand}{J:Array TypeId}(ho:ops[i]? =some o)(hw:Region.wanted o (yielded ops a.tmps)=true)(hk:b.kind≠.early)(R:o.op=.call { callee:=.value (.func f),args,argTypes:=J })
  (Y:P.funcs[f]? =some fn) (z:(fn.name == "runtime.NumGoroutine")=false) (hb:fn.body=some c)
  (h:Wc P S m St K0 w0 L (G ((base f).at { tmps:=args.map a.eval++Array.replicate (fn.ntmps-(args.map a.eval).size) undef,defers:=[] } [.code c]) (b.at a (.inRegion ops (i::rest)::k)::cs))):Wc P S m St K0 w0 L (G (b.at a (.inRegion ops (i::rest)::k)) cs):=
 .go 1 λ_ _ hq=>Goes.step rfl λ_ E=>goes_call ho hw hk R Y z hb ⟨⟨rfl,rfl⟩,Goes.stop λ_ I=>Wc.use h ((hq.en E).en I)⟩
theorem Wc.leave(v:Value)(I:fr.mode=.returning)(hd:fr.defers=[])(hk:fr.kind=.normal)(J:P.funcs[fr.fn]? =some fn)
  (E:∀w,Lies L w0.heap.size w->(results fn fr.tmps).run P w=.ok v w/\∀e∈(results fn fr.tmps).events P w #[],EvA L w.heap.size w.heap.size e) (h:Wc P S m St K0 w0 L (G (c.finish v) cs)):Wc P S m St K0 w0 L (G fr (c::cs)):=
 .step rfl λw z=>⟨_,w,seen P fr.fn ((results fn fr.tmps).events P w #[]),L,by
  have Y:=(E w z).1;simp[G,stepG,unwind,doReturn,I,hd,hk,J,Y,GStep.after],.still z λe R=>(E w z).2 e (mem_seen R),h⟩
theorem Wc.back(v:Value)(I:fr.mode=.returning)(hd:fr.defers=[])(hk:fr.kind=.normal)(J:P.funcs[fr.fn]? =some fn)(E:ResultsC P fn fr.tmps v)(h:Wc P S m St K0 w0 L (G (c.finish v) cs)):Wc P S m St K0 w0 L (G fr (c::cs)):=
 .leave v I hd hk J (λw _=>⟨(E w).1,λe z=>by rw[(E w).2]at z;simp at z⟩) h
theorem Wc.zC{t:Tmp}(z:fr.mode=.returning)(hd:fr.defers=[])(hk:fr.kind=.normal)(E:P.funcs[fr.fn]? =some fn)(J:fn.results=#[.tmp t])(I:fr.tmps.getD t undef=v)(h:Wc P S m St K0 w0 L (G (c.finish v) cs)):Wc P S m St K0 w0 L (G fr (c::cs)):=.back v z hd hk E (I ▸ resultsC_tmp J _) h
theorem Wc.Il{t u:Tmp}{v':Value}(E:fr.mode=.returning)(hd:fr.defers=[])(hk:fr.kind=.normal)(I:P.funcs[fr.fn]? =some fn)(R:fn.results=#[.tmp t,.tmp u])(J:fr.tmps.getD t undef=v)(z:fr.tmps.getD u undef=v')(h:Wc P S m St K0 w0 L (G (c.finish (.tuple #[v,v'])) cs)):Wc P S m St K0 w0 L (G fr (c::cs)):=.back _ E hd hk I (J ▸ z ▸ resultsC_tmp2 R _) h
end
theorem PO{w:World}{B j:Nat}{c:Array Value}{t:TypeId}{z:Nat×Nat}(h:w.heap[B]? =some (.cells c t z)):w.setCell ⟨B,j,none⟩ v=w.putObj B (.cells (c.setIfInBounds j v) t z):=by
 simp only[World.setCell,World.putObj,Option.isSome_none,bJ,if_false]
 congr 1
 apply fP;intro k;rw[bI,aO];by_cases e:B=k
 ·subst e;rw[if_pos rfl,if_pos rfl,h,if_pos (jC h)];rfl
 ·rw[if_neg e,if_neg e]
end
end Cr
namespace Cr
open Go Go.Conc
set_option linter.unusedSimpArgs false
variable {es:Array Event}
def na{α:Type}:Sem α->Prop
 |.pure _|.halt _=>True
 |.load m _ k=>m=.plain/\∀v,na (k v)
 |.store m _ _ k=>m=.plain/\na k
 |.new _ k=>∀x,na (k x)
 |.shape _ k=>∀x,na (k x)
 |.freeze _ _ k=>na k
 |.frozen _ k=>∀x,na (k x)
 |.getObj _ k=>∀x,na (k x)
 |.setObj _ _ k=>na k
 |.choose _ k=>∀x,na (k x)
 |.sys _ k=>∀x,na (k x)
 |.program k=>∀x,na (k x)
 |.mark _ k=>na k
def pl(e:Event):Prop:=∀a,e.loc=.cell a->e.sync=false
section
variable {α β:Type}{P:Program}{s:Sem α}
theorem nB{f:α->Sem β}(h:na s)(E:∀a,na (f a)):na (s >>= f):=by
 show na (s.bind f)
 induction s with
 |pure a=>exact E a
 |halt x=>trivial
 |load m a k z=>exact⟨h.1,λv=>z v (h.2 v)⟩
 |store m a v k z=>exact⟨h.1,z h.2⟩
 |freeze a n k z=>exact z h
 |setObj r o k z=>exact z h
 |mark m k z=>exact z h
 |_=>rename_i z;exact λx=>z x (h x)
theorem uw{e:Event}(h:∀e∈es,pl e)(z:pl e):∀x∈es.push e,pl x:=λx E=>(Array.mem_push.1 E).elim (h x) λk=>k ▸ z
theorem TV{l:List Addr}{wr:Bool}(h:∀e∈es,pl e):∀x∈es++l.toArray.map (⟨.cell ·,wr,false⟩),pl x:=λx z=>(Array.mem_append.1 z).elim (h x) λk a _=>by
 obtain⟨y,_,rfl⟩:=Array.mem_map.1 k;rfl
theorem aaK(h:na s):∀(w:World)(es:Array Event),(∀e∈es,pl e)->∀e∈(s.runT P w es).2,pl e:=by
 induction s with
 |pure a=>exact λw es z=>z
 |halt x=>exact λw es z=>z
 |load m a k ih=>
  obtain⟨rfl,h⟩:=h;intro w es z;simp only[Sem.runT];split
  ·exact ih _ (h _) _ _ (uw z λ_ _=>rfl)
  ·split
   ·exact ih _ (h _) _ _ (TV z)
   ·exact z
 |store m a v k ih=>
  obtain⟨rfl,h⟩:=h;intro w es z
  have key:∀e∈((match w.cell? a with
   |some _=>if w.frozen? a then(.halt (.unsupported (.unsafePointer "a write to bytes that a string shares")) w,es)else k.runT P (w.setCell a v) (es.push ⟨.cell a,true,Mode.plain == .atomic⟩)
   |none=>match w.farStore P a v (Mode.plain == .atomic)with
    |.ok (w,touched)=>k.runT P w (es++touched.toArray.map (⟨.cell ·,true,Mode.plain == .atomic⟩))
    |.error h=>(.halt h w,es)):Result α×Array Event).2,pl e:=by
   split
   ·split
    ·exact z
    ·exact ih h _ _ (uw z λ_ _=>rfl)
   ·split
    ·exact ih h _ _ (TV z)
    ·exact z
  cases v<;>first|exact key|exact z
 |new o k ih=>exact λw es z=>ih _ (h _) _ _ z
 |shape r k ih=>exact λw es z=>ih _ (h _) _ _ z
 |freeze a n k ih=>exact λw es z=>ih h _ _ z
 |frozen a k ih=>exact λw es z=>ih _ (h _) _ _ z
 |getObj r k ih=>
  intro w es z;simp only[Sem.runT];split
  ·exact z
  ·exact ih _ (h _) _ _ (uw z λ_ k=>by cases k)
  ·exact z
 |setObj r o k ih=>
  intro w es z;simp only[Sem.runT];split
  ·exact z
  ·exact ih h _ _ (uw z λ_ k=>by cases k)
  ·exact z
 |choose q k ih=>
  intro w es z;simp only[Sem.runT];split
  ·exact ih _ (h _) _ _ z
  ·exact ih _ (h _) _ _ z
 |sys c k ih=>exact λw es z=>ih _ (h _) _ _ (uw z λ_ k=>by cases k)
 |program k ih=>exact λw es z=>ih _ (h _) _ _ z
 |mark m k ih=>exact λw es z=>ih h _ _ (uw z λ_ k=>by cases k)
theorem nP(a:α):na (pure a:Sem α):=trivial
theorem nH(h:Halt):na (.halt h:Sem α):=trivial
theorem nI{c:Prop}[Decidable c]{t:Sem α}(h:na s)(ht:na t):na (if c then s else t):=by split<;>assumption
theorem TN{p:Prop}(h:p:=by repeat' first|with_reducible exact nP _|with_reducible refine nB ?_ λ_=>?_|with_reducible refine nI ?_ ?_|exact nH _|split|(simp;done)|dsimp only):p:=h
@[simp] theorem ZT(t:TypeId):na (typeInfo t):=by unfold typeInfo;exact nB (λ_=>trivial) λ_=>by split<;>trivial
@[simp] theorem Yg(t:TypeId):na (underlying t):=by unfold underlying;exact nB (λ_=>trivial) λ_=>by split<;>trivial
@[simp] theorem ZB(a:Addr):na (load a):=⟨rfl,λ_=>trivial⟩
@[simp] theorem Xl(a:Addr)(v:Value):na (store a v):=⟨rfl,trivial⟩
@[simp] theorem abt(q:Question):na (choose q):=λ_=>trivial
@[simp] theorem acS(o:Obj):na (newObj o):=λ_=>trivial
@[simp] theorem abR(r:Nat):na (shape r):=λ_=>trivial
@[simp] theorem abz(a:Addr):na (frozen a):=λ_=>trivial
@[simp] theorem acv(m:Mark):na (mark m):=trivial
@[simp] theorem MP(a:Addr):∀(n i:Nat)(acc:Array Value),na (loadCellsFrom a i n acc)
 |0,_,_=>trivial
 |n+1,_,_=>nB (ZB _) λ_=>MP a n _ _
@[simp] theorem Gm(a:Addr):∀(vs:List Value)(i:Nat),na (storeCells a vs i)
 |[],_=>trivial
 |_::vs,_=>nB (Xl _ _) λ_=>Gm a vs _
@[simp] theorem aau:na program:=λ_=>trivial
@[simp] theorem aap(v:Value):na (asIntOf v):=by
 unfold asIntOf;exact TN
@[simp] theorem abQ(v:Value):na (asInt v):=by
 unfold asInt;exact TN
@[simp] theorem abq(t:TypeId):na (elemOf t):=by
 unfold elemOf;exact TN
@[simp] theorem YM(t:TypeId):na (zeroValue t):=by
 unfold zeroValue;exact TN
@[simp] theorem abf(t:TypeId):na (sizeOf t):=by
 unfold sizeOf;exact TN
@[simp] theorem aby(t:TypeId)(c:Array Value):na (newRow t c):=by
 unfold newRow;exact TN
@[simp] theorem aa2(t:TypeId)(v:Value):na (newVar t v):=by
 unfold newVar;exact TN
@[simp] theorem aan(n:Nat):na (askRoom n):=by
 unfold askRoom;exact TN
@[simp] theorem Yo(a:Addr)(n:Nat):na (loadCells a n):=by
 unfold loadCells;exact TN
@[simp] theorem Xc(a n:Nat)(v:Value):na (Builtin.firstCells a n v):=by
 unfold Builtin.firstCells;exact TN
@[simp] theorem abW(v:Value):na (Builtin.lenOf v):=by
 unfold Builtin.lenOf;exact TN
@[simp] theorem XV(a:Addr)(n:Nat):na (Builtin.holdsCells a n):=by
 unfold Builtin.holdsCells;exact TN
@[simp] theorem ZF(a b c:Nat)(d:Option Addr)(v:Value):na (Builtin.mayShare a b c d v):=by
 unfold Builtin.mayShare;exact TN
@[simp] theorem Vy(x:RuntimeError):na ((runtimePanic x:Sem α)):=by
 unfold runtimePanic;exact TN
@[simp] theorem JK(ts:Array TypeId)(t:TypeId)(vs:Array Value):na (Builtin.append_ ts t vs):=by
 unfold Builtin.append_;exact TN
@[simp] theorem Zh(ts:Array TypeId)(t:TypeId)(vs:Array Value):na (Builtin.copy_ ts t vs):=by
 unfold Builtin.copy_;exact TN
end
end Cr
section
open Go.RowKit Go.Joins
section
theorem jE(w:World)(c:Array Value)(t:TypeId):∃W,W=w.alloc (.cells c t)/\Below w.heap.size w W/\W.heap[w.heap.size]? =some (.cells c t (0,0)):=
 ⟨_,rfl,(Below.refl _ w).alloc jA _,heap_alloc_new _ _⟩
section
variable {w:World}{b:Nat}{a0 a1 a2 a3 a4 a5 a6 a7:Value}{l:List Value}{t:TypeId}{f:Nat×Nat}
theorem nO(h:w.heap[b]? =some (.cells (a0::l).toArray t f)):w.cell? ⟨b,0,none⟩=some a0:=by
 simp[Lib.cell_of_heap h]
theorem cells2(h:w.heap[b]? =some (.cells (a0::a1::l).toArray t f)):w.cell? ⟨b,0,none⟩=some a0/\w.cell? ⟨b,1,none⟩=some a1:=by
 simp[Lib.cell_of_heap h]
theorem cells3(h:w.heap[b]? =some (.cells (a0::a1::a2::l).toArray t f)):w.cell? ⟨b,0,none⟩=some a0/\w.cell? ⟨b,1,none⟩=some a1/\w.cell? ⟨b,2,none⟩=some a2:=by
 simp[Lib.cell_of_heap h]
theorem cells4(h:w.heap[b]? =some (.cells (a0::a1::a2::a3::l).toArray t f)):w.cell? ⟨b,0,none⟩=some a0/\w.cell? ⟨b,1,none⟩=some a1/\w.cell? ⟨b,2,none⟩=some a2/\w.cell? ⟨b,3,none⟩=some a3:=by
 simp[Lib.cell_of_heap h]
theorem cells5(h:w.heap[b]? =some (.cells (a0::a1::a2::a3::a4::l).toArray t f)):w.cell? ⟨b,0,none⟩=some a0/\w.cell? ⟨b,1,none⟩=some a1/\w.cell? ⟨b,2,none⟩=some a2/\w.cell? ⟨b,3,none⟩=some a3/\w.cell? ⟨b,4,none⟩=some a4:=by
 simp[Lib.cell_of_heap h]
theorem TD(h:w.heap[b]? =some (.cells (a0::a1::a2::a3::a4::a5::l).toArray t f)):w.cell? ⟨b,0,none⟩=some a0/\w.cell? ⟨b,1,none⟩=some a1/\w.cell? ⟨b,2,none⟩=some a2/\w.cell? ⟨b,3,none⟩=some a3/\w.cell? ⟨b,4,none⟩=some a4/\w.cell? ⟨b,5,none⟩=some a5:=by
 simp[Lib.cell_of_heap h]
theorem MF(h:w.heap[b]? =some (.cells (a0::a1::a2::a3::a4::a5::a6::l).toArray t f)):w.cell? ⟨b,0,none⟩=some a0/\w.cell? ⟨b,1,none⟩=some a1/\w.cell? ⟨b,2,none⟩=some a2/\w.cell? ⟨b,3,none⟩=some a3/\w.cell? ⟨b,4,none⟩=some a4/\w.cell? ⟨b,5,none⟩=some a5/\w.cell? ⟨b,6,none⟩=some a6:=by
 simp[Lib.cell_of_heap h]
end
end
end
namespace Cr
open Go Go.Conc Go.ConcN
open Go.ConcR (Payload DC0)
section
variable {id j l:Nat}{r:Loop}
section
variable {P:Program}{main:Bool}{b:Frame}{a:Act}{k:List Item}{cs:List Frame}{w w':World}{ops:Array Oper}{i:Nat}{rest:List Nat}{o:Oper}
theorem zH(E:ops[i]? =some o)(hw:Region.wanted o (yielded ops a.tmps)=true)(hd:∀c,o.op≠.defer c):stepG P main (G (b.atR a (.inRegion ops (i::rest)::k)) cs) w=stepG.apply P true (b.atR a (.inRegion ops (i::rest)::k)) cs none (execOp a.eval o) w:=by
 have z:=Frame.eval_atR b a (.inRegion ops (i::rest)::k);simp only[Frame.atR]at z;simp only[G,stepG,stepG.exec,stepG.oper,Frame.oper?,Frame.atR,E,hw,bQ,fB,if_true,z];split
 ·exact absurd ‹_› (hd _)
 ·rfl
theorem finish_atR(v:Value)(z:ops[i]? =some o):(b.atR a (.inRegion ops (i::rest)::k)).finish v=b.atR (a.put o.dst v) (.inRegion ops rest::k):=by
 cases h:o.dst<;>simp[Frame.finish,Frame.atR,z,Act.put,h]
theorem J4{v:Value}(E:ops[i]? =some o)(hw:Region.wanted o (yielded ops a.tmps)=true)(hk:b.kind≠.early)(hd:∀c,o.op≠.defer c)(I:(execOp a.eval o).run P w=.ok (.value v) w'):
  stepG P main (G (b.atR a (.inRegion ops (i::rest)::k)) cs) w=.go (G (b.atR (a.put o.dst v) (.inRegion ops rest::k)) cs) w' (listed P b.fn a o w):=by
 have z:(b.kind == CallKind.early)=false:=by simpa using hk
 rw[zH E hw hd,<-finish_atR v E];simp[stepG.apply,Sem.runT_eq,I,z,Frame.atR,listed,GStep.after,G]
theorem Ls(E:ops[i]? =some o)(hw:Region.wanted o (yielded ops a.tmps)=true)(hk:b.kind≠.early)(hd:∀c,o.op≠.defer c)(I:(execOp a.eval o).run P w=.ok .skip w'):
  stepG P main (G (b.atR a (.inRegion ops (i::rest)::k)) cs) w=.go (G (b.atR (a.put o.dst undef) (.inRegion ops rest::k)) cs) w' (listed P b.fn a o w):=by
 have z:(b.kind == CallKind.early)=false:=by simpa using hk
 rw[zH E hw hd,<-finish_atR undef E];simp[stepG.apply,Sem.runT_eq,I,z,Frame.atR,listed,GStep.after,G]
end
section
variable [Payload]{P:Program}{S:Who}{m:Nat}{St:jU->Goroutine->World->Prop}{K0:jU}{w0:World}{L L':List (Nat×Obj)}{b:Frame}{a:Act}{k:List Item}{cs:List Frame}{ops:Array Oper}{i:Nat}{rest:List Nat}{o:Oper}
theorem Wc.aa9{x y:Code}(h:Wc P S m St K0 w0 L (G (b.atR a (.code x::.code y::k)) cs)):Wc P S m St K0 w0 L (G (b.atR a (.code (.seq x y)::k)) cs):=.ctl rfl (λ_=>by simp[G,stepG,stepG.exec,Frame.atR]) h
theorem Wc.Y4{c:Code}(h:Wc P S m St K0 w0 L (G (b.atR a (.code c::.inBlock id::k)) cs)):Wc P S m St K0 w0 L (G (b.atR a (.code (.block id c)::k)) cs):=.ctl rfl (λ_=>by simp[G,stepG,stepG.exec,Frame.atR]) h
theorem Wc.RN(h:Wc P S m St K0 w0 L (G (b.atR a k) cs)):Wc P S m St K0 w0 L (G (b.atR a (.inBlock id::k)) cs):=.ctl rfl (λ_=>by simp[G,stepG,stepG.exec,Frame.atR]) h
theorem Wc.Xy(l:List Nat)(z:List.range ops.size=l)(h:Wc P S m St K0 w0 L (G (b.atR a (.inRegion ops l::k)) cs)):Wc P S m St K0 w0 L (G (b.atR a (.code (.region id ops false)::k)) cs):=.ctl (g':=G (b.atR a (.inRegion ops l::k)) cs) rfl (λ_=>by simp[G,stepG,stepG.exec,Frame.atR,z]) h
theorem Wc.OX(h:Wc P S m St K0 w0 L (G (b.atR a k) cs)):Wc P S m St K0 w0 L (G (b.atR a (.inRegion ops []::k)) cs):=.ctl rfl (λ_=>by simp[G,stepG,stepG.exec,Frame.atR]) h
theorem Wc.opR(I:ops[i]? =some o)(hw:Region.wanted o (yielded ops a.tmps)=true)(hk:b.kind≠.early)(hd:∀c,o.op≠.defer c)
  (h:∀w,Lies L w0.heap.size w->∃v w' L',((execOp a.eval o).run P w=.ok (.value v) w'\/(execOp a.eval o).run P w=.ok .skip w'/\v=undef)/\Turn L L' w w' (listed P b.fn a o w)/\Wc P S m St K0 w0 L' (G (b.atR (a.put o.dst v) (.inRegion ops rest::k)) cs)):Wc P S m St K0 w0 L (G (b.atR a (.inRegion ops (i::rest)::k)) cs):=
 .step rfl λw J=>by
  obtain⟨v,w',L',z,ht,E⟩:=h w J;rcases z with z|⟨z,rfl⟩
  ·exact⟨_,w',_,L',J4 I hw hk hd z,ht,E⟩
  ·exact⟨_,w',_,L',Ls I hw hk hd z,ht,E⟩
omit [Payload] in
theorem Dl{r N E:Nat}{ob:Obj}{es:Array Event}(h:L[j]? =some (r,ob))(z:∀e∈es,e.loc=.obj r/\e.sync=false):∀e∈es,EvA L N E e:=λe k=>by
 obtain⟨J,wr,R⟩:=e;obtain⟨I,h2⟩:=z _ k;cases I;cases h2;exact .inr (.inl ⟨r,wr,rfl,.inl ⟨_,aQ h,rfl⟩⟩)
omit [Payload] in
theorem nV{w:World}{p:Nat×Obj}(h:Lies L w0.heap.size w)(z:L[j]? =some p):w.heap[p.1]? =some p.2:=(h.mem p (aQ z)).2
theorem Wc.begin(J:L[j]? =some (l,.loop r))(hr:r.state=.ready)(R:b.roundOf=some l)(hk:b.kind≠.early)(h:Wc P S m St K0 w0 (L.set j (l,.loop { r with state:=.busy })) (G (b.atR a k) cs)):Wc P S m St K0 w0 L (G (b.atR a (.beginRound::k)) cs):=
 .step rfl λw Y=>by
  have E:=nV Y J;have h2:=run_beginRound (P:=P) (w:=w) E hr;have I:(b.kind == CallKind.early)=false:=by simpa using hk
  refine⟨_,_,seen P b.fn ((Instr.beginRound l).events P w #[]),_,?_,.put Y J λe z=>Dl J ?_ e (mem_seen z),h⟩
  ·simp[G,stepG,stepG.exec,stepG.apply,Frame.atR,R,Sem.runT_eq,h2,I,GStep.after,Frame.finish]
  ·have E:w.heap[l]? =some (.loop r):=E;intro e z;simp[-Sem.runT_eq,Sem.events,Instr.beginRound,Instr.getLoop,getObj,setObj,bind,Sem.bind,pure,Sem.runT,E,hr,Obj.isChan]at z;rcases z with rfl|rfl<;>exact⟨rfl,rfl⟩
theorem Wc.acC{c:Frame}(I:L[j]? =some (l,.loop r))(J:b.roundOf=some l)(hk:b.kind=.normal)(h:Wc P S m St K0 w0 (L.set j (l,.loop { r with state:=.ready,pending:=none })) (G (c.finish (.bool true)) cs)):Wc P S m St K0 w0 L (G (b.atR a []) (c::cs)):=
 .step rfl λw R=>by
  have E:=nV R I;have h2:=run_endRound (P:=P) (w:=w) none E;refine⟨_,_,seen P b.fn ((Instr.endRound l none).events P w #[]),_,?_,.put R I λe z=>Dl I ?_ e (mem_seen z),h⟩
  ·simp[G,stepG,stepG.exec,Frame.atR,J,Sem.runT_eq,h2,doReturn,hk,GStep.after]
  ·have E:w.heap[l]? =some (.loop r):=E;intro e z;simp[-Sem.runT_eq,Sem.events,Instr.endRound,Instr.getLoop,getObj,setObj,bind,Sem.bind,pure,Sem.runT,E,Obj.isChan]at z;rcases z with rfl|rfl<;>exact⟨rfl,rfl⟩
theorem Wc.over(I:L[j]? =some (l,.loop r))(R:r.state≠.busy)(hp:r.pending=none)(h:Wc P S m St K0 w0 (L.set j (l,.loop { r with state:=.exhausted })) (G (b.at a k) cs)):Wc P S m St K0 w0 L (G (b.at a (.endRangeFunc l::k)) cs):=
 .step rfl λw J=>by
  have E:=nV J I;have h2:=run_endLoop (P:=P) (w:=w) E R;rw[hp]at h2;refine⟨_,_,seen P b.fn ((Instr.endLoop l).events P w #[]),_,?_,.put J I λe z=>Dl I ?_ e (mem_seen z),h⟩
  ·simp[G,stepG,stepG.exec,Frame.at,Sem.runT_eq,h2,hp,GStep.after]
  ·have E:w.heap[l]? =some (.loop r):=E;intro e z;simp[-Sem.runT_eq,Sem.events,Instr.endLoop,Instr.getLoop,getObj,setObj,bind,Sem.bind,pure,Sem.runT,E,R,Obj.isChan]at z;rcases z with rfl|rfl<;>exact⟨rfl,rfl⟩
theorem Wc.takes{d:Nat}{fr:Frame}{ds:List Deferred}(I:L[j]? =some (d,.deferred (some [])))(R:fr.mode=.returning)(hd:fr.defers={ target:=.collected d,args:=#[] }::ds)(h:Wc P S m St K0 w0 (L.set j (d,.deferred none)) (G { fr with defers:=ds } cs)):Wc P S m St K0 w0 L (G fr cs):=
 .step rfl λw J=>by
  have E:=nV J I;have h2:=run_takeDeferred (P:=P) (w:=w) E;refine⟨_,_,seen P fr.fn ((Instr.takeDeferred d).events P w #[]),_,?_,.put J I λe z=>Dl I ?_ e (mem_seen z),h⟩
  ·simp[G,stepG,unwind,R,hd,Sem.runT_eq,h2,GStep.after]
  ·have E:w.heap[d]? =some (.deferred (some [])):=E;intro e z;simp[-Sem.runT_eq,Sem.events,Instr.takeDeferred,getObj,setObj,bind,Sem.bind,pure,Sem.runT,E,Obj.isChan]at z;rcases z with rfl|rfl<;>exact⟨rfl,rfl⟩
theorem Wc.yield{y:Operand}{xs:Array Operand}{Y:Array TypeId}(hj:L[j]? =some (l,.loop r))(ho:ops[i]? =some o)(hw:Region.wanted o (yielded ops a.tmps)=true)(hk:b.kind≠.early)(J:o.op=.call { callee:=.value y,args:=xs,argTypes:=Y })(hy:a.eval y=.func (.yield l) #[] #[])(hs:xs.size=r.params.size)
  (h:Wc P S m St K0 w0 L (G (Frame.round l r.fn ((r.params.zip (xs.map a.eval)).foldl (λtmps (t,a)=>tmps.setIfInBounds t a) r.tmps) r.assign r.body .normal) (b.at a (.inRegion ops (i::rest)::k)::cs))):Wc P S m St K0 w0 L (G (b.at a (.inRegion ops (i::rest)::k)) cs):=
 .step rfl λw hl=>by
  have I:=nV hl hj;have h2:=run_yield (P:=P) (w:=w) (args:=xs.map a.eval) I (by simpa using hs);have R:(b.kind == CallKind.early)=false:=by simpa using hk
  have z:execOp a.eval o=Instr.yield l (xs.map a.eval):=by
   unfold execOp;simp only[J,resolve,hy];simp[Deferred.ofValue,invoke]
  refine⟨_,w,listed P b.fn a o w,L,?_,.still hl λe E=>Dl hj ?_ e (mem_listed E),h⟩
  ·rw[stepG_oper ho hw];simp[stepG.apply,z,Sem.runT_eq,h2,R,Frame.at,listed,GStep.after,G]
  ·have I:w.heap[l]? =some (.loop r):=I;intro e E;rw[z]at E;have aa:¬(xs.map a.eval).size≠r.params.size:=by simpa using hs
   simp[-Sem.runT_eq,Sem.events,Instr.yield,Instr.getLoop,getObj,bind,Sem.bind,pure,Sem.runT,I,hs,Obj.isChan]at E;subst E;exact⟨rfl,rfl⟩
theorem Wc.range{t:Tmp}{ps:Array Tmp}{assign body:Code}{f:FuncId}{fn:Func}{c:Code}{cap:Array Value}(hg:a.tmps[t]? =some (.func (.func f) #[] cap))(hf:P.funcs[f]? =some fn)(I:(fn.name == "runtime.NumGoroutine")=false)(hb:fn.body=some c)
  (h:∀n,Wc P S m St K0 w0 ((n+1,.loop { state:=.ready,pending:=none,fn:=b.fn,tmps:=a.tmps,params:=ps,assign,body,defers:=n })::(n,.deferred (some []))::L) (G ((base f).at { tmps:=#[.func (.yield (n+1)) #[] #[]]++cap++Array.replicate (fn.ntmps-(#[.func (.yield (n+1)) #[] #[]]++cap:Array Value).size) undef,defers:=[] } [.code c]) (b.at { a with defers:={ target:=.collected n,args:=#[] }::a.defers } (.inRangeFunc (n+1)::k)::cs))):
  Wc P S m St K0 w0 L (G (b.at a (.code (.rangeFunc (.tmp t) ps assign body)::k)) cs):=
 .step rfl λw R=>by
  obtain⟨z,h1⟩:∃z,z=Obj.deferred (some []):=⟨_,rfl⟩
  obtain⟨E,h2⟩:∃E,E=Obj.loop { state:=.ready,pending:=none,fn:=b.fn,tmps:=a.tmps,params:=ps,assign,body,defers:=w.heap.size }:=⟨_,rfl⟩
  have hz:((w.alloc z).alloc E).heap.size=w.heap.size+2:=by simp
  have hold:∀x,x<w.heap.size->((w.alloc z).alloc E).heap[x]? =w.heap[x]?:=λx Y=>by
   show((w.heap.push z).push E)[x]? =w.heap[x]?
   rw[fH (by simp;omega),Array.getElem_push_lt Y,bU Y]
  have aa:((w.alloc z).alloc E).heap[w.heap.size]? =some z:=by
   show((w.heap.push z).push E)[w.heap.size]? =some z
   rw[fH (by simp)];simp
  have ac:((w.alloc z).alloc E).heap[w.heap.size+1]? =some E:=by
   have:=World.alloc_heap_new (w.alloc z) E;simpa using this
  refine⟨_,(w.alloc z).alloc E,#[],_,?_,⟨rfl,rfl,rfl,by omega,λx Y _=>hold x Y,λp hp=>?_,?_,λe he=>by simp at he⟩,h w.heap.size⟩
  ·have he:=run_enterLoop_outer (P:=P) (w:=w) b.fn a.tmps ps assign body;have ab:(Instr.enterLoop b.fn a.tmps ps assign body none).events P w #[]=#[]:=by simp[-Sem.runT_eq,Sem.events,Instr.enterLoop,newObj,bind,Sem.bind,pure,Sem.runT]
   have k1:¬fn.name= "runtime.NumGoroutine":=by simpa using I
   have J:=Frame.eval_at' b { a with defers:={ target:=.collected w.heap.size,args:=#[] }::a.defers } (.inRangeFunc (w.heap.size+1)::k);simp only[Frame.at]at J;simp[G,stepG,stepG.exec,Frame.at,Sem.runT_eq,he,ab,stepG.apply,resolve,J,hg,Act.eval,Deferred.ofValue,invoke,callFunc,hf,k1,hb,Frame.enter,base,GStep.after,seen,h1,h2]
  ·rcases bV.1 hp with rfl|hp
   ·exact⟨.inr ⟨by simp,by simp only;omega⟩,by rw[<-h2];exact ac⟩
   rcases bV.1 hp with rfl|hp
   ·exact⟨.inr ⟨jA,by simp only;omega⟩,by rw[<-h1];exact aa⟩
   ·exact⟨.inl ⟨p,hp,rfl⟩,(hold _ (R.lt hp)).trans (R.mem p hp).2⟩
  ·refine List.pairwise_cons.2 ⟨λp hp=>?_,List.pairwise_cons.2 ⟨λp hp=>iI (R.lt hp),R.ord⟩⟩;rcases bV.1 hp with rfl|hp
   ·exact iI (Nat.lt_succ_self _)
   ·exact iI (Nat.lt_succ_of_lt (R.lt hp))
end
end
end Cr
end Go.Proofs.YtpibpdpedjinhaaGreatDoor
