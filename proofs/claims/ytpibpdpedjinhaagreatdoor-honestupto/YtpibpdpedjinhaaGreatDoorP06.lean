import Derived.Test.YtpibpdpedjinhaaGreatDoorP05
import Derived.Conc.Own5
import Derived.Laws.World
import Derived.Conc.AppendWalk
import Derived.Lib.UnsafeStr
import Derived.Lib.BufferWrite
import Derived.Lib.ConvBytes
import Derived.ArgAppend
import Derived.Lib.SmallJoins
import Derived.Lib.Builder
import Derived.WalkKit
set_option maxRecDepth 100000
set_option linter.all false
open Go renaming Addr->gF,Event->mb,TypeId->cH,Value->aD,World->U,undef->aE
open Go.Builtin renaming append_->lO,copy_->oF,firstCells->oS,holdsCells->mR,mayShare->n8
open Go.Lib renaming cell_of_heap->kh
open Go.Obj renaming cells->aG
open Option renaming none->Z,some->M
namespace Go.Proofs.YtpibpdpedjinhaaGreatDoor
namespace Cr
open Go Go.Conc Go.ConcN
open Go.ConcR (Payload DC0)
section
variable {id:Nat}{c fr:Frame}{fn:Func}{v:aD}
section
variable [Payload]{P:Program}{S:Who}{m:Nat}{St:jZ->Goroutine->U->Prop}{K0:jZ}{w0 w:U}{L L':List (Nat×Obj)}{g g':Goroutine}{b:Frame}{a:Act}{k:List Item}{cs:List Frame}{ops:Array Oper}{i:Nat}{rest:List Nat}{o:Oper}
theorem Wc.ctl(hs:g.status=.running)(h:∀w,stepG P false g w=.go g' w #[])(k:Wc P S m St K0 w0 L g'):Wc P S m St K0 w0 L g:=.step hs λw q=>⟨g',w,#[],L,h w,.still q λe E=>by simp at E,k⟩
theorem Wc.seq{x y:Code}(h:Wc P S m St K0 w0 L (G (b.at a (.code x::.code y::k)) cs)):Wc P S m St K0 w0 L (G (b.at a (.code (.seq x y)::k)) cs):=.ctl rfl (λ_=>stepG_seq) h
theorem Wc.block{c:Code}(h:Wc P S m St K0 w0 L (G (b.at a (.code c::.inBlock id::k)) cs)):Wc P S m St K0 w0 L (G (b.at a (.code (.block id c)::k)) cs):=.ctl rfl (λ_=>stepG_block) h
theorem Wc.inBlock(h:Wc P S m St K0 w0 L (G (b.at a k) cs)):Wc P S m St K0 w0 L (G (b.at a (.inBlock id::k)) cs):=.ctl rfl (λ_=>stepG_inBlock) h
theorem Wc.reg(l:List Nat)(q:List.range ops.size=l)(h:Wc P S m St K0 w0 L (G (b.at a (.inRegion ops l::k)) cs)):Wc P S m St K0 w0 L (G (b.at a (.code (.region id ops false)::k)) cs):=.ctl rfl (λ_=>stepG_region) (by rw[q];exact h)
theorem Wc.done(h:Wc P S m St K0 w0 L (G (b.at a k) cs)):Wc P S m St K0 w0 L (G (b.at a (.inRegion ops []::k)) cs):=.ctl rfl (λ_=>stepG_region_end) h
theorem Wc.ret(h:∀todo,Wc P S m St K0 w0 L (G { b.at a todo with mode:=.returning } cs)):Wc P S m St K0 w0 L (G (b.at a (.code .ret::k)) cs):=.ctl rfl (λ_=>stepG_ret') (h _)
theorem Wc.call{f:FuncId}{c:Code}{args:Array Operand}{J:Array cH}(ho:ops[i]? =M o)(hw:Region.wanted o (yielded ops a.tmps)=true)(hk:b.kind≠.early)(Y:o.op=.call { callee:=.value (.func f),args,argTypes:=J })(hf:P.funcs[f]? =M fn)(q:(fn.name == "runtime.NumGoroutine")=false)(hb:fn.body=M c)(h:Wc P S m St K0 w0 L (G ((base f).at { tmps:=args.map a.eval++Array.replicate (fn.ntmps-(args.map a.eval).size) aE,defers:=[] } [.code c]) (b.at a (.inRegion ops (i::rest)::k)::cs))):Wc P S m St K0 w0 L (G (b.at a (.inRegion ops (i::rest)::k)) cs):=
 .go 1 λ_ _ hq=>Goes.step rfl λ_ E=>goes_call ho hw hk Y hf q hb ⟨⟨rfl,rfl⟩,Goes.stop λ_ I=>Wc.use h ((hq.en E).en I)⟩
theorem Wc.leave(v:aD)(I:fr.mode=.returning)(hd:fr.defers=[])(hk:fr.kind=.normal)(J:P.funcs[fr.fn]? =M fn)(E:∀w,Lies L w0.heap.size w->(results fn fr.tmps).run P w=.ok v w/\∀e∈(results fn fr.tmps).events P w #[],EvA L w.heap.size w.heap.size e)(h:Wc P S m St K0 w0 L (G (c.finish v) cs)):Wc P S m St K0 w0 L (G fr (c::cs)):=
 .step rfl λw q=>⟨_,w,seen P fr.fn ((results fn fr.tmps).events P w #[]),L,by
  have h1:=(E w q).1;simp[G,stepG,unwind,doReturn,I,hd,hk,J,h1,GStep.after],.still q λe Y=>(E w q).2 e (mem_seen Y),h⟩
theorem Wc.back(v:aD)(I:fr.mode=.returning)(hd:fr.defers=[])(hk:fr.kind=.normal)(J:P.funcs[fr.fn]? =M fn)(E:ResultsC P fn fr.tmps v)(h:Wc P S m St K0 w0 L (G (c.finish v) cs)):Wc P S m St K0 w0 L (G fr (c::cs)):=
 .leave v I hd hk J (λw _=>⟨(E w).1,λe q=>by rw[(E w).2]at q;simp at q⟩) h
theorem Wc.Bq{t:Tmp}(q:fr.mode=.returning)(hd:fr.defers=[])(hk:fr.kind=.normal)(E:P.funcs[fr.fn]? =M fn)(J:fn.results=#[.tmp t])(I:fr.tmps.getD t aE=v)(h:Wc P S m St K0 w0 L (G (c.finish v) cs)):Wc P S m St K0 w0 L (G fr (c::cs)):=.back v q hd hk E (I ▸ resultsC_tmp J _) h
theorem Wc.KU{t u:Tmp}{v':aD}(E:fr.mode=.returning)(hd:fr.defers=[])(hk:fr.kind=.normal)(I:P.funcs[fr.fn]? =M fn)(Y:fn.results=#[.tmp t,.tmp u])(J:fr.tmps.getD t aE=v)(q:fr.tmps.getD u aE=v')(h:Wc P S m St K0 w0 L (G (c.finish (.tuple #[v,v'])) cs)):Wc P S m St K0 w0 L (G fr (c::cs)):=.back _ E hd hk I (J ▸ q ▸ resultsC_tmp2 Y _) h
end
theorem Um{w:U}{B j:Nat}{c:Array aD}{t:cH}{q:Nat×Nat}(h:w.heap[B]? =M (aG c t q)):w.setCell ⟨B,j,Z⟩ v=w.putObj B (aG (c.setIfInBounds j v) t q):=by
 simp only[World.setCell,World.putObj,Option.isSome_none,bU,if_false]
 congr 1
 grind
end
end Cr
namespace Cr
open Go Go.Conc
variable {es:Array mb}
def na{α:Type}:Sem α->Prop
 |.pure _|.halt _=>True
 |.load m _ k=>m=.plain/\∀v,na (k v)
 |.store m _ _ k=>m=.plain/\na k
 |.new _ k=>∀x,na (k x)
 |.shape _ k=>∀x,na (k x)
 |.freeze _ _ k=>na k
 |.frozen _ k=>∀x,na (k x)
 |.getObj _ k=>∀x,na (k x)
 |.setObj _ _ k=>na k
 |.choose _ k=>∀x,na (k x)
 |.sys _ k=>∀x,na (k x)
 |.program k=>∀x,na (k x)
 |.mark _ k=>na k
def pl(e:mb):Prop:=∀a,e.loc=.cell a->e.sync=false
section
variable {α β:Type}{P:Program}{s:Sem α}
theorem nB{f:α->Sem β}(h:na s)(E:∀a,na (f a)):na (s >>= f):=by
 show na (s.bind f)
 induction s with
 |pure a=>exact E a
 |halt x=>trivial
 |load m a k q=>exact⟨h.1,λv=>q v (h.2 v)⟩
 |store m a v k q=>exact⟨h.1,q h.2⟩
 |freeze a n k q=>exact q h
 |setObj r o k q=>exact q h
 |mark m k q=>exact q h
 |_=>rename_i q;exact λx=>q x (h x)
theorem vZ{e:mb}(h:∀e∈es,pl e)(q:pl e):∀x∈es.push e,pl x:=λx E=>(Array.mem_push.1 E).elim (h x) λk=>k ▸ q
theorem XT{l:List gF}{wr:Bool}(h:∀e∈es,pl e):∀x∈es++l.toArray.map (⟨.cell ·,wr,false⟩),pl x:=λx q=>(Array.mem_append.1 q).elim (h x) λk a _=>by
 obtain⟨y,_,rfl⟩:=Array.mem_map.1 k;rfl
theorem aeT(h:na s):∀(w:U)(es:Array mb),(∀e∈es,pl e)->∀e∈(s.runT P w es).2,pl e:=by
 induction s with
 |pure a=>exact λw es E=>E
 |halt x=>exact λw es E=>E
 |load m a k ih=>
  obtain⟨rfl,h⟩:=h;intro w es E;simp only[Sem.runT];split
  .exact ih _ (h _) _ _ (vZ E λ_ _=>rfl)
  .split
   .exact ih _ (h _) _ _ (XT E)
   .exact E
 |store m a v k ih=>
  obtain⟨rfl,h⟩:=h;intro w es E
  have key:∀e∈((match w.cell? a with
   |some _=>if w.frozen? a then(.halt (.unsupported (.unsafePointer "a write to bytes that a string shares")) w,es)else k.runT P (w.setCell a v) (es.push ⟨.cell a,true,Mode.plain == .atomic⟩)
   |none=>match w.farStore P a v (Mode.plain == .atomic)with
    |.ok (w,touched)=>k.runT P w (es++touched.toArray.map (⟨.cell ·,true,Mode.plain == .atomic⟩))
    |.error h=>(.halt h w,es)):Result α×Array mb).2,pl e:=by
   split
   .split
    .exact E
    .exact ih h _ _ (vZ E λ_ _=>rfl)
   .split
    .exact ih h _ _ (XT E)
    .exact E
  cases v<;>first|exact key|exact E
 |new o k ih=>exact λw es E=>ih _ (h _) _ _ E
 |shape r k ih=>exact λw es E=>ih _ (h _) _ _ E
 |freeze a n k ih=>exact λw es E=>ih h _ _ E
 |frozen a k ih=>exact λw es E=>ih _ (h _) _ _ E
 |getObj r k ih=>
  intro w es E;simp only[Sem.runT];split
  .exact E
  .exact ih _ (h _) _ _ (vZ E λ_ k=>by cases k)
  .exact E
 |setObj r o k ih=>
  intro w es E;simp only[Sem.runT];split
  .exact E
  .exact ih h _ _ (vZ E λ_ k=>by cases k)
  .exact E
 |choose q k ih=>
  intro w es E;simp only[Sem.runT];split
  .exact ih _ (h _) _ _ E
  .exact ih _ (h _) _ _ E
 |sys c k ih=>exact λw es E=>ih _ (h _) _ _ (vZ E λ_ k=>by cases k)
 |program k ih=>exact λw es E=>ih _ (h _) _ _ E
 |mark m k ih=>exact λw es E=>ih h _ _ (vZ E λ_ k=>by cases k)
theorem nP(a:α):na (pure a:Sem α):=trivial
theorem nH(h:Halt):na (.halt h:Sem α):=trivial
theorem nI{c:Prop}[Decidable c]{t:Sem α}(h:na s)(ht:na t):na (if c then s else t):=by split<;>assumption
theorem TN{p:Prop}(h:p:=by repeat' first|with_reducible exact nP _|with_reducible refine nB ?_ λ_=>?_|with_reducible refine nI ?_ ?_|exact nH _|split|(simp;done)|dsimp only):p:=h
@[simp] theorem ad7(t:cH):na (typeInfo t):=by unfold typeInfo;exact nB (λ_=>trivial) λ_=>by split<;>trivial
@[simp] theorem acp(t:cH):na (underlying t):=by unfold underlying;exact nB (λ_=>trivial) λ_=>by split<;>trivial
@[simp] theorem adP(a:gF):na (load a):=⟨rfl,λ_=>trivial⟩
@[simp] theorem abm(a:gF)(v:aD):na (store a v):=⟨rfl,trivial⟩
@[simp] theorem afC(q:Question):na (choose q):=λ_=>trivial
@[simp] theorem ag2(o:Obj):na (newObj o):=λ_=>trivial
@[simp] theorem af6(r:Nat):na (shape r):=λ_=>trivial
@[simp] theorem afI(a:gF):na (frozen a):=λ_=>trivial
@[simp] theorem agG(m:Mark):na (mark m):=trivial
@[simp] theorem Qs(a:gF):∀(n i:Nat)(acc:Array aD),na (loadCellsFrom a i n acc)
 |0,_,_=>trivial
 |n+1,_,_=>nB (adP _) λ_=>Qs a n _ _
@[simp] theorem JF(a:gF):∀(vs:List aD)(i:Nat),na (storeCells a vs i)
 |[],_=>trivial
 |_::vs,_=>nB (abm _ _) λ_=>JF a vs _
@[simp] theorem aeD:na program:=λ_=>trivial
@[simp] theorem aey(v:aD):na (asIntOf v):=by unfold asIntOf;exact TN
@[simp] theorem af5(v:aD):na (asInt v):=by unfold asInt;exact TN
@[simp] theorem afA(t:cH):na (elemOf t):=by unfold elemOf;exact TN
@[simp] theorem acV(t:cH):na (zeroValue t):=by unfold zeroValue;exact TN
@[simp] theorem afo(t:cH):na (sizeOf t):=by unfold sizeOf;exact TN
@[simp] theorem afH(t:cH)(c:Array aD):na (newRow t c):=by unfold newRow;exact TN
@[simp] theorem afc(t:cH)(v:aD):na (newVar t v):=by unfold newVar;exact TN
@[simp] theorem aew(n:Nat):na (askRoom n):=by unfold askRoom;exact TN
@[simp] theorem acA(a:gF)(n:Nat):na (loadCells a n):=by unfold loadCells;exact TN
@[simp] theorem abb(a n:Nat)(v:aD):na (oS a n v):=by unfold oS;exact TN
@[simp] theorem agb(v:aD):na (Builtin.lenOf v):=by unfold Builtin.lenOf;exact TN
@[simp] theorem abU(a:gF)(n:Nat):na (mR a n):=by unfold mR;exact TN
@[simp] theorem adR(a b c:Nat)(d:Option gF)(v:aD):na (n8 a b c d v):=by unfold n8;exact TN
@[simp] theorem ZU(x:RuntimeError):na ((runtimePanic x:Sem α)):=by unfold runtimePanic;exact TN
@[simp] theorem NP(ts:Array cH)(t:cH)(vs:Array aD):na (lO ts t vs):=by unfold lO;exact TN
@[simp] theorem adt(ts:Array cH)(t:cH)(vs:Array aD):na (oF ts t vs):=by unfold oF;exact TN
end
end Cr
section
open Go.RowKit Go.Joins
section
def jI(w:U)(c:Array aD)(t:cH):∃W,W=w.alloc (aG c t)/\Below w.heap.size w W/\W.heap[w.heap.size]? =M (aG c t (0,0)):=
 ⟨_,rfl,(Below.refl _ w).alloc jE _,heap_alloc_new _ _⟩
section
variable {w:U}{b:Nat}{a0 a1 a2 a3 a4 a5 a6 a7:aD}{l:List aD}{t:cH}{f:Nat×Nat}
theorem nT(h:w.heap[b]? =M (aG (a0::l).toArray t f)):w.cell? ⟨b,0,Z⟩=M a0:=by simp[kh h]
theorem cells2(h:w.heap[b]? =M (aG (a0::a1::l).toArray t f)):w.cell? ⟨b,0,Z⟩=M a0/\w.cell? ⟨b,1,Z⟩=M a1:=by simp[kh h]
theorem cells3(h:w.heap[b]? =M (aG (a0::a1::a2::l).toArray t f)):w.cell? ⟨b,0,Z⟩=M a0/\w.cell? ⟨b,1,Z⟩=M a1/\w.cell? ⟨b,2,Z⟩=M a2:=by simp[kh h]
theorem cells4(h:w.heap[b]? =M (aG (a0::a1::a2::a3::l).toArray t f)):w.cell? ⟨b,0,Z⟩=M a0/\w.cell? ⟨b,1,Z⟩=M a1/\w.cell? ⟨b,2,Z⟩=M a2/\w.cell? ⟨b,3,Z⟩=M a3:=by simp[kh h]
theorem cells5(h:w.heap[b]? =M (aG (a0::a1::a2::a3::a4::l).toArray t f)):w.cell? ⟨b,0,Z⟩=M a0/\w.cell? ⟨b,1,Z⟩=M a1/\w.cell? ⟨b,2,Z⟩=M a2/\w.cell? ⟨b,3,Z⟩=M a3/\w.cell? ⟨b,4,Z⟩=M a4:=by simp[kh h]
theorem tX(h:w.heap[b]? =M (aG (a0::a1::a2::a3::a4::a5::l).toArray t f)):w.cell? ⟨b,0,Z⟩=M a0/\w.cell? ⟨b,1,Z⟩=M a1/\w.cell? ⟨b,2,Z⟩=M a2/\w.cell? ⟨b,3,Z⟩=M a3/\w.cell? ⟨b,4,Z⟩=M a4/\w.cell? ⟨b,5,Z⟩=M a5:=by simp[kh h]
theorem JZ(h:w.heap[b]? =M (aG (a0::a1::a2::a3::a4::a5::a6::l).toArray t f)):w.cell? ⟨b,0,Z⟩=M a0/\w.cell? ⟨b,1,Z⟩=M a1/\w.cell? ⟨b,2,Z⟩=M a2/\w.cell? ⟨b,3,Z⟩=M a3/\w.cell? ⟨b,4,Z⟩=M a4/\w.cell? ⟨b,5,Z⟩=M a5/\w.cell? ⟨b,6,Z⟩=M a6:=by simp[kh h]
end
end
end
