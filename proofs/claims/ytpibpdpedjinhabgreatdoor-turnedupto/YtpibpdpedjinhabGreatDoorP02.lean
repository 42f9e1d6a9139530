import Derived.Test.YtpibpdpedjinhabGreatDoorP01
import Derived.Conc.Own5
import Derived.Laws.World
import Derived.Conc.AppendWalk
import Derived.Lib.UnsafeStr
import Derived.Lib.BufferWrite
import Derived.Lib.ConvBytes
import Derived.ArgAppend
import Derived.Lib.SmallJoins
import Derived.Lib.Builder
import Derived.WalkKit
import Derived.AtR
import Derived.RangeFuncIn
set_option maxRecDepth 100000
set_option maxHeartbeats 8000000
set_option linter.all false
open Bool renaming false->aL,true->aR
open Go renaming Addr->eM,Code->eE,Event->jz,Frame->cR,Goroutine->cA,Oper->ij,Operand->jN,Program->cU,TypeId->cG,Value->X,World->U,execOp->bN,stepG->eC,undef->aE
open Go.Builtin renaming append_->jb,copy_->ot,firstCells->oo,holdsCells->mE,lenOf->pv,mayShare->nu
open Go.CallKind renaming early->oc
open Go.Conc renaming Goes->iv,stepG_region_end->aM,stepG_seq->cE
open Go.Conc.Goes renaming cases->oX,stop->cL
open Go.ConcN.RW renaming live->lm,refl->j9
open Go.ConcR renaming Payload->pf,mk->cY
open Go.Frame renaming atR->kA
open Go.FrameMode renaming returning->kz
open Go.GStep renaming after->gC
open Go.GStep.go renaming injEq->oa
open Go.Instr renaming beginRound->nQ,endLoop->nE,endRound->m8,enterLoop->mH,getLoop->kh,takeDeferred->lP
open Go.Item renaming inRegion->bL
open Go.Lib renaming cell_of_heap->eR
open Go.Obj renaming cells->aG,deferred->eI
open Go.Region renaming wanted->cP
open Go.Sem renaming bind->fY,runT->cS,runT_eq->io
open Option renaming none->Z,some->M
namespace Go.Proofs.YtpibpdpedjinhabGreatDoor
namespace Cr
open Go Go.Conc Go.ConcN Go.RowKit Go.Conc.Lib Go.ConcR.Gen Go.ConcN.Gen
open Go.ConcR (KK wgBlock WgAt stA smA rd wr Payload DC0)
section
variable {v:X}{c:cR}{cs:List cR}
section
variable [pf]{P:cU}{ty:cG}{Wg C n i lo:Nat}
def IK(P:cU)(ty:cG)(Wg C n i:Nat)(g:cA)(w:U):Prop:=
 ∃g',(∀z,eC P aL g z=.go g' z #[cY (.releaseMerge (stA Wg))])/\∃m,iv P aL (RW ty Wg C n 0 i) DC0 (λg _=>∃E,∀z,eC P aL g z=.go E z #[cY .disable]) m g' w
def OI:∀{m k:Nat}{g:cA}{w:U},iv P aL (RW ty Wg C n 0 i) DC0 (λg _=>∃E,∀z,eC P aL g z=.go E z #[cY .disable]) m g w->iv P aL (RW ty Wg C n 0 (i+1-1)) (DWs Wg pO pO C n (i+1)) (AtR0 P ty Wg C n 0 (i+1) v) k g w->False:=by
 intro m
 have last:∀{k:Nat}{g:cA}{w:U},(∃E,∀z,eC P aL g z=.go E z #[cY .disable])->iv P aL (RW ty Wg C n 0 (i+1-1)) (DWs Wg pO pO C n (i+1)) (AtR0 P ty Wg C n 0 (i+1) v) k g w->False:=by
  rintro k g w ⟨E,I⟩ hk;obtain hs|⟨k',rfl,hs⟩:=oX hk
  .obtain⟨_,_,g',e,_⟩:=hs w (j9 w);rw[I w]at e;simp only[oa]at e;have:=e.2.2;simp[cY]at this
  .obtain⟨g',w',es,e,⟨_,Y⟩,_⟩:=hs w (j9 w);rw[I w]at e;simp only[oa]at e;obtain⟨_,_,rfl⟩:=e;exact(Y (cY _) aC).2.1 rfl
 induction m with
 |zero=>exact λh hk=>last (h _ (j9 _)) hk
 |succ m ih=>
  intro k g w h hk;obtain h|⟨_,h⟩:=h
  .exact last (h _ (j9 _)) hk
  .have J:=h w (j9 w);cases hg:eC P aL g w with
   |go g' w' es=>
    rw[hg,goes_go]at J;obtain⟨⟨rfl,rfl⟩,J⟩:=J;obtain hs|⟨k',rfl,hs⟩:=oX hk
    .obtain⟨_,_,R,e,_⟩:=hs _ (j9 _)
     grind
    .obtain⟨R,z,aa,e,_,ac⟩:=hs _ (j9 _)
     grind
   |_=>rw[hg]at J;exact J.elim
def follow{Q:Left}{K:kC}:∀{m k:Nat}{g:cA}{w:U},iv P aL (RW ty Wg C n 0 i) DC0 (IK P ty Wg C n i) m g w->iv P aL (RW ty Wg C n 0 (i+1-1)) (DWs Wg pO pO C n (i+1)) (AtR0 P ty Wg C n 0 (i+1) v) k g w->(∀z,RW ty Wg C n 0 i w z->(∀b,K.O b->z.heap[b]? =w.heap[b]?)->Q i v K.O z)->kY P aL ⟨Wg,C,n,ty,lo⟩ (M i) (tC P ⟨Wg,C,n,ty,lo⟩ Q i) K g w:=by
 intro m;have tr:∀a b c,RW ty Wg C n 0 (i+1-1) a b->RW ty Wg C n 0 (i+1-1) b c->RW ty Wg C n 0 (i+1-1) a c:=λ_ _ _ h1 h2=>h1.trans h2
 have last:∀{k:Nat}{g:cA}{w:U},(∀z,RW ty Wg C n 0 i w z->IK P ty Wg C n i g z)->iv P aL (RW ty Wg C n 0 (i+1-1)) (DWs Wg pO pO C n (i+1)) (AtR0 P ty Wg C n 0 (i+1) v) k g w->
   (∀z,RW ty Wg C n 0 i w z->(∀b,K.O b->z.heap[b]? =w.heap[b]?)->Q i v K.O z)->kY P aL ⟨Wg,C,n,ty,lo⟩ (M i) (tC P ⟨Wg,C,n,ty,lo⟩ Q i) K g w:=by
  intro k g w hr hk R;refine kY.stop λz E=>⟨v,?_,R z E.rw E.block⟩
  obtain hs|⟨k',rfl,hs⟩:=oX (hk.rely tr E.rw)
  .exact hs z (j9 z)
  .exfalso;obtain⟨g',Y,m',hd⟩:=hr z E.rw;obtain⟨aj,ah,es,e,_,I⟩:=hs z (j9 z);rw[Y z]at e;simp only[oa]at e;obtain⟨rfl,rfl,rfl⟩:=e;exact OI hd I
 induction m with
 |zero=>exact λh hk R=>last h hk R
 |succ m ih=>
  intro k g w h hk R;obtain h|⟨ae,h⟩:=h
  .exact last h hk R
  .refine kY.step ae λz E=>?_;have J:=h z E.rw;cases hg:eC P aL g z with
   |go g' w' es=>
    rw[hg,goes_go]at J;obtain⟨⟨rfl,rfl⟩,J⟩:=J;refine⟨g',w',_,rfl,.still ..,?_⟩;rw[kR];obtain hs|⟨k',rfl,hs⟩:=oX (hk.rely tr E.rw)
    .obtain⟨_,_,ac,e,_⟩:=hs _ (j9 _)
     grind
    .obtain⟨ac,ah,ai,e,_,I⟩:=hs _ (j9 _);rw[hg]at e;simp only[oa]at e;obtain⟨rfl,rfl,rfl⟩:=e;exact ih J I λag aa hb=>R ag (E.rw.trans aa) λb af=>(hb b af).trans (E.block b af)
   |_=>rw[hg]at J;exact J.elim
variable {L:WgLink}
def aaj(H:WgLib P L)(w:U)(z:WgLive L.tWg Wg w):iv P aL (RW L.tWg Wg C n 0 i) DC0 (IK P L.tWg Wg C n i) 60 (G ((baseD L.done).at ⟨#[.pointer (M ⟨Wg,0,Z⟩),aE,aE,aE],[]⟩ [.code (body_done L)]) (c::cs)) w:=by
 lib_facts
 simp only[body_done,doneFn,fH];u_reg (λh r=>lm r h) z;u_op (λh r=>lm r h) z;u_in (λh r=>lm r h) z;refine goes_call rfl rfl (by k_ne) rfl H.f_add (nm_add L) rfl ⟨by u_nil,?_⟩;walk_nrmf addFn;u_c cE (λh r=>lm r h) z;u_cond aR (λh r=>lm r h) z
 iterate 2 u_c cE (λh r=>lm r h) z
 u_reg (λh r=>lm r h) z
 iterate 2 u_op (λh r=>lm r h) z
 u_c aM (λh r=>lm r h) z;u_cond aR (λh r=>lm r h) z;u_reg (λh r=>lm r h) z;u_op (λh r=>lm r h) z;u_conv H.underlying_tWgP H.room_tWg (WgLive.cell0 z).choose_spec (λh r=>lm r h) z;refine cL (λJ E=>?_);replace z:=E.live z;clear E;refine⟨_,λI=>stepG_markAt _ aC rfl rfl (by k_ne) rfl H.f_relMerge (x_relMerge_n L) (x_relMerge_b L) (x_relMerge_x L) (x_relMerge_f L) (by simp[Act.eval,stA]),10,?_⟩;walk_nrm;u_c aM (λh r=>lm r h) z;u_c cE (λh r=>lm r h) z;u_reg (λh r=>lm r h) z;exact cL (λJ E=>⟨_,λI=>stepG_mark0 _ aC rfl rfl (by k_ne) rfl H.f_disable (x_disable_n L) (x_disable_b L) (x_disable_x L) (x_disable_f L)⟩)
def aa6(H:WgLib P L){Q:Left}{K:kC}{J:Nat}(E:c.mode=kz)(R:QuitsD P J 0 (G c cs))(w:U)(I:WgLive L.tWg Wg w)(Y:Has C i v w)(hQ:∀z,(∀b,K.O b->z.heap[b]? =w.heap[b]?)->Q i v K.O z):kY P aL ⟨Wg,C,n,L.tWg,lo⟩ (M i) (tC P ⟨Wg,C,n,L.tWg,lo⟩ Q i) K (G ((baseD L.done).at ⟨#[.pointer (M ⟨Wg,0,Z⟩),aE,aE,aE],[]⟩ [.code (body_done L)]) (c::cs)) w:=
 follow (aaj H w I) (doneN H (k:=i+1) E R w ⟨I,Y⟩) λz _ hb=>hQ z hb
end
end
open Go Go.Conc Go.ConcN
open Go.ConcR (Payload DC0)
section
variable {id:Nat}{c fr:cR}{fn:Func}{v:X}
section
variable [pf]{P:cU}{S:Who}{m:Nat}{St:kC->cA->U->Prop}{K0:kC}{w0 w:U}{L L':List (Nat×Obj)}{g g':cA}{b:cR}{a:Act}{k:List Item}{cs:List cR}{ops:Array ij}{i:Nat}{rest:List Nat}{o:ij}
def Wc.ctl(hs:g.status=.running)(h:∀w,eC P aL g w=.go g' w #[])(k:Wc P S m St K0 w0 L g'):Wc P S m St K0 w0 L g:=.step hs λw z=>⟨g',w,#[],L,h w,.still z λe E=>by simp at E,k⟩
def Wc.seq{x y:eE}(h:Wc P S m St K0 w0 L (G (b.at a (.code x::.code y::k)) cs)):Wc P S m St K0 w0 L (G (b.at a (.code (.seq x y)::k)) cs):=.ctl rfl (λ_=>cE) h
def Wc.block{c:eE}(h:Wc P S m St K0 w0 L (G (b.at a (.code c::.inBlock id::k)) cs)):Wc P S m St K0 w0 L (G (b.at a (.code (.block id c)::k)) cs):=.ctl rfl (λ_=>stepG_block) h
def Wc.inBlock(h:Wc P S m St K0 w0 L (G (b.at a k) cs)):Wc P S m St K0 w0 L (G (b.at a (.inBlock id::k)) cs):=.ctl rfl (λ_=>stepG_inBlock) h
def Wc.reg(l:List Nat)(z:List.range ops.size=l)(h:Wc P S m St K0 w0 L (G (b.at a (bL ops l::k)) cs)):Wc P S m St K0 w0 L (G (b.at a (.code (.region id ops aL)::k)) cs):=.ctl rfl (λ_=>stepG_region) (by rw[z];exact h)
def Wc.done(h:Wc P S m St K0 w0 L (G (b.at a k) cs)):Wc P S m St K0 w0 L (G (b.at a (bL ops []::k)) cs):=.ctl rfl (λ_=>aM) h
def Wc.ret(h:∀todo,Wc P S m St K0 w0 L (G { b.at a todo with mode:=kz } cs)):Wc P S m St K0 w0 L (G (b.at a (.code .ret::k)) cs):=.ctl rfl (λ_=>stepG_ret') (h _)
def Wc.call{f:FuncId}{c:eE}{args:Array jN}{J:Array cG}(ho:ops[i]? =M o)(hw:cP o (yielded ops a.tmps)=aR)(hk:b.kind≠.early)(R:o.op=.call { callee:=.value (.func f),args,argTypes:=J })(Y:P.funcs[f]? =M fn)(z:(fn.name == "runtime.NumGoroutine")=aL)(hb:fn.body=M c)(h:Wc P S m St K0 w0 L (G ((base f).at { tmps:=args.map a.eval++Array.replicate (fn.ntmps-(args.map a.eval).size) aE,defers:=[] } [.code c]) (b.at a (bL ops (i::rest)::k)::cs))):Wc P S m St K0 w0 L (G (b.at a (bL ops (i::rest)::k)) cs):=
 .go 1 λ_ _ hq=>Goes.step rfl λ_ E=>goes_call ho hw hk R Y z hb ⟨⟨rfl,rfl⟩,cL λ_ I=>Wc.use h ((hq.en E).en I)⟩
def Wc.leave(v:X)(I:fr.mode=kz)(hd:fr.defers=[])(hk:fr.kind=.normal)(J:P.funcs[fr.fn]? =M fn)(E:∀w,Lies L ↑w0 w->(results fn fr.tmps).run P w=.ok v w/\∀e∈(results fn fr.tmps).events P w #[],EvA L ↑w ↑w e)(h:Wc P S m St K0 w0 L (G (c.finish v) cs)):Wc P S m St K0 w0 L (G fr (c::cs)):=
 .step rfl λw z=>⟨_,w,seen P fr.fn ((results fn fr.tmps).events P w #[]),L,by
  have Y:=(E w z).1;simp[G,eC,unwind,doReturn,I,hd,hk,J,Y,gC],.still z λe R=>(E w z).2 e (mem_seen R),h⟩
def Wc.back(v:X)(I:fr.mode=kz)(hd:fr.defers=[])(hk:fr.kind=.normal)(J:P.funcs[fr.fn]? =M fn)(E:ResultsC P fn fr.tmps v)(h:Wc P S m St K0 w0 L (G (c.finish v) cs)):Wc P S m St K0 w0 L (G fr (c::cs)):=
 .leave v I hd hk J (λw _=>⟨(E w).1,λe z=>by rw[(E w).2]at z;simp at z⟩) h
def Wc.zQ{t:Tmp}(z:fr.mode=kz)(hd:fr.defers=[])(hk:fr.kind=.normal)(E:P.funcs[fr.fn]? =M fn)(J:fn.results=#[.tmp t])(I:fr.tmps.getD t aE=v)(h:Wc P S m St K0 w0 L (G (c.finish v) cs)):Wc P S m St K0 w0 L (G fr (c::cs)):=.back v z hd hk E (I ▸ resultsC_tmp J _) h
def Wc.JG{t u:Tmp}{v':X}(E:fr.mode=kz)(hd:fr.defers=[])(hk:fr.kind=.normal)(I:P.funcs[fr.fn]? =M fn)(R:fn.results=#[.tmp t,.tmp u])(J:fr.tmps.getD t aE=v)(z:fr.tmps.getD u aE=v')(h:Wc P S m St K0 w0 L (G (c.finish (.tuple #[v,v'])) cs)):Wc P S m St K0 w0 L (G fr (c::cs)):=.back _ E hd hk I (J ▸ z ▸ resultsC_tmp2 R _) h
end
def TD{w:U}{B j:Nat}{c:Array X}{t:cG}{z:Nat×Nat}(h:w.heap[B]? =M (aG c t z)):w.setCell ⟨B,j,Z⟩ v=w.putObj B (aG (c.setIfInBounds j v) t z):=by
 simp only[World.setCell,World.putObj,Option.isSome_none,bU,if_false]
 congr 1
 grind
end
end Cr
namespace Cr
open Go Go.Conc
variable {es:Array jz}
def na{α:Type}:Sem α->Prop
 |.pure _|.halt _=>True
 |.load m _ k=>m=.plain/\∀v,na (k v)
 |.store m _ _ k=>m=.plain/\na k
 |.new _ k=>∀x,na (k x)
 |.shape _ k=>∀x,na (k x)
 |.freeze _ _ k=>na k
 |.frozen _ k=>∀x,na (k x)
 |.getObj _ k=>∀x,na (k x)
 |.setObj _ _ k=>na k
 |.choose _ k=>∀x,na (k x)
 |.sys _ k=>∀x,na (k x)
 |.program k=>∀x,na (k x)
 |.mark _ k=>na k
def pl(e:jz):Prop:=∀a,e.loc=.cell a->e.sync=aL
section
variable {α β:Type}{P:cU}{s:Sem α}
def nB{f:α->Sem β}(h:na s)(E:∀a,na (f a)):na (s >>= f):=by
 show na (s.bind f)
 induction s with
 |pure a=>exact E a
 |halt x=>trivial
 |load m a k z=>exact⟨h.1,λv=>z v (h.2 v)⟩
 |store m a v k z=>exact⟨h.1,z h.2⟩
 |freeze a n k z=>exact z h
 |setObj r o k z=>exact z h
 |mark m k z=>exact z h
 |_=>rename_i z;exact λx=>z x (h x)
def uO{e:jz}(h:∀e∈es,pl e)(z:pl e):∀x∈es.push e,pl x:=λx E=>(Array.mem_push.1 E).elim (h x) λk=>k ▸ z
def Xq{l:List eM}{wr:Bool}(h:∀e∈es,pl e):∀x∈es++l.toArray.map (⟨.cell ·,wr,aL⟩),pl x:=λx z=>(Array.mem_append.1 z).elim (h x) λk a _=>by
 obtain⟨y,_,rfl⟩:=Array.mem_map.1 k;rfl
def aeO(h:na s):∀(w:U)(es:Array jz),(∀e∈es,pl e)->∀e∈(s.runT P w es).2,pl e:=by
 induction s with
 |pure a=>exact λw es z=>z
 |halt x=>exact λw es z=>z
 |load m a k ih=>
  obtain⟨rfl,h⟩:=h;intro w es z;simp only[cS];split
  .exact ih _ (h _) _ _ (uO z λ_ _=>rfl)
  .split
   .exact ih _ (h _) _ _ (Xq z)
   .exact z
 |store m a v k ih=>
  obtain⟨rfl,h⟩:=h;intro w es z
  have key:∀e∈((match w.cell? a with
   |some _=>if w.frozen? a then(.halt (.unsupported (.unsafePointer "a write to bytes that a string shares")) w,es)else k.runT P (w.setCell a v) (es.push ⟨.cell a,aR,Mode.plain == .atomic⟩)
   |none=>match w.farStore P a v (Mode.plain == .atomic)with
    |.ok (w,touched)=>k.runT P w (es++touched.toArray.map (⟨.cell ·,aR,Mode.plain == .atomic⟩))
    |.error h=>(.halt h w,es)):Result α×Array jz).2,pl e:=by
   split
   .split
    .exact z
    .exact ih h _ _ (uO z λ_ _=>rfl)
   .split
    .exact ih h _ _ (Xq z)
    .exact z
  cases v<;>first|exact key|exact z
 |new o k ih=>exact λw es z=>ih _ (h _) _ _ z
 |shape r k ih=>exact λw es z=>ih _ (h _) _ _ z
 |freeze a n k ih=>exact λw es z=>ih h _ _ z
 |frozen a k ih=>exact λw es z=>ih _ (h _) _ _ z
 |getObj r k ih=>
  intro w es z;simp only[cS];split
  .exact z
  .exact ih _ (h _) _ _ (uO z λ_ k=>by cases k)
  .exact z
 |setObj r o k ih=>
  intro w es z;simp only[cS];split
  .exact z
  .exact ih h _ _ (uO z λ_ k=>by cases k)
  .exact z
 |choose q k ih=>
  intro w es z;simp only[cS];split
  .exact ih _ (h _) _ _ z
  .exact ih _ (h _) _ _ z
 |sys c k ih=>exact λw es z=>ih _ (h _) _ _ (uO z λ_ k=>by cases k)
 |program k ih=>exact λw es z=>ih _ (h _) _ _ z
 |mark m k ih=>exact λw es z=>ih h _ _ (uO z λ_ k=>by cases k)
def nP{a:α}:na (pure a:Sem α):=trivial
def nH{h:Halt}:na (.halt h:Sem α):=trivial
def nI{c:Prop}[Decidable c]{t:Sem α}(h:na s)(ht:na t):na (if c then s else t):=by split<;>assumption
def TN{p:Prop}(h:p:=by repeat' first|with_reducible exact nP|with_reducible refine nB ?_ λ_=>?_|with_reducible refine nI ?_ ?_|exact nH|split|(simp;done)|dsimp only):p:=h
@[simp] def adR(t:cG):na (typeInfo t):=by unfold typeInfo;exact nB (λ_=>trivial) λ_=>by split<;>trivial
@[simp] def abB(t:cG):na (underlying t):=by unfold underlying;exact nB (λ_=>trivial) λ_=>by split<;>trivial
@[simp] def adt{a:eM}:na (load a):=⟨rfl,λ_=>trivial⟩
@[simp] def aaE{a:eM}{v:X}:na (store a v):=⟨rfl,trivial⟩
@[simp] def afP(q:Question):na (choose q):=λ_=>trivial
@[simp] def ahn(o:Obj):na (newObj o):=λ_=>trivial
@[simp] def agq(r:Nat):na (shape r):=λ_=>trivial
@[simp] def afZ(a:eM):na (frozen a):=λ_=>trivial
@[simp] def agZ(m:Mark):na (mark m):=trivial
@[simp] def PG(a:eM):∀(n i:Nat)(acc:Array X),na (loadCellsFrom a i n acc)
 |0,_,_=>trivial
 |n+1,_,_=>nB (adt) λ_=>PG a n _ _
@[simp] def IG(a:eM):∀(vs:List X)(i:Nat),na (storeCells a vs i)
 |[],_=>trivial
 |_::vs,_=>nB (aaE) λ_=>IG a vs _
@[simp] def aex:na program:=λ_=>trivial
@[simp] def aen(v:X):na (asIntOf v):=by unfold asIntOf;exact TN
@[simp] def agp(v:X):na (asInt v):=by unfold asInt;exact TN
@[simp] def afM(t:cG):na (elemOf t):=by unfold elemOf;exact TN
@[simp] def acd(t:cG):na (zeroValue t):=by unfold zeroValue;exact TN
@[simp] def afA(t:cG):na (sizeOf t):=by unfold sizeOf;exact TN
@[simp] def afW(t:cG)(c:Array X):na (newRow t c):=by unfold newRow;exact TN
@[simp] def afd(t:cG)(v:X):na (newVar t v):=by unfold newVar;exact TN
@[simp] def aek(n:Nat):na (askRoom n):=by unfold askRoom;exact TN
@[simp] def abL(a:eM)(n:Nat):na (loadCells a n):=by unfold loadCells;exact TN
@[simp] def aas(a n:Nat)(v:X):na (oo a n v):=by unfold oo;exact TN
@[simp] def agv(v:X):na (pv v):=by unfold pv;exact TN
@[simp] def aa7(a:eM)(n:Nat):na (mE a n):=by unfold mE;exact TN
@[simp] def adw(a b c:Nat)(d:Option eM)(v:X):na (nu a b c d v):=by unfold nu;exact TN
@[simp] def Y6(x:RuntimeError):na ((runtimePanic x:Sem α)):=by unfold runtimePanic;exact TN
@[simp] def Mc{ts:Array cG}{t:cG}{vs:Array X}:na (jb ts t vs):=by unfold jb;exact TN
@[simp] def acT{ts:Array cG}{t:cG}{vs:Array X}:na (ot ts t vs):=by unfold ot;exact TN
end
end Cr
section
open Go.RowKit Go.Joins
section
def jD(w:U)(c:Array X)(t:cG):∃W,W=w.alloc (aG c t)/\Below ↑w w W/\W.heap[w.heap.size]? =M (aG c t (0,0)):=
 ⟨_,rfl,(Below.refl _ w).alloc jB _,heap_alloc_new _ _⟩
section
variable {w:U}{b:Nat}{a0 a1 a2 a3 a4 a5 a6 a7:X}{l:List X}{t:cG}{f:Nat×Nat}
def kJ(h:w.heap[b]? =M (aG (a0::l).toArray t f)):w.cell? ⟨b,0,Z⟩=M a0:=by simp[eR h]
def cells2(h:w.heap[b]? =M (aG (a0::a1::l).toArray t f)):w.cell? ⟨b,0,Z⟩=M a0/\w.cell? ⟨b,1,Z⟩=M a1:=by simp[eR h]
def cells3(h:w.heap[b]? =M (aG (a0::a1::a2::l).toArray t f)):w.cell? ⟨b,0,Z⟩=M a0/\w.cell? ⟨b,1,Z⟩=M a1/\w.cell? ⟨b,2,Z⟩=M a2:=by simp[eR h]
def cells4(h:w.heap[b]? =M (aG (a0::a1::a2::a3::l).toArray t f)):w.cell? ⟨b,0,Z⟩=M a0/\w.cell? ⟨b,1,Z⟩=M a1/\w.cell? ⟨b,2,Z⟩=M a2/\w.cell? ⟨b,3,Z⟩=M a3:=by simp[eR h]
def cells5(h:w.heap[b]? =M (aG (a0::a1::a2::a3::a4::l).toArray t f)):w.cell? ⟨b,0,Z⟩=M a0/\w.cell? ⟨b,1,Z⟩=M a1/\w.cell? ⟨b,2,Z⟩=M a2/\w.cell? ⟨b,3,Z⟩=M a3/\w.cell? ⟨b,4,Z⟩=M a4:=by simp[eR h]
def Xk(h:w.heap[b]? =M (aG (a0::a1::a2::a3::a4::a5::l).toArray t f)):w.cell? ⟨b,0,Z⟩=M a0/\w.cell? ⟨b,1,Z⟩=M a1/\w.cell? ⟨b,2,Z⟩=M a2/\w.cell? ⟨b,3,Z⟩=M a3/\w.cell? ⟨b,4,Z⟩=M a4/\w.cell? ⟨b,5,Z⟩=M a5:=by simp[eR h]
def Dn(h:w.heap[b]? =M (aG (a0::a1::a2::a3::a4::a5::a6::l).toArray t f)):w.cell? ⟨b,0,Z⟩=M a0/\w.cell? ⟨b,1,Z⟩=M a1/\w.cell? ⟨b,2,Z⟩=M a2/\w.cell? ⟨b,3,Z⟩=M a3/\w.cell? ⟨b,4,Z⟩=M a4/\w.cell? ⟨b,5,Z⟩=M a5/\w.cell? ⟨b,6,Z⟩=M a6:=by simp[eR h]
end
end
end
namespace Cr
open Go Go.Conc Go.ConcN
open Go.ConcR (Payload DC0)
section
variable {id j l:Nat}{r:Loop}
section
variable {P:cU}{main:Bool}{b:cR}{a:Act}{k:List Item}{cs:List cR}{w w':U}{ops:Array ij}{i:Nat}{rest:List Nat}{o:ij}
def zX(ho:ops[i]? =M o)(hw:cP o (yielded ops a.tmps)=aR)(hd:∀c,o.op≠.defer c):eC P main (G (b.atR a (bL ops (i::rest)::k)) cs) w=stepG.apply P aR (b.atR a (bL ops (i::rest)::k)) cs Z (bN a.eval o) w:=by
 have z:=Frame.eval_atR b a (bL ops (i::rest)::k);simp only[kA]at z;simp only[G,eC,stepG.exec,stepG.oper,Frame.oper?,kA,ho,hw,cO,fH,if_true,z]
 grind
def finish_atR(v:X)(ho:ops[i]? =M o):(b.atR a (bL ops (i::rest)::k)).finish v=b.atR (a.put o.dst v) (bL ops rest::k):=by
 cases h:o.dst<;>simp[Frame.finish,kA,ho,Act.put,h]
def MX{v:X}(ho:ops[i]? =M o)(hw:cP o (yielded ops a.tmps)=aR)(hk:b.kind≠.early)(hd:∀c,o.op≠.defer c)(E:(bN a.eval o).run P w=.ok (.value v) w'):eC P main (G (b.atR a (bL ops (i::rest)::k)) cs) w=.go (G (b.atR (a.put o.dst v) (bL ops rest::k)) cs) w' (listed P b.fn a o w):=by
 have z:(b.kind == oc)=aL:=by simpa using hk
 rw[zX ho hw hd,<-finish_atR v ho];simp[stepG.apply,io,E,z,kA,listed,gC,G]
def OA(ho:ops[i]? =M o)(hw:cP o (yielded ops a.tmps)=aR)(hk:b.kind≠.early)(hd:∀c,o.op≠.defer c)(E:(bN a.eval o).run P w=.ok .skip w'):eC P main (G (b.atR a (bL ops (i::rest)::k)) cs) w=.go (G (b.atR (a.put o.dst aE) (bL ops rest::k)) cs) w' (listed P b.fn a o w):=by
 have z:(b.kind == oc)=aL:=by simpa using hk
 rw[zX ho hw hd,<-finish_atR aE ho];simp[stepG.apply,io,E,z,kA,listed,gC,G]
end
section
variable [pf]{P:cU}{S:Who}{m:Nat}{St:kC->cA->U->Prop}{K0:kC}{w0:U}{L L':List (Nat×Obj)}{b:cR}{a:Act}{k:List Item}{cs:List cR}{ops:Array ij}{i:Nat}{rest:List Nat}{o:ij}
def Wc.aft{x y:eE}(h:Wc P S m St K0 w0 L (G (b.atR a (.code x::.code y::k)) cs)):Wc P S m St K0 w0 L (G (b.atR a (.code (.seq x y)::k)) cs):=.ctl rfl (λ_=>by simp[G,eC,stepG.exec,kA]) h
def Wc.acF{c:eE}(h:Wc P S m St K0 w0 L (G (b.atR a (.code c::.inBlock id::k)) cs)):Wc P S m St K0 w0 L (G (b.atR a (.code (.block id c)::k)) cs):=.ctl rfl (λ_=>by simp[G,eC,stepG.exec,kA]) h
def Wc.VY(h:Wc P S m St K0 w0 L (G (b.atR a k) cs)):Wc P S m St K0 w0 L (G (b.atR a (.inBlock id::k)) cs):=.ctl rfl (λ_=>by simp[G,eC,stepG.exec,kA]) h
def Wc.aaP(l:List Nat)(z:List.range ops.size=l)(h:Wc P S m St K0 w0 L (G (b.atR a (bL ops l::k)) cs)):Wc P S m St K0 w0 L (G (b.atR a (.code (.region id ops aL)::k)) cs):=.ctl (g':=G (b.atR a (bL ops l::k)) cs) rfl (λ_=>by simp[G,eC,stepG.exec,kA,z]) h
def Wc.Sj(h:Wc P S m St K0 w0 L (G (b.atR a k) cs)):Wc P S m St K0 w0 L (G (b.atR a (bL ops []::k)) cs):=.ctl rfl (λ_=>by simp[G,eC,stepG.exec,kA]) h
def Wc.opR(ho:ops[i]? =M o)(hw:cP o (yielded ops a.tmps)=aR)(hk:b.kind≠.early)(hd:∀c,o.op≠.defer c)(h:∀w,Lies L ↑w0 w->∃v w' L',((bN a.eval o).run P w=.ok (.value v) w'\/(bN a.eval o).run P w=.ok .skip w'/\v=aE)/\Turn L L' w w' (listed P b.fn a o w)/\Wc P S m St K0 w0 L' (G (b.atR (a.put o.dst v) (bL ops rest::k)) cs)):Wc P S m St K0 w0 L (G (b.atR a (bL ops (i::rest)::k)) cs):=
 .step rfl λw I=>by
  obtain⟨v,w',L',z,ht,E⟩:=h w I;obtain z|⟨z,rfl⟩:=z
  .exact⟨_,w',_,L',MX ho hw hk hd z,ht,E⟩
  .exact⟨_,w',_,L',OA ho hw hk hd z,ht,E⟩
omit [Payload] in
def Eo{r X1 E:Nat}{ob:Obj}{es:Array jz}(h:L[j]? =M (r,ob))(z:∀e∈es,e.loc=.obj r/\e.sync=aL):∀e∈es,EvA L X1 E e:=λe k=>by
 obtain⟨J,wr,R⟩:=e;obtain⟨I,h2⟩:=z _ k;cases I;cases h2;exact .inr (.inl ⟨r,wr,rfl,.inl ⟨_,aX h,rfl⟩⟩)
omit [Payload] in
def oG{w:U}{p:Nat×Obj}(h:Lies L ↑w0 w)(z:L[j]? =M p):w.heap[p.1]? =M p.2:=(h.mem p (aX z)).2
def Wc.begin(I:L[j]? =M (l,.loop r))(hr:r.state=.ready)(R:b.roundOf=M l)(hk:b.kind≠.early)(h:Wc P S m St K0 w0 (L.set j (l,.loop { r with state:=.busy })) (G (b.atR a k) cs)):Wc P S m St K0 w0 L (G (b.atR a (.beginRound::k)) cs):=
 .step rfl λw Y=>by
  have z:=oG Y I;have h2:=run_beginRound (P:=P) (w:=w) z hr;have E:(b.kind == oc)=aL:=by simpa using hk
  refine⟨_,_,seen P b.fn ((nQ l).events P w #[]),_,?_,.put Y I λe J=>Eo I ?_ e (mem_seen J),h⟩
  .simp[G,eC,stepG.exec,stepG.apply,kA,R,io,h2,E,gC,Frame.finish]
  .have z:w.heap[l]? =M (.loop r):=z;intro e J;simp[-io,Sem.events,nQ,kh,getObj,setObj,bind,fY,pure,cS,z,hr,Obj.isChan]at J
   grind
def Wc.ag5{c:cR}(I:L[j]? =M (l,.loop r))(J:b.roundOf=M l)(hk:b.kind=.normal)(h:Wc P S m St K0 w0 (L.set j (l,.loop { r with state:=.ready,pending:=Z })) (G (c.finish (.bool aR)) cs)):Wc P S m St K0 w0 L (G (b.atR a []) (c::cs)):=
 .step rfl λw R=>by
  have z:=oG R I;have h2:=run_endRound (P:=P) (w:=w) Z z;refine⟨_,_,seen P b.fn ((m8 l Z).events P w #[]),_,?_,.put R I λe E=>Eo I ?_ e (mem_seen E),h⟩
  .simp[G,eC,stepG.exec,kA,J,io,h2,doReturn,hk,gC]
  .have z:w.heap[l]? =M (.loop r):=z;intro e E;simp[-io,Sem.events,m8,kh,getObj,setObj,bind,fY,pure,cS,z,Obj.isChan]at E
   grind
def Wc.over(I:L[j]? =M (l,.loop r))(R:r.state≠.busy)(hp:r.pending=Z)(h:Wc P S m St K0 w0 (L.set j (l,.loop { r with state:=.exhausted })) (G (b.at a k) cs)):Wc P S m St K0 w0 L (G (b.at a (.endRangeFunc l::k)) cs):=
 .step rfl λw J=>by
  have z:=oG J I;have h2:=run_endLoop (P:=P) (w:=w) z R;rw[hp]at h2;refine⟨_,_,seen P b.fn ((nE l).events P w #[]),_,?_,.put J I λe E=>Eo I ?_ e (mem_seen E),h⟩
  .simp[G,eC,stepG.exec,Frame.at,io,h2,hp,gC]
  .have z:w.heap[l]? =M (.loop r):=z;intro e E;simp[-io,Sem.events,nE,kh,getObj,setObj,bind,fY,pure,cS,z,R,Obj.isChan]at E
   grind
def Wc.takes{d:Nat}{fr:cR}{ds:List Deferred}(E:L[j]? =M (d,eI (M [])))(R:fr.mode=kz)(hd:fr.defers={ target:=.collected d,args:=#[] }::ds)(h:Wc P S m St K0 w0 (L.set j (d,eI Z)) (G { fr with defers:=ds } cs)):Wc P S m St K0 w0 L (G fr cs):=
 .step rfl λw J=>by
  have z:=oG J E;have h2:=run_takeDeferred (P:=P) (w:=w) z;refine⟨_,_,seen P fr.fn ((lP d).events P w #[]),_,?_,.put J E λe I=>Eo E ?_ e (mem_seen I),h⟩
  .simp[G,eC,unwind,R,hd,io,h2,gC]
  .have z:w.heap[d]? =M (eI (M [])):=z;intro e I;simp[-io,Sem.events,lP,getObj,setObj,bind,fY,pure,cS,z,Obj.isChan]at I
   grind
def Wc.yield{y:jN}{xs:Array jN}{Y:Array cG}(hj:L[j]? =M (l,.loop r))(ho:ops[i]? =M o)(hw:cP o (yielded ops a.tmps)=aR)(hk:b.kind≠.early)(J:o.op=.call { callee:=.value y,args:=xs,argTypes:=Y })(hy:a.eval y=.func (.yield l) #[] #[])(hs:xs.size=r.params.size)(h:Wc P S m St K0 w0 L (G (Frame.round l r.fn ((r.params.zip (xs.map a.eval)).foldl (λtmps (t,a)=>tmps.setIfInBounds t a) r.tmps) r.assign r.body .normal) (b.at a (bL ops (i::rest)::k)::cs))):Wc P S m St K0 w0 L (G (b.at a (bL ops (i::rest)::k)) cs):=
 .step rfl λw hl=>by
  have E:=oG hl hj;have h2:=run_yield (P:=P) (w:=w) (args:=xs.map a.eval) E (by simpa using hs);have R:(b.kind == oc)=aL:=by simpa using hk
  have z:bN a.eval o=Instr.yield l (xs.map a.eval):=by
   unfold bN;simp only[J,resolve,hy];simp[Deferred.ofValue,invoke]
  refine⟨_,w,listed P b.fn a o w,L,?_,.still hl λe I=>Eo hj ?_ e (mem_listed I),h⟩
  .rw[stepG_oper ho hw];simp[stepG.apply,z,io,h2,R,Frame.at,listed,gC,G]
  .have E:w.heap[l]? =M (.loop r):=E;intro e I;rw[z]at I;have aa:¬(xs.map a.eval).size≠r.params.size:=by simpa using hs
   simp[-io,Sem.events,Instr.yield,kh,getObj,bind,fY,pure,cS,E,hs,Obj.isChan]at I
   grind
def Wc.range{t:Tmp}{ps:Array Tmp}{assign body:eE}{f:FuncId}{fn:Func}{c:eE}{cap:Array X}(hg:a.tmps[t]? =M (.func (.func f) #[] cap))(hf:P.funcs[f]? =M fn)(I:(fn.name == "runtime.NumGoroutine")=aL)(hb:fn.body=M c)(h:∀n,Wc P S m St K0 w0 ((n+1,.loop { state:=.ready,pending:=Z,fn:=b.fn,tmps:=a.tmps,params:=ps,assign,body,defers:=n })::(n,eI (M []))::L) (G ((base f).at { tmps:=#[.func (.yield (n+1)) #[] #[]]++cap++Array.replicate (fn.ntmps-(#[.func (.yield (n+1)) #[] #[]]++cap:Array X).size) aE,defers:=[] } [.code c]) (b.at { a with defers:={ target:=.collected n,args:=#[] }::a.defers } (.inRangeFunc (n+1)::k)::cs))):Wc P S m St K0 w0 L (G (b.at a (.code (.rangeFunc (.tmp t) ps assign body)::k)) cs):=
 .step rfl λw R=>by
  obtain⟨z,h1⟩:∃z,z=Obj.deferred (M []):=⟨_,rfl⟩
  obtain⟨E,h2⟩:∃E,E=Obj.loop { state:=.ready,pending:=Z,fn:=b.fn,tmps:=a.tmps,params:=ps,assign,body,defers:=w.heap.size }:=⟨_,rfl⟩
  have hz:((w.alloc z).alloc E).heap.size=w.heap.size+2:=aC
  have hold:∀x,x<w.heap.size->((w.alloc z).alloc E).heap[x]? =w.heap[x]?:=λx hx=>by
   show((w.heap.push z).push E)[x]? =w.heap[x]?
   grind
  have Y:((w.alloc z).alloc E).heap[w.heap.size]? =M z:=by
   show((w.heap.push z).push E)[w.heap.size]? =M z
   rw[Array.getElem?_push_lt aC];simp
  have ac:((w.alloc z).alloc E).heap[w.heap.size+1]? =M E:=by
   have:=World.alloc_heap_new (w.alloc z) E;simpa using this
  refine⟨_,(w.alloc z).alloc E,#[],_,?_,⟨rfl,rfl,rfl,aA,λx hx _=>hold x hx,λp hp=>?_,?_,λe he=>by simp at he⟩,h ↑w⟩
  .have he:=run_enterLoop_outer (P:=P) (w:=w) b.fn a.tmps ps assign body;have aa:(mH b.fn a.tmps ps assign body Z).events P w #[]=#[]:=by simp[-io,Sem.events,mH,newObj,bind,fY,pure,cS]
   have k1:¬fn.name= "runtime.NumGoroutine":=by simpa using I
   have J:=Frame.eval_at' b { a with defers:={ target:=.collected ↑w,args:=#[] }::a.defers } (.inRangeFunc (w.heap.size+1)::k);simp only[Frame.at]at J;simp[G,eC,stepG.exec,Frame.at,io,he,aa,stepG.apply,resolve,J,hg,Act.eval,Deferred.ofValue,invoke,callFunc,hf,k1,hb,Frame.enter,base,gC,seen,h1,h2]
  .obtain rfl|hp:=dD.1 hp
   .exact⟨.inr ⟨aC,by simp only;omega⟩,by rw[<-h2];exact ac⟩
   obtain rfl|hp:=dD.1 hp
   .exact⟨.inr ⟨jB,by simp only;omega⟩,by rw[<-h1];exact Y⟩
   .exact⟨.inl ⟨p,hp,rfl⟩,(hold _ (R.lt hp)).trans (R.mem p hp).2⟩
  .refine List.pairwise_cons.2 ⟨λp hp=>?_,List.pairwise_cons.2 ⟨λp hp=>iM (R.lt hp),R.ord⟩⟩;obtain rfl|hp:=dD.1 hp
   .omega
   .exact iM (Nat.lt_succ_of_lt (R.lt hp))
end
end
end Cr
