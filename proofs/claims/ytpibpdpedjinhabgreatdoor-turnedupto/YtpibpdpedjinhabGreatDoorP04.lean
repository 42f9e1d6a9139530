import Derived.Test.YtpibpdpedjinhabGreatDoorP03
import Derived.Laws.Sem
set_option maxRecDepth 100000
set_option linter.all false
open Bool renaming false->aL,true->aR
open Go renaming Addr->eM,Code->eE,Event->jz,FloatKind->ky,Frame->cR,Func->pZ,FuncId->ph,IntKind->ki,Item->pS,MapEntry->gR,Operand->jN,Program->cU,TypeId->cG,Value->X,World->U,callFunc->iA,execOp->bN,stepG->eC
open Go.Builtin renaming append_->jb,copy_->ot,delete_->kv,firstCells->oo,holdsCells->mE,lenOf->pv,len_->mw,mayShare->nu,unsafeString_->nW
open Go.Deferred renaming ofValue->km
open Go.Frame renaming enter->iS
open Go.GStep renaming after->gC
open Go.Instr renaming beginRound->nQ,buildSlice->lL,endLoop->nE,endRound->m8,enterLoop->mH,getLoop->kh,index->mb,indexAt->nF,keyThatStays->oY,mapUpdate->ol,slice->lA,sliceBounds->nw,takeDeferred->lP
open Go.Op renaming equalIn->pj
open Go.Sem renaming bind->fY,runT->cS
open Option renaming none->Z,some->M
open Or renaming inl->bE,inr->cD
namespace Go.Proofs.YtpibpdpedjinhabGreatDoor
namespace Po
open Go
section
section
variable {e:Env}{α β γ σ:Type}
@[simp] def aep(t:cG):Rb e (typeInfo t):=PR rfl TB
@[simp] def lG(t:cG):Rb e (underlying t):=PR rfl TB
@[simp] def ae8(q:Question):Rb e (choose q):=jU q
@[simp] def agO(a:eM):Rb e (load a):=Iw a
@[simp] def af0(a:eM):Rb e (frozen a):=TT a
@[simp] def WU{r:Nat}:Rb e (viewAt r):=U4 r
@[simp] def aeb(r:Nat):Rb e (numberAt r):=J8 r
@[simp] def UQ{r:Nat}:Rb e (cellsIn r):=Pn r
@[simp] def ads(a b:eM):Rb e (mayBeOne a b):=J5 a b
def Qy{f:γ->σ->Sem (ForInStep σ)}(h:∀x s,Rb e (f x s)):∀(l:List γ)(s:σ),Rb e (forIn l s f):=by
 intro l
 induction l with
 |nil=>intro s;exact X2 _
 |cons x l ih=>
  intro s;rw[List.forIn_cons];refine B (h x s) λa=>?_;cases a
  .exact X2 _
  .exact ih _
def xU{f:γ->σ->Sem (ForInStep σ)}(h:∀x s,Rb e (f x s)){l:Array γ}{s:σ}:Rb e (forIn l s f):=by rw[<-Array.forIn_toList];exact Qy h _ s
def Dt{f:Nat->σ->Sem (ForInStep σ)}(h:∀x s,Rb e (f x s))(n:Nat)(s:σ):Rb e (forIn [:n] s f):=by rw[Std.Legacy.Range.forIn_eq_forIn_range'];exact Qy h _ s
def aaD{f:γ->Sem α}(h:∀x,Rb e (f x)){l:List γ}:Rb e (l.mapM f):=by
 induction l with
 |nil=>exact X2 _
 |cons x l ih=>
  rw[List.mapM_cons];exact B (h x) λ_=>B ih λ_=>X2 _
def Ya{f:γ->Sem α}(h:∀x,Rb e (f x)){xs:Array γ}:Rb e (xs.mapM f):=by rw[Array.mapM_eq_mapM_toList];exact B (aaD h) λ_=>X2 _
def Es{f:X->X->Sem X}(h:∀x y,Rb e (f x y)):∀(l:List X)(x:X),Rb e (l.foldlM f x)
 |[],_=>X2 _
 |y::l,x=>by rw[List.foldlM_cons];exact B (h x y) λ_=>Es h l _
@[simp] def abP(t:cG):Rb e (zeroValue t):=by unfold zeroValue;exact TB
@[simp] def rM{t:cG}:Rb e (sizeOf t):=by unfold sizeOf;exact TB
@[simp] def ags(t:cG):Rb e (isAgg t):=by unfold isAgg;exact TB
@[simp] def aeB(t:cG):Rb e (typeStr t):=by unfold typeStr;exact TB
@[simp] def Yr{t:cG}:Rb e (elemOf t):=by unfold elemOf;exact TB
@[simp] def Qo(a:eM):∀(n i:Nat)(acc:Array X),Rb e (loadCellsFrom a i n acc)
 |0,_,_=>X2 _
 |n+1,_,_=>B (Iw _) λ_=>Qo a n _ _
@[simp] def Jo(a:eM):∀(vs:List X)(i:Nat),Rb e (storeCells a vs i)
 |[],_=>X2 _
 |_::vs,_=>B (YC) λ_=>Jo a vs _
@[simp] def zD{a:eM}{n:Nat}:Rb e (loadCells a n):=by unfold loadCells;exact TB
@[simp] def UE{t:cG}{a:eM}:Rb e (loadVar t a):=by unfold loadVar;exact TB
@[simp] def acJ(t:cG)(a:eM)(v:X):Rb e (storeVar t a v):=by unfold storeVar;exact TB
def NR{t:cG}{c:Array X}{k:eM->Sem α}(hk:∀a,¬e.D a.block->Rb e (k a)):Rb e (newRow t c >>= k):=
 NB (k:=λr=>k ⟨r,0,Z⟩) trivial λ_ z=>hk _ z
@[simp] def Y8{t:cG}{c:Array X}:Rb e (newRow t c):=NR (k:=λa=>pure a) λ_ _=>X2 _
@[simp] def aeT(t:cG)(v:X):Rb e (newVar t v):=Y8
@[simp] def rC{t:cG}{c:Array X}{o:Nat}:Rb e (part t c o):=by unfold part;exact TB
@[simp] def nC(x:RuntimeError):Rb e (runtimePanic x:Sem α):=by unfold runtimePanic;refine PR (by cases x<;>rfl) ?_;cases x<;>exact TB
@[simp] def Zd(k:ki)(x y:Int)(c:BoundsCode):Rb e (boundsPanic k x y c:Sem α):=by unfold boundsPanic;exact TB
@[simp] def aej(v:X):Rb e (asIntOf v):=by unfold asIntOf;exact TB
@[simp] def aeX(v:X):Rb e (asBool v):=by unfold asBool;exact TB
@[simp] def agt(v:X):Rb e (asAgg v):=by unfold asAgg;exact TB
@[simp] def YH{v:X}:Rb e (asAddr v):=by unfold asAddr;exact TB
@[simp] def Rf(v:X):Rb e (asInt v):=by unfold asInt;exact TB
@[simp] def adV(v:X):Rb e (Instr.sureAddr v):=by unfold Instr.sureAddr;exact TB
@[simp] def afU(t:cG)(v:X):Rb e (Instr.loadAt t v):=by unfold Instr.loadAt;exact TB
@[simp] def aeG(t:cG)(v u:X):Rb e (Instr.storeAt t v u):=by unfold Instr.storeAt;exact TB
@[simp] def XU(a:eM):Rb e (noView a):=by unfold noView;exact TB
end
end
section
section
variable {e:Env}{α β γ σ:Type}
@[simp] def afz(a:eM):Rb e (byteOf a):=by
 unfold byteOf;split
 .exact X2 _
 refine PR (by simp only[qp e.T e.G e.F];rfl) (B (XU a) λ_=>SH (λo=>?_) λ_=>⟨_,rfl,λ_=>rfl⟩);exact TB
@[simp] def afH(a:eM)(c b:Nat):Rb e (partAt a c b):=by unfold partAt;exact TB
@[simp] def aan(a:eM)(f:Field):Rb e (fieldPlace a f):=by unfold fieldPlace;exact TB
@[simp] def aeD(s:cG)(v:X)(f:Nat):Rb e (Instr.fieldAt s v f):=by unfold Instr.fieldAt;exact TB
@[simp] def aew(t:cG)(x i:X):Rb e (nF t x i):=by unfold nF;exact TB
@[simp] def abC(x:X)(y:Nat)(c:BoundsCode):Rb e (Instr.sliceBound x y c):=by unfold Instr.sliceBound;exact TB
@[simp] def Zj(b:Bool)(l c:Nat)(x y z:Option X):Rb e (nw b l c x y z):=by unfold nw;exact TB
@[simp] def agl(t:cG)(v:X)(x y z:Option X):Rb e (lA t v x y z):=by unfold lA;exact TB
@[simp] def aeA(t:cG)(v:X)(x y z:Option X):Rb e (Instr.sliceAt t v x y z):=by unfold Instr.sliceAt;exact TB
@[simp] def agj(t:cG)(b:Bool)(v:X):Rb e (Instr.alloc t b v):=by unfold Instr.alloc;exact TB
@[simp] def ahr(t:cG)(v:X):Rb e (Instr.box t v):=by unfold Instr.box;exact TB
def IY{fs:Array Field}:Rb e (fs.mapM λf=>do pure (f.offset,<-sizeOf f.type)):=Ya (λ_=>B (rM) λ_=>X2 _)
@[simp] def agc(t:cG)(ps:Array (Nat×X)):Rb e (Instr.build t ps):=by
 unfold Instr.build
 repeat' first|exact IY|with_reducible exact X2 _|with_reducible refine B ?_ λ_=>?_|with_reducible refine IT ?_ ?_|exact H _|split|(simp;done)|dsimp only|exact B (jU _) λ_=>X2 _
@[simp] def abA(t:cG)(n:Nat)(ps:Array (Nat×X)):Rb e (lL t n ps):=by unfold lL;exact TB
@[simp] def aer(v:X)(i:Nat):Rb e (Instr.extract v i):=by unfold Instr.extract;exact TB
@[simp] def agf(t:cG)(v:X)(i:Nat):Rb e (Instr.field t v i):=by unfold Instr.field;exact TB
@[simp] def agr(t:cG)(v i:X):Rb e (mb t v i):=by unfold mb;exact TB
@[simp] def X9(a:eM):Rb e (behindNumber a):=by unfold behindNumber;exact TB
@[simp] def adG(a b:eM):Rb e (sameAddr a b):=by unfold sameAddr;exact TB
@[simp] def Ze(a b:Option eM):Rb e (samePointer a b):=by unfold samePointer;exact TB
section
variable (T:Tables)(F G:Array pZ)
def aa3(d:Nat):Program.alikeButTags ⟨T,F⟩ d=Program.alikeButTags ⟨T,G⟩ d:=by
 induction d with
 |zero=>rfl
 |succ d ih=>funext t u;simp only[Program.alikeButTags,ih]
def AA(t:cG):Program.stoodInHeld ⟨T,F⟩ t=Program.stoodInHeld ⟨T,G⟩ t:=by simp only[Program.stoodInHeld,Program.stoodInAs,aa3 T F G];rfl
def aao(d:Nat):Program.eqGuardType ⟨T,F⟩ d=Program.eqGuardType ⟨T,G⟩ d:=by
 induction d with
 |zero=>rfl
 |succ d ih=>funext t;simp only[Program.eqGuardType,ih];rfl
def X7(d:Nat):sameLayout ⟨T,F⟩ d=sameLayout ⟨T,G⟩ d:=by
 induction d with
 |zero=>rfl
 |succ d ih=>funext t u;simp only[sameLayout,ih,AA T F G];rfl
def aeJ(f:cG->Bool)(d:Nat):rowAt ⟨T,F⟩ f d=rowAt ⟨T,G⟩ f d:=by
 induction d with
 |zero=>rfl
 |succ d ih=>funext a b c n;simp only[rowAt,ih,AA T F G];rfl
def acS(d:Nat):liesAt ⟨T,F⟩ d=liesAt ⟨T,G⟩ d:=by
 induction d with
 |zero=>rfl
 |succ d ih=>funext a b c u n;simp only[liesAt,ih,aeJ T F G,show(λx=>sameLayout ⟨T,F⟩ (Program.depth ⟨T,F⟩) x u)=λx=>sameLayout ⟨T,G⟩ (Program.depth ⟨T,G⟩) x u from by rw[X7 T F G];rfl];rfl
end
end
end
section
section
variable {e:Env}{α β γ σ:Type}
def flat(P:cU):Nat->cG->Bool
 |0,_=>aL
 |n+1,t=>match P.underlying t with
  |some (.interface _)=>aL
  |some (.struct fs)=>fs.toList.all λf=>flat P n f.type
  |some (.array _ t)=>flat P n t
  |_=>aR
def WV{f:γ->σ->Sem (ForInStep σ)}:∀(l:List γ)(s:σ),(∀x s,x∈l->Rb e (f x s))->Rb e (forIn l s f):=by
 intro l
 induction l with
 |nil=>intro s _;exact X2 _
 |cons x l ih=>
  intro s h;rw[List.forIn_cons];refine B (h x s (.head _)) λa=>?_;cases a
  .exact X2 _
  .exact ih _ λy s z=>h y s (.tail _ z)
def UD{t:cG}{k:TypeDesc->Sem α}(h:∀d,e.P.underlying t=M d->Rb e (k d)):Rb e (underlying t >>= k):=by
 cases hd:e.P.underlying t with
 |some d=>
  intro x es r E I y hw
  have z:∀P:cU,P.underlying t=M d->∀W es,(underlying t >>= k).runT P W es=(k d).runT P W es:=λP hp W es=>by
   simp only[underlying,program,bind,fY,cS,hp];rfl
  rw[z _ hd]at I;obtain J|⟨Y,R⟩:=h d hd x es r E I y hw
  .exact bE J
  refine cD ⟨Y,λfs ha=>?_⟩;rw[z e.Q hd];exact R fs ha
 |none=>
  intro x es r E I y hw
  have z:(underlying t >>= k).runT e.P x es=(.halt (.stuck "no such type") x,es):=by
   simp only[underlying,program,bind,fY,cS,hd];rfl
  rw[z]at I;cases I;exact bE rfl
def FD:∀(d n:Nat)(t:cG)(x y:X),flat e.P n t=aR->Rb e (pj d t x y):=by
 intro d
 induction d with
 |zero=>intros;exact H _
 |succ d ih=>
  intro n t x y z;cases n with
  |zero=>cases z
  |succ n=>
  unfold pj;refine UD λD I=>?_;simp only[flat,I]at z;split
  case h_20 fields xs ys=>
   simp only[fF]at z;refine PR (by simp only[AA e.T e.G e.F]) ?_;dsimp only;split
   .exact H _
   refine B ?_ λ_=>?_
   .rw[<-Array.forIn_toList];refine WV _ _ λf s E=>?_;split
    .refine B (rC) λ_=>B (rC) λ_=>B (ih n _ _ _ (z f (by simpa using E))) λ_=>?_;split<;>exact X2 _
    .exact X2 _
   .split<;>exact X2 _
  case h_21 len elem xs ys=>
   refine B (rM) λ_=>B ?_ λ_=>?_
   .refine Dt (λi s=>?_) _ _;refine B (rC) λ_=>B (rC) λ_=>B (ih n _ _ _ z) λ_=>?_;split<;>exact X2 _
   .dsimp only;split<;>exact X2 _
  all_goals first|(cases z;done)|(repeat' first|((with_reducible refine PR ?_ ?_);· rfl)|with_reducible exact X2 _|((with_reducible refine PR ?_ ?_);· rfl)|with_reducible refine B ?_ λ_=>?_|((with_reducible refine PR ?_ ?_);· rfl)|with_reducible refine IT ?_ ?_|exact H _|split|(simp;done)|dsimp only|exact B (jU _) λ_=>X2 _)
end
end
section
variable {t:cG}
section
variable {e:Env}{α β γ σ:Type}
def LX:∀(d:Nat)(t:cG)(x y:X),Rb e (Op.eqGuardIn d t x y):=by
 intro d
 induction d with
 |zero=>intros;exact H _
 |succ d ih=>
  intro t x y;unfold Op.eqGuardIn;refine B (lG t) λD=>?_;split
  .exact X2 _
  .refine B (xU (λf s=>?_)) λ_=>?_
   .split
    .refine B (rC) λ_=>B (rC) λ_=>B (ih _ _ _) λ_=>?_;split<;>exact X2 _
    .exact X2 _
   .dsimp only;split<;>exact X2 _
  .refine B (rM) λ_=>B (Dt (λi s=>?_) _ _) λ_=>?_
   .refine B (rC) λ_=>B (rC) λ_=>B (ih _ _ _) λ_=>?_;split<;>exact X2 _
   .dsimp only;split<;>exact X2 _
  .exact X2 _
def TV{op:BinOp}{t:cG}{p q:jN}{x y:X}:Rb e (eqGuard op t p q x y):=by
 unfold eqGuard;cases op<;>first|exact X2 _|skip
 all_goals cases x<;>first|exact X2 _|skip
 all_goals cases y<;>first|exact X2 _|skip
 all_goals repeat' first|exact LX _ _ _ _|((with_reducible refine PR ?_ ?_);· first|(simp only[aao e.T e.G e.F];done)|rfl)|with_reducible exact X2 _|with_reducible refine B ?_ λ_=>?_|with_reducible refine IT ?_ ?_|exact H _|split|(simp;done)|dsimp only|exact B (jU _) λ_=>X2 _
@[simp] def adC(b:Bool):∀(n:Nat)(t:cG)(v:X),Rb e (Instr.checkKey b n t v):=by
 intro n
 induction n with
 |zero=>intros;exact H _
 |succ n ih=>
  intro t v;unfold Instr.checkKey;refine B (lG t) λD=>?_;split
  case h_1=>repeat' first|exact ih _ _|with_reducible exact X2 _|with_reducible refine B ?_ λ_=>?_|with_reducible refine IT ?_ ?_|exact H _|split|(simp;done)|dsimp only|exact B (jU _) λ_=>X2 _
  case h_2=>exact B (Dt (λi s=>B (rM) λ_=>B (rC) λ_=>B (ih _ _) λ_=>X2 _) _ _) λ_=>X2 _
  case h_3=>
   refine B (xU (λf s=>?_)) λ_=>X2 _;split
   .exact B (rC) λ_=>B (ih _ _) λ_=>X2 _
   .exact X2 _
  all_goals exact TB
def xE{t:cG}(h:flat e.P 9 t=aR)(k:X):∀(l:List gR)(i:Nat),Rb e (Instr.findAsking t k l i)
 |[],_=>X2 _
 |x::l,i=>by
  unfold Instr.findAsking;refine B (FD _ _ _ _ _ h) λ_=>?_;split
  .exact X2 _
  .exact xE h k l _
def yY(h:flat e.P 9 t=aR){k:X}{l:List gR}:Rb e (Instr.findKey t k l):=by
 unfold Instr.findKey;refine B (lG t) λ_=>?_;split
 .exact X2 _
 .exact xE h k _ _
@[simp] def Y7(x y:X):Rb e (oY x y):=by unfold oY;exact TB
def xX(P:cU)(t:cG):Bool:=match P.underlying t with
 |some (.map k _)=>flat P 9 k
 |_=>aR
def Yp(h:xX e.P t=aR){x i:X}{c:Bool}:Rb e (Instr.lookup t x i c):=by
 unfold Instr.lookup;refine UD λD z=>?_;simp only[xX,z]at h
 repeat' first|exact yY h|exact nM (by assumption) trivial|((with_reducible refine GO ⟨⟨_,rfl⟩,λ_ _=>⟨_,rfl⟩⟩ λhd o _=>?_))|with_reducible exact X2 _|with_reducible refine B ?_ λ_=>?_|with_reducible refine IT ?_ ?_|exact H _|split|(simp;done)|dsimp only|exact B (jU _) λ_=>X2 _
def zF(h:xX e.P t=aR){m k v:X}:Rb e (ol t m k v):=by
 unfold ol;refine UD λD z=>?_;simp only[xX,z]at h
 repeat' first|exact yY h|exact nM (by assumption) trivial|((with_reducible refine GO ⟨⟨_,rfl⟩,λ_ _=>⟨_,rfl⟩⟩ λhd o _=>?_))|with_reducible exact X2 _|with_reducible refine B ?_ λ_=>?_|with_reducible refine IT ?_ ?_|exact H _|split|(simp;done)|dsimp only|exact B (jU _) λ_=>X2 _
end
end
section
section
variable {e:Env}{α β γ σ:Type}
@[simp] def aeu(n:Nat):Rb e (askRoom n):=by
 unfold askRoom;split
 .exact Rk _ (bE rfl)
 .exact X2 _
@[simp] def aeW(c:Array gR)(n:Nat):Rb e (newObj (.map c n)):=NB (k:=λa=>pure a) trivial λ_ _=>X2 _
@[simp] def aeh(t:cG)(r:Option X):Rb e (Instr.makeMap t r):=by unfold Instr.makeMap;exact TB
@[simp] def Vh(t:cG)(v:X):Rb e (Instr.makeInterface t v):=by unfold Instr.makeInterface;exact TB
@[simp] def ab2(t:cG)(l c:X):Rb e (Instr.makeSlice t l c):=by unfold Instr.makeSlice;exact TB
@[simp] def agu(t:cG)(v:X):Rb e (Instr.range t v):=by
 unfold Instr.range;refine B (lG t) λD=>?_;split
 case h_1=>exact NB trivial λ_ _=>X2 _
 case h_2=>exact NB trivial λ_ _=>X2 _
 case h_3=>
  refine GO ⟨⟨_,rfl⟩,λ_ _=>⟨_,rfl⟩⟩ λhd o _=>?_;split
  .exact NB trivial λ_ _=>X2 _
  .exact H _
 .exact H _
@[simp] def agI(v:X)(b:Bool)(t:cG):Rb e (Instr.next v b t):=by unfold Instr.next;exact TO
@[simp] def agd(v:X):Rb e (Instr.entry v):=by unfold Instr.entry;exact TO
@[simp] def agk(v:X):Rb e (pv v):=by unfold pv;exact TB
@[simp] def ZY(s n:Nat)(v:X):Rb e (oo s n v):=by unfold oo;exact TB
@[simp] def ahu(ts:Array cG)(t:cG)(vs:Array X):Rb e (mw ts t vs):=by unfold mw;exact TO
@[simp] def ahm(ts:Array cG)(t:cG)(vs:Array X):Rb e (Builtin.cap_ ts t vs):=by unfold Builtin.cap_;exact TO
@[simp] def agL(ts:Array cG)(t:cG)(vs:Array X):Rb e (ot ts t vs):=by unfold ot;exact TB
@[simp] def aga(ts:Array cG)(t:cG)(vs:Array X):Rb e (Builtin.clear_ ts t vs):=by unfold Builtin.clear_;exact TO
@[simp] def ad9(o:BinOp)(k:ki)(x y:Int):Rb e (Op.intArith o k x y):=by unfold Op.intArith;exact TB
@[simp] def afa(o:BinOp)(k:ki)(x y:Int):Rb e (Op.intDiv o k x y):=by unfold Op.intDiv;exact TB
@[simp] def aef(o:BinOp)(k:ki)(x y:Int):Rb e (Op.intBits o k x y):=by unfold Op.intBits;exact TB
@[simp] def aeY(o:BinOp)(x y:Int):Rb e (Op.intCmp o x y):=by unfold Op.intCmp;exact TB
@[simp] def agi(o:BinOp)(k:ki)(x:Int)(l:ki)(y:Int):Rb e (Op.shift o k x l y):=by unfold Op.shift;exact TB
@[simp] def acz(o:BinOp)(x y:ByteArray):Rb e (Op.stringOp o x y):=by unfold Op.stringOp;exact TB
@[simp] def af9(o:UnOp)(v:X):Rb e (Op.unary o v):=by unfold Op.unary;exact TB
@[simp] def aaW(o:BinOp)(k:ky)(x y:Nat):Rb e (Op.floatArith o k x y):=by unfold Op.floatArith;exact TB
@[simp] def ad7(o:BinOp)(k:ky)(x y:Nat):Rb e (Op.floatCmp o k x y):=by unfold Op.floatCmp;exact TB
@[simp] def Xa(k:ky)(x:Nat)(l:ky):Rb e (Conv.floatToFloat k x l):=by unfold Conv.floatToFloat;exact TB
@[simp] def xY{o:BinOp}{k:ky}{x y:Nat}:Rb e (Op.Complex.arith o k x y):=by unfold Op.Complex.arith;exact TB
@[simp] def agA(o:BinOp)(k:ky)(x y:Nat):Rb e (Op.Complex.cmp o k x y):=by unfold Op.Complex.cmp;exact TB
@[simp] def af6(k:ky)(x:Nat)(l:ky):Rb e (Op.Complex.conv k x l):=by unfold Op.Complex.conv;exact TB
@[simp] def agG(x y:Nat):Rb e (Op.Complex.add x y):=xY
@[simp] def agP(x y:Nat):Rb e (Op.Complex.sub x y):=xY
@[simp] def ag7(x y:Nat):Rb e (Op.Complex.mul x y):=xY
@[simp] def agy(x y:Nat):Rb e (Op.Complex.quo x y):=xY
@[simp] def aeC(a b c d:Nat):Rb e (Op.Complex.product a b c d):=by unfold Op.Complex.product;exact TB
@[simp] def abX(s a b c d:Nat):Rb e (Op.Complex.corrected s a b c d):=by unfold Op.Complex.corrected;exact TB
@[simp] def aci(a b c d:Nat):Rb e (Op.Complex.quotient a b c d):=by unfold Op.Complex.quotient;exact TB
@[simp] def ab6(o:BinOp)(k:ky)(a b c d:Nat):Rb e (Op.complexOp o k a b c d):=by unfold Op.complexOp;exact TB
end
end
end Po
namespace Po
open Go
section
variable {e:Env}{α β γ σ:Type}
section
variable (T:Tables)(F G:Array pZ)
def Ws(d:Nat):cellOfByte ⟨T,F⟩ d=cellOfByte ⟨T,G⟩ d:=by
 induction d with
 |zero=>rfl
 |succ d ih=>funext t o;simp only[cellOfByte,ih];rfl
def qC(d:Nat):cellAtBytes ⟨T,F⟩ d=cellAtBytes ⟨T,G⟩ d:=by funext t c o b;simp only[cellAtBytes,Ws T F G,qp T F G];rfl
def Qz(d:Nat):Program.holdsStoodIn ⟨T,F⟩ d=Program.holdsStoodIn ⟨T,G⟩ d:=by
 induction d with
 |zero=>rfl
 |succ d ih=>funext t;simp only[Program.holdsStoodIn,ih,AA T F G];rfl
end
def FW(P:cU)(a:eM)(n:Nat)(W:U)(es:Array jz):∃r,(mE a n).runT P W es=(.ok r W,es):=by simp only[mE,shape,bind,fY,cS];cases W.shape? a.block<;>exact⟨_,rfl⟩
def Ja(P:cU)(a b c:Nat)(d:Option eM)(v:X)(W:U)(es:Array jz):∃r,(nu a b c d v).runT P W es=(.ok r W,es):=by
 have h2:∃r,(match v with
  |.slice (M b) _ _=>do pure (!(<-mE b (c*a)) || d.any (·.block == b.block))
  |_=>pure aL:Sem Bool).runT P W es=(.ok r W,es):=by
  split
  .obtain⟨r,h⟩:=FW P ‹_› (c*a) W es;exact⟨_,by rw[runT_bind,h];rfl⟩
  .exact⟨_,rfl⟩
 unfold nu;cases d with
 |none=>
  exact h2
 |some d=>
  obtain⟨r,h⟩:=FW P d (b*a) W es;simp only[runT_bind,h,frozen,cS,pure];split
  .exact⟨_,rfl⟩
  .exact h2
def Zz{a b c:Nat}{d:Option eM}{v:X}{k:Bool->Sem β}(hk:∀P s W es,bad ((k s).runT P W es).1=aR):Rb e (nu a b c d v >>= k):=by intro x es r E z y hw;obtain⟨q,I⟩:=Ja e.P a b c d v x es;have:=hk e.P q x es;rw[runT_bind,I]at z;simp only at z;rw[z]at this;exact bE this
@[simp] def afQ(ts:Array cG)(t:cG)(vs:Array X):Rb e (jb ts t vs):=by
 unfold jb
 repeat' first|((with_reducible refine Zz ?_);intro P s W es;cases s<;>rfl)|with_reducible exact X2 _|with_reducible refine B ?_ λ_=>?_|with_reducible refine IT ?_ ?_|exact H _|split|(simp;done)|dsimp only|exact B (jU _) λ_=>X2 _
def Yf{ts:Array cG}(h:xX e.P (ts.getD 0 0)=aR)(t:cG)(vs:Array X):Rb e (kv ts t vs):=by
 unfold kv;split
 .rename_i E _ _ I;have J:ts[0]? =M E:=Z1 Prod.fst I;have z:xX e.P E=aR:=by rw[fD,J]at h;exact h
  refine UD λD R=>?_;simp only[xX,R]at z
  repeat' first|exact yY z|exact nM (by assumption) trivial|((with_reducible refine GO ⟨⟨_,rfl⟩,λ_ _=>⟨_,rfl⟩⟩ λhd o _=>?_))|with_reducible exact X2 _|with_reducible refine B ?_ λ_=>?_|with_reducible refine IT ?_ ?_|exact H _|split|(simp;done)|dsimp only|exact B (jU _) λ_=>X2 _
 .exact H _
def SHU{r:Nat}{k:Option (cG×Nat)->Sem α}(hk:∀o,Rb e (k o))(z:∃h,k Z=.halt h/\∀w,bad (.halt h w:Result α)=aR):Rb e (shape r >>= k):=SH hk λ_=>z
@[simp] def adI(a:eM)(b:Bool):Rb e (asNumber a b):=NB (o:=.number a b) (k:=λr=>pure (Value.pointer (M ⟨r,0,Z⟩))) trivial λ_ _=>X2 _
def TS{p:Prop}(h:p:=by repeat' first|((with_reducible refine SHU (λ_=>?_) ?_);rotate_left;· exact⟨_,rfl,λ_=>rfl⟩)|((with_reducible refine PR ?_ ?_);· first|(simp only[qC _ _ _];rfl)|rfl)|with_reducible exact X2 _|with_reducible refine B ?_ λ_=>?_|with_reducible refine IT ?_ ?_|exact H _|split|(simp;done)|dsimp only|exact B (jU _) λ_=>X2 _):p:=h
@[simp] def ace(a b:eM):Rb e (Op.twoPlaces a b):=by unfold Op.twoPlaces;exact TS
@[simp] def aez(k:ki)(a b:eM):Rb e (Op.addrSub k a b):=by unfold Op.addrSub;exact TS
@[simp] def aeE(o:BinOp)(a b:eM):Rb e (Op.addrCmp o a b):=by unfold Op.addrCmp;exact TS
@[simp] def aey(k:ki)(a:eM)(n:Int):Rb e (Op.addrMod k a n):=by unfold Op.addrMod;exact TS
@[simp] def abJ(ts:Array cG)(t:cG)(x y:X):Rb e (Builtin.unsafeAdd_ ts t #[x,y]):=by
 unfold Builtin.unsafeAdd_;cases x<;>first|exact H _|refine B (Rf y) λn=>?_
 repeat' first|((with_reducible refine SHU (λ_=>?_) ?_);rotate_left;· exact⟨_,rfl,λ_=>rfl⟩)|((with_reducible refine PR ?_ ?_);· first|(simp only[qC e.T e.G e.F];rfl)|rfl)|with_reducible exact X2 _|with_reducible refine B ?_ λ_=>?_|with_reducible refine IT ?_ ?_|exact H _|split|(simp;done)|dsimp only|exact B (jU _) λ_=>X2 _
@[simp] def Zi(t:cG)(x y:X):Rb e (movedNumber t x y):=by unfold movedNumber;exact TS
@[simp] def YZ(t:cG)(x y:X):Rb e (movedPointer t x y):=by unfold movedPointer;exact TS
def BN{d:Nat}{t:cG}{x:X}:Rb e (pj (d+1) t x .nilIface)/\Rb e (pj (d+1) t .nilIface x):=by
 constructor<;>unfold pj<;>refine B (lG t) λD=>?_
 all_goals
  cases x with
  |pointer a|map a=>cases a<;>cases D<;>first|exact X2 _|exact H _
  |slice a _ _=>cases a<;>cases D<;>first|exact X2 _|exact H _
  |int k n=>cases D<;>first|exact X2 _|exact H _
  |_=>cases D<;>first|exact X2 _|exact H _
def isNil:jN->Bool
 |.const .nilIface=>aR
 |_=>aL
def acN(P:cU)(t:cG)(x y:jN):Bool:=match P.underlying t with
 |some (.interface _)=>isNil x || isNil y
 |_=>flat P 9 t
def ZG{op:BinOp}{t:cG}{x y:X}(h:op=.eql\/op=.neq->Rb e (Op.equal t x y)):Rb e (binOp op t x y):=by
 unfold binOp
 repeat' first|exact h (bE rfl)|exact h (cD rfl)|((with_reducible refine SHU (λ_=>?_) ?_);rotate_left;· exact⟨_,rfl,λ_=>rfl⟩)|((with_reducible refine PR ?_ ?_);· first|exact h (bE rfl)|exact h (cD rfl)|(simp only[qC e.T e.G e.F];rfl)|rfl)|with_reducible exact X2 _|with_reducible refine B ?_ λ_=>?_|with_reducible refine IT ?_ ?_|exact H _|split|(simp;done)|dsimp only|exact B (jU _) λ_=>X2 _
end
end Po
namespace Po
open Go
section
variable {e:Env}{α β γ σ:Type}
@[simp] def acp(x y:X):Rb e (Builtin.max2 x y):=by unfold Builtin.max2;exact TB
@[simp] def adb(x y:X):Rb e (Builtin.min2 x y):=by unfold Builtin.min2;exact TB
@[simp] def aho(ts:Array cG)(t:cG)(vs:Array X):Rb e (Builtin.max_ ts t vs):=by
 unfold Builtin.max_
 repeat' first|exact Es acp _ _|with_reducible exact X2 _|with_reducible refine B ?_ λ_=>?_|with_reducible refine IT ?_ ?_|exact H _|split|(simp;done)|dsimp only|exact B (jU _) λ_=>X2 _
@[simp] def ahq(ts:Array cG)(t:cG)(vs:Array X):Rb e (Builtin.min_ ts t vs):=by
 unfold Builtin.min_
 repeat' first|exact Es adb _ _|with_reducible exact X2 _|with_reducible refine B ?_ λ_=>?_|with_reducible refine IT ?_ ?_|exact H _|split|(simp;done)|dsimp only|exact B (jU _) λ_=>X2 _
@[simp] def ad4(k:ki)(n:Int):Rb e (Conv.intToInt k n):=by unfold Conv.intToInt;exact TB
@[simp] def ZA(k:ky)(n:Int):Rb e (Conv.intToFloat k n):=by unfold Conv.intToFloat;exact TB
@[simp] def aaV(k:ky)(b:Nat)(l:ki):Rb e (Conv.floatToInt k b l):=by unfold Conv.floatToInt;exact TB
@[simp] def PN(k:ky)(a b:Nat)(l:ky):Rb e (Conv.complexToComplex k a b l):=by unfold Conv.complexToComplex;exact TB
@[simp] def Zl(n:Int):Rb e (Conv.intToString n):=by unfold Conv.intToString;exact TB
@[simp] def Vp(t:cG)(s:ByteArray):Rb e (Conv.stringToRunes t s):=by unfold Conv.stringToRunes;exact TB
@[simp] def Vm(v:X):Rb e (Conv.bytesToString v):=by
 unfold Conv.bytesToString;split
 .exact X2 _
 .refine B (zD) λ_=>B (xU (λc s=>?_)) λ_=>X2 _;split
  .exact X2 _
  .exact H _
 .exact H _
@[simp] def Vj(v:X):Rb e (Conv.runesToString v):=by
 unfold Conv.runesToString;split
 .exact X2 _
 .refine B (zD) λ_=>B (xU (λc s=>?_)) λ_=>X2 _;split
  .exact X2 _
  .exact H _
 .exact H _
@[simp] def Vl(t:cG)(s:ByteArray):Rb e (Conv.stringToBytes t s):=by
 unfold Conv.stringToBytes;refine B (jU _) λ_=>NR λa ha=>B (SH (λo=>?_) λh=>Xs h ha) λ_=>X2 _;split
 .exact Gz _ _ ha
 .exact X2 _
@[simp] def JL:∀(n:Nat)(a:eM)(b:ByteArray),Rb e (loadBytes a b n)
 |0,_,_=>X2 _
 |n+1,a,b=>by
  unfold loadBytes;refine B (Iw _) λ_=>?_;split
  .exact JL n _ _
  .exact H _
def VA{a:eM}{u:cG}{n:Nat}{k:Bool->Sem α}(Y:¬e.D a.block->Rb e (k aR))(h2:¬e.D a.block->Rb e (k aL))(h3:e.D a.block->k aR=k aL/\Rb e (k aL)\/∀x y es,WP e x y->bad ((k aL).runT e.P x es).1=aR):Rb e (variablesAt a u n >>= k):=by
 intro x es r E I y hw
 let g (p:cU) (W:U):Bool:=match W.shape? a.block with
  |some (t,cells)=>liesAt p p.depth t (cells/p.cellsOf t) a.off u n
  |none=>aL
 have z:∀P (W:U) es,(variablesAt a u n >>= k).runT P W es=(k (g P W)).runT P W es:=λP W es=>by
  rw[runT_bind];simp only[variablesAt,program,shape,bind,fY,cS,g];cases W.shape? a.block<;>rfl
 rw[z]at I;by_cases hd:e.D a.block
 .have hx:g e.P x=aL:=by
   have:x.shape? a.block=Z:=by
    unfold World.shape?;rcases hw.inn _ hd with⟨c,t,Y,h2,_⟩|⟨l,Y,h2,_⟩<;>rw[h2]
   simp only[g,this]
  rw[hx]at I;obtain⟨h4,h5⟩|h4:=h3 hd
  .have:k (g e.Q y)=k aL:=by
    cases g e.Q y
    .rfl
    .exact h4
   obtain J|⟨hf,R⟩:=h5 x es r E I y hw
   .exact bE J
   refine cD ⟨hf,λfs ha=>?_⟩;rw[z,this];exact R fs ha
  .have:=h4 x y es hw;rw[I]at this;exact bE this
 .have hg:g e.Q y=g e.P x:=by
   have:y.shape? a.block=x.shape? a.block:=by unfold World.shape?;rw[hw.out _ hd]
   simp only[g,this,acS e.T e.G e.F];rfl
  have key:Rb e (k (g e.P x)):=by
   cases g e.P x
   .exact h2 hd
   .exact Y hd
  obtain J|⟨hf,R⟩:=key x es r E I y hw
  .exact bE J
  refine cD ⟨hf,λfs ha=>?_⟩;rw[z,hg];exact R fs ha
def Ea{ts:Array cG}{t:cG}{x y:X}:Rb e (nW ts t #[x,y]):=by
 unfold nW;cases x<;>first|exact H _|skip
 refine B (Rf y) λn=>?_
 repeat' first|exact Gz _ _ (by assumption)|((with_reducible refine VA (λhd=>?_) (λ_=>?_) (λ_=>cD λ_ _ _ _=>rfl)))|with_reducible exact X2 _|with_reducible refine B ?_ λ_=>?_|with_reducible refine IT ?_ ?_|exact H _|split|(simp;done)|dsimp only|exact B (jU _) λ_=>X2 _
def x9{ts:Array cG}{t:cG}{x:X}:Rb e (Builtin.unsafeSliceData_ ts t #[x]):=by
 unfold Builtin.unsafeSliceData_;cases x<;>first|exact H _|skip
 rename_i a l c;cases a with
 |none=>exact X2 _
 |some a=>
  show Rb e (if c≠0 then _ else _)
  refine IT (X2 _) (B (WU) λ_=>IT (X2 _) (B (Yr) λ_=>NB trivial λ_ _=>X2 _))
@[simp] def Ky{a:eM}:Rb e (Conv.seenAt a):=by
 unfold Conv.seenAt
 repeat' first|((with_reducible refine SHU (λ_=>?_) ?_);rotate_left;· exact⟨_,rfl,λ_=>rfl⟩)|((with_reducible refine PR ?_ ?_);· first|(simp only[qp e.T e.G e.F,qC e.T e.G e.F];rfl)|rfl)|with_reducible exact X2 _|with_reducible refine B ?_ λ_=>?_|with_reducible refine IT ?_ ?_|exact H _|split|(simp;done)|dsimp only|exact B (jU _) λ_=>X2 _
def Am{s d:cG}{v:X}:Rb e (Conv.unsafePointer s d v):=by
 unfold Conv.unsafePointer;refine B (lG s) λ_=>B (lG d) λ_=>?_;split
 case h_2=>
  refine B (Ky) λ_=>B (UQ) λ_=>?_;dsimp only;refine B (rM) λ_=>?_;refine IT (NB trivial λ_ _=>X2 _) (X2 _)
 case h_4=>
  refine B (Ky) λb=>B (rM) λn=>VA (λ_=>?_) (λ_=>?_) λhd=>?_
  .repeat' first|((with_reducible refine NB ?_ λ_ _=>?_);· trivial)|((with_reducible refine SHU (λ_=>?_) ?_);rotate_left;· exact⟨_,rfl,λ_=>rfl⟩)|((with_reducible refine PR ?_ ?_);· first|(simp only[Qz e.T e.G e.F];done)|((with_reducible refine NB ?_ λ_ _=>?_);· trivial)|(simp only[qp e.T e.G e.F,qC e.T e.G e.F];rfl)|rfl)|with_reducible exact X2 _|with_reducible refine B ?_ λ_=>?_|with_reducible refine IT ?_ ?_|exact H _|split|(simp;done)|dsimp only|exact B (jU _) λ_=>X2 _
  .repeat' first|((with_reducible refine NB ?_ λ_ _=>?_);· trivial)|((with_reducible refine SHU (λ_=>?_) ?_);rotate_left;· exact⟨_,rfl,λ_=>rfl⟩)|((with_reducible refine PR ?_ ?_);· first|(simp only[Qz e.T e.G e.F];done)|((with_reducible refine NB ?_ λ_ _=>?_);· trivial)|(simp only[qp e.T e.G e.F,qC e.T e.G e.F];rfl)|rfl)|with_reducible exact X2 _|with_reducible refine B ?_ λ_=>?_|with_reducible refine IT ?_ ?_|exact H _|split|(simp;done)|dsimp only|exact B (jU _) λ_=>X2 _
  .by_cases z:n=0
   .refine bE ⟨by simp[z],?_⟩;simp only[z,decide_true,Bool.true_or,if_true];exact X2 _
   .refine cD λx y es hw=>?_
    have:x.shape? b.block=Z:=by
     unfold World.shape?;rcases hw.inn _ hd with⟨c,t,E,h2,_⟩|⟨l,E,h2,_⟩<;>rw[h2]
    simp only[z,decide_false,Bool.false_or,bU,if_false,shape,bind,fY,cS,this];rfl
 all_goals repeat' first|((with_reducible refine SHU (λ_=>?_) ?_);rotate_left;· exact⟨_,rfl,λ_=>rfl⟩)|((with_reducible refine PR ?_ ?_);· first|(simp only[qp e.T e.G e.F,qC e.T e.G e.F];rfl)|rfl)|with_reducible exact X2 _|with_reducible refine B ?_ λ_=>?_|with_reducible refine IT ?_ ?_|exact H _|split|(simp;done)|dsimp only|exact B (jU _) λ_=>X2 _
end
end Po
namespace Po
open Go
def G9(P:cU)(z:Array cG):Builtin->Nat->Bool
 |.append,_|.cap,_|.clear,_|.copy,_|.len,_|.max,_|.min,_=>aR
 |.delete,_=>xX P (z.getD 0 0)
 |.unsafeString,n=>n == 2
 |.unsafeSliceData,n=>n == 1
 |_,_=>aL
def Ym(P:cU):Op->Bool
 |.move _|.assign _|.box ..|.load ..|.unOp ..|.makeInterface ..|.fieldAddr ..|.field ..|.range ..|.next ..|.entry _|.extract ..|.pick ..|.alloc _|.build ..|.buildSlice ..|.store ..|.makeSlice ..|.indexAddr ..|.index ..|.makeFunc ..|.makeMap ..|.slice ..|.nilCheck _|.panic _=>aR
 |.binOp op t a b _=>match op with
  |.eql|.neq=>acN P t a b
  |_=>aR
 |.lookup t ..|.mapUpdate t ..|.insert t ..=>xX P t
 |.convert s d _=>!(s == d)
 |.call { callee:=.value _,.. }=>aR
 |.call { callee:=.builtin b,args,argTypes,.. }=>G9 P argTypes b args.size
 |_=>aL
def oP(P:cU):eE->Bool
 |.skip|.exit _|.ret|.refuse _=>aR
 |.region _ ops _=>ops.toList.all λo=>Ym P o.op
 |.seq a b|.cond _ a b=>oP P a&&oP P b
 |.block _ c|.loop c=>oP P c
 |.rangeFunc _ _ a c=>oP P a&&oP P c
 |.scope _|.label _|.goto _=>aL
section
section
variable {e:Env}{α β γ σ:Type}
@[simp] def ahj:Rb e (sys .env):=RD (λw=>M (.strings w.os.env)) (λP W es=>⟨ "",#[⟨.output,aR,aL⟩],rfl,λv hv=>by simp at hv;subst hv;trivial⟩) λx y hw a ha=>by rw[<-ha,hw.os]
@[simp] def acX:Rb e (Instr.panicnil):=by unfold Instr.panicnil;exact TP
@[simp] def af7(v:X):Rb e (Instr.panic v):=by unfold Instr.panic;exact TP
@[simp] def ahv(t:cG)(p:Place):Rb e (Place.get t p):=by unfold Place.get;exact TP
@[simp] def YA:∀(l:List FieldStep)(t:cG)(p:Place),Rb e (follow l t p)
 |[],_,_=>X2 _
 |s::l,t,p=>by
  have ih:=YA l;unfold follow
  repeat' first|exact ih _ _|with_reducible exact X2 _|with_reducible refine B ?_ λ_=>?_|with_reducible refine IT ?_ ?_|exact H _|split|(simp;done)|dsimp only|exact B (jU _) λ_=>X2 _
@[simp] def aeg(ts:Array cG)(t:cG)(x y z:X):Rb e (Builtin.ssaWrapNilChk_ ts t #[x,y,z]):=by
 unfold Builtin.ssaWrapNilChk_;cases y<;>first|exact H _|skip
 cases z<;>first|exact H _|skip
 show Rb e (match x with
  |.pointer (M _)=>_
  |.pointer Z=>_
  |_=>_)
 exact TP
@[simp] def aaq(t:cG)(p:Place)(b:Bool)(w:Option String):Rb e (receiverAt t p b w):=by unfold receiverAt;exact TP
@[simp] def EO{t:cG}{v:X}{p:Array FieldStep}{b:Bool}:Rb e (receiverVia t v p b):=by unfold receiverVia;exact TP
@[simp] def KE:∀(n:Nat)(t:cG)(v:X)(s:String),Rb e (method n t v s)
 |0,_,_,_=>H _
 |n+1,t,v,s=>by
  have ih:=KE n;unfold method
  repeat' first|exact ih _ _ _|with_reducible exact X2 _|with_reducible refine B ?_ λ_=>?_|with_reducible refine IT ?_ ?_|exact H _|split|(simp;done)|dsimp only|exact B (jU _) λ_=>X2 _
@[simp] def EG:∀(l:List FieldStep)(t:cG)(p:Option X),Rb e (followBlind l t p)
 |[],_,_=>X2 _
 |s::l,t,p=>by
  have ih:=EG l;unfold followBlind
  repeat' first|exact ih _ _|with_reducible exact X2 _|with_reducible refine B ?_ λ_=>?_|with_reducible refine IT ?_ ?_|exact H _|split|(simp;done)|dsimp only|exact B (jU _) λ_=>X2 _
@[simp] def Pz:∀(n:Nat)(t:cG)(v:X)(s:String),Rb e (nilAhead n t v s)
 |0,_,_,_=>X2 _
 |n+1,t,v,s=>by
  have ih:=Pz n;unfold nilAhead
  repeat' first|exact ih _ _ _|with_reducible exact X2 _|with_reducible refine B ?_ λ_=>?_|with_reducible refine IT ?_ ?_|exact H _|split|(simp;done)|dsimp only|exact B (jU _) λ_=>X2 _
end
end
section
section
variable {e:Env}{α β γ σ:Type}
structure Fit(e:Env):Prop where
 code:∀c,e.C c↔oP e.P c=aR
 name:∀(f:Nat)(fn:pZ),e.F[f]? =M fn->(fn.name == "runtime.NumGoroutine")=aL
 same:∀(f:Nat)(fn:pZ)(c:eE),e.F[f]? =M fn->fn.body=M c->e.G[f]? =M fn/\oP e.P c=aR
 ext:∀(f:Nat)(fn:pZ)(args:Array X),e.F[f]? =M fn->fn.body=Z->Rb e (iA f args)/\∀x es n x1 es1,(iA f args).runT e.P x es=(.ok n x1,es1)->∃v,n=.value v
 results:∀f:Nat,(e.G[f]?).map (·.results)=(e.F[f]?).map (·.results)
 early:e.P.follows .staticDataAhead=aR
variable (F:Fit e)
include F
def wo(f:ph)(args:Array X):Rb e (iA f args):=by
 cases z:e.F[f]? with
 |none=>
  intro x es r J I y hw
  have:(iA f args).runT e.P x es=(.halt (.stuck "call: no such function") x,es):=by
   simp only[iA,program,bind,fY,cS,show e.P.funcs[f]? =Z from z];rfl
  rw[this]at I;cases I;exact bE rfl
 |some fn=>
  cases E:fn.body with
  |none=>exact(F.ext f fn args z E).1
  |some c=>
   unfold iA;have R:=(F.same f fn c z E).1;refine PR ?_ ?_
   .simp only[show e.P.funcs[f]? =M fn from z,show e.Q.funcs[f]? =M fn from R]
   .simp only[show e.P.funcs[f]? =M fn from z,F.name f fn z,E,Option.isNone_some,bU,if_false];exact X2 _
def xH(v:X)(s:String)(args:Array X):Rb e (callMethod v s args):=by
 unfold callMethod;split
 .exact PR rfl (B (KE _ _ _ _) λ_=>wo F _ _)
 .exact nC _
 .exact H _
omit F in
@[simp] def U0(l:Nat):Rb e (kh l):=by unfold kh;exact TO
omit F in
@[simp] def Z9(l:Nat)(args:Array X):Rb e (Instr.yield l args):=by unfold Instr.yield;exact TB
def Du(f:Fn)(cap args:Array X):Rb e (invoke (.fn f cap) args):=by
 cases f with
 |func f=>exact wo F _ _
 |method n=>
  show Rb e (match args[0]? with|some recv=>_|_=>_)
  split
  .exact xH F _ _ _
  .exact H _
 |methodOf t n=>
  show Rb e (match args[0]? with|some recv=>_|_=>_)
  split
  .exact B (lG _) λ_=>xH F _ _ _
  .exact H _
 |via t p f b=>
  show Rb e (match args[0]? with|some recv=>_|_=>_)
  split
  .exact B (EO) λ_=>wo F _ _
  .exact H _
 |yield l=>exact Z9 l args
omit F in
def UL{b:Builtin}{ts:Array cG}{args:Array X}(h:G9 e.P ts b args.size=aR)(t:cG)(cs:Array Bool):Rb e (builtin b ts t cs args):=by
 cases b<;>first|(cases h;done)|skip
 case delete=>exact B (Yf h t args) λ_=>X2 _
 case unsafeString=>
  obtain⟨l⟩:=args
  match l,h with
  |[x,y],_=>exact B (Ea) λ_=>X2 _
 case unsafeSliceData=>
  obtain⟨l⟩:=args
  match l,h with
  |[x],_=>exact B (x9) λ_=>X2 _
 all_goals exact B aC λ_=>X2 _
omit F in
def Tv{s d:cG}(h:(s == d)=aL)(v:X):Rb e (convert s d v):=by
 unfold convert;refine B (lG s) λ_=>B (lG d) λ_=>?_
 repeat' first|exact Am|with_reducible exact X2 _|with_reducible refine B ?_ λ_=>?_|with_reducible refine IT ?_ ?_|exact H _|(have z:(s == d)=aR:=(by assumption);rw[h]at z;cases z)|split|(simp;done)|dsimp only|exact B (jU _) λ_=>X2 _
def WE(ρ:jN->X)(hρ:∀v,ρ (.const v)=v)(o:Oper)(h:Ym e.P o.op=aR):Rb e (bN ρ o):=by
 unfold bN;cases ho:o.op<;>rw[ho]at h<;>first|(cases h;done)|exact B aC (λ_=>X2 _)|exact X2 _|skip
 case insert=>exact B (zF h) λ_=>X2 _
 case mapUpdate=>exact B (zF h) λ_=>X2 _
 case lookup=>exact B (Yp h) λ_=>X2 _
 case convert=>exact B (Tv (by simpa[Ym]using h) _) λ_=>X2 _
 case nilCheck=>
  dsimp only;exact TP
 case binOp op t a b _=>
  refine B (B (TV) λ_=>ZG λE=>?_) λ_=>X2 _;have z:acN e.P t a b=aR:=by rcases E with rfl|rfl<;>exact h
  unfold acN at z;split at z
  .have key:∀o:jN,isNil o=aR->ρ o=.nilIface:=λo ho=>by
    cases o with
    |const v=>cases v<;>first|(cases ho;done)|exact hρ _
    |_=>cases ho
   rcases Bool.or_eq_true_iff.1 z with z|z<;>rw[key _ z]
   .exact(BN).2
   .exact(BN).1
  .exact FD _ _ _ _ _ z
 case call c=>
  obtain⟨callee,args,ts⟩:=c;cases callee with
  |invoke _ _=>cases h
  |builtin b=>exact UL (by rw[Array.size_map];exact h) _ _
  |value f=>
   show Rb e (km (ρ f) _ >>= _)
   unfold km;split
   .exact Du F _ _ _
   .show Rb e (runtimePanic .nilDeref:Sem Next)
    exact nC _
   .exact H _
end
end
section
variable {e:Env}{fr f:cR}{A:List cR}{st:cU->List cR->U->GStep}
abbrev mk(fr:cR)(cs:List cR):Goroutine:={ frame:=fr,callers:=cs,status:=.running,dying:=Z }
def pK(P:cU):pS->Bool
 |.code c|.inLoop c=>oP P c
 |.inRegion ops _=>ops.toList.all λo=>Ym P o.op
 |.inBlock _|.inRangeFunc _|.beginRound|.endRangeFunc _=>aR
 |_=>aL
structure tZ(e:Env)(fr:cR):Prop where
 todo:∀i∈fr.todo,pK e.P i=aR
 defers:∀d∈fr.defers,∃r,d.target=.collected r
 kind:fr.kind=.normal
def OkG(e:Env)(fr:cR)(A:List cR):Prop:=tZ e fr/\∀f∈A,tZ e f
def OkG.top(h:OkG e fr A)(z:tZ e f):OkG e f A:=⟨z,h.2⟩
def OkG.push(h:OkG e fr A)(z:tZ e f):OkG e f (fr::A):=⟨z,λg E=>(dD.1 E).elim (λk=>k ▸ h.1) (h.2 g)⟩
def OkG.pop{a:cR}(h:OkG e fr (a::A)):OkG e a A:=⟨h.2 a (.head _),λg z=>h.2 g (.tail _ z)⟩
def catcher(P:cU):cR:={ fn:=P.funcs.size,tmps:=#[],todo:=[.call { target:=.nil,args:=#[] } aL "fmt's door" #[]],defers:=[],mode:=.run,kind:=.normal }
def Fal(P:cU)(fr:cR):Prop:=(∃v,fr=(catcher P).finish v)\/∃ch,fr=(catcher P).raise ch
def ni(s:GStep):Prop:=∃o w es,s=.ended o w es
section
variable {e:Env}{β:Type}{main:Bool}{fr f:cR}{A c B:List cR}{x y:U}
def Sm(e:Env)(B:List cR)(st:cU->List cR->U->GStep):Prop:=∀x y,WP e x y->
 ni (st e.P [catcher e.P] x)\/(∃z x' es,st e.P [catcher e.P] x=.go (mk z []) x' es/\Fal e.P z)\/
 ∃z I x' es,st e.P [catcher e.P] x=.go (mk z (I++[catcher e.P])) x' es/\Mo x x'/\OkG e z I/\
  (Ans x x' y->∃y' E,st e.Q B y=.go (mk z (I++B)) y' E/\To e x x' y y'/\∀v∈E,Av e ↑x' v)
def Sm.of{s t:cU->List cR->U->GStep}(h:Sm e B s)(k:∀P,P=e.P\/P=e.Q->∀C w,t P C w=s P C w):Sm e B t:=by intro x y hw;rw[k _ (bE rfl)];rw[k _ (cD rfl)];exact h x y hw
def lM(z:OkG e f c):Sm e B λ_ C w=>.go (mk f (c++C)) w #[]:=λx y hw=>
 cD (cD ⟨f,c,x,#[],rfl,⟨jB,rfl,jB⟩,z,λ_=>⟨y,#[],rfl,hw.stay,aC⟩⟩)
def I7(h:∀w,ni (st e.P [catcher e.P] w)):Sm e B st:=λx _ _=>bE (h x)
def Vy{P:cU}(f:Nat){es:Array jz}:∀v∈seen P f es,v∈es:=by
 unfold seen;dsimp only;rw[<-Array.foldl_toList]
 have key:∀(l:List jz)(q:Bool)(k:Array jz),∀v∈(l.foldl (λ(q,kept) e=>match e.loc with
   |.mark (.extern f)=>((P.funcs[f]?).any (·.norace),kept)
   |_=>(q,if q&&!e.sync then kept else kept.push e)) (q,k)).2,v∈k\/v∈l:=by
  intro l
  induction l with
  |nil=>intro q k v z;exact bE z
  |cons a l ih=>
   intro q k v z;simp only[List.foldl_cons]at z;split at z
   .exact(ih _ _ v z).imp id (.tail _)
   .obtain h|h:=ih _ _ v z
    .split at h
     .exact bE h
     .obtain h|h:=Array.mem_push.1 h
      .exact bE h
      .exact cD (h ▸ .head _)
    .exact cD (.tail _ h)
 intro v z;obtain h|h:=key _ _ _ v z
 .simp at h
 .simpa using h
def ni.after{s:GStep}(h:ni s)(es:Array jz):ni (s.after es):=by obtain⟨o,w,z,rfl⟩:=h;exact⟨_,_,_,rfl⟩
def kU{o:Outcome}{w:U}{es:Array jz}:ni (.ended o w es):=⟨_,_,_,rfl⟩
def YW(r:Result β)(w:U):fine (put r w)=fine r:=by
 cases r with
 |ok a w=>rfl
 |halt h w=>cases h<;>rfl
def sZ{s:Sem β}(hs:Rb e s)(fn:ph)(K:cU->List cR->Result β->GStep)(h0:∀w r es,s.runT e.P w #[]=(r,es)->bad r=aR->ni (st e.P [catcher e.P] w))(h1:∀P,P=e.P\/P=e.Q->∀C w r es,s.runT P w #[]=(r,es)->fine r=aR->st P C w=gC (seen P fn es) (K P C r))(h2:∀x y r es,s.runT e.P x #[]=(r,es)->fine r=aR->WP e x y->ni (K e.P [catcher e.P] r)\/Sm e B λP C w=>K P C (put r w)):Sm e B st:=by
 intro x y hw;cases R:s.runT e.P x #[]with
 |mk r es1=>
 obtain hb|⟨hf,hq⟩:=hs x #[] r es1 R y hw
 .exact bE (h0 x r es1 R hb)
 have hm:=mono (P:=e.P) s x #[];rw[R]at hm;rw[h1 _ (bE rfl) _ _ _ _ R hf];obtain h|h:=h2 x y r es1 R hf hw
 .exact bE (h.after _)
 have hp:put r (wd r)=r:=by cases r<;>rfl
 obtain⟨y0,af,_,t0,_⟩:=((hs x _ r es1 R _ hw.own).resolve_left (Qw hf)).2 #[] λ_ _=>rfl;rcases h (wd r) y0 t0.wp with J|⟨E,x',es,J,hF⟩|⟨E,A',x',es,J,z,ac,_⟩<;>simp only[hp]at J
 .exact bE (J.after _)
 .exact cD (bE ⟨E,x',_,by rw[J];rfl,hF⟩)
 refine cD (cD ⟨E,A',x',_,by rw[J];rfl,z.of hm.1 hm.2.1 hm.2.2,ac,λha=>?_⟩);have h3:x.drawn<=(wd r).drawn:=hm.1;obtain⟨y1,ev,a1,I,a3⟩:=hq #[] λi hi=>ha i (by have:=z.1;omega);have hy:=h _ y1 I.wp;simp only[hp,J]at hy;obtain⟨aa,A2,x2,ag,e1,_,_,hz⟩:=(hy.resolve_left (by rintro⟨_,_,_,k⟩;cases k)).resolve_left (by rintro⟨_,_,_,k,_⟩;simp at k)
 obtain⟨rfl,rfl,rfl⟩:aa=E/\A2=A'/\x2=x':=by
  simp only[GStep.go.injEq,Goroutine.mk.injEq,and_true]at e1;exact⟨e1.1.1.symm,(jg e1.1.2).symm,e1.2.1.symm⟩
 obtain⟨y2,ae,b1,Y,b3⟩:=hz λi hi=>by
  have:=ha ((wd r).drawn-x.drawn+i) (by have:=z.1;omega);rw[I.tape,I.drawn,dV,this,show(wd r).tape=x.tape from hm.2.1,<-dV,Nat.add_sub_cancel' h3]
 refine⟨y2,seen e.Q fn (#[]++ev)++ae,?_,⟨Y.wp,Y.tape.trans I.tape,?_,λb hb=>(Y.dead b hb).trans (I.dead b hb),Y.still.1.trans I.still.1,Y.still.2.trans I.still.2⟩,λv hv=>?_⟩
 .rw[h1 _ (cD rfl) _ _ _ _ a1 (by rw[YW];exact hf)];rw[b1];rfl
 .rw[Y.drawn,I.drawn];have:=z.1;omega
 .obtain hv|hv:=Array.mem_append.1 hv
  .have:=Vy fn v hv;exact(a3 v (by simpa using this)).le z.2.2
  .exact b3 v hv
def tZ.set(h:tZ e fr){k:List pS}(hk:∀i∈k,pK e.P i=aR):tZ e { fr with todo:=k }:=⟨hk,h.defers,h.kind⟩
def qR{P:cU}:∀c:eE,oP P c=aR->readies c=[]
 |.region _ ops _,h=>by
  simp only[readies,List.filterMap_eq_nil_iff];intro o ho;have:=fF.1 h o ho;cases z:o.op<;>first|rfl|(rw[z]at this;cases this)
 |.seq a b,h|.cond _ a b,h|.rangeFunc _ _ a b,h=>by
  obtain⟨E,h2⟩:=iL.1 h;simp only[readies,qR a E,qR b h2,gI]
 |.block _ c,h|.loop c,h=>qR c h
 |.scope c,h=>by cases h
 |.skip,_|.exit _,_|.ret,_|.refuse _,_|.label _,_|.goto _,_=>rfl
def YD(F:Fit e){fr:cR}{cs:List cR}{g:Nat}{w:U}:ni (early e.P fr cs Z g w):=by
 have E:e.P.stepOf g=Z:=by
  unfold Program.stepOf;rw[Array.findIdx?_eq_none_iff];intro fn z;obtain⟨i,I,rfl⟩:=Array.getElem_of_mem z;cases J:(e.P.funcs[i]).body with
  |none=>rfl
  |some c=>simp[qR c (F.same i _ c (dA I) J).2]
 unfold early;simp only[F.early,Bool.not_true,bU,if_false,E];exact kU
end
end
section
variable {n:Next}{es es1:Array jz}{x x1:U}
section
variable {e:Env}{α:Type}
def Kd(e:Env):Next->Prop
 |.value _|.skip=>True
 |.enter f _=>∃fn c,e.F[f]? =M fn/\fn.body=M c
 |_=>False
def Pk(e:Env)(s:Sem Next):Prop:=∀x es n x1 es1,s.runT e.P x es=(.ok n x1,es1)->Kd e n
def Rd(x:U)(n:Next):Prop:=∃l f tmps a b z,n=.round l f tmps a b/\x.heap[l]? =M (.loop z)/\z.assign=a/\z.body=b
def oD{s:Sem α}{k:α->Sem Next}(h:∀a,Pk e (k a)):Pk e (s >>= k):=by
 intro x es n x1 es1 z;rw[runT_bind]at z;split at z
 .exact h _ _ _ _ _ _ z
 .cases z
def yh(h:Kd e n):Pk e (pure n):=by intro x es m x1 es1 z;cases z;exact h
def AQ(h:Halt):Pk e (.halt h):=by intro x es m x1 es1 z;cases z
def ae4{s:Sem X}:Pk e (do pure (.value (<-s))):=oD λ_=>yh trivial
def xO(x:RuntimeError):Pk e (runtimePanic x):=by unfold runtimePanic;refine oD λp=>?_;cases x<;>first|exact AQ _|exact oD λ_=>oD λ_=>AQ _
def DZ{P:cU}{l:Nat}{z:Loop}{W I:U}(h:(kh l).runT P W es=(.ok z I,es1)):W.heap[l]? =M (.loop z)/\I=W:=by
 have E:(kh l).runT P W es=match W.heap[l]? with
   |some (.loop z)=>(.ok z W,es.push ⟨.obj l,aL,aL⟩)
   |some (.cells ..)=>(.halt (.stuck "getObj: a row of cells") W,es)
   |some o=>(.halt (.stuck "range over a function: no such loop") W,es.push ⟨.obj l,aL,o.isChan⟩)
   |none=>(.halt (.stuck "getObj: no such block") W,es):=by
  show cS P (.getObj l _) W es=_
  simp only[cS];cases W.heap[l]? with
  |none=>rfl
  |some o=>cases o<;>rfl
 rw[E]at h;split at h<;>cases h;exact⟨by assumption,rfl⟩
variable (F:Fit e)
include F
def uK(f:ph)(args:Array X):Pk e (iA f args):=by
 intro x es n x1 es1 E;cases z:e.F[f]? with
 |none=>
  simp only[iA,program,bind,fY,cS,show e.P.funcs[f]? =Z from z]at E;cases E
 |some fn=>
  cases I:fn.body with
  |none=>obtain⟨v,rfl⟩:=(F.ext f fn args z I).2 x es n x1 es1 E;trivial
  |some c=>
   simp only[iA,program,bind,fY,cS,show e.P.funcs[f]? =M fn from z,F.name f fn z,I,Option.isNone_some,bU,if_false]at E;cases E;exact⟨fn,c,z,I⟩
def vK(v:X)(s:String)(args:Array X):Pk e (callMethod v s args):=by
 unfold callMethod;split
 .exact oD λ_=>oD λ_=>uK F _ _
 .exact xO _
 .exact AQ _
def Gm(g:Fn)(cap args:Array X)(z:(invoke (.fn g cap) args).runT e.P x es=(.ok n x1,es1)):Kd e n\/Rd x n:=by
 cases g with
 |func f=>exact bE (uK F _ _ _ _ _ _ _ z)
 |method nm=>
  left;revert z
  show(match args[0]? with|some recv=>_|_=>_:Sem Next).runT e.P x es=_->_
  split
  .exact λz=>vK F _ _ _ _ _ _ _ _ z
  .intro z;cases z
 |methodOf t nm=>
  left;revert z
  show(match args[0]? with|some recv=>_|_=>_:Sem Next).runT e.P x es=_->_
  split
  .exact λz=>(oD λ_=>vK F _ _ _) _ _ _ _ _ z
  .intro z;cases z
 |via t p f b=>
  left;revert z
  show(match args[0]? with|some recv=>_|_=>_:Sem Next).runT e.P x es=_->_
  split
  .exact λz=>(oD λ_=>uK F _ _) _ _ _ _ _ z
  .intro z;cases z
 |yield l=>
  right;revert z
  show(Instr.yield l args).runT e.P x es=_->_
  unfold Instr.yield;rw[runT_bind];intro z;split at z
  .rename_i R w1 I E;obtain⟨J,rfl⟩:=DZ E;split at z
   .cases z
   .cases z;exact⟨l,_,_,_,_,R,rfl,J,rfl,rfl⟩
  .cases z
def Sl(ρ:jN->X)(o:Oper)(h:Ym e.P o.op=aR)(z:(bN ρ o).runT e.P x es=(.ok n x1,es1)):Kd e n\/Rd x n:=by
 by_cases hc:∃f args ts,o.op=.call { callee:=.value f,args,argTypes:=ts }
 .obtain⟨f,args,ts,ho⟩:=hc;unfold bN at z;rw[ho]at z;revert z
  show(km (ρ f) _ >>= λd=>invoke d.target d.args).runT e.P x es=_->_
  unfold km;split
  .exact λz=>Gm F _ _ _ z
  .show(runtimePanic .nilDeref:Sem Next).runT e.P x es=_->_
   exact λz=>bE (xO _ _ _ _ _ _ z)
  .intro z;cases z
 .left;revert z
  have:Pk e (bN ρ o):=by
   unfold bN;cases ho:o.op<;>rw[ho]at h<;>first|(cases h;done)|exact ae4|exact yh trivial|exact oD (λ_=>yh trivial)|skip
   case nilCheck=>
    dsimp only
    repeat' first|exact yh trivial|exact xO _|exact AQ _|with_reducible refine oD λ_=>?_|split
   case call c=>
    obtain⟨callee,args,ts⟩:=c;cases callee with
    |invoke _ _=>cases h
    |value f=>exact Xs ⟨f,args,ts,ho⟩ hc
    |builtin b=>cases b<;>first|(cases h;done)|exact ae4
  exact this _ _ _ _ _
end
end
section
variable {s:Sem Next}
section
variable {e:Env}{β:Type}{main:Bool}{fr f:cR}{A cs c B:List cR}{x y:U}
def tZ.finish(h:tZ e fr)(v:X):tZ e (fr.finish v):=by
 have ht:=h.todo;unfold Frame.finish;split
 .rename_i hk;rw[hk]at ht;refine⟨λi z=>?_,h.defers,h.kind⟩;obtain rfl|z:=dD.1 z
  .exact(ht _ (.head _):)
  .exact ht _ (.tail _ z)
 .rename_i hk;rw[hk]at ht;exact⟨λi z=>(dD.1 z).elim (λh=>by rw[h];rfl) λz=>ht _ (.tail _ z),h.defers,h.kind⟩
 .rename_i hk;rw[hk]at ht;exact⟨λi z=>ht _ (.tail _ z),h.defers,h.kind⟩
 .rename_i hk;rw[hk]at ht;exact Xs (ht _ (.head _)) (by simp[pK])
 .rename_i hk;rw[hk]at ht;exact Xs (ht _ (.head _)) (by simp[pK])
 .exact h
def tZ.raise(h:tZ e fr)(ch:List PanicEntry):tZ e (fr.raise ch):=by unfold Frame.raise;split<;>exact⟨h.todo,h.defers,h.kind⟩
def tZ.head(h:tZ e fr){d w r s k}:fr.todo≠.call d w r s::k:=λhk=>by
 have:=h.todo (.call d w r s) (by rw[hk];exact .head _);cases this
def uX(s:GStep):gC #[] s=s:=by cases s<;>simp[gC]
def rX(P:cU)(f:ph):seen P f #[]=#[]:=rfl
def Zk:Result β->Sem β
 |.ok a _=>pure a
 |.halt h _=>.halt h
def FK{P:cU}{w:U}{r:Result Next}{es:Array jz}(E:s.runT P w #[]=(r,es))(hk:fr.kind=.normal):stepG.apply P aR fr cs Z s w=gC (seen P fr.fn (match r with|.halt .blocked _|.halt .waiting _|.halt (.unsupported (.initOrder _)) _=>#[]|_=>es)) (stepG.apply P aR fr cs Z (Zk r) (wd r)):=by
 have h2:(Zk r).runT P (wd r) #[]=(r,#[]):=by cases r<;>rfl
 have z:(fr.kind == CallKind.early)=aL:=by rw[hk];rfl
 conv=>lhs;unfold stepG.apply
 conv=>rhs;arg 2;unfold stepG.apply
 simp only[E,h2,if_true,z,bU,if_false];cases r with
 |ok n w=>exact Z1 _ (uX _).symm
 |halt h w=>
  cases h with
  |unsupported u=>cases u<;>exact Z1 _ (uX _).symm
  |_=>exact Z1 _ (uX _).symm
def yN(F:Fit e)(z:OkG e fr A)(hs:Rb e s)(hk:∀x es n x1 R,s.runT e.P x es=(.ok n x1,R)->Kd e n\/Rd x n):Sm e B λP C w=>stepG.apply P aR fr (A++C) Z s w:=by
 have kd:(match fr.todo with|.call _ aR _ _::_=>CallKind.wrapped|_=>.normal)=.normal:=by
  split
  .exact Xs (by assumption) z.1.head
  .rfl
 refine sZ hs fr.fn (λP C r=>stepG.apply P aR fr (A++C) Z (Zk r) (wd r)) ?_ ?_ ?_
 .intro w r es I E;rw[FK I z.1.kind];refine ni.after ?_ _;cases r with
  |ok n w=>cases E
  |halt h w=>
   cases h<;>first|(cases E;done)|skip
   .unfold stepG.apply;refine ni.after ?_ _;rename_i u;cases u<;>first|exact YD F|exact kU
   .unfold stepG.apply;exact ni.after kU _
 .intro P _ C w r es I E;rw[FK I z.1.kind];cases r with
  |ok n w=>rfl
  |halt h w=>cases h<;>first|rfl|cases E
 .intro x y r es I E hw;have go:∀f c,OkG e f c->(∀P,P=e.P\/P=e.Q->∀C w,stepG.apply P aR fr (A++C) Z (Zk (put r w)) (wd (put r w))=.go (mk f (c++C)) w #[])->Sm e B λP C w=>stepG.apply P aR fr (A++C) Z (Zk (put r w)) (wd (put r w)):=λf c aa h=>(lM aa).of h;right;cases r with
  |halt h w=>
   cases h<;>first|(cases E;done)|skip
   rename_i v;exact go (fr.raise [{ v,recovered:=aL }]) A (z.top (z.1.raise _)) λP _ C w'=>by unfold stepG.apply;simp[Zk,cS,rX,gC,wd,put]
  |ok n w=>
   obtain hn|⟨l,g,tmps,a,b,lp,rfl,hl,rfl,rfl⟩:=hk x _ _ _ _ I
   .cases n<;>first|(cases hn;done)|skip
    .rename_i v;exact go (fr.finish v) A (z.top (z.1.finish _)) λP _ C w'=>by unfold stepG.apply;simp[Zk,cS,pure,rX,gC,wd,put]
    .exact go (fr.finish undef) A (z.top (z.1.finish _)) λP _ C w'=>by unfold stepG.apply;simp[Zk,cS,pure,rX,gC,wd,put]
    .rename_i g args;obtain⟨fn,c,Y,h2⟩:=hn;obtain⟨h3,h4⟩:=F.same g fn c Y h2;refine go (iS e.P g args _) _ (z.push ⟨λi J=>?_,λd hd=>?_,rfl⟩) λP hP C w'=>?_
     .simp only[iS,show e.P.funcs[g]? =M fn from Y,gX,h2,fH,dK]at J;subst J;exact h4
     .simp[iS]at hd
     .have:iS e.P g args .normal=iS P g args .normal:=by
       unfold iS;obtain rfl|rfl:=hP
       .rfl
       .rw[show e.P.funcs[g]? =M fn from Y,show e.Q.funcs[g]? =M fn from h3]
      rw[this];unfold stepG.apply;simp[Zk,cS,pure,rX,gC,wd,put];exact Z1 _ kd
   .obtain⟨o1,o2,_⟩:=hw.objs l _ hl;refine go (Frame.round l g tmps lp.assign lp.body _) _ (z.push ⟨λi J=>?_,λd hd=>?_,rfl⟩) λP _ C w'=>by unfold stepG.apply;simp[Zk,cS,pure,rX,gC,wd,put]
    .simp only[Frame.round,dD,List.not_mem_nil,or_false]at J;obtain rfl|rfl|rfl:=J
     .exact(F.code _).1 o1
     .rfl
     .exact(F.code _).1 o2
    .simp[Frame.round]at hd
end
end
section
variable {l:Nat}{a b:eE}{P:cU}{x x1:U}{es es1:Array jz}
section
variable {e:Env}{α:Type}
def LP{k:Loop->Sem α}(hk:¬e.D l->∀r,xG e (.loop r)->Rb e (k r)):Rb e (kh l >>= k):=by unfold kh;rw[bind_assoc];refine GO ⟨⟨_,rfl⟩,λ_ _=>⟨_,rfl⟩⟩ λhd o ho=>?_;cases o<;>first|exact H _|exact hk hd _ ho
def Pj(l:Nat)(j:Option eE)(E:∀c,j=M c->e.C c):Rb e (m8 l j):=by unfold m8;exact LP λhd r z=>B (nM hd ⟨z.1,z.2.1,E⟩) λ_=>X2 _
def Ig(l:Nat):Rb e (nQ l):=by
 unfold nQ;refine LP λhd r z=>B (nM hd z) λ_=>?_;split
 .exact X2 _
 all_goals exact nC _
def Sr(l:Nat):Rb e (nE l):=by unfold nE;refine LP λhd r z=>?_;dsimp only;refine IT (B (nC _) λ_=>B (nM hd z) λ_=>X2 _) (B (nM hd z) λ_=>X2 _)
def L8(fn:ph)(tmps:Array X)(ps:Array Tmp)(z:e.C a)(E:e.C b)(l:Option Nat):Rb e (mH fn tmps ps a b l):=by
 unfold mH;have key:∀d m,Rb e (do pure (<-newObj (.loop { state:=.ready,pending:=Z,fn,tmps,params:=ps,assign:=a,body:=b,defers:=d }),m):Sem (Nat×List Deferred)):=λd m=>NB ⟨z,E,by intro c h;cases h⟩ λ_ _=>X2 _;cases l with
 |some l=>exact B (U0 l) λ_=>key _ _
 |none=>exact NB rfl λ_ _=>key _ _
def CY(b:Nat):Rb e (lP b):=by
 unfold lP;refine GO ⟨⟨_,rfl⟩,λ_ _=>⟨_,rfl⟩⟩ λhd o ho=>?_;cases o<;>first|exact H _|skip
 rename_i ds;cases ds with
 |none=>exact H _
 |some ds=>exact B (nM hd trivial) λ_=>X2 _
def Tn(fn:pZ)(tmps:Array X):Rb e (results fn tmps):=by
 unfold results;refine B (Ya (λr=>?_)) λ_=>X2 _;cases r with
 |tmp t=>exact X2 _
 |cell a t=>exact B (YH) λ_=>UE
def entered{fn:ph}{tmps:Array X}{ps:Array Tmp}{o:Option Nat}{m:List Deferred}(h:(mH fn tmps ps a b o).runT P x es=(.ok (l,m) x1,es1)):∀d∈m,∃r,d.target=.collected r:=by
 unfold mH at h;cases o with
 |none=>
  cases h;simp
 |some o=>
  simp only[runT_bind]at h;split at h
  .cases h;simp
  .cases h
def taken{P:cU}{b:Nat}{x x1 y:U}{es es1:Array jz}{ds:List Deferred}(hw:WP e x y)(h:(lP b).runT P x es=(.ok ds x1,es1)):ds=[]:=by
 cases ho:x.heap[b]? with
 |none=>
  simp only[lP,getObj,bind,fY,cS,ho]at h;cases h
 |some o=>
  have z:=hw.objs b o ho
  have:cS P (.getObj b λo=>(match o with
   |.deferred (M ds)=>do setObj b (.deferred Z);pure ds
   |_=>stuck "range over a function: the deferred calls have been taken":Sem (List Deferred))) x es=(.ok ds x1,es1):=h
  simp only[cS,ho]at this;cases o<;>first|(cases this;done)|skip
  rename_i d;cases d with
  |none=>cases this
  |some d=>
   simp only[setObj,bind,fY,cS,ho,pure]at this;cases this;exact z
def ended{y:U}{j:Option eE}(hw:WP e x y)(h:(nE l).runT P x es=(.ok j x1,es1)):∀c,j=M c->e.C c:=by
 unfold nE at h;rw[runT_bind]at h;split at h
 .rename_i R w1 I E;obtain⟨J,rfl⟩:=DZ E;have z:=hw.objs l _ J;dsimp only at h;split at h
  .rw[runT_bind]at h;cases h
  .rw[runT_bind]at h;split at h
   .cases h;exact z.2.2
   .cases h
 .cases h
end
end
section
section
variable {e:Env}{main:Bool}{fr f:cR}{A c XX:List cR}
def wJ(z:OkG e fr A)(v:X):Sm e XX λP C w=>doReturn P main fr (A++C) Z v w:=by
 cases A with
 |cons a l=>exact(lM (z.pop.top ((z.2 a (.head _)).finish v))).of λP _ C w=>by simp only[doReturn,z.1.kind,dN]
 |nil=>exact λx y hw=>cD (bE ⟨_,x,#[],by simp only[doReturn,z.1.kind,dS],bE ⟨v,rfl⟩⟩)
def BH:Option eE->Bool
 |none|some .ret=>aR
 |_=>aL
def yx(z:OkG e fr A){st:cU->List cR->U->GStep}(j:Option eE)(hj:∀c,j=M c->e.C c)
  (I:fr.roundOf=Z->∀P C w,st P C w=if BH j=aR then .go (mk { fr with mode:=.returning } (A++C)) w else .ended (.stuck "exit, goto: no such block or label" (fr.pos P)) w)
  (h1:∀l,fr.roundOf=M l->∀P C w,st P C w=gC (seen P fr.fn ((m8 l j).runT P w #[]).2) (match ((m8 l j).runT P w #[]).1 with
    |.ok v w=>doReturn P main fr (A++C) Z v w
    |.halt _ w=>.ended (.stuck "range over a function: no such loop" (fr.pos P)) w)):Sm e XX st:=by
 cases E:fr.roundOf with
 |none=>
  by_cases J:BH j=aR
  .exact(lM (f:={ fr with mode:=.returning }) (z.top ⟨z.1.todo,z.1.defers,z.1.kind⟩)).of λP _ C w=>by rw[I E,ZD J]
  .exact I7 λw=>by rw[I E,Zs J];exact kU
 |some l=>
  refine sZ (Pj l j hj) fr.fn (λP C r=>match r with
    |.ok v w=>doReturn P main fr (A++C) Z v w
    |.halt _ w=>.ended (.stuck "range over a function: no such loop" (fr.pos P)) w) ?_ ?_ ?_
  .intro w r es Y R;rw[h1 l E,Y];refine ni.after ?_ _;cases r with
   |ok v w=>cases R
   |halt h w=>exact kU
  .grind
  .intro x y r es Y R hw;cases r with
   |halt h w=>exact bE kU
   |ok v w=>exact cD (wJ z v)
def aax{P:cU}{id:Nat}:∀{k k':List pS},exitTo id k=M k'->(∀i∈k,pK P i=aR)->∀i∈k',pK P i=aR:=by
 intro k
 induction k with
 |nil=>intro k' h;cases h
 |cons a k ih=>
  intro k' h hk;have z:∀i∈k,pK P i=aR:=λi E=>hk i (.tail _ E);cases a<;>simp only[exitTo]at h
  case inBlock=>
   grind
  all_goals exact ih h z
def ZU(F:Fit e)(J:OkG e fr A)(I:fr.mode=.run):Sm e XX λP C w=>eC P main (mk fr (A++C)) w:=by
 have set:∀{k:List pS},(∀i∈k,pK e.P i=aR)->OkG e { fr with todo:=k } A:=λhk=>J.top (J.1.set hk);cases ht:fr.todo with
 |nil=>exact yx J Z (by intro c h;cases h) (λR P C w=>by simp[eC,stepG.exec,I,ht,R,BH]) (λl R P C w=>by simp[eC,stepG.exec,I,ht,R];rfl)
 |cons i k=>
  have z:=J.1.todo i (by rw[ht];exact .head _);have hk:∀i∈k,pK e.P i=aR:=λi z=>J.1.todo i (by grind)
  have one:∀{a:pS}{k:List pS},pK e.P a=aR->(∀i∈k,pK e.P i=aR)->∀i∈a::k,pK e.P i=aR:=λha hk i z=>by
   grind
  cases i with
  |inBlock id=>exact(lM (set hk)).of λP _ C w=>by simp[eC,stepG.exec,I,ht]
  |inLoop b=>exact(lM (f:={ fr with todo:=.code b::.inLoop b::k }) (set (one z (one z hk)))).of λP _ C w=>by simp[eC,stepG.exec,I,ht]
  |inScope b=>cases z
  |call d w r s=>cases z
  |extern r a=>cases z
  |inRangeFunc l=>exact I7 λw=>by simp[eC,stepG.exec,I,ht];exact kU
  |inRegion ops l=>
   cases l with
   |nil=>exact(lM (set hk)).of λP _ C w=>by simp[eC,stepG.exec,I,ht]
   |cons i l=>
    by_cases hw:((ops[i]?).map (Region.wanted · (yielded ops fr.tmps))).getD aL=aR
    .obtain⟨o,ho⟩:∃o,ops[i]? =M o:=by
      grind
     have aa:=fF.1 z o (by grind);refine(yN F J (WE F fr.eval (λv=>rfl) o aa) λx es n x1 ac E=>Sl F _ o aa E).of λP _ C w=>?_;have ae:fr.oper? =M o:=by simp only[Frame.oper?,ht,ho]
     simp only[eC,stepG.exec,I,ht,hw,if_true,stepG.oper,ae];split
     .rename_i hd _;rw[‹o.op=_›]at aa;cases aa
     .rfl
    .exact(lM (J.top (J.1.finish undef))).of λP _ C w=>by simp[eC,stepG.exec,I,ht,hw]
  |endRangeFunc l=>
   refine sZ (Sr l) fr.fn (λP C r=>match r with
    |.ok j w=>.go (mk { fr with todo:=(j.map Item.code).toList++k } (A++C)) w
    |.halt (.panic v) w=>.go (mk (fr.raise [{ v,recovered:=aL }]) (A++C)) w
    |.halt _ w=>.ended (.stuck "range over a function: no such loop" (fr.pos P)) w) ?_ ?_ ?_
   .intro w r es E Y;simp only[eC,stepG.exec,I,ht,E];refine ni.after ?_ _;cases r with
    |ok v w=>cases Y
    |halt h w=>cases h<;>first|(cases Y;done)|exact kU
   .intro P _ C w r es E _;simp only[eC,stepG.exec,I,ht,E]
    grind
   .intro x y r es E Y hw;cases r with
    |ok j w=>
     refine cD (lM (set λi z=>?_));obtain z|z:=dM.1 z
     .cases j with
      |none=>cases z
      |some c=>
       simp only[cO,Option.toList_some,dK]at z;subst z;exact(F.code _).1 (ended hw E c rfl)
     .exact hk i z
    |halt h w=>cases h<;>first|(cases Y;done)|exact bE kU|exact cD (lM (J.top (J.1.raise _)))
  |beginRound=>
   refine(yN F J (s:=do fr.roundOf.elim (stuck "beginRound: no round") nQ;pure _) (B ?_ λ_=>X2 _) λx es n x1 ac E=>bE ((oD (k:=λ_=>pure _) λ_=>yh (n:=.skip) trivial) _ _ _ _ _ E)).of λP _ C w=>by simp only[eC,stepG.exec,I,ht]
   cases fr.roundOf with
   |none=>exact H _
   |some l=>exact Ig l
  |code c=>
   cases c with
   |skip=>exact(lM (set hk)).of λP _ C w=>by simp[eC,stepG.exec,I,ht]
   |label l=>cases z
   |goto l=>cases z
   |scope b=>cases z
   |refuse s=>exact I7 λw=>by simp[eC,stepG.exec,I,ht];exact kU
   |ret=>exact yx J (M .ret) (by intro c h;cases h;exact(F.code _).2 rfl) (λR P C w=>by simp[eC,stepG.exec,I,ht,R,BH]) (λl R P C w=>by simp[eC,stepG.exec,I,ht,R];rfl)
   |seq a b=>exact(lM (f:={ fr with todo:=.code a::.code b::k }) (set (one (iL.1 z).1 (one (iL.1 z).2 hk)))).of λP _ C w=>by simp[eC,stepG.exec,I,ht]
   |block id b=>exact(lM (f:={ fr with todo:=.code b::.inBlock id::k }) (set (one z (one rfl hk)))).of λP _ C w=>by simp[eC,stepG.exec,I,ht]
   |loop b=>exact(lM (f:={ fr with todo:=.code b::.inLoop b::k }) (set (one z (one z hk)))).of λP _ C w=>by simp[eC,stepG.exec,I,ht]
   |cond o a b=>
    by_cases hb:∃q,fr.eval o=.bool q
    .obtain⟨q,hq⟩:=hb;exact(lM (f:={ fr with todo:=.code (if q then a else b)::k }) (set (one (by cases q;exact(iL.1 z).2;exact(iL.1 z).1) hk))).of λP _ C w=>by simp[eC,stepG.exec,I,ht,hq]
    .refine I7 λw=>?_;simp only[eC,stepG.exec,I,ht];cases hq:fr.eval o with
     |bool q=>grind
     |_=>exact kU
   |exit id=>
    cases hx:exitTo id k with
    |some k'=>exact(lM (f:={ fr with todo:=k' }) (set (aax hx hk))).of λP _ C w=>by simp[eC,stepG.exec,I,ht,hx]
    |none=>exact yx J (M (.exit id)) (by intro c h;cases h;exact(F.code _).2 rfl) (λR P C w=>by simp[eC,stepG.exec,I,ht,hx,R,BH]) (λl R P C w=>by simp[eC,stepG.exec,I,ht,hx,R];rfl)
   |region id ops d=>
    cases d with
    |false=>exact(lM (f:={ fr with todo:=.inRegion ops (List.range ops.size)::k }) (set (one z hk))).of λP _ C w=>by simp[eC,stepG.exec,I,ht]
    |true=>
     refine sZ (jU (.order fr.fn id)) fr.fn (λP C r=>match r with
      |.ok t w=>.go (mk { fr with todo:=.inRegion ops (Region.schedule (e.T.follows .mixedOrders) ops t)::k } (A++C)) w
      |.halt _ w=>.ended (.stuck "order" (fr.pos P)) w) ?_ ?_ ?_
     .intro w r es E Y;simp only[choose,cS,Question.forced,bU,if_false]at E;cases E;cases Y
     .intro P hP C w r es E _;have hT:P.follows .mixedOrders=e.T.follows .mixedOrders:=by rcases hP with rfl|rfl<;>rfl
      simp only[choose,cS,Question.forced,bU,if_false]at E;cases E;simp only[eC,stepG.exec,I,ht,choose,Sem.run,Question.forced,bU,if_false,Bool.not_true,hT,rX,uX]
     .intro x y r es E Y hw;cases r with
      |ok t w=>exact cD (lM (set (one z hk)))
      |halt h w=>exact bE kU
   |rangeFunc o ps a b=>
    obtain⟨ha,hb⟩:=iL.1 z
    refine sZ (L8 fr.fn fr.tmps ps ((F.code _).2 ha) ((F.code _).2 hb) fr.roundOf) fr.fn (λP C r=>match r with
      |.ok (l,m) w=>stepG.apply P aR { fr with todo:=.inRangeFunc l::k,defers:=m++fr.defers } (A++C) Z (do let d <-km (fr.eval o) #[.func (.yield l) #[] #[]];invoke d.target d.args) w
      |.halt _ w=>.ended (.stuck "range over a function: no such loop" (fr.pos P)) w) ?_ ?_ ?_
    .intro w r es E Y;simp only[eC,stepG.exec,I,ht,E];refine ni.after ?_ _;cases r with
     |ok v w=>cases Y
     |halt h w=>exact kU
    .intro P _ C w r es E _;have ag:∀f:cR,f.tmps=fr.tmps->f.eval=fr.eval:=λf h=>funext λo=>by cases o<;>simp only[Frame.eval,h]
     simp only[eC,stepG.exec,I,ht,E];cases r with
     |ok v w=>
      obtain⟨l,m⟩:=v;simp only[resolve];rw[ag { fr with todo:=.inRangeFunc l::k,defers:=m++fr.defers,mode:=.run } rfl,show Array.map fr.eval #[.const (.func (.yield l) #[] #[])]=#[.func (.yield l) #[] #[]] from by simp[Frame.eval]]
     |halt h w=>rfl
    .intro x y r es E Y hw;cases r with
     |halt h w=>exact bE kU
     |ok p w=>
      obtain⟨l,m⟩:=p;have af:OkG e { fr with todo:=.inRangeFunc l::k,defers:=m++fr.defers } A:=J.top ⟨one rfl hk,λd hd=>(dM.1 hd).elim (λh=>entered E d h) (J.1.defers d),J.1.kind⟩;refine cD (yN F af ?_ ?_)
      .unfold km;split
       .exact Du F _ _ _
       .show Rb e (runtimePanic .nilDeref:Sem Next)
        exact nC _
       .exact H _
      .intro x es n x1 ac;unfold km;split
       .exact λE=>Gm F _ _ _ E
       .show(runtimePanic .nilDeref:Sem Next).runT e.P x es=_->_
        exact λE=>bE (xO _ _ _ _ _ _ E)
       .intro E;cases E
def Oe(F:Fit e)(I:OkG e fr A)(hm:fr.mode≠.run):Sm e XX λP C w=>eC P main (mk fr (A++C)) w:=by
 have E:∀P C w,eC P main (mk fr (A++C)) w=unwind P main fr (A++C) Z w:=λP C w=>by
  cases h:fr.mode with
  |run=>exact Xs h hm
  |_=>simp only[eC,h]
 cases hd:fr.defers with
 |cons d ds=>
  obtain⟨b,hb⟩:=I.1.defers d (by rw[hd];exact .head _);obtain⟨t,as⟩:=d;cases hb
  refine sZ (CY b) fr.fn (λP C r=>match r with
    |.ok calls w=>.go (mk { fr with defers:=calls++ds } (A++C)) w
    |.halt _ w=>.ended (.stuck "the deferred calls of a range-over-func loop have been taken" (fr.pos P)) w) ?_ ?_ ?_
  .intro w r es z hf;simp only[E,unwind,hd,z];refine ni.after ?_ _;cases r with
   |ok v w=>cases hf
   |halt h w=>exact kU
  .intro P _ C w r es z _;simp only[E,unwind,hd,z];cases r<;>rfl
  .intro x y r es z hf hw;cases r with
   |halt h w=>exact bE kU
   |ok c w=>
    cases taken hw z;exact cD (lM (I.top ⟨I.1.todo,λd h=>I.1.defers d (by grind),I.1.kind⟩))
 |nil=>
  cases R:fr.mode with
  |run=>exact Xs R hm
  |panicking ch=>
   have hc:∀P,fr.catches P=aL:=λP=>by
    unfold Frame.catches;split
    .rename_i hk;exact Xs hk I.1.head
    .rfl
   cases A with
   |cons a l=>exact(lM (I.pop.top ((I.2 a (.head _)).raise ch))).of λP _ C w=>by rw[E];simp[unwind,hd,R,hc]
   |nil=>exact λx y hw=>cD (bE ⟨_,x,#[],(E _ _ _).trans (by simp[unwind,hd,R,hc]),cD ⟨ch,rfl⟩⟩)
  |returning=>
   have z:=F.results fr.fn;cases Y:e.F[fr.fn]? with
   |none=>
    have hG:e.G[fr.fn]? =Z:=by
     rw[Y]at z;cases hG:e.G[fr.fn]? with
     |none=>rfl
     |some g=>rw[hG]at z;cases z
    refine(wJ (main:=main) I (fr.tmps.getD 0 undef)).of λP hP C w=>?_;have:P.funcs[fr.fn]? =Z:=by obtain rfl|rfl:=hP;exact Y;exact hG
    simp only[E,unwind,hd,R,this]
   |some fn=>
    refine sZ (Tn fn fr.tmps) fr.fn (λP C r=>match r with
     |.ok v w=>doReturn P main fr (A++C) Z v w
     |.halt (.stuck s) w=>.ended (.stuck s (fr.pos P)) w
     |.halt _ w=>.ended (.stuck "return: the result variables cannot be read" (fr.pos P)) w) ?_ ?_ ?_
    .intro w r es z hf;simp only[E,unwind,hd,R,show e.P.funcs[fr.fn]? =M fn from Y,z];refine ni.after ?_ _;cases r with
     |ok v w=>cases hf
     |halt h w=>cases h<;>exact kU
    .intro P hP C w r es aa _
     obtain⟨J,h1,h2⟩:∃J,P.funcs[fr.fn]? =M J/\results J fr.tmps=results fn fr.tmps:=by
      obtain rfl|rfl:=hP
      .exact⟨fn,Y,rfl⟩
      .rw[Y]at z;cases hG:e.G[fr.fn]? with
       |none=>rw[hG]at z;cases z
       |some g=>
        rw[hG]at z;have h3:g.results=fn.results:=fC z;exact⟨g,rfl,by unfold results;rw[h3]⟩
     simp only[E,unwind,hd,R,h1,h2,aa]
     grind
    .intro x y r es z hf hw;cases r with
     |ok v w=>exact cD (wJ I v)
     |halt h w=>cases h<;>exact bE kU
def sim(F:Fit e)(E:OkG e fr A):Sm e XX λP C w=>eC P main (mk fr (A++C)) w:=by
 by_cases z:fr.mode=.run
 .exact ZU F E z
 .exact Oe F E z
end
end
end Po
