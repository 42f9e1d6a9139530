import Derived.Test.YtpibpdpedjinhaaGreatDoorP02
import Derived.Laws.Sem
set_option maxRecDepth 100000
set_option linter.all false
open Bool renaming false->pi,true->pw
open Go renaming Code->vy,Event->Zx,Frame->tg,Operand->ZT,Program->th,TypeId->wj,Value->po,World->pn,callFunc->Yk,execOp->rj,stepG->vi
open Go.Builtin renaming append_->By,copy_->qaF,delete_->YG,firstCells->qaG,holdsCells->ZQ,lenOf->qbd,len_->YP,mayShare->qad,unsafeString_->qat
open Go.Deferred renaming ofValue->YA
open Go.Frame renaming enter->X4
open Go.GStep renaming after->zv
open Go.Instr renaming beginRound->qar,buildSlice->qas,endLoop->qal,endRound->Z4,enterLoop->ZR,getLoop->Yz,index->YJ,indexAt->Yc,keyThatStays->qaR,mapUpdate->qaB,slice->ZN,takeDeferred->Zt
open Go.Op renaming equalIn->qaW
open Go.Sem renaming bind->yz,runT->tp
open Go.World renaming shape?->sx
open Option renaming none->X,some->N
open Or renaming inl->rr,inr->rz,resolve_left->qae
namespace Go.Proofs.YtpibpdpedjinhaaGreatDoor
namespace Po
open Go
section
section
variable {e:Env}{α β γ σ:Type}
@[simp] def Uf(t):Rb e (typeInfo t):=PR R TB
@[simp] def iF(t):Rb e (underlying t):=PR R TB
@[simp] def UV(q):Rb e (choose q):=gC q
@[simp] def WR(a):Rb e (load a):=B9 a
@[simp] def Vx(a):Rb e (frozen a):=Ja a
@[simp] def Lv(r):Rb e (viewAt r):=J5 r
@[simp] def T2(r):Rb e (numberAt r):=Du r
@[simp] def JR(r):Rb e (cellsIn r):=F5 r
@[simp] def Tf(a b):Rb e (mayBeOne a b):=Dp a b
def GQ{f:γ->σ->Sem (ForInStep σ)}(h:∀x s,Rb e (f x s)):∀(l:List γ)(s),Rb e (forIn l s f):=by
 intro l
 induction l with
 |nil=>intro s;exact Zq _
 |cons x l ih=>
  intro s;rw[List.forIn_cons];refine B (h x s) λa=>?_;cases a
  .exact Zq _
  .exact ih _
def sK{f:γ->σ->Sem (ForInStep σ)}(h:∀x s,Rb e (f x s))(l:Array γ)(s):Rb e (forIn l s f):=by rw[<-Array.forIn_toList];exact GQ h _ s
def yF{f:Nat->σ->Sem (ForInStep σ)}(h:∀x s,Rb e (f x s))(n s):Rb e (forIn [:n] s f):=by rw[Std.Legacy.Range.forIn_eq_forIn_range'];exact GQ h _ s
def Qi{f:γ->Sem α}(h:∀x,Rb e (f x)){l:List γ}:Rb e (l.mapM f):=by
 induction l with
 |nil=>exact Zq _
 |cons x l ih=>
  rw[List.mapM_cons];exact B (h x) λ_=>B ih λ_=>Zq _
def MJ{f:γ->Sem α}(h:∀x,Rb e (f x)){xs:Array γ}:Rb e (xs.mapM f):=by rw[Array.mapM_eq_mapM_toList];exact B (Qi h) λ_=>Zq _
def zC{f:po->po->Sem po}(h:∀x y,Rb e (f x y)):∀(l:List po)(x),Rb e (l.foldlM f x)
 |[],_=>Zq _
 |y::l,x=>by rw[List.foldlM_cons];exact B (h x y) λ_=>zC h l _
@[simp] def RN(t):Rb e (zeroValue t):=by unfold zeroValue;exact TB
@[simp] def nV(t):Rb e (sizeOf t):=by unfold sizeOf;exact TB
@[simp] def Wn(t):Rb e (isAgg t):=by unfold isAgg;exact TB
@[simp] def Uo(t):Rb e (typeStr t):=by unfold typeStr;exact TB
@[simp] def M9(t):Rb e (elemOf t):=by unfold elemOf;exact TB
@[simp] def GE(a):∀(n i acc),Rb e (loadCellsFrom a i n acc)
 |0,_,_=>Zq _
 |n+1,_,_=>B (B9 _) λ_=>GE a n _ _
@[simp] def CK(a):∀(vs i),Rb e (storeCells a vs i)
 |[],_=>Zq _
 |_::vs,_=>B (Nl _ _) λ_=>CK a vs _
@[simp] def uL(a n):Rb e (loadCells a n):=by unfold loadCells;exact TB
@[simp] def JE(t a):Rb e (loadVar t a):=by unfold loadVar;exact TB
@[simp] def Sy(t a v):Rb e (storeVar t a v):=by unfold storeVar;exact TB
def NR{t c}{k:Addr->Sem α}(b:∀a,¬e.4 a.1->Rb e (k a)):Rb e (newRow t c >>= k):=
 NB (k:=λr=>k ⟨r,0,X⟩) trivial λ_ d=>b _ d
@[simp] def N8(t c):Rb e (newRow t c):=NR (k:=λa=>pure a) λ_ _=>Zq _
@[simp] def UG(t v):Rb e (newVar t v):=N8 _ _
@[simp] def nO(t c o):Rb e (part t c o):=by unfold part;exact TB
@[simp] def jZ(x):Rb e (runtimePanic x:Sem α):=by unfold runtimePanic;refine PR (by cases x<;>rfl) ?_;cases x<;>exact TB
@[simp] def Ol(k x y c):Rb e (boundsPanic k x y c:Sem α):=by unfold boundsPanic;exact TB
@[simp] def T8(v):Rb e (asIntOf v):=by unfold asIntOf;exact TB
@[simp] def UL(v):Rb e (asBool v):=by unfold asBool;exact TB
@[simp] def Wo(v):Rb e (asAgg v):=by unfold asAgg;exact TB
@[simp] def Nr(v):Rb e (asAddr v):=by unfold asAddr;exact TB
@[simp] def Hf(v):Rb e (asInt v):=by unfold asInt;exact TB
@[simp] def TE(v):Rb e (Instr.sureAddr v):=by unfold Instr.sureAddr;exact TB
@[simp] def Vt(t v):Rb e (Instr.loadAt t v):=by unfold Instr.loadAt;exact TB
@[simp] def Uu(t v u):Rb e (Instr.storeAt t v u):=by unfold Instr.storeAt;exact TB
@[simp] def MB(a):Rb e (noView a):=by unfold noView;exact TB
end
end
section
section
variable {e:Env}{α β γ σ:Type}
@[simp] def Va(a):Rb e (byteOf a):=by
 unfold byteOf;split
 .exact Zq _
 refine PR (by simp only[mP e.1 e.3 e.2];rfl) (B (MB a) λ_=>SH (λo=>?_) λ_=>⟨_,R,λ_=>R⟩);exact TB
@[simp] def Vj(a c b):Rb e (partAt a c b):=by unfold partAt;exact TB
@[simp] def PN(a f):Rb e (fieldPlace a f):=by unfold fieldPlace;exact TB
@[simp] def Uq(s v f):Rb e (Instr.fieldAt s v f):=by unfold Instr.fieldAt;exact TB
@[simp] def Ui(t x i):Rb e (Yc t x i):=by unfold Yc;exact TB
@[simp] def Ry(x y c):Rb e (Instr.sliceBound x y c):=by unfold Instr.sliceBound;exact TB
@[simp] def Ot(b l c x y z):Rb e (Instr.sliceBounds b l c x y z):=by unfold Instr.sliceBounds;exact TB
@[simp] def V9(t v x y z):Rb e (ZN t v x y z):=by unfold ZN;exact TB
@[simp] def Um(t v x y z):Rb e (Instr.sliceAt t v x y z):=by unfold Instr.sliceAt;exact TB
@[simp] def V4(t b v):Rb e (Instr.alloc t b v):=by unfold Instr.alloc;exact TB
@[simp] def XH(t v):Rb e (Instr.box t v):=by unfold Instr.box;exact TB
def Cp{fs:Array Field}:Rb e (fs.mapM λf=>do pure (f.3,<-sizeOf f.2)):=MJ (λ_=>B (nV _) λ_=>Zq _)
@[simp] def VQ(t ps):Rb e (Instr.build t ps):=by
 unfold Instr.build
 repeat' first|exact Cp|with_reducible exact Zq _|with_reducible refine B ?_ λ_=>?_|with_reducible refine IT ?_ ?_|exact H _|split|(simp;done)|dsimp only|exact B (gC _) λ_=>Zq _
@[simp] def Ru(t n ps):Rb e (qas t n ps):=by unfold qas;exact TB
@[simp] def Ug(v i):Rb e (Instr.extract v i):=by unfold Instr.extract;exact TB
@[simp] def VW(t v i):Rb e (Instr.field t v i):=by unfold Instr.field;exact TB
@[simp] def Wm(t v i):Rb e (YJ t v i):=by unfold YJ;exact TB
@[simp] def MI(a):Rb e (behindNumber a):=by unfold behindNumber;exact TB
@[simp] def Ts(a b):Rb e (sameAddr a b):=by unfold sameAddr;exact TB
@[simp] def Om(a b):Rb e (samePointer a b):=by unfold samePointer;exact TB
section
variable (T:Tables)(F G:Array Func)
def QY(d):Program.alikeButTags ⟨T,F⟩ d=Program.alikeButTags ⟨T,G⟩ d:=by
 induction d with
 |zero=>rfl
 |succ d ih=>funext t u;simp only[Program.alikeButTags,ih]
def vW(t):Program.stoodInHeld ⟨T,F⟩ t=Program.stoodInHeld ⟨T,G⟩ t:=by simp only[Program.stoodInHeld,Program.stoodInAs,QY T F G];rfl
def PO(d):Program.eqGuardType ⟨T,F⟩ d=Program.eqGuardType ⟨T,G⟩ d:=by
 induction d with
 |zero=>rfl
 |succ d ih=>funext t;simp only[Program.eqGuardType,ih];rfl
def MH(d):sameLayout ⟨T,F⟩ d=sameLayout ⟨T,G⟩ d:=by
 induction d with
 |zero=>rfl
 |succ d ih=>funext t u;simp only[sameLayout,ih,vW T F G];rfl
def Uy(f d):rowAt ⟨T,F⟩ f d=rowAt ⟨T,G⟩ f d:=by
 induction d with
 |zero=>rfl
 |succ d ih=>funext a b c n;simp only[rowAt,ih,vW T F G];rfl
def SM(d):liesAt ⟨T,F⟩ d=liesAt ⟨T,G⟩ d:=by
 induction d with
 |zero=>rfl
 |succ d ih=>funext a b c u n;simp only[liesAt,ih,Uy T F G,show(λx=>sameLayout ⟨T,F⟩ (Program.depth ⟨T,F⟩) x u)=λx=>sameLayout ⟨T,G⟩ (Program.depth ⟨T,G⟩) x u from by rw[MH T F G];rfl];rfl
end
end
end
section
section
variable {e:Env}{α β γ σ:Type}
def flat(P:th):Nat->wj->Bool
 |0,_=>pi
 |n+1,t=>match P.underlying t with
  |some (.interface _)=>pi
  |some (.struct fs)=>fs.1.all λf=>flat P n f.2
  |some (.array _ t)=>flat P n t
  |_=>pw
def Lw{f:γ->σ->Sem (ForInStep σ)}:∀(l:List γ)(s),(∀x s,x∈l->Rb e (f x s))->Rb e (forIn l s f):=by
 intro l
 induction l with
 |nil=>intro s _;exact Zq _
 |cons x l ih=>
  intro s h;rw[List.forIn_cons];refine B (h x s (.head _)) λa=>?_;cases a
  .exact Zq _
  .exact ih _ λy s b=>h y s (.tail _ b)
def UD{t}{k:TypeDesc->Sem α}(h:∀d,e.P.underlying t=N d->Rb e (k d)):Rb e (underlying t >>= k):=by
 cases b:e.P.underlying t with
 |some d=>
  intro x a r g c y hw
  have f:∀P:th,P.underlying t=N d->∀W a,(underlying t >>= k).runT P W a=(k d).runT P W a:=λP n W a=>by
   simp only[underlying,program,bind,yz,tp,n];rfl
  rw[f _ b]at c;obtain l|⟨m,o⟩:=h d b x a r g c y hw
  .exact rr l
  refine rz ⟨m,λi j=>?_⟩;rw[f e.Q b];exact o i j
 |none=>
  intro x a r f c y hw
  have d:(underlying t >>= k).runT e.P x a=(.halt (.stuck "no such type") x,a):=by
   simp only[underlying,program,bind,yz,tp,b];rfl
  rw[d]at c;cases c;exact rr R
def Aq:∀(d n t x y),flat e.P n t=pw->Rb e (qaW d t x y):=by
 intro d
 induction d with
 |zero=>intros;exact H _
 |succ d ih=>
  intro n t x y a;cases n with
  |zero=>cases a
  |succ n=>
  unfold qaW;refine UD λD b=>?_;simp only[flat,b]at a;split
  case h_20 fields xs ys=>
   simp only[cU]at a;refine PR (by simp only[vW e.1 e.3 e.2]) ?_;dsimp only;split
   .exact H _
   refine B ?_ λ_=>?_
   .rw[<-Array.forIn_toList];refine Lw _ _ λf s c=>?_;split
    .refine B (nO _ _ _) λ_=>B (nO _ _ _) λ_=>B (ih n _ _ _ (a f lr)) λ_=>?_;split<;>exact Zq _
    .exact Zq _
   .split<;>exact Zq _
  case h_21 len elem xs ys=>
   refine B (nV _) λ_=>B ?_ λ_=>?_
   .refine yF (λi s=>?_) _ _;refine B (nO _ _ _) λ_=>B (nO _ _ _) λ_=>B (ih n _ _ _ a) λ_=>?_;split<;>exact Zq _
   .dsimp only;split<;>exact Zq _
  all_goals first|(cases a;done)|(repeat' first|((with_reducible refine PR ?_ ?_);· rfl)|with_reducible exact Zq _|((with_reducible refine PR ?_ ?_);· rfl)|with_reducible refine B ?_ λ_=>?_|((with_reducible refine PR ?_ ?_);· rfl)|with_reducible refine IT ?_ ?_|exact H _|split|(simp;done)|dsimp only|exact B (gC _) λ_=>Zq _)
end
end
section
variable {t:wj}
section
variable {e:Env}{α β γ σ:Type}
def Eo:∀(d t x y),Rb e (Op.eqGuardIn d t x y):=by
 intro d
 induction d with
 |zero=>intros;exact H _
 |succ d ih=>
  intro t x y;unfold Op.eqGuardIn;refine B (iF t) λD=>?_;split
  .exact Zq _
  .refine B (sK (λf s=>?_) _ _) λ_=>?_
   .split
    .refine B (nO _ _ _) λ_=>B (nO _ _ _) λ_=>B (ih _ _ _) λ_=>?_;split<;>exact Zq _
    .exact Zq _
   .dsimp only;split<;>exact Zq _
  .refine B (nV _) λ_=>B (yF (λi s=>?_) _ _) λ_=>?_
   .refine B (nO _ _ _) λ_=>B (nO _ _ _) λ_=>B (ih _ _ _) λ_=>?_;split<;>exact Zq _
   .dsimp only;split<;>exact Zq _
  .exact Zq _
def Jc(op t p q x y):Rb e (eqGuard op t p q x y):=by
 unfold eqGuard;cases op<;>first|exact Zq _|skip
 all_goals cases x<;>first|exact Zq _|skip
 all_goals cases y<;>first|exact Zq _|skip
 all_goals repeat' first|exact Eo _ _ _ _|((with_reducible refine PR ?_ ?_);· first|(simp only[PO e.1 e.3 e.2];done)|rfl)|with_reducible exact Zq _|with_reducible refine B ?_ λ_=>?_|with_reducible refine IT ?_ ?_|exact H _|split|(simp;done)|dsimp only|exact B (gC _) λ_=>Zq _
@[simp] def Tm(b):∀(n t v),Rb e (Instr.checkKey b n t v):=by
 intro n
 induction n with
 |zero=>intros;exact H _
 |succ n ih=>
  intro t v;unfold Instr.checkKey;refine B (iF t) λD=>?_;split
  case h_1=>repeat' first|exact ih _ _|with_reducible exact Zq _|with_reducible refine B ?_ λ_=>?_|with_reducible refine IT ?_ ?_|exact H _|split|(simp;done)|dsimp only|exact B (gC _) λ_=>Zq _
  case h_2=>exact B (yF (λi s=>B (nV _) λ_=>B (nO _ _ _) λ_=>B (ih _ _) λ_=>Zq _) _ _) λ_=>Zq _
  case h_3=>
   refine B (sK (λf s=>?_) _ _) λ_=>Zq _;split
   .exact B (nO _ _ _) λ_=>B (ih _ _) λ_=>Zq _
   .exact Zq _
  all_goals exact TB
def rV{t}(h:flat e.P 9 t=pw)(k):∀(l i),Rb e (Instr.findAsking t k l i)
 |[],_=>Zq _
 |x::l,i=>by
  unfold Instr.findAsking;refine B (Aq _ _ _ _ _ h) λ_=>?_;split
  .exact Zq _
  .exact rV h k l _
def uo(h:flat e.P 9 t=pw)(k l):Rb e (Instr.findKey t k l):=by
 unfold Instr.findKey;refine B (iF t) λ_=>?_;split
 .exact Zq _
 .exact rV h k _ _
@[simp] def N5(x y):Rb e (qaR x y):=by unfold qaR;exact TB
def sM(P:th)(t:wj):Bool:=match P.underlying t with
 |some (.map k _)=>flat P 9 k
 |_=>pw
def M5(h:sM e.P t=pw)(x i c):Rb e (Instr.lookup t x i c):=by
 unfold Instr.lookup;refine UD λD a=>?_;simp only[sM,a]at h
 repeat' first|exact uo h _ _|exact kD _ (by assumption) trivial|((with_reducible refine GO ⟨⟨_,R⟩,λ_ _=>⟨_,R⟩⟩ λb o _=>?_))|with_reducible exact Zq _|with_reducible refine B ?_ λ_=>?_|with_reducible refine IT ?_ ?_|exact H _|split|(simp;done)|dsimp only|exact B (gC _) λ_=>Zq _
def uM(h:sM e.P t=pw)(m k v):Rb e (qaB t m k v):=by
 unfold qaB;refine UD λD a=>?_;simp only[sM,a]at h
 repeat' first|exact uo h _ _|exact kD _ (by assumption) trivial|((with_reducible refine GO ⟨⟨_,R⟩,λ_ _=>⟨_,R⟩⟩ λb o _=>?_))|with_reducible exact Zq _|with_reducible refine B ?_ λ_=>?_|with_reducible refine IT ?_ ?_|exact H _|split|(simp;done)|dsimp only|exact B (gC _) λ_=>Zq _
end
end
section
section
variable {e:Env}{α β γ σ:Type}
@[simp] def Uh(n):Rb e (askRoom n):=by
 unfold askRoom;split
 .exact Hh _ (rr R)
 .exact Zq _
@[simp] def UK(c n):Rb e (newObj (.map c n)):=NB (k:=λa=>pure a) trivial λ_ _=>Zq _
@[simp] def T7(t r):Rb e (Instr.makeMap t r):=by unfold Instr.makeMap;exact TB
@[simp] def Kf(t v):Rb e (Instr.makeInterface t v):=by unfold Instr.makeInterface;exact TB
@[simp] def R0(t l c):Rb e (Instr.makeSlice t l c):=by unfold Instr.makeSlice;exact TB
@[simp] def Ws(t v):Rb e (Instr.range t v):=by
 unfold Instr.range;refine B (iF t) λD=>?_;split
 case h_1=>exact NB trivial λ_ _=>Zq _
 case h_2=>exact NB trivial λ_ _=>Zq _
 case h_3=>
  refine GO ⟨⟨_,R⟩,λ_ _=>⟨_,R⟩⟩ λhd o _=>?_;split
  .exact NB trivial λ_ _=>Zq _
  .exact H _
 .exact H _
@[simp] def WK(v b t):Rb e (Instr.next v b t):=by unfold Instr.next;exact TO
@[simp] def VT(v):Rb e (Instr.entry v):=by unfold Instr.entry;exact TO
@[simp] def V8(v):Rb e (qbd v):=by unfold qbd;exact TB
@[simp] def Pn(s n v):Rb e (qaG s n v):=by unfold qaG;exact TB
@[simp] def XK(ts t vs):Rb e (YP ts t vs):=by unfold YP;exact TO
@[simp] def XC(ts t vs):Rb e (Builtin.cap_ ts t vs):=by unfold Builtin.cap_;exact TO
@[simp] def WN(ts t vs):Rb e (qaF ts t vs):=by unfold qaF;exact TB
@[simp] def VL(ts t vs):Rb e (Builtin.clear_ ts t vs):=by unfold Builtin.clear_;exact TO
@[simp] def T0(o k x y):Rb e (Op.intArith o k x y):=by unfold Op.intArith;exact TB
@[simp] def UW(o k x y):Rb e (Op.intDiv o k x y):=by unfold Op.intDiv;exact TB
@[simp] def T5(o k x y):Rb e (Op.intBits o k x y):=by unfold Op.intBits;exact TB
@[simp] def UM(o x y):Rb e (Op.intCmp o x y):=by unfold Op.intCmp;exact TB
@[simp] def VY(o k x l y):Rb e (Op.shift o k x l y):=by unfold Op.shift;exact TB
@[simp] def Sj(o x y):Rb e (Op.stringOp o x y):=by unfold Op.stringOp;exact TB
@[simp] def VK(o v):Rb e (Op.unary o v):=by unfold Op.unary;exact TB
@[simp] def QP(o k x y):Rb e (Op.floatArith o k x y):=by unfold Op.floatArith;exact TB
@[simp] def TY(o k x y):Rb e (Op.floatCmp o k x y):=by unfold Op.floatCmp;exact TB
@[simp] def LF(k x l):Rb e (Conv.floatToFloat k x l):=by unfold Conv.floatToFloat;exact TB
@[simp] def sR(o k x y):Rb e (Op.Complex.arith o k x y):=by unfold Op.Complex.arith;exact TB
@[simp] def WA(o k x y):Rb e (Op.Complex.cmp o k x y):=by unfold Op.Complex.cmp;exact TB
@[simp] def VG(k x l):Rb e (Op.Complex.conv k x l):=by unfold Op.Complex.conv;exact TB
@[simp] def WH(x y):Rb e (Op.Complex.add x y):=sR _ _ _ _
@[simp] def WT(x y):Rb e (Op.Complex.sub x y):=sR _ _ _ _
@[simp] def Xi(x y):Rb e (Op.Complex.mul x y):=sR _ _ _ _
@[simp] def Wy(x y):Rb e (Op.Complex.quo x y):=sR _ _ _ _
@[simp] def Up(a b c d):Rb e (Op.Complex.product a b c d):=by unfold Op.Complex.product;exact TB
@[simp] def RV(s a b c d):Rb e (Op.Complex.corrected s a b c d):=by unfold Op.Complex.corrected;exact TB
@[simp] def Sb(a b c d):Rb e (Op.Complex.quotient a b c d):=by unfold Op.Complex.quotient;exact TB
@[simp] def R2(o k a b c d):Rb e (Op.complexOp o k a b c d):=by unfold Op.complexOp;exact TB
end
end
end Po
namespace Po
open Go
variable {v:po}{r:Nat}
section
variable {e:Env}{α β γ σ:Type}
section
variable (T:Tables)(F G:Array Func)
def K5(d):cellOfByte ⟨T,F⟩ d=cellOfByte ⟨T,G⟩ d:=by
 induction d with
 |zero=>rfl
 |succ d ih=>funext t o;simp only[cellOfByte,ih];rfl
def mX(d):cellAtBytes ⟨T,F⟩ d=cellAtBytes ⟨T,G⟩ d:=by funext t c o b;simp only[cellAtBytes,K5 T F G,mP T F G];rfl
def GR(d):Program.holdsStoodIn ⟨T,F⟩ d=Program.holdsStoodIn ⟨T,G⟩ d:=by
 induction d with
 |zero=>rfl
 |succ d ih=>funext t;simp only[Program.holdsStoodIn,ih,vW T F G];rfl
end
def AN(P a n W es):∃r,(ZQ a n).runT P W es=(.ok r W,es):=by simp only[ZQ,shape,bind,yz,tp];cases sx W a.1<;>exact⟨_,R⟩
def Cw(P a b c d v W es):∃r,(qad a b c d v).runT P W es=(.ok r W,es):=by
 have e:∃r,(match v with
  |.slice (N b) _ _=>do pure (!(<-ZQ b (c*a)) || d.any (·.1 == b.1))
  |_=>pure pi:Sem Bool).runT P W es=(.ok r W,es):=by
  split
  .let⟨r,h⟩:=AN P ‹_› (c*a) W es;exact⟨_,by rw[runT_bind,h];rfl⟩
  .exact⟨_,R⟩
 unfold qad;cases d with
 |none=>
  exact e
 |some d=>
  let⟨r,h⟩:=AN P d (b*a) W es;simp only[runT_bind,h,frozen,tp,pure];split
  .exact⟨_,R⟩
  .exact e
def OP{f b c d}{k:Bool->Sem β}(h:∀P s W a,bad ((k s).runT P W a).1=pw):Rb e (qad f b c d v >>= k):=by intro x g r j a y hw;let⟨q,i⟩:=Cw e.P f b c d v x g;have:=h e.P q x g;rw[runT_bind,i]at a;simp only at a;rw[a]at this;exact rr this
@[simp] def Vs(ts t vs):Rb e (By ts t vs):=by
 unfold By
 repeat' first|((with_reducible refine OP ?_);intro P s W es;cases s<;>rfl)|with_reducible exact Zq _|with_reducible refine B ?_ λ_=>?_|with_reducible refine IT ?_ ?_|exact H _|split|(simp;done)|dsimp only|exact B (gC _) λ_=>Zq _
def MO{a}(h:sM e.P (a.getD 0 0)=pw)(t vs):Rb e (YG a t vs):=by
 unfold YG;split
 .rename_i c _ _ g;have d:a[0]? =N c:=Zf Prod.fst g;have b:sM e.P c=pw:=by rw[cS,d]at h;exact h
  refine UD λD f=>?_;simp only[sM,f]at b
  repeat' first|exact uo b _ _|exact kD _ (by assumption) trivial|((with_reducible refine GO ⟨⟨_,R⟩,λ_ _=>⟨_,R⟩⟩ λi o _=>?_))|with_reducible exact Zq _|with_reducible refine B ?_ λ_=>?_|with_reducible refine IT ?_ ?_|exact H _|split|(simp;done)|dsimp only|exact B (gC _) λ_=>Zq _
 .exact H _
def TD{k:Option (wj×Nat)->Sem α}(a:∀o,Rb e (k o))(b:∃h,k X=.halt h/\∀w,bad (.halt h w:Result α)=pw):Rb e (shape r >>= k):=SH a λ_=>b
@[simp] def Tt(a b):Rb e (asNumber a b):=NB (o:=.number a b) (k:=λr=>pure (Value.pointer (N ⟨r,0,X⟩))) trivial λ_ _=>Zq _
def TS{p:Prop}(h:p:=by repeat' first|((with_reducible refine TD (λ_=>?_) ?_);rotate_left;· exact⟨_,rfl,λ_=>rfl⟩)|((with_reducible refine PR ?_ ?_);· first|(simp only[mX _ _ _];rfl)|rfl)|with_reducible exact Zq _|with_reducible refine B ?_ λ_=>?_|with_reducible refine IT ?_ ?_|exact H _|split|(simp;done)|dsimp only|exact B (gC _) λ_=>Zq _):p:=h
@[simp] def R7(a b):Rb e (Op.twoPlaces a b):=by unfold Op.twoPlaces;exact TS
@[simp] def Ul(k a b):Rb e (Op.addrSub k a b):=by unfold Op.addrSub;exact TS
@[simp] def Us(o a b):Rb e (Op.addrCmp o a b):=by unfold Op.addrCmp;exact TS
@[simp] def Uk(k a n):Rb e (Op.addrMod k a n):=by unfold Op.addrMod;exact TS
@[simp] def RF(ts t x y):Rb e (Builtin.unsafeAdd_ ts t #[x,y]):=by
 unfold Builtin.unsafeAdd_;cases x<;>first|exact H _|refine B (Hf y) λn=>?_
 repeat' first|((with_reducible refine TD (λ_=>?_) ?_);rotate_left;· exact⟨_,R,λ_=>R⟩)|((with_reducible refine PR ?_ ?_);· first|(simp only[mX e.1 e.3 e.2];rfl)|rfl)|with_reducible exact Zq _|with_reducible refine B ?_ λ_=>?_|with_reducible refine IT ?_ ?_|exact H _|split|(simp;done)|dsimp only|exact B (gC _) λ_=>Zq _
@[simp] def On(t x y):Rb e (movedNumber t x y):=by unfold movedNumber;exact TS
@[simp] def NU(t x y):Rb e (movedPointer t x y):=by unfold movedPointer;exact TS
def xq(d t x):Rb e (qaW (d+1) t x .nilIface)/\Rb e (qaW (d+1) t .nilIface x):=by
 constructor<;>unfold qaW<;>refine B (iF t) λD=>?_
 all_goals
  cases x with
  |pointer a|map a=>cases a<;>cases D<;>first|exact Zq _|exact H _
  |slice a _ _=>cases a<;>cases D<;>first|exact Zq _|exact H _
  |int k n=>cases D<;>first|exact Zq _|exact H _
  |_=>cases D<;>first|exact Zq _|exact H _
def isNil:ZT->Bool
 |.const .nilIface=>pw
 |_=>pi
def SC(P:th)(t:wj)(x y:ZT):Bool:=match P.underlying t with
 |some (.interface _)=>isNil x || isNil y
 |_=>flat P 9 t
def OX(op t x y)(h:op=.eql\/op=.neq->Rb e (Op.equal t x y)):Rb e (binOp op t x y):=by
 unfold binOp
 repeat' first|exact h (rr R)|exact h (rz R)|((with_reducible refine TD (λ_=>?_) ?_);rotate_left;· exact⟨_,rfl,λ_=>rfl⟩)|((with_reducible refine PR ?_ ?_);· first|exact h (rr rfl)|exact h (rz rfl)|(simp only[mX e.T e.G e.F];rfl)|rfl)|with_reducible exact Zq _|with_reducible refine B ?_ λ_=>?_|with_reducible refine IT ?_ ?_|exact H _|split|(simp;done)|dsimp only|exact B (gC _) λ_=>Zq _
end
end Po
namespace Po
open Go
section
variable {e:Env}{α β γ σ:Type}
@[simp] def Sd(x y):Rb e (Builtin.max2 x y):=by unfold Builtin.max2;exact TB
@[simp] def S5(x y):Rb e (Builtin.min2 x y):=by unfold Builtin.min2;exact TB
@[simp] def XF(ts t vs):Rb e (Builtin.max_ ts t vs):=by
 unfold Builtin.max_
 repeat' first|exact zC Sd _ _|with_reducible exact Zq _|with_reducible refine B ?_ λ_=>?_|with_reducible refine IT ?_ ?_|exact H _|split|(simp;done)|dsimp only|exact B (gC _) λ_=>Zq _
@[simp] def XG(ts t vs):Rb e (Builtin.min_ ts t vs):=by
 unfold Builtin.min_
 repeat' first|exact zC S5 _ _|with_reducible exact Zq _|with_reducible refine B ?_ λ_=>?_|with_reducible refine IT ?_ ?_|exact H _|split|(simp;done)|dsimp only|exact B (gC _) λ_=>Zq _
@[simp] def TT(k n):Rb e (Conv.intToInt k n):=by unfold Conv.intToInt;exact TB
@[simp] def OQ(k n):Rb e (Conv.intToFloat k n):=by unfold Conv.intToFloat;exact TB
@[simp] def QO(k b l):Rb e (Conv.floatToInt k b l):=by unfold Conv.floatToInt;exact TB
@[simp] def Gh(k a b l):Rb e (Conv.complexToComplex k a b l):=by unfold Conv.complexToComplex;exact TB
@[simp] def Ov(n):Rb e (Conv.intToString n):=by unfold Conv.intToString;exact TB
@[simp] def Kl(t s):Rb e (Conv.stringToRunes t s):=by unfold Conv.stringToRunes;exact TB
@[simp] def Kk(v):Rb e (Conv.bytesToString v):=by
 unfold Conv.bytesToString;split
 .exact Zq _
 .refine B (uL _ _) λ_=>B (sK (λc s=>?_) _ _) λ_=>Zq _;split
  .exact Zq _
  .exact H _
 .exact H _
@[simp] def Kg(v):Rb e (Conv.runesToString v):=by
 unfold Conv.runesToString;split
 .exact Zq _
 .refine B (uL _ _) λ_=>B (sK (λc s=>?_) _ _) λ_=>Zq _;split
  .exact Zq _
  .exact H _
 .exact H _
@[simp] def Kj(t s):Rb e (Conv.stringToBytes t s):=by
 unfold Conv.stringToBytes;refine B (gC _) λ_=>NR λa ha=>B (SH (λo=>?_) λh=>Zl h ha) λ_=>Zq _;split
 .exact Bi _ _ ha
 .exact Zq _
@[simp] def Dc:∀(n a b),Rb e (loadBytes a b n)
 |0,_,_=>Zq _
 |n+1,a,b=>by
  unfold loadBytes;refine B (B9 _) λ_=>?_;split
  .exact Dc n _ _
  .exact H _
def VA{a u n}{k:Bool->Sem α}(h:¬e.4 a.1->Rb e (k pw))(f:¬e.4 a.1->Rb e (k pi))(o:e.4 a.1->k pw=k pi/\Rb e (k pi)\/∀x y b,WP e x y->bad ((k pi).runT e.P x b).1=pw):Rb e (variablesAt a u n >>= k):=by
 intro x b r l d y hw
 let g (p:th) (W:pn):Bool:=match sx W a.1 with
  |some (t,cells)=>liesAt p p.depth t (cells/p.cellsOf t) a.2 u n
  |none=>pi
 have j:∀P (W:pn) b,(variablesAt a u n >>= k).runT P W b=(k (g P W)).runT P W b:=λP W b=>by
  rw[runT_bind];simp only[variablesAt,program,shape,bind,yz,tp,g];cases sx W a.1<;>rfl
 rw[j]at d;by_cases c:e.4 a.1
 .have A:g e.P x=pi:=by
   have:sx x a.1=X:=by
    unfold sx;rcases hw.5 _ c with⟨g,t,h,f,_⟩|⟨m,h,f,_⟩<;>rw[f]
   simp only[g,this]
  rw[A]at d;obtain⟨i,q⟩|i:=o c
  .have:k (g e.Q y)=k pi:=by
    cases g e.Q y
    .rfl
    .exact i
   obtain v|⟨w,z⟩:=q x b r l d y hw
   .exact rr v
   refine rz ⟨w,λm s=>?_⟩;rw[j,this];exact z m s
  .have:=i x y b hw;rw[d]at this;exact rr this
 .have v:g e.Q y=g e.P x:=by
   have:sx y a.1=sx x a.1:=by unfold sx;rw[hw.4 _ c]
   simp only[g,this,SM e.1 e.3 e.2];rfl
  have z:Rb e (k (g e.P x)):=by
   cases g e.P x
   .exact f c
   .exact h c
  obtain q|⟨s,w⟩:=z x b r l d y hw
  .exact rr q
  refine rz ⟨s,λi m=>?_⟩;rw[j,v];exact w i m
def y8(a t x y):Rb e (qat a t #[x,y]):=by
 unfold qat;cases x<;>first|exact H _|skip
 refine B (Hf y) λn=>?_
 repeat' first|exact Bi _ _ (by assumption)|((with_reducible refine VA (λb=>?_) (λ_=>?_) (λ_=>rz λ_ _ _ _=>R)))|with_reducible exact Zq _|with_reducible refine B ?_ λ_=>?_|with_reducible refine IT ?_ ?_|exact H _|split|(simp;done)|dsimp only|exact B (gC _) λ_=>Zq _
def sU(b t x):Rb e (Builtin.unsafeSliceData_ b t #[x]):=by
 unfold Builtin.unsafeSliceData_;cases x<;>first|exact H _|skip
 rename_i a l c;cases a with
 |none=>exact Zq _
 |some a=>
  show Rb e (if c≠0 then _ else _)
  refine IT (Zq _) (B (Lv _) λ_=>IT (Zq _) (B (M9 _) λ_=>NB trivial λ_ _=>Zq _))
@[simp] def DC(a):Rb e (Conv.seenAt a):=by
 unfold Conv.seenAt
 repeat' first|((with_reducible refine TD (λ_=>?_) ?_);rotate_left;· exact⟨_,R,λ_=>R⟩)|((with_reducible refine PR ?_ ?_);· first|(simp only[mP e.1 e.3 e.2,mX e.1 e.3 e.2];rfl)|rfl)|with_reducible exact Zq _|with_reducible refine B ?_ λ_=>?_|with_reducible refine IT ?_ ?_|exact H _|split|(simp;done)|dsimp only|exact B (gC _) λ_=>Zq _
def vO(s d v):Rb e (Conv.unsafePointer s d v):=by
 unfold Conv.unsafePointer;refine B (iF s) λ_=>B (iF d) λ_=>?_;split
 case h_2=>
  refine B (DC _) λ_=>B (JR _) λ_=>?_;dsimp only;refine B (nV _) λ_=>?_;refine IT (NB trivial λ_ _=>Zq _) (Zq _)
 case h_4=>
  refine B (DC _) λc=>B (nV _) λn=>VA (λ_=>?_) (λ_=>?_) λg=>?_
  .repeat' first|((with_reducible refine NB ?_ λ_ _=>?_);· trivial)|((with_reducible refine TD (λ_=>?_) ?_);rotate_left;· exact⟨_,R,λ_=>R⟩)|((with_reducible refine PR ?_ ?_);· first|(simp only[GR e.1 e.3 e.2];done)|((with_reducible refine NB ?_ λ_ _=>?_);· trivial)|(simp only[mP e.1 e.3 e.2,mX e.1 e.3 e.2];rfl)|rfl)|with_reducible exact Zq _|with_reducible refine B ?_ λ_=>?_|with_reducible refine IT ?_ ?_|exact H _|split|(simp;done)|dsimp only|exact B (gC _) λ_=>Zq _
  .repeat' first|((with_reducible refine NB ?_ λ_ _=>?_);· trivial)|((with_reducible refine TD (λ_=>?_) ?_);rotate_left;· exact⟨_,R,λ_=>R⟩)|((with_reducible refine PR ?_ ?_);· first|(simp only[GR e.1 e.3 e.2];done)|((with_reducible refine NB ?_ λ_ _=>?_);· trivial)|(simp only[mP e.1 e.3 e.2,mX e.1 e.3 e.2];rfl)|rfl)|with_reducible exact Zq _|with_reducible refine B ?_ λ_=>?_|with_reducible refine IT ?_ ?_|exact H _|split|(simp;done)|dsimp only|exact B (gC _) λ_=>Zq _
  .by_cases a:n=0
   .refine rr ⟨by simp[a],?_⟩;simp only[a,decide_true,Bool.true_or,if_true];exact Zq _
   .refine rz λx y i hw=>?_
    have:sx x c.1=X:=by
     unfold sx;rcases hw.5 _ g with⟨h,t,f,b,_⟩|⟨l,f,b,_⟩<;>rw[b]
    simp only[a,decide_false,Bool.false_or,bE,if_false,shape,bind,yz,tp,this];rfl
 all_goals repeat' first|((with_reducible refine TD (λ_=>?_) ?_);rotate_left;· exact⟨_,rfl,λ_=>rfl⟩)|((with_reducible refine PR ?_ ?_);· first|(simp only[mP e.T e.G e.F,mX e.T e.G e.F];rfl)|rfl)|with_reducible exact Zq _|with_reducible refine B ?_ λ_=>?_|with_reducible refine IT ?_ ?_|exact H _|split|(simp;done)|dsimp only|exact B (gC _) λ_=>Zq _
end
end Po
namespace Po
open Go
def BF(P:th)(a:Array wj):Builtin->Nat->Bool
 |.append,_|.cap,_|.clear,_|.copy,_|.len,_|.max,_|.min,_=>pw
 |.delete,_=>sM P (a.getD 0 0)
 |.unsafeString,n=>n == 2
 |.unsafeSliceData,n=>n == 1
 |_,_=>pi
def M2(P:th):Op->Bool
 |.move _|.assign _|.box ..|.load ..|.unOp ..|.makeInterface ..|.fieldAddr ..|.field ..|.range ..|.next ..|.entry _|.extract ..|.pick ..|.alloc _|.build ..|.buildSlice ..|.store ..|.makeSlice ..|.indexAddr ..|.index ..|.makeFunc ..|.makeMap ..|.slice ..|.nilCheck _|.panic _=>pw
 |.binOp op t a b _=>match op with
  |.eql|.neq=>SC P t a b
  |_=>pw
 |.lookup t ..|.mapUpdate t ..|.insert t ..=>sM P t
 |.convert s d _=>!(s == d)
 |.call { callee:=.value _,.. }=>pw
 |.call { callee:=.builtin b,args,argTypes,.. }=>BF P argTypes b args.size
 |_=>pi
def lI(P:th):vy->Bool
 |.skip|.exit _|.ret|.refuse _=>pw
 |.region _ ops _=>ops.1.all λo=>M2 P o.2
 |.seq a b|.cond _ a b=>lI P a&&lI P b
 |.block _ c|.loop c=>lI P c
 |.rangeFunc _ _ a c=>lI P a&&lI P c
 |.scope _|.label _|.goto _=>pi
section
section
variable {e:Env}{α β γ σ:Type}
@[simp] def Xy:Rb e (sys .env):=RD (λw=>N (.strings w.4.2)) (λP W es=>⟨ "",#[⟨.output,pw,pi⟩],R,λv hv=>by simp at hv;subst hv;trivial⟩) λx y hw a ha=>by rw[<-ha,hw.1]
@[simp] def SQ:Rb e (Instr.panicnil):=by unfold Instr.panicnil;exact TP
@[simp] def VH(v):Rb e (Instr.panic v):=by unfold Instr.panic;exact TP
@[simp] def XL(t p):Rb e (Place.get t p):=by unfold Place.get;exact TP
@[simp] def Nk:∀(l t p),Rb e (follow l t p)
 |[],_,_=>Zq _
 |s::l,t,p=>by
  have ih:=Nk l;unfold follow
  repeat' first|exact ih _ _|with_reducible exact Zq _|with_reducible refine B ?_ λ_=>?_|with_reducible refine IT ?_ ?_|exact H _|split|(simp;done)|dsimp only|exact B (gC _) λ_=>Zq _
@[simp] def T6(ts t x y z):Rb e (Builtin.ssaWrapNilChk_ ts t #[x,y,z]):=by
 unfold Builtin.ssaWrapNilChk_;cases y<;>first|exact H _|skip
 cases z<;>first|exact H _|skip
 show Rb e (match x with
  |.pointer (N _)=>_
  |.pointer X=>_
  |_=>_)
 exact TP
@[simp] def P0(t p b w):Rb e (receiverAt t p b w):=by unfold receiverAt;exact TP
@[simp] def zO(t v p b):Rb e (receiverVia t v p b):=by unfold receiverVia;exact TP
@[simp] def DJ:∀(n t v s),Rb e (method n t v s)
 |0,_,_,_=>H _
 |n+1,t,v,s=>by
  have ih:=DJ n;unfold method
  repeat' first|exact ih _ _ _|with_reducible exact Zq _|with_reducible refine B ?_ λ_=>?_|with_reducible refine IT ?_ ?_|exact H _|split|(simp;done)|dsimp only|exact B (gC _) λ_=>Zq _
@[simp] def zJ:∀(l t p),Rb e (followBlind l t p)
 |[],_,_=>Zq _
 |s::l,t,p=>by
  have ih:=zJ l;unfold followBlind
  repeat' first|exact ih _ _|with_reducible exact Zq _|with_reducible refine B ?_ λ_=>?_|with_reducible refine IT ?_ ?_|exact H _|split|(simp;done)|dsimp only|exact B (gC _) λ_=>Zq _
@[simp] def Ga:∀(n t v s),Rb e (nilAhead n t v s)
 |0,_,_,_=>Zq _
 |n+1,t,v,s=>by
  have ih:=Ga n;unfold nilAhead
  repeat' first|exact ih _ _ _|with_reducible exact Zq _|with_reducible refine B ?_ λ_=>?_|with_reducible refine IT ?_ ?_|exact H _|split|(simp;done)|dsimp only|exact B (gC _) λ_=>Zq _
end
end
section
section
variable {e:Env}{α β γ σ:Type}
structure Fit(e:Env):Prop where
 code:∀c,e.5 c↔lI e.P c=pw
 name:∀(f:Nat)(fn:Func),e.2[f]? =N fn->(fn.1 == "runtime.NumGoroutine")=pi
 same:∀(f:Nat)(fn:Func)(c:vy),e.2[f]? =N fn->fn.9=N c->e.3[f]? =N fn/\lI e.P c=pw
 ext:∀(f:Nat)(fn:Func)(args:Array po),e.2[f]? =N fn->fn.9=X->Rb e (Yk f args)/\∀x es n x1 es1,(Yk f args).runT e.P x es=(.ok n x1,es1)->∃v,n=.value v
 results:∀f:Nat,(e.3[f]?).map (·.8)=(e.2[f]?).map (·.8)
 early:e.P.follows .staticDataAhead=pw
variable (F:Fit e)
include F
def qL(f args):Rb e (Yk f args):=by
 cases a:e.2[f]? with
 |none=>
  intro x b r d c y hw
  have:(Yk f args).runT e.P x b=(.halt (.stuck "call: no such function") x,b):=by
   simp only[Yk,program,bind,yz,tp,show e.P.2[f]? =X from a];rfl
  rw[this]at c;cases c;exact rr R
 |some fn=>
  cases b:fn.9 with
  |none=>exact(F.4 f fn args a b).1
  |some c=>
   unfold Yk;have d:=(F.3 f fn c a b).1;refine PR ?_ ?_
   .simp only[show e.P.2[f]? =N fn from a,show e.Q.2[f]? =N fn from d]
   .simp only[show e.P.2[f]? =N fn from a,F.2 f fn a,b,Option.isNone_some,bE,if_false];exact Zq _
def rY(v s args):Rb e (callMethod v s args):=by
 unfold callMethod;split
 .exact PR R (B (DJ _ _ _ _) λ_=>qL F _ _)
 .exact jZ _
 .exact H _
omit F in
@[simp] def JY(l):Rb e (Yz l):=by unfold Yz;exact TO
omit F in
@[simp] def Pt(l args):Rb e (Instr.yield l args):=by unfold Instr.yield;exact TB
def yH(f a args):Rb e (invoke (.fn f a) args):=by
 cases f with
 |func f=>exact qL F _ _
 |method n=>
  show Rb e (match args[0]? with|some recv=>_|_=>_)
  split
  .exact rY F _ _ _
  .exact H _
 |methodOf t n=>
  show Rb e (match args[0]? with|some recv=>_|_=>_)
  split
  .exact B (iF _) λ_=>rY F _ _ _
  .exact H _
 |via t p f b=>
  show Rb e (match args[0]? with|some recv=>_|_=>_)
  split
  .exact B (zO _ _ _ _) λ_=>qL F _ _
  .exact H _
 |yield l=>exact Pt l args
omit F in
def JJ{b a args}(h:BF e.P a b args.size=pw)(t cs):Rb e (builtin b a t cs args):=by
 cases b<;>first|(cases h;done)|skip
 case delete=>exact B (MO h t args) λ_=>Zq _
 case unsafeString=>
  obtain⟨l⟩:=args
  match l,h with
  |[x,y],_=>exact B (y8 _ _ _ _) λ_=>Zq _
 case unsafeSliceData=>
  obtain⟨l⟩:=args
  match l,h with
  |[x],_=>exact B (sU _ _ _) λ_=>Zq _
 all_goals exact B aC λ_=>Zq _
omit F in
def IZ{s d}(h:(s == d)=pi)(v):Rb e (convert s d v):=by
 unfold convert;refine B (iF s) λ_=>B (iF d) λ_=>?_
 repeat' first|exact vO _ _ _|with_reducible exact Zq _|with_reducible refine B ?_ λ_=>?_|with_reducible refine IT ?_ ?_|exact H _|(have a:(s == d)=pw:=(by assumption);rw[h]at a;cases a)|split|(simp;done)|dsimp only|exact B (gC _) λ_=>Zq _
def Lg(ρ)(hρ:∀v,ρ (.const v)=v)(o)(h:M2 e.P o.2=pw):Rb e (rj ρ o):=by
 unfold rj;cases d:o.2<;>rw[d]at h<;>first|(cases h;done)|exact B aC (λ_=>Zq _)|exact Zq _|skip
 case insert=>exact B (uM h _ _ _) λ_=>Zq _
 case mapUpdate=>exact B (uM h _ _ _) λ_=>Zq _
 case lookup=>exact B (M5 h _ _ _) λ_=>Zq _
 case convert=>exact B (IZ (by simpa[M2]using h) _) λ_=>Zq _
 case nilCheck=>
  dsimp only;exact TP
 case binOp op t a b _=>
  refine B (B (Jc _ _ _ _ _ _) λ_=>OX _ _ _ _ λf=>?_) λ_=>Zq _;have c:SC e.P t a b=pw:=by rcases f with rfl|rfl<;>exact h
  unfold SC at c;split at c
  .have a:∀o:ZT,isNil o=pw->ρ o=.nilIface:=λo d=>by
    cases o with
    |const v=>cases v<;>first|(cases d;done)|exact hρ _
    |_=>cases d
   rcases Bool.or_eq_true_iff.1 c with c|c<;>rw[a _ c]
   .exact(xq _ _ _).2
   .exact(xq _ _ _).1
  .exact Aq _ _ _ _ _ c
 case call c=>
  obtain⟨a,g,i⟩:=c;cases a with
  |invoke _ _=>cases h
  |builtin b=>exact JJ (by rw[Array.size_map];exact h) _ _
  |value f=>
   show Rb e (YA (ρ f) _ >>= _)
   unfold YA;split
   .exact yH F _ _ _
   .show Rb e (runtimePanic .nilDeref:Sem Next)
    exact jZ _
   .exact H _
end
end
section
variable {st:th->List tg->pn->GStep}
abbrev mk(fr:tg)(cs:List tg):Goroutine:={ frame:=fr,callers:=cs,status:=.running,dying:=X }
def l9(P:th):Item->Bool
 |.code c|.inLoop c=>lI P c
 |.inRegion ops _=>ops.1.all λo=>M2 P o.2
 |.inBlock _|.inRangeFunc _|.beginRound|.endRangeFunc _=>pw
 |_=>pi
structure o7(e:Env)(fr:tg):Prop where
 todo:∀i∈fr.3,l9 e.P i=pw
 defers:∀d∈fr.4,∃r,d.1=.collected r
 kind:fr.6=.normal
def OkG(e:Env)(fr:tg)(A:List tg):=o7 e fr/\∀f∈A,o7 e f
def OkG.top{e fr f A}(h:OkG e fr A)(a:o7 e f):OkG e f A:=⟨a,h.2⟩
def OkG.push{e fr f A}(h:OkG e fr A)(a:o7 e f):OkG e f (fr::A):=⟨a,λg b=>(bM.1 b).elim (λk=>k ▸ h.1) (h.2 g)⟩
def OkG.pop{e fr a A}(h:OkG e fr (a::A)):OkG e a A:=⟨h.2 a (.head _),λg b=>h.2 g (.tail _ b)⟩
def fY(P:th):tg:={ fn:=P.2.size,tmps:=#[],todo:=[.call { target:=.nil,args:=#[] } pi "fmt's door" #[]],defers:=[],mode:=.run,kind:=.normal }
def W9(P:th)(fr:tg):=(∃v,fr=(fY P).finish v)\/∃a,fr=(fY P).raise a
def jX(s:GStep):=∃o w a,s=.ended o w a
section
variable {e:Env}{β:Type}{main:Bool}{fr f:tg}{A c B:List tg}{x y:pn}
def Sm(e:Env)(B:List tg)(st:th->List tg->pn->GStep):=∀x y,WP e x y->
 jX (st e.P [fY e.P] x)\/(∃b a d,st e.P [fY e.P] x=.go (mk b []) a d/\W9 e.P b)\/
 ∃b c a d,st e.P [fY e.P] x=.go (mk b (c++[fY e.P])) a d/\Mo x a/\OkG e b c/\
  (Ans x a y->∃g f,st e.Q B y=.go (mk b (c++B)) g f/\To e x a y g/\∀v∈f,Av e ↑a v)
def Sm.of{s t}(h:Sm e B s)(k:∀P,P=e.P\/P=e.Q->∀C w,t P C w=s P C w):Sm e B t:=by intro x y hw;rw[k _ (rr R)];rw[k _ (rz R)];exact h x y hw
def iR(a:OkG e f c):Sm e B λ_ C w=>.go (mk f (c++C)) w #[]:=λx y hw=>
 rz (rz ⟨f,c,x,#[],R,⟨fI,R,fI⟩,a,λ_=>⟨y,#[],R,hw.stay,aC⟩⟩)
def Ct(h:∀w,jX (st e.P [fY e.P] w)):Sm e B st:=λx _ _=>rr (h x)
def Kv(P)(f:Nat)(es):∀v∈seen P f es,v∈es:=by
 unfold seen;dsimp only;rw[<-Array.foldl_toList]
 have c:∀(l:List Zx)(q:Bool)(k:Array Zx),∀v∈(l.foldl (λ(q,kept) e=>match e.1 with
   |.mark (.extern f)=>((P.2[f]?).any (·.10),kept)
   |_=>(q,if q&&!e.3 then kept else kept.push e)) (q,k)).2,v∈k\/v∈l:=by
  intro l
  induction l with
  |nil=>intro q k v b;exact rr b
  |cons a l ih=>
   intro q k v b;simp only[List.foldl_cons]at b;split at b
   .exact(ih _ _ v b).imp id (.tail _)
   .obtain h|h:=ih _ _ v b
    .split at h
     .exact rr h
     .obtain h|h:=Array.mem_push.1 h
      .exact rr h
      .exact rz (h ▸ .head _)
    .exact rz (.tail _ h)
 intro v b;obtain h|h:=c _ _ _ v b
 .simp at h
 .exact jx
def jX.after{s}(h:jX s)(es):jX (s.after es):=by obtain⟨o,w,a,rfl⟩:=h;exact⟨_,_,_,R⟩
def gZ{o w es}:jX (.ended o w es):=⟨_,_,_,R⟩
def NP(r:Result β)(w):fine (put r w)=fine r:=by
 cases r with
 |ok a w=>rfl
 |halt h w=>cases h<;>rfl
def oR{s}(D:Rb e s)(fn)(K:th->List tg->Result β->GStep)(S:∀C r b,s.runT e.P C #[]=(r,b)->bad r=pw->jX (st e.P [fY e.P] C))(w:∀P,P=e.P\/P=e.Q->∀C F r b,s.runT P F #[]=(r,b)->fine r=pw->st P C F=zv (seen P fn b) (K P C r))(T:∀x y r b,s.runT e.P x #[]=(r,b)->fine r=pw->WP e x y->jX (K e.P [fY e.P] r)\/Sm e B λP C F=>K P C (put r F)):Sm e B st:=by
 intro x y hw;cases g:s.runT e.P x #[]with
 |mk r es1=>
 obtain n|⟨o,hq⟩:=D x #[] r es1 g y hw
 .exact rr (S x r es1 g n)
 have f:=mono (P:=e.P) s x #[];rw[g]at f;rw[w _ (rr R) _ _ _ _ g o];obtain h|h:=T x y r es1 g o hw
 .exact rr (h.after _)
 have A:put r (wd r)=r:=by cases r<;>rfl
 obtain⟨y0,ab,_,t0,_⟩:=(qae (D x _ r es1 g _ hw.own) (GM o)).2 #[] λ_ _=>R;rcases h (wd r) y0 t0.1 with c|⟨m,p,b,c,hF⟩|⟨m,t,p,b,c,i,Y,_⟩<;>simp only[A]at c
 .exact rr (c.after _)
 .exact rz (rr ⟨m,p,_,by rw[c];rfl,hF⟩)
 refine rz (rz ⟨m,t,p,_,by rw[c];rfl,i.of f.1 f.2.1 f.2.2,Y,λz=>?_⟩);have V:x.3<=(wd r).3:=f.1;let⟨y1,ev,H,a,I⟩:=hq #[] λq W=>z q (by have:=i.1;omega);have E:=h _ y1 a.1;simp only[A,c]at E;obtain⟨Q,G,x2,aa,l,_,_,hz⟩:=qae (qae E (by rintro⟨_,_,_,k⟩;cases k)) (by rintro⟨_,_,_,k,_⟩;simp at k)
 obtain⟨rfl,rfl,rfl⟩:Q=m/\G=t/\x2=p:=by
  simp only[GStep.go.injEq,Goroutine.mk.injEq,and_true]at l;exact⟨l.1.1.symm,(eU l.1.2).symm,l.2.1.symm⟩
 let⟨y2,O,J,d,L⟩:=hz λq W=>by
  have:=z ((wd r).3-x.3+q) (by have:=i.1;omega);rw[a.2,a.3,cE,this,show(wd r).2=x.2 from f.2.1,<-cE,Nat.add_sub_cancel' V]
 refine⟨y2,seen e.Q fn (#[]++ev)++O,?_,⟨d.1,d.2.trans a.2,?_,λu n=>(d.4 u n).trans (a.4 u n),d.5.1.trans a.5.1,d.5.2.trans a.5.2⟩,λv j=>?_⟩
 .rw[w _ (rz R) _ _ _ _ H (by rw[NP];exact o)];rw[J];rfl
 .rw[d.3,a.3];have:=i.1;omega
 .obtain j|j:=Array.mem_append.1 j
  .have:=Kv _ fn _ v j;exact(I v ir).le i.2.2
  .exact L v j
def o7.set(h:o7 e fr){k}(a:∀i∈k,l9 e.P i=pw):o7 e { fr with todo:=k }:=⟨a,h.2,h.3⟩
def nJ{P}:∀c:vy,lI P c=pw->readies c=[]
 |.region _ ops _,h=>by
  simp only[readies,List.filterMap_eq_nil_iff];intro o a;have:=cU.1 h o a;cases b:o.2<;>first|rfl|(rw[b]at this;cases this)
 |.seq a b,h|.cond _ a b,h|.rangeFunc _ _ a b,h=>by
  let⟨d,e⟩:=eG.1 h;simp only[readies,nJ a d,nJ b e,dI]
 |.block _ c,h|.loop c,h=>nJ c h
 |.scope c,h=>by cases h
 |.skip,_|.exit _,_|.ret,_|.refuse _,_|.label _,_|.goto _,_=>R
def Nm(F:Fit e)(fr cs g w):jX (early e.P fr cs X g w):=by
 have a:e.P.stepOf g=X:=by
  unfold Program.stepOf;rw[Array.findIdx?_eq_none_iff];intro h d;obtain⟨i,f,rfl⟩:=Array.getElem_of_mem d;cases b:(e.P.2[i]).9 with
  |none=>rfl
  |some c=>simp[nJ c (F.3 i _ c (bL f) b).2]
 unfold early;simp only[F.6,Bool.not_true,bE,if_false,a];exact gZ
end
end
section
variable {n:Next}{es a:Array Zx}{x d:pn}
section
variable {e:Env}{α:Type}
def Kd(e:Env):Next->Prop
 |.value _|.skip=>True
 |.enter f _=>∃a c,e.2[f]? =N a/\a.9=N c
 |_=>False
def Pk(e:Env)(s:Sem Next):=∀x es n d a,s.runT e.P x es=(.ok n d,a)->Kd e n
def Rd(x:pn)(n:Next):=∃l f d b c a,n=.round l f d b c/\x.1[l]? =N (.loop a)/\a.6=b/\a.7=c
def lu{s:Sem α}{k}(h:∀b,Pk e (k b)):Pk e (s >>= k):=by
 intro x es n d a b;rw[runT_bind]at b;split at b
 .exact h _ _ _ _ _ _ b
 .cases b
def sZ(h:Kd e n):Pk e (pure n):=by intro x es m d a b;cases b;exact h
def wo(h):Pk e (.halt h):=by intro x es m d a b;cases b
def UQ(s):Pk e (do pure (.value (<-s))):=lu λ_=>sZ trivial
def sE(x):Pk e (runtimePanic x):=by unfold runtimePanic;refine lu λp=>?_;cases x<;>first|exact wo _|exact lu λ_=>lu λ_=>wo _
def yX{P l b W c}(h:(Yz l).runT P W es=(.ok b c,a)):W.1[l]? =N (.loop b)/\c=W:=by
 have d:(Yz l).runT P W es=match W.1[l]? with
   |some (.loop b)=>(.ok b W,es.push ⟨.obj l,pi,pi⟩)
   |some (.cells ..)=>(.halt (.stuck "getObj: a row of cells") W,es)
   |some o=>(.halt (.stuck "range over a function: no such loop") W,es.push ⟨.obj l,pi,o.isChan⟩)
   |none=>(.halt (.stuck "getObj: no such block") W,es):=by
  show tp P (.getObj l _) W es=_
  simp only[tp];cases W.1[l]? with
  |none=>rfl
  |some o=>cases o<;>rfl
 rw[d]at h;split at h<;>cases h;exact⟨by assumption,R⟩
variable (F:Fit e)
include F
def pL(f args):Pk e (Yk f args):=by
 intro x es n d a g;cases b:e.2[f]? with
 |none=>
  simp only[Yk,program,bind,yz,tp,show e.P.2[f]? =X from b]at g;cases g
 |some fn=>
  cases h:fn.9 with
  |none=>obtain⟨v,rfl⟩:=(F.4 f fn args b h).2 x es n d a g;trivial
  |some c=>
   simp only[Yk,program,bind,yz,tp,show e.P.2[f]? =N fn from b,F.2 f fn b,h,Option.isNone_some,bE,if_false]at g;cases g;exact⟨fn,c,b,h⟩
def qx(v s args):Pk e (callMethod v s args):=by
 unfold callMethod;split
 .exact lu λ_=>lu λ_=>pL F _ _
 .exact sE _
 .exact wo _
def A8(g h args)(c:(invoke (.fn g h) args).runT e.P x es=(.ok n d,a)):Kd e n\/Rd x n:=by
 cases g with
 |func f=>exact rr (pL F _ _ _ _ _ _ _ c)
 |method nm=>
  left;revert c
  show(match args[0]? with|some recv=>_|_=>_:Sem Next).runT e.P x es=_->_
  split
  .exact λc=>qx F _ _ _ _ _ _ _ _ c
  .intro c;cases c
 |methodOf t nm=>
  left;revert c
  show(match args[0]? with|some recv=>_|_=>_:Sem Next).runT e.P x es=_->_
  split
  .exact λc=>(lu λ_=>qx F _ _ _) _ _ _ _ _ c
  .intro c;cases c
 |via t p f b=>
  left;revert c
  show(match args[0]? with|some recv=>_|_=>_:Sem Next).runT e.P x es=_->_
  split
  .exact λc=>(lu λ_=>pL F _ _) _ _ _ _ _ c
  .intro c;cases c
 |yield l=>
  right;revert c
  show(Instr.yield l args).runT e.P x es=_->_
  unfold Instr.yield;rw[runT_bind];intro c;split at c
  .rename_i i w1 j f;obtain⟨b,rfl⟩:=yX f;split at c
   .cases c
   .cases c;exact⟨l,_,_,_,_,i,R,b,R,R⟩
  .cases c
def Ir(ρ)(o)(h:M2 e.P o.2=pw)(f:(rj ρ o).runT e.P x es=(.ok n d,a)):Kd e n\/Rd x n:=by
 by_cases hc:∃g args i,o.2=.call { callee:=.value g,args,argTypes:=i }
 .obtain⟨g,args,i,c⟩:=hc;unfold rj at f;rw[c]at f;revert f
  show(YA (ρ g) _ >>= λb=>invoke b.1 b.2).runT e.P x es=_->_
  unfold YA;split
  .exact λf=>A8 F _ _ _ f
  .show(runtimePanic .nilDeref:Sem Next).runT e.P x es=_->_
   exact λf=>rr (sE _ _ _ _ _ _ f)
  .intro f;cases f
 .left;revert f
  have:Pk e (rj ρ o):=by
   unfold rj;cases j:o.2<;>rw[j]at h<;>first|(cases h;done)|exact UQ _|exact sZ trivial|exact lu (λ_=>sZ trivial)|skip
   case nilCheck=>
    dsimp only
    repeat' first|exact sZ trivial|exact sE _|exact wo _|with_reducible refine lu λ_=>?_|split
   case call c=>
    obtain⟨k,args,i⟩:=c;cases k with
    |invoke _ _=>cases h
    |value g=>exact Zl ⟨g,args,i,j⟩ hc
    |builtin b=>cases b<;>first|(cases h;done)|exact UQ _
  exact this _ _ _ _ _
end
end
section
variable {s:Sem Next}{es:Array Zx}
section
variable {e:Env}{β:Type}{main:Bool}{fr f:tg}{A cs c B:List tg}{x y:pn}
def o7.finish(h:o7 e fr)(v):o7 e (fr.finish v):=by
 have a:=h.1;unfold Frame.finish;split
 .rename_i c;rw[c]at a;refine⟨λi b=>?_,h.2,h.3⟩;obtain rfl|b:=bM.1 b
  .exact(a _ (.head _):)
  .exact a _ (.tail _ b)
 .rename_i c;rw[c]at a;exact⟨λi b=>(bM.1 b).elim (λh=>by rw[h];rfl) λb=>a _ (.tail _ b),h.2,h.3⟩
 .rename_i c;rw[c]at a;exact⟨λi b=>a _ (.tail _ b),h.2,h.3⟩
 .rename_i b;rw[b]at a;exact Zl (a _ (.head _)) (by simp[l9])
 .rename_i b;rw[b]at a;exact Zl (a _ (.head _)) (by simp[l9])
 .exact h
def o7.raise(h:o7 e fr)(a):o7 e (fr.raise a):=by unfold Frame.raise;split<;>exact⟨h.1,h.2,h.3⟩
def o7.head(h:o7 e fr){d w r s k}:fr.3≠.call d w r s::k:=λa=>by
 have:=h.1 (.call d w r s) (by rw[a];exact .head _);cases this
def pZ(s):zv #[] s=s:=by cases s<;>simp[zv]
def oq(P f):seen P f #[]=#[]:=rfl
def Ou:Result β->Sem β
 |.ok a _=>pure a
 |.halt h _=>.halt h
def Ay{P w r}(d:s.runT P w #[]=(r,es))(b:fr.6=.normal):stepG.apply P pw fr cs X s w=zv (seen P fr.1 (match r with|.halt .blocked _|.halt .waiting _|.halt (.unsupported (.initOrder _)) _=>#[]|_=>es)) (stepG.apply P pw fr cs X (Ou r) (wd r)):=by
 have a:(Ou r).runT P (wd r) #[]=(r,#[]):=by cases r<;>rfl
 have c:(fr.6 == CallKind.early)=pi:=by rw[b];rfl
 conv=>lhs;unfold stepG.apply
 conv=>rhs;arg 2;unfold stepG.apply
 simp only[d,a,if_true,c,bE,if_false];cases r with
 |ok n w=>exact Zf _ (pZ _).symm
 |halt h w=>
  cases h with
  |unsupported u=>cases u<;>exact Zf _ (pZ _).symm
  |_=>exact Zf _ (pZ _).symm
def tS(F:Fit e)(a:OkG e fr A)(H:Rb e s)(z:∀x es n c b,s.runT e.P x es=(.ok n c,b)->Kd e n\/Rd x n):Sm e B λP C w=>stepG.apply P pw fr (A++C) X s w:=by
 have kd:(match fr.3 with|.call _ pw _ _::_=>CallKind.wrapped|_=>.normal)=.normal:=by
  split
  .exact Zl (by assumption) a.1.head
  .rfl
 refine oR H fr.1 (λP C r=>stepG.apply P pw fr (A++C) X (Ou r) (wd r)) ?_ ?_ ?_
 .intro w r es c b;rw[Ay c a.1.3];refine jX.after ?_ _;cases r with
  |ok n w=>cases b
  |halt h w=>
   cases h<;>first|(cases b;done)|skip
   .unfold stepG.apply;refine jX.after ?_ _;rename_i u;cases u<;>first|exact Nm F _ _ _ _|exact gZ
   .unfold stepG.apply;exact jX.after gZ _
 .intro P _ C w r es c b;rw[Ay c a.1.3];cases r with
  |ok n w=>rfl
  |halt h w=>cases h<;>first|rfl|cases b
 .intro x y r es G u hw;have go:∀f c,OkG e f c->(∀P,P=e.P\/P=e.Q->∀C w,stepG.apply P pw fr (A++C) X (Ou (put r w)) (wd (put r w))=.go (mk f (c++C)) w #[])->Sm e B λP C w=>stepG.apply P pw fr (A++C) X (Ou (put r w)) (wd (put r w)):=λf c E h=>(iR E).of h;right;cases r with
  |halt h w=>
   cases h<;>first|(cases u;done)|skip
   rename_i v;exact go (fr.raise [{ v,recovered:=pi }]) A (a.top (a.1.raise _)) λP _ C b=>by unfold stepG.apply;simp[Ou,tp,oq,zv,wd,put]
  |ok I w=>
   obtain l|⟨m,g,J,K,L,n,rfl,D,rfl,rfl⟩:=z x _ _ _ _ G
   .cases I<;>first|(cases l;done)|skip
    .rename_i v;exact go (fr.finish v) A (a.top (a.1.finish _)) λP _ C b=>nw
    .exact go (fr.finish undef) A (a.top (a.1.finish _)) λP _ C b=>nw
    .rename_i g d;obtain⟨b,c,i,j⟩:=l;let⟨o,p⟩:=F.3 g b c i j;refine go (X4 e.P g d _) _ (a.push ⟨λQ k=>?_,λO t=>?_,R⟩) λP q C S=>?_
     .simp only[X4,show e.P.2[g]? =N b from i,dP,j,cW,bT]at k;subst k;exact p
     .simp[X4]at t
     .have:X4 e.P g d .normal=X4 P g d .normal:=by
       unfold X4;obtain rfl|rfl:=q
       .rfl
       .rw[show e.P.2[g]? =N b from i,show e.Q.2[g]? =N b from o]
      rw[this];unfold stepG.apply;simp[Ou,tp,pure,oq,zv,wd,put];exact Zf _ kd
   .obtain⟨i,j,_⟩:=hw.6 m _ D;refine go (Frame.round m g J n.6 n.7 _) _ (a.push ⟨λo b=>?_,λk d=>?_,R⟩) λP _ C p=>by unfold stepG.apply;simp[Ou,tp,pure,oq,zv,wd,put]
    .simp only[Frame.round,bM,List.not_mem_nil,or_false]at b;obtain rfl|rfl|rfl:=b
     .exact(F.1 _).1 i
     .rfl
     .exact(F.1 _).1 j
    .simp[Frame.round]at d
end
end
section
variable {l:Nat}{a b:vy}{P:th}{x f:pn}{es c:Array Zx}
section
variable {e:Env}{α:Type}
def LP{k:Loop->Sem α}(b:¬e.4 l->∀r,rW e (.loop r)->Rb e (k r)):Rb e (Yz l >>= k):=by unfold Yz;rw[bind_assoc];refine GO ⟨⟨_,R⟩,λ_ _=>⟨_,R⟩⟩ λa o c=>?_;cases o<;>first|exact H _|exact b a _ c
def F4(l j)(d:∀c,j=N c->e.5 c):Rb e (Z4 l j):=by unfold Z4;exact LP λb r a=>B (kD _ b ⟨a.1,a.2.1,d⟩) λ_=>Zq _
def BR(l):Rb e (qar l):=by
 unfold qar;refine LP λa r b=>B (kD _ a b) λ_=>?_;split
 .exact Zq _
 all_goals exact jZ _
def Is(l):Rb e (qal l):=by unfold qal;refine LP λa r b=>?_;dsimp only;refine IT (B (jZ _) λ_=>B (kD _ a b) λ_=>Zq _) (B (kD _ a b) λ_=>Zq _)
def Ev(fn tmps ps)(f:e.5 a)(g:e.5 b)(l):Rb e (ZR fn tmps ps a b l):=by
 unfold ZR;have c:∀d m,Rb e (do pure (<-newObj (.loop { state:=.ready,pending:=X,fn,tmps,params:=ps,assign:=a,body:=b,defers:=d }),m):Sem (Nat×List Deferred)):=λd m=>NB ⟨f,g,by intro i h;cases h⟩ λ_ _=>Zq _;cases l with
 |some l=>exact B (JY l) λ_=>c _ _
 |none=>exact NB R λ_ _=>c _ _
def yj(b):Rb e (Zt b):=by
 unfold Zt;refine GO ⟨⟨_,R⟩,λ_ _=>⟨_,R⟩⟩ λc o d=>?_;cases o<;>first|exact H _|skip
 rename_i a;cases a with
 |none=>exact H _
 |some a=>exact B (kD _ c trivial) λ_=>Zq _
def IR(fn b):Rb e (results fn b):=by
 unfold results;refine B (MJ (λr=>?_)) λ_=>Zq _;cases r with
 |tmp t=>exact Zq _
 |cell a t=>exact B (Nr _) λ_=>JE _ _
def entered{fn e ps o m}(h:(ZR fn e ps a b o).runT P x es=(.ok (l,m) f,c)):∀d∈m,∃r,d.1=.collected r:=by
 unfold ZR at h;cases o with
 |none=>
  cases h;simp
 |some o=>
  simp only[runT_bind]at h;split at h
  .cases h;simp
  .cases h
def taken{P b x f y es c a}(hw:WP e x y)(h:(Zt b).runT P x es=(.ok a f,c)):a=[]:=by
 cases d:x.1[b]? with
 |none=>
  simp only[Zt,getObj,bind,yz,tp,d]at h;cases h
 |some o=>
  have i:=hw.6 b o d
  have:tp P (.getObj b λo=>(match o with
   |.deferred (N a)=>do setObj b (.deferred X);pure a
   |_=>stuck "range over a function: the deferred calls have been taken":Sem (List Deferred))) x es=(.ok a f,c):=h
  simp only[tp,d]at this;cases o<;>first|(cases this;done)|skip
  rename_i g;cases g with
  |none=>cases this
  |some g=>
   simp only[setObj,bind,yz,tp,d,pure]at this;cases this;exact i
def ended{y j}(hw:WP e x y)(h:(qal l).runT P x es=(.ok j f,c)):∀a,j=N a->e.5 a:=by
 unfold qal at h;rw[runT_bind]at h;split at h
 .rename_i k w1 i d;obtain⟨b,rfl⟩:=yX d;have g:=hw.6 l _ b;dsimp only at h;split at h
  .rw[runT_bind]at h;cases h
  .rw[runT_bind]at h;split at h
   .cases h;exact g.2.2
   .cases h
 .cases h
end
end
section
variable {st:th->List tg->pn->GStep}{P:th}
section
variable {e:Env}{main:Bool}{fr f:tg}{A c Zo:List tg}
def qS(b:OkG e fr A)(v):Sm e Zo λP C w=>doReturn P main fr (A++C) X v w:=by
 cases A with
 |cons a l=>exact(iR (b.pop.top ((b.2 a (.head _)).finish v))).of λP _ C w=>by simp only[doReturn,b.1.3,bX]
 |nil=>exact λx y hw=>rz (rr ⟨_,x,#[],by simp only[doReturn,b.1.3,cA],rr ⟨v,R⟩⟩)
def wX:Option vy->Bool
 |none|some .ret=>pw
 |_=>pi
def tF(a:OkG e fr A)(j)(g:∀c,j=N c->e.5 c)
  (d:fr.7=X->∀P C w,st P C w=if wX j=pw then .go (mk { fr with mode:=.returning } (A++C)) w else .ended (.stuck "exit, goto: no such block or label" (fr.pos P)) w)
  (f:∀l,fr.7=N l->∀P C w,st P C w=zv (seen P fr.1 ((Z4 l j).runT P w #[]).2) (match ((Z4 l j).runT P w #[]).1 with
    |.ok v w=>doReturn P main fr (A++C) X v w
    |.halt _ w=>.ended (.stuck "range over a function: no such loop" (fr.pos P)) w)):Sm e Zo st:=by
 cases b:fr.7 with
 |none=>
  by_cases c:wX j=pw
  .exact(iR (f:={ fr with mode:=.returning }) (a.top ⟨a.1.1,a.1.2,a.1.3⟩)).of λP _ C w=>by rw[d b,Zb c]
  .exact Ct λw=>by rw[d b,Za c];exact gZ
 |some l=>
  refine oR (F4 l j g) fr.1 (λP C r=>match r with
    |.ok v w=>doReturn P main fr (A++C) X v w
    |.halt _ w=>.ended (.stuck "range over a function: no such loop" (fr.pos P)) w) ?_ ?_ ?_
  .intro w r k i c;rw[f l b,i];refine jX.after ?_ _;cases r with
   |ok v w=>cases c
   |halt h w=>exact gZ
  .grind
  .intro x y r c k i hw;cases r with
   |halt h w=>exact rr gZ
   |ok v w=>exact rz (qS a v)
def Qa{id}:∀{k b},exitTo id k=N b->(∀i∈k,l9 P i=pw)->∀i∈b,l9 P i=pw:=by
 intro k
 induction k with
 |nil=>intro b h;cases h
 |cons a k ih=>
  intro b h d;have e:∀i∈k,l9 P i=pw:=λi c=>d i (.tail _ c);cases a<;>simp only[exitTo]at h
  case inBlock=>
   grind
  all_goals exact ih h e
def Pd(F:Fit e)(i:OkG e fr A)(g:fr.5=.run):Sm e Zo λP C w=>vi P main (mk fr (A++C)) w:=by
 have set:∀{k:List Item},(∀a∈k,l9 e.P a=pw)->OkG e { fr with todo:=k } A:=λl=>i.top (i.1.set l);cases d:fr.3 with
 |nil=>exact tF i X (by intro c h;cases h) (λa P C w=>by simp[vi,stepG.exec,g,d,a,wX]) (λb a P C w=>by simp[vi,stepG.exec,g,d,a];rfl)
 |cons n k=>
  have a:=i.1.1 n (by rw[d];exact .head _);have l:∀n∈k,l9 e.P n=pw:=λn a=>i.1.1 n (by grind)
  have one:∀{o:Item}{k:List Item},l9 e.P o=pw->(∀n∈k,l9 e.P n=pw)->∀n∈o::k,l9 e.P n=pw:=λu l n a=>by
   grind
  cases n with
  |inBlock id=>exact(iR (set l)).of λP _ C w=>iv
  |inLoop b=>exact(iR (f:={ fr with todo:=.code b::.inLoop b::k }) (set (one a (one a l)))).of λP _ C w=>iv
  |inScope b=>cases a
  |call b w r s=>cases a
  |extern r o=>cases a
  |inRangeFunc b=>exact Ct λw=>by simp[vi,stepG.exec,g,d];exact gZ
  |inRegion ops j=>
   cases j with
   |nil=>exact(iR (set l)).of λP _ C w=>iv
   |cons n j=>
    by_cases hw:((ops[n]?).map (Region.wanted · (yielded ops fr.2))).getD pi=pw
    .obtain⟨b,m⟩:∃b,ops[n]? =N b:=by
      grind
     have f:=cU.1 a b (by grind);refine(tS F i (Lg F fr.eval (λv=>R) b f) λx r t y s q=>Ir F _ b f q).of λP _ C w=>?_;have p:fr.oper? =N b:=by simp only[Frame.oper?,d,m]
     simp only[vi,stepG.exec,g,d,hw,if_true,stepG.oper,p];split
     .rename_i q _;rw[‹b.op=_›]at f;cases f
     .rfl
    .exact(iR (i.top (i.1.finish undef))).of λP _ C w=>by simp[vi,stepG.exec,g,d,hw]
  |endRangeFunc m=>
   refine oR (Is m) fr.1 (λP C r=>match r with
    |.ok j w=>.go (mk { fr with todo:=(j.map Item.code).toList++k } (A++C)) w
    |.halt (.panic v) w=>.go (mk (fr.raise [{ v,recovered:=pi }]) (A++C)) w
    |.halt _ w=>.ended (.stuck "range over a function: no such loop" (fr.pos P)) w) ?_ ?_ ?_
   .intro w r j f b;simp only[vi,stepG.exec,g,d,f];refine jX.after ?_ _;cases r with
    |ok v w=>cases b
    |halt h w=>cases h<;>first|(cases b;done)|exact gZ
   .intro P _ C w r f b _;simp only[vi,stepG.exec,g,d,b]
    grind
   .intro x y r p f b hw;cases r with
    |ok j w=>
     refine rz (iR (set λn a=>?_));obtain a|a:=bV.1 a
     .cases j with
      |none=>cases a
      |some c=>
       simp only[bJ,Option.toList_some,bT]at a;subst a;exact(F.1 _).1 (ended hw f c R)
     .exact l n a
    |halt h w=>cases h<;>first|(cases b;done)|exact rr gZ|exact rz (iR (i.top (i.1.raise _)))
  |beginRound=>
   refine(tS F i (s:=do fr.7.elim (stuck "beginRound: no round") qar;pure _) (B ?_ λ_=>Zq _) λx j p q m b=>rr ((lu (k:=λ_=>pure _) λ_=>sZ (n:=.skip) trivial) _ _ _ _ _ b)).of λP _ C w=>by simp only[vi,stepG.exec,g,d]
   cases fr.7 with
   |none=>exact H _
   |some f=>exact BR f
  |code c=>
   cases c with
   |skip=>exact(iR (set l)).of λP _ C w=>iv
   |label j=>cases a
   |goto j=>cases a
   |scope b=>cases a
   |refuse s=>exact Ct λw=>by simp[vi,stepG.exec,g,d];exact gZ
   |ret=>exact tF i (N .ret) (by intro c h;cases h;exact(F.1 _).2 R) (λb P C w=>by simp[vi,stepG.exec,g,d,b,wX]) (λj b P C w=>by simp[vi,stepG.exec,g,d,b];rfl)
   |seq o b=>exact(iR (f:={ fr with todo:=.code o::.code b::k }) (set (one (eG.1 a).1 (one (eG.1 a).2 l)))).of λP _ C w=>iv
   |block id b=>exact(iR (f:={ fr with todo:=.code b::.inBlock id::k }) (set (one a (one R l)))).of λP _ C w=>iv
   |loop b=>exact(iR (f:={ fr with todo:=.code b::.inLoop b::k }) (set (one a (one a l)))).of λP _ C w=>iv
   |cond m o b=>
    by_cases p:∃f,fr.eval m=.bool f
    .obtain⟨f,r⟩:=p;exact(iR (f:={ fr with todo:=.code (if f then o else b)::k }) (set (one (by cases f;exact(eG.1 a).2;exact(eG.1 a).1) l))).of λP _ C w=>by simp[vi,stepG.exec,g,d,r]
    .refine Ct λw=>?_;simp only[vi,stepG.exec,g,d];cases b:fr.eval m with
     |bool f=>grind
     |_=>exact gZ
   |exit id=>
    cases b:exitTo id k with
    |some k'=>exact(iR (f:={ fr with todo:=k' }) (set (Qa b l))).of λP _ C w=>by simp[vi,stepG.exec,g,d,b]
    |none=>exact tF i (N (.exit id)) (by intro c h;cases h;exact(F.1 _).2 R) (λf P C w=>by simp[vi,stepG.exec,g,d,b,f,wX]) (λj f P C w=>by simp[vi,stepG.exec,g,d,b,f];rfl)
   |region id ops q=>
    cases q with
    |false=>exact(iR (f:={ fr with todo:=.inRegion ops (List.range ops.size)::k }) (set (one a l))).of λP _ C w=>iv
    |true=>
     refine oR (gC (.order fr.1 id)) fr.1 (λP C r=>match r with
      |.ok t w=>.go (mk { fr with todo:=.inRegion ops (Region.schedule (e.1.follows .mixedOrders) ops t)::k } (A++C)) w
      |.halt _ w=>.ended (.stuck "order" (fr.pos P)) w) ?_ ?_ ?_
     .intro w r m b f;simp only[choose,tp,Question.forced,bE,if_false]at b;cases b;cases f
     .intro P f C w r p b _;have m:P.follows .mixedOrders=e.1.follows .mixedOrders:=by rcases f with rfl|rfl<;>rfl
      simp only[choose,tp,Question.forced,bE,if_false]at b;cases b;simp only[vi,stepG.exec,g,d,choose,Sem.run,Question.forced,bE,if_false,Bool.not_true,m,oq,pZ]
     .intro x y r b m f hw;cases r with
      |ok t w=>exact rz (iR (set (one a l)))
      |halt h w=>exact rr gZ
   |rangeFunc s ps o b=>
    let⟨u,t⟩:=eG.1 a
    refine oR (Ev fr.1 fr.2 ps ((F.1 _).2 u) ((F.1 _).2 t) fr.7) fr.1 (λP C r=>match r with
      |.ok (j,m) w=>stepG.apply P pw { fr with todo:=.inRangeFunc j::k,defers:=m++fr.4 } (A++C) X (do let q <-YA (fr.eval s) #[.func (.yield j) #[] #[]];invoke q.1 q.2) w
      |.halt _ w=>.ended (.stuck "range over a function: no such loop" (fr.pos P)) w) ?_ ?_ ?_
    .intro w r p f b;simp only[vi,stepG.exec,g,d,f];refine jX.after ?_ _;cases r with
     |ok v w=>cases b
     |halt h w=>exact gZ
    .intro P _ C w r x p _;have b:∀f:tg,f.2=fr.2->f.eval=fr.eval:=λf h=>funext λs=>by cases s<;>simp only[Frame.eval,h]
     simp only[vi,stepG.exec,g,d,p];cases r with
     |ok v w=>
      obtain⟨j,m⟩:=v;simp only[resolve];rw[b { fr with todo:=.inRangeFunc j::k,defers:=m++fr.4,mode:=.run } R,show Array.map fr.eval #[.const (.func (.yield j) #[] #[])]=#[.func (.yield j) #[] #[]] from by simp[Frame.eval]]
     |halt h w=>rfl
    .intro x E r f b z hw;cases r with
     |halt h w=>exact rr gZ
     |ok p w=>
      obtain⟨j,m⟩:=p;have y:OkG e { fr with todo:=.inRangeFunc j::k,defers:=m++fr.4 } A:=i.top ⟨one R l,λq p=>(bV.1 p).elim (λh=>entered b q h) (i.1.2 q),i.1.3⟩;refine rz (tS F y ?_ ?_)
      .unfold YA;split
       .exact yH F _ _ _
       .show Rb e (runtimePanic .nilDeref:Sem Next)
        exact jZ _
       .exact H _
      .intro x f B D p;unfold YA;split
       .exact λb=>A8 F _ _ _ b
       .show(runtimePanic .nilDeref:Sem Next).runT e.P x f=_->_
        exact λb=>rr (sE _ _ _ _ _ _ b)
       .intro b;cases b
def Fx(F:Fit e)(b:OkG e fr A)(k:fr.5≠.run):Sm e Zo λP C w=>vi P main (mk fr (A++C)) w:=by
 have f:∀P C w,vi P main (mk fr (A++C)) w=unwind P main fr (A++C) X w:=λP C w=>by
  cases h:fr.5 with
  |run=>exact Zl h k
  |_=>simp only[vi,h]
 cases d:fr.4 with
 |cons a ds=>
  let⟨g,i⟩:=b.1.2 a (by rw[d];exact .head _);obtain⟨t,as⟩:=a;cases i
  refine oR (yj g) fr.1 (λP C r=>match r with
    |.ok calls w=>.go (mk { fr with defers:=calls++ds } (A++C)) w
    |.halt _ w=>.ended (.stuck "the deferred calls of a range-over-func loop have been taken" (fr.pos P)) w) ?_ ?_ ?_
  .intro w r l j c;simp only[f,unwind,d,j];refine jX.after ?_ _;cases r with
   |ok v w=>cases c
   |halt h w=>exact gZ
  .intro P _ C w r j c _;simp only[f,unwind,d,c];cases r<;>rfl
  .intro x y r l j m hw;cases r with
   |halt h w=>exact rr gZ
   |ok c w=>
    cases taken hw j;exact rz (iR (b.top ⟨b.1.1,λa h=>b.1.2 a (by grind),b.1.3⟩))
 |nil=>
  cases c:fr.5 with
  |run=>exact Zl c k
  |panicking ch=>
   have hc:∀P,fr.catches P=pi:=λP=>by
    unfold Frame.catches;split
    .rename_i a;exact Zl a b.1.head
    .rfl
   cases A with
   |cons a l=>exact(iR (b.pop.top ((b.2 a (.head _)).raise ch))).of λP _ C w=>by rw[f];simp[unwind,d,c,hc]
   |nil=>exact λx y hw=>rz (rr ⟨_,x,#[],(f _ _ _).trans (by simp[unwind,d,c,hc]),rz ⟨ch,R⟩⟩)
  |returning=>
   have a:=F.5 fr.1;cases hF:e.2[fr.1]? with
   |none=>
    have i:e.3[fr.1]? =X:=by
     rw[hF]at a;cases i:e.3[fr.1]? with
     |none=>rfl
     |some g=>rw[i]at a;cases a
    refine(qS (main:=main) b (fr.2.getD 0 undef)).of λP j C w=>?_;have:P.2[fr.1]? =X:=by obtain rfl|rfl:=j;exact hF;exact i
    simp only[f,unwind,d,c,this]
   |some fn=>
    refine oR (IR fn fr.2) fr.1 (λP C r=>match r with
     |.ok v w=>doReturn P main fr (A++C) X v w
     |.halt (.stuck s) w=>.ended (.stuck s (fr.pos P)) w
     |.halt _ w=>.ended (.stuck "return: the result variables cannot be read" (fr.pos P)) w) ?_ ?_ ?_
    .intro w r i a g;simp only[f,unwind,d,c,show e.P.2[fr.1]? =N fn from hF,a];refine jX.after ?_ _;cases r with
     |ok v w=>cases g
     |halt h w=>cases h<;>exact gZ
    .intro P o C w r q p _
     obtain⟨i,l,m⟩:∃i,P.2[fr.1]? =N i/\results i fr.2=results fn fr.2:=by
      obtain rfl|rfl:=o
      .exact⟨fn,hF,R⟩
      .rw[hF]at a;cases j:e.3[fr.1]? with
       |none=>rw[j]at a;cases a
       |some g=>
        rw[j]at a;have n:g.8=fn.8:=cR a;exact⟨g,R,by unfold results;rw[n]⟩
     simp only[f,unwind,d,c,l,m,p]
     grind
    .intro x y r g a i hw;cases r with
     |ok v w=>exact rz (qS b v)
     |halt h w=>cases h<;>exact rr gZ
def WY(F:Fit e)(a:OkG e fr A):Sm e Zo λP C w=>vi P main (mk fr (A++C)) w:=by
 by_cases b:fr.5=.run
 .exact Pd F a b
 .exact Fx F a b
end
end
end Po
