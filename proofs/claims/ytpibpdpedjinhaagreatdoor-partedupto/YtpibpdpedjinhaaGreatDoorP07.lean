import Derived.Test.YtpibpdpedjinhaaGreatDoorP06
import Derived.Laws.Sem
set_option maxRecDepth 100000
namespace Go.Proofs.YtpibpdpedjinhaaGreatDoor
namespace Po
open Go
section
section
variable {e:Env}{α β γ σ:Type}
@[simp] theorem aaq(t:TypeId):Rb e (typeInfo t):=PR rfl TB
@[simp] theorem kR(t:TypeId):Rb e (underlying t):=PR rfl TB
@[simp] theorem aaY(q:Question):Rb e (choose q):=jQ q
@[simp] theorem acg(a:Addr):Rb e (load a):=Gi a
@[simp] theorem abA(a:Addr):Rb e (frozen a):=P8 a
@[simp] theorem SY(r:Nat):Rb e (viewAt r):=QU r
@[simp] theorem aaf(r:Nat):Rb e (numberAt r):=IW r
@[simp] theorem QG(r:Nat):Rb e (cellsIn r):=MG r
@[simp] theorem ZA(a b:Addr):Rb e (mayBeOne a b):=IL a b
theorem NT{f:γ->σ->Sem (ForInStep σ)}(h:∀x s,Rb e (f x s)):∀(l:List γ)(s:σ),Rb e (forIn l s f):=by
 intro l
 induction l with
 |nil=>intro s;exact U _
 |cons x l ih=>
  intro s;rw[List.forIn_cons];refine B (h x s) λa=>?_;cases a
  ·exact U _
  ·exact ih _
theorem xA{f:γ->σ->Sem (ForInStep σ)}(h:∀x s,Rb e (f x s))(l:Array γ)(s:σ):Rb e (forIn l s f):=by
 rw[<-Array.forIn_toList];exact NT h _ s
theorem Cb{f:Nat->σ->Sem (ForInStep σ)}(h:∀x s,Rb e (f x s))(n:Nat)(s:σ):Rb e (forIn [:n] s f):=by
 rw[Std.Legacy.Range.forIn_eq_forIn_range'];exact NT h _ s
theorem Xk{f:γ->Sem α}(h:∀x,Rb e (f x))(l:List γ):Rb e (l.mapM f):=by
 induction l with
 |nil=>exact U _
 |cons x l ih=>
  rw[List.mapM_cons];exact B (h x) λ_=>B ih λ_=>U _
theorem UH{f:γ->Sem α}(h:∀x,Rb e (f x))(xs:Array γ):Rb e (xs.mapM f):=by
 rw[Array.mapM_eq_mapM_toList];exact B (Xk h _) λ_=>U _
theorem Dp{f:Value->Value->Sem Value}(h:∀x y,Rb e (f x y)):∀(l:List Value)(x:Value),Rb e (l.foldlM f x)
 |[],_=>U _
 |y::l,x=>by rw[List.foldlM_cons];exact B (h x y) λ_=>Dp h l _
@[simp] theorem Yt(t:TypeId):Rb e (zeroValue t):=by
 unfold zeroValue;exact TB
@[simp] theorem qQ(t:TypeId):Rb e (sizeOf t):=by
 unfold sizeOf;exact TB
@[simp] theorem abT(t:TypeId):Rb e (isAgg t):=by
 unfold isAgg;exact TB
@[simp] theorem aaz(t:TypeId):Rb e (typeStr t):=by
 unfold typeStr;exact TB
@[simp] theorem U3(t:TypeId):Rb e (elemOf t):=by
 unfold elemOf;exact TB
@[simp] theorem NG(a:Addr):∀(n i:Nat)(acc:Array Value),Rb e (loadCellsFrom a i n acc)
 |0,_,_=>U _
 |n+1,_,_=>B (Gi _) λ_=>NG a n _ _
@[simp] theorem G7(a:Addr):∀(vs:List Value)(i:Nat),Rb e (storeCells a vs i)
 |[],_=>U _
 |_::vs,_=>B (U9 _ _) λ_=>G7 a vs _
@[simp] theorem zk(a:Addr)(n:Nat):Rb e (loadCells a n):=by
 unfold loadCells;exact TB
@[simp] theorem Qx(t:TypeId)(a:Addr):Rb e (loadVar t a):=by
 unfold loadVar;exact TB
@[simp] theorem Y8(t:TypeId)(a:Addr)(v:Value):Rb e (storeVar t a v):=by
 unfold storeVar;exact TB
theorem NR{t:TypeId}{c:Array Value}{k:Addr->Sem α}(hk:∀a,¬e.D a.block->Rb e (k a)):Rb e (newRow t c >>= k):=
 NB (k:=λr=>k ⟨r,0,none⟩) trivial λ_ z=>hk _ z
@[simp] theorem VB(t:TypeId)(c:Array Value):Rb e (newRow t c):=NR (k:=λa=>pure a) λ_ _=>U _
@[simp] theorem aaN(t:TypeId)(v:Value):Rb e (newVar t v):=VB _ _
@[simp] theorem qL(t:TypeId)(c:Array Value)(o:Nat):Rb e (part t c o):=by
 unfold part;exact TB
@[simp] theorem mg(x:RuntimeError):Rb e (runtimePanic x:Sem α):=by
 unfold runtimePanic;refine PR (by cases x<;>rfl) ?_;cases x<;>exact TB
@[simp] theorem VG(k:IntKind)(x y:Int)(c:BoundsCode):Rb e (boundsPanic k x y c:Sem α):=by
 unfold boundsPanic;exact TB
@[simp] theorem aam(v:Value):Rb e (asIntOf v):=by
 unfold asIntOf;exact TB
@[simp] theorem aaR(v:Value):Rb e (asBool v):=by
 unfold asBool;exact TB
@[simp] theorem abU(v:Value):Rb e (asAgg v):=by
 unfold asAgg;exact TB
@[simp] theorem Ve(v:Value):Rb e (asAddr v):=by
 unfold asAddr;exact TB
@[simp] theorem Ot(v:Value):Rb e (asInt v):=by
 unfold asInt;exact TB
@[simp] theorem ZV(v:Value):Rb e (Instr.sureAddr v):=by
 unfold Instr.sureAddr;exact TB
@[simp] theorem abx(t:TypeId)(v:Value):Rb e (Instr.loadAt t v):=by
 unfold Instr.loadAt;exact TB
@[simp] theorem aaE(t:TypeId)(v u:Value):Rb e (Instr.storeAt t v u):=by
 unfold Instr.storeAt;exact TB
@[simp] theorem Ux(a:Addr):Rb e (noView a):=by
 unfold noView;exact TB
end
end
section
section
variable {e:Env}{α β γ σ:Type}
@[simp] theorem abe(a:Addr):Rb e (byteOf a):=by
 unfold byteOf;split
 ·exact U _
 refine PR (by simp only[pR e.T e.G e.F];rfl) (B (Ux a) λ_=>SH (λo=>?_) λ_=>⟨_,rfl,λ_=>rfl⟩);exact TB
@[simp] theorem abm(a:Addr)(c b:Nat):Rb e (partAt a c b):=by
 unfold partAt;exact TB
@[simp] theorem WY(a:Addr)(f:Field):Rb e (fieldPlace a f):=by
 unfold fieldPlace;exact TB
@[simp] theorem aaB(s:TypeId)(v:Value)(f:Nat):Rb e (Instr.fieldAt s v f):=by
 unfold Instr.fieldAt;exact TB
@[simp] theorem aat(t:TypeId)(x i:Value):Rb e (Instr.indexAt t x i):=by
 unfold Instr.indexAt;exact TB
@[simp] theorem Yh(x:Value)(y:Nat)(c:BoundsCode):Rb e (Instr.sliceBound x y c):=by
 unfold Instr.sliceBound;exact TB
@[simp] theorem VJ(b:Bool)(l c:Nat)(x y z:Option Value):Rb e (Instr.sliceBounds b l c x y z):=by
 unfold Instr.sliceBounds;exact TB
@[simp] theorem abP(t:TypeId)(v:Value)(x y z:Option Value):Rb e (Instr.slice t v x y z):=by
 unfold Instr.slice;exact TB
@[simp] theorem aax(t:TypeId)(v:Value)(x y z:Option Value):Rb e (Instr.sliceAt t v x y z):=by
 unfold Instr.sliceAt;exact TB
@[simp] theorem abN(t:TypeId)(b:Bool)(v:Value):Rb e (Instr.alloc t b v):=by
 unfold Instr.alloc;exact TB
@[simp] theorem acV(t:TypeId)(v:Value):Rb e (Instr.box t v):=by
 unfold Instr.box;exact TB
theorem Gv(fs:Array Field):Rb e (fs.mapM λf=>do pure (f.offset,<-sizeOf f.type)):=UH (λ_=>B (qQ _) λ_=>U _) _
@[simp] theorem abI(t:TypeId)(ps:Array (Nat×Value)):Rb e (Instr.build t ps):=by
 unfold Instr.build
 repeat' first|exact Gv _|with_reducible exact U _|with_reducible refine B ?_ λ_=>?_|with_reducible refine IT ?_ ?_|exact H _|split|(simp;done)|dsimp only|exact B (jQ _) λ_=>U _
@[simp] theorem Yf(t:TypeId)(n:Nat)(ps:Array (Nat×Value)):Rb e (Instr.buildSlice t n ps):=by
 unfold Instr.buildSlice;exact TB
@[simp] theorem aar(v:Value)(i:Nat):Rb e (Instr.extract v i):=by
 unfold Instr.extract;exact TB
@[simp] theorem abK(t:TypeId)(v:Value)(i:Nat):Rb e (Instr.field t v i):=by
 unfold Instr.field;exact TB
@[simp] theorem abS(t:TypeId)(v i:Value):Rb e (Instr.index t v i):=by
 unfold Instr.index;exact TB
@[simp] theorem UG(a:Addr):Rb e (behindNumber a):=by
 unfold behindNumber;exact TB
@[simp] theorem ZK(a b:Addr):Rb e (sameAddr a b):=by
 unfold sameAddr;exact TB
@[simp] theorem VH(a b:Option Addr):Rb e (samePointer a b):=by
 unfold samePointer;exact TB
section
variable (T:Tables)(F G:Array Func)
theorem XP(d:Nat):Program.alikeButTags ⟨T,F⟩ d=Program.alikeButTags ⟨T,G⟩ d:=by
 induction d with
 |zero=>rfl
 |succ d ih=>funext t u;simp only[Program.alikeButTags,ih]
theorem zZ(t:TypeId):Program.stoodInHeld ⟨T,F⟩ t=Program.stoodInHeld ⟨T,G⟩ t:=by
 simp only[Program.stoodInHeld,Program.stoodInAs,XP T F G];rfl
theorem WZ(d:Nat):Program.eqGuardType ⟨T,F⟩ d=Program.eqGuardType ⟨T,G⟩ d:=by
 induction d with
 |zero=>rfl
 |succ d ih=>funext t;simp only[Program.eqGuardType,ih];rfl
theorem UE(d:Nat):sameLayout ⟨T,F⟩ d=sameLayout ⟨T,G⟩ d:=by
 induction d with
 |zero=>rfl
 |succ d ih=>funext t u;simp only[sameLayout,ih,zZ T F G];rfl
theorem aaH(f:TypeId->Bool)(d:Nat):rowAt ⟨T,F⟩ f d=rowAt ⟨T,G⟩ f d:=by
 induction d with
 |zero=>rfl
 |succ d ih=>funext a b c n;simp only[rowAt,ih,zZ T F G];rfl
theorem Zg(d:Nat):liesAt ⟨T,F⟩ d=liesAt ⟨T,G⟩ d:=by
 induction d with
 |zero=>rfl
 |succ d ih=>funext a b c u n;simp only[liesAt,ih,aaH T F G,show(λx=>sameLayout ⟨T,F⟩ (Program.depth ⟨T,F⟩) x u)=λx=>sameLayout ⟨T,G⟩ (Program.depth ⟨T,G⟩) x u from by rw[UE T F G];rfl];rfl
end
end
end
section
section
variable {e:Env}{α β γ σ:Type}
def flat(P:Program):Nat->TypeId->Bool
 |0,_=>false
 |n+1,t=>match P.underlying t with
  |some (.interface _)=>false
  |some (.struct fs)=>fs.toList.all λf=>flat P n f.type
  |some (.array _ t)=>flat P n t
  |_=>true
theorem S9{f:γ->σ->Sem (ForInStep σ)}:∀(l:List γ)(s:σ),(∀x s,x∈l->Rb e (f x s))->Rb e (forIn l s f):=by
 intro l
 induction l with
 |nil=>intro s _;exact U _
 |cons x l ih=>
  intro s h;rw[List.forIn_cons];refine B (h x s (.head _)) λa=>?_;cases a
  ·exact U _
  ·exact ih _ λy s z=>h y s (.tail _ z)
theorem UD{t:TypeId}{k:TypeDesc->Sem α}(h:∀d,e.P.underlying t=some d->Rb e (k d)):Rb e (underlying t >>= k):=by
 cases hd:e.P.underlying t with
 |some d=>
  intro x es r E I y hw
  have z:∀P:Program,P.underlying t=some d->∀W es,(underlying t >>= k).runT P W es=(k d).runT P W es:=λP hp W es=>by
   simp only[underlying,program,bind,Sem.bind,Sem.runT,hp];rfl
  rw[z _ hd]at I;rcases h d hd x es r E I y hw with J|⟨Y,R⟩
  ·exact .inl J
  refine .inr ⟨Y,λfs ha=>?_⟩;rw[z e.Q hd];exact R fs ha
 |none=>
  intro x es r E I y hw
  have z:(underlying t >>= k).runT e.P x es=(.halt (.stuck "no such type") x,es):=by
   simp only[underlying,program,bind,Sem.bind,Sem.runT,hd];rfl
  rw[z]at I;cases I;exact .inl rfl
theorem Eo:∀(d n:Nat)(t:TypeId)(x y:Value),flat e.P n t=true->Rb e (Op.equalIn d t x y):=by
 intro d
 induction d with
 |zero=>intros;exact H _
 |succ d ih=>
  intro n t x y z;cases n with
  |zero=>cases z
  |succ n=>
  unfold Op.equalIn;refine UD λD I=>?_;simp only[flat,I]at z;split
  case h_20 fields xs ys=>
   simp only[eY]at z;refine PR (by simp only[zZ e.T e.G e.F]) ?_;dsimp only;split
   ·exact H _
   refine B ?_ λ_=>?_
   ·rw[<-Array.forIn_toList];refine S9 _ _ λf s E=>?_;split
    ·refine B (qL _ _ _) λ_=>B (qL _ _ _) λ_=>B (ih n _ _ _ (z f (by simpa using E))) λ_=>?_;split<;>exact U _
    ·exact U _
   ·split<;>exact U _
  case h_21 len elem xs ys=>
   refine B (qQ _) λ_=>B ?_ λ_=>?_
   ·refine Cb (λi s=>?_) _ _;refine B (qL _ _ _) λ_=>B (qL _ _ _) λ_=>B (ih n _ _ _ z) λ_=>?_;split<;>exact U _
   ·dsimp only;split<;>exact U _
  all_goals first|(cases z;done)|(repeat' first|((with_reducible refine PR ?_ ?_);· rfl)|with_reducible exact U _|((with_reducible refine PR ?_ ?_);· rfl)|with_reducible refine B ?_ λ_=>?_|((with_reducible refine PR ?_ ?_);· rfl)|with_reducible refine IT ?_ ?_|exact H _|split|(simp;done)|dsimp only|exact B (jQ _) λ_=>U _)
end
end
section
variable {t:TypeId}
section
variable {e:Env}{α β γ σ:Type}
theorem JE:∀(d:Nat)(t:TypeId)(x y:Value),Rb e (Op.eqGuardIn d t x y):=by
 intro d
 induction d with
 |zero=>intros;exact H _
 |succ d ih=>
  intro t x y;unfold Op.eqGuardIn;refine B (kR t) λD=>?_;split
  ·exact U _
  ·refine B (xA (λf s=>?_) _ _) λ_=>?_
   ·split
    ·refine B (qL _ _ _) λ_=>B (qL _ _ _) λ_=>B (ih _ _ _) λ_=>?_;split<;>exact U _
    ·exact U _
   ·dsimp only;split<;>exact U _
  ·refine B (qQ _) λ_=>B (Cb (λi s=>?_) _ _) λ_=>?_
   ·refine B (qL _ _ _) λ_=>B (qL _ _ _) λ_=>B (ih _ _ _) λ_=>?_;split<;>exact U _
   ·dsimp only;split<;>exact U _
  ·exact U _
theorem P9(op:BinOp)(t:TypeId)(p q:Operand)(x y:Value):Rb e (eqGuard op t p q x y):=by
 unfold eqGuard;cases op<;>first|exact U _|skip
 all_goals cases x<;>first|exact U _|skip
 all_goals cases y<;>first|exact U _|skip
 all_goals repeat' first|exact JE _ _ _ _|((with_reducible refine PR ?_ ?_);· first|(simp only[WZ e.T e.G e.F];done)|rfl)|with_reducible exact U _|with_reducible refine B ?_ λ_=>?_|with_reducible refine IT ?_ ?_|exact H _|split|(simp;done)|dsimp only|exact B (jQ _) λ_=>U _
@[simp] theorem ZI(b:Bool):∀(n:Nat)(t:TypeId)(v:Value),Rb e (Instr.checkKey b n t v):=by
 intro n
 induction n with
 |zero=>intros;exact H _
 |succ n ih=>
  intro t v;unfold Instr.checkKey;refine B (kR t) λD=>?_;split
  case h_1=>repeat' first|exact ih _ _|with_reducible exact U _|with_reducible refine B ?_ λ_=>?_|with_reducible refine IT ?_ ?_|exact H _|split|(simp;done)|dsimp only|exact B (jQ _) λ_=>U _
  case h_2=>exact B (Cb (λi s=>B (qQ _) λ_=>B (qL _ _ _) λ_=>B (ih _ _) λ_=>U _) _ _) λ_=>U _
  case h_3=>
   refine B (xA (λf s=>?_) _ _) λ_=>U _;split
   ·exact B (qL _ _ _) λ_=>B (ih _ _) λ_=>U _
   ·exact U _
  all_goals exact TB
theorem wQ{t:TypeId}(h:flat e.P 9 t=true)(k:Value):∀(l:List MapEntry)(i:Nat),Rb e (Instr.findAsking t k l i)
 |[],_=>U _
 |x::l,i=>by
  unfold Instr.findAsking;refine B (Eo _ _ _ _ _ h) λ_=>?_;split
  ·exact U _
  ·exact wQ h k l _
theorem yP(h:flat e.P 9 t=true)(k:Value)(l:List MapEntry):Rb e (Instr.findKey t k l):=by
 unfold Instr.findKey;refine B (kR t) λ_=>?_;split
 ·exact U _
 ·exact wQ h k _ _
@[simp] theorem Vz(x y:Value):Rb e (Instr.keyThatStays x y):=by
 unfold Instr.keyThatStays;exact TB
def xE(P:Program)(t:TypeId):Bool:=match P.underlying t with
 |some (.map k _)=>flat P 9 k
 |_=>true
theorem U1(h:xE e.P t=true)(x i:Value)(c:Bool):Rb e (Instr.lookup t x i c):=by
 unfold Instr.lookup;refine UD λD z=>?_;simp only[xE,z]at h
 repeat' first|exact yP h _ _|exact mO _ (by assumption) trivial|((with_reducible refine GO ⟨⟨_,rfl⟩,λ_ _=>⟨_,rfl⟩⟩ λhd o _=>?_))|with_reducible exact U _|with_reducible refine B ?_ λ_=>?_|with_reducible refine IT ?_ ?_|exact H _|split|(simp;done)|dsimp only|exact B (jQ _) λ_=>U _
theorem zl(h:xE e.P t=true)(m k v:Value):Rb e (Instr.mapUpdate t m k v):=by
 unfold Instr.mapUpdate;refine UD λD z=>?_;simp only[xE,z]at h
 repeat' first|exact yP h _ _|exact mO _ (by assumption) trivial|((with_reducible refine GO ⟨⟨_,rfl⟩,λ_ _=>⟨_,rfl⟩⟩ λhd o _=>?_))|with_reducible exact U _|with_reducible refine B ?_ λ_=>?_|with_reducible refine IT ?_ ?_|exact H _|split|(simp;done)|dsimp only|exact B (jQ _) λ_=>U _
end
end
section
section
variable {e:Env}{α β γ σ:Type}
@[simp] theorem aas(n:Nat):Rb e (askRoom n):=by
 unfold askRoom;split
 ·exact Oy _ (.inl rfl)
 ·exact U _
@[simp] theorem aaQ(c:Array MapEntry)(n:Nat):Rb e (newObj (.map c n)):=NB (k:=λa=>pure a) trivial λ_ _=>U _
@[simp] theorem aak(t:TypeId)(r:Option Value):Rb e (Instr.makeMap t r):=by
 unfold Instr.makeMap;exact TB
@[simp] theorem Rf(t:TypeId)(v:Value):Rb e (Instr.makeInterface t v):=by
 unfold Instr.makeInterface;exact TB
@[simp] theorem YG(t:TypeId)(l c:Value):Rb e (Instr.makeSlice t l c):=by
 unfold Instr.makeSlice;exact TB
@[simp] theorem abV(t:TypeId)(v:Value):Rb e (Instr.range t v):=by
 unfold Instr.range;refine B (kR t) λD=>?_;split
 case h_1=>exact NB trivial λ_ _=>U _
 case h_2=>exact NB trivial λ_ _=>U _
 case h_3=>
  refine GO ⟨⟨_,rfl⟩,λ_ _=>⟨_,rfl⟩⟩ λhd o _=>?_;split
  ·exact NB trivial λ_ _=>U _
  ·exact H _
 ·exact H _
@[simp] theorem ab6(v:Value)(b:Bool)(t:TypeId):Rb e (Instr.next v b t):=by
 unfold Instr.next;exact TO
@[simp] theorem abJ(v:Value):Rb e (Instr.entry v):=by
 unfold Instr.entry;exact TO
@[simp] theorem abO(v:Value):Rb e (Builtin.lenOf v):=by
 unfold Builtin.lenOf;exact TB
@[simp] theorem WG(s n:Nat)(v:Value):Rb e (Builtin.firstCells s n v):=by
 unfold Builtin.firstCells;exact TB
@[simp] theorem acZ(ts:Array TypeId)(t:TypeId)(vs:Array Value):Rb e (Builtin.len_ ts t vs):=by
 unfold Builtin.len_;exact TO
@[simp] theorem acR(ts:Array TypeId)(t:TypeId)(vs:Array Value):Rb e (Builtin.cap_ ts t vs):=by
 unfold Builtin.cap_;exact TO
@[simp] theorem ab9(ts:Array TypeId)(t:TypeId)(vs:Array Value):Rb e (Builtin.copy_ ts t vs):=by
 unfold Builtin.copy_;exact TB
@[simp] theorem abH(ts:Array TypeId)(t:TypeId)(vs:Array Value):Rb e (Builtin.clear_ ts t vs):=by
 unfold Builtin.clear_;exact TO
@[simp] theorem aad(o:BinOp)(k:IntKind)(x y:Int):Rb e (Op.intArith o k x y):=by
 unfold Op.intArith;exact TB
@[simp] theorem aaZ(o:BinOp)(k:IntKind)(x y:Int):Rb e (Op.intDiv o k x y):=by
 unfold Op.intDiv;exact TB
@[simp] theorem aai(o:BinOp)(k:IntKind)(x y:Int):Rb e (Op.intBits o k x y):=by
 unfold Op.intBits;exact TB
@[simp] theorem aaS(o:BinOp)(x y:Int):Rb e (Op.intCmp o x y):=by
 unfold Op.intCmp;exact TB
@[simp] theorem abM(o:BinOp)(k:IntKind)(x:Int)(l:IntKind)(y:Int):Rb e (Op.shift o k x l y):=by
 unfold Op.shift;exact TB
@[simp] theorem YZ(o:BinOp)(x y:ByteArray):Rb e (Op.stringOp o x y):=by
 unfold Op.stringOp;exact TB
@[simp] theorem abG(o:UnOp)(v:Value):Rb e (Op.unary o v):=by
 unfold Op.unary;exact TB
@[simp] theorem XH(o:BinOp)(k:FloatKind)(x y:Nat):Rb e (Op.floatArith o k x y):=by
 unfold Op.floatArith;exact TB
@[simp] theorem Z9(o:BinOp)(k:FloatKind)(x y:Nat):Rb e (Op.floatCmp o k x y):=by
 unfold Op.floatCmp;exact TB
@[simp] theorem Tj(k:FloatKind)(x:Nat)(l:FloatKind):Rb e (Conv.floatToFloat k x l):=by
 unfold Conv.floatToFloat;exact TB
@[simp] theorem xH(o:BinOp)(k:FloatKind)(x y:Nat):Rb e (Op.Complex.arith o k x y):=by
 unfold Op.Complex.arith;exact TB
@[simp] theorem abZ(o:BinOp)(k:FloatKind)(x y:Nat):Rb e (Op.Complex.cmp o k x y):=by
 unfold Op.Complex.cmp;exact TB
@[simp] theorem abC(k:FloatKind)(x:Nat)(l:FloatKind):Rb e (Op.Complex.conv k x l):=by
 unfold Op.Complex.conv;exact TB
@[simp] theorem ab4(x y:Nat):Rb e (Op.Complex.add x y):=xH _ _ _ _
@[simp] theorem ach(x y:Nat):Rb e (Op.Complex.sub x y):=xH _ _ _ _
@[simp] theorem acE(x y:Nat):Rb e (Op.Complex.mul x y):=xH _ _ _ _
@[simp] theorem abY(x y:Nat):Rb e (Op.Complex.quo x y):=xH _ _ _ _
@[simp] theorem aaA(a b c d:Nat):Rb e (Op.Complex.product a b c d):=by
 unfold Op.Complex.product;exact TB
@[simp] theorem YA(s a b c d:Nat):Rb e (Op.Complex.corrected s a b c d):=by
 unfold Op.Complex.corrected;exact TB
@[simp] theorem YS(a b c d:Nat):Rb e (Op.Complex.quotient a b c d):=by
 unfold Op.Complex.quotient;exact TB
@[simp] theorem YI(o:BinOp)(k:FloatKind)(a b c d:Nat):Rb e (Op.complexOp o k a b c d):=by
 unfold Op.complexOp;exact TB
end
end
end Po
set_option linter.unusedSimpArgs false
namespace Po
open Go
section
variable {e:Env}{α β γ σ:Type}
section
variable (T:Tables)(F G:Array Func)
theorem Sj(d:Nat):cellOfByte ⟨T,F⟩ d=cellOfByte ⟨T,G⟩ d:=by
 induction d with
 |zero=>rfl
 |succ d ih=>funext t o;simp only[cellOfByte,ih];rfl
theorem rF(d:Nat):cellAtBytes ⟨T,F⟩ d=cellAtBytes ⟨T,G⟩ d:=by
 funext t c o b;simp only[cellAtBytes,Sj T F G,pR T F G];rfl
theorem NU(d:Nat):Program.holdsStoodIn ⟨T,F⟩ d=Program.holdsStoodIn ⟨T,G⟩ d:=by
 induction d with
 |zero=>rfl
 |succ d ih=>funext t;simp only[Program.holdsStoodIn,ih,zZ T F G];rfl
end
theorem ED(P:Program)(a:Addr)(n:Nat)(W:World)(es:Array Event):∃r,(Builtin.holdsCells a n).runT P W es=(.ok r W,es):=by
 simp only[Builtin.holdsCells,shape,bind,Sem.bind,Sem.runT];cases W.shape? a.block<;>exact⟨_,rfl⟩
theorem GK(P:Program)(a b c:Nat)(d:Option Addr)(v:Value)(W:World)(es:Array Event):∃r,(Builtin.mayShare a b c d v).runT P W es=(.ok r W,es):=by
 have h2:∃r,(match v with
  |.slice (some b) _ _=>do pure (!(<-Builtin.holdsCells b (c*a)) || d.any (·.block == b.block))
  |_=>pure false:Sem Bool).runT P W es=(.ok r W,es):=by
  split
  ·obtain⟨r,h⟩:=ED P ‹_› (c*a) W es;exact⟨_,by rw[runT_bind,h];rfl⟩
  ·exact⟨_,rfl⟩
 unfold Builtin.mayShare;cases d with
 |none=>
  exact h2
 |some d=>
  obtain⟨r,h⟩:=ED P d (b*a) W es;simp only[runT_bind,h,frozen,Sem.runT,pure];split
  ·exact⟨_,rfl⟩
  ·exact h2
theorem VY{a b c:Nat}{d:Option Addr}{v:Value}{k:Bool->Sem β}(hk:∀P s W es,bad ((k s).runT P W es).1=true):Rb e (Builtin.mayShare a b c d v >>= k):=by
 intro x es r E z y hw;obtain⟨q,I⟩:=GK e.P a b c d v x es;have:=hk e.P q x es;rw[runT_bind,I]at z;simp only at z;rw[z]at this;exact .inl this
@[simp] theorem abu(ts:Array TypeId)(t:TypeId)(vs:Array Value):Rb e (Builtin.append_ ts t vs):=by
 unfold Builtin.append_
 repeat' first|((with_reducible refine VY ?_);intro P s W es;cases s<;>rfl)|with_reducible exact U _|with_reducible refine B ?_ λ_=>?_|with_reducible refine IT ?_ ?_|exact H _|split|(simp;done)|dsimp only|exact B (jQ _) λ_=>U _
theorem UO{ts:Array TypeId}(h:xE e.P (ts.getD 0 0)=true)(t:TypeId)(vs:Array Value):Rb e (Builtin.delete_ ts t vs):=by
 unfold Builtin.delete_;split
 ·rename_i E _ _ I;have J:ts[0]? =some E:=congrArg Prod.fst I;have z:xE e.P E=true:=by rw[eU,J]at h;exact h
  refine UD λD R=>?_;simp only[xE,R]at z
  repeat' first|exact yP z _ _|exact mO _ (by assumption) trivial|((with_reducible refine GO ⟨⟨_,rfl⟩,λ_ _=>⟨_,rfl⟩⟩ λhd o _=>?_))|with_reducible exact U _|with_reducible refine B ?_ λ_=>?_|with_reducible refine IT ?_ ?_|exact H _|split|(simp;done)|dsimp only|exact B (jQ _) λ_=>U _
 ·exact H _
theorem SHU{r:Nat}{k:Option (TypeId×Nat)->Sem α}(hk:∀o,Rb e (k o))(z:∃h,k none=.halt h/\∀w,bad (.halt h w:Result α)=true):Rb e (shape r >>= k):=SH hk λ_=>z
@[simp] theorem ZL(a:Addr)(b:Bool):Rb e (asNumber a b):=NB (o:=.number a b) (k:=λr=>pure (Value.pointer (some ⟨r,0,none⟩))) trivial λ_ _=>U _
theorem TS{p:Prop}(h:p:=by repeat' first|((with_reducible refine SHU (λ_=>?_) ?_);rotate_left;· exact⟨_,rfl,λ_=>rfl⟩)|((with_reducible refine PR ?_ ?_);· first|(simp only[rF _ _ _];rfl)|rfl)|with_reducible exact U _|with_reducible refine B ?_ λ_=>?_|with_reducible refine IT ?_ ?_|exact H _|split|(simp;done)|dsimp only|exact B (jQ _) λ_=>U _):p:=h
@[simp] theorem YN(a b:Addr):Rb e (Op.twoPlaces a b):=by
 unfold Op.twoPlaces;exact TS
@[simp] theorem aaw(k:IntKind)(a b:Addr):Rb e (Op.addrSub k a b):=by
 unfold Op.addrSub;exact TS
@[simp] theorem aaC(o:BinOp)(a b:Addr):Rb e (Op.addrCmp o a b):=by
 unfold Op.addrCmp;exact TS
@[simp] theorem aav(k:IntKind)(a:Addr)(n:Int):Rb e (Op.addrMod k a n):=by
 unfold Op.addrMod;exact TS
@[simp] theorem Yn(ts:Array TypeId)(t:TypeId)(x y:Value):Rb e (Builtin.unsafeAdd_ ts t #[x,y]):=by
 unfold Builtin.unsafeAdd_;cases x<;>first|exact H _|refine B (Ot y) λn=>?_
 repeat' first|((with_reducible refine SHU (λ_=>?_) ?_);rotate_left;· exact⟨_,rfl,λ_=>rfl⟩)|((with_reducible refine PR ?_ ?_);· first|(simp only[rF e.T e.G e.F];rfl)|rfl)|with_reducible exact U _|with_reducible refine B ?_ λ_=>?_|with_reducible refine IT ?_ ?_|exact H _|split|(simp;done)|dsimp only|exact B (jQ _) λ_=>U _
@[simp] theorem VI(t:TypeId)(x y:Value):Rb e (movedNumber t x y):=by
 unfold movedNumber;exact TS
@[simp] theorem Vt(t:TypeId)(x y:Value):Rb e (movedPointer t x y):=by
 unfold movedPointer;exact TS
theorem A8(d:Nat)(t:TypeId)(x:Value):Rb e (Op.equalIn (d+1) t x .nilIface)/\Rb e (Op.equalIn (d+1) t .nilIface x):=by
 constructor<;>unfold Op.equalIn<;>refine B (kR t) λD=>?_
 all_goals
  cases x with
  |pointer a|map a=>cases a<;>cases D<;>first|exact U _|exact H _
  |slice a _ _=>cases a<;>cases D<;>first|exact U _|exact H _
  |int k n=>cases D<;>first|exact U _|exact H _
  |_=>cases D<;>first|exact U _|exact H _
def isNil:Operand->Bool
 |.const .nilIface=>true
 |_=>false
def Zb(P:Program)(t:TypeId)(x y:Operand):Bool:=match P.underlying t with
 |some (.interface _)=>isNil x || isNil y
 |_=>flat P 9 t
theorem V8(op:BinOp)(t:TypeId)(x y:Value)(h:op=.eql\/op=.neq->Rb e (Op.equal t x y)):Rb e (binOp op t x y):=by
 unfold binOp
 repeat' first|exact h (.inl rfl)|exact h (.inr rfl)|((with_reducible refine SHU (λ_=>?_) ?_);rotate_left;· exact⟨_,rfl,λ_=>rfl⟩)|((with_reducible refine PR ?_ ?_);· first|exact h (.inl rfl)|exact h (.inr rfl)|(simp only[rF e.T e.G e.F];rfl)|rfl)|with_reducible exact U _|with_reducible refine B ?_ λ_=>?_|with_reducible refine IT ?_ ?_|exact H _|split|(simp;done)|dsimp only|exact B (jQ _) λ_=>U _
end
end Po
set_option linter.unusedSimpArgs false
namespace Po
open Go
section
variable {e:Env}{α β γ σ:Type}
@[simp] theorem YU(x y:Value):Rb e (Builtin.max2 x y):=by
 unfold Builtin.max2;exact TB
@[simp] theorem Zv(x y:Value):Rb e (Builtin.min2 x y):=by
 unfold Builtin.min2;exact TB
@[simp] theorem acT(ts:Array TypeId)(t:TypeId)(vs:Array Value):Rb e (Builtin.max_ ts t vs):=by
 unfold Builtin.max_
 repeat' first|exact Dp YU _ _|with_reducible exact U _|with_reducible refine B ?_ λ_=>?_|with_reducible refine IT ?_ ?_|exact H _|split|(simp;done)|dsimp only|exact B (jQ _) λ_=>U _
@[simp] theorem acU(ts:Array TypeId)(t:TypeId)(vs:Array Value):Rb e (Builtin.min_ ts t vs):=by
 unfold Builtin.min_
 repeat' first|exact Dp Zv _ _|with_reducible exact U _|with_reducible refine B ?_ λ_=>?_|with_reducible refine IT ?_ ?_|exact H _|split|(simp;done)|dsimp only|exact B (jQ _) λ_=>U _
@[simp] theorem Z4(k:IntKind)(n:Int):Rb e (Conv.intToInt k n):=by
 unfold Conv.intToInt;exact TB
@[simp] theorem VZ(k:FloatKind)(n:Int):Rb e (Conv.intToFloat k n):=by
 unfold Conv.intToFloat;exact TB
@[simp] theorem XG(k:FloatKind)(b:Nat)(l:IntKind):Rb e (Conv.floatToInt k b l):=by
 unfold Conv.floatToInt;exact TB
@[simp] theorem MS(k:FloatKind)(a b:Nat)(l:FloatKind):Rb e (Conv.complexToComplex k a b l):=by
 unfold Conv.complexToComplex;exact TB
@[simp] theorem VL(n:Int):Rb e (Conv.intToString n):=by
 unfold Conv.intToString;exact TB
@[simp] theorem Rl(t:TypeId)(s:ByteArray):Rb e (Conv.stringToRunes t s):=by
 unfold Conv.stringToRunes;exact TB
@[simp] theorem Rk(v:Value):Rb e (Conv.bytesToString v):=by
 unfold Conv.bytesToString;split
 ·exact U _
 ·refine B (zk _ _) λ_=>B (xA (λc s=>?_) _ _) λ_=>U _;split
  ·exact U _
  ·exact H _
 ·exact H _
@[simp] theorem Rh(v:Value):Rb e (Conv.runesToString v):=by
 unfold Conv.runesToString;split
 ·exact U _
 ·refine B (zk _ _) λ_=>B (xA (λc s=>?_) _ _) λ_=>U _;split
  ·exact U _
  ·exact H _
 ·exact H _
@[simp] theorem Rj(t:TypeId)(s:ByteArray):Rb e (Conv.stringToBytes t s):=by
 unfold Conv.stringToBytes;refine B (jQ _) λ_=>NR λa ha=>B (SH (λo=>?_) λh=>absurd h ha) λ_=>U _;split
 ·exact Fh _ _ ha
 ·exact U _
@[simp] theorem Ir:∀(n:Nat)(a:Addr)(b:ByteArray),Rb e (loadBytes a b n)
 |0,_,_=>U _
 |n+1,a,b=>by
  unfold loadBytes;refine B (Gi _) λ_=>?_;split
  ·exact Ir n _ _
  ·exact H _
theorem VA{a:Addr}{u:TypeId}{n:Nat}{k:Bool->Sem α}(Y:¬e.D a.block->Rb e (k true))(h2:¬e.D a.block->Rb e (k false))(h3:e.D a.block->k true=k false/\Rb e (k false)\/∀x y es,WP e x y->bad ((k false).runT e.P x es).1=true):Rb e (variablesAt a u n >>= k):=by
 intro x es r E I y hw
 let g (p:Program) (W:World):Bool:=match W.shape? a.block with
  |some (t,cells)=>liesAt p p.depth t (cells/p.cellsOf t) a.off u n
  |none=>false
 have z:∀P (W:World) es,(variablesAt a u n >>= k).runT P W es=(k (g P W)).runT P W es:=λP W es=>by
  rw[runT_bind];simp only[variablesAt,program,shape,bind,Sem.bind,Sem.runT,g];cases W.shape? a.block<;>rfl
 rw[z]at I;by_cases hd:e.D a.block
 ·have hx:g e.P x=false:=by
   have:x.shape? a.block=none:=by
    unfold World.shape?;rcases hw.inn _ hd with⟨c,t,Y,h2,_⟩|⟨l,Y,h2,_⟩<;>rw[h2]
   simp only[g,this]
  rw[hx]at I;rcases h3 hd with⟨h4,h5⟩|h4
  ·have:k (g e.Q y)=k false:=by
    cases g e.Q y
    ·rfl
    ·exact h4
   rcases h5 x es r E I y hw with J|⟨hf,R⟩
   ·exact .inl J
   refine .inr ⟨hf,λfs ha=>?_⟩;rw[z,this];exact R fs ha
  ·have:=h4 x y es hw;rw[I]at this;exact .inl this
 ·have hg:g e.Q y=g e.P x:=by
   have:y.shape? a.block=x.shape? a.block:=by unfold World.shape?;rw[hw.out _ hd]
   simp only[g,this,Zg e.T e.G e.F];rfl
  have key:Rb e (k (g e.P x)):=by
   cases g e.P x
   ·exact h2 hd
   ·exact Y hd
  rcases key x es r E I y hw with J|⟨hf,R⟩
  ·exact .inl J
  refine .inr ⟨hf,λfs ha=>?_⟩;rw[z,hg];exact R fs ha
theorem CZ(ts:Array TypeId)(t:TypeId)(x y:Value):Rb e (Builtin.unsafeString_ ts t #[x,y]):=by
 unfold Builtin.unsafeString_;cases x<;>first|exact H _|skip
 refine B (Ot y) λn=>?_
 repeat' first|exact Fh _ _ (by assumption)|((with_reducible refine VA (λhd=>?_) (λ_=>?_) (λ_=>.inr λ_ _ _ _=>rfl)))|with_reducible exact U _|with_reducible refine B ?_ λ_=>?_|with_reducible refine IT ?_ ?_|exact H _|split|(simp;done)|dsimp only|exact B (jQ _) λ_=>U _
theorem xK(ts:Array TypeId)(t:TypeId)(x:Value):Rb e (Builtin.unsafeSliceData_ ts t #[x]):=by
 unfold Builtin.unsafeSliceData_;cases x<;>first|exact H _|skip
 rename_i a l c;cases a with
 |none=>exact U _
 |some a=>
  show Rb e (if c≠0 then _ else _)
  refine IT (U _) (B (SY _) λ_=>IT (U _) (B (U3 _) λ_=>NB trivial λ_ _=>U _))
@[simp] theorem I8(a:Addr):Rb e (Conv.seenAt a):=by
 unfold Conv.seenAt
 repeat' first|((with_reducible refine SHU (λ_=>?_) ?_);rotate_left;· exact⟨_,rfl,λ_=>rfl⟩)|((with_reducible refine PR ?_ ?_);· first|(simp only[pR e.T e.G e.F,rF e.T e.G e.F];rfl)|rfl)|with_reducible exact U _|with_reducible refine B ?_ λ_=>?_|with_reducible refine IT ?_ ?_|exact H _|split|(simp;done)|dsimp only|exact B (jQ _) λ_=>U _
theorem zS(s d:TypeId)(v:Value):Rb e (Conv.unsafePointer s d v):=by
 unfold Conv.unsafePointer;refine B (kR s) λ_=>B (kR d) λ_=>?_;split
 case h_2=>
  refine B (I8 _) λ_=>B (QG _) λ_=>?_;dsimp only;refine B (qQ _) λ_=>?_;refine IT (NB trivial λ_ _=>U _) (U _)
 case h_4=>
  refine B (I8 _) λb=>B (qQ _) λn=>VA (λ_=>?_) (λ_=>?_) λhd=>?_
  ·repeat' first|((with_reducible refine NB ?_ λ_ _=>?_);· trivial)|((with_reducible refine SHU (λ_=>?_) ?_);rotate_left;· exact⟨_,rfl,λ_=>rfl⟩)|((with_reducible refine PR ?_ ?_);· first|(simp only[NU e.T e.G e.F];done)|((with_reducible refine NB ?_ λ_ _=>?_);· trivial)|(simp only[pR e.T e.G e.F,rF e.T e.G e.F];rfl)|rfl)|with_reducible exact U _|with_reducible refine B ?_ λ_=>?_|with_reducible refine IT ?_ ?_|exact H _|split|(simp;done)|dsimp only|exact B (jQ _) λ_=>U _
  ·repeat' first|((with_reducible refine NB ?_ λ_ _=>?_);· trivial)|((with_reducible refine SHU (λ_=>?_) ?_);rotate_left;· exact⟨_,rfl,λ_=>rfl⟩)|((with_reducible refine PR ?_ ?_);· first|(simp only[NU e.T e.G e.F];done)|((with_reducible refine NB ?_ λ_ _=>?_);· trivial)|(simp only[pR e.T e.G e.F,rF e.T e.G e.F];rfl)|rfl)|with_reducible exact U _|with_reducible refine B ?_ λ_=>?_|with_reducible refine IT ?_ ?_|exact H _|split|(simp;done)|dsimp only|exact B (jQ _) λ_=>U _
  ·by_cases z:n=0
   ·refine .inl ⟨by simp[z],?_⟩;simp only[z,decide_true,Bool.true_or,if_true];exact U _
   ·refine .inr λx y es hw=>?_
    have:x.shape? b.block=none:=by
     unfold World.shape?;rcases hw.inn _ hd with⟨c,t,E,h2,_⟩|⟨l,E,h2,_⟩<;>rw[h2]
    simp only[z,decide_false,Bool.false_or,bJ,if_false,shape,bind,Sem.bind,Sem.runT,this];rfl
 all_goals repeat' first|((with_reducible refine SHU (λ_=>?_) ?_);rotate_left;· exact⟨_,rfl,λ_=>rfl⟩)|((with_reducible refine PR ?_ ?_);· first|(simp only[pR e.T e.G e.F,rF e.T e.G e.F];rfl)|rfl)|with_reducible exact U _|with_reducible refine B ?_ λ_=>?_|with_reducible refine IT ?_ ?_|exact H _|split|(simp;done)|dsimp only|exact B (jQ _) λ_=>U _
end
end Po
namespace Po
open Go
def FP(P:Program)(z:Array TypeId):Builtin->Nat->Bool
 |.append,_|.cap,_|.clear,_|.copy,_|.len,_|.max,_|.min,_=>true
 |.delete,_=>xE P (z.getD 0 0)
 |.unsafeString,n=>n == 2
 |.unsafeSliceData,n=>n == 1
 |_,_=>false
def QA(P:Program):Op->Bool
 |.move _|.assign _|.box ..|.load ..|.unOp ..|.makeInterface ..|.fieldAddr ..|.field ..|.range ..|.next ..|.entry _|.extract ..|.pick ..|.alloc _|.build ..|.buildSlice ..|.store ..|.makeSlice ..|.indexAddr ..|.index ..|.makeFunc ..|.makeMap ..|.slice ..|.nilCheck _|.panic _=>true
 |.binOp op t a b _=>match op with
  |.eql|.neq=>Zb P t a b
  |_=>true
 |.lookup t ..|.mapUpdate t ..|.insert t ..=>xE P t
 |.convert s d _=>!(s == d)
 |.call { callee:=.value _,.. }=>true
 |.call { callee:=.builtin b,args,argTypes,.. }=>FP P argTypes b args.size
 |_=>false
def ou(P:Program):Code->Bool
 |.skip|.exit _|.ret|.refuse _=>true
 |.region _ ops _=>ops.toList.all λo=>QA P o.op
 |.seq a b|.cond _ a b=>ou P a&&ou P b
 |.block _ c|.loop c=>ou P c
 |.rangeFunc _ _ a c=>ou P a&&ou P c
 |.scope _|.label _|.goto _=>false
section
section
variable {e:Env}{α β γ σ:Type}
@[simp] theorem acO:Rb e (sys .env):=RD (λw=>some (.strings w.os.env)) (λP W es=>⟨ "",#[⟨.output,true,false⟩],rfl,λv hv=>by simp at hv;subst hv;trivial⟩) λx y hw a ha=>by rw[<-ha,hw.os]
@[simp] theorem Zk:Rb e (Instr.panicnil):=by
 unfold Instr.panicnil;exact TP
@[simp] theorem abD(v:Value):Rb e (Instr.panic v):=by
 unfold Instr.panic;exact TP
@[simp] theorem ac0(t:TypeId)(p:Place):Rb e (Place.get t p):=by
 unfold Place.get;exact TP
@[simp] theorem U8:∀(l:List FieldStep)(t:TypeId)(p:Place),Rb e (follow l t p)
 |[],_,_=>U _
 |s::l,t,p=>by
  have ih:=U8 l;unfold follow
  repeat' first|exact ih _ _|with_reducible exact U _|with_reducible refine B ?_ λ_=>?_|with_reducible refine IT ?_ ?_|exact H _|split|(simp;done)|dsimp only|exact B (jQ _) λ_=>U _
@[simp] theorem aaj(ts:Array TypeId)(t:TypeId)(x y z:Value):Rb e (Builtin.ssaWrapNilChk_ ts t #[x,y,z]):=by
 unfold Builtin.ssaWrapNilChk_;cases y<;>first|exact H _|skip
 cases z<;>first|exact H _|skip
 show Rb e (match x with
  |.pointer (some _)=>_
  |.pointer none=>_
  |_=>_)
 exact TP
@[simp] theorem Xa(t:TypeId)(p:Place)(b:Bool)(w:Option String):Rb e (receiverAt t p b w):=by
 unfold receiverAt;exact TP
@[simp] theorem DJ(t:TypeId)(v:Value)(p:Array FieldStep)(b:Bool):Rb e (receiverVia t v p b):=by
 unfold receiverVia;exact TP
@[simp] theorem Jd:∀(n:Nat)(t:TypeId)(v:Value)(s:String),Rb e (method n t v s)
 |0,_,_,_=>H _
 |n+1,t,v,s=>by
  have ih:=Jd n;unfold method
  repeat' first|exact ih _ _ _|with_reducible exact U _|with_reducible refine B ?_ λ_=>?_|with_reducible refine IT ?_ ?_|exact H _|split|(simp;done)|dsimp only|exact B (jQ _) λ_=>U _
@[simp] theorem Dx:∀(l:List FieldStep)(t:TypeId)(p:Option Value),Rb e (followBlind l t p)
 |[],_,_=>U _
 |s::l,t,p=>by
  have ih:=Dx l;unfold followBlind
  repeat' first|exact ih _ _|with_reducible exact U _|with_reducible refine B ?_ λ_=>?_|with_reducible refine IT ?_ ?_|exact H _|split|(simp;done)|dsimp only|exact B (jQ _) λ_=>U _
@[simp] theorem ML:∀(n:Nat)(t:TypeId)(v:Value)(s:String),Rb e (nilAhead n t v s)
 |0,_,_,_=>U _
 |n+1,t,v,s=>by
  have ih:=ML n;unfold nilAhead
  repeat' first|exact ih _ _ _|with_reducible exact U _|with_reducible refine B ?_ λ_=>?_|with_reducible refine IT ?_ ?_|exact H _|split|(simp;done)|dsimp only|exact B (jQ _) λ_=>U _
end
end
section
section
variable {e:Env}{α β γ σ:Type}
structure Fit(e:Env):Prop where
 code:∀c,e.C c↔ou e.P c=true
 name:∀(f:Nat)(fn:Func),e.F[f]? =some fn->(fn.name == "runtime.NumGoroutine")=false
 same:∀(f:Nat)(fn:Func)(c:Code),e.F[f]? =some fn->fn.body=some c->e.G[f]? =some fn/\ou e.P c=true
 ext:∀(f:Nat)(fn:Func)(args:Array Value),e.F[f]? =some fn->fn.body=none->Rb e (callFunc f args)/\∀x es n x1 es1,(callFunc f args).runT e.P x es=(.ok n x1,es1)->∃v,n=.value v
 results:∀f:Nat,(e.G[f]?).map (·.results)=(e.F[f]?).map (·.results)
 early:e.P.follows .staticDataAhead=true
variable (F:Fit e)
include F
theorem vM(f:FuncId)(args:Array Value):Rb e (callFunc f args):=by
 cases z:e.F[f]? with
 |none=>
  intro x es r J I y hw
  have:(callFunc f args).runT e.P x es=(.halt (.stuck "call: no such function") x,es):=by
   simp only[callFunc,program,bind,Sem.bind,Sem.runT,show e.P.funcs[f]? =none from z];rfl
  rw[this]at I;cases I;exact .inl rfl
 |some fn=>
  cases E:fn.body with
  |none=>exact(F.ext f fn args z E).1
  |some c=>
   unfold callFunc;have R:=(F.same f fn c z E).1;refine PR ?_ ?_
   ·simp only[show e.P.funcs[f]? =some fn from z,show e.Q.funcs[f]? =some fn from R]
   ·simp only[show e.P.funcs[f]? =some fn from z,F.name f fn z,E,Option.isNone_some,bJ,if_false];exact U _
theorem wS(v:Value)(s:String)(args:Array Value):Rb e (callMethod v s args):=by
 unfold callMethod;split
 ·exact PR rfl (B (Jd _ _ _ _) λ_=>vM F _ _)
 ·exact mg _
 ·exact H _
omit F in
@[simp] theorem QL(l:Nat):Rb e (Instr.getLoop l):=by
 unfold Instr.getLoop;exact TO
omit F in
@[simp] theorem WL(l:Nat)(args:Array Value):Rb e (Instr.yield l args):=by
 unfold Instr.yield;exact TB
theorem Ci(f:Fn)(cap args:Array Value):Rb e (invoke (.fn f cap) args):=by
 cases f with
 |func f=>exact vM F _ _
 |method n=>
  show Rb e (match args[0]? with|some recv=>_|_=>_)
  split
  ·exact wS F _ _ _
  ·exact H _
 |methodOf t n=>
  show Rb e (match args[0]? with|some recv=>_|_=>_)
  split
  ·exact B (kR _) λ_=>wS F _ _ _
  ·exact H _
 |via t p f b=>
  show Rb e (match args[0]? with|some recv=>_|_=>_)
  split
  ·exact B (DJ _ _ _ _) λ_=>vM F _ _
  ·exact H _
 |yield l=>exact WL l args
omit F in
theorem QC{b:Builtin}{ts:Array TypeId}{args:Array Value}(h:FP e.P ts b args.size=true)(t:TypeId)(cs:Array Bool):Rb e (builtin b ts t cs args):=by
 cases b<;>first|(cases h;done)|skip
 case delete=>exact B (UO h t args) λ_=>U _
 case unsafeString=>
  obtain⟨l⟩:=args
  match l,h with
  |[x,y],_=>exact B (CZ _ _ _ _) λ_=>U _
 case unsafeSliceData=>
  obtain⟨l⟩:=args
  match l,h with
  |[x],_=>exact B (xK _ _ _) λ_=>U _
 all_goals exact B (by simp) λ_=>U _
omit F in
theorem PI{s d:TypeId}(h:(s == d)=false)(v:Value):Rb e (convert s d v):=by
 unfold convert;refine B (kR s) λ_=>B (kR d) λ_=>?_
 repeat' first|exact zS _ _ _|with_reducible exact U _|with_reducible refine B ?_ λ_=>?_|with_reducible refine IT ?_ ?_|exact H _|(have z:(s == d)=true:=(by assumption);rw[h]at z;cases z)|split|(simp;done)|dsimp only|exact B (jQ _) λ_=>U _
theorem SB(ρ:Operand->Value)(hρ:∀v,ρ (.const v)=v)(o:Oper)(h:QA e.P o.op=true):Rb e (execOp ρ o):=by
 unfold execOp;cases E:o.op<;>rw[E]at h<;>first|(cases h;done)|exact B (by simp) (λ_=>U _)|exact U _|skip
 case insert=>exact B (zl h _ _ _) λ_=>U _
 case mapUpdate=>exact B (zl h _ _ _) λ_=>U _
 case lookup=>exact B (U1 h _ _ _) λ_=>U _
 case convert=>exact B (PI (by simpa[QA]using h) _) λ_=>U _
 case nilCheck=>
  dsimp only;exact TP
 case binOp op t a b _=>
  refine B (B (P9 _ _ _ _ _ _) λ_=>V8 _ _ _ _ λI=>?_) λ_=>U _;have z:Zb e.P t a b=true:=by rcases I with rfl|rfl<;>exact h
  unfold Zb at z;split at z
  ·have key:∀o:Operand,isNil o=true->ρ o=.nilIface:=λo E=>by
    cases o with
    |const v=>cases v<;>first|(cases E;done)|exact hρ _
    |_=>cases E
   rcases Bool.or_eq_true_iff.1 z with z|z<;>rw[key _ z]
   ·exact(A8 _ _ _).2
   ·exact(A8 _ _ _).1
  ·exact Eo _ _ _ _ _ z
 case call c=>
  obtain⟨callee,args,ts⟩:=c;cases callee with
  |invoke _ _=>cases h
  |builtin b=>exact QC (by rw[Array.size_map];exact h) _ _
  |value f=>
   show Rb e (Deferred.ofValue (ρ f) _ >>= _)
   unfold Deferred.ofValue;split
   ·exact Ci F _ _ _
   ·show Rb e (runtimePanic .nilDeref:Sem Next)
    exact mg _
   ·exact H _
end
end
section
variable {e:Env}{fr f:Frame}{A:List Frame}{st:Program->List Frame->World->GStep}
abbrev mk(fr:Frame)(cs:List Frame):Goroutine:={ frame:=fr,callers:=cs,status:=.running,dying:=none }
def oH(P:Program):Item->Bool
 |.code c|.inLoop c=>ou P c
 |.inRegion ops _=>ops.toList.all λo=>QA P o.op
 |.inBlock _|.inRangeFunc _|.beginRound|.endRangeFunc _=>true
 |_=>false
structure sU(e:Env)(fr:Frame):Prop where
 todo:∀i∈fr.todo,oH e.P i=true
 defers:∀d∈fr.defers,∃r,d.target=.collected r
 kind:fr.kind=.normal
def OkG(e:Env)(fr:Frame)(A:List Frame):Prop:=sU e fr/\∀f∈A,sU e f
theorem OkG.top(h:OkG e fr A)(z:sU e f):OkG e f A:=⟨z,h.2⟩
theorem OkG.push(h:OkG e fr A)(z:sU e f):OkG e f (fr::A):=⟨z,λg E=>(bV.1 E).elim (λk=>k ▸ h.1) (h.2 g)⟩
theorem OkG.pop{a:Frame}(h:OkG e fr (a::A)):OkG e a A:=⟨h.2 a (.head _),λg z=>h.2 g (.tail _ z)⟩
def catcher(P:Program):Frame:={ fn:=P.funcs.size,tmps:=#[],todo:=[.call { target:=.nil,args:=#[] } false "fmt's door" #[]],defers:=[],mode:=.run,kind:=.normal }
def Fal(P:Program)(fr:Frame):Prop:=(∃v,fr=(catcher P).finish v)\/∃ch,fr=(catcher P).raise ch
def l9(s:GStep):Prop:=∃o w es,s=.ended o w es
section
variable {e:Env}{β:Type}{main:Bool}{fr f:Frame}{A c B:List Frame}{x y:World}
def Sm(e:Env)(B:List Frame)(st:Program->List Frame->World->GStep):Prop:=∀x y,WP e x y->
 l9 (st e.P [catcher e.P] x)\/(∃z x' es,st e.P [catcher e.P] x=.go (mk z []) x' es/\Fal e.P z)\/
 ∃z I x' es,st e.P [catcher e.P] x=.go (mk z (I++[catcher e.P])) x' es/\Mo x x'/\OkG e z I/\
  (Ans x x' y->∃J E,st e.Q B y=.go (mk z (I++B)) J E/\To e x x' y J/\∀v∈E,Av e x'.heap.size v)
theorem Sm.of{s t:Program->List Frame->World->GStep}(h:Sm e B s)(k:∀P,P=e.P\/P=e.Q->∀C w,t P C w=s P C w):Sm e B t:=by
 intro x y hw;rw[k _ (.inl rfl)];rw[k _ (.inr rfl)];exact h x y hw
theorem kV(z:OkG e f c):Sm e B λ_ C w=>.go (mk f (c++C)) w #[]:=λx y hw=>
 .inr (.inr ⟨f,c,x,#[],rfl,⟨jA,rfl,jA⟩,z,λ_=>⟨y,#[],rfl,hw.stay,by simp⟩⟩)
theorem Gz(h:∀w,l9 (st e.P [catcher e.P] w)):Sm e B st:=λx _ _=>.inl (h x)
theorem Rt(P:Program)(f:Nat)(es:Array Event):∀v∈seen P f es,v∈es:=by
 unfold seen;dsimp only;rw[<-Array.foldl_toList]
 have key:∀(l:List Event)(q:Bool)(k:Array Event),∀v∈(l.foldl (λ(q,kept) e=>match e.loc with
   |.mark (.extern f)=>((P.funcs[f]?).any (·.norace),kept)
   |_=>(q,if q&&!e.sync then kept else kept.push e)) (q,k)).2,v∈k\/v∈l:=by
  intro l
  induction l with
  |nil=>intro q k v z;exact .inl z
  |cons a l ih=>
   intro q k v z;simp only[List.foldl_cons]at z;split at z
   ·exact(ih _ _ v z).imp id (.tail _)
   ·rcases ih _ _ v z with h|h
    ·split at h
     ·exact .inl h
     ·rcases Array.mem_push.1 h with h|h
      ·exact .inl h
      ·exact .inr (h ▸ .head _)
    ·exact .inr (.tail _ h)
 intro v z;rcases key _ _ _ v z with h|h
 ·simp at h
 ·simpa using h
theorem l9.after{s:GStep}(h:l9 s)(es:Array Event):l9 (s.after es):=by
 obtain⟨o,w,z,rfl⟩:=h;exact⟨_,_,_,rfl⟩
theorem kH{o:Outcome}{w:World}{es:Array Event}:l9 (.ended o w es):=⟨_,_,_,rfl⟩
theorem Vs(r:Result β)(w:World):fine (put r w)=fine r:=by
 cases r with
 |ok a w=>rfl
 |halt h w=>cases h<;>rfl
theorem sF{s:Sem β}(hs:Rb e s)(fn:FuncId)(K:Program->List Frame->Result β->GStep)
  (h0:∀w r es,s.runT e.P w #[]=(r,es)->bad r=true->l9 (st e.P [catcher e.P] w))
  (h1:∀P,P=e.P\/P=e.Q->∀C w r es,s.runT P w #[]=(r,es)->fine r=true->st P C w=GStep.after (seen P fn es) (K P C r))
  (h2:∀x y r es,s.runT e.P x #[]=(r,es)->fine r=true->WP e x y->l9 (K e.P [catcher e.P] r)\/Sm e B λP C w=>K P C (put r w)):Sm e B st:=by
 intro x y hw;cases R:s.runT e.P x #[]with
 |mk r es1=>
 rcases hs x #[] r es1 R y hw with hb|⟨hf,hq⟩
 ·exact .inl (h0 x r es1 R hb)
 have hm:=mono (P:=e.P) s x #[];rw[R]at hm;rw[h1 _ (.inl rfl) _ _ _ _ R hf];rcases h2 x y r es1 R hf hw with h|h
 ·exact .inl (h.after _)
 have hp:put r (wd r)=r:=by cases r<;>rfl
 obtain⟨y0,ae,_,t0,_⟩:=((hs x #[] r es1 R _ hw.own).resolve_left (NQ hf)).2 #[] λ_ _=>rfl;rcases h (wd r) y0 t0.wp with J|⟨E,x',es,J,hF⟩|⟨E,A',x',es,J,z,ab,_⟩<;>simp only[hp]at J
 ·exact .inl (J.after _)
 ·exact .inr (.inl ⟨E,x',_,by rw[J];rfl,hF⟩)
 refine .inr (.inr ⟨E,A',x',_,by rw[J];rfl,z.of hm.1 hm.2.1 hm.2.2,ab,λha=>?_⟩);have h3:x.drawn<=(wd r).drawn:=hm.1;obtain⟨y1,ev,a1,I,a3⟩:=hq #[] λi hi=>ha i (by have:=z.1;omega);have hy:=h (wd r) y1 I.wp;simp only[hp,J]at hy;obtain⟨aa,A2,x2,af,e1,_,_,hz⟩:=(hy.resolve_left (by rintro⟨_,_,_,k⟩;cases k)).resolve_left (by rintro⟨_,_,_,k,_⟩;simp at k)
 obtain⟨rfl,rfl,rfl⟩:aa=E/\A2=A'/\x2=x':=by
  simp only[GStep.go.injEq,Goroutine.mk.injEq,and_true]at e1;exact⟨e1.1.1.symm,(jf e1.1.2).symm,e1.2.1.symm⟩
 obtain⟨y2,ac,b1,Y,b3⟩:=hz λi hi=>by
  have:=ha ((wd r).drawn-x.drawn+i) (by have:=z.1;omega);rw[I.tape,I.drawn,dO,this,show(wd r).tape=x.tape from hm.2.1,<-dO,Nat.add_sub_cancel' h3]
 refine⟨y2,seen e.Q fn (#[]++ev)++ac,?_,⟨Y.wp,Y.tape.trans I.tape,?_,λb hb=>(Y.dead b hb).trans (I.dead b hb),Y.still.1.trans I.still.1,Y.still.2.trans I.still.2⟩,λv hv=>?_⟩
 ·rw[h1 _ (.inr rfl) _ _ _ _ a1 (by rw[Vs];exact hf)];rw[b1];rfl
 ·rw[Y.drawn,I.drawn];have:=z.1;omega
 ·rcases Array.mem_append.1 hv with hv|hv
  ·have:=Rt e.Q fn (#[]++ev) v hv;exact(a3 v (by simpa using this)).le z.2.2
  ·exact b3 v hv
theorem sU.set(h:sU e fr){k:List Item}(hk:∀i∈k,oH e.P i=true):sU e { fr with todo:=k }:=⟨hk,h.defers,h.kind⟩
theorem qB{P:Program}:∀c:Code,ou P c=true->readies c=[]
 |.region _ ops _,h=>by
  simp only[readies,List.filterMap_eq_nil_iff];intro o E;have:=eY.1 h o E;cases z:o.op<;>first|rfl|(rw[z]at this;cases this)
 |.seq a b,h|.cond _ a b,h|.rangeFunc _ _ a b,h=>by
  obtain⟨I,h2⟩:=iH.1 h;simp only[readies,qB a I,qB b h2,fU]
 |.block _ c,h|.loop c,h=>qB c h
 |.scope c,h=>by cases h
 |.skip,_|.exit _,_|.ret,_|.refuse _,_|.label _,_|.goto _,_=>rfl
theorem Va(F:Fit e)(fr:Frame)(cs:List Frame)(g:Nat)(w:World):l9 (early e.P fr cs none g w):=by
 have E:e.P.stepOf g=none:=by
  unfold Program.stepOf;rw[Array.findIdx?_eq_none_iff];intro fn z;obtain⟨i,I,rfl⟩:=Array.getElem_of_mem z;cases J:(e.P.funcs[i]).body with
  |none=>rfl
  |some c=>simp[qB c (F.same i _ c (bU I) J).2]
 unfold early;simp only[F.early,Bool.not_true,bJ,if_false,E];exact kH
end
end
section
variable {n:Next}{es es1:Array Event}{x x1:World}
section
variable {e:Env}{α:Type}
def Kd(e:Env):Next->Prop
 |.value _|.skip=>True
 |.enter f _=>∃fn c,e.F[f]? =some fn/\fn.body=some c
 |_=>False
def Pk(e:Env)(s:Sem Next):Prop:=∀x es n x1 es1,s.runT e.P x es=(.ok n x1,es1)->Kd e n
def Rd(x:World)(n:Next):Prop:=∃l f tmps a b z,n=.round l f tmps a b/\x.heap[l]? =some (.loop z)/\z.assign=a/\z.body=b
theorem nU{s:Sem α}{k:α->Sem Next}(h:∀a,Pk e (k a)):Pk e (s >>= k):=by
 intro x es n x1 es1 z;rw[runT_bind]at z;split at z
 ·exact h _ _ _ _ _ _ z
 ·cases z
theorem xO(h:Kd e n):Pk e (pure n):=by
 intro x es m x1 es1 z;cases z;exact h
theorem Ae(h:Halt):Pk e (.halt h):=by
 intro x es m x1 es1 z;cases z
theorem aaV(s:Sem Value):Pk e (do pure (.value (<-s))):=nU λ_=>xO trivial
theorem xk(x:RuntimeError):Pk e (runtimePanic x):=by
 unfold runtimePanic;refine nU λp=>?_;cases x<;>first|exact Ae _|exact nU λ_=>nU λ_=>Ae _
theorem CX{P:Program}{l:Nat}{z:Loop}{W I:World}(h:(Instr.getLoop l).runT P W es=(.ok z I,es1)):W.heap[l]? =some (.loop z)/\I=W:=by
 have E:(Instr.getLoop l).runT P W es=match W.heap[l]? with
   |some (.loop z)=>(.ok z W,es.push ⟨.obj l,false,false⟩)
   |some (.cells ..)=>(.halt (.stuck "getObj: a row of cells") W,es)
   |some o=>(.halt (.stuck "range over a function: no such loop") W,es.push ⟨.obj l,false,o.isChan⟩)
   |none=>(.halt (.stuck "getObj: no such block") W,es):=by
  show Sem.runT P (.getObj l _) W es=_
  simp only[Sem.runT];cases W.heap[l]? with
  |none=>rfl
  |some o=>cases o<;>rfl
 rw[E]at h;split at h<;>cases h;exact⟨by assumption,rfl⟩
variable (F:Fit e)
include F
theorem uf(f:FuncId)(args:Array Value):Pk e (callFunc f args):=by
 intro x es n x1 es1 E;cases z:e.F[f]? with
 |none=>
  simp only[callFunc,program,bind,Sem.bind,Sem.runT,show e.P.funcs[f]? =none from z]at E;cases E
 |some fn=>
  cases I:fn.body with
  |none=>obtain⟨v,rfl⟩:=(F.ext f fn args z I).2 x es n x1 es1 E;trivial
  |some c=>
   simp only[callFunc,program,bind,Sem.bind,Sem.runT,show e.P.funcs[f]? =some fn from z,F.name f fn z,I,Option.isNone_some,bJ,if_false]at E;cases E;exact⟨fn,c,z,I⟩
theorem uY(v:Value)(s:String)(args:Array Value):Pk e (callMethod v s args):=by
 unfold callMethod;split
 ·exact nU λ_=>nU λ_=>uf F _ _
 ·exact xk _
 ·exact Ae _
theorem EY(g:Fn)(cap args:Array Value)(z:(invoke (.fn g cap) args).runT e.P x es=(.ok n x1,es1)):Kd e n\/Rd x n:=by
 cases g with
 |func f=>exact .inl (uf F _ _ _ _ _ _ _ z)
 |method nm=>
  left;revert z
  show(match args[0]? with|some recv=>_|_=>_:Sem Next).runT e.P x es=_->_
  split
  ·exact λz=>uY F _ _ _ _ _ _ _ _ z
  ·intro z;cases z
 |methodOf t nm=>
  left;revert z
  show(match args[0]? with|some recv=>_|_=>_:Sem Next).runT e.P x es=_->_
  split
  ·exact λz=>(nU λ_=>uY F _ _ _) _ _ _ _ _ z
  ·intro z;cases z
 |via t p f b=>
  left;revert z
  show(match args[0]? with|some recv=>_|_=>_:Sem Next).runT e.P x es=_->_
  split
  ·exact λz=>(nU λ_=>uf F _ _) _ _ _ _ _ z
  ·intro z;cases z
 |yield l=>
  right;revert z
  show(Instr.yield l args).runT e.P x es=_->_
  unfold Instr.yield;rw[runT_bind];intro z;split at z
  ·rename_i R w1 I E;obtain⟨J,rfl⟩:=CX E;split at z
   ·cases z
   ·cases z;exact⟨l,_,_,_,_,R,rfl,J,rfl,rfl⟩
  ·cases z
theorem OY(ρ:Operand->Value)(o:Oper)(h:QA e.P o.op=true)(z:(execOp ρ o).runT e.P x es=(.ok n x1,es1)):Kd e n\/Rd x n:=by
 by_cases I:∃f args ts,o.op=.call { callee:=.value f,args,argTypes:=ts }
 ·obtain⟨f,args,ts,E⟩:=I;unfold execOp at z;rw[E]at z;revert z
  show(Deferred.ofValue (ρ f) _ >>= λd=>invoke d.target d.args).runT e.P x es=_->_
  unfold Deferred.ofValue;split
  ·exact λz=>EY F _ _ _ z
  ·show(runtimePanic .nilDeref:Sem Next).runT e.P x es=_->_
   exact λz=>.inl (xk _ _ _ _ _ _ z)
  ·intro z;cases z
 ·left;revert z
  have:Pk e (execOp ρ o):=by
   unfold execOp;cases E:o.op<;>rw[E]at h<;>first|(cases h;done)|exact aaV _|exact xO trivial|exact nU (λ_=>xO trivial)|skip
   case nilCheck=>
    dsimp only
    repeat' first|exact xO trivial|exact xk _|exact Ae _|with_reducible refine nU λ_=>?_|split
   case call c=>
    obtain⟨callee,args,ts⟩:=c;cases callee with
    |invoke _ _=>cases h
    |value f=>exact absurd ⟨f,args,ts,E⟩ I
    |builtin b=>cases b<;>first|(cases h;done)|exact aaV _
  exact this _ _ _ _ _
end
end
section
variable {s:Sem Next}
section
variable {e:Env}{β:Type}{main:Bool}{fr f:Frame}{A cs c B:List Frame}{x y:World}
theorem sU.finish(h:sU e fr)(v:Value):sU e (fr.finish v):=by
 have ht:=h.todo;unfold Frame.finish;split
 ·rename_i hk;rw[hk]at ht;refine⟨λi z=>?_,h.defers,h.kind⟩;rcases bV.1 z with rfl|z
  ·exact(ht _ (.head _):)
  ·exact ht _ (.tail _ z)
 ·rename_i hk;rw[hk]at ht;exact⟨λi z=>(bV.1 z).elim (λh=>by rw[h];rfl) λz=>ht _ (.tail _ z),h.defers,h.kind⟩
 ·rename_i hk;rw[hk]at ht;exact⟨λi z=>ht _ (.tail _ z),h.defers,h.kind⟩
 ·rename_i hk;rw[hk]at ht;exact absurd (ht _ (.head _)) (by simp[oH])
 ·rename_i hk;rw[hk]at ht;exact absurd (ht _ (.head _)) (by simp[oH])
 ·exact h
theorem sU.raise(h:sU e fr)(ch:List PanicEntry):sU e (fr.raise ch):=by
 unfold Frame.raise;split<;>exact⟨h.todo,h.defers,h.kind⟩
theorem sU.head(h:sU e fr){d w r s k}:fr.todo≠.call d w r s::k:=λhk=>by
 have:=h.todo (.call d w r s) (by rw[hk];exact .head _);cases this
theorem uM(s:GStep):GStep.after #[] s=s:=by cases s<;>simp[GStep.after]
theorem rD(P:Program)(f:FuncId):seen P f #[]=#[]:=rfl
def VK:Result β->Sem β
 |.ok a _=>pure a
 |.halt h _=>.halt h
theorem Et{P:Program}{w:World}{r:Result Next}{es:Array Event}(E:s.runT P w #[]=(r,es))(hk:fr.kind=.normal):stepG.apply P true fr cs none s w=GStep.after (seen P fr.fn (match r with|.halt .blocked _|.halt .waiting _|.halt (.unsupported (.initOrder _)) _=>#[]|_=>es)) (stepG.apply P true fr cs none (VK r) (wd r)):=by
 have h2:(VK r).runT P (wd r) #[]=(r,#[]):=by cases r<;>rfl
 have z:(fr.kind == CallKind.early)=false:=by rw[hk];rfl
 conv=>lhs;unfold stepG.apply
 conv=>rhs;arg 2;unfold stepG.apply
 simp only[E,h2,if_true,z,bJ,if_false];cases r with
 |ok n w=>exact congrArg (GStep.after _) (uM _).symm
 |halt h w=>
  cases h with
  |unsupported u=>cases u<;>exact congrArg (GStep.after _) (uM _).symm
  |_=>exact congrArg (GStep.after _) (uM _).symm
theorem yG(F:Fit e)(z:OkG e fr A)(hs:Rb e s)(hk:∀x es n x1 R,s.runT e.P x es=(.ok n x1,R)->Kd e n\/Rd x n):Sm e B λP C w=>stepG.apply P true fr (A++C) none s w:=by
 have kd:(match fr.todo with|.call _ true _ _::_=>CallKind.wrapped|_=>.normal)=.normal:=by
  split
  ·exact absurd (by assumption) z.1.head
  ·rfl
 refine sF hs fr.fn (λP C r=>stepG.apply P true fr (A++C) none (VK r) (wd r)) ?_ ?_ ?_
 ·intro w r es I E;rw[Et I z.1.kind];refine l9.after ?_ _;cases r with
  |ok n w=>cases E
  |halt h w=>
   cases h<;>first|(cases E;done)|skip
   ·unfold stepG.apply;refine l9.after ?_ _;rename_i u;cases u<;>first|exact Va F _ _ _ _|exact kH
   ·unfold stepG.apply;exact l9.after kH _
 ·intro P _ C w r es I E;rw[Et I z.1.kind];cases r with
  |ok n w=>rfl
  |halt h w=>cases h<;>first|rfl|cases E
 ·intro x y r es I E hw;have go:∀f c,OkG e f c->(∀P,P=e.P\/P=e.Q->∀C w,stepG.apply P true fr (A++C) none (VK (put r w)) (wd (put r w))=.go (mk f (c++C)) w #[])->Sm e B λP C w=>stepG.apply P true fr (A++C) none (VK (put r w)) (wd (put r w)):=λf c aa h=>(kV aa).of h;right;cases r with
  |halt h w=>
   cases h<;>first|(cases E;done)|skip
   rename_i v;exact go (fr.raise [{ v,recovered:=false }]) A (z.top (z.1.raise _)) λP _ C w'=>by unfold stepG.apply;simp[VK,Sem.runT,rD,GStep.after,wd,put]
  |ok n w=>
   rcases hk x _ _ _ _ I with hn|⟨l,g,tmps,a,b,lp,rfl,hl,rfl,rfl⟩
   ·cases n<;>first|(cases hn;done)|skip
    ·rename_i v;exact go (fr.finish v) A (z.top (z.1.finish _)) λP _ C w'=>by unfold stepG.apply;simp[VK,Sem.runT,pure,rD,GStep.after,wd,put]
    ·exact go (fr.finish undef) A (z.top (z.1.finish _)) λP _ C w'=>by unfold stepG.apply;simp[VK,Sem.runT,pure,rD,GStep.after,wd,put]
    ·rename_i g args;obtain⟨fn,c,Y,h2⟩:=hn;obtain⟨h3,h4⟩:=F.same g fn c Y h2;refine go (Frame.enter e.P g args .normal) (fr::A) (z.push ⟨λi J=>?_,λd hd=>?_,rfl⟩) λP hP C w'=>?_
     ·simp only[Frame.enter,show e.P.funcs[g]? =some fn from Y,gK,h2,fB,dD]at J;subst J;exact h4
     ·simp[Frame.enter]at hd
     ·have:Frame.enter e.P g args .normal=Frame.enter P g args .normal:=by
       unfold Frame.enter;rcases hP with rfl|rfl
       ·rfl
       ·rw[show e.P.funcs[g]? =some fn from Y,show e.Q.funcs[g]? =some fn from h3]
      rw[this];unfold stepG.apply;simp[VK,Sem.runT,pure,rD,GStep.after,wd,put];exact congrArg (Frame.enter P g args) kd
   ·obtain⟨o1,o2,_⟩:=hw.objs l _ hl;refine go (Frame.round l g tmps lp.assign lp.body .normal) (fr::A) (z.push ⟨λi J=>?_,λd hd=>?_,rfl⟩) λP _ C w'=>by unfold stepG.apply;simp[VK,Sem.runT,pure,rD,GStep.after,wd,put]
    ·simp only[Frame.round,bV,List.not_mem_nil,or_false]at J;rcases J with rfl|rfl|rfl
     ·exact(F.code _).1 o1
     ·rfl
     ·exact(F.code _).1 o2
    ·simp[Frame.round]at hd
end
end
end Po
end Go.Proofs.YtpibpdpedjinhaaGreatDoor
