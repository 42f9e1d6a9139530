import Derived.Test.YtpibpdpedjinhaaGreatDoorP08
import Derived.Laws.Sem
set_option maxRecDepth 100000
set_option linter.all false
open Bool renaming false->aL,true->bB
open Go renaming Addr->gF,Event->mb,FloatKind->kq,Frame->cU,Func->rk,IntKind->kg,MapEntry->gT,Operand->nL,Program->cY,TypeId->cH,Value->aD,World->U,callFunc->ki
open Go.Builtin renaming append_->lO,copy_->oF,delete_->kl,firstCells->oS,holdsCells->mR,len_->mA,mayShare->n8,unsafeString_->oo
open Go.Instr renaming buildSlice->om,getLoop->kI,index->mo,indexAt->iX,keyThatStays->pa,mapUpdate->oE,slice->lA,sliceBounds->n9
open Go.Op renaming equalIn->pd
open Go.Sem renaming bind->fY,runT->cN
open Option renaming none->Z,some->M
open Or renaming inl->cJ,inr->cK
namespace Go.Proofs.YtpibpdpedjinhaaGreatDoor
namespace Po
open Go
section
section
variable {e:Env}{α β γ σ:Type}
@[simp] theorem aez(t:cH):Rb e (typeInfo t):=PR rfl TB
@[simp] theorem lq(t:cH):Rb e (underlying t):=PR rfl TB
@[simp] theorem ae8(q:Question):Rb e (choose q):=jU q
@[simp] theorem agv(a:gF):Rb e (load a):=JC a
@[simp] theorem afJ(a:gF):Rb e (frozen a):=Uw a
@[simp] theorem Xh(r:Nat):Rb e (viewAt r):=Vx r
@[simp] theorem aem(r:Nat):Rb e (numberAt r):=LM r
@[simp] theorem Vk(r:Nat):Rb e (cellsIn r):=Qk r
@[simp] theorem adO(a b:gF):Rb e (mayBeOne a b):=LD a b
theorem Rh{f:γ->σ->Sem (ForInStep σ)}(h:∀x s,Rb e (f x s)):∀(l:List γ)(s:σ),Rb e (forIn l s f):=by
 intro l
 induction l with
 |nil=>intro s;exact X2 _
 |cons x l ih=>
  intro s;rw[List.forIn_cons];refine B (h x s) λa=>?_;cases a
  .exact X2 _
  .exact ih _
theorem yU{f:γ->σ->Sem (ForInStep σ)}(h:∀x s,Rb e (f x s))(l:Array γ)(s:σ):Rb e (forIn l s f):=by rw[<-Array.forIn_toList];exact Rh h _ s
theorem EH{f:Nat->σ->Sem (ForInStep σ)}(h:∀x s,Rb e (f x s))(n:Nat)(s:σ):Rb e (forIn [:n] s f):=by rw[Std.Legacy.Range.forIn_eq_forIn_range'];exact Rh h _ s
theorem abl{f:γ->Sem α}(h:∀x,Rb e (f x))(l:List γ):Rb e (l.mapM f):=by
 induction l with
 |nil=>exact X2 _
 |cons x l ih=>
  rw[List.mapM_cons];exact B (h x) λ_=>B ih λ_=>X2 _
theorem YD{f:γ->Sem α}(h:∀x,Rb e (f x))(xs:Array γ):Rb e (xs.mapM f):=by rw[Array.mapM_eq_mapM_toList];exact B (abl h _) λ_=>X2 _
theorem FY{f:aD->aD->Sem aD}(h:∀x y,Rb e (f x y)):∀(l:List aD)(x:aD),Rb e (l.foldlM f x)
 |[],_=>X2 _
 |y::l,x=>by rw[List.foldlM_cons];exact B (h x y) λ_=>FY h l _
@[simp] theorem acE(t:cH):Rb e (zeroValue t):=by unfold zeroValue;exact TB
@[simp] theorem sG(t:cH):Rb e (sizeOf t):=by unfold sizeOf;exact TB
@[simp] theorem af8(t:cH):Rb e (isAgg t):=by unfold isAgg;exact TB
@[simp] theorem aeH(t:cH):Rb e (typeStr t):=by unfold typeStr;exact TB
@[simp] theorem Y3(t:cH):Rb e (elemOf t):=by unfold elemOf;exact TB
@[simp] theorem QU(a:gF):∀(n i:Nat)(acc:Array aD),Rb e (loadCellsFrom a i n acc)
 |0,_,_=>X2 _
 |n+1,_,_=>B (JC _) λ_=>QU a n _ _
@[simp] theorem Ky(a:gF):∀(vs:List aD)(i:Nat),Rb e (storeCells a vs i)
 |[],_=>X2 _
 |_::vs,_=>B (Zh _ _) λ_=>Ky a vs _
@[simp] theorem AY(a:gF)(n:Nat):Rb e (loadCells a n):=by unfold loadCells;exact TB
@[simp] theorem U6(t:cH)(a:gF):Rb e (loadVar t a):=by unfold loadVar;exact TB
@[simp] theorem adi(t:cH)(a:gF)(v:aD):Rb e (storeVar t a v):=by unfold storeVar;exact TB
theorem NR{t:cH}{c:Array aD}{k:gF->Sem α}(hk:∀a,¬e.D a.block->Rb e (k a)):Rb e (newRow t c >>= k):=
 NB (k:=λr=>k ⟨r,0,Z⟩) trivial λ_ q=>hk _ q
@[simp] theorem ZY(t:cH)(c:Array aD):Rb e (newRow t c):=NR (k:=λa=>pure a) λ_ _=>X2 _
@[simp] theorem aeW(t:cH)(v:aD):Rb e (newVar t v):=ZY _ _
@[simp] theorem rX(t:cH)(c:Array aD)(o:Nat):Rb e (part t c o):=by unfold part;exact TB
@[simp] theorem ny(x:RuntimeError):Rb e (runtimePanic x:Sem α):=by unfold runtimePanic;refine PR (by cases x<;>rfl) ?_;cases x<;>exact TB
@[simp] theorem aae(k:kg)(x y:Int)(c:BoundsCode):Rb e (boundsPanic k x y c:Sem α):=by unfold boundsPanic;exact TB
@[simp] theorem aev(v:aD):Rb e (asIntOf v):=by unfold asIntOf;exact TB
@[simp] theorem ae0(v:aD):Rb e (asBool v):=by unfold asBool;exact TB
@[simp] theorem af9(v:aD):Rb e (asAgg v):=by unfold asAgg;exact TB
@[simp] theorem Zm(v:aD):Rb e (asAddr v):=by unfold asAddr;exact TB
@[simp] theorem RX(v:aD):Rb e (asInt v):=by unfold asInt;exact TB
@[simp] theorem ad9(v:aD):Rb e (Instr.sureAddr v):=by unfold Instr.sureAddr;exact TB
@[simp] theorem afF(t:cH)(v:aD):Rb e (Instr.loadAt t v):=by unfold Instr.loadAt;exact TB
@[simp] theorem aeM(t:cH)(v u:aD):Rb e (Instr.storeAt t v u):=by unfold Instr.storeAt;exact TB
@[simp] theorem Yr(a:gF):Rb e (noView a):=by unfold noView;exact TB
end
end
section
section
variable {e:Env}{α β γ σ:Type}
@[simp] theorem afn(a:gF):Rb e (byteOf a):=by
 unfold byteOf;split
 .exact X2 _
 refine PR (by simp only[qL e.T e.G e.F];rfl) (B (Yr a) λ_=>SH (λo=>?_) λ_=>⟨_,rfl,λ_=>rfl⟩);exact TB
@[simp] theorem afv(a:gF)(c b:Nat):Rb e (partAt a c b):=by unfold partAt;exact TB
@[simp] theorem aa5(a:gF)(f:Field):Rb e (fieldPlace a f):=by unfold fieldPlace;exact TB
@[simp] theorem aeJ(s:cH)(v:aD)(f:Nat):Rb e (Instr.fieldAt s v f):=by unfold Instr.fieldAt;exact TB
@[simp] theorem aeC(t:cH)(x i:aD):Rb e (iX t x i):=by unfold iX;exact TB
@[simp] theorem acr(x:aD)(y:Nat)(c:BoundsCode):Rb e (Instr.sliceBound x y c):=by unfold Instr.sliceBound;exact TB
@[simp] theorem aah(b:Bool)(l c:Nat)(x y z:Option aD):Rb e (n9 b l c x y z):=by unfold n9;exact TB
@[simp] theorem af4(t:cH)(v:aD)(x y z:Option aD):Rb e (lA t v x y z):=by unfold lA;exact TB
@[simp] theorem aeG(t:cH)(v:aD)(x y z:Option aD):Rb e (Instr.sliceAt t v x y z):=by unfold Instr.sliceAt;exact TB
@[simp] theorem af0(t:cH)(b:Bool)(v:aD):Rb e (Instr.alloc t b v):=by unfold Instr.alloc;exact TB
@[simp] theorem ag5(t:cH)(v:aD):Rb e (Instr.box t v):=by unfold Instr.box;exact TB
theorem JM(fs:Array Field):Rb e (fs.mapM λf=>do pure (f.offset,<-sizeOf f.type)):=YD (λ_=>B (sG _) λ_=>X2 _) _
@[simp] theorem afV(t:cH)(ps:Array (Nat×aD)):Rb e (Instr.build t ps):=by
 unfold Instr.build
 repeat' first|exact JM _|with_reducible exact X2 _|with_reducible refine B ?_ λ_=>?_|with_reducible refine IT ?_ ?_|exact H _|split|(simp;done)|dsimp only|exact B (jU _) λ_=>X2 _
@[simp] theorem acj(t:cH)(n:Nat)(ps:Array (Nat×aD)):Rb e (om t n ps):=by unfold om;exact TB
@[simp] theorem aeA(v:aD)(i:Nat):Rb e (Instr.extract v i):=by unfold Instr.extract;exact TB
@[simp] theorem afX(t:cH)(v:aD)(i:Nat):Rb e (Instr.field t v i):=by unfold Instr.field;exact TB
@[simp] theorem af7(t:cH)(v i:aD):Rb e (mo t v i):=by unfold mo;exact TB
@[simp] theorem YC(a:gF):Rb e (behindNumber a):=by unfold behindNumber;exact TB
@[simp] theorem adY(a b:gF):Rb e (sameAddr a b):=by unfold sameAddr;exact TB
@[simp] theorem aaf(a b:Option gF):Rb e (samePointer a b):=by unfold samePointer;exact TB
section
variable (T:Tables)(F G:Array rk)
theorem abQ(d:Nat):Program.alikeButTags ⟨T,F⟩ d=Program.alikeButTags ⟨T,G⟩ d:=by
 induction d with
 |zero=>rfl
 |succ d ih=>funext t u;simp only[Program.alikeButTags,ih]
theorem Ci(t:cH):Program.stoodInHeld ⟨T,F⟩ t=Program.stoodInHeld ⟨T,G⟩ t:=by simp only[Program.stoodInHeld,Program.stoodInAs,abQ T F G];rfl
theorem aa6(d:Nat):Program.eqGuardType ⟨T,F⟩ d=Program.eqGuardType ⟨T,G⟩ d:=by
 induction d with
 |zero=>rfl
 |succ d ih=>funext t;simp only[Program.eqGuardType,ih];rfl
theorem Yz(d:Nat):sameLayout ⟨T,F⟩ d=sameLayout ⟨T,G⟩ d:=by
 induction d with
 |zero=>rfl
 |succ d ih=>funext t u;simp only[sameLayout,ih,Ci T F G];rfl
theorem aeP(f:cH->Bool)(d:Nat):rowAt ⟨T,F⟩ f d=rowAt ⟨T,G⟩ f d:=by
 induction d with
 |zero=>rfl
 |succ d ih=>funext a b c n;simp only[rowAt,ih,Ci T F G];rfl
theorem ads(d:Nat):liesAt ⟨T,F⟩ d=liesAt ⟨T,G⟩ d:=by
 induction d with
 |zero=>rfl
 |succ d ih=>funext a b c u n;simp only[liesAt,ih,aeP T F G,show(λx=>sameLayout ⟨T,F⟩ (Program.depth ⟨T,F⟩) x u)=λx=>sameLayout ⟨T,G⟩ (Program.depth ⟨T,G⟩) x u from by rw[Yz T F G];rfl];rfl
end
end
end
section
section
variable {e:Env}{α β γ σ:Type}
def flat(P:cY):Nat->cH->Bool
 |0,_=>aL
 |n+1,t=>match P.underlying t with
  |some (.interface _)=>aL
  |some (.struct fs)=>fs.toList.all λf=>flat P n f.type
  |some (.array _ t)=>flat P n t
  |_=>bB
theorem Xi{f:γ->σ->Sem (ForInStep σ)}:∀(l:List γ)(s:σ),(∀x s,x∈l->Rb e (f x s))->Rb e (forIn l s f):=by
 intro l
 induction l with
 |nil=>intro s _;exact X2 _
 |cons x l ih=>
  intro s h;rw[List.forIn_cons];refine B (h x s (.head _)) λa=>?_;cases a
  .exact X2 _
  .exact ih _ λy s q=>h y s (.tail _ q)
theorem UD{t:cH}{k:TypeDesc->Sem α}(h:∀d,e.P.underlying t=M d->Rb e (k d)):Rb e (underlying t >>= k):=by
 cases hd:e.P.underlying t with
 |some d=>
  intro x es r E I y hw
  have q:∀P:cY,P.underlying t=M d->∀W es,(underlying t >>= k).runT P W es=(k d).runT P W es:=λP hp W es=>by
   simp only[underlying,program,bind,fY,cN,hp];rfl
  rw[q _ hd]at I;obtain J|⟨hf,Y⟩:=h d hd x es r E I y hw
  .exact cJ J
  refine cK ⟨hf,λfs ha=>?_⟩;rw[q e.Q hd];exact Y fs ha
 |none=>
  intro x es r E I y hw
  have q:(underlying t >>= k).runT e.P x es=(.halt (.stuck "no such type") x,es):=by
   simp only[underlying,program,bind,fY,cN,hd];rfl
  rw[q]at I;cases I;exact cJ rfl
theorem GZ:∀(d n:Nat)(t:cH)(x y:aD),flat e.P n t=bB->Rb e (pd d t x y):=by
 intro d
 induction d with
 |zero=>intros;exact H _
 |succ d ih=>
  intro n t x y q;cases n with
  |zero=>cases q
  |succ n=>
  unfold pd;refine UD λD I=>?_;simp only[flat,I]at q;split
  case h_20 fields xs ys=>
   simp only[fF]at q;refine PR (by simp only[Ci e.T e.G e.F]) ?_;dsimp only;split
   .exact H _
   refine B ?_ λ_=>?_
   .rw[<-Array.forIn_toList];refine Xi _ _ λf s E=>?_;split
    .refine B (rX _ _ _) λ_=>B (rX _ _ _) λ_=>B (ih n _ _ _ (q f (by simpa using E))) λ_=>?_;split<;>exact X2 _
    .exact X2 _
   .split<;>exact X2 _
  case h_21 len elem xs ys=>
   refine B (sG _) λ_=>B ?_ λ_=>?_
   .refine EH (λi s=>?_) _ _;refine B (rX _ _ _) λ_=>B (rX _ _ _) λ_=>B (ih n _ _ _ q) λ_=>?_;split<;>exact X2 _
   .dsimp only;split<;>exact X2 _
  all_goals first|(cases q;done)|(repeat' first|((with_reducible refine PR ?_ ?_);· rfl)|with_reducible exact X2 _|((with_reducible refine PR ?_ ?_);· rfl)|with_reducible refine B ?_ λ_=>?_|((with_reducible refine PR ?_ ?_);· rfl)|with_reducible refine IT ?_ ?_|exact H _|split|(simp;done)|dsimp only|exact B (jU _) λ_=>X2 _)
end
end
section
variable {t:cH}
section
variable {e:Env}{α β γ σ:Type}
theorem Nv:∀(d:Nat)(t:cH)(x y:aD),Rb e (Op.eqGuardIn d t x y):=by
 intro d
 induction d with
 |zero=>intros;exact H _
 |succ d ih=>
  intro t x y;unfold Op.eqGuardIn;refine B (lq t) λD=>?_;split
  .exact X2 _
  .refine B (yU (λf s=>?_) _ _) λ_=>?_
   .split
    .refine B (rX _ _ _) λ_=>B (rX _ _ _) λ_=>B (ih _ _ _) λ_=>?_;split<;>exact X2 _
    .exact X2 _
   .dsimp only;split<;>exact X2 _
  .refine B (sG _) λ_=>B (EH (λi s=>?_) _ _) λ_=>?_
   .refine B (rX _ _ _) λ_=>B (rX _ _ _) λ_=>B (ih _ _ _) λ_=>?_;split<;>exact X2 _
   .dsimp only;split<;>exact X2 _
  .exact X2 _
theorem Ux(op:BinOp)(t:cH)(p q:nL)(x y:aD):Rb e (eqGuard op t p q x y):=by
 unfold eqGuard;cases op<;>first|exact X2 _|skip
 all_goals cases x<;>first|exact X2 _|skip
 all_goals cases y<;>first|exact X2 _|skip
 all_goals repeat' first|exact Nv _ _ _ _|((with_reducible refine PR ?_ ?_);· first|(simp only[aa6 e.T e.G e.F];done)|rfl)|with_reducible exact X2 _|with_reducible refine B ?_ λ_=>?_|with_reducible refine IT ?_ ?_|exact H _|split|(simp;done)|dsimp only|exact B (jU _) λ_=>X2 _
@[simp] theorem adV(b:Bool):∀(n:Nat)(t:cH)(v:aD),Rb e (Instr.checkKey b n t v):=by
 intro n
 induction n with
 |zero=>intros;exact H _
 |succ n ih=>
  intro t v;unfold Instr.checkKey;refine B (lq t) λD=>?_;split
  case h_1=>repeat' first|exact ih _ _|with_reducible exact X2 _|with_reducible refine B ?_ λ_=>?_|with_reducible refine IT ?_ ?_|exact H _|split|(simp;done)|dsimp only|exact B (jU _) λ_=>X2 _
  case h_2=>exact B (EH (λi s=>B (sG _) λ_=>B (rX _ _ _) λ_=>B (ih _ _) λ_=>X2 _) _ _) λ_=>X2 _
  case h_3=>
   refine B (yU (λf s=>?_) _ _) λ_=>X2 _;split
   .exact B (rX _ _ _) λ_=>B (ih _ _) λ_=>X2 _
   .exact X2 _
  all_goals exact TB
theorem yI{t:cH}(h:flat e.P 9 t=bB)(k:aD):∀(l:List gT)(i:Nat),Rb e (Instr.findAsking t k l i)
 |[],_=>X2 _
 |x::l,i=>by
  unfold Instr.findAsking;refine B (GZ _ _ _ _ _ h) λ_=>?_;split
  .exact X2 _
  .exact yI h k l _
theorem Ah(h:flat e.P 9 t=bB)(k:aD)(l:List gT):Rb e (Instr.findKey t k l):=by
 unfold Instr.findKey;refine B (lq t) λ_=>?_;split
 .exact X2 _
 .exact yI h k _ _
@[simp] theorem ZX(x y:aD):Rb e (pa x y):=by unfold pa;exact TB
def yX(P:cY)(t:cH):Bool:=match P.underlying t with
 |some (.map k _)=>flat P 9 k
 |_=>bB
theorem Y0(h:yX e.P t=bB)(x i:aD)(c:Bool):Rb e (Instr.lookup t x i c):=by
 unfold Instr.lookup;refine UD λD q=>?_;simp only[yX,q]at h
 repeat' first|exact Ah h _ _|exact nJ _ (by assumption) trivial|((with_reducible refine GO ⟨⟨_,rfl⟩,λ_ _=>⟨_,rfl⟩⟩ λhd o _=>?_))|with_reducible exact X2 _|with_reducible refine B ?_ λ_=>?_|with_reducible refine IT ?_ ?_|exact H _|split|(simp;done)|dsimp only|exact B (jU _) λ_=>X2 _
theorem AZ(h:yX e.P t=bB)(m k v:aD):Rb e (oE t m k v):=by
 unfold oE;refine UD λD q=>?_;simp only[yX,q]at h
 repeat' first|exact Ah h _ _|exact nJ _ (by assumption) trivial|((with_reducible refine GO ⟨⟨_,rfl⟩,λ_ _=>⟨_,rfl⟩⟩ λhd o _=>?_))|with_reducible exact X2 _|with_reducible refine B ?_ λ_=>?_|with_reducible refine IT ?_ ?_|exact H _|split|(simp;done)|dsimp only|exact B (jU _) λ_=>X2 _
end
end
section
section
variable {e:Env}{α β γ σ:Type}
@[simp] theorem aeB(n:Nat):Rb e (askRoom n):=by
 unfold askRoom;split
 .exact RZ _ (cJ rfl)
 .exact X2 _
@[simp] theorem aeZ(c:Array gT)(n:Nat):Rb e (newObj (.map c n)):=NB (k:=λa=>pure a) trivial λ_ _=>X2 _
@[simp] theorem aes(t:cH)(r:Option aD):Rb e (Instr.makeMap t r):=by unfold Instr.makeMap;exact TB
@[simp] theorem VI(t:cH)(v:aD):Rb e (Instr.makeInterface t v):=by unfold Instr.makeInterface;exact TB
@[simp] theorem acP(t:cH)(l c:aD):Rb e (Instr.makeSlice t l c):=by unfold Instr.makeSlice;exact TB
@[simp] theorem aga(t:cH)(v:aD):Rb e (Instr.range t v):=by
 unfold Instr.range;refine B (lq t) λD=>?_;split
 case h_1=>exact NB trivial λ_ _=>X2 _
 case h_2=>exact NB trivial λ_ _=>X2 _
 case h_3=>
  refine GO ⟨⟨_,rfl⟩,λ_ _=>⟨_,rfl⟩⟩ λhd o _=>?_;split
  .exact NB trivial λ_ _=>X2 _
  .exact H _
 .exact H _
@[simp] theorem agm(v:aD)(b:Bool)(t:cH):Rb e (Instr.next v b t):=by unfold Instr.next;exact TO
@[simp] theorem afW(v:aD):Rb e (Instr.entry v):=by unfold Instr.entry;exact TO
@[simp] theorem af2(v:aD):Rb e (Builtin.lenOf v):=by unfold Builtin.lenOf;exact TB
@[simp] theorem aaP(s n:Nat)(v:aD):Rb e (oS s n v):=by unfold oS;exact TB
@[simp] theorem ag8(ts:Array cH)(t:cH)(vs:Array aD):Rb e (mA ts t vs):=by unfold mA;exact TO
@[simp] theorem ag1(ts:Array cH)(t:cH)(vs:Array aD):Rb e (Builtin.cap_ ts t vs):=by unfold Builtin.cap_;exact TO
@[simp] theorem ags(ts:Array cH)(t:cH)(vs:Array aD):Rb e (oF ts t vs):=by unfold oF;exact TB
@[simp] theorem afR(ts:Array cH)(t:cH)(vs:Array aD):Rb e (Builtin.clear_ ts t vs):=by unfold Builtin.clear_;exact TO
@[simp] theorem aek(o:BinOp)(k:kg)(x y:Int):Rb e (Op.intArith o k x y):=by unfold Op.intArith;exact TB
@[simp] theorem ae9(o:BinOp)(k:kg)(x y:Int):Rb e (Op.intDiv o k x y):=by unfold Op.intDiv;exact TB
@[simp] theorem aep(o:BinOp)(k:kg)(x y:Int):Rb e (Op.intBits o k x y):=by unfold Op.intBits;exact TB
@[simp] theorem ae1(o:BinOp)(x y:Int):Rb e (Op.intCmp o x y):=by unfold Op.intCmp;exact TB
@[simp] theorem afZ(o:BinOp)(k:kg)(x:Int)(l:kg)(y:Int):Rb e (Op.shift o k x l y):=by unfold Op.shift;exact TB
@[simp] theorem ac6(o:BinOp)(x y:ByteArray):Rb e (Op.stringOp o x y):=by unfold Op.stringOp;exact TB
@[simp] theorem afQ(o:UnOp)(v:aD):Rb e (Op.unary o v):=by unfold Op.unary;exact TB
@[simp] theorem abJ(o:BinOp)(k:kq)(x y:Nat):Rb e (Op.floatArith o k x y):=by unfold Op.floatArith;exact TB
@[simp] theorem aei(o:BinOp)(k:kq)(x y:Nat):Rb e (Op.floatCmp o k x y):=by unfold Op.floatCmp;exact TB
@[simp] theorem Xu(k:kq)(x:Nat)(l:kq):Rb e (Conv.floatToFloat k x l):=by unfold Conv.floatToFloat;exact TB
@[simp] theorem zf(o:BinOp)(k:kq)(x y:Nat):Rb e (Op.Complex.arith o k x y):=by unfold Op.Complex.arith;exact TB
@[simp] theorem agf(o:BinOp)(k:kq)(x y:Nat):Rb e (Op.Complex.cmp o k x y):=by unfold Op.Complex.cmp;exact TB
@[simp] theorem afN(k:kq)(x:Nat)(l:kq):Rb e (Op.Complex.conv k x l):=by unfold Op.Complex.conv;exact TB
@[simp] theorem agk(x y:Nat):Rb e (Op.Complex.add x y):=zf _ _ _ _
@[simp] theorem agw(x y:Nat):Rb e (Op.Complex.sub x y):=zf _ _ _ _
@[simp] theorem agO(x y:Nat):Rb e (Op.Complex.mul x y):=zf _ _ _ _
@[simp] theorem agd(x y:Nat):Rb e (Op.Complex.quo x y):=zf _ _ _ _
@[simp] theorem aeI(a b c d:Nat):Rb e (Op.Complex.product a b c d):=by unfold Op.Complex.product;exact TB
@[simp] theorem acL(s a b c d:Nat):Rb e (Op.Complex.corrected s a b c d):=by unfold Op.Complex.corrected;exact TB
@[simp] theorem ac0(a b c d:Nat):Rb e (Op.Complex.quotient a b c d):=by unfold Op.Complex.quotient;exact TB
@[simp] theorem acR(o:BinOp)(k:kq)(a b c d:Nat):Rb e (Op.complexOp o k a b c d):=by unfold Op.complexOp;exact TB
end
end
end Po
namespace Po
open Go
section
variable {e:Env}{α β γ σ:Type}
section
variable (T:Tables)(F G:Array rk)
theorem WO(d:Nat):cellOfByte ⟨T,F⟩ d=cellOfByte ⟨T,G⟩ d:=by
 induction d with
 |zero=>rfl
 |succ d ih=>funext t o;simp only[cellOfByte,ih];rfl
theorem qR(d:Nat):cellAtBytes ⟨T,F⟩ d=cellAtBytes ⟨T,G⟩ d:=by funext t c o b;simp only[cellAtBytes,WO T F G,qL T F G];rfl
theorem Ri(d:Nat):Program.holdsStoodIn ⟨T,F⟩ d=Program.holdsStoodIn ⟨T,G⟩ d:=by
 induction d with
 |zero=>rfl
 |succ d ih=>funext t;simp only[Program.holdsStoodIn,ih,Ci T F G];rfl
end
theorem Ih(P:cY)(a:gF)(n:Nat)(W:U)(es:Array mb):∃r,(mR a n).runT P W es=(.ok r W,es):=by simp only[mR,shape,bind,fY,cN];cases W.shape? a.block<;>exact⟨_,rfl⟩
theorem JW(P:cY)(a b c:Nat)(d:Option gF)(v:aD)(W:U)(es:Array mb):∃r,(n8 a b c d v).runT P W es=(.ok r W,es):=by
 have h2:∃r,(match v with
  |.slice (M b) _ _=>do pure (!(<-mR b (c*a)) || d.any (·.block == b.block))
  |_=>pure aL:Sem Bool).runT P W es=(.ok r W,es):=by
  split
  .obtain⟨r,h⟩:=Ih P ‹_› (c*a) W es;exact⟨_,by rw[runT_bind,h];rfl⟩
  .exact⟨_,rfl⟩
 unfold n8;cases d with
 |none=>
  exact h2
 |some d=>
  obtain⟨r,h⟩:=Ih P d (b*a) W es;simp only[runT_bind,h,frozen,cN,pure];split
  .exact⟨_,rfl⟩
  .exact h2
theorem aau{a b c:Nat}{d:Option gF}{v:aD}{k:Bool->Sem β}(hk:∀P s W es,bad ((k s).runT P W es).1=bB):Rb e (n8 a b c d v >>= k):=by intro x es r I E y hw;obtain⟨q,J⟩:=JW e.P a b c d v x es;have:=hk e.P q x es;rw[runT_bind,J]at E;simp only at E;rw[E]at this;exact cJ this
@[simp] theorem afD(ts:Array cH)(t:cH)(vs:Array aD):Rb e (lO ts t vs):=by
 unfold lO
 repeat' first|((with_reducible refine aau ?_);intro P s W es;cases s<;>rfl)|with_reducible exact X2 _|with_reducible refine B ?_ λ_=>?_|with_reducible refine IT ?_ ?_|exact H _|split|(simp;done)|dsimp only|exact B (jU _) λ_=>X2 _
theorem YL{ts:Array cH}(h:yX e.P (ts.getD 0 0)=bB)(t:cH)(vs:Array aD):Rb e (kl ts t vs):=by
 unfold kl;split
 .rename_i E _ _ I;have J:ts[0]? =M E:=Z1 Prod.fst I;have q:yX e.P E=bB:=by rw[fD,J]at h;exact h
  refine UD λD Y=>?_;simp only[yX,Y]at q
  repeat' first|exact Ah q _ _|exact nJ _ (by assumption) trivial|((with_reducible refine GO ⟨⟨_,rfl⟩,λ_ _=>⟨_,rfl⟩⟩ λhd o _=>?_))|with_reducible exact X2 _|with_reducible refine B ?_ λ_=>?_|with_reducible refine IT ?_ ?_|exact H _|split|(simp;done)|dsimp only|exact B (jU _) λ_=>X2 _
 .exact H _
theorem SHU{r:Nat}{k:Option (cH×Nat)->Sem α}(hk:∀o,Rb e (k o))(q:∃h,k Z=.halt h/\∀w,bad (.halt h w:Result α)=bB):Rb e (shape r >>= k):=SH hk λ_=>q
@[simp] theorem adZ(a:gF)(b:Bool):Rb e (asNumber a b):=NB (o:=.number a b) (k:=λr=>pure (Value.pointer (M ⟨r,0,Z⟩))) trivial λ_ _=>X2 _
theorem TS{p:Prop}(h:p:=by repeat' first|((with_reducible refine SHU (λ_=>?_) ?_);rotate_left;· exact⟨_,rfl,λ_=>rfl⟩)|((with_reducible refine PR ?_ ?_);· first|(simp only[qR _ _ _];rfl)|rfl)|with_reducible exact X2 _|with_reducible refine B ?_ λ_=>?_|with_reducible refine IT ?_ ?_|exact H _|split|(simp;done)|dsimp only|exact B (jU _) λ_=>X2 _):p:=h
@[simp] theorem acW(a b:gF):Rb e (Op.twoPlaces a b):=by unfold Op.twoPlaces;exact TS
@[simp] theorem aeF(k:kg)(a b:gF):Rb e (Op.addrSub k a b):=by unfold Op.addrSub;exact TS
@[simp] theorem aeK(o:BinOp)(a b:gF):Rb e (Op.addrCmp o a b):=by unfold Op.addrCmp;exact TS
@[simp] theorem aeE(k:kg)(a:gF)(n:Int):Rb e (Op.addrMod k a n):=by unfold Op.addrMod;exact TS
@[simp] theorem acz(ts:Array cH)(t:cH)(x y:aD):Rb e (Builtin.unsafeAdd_ ts t #[x,y]):=by
 unfold Builtin.unsafeAdd_;cases x<;>first|exact H _|refine B (RX y) λn=>?_
 repeat' first|((with_reducible refine SHU (λ_=>?_) ?_);rotate_left;· exact⟨_,rfl,λ_=>rfl⟩)|((with_reducible refine PR ?_ ?_);· first|(simp only[qR e.T e.G e.F];rfl)|rfl)|with_reducible exact X2 _|with_reducible refine B ?_ λ_=>?_|with_reducible refine IT ?_ ?_|exact H _|split|(simp;done)|dsimp only|exact B (jU _) λ_=>X2 _
@[simp] theorem aag(t:cH)(x y:aD):Rb e (movedNumber t x y):=by unfold movedNumber;exact TS
@[simp] theorem ZN(t:cH)(x y:aD):Rb e (movedPointer t x y):=by unfold movedPointer;exact TS
theorem DL(d:Nat)(t:cH)(x:aD):Rb e (pd (d+1) t x .nilIface)/\Rb e (pd (d+1) t .nilIface x):=by
 constructor<;>unfold pd<;>refine B (lq t) λD=>?_
 all_goals
  cases x with
  |pointer a|map a=>cases a<;>cases D<;>first|exact X2 _|exact H _
  |slice a _ _=>cases a<;>cases D<;>first|exact X2 _|exact H _
  |int k n=>cases D<;>first|exact X2 _|exact H _
  |_=>cases D<;>first|exact X2 _|exact H _
def isNil:nL->Bool
 |.const .nilIface=>bB
 |_=>aL
def adn(P:cY)(t:cH)(x y:nL):Bool:=match P.underlying t with
 |some (.interface _)=>isNil x || isNil y
 |_=>flat P 9 t
theorem aay(op:BinOp)(t:cH)(x y:aD)(h:op=.eql\/op=.neq->Rb e (Op.equal t x y)):Rb e (binOp op t x y):=by
 unfold binOp
 repeat' first|exact h (cJ rfl)|exact h (cK rfl)|((with_reducible refine SHU (λ_=>?_) ?_);rotate_left;· exact⟨_,rfl,λ_=>rfl⟩)|((with_reducible refine PR ?_ ?_);· first|exact h (cJ rfl)|exact h (cK rfl)|(simp only[qR e.T e.G e.F];rfl)|rfl)|with_reducible exact X2 _|with_reducible refine B ?_ λ_=>?_|with_reducible refine IT ?_ ?_|exact H _|split|(simp;done)|dsimp only|exact B (jU _) λ_=>X2 _
end
end Po
namespace Po
open Go
section
variable {e:Env}{α β γ σ:Type}
@[simp] theorem ac2(x y:aD):Rb e (Builtin.max2 x y):=by unfold Builtin.max2;exact TB
@[simp] theorem adI(x y:aD):Rb e (Builtin.min2 x y):=by unfold Builtin.min2;exact TB
@[simp] theorem ag3(ts:Array cH)(t:cH)(vs:Array aD):Rb e (Builtin.max_ ts t vs):=by
 unfold Builtin.max_
 repeat' first|exact FY ac2 _ _|with_reducible exact X2 _|with_reducible refine B ?_ λ_=>?_|with_reducible refine IT ?_ ?_|exact H _|split|(simp;done)|dsimp only|exact B (jU _) λ_=>X2 _
@[simp] theorem ag4(ts:Array cH)(t:cH)(vs:Array aD):Rb e (Builtin.min_ ts t vs):=by
 unfold Builtin.min_
 repeat' first|exact FY adI _ _|with_reducible exact X2 _|with_reducible refine B ?_ λ_=>?_|with_reducible refine IT ?_ ?_|exact H _|split|(simp;done)|dsimp only|exact B (jU _) λ_=>X2 _
@[simp] theorem aed(k:kg)(n:Int):Rb e (Conv.intToInt k n):=by unfold Conv.intToInt;exact TB
@[simp] theorem aav(k:kq)(n:Int):Rb e (Conv.intToFloat k n):=by unfold Conv.intToFloat;exact TB
@[simp] theorem abI(k:kq)(b:Nat)(l:kg):Rb e (Conv.floatToInt k b l):=by unfold Conv.floatToInt;exact TB
@[simp] theorem Qx(k:kq)(a b:Nat)(l:kq):Rb e (Conv.complexToComplex k a b l):=by unfold Conv.complexToComplex;exact TB
@[simp] theorem aaj(n:Int):Rb e (Conv.intToString n):=by unfold Conv.intToString;exact TB
@[simp] theorem VO(t:cH)(s:ByteArray):Rb e (Conv.stringToRunes t s):=by unfold Conv.stringToRunes;exact TB
@[simp] theorem VN(v:aD):Rb e (Conv.bytesToString v):=by
 unfold Conv.bytesToString;split
 .exact X2 _
 .refine B (AY _ _) λ_=>B (yU (λc s=>?_) _ _) λ_=>X2 _;split
  .exact X2 _
  .exact H _
 .exact H _
@[simp] theorem VJ(v:aD):Rb e (Conv.runesToString v):=by
 unfold Conv.runesToString;split
 .exact X2 _
 .refine B (AY _ _) λ_=>B (yU (λc s=>?_) _ _) λ_=>X2 _;split
  .exact X2 _
  .exact H _
 .exact H _
@[simp] theorem VL(t:cH)(s:ByteArray):Rb e (Conv.stringToBytes t s):=by
 unfold Conv.stringToBytes;refine B (jU _) λ_=>NR λa ha=>B (SH (λo=>?_) λh=>Xs h ha) λ_=>X2 _;split
 .exact IW _ _ ha
 .exact X2 _
@[simp] theorem Ld:∀(n:Nat)(a:gF)(b:ByteArray),Rb e (loadBytes a b n)
 |0,_,_=>X2 _
 |n+1,a,b=>by
  unfold loadBytes;refine B (JC _) λ_=>?_;split
  .exact Ld n _ _
  .exact H _
theorem VA{a:gF}{u:cH}{n:Nat}{k:Bool->Sem α}(h1:¬e.D a.block->Rb e (k bB))(h2:¬e.D a.block->Rb e (k aL))(h3:e.D a.block->k bB=k aL/\Rb e (k aL)\/∀x y es,WP e x y->bad ((k aL).runT e.P x es).1=bB):Rb e (variablesAt a u n >>= k):=by
 intro x es r E I y hw
 let g (p:cY) (W:U):Bool:=match W.shape? a.block with
  |some (t,cells)=>liesAt p p.depth t (cells/p.cellsOf t) a.off u n
  |none=>aL
 have q:∀P (W:U) es,(variablesAt a u n >>= k).runT P W es=(k (g P W)).runT P W es:=λP W es=>by
  rw[runT_bind];simp only[variablesAt,program,shape,bind,fY,cN,g];cases W.shape? a.block<;>rfl
 rw[q]at I;by_cases hd:e.D a.block
 .have hx:g e.P x=aL:=by
   have:x.shape? a.block=Z:=by
    unfold World.shape?;rcases hw.inn _ hd with⟨c,t,h1,h2,_⟩|⟨l,h1,h2,_⟩<;>rw[h2]
   simp only[g,this]
  rw[hx]at I;obtain⟨h4,h5⟩|h4:=h3 hd
  .have:k (g e.Q y)=k aL:=by
    cases g e.Q y
    .rfl
    .exact h4
   obtain J|⟨hf,Y⟩:=h5 x es r E I y hw
   .exact cJ J
   refine cK ⟨hf,λfs ha=>?_⟩;rw[q,this];exact Y fs ha
  .have:=h4 x y es hw;rw[I]at this;exact cJ this
 .have hg:g e.Q y=g e.P x:=by
   have:y.shape? a.block=x.shape? a.block:=by unfold World.shape?;rw[hw.out _ hd]
   simp only[g,this,ads e.T e.G e.F];rfl
  have key:Rb e (k (g e.P x)):=by
   cases g e.P x
   .exact h2 hd
   .exact h1 hd
  obtain J|⟨hf,Y⟩:=key x es r E I y hw
  .exact cJ J
  refine cK ⟨hf,λfs ha=>?_⟩;rw[q,hg];exact Y fs ha
theorem FD(ts:Array cH)(t:cH)(x y:aD):Rb e (oo ts t #[x,y]):=by
 unfold oo;cases x<;>first|exact H _|skip
 refine B (RX y) λn=>?_
 repeat' first|exact IW _ _ (by assumption)|((with_reducible refine VA (λhd=>?_) (λ_=>?_) (λ_=>cK λ_ _ _ _=>rfl)))|with_reducible exact X2 _|with_reducible refine B ?_ λ_=>?_|with_reducible refine IT ?_ ?_|exact H _|split|(simp;done)|dsimp only|exact B (jU _) λ_=>X2 _
theorem zq(ts:Array cH)(t:cH)(x:aD):Rb e (Builtin.unsafeSliceData_ ts t #[x]):=by
 unfold Builtin.unsafeSliceData_;cases x<;>first|exact H _|skip
 rename_i a l c;cases a with
 |none=>exact X2 _
 |some a=>
  show Rb e (if c≠0 then _ else _)
  refine IT (X2 _) (B (Xh _) λ_=>IT (X2 _) (B (Y3 _) λ_=>NB trivial λ_ _=>X2 _))
@[simp] theorem L6(a:gF):Rb e (Conv.seenAt a):=by
 unfold Conv.seenAt
 repeat' first|((with_reducible refine SHU (λ_=>?_) ?_);rotate_left;· exact⟨_,rfl,λ_=>rfl⟩)|((with_reducible refine PR ?_ ?_);· first|(simp only[qL e.T e.G e.F,qR e.T e.G e.F];rfl)|rfl)|with_reducible exact X2 _|with_reducible refine B ?_ λ_=>?_|with_reducible refine IT ?_ ?_|exact H _|split|(simp;done)|dsimp only|exact B (jU _) λ_=>X2 _
theorem BQ(s d:cH)(v:aD):Rb e (Conv.unsafePointer s d v):=by
 unfold Conv.unsafePointer;refine B (lq s) λ_=>B (lq d) λ_=>?_;split
 case h_2=>
  refine B (L6 _) λ_=>B (Vk _) λ_=>?_;dsimp only;refine B (sG _) λ_=>?_;refine IT (NB trivial λ_ _=>X2 _) (X2 _)
 case h_4=>
  refine B (L6 _) λb=>B (sG _) λn=>VA (λ_=>?_) (λ_=>?_) λhd=>?_
  .repeat' first|((with_reducible refine NB ?_ λ_ _=>?_);· trivial)|((with_reducible refine SHU (λ_=>?_) ?_);rotate_left;· exact⟨_,rfl,λ_=>rfl⟩)|((with_reducible refine PR ?_ ?_);· first|(simp only[Ri e.T e.G e.F];done)|((with_reducible refine NB ?_ λ_ _=>?_);· trivial)|(simp only[qL e.T e.G e.F,qR e.T e.G e.F];rfl)|rfl)|with_reducible exact X2 _|with_reducible refine B ?_ λ_=>?_|with_reducible refine IT ?_ ?_|exact H _|split|(simp;done)|dsimp only|exact B (jU _) λ_=>X2 _
  .repeat' first|((with_reducible refine NB ?_ λ_ _=>?_);· trivial)|((with_reducible refine SHU (λ_=>?_) ?_);rotate_left;· exact⟨_,rfl,λ_=>rfl⟩)|((with_reducible refine PR ?_ ?_);· first|(simp only[Ri e.T e.G e.F];done)|((with_reducible refine NB ?_ λ_ _=>?_);· trivial)|(simp only[qL e.T e.G e.F,qR e.T e.G e.F];rfl)|rfl)|with_reducible exact X2 _|with_reducible refine B ?_ λ_=>?_|with_reducible refine IT ?_ ?_|exact H _|split|(simp;done)|dsimp only|exact B (jU _) λ_=>X2 _
  .by_cases q:n=0
   .refine cJ ⟨by simp[q],?_⟩;simp only[q,decide_true,Bool.true_or,if_true];exact X2 _
   .refine cK λx y es hw=>?_
    have:x.shape? b.block=Z:=by
     unfold World.shape?;rcases hw.inn _ hd with⟨c,t,E,h2,_⟩|⟨l,E,h2,_⟩<;>rw[h2]
    simp only[q,decide_false,Bool.false_or,bU,if_false,shape,bind,fY,cN,this];rfl
 all_goals repeat' first|((with_reducible refine SHU (λ_=>?_) ?_);rotate_left;· exact⟨_,rfl,λ_=>rfl⟩)|((with_reducible refine PR ?_ ?_);· first|(simp only[qL e.T e.G e.F,qR e.T e.G e.F];rfl)|rfl)|with_reducible exact X2 _|with_reducible refine B ?_ λ_=>?_|with_reducible refine IT ?_ ?_|exact H _|split|(simp;done)|dsimp only|exact B (jU _) λ_=>X2 _
end
end Po
namespace Po
open Go
def Jj(P:cY)(q:Array cH):Builtin->Nat->Bool
 |.append,_|.cap,_|.clear,_|.copy,_|.len,_|.max,_|.min,_=>bB
 |.delete,_=>yX P (q.getD 0 0)
 |.unsafeString,n=>n == 2
 |.unsafeSliceData,n=>n == 1
 |_,_=>aL
def YW(P:cY):Op->Bool
 |.move _|.assign _|.box ..|.load ..|.unOp ..|.makeInterface ..|.fieldAddr ..|.field ..|.range ..|.next ..|.entry _|.extract ..|.pick ..|.alloc _|.build ..|.buildSlice ..|.store ..|.makeSlice ..|.indexAddr ..|.index ..|.makeFunc ..|.makeMap ..|.slice ..|.nilCheck _|.panic _=>bB
 |.binOp op t a b _=>match op with
  |.eql|.neq=>adn P t a b
  |_=>bB
 |.lookup t ..|.mapUpdate t ..|.insert t ..=>yX P t
 |.convert s d _=>!(s == d)
 |.call { callee:=.value _,.. }=>bB
 |.call { callee:=.builtin b,args,argTypes,.. }=>Jj P argTypes b args.size
 |_=>aL
def o8(P:cY):Code->Bool
 |.skip|.exit _|.ret|.refuse _=>bB
 |.region _ ops _=>ops.toList.all λo=>YW P o.op
 |.seq a b|.cond _ a b=>o8 P a&&o8 P b
 |.block _ c|.loop c=>o8 P c
 |.rangeFunc _ _ a c=>o8 P a&&o8 P c
 |.scope _|.label _|.goto _=>aL
section
section
variable {e:Env}{α β γ σ:Type}
@[simp] theorem agY:Rb e (sys .env):=RD (λw=>M (.strings w.os.env)) (λP W es=>⟨ "",#[⟨.output,bB,aL⟩],rfl,λv hv=>by simp at hv;subst hv;trivial⟩) λx y hw a ha=>by rw[<-ha,hw.os]
@[simp] theorem adw:Rb e (Instr.panicnil):=by unfold Instr.panicnil;exact TP
@[simp] theorem afO(v:aD):Rb e (Instr.panic v):=by unfold Instr.panic;exact TP
@[simp] theorem ag9(t:cH)(p:Place):Rb e (Place.get t p):=by unfold Place.get;exact TP
@[simp] theorem Zf:∀(l:List FieldStep)(t:cH)(p:Place),Rb e (follow l t p)
 |[],_,_=>X2 _
 |s::l,t,p=>by
  have ih:=Zf l;unfold follow
  repeat' first|exact ih _ _|with_reducible exact X2 _|with_reducible refine B ?_ λ_=>?_|with_reducible refine IT ?_ ?_|exact H _|split|(simp;done)|dsimp only|exact B (jU _) λ_=>X2 _
@[simp] theorem aer(ts:Array cH)(t:cH)(x y z:aD):Rb e (Builtin.ssaWrapNilChk_ ts t #[x,y,z]):=by
 unfold Builtin.ssaWrapNilChk_;cases y<;>first|exact H _|skip
 cases z<;>first|exact H _|skip
 show Rb e (match x with
  |.pointer (M _)=>_
  |.pointer Z=>_
  |_=>_)
 exact TP
@[simp] theorem aa8(t:cH)(p:Place)(b:Bool)(w:Option String):Rb e (receiverAt t p b w):=by unfold receiverAt;exact TP
@[simp] theorem Gj(t:cH)(v:aD)(p:Array FieldStep)(b:Bool):Rb e (receiverVia t v p b):=by unfold receiverVia;exact TP
@[simp] theorem MC:∀(n:Nat)(t:cH)(v:aD)(s:String),Rb e (method n t v s)
 |0,_,_,_=>H _
 |n+1,t,v,s=>by
  have ih:=MC n;unfold method
  repeat' first|exact ih _ _ _|with_reducible exact X2 _|with_reducible refine B ?_ λ_=>?_|with_reducible refine IT ?_ ?_|exact H _|split|(simp;done)|dsimp only|exact B (jU _) λ_=>X2 _
@[simp] theorem Gf:∀(l:List FieldStep)(t:cH)(p:Option aD),Rb e (followBlind l t p)
 |[],_,_=>X2 _
 |s::l,t,p=>by
  have ih:=Gf l;unfold followBlind
  repeat' first|exact ih _ _|with_reducible exact X2 _|with_reducible refine B ?_ λ_=>?_|with_reducible refine IT ?_ ?_|exact H _|split|(simp;done)|dsimp only|exact B (jU _) λ_=>X2 _
@[simp] theorem Qp:∀(n:Nat)(t:cH)(v:aD)(s:String),Rb e (nilAhead n t v s)
 |0,_,_,_=>X2 _
 |n+1,t,v,s=>by
  have ih:=Qp n;unfold nilAhead
  repeat' first|exact ih _ _ _|with_reducible exact X2 _|with_reducible refine B ?_ λ_=>?_|with_reducible refine IT ?_ ?_|exact H _|split|(simp;done)|dsimp only|exact B (jU _) λ_=>X2 _
end
end
section
section
variable {e:Env}{α β γ σ:Type}
structure Fit(e:Env):Prop where
 code:∀c,e.C c↔o8 e.P c=bB
 name:∀(f:Nat)(fn:rk),e.F[f]? =M fn->(fn.name == "runtime.NumGoroutine")=aL
 same:∀(f:Nat)(fn:rk)(c:Code),e.F[f]? =M fn->fn.body=M c->e.G[f]? =M fn/\o8 e.P c=bB
 ext:∀(f:Nat)(fn:rk)(args:Array aD),e.F[f]? =M fn->fn.body=Z->Rb e (ki f args)/\∀x es n x1 es1,(ki f args).runT e.P x es=(.ok n x1,es1)->∃v,n=.value v
 results:∀f:Nat,(e.G[f]?).map (·.results)=(e.F[f]?).map (·.results)
 early:e.P.follows .staticDataAhead=bB
variable (F:Fit e)
include F
theorem xM(f:FuncId)(args:Array aD):Rb e (ki f args):=by
 cases q:e.F[f]? with
 |none=>
  intro x es r J I y hw
  have:(ki f args).runT e.P x es=(.halt (.stuck "call: no such function") x,es):=by
   simp only[ki,program,bind,fY,cN,show e.P.funcs[f]? =Z from q];rfl
  rw[this]at I;cases I;exact cJ rfl
 |some fn=>
  cases E:fn.body with
  |none=>exact(F.ext f fn args q E).1
  |some c=>
   unfold ki;have Y:=(F.same f fn c q E).1;refine PR ?_ ?_
   .simp only[show e.P.funcs[f]? =M fn from q,show e.Q.funcs[f]? =M fn from Y]
   .simp only[show e.P.funcs[f]? =M fn from q,F.name f fn q,E,Option.isNone_some,bU,if_false];exact X2 _
theorem yK(v:aD)(s:String)(args:Array aD):Rb e (callMethod v s args):=by
 unfold callMethod;split
 .exact PR rfl (B (MC _ _ _ _) λ_=>xM F _ _)
 .exact ny _
 .exact H _
omit F in
@[simp] theorem Vq(l:Nat):Rb e (kI l):=by unfold kI;exact TO
omit F in
@[simp] theorem aaS(l:Nat)(args:Array aD):Rb e (Instr.yield l args):=by unfold Instr.yield;exact TB
theorem EM(f:Fn)(cap args:Array aD):Rb e (invoke (.fn f cap) args):=by
 cases f with
 |func f=>exact xM F _ _
 |method n=>
  show Rb e (match args[0]? with|some recv=>_|_=>_)
  split
  .exact yK F _ _ _
  .exact H _
 |methodOf t n=>
  show Rb e (match args[0]? with|some recv=>_|_=>_)
  split
  .exact B (lq _) λ_=>yK F _ _ _
  .exact H _
 |via t p f b=>
  show Rb e (match args[0]? with|some recv=>_|_=>_)
  split
  .exact B (Gj _ _ _ _) λ_=>xM F _ _
  .exact H _
 |yield l=>exact aaS l args
omit F in
theorem Vb{b:Builtin}{ts:Array cH}{args:Array aD}(h:Jj e.P ts b args.size=bB)(t:cH)(cs:Array Bool):Rb e (builtin b ts t cs args):=by
 cases b<;>first|(cases h;done)|skip
 case delete=>exact B (YL h t args) λ_=>X2 _
 case unsafeString=>
  obtain⟨l⟩:=args
  match l,h with
  |[x,y],_=>exact B (FD _ _ _ _) λ_=>X2 _
 case unsafeSliceData=>
  obtain⟨l⟩:=args
  match l,h with
  |[x],_=>exact B (zq _ _ _) λ_=>X2 _
 all_goals exact B aC λ_=>X2 _
omit F in
theorem Ui{s d:cH}(h:(s == d)=aL)(v:aD):Rb e (convert s d v):=by
 unfold convert;refine B (lq s) λ_=>B (lq d) λ_=>?_
 repeat' first|exact BQ _ _ _|with_reducible exact X2 _|with_reducible refine B ?_ λ_=>?_|with_reducible refine IT ?_ ?_|exact H _|(have q:(s == d)=bB:=(by assumption);rw[h]at q;cases q)|split|(simp;done)|dsimp only|exact B (jU _) λ_=>X2 _
theorem WY(ρ:nL->aD)(hρ:∀v,ρ (.const v)=v)(o:Oper)(h:YW e.P o.op=bB):Rb e (execOp ρ o):=by
 unfold execOp;cases ho:o.op<;>rw[ho]at h<;>first|(cases h;done)|exact B aC (λ_=>X2 _)|exact X2 _|skip
 case insert=>exact B (AZ h _ _ _) λ_=>X2 _
 case mapUpdate=>exact B (AZ h _ _ _) λ_=>X2 _
 case lookup=>exact B (Y0 h _ _ _) λ_=>X2 _
 case convert=>exact B (Ui (by simpa[YW]using h) _) λ_=>X2 _
 case nilCheck=>
  dsimp only;exact TP
 case binOp op t a b _=>
  refine B (B (Ux _ _ _ _ _ _) λ_=>aay _ _ _ _ λE=>?_) λ_=>X2 _;have q:adn e.P t a b=bB:=by rcases E with rfl|rfl<;>exact h
  unfold adn at q;split at q
  .have key:∀o:nL,isNil o=bB->ρ o=.nilIface:=λo ho=>by
    cases o with
    |const v=>cases v<;>first|(cases ho;done)|exact hρ _
    |_=>cases ho
   rcases Bool.or_eq_true_iff.1 q with q|q<;>rw[key _ q]
   .exact(DL _ _ _).2
   .exact(DL _ _ _).1
  .exact GZ _ _ _ _ _ q
 case call c=>
  obtain⟨callee,args,ts⟩:=c;cases callee with
  |invoke _ _=>cases h
  |builtin b=>exact Vb (by rw[Array.size_map];exact h) _ _
  |value f=>
   show Rb e (Deferred.ofValue (ρ f) _ >>= _)
   unfold Deferred.ofValue;split
   .exact EM F _ _ _
   .show Rb e (runtimePanic .nilDeref:Sem Next)
    exact ny _
   .exact H _
end
end
section
variable {e:Env}{fr f:cU}{A:List cU}{st:cY->List cU->U->GStep}
abbrev mk(fr:cU)(cs:List cU):Goroutine:={ frame:=fr,callers:=cs,status:=.running,dying:=Z }
def qh(P:cY):Item->Bool
 |.code c|.inLoop c=>o8 P c
 |.inRegion ops _=>ops.toList.all λo=>YW P o.op
 |.inBlock _|.inRangeFunc _|.beginRound|.endRangeFunc _=>bB
 |_=>aL
structure uP(e:Env)(fr:cU):Prop where
 todo:∀i∈fr.todo,qh e.P i=bB
 defers:∀d∈fr.defers,∃r,d.target=.collected r
 kind:fr.kind=.normal
def OkG(e:Env)(fr:cU)(A:List cU):Prop:=uP e fr/\∀f∈A,uP e f
theorem OkG.top(h:OkG e fr A)(q:uP e f):OkG e f A:=⟨q,h.2⟩
theorem OkG.push(h:OkG e fr A)(q:uP e f):OkG e f (fr::A):=⟨q,λg E=>(dD.1 E).elim (λk=>k ▸ h.1) (h.2 g)⟩
theorem OkG.pop{a:cU}(h:OkG e fr (a::A)):OkG e a A:=⟨h.2 a (.head _),λg q=>h.2 g (.tail _ q)⟩
def catcher(P:cY):cU:={ fn:=P.funcs.size,tmps:=#[],todo:=[.call { target:=.nil,args:=#[] } aL "fmt's door" #[]],defers:=[],mode:=.run,kind:=.normal }
def Fal(P:cY)(fr:cU):Prop:=(∃v,fr=(catcher P).finish v)\/∃ch,fr=(catcher P).raise ch
def ni(s:GStep):Prop:=∃o w es,s=.ended o w es
section
variable {e:Env}{β:Type}{main:Bool}{fr f:cU}{A c B:List cU}{x y:U}
def Sm(e:Env)(B:List cU)(st:cY->List cU->U->GStep):Prop:=∀x y,WP e x y->
 ni (st e.P [catcher e.P] x)\/(∃q x' es,st e.P [catcher e.P] x=.go (mk q []) x' es/\Fal e.P q)\/
 ∃q I x' es,st e.P [catcher e.P] x=.go (mk q (I++[catcher e.P])) x' es/\Mo x x'/\OkG e q I/\
  (Ans x x' y->∃J E,st e.Q B y=.go (mk q (I++B)) J E/\To e x x' y J/\∀v∈E,Av e x'.heap.size v)
theorem Sm.of{s t:cY->List cU->U->GStep}(h:Sm e B s)(k:∀P,P=e.P\/P=e.Q->∀C w,t P C w=s P C w):Sm e B t:=by intro x y hw;rw[k _ (cJ rfl)];rw[k _ (cK rfl)];exact h x y hw
theorem lG(q:OkG e f c):Sm e B λ_ C w=>.go (mk f (c++C)) w #[]:=λx y hw=>
 cK (cK ⟨f,c,x,#[],rfl,⟨jE,rfl,jE⟩,q,λ_=>⟨y,#[],rfl,hw.stay,aC⟩⟩)
theorem JR(h:∀w,ni (st e.P [catcher e.P] w)):Sm e B st:=λx _ _=>cJ (h x)
theorem VW(P:cY)(f:Nat)(es:Array mb):∀v∈seen P f es,v∈es:=by
 unfold seen;dsimp only;rw[<-Array.foldl_toList]
 have key:∀(l:List mb)(q:Bool)(k:Array mb),∀v∈(l.foldl (λ(q,kept) e=>match e.loc with
   |.mark (.extern f)=>((P.funcs[f]?).any (·.norace),kept)
   |_=>(q,if q&&!e.sync then kept else kept.push e)) (q,k)).2,v∈k\/v∈l:=by
  intro l
  induction l with
  |nil=>intro q k v E;exact cJ E
  |cons a l ih=>
   intro q k v E;simp only[List.foldl_cons]at E;split at E
   .exact(ih _ _ v E).imp id (.tail _)
   .obtain h|h:=ih _ _ v E
    .split at h
     .exact cJ h
     .obtain h|h:=Array.mem_push.1 h
      .exact cJ h
      .exact cK (h ▸ .head _)
    .exact cK (.tail _ h)
 intro v E;obtain h|h:=key _ _ _ v E
 .simp at h
 .simpa using h
theorem ni.after{s:GStep}(h:ni s)(es:Array mb):ni (s.after es):=by obtain⟨o,w,q,rfl⟩:=h;exact⟨_,_,_,rfl⟩
theorem kQ{o:Outcome}{w:U}{es:Array mb}:ni (.ended o w es):=⟨_,_,_,rfl⟩
theorem ZJ(r:Result β)(w:U):fine (put r w)=fine r:=by
 cases r with
 |ok a w=>rfl
 |halt h w=>cases h<;>rfl
theorem uG{s:Sem β}(hs:Rb e s)(fn:FuncId)(K:cY->List cU->Result β->GStep)(h0:∀w r es,s.runT e.P w #[]=(r,es)->bad r=bB->ni (st e.P [catcher e.P] w))(h1:∀P,P=e.P\/P=e.Q->∀C w r es,s.runT P w #[]=(r,es)->fine r=bB->st P C w=GStep.after (seen P fn es) (K P C r))(h2:∀x y r es,s.runT e.P x #[]=(r,es)->fine r=bB->WP e x y->ni (K e.P [catcher e.P] r)\/Sm e B λP C w=>K P C (put r w)):Sm e B st:=by
 intro x y hw;cases Y:s.runT e.P x #[]with
 |mk r es1=>
 obtain hb|⟨hf,hq⟩:=hs x #[] r es1 Y y hw
 .exact cJ (h0 x r es1 Y hb)
 have hm:=mono (P:=e.P) s x #[];rw[Y]at hm;rw[h1 _ (cJ rfl) _ _ _ _ Y hf];obtain h|h:=h2 x y r es1 Y hf hw
 .exact cJ (h.after _)
 have hp:put r (wd r)=r:=by cases r<;>rfl
 obtain⟨y0,ae,_,t0,_⟩:=((hs x _ r es1 Y _ hw.own).resolve_left (Q8 hf)).2 #[] λ_ _=>rfl;rcases h (wd r) y0 t0.wp with J|⟨E,x',es,J,hF⟩|⟨E,A',x',es,J,q,ab,_⟩<;>simp only[hp]at J
 .exact cJ (J.after _)
 .exact cK (cJ ⟨E,x',_,by rw[J];rfl,hF⟩)
 refine cK (cK ⟨E,A',x',_,by rw[J];rfl,q.of hm.1 hm.2.1 hm.2.2,ab,λha=>?_⟩);have h3:x.drawn<=(wd r).drawn:=hm.1;obtain⟨y1,ev,a1,I,a3⟩:=hq #[] λi hi=>ha i (by have:=q.1;omega);have hy:=h _ y1 I.wp;simp only[hp,J]at hy;obtain⟨aa,A2,x2,af,e1,_,_,hz⟩:=(hy.resolve_left (by rintro⟨_,_,_,k⟩;cases k)).resolve_left (by rintro⟨_,_,_,k,_⟩;simp at k)
 obtain⟨rfl,rfl,rfl⟩:aa=E/\A2=A'/\x2=x':=by
  simp only[GStep.go.injEq,Goroutine.mk.injEq,and_true]at e1;exact⟨e1.1.1.symm,(jl e1.1.2).symm,e1.2.1.symm⟩
 obtain⟨y2,ac,b1,b2,b3⟩:=hz λi hi=>by
  have:=ha ((wd r).drawn-x.drawn+i) (by have:=q.1;omega);rw[I.tape,I.drawn,dV,this,show(wd r).tape=x.tape from hm.2.1,<-dV,Nat.add_sub_cancel' h3]
 refine⟨y2,seen e.Q fn (#[]++ev)++ac,?_,⟨b2.wp,b2.tape.trans I.tape,?_,λb hb=>(b2.dead b hb).trans (I.dead b hb),b2.still.1.trans I.still.1,b2.still.2.trans I.still.2⟩,λv hv=>?_⟩
 .rw[h1 _ (cK rfl) _ _ _ _ a1 (by rw[ZJ];exact hf)];rw[b1];rfl
 .rw[b2.drawn,I.drawn];have:=q.1;omega
 .obtain hv|hv:=Array.mem_append.1 hv
  .have:=VW _ fn _ v hv;exact(a3 v (by simpa using this)).le q.2.2
  .exact b3 v hv
theorem uP.set(h:uP e fr){k:List Item}(hk:∀i∈k,qh e.P i=bB):uP e { fr with todo:=k }:=⟨hk,h.defers,h.kind⟩
theorem rH{P:cY}:∀c:Code,o8 P c=bB->readies c=[]
 |.region _ ops _,h=>by
  simp only[readies,List.filterMap_eq_nil_iff];intro o ho;have:=fF.1 h o ho;cases q:o.op<;>first|rfl|(rw[q]at this;cases this)
 |.seq a b,h|.cond _ a b,h|.rangeFunc _ _ a b,h=>by
  obtain⟨E,h2⟩:=iP.1 h;simp only[readies,rH a E,rH b h2,gI]
 |.block _ c,h|.loop c,h=>rH c h
 |.scope c,h=>by cases h
 |.skip,_|.exit _,_|.ret,_|.refuse _,_|.label _,_|.goto _,_=>rfl
theorem Zi(F:Fit e)(fr:cU)(cs:List cU)(g:Nat)(w:U):ni (early e.P fr cs Z g w):=by
 have E:e.P.stepOf g=Z:=by
  unfold Program.stepOf;rw[Array.findIdx?_eq_none_iff];intro fn q;obtain⟨i,I,rfl⟩:=Array.getElem_of_mem q;cases J:(e.P.funcs[i]).body with
  |none=>rfl
  |some c=>simp[rH c (F.same i _ c (dA I) J).2]
 unfold early;simp only[F.early,Bool.not_true,bU,if_false,E];exact kQ
end
end
end Po
