import Derived.Test.YtpibpdpedjinhaaGreatDoorP05
import Derived.Test.YtpibpdpedjinhaaGreatDoorProg
import Derived.Test.YtpibpdpedjinhaaGreatDoorChecked
import Derived.WalkSpells
import Derived.BigCall
import Derived.Deep.QuietTactic
import Derived.BigQuiet
import Derived.Deep.DeepCutAuto
import Derived.Deep.RegionWith
import Derived.Deep.AppendLies
import Derived.Deep.RegionHeld3
import Derived.RangeFuncBox
import Derived.OwnWalkIn
import Init
import Derived.RangeFuncNested
import Derived.RangeFuncBound
import Derived.RangeFuncCalls
import Derived.RangeFuncLeaves
import Derived.Below
import Derived.Laws.Bits64b
import Derived.Shelf.Abstract
import Derived.Shelf.Strconv.Clone
import Derived.TacticsInMore
import Derived.LoopNIn
import Derived.LoopIn
set_option maxRecDepth 100000
set_option maxHeartbeats 4000000
set_option linter.unusedSimpArgs false
namespace Go.Proofs.YtpibpdpedjinhaaGreatDoor
section
open Go
section
variable {k:Nat}{f:Func}
section
variable (P:Program)(L:FuncId->Bool)(t:TypeId)(w:World)
def qY:Program:={ P with funcs:=P.funcs.mapIdx λi f=>if L i then f else { f with body:=none,name:= "",origin:= "" } }
theorem Ti(h:P.funcs[k]? =some f)(hk:L k=true):(qY P L).funcs[k]? =some f:=by
 show(P.funcs.mapIdx _)[k]? =some f
 rw[iW,h];simp only[bQ,hk,if_true]
theorem Jv:(qY P L).info? t=P.info? t:=rfl
theorem yU:(qY P L).underlying t=P.underlying t:=rfl
theorem Aq:(underlying t).run (qY P L) w=(underlying t).run P w:=by
 simp only[underlying,program,bind,Sem.bind,Sem.run,yU];cases P.underlying t<;>rfl
theorem MH:(sizeOf t).run (qY P L) w=(sizeOf t).run P w:=by
 simp only[sizeOf,typeInfo,program,bind,Sem.bind,Sem.run,Jv];cases P.info? t<;>rfl
theorem Q5:(isAgg t).run (qY P L) w=(isAgg t).run P w:=by
 simp only[isAgg,underlying,program,bind,Sem.bind,Sem.run,yU];cases P.underlying t with
 |none=>rfl
 |some d=>cases d<;>rfl
theorem DF:(zeroValue t).run (qY P L) w=(zeroValue t).run P w:=by
 simp only[zeroValue,typeInfo,program,bind,Sem.bind,Sem.run,Jv];cases P.info? t with
 |none=>rfl
 |some i=>
  show Sem.run (qY P L) (match i.zero with|some v=>pure v|none=>_) w=Sem.run P (match i.zero with|some v=>pure v|none=>_) w
  cases i.zero<;>rfl
theorem UQ(h:P.funcs[k]? =some f)(hk:L k=true)(E:(f.name == "runtime.NumGoroutine")=false)(z:f.body.isNone=false)(args:Array Value):(callFunc k args).run (qY P L) w=.ok (.enter k args) w:=by
 simp only[callFunc,program,bind,Sem.bind,Sem.run,Ti P L h hk,E,z];rfl
end
def CO(k:FuncId):Bool:=!([0,1,71,107,108,111,153,154,155,156,157,158,159,160,161,162,163,164,165,166,167,168,169,170,199,200,201,202,203,233,234,235,236,237,238,239,240,241,242,243,244,245,246,247,248,249,250,252,253,254,255]:List Nat).contains k
noncomputable def PQ:Program:=qY Tryz.prog CO
theorem fq(h:Tryz.prog.funcs[k]? =some f)(hk:CO k=true):PQ.funcs[k]? =some f:=Ti _ _ h hk
section
variable (t:TypeId)(w:World)
@[simp] theorem Wx:PQ.underlying t=Tryz.prog.underlying t:=yU ..
@[simp] theorem V9:(underlying t).run PQ w=(underlying t).run Tryz.prog w:=Aq ..
@[simp] theorem Uc:(sizeOf t).run PQ w=(sizeOf t).run Tryz.prog w:=MH ..
@[simp] theorem Wi:(isAgg t).run PQ w=(isAgg t).run Tryz.prog w:=Q5 ..
@[simp] theorem Jc:(zeroValue t).run PQ w=(zeroValue t).run Tryz.prog w:=DF ..
end
section
variable {t:TypeId}
theorem uq{d:Option TypeDesc}(h:Tryz.prog.underlying t=d):PQ.underlying t=d:=(Wx t).trans h
theorem uz{d:Nat}(h:∀w,(sizeOf t).run Tryz.prog w=.ok d w)(w:World):(sizeOf t).run PQ w=.ok d w:=(Uc t w).trans (h w)
theorem uO{d:Bool}(h:∀w,(isAgg t).run Tryz.prog w=.ok d w)(w:World):(isAgg t).run PQ w=.ok d w:=(Wi t w).trans (h w)
theorem uI{d:Value}(h:∀w,(zeroValue t).run Tryz.prog w=.ok d w)(w:World):(zeroValue t).run PQ w=.ok d w:=(Jc t w).trans (h w)
end
abbrev Vo:Nat:=119410605829474995185314158946067881063668245145992106791403157890852007706620
theorem ab1:((List.range 257).all λk=>(Vo >>> k)%2 != 1 || match Tryz.prog.funcs[k]? with
  |some f=>CO k&&!(f.name == "runtime.NumGoroutine")&&!f.body.isNone
  |none=>false)=true:=by kernel_rfl
@[simp] theorem acW(h:(119410605829474995185314158946067881063668245145992106791403157890852007706620 >>> k)%2=1)(a:Array Value)(w:World):(callFunc k a).run PQ w=.ok (.enter k a) w:=by
 have h:(Vo >>> k)%2=1:=h
 have hk:k<257:=by
  apply Nat.lt_of_not_le;intro hk;obtain⟨j,rfl⟩:=Nat.exists_eq_add_of_le hk;rw[Nat.shiftRight_add,show Vo >>> 257=0 by decide,Nat.zero_shiftRight]at h;cases h
 have:=eY.1 ab1 k (gI.2 hk);rw[h]at this;cases hf:Tryz.prog.funcs[k]? with
 |none=>rw[hf]at this;simp at this
 |some f=>
  rw[hf]at this;simp only[bne_self_eq_false,Bool.false_or,bY,Bool.not_eq_true']at this;exact UQ _ _ w hf this.1.1 this.1.2 this.2 a
end
end
namespace Fr
open Go.RowKit Go.Joins
variable {w w':World}{e k base size n:Nat}{v:Value}{xs:List Value}
theorem NZ{b s:Nat}(h:w.ownsRow b e s v k xs)(g:Nat)(E:v.ownBlock=some g):∃z,w.heap[g]? =some (.cells z e (0,0)):=by
 rcases h.2 with⟨rfl,_⟩|⟨J,cap,z,rfl,_,I,_⟩
 ·simp[Value.ownBlock]at E
 ·simp[Value.ownBlock]at E;subst E;exact⟨z,I⟩
theorem own_below(h:w.ownsRow base e size v n xs)(R:Below w.heap.size w w'):w'.ownsRow base e size v n xs:=by
 obtain⟨J,h2⟩:=h;refine⟨J,?_⟩;rcases h2 with h2|⟨g,cap,z,I,Y,E,r⟩
 ·exact .inl h2
 ·exact .inr ⟨g,cap,z,I,Y,(R.block g (jC E)).trans E,r⟩
theorem nT(h:w.ownsRow base e size v n xs)(hk:∀g,v.ownBlock=some g->w'.heap[g]? =w.heap[g]?):w'.ownsRow base e size v n xs:=by
 obtain⟨J,h2⟩:=h;refine⟨J,?_⟩;rcases h2 with h2|⟨g,cap,z,E,R,I,r⟩
 ·exact .inl h2
 ·exact .inr ⟨g,cap,z,E,R,(hk g (by rw[E];rfl)).trans I,r⟩
theorem wH(h:w.ownsRow base e size v k xs)(hk:0<k):∃g cap,v=.slice (some ⟨g,0,none⟩) k cap:=by
 rcases h.2 with⟨_,E⟩|⟨g,cap,z,rfl,_⟩
 ·omega
 ·exact⟨g,cap,rfl⟩
theorem toList_empty(s:ByteArray):s.toList.isEmpty=decide (s.size=0):=by
 rw[ByteArray.toList_eq,Lib.size_eq];cases s.data.toList<;>simp
theorem qx(u:World)(s:ByteArray)(i:Int)(j:Nat)(z:j<s.size)(e:i=(j:Int)):(Instr.index 9 (.string s) (.int .i64 i)).run PQ u=.ok (.int .u8 (s[j].toNat:Int)) u:=by
 subst e;rw[run_index_string u _ s .i64 _ (uq Tryz.underlying9),dif_pos (by omega)];simp
theorem getD_byte(s:ByteArray)(f:Nat)(h:f<s.size):s.data.toList.getD f 0=s[f]:=by
 have z:=Lib.size_eq s;rw[aS,aG (by omega),Array.getElem_toList];rfl
theorem ext_list(s:ByteArray)(a b:Nat):(s.extract a b).data.toList=(s.data.toList.take b).drop a:=by
 simp[ByteArray.data_extract,Array.toList_extract,List.drop_take]
theorem below_drewN{B:Nat}{a:World}(h:Below B a w)(n:Nat):Below B a (w.drewN n):=h.trans ⟨rfl,rfl,rfl,jA,λ_ _=>rfl⟩
end Fr
section
open Go.Conc
theorem nM{w:World}{n i:Nat}{c:Array Value}{t:TypeId}{f:Nat×Nat}{v:Value}(h:w.heap[n]? =some (.cells c t f))(k:c[i]? =some v):w.cell? ⟨n,i,none⟩=some v:=(Lib.cell_of_heap h i).trans k
abbrev aA:=@Go.Lib.cell_of_heap
abbrev aB:=@Go.RowKit.Below.refl
abbrev aI:=@Go.Lib.frozen_of_heap
abbrev aK:=@Go.Calls.mono
abbrev aP:=@Go.RowKit.Below.heap_setCell
abbrev aT:=@Go.RowKit.Below.heap_alloc
abbrev aV:=@Go.Lib.size_eq
abbrev eH:=@Go.World.size_alloc
abbrev fA:=@Go.World.block_lt_of_cell?
abbrev fF:=@Go.Frame.finish_at
abbrev fM:=@Go.RowKit.Below.heap_alloc
abbrev gW:=@Go.Result.andThen_ok
abbrev iR:=@Go.Sem.run_bind
end
namespace Fr
section
variable {s:List UInt8}{p:Nat}
structure F where
 chan:Nat
 num:Nat
 data:List UInt8
 last:Bool
variable {l:List F}
def big(s:List UInt8)(p:Nat):Nat->Nat
 |0=>0
 |k+1=>256*big s p k+(s.getD (p+k) 0).toNat
theorem oQ(s:List UInt8)(p:Nat):∀k,big s p k<256 ^ k
 |0=>by simp[big]
 |k+1=>by
  have z:=oQ s p k;have h2:=(s.getD (p+k) 0).toNat_lt;rw[big,Nat.pow_succ];omega
def one(s:List UInt8)(p:Nat):Option (F×Nat):=
 if s.length<p+9 then none
 else if s.length<p+9+big s (p+6) 2 then none
 else if 1<(s.getD (p+8+big s (p+6) 2) 0).toNat then none
 else some (⟨big s p 4,big s (p+4) 2,(s.take (p+8+big s (p+6) 2)).drop (p+8),(s.getD (p+8+big s (p+6) 2) 0).toNat == 1⟩,9+big s (p+6) 2)
theorem OG(h:¬s.length<p+9):one s p=if s.length<p+9+big s (p+6) 2 then none
 else if 1<(s.getD (p+8+big s (p+6) 2) 0).toNat then none
 else some (⟨big s p 4,big s (p+4) 2,(s.take (p+8+big s (p+6) 2)).drop (p+8),(s.getD (p+8+big s (p+6) 2) 0).toNat == 1⟩,9+big s (p+6) 2):=by
 unfold one;rw[if_neg h]
theorem wY(h:s.length<p+9):one s p=none:=by
 unfold one;rw[if_pos h]
def rest:Nat->List UInt8->Nat->Option (List F)
 |0,s,p=>if s.length<=p then some []else none
 |f+1,s,p=>if s.length<=p then some []else match one s p with
  |none=>none
  |some (x,n)=>(rest f s (p+n)).map (x::·)
def frames(s:List UInt8):Option (List F):=if s.length<2\/s.getD 0 0≠0 then none else rest s.length s 1
theorem one_le{x:F}{n:Nat}(h:one s p=some (x,n)):9<=n/\p+n<=s.length:=by
 unfold one at h;split at h
 ·simp at h
 ·split at h
  ·simp at h
  ·split at h
   ·simp at h
   ·simp only[aC,dA]at h;omega
inductive qy(s:List UInt8):List F->Nat->Prop
 |nil:qy s [] 1
 |snoc {l:List F} {p:Nat} {x:F} {n:Nat}:qy s l p->p<s.length->one s p=some (x,n)->qy s (l++[x]) (p+n)
theorem qy.le(hs:1<=s.length)(h:qy s l p):p<=s.length/\l.length<p:=by
 induction h with
 |nil=>exact⟨hs,Nat.lt_succ_self _⟩
 |snoc h hp ho ih=>
  have:=one_le ho;simp only[aJ,aN,bM];omega
theorem qy.rest(h:qy s l p):∀f,l.length<=f->Fr.rest f s 1=(Fr.rest (f-l.length) s p).map (λr=>l++r):=by
 induction h with
 |nil=>intro f _;simp
 |@snoc l p x n h hp ho ih=>
  intro f I;simp only[aJ,aN,bM]at I⊢;rw[ih f (by omega)];obtain⟨z,E⟩:∃z,f-l.length=z+1:=⟨f-l.length-1,by omega⟩
  rw[E,Fr.rest,if_neg (by omega),ho];simp only;rw[show f-(l.length+(0+1))=z from by omega];cases Fr.rest z s (p+n)<;>simp
theorem qy.all(h2:¬(s.length<2\/s.getD 0 0≠0))(h:qy s l p)(hp:s.length<=p):frames s=some l:=by
 have:=h.le (by omega);rw[frames,if_neg h2,h.rest s.length (by omega)];cases s.length-l.length<;>simp[Fr.rest,hp]
theorem qy.stuck(h2:¬(s.length<2\/s.getD 0 0≠0))(h:qy s l p)(hp:p<s.length)(z:one s p=none):frames s=none:=by
 have:=h.le (by omega);rw[frames,if_neg h2,h.rest s.length (by omega)];cases s.length-l.length with
 |zero=>rw[Fr.rest,if_neg (by omega)];rfl
 |succ f=>rw[Fr.rest,if_neg (by omega),z];rfl
theorem rE(h:s.length<2\/s.getD 0 0≠0):frames s=none:=by rw[frames,if_pos h]
end
open Go.RowKit Go.Joins
def qN(x:F):List Value:=[.int .u32 x.chan,.int .u16 x.num,.string ⟨x.data.toArray⟩,.bool x.last]
def flat:List F->List Value
 |[]=>[]
 |x::l=>qN x++flat l
theorem tN:∀(a b:List F),flat (a++b)=flat a++flat b
 |[],_=>rfl
 |x::a,b=>by rw[dH,flat,flat,tN a b,fE]
theorem flat_length:∀l:List F,(flat l).length=l.length*4
 |[]=>rfl
 |x::l=>by rw[flat,aJ,flat_length l];simp[qN];omega
def ZE(lo:Nat)(w':World)(e:Ending):Option (List F)->Prop
 |none=>e=.returned (.tuple #[.slice none 0 0,.bool false])
 |some l=>∃a cap,e=.returned (.tuple #[.slice a l.length cap,.bool true])/\w'.ownsRow lo 81 4 (.slice a l.length cap) l.length (flat l)
end Fr
section
open Go.RowKit
section
variable {B gf:Nat}{P:Program}{g:Operand}{ps:Array Tmp}{assign body:Code}{Q:Exit->Act->World->Prop}{w w0:World}{lb:Array Value}{ks:Nat->Prop}
theorem xQ{a b:World}(h:Below B a b)(l:Nat)(o:Obj)(z:l<a.heap.size):Below B (a.putObj l o) (b.putObj l o):=
 ⟨h.os,h.tape,h.output,by simp;exact h.size,λk hk=>by
  by_cases e:k=l
  ·subst e;rw[World.putObj_heap_same z,World.putObj_heap_same (aH z h.size)]
  ·rw[World.putObj_heap_other e,World.putObj_heap_other e];exact h.block k hk⟩
theorem xU(w:World)(l:Nat)(o o':Obj)(z:l<w.heap.size):(w.alloc o).putObj l o'=(w.putObj l o').alloc o:=by
 have:(w.heap.push o).setIfInBounds l o'=(w.heap.setIfInBounds l o').push o:=by
  apply fP;intro i;simp only[aO,gY,Array.size_push,jg];by_cases e:l=i
  ·subst e;simp[z,iI z];omega
  ·simp[e]
 show { (w.alloc o)with heap:=(w.alloc o).heap.setIfInBounds l o' }={ (w.putObj l o')with heap:=(w.putObj l o').heap.push o }
 have E:(w.alloc o).heap=w.heap.push o:=rfl;have I:(w.putObj l o').heap=w.heap.setIfInBounds l o':=rfl;rw[E,I,this];rfl
def Gives{α:Type}(P:Program)(g:Nat)(lb:Array Value)(encs:α->Array Value)(ks:Nat->Prop)(Y:List α->α->Nat->World->Prop)(S Sp:List α->Prop)(w:World):Prop:=
 ∀(l:Nat)(J Jx:List α->World->Prop)(W:World),Below w.heap.size w W->
  (∀z x E R,J z E->Below E.heap.size E R->Y z x E.heap.size R->YieldAt Fence.wide 1 P l (encs x) R λe I=>
   (e=.returned (.bool true)/\J (z++[x]) I/\R.heap.size<=I.heap.size/\∀k,ks k->I.heap[k]? =R.heap[k]?)\/(e=.returned (.bool false)/\Jx (z++[x]) I))->
  J [] W->
  CallsIn Fence.wide 2 P g (#[.func (.yield l) #[] #[]]++lb) W λe I=>(∃v,e=.returned v)/\((∃xs E,S xs/\J xs E/\Below E.heap.size E I)\/(∃z E,Sp z/\Jx z E/\Below E.heap.size E I))
def NC(W:World)(k:Nat):Prop:=∀(cs:Array Value)(t:Nat)(z:Nat×Nat),W.heap[k]?≠some (.cells cs t z)
theorem Oc{k:Nat}{W z:World}{o':Obj}(h:KeepsFrom B (W.alloc o') z)(hk:k<W.heap.size)(J:NC W k)(I:B<=k):z.heap[k]? =(W.alloc o').heap[k]?:=by
 obtain⟨o,E⟩:∃o,W.heap[k]? =some o:=⟨_,bU hk⟩
 have e:=(Below.heap_alloc W o' k hk).trans E;refine(h.same k o I e ?_).trans e.symm;cases o with
 |cells cs t fz=>exact absurd E (J cs t fz)
 |_=>rfl
structure pO(B:Nat)(W W':World):Prop where
 size:W.heap.size<=W'.heap.size
 one:W'.heap[B]? =W.heap[B]?
 two:W'.heap[B+1]? =W.heap[B+1]?
def Zn{α:Type}(B:Nat)(ks:Nat->Prop)(I:List α->World->Prop)(z:Code->List α->World->Prop)(xs:List α)(W:World):Exit->Act->World->Prop
 |.normal,_,W'=>pO B W W'/\(∀k,ks k->W'.heap[k]? =W.heap[k]?)/\I xs W'
 |.ret,_,W'=>pO B W W'/\z .ret xs W'
 |.exit id,_,W'=>pO B W W'/\z (.exit id) xs W'
 |.goto t,_,W'=>pO B W W'/\z (.goto t) xs W'
 |.panic _,_,_=>False
 |.outgrown,_,_=>False
theorem wX{α:Type}{a:Act}
  (hg:a.eval g=.func (.func gf) #[] lb) (eg:∀args w,(callFunc gf args).run P w=.ok (.enter gf args) w)
  {encs:α->Array Value} {Y:List α->α->Nat->World->Prop} {S Sp:List α->Prop} (ao:Gives P gf lb encs ks Y S Sp w0) (am:Below w0.heap.size w0 w)
  (av:∀k,ks k->k<w.heap.size) (hY:∀z x lo W W',(∀k,lo<=k->W'.heap[k]? =W.heap[k]?)->W'.heap.size=W.heap.size->Y z x lo W->Y z x lo W') (ap:∀x,(encs x).size=ps.size)
  (I:List α->World->Prop) (Ix:Code->List α->World->Prop) (hI:∀xs A r o,I xs A->A.heap[w.heap.size+1]? =some (.loop r)->I xs (A.putObj (w.heap.size+1) (.loop o))) (ac:∀c xs A r o,Ix c xs A->A.heap[w.heap.size+1]? =some (.loop r)->Ix c xs (A.putObj (w.heap.size+1) (.loop o))) (h0:∀o1 o2,I [] ((w.alloc o1).alloc o2)) (af:α->Nat->Act) (ox:α->Obj)
  (ab:∀(l:Nat)(x:α)(W:World)(K:Act->World->Prop),K (af x W.heap.size) (W.alloc (ox x))->
   assign.wpIn (Fence.wide.inRound l) 1 P (Exit.then K (λ_ _ _=>False)) { tmps:=(ps.zip (encs x)).foldl (λt (p,v)=>t.setIfInBounds p v) a.tmps,defers:=[] } W)
  (ag:∀(l:Nat)(z:List α)(x:α)(J W1:World),l=w.heap.size+1->l<J.heap.size->NC W1 w.heap.size->NC W1 (w.heap.size+1)->I z J->Below J.heap.size J W1->Y z x J.heap.size W1->body.wpIn (Fence.wide.inRound l) 1 P (Zn w.heap.size ks I Ix (z++[x]) (W1.alloc (ox x))) (af x W1.heap.size) (W1.alloc (ox x)))
  (ah:∀(D:Nat)(xs:List α)(J W:World),D=w.heap.size->D<J.heap.size->S xs->I xs J->Below J.heap.size J W->W.heap[D]? =some (.deferred (some []))->Q .normal { a with defers:={ target:=.collected D,args:=#[] }::a.defers } W)
  (aj:∀(D:Nat)(c:Code)(z:List α)(J W:World),D=w.heap.size->D<J.heap.size->Sp z->Ix c z J->Below J.heap.size J W->W.heap[D]? =some (.deferred (some []))->c.wpIn Fence.wide 3 P Q { a with defers:={ target:=.collected D,args:=#[] }::a.defers } W):
  (Code.rangeFunc g ps assign body).wpIn Fence.wide 3 P Q a w:=by
 refine wpIn_rangeFunc λfn au=>?_;obtain⟨rc,R⟩:∃rc:LoopState->Option Code->Loop,rc=λst pe=>{ state:=st,pending:=pe,fn,tmps:=a.tmps,params:=ps,assign,body,defers:=w.heap.size }:=⟨_,rfl⟩
 obtain⟨V,hV⟩:∃V,(w.alloc (.deferred (some []))).alloc (.loop (rc .ready none))=V:=⟨_,rfl⟩
 have vl:V.heap[w.heap.size+1]? =some (.loop (rc .ready none)):=by
  have:=World.alloc_heap_new (w.alloc (.deferred (some []))) (.loop (rc .ready none));rw[World.size_alloc,hV]at this;exact this
 have vd:V.heap[w.heap.size]? =some (.deferred (some [])):=by rw[<-hV];exact(Below.heap_alloc _ _ _ (by simp)).trans (World.alloc_heap_new w _)
 have vI:I [] V:=by rw[<-hV];exact h0 _ _
 have vb:Below w0.heap.size w0 V:=by rw[<-hV];exact am.trans ((((Below.refl _ w).alloc jA _).alloc (by simp) _).mono am.size)
 refine⟨w.heap.size+1,[{ target:=.collected w.heap.size,args:=#[] }],V,{ target:=.fn (.func gf) lb,args:=#[.func (.yield (w.heap.size+1)) #[] #[]] },V,gf,
  #[.func (.yield (w.heap.size+1)) #[] #[]]++lb,V,?_,?_,λ_ _=>trivial,by simp[invoke,go_sem,eg],λh=>by simp[Fence.wide]at h,?_⟩
 ·rw[<-hV,R];exact run_enterLoop_outer _ _ _ _ _
 ·simp only[resolve,hg];simp[go_sem]
 refine(ao (w.heap.size+1)
  (λz W=>I z W/\W.heap[w.heap.size+1]? =some (.loop (rc .ready none))/\W.heap[w.heap.size]? =some (.deferred (some [])))
  (λz W=>∃c,Ix c z W/\W.heap[w.heap.size+1]? =some (.loop (rc .done (some c)))/\W.heap[w.heap.size]? =some (.deferred (some []))) V vb ?_ ⟨vI,vl,vd⟩).mono ?_
 ·rintro z x J W1 ⟨i0,l0,d0⟩ hb hy;have aa:w.heap.size+1<J.heap.size:=(jC l0)
  have l1:=(hb.block _ aa).trans l0;have d1:=(hb.block _ (by omega:w.heap.size<J.heap.size)).trans d0;have ae:w.heap.size+1<W1.heap.size:=(jC l1)
  have ry:=run_yield (P:=P) (args:=encs x) l1 (by rw[R];exact ap x);rw[R]at ry;refine⟨fn,_,assign,body,ry,roundIn_of_wpIn au (ab _ x W1 _ ⟨_,run_beginRound ((Below.heap_alloc _ _ _ ae).trans l1) (by rw[R]),?_⟩)⟩;clear ry;rw[xU _ _ _ _ ae];obtain⟨o,ho⟩:∃o:Obj,Obj.loop { rc .ready none with state:=.busy }=o:=⟨_,rfl⟩
  rw[ho];have b1:=xQ hb (w.heap.size+1) o aa
  have y1:Y z x (J.putObj (w.heap.size+1) o).heap.size (W1.putObj (w.heap.size+1) o):=by
   rw[World.putObj_size];exact hY z x _ W1 _ (λk hk=>World.putObj_heap_other (by omega)) (by simp) hy
  have ai:=ag (w.heap.size+1) z x _ _ rfl (by simp;omega) (λcs t fz hk=>by rw[World.putObj_heap_other (by omega),d1]at hk;cases hk) (λcs t fz hk=>by rw[World.putObj_heap_same ae,<-ho]at hk;cases hk) (by rw[<-ho];exact hI _ _ _ _ i0 l0) (by simpa using b1) y1;rw[World.putObj_size]at ai;refine wpIn_mono ai ?_;clear ai;have ar:((W1.putObj (w.heap.size+1) o).alloc (ox x)).heap[w.heap.size+1]? =some o:=(Below.heap_alloc _ _ _ (by simp;omega)).trans (World.putObj_heap_same ae);have aq:((W1.putObj (w.heap.size+1) o).alloc (ox x)).heap[w.heap.size]? =some (.deferred (some [])):=(Below.heap_alloc _ _ _ (by simp;omega)).trans ((World.putObj_heap_other (by omega)).trans d1)
  have fin:∀(E:Option Code)(W3:World),pO w.heap.size ((W1.putObj (w.heap.size+1) o).alloc (ox x)) W3->
    (Instr.endRound (w.heap.size+1) E).run P W3=.ok (.bool E.isNone) (W3.putObj (w.heap.size+1) (.loop (rc (if E.isNone then .ready else .done) E)))/\
    W3.heap[w.heap.size+1]? =some o/\
    (W3.putObj (w.heap.size+1) (.loop (rc (if E.isNone then .ready else .done) E))).heap[w.heap.size+1]? =some (.loop (rc (if E.isNone then .ready else .done) E))/\
    (W3.putObj (w.heap.size+1) (.loop (rc (if E.isNone then .ready else .done) E))).heap[w.heap.size]? =some (.deferred (some [])):=λE W3 an=>by
   have q1:=an.two.trans ar;have q2:=an.one.trans aq;have ak:=q1;rw[<-ho]at ak;have:=run_endRound (P:=P) E ak;refine⟨?_,q1,World.putObj_heap_same (jC q1),(World.putObj_heap_other (by omega)).trans q2⟩;rw[R]at this⊢;exact this
  rintro e a3 W3 hp;cases e with
  |normal=>
   obtain⟨k3,kk,i3⟩:=hp;obtain⟨hr,l3,l4,d4⟩:=fin none W3 k3;refine⟨_,_,hr,.inl ⟨rfl,⟨hI _ _ _ _ i3 (l3.trans (congrArg some ho.symm)),l4,d4⟩,by have:=k3.size;simp at this⊢;omega,λk hk=>?_⟩⟩;have aw:=av k hk;rw[World.putObj_heap_other (by omega),kk k hk,Below.heap_alloc _ _ _ (by simp;omega),World.putObj_heap_other (by omega)]
  |ret=>
   obtain⟨k3,i3⟩:=hp;obtain⟨hr,l3,l4,d4⟩:=fin (some .ret) W3 k3;exact⟨_,_,hr,.inr ⟨rfl,.ret,ac _ _ _ _ _ i3 (l3.trans (congrArg some ho.symm)),l4,d4⟩⟩
  |exit id=>
   obtain⟨k3,i3⟩:=hp;obtain⟨hr,l3,l4,d4⟩:=fin (some (.exit id)) W3 k3;exact⟨_,_,hr,.inr ⟨rfl,.exit id,ac _ _ _ _ _ i3 (l3.trans (congrArg some ho.symm)),l4,d4⟩⟩
  |goto t=>
   obtain⟨k3,i3⟩:=hp;obtain⟨hr,l3,l4,d4⟩:=fin (some (.goto t)) W3 k3;exact⟨_,_,hr,.inr ⟨rfl,.goto t,ac _ _ _ _ _ i3 (l3.trans (congrArg some ho.symm)),l4,d4⟩⟩
  |panic ch=>exact hp.elim
  |outgrown=>exact hp.elim
 ·rintro e W2 ⟨⟨v,rfl⟩,(⟨xs,J,hS,⟨i0,l0,d0⟩,hb⟩|⟨z,J,hS,⟨c,i0,l0,d0⟩,hb⟩)⟩
  ·have aa:w.heap.size+1<J.heap.size:=(jC l0)
   have l2:=(hb.block _ aa).trans l0;have d2:=(hb.block _ (by omega:w.heap.size<J.heap.size)).trans d0;refine⟨none,_,by have:=run_endLoop (P:=P) l2 (by rw[R];simp);rw[R]at this;exact this,?_⟩;exact ah _ xs _ _ rfl (by simp;omega) hS (hI _ _ _ _ i0 l0) (by simpa using xQ hb (w.heap.size+1) _ aa) ((World.putObj_heap_other (by omega)).trans d2)
  ·have aa:w.heap.size+1<J.heap.size:=(jC l0)
   have l2:=(hb.block _ aa).trans l0;have d2:=(hb.block _ (by omega:w.heap.size<J.heap.size)).trans d0;refine⟨some c,_,by have:=run_endLoop (P:=P) l2 (by rw[R];simp);rw[R]at this;exact this,?_⟩;exact aj _ c z _ _ rfl (by simp;omega) hS (ac c _ _ _ _ i0 l0) (by simpa using xQ hb (w.heap.size+1) _ aa) ((World.putObj_heap_other (by omega)).trans d2)
def Yu{α:Type}(B:Nat)(ks:Nat->Prop)(I:List α->World->Prop)(z:Code->List α->World->Prop)(xs:List α)(W:World):Exit->Act->World->Prop
 |.normal,_,W'=>KeepsFrom B W W'/\(∀k,ks k->W'.heap[k]? =W.heap[k]?)/\I xs W'
 |.ret,_,W'=>KeepsFrom B W W'/\z .ret xs W'
 |.exit id,_,W'=>KeepsFrom B W W'/\z (.exit id) xs W'
 |.goto t,_,W'=>KeepsFrom B W W'/\z (.goto t) xs W'
 |.panic _,_,_=>False
 |.outgrown,_,_=>False
theorem tJ{α:Type}{a:Act}
  (hg:a.eval g=.func (.func gf) #[] lb) (eg:∀args w,(callFunc gf args).run P w=.ok (.enter gf args) w)
  {encs:α->Array Value} {Y:List α->α->Nat->World->Prop} {S Sp:List α->Prop} (ae:Gives P gf lb encs ks Y S Sp w0) (ag:Below w0.heap.size w0 w)
  (af:∀k,ks k->k<w.heap.size) (hY:∀z x lo W W',(∀k,lo<=k->W'.heap[k]? =W.heap[k]?)->W'.heap.size=W.heap.size->Y z x lo W->Y z x lo W') (ai:∀x,(encs x).size=ps.size)
  (I:List α->World->Prop) (Ix:Code->List α->World->Prop) (hI:OwnFrom w.heap.size I) (ah:∀c,OwnFrom w.heap.size (Ix c)) (h0:I [] w) (J:α->Nat->Act) (ox:α->Obj)
  (R:∀(l:Nat)(x:α)(W:World)(K:Act->World->Prop),K (J x W.heap.size) (W.alloc (ox x))->
   assign.wpIn (Fence.wide.inRound l) 1 P (Exit.then K (λ_ _ _=>False)) { tmps:=(ps.zip (encs x)).foldl (λt (p,v)=>t.setIfInBounds p v) a.tmps,defers:=[] } W)
  (ac:∀(l:Nat)(z:List α)(x:α)(E W1:World),w.heap.size<E.heap.size->I z E->Below E.heap.size E W1->Y z x E.heap.size W1->body.wpIn (Fence.wide.inRound l) 1 P (Yu w.heap.size ks I Ix (z++[x]) (W1.alloc (ox x))) (J x W1.heap.size) (W1.alloc (ox x)))
  (aa:∀(D:Nat)(xs:List α)(E W:World),w.heap.size<=D->D<E.heap.size->S xs->I xs E->Below E.heap.size E W->W.heap[D]? =some (.deferred (some []))->Q .normal { a with defers:={ target:=.collected D,args:=#[] }::a.defers } W)
  (ab:∀(D:Nat)(c:Code)(z:List α)(E W:World),w.heap.size<=D->D<E.heap.size->Sp z->Ix c z E->Below E.heap.size E W->W.heap[D]? =some (.deferred (some []))->c.wpIn Fence.wide 3 P Q { a with defers:={ target:=.collected D,args:=#[] }::a.defers } W):
  (Code.rangeFunc g ps assign body).wpIn Fence.wide 3 P Q a w:=by
 refine wX hg eg ae ag af hY ai I Ix (λ_ _ _ _ h hl=>hI.putObj _ h (by omega) hl rfl) (λc _ _ _ _ h hl=>(ah c).putObj _ h (by omega) hl rfl) (λ_ _=>hI.alloc _ (hI.alloc _ h0)) J ox R (λl z x E W1 e hl n1 n2 hi hb hy=>wpIn_mono (ac l z x E W1 (by omega) hi hb hy) ?_) (λD xs E W e=>aa D xs E W (by omega)) (λD c z E W e=>ab D c z E W (by omega));have sz:=hb.size;have kt:∀{W3},KeepsFrom w.heap.size (W1.alloc (ox x)) W3->pO w.heap.size (W1.alloc (ox x)) W3:=λk=>⟨k.size,Oc k (by omega) n1 jA,Oc k (by omega) n2 (by omega)⟩
 rintro e a3 W3 hp;cases e with
 |normal=>exact⟨kt hp.1,hp.2⟩
 |ret=>exact⟨kt hp.1,hp.2⟩
 |exit id=>exact⟨kt hp.1,hp.2⟩
 |goto t=>exact⟨kt hp.1,hp.2⟩
 |panic ch=>exact hp
 |outgrown=>exact hp
end
end
namespace Fr
open Go.RowKit Go.Joins Go.Shelf
theorem xg(a c:Nat)(z:c<256):(a*256) |||c=256*a+c:=by
 have:=Nat.two_pow_add_eq_or_of_lt (i:=8) (b:=c) (by omega) a;rw[show a*256=2 ^ 8*a from by omega,<-this]
theorem sO(a b:Nat)(E:a<4294967296)(I:b<4294967296):bits .or .u32 (a:Int) (b:Int)=((a |||b:Nat):Int):=by
 have J:a |||b<2 ^ 32:=Nat.or_lt_two_pow (by omega) (by omega)
 have z:(BitVec.ofInt 32 (a:Int)).toNat=a:=by
  rw[BitVec.ofInt_natCast,BitVec.toNat_ofNat];exact Nat.mod_eq_of_lt (by omega)
 have h2:(BitVec.ofInt 32 (b:Int)).toNat=b:=by
  rw[BitVec.ofInt_natCast,BitVec.toNat_ofNat];exact Nat.mod_eq_of_lt (by omega)
 show IntKind.u32.wrap ((BitVec.ofInt 32 (a:Int) |||BitVec.ofInt 32 (b:Int)).toNat:Int)=_
 rw[BitVec.toNat_or,z,h2,IntKind.wrap_u32];omega
theorem below_bytesWorld{B:Nat}{w u:World}(h:Below B w u)(E:B<=u.heap.size)(e:TypeId)(s:ByteArray):Below B w (Lib.bytesWorld u e s):=
 h.trans ⟨rfl,rfl,rfl,by rw[Lib.bytesWorld_size];omega,λm z=>Lib.bytesWorld_at_old u e s m (by omega)⟩
theorem tu(s:List UInt8)(p q:Nat):∀k,big (s.drop p) q k=big s (p+q) k
 |0=>rfl
 |k+1=>by
  rw[big,big,tu s p q k,aS,aS,iT,dO]
theorem Js(s:List UInt8)(q m:Nat):∀k,q+k<=m->big (s.take m) q k=big s q k
 |0,_=>rfl
 |k+1,h=>by
  rw[big,big,Js s q m k (by omega),aS,aS,iE (by omega)]
theorem uF(s:List UInt8)(p k:Nat):big ((s.take (p+k)).drop p) 0 k=big s p k:=by
 rw[tu,Nat.add_zero,Js _ _ _ _ jA]
theorem wP(s:List UInt8)(p:Nat)(hp:p<=s.length):one s p=one (s.drop p) 0:=by
 unfold one;rw[tu,tu,tu,dP];simp only[Nat.add_zero,fC]
 have e:(s.drop p).getD (8+big s (p+6) 2) 0=s.getD (p+8+big s (p+6) 2) 0:=by
  rw[aS,aS,iT,dO]
 have E:((s.drop p).take (8+big s (p+6) 2)).drop 8=(s.take (p+8+big s (p+6) 2)).drop (p+8):=by
  rw[List.take_drop,gZ]
  congr 1
  rw[dO]
 rw[e,E];by_cases z:s.length<p+9
 ·rw[if_pos z,if_pos (show s.length-p<9 by omega)]
 ·rw[if_neg z,if_neg (show ¬s.length-p<9 by omega)];by_cases h2:s.length<p+9+big s (p+6) 2
  ·rw[if_pos h2,if_pos (show s.length-p<9+big s (p+6) 2 by omega)]
  ·rw[if_neg h2,if_neg (show ¬s.length-p<9+big s (p+6) 2 by omega)]
theorem nC(s:ByteArray)(w:World)(hs:s.size<=4):
  Calls PQ 194 #[.string s] w λe w'=>e=.returned (.int .u32 (big s.data.toList 0 s.size:Nat))/\Below w.heap.size w w':=by
 have ac:=λu:World=>Lib.run_convert_string_bytes (P:=PQ) u 9 155 5 s (uq Tryz.underlying9) (uq Tryz.underlying155) (uq Tryz.underlying5);go_enter (fq Tryz.func194 rfl),Tryz.ntmps194;go_wp2_with fail;obtain⟨Y,hY⟩:∃Y:World,Y=Lib.bytesWorld w 5 s:=⟨_,rfl⟩
 have E:Below w.heap.size w Y:=by rw[hY];exact below_bytesWorld (Below.refl _ _) jA _ _
 have R:∀k,k<s.size->Y.cell? ⟨w.heap.size,k,none⟩=some (.int .u8 (s.data.toList.getD k 0).toNat):=λk hk=>by rw[hY];exact Lib.bytesWorld_cell w 5 s k hk
 rw[<-hY];have HY:Hid _:=jw R E;clear hY R E ac;generalize grownCap w s.size 0 5=gc;go_loopg [3,9] s.size (λg v t wx=>∃k:Nat,k<=s.size/\t=.int .i64 k/\v=.int .u32 (big s.data.toList 0 k:Nat)/\g=s.size-k/\wx=Y)
 case atStart=>exact⟨0,dF _,rfl,rfl,rfl,rfl⟩
 case round=>
  obtain⟨k,hk,rfl,rfl,rfl,rfl⟩:=hrel;by_cases af:k<s.size
  ·have I:(k:Int)<s.size:=by omega
   have hc:=HY.out.1 k (by omega);have z:big s.data.toList 0 (k+1)=256*big s.data.toList 0 k+(s.data.toList.getD k 0).toNat:=by rw[big,fC]
   generalize hb:(s.data.toList.getD k 0).toNat=b at hc z;have ab:b<256:=by rw[<-hb];exact UInt8.toNat_lt _
   have ae:big s.data.toList 0 k<16777216:=by
    have:=oQ s.data.toList 0 k;have:=iG (n:=256) (by decide) (show k<=3 by omega);omega
   generalize J:big s.data.toList 0 (k+1)=V' at z;have aa:Hid _:=J;clear J;generalize big s.data.toList 0 k=V at *;have Hb:Hid _:=hb;clear hb;go_wp2_with fail
   rw[show bits .or .u32 ((V:Int)*256) (b:Int)=V' from by
    rw[show(V:Int)*256=((V*256:Nat):Int) from by omega,sO _ _ (by omega) (by omega),xg V b ab,z]]
   go_roundg (s.size-(k+1))
   case measure=>omega
   case rel=>
    refine⟨k+1,by omega,by go_num,?_,rfl,rfl⟩;rw[aa.out]
  ·have I:¬(k:Int)<s.size:=by omega
   obtain rfl:k=s.size:=by omega
   go_wp2_with fail;go_ret;exact⟨rfl,HY.out.2⟩
def TA:Go.Shelf.Ren:=⟨fun|316=>198|n=>n,fun|0=>0|3=>3|4=>4|5=>5|9=>9|37=>155|127=>239|n=>n,fun|n=>n⟩
theorem G9:Go.Proofs.LaysM.n316 PQ TA:={
 mixed:=by kernel_rfl
 f316:=(fq Tryz.func198 rfl).trans (congrArg some (by kernel_rfl))
 t0:=(uq Tryz.underlying0)
 a0:=(uO Tryz.isAgg0)
 z0:=(uz Tryz.sizeOf0)
 v0:=(uI Tryz.zeroValue0)
 t3:=(uq Tryz.underlying3)
 a3:=(uO Tryz.isAgg3)
 z3:=(uz Tryz.sizeOf3)
 v3:=(uI Tryz.zeroValue3)
 t4:=(uq Tryz.underlying4)
 a4:=(uO Tryz.isAgg4)
 z4:=(uz Tryz.sizeOf4)
 v4:=(uI Tryz.zeroValue4)
 t5:=(uq Tryz.underlying5)
 a5:=(uO Tryz.isAgg5)
 z5:=(uz Tryz.sizeOf5)
 v5:=(uI Tryz.zeroValue5)
 t9:=(uq Tryz.underlying9)
 a9:=(uO Tryz.isAgg9)
 z9:=(uz Tryz.sizeOf9)
 v9:=(uI Tryz.zeroValue9)
 t37:=(uq Tryz.underlying155)
 a37:=(uO Tryz.isAgg155)
 z37:=(uz Tryz.sizeOf155)
 v37:=(uI Tryz.zeroValue155)
 t127:=(uq Tryz.underlying239)
 a127:=(uO Tryz.isAgg239)
 z127:=(uz Tryz.sizeOf239)
 v127:=(uI Tryz.zeroValue239)
 i0:=by kernel_rfl
 i3:=by kernel_rfl
 i4:=by kernel_rfl
 i5:=by kernel_rfl
 i9:=by kernel_rfl
 i37:=by kernel_rfl
 i127:=by kernel_rfl }
theorem clone_any(s:ByteArray)(w:World)(hs:s.size<=16777216):Calls PQ 151 #[.string s] w λe w'=>e=.returned (.string s)/\Below w.heap.size w w':=by
 go_enter (fq Tryz.func151 rfl),Tryz.ntmps151;go_wp2_with fail;refine(Any.stringslite_Clone (ρ:=TA) G9 s w (by omega)).mono ?_;rintro e w1 ⟨rfl,z⟩;go_wp2_with fail;go_ret;exact⟨rfl,z⟩
open Go.RowKit Go.Joins
section
variable {w:World}
def fv:Option (F×Nat)->Value
 |none=>.tuple #[.agg #[.int .u32 0,.int .u16 0,.string ⟨#[]⟩,.bool false],.int .i64 0,.bool false]
 |some x=>.tuple #[.agg #[.int .u32 x.1.chan,.int .u16 x.1.num,.string ⟨x.1.data.toArray⟩,.bool x.1.last],.int .i64 x.2,.bool true]
theorem wu{B:Nat}{a:World}(h:Below B a w)(b:Nat)(E:B<=b)(x y z u:Value):Below B a ((((w.setCell ⟨b,0,none⟩ x).setCell ⟨b,1,none⟩ y).setCell ⟨b,2,none⟩ z).setCell ⟨b,3,none⟩ u):=
 (((h.setCell E _).setCell E _).setCell E _).setCell E _
theorem X8{w1 w2 w3 w4:World}{o:Obj}(I:Below w.heap.size w w1)(R:w1.heap[w.heap.size]? =some o)(h2:Below w1.drew.heap.size w1.drew w2)(h3:Below w2.heap.size w2 w3)(h4:Below w3.heap.size w3 w4):Below w.heap.size w w4/\w4.heap[w.heap.size]? =some o:=by
 have e:Below w1.heap.size w1 w1.drew:=(Below.refl _ _).drew;have J:=e.trans (h2.mono e.size);have z:=J.trans (h3.mono J.size);have E:=z.trans (h4.mono z.size);exact⟨I.trans (E.mono I.size),(E.block _ (jC R)).trans R⟩
theorem first_any(s:ByteArray)(w:World)(hs:s.size<=16777216):
  Calls PQ 142 #[.string s] w λe w'=>e=.returned (fv (one s.data.toList 0))/\Below w.heap.size w w':=by
 have hl:=Lib.size_eq s;obtain⟨R,hR⟩:∃R,one s.data.toList 0=R:=⟨_,rfl⟩
 rw[hR];have HR:Hid _:=hR;have z:∀a:Obj,Below w.heap.size w (w.alloc a):=λa=>(Below.refl _ w).alloc jA _;have ah:Hid _:=z;clear hR z;by_cases h8:s.size<8
 ·obtain rfl:R=none:=HR.out.symm.trans (wY (by omega));have ay:(s.size:Int)<8:=by omega
  clear hl;go_enter (fq Tryz.func142 rfl),Tryz.ntmps142;go_wp2_with fail;exact bodyPost_ret (v:=fv none) (by simp[results,Tryz.results142,go_sem,fv]) rfl ⟨rfl,ah.out _⟩
 ·have ay:¬(s.size:Int)<8:=by omega
  have e6:big (s.extract 6 8).data.toList 0 (s.extract 6 8).size=big s.data.toList 6 2:=by
   rw[ext_list,show(s.extract 6 8).size=2 from by simp[eG];omega];exact uF s.data.toList 6 2
  have e4:big (s.extract 4 6).data.toList 0 (s.extract 4 6).size=big s.data.toList 4 2:=by
   rw[ext_list,show(s.extract 4 6).size=2 from by simp[eG];omega];exact uF s.data.toList 4 2
  have e0:big (s.extract 0 4).data.toList 0 (s.extract 0 4).size=big s.data.toList 0 4:=by
   rw[ext_list,show(s.extract 0 4).size=4 from by simp[eG];omega];exact uF s.data.toList 0 4
  have n6:=λu:World=>nC (s.extract 6 8) u (by simp[eG];omega);have n4:=λu:World=>nC (s.extract 4 6) u (by simp[eG];omega);have n0:=λu:World=>nC (s.extract 0 4) u (by simp[eG];omega);rw[e6]at n6;rw[e4]at n4;rw[e0]at n0;clear e6 e4 e0;have l6:=oQ s.data.toList 6 2;have l0:=oQ s.data.toList 0 4;have l4:=oQ s.data.toList 4 2;simp only[Nat.reducePow]at l6 l0 l4;have I:s.size≠8->one s.data.toList 0=_:=λh=>OG (s:=s.data.toList) (p:=0) (by omega);simp only[fC]at I;generalize hN:big s.data.toList 6 2=N at *;generalize a2:big s.data.toList 0 4=C4 at *;generalize av:big s.data.toList 4 2=C2 at *;have N6:Hid _:=n6;have N4:Hid _:=n4;have N0:Hid _:=n0;have J:Hid _:=I;have Hl:Hid _:=hl;clear n6 n4 n0 I hl hN a2 av;go_enter (fq Tryz.func142 rfl),Tryz.ntmps142;go_wp2_with fail;obtain⟨X,hX,-,ae⟩:=jE w #[.int .u32 0,.int .u16 0,.string ⟨#[]⟩,.bool false] 81;have af:Below w.heap.size w X:=by rw[hX];exact ah.out _
  rw[<-hX];clear hX;refine(N6.out X).mono ?_;rintro e w1 ⟨rfl,z⟩;have hz:=(z.block _ (jC ae)).trans ae;have hb:=af.trans (z.mono af.size);clear z ae af X;obtain⟨z0,z1,z2,z3⟩:=cells4 hz;have fz:=Lib.frozen_of_heap hz;by_cases hn:s.size<9+N
  ·have aw:(s.size:Int)<8+(N:Int)+1:=by omega
   obtain rfl:R=none:=HR.out.symm.trans (by
    by_cases h:s.size=8
    ·exact wY (by rw[<-Hl.out];omega)
    ·rw[J.out h,if_pos (by rw[<-Hl.out];exact hn)])
   have Hb:Hid _:=hb;clear hb hz;go_wp2_with fail;exact bodyPost_ret (v:=fv none) (by simp[results,Tryz.results142,go_sem,fv,z0,z1,z2,z3]) rfl ⟨rfl,wu Hb.out _ jA _ _ _ _⟩
  ·have aw:¬(s.size:Int)<8+(N:Int)+1:=by omega
   have ak:8+N<s.size:=by omega
   have a0:=λu=>qx u s (8+(N:Int)) (8+N) ak (by omega);have ao:=getD_byte s (8+N) ak;obtain⟨c,hc⟩:∃c:Nat,s[8+N].toNat=c:=⟨_,rfl⟩
   have a9:c<256:=by rw[<-hc];exact UInt8.toNat_lt _
   rw[hc]at a0;have aa:=J.out (by omega);rw[if_neg (by rw[<-Hl.out];omega),ao,hc]at aa;have Y:Hid _:=aa;clear ao hc aa J;by_cases ap:1<c
   ·have ai:(1:Int)<(c:Int):=by omega
    obtain rfl:R=none:=HR.out.symm.trans (by rw[Y.out,if_pos ap]);have Hb:Hid _:=hb;clear hb hz;go_wp2_with fail;exact bodyPost_ret (v:=fv none) (by simp[results,Tryz.results142,go_sem,fv,z0,z1,z2,z3]) rfl ⟨rfl,wu Hb.out _ jA _ _ _ _⟩
   ·have ai:¬(1:Int)<(c:Int):=by omega
    obtain⟨lb,a3⟩:∃lb:Bool,((c:Int) == 1)=lb:=⟨_,rfl⟩
    have ab:(c == 1)=lb:=by
     rw[<-a3];rcases(by omega:c=0\/c=1)with rfl|rfl<;>rfl
    obtain⟨D,hD⟩:∃D:ByteArray,s.extract 8 (8+N)=D:=⟨_,rfl⟩
    have aj:(⟨((s.data.toList.take (8+N)).drop 8).toArray⟩:ByteArray)=D:=by rw[<-hD,<-ext_list]
    have am:D.size<=16777216:=by rw[<-hD];simp[eG];omega
    have an:fv R=.tuple #[.agg #[.int .u32 C4,.int .u16 C2,.string D,.bool lb],.int .i64 (8+(N:Int)+1),.bool true]:=by
     rw[<-HR.out,Y.out,if_neg ap,ab];simp only[fv,aj]
     congr 5
     omega
    have NC:Hid _:=λu:World=>clone_any D u am;have au:Hid _:=an;have Hb:Hid _:=hb;have Hz:Hid _:=hz;have a5:IntKind.u16.wrap (C2:Int)=C2:=by rw[IntKind.wrap_u16];omega
    have ax:(0:Int)<=8:=by omega
    have z:(8:Int)<=8+(N:Int):=by omega
    have ac:8+(N:Int)<=s.size:=by omega
    have ar:s.extract (8:Int).toNat (8+(N:Int)).toNat=D:=by rw[<-hD];congr 1
    have aq:∀u:World,(Instr.slice 9 (.string s) (some (.int .i64 8)) (some (.int .i64 (8+(N:Int)))) none).run PQ u=.ok (.string D) u:=λu=>by rw[run_slice_string u _ s .i64 .i64 _ _ (uq Tryz.underlying9) ax z ac,ar]
    have ba:IntKind.i64.wrap (8+(N:Int)+1-1)=8+(N:Int):=by rw[IntKind.wrap_i64];omega
    have a4:IntKind.i64.wrap (8+(N:Int))=8+(N:Int):=by rw[IntKind.wrap_i64];omega
    have a6:8+(N:Int)+1-1=8+(N:Int):=by omega
    have a8:(4:Int)<=(s.size:Int):=by omega
    have a7:(6:Int)<=(s.size:Int):=by omega
    clear hb hz an ab aj am Y;go_upto_region 6 with fail;have hb:=Hb.out;have hz:=Hz.out;clear z0 z1 z2 z3 fz Hb Hz;go_region_held3 (λ_=>True) (trivial) (first|(go_at_call 194;first|((with_reducible refine Calls.mono (N0.out _) ?_);rintro e w2 ⟨rfl,ac⟩)|((with_reducible refine Calls.mono (N4.out _) ?_);rintro e w3 ⟨rfl,az⟩))|(go_at_call 151;((with_reducible refine Calls.mono (NC.out _) ?_);rintro e w4 ⟨rfl,a1⟩;obtain⟨ag,E⟩:=X8 hb hz ac az a1;have HB:Hid (Below w.heap.size w w4):=ag;have z0:w4.cell? ⟨w.heap.size,0,none⟩=some (.int .u32 0):=(by rw[Lib.cell_of_heap E];rfl);have z1:w4.cell? ⟨w.heap.size,1,none⟩=some (.int .u16 0):=(by rw[Lib.cell_of_heap E];rfl);have z2:w4.cell? ⟨w.heap.size,2,none⟩=some (.string ⟨#[]⟩):=(by rw[Lib.cell_of_heap E];rfl);have z3:w4.cell? ⟨w.heap.size,3,none⟩=some (.bool false):=(by rw[Lib.cell_of_heap E];rfl);have fz:=Lib.frozen_of_heap E;clear E ag)))
    all_goals
     go_wp2_with fail;exact bodyPost_ret (v:=fv R) (by rw[au.out];simp[results,Tryz.results142,go_sem,z0,z1,z2,z3]) rfl ⟨rfl,wu HB.out _ jA _ _ _ _⟩
end
end Fr
namespace Fr
open Go.RowKit Go.Joins
attribute [local go_sem] Oper.semAt_some
structure X where
 e:Nat
 f:F
def X.encs(x:X):Array Value:=#[.int .i64 x.e,.agg #[.int .u32 x.f.chan,.int .u16 x.f.num,.string ⟨x.f.data.toArray⟩,.bool x.f.last]]
def mP(l:List X):Nat:=l.foldl (λ_ x=>x.e) 0
theorem lg(l:List X)(x:X):mP (l++[x])=x.e:=by simp[mP]
def XY(z:List X)(_:X)(_:Nat)(_:World):Prop:=z.length<1048576
inductive Ic(s:List UInt8):List F->Nat->Prop
 |nil:Ic s [] 0
 |snoc {l:List F} {p:Nat} {x:F} {n:Nat}:Ic s l p->one s p=some (x,n)->Ic s (l++[x]) (p+n)
theorem Ic.le{s:List UInt8}{l:List F}{p:Nat}(h:Ic s l p):p<=s.length/\l.length<=p:=by
 induction h with
 |nil=>exact⟨dF _,jA⟩
 |snoc h ho ih=>
  have:=one_le ho;simp only[aJ,aN,bM];omega
def Done(s:ByteArray)(xs:List X):Prop:=∃p,Ic s.data.toList (xs.map X.f) p/\mP xs=p/\one s.data.toList p=none
def Left(s:ByteArray)(xs:List X):Prop:=∃p,Ic s.data.toList (xs.map X.f) p/\mP xs=p
theorem Ea(s:ByteArray)(w:World):
  Calls PQ 94 #[.string s] w λe w'=>e=.returned (.func (.func 141) #[] #[.pointer (some ⟨w.heap.size,0,none⟩)])/\w'=w.alloc (.cells #[.string s] 9):=by
 go_enter (fq Tryz.func94 rfl),Tryz.ntmps94;go_wp2_with fail;go_ret;exact⟨rfl,rfl⟩
theorem sJ(s:ByteArray)(sB:Nat)(w:World)(hs:s.size<=1048576)(ag:w.cell? ⟨sB,0,none⟩=some (.string s))(am:sB<w.heap.size):
  Gives PQ 141 #[.pointer (some ⟨sB,0,none⟩)] X.encs (λk=>k=sB) XY (Done s) (Left s) w:=by
 intro l J Jx W hW af ai;have HY:Hid _:=af;have an:Hid _:=ai;clear af ai;refine callsIn_of_wp (fq Tryz.func141 rfl) rfl trivial ?_ rfl;simp only[Tryz.ntmps141,dL,aN,bM,Nat.reduceAdd,Nat.reduceSub,cO,bZ,dN,cZ,dM,dH];gi_wp2
 gi_loopw [3] (λt wr=>∃(E:List X)(W0:World)(p:Nat),t=.int .i64 p/\Hid (Ic s.data.toList (E.map X.f) p/\mP E=p/\p<=s.size/\E.length<=p/\J E W0/\Below W0.heap.size W0 wr/\sB<wr.heap.size)/\wr.cell? ⟨sB,0,none⟩=some (.string s))
  (λt wr=>s.size-(intOf t).toNat)
 case atStart=>
  have:=hW.size;exact⟨[],W,0,rfl,⟨Ic.nil,rfl,dF _,jA,an.out,Below.refl _ _,by omega⟩,(hW.cell (p:=⟨sB,0,none⟩) am).trans ag⟩
 case round=>
  obtain⟨E,W0,p,rfl,Hr,c0⟩:=hrel;clear ag;have ar:=Hr.out.2.2.1;have ap:(s.extract p s.size).size<=16777216:=by simp;omega
  have ac:(s.extract p s.size).data.toList=s.data.toList.drop p:=by rw[ext_list,dV (by rw[<-Lib.size_eq];omega)]
  have R:=first_any (s.extract p s.size) wr ap;rw[ac,<-wP _ _ (by rw[<-Lib.size_eq];exact ar)]at R;have aj:=Hr.out.2.2.2.2.2.2;generalize hC:one s.data.toList p=C at R;have ae:Hid _:=R;have HC:Hid _:=hC;have ax:(0:Int)<=(p:Int):=by omega
  have av:(p:Int)<=s.size:=by omega
  clear R hC ac;gi_wp2;refine⟨trivial,(callsIn_wide.2 ae.out).mono ?_⟩;rintro e w1 ⟨rfl,I⟩;obtain⟨he,Y,_,ak,hJ,aa,_⟩:=Hr.out;have z:=aa.trans (I.mono aa.size);have c1:=(I.cell (p:=⟨sB,0,none⟩) aj).trans c0;cases C with
  |none=>
   simp only[fv];have HE:Hid _:=jw he (jw Y (jw hJ z));clear he Y hJ aa z I ak;gi_wp2;refine bodyPost_ret (results_none rfl _ _ _) rfl ?_;obtain⟨he,Y,hJ,z⟩:=HE.out;exact⟨⟨_,rfl⟩,.inl ⟨E,W0,⟨p,he,Y,HC.out⟩,hJ,z.alloc z.size _⟩⟩
  |some x=>
   obtain⟨f,n⟩:=x;have ho:=one_le HC.out;rw[<-Lib.size_eq]at ho;simp only[fv];obtain⟨G,hG⟩:∃G:World,G=w1.alloc (.cells #[.int .u32 f.chan,.int .u16 f.num,.string ⟨f.data.toArray⟩,.bool f.last] 81):=⟨_,rfl⟩
   have ab:Below W0.heap.size W0 G:=by rw[hG];exact z.alloc z.size _
   have g0:G.cell? ⟨w1.heap.size,0,none⟩=some (.int .u32 f.chan):=by rw[hG];simp
   obtain⟨fn,tmps,assign,body,hy,hR⟩:=HY.out E ⟨p+n,f⟩ W0 G hJ ab (by unfold XY;omega);simp only[X.encs,Int.natCast_add]at hy;have HR:Hid _:=hR;have HE:Hid _:=jw he (jw Y (jw hJ (jw ab I)));have c2:G.heap[sB]? =wr.heap[sB]?:=by rw[hG,Below.heap_alloc _ _ _ (by have:=I.size;omega)];exact I.block _ aj
   have s2:G.heap.size=w1.heap.size+1:=by rw[hG];simp
   have s1:=I.size;clear hR he Y hJ aa z I ab g0;have au:(p:Int)+(n:Int)<=16777216:=by omega
   rw[hG]at hy;gi_wp2;rw[<-hG];refine RoundIn.mono HR.out ?_;rintro e W3 (⟨rfl,ao,aw,aq⟩|⟨rfl,ah⟩)
   ·gi_wp2;go_roundw
    case rel=>
     obtain⟨he,Y,hJ,ab,I⟩:=HE.out;have q1:=aq sB rfl;refine⟨E++[⟨p+n,f⟩],W3,p+n,by simp,⟨?_,lg _ _,ho.2,by simp;omega,ao,Below.refl _ _,by omega⟩,?_⟩
     ·rw[aY];exact Ic.snoc he HC.out
     ·exact(World.cell?_of_block (q1.trans c2)).trans c0
    case measure=>simp[intOf];omega
   ·gi_wp2;refine bodyPost_ret (results_none rfl _ _ _) rfl ?_;refine⟨⟨_,rfl⟩,.inr ⟨E++[⟨p+n,f⟩],W3,⟨p+n,?_,lg _ _⟩,ah,Below.refl _ _⟩⟩;rw[aY];exact Ic.snoc HE.out.1 HC.out
end Fr
namespace Fr
open Go.RowKit Go.Joins
attribute [local go_sem] Oper.semAt_some
variable {s:List UInt8}{l:List F}{A B:World}{row:Option Nat}
theorem TG:(PQ.info? 81).map (λi=>(i.zero,i.size,i.bytes))=some (some (.agg #[.int .u32 0,.int .u16 0,.string ⟨#[]⟩,.bool false]),4,32):=by kernel_rfl
theorem I5(s:List UInt8)(p:Nat)(hp:p+1<=s.length):one s (p+1)=one (s.drop 1) p:=by
 rw[wP s (p+1) hp,wP (s.drop 1) p (by rw[dP];omega),gZ,Nat.add_comm 1 p]
theorem Ic.aaX(hs:1<=s.length){p:Nat}(h:Ic (s.drop 1) l p):qy s l (p+1):=by
 induction h with
 |nil=>exact qy.nil
 |@snoc l p x n h ho ih=>
  have z:=one_le ho;rw[dP]at z;rw[show p+n+1=p+1+n from by omega];exact qy.snoc ih (by omega) (by rw[I5 s p (by omega)];exact ho)
theorem uT(hs:1<=s.length)(R:s.getD 0 0=0){p:Nat}(E:Ic (s.drop 1) l p)(Y:one (s.drop 1) p=none):
  frames s=if l.length=0\/p<s.length-1 then none else some l:=by
 have J:=E.aaX hs;have I:=E.le;rw[dP]at I;by_cases h2:s.length<2
 ·rw[rE (.inl h2),if_pos (.inl (by omega))]
 ·have z:¬(s.length<2\/s.getD 0 0≠0):=by
   rintro(h|h)
   ·exact h2 h
   ·exact h R
  by_cases hp:p<s.length-1
  ·rw[if_pos (.inr hp)];exact J.stuck z (by omega) (by rw[I5 s p (by omega)];exact Y)
  ·rw[if_neg]
   ·exact J.all z (by omega)
   ·rintro(h|h)
    ·cases E with
     |nil=>omega
     |snoc=>simp at h
    ·exact hp h
def FI(T:ByteArray)(E:Nat)(w:World)(z:List X)(W:World):Prop:=
 ∃a cap,Boxed W E 76 (.slice a z.length cap)/\Boxed W (E+1) 3 (.int .i64 (mP z))/\Boxed W (E+1+1) 9 (.string T)/\W.ownsRow E 81 4 (.slice a z.length cap) z.length (flat (z.map X.f))/\Below E w W
theorem kC(J:A.grownBy B row)(I:∀r,row=some r->∃o:Obj,A.heap[r]? =some o/\o.isCells=false):∀(k:Nat)(o:Obj),A.heap[k]? =some o->o.isCells=true->B.heap[k]? =some o:=by
 intro k o hk E;refine(J.block k (jC hk) (λe=>?_)).trans hk;obtain⟨o',z,h2⟩:=I k e.symm;rw[hk]at z;cases z;rw[E]at h2;cases h2
theorem cells_kept(I:A.grownBy B row){n:Nat}(E:∀r,row=some r->n<=r/\∃o:Obj,A.heap[r]? =some o/\o.isCells=false){k:Nat}{o:Obj}(hk:A.heap[k]? =some o)(z:o.isCells=true):B.heap[k]? =some o:=
 kC I (λr e=>(E r e).2) k o hk z
theorem FI.own(T:ByteArray)(Y:Nat)(w:World):OwnFrom (Y+3) (FI T Y w):=by
 rintro ab A B row ⟨a,cap,R,h2,I,h3,h4⟩ z E;have aa:=R.lt;refine⟨a,cap,cells_kept z E R rfl,cells_kept z E h2 rfl,cells_kept z E I rfl,nT h3 (λg J=>?_),h4.grown z (by omega) (λk e=>by have:=(E k e).1;omega)⟩;obtain⟨ac,hc⟩:=NZ h3 g J;rw[hc];exact cells_kept z E hc rfl
theorem kF{W:World}{B:Nat}{t:TypeId}{v:Value}(h:Boxed W B t v)(a:Addr)(x:Value)(z:B≠a.block):Boxed (W.setCell a x) B t v:=(Below.heap_setCell _ _ _ _ z).trans h
theorem Jy(s:ByteArray)(w:World)(hs:s.size<=1048576)(ah:0<s.size)(h0:s[0].toNat=0):
  Calls PQ 59 #[.string s] w λe w'=>ZE w.heap.size w' e (frames s.data.toList)/\Below w.heap.size w w':=by
 have hx:=λu=>qx u s 0 0 ah rfl;rw[h0]at hx;have ag:s.data.toList.getD 0 0=0:=by rw[getD_byte s 0 ah];exact jr.1 h0
 obtain⟨T,hT⟩:∃T:ByteArray,s.extract 1 s.size=T:=⟨_,rfl⟩
 have af:T.data.toList=s.data.toList.drop 1:=by rw[<-hT,ext_list,dV (by rw[<-Lib.size_eq];omega)]
 have a7:T.size=s.size-1:=by rw[<-hT];simp[eG]
 have a3:s.toList.isEmpty=false:=by rw[toList_empty];exact decide_eq_false (by omega)
 have a5:(1:Int)<=(s.size:Int):=by omega
 have ac:Hid _:=jw ag af;clear ag af h0;refine callsIn_wide.1 (callsIn_of_wp_marks (n:=3) (fq Tryz.func59 rfl) rfl trivial ?_ rfl);simp only[Tryz.ntmps59,dL,aN,bM,Nat.reduceAdd,Nat.reduceSub,cO,bZ,dN,cZ,dM,dH];gi_wp2;refine⟨trivial,(callsIn_wide.2 (Ea T _)).mono ?_⟩;rintro e w' ⟨rfl,rfl⟩;gi_wp2;obtain⟨V,hV⟩:∃V:World,V=((w.alloc (Obj.cells #[.slice none 0 0] 76)).alloc (Obj.cells #[.int .i64 0] 3)).alloc (Obj.cells #[Value.string T] 9):=⟨_,rfl⟩
 rw[<-hV];have au:V.heap.size=w.heap.size+3:=by rw[hV];simp
 have ay:Below w.heap.size w V:=by rw[hV];exact(((Below.refl _ w).alloc jA _).alloc (by simp) _).alloc (by simp;omega) _
 have I:∀(a b c:Obj)(k:Nat),((((w.alloc a).alloc b).alloc c).heap[k]?)=if k=w.heap.size+2 then some c else if k=w.heap.size+1 then some b else if k=w.heap.size then some a else w.heap[k]?:=by
  intro a b c k;simp only[World.alloc,gY,Array.size_push]
 have v0:Boxed V w.heap.size 76 (.slice none 0 0):=by unfold Boxed;rw[hV,I];simp
 have v1:Boxed V (w.heap.size+1) 3 (.int .i64 0):=by unfold Boxed;rw[hV,I];simp
 have v2:Boxed V (w.heap.size+1+1) 9 (.string T):=by
  have:Boxed V (w.heap.size+2) 9 (.string T):=by unfold Boxed;rw[hV,I];simp
  exact this
 clear hV I;obtain⟨i0,hi,aq,ax,av⟩:=info_parts TG
 refine tJ (gf:=141) (lb:=#[.pointer (some ⟨w.heap.size+1+1,0,none⟩)]) rfl (enters_of (fq Tryz.func141 rfl) (by kernel_rfl) rfl)
  (sJ T (w.heap.size+1+1) V (by omega) v2.cell (by omega)) (Below.refl _ _) (by intro k hk;omega) (λ_ _ _ _ _ _ _ h=>h) (λ_=>rfl)
  (FI T w.heap.size w) (λ_ _ _=>False) (by rw[au];exact FI.own T w.heap.size w) (λ_ _ _ _ _ h=>h.elim)
  ⟨none,0,v0,v1,v2,World.ownsRow_nil _ _ _ _,ay⟩
  (λx B=>{ tmps:=#[.string s,undef,.slice none 0 0,.bool false,.string T,.pointer (some ⟨w.heap.size,0,none⟩),.pointer (some ⟨w.heap.size+1,0,none⟩),.int .i64 x.e,.pointer (some ⟨B,0,none⟩),.string s,.bool false,.bool false,.string s,.int .u8 0,.bool false,.bool false,.string s,.string T,.string T,.func (.func 141) #[] #[.pointer (some ⟨w.heap.size+1+1,0,none⟩)],.int .i64 x.e,.agg #[.int .u32 x.f.chan,.int .u16 x.f.num,.string ⟨x.f.data.toArray⟩,.bool x.f.last],undef,undef,undef,undef,undef,undef,undef,undef,undef,undef,undef,undef,undef,undef,undef],defers:=[] })
  (λx=>.cells #[.int .u32 x.f.chan,.int .u16 x.f.num,.string ⟨x.f.data.toArray⟩,.bool x.f.last] 81) ?assign ?body ?done ?stop
 case assign=>
  intro l x W K hK;simp only[X.encs];gi_wp2;exact hK
 case body=>
  rintro l z x W0 W1 a1 ⟨a,cap,b0,b1,b2,q,aa⟩ hb ak;have s1:=hb.size;have ak:z.length<1048576:=ak;obtain⟨IB,ai⟩:∃IB:ByteArray,(⟨x.f.data.toArray⟩:ByteArray)=IB:=⟨_,rfl⟩
  rw[ai];obtain⟨G,hG,gb,-⟩:=jE W1 #[.int .u32 x.f.chan,.int .u16 x.f.num,.string IB,.bool x.f.last] 81;rw[<-hG];have gs:G.heap.size=W1.heap.size+1:=by rw[hG];simp
  have R:Below W0.heap.size W0 G:=hb.trans (gb.mono s1);have k0:G.cell? ⟨W1.heap.size,0,none⟩=some (.int .u32 x.f.chan):=by rw[hG];simp
  have k1:G.cell? ⟨W1.heap.size,1,none⟩=some (.int .u16 x.f.num):=by rw[hG];simp
  have k2:G.cell? ⟨W1.heap.size,2,none⟩=some (.string IB):=by rw[hG];simp
  have k3:G.cell? ⟨W1.heap.size,3,none⟩=some (.bool x.f.last):=by rw[hG];simp
  clear hG;have c0:Boxed G w.heap.size 76 (.slice a z.length cap):=(R.block _ b0.lt).trans b0;have c1:Boxed G (w.heap.size+1) 3 (.int .i64 (mP z)):=(R.block _ b1.lt).trans b1;have c2:Boxed G (w.heap.size+1+1) 9 (.string T):=(R.block _ b2.lt).trans b2;have m0:=c0.cell;have bG:Below w.heap.size w G:=aa.trans (R.mono aa.size);have sG:=c0.lt;have an:G.ownsRow w.heap.size 81 4 (.slice a z.length cap) z.length (flat (z.map X.f)):=own_below q R;have Hc:Hid _:=jw c0 (jw c1 (jw c2 (jw an bG)));clear c0 c1 c2 an bG b0 b1 b2 q aa hb gb R;gi_wp2_with (gi_at_builtin;refine wpListIn_append_own _ (by rfl) (.tmp 22) (.tmp 24) 76 (by rfl) w.heap.size 81 i0 _ 4 32 (uq Tryz.underlying76) hi aq ax av (by rfl) (by decide) _ z.length (flat (z.map X.f)) (by rfl) (own_below Hc.out.2.2.2.1 ((Below.refl _ G).alloc jA _)) ⟨W1.heap.size+1,0,none⟩ 1 1 [.int .u32 x.f.chan,.int .u16 x.f.num,.string IB,.bool x.f.last] (by rfl) (by rfl) (by intro j u Y;rw[<-gs];match j,Y with|0,Y=>(simp at Y;subst Y;simp[Addr.add])|1,Y=>(simp at Y;subst Y;simp[Addr.add])|2,Y=>(simp at Y;subst Y;simp[Addr.add])|3,Y=>(simp at Y;subst Y;simp[Addr.add])) (by intro u hu;simp at hu;rcases hu with rfl|rfl|rfl|rfl<;>rfl) (by unfold maxLen;omega) (by omega) (by simp;omega) ?_;intro v' w4 E J _;obtain⟨e0,e1,e2,e3,e4⟩:=Boxed.appended (n₀:=w.heap.size) Hc.out.1 (by decide) Hc.out.2.2.2.1 (by omega) jA E J;have d1:=(Hc.out.2.1.alloc _).kept J (Hc.out.2.1.not_row (by decide) Hc.out.2.2.2.1);have d2:=(Hc.out.2.2.1.alloc _).kept J (Hc.out.2.2.1.not_row (by decide) Hc.out.2.2.2.1);obtain⟨g,ab,rfl⟩:=wH E (by omega);have n0:=e0.cell;have n1:=e0.frozen;have n2:=d1.cell;have n3:=d1.frozen;have HF:Hid _:=jw e1 (jw e2 (jw e3 (jw e4 (jw d1 d2))));clear e0 e1 e2 e3 e4 d1 d2 E J)
  obtain⟨e1,e2,e3,e4,d1,d2⟩:=HF.out;obtain⟨_,_,c2,_,bG⟩:=Hc.out;have aj:=kF d1 ⟨w.heap.size,0,none⟩ (.slice (some ⟨g,0,none⟩) (z.length+1) ab) (by simp);have am:=kF (kF d2 ⟨w.heap.size,0,none⟩ (.slice (some ⟨g,0,none⟩) (z.length+1) ab) (by simp;omega)) ⟨w.heap.size+1,0,none⟩ (.int .i64 x.e) (by simp);refine⟨KeepsOthers.from (e3.trans (KeepsOthers.setCell _ _ _)) _,λk hk=>?_,some ⟨g,0,none⟩,ab,?_,?_,am,?_,?_⟩
  ·subst hk;exact Eq.trans am (Eq.symm c2)
  ·rw[show(z++[x]).length=z.length+1 from by simp];exact kF e1 _ _ (by simp)
  ·rw[lg];exact Boxed.set _ aj
  ·rw[show(z++[x]).length=z.length+1 from by simp,aY,tN];simp only[dW,fG,flat,qN,fU];rw[ai];exact nT e2 (λg' ar=>Below.heap_setCell _ _ _ _ (λe=>(aj.not_row (by decide) e2) (by rw[ar,e])))
  ·exact(bG.trans e4).setCell (by simp) _
 case done=>
  rintro D xs W0 W hD ap ⟨p,ha,hl,hn⟩ ⟨a,cap,b0,b1,b2,q,aa⟩ hb hK;have a6:=b2.lt;have ae:=uT (s:=s.data.toList) (by rw[<-Lib.size_eq];omega) ac.out.1 (l:=xs.map X.f) (p:=p) (by rw[<-ac.out.2];exact ha) (by rw[<-ac.out.2];exact hn);rw[aU,<-Lib.size_eq]at ae;have s1:=hb.size;have c0:Boxed W w.heap.size 76 (.slice a xs.length cap):=(hb.block _ b0.lt).trans b0;have c1:Boxed W (w.heap.size+1) 3 (.int .i64 (mP xs)):=(hb.block _ b1.lt).trans b1;have qW:W.ownsRow w.heap.size 81 4 (.slice a xs.length cap) xs.length (flat (xs.map X.f)):=own_below q hb;have bW:Below w.heap.size w W:=aa.trans (hb.mono aa.size);rw[hl]at c1;have m0:=c0.cell;have m1:=c1.cell
  have a4:xs.length<=1048576:=by
   have:=ha.le;rw[<-Lib.size_eq,aU]at this;omega
  have a0:p<=1048576:=by
   have:=ha.le;rw[<-Lib.size_eq]at this;omega
  have ao:=grownBy_putObj' W D (.deferred none);have bF:Below w.heap.size w (W.putObj D (.deferred none)):=bW.grown ao (by omega) (λk e=>by cases e;omega)
  have qF:(W.putObj D (.deferred none)).ownsRow w.heap.size 81 4 (.slice a xs.length cap) xs.length (flat (xs.map X.f)):=nT qW (λg hg=>World.putObj_heap_other (λe=>by
   obtain⟨a2,hc⟩:=NZ qW g hg;subst e;rw[hK]at hc;cases hc))
  have HF:Hid _:=jw ae (jw bF qF);clear ae bF qF qW bW c0 c1 ao ha hn;by_cases h0:xs.length=0
  ·have aw:((xs.length:Int) == 0)=true:=by simp[h0]
   gi_wp2;refine⟨by simp,.inl ⟨_,_,rfl,run_takeDeferred hK,?_⟩⟩;refine⟨.tuple #[.slice none 0 0,.bool false],by simp[results,Tryz.results59,go_sem],?_,HF.out.2.1⟩;rw[HF.out.1,if_pos (.inl h0)];rfl
  ·have aw:((xs.length:Int) == 0)=false:=beq_false_of_ne (by omega);by_cases h1:p<s.size-1
   ·have az:(p:Int)<T.size:=by omega
    gi_wp2;refine⟨by simp,.inl ⟨_,_,rfl,run_takeDeferred hK,?_⟩⟩;refine⟨.tuple #[.slice none 0 0,.bool false],by simp[results,Tryz.results59,go_sem],?_,HF.out.2.1⟩;rw[HF.out.1,if_pos (.inr h1)];rfl
   ·have az:¬(p:Int)<T.size:=by omega
    gi_wp2;refine⟨by simp,.inl ⟨_,_,rfl,run_takeDeferred hK,?_⟩⟩;refine⟨.tuple #[.slice a xs.length cap,.bool true],by simp[results,Tryz.results59,go_sem],?_,HF.out.2.1⟩;rw[HF.out.1,if_neg (by rintro(h|h);exact h0 h;exact h1 h)];refine⟨a,cap,by rw[aU],?_⟩;rw[aU];exact HF.out.2.2
 case stop=>
  rintro D c z W0 W hD ap _ h;exact h.elim
theorem Uu(s:ByteArray)(w:World)(hs:s.size<=1048576):Calls PQ 59 #[.string s] w λe w'=>ZE w.heap.size w' e (frames s.data.toList)/\Below w.heap.size w w':=by
 by_cases J:s.size=0
 ·rw[rE (.inl (by rw[<-Lib.size_eq];omega))];have E:s.toList.isEmpty=true:=by rw[toList_empty];exact decide_eq_true J
  refine callsIn_wide.1 (callsIn_of_wp_marks (n:=3) (fq Tryz.func59 rfl) rfl trivial ?_ rfl);simp only[Tryz.ntmps59,dL,aN,bM,Nat.reduceAdd,Nat.reduceSub,cO,bZ,dN,cZ,dM,dH];gi_wp2;exact⟨.tuple #[.slice none 0 0,.bool false],by simp[results,Tryz.results59,go_sem],rfl,Below.refl _ _⟩
 ·have z:0<s.size:=by omega
  by_cases I:s[0].toNat=0
  ·exact Jy s w hs z I
  ·rw[rE (.inr (by rw[getD_byte s 0 z];intro h;exact I (by rw[h];rfl)))];have E:s.toList.isEmpty=false:=by rw[toList_empty];exact decide_eq_false (by omega)
   have Y:=λu=>qx u s 0 0 z rfl;have R:((s[0].toNat:Int) == 0)=false:=by simp;omega
   generalize s[0].toNat=c at *;refine callsIn_wide.1 (callsIn_of_wp_marks (n:=3) (fq Tryz.func59 rfl) rfl trivial ?_ rfl);simp only[Tryz.ntmps59,dL,aN,bM,Nat.reduceAdd,Nat.reduceSub,cO,bZ,dN,cZ,dM,dH];gi_wp2;exact⟨.tuple #[.slice none 0 0,.bool false],by simp[results,Tryz.results59,go_sem],rfl,Below.refl _ _⟩
end Fr
namespace Cr
open Go
abbrev link:Go.Conc.Lib.WgLink:={ add:=107,done:=109,wait:=111,relMerge:=153,disable:=154,enable:=155,inBubble:=156,associate:=157,fatal:=158,uOr:=159,uAdd:=160,raceRead:=161,uLoad:=162,uStore:=163,disassociate:=164,semrelease:=165,acquire:=166,isAssociated:=167,uCas:=168,raceWrite:=169,semacquire:=170,orU64:=199,addU64:=200,loadU64:=201,storeU64:=202,casU64:=203,tWgP:=251,tUP:=253,tAssoc:=254,tWg:=211,tAU:=209,tU64:=207,tUint:=154,tU32:=22,tPU32:=258,tPAU:=289,tPU64:=291,tNoCopy:=204,tANoCopy:=205,tAlign64:=206 }
theorem wgLib:Go.Conc.Lib.WgLib Tryz.prog link:=
 ⟨Tryz.func107,Tryz.func109,Tryz.func111,Tryz.func153,Tryz.func154,Tryz.func155,Tryz.func156,Tryz.func157,Tryz.func158,Tryz.func159,Tryz.func160,Tryz.func161,Tryz.func162,Tryz.func163,Tryz.func164,Tryz.func165,Tryz.func166,Tryz.func167,Tryz.func168,Tryz.func169,Tryz.func170,Tryz.func199,Tryz.func200,Tryz.func201,Tryz.func202,Tryz.func203,Tryz.underlying251,Tryz.runUnderlying251,Tryz.sizeOf251,Tryz.isAgg251,Tryz.zeroValue251,Tryz.underlying253,Tryz.runUnderlying253,Tryz.sizeOf253,Tryz.isAgg253,Tryz.zeroValue253,Tryz.underlying254,Tryz.runUnderlying254,Tryz.sizeOf254,Tryz.isAgg254,Tryz.zeroValue254,Tryz.underlying211,Tryz.runUnderlying211,Tryz.sizeOf211,Tryz.isAgg211,Tryz.zeroValue211,Tryz.underlying209,Tryz.runUnderlying209,Tryz.sizeOf209,Tryz.isAgg209,Tryz.zeroValue209,Tryz.underlying207,Tryz.runUnderlying207,Tryz.sizeOf207,Tryz.isAgg207,Tryz.zeroValue207,Tryz.underlying154,Tryz.runUnderlying154,Tryz.sizeOf154,Tryz.isAgg154,Tryz.zeroValue154,Tryz.underlying22,Tryz.runUnderlying22,Tryz.sizeOf22,Tryz.isAgg22,Tryz.zeroValue22,Tryz.underlying258,Tryz.runUnderlying258,Tryz.sizeOf258,Tryz.isAgg258,Tryz.zeroValue258,Tryz.underlying289,Tryz.runUnderlying289,Tryz.sizeOf289,Tryz.isAgg289,Tryz.zeroValue289,Tryz.underlying291,Tryz.runUnderlying291,Tryz.sizeOf291,Tryz.isAgg291,Tryz.zeroValue291,Tryz.underlying0,Tryz.runUnderlying0,Tryz.sizeOf0,Tryz.isAgg0,Tryz.zeroValue0,Tryz.underlying3,Tryz.runUnderlying3,Tryz.sizeOf3,Tryz.isAgg3,Tryz.zeroValue3,Tryz.underlying4,Tryz.runUnderlying4,Tryz.sizeOf4,Tryz.isAgg4,Tryz.zeroValue4,Tryz.underlying9,Tryz.runUnderlying9,Tryz.sizeOf9,Tryz.isAgg9,Tryz.zeroValue9,Tryz.underlying20,Tryz.runUnderlying20,Tryz.sizeOf20,Tryz.isAgg20,Tryz.zeroValue20,Tryz.underlying21,Tryz.runUnderlying21,Tryz.sizeOf21,Tryz.isAgg21,Tryz.zeroValue21,by kernel_rfl,by kernel_rfl⟩
end Cr
end Go.Proofs.YtpibpdpedjinhaaGreatDoor
