import Derived.Test.YtpibpdpedjinhaaGreatDoorU05
import Derived.Test.YtpibpdpedjinhaaGreatDoorProg
import Derived.Test.YtpibpdpedjinhaaGreatDoorChecked
import Derived.WalkKit
import Derived.WalkSpells
import Derived.BigCall
import Derived.Lib.SmallJoins
import Derived.Lib.Builder
import Derived.Deep.QuietTactic
import Derived.BigQuiet
import Derived.Deep.DeepCutAuto
import Derived.Deep.RegionWith
import Derived.Deep.AppendLies
import Derived.Deep.RegionHeld3
import Derived.RangeFuncBox
import Derived.OwnWalkIn
import Init
import Derived.Laws.Bits64b
import Derived.Shelf.Abstract
import Derived.Shelf.Strconv.Clone
import Derived.RangeFuncNested
import Derived.RangeFuncBound
import Derived.RangeFuncCalls
import Derived.RangeFuncLeaves
import Derived.Below
import Derived.TacticsInMore
import Derived.LoopNIn
import Derived.LoopIn
set_option maxRecDepth 100000
set_option maxHeartbeats 4000000
namespace Go.Proofs.YtpibpdpedjinhaaGreatDoor
section
open Go
section
variable {k:Nat} {f:Func}
section
variable (P:Program) (L:FuncId->Bool) (t:TypeId) (w:World)
def qK:Program:={ P with funcs:=P.funcs.mapIdx λi f=>if L i then f else { f with body:=none,name:= "",origin:= "" } }
theorem RX (h:P.funcs[k]? =some f) (hk:L k=true):(qK P L).funcs[k]? =some f:=by
 show (P.funcs.mapIdx _)[k]? =some f
 rw [iY,h]
 simp only [bQ,hk,if_true]
theorem Jh:(qK P L).info? t=P.info? t:=rfl
theorem yh:(qK P L).underlying t=P.underlying t:=rfl
theorem zM:(underlying t).run (qK P L) w=(underlying t).run P w:=by
 simp only [underlying,program,bind,Sem.bind,Sem.run,yh]
 cases P.underlying t<;>rfl
theorem LQ:(sizeOf t).run (qK P L) w=(sizeOf t).run P w:=by
 simp only [sizeOf,typeInfo,program,bind,Sem.bind,Sem.run,Jh]
 cases P.info? t<;>rfl
theorem Qy:(isAgg t).run (qK P L) w=(isAgg t).run P w:=by
 simp only [isAgg,underlying,program,bind,Sem.bind,Sem.run,yh]
 cases P.underlying t with
 |none=>rfl
 |some d=>cases d<;>rfl
theorem CV:(zeroValue t).run (qK P L) w=(zeroValue t).run P w:=by
 simp only [zeroValue,typeInfo,program,bind,Sem.bind,Sem.run,Jh]
 cases P.info? t with
 |none=>rfl
 |some i=>
  show Sem.run (qK P L) (match i.zero with|some v=>pure v|none=>_) w=Sem.run P (match i.zero with|some v=>pure v|none=>_) w
  cases i.zero<;>rfl
theorem Ue (h:P.funcs[k]? =some f) (hk:L k=true) (E:(f.name == "runtime.NumGoroutine")=false) (z:f.body.isNone=false) (args:Array Value):(callFunc k args).run (qK P L) w=.ok (.enter k args) w:=by
 simp only [callFunc,program,bind,Sem.bind,Sem.run,RX P L h hk,E,z]
 rfl
end
def BD (k:FuncId):Bool:=!([0,1,71,107,108,111,153,154,155,156,157,158,159,160,161,162,163,164,165,166,167,168,169,170,199,200,201,202,203,233,234,235,236,237,238,239,240,241,242,243,244,245,246,247,248,249,250,252,253,254,255]:List Nat).contains k
noncomputable def PQ:Program:=qK Tryz.prog BD
theorem fq (h:Tryz.prog.funcs[k]? =some f) (hk:BD k=true):PQ.funcs[k]? =some f:=RX _ _ h hk
section
variable (t:TypeId) (w:World)
@[simp] theorem VI:PQ.underlying t=Tryz.prog.underlying t:=yh ..
@[simp] theorem VB:(underlying t).run PQ w=(underlying t).run Tryz.prog w:=zM ..
@[simp] theorem SX:(sizeOf t).run PQ w=(sizeOf t).run Tryz.prog w:=LQ ..
@[simp] theorem VE:(isAgg t).run PQ w=(isAgg t).run Tryz.prog w:=Qy ..
@[simp] theorem IQ:(zeroValue t).run PQ w=(zeroValue t).run Tryz.prog w:=CV ..
end
section
variable {t:TypeId}
theorem uq {d:Option TypeDesc} (h:Tryz.prog.underlying t=d):PQ.underlying t=d:=(VI t).trans h
theorem tH {d:Nat} (h:∀w,(sizeOf t).run Tryz.prog w=.ok d w) (w:World):(sizeOf t).run PQ w=.ok d w:=(SX t w).trans (h w)
theorem uf {d:Bool} (h:∀w,(isAgg t).run Tryz.prog w=.ok d w) (w:World):(isAgg t).run PQ w=.ok d w:=(VE t w).trans (h w)
theorem tN {d:Value} (h:∀w,(zeroValue t).run Tryz.prog w=.ok d w) (w:World):(zeroValue t).run PQ w=.ok d w:=(IQ t w).trans (h w)
end
abbrev UO:Nat:=119410605829474995185314158946067881063668245145992106791403157890852007706620
theorem abo:((List.range 257).all λk=>(UO >>> k) % 2 != 1 || match Tryz.prog.funcs[k]? with
  |some f=>BD k&&!(f.name == "runtime.NumGoroutine")&&!f.body.isNone
  |none=>false)=true:=by kernel_rfl
@[simp] theorem acg (h:(119410605829474995185314158946067881063668245145992106791403157890852007706620 >>> k) % 2=1) (a:Array Value) (w:World):(callFunc k a).run PQ w=.ok (.enter k a) w:=by
 have h:(UO >>> k) % 2=1:=h
 have hk:k < 257:=by
  apply Nat.lt_of_not_le
  intro hk
  obtain ⟨j,rfl⟩:=Nat.exists_eq_add_of_le hk
  rw [Nat.shiftRight_add,show UO >>> 257=0 by decide,Nat.zero_shiftRight] at h
  cases h
 have:=eY.1 abo k (gI.2 hk)
 rw [h] at this
 cases hf:Tryz.prog.funcs[k]? with
 |none=>rw [hf] at this;simp at this
 |some f=>
  rw [hf] at this
  simp only [bne_self_eq_false,Bool.false_or,bY,Bool.not_eq_true'] at this
  exact Ue _ _ w hf this.1.1 this.1.2 this.2 a
end
end
namespace Fr
open Go.RowKit Go.Joins
theorem toList_empty (s:ByteArray):s.toList.isEmpty=decide (s.size=0):=by
 rw [ByteArray.toList_eq,Lib.size_eq]
 cases s.data.toList<;>simp
theorem getD_byte (s:ByteArray) (f:Nat) (h:f < s.size):s.data.toList.getD f 0=s[f]:=by
 have z:=Lib.size_eq s
 rw [aS,aG (by omega),Array.getElem_toList]
 rfl
theorem ext_list (s:ByteArray) (a b:Nat):(s.extract a b).data.toList=(s.data.toList.take b).drop a:=by
 simp [ByteArray.data_extract,Array.toList_extract,List.drop_take]
theorem below_drewN {B:Nat} {a w:World} (h:Below B a w) (n:Nat):Below B a (w.drewN n):=h.trans ⟨rfl,rfl,rfl,jC,λ_ _=>rfl⟩
end Fr
section
open Go.Conc
theorem jF {w:World} {n i:Nat} {c:Array Value} {t:TypeId} {f:Nat×Nat} {v:Value} (h:w.heap[n]? =some (.cells c t f)) (k:c[i]? =some v):w.cell? ⟨n,i,none⟩=some v:=(Lib.cell_of_heap h i).trans k
abbrev aA:=@Go.Lib.cell_of_heap
abbrev aB:=@Go.RowKit.Below.refl
abbrev aI:=@Go.Lib.frozen_of_heap
abbrev aK:=@Go.Calls.mono
abbrev aP:=@Go.RowKit.Below.heap_setCell
abbrev aT:=@Go.RowKit.Below.heap_alloc
abbrev aV:=@Go.Lib.size_eq
abbrev eH:=@Go.World.size_alloc
abbrev fA:=@Go.World.block_lt_of_cell?
abbrev fF:=@Go.Frame.finish_at
abbrev fM:=@Go.RowKit.Below.heap_alloc
abbrev gW:=@Go.Result.andThen_ok
abbrev iT:=@Go.Sem.run_bind
end
namespace Fr
section
variable {s:List UInt8} {p:Nat}
structure F where
 chan:Nat
 num:Nat
 data:List UInt8
 last:Bool
variable {l:List F}
def big (s:List UInt8) (p:Nat):Nat->Nat
 |0=>0
 |k+1=>256 * big s p k+(s.getD (p+k) 0).toNat
theorem sJ (s:List UInt8) (p:Nat):∀k,big s p k < 256 ^ k
 |0=>by simp [big]
 |k+1=>by
  have z:=sJ s p k
  have h2:=(s.getD (p+k) 0).toNat_lt
  rw [big,Nat.pow_succ]
  omega
def one (s:List UInt8) (p:Nat):Option (F×Nat):=
 if s.length < p+9 then none
 else if s.length < p+9+big s (p+6) 2 then none
 else if 1 < (s.getD (p+8+big s (p+6) 2) 0).toNat then none
 else some (⟨big s p 4,big s (p+4) 2,(s.take (p+8+big s (p+6) 2)).drop (p+8),(s.getD (p+8+big s (p+6) 2) 0).toNat == 1⟩,9+big s (p+6) 2)
theorem Xk (h:¬s.length < p+9):one s p=if s.length < p+9+big s (p+6) 2 then none
 else if 1 < (s.getD (p+8+big s (p+6) 2) 0).toNat then none
 else some (⟨big s p 4,big s (p+4) 2,(s.take (p+8+big s (p+6) 2)).drop (p+8),(s.getD (p+8+big s (p+6) 2) 0).toNat == 1⟩,9+big s (p+6) 2):=by
 unfold one
 rw [if_neg h]
theorem IX (h:s.length < p+9):one s p=none:=by
 unfold one
 rw [if_pos h]
def rest:Nat->List UInt8->Nat->Option (List F)
 |0,s,p=>if s.length<=p then some [] else none
 |f+1,s,p=>if s.length<=p then some [] else match one s p with
  |none=>none
  |some (x,n)=>(rest f s (p+n)).map (x::·)
def frames (s:List UInt8):Option (List F):=if s.length < 2\/s.getD 0 0≠0 then none else rest s.length s 1
theorem one_le {x:F} {n:Nat} (h:one s p=some (x,n)):9<=n/\p+n<=s.length:=by
 unfold one at h
 split at h
 ·simp at h
 ·split at h
  ·simp at h
  ·split at h
   ·simp at h
   ·simp only [aC,dA] at h
    omega
inductive pY (s:List UInt8):List F->Nat->Prop
 |nil:pY s [] 1
 |snoc {l:List F} {p:Nat} {x:F} {n:Nat}:pY s l p->p < s.length->one s p=some (x,n)->pY s (l++[x]) (p+n)
theorem pY.le (hs:1<=s.length) (h:pY s l p):p<=s.length/\l.length < p:=by
 induction h with
 |nil=>exact ⟨hs,Nat.lt_succ_self _⟩
 |snoc h hp ho ih=>
  have:=one_le ho
  simp only [aJ,aN,bM]
  omega
theorem pY.rest (h:pY s l p):∀f,l.length<=f->Fr.rest f s 1=(Fr.rest (f - l.length) s p).map (λr=>l++r):=by
 induction h with
 |nil=>intro f _;simp
 |@snoc l p x n h hp ho ih=>
  intro f I
  simp only [aJ,aN,bM] at I⊢
  rw [ih f (by omega)]
  obtain ⟨z,E⟩:∃z,f - l.length=z+1:=⟨f - l.length - 1,by omega⟩
  rw [E,Fr.rest,if_neg (by omega),ho]
  simp only
  rw [show f - (l.length+(0+1))=z from by omega]
  cases Fr.rest z s (p+n)<;>simp
theorem pY.all (h2:¬(s.length < 2\/s.getD 0 0≠0)) (h:pY s l p) (hp:s.length<=p):frames s=some l:=by
 have:=h.le (by omega)
 rw [frames,if_neg h2,h.rest s.length (by omega)]
 cases s.length - l.length<;>simp [Fr.rest,hp]
theorem pY.stuck (h2:¬(s.length < 2\/s.getD 0 0≠0)) (h:pY s l p) (hp:p < s.length) (z:one s p=none):frames s=none:=by
 have:=h.le (by omega)
 rw [frames,if_neg h2,h.rest s.length (by omega)]
 cases s.length - l.length with
 |zero=>rw [Fr.rest,if_neg (by omega)];rfl
 |succ f=>rw [Fr.rest,if_neg (by omega),z];rfl
theorem xU (h:s.length < 2\/s.getD 0 0≠0):frames s=none:=by rw [frames,if_pos h]
end
open Go.RowKit Go.Joins
def vH (x:F):List Value:=[.int .u32 x.chan,.int .u16 x.num,.string ⟨x.data.toArray⟩,.bool x.last]
def flat:List F->List Value
 |[]=>[]
 |x::l=>vH x++flat l
theorem yQ:∀(a b:List F),flat (a++b)=flat a++flat b
 |[],_=>rfl
 |x::a,b=>by rw [dH,flat,flat,yQ a b,fE]
theorem flat_length:∀l:List F,(flat l).length=l.length * 4
 |[]=>rfl
 |x::l=>by rw [flat,aJ,flat_length l];simp [vH];omega
open Go.RowKit Go.Joins Go.Shelf
theorem zB (a c:Nat) (z:c < 256):(a * 256) |||c=256 * a+c:=by
 have:=Nat.two_pow_add_eq_or_of_lt (i:=8) (b:=c) (by omega) a
 rw [show a * 256=2 ^ 8 * a from by omega,<-this]
theorem zh (a b:Nat) (E:a < 4294967296) (I:b < 4294967296):bits .or .u32 (a:Int) (b:Int)=((a |||b:Nat):Int):=by
 have J:a |||b < 2 ^ 32:=Nat.or_lt_two_pow (by omega) (by omega)
 have z:(BitVec.ofInt 32 (a:Int)).toNat=a:=by
  rw [BitVec.ofInt_natCast,BitVec.toNat_ofNat];exact Nat.mod_eq_of_lt (by omega)
 have h2:(BitVec.ofInt 32 (b:Int)).toNat=b:=by
  rw [BitVec.ofInt_natCast,BitVec.toNat_ofNat];exact Nat.mod_eq_of_lt (by omega)
 show IntKind.u32.wrap ((BitVec.ofInt 32 (a:Int) |||BitVec.ofInt 32 (b:Int)).toNat:Int)=_
 rw [BitVec.toNat_or,z,h2,IntKind.wrap_u32]
 omega
theorem below_bytesWorld {B:Nat} {w u:World} (h:Below B w u) (E:B<=u.heap.size) (e:TypeId) (s:ByteArray):Below B w (Lib.bytesWorld u e s):=
 h.trans ⟨rfl,rfl,rfl,by rw [Lib.bytesWorld_size];omega,λm z=>Lib.bytesWorld_at_old u e s m (by omega)⟩
theorem rZ (s:List UInt8) (p q:Nat):∀k,big (s.drop p) q k=big s (p+q) k
 |0=>rfl
 |k+1=>by
  rw [big,big,rZ s p q k,aS,aS,iU,dO]
theorem Je (s:List UInt8) (q m:Nat):∀k,q+k<=m->big (s.take m) q k=big s q k
 |0,_=>rfl
 |k+1,h=>by
  rw [big,big,Je s q m k (by omega),aS,aS,iF (by omega)]
theorem FX (s:List UInt8) (p k:Nat):big ((s.take (p+k)).drop p) 0 k=big s p k:=by
 rw [rZ,Nat.add_zero,Je _ _ _ _ jC]
theorem Af (s:List UInt8) (p:Nat) (hp:p<=s.length):one s p=one (s.drop p) 0:=by
 unfold one
 rw [rZ,rZ,rZ,dP]
 simp only [Nat.add_zero,fC]
 have e:(s.drop p).getD (8+big s (p+6) 2) 0=s.getD (p+8+big s (p+6) 2) 0:=by
  rw [aS,aS,iU,dO]
 have E:((s.drop p).take (8+big s (p+6) 2)).drop 8=(s.take (p+8+big s (p+6) 2)).drop (p+8):=by
  rw [List.take_drop,gZ]
  congr 1
  rw [dO]
 rw [e,E]
 by_cases z:s.length < p+9
 ·rw [if_pos z,if_pos (show s.length - p < 9 by omega)]
 ·rw [if_neg z,if_neg (show ¬s.length - p < 9 by omega)]
  by_cases h2:s.length < p+9+big s (p+6) 2
  ·rw [if_pos h2,if_pos (show s.length - p < 9+big s (p+6) 2 by omega)]
  ·rw [if_neg h2,if_neg (show ¬s.length - p < 9+big s (p+6) 2 by omega)]
def Sv:Go.Shelf.Ren:=⟨fun|316=>198|n=>n,fun|0=>0|3=>3|4=>4|5=>5|9=>9|37=>155|127=>239|n=>n,fun|n=>n⟩
theorem GI:Go.Proofs.LaysM.n316 PQ Sv:={
 mixed:=by kernel_rfl
 f316:=(fq Tryz.func198 rfl).trans (congrArg some (by kernel_rfl))
 t0:=(uq Tryz.underlying0)
 a0:=(uf Tryz.isAgg0)
 z0:=(tH Tryz.sizeOf0)
 v0:=(tN Tryz.zeroValue0)
 t3:=(uq Tryz.underlying3)
 a3:=(uf Tryz.isAgg3)
 z3:=(tH Tryz.sizeOf3)
 v3:=(tN Tryz.zeroValue3)
 t4:=(uq Tryz.underlying4)
 a4:=(uf Tryz.isAgg4)
 z4:=(tH Tryz.sizeOf4)
 v4:=(tN Tryz.zeroValue4)
 t5:=(uq Tryz.underlying5)
 a5:=(uf Tryz.isAgg5)
 z5:=(tH Tryz.sizeOf5)
 v5:=(tN Tryz.zeroValue5)
 t9:=(uq Tryz.underlying9)
 a9:=(uf Tryz.isAgg9)
 z9:=(tH Tryz.sizeOf9)
 v9:=(tN Tryz.zeroValue9)
 t37:=(uq Tryz.underlying155)
 a37:=(uf Tryz.isAgg155)
 z37:=(tH Tryz.sizeOf155)
 v37:=(tN Tryz.zeroValue155)
 t127:=(uq Tryz.underlying239)
 a127:=(uf Tryz.isAgg239)
 z127:=(tH Tryz.sizeOf239)
 v127:=(tN Tryz.zeroValue239)
 i0:=by kernel_rfl
 i3:=by kernel_rfl
 i4:=by kernel_rfl
 i5:=by kernel_rfl
 i9:=by kernel_rfl
 i37:=by kernel_rfl
 i127:=by kernel_rfl }
theorem clone_any (s:ByteArray) (w:World) (hs:s.size<=16777216):Calls PQ 151 #[.string s] w λe w'=>e=.returned (.string s)/\Below w.heap.size w w':=by
 go_enter (fq Tryz.func151 rfl),Tryz.ntmps151
 go_wp2_with fail
 refine (Any.stringslite_Clone (ρ:=Sv) GI s w (by omega)).mono ?_
 rintro e w1 ⟨rfl,z⟩
 go_wp2_with fail
 go_ret
 exact ⟨rfl,z⟩
def fv:Option (F×Nat)->Value
 |none=>.tuple #[.agg #[.int .u32 0,.int .u16 0,.string ⟨#[]⟩,.bool false],.int .i64 0,.bool false]
 |some x=>.tuple #[.agg #[.int .u32 x.1.chan,.int .u16 x.1.num,.string ⟨x.1.data.toArray⟩,.bool x.1.last],.int .i64 x.2,.bool true]
end Fr
namespace Fr
open Go.RowKit Go.Joins
attribute [local go_sem] Oper.semAt_some
inductive QD (s:List UInt8):List F->Nat->Prop
 |nil:QD s [] 0
 |snoc {l:List F} {p:Nat} {x:F} {n:Nat}:QD s l p->one s p=some (x,n)->QD s (l++[x]) (p+n)
theorem QD.le {s:List UInt8} {l:List F} {p:Nat} (h:QD s l p):p<=s.length/\l.length<=p:=by
 induction h with
 |nil=>exact ⟨dF _,jC⟩
 |snoc h ho ih=>
  have:=one_le ho
  simp only [aJ,aN,bM]
  omega
end Fr
namespace Fr
open Go.RowKit Go.Joins
attribute [local go_sem] Oper.semAt_some
variable {s:List UInt8} {l:List F}
theorem IC (s:List UInt8) (p:Nat) (hp:p+1<=s.length):one s (p+1)=one (s.drop 1) p:=by
 rw [Af s (p+1) hp,Af (s.drop 1) p (by rw [dP];omega),gZ,Nat.add_comm 1 p]
theorem QD.aam (hs:1<=s.length) {p:Nat} (h:QD (s.drop 1) l p):pY s l (p+1):=by
 induction h with
 |nil=>exact pY.nil
 |@snoc l p x n h ho ih=>
  have z:=one_le ho
  rw [dP] at z
  rw [show p+n+1=p+1+n from by omega]
  exact pY.snoc ih (by omega) (by rw [IC s p (by omega)];exact ho)
theorem yj (hs:1<=s.length) (R:s.getD 0 0=0) {p:Nat} (E:QD (s.drop 1) l p) (Y:one (s.drop 1) p=none):
  frames s=if l.length=0\/p < s.length - 1 then none else some l:=by
 have J:=E.aam hs
 have I:=E.le
 rw [dP] at I
 by_cases h2:s.length < 2
 ·rw [xU (.inl h2),if_pos (.inl (by omega))]
 ·have z:¬(s.length < 2\/s.getD 0 0≠0):=by
   rintro (h|h)
   ·exact h2 h
   ·exact h R
  by_cases hp:p < s.length - 1
  ·rw [if_pos (.inr hp)]
   exact J.stuck z (by omega) (by rw [IC s p (by omega)];exact Y)
  ·rw [if_neg]
   ·exact J.all z (by omega)
   ·rintro (h|h)
    ·cases E with
     |nil=>omega
     |snoc=>simp at h
    ·exact hp h
end Fr
namespace Cr
open Go
abbrev link:Go.Conc.Lib.WgLink:={ add:=107,done:=109,wait:=111,relMerge:=153,disable:=154,enable:=155,inBubble:=156,associate:=157,fatal:=158,uOr:=159,uAdd:=160,raceRead:=161,uLoad:=162,uStore:=163,disassociate:=164,semrelease:=165,acquire:=166,isAssociated:=167,uCas:=168,raceWrite:=169,semacquire:=170,orU64:=199,addU64:=200,loadU64:=201,storeU64:=202,casU64:=203,tWgP:=251,tUP:=253,tAssoc:=254,tWg:=211,tAU:=209,tU64:=207,tUint:=154,tU32:=22,tPU32:=258,tPAU:=289,tPU64:=291,tNoCopy:=204,tANoCopy:=205,tAlign64:=206 }
theorem wgLib:Go.Conc.Lib.WgLib Tryz.prog link:=
 ⟨Tryz.func107,Tryz.func109,Tryz.func111,Tryz.func153,Tryz.func154,Tryz.func155,Tryz.func156,Tryz.func157,Tryz.func158,Tryz.func159,Tryz.func160,Tryz.func161,Tryz.func162,Tryz.func163,Tryz.func164,Tryz.func165,Tryz.func166,Tryz.func167,Tryz.func168,Tryz.func169,Tryz.func170,Tryz.func199,Tryz.func200,Tryz.func201,Tryz.func202,Tryz.func203,Tryz.underlying251,Tryz.runUnderlying251,Tryz.sizeOf251,Tryz.isAgg251,Tryz.zeroValue251,Tryz.underlying253,Tryz.runUnderlying253,Tryz.sizeOf253,Tryz.isAgg253,Tryz.zeroValue253,Tryz.underlying254,Tryz.runUnderlying254,Tryz.sizeOf254,Tryz.isAgg254,Tryz.zeroValue254,Tryz.underlying211,Tryz.runUnderlying211,Tryz.sizeOf211,Tryz.isAgg211,Tryz.zeroValue211,Tryz.underlying209,Tryz.runUnderlying209,Tryz.sizeOf209,Tryz.isAgg209,Tryz.zeroValue209,Tryz.underlying207,Tryz.runUnderlying207,Tryz.sizeOf207,Tryz.isAgg207,Tryz.zeroValue207,Tryz.underlying154,Tryz.runUnderlying154,Tryz.sizeOf154,Tryz.isAgg154,Tryz.zeroValue154,Tryz.underlying22,Tryz.runUnderlying22,Tryz.sizeOf22,Tryz.isAgg22,Tryz.zeroValue22,Tryz.underlying258,Tryz.runUnderlying258,Tryz.sizeOf258,Tryz.isAgg258,Tryz.zeroValue258,Tryz.underlying289,Tryz.runUnderlying289,Tryz.sizeOf289,Tryz.isAgg289,Tryz.zeroValue289,Tryz.underlying291,Tryz.runUnderlying291,Tryz.sizeOf291,Tryz.isAgg291,Tryz.zeroValue291,Tryz.underlying0,Tryz.runUnderlying0,Tryz.sizeOf0,Tryz.isAgg0,Tryz.zeroValue0,Tryz.underlying3,Tryz.runUnderlying3,Tryz.sizeOf3,Tryz.isAgg3,Tryz.zeroValue3,Tryz.underlying4,Tryz.runUnderlying4,Tryz.sizeOf4,Tryz.isAgg4,Tryz.zeroValue4,Tryz.underlying9,Tryz.runUnderlying9,Tryz.sizeOf9,Tryz.isAgg9,Tryz.zeroValue9,Tryz.underlying20,Tryz.runUnderlying20,Tryz.sizeOf20,Tryz.isAgg20,Tryz.zeroValue20,Tryz.underlying21,Tryz.runUnderlying21,Tryz.sizeOf21,Tryz.isAgg21,Tryz.zeroValue21,by kernel_rfl,by kernel_rfl⟩
end Cr
namespace Fr
def lM (inbox batcher fr ad:Int) (data:List UInt8):List F:=if ad=inbox/\fr=batcher then (frames data).getD [] else []
end Fr
namespace Cr
open Go Go.Conc Go.ConcN Go.RowKit Go.Conc.Lib Go.ConcR.Gen Go.ConcN.Gen
open Go.ConcR (KK WgAt stA smA Payload DC0)
instance payFrames:Payload:=⟨76⟩
def qm (O:Nat->Prop) (w:World) (v:Value) (fs:List Fr.F):Prop:=
 (v=.slice none 0 0/\fs=[])\/∃g cap z,v=.slice (some ⟨g,0,none⟩) fs.length cap/\O g/\w.heap[g]? =some (.cells z 81 (0,0))/\fs.length<=cap/\cap<=maxLen/\z.size=cap * 4/\z.toList.take (fs.length * 4)=Fr.flat fs
theorem qm.stands {O I:Nat->Prop} {w z:World} {v:Value} {fs:List Fr.F} (h:qm O w v fs) (R:∀b,O b->I b) (Y:∀b,O b->z.heap[b]? =w.heap[b]?):qm I z v fs:=
 h.imp id λ⟨g,cap,E,e,J,h2,r⟩=>⟨g,cap,E,e,R g J,(Y g J).trans h2,r⟩
def leftOf (fs:Nat->List Fr.F):Left:=λi v O w=>qm O w v (fs i)
theorem CG (fs:Nat->List Fr.F):(leftOf fs).mQ:=λ_ _ _ _ _ z h=>qm.stands h (λ_=>id) z
abbrev cfg (inbox batcher t0 t1 t2 t3 t4:Int):Array Value:=#[.int .u32 inbox,.int .u32 batcher,.int .i64 t0,.int .i64 t1,.int .i64 t2,.int .i64 t3,.int .i64 t4]
abbrev yY (fr ad:Int) (data:ByteArray):Array Value:=#[.int .u32 fr,.int .u32 ad,.string data]
def ReadW:Prop:=∀(S:Who) (m:Nat) (R:jV->Goroutine->World->Prop) (K:jV) (w:World) (b:Frame) (a:Act) (k:List Item) (cs:List Frame) (ops:Array Oper) (j:Nat) (rest:List Nat) (o:Oper) (x y:Operand) (J:Array TypeId) (inbox batcher t0 t1 t2 t3 t4 fr ad:Int) (data:ByteArray),
 ops[j]? =some o->Region.wanted o (yielded ops a.tmps)=true->b.kind≠.early->o.op=.call { callee:=.value (.func 110),args:=#[x,y],argTypes:=J }->a.eval x=.agg (cfg inbox batcher t0 t1 t2 t3 t4)->a.eval y=.agg (yY fr ad data)->data.size<=1048576->
 (∀x,K.W x->K.O x)->(∀x,K.O x->x < w.heap.size)->S.C < w.heap.size->S.Wg < w.heap.size->Tryz.prog.globals.size<=w.heap.size->
 (∀E,En S (some m) K w E->∀v I z,qm I.O z v (Fr.lM inbox batcher fr ad data.data.toList)->(∀x,K.O x->I.O x)->(∀x,I.W x->I.O x)->E.heap.size<=z.heap.size->(∀x,K.O x->z.heap[x]? =E.heap[x]?)->(∀x,I.O x->x < z.heap.size/\(K.O x\/E.heap.size<=x))->
  (WgLive S.ty S.Wg E->WgLive S.ty S.Wg z)->(PayAt S.C S.n E->PayAt S.C S.n z)->kP Tryz.prog false S (some m) R I (G (b.at (a.put o.dst v) (.inRegion ops rest::k)) cs) z)->
 kP Tryz.prog false S (some m) R K (G (b.at a (.inRegion ops (j::rest)::k)) cs) w
end Cr
namespace Cr
open Go Go.Conc Go.ConcN Go.RowKit Go.Conc.Lib Go.ConcR.Gen Go.ConcN.Gen
open Go.ConcR (KK WgAt stA smA Payload DC0)
open Fr (big)
section
def ZV (f:FuncId) (args:Array Value) (v:Value):Prop:=∀(S:Who) (m:Nat) (St:jV->Goroutine->World->Prop) (K0:jV) (w0:World) (L:List (Nat×Obj)) (b:Frame) (a:Act) (k:List Item) (cs:List Frame) (ops:Array Oper) (i:Nat) (rest:List Nat) (o:Oper) (xs:Array Operand) (z:Array TypeId),
 ops[i]? =some o->Region.wanted o (yielded ops a.tmps)=true->b.kind≠.early->o.op=.call { callee:=.value (.func f),args:=xs,argTypes:=z }->xs.map a.eval=args->Wc Tryz.prog S m St K0 w0 L (G (b.at (a.put o.dst v) (.inRegion ops rest::k)) cs)->Wc Tryz.prog S m St K0 w0 L (G (b.at a (.inRegion ops (i::rest)::k)) cs)
noncomputable def Uh:Code:=match Tryz.f194.body with
 |some (.seq _ (.seq _ (.seq (.seq _ (.block _ (.loop c))) _)))=>c
 |_=>.skip
noncomputable def Zf:Code:=match Tryz.f194.body with
 |some (.seq _ (.seq _ (.seq _ c)))=>c
 |_=>.skip
section
variable {S:Who} {m:Nat} {St:jV->Goroutine->World->Prop} {K0:jV} {w0:World} {L:List (Nat×Obj)} {cs:List Frame} {cf:Frame}
theorem nK {p:Nat×Obj} {w:World} (h:Lies (p::L) w0.heap.size w):w.heap[p.1]? =some p.2:=(h.mem p (.head _)).2
theorem Gy {n:Nat} {ob:Obj} {j N z:Nat} {wr:Bool}:EvA ((n,ob)::L) N z ⟨.cell ⟨n,j,none⟩,wr,false⟩:=.inl ⟨_,_,rfl,.inl ⟨_,.head _,rfl⟩⟩
theorem JL (s:ByteArray) (hs:s.size<=4) (n cap:Nat) (c:Array Value) (fz:Nat×Nat) (hc:∀j,j < s.size->c[j]? =some (.int .u8 (s.data.toList.getD j 0).toNat)) (nx:Wc Tryz.prog S m St K0 w0 ((n,.cells c 5 fz)::L) (G (cf.finish (.int .u32 (big s.data.toList 0 s.size:Nat))) cs)):
  ∀r k,k+r=s.size->∀u5 Y R ab ag af ah ac aa ae:Value,Wc Tryz.prog S m St K0 w0 ((n,.cells c 5 fz)::L) (G ((base 194).at { tmps:=#[.string s,undef,.int .u32 0,.int .u32 (big s.data.toList 0 k:Nat),undef,u5,.string s,.slice (some ⟨n,0,none⟩) s.size cap,.int .i64 s.size,.int .i64 k,Y,R,ab,ag,af,ah,ac,aa,ae,undef],defers:=[] } [.code Uh,.inLoop Uh,.inBlock 0,.code Zf]) (cf::cs)):=by
 intro r
 induction r with
 |zero=>
  intro k hk u5 Y R ab ag af ah ac aa ae
  obtain rfl:k=s.size:=by omega
  simp only [Uh,Tryz.f194]
  refine Wc.go 30 λK w z=>?_
  u_c stepG_seq At.en z
  u_reg At.en z
  u_op At.en z
  u_c stepG_region_end At.en z
  u_c stepG_seq At.en z
  u_cond false At.en z
  u_exit At.en z
  simp only [Zf,Tryz.f194]
  u_c stepG_seq At.en z
  u_reg At.en z
  iterate 2 u_op At.en z
  u_c stepG_region_end At.en z
  refine Goes.stop λ_ E=>Wc.use ?_ (z.en E)
  exact .ret λtodo=>.yO rfl rfl rfl Tryz.func194 rfl rfl nx
 |succ r ih=>
  intro k hk u5 Y R ab ag af ah ac aa ae
  have aj:(k:Int) < (s.size:Int):=by omega
  have ak:big s.data.toList 0 k < 16777216:=by
   have:=Fr.sJ s.data.toList 0 k
   have:=iH (n:=256) (by decide) (show k<=3 by omega)
   omega
  have hc:=hc k (by omega)
  have J:big s.data.toList 0 (k+1)=256 * big s.data.toList 0 k+(s.data.toList.getD k 0).toNat:=by rw [big,fC]
  generalize hb:(s.data.toList.getD k 0).toNat=y at hc J
  have ai:y < 256:=by rw [<-hb];exact UInt8.toNat_lt _
  have ih:=ih (k+1) (by omega)
  rw [J] at ih
  generalize big s.data.toList 0 k=V at *
  have IH:Hid _:=ih
  have NX:Hid _:=nx
  clear ih nx hb J
  simp only [Uh,Tryz.f194]
  refine Wc.go 30 λK w z=>?_
  u_c stepG_seq At.en z
  u_reg At.en z
  u_op At.en z
  u_c stepG_region_end At.en z
  u_c stepG_seq At.en z
  u_cond true At.en z
  u_c stepG_skip At.en z
  u_c stepG_seq At.en z
  u_c stepG_block At.en z
  u_c stepG_seq At.en z
  u_reg At.en z
  u_op At.en z
  refine Goes.stop λ_ E=>Wc.use ?_ (z.en E)
  clear z
  refine Wc.rd (.int .u8 y) rfl rfl (base_kind _) (λw hl=>?_) ?_
  ·have h1:=nK hl
   have I:w.cell? ⟨n,k,none⟩=some (.int .u8 y):=by simp [World.cell?,h1,hc]
   refine ⟨by simp [go_sem,I],λe he=>?_⟩
   simp [go_sem,I] at he
   subst he
   exact Gy
  walk_nrm
  refine Wc.go 30 λK w z=>?_
  u_op At.en z
  u_c stepG_region_end At.en z
  u_reg At.en z
  iterate 6 u_op At.en z
  u_c stepG_region_end At.en z
  u_c stepG_inBlock At.en z
  u_reg At.en z
  iterate 2 u_op At.en z
  u_c stepG_region_end At.en z
  u_c stepG_inLoop At.en z
  refine Goes.stop λ_ E=>Wc.use ?_ (z.en E)
  clear z
  have e:bits .or .u32 ((V:Int) * 256) (y:Int)=((256 * V+y:Nat):Int):=by
   rw [show (V:Int) * 256=((V * 256:Nat):Int) from by omega,Fr.zh _ _ (by omega) (by omega),Fr.zB V y ai]
  rw [show (V:Int) * 256 % 4294967296=V * 256 by omega,show (y:Int) % 4294967296=y by omega,e,show IntKind.i64.wrap ((k:Int)+1)=((k+1:Nat):Int) by rw [IntKind.wrap_i64];omega]
  exact IH.out _ _ _ _ _ _ _ _ _ _
end
theorem uO (s:ByteArray) (hs:s.size<=4):ZV 194 #[.string s] (.int .u32 (big s.data.toList 0 s.size:Nat)):=by
 intro S m St K0 w0 L b a k cs ops i rest o xs aa Y hw hk I hx nx
 refine Wc.call Y hw hk I Tryz.func194 rfl (show Tryz.f194.body=some (.seq _ (.seq _ (.seq (.seq _ (.block 0 (.loop Uh))) Zf))) from rfl) ?_
 rw [hx]
 simp only [Tryz.ntmps194,dL,aN,bM,Nat.reduceAdd,Nat.reduceSub,cO,bZ,dN,cZ,dM,dH]
 have NX:Hid _:=nx
 clear nx
 refine Wc.go 30 λK w z=>?_
 u_c stepG_seq At.en z
 u_reg At.en z
 u_op At.en z
 u_c stepG_region_end At.en z
 u_c stepG_seq At.en z
 u_reg At.en z
 u_op At.en z
 u_c stepG_region_end At.en z
 iterate 2 u_c stepG_seq At.en z
 u_reg At.en z
 u_op At.en z
 refine Goes.stop λ_ E=>Wc.use ?_ (z.en E)
 clear z
 refine Wc.op rfl rfl (base_kind _) λw hl=>⟨.slice (some ⟨w.heap.size,0,none⟩) s.size (grownCap w s.size 0 5),Lib.bytesWorld w 5 s,(w.heap.size,.cells (Lib.bytesCells w 5 s) 5 ((Lib.bytesCells w 5 s).size,(Lib.bytesCells w 5 s).size+1))::L,.inl ?run,?turn,?_⟩
 case run=>
  have:=Lib.run_convert_string_bytes (P:=Tryz.prog) w 9 155 5 s Tryz.underlying9 Tryz.underlying155 Tryz.underlying5
  simp [go_sem,this]
 case turn=>
  refine .lay hl (Lib.bytesWorld_size _ _ _) (Lib.bytesWorld_at_old _ _ _) (Lib.bytesWorld_at_new _ _ _) rfl rfl rfl λe R=>?_
  have R:=mem_listed R
  have J:∀c:Array Value,(w.alloc (.cells c 5)).shape? w.heap.size=some (5,c.size):=by
   intro c
   simp [World.shape?,World.alloc,-World.alloc_eq]
  simp [go_sem,convert,run_underlying (P:=Tryz.prog) Tryz.underlying9,run_underlying (P:=Tryz.prog) Tryz.underlying155,run_underlying (P:=Tryz.prog) Tryz.underlying5,Conv.stringToBytes,newRow,markStringish,Question.forced,J] at R
 have hc:∀j,j < s.size->(Lib.bytesCells w 5 s)[j]? =some (.int .u8 (s.data.toList.getD j 0).toNat):=λj hj=>by simp [Lib.bytesCells,Array.getElem?_append,List.getD,hj]
 generalize Lib.bytesCells w 5 s=c at hc
 generalize w.heap.size=n
 generalize grownCap w s.size 0 5=cap
 clear hl
 walk_nrm
 refine Wc.go 30 λK w z=>?_
 iterate 2 u_op At.en z
 u_c stepG_region_end At.en z
 u_c stepG_block At.en z
 u_c stepG_loop At.en z
 refine Goes.stop λ_ E=>Wc.use ?_ (z.en E)
 refine JL s hs n cap c _ hc ?_ s.size 0 (by omega) _ _ _ _ _ _ _ _ _ _
 refine Wc.drop (iQ _ _) ?_
 rw [Frame.finish_at,Y]
 exact NX.out
end
section
variable {e:Event} {P:Program} {w:World}
theorem RS {L:List (Nat×Obj)} {N E:Nat} {ad:Addr} (hp:pl e) (z:e.loc=.cell ad) (I:∃p∈L,p.1=ad.block):EvA L N E e:=by
 obtain ⟨J,wr,R⟩:=e
 cases z
 cases hp ad rfl
 exact .inl ⟨ad,wr,rfl,.inl I⟩
theorem vZ {P:Program} {w:World}:∀(l:List UInt8) (a:Addr) (E:ByteArray) (es:Array Event),(∀j x,l[j]? =some x->w.cell? (a.add j)=some (.int .u8 x.toNat))->∀e∈(loadBytes a E l.length).events P w es,e∈es\/∃a',e=⟨.cell a',false,false⟩/\a'.block=a.block
 |[],_,_,_,_=>λe z=>.inl (by simpa [loadBytes] using z)
 |x::l,a,E,es,h=>λe z=>by
  have J:w.cell? a=some (.int .u8 x.toNat):=by
   have:=h 0 x rfl
   simpa [Addr.add] using this
  simp only [aN,loadBytes,Sem.events_bind] at z
  simp [J] at z
  rcases vZ l (a.add 1) _ _ (λj y I=>by have:=h (j+1) y (by simpa using I);rw [show (a.add 1).add j=a.add (j+1) from by unfold Addr.add;split<;>split<;>simp_all<;>omega];exact this) e z with k|⟨a',rfl,k⟩
  ·rcases Array.mem_push.1 k with k|rfl
   ·exact .inl k
   ·exact .inr ⟨a,rfl,rfl⟩
  ·exact .inr ⟨a',rfl,k.trans (addBlock a 1)⟩
theorem aat (pt it ty e:TypeId) (hp:P.underlying pt=some (.pointer e)) (hc:P.cellsOf e=1) (g cells:Nat) (Y:w.shape? g=some (e,cells)) (l:List UInt8) (h0:l≠[]) (hn:l.length<=cells) (ab:l.length<=9223372036854775807)
  (z:∀j x,l[j]? =some x->w.cell? ((⟨g,0,none⟩:Addr).add j)=some (.int .u8 x.toNat)):∀ev∈(Builtin.unsafeString_ #[pt,it] ty #[.pointer (some ⟨g,0,none⟩),.int .i64 l.length]).events P w #[],∃a',ev=⟨.cell a',false,false⟩/\a'.block=g:=by
 have hl:l.length≠0:=by simpa using h0
 have aa:=Lib.run_loadBytes (P:=P) w l ⟨g,0,none⟩ .empty z
 have E:=Lib.liesAt_bytes (P:=P) hc (cells / P.cellsOf e) l.length (by rw [hc];simpa using hn)
 have J:¬(9223372036854775807:Int) < (l.length:Int):=by omega
 have I:IntKind.i64.max=9223372036854775807:=rfl
 have R:¬(l.length:Int) < 0:=by omega
 intro ev he
 change ev∈(asInt (.int .i64 l.length) >>= _).events P w #[] at he
 simp [asInt,asIntOf,I,J,R,hl,variablesAt,Y,elemOf,run_underlying hp,E,aa] at he
 rcases vZ l ⟨g,0,none⟩ .empty #[] z ev he with k|k
 ·simp at k
 ·exact k
theorem FD (ty:TypeId) (s:ByteArray) (w:World) (es:Array Event):(Builtin.len_ #[9] ty #[.string s]).events Tryz.prog w es=es:=by
 simp [Builtin.len_,run_underlying Tryz.underlying9]
theorem KJ {α:Type} {s:Sem α} (h:na s) (z:e∈s.events P w #[]):pl e:=Z7 h w #[] (by simp) e z
theorem Xt:(Tryz.prog.info? 5).map (λi=>(i.zero,i.size,i.bytes))=some (some (.int .u8 0),1,1):=by kernel_rfl
theorem Qz (s:ByteArray) (hs:s.size<=16777216):ZV 198 #[.string s] (.string s):=by
 intro S m St K0 w0 L b a k cs ops i rest o xs au ho hw hk ak hx nx
 refine Wc.call ho hw hk ak Tryz.func198 rfl rfl ?_
 rw [hx]
 simp only [Tryz.ntmps198,dL,aN,bM,Nat.reduceAdd,Nat.reduceSub,cO,bZ,dN,cZ,dM,dH]
 have NX:Hid _:=nx
 have el:=FD
 clear nx
 by_cases h0:s.size=0
 ·obtain rfl:s=⟨#[]⟩:=ByteArray.ext (Array.eq_empty_of_size_eq_zero h0)
  refine Wc.go 30 λK w z=>?_
  u_c stepG_seq At.en z
  u_reg At.en z
  u_op At.en z
  u_c stepG_region_end At.en z
  iterate 2 u_c stepG_seq At.en z
  u_reg At.en z
  iterate 3 u_op At.en z
  u_c stepG_region_end At.en z
  u_cond true At.en z
  u_c stepG_seq At.en z
  u_reg At.en z
  u_op At.en z
  u_c stepG_region_end At.en z
  refine Goes.stop λ_ E=>Wc.use ?_ (z.en E)
  refine .ret λtodo=>.yO rfl rfl rfl Tryz.func198 rfl rfl ?_
  rw [Frame.finish_at,ho]
  exact NX.out
 have aq:((s.size:Int) == 0)=false:=by rw [beq_eq_false_iff_ne];omega
 refine Wc.go 30 λK w z=>?_
 u_c stepG_seq At.en z
 u_reg At.en z
 u_op At.en z
 u_c stepG_region_end At.en z
 iterate 2 u_c stepG_seq At.en z
 u_reg At.en z
 iterate 3 u_op At.en z
 u_c stepG_region_end At.en z
 u_cond false At.en z
 u_c stepG_skip At.en z
 u_c stepG_seq At.en z
 u_reg At.en z
 iterate 2 u_op At.en z
 refine Goes.stop λ_ E=>Wc.use ?_ (z.en E)
 clear z
 obtain ⟨ie,hi,ae,ag,aa⟩:∃i,Tryz.prog.info? 5=some i/\i.zero=some (.int .u8 0)/\i.size=1/\i.bytes=1:=by
  have:=Xt
  cases h:Tryz.prog.info? 5 with
  |none=>rw [h] at this;cases this
  |some i=>
   rw [h] at this
   simp only [bQ,aC,dA] at this
   exact ⟨i,rfl,this.1,this.2.1,this.2.2⟩
 obtain ⟨M,hM⟩:∃M,M=madeCells (Value.int .u8 0).cells (((s.size:Nat):Int).toNat * ie.size):=⟨_,rfl⟩
 have an:M.size=s.size:=by rw [hM,size_madeCells,ag];simp
 refine Wc.al (.cells M 5) (λn=>.slice (some ⟨n,0,none⟩) s.size s.size) rfl rfl (base_kind _) (λw I=>?_) λn=>?_
 ·have ah:=run_make (P:=Tryz.prog) w 155 5 ie (.int .u8 0) Tryz.underlying155 hi ae .i64 .i64 (s.size:Int) (s.size:Int) (by omega) (by omega) (by rw [aa];omega) (by omega)
  have am:=events_make (P:=Tryz.prog) w 155 5 ie (.int .u8 0) Tryz.underlying155 hi ae .i64 .i64 (s.size:Int) (s.size:Int) (by omega) (by omega) (by rw [aa];omega) (by omega) (by rw [aa];omega) #[]
  rw [<-hM] at ah
  refine ⟨by simp [go_sem,ah],λe J=>?_⟩
  simp [go_sem,am] at J
 clear hM
 walk_nrm
 refine Wc.go 30 λK w z=>?_
 u_op At.en z
 u_c stepG_region_end At.en z
 u_c stepG_seq At.en z
 u_reg At.en z
 iterate 2 u_op At.en z
 refine Goes.stop λ_ E=>Wc.use ?_ (z.en E)
 clear z
 obtain ⟨Y,hY⟩:∃Y,Y=(M.toList.take 0++Lib.byteCells s.data.toList++M.toList.drop (0+s.size)).toArray:=⟨_,rfl⟩
 have af:Y.toList=Lib.byteCells s.data.toList:=by
  rw [hY,List.toList_toArray,List.take_zero,dM,List.drop_of_length_le (by rw [jk];omega),fU]
 have ar:Y.size=s.size:=by rw [<-jk,af,Lib.byteCells_length,<-Lib.size_eq]
 refine Wc.op rfl rfl (base_kind _) λw I=>⟨goInt s.size,w.setRow n Y,(n,.cells Y 5)::L,.inl ?run,?turn,?_⟩
 case run=>
  have ac:=Lib.run_copy_row_string (P:=Tryz.prog) w 155 9 3 5 n 0 s.size s.size s M 5 Tryz.underlying155 (by rw [hi];simp [ag]) (nK I) jC (by omega)
  rw [<-hY] at ac
  simp [go_sem,ac]
 case turn=>
  refine Turn.set (i:=0) I rfl (by simp) (λx hx=>setRow_other _ _ _ _ hx) (setRow_heap _ _ M _ _ _ (nK I)) rfl rfl rfl λe J=>?_
  have J:e∈(Builtin.copy_ #[155,9] 3 #[.slice (some ⟨n,0,none⟩) s.size s.size,.string s]).events Tryz.prog w #[]:=by simpa [go_sem] using mem_listed J
  have hp:=KJ (YG _ _ _) J
  simp [Builtin.copy_,run_underlying Tryz.underlying155,Builtin.lenOf,Builtin.firstCells,sizeOf,typeInfo,hi] at J
  have aj:List.take s.size (List.map (λb:UInt8=>Value.int IntKind.u8 (b.toNat:Int)) s.data.toList)=Lib.byteCells s.data.toList:=by
   rw [dV (by rw [aU,<-Lib.size_eq];exact jC)]
   rfl
  rw [aj] at J
  have ap:(Lib.byteCells s.data.toList).length=s.size:=by rw [Lib.byteCells_length,<-Lib.size_eq]
  rcases events_storeCells_at n 0 5 (Lib.byteCells s.data.toList) 0 M w #[] (nK I) (by omega) (Lib.byteCells_one _) e J with k|⟨ad,k1,k2⟩
  ·simp at k
  ·exact RS hp k1 ⟨_,.head _,k2.symm⟩
 clear I hY an M
 walk_nrm
 have ao:0 < s.size:=by omega
 refine Wc.go 30 λK w z=>?_
 u_c stepG_region_end At.en z
 u_c stepG_seq At.en z
 u_reg At.en z
 iterate 4 u_op At.en z
 refine Goes.stop λ_ E=>Wc.use ?_ (z.en E)
 clear z
 have R:s.data.toList≠[]:=λe=>h0 (by rw [Lib.size_eq,e];rfl)
 have ai:∀(w:World),w.heap[n]? =some (.cells Y 5 (0,0))->∀j x,s.data.toList[j]? =some x->w.cell? ((⟨n,0,none⟩:Addr).add j)=some (.int .u8 x.toNat):=λw hg j x hx=>Lib.cells_of_row hg Y.size j _ (by rw [dV (by rw [jk];exact jC),af];simp [Lib.byteCells,hx])
 refine Wc.op rfl rfl (base_kind _) λw I=>⟨.string s,w.freeze ⟨n,0,none⟩ s.size,(n,.cells Y 5 (0,s.size))::L,.inl ?run,?turn,?_⟩
 case run=>
  have ab:=Lib.run_unsafeString_row (P:=Tryz.prog) w 239 3 9 5 Tryz.underlying239 (by kernel_rfl) n Y.size (by unfold World.shape?;rw [nK I]) s.data.toList R (by rw [<-Lib.size_eq];omega) (by rw [<-Lib.size_eq];omega) (ai w (nK I))
  rw [<-Lib.size_eq] at ab
  simp [go_sem,ab]
 case turn=>
  have hf:(w.freeze ⟨n,0,none⟩ s.size).heap=w.heap.modify n λo=>match o with|.cells c e (lo,hi)=>.cells c e (if lo == hi then (0,0+s.size) else (min lo 0,max hi (0+s.size)))|o=>o:=by simp only [World.freeze,if_neg h0];rfl
  refine Turn.set (i:=0) I rfl (by rw [hf];simp) (λx hx=>by rw [hf,bI,if_neg (Ne.symm hx)]) (by rw [hf,bI,if_pos rfl,nK I];simp) (by simp [World.freeze,h0]) (by simp [World.freeze,h0]) (by simp [World.freeze,h0]) λe J=>?_
  have J:e∈(Builtin.unsafeString_ #[239,3] 9 #[.pointer (some ⟨n,0,none⟩),.int .i64 s.size]).events Tryz.prog w #[]:=by simpa [go_sem] using mem_listed J
  rw [Lib.size_eq] at J
  obtain ⟨a',rfl,k⟩:=aat 239 3 9 5 Tryz.underlying239 (by kernel_rfl) n Y.size (by unfold World.shape?;rw [nK I]) s.data.toList R (by rw [<-Lib.size_eq];omega) (by rw [<-Lib.size_eq];omega) (ai w (nK I)) e J
  exact .inl ⟨a',false,rfl,.inl ⟨_,.head _,k.symm⟩⟩
 clear I
 walk_nrm
 refine Wc.go 30 λK w z=>?_
 u_op At.en z
 u_c stepG_region_end At.en z
 refine Goes.stop λ_ E=>Wc.use ?_ (z.en E)
 refine .ret λtodo=>.yO rfl rfl rfl Tryz.func198 rfl rfl (Wc.drop (iQ _ _) ?_)
 rw [Frame.finish_at,ho]
 exact NX.out
theorem OQ (s:ByteArray) (hs:s.size<=16777216):ZV 151 #[.string s] (.string s):=by
 intro S m St K0 w0 L b a k cs ops i rest o xs aa J hw hk I hx R
 refine Wc.call J hw hk I Tryz.func151 rfl rfl ?_
 rw [hx]
 simp only [Tryz.ntmps151,dL,aN,bM,Nat.reduceAdd,Nat.reduceSub,cO,bZ,dN,cZ,dM,dH]
 have Y:Hid _:=R
 clear R
 refine Wc.go 30 λK w z=>?_
 u_c stepG_seq At.en z
 u_reg At.en z
 u_op At.en z
 u_c stepG_region_end At.en z
 u_c stepG_seq At.en z
 u_reg At.en z
 u_op At.en z
 refine Goes.stop λ_ E=>Wc.use ?_ (z.en E)
 clear z
 refine Qz s hs _ _ _ _ _ _ _ _ _ _ _ _ _ _ _ _ rfl rfl (base_kind _) rfl (by simp [Act.eval]) ?_
 walk_nrm
 refine Wc.go 30 λK w z=>?_
 u_op At.en z
 u_c stepG_region_end At.en z
 refine Goes.stop λ_ E=>Wc.use ?_ (z.en E)
 refine .ret λtodo=>.yO rfl rfl rfl Tryz.func151 rfl rfl ?_
 rw [Frame.finish_at,J]
 exact Y.out
end
end Cr
end Go.Proofs.YtpibpdpedjinhaaGreatDoor
