import Derived.Test.YtpibpdpedjinhaaGreatDoorU14
import Derived.Great.BuildSlice
import Derived.ArgAppend
set_option maxRecDepth 100000
set_option maxHeartbeats 4000000
namespace Go.Proofs.YtpibpdpedjinhaaGreatDoor
namespace Cr
open Go Go.Conc Go.ConcN Go.RowKit Go.Conc.Lib Go.ConcR.Gen Go.ConcN.Gen
open Go.ConcR (KK WgAt stA smA Payload DC0)
open Fr (big one fv)
set_option linter.unusedSimpArgs false
variable {n:Nat} {t:TypeId} {w:World}
theorem wn {o:Oper} {y:Nat->Option Bool} (h:o.guard=none):Region.wanted o y=true:=by simp [Region.wanted,h]
theorem X0 (u:World) (s:ByteArray) (i:Int) (j:Nat) (z:j < s.size) (e:i=(j:Int)):(Instr.index 9 (.string s) (.int .i64 i)).run Tryz.prog u=.ok (.int .u8 (s[j].toNat:Int)) u:=by
 subst e
 rw [run_index_string u _ s .i64 _ Tryz.underlying9,dif_pos (by omega)]
 simp
theorem wQ (l:Int) (n:Nat) (c:BoundsCode) (w:World) (es:Array Event) (E:0<=l) (z:l<=n):(Instr.sliceBound (.int .i64 l) n c).events Tryz.prog w es=es:=by
 have h2:¬l < 0:=by omega
 have h3:¬(n:Int) < l:=by omega
 simp [Instr.sliceBound,asIntOf,asInt,E,z,h2,h3]
theorem AO (s:ByteArray) (l h:Int) (w:World) (es:Array Event) (z:0<=l) (E:l<=h) (h2:h<=s.size):(Instr.slice 9 (.string s) (some (.int .i64 l)) (some (.int .i64 h)) none).events Tryz.prog w es=es:=by
 have k:=λc=>wQ l h.toNat c w es z (by omega)
 simp [Instr.slice,run_underlying Tryz.underlying9,Instr.sliceBounds,run_sliceBound,wQ,sliced,E,h2,(by omega:0<=h),z,k]
theorem L9 (s:ByteArray) (h:Int) (w:World) (es:Array Event) (z:0<=h) (h2:h<=s.size):(Instr.slice 9 (.string s) none (some (.int .i64 h)) none).events Tryz.prog w es=es:=by
 simp [Instr.slice,run_underlying Tryz.underlying9,Instr.sliceBounds,run_sliceBound,wQ,sliced,h2,z]
theorem Au (s:ByteArray) (l:Int) (w:World) (es:Array Event) (E:0<=l) (z:l<=s.size):(Instr.slice 9 (.string s) (some (.int .i64 l)) none none).events Tryz.prog w es=es:=by
 simp [Instr.slice,run_underlying Tryz.underlying9,Instr.sliceBounds,run_sliceBound,wQ,sliced,z,E]
theorem nU (s:ByteArray) (lo z:Option Value) (w:World) (es:Array Event) (h:(Instr.slice 9 (.string s) lo z none).events Tryz.prog w es=es):(Instr.sliceAt 9 (.string s) lo z none).events Tryz.prog w es=es:=by
 simp [Instr.sliceAt,h]
theorem BU (s:ByteArray) (i:Int) (w:World) (es:Array Event) (E:0<=i) (z:i < s.size):(Instr.index 9 (.string s) (.int .i64 i)).events Tryz.prog w es=es:=by
 simp [Instr.index,run_underlying Tryz.underlying9,go_sem,E,z]
abbrev F8 (ch z:Int) (d:ByteArray) (l:Bool):Array Value:=#[.int .u32 ch,.int .u16 z,.string d,.bool l]
abbrev Dx:Array Value:=F8 0 0 ⟨#[]⟩ false
noncomputable def Es:Array Oper:=match Tryz.f142.body with
 |some (.seq _ (.seq _ (.seq _ (.seq _ (.seq (.region _ ops _) _)))))=>ops
 |_=>#[]
theorem YR:fills 47 Es=true:=by kernel_rfl
section
variable {S:Who} {m:Nat} {St:jV->Goroutine->World->Prop} {K0:jV} {w0:World} {L:List (Nat×Obj)} {cs:List Frame}
theorem tJ {j:Nat} {c:Array Value} {z:Nat×Nat} (h:Lies ((n,.cells c t z)::L) w0.heap.size w):w.cell? ⟨n,j,none⟩=c[j]?:=by
 have:=nK h
 simp [World.cell?,this]
theorem abY {a b c d x y z u:Value} (h:w.heap[n]? =some (.cells #[a,b,c,d] t)):(((w.setCell ⟨n,0,none⟩ x).setCell ⟨n,1,none⟩ y).setCell ⟨n,2,none⟩ z).setCell ⟨n,3,none⟩ u=w.putObj n (.cells #[x,y,z,u] t):=by
 simp only [World.setCell,World.putObj]
 congr 1
 apply fP
 intro j
 by_cases e:n=j
 ·subst e
  have E:=(jE h)
  rw [bI,if_pos rfl,bI,if_pos rfl,bI,if_pos rfl,bI,if_pos rfl,h,aO,if_pos rfl,if_pos E]
  rfl
 ·simp [bI,e]
theorem pF {c0 n0 z E:Int} {d0 Y:ByteArray} {l0 l1:Bool} {p q:Operand} {a:Act} {o:Oper} (hp:a.eval p=.pointer (some ⟨n,0,none⟩)) (hq:a.eval q=.agg (F8 z E Y l1)) (R:o.op=.store 81 p q) (w:World) (hl:Lies ((n,.cells (F8 c0 n0 d0 l0) 81)::L) w0.heap.size w):
  (execOp a.eval o).run Tryz.prog w=.ok .skip (w.putObj n (.cells (F8 z E Y l1) 81))/\∀e∈(execOp a.eval o).events Tryz.prog w #[],EvA ((n,.cells (F8 c0 n0 d0 l0) 81)::L) w.heap.size w.heap.size e:=by
 have h:=nK hl
 have b1:(w.setCell ⟨n,0,none⟩ (.int .u32 z)).heap[n]? =some (.cells #[.int .u32 z,.int .u16 n0,.string d0,.bool l0] 81):=by simp [World.setCell,bI,h]
 have b2:((w.setCell ⟨n,0,none⟩ (.int .u32 z)).setCell ⟨n,1,none⟩ (.int .u16 E)).heap[n]? =some (.cells #[.int .u32 z,.int .u16 E,.string d0,.bool l0] 81):=by simp [World.setCell,bI,h]
 have b3:(((w.setCell ⟨n,0,none⟩ (.int .u32 z)).setCell ⟨n,1,none⟩ (.int .u16 E)).setCell ⟨n,2,none⟩ (.string Y)).heap[n]? =some (.cells #[.int .u32 z,.int .u16 E,.string Y,.bool l0] 81):=by simp [World.setCell,bI,h]
 have I:=aA h 0
 have J:=aA b1 1
 have aa:=aA b2 2
 have ab:=aA b3 3
 have z0:=aI h 0
 have z1:=aI b1 1
 have z2:=aI b2 2
 have z3:=aI b3 3
 constructor
 ·unfold execOp
  simp only [R,hp,hq]
  rw [<-abY h]
  simp [go_sem,stored,I,z0,J,z1,aa,z2,ab,z3]
 ·unfold execOp
  simp only [R,hp,hq]
  intro e he
  simp [go_sem,stored,storedEv,I,z0,J,z1,aa,z2,ab,z3,events_store _ _ _ _ _ _ (show (Value.string Y).oneCell'=true from rfl),events_store _ _ _ _ _ _ (show (Value.bool l1).oneCell'=true from rfl)] at he
  rcases he with rfl|rfl|rfl|rfl<;>exact Gy
theorem pU {c I:Int} {d:ByteArray} {l:Bool} {E J:Value} {a:Act} {todo:List Item} {cf:Frame} (hd:a.defers=[]) (t2:a.tmps[2]? =some (.pointer (some ⟨n,0,none⟩))) (t3:a.tmps[3]? =some E) (t4:a.tmps[4]? =some J)
  (nx:Wc Tryz.prog S m St K0 w0 L (G (cf.finish (.tuple #[.agg (F8 c I d l),E,J])) cs)):Wc Tryz.prog S m St K0 w0 ((n,.cells (F8 c I d l) 81)::L) (G { (base 142).at a todo with mode:=.returning } (cf::cs)):=by
 refine Wc.leave (.tuple #[.agg (F8 c I d l),E,J]) rfl hd rfl Tryz.func142 (λw z=>?_) (Wc.drop (iQ _ _) nx)
 have c0:=tJ (j:=0) z
 have R:=tJ (j:=1) z
 have Y:=tJ (j:=2) z
 have c3:=tJ (j:=3) z
 refine ⟨by simp [results,Tryz.results142,go_sem,Frame.at,t2,t3,t4,c0,R,Y,c3],λe he=>?_⟩
 simp [results,Tryz.results142,go_sem,Frame.at,t2,t3,t4,c0,R,Y,c3] at he
 rcases he with rfl|rfl|rfl|rfl<;>exact Gy
end
def zf (s D:ByteArray) (E z c N:Nat) (lb:Bool) (i:Nat):Value:=(#[.string s,.string (s.extract 0 4),.int .u32 E,.string s,.string (s.extract 4 6),.int .u32 z,.int .u16 z,.string s,.int .i64 (8+(N:Int)+1),.int .i64 (8+(N:Int)),.string D,.string D,.string s,.int .i64 (8+(N:Int)+1),.int .i64 (8+(N:Int)),.int .u8 c,.bool lb,.agg (F8 E z D lb),.int .i64 (8+(N:Int)+1),undef,.int .i64 (8+(N:Int)+1),.bool true]:Array Value).getD i undef
def Zx (n E z:Nat) (D:ByteArray) (lb:Bool) (L:List (Nat×Obj)) (l:Array Bool):List (Nat×Obj):=(n,if l.getD 19 false then .cells (F8 E z D lb) 81 else .cells Dx 81)::L
section
variable {S:Who} {m:Nat} {St:jV->Goroutine->World->Prop} {K0:jV} {w0:World} {L:List (Nat×Obj)} {cs:List Frame} {cf:Frame}
theorem YC {s D:ByteArray} {C4 C2 c N:Nat} {lb:Bool} (hs:s.size<=16777216) (ag:(8:Int)<=(s.size:Int)) (av:8+N < s.size) (l4:C2 < 65536) (aq:∀u:World,(Instr.index 9 (.string s) (.int .i64 (8+(N:Int)))).run Tryz.prog u=.ok (.int .u8 (c:Int)) u) (au:((c:Int) == 1)=lb) (hD:s.extract 8 (8+N)=D) (ap:D.size<=16777216)
  (n4:ZV 194 #[.string (s.extract 4 6)] (.int .u32 C2)) (n0:ZV 194 #[.string (s.extract 0 4)] (.int .u32 C4)) (nx:Wc Tryz.prog S m St K0 w0 L (G (cf.finish (.tuple #[.agg (F8 C4 C2 D lb),.int .i64 (8+(N:Int)+1),.bool true])) cs))
  (a:Act) (ha:a.tmps.size=47/\a.defers=[]/\a.tmps[2]? =some (.pointer (some ⟨n,0,none⟩))/\a.tmps[0]? =some (.string s)/\a.tmps[5]? =some (.int .i64 (8+(N:Int)+1))):
  Wc Tryz.prog S m St K0 w0 ((n,.cells Dx 81)::L) (G ((base 142).at a [.code (.seq (.region 6 Es true) .ret)]) (cf::cs)):=by
 refine Wc.seq (Wc.fill (V:=zf s D C4 C2 c N lb) (L':=(n,.cells (F8 C4 C2 D lb) 81)::L) (by rw [ha.1];exact YR) (λl a' hl hF=>?_) (Zx n C4 C2 D lb L) rfl (λl hl=>by rw [Zx,hl 19 (by decide)];rfl) λl a' i o rest R hi ao hF Y=>?_)
 ·have e:∀{i t},i < 22->mO Es i=some t->a'.tmps[t]? =some (zf s D C4 C2 c N lb i):=λhi hd=>hF.got _ _ hd (hl _ hi)
  exact .ret λtodo=>pU (hF.defers.trans ha.2.1) ((hF.slot (by kernel_rfl)).trans ha.2.2.1) (e (i:=20) (by decide) rfl) (e (i:=21) (by decide) rfl) nx
 ·have keep:i≠19->Zx n C4 C2 D lb L (l.setIfInBounds i true)=Zx n C4 C2 D lb L l:=λe=>by simp only [Zx,getD_set_ne false e]
  have go:i≠19->o.guard=none->(∀w,(execOp a'.eval o).run Tryz.prog w=.ok (.value (zf s D C4 C2 c N lb i)) w)->(∀w,∀e∈(execOp a'.eval o).events Tryz.prog w #[],False)->Wc Tryz.prog S m St K0 w0 (Zx n C4 C2 D lb L l) (G ((base 142).at a' (.inRegion Es (i::rest)::[.code .ret])) (cf::cs)):=λe J hr E=>
   Wc.rd _ R (wn J) (base_kind _) (λw _=>⟨hr w,λe h=>(E w e h).elim⟩) (by rw [keep e] at Y;exact Y)
  have ak:=(jE R)
  have I:∀j t,waits Es i j=true->mO Es j=some t->a'.eval (.tmp t)=zf s D C4 C2 c N lb j:=λj t hw hd=>hF.ev hd (ao j hw)
  have e0:=hF.old (s:=0) (by kernel_rfl) ha.2.2.2.1
  have e5:=hF.old (s:=5) (by kernel_rfl) ha.2.2.2.2
  have ah:(4:Int)<=(s.size:Int):=by omega
  have ai:(6:Int)<=(s.size:Int):=by omega
  have hN:8+(N:Int)<=(s.size:Int):=by omega
  have af:IntKind.u16.wrap (C2:Int)=(C2:Int):=by rw [IntKind.wrap_u16];omega
  have ac:IntKind.i64.wrap (8+(N:Int))=8+(N:Int):=by rw [IntKind.wrap_i64];omega
  have ab:IntKind.i64.wrap (8+(N:Int)+1 - 1)=8+(N:Int):=by rw [IntKind.wrap_i64];omega
  have aa:8+(N:Int)+1 - 1=8+(N:Int):=by omega
  have am:=λw es=>nU s _ _ w es (L9 s 4 w es (by omega) ah)
  have ar:=λw es=>nU s _ _ w es (AO s 4 6 w es (by omega) (by omega) ai)
  have aj:=λw es=>nU s _ _ w es (AO s 8 (8+(N:Int)) w es (by omega) (by omega) hN)
  have an:=λw es=>BU s (8+(N:Int)) w es (by omega) (by omega)
  have sl:∀u:World,(Instr.slice 9 (.string s) (some (.int .i64 8)) (some (.int .i64 (8+(N:Int)))) none).run Tryz.prog u=.ok (.string D) u:=λu=>by rw [run_slice_string u _ s .i64 .i64 _ _ Tryz.underlying9 (by omega) (by omega) hN,show s.extract (8:Int).toNat (8+(N:Int)).toNat=D by rw [<-hD];congr 1]
  have bd:∀w:World,(Instr.build 81 #[(0,.int .u32 C4),(1,.int .u16 C2),(2,.string D),(3,.bool lb)]).run Tryz.prog w=.ok (.agg (F8 C4 C2 D lb)) w:=λw=>run_build w _ _ _ (by kernel_rfl)
  match i,ak with
  |0,_=>
   obtain ⟨z,J⟩:=kL (.move (.tmp 0),none) R rfl
   refine go (by decide) J (λw=>?_) λw e E=>?_
   ·unfold execOp
    simp only [z,e0]
    rfl
   ·unfold execOp at E
    simp only [z,e0] at E
    simp [go_sem] at E
  |1,_=>
   obtain ⟨z,J⟩:=kL (.slice 9 (.tmp 28) none (some (.const (.int .i64 4))) none,none) R rfl
   refine go (by decide) J (λw=>?_) λw e E=>?_
   ·unfold execOp
    simp only [z,jf,bQ,I 0 28 rfl rfl]
    simp [zf,go_sem,ag,ah]
   ·unfold execOp at E
    simp only [z,jf,bQ,I 0 28 rfl rfl] at E
    simp [zf,go_sem,am] at E
  |2,_=>
   obtain ⟨z,J⟩:=kL (.call { callee:=.value (.func 194),args:=#[.tmp 29],argTypes:=#[9] },none) R rfl
   have hn:=Y
   rw [keep (by decide)] at hn
   exact n0 _ _ _ _ _ _ _ _ _ _ _ _ _ _ _ _ R (wn J) (base_kind _) z (by simp [I 1 29 rfl rfl,zf]) hn
  |3,_=>
   obtain ⟨z,J⟩:=kL (.move (.tmp 0),none) R rfl
   refine go (by decide) J (λw=>?_) λw e E=>?_
   ·unfold execOp
    simp only [z,e0]
    rfl
   ·unfold execOp at E
    simp only [z,e0] at E
    simp [go_sem] at E
  |4,_=>
   obtain ⟨z,J⟩:=kL (.slice 9 (.tmp 31) (some (.const (.int .i64 4))) (some (.const (.int .i64 6))) none,none) R rfl
   refine go (by decide) J (λw=>?_) λw e E=>?_
   ·unfold execOp
    simp only [z,jf,bQ,I 3 31 rfl rfl]
    simp [zf,go_sem,ag,ai]
   ·unfold execOp at E
    simp only [z,jf,bQ,I 3 31 rfl rfl] at E
    simp [zf,go_sem,ar] at E
  |5,_=>
   obtain ⟨z,J⟩:=kL (.call { callee:=.value (.func 194),args:=#[.tmp 32],argTypes:=#[9] },none) R rfl
   have hn:=Y
   rw [keep (by decide)] at hn
   exact n4 _ _ _ _ _ _ _ _ _ _ _ _ _ _ _ _ R (wn J) (base_kind _) z (by simp [I 4 32 rfl rfl,zf]) hn
  |6,_=>
   obtain ⟨z,J⟩:=kL (.convert 22 79 (.tmp 33),none) R rfl
   refine go (by decide) J (λw=>?_) λw e E=>?_
   ·unfold execOp
    simp only [z,I 5 33 rfl rfl]
    simp [zf,go_sem,af]
   ·unfold execOp at E
    simp only [z,I 5 33 rfl rfl] at E
    simp [zf,go_sem] at E
  |7,_=>
   obtain ⟨z,J⟩:=kL (.move (.tmp 0),none) R rfl
   refine go (by decide) J (λw=>?_) λw e E=>?_
   ·unfold execOp
    simp only [z,e0]
    rfl
   ·unfold execOp at E
    simp only [z,e0] at E
    simp [go_sem] at E
  |8,_=>
   obtain ⟨z,J⟩:=kL (.move (.tmp 5),none) R rfl
   refine go (by decide) J (λw=>?_) λw e E=>?_
   ·unfold execOp
    simp only [z,e5]
    rfl
   ·unfold execOp at E
    simp only [z,e5] at E
    simp [go_sem] at E
  |9,_=>
   obtain ⟨z,J⟩:=kL (.binOp .sub 3 (.tmp 36) (.const (.int .i64 1)) 3,none) R rfl
   refine go (by decide) J (λw=>?_) λw e E=>?_
   ·unfold execOp
    simp only [z,I 8 36 rfl rfl]
    simp [zf,go_sem,ab,aa,ac]
   ·unfold execOp at E
    simp only [z,I 8 36 rfl rfl] at E
    simp [zf,go_sem] at E
  |10,_=>
   obtain ⟨z,J⟩:=kL (.slice 9 (.tmp 35) (some (.const (.int .i64 8))) (some (.tmp 37)) none,none) R rfl
   refine go (by decide) J (λw=>?_) λw e E=>?_
   ·unfold execOp
    simp only [z,jf,bQ,I 7 35 rfl rfl,I 9 37 rfl rfl]
    simp [zf,go_sem,sl w]
   ·unfold execOp at E
    simp only [z,jf,bQ,I 7 35 rfl rfl,I 9 37 rfl rfl] at E
    simp [zf,go_sem,aj] at E
  |11,_=>
   obtain ⟨z,J⟩:=kL (.call { callee:=.value (.func 151),args:=#[.tmp 38],argTypes:=#[9] },none) R rfl
   have hn:=Y
   rw [keep (by decide)] at hn
   exact OQ D ap _ _ _ _ _ _ _ _ _ _ _ _ _ _ _ _ R (wn J) (base_kind _) z (by simp [I 10 38 rfl rfl,zf]) hn
  |12,_=>
   obtain ⟨z,J⟩:=kL (.move (.tmp 0),none) R rfl
   refine go (by decide) J (λw=>?_) λw e E=>?_
   ·unfold execOp
    simp only [z,e0]
    rfl
   ·unfold execOp at E
    simp only [z,e0] at E
    simp [go_sem] at E
  |13,_=>
   obtain ⟨z,J⟩:=kL (.move (.tmp 5),none) R rfl
   refine go (by decide) J (λw=>?_) λw e E=>?_
   ·unfold execOp
    simp only [z,e5]
    rfl
   ·unfold execOp at E
    simp only [z,e5] at E
    simp [go_sem] at E
  |14,_=>
   obtain ⟨z,J⟩:=kL (.binOp .sub 3 (.tmp 41) (.const (.int .i64 1)) 3,none) R rfl
   refine go (by decide) J (λw=>?_) λw e E=>?_
   ·unfold execOp
    simp only [z,I 13 41 rfl rfl]
    simp [zf,go_sem,ab,aa,ac]
   ·unfold execOp at E
    simp only [z,I 13 41 rfl rfl] at E
    simp [zf,go_sem] at E
  |15,_=>
   obtain ⟨z,J⟩:=kL (.index 9 (.tmp 40) (.tmp 42),none) R rfl
   refine go (by decide) J (λw=>?_) λw e E=>?_
   ·unfold execOp
    simp only [z,I 12 40 rfl rfl,I 14 42 rfl rfl]
    simp [zf,go_sem,aq]
   ·unfold execOp at E
    simp only [z,I 12 40 rfl rfl,I 14 42 rfl rfl] at E
    simp [zf,go_sem,an] at E
  |16,_=>
   obtain ⟨z,J⟩:=kL (.binOp .eql 5 (.tmp 43) (.const (.int .u8 1)) 5,none) R rfl
   refine go (by decide) J (λw=>?_) λw e E=>?_
   ·unfold execOp
    simp only [z,I 15 43 rfl rfl]
    simp [zf,go_sem,au]
   ·unfold execOp at E
    simp only [z,I 15 43 rfl rfl] at E
    simp [zf,go_sem] at E
  |17,_=>
   obtain ⟨z,J⟩:=kL (.build 81 #[(0,.tmp 30),(1,.tmp 34),(2,.tmp 39),(3,.tmp 44)],none) R rfl
   refine go (by decide) J (λw=>?_) λw e E=>?_
   ·unfold execOp
    simp only [z,fJ,dW,fG,I 2 30 rfl rfl,I 6 34 rfl rfl,I 11 39 rfl rfl,I 16 44 rfl rfl]
    simp [zf,go_sem,bd]
   ·unfold execOp at E
    simp only [z,fJ,dW,fG,I 2 30 rfl rfl,I 6 34 rfl rfl,I 11 39 rfl rfl,I 16 44 rfl rfl] at E
    simp [zf,go_sem] at E
  |18,_=>
   obtain ⟨z,J⟩:=kL (.move (.tmp 5),none) R rfl
   refine go (by decide) J (λw=>?_) λw e E=>?_
   ·unfold execOp
    simp only [z,e5]
    rfl
   ·unfold execOp at E
    simp only [z,e5] at E
    simp [go_sem] at E
  |19,_=>
   obtain ⟨z,J⟩:=kL (.store 81 (.tmp 2) (.tmp 45),none) R rfl
   have ae:=F6 hi
   have hn:=Y
   simp only [Zx,ae.1,ae.2,if_true,if_false,bJ] at hn⊢
   exact Wc.st (j:=0) (.cells (F8 C4 C2 D lb) 81) rfl R (wn J) (base_kind _) (λw hl=>pF (hF.old (s:=2) (by kernel_rfl) ha.2.2.1) (I 17 45 rfl rfl) z w hl) hn
  |20,_=>
   obtain ⟨z,J⟩:=kL (.assign (.tmp 46),none) R rfl
   refine go (by decide) J (λw=>?_) λw e E=>?_
   ·unfold execOp
    simp only [z,I 18 46 rfl rfl]
    rfl
   ·unfold execOp at E
    simp only [z,I 18 46 rfl rfl] at E
    simp [go_sem] at E
  |21,_=>
   obtain ⟨z,J⟩:=kL (.assign (.const (.bool true)),none) R rfl
   refine go (by decide) J (λw=>?_) λw e E=>?_
   ·unfold execOp
    simp only [z]
    rfl
   ·unfold execOp at E
    simp only [z] at E
    simp [go_sem] at E
end
theorem OY (s:ByteArray) (hs:s.size<=16777216):ZV 142 #[.string s] (fv (one s.data.toList 0)):=by
 intro S m St K0 w0 L b a k cs ops i rest o xs a0 ho hw hk ai hx nx
 refine Wc.call ho hw hk ai Tryz.func142 rfl rfl ?_
 rw [hx]
 simp only [Tryz.ntmps142,dL,aN,bM,Nat.reduceAdd,Nat.reduceSub,cO,bZ,dN,cZ,dM,dH]
 have nx:Wc Tryz.prog S m St K0 w0 L (G ((b.at a (.inRegion ops (i::rest)::k)).finish (fv (one s.data.toList 0))) cs):=by
  rw [fF,ho]
  exact nx
 have hl:=aV s
 obtain ⟨R,hR⟩:∃R,one s.data.toList 0=R:=⟨_,rfl⟩
 rw [hR] at nx
 generalize b.at a (.inRegion ops (i::rest)::k)=cf at nx
 have NX:Hid _:=nx
 have el:=FD
 clear nx ho hw hk ai hx
 refine Wc.seq (Wc.reg [0,1,2] rfl ?_)
 refine Wc.al (.cells Dx 81) (λn=>.pointer (some ⟨n,0,none⟩)) rfl rfl (base_kind _) (λw hl=>⟨by simp [go_sem],λe he=>by simp [go_sem] at he⟩) λn=>?_
 walk_nrm
 by_cases h8:s.size < 8
 ·obtain rfl:R=none:=hR.symm.trans (Fr.IX (by omega))
  have aq:(s.size:Int) < 8:=by omega
  clear hl hR
  refine Wc.go 30 λK w z=>?_
  iterate 2 u_op At.en z
  u_c stepG_region_end At.en z
  iterate 2 u_c stepG_seq At.en z
  u_reg At.en z
  iterate 3 u_op At.en z
  u_c stepG_region_end At.en z
  u_cond true At.en z
  u_c stepG_seq At.en z
  u_reg At.en z
  u_op At.en z
  refine Goes.stop λ_ E=>Wc.use ?_ (z.en E)
  clear z
  refine Wc.st (j:=0) (.cells Dx 81) rfl rfl rfl (base_kind _) (λw hl=>pF rfl rfl rfl w hl) ?_
  walk_nrm
  refine Wc.go 30 λK w z=>?_
  iterate 2 u_op At.en z
  u_c stepG_region_end At.en z
  refine Goes.stop λ_ E=>Wc.use ?_ (z.en E)
  exact .ret λtodo=>pU rfl rfl rfl rfl NX.out
 have aq:¬(s.size:Int) < 8:=by omega
 have ac:(8:Int)<=(s.size:Int):=by omega
 have e6:big (s.extract 6 8).data.toList 0 (s.extract 6 8).size=big s.data.toList 6 2:=by
  rw [Fr.ext_list,show (s.extract 6 8).size=2 from by simp [eG];omega]
  exact Fr.FX s.data.toList 6 2
 have e4:big (s.extract 4 6).data.toList 0 (s.extract 4 6).size=big s.data.toList 4 2:=by
  rw [Fr.ext_list,show (s.extract 4 6).size=2 from by simp [eG];omega]
  exact Fr.FX s.data.toList 4 2
 have e0:big (s.extract 0 4).data.toList 0 (s.extract 0 4).size=big s.data.toList 0 4:=by
  rw [Fr.ext_list,show (s.extract 0 4).size=4 from by simp [eG];omega]
  exact Fr.FX s.data.toList 0 4
 have n6:=uO (s.extract 6 8) (by simp [eG];omega)
 have n4:=uO (s.extract 4 6) (by simp [eG];omega)
 have n0:=uO (s.extract 0 4) (by simp [eG];omega)
 rw [e6] at n6
 rw [e4] at n4
 rw [e0] at n0
 clear e6 e4 e0
 have l6:=Fr.sJ s.data.toList 6 2
 have l0:=Fr.sJ s.data.toList 0 4
 have l4:=Fr.sJ s.data.toList 4 2
 simp only [Nat.reducePow] at l6 l0 l4
 have I:s.size≠8->one s.data.toList 0=_:=λh=>Fr.Xk (s:=s.data.toList) (p:=0) (by omega)
 simp only [fC] at I
 generalize hN:big s.data.toList 6 2=N at *
 generalize au:big s.data.toList 0 4=C4 at *
 generalize am:big s.data.toList 4 2=C2 at *
 have N6:Hid _:=n6
 have N4:Hid _:=n4
 have N0:Hid _:=n0
 have J:Hid _:=I
 have Hl:Hid _:=hl
 have HR:Hid _:=hR
 clear n6 n4 n0 I hl hN au am hR
 refine Wc.go 30 λK w z=>?_
 iterate 2 u_op At.en z
 u_c stepG_region_end At.en z
 iterate 2 u_c stepG_seq At.en z
 u_reg At.en z
 iterate 3 u_op At.en z
 u_c stepG_region_end At.en z
 u_cond false At.en z
 u_c stepG_skip At.en z
 u_c stepG_seq At.en z
 u_reg At.en z
 u_op At.en z
 have ev:=λw es=>nU s _ _ w es (AO s 6 8 w es (by omega) (by omega) ac)
 u_op At.en z
 refine Goes.stop λ_ E=>Wc.use ?_ (z.en E)
 clear z ev
 refine N6.out _ _ _ _ _ _ _ _ _ _ _ _ _ _ _ _ rfl rfl (base_kind _) rfl (by simp [Act.eval]) ?_
 walk_nrm
 have az:IntKind.i64.wrap (N:Int)=N:=by rw [IntKind.wrap_i64];omega
 have aw:IntKind.i64.wrap (8+(N:Int))=8+(N:Int):=by rw [IntKind.wrap_i64];omega
 have ay:IntKind.i64.wrap (8+(N:Int)+1)=8+(N:Int)+1:=by rw [IntKind.wrap_i64];omega
 by_cases hn:s.size < 9+N
 ·have an:(s.size:Int) < 8+(N:Int)+1:=by omega
  obtain rfl:R=none:=HR.out.symm.trans (by
   by_cases h:s.size=8
   ·exact Fr.IX (by rw [<-Hl.out];omega)
   ·rw [J.out h,if_pos (by rw [<-Hl.out];exact hn)])
  refine Wc.go 40 λK w z=>?_
  iterate 4 u_op At.en z
  u_c stepG_region_end At.en z
  iterate 2 u_c stepG_seq At.en z
  u_reg At.en z
  iterate 5 u_op At.en z
  iterate 5 u_skip At.en z
  u_op At.en z
  u_c stepG_region_end At.en z
  u_cond true At.en z
  u_c stepG_seq At.en z
  u_reg At.en z
  u_op At.en z
  refine Goes.stop λ_ E=>Wc.use ?_ (z.en E)
  clear z
  refine Wc.st (j:=0) (.cells Dx 81) rfl rfl rfl (base_kind _) (λw hl=>pF rfl rfl rfl w hl) ?_
  walk_nrm
  refine Wc.go 30 λK w z=>?_
  iterate 2 u_op At.en z
  u_c stepG_region_end At.en z
  refine Goes.stop λ_ E=>Wc.use ?_ (z.en E)
  exact .ret λtodo=>pU rfl rfl rfl rfl NX.out
 have an:¬(s.size:Int) < 8+(N:Int)+1:=by omega
 have ab:8+N < s.size:=by omega
 have ah:∀u:World,(Instr.index 9 (.string s) (.int .i64 (8+(N:Int)))).run Tryz.prog u=.ok (.int .u8 (s[8+N].toNat:Int)) u:=λu=>X0 u s (8+(N:Int)) (8+N) ab (by omega)
 have a1:=λw es=>BU s (8+(N:Int)) w es (by omega) (by omega)
 have ag:=Fr.getD_byte s (8+N) ab
 obtain ⟨c,hc⟩:∃c:Nat,s[8+N].toNat=c:=⟨_,rfl⟩
 have a2:c < 256:=by rw [<-hc];exact UInt8.toNat_lt _
 rw [hc] at ah
 have Y:=J.out (by omega)
 rw [if_neg (by rw [<-Hl.out];omega),ag,hc] at Y
 have aa:Hid _:=Y
 have av:IntKind.i64.wrap (8+(N:Int)+1 - 1)=8+(N:Int):=by rw [IntKind.wrap_i64];omega
 have ax:8+(N:Int)+1 - 1=8+(N:Int):=by omega
 clear ag hc Y J
 by_cases aj:1 < c
 ·have ae:(1:Int) < (c:Int):=by omega
  obtain rfl:R=none:=HR.out.symm.trans (by rw [aa.out,if_pos aj])
  refine Wc.go 40 λK w z=>?_
  iterate 4 u_op At.en z
  u_c stepG_region_end At.en z
  iterate 2 u_c stepG_seq At.en z
  u_reg At.en z
  iterate 11 u_op At.en z
  u_c stepG_region_end At.en z
  u_cond true At.en z
  u_c stepG_seq At.en z
  u_reg At.en z
  u_op At.en z
  refine Goes.stop λ_ E=>Wc.use ?_ (z.en E)
  clear z
  refine Wc.st (j:=0) (.cells Dx 81) rfl rfl rfl (base_kind _) (λw hl=>pF rfl rfl rfl w hl) ?_
  walk_nrm
  refine Wc.go 30 λK w z=>?_
  iterate 2 u_op At.en z
  u_c stepG_region_end At.en z
  refine Goes.stop λ_ E=>Wc.use ?_ (z.en E)
  exact .ret λtodo=>pU rfl rfl rfl rfl NX.out
 ·have ae:¬(1:Int) < (c:Int):=by omega
  obtain ⟨lb,ak⟩:∃lb:Bool,((c:Int) == 1)=lb:=⟨_,rfl⟩
  have af:(c == 1)=lb:=by
   rw [<-ak]
   rcases (by omega:c=0\/c=1) with rfl|rfl<;>rfl
  obtain ⟨D,hD⟩:∃D:ByteArray,s.extract 8 (8+N)=D:=⟨_,rfl⟩
  have ao:(⟨((s.data.toList.take (8+N)).drop 8).toArray⟩:ByteArray)=D:=by rw [<-hD,<-Fr.ext_list]
  have ap:D.size<=16777216:=by rw [<-hD];simp [eG];omega
  have ar:fv R=.tuple #[.agg (F8 C4 C2 D lb),.int .i64 (8+(N:Int)+1),.bool true]:=by
   rw [<-HR.out,aa.out,if_neg aj,af]
   simp only [fv,ao,F8]
   congr 5
   omega
  rw [ar] at NX
  refine Wc.go 40 λK w z=>?_
  iterate 4 u_op At.en z
  u_c stepG_region_end At.en z
  iterate 2 u_c stepG_seq At.en z
  u_reg At.en z
  iterate 11 u_op At.en z
  u_c stepG_region_end At.en z
  u_cond false At.en z
  u_c stepG_skip At.en z
  refine Goes.stop λ_ E=>Wc.use ?_ (z.en E)
  clear z
  exact YC (c:=c) hs ac ab l4 ah ak hD ap N4.out N0.out NX.out _ ⟨rfl,rfl,rfl,rfl,rfl⟩
end Cr
namespace Hm
open Go.RowKit Go.Joins
section
variable {g off cap:Nat}
theorem jU {w:World} {b:Nat} {z:Array Value} {e:TypeId} {E:Nat×Nat} (h:w.heap[b]? =some (.cells z e E)) (i:Nat) (v:Value):(w.setCell ⟨b,i,none⟩ v).heap[b]? =some (.cells (z.setIfInBounds i v) e E):=block_setCell h v
theorem qF:∀(vs:List Value) (o:Nat) {w:World} {b:Nat} {E:Array Value} {e:TypeId} {R:Nat×Nat},w.heap[b]? =some (.cells E e R)->
  ∃z,(w.setCells b o vs).heap[b]? =some (.cells z e R)/\z.size=E.size/\(∀j,j < o\/o+vs.length<=j->z[j]? =E[j]?)/\∀j u,vs[j]? =some u->o+j < E.size->z[o+j]? =some u
 |[],o,w,b,E,e,R,h=>⟨E,h,rfl,λ_ _=>rfl,λj u I=>by simp at I⟩
 |v::vs,o,w,b,E,e,R,h=>by
  obtain ⟨z,h1,h2,h3,h4⟩:=qF vs (o+1) (jU h o v)
  refine ⟨z,h1,by rw [h2];simp,λj I=>?_,λj u I J=>?_⟩
  ·have Y:j < o\/o+(vs.length+1)<=j:=by simpa using I
   rw [h3 j (by omega),aO]
   rw [if_neg (by omega)]
  ·cases j with
   |zero=>
    simp at I
    subst I
    rw [Nat.add_zero,h3 o (by omega),aO]
    simp at J
    simp [J]
   |succ j=>
    have:=h4 j u (by simpa using I) (by simp;omega)
    rw [show o+(j+1)=o+1+j from by omega]
    exact this
theorem kN (b:Nat):∀(vs:List Value) (o:Nat) (w:World),w.grownBy (w.setCells b o vs) (some b)/\(w.setCells b o vs).heap.size=w.heap.size
 |[],o,w=>⟨⟨rfl,rfl,rfl,jC,λ_ _ _=>rfl⟩,rfl⟩
 |v::vs,o,w=>by
  obtain ⟨h,hs⟩:=kN b vs (o+1) (w.setCell ⟨b,o,none⟩ v)
  have E:(w.setCell ⟨b,o,none⟩ v).heap.size=w.heap.size:=by simp
  refine ⟨⟨h.os.trans ?_,h.tape.trans ?_,h.output.trans ?_,by rw [World.setCells,hs,E];exact jC,λk hk z=>(h.block k (by rw [E];exact hk) z).trans (aP _ _ _ _ (λI=>z (by rw [I])))⟩,by rw [World.setCells,hs,E]⟩
  ·rfl
  ·rfl
  ·rfl
def Row (w:World) (e s:Nat) (v:Value) (n:Nat) (xs:List Value):Prop:=
 xs.length=n * s/\((v=.slice none 0 0/\n=0)\/
  ∃g off cap z,v=.slice (some ⟨g,off,none⟩) n cap/\w.heap[g]? =some (.cells z e (0,0))/\n<=cap/\cap<=maxLen/\off+cap * s<=z.size/\∀j u,xs[j]? =some u->z[off+j]? =some u)
section
variable {w w':World} {e s:Nat} {v:Value} {n:Nat} {xs:List Value}
theorem Row.slice (h:Row w e s v n xs):∃a cap,v=.slice a n cap:=by
 rcases h.2 with ⟨rfl,rfl⟩|⟨g,off,cap,z,rfl,_⟩
 ·exact ⟨_,_,rfl⟩
 ·exact ⟨_,_,rfl⟩
theorem Row.pos (h:Row w e s v n xs) (I:0 < n):∃g off cap,v=.slice (some ⟨g,off,none⟩) n cap/\n<=cap:=by
 rcases h.2 with ⟨rfl,rfl⟩|⟨g,off,cap,z,rfl,_,E,_⟩
 ·omega
 ·exact ⟨_,_,_,rfl,E⟩
theorem Row.obj (h:Row w e s v n xs) (E:v.ownBlock=some g):∃z,w.heap[g]? =some (.cells z e (0,0)):=by
 rcases h.2 with ⟨rfl,_⟩|⟨g',off,cap,z,rfl,I,_⟩
 ·simp [Value.ownBlock] at E
 ·simp [Value.ownBlock] at E
  subst E
  exact ⟨_,I⟩
theorem Row.lt (h:Row w e s v n xs) (E:v.ownBlock=some g):g < w.heap.size:=by
 obtain ⟨z,I⟩:=h.obj E
 exact (jE I)
theorem Row.kept (h:Row w e s v n xs) (hk:∀g,v.ownBlock=some g->w'.heap[g]? =w.heap[g]?):Row w' e s v n xs:=by
 refine ⟨h.1,?_⟩
 rcases h.2 with I|⟨g,off,cap,z,rfl,E,r⟩
 ·exact .inl I
 ·exact .inr ⟨g,off,cap,z,rfl,(hk g rfl).trans E,r⟩
theorem Row.nil (w:World) (e s:Nat):Row w e s (.slice none 0 0) 0 []:=⟨by simp,.inl ⟨rfl,rfl⟩⟩
theorem Row.Uo {lo:Nat} (h:w.ownsRow lo e s v n xs):Row w e s v n xs:=by
 have z:=h.1
 refine ⟨z,?_⟩
 rcases h.2 with h0|⟨g,cap,I,rfl,hb,hh,R,J,aa,Y⟩
 ·exact .inl h0
 ·refine .inr ⟨g,0,cap,I,rfl,hh,R,J,by omega,λj u E=>?_⟩
  rw [<-Y,gG] at E
  split at E
  ·rw [fC,<-E];simp
  ·cases E
theorem Row.cell (h:Row w e s v n xs) (z:v=.slice (some ⟨g,off,none⟩) n cap) (j:Nat) (u:Value) (R:xs[j]? =some u):w.cell? ⟨g,off+j,none⟩=some u:=by
 rcases h.2 with ⟨rfl,_⟩|⟨g',E,I,J,rfl,Y,_,_,_,hc⟩
 ·cases z
 ·simp only [Value.slice.injEq,aC,Addr.mk.injEq,and_true,true_and] at z
  obtain ⟨⟨rfl,rfl⟩,rfl⟩:=z
  have:=hc j u R
  simp [World.cell?,Y,this]
theorem Row.frozen (h:Row w e s v n xs) (z:v=.slice (some ⟨g,off,none⟩) n cap) (i:Nat):w.frozen? ⟨g,i,none⟩=false:=by
 rcases h.2 with ⟨rfl,_⟩|⟨g',E,I,J,rfl,R,_⟩
 ·cases z
 ·simp only [Value.slice.injEq,aC,Addr.mk.injEq,and_true,true_and] at z
  obtain ⟨⟨rfl,rfl⟩,rfl⟩:=z
  exact aI R i
theorem Row.append {P:Program} (h:Row w e s v n xs) (t ty:TypeId) (i:TypeInfo) (z:Value) (bytes:Nat) (ht:P.underlying t=some (.slice e)) (hi:P.info? e=some i) (hz:i.zero=some z)
  (I:i.size=s) (ae:i.bytes=bytes) (am:z.cells.size=s) (aj:0 < s)
  (a:Addr) (m c:Nat) (E:List Value) (hm:0 < m) (hl:E.length=m * s) (R:∀j u,E[j]? =some u->w.cell? (a.add j)=some u) (h1:∀u∈E,u.oneCell'=true)
  (ac:n+m<=maxLen) (J:(n+m) * bytes<=140737488355328):
  ∃v' w',(Builtin.append_ #[t,t] ty #[v,.slice (some a) m c]).run P w=.ok v' w'/\Row w' e s v' (n+m) (xs++E)/\(∃g off cap,v'=.slice (some ⟨g,off,none⟩) (n+m) cap)/\
   ((v'.ownBlock=v.ownBlock/\w.grownBy w' v.ownBlock/\w'.heap.size=w.heap.size)\/(v'.ownBlock=some w.heap.size/\w.grownBy w' none/\w'.heap.size=w.heap.size+1)):=by
 have ai:∀b cap Y,Y.length=n * s->(∀j u,Y[j]? =some u->w.cell? (b.add j)=some u)->cap < n+m->
   ∃v' w',(Builtin.append_ #[t,t] ty #[.slice (some b) n cap,.slice (some a) m c]).run P w=.ok v' w'/\Row w' e s v' (n+m) (Y++E)/\(∃g off cap,v'=.slice (some ⟨g,off,none⟩) (n+m) cap)/\v'.ownBlock=some w.heap.size/\w.grownBy w' none/\w'.heap.size=w.heap.size+1:=by
  intro b cap Y an holds hg
  obtain ⟨v',w',hr,ho,ag⟩:=run_append_arg_grows (P:=P) w t ty e i z s bytes ht hi hz I ae am aj b n cap Y an holds a m c E hl R hg ac J
  have aa:=run_append_grow (P:=P) w t ty e i z ht hi hz b n cap Y (by rw [I];exact an) holds a m c E (by rw [I];exact hl) R hg (by simp only [maxLen] at ac;omega) (growslice_fits hg (by rw [ae];exact J))
  rw [hr] at aa
  simp only [Result.ok.injEq] at aa
  obtain ⟨e1,e2⟩:=aa
  exact ⟨v',w',hr,.Uo ho,⟨_,_,_,e1⟩,by rw [e1];rfl,ag,by rw [e2];simp⟩
 rcases h.2 with ⟨rfl,rfl⟩|⟨g,off,cap,ak,rfl,hh,a1,ap,ar,hc⟩
 ·have hx:xs=[]:=bD (by simpa using h.1)
  subst hx
  obtain ⟨v',w',hr,ho,ag,ay⟩:=run_append_own (P:=P) w w.heap.size t ty e i z s bytes ht hi hz I ae am aj (.slice none 0 0) 0 [] (World.ownsRow_nil w _ e s) a m c E hl R h1 ac J jC
  have aq:Row w' e s v' (0+m) ([]++E):=.Uo ho
  rcases ho.2 with ⟨rfl,h0⟩|⟨g,cap,ak,rfl,aw,hh,_⟩
  ·omega
  ·refine ⟨_,w',hr,aq,⟨_,_,_,rfl⟩,.inr ?_⟩
   have ah:w'.heap.size=w.heap.size+1:=by
    have aa:=run_append_nil (P:=P) w t ty e i z ht hi hz a m c E (by rw [I];exact hl) R (by omega) (by simp only [maxLen] at ac;omega) (by rw [ae];simp only [fC] at J;omega)
    rw [hr] at aa
    simp only [Result.ok.injEq] at aa
    rw [aa.2]
    simp
   have ax:=(jE hh)
   exact ⟨by simp [Value.ownBlock];omega,ag,ah⟩
 ·by_cases ab:n+m<=cap
  ·have av:n * s+E.length=(n+m) * s:=by rw [hl,iM]
   have a2:(n+m) * s<=cap * s:=fD _ ab
   have af:∀j,j < E.length->(w.cell? ⟨g,off+n * i.size+j,none⟩).isSome=true:=λj hj=>by
    have:off+n * i.size+j < ak.size:=by rw [I];omega
    simp [World.cell?,hh,bU this]
   have hr:=run_append_room_cells (P:=P) w t ty e i ht hi g off n cap a m c E (by rw [I];exact hl) R h1 ab af (λj _=>aI hh _)
   rw [I] at hr
   obtain ⟨ao,k1,k2,k3,k4⟩:=qF E (off+n * s) hh
   refine ⟨_,_,hr,⟨by rw [aJ,h.1,hl,iM],.inr ⟨g,off,cap,ao,rfl,k1,ab,ap,by rw [k2];exact ar,λj u hj=>?_⟩⟩,⟨_,_,_,rfl⟩,.inl ⟨rfl,(kN g E (off+n * s) w).1,(kN g E (off+n * s) w).2⟩⟩
   ·by_cases au:j < xs.length
    ·rw [bP au] at hj
     rw [k3 (off+j) (.inl (by rw [<-h.1];omega))]
     exact hc j u hj
    ·rw [bK (by omega)] at hj
     have a0:=(aF.1 hj).1
     have az:=h.1
     have:=k4 (j - xs.length) u hj (by omega)
     rw [show off+j=off+n * s+(j - xs.length) from by omega]
     exact this
  ·obtain ⟨v',w',hr,h2,h3,h4,h5,h6⟩:=ai ⟨g,off,none⟩ cap xs h.1 (λj u hj=>by
    have:=h.cell rfl j u hj
    unfold Addr.add
    split
    ·rename_i h0;subst h0;simpa using this
    ·exact this) (by omega)
   exact ⟨v',w',hr,h2,h3,.inr ⟨h4,h5,h6⟩⟩
end
end
end Hm
namespace Cr
open Go Go.Conc Go.ConcN Go.RowKit Go.Conc.Lib Go.ConcR.Gen Go.ConcN.Gen
open Go.ConcR (KK WgAt stA smA Payload DC0)
open Fr (F flat)
section
variable {v:Value} {fs:List F} {R:List (Nat×Obj)}
def yu (v:Value) (fs:List F) (R:List (Nat×Obj)):Prop:=
 (v=.slice none 0 0/\fs=[]/\R=[])\/∃g cap z,v=.slice (some ⟨g,0,none⟩) fs.length cap/\R=[(g,.cells z 81)]/\fs.length<=cap/\cap<=maxLen/\z.size=cap * 4/\z.toList.take (fs.length * 4)=flat fs
theorem yu.slice (h:yu v fs R):∃a c,v=.slice a fs.length c:=by
 rcases h with ⟨rfl,rfl,_⟩|⟨g,cap,z,rfl,_⟩<;>exact ⟨_,_,rfl⟩
abbrev xE (x:F):Array Value:=F8 x.chan x.num ⟨x.data.toArray⟩ x.last
theorem Nc:(Tryz.prog.info? 81).map (λi=>(i.zero,i.size,i.bytes))=some (some (.agg Dx),4,32):=by kernel_rfl
theorem Xm {A L0:List (Nat×Obj)} {n0 n3:Nat} {x:F} {w:World} (hR:yu v fs R) (hl:Lies (A++(R++L0)) n0 w) (am:(n3,.cells (xE x) 81)∈A) (a1:fs.length < 1048576):
  ∃v' w' R',(Builtin.append_ #[76,76] 76 #[v,.slice (some ⟨n3,0,none⟩) 1 1]).run Tryz.prog w=.ok v' w'/\yu v' (fs++[x]) R'/\∀es:Array Event,(∀e∈es,e∈(Builtin.append_ #[76,76] 76 #[v,.slice (some ⟨n3,0,none⟩) 1 1]).events Tryz.prog w #[])->Turn (A++(R++L0)) (A++(R'++L0)) w w' es:=by
 obtain ⟨ie,hi,ac,ah,af⟩:∃i,Tryz.prog.info? 81=some i/\i.zero=some (.agg Dx)/\i.size=4/\i.bytes=32:=by
  have:=Nc
  cases h:Tryz.prog.info? 81 with
  |none=>rw [h] at this;cases this
  |some i=>
   rw [h] at this
   simp only [bQ,aC,dA] at this
   exact ⟨i,rfl,this.1,this.2.1,this.2.2⟩
 have Y:∀p∈A++(R++L0),w.heap[p.1]? =some p.2:=λp hp=>(hl.mem p hp).2
 have h3:=Y _ (List.mem_append_left _ am)
 have an:(flat fs).length=fs.length * 4:=Fr.flat_length fs
 have aa:w.ownsRow 0 81 4 v fs.length (flat fs):=by
  refine ⟨an,hR.imp (λh=>⟨h.1,by rw [h.2.1];rfl⟩) ?_⟩
  rintro ⟨g,cap,E,e,rfl,r⟩
  exact ⟨g,cap,E,e,dF _,Y (g,.cells E 81) (by simp),r⟩
 have ao:Hm.Row w 81 4 v fs.length (flat fs):=by
  refine ⟨an,hR.imp (λh=>⟨h.1,by rw [h.2.1];rfl⟩) ?_⟩
  rintro ⟨g,cap,E,e,rfl,r1,r2,r3,r4⟩
  refine ⟨g,0,cap,E,e,Y (g,.cells E 81) (by simp),r1,r2,by omega,λj u hj=>?_⟩
  rw [<-r4] at hj
  rw [fC,<-Array.getElem?_toList]
  have ar:j < fs.length * 4:=by
   have:=(aF.1 hj).1
   rw [aZ] at this
   omega
  rw [iF ar] at hj
  exact hj
 have ai:(xE x).toList.length=1 * 4:=rfl
 have J:∀j u,(xE x).toList[j]? =some u->w.cell? ((⟨n3,0,none⟩:Addr).add j)=some u:=λj u hj=>by
  rw [show (⟨n3,0,none⟩:Addr).add j=⟨n3,j,none⟩ from by unfold Addr.add;split<;>simp_all,aA h3]
  simpa using hj
 have I:∀u∈(xE x).toList,u.oneCell'=true:=λu hu=>by
  simp only [bV,List.not_mem_nil,or_false] at hu
  rcases hu with rfl|rfl|rfl|rfl<;>rfl
 have ae:fs.length+1<=maxLen:=by unfold maxLen;omega
 obtain ⟨v',w',hr,ho,hg,a2⟩:=run_append_own (P:=Tryz.prog) w 0 76 76 81 ie (.agg Dx) 4 32 Tryz.underlying76 hi ac ah af rfl (by omega) v fs.length (flat fs) aa ⟨n3,0,none⟩ 1 1 (xE x).toList ai J I ae (by omega) (dF _)
 obtain ⟨a6,a5,ab,_,⟨g2,a3,a4,ax⟩,aq⟩:=ao.append (P:=Tryz.prog) 76 76 ie (.agg Dx) 32 Tryz.underlying76 hi ac ah af rfl (by omega) ⟨n3,0,none⟩ 1 1 (xE x).toList (by omega) ai J I ae (by omega)
 rw [hr] at ab
 simp only [Result.ok.injEq] at ab
 obtain ⟨rfl,rfl⟩:=ab
 have az:=events_append_where (P:=Tryz.prog) w 0 76 76 81 ie (.agg Dx) 4 32 Tryz.underlying76 hi ac ah af v fs.length (flat fs) aa ⟨n3,0,none⟩ 1 1 (xE x).toList ai J I ae (by omega)
 obtain ⟨g',aj,z,ag,_,ak,a0,av,aw,au⟩:∃g cap E,v'=.slice (some ⟨g,0,none⟩) (fs.length+1) cap/\0<=g/\w'.heap[g]? =some (.cells E 81 (0,0))/\fs.length+1<=cap/\cap<=maxLen/\E.size=cap * 4/\E.toList.take ((fs.length+1) * 4)=flat fs++(xE x).toList:=by
  rcases ho.2 with ⟨h,_⟩|h
  ·rw [ax] at h;cases h
  ·exact h
 refine ⟨v',w',[(g',.cells z 81)],hr,.inr ⟨g',aj,z,by rw [ag,aJ];rfl,rfl,by rw [aJ];exact a0,av,aw,by rw [aJ,Fr.yQ];exact au⟩,λes ay=>?_⟩
 have ap:∀g,v.ownBlock=some g->∃ob,R=[(g,ob)]:=λg hg=>by
  rcases hR with ⟨rfl,_⟩|⟨g',cap,E,rfl,rfl,_⟩
  ·cases hg
  ·cases hg;exact ⟨_,rfl⟩
 have hE:∀{N N':Nat},∀e∈es,EvA (A++(R++L0)) N N' e:=λe he=>by
  have he:=ay e he
  rcases az e he with ⟨ad,I,⟨_,h2⟩|h2⟩|⟨mk,rfl,h2⟩
  ·exact RS (KJ (Ju _ _ _) he) I ⟨_,List.mem_append_left _ am,h2.symm⟩
  ·obtain ⟨ob,rfl⟩:=ap _ h2.symm
   exact RS (KJ (Ju _ _ _) he) I ⟨(ad.block,ob),by simp,rfl⟩
  ·unfold Neutral at h2
   subst h2
   exact .inr (.inr (.inl ⟨_,_,rfl⟩))
 rcases aq with ⟨I,h2,h3⟩|⟨I,h2,h3⟩
 ·rw [ag] at I
  have I:some g'=v.ownBlock:=I
  obtain ⟨ob,rfl⟩:=ap _ I.symm
  have:=Turn.set (i:=A.length) (o':=.cells z 81) (w0:={ w with heap:=Array.replicate n0 default }) (es:=es) (by simpa using hl) (show (A++([(g',ob)]++L0))[A.length]? =some (g',ob) by simp) h3 (λy hy=>?_) ak h2.tape h2.os h2.output hE
  ·simpa using this
  ·rcases fQ y w.heap.size with h|h
   ·exact h2.block y h λe=>hy (by rw [<-I] at e;exact eP e)
   ·rw [iR (by omega),iR h]
 ·rw [ag] at I
  have I:some g'=some w.heap.size:=I
  cases I
  have ht:=Turn.lay (w0:={ w with heap:=Array.replicate n0 default }) (es:=es) (by simpa using hl) h3 (λy hy=>h2.block y hy (by simp)) ak h2.tape h2.os h2.output hE
  have hs:(A++(w.heap.size,Obj.cells z 81)::L0).Sublist (A++(w.heap.size,Obj.cells z 81)::(R++L0)):=(iL A).append (.cons_cons _ (List.sublist_append_right _ _))
  have hp:((w.heap.size,Obj.cells z 81)::(A++(R++L0))).Perm (A++(w.heap.size,Obj.cells z 81)::(R++L0)):=List.perm_middle.symm
  exact ⟨ht.tape,ht.os,ht.output,ht.size,ht.block,λp hp'=>ht.mem p (hp.mem_iff.2 (hs.subset hp')),((hp.pairwise_iff λh=>Ne.symm h).1 ht.ord).sublist hs,ht.events⟩
end
end Cr
namespace Cr
open Go Go.Conc Go.ConcN Go.RowKit Go.Conc.Lib Go.ConcR.Gen Go.ConcN.Gen
open Go.ConcR (KK WgAt stA smA Payload DC0)
open Fr (F flat one fv frames)
set_option linter.unusedSimpArgs false
variable {n j:Nat} {w:World} {v v':Value} {t:TypeId} {p:Operand}
def uG (o:Oper):Bool:=match o.op with|.defer _=>false|_=>true
theorem uG.out {o:Oper} (h:uG o=true) (c:Go.Call):o.op≠.defer c:=λe=>by simp [uG,e] at h
section
variable {S:Who} {m:Nat} {St:jV->Goroutine->World->Prop} {K0:jV} {w0:World} {L L0:List (Nat×Obj)} {b:Frame} {a:Act} {k:List Item} {cs:List Frame} {ops:Array Oper} {i:Nat} {rest:List Nat} {o:Oper}
theorem NJ {N z i:Nat} {ob:Obj} {wr:Bool} (h:L[j]? =some (n,ob)):EvA L N z ⟨.cell ⟨n,i,none⟩,wr,false⟩:=.inl ⟨_,_,rfl,.inl ⟨_,aQ h,rfl⟩⟩
theorem Wc.JZ (v:Value) (I:ops[i]? =some o) (hw:Region.wanted o (yielded ops a.tmps)=true) (hk:b.kind≠.early) (hd:uG o=true)
  (h:∀w,Lies L w0.heap.size w->(execOp a.eval o).run Tryz.prog w=.ok (.value v) w/\∀e∈(execOp a.eval o).events Tryz.prog w #[],EvA L w.heap.size w.heap.size e) (E:Wc Tryz.prog S m St K0 w0 L (G (b.atR (a.put o.dst v) (.inRegion ops rest::k)) cs)):Wc Tryz.prog S m St K0 w0 L (G (b.atR a (.inRegion ops (i::rest)::k)) cs):=
 .JE I hw hk (uG.out hd) λw z=>⟨v,w,L,.inl (h w z).1,.still z λe J=>(h w z).2 e (mem_listed J),E⟩
theorem Wc.TR (ob:Obj) (v:Nat->Value) (I:ops[i]? =some o) (hw:Region.wanted o (yielded ops a.tmps)=true) (hk:b.kind≠.early) (hd:uG o=true)
  (h:∀w,Lies L w0.heap.size w->(execOp a.eval o).run Tryz.prog w=.ok (.value (v w.heap.size)) (w.alloc ob)/\∀e∈(execOp a.eval o).events Tryz.prog w #[],EvA L w.heap.size (w.heap.size+1) e) (E:∀n,Wc Tryz.prog S m St K0 w0 ((n,ob)::L) (G (b.atR (a.put o.dst (v n)) (.inRegion ops rest::k)) cs)):Wc Tryz.prog S m St K0 w0 L (G (b.atR a (.inRegion ops (i::rest)::k)) cs):=
 .JE I hw hk (uG.out hd) λw z=>⟨_,_,_,.inl (h w z).1,.alloc z ob λe J=>(h w z).2 e (mem_listed J),E _⟩
theorem Wc.Rh {B:Nat} {ob:Obj} (z:Obj) (R:L[j]? =some (B,ob)) (J:ops[i]? =some o) (hw:Region.wanted o (yielded ops a.tmps)=true) (hk:b.kind≠.early) (hd:uG o=true)
  (h:∀w,Lies L w0.heap.size w->(execOp a.eval o).run Tryz.prog w=.ok .skip (w.putObj B z)/\∀e∈(execOp a.eval o).events Tryz.prog w #[],EvA L w.heap.size w.heap.size e) (I:Wc Tryz.prog S m St K0 w0 (L.set j (B,z)) (G (b.atR (a.put o.dst undef) (.inRegion ops rest::k)) cs)):Wc Tryz.prog S m St K0 w0 L (G (b.atR a (.inRegion ops (i::rest)::k)) cs):=
 .JE J hw hk (uG.out hd) λw E=>⟨_,_,_,.inr ⟨(h w E).1,rfl⟩,.put E R λe Y=>(h w E).2 e (mem_listed Y),I⟩
theorem BG (I:L[j]? =some (n,.cells #[v] t)) (J:Lies L w0.heap.size w) (hp:a.eval p=.pointer (some ⟨n,0,none⟩)) (z:o.op=.load t p) (ht:t=76\/t=3\/t=9):
  (execOp a.eval o).run Tryz.prog w=.ok (.value v) w/\∀e∈(execOp a.eval o).events Tryz.prog w #[],EvA L w.heap.size w.heap.size e:=by
 have h:=nO J I
 have c0:w.cell? ⟨n,0,none⟩=some v:=by simp [World.cell?,h]
 unfold execOp
 simp only [z,hp]
 rcases ht with rfl|rfl|rfl<;>
 ·refine ⟨by simp [go_sem,c0],λe E=>?_⟩
  simp [go_sem,c0] at E
  subst E
  exact NJ I
theorem MC {q:Operand} (E:L[j]? =some (n,.cells #[v] t)) (Y:Lies L w0.heap.size w) (hp:a.eval p=.pointer (some ⟨n,0,none⟩)) (R:a.eval q=v') (z:o.op=.store t p q) (ht:(∃a k c,v'=.slice a k c/\t=76)\/∃e,v'=.int .i64 e/\t=3):
  (execOp a.eval o).run Tryz.prog w=.ok .skip (w.putObj n (.cells #[v'] t))/\∀e∈(execOp a.eval o).events Tryz.prog w #[],EvA L w.heap.size w.heap.size e:=by
 have h:=nO Y E
 have c0:w.cell? ⟨n,0,none⟩=some v:=by simp [World.cell?,h]
 have J:w.frozen? ⟨n,0,none⟩=false:=aI h 0
 have hs:w.setCell ⟨n,0,none⟩ v'=w.putObj n (.cells #[v'] t):=OZ h
 unfold execOp
 simp only [z,hp,R,<-hs]
 rcases ht with ⟨a,k,c,rfl,rfl⟩|⟨e,rfl,rfl⟩<;>
 ·refine ⟨by simp [go_sem,stored,c0,J],λe I=>?_⟩
  simp [go_sem,stored,storedEv,c0,J,events_store _ _ _ _ _ _ (show (Value.slice _ _ _).oneCell'=true from rfl)] at I
  subst I
  exact NJ E
theorem Di {w':World} {xv:Value} (s x:Operand) (t:TypeId)
  (z:o.op=.call { callee:=.builtin .append,args:=#[s,x],argTypes:=#[t,t] }) (hs:a.eval s=v) (I:a.eval x=xv)
  (E:(Builtin.append_ #[t,t] o.type #[v,xv]).run Tryz.prog w=.ok v' w'):(execOp a.eval o).run Tryz.prog w=.ok (.value v') w':=by
 unfold execOp
 simp only [z,resolve,invoke,builtin,iT,Sem.run_pure,gW,fJ,dW,fG,hs,I,E]
theorem QX (w:World) (x:F):(Instr.buildSlice 76 1 #[(0,.agg (xE x))]).run Tryz.prog w=.ok (.slice (some ⟨w.heap.size,0,none⟩) 1 1) (w.alloc (.cells (xE x) 81))/\(Instr.buildSlice 76 1 #[(0,.agg (xE x))]).events Tryz.prog w #[]=#[]:=by
 obtain ⟨J,R,I,z,Y⟩:∃i,Tryz.prog.info? 81=some i/\i.zero=some (.agg Dx)/\i.size=4/\i.bytes=32:=by
  have:=Nc
  cases h:Tryz.prog.info? 81 with
  |none=>rw [h] at this;cases this
  |some i=>
   rw [h] at this
   simp only [bQ,aC,dA] at this
   exact ⟨i,rfl,this.1,this.2.1,this.2.2⟩
 have E:Instr.fill (λi=>some (i * J.size,J.size)) ((Array.range (1 * J.size)).map ((Value.agg Dx).cells[· % (Value.agg Dx).cells.size]!)) (#[(0,Value.agg (xE x))]:Array (Nat×Value)).toList=some (xE x):=by rw [z];kernel_rfl
 refine ⟨run_buildSlice w _ _ 1 _ _ J _ Tryz.underlying76 R I (by rw [z];decide) (by rw [z];decide) E,?_⟩
 have E:Instr.fill (λi=>some (i * 4,4)) (Array.map (λx=>(Value.agg Dx).cells[x % (Value.agg Dx).cells.size]!) (Array.range 4)) [(0,.agg (xE x))]=some (xE x):=by rw [z] at E;exact E
 simp [E,Instr.buildSlice,run_underlying Tryz.underlying76,sizeOf,typeInfo,zeroValue,R,I,z,newRow]
theorem JD {c0 n0:Int} {I:ByteArray} {J:Bool} (R:L[j]? =some (n,.cells (F8 c0 n0 I J) 81)) (hl:Lies L w0.heap.size w) (hp:a.eval p=.pointer (some ⟨n,0,none⟩)) (z:o.op=.load 81 p):
  (execOp a.eval o).run Tryz.prog w=.ok (.value (.agg (F8 c0 n0 I J))) w/\∀e∈(execOp a.eval o).events Tryz.prog w #[],EvA L w.heap.size w.heap.size e:=by
 have h:=nO hl R
 have c0:=aA h 0
 have c1:=aA h 1
 have E:=aA h 2
 have c3:=aA h 3
 unfold execOp
 simp only [z,hp]
 refine ⟨by simp [go_sem,c0,c1,E,c3],λe Y=>?_⟩
 simp [go_sem,c0,c1,E,c3] at Y
 rcases Y with rfl|rfl|rfl|rfl<;>exact NJ R
noncomputable def UE:Code:=match Tryz.f59.body with
 |some (.seq _ (.seq _ (.seq _ (.seq _ (.seq _ (.seq (.seq _ (.block _ (.rangeFunc _ _ c _))) _))))))=>c
 |_=>.skip
noncomputable def QV:Code:=match Tryz.f59.body with
 |some (.seq _ (.seq _ (.seq _ (.seq _ (.seq _ (.seq (.seq _ (.block _ (.rangeFunc _ _ _ c))) _))))))=>c
 |_=>.skip
noncomputable def Tn:Code:=match Tryz.f59.body with
 |some (.seq _ (.seq _ (.seq _ (.seq _ (.seq _ (.seq _ c))))))=>c
 |_=>.skip
theorem P6 {u0 u1 u2 u3 u4 u7 u8 u9 ac ab a2 ax av ar an ai ao ay au aq a0 ag a1 aa ak ah aj az aw ap ae am af:Value} {l d sb E F p e:Nat} {T:ByteArray} {fs:List Fr.F} {x:Fr.F} {R:List (Nat×Obj)} {r:Loop} {c:Frame} (a6:r.state=.ready) (a7:r.pending=none) (hR:yu v fs R) (a5:fs.length < 1048576)
  (nx:∀v' R',yu v' (fs++[x]) R'->Wc Tryz.prog S m St K0 w0 ((l,.loop r)::(d,.deferred (some []))::(sb,.cells #[.string T] 9)::(E,.cells #[.int .i64 e] 3)::(F,.cells #[v'] 76)::(R'++L0)) (G (c.finish (.bool true)) cs)):
  Wc Tryz.prog S m St K0 w0 ((l,.loop r)::(d,.deferred (some []))::(sb,.cells #[.string T] 9)::(E,.cells #[.int .i64 p] 3)::(F,.cells #[v] 76)::(R++L0)) (G (Frame.round l 59 #[u0,u1,u2,u3,u4,.pointer (some ⟨F,0,none⟩),.pointer (some ⟨E,0,none⟩),u7,u8,u9,ac,ab,a2,ax,av,ar,an,ai,ao,ay,.int .i64 e,.agg (xE x),au,aq,a0,ag,a1,aa,ak,ah,aj,az,aw,ap,ae,am,af] UE QV .normal) (c::cs)):=by
 rw [show Frame.round l 59 #[u0,u1,u2,u3,u4,.pointer (some ⟨F,0,none⟩),.pointer (some ⟨E,0,none⟩),u7,u8,u9,ac,ab,a2,ax,av,ar,an,ai,ao,ay,.int .i64 e,.agg (xE x),au,aq,a0,ag,a1,aa,ak,ah,aj,az,aw,ap,ae,am,af] UE QV .normal=Frame.atR { base 59 with roundOf:=some l } { tmps:=#[u0,u1,u2,u3,u4,.pointer (some ⟨F,0,none⟩),.pointer (some ⟨E,0,none⟩),u7,u8,u9,ac,ab,a2,ax,av,ar,an,ai,ao,ay,.int .i64 e,.agg (xE x),au,aq,a0,ag,a1,aa,ak,ah,aj,az,aw,ap,ae,am,af],defers:=[] } [.code UE,.beginRound,.code QV] from rfl]
 obtain ⟨bb,Y⟩:∃bb,bb=({ base 59 with roundOf:=some l }:Frame):=⟨_,rfl⟩
 have hk:bb.kind=.normal:=by rw [Y];rfl
 have z:bb.kind≠.early:=by rw [hk];decide
 have a3:bb.roundOf=some l:=by rw [Y]
 rw [<-Y]
 clear Y
 have NX:Hid _:=nx
 clear nx
 rw [show UE=.seq _ _ from rfl]
 refine Wc.aay (Wc.WR [0] rfl ?_)
 refine Wc.JZ (.int .i64 e) rfl rfl z rfl (λw _=>⟨rfl,λe J=>by simp [go_sem] at J⟩) ?_
 walk_nrm
 refine Wc.Om (Wc.WR [0,1] rfl ?_)
 refine Wc.TR (.cells Dx 81) (λn=>.pointer (some ⟨n,0,none⟩)) rfl rfl z rfl (λw I=>⟨by simp [go_sem],λe J=>by simp [go_sem] at J⟩) λfb=>?_
 walk_nrm
 refine Wc.Rh (j:=0) (.cells (xE x) 81) rfl rfl rfl z rfl (λw I=>pF rfl rfl rfl w I) ?_
 walk_nrm
 refine Wc.Om (Wc.begin (j:=1) rfl a6 a3 z ?_)
 rw [show QV=.block 1 (.seq _ _) from rfl]
 refine Wc.Yr (Wc.aay (Wc.WR [0,1,2,3,4] rfl ?_))
 refine Wc.JZ v rfl rfl z rfl (λw I=>BG (j:=5) rfl I rfl rfl (.inl rfl)) ?_
 walk_nrm
 refine Wc.JZ (.agg (xE x)) rfl rfl z rfl (λw I=>JD (j:=0) rfl I rfl rfl) ?_
 walk_nrm
 refine Wc.TR (.cells (xE x) 81) (λn=>.slice (some ⟨n,0,none⟩) 1 1) rfl rfl z rfl (λw I=>?_) λn3=>?_
 ·have h:=QX w x
  refine ⟨by simp [go_sem,h.1],λe J=>?_⟩
  simp [go_sem,h.2] at J
 walk_nrm
 refine Wc.JE rfl rfl z (uG.out rfl) λw I=>?_
 obtain ⟨v',w',R',h1,a4,h2⟩:=Xm (A:=[(n3,.cells (xE x) 81),(fb,.cells (xE x) 81),(l,.loop { r with state:=.busy }),(d,.deferred (some [])),(sb,.cells #[.string T] 9),(E,.cells #[.int .i64 p] 3),(F,.cells #[v] 76)]) (n3:=n3) hR I (.head _) a5
 refine ⟨v',w',_,.inl (Di _ _ _ rfl rfl rfl h1),h2 _ λe J=>by have J:=mem_listed J;rw [events_append_op (v:=v) (xv:=.slice (some ⟨n3,0,none⟩) 1 1) (.tmp 22) (.tmp 24) 76 rfl rfl rfl] at J;exact J,?_⟩
 clear h1 h2 I
 obtain ⟨va,vc,hv⟩:=a4.slice
 walk_nrm
 refine Wc.Rh (j:=6) (.cells #[v'] 76) rfl rfl rfl z rfl (λw I=>MC (j:=6) rfl I rfl rfl rfl (.inl ⟨_,_,_,hv,rfl⟩)) ?_
 walk_nrm
 refine Wc.Om (Wc.WR [0,1] rfl ?_)
 refine Wc.JZ (.int .i64 e) rfl rfl z rfl (λw _=>⟨rfl,λe J=>by simp [go_sem] at J⟩) ?_
 walk_nrm
 refine Wc.Rh (j:=5) (.cells #[.int .i64 e] 3) rfl rfl rfl z rfl (λw I=>MC (j:=5) rfl I rfl rfl rfl (.inr ⟨_,rfl,rfl⟩)) ?_
 walk_nrm
 refine Wc.Om (Wc.QZ (Wc.abS (j:=2) rfl a3 hk ?_))
 refine Wc.drop (.cons _ (.cons _ (iL _))) ?_
 have hr:({ ({ r with state:=.busy }:Loop) with state:=.ready,pending:=none }:Loop)=r:=by cases r;simp_all
 rw [hr]
 exact NX.out v' R' a4
end
end Cr
namespace Cr
open Go Go.Conc Go.ConcN Go.RowKit Go.Conc.Lib Go.ConcR.Gen Go.ConcN.Gen
open Go.ConcR (KK WgAt stA smA Payload DC0)
open Fr (F flat one fv frames QD)
set_option linter.unusedSimpArgs false
noncomputable def UN:Code:=match Tryz.f141.body with
 |some (.seq _ (.block _ (.loop c)))=>c
 |_=>.skip
section
variable {S:Who} {m:Nat} {St:jV->Goroutine->World->Prop} {K0:jV} {w0:World} {L0:List (Nat×Obj)} {cs:List Frame}
abbrev Ox (s T:ByteArray) (F E z:Nat) (x y:Value):Array Value:=#[.string s,undef,.slice none 0 0,.bool false,.string T,.pointer (some ⟨F,0,none⟩),.pointer (some ⟨E,0,none⟩),undef,undef,.string s,.bool false,.bool false,.string s,.int .u8 0,.bool false,.bool false,.string s,.string T,.string T,.func (.func 141) #[] #[.pointer (some ⟨z,0,none⟩)],x,y,undef,undef,undef,undef,undef,undef,undef,undef,undef,undef,undef,undef,undef,undef,undef]
noncomputable abbrev WO (s T:ByteArray) (F E z d:Nat):Loop:={ state:=.ready,pending:=none,fn:=59,tmps:=Ox s T F E z undef undef,params:=#[20,21],assign:=UE,body:=QV,defers:=d }
noncomputable abbrev SG (s T:ByteArray) (F E z d l p:Nat) (v:Value) (R:List (Nat×Obj)):List (Nat×Obj):=(l,.loop (WO s T F E z d))::(d,.deferred (some []))::(z,.cells #[.string T] 9)::(E,.cells #[.int .i64 p] 3)::(F,.cells #[v] 76)::R
theorem PG {s T:ByteArray} {l d sb E F:Nat} {b:Frame} {a:Act} {k:List Item} (hT:T.size<=1048576)
  (nx:∀v fs R p,yu v fs R->QD T.data.toList fs p->one T.data.toList p=none->Wc Tryz.prog S m St K0 w0 (SG s T F E sb d l p v (R++L0)) (G (b.at a (.endRangeFunc l::k)) cs)):
  ∀r p,T.size - p < r->∀v fs R,yu v fs R->QD T.data.toList fs p->∀u4 u5 u6 u7 u8 u9 ab aa ar ao an ak ah ag ai aq ac af am aj ae:Value,
  Wc Tryz.prog S m St K0 w0 (SG s T F E sb d l p v (R++L0)) (G ((base 141).at { tmps:=#[.func (.yield l) #[] #[],.pointer (some ⟨sb,0,none⟩),undef,.int .i64 p,u4,u5,u6,u7,u8,u9,ab,aa,ar,ao,an,ak,ah,ag,ai,aq,ac,af,am,aj,ae],defers:=[] } [.code UN,.inLoop UN,.inBlock 0]) (b.at a (.inRangeFunc l::k)::cs)):=by
 intro r
 induction r with
 |zero=>intro p hr;omega
 |succ r ih=>
  intro p hr v fs R hR hA u4 u5 u6 u7 u8 u9 ab aa ar ao an ak ah ag ai aq ac af am aj ae
  have ap:=hA.le
  rw [<-aV] at ap
  have aw:(0:Int)<=(p:Int):=by omega
  have au:(p:Int)<=(T.size:Int):=by omega
  have Y:=OY (T.extract p T.size) (by simp;omega)
  rw [show (T.extract p T.size).data.toList=T.data.toList.drop p by rw [Fr.ext_list,dV (by rw [<-aV];omega)],<-Fr.Af _ _ (by rw [<-aV];exact ap.1)] at Y
  have ev:=λw es=>nU T _ _ w es (Au T p w es aw au)
  rw [show UN=.block 1 (.seq _ _) from rfl]
  refine Wc.block (Wc.seq (Wc.reg [0,1,2,3,4,5,6,7,8,9,10,11] rfl ?_))
  refine Wc.rd (.string T) rfl rfl (base_kind _) (λw J=>BG (j:=2) rfl J rfl rfl (.inr (.inr rfl))) ?_
  walk_nrm
  have HR:Hid _:=hR
  have HA:Hid _:=hA
  have NX:Hid _:=nx
  have IH:Hid _:=ih
  have HF:Hid _:=Y
  clear hR hA nx ih Y
  refine Wc.go 50 λK w z=>?_
  iterate 2 u_op At.en z
  refine Goes.stop λ_ I=>Wc.use ?_ (z.en I)
  clear z
  refine HF.out _ _ _ _ _ _ _ _ _ _ _ _ _ _ _ _ rfl rfl (base_kind _) rfl (by simp [Act.eval]) ?_
  walk_nrm
  generalize hC:one T.data.toList p=C
  cases C with
  |none=>
   simp only [fv]
   refine Wc.go 50 λK w z=>?_
   iterate 4 u_op At.en z
   refine Goes.stop λ_ I=>Wc.use ?_ (z.en I)
   clear z
   refine Wc.al (.cells Dx 81) (λn=>.pointer (some ⟨n,0,none⟩)) rfl rfl (base_kind _) (λw J=>⟨by simp [go_sem],λe he=>by simp [go_sem] at he⟩) λfb=>?_
   walk_nrm
   refine Wc.st (j:=0) (.cells Dx 81) rfl rfl rfl (base_kind _) (λw J=>pF rfl rfl rfl w J) ?_
   walk_nrm
   refine Wc.go 50 λK w z=>?_
   iterate 2 u_op At.en z
   u_c stepG_region_end At.en z
   iterate 2 u_c stepG_seq At.en z
   u_reg At.en z
   iterate 2 u_op At.en z
   u_c stepG_region_end At.en z
   u_cond true At.en z
   refine Goes.stop λ_ I=>Wc.use ?_ (z.en I)
   clear z
   refine .ret λtodo=>.back (.tuple #[]) rfl rfl rfl Tryz.func141 (λw=>⟨results_none rfl _ _ _,by simp [results,Tryz.results141]⟩) (Wc.drop (iQ _ _) (NX.out _ _ _ _ HR.out HA.out hC))
  |some x=>
   obtain ⟨f,n⟩:=x
   have ho:=Fr.one_le hC
   rw [<-aV] at ho
   simp only [fv]
   refine Wc.go 50 λK w z=>?_
   iterate 4 u_op At.en z
   refine Goes.stop λ_ I=>Wc.use ?_ (z.en I)
   clear z
   refine Wc.al (.cells Dx 81) (λn=>.pointer (some ⟨n,0,none⟩)) rfl rfl (base_kind _) (λw J=>⟨by simp [go_sem],λe he=>by simp [go_sem] at he⟩) λfb=>?_
   walk_nrm
   refine Wc.st (j:=0) (.cells (xE f) 81) rfl rfl rfl (base_kind _) (λw J=>pF rfl rfl rfl w J) ?_
   walk_nrm
   refine Wc.go 50 λK w z=>?_
   iterate 2 u_op At.en z
   u_c stepG_region_end At.en z
   iterate 2 u_c stepG_seq At.en z
   u_reg At.en z
   iterate 2 u_op At.en z
   u_c stepG_region_end At.en z
   u_cond false At.en z
   u_c stepG_skip At.en z
   u_c stepG_seq At.en z
   u_reg At.en z
   iterate 4 u_op At.en z
   u_c stepG_region_end At.en z
   u_c stepG_seq At.en z
   u_reg At.en z
   iterate 2 u_op At.en z
   refine Goes.stop λ_ I=>Wc.use ?_ (z.en I)
   clear z
   refine Wc.rd (.agg (xE f)) rfl rfl (base_kind _) (λw J=>JD (j:=0) rfl J rfl rfl) ?_
   walk_nrm
   rw [show IntKind.i64.wrap ((p:Int)+n)=((p+n:Nat):Int) by rw [IntKind.wrap_i64];omega]
   refine Wc.yield (j:=1) rfl rfl rfl (base_kind _) rfl rfl rfl ?_
   refine Wc.drop (iQ _ _) ?_
   have ht:((WO s T F E sb d).params.zip #[.int .i64 ((p+n:Nat):Int),.agg (xE f)]).foldl (λtmps (t,a)=>tmps.setIfInBounds t a) (WO s T F E sb d).tmps=Ox s T F E sb (.int .i64 ((p+n:Nat):Int)) (.agg (xE f)):=by kernel_rfl
   walk_nrm
   rw [ht]
   refine P6 (r:=WO s T F E sb d) (x:=f) (e:=p+n) rfl rfl HR.out (by omega) λv' R' av=>?_
   rw [fF]
   walk_nrm
   refine Wc.go 50 λK w z=>?_
   u_op At.en z
   u_c stepG_region_end At.en z
   u_cond false At.en z
   u_c stepG_skip At.en z
   u_c stepG_inBlock At.en z
   u_c stepG_inLoop At.en z
   refine Goes.stop λ_ I=>Wc.use ?_ (z.en I)
   exact IH.out (p+n) (by omega) v' _ R' av (.snoc HA.out hC) _ _ _ _ _ _ _ _ _ _ _ _ _ _ _ _ _ _ _ _ _
end
end Cr
end Go.Proofs.YtpibpdpedjinhaaGreatDoor
