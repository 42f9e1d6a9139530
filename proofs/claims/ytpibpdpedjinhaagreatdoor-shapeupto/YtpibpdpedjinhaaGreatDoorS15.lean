import Derived.Test.YtpibpdpedjinhaaGreatDoorS14
import Derived.Great.BuildSlice
import Derived.ArgAppend
set_option maxRecDepth 100000
set_option maxHeartbeats 4000000
namespace Go.Proofs.YtpibpdpedjinhaaGreatDoor
namespace Cr
open Go Go.Conc Go.ConcN Go.RowKit Go.Conc.Lib Go.ConcR.Gen Go.ConcN.Gen
open Go.ConcR (KK WgAt stA smA Payload DC0)
open Fr (big one fv)
set_option linter.unusedSimpArgs false
variable {n:Nat} {t:TypeId} {w:World}
theorem wn {o:Oper} {y:Nat->Option Bool} (h:o.guard=none):Region.wanted o y=true:=by simp [Region.wanted,h]
theorem X0 (u:World) (s:ByteArray) (i:Int) (j:Nat) (q:j < s.size) (e:i=(j:Int)):(Instr.index 9 (.string s) (.int .i64 i)).run Tryz.prog u=.ok (.int .u8 (s[j].toNat:Int)) u:=by
 subst e
 rw [run_index_string u _ s .i64 _ Tryz.underlying9,dif_pos (by omega)]
 simp
theorem wQ (l:Int) (n:Nat) (c:BoundsCode) (w:World) (es:Array Event) (z:0<=l) (q:l<=n):(Instr.sliceBound (.int .i64 l) n c).events Tryz.prog w es=es:=by
 have h2:¬l < 0:=by omega
 have h3:¬(n:Int) < l:=by omega
 simp [Instr.sliceBound,asIntOf,asInt,z,q,h2,h3]
theorem AO (s:ByteArray) (l h:Int) (w:World) (es:Array Event) (q:0<=l) (z:l<=h) (h2:h<=s.size):(Instr.slice 9 (.string s) (some (.int .i64 l)) (some (.int .i64 h)) none).events Tryz.prog w es=es:=by
 have k:=λc=>wQ l h.toNat c w es q (by omega)
 simp [Instr.slice,run_underlying Tryz.underlying9,Instr.sliceBounds,run_sliceBound,wQ,sliced,z,h2,(by omega:0<=h),q,k]
theorem L9 (s:ByteArray) (h:Int) (w:World) (es:Array Event) (q:0<=h) (h2:h<=s.size):(Instr.slice 9 (.string s) none (some (.int .i64 h)) none).events Tryz.prog w es=es:=by
 simp [Instr.slice,run_underlying Tryz.underlying9,Instr.sliceBounds,run_sliceBound,wQ,sliced,h2,q]
theorem Au (s:ByteArray) (l:Int) (w:World) (es:Array Event) (z:0<=l) (q:l<=s.size):(Instr.slice 9 (.string s) (some (.int .i64 l)) none none).events Tryz.prog w es=es:=by
 simp [Instr.slice,run_underlying Tryz.underlying9,Instr.sliceBounds,run_sliceBound,wQ,sliced,q,z]
theorem nU (s:ByteArray) (lo q:Option Value) (w:World) (es:Array Event) (h:(Instr.slice 9 (.string s) lo q none).events Tryz.prog w es=es):(Instr.sliceAt 9 (.string s) lo q none).events Tryz.prog w es=es:=by
 simp [Instr.sliceAt,h]
theorem BU (s:ByteArray) (i:Int) (w:World) (es:Array Event) (z:0<=i) (q:i < s.size):(Instr.index 9 (.string s) (.int .i64 i)).events Tryz.prog w es=es:=by
 simp [Instr.index,run_underlying Tryz.underlying9,go_sem,z,q]
abbrev F8 (ch q:Int) (d:ByteArray) (l:Bool):Array Value:=#[.int .u32 ch,.int .u16 q,.string d,.bool l]
abbrev Dx:Array Value:=F8 0 0 ⟨#[]⟩ false
noncomputable def Es:Array Oper:=match Tryz.f142.body with
 |some (.seq _ (.seq _ (.seq _ (.seq _ (.seq (.region _ ops _) _)))))=>ops
 |_=>#[]
theorem YR:fills 47 Es=true:=by kernel_rfl
section
variable {S:Who} {m:Nat} {St:jV->Goroutine->World->Prop} {K0:jV} {w0:World} {L:List (Nat×Obj)} {cs:List Frame}
theorem tJ {j:Nat} {c:Array Value} {q:Nat×Nat} (h:Lies ((n,.cells c t q)::L) w0.heap.size w):w.cell? ⟨n,j,none⟩=c[j]?:=by
 have:=nK h
 simp [World.cell?,this]
theorem abY {a b c d x y z u:Value} (h:w.heap[n]? =some (.cells #[a,b,c,d] t)):(((w.setCell ⟨n,0,none⟩ x).setCell ⟨n,1,none⟩ y).setCell ⟨n,2,none⟩ z).setCell ⟨n,3,none⟩ u=w.putObj n (.cells #[x,y,z,u] t):=by
 simp only [World.setCell,World.putObj]
 congr 1
 apply fP
 intro j
 by_cases e:n=j
 ·subst e
  have q:=(jE h)
  rw [bI,if_pos rfl,bI,if_pos rfl,bI,if_pos rfl,bI,if_pos rfl,h,aO,if_pos rfl,if_pos q]
  rfl
 ·simp [bI,e]
theorem pF {c0 n0 z E:Int} {d0 d1:ByteArray} {l0 l1:Bool} {p q:Operand} {a:Act} {o:Oper} (hp:a.eval p=.pointer (some ⟨n,0,none⟩)) (hq:a.eval q=.agg (F8 z E d1 l1)) (R:o.op=.store 81 p q) (w:World) (hl:Lies ((n,.cells (F8 c0 n0 d0 l0) 81)::L) w0.heap.size w):
  (execOp a.eval o).run Tryz.prog w=.ok .skip (w.putObj n (.cells (F8 z E d1 l1) 81))/\∀e∈(execOp a.eval o).events Tryz.prog w #[],EvA ((n,.cells (F8 c0 n0 d0 l0) 81)::L) w.heap.size w.heap.size e:=by
 have h:=nK hl
 have b1:(w.setCell ⟨n,0,none⟩ (.int .u32 z)).heap[n]? =some (.cells #[.int .u32 z,.int .u16 n0,.string d0,.bool l0] 81):=by simp [World.setCell,bI,h]
 have b2:((w.setCell ⟨n,0,none⟩ (.int .u32 z)).setCell ⟨n,1,none⟩ (.int .u16 E)).heap[n]? =some (.cells #[.int .u32 z,.int .u16 E,.string d0,.bool l0] 81):=by simp [World.setCell,bI,h]
 have b3:(((w.setCell ⟨n,0,none⟩ (.int .u32 z)).setCell ⟨n,1,none⟩ (.int .u16 E)).setCell ⟨n,2,none⟩ (.string d1)).heap[n]? =some (.cells #[.int .u32 z,.int .u16 E,.string d1,.bool l0] 81):=by simp [World.setCell,bI,h]
 have I:=aA h 0
 have J:=aA b1 1
 have Y:=aA b2 2
 have aa:=aA b3 3
 have z0:=aI h 0
 have z1:=aI b1 1
 have z2:=aI b2 2
 have z3:=aI b3 3
 constructor
 ·unfold execOp
  simp only [R,hp,hq]
  rw [<-abY h]
  simp [go_sem,stored,I,z0,J,z1,Y,z2,aa,z3]
 ·unfold execOp
  simp only [R,hp,hq]
  intro e he
  simp [go_sem,stored,storedEv,I,z0,J,z1,Y,z2,aa,z3,events_store _ _ _ _ _ _ (show (Value.string d1).oneCell'=true from rfl),events_store _ _ _ _ _ _ (show (Value.bool l1).oneCell'=true from rfl)] at he
  rcases he with rfl|rfl|rfl|rfl<;>exact Gy
theorem pU {c E:Int} {d:ByteArray} {l:Bool} {z I:Value} {a:Act} {todo:List Item} {cf:Frame} (hd:a.defers=[]) (t2:a.tmps[2]? =some (.pointer (some ⟨n,0,none⟩))) (t3:a.tmps[3]? =some z) (t4:a.tmps[4]? =some I)
  (nx:Wc Tryz.prog S m St K0 w0 L (G (cf.finish (.tuple #[.agg (F8 c E d l),z,I])) cs)):Wc Tryz.prog S m St K0 w0 ((n,.cells (F8 c E d l) 81)::L) (G { (base 142).at a todo with mode:=.returning } (cf::cs)):=by
 refine Wc.leave (.tuple #[.agg (F8 c E d l),z,I]) rfl hd rfl Tryz.func142 (λw q=>?_) (Wc.drop (iQ _ _) nx)
 have c0:=tJ (j:=0) q
 have J:=tJ (j:=1) q
 have R:=tJ (j:=2) q
 have Y:=tJ (j:=3) q
 refine ⟨by simp [results,Tryz.results142,go_sem,Frame.at,t2,t3,t4,c0,J,R,Y],λe he=>?_⟩
 simp [results,Tryz.results142,go_sem,Frame.at,t2,t3,t4,c0,J,R,Y] at he
 rcases he with rfl|rfl|rfl|rfl<;>exact Gy
end
def zf (s D:ByteArray) (z q c N:Nat) (lb:Bool) (i:Nat):Value:=(#[.string s,.string (s.extract 0 4),.int .u32 z,.string s,.string (s.extract 4 6),.int .u32 q,.int .u16 q,.string s,.int .i64 (8+(N:Int)+1),.int .i64 (8+(N:Int)),.string D,.string D,.string s,.int .i64 (8+(N:Int)+1),.int .i64 (8+(N:Int)),.int .u8 c,.bool lb,.agg (F8 z q D lb),.int .i64 (8+(N:Int)+1),undef,.int .i64 (8+(N:Int)+1),.bool true]:Array Value).getD i undef
def Zx (n z q:Nat) (D:ByteArray) (lb:Bool) (L:List (Nat×Obj)) (l:Array Bool):List (Nat×Obj):=(n,if l.getD 19 false then .cells (F8 z q D lb) 81 else .cells Dx 81)::L
section
variable {S:Who} {m:Nat} {St:jV->Goroutine->World->Prop} {K0:jV} {w0:World} {L:List (Nat×Obj)} {cs:List Frame} {cf:Frame}
theorem YC {s D:ByteArray} {C4 Y c N:Nat} {lb:Bool} (hs:s.size<=16777216) (ag:(8:Int)<=(s.size:Int)) (av:8+N < s.size) (l4:Y < 65536) (aq:∀u:World,(Instr.index 9 (.string s) (.int .i64 (8+(N:Int)))).run Tryz.prog u=.ok (.int .u8 (c:Int)) u) (au:((c:Int) == 1)=lb) (hD:s.extract 8 (8+N)=D) (ap:D.size<=16777216)
  (n4:ZV 194 #[.string (s.extract 4 6)] (.int .u32 Y)) (n0:ZV 194 #[.string (s.extract 0 4)] (.int .u32 C4)) (nx:Wc Tryz.prog S m St K0 w0 L (G (cf.finish (.tuple #[.agg (F8 C4 Y D lb),.int .i64 (8+(N:Int)+1),.bool true])) cs))
  (a:Act) (ha:a.tmps.size=47/\a.defers=[]/\a.tmps[2]? =some (.pointer (some ⟨n,0,none⟩))/\a.tmps[0]? =some (.string s)/\a.tmps[5]? =some (.int .i64 (8+(N:Int)+1))):
  Wc Tryz.prog S m St K0 w0 ((n,.cells Dx 81)::L) (G ((base 142).at a [.code (.seq (.region 6 Es true) .ret)]) (cf::cs)):=by
 refine Wc.seq (Wc.fill (V:=zf s D C4 Y c N lb) (L':=(n,.cells (F8 C4 Y D lb) 81)::L) (by rw [ha.1];exact YR) (λl a' hl hF=>?_) (Zx n C4 Y D lb L) rfl (λl hl=>by rw [Zx,hl 19 (by decide)];rfl) λl a' i o rest J hi ao hF R=>?_)
 ·have e:∀{i t},i < 22->mO Es i=some t->a'.tmps[t]? =some (zf s D C4 Y c N lb i):=λhi hd=>hF.got _ _ hd (hl _ hi)
  exact .ret λtodo=>pU (hF.defers.trans ha.2.1) ((hF.slot (by kernel_rfl)).trans ha.2.2.1) (e (i:=20) (by decide) rfl) (e (i:=21) (by decide) rfl) nx
 ·have keep:i≠19->Zx n C4 Y D lb L (l.setIfInBounds i true)=Zx n C4 Y D lb L l:=λe=>by simp only [Zx,getD_set_ne false e]
  have go:i≠19->o.guard=none->(∀w,(execOp a'.eval o).run Tryz.prog w=.ok (.value (zf s D C4 Y c N lb i)) w)->(∀w,∀e∈(execOp a'.eval o).events Tryz.prog w #[],False)->Wc Tryz.prog S m St K0 w0 (Zx n C4 Y D lb L l) (G ((base 142).at a' (.inRegion Es (i::rest)::[.code .ret])) (cf::cs)):=λe I hr z=>
   Wc.rd _ J (wn I) (base_kind _) (λw _=>⟨hr w,λe h=>(z w e h).elim⟩) (by rw [keep e] at R;exact R)
  have ak:=(jE J)
  have E:∀j t,waits Es i j=true->mO Es j=some t->a'.eval (.tmp t)=zf s D C4 Y c N lb j:=λj t hw hd=>hF.ev hd (ao j hw)
  have e0:=hF.old (s:=0) (by kernel_rfl) ha.2.2.2.1
  have e5:=hF.old (s:=5) (by kernel_rfl) ha.2.2.2.2
  have ah:(4:Int)<=(s.size:Int):=by omega
  have ai:(6:Int)<=(s.size:Int):=by omega
  have hN:8+(N:Int)<=(s.size:Int):=by omega
  have af:IntKind.u16.wrap (Y:Int)=(Y:Int):=by rw [IntKind.wrap_u16];omega
  have ac:IntKind.i64.wrap (8+(N:Int))=8+(N:Int):=by rw [IntKind.wrap_i64];omega
  have ab:IntKind.i64.wrap (8+(N:Int)+1 - 1)=8+(N:Int):=by rw [IntKind.wrap_i64];omega
  have aa:8+(N:Int)+1 - 1=8+(N:Int):=by omega
  have am:=λw es=>nU s _ _ w es (L9 s 4 w es (by omega) ah)
  have ar:=λw es=>nU s _ _ w es (AO s 4 6 w es (by omega) (by omega) ai)
  have aj:=λw es=>nU s _ _ w es (AO s 8 (8+(N:Int)) w es (by omega) (by omega) hN)
  have an:=λw es=>BU s (8+(N:Int)) w es (by omega) (by omega)
  have sl:∀u:World,(Instr.slice 9 (.string s) (some (.int .i64 8)) (some (.int .i64 (8+(N:Int)))) none).run Tryz.prog u=.ok (.string D) u:=λu=>by rw [run_slice_string u _ s .i64 .i64 _ _ Tryz.underlying9 (by omega) (by omega) hN,show s.extract (8:Int).toNat (8+(N:Int)).toNat=D by rw [<-hD];congr 1]
  have bd:∀w:World,(Instr.build 81 #[(0,.int .u32 C4),(1,.int .u16 Y),(2,.string D),(3,.bool lb)]).run Tryz.prog w=.ok (.agg (F8 C4 Y D lb)) w:=λw=>run_build w _ _ _ (by kernel_rfl)
  match i,ak with
  |0,_=>
   obtain ⟨q,I⟩:=kL (.move (.tmp 0),none) J rfl
   refine go (by decide) I (λw=>?_) λw e z=>?_
   ·unfold execOp
    simp only [q,e0]
    rfl
   ·unfold execOp at z
    simp only [q,e0] at z
    simp [go_sem] at z
  |1,_=>
   obtain ⟨q,I⟩:=kL (.slice 9 (.tmp 28) none (some (.const (.int .i64 4))) none,none) J rfl
   refine go (by decide) I (λw=>?_) λw e z=>?_
   ·unfold execOp
    simp only [q,jf,bQ,E 0 28 rfl rfl]
    simp [zf,go_sem,ag,ah]
   ·unfold execOp at z
    simp only [q,jf,bQ,E 0 28 rfl rfl] at z
    simp [zf,go_sem,am] at z
  |2,_=>
   obtain ⟨q,I⟩:=kL (.call { callee:=.value (.func 194),args:=#[.tmp 29],argTypes:=#[9] },none) J rfl
   have hn:=R
   rw [keep (by decide)] at hn
   exact n0 _ _ _ _ _ _ _ _ _ _ _ _ _ _ _ _ J (wn I) (base_kind _) q (by simp [E 1 29 rfl rfl,zf]) hn
  |3,_=>
   obtain ⟨q,I⟩:=kL (.move (.tmp 0),none) J rfl
   refine go (by decide) I (λw=>?_) λw e z=>?_
   ·unfold execOp
    simp only [q,e0]
    rfl
   ·unfold execOp at z
    simp only [q,e0] at z
    simp [go_sem] at z
  |4,_=>
   obtain ⟨q,I⟩:=kL (.slice 9 (.tmp 31) (some (.const (.int .i64 4))) (some (.const (.int .i64 6))) none,none) J rfl
   refine go (by decide) I (λw=>?_) λw e z=>?_
   ·unfold execOp
    simp only [q,jf,bQ,E 3 31 rfl rfl]
    simp [zf,go_sem,ag,ai]
   ·unfold execOp at z
    simp only [q,jf,bQ,E 3 31 rfl rfl] at z
    simp [zf,go_sem,ar] at z
  |5,_=>
   obtain ⟨q,I⟩:=kL (.call { callee:=.value (.func 194),args:=#[.tmp 32],argTypes:=#[9] },none) J rfl
   have hn:=R
   rw [keep (by decide)] at hn
   exact n4 _ _ _ _ _ _ _ _ _ _ _ _ _ _ _ _ J (wn I) (base_kind _) q (by simp [E 4 32 rfl rfl,zf]) hn
  |6,_=>
   obtain ⟨q,I⟩:=kL (.convert 22 79 (.tmp 33),none) J rfl
   refine go (by decide) I (λw=>?_) λw e z=>?_
   ·unfold execOp
    simp only [q,E 5 33 rfl rfl]
    simp [zf,go_sem,af]
   ·unfold execOp at z
    simp only [q,E 5 33 rfl rfl] at z
    simp [zf,go_sem] at z
  |7,_=>
   obtain ⟨q,I⟩:=kL (.move (.tmp 0),none) J rfl
   refine go (by decide) I (λw=>?_) λw e z=>?_
   ·unfold execOp
    simp only [q,e0]
    rfl
   ·unfold execOp at z
    simp only [q,e0] at z
    simp [go_sem] at z
  |8,_=>
   obtain ⟨q,I⟩:=kL (.move (.tmp 5),none) J rfl
   refine go (by decide) I (λw=>?_) λw e z=>?_
   ·unfold execOp
    simp only [q,e5]
    rfl
   ·unfold execOp at z
    simp only [q,e5] at z
    simp [go_sem] at z
  |9,_=>
   obtain ⟨q,I⟩:=kL (.binOp .sub 3 (.tmp 36) (.const (.int .i64 1)) 3,none) J rfl
   refine go (by decide) I (λw=>?_) λw e z=>?_
   ·unfold execOp
    simp only [q,E 8 36 rfl rfl]
    simp [zf,go_sem,ab,aa,ac]
   ·unfold execOp at z
    simp only [q,E 8 36 rfl rfl] at z
    simp [zf,go_sem] at z
  |10,_=>
   obtain ⟨q,I⟩:=kL (.slice 9 (.tmp 35) (some (.const (.int .i64 8))) (some (.tmp 37)) none,none) J rfl
   refine go (by decide) I (λw=>?_) λw e z=>?_
   ·unfold execOp
    simp only [q,jf,bQ,E 7 35 rfl rfl,E 9 37 rfl rfl]
    simp [zf,go_sem,sl w]
   ·unfold execOp at z
    simp only [q,jf,bQ,E 7 35 rfl rfl,E 9 37 rfl rfl] at z
    simp [zf,go_sem,aj] at z
  |11,_=>
   obtain ⟨q,I⟩:=kL (.call { callee:=.value (.func 151),args:=#[.tmp 38],argTypes:=#[9] },none) J rfl
   have hn:=R
   rw [keep (by decide)] at hn
   exact OQ D ap _ _ _ _ _ _ _ _ _ _ _ _ _ _ _ _ J (wn I) (base_kind _) q (by simp [E 10 38 rfl rfl,zf]) hn
  |12,_=>
   obtain ⟨q,I⟩:=kL (.move (.tmp 0),none) J rfl
   refine go (by decide) I (λw=>?_) λw e z=>?_
   ·unfold execOp
    simp only [q,e0]
    rfl
   ·unfold execOp at z
    simp only [q,e0] at z
    simp [go_sem] at z
  |13,_=>
   obtain ⟨q,I⟩:=kL (.move (.tmp 5),none) J rfl
   refine go (by decide) I (λw=>?_) λw e z=>?_
   ·unfold execOp
    simp only [q,e5]
    rfl
   ·unfold execOp at z
    simp only [q,e5] at z
    simp [go_sem] at z
  |14,_=>
   obtain ⟨q,I⟩:=kL (.binOp .sub 3 (.tmp 41) (.const (.int .i64 1)) 3,none) J rfl
   refine go (by decide) I (λw=>?_) λw e z=>?_
   ·unfold execOp
    simp only [q,E 13 41 rfl rfl]
    simp [zf,go_sem,ab,aa,ac]
   ·unfold execOp at z
    simp only [q,E 13 41 rfl rfl] at z
    simp [zf,go_sem] at z
  |15,_=>
   obtain ⟨q,I⟩:=kL (.index 9 (.tmp 40) (.tmp 42),none) J rfl
   refine go (by decide) I (λw=>?_) λw e z=>?_
   ·unfold execOp
    simp only [q,E 12 40 rfl rfl,E 14 42 rfl rfl]
    simp [zf,go_sem,aq]
   ·unfold execOp at z
    simp only [q,E 12 40 rfl rfl,E 14 42 rfl rfl] at z
    simp [zf,go_sem,an] at z
  |16,_=>
   obtain ⟨q,I⟩:=kL (.binOp .eql 5 (.tmp 43) (.const (.int .u8 1)) 5,none) J rfl
   refine go (by decide) I (λw=>?_) λw e z=>?_
   ·unfold execOp
    simp only [q,E 15 43 rfl rfl]
    simp [zf,go_sem,au]
   ·unfold execOp at z
    simp only [q,E 15 43 rfl rfl] at z
    simp [zf,go_sem] at z
  |17,_=>
   obtain ⟨q,I⟩:=kL (.build 81 #[(0,.tmp 30),(1,.tmp 34),(2,.tmp 39),(3,.tmp 44)],none) J rfl
   refine go (by decide) I (λw=>?_) λw e z=>?_
   ·unfold execOp
    simp only [q,fJ,dW,fG,E 2 30 rfl rfl,E 6 34 rfl rfl,E 11 39 rfl rfl,E 16 44 rfl rfl]
    simp [zf,go_sem,bd]
   ·unfold execOp at z
    simp only [q,fJ,dW,fG,E 2 30 rfl rfl,E 6 34 rfl rfl,E 11 39 rfl rfl,E 16 44 rfl rfl] at z
    simp [zf,go_sem] at z
  |18,_=>
   obtain ⟨q,I⟩:=kL (.move (.tmp 5),none) J rfl
   refine go (by decide) I (λw=>?_) λw e z=>?_
   ·unfold execOp
    simp only [q,e5]
    rfl
   ·unfold execOp at z
    simp only [q,e5] at z
    simp [go_sem] at z
  |19,_=>
   obtain ⟨q,I⟩:=kL (.store 81 (.tmp 2) (.tmp 45),none) J rfl
   have ae:=F6 hi
   have hn:=R
   simp only [Zx,ae.1,ae.2,if_true,if_false,bJ] at hn⊢
   exact Wc.st (j:=0) (.cells (F8 C4 Y D lb) 81) rfl J (wn I) (base_kind _) (λw hl=>pF (hF.old (s:=2) (by kernel_rfl) ha.2.2.1) (E 17 45 rfl rfl) q w hl) hn
  |20,_=>
   obtain ⟨q,I⟩:=kL (.assign (.tmp 46),none) J rfl
   refine go (by decide) I (λw=>?_) λw e z=>?_
   ·unfold execOp
    simp only [q,E 18 46 rfl rfl]
    rfl
   ·unfold execOp at z
    simp only [q,E 18 46 rfl rfl] at z
    simp [go_sem] at z
  |21,_=>
   obtain ⟨q,I⟩:=kL (.assign (.const (.bool true)),none) J rfl
   refine go (by decide) I (λw=>?_) λw e z=>?_
   ·unfold execOp
    simp only [q]
    rfl
   ·unfold execOp at z
    simp only [q] at z
    simp [go_sem] at z
end
theorem OY (s:ByteArray) (hs:s.size<=16777216):ZV 142 #[.string s] (fv (one s.data.toList 0)):=by
 intro S m St K0 w0 L b a k cs ops i rest o xs a0 ho hw hk ai hx nx
 refine Wc.call ho hw hk ai Tryz.func142 rfl rfl ?_
 rw [hx]
 simp only [Tryz.ntmps142,dL,aN,bM,Nat.reduceAdd,Nat.reduceSub,cO,bZ,dN,cZ,dM,dH]
 have nx:Wc Tryz.prog S m St K0 w0 L (G ((b.at a (.inRegion ops (i::rest)::k)).finish (fv (one s.data.toList 0))) cs):=by
  rw [fF,ho]
  exact nx
 have Y:=aV s
 obtain ⟨R,hR⟩:∃R,one s.data.toList 0=R:=⟨_,rfl⟩
 rw [hR] at nx
 generalize b.at a (.inRegion ops (i::rest)::k)=cf at nx
 have NX:Hid _:=nx
 have el:=FD
 clear nx ho hw hk ai hx
 refine Wc.seq (Wc.reg [0,1,2] rfl ?_)
 refine Wc.al (.cells Dx 81) (λn=>.pointer (some ⟨n,0,none⟩)) rfl rfl (base_kind _) (λw Y=>⟨by simp [go_sem],λe he=>by simp [go_sem] at he⟩) λn=>?_
 walk_nrm
 by_cases h8:s.size < 8
 ·obtain rfl:R=none:=hR.symm.trans (Fr.IX (by omega))
  have aq:(s.size:Int) < 8:=by omega
  clear Y hR
  refine Wc.go 30 λK w q=>?_
  iterate 2 u_op At.en q
  u_c stepG_region_end At.en q
  iterate 2 u_c stepG_seq At.en q
  u_reg At.en q
  iterate 3 u_op At.en q
  u_c stepG_region_end At.en q
  u_cond true At.en q
  u_c stepG_seq At.en q
  u_reg At.en q
  u_op At.en q
  refine Goes.stop λ_ z=>Wc.use ?_ (q.en z)
  clear q
  refine Wc.st (j:=0) (.cells Dx 81) rfl rfl rfl (base_kind _) (λw Y=>pF rfl rfl rfl w Y) ?_
  walk_nrm
  refine Wc.go 30 λK w q=>?_
  iterate 2 u_op At.en q
  u_c stepG_region_end At.en q
  refine Goes.stop λ_ z=>Wc.use ?_ (q.en z)
  exact .ret λtodo=>pU rfl rfl rfl rfl NX.out
 have aq:¬(s.size:Int) < 8:=by omega
 have ac:(8:Int)<=(s.size:Int):=by omega
 have e6:big (s.extract 6 8).data.toList 0 (s.extract 6 8).size=big s.data.toList 6 2:=by
  rw [Fr.ext_list,show (s.extract 6 8).size=2 from by simp [eG];omega]
  exact Fr.FX s.data.toList 6 2
 have e4:big (s.extract 4 6).data.toList 0 (s.extract 4 6).size=big s.data.toList 4 2:=by
  rw [Fr.ext_list,show (s.extract 4 6).size=2 from by simp [eG];omega]
  exact Fr.FX s.data.toList 4 2
 have e0:big (s.extract 0 4).data.toList 0 (s.extract 0 4).size=big s.data.toList 0 4:=by
  rw [Fr.ext_list,show (s.extract 0 4).size=4 from by simp [eG];omega]
  exact Fr.FX s.data.toList 0 4
 have n6:=uO (s.extract 6 8) (by simp [eG];omega)
 have n4:=uO (s.extract 4 6) (by simp [eG];omega)
 have n0:=uO (s.extract 0 4) (by simp [eG];omega)
 rw [e6] at n6
 rw [e4] at n4
 rw [e0] at n0
 clear e6 e4 e0
 have l6:=Fr.sJ s.data.toList 6 2
 have l0:=Fr.sJ s.data.toList 0 4
 have l4:=Fr.sJ s.data.toList 4 2
 simp only [Nat.reducePow] at l6 l0 l4
 have E:s.size≠8->one s.data.toList 0=_:=λh=>Fr.Xk (s:=s.data.toList) (p:=0) (by omega)
 simp only [fC] at E
 generalize hN:big s.data.toList 6 2=N at *
 generalize au:big s.data.toList 0 4=C4 at *
 generalize am:big s.data.toList 4 2=C2 at *
 have N6:Hid _:=n6
 have N4:Hid _:=n4
 have N0:Hid _:=n0
 have I:Hid _:=E
 have Hl:Hid _:=Y
 have HR:Hid _:=hR
 clear n6 n4 n0 E Y hN au am hR
 refine Wc.go 30 λK w q=>?_
 iterate 2 u_op At.en q
 u_c stepG_region_end At.en q
 iterate 2 u_c stepG_seq At.en q
 u_reg At.en q
 iterate 3 u_op At.en q
 u_c stepG_region_end At.en q
 u_cond false At.en q
 u_c stepG_skip At.en q
 u_c stepG_seq At.en q
 u_reg At.en q
 u_op At.en q
 have ev:=λw es=>nU s _ _ w es (AO s 6 8 w es (by omega) (by omega) ac)
 u_op At.en q
 refine Goes.stop λ_ z=>Wc.use ?_ (q.en z)
 clear q ev
 refine N6.out _ _ _ _ _ _ _ _ _ _ _ _ _ _ _ _ rfl rfl (base_kind _) rfl (by simp [Act.eval]) ?_
 walk_nrm
 have az:IntKind.i64.wrap (N:Int)=N:=by rw [IntKind.wrap_i64];omega
 have aw:IntKind.i64.wrap (8+(N:Int))=8+(N:Int):=by rw [IntKind.wrap_i64];omega
 have ay:IntKind.i64.wrap (8+(N:Int)+1)=8+(N:Int)+1:=by rw [IntKind.wrap_i64];omega
 by_cases hn:s.size < 9+N
 ·have an:(s.size:Int) < 8+(N:Int)+1:=by omega
  obtain rfl:R=none:=HR.out.symm.trans (by
   by_cases h:s.size=8
   ·exact Fr.IX (by rw [<-Hl.out];omega)
   ·rw [I.out h,if_pos (by rw [<-Hl.out];exact hn)])
  refine Wc.go 40 λK w q=>?_
  iterate 4 u_op At.en q
  u_c stepG_region_end At.en q
  iterate 2 u_c stepG_seq At.en q
  u_reg At.en q
  iterate 5 u_op At.en q
  iterate 5 u_skip At.en q
  u_op At.en q
  u_c stepG_region_end At.en q
  u_cond true At.en q
  u_c stepG_seq At.en q
  u_reg At.en q
  u_op At.en q
  refine Goes.stop λ_ z=>Wc.use ?_ (q.en z)
  clear q
  refine Wc.st (j:=0) (.cells Dx 81) rfl rfl rfl (base_kind _) (λw Y=>pF rfl rfl rfl w Y) ?_
  walk_nrm
  refine Wc.go 30 λK w q=>?_
  iterate 2 u_op At.en q
  u_c stepG_region_end At.en q
  refine Goes.stop λ_ z=>Wc.use ?_ (q.en z)
  exact .ret λtodo=>pU rfl rfl rfl rfl NX.out
 have an:¬(s.size:Int) < 8+(N:Int)+1:=by omega
 have ab:8+N < s.size:=by omega
 have ah:∀u:World,(Instr.index 9 (.string s) (.int .i64 (8+(N:Int)))).run Tryz.prog u=.ok (.int .u8 (s[8+N].toNat:Int)) u:=λu=>X0 u s (8+(N:Int)) (8+N) ab (by omega)
 have a1:=λw es=>BU s (8+(N:Int)) w es (by omega) (by omega)
 have ag:=Fr.getD_byte s (8+N) ab
 obtain ⟨c,hc⟩:∃c:Nat,s[8+N].toNat=c:=⟨_,rfl⟩
 have a2:c < 256:=by rw [<-hc];exact UInt8.toNat_lt _
 rw [hc] at ah
 have J:=I.out (by omega)
 rw [if_neg (by rw [<-Hl.out];omega),ag,hc] at J
 have aa:Hid _:=J
 have av:IntKind.i64.wrap (8+(N:Int)+1 - 1)=8+(N:Int):=by rw [IntKind.wrap_i64];omega
 have ax:8+(N:Int)+1 - 1=8+(N:Int):=by omega
 clear ag hc J I
 by_cases aj:1 < c
 ·have ae:(1:Int) < (c:Int):=by omega
  obtain rfl:R=none:=HR.out.symm.trans (by rw [aa.out,if_pos aj])
  refine Wc.go 40 λK w q=>?_
  iterate 4 u_op At.en q
  u_c stepG_region_end At.en q
  iterate 2 u_c stepG_seq At.en q
  u_reg At.en q
  iterate 11 u_op At.en q
  u_c stepG_region_end At.en q
  u_cond true At.en q
  u_c stepG_seq At.en q
  u_reg At.en q
  u_op At.en q
  refine Goes.stop λ_ z=>Wc.use ?_ (q.en z)
  clear q
  refine Wc.st (j:=0) (.cells Dx 81) rfl rfl rfl (base_kind _) (λw Y=>pF rfl rfl rfl w Y) ?_
  walk_nrm
  refine Wc.go 30 λK w q=>?_
  iterate 2 u_op At.en q
  u_c stepG_region_end At.en q
  refine Goes.stop λ_ z=>Wc.use ?_ (q.en z)
  exact .ret λtodo=>pU rfl rfl rfl rfl NX.out
 ·have ae:¬(1:Int) < (c:Int):=by omega
  obtain ⟨lb,ak⟩:∃lb:Bool,((c:Int) == 1)=lb:=⟨_,rfl⟩
  have af:(c == 1)=lb:=by
   rw [<-ak]
   rcases (by omega:c=0\/c=1) with rfl|rfl<;>rfl
  obtain ⟨D,hD⟩:∃D:ByteArray,s.extract 8 (8+N)=D:=⟨_,rfl⟩
  have ao:(⟨((s.data.toList.take (8+N)).drop 8).toArray⟩:ByteArray)=D:=by rw [<-hD,<-Fr.ext_list]
  have ap:D.size<=16777216:=by rw [<-hD];simp [eG];omega
  have ar:fv R=.tuple #[.agg (F8 C4 C2 D lb),.int .i64 (8+(N:Int)+1),.bool true]:=by
   rw [<-HR.out,aa.out,if_neg aj,af]
   simp only [fv,ao,F8]
   congr 5
   omega
  rw [ar] at NX
  refine Wc.go 40 λK w q=>?_
  iterate 4 u_op At.en q
  u_c stepG_region_end At.en q
  iterate 2 u_c stepG_seq At.en q
  u_reg At.en q
  iterate 11 u_op At.en q
  u_c stepG_region_end At.en q
  u_cond false At.en q
  u_c stepG_skip At.en q
  refine Goes.stop λ_ z=>Wc.use ?_ (q.en z)
  clear q
  exact YC (c:=c) hs ac ab l4 ah ak hD ap N4.out N0.out NX.out _ ⟨rfl,rfl,rfl,rfl,rfl⟩
end Cr
namespace Hm
open Go.RowKit Go.Joins
section
variable {g off cap:Nat}
theorem jU {w:World} {b:Nat} {q:Array Value} {e:TypeId} {z:Nat×Nat} (h:w.heap[b]? =some (.cells q e z)) (i:Nat) (v:Value):(w.setCell ⟨b,i,none⟩ v).heap[b]? =some (.cells (q.setIfInBounds i v) e z):=block_setCell h v
theorem qF:∀(vs:List Value) (o:Nat) {w:World} {b:Nat} {z:Array Value} {e:TypeId} {J:Nat×Nat},w.heap[b]? =some (.cells z e J)->
  ∃q,(w.setCells b o vs).heap[b]? =some (.cells q e J)/\q.size=z.size/\(∀j,j < o\/o+vs.length<=j->q[j]? =z[j]?)/\∀j u,vs[j]? =some u->o+j < z.size->q[o+j]? =some u
 |[],o,w,b,z,e,J,h=>⟨z,h,rfl,λ_ _=>rfl,λj u E=>by simp at E⟩
 |v::vs,o,w,b,z,e,J,h=>by
  obtain ⟨q,Y,h2,h3,h4⟩:=qF vs (o+1) (jU h o v)
  refine ⟨q,Y,by rw [h2];simp,λj E=>?_,λj u E I=>?_⟩
  ·have R:j < o\/o+(vs.length+1)<=j:=by simpa using E
   rw [h3 j (by omega),aO]
   rw [if_neg (by omega)]
  ·cases j with
   |zero=>
    simp at E
    subst E
    rw [Nat.add_zero,h3 o (by omega),aO]
    simp at I
    simp [I]
   |succ j=>
    have:=h4 j u (by simpa using E) (by simp;omega)
    rw [show o+(j+1)=o+1+j from by omega]
    exact this
theorem kN (b:Nat):∀(vs:List Value) (o:Nat) (w:World),w.grownBy (w.setCells b o vs) (some b)/\(w.setCells b o vs).heap.size=w.heap.size
 |[],o,w=>⟨⟨rfl,rfl,rfl,jC,λ_ _ _=>rfl⟩,rfl⟩
 |v::vs,o,w=>by
  obtain ⟨h,hs⟩:=kN b vs (o+1) (w.setCell ⟨b,o,none⟩ v)
  have z:(w.setCell ⟨b,o,none⟩ v).heap.size=w.heap.size:=by simp
  refine ⟨⟨h.os.trans ?_,h.tape.trans ?_,h.output.trans ?_,by rw [World.setCells,hs,z];exact jC,λk hk q=>(h.block k (by rw [z];exact hk) q).trans (aP _ _ _ _ (λE=>q (by rw [E])))⟩,by rw [World.setCells,hs,z]⟩
  ·rfl
  ·rfl
  ·rfl
def Row (w:World) (e s:Nat) (v:Value) (n:Nat) (xs:List Value):Prop:=
 xs.length=n * s/\((v=.slice none 0 0/\n=0)\/
  ∃g off cap q,v=.slice (some ⟨g,off,none⟩) n cap/\w.heap[g]? =some (.cells q e (0,0))/\n<=cap/\cap<=maxLen/\off+cap * s<=q.size/\∀j u,xs[j]? =some u->q[off+j]? =some u)
section
variable {w w':World} {e s:Nat} {v:Value} {n:Nat} {xs:List Value}
theorem Row.slice (h:Row w e s v n xs):∃a cap,v=.slice a n cap:=by
 rcases h.2 with ⟨rfl,rfl⟩|⟨g,off,cap,q,rfl,_⟩
 ·exact ⟨_,_,rfl⟩
 ·exact ⟨_,_,rfl⟩
theorem Row.pos (h:Row w e s v n xs) (E:0 < n):∃g off cap,v=.slice (some ⟨g,off,none⟩) n cap/\n<=cap:=by
 rcases h.2 with ⟨rfl,rfl⟩|⟨g,off,cap,q,rfl,_,z,_⟩
 ·omega
 ·exact ⟨_,_,_,rfl,z⟩
theorem Row.obj (h:Row w e s v n xs) (z:v.ownBlock=some g):∃q,w.heap[g]? =some (.cells q e (0,0)):=by
 rcases h.2 with ⟨rfl,_⟩|⟨g',off,cap,q,rfl,E,_⟩
 ·simp [Value.ownBlock] at z
 ·simp [Value.ownBlock] at z
  subst z
  exact ⟨_,E⟩
theorem Row.lt (h:Row w e s v n xs) (z:v.ownBlock=some g):g < w.heap.size:=by
 obtain ⟨q,E⟩:=h.obj z
 exact (jE E)
theorem Row.kept (h:Row w e s v n xs) (hk:∀g,v.ownBlock=some g->w'.heap[g]? =w.heap[g]?):Row w' e s v n xs:=by
 refine ⟨h.1,?_⟩
 rcases h.2 with E|⟨g,off,cap,q,rfl,z,r⟩
 ·exact .inl E
 ·exact .inr ⟨g,off,cap,q,rfl,(hk g rfl).trans z,r⟩
theorem Row.nil (w:World) (e s:Nat):Row w e s (.slice none 0 0) 0 []:=⟨by simp,.inl ⟨rfl,rfl⟩⟩
theorem Row.Uo {lo:Nat} (h:w.ownsRow lo e s v n xs):Row w e s v n xs:=by
 have q:=h.1
 refine ⟨q,?_⟩
 rcases h.2 with h0|⟨g,cap,E,rfl,hb,Y,J,I,aa,R⟩
 ·exact .inl h0
 ·refine .inr ⟨g,0,cap,E,rfl,Y,J,I,by omega,λj u z=>?_⟩
  rw [<-R,gG] at z
  split at z
  ·rw [fC,<-z];simp
  ·cases z
theorem Row.cell (h:Row w e s v n xs) (q:v=.slice (some ⟨g,off,none⟩) n cap) (j:Nat) (u:Value) (J:xs[j]? =some u):w.cell? ⟨g,off+j,none⟩=some u:=by
 rcases h.2 with ⟨rfl,_⟩|⟨g',z,E,I,rfl,R,_,_,_,Y⟩
 ·cases q
 ·simp only [Value.slice.injEq,aC,Addr.mk.injEq,and_true,true_and] at q
  obtain ⟨⟨rfl,rfl⟩,rfl⟩:=q
  have:=Y j u J
  simp [World.cell?,R,this]
theorem Row.frozen (h:Row w e s v n xs) (q:v=.slice (some ⟨g,off,none⟩) n cap) (i:Nat):w.frozen? ⟨g,i,none⟩=false:=by
 rcases h.2 with ⟨rfl,_⟩|⟨g',z,E,I,rfl,J,_⟩
 ·cases q
 ·simp only [Value.slice.injEq,aC,Addr.mk.injEq,and_true,true_and] at q
  obtain ⟨⟨rfl,rfl⟩,rfl⟩:=q
  exact aI J i
theorem Row.append {P:Program} (h:Row w e s v n xs) (t ty:TypeId) (i:TypeInfo) (z:Value) (bytes:Nat) (ht:P.underlying t=some (.slice e)) (hi:P.info? e=some i) (hz:i.zero=some z)
  (E:i.size=s) (ac:i.bytes=bytes) (ak:z.cells.size=s) (ai:0 < s)
  (a:Addr) (m c:Nat) (q:List Value) (hm:0 < m) (hl:q.length=m * s) (J:∀j u,q[j]? =some u->w.cell? (a.add j)=some u) (h1:∀u∈q,u.oneCell'=true)
  (ab:n+m<=maxLen) (I:(n+m) * bytes<=140737488355328):
  ∃v' w',(Builtin.append_ #[t,t] ty #[v,.slice (some a) m c]).run P w=.ok v' w'/\Row w' e s v' (n+m) (xs++q)/\(∃g off cap,v'=.slice (some ⟨g,off,none⟩) (n+m) cap)/\
   ((v'.ownBlock=v.ownBlock/\w.grownBy w' v.ownBlock/\w'.heap.size=w.heap.size)\/(v'.ownBlock=some w.heap.size/\w.grownBy w' none/\w'.heap.size=w.heap.size+1)):=by
 have ah:∀b cap R,R.length=n * s->(∀j u,R[j]? =some u->w.cell? (b.add j)=some u)->cap < n+m->
   ∃v' w',(Builtin.append_ #[t,t] ty #[.slice (some b) n cap,.slice (some a) m c]).run P w=.ok v' w'/\Row w' e s v' (n+m) (R++q)/\(∃g off cap,v'=.slice (some ⟨g,off,none⟩) (n+m) cap)/\v'.ownBlock=some w.heap.size/\w.grownBy w' none/\w'.heap.size=w.heap.size+1:=by
  intro b cap R am holds hg
  obtain ⟨v',w',hr,ho,af⟩:=run_append_arg_grows (P:=P) w t ty e i z s bytes ht hi hz E ac ak ai b n cap R am holds a m c q hl J hg ab I
  have Y:=run_append_grow (P:=P) w t ty e i z ht hi hz b n cap R (by rw [E];exact am) holds a m c q (by rw [E];exact hl) J hg (by simp only [maxLen] at ab;omega) (growslice_fits hg (by rw [ac];exact I))
  rw [hr] at Y
  simp only [Result.ok.injEq] at Y
  obtain ⟨e1,e2⟩:=Y
  exact ⟨v',w',hr,.Uo ho,⟨_,_,_,e1⟩,by rw [e1];rfl,af,by rw [e2];simp⟩
 rcases h.2 with ⟨rfl,rfl⟩|⟨g,off,cap,aj,rfl,hh,a0,ao,aq,hc⟩
 ·have hx:xs=[]:=bD (by simpa using h.1)
  subst hx
  obtain ⟨v',w',hr,ho,af,ax⟩:=run_append_own (P:=P) w w.heap.size t ty e i z s bytes ht hi hz E ac ak ai (.slice none 0 0) 0 [] (World.ownsRow_nil w _ e s) a m c q hl J h1 ab I jC
  have ap:Row w' e s v' (0+m) ([]++q):=.Uo ho
  rcases ho.2 with ⟨rfl,h0⟩|⟨g,cap,aj,rfl,av,hh,_⟩
  ·omega
  ·refine ⟨_,w',hr,ap,⟨_,_,_,rfl⟩,.inr ?_⟩
   have ag:w'.heap.size=w.heap.size+1:=by
    have Y:=run_append_nil (P:=P) w t ty e i z ht hi hz a m c q (by rw [E];exact hl) J (by omega) (by simp only [maxLen] at ab;omega) (by rw [ac];simp only [fC] at I;omega)
    rw [hr] at Y
    simp only [Result.ok.injEq] at Y
    rw [Y.2]
    simp
   have aw:=(jE hh)
   exact ⟨by simp [Value.ownBlock];omega,af,ag⟩
 ·by_cases aa:n+m<=cap
  ·have au:n * s+q.length=(n+m) * s:=by rw [hl,iM]
   have a1:(n+m) * s<=cap * s:=fD _ aa
   have ae:∀j,j < q.length->(w.cell? ⟨g,off+n * i.size+j,none⟩).isSome=true:=λj hj=>by
    have:off+n * i.size+j < aj.size:=by rw [E];omega
    simp [World.cell?,hh,bU this]
   have hr:=run_append_room_cells (P:=P) w t ty e i ht hi g off n cap a m c q (by rw [E];exact hl) J h1 aa ae (λj _=>aI hh _)
   rw [E] at hr
   obtain ⟨an,k1,k2,k3,k4⟩:=qF q (off+n * s) hh
   refine ⟨_,_,hr,⟨by rw [aJ,h.1,hl,iM],.inr ⟨g,off,cap,an,rfl,k1,aa,ao,by rw [k2];exact aq,λj u hj=>?_⟩⟩,⟨_,_,_,rfl⟩,.inl ⟨rfl,(kN g q (off+n * s) w).1,(kN g q (off+n * s) w).2⟩⟩
   ·by_cases ar:j < xs.length
    ·rw [bP ar] at hj
     rw [k3 (off+j) (.inl (by rw [<-h.1];omega))]
     exact hc j u hj
    ·rw [bK (by omega)] at hj
     have az:=(aF.1 hj).1
     have ay:=h.1
     have:=k4 (j - xs.length) u hj (by omega)
     rw [show off+j=off+n * s+(j - xs.length) from by omega]
     exact this
  ·obtain ⟨v',w',hr,h2,h3,h4,h5,h6⟩:=ah ⟨g,off,none⟩ cap xs h.1 (λj u hj=>by
    have:=h.cell rfl j u hj
    unfold Addr.add
    split
    ·rename_i h0;subst h0;simpa using this
    ·exact this) (by omega)
   exact ⟨v',w',hr,h2,h3,.inr ⟨h4,h5,h6⟩⟩
end
end
end Hm
namespace Cr
open Go Go.Conc Go.ConcN Go.RowKit Go.Conc.Lib Go.ConcR.Gen Go.ConcN.Gen
open Go.ConcR (KK WgAt stA smA Payload DC0)
open Fr (F flat)
section
variable {v:Value} {fs:List F} {R:List (Nat×Obj)}
def yu (v:Value) (fs:List F) (R:List (Nat×Obj)):Prop:=
 (v=.slice none 0 0/\fs=[]/\R=[])\/∃g cap q,v=.slice (some ⟨g,0,none⟩) fs.length cap/\R=[(g,.cells q 81)]/\fs.length<=cap/\cap<=maxLen/\q.size=cap * 4/\q.toList.take (fs.length * 4)=flat fs
theorem yu.slice (h:yu v fs R):∃a c,v=.slice a fs.length c:=by
 rcases h with ⟨rfl,rfl,_⟩|⟨g,cap,q,rfl,_⟩<;>exact ⟨_,_,rfl⟩
abbrev xE (x:F):Array Value:=F8 x.chan x.num ⟨x.data.toArray⟩ x.last
theorem Nc:(Tryz.prog.info? 81).map (λi=>(i.zero,i.size,i.bytes))=some (some (.agg Dx),4,32):=by kernel_rfl
theorem Xm {A Y:List (Nat×Obj)} {n0 n3:Nat} {x:F} {w:World} (hR:yu v fs R) (hl:Lies (A++(R++Y)) n0 w) (am:(n3,.cells (xE x) 81)∈A) (a1:fs.length < 1048576):
  ∃v' w' R',(Builtin.append_ #[76,76] 76 #[v,.slice (some ⟨n3,0,none⟩) 1 1]).run Tryz.prog w=.ok v' w'/\yu v' (fs++[x]) R'/\∀es:Array Event,(∀e∈es,e∈(Builtin.append_ #[76,76] 76 #[v,.slice (some ⟨n3,0,none⟩) 1 1]).events Tryz.prog w #[])->Turn (A++(R++Y)) (A++(R'++Y)) w w' es:=by
 obtain ⟨ie,hi,ac,ah,af⟩:∃i,Tryz.prog.info? 81=some i/\i.zero=some (.agg Dx)/\i.size=4/\i.bytes=32:=by
  have:=Nc
  cases h:Tryz.prog.info? 81 with
  |none=>rw [h] at this;cases this
  |some i=>
   rw [h] at this
   simp only [bQ,aC,dA] at this
   exact ⟨i,rfl,this.1,this.2.1,this.2.2⟩
 have J:∀p∈A++(R++Y),w.heap[p.1]? =some p.2:=λp hp=>(hl.mem p hp).2
 have h3:=J _ (List.mem_append_left _ am)
 have an:(flat fs).length=fs.length * 4:=Fr.flat_length fs
 have aa:w.ownsRow 0 81 4 v fs.length (flat fs):=by
  refine ⟨an,hR.imp (λh=>⟨h.1,by rw [h.2.1];rfl⟩) ?_⟩
  rintro ⟨g,cap,z,e,rfl,r⟩
  exact ⟨g,cap,z,e,dF _,J (g,.cells z 81) (by simp),r⟩
 have ao:Hm.Row w 81 4 v fs.length (flat fs):=by
  refine ⟨an,hR.imp (λh=>⟨h.1,by rw [h.2.1];rfl⟩) ?_⟩
  rintro ⟨g,cap,z,e,rfl,r1,r2,r3,r4⟩
  refine ⟨g,0,cap,z,e,J (g,.cells z 81) (by simp),r1,r2,by omega,λj u hj=>?_⟩
  rw [<-r4] at hj
  rw [fC,<-Array.getElem?_toList]
  have ar:j < fs.length * 4:=by
   have:=(aF.1 hj).1
   rw [aZ] at this
   omega
  rw [iF ar] at hj
  exact hj
 have ai:(xE x).toList.length=1 * 4:=rfl
 have I:∀j u,(xE x).toList[j]? =some u->w.cell? ((⟨n3,0,none⟩:Addr).add j)=some u:=λj u hj=>by
  rw [show (⟨n3,0,none⟩:Addr).add j=⟨n3,j,none⟩ from by unfold Addr.add;split<;>simp_all,aA h3]
  simpa using hj
 have E:∀u∈(xE x).toList,u.oneCell'=true:=λu hu=>by
  simp only [bV,List.not_mem_nil,or_false] at hu
  rcases hu with rfl|rfl|rfl|rfl<;>rfl
 have ae:fs.length+1<=maxLen:=by unfold maxLen;omega
 obtain ⟨v',w',hr,ho,hg,a2⟩:=run_append_own (P:=Tryz.prog) w 0 76 76 81 ie (.agg Dx) 4 32 Tryz.underlying76 hi ac ah af rfl (by omega) v fs.length (flat fs) aa ⟨n3,0,none⟩ 1 1 (xE x).toList ai I E ae (by omega) (dF _)
 obtain ⟨a6,a5,ab,_,⟨g2,a3,a4,ax⟩,aq⟩:=ao.append (P:=Tryz.prog) 76 76 ie (.agg Dx) 32 Tryz.underlying76 hi ac ah af rfl (by omega) ⟨n3,0,none⟩ 1 1 (xE x).toList (by omega) ai I E ae (by omega)
 rw [hr] at ab
 simp only [Result.ok.injEq] at ab
 obtain ⟨rfl,rfl⟩:=ab
 have az:=events_append_where (P:=Tryz.prog) w 0 76 76 81 ie (.agg Dx) 4 32 Tryz.underlying76 hi ac ah af v fs.length (flat fs) aa ⟨n3,0,none⟩ 1 1 (xE x).toList ai I E ae (by omega)
 obtain ⟨g',aj,q,ag,_,ak,a0,av,aw,au⟩:∃g cap z,v'=.slice (some ⟨g,0,none⟩) (fs.length+1) cap/\0<=g/\w'.heap[g]? =some (.cells z 81 (0,0))/\fs.length+1<=cap/\cap<=maxLen/\z.size=cap * 4/\z.toList.take ((fs.length+1) * 4)=flat fs++(xE x).toList:=by
  rcases ho.2 with ⟨h,_⟩|h
  ·rw [ax] at h;cases h
  ·exact h
 refine ⟨v',w',[(g',.cells q 81)],hr,.inr ⟨g',aj,q,by rw [ag,aJ];rfl,rfl,by rw [aJ];exact a0,av,aw,by rw [aJ,Fr.yQ];exact au⟩,λes ay=>?_⟩
 have ap:∀g,v.ownBlock=some g->∃ob,R=[(g,ob)]:=λg hg=>by
  rcases hR with ⟨rfl,_⟩|⟨g',cap,z,rfl,rfl,_⟩
  ·cases hg
  ·cases hg;exact ⟨_,rfl⟩
 have hE:∀{N N':Nat},∀e∈es,EvA (A++(R++Y)) N N' e:=λe he=>by
  have he:=ay e he
  rcases az e he with ⟨ad,E,⟨_,h2⟩|h2⟩|⟨mk,rfl,h2⟩
  ·exact RS (KJ (Ju _ _ _) he) E ⟨_,List.mem_append_left _ am,h2.symm⟩
  ·obtain ⟨ob,rfl⟩:=ap _ h2.symm
   exact RS (KJ (Ju _ _ _) he) E ⟨(ad.block,ob),by simp,rfl⟩
  ·unfold Neutral at h2
   subst h2
   exact .inr (.inr (.inl ⟨_,_,rfl⟩))
 rcases aq with ⟨E,h2,h3⟩|⟨E,h2,h3⟩
 ·rw [ag] at E
  have E:some g'=v.ownBlock:=E
  obtain ⟨ob,rfl⟩:=ap _ E.symm
  have:=Turn.set (i:=A.length) (o':=.cells q 81) (w0:={ w with heap:=Array.replicate n0 default }) (es:=es) (by simpa using hl) (show (A++([(g',ob)]++Y))[A.length]? =some (g',ob) by simp) h3 (λy hy=>?_) ak h2.tape h2.os h2.output hE
  ·simpa using this
  ·rcases fQ y w.heap.size with h|h
   ·exact h2.block y h λe=>hy (by rw [<-E] at e;exact eP e)
   ·rw [iR (by omega),iR h]
 ·rw [ag] at E
  have E:some g'=some w.heap.size:=E
  cases E
  have ht:=Turn.lay (w0:={ w with heap:=Array.replicate n0 default }) (es:=es) (by simpa using hl) h3 (λy hy=>h2.block y hy (by simp)) ak h2.tape h2.os h2.output hE
  have hs:(A++(w.heap.size,Obj.cells q 81)::Y).Sublist (A++(w.heap.size,Obj.cells q 81)::(R++Y)):=(iL A).append (.cons_cons _ (List.sublist_append_right _ _))
  have hp:((w.heap.size,Obj.cells q 81)::(A++(R++Y))).Perm (A++(w.heap.size,Obj.cells q 81)::(R++Y)):=List.perm_middle.symm
  exact ⟨ht.tape,ht.os,ht.output,ht.size,ht.block,λp hp'=>ht.mem p (hp.mem_iff.2 (hs.subset hp')),((hp.pairwise_iff λh=>Ne.symm h).1 ht.ord).sublist hs,ht.events⟩
end
end Cr
namespace Cr
open Go Go.Conc Go.ConcN Go.RowKit Go.Conc.Lib Go.ConcR.Gen Go.ConcN.Gen
open Go.ConcR (KK WgAt stA smA Payload DC0)
open Fr (F flat one fv frames)
set_option linter.unusedSimpArgs false
variable {n j:Nat} {w:World} {v v':Value} {t:TypeId} {p:Operand}
def oz (o:Oper):Bool:=match o.op with|.defer _=>false|_=>true
theorem oz.out {o:Oper} (h:oz o=true) (c:Go.Call):o.op≠.defer c:=λe=>by simp [oz,e] at h
section
variable {S:Who} {m:Nat} {St:jV->Goroutine->World->Prop} {K0:jV} {w0:World} {L L0:List (Nat×Obj)} {b:Frame} {a:Act} {k:List Item} {cs:List Frame} {ops:Array Oper} {i:Nat} {rest:List Nat} {o:Oper}
theorem NJ {N q i:Nat} {ob:Obj} {wr:Bool} (h:L[j]? =some (n,ob)):EvA L N q ⟨.cell ⟨n,i,none⟩,wr,false⟩:=.inl ⟨_,_,rfl,.inl ⟨_,aQ h,rfl⟩⟩
theorem Wc.JZ (v:Value) (E:ops[i]? =some o) (hw:Region.wanted o (yielded ops a.tmps)=true) (hk:b.kind≠.early) (hd:oz o=true)
  (h:∀w,Lies L w0.heap.size w->(execOp a.eval o).run Tryz.prog w=.ok (.value v) w/\∀e∈(execOp a.eval o).events Tryz.prog w #[],EvA L w.heap.size w.heap.size e) (z:Wc Tryz.prog S m St K0 w0 L (G (b.atR (a.put o.dst v) (.inRegion ops rest::k)) cs)):Wc Tryz.prog S m St K0 w0 L (G (b.atR a (.inRegion ops (i::rest)::k)) cs):=
 .JE E hw hk (oz.out hd) λw q=>⟨v,w,L,.inl (h w q).1,.still q λe I=>(h w q).2 e (mem_listed I),z⟩
theorem Wc.TR (ob:Obj) (v:Nat->Value) (E:ops[i]? =some o) (hw:Region.wanted o (yielded ops a.tmps)=true) (hk:b.kind≠.early) (hd:oz o=true)
  (h:∀w,Lies L w0.heap.size w->(execOp a.eval o).run Tryz.prog w=.ok (.value (v w.heap.size)) (w.alloc ob)/\∀e∈(execOp a.eval o).events Tryz.prog w #[],EvA L w.heap.size (w.heap.size+1) e) (z:∀n,Wc Tryz.prog S m St K0 w0 ((n,ob)::L) (G (b.atR (a.put o.dst (v n)) (.inRegion ops rest::k)) cs)):Wc Tryz.prog S m St K0 w0 L (G (b.atR a (.inRegion ops (i::rest)::k)) cs):=
 .JE E hw hk (oz.out hd) λw q=>⟨_,_,_,.inl (h w q).1,.alloc q ob λe I=>(h w q).2 e (mem_listed I),z _⟩
theorem Wc.Rh {B:Nat} {ob:Obj} (q:Obj) (J:L[j]? =some (B,ob)) (I:ops[i]? =some o) (hw:Region.wanted o (yielded ops a.tmps)=true) (hk:b.kind≠.early) (hd:oz o=true)
  (h:∀w,Lies L w0.heap.size w->(execOp a.eval o).run Tryz.prog w=.ok .skip (w.putObj B q)/\∀e∈(execOp a.eval o).events Tryz.prog w #[],EvA L w.heap.size w.heap.size e) (E:Wc Tryz.prog S m St K0 w0 (L.set j (B,q)) (G (b.atR (a.put o.dst undef) (.inRegion ops rest::k)) cs)):Wc Tryz.prog S m St K0 w0 L (G (b.atR a (.inRegion ops (i::rest)::k)) cs):=
 .JE I hw hk (oz.out hd) λw z=>⟨_,_,_,.inr ⟨(h w z).1,rfl⟩,.put z J λe R=>(h w z).2 e (mem_listed R),E⟩
theorem BG (E:L[j]? =some (n,.cells #[v] t)) (I:Lies L w0.heap.size w) (hp:a.eval p=.pointer (some ⟨n,0,none⟩)) (q:o.op=.load t p) (ht:t=76\/t=3\/t=9):
  (execOp a.eval o).run Tryz.prog w=.ok (.value v) w/\∀e∈(execOp a.eval o).events Tryz.prog w #[],EvA L w.heap.size w.heap.size e:=by
 have h:=nO I E
 have c0:w.cell? ⟨n,0,none⟩=some v:=by simp [World.cell?,h]
 unfold execOp
 simp only [q,hp]
 rcases ht with rfl|rfl|rfl<;>
 ·refine ⟨by simp [go_sem,c0],λe z=>?_⟩
  simp [go_sem,c0] at z
  subst z
  exact NJ E
theorem MC {q:Operand} (E:L[j]? =some (n,.cells #[v] t)) (Y:Lies L w0.heap.size w) (hp:a.eval p=.pointer (some ⟨n,0,none⟩)) (R:a.eval q=v') (z:o.op=.store t p q) (ht:(∃a k c,v'=.slice a k c/\t=76)\/∃e,v'=.int .i64 e/\t=3):
  (execOp a.eval o).run Tryz.prog w=.ok .skip (w.putObj n (.cells #[v'] t))/\∀e∈(execOp a.eval o).events Tryz.prog w #[],EvA L w.heap.size w.heap.size e:=by
 have h:=nO Y E
 have c0:w.cell? ⟨n,0,none⟩=some v:=by simp [World.cell?,h]
 have J:w.frozen? ⟨n,0,none⟩=false:=aI h 0
 have hs:w.setCell ⟨n,0,none⟩ v'=w.putObj n (.cells #[v'] t):=OZ h
 unfold execOp
 simp only [z,hp,R,<-hs]
 rcases ht with ⟨a,k,c,rfl,rfl⟩|⟨e,rfl,rfl⟩<;>
 ·refine ⟨by simp [go_sem,stored,c0,J],λe I=>?_⟩
  simp [go_sem,stored,storedEv,c0,J,events_store _ _ _ _ _ _ (show (Value.slice _ _ _).oneCell'=true from rfl)] at I
  subst I
  exact NJ E
theorem Di {w':World} {xv:Value} (s x:Operand) (t:TypeId)
  (q:o.op=.call { callee:=.builtin .append,args:=#[s,x],argTypes:=#[t,t] }) (hs:a.eval s=v) (E:a.eval x=xv)
  (z:(Builtin.append_ #[t,t] o.type #[v,xv]).run Tryz.prog w=.ok v' w'):(execOp a.eval o).run Tryz.prog w=.ok (.value v') w':=by
 unfold execOp
 simp only [q,resolve,invoke,builtin,iT,Sem.run_pure,gW,fJ,dW,fG,hs,E,z]
theorem QX (w:World) (x:F):(Instr.buildSlice 76 1 #[(0,.agg (xE x))]).run Tryz.prog w=.ok (.slice (some ⟨w.heap.size,0,none⟩) 1 1) (w.alloc (.cells (xE x) 81))/\(Instr.buildSlice 76 1 #[(0,.agg (xE x))]).events Tryz.prog w #[]=#[]:=by
 obtain ⟨I,J,E,q,R⟩:∃i,Tryz.prog.info? 81=some i/\i.zero=some (.agg Dx)/\i.size=4/\i.bytes=32:=by
  have:=Nc
  cases h:Tryz.prog.info? 81 with
  |none=>rw [h] at this;cases this
  |some i=>
   rw [h] at this
   simp only [bQ,aC,dA] at this
   exact ⟨i,rfl,this.1,this.2.1,this.2.2⟩
 have z:Instr.fill (λi=>some (i * I.size,I.size)) ((Array.range (1 * I.size)).map ((Value.agg Dx).cells[· % (Value.agg Dx).cells.size]!)) (#[(0,Value.agg (xE x))]:Array (Nat×Value)).toList=some (xE x):=by rw [q];kernel_rfl
 refine ⟨run_buildSlice w _ _ 1 _ _ I _ Tryz.underlying76 J E (by rw [q];decide) (by rw [q];decide) z,?_⟩
 have z:Instr.fill (λi=>some (i * 4,4)) (Array.map (λx=>(Value.agg Dx).cells[x % (Value.agg Dx).cells.size]!) (Array.range 4)) [(0,.agg (xE x))]=some (xE x):=by rw [q] at z;exact z
 simp [z,Instr.buildSlice,run_underlying Tryz.underlying76,sizeOf,typeInfo,zeroValue,J,E,q,newRow]
theorem JD {c0 n0:Int} {d0:ByteArray} {E:Bool} (I:L[j]? =some (n,.cells (F8 c0 n0 d0 E) 81)) (hl:Lies L w0.heap.size w) (hp:a.eval p=.pointer (some ⟨n,0,none⟩)) (q:o.op=.load 81 p):
  (execOp a.eval o).run Tryz.prog w=.ok (.value (.agg (F8 c0 n0 d0 E))) w/\∀e∈(execOp a.eval o).events Tryz.prog w #[],EvA L w.heap.size w.heap.size e:=by
 have h:=nO hl I
 have c0:=aA h 0
 have Y:=aA h 1
 have z:=aA h 2
 have R:=aA h 3
 unfold execOp
 simp only [q,hp]
 refine ⟨by simp [go_sem,c0,Y,z,R],λe J=>?_⟩
 simp [go_sem,c0,Y,z,R] at J
 rcases J with rfl|rfl|rfl|rfl<;>exact NJ I
noncomputable def UE:Code:=match Tryz.f59.body with
 |some (.seq _ (.seq _ (.seq _ (.seq _ (.seq _ (.seq (.seq _ (.block _ (.rangeFunc _ _ c _))) _))))))=>c
 |_=>.skip
noncomputable def QV:Code:=match Tryz.f59.body with
 |some (.seq _ (.seq _ (.seq _ (.seq _ (.seq _ (.seq (.seq _ (.block _ (.rangeFunc _ _ _ c))) _))))))=>c
 |_=>.skip
noncomputable def Tn:Code:=match Tryz.f59.body with
 |some (.seq _ (.seq _ (.seq _ (.seq _ (.seq _ (.seq _ c))))))=>c
 |_=>.skip
theorem P6 {u0 u1 u2 u3 u4 u7 u8 u9 ab aa a1 aw au aq am ah an ax ar ap az af a0 Y aj ag ai ay av ao ac ak ae:Value} {l d sb E F p e:Nat} {T:ByteArray} {fs:List Fr.F} {x:Fr.F} {R:List (Nat×Obj)} {r:Loop} {c:Frame} (a5:r.state=.ready) (a6:r.pending=none) (hR:yu v fs R) (a4:fs.length < 1048576)
  (nx:∀v' R',yu v' (fs++[x]) R'->Wc Tryz.prog S m St K0 w0 ((l,.loop r)::(d,.deferred (some []))::(sb,.cells #[.string T] 9)::(E,.cells #[.int .i64 e] 3)::(F,.cells #[v'] 76)::(R'++L0)) (G (c.finish (.bool true)) cs)):
  Wc Tryz.prog S m St K0 w0 ((l,.loop r)::(d,.deferred (some []))::(sb,.cells #[.string T] 9)::(E,.cells #[.int .i64 p] 3)::(F,.cells #[v] 76)::(R++L0)) (G (Frame.round l 59 #[u0,u1,u2,u3,u4,.pointer (some ⟨F,0,none⟩),.pointer (some ⟨E,0,none⟩),u7,u8,u9,ab,aa,a1,aw,au,aq,am,ah,an,ax,.int .i64 e,.agg (xE x),ar,ap,az,af,a0,Y,aj,ag,ai,ay,av,ao,ac,ak,ae] UE QV .normal) (c::cs)):=by
 rw [show Frame.round l 59 #[u0,u1,u2,u3,u4,.pointer (some ⟨F,0,none⟩),.pointer (some ⟨E,0,none⟩),u7,u8,u9,ab,aa,a1,aw,au,aq,am,ah,an,ax,.int .i64 e,.agg (xE x),ar,ap,az,af,a0,Y,aj,ag,ai,ay,av,ao,ac,ak,ae] UE QV .normal=Frame.atR { base 59 with roundOf:=some l } { tmps:=#[u0,u1,u2,u3,u4,.pointer (some ⟨F,0,none⟩),.pointer (some ⟨E,0,none⟩),u7,u8,u9,ab,aa,a1,aw,au,aq,am,ah,an,ax,.int .i64 e,.agg (xE x),ar,ap,az,af,a0,Y,aj,ag,ai,ay,av,ao,ac,ak,ae],defers:=[] } [.code UE,.beginRound,.code QV] from rfl]
 obtain ⟨bb,J⟩:∃bb,bb=({ base 59 with roundOf:=some l }:Frame):=⟨_,rfl⟩
 have hk:bb.kind=.normal:=by rw [J];rfl
 have q:bb.kind≠.early:=by rw [hk];decide
 have a2:bb.roundOf=some l:=by rw [J]
 rw [<-J]
 clear J
 have NX:Hid _:=nx
 clear nx
 rw [show UE=.seq _ _ from rfl]
 refine Wc.aay (Wc.WR [0] rfl ?_)
 refine Wc.JZ (.int .i64 e) rfl rfl q rfl (λw _=>⟨rfl,λe I=>by simp [go_sem] at I⟩) ?_
 walk_nrm
 refine Wc.Om (Wc.WR [0,1] rfl ?_)
 refine Wc.TR (.cells Dx 81) (λn=>.pointer (some ⟨n,0,none⟩)) rfl rfl q rfl (λw z=>⟨by simp [go_sem],λe I=>by simp [go_sem] at I⟩) λfb=>?_
 walk_nrm
 refine Wc.Rh (j:=0) (.cells (xE x) 81) rfl rfl rfl q rfl (λw z=>pF rfl rfl rfl w z) ?_
 walk_nrm
 refine Wc.Om (Wc.begin (j:=1) rfl a5 a2 q ?_)
 rw [show QV=.block 1 (.seq _ _) from rfl]
 refine Wc.Yr (Wc.aay (Wc.WR [0,1,2,3,4] rfl ?_))
 refine Wc.JZ v rfl rfl q rfl (λw z=>BG (j:=5) rfl z rfl rfl (.inl rfl)) ?_
 walk_nrm
 refine Wc.JZ (.agg (xE x)) rfl rfl q rfl (λw z=>JD (j:=0) rfl z rfl rfl) ?_
 walk_nrm
 refine Wc.TR (.cells (xE x) 81) (λn=>.slice (some ⟨n,0,none⟩) 1 1) rfl rfl q rfl (λw z=>?_) λn3=>?_
 ·have h:=QX w x
  refine ⟨by simp [go_sem,h.1],λe I=>?_⟩
  simp [go_sem,h.2] at I
 walk_nrm
 refine Wc.JE rfl rfl q (oz.out rfl) λw z=>?_
 obtain ⟨v',w',R',h1,a3,h2⟩:=Xm (A:=[(n3,.cells (xE x) 81),(fb,.cells (xE x) 81),(l,.loop { r with state:=.busy }),(d,.deferred (some [])),(sb,.cells #[.string T] 9),(E,.cells #[.int .i64 p] 3),(F,.cells #[v] 76)]) (n3:=n3) hR z (.head _) a4
 refine ⟨v',w',_,.inl (Di _ _ _ rfl rfl rfl h1),h2 _ λe I=>by have I:=mem_listed I;rw [events_append_op (v:=v) (xv:=.slice (some ⟨n3,0,none⟩) 1 1) (.tmp 22) (.tmp 24) 76 rfl rfl rfl] at I;exact I,?_⟩
 clear h1 h2 z
 obtain ⟨va,vc,hv⟩:=a3.slice
 walk_nrm
 refine Wc.Rh (j:=6) (.cells #[v'] 76) rfl rfl rfl q rfl (λw z=>MC (j:=6) rfl z rfl rfl rfl (.inl ⟨_,_,_,hv,rfl⟩)) ?_
 walk_nrm
 refine Wc.Om (Wc.WR [0,1] rfl ?_)
 refine Wc.JZ (.int .i64 e) rfl rfl q rfl (λw _=>⟨rfl,λe I=>by simp [go_sem] at I⟩) ?_
 walk_nrm
 refine Wc.Rh (j:=5) (.cells #[.int .i64 e] 3) rfl rfl rfl q rfl (λw z=>MC (j:=5) rfl z rfl rfl rfl (.inr ⟨_,rfl,rfl⟩)) ?_
 walk_nrm
 refine Wc.Om (Wc.QZ (Wc.abS (j:=2) rfl a2 hk ?_))
 refine Wc.drop (.cons _ (.cons _ (iL _))) ?_
 have hr:({ ({ r with state:=.busy }:Loop) with state:=.ready,pending:=none }:Loop)=r:=by cases r;simp_all
 rw [hr]
 exact NX.out v' R' a3
end
end Cr
namespace Cr
open Go Go.Conc Go.ConcN Go.RowKit Go.Conc.Lib Go.ConcR.Gen Go.ConcN.Gen
open Go.ConcR (KK WgAt stA smA Payload DC0)
open Fr (F flat one fv frames QD)
set_option linter.unusedSimpArgs false
noncomputable def UN:Code:=match Tryz.f141.body with
 |some (.seq _ (.block _ (.loop c)))=>c
 |_=>.skip
section
variable {S:Who} {m:Nat} {St:jV->Goroutine->World->Prop} {K0:jV} {w0:World} {L0:List (Nat×Obj)} {cs:List Frame}
abbrev Ox (s T:ByteArray) (F E q:Nat) (x y:Value):Array Value:=#[.string s,undef,.slice none 0 0,.bool false,.string T,.pointer (some ⟨F,0,none⟩),.pointer (some ⟨E,0,none⟩),undef,undef,.string s,.bool false,.bool false,.string s,.int .u8 0,.bool false,.bool false,.string s,.string T,.string T,.func (.func 141) #[] #[.pointer (some ⟨q,0,none⟩)],x,y,undef,undef,undef,undef,undef,undef,undef,undef,undef,undef,undef,undef,undef,undef,undef]
noncomputable abbrev WO (s T:ByteArray) (F E q d:Nat):Loop:={ state:=.ready,pending:=none,fn:=59,tmps:=Ox s T F E q undef undef,params:=#[20,21],assign:=UE,body:=QV,defers:=d }
noncomputable abbrev SG (s T:ByteArray) (F E q d l p:Nat) (v:Value) (R:List (Nat×Obj)):List (Nat×Obj):=(l,.loop (WO s T F E q d))::(d,.deferred (some []))::(q,.cells #[.string T] 9)::(E,.cells #[.int .i64 p] 3)::(F,.cells #[v] 76)::R
theorem PG {s T:ByteArray} {l d Y E F:Nat} {b:Frame} {a:Act} {k:List Item} (hT:T.size<=1048576)
  (nx:∀v fs R p,yu v fs R->QD T.data.toList fs p->one T.data.toList p=none->Wc Tryz.prog S m St K0 w0 (SG s T F E Y d l p v (R++L0)) (G (b.at a (.endRangeFunc l::k)) cs)):
  ∀r p,T.size - p < r->∀v fs R,yu v fs R->QD T.data.toList fs p->∀u4 u5 u6 u7 u8 u9 ab aa ar ao an ak ah ag ai aq ac af am aj ae:Value,
  Wc Tryz.prog S m St K0 w0 (SG s T F E Y d l p v (R++L0)) (G ((base 141).at { tmps:=#[.func (.yield l) #[] #[],.pointer (some ⟨Y,0,none⟩),undef,.int .i64 p,u4,u5,u6,u7,u8,u9,ab,aa,ar,ao,an,ak,ah,ag,ai,aq,ac,af,am,aj,ae],defers:=[] } [.code UN,.inLoop UN,.inBlock 0]) (b.at a (.inRangeFunc l::k)::cs)):=by
 intro r
 induction r with
 |zero=>intro p hr;omega
 |succ r ih=>
  intro p hr v fs R hR hA u4 u5 u6 u7 u8 u9 ab aa ar ao an ak ah ag ai aq ac af am aj ae
  have ap:=hA.le
  rw [<-aV] at ap
  have aw:(0:Int)<=(p:Int):=by omega
  have au:(p:Int)<=(T.size:Int):=by omega
  have J:=OY (T.extract p T.size) (by simp;omega)
  rw [show (T.extract p T.size).data.toList=T.data.toList.drop p by rw [Fr.ext_list,dV (by rw [<-aV];omega)],<-Fr.Af _ _ (by rw [<-aV];exact ap.1)] at J
  have ev:=λw es=>nU T _ _ w es (Au T p w es aw au)
  rw [show UN=.block 1 (.seq _ _) from rfl]
  refine Wc.block (Wc.seq (Wc.reg [0,1,2,3,4,5,6,7,8,9,10,11] rfl ?_))
  refine Wc.rd (.string T) rfl rfl (base_kind _) (λw I=>BG (j:=2) rfl I rfl rfl (.inr (.inr rfl))) ?_
  walk_nrm
  have HR:Hid _:=hR
  have HA:Hid _:=hA
  have NX:Hid _:=nx
  have IH:Hid _:=ih
  have HF:Hid _:=J
  clear hR hA nx ih J
  refine Wc.go 50 λK w q=>?_
  iterate 2 u_op At.en q
  refine Goes.stop λ_ z=>Wc.use ?_ (q.en z)
  clear q
  refine HF.out _ _ _ _ _ _ _ _ _ _ _ _ _ _ _ _ rfl rfl (base_kind _) rfl (by simp [Act.eval]) ?_
  walk_nrm
  generalize hC:one T.data.toList p=C
  cases C with
  |none=>
   simp only [fv]
   refine Wc.go 50 λK w q=>?_
   iterate 4 u_op At.en q
   refine Goes.stop λ_ z=>Wc.use ?_ (q.en z)
   clear q
   refine Wc.al (.cells Dx 81) (λn=>.pointer (some ⟨n,0,none⟩)) rfl rfl (base_kind _) (λw I=>⟨by simp [go_sem],λe he=>by simp [go_sem] at he⟩) λfb=>?_
   walk_nrm
   refine Wc.st (j:=0) (.cells Dx 81) rfl rfl rfl (base_kind _) (λw I=>pF rfl rfl rfl w I) ?_
   walk_nrm
   refine Wc.go 50 λK w q=>?_
   iterate 2 u_op At.en q
   u_c stepG_region_end At.en q
   iterate 2 u_c stepG_seq At.en q
   u_reg At.en q
   iterate 2 u_op At.en q
   u_c stepG_region_end At.en q
   u_cond true At.en q
   refine Goes.stop λ_ z=>Wc.use ?_ (q.en z)
   clear q
   refine .ret λtodo=>.back (.tuple #[]) rfl rfl rfl Tryz.func141 (λw=>⟨results_none rfl _ _ _,by simp [results,Tryz.results141]⟩) (Wc.drop (iQ _ _) (NX.out _ _ _ _ HR.out HA.out hC))
  |some x=>
   obtain ⟨f,n⟩:=x
   have ho:=Fr.one_le hC
   rw [<-aV] at ho
   simp only [fv]
   refine Wc.go 50 λK w q=>?_
   iterate 4 u_op At.en q
   refine Goes.stop λ_ z=>Wc.use ?_ (q.en z)
   clear q
   refine Wc.al (.cells Dx 81) (λn=>.pointer (some ⟨n,0,none⟩)) rfl rfl (base_kind _) (λw I=>⟨by simp [go_sem],λe he=>by simp [go_sem] at he⟩) λfb=>?_
   walk_nrm
   refine Wc.st (j:=0) (.cells (xE f) 81) rfl rfl rfl (base_kind _) (λw I=>pF rfl rfl rfl w I) ?_
   walk_nrm
   refine Wc.go 50 λK w q=>?_
   iterate 2 u_op At.en q
   u_c stepG_region_end At.en q
   iterate 2 u_c stepG_seq At.en q
   u_reg At.en q
   iterate 2 u_op At.en q
   u_c stepG_region_end At.en q
   u_cond false At.en q
   u_c stepG_skip At.en q
   u_c stepG_seq At.en q
   u_reg At.en q
   iterate 4 u_op At.en q
   u_c stepG_region_end At.en q
   u_c stepG_seq At.en q
   u_reg At.en q
   iterate 2 u_op At.en q
   refine Goes.stop λ_ z=>Wc.use ?_ (q.en z)
   clear q
   refine Wc.rd (.agg (xE f)) rfl rfl (base_kind _) (λw I=>JD (j:=0) rfl I rfl rfl) ?_
   walk_nrm
   rw [show IntKind.i64.wrap ((p:Int)+n)=((p+n:Nat):Int) by rw [IntKind.wrap_i64];omega]
   refine Wc.yield (j:=1) rfl rfl rfl (base_kind _) rfl rfl rfl ?_
   refine Wc.drop (iQ _ _) ?_
   have ht:((WO s T F E Y d).params.zip #[.int .i64 ((p+n:Nat):Int),.agg (xE f)]).foldl (λtmps (t,a)=>tmps.setIfInBounds t a) (WO s T F E Y d).tmps=Ox s T F E Y (.int .i64 ((p+n:Nat):Int)) (.agg (xE f)):=by kernel_rfl
   walk_nrm
   rw [ht]
   refine P6 (r:=WO s T F E Y d) (x:=f) (e:=p+n) rfl rfl HR.out (by omega) λv' R' av=>?_
   rw [fF]
   walk_nrm
   refine Wc.go 50 λK w q=>?_
   u_op At.en q
   u_c stepG_region_end At.en q
   u_cond false At.en q
   u_c stepG_skip At.en q
   u_c stepG_inBlock At.en q
   u_c stepG_inLoop At.en q
   refine Goes.stop λ_ z=>Wc.use ?_ (q.en z)
   exact IH.out (p+n) (by omega) v' _ R' av (.snoc HA.out hC) _ _ _ _ _ _ _ _ _ _ _ _ _ _ _ _ _ _ _ _ _
end
end Cr
end Go.Proofs.YtpibpdpedjinhaaGreatDoor
