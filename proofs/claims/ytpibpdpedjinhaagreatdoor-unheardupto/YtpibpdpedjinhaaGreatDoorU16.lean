import Derived.Test.YtpibpdpedjinhaaGreatDoorU12
import Derived.Test.YtpibpdpedjinhaaGreatDoorU15
set_option maxRecDepth 100000
set_option maxHeartbeats 4000000
namespace Go.Proofs.YtpibpdpedjinhaaGreatDoor
namespace Cr
open Go Go.Conc Go.ConcN Go.RowKit Go.Conc.Lib Go.ConcR.Gen Go.ConcN.Gen
open Go.ConcR (KK WgAt stA smA Payload DC0)
open Fr (F flat one fv frames QD)
set_option linter.unusedSimpArgs false
def Z5 (f:FuncId) (args:Array Value) (r:Value->Value) (fs:List F):Prop:=∀(S:Who) (m:Nat) (St:jV->Goroutine->World->Prop) (K0:jV) (w0:World) (L:List (Nat×Obj)) (b:Frame) (a:Act) (k:List Item) (cs:List Frame) (ops:Array Oper) (i:Nat) (rest:List Nat) (o:Oper) (xs:Array Operand) (z:Array TypeId),
 ops[i]? =some o->Region.wanted o (yielded ops a.tmps)=true->b.kind≠.early->o.op=.call { callee:=.value (.func f),args:=xs,argTypes:=z }->xs.map a.eval=args->(∀v R,yu v fs R->Wc Tryz.prog S m St K0 w0 (R++L) (G (b.at (a.put o.dst (r v)) (.inRegion ops rest::k)) cs))->Wc Tryz.prog S m St K0 w0 L (G (b.at a (.inRegion ops (i::rest)::k)) cs)
theorem Xq (a:Option Addr) (n c:Nat) (w:World) (es:Array Event):(Builtin.len_ #[76] 3 #[.slice a n c]).events Tryz.prog w es=es:=by
 simp [Builtin.len_,run_underlying Tryz.underlying76]
section
variable {S:Who} {m:Nat} {St:jV->Goroutine->World->Prop} {K0:jV} {w0:World} {L0:List (Nat×Obj)} {cs:List Frame}
theorem Vj {s T:ByteArray} {l d sb E F p:Nat} {v:Value} {fs:List Fr.F} {R:List (Nat×Obj)} {cf:Frame} (hR:yu v fs R)
  (J:∀v' R',yu v' ((if fs.length=0\/p < T.size then none else some fs).getD []) R'->Wc Tryz.prog S m St K0 w0 (R'++L0) (G (cf.finish (.tuple #[v',.bool (if fs.length=0\/p < T.size then none else some fs).isSome])) cs)):
  Wc Tryz.prog S m St K0 w0 (SG s T F E sb d l p v (R++L0)) (G ((base 59).at { tmps:=Ox s T F E sb undef undef,defers:=[{ target:=.collected d,args:=#[] }] } [.endRangeFunc l,.inBlock 0,.code Tn]) (cf::cs)):=by
 obtain ⟨va,vc,hv⟩:=hR.slice
 subst hv
 have NX:Hid _:=J
 have HR:Hid _:=hR
 have el:=FD
 have ac:=Xq
 clear J hR
 refine Wc.over (j:=0) rfl (show LoopState.ready≠.busy by decide) rfl (Wc.inBlock ?_)
 rw [show Tn=.seq (.seq _ _) _ from rfl]
 refine Wc.seq (Wc.seq (Wc.reg [0,1,2,3,4,5,6,7,8] rfl ?_))
 refine Wc.rd (.slice va fs.length vc) rfl rfl (base_kind _) (λw Y=>BG (j:=4) rfl Y rfl rfl (.inl rfl)) ?_
 walk_nrm
 by_cases h0:fs.length=0
 ·have ab:((fs.length:Int) == 0)=true:=by simp [h0]
  refine Wc.go 50 λK w z=>?_
  iterate 3 u_op At.en z
  iterate 4 u_skip At.en z
  u_op At.en z
  u_c stepG_region_end At.en z
  u_cond true At.en z
  u_c stepG_seq At.en z
  u_reg At.en z
  iterate 2 u_op At.en z
  u_c stepG_region_end At.en z
  refine Goes.stop λ_ I=>Wc.use ?_ (z.en I)
  clear z
  have J:=NX.out
  rw [if_pos (.inl h0)] at J
  exact .ret λtodo=>.takes (j:=1) rfl rfl rfl (.G8 rfl rfl rfl Tryz.func59 rfl rfl rfl (Wc.drop (.cons _ (.cons _ (.cons _ (.cons _ (.cons _ (List.sublist_append_right _ _)))))) (J _ [] (.inl ⟨rfl,rfl,rfl⟩))))
 have ab:((fs.length:Int) == 0)=false:=beq_false_of_ne (by omega)
 refine Wc.go 50 λK w z=>?_
 iterate 3 u_op At.en z
 refine Goes.stop λ_ I=>Wc.use ?_ (z.en I)
 clear z
 refine Wc.rd (.int .i64 p) rfl rfl (base_kind _) (λw Y=>BG (j:=3) rfl Y rfl rfl (.inr (.inl rfl))) ?_
 walk_nrm
 by_cases h1:p < T.size
 ·have aa:(p:Int) < (T.size:Int):=by omega
  refine Wc.go 50 λK w z=>?_
  iterate 4 u_op At.en z
  u_c stepG_region_end At.en z
  u_cond true At.en z
  u_c stepG_seq At.en z
  u_reg At.en z
  iterate 2 u_op At.en z
  u_c stepG_region_end At.en z
  refine Goes.stop λ_ I=>Wc.use ?_ (z.en I)
  clear z
  have J:=NX.out
  rw [if_pos (.inr h1)] at J
  exact .ret λtodo=>.takes (j:=1) rfl rfl rfl (.G8 rfl rfl rfl Tryz.func59 rfl rfl rfl (Wc.drop (.cons _ (.cons _ (.cons _ (.cons _ (.cons _ (List.sublist_append_right _ _)))))) (J _ [] (.inl ⟨rfl,rfl,rfl⟩))))
 have aa:¬(p:Int) < (T.size:Int):=by omega
 refine Wc.go 50 λK w z=>?_
 iterate 4 u_op At.en z
 u_c stepG_region_end At.en z
 u_cond false At.en z
 u_c stepG_skip At.en z
 u_c stepG_seq At.en z
 u_reg At.en z
 refine Goes.stop λ_ I=>Wc.use ?_ (z.en I)
 clear z
 refine Wc.rd (.slice va fs.length vc) rfl rfl (base_kind _) (λw Y=>BG (j:=4) rfl Y rfl rfl (.inl rfl)) ?_
 walk_nrm
 refine Wc.go 50 λK w z=>?_
 iterate 2 u_op At.en z
 u_c stepG_region_end At.en z
 refine Goes.stop λ_ I=>Wc.use ?_ (z.en I)
 clear z
 have J:=NX.out
 rw [if_neg (by rintro (h|h);exact h0 h;exact h1 h)] at J
 exact .ret λtodo=>.takes (j:=1) rfl rfl rfl (.G8 rfl rfl rfl Tryz.func59 rfl rfl rfl (Wc.drop (.cons _ (.cons _ (.cons _ (.cons _ (.cons _ (iL _)))))) (J _ R HR.out)))
end
theorem Wy (s:ByteArray) (hs:s.size<=1048576):Z5 59 #[.string s] (λv=>.tuple #[v,.bool (frames s.data.toList).isSome]) ((frames s.data.toList).getD []):=by
 intro S m St K0 w0 L b a k cs ops i rest o xs an ho hw hk ac hx nx
 refine Wc.call ho hw hk ac Tryz.func59 rfl rfl ?_
 rw [hx]
 simp only [Tryz.ntmps59,dL,aN,bM,Nat.reduceAdd,Nat.reduceSub,cO,bZ,dN,cZ,dM,dH]
 have nx:∀v R,yu v ((frames s.data.toList).getD []) R->Wc Tryz.prog S m St K0 w0 (R++L) (G ((b.at a (.inRegion ops (i::rest)::k)).finish (.tuple #[v,.bool (frames s.data.toList).isSome])) cs):=by
  intro v R h
  rw [fF,ho]
  exact nx v R h
 generalize b.at a (.inRegion ops (i::rest)::k)=cf at nx
 have Y:=aV s
 have el:=FD
 have te:=Fr.toList_empty s
 have NX:Hid _:=nx
 clear nx ho hw hk ac hx
 by_cases ag:s.size=0
 ·have ah:s.toList.isEmpty=true:=by rw [te];exact decide_eq_true ag
  clear te
  refine Wc.go 50 λK w z=>?_
  u_c stepG_seq At.en z
  u_reg At.en z
  iterate 2 u_op At.en z
  u_c stepG_region_end At.en z
  iterate 2 u_c stepG_seq At.en z
  u_reg At.en z
  iterate 3 u_op At.en z
  iterate 3 u_skip At.en z
  u_op At.en z
  u_c stepG_region_end At.en z
  u_cond true At.en z
  u_c stepG_seq At.en z
  u_reg At.en z
  iterate 2 u_op At.en z
  u_c stepG_region_end At.en z
  refine Goes.stop λ_ I=>Wc.use ?_ (z.en I)
  rw [Fr.xU (.inl (by omega))] at NX
  exact .ret λtodo=>.G8 rfl rfl rfl Tryz.func59 rfl rfl rfl (NX.out _ [] (.inl ⟨rfl,rfl,rfl⟩))
 have ae:0 < s.size:=by omega
 have ah:s.toList.isEmpty=false:=by rw [te];exact decide_eq_false (by omega)
 have ai:=λu=>X0 u s 0 0 ae rfl
 have ak:=λw es=>BU s 0 w es (by omega) (by omega)
 have hg:=Fr.getD_byte s 0 ae
 clear te
 by_cases h0:s[0].toNat=0
 ·have af:(1:Int)<=(s.size:Int):=by omega
  rw [h0] at ai
  obtain ⟨T,hT⟩:∃T:ByteArray,s.extract 1 s.size=T:=⟨_,rfl⟩
  have J:T.data.toList=s.data.toList.drop 1:=by rw [<-hT,Fr.ext_list,dV (by rw [<-aV];omega)]
  have ab:T.size=s.size - 1:=by rw [<-hT];simp [eG]
  have aa:s.data.toList.getD 0 0=0:=by rw [hg];exact jv.1 h0
  have aj:=λw es=>nU s _ _ w es (Au s 1 w es (by omega) af)
  have HT:Hid _:=jB J (jB ab aa)
  clear J ab aa hg Y h0
  refine Wc.go 50 λK w z=>?_
  u_c stepG_seq At.en z
  u_reg At.en z
  iterate 2 u_op At.en z
  u_c stepG_region_end At.en z
  iterate 2 u_c stepG_seq At.en z
  u_reg At.en z
  iterate 7 u_op At.en z
  u_c stepG_region_end At.en z
  u_cond false At.en z
  u_c stepG_skip At.en z
  u_c stepG_seq At.en z
  u_reg At.en z
  iterate 3 u_op At.en z
  u_c stepG_region_end At.en z
  refine Goes.stop λ_ I=>Wc.use ?_ (z.en I)
  clear z
  refine Wc.seq (Wc.reg [0] rfl ?_)
  refine Wc.al (.cells #[.slice none 0 0] 76) (λn=>.pointer (some ⟨n,0,none⟩)) rfl rfl (base_kind _) (λw Y=>⟨by simp [go_sem],λe he=>by simp [go_sem] at he⟩) λF=>?_
  refine Wc.done (Wc.seq (Wc.reg [0,1] rfl ?_))
  walk_nrm
  refine Wc.al (.cells #[.int .i64 0] 3) (λn=>.pointer (some ⟨n,0,none⟩)) rfl rfl (base_kind _) (λw Y=>⟨by simp [go_sem],λe he=>by simp [go_sem] at he⟩) λE=>?_
  walk_nrm
  refine Wc.st (j:=0) (.cells #[.int .i64 0] 3) rfl rfl rfl (base_kind _) (λw Y=>MC (j:=0) rfl Y rfl rfl rfl (.inr ⟨_,rfl,rfl⟩)) ?_
  walk_nrm
  refine Wc.done (Wc.seq (Wc.seq (Wc.reg [0,1] rfl ?_)))
  refine Wc.go 50 λK w z=>?_
  u_op At.en z
  refine Goes.stop λ_ I=>Wc.use ?_ (z.en I)
  clear z
  refine Wc.call rfl rfl (base_kind _) rfl Tryz.func94 rfl rfl ?_
  simp only [Tryz.ntmps94,dL,aN,bM,Nat.reduceAdd,Nat.reduceSub,cO,bZ,dN,cZ,dM,dH]
  walk_nrm
  refine Wc.seq (Wc.reg [0,1] rfl ?_)
  refine Wc.al (.cells #[.string T] 9) (λn=>.pointer (some ⟨n,0,none⟩)) rfl rfl (base_kind _) (λw Y=>⟨by simp [go_sem],λe he=>by simp [go_sem] at he⟩) λsb=>?_
  walk_nrm
  refine Wc.go 50 λK w z=>?_
  u_op At.en z
  u_c stepG_region_end At.en z
  u_c stepG_seq At.en z
  u_reg At.en z
  iterate 2 u_op At.en z
  u_c stepG_region_end At.en z
  refine Goes.stop λ_ I=>Wc.use ?_ (z.en I)
  clear z
  refine .ret λtodo=>.yO rfl rfl rfl Tryz.func94 rfl rfl ?_
  rw [fF]
  walk_nrm
  refine Wc.done (Wc.block (Wc.range (f:=141) (cap:=#[.pointer (some ⟨sb,0,none⟩)]) rfl Tryz.func141 rfl rfl λd=>?_))
  simp only [Tryz.ntmps141,dL,aN,bM,Nat.reduceAdd,Nat.reduceSub,cO,bZ,dN,cZ,dM,dH]
  refine Wc.go 50 λK w z=>?_
  u_c stepG_seq At.en z
  u_reg At.en z
  u_op At.en z
  u_c stepG_region_end At.en z
  u_c stepG_block At.en z
  u_c stepG_loop At.en z
  refine Goes.stop λ_ I=>Wc.use ?_ (z.en I)
  clear z
  obtain ⟨J,ab,aa⟩:=HT.out
  refine PG (s:=s) (T:=T) (d:=d) (by omega) (λv fs R p hR hA hn=>?_) (T.size+1) 0 (by omega) (.slice none 0 0) [] [] (.inl ⟨rfl,rfl,rfl⟩) .nil _ _ _ _ _ _ _ _ _ _ _ _ _ _ _ _ _ _ _ _ _
  have Y:=aV s
  have hf:=Fr.yj (s:=s.data.toList) (by omega) aa (by rw [<-J];exact hA) (by rw [<-J];exact hn)
  rw [<-Y,<-ab] at hf
  rw [hf] at NX
  exact Vj hR NX.out
 ·have am:((s[0].toNat:Int) != 0)=true:=by simp;omega
  rw [Fr.xU (.inr (by rw [hg];intro h;exact h0 (by rw [h];rfl)))] at NX
  clear hg Y h0
  generalize s[0].toNat=c at *
  refine Wc.go 50 λK w z=>?_
  u_c stepG_seq At.en z
  u_reg At.en z
  iterate 2 u_op At.en z
  u_c stepG_region_end At.en z
  iterate 2 u_c stepG_seq At.en z
  u_reg At.en z
  iterate 7 u_op At.en z
  u_c stepG_region_end At.en z
  u_cond true At.en z
  u_c stepG_seq At.en z
  u_reg At.en z
  iterate 2 u_op At.en z
  u_c stepG_region_end At.en z
  refine Goes.stop λ_ I=>Wc.use ?_ (z.en I)
  exact .ret λtodo=>.G8 rfl rfl rfl Tryz.func59 rfl rfl rfl (NX.out _ [] (.inl ⟨rfl,rfl,rfl⟩))
end Cr
namespace Cr
open Go Go.Conc Go.ConcN Go.RowKit Go.Conc.Lib Go.ConcR.Gen Go.ConcN.Gen
open Go.ConcR (KK WgAt stA smA Payload DC0)
open Fr (F flat one fv frames lM)
set_option linter.unusedSimpArgs false
section
variable {w0:World} {L:List (Nat×Obj)} {a:Act} {o:Oper}
theorem zK {w:World} {n j i:Nat} {c:Array Value} {v:Value} {t J:TypeId} {p:Operand} (E:L[j]? =some (n,.cells c J)) (Y:c[i]? =some v) (R:Lies L w0.heap.size w) (hp:a.eval p=.pointer (some ⟨n,i,none⟩)) (z:o.op=.load t p) (ht:t=22\/t=9):
  (execOp a.eval o).run Tryz.prog w=.ok (.value v) w/\∀e∈(execOp a.eval o).events Tryz.prog w #[],EvA L w.heap.size w.heap.size e:=by
 have h:=nO R E
 have c0:w.cell? ⟨n,i,none⟩=some v:=by simp [World.cell?,h,Y]
 unfold execOp
 simp only [z,hp]
 rcases ht with rfl|rfl<;>
 ·refine ⟨by simp [go_sem,c0],λe I=>?_⟩
  simp [go_sem,c0] at I
  subst I
  exact NJ E
end
theorem TD (inbox batcher t0 t1 t2 t3 t4 fr ad:Int) (data:ByteArray) (hs:data.size<=1048576):Z5 110 #[.agg (cfg inbox batcher t0 t1 t2 t3 t4),.agg (yY fr ad data)] id (lM inbox batcher fr ad data.data.toList):=by
 intro S m St K0 w0 L b a k cs ops i rest o xs ab ho hw hk aa hx nx
 refine Wc.call ho hw hk aa Tryz.func110 rfl rfl ?_
 rw [hx]
 simp only [Tryz.ntmps110,dL,aN,bM,Nat.reduceAdd,Nat.reduceSub,cO,bZ,dN,cZ,dM,dH]
 have nx:∀v R,yu v (lM inbox batcher fr ad data.data.toList) R->Wc Tryz.prog S m St K0 w0 (R++L) (G ((b.at a (.inRegion ops (i::rest)::k)).finish v) cs):=by
  intro v R h
  rw [fF,ho]
  exact nx v R h
 generalize b.at a (.inRegion ops (i::rest)::k)=cf at nx
 have Y:Hid _:=nx
 clear nx ho hw hk aa hx
 refine Wc.seq (Wc.reg [0,1,2] rfl ?_)
 refine Wc.al (.cells (cfg inbox batcher t0 t1 t2 t3 t4) 24) (λn=>.pointer (some ⟨n,0,none⟩)) rfl rfl (base_kind _) (λw I=>⟨by simp [go_sem],λe he=>by simp [go_sem] at he⟩) λcb=>?_
 walk_nrm
 refine Wc.al (.cells (yY fr ad data) 68) (λn=>.pointer (some ⟨n,0,none⟩)) rfl rfl (base_kind _) (λw I=>⟨by simp [go_sem],λe he=>by simp [go_sem] at he⟩) λxb=>?_
 walk_nrm
 refine Wc.go 50 λK w z=>?_
 u_op At.en z
 u_c stepG_region_end At.en z
 iterate 2 u_c stepG_seq At.en z
 u_reg At.en z
 u_op At.en z
 refine Goes.stop λ_ E=>Wc.use ?_ (z.en E)
 clear z
 refine Wc.rd (.int .u32 ad) rfl rfl (base_kind _) (λw I=>zK (j:=0) rfl rfl I rfl rfl (.inl rfl)) ?_
 walk_nrm
 refine Wc.go 50 λK w z=>?_
 u_op At.en z
 refine Goes.stop λ_ E=>Wc.use ?_ (z.en E)
 clear z
 refine Wc.rd (.int .u32 inbox) rfl rfl (base_kind _) (λw I=>zK (j:=1) rfl rfl I rfl rfl (.inl rfl)) ?_
 walk_nrm
 by_cases J:ad=inbox
 case neg=>
  have e1:(ad != inbox)=true:=by simp [J]
  rw [lM,if_neg (λh=>J h.1)] at Y
  clear J
  refine Wc.go 50 λK w z=>?_
  iterate 2 u_op At.en z
  iterate 5 u_skip At.en z
  u_op At.en z
  u_c stepG_region_end At.en z
  u_cond true At.en z
  u_c stepG_seq At.en z
  u_reg At.en z
  u_op At.en z
  u_c stepG_region_end At.en z
  refine Goes.stop λ_ E=>Wc.use ?_ (z.en E)
  exact .ret λtodo=>.yO rfl rfl rfl Tryz.func110 rfl rfl (Wc.drop (.cons _ (.cons _ (iL _))) (Y.out _ [] (.inl ⟨rfl,rfl,rfl⟩)))
 have e1:(ad != inbox)=false:=by simp [J]
 refine Wc.go 50 λK w z=>?_
 iterate 3 u_op At.en z
 refine Goes.stop λ_ E=>Wc.use ?_ (z.en E)
 clear z
 refine Wc.rd (.int .u32 fr) rfl rfl (base_kind _) (λw I=>zK (j:=0) rfl rfl I rfl rfl (.inl rfl)) ?_
 walk_nrm
 refine Wc.go 50 λK w z=>?_
 u_op At.en z
 refine Goes.stop λ_ E=>Wc.use ?_ (z.en E)
 clear z
 refine Wc.rd (.int .u32 batcher) rfl rfl (base_kind _) (λw I=>zK (j:=1) rfl rfl I rfl rfl (.inl rfl)) ?_
 walk_nrm
 by_cases h2:fr=batcher
 case neg=>
  have e2:(fr != batcher)=true:=by simp [h2]
  rw [lM,if_neg (λh=>h2 h.2)] at Y
  clear J h2
  refine Wc.go 50 λK w z=>?_
  iterate 2 u_op At.en z
  u_c stepG_region_end At.en z
  u_cond true At.en z
  u_c stepG_seq At.en z
  u_reg At.en z
  u_op At.en z
  u_c stepG_region_end At.en z
  refine Goes.stop λ_ E=>Wc.use ?_ (z.en E)
  exact .ret λtodo=>.yO rfl rfl rfl Tryz.func110 rfl rfl (Wc.drop (.cons _ (.cons _ (iL _))) (Y.out _ [] (.inl ⟨rfl,rfl,rfl⟩)))
 have e2:(fr != batcher)=false:=by simp [h2]
 rw [lM,if_pos ⟨J,h2⟩] at Y
 clear J h2
 refine Wc.go 50 λK w z=>?_
 iterate 2 u_op At.en z
 u_c stepG_region_end At.en z
 u_cond false At.en z
 u_c stepG_skip At.en z
 u_c stepG_seq At.en z
 u_reg At.en z
 u_op At.en z
 refine Goes.stop λ_ E=>Wc.use ?_ (z.en E)
 clear z
 refine Wc.rd (.string data) rfl rfl (base_kind _) (λw I=>zK (j:=0) rfl rfl I rfl rfl (.inr rfl)) ?_
 walk_nrm
 refine Wy data hs _ _ _ _ _ _ _ _ _ _ _ _ _ _ _ _ rfl rfl (base_kind _) rfl (by simp [Act.eval]) λv R hR=>?_
 walk_nrm
 generalize (frames data.data.toList).isSome=ok
 refine Wc.go 50 λK w z=>?_
 iterate 5 u_op At.en z
 u_c stepG_region_end At.en z
 u_c stepG_seq At.en z
 u_reg At.en z
 iterate 2 u_op At.en z
 u_c stepG_region_end At.en z
 refine Goes.stop λ_ E=>Wc.use ?_ (z.en E)
 exact .ret λtodo=>.yO rfl rfl rfl Tryz.func110 rfl rfl (Wc.drop ((iL _).append (.cons _ (.cons _ (iL _)))) (Y.out _ R hR))
theorem I8:ReadW:=by
 intro S m St K w b a k cs ops j rest o x y aa inbox batcher t0 t1 t2 t3 t4 fr ad data ho hw hk Y E hy hs h1 h2 h3 h4 _ nx
 have hA:At S K w [] K w:=⟨h1,h2,h3,h4,jC,λx E=>⟨h2 x E,E,rfl⟩,λx=>.inl,id,id,λp hp=>by simp at hp,.nil⟩
 refine Wc.use (TD inbox batcher t0 t1 t2 t3 t4 fr ad data hs S m St K w [] b a k cs ops j rest o #[x,y] aa ho hw hk Y (by simp [E,hy]) λv R hR K' J z=>?_) hA
 refine nx w (.refl _ _ _ _) v K' J (hR.imp (λh=>⟨h.1,h.2.1⟩) ?_) (λx E=>(z.old x E).2.1) z.sub z.size (λx E=>(z.old x E).2.2) (λx E=>⟨z.low x E,z.new x E⟩) z.live z.pay
 rintro ⟨g,cap,I,e,rfl,r⟩
 have hm:=z.mem (g,.cells I 81) (by simp)
 exact ⟨g,cap,I,e,z.sub _ hm.2.1,hm.2.2,r⟩
end Cr
namespace Po
open Go
section
variable {P:Program} {G:Array Func} {k f:Nat} {fn:Func}
def CY (P:Program) (G:Array Func) (D:Nat->Prop):Env:={ T:=P.toTables,F:=P.funcs,G:=G,D:=D,C:=λc=>nY P c=true }
theorem Zl (P:Program) (G:Array Func) (D:Nat->Prop):(CY P G D).P=P:=rfl
theorem YT (P:Program) (G:Array Func) (D:Nat->Prop) (c:Code):(CY P G D).C c↔nY P c=true:=Iff.rfl
theorem GL (h:∀k:Nat,(G[k]?).map (·.results)=(P.funcs[k]?).map (·.results)) (D:Nat->Prop):∀k:Nat,((CY P G D).G[k]?).map (·.results)=((CY P G D).F[k]?).map (·.results):=h
noncomputable abbrev qe (G:Array Func) (D:Nat->Prop):Env:=CY PQ G D
theorem Dt (G:Array Func) (D:Nat->Prop):(qe G D).P=PQ:=Zl PQ G D
theorem Vl:((List.range 257).all λk=>!BD k || match Tryz.prog.funcs[k]? with
  |some f=>!(f.name == "runtime.NumGoroutine")&&(match f.body with|some c=>nY PQ c|none=>k == 192 || k == 193)
  |none=>false)=true:=by kernel_rfl
theorem aaj:Tryz.prog.funcs.size=257:=by kernel_rfl
theorem YL:Extern.allNextRows.lookup ""=none:=by kernel_rfl
theorem MG:Extern.allGenericRows.lookup ""=none/\Extern.allTypedRows.lookup ""=none/\Extern.allRows.lookup ""=none:=⟨by kernel_rfl,by kernel_rfl,by kernel_rfl⟩
theorem Zk {L:FuncId->Bool} (h:(qK P L).funcs[k]? =some fn):(L k=true/\P.funcs[k]? =some fn)\/L k=false/\fn.body=none/\fn.name= ""/\fn.origin= "":=by
 have h:(P.funcs.mapIdx _)[k]? =some fn:=h
 rw [iY] at h
 cases z:P.funcs[k]? with
 |none=>rw [z] at h;cases h
 |some f=>
  rw [z] at h
  cases E:L k with
  |false=>
   simp only [bQ,E,bJ,if_false,aC] at h
   subst h
   exact .inr ⟨rfl,rfl,rfl,rfl⟩
  |true=>
   simp only [bQ,E,if_true,aC] at h
   subst h
   exact .inl ⟨rfl,rfl⟩
theorem JA (P:Program) (L:FuncId->Bool) (k:Nat):(P.funcs[k]?).map (·.results)=((qK P L).funcs[k]?).map (·.results):=by
 show _=((P.funcs.mapIdx _)[k]?).map _
 rw [iY]
 cases P.funcs[k]? with
 |none=>rfl
 |some f=>
  simp only [bQ]
  split<;>rfl
theorem NS {f:Func} (I:BD k=true) (z:Tryz.prog.funcs[k]? =some f):(f.name == "runtime.NumGoroutine")=false/\(match f.body with|some c=>nY PQ c=true|none=>k=192\/k=193):=by
 have hk:k < 257:=by rw [<-aaj];exact (jE z)
 have:=eY.1 Vl k (gI.2 hk)
 rw [z,I] at this
 simp only [Bool.not_true,Bool.false_or,bY,Bool.not_eq_true'] at this
 refine ⟨this.1,?_⟩
 cases E:f.body with
 |some c=>have:=this.2;rw [E] at this;exact this
 |none=>have:=this.2;rw [E] at this;simpa using this
section
variable {e:Env}
theorem XF (hf:e.F[f]? =some fn) (Y:fn.body=none) (E:fn.name= "") (I:fn.origin= "") (args:Array Value):Rb e (callFunc f args)/\∀x es n R z,(callFunc f args).runT e.P x es=(.ok n R,z)->∃v,n=.value v:=by
 have h1:Extern.findNext fn=none:=by simp only [Extern.findNext,E,I,YL];rfl
 have h2:Extern.find fn=none:=by simp only [Extern.find,E,I,MG.1,MG.2.1,MG.2.2];rfl
 have h3:("" == "runtime.NumGoroutine")=false:=by decide+kernel
 have h4:("".endsWith ".init")=false:=by decide+kernel
 have J:∀x es,(callFunc f args).runT e.P x es=(.halt (.unsupported (.extern "")) x,es.push ⟨.mark (.extern f),false,true⟩):=by
  intro x es
  simp only [callFunc,program,bind,Sem.bind,Sem.runT,show e.P.funcs[f]? =some fn from hf,E,h3,Y,Option.isNone_none,bJ,if_false,if_true,h1,h2,h4,mark,Bool.false_and,unsupported]
 refine ⟨λx es r z h y _=>.inl ?_,λx es n R z h=>?_⟩
 ·rw [J] at h;cases h;rfl
 ·rw [J] at h;cases h
theorem Oe (I:e.F[f]? =some fn) (hg:e.G[f]? =some fn) (R:fn.body=none) (hn:(fn.name == "runtime.NumGoroutine")=false) (Y:Extern.findNext fn=none) {s:Array Value->Sem Value} (hs:Extern.find fn=some s) {args:Array Value} (h:Rb e (s args)):
  Rb e (callFunc f args)/\∀x es n J E,(callFunc f args).runT e.P x es=(.ok n J,E)->∃v,n=.value v:=by
 refine ⟨?_,λx es n J E z=>?_⟩
 ·unfold callFunc
  refine PR ?_ ?_
  ·simp only [show e.P.funcs[f]? =some fn from I,show e.Q.funcs[f]? =some fn from hg]
  ·simp only [show e.P.funcs[f]? =some fn from I,hn,R,Y,hs,Option.isNone_none,bJ,↓reduceIte]
   exact B (NV _ (.inr ⟨f,rfl⟩)) λ_=>B h λ_=>U _
 ·rw [callFunc,runT_bind] at z
  simp only [program,Sem.runT,show e.P.funcs[f]? =some fn from I,hn,R,Y,hs,Option.isNone_none,bJ,↓reduceIte] at z
  rw [runT_bind] at z
  split at z
  ·rw [runT_bind] at z
   split at z
   ·cases z;exact ⟨_,rfl⟩
   ·cases z
  ·cases z
theorem Yo (args:Array Value):Rb e (Extern.AbiNoEscape.same args):=by
 obtain ⟨l⟩:=args
 match l with
 |[]=>exact H _
 |[x]=>exact U _
 |_::_::_=>exact H _
theorem Gg (ps rs:Array TypeId) (args:Array Value):Rb e (Extern.BytealgMakeNoZero.makeNoZero ps rs args):=by
 obtain ⟨l⟩:=args
 match l with
 |[]=>exact H _
 |_::_::_=>cases ‹Value›<;>exact H _
 |[x]=>
  cases x<;>first|exact H _|skip
  case int k n=>
   cases k<;>first|exact H _|skip
   show Rb e (match rs[0]? with|some t=>_|_=>_)
   repeat' first|with_reducible exact U _|with_reducible refine B ?_ λ_=>?_|with_reducible refine IT ?_ ?_|exact H _|split|(simp;done)|dsimp only
end
theorem YO (h:PQ.funcs[k]? =some fn):(BD k=true/\Tryz.prog.funcs[k]? =some fn)\/BD k=false/\fn.body=none/\fn.name= ""/\fn.origin= "":=Zk (P:=Tryz.prog) (L:=BD) h
theorem Fv {D:Nat->Prop} (h:(CY P G D).F[k]? =some fn):P.funcs[k]? =some fn:=h
theorem Tv (hG:∀(k:Nat) (fn:Func),BD k=true->Tryz.prog.funcs[k]? =some fn->G[k]? =some fn) (I:∀k:Nat,(G[k]?).map (·.results)=(PQ.funcs[k]?).map (·.results)) (D:Nat->Prop):Fit (qe G D) where
 code c:=by rewrite [Dt];exact YT PQ G D c
 name f fn h:=by
  rcases YO (Fv h) with ⟨z,h2⟩|⟨_,_,h2,_⟩
  ·exact (NS z h2).1
  ·rw [h2];decide+kernel
 same f fn c h hb:=by
  rcases YO (Fv h) with ⟨z,h2⟩|⟨_,h2,_⟩
  ·have:=(NS z h2).2
   rw [hb] at this
   exact ⟨hG _ _ z h2,by rewrite [Dt];exact this⟩
  ·rw [h2] at hb;cases hb
 ext f fn args h hb:=by
  rcases YO (Fv h) with ⟨z,h2⟩|⟨_,_,h3,h4⟩
  ·have:=(NS z h2).2
   rw [hb] at this
   have E:=hG _ _ z h2
   rcases this with rfl|rfl
   ·obtain rfl:=eP (Tryz.func192.symm.trans h2)
    exact Oe h E hb (by rfl) (by rfl) (s:=Extern.AbiNoEscape.same) (by rfl) (Yo _)
   ·obtain rfl:=eP (Tryz.func193.symm.trans h2)
    exact Oe h E hb (by rfl) (by rfl) (s:=Extern.BytealgMakeNoZero.makeNoZero _ _) (by rfl) (Gg _ _ _)
  ·exact XF h hb h3 h4 _
 results:=GL I D
 early:=by rewrite [Dt];kernel_rfl
theorem O1 (k:Nat):(Tryz.prog.funcs[k]?).map (·.results)=(PQ.funcs[k]?).map (·.results):=JA ..
theorem Qe (P:Program) (G:Array Func) (D:Nat->Prop):(CY P G D).self=CY P P.funcs λ_=>False:=rfl
theorem fits (D:Nat->Prop):Fits (qe Tryz.prog.funcs D):=
 ⟨Tv (λ_ _ _ h=>h) O1 D,by rewrite [Qe];exact Tv (λ_ _ h k=>fq k h) (λ_=>rfl) _⟩
end
open Go Go.Conc
open Cr (nG)
section
variable {w:World} {o:Obj}
theorem aas (P:Program) (L:FuncId->Bool) (D:Nat->Prop):(CY (qK P L) P.funcs D).Q=P:=rfl
theorem Xu (D:Nat->Prop):(qe Tryz.prog.funcs D).Q=Tryz.prog:=aas Tryz.prog BD D
def xY (w:World) (b:Nat):Prop:=∃o,w.heap[b]? =some o/\ghost o=true
def hush (w:World):World:={ w with heap:=w.heap.map λo=>if ghost o then .coro none else o }
theorem Nj {b:Nat} (h:w.heap[b]? =some o) (z:ghost o=false):(hush w).heap[b]? =some o:=by
 show (w.heap.map _)[b]? =_
 rw [iE,h]
 simp [z]
theorem V8 {b:Nat} (h:(hush w).heap[b]? =some o):ghost o=false:=by
 have h:(w.heap.map _)[b]? =_:=h
 rw [iE] at h
 cases z:w.heap[b]? with
 |none=>rw [z] at h;cases h
 |some u=>
  rw [z] at h
  simp only [bQ,aC] at h
  subst h
  split
  ·rfl
  ·exact Bool.eq_false_iff.2 ‹_›
theorem yG {e:Env} (h:ghost o=false):vW e o:=by
 cases o<;>first|trivial|(cases h;done)
section
variable {w:World} {Post:Value->World->Prop} {fr:Frame}
theorem Xg {e:Env} (E:e.D=xY w):WP e (hush w) w where
 os:=rfl
 output:=rfl
 size:=by simp [hush]
 out b hb:=by
  show _=(w.heap.map _)[b]?
  rw [iE]
  cases I:w.heap[b]? with
  |none=>rfl
  |some o=>
   cases z:ghost o with
   |true=>exact absurd ⟨o,I,z⟩ (E ▸ hb)
   |false=>simp [z]
 inn b hb:=by
  rw [E] at hb
  obtain ⟨o,h,z⟩:=hb
  refine .inr ⟨o,h,?_,z⟩
  show (w.heap.map _)[b]? =_
  rw [iE,h]
  simp [z]
 objs b o h:=yG (V8 h)
theorem OE (h:Wk (qe Tryz.prog.funcs (xY w)) ⟨xY w,w,Post⟩ [] fr [] (hush w)) (E:rQ (qe Tryz.prog.funcs (xY w)) fr):nG Tryz.prog Post (λ_=>False) (mk fr []) w:=by
 have k:=h ⟨E,by simp⟩ w (Xg rfl) ⟨λ_ z=>⟨z,rfl⟩,λ_ z _=>z,jC,rfl,rfl⟩
 rewrite [Xu] at k
 exact k.dead λ_ x=>x.elim
end
end
end Po
namespace Cr
open Go Go.Conc Go.ConcN Go.RowKit Go.Conc.Lib Go.ConcR.Gen Go.ConcN.Gen
open Go.ConcR (KK WgAt stA smA Payload DC0)
section
variable {a:Act} {o:Oper}
structure WF (Wg C n i bc bx bf bi:Nat) (cf xf:Array Value) (w:World):Prop where
 c:w.heap[bc]? =some (.cells cf 24)
 x:w.heap[bx]? =some (.cells xf 68)
 f:w.heap[bf]? =some (.cells #[.slice (some ⟨C,0,none⟩) n n] 29)
 i:w.heap[bi]? =some (.cells #[.int .i64 i] 3)
 live:WgLive link.tWg Wg w
 pay:PayAt C n w
section
variable {Wg C n i bc bx bf bi:Nat} {inbox batcher t0 t1 t2 t3 t4 fr ad:Int} {data:ByteArray} {cf xf:Array Value} {w w₁:World} {K:jV}
theorem WF.en (h:WF Wg C n i bc bx bf bi cf xf w) (E:K.O bc) (J:K.O bx) (z:K.O bf) (I:K.O bi) (r:En ⟨Wg,C,n,link.tWg,C - 1⟩ (some i) K w w₁):WF Wg C n i bc bx bf bi cf xf w₁:=
 ⟨(r.block _ E).trans h.c,(r.block _ J).trans h.x,(r.block _ z).trans h.f,(r.block _ I).trans h.i,r.live h.live,r.pay h.pay⟩
noncomputable def rY:Array Oper:=match Tryz.f108.body with
 |some (.seq _ (.region _ ops _))=>ops
 |_=>#[]
theorem cell_of {b:Nat} {cs:Array Value} {ty:TypeId} (h:w.heap[b]? =some (.cells cs ty)) (o:Nat):w.cell? ⟨b,o,none⟩=cs[o]?:=by simp [World.cell?,h]
theorem abR (h:WF Wg C n i bc bx bf bi cf xf w) (I:a.eval (.tmp 3)=.pointer (some ⟨bf,0,none⟩)) (z:o.op=.load 29 (.tmp 3)):
  (execOp a.eval o).run Tryz.prog w=.ok (.value (.slice (some ⟨C,0,none⟩) n n)) w/\(execOp a.eval o).events Tryz.prog w #[]=#[⟨.cell ⟨bf,0,none⟩,false,false⟩]:=by
 have E:=cell_of h.f 0
 constructor
 ·unfold execOp
  simp only [z,I]
  simp [go_sem,E]
 ·unfold execOp
  simp only [z,I]
  simp [go_sem,E]
theorem ab2 (h:WF Wg C n i bc bx bf bi (cfg inbox batcher t0 t1 t2 t3 t4) xf w) (I:a.eval (.tmp 1)=.pointer (some ⟨bc,0,none⟩)) (z:o.op=.load 24 (.tmp 1)):
  (execOp a.eval o).run Tryz.prog w=.ok (.value (.agg (cfg inbox batcher t0 t1 t2 t3 t4))) w/\∀e∈(execOp a.eval o).events Tryz.prog w #[],∃k,e=⟨.cell ⟨bc,k,none⟩,false,false⟩:=by
 have Y:=cell_of h.c 0
 have J:=cell_of h.c 1
 have h2:=cell_of h.c 2
 have h3:=cell_of h.c 3
 have h4:=cell_of h.c 4
 have R:=cell_of h.c 5
 have E:=cell_of h.c 6
 constructor
 ·unfold execOp
  simp only [z,I]
  simp [go_sem,Y,J,h2,h3,h4,R,E]
 ·unfold execOp
  simp only [z,I]
  simp [go_sem,Y,J,h2,h3,h4,R,E]
theorem abq (h:WF Wg C n i bc bx bf bi cf (yY fr ad data) w) (E:a.eval (.tmp 2)=.pointer (some ⟨bx,0,none⟩)) (z:o.op=.load 68 (.tmp 2)):
  (execOp a.eval o).run Tryz.prog w=.ok (.value (.agg (yY fr ad data))) w/\∀e∈(execOp a.eval o).events Tryz.prog w #[],∃k,e=⟨.cell ⟨bx,k,none⟩,false,false⟩:=by
 have J:=cell_of h.x 0
 have I:=cell_of h.x 1
 have h2:=cell_of h.x 2
 constructor
 ·unfold execOp
  simp only [z,E]
  simp [go_sem,J,I,h2]
 ·unfold execOp
  simp only [z,E]
  simp [go_sem,J,I,h2]
theorem abP (h:WF Wg C n i bc bx bf bi cf xf w) (I:a.eval (.tmp 4)=.pointer (some ⟨bi,0,none⟩)) (z:o.op=.load 3 (.tmp 4)):
  (execOp a.eval o).run Tryz.prog w=.ok (.value (.int .i64 i)) w/\(execOp a.eval o).events Tryz.prog w #[]=#[⟨.cell ⟨bi,0,none⟩,false,false⟩]:=by
 have E:=cell_of h.i 0
 constructor
 ·unfold execOp
  simp only [z,I]
  simp [go_sem,E]
 ·unfold execOp
  simp only [z,I]
  simp [go_sem,E]
theorem abE (Y:i < n) (R:a.eval (.tmp 5)=.slice (some ⟨C,0,none⟩) n n) (J:a.eval (.tmp 6)=.int .i64 i) (I:o.op=.indexAddr 29 (.tmp 5) (.tmp 6)):
  (execOp a.eval o).run Tryz.prog w=.ok (.value (.pointer (some ⟨C,i,none⟩))) w/\(execOp a.eval o).events Tryz.prog w #[]=#[]:=by
 have E:(i:Int) < (n:Int):=by omega
 have z:(0:Int)<=(i:Int):=by omega
 constructor
 ·unfold execOp
  simp only [I,R,J]
  simp [go_sem,E,z,Addr.add]
  exact λe=>e.symm
 ·unfold execOp
  simp only [I,R,J]
  simp [go_sem,E,z]
theorem ab1 (hp:PayAt C n w) (Y:i < n) {x:Option Addr} {l c:Nat} (h10:a.eval (.tmp 10)=.pointer (some ⟨C,i,none⟩)) (I:a.eval (.tmp 9)=.slice x l c) (z:o.op=.store 76 (.tmp 10) (.tmp 9)):
  (execOp a.eval o).run Tryz.prog w=.ok .skip (w.setCell ⟨C,i,none⟩ (.slice x l c))/\(execOp a.eval o).events Tryz.prog w #[]=#[⟨.cell ⟨C,i,none⟩,true,false⟩]:=by
 obtain ⟨cs,E,hn⟩:=hp
 have J:w.cell? ⟨C,i,none⟩=some cs[i]:=by simp [World.cell?,E,hn,Y]
 have R:w.frozen? ⟨C,i,none⟩=false:=by simp [World.frozen?,E]
 constructor
 ·unfold execOp
  simp only [z,h10,I]
  simp [go_sem,stored,J,R]
 ·unfold execOp
  simp only [z,h10,I]
  simp [go_sem,events_store _ _ _ _ _ _ (show (Value.slice x l c).oneCell'=true from rfl),J,R]
theorem VF (hp:PayAt C n w) (E:i < n) (v:Value):Has C i v (w.setCell ⟨C,i,none⟩ v):=by
 obtain ⟨cs,z,I⟩:=hp
 simp [Has,World.cell?,World.setCell,bI,z,I,E]
end
end
section
def bW:Frame:=baseD 108
noncomputable def IZ:Frame:={ (default:Frame) with fn:=Tryz.prog.funcs.size,defers:=[],mode:=.panicking [goexitEntry] }
noncomputable def UA:Code:=Tryz.f108.body.getD .skip
section
variable (Wg C n i bc bx bf bi:Nat) (inbox batcher t0 t1 t2 t3 t4 fr ad:Int) (data:ByteArray)
def Ie:Deferred:={ target:=.fn (.func 108) #[.pointer (some ⟨Wg,0,none⟩),.pointer (some ⟨bc,0,none⟩),.pointer (some ⟨bx,0,none⟩),.pointer (some ⟨bf,0,none⟩),.pointer (some ⟨bi,0,none⟩)],args:=#[] }
def Na (l:Bool) (v:Value):Value:=if l then v else undef
def slots (l:Array Bool) (v:Value):Array Value:=#[.pointer (some ⟨Wg,0,none⟩),.pointer (some ⟨bc,0,none⟩),.pointer (some ⟨bx,0,none⟩),.pointer (some ⟨bf,0,none⟩),.pointer (some ⟨bi,0,none⟩),
 Na (l.getD 0 false) (.slice (some ⟨C,0,none⟩) n n),Na (l.getD 1 false) (.int .i64 i),Na (l.getD 2 false) (.agg (cfg inbox batcher t0 t1 t2 t3 t4)),Na (l.getD 3 false) (.agg (yY fr ad data)),Na (l.getD 4 false) v,Na (l.getD 5 false) (.pointer (some ⟨C,i,none⟩))]
end
section
variable {Wg C n i bc bx bf bi:Nat} {inbox batcher t0 t1 t2 t3 t4 fr ad:Int} {data:ByteArray}
theorem born_step (w:World):stepG Tryz.prog false (born Tryz.prog (Ie Wg bc bx bf bi)) w=
  .go (G (bW.at ⟨#[.pointer (some ⟨Wg,0,none⟩),.pointer (some ⟨bc,0,none⟩),.pointer (some ⟨bx,0,none⟩),.pointer (some ⟨bf,0,none⟩),.pointer (some ⟨bi,0,none⟩),undef,undef,undef,undef,undef,undef],[]⟩ [.code UA]) [IZ]) w #[]:=by
 simp [born,Ie,stepG,unwind,callDeferred,invoke,callFunc,Tryz.func108,Tryz.f108,seen,GStep.after,G,Frame.enter,Frame.at,bW,baseD,IZ,UA]
theorem quits_tail (T:Array Value):QuitsD Tryz.prog 2 0 (G { bW.at ⟨T,[]⟩ [] with mode:=.returning } [IZ]):=by
 refine QuitsD.ctl (g':=G IZ []) rfl (λw=>?_) ?_
 ·simp [G,stepG,unwind,doReturn,results,Frame.at,bW,baseD,IZ,Tryz.func108,Tryz.f108,seen,GStep.after,goexitEntry]
 refine QuitsD.ctl (g':={ G IZ [] with status:=.finished }) rfl (λw=>?_) ⟨rfl,rfl⟩
 simp [G,stepG,unwind,IZ,goexitEntry,Frame.catches]
 rfl
structure KW (Wg C:Nat) (bc bx bf bi:Nat) (K:jV) (w:World):Prop where
 c:K.O bc
 x:K.O bx
 f:K.O bf
 i:K.O bi
 sub:∀b,K.W b->K.O b
 low:∀b,K.O b->b < w.heap.size
 pay:C < w.heap.size
 grp:Wg < w.heap.size
 ne:∀b,K.O b->b≠C
 glob:Tryz.prog.globals.size<=w.heap.size
theorem sched (t:Nat) (m:Bool):Region.schedule m rY t=Region.linearise.go .any rY 7 t (Array.replicate 7 false) []:=by
 have h:Region.departs rY=false:=by kernel_rfl
 unfold Region.schedule
 simp only [h,Bool.not_false,Bool.or_true,if_true]
 rfl
end
end
section
variable {w:World} {v:Value} {l0 l1 l2 l3 l4 l5 l6:Bool}
section
variable {Wg C n i bc bx bf bi:Nat} {inbox batcher t0 t1 t2 t3 t4 fr ad:Int} {data:ByteArray} {fs:Nat->List Fr.F}
abbrev lQ (Wg C n:Nat):Who:=⟨Wg,C,n,link.tWg,C - 1⟩
noncomputable def sG (Wg C n i bc bx bf bi:Nat) (inbox batcher t0 t1 t2 t3 t4 fr ad:Int) (data:ByteArray) (l:Array Bool) (v:Value) (rest:List Nat):Goroutine:=
 G (bW.at ⟨slots Wg C n i bc bx bf bi inbox batcher t0 t1 t2 t3 t4 fr ad data l v,[dcall link.done #[.pointer (some ⟨Wg,0,none⟩)]]⟩ (.inRegion rY rest::[])) [IZ]
theorem VH {K:jV} {l:Array Bool} (hF:WF Wg C n i bc bx bf bi (cfg inbox batcher t0 t1 t2 t3 t4) (yY fr ad data) w) (R:KW Wg C bc bx bf bi K w) (Y:Has C i v w) (hr:qm K.O w v (fs i)):
  kP Tryz.prog false (lQ Wg C n) (some i) (qB Tryz.prog (lQ Wg C n) (leftOf fs) i) K (sG Wg C n i bc bx bf bi inbox batcher t0 t1 t2 t3 t4 fr ad data l v []) w:=by
 have H:=wgLib
 unfold sG
 have E:WF Wg C n i bc bx bf bi (cfg inbox batcher t0 t1 t2 t3 t4) (yY fr ad data) w/\Has C i v w/\qm K.O w v (fs i):=⟨hF,Y,hr⟩
 have J:∀{w z:World},(WF Wg C n i bc bx bf bi (cfg inbox batcher t0 t1 t2 t3 t4) (yY fr ad data) w/\Has C i v w/\qm K.O w v (fs i))->En (lQ Wg C n) (some i) K w z->(WF Wg C n i bc bx bf bi (cfg inbox batcher t0 t1 t2 t3 t4) (yY fr ad data) z/\Has C i v z/\qm K.O z v (fs i)):=
  λh r=>⟨h.1.en R.c R.x R.f R.i r,(r.cell i rfl).trans h.2.1,h.2.2.stands (λ_=>id) r.block⟩
 clear hF Y hr
 refine kP.go (n:=10) ?_
 u_c stepG_region_end J E
 u_c stepG_end J E
 u_in J E
 rw [stepG_unwind_enter rfl H.f_done (nm_done link) rfl]
 simp only [goes_go]
 refine ⟨by u_nil,?_⟩
 refine Goes.stop λz I=>?_
 replace E:=J E I
 exact Xh (Q:=leftOf fs) H rfl (quits_tail _) z E.1.live E.2.1 λaa hb=>E.2.2.stands (λ_=>id) hb
structure Reg (fs:Nat->List Fr.F) (Wg C n i bc bx bf bi:Nat) (inbox batcher t0 t1 t2 t3 t4 fr ad:Int) (data:ByteArray) (l0 l1 l2 l3 l4 l5 l6:Bool) (K:jV) (v:Value) (w:World):Prop where
 d4:l4=true->l2=true/\l3=true
 d5:l5=true->l0=true/\l1=true/\l2=true/\l3=true/\l4=true
 d6:l6=true->l5=true
 wf:WF Wg C n i bc bx bf bi (cfg inbox batcher t0 t1 t2 t3 t4) (yY fr ad data) w
 kw:KW Wg C bc bx bf bi K w
 row:l4=true->qm K.O w v (fs i)
 has:l6=true->Has C i v w
def Cnt (z:Nat) (l0 l1 l2 l3 l4 l5 l6:Bool):Prop:=z+(l0.toNat+l1.toNat+l2.toNat+l3.toNat+l4.toNat+l5.toNat+l6.toNat)=7
theorem Reg.en {K:jV} {z:World} (h:Reg fs Wg C n i bc bx bf bi inbox batcher t0 t1 t2 t3 t4 fr ad data l0 l1 l2 l3 l4 l5 l6 K v w) (r:En (lQ Wg C n) (some i) K w z):
  Reg fs Wg C n i bc bx bf bi inbox batcher t0 t1 t2 t3 t4 fr ad data l0 l1 l2 l3 l4 l5 l6 K v z:=
 ⟨h.d4,h.d5,h.d6,h.wf.en h.kw.c h.kw.x h.kw.f h.kw.i r,⟨h.kw.c,h.kw.x,h.kw.f,h.kw.i,h.kw.sub,λb E=>aH (h.kw.low b E) r.size,aH h.kw.pay r.size,aH h.kw.grp r.size,h.kw.ne,aW h.kw.glob r.size⟩,
  λe=>(h.row e).stands (λ_=>id) r.block,λe=>(r.cell i rfl).trans (h.has e)⟩
def opens (l0 l1 l2 l3 l4 l5 l6:Bool):List Nat:=
 (if l0 then [] else [0])++(if l1 then [] else [1])++(if l2 then [] else [2])++(if l3 then [] else [3])++(if l4 then [] else if l2&&l3 then [4] else [])++(if l5 then [] else if l0&&l1&&l2&&l3&&l4 then [5] else [])++
  (if l6 then [] else if l0&&l1&&l2&&l3&&l4&&l5 then [6] else [])
theorem ready_eq (l0 l1 l2 l3 l4 l5 l6:Bool):Region.ready .any rY #[l0,l1,l2,l3,l4,l5,l6]=opens l0 l1 l2 l3 l4 l5 l6:=by
 cases l0<;>cases l1<;>cases l2<;>cases l3<;>cases l4<;>cases l5<;>cases l6<;>kernel_rfl
theorem OD {k:Nat} (h:k∈Region.ready .any rY #[l0,l1,l2,l3,l4,l5,l6]):
  (k=0/\l0=false)\/(k=1/\l1=false)\/(k=2/\l2=false)\/(k=3/\l3=false)\/(k=4/\l4=false/\l2=true/\l3=true)\/(k=5/\l5=false/\l0=true/\l1=true/\l2=true/\l3=true/\l4=true)\/(k=6/\l6=false/\l5=true/\l4=true):=by
 rw [ready_eq] at h
 revert h
 cases l0<;>cases l1<;>cases l2<;>cases l3<;>cases l4<;>cases l5<;>cases l6<;>simp [opens]<;>omega
theorem LG (h4:l4=true->l2=true/\l3=true) (z:l5=true->l0=true/\l1=true/\l2=true/\l3=true/\l4=true) (E:l6=true->l5=true) (I:l0.toNat+l1.toNat+l2.toNat+l3.toNat+l4.toNat+l5.toNat+l6.toNat < 7):
  Region.ready .any rY #[l0,l1,l2,l3,l4,l5,l6]≠[]:=by
 rw [ready_eq]
 revert h4 z E I
 cases l0<;>cases l1<;>cases l2<;>cases l3<;>cases l4<;>cases l5<;>cases l6<;>simp [opens]
end
end
section
theorem abz:∃o,rY[0]? =some o/\o.op=.load 29 (.tmp 3)/\o.dst=some 5/\o.guard=none:=⟨_,rfl,rfl,rfl,rfl⟩
theorem abw:∃o,rY[1]? =some o/\o.op=.load 3 (.tmp 4)/\o.dst=some 6/\o.guard=none:=⟨_,rfl,rfl,rfl,rfl⟩
theorem abV:∃o,rY[2]? =some o/\o.op=.load 24 (.tmp 1)/\o.dst=some 7/\o.guard=none:=⟨_,rfl,rfl,rfl,rfl⟩
theorem abW:∃o,rY[3]? =some o/\o.op=.load 68 (.tmp 2)/\o.dst=some 8/\o.guard=none:=⟨_,rfl,rfl,rfl,rfl⟩
theorem abQ:∃o,rY[4]? =some o/\o.op=.call { callee:=.value (.func 110),args:=#[.tmp 7,.tmp 8],argTypes:=#[24,68] }/\o.dst=some 9/\o.guard=none:=⟨_,rfl,rfl,rfl,rfl⟩
theorem abT:∃o,rY[5]? =some o/\o.op=.indexAddr 29 (.tmp 5) (.tmp 6)/\o.dst=some 10/\o.guard=none:=⟨_,rfl,rfl,rfl,rfl⟩
theorem abK:∃o,rY[6]? =some o/\o.op=.store 76 (.tmp 10) (.tmp 9)/\o.dst=none/\o.guard=none:=⟨_,rfl,rfl,rfl,rfl⟩
theorem kG {o:Oper} {y:Nat->Option Bool} (h:o.guard=none):Region.wanted o y=true:=by simp [Region.wanted,h]
section
variable {Wg C n i bc bx bf bi:Nat} {inbox batcher t0 t1 t2 t3 t4 fr ad:Int} {data:ByteArray} {fs:Nat->List Fr.F} {l0 l1 l2 l3 l4 l5 l6:Bool} {K:jV} {v:Value} {w:World}
theorem Xd (rd:ReadW) (hi:i < n) (ap:C≠Wg) (ar:fs i=Fr.lM inbox batcher fr ad data.data.toList) (hd:data.size<=1048576) (t:Nat) (h:Reg fs Wg C n i bc bx bf bi inbox batcher t0 t1 t2 t3 t4 fr ad data false false false false false false false K v w):
  kP Tryz.prog false (lQ Wg C n) (some i) (qB Tryz.prog (lQ Wg C n) (leftOf fs) i) K (sG Wg C n i bc bx bf bi inbox batcher t0 t1 t2 t3 t4 fr ad data #[false,false,false,false,false,false,false] v (Region.linearise.go .any rY 7 t (Array.replicate 7 false) [])) w:=by
 refine Ej (σ:=jV×Value×World×Array Bool) (md:=.any) (ops:=rY)
  (λaj listed s=>s.2.2.2=listed/\∃l0 l1 l2 l3 l4 l5 l6,listed=#[l0,l1,l2,l3,l4,l5,l6]/\Cnt aj l0 l1 l2 l3 l4 l5 l6/\Reg fs Wg C n i bc bx bf bi inbox batcher t0 t1 t2 t3 t4 fr ad data l0 l1 l2 l3 l4 l5 l6 s.1 s.2.1 s.2.2.1)
  (λrest s=>kP Tryz.prog false (lQ Wg C n) (some i) (qB Tryz.prog (lQ Wg C n) (leftOf fs) i) s.1 (sG Wg C n i bc bx bf bi inbox batcher t0 t1 t2 t3 t4 fr ad data s.2.2.2 s.2.1 rest) s.2.2.1) ?done ?more 7 t (Array.replicate 7 false) (K,v,w,#[false,false,false,false,false,false,false]) ⟨rfl,false,false,false,false,false,false,false,rfl,rfl,h⟩
 case done=>
  rintro listed ⟨K,v,w,l⟩ ⟨rfl,l0,l1,l2,l3,l4,l5,l6,hl,hc,R⟩
  have h4:l4=true:=by unfold Cnt at hc;revert hc;cases l0<;>cases l1<;>cases l2<;>cases l3<;>cases l4<;>cases l5<;>cases l6<;>simp
  have h6:l6=true:=by unfold Cnt at hc;revert hc;cases l0<;>cases l1<;>cases l2<;>cases l3<;>cases l4<;>cases l5<;>cases l6<;>simp
  exact VH R.wf R.kw (R.has h6) (R.row h4)
 case more=>
  rintro aj listed ⟨K,v,w,l⟩ ⟨rfl,l0,l1,l2,l3,l4,l5,l6,hl,hc,R⟩
  simp only at hl
  subst hl
  unfold Cnt at hc
  refine ⟨LG R.d4 R.d5 R.d6 (by omega),λk hk rest J=>?_⟩
  have af:bW.kind≠.early:=baseD_kind _
  rcases OD hk with ⟨rfl,e⟩|⟨rfl,e⟩|⟨rfl,e⟩|⟨rfl,e⟩|⟨rfl,e,e2,e3⟩|⟨rfl,e,e0,e1,e2,e3,e4⟩|⟨rfl,e,e5,e4⟩
  ·subst e
   obtain ⟨o,ho,ab,aa,Y⟩:=abz
   refine kP.op ho (kG Y) af λE I=>?_
   have z:=R.en I
   obtain ⟨r1,r2⟩:=abR z.wf (a:=⟨slots Wg C n i bc bx bf bi inbox batcher t0 t1 t2 t3 t4 fr ad data #[false,l1,l2,l3,l4,l5,l6] v,[dcall link.done #[.pointer (some ⟨Wg,0,none⟩)]]⟩) rfl ab
   refine ⟨_,E,r1,qQ λe he=>?_,?_⟩
   ·have:=mem_listed he
    rw [r2] at this
    simp at this
    exact ⟨_,this,z.kw.f,z.kw.low _ z.kw.f⟩
   ·rw [kH,aa]
    have:=J (K,v,E,#[true,l1,l2,l3,l4,l5,l6]) ⟨by simp,true,l1,l2,l3,l4,l5,l6,by simp,by unfold Cnt;simp at hc⊢;omega,⟨z.d4,λh=>⟨rfl,(z.d5 h).2⟩,z.d6,z.wf,z.kw,z.row,z.has⟩⟩
    simpa [sG,slots,Na,Act.put] using this
  ·subst e
   obtain ⟨o,ho,ab,aa,Y⟩:=abw
   refine kP.op ho (kG Y) af λE I=>?_
   have z:=R.en I
   obtain ⟨r1,r2⟩:=abP z.wf (a:=⟨slots Wg C n i bc bx bf bi inbox batcher t0 t1 t2 t3 t4 fr ad data #[l0,false,l2,l3,l4,l5,l6] v,[dcall link.done #[.pointer (some ⟨Wg,0,none⟩)]]⟩) rfl ab
   refine ⟨_,E,r1,qQ λe he=>?_,?_⟩
   ·have:=mem_listed he
    rw [r2] at this
    simp at this
    exact ⟨_,this,z.kw.i,z.kw.low _ z.kw.i⟩
   ·rw [kH,aa]
    have:=J (K,v,E,#[l0,true,l2,l3,l4,l5,l6]) ⟨by simp,l0,true,l2,l3,l4,l5,l6,by simp,by unfold Cnt;simp at hc⊢;omega,⟨z.d4,λh=>⟨(z.d5 h).1,rfl,(z.d5 h).2.2⟩,z.d6,z.wf,z.kw,z.row,z.has⟩⟩
    simpa [sG,slots,Na,Act.put] using this
  ·subst e
   obtain ⟨o,ho,ab,aa,Y⟩:=abV
   refine kP.op ho (kG Y) af λE I=>?_
   have z:=R.en I
   obtain ⟨r1,r2⟩:=ab2 z.wf (a:=⟨slots Wg C n i bc bx bf bi inbox batcher t0 t1 t2 t3 t4 fr ad data #[l0,l1,false,l3,l4,l5,l6] v,[dcall link.done #[.pointer (some ⟨Wg,0,none⟩)]]⟩) rfl ab
   refine ⟨_,E,r1,qQ λe he=>?_,?_⟩
   ·have:=mem_listed he
    obtain ⟨k,ak⟩:=r2 _ this
    exact ⟨_,ak,z.kw.c,z.kw.low _ z.kw.c⟩
   ·rw [kH,aa]
    have:=J (K,v,E,#[l0,l1,true,l3,l4,l5,l6]) ⟨by simp,l0,l1,true,l3,l4,l5,l6,by simp,by unfold Cnt;simp at hc⊢;omega,⟨λh=>⟨rfl,(z.d4 h).2⟩,λh=>⟨(z.d5 h).1,(z.d5 h).2.1,rfl,(z.d5 h).2.2.2⟩,z.d6,z.wf,z.kw,z.row,z.has⟩⟩
    simpa [sG,slots,Na,Act.put] using this
  ·subst e
   obtain ⟨o,ho,ab,aa,Y⟩:=abW
   refine kP.op ho (kG Y) af λE I=>?_
   have z:=R.en I
   obtain ⟨r1,r2⟩:=abq z.wf (a:=⟨slots Wg C n i bc bx bf bi inbox batcher t0 t1 t2 t3 t4 fr ad data #[l0,l1,l2,false,l4,l5,l6] v,[dcall link.done #[.pointer (some ⟨Wg,0,none⟩)]]⟩) rfl ab
   refine ⟨_,E,r1,qQ λe he=>?_,?_⟩
   ·have:=mem_listed he
    obtain ⟨k,ak⟩:=r2 _ this
    exact ⟨_,ak,z.kw.x,z.kw.low _ z.kw.x⟩
   ·rw [kH,aa]
    have:=J (K,v,E,#[l0,l1,l2,true,l4,l5,l6]) ⟨by simp,l0,l1,l2,true,l4,l5,l6,by simp,by unfold Cnt;simp at hc⊢;omega,⟨λh=>⟨(z.d4 h).1,rfl⟩,λh=>⟨(z.d5 h).1,(z.d5 h).2.1,(z.d5 h).2.2.1,rfl,(z.d5 h).2.2.2.2⟩,z.d6,z.wf,z.kw,z.row,z.has⟩⟩
    simpa [sG,slots,Na,Act.put] using this
  ·subst e e2 e3
   obtain ⟨o,ho,ab,aa,Y⟩:=abQ
   refine rd _ _ _ _ _ _ _ _ _ _ _ _ _ _ _ _ inbox batcher t0 t1 t2 t3 t4 fr ad data ho (kG Y) af ab (by simp [slots,Na,Act.eval]) (by simp [slots,Na,Act.eval]) hd R.kw.sub R.kw.low R.kw.pay R.kw.grp R.kw.glob ?_
   ·rintro E I v' K' ag ae hO aw ac ah ai ax aq
    have z:=R.en I
    rw [<-ar] at ae
    rw [aa]
    have ao:PayAt C n ag:=aq z.wf.pay
    have am:WgLive link.tWg Wg ag:=ax z.wf.live
    have:=J (K',v',ag,#[l0,l1,true,true,true,l5,l6]) ⟨by simp,l0,l1,true,true,true,l5,l6,by simp,by unfold Cnt;simp at hc⊢;omega,⟨λ_=>⟨rfl,rfl⟩,λh=>(by have:=(z.d5 h).2.2.2.2;cases this),z.d6,⟨(ah _ R.kw.c).trans z.wf.c,(ah _ R.kw.x).trans z.wf.x,(ah _ R.kw.f).trans z.wf.f,(ah _ R.kw.i).trans z.wf.i,am,ao⟩,
     ⟨hO _ R.kw.c,hO _ R.kw.x,hO _ R.kw.f,hO _ R.kw.i,aw,λb hb=>(ai b hb).1,aH z.kw.pay ac,aH z.kw.grp ac,λb hb=>(ai b hb).2.elim (R.kw.ne b) λh=>by have:=z.kw.pay;omega,aW z.kw.glob ac⟩,λ_=>ae,λh=>(by have:=(z.d5 (z.d6 h)).2.2.2.2;cases this)⟩⟩
    simpa [sG,slots,Na,Act.put] using this
  ·subst e e0 e1 e2 e3 e4
   obtain ⟨o,ho,ab,aa,Y⟩:=abT
   refine kP.op ho (kG Y) af λE I=>?_
   have z:=R.en I
   obtain ⟨r1,r2⟩:=abE (w:=E) hi (a:=⟨slots Wg C n i bc bx bf bi inbox batcher t0 t1 t2 t3 t4 fr ad data #[true,true,true,true,true,false,l6] v,[dcall link.done #[.pointer (some ⟨Wg,0,none⟩)]]⟩) rfl rfl ab
   refine ⟨_,E,r1,qQ λe he=>?_,?_⟩
   ·have:=mem_listed he
    rw [r2] at this
    simp at this
   ·rw [kH,aa]
    have:=J (K,v,E,#[true,true,true,true,true,true,l6]) ⟨by simp,true,true,true,true,true,true,l6,by simp,by unfold Cnt;simp at hc⊢;omega,⟨z.d4,λ_=>⟨rfl,rfl,rfl,rfl,rfl⟩,λ_=>rfl,z.wf,z.kw,z.row,z.has⟩⟩
    simpa [sG,slots,Na,Act.put] using this
  ·subst e e5 e4
   obtain ⟨rfl,rfl,rfl,rfl,_⟩:=R.d5 rfl
   obtain ⟨o,ho,ab,aa,Y⟩:=abK
   refine kP.opn ho (kG Y) af λE I=>?_
   have z:=R.en I
   have ae:=z.row rfl
   obtain ⟨x,l,c,hv⟩:∃x l c,v=.slice x l c:=by
    rcases ae with ⟨e,_⟩|⟨g,cap,ay,e,_⟩
    ·exact ⟨_,_,_,e⟩
    ·exact ⟨_,_,_,e⟩
   subst hv
   obtain ⟨r1,r2⟩:=ab1 (w:=E) z.wf.pay hi (a:=⟨slots Wg C n i bc bx bf bi inbox batcher t0 t1 t2 t3 t4 fr ad data #[true,true,true,true,true,true,false] (.slice x l c),[dcall link.done #[.pointer (some ⟨Wg,0,none⟩)]]⟩) rfl rfl ab
   have an:=Yt (S:=lQ Wg C n) (K:=K) (i:=i) (v:=.slice x l c) (es:=listed Tryz.prog bW.fn ⟨slots Wg C n i bc bx bf bi inbox batcher t0 t1 t2 t3 t4 fr ad data #[true,true,true,true,true,true,false] (.slice x l c),[dcall link.done #[.pointer (some ⟨Wg,0,none⟩)]]⟩ o E) z.wf.pay λe he=>by
    have:=mem_listed he
    rw [r2] at this
    simpa using this
   refine ⟨_,r1,an,?_⟩
   obtain ⟨_,_,_,ac⟩:=jT E ⟨C,i,none⟩ (.slice x l c)
   rw [ac,kH,aa]
   have hb:∀b,K.O b->(E.setCell ⟨C,i,none⟩ (.slice x l c)).heap[b]? =E.heap[b]?:=λb hb=>kD (R.kw.ne b hb)
   have au:(E.setCell ⟨C,i,none⟩ (.slice x l c)).heap[Wg]? =E.heap[Wg]?:=kD (Ne.symm ap)
   have:=J (K,.slice x l c,E.setCell ⟨C,i,none⟩ (.slice x l c),#[true,true,true,true,true,true,true]) ⟨by simp,true,true,true,true,true,true,true,by simp,by unfold Cnt;simp at hc⊢;omega,
    ⟨λ_=>⟨rfl,rfl⟩,λ_=>⟨rfl,rfl,rfl,rfl,rfl⟩,λ_=>rfl,⟨(hb _ z.kw.c).trans z.wf.c,(hb _ z.kw.x).trans z.wf.x,(hb _ z.kw.f).trans z.wf.f,(hb _ z.kw.i).trans z.wf.i,let ⟨st,sm,hl⟩:=z.wf.live;⟨st,sm,hl.of_block au⟩,an.pay z.wf.pay⟩,
     ⟨z.kw.c,z.kw.x,z.kw.f,z.kw.i,z.kw.sub,λb av=>by rw [ac];exact z.kw.low b av,by rw [ac];exact z.kw.pay,by rw [ac];exact z.kw.grp,z.kw.ne,by rw [ac];exact z.kw.glob⟩,λ_=>ae.stands (λ_=>id) hb,λ_=>VF z.wf.pay hi _⟩⟩
   simpa [sG,slots,Na,Act.put] using this
end
end
section
section
variable {Wg C n i bc bx bf bi:Nat} {inbox batcher t0 t1 t2 t3 t4 fr ad:Int} {data:ByteArray} {fs:Nat->List Fr.F} {K:jV} {w:World}
theorem KW.en {z:World} (h:KW Wg C bc bx bf bi K w) (r:En (lQ Wg C n) (some i) K w z):KW Wg C bc bx bf bi K z:=
 ⟨h.c,h.x,h.f,h.i,h.sub,λb E=>aH (h.low b E) r.size,aH h.pay r.size,aH h.grp r.size,h.ne,aW h.glob r.size⟩
theorem Md (rd:ReadW) (hi:i < n) (aa:C≠Wg) (ab:fs i=Fr.lM inbox batcher fr ad data.data.toList) (hd:data.size<=1048576) (hF:WF Wg C n i bc bx bf bi (cfg inbox batcher t0 t1 t2 t3 t4) (yY fr ad data) w) (Y:KW Wg C bc bx bf bi K w):
  kP Tryz.prog false (lQ Wg C n) (some i) (qB Tryz.prog (lQ Wg C n) (leftOf fs) i) K (born Tryz.prog (Ie Wg bc bx bf bi)) w:=by
 refine kP.step rfl λz I=>⟨_,z,#[],born_step z,.still ..,?_⟩
 rw [kH]
 have E:WF Wg C n i bc bx bf bi (cfg inbox batcher t0 t1 t2 t3 t4) (yY fr ad data) z/\KW Wg C bc bx bf bi K z:=⟨hF.en Y.c Y.x Y.f Y.i I,Y.en I⟩
 have rl:∀{w z:World},(WF Wg C n i bc bx bf bi (cfg inbox batcher t0 t1 t2 t3 t4) (yY fr ad data) w/\KW Wg C bc bx bf bi K w)->En (lQ Wg C n) (some i) K w z->(WF Wg C n i bc bx bf bi (cfg inbox batcher t0 t1 t2 t3 t4) (yY fr ad data) z/\KW Wg C bc bx bf bi K z):=
  λh r=>⟨h.1.en h.2.c h.2.x h.2.f h.2.i r,h.2.en r⟩
 clear hF Y I
 have hb:UA=(.seq (.region 0 #[{ dst:=none,op:=.defer { callee:=.value (.func 109),args:=#[.tmp 0],argTypes:=#[211] },type:=0,pos:= "upper.go:57",after:=#[],guard:=none }] false) (.region 1 rY true)):=rfl
 rw [hb]
 refine kP.go (n:=10) ?_
 u_c stepG_seq rl E
 u_reg rl E
 u_defer rl E
 u_c stepG_region_end rl E
 refine Goes.stop λae J=>?_
 replace E:=rl E J
 clear J
 refine kP.draw λac R t=>?_
 replace E:=rl E R
 clear R
 rw [sched]
 exact Xd (v:=undef) rd hi aa ab hd t ⟨by simp,by simp,by simp,⟨E.1.c,E.1.x,E.1.f,E.1.i,E.1.live,E.1.pay⟩,⟨E.2.c,E.2.x,E.2.f,E.2.i,E.2.sub,E.2.low,E.2.pay,E.2.grp,E.2.ne,E.2.glob⟩,by simp,by simp⟩
end
end
section
variable {tb q b:Nat} {fr ad k j k1 k2:Int} {data k3:ByteArray} {ty:TypeId} {x y z:Value} {fn:FuncId} {e:Event}
section
variable {w:World} {a:Act} {o:Oper}
theorem X6 (R:w.cell? ⟨tb,q,none⟩=some (.int .u32 fr)) (J:w.cell? ⟨tb,q+1,none⟩=some (.int .u32 ad)) (h2:w.cell? ⟨tb,q+2,none⟩=some (.string data)) (I:a.eval (.tmp 17)=.pointer (some ⟨tb,q,none⟩)) (E:o.op=.load 68 (.tmp 17)):
  (execOp a.eval o).run Tryz.prog w=.ok (.value (.agg (yY fr ad data))) w/\∀e∈(execOp a.eval o).events Tryz.prog w #[],∃k,e=⟨.cell ⟨tb,k,none⟩,false,false⟩:=by
 constructor
 ·unfold execOp
  simp only [E,I]
  simp [go_sem,R,J,h2]
 ·unfold execOp
  simp only [E,I]
  simp [go_sem,R,J,h2]
theorem aaH (E:o.op=.alloc 3):(execOp a.eval o).run Tryz.prog w=.ok (.value (.pointer (some ⟨w.heap.size,0,none⟩))) (w.alloc (.cells #[.int .i64 0] 3))/\(execOp a.eval o).events Tryz.prog w #[]=#[]:=by
 constructor
 ·unfold execOp
  simp only [E]
  simp [go_sem]
 ·unfold execOp
  simp only [E]
  simp [go_sem]
theorem aaL (E:o.op=.alloc 68):(execOp a.eval o).run Tryz.prog w=.ok (.value (.pointer (some ⟨w.heap.size,0,none⟩))) (w.alloc (.cells #[.int .u32 0,.int .u32 0,.string ⟨#[]⟩] 68))/\(execOp a.eval o).events Tryz.prog w #[]=#[]:=by
 constructor
 ·unfold execOp
  simp only [E]
  simp [go_sem]
 ·unfold execOp
  simp only [E]
  simp [go_sem]
theorem ZX (R:w.heap[b]? =some (.cells #[.int .i64 k] 3)) (J:a.eval (.tmp 7)=.pointer (some ⟨b,0,none⟩)) (I:a.eval (.tmp 16)=.int .i64 j) (E:o.op=.store 3 (.tmp 7) (.tmp 16)):
  (execOp a.eval o).run Tryz.prog w=.ok .skip (w.setCell ⟨b,0,none⟩ (.int .i64 j))/\(execOp a.eval o).events Tryz.prog w #[]=#[⟨.cell ⟨b,0,none⟩,true,false⟩]:=by
 have Y:w.cell? ⟨b,0,none⟩=some (.int .i64 k):=by simp [World.cell?,R]
 have hz:w.frozen? ⟨b,0,none⟩=false:=by simp [World.frozen?,R]
 constructor
 ·unfold execOp
  simp only [E,J,I]
  simp [go_sem,stored,Y,hz]
 ·unfold execOp
  simp only [E,J,I]
  simp [go_sem,storedEv,Y,hz]
theorem Oi {u v:Value} (E:w.heap[b]? =some (.cells #[u] ty)):(w.setCell ⟨b,0,none⟩ v).heap[b]? =some (.cells #[v] ty):=by
 simp [World.setCell,bI,E]
def sS (w:World) (b:Nat) (x y z:Value):World:=((w.setCell ⟨b,0,none⟩ x).setCell ⟨b,1,none⟩ y).setCell ⟨b,2,none⟩ z
theorem SC {E I J:Value} (R:w.heap[b]? =some (.cells #[E,I,J] ty)):(sS w b x y z).heap[b]? =some (.cells #[x,y,z] ty):=by
 simp [sS,World.setCell,bI,R]
theorem BJ (w:World) (b:Nat) (x y z:Value):(sS w b x y z).tape=w.tape/\(sS w b x y z).os=w.os/\(sS w b x y z).output=w.output/\(sS w b x y z).heap.size=w.heap.size/\∀c,c≠b->(sS w b x y z).heap[c]? =w.heap[c]?:=by
 obtain ⟨a1,a2,R,a4⟩:=jT w ⟨b,0,none⟩ x
 obtain ⟨I,b2,J,b4⟩:=jT (w.setCell ⟨b,0,none⟩ x) ⟨b,1,none⟩ y
 obtain ⟨Y,c2,c3,c4⟩:=jT ((w.setCell ⟨b,0,none⟩ x).setCell ⟨b,1,none⟩ y) ⟨b,2,none⟩ z
 exact ⟨Y.trans (I.trans a1),c2.trans (b2.trans a2),c3.trans (J.trans R),c4.trans (b4.trans a4),λc E=>by
  unfold sS
  rw [kD (ad:=⟨b,2,none⟩) E,kD (ad:=⟨b,1,none⟩) E,kD (ad:=⟨b,0,none⟩) E]⟩
theorem aax (J:w.heap[b]? =some (.cells #[.int .u32 k1,.int .u32 k2,.string k3] 68)) (h8:a.eval (.tmp 8)=.pointer (some ⟨b,0,none⟩)) (E:a.eval (.tmp 18)=.agg (yY fr ad data)) (I:o.op=.store 68 (.tmp 8) (.tmp 18)):
  (execOp a.eval o).run Tryz.prog w=.ok .skip (sS w b (.int .u32 fr) (.int .u32 ad) (.string data))/\∀e∈(execOp a.eval o).events Tryz.prog w #[],∃k,e=⟨.cell ⟨b,k,none⟩,true,false⟩:=by
 have b1:(w.setCell ⟨b,0,none⟩ (.int .u32 fr)).heap[b]? =some (.cells #[.int .u32 fr,.int .u32 k2,.string k3] 68):=by simp [World.setCell,bI,J]
 have b2:((w.setCell ⟨b,0,none⟩ (.int .u32 fr)).setCell ⟨b,1,none⟩ (.int .u32 ad)).heap[b]? =some (.cells #[.int .u32 fr,.int .u32 ad,.string k3] 68):=by simp [World.setCell,bI,J]
 have c0:w.cell? ⟨b,0,none⟩=some (.int .u32 k1):=by simp [World.cell?,J]
 have z0:w.frozen? ⟨b,0,none⟩=false:=by simp [World.frozen?,J]
 have c1:(w.setCell ⟨b,0,none⟩ (.int .u32 fr)).cell? ⟨b,1,none⟩=some (.int .u32 k2):=by simp [World.cell?,b1]
 have z1:(w.setCell ⟨b,0,none⟩ (.int .u32 fr)).frozen? ⟨b,1,none⟩=false:=by simp [World.frozen?,b1]
 have R:((w.setCell ⟨b,0,none⟩ (.int .u32 fr)).setCell ⟨b,1,none⟩ (.int .u32 ad)).cell? ⟨b,2,none⟩=some (.string k3):=by simp [World.cell?,b2]
 have Y:((w.setCell ⟨b,0,none⟩ (.int .u32 fr)).setCell ⟨b,1,none⟩ (.int .u32 ad)).frozen? ⟨b,2,none⟩=false:=by simp [World.frozen?,b2]
 constructor
 ·unfold execOp
  simp only [I,h8,E]
  simp [go_sem,stored,c0,z0,c1,z1,R,Y,sS]
 ·unfold execOp
  simp only [I,h8,E]
  simp [go_sem,stored,storedEv,c0,z0,c1,z1,R,Y,events_store _ _ _ _ _ _ (show (Value.string data).oneCell'=true from rfl)]
theorem Qo (I:a.eval (.tmp 17)=.pointer (some ⟨tb,q,none⟩)) (E:o.op=.load 68 (.tmp 17)) (R:w.cell? ⟨tb,q,none⟩=some (.int .u32 fr)) (J:w.cell? ⟨tb,q+1,none⟩=some (.int .u32 ad)) (h2:w.cell? ⟨tb,q+2,none⟩=some (.string data)):
  (execOp a.eval o).run Tryz.prog w=.ok (.value (.agg (yY fr ad data))) w:=(X6 R J h2 I E).1
theorem QO (I:e∈listed Tryz.prog fn a o w) (J:a.eval (.tmp 17)=.pointer (some ⟨tb,q,none⟩)) (E:o.op=.load 68 (.tmp 17)) (Y:w.cell? ⟨tb,q,none⟩=some (.int .u32 fr)) (R:w.cell? ⟨tb,q+1,none⟩=some (.int .u32 ad)) (h2:w.cell? ⟨tb,q+2,none⟩=some (.string data)):
  ∃k,e=⟨.cell ⟨tb,k,none⟩,false,false⟩:=(X6 Y R h2 J E).2 e (mem_listed I)
theorem Ri (E:o.op=.alloc 3):(execOp a.eval o).run Tryz.prog w=.ok (.value (.pointer (some ⟨w.heap.size,0,none⟩))) (w.alloc (.cells #[.int .i64 0] 3)):=(aaH E).1
theorem Wv (E:o.op=.alloc 3):listed Tryz.prog fn a o w=#[]:=by unfold listed;rw [(aaH E).2,seen_none]
theorem QT (E:o.op=.alloc 68):(execOp a.eval o).run Tryz.prog w=.ok (.value (.pointer (some ⟨w.heap.size,0,none⟩))) (w.alloc (.cells #[.int .u32 0,.int .u32 0,.string ⟨#[]⟩] 68)):=(aaL E).1
theorem Xv (E:o.op=.alloc 68):listed Tryz.prog fn a o w=#[]:=by unfold listed;rw [(aaL E).2,seen_none]
theorem Ry (J:a.eval (.tmp 7)=.pointer (some ⟨b,0,none⟩)) (I:a.eval (.tmp 16)=.int .i64 j) (E:o.op=.store 3 (.tmp 7) (.tmp 16)) (R:w.heap[b]? =some (.cells #[.int .i64 k] 3)):
  (execOp a.eval o).run Tryz.prog w=.ok .skip (w.setCell ⟨b,0,none⟩ (.int .i64 j)):=(ZX R J I E).1
theorem WG (J:e∈listed Tryz.prog fn a o w) (R:a.eval (.tmp 7)=.pointer (some ⟨b,0,none⟩)) (I:a.eval (.tmp 16)=.int .i64 j) (E:o.op=.store 3 (.tmp 7) (.tmp 16)) (Y:w.heap[b]? =some (.cells #[.int .i64 k] 3)):
  e=⟨.cell ⟨b,0,none⟩,true,false⟩:=by
 have:=mem_listed J
 rw [(ZX Y R I E).2] at this
 simpa using this
theorem RH (J:a.eval (.tmp 8)=.pointer (some ⟨b,0,none⟩)) (E:a.eval (.tmp 18)=.agg (yY fr ad data)) (I:o.op=.store 68 (.tmp 8) (.tmp 18)) (R:w.heap[b]? =some (.cells #[.int .u32 k1,.int .u32 k2,.string k3] 68)):
  (execOp a.eval o).run Tryz.prog w=.ok .skip (sS w b (.int .u32 fr) (.int .u32 ad) (.string data)):=(aax R J E I).1
theorem Xl (R:e∈listed Tryz.prog fn a o w) (J:a.eval (.tmp 8)=.pointer (some ⟨b,0,none⟩)) (E:a.eval (.tmp 18)=.agg (yY fr ad data)) (I:o.op=.store 68 (.tmp 8) (.tmp 18)) (Y:w.heap[b]? =some (.cells #[.int .u32 k1,.int .u32 k2,.string k3] 68)):
  ∃k,e=⟨.cell ⟨b,k,none⟩,true,false⟩:=(aax Y J E I).2 e (mem_listed R)
theorem Nq {S:Who} {R:Option Nat} {K:jV} {es:Array Event} (I:K.W b) (Y:b < w.heap.size) (hC:b≠S.C) (h:∀e∈es,∃k,e=⟨.cell ⟨b,k,none⟩,true,false⟩):Gu S R K w (sS w b x y z) es:=by
 obtain ⟨J,h2,h3,h4,E⟩:=BJ w b x y z
 refine ⟨J,h2,h3,jq h4.symm,λc _ hn _=>E c λe=>hn (e ▸ I),λ⟨cs,a,d⟩=>⟨cs,(E _ (Ne.symm hC)).trans a,d⟩,λi _=>cell_of_block (E _ (Ne.symm hC)) i,λe he=>?_⟩
 obtain ⟨k,rfl⟩:=h e he
 exact .inl (.inl ⟨_,true,rfl,.inl (by simpa using I),by rw [h4];exact Y⟩)
end
end
end Cr
end Go.Proofs.YtpibpdpedjinhaaGreatDoor
