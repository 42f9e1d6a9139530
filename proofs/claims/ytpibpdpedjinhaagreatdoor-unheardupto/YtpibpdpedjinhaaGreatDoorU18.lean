import Derived.Test.YtpibpdpedjinhaaGreatDoorU17
import Derived.Maps.RangeWalk
import Derived.Maps.OwnOps
import Derived.Lib.BitFns
set_option maxRecDepth 100000
namespace Go.Proofs.YtpibpdpedjinhaaGreatDoor.Po
open Go Go.Conc
open Cr (Fill fills BP)
section
variable {id:Nat} {c:Code} {v:Value}
section
variable {D:Nat->Prop} {Post:Eh} {Z A:List Frame} {fr:Frame} {x y:World} {b:Frame} {a:Act} {k:List Item} {ops:Array Oper} {i:Nat} {rest:List Nat} {o:Oper}
theorem Wq.same (h:∀t d,on x t d=on y t d) (hk:Wq D Post Z fr A y):Wq D Post Z fr A x:=Wk.Yd (t:=y.tape) (d:=y.drawn) (by rw [h];exact hk.BR _ _)
theorem Wq.skip (h:Wq D Post Z (b.at a k) A x):Wq D Post Z (b.at a (.code .skip::k)) A x:=Wk.skip (fits D) h
theorem Wq.block (h:Wq D Post Z (b.at a (.code c::.inBlock id::k)) A x):Wq D Post Z (b.at a (.code (.block id c)::k)) A x:=Wk.block (fits D) h
theorem Wq.inBlock (h:Wq D Post Z (b.at a k) A x):Wq D Post Z (b.at a (.inBlock id::k)) A x:=Wk.inBlock (fits D) h
theorem Wq.exit {k':List Item} (hk:exitTo id k=.some k') (h:Wq D Post Z (b.at a k') A x):Wq D Post Z (b.at a (.code (.exit id)::k)) A x:=Wk.exit (fits D) hk h
theorem Wq.loop (h:Wq D Post Z (b.at a (.code c::.inLoop c::k)) A x):Wq D Post Z (b.at a (.code (.loop c)::k)) A x:=Wk.ctl (fits D) (λ_=>step_loop) h
theorem Wq.inLoop (h:Wq D Post Z (b.at a (.code c::.inLoop c::k)) A x):Wq D Post Z (b.at a (.inLoop c::k)) A x:=Wk.ctl (fits D) (λ_=>step_inLoop) h
theorem Wq.val {x':World} (z:ops[i]? =.some o) (I:o.guard=none) (E:∀t d,(execOp a.eval o).run PQ (on x t d)=.ok (.value v) (on x' t d)) (h:Wq D Post Z (b.at (a.put o.dst v) (.inRegion ops rest::k)) A x'):Wq D Post Z (b.at a (.inRegion ops (i::rest)::k)) A x:=by
 refine Wq.op λt d=>?_
 unfold wpOp
 rw [z]
 simp only [Region.wanted,I,if_true]
 refine .inl ?_
 unfold Oper.wp
 rw [E t d]
 exact h.BR t d
theorem Wq.zF (op:Op) (dst:Option Tmp) (v:Value) (x':World) (z:(ops[i]?).map (λo=>(o.op,o.dst,o.guard))=.some (op,dst,none)) (I:∀t d (o:Oper),o.op=op->(execOp a.eval o).run PQ (on x t d)=.ok (.value v) (on x' t d)) (h:Wq D Post Z (b.at (a.put dst v) (.inRegion ops rest::k)) A x'):Wq D Post Z (b.at a (.inRegion ops (i::rest)::k)) A x:=by
 cases E:ops[i]? with
 |none=>rw [E] at z;cases z
 |some o=>
  rw [E] at z
  simp only [bQ,aC,dA] at z
  obtain ⟨J,rfl,h3⟩:=z
  exact Wq.val E h3 (λt d=>I t d o J) h
theorem Wq.walk (h:∀t d (Q:Exit->Act->World->Prop),(∀a' w',Wq D Post Z (b.at a' k) A w'->Q .normal a' w')->(∀a' w',(∀todo,Wq D Post Z { b.at a' todo with mode:=.returning } A w')->Q .ret a' w')->c.wp PQ Q a (on x t d)):Wq D Post Z (b.at a (.code c::k)) A x:=
 Wq.code λt d=>h t d _ (λ_ _ h=>h) (λ_ _ h=>h)
theorem Wq.fill {τ:Type} {aa:Nat} (V:τ->Nat->Value) (J:Array Bool->World->(Nat->Prop)->τ->Prop) (hf:fills a.tmps.size ops=true)
  (done:∀l a' x' R z,(∀i,i < ops.size->l.getD i false=true)->Fill ops (V z) a l a'->J l x' R z->Wq R Post Z (b.at a' k) A x')
  (more:∀l a' x' R z i o rest,ops[i]? =.some o->l.getD i true=false->(∀j,Cr.waits ops i j=true->l.getD j false=true)->Fill ops (V z) a l a'->J l x' R z->(∀E I Y,(∀j,l.getD j false=true->V Y j=V z j)->J (l.setIfInBounds i true) E I Y->Wq I Post Z (b.at (a'.put o.dst (V Y i)) (.inRegion ops rest::k)) A E)->Wq R Post Z (b.at a' (.inRegion ops (i::rest)::k)) A x')
  (z:τ) (h:J (Array.replicate ops.size false) x D z):Wq D Post Z (b.at a (.code (.region aa ops true)::k)) A x:=
 Wq.draw λt=>BP (σ:=World×(Nat->Prop)×τ) (λs=>V s.2.2) (λl s=>J l s.1 s.2.1 s.2.2) (λrest a s=>Wq s.2.1 Post Z (b.at a (.inRegion ops rest::k)) A s.1) hf (λl a _ h1 h2 h3=>Wq.done (done l a _ _ _ h1 h2 h3)) (λl a _ i o rest h1 h2 h3 h4 h5 h6=>more l a _ _ _ i o rest h1 h2 h3 h4 h5 λx D z h7 h8=>h6 (x,D,z) h7 h8) _ t (x,D,z) h
theorem Wq.last {fn:Func} (z:fr.mode=.returning) (hd:fr.defers=[]) (hk:fr.kind=.normal) (E:Tryz.prog.funcs[fr.fn]? =.some fn) (R:Tryz.prog.inits.idxOf? fr.fn=none) (J:∀w,(results fn fr.tmps).run Tryz.prog w=.ok v w) (I:∀w,(results fn fr.tmps).events Tryz.prog w #[]=#[]) (hp:∀y,WP (qe Tryz.prog.funcs D) x y->Keep (qe Tryz.prog.funcs D) Post y->Post.post v y):Wq D Post [] fr [] x:=by
 refine Wk.last z hd hk E ?_ ?_ ?_ hp<;>rewrite [Xu]<;>assumption
end
end
end Go.Proofs.YtpibpdpedjinhaaGreatDoor.Po
namespace Go.Proofs.YtpibpdpedjinhaaGreatDoor.Hm
open Go.ChangeMaps (setBlock)
open Go.MapKept (heap_set)
section
variable {q:IntKind} {k j:Nat} {v:Value}
abbrev AL:=List (Nat×Value)
variable {m:AL}
def lJ (m:AL) (k:Nat):Option Value:=(m.find? (λp=>p.1 == k)).map Prod.snd
def uw (m:AL) (k:Nat) (v:Value):AL:=if k∈m.map Prod.fst then m.map (λp=>if p.1=k then (k,v) else p) else m++[(k,v)]
def ql (m:AL) (k:Nat):AL:=m.filter (λp=>p.1 != k)
def entryOf (q:IntKind) (e:MapEntry) (p:Nat×Value):Prop:=e.key=.int q p.1/\e.val=p.2
inductive mV (q:IntKind):List MapEntry->AL->Prop
 |nil:mV q [] []
 |cons {e:MapEntry} {p:Nat×Value} {es:List MapEntry} {m:AL}:entryOf q e p->mV q es m->mV q (e::es) (p::m)
def lD (w:World) (B:Nat) (q:IntKind) (m:AL):Prop:=
 ∃es z,w.heap[B]? =some (.map es z)/\mV q es.toList m/\(m.map Prod.fst).Nodup/\(es.toList.map (·.born)).Nodup/\∀e,e∈es.toList->e.born < z
theorem mV.length:∀{es:List MapEntry} {m:AL},mV q es m->es.length=m.length
 |_,_,.nil=>rfl
 |_,_,.cons _ h=>by simp [h.length]
theorem mV.append:∀{es z:List MapEntry} {m E:AL},mV q es m->mV q z E->mV q (es++z) (m++E)
 |_,_,_,_,.nil,h'=>h'
 |_,_,_,_,.cons a h,h'=>.cons a (h.append h')
theorem mV.mem:∀{es:List MapEntry} {m:AL} {e:MapEntry},mV q es m->e∈es->∃p,p∈m/\entryOf q e p
 |_,_,_,.nil,h=>by simp at h
 |_,_,_,.cons a hr,h=>by
  rcases bV.1 h with rfl|h
  ·exact ⟨_,by simp,a⟩
  ·obtain ⟨p,hp,z⟩:=hr.mem h
   exact ⟨p,by simp [hp],z⟩
theorem mV.mem':∀{es:List MapEntry} {m:AL} {p:Nat×Value},mV q es m->p∈m->∃e,e∈es/\entryOf q e p
 |_,_,_,.nil,h=>by simp at h
 |_,_,_,.cons a hr,h=>by
  rcases bV.1 h with rfl|h
  ·exact ⟨_,by simp,a⟩
  ·obtain ⟨p,hp,z⟩:=hr.mem' h
   exact ⟨p,by simp [hp],z⟩
theorem oQ {q:IntKind} (k:Nat):∀{es:List MapEntry} {m:AL} (i:Nat),mV q es m->
  (k∉m.map Prod.fst/\Instr.findNow (.int q) (.int q k) es i=some none/\lJ m k=none/\ql m k=m)\/
  ∃j v,Instr.findNow (.int q) (.int q k) es i=some (some (i+j,v))/\m[j]? =some (k,v)/\lJ m k=some v
 |_,_,i,.nil=>.inl ⟨by simp,rfl,rfl,rfl⟩
 |_,_,i,.cons (e:=e) (p:=p) (es:=es) (m:=m) a hr=>by
  obtain ⟨pk,R⟩:=p
  obtain ⟨hk,J⟩:=a
  simp only at hk J
  by_cases z:pk=k
  ·subst z
   refine .inr ⟨0,R,?_,by simp,by simp [lJ]⟩
   simp [Instr.findNow,Instr.sameNow,hk,J]
  ·have E:((k:Int) == (pk:Int))=false:=beq_false_of_ne (by omega)
   have hs:Instr.sameNow (.int q) (.int q (k:Int)) e.key=some false:=by rw [hk];simp [Instr.sameNow,E]
   rcases oQ k (i+1) hr with ⟨I,h2,h3,h4⟩|⟨j,v,I,h2,h3⟩
   ·refine .inl ⟨?_,?_,?_,?_⟩
    ·simp only [dW,bV,not_or]
     exact ⟨λe=>z e.symm,I⟩
    ·unfold Instr.findNow;rw [hs];exact h2
    ·unfold lJ at h3⊢
     rw [iy]
     simp only [show (pk == k)=false from beq_false_of_ne z]
     exact h3
    ·unfold ql at h4⊢
     rw [dU,if_pos (by simp [z]),h4]
   ·refine .inr ⟨j+1,v,?_,by simpa using h2,?_⟩
    ·unfold Instr.findNow;rw [hs];simp only;rw [I];congr 3;omega
    ·unfold lJ at h3⊢
     rw [iy]
     simp only [show (pk == k)=false from beq_false_of_ne z]
     exact h3
theorem mV.set:∀{es:List MapEntry} {m:AL} (j:Nat) (f:MapEntry->MapEntry),mV q es m->(∀e,entryOf q (f e) (k,v))->mV q (es.modify j f) (m.set j (k,v))
 |_,_,j,f,.nil,hf=>by simpa using mV.nil
 |_,_,0,f,.cons a hr,hf=>by simpa using mV.cons (hf _) hr
 |_,_,j+1,f,.cons a hr,hf=>by simpa using mV.cons a (hr.set j f hf)
theorem TF {v':Value} (hn:(m.map Prod.fst).Nodup) (hj:m[j]? =some (k,v)):m.set j (k,v')=uw m k v':=by
 have R:k∈m.map Prod.fst:=bC.2 ⟨_,aQ hj,rfl⟩
 unfold uw
 rw [if_pos R]
 refine List.ext_getElem? (λi=>?_)
 rw [iK,eX]
 obtain ⟨E,Y⟩:=aF.1 hj
 by_cases I:j=i
 ·subst I
  rw [if_pos rfl,if_pos E,hj]
  simp
 ·rw [if_neg I]
  cases hi:m[i]? with
  |none=>rfl
  |some p=>
   have:p.1≠k:=λe=>by
    obtain ⟨aa,J⟩:=aF.1 hi
    have hp:List.Pairwise (·≠·) (m.map Prod.fst):=hn
    rw [iq] at hp
    rcases Nat.lt_or_gt_of_ne I with z|z
    ·exact hp j i (by simpa using E) (by simpa using aa) z (by simp [Y,J,e])
    ·exact hp i j (by simpa using aa) (by simpa using E) z (by simp [Y,J,e])
   simp [this]
theorem AB (Y:(m.map Prod.fst).Nodup) (I:m[j]? =some (k,v)):m.eraseIdx j=ql m k:=by
 induction m generalizing j with
 |nil=>simp at I
 |cons p m ih=>
  have z:=iw.1 (by simpa using Y:(p.1::m.map Prod.fst).Nodup)
  cases j with
  |zero=>
   simp at I
   subst I
   have:ql m k=m:=iP.2 (λx R=>by
    simp only [bne_iff_ne,ne_eq]
    exact λe=>z.1 (bC.2 ⟨x,R,e⟩))
   unfold ql at this⊢
   rw [dU,if_neg (by simp),this]
   rfl
  |succ j=>
   have E:m[j]? =some (k,v):=by simpa using I
   have J:p.1≠k:=λe=>z.1 (bC.2 ⟨_,aQ E,e.symm⟩)
   have:=ih z.2 E
   unfold ql at this⊢
   rw [List.eraseIdx_cons_succ,dU,if_pos (by simp [J]),this]
theorem mV.erase:∀{es:List MapEntry} {m:AL} (j:Nat),mV q es m->mV q (es.eraseIdx j) (m.eraseIdx j)
 |_,_,j,.nil=>by simpa using mV.nil
 |_,_,0,.cons a hr=>by simpa using hr
 |_,_,j+1,.cons a hr=>by simpa using mV.cons a (hr.erase j)
theorem DC (E:(m.map Prod.fst).Nodup):((uw m k v).map Prod.fst).Nodup:=by
 unfold uw
 split
 ·rw [jr]
  have:(Prod.fst∘λp:Nat×Value=>if p.1=k then (k,v) else p)=Prod.fst:=by
   funext p
   simp only [Function.comp]
   split
   ·rename_i h;exact h.symm
   ·rfl
  rw [this]
  exact E
 ·rename_i h
  rw [aY]
  refine List.nodup_append.2 ⟨E,by simp,λa I b z e=>?_⟩
  simp at z
  subst z
  exact h (e ▸ I)
theorem tX (z:(m.map Prod.fst).Nodup):((ql m k).map Prod.fst).Nodup:=by
 unfold ql
 exact (List.filter_sublist.map _).nodup z
section
variable {P:Program} {w:World} {B:Nat} {q:IntKind} {m:AL} {t kt e:TypeId}
theorem nD {z:Bool} {k:Int} (hk:P.underlying kt=some (.int q)):(Instr.checkKey z 10000 kt (.int q k)).run P w=.ok () w:=by
 refine MapKept.run_checkKey hk ?_ z 9999
 simp [MapKept.IsKey]
theorem oD {es:List MapEntry} {r:Option (Nat×Value)} (hk:P.underlying kt=some (.int q)) (h:Instr.findNow (.int q) (.int q k) es 0=some r):(Instr.findKey kt (.int q k) es).run P w=.ok r w:=by
 simp [Instr.findKey,run_underlying hk,Result.andThen,h]
theorem lD.lookup (h:lD w B q m) (ht:P.underlying t=some (.map kt e)) (hk:P.underlying kt=some (.int q)) {z:Value} (Y:(zeroValue e).run P w=.ok z w) (k:Nat) (ok:Bool):
  (Instr.lookup t (.map (some B)) (.int q k) ok).run P w=.ok (if ok then .tuple #[(lJ m k).getD z,.bool (lJ m k).isSome] else (lJ m k).getD z) w:=by
 obtain ⟨es,E,J,R,_⟩:=h
 rcases oQ k 0 R with ⟨I,h2,h3,_⟩|⟨j,v,I,h2,h3⟩
 ·rw [h3]
  cases ok<;>simp [Instr.lookup,run_underlying ht,MapKept.run_getObj_map J,nD hk,oD hk h2,Y,Result.andThen]
 ·rw [h3]
  cases ok<;>simp [Instr.lookup,run_underlying ht,MapKept.run_getObj_map J,nD hk,oD hk I,Result.andThen]
theorem oZ {o o':Obj} (E:w.heap[B]? =some o):w.grownBy (setBlock w B o') (some B)/\(setBlock w B o').heap.size=w.heap.size:=
 ⟨⟨rfl,rfl,rfl,by simp [setBlock],λi _ I=>(heap_set E).2 i (λz=>I (by rw [z]))⟩,by simp [setBlock]⟩
theorem lD.update (h:lD w B q m) (ht:P.underlying t=some (.map kt e)) (hk:P.underlying kt=some (.int q)) (k:Nat) (v:Value):
  ∃w',(Instr.mapUpdate t (.map (some B)) (.int q k) v).run P w=.ok () w'/\lD w' B q (uw m k v)/\w.grownBy w' (some B)/\w'.heap.size=w.heap.size:=by
 obtain ⟨es,z,I,he,hn,aa,J⟩:=h
 rcases oQ k 0 he with ⟨h1,h2,h3,_⟩|⟨j,v0,h1,h2,h3⟩
 ·refine ⟨setBlock w B (.map (es.push ⟨.int q k,v,z⟩) (z+1)),?_,⟨_,_,(heap_set I).1,?_,DC hn,?_,?_⟩,oZ I⟩
  ·simp [Instr.mapUpdate,run_underlying ht,MapKept.run_getObj_map I,nD hk,oD hk h2,MapKept.run_setObj_map _ I,Result.andThen,setBlock]
  ·rw [Array.toList_push]
   unfold uw
   rw [if_neg h1]
   exact he.append (.cons ⟨rfl,rfl⟩ .nil)
  ·rw [Array.toList_push,aY]
   refine List.nodup_append.2 ⟨aa,by simp,λa ha b ag e=>?_⟩
   simp at ag
   obtain ⟨x,E,rfl⟩:=bC.1 ha
   have:=J x E
   omega
  ·intro x E
   rw [Array.toList_push] at E
   rcases dG.1 E with E|E
   ·have:=J x E;omega
   ·simp at E;subst E;simp
 ·rw [fC] at h1
  have ab:j < es.toList.length:=by rw [he.length];exact (aF.1 h2).1
  have ah:j < es.size:=by simpa using ab
  obtain ⟨R,Y⟩:∃R,es.toList[j]? =some R:=⟨_,aG ab⟩
  have ac:R.key=.int q k:=by
   have:∀{l:List MapEntry} {mm:AL} (i:Nat),mV q l mm->l[i]? =some R->mm[i]? =some (k,v0)->R.key=.int q k:=by
    intro l mm i hl
    induction hl generalizing i with
    |nil=>intro h;simp at h
    |cons a hr ih=>
     cases i with
     |zero=>intro h h';simp at h h';subst h;subst h';exact a.1
     |succ i=>intro h h';exact ih i (by simpa using h) (by simpa using h')
   exact this j he Y h2
  have af:es[j]? =some R:=by simpa using Y
  refine ⟨setBlock w B (.map (es.modify j λe=>{ e with key:=.int q k,val:=v }) z),?_,⟨_,_,(heap_set I).1,?_,DC hn,?_,?_⟩,oZ I⟩
  ·have ae:(Instr.keyThatStays (.int q (k:Int)) (.int q (k:Int))).run P w=.ok (.int q (k:Int)) w:=by simp [Instr.keyThatStays,Instr.sameBits]
   simp [Instr.mapUpdate,run_underlying ht,MapKept.run_getObj_map I,nD hk,oD hk h1,MapKept.run_setObj_map _ I,Result.andThen,setBlock,af,ac,ae]
  ·rw [Array.toList_modify,<-TF hn h2]
   exact he.set j _ (λ_=>⟨rfl,rfl⟩)
  ·rw [Array.toList_modify]
   have:∀(l:List MapEntry) (i:Nat),(l.modify i λe=>{ e with key:=.int q k,val:=v }).map (·.born)=l.map (·.born):=by
    intro l
    induction l with
    |nil=>intro i;simp
    |cons a l ih=>intro i;cases i with
     |zero=>simp
     |succ i=>simp [ih]
   rw [this]
   exact aa
  ·intro x E
   rw [Array.toList_modify] at E
   have:∀(l:List MapEntry) (i:Nat),x∈(l.modify i λe=>{ e with key:=.int q k,val:=v })->∃y,y∈l/\y.born=x.born:=by
    intro l
    induction l with
    |nil=>intro i h;simp at h
    |cons a l ih=>intro i h;cases i with
     |zero=>
      simp at h
      rcases h with rfl|h
      ·exact ⟨a,by simp,rfl⟩
      ·exact ⟨x,by simp [h],rfl⟩
     |succ i=>
      simp at h
      rcases h with rfl|h
      ·exact ⟨x,by simp,rfl⟩
      ·obtain ⟨y,hy,e⟩:=ih i h
       exact ⟨y,by simp [hy],e⟩
   obtain ⟨y,hy,e⟩:=this _ _ E
   rw [<-e]
   exact J y hy
theorem oJ (es:Array MapEntry) (j:Nat) (z:j < es.size):(es.eraseIdxIfInBounds j).toList=es.toList.eraseIdx j:=by
 unfold Array.eraseIdxIfInBounds
 rw [dif_pos z]
 simp
theorem lD.delete (h:lD w B q m) (ht:P.underlying t=some (.map kt e)) (hk:P.underlying kt=some (.int q)) (k:Nat) (ty:TypeId):
  ∃w',(Builtin.delete_ #[t,kt] ty #[.map (some B),.int q k]).run P w=.ok (.tuple #[]) w'/\lD w' B q (ql m k)/\w.grownBy w' (some B)/\w'.heap.size=w.heap.size:=by
 obtain ⟨es,z,E,Y,hn,J,R⟩:=h
 rcases oQ k 0 Y with ⟨h1,h2,h3,h4⟩|⟨j,v0,h1,h2,h3⟩
 ·refine ⟨setBlock w B (.map es z),?_,⟨_,_,(heap_set E).1,by rw [h4];exact Y,tX hn,J,R⟩,oZ E⟩
  simp [Builtin.delete_,run_underlying ht,MapKept.run_getObj_map E,nD hk,oD hk h2,MapKept.run_setObj_map _ E,Result.andThen,setBlock]
 ·rw [fC] at h1
  have I:j < es.size:=by
   have:j < es.toList.length:=by rw [Y.length];exact (aF.1 h2).1
   simpa using this
  refine ⟨setBlock w B (.map (es.eraseIdxIfInBounds j) z),?_,⟨_,_,(heap_set E).1,?_,tX hn,?_,?_⟩,oZ E⟩
  ·simp [Builtin.delete_,run_underlying ht,MapKept.run_getObj_map E,nD hk,oD hk h1,MapKept.run_setObj_map _ E,Result.andThen,setBlock]
  ·rw [oJ es j I,<-AB hn h2]
   exact Y.erase j
  ·rw [oJ es j I]
   exact ((List.eraseIdx_sublist _ _).map _).nodup J
  ·intro x hx
   rw [oJ es j I] at hx
   exact R x ((List.eraseIdx_sublist _ _).subset hx)
theorem lD.len (h:lD w B q m) (ht:P.underlying t=some (.map kt e)) (ty:TypeId):(Builtin.len_ #[t] ty #[.map (some B)]).run P w=.ok (goInt m.length) w:=by
 obtain ⟨es,z,I,E,_⟩:=h
 have:es.size=m.length:=by rw [<-E.length];simp
 simp [Builtin.len_,run_underlying ht,MapKept.run_getObj_map I,Result.andThen,this]
theorem lD.len_nil (ht:P.underlying t=some (.map kt e)) (ty:TypeId):(Builtin.len_ #[t] ty #[.map none]).run P w=.ok (goInt 0) w:=by
 simp [Builtin.len_,run_underlying ht,Result.andThen]
theorem lD.lt (h:lD w B q m):B < w.heap.size:=by
 obtain ⟨es,z,E,_⟩:=h
 exact (jE E)
theorem lD.of_block {w':World} (h:lD w B q m) (I:w'.heap[B]? =w.heap[B]?):lD w' B q m:=by
 obtain ⟨es,z,E,r⟩:=h
 exact ⟨es,z,I.trans E,r⟩
theorem lD.made (w:World) (q:IntKind):lD (w.alloc (.map #[] 0)) w.heap.size q []:=⟨#[],0,(MapKept.heap_alloc w _).1,.nil,by simp,by simp,by simp⟩
end
end
section
variable {es:List MapEntry} {x y:MapEntry}
def kT (w:World) (B r:Nat) (q:IntKind) (m:AL) (L:Nat->Bool) (cnt:Nat):Prop:=
 ∃es E z seen c0,w.heap[B]? =some (.map es E)/\mV q es.toList m/\(m.map Prod.fst).Nodup/\(es.toList.map (·.born)).Nodup/\(∀e,e∈es.toList->e.born < E)/\
  w.heap[r]? =some (.mapIter (some B) z seen c0)/\(∀e,e∈es.toList->e.born < z)/\z<=c0/\z<=E/\(leftOf es seen).size=cnt/\
  (∀e k,e∈es.toList->e.key=.int q (k:Nat)->L k=!seen.contains e.born)/\∀k,L k=true->k∈m.map Prod.fst
section
variable {P:Program} {w:World} {B r:Nat} {q:IntKind} {m:AL} {L:Nat->Bool} {cnt:Nat} {t kt e:TypeId}
theorem kT.Vy (h:kT w B r q m L cnt):lD w B q m:=by
 obtain ⟨es,z,E,seen,c0,I,h2,h3,h4,J,_⟩:=h
 exact ⟨es,z,I,h2,h3,h4,J⟩
theorem kT.lt (h:kT w B r q m L cnt):r < w.heap.size:=by
 obtain ⟨es,E,z,seen,c0,J,h2,h3,h4,R,I,_⟩:=h
 exact (jE I)
theorem kT.ne (h:kT w B r q m L cnt):r≠B:=by
 obtain ⟨es,E,z,seen,c0,J,h2,h3,h4,R,I,_⟩:=h
 intro e
 rw [e,J] at I
 cases I
theorem kT.DT {w':World} (h:kT w B r q m L cnt) (hb:w'.heap[B]? =w.heap[B]?) (J:w'.heap[r]? =w.heap[r]?):kT w' B r q m L cnt:=by
 obtain ⟨es,E,z,seen,c0,R,h2,h3,h4,h5,I,Y⟩:=h
 exact ⟨es,E,z,seen,c0,hb.trans R,h2,h3,h4,h5,J.trans I,Y⟩
theorem lD.range (h:lD w B q m) (ht:P.underlying t=some (.map kt e)):
  ∃w',(Instr.range t (.map (some B))).run P w=.ok (.pointer (some ⟨w.heap.size,0,none⟩)) w'/\kT w' B w.heap.size q m (λk=>decide (k∈m.map Prod.fst)) m.length/\w.grownBy w' none/\w'.heap.size=w.heap.size+1:=by
 have I:=h.lt
 obtain ⟨es,z,Y,R,hn,J,E⟩:=h
 refine ⟨_,run_range_map w t kt e B es z ht Y,⟨es,z,z,#[],z,((MapKept.heap_alloc w _).2 B I).trans Y,R,hn,J,E,(MapKept.heap_alloc w _).1,E,jC,jC,?_,?_,?_⟩,World.grownBy_alloc w _ none,by simp⟩
 ·simp [leftOf,<-R.length]
 ·intro x k hx hk
  obtain ⟨p,hp,h1,h2⟩:=R.mem hx
  rw [hk] at h1
  simp only [Value.int.injEq,true_and] at h1
  have:k=p.1:=by omega
  subst this
  simp only [decide_eq_true (bC.2 ⟨p,hp,rfl⟩)]
  simp
 ·intro k hk
  exact of_decide_eq_true hk
theorem mV.key_inj {m:AL} (h:mV q es m) (hn:(m.map Prod.fst).Nodup) (Y:x∈es) (E:y∈es) (hk:x.key=y.key):x=y:=by
 induction h with
 |nil=>simp at Y
 |cons a hr ih=>
  rename_i e0 p J m0
  have I:=iw.1 (by simpa using hn:(p.1::m0.map Prod.fst).Nodup)
  have far:∀z,z∈J->z.key=e0.key->False:=λz hz e=>by
   obtain ⟨p',hp',R,_⟩:=hr.mem hz
   rw [e,a.1] at R
   simp only [Value.int.injEq,true_and] at R
   have:p.1=p'.1:=by omega
   exact I.1 (this ▸ bC.2 ⟨p',hp',rfl⟩)
  rcases bV.1 Y with rfl|aa
  ·rcases bV.1 E with rfl|E
   ·rfl
   ·exact (far y E hk.symm).elim
  ·rcases bV.1 E with rfl|E
   ·exact (far x (by assumption) hk).elim
   ·exact ih I.2 (by assumption) E
theorem mV.lJ {m:AL} (h:mV q es m) (hn:(m.map Prod.fst).Nodup) {p:Nat×Value} (hp:p∈m):Hm.lJ m p.1=some p.2:=by
 rcases oQ p.1 0 h with ⟨h1,_⟩|⟨j,v,_,h2,h3⟩
 ·exact (h1 (bC.2 ⟨p,hp,rfl⟩)).elim
 ·rw [h3]
  have hm:=aQ h2
  obtain ⟨i,Y,rfl⟩:=List.getElem_of_mem hp
  obtain ⟨J,E⟩:=aF.1 h2
  have I:List.Pairwise (·≠·) (m.map Prod.fst):=hn
  rw [iq] at I
  by_cases R:i=j
  ·subst R;rw [E]
  ·rcases Nat.lt_or_gt_of_ne R with z|z
   ·exact (I i j (by simpa using Y) (by simpa using J) z (by simp [E])).elim
   ·exact (I j i (by simpa using J) (by simpa using Y) z (by simp [E])).elim
theorem SN (J:(es.map (·.born)).Nodup) (R:x∈es) (E:y∈es) (h:x.born=y.born):x=y:=by
 induction es with
 |nil=>simp at R
 |cons a l ih=>
  have z:=iw.1 (by simpa using J:(a.born::l.map (·.born)).Nodup)
  rcases bV.1 R with rfl|I
  ·rcases bV.1 E with rfl|E
   ·rfl
   ·exact (z.1 (h ▸ bC.2 ⟨y,E,rfl⟩)).elim
  ·rcases bV.1 E with rfl|E
   ·exact (z.1 (h ▸ bC.2 ⟨x,I,rfl⟩)).elim
   ·exact ih z.2 I E
theorem kT.next (h:kT w B r q m L cnt) (ty:TypeId):
  (cnt=0/\(∀k,L k=false)/\(Instr.next (.pointer (some ⟨r,0,none⟩)) false ty).run P w=.ok (.tuple #[.bool false]) w)\/
  ∃(k:Nat) (v:Value) (w':World) (ac:Nat),L k=true/\(k,v)∈m/\Hm.lJ m k=some v/\(Instr.next (.pointer (some ⟨r,0,none⟩)) false ty).run P w=.ok (.tuple #[.bool true,.int q k,v]) w'/\
   kT w' B r q m (λx=>L x&&x != k) ac/\ac < cnt/\w.grownBy w' (some r)/\w'.heap.size=w.heap.size/\(Instr.entry (.pointer (some ⟨r,0,none⟩))).run P w'=.ok (.tuple #[.int q k,v]) w':=by
 have am:=h.ne
 obtain ⟨es,z,E,seen,c0,hb,he,hn,ae,ar,hr,hold,aq,ag,rfl,af,ah⟩:=h
 rcases run_next_at (P:=P) w ty r B E c0 seen es z hr hb hold aq with ⟨h0,I⟩|⟨x,hx,w1,aa,I⟩
 ·refine .inl ⟨h0,λk=>?_,I⟩
  cases hk:L k
  ·rfl
  ·obtain ⟨p,hp,rfl⟩:=bC.1 (ah k hk)
   obtain ⟨y,hy,an,av⟩:=he.mem' hp
   rw [af y p.1 hy an,all_seen es seen h0 y hy] at hk
   cases hk
 ·obtain ⟨Y,ao⟩:=mem_left hx
  obtain ⟨p,hp,R,aj⟩:=he.mem Y
  have ap:w1.heap[r]? =some (.mapIter (some B) E seen c0):=by rcases aa with rfl|rfl<;>exact hr
  have au:w1.heap[B]? =some (.map es z):=by rcases aa with rfl|rfl<;>exact hb
  have J:=heap_set (o':=.mapIter (some B) E (seen.push x.born) z) ap
  have ak:(setBlock w1 r (.mapIter (some B) E (seen.push x.born) z)).heap[B]? =some (.map es z):=(J.2 B (λe1=>am e1.symm)).trans au
  rw [R,aj] at I
  have ai:=run_entry_at (P:=P) _ r B E seen es z x J.1 ak Y ae
  rw [R,aj] at ai
  refine .inr ⟨p.1,p.2,_,_,by rw [af x p.1 Y R,ao];rfl,hp,he.lJ hn hp,I,
   ⟨es,z,E,seen.push x.born,z,ak,he,hn,ae,ar,J.1,hold,ag,ag,rfl,λy k hy hk=>?_,λk hk=>ah k (by simp at hk;exact hk.1)⟩,left_shrinks es seen x hx,?_,?_,ai⟩
  ·show (L k&&k != p.1)=_
   rw [af y k hy hk,contains_push]
   have:(k != p.1)=!(y.born == x.born):=by
    by_cases ab:k=p.1
    ·have:y=x:=he.key_inj hn hy Y (by rw [hk,R,ab])
     rw [ab,this];simp only [bne_self_eq_false,beq_self_eq_true,Bool.not_true]
    ·have:y.born≠x.born:=λe1=>ab (by
      have:=SN ae hy Y e1
      rw [this,R] at hk
      have:=(Value.int.inj hk).2
      omega)
     rw [beq_false_of_ne this,(bne_iff_ne.2 ab:(k != p.1)=true)]
     rfl
   rw [this]
   cases seen.contains y.born<;>cases (y.born == x.born)<;>rfl
  ·rcases aa with rfl|rfl<;>exact ⟨rfl,rfl,rfl,by simp [setBlock],λi _ hi=>J.2 i (λe1=>hi (by rw [e1]))⟩
  ·rcases aa with rfl|rfl<;>simp [setBlock]
theorem DK (a:Array MapEntry) (seen:Array Nat):(leftOf a seen).size=(a.toList.filter λe=>!seen.contains e.born).length:=by
 unfold leftOf
 rw [<-Array.toList_filter,jk]
theorem kT.delete (h:kT w B r q m L cnt) (ht:P.underlying t=some (.map kt e)) (hk:P.underlying kt=some (.int q)) (k:Nat) (ty:TypeId):
  ∃w' ab,(Builtin.delete_ #[t,kt] ty #[.map (some B),.int q k]).run P w=.ok (.tuple #[]) w'/\kT w' B r q (ql m k) (λx=>L x&&x != k) ab/\ab<=cnt/\w.grownBy w' (some B)/\w'.heap.size=w.heap.size:=by
 have ae:=h.ne
 obtain ⟨es,z,aa,seen,c0,hb,he,hn,af,ak,hr,hold,aj,ac,rfl,ai,ag⟩:=h
 rcases oQ k 0 he with ⟨h1,h2,h3,h4⟩|⟨j,v0,h1,h2,h3⟩
 ·have I:=heap_set (o':=.map es z) hb
  refine ⟨setBlock w B (.map es z),_,?_,⟨es,z,aa,seen,c0,I.1,by rw [h4];exact he,tX hn,af,ak,(I.2 r ae).trans hr,hold,aj,ac,rfl,λy k' hy E=>?_,λk' E=>?_⟩,jC,oZ hb⟩
  ·simp [Builtin.delete_,run_underlying ht,MapKept.run_getObj_map hb,nD hk,oD hk h2,MapKept.run_setObj_map _ hb,Result.andThen,setBlock]
  ·show (L k'&&k' != k)=_
   rw [ai y k' hy E]
   have:k'≠k:=λe1=>by
    obtain ⟨p,hp,Y,_⟩:=he.mem hy
    rw [E] at Y
    simp only [Value.int.injEq,true_and] at Y
    exact h1 (bC.2 ⟨p,hp,by omega⟩)
   simp [this]
  ·rw [h4];simp at E;exact ag k' E.1
 ·rw [fC] at h1
  have an:j < es.toList.length:=by rw [he.length];exact (aF.1 h2).1
  have am:j < es.size:=by simpa using an
  have I:=heap_set (o':=.map (es.eraseIdxIfInBounds j) z) hb
  have J:=List.eraseIdx_sublist es.toList j
  have R:=oJ es j am
  have ah:mV q (es.eraseIdxIfInBounds j).toList (ql m k):=by rw [R,<-AB hn h2];exact he.erase j
  refine ⟨setBlock w B (.map (es.eraseIdxIfInBounds j) z),_,?_,⟨es.eraseIdxIfInBounds j,z,aa,seen,c0,I.1,ah,tX hn,?_,?_,(I.2 r ae).trans hr,?_,aj,ac,rfl,λy k' hy E=>?_,λk' E=>?_⟩,?_,oZ hb⟩
  ·simp [Builtin.delete_,run_underlying ht,MapKept.run_getObj_map hb,nD hk,oD hk h1,MapKept.run_setObj_map _ hb,Result.andThen,setBlock]
  ·rw [R];exact (J.map _).nodup af
  ·intro x hx;rw [R] at hx;exact ak x (J.subset hx)
  ·intro x hx;rw [R] at hx;exact hold x (J.subset hx)
  ·show (L k'&&k' != k)=_
   have ao:=hy
   rw [R] at hy
   rw [ai y k' (J.subset hy) E]
   have:k'≠k:=λe1=>by
    obtain ⟨p,hp,Y,_⟩:=ah.mem ao
    rw [E] at Y
    simp only [Value.int.injEq,true_and] at Y
    have:=(fK.1 hp).2
    simp only [bne_iff_ne,ne_eq] at this
    omega
   simp [this]
  ·simp only [bY,bne_iff_ne,ne_eq] at E
   obtain ⟨p,hp,rfl⟩:=bC.1 (ag k' E.1)
   exact bC.2 ⟨p,fK.2 ⟨hp,by simp [E.2]⟩,rfl⟩
  ·rw [DK,DK,R]
   exact (J.filter _).length_le
end
section
variable {P:Program} (w:World) {ops:Array Oper} {rest:List Oper} {o:Oper} {a:Act} {Q:Exit->Act->World->Prop}
theorem sU (hg:o.guard=none) (x y:Operand) (t kt:TypeId) (I:o.op=Op.call { callee:=Callee.builtin Builtin.delete,args:=#[x,y],argTypes:=#[t,kt] }) (e:TypeId) (q:IntKind) (ht:P.underlying t=some (.map kt e)) (hk:P.underlying kt=some (.int q))
  (B r:Nat) (m:AL) (L:Nat->Bool) (cnt k:Nat) (hx:a.eval x=.map (some B)) (hy:a.eval y=.int q k) (h:kT w B r q m L cnt)
  (hK:∀w' z,kT w' B r q (ql m k) (λx=>L x&&x != k) z->z<=cnt->w.grownBy w' (some B)->w'.heap.size=w.heap.size->wpList P ops Q rest (a.put o.dst (.tuple #[])) w'):wpList P ops Q (o::rest) a w:=by
 refine wpList_plain hg λK' J=>?_
 obtain ⟨w',z,E,Y,r2,R,r4⟩:=h.delete ht hk k o.type
 unfold Oper.wp
 simp [execOp,I,resolve,invoke,builtin,hx,hy,E,Result.andThen]
 exact J _ _ (hK w' z Y r2 R r4)
theorem wF (Y:o.guard=none) (x:Operand) (t:TypeId) (E:o.op=Op.range t x) (kt e:TypeId) (q:IntKind) (ht:P.underlying t=some (.map kt e)) (B:Nat) (m:AL) (hx:a.eval x=.map (some B)) (h:lD w B q m)
  (hK:∀w',kT w' B w.heap.size q m (λk=>decide (k∈m.map Prod.fst)) m.length->w.grownBy w' none->w'.heap.size=w.heap.size+1->wpList P ops Q rest (a.put o.dst (.pointer (some ⟨w.heap.size,0,none⟩))) w'):wpList P ops Q (o::rest) a w:=by
 refine wpList_plain Y λK' I=>?_
 obtain ⟨w',z,R,r2,J⟩:=h.range (P:=P) ht
 unfold Oper.wp
 simp [execOp,E,hx,z,Result.andThen]
 exact I _ _ (hK w' R r2 J)
theorem vF (hg:o.guard=none) (it:Operand) (R:o.op=Op.next it false) (B r:Nat) (q:IntKind) (m:AL) (L:Nat->Bool) (cnt:Nat) (Y:a.eval it=.pointer (some ⟨r,0,none⟩)) (h:kT w B r q m L cnt)
  (I:cnt=0->(∀k,L k=false)->wpList P ops Q rest (a.put o.dst (.tuple #[.bool false])) w)
  (J:∀(k:Nat) (v:Value) (w':World) (z:Nat),L k=true->(k,v)∈m->lJ m k=some v->kT w' B r q m (λx=>L x&&x != k) z->z < cnt->w.grownBy w' (some r)->w'.heap.size=w.heap.size->
   (Instr.entry (.pointer (some ⟨r,0,none⟩))).run P w'=.ok (.tuple #[.int q k,v]) w'->wpList P ops Q rest (a.put o.dst (.tuple #[.bool true,.int q k,v])) w'):wpList P ops Q (o::rest) a w:=by
 refine wpList_plain hg λK' aa=>?_
 unfold Oper.wp
 rcases h.next (P:=P) o.type with ⟨h0,hl,E⟩|⟨k,v,w',z,h1,h2,ab,E,h3,h4,h5,h6,h7⟩
 ·simp [execOp,R,Y,E,Result.andThen]
  exact aa _ _ (I h0 hl)
 ·simp [execOp,R,Y,E,Result.andThen]
  exact aa _ _ (J k v w' z h1 h2 ab h3 h4 h5 h6 h7)
end
end
open Go.RowKit Go.Joins
section
variable {n g:Nat} {w w':World} {v:Value}
structure jL (M:Nat->Prop) (w w':World):Prop where
 os:w'.os=w.os
 tape:w'.tape=w.tape
 output:w'.output=w.output
 size:w.heap.size<=w'.heap.size
 block:∀k,k < w.heap.size->¬M k->w'.heap[k]? =w.heap[k]?
section
variable {M M':Nat->Prop} {w w' w'':World}
theorem jL.refl (M:Nat->Prop) (w:World):jL M w w:=⟨rfl,rfl,rfl,jC,λ_ _ _=>rfl⟩
theorem jL.trans (h:jL M w w') (z:jL M' w' w'') (I:∀k,k < w.heap.size->M' k->M k):jL M w w'':=
 ⟨z.os.trans h.os,z.tape.trans h.tape,z.output.trans h.output,aW h.size z.size,λk hk E=>(z.block k (aH hk h.size) (λe=>E (I k hk e))).trans (h.block k hk E)⟩
theorem jL.mono (h:jL M w w') (z:∀k,k < w.heap.size->M k->M' k):jL M' w w':=⟨h.os,h.tape,h.output,h.size,λk hk E=>h.block k hk (λe=>E (z k hk e))⟩
theorem jL.below (h:Below n w w') (z:w.heap.size<=n) (M:Nat->Prop):jL M w w':=⟨h.os,h.tape,h.output,h.size,λk hk _=>h.block k (by omega)⟩
theorem jL.Iq (h:jL (λ_=>False) w w'):Below w.heap.size w w':=⟨h.os,h.tape,h.output,h.size,λk hk=>h.block k hk (λe=>e)⟩
theorem jL.grown {r:Option Nat} (h:w.grownBy w' r):jL (λk=>r=some k) w w':=⟨h.os,h.tape,h.output,h.size,λk hk z=>h.block k hk (λe=>z e.symm)⟩
theorem jL.alloc (M:Nat->Prop) (w:World) (o:Obj):jL M w (w.alloc o):=.below ((aB w.heap.size w).alloc jC o) jC M
theorem jL.set (w:World) (b i:Nat) (v:Value):jL (λk=>k=b) w (w.setCell ⟨b,i,none⟩ v):=⟨rfl,rfl,rfl,by simp,λk _ z=>aP _ _ _ _ z⟩
theorem jL.drew (M:Nat->Prop) (w:World):jL M w w.drew:=⟨rfl,rfl,rfl,jC,λ_ _ _=>rfl⟩
end
def Rd (w:World) (s:Nat) (v:Value) (n:Nat) (xs:List Value):Prop:=
 xs.length=n * s/\∃a cap,v=.slice a n cap/\n<=cap/\(0 < n->∃g off,a=some ⟨g,off,none⟩/\g < w.heap.size/\∀j u,xs[j]? =some u->w.cell? ⟨g,off+j,none⟩=some u)
section
variable {w w':World} {e s:Nat} {v:Value} {n:Nat} {xs:List Value}
theorem Rd.slice (h:Rd w s v n xs):∃a cap,v=.slice a n cap:=by
 obtain ⟨_,a,cap,z,_⟩:=h
 exact ⟨a,cap,z⟩
theorem Rd.pos (h:Rd w s v n xs) (R:0 < n):∃g off cap,v=.slice (some ⟨g,off,none⟩) n cap/\n<=cap/\g < w.heap.size/\∀j u,xs[j]? =some u->w.cell? ⟨g,off+j,none⟩=some u:=by
 obtain ⟨_,a,cap,z,I,hp⟩:=h
 obtain ⟨g,off,rfl,E,J⟩:=hp R
 exact ⟨g,off,cap,z,I,E,J⟩
theorem Rd.kept (h:Rd w s v n xs) (hs:w.heap.size<=w'.heap.size) (hk:0 < n->∀g,v.ownBlock=some g->g < w.heap.size->w'.heap[g]? =w.heap[g]?):Rd w' s v n xs:=by
 obtain ⟨I,a,cap,rfl,R,hp⟩:=h
 refine ⟨I,a,cap,rfl,R,λz=>?_⟩
 obtain ⟨g,off,rfl,J,Y⟩:=hp z
 refine ⟨g,off,rfl,by omega,λj u E=>?_⟩
 rw [World.cell?_of_block (a:=⟨g,off+j,none⟩) (hk z g rfl J)]
 exact Y j u E
theorem Rd.below (h:Rd w s v n xs) (z:Below w.heap.size w w'):Rd w' s v n xs:=h.kept z.size (λ_ g _ E=>z.block g E)
theorem Rd.nil (w:World) (s:Nat) (a:Option Addr) (cap:Nat):Rd w s (.slice a 0 cap) 0 []:=⟨by simp,a,cap,rfl,dF _,λh=>by omega⟩
theorem Row.rd (h:Row w e s v n xs):Rd w s v n xs:=by
 refine ⟨h.1,?_⟩
 rcases h.2 with ⟨rfl,rfl⟩|⟨g,off,cap,I,rfl,E,z,_,_,R⟩
 ·exact ⟨none,0,rfl,jC,λh=>by omega⟩
 ·refine ⟨_,cap,rfl,z,λ_=>⟨g,off,rfl,(jE E),λj u J=>?_⟩⟩
  have:=R j u J
  simp [World.cell?,E,this]
theorem Row.jR {M:Nat->Prop} (h:Row w e s v n xs) (I:jL M w w') (E:∀g,v.ownBlock=some g->¬M g):Row w' e s v n xs:=h.kept (λg z=>I.block g (h.lt z) (E g z))
theorem Row.below (h:Row w e s v n xs) (E:Below w.heap.size w w'):Row w' e s v n xs:=h.kept (λg z=>E.block g (h.lt z))
end
section
variable {α:Type} (f:α->List Value) (s:Nat) (hf:∀x,(f x).length=s)
include hf
theorem flat_get:∀(l:List α) (j i:Nat) (x:α),l[j]? =some x->i < s->(l.flatMap f)[j * s+i]? =(f x)[i]?
 |[],j,i,x,h,_=>by simp at h
 |y::l,0,i,x,h,hi=>by
  simp at h
  subst h
  rw [gQ,Nat.zero_mul,fC,bP (by rw [hf];exact hi)]
 |y::l,j+1,i,x,h,hi=>by
  rw [gQ,bK (by rw [hf,iM];omega),hf,<-flat_get l j i x (by simpa using h) hi]
  congr 1
  rw [iM]
  omega
theorem nJ:∀l:List α,(l.flatMap f).length=l.length * s
 |[]=>by simp
 |y::l=>by rw [gQ,aJ,hf,nJ l,aN,iM];omega
theorem Rd.rec {l:List α} {off cap:Nat} (h:Rd w s (.slice (some ⟨g,off,none⟩) l.length cap) l.length (l.flatMap f)) {j:Nat} {x:α} (z:l[j]? =some x) {i:Nat} {u:Value} (hi:i < s) (Y:(f x)[i]? =some u):w.cell? ⟨g,off+(j * s+i),none⟩=some u:=by
 have R:j < l.length:=(aF.1 z).1
 obtain ⟨g',I,J,E,_,_,hx⟩:=h.pos (by omega)
 simp only [Value.slice.injEq,aC,Addr.mk.injEq,and_true,true_and] at E
 obtain ⟨⟨rfl,rfl⟩,rfl⟩:=E
 exact hx _ _ (by rw [flat_get f s hf l j i x z hi];exact Y)
end
def Grew (v:Value) (g:Nat) (w w':World):Prop:=(v.ownBlock=some g/\w.grownBy w' (some g)/\w'.heap.size=w.heap.size)\/(g=w.heap.size/\w.grownBy w' none/\w'.heap.size=w.heap.size+1)
theorem Grew.jR (h:Grew v g w w'):jL (λk=>v.ownBlock=some k) w w':=by
 rcases h with ⟨e,z,_⟩|⟨_,z,_⟩
 ·rw [<-e] at z;exact .grown z
 ·exact (jL.grown z).mono (λk _ e=>by simp at e)
theorem Grew.own (h:Grew v g w w'):v.ownBlock=some g\/w.heap.size<=g:=by
 rcases h with ⟨e,_⟩|⟨e,_⟩
 ·exact .inl e
 ·exact .inr (by omega)
theorem Grew.keep {e s kb:Nat} {xs:List Value} {cs:Array Value} {t:Nat} {J:Nat×Nat} (h:Grew v g w w') (z:Row w e s v n xs) (hk:w.heap[kb]? =some (.cells cs t J)) (E:t≠e):w'.heap[kb]? =some (.cells cs t J):=by
 refine (h.jR.block kb (jE hk) (λY=>?_)).trans hk
 obtain ⟨R,I⟩:=z.obj Y
 rw [hk] at I
 simp at I
 exact E I.2.1
section
variable {P:Program} (w:World) {ops:Array Oper} {rest:List Oper} {o:Oper} {a:Act} {Q:Exit->Act->World->Prop}
theorem lW (ab:o.guard=none) (s x:Operand) (t:TypeId)
  (ho:o.op=.call { callee:=.builtin .append,args:=#[s,x],argTypes:=#[t,t] })
  (e:TypeId) (i:TypeInfo) (z:Value) (size bytes:Nat) (ht:P.underlying t=some (.slice e)) (hi:P.info? e=some i) (hz:i.zero=some z)
  (J:i.size=size) (af:i.bytes=bytes) (ag:z.cells.size=size) (ae:0 < size)
  (v:Value) (n:Nat) (xs:List Value) (hs:a.eval s=v) (Y:Row w e size v n xs)
  (ad:Addr) (m c:Nat) (E:List Value) (hx:a.eval x=.slice (some ad) m c) (hm:0 < m) (hl:E.length=m * size) (R:∀j u,E[j]? =some u->w.cell? (ad.add j)=some u) (h1:∀u∈E,u.oneCell'=true)
  (ac:n+m<=maxLen) (I:(n+m) * bytes<=140737488355328)
  (h:∀g off cap w',Row w' e size (.slice (some ⟨g,off,none⟩) (n+m) cap) (n+m) (xs++E)->Grew v g w w'->wpList P ops Q rest (a.put o.dst (.slice (some ⟨g,off,none⟩) (n+m) cap)) w'):wpList P ops Q (o::rest) a w:=by
 refine wpList_plain ab λK hK=>?_
 obtain ⟨v',w',hr,h2,⟨g,off,cap,rfl⟩,h4⟩:=Y.append (P:=P) t o.type i z bytes ht hi hz J af ag ae ad m c E hm hl R h1 ac I
 unfold Oper.wp execOp
 simp only [ho,resolve,invoke,builtin,iT,Sem.run_pure,gW,fJ,dW,fG,hs,hx,hr]
 refine hK _ _ (h g off cap w' h2 ?_)
 rcases h4 with ⟨e1,e2,e3⟩|⟨e1,e2,e3⟩
 ·have aa:v.ownBlock=some g:=e1.symm
  exact .inl ⟨aa,by rw [<-aa];exact e2,e3⟩
 ·exact .inr ⟨by simpa [Value.ownBlock] using e1,e2,e3⟩
end
end
end Go.Proofs.YtpibpdpedjinhaaGreatDoor.Hm
namespace Go.Proofs.YtpibpdpedjinhaaGreatDoor.Sq
def piece:List UInt8->Option (List UInt8×Nat)
 |[]=>none
 |c::r=>
  if c.toNat < 128 then (if c.toNat+1<=r.length then some (r.take (c.toNat+1),c.toNat+2) else none)
  else if c.toNat=128 then none
  else match r with
   |[]=>none
   |b::_=>some (List.replicate (257 - c.toNat) b,2)
def spread:Nat->List UInt8->Int->List UInt8->List UInt8×Bool
 |0,_,_,out=>(out,true)
 |f+1,s,most,out=>
  if s=[] then (out,true) else
  match piece s with
  |none=>(out,false)
  |some (t,n)=>if max most 0 < (out.length:Int)+t.length then (out++t.take ((max most 0).toNat - out.length),false) else spread f (s.drop n) most (out++t)
theorem LH (f:Nat) (most:Int) (out:List UInt8):spread f [] most out=(out,true):=by
 cases f<;>simp [spread]
theorem JU (f:Nat) (s:List UInt8) (most:Int) (out:List UInt8) (E:0 < s.length) (J:s.length<=f) (hp:piece s=none):spread f s most out=(out,false):=by
 obtain ⟨z,rfl⟩:∃z,f=z+1:=⟨f - 1,by omega⟩
 rw [spread,if_neg (by intro I;rw [I] at E;simp at E),hp]
theorem yR (f:Nat) (s:List UInt8) (most:Int) (out t:List UInt8) (n:Nat) (E:0 < s.length) (J:s.length<=f) (hp:piece s=some (t,n)):
  spread f s most out=if max most 0 < (out.length:Int)+t.length then (out++t.take ((max most 0).toNat - out.length),false) else spread (f - 1) (s.drop n) most (out++t):=by
 obtain ⟨z,rfl⟩:∃z,f=z+1:=⟨f - 1,by omega⟩
 rw [spread,if_neg (by intro I;rw [I] at E;simp at E),hp]
 rfl
theorem Jk (s:List UInt8) (t:List UInt8) (n:Nat) (h:piece s=some (t,n)):2<=n/\n<=s.length/\1<=t.length/\t.length<=128:=by
 cases s with
 |nil=>simp [piece] at h
 |cons c r=>
  simp only [piece] at h
  have z:=c.toNat_lt
  split at h
  ·split at h
   ·simp only [aC,dA] at h
    obtain ⟨rfl,rfl⟩:=h
    simp
    omega
   ·simp at h
  ·split at h
   ·simp at h
   ·cases r with
    |nil=>simp at h
    |cons b q=>
     simp only [aC,dA] at h
     obtain ⟨rfl,rfl⟩:=h
     simp
     omega
end Go.Proofs.YtpibpdpedjinhaaGreatDoor.Sq
namespace Go.Proofs.YtpibpdpedjinhaaGreatDoor.Im
section
variable {l:List Nat} {n:Nat}
structure It where
 list:Bool
 bytes:List UInt8
 kids:List It
variable {i:It}
def wt:Nat->It->Nat
 |0,_=>0
 |n+1,i=>i.bytes.length+1+(i.kids.map (wt n)).sum
theorem Yl {x:Nat} (h:x∈l):x<=l.sum:=by
 induction l with
 |nil=>cases h
 |cons a l ih=>
  simp only [List.sum_cons]
  rcases bV.1 h with rfl|h
  ·omega
  ·have:=ih h;omega
theorem Zh {k:It} (h:k∈i.kids):wt n k+1<=wt (n+1) i:=by
 have:wt n k∈i.kids.map (wt n):=bC.2 ⟨k,h,rfl⟩
 have:=Yl this
 simp only [wt]
 omega
theorem VN (h:∀x,x∈l->1<=x):l.length<=l.sum:=by
 induction l with
 |nil=>simp
 |cons a l ih=>
  have E:=h a (dK ..)
  have h2:=ih (λx z=>h x (bT _ z))
  simp only [List.sum_cons,aN]
  omega
def dp:Nat->It->Prop
 |0,_=>False
 |n+1,i=>∀k,k∈i.kids->dp n k
theorem YN (h:dp n i):1<=wt n i:=by
 cases n with
 |zero=>cases h
 |succ n=>simp only [wt];omega
theorem NQ (h:dp n i):i.kids.length+i.bytes.length+1<=wt n i:=by
 cases n with
 |zero=>cases h
 |succ n=>
  have:=VN (l:=i.kids.map (wt n)) (λx z=>by
   obtain ⟨k,hk,rfl⟩:=bC.1 z
   exact YN (h k hk))
  rw [aU] at this
  simp only [wt]
  omega
end
def val:List UInt8->Nat->Nat
 |[],a=>a
 |x::r,a=>val r (256 * a+x.toNat)
theorem val_append:∀(a b:List UInt8) (n:Nat),val (a++b) n=val b (val a n)
 |[],_,_=>rfl
 |x::a,b,n=>by simp only [dH,val];exact val_append a b _
def chk (l:Bool) (s:List UInt8) (z n:Nat):Option (Bool×Nat×Nat):=
 if s.length - z < n then none else if l=false/\n=1/\(s.getD z 0).toNat < 128 then none else some (l,z,z+n)
def far (l:Bool) (s:List UInt8) (z:Nat):Option (Bool×Nat×Nat):=
 if s.length < z\/s.getD 1 0=0 then none else if val ((s.take z).drop 1) 0<=55 then none else chk l s z (val ((s.take z).drop 1) 0)
def body (s:List UInt8):Option (Bool×Nat×Nat):=
 match s with
 |[]=>none
 |c::_=>
  if c.toNat < 128 then some (false,0,1)
  else if c.toNat<=183 then chk false s 1 (c.toNat - 128)
  else if c.toNat<=187 then far false s (1+(c.toNat - 183))
  else if c.toNat < 192 then none
  else if c.toNat<=247 then chk true s 1 (c.toNat - 192)
  else if c.toNat<=251 then far true s (1+(c.toNat - 247))
  else none
theorem JM {l:Bool} {s:List UInt8} {f n:Nat} {x:Bool×Nat×Nat} (h:chk l s f n=some x):x=(l,f,f+n)/\n<=s.length - f/\(l=false->n=1->128<=(s.getD f 0).toNat):=by
 unfold chk at h
 split at h
 ·simp at h
 ·split at h
  ·simp at h
  ·rename_i z h2
   simp only [aC] at h
   refine ⟨h.symm,by omega,λa b=>?_⟩
   rcases fQ (s.getD f 0).toNat 128 with h3|h3
   ·exact absurd ⟨a,b,h3⟩ h2
   ·exact h3
def many (g:List UInt8->Option (It×Nat)):Nat->List UInt8->Option (List It)
 |0,s=>if s=[] then some [] else none
 |f+1,s=>if s=[] then some [] else match g s with
  |none=>none
  |some (i,n)=>(many g f (s.drop n)).map (λl=>i::l)
def read (b:List UInt8->Option (Bool×Nat×Nat)):Nat->List UInt8->Option (It×Nat)
 |0,s=>match b s with
  |some (false,f,t)=>some (⟨false,(s.take t).drop f,[]⟩,t)
  |_=>none
 |d+1,s=>match b s with
  |none=>none
  |some (false,f,t)=>some (⟨false,(s.take t).drop f,[]⟩,t)
  |some (true,f,t)=>(many (read b d) s.length ((s.take t).drop f)).map (λl=>(⟨true,[],l⟩,t))
theorem RN (g:List UInt8->Option (It×Nat)) (f:Nat):many g f []=some []:=by cases f<;>simp [many]
def rb (s:List UInt8):Option (Bool×Nat×Nat):=
 match s with
 |[]=>none
 |c::_=>
  if c.toNat < 128 then some (false,0,1)
  else if c.toNat - (if 192<=c.toNat then 192 else 128)<=55 then
   (if s.length < 1+(c.toNat - (if 192<=c.toNat then 192 else 128)) then none else some (decide (192<=c.toNat),1,1+(c.toNat - (if 192<=c.toNat then 192 else 128))))
  else if 4 < c.toNat - (if 192<=c.toNat then 192 else 128) - 55\/s.length < 1+(c.toNat - (if 192<=c.toNat then 192 else 128) - 55) then none
  else if s.length < 1+(c.toNat - (if 192<=c.toNat then 192 else 128) - 55)+val ((s.take (1+(c.toNat - (if 192<=c.toNat then 192 else 128) - 55))).drop 1) 0 then none
  else some (decide (192<=c.toNat),1+(c.toNat - (if 192<=c.toNat then 192 else 128) - 55),1+(c.toNat - (if 192<=c.toNat then 192 else 128) - 55)+val ((s.take (1+(c.toNat - (if 192<=c.toNat then 192 else 128) - 55))).drop 1) 0)
theorem KX (s:List UInt8) (x:Bool×Nat×Nat) (h:body s=some x):rb s=some x:=by
 cases s with
 |nil=>simp [body] at h
 |cons c r=>
  have hc:=c.toNat_lt
  simp only [body] at h
  simp only [rb]
  have J:∀(l:Bool) (I:Nat),(if 192<=c.toNat then 192 else 128)=I->decide (192<=c.toNat)=l->c.toNat - I<=55->chk l (c::r) 1 (c.toNat - I)=some x->¬c.toNat < 128->(if c.toNat < 128 then some (false,0,1)
    else if c.toNat - (if 192<=c.toNat then 192 else 128)<=55 then
   (if (c::r).length < 1+(c.toNat - (if 192<=c.toNat then 192 else 128)) then none else some (decide (192<=c.toNat),1,1+(c.toNat - (if 192<=c.toNat then 192 else 128))))
  else if 4 < c.toNat - (if 192<=c.toNat then 192 else 128) - 55\/(c::r).length < 1+(c.toNat - (if 192<=c.toNat then 192 else 128) - 55) then none
  else if (c::r).length < 1+(c.toNat - (if 192<=c.toNat then 192 else 128) - 55)+val (((c::r).take (1+(c.toNat - (if 192<=c.toNat then 192 else 128) - 55))).drop 1) 0 then none
  else some (decide (192<=c.toNat),1+(c.toNat - (if 192<=c.toNat then 192 else 128) - 55),1+(c.toNat - (if 192<=c.toNat then 192 else 128) - 55)+val (((c::r).take (1+(c.toNat - (if 192<=c.toNat then 192 else 128) - 55))).drop 1) 0))=some x:=by
   intro l I R Y h1 h2 h3
   obtain ⟨hx,hn,_⟩:=JM h2
   rw [if_neg h3,R,Y,if_pos h1,if_neg (by simp only [aN] at hn⊢;omega),hx]
  have E:∀(l:Bool) (I:Nat),(if 192<=c.toNat then 192 else 128)=I->decide (192<=c.toNat)=l->55 < c.toNat - I->c.toNat - I<=59->far l (c::r) (1+(c.toNat - I - 55))=some x->¬c.toNat < 128->(if c.toNat < 128 then some (false,0,1)
    else if c.toNat - (if 192<=c.toNat then 192 else 128)<=55 then
   (if (c::r).length < 1+(c.toNat - (if 192<=c.toNat then 192 else 128)) then none else some (decide (192<=c.toNat),1,1+(c.toNat - (if 192<=c.toNat then 192 else 128))))
  else if 4 < c.toNat - (if 192<=c.toNat then 192 else 128) - 55\/(c::r).length < 1+(c.toNat - (if 192<=c.toNat then 192 else 128) - 55) then none
  else if (c::r).length < 1+(c.toNat - (if 192<=c.toNat then 192 else 128) - 55)+val (((c::r).take (1+(c.toNat - (if 192<=c.toNat then 192 else 128) - 55))).drop 1) 0 then none
  else some (decide (192<=c.toNat),1+(c.toNat - (if 192<=c.toNat then 192 else 128) - 55),1+(c.toNat - (if 192<=c.toNat then 192 else 128) - 55)+val (((c::r).take (1+(c.toNat - (if 192<=c.toNat then 192 else 128) - 55))).drop 1) 0))=some x:=by
   intro l I R Y h1 aa h2 h3
   unfold far at h2
   split at h2
   ·simp at h2
   ·rename_i hg
    split at h2
    ·simp at h2
    ·obtain ⟨hx,hn,_⟩:=JM h2
     rw [if_neg h3,R,Y,if_neg (by omega),if_neg (by omega),if_neg (by omega),hx]
  split at h
  ·rename_i z;rw [if_pos z];exact h
  ·rename_i z
   split at h
   ·exact J false 128 (if_neg (by omega)) (decide_eq_false (by omega)) (by omega) h z
   ·split at h
    ·exact E false 128 (if_neg (by omega)) (decide_eq_false (by omega)) (by omega) (by omega) (by rw [show c.toNat - 128 - 55=c.toNat - 183 from by omega];exact h) z
    ·split at h
     ·simp at h
     ·split at h
      ·exact J true 192 (if_pos (by omega)) (decide_eq_true (by omega)) (by omega) h z
      ·split at h
       ·exact E true 192 (if_pos (by omega)) (decide_eq_true (by omega)) (by omega) (by omega) (by rw [show c.toNat - 192 - 55=c.toNat - 247 from by omega];exact h) z
       ·simp at h
section
variable {g:List UInt8->Option (It×Nat)} {s:List UInt8} {l:List It} {p d f t:Nat} {b:List UInt8->Option (Bool×Nat×Nat)}
inductive mJ (g:List UInt8->Option (It×Nat)) (s:List UInt8):List It->Nat->Prop
 |nil:mJ g s [] 0
 |snoc {l:List It} {p:Nat} {i:It} {n:Nat}:mJ g s l p->p < s.length->g (s.drop p)=some (i,n)->mJ g s (l++[i]) (p+n)
def Fair (g:List UInt8->Option (It×Nat)):Prop:=∀s i n,g s=some (i,n)->1<=n/\n<=s.length
theorem mJ.le (z:Fair g) (h:mJ g s l p):p<=s.length/\l.length<=p:=by
 induction h with
 |nil=>exact ⟨dF _,jC⟩
 |snoc h hp hgs ih=>
  have:=z _ _ _ hgs
  rw [dP] at this
  simp only [aJ,aN,bM]
  omega
theorem mJ.many (h:mJ g s l p):∀f,l.length<=f->Im.many g f s=(Im.many g (f - l.length) (s.drop p)).map (λr=>l++r):=by
 induction h with
 |nil=>intro f _;simp
 |@snoc l p i n h hp hgs ih=>
  intro f J
  simp only [aJ,aN,bM] at J⊢
  rw [ih f (by omega)]
  obtain ⟨z,I⟩:∃z,f - l.length=z+1:=⟨f - l.length - 1,by omega⟩
  have E:s.drop p≠[]:=by intro e;have:=congrArg List.length e;simp at this;omega
  rw [I,Im.many,if_neg E,hgs]
  simp only
  rw [show f - (l.length+(0+1))=z from by omega,gZ]
  cases Im.many g z (s.drop (p+n))<;>simp
theorem mJ.all (z:Fair g) (h:mJ g s l p) (f:Nat) (E:s.length<=f) (hp:s.length<=p):Im.many g f s=some l:=by
 have:=h.le z
 rw [h.many f (by omega),List.drop_of_length_le hp,RN]
 simp
theorem mJ.stuck (J:Fair g) (h:mJ g s l p) (f:Nat) (Y:s.length<=f) (hp:p < s.length) (R:g (s.drop p)=none):Im.many g f s=none:=by
 have:=h.le J
 rw [h.many f (by omega)]
 obtain ⟨I,E⟩:∃I,f - l.length=I+1:=⟨f - l.length - 1,by omega⟩
 have z:s.drop p≠[]:=by intro e;have:=congrArg List.length e;simp at this;omega
 rw [E,Im.many,if_neg z,R]
 rfl
theorem Eb (g:List UInt8->Option (It×Nat)):∀(f:Nat) (s:List UInt8) (l:List It),Im.many g f s=some l->Fair g->∀(h:It->Nat),(∀s' i n,g s'=some (i,n)->h i<=2 * n)->(l.map h).sum<=2 * s.length
 |0,s,l,hm,_,h,_=>by
  simp only [Im.many] at hm
  split at hm
  ·simp at hm;subst hm;simp
  ·simp at hm
 |f+1,s,l,hm,hg,h,hh=>by
  rw [Im.many] at hm
  split at hm
  ·simp at hm;subst hm;simp
  ·cases z:g s with
   |none=>rw [z] at hm;simp at hm
   |some x=>
    obtain ⟨i,n⟩:=x
    rw [z] at hm
    simp only at hm
    obtain ⟨t,ht,rfl⟩:=aX.1 hm
    have E:=hg s i n z
    have h2:=Eb g f (s.drop n) t ht hg h hh
    have h3:=hh s i n z
    rw [dP] at h2
    simp only [dW,List.sum_cons]
    omega
theorem I5 (g:List UInt8->Option (It×Nat)):∀(f:Nat) (s:List UInt8) (l:List It),Im.many g f s=some l->∀k,k∈l->∃s' n,g s'=some (k,n)
 |0,s,l,hm,k,hk=>by
  simp only [Im.many] at hm
  split at hm
  ·simp at hm;subst hm;simp at hk
  ·simp at hm
 |f+1,s,l,hm,k,hk=>by
  rw [Im.many] at hm
  split at hm
  ·simp at hm;subst hm;simp at hk
  ·cases z:g s with
   |none=>rw [z] at hm;simp at hm
   |some x=>
    obtain ⟨i,n⟩:=x
    rw [z] at hm
    simp only at hm
    obtain ⟨t,ht,rfl⟩:=aX.1 hm
    rcases bV.1 hk with rfl|hk
    ·exact ⟨s,n,z⟩
    ·exact I5 g f _ t ht k hk
theorem EN (g g':List UInt8->Option (It×Nat)) (E:∀s x,g s=some x->g' s=some x):∀(f:Nat) (s:List UInt8) (l:List It),Im.many g f s=some l->Im.many g' f s=some l
 |0,s,l,hm=>hm
 |f+1,s,l,hm=>by
  rw [Im.many] at hm⊢
  split at hm
  ·rename_i e;rw [if_pos e];exact hm
  ·rename_i e
   rw [if_neg e]
   cases z:g s with
   |none=>rw [z] at hm;simp at hm
   |some x=>
    obtain ⟨i,n⟩:=x
    rw [z] at hm
    simp only at hm
    obtain ⟨t,ht,rfl⟩:=aX.1 hm
    rw [E s _ z]
    simp only
    rw [EN g g' E f _ t ht]
    rfl
def yc (b:List UInt8->Option (Bool×Nat×Nat)):Nat->List UInt8->Option (It×Nat)
 |0,_=>none
 |d+1,s=>match b s with
  |none=>none
  |some (false,f,t)=>some (⟨false,(s.take t).drop f,[]⟩,t)
  |some (true,f,t)=>(many (yc b d) s.length ((s.take t).drop f)).map (λl=>(⟨true,[],l⟩,t))
theorem tC (h:b s=some (false,f,t)):yc b (d+1) s=some (⟨false,(s.take t).drop f,[]⟩,t):=by rw [yc,h]
theorem vM (h:b s=some (true,f,t)):yc b (d+1) s=(many (yc b d) s.length ((s.take t).drop f)).map (λl=>(⟨true,[],l⟩,t)):=by rw [yc,h]
theorem zJ (h:b s=none):yc b (d+1) s=none:=by rw [yc,h]
theorem Ap (h:b s=some (false,f,t)):read b d s=some (⟨false,(s.take t).drop f,[]⟩,t):=by cases d<;>rw [read,h]
theorem Ei (h:b s=some (true,f,t)):read b (d+1) s=(many (read b d) s.length ((s.take t).drop f)).map (λl=>(⟨true,[],l⟩,t)):=by rw [read,h]
theorem zH (h:b s=some (true,f,t)):read b 0 s=none:=by rw [read,h]
theorem uh (h:b s=none):read b d s=none:=by cases d<;>rw [read,h]
theorem CB (b:List UInt8->Option (Bool×Nat×Nat)):∀(d:Nat) (s:List UInt8) (x:It×Nat),read b d s=some x->yc b (d+1) s=some x:=by
 intro d
 induction d with
 |zero=>
  intro s x h
  cases z:b s with
  |none=>rw [uh z] at h;simp at h
  |some y=>
   obtain ⟨l,f,t⟩:=y
   cases l with
   |true=>rw [zH z] at h;simp at h
   |false=>rw [Ap z] at h;rw [tC z];exact h
 |succ d ih=>
  intro s x h
  cases z:b s with
  |none=>rw [uh z] at h;simp at h
  |some y=>
   obtain ⟨l,f,t⟩:=y
   cases l with
   |false=>rw [Ap z] at h;rw [tC z];exact h
   |true=>
    rw [Ei z] at h
    obtain ⟨I,E,rfl⟩:=aX.1 h
    rw [vM z,EN (read b d) (yc b (d+1)) ih _ _ _ E]
    rfl
def Body (b:List UInt8->Option (Bool×Nat×Nat)):Prop:=∀s l f t,b s=some (l,f,t)->f<=t/\t<=s.length/\1<=t/\(l=true->1<=f)
theorem Bf (E:Body b) (d:Nat):Fair (yc b d):=by
 intro s i n h
 cases d with
 |zero=>simp [yc] at h
 |succ d=>
  cases z:b s with
  |none=>rw [zJ z] at h;simp at h
  |some y=>
   obtain ⟨l,f,t⟩:=y
   have:=E s l f t z
   cases l with
   |false=>rw [tC z] at h;simp at h;omega
   |true=>
    rw [vM z] at h
    obtain ⟨R,J,I⟩:=aX.1 h
    simp at I
    omega
theorem qP (z:Body b) (d:Nat):Fair (read b d):=λs i n h=>Bf z (d+1) s i n (CB b d s _ h)
theorem Az {b:List UInt8->Option (Bool×Nat×Nat)} (E:Body b):∀(d:Nat) (s:List UInt8) (i:It) (n:Nat),yc b d s=some (i,n)->dp d i/\wt d i<=2 * n
 |0,s,i,n,h=>by simp [yc] at h
 |d+1,s,i,n,h=>by
  cases z:b s with
  |none=>rw [zJ z] at h;simp at h
  |some y=>
   obtain ⟨l,f,t⟩:=y
   have hq:=E s l f t z
   cases l with
   |false=>
    rw [tC z] at h
    simp only [aC,dA] at h
    obtain ⟨rfl,rfl⟩:=h
    refine ⟨λk hk=>by simp at hk,?_⟩
    simp only [wt,fG,List.sum_nil,dP,aZ]
    omega
   |true=>
    rw [vM z] at h
    obtain ⟨ks,R,J⟩:=aX.1 h
    simp only [dA] at J
    obtain ⟨rfl,rfl⟩:=J
    refine ⟨λk hk=>?_,?_⟩
    ·obtain ⟨s',Y,I⟩:=I5 _ _ _ _ R k hk
     exact (Az E d s' k Y I).1
    ·have:=Eb _ _ _ _ R (Bf E d) (wt d) (λs' i n h=>(Az E d s' i n h).2)
     simp only [dP,aZ] at this
     have:=hq.2.2.2 rfl
     simp only [wt,bM]
     omega
theorem acu (z:Body b) (d:Nat) (s:List UInt8) (i:It) (n:Nat) (h:read b d s=some (i,n)):dp (d+1) i/\wt (d+1) i<=2 * n:=Az z (d+1) s i n (CB b d s _ h)
theorem Vq:Body rb:=by
 intro s l f t h
 cases s with
 |nil=>simp [rb] at h
 |cons c r=>
  have E:=c.toNat_lt
  simp only [rb] at h
  generalize (if 192<=c.toNat then 192 else 128)=B0 at h
  split at h
  ·simp only [aC,dA] at h
   obtain ⟨rfl,rfl,rfl⟩:=h
   simp
  ·split at h
   ·split at h
    ·simp at h
    ·rename_i z
     simp only [aC,dA] at h
     obtain ⟨_,rfl,rfl⟩:=h
     exact ⟨by omega,by omega,by omega,λ_=>by omega⟩
   ·split at h
    ·simp at h
    ·split at h
     ·simp at h
     ·rename_i z
      simp only [aC,dA] at h
      obtain ⟨_,rfl,rfl⟩:=h
      exact ⟨by omega,by omega,by omega,λ_=>by omega⟩
theorem oq:Body body:=λs l f t h=>Vq s l f t (KX s _ h)
end
end Go.Proofs.YtpibpdpedjinhaaGreatDoor.Im
namespace Go.Proofs.YtpibpdpedjinhaaGreatDoor
namespace Im
def dec (s:List UInt8):Option It:=match read body 8 s with
 |some (i,n)=>if n=s.length then some i else none
 |none=>none
end Im
end Go.Proofs.YtpibpdpedjinhaaGreatDoor
