import Derived.Test.YtpibpdpedjinhaaGreatDoorP17
import Derived.Maps.RangeWalk
import Derived.Maps.OwnOps
set_option maxRecDepth 100000
set_option linter.all false
open Go renaming IntKind->kg,MapEntry->gT,Oper->lR,Operand->nL,Program->cY,TypeId->cH,Value->aD,World->U,execOp->bL,run_underlying->eL
open Go.Builtin renaming delete_->kl,len_->mA
open Go.Instr renaming findNow->mz,keyThatStays->pa,mapUpdate->oE
open Go.MapKept renaming run_getObj_map->fT,run_setObj_map->iB
open Go.Result renaming andThen->fL
open Go.Value renaming bool->cF,pointer->aM,slice->aR,tuple->dC
open Option renaming none->Z,some->M
open Prod renaming fst->cG
namespace Go.Proofs.YtpibpdpedjinhaaGreatDoor
namespace Hm
open Go.ChangeMaps (setBlock)
open Go.MapKept (heap_set)
section
variable {q:kg}{k j:Nat}{v:aD}
abbrev AL:=List (Nat×aD)
variable {m:AL}
def lZ(m:AL)(k:Nat):Option aD:=(m.find? (λp=>p.1 == k)).map Prod.snd
def xg(m:AL)(k:Nat)(v:aD):AL:=if k∈m.map cG then m.map (λp=>if p.1=k then(k,v)else p)else m++[(k,v)]
def nY(m:AL)(k:Nat):AL:=m.filter (λp=>p.1 != k)
def entryOf(q:kg)(e:gT)(p:Nat×aD):Prop:=e.key=.int q p.1/\e.val=p.2
inductive nO(q:kg):List gT->AL->Prop
 |nil:nO q [] []
 |cons {e:gT} {p:Nat×aD} {es:List gT} {m:AL}:entryOf q e p->nO q es m->nO q (e::es) (p::m)
def lQ(w:U)(B:Nat)(q:kg)(m:AL):Prop:=
 ∃es E,w.heap[B]? =M (.map es E)/\nO q es.toList m/\(m.map cG).Nodup/\(es.toList.map (·.born)).Nodup/\∀e,e∈es.toList->e.born<E
theorem nO.length:∀{es:List gT}{m:AL},nO q es m->es.length=m.length
 |_,_,.nil=>rfl
 |_,_,.cons _ h=>by simp[h.length]
theorem nO.append:∀{es E:List gT}{m I:AL},nO q es m->nO q E I->nO q (es++E) (m++I)
 |_,_,_,_,.nil,h'=>h'
 |_,_,_,_,.cons a h,h'=>.cons a (h.append h')
theorem nO.mem:∀{es:List gT}{m:AL}{e:gT},nO q es m->e∈es->∃p,p∈m/\entryOf q e p
 |_,_,_,.nil,h=>by simp at h
 |_,_,_,.cons a hr,h=>by
  obtain rfl|h:=dD.1 h
  .grind
  .obtain⟨p,hp,E⟩:=hr.mem h
   grind
theorem nO.mem':∀{es:List gT}{m:AL}{p:Nat×aD},nO q es m->p∈m->∃e,e∈es/\entryOf q e p
 |_,_,_,.nil,h=>by simp at h
 |_,_,_,.cons a hr,h=>by
  obtain rfl|h:=dD.1 h
  .grind
  .obtain⟨p,hp,E⟩:=hr.mem' h
   grind
theorem qE{q:kg}(k:Nat):∀{es:List gT}{m:AL}(i:Nat),nO q es m->
  (k∉m.map cG/\mz (.int q) (.int q k) es i=M Z/\lZ m k=Z/\nY m k=m)\/
  ∃j v,mz (.int q) (.int q k) es i=M (M (i+j,v))/\m[j]? =M (k,v)/\lZ m k=M v
 |_,_,i,.nil=>.inl ⟨aC,rfl,rfl,rfl⟩
 |_,_,i,.cons (e:=e) (p:=p) (es:=es) (m:=m) a hr=>by
  obtain⟨pk,pv⟩:=p;obtain⟨hk,J⟩:=a;simp only at hk J;by_cases I:pk=k
  .subst I;refine .inr ⟨0,pv,?_,aC,by simp[lZ]⟩;simp[mz,Instr.sameNow,hk,J]
  .have E:((k:Int) == (pk:Int))=false:=ZS aA;have hs:Instr.sameNow (.int q) (.int q (k:Int)) e.key=M false:=by rw[hk];simp[Instr.sameNow,E]
   obtain⟨Y,h2,h3,h4⟩|⟨j,v,Y,h2,h3⟩:=qE k (i+1) hr
   .refine .inl ⟨?_,?_,?_,?_⟩
    .grind
    .unfold mz;rw[hs];exact h2
    .unfold lZ at h3⊢
     grind
    .unfold nY at h4⊢
     grind
   .refine .inr ⟨j+1,v,?_,by simpa using h2,?_⟩
    .unfold mz;grind
    .unfold lZ at h3⊢
     grind
theorem nO.set:∀{es:List gT}{m:AL}(j:Nat)(f:gT->gT),nO q es m->(∀e,entryOf q (f e) (k,v))->nO q (es.modify j f) (m.set j (k,v))
 |_,_,j,f,.nil,hf=>by simpa using nO.nil
 |_,_,0,f,.cons a hr,hf=>by simpa using nO.cons (hf _) hr
 |_,_,j+1,f,.cons a hr,hf=>by simpa using nO.cons a (hr.set j f hf)
theorem Yp{v':aD}(hn:(m.map cG).Nodup)(J:m[j]? =M (k,v)):m.set j (k,v')=xg m k v':=by
 have E:k∈m.map cG:=bM.2 ⟨_,aX J,rfl⟩;unfold xg;rw[ZD E];refine List.ext_getElem? (λi=>?_);rw[iR,fE];obtain⟨Y,ab⟩:=aN.1 J;by_cases I:j=i
 .grind
 .rw[Zs I];cases hi:m[i]? with
  |none=>rfl
  |some p=>
   have:p.1≠k:=λe=>by
    obtain⟨ac,aa⟩:=aN.1 hi;have hp:List.Pairwise (·≠·) (m.map cG):=hn;rw[iF]at hp
    grind
   simp[this]
theorem Ej(hn:(m.map cG).Nodup)(J:m[j]? =M (k,v)):m.eraseIdx j=nY m k:=by
 induction m generalizing j with
 |nil=>simp at J
 |cons p m ih=>
  have E:=iG.1 (by simpa using hn:(p.1::m.map cG).Nodup);cases j with
  |zero=>
   simp at J;subst J
   have:nY m k=m:=iW.2 (λx hx=>by
    grind)
   unfold nY at this⊢
   grind
  |succ j=>
   have I:m[j]? =M (k,v):=by simpa using J
   have Y:p.1≠k:=λe=>E.1 (bM.2 ⟨_,aX I,e.symm⟩);have:=ih E.2 I;unfold nY at this⊢
   grind
theorem nO.erase:∀{es:List gT}{m:AL}(j:Nat),nO q es m->nO q (es.eraseIdx j) (m.eraseIdx j)
 |_,_,j,.nil=>by simpa using nO.nil
 |_,_,0,.cons a hr=>by simpa using hr
 |_,_,j+1,.cons a hr=>by simpa using nO.cons a (hr.erase j)
theorem GX(E:(m.map cG).Nodup):((xg m k v).map cG).Nodup:=by
 unfold xg
 grind
theorem wL(E:(m.map cG).Nodup):((nY m k).map cG).Nodup:=by
 unfold nY
 grind
section
variable {P:cY}{w:U}{B:Nat}{q:kg}{m:AL}{t kt e:cH}
theorem oq{E:Bool}{k:Int}(hk:P.underlying kt=M (.int q)):(Instr.checkKey E 10000 kt (.int q k)).run P w=.ok () w:=by refine MapKept.run_checkKey hk ?_ E _;simp[MapKept.IsKey]
theorem pO{es:List gT}{r:Option (Nat×aD)}(hk:P.underlying kt=M (.int q))(h:mz (.int q) (.int q k) es 0=M r):(Instr.findKey kt (.int q k) es).run P w=.ok r w:=by simp[Instr.findKey,eL hk,fL,h]
theorem lQ.lookup(h:lQ w B q m)(ht:P.underlying t=M (.map kt e))(hk:P.underlying kt=M (.int q)){z:aD}(hz:(zeroValue e).run P w=.ok z w)(k:Nat)(ok:Bool):
  (Instr.lookup t (.map (M B)) (.int q k) ok).run P w=.ok (if ok then dC #[(lZ m k).getD z,.bool (lZ m k).isSome]else(lZ m k).getD z) w:=by
 obtain⟨es,E,J,Y,_⟩:=h;obtain⟨I,h2,h3,_⟩|⟨j,v,I,h2,h3⟩:=qE k 0 Y
 .rw[h3];cases ok<;>simp[Instr.lookup,eL ht,fT J,oq hk,pO hk h2,hz,fL]
 .rw[h3];cases ok<;>simp[Instr.lookup,eL ht,fT J,oq hk,pO hk I,fL]
theorem qH{o o':Obj}(I:w.heap[B]? =M o):w.grownBy (setBlock w B o') (M B)/\(setBlock w B o').heap.size=w.heap.size:=
 ⟨⟨rfl,rfl,rfl,by simp[setBlock],λi _ J=>(heap_set I).2 i (λE=>J (by rw[E]))⟩,by simp[setBlock]⟩
theorem lQ.update(h:lQ w B q m)(ht:P.underlying t=M (.map kt e))(hk:P.underlying kt=M (.int q))(k:Nat)(v:aD):∃w',(oE t (.map (M B)) (.int q k) v).run P w=.ok () w'/\lQ w' B q (xg m k v)/\w.grownBy w' (M B)/\w'.heap.size=w.heap.size:=by
 obtain⟨es,E,I,he,hn,af,ah⟩:=h;obtain⟨h1,h2,h3,_⟩|⟨j,v0,h1,h2,h3⟩:=qE k 0 he
 .refine⟨setBlock w B (.map (es.push ⟨.int q k,v,E⟩) (E+1)),?_,⟨_,_,(heap_set I).1,?_,GX hn,?_,?_⟩,qH I⟩
  .simp[oE,eL ht,fT I,oq hk,pO hk h2,iB _ I,fL,setBlock]
  .rw[Array.toList_push];unfold xg;rw[Zs h1];exact he.append (.cons ⟨rfl,rfl⟩ .nil)
  .grind
  grind
 .rw[fJ]at h1;have aa:j<es.toList.length:=by rw[he.length];exact(aN.1 h2).1
  have ag:j<es.size:=by simpa using aa
  obtain⟨J,Y⟩:∃J,es.toList[j]? =M J:=⟨_,aO aa⟩
  have ab:J.key=.int q k:=by
   have:∀{l:List gT}{mm:AL}(i:Nat),nO q l mm->l[i]? =M J->mm[i]? =M (k,v0)->J.key=.int q k:=by
    intro l mm i hl
    induction hl generalizing i with
    |nil=>intro h;simp at h
    |cons a hr ih=>
     cases i with
     |zero=>intro h h';simp at h h';subst h;subst h';exact a.1
     |succ i=>grind
   exact this j he Y h2
  have ae:es[j]? =M J:=by simpa using Y
  refine⟨setBlock w B (.map (es.modify j λe=>{ e with key:=.int q k,val:=v }) E),?_,⟨_,_,(heap_set I).1,?_,GX hn,?_,?_⟩,qH I⟩
  .have ac:(pa (.int q (k:Int)) (.int q (k:Int))).run P w=.ok (.int q (k:Int)) w:=by simp[pa,Instr.sameBits]
   simp[oE,eL ht,fT I,oq hk,pO hk h1,iB _ I,fL,setBlock,ae,ab,ac]
  .rw[Array.toList_modify,<-Yp hn h2];exact he.set j _ (λ_=>⟨rfl,rfl⟩)
  .rw[Array.toList_modify]
   have:∀(l:List gT)(i:Nat),(l.modify i λe=>{ e with key:=.int q k,val:=v }).map (·.born)=l.map (·.born):=by
    intro l
    induction l with
    |nil=>intro i;simp
    |cons a l ih=>grind
   grind
  .intro x hx;rw[Array.toList_modify]at hx
   have:∀(l:List gT)(i:Nat),x∈(l.modify i λe=>{ e with key:=.int q k,val:=v })->∃y,y∈l/\y.born=x.born:=by
    intro l
    induction l with
    |nil=>intro i h;simp at h
    |cons a l ih=>grind
   grind
theorem ug(es:Array gT)(j:Nat)(E:j<es.size):(es.eraseIdxIfInBounds j).toList=es.toList.eraseIdx j:=by simp
theorem lQ.delete(h:lQ w B q m)(ht:P.underlying t=M (.map kt e))(hk:P.underlying kt=M (.int q))(k:Nat)(ty:cH):∃w',(kl #[t,kt] ty #[.map (M B),.int q k]).run P w=.ok (dC #[]) w'/\lQ w' B q (nY m k)/\w.grownBy w' (M B)/\w'.heap.size=w.heap.size:=by
 obtain⟨es,I,E,Y,hn,aa,ab⟩:=h;obtain⟨h1,h2,h3,h4⟩|⟨j,v0,h1,h2,h3⟩:=qE k 0 Y
 .refine⟨_,?_,⟨_,_,(heap_set E).1,by rw[h4];exact Y,wL hn,aa,ab⟩,qH E⟩;simp[kl,eL ht,fT E,oq hk,pO hk h2,iB _ E,fL,setBlock]
 .rw[fJ]at h1
  have J:j<es.size:=by
   have:j<es.toList.length:=by rw[Y.length];exact(aN.1 h2).1
   simpa using this
  refine⟨setBlock w B (.map (es.eraseIdxIfInBounds j) I),?_,⟨_,_,(heap_set E).1,?_,wL hn,?_,?_⟩,qH E⟩
  .simp[kl,eL ht,fT E,oq hk,pO hk h1,iB _ E,fL,setBlock]
  .rw[ug es j J,<-Ej hn h2];exact Y.erase j
  .rw[ug es j J]
   grind
  grind
theorem lQ.len(h:lQ w B q m)(ht:P.underlying t=M (.map kt e))(ty:cH):(mA #[t] ty #[.map (M B)]).run P w=.ok (goInt m.length) w:=by
 obtain⟨es,E,J,I,_⟩:=h;have:es.size=m.length:=by rw[<-I.length];simp
 simp[mA,eL ht,fT J,fL,this]
theorem lQ.len_nil(ht:P.underlying t=M (.map kt e))(ty:cH):(mA #[t] ty #[.map Z]).run P w=.ok (goInt 0) w:=by simp[mA,eL ht,fL]
theorem lQ.lt(h:lQ w B q m):B<w.heap.size:=by
 obtain⟨es,E,I,_⟩:=h
 grind
theorem lQ.of_block{w':U}(h:lQ w B q m)(J:w'.heap[B]? =w.heap[B]?):lQ w' B q m:=by obtain⟨es,E,I,r⟩:=h;exact⟨es,E,J.trans I,r⟩
theorem lQ.made(w:U)(q:kg):lQ (w.alloc (.map #[] 0)) w.heap.size q []:=⟨#[],0,(MapKept.heap_alloc w _).1,.nil,aC,aC,aC⟩
end
end
section
variable {es:List gT}{x y:gT}
def kZ(w:U)(B r:Nat)(q:kg)(m:AL)(L:Nat->Bool)(cnt:Nat):Prop:=
 ∃es I E seen c0,w.heap[B]? =M (.map es I)/\nO q es.toList m/\(m.map cG).Nodup/\(es.toList.map (·.born)).Nodup/\(∀e,e∈es.toList->e.born<I)/\
  w.heap[r]? =M (.mapIter (M B) E seen c0)/\(∀e,e∈es.toList->e.born<E)/\E<=c0/\E<=I/\(leftOf es seen).size=cnt/\
  (∀e k,e∈es.toList->e.key=.int q (k:Nat)->L k=!seen.contains e.born)/\∀k,L k=true->k∈m.map cG
section
variable {P:cY}{w:U}{B r:Nat}{q:kg}{m:AL}{L:Nat->Bool}{cnt:Nat}{t kt e:cH}
theorem kZ.aax(h:kZ w B r q m L cnt):lQ w B q m:=by obtain⟨es,E,I,seen,c0,J,h2,h3,h4,Y,_⟩:=h;exact⟨es,E,J,h2,h3,h4,Y⟩
theorem kZ.lt(h:kZ w B r q m L cnt):r<w.heap.size:=by
 obtain⟨es,I,E,seen,c0,Y,h2,h3,h4,h5,J,_⟩:=h
 grind
theorem kZ.ne(h:kZ w B r q m L cnt):r≠B:=by
 obtain⟨es,I,E,seen,c0,Y,h2,h3,h4,h5,J,_⟩:=h
 grind
theorem kZ.Hu{w':U}(h:kZ w B r q m L cnt)(hb:w'.heap[B]? =w.heap[B]?)(Y:w'.heap[r]? =w.heap[r]?):kZ w' B r q m L cnt:=by obtain⟨es,I,E,seen,c0,h1,h2,h3,h4,h5,J,h7⟩:=h;exact⟨es,I,E,seen,c0,hb.trans h1,h2,h3,h4,h5,Y.trans J,h7⟩
theorem lQ.range(h:lQ w B q m)(ht:P.underlying t=M (.map kt e)):∃w',(Instr.range t (.map (M B))).run P w=.ok (aM (M ⟨w.heap.size,0,Z⟩)) w'/\kZ w' B w.heap.size q m (λk=>decide (k∈m.map cG)) m.length/\w.grownBy w' Z/\w'.heap.size=w.heap.size+1:=by
 have J:=h.lt;obtain⟨es,E,hb,he,hn,Y,I⟩:=h;refine⟨_,run_range_map w t kt e B es E ht hb,⟨es,E,E,_,E,((MapKept.heap_alloc w _).2 B J).trans hb,he,hn,Y,I,(MapKept.heap_alloc w _).1,I,jE,jE,?_,?_,?_⟩,World.grownBy_alloc w _ Z,aC⟩
 .simp[leftOf,<-he.length]
 .intro x k hx hk;obtain⟨p,hp,h1,h2⟩:=he.mem hx
  grind
 simp
theorem nO.key_inj{m:AL}(h:nO q es m)(hn:(m.map cG).Nodup)(hx:x∈es)(hy:y∈es)(hk:x.key=y.key):x=y:=by
 induction h with
 |nil=>simp at hx
 |cons a hr ih=>
  rename_i I p E Y;have J:=iG.1 (by simpa using hn:(p.1::Y.map cG).Nodup)
  have far:∀z,z∈E->z.key=I.key->False:=λz hz e=>by
   obtain⟨p',hp',h1,_⟩:=hr.mem hz;rw[e,a.1]at h1
   grind
  grind
theorem nO.lZ{m:AL}(h:nO q es m)(Y:(m.map cG).Nodup){p:Nat×aD}(hp:p∈m):Hm.lZ m p.1=M p.2:=by
 obtain⟨h1,_⟩|⟨j,v,_,h2,h3⟩:=qE p.1 0 h
 .grind
 .rw[h3];have hm:=aX h2;obtain⟨i,hi,rfl⟩:=List.getElem_of_mem hp;obtain⟨I,J⟩:=aN.1 h2;have E:List.Pairwise (·≠·) (m.map cG):=Y;rw[iF]at E
  grind
theorem XV(E:(es.map (·.born)).Nodup)(I:x∈es)(J:y∈es)(h:x.born=y.born):x=y:=by
 induction es with
 |nil=>simp at I
 |cons a l ih=>
  grind
theorem kZ.next(h:kZ w B r q m L cnt)(ty:cH):(cnt=0/\(∀k,L k=false)/\(Instr.next (aM (M ⟨r,0,Z⟩)) false ty).run P w=.ok (dC #[cF false]) w)\/∃(k:Nat)(v:aD)(w':U)(ac:Nat),L k=true/\(k,v)∈m/\Hm.lZ m k=M v/\(Instr.next (aM (M ⟨r,0,Z⟩)) false ty).run P w=.ok (dC #[cF true,.int q k,v]) w'/\kZ w' B r q m (λx=>L x&&x != k) ac/\ac<cnt/\w.grownBy w' (M r)/\w'.heap.size=w.heap.size/\(Instr.entry (aM (M ⟨r,0,Z⟩))).run P w'=.ok (dC #[.int q k,v]) w':=by
 have ao:=h.ne;obtain⟨es,E,I,seen,c0,hb,he,hn,af,au,hr,hold,ar,ag,rfl,am,ah⟩:=h;obtain⟨h0,J⟩|⟨x,hx,w1,ab,J⟩:=run_next_at (P:=P) w ty r B I c0 seen es E hr hb hold ar
 .refine .inl ⟨h0,λk=>?_,J⟩;cases hk:L k
  .rfl
  .obtain⟨p,hp,rfl⟩:=bM.1 (ah k hk);obtain⟨y,hy,ap,aw⟩:=he.mem' hp;rw[am y p.1 hy ap,all_seen es seen h0 y hy]at hk;cases hk
 .obtain⟨aa,ax⟩:=mem_left hx;obtain⟨p,hp,ae,aj⟩:=he.mem aa;have aq:w1.heap[r]? =M (.mapIter (M B) I seen c0):=by rcases ab with rfl|rfl<;>exact hr
  have av:w1.heap[B]? =M (.map es E):=by rcases ab with rfl|rfl<;>exact hb
  have Y:=heap_set (o':=.mapIter (M B) I (seen.push x.born) E) aq;have ak:(setBlock w1 r (.mapIter (M B) I (seen.push x.born) E)).heap[B]? =M (.map es E):=(Y.2 B (λe1=>ao e1.symm)).trans av;rw[ae,aj]at J;have ai:=run_entry_at (P:=P) _ r B I seen es E x Y.1 ak aa af;rw[ae,aj]at ai
  refine .inr ⟨_,_,_,_,by grind,hp,he.lZ hn hp,J,
   ⟨es,E,I,_,E,ak,he,hn,af,au,Y.1,hold,ag,ag,rfl,λy k hy hk=>?_,λk hk=>ah k (by simp at hk;exact hk.1)⟩,left_shrinks es seen x hx,?_,?_,ai⟩
  .show(L k&&k != p.1)=_
   rw[am y k hy hk,contains_push]
   have:(k != p.1)=!(y.born == x.born):=by
    by_cases an:k=p.1
    .have:=he.key_inj hn hy aa (by rw[hk,ae,an])
     grind
    .have:y.born≠x.born:=λe1=>an (by
      have:=XV af hy aa e1
      grind)
     grind
   grind
  .rcases ab with rfl|rfl<;>exact⟨rfl,rfl,rfl,by simp[setBlock],λi _ hi=>Y.2 i (λe1=>hi (by rw[e1]))⟩
  .rcases ab with rfl|rfl<;>simp[setBlock]
theorem G6(a:Array gT)(seen:Array Nat):(leftOf a seen).size=(a.toList.filter λe=>!seen.contains e.born).length:=by unfold leftOf;rw[<-Array.toList_filter,Array.length_toList]
theorem kZ.delete(h:kZ w B r q m L cnt)(ht:P.underlying t=M (.map kt e))(hk:P.underlying kt=M (.int q))(k:Nat)(ty:cH):∃w' aa,(kl #[t,kt] ty #[.map (M B),.int q k]).run P w=.ok (dC #[]) w'/\kZ w' B r q (nY m k) (λx=>L x&&x != k) aa/\aa<=cnt/\w.grownBy w' (M B)/\w'.heap.size=w.heap.size:=by
 have af:=h.ne;obtain⟨es,E,Y,seen,c0,hb,he,hn,aj,aq,hr,hold,ah,ae,rfl,ap,am⟩:=h;obtain⟨h1,h2,h3,h4⟩|⟨j,v0,h1,h2,h3⟩:=qE k 0 he
 .have J:=heap_set (o':=.map es E) hb;refine⟨_,_,?_,⟨es,E,Y,seen,c0,J.1,by rw[h4];exact he,wL hn,aj,aq,(J.2 r af).trans hr,hold,ah,ae,rfl,λy k' hy I=>?_,λk' I=>?_⟩,jE,qH hb⟩
  .simp[kl,eL ht,fT hb,oq hk,pO hk h2,iB _ hb,fL,setBlock]
  .grind
  grind
 .rw[fJ]at h1;have an:j<es.toList.length:=by rw[he.length];exact(aN.1 h2).1
  have ak:j<es.size:=by simpa using an
  have J:=heap_set (o':=.map (es.eraseIdxIfInBounds j) E) hb;have ai:=List.eraseIdx_sublist es.toList j;have ab:=ug es j ak;have ag:nO q (es.eraseIdxIfInBounds j).toList (nY m k):=by rw[ab,<-Ej hn h2];exact he.erase j
  refine⟨_,_,?_,⟨_,E,Y,seen,c0,J.1,ag,wL hn,?_,?_,(J.2 r af).trans hr,?_,ah,ae,rfl,λy k' hy I=>?_,λk' I=>?_⟩,?_,qH hb⟩
  .simp[kl,eL ht,fT hb,oq hk,pO hk h1,iB _ hb,fL,setBlock]
  .grind
  .grind
  .grind
  .show(L k'&&k' != k)=_
   have ao:=hy;rw[ab]at hy;rw[ap y k' (ai.subset hy) I]
   have:k'≠k:=λe1=>by
    obtain⟨p,hp,ac,_⟩:=ag.mem ao;rw[I]at ac;simp only[Value.int.injEq,true_and]at ac;have:=(fU.1 hp).2
    grind
   simp[this]
  .simp only[dF,bne_iff_ne,ne_eq]at I;obtain⟨p,hp,rfl⟩:=bM.1 (am k' I.1);exact bM.2 ⟨p,fU.2 ⟨hp,by simp[I.2]⟩,rfl⟩
  .rw[G6,G6,ab]
   grind
end
section
variable {P:cY}(w:U){ops:Array lR}{rest:List lR}{o:lR}{a:Act}{Q:Exit->Act->U->Prop}
theorem vV(hg:o.guard=Z)(x y:nL)(t kt:cH)(J:o.op=Op.call { callee:=Callee.builtin Builtin.delete,args:=#[x,y],argTypes:=#[t,kt] })(e:cH)(q:kg)(ht:P.underlying t=M (.map kt e))(hk:P.underlying kt=M (.int q))(B r:Nat)(m:AL)(L:Nat->Bool)(cnt k:Nat)(hx:a.eval x=.map (M B))(hy:a.eval y=.int q k)(h:kZ w B r q m L cnt)(hK:∀w' E,kZ w' B r q (nY m k) (λx=>L x&&x != k) E->E<=cnt->w.grownBy w' (M B)->w'.heap.size=w.heap.size->wpList P ops Q rest (a.put o.dst (dC #[])) w'):wpList P ops Q (o::rest) a w:=by
 refine wpList_plain hg λK' Y=>?_;obtain⟨w',E,I,r1,r2,r3,r4⟩:=h.delete ht hk k o.type;unfold Oper.wp;simp[bL,J,resolve,invoke,builtin,hx,hy,I,fL];exact Y _ _ (hK w' E r1 r2 r3 r4)
theorem yT(hg:o.guard=Z)(x:nL)(t:cH)(I:o.op=Op.range t x)(kt e:cH)(q:kg)(ht:P.underlying t=M (.map kt e))(B:Nat)(m:AL)(hx:a.eval x=.map (M B))(h:lQ w B q m)(hK:∀w',kZ w' B w.heap.size q m (λk=>decide (k∈m.map cG)) m.length->w.grownBy w' Z->w'.heap.size=w.heap.size+1->wpList P ops Q rest (a.put o.dst (aM (M ⟨w.heap.size,0,Z⟩))) w'):wpList P ops Q (o::rest) a w:=by
 refine wpList_plain hg λK' J=>?_;obtain⟨w',E,r1,r2,Y⟩:=h.range (P:=P) ht;unfold Oper.wp;simp[bL,I,hx,E,fL];exact J _ _ (hK w' r1 r2 Y)
theorem yh(hg:o.guard=Z)(it:nL)(aa:o.op=Op.next it false)(B r:Nat)(q:kg)(m:AL)(L:Nat->Bool)(cnt:Nat)(ab:a.eval it=aM (M ⟨r,0,Z⟩))(h:kZ w B r q m L cnt)(J:cnt=0->(∀k,L k=false)->wpList P ops Q rest (a.put o.dst (dC #[cF false])) w)(Y:∀(k:Nat)(v:aD)(w':U)(E:Nat),L k=true->(k,v)∈m->lZ m k=M v->kZ w' B r q m (λx=>L x&&x != k) E->E<cnt->w.grownBy w' (M r)->w'.heap.size=w.heap.size->(Instr.entry (aM (M ⟨r,0,Z⟩))).run P w'=.ok (dC #[.int q k,v]) w'->wpList P ops Q rest (a.put o.dst (dC #[cF true,.int q k,v])) w'):wpList P ops Q (o::rest) a w:=by
 refine wpList_plain hg λK' ac=>?_;unfold Oper.wp;obtain⟨h0,hl,I⟩|⟨k,v,w',E,h1,h2,ae,I,h3,h4,h5,h6,h7⟩:=h.next (P:=P) o.type
 .simp[bL,aa,ab,I,fL];exact ac _ _ (J h0 hl)
 .simp[bL,aa,ab,I,fL];exact ac _ _ (Y k v w' E h1 h2 ae h3 h4 h5 h6 h7)
end
end
open Go.RowKit Go.Joins
section
variable {n g:Nat}{w w':U}{v:aD}
structure jO(XS:Nat->Prop)(w w':U):Prop where
 os:w'.os=w.os
 tape:w'.tape=w.tape
 output:w'.output=w.output
 size:w.heap.size<=w'.heap.size
 block:∀k,k<w.heap.size->¬XS k->w'.heap[k]? =w.heap[k]?
section
variable {XS M':Nat->Prop}{w w' w'':U}
theorem jO.refl(XS:Nat->Prop)(w:U):jO XS w w:=⟨rfl,rfl,rfl,jE,λ_ _ _=>rfl⟩
theorem jO.trans(h:jO XS w w')(q:jO M' w' w'')(I:∀k,k<w.heap.size->M' k->XS k):jO XS w w'':=
 ⟨q.os.trans h.os,q.tape.trans h.tape,q.output.trans h.output,bH h.size q.size,λk hk E=>(q.block k (aP hk h.size) (λe=>E (I k hk e))).trans (h.block k hk E)⟩
theorem jO.mono(h:jO XS w w')(q:∀k,k<w.heap.size->XS k->M' k):jO M' w w':=⟨h.os,h.tape,h.output,h.size,λk hk E=>h.block k hk (λe=>E (q k hk e))⟩
theorem jO.below(h:Below n w w')(q:w.heap.size<=n)(XS:Nat->Prop):jO XS w w':=⟨h.os,h.tape,h.output,h.size,λk hk _=>h.block k aA⟩
theorem jO.LJ(h:jO (λ_=>False) w w'):Below w.heap.size w w':=⟨h.os,h.tape,h.output,h.size,λk hk=>h.block k hk (λe=>e)⟩
theorem jO.grown{r:Option Nat}(h:w.grownBy w' r):jO (λk=>r=M k) w w':=⟨h.os,h.tape,h.output,h.size,λk hk q=>h.block k hk (λe=>q e.symm)⟩
theorem jO.alloc(XS:Nat->Prop)(w:U)(o:Obj):jO XS w (w.alloc o):=.below ((aJ w.heap.size w).alloc jE o) jE XS
theorem jO.set(w:U)(b i:Nat)(v:aD):jO (λk=>k=b) w (w.setCell ⟨b,i,Z⟩ v):=⟨rfl,rfl,rfl,aC,λk _ q=>aW _ _ _ _ q⟩
theorem jO.drew(XS:Nat->Prop)(w:U):jO XS w w.drew:=⟨rfl,rfl,rfl,jE,λ_ _ _=>rfl⟩
end
def Rd(w:U)(s:Nat)(v:aD)(n:Nat)(xs:List aD):Prop:=
 xs.length=n*s/\∃a cap,v=.slice a n cap/\n<=cap/\(0<n->∃g off,a=M ⟨g,off,Z⟩/\g<w.heap.size/\∀j u,xs[j]? =M u->w.cell? ⟨g,off+j,Z⟩=M u)
section
variable {w w':U}{e s:Nat}{v:aD}{n:Nat}{xs:List aD}
theorem Rd.slice(h:Rd w s v n xs):∃a cap,v=.slice a n cap:=by obtain⟨_,a,cap,q,_⟩:=h;exact⟨a,cap,q⟩
theorem Rd.pos(h:Rd w s v n xs)(I:0<n):∃g off cap,v=aR (M ⟨g,off,Z⟩) n cap/\n<=cap/\g<w.heap.size/\∀j u,xs[j]? =M u->w.cell? ⟨g,off+j,Z⟩=M u:=by
 obtain⟨_,a,cap,q,E,hp⟩:=h
 grind
theorem Rd.kept(h:Rd w s v n xs)(hs:w.heap.size<=w'.heap.size)(hk:0<n->∀g,v.ownBlock=M g->g<w.heap.size->w'.heap[g]? =w.heap[g]?):Rd w' s v n xs:=by obtain⟨I,a,cap,rfl,Y,hp⟩:=h;refine⟨I,a,cap,rfl,Y,λq=>?_⟩;obtain⟨g,off,rfl,J,hx⟩:=hp q;refine⟨g,off,rfl,aA,λj u E=>?_⟩;rw[World.cell?_of_block (a:=⟨g,off+j,Z⟩) (hk q g rfl J)];exact hx j u E
theorem Rd.below(h:Rd w s v n xs)(q:Below w.heap.size w w'):Rd w' s v n xs:=h.kept q.size (λ_ g _ E=>q.block g E)
theorem Rd.nil(w:U)(s:Nat)(a:Option Addr)(cap:Nat):Rd w s (.slice a 0 cap) 0 []:=⟨aC,a,cap,rfl,dL _,λh=>aA⟩
theorem Row.rd(h:Row w e s v n xs):Rd w s v n xs:=by
 refine⟨h.1,?_⟩;obtain⟨rfl,rfl⟩|⟨g,off,cap,I,rfl,E,q,_,_,Y⟩:=h.2
 .simp
 .refine⟨_,cap,rfl,q,λ_=>⟨g,off,rfl,(jG E),λj u J=>?_⟩⟩;have:=Y j u J;simp[World.cell?,E,this]
theorem Row.jR{XS:Nat->Prop}(h:Row w e s v n xs)(I:jO XS w w')(E:∀g,v.ownBlock=M g->¬XS g):Row w' e s v n xs:=h.kept (λg q=>I.block g (h.lt q) (E g q))
theorem Row.below(h:Row w e s v n xs)(E:Below w.heap.size w w'):Row w' e s v n xs:=h.kept (λg q=>E.block g (h.lt q))
end
section
variable {α:Type}(f:α->List aD)(s:Nat)(hf:∀x,(f x).length=s)
include hf
theorem flat_get:∀(l:List α)(j i:Nat)(x:α),l[j]? =M x->i<s->(l.flatMap f)[j*s+i]? =(f x)[i]?
 |[],j,i,x,h,_=>by simp at h
 |y::l,0,i,x,h,hi=>by
  grind
 |y::l,j+1,i,x,h,hi=>by
  rw[gY,bV (by grind),hf,<-flat_get l j i x (by simpa using h) hi]
  grind
theorem oG:∀l:List α,(l.flatMap f).length=l.length*s
 |[]=>aC
 |y::l=>by rw[gY,aS,hf,oG l,aU,iU];omega
theorem Rd.rec{l:List α}{off cap:Nat}(h:Rd w s (aR (M ⟨g,off,Z⟩) l.length cap) l.length (l.flatMap f)){j:Nat}{x:α}(q:l[j]? =M x){i:Nat}{u:aD}(hi:i<s)(hu:(f x)[i]? =M u):w.cell? ⟨g,off+(j*s+i),Z⟩=M u:=by have Y:=(aN.1 q).1;obtain⟨g',I,J,E,_,_,hx⟩:=h.pos aA;simp only[Value.slice.injEq,aK,Addr.mk.injEq,and_true,true_and]at E;obtain⟨⟨rfl,rfl⟩,rfl⟩:=E;exact hx _ _ (by rw[flat_get f s hf l j i x q hi];exact hu)
end
def Grew(v:aD)(g:Nat)(w w':U):Prop:=(v.ownBlock=M g/\w.grownBy w' (M g)/\w'.heap.size=w.heap.size)\/(g=w.heap.size/\w.grownBy w' Z/\w'.heap.size=w.heap.size+1)
theorem Grew.jR(h:Grew v g w w'):jO (λk=>v.ownBlock=M k) w w':=by
 obtain⟨e,q,_⟩|⟨_,q,_⟩:=h
 .rw[<-e]at q;exact .grown q
 .exact(jO.grown q).mono (λk _ e=>by simp at e)
theorem Grew.own(h:Grew v g w w'):v.ownBlock=M g\/w.heap.size<=g:=by
 obtain⟨e,_⟩|⟨e,_⟩:=h
 .exact .inl e
 omega
theorem Grew.keep{e s kb:Nat}{xs:List aD}{cs:Array aD}{t:Nat}{E:Nat×Nat}(h:Grew v g w w')(q:Row w e s v n xs)(hk:w.heap[kb]? =M (.cells cs t E))(Y:t≠e):w'.heap[kb]? =M (.cells cs t E):=by
 refine(h.jR.block kb (jG hk) (λJ=>?_)).trans hk;obtain⟨I,hc⟩:=q.obj J
 grind
section
variable {P:cY}(w:U){ops:Array lR}{rest:List lR}{o:lR}{a:Act}{Q:Exit->Act->U->Prop}
theorem kJ(ab:o.guard=Z)(s x:nL)(t:cH)(ho:o.op=.call { callee:=.builtin .append,args:=#[s,x],argTypes:=#[t,t] })(e:cH)(i:TypeInfo)(z:aD)(size bytes:Nat)(ht:P.underlying t=M (.slice e))(hi:P.info? e=M i)(hz:i.zero=M z)(I:i.size=size)(af:i.bytes=bytes)(ag:z.cells.size=size)(ae:0<size)(v:aD)(n:Nat)(xs:List aD)(hs:a.eval s=v)(Y:Row w e size v n xs)(ad:Addr)(m c:Nat)(q:List aD)(hx:a.eval x=aR (M ad) m c)(hm:0<m)(hl:q.length=m*size)(J:∀j u,q[j]? =M u->w.cell? (ad.add j)=M u)(h1:∀u∈q,u.oneCell'=true)(ac:n+m<=maxLen)(E:(n+m)*bytes<=140737488355328)(h:∀g off cap w',Row w' e size (aR (M ⟨g,off,Z⟩) (n+m) cap) (n+m) (xs++q)->Grew v g w w'->wpList P ops Q rest (a.put o.dst (aR (M ⟨g,off,Z⟩) (n+m) cap)) w'):wpList P ops Q (o::rest) a w:=by
 refine wpList_plain ab λK hK=>?_;obtain⟨v',w',hr,h2,⟨g,off,cap,rfl⟩,h4⟩:=Y.append (P:=P) t o.type i z bytes ht hi hz I af ag ae ad m c q hm hl J h1 ac E;unfold Oper.wp bL;simp only[ho,resolve,invoke,builtin,iZ,Sem.run_pure,iy,fQ,eP,fP,hs,hx,hr];refine hK _ _ (h g off cap w' h2 ?_);obtain⟨e1,e2,e3⟩|⟨e1,e2,e3⟩:=h4
 .have aa:v.ownBlock=M g:=e1.symm;exact .inl ⟨aa,by rw[<-aa];exact e2,e3⟩
 .exact .inr ⟨by simpa[Value.ownBlock]using e1,e2,e3⟩
end
end
end Hm
