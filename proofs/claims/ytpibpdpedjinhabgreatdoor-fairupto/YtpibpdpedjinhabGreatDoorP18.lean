import Derived.Test.YtpibpdpedjinhabGreatDoorP15
import Derived.Maps.RangeWalk
import Derived.Maps.OwnOps
import Derived.Lib.BitFns
set_option maxRecDepth 100000
set_option linter.all false
open Bool renaming false->aR,true->bB
open Go renaming IntKind->jp,MapEntry->gM,Oper->km,Operand->l8,Program->cU,TypeId->cH,Value->aD,World->X,execOp->bO,run_underlying->eB
open Go.Builtin renaming delete_->jN,len_->mi
open Go.Instr renaming findNow->mh,keyThatStays->ol,mapUpdate->nE
open Go.MapKept renaming run_getObj_map->fS,run_setObj_map->io
open Go.Result renaming andThen->fN
open Go.Value renaming bool->cM,pointer->aG,slice->aM,tuple->cP
open Option renaming none->Z,some->M
open Prod renaming fst->cI
namespace Go.Proofs.YtpibpdpedjinhabGreatDoor.Hm
open Go.ChangeMaps (setBlock)
open Go.MapKept (heap_set)
section
variable {q:jp}{k j:Nat}{v:aD}
abbrev AL:=List (Nat×aD)
variable {m:AL}
def l9(m:AL)(k:Nat):Option aD:=(m.find? (λp=>p.1 == k)).map Prod.snd
def vG(m:AL)(k:Nat)(v:aD):AL:=if k∈m.map cI then m.map (λp=>if p.1=k then(k,v)else p)else m++[(k,v)]
def nX(m:AL)(k:Nat):AL:=m.filter (λp=>p.1 != k)
def entryOf(q:jp)(e:gM)(p:Nat×aD):Prop:=e.key=.int q p.1/\e.val=p.2
inductive nS(q:jp):List gM->AL->Prop
 |nil:nS q [] []
 |cons {e:gM} {p:Nat×aD} {es:List gM} {m:AL}:entryOf q e p->nS q es m->nS q (e::es) (p::m)
def lS(w:X)(B:Nat)(q:jp)(m:AL):Prop:=
 ∃es z,w.heap[B]? =M (.map es z)/\nS q es.toList m/\(m.map cI).Nodup/\(es.toList.map (·.born)).Nodup/\∀e,e∈es.toList->e.born<z
def nS.length:∀{es:List gM}{m:AL},nS q es m->es.length=m.length
 |_,_,.nil=>rfl
 |_,_,.cons _ h=>by simp[h.length]
def nS.append:∀{es z:List gM}{m E:AL},nS q es m->nS q z E->nS q (es++z) (m++E)
 |_,_,_,_,.nil,h'=>h'
 |_,_,_,_,.cons a h,h'=>.cons a (h.append h')
def nS.mem:∀{es:List gM}{m:AL}{e:gM},nS q es m->e∈es->∃p,p∈m/\entryOf q e p
 |_,_,_,.nil,h=>by simp at h
 |_,_,_,.cons a hr,h=>by
  obtain rfl|h:=dD.1 h
  .grind
  .obtain⟨p,hp,z⟩:=hr.mem h
   grind
def nS.mem':∀{es:List gM}{m:AL}{p:Nat×aD},nS q es m->p∈m->∃e,e∈es/\entryOf q e p
 |_,_,_,.nil,h=>by simp at h
 |_,_,_,.cons a hr,h=>by
  obtain rfl|h:=dD.1 h
  .grind
  .obtain⟨p,hp,z⟩:=hr.mem' h
   grind
def qc{q:jp}(k:Nat):∀{es:List gM}{m:AL}(i:Nat),nS q es m->
  (k∉m.map cI/\mh (.int q) (.int q k) es i=M Z/\l9 m k=Z/\nX m k=m)\/
  ∃j v,mh (.int q) (.int q k) es i=M (M (i+j,v))/\m[j]? =M (k,v)/\l9 m k=M v
 |_,_,i,.nil=>.inl ⟨aC,rfl,rfl,rfl⟩
 |_,_,i,.cons (e:=e) (p:=p) (es:=es) (m:=m) a hr=>by
  obtain⟨pk,R⟩:=p;obtain⟨hk,I⟩:=a;simp only at hk I;by_cases E:pk=k
  .subst E;refine .inr ⟨0,R,?_,aC,by simp[l9]⟩;simp[mh,Instr.sameNow,hk,I]
  .have z:((k:Int) == (pk:Int))=aR:=ZS aA;have hs:Instr.sameNow (.int q) (.int q (k:Int)) e.key=M aR:=by rw[hk];simp[Instr.sameNow,z]
   obtain⟨J,h2,h3,h4⟩|⟨j,v,J,h2,h3⟩:=qc k (i+1) hr
   .refine .inl ⟨?_,?_,?_,?_⟩
    .grind
    .unfold mh;rw[hs];exact h2
    .unfold l9 at h3⊢
     grind
    .unfold nX at h4⊢
     grind
   .refine .inr ⟨j+1,v,?_,by simpa using h2,?_⟩
    .unfold mh;grind
    .unfold l9 at h3⊢
     grind
def nS.set:∀{es:List gM}{m:AL}(j:Nat)(f:gM->gM),nS q es m->(∀e,entryOf q (f e) (k,v))->nS q (es.modify j f) (m.set j (k,v))
 |_,_,j,f,.nil,hf=>by simpa using nS.nil
 |_,_,0,f,.cons a hr,hf=>by simpa using nS.cons (hf _) hr
 |_,_,j+1,f,.cons a hr,hf=>by simpa using nS.cons a (hr.set j f hf)
def XT{v':aD}(hn:(m.map cI).Nodup)(I:m[j]? =M (k,v)):m.set j (k,v')=vG m k v':=by
 have z:k∈m.map cI:=bM.2 ⟨_,aX I,rfl⟩;unfold vG;rw[ZD z];refine List.ext_getElem? (λi=>?_);rw[List.getElem?_set,fE];obtain⟨J,Y⟩:=aN.1 I;by_cases E:j=i
 .grind
 .rw[Zs E];cases hi:m[i]? with
  |none=>rfl
  |some p=>
   have:p.1≠k:=λe=>by
    obtain⟨aa,R⟩:=aN.1 hi;have hp:List.Pairwise (·≠·) (m.map cI):=hn;rw[iD]at hp
    grind
   simp[this]
def CQ(R:(m.map cI).Nodup)(I:m[j]? =M (k,v)):m.eraseIdx j=nX m k:=by
 induction m generalizing j with
 |nil=>simp at I
 |cons p m ih=>
  have z:=iE.1 (by simpa using R:(p.1::m.map cI).Nodup);cases j with
  |zero=>
   simp at I;subst I
   have:nX m k=m:=iR.2 (λx Y=>by
    grind)
   unfold nX at this⊢
   grind
  |succ j=>
   have E:m[j]? =M (k,v):=by simpa using I
   have J:p.1≠k:=λe=>z.1 (bM.2 ⟨_,aX E,e.symm⟩);have:=ih z.2 E;unfold nX at this⊢
   grind
def nS.erase:∀{es:List gM}{m:AL}(j:Nat),nS q es m->nS q (es.eraseIdx j) (m.eraseIdx j)
 |_,_,j,.nil=>by simpa using nS.nil
 |_,_,0,.cons a hr=>by simpa using hr
 |_,_,j+1,.cons a hr=>by simpa using nS.cons a (hr.erase j)
def Fz(z:(m.map cI).Nodup):((vG m k v).map cI).Nodup:=by
 unfold vG
 grind
def uV(z:(m.map cI).Nodup):((nX m k).map cI).Nodup:=by
 unfold nX
 grind
section
variable {P:cU}{w:X}{B:Nat}{q:jp}{m:AL}{t kt e:cH}
def oh{z:Bool}{k:Int}(hk:P.underlying kt=M (.int q)):(Instr.checkKey z 10000 kt (.int q k)).run P w=.ok () w:=by refine MapKept.run_checkKey hk ?_ z _;simp[MapKept.IsKey]
def pF{es:List gM}{r:Option (Nat×aD)}(hk:P.underlying kt=M (.int q))(h:mh (.int q) (.int q k) es 0=M r):(Instr.findKey kt (.int q k) es).run P w=.ok r w:=by simp[Instr.findKey,eB hk,fN,h]
def lS.lookup(h:lS w B q m)(ht:P.underlying t=M (.map kt e))(hk:P.underlying kt=M (.int q)){z:aD}(Y:(zeroValue e).run P w=.ok z w)(k:Nat)(ok:Bool):
  (Instr.lookup t (.map (M B)) (.int q k) ok).run P w=.ok (if ok then cP #[(l9 m k).getD z,.bool (l9 m k).isSome]else(l9 m k).getD z) w:=by
 obtain⟨es,E,J,R,_⟩:=h;obtain⟨I,h2,h3,_⟩|⟨j,v,I,h2,h3⟩:=qc k 0 R
 .rw[h3];cases ok<;>simp[Instr.lookup,eB ht,fS J,oh hk,pF hk h2,Y,fN]
 .rw[h3];cases ok<;>simp[Instr.lookup,eB ht,fS J,oh hk,pF hk I,fN]
def qh{o o':Obj}(E:w.heap[B]? =M o):w.grownBy (setBlock w B o') (M B)/\(setBlock w B o').heap.size=w.heap.size:=
 ⟨⟨rfl,rfl,rfl,by simp[setBlock],λi _ I=>(heap_set E).2 i (λz=>I (by rw[z]))⟩,by simp[setBlock]⟩
def lS.update(h:lS w B q m)(ht:P.underlying t=M (.map kt e))(hk:P.underlying kt=M (.int q))(k:Nat)(v:aD):∃w',(nE t (.map (M B)) (.int q k) v).run P w=.ok () w'/\lS w' B q (vG m k v)/\w.grownBy w' (M B)/\w'.heap.size=w.heap.size:=by
 obtain⟨es,z,E,he,hn,ae,ag⟩:=h;obtain⟨h1,h2,h3,_⟩|⟨j,v0,h1,h2,h3⟩:=qc k 0 he
 .refine⟨setBlock w B (.map (es.push ⟨.int q k,v,z⟩) (z+1)),?_,⟨_,_,(heap_set E).1,?_,Fz hn,?_,?_⟩,qh E⟩
  .simp[nE,eB ht,fS E,oh hk,pF hk h2,io _ E,fN,setBlock]
  .rw[Array.toList_push];unfold vG;rw[Zs h1];exact he.append (.cons ⟨rfl,rfl⟩ .nil)
  .grind
  grind
 .rw[fJ]at h1;have R:j<es.toList.length:=by rw[he.length];exact(aN.1 h2).1
  have af:j<es.size:=by simpa using R
  obtain⟨I,J⟩:∃I,es.toList[j]? =M I:=⟨_,aO R⟩
  have Y:I.key=.int q k:=by
   have:∀{l:List gM}{mm:AL}(i:Nat),nS q l mm->l[i]? =M I->mm[i]? =M (k,v0)->I.key=.int q k:=by
    intro l mm i hl
    induction hl generalizing i with
    |nil=>intro h;simp at h
    |cons a hr ih=>
     cases i with
     |zero=>intro h h';simp at h h';subst h;subst h';exact a.1
     |succ i=>grind
   exact this j he J h2
  have ac:es[j]? =M I:=by simpa using J
  refine⟨setBlock w B (.map (es.modify j λe=>{ e with key:=.int q k,val:=v }) z),?_,⟨_,_,(heap_set E).1,?_,Fz hn,?_,?_⟩,qh E⟩
  .have aa:(ol (.int q (k:Int)) (.int q (k:Int))).run P w=.ok (.int q (k:Int)) w:=by simp[ol,Instr.sameBits]
   simp[nE,eB ht,fS E,oh hk,pF hk h1,io _ E,fN,setBlock,ac,Y,aa]
  .rw[Array.toList_modify,<-XT hn h2];exact he.set j _ (λ_=>⟨rfl,rfl⟩)
  .rw[Array.toList_modify]
   have:∀(l:List gM)(i:Nat),(l.modify i λe=>{ e with key:=.int q k,val:=v }).map (·.born)=l.map (·.born):=by
    intro l
    induction l with
    |nil=>intro i;simp
    |cons a l ih=>grind
   grind
  .intro x hx;rw[Array.toList_modify]at hx
   have:∀(l:List gM)(i:Nat),x∈(l.modify i λe=>{ e with key:=.int q k,val:=v })->∃y,y∈l/\y.born=x.born:=by
    intro l
    induction l with
    |nil=>intro i h;simp at h
    |cons a l ih=>grind
   grind
def sK(es:Array gM)(j:Nat)(z:j<es.size):(es.eraseIdxIfInBounds j).toList=es.toList.eraseIdx j:=by simp
def lS.delete(h:lS w B q m)(ht:P.underlying t=M (.map kt e))(hk:P.underlying kt=M (.int q))(k:Nat)(ty:cH):∃w',(jN #[t,kt] ty #[.map (M B),.int q k]).run P w=.ok (cP #[]) w'/\lS w' B q (nX m k)/\w.grownBy w' (M B)/\w'.heap.size=w.heap.size:=by
 obtain⟨es,E,z,J,hn,R,aa⟩:=h;obtain⟨Y,h2,h3,h4⟩|⟨j,v0,Y,h2,h3⟩:=qc k 0 J
 .refine⟨_,?_,⟨_,_,(heap_set z).1,by rw[h4];exact J,uV hn,R,aa⟩,qh z⟩;simp[jN,eB ht,fS z,oh hk,pF hk h2,io _ z,fN,setBlock]
 .rw[fJ]at Y
  have I:j<es.size:=by
   have:j<es.toList.length:=by rw[J.length];exact(aN.1 h2).1
   simpa using this
  refine⟨setBlock w B (.map (es.eraseIdxIfInBounds j) E),?_,⟨_,_,(heap_set z).1,?_,uV hn,?_,?_⟩,qh z⟩
  .simp[jN,eB ht,fS z,oh hk,pF hk Y,io _ z,fN,setBlock]
  .rw[sK es j I,<-CQ hn h2];exact J.erase j
  .rw[sK es j I]
   grind
  grind
def lS.len(h:lS w B q m)(ht:P.underlying t=M (.map kt e))(ty:cH):(mi #[t] ty #[.map (M B)]).run P w=.ok (goInt m.length) w:=by
 obtain⟨es,z,I,E,_⟩:=h;have:es.size=m.length:=by rw[<-E.length];simp
 simp[mi,eB ht,fS I,fN,this]
def lS.len_nil(ht:P.underlying t=M (.map kt e))(ty:cH):(mi #[t] ty #[.map Z]).run P w=.ok (goInt 0) w:=by simp[mi,eB ht,fN]
def lS.lt(h:lS w B q m):B<w.heap.size:=by
 obtain⟨es,z,E,_⟩:=h
 grind
def lS.of_block{w':X}(h:lS w B q m)(I:w'.heap[B]? =w.heap[B]?):lS w' B q m:=by obtain⟨es,z,E,r⟩:=h;exact⟨es,z,I.trans E,r⟩
def lS.made(w:X)(q:jp):lS (w.alloc (.map #[] 0)) w.heap.size q []:=⟨#[],0,(MapKept.heap_alloc w _).1,.nil,aC,aC,aC⟩
end
end
section
variable {es:List gM}{x y:gM}
def lD(w:X)(B r:Nat)(q:jp)(m:AL)(L:Nat->Bool)(cnt:Nat):Prop:=
 ∃es E z seen c0,w.heap[B]? =M (.map es E)/\nS q es.toList m/\(m.map cI).Nodup/\(es.toList.map (·.born)).Nodup/\(∀e,e∈es.toList->e.born<E)/\
  w.heap[r]? =M (.mapIter (M B) z seen c0)/\(∀e,e∈es.toList->e.born<z)/\z<=c0/\z<=E/\(leftOf es seen).size=cnt/\
  (∀e k,e∈es.toList->e.key=.int q (k:Nat)->L k=!seen.contains e.born)/\∀k,L k=bB->k∈m.map cI
section
variable {P:cU}{w:X}{B r:Nat}{q:jp}{m:AL}{L:Nat->Bool}{cnt:Nat}{t kt e:cH}
def lD.ZE(h:lD w B r q m L cnt):lS w B q m:=by obtain⟨es,z,E,seen,c0,I,h2,h3,h4,J,_⟩:=h;exact⟨es,z,I,h2,h3,h4,J⟩
def lD.lt(h:lD w B r q m L cnt):r<w.heap.size:=by
 obtain⟨es,E,z,seen,c0,J,h2,h3,h4,R,I,_⟩:=h
 grind
def lD.ne(h:lD w B r q m L cnt):r≠B:=by
 obtain⟨es,E,z,seen,c0,J,h2,h3,h4,R,I,_⟩:=h
 grind
def lD.FP{w':X}(h:lD w B r q m L cnt)(hb:w'.heap[B]? =w.heap[B]?)(J:w'.heap[r]? =w.heap[r]?):lD w' B r q m L cnt:=by obtain⟨es,E,z,seen,c0,R,h2,h3,h4,h5,I,Y⟩:=h;exact⟨es,E,z,seen,c0,hb.trans R,h2,h3,h4,h5,J.trans I,Y⟩
def lS.range(h:lS w B q m)(ht:P.underlying t=M (.map kt e)):∃w',(Instr.range t (.map (M B))).run P w=.ok (aG (M ⟨w.heap.size,0,Z⟩)) w'/\lD w' B w.heap.size q m (λk=>decide (k∈m.map cI)) m.length/\w.grownBy w' Z/\w'.heap.size=w.heap.size+1:=by
 have I:=h.lt;obtain⟨es,z,Y,R,hn,J,E⟩:=h;refine⟨_,run_range_map w t kt e B es z ht Y,⟨es,z,z,_,z,((MapKept.heap_alloc w _).2 B I).trans Y,R,hn,J,E,(MapKept.heap_alloc w _).1,E,jB,jB,?_,?_,?_⟩,World.grownBy_alloc w _ Z,aC⟩
 .simp[leftOf,<-R.length]
 .intro x k hx hk;obtain⟨p,hp,h1,h2⟩:=R.mem hx
  grind
 simp
def nS.key_inj{m:AL}(h:nS q es m)(hn:(m.map cI).Nodup)(hx:x∈es)(hy:y∈es)(hk:x.key=y.key):x=y:=by
 induction h with
 |nil=>simp at hx
 |cons a hr ih=>
  rename_i I p E R;have J:=iE.1 (by simpa using hn:(p.1::R.map cI).Nodup)
  have far:∀z,z∈E->z.key=I.key->False:=λz hz e=>by
   obtain⟨p',hp',Y,_⟩:=hr.mem hz;rw[e,a.1]at Y
   grind
  grind
def nS.l9{m:AL}(h:nS q es m)(J:(m.map cI).Nodup){p:Nat×aD}(hp:p∈m):Hm.l9 m p.1=M p.2:=by
 obtain⟨Y,_⟩|⟨j,v,_,h2,h3⟩:=qc p.1 0 h
 .grind
 .rw[h3];have R:=aX h2;obtain⟨i,hi,rfl⟩:=List.getElem_of_mem hp;obtain⟨E,I⟩:=aN.1 h2;have z:List.Pairwise (·≠·) (m.map cI):=J;rw[iD]at z
  grind
def Xr(z:(es.map (·.born)).Nodup)(E:x∈es)(I:y∈es)(h:x.born=y.born):x=y:=by
 induction es with
 |nil=>simp at E
 |cons a l ih=>
  grind
def lD.next(h:lD w B r q m L cnt)(ty:cH):(cnt=0/\(∀k,L k=aR)/\(Instr.next (aG (M ⟨r,0,Z⟩)) aR ty).run P w=.ok (cP #[cM aR]) w)\/∃(k:Nat)(v:aD)(w':X)(aa:Nat),L k=bB/\(k,v)∈m/\Hm.l9 m k=M v/\(Instr.next (aG (M ⟨r,0,Z⟩)) aR ty).run P w=.ok (cP #[cM bB,.int q k,v]) w'/\lD w' B r q m (λx=>L x&&x != k) aa/\aa<cnt/\w.grownBy w' (M r)/\w'.heap.size=w.heap.size/\(Instr.entry (aG (M ⟨r,0,Z⟩))).run P w'=.ok (cP #[.int q k,v]) w':=by
 have an:=h.ne;obtain⟨es,z,E,seen,c0,hb,he,hn,ae,ar,hr,hold,aq,af,rfl,ak,ag⟩:=h;obtain⟨h0,I⟩|⟨x,hx,w1,Y,I⟩:=run_next_at (P:=P) w ty r B E c0 seen es z hr hb hold aq
 .refine .inl ⟨h0,λk=>?_,I⟩;cases hk:L k
  .rfl
  .obtain⟨p,hp,rfl⟩:=bM.1 (ag k hk);obtain⟨y,hy,ao,av⟩:=he.mem' hp;rw[ak y p.1 hy ao,all_seen es seen h0 y hy]at hk;cases hk
 .obtain⟨R,aw⟩:=mem_left hx;obtain⟨p,hp,ac,ai⟩:=he.mem R;have ap:w1.heap[r]? =M (.mapIter (M B) E seen c0):=by rcases Y with rfl|rfl<;>exact hr
  have au:w1.heap[B]? =M (.map es z):=by rcases Y with rfl|rfl<;>exact hb
  have J:=heap_set (o':=.mapIter (M B) E (seen.push x.born) z) ap;have aj:(setBlock w1 r (.mapIter (M B) E (seen.push x.born) z)).heap[B]? =M (.map es z):=(J.2 B (λe1=>an e1.symm)).trans au;rw[ac,ai]at I;have ah:=run_entry_at (P:=P) _ r B E seen es z x J.1 aj R ae;rw[ac,ai]at ah
  refine .inr ⟨_,_,_,_,by grind,hp,he.l9 hn hp,I,
   ⟨es,z,E,_,z,aj,he,hn,ae,ar,J.1,hold,af,af,rfl,λy k hy hk=>?_,λk hk=>ag k (by simp at hk;exact hk.1)⟩,left_shrinks es seen x hx,?_,?_,ah⟩
  .show(L k&&k != p.1)=_
   rw[ak y k hy hk,contains_push]
   have:(k != p.1)=!(y.born == x.born):=by
    by_cases am:k=p.1
    .have:=he.key_inj hn hy R (by rw[hk,ac,am])
     grind
    .have:y.born≠x.born:=λe1=>am (by
      have:=Xr ae hy R e1
      grind)
     grind
   grind
  .rcases Y with rfl|rfl<;>exact⟨rfl,rfl,rfl,by simp[setBlock],λi _ hi=>J.2 i (λe1=>hi (by rw[e1]))⟩
  .rcases Y with rfl|rfl<;>simp[setBlock]
def FH(a:Array gM)(seen:Array Nat):(leftOf a seen).size=(a.toList.filter λe=>!seen.contains e.born).length:=by unfold leftOf;rw[<-Array.toList_filter,Array.length_toList]
def lD.delete(h:lD w B r q m L cnt)(ht:P.underlying t=M (.map kt e))(hk:P.underlying kt=M (.int q))(k:Nat)(ty:cH):∃w' Y,(jN #[t,kt] ty #[.map (M B),.int q k]).run P w=.ok (cP #[]) w'/\lD w' B r q (nX m k) (λx=>L x&&x != k) Y/\Y<=cnt/\w.grownBy w' (M B)/\w'.heap.size=w.heap.size:=by
 have af:=h.ne;obtain⟨es,z,J,seen,c0,R,he,hn,aj,aq,hr,hold,ah,ae,rfl,ap,am⟩:=h;obtain⟨h1,h2,h3,h4⟩|⟨j,v0,h1,h2,h3⟩:=qc k 0 he
 .have I:=heap_set (o':=.map es z) R;refine⟨_,_,?_,⟨es,z,J,seen,c0,I.1,by rw[h4];exact he,uV hn,aj,aq,(I.2 r af).trans hr,hold,ah,ae,rfl,λy k' hy E=>?_,λk' E=>?_⟩,jB,qh R⟩
  .simp[jN,eB ht,fS R,oh hk,pF hk h2,io _ R,fN,setBlock]
  .grind
  grind
 .rw[fJ]at h1;have an:j<es.toList.length:=by rw[he.length];exact(aN.1 h2).1
  have ak:j<es.size:=by simpa using an
  have I:=heap_set (o':=.map (es.eraseIdxIfInBounds j) z) R;have ai:=List.eraseIdx_sublist es.toList j;have aa:=sK es j ak;have ag:nS q (es.eraseIdxIfInBounds j).toList (nX m k):=by rw[aa,<-CQ hn h2];exact he.erase j
  refine⟨_,_,?_,⟨_,z,J,seen,c0,I.1,ag,uV hn,?_,?_,(I.2 r af).trans hr,?_,ah,ae,rfl,λy k' hy E=>?_,λk' E=>?_⟩,?_,qh R⟩
  .simp[jN,eB ht,fS R,oh hk,pF hk h1,io _ R,fN,setBlock]
  .grind
  .grind
  .grind
  .show(L k'&&k' != k)=_
   have ao:=hy;rw[aa]at hy;rw[ap y k' (ai.subset hy) E]
   have:k'≠k:=λe1=>by
    obtain⟨p,hp,ac,_⟩:=ag.mem ao;rw[E]at ac;simp only[Value.int.injEq,true_and]at ac;have:=(fU.1 hp).2
    grind
   simp[this]
  .simp only[dF,bne_iff_ne,ne_eq]at E;obtain⟨p,hp,rfl⟩:=bM.1 (am k' E.1);exact bM.2 ⟨p,fU.2 ⟨hp,by simp[E.2]⟩,rfl⟩
  .rw[FH,FH,aa]
   grind
end
section
variable {P:cU}(w:X){ops:Array km}{rest:List km}{o:km}{a:Act}{Q:Exit->Act->X->Prop}
def uM(Y:o.guard=Z)(x y:l8)(t kt:cH)(I:o.op=Op.call { callee:=Callee.builtin Builtin.delete,args:=#[x,y],argTypes:=#[t,kt] })(e:cH)(q:jp)(ht:P.underlying t=M (.map kt e))(hk:P.underlying kt=M (.int q))(B r:Nat)(m:AL)(L:Nat->Bool)(cnt k:Nat)(hx:a.eval x=.map (M B))(hy:a.eval y=.int q k)(h:lD w B r q m L cnt)(hK:∀w' z,lD w' B r q (nX m k) (λx=>L x&&x != k) z->z<=cnt->w.grownBy w' (M B)->w'.heap.size=w.heap.size->wpList P ops Q rest (a.put o.dst (cP #[])) w'):wpList P ops Q (o::rest) a w:=by
 refine wpList_plain Y λK' J=>?_;obtain⟨w',z,E,r1,r2,R,r4⟩:=h.delete ht hk k o.type;unfold Oper.wp;simp[bO,I,resolve,invoke,builtin,hx,hy,E,fN];exact J _ _ (hK w' z r1 r2 R r4)
def xQ(R:o.guard=Z)(x:l8)(t:cH)(E:o.op=Op.range t x)(kt e:cH)(q:jp)(ht:P.underlying t=M (.map kt e))(B:Nat)(m:AL)(hx:a.eval x=.map (M B))(h:lS w B q m)(Y:∀w',lD w' B w.heap.size q m (λk=>decide (k∈m.map cI)) m.length->w.grownBy w' Z->w'.heap.size=w.heap.size+1->wpList P ops Q rest (a.put o.dst (aG (M ⟨w.heap.size,0,Z⟩))) w'):wpList P ops Q (o::rest) a w:=by
 refine wpList_plain R λK' I=>?_;obtain⟨w',z,r1,r2,J⟩:=h.range (P:=P) ht;unfold Oper.wp;simp[bO,E,hx,z,fN];exact I _ _ (Y w' r1 r2 J)
def wR(hg:o.guard=Z)(it:l8)(R:o.op=Op.next it aR)(B r:Nat)(q:jp)(m:AL)(L:Nat->Bool)(cnt:Nat)(Y:a.eval it=aG (M ⟨r,0,Z⟩))(h:lD w B r q m L cnt)(I:cnt=0->(∀k,L k=aR)->wpList P ops Q rest (a.put o.dst (cP #[cM aR])) w)(J:∀(k:Nat)(v:aD)(w':X)(z:Nat),L k=bB->(k,v)∈m->l9 m k=M v->lD w' B r q m (λx=>L x&&x != k) z->z<cnt->w.grownBy w' (M r)->w'.heap.size=w.heap.size->(Instr.entry (aG (M ⟨r,0,Z⟩))).run P w'=.ok (cP #[.int q k,v]) w'->wpList P ops Q rest (a.put o.dst (cP #[cM bB,.int q k,v])) w'):wpList P ops Q (o::rest) a w:=by
 refine wpList_plain hg λK' aa=>?_;unfold Oper.wp;obtain⟨h0,hl,E⟩|⟨k,v,w',z,h1,h2,ac,E,h3,h4,h5,h6,h7⟩:=h.next (P:=P) o.type
 .simp[bO,R,Y,E,fN];exact aa _ _ (I h0 hl)
 .simp[bO,R,Y,E,fN];exact aa _ _ (J k v w' z h1 h2 ac h3 h4 h5 h6 h7)
end
end
open Go.RowKit Go.Joins
section
variable {n g:Nat}{XS:Nat->Prop}{w w':X}{v:aD}
structure jI(XS:Nat->Prop)(w w':X):Prop where
 os:w'.os=w.os
 tape:w'.tape=w.tape
 output:w'.output=w.output
 size:w.heap.size<=w'.heap.size
 block:∀k,k<w.heap.size->¬XS k->w'.heap[k]? =w.heap[k]?
section
variable {XS M':Nat->Prop}{w w' w'':X}
def jI.refl(XS:Nat->Prop)(w:X):jI XS w w:=⟨rfl,rfl,rfl,jB,λ_ _ _=>rfl⟩
def jI.trans(h:jI XS w w')(z:jI M' w' w'')(I:∀k,k<w.heap.size->M' k->XS k):jI XS w w'':=
 ⟨z.os.trans h.os,z.tape.trans h.tape,z.output.trans h.output,bH h.size z.size,λk hk E=>(z.block k (aP hk h.size) (λe=>E (I k hk e))).trans (h.block k hk E)⟩
def jI.mono(h:jI XS w w')(z:∀k,k<w.heap.size->XS k->M' k):jI M' w w':=⟨h.os,h.tape,h.output,h.size,λk hk E=>h.block k hk (λe=>E (z k hk e))⟩
def jI.below(h:Below n w w')(z:w.heap.size<=n)(XS:Nat->Prop):jI XS w w':=⟨h.os,h.tape,h.output,h.size,λk hk _=>h.block k aA⟩
def jI.lQ(h:jI (λ_=>False) w w'):Below w.heap.size w w':=⟨h.os,h.tape,h.output,h.size,λk hk=>h.block k hk (λe=>e)⟩
def jI.grown{r:Option Nat}(h:w.grownBy w' r):jI (λk=>r=M k) w w':=⟨h.os,h.tape,h.output,h.size,λk hk z=>h.block k hk (λe=>z e.symm)⟩
def jI.alloc(XS:Nat->Prop)(w:X)(o:Obj):jI XS w (w.alloc o):=.below ((aJ w.heap.size w).alloc jB o) jB XS
def jI.set(w:X)(b i:Nat)(v:aD):jI (λk=>k=b) w (w.setCell ⟨b,i,Z⟩ v):=⟨rfl,rfl,rfl,aC,λk _ z=>aW _ _ _ _ z⟩
def jI.drew(XS:Nat->Prop)(w:X):jI XS w w.drew:=⟨rfl,rfl,rfl,jB,λ_ _ _=>rfl⟩
end
def Rd(w:X)(s:Nat)(v:aD)(n:Nat)(xs:List aD):Prop:=
 xs.length=n*s/\∃a cap,v=.slice a n cap/\n<=cap/\(0<n->∃g off,a=M ⟨g,off,Z⟩/\g<w.heap.size/\∀j u,xs[j]? =M u->w.cell? ⟨g,off+j,Z⟩=M u)
section
variable {w w':X}{e s:Nat}{v:aD}{n:Nat}{xs:List aD}
def Rd.slice(h:Rd w s v n xs):∃a cap,v=.slice a n cap:=by obtain⟨_,a,cap,z,_⟩:=h;exact⟨a,cap,z⟩
def Rd.pos(h:Rd w s v n xs)(E:0<n):∃g off cap,v=aM (M ⟨g,off,Z⟩) n cap/\n<=cap/\g<w.heap.size/\∀j u,xs[j]? =M u->w.cell? ⟨g,off+j,Z⟩=M u:=by
 obtain⟨_,a,cap,z,hc,hp⟩:=h
 grind
def Rd.kept(h:Rd w s v n xs)(hs:w.heap.size<=w'.heap.size)(hk:0<n->∀g,v.ownBlock=M g->g<w.heap.size->w'.heap[g]? =w.heap[g]?):Rd w' s v n xs:=by obtain⟨I,a,cap,rfl,hc,hp⟩:=h;refine⟨I,a,cap,rfl,hc,λz=>?_⟩;obtain⟨g,off,rfl,J,R⟩:=hp z;refine⟨g,off,rfl,aA,λj u E=>?_⟩;rw[World.cell?_of_block (a:=⟨g,off+j,Z⟩) (hk z g rfl J)];exact R j u E
def Rd.below(h:Rd w s v n xs)(z:Below w.heap.size w w'):Rd w' s v n xs:=h.kept z.size (λ_ g _ E=>z.block g E)
def Rd.jM(h:Rd w s v n xs)(z:jI XS w w')(I:0<n->∀g,v.ownBlock=M g->¬XS g):Rd w' s v n xs:=h.kept z.size (λR g J E=>z.block g E (I R g J))
def Rd.nil(w:X)(s:Nat)(a:Option Addr)(cap:Nat):Rd w s (.slice a 0 cap) 0 []:=⟨aC,a,cap,rfl,dL _,λh=>aA⟩
def Row.rd(h:Row w e s v n xs):Rd w s v n xs:=by
 refine⟨h.1,?_⟩;obtain⟨rfl,rfl⟩|⟨g,off,cap,I,rfl,E,z,_,_,R⟩:=h.2
 .simp
 .refine⟨_,cap,rfl,z,λ_=>⟨g,off,rfl,(jE E),λj u J=>?_⟩⟩;have:=R j u J;simp[World.cell?,E,this]
def Row.jM(h:Row w e s v n xs)(I:jI XS w w')(E:∀g,v.ownBlock=M g->¬XS g):Row w' e s v n xs:=h.kept (λg z=>I.block g (h.lt z) (E g z))
def Row.below(h:Row w e s v n xs)(E:Below w.heap.size w w'):Row w' e s v n xs:=h.kept (λg z=>E.block g (h.lt z))
end
section
variable {α:Type}(f:α->List aD)(s:Nat)(hf:∀x,(f x).length=s)
include hf
def flat_get:∀(l:List α)(j i:Nat)(x:α),l[j]? =M x->i<s->(l.flatMap f)[j*s+i]? =(f x)[i]?
 |[],j,i,x,h,_=>by simp at h
 |y::l,0,i,x,h,hi=>by
  grind
 |y::l,j+1,i,x,h,hi=>by
  rw[gY,bV (by grind),hf,<-flat_get l j i x (by simpa using h) hi]
  grind
def mQ:∀l:List α,(l.flatMap f).length=l.length*s
 |[]=>aC
 |y::l=>by rw[gY,aS,hf,mQ l,aU,iP];omega
def Rd.rec{l:List α}{off cap:Nat}(h:Rd w s (aM (M ⟨g,off,Z⟩) l.length cap) l.length (l.flatMap f)){j:Nat}{x:α}(z:l[j]? =M x){i:Nat}{u:aD}(hi:i<s)(Y:(f x)[i]? =M u):w.cell? ⟨g,off+(j*s+i),Z⟩=M u:=by have R:=(aN.1 z).1;obtain⟨g',I,J,E,_,_,hx⟩:=h.pos aA;simp only[Value.slice.injEq,aK,Addr.mk.injEq,and_true,true_and]at E;obtain⟨⟨rfl,rfl⟩,rfl⟩:=E;exact hx _ _ (by rw[flat_get f s hf l j i x z hi];exact Y)
end
def Grew(v:aD)(g:Nat)(w w':X):Prop:=(v.ownBlock=M g/\w.grownBy w' (M g)/\w'.heap.size=w.heap.size)\/(g=w.heap.size/\w.grownBy w' Z/\w'.heap.size=w.heap.size+1)
def Grew.jM(h:Grew v g w w'):jI (λk=>v.ownBlock=M k) w w':=by
 obtain⟨e,z,_⟩|⟨_,z,_⟩:=h
 .rw[<-e]at z;exact .grown z
 .exact(jI.grown z).mono (λk _ e=>by simp at e)
def Grew.own(h:Grew v g w w'):v.ownBlock=M g\/w.heap.size<=g:=by
 obtain⟨e,_⟩|⟨e,_⟩:=h
 .exact .inl e
 omega
def Grew.keep{e s kb:Nat}{xs:List aD}{cs:Array aD}{t:Nat}{E:Nat×Nat}(h:Grew v g w w')(z:Row w e s v n xs)(hk:w.heap[kb]? =M (.cells cs t E))(R:t≠e):w'.heap[kb]? =M (.cells cs t E):=by
 refine(h.jM.block kb (jE hk) (λJ=>?_)).trans hk;obtain⟨I,hc⟩:=z.obj J
 grind
section
variable {P:cU}(w:X){ops:Array km}{rest:List km}{o:km}{a:Act}{Q:Exit->Act->X->Prop}
def kX(ac:o.guard=Z)(s x:l8)(t:cH)(ho:o.op=.call { callee:=.builtin .append,args:=#[s,x],argTypes:=#[t,t] })(e:cH)(i:TypeInfo)(z:aD)(size bytes:Nat)(ht:P.underlying t=M (.slice e))(hi:P.info? e=M i)(hz:i.zero=M z)(J:i.size=size)(ag:i.bytes=bytes)(ah:z.cells.size=size)(af:0<size)(v:aD)(n:Nat)(xs:List aD)(hs:a.eval s=v)(Y:Row w e size v n xs)(ad:Addr)(m c:Nat)(E:List aD)(hx:a.eval x=aM (M ad) m c)(hm:0<m)(hl:E.length=m*size)(R:∀j u,E[j]? =M u->w.cell? (ad.add j)=M u)(h1:∀u∈E,u.oneCell'=bB)(ae:n+m<=maxLen)(I:(n+m)*bytes<=140737488355328)(h:∀g off cap w',Row w' e size (aM (M ⟨g,off,Z⟩) (n+m) cap) (n+m) (xs++E)->Grew v g w w'->wpList P ops Q rest (a.put o.dst (aM (M ⟨g,off,Z⟩) (n+m) cap)) w'):wpList P ops Q (o::rest) a w:=by
 refine wpList_plain ac λK hK=>?_;obtain⟨v',w',hr,h2,⟨g,off,cap,rfl⟩,h4⟩:=Y.append (P:=P) t o.type i z bytes ht hi hz J ag ah af ad m c E hm hl R h1 ae I;unfold Oper.wp bO;simp only[ho,resolve,invoke,builtin,iU,Sem.run_pure,iq,fQ,eP,fP,hs,hx,hr];refine hK _ _ (h g off cap w' h2 ?_);obtain⟨e1,e2,e3⟩|⟨e1,e2,e3⟩:=h4
 .have aa:v.ownBlock=M g:=e1.symm;exact .inl ⟨aa,by rw[<-aa];exact e2,e3⟩
 .exact .inr ⟨by simpa[Value.ownBlock]using e1,e2,e3⟩
end
end
end Go.Proofs.YtpibpdpedjinhabGreatDoor.Hm
namespace Go.Proofs.YtpibpdpedjinhabGreatDoor.Sq
def piece:List UInt8->Option (List UInt8×Nat)
 |[]=>Z
 |c::r=>
  if c.toNat<128 then(if c.toNat+1<=r.length then M (r.take (c.toNat+1),c.toNat+2)else Z)
  else if c.toNat=128 then Z
  else match r with
   |[]=>Z
   |b::_=>M (List.replicate (257-c.toNat) b,2)
def spread:Nat->List UInt8->Int->List UInt8->List UInt8×Bool
 |0,_,_,out=>(out,bB)
 |f+1,s,most,out=>
  if s=[]then(out,bB)else
  match piece s with
  |none=>(out,aR)
  |some (t,n)=>if max most 0<(out.length:Int)+t.length then(out++t.take ((max most 0).toNat-out.length),aR)else spread f (s.drop n) most (out++t)
def O7(f:Nat)(most:Int)(out:List UInt8):spread f [] most out=(out,bB):=by
 cases f<;>simp[spread]
def Ns(f:Nat)(s:List UInt8)(most:Int)(out:List UInt8)(I:0<s.length)(E:s.length<=f)(hp:piece s=Z):spread f s most out=(out,aR):=by
 obtain⟨z,rfl⟩:∃z,f=z+1:=⟨f-1,aA⟩
 rw[spread,Zs (by grind),hp]
def zU(f:Nat)(s:List UInt8)(most:Int)(out t:List UInt8)(n:Nat)(I:0<s.length)(E:s.length<=f)(hp:piece s=M (t,n)):
  spread f s most out=if max most 0<(out.length:Int)+t.length then(out++t.take ((max most 0).toNat-out.length),aR)else spread (f-1) (s.drop n) most (out++t):=by
 obtain⟨z,rfl⟩:∃z,f=z+1:=⟨f-1,aA⟩
 rw[spread,Zs (by grind),hp];rfl
def LH(s:List UInt8)(t:List UInt8)(n:Nat)(h:piece s=M (t,n)):2<=n/\n<=s.length/\1<=t.length/\t.length<=128:=by
 cases s with
 |nil=>simp[piece]at h
 |cons c r=>
  simp only[piece]at h;have hc:=c.toNat_lt
  grind
end Go.Proofs.YtpibpdpedjinhabGreatDoor.Sq
namespace Go.Proofs.YtpibpdpedjinhabGreatDoor.Im
section
variable {l:List Nat}{n:Nat}
structure It where
 list:Bool
 bytes:List UInt8
 kids:List It
variable {i:It}
def wt:Nat->It->Nat
 |0,_=>0
 |n+1,i=>i.bytes.length+1+(i.kids.map (wt n)).sum
def acy{x:Nat}(h:x∈l):x<=l.sum:=by
 induction l with
 |nil=>cases h
 |cons a l ih=>
  grind
def adT{k:It}(h:k∈i.kids):wt n k+1<=wt (n+1) i:=by have:wt n k∈i.kids.map (wt n):=bM.2 ⟨k,h,rfl⟩;have:=acy this;simp only[wt];omega
def ZW(h:∀x,x∈l->1<=x):l.length<=l.sum:=by
 induction l with
 |nil=>simp
 |cons a l ih=>
  have z:=h a (dQ ..)
  grind
def dp:Nat->It->Prop
 |0,_=>False
 |n+1,i=>∀k,k∈i.kids->dp n k
def ac2(h:dp n i):1<=wt n i:=by
 cases n with
 |zero=>cases h
 |succ n=>simp only[wt];omega
def QZ(h:dp n i):i.kids.length+i.bytes.length+1<=wt n i:=by
 cases n with
 |zero=>cases h
 |succ n=>
  have:=ZW (l:=i.kids.map (wt n)) (λx z=>by
   obtain⟨k,hk,rfl⟩:=bM.1 z;exact ac2 (h k hk))
  rw[bC]at this;simp only[wt];omega
end
def val:List UInt8->Nat->Nat
 |[],a=>a
 |x::r,a=>val r (256*a+x.toNat)
def val_append:∀(a b:List UInt8)(n:Nat),val (a++b) n=val b (val a n)
 |[],_,_=>rfl
 |x::a,b,n=>by simp only[dN,val];exact val_append a b _
def chk(l:Bool)(s:List UInt8)(z n:Nat):Option (Bool×Nat×Nat):=
 if s.length-z<n then Z else if l=aR/\n=1/\(s.getD z 0).toNat<128 then Z else M (l,z,z+n)
def far(l:Bool)(s:List UInt8)(z:Nat):Option (Bool×Nat×Nat):=
 if s.length<z\/s.getD 1 0=0 then Z else if val ((s.take z).drop 1) 0<=55 then Z else chk l s z (val ((s.take z).drop 1) 0)
def body(s:List UInt8):Option (Bool×Nat×Nat):=
 match s with
 |[]=>Z
 |c::_=>
  if c.toNat<128 then M (aR,0,1)
  else if c.toNat<=183 then chk aR s 1 (c.toNat-128)
  else if c.toNat<=187 then far aR s (1+(c.toNat-183))
  else if c.toNat<192 then Z
  else if c.toNat<=247 then chk bB s 1 (c.toNat-192)
  else if c.toNat<=251 then far bB s (1+(c.toNat-247))
  else Z
def Nc{l:Bool}{s:List UInt8}{f n:Nat}{x:Bool×Nat×Nat}(h:chk l s f n=M x):x=(l,f,f+n)/\n<=s.length-f/\(l=aR->n=1->128<=(s.getD f 0).toNat):=by
 unfold chk at h
 grind
def many(g:List UInt8->Option (It×Nat)):Nat->List UInt8->Option (List It)
 |0,s=>if s=[]then M []else Z
 |f+1,s=>if s=[]then M []else match g s with
  |none=>Z
  |some (i,n)=>(many g f (s.drop n)).map (λl=>i::l)
def read(b:List UInt8->Option (Bool×Nat×Nat)):Nat->List UInt8->Option (It×Nat)
 |0,s=>match b s with
  |some (aR,f,t)=>M (⟨aR,(s.take t).drop f,[]⟩,t)
  |_=>Z
 |d+1,s=>match b s with
  |none=>Z
  |some (aR,f,t)=>M (⟨aR,(s.take t).drop f,[]⟩,t)
  |some (bB,f,t)=>(many (read b d) s.length ((s.take t).drop f)).map (λl=>(⟨bB,[],l⟩,t))
def WT(g:List UInt8->Option (It×Nat))(f:Nat):many g f []=M []:=by cases f<;>simp[many]
def rb(s:List UInt8):Option (Bool×Nat×Nat):=
 match s with
 |[]=>Z
 |c::_=>
  if c.toNat<128 then M (aR,0,1)
  else if c.toNat-(if 192<=c.toNat then 192 else 128)<=55 then
   (if s.length<1+(c.toNat-(if 192<=c.toNat then 192 else 128))then Z else M (decide (192<=c.toNat),1,1+(c.toNat-(if 192<=c.toNat then 192 else 128))))
  else if 4<c.toNat-(if 192<=c.toNat then 192 else 128)-55\/s.length<1+(c.toNat-(if 192<=c.toNat then 192 else 128)-55)then Z
  else if s.length<1+(c.toNat-(if 192<=c.toNat then 192 else 128)-55)+val ((s.take (1+(c.toNat-(if 192<=c.toNat then 192 else 128)-55))).drop 1) 0 then Z
  else M (decide (192<=c.toNat),1+(c.toNat-(if 192<=c.toNat then 192 else 128)-55),1+(c.toNat-(if 192<=c.toNat then 192 else 128)-55)+val ((s.take (1+(c.toNat-(if 192<=c.toNat then 192 else 128)-55))).drop 1) 0)
def OD(s:List UInt8)(x:Bool×Nat×Nat)(h:body s=M x):rb s=M x:=by
 cases s with
 |nil=>simp[body]at h
 |cons c r=>
  have hc:=c.toNat_lt;simp only[body]at h;simp only[rb]
  have Y:∀(l:Bool)(z:Nat),(if 192<=c.toNat then 192 else 128)=z->decide (192<=c.toNat)=l->c.toNat-z<=55->chk l (c::r) 1 (c.toNat-z)=M x->¬c.toNat<128->(if c.toNat<128 then M (aR,0,1)
    else if c.toNat-(if 192<=c.toNat then 192 else 128)<=55 then
   (if (c::r).length<1+(c.toNat-(if 192<=c.toNat then 192 else 128))then Z else M (decide (192<=c.toNat),1,1+(c.toNat-(if 192<=c.toNat then 192 else 128))))
  else if 4<c.toNat-(if 192<=c.toNat then 192 else 128)-55\/(c::r).length<1+(c.toNat-(if 192<=c.toNat then 192 else 128)-55)then Z
  else if (c::r).length<1+(c.toNat-(if 192<=c.toNat then 192 else 128)-55)+val (((c::r).take (1+(c.toNat-(if 192<=c.toNat then 192 else 128)-55))).drop 1) 0 then Z
  else M (decide (192<=c.toNat),1+(c.toNat-(if 192<=c.toNat then 192 else 128)-55),1+(c.toNat-(if 192<=c.toNat then 192 else 128)-55)+val (((c::r).take (1+(c.toNat-(if 192<=c.toNat then 192 else 128)-55))).drop 1) 0))=M x:=by
   intro l z I J h1 h2 h3;obtain⟨R,hn,_⟩:=Nc h2;rw[Zs h3,I,J,ZD h1,Zs (by grind),R]
  have E:∀(l:Bool)(z:Nat),(if 192<=c.toNat then 192 else 128)=z->decide (192<=c.toNat)=l->55<c.toNat-z->c.toNat-z<=59->far l (c::r) (1+(c.toNat-z-55))=M x->¬c.toNat<128->(if c.toNat<128 then M (aR,0,1)
    else if c.toNat-(if 192<=c.toNat then 192 else 128)<=55 then
   (if (c::r).length<1+(c.toNat-(if 192<=c.toNat then 192 else 128))then Z else M (decide (192<=c.toNat),1,1+(c.toNat-(if 192<=c.toNat then 192 else 128))))
  else if 4<c.toNat-(if 192<=c.toNat then 192 else 128)-55\/(c::r).length<1+(c.toNat-(if 192<=c.toNat then 192 else 128)-55)then Z
  else if (c::r).length<1+(c.toNat-(if 192<=c.toNat then 192 else 128)-55)+val (((c::r).take (1+(c.toNat-(if 192<=c.toNat then 192 else 128)-55))).drop 1) 0 then Z
  else M (decide (192<=c.toNat),1+(c.toNat-(if 192<=c.toNat then 192 else 128)-55),1+(c.toNat-(if 192<=c.toNat then 192 else 128)-55)+val (((c::r).take (1+(c.toNat-(if 192<=c.toNat then 192 else 128)-55))).drop 1) 0))=M x:=by
   intro l z I J h1 aa h2 h3;unfold far at h2;split at h2
   .simp at h2
   .rename_i hg;split at h2
    .simp at h2
    .obtain⟨R,hn,_⟩:=Nc h2;rw[Zs h3,I,J,Zs aA,Zs aA,Zs aA,R]
  grind
section
variable {g:List UInt8->Option (It×Nat)}{s:List UInt8}{l:List It}{p d f t:Nat}{b:List UInt8->Option (Bool×Nat×Nat)}
inductive nJ(g:List UInt8->Option (It×Nat))(s:List UInt8):List It->Nat->Prop
 |nil:nJ g s [] 0
 |snoc {l:List It} {p:Nat} {i:It} {n:Nat}:nJ g s l p->p<s.length->g (s.drop p)=M (i,n)->nJ g s (l++[i]) (p+n)
def Fair(g:List UInt8->Option (It×Nat)):Prop:=∀s i n,g s=M (i,n)->1<=n/\n<=s.length
def nJ.le(z:Fair g)(h:nJ g s l p):p<=s.length/\l.length<=p:=by
 induction h with
 |nil=>simp
 |snoc h hp hgs ih=>
  have:=z _ _ _ hgs
  grind
def nJ.many(h:nJ g s l p):∀f,l.length<=f->Im.many g f s=(Im.many g (f-l.length) (s.drop p)).map (λr=>l++r):=by
 induction h with
 |nil=>intro f _;simp
 |@snoc l p i n h hp hgs ih=>
  intro f J;simp only[aS,aU,bY]at J⊢;rw[ih f aA];obtain⟨z,I⟩:∃z,f-l.length=z+1:=⟨f-l.length-1,aA⟩
  have E:s.drop p≠[]:=by intro e;have:=Z1 List.length e;simp at this;omega
  rw[I,Im.many,Zs E,hgs];simp only;rw[show f-(l.length+(0+1))=z from by omega,iC];cases Im.many g z (s.drop (p+n))<;>simp
def nJ.all(z:Fair g)(h:nJ g s l p)(f:Nat)(E:s.length<=f)(hp:s.length<=p):Im.many g f s=M l:=by have:=h.le z;rw[h.many f aA,List.drop_of_length_le hp,WT];simp
def nJ.stuck(J:Fair g)(h:nJ g s l p)(f:Nat)(Y:s.length<=f)(hp:p<s.length)(R:g (s.drop p)=Z):Im.many g f s=Z:=by
 have:=h.le J;rw[h.many f aA];obtain⟨I,E⟩:∃I,f-l.length=I+1:=⟨f-l.length-1,aA⟩
 have z:s.drop p≠[]:=by intro e;have:=Z1 List.length e;simp at this;omega
 rw[E,Im.many,Zs z,R];rfl
def F5(g:List UInt8->Option (It×Nat)):∀(f:Nat)(s:List UInt8)(l:List It),Im.many g f s=M l->Fair g->∀(h:It->Nat),(∀s' i n,g s'=M (i,n)->h i<=2*n)->(l.map h).sum<=2*s.length
 |0,s,l,hm,_,h,_=>by
  simp only[Im.many]at hm
  grind
 |f+1,s,l,hm,hg,h,hh=>by
  rw[Im.many]at hm;split at hm
  .grind
  .cases z:g s with
   |none=>grind
   |some x=>
    obtain⟨i,n⟩:=x;rw[z]at hm;simp only at hm;obtain⟨t,ht,rfl⟩:=bI.1 hm;have E:=hg s i n z;have h2:=F5 g f _ t ht hg h hh
    grind
def KT(g:List UInt8->Option (It×Nat)):∀(f:Nat)(s:List UInt8)(l:List It),Im.many g f s=M l->∀k,k∈l->∃s' n,g s'=M (k,n)
 |0,s,l,hm,k,hk=>by
  simp only[Im.many]at hm
  grind
 |f+1,s,l,hm,k,hk=>by
  rw[Im.many]at hm;split at hm
  .grind
  .cases z:g s with
   |none=>grind
   |some x=>
    obtain⟨i,n⟩:=x;rw[z]at hm;simp only at hm;obtain⟨t,ht,rfl⟩:=bI.1 hm;obtain rfl|hk:=dD.1 hk
    .exact⟨s,n,z⟩
    .exact KT g f _ t ht k hk
def GN(g g':List UInt8->Option (It×Nat))(E:∀s x,g s=M x->g' s=M x):∀(f:Nat)(s:List UInt8)(l:List It),Im.many g f s=M l->Im.many g' f s=M l
 |0,s,l,hm=>hm
 |f+1,s,l,hm=>by
  rw[Im.many]at hm⊢;split at hm
  .grind
  .rename_i e;rw[Zs e];cases z:g s with
   |none=>grind
   |some x=>
    obtain⟨i,n⟩:=x;rw[z]at hm;simp only at hm;obtain⟨t,ht,rfl⟩:=bI.1 hm;rw[E s _ z];simp only;rw[GN g g' E f _ t ht];rfl
def qX(b:List UInt8->Option (Bool×Nat×Nat)):Nat->List UInt8->Option (It×Nat)
 |0,_=>Z
 |d+1,s=>match b s with
  |none=>Z
  |some (aR,f,t)=>M (⟨aR,(s.take t).drop f,[]⟩,t)
  |some (bB,f,t)=>(many (qX b d) s.length ((s.take t).drop f)).map (λl=>(⟨bB,[],l⟩,t))
def uP(h:b s=M (aR,f,t)):qX b (d+1) s=M (⟨aR,(s.take t).drop f,[]⟩,t):=by rw[qX,h]
def xg(h:b s=M (bB,f,t)):qX b (d+1) s=(many (qX b d) s.length ((s.take t).drop f)).map (λl=>(⟨bB,[],l⟩,t)):=by rw[qX,h]
def AY(h:b s=Z):qX b (d+1) s=Z:=by rw[qX,h]
def Cc(h:b s=M (aR,f,t)):read b d s=M (⟨aR,(s.take t).drop f,[]⟩,t):=by cases d<;>rw[read,h]
def Gg(h:b s=M (bB,f,t)):read b (d+1) s=(many (read b d) s.length ((s.take t).drop f)).map (λl=>(⟨bB,[],l⟩,t)):=by rw[read,h]
def AV(h:b s=M (bB,f,t)):read b 0 s=Z:=by rw[read,h]
def uZ(h:b s=Z):read b d s=Z:=by cases d<;>rw[read,h]
def Ew(b:List UInt8->Option (Bool×Nat×Nat)):∀(d:Nat)(s:List UInt8)(x:It×Nat),read b d s=M x->qX b (d+1) s=M x:=by
 intro d
 induction d with
 |zero=>
  intro s x h;cases z:b s with
  |none=>rw[uZ z]at h;simp at h
  |some y=>
   obtain⟨l,f,t⟩:=y;cases l with
   |true=>rw[AV z]at h;simp at h
   |false=>rw[Cc z]at h;rw[uP z];exact h
 |succ d ih=>
  intro s x h;cases z:b s with
  |none=>rw[uZ z]at h;simp at h
  |some y=>
   obtain⟨l,f,t⟩:=y;cases l with
   |false=>rw[Cc z]at h;rw[uP z];exact h
   |true=>
    rw[Gg z]at h;obtain⟨I,E,rfl⟩:=bI.1 h;rw[xg z,GN (read b d) (qX b (d+1)) ih _ _ _ E];rfl
def Body(b:List UInt8->Option (Bool×Nat×Nat)):Prop:=∀s l f t,b s=M (l,f,t)->f<=t/\t<=s.length/\1<=t/\(l=bB->1<=f)
def Dp(E:Body b)(d:Nat):Fair (qX b d):=by
 intro s i n h;cases d with
 |zero=>simp[qX]at h
 |succ d=>
  cases z:b s with
  |none=>rw[AY z]at h;simp at h
  |some y=>
   obtain⟨l,f,t⟩:=y;have:=E s l f t z;cases l with
   |false=>rw[uP z]at h;simp at h;omega
   |true=>
    rw[xg z]at h;obtain⟨J,I,R⟩:=bI.1 h
    grind
def rZ(z:Body b)(d:Nat):Fair (read b d):=λs i n h=>Dp z (d+1) s i n (Ew b d s _ h)
def CG{b:List UInt8->Option (Bool×Nat×Nat)}(E:Body b):∀(d:Nat)(s:List UInt8)(i:It)(n:Nat),qX b d s=M (i,n)->dp d i/\wt d i<=2*n
 |0,s,i,n,h=>by simp[qX]at h
 |d+1,s,i,n,h=>by
  cases z:b s with
  |none=>rw[AY z]at h;simp at h
  |some y=>
   obtain⟨l,f,t⟩:=y;have hq:=E s l f t z;cases l with
   |false=>
    rw[uP z]at h;simp only[aK,dJ]at h;obtain⟨rfl,rfl⟩:=h;refine⟨λk hk=>by simp at hk,?_⟩;simp only[wt,fP,List.sum_nil,dW,bK];omega
   |true=>
    rw[xg z]at h;obtain⟨ks,R,J⟩:=bI.1 h;simp only[dJ]at J;obtain⟨rfl,rfl⟩:=J;refine⟨λk hk=>?_,?_⟩
    .obtain⟨s',Y,I⟩:=KT _ _ _ _ R k hk;exact(CG E d s' k Y I).1
    .have:=F5 _ _ _ _ R (Dp E d) _ (λs' i n h=>(CG E d s' i n h).2);simp only[dW,bK]at this;have:=hq.2.2.2 rfl;simp only[wt,bY];omega
def aaC(z:Body b)(d:Nat)(s:List UInt8)(i:It)(n:Nat)(h:read b d s=M (i,n)):dp (d+1) i/\wt (d+1) i<=2*n:=CG z (d+1) s i n (Ew b d s _ h)
def Zy:Body rb:=by
 intro s l f t h;cases s with
 |nil=>simp[rb]at h
 |cons c r=>
  have hc:=c.toNat_lt;simp only[rb]at h
  grind
def oZ:Body body:=λs l f t h=>Zy s l f t (OD s _ h)
end
end Go.Proofs.YtpibpdpedjinhabGreatDoor.Im
namespace Go.Proofs.YtpibpdpedjinhabGreatDoor
namespace Im
def dec(s:List UInt8):Option It:=match read body 8 s with
 |some (i,n)=>if n=s.length then M i else Z
 |none=>Z
end Im
end Go.Proofs.YtpibpdpedjinhabGreatDoor
namespace Go.Proofs.YtpibpdpedjinhabGreatDoor.Dv
open Fr (F)
section
structure Tx where
 fr:Nat
 dest:Nat
 data:List UInt8
structure X2 where
 id:Int
 time:Int
 txs:List Tx
 logs:List (List UInt8)
instance:Inhabited X2:=⟨⟨0,0,[],[]⟩⟩
structure Cf where
 inbox:Nat
 batcher:Nat
 timeout:Int
 window:Int
 drift:Int
 step:Int
 most:Int
structure Ch where
 name:Nat
 opened:Nat
 l:List F
 spoilt:Bool
structure Ba where
 epoch:Nat
 id:Nat
 time:Nat
 txs:List (List UInt8)
 place:Nat
structure Lo where
 number:Nat
 time:Int
 epoch:Nat
 id:Int
 seq:Nat
 txs:List (List UInt8)
 deps:List (List UInt8)
 at_:Nat
instance:Inhabited Lo:=⟨⟨0,0,0,0,0,[],[],0⟩⟩
def last(l:List F):Option Nat:=(l.find? (·.last)).map (·.num)
def has(l:List F)(n:Nat):Option (List UInt8):=(l.find? (λx=>x.num == n)).map (·.data)
def rP(l:List F):Nat->Option (List UInt8)
 |0=>M []
 |k+1=>(rP l k).bind λs=>(has l k).map λd=>s++d
def bytes(l:List F):Option (List UInt8):=(last l).bind λn=>rP l (n+1)
def size(l:List F):Nat:=(l.map λx=>x.data.length).sum
def oM(c:Ch)(f:F):Bool:=(has c.l f.num).isSome || c.spoilt || (match last c.l with|some n=>f.last || decide (n<f.num)|none=>aR)
def goes(f x:F):Bool:=f.last&&decide (f.num<x.num)
def grown(c:Ch)(f:F):List F:=(c.l++[f]).filter λx=>!goes f x
def joined(most:Int)(c:Ch)(f:F):Ch:=
 if oM c f then c
 else if most<(size (grown c f):Int)then { c with l:=[],spoilt:=bB } else { c with l:=grown c f }
def frame(most:Int)(n:Nat)(cs:List Ch)(f:F):List Ch:=
 if f.num=0 then cs.filter (λc=>c.name != f.chan)++[joined most ⟨f.chan,n,[],aR⟩ f]
 else cs.map λc=>if c.name=f.chan then joined most c f else c
def qP(c:Cf)(t:Tx):List F:=if t.dest=c.inbox/\t.fr=c.batcher then(Fr.frames t.data).getD []else []
def heard(c:Cf)(txs:List Tx):List F:=txs.flatMap (qP c)
def pull:List Ch->List (List UInt8)×List Ch
 |[]=>([],[])
 |c::cs=>match bytes c.l with
  |none=>([],c::cs)
  |some s=>(s::(pull cs).1,(pull cs).2)
def value(i:Im.It):Option Nat:=
 if i.list || decide (8<i.bytes.length) || (i.bytes != []&&i.bytes.getD 0 0 == 0) || (i.bytes.length == 8&&decide (64<=(i.bytes.getD 0 0).toNat))then Z
 else M (Im.val i.bytes 0)
def pY(l:Im.It)(place:Nat):Option Ba:=
 match l.list,l.kids with
 |true,[a,b,c,d]=>
  if d.list=aR then Z else
  match value a,value b,value c with
  |some x,M y,M z=>if d.kids.all (λt=>!t.list)then M ⟨x,y,z,d.kids.map (·.bytes),place⟩else Z
  |_,_,_=>Z
 |_,_=>Z
def tH(i:Im.It)(place:Nat):Option Ba:=
 if i.list then Z else
 match i.bytes with
 |[]=>Z
 |x::r=>if x=0 then(Im.dec r).bind (λl=>pY l place)else Z
def rd:Nat->List UInt8->Nat->List Ba
 |0,_,_=>[]
 |f+1,s,n=>if s=[]then []else
  match Im.read Im.body 8 s with
  |none=>[]
  |some (i,k)=>match tH i n with
   |none=>[]
   |some b=>(if b.epoch<=n then [b]else [])++rd f (s.drop k) n
def reads(s:List UInt8)(n:Nat):List Ba:=rd (Sq.spread s.length s 4096 []).1.length (Sq.spread s.length s 4096 []).1 n
def take(c:Cf)(u:X2)(n:Nat)(cs:List Ch)(wait:List Ba):List Ch×List Ba:=
 let cs1:=cs.filter λx=>decide ((n:Int)-(x.opened:Int)<=c.timeout)
 let cs2:=(heard c u.txs).foldl (frame c.most n) cs1
 ((pull cs2).2,wait++(pull cs2).1.flatMap (λs=>reads s n))
def isDep(s:List UInt8):Bool:=
 match Im.dec s with
 |some i=>match i.list,i.kids with
  |true,[a,b]=>!a.list&&!b.list&&decide (0<a.bytes.length)&&decide (a.bytes.length<9)&&decide (b.bytes.length<65)
  |_,_=>aR
 |none=>aR
def jR(u:X2):List (List UInt8):=u.logs.filter isDep
inductive Out where
 |no
 |hold
 |got (b:Ba)
section
variable (c:Cf)(chain:List X2)(n:Nat)
def late(e:Nat)(t:Int)(b:Ba):Bool:=decide ((b.time:Int)<t) || decide (b.epoch<e) || decide (e+1<b.epoch) || decide ((b.epoch:Int)+c.window<(b.place:Int))
def holds(e:Nat)(t:Int)(b:Ba):Bool:=(b.epoch == e+1&&decide (n<e+1)) || (b.txs.isEmpty&&b.epoch == e&&decide (n<e+1)&&decide ((chain[e]!).time+c.drift<t))
def wrong(e:Nat)(t:Int)(b:Ba):Bool:=decide ((b.id:Int)≠(chain[b.epoch]!).id) || decide (t<(chain[b.epoch]!).time) || (decide ((chain[b.epoch]!).time+c.drift<t)&&(!b.txs.isEmpty || (b.epoch == e&&decide ((chain[e+1]!).time<=t))))
def sift(e:Nat)(t:Int):List Ba->Out×List Ba
 |[]=>(.no,[])
 |b::r=>
  if t<(b.time:Int)then((sift e t r).1,b::(sift e t r).2)
  else if late c e t b then sift e t r
  else if holds c chain n e t b then(.hold,b::r)
  else if wrong c chain e t b then sift e t r
  else(.got b,r)
def lay(h:Lo)(epoch:Nat)(txs:List (List UInt8)):Lo:=
 ⟨h.number+1,h.time+c.step,epoch,(chain[epoch]!).id,if epoch=h.epoch then h.seq+1 else 0,txs,if epoch=h.epoch then []else jR (chain[epoch]!),n⟩
def draw(h:Lo)(wait:List Ba):Option Lo×List Ba:=
 let r:=sift c chain n h.epoch (h.time+c.step) wait
 match r.1 with
 |.hold=>(Z,r.2)
 |.got b=>(M (lay c chain n h b.epoch b.txs),r.2)
 |.no=>if (n:Int)<=h.epoch+c.window then(Z,r.2)else(M (lay c chain n h (if (chain[h.epoch+1]!).time<=h.time+c.step then h.epoch+1 else h.epoch) []),r.2)
def draws:Nat->Lo->List Ba->List Lo×List Ba
 |0,_,wait=>([],wait)
 |f+1,h,wait=>match draw c chain n h wait with
  |(Z,k)=>([],k)
  |(M x,k)=>(x::(draws f x k).1,(draws f x k).2)
end
structure St where
 chs:List Ch
 wait:List Ba
 log:List Lo
def left(chain:List X2)(n:Nat)(h:Lo)(wait:List Ba):Nat:=wait.length+(n-h.epoch)+((chain[n]!).time-h.time).toNat
def step(c:Cf)(chain:List X2)(n:Nat)(s:St):St:=
 let r:=take c (chain[n]!) n s.chs s.wait
 let h:=s.log.getLastD default
 let d:=draws c chain n (left chain n h r.2+1) h r.2
 ⟨r.1,d.2,s.log++d.1⟩
def first(u:X2):Lo:=⟨0,u.time,0,u.id,0,[],jR u,0⟩
def start(chain:List X2):St:=⟨[],[],[first (chain[0]!)]⟩
def gone(c:Cf)(chain:List X2):Nat->St
 |0=>start chain
 |k+1=>step c chain k (gone c chain k)
def jK(c:Cf):Bool:=decide (1<=c.timeout/\c.timeout<=8/\1<=c.window/\c.window<=8/\0<=c.drift/\c.drift<=100/\2<=c.step/\c.step<=20/\1<=c.most/\c.most<=4096)
def small(u:X2):Bool:=decide (u.txs.length<=20/\u.logs.length<=20)&&u.txs.all (λt=>decide (t.data.length<=2000))&&u.logs.all (λs=>decide (s.length<=2000))
def lY(z:Option Int)(u:X2):Bool:=(match z with
 |none=>decide (0<=u.time/\u.time<=1000000)
 |some b=>decide (b<u.time/\u.time<=b+24))&&small u
def kF:Option Int->List X2->Bool
 |_,[]=>bB
 |b,u::r=>lY b u&&kF (M u.time) r
def jS(chain:List X2):Bool:=decide (1<=chain.length/\chain.length<=60)&&kF Z chain
def all(c:Cf)(chain:List X2):Int×List Lo:=
 if jK c=aR then(1,[])else if jS chain=aR then(2,[])else(0,(gone c chain chain.length).log)
end
end Go.Proofs.YtpibpdpedjinhabGreatDoor.Dv
namespace Go.Proofs.YtpibpdpedjinhabGreatDoor
open Go.RowKit Go.Joins
section
variable {B:Nat}{w w':X}
def K3(w:X)(b o:Nat)(z I E:aD):Prop:=w.cell? ⟨b,o,Z⟩=M z/\w.cell? ⟨b,o+1,Z⟩=M I/\w.cell? ⟨b,o+2,Z⟩=M E
def In(B:Nat)(w:X):Nat->aD->aD->aD->Im.It->Prop
 |0,_,_,_,_=>False
 |n+1,c0,c1,c2,i=>c0=.bool i.list/\c1=.string ⟨i.bytes.toArray⟩/\∃a cap,c2=.slice a i.kids.length cap/\(i.kids≠[]->∃b off,a=M ⟨b,off,Z⟩/\b<B/\∀(j:Nat)(J:j<i.kids.length),∃E I z,K3 w b (off+j*3) E I z/\In B w n E I z (i.kids[j]))
def K3.below{b o:Nat}{I R J:aD}(h:K3 w b o I R J)(E:Below B w w')(z:b<B):K3 w' b o I R J:=
 ⟨(E.cell (p:=⟨b,o,Z⟩) z).trans h.1,(E.cell (p:=⟨b,o+1,Z⟩) z).trans h.2.1,(E.cell (p:=⟨b,o+2,Z⟩) z).trans h.2.2⟩
def In.below(hb:Below B w w'):∀(n:Nat)(c0 I J:aD)(i:Im.It),In B w n c0 I J i->In B w' n c0 I J i
 |0,_,_,_,_,h=>h
 |n+1,c0,I,J,i,h=>by
  obtain⟨h0,h1,a,cap,h2,h3⟩:=h;refine⟨h0,h1,a,cap,h2,λhk=>?_⟩;obtain⟨b,off,ha,z,hj⟩:=h3 hk;refine⟨b,off,ha,z,λj E=>?_⟩;obtain⟨d0,d1,d2,Y,R⟩:=hj j E;exact⟨d0,d1,d2,Y.below hb z,In.below hb n d0 d1 d2 _ R⟩
def In.shape{n:Nat}{c0 E z:aD}{i:Im.It}(h:In B w n c0 E z i):∃a cap,c0=.bool i.list/\E=.string ⟨i.bytes.toArray⟩/\z=.slice a i.kids.length cap:=by
 cases n with
 |zero=>cases h
 |succ n=>
  obtain⟨J,I,a,cap,h2,_⟩:=h;exact⟨a,cap,J,I,h2⟩
def below_drewN{a:X}(h:Below B a w)(n:Nat):Below B a (w.drewN n):=h.trans ⟨rfl,rfl,rfl,jB,λ_ _=>rfl⟩
end
