import Derived.Test.YtpibpdpedjinhabGreatDoorP10
import Derived.Lib.BitFns
import Derived.Shelf.Strings.Builder2
import Derived.Shelf.Strings.BuilderK
import Derived.Shelf.Strings.Repeat
import Derived.Shelf.Strconv.Itoa0
import Derived.Laws.ResultCell
import Derived.RangeFuncWrites
import Derived.Shelf.RegionOpen
set_option maxRecDepth 100000
set_option maxHeartbeats 8000000
set_option linter.all false
open BitVec renaming ofInt->n8,ofInt_natCast->ov,toNat_ofNat->oT
open Bool renaming decide_and->pA,false->aL,true->aR
open Go renaming Addr->eM,Boxed->rp,Calls->dE,Ending->pm,Obj->nL,OwnFrom->rq,Program->cU,TypeId->cG,Value->X,World->U,bodyPost_ret->cM,callsIn_of_wp_marks->rS,callsIn_wide->gO,grownBy_putObj'->rR,heap_alloc_new->cT,info_parts->pa,results_none->pC,run_takeDeferred->rK,run_underlying->eJ,undef->aE,wpAnyIn_ready->fL
open Go.Addr renaming add->jp
open Go.Addr.mk renaming injEq->nj
open Go.AllReadyIn renaming cons->ii,nil->j6
open Go.Ending renaming returned->bO
open Go.Instr renaming index->mb
open Go.IntKind renaming i64->ab,u32->eA,u64->p8,wrap_i64->eT
open Go.Joins renaming block_setCell->rj
open Go.KeepsOthers renaming setCell->rn
open Go.Lib renaming byteCells->lw,byteCells_length->o6,bytesWorld->rI,bytesWorld_size->rL,run_convert_string_bytes->rB
open Go.Obj renaming cells->aG,deferred->eI
open Go.Proofs.Tryz renaming results141->mN,results151->kB,results158->mK,results86->m9,underlying199->gL,underlying223->o3,underlying26->py,underlying3->gT,underlying4->oe,underlying5->il,underlying9->eO,underlying98->nz
open Go.RowKit renaming Hid->cH
open Go.Value renaming agg->fX,bool->cK,int->N,ownBlock->cV,pointer->aD,slice->aH,string->bB,tuple->cQ
open Go.Value.slice renaming injEq->dT
open Go.World renaming cell?_of_block->bX,drewN->oF,putObj_heap_other->qT,setCell->eQ,setCells->oE
open List renaming drop_of_length_le->qS,filter_nil->oA,getElem?_of_mem->pP,length->qt,length_set->oB,range->ir
open Nat renaming add_sub_cancel_left->pM,lt_succ_iff->pB
open Ne renaming symm->mn
open Option renaming none->Z,some->M
open Or renaming inl->bE,inr->cD
namespace Go.Proofs.YtpibpdpedjinhabGreatDoor.Sq
def piece:List UInt8->Option (List UInt8×Nat)
 |[]=>Z
 |c::r=>
  if c.toNat<128 then(if c.toNat+1<=r.length then M (r.take (c.toNat+1),c.toNat+2)else Z)
  else if c.toNat=128 then Z
  else match r with
   |[]=>Z
   |b::_=>M (List.replicate (257-c.toNat) b,2)
def spread:Nat->List UInt8->Int->List UInt8->List UInt8×Bool
 |0,_,_,out=>(out,aR)
 |f+1,s,most,out=>
  if s=[]then(out,aR)else
  match piece s with
  |none=>(out,aL)
  |some (t,n)=>if max most 0<(out.length:Int)+t.length then(out++t.take ((max most 0).toNat-out.length),aL)else spread f (s.drop n) most (out++t)
def O7(f:Nat)(most:Int)(out:List UInt8):spread f [] most out=(out,aR):=by
 cases f<;>simp[spread]
def Ns{f:Nat}{s:List UInt8}{most:Int}{out:List UInt8}(I:0<s.length)(E:s.length<=f)(hp:piece s=Z):spread f s most out=(out,aL):=by
 obtain⟨z,rfl⟩:∃z,f=z+1:=⟨f-1,aA⟩
 rw[spread,Zs (by grind),hp]
def zU(f:Nat)(s:List UInt8)(most:Int)(out t:List UInt8)(n:Nat)(I:0<s.length)(E:s.length<=f)(hp:piece s=M (t,n)):
  spread f s most out=if max most 0<(out.length:Int)+t.length then(out++t.take ((max most 0).toNat-out.length),aL)else spread (f-1) (s.drop n) most (out++t):=by
 obtain⟨z,rfl⟩:∃z,f=z+1:=⟨f-1,aA⟩
 rw[spread,Zs (by grind),hp];rfl
def LH{s:List UInt8}{t:List UInt8}{n:Nat}(h:piece s=M (t,n)):2<=n/\n<=s.length/\1<=t.length/\t.length<=128:=by
 cases s with
 |nil=>simp[piece]at h
 |cons c r=>
  simp only[piece]at h;have hc:=c.toNat_lt
  grind
end Go.Proofs.YtpibpdpedjinhabGreatDoor.Sq
namespace Go.Proofs.YtpibpdpedjinhabGreatDoor.Im
section
variable {l:List Nat}{n:Nat}
structure It where
 list:Bool
 bytes:List UInt8
 kids:List It
variable {i:It}
def wt:Nat->It->Nat
 |0,_=>0
 |n+1,i=>i.bytes.length+1+(i.kids.map (wt n)).sum
def acy{x:Nat}(h:x∈l):x<=l.sum:=by
 induction l with
 |nil=>cases h
 |cons a l ih=>
  grind
def adT{k:It}(h:k∈i.kids):wt n k+1<=wt (n+1) i:=by have:wt n k∈i.kids.map (wt n):=bM.2 ⟨k,h,rfl⟩;have:=acy this;simp only[wt];omega
def ZW(h:∀x,x∈l->1<=x):l.length<=l.sum:=by
 induction l with
 |nil=>simp
 |cons a l ih=>
  have z:=h a (dQ ..)
  grind
def dp:Nat->It->Prop
 |0,_=>False
 |n+1,i=>∀k,k∈i.kids->dp n k
def ac2(h:dp n i):1<=wt n i:=by
 cases n with
 |zero=>cases h
 |succ n=>simp only[wt];omega
def QZ(h:dp n i):i.kids.length+i.bytes.length+1<=wt n i:=by
 cases n with
 |zero=>cases h
 |succ n=>
  have:=ZW (l:=i.kids.map (wt n)) (λx z=>by
   obtain⟨k,hk,rfl⟩:=bM.1 z;exact ac2 (h k hk))
  rw[bC]at this;simp only[wt];omega
end
def val:List UInt8->Nat->Nat
 |[],a=>a
 |x::r,a=>val r (256*a+x.toNat)
def val_append:∀(a b:List UInt8)(n:Nat),val (a++b) n=val b (val a n)
 |[],_,_=>rfl
 |x::a,b,n=>by simp only[dN,val];exact val_append a b _
def chk(l:Bool)(s:List UInt8)(z n:Nat):Option (Bool×Nat×Nat):=
 if s.length-z<n then Z else if l=aL/\n=1/\(s.getD z 0).toNat<128 then Z else M (l,z,z+n)
def far(l:Bool)(s:List UInt8)(z:Nat):Option (Bool×Nat×Nat):=
 if s.length<z\/s.getD 1 0=0 then Z else if val ((s.take z).drop 1) 0<=55 then Z else chk l s z (val ((s.take z).drop 1) 0)
def body(s:List UInt8):Option (Bool×Nat×Nat):=
 match s with
 |[]=>Z
 |c::_=>
  if c.toNat<128 then M (aL,0,1)
  else if c.toNat<=183 then chk aL s 1 (c.toNat-128)
  else if c.toNat<=187 then far aL s (1+(c.toNat-183))
  else if c.toNat<192 then Z
  else if c.toNat<=247 then chk aR s 1 (c.toNat-192)
  else if c.toNat<=251 then far aR s (1+(c.toNat-247))
  else Z
def Nc{l:Bool}{s:List UInt8}{f n:Nat}{x:Bool×Nat×Nat}(h:chk l s f n=M x):x=(l,f,f+n)/\n<=s.length-f/\(l=aL->n=1->128<=(s.getD f 0).toNat):=by
 unfold chk at h
 grind
def many(g:List UInt8->Option (It×Nat)):Nat->List UInt8->Option (List It)
 |0,s=>if s=[]then M []else Z
 |f+1,s=>if s=[]then M []else match g s with
  |none=>Z
  |some (i,n)=>(many g f (s.drop n)).map (λl=>i::l)
def read(b:List UInt8->Option (Bool×Nat×Nat)):Nat->List UInt8->Option (It×Nat)
 |0,s=>match b s with
  |some (aL,f,t)=>M (⟨aL,(s.take t).drop f,[]⟩,t)
  |_=>Z
 |d+1,s=>match b s with
  |none=>Z
  |some (aL,f,t)=>M (⟨aL,(s.take t).drop f,[]⟩,t)
  |some (aR,f,t)=>(many (read b d) s.length ((s.take t).drop f)).map (λl=>(⟨aR,[],l⟩,t))
def WT(g:List UInt8->Option (It×Nat))(f:Nat):many g f []=M []:=by cases f<;>simp[many]
def rb(s:List UInt8):Option (Bool×Nat×Nat):=
 match s with
 |[]=>Z
 |c::_=>
  if c.toNat<128 then M (aL,0,1)
  else if c.toNat-(if 192<=c.toNat then 192 else 128)<=55 then
   (if s.length<1+(c.toNat-(if 192<=c.toNat then 192 else 128))then Z else M (decide (192<=c.toNat),1,1+(c.toNat-(if 192<=c.toNat then 192 else 128))))
  else if 4<c.toNat-(if 192<=c.toNat then 192 else 128)-55\/s.length<1+(c.toNat-(if 192<=c.toNat then 192 else 128)-55)then Z
  else if s.length<1+(c.toNat-(if 192<=c.toNat then 192 else 128)-55)+val ((s.take (1+(c.toNat-(if 192<=c.toNat then 192 else 128)-55))).drop 1) 0 then Z
  else M (decide (192<=c.toNat),1+(c.toNat-(if 192<=c.toNat then 192 else 128)-55),1+(c.toNat-(if 192<=c.toNat then 192 else 128)-55)+val ((s.take (1+(c.toNat-(if 192<=c.toNat then 192 else 128)-55))).drop 1) 0)
def OD(s:List UInt8){x:Bool×Nat×Nat}(h:body s=M x):rb s=M x:=by
 cases s with
 |nil=>simp[body]at h
 |cons c r=>
  have hc:=c.toNat_lt;simp only[body]at h;simp only[rb]
  have Y:∀(l:Bool)(z:Nat),(if 192<=c.toNat then 192 else 128)=z->decide (192<=c.toNat)=l->c.toNat-z<=55->chk l (c::r) 1 (c.toNat-z)=M x->¬c.toNat<128->(if c.toNat<128 then M (aL,0,1)
    else if c.toNat-(if 192<=c.toNat then 192 else 128)<=55 then
   (if (c::r).length<1+(c.toNat-(if 192<=c.toNat then 192 else 128))then Z else M (decide (192<=c.toNat),1,1+(c.toNat-(if 192<=c.toNat then 192 else 128))))
  else if 4<c.toNat-(if 192<=c.toNat then 192 else 128)-55\/(c::r).length<1+(c.toNat-(if 192<=c.toNat then 192 else 128)-55)then Z
  else if (c::r).length<1+(c.toNat-(if 192<=c.toNat then 192 else 128)-55)+val (((c::r).take (1+(c.toNat-(if 192<=c.toNat then 192 else 128)-55))).drop 1) 0 then Z
  else M (decide (192<=c.toNat),1+(c.toNat-(if 192<=c.toNat then 192 else 128)-55),1+(c.toNat-(if 192<=c.toNat then 192 else 128)-55)+val (((c::r).take (1+(c.toNat-(if 192<=c.toNat then 192 else 128)-55))).drop 1) 0))=M x:=by
   intro l z I J h1 h2 h3;obtain⟨R,hn,_⟩:=Nc h2;rw[Zs h3,I,J,ZD h1,Zs (by grind),R]
  have E:∀(l:Bool)(z:Nat),(if 192<=c.toNat then 192 else 128)=z->decide (192<=c.toNat)=l->55<c.toNat-z->c.toNat-z<=59->far l (c::r) (1+(c.toNat-z-55))=M x->¬c.toNat<128->(if c.toNat<128 then M (aL,0,1)
    else if c.toNat-(if 192<=c.toNat then 192 else 128)<=55 then
   (if (c::r).length<1+(c.toNat-(if 192<=c.toNat then 192 else 128))then Z else M (decide (192<=c.toNat),1,1+(c.toNat-(if 192<=c.toNat then 192 else 128))))
  else if 4<c.toNat-(if 192<=c.toNat then 192 else 128)-55\/(c::r).length<1+(c.toNat-(if 192<=c.toNat then 192 else 128)-55)then Z
  else if (c::r).length<1+(c.toNat-(if 192<=c.toNat then 192 else 128)-55)+val (((c::r).take (1+(c.toNat-(if 192<=c.toNat then 192 else 128)-55))).drop 1) 0 then Z
  else M (decide (192<=c.toNat),1+(c.toNat-(if 192<=c.toNat then 192 else 128)-55),1+(c.toNat-(if 192<=c.toNat then 192 else 128)-55)+val (((c::r).take (1+(c.toNat-(if 192<=c.toNat then 192 else 128)-55))).drop 1) 0))=M x:=by
   intro l z I J h1 aa h2 h3;unfold far at h2;split at h2
   .simp at h2
   .rename_i hg;split at h2
    .simp at h2
    .obtain⟨R,hn,_⟩:=Nc h2;rw[Zs h3,I,J,Zs aA,Zs aA,Zs aA,R]
  grind
section
variable {g:List UInt8->Option (It×Nat)}{s:List UInt8}{l:List It}{p d f t:Nat}{b:List UInt8->Option (Bool×Nat×Nat)}
inductive nJ(g:List UInt8->Option (It×Nat))(s:List UInt8):List It->Nat->Prop
 |nil:nJ g s [] 0
 |snoc {l:List It} {p:Nat} {i:It} {n:Nat}:nJ g s l p->p<s.length->g (s.drop p)=M (i,n)->nJ g s (l++[i]) (p+n)
def Fair(g:List UInt8->Option (It×Nat)):Prop:=∀s i n,g s=M (i,n)->1<=n/\n<=s.length
def nJ.le(z:Fair g)(h:nJ g s l p):p<=s.length/\l.length<=p:=by
 induction h with
 |nil=>simp
 |snoc h hp hgs ih=>
  have:=z _ _ _ hgs
  grind
def nJ.many(h:nJ g s l p):∀f,l.length<=f->Im.many g f s=(Im.many g (f-l.length) (s.drop p)).map (λr=>l++r):=by
 induction h with
 |nil=>intro f _;simp
 |@snoc l p i n h hp hgs ih=>
  intro f J;simp only[aS,aU,bY]at J⊢;rw[ih f aA];obtain⟨z,I⟩:∃z,f-l.length=z+1:=⟨f-l.length-1,aA⟩
  have E:s.drop p≠[]:=by intro e;have:=Z1 qt e;simp at this;omega
  rw[I,Im.many,Zs E,hgs];simp only;rw[show f-(l.length+(0+1))=z from by omega,iC];cases Im.many g z (s.drop (p+n))<;>simp
def nJ.all(z:Fair g)(h:nJ g s l p)(f:Nat)(E:s.length<=f)(hp:s.length<=p):Im.many g f s=M l:=by have:=h.le z;rw[h.many f aA,qS hp,WT];simp
def nJ.stuck(J:Fair g)(h:nJ g s l p)(f:Nat)(Y:s.length<=f)(hp:p<s.length)(R:g (s.drop p)=Z):Im.many g f s=Z:=by
 have:=h.le J;rw[h.many f aA];obtain⟨I,E⟩:∃I,f-l.length=I+1:=⟨f-l.length-1,aA⟩
 have z:s.drop p≠[]:=by intro e;have:=Z1 qt e;simp at this;omega
 rw[E,Im.many,Zs z,R];rfl
def F5(g:List UInt8->Option (It×Nat)):∀(f:Nat)(s:List UInt8)(l:List It),Im.many g f s=M l->Fair g->∀(h:It->Nat),(∀s' i n,g s'=M (i,n)->h i<=2*n)->(l.map h).sum<=2*s.length
 |0,s,l,hm,_,h,_=>by
  simp only[Im.many]at hm
  grind
 |f+1,s,l,hm,hg,h,hh=>by
  rw[Im.many]at hm;split at hm
  .grind
  .cases z:g s with
   |none=>grind
   |some x=>
    obtain⟨i,n⟩:=x;rw[z]at hm;simp only at hm;obtain⟨t,ht,rfl⟩:=bI.1 hm;have E:=hg s i n z;have h2:=F5 g f _ t ht hg h hh
    grind
def KT(g:List UInt8->Option (It×Nat)):∀(f:Nat)(s:List UInt8)(l:List It),Im.many g f s=M l->∀k,k∈l->∃s' n,g s'=M (k,n)
 |0,s,l,hm,k,hk=>by
  simp only[Im.many]at hm
  grind
 |f+1,s,l,hm,k,hk=>by
  rw[Im.many]at hm;split at hm
  .grind
  .cases z:g s with
   |none=>grind
   |some x=>
    obtain⟨i,n⟩:=x;rw[z]at hm;simp only at hm;obtain⟨t,ht,rfl⟩:=bI.1 hm;obtain rfl|hk:=dD.1 hk
    .exact⟨s,n,z⟩
    .exact KT g f _ t ht k hk
def GN(g g':List UInt8->Option (It×Nat))(E:∀s x,g s=M x->g' s=M x):∀(f:Nat)(s:List UInt8)(l:List It),Im.many g f s=M l->Im.many g' f s=M l
 |0,s,l,hm=>hm
 |f+1,s,l,hm=>by
  rw[Im.many]at hm⊢;split at hm
  .grind
  .rename_i e;rw[Zs e];cases z:g s with
   |none=>grind
   |some x=>
    obtain⟨i,n⟩:=x;rw[z]at hm;simp only at hm;obtain⟨t,ht,rfl⟩:=bI.1 hm;rw[E s _ z];simp only;rw[GN g g' E f _ t ht];rfl
def qX(b:List UInt8->Option (Bool×Nat×Nat)):Nat->List UInt8->Option (It×Nat)
 |0,_=>Z
 |d+1,s=>match b s with
  |none=>Z
  |some (aL,f,t)=>M (⟨aL,(s.take t).drop f,[]⟩,t)
  |some (aR,f,t)=>(many (qX b d) s.length ((s.take t).drop f)).map (λl=>(⟨aR,[],l⟩,t))
def uP(h:b s=M (aL,f,t)):qX b (d+1) s=M (⟨aL,(s.take t).drop f,[]⟩,t):=by rw[qX,h]
def xg(h:b s=M (aR,f,t)):qX b (d+1) s=(many (qX b d) s.length ((s.take t).drop f)).map (λl=>(⟨aR,[],l⟩,t)):=by rw[qX,h]
def AY(h:b s=Z):qX b (d+1) s=Z:=by rw[qX,h]
def Cc(h:b s=M (aL,f,t)):read b d s=M (⟨aL,(s.take t).drop f,[]⟩,t):=by cases d<;>rw[read,h]
def Gg(h:b s=M (aR,f,t)):read b (d+1) s=(many (read b d) s.length ((s.take t).drop f)).map (λl=>(⟨aR,[],l⟩,t)):=by rw[read,h]
def AV(h:b s=M (aR,f,t)):read b 0 s=Z:=by rw[read,h]
def uZ(h:b s=Z):read b d s=Z:=by cases d<;>rw[read,h]
def Ew(b:List UInt8->Option (Bool×Nat×Nat)):∀(d:Nat)(s:List UInt8)(x:It×Nat),read b d s=M x->qX b (d+1) s=M x:=by
 intro d
 induction d with
 |zero=>
  intro s x h;cases z:b s with
  |none=>rw[uZ z]at h;simp at h
  |some y=>
   obtain⟨l,f,t⟩:=y;cases l with
   |true=>rw[AV z]at h;simp at h
   |false=>rw[Cc z]at h;rw[uP z];exact h
 |succ d ih=>
  intro s x h;cases z:b s with
  |none=>rw[uZ z]at h;simp at h
  |some y=>
   obtain⟨l,f,t⟩:=y;cases l with
   |false=>rw[Cc z]at h;rw[uP z];exact h
   |true=>
    rw[Gg z]at h;obtain⟨I,E,rfl⟩:=bI.1 h;rw[xg z,GN (read b d) (qX b (d+1)) ih _ _ _ E];rfl
def Body(b:List UInt8->Option (Bool×Nat×Nat)):Prop:=∀s l f t,b s=M (l,f,t)->f<=t/\t<=s.length/\1<=t/\(l=aR->1<=f)
def Dp(E:Body b)(d:Nat):Fair (qX b d):=by
 intro s i n h;cases d with
 |zero=>simp[qX]at h
 |succ d=>
  cases z:b s with
  |none=>rw[AY z]at h;simp at h
  |some y=>
   obtain⟨l,f,t⟩:=y;have:=E s l f t z;cases l with
   |false=>rw[uP z]at h;simp at h;omega
   |true=>
    rw[xg z]at h;obtain⟨J,I,R⟩:=bI.1 h
    grind
def rZ(z:Body b)(d:Nat):Fair (read b d):=λs i n h=>Dp z (d+1) s i n (Ew b d s _ h)
def CG{b:List UInt8->Option (Bool×Nat×Nat)}(E:Body b):∀(d:Nat)(s:List UInt8)(i:It)(n:Nat),qX b d s=M (i,n)->dp d i/\wt d i<=2*n
 |0,s,i,n,h=>by simp[qX]at h
 |d+1,s,i,n,h=>by
  cases z:b s with
  |none=>rw[AY z]at h;simp at h
  |some y=>
   obtain⟨l,f,t⟩:=y;have hq:=E s l f t z;cases l with
   |false=>
    rw[uP z]at h;simp only[aK,dJ]at h;obtain⟨rfl,rfl⟩:=h;refine⟨λk hk=>by simp at hk,?_⟩;simp only[wt,fP,List.sum_nil,dW,bK];omega
   |true=>
    rw[xg z]at h;obtain⟨ks,R,J⟩:=bI.1 h;simp only[dJ]at J;obtain⟨rfl,rfl⟩:=J;refine⟨λk hk=>?_,?_⟩
    .obtain⟨s',Y,I⟩:=KT _ _ _ _ R k hk;exact(CG E d s' k Y I).1
    .have:=F5 _ _ _ _ R (Dp E d) _ (λs' i n h=>(CG E d s' i n h).2);simp only[dW,bK]at this;have:=hq.2.2.2 rfl;simp only[wt,bY];omega
def aaC(z:Body b)(d:Nat){s:List UInt8}{i:It}{n:Nat}(h:read b d s=M (i,n)):dp (d+1) i/\wt (d+1) i<=2*n:=CG z (d+1) s i n (Ew b d s _ h)
def Zy:Body rb:=by
 intro s l f t h;cases s with
 |nil=>simp[rb]at h
 |cons c r=>
  have hc:=c.toNat_lt;simp only[rb]at h
  grind
def oZ:Body body:=λs l f t h=>Zy s l f t (OD s h)
end
end Go.Proofs.YtpibpdpedjinhabGreatDoor.Im
namespace Go.Proofs.YtpibpdpedjinhabGreatDoor
namespace Im
def dec(s:List UInt8):Option It:=match read body 8 s with
 |some (i,n)=>if n=s.length then M i else Z
 |none=>Z
end Im
end Go.Proofs.YtpibpdpedjinhabGreatDoor
namespace Go.Proofs.YtpibpdpedjinhabGreatDoor.Dv
open Fr (F)
section
structure Tx where
 fr:Nat
 dest:Nat
 data:List UInt8
structure X2 where
 id:Int
 time:Int
 txs:List Tx
 logs:List (List UInt8)
instance:Inhabited X2:=⟨⟨0,0,[],[]⟩⟩
structure Cf where
 inbox:Nat
 batcher:Nat
 timeout:Int
 window:Int
 drift:Int
 step:Int
 most:Int
structure Ch where
 name:Nat
 opened:Nat
 l:List F
 spoilt:Bool
structure Ba where
 epoch:Nat
 id:Nat
 time:Nat
 txs:List (List UInt8)
 place:Nat
structure Lo where
 number:Nat
 time:Int
 epoch:Nat
 id:Int
 seq:Nat
 txs:List (List UInt8)
 deps:List (List UInt8)
 at_:Nat
instance:Inhabited Lo:=⟨⟨0,0,0,0,0,[],[],0⟩⟩
def last(l:List F):Option Nat:=(l.find? (·.last)).map (·.num)
def has(l:List F)(n:Nat):Option (List UInt8):=(l.find? (λx=>x.num == n)).map (·.data)
def rP(l:List F):Nat->Option (List UInt8)
 |0=>M []
 |k+1=>(rP l k).bind λs=>(has l k).map λd=>s++d
def bytes(l:List F):Option (List UInt8):=(last l).bind λn=>rP l (n+1)
def size(l:List F):Nat:=(l.map λx=>x.data.length).sum
def oM(c:Ch)(f:F):Bool:=(has c.l f.num).isSome || c.spoilt || (match last c.l with|some n=>f.last || decide (n<f.num)|none=>aL)
def goes(f x:F):Bool:=f.last&&decide (f.num<x.num)
def grown(c:Ch)(f:F):List F:=(c.l++[f]).filter λx=>!goes f x
def joined(most:Int)(c:Ch)(f:F):Ch:=
 if oM c f then c
 else if most<(size (grown c f):Int)then { c with l:=[],spoilt:=aR } else { c with l:=grown c f }
def frame(most:Int)(n:Nat)(cs:List Ch)(f:F):List Ch:=
 if f.num=0 then cs.filter (λc=>c.name != f.chan)++[joined most ⟨f.chan,n,[],aL⟩ f]
 else cs.map λc=>if c.name=f.chan then joined most c f else c
def qP(c:Cf)(t:Tx):List F:=if t.dest=c.inbox/\t.fr=c.batcher then(Fr.frames t.data).getD []else []
def heard(c:Cf)(txs:List Tx):List F:=txs.flatMap (qP c)
def pull:List Ch->List (List UInt8)×List Ch
 |[]=>([],[])
 |c::cs=>match bytes c.l with
  |none=>([],c::cs)
  |some s=>(s::(pull cs).1,(pull cs).2)
def value(i:Im.It):Option Nat:=
 if i.list || decide (8<i.bytes.length) || (i.bytes != []&&i.bytes.getD 0 0 == 0) || (i.bytes.length == 8&&decide (64<=(i.bytes.getD 0 0).toNat))then Z
 else M (Im.val i.bytes 0)
def pY(l:Im.It)(place:Nat):Option Ba:=
 match l.list,l.kids with
 |true,[a,b,c,d]=>
  if d.list=aL then Z else
  match value a,value b,value c with
  |some x,M y,M z=>if d.kids.all (λt=>!t.list)then M ⟨x,y,z,d.kids.map (·.bytes),place⟩else Z
  |_,_,_=>Z
 |_,_=>Z
def tH(i:Im.It)(place:Nat):Option Ba:=
 if i.list then Z else
 match i.bytes with
 |[]=>Z
 |x::r=>if x=0 then(Im.dec r).bind (λl=>pY l place)else Z
def rd:Nat->List UInt8->Nat->List Ba
 |0,_,_=>[]
 |f+1,s,n=>if s=[]then []else
  match Im.read Im.body 8 s with
  |none=>[]
  |some (i,k)=>match tH i n with
   |none=>[]
   |some b=>(if b.epoch<=n then [b]else [])++rd f (s.drop k) n
def reads(s:List UInt8)(n:Nat):List Ba:=rd (Sq.spread s.length s 4096 []).1.length (Sq.spread s.length s 4096 []).1 n
def take(c:Cf)(u:X2)(n:Nat)(cs:List Ch)(wait:List Ba):List Ch×List Ba:=
 let cs1:=cs.filter λx=>decide ((n:Int)-(x.opened:Int)<=c.timeout)
 let cs2:=(heard c u.txs).foldl (frame c.most n) cs1
 ((pull cs2).2,wait++(pull cs2).1.flatMap (λs=>reads s n))
def isDep(s:List UInt8):Bool:=
 match Im.dec s with
 |some i=>match i.list,i.kids with
  |true,[a,b]=>!a.list&&!b.list&&decide (0<a.bytes.length)&&decide (a.bytes.length<9)&&decide (b.bytes.length<65)
  |_,_=>aL
 |none=>aL
def jR(u:X2):List (List UInt8):=u.logs.filter isDep
inductive Out where
 |no
 |hold
 |got (b:Ba)
section
variable (c:Cf)(chain:List X2)(n:Nat)
def late(e:Nat)(t:Int)(b:Ba):Bool:=decide ((b.time:Int)<t) || decide (b.epoch<e) || decide (e+1<b.epoch) || decide ((b.epoch:Int)+c.window<(b.place:Int))
def holds(e:Nat)(t:Int)(b:Ba):Bool:=(b.epoch == e+1&&decide (n<e+1)) || (b.txs.isEmpty&&b.epoch == e&&decide (n<e+1)&&decide ((chain[e]!).time+c.drift<t))
def wrong(e:Nat)(t:Int)(b:Ba):Bool:=decide ((b.id:Int)≠(chain[b.epoch]!).id) || decide (t<(chain[b.epoch]!).time) || (decide ((chain[b.epoch]!).time+c.drift<t)&&(!b.txs.isEmpty || (b.epoch == e&&decide ((chain[e+1]!).time<=t))))
def sift(e:Nat)(t:Int):List Ba->Out×List Ba
 |[]=>(.no,[])
 |b::r=>
  if t<(b.time:Int)then((sift e t r).1,b::(sift e t r).2)
  else if late c e t b then sift e t r
  else if holds c chain n e t b then(.hold,b::r)
  else if wrong c chain e t b then sift e t r
  else(.got b,r)
def lay(h:Lo)(epoch:Nat)(txs:List (List UInt8)):Lo:=
 ⟨h.number+1,h.time+c.step,epoch,(chain[epoch]!).id,if epoch=h.epoch then h.seq+1 else 0,txs,if epoch=h.epoch then []else jR (chain[epoch]!),n⟩
def draw(h:Lo)(wait:List Ba):Option Lo×List Ba:=
 let r:=sift c chain n h.epoch (h.time+c.step) wait
 match r.1 with
 |.hold=>(Z,r.2)
 |.got b=>(M (lay c chain n h b.epoch b.txs),r.2)
 |.no=>if (n:Int)<=h.epoch+c.window then(Z,r.2)else(M (lay c chain n h (if (chain[h.epoch+1]!).time<=h.time+c.step then h.epoch+1 else h.epoch) []),r.2)
def draws:Nat->Lo->List Ba->List Lo×List Ba
 |0,_,wait=>([],wait)
 |f+1,h,wait=>match draw c chain n h wait with
  |(Z,k)=>([],k)
  |(M x,k)=>(x::(draws f x k).1,(draws f x k).2)
end
structure St where
 chs:List Ch
 wait:List Ba
 log:List Lo
def left(chain:List X2)(n:Nat)(h:Lo)(wait:List Ba):Nat:=wait.length+(n-h.epoch)+((chain[n]!).time-h.time).toNat
def step(c:Cf)(chain:List X2)(n:Nat)(s:St):St:=
 let r:=take c (chain[n]!) n s.chs s.wait
 let h:=s.log.getLastD default
 let d:=draws c chain n (left chain n h r.2+1) h r.2
 ⟨r.1,d.2,s.log++d.1⟩
def first(u:X2):Lo:=⟨0,u.time,0,u.id,0,[],jR u,0⟩
def start(chain:List X2):St:=⟨[],[],[first (chain[0]!)]⟩
def gone(c:Cf)(chain:List X2):Nat->St
 |0=>start chain
 |k+1=>step c chain k (gone c chain k)
def jK(c:Cf):Bool:=decide (1<=c.timeout/\c.timeout<=8/\1<=c.window/\c.window<=8/\0<=c.drift/\c.drift<=100/\2<=c.step/\c.step<=20/\1<=c.most/\c.most<=4096)
def small(u:X2):Bool:=decide (u.txs.length<=20/\u.logs.length<=20)&&u.txs.all (λt=>decide (t.data.length<=2000))&&u.logs.all (λs=>decide (s.length<=2000))
def lY(z:Option Int)(u:X2):Bool:=(match z with
 |none=>decide (0<=u.time/\u.time<=1000000)
 |some b=>decide (b<u.time/\u.time<=b+24))&&small u
def kF:Option Int->List X2->Bool
 |_,[]=>aR
 |b,u::r=>lY b u&&kF (M u.time) r
def jS(chain:List X2):Bool:=decide (1<=chain.length/\chain.length<=60)&&kF Z chain
def all(c:Cf)(chain:List X2):Int×List Lo:=
 if jK c=aL then(1,[])else if jS chain=aL then(2,[])else(0,(gone c chain chain.length).log)
end
end Go.Proofs.YtpibpdpedjinhabGreatDoor.Dv
namespace Go.Proofs.YtpibpdpedjinhabGreatDoor
open Go.RowKit Go.Joins
section
variable {B:Nat}{w w':U}
def K3(w:U)(b o:Nat)(z I E:X):Prop:=w.cell? ⟨b,o,Z⟩=M z/\w.cell? ⟨b,o+1,Z⟩=M I/\w.cell? ⟨b,o+2,Z⟩=M E
def In(B:Nat)(w:U):Nat->X->X->X->Im.It->Prop
 |0,_,_,_,_=>False
 |n+1,c0,c1,c2,i=>c0=.bool i.list/\c1=bB ⟨i.bytes.toArray⟩/\∃a cap,c2=.slice a i.kids.length cap/\(i.kids≠[]->∃b off,a=M ⟨b,off,Z⟩/\b<B/\∀(j:Nat)(J:j<i.kids.length),∃E I z,K3 w b (off+j*3) E I z/\In B w n E I z (i.kids[j]))
def K3.below{b o:Nat}{I R J:X}(h:K3 w b o I R J)(E:Below B w w')(z:b<B):K3 w' b o I R J:=
 ⟨(E.cell (p:=⟨b,o,Z⟩) z).trans h.1,(E.cell (p:=⟨b,o+1,Z⟩) z).trans h.2.1,(E.cell (p:=⟨b,o+2,Z⟩) z).trans h.2.2⟩
def In.below(hb:Below B w w'):∀(n:Nat)(c0 I J:X)(i:Im.It),In B w n c0 I J i->In B w' n c0 I J i
 |0,_,_,_,_,h=>h
 |n+1,c0,I,J,i,h=>by
  obtain⟨h0,h1,a,cap,h2,h3⟩:=h;refine⟨h0,h1,a,cap,h2,λhk=>?_⟩;obtain⟨b,off,ha,z,hj⟩:=h3 hk;refine⟨b,off,ha,z,λj E=>?_⟩;obtain⟨d0,d1,d2,Y,R⟩:=hj j E;exact⟨d0,d1,d2,Y.below hb z,In.below hb n d0 d1 d2 _ R⟩
def In.shape{n:Nat}{c0 E z:X}{i:Im.It}(h:In B w n c0 E z i):∃a cap,c0=.bool i.list/\E=bB ⟨i.bytes.toArray⟩/\z=.slice a i.kids.length cap:=by
 cases n with
 |zero=>cases h
 |succ n=>
  obtain⟨J,I,a,cap,h2,_⟩:=h;exact⟨a,cap,J,I,h2⟩
def below_drewN{a:U}(h:Below B a w)(n:Nat):Below B a (w.drewN n):=h.trans ⟨rfl,rfl,rfl,jB,λ_ _=>rfl⟩
end
end Go.Proofs.YtpibpdpedjinhabGreatDoor
namespace Go.Proofs.YtpibpdpedjinhabGreatDoor.Hm
open Go.RowKit Go.Joins Go.Shelf
section
variable {i:Im.It}
def bits_or_u64_nat(a b:Nat)(E:a<18446744073709551616)(I:b<18446744073709551616):bits .or p8 (a:Int) (b:Int)=((a |||b:Nat):Int):=by
 have J:a |||b<2 ^ 64:=Nat.or_lt_two_pow aA aA
 have z:(n8 64 (a:Int)).toNat=a:=by
  rw[ov,oT];exact Nat.mod_eq_of_lt aA
 have h2:(n8 64 (b:Int)).toNat=b:=by
  rw[ov,oT];exact Nat.mod_eq_of_lt aA
 show IntKind.u64.wrap ((n8 64 (a:Int) |||BitVec.ofInt 64 (b:Int)).toNat:Int)=_
 rw[BitVec.toNat_or,z,h2,IntKind.wrap_u64];omega
def A8(s:List UInt8)(k:Nat)(hk:k<s.length):Im.val (s.take (k+1)) 0=256*Im.val (s.take k) 0+(s.getD k 0).toNat:=by
 rw[eY hk,Im.val_append];simp only[Im.val];rw[aY,aO hk];simp
 try omega
def sF:∀(s:List UInt8)(n:Nat),Im.val s n<(n+1)*256 ^ s.length
 |[],n=>by simp[Im.val]
 |x::s,n=>by
  have:=sF s (256*n+x.toNat);have z:=x.toNat_lt;simp only[Im.val,aU,Nat.pow_succ];refine aP this ?_;rw[Nat.mul_comm (256 ^ s.length) 256,<-Nat.mul_assoc];exact fK _ aA
def WR:∀(s:List UInt8)(n:Nat),n*256 ^ s.length<=Im.val s n
 |[],n=>by simp[Im.val]
 |x::s,n=>by
  have:=WR s (256*n+x.toNat);simp only[Im.val,aU,Nat.pow_succ];refine bH ?_ this;rw[Nat.mul_comm (256 ^ s.length) 256,<-Nat.mul_assoc];exact fK _ aA
def Uz{s:List UInt8}(hs:s.length<=8):decide (4611686018427387903<Im.val s 0)=(s.length == 8&&decide (64<=(s.getD 0 0).toNat)):=by
 by_cases z:s.length=8
 .cases s with
  |nil=>simp at z
  |cons x s=>
   have I:s.length=7:=by simpa using z
   have E:=sF s x.toNat;have h2:=WR s x.toNat;rw[I]at E h2;have e:Im.val (x::s) 0=Im.val s x.toNat:=by simp[Im.val]
   rw[e,z];simp only[List.getD_cons_zero,beq_self_eq_true,Bool.true_and];exact decide_eq_decide.2 aA
 .have E:=sF s 0;have h2:(256:Nat) ^ s.length<=256 ^ 7:=iK aB aA;rw[show(s.length == 8)=aL from ZS z,Bool.false_and];exact ZZ aA
def aeV(o:Option Nat):X:=cQ #[N ab ((o.getD 0:Nat):Int),.bool o.isSome]
def Bj(h:i.list=aR\/8<i.bytes.length\/(i.bytes≠[]/\(i.bytes.getD 0 0)=0)):Dv.value i=Z:=by
 unfold Dv.value;rw[ZD];obtain h|h|⟨z,h2⟩:=h
 .simp[h]
 .simp[h]
 .grind
def KJ(z:i.list=aL)(h2:i.bytes.length<=8)(h3:i.bytes=[]\/(i.bytes.getD 0 0)≠0):Dv.value i=if 4611686018427387903<Im.val i.bytes 0 then Z else M (Im.val i.bytes 0):=by
 have E:=Uz h2;unfold Dv.value;rw[z,<-E,ZZ (show ¬8<i.bytes.length by omega)]
 have:(i.bytes != []&&i.bytes.getD 0 0 == 0)=aL:=by
  obtain h3|h3:=h3
  .rw[h3];rfl
  .grind
 rw[this];simp
def sQ(i:Im.It)(c2:X)(w:U)(av:∃a n cap,c2=.slice a n cap):dE PQ 125 #[fX #[.bool i.list,bB ⟨i.bytes.toArray⟩,c2]] w λe w'=>e=bO (aeV (Dv.value i))/\Below ↑w w w':=by
 obtain⟨a,n,cap,rfl⟩:=av;obtain⟨D,hD⟩:∃D:ByteArray,(⟨i.bytes.toArray⟩:ByteArray)=D:=⟨_,rfl⟩
 have I:D.data.toList=i.bytes:=by rw[<-hD]
 have J:D.size=i.bytes.length:=by rw[<-hD];rfl
 rw[hD];obtain⟨R,hR⟩:∃R,Dv.value i=R:=⟨_,rfl⟩
 rw[hR];obtain⟨li,E⟩:∃li,i.list=li:=⟨_,rfl⟩
 rw[E];obtain⟨W,hW,aa,-⟩:=jD w #[.bool li,bB D,.slice a n cap] 164;have z0:W.cell? ⟨↑w,0,Z⟩=M (.bool li):=by rw[hW];simp
 have z1:W.cell? ⟨↑w,1,Z⟩=M (bB D):=by rw[hW];simp
 have H:cH _:=jy I (jy J (jy hR (jy E aa)));cases li
 .by_cases h8:D.size<=8
  .have az:¬(8:Int)<(D.size:Int):=by omega
   by_cases he:i.bytes=[]
   .have au:D=⟨#[]⟩:=by rw[<-hD,he]
    have z:=KJ E aA (bE he);rw[hR,he]at z;subst au;have Hv:cH _:=z;clear hD I J hR E aa z he;go_enter (fq Tryz.func125 rfl),Tryz.ntmps125;go_upto_region 1 with fail;rw[<-hW];clear hW;have ah:=λu:U=>rB (P:=PQ) u 9 199 5 ⟨#[]⟩ (uq eO) (uq gL) (uq il);go_wp2_with fail;obtain⟨Y,hY⟩:∃Y:U,Y=rI W 5 ⟨#[]⟩:=⟨_,rfl⟩
    have ac:Below ↑w w Y:=by rw[hY];exact Fr.below_bytesWorld H.out.2.2.2.2 H.out.2.2.2.2.size _ _
    rw[<-hY];have HY:cH _:=ac;clear hY ac ah;go_loopg [5,7,29] 0 (λg v5 _ t wx=>v5=N p8 0/\t=N ab 0/\wx=Y)
    case atStart=>simp
    case round=>
     obtain⟨rfl,rfl,rfl⟩:=hrel;go_wp2_with fail;go_ret2;refine⟨?_,HY.out⟩;rw[Hv.out];rfl
   .have h0:0<D.size:=by
     rw[J];exact List.length_pos_iff.2 he
    have ar:D.toList.isEmpty=aL:=by rw[Fr.toList_empty];exact ZZ aA
    obtain⟨x,hx⟩:∃x:UInt8,i.bytes.getD 0 0=x:=⟨_,rfl⟩
    have ae:D[0]'h0=x:=by
     rw[<-hx,<-I,aY]
     have:D.data.toList[0]? =M (D[0]'h0):=by
      rw[aO (by simpa using h0)];rfl
     rw[this];rfl
    by_cases hz:x=0
    .have z:=Bj (i:=i) (cD (cD ⟨he,by rw[hx];exact hz⟩));rw[hR]at z;subst z;have ak:(((D[0]'h0).toNat:Int) == 0)=aR:=by rw[ae,hz];rfl
     clear hD I J hR E aa hx ae hz he;go_enter (fq Tryz.func125 rfl),Tryz.ntmps125;go_upto_region 1 with fail;rw[<-hW];clear hW;go_wp2_with fail;go_ret2;exact⟨rfl,H.out.2.2.2.2⟩
    .have z:=KJ E aA (cD (by rw[hx];exact hz));rw[hR,<-I]at z
     have ak:(((D[0]'h0).toNat:Int) == 0)=aL:=by
      rw[ae];refine ZS (λe=>hz ?_);have:x.toNat=0:=aA
      exact jv.1 (by rw[this];rfl)
     have Hv:cH _:=z;clear hD I J hR E aa hx ae hz he z;go_enter (fq Tryz.func125 rfl),Tryz.ntmps125;go_upto_region 1 with fail;rw[<-hW];clear hW;have ah:=λu:U=>rB (P:=PQ) u 9 199 5 D (uq eO) (uq gL) (uq il);go_wp2_with fail;obtain⟨Y,hY⟩:∃Y:U,Y=rI W 5 D:=⟨_,rfl⟩
     have ac:Below ↑w w Y:=by rw[hY];exact Fr.below_bytesWorld H.out.2.2.2.2 H.out.2.2.2.2.size _ _
     have ap:∀k,k<D.size->Y.cell? ⟨↑W,k,Z⟩=M (N .u8 (D.data.toList.getD k 0).toNat):=λk hk=>by rw[hY];exact Lib.bytesWorld_cell W 5 D k hk
     rw[<-hY];have HY:cH _:=jy ap ac;clear hY ap ac ah ak ar;generalize grownCap W D.size 0 5=gc;go_loopg [5,7,29] D.size (λg v5 _ t wx=>∃k:Nat,k<=D.size/\t=N ab k/\v5=N p8 (Im.val (D.data.toList.take k) 0:Nat)/\g=D.size-k/\wx=Y)
     case atStart=>exact⟨0,dL _,rfl,rfl,rfl,rfl⟩
     case round=>
      obtain⟨k,hk,rfl,rfl,rfl,rfl⟩:=hrel;by_cases aq:k<D.size
      .have aj:(k:Int)<D.size:=by omega
       have hc:=HY.out.1 k aA;have ag:=A8 D.data.toList k (by rw[<-bD];exact aq);generalize hb:(D.data.toList.getD k 0).toNat=b at hc ag;have ay:b<256:=by rw[<-hb];exact UInt8.toNat_lt _
       have a1:Im.val (D.data.toList.take k) 0<72057594037927936:=by
        have h1:=sF (D.data.toList.take k) 0;have h2:(256:Nat) ^ (D.data.toList.take k).length<=256 ^ 7:=iK aB (by grind);omega
       generalize ao:Im.val (D.data.toList.take (k+1)) 0=V' at ag;have aw:cH _:=ao;clear ao;generalize Im.val (D.data.toList.take k) 0=V at *;have Hb:cH _:=hb;clear hb;go_wp2_with fail
       rw[show bits .or p8 ((V:Int)*256) (b:Int)=V' from by
        rw[show(V:Int)*256=((V*256:Nat):Int) from by omega,bits_or_u64_nat _ _ aA aA,Fr.AO V b ay,ag]]
       go_roundg (D.size-(k+1))
       case measure=>omega
       case rel=>
        refine⟨_,aA,by go_num,?_,rfl,rfl⟩;rw[aw.out]
      .have aj:¬(k:Int)<D.size:=by omega
       obtain rfl:k=D.size:=aA
       have z:=Hv.out;rw[show D.data.toList.take D.size=D.data.toList from eH aC];have ai:=sF D.data.toList 0;have af:(256:Nat) ^ D.data.toList.length<=256 ^ 8:=iK aB (by rw[<-bD];exact h8);generalize Im.val D.data.toList 0=V at *;have a0:V<18446744073709551616:=aA
       by_cases am:4611686018427387903<V
       .rw[ZD am]at z;have an:(4611686018427387903:Int)<(V:Int):=by omega
        subst z;clear ai af;go_wp2_with fail;go_ret2;exact⟨rfl,HY.out.2⟩
       .rw[Zs am]at z;have an:¬(4611686018427387903:Int)<(V:Int):=by omega
        subst z;clear ai af;go_wp2_with fail;go_ret2;exact⟨rfl,HY.out.2⟩
  .have az:(8:Int)<(D.size:Int):=by omega
   have z:=Bj (i:=i) (cD (bE aA));rw[hR]at z;subst z;clear hD I J hR E aa;go_enter (fq Tryz.func125 rfl),Tryz.ntmps125;go_upto_region 1 with fail;rw[<-hW];clear hW;go_wp2_with fail;go_ret2;exact⟨rfl,H.out.2.2.2.2⟩
 .have z:=Bj (i:=i) (bE E);rw[hR]at z;subst z;clear hD I J hR E aa;go_enter (fq Tryz.func125 rfl),Tryz.ntmps125;go_upto_region 1 with fail;rw[<-hW];clear hW;go_wp2_with fail;go_ret2;exact⟨rfl,H.out.2.2.2.2⟩
end
open Go.RowKit Go.Joins
open Dv (Cf X2 Tx)
section
variable {w:U}{g off cap j:Nat}{α:Type}
def ng(n a b:Int)(w:U):dE PQ 35 #[N ab n,N ab a,N ab b] w λe w'=>e=bO (cK (decide (a<=n)&&decide (n<=b)))/\w'=w:=by
 obtain⟨r,z⟩:∃r,(decide (a<=n)&&decide (n<=b))=r:=⟨_,rfl⟩
 rw[z];have E:cH _:=z;clear z;go_enter (fq Tryz.func35 rfl),Tryz.ntmps35;by_cases I:a<=n
 .by_cases h2:n<=b
  .go_wp2_with fail;go_ret;refine⟨?_,rfl⟩;rw[<-E.out,Z0 aA,Z0 aA];rfl
  .go_wp2_with fail;go_ret;refine⟨?_,rfl⟩;rw[<-E.out,Z0 aA,ZZ aA];rfl
 .go_wp2_with fail;go_ret;refine⟨?_,rfl⟩;rw[<-E.out,ZZ aA];rfl
def jF(c:Cf):Array X:=#[N eA c.inbox,N eA c.batcher,N ab c.timeout,N ab c.window,N ab c.drift,N ab c.step,N ab c.most]
def wX(c:Cf)(w:U):dE PQ 17 #[.agg (jF c)] w λe w'=>e=bO (.bool (Dv.jK c))/\Below ↑w w w':=by
 obtain⟨ib,ba,t,z,I,st,E⟩:=c;unfold jF;dsimp only;have hb:Below ↑w w (w.alloc (aG #[N eA ib,N eA ba,N ab t,N ab z,N ab I,N ab st,N ab E] 24)):=(aJ _ w).alloc jB _;have Hb:cH _:=hb;clear hb;go_enter (fq Tryz.func17 rfl),Tryz.ntmps17;have Y:=λw=>ng t 1 8 w;have W2:=λw=>ng z 1 8 w;have W3:=λw=>ng I 0 100 w;have W4:=λw=>ng st 2 20 w;have W5:=λw=>ng E 1 4096 w;obtain⟨b1,e1⟩:∃b,(decide (1<=t)&&decide (t<=8))=b:=⟨_,rfl⟩
 obtain⟨b2,R⟩:∃b,(decide (1<=z)&&decide (z<=8))=b:=⟨_,rfl⟩
 obtain⟨b3,e3⟩:∃b,(decide (0<=I)&&decide (I<=100))=b:=⟨_,rfl⟩
 obtain⟨b4,e4⟩:∃b,(decide (2<=st)&&decide (st<=20))=b:=⟨_,rfl⟩
 obtain⟨b5,J⟩:∃b,(decide (1<=E)&&decide (E<=4096))=b:=⟨_,rfl⟩
 have hr:Dv.jK ⟨ib,ba,t,z,I,st,E⟩=(b1&&b2&&b3&&b4&&b5):=by
  unfold Dv.jK;rw[<-e1,<-R,<-e3,<-e4,<-J];simp only[pA,Bool.and_assoc]
 rw[e1]at Y;rw[R]at W2;rw[e3]at W3;rw[e4]at W4;rw[J]at W5;have H1:cH _:=Y;have H2:cH _:=W2;have H3:cH _:=W3;have H4:cH _:=W4;have H5:cH _:=W5;rw[hr];clear hr e1 R e3 e4 J Y W2 W3 W4 W5;cases b1<;>cases b2<;>cases b3<;>cases b4<;>cases b5
 all_goals
  go_wp2_with (go_at_call 35;first|(with_reducible refine aT (H1.out _) ?_;rintro e w2 ⟨rfl,rfl⟩)|(with_reducible refine aT (H2.out _) ?_;rintro e w2 ⟨rfl,rfl⟩)|(with_reducible refine aT (H3.out _) ?_;rintro e w2 ⟨rfl,rfl⟩)|(with_reducible refine aT (H4.out _) ?_;rintro e w2 ⟨rfl,rfl⟩)|(with_reducible refine aT (H5.out _) ?_;rintro e w2 ⟨rfl,rfl⟩)|fail)
  go_ret;exact⟨rfl,Hb.out⟩
def oO(t:Tx):List X:=[N eA t.fr,N eA t.dest,bB ⟨t.data.toArray⟩]
def nT(s:List UInt8):X:=bB ⟨s.toArray⟩
def D6(w:U)(v:X)(l:List Tx):Prop:=Rd w 3 v l.length (l.flatMap oO)
def qH(w:U)(v:X)(l:List (List UInt8)):Prop:=Rd w 1 v l.length (l.map nT)
def D6.get{l:List Tx}(h:D6 w (aH (M ⟨g,off,Z⟩) l.length cap) l){t:Tx}(z:l[j]? =M t):w.cell? ⟨g,off+j*3,Z⟩=M (N eA t.fr)/\w.cell? ⟨g,off+j*3+1,Z⟩=M (N eA t.dest)/\w.cell? ⟨g,off+j*3+2,Z⟩=M (bB ⟨t.data.toArray⟩):=by
 have k:=λi u hi (E:(oO t)[i]? =M u)=>Rd.rec oO 3 (λ_=>rfl) h z hi E;exact⟨k 0 _ aA rfl,k 1 _ aA rfl,k 2 _ aA rfl⟩
def qH.get{l:List (List UInt8)}(h:qH w (aH (M ⟨g,off,Z⟩) l.length cap) l){s:List UInt8}(z:l[j]? =M s):w.cell? ⟨g,off+j,Z⟩=M (bB ⟨s.toArray⟩):=by have R:=(aN.1 z).1;obtain⟨g',I,J,E,_,_,Y⟩:=Rd.pos h aA;simp only[dT,aK,nj,and_true,true_and]at E;obtain⟨⟨rfl,rfl⟩,rfl⟩:=E;exact Y j _ (by rw[fE,z];rfl)
def Rd.cases{s n:Nat}{v:X}{xs:List X}(h:Rd w s v n xs):(∃a cap,n=0/\v=.slice a 0 cap)\/(∃g off cap,0<n/\v=aH (M ⟨g,off,Z⟩) n cap):=by
 obtain z|z:=gQ n
 .obtain⟨a,cap,rfl⟩:=h.slice;exact bE ⟨a,cap,z,by rw[z]⟩
 .obtain⟨g,off,cap,E,_⟩:=h.pos z;exact cD ⟨g,off,cap,z,E⟩
def P6(t:Tx)(w:U):dE PQ 58 #[fX #[N eA t.fr,N eA t.dest,bB ⟨t.data.toArray⟩]] w λe w'=>e=bO (cK (decide (2000<t.data.length)))/\Below ↑w w w':=by
 obtain⟨D,z⟩:∃D:ByteArray,(⟨t.data.toArray⟩:ByteArray)=D:=⟨_,rfl⟩
 have hs:D.size=t.data.length:=by rw[<-z];rfl
 rw[z,<-hs];have E:cH _:=λo=>(aJ _ w).alloc jB o;clear z hs;go_enter (fq Tryz.func58 rfl),Tryz.ntmps58;go_wp2_with fail;go_ret;exact⟨by simp only[Int.ofNat_lt.symm];rfl,E.out _⟩
def Ou(s:List UInt8)(w:U):dE PQ 60 #[bB ⟨s.toArray⟩] w λe w'=>e=bO (cK (decide (2000<s.length)))/\Below ↑w w w':=by
 obtain⟨D,z⟩:∃D:ByteArray,(⟨s.toArray⟩:ByteArray)=D:=⟨_,rfl⟩
 have hs:D.size=s.length:=by rw[<-z];rfl
 rw[z,<-hs];clear z hs;go_enter (fq Tryz.func60 rfl),Tryz.ntmps60;go_wp2_with fail;go_ret;exact⟨by simp only[Int.ofNat_lt.symm];rfl,aJ _ _⟩
def idx{α:Type}(p:α->Bool)(l:List α):Int:=match l.findIdx? p with
 |some i=>i
 |none=>-1
def xB{p:α->Bool}{l:List α}(h:∀(j:Nat)(x:α),l[j]? =M x->p x=aL):idx p l=-1:=by unfold idx;rw[List.findIdx?_eq_none_iff.2 (λx E=>by obtain⟨j,z⟩:=pP E;exact h j x z)]
def xR{p:α->Bool}{l:List α}{i:Nat}{x:α}(E:l[i]? =M x)(I:p x=aR)(h:∀(j:Nat)(y:α),j<i->l[j]? =M y->p y=aL):idx p l=i:=by
 unfold idx;obtain⟨z,rfl⟩:=aN.1 E
 rw[iZ.2 ⟨z,I,λj J=>by
  grind⟩]
def Rl(p:α->Bool)(l:List α):decide (0<=idx p l)=l.any p:=by
 unfold idx;cases h:l.findIdx? p with
 |none=>
  grind
 |some i=>
  obtain⟨z,E,_⟩:=iZ.1 h;rw[Z0 aC];symm;rw[List.any_eq_true];exact⟨_,List.getElem_mem z,E⟩
end
end Go.Proofs.YtpibpdpedjinhabGreatDoor.Hm
namespace Go.Proofs.YtpibpdpedjinhabGreatDoor
open Go.RowKit Go.Joins
def toList_empty(s:ByteArray):s.toList.isEmpty=decide (s.size=0):=by rw[ByteArray.toList_eq,bD];cases s.data.toList<;>simp
def Az(u:U)(s:ByteArray)(i:Int)(j:Nat)(z:j<s.size)(e:i=(j:Int)):(mb 9 (bB s) (N ab i)).run PQ u=.ok (N .u8 (s[j].toNat:Int)) u:=by subst e;rw[run_index_string u _ s ab _ (uq eO),dif_pos aA];simp
open Go.Shelf
open Go.RowKit
def ren:Go.Shelf.Ren:=⟨fun|105=>139|212=>148|99=>149|165=>150|166=>119|170=>122|169=>120|263=>154|264=>155|206=>156|240=>138|241=>157|276=>147|277=>160|n=>n,fun|9=>9|3=>3|4=>4|20=>20|0=>0|46=>185|109=>233|5=>5|72=>201|76=>88|51=>22|146=>243|53=>146|148=>245|70=>198|37=>199|75=>62|127=>223|164=>180|80=>155|n=>n,fun|n=>n⟩
def lays105:Go.Proofs.Lays.n105 PQ ren:={
 mixed:=XN
 f99:=(fq Tryz.func149 rfl).trans (Z1 M XN)
 f105:=(fq Tryz.func139 rfl).trans (Z1 M XN)
 f165:=(fq Tryz.func150 rfl).trans (Z1 M XN)
 f166:=(fq Tryz.func119 rfl).trans (Z1 M XN)
 f169:=(fq Tryz.func120 rfl).trans (Z1 M XN)
 f170:=(fq Tryz.func122 rfl).trans (Z1 M XN)
 f206:=(fq Tryz.func156 rfl).trans (Z1 M XN)
 f212:=(fq Tryz.func148 rfl).trans (Z1 M XN)
 f240:=(fq Tryz.func138 rfl).trans (Z1 M XN)
 f241:=(fq Tryz.func157 rfl).trans (Z1 M XN)
 f263:=(fq Tryz.func154 rfl).trans (Z1 M XN)
 f264:=(fq Tryz.func155 rfl).trans (Z1 M XN)
 f276:=(fq Tryz.func147 rfl).trans (Z1 M XN)
 f277:=(fq Tryz.func160 rfl).trans (Z1 M XN)
 t0:=(uq Tryz.underlying0)
 a0:=(DL Tryz.isAgg0)
 z0:=(Di Tryz.sizeOf0)
 v0:=(BL Tryz.zeroValue0)
 t3:=(uq gT)
 a3:=(DL Tryz.isAgg3)
 z3:=(Di Tryz.sizeOf3)
 v3:=(BL Tryz.zeroValue3)
 t4:=(uq oe)
 a4:=(DL Tryz.isAgg4)
 z4:=(Di Tryz.sizeOf4)
 v4:=(BL Tryz.zeroValue4)
 t5:=(uq il)
 a5:=(DL Tryz.isAgg5)
 z5:=(Di Tryz.sizeOf5)
 v5:=(BL Tryz.zeroValue5)
 t9:=(uq eO)
 a9:=(DL Tryz.isAgg9)
 z9:=(Di Tryz.sizeOf9)
 v9:=(BL Tryz.zeroValue9)
 t20:=(uq Tryz.underlying20)
 a20:=(DL Tryz.isAgg20)
 z20:=(Di Tryz.sizeOf20)
 v20:=(BL Tryz.zeroValue20)
 t37:=(uq gL)
 a37:=(DL Tryz.isAgg199)
 z37:=(Di Tryz.sizeOf199)
 v37:=(BL Tryz.zeroValue199)
 t46:=(uq Tryz.underlying185)
 a46:=(DL Tryz.isAgg185)
 z46:=(Di Tryz.sizeOf185)
 v46:=(BL Tryz.zeroValue185)
 t51:=(uq Tryz.underlying22)
 a51:=(DL Tryz.isAgg22)
 z51:=(Di Tryz.sizeOf22)
 v51:=(BL Tryz.zeroValue22)
 t53:=(uq Tryz.underlying146)
 a53:=(DL Tryz.isAgg146)
 z53:=(Di Tryz.sizeOf146)
 v53:=(BL Tryz.zeroValue146)
 t70:=(uq Tryz.underlying198)
 a70:=(DL Tryz.isAgg198)
 z70:=(Di Tryz.sizeOf198)
 v70:=(BL Tryz.zeroValue198)
 t72:=(uq Tryz.underlying201)
 a72:=(DL Tryz.isAgg201)
 z72:=(Di Tryz.sizeOf201)
 v72:=(BL Tryz.zeroValue201)
 t75:=(uq Tryz.underlying62)
 a75:=(DL Tryz.isAgg62)
 z75:=(Di Tryz.sizeOf62)
 v75:=(BL Tryz.zeroValue62)
 t76:=(uq Tryz.underlying88)
 a76:=(DL Tryz.isAgg88)
 z76:=(Di Tryz.sizeOf88)
 v76:=(BL Tryz.zeroValue88)
 t109:=(uq Tryz.underlying233)
 a109:=(DL Tryz.isAgg233)
 z109:=(Di Tryz.sizeOf233)
 v109:=(BL Tryz.zeroValue233)
 t127:=(uq o3)
 a127:=(DL Tryz.isAgg223)
 z127:=(Di Tryz.sizeOf223)
 v127:=(BL Tryz.zeroValue223)
 t146:=(uq Tryz.underlying243)
 a146:=(DL Tryz.isAgg243)
 z146:=(Di Tryz.sizeOf243)
 v146:=(BL Tryz.zeroValue243)
 t148:=(uq Tryz.underlying245)
 a148:=(DL Tryz.isAgg245)
 z148:=(Di Tryz.sizeOf245)
 v148:=(BL Tryz.zeroValue245)
 t164:=(uq Tryz.underlying180)
 a164:=(DL Tryz.isAgg180)
 z164:=(Di Tryz.sizeOf180)
 v164:=(BL Tryz.zeroValue180) }
def extra:Builder.Extra PQ ren:={
 sizeBuilder:=XN
 liesBuilder:=XN
 t5:=(uq il)
 a5:=(DL Tryz.isAgg5)
 z5:=(Di Tryz.sizeOf5)
 v5:=(BL Tryz.zeroValue5)
 infoByte:=XN
 cellsByte:=XN
 sizeByte:=XN
 neB5:=by decide }
abbrev Zb(B b:Nat)(l:List UInt8)(w:U):Prop:=Lib.IsBuilderF 201 5 B b (lw l) w
def fresh(w:U):Zb ↑w ↑w [] (w.alloc (aG #[aD Z,aH Z 0 0] 201)):=Lib.IsBuilderF.of (Lib.fresh_isBuilder 201 5 w)
def agW{B b:Nat}(l:List UInt8){w:U}(h:Zb B b l w):dE PQ 122 #[aD (M ⟨b,0,Z⟩)] w λe w'=>e=bO (N ab l.length)/\w'=w:=by
 have c:=Any.Builder_Len_f (ρ:=ren) { lays105 with } B b _ w h;rw[o6]at c;exact c
def AU{B b:Nat}(l:List UInt8)(w:U)(h:Zb B b l w)(z:B<=w.heap.size):dE PQ 120 #[aD (M ⟨b,0,Z⟩)] w λe w'=>e=bO (bB ⟨l.toArray⟩)/\Zb B b l w'/\Below B w w':=
 Any.Builder_String_any_f (ρ:=ren) { lays105 with } extra B b l w h z
def O1{B b:Nat}(l:List UInt8)(s:ByteArray)(w:U)(h:Zb B b l w)(I:l.length+s.size<=140737488355328)(J:B<=w.heap.size):dE PQ 119 #[aD (M ⟨b,0,Z⟩),bB s] w λe w'=>e=bO (cQ #[N ab s.size,.nilIface])/\Zb B b (l++s.data.toList) w'/\Below B w w':=by
 refine(Any.Builder_WriteString_f (ρ:=ren) { lays105 with } extra B b _ s w h (by rw[o6];exact I) J).mono ?_;rintro e w' ⟨rfl,z,E⟩;refine⟨rfl,?_,E⟩;rw[Lib.strCells_eq,<-Lib.byteCells_append]at z;exact cD z
def repeated{s:ByteArray}{c:Nat}{w:U}(hc:c<=9223372036854775807)(z:s.size*c<=140737488355328):dE PQ 139 #[bB s,N ab c] w λe w'=>e=bO (bB ⟨(Lib.repeatL s.data.toList c).toArray⟩)/\Below ↑w w w':=
 Any.strings_Repeat (ρ:=ren) lays105 extra s c w hc z
def EL{B b:Nat}{l:List UInt8}{w w':U}(h:Zb B b l w)(J:Below ↑w w w'):Zb B b l w':=by
 have go:∀p,Lib.BuilderAtF 201 5 B b p (lw l) w->Lib.BuilderAtF 201 5 B b p (lw l) w':=by
  intro p hp;have E:=hp.lt;obtain⟨h1,v,h2,h3,h4⟩:=hp;have hk:=h3.lt;refine⟨h1,v,(J.block b E).trans h2,?_,h4⟩;obtain⟨g1,z⟩:=h3;refine⟨g1,?_⟩;obtain z|z:=z
  .exact bE z
  .obtain⟨g,cap,I,R,rfl,Y,q2,q3⟩:=z;exact cD ⟨g,cap,I,R,rfl,Y,(J.block g (hk g rfl).2).trans q2,q3⟩
 exact h.elim (λx=>bE (go _ x)) (λx=>cD (go _ x))
section
variable {w:U}
def lJ(w:U):Prop:=K3 w 1 0 (cK aL) (N .u8 128) (N .u8 183)/\K3 w 1 3 (cK aR) (N .u8 192) (N .u8 247)
def lJ.below{B:Nat}{w':U}(h:lJ w)(E:Below B w w')(z:1<B):lJ w':=⟨h.1.below E z,h.2.below E z⟩
def lJ.pos(h:lJ w):1<w.heap.size:=by
 have g:=h.1.1;obtain e|e:=gG 1 w.heap.size
 .exact e
 .unfold World.cell? at g;rw[Array.getElem?_eq_none (by simpa using e)]at g;simp at g
end
def JH{P:cU}(w:U)(base:Nat)(t ty e:cG)(i:TypeInfo)(z:X)(size bytes:Nat)(ht:P.underlying t=M (.slice e))(hi:P.info? e=M i)(hz:i.zero=M z)(I:i.size=size)(ah:i.bytes=bytes)(ak:z.cells.size=size)(ai:0<size)(v:X)(n:Nat)(xs:List X)(aa:w.ownsRow base e size v n xs)(a:eM)(m c:Nat)(E:List X)(hm:0<m)(hl:E.length=m*size)(R:∀j u,E[j]? =M u->w.cell? (a.add j)=M u)(h1:∀u∈E,u.oneCell'=aR)(af:n+m<=maxLen)(Y:(n+m)*bytes<=140737488355328)(ae:base<=↑w):∃v' w',(Builtin.append_ #[t,t] ty #[v,aH (M a) m c]).run P w=.ok v' w'/\w'.ownsRow base e size v' (n+m) (xs++E)/\w.grownBy w' v.ownBlock/\(v'.ownBlock=v.ownBlock\/∃g,v'.ownBlock=M g/\w.heap.size<=g):=by
 obtain⟨v',w',hr,h2,h3,h4⟩:=run_append_own (P:=P) w base t ty e i z size bytes ht hi hz I ah ak ai v n xs aa a m c E hl R h1 af Y ae;refine⟨v',w',hr,h2,h3,?_⟩;have am:n+m<=9223372036854775807:=by simp only[maxLen]at af;omega
 obtain⟨rfl,rfl⟩|⟨g,cap,ag,rfl,ar,hg,au,aq,ap,ao⟩:=aa.2
 .right;have hx:xs=[]:=bP (by simpa using aa.1);subst hx;obtain⟨v2,w2,J,g2,_,g4⟩:=run_append_own (P:=P) w _ t ty e i z size bytes ht hi hz I ah ak ai _ 0 [] (World.ownsRow_nil w _ e size) a m c E hl R h1 af Y jB;rw[hr]at J;simp only[Result.ok.injEq]at J;obtain⟨rfl,rfl⟩:=J;obtain⟨e1,_⟩|⟨g,cap,ag,rfl,an,_⟩:=g2.2
  .omega
  .exact⟨g,rfl,an⟩
 .by_cases ac:n+m<=cap
  .left;have aj:n*i.size+E.length<=ag.size:=by rw[hl,ap,I,<-iP];exact fK _ ac
   have J:=run_append_room (P:=P) w t ty e i ht hi g n cap ag hg a m c E (by rw[I];exact hl) R h1 ac aj;rw[hr]at J;simp only[Result.ok.injEq]at J;rw[J.1];rfl
  .right;subst I ah;have holds:=aa.cells (g:=g) rfl;have J:=run_append_grow (P:=P) w t ty e i z ht hi hz _ n cap xs aa.1 holds a m c E hl R aA aA (growslice_fits aA Y);rw[hr]at J;simp only[Result.ok.injEq]at J;exact⟨_,by rw[J.1];rfl,jB⟩
def Uw:(PQ.info? 164).map (λi=>(i.zero,i.size,i.bytes))=M (M (fX #[cK aL,bB ⟨#[]⟩,aH Z 0 0]),3,48):=XN
section
variable {w:U}{base e size n:Nat}{v:X}{xs:List X}
def own_below{w':U}(h:w.ownsRow base e size v n xs)(R:Below ↑w w w'):w'.ownsRow base e size v n xs:=by
 obtain⟨J,h2⟩:=h;refine⟨J,?_⟩;obtain h2|⟨g,cap,z,I,Y,E,r⟩:=h2
 .exact bE h2
 .exact cD ⟨g,cap,z,I,Y,(R.block g (jE E)).trans E,r⟩
def qZ(h:w.ownsRow base e size v n xs){g:Nat}(z:v.ownBlock=M g):base<=g/\g<↑w:=by
 obtain⟨rfl,_⟩|⟨g',cap,E,rfl,J,I,_⟩:=h.2
 .simp[cV]at z
 .simp[cV]at z;subst z;exact⟨J,(jE I)⟩
def xs_len(h:w.ownsRow base e 3 v n xs):xs.length=n*3:=h.1
end
section
variable {w w':U}{n lo hi base e size lo' hi':Nat}{v:X}{i:Im.It}{xs:List X}{ks:List Im.It}
def Tr(w:U):Nat->Nat->Nat->X->X->X->Im.It->Prop
 |0,_,_,_,_,_,_=>False
 |n+1,lo,hi,c0,c1,c2,i=>(c0=.bool i.list/\c1=bB ⟨i.bytes.toArray⟩)/\∃(xs:List X)(L H:Nat->Nat),w.ownsRow lo 164 3 c2 i.kids.length xs/\(∀g,c2.ownBlock=M g->g<hi)/\
   (∀j,j<i.kids.length->lo<=L j/\L j<=H j/\H j<=hi/\(∀g,c2.ownBlock=M g->g<L j\/H j<=g))/\(∀a b,a<b->b<i.kids.length->H a<=L b)/\
   ∀(j:Nat)(J:j<i.kids.length),∃E I z,xs[j*3]? =M E/\xs[j*3+1]? =M I/\xs[j*3+2]? =M z/\Tr w n (L j) (H j) E I z (i.kids[j])
def Row(w:U)(n lo hi:Nat)(v:X)(ks:List Im.It):Prop:=∃(xs:List X)(L H:Nat->Nat),w.ownsRow lo 164 3 v ks.length xs/\(∀g,v.ownBlock=M g->g<hi)/\
   (∀j,j<ks.length->lo<=L j/\L j<=H j/\H j<=hi/\(∀g,v.ownBlock=M g->g<L j\/H j<=g))/\(∀a b,a<b->b<ks.length->H a<=L b)/\
   ∀(j:Nat)(J:j<ks.length),∃E I z,xs[j*3]? =M E/\xs[j*3+1]? =M I/\xs[j*3+2]? =M z/\Tr w n (L j) (H j) E I z (ks[j])
def Tr.Wp(h:Row w n lo hi v i.kids):Tr w (n+1) lo hi (.bool i.list) (bB ⟨i.bytes.toArray⟩) v i:=⟨⟨rfl,rfl⟩,h⟩
def Io(h:w.ownsRow base e size v n xs)(hk:∀g,v.ownBlock=M g->w'.heap[g]? =w.heap[g]?):w'.ownsRow base e size v n xs:=by
 obtain⟨J,h2⟩:=h;refine⟨J,?_⟩;obtain h2|⟨g,cap,z,E,R,I,r⟩:=h2
 .exact bE h2
 .exact cD ⟨g,cap,z,E,R,(hk g (by rw[E];rfl)).trans I,r⟩
def Tr.kept:∀(n lo hi:Nat)(c0 z E:X)(i:Im.It),(∀k,lo<=k->k<hi->w'.heap[k]? =w.heap[k]?)->Tr w n lo hi c0 z E i->Tr w' n lo hi c0 z E i
 |0,_,_,_,_,_,_,_,h=>h
 |n+1,lo,hi,c0,z,E,i,hk,h=>by
  obtain⟨h0,xs,L,H,R,h2,h3,h4,h5⟩:=h;refine⟨h0,xs,L,H,Io R (λg J=>hk g (qZ R J).1 (h2 g J)),h2,h3,h4,λj hj=>?_⟩;obtain⟨d0,Y,I,e0,e1,e2,e3⟩:=h5 j hj;have:=h3 j hj;exact⟨d0,Y,I,e0,e1,e2,Tr.kept n (L j) (H j) d0 Y I _ (λk a b=>hk k aA aA) e3⟩
def Row.kept(h:Row w n lo hi v ks)(hk:∀k,lo<=k->k<hi->w'.heap[k]? =w.heap[k]?):Row w' n lo hi v ks:=
 (Tr.kept (n+1) lo hi (cK aR) (bB ⟨#[]⟩) v ⟨aR,[],ks⟩ hk ⟨⟨rfl,rfl⟩,h⟩).2
def Tr.inn{B:Nat}:∀(n lo hi:Nat)(c0 Y c2:X)(i:Im.It),hi<=B->Tr w n lo hi c0 Y c2 i->In B w n c0 Y c2 i
 |0,_,_,_,_,_,_,_,h=>h
 |n+1,lo,hi,c0,Y,c2,i,hB,h=>by
  obtain⟨⟨I,J⟩,xs,L,H,h1,h2,h3,h4,h5⟩:=h;obtain⟨rfl,hz⟩|⟨g,cap,aa,rfl,hg,hh,ae,ac,af,E⟩:=h1.2
  .refine⟨I,J,Z,0,by rw[hz],λR=>Xs (bP hz) R⟩
  .refine⟨I,J,_,cap,rfl,λ_=>⟨g,0,rfl,by have:=h2 g rfl;omega,λj hj=>?_⟩⟩;obtain⟨d0,d1,d2,e0,e1,e2,e3⟩:=h5 j hj
   have z:∀(m:Nat)(u:X),xs[m]? =M u->aa[m]? =M u:=by
    intro m u hu;have hm:=(aN.1 hu).1;have hl:=h1.1;rw[<-E,iI aA]at hu;simpa using hu
   have:=h3 j hj;refine⟨d0,d1,d2,⟨?_,?_,?_⟩,Tr.inn n (L j) (H j) d0 d1 d2 _ aA e3⟩
   .rw[aI hh,fJ];exact z _ _ e0
   .rw[aI hh,fJ];exact z _ _ e1
   .rw[aI hh,fJ];exact z _ _ e2
def KA{z:Nat}(h:w.ownsRow base e size v n xs)(R:z<=base):w.ownsRow z e size v n xs:=by
 obtain⟨J,h2⟩:=h;refine⟨J,?_⟩;obtain h2|⟨g,cap,E,I,Y,r⟩:=h2
 .exact bE h2
 .exact cD ⟨g,cap,E,I,aA,r⟩
def Row.wider(h:Row w n lo hi v ks)(I:lo'<=lo)(h2:hi<=hi'):Row w n lo' hi' v ks:=by obtain⟨xs,L,H,E,q2,J,q4,R⟩:=h;refine⟨xs,L,H,KA E I,λg z=>by have:=q2 g z;omega,λj hj=>?_,q4,R⟩;obtain⟨a1,a2,a3,Y⟩:=J j hj;exact⟨aA,a2,aA,Y⟩
def Tr.wider{c0 E z:X}(h:Tr w n lo hi c0 E z i)(I:lo'<=lo)(h2:hi<=hi'):Tr w n lo' hi' c0 E z i:=by
 cases n with
 |zero=>cases h
 |succ n=>exact⟨h.1,Row.wider h.2 I h2⟩
def Row.none(w:U)(n lo hi:Nat):Row w n lo hi (aH Z 0 0) []:=
 ⟨[],λ_=>0,λ_=>0,World.ownsRow_nil w lo _ 3,λg I=>by simp[cV]at I,λj z=>by simp at z,λ_ b _ E=>by simp at E,λj z=>by simp at z⟩
def Row.step{w1 w3 w4:U}{k:Im.It}{v' d0 d1 R:X}(ai:lo<=↑w){L H:Nat->Nat}(I:w.ownsRow lo 164 3 v ks.length xs)(ag:∀j,j<ks.length->lo<=L j/\L j<=H j/\H j<=w.heap.size/\(∀g,v.ownBlock=M g->g<L j\/H j<=g))(ah:∀a b,a<b->b<ks.length->H a<=L b)(Y:∀(j:Nat)(hj:j<ks.length),∃d0 d1 R,xs[j*3]? =M d0/\xs[j*3+1]? =M d1/\xs[j*3+2]? =M R/\Tr w n (L j) (H j) d0 d1 R (ks[j]))(ae:Tr w1 n ↑w ↑w1 d0 d1 R k)(af:Below ↑w w w1)(ac:Below ↑w1 w1 w3)(E:w4.ownsRow lo 164 3 v' (ks.length+1) (xs++[d0,d1,R]))(aa:w3.grownBy w4 v.ownBlock)(aj:v'.ownBlock=v.ownBlock\/∃g,v'.ownBlock=M g/\w3.heap.size<=g):Row w4 n lo ↑w4 v' (ks++[k]):=by
 have hx:=xs_len I;have s1:=af.size;have s3:=ac.size;have s4:=aa.size;have ak:∀g,v.ownBlock=M g->g<w.heap.size:=λg hg=>(qZ I hg).2;have J:(ks++[k]).length=ks.length+1:=aC
 refine⟨xs++[d0,d1,R],λj=>if j<ks.length then L j else w.heap.size,λj=>if j<ks.length then H j else w1.heap.size,by rw[J];exact E,λg hg=>(qZ E hg).2,?_,?_,?_⟩
 .intro j hj;by_cases z:j<ks.length
  .grind
  .grind
 .grind
 .intro j hj;rw[J]at hj;by_cases z:j<ks.length
  .obtain⟨e0,e1,e2,q0,q1,q2,ho⟩:=Y j z;obtain⟨a1,a2,a3,a4⟩:=ag j z;simp only[ZD z];rw[List.getElem_append_left z];refine⟨e0,e1,e2,?_,?_,?_,Tr.kept n _ _ _ _ _ _ (λm m1 m2=>?_) ho⟩
   .grind
   .grind
   .grind
   .rw[aa.block m aA (λe=>by grind),ac.block m aA,af.block m aA]
  .obtain rfl:j=ks.length:=by omega
   simp only[Zs z];rw[List.getElem_append_right jB];simp only[Nat.sub_self,List.getElem_cons_zero];refine⟨d0,d1,R,?_,?_,?_,Tr.kept n _ _ _ _ _ _ (λm m1 m2=>?_) ae⟩
   .grind
   .grind
   .rw[bV aA,hx,show ks.length*3+2-ks.length*3=2 from by omega];rfl
   .rw[aa.block m aA (λe=>by grind),ac.block m aA]
end
def vM:Option (Bool×Nat×Nat)->X
 |some (l,f,t)=>cQ #[fX #[.bool l,N ab f,N ab t],cK aR]
 |none=>cQ #[fX #[cK aL,N ab 0,N ab 0],cK aL]
def getD_byte(s:ByteArray)(f:Nat)(h:f<s.size):s.data.toList.getD f 0=s[f]:=by have z:=bD s;rw[aY,aO aA,Array.getElem_toList];rfl
def Dx(l:Bool)(x y:Int)(s:ByteArray)(f n:Nat)(w:U)(hs:s.size<=16777216)(hf:f<=s.size)(hn:n<4294967296):dE PQ 158 #[fX #[.bool l,N .u8 x,N .u8 y],bB s,N ab f,N p8 n] w λe w'=>e=bO (vM (Im.chk l s.data.toList f n))/\Below ↑w w w':=by
 have I:=bD s;have R:∀(a b:nL),Below ↑w w ((w.alloc a).alloc b):=λa b=>((aJ _ w).alloc jB _).alloc aC _;have E:cH _:=R;clear R;have ae:0<=(s.size:Int)-(f:Int):=aA
 have ag:IntKind.u64.wrap ((s.size:Int)-(f:Int))=(s.size:Int)-(f:Int):=by rw[IntKind.wrap_u64];omega
 by_cases h1:s.size-f<n
 .have J:Im.chk l s.data.toList f n=Z:=by unfold Im.chk;rw[<-I,ZD h1]
  rw[J];have aa:(s.size:Int)-(f:Int)<n:=aA
  clear J I;go_enter (fq Tryz.func158 rfl),Tryz.ntmps158;go_wp2_with fail;exact cM (v:=.tuple _) (by simp[results,mK,go_sem]) rfl ⟨rfl,E.out _ _⟩
 .have aa:¬(s.size:Int)-(f:Int)<n:=by omega
  by_cases h2:l=aL/\n=1/\(s.data.toList.getD f 0).toNat<128
  .have J:Im.chk l s.data.toList f n=Z:=by unfold Im.chk;rw[<-I,Zs h1,ZD h2]
   rw[J];obtain⟨rfl,rfl,h3⟩:=h2;have z:f<s.size:=aA
   rw[getD_byte s f z]at h3;have af:(s[f].toNat:Int)<128:=aA
   have hx:=λu=>Az u s _ f z rfl;clear J I h3;go_enter (fq Tryz.func158 rfl),Tryz.ntmps158;go_wp2_with fail;exact cM (v:=.tuple _) (by simp[results,mK,go_sem]) rfl ⟨rfl,E.out _ _⟩
  .have J:Im.chk l s.data.toList f n=M (l,f,f+n):=by unfold Im.chk;rw[<-I,Zs h1,Zs h2]
   rw[J];clear J;cases l with
   |true=>
    clear I h2;go_enter (fq Tryz.func158 rfl),Tryz.ntmps158;go_wp2_with fail;exact cM (v:=cQ #[fX #[cK aR,N ab f,N ab (f+n)],cK aR]) (by simp[results,mK,go_sem]) rfl ⟨by simp[vM],E.out _ _⟩
   |false=>
    by_cases Y:n=1
    .subst Y;have z:f<s.size:=by omega
     have h3:¬(s[f].toNat:Int)<128:=by
      rw[getD_byte s f z]at h2;intro h;exact h2 ⟨rfl,rfl,aA⟩
     have hx:=λu=>Az u s _ f z rfl;clear I h2;go_enter (fq Tryz.func158 rfl),Tryz.ntmps158;go_wp2_with fail;exact cM (v:=cQ #[fX #[cK aL,N ab f,N ab (f+1)],cK aR]) (by simp[results,mK,go_sem]) rfl ⟨by simp[vM],E.out _ _⟩
    .have ac:((n:Int) == 1)=aL:=by simp;omega
     clear I h2;go_enter (fq Tryz.func158 rfl),Tryz.ntmps158;go_wp2_with fail;exact cM (v:=cQ #[fX #[cK aL,N ab f,N ab (f+n)],cK aR]) (by simp[results,mK,go_sem]) rfl ⟨by simp[vM],E.out _ _⟩
def ext_list(s:ByteArray)(a b:Nat):(s.extract a b).data.toList=(s.data.toList.take b).drop a:=by simp[ByteArray.data_extract,Array.toList_extract,List.drop_take]
def sF:∀(l:List UInt8)(a k:Nat),a<256 ^ k->Im.val l a<256 ^ (k+l.length)
 |[],a,k,h=>h
 |x::l,a,k,h=>by
  have:=x.toNat_lt;have h2:=sF l (256*a+x.toNat) (k+1) aA;simp only[Im.val,aU];rw[show k+(l.length+1)=k+1+l.length from by omega];exact h2
def A8(s:List UInt8)(k:Nat)(h:k<s.length):Im.val (s.take (k+1)) 0=256*Im.val (s.take k) 0+(s.getD k 0).toNat:=by rw[eY h,Im.val_append,aY,aO h];rfl
def AO(a c:Nat)(hc:c<256):(a*256) |||c=256*a+c:=by have:=Nat.two_pow_add_eq_or_of_lt (i:=8) (b:=c) aA a;rw[show a*256=2 ^ 8*a from by omega,<-this]
def below_bytesWorld{B:Nat}{w u:U}(h:Below B w u)(E:B<=u.heap.size)(e:cG)(s:ByteArray):Below B w (rI u e s):=
 h.trans ⟨rfl,rfl,rfl,by rw[rL];omega,λm z=>Lib.bytesWorld_at_old u e s m aA⟩
def zA(l:Bool){x y:Int}(s:ByteArray){f:Nat}{w:U}(hs:s.size<=16777216)(hf:2<=f)(bk:f<=5):dE PQ 159 #[fX #[.bool l,N .u8 x,N .u8 y],bB s,N ab f] w λe w'=>e=bO (vM (Im.far l s.data.toList f))/\Below ↑w w w':=by
 have hl:=bD s;have aw:∀(a b:nL),Below ↑w w ((w.alloc a).alloc b):=λa b=>((aJ _ w).alloc jB _).alloc aC _;have aj:cH _:=aw;clear aw;by_cases h1:s.size<f
 .have I:Im.far l s.data.toList f=Z:=by unfold Im.far;rw[<-hl,ZD (bE h1)]
  rw[I];have bb:(s.size:Int)<f:=aA
  clear I hl;go_enter (fq Tryz.func159 rfl),Tryz.ntmps159;go_wp2_with fail;exact cM (v:=.tuple _) (by simp[results,Tryz.results159,go_sem]) rfl ⟨rfl,aj.out _ _⟩
 .have bb:¬(s.size:Int)<f:=by omega
  have ar:1<s.size:=aA
  have hx:=λu=>Az u s 1 1 ar rfl;have ah:=getD_byte s 1 ar;by_cases h2:s[1]=0
  .have I:Im.far l s.data.toList f=Z:=by unfold Im.far;rw[ah,ZD (cD h2)]
   rw[I];have ba:((s[1].toNat:Int) == 0)=aR:=by rw[h2];rfl
   clear I hl;go_enter (fq Tryz.func159 rfl),Tryz.ntmps159;go_wp2_with fail;exact cM (v:=.tuple _) (by simp[results,Tryz.results159,go_sem]) rfl ⟨rfl,aj.out _ _⟩
  .have ba:((s[1].toNat:Int) == 0)=aL:=by
    have:s[1].toNat≠0:=λe=>h2 (jv.1 e);simp;omega
   obtain⟨S,hS⟩:∃S:ByteArray,s.extract 1 f=S:=⟨_,rfl⟩
   have ap:S.data.toList=(s.data.toList.take f).drop 1:=by rw[<-hS,ext_list]
   have bj:S.size=f-1:=by rw[<-hS];simp[fA];omega
   have a8:=λu:U=>rB (P:=PQ) u 9 199 5 S (uq eO) (uq gL) (uq il)
   have I:Im.far l s.data.toList f=if Im.val S.data.toList 0<=55 then Z else Im.chk l s.data.toList f (Im.val S.data.toList 0):=by
    unfold Im.far;rw[<-hl,ah,Zs (by grind),ap]
   generalize Im.far l s.data.toList f=R at I⊢;have HR:cH _:=I;clear I hl ap ah;go_enter (fq Tryz.func159 rfl),Tryz.ntmps159;go_wp2_with fail;obtain⟨Wd,hX⟩:∃Wd:U,Wd=((w.alloc (aG #[cK l,N IntKind.u8 x,N IntKind.u8 y] 248)).alloc (aG #[cK aL,N ab 0,N ab 0] 237)):=⟨_,rfl⟩
   have az:↑Wd=w.heap.size+1+1:=by rw[hX];simp
   have a4:Below ↑w w Wd:=by rw[hX];exact aj.out _ _
   have a1:Wd.heap[w.heap.size]? =M (aG #[cK l,N IntKind.u8 x,N IntKind.u8 y] 248 (0,0)):=by rw[hX,aZ _ _ _ aC];exact cT _ _
   have an:Wd.heap[w.heap.size+1]? =M (aG #[cK aL,N ab 0,N ab 0] 237 (0,0)):=by rw[hX];have:=cT (w.alloc (aG #[cK l,N IntKind.u8 x,N IntKind.u8 y] 248)) (aG #[cK aL,N ab 0,N ab 0] 237);simpa using this
   rw[<-hX];obtain⟨Y,hY⟩:∃Y:U,Y=rI Wd 5 S:=⟨_,rfl⟩
   have bg:↑Y=w.heap.size+3:=by rw[hY,rL,az]
   have ac:Below ↑Wd Wd Y:=by rw[hY];exact below_bytesWorld (aJ _ _) jB _ _
   have a0:∀k,k<S.size->Y.cell? ⟨w.heap.size+1+1,k,Z⟩=M (N .u8 (S.data.toList.getD k 0).toNat):=λk hk=>by rw[hY,<-az];exact Lib.bytesWorld_cell Wd 5 S k hk
   rw[<-hY];have J:=(ac.block _ aA).trans a1;have E:=(ac.block _ aA).trans an;have aa:=a4.trans (ac.mono aA);have af:=bD S;have HY:cH _:=jy a0 (jy J (jy E aa));have ae:cH _:=af;clear hX hY a0 J E aa ac a1 an a4 af a8 hx hS;generalize grownCap Wd (f-1) 0 5=gc;go_loopg [8,26] (f-1) (λg v t wx=>∃k:Nat,k<=f-1/\t=N ab k/\v=N p8 (Im.val (S.data.toList.take k) 0:Nat)/\g=f-1-k/\wx=Y)
   case atStart=>exact⟨0,dL _,rfl,rfl,rfl,rfl⟩
   case round=>
    obtain⟨k,hk,rfl,rfl,rfl,rfl⟩:=hrel
    have a2:Im.val (S.data.toList.take k) 0<4294967296:=by
     have:=sF (S.data.toList.take k) 0 0 aC;have ai:0+(S.data.toList.take k).length<=4:=aF
     have:=iK (n:=256) aB ai;omega
    by_cases bh:k<f-1
    .have a3:(k:Int)<((f-1:Nat):Int):=by omega
     have hc:=HY.out.1 k aA;generalize hb:(S.data.toList.getD k 0).toNat=b at hc;have a6:b<256:=by rw[<-hb];exact UInt8.toNat_lt _
     have ak:=A8 S.data.toList k (by rw[<-ae.out];omega);rw[hb]at ak
     have bd:Im.val (S.data.toList.take k) 0<16777216:=by
      have:=sF (S.data.toList.take k) 0 0 aC;have ai:0+(S.data.toList.take k).length<=3:=aF
      have:=iK (n:=256) aB ai;omega
     generalize au:Im.val (S.data.toList.take (k+1)) 0=V' at ak;have a5:cH _:=au;clear au;generalize Im.val (S.data.toList.take k) 0=V at *;have Hb:cH _:=hb;clear hb;go_wp2_with fail
     rw[show bits .or p8 ((V:Int)*256) (b:Int)=V' from by
      rw[show(V:Int)*256=((V*256:Nat):Int) from by omega,bits_or_u64_nat _ _ aA aA,AO V b a6,ak]]
     go_roundg (f-1-(k+1))
     case measure=>omega
     case rel=>
      refine⟨_,aA,by go_num,?_,rfl,rfl⟩;rw[a5.out]
    .have a3:¬(k:Int)<((f-1:Nat):Int):=by omega
     obtain rfl:k=f-1:=aA
     have a7:S.data.toList.take (f-1)=S.data.toList:=eH (by rw[<-ae.out];omega);rw[a7]at a2⊢;obtain⟨_,J,E,aa⟩:=HY.out;generalize Im.val S.data.toList 0=V at *;obtain⟨m0,m1,m2⟩:=cells3 J;obtain⟨r0,r1,r2⟩:=cells3 E;have fr:=aQ E;have aq:cH _:=aa;have a9:cH _:=E;clear J E aa HY;by_cases av:V<=55
     .have ao:(V:Int)<=55:=by omega
      have I:R=Z:=by rw[HR.out,ZD av]
      have am:cH _:=I;clear I HR;go_wp2_with fail;exact cM (v:=cQ #[fX #[cK aL,N ab 0,N ab 0],cK aL]) (by simp[results,Tryz.results159,go_sem,r0,r1,r2]) rfl ⟨by rw[am.out];rfl,((aq.out.setCell aC _).setCell aC _).setCell aC _⟩
     .have ao:¬(V:Int)<=55:=by omega
      have I:R=Im.chk l s.data.toList f V:=by rw[HR.out,Zs av]
      obtain⟨b0,f0,t0,q0,hV⟩:∃b0 f0 t0 q0,vM (Im.chk l s.data.toList f V)=cQ #[fX #[.bool b0,N ab f0,N ab t0],.bool q0]:=by
       cases Im.chk l s.data.toList f V with
       |none=>exact⟨_,_,_,_,rfl⟩
       |some z=>exact⟨_,_,_,_,rfl⟩
      have HV:cH _:=hV;have am:cH _:=I;clear I HR hV;go_wp2_with fail;refine(Dx l x y s f V wr hs aA a2).mono ?_;rintro e w3 ⟨rfl,ay⟩;rw[HV.out];have ag:=(ay.block _ aA).trans a9.out;obtain⟨z0,z1,z2⟩:=cells3 ag;have fz:=aQ ag;have HB:cH _:=aq.out.trans (ay.mono aA);clear r0 r1 r2 fr m0 m1 m2 ag;go_wp2_with fail;exact cM (v:=cQ #[fX #[.bool b0,N ab f0,N ab t0],.bool q0]) (by simp[results,Tryz.results159,go_sem,z0,z1,z2]) rfl ⟨by rw[am.out,HV.out],((HB.out.setCell aC _).setCell aC _).setCell aC _⟩
def adu(u:U):(mb 249 (fX #[cK aL,N .u8 128,N .u8 183,cK aR,N .u8 192,N .u8 247]) (N ab 0)).run PQ u=.ok (fX #[cK aL,N .u8 128,N .u8 183]) u:=by simp[mb,eJ (uq Tryz.underlying249),asIntOf,go_sem]
def acI(u:U):(mb 249 (fX #[cK aL,N .u8 128,N .u8 183,cK aR,N .u8 192,N .u8 247]) (N ab 1)).run PQ u=.ok (fX #[cK aR,N .u8 192,N .u8 247]) u:=by simp[mb,eJ (uq Tryz.underlying249),asIntOf,go_sem]
def Fb(s:ByteArray)(w:U)(hs:s.size<=16777216)(hH:lJ w):dE PQ 151 #[bB s] w λe w'=>e=bO (vM (Im.body s.data.toList))/\Below ↑w w w':=by
 have hl:=bD s;have h0:=hH.pos;have ak:=toList_empty s;by_cases hz:s.size=0
 .have hR:Im.body s.data.toList=Z:=by
   have:s.data.toList=[]:=bP aA;rw[this];rfl
  rw[hR];have he:s.toList.isEmpty=aR:=by rw[ak];simp[hz]
  clear hR hl ak;go_enter (fq Tryz.func151 rfl),Tryz.ntmps151;go_wp2_with fail;exact cM (v:=.tuple _) (by simp[results,kB,go_sem]) rfl ⟨rfl,(aJ _ w).alloc jB _⟩
 .have he:s.toList.isEmpty=aL:=by rw[ak];simp[hz]
  have au:0<s.size:=aA
  have hx:=λu=>Az u s 0 0 au rfl;obtain⟨c,hc⟩:∃c:UInt8,s[0]=c:=⟨_,rfl⟩
  have a8:=c.toNat_lt;rw[hc]at hx;have hR:Im.body s.data.toList=if c.toNat<128 then M (aL,0,1)
  else if c.toNat<=183 then Im.chk aL s.data.toList 1 (c.toNat-128)
  else if c.toNat<=187 then Im.far aL s.data.toList (1+(c.toNat-183))
  else if c.toNat<192 then Z
  else if c.toNat<=247 then Im.chk aR s.data.toList 1 (c.toNat-192)
  else if c.toNat<=251 then Im.far aR s.data.toList (1+(c.toNat-247))
  else Z:=by
   have hg:=getD_byte s 0 au;rw[hc]at hg;cases hd:s.data.toList with
   |nil=>grind
   |cons a r=>
    rw[hd]at hg;simp at hg;subst hg;rfl
  generalize Im.body s.data.toList=R at hR⊢;have HR:cH _:=hR;clear hR hl ak hc;generalize hn:c.toNat=n at *;clear hn;by_cases av:n<128
  .have ap:(n:Int)<128:=by omega
   go_enter (fq Tryz.func151 rfl),Tryz.ntmps151;go_wp2_with fail;exact cM (v:=cQ #[fX #[cK aL,N ab 0,N ab 1],cK aR]) (by simp[results,kB,go_sem]) rfl ⟨by rw[HR.out,ZD av];rfl,(aJ _ w).alloc jB _⟩
  .have ap:¬(n:Int)<128:=by omega
   have ay:=hH;obtain⟨⟨a0,a1,a2⟩,a3,a4,a5⟩:=ay;simp only[fJ,Nat.reduceAdd]at a1 a2 a4 a5;obtain⟨Wd,hX,af,Y⟩:=jD w #[cK aL,N ab 0,N ab 0] 237;have an:↑Wd=w.heap.size+1:=by rw[hX];simp
   have hV:∀R':Option (Bool×Nat×Nat),∃b0 f0 t0 q0,vM R'=cQ #[fX #[.bool b0,N ab f0,N ab t0],.bool q0]:=by
    intro R';cases R' with
    |none=>exact⟨_,_,_,_,rfl⟩
    |some z=>exact⟨_,_,_,_,rfl⟩
   have am:cH _:=hV;clear hV;go_enter (fq Tryz.func151 rfl),Tryz.ntmps151;go_wp2_with fail;rw[<-hX];have HX:cH _:=jy an (jy af Y);clear hX an af Y a0 a1 a2 a3 a4 a5;go_loopg [16] 2 (λg t wx=>∃k:Nat,k<=2/\t=N ab k/\g=2-k/\Below (w.heap.size+1) Wd wx/\(1<=k->187<n)/\(k=2->n<192\/251<n))
   case atStart=>exact⟨0,dL _,rfl,rfl,aJ _ _,λh=>aA,λh=>aA⟩
   case round=>
    obtain⟨k,hk,rfl,rfl,hb,aq,aw⟩:=hrel;obtain⟨an,af,Y⟩:=HX.out;have ae:=hb.size;rw[an]at ae;have J:=(hb.block _ aA).trans Y;have ai:=af.trans (hb.mono aA);have a7:=adu;have a6:=acI
    match k,hk with
    |0,_=>
     have ar:=aq;by_cases h1:128<=n/\n<=183
     .obtain⟨g1,g2⟩:=h1;have hR:R=Im.chk aL s.data.toList 1 (n-128):=by rw[HR.out];repeat' first|rw[Zs aA]|rw[ZD aA]
      obtain⟨b0,f0,t0,q0,hV⟩:=am.out (Im.chk aL s.data.toList 1 (n-128));have HV:cH _:=hV;have ac:cH _:=hR;have ag:cH _:=J;clear hR HR hV J Y;have aj:(128:Int)<=(n:Int):=aA
      have ah:(n:Int)<=183:=aA
      go_wp2_with fail;rw[show(n:Int)-128=((n-128:Nat):Int) from by omega];refine(Dx aL _ _ s 1 _ _ hs aA aA).mono ?_;rintro e w3 ⟨rfl,I⟩;have aa:=(hb.alloc ae _).trans (I.mono aF);rw[HV.out];have E:=(I.block _ aF).trans ((aZ _ _ _ aA).trans ag.out);obtain⟨z0,z1,z2⟩:=cells3 E;have fz:=aQ E;have HB:cH (Below ↑w w w3):=af.trans (aa.mono aA);clear E I aa hb ai;go_wp2_with fail;exact cM (v:=cQ #[fX #[.bool b0,N ab f0,N ab t0],.bool q0]) (by simp[results,kB,go_sem,z0,z1,z2]) rfl ⟨by rw[ac.out,HV.out],((HB.out.setCell aC _).setCell aC _).setCell aC _⟩
     .by_cases h2:183<n/\n<=187
      .obtain⟨g1,g2⟩:=h2;have hR:R=Im.far aL s.data.toList (1+(n-183)):=by rw[HR.out];repeat' first|rw[Zs aA]|rw[ZD aA]
       obtain⟨b0,f0,t0,q0,hV⟩:=am.out (Im.far aL s.data.toList (1+(n-183)));have HV:cH _:=hV;have ac:cH _:=hR;have ag:cH _:=J;clear hR HR hV J Y;have aj:(183:Int)<(n:Int):=aA
       have ah:(n:Int)<=187:=aA
       go_wp2_with fail;rw[show 1+((n:Int)-183)=((1+(n-183):Nat):Int) from by omega];refine(zA aL s hs aA aA).mono ?_;rintro e w3 ⟨rfl,I⟩;have aa:=(hb.alloc ae _).trans (I.mono aF);rw[HV.out];have E:=(I.block _ aF).trans ((aZ _ _ _ aA).trans ag.out);obtain⟨z0,z1,z2⟩:=cells3 E;have fz:=aQ E;have HB:cH (Below ↑w w w3):=af.trans (aa.mono aA);clear E I aa hb ai;go_wp2_with fail;exact cM (v:=cQ #[fX #[.bool b0,N ab f0,N ab t0],.bool q0]) (by simp[results,kB,go_sem,z0,z1,z2]) rfl ⟨by rw[ac.out,HV.out],((HB.out.setCell aC _).setCell aC _).setCell aC _⟩
      .have h3:187<n:=by omega
       have aj:(128:Int)<=(n:Int):=aA
       have ah:(183:Int)<(n:Int):=aA
       have az:(187:Int)<(n:Int):=aA
       clear J Y;go_wp2_with fail;go_roundg 1
       case measure=>omega
       case rel=>exact⟨1,aA,rfl,rfl,hb.alloc ae _,λ_=>h3,λh=>aA⟩
    |1,_=>
     have ar:=aq;have ao:=aq aA;by_cases h1:192<=n/\n<=247
     .obtain⟨g1,g2⟩:=h1;have hR:R=Im.chk aR s.data.toList 1 (n-192):=by rw[HR.out];repeat' first|rw[Zs aA]|rw[ZD aA]
      obtain⟨b0,f0,t0,q0,hV⟩:=am.out (Im.chk aR s.data.toList 1 (n-192));have HV:cH _:=hV;have ac:cH _:=hR;have ag:cH _:=J;clear hR HR hV J Y;have aj:(192:Int)<=(n:Int):=aA
      have ah:(n:Int)<=247:=aA
      go_wp2_with fail;rw[show(n:Int)-192=((n-192:Nat):Int) from by omega];refine(Dx aR _ _ s 1 _ _ hs aA aA).mono ?_;rintro e w3 ⟨rfl,I⟩;have aa:=(hb.alloc ae _).trans (I.mono aF);rw[HV.out];have E:=(I.block _ aF).trans ((aZ _ _ _ aA).trans ag.out);obtain⟨z0,z1,z2⟩:=cells3 E;have fz:=aQ E;have HB:cH (Below ↑w w w3):=af.trans (aa.mono aA);clear E I aa hb ai;go_wp2_with fail;exact cM (v:=cQ #[fX #[.bool b0,N ab f0,N ab t0],.bool q0]) (by simp[results,kB,go_sem,z0,z1,z2]) rfl ⟨by rw[ac.out,HV.out],((HB.out.setCell aC _).setCell aC _).setCell aC _⟩
     .by_cases h2:247<n/\n<=251
      .obtain⟨g1,g2⟩:=h2;have hR:R=Im.far aR s.data.toList (1+(n-247)):=by rw[HR.out];repeat' first|rw[Zs aA]|rw[ZD aA]
       obtain⟨b0,f0,t0,q0,hV⟩:=am.out (Im.far aR s.data.toList (1+(n-247)));have HV:cH _:=hV;have ac:cH _:=hR;have ag:cH _:=J;clear hR HR hV J Y;have aj:(247:Int)<(n:Int):=aA
       have ah:(n:Int)<=251:=aA
       go_wp2_with fail;rw[show 1+((n:Int)-247)=((1+(n-247):Nat):Int) from by omega];refine(zA aR s hs aA aA).mono ?_;rintro e w3 ⟨rfl,I⟩;have aa:=(hb.alloc ae _).trans (I.mono aF);rw[HV.out];have E:=(I.block _ aF).trans ((aZ _ _ _ aA).trans ag.out);obtain⟨z0,z1,z2⟩:=cells3 E;have fz:=aQ E;have HB:cH (Below ↑w w w3):=af.trans (aa.mono aA);clear E I aa hb ai;go_wp2_with fail;exact cM (v:=cQ #[fX #[.bool b0,N ab f0,N ab t0],.bool q0]) (by simp[results,kB,go_sem,z0,z1,z2]) rfl ⟨by rw[ac.out,HV.out],((HB.out.setCell aC _).setCell aC _).setCell aC _⟩
      .have h3:n<192\/251<n:=by omega
       clear J Y;obtain h3|h3:=h3
       .have aj:(n:Int)<192:=by omega
        have ah:(n:Int)<=247:=aA
        go_wp2_with fail;go_roundg 0
        case measure=>omega
        case rel=>exact⟨2,aA,rfl,rfl,hb.alloc ae _,λ_=>ao,λ_=>aA⟩
       .have aj:(192:Int)<=(n:Int):=by omega
        have ah:(247:Int)<(n:Int):=aA
        have az:(251:Int)<(n:Int):=aA
        go_wp2_with fail;go_roundg 0
        case measure=>omega
        case rel=>exact⟨2,aA,rfl,rfl,hb.alloc ae _,λ_=>ao,λ_=>aA⟩
    |2,_=>
     have ar:=aw rfl;have hR:R=Z:=by rw[HR.out];repeat' first|rw[Zs aA]|split|rfl|omega
     have ac:cH _:=hR;obtain⟨z0,z1,z2⟩:=cells3 J;have fz:=aQ J;have HB:cH _:=ai;clear J Y hR HR hb ai;go_wp2_with fail;exact cM (v:=cQ #[fX #[cK aL,N ab 0,N ab 0],cK aL]) (by simp[results,kB,go_sem,z0,z1,z2]) rfl ⟨by rw[ac.out];rfl,((HB.out.setCell aC _).setCell aC _).setCell aC _⟩
end Go.Proofs.YtpibpdpedjinhabGreatDoor
namespace Go.Proofs.YtpibpdpedjinhabGreatDoor
open Go.RowKit Go.Joins Go.Shelf
attribute [local go_sem] Oper.semAt_some
variable {u0 u1 u2 c0 c1 c2:X}{t:cG}{wr w3:U}{n lo:Nat}{i:Im.It}
def Xi:Go.Shelf.Ren:=⟨fun|316=>129|n=>n,fun|0=>0|3=>3|4=>4|5=>5|9=>9|37=>199|127=>223|n=>n,fun|n=>n⟩
def Jq:Go.Proofs.LaysM.n316 PQ Xi:={
 mixed:=XN
 f316:=(fq Tryz.func129 rfl).trans (Z1 M XN)
 t0:=(uq Tryz.underlying0)
 a0:=(DL Tryz.isAgg0)
 z0:=(Di Tryz.sizeOf0)
 v0:=(BL Tryz.zeroValue0)
 t3:=(uq gT)
 a3:=(DL Tryz.isAgg3)
 z3:=(Di Tryz.sizeOf3)
 v3:=(BL Tryz.zeroValue3)
 t4:=(uq oe)
 a4:=(DL Tryz.isAgg4)
 z4:=(Di Tryz.sizeOf4)
 v4:=(BL Tryz.zeroValue4)
 t5:=(uq il)
 a5:=(DL Tryz.isAgg5)
 z5:=(Di Tryz.sizeOf5)
 v5:=(BL Tryz.zeroValue5)
 t9:=(uq eO)
 a9:=(DL Tryz.isAgg9)
 z9:=(Di Tryz.sizeOf9)
 v9:=(BL Tryz.zeroValue9)
 t37:=(uq gL)
 a37:=(DL Tryz.isAgg199)
 z37:=(Di Tryz.sizeOf199)
 v37:=(BL Tryz.zeroValue199)
 t127:=(uq o3)
 a127:=(DL Tryz.isAgg223)
 z127:=(Di Tryz.sizeOf223)
 v127:=(BL Tryz.zeroValue223)
 i0:=XN
 i3:=XN
 i4:=XN
 i5:=XN
 i9:=XN
 i37:=XN
 i127:=by kernel_rfl }
def clone_any(s:ByteArray)(w:U)(hs:s.size<=16777216):dE PQ 92 #[bB s] w λe w'=>e=bO (bB s)/\Below ↑w w w':=by go_enter (fq Tryz.func92 rfl),Tryz.ntmps92;go_wp2_with fail;refine(Any.stringslite_Clone (ρ:=Xi) Jq s w aA).mono ?_;rintro e w1 ⟨rfl,z⟩;go_wp2_with fail;go_ret;exact⟨rfl,z⟩
def Got(n lo:Nat)(w':U)(e:pm):Option (Im.It×Nat)->Prop
 |none=>e=bO (cQ #[fX #[cK aL,bB ⟨#[]⟩,aH Z 0 0],N ab 0,cK aL])
 |some x=>∃a cap,e=bO (cQ #[fX #[.bool x.1.list,bB ⟨x.1.bytes.toArray⟩,.slice a x.1.kids.length cap],N ab x.2,cK aR])/\Tr w' n lo ↑w' (.bool x.1.list) (bB ⟨x.1.bytes.toArray⟩) (.slice a x.1.kids.length cap) x.1
def FirstSaid(d:Nat):Prop:=∀(s:ByteArray)(z:Nat)(w:U),s.size<=16777216->z+d=9->lJ w->
  dE PQ 141 #[bB s,N ab z] w λe w'=>Got (d+1) ↑w w' e (Im.read Im.body d s.data.toList)/\Below ↑w w w'
structure Wd where
 e:Nat
 i:Im.It
 a:Option eM
 cap:Nat
def Wd.encs(x:Wd):Array X:=#[N ab x.e,fX #[.bool x.i.list,bB ⟨x.i.bytes.toArray⟩,.slice x.a x.i.kids.length x.cap]]
def rO(l:List Wd):Nat:=l.foldl (λ_ x=>x.e) 0
def nY(l:List Wd)(x:Wd):rO (l++[x])=x.e:=by simp[rO]
def XY(n:Nat)(z:List Wd)(x:Wd)(lo:Nat)(W:U):Prop:=z.length<16777216/\Tr W n lo ↑W (.bool x.i.list) (bB ⟨x.i.bytes.toArray⟩) (.slice x.a x.i.kids.length x.cap) x.i
def XY.turn(n:Nat)(z:List Wd)(x:Wd)(lo:Nat)(W W':U)(h:∀k,lo<=k->W'.heap[k]? =W.heap[k]?)(hs:↑W'=W.heap.size)(E:XY n z x lo W):XY n z x lo W':=by refine⟨E.1,?_⟩;rw[hs];exact Tr.kept n _ _ _ _ _ _ (λk I _=>h k I) E.2
def Done(d:Nat)(s:ByteArray)(xs:List Wd):Prop:=∃p,Im.nJ (Im.read Im.body d) s.data.toList (xs.map Wd.i) p/\rO xs=p/\(s.size<=p\/p<s.size/\Im.read Im.body d (s.data.toList.drop p)=Z)
def Left(d:Nat)(s:ByteArray)(xs:List Wd):Prop:=∃p,Im.nJ (Im.read Im.body d) s.data.toList (xs.map Wd.i) p/\rO xs=p
def K3.Ia(w:U)(x y z:X)(t:cG):K3 (w.alloc (aG #[x,y,z] t)) ↑w 0 x y z:=⟨aC,aC,aC⟩
def K3.acQ{w:U}{b:Nat}(h:w.heap[b]? =M (aG #[u0,u1,u2] t (0,0)))(x y z:X):K3 (((w.setCell ⟨b,0,Z⟩ x).setCell ⟨b,1,Z⟩ y).setCell ⟨b,2,Z⟩ z) b 0 x y z:=by have E:=rj h (i:=0) x;have h2:=rj E (i:=1) y;have h3:=rj h2 (i:=2) z;refine⟨?_,?_,?_⟩<;>rw[aI h3]<;>simp
def GZ(E:Below ↑wr wr w3)(ht:Tr w3 n lo ↑w3 c0 c1 c2 i)(z:↑wr<=lo){t:cG}:Below ↑wr wr (w3.alloc (aG #[c0,c1,c2] t))/\K3 (w3.alloc (aG #[c0,c1,c2] t)) ↑w3 0 c0 c1 c2/\Tr (w3.alloc (aG #[c0,c1,c2] t)) n ↑wr (w3.alloc (aG #[c0,c1,c2] t)).heap.size c0 c1 c2 i:=
 ⟨E.alloc E.size _,K3.Ia _ _ _ _ _,Tr.wider (Tr.kept n _ _ _ _ _ _ (λ_ _ I=>aZ _ _ _ I) ht) z aC⟩
def RG(E:Below ↑wr wr w3)(ht:Tr w3 n lo ↑w3 c0 c1 c2 i)(z:↑wr<lo)(I:w3.heap[wr.heap.size]? =M (aG #[u0,u1,u2] t (0,0))):Below ↑wr wr (((w3.setCell ⟨↑wr,0,Z⟩ c0).setCell ⟨↑wr,1,Z⟩ c1).setCell ⟨↑wr,2,Z⟩ c2)/\K3 (((w3.setCell ⟨↑wr,0,Z⟩ c0).setCell ⟨↑wr,1,Z⟩ c1).setCell ⟨↑wr,2,Z⟩ c2) ↑wr 0 c0 c1 c2/\Tr (((w3.setCell ⟨↑wr,0,Z⟩ c0).setCell ⟨↑wr,1,Z⟩ c1).setCell ⟨↑wr,2,Z⟩ c2) n ↑wr (((w3.setCell ⟨↑wr,0,Z⟩ c0).setCell ⟨↑wr,1,Z⟩ c1).setCell ⟨↑wr,2,Z⟩ c2).heap.size c0 c1 c2 i:=
 ⟨((E.setCell jB _).setCell jB _).setCell jB _,K3.acQ I _ _ _,Tr.wider (Tr.kept n _ _ _ _ _ _ (λ_ m1 _=>by
  rw[aW _ _ _ _ aF,aW _ _ _ _ aF,aW _ _ _ _ aF]) ht) aA (by simp[eQ])⟩
def Ed(d:Nat)(hf:FirstSaid d)(s:ByteArray)(ac sB dB:Nat)(w:U)(hs:s.size<=16777216)(bj:ac+d=9)(hH:lJ w)(h0:1<w.heap.size)(ay:w.cell? ⟨sB,0,Z⟩=M (bB s))(a7:w.cell? ⟨dB,0,Z⟩=M (N ab ac))(bg:sB<↑w)(hdl:dB<↑w):Gives PQ 140 #[aD (M ⟨sB,0,Z⟩),aD (M ⟨dB,0,Z⟩)] Wd.encs (λk=>k=1\/k=sB\/k=dB) (XY (d+1)) (Done d s) (Left d s) w:=by
 intro l J Jx W hW av aw;have Hf:cH _:=hf;have HY:cH _:=av;have bb:cH _:=aw;clear hf av aw;refine callsIn_of_wp (fq Tryz.func140 rfl) rfl trivial ?_ rfl;simp only[Tryz.ntmps140,dR,aU,bY,Nat.reduceAdd,Nat.reduceSub,dH,dG,dU,dI,dS,dN];gi_wp2
 gi_loopw [4] (λt wr=>∃(R:List Wd)(W0:U)(p:Nat),t=N ab p/\cH (Im.nJ (Im.read Im.body d) s.data.toList (R.map Wd.i) p/\rO R=p/\p<=s.size/\R.length<=p/\J R W0/\Below ↑W0 W0 wr/\lJ wr/\sB<↑wr/\dB<↑wr)/\wr.cell? ⟨sB,0,Z⟩=M (bB s)/\wr.cell? ⟨dB,0,Z⟩=M (N ab ac))
  (λt wr=>s.size-(intOf t).toNat)
 case atStart=>
  have:=hW.size;exact⟨[],W,0,rfl,⟨Im.nJ.nil,rfl,dL _,jB,bb.out,aJ _ _,hH.below hW h0,aA,aA⟩,(hW.cell (p:=⟨sB,0,Z⟩) bg).trans ay,(hW.cell (p:=⟨dB,0,Z⟩) hdl).trans a7⟩
 case round=>
  obtain⟨R,W0,p,rfl,Hr,c0,c1⟩:=hrel;clear ay a7;by_cases ao:p<s.size
  .have a9:(p:Int)<s.size:=by omega
   have bh:(s.extract p s.size).size<=16777216:=aF
   have am:(s.extract p s.size).data.toList=s.data.toList.drop p:=by rw[ext_list,eH (by rw[<-bD];omega)]
   have E:=λW hW=>Hf.out _ ac W bh bj (Hr.out.2.2.2.2.2.2.1.below hW Hr.out.2.2.2.2.2.2.1.pos);have z:=aJ ↑wr wr;obtain⟨_,_,_,_,_,_,_,bk,bd⟩:=Hr.out;have bo:sB≠wr.heap.size:=aA
   have bq:dB≠wr.heap.size:=aA
   rw[am]at E;generalize hC:Im.read Im.body d (s.data.toList.drop p)=C at E;have ae:cH _:=E;have HC:cH _:=hC;clear E hC am;gi_wp2;refine wpIn_wide.2 ?_;cases C with
   |none=>
    go_cut [5,6,7] (λv5 v6 v7 wx=>v7=cK aL/\Below ↑wr wr wx)
    case first=>
     go_region_with (go_at_call 141;refine(ae.out _ ?_).mono ?_;(first|exact z|exact z.drew|exact below_drewN z _|exact z.alloc jB _|exact below_drewN (z.alloc jB _) _|exact(below_drewN z _).alloc jB _);rintro e w3 ⟨ap,af⟩;obtain rfl:=ap;have I:Below ↑wr wr w3:=Below.trans (by first|exact z|exact z.drew|exact below_drewN z _|exact z.alloc jB _|exact below_drewN (z.alloc jB _) _|exact(below_drewN z _).alloc jB _) (af.mono aC);(try (have hz:w3.heap[wr.heap.size]? =M (aG #[cK aL,bB ⟨#[]⟩,aH Z 0 0] 164 (0,0)):=(af.block _ aC).trans (by first|exact cT _ _|(have:=cT (wr.drewN 0) (aG #[cK aL,bB ⟨#[]⟩,aH Z 0 0] 164);simpa using this));have z0:w3.cell? ⟨↑wr,0,Z⟩=M (cK aL):=(by rw[aI hz];rfl);have z1:w3.cell? ⟨↑wr,1,Z⟩=M (bB ⟨#[]⟩):=(by rw[aI hz];rfl);have z2:w3.cell? ⟨↑wr,2,Z⟩=M (aH Z 0 0):=(by rw[aI hz];rfl);have fz:=aQ hz)))
     all_goals
      go_wp2_with fail;go_meet;refine⟨rfl,?_⟩
      first
       |exact I.alloc I.size _
       |exact below_drewN (I.alloc I.size _) _
       |exact((I.setCell jB _).setCell jB _).setCell jB _
       |exact below_drewN (((I.setCell jB _).setCell jB _).setCell jB _) _
    case rest=>
     obtain⟨rfl,aa⟩:=hcut;gi_wp2;refine cM (pC rfl _ _ _) rfl ?_;obtain⟨he,ai,az,a6,hJ,Y,ah,_,_⟩:=Hr.out;exact⟨⟨_,rfl⟩,bE ⟨R,W0,⟨p,he,ai,cD ⟨ao,HC.out⟩⟩,hJ,Y.trans (aa.mono Y.size)⟩⟩
   |some x=>
    obtain⟨i,n⟩:=x;have an:=Im.rZ Im.oZ d _ _ _ HC.out;rw[dW,<-bD]at an;have bs:=an.1;have bn:p+n<=s.size:=aA
    clear an;obtain⟨IB,aq⟩:∃IB:ByteArray,(⟨i.bytes.toArray⟩:ByteArray)=IB:=⟨_,rfl⟩
    go_cut [5,6,7] (λv5 v6 v7 wx=>∃(b:Nat)(a:Option eM)(cap:Nat),v5=aD (M ⟨b,0,Z⟩)/\v6=N ab n/\v7=cK aR/\Below ↑wr wr wx/\K3 wx b 0 (.bool i.list) (bB IB) (.slice a i.kids.length cap)/\Tr wx (d+1) ↑wr ↑wx (.bool i.list) (bB IB) (.slice a i.kids.length cap) i)
    case first=>
     go_region_with (go_at_call 141;refine(ae.out _ ?_).mono ?_;(first|exact z|exact z.drew|exact below_drewN z _|exact z.alloc jB _|exact below_drewN (z.alloc jB _) _|exact(below_drewN z _).alloc jB _);rintro e w3 ⟨ap,af⟩;obtain⟨a3,ak,rfl,aj⟩:=ap;simp only at aj⊢;rw[aq]at aj⊢;have au:cH (Tr _ _ _ _ _ _ _ _):=aj;clear aj;have I:Below ↑wr wr w3:=Below.trans (by first|exact z|exact z.drew|exact below_drewN z _|exact z.alloc jB _|exact below_drewN (z.alloc jB _) _|exact(below_drewN z _).alloc jB _) (af.mono aC);(try (have hz:w3.heap[wr.heap.size]? =M (aG #[cK aL,bB ⟨#[]⟩,aH Z 0 0] 164 (0,0)):=(af.block _ aC).trans (by first|exact cT _ _|(have:=cT (wr.drewN 0) (aG #[cK aL,bB ⟨#[]⟩,aH Z 0 0] 164);simpa using this));have z0:w3.cell? ⟨↑wr,0,Z⟩=M (cK aL):=(by rw[aI hz];rfl);have z1:w3.cell? ⟨↑wr,1,Z⟩=M (bB ⟨#[]⟩):=(by rw[aI hz];rfl);have z2:w3.cell? ⟨↑wr,2,Z⟩=M (aH Z 0 0):=(by rw[aI hz];rfl);have fz:=aQ hz)))
     all_goals
      go_wp2_with fail;go_meet
      first
       |exact⟨_,a3,ak,rfl,rfl,rfl,GZ I au.out aC⟩
       |exact⟨_,a3,ak,rfl,rfl,rfl,RG I au.out aC hz⟩
    case rest=>
     obtain⟨b,a,cap,rfl,rfl,rfl,aa,⟨k0,k1,k2⟩,ag⟩:=hcut;rw[fJ]at k1 k2;rw[<-aq]at ag;obtain⟨he,ai,az,a6,hJ,Y,ah,_,_⟩:=Hr.out;have ba:=Y.trans (aa.mono Y.size);obtain⟨fn,tmps,assign,body,hy,hR⟩:=HY.out R ⟨p+n,i,a,cap⟩ W0 wc hJ ba ⟨aA,ag.wider Y.size jB⟩;simp only[Wd.encs,Int.natCast_add]at hy;rw[aq]at hy;have HR:cH _:=hR;have bu:cH _:=ag;clear hR ag;have bp:(p:Int)+(n:Int)<=16777216:=aA
     gi_wp2;refine RoundIn.mono HR.out ?_;rintro e W3 (⟨rfl,bm,br,ar⟩|⟨rfl,a8⟩)
     .gi_wp2;go_roundw
      case rel=>
       have q0:=ar 1 (bE rfl);have q1:=ar sB (cD (bE rfl));have q2:=ar dB (cD (cD rfl));have s5:=aa.size;have bl:=ah.below aa ah.pos;refine⟨_,W3,p+n,aC,⟨?_,nY _ _,bn,aF,bm,aJ _ _,?_,aA,aA⟩,?_,?_⟩
       .rw[bJ];exact Im.nJ.snoc he (by rw[<-bD];exact ao) HC.out
       .obtain⟨⟨a0,a1,a2⟩,a3,a4,a5⟩:=bl;exact⟨⟨(bX q0).trans a0,(bX q0).trans a1,(bX q0).trans a2⟩,(bX q0).trans a3,(bX q0).trans a4,(bX q0).trans a5⟩
       .exact(bX q1).trans ((aa.cell (p:=⟨sB,0,Z⟩) bk).trans c0)
       .exact(bX q2).trans ((aa.cell (p:=⟨dB,0,Z⟩) bd).trans c1)
      case measure=>simp[intOf];omega
     .gi_wp2;refine cM (pC rfl _ _ _) rfl ?_;refine⟨⟨_,rfl⟩,cD ⟨_,W3,⟨p+n,?_,nY _ _⟩,a8,aJ _ _⟩⟩;rw[bJ];exact Im.nJ.snoc he (by rw[<-bD];exact ao) HC.out
  .have a9:¬(p:Int)<s.size:=by omega
   gi_wp2;go_end0;obtain⟨he,ai,az,a6,hJ,Y,ah,_,_⟩:=Hr.out;exact⟨⟨_,rfl⟩,bE ⟨R,⟨p,he,ai,bE aA⟩,W0,hJ,Y⟩⟩
end Go.Proofs.YtpibpdpedjinhabGreatDoor
namespace Go.Proofs.YtpibpdpedjinhabGreatDoor
open Go.RowKit Go.Joins
section
variable {w w' A B:U}{n lo base e k g cap size:Nat}{v:X}{ks:List Im.It}{row:Option Nat}{xs:List X}
def Tr.Nj:∀(n lo z:Nat)(c0 E J:X)(i:Im.It),(∀k o,lo<=k->k<z->w.heap[k]? =M o->o.isCells=aR->w'.heap[k]? =M o)->Tr w n lo z c0 E J i->Tr w' n lo z c0 E J i
 |0,_,_,_,_,_,_,_,h=>h
 |n+1,lo,z,c0,E,J,i,hk,h=>by
  obtain⟨h0,xs,L,H,h1,h2,h3,h4,h5⟩:=h;refine⟨h0,xs,L,H,⟨h1.1,?_⟩,h2,h3,h4,λj hj=>?_⟩
  .obtain hz|⟨g,cap,I,hv,Y,hh,r⟩:=h1.2
   .exact bE hz
   .exact cD ⟨g,cap,I,hv,Y,hk g _ Y (h2 g (by rw[hv];rfl)) hh rfl,r⟩
  .obtain⟨d0,d1,R,e0,e1,e2,e3⟩:=h5 j hj;have:=h3 j hj;exact⟨d0,d1,R,e0,e1,e2,Tr.Nj n (L j) (H j) d0 d1 R _ (λk o a b=>hk k o aA aA) e3⟩
def Row.Nj{z:Nat}(h:Row w n lo z v ks)(hk:∀k o,lo<=k->k<z->w.heap[k]? =M o->o.isCells=aR->w'.heap[k]? =M o):Row w' n lo z v ks:=
 (Tr.Nj (n+1) lo z (cK aR) (bB ⟨#[]⟩) v ⟨aR,[],ks⟩ hk ⟨⟨rfl,rfl⟩,h⟩).2
def kH(I:A.grownBy B row)(E:∀r,row=M r->∃o:nL,A.heap[r]? =M o/\o.isCells=aL):∀(k:Nat)(o:nL),A.heap[k]? =M o->o.isCells=aR->B.heap[k]? =M o:=by intro k o hk ho;refine(I.block k (jE hk) (λe=>?_)).trans hk;obtain⟨o',z,h2⟩:=E k e.symm;rw[hk]at z;cases z;rw[ho]at h2;cases h2
def Row.turn(h:Row A n lo ↑A v ks)(z:A.grownBy B row)(E:∀r,row=M r->∃o:nL,A.heap[r]? =M o/\o.isCells=aL):Row B n lo ↑B v ks:=
 (h.Nj (λk o _ _=>kH z E k o)).wider jB z.size
def Tr.turn{c0 I z:X}{i:Im.It}(h:Tr A n lo ↑A c0 I z i)(E:A.grownBy B row)(J:∀r,row=M r->∃o:nL,A.heap[r]? =M o/\o.isCells=aL):Tr B n lo ↑B c0 I z i:=
 (Tr.Nj n _ _ _ _ _ _ (λk o _ _=>kH E J k o) h).wider jB E.size
def Fg{F:Fence}{P:cU}{o:Oper}{a:Act}{K:Act->U->Prop}{Q:Exit->Act->U->Prop}{s x:Operand}{t:cG}{u v':X}{hw:Bool}(z:hw=aR)
  (ho:o.op=.call { callee:=.builtin .append,args:=#[s,x],argTypes:=#[t,t] }) (hs:a.eval s=v) (R:a.eval x=u) (J:(Builtin.append_ #[t,t] o.type #[v,u]).run P w=.ok v' w') (I:K (a.put o.dst v') w') {E:Prop}:
  if hw=aR then Oper.wpIn F n P o a w K Q else E:=by
 rw[ZD z];unfold Oper.wpIn;refine⟨?_,?_⟩
 .simp[Oper.about,ho,resolve,Target.leads,Sem.run_pure]
 .rw[Oper.semAt_plain F _ _ (by grind)];simp[execOp,ho,resolve,invoke,builtin,hs,R,J,Result.andThen];exact I
def XI{z0 z1 z2:X}(h:w.ownsRow base e 3 (aH (M ⟨g,0,Z⟩) (k+1) cap) (k+1) (xs++[z0,z1,z2]))(hx:xs.length=k*3){d0 Y J:X}:(((w.setCell ⟨g,k*3,Z⟩ d0).setCell ⟨g,k*3+1,Z⟩ Y).setCell ⟨g,k*3+2,Z⟩ J).ownsRow base e 3 (aH (M ⟨g,0,Z⟩) (k+1) cap) (k+1) (xs++[d0,Y,J]):=by
 refine⟨by simp[hx];omega,?_⟩;obtain⟨h1,_⟩|⟨g',aa,z,hv,hb,hh,E,R,I,ht⟩:=h.2
 .simp at h1
 .simp only[dT,aK,nj,and_true,true_and]at hv;obtain⟨rfl,rfl⟩:=hv;have a1:=rj hh (i:=k*3) d0;have a2:=rj a1 (i:=k*3+1) Y;have a3:=rj a2 (i:=k*3+2) J;refine cD ⟨g,cap,_,rfl,hb,a3,E,R,by simp[I],?_⟩;have ac:(k+1)*3<=z.toList.length:=by rw[Array.length_toList,I];exact fK 3 E
  have ae:z.toList.take (k*3)=xs:=by
   have:=Z1 (List.take (k*3)) ht;rw[List.take_take,fZ aA]at this;rw[this,<-hx];simp
  apply List.ext_getElem?;intro i;simp only[Array.toList_setIfInBounds,gU];by_cases h3:i<(k+1)*3
  .grind
  .grind
def Qd(h:w.ownsRow base e size v k xs)(hk:0<k):∃g cap,v=aH (M ⟨g,0,Z⟩) k cap:=by
 obtain⟨_,E⟩|⟨g,cap,z,rfl,_⟩:=h.2
 .omega
 .exact⟨g,cap,rfl⟩
def CV(h:w.ownsRow base e size v k xs):∃a cap,v=.slice a k cap:=by
 obtain⟨rfl,E⟩|⟨g,cap,z,rfl,_⟩:=h.2
 .grind
 .exact⟨_,cap,rfl⟩
def OW(h:w.ownsRow base e size v k xs)(g:Nat)(o:nL)(z:v.ownBlock=M g)(ho:w.heap[g]? =M o):o.isCells=aR:=by
 obtain⟨rfl,J⟩|⟨g',cap,E,rfl,_,I,_⟩:=h.2
 .simp[cV]at z
 .simp[cV]at z;subst z;rw[I]at ho;cases ho;rfl
def yH(b n:Nat):(⟨b,0,Z⟩:eM).add n=⟨b,n,Z⟩:=by
 unfold jp;split
 .simp
 .simp
def wY{l j:Nat}(h:w.ownsRow base e size (aH (M ⟨g,0,Z⟩) l cap) k xs):w.frozen? ⟨g,j,Z⟩=aL:=by
 obtain⟨R,_⟩|⟨g',E,I,z,Y,J,_⟩:=h.2
 .simp at R
 .simp only[dT,aK,nj,and_true]at z;obtain⟨rfl,_⟩:=z;exact aQ J j
end
end Go.Proofs.YtpibpdpedjinhabGreatDoor
namespace Go.Proofs.YtpibpdpedjinhabGreatDoor
open Go.RowKit Go.Joins Go.Shelf
attribute [local go_sem] Oper.semAt_some
variable {g B:Nat}{v:X}
def BZ(s:ByteArray)(z:Int)(w:U):dE PQ 123 #[bB s,N ab z] w λe w'=>e=bO (.func (.func 140) #[] #[aD (M ⟨↑w,0,Z⟩),aD (M ⟨w.heap.size+1,0,Z⟩)])/\w'=(w.alloc (aG #[bB s] 9)).alloc (aG #[N ab z] 3):=by
 go_enter (fq Tryz.func123 rfl),Tryz.ntmps123;go_wp2_with fail;go_ret;exact⟨rfl,rfl⟩
def WG(n lo:Nat)(w':U)(e:pm):Option (List Im.It)->Prop
 |none=>e=bO (cQ #[aH Z 0 0,cK aL])
 |some ks=>∃a cap,e=bO (cQ #[.slice a ks.length cap,cK aR])/\Row w' n lo ↑w' (.slice a ks.length cap) ks
def WI(d E:Nat)(w:U)(z:List Wd)(W:U):Prop:=
 (∃v,rp W E 162 v/\Row W (d+1) (E+4) ↑W v (z.map Wd.i))/\rp W (E+1) 3 (N ab (rO z))/\Below E w W/\E+4<=W.heap.size
def WI.own(d E:Nat)(w:U):rq (E+4) (WI d E w):=by
 rintro I A B row ⟨⟨v,R,h2⟩,h3,h4,Y⟩ z J;refine⟨⟨v,R.kept z (λe=>?_),h2.turn z (λr e=>(J r e).2)⟩,h3.kept z (λe=>?_),h4.grown z aA (λk e=>by grind),by have:=z.size;omega⟩
 .grind
 .grind
def sN(w:U){a b:eM}(x y:X)(h:a.block≠b.block):(w.setCell a x).setCell b y=(w.setCell b y).setCell a x:=by
 have e:∀(A:Array nL)(f g:nL->nL)(i j:Nat),i≠j->(A.modify i f).modify j g=(A.modify j g).modify i f:=by
  intro A f g i j z;apply gB;intro k;simp only[bT];by_cases E:i=k
  .grind
  .grind
 simp only[eQ];rw[e _ _ _ _ _ h]
def Ei(w:U){i:Nat}(x y z u:X)(h:B≠g):(((w.setCell ⟨B,0,Z⟩ u).setCell ⟨g,i,Z⟩ x).setCell ⟨g,i+1,Z⟩ y).setCell ⟨g,i+2,Z⟩ z=(((w.setCell ⟨g,i,Z⟩ x).setCell ⟨g,i+1,Z⟩ y).setCell ⟨g,i+2,Z⟩ z).setCell ⟨B,0,Z⟩ u:=by rw[sN w u x h,sN _ u y h,sN _ u z h]
def mD{W:U}{t:cG}(h:rp W B t v){a:eM}{x:X}(z:B≠a.block):rp (W.setCell a x) B t v:=(aW _ _ _ _ z).trans h
def Uo{w W0 W1 G X2 w' F:U}{d E J:Nat}{z:List Wd}{x:Wd}{xs:List X}{L H:Nat->Nat}{c0 c1 c2 z0 z1 z2:X}{X1:Nat}(h0:1<E)(ao:Below E w W0)(aq:E+4<=W0.heap.size)(b0:rp W0 E 162 v)(b1:rp W0 (E+1) 3 (N ab (rO z)))(q1:W0.ownsRow (E+4) 164 3 v z.length xs)(q3:∀j,j<(z.map Wd.i).length->E+4<=L j/\L j<=H j/\H j<=W0.heap.size/\(∀g,v.ownBlock=M g->g<L j\/H j<=g))(q4:∀a b,a<b->b<(z.map Wd.i).length->H a<=L b)(q5:∀(j:Nat)(hj:j<(z.map Wd.i).length),∃d0 d1 d2,xs[j*3]? =M d0/\xs[j*3+1]? =M d1/\xs[j*3+2]? =M d2/\Tr W0 (d+1) (L j) (H j) d0 d1 d2 ((z.map Wd.i)[j]))(hb:Below ↑W0 W0 W1)(ht:Tr W1 (d+1) ↑W0 ↑W1 c0 c1 c2 x.i)(gb:Below ↑W1 W1 G)(ub:Below ↑G G X2)(aa:w'.ownsRow (E+4) 164 3 (aH (M ⟨g,0,Z⟩) (z.length+1) J) (z.length+1) (xs++[z0,z1,z2]))(I:X2.grownBy w' v.ownBlock)(aj:cV (aH (M ⟨g,0,Z⟩) (z.length+1) J)=v.ownBlock\/∃g',cV (aH (M ⟨g,0,Z⟩) (z.length+1) J)=M g'/\X2.heap.size<=g')(hF:F=((((w'.setCell ⟨g,z.length*3,Z⟩ c0).setCell ⟨g,z.length*3+1,Z⟩ c1).setCell ⟨g,z.length*3+2,Z⟩ c2).setCell ⟨E,0,Z⟩ (aH (M ⟨g,0,Z⟩) (z.length+1) J)).setCell ⟨E+1,0,Z⟩ (N ab x.e)):KeepsFrom X1 G F/\(∀k,k=1\/k=E+1+1\/k=E+1+1+1->F.heap[k]? =G.heap[k]?)/\WI d E w (z++[x]) F:=by
 have s1:=hb.size;have s2:=gb.size;have s3:=ub.size;have s4:=I.size;have am:=xs_len q1;have ak:=hb.trans (gb.mono s1);have ac:=ak.trans (ub.mono aA);have qU:=own_below q1 ac;have an:∀m,v.ownBlock=M m->E+4<=m:=λm hm=>(qZ q1 hm).1;have hg:=qZ aa (g:=g) rfl;obtain⟨W4,R⟩:∃W4:U,W4=((w'.setCell ⟨g,z.length*3,Z⟩ c0).setCell ⟨g,z.length*3+1,Z⟩ c1).setCell ⟨g,z.length*3+2,Z⟩ c2:=⟨_,rfl⟩
 have ag:W4.ownsRow (E+4) 164 3 (aH (M ⟨g,0,Z⟩) (z.length+1) J) (z.length+1) (xs++[c0,c1,c2]):=by rw[R];exact XI aa am
 have s5:↑W4=w'.heap.size:=by rw[R];simp[eQ]
 have Y:∀k,k≠g->W4.heap[k]? =w'.heap[k]?:=λk hk=>by
  rw[R,aW _ _ _ _ hk,aW _ _ _ _ hk,aW _ _ _ _ hk]
 have ap:X2.grownBy W4 v.ownBlock:=⟨by rw[R];exact I.os,by rw[R];exact I.tape,by rw[R];exact I.output,aA,λk hk af=>by
  rw[Y k ?_]
  .exact I.block k hk af
  .rintro rfl;obtain e|⟨g',e,ar⟩:=aj
   .exact af e
   .simp[cV]at e;omega⟩
 have ah:(z.map Wd.i).length=z.length:=aC
 have ai:=
  Row.step (w:=W0) (w1:=W1) (w3:=X2) (v:=v) (xs:=xs) (L:=L) (H:=H) aA (by rw[ah];exact q1) q3 q4 q5 ht hb (gb.trans (ub.mono s2)) (by rw[ah];exact ag) ap aj
 rw[<-R]at hF
 have ae:∀k,k≠E->k≠E+1->F.heap[k]? =W4.heap[k]?:=λk h1 h2=>by
  rw[hF,aW _ _ _ _ h2,aW _ _ _ _ h1]
 have s6:↑F=W4.heap.size:=by rw[hF];simp[eQ]
 have e0:rp w' E 162 v:=(I.block _ aA (λe=>by grind)).trans ((ac.block _ aA).trans b0);have e1:rp w' (E+1) 3 (N ab (rO z)):=(I.block _ aA (λe=>by grind)).trans ((ac.block _ aA).trans b1);have f0:rp W4 E 162 v:=(Y _ aA).trans e0;have f1:rp W4 (E+1) 3 (N ab (rO z)):=(Y _ aA).trans e1;refine⟨KeepsOthers.from ?_ _,?_,⟨(aH (M ⟨g,0,Z⟩) (z.length+1) J),?_,?_⟩,?_,?_,aA⟩
 .have k1:KeepsOthers G X2:=⟨ub.size,λk o hk _=>(ub.block k (jE hk)).trans hk⟩
  have k2:=KeepsOthers.of_grownBy I (λj o ej hj=>OW qU j o ej hj);rw[hF,R];exact(k1.trans k2).trans (((((rn _ _ _).trans (rn _ _ _)).trans (rn _ _ _)).trans (rn _ _ _)).trans (rn _ _ _))
 .intro k hk;have au:k<E+4:=by omega
  rw[ae k aA aA,Y k aA,I.block k aA (λe=>by grind),ub.block k aA]
 .rw[hF];exact mD (f0.set _) aC
 .rw[bJ];exact(ai.kept (w':=F) (λk k1 k2=>ae k aA aA)).wider jB aA
 .rw[hF,nY];exact(mD f1 aC).set _
 .have b5:=(ao.trans (ac.mono aA)).grown I aA (λm hm=>by have:=an m hm;omega);rw[hF,R];exact((((b5.setCell (by show E<=g;omega) _).setCell (by show E<=g;omega) _).setCell (by show E<=g;omega) _).setCell jB _).setCell aC _
end Go.Proofs.YtpibpdpedjinhabGreatDoor
namespace Go.Proofs.YtpibpdpedjinhabGreatDoor
open Go.RowKit Go.Joins Go.Shelf
attribute [local go_sem] Oper.semAt_some
def SE(d:Nat)(hf:FirstSaid d)(s:ByteArray)(J f:Nat)(w:U)(hs:s.size<=16777216)(a7:J+d=9)(a6:s.size<=f)(hH:lJ w):dE PQ 152 #[bB s,N ab J] w λe w'=>WG (d+1) ↑w w' e (Im.many (Im.read Im.body d) f s.data.toList)/\Below ↑w w w':=by
 have h0:=hH.pos;generalize hR:Im.many (Im.read Im.body d) f s.data.toList=R;have HR:cH _:=hR;clear hR;refine gO.1 (rS (n:=3) (fq Tryz.func152 rfl) rfl trivial ?_ rfl);simp only[Tryz.ntmps152,dR,aU,bY,Nat.reduceAdd,Nat.reduceSub,dH,dG,dU,dI,dS,dN];gi_wp2;refine⟨trivial,?_⟩;refine(gO.2 (BZ s J _)).mono ?_;rintro e w' ⟨rfl,rfl⟩;gi_wp2;obtain⟨V,hV⟩:∃V:U,V=((((w.alloc (aG #[aH Z 0 0] 162)).alloc (aG #[N ab 0] 3)).alloc (aG #[bB s] 9)).alloc (aG #[N ab J] 3)):=⟨_,rfl⟩
 rw[<-hV];have a8:↑V=w.heap.size+4:=by rw[hV];simp
 have a2:Below ↑w w V:=by rw[hV];exact((((aJ _ w).alloc jB _).alloc aC _).alloc aF _).alloc aF _
 have v0:rp V ↑w 162 (aH Z 0 0):=by rw[hV];exact(((Boxed.new w _ _).alloc _).alloc _).alloc _
 have v1:rp V (w.heap.size+1) 3 (N ab 0):=by
  rw[hV];have:=Boxed.new (w.alloc (aG #[aH Z 0 0] 162)) 3 (N ab 0);rw[fB]at this;exact(this.alloc _).alloc _
 have v2:V.cell? ⟨w.heap.size+1+1,0,Z⟩=M (bB s):=by
  rw[hV];have:=Boxed.new ((w.alloc (aG #[aH Z 0 0] 162)).alloc (aG #[N ab 0] 3)) 9 (bB s);rw[fB,fB]at this;exact(this.alloc _).cell
 have v3:V.cell? ⟨w.heap.size+1+1+1,0,Z⟩=M (N ab J):=by
  rw[hV];have:=Boxed.new (((w.alloc (aG #[aH Z 0 0] 162)).alloc (aG #[N ab 0] 3)).alloc (aG #[bB s] 9)) 3 (N ab J);rw[fB,fB,fB]at this;exact this.cell
 clear hV
 refine zO (gf:=140) (lb:=#[aD (M ⟨w.heap.size+1+1,0,Z⟩),aD (M ⟨w.heap.size+1+1+1,0,Z⟩)]) rfl (enters_of (fq Tryz.func140 rfl) XN rfl)
  (Ed d hf s J (w.heap.size+1+1) (w.heap.size+1+1+1) V hs a7 (hH.below a2 h0) aA v2 v3 aA aA) (aJ _ _) (by intro k hk;omega) (XY.turn (d+1)) (λ_=>rfl)
  (WI d ↑w w) (λ_ _ _=>False) (by rw[a8];exact WI.own d _ w) (λ_ _ _ _ _ hs _ _=>hs)
  ⟨⟨_,v0,Row.none _ _ _ _⟩,v1,a2,aA⟩
  (λx B=>{ tmps:=#[bB s,N ab J,aE,aE,aH Z 0 0,cK aL,aD (M ⟨↑w,0,Z⟩),aD (M ⟨w.heap.size+1,0,Z⟩),N ab x.e,aD (M ⟨B,0,Z⟩),bB s,N ab J,.func (.func 140) #[] #[aD (M ⟨w.heap.size+1+1,0,Z⟩),aD (M ⟨w.heap.size+1+1+1,0,Z⟩)],N ab x.e,fX #[.bool x.i.list,bB ⟨x.i.bytes.toArray⟩,.slice x.a x.i.kids.length x.cap],aE,aE,aE,aE,aE,aE,aE,aE,aE,aE,aE,aE],defers:=[] })
  (λx=>aG #[.bool x.i.list,bB ⟨x.i.bytes.toArray⟩,.slice x.a x.i.kids.length x.cap] 164) ?assign ?body ?done ?stop
 case assign=>
  intro l x W K I;simp only[Wd.encs];gi_wp2;exact I
 case body=>
  rintro l z x W0 W1 ba ⟨⟨v,b0,a1⟩,b1,ak,av⟩ hb ⟨bm,ht⟩;obtain⟨xs,L,H,q1,q2,q3,q4,q5⟩:=a1;have s1:=hb.size;have bn:PQ.follows .mixedOrders=aR:=XN
  obtain⟨va,Y,rfl⟩:=CV q1;rw[bC]at *;obtain⟨IB,a5⟩:∃IB:ByteArray,(⟨x.i.bytes.toArray⟩:ByteArray)=IB:=⟨_,rfl⟩
  rw[a5]at ht⊢;obtain⟨G,hG,gb,-⟩:=jD W1 #[.bool x.i.list,bB IB,.slice x.a x.i.kids.length x.cap] 164;rw[<-hG];have gs:↑G=W1.heap.size+1:=by rw[hG];simp
  have ag:=hb.trans (gb.mono s1);obtain⟨k0,k1,k2⟩:K3 G ↑W1 0 (.bool x.i.list) (bB IB) (.slice x.a x.i.kids.length x.cap):=by rw[hG];exact K3.Ia _ _ _ _ _
  rw[fJ]at k1 k2;clear hG;have c0:rp G ↑w 162 (.slice va z.length Y):=(ag.block _ b0.lt).trans b0;have c1:rp G (w.heap.size+1) 3 (N ab (rO z)):=(ag.block _ b1.lt).trans b1
  have a9:∃i0,PQ.info? 164=M i0/\i0.zero=M (fX #[cK aL,bB ⟨#[]⟩,aH Z 0 0])/\i0.size=3/\i0.bytes=48:=by
   obtain⟨i0,hi,aj,aq,am⟩:=pa Uw;exact⟨i0,hi,aj,aq,am⟩
  obtain⟨i0,hi,aj,aq,am⟩:=a9;obtain⟨X2,hU⟩:∃X2:U,X2=(G.alloc (aG #[cK aL,bB ⟨#[]⟩,aH Z 0 0] 164)).drew:=⟨_,rfl⟩
  have ub:Below ↑G G X2:=by rw[hU];exact((aJ _ G).alloc jB _).drew
  have us:↑X2=G.heap.size+1:=by rw[hU];simp
  have u3:K3 X2 ↑G 0 (cK aL) (bB ⟨#[]⟩) (aH Z 0 0):=by rw[hU];obtain⟨t0,t1,t2⟩:=K3.Ia G (cK aL) (bB ⟨#[]⟩) (aH Z 0 0) 164;exact⟨t0,t1,t2⟩
  have qU:=own_below (own_below q1 ag) ub
  obtain⟨v',w',aa,E,ac,ap⟩:=JH (P:=PQ) X2 _ 162 162 164 i0 _ 3 48 (uq Tryz.underlying162) hi aj aq am rfl aB _ _ xs qU ⟨↑G,0,Z⟩ 1 1 [cK aL,bB ⟨#[]⟩,aH Z 0 0] aB rfl (by
   intro j u hj
   match j,hj with
   |0,hj=>simp at hj;subst hj;exact u3.1
   |1,hj=>simp at hj;subst hj;exact u3.2.1
   |2,hj=>simp at hj;subst hj;exact u3.2.2) (by intro u hu;simp at hu;rcases hu with rfl|rfl|rfl<;>rfl) (by unfold maxLen;omega) aA aA
  obtain⟨g,ay,rfl⟩:=Qd E aA;rw[hU,gs]at aa;have m0:=c0.cell;have bd:=(c0.alloc (aG #[cK aL,bB ⟨#[]⟩,aH Z 0 0] 164)).cell;have bq:=qZ E (g:=g) rfl;have ar:=E.cells (g:=g) rfl;have ai:=xs_len qU;have y0:w'.cell? ⟨g,z.length*3,Z⟩=M (cK aL):=by have:=ar (z.length*3) (cK aL) (by rw[bV aA,ai];simp);simpa[yH]using this
  have y1:w'.cell? ⟨g,z.length*3+1,Z⟩=M (bB ⟨#[]⟩):=by have:=ar (z.length*3+1) (bB ⟨#[]⟩) (by rw[bV aA,ai,show z.length*3+1-z.length*3=1 from by omega];rfl);simpa[yH]using this
  have y2:w'.cell? ⟨g,z.length*3+2,Z⟩=M (aH Z 0 0):=by have:=ar (z.length*3+2) (aH Z 0 0) (by rw[bV aA,ai,show z.length*3+2-z.length*3=2 from by omega];rfl);simpa[yH]using this
  have az:∀m,cV (.slice va z.length Y)=M m->w.heap.size+4<=m:=λm hm=>(qZ q1 hm).1;have e0:rp w' ↑w 162 (.slice va z.length Y):=(ac.block _ aA (λe=>by have:=az _ e.symm;omega)).trans ((ub.block _ aA).trans c0);have e1:rp w' (w.heap.size+1) 3 (N ab (rO z)):=(ac.block _ aA (λe=>by have:=az _ e.symm;omega)).trans ((ub.block _ aA).trans c1);have n0:=e0.cell;have n1:=e0.frozen;have n2:=e1.cell;have n3:=e1.frozen;have n4:w'.frozen? ⟨g,z.length*3,Z⟩=aL:=wY E;have n5:w'.frozen? ⟨g,z.length*3+1,Z⟩=aL:=wY E;have n6:w'.frozen? ⟨g,z.length*3+2,Z⟩=aL:=wY E;have br:(0:Int)<=(z.length:Int):=aA
  have bp:(z.length:Int)<((z.length+1:Nat):Int):=aA
  have bo:(z.length:Int)<z.length+1:=aA
  have ah:g≠w.heap.size:=aA
  have bl:g≠w.heap.size+1:=aA
  have f0:=c0.frozen;have Hx:cH _:=jy q1 (jy q2 (jy q3 (jy q4 q5)));have a4:cH _:=E;have bg:cH _:=ac;have bj:cH _:=ap;have bk:cH _:=ub;have bb:cH _:=ht
  have fin:∀(a:Act)(F:U),F=((((w'.setCell ⟨g,z.length*3,Z⟩ (.bool x.i.list)).setCell ⟨g,z.length*3+1,Z⟩ (bB IB)).setCell ⟨g,z.length*3+2,Z⟩ (.slice x.a x.i.kids.length x.cap)).setCell ⟨↑w,0,Z⟩ (aH (M ⟨g,0,Z⟩) (z.length+1) ay)).setCell ⟨w.heap.size+1,0,Z⟩ (N ab x.e)->
    abQ ↑V (λk=>k=1\/k=w.heap.size+1+1\/k=w.heap.size+1+1+1) (WI d ↑w w) (λ_ _ _=>False) (z++[x]) G .normal a F:=λa F hF=>
   Uo h0 ak av b0 b1 q1 (by rw[bC];exact q3) (by rw[bC];exact q4) q5 hb ht gb ub E ac ap hF
  have Fin:cH _:=fin;clear fin;clear q1 q2 q3 q4 q5 E ac ap ub ht u3 qU hU;gi_wp2;refine wpIn_region_any XN ?_;change wpAnyIn _ _ _ _ _ _ _ _ _ (World.drew _);refine(λ(key:(?T:Prop))=>?main) ?k
  case main=>
   repeat' first
    |exact j6
    |refine ii rfl (λK I=>?_) ?_
    |refine fL (rs:=[0,1,3]) (by decide+kernel) aC ?_
    |refine fL (rs:=[1,2,3]) (by decide+kernel) aC ?_
    |refine fL (rs:=[2,3]) (by decide+kernel) aC ?_
    |refine fL (rs:=[3]) (by decide+kernel) aC ?_
    |refine fL (rs:=[2]) (by decide+kernel) aC ?_
    |refine fL (rs:=[1,3]) (by decide+kernel) aC ?_
    |refine fL (rs:=[1]) (by decide+kernel) aC ?_
    |refine fL (rs:=[1,2]) (by decide+kernel) aC ?_
    |refine fL (rs:=[0,3]) (by decide+kernel) aC ?_
    |refine fL (rs:=[0]) (by decide+kernel) aC ?_
    |refine fL (rs:=[0,1]) (by decide+kernel) aC ?_
    |(go_simp;refine I _ _ ?_;clear I K)
    |exact key
  case k=>
   refine fL (rs:=[4]) XN aC ?_;refine ii rfl (λK I=>?_) j6;refine Fg (by rfl) (by rfl) (by rfl) (by rfl) aa ?_;refine I _ _ ?_;clear I K aa;refine fL (rs:=[5,7]) XN aC ?_;refine ii rfl (λK I=>?_) ?_
   .go_simp;refine I _ _ ?_;clear I K;refine fL (rs:=[6,7]) XN aC ?_;refine ii rfl (λK I=>?_) ?_
    .go_simp;refine I _ _ ?_;clear I K;refine fL (rs:=[7]) XN aC ?_;refine ii rfl (λK I=>?_) j6
     .go_simp;refine I _ _ ?_;clear I K;refine wpAnyIn_done XN ?_ _;gi_wp2;exact Fin.out _ _ (by first|rfl|rw[Ei _ _ _ _ _ (mn ah)])
    refine ii rfl (λK I=>?_) j6
    .go_simp;refine I _ _ ?_;clear I K;refine fL (rs:=[6]) XN aC ?_;refine ii rfl (λK I=>?_) j6
     .go_simp;refine I _ _ ?_;clear I K;refine wpAnyIn_done XN ?_ _;gi_wp2;exact Fin.out _ _ (by first|rfl|rw[Ei _ _ _ _ _ (mn ah)])
   refine ii rfl (λK I=>?_) j6
   .go_simp;refine I _ _ ?_;clear I K;refine fL (rs:=[5]) XN aC ?_;refine ii rfl (λK I=>?_) j6
    .go_simp;refine I _ _ ?_;clear I K;refine fL (rs:=[6]) XN aC ?_;refine ii rfl (λK I=>?_) j6
     .go_simp;refine I _ _ ?_;clear I K;refine wpAnyIn_done XN ?_ _;gi_wp2;exact Fin.out _ _ (by first|rfl|rw[Ei _ _ _ _ _ (mn ah)])
 case done=>
  rintro D xs W0 W hD bh ⟨p,he,hl,ao⟩ ⟨⟨v,b0,row⟩,b1,ak,av⟩ hb I;have s1:=hb.size;have c0:rp W ↑w 162 v:=(hb.block _ b0.lt).trans b0;have c1:rp W (w.heap.size+1) 3 (N ab (rO xs)):=(hb.block _ b1.lt).trans b1;rw[hl]at c1;have af:=(row.kept (λk _ k2=>hb.block k k2)).wider jB s1;have a3:=rR W D (eI Z);have ae:=af.turn a3 (λr e=>by cases e;exact⟨_,I,rfl⟩);have aw:=(ak.trans (hb.mono aA)).grown a3 aA (λk e=>by cases e;omega)
  obtain⟨va,Y,rfl⟩:∃va Y,v=.slice va xs.length Y:=by
   obtain⟨_,_,_,q1,_⟩:=row;have:=CV q1;simpa using this
  have m0:=c0.cell;have m1:=c1.cell;have au:=Im.rZ Im.oZ d;have a0:s.data.toList.length<=f:=by rw[<-bD];exact a6
  have an:cH _:=ae;clear af ae row;by_cases hp:p<s.size
  .have hp':(p:Int)<s.size:=by omega
   obtain rfl:R=Z:=by
    obtain h|⟨_,h⟩:=ao
    .omega
    .exact HR.out.symm.trans (he.stuck au f a0 (by rw[<-bD];exact hp) h)
   gi_wp2;refine⟨aC,bE ⟨_,_,rfl,rK I,?_⟩⟩;exact⟨_,by simp[results,Tryz.results152,go_sem],rfl,aw⟩
  .have hp':¬(p:Int)<s.size:=by omega
   obtain rfl:R=M (xs.map Wd.i):=HR.out.symm.trans (he.all au f a0 (by rw[<-bD];omega));gi_wp2;refine⟨aC,bE ⟨_,_,rfl,rK I,?_⟩⟩;refine⟨cQ #[.slice va xs.length Y,cK aR],by simp[results,Tryz.results152,go_sem],⟨va,Y,aC,?_⟩,aw⟩;have:=Row.wider an.out (lo':=w.heap.size) aA jB;rw[bC];exact this
 case stop=>
  rintro D c z W0 W _ _ _ h _ _;exact h.elim
end Go.Proofs.YtpibpdpedjinhabGreatDoor
namespace Go.Proofs.YtpibpdpedjinhabGreatDoor
open Go.RowKit Go.Joins Go.Shelf
attribute [local go_sem] Oper.semAt_some
def first_any(d:Nat)(hd:d=0\/∃d',d=d'+1/\FirstSaid d'):FirstSaid d:=by
 intro s E w hs bb hH;have h0:=hH.pos;have hl:=bD s;generalize hC:Im.read Im.body d s.data.toList=C;have HC:cH _:=hC;have Hd:cH _:=hd;clear hC hd;obtain⟨Wd,hX,ar,ay⟩:=jD w #[cK aL,bB ⟨#[]⟩,aH Z 0 0] 164;have a2:Wd.heap.size=w.heap.size+1:=by rw[hX];simp
 go_enter (fq Tryz.func141 rfl),Tryz.ntmps141;go_wp2_with fail;rw[<-hX];refine(Fb s Wd hs (hH.below ar h0)).mono ?_;rintro e w1 ⟨rfl,am⟩;have bd:=am.size;have I:=ar.trans (am.mono aA);have hz:=(am.block _ aA).trans ay;have J:∀o:nL,(w1.alloc o).heap[w.heap.size]? =M (aG #[cK aL,bB ⟨#[]⟩,aH Z 0 0] 164 (0,0)):=λo=>(aZ _ _ _ aA).trans hz;have y0:∀o:nL,(w1.alloc o).cell? ⟨↑w,0,Z⟩=M (cK aL):=λo=>by rw[aI (J o)];rfl
 have y1:∀o:nL,(w1.alloc o).cell? ⟨↑w,1,Z⟩=M (bB ⟨#[]⟩):=λo=>by rw[aI (J o)];rfl
 have y2:∀o:nL,(w1.alloc o).cell? ⟨↑w,2,Z⟩=M (aH Z 0 0):=λo=>by rw[aI (J o)];rfl
 have fy:=λo j=>aQ (J o) j;have ba:↑w≠w1.heap.size:=aA
 have a1:=hH.below I h0;have HX:cH _:=jy am (jy a2 (jy ar ay));clear hX am a2 ar ay;cases hR:Im.body s.data.toList with
 |none=>
  obtain rfl:C=Z:=HC.out.symm.trans (Im.uZ hR);simp only[vM];go_wp2_with fail;exact cM (v:=.tuple _) (by simp[results,mN,go_sem,y0,y1,y2]) rfl ⟨rfl,(((I.alloc I.size _).setCell aC _).setCell aC _).setCell aC _⟩
 |some R=>
  obtain⟨l,f,t⟩:=R;obtain⟨bj,a7,bg,bh⟩:=Im.oZ _ _ _ _ hR;rw[<-hl]at a7;clear hl;simp only[vM];have a9:(f:Int)<=t:=aA
  have a8:(t:Int)<=s.size:=aA
  cases l with
  |false=>
   obtain rfl:=HC.out.symm.trans (Im.Cc hR);clear hR;go_wp2_with fail;obtain⟨Y,hY,-,ag⟩:=jD w1 #[cK aL,N ab f,N ab t] 237;rw[<-hY];have a4:↑Y=w1.heap.size+1:=by rw[hY];simp
   have ap:Below ↑w w Y:=by rw[hY];exact I.alloc I.size _
   have ae:Y.heap[w.heap.size]? =M (aG #[cK aL,bB ⟨#[]⟩,aH Z 0 0] 164 (0,0)):=by rw[hY];exact J _
   have aw:=(jE ae)
   obtain⟨-,-,c2⟩:=cells3 ag;clear hY;have HY:cH _:=jy ae ag;have Hz:cH _:=jy y0 (jy y1 (jy y2 (jy fy J)));clear ae ag y0 y1 y2 fy J hz;have an:(s.extract f t).size<=16777216:=aF
   have ai:(⟨((s.data.toList.take t).drop f).toArray⟩:ByteArray)=s.extract f t:=by
    rw[<-ext_list]
   obtain⟨TX,aj⟩:∃TX:ByteArray,s.extract f t=TX:=⟨_,rfl⟩
   rw[aj]at an ai;rw[aj]
   have z:∀X2:U,Below ↑Y Y X2->dE PQ 92 #[bB TX] X2 λe w3=>e=bO (bB TX)/\w3.cell? ⟨↑w1,2,Z⟩=M (N ab t)/\w3.cell? ⟨↑w,0,Z⟩=M (cK aL)/\w3.cell? ⟨↑w,1,Z⟩=M (bB ⟨#[]⟩)/\w3.cell? ⟨↑w,2,Z⟩=M (aH Z 0 0)/\(∀j,w3.frozen? ⟨↑w,j,Z⟩=aL)/\Below ↑w w w3:=by
    intro X2 hU;refine(clone_any TX X2 an).mono ?_;rintro e w3 ⟨rfl,ah⟩;have av:=hU.trans (ah.mono hU.size);have aq:=(av.block _ aA).trans HY.out.2;have aa:=(av.block _ aw).trans HY.out.1;exact⟨rfl,by rw[aI aq];rfl,by rw[aI aa];rfl,by rw[aI aa];rfl,by rw[aI aa];rfl,aQ aa,ap.trans (av.mono ap.size)⟩
   have ac:cH _:=z;clear z;go_region_with (go_at_call 92;refine(ac.out _ ?_).mono ?_;(first|exact aJ _ _|exact(aJ _ _).drew|exact below_drewN (aJ _ _) _);rintro e w3 ⟨rfl,x2,z0,z1,z2,fz,af⟩)
   all_goals
    go_wp2_with fail;refine cM (v:=cQ #[fX #[cK aL,bB TX,aH Z 0 0],N ab t,cK aR]) (by simp[results,mN,go_sem,z0,z1,z2]) rfl ⟨⟨Z,0,by simp only[ai];rfl,?_⟩,?_⟩
    .exact Tr.Wp (i:=⟨aL,_,[]⟩) (Row.none _ _ _ _)
    .first
      |exact((af.setCell aC _).setCell aC _).setCell aC _
      |exact below_drewN (((af.setCell aC _).setCell aC _).setCell aC _) _
  |true=>
   have an:(s.extract f t).size<=16777216:=aF
   obtain⟨TX,aj⟩:∃TX:ByteArray,s.extract f t=TX:=⟨_,rfl⟩
   have ai:TX.data.toList=(s.data.toList.take t).drop f:=by rw[<-aj,ext_list]
   obtain rfl|⟨d',rfl,hf⟩:=Hd.out
   .obtain rfl:=HC.out.symm.trans (Im.AV hR);have a5:(8:Int)<(E:Int):=by omega
    clear hR ai;go_wp2_with fail;exact cM (v:=.tuple _) (by simp[results,mN,go_sem,y0,y1,y2]) rfl ⟨rfl,(((I.alloc I.size _).setCell aC _).setCell aC _).setCell aC _⟩
   .have ao:C=_:=HC.out.symm.trans (Im.Gg hR);rw[<-ai]at ao;have a5:¬(8:Int)<(E:Int):=by omega
    have z:∀X2:U,Below ↑w1 w1 X2->dE PQ 152 #[bB TX,N ab ((E:Int)+1)] X2 λe w3=>WG (d'+1) ↑X2 w3 e (Im.many (Im.read Im.body d') s.data.toList.length TX.data.toList)/\Below ↑X2 X2 w3:=by
     intro X2 hU;have:=SE d' hf TX (E+1) s.data.toList.length X2 (by rw[<-aj];exact an) aA (by rw[<-aj,<-bD];simp;omega) (a1.below hU a1.pos);rw[show((E+1:Nat):Int)=(E:Int)+1 from by omega]at this;exact this
    generalize hM:Im.many (Im.read Im.body d') s.data.toList.length TX.data.toList=XS at z ao;have ac:cH _:=z;have a3:cH _:=ao;clear z hR hM HC ao ai;obtain⟨Y,hY,a6,ag⟩:=jD w1 #[cK aR,N ab f,N ab t] 237;have a4:Y.heap.size=w1.heap.size+1:=by rw[hY];simp
    have ap:Below ↑w w Y:=by rw[hY];exact I.alloc I.size _
    have ae:Y.heap[w.heap.size]? =M (aG #[cK aL,bB ⟨#[]⟩,aH Z 0 0] 164 (0,0)):=by rw[hY];exact J _
    have aw:=(jE ae)
    have HY:cH _:=jy ae ag;clear ae ag;go_wp2_with fail;rw[<-hY];clear hY;refine(ac.out Y a6).mono ?_;rintro e w3 ⟨a0,ah⟩;have s3:=ah.size;have af:=ap.trans (ah.mono aA);have aq:=(ah.block _ aA).trans HY.out.2;have aa:=(ah.block _ aw).trans HY.out.1;obtain⟨-,-,x2⟩:=cells3 aq;obtain⟨z0,z1,z2⟩:=cells3 aa;have fz:=aQ aa;clear aq aa y0 y1 y2 fy J hz;cases XS with
    |none=>
     obtain rfl:C=Z:=a3.out;obtain rfl:=a0;go_wp2_with fail;exact cM (v:=.tuple _) (by simp[results,mN,go_sem,z0,z1,z2]) rfl ⟨rfl,((af.setCell aC _).setCell aC _).setCell aC _⟩
    |some ks=>
     obtain rfl:C=M (⟨aR,[],ks⟩,t):=a3.out;obtain⟨ka,ak,rfl,au⟩:=a0;have az:cH _:=au;clear au;go_wp2_with fail;go_region
     all_goals
      go_wp2_with fail;refine cM (v:=cQ #[fX #[cK aR,bB ⟨#[]⟩,.slice ka ks.length ak],.int _ t,cK aR]) (by simp[results,mN,go_sem,z0,z1,z2]) rfl ⟨⟨ka,ak,rfl,?_⟩,?_⟩
      .have r1:=Row.wider (lo':=w.heap.size+1) az.out aA jB;have r2:=Row.wider (lo':=w.heap.size) (Row.kept (w':=((w3.setCell ⟨↑w,0,Z⟩ (cK aR)).setCell ⟨↑w,1,Z⟩ (bB ⟨#[]⟩)).setCell ⟨↑w,2,Z⟩ (.slice ka ks.length ak)) r1 (λk k1 _=>by rw[aW _ _ _ _ aF,aW _ _ _ _ aF,aW _ _ _ _ aF])) aA jB;exact Tr.Wp (i:=⟨aR,[],ks⟩) (Row.wider (Row.kept r2 (λ_ _ _=>rfl)) jB (by simp[eQ]))
      .first
        |exact((af.setCell aC _).setCell aC _).setCell aC _
        |exact(((af.drew.setCell aC _).setCell aC _).setCell aC _)
        |exact below_drewN (((af.setCell aC _).setCell aC _).setCell aC _) _
end Go.Proofs.YtpibpdpedjinhabGreatDoor
namespace Go.Proofs.YtpibpdpedjinhabGreatDoor
open Go.RowKit Go.Joins Go.Shelf
attribute [local go_sem] Oper.semAt_some
variable {g:List UInt8->Option (Im.It×Nat)}{s:List UInt8}
def yA:∀d:Nat,FirstSaid d
 |0=>first_any 0 (bE rfl)
 |d+1=>first_any (d+1) (cD ⟨d,rfl,yA d⟩)
def Xc(s:ByteArray){w:U}:dE PQ 83 #[bB s] w λe w'=>e=bO (.func (.func 140) #[] #[aD (M ⟨↑w,0,Z⟩),aD (M ⟨w.heap.size+1,0,Z⟩)])/\w'=(w.alloc (aG #[bB s] 9)).alloc (aG #[N ab 1] 3):=by
 go_enter (fq Tryz.func83 rfl),Tryz.ntmps83;go_wp2_with fail;refine(BZ s 1 _).mono ?_;rintro e w1 ⟨rfl,rfl⟩;go_wp2_with fail;go_ret;exact⟨rfl,rfl⟩
def Il(n lo:Nat)(w':U)(e:pm):Option Im.It->Prop
 |none=>e=bO (cQ #[fX #[cK aL,bB ⟨#[]⟩,aH Z 0 0],N ab 4])
 |some i=>∃a cap,e=bO (cQ #[fX #[.bool i.list,bB ⟨i.bytes.toArray⟩,.slice a i.kids.length cap],N ab 0])/\Tr w' n lo ↑w' (.bool i.list) (bB ⟨i.bytes.toArray⟩) (.slice a i.kids.length cap) i
def BU{w:U}{b:Nat}{I J E:X}{t:cG}(h:w.heap[b]? =M (aG #[I,J,E] t (0,0))){x y z:X}:(((w.setCell ⟨b,0,Z⟩ x).setCell ⟨b,1,Z⟩ y).setCell ⟨b,2,Z⟩ z).heap[b]? =M (aG #[x,y,z] t (0,0)):=by have:=rj (rj (rj h (i:=0) x) (i:=1) y) (i:=2) z;simpa using this
def Im.nJ.zero{p:Nat}(h:Im.nJ g s [] p):p=0:=by
 generalize z:([]:List Im.It)=l at h;cases h with
 |nil=>rfl
 |snoc=>simp at z
def Im.nJ.one{i:Im.It}{p:Nat}(h:Im.nJ g s [i] p):g s=M (i,p):=by
 generalize z:[i]=l at h;cases h with
 |nil=>simp at z
 |@snoc l0 p0 i0 n0 h hp hg=>
  have e:=z.symm;rw[List.append_eq_singleton_iff]at e;obtain⟨rfl,e⟩|⟨_,e⟩:=e
  .simp at e;subst e;obtain rfl:=h.zero;simpa using hg
  .simp at e
def DI(s:ByteArray)(z:Nat)(w:U)(E:List Wd)(W:U):Prop:=
 E=[]/\rp W z 9 (bB s)/\W.heap[z+1]? =M (aG #[cK aL,bB ⟨#[]⟩,aH Z 0 0] 164 (0,0))/\rp W (z+2) 32 (N ab 0)/\Below z w W/\z+5<=W.heap.size
def DX(s:ByteArray)(z:Nat)(w:U)(c:Code)(E:List Wd)(W:U):Prop:=
 (c=.exit 0/\∃x,E=[x]/\x.e<s.size/\DI s z w [] W)\/
 (c=.ret/\∃x,E=[x]/\s.size<=x.e/\W.heap[z+1]? =M (aG #[.bool x.i.list,bB ⟨x.i.bytes.toArray⟩,.slice x.a x.i.kids.length x.cap] 164 (0,0))/\rp W (z+2) 32 (N ab 0)/\Below z w W/\z+5<=W.heap.size/\Tr W 9 (z+5) ↑W (.bool x.i.list) (bB ⟨x.i.bytes.toArray⟩) (.slice x.a x.i.kids.length x.cap) x.i)
def cells_kept{A B:U}{row:Option Nat}(E:A.grownBy B row){n:Nat}(z:∀r,row=M r->n<=r/\∃o:nL,A.heap[r]? =M o/\o.isCells=aL){k:Nat}{o:nL}(hk:A.heap[k]? =M o)(ho:o.isCells=aR):B.heap[k]? =M o:=
 kH E (λr e=>(z r e).2) k o hk ho
def DI.own(s:ByteArray)(I:Nat)(w:U):rq (I+5) (DI s I w):=by rintro J A B row ⟨rfl,R,h2,h3,h4,Y⟩ z E;exact⟨rfl,cells_kept z E R rfl,cells_kept z E h2 rfl,cells_kept z E h3 rfl,h4.grown z aA (λk e=>by grind),by have:=z.size;omega⟩
def DX.own(s:ByteArray)(I:Nat)(w:U)(c:Code):rq (I+5) (DX s I w c):=by
 rintro Y A B row (⟨hc,x,rfl,J,R⟩|⟨hc,x,rfl,J,h2,h3,h4,h5,h6⟩) z E
 .exact bE ⟨hc,x,rfl,J,DI.own s I w _ _ _ _ R z E⟩
 .exact cD ⟨hc,x,rfl,J,cells_kept z E h2 rfl,cells_kept z E h3 rfl,h4.grown z aA (λk e=>by grind),by have:=z.size;omega,h6.turn z (λr e=>(E r e).2)⟩
def decode_any(s:ByteArray)(w:U)(hs:s.size<=16777216)(hH:lJ w):dE PQ 124 #[bB s] w λe w'=>Il 9 w.heap.size w' e (Im.dec s.data.toList)/\Below ↑w w w':=by
 have h0:=hH.pos;generalize hR:Im.dec s.data.toList=R;have HR:cH _:=hR;clear hR;refine gO.1 (rS (n:=3) (fq Tryz.func124 rfl) rfl trivial ?_ rfl);simp only[Tryz.ntmps124,dR,aU,bY,Nat.reduceAdd,Nat.reduceSub,dH,dG,dU,dI,dS,dN];gi_wp2;refine⟨trivial,?_⟩;refine(gO.2 (Xc s)).mono ?_;rintro e w' ⟨rfl,rfl⟩;gi_wp2;obtain⟨V,hV⟩:∃V:U,V=(((((w.alloc (aG #[bB s] 9)).alloc (aG #[cK aL,bB ⟨#[]⟩,aH Z 0 0] 164)).alloc (aG #[N ab 0] 32)).alloc (aG #[bB s] 9)).alloc (aG #[N ab 1] 3)):=⟨_,rfl⟩
 rw[<-hV];have ai:↑V=w.heap.size+5:=by rw[hV];simp
 have aj:Below ↑w w V:=by rw[hV];exact(((((aJ _ w).alloc jB _).alloc aC _).alloc aF _).alloc aF _).alloc aF _
 have z:∀(a b c d e:nL)(k:Nat),((((((w.alloc a).alloc b).alloc c).alloc d).alloc e).heap[k]?)=if k=w.heap.size+4 then M e else if k=w.heap.size+3 then M d else if k=w.heap.size+2 then M c else if k=w.heap.size+1 then M b else if k=w.heap.size then M a else w.heap[k]?:=by
  intro a b c d e k;simp only[World.alloc,iy,Array.size_push]
 have v0:rp V ↑w 9 (bB s):=by unfold rp;rw[hV,z];simp
 have v1:V.heap[w.heap.size+1]? =M (aG #[cK aL,bB ⟨#[]⟩,aH Z 0 0] 164 (0,0)):=by rw[hV,z];simp
 have v2:rp V (w.heap.size+2) 32 (N ab 0):=by unfold rp;rw[hV,z];simp
 have v3:V.cell? ⟨w.heap.size+1+1+1,0,Z⟩=M (bB s):=by
  have:rp V (w.heap.size+3) 9 (bB s):=by unfold rp;rw[hV,z];simp
  exact this.cell
 have v4:V.cell? ⟨w.heap.size+1+1+1+1,0,Z⟩=M (N ab (1:Nat)):=by
  have:rp V (w.heap.size+4) 3 (N ab 1):=by unfold rp;rw[hV,z];simp
  exact this.cell
 clear hV z
 refine zO (gf:=140) (lb:=#[aD (M ⟨w.heap.size+1+1+1,0,Z⟩),aD (M ⟨w.heap.size+1+1+1+1,0,Z⟩)]) rfl (enters_of (fq Tryz.func140 rfl) XN rfl)
  (Ed 8 (yA 8) s 1 (w.heap.size+1+1+1) (w.heap.size+1+1+1+1) V hs rfl (hH.below aj h0) aA v3 v4 aA aA) (aJ _ _) (by intro k hk;omega) (XY.turn 9) (λ_=>rfl)
  (DI s ↑w w) (DX s ↑w w) (by rw[ai];exact DI.own s _ w) (by rw[ai];exact DX.own s _ w)
  ⟨rfl,v0,v1,v2,aj,aA⟩
  (λx B=>{ tmps:=#[bB s,aD (M ⟨↑w,0,Z⟩),aD (M ⟨w.heap.size+1,0,Z⟩),aD (M ⟨w.heap.size+1+1,0,Z⟩),N ab x.e,aD (M ⟨B,0,Z⟩),bB s,.func (.func 140) #[] #[aD (M ⟨w.heap.size+1+1+1,0,Z⟩),aD (M ⟨w.heap.size+1+1+1+1,0,Z⟩)],N ab x.e,fX #[.bool x.i.list,bB ⟨x.i.bytes.toArray⟩,.slice x.a x.i.kids.length x.cap],aE,aE,aE,aE,aE,aE],defers:=[] })
  (λx=>aG #[.bool x.i.list,bB ⟨x.i.bytes.toArray⟩,.slice x.a x.i.kids.length x.cap] 164) ?assign ?body ?done ?stop
 case assign=>
  intro l x W K hK;simp only[Wd.encs];gi_wp2;exact hK
 case body=>
  rintro l ap x W0 W1 aq ⟨rfl,b0,b1,b2,aa,ae⟩ Y ⟨au,ht⟩;have s1:=Y.size;obtain⟨IB,ah⟩:∃IB:ByteArray,(⟨x.i.bytes.toArray⟩:ByteArray)=IB:=⟨_,rfl⟩
  obtain⟨G,hG,gb,-⟩:=jD W1 #[.bool x.i.list,bB ⟨x.i.bytes.toArray⟩,.slice x.a x.i.kids.length x.cap] 164;rw[<-hG];have gs:↑G=W1.heap.size+1:=by rw[hG];simp
  have ac:=Y.trans (gb.mono s1);obtain⟨k0,k1,k2⟩:K3 G ↑W1 0 (.bool x.i.list) (bB ⟨x.i.bytes.toArray⟩) (.slice x.a x.i.kids.length x.cap):=by rw[hG];exact K3.Ia _ _ _ _ _
  rw[fJ]at k1 k2;clear hG;have c0:rp G ↑w 9 (bB s):=(ac.block _ b0.lt).trans b0;have J:=(ac.block _ aA).trans b1;have I:rp G (w.heap.size+1+1) 32 (N ab 0):=(ac.block _ b2.lt).trans b2;have m0:=c0.cell;have m2:=I.cell;have n2:=I.frozen;obtain⟨z0,z1,z2⟩:=cells3 J;have fz:=aQ J;have bG:=aa.trans (ac.mono aA);have tG:Tr G 9 (w.heap.size+5) ↑G (.bool x.i.list) (bB ⟨x.i.bytes.toArray⟩) (.slice x.a x.i.kids.length x.cap) x.i:=(Tr.kept 9 _ _ _ _ _ _ (λk _ k2=>gb.block k k2) ht).wider aA aA;have HT:cH _:=jy tG ht;have HG:cH _:=jy c0 (jy J (jy I bG));clear tG ht c0 J I bG b0 b1 b2;rw[ah]at k1⊢;by_cases he:x.e<s.size
  .have an:(x.e:Int)<s.size:=by omega
   gi_wp2;obtain⟨c0,J,I,bG⟩:=HG.out;exact⟨KeepsFrom.refl _ _,bE ⟨rfl,x,rfl,he,rfl,c0,J,I,bG,aA⟩⟩
  .have an:¬(x.e:Int)<s.size:=by omega
   gi_wp2;obtain⟨c0,J,I,bG⟩:=HG.out;have tG:=HT.out.1;rw[<-ah];refine⟨KeepsOthers.from ((((rn _ _ _).trans (rn _ _ _)).trans (rn _ _ _)).trans (rn _ _ _)) _,cD ⟨rfl,x,rfl,aA,?_,?_,?_,by simp[eQ];omega,?_⟩⟩
   .rw[aW _ _ _ _ aC];exact BU J
   .exact Boxed.set _ (mD (mD (mD I aC) aC) aC)
   .exact(((bG.setCell aC _).setCell aC _).setCell aC _).setCell aF _
   .refine Tr.wider (Tr.kept 9 _ _ _ _ _ _ (λk k1 _=>?_) tG) jB (by simp[eQ]);rw[aW _ _ _ _ aF,aW _ _ _ _ aF,aW _ _ _ _ aF,aW _ _ _ _ aF]
 case' done=>
  rintro D xs W0 W hD ao ⟨p,he,hl,af⟩ ⟨rfl,b0,b1,b2,aa,ae⟩ Y hK;obtain rfl:=Im.nJ.zero he
  obtain rfl:R=Z:=by
   refine HR.out.symm.trans ?_
   have:Im.read Im.body 8 s.data.toList=Z:=by
    obtain h|⟨_,h⟩:=af
    .have:s.data.toList=[]:=bP (by rw[<-bD];omega);rw[this];exact Im.uZ rfl
    .simpa using h
   unfold Im.dec;rw[this]
 case' stop=>
  rintro D c ap W0 W hD ao ⟨p,he,hl⟩ (⟨rfl,x,rfl,hx,_,b0,b1,b2,aa,ae⟩|⟨rfl,x,rfl,hx,b1,b2,aa,ae,ht⟩) Y hK;rotate_left
  .have hr:=Im.nJ.one he;have ag:=hl.symm.trans (nY [] x);subst ag
   obtain rfl:R=M x.i:=by
    refine HR.out.symm.trans ?_;unfold Im.dec;rw[hr];simp only;have:=(Im.rZ Im.oZ 8 _ _ _ hr).2;rw[ZD (by rw[<-bD]at this⊢;omega)]
   have s1:=Y.size;gi_wp2;have E:D≠w.heap.size+1/\D≠w.heap.size+1+1:=aA
   have J:=(Y.block _ aA).trans b1;have I:rp W (w.heap.size+1+1) 32 (N ab 0):=(Y.block _ b2.lt).trans b2;have bW:=aa.trans (Y.mono aA);have g1:(W.putObj D (eI Z)).heap[w.heap.size+1]? =_:=(qT (mn E.1)).trans J;have g2:(W.putObj D (eI Z)).heap[w.heap.size+1+1]? =_:=(qT (mn E.2)).trans I;have ak:=rR W D (eI Z);have tW:=(Tr.kept 9 _ _ _ _ _ _ (λk _ k2=>Y.block k k2) ht).wider jB s1;have tF:=Tr.wider (lo':=w.heap.size) (Tr.turn tW ak (λr e=>by cases e;exact⟨_,hK,rfl⟩)) aA jB;have Ht:cH _:=tF;clear tF tW ht;refine⟨aC,bE ⟨_,_,rfl,rK hK,?_⟩⟩;exact⟨_,by simp[results,Tryz.results124,go_sem,aI g1,aI g2],⟨_,_,rfl,Ht.out⟩,bW.grown ak aA (λk e=>by cases e;omega)⟩
  have hr:=Im.nJ.one he;have ag:=hl.symm.trans (nY [] x);subst ag
  obtain rfl:R=Z:=by
   refine HR.out.symm.trans ?_;unfold Im.dec;rw[hr];simp only;rw[Zs (by rw[<-bD];omega)]
 all_goals
  have s1:=Y.size;have J:=(Y.block _ aA).trans b1;have I:rp W (w.heap.size+1+1) 32 (N ab 0):=(Y.block _ b2.lt).trans b2;have m2:=I.cell;have n2:=I.frozen;obtain⟨z0,z1,z2⟩:=cells3 J;have fz:=aQ J;have bW:=aa.trans (Y.mono aA);gi_wp2;have E:D≠w.heap.size+1/\D≠w.heap.size+1+1:=aA
  obtain⟨F,hF⟩:∃F:U,F=(((W.setCell ⟨w.heap.size+1,0,Z⟩ (cK aL)).setCell ⟨w.heap.size+1,1,Z⟩ (bB ⟨#[]⟩)).setCell ⟨w.heap.size+1,2,Z⟩ (aH Z 0 0)).setCell ⟨w.heap.size+1+1,0,Z⟩ (N ab 4):=⟨_,rfl⟩
  rw[<-hF];have am:F.heap[D]? =M (eI (M [])):=by rw[hF,aW _ _ _ _ E.2,aW _ _ _ _ E.1,aW _ _ _ _ E.1,aW _ _ _ _ E.1];exact hK
  have f1:F.heap[w.heap.size+1]? =M (aG #[cK aL,bB ⟨#[]⟩,aH Z 0 0] 164 (0,0)):=by rw[hF,aW _ _ _ _ aC];exact BU J
  have f2:rp F (w.heap.size+1+1) 32 (N ab 4):=by rw[hF];exact Boxed.set _ (mD (mD (mD I aC) aC) aC)
  have bF:Below ↑w w F:=by rw[hF];exact(((bW.setCell aC _).setCell aC _).setCell aC _).setCell aF _
  have ar:=bF.size;have av:=(jE am)
  clear hF;have g1:(F.putObj D (eI Z)).heap[w.heap.size+1]? =_:=(qT (mn E.1)).trans f1;have g2:(F.putObj D (eI Z)).heap[w.heap.size+1+1]? =_:=(qT (mn E.2)).trans f2;refine⟨aC,bE ⟨_,_,rfl,rK am,?_⟩⟩;exact⟨_,by simp[results,Tryz.results124,go_sem,aI g1,aI g2],rfl,bF.grown (rR F D _) aA (λk e=>by cases e;omega)⟩
end Go.Proofs.YtpibpdpedjinhabGreatDoor
namespace Go.Proofs.YtpibpdpedjinhabGreatDoor.Hm
open Go.RowKit Go.Joins Go.Shelf
def BP:(PQ.info? 9).map (λi=>(i.zero,i.size,i.bytes))=M (M (bB ⟨#[]⟩),1,16):=XN
def strs(i:Im.It):Option (List (List UInt8)):=if i.list&&i.kids.all (λt=>!t.list)then M (i.kids.map (·.bytes))else Z
def Made(w:U)(lo:Nat)(v:X)(l:List (List UInt8)):Prop:=Row w 9 1 v l.length (l.map nT)/\∀g,v.ownBlock=M g->lo<=g
def Strs(w:U)(lo:Nat)(e:pm):Option (List (List UInt8))->Prop
 |none=>e=bO (cQ #[aH Z 0 0,cK aL])
 |some l=>∃a cap,e=bO (cQ #[.slice a l.length cap,cK aR])/\Made w lo (.slice a l.length cap) l
def In.kid{B:Nat}{w:U}{n:Nat}{c0 c1 J:X}{i:Im.It}(h:In B w (n+1) c0 c1 J i)(hk:i.kids≠[]):∃g off cap,J=aH (M ⟨g,off,Z⟩) i.kids.length cap/\g<B/\∀(j:Nat)(R:j<i.kids.length),∃z,K3 w g (off+j*3) (.bool i.kids[j].list) (bB ⟨i.kids[j].bytes.toArray⟩) z/\In B w n (.bool i.kids[j].list) (bB ⟨i.kids[j].bytes.toArray⟩) z i.kids[j]:=by obtain⟨_,_,a,cap,rfl,hx⟩:=h;obtain⟨g,off,rfl,hg,R⟩:=hx hk;refine⟨g,off,cap,rfl,hg,λj E=>?_⟩;obtain⟨d0,d1,z,h1,h2⟩:=R j E;obtain⟨a',I,Y,e1,e2⟩:=h2.shape;subst Y e1;exact⟨z,h1,h2⟩
def vN(n:Nat){B:Nat}(i:Im.It){c2:X}(w:U)(hB:B<=w.heap.size)(h:In B w (n+2) (.bool i.list) (bB ⟨i.bytes.toArray⟩) c2 i)(hl:i.kids.length<=4294967296):dE PQ 126 #[fX #[.bool i.list,bB ⟨i.bytes.toArray⟩,c2]] w λe w'=>Strs w' ↑w e (strs i)/\Below ↑w w w':=by
 obtain⟨a,cap,_,_,rfl⟩:=h.shape;obtain⟨D,hD⟩:∃D:ByteArray,(⟨i.bytes.toArray⟩:ByteArray)=D:=⟨_,rfl⟩
 obtain⟨W,hW,ah,-⟩:=jD w #[.bool i.list,bB D,.slice a i.kids.length cap] 164;have z0:W.cell? ⟨↑w,0,Z⟩=M (.bool i.list):=by rw[hW];simp
 have z2:W.cell? ⟨↑w,2,Z⟩=M (.slice a i.kids.length cap):=by rw[hW];simp
 obtain⟨R,hR⟩:∃R,strs i=R:=⟨_,rfl⟩
 rw[hR,hD];obtain⟨li,af⟩:∃li,i.list=li:=⟨_,rfl⟩
 rw[af]at z0 hW⊢;obtain⟨i0,aq,an,au,ao⟩:=pa BP;have Hi:cH _:=jy aq (jy an (jy au ao));have H:cH _:=jy h (jy ah (jy hR af));clear h ah hR af aq an au ao hD;cases li
 .go_enter (fq Tryz.func126 rfl),Tryz.ntmps126;go_upto_region 1 with fail;rw[<-hW];clear hW;go_wp2_with fail;go_ret2;obtain⟨h,ah,hR,af⟩:=H.out;refine⟨?_,ah⟩;rw[<-hR];unfold strs;rw[af];rfl
 .go_enter (fq Tryz.func126 rfl),Tryz.ntmps126;go_upto_region 1 with fail;rw[<-hW];clear hW;go_wp2_with fail;go_loopg [4,6,13] i.kids.length (λgg v4 _ aw wx=>∃(k:Nat)(ra:Option eM)(rc:Nat),k<=i.kids.length/\aw=N ab k/\v4=.slice ra k rc/\gg=i.kids.length-k/\cH (Made wx ↑w (.slice ra k rc) ((i.kids.take k).map (·.bytes))/\(∀x,x∈i.kids.take k->x.list=aL)/\Below ↑w w wx))
  case atStart=>exact⟨0,Z,0,dL _,rfl,rfl,rfl,⟨Row.nil _ _ _,by simp[cV]⟩,aC,H.out.2.1⟩
  case round=>
   obtain⟨k,ra,rc,hk,rfl,rfl,rfl,HI⟩:=hrel;by_cases ag:k<i.kids.length
   .have ar:(k:Int)<i.kids.length:=by omega
    have av:=In.below (HI.out.2.2.mono hB) _ _ _ _ _ H.out.1;obtain⟨g,off,a0,hv,hg,aj⟩:=In.kid av (λe=>by rw[e]at ag;simp at ag);simp only[dT,true_and]at hv;obtain⟨rfl,rfl⟩:=hv;obtain⟨d2,⟨k0,k1,k2⟩,ac⟩:=aj k ag;obtain⟨x,hx⟩:∃x,i.kids[k]=x:=⟨_,rfl⟩
    rw[hx]at k0 k1 ac;obtain⟨xa,xc,_,_,rfl⟩:=ac.shape;obtain⟨Wd,hX⟩:∃Wd:ByteArray,(⟨x.bytes.toArray⟩:ByteArray)=Wd:=⟨_,rfl⟩
    rw[hX]at k1;obtain⟨W2,Y,J,-⟩:=jD wr #[.bool x.list,bB Wd,.slice xa x.kids.length xc] 164;have y0:W2.cell? ⟨↑wr,0,Z⟩=M (.bool x.list):=by rw[Y];simp
    have y1:W2.cell? ⟨↑wr,1,Z⟩=M (bB Wd):=by rw[Y];simp
    obtain⟨xl,I⟩:∃xl,x.list=xl:=⟨_,rfl⟩
    rw[I]at y0 k0 Y;have aa:i.kids.take (k+1)=i.kids.take k++[x]:=by rw[eY ag,hx]
    have HX:cH _:=jy hx (jy hX (jy J (jy I aa)));have ae:=λo=>(HI.out.1.1.below J).below ((aJ _ W2).alloc jB o);rw[show((i.kids.take k).map (·.bytes)).length=k from by rw[bC,bK];omega]at ae;have am:cH _:=ae;clear av hg aj ac hx hX J I aa ae;cases xl
    .go_upto_region 7 with fail;rw[<-Y];clear Y;go_wp2_with (first|(at_builtin;refine kX _ rfl (.tmp 19) (.tmp 22) 26 rfl 9 i0 _ 1 16 (uq py) Hi.out.1 Hi.out.2.1 Hi.out.2.2.1 Hi.out.2.2.2 rfl aB _ k _ rfl (am.out _) _ 1 1 [bB Wd] rfl aB rfl (by intro j u hj;match j,hj with|0,hj=>(simp at hj;subst hj;simp[jp])) (by intro u hu;simp at hu;subst hu;rfl) (by unfold maxLen;omega) aA ?_;intro g5 a1 ap w5 E z;have ay:cH _:=jy E z;clear E z)|go_in)
     go_roundg (i.kids.length-(k+1))
     case measure=>omega
     case rel=>
      obtain⟨hx,hX,J,I,aa⟩:=HX.out;obtain⟨E,z⟩:=ay.out;have ai:=HI.out.2.2.trans (J.mono HI.out.2.2.size);have ak:Below ↑w w (W2.alloc (aG #[bB Wd] 9)):=ai.alloc ai.size _
      have az:↑w<=g5:=by
       obtain e|e:=z.own
       .exact HI.out.1.2 g5 e
       .exact bH ak.size e
      refine⟨_,_,ap,aA,by go_num,rfl,rfl,⟨?_,?_⟩,?_,?_⟩
      .rw[aa,bJ,bJ,aS,bC,bK,fZ aA];have:[x].map (λt:Im.It=>t.bytes)=[x.bytes]:=rfl;rw[this,eP,fP];unfold nT at E⊢;rw[hX];exact E
      .intro q hq;have:M g5=M q:=hq;cases this;exact az
      .intro y hy;rw[aa]at hy;obtain hy|hy:=dM.1 hy
       .exact HI.out.2.1 y hy
       .rw[dK.1 hy];exact I
      .refine ak.trans ⟨z.jM.os,z.jM.tape,z.jM.output,z.jM.size,λq hq=>z.jM.block q (aP hq ak.size) (λe=>?_)⟩;have:=HI.out.1.2 q e;omega
    .go_upto_region 7 with fail;rw[<-Y];clear Y;go_wp2_with fail;go_ret2;obtain⟨hx,hX,J,I,aa⟩:=HX.out;refine⟨?_,HI.out.2.2.trans (J.mono HI.out.2.2.size)⟩;rw[<-H.out.2.2.1];unfold strs;rw[Zs]
     .rfl
     .intro e;simp only[dF]at e;have:=fF.1 e.2 x (by rw[<-hx];exact List.getElem_mem _);rw[I]at this;cases this
   .have ar:¬(k:Int)<i.kids.length:=by omega
    obtain rfl:k=i.kids.length:=aA
    go_wp2_with fail;go_ret2;refine⟨?_,HI.out.2.2⟩;rw[<-H.out.2.2.1];unfold strs;rw[ZD]
    .have h1:=HI.out.1;rw[iJ]at h1;refine⟨ra,rc,?_,?_⟩
     .rw[bC];rfl
     .rw[bC];exact h1
    .simp only[dF];refine⟨H.out.2.2.2,fF.2 (λx hx=>?_)⟩;rw[HI.out.2.1 x (by rw[iJ];exact hx)];rfl
open Go.RowKit Go.Joins
open Dv (Cf X2 Tx)
def LU(v:X)(l:List Tx)(w:U)(h:D6 w v l)(hl:l.length<=4294967296):dE PQ 89 #[v,.func (.func 58) #[] #[]] w λe w'=>e=bO (N ab (idx (λt:Tx=>decide (2000<t.data.length)) l))/\Below ↑w w w':=by
 have eg:=enters_of (P:=PQ) (fq Tryz.func58 rfl) XN rfl;obtain⟨a,cap,h0,rfl⟩|⟨g,off,cap,h0,rfl⟩:=Rd.cases h
 .obtain rfl:=bP h0;go_enter (fq Tryz.func89 rfl),Tryz.ntmps89;go_wp2_with fail;go_loopg [5,8] 0 (λgg _ v8 wx=>v8=N ab 0/\wx=w)
  case atStart=>exact⟨rfl,rfl⟩
  case round=>
   obtain⟨rfl,rfl⟩:=hrel;go_wp2_with fail;go_ret;exact⟨rfl,aJ _ _⟩
 .have hg:g<↑w:=by
   obtain⟨g',ae,af,hv,_,Y,_⟩:=Rd.pos h h0;simp only[dT,aK,nj,and_true,true_and]at hv;obtain⟨⟨rfl,rfl⟩,rfl⟩:=hv;exact Y
  have Hf:cH _:=λj t (R:l[j]? =M t)=>h.get R;clear h;go_enter (fq Tryz.func89 rfl),Tryz.ntmps89;go_wp2_with fail;go_loopg [5,8] l.length (λgg _ v8 wx=>∃i:Nat,i<=l.length/\v8=N ab i/\gg=l.length-i/\cH (∀(j:Nat)(y:Tx),j<i->l[j]? =M y->decide (2000<y.data.length)=aL)/\cH (Below ↑w w wx))
  case atStart=>exact⟨0,dL _,rfl,rfl,λj y R=>aA,aJ _ _⟩
  case round=>
   obtain⟨i,hi,rfl,rfl,Hi,I⟩:=hrel;by_cases Y:i<l.length
   .have ac:(i:Int)<l.length:=by omega
    obtain⟨t,ht⟩:∃t,l[i]? =M t:=⟨_,aO Y⟩
    obtain⟨k0,k1,k2⟩:=Hf.out i t ht;rw[<-I.out.cell (p:=⟨g,off+i*3,Z⟩) hg]at k0;rw[<-I.out.cell (p:=⟨g,off+i*3+1,Z⟩) hg]at k1;rw[<-I.out.cell (p:=⟨g,off+i*3+2,Z⟩) hg]at k2;have z:=λW=>P6 t W;have Ht:cH _:=ht;obtain⟨D,hD⟩:∃D:ByteArray,(⟨t.data.toArray⟩:ByteArray)=D:=⟨_,rfl⟩
    rw[hD]at z k2;clear hD;cases hq:decide (2000<t.data.length)
    .rw[hq]at z;have E:cH _:=z;have Hq:cH _:=hq;clear z ht hq;go_wp2_with (go_at_call 58;refine(E.out _).mono ?_;rintro e w2 ⟨rfl,aa⟩)
     go_roundg (l.length-(i+1))
     case measure=>omega
     case rel=>
      refine⟨_,aA,by go_num,rfl,λj y R J=>?_,I.out.trans (aa.mono I.out.size)⟩;obtain R|rfl:=jm (pB.1 R)
      .exact Hi.out j y R J
      .rw[Ht.out]at J;cases J;exact Hq.out
    .rw[hq]at z;have E:cH _:=z;have Hq:cH _:=hq;clear z ht hq;go_wp2_with (go_at_call 58;refine(E.out _).mono ?_;rintro e w2 ⟨rfl,aa⟩)
     go_ret;exact⟨by rw[xR Ht.out Hq.out (λj y R J=>Hi.out j y R J)];rfl,I.out.trans (aa.mono I.out.size)⟩
   .have ac:¬(i:Int)<l.length:=by omega
    go_wp2_with fail;go_ret;refine⟨?_,I.out⟩;rw[xB (λj y J=>Hi.out j y (by have:=(aN.1 J).1;omega) J)];rfl
def IC(v:X)(l:List (List UInt8))(w:U)(h:qH w v l)(hl:l.length<=4294967296):dE PQ 90 #[v,.func (.func 60) #[] #[]] w λe w'=>e=bO (N ab (idx (λt:List UInt8=>decide (2000<t.length)) l))/\Below ↑w w w':=by
 have eg:=enters_of (P:=PQ) (fq Tryz.func60 rfl) XN rfl;obtain⟨a,cap,h0,rfl⟩|⟨g,off,cap,h0,rfl⟩:=Rd.cases h
 .obtain rfl:=bP h0;go_enter (fq Tryz.func90 rfl),Tryz.ntmps90;go_wp2_with fail;go_loopg [5,8] 0 (λgg _ v8 wx=>v8=N ab 0/\wx=w)
  case atStart=>exact⟨rfl,rfl⟩
  case round=>
   obtain⟨rfl,rfl⟩:=hrel;go_wp2_with fail;go_ret;exact⟨rfl,aJ _ _⟩
 .have hg:g<↑w:=by
   obtain⟨g',ac,ae,hv,_,R,_⟩:=Rd.pos h h0;simp only[dT,aK,nj,and_true,true_and]at hv;obtain⟨⟨rfl,rfl⟩,rfl⟩:=hv;exact R
  have Hf:cH _:=λj t (J:l[j]? =M t)=>h.get J;clear h;go_enter (fq Tryz.func90 rfl),Tryz.ntmps90;go_wp2_with fail;go_loopg [5,8] l.length (λgg _ v8 wx=>∃i:Nat,i<=l.length/\v8=N ab i/\gg=l.length-i/\cH (∀(j:Nat)(y:List UInt8),j<i->l[j]? =M y->decide (2000<y.length)=aL)/\cH (Below ↑w w wx))
  case atStart=>exact⟨0,dL _,rfl,rfl,λj y J=>aA,aJ _ _⟩
  case round=>
   obtain⟨i,hi,rfl,rfl,Hi,Hb⟩:=hrel;by_cases R:i<l.length
   .have aa:(i:Int)<l.length:=by omega
    obtain⟨t,ht⟩:∃t,l[i]? =M t:=⟨_,aO R⟩
    have k2:=Hf.out i t ht;rw[<-Hb.out.cell (p:=⟨g,off+i,Z⟩) hg]at k2;have z:=λW=>Ou t W;have Ht:cH _:=ht;obtain⟨D,hD⟩:∃D:ByteArray,(⟨t.toArray⟩:ByteArray)=D:=⟨_,rfl⟩
    rw[hD]at z k2;clear hD;cases hq:decide (2000<t.length)
    .rw[hq]at z;have E:cH _:=z;have Hq:cH _:=hq;clear z ht hq;go_wp2_with (go_at_call 60;refine(E.out _).mono ?_;rintro e w2 ⟨rfl,Y⟩)
     go_roundg (l.length-(i+1))
     case measure=>omega
     case rel=>
      refine⟨_,aA,by go_num,rfl,λj y J I=>?_,Hb.out.trans (Y.mono Hb.out.size)⟩;obtain J|rfl:=jm (pB.1 J)
      .exact Hi.out j y J I
      .rw[Ht.out]at I;cases I;exact Hq.out
    .rw[hq]at z;have E:cH _:=z;have Hq:cH _:=hq;clear z ht hq;go_wp2_with (go_at_call 60;refine(E.out _).mono ?_;rintro e w2 ⟨rfl,Y⟩)
     go_ret;exact⟨by rw[xR Ht.out Hq.out (λj y J I=>Hi.out j y J I)];rfl,Hb.out.trans (Y.mono Hb.out.size)⟩
   .have aa:¬(i:Int)<l.length:=by omega
    go_wp2_with fail;go_ret;refine⟨?_,Hb.out⟩;rw[xB (λj y I=>Hi.out j y (by have:=(aN.1 I).1;omega) I)];rfl
def Dq(v:X){l:List Tx}(w:U)(h:D6 w v l)(R:l.length<=4294967296):dE PQ 57 #[v,.func (.func 58) #[] #[]] w λe w'=>e=bO (.bool (l.any (λt:Tx=>decide (2000<t.data.length))))/\Below ↑w w w':=by
 rw[<-Rl];have z:=LU v l w h R;obtain⟨a,cap,rfl⟩:=Rd.slice h;obtain⟨r,J⟩:∃r,idx (λt:Tx=>decide (2000<t.data.length)) l=r:=⟨_,rfl⟩
 rw[J]at z⊢;have E:cH _:=z;clear z J h;go_enter (fq Tryz.func57 rfl),Tryz.ntmps57;go_wp2_with (go_at_call 89;refine aT E.out ?_;rintro e w2 ⟨rfl,I⟩)
 go_ret;exact⟨rfl,I⟩
def Ar(v:X){l:List (List UInt8)}(w:U)(h:qH w v l)(R:l.length<=4294967296):dE PQ 59 #[v,.func (.func 60) #[] #[]] w λe w'=>e=bO (.bool (l.any (λt:List UInt8=>decide (2000<t.length))))/\Below ↑w w w':=by
 rw[<-Rl];have z:=IC v l w h R;obtain⟨a,cap,rfl⟩:=Rd.slice h;obtain⟨r,J⟩:∃r,idx (λt:List UInt8=>decide (2000<t.length)) l=r:=⟨_,rfl⟩
 rw[J]at z⊢;have E:cH _:=z;clear z J h;go_enter (fq Tryz.func59 rfl),Tryz.ntmps59;go_wp2_with (go_at_call 90;refine aT E.out ?_;rintro e w2 ⟨rfl,I⟩)
 go_ret;exact⟨rfl,I⟩
def Ku(u:X2)(vt vl:X):X:=fX #[N ab u.id,N ab u.time,vt,vl]
def XV(u:X2):Dv.small u=(decide (u.txs.length<=20)&&decide (u.logs.length<=20)&&!u.txs.any (λt:Tx=>decide (2000<t.data.length))&&!u.logs.any (λt:List UInt8=>decide (2000<t.length))):=by
 unfold Dv.small;rw[pA]
 congr 1
 .congr 1
  rw[List.all_eq_not_any_not]
  congr 2
  funext t;rw[<-decide_not];exact decide_eq_decide.2 aA
 .rw[List.all_eq_not_any_not]
  congr 2
  funext t;rw[<-decide_not];exact decide_eq_decide.2 aA
def FY(u:X2)(vt vl:X)(w:U)(ht:D6 w vt u.txs)(I:qH w vl u.logs)(h1:u.txs.length<=4294967296)(h2:u.logs.length<=4294967296):dE PQ 36 #[Ku u vt vl] w λe w'=>e=bO (.bool (Dv.small u))/\Below ↑w w w':=by
 have hb:Below ↑w w (w.alloc (aG #[N ab u.id,N ab u.time,vt,vl] 28)):=(aJ _ w).alloc jB _;obtain⟨W,E⟩:∃W,W=w.alloc (aG #[N ab u.id,N ab u.time,vt,vl] 28):=⟨_,rfl⟩
 rw[<-E]at hb;have c1:=λW' hw=>Dq vt W' (Rd.below (Rd.below ht hb) hw) h1;have c2:=λW' hw=>Ar vl W' (Rd.below (Rd.below I hb) hw) h2;have k2:W.cell? ⟨↑w,2,Z⟩=M vt:=by rw[E];simp
 have k3:W.cell? ⟨↑w,3,Z⟩=M vl:=by rw[E];simp
 have ae:↑w<W.heap.size:=by rw[E];simp
 obtain⟨ta,tc,rfl⟩:=Rd.slice ht;obtain⟨la,lc,rfl⟩:=Rd.slice I;rw[XV];unfold Ku;obtain⟨n,J⟩:∃n,u.txs.length=n:=⟨_,rfl⟩
 obtain⟨m,Y⟩:∃m,u.logs.length=m:=⟨_,rfl⟩
 obtain⟨b1,aa⟩:∃b,u.txs.any (λt:Tx=>decide (2000<t.data.length))=b:=⟨_,rfl⟩
 obtain⟨b2,z⟩:∃b,u.logs.any (λt:List UInt8=>decide (2000<t.length))=b:=⟨_,rfl⟩
 rw[aa]at c1⊢;rw[z]at c2⊢;rw[J]at c1 k2 E⊢;rw[Y]at c2 k3 E⊢;have C1:cH _:=c1;have C2:cH _:=c2;have R:cH _:=hb;obtain⟨r,hr⟩:∃r,(decide (n<=20)&&decide (m<=20)&&!b1&&!b2)=r:=⟨_,rfl⟩
 rw[hr];have Hr:cH _:=hr;clear c1 c2 hb hr aa z J Y h1 h2 ht I;go_enter (fq Tryz.func36 rfl),Tryz.ntmps36;go_upto_region 1 with fail;rw[<-E];clear E;by_cases J:n<=20
 .have af:(n:Int)<=20:=by omega
  by_cases Y:m<=20
  .have ac:(m:Int)<=20:=by omega
   cases b1
   .cases b2
    all_goals
     go_wp2_with (first|(go_at_call 57;refine aT (C1.out _ ?_) ?_;(first|exact aJ _ _|exact(aJ _ _).drew|exact below_drewN (aJ _ _) _);rintro e w2 ⟨rfl,z⟩;have ah:=(z.cell (p:=⟨↑w,3,Z⟩) ae).trans k3)|(go_at_call 59;refine aT (C2.out _ z) ?_;rintro e w3 ⟨rfl,ag⟩)|fail)
     go_ret;refine⟨?_,R.out.trans ((z.trans (ag.mono z.size)).mono R.out.size)⟩;rw[<-Hr.out,Z0 J,Z0 Y];rfl
   .go_wp2_with (first|(go_at_call 57;refine aT (C1.out _ ?_) ?_;(first|exact aJ _ _|exact(aJ _ _).drew|exact below_drewN (aJ _ _) _);rintro e w2 ⟨rfl,z⟩)|fail)
    go_ret;refine⟨?_,R.out.trans (z.mono R.out.size)⟩;rw[<-Hr.out,Z0 J,Z0 Y];rfl
  .have ac:¬(m:Int)<=20:=by omega
   go_wp2_with fail;go_ret;refine⟨?_,R.out⟩;rw[<-Hr.out,Z0 J,ZZ Y];rfl
 .have af:¬(n:Int)<=20:=by omega
  go_wp2_with fail;go_ret;refine⟨?_,R.out⟩;rw[<-Hr.out,ZZ J];rfl
def mM(u:X2):Bool:=decide (0<=u.time)&&decide (u.time<=1000000)&&Dv.small u
def mY(t:Int)(u:X2):Bool:=decide (t+1<=u.time)&&decide (u.time<=t+24)&&Dv.small u
def Eh(u:X2):Dv.lY Z u=mM u:=by unfold Dv.lY mM;simp only[pA]
def U2(t:Int)(u:X2):Dv.lY (M t) u=mY t u:=by unfold Dv.lY mY;simp only[pA];rfl
def kW(w:U)(u:X2)(vt vl:X):Prop:=D6 w vt u.txs/\qH w vl u.logs/\u.txs.length<=4294967296/\u.logs.length<=4294967296
def kW.below{w w':U}{u:X2}{vt vl:X}(h:kW w u vt vl)(z:Below ↑w w w'):kW w' u vt vl:=⟨Rd.below h.1 z,Rd.below h.2.1 z,h.2.2⟩
def first_any(u:X2)(vt vl:X)(w:U)(h:kW w u vt vl):dE PQ 18 #[Ku u vt vl] w λe w'=>e=bO (.bool (mM u))/\Below ↑w w w':=by
 unfold Ku;obtain⟨W,E,J,-⟩:=jD w #[N ab u.id,N ab u.time,vt,vl] 28;have k0:W.cell? ⟨↑w,0,Z⟩=M (N ab u.id):=by rw[E];simp
 have k1:W.cell? ⟨↑w,1,Z⟩=M (N ab u.time):=by rw[E];simp
 have k2:W.cell? ⟨↑w,2,Z⟩=M vt:=by rw[E];simp
 have k3:W.cell? ⟨↑w,3,Z⟩=M vl:=by rw[E];simp
 have c1:=λW'=>ng u.time 0 1000000 W';have R:=FY u vt vl W (h.below J).1 (h.below J).2.1 h.2.2.1 h.2.2.2;unfold Ku at R;obtain⟨ta,tc,rfl⟩:=Rd.slice h.1;obtain⟨la,lc,rfl⟩:=Rd.slice h.2.1;obtain⟨b1,I⟩:∃b,(decide (0<=u.time)&&decide (u.time<=1000000))=b:=⟨_,rfl⟩
 obtain⟨b2,z⟩:∃b,Dv.small u=b:=⟨_,rfl⟩
 unfold mM;rw[I]at c1⊢;rw[z]at R⊢;have C1:cH _:=c1;have C2:cH _:=λ(_:Unit)=>R;have Y:cH _:=J;clear c1 R J I z h;go_enter (fq Tryz.func18 rfl),Tryz.ntmps18;go_upto_region 1 with fail;rw[<-E];clear E;cases b1
 .go_wp2_with (go_at_call 35;refine aT (C1.out _) ?_;rintro e w2 ⟨rfl,rfl⟩)
  go_ret;exact⟨rfl,Y.out⟩
 .go_wp2_with (first|(go_at_call 35;refine aT (C1.out _) ?_;rintro e w2 ⟨rfl,rfl⟩)|(go_at_call 36;refine aT (C2.out ()) ?_;rintro e w2 ⟨rfl,z⟩)|fail)
  go_ret;exact⟨by cases b2<;>rfl,Y.out.trans (z.mono Y.out.size)⟩
def next_any(t:Int)(u:X2){vt vl:X}(w:U)(h:kW w u vt vl)(ht:0<=t/\t<=4294967296):dE PQ 40 #[N ab t,Ku u vt vl] w λe w'=>e=bO (.bool (mY t u))/\Below ↑w w w':=by
 unfold Ku;obtain⟨W,E,J,-⟩:=jD w #[N ab u.id,N ab u.time,vt,vl] 28;have k0:W.cell? ⟨↑w,0,Z⟩=M (N ab u.id):=by rw[E];simp
 have k1:W.cell? ⟨↑w,1,Z⟩=M (N ab u.time):=by rw[E];simp
 have k2:W.cell? ⟨↑w,2,Z⟩=M vt:=by rw[E];simp
 have k3:W.cell? ⟨↑w,3,Z⟩=M vl:=by rw[E];simp
 have c1:=λW'=>ng u.time (t+1) (t+24) W';have R:=FY u vt vl W (h.below J).1 (h.below J).2.1 h.2.2.1 h.2.2.2;unfold Ku at R;obtain⟨ta,tc,rfl⟩:=Rd.slice h.1;obtain⟨la,lc,rfl⟩:=Rd.slice h.2.1;obtain⟨b1,I⟩:∃b,(decide (t+1<=u.time)&&decide (u.time<=t+24))=b:=⟨_,rfl⟩
 obtain⟨b2,z⟩:∃b,Dv.small u=b:=⟨_,rfl⟩
 unfold mY;rw[I]at c1⊢;rw[z]at R⊢;have C1:cH _:=c1;have C2:cH _:=λ(_:Unit)=>R;have Y:cH _:=J;obtain⟨ac,aa⟩:=ht;clear c1 R J I z h;go_enter (fq Tryz.func40 rfl),Tryz.ntmps40;go_upto_region 1 with fail;rw[<-E];clear E;cases b1
 .go_wp2_with (go_at_call 35;refine aT (C1.out _) ?_;rintro e w2 ⟨rfl,rfl⟩)
  go_ret;exact⟨rfl,Y.out⟩
 .go_wp2_with (first|(go_at_call 35;refine aT (C1.out _) ?_;rintro e w2 ⟨rfl,rfl⟩)|(go_at_call 36;refine aT (C2.out ()) ?_;rintro e w2 ⟨rfl,z⟩)|fail)
  go_ret;exact⟨by cases b2<;>rfl,Y.out.trans (z.mono Y.out.size)⟩
open Dv (X2)
section
variable {s:List UInt8}{i:Im.It}
def XO(h:Im.dec s=M i):Im.dp 9 i/\Im.wt 9 i<=2*s.length:=by
 unfold Im.dec at h;cases z:Im.read Im.body 8 s with
 |none=>rw[z]at h;cases h
 |some x=>
  obtain⟨j,n⟩:=x;rw[z]at h;simp only at h;split at h
  .cases h;rename_i E;have:=Im.aaC Im.oZ 8 z;rw[E]at this;exact this
  .cases h
def XH(h:Im.dec s=M i):i.kids.length<=2*s.length:=by obtain⟨z,h2⟩:=XO h;have:=Im.QZ z;omega
def Qv{k:Im.It}(h:Im.dec s=M i)(hk:k∈i.kids):k.kids.length<=2*s.length:=by obtain⟨z,h2⟩:=XO h;have h3:=Im.adT (n:=8) hk;have h4:=Im.QZ (n:=8) (z k hk);have E:Im.wt (8+1) i=Im.wt 9 i:=rfl;omega
def FI:Option (List (List UInt8))->Bool
 |some [a,b]=>decide (0<a.length)&&decide (a.length<=8)&&decide (b.length<=64)
 |_=>aL
def XC(s:List UInt8):Dv.isDep s=FI ((Im.dec s).bind strs):=by
 unfold Dv.isDep;cases Im.dec s with
 |none=>rfl
 |some i=>
  obtain⟨E,R,J⟩:=i;simp only[gX];unfold strs;cases E
  .rfl
  .match J with
   |[]=>rfl
   |[a]=>cases z:a.list<;>simp[FI,z]
   |[a,b]=>
    cases z:a.list<;>cases I:b.list<;>simp[FI,z,I]
    congr 1
    .congr 1
     exact decide_eq_decide.2 aA
    .exact decide_eq_decide.2 aA
   |a::b::c::r=>
    simp only;split<;>simp[FI]
def Fe(s:ByteArray)(w:U)(hs:s.size<=16777216)(hH:lJ w):dE PQ 97 #[bB s] w λe w'=>e=bO (.bool (Dv.isDep s.data.toList))/\Below ↑w w w':=by
 rw[XC];have aj:=Z0 (show True from trivial);have I:=decode_any s w hs hH;cases hd:Im.dec s.data.toList with
 |none=>
  rw[hd]at I;have aa:cH _:=λ(_:Unit)=>I;have Hb:cH _:=λW o=>(aJ _ W).alloc jB o;clear I hd aj;go_enter (fq Tryz.func97 rfl),Tryz.ntmps97;go_wp2_with (go_at_call 124;refine aT (aa.out ()) ?_;rintro e w2 ⟨he,ac⟩;unfold Il at he;subst he)
  go_ret;exact⟨rfl,ac.alloc ac.size _⟩
 |some i=>
  rw[hd]at I;have hk:=XH hd;rw[<-bD]at hk;simp only[gX];obtain⟨R,hR⟩:∃R,strs i=R:=⟨_,rfl⟩
  rw[hR];have aa:cH _:=λ(_:Unit)=>I;obtain⟨D,hD⟩:∃D:ByteArray,(⟨i.bytes.toArray⟩:ByteArray)=D:=⟨_,rfl⟩
  obtain⟨li,ag⟩:∃li,i.list=li:=⟨_,rfl⟩
  obtain⟨nk,af⟩:∃nk,i.kids.length=nk:=⟨_,rfl⟩
  have H:cH _:=jy hR (jy hD (jy ag (jy af hk)));clear I hd aj hR hD ag af hk;go_enter (fq Tryz.func97 rfl),Tryz.ntmps97;go_upto_region 2 with(go_at_call 124;refine aT (aa.out ()) ?_;rintro e w2 ⟨he,ac⟩;obtain⟨a,cap,he,ht⟩:=he;rw[H.out.2.1,H.out.2.2.1,H.out.2.2.2.1]at he;subst he;have HT:cH (Tr _ _ _ _ _ _ _ _):=ht;clear ht)
  obtain⟨W,hW,ah,-⟩:=jD w2 #[.bool li,bB D,.slice a nk cap] 164;have z0:W.cell? ⟨↑w2,0,Z⟩=M (.bool li):=by rw[hW];simp
  have z1:W.cell? ⟨↑w2,1,Z⟩=M (bB D):=by rw[hW];simp
  have z2:W.cell? ⟨↑w2,2,Z⟩=M (.slice a nk cap):=by rw[hW];simp
  rw[<-hW];obtain⟨hR,hD,ag,af,hk⟩:=H.out;have ap:=In.below (ah) _ _ _ _ _ (Tr.inn 9 _ _ _ _ _ _ jB HT.out);have ae:=vN 7 i W ah.size ap aA;rw[hD,ag,af,hR]at ae;have J:cH _:=λ(_:Unit)=>ae;have HB:cH _:=ac.trans (ah.mono ac.size);clear hR hD ag af hk ap ae ah hW ac H;cases R with
  |none=>
   go_wp2_with (go_at_call 126;refine aT (J.out ()) ?_;rintro e w3 ⟨he,E⟩;unfold Strs at he;subst he)
   go_ret;exact⟨rfl,HB.out.trans (E.mono HB.out.size)⟩
  |some l=>
   by_cases ak:l.length=2
   .obtain⟨x,y,rfl⟩:∃x y,l=[x,y]:=by
     match l,ak with
     |[x,y],_=>exact⟨x,y,rfl⟩
    obtain⟨Wd,hX⟩:∃Wd:ByteArray,(⟨x.toArray⟩:ByteArray)=Wd:=⟨_,rfl⟩
    obtain⟨Y,hY⟩:∃Y:ByteArray,(⟨y.toArray⟩:ByteArray)=Y:=⟨_,rfl⟩
    have ar:Wd.size=x.length:=by rw[<-hX];rfl
    have aq:Y.size=y.length:=by rw[<-hY];rfl
    have am:FI (M [x,y])=(decide (0<Wd.size)&&decide (Wd.size<=8)&&decide (Y.size<=64)):=by rw[ar,aq];rfl
    have ai:=Fr.toList_empty Wd;have HX:cH _:=jy hX hY;have Hr:cH _:=am;clear hX hY ar aq am;by_cases h0:Wd.size=0
    .have an:Wd.toList.isEmpty=aR:=by rw[ai];exact Z0 h0
     clear ai;go_wp2_with (go_at_call 126;refine aT (J.out ()) ?_;rintro e w3 ⟨⟨ra,rc,rfl,z⟩,E⟩;obtain⟨g,off,ao,hv,_⟩:=z.1.pos aC;(simp only[dT,true_and]at hv);obtain⟨rfl,rfl⟩:=hv;have k0:w3.cell? ⟨g,off,Z⟩=M (bB Wd):=(by have:=z.1.cell rfl 0 (bB Wd) (by unfold nT;rw[<-HX.out.1];rfl);simpa using this);have k1:=(z.1.cell rfl 1 (bB Y) (by unfold nT;rw[<-HX.out.2];rfl));have H3:cH _:=E;clear E z)
     go_ret;refine⟨?_,HB.out.trans (H3.out.mono HB.out.size)⟩;rw[Hr.out,ZZ (show ¬0<Wd.size by omega)];rfl
    .have an:Wd.toList.isEmpty=aL:=by rw[ai];exact ZZ h0
     clear ai;by_cases h8:Wd.size<=8
     .have au:(Wd.size:Int)<=8:=by omega
      go_wp2_with (go_at_call 126;refine aT (J.out ()) ?_;rintro e w3 ⟨⟨ra,rc,rfl,z⟩,E⟩;obtain⟨g,off,ao,hv,_⟩:=z.1.pos aC;(simp only[dT,true_and]at hv);obtain⟨rfl,rfl⟩:=hv;have k0:w3.cell? ⟨g,off,Z⟩=M (bB Wd):=(by have:=z.1.cell rfl 0 (bB Wd) (by unfold nT;rw[<-HX.out.1];rfl);simpa using this);have k1:=(z.1.cell rfl 1 (bB Y) (by unfold nT;rw[<-HX.out.2];rfl));have H3:cH _:=E;clear E z)
      go_ret;refine⟨?_,HB.out.trans (H3.out.mono HB.out.size)⟩;rw[Hr.out,Z0 (show 0<Wd.size by omega),Z0 h8];have:decide ((Y.size:Int)<=64)=decide (Y.size<=64):=decide_eq_decide.2 aA
      show Ending.returned (cK (decide ((Y.size:Int)<=64)))=_
      rw[this];rfl
     .have au:¬(Wd.size:Int)<=8:=by omega
      go_wp2_with (go_at_call 126;refine aT (J.out ()) ?_;rintro e w3 ⟨⟨ra,rc,rfl,z⟩,E⟩;obtain⟨g,off,ao,hv,_⟩:=z.1.pos aC;(simp only[dT,true_and]at hv);obtain⟨rfl,rfl⟩:=hv;have k0:w3.cell? ⟨g,off,Z⟩=M (bB Wd):=(by have:=z.1.cell rfl 0 (bB Wd) (by unfold nT;rw[<-HX.out.1];rfl);simpa using this);have k1:=(z.1.cell rfl 1 (bB Y) (by unfold nT;rw[<-HX.out.2];rfl));have H3:cH _:=E;clear E z)
      go_ret;refine⟨?_,HB.out.trans (H3.out.mono HB.out.size)⟩;rw[Hr.out,Z0 (show 0<Wd.size by omega),ZZ h8];rfl
   .have hr:FI (M l)=aL:=by
     match l,ak with
     |[],_=>rfl
     |[_],_=>rfl
     |_::_::_::_,_=>rfl
    have Hr:cH _:=hr;obtain⟨n,hn⟩:∃n,l.length=n:=⟨_,rfl⟩
    have av:((n:Int) == 2)=aL:=ZS aA;have Hn:cH _:=hn;clear hr ak hn;go_wp2_with (go_at_call 126;refine aT (J.out ()) ?_;rintro e w3 ⟨⟨ra,rc,he,z⟩,E⟩;rw[Hn.out]at he;subst he;have H3:cH _:=E;clear E z)
    go_ret;exact⟨by rw[Hr.out];rfl,HB.out.trans (H3.out.mono HB.out.size)⟩
def Bo{v:X}{l:List (List UInt8)}(w:U)(h:qH w v l)(hl:l.length<=4294967296)(hs:∀x,x∈l->x.length<=16777216)(hH:lJ w):dE PQ 66 #[v] w λe w'=>∃a cap,e=bO (.slice a (l.filter Dv.isDep).length cap)/\Made w' ↑w (.slice a (l.filter Dv.isDep).length cap) (l.filter Dv.isDep)/\Below ↑w w w':=by
 obtain⟨a,cap,rfl⟩:=Rd.slice h;obtain⟨i0,ap,ak,ar,an⟩:=pa BP;have Hi:cH _:=jy ap (jy ak (jy ar an));have H:cH _:=jy h (jy hs hH);have h0:=hH.pos;clear h hs ap ak ar an hH;go_enter (fq Tryz.func66 rfl),Tryz.ntmps66;go_wp2_with fail;go_loopg [3,5,8] l.length (λgg v3 _ v8 wx=>∃(k m:Nat)(ra:Option eM)(rc:Nat),k<=l.length/\v8=N ab k/\v3=.slice ra m rc/\m<=k/\gg=l.length-k/\cH (m=((l.take k).filter Dv.isDep).length/\Made wx ↑w (.slice ra m rc) ((l.take k).filter Dv.isDep)/\Below ↑w w wx))
 case atStart=>exact⟨0,0,Z,0,dL _,rfl,rfl,jB,rfl,rfl,⟨Row.nil _ _ _,by simp[cV]⟩,aJ _ _⟩
 case round=>
  obtain⟨k,m,ra,rc,hk,rfl,rfl,a2,rfl,J⟩:=hrel;by_cases ay:k<l.length
  .have aq:(k:Int)<l.length:=by omega
   obtain⟨x,hx⟩:∃x,l[k]? =M x:=⟨_,aO ay⟩
   obtain⟨g,off,a0,hv,_⟩:=Rd.pos H.out.1 aA;simp only[dT,true_and]at hv;obtain⟨rfl,rfl⟩:=hv;have k0:=qH.get (Rd.below H.out.1 J.out.2.2) hx;obtain⟨Wd,hX⟩:∃Wd:ByteArray,(⟨x.toArray⟩:ByteArray)=Wd:=⟨_,rfl⟩
   have am:Wd.data.toList=x:=by rw[<-hX]
   have ai:Wd.size<=16777216:=by rw[<-hX];exact H.out.2.1 x (aX hx)
   rw[hX]at k0;have E:=Fe Wd wr ai (H.out.2.2.below J.out.2.2 h0);rw[am]at E;obtain⟨b,hb⟩:∃b,Dv.isDep x=b:=⟨_,rfl⟩
   rw[hb]at E
   have Y:l.take (k+1)=l.take k++[x]:=by
    obtain⟨au,rfl⟩:=aN.1 hx;exact eY au
   have aa:cH _:=λ(_:Unit)=>E;have af:cH _:=λV=>Fr.clone_any Wd V ai;have HX:cH _:=jy hX (jy hb Y);have ae:=λV (hV:Below _ wr V)=>J.out.2.1.1.below hV;rw[<-J.out.1]at ae;have aj:cH _:=ae;clear E hX am ai hb Y hx ae;cases b
   .go_wp2_with (go_at_call 97;refine aT (aa.out ()) ?_;rintro e w2 ⟨rfl,ac⟩)
    go_roundg (l.length-(k+1))
    case measure=>omega
    case rel=>
     obtain⟨hX,hb,Y⟩:=HX.out;have hf:(l.take (k+1)).filter Dv.isDep=(l.take k).filter Dv.isDep:=by rw[Y,iG,eG,Zs (by rw[hb];simp),oA,gI]
     refine⟨_,m,ra,rc,aA,by go_num,rfl,aA,rfl,?_,?_,J.out.2.2.trans (ac.mono J.out.2.2.size)⟩
     .rw[hf];exact J.out.1
     .rw[hf];exact⟨J.out.2.1.1.below ac,J.out.2.1.2⟩
   .go_wp2_with (first|(go_at_call 97;refine aT (aa.out ()) ?_;rintro e w2 ⟨rfl,ac⟩)|(go_at_call 92;refine aT (af.out _) ?_;rintro e w3 ⟨rfl,az⟩;have ag:=ac.trans (az.mono ac.size);have R:cH _:=ag;clear ag)|(at_builtin;refine kX _ rfl (.tmp 14) (.tmp 17) 26 rfl 9 i0 _ 1 16 (uq py) Hi.out.1 Hi.out.2.1 Hi.out.2.2.1 Hi.out.2.2.2 rfl aB _ m _ rfl (aj.out _ (R.out.alloc R.out.size _)) _ 1 1 [bB Wd] rfl aB rfl (by intro j u hj;match j,hj with|0,hj=>(simp at hj;subst hj;simp[jp])) (by intro u hu;simp at hu;subst hu;rfl) (by unfold maxLen;omega) aA ?_;intro g5 a1 ao w5 I z;have av:cH _:=jy I z;clear I z)|go_in)
    go_roundg (l.length-(k+1))
    case measure=>omega
    case rel=>
     obtain⟨hX,hb,Y⟩:=HX.out;obtain⟨I,z⟩:=av.out;have hf:(l.take (k+1)).filter Dv.isDep=(l.take k).filter Dv.isDep++[x]:=by rw[Y,iG,eG,ZD hb,oA]
     have ah:Below ↑w w (w3.alloc (aG #[bB Wd] 9)):=J.out.2.2.trans ((R.out.alloc R.out.size _).mono J.out.2.2.size)
     have aw:↑w<=g5:=by
      obtain e|e:=z.own
      .exact J.out.2.1.2 g5 e
      .exact bH ah.size e
     refine⟨_,_,_,ao,aA,by go_num,rfl,aA,rfl,?_,⟨?_,?_⟩,?_⟩
     .rw[hf,aS,<-J.out.1];rfl
     .rw[hf,aS,<-J.out.1,bJ];have:[x].map nT=[bB Wd]:=by unfold nT;rw[<-hX];rfl
      rw[this];exact I
     .intro q hq;have:M g5=M q:=hq;cases this;exact aw
     .refine ah.trans ⟨z.jM.os,z.jM.tape,z.jM.output,z.jM.size,λq hq=>z.jM.block q (aP hq ah.size) (λe=>?_)⟩;have:=J.out.2.1.2 q e;omega
  .have aq:¬(k:Int)<l.length:=by omega
   obtain rfl:k=l.length:=aA
   go_wp2_with fail;go_ret;obtain⟨q1,q2,q3⟩:=J.out;rw[iJ]at q1 q2;subst q1;exact⟨ra,rc,rfl,q2,q3⟩
end
open Fr (below_drewN)
open Dv (X2 Cf)
def Et{w:U}{b:Nat}{x y z:X}{g:Nat}(h:g≠b):(((w.setCell ⟨b,0,Z⟩ x).setCell ⟨b,1,Z⟩ y).setCell ⟨b,2,Z⟩ z).heap[g]? =w.heap[g]?:=by rw[aW _ _ _ _ h,aW _ _ _ _ h,aW _ _ _ _ h]
def MB(u:X2){vt vl:X}(w:U)(h:kW w u vt vl)(hs:∀x,x∈u.logs->x.length<=16777216)(hH:lJ w):dE PQ 48 #[Ku u vt vl] w λe w'=>∃a cap,e=bO (fX #[N ab u.id,N ab u.time,.slice a (Dv.jR u).length cap])/\Made w' ↑w (.slice a (Dv.jR u).length cap) (Dv.jR u)/\Below ↑w w w':=by
 unfold Ku Dv.jR;obtain⟨ta,tc,rfl⟩:=Rd.slice h.1;obtain⟨la,lc,rfl⟩:=Rd.slice h.2.1;obtain⟨W,R⟩:∃W,W=(w.alloc (aG #[N ab u.id,N ab u.time,.slice ta u.txs.length tc,.slice la u.logs.length lc] 28)).alloc (aG #[N ab 0,N ab 0,aH Z 0 0] 102):=⟨_,rfl⟩
 have E:Below ↑w w W:=by rw[R];exact((aJ _ w).alloc jB _).alloc aC _
 have aa:↑W=w.heap.size+2:=by rw[R];simp
 have zo:W.heap[w.heap.size]? =M (aG #[N ab u.id,N ab u.time,.slice ta u.txs.length tc,.slice la u.logs.length lc] 28 (0,0)):=by
  rw[R];exact(aZ _ _ _ aC).trans (cT _ _)
 have ro:W.heap[w.heap.size+1]? =M (aG #[N ab 0,N ab 0,aH Z 0 0] 102 (0,0)):=by
  rw[R];have:=cT (w.alloc (aG #[N ab u.id,N ab u.time,.slice ta u.txs.length tc,.slice la u.logs.length lc] 28)) (aG #[N ab 0,N ab 0,aH Z 0 0] 102);simp only[fB]at this;exact this
 obtain⟨z0,z1,-,z3⟩:=cells4 zo
 have z:=λV hV=>(Bo V (Rd.below (Rd.below h.2.1 E) hV) h.2.2.2 hs ((hH.below E hH.pos).below hV (by have:=hH.pos;omega))).mono
  (R':=λe w'=>∃a cap,e=bO (.slice a (u.logs.filter Dv.isDep).length cap)/\w'.cell? ⟨↑w,0,Z⟩=M (N ab u.id)/\w'.cell? ⟨↑w,1,Z⟩=M (N ab u.time)/\w'.cell? ⟨w.heap.size+1,0,Z⟩=M (N ab 0)/\w'.cell? ⟨w.heap.size+1,1,Z⟩=M (N ab 0)/\w'.cell? ⟨w.heap.size+1,2,Z⟩=M (aH Z 0 0)/\(∀q,w'.frozen? ⟨w.heap.size+1,q,Z⟩=aL)/\cH (Made w' ↑W (.slice a (u.logs.filter Dv.isDep).length cap) (u.logs.filter Dv.isDep)/\Below ↑W W w'/\w'.heap[w.heap.size+1]? =M (aG #[N ab 0,N ab 0,aH Z 0 0] 102 (0,0))))
  (λe w' ⟨a,cap,p1,p2,p3⟩=>by
   have q3:=hV.trans (p3.mono hV.size);have qz:w'.heap[w.heap.size]? =_:=(q3.block _ aA).trans zo;have qr:w'.heap[w.heap.size+1]? =_:=(q3.block _ aA).trans ro;refine⟨a,cap,p1,by rw[aI qz];rfl,by rw[aI qz];rfl,by rw[aI qr];rfl,by rw[aI qr];rfl,by rw[aI qr];rfl,aQ qr,⟨p2.1,λg Y=>bH hV.size (p2.2 g Y)⟩,q3,qr⟩)
 have I:cH _:=z;have Hb:cH _:=E;have J:=aJ ↑W W;clear z h hs hH E zo ro;go_enter (fq Tryz.func48 rfl),Tryz.ntmps48;go_upto_region 1 with fail;rw[<-R];clear R;go_region_with (go_at_call 66;(refine aT (I.out _ ?_) ?_;(first|exact J|exact J.drew|exact below_drewN J _);rintro e w5 ⟨ra,rc,rfl,f0,f1,r0,r1,r2,rz,H5⟩))
 all_goals
  go_wp2_with fail;obtain⟨p1,p2,p3⟩:=H5.out;refine cM (v:=.agg _) (by simp[results,Tryz.results48,go_sem,r0,r1,r2]) rfl ⟨ra,rc,rfl,?_,?_⟩
  .exact⟨p1.1.kept (λg Y=>Et (by have:=p1.2 g Y;omega)),λg Y=>by have:=p1.2 g Y;omega⟩
  .exact Hb.out.trans ((p2.mono Hb.out.size).trans ⟨rfl,rfl,rfl,aC,λq hq=>Et aA⟩)
def jP(c:Cf)(vu:X)(nb:Nat)(vo vw:X)(cnt ep sq:Int):Array X:=#[N eA c.inbox,N eA c.batcher,N ab c.timeout,N ab c.window,N ab c.drift,N ab c.step,N ab c.most,vu,.map (M nb),vo,vw,N ab cnt,N ab ep,N ab sq]
def new_any(c:Cf)(w:U):dE PQ 30 #[.agg (jF c)] w λe w'=>e=bO (aD (M ⟨w.heap.size+2,0,Z⟩))/\w'=((w.alloc (aG (jF c) 24)).alloc (.map #[] 0)).alloc (aG (jP c (aH Z 0 0) (w.heap.size+1) (aH Z 0 0) (aH Z 0 0) 0 0 0) 100):=by unfold jF jP;go_enter (fq Tryz.func30 rfl),Tryz.ntmps30;have z:=@run_makeMap PQ;go_wp2_with fail;go_ret;exact⟨rfl,rfl⟩
open Dv (X2 Cf Ba)
section
variable {w:U}{kb cnt ep e:Nat}
abbrev PB:=Int×Int×X
variable {us:List PB}
def qE(p:PB):List X:=[N ab p.1,N ab p.2.1,p.2.2]
structure Look(w:U)(kb:Nat)(c:Cf)(us:List PB)(cnt ep:Nat):Prop where
 obj:∃vu nb vo vw sq,w.heap[kb]? =M (aG (jP c vu nb vo vw cnt ep sq) 100 (0,0))/\Rd w 3 vu us.length (us.flatMap qE)
 times:∀p,p∈us->0<=p.2.1/\p.2.1<=4294967296
 step:0<=c.step/\c.step<=20
 drift:0<=c.drift/\c.drift<=100
 window:0<=c.window/\c.window<=8
 cnt:cnt<=4294967296
 len:us.length<=4294967296
def Look.below{w':U}{c:Cf}(h:Look w kb c us cnt ep)(E:Below ↑w w w'):Look w' kb c us cnt ep:=by obtain⟨vu,nb,vo,vw,sq,z,h2⟩:=h.obj;exact⟨⟨vu,nb,vo,vw,sq,(E.block _ (jE z)).trans z,h2.below E⟩,h.times,h.step,h.drift,h.window,h.cnt,h.len⟩
def Look.drewN{c:Cf}(h:Look w kb c us cnt ep)(m:Nat):Look (w.drewN m) kb c us cnt ep:=h.below (below_drewN (aJ _ _) _)
def lW(c:Cf)(us:List PB)(cnt:Nat):Int:=(us.getD 0 (0,0,.nilFunc)).2.1+cnt*c.step
def Ej(kb:Nat)(c:Cf)(us:List PB)(cnt ep:Nat)(w:U)(h:Look w kb c us cnt ep)(R:0<us.length):dE PQ 127 #[aD (M ⟨kb,0,Z⟩)] w λe w'=>e=bO (N ab (lW c us cnt))/\∃m,w'=w.drewN m:=by
 obtain⟨vu,nb,vo,vw,sq,ho,I⟩:=h.obj;obtain⟨g,off,cap,rfl,ac,hg,hx⟩:=I.pos R;obtain⟨p,hp⟩:∃p,us[0]? =M p:=⟨_,aO R⟩
 have k1:w.cell? ⟨g,off+1,Z⟩=M (N ab p.2.1):=by
  have:=Rd.rec qE 3 (λ_=>rfl) I hp (i:=1) (u:=.int _ _) aA rfl;simpa using this
 have c7:w.cell? ⟨kb,7,Z⟩=M (aH (M ⟨g,off,Z⟩) us.length cap):=mZ ho rfl;have c5:w.cell? ⟨kb,5,Z⟩=M (N ab c.step):=mZ ho rfl;have c11:w.cell? ⟨kb,11,Z⟩=M (N ab cnt):=mZ ho rfl;have Y:(0:Int)<(us.length:Int):=aA
 have ht:lW c us cnt=p.2.1+cnt*c.step:=by
  unfold lW;rw[aY,hp];rfl
 rw[ht];obtain⟨t1,t2⟩:=h.times p (aX hp);obtain⟨s1,s2⟩:=h.step;have hc:=h.cnt;obtain⟨z,E⟩:∃x,c.step=x:=⟨_,rfl⟩
 rw[E]at s1 s2 c5⊢;have m1:0<=(cnt:Int)*z:=Int.mul_nonneg aA s1
 have m2:(cnt:Int)*z<=85899345920:=by
  have h1:(cnt:Int)*z<=4294967296*z:=Int.mul_le_mul_of_nonneg_right aA s1;omega
 obtain⟨tp,J⟩:∃x,p.2.1=x:=⟨_,rfl⟩
 rw[J]at t1 t2 k1⊢;have ae:IntKind.i64.wrap ((cnt:Int)*z)=(cnt:Int)*z:=by rw[eT];omega
 have aa:IntKind.i64.wrap (tp+(cnt:Int)*z)=tp+(cnt:Int)*z:=by rw[eT];omega
 clear h ho I hx hp ht;go_enter (fq Tryz.func127 rfl),Tryz.ntmps127;go_upto_region 1 with fail;go_quiet (fail);go_wp2_with fail;go_ret;exact⟨rfl,_,rfl⟩
def Ag(us:List PB)(e:Nat):Int:=(us.getD e (0,0,.nilFunc)).2.1
def FQ(us:List PB)(e:Nat):Int:=(us.getD e (0,0,.nilFunc)).1
def uT{p:PB}(h:us[e]? =M p):Ag us e=p.2.1:=by unfold Ag;rw[aY,h];rfl
def Hu{p:PB}(h:us[e]? =M p):FQ us e=p.1:=by unfold FQ;rw[aY,h];rfl
def wQ(kb:Nat)(c:Cf)(us:List PB)(cnt ep:Nat)(w:U)(h:Look w kb c us cnt ep)(E:0<us.length):dE PQ 87 #[aD (M ⟨kb,0,Z⟩)] w λe w'=>e=bO (N ab ((us.length-1:Nat):Int))/\∃m,w'=w.drewN m:=by
 obtain⟨vu,nb,vo,vw,sq,ho,z⟩:=h.obj;obtain⟨g,off,cap,rfl,J,hg,R⟩:=z.pos E;have c7:w.cell? ⟨kb,7,Z⟩=M (aH (M ⟨g,off,Z⟩) us.length cap):=mZ ho rfl;have I:=h.len;obtain⟨n,Y⟩:∃n,us.length=n+1:=⟨us.length-1,aA⟩
 rw[Y]at c7 I⊢;clear h ho z R;go_enter (fq Tryz.func87 rfl),Tryz.ntmps87;go_wp2_with fail;go_ret;refine⟨?_,0,rfl⟩;simp
def JD(kb:Nat)(c:Cf)(us:List PB)(cnt ep:Nat)(e:Nat)(t:Int)(w:U)(h:Look w kb c us cnt ep)(he:e<us.length):dE PQ 143 #[aD (M ⟨kb,0,Z⟩),N ab e,N ab t] w λx w'=>x=bO (cK (decide (Ag us e+c.drift<t)))/\∃m,w'=w.drewN m:=by
 obtain⟨vu,nb,vo,vw,sq,ho,z⟩:=h.obj;obtain⟨g,off,cap,rfl,ac,hg,hx⟩:=z.pos aA;obtain⟨p,hp⟩:∃p,us[e]? =M p:=⟨_,aO he⟩
 have k1:w.cell? ⟨g,off+e*3+1,Z⟩=M (N ab p.2.1):=by
  have:=Rd.rec qE 3 (λ_=>rfl) z hp (i:=1) (u:=.int _ _) aA rfl;rw[<-dV]at this;exact this
 have c7:w.cell? ⟨kb,7,Z⟩=M (aH (M ⟨g,off,Z⟩) us.length cap):=mZ ho rfl;have c4:w.cell? ⟨kb,4,Z⟩=M (N ab c.drift):=mZ ho rfl;have Y:(e:Int)<us.length:=aA
 rw[uT hp];obtain⟨t1,t2⟩:=h.times p (aX hp);obtain⟨s1,s2⟩:=h.drift;obtain⟨E,R⟩:∃x,c.drift=x:=⟨_,rfl⟩
 rw[R]at s1 s2 c4⊢;obtain⟨I,J⟩:∃x,p.2.1=x:=⟨_,rfl⟩
 rw[J]at t1 t2 k1⊢;have aa:IntKind.i64.wrap (I+E)=I+E:=by rw[eT];omega
 obtain⟨r,z⟩:∃r,decide (I+E<t)=r:=⟨_,rfl⟩
 rw[z];have Hr:cH _:=z;clear h ho hx hp z;go_enter (fq Tryz.func143 rfl),Tryz.ntmps143;go_upto_region 1 with fail;go_quiet (fail);go_wp2_with fail;go_ret;exact⟨by rw[<-Hr.out];rfl,_,rfl⟩
def P9(b:Ba)(v:X):X:=fX #[N ab b.epoch,N ab b.id,N ab b.time,v,N ab b.place]
def waits(c:Cf)(us:List PB)(ep:Nat)(t:Int)(b:Ba)(k:Nat):Bool:=if ep+1<=us.length-1 then aL else(b.epoch == ep+1 || (k == 0&&decide (Ag us ep+c.drift<t)))
def Ik(kb:Nat)(c:Cf)(us:List PB)(cnt ep:Nat)(t:Int)(b:Ba)(va:Option eM)(k vc:Nat)(w:U)(h:Look w kb c us cnt ep)(ao:ep<us.length):dE PQ 142 #[aD (M ⟨kb,0,Z⟩),P9 b (.slice va k vc),N ab t] w λx w'=>x=bO (.bool (waits c us ep t b k))/\Below ↑w w w':=by
 unfold P9;obtain⟨W,hW,ac,-⟩:=jD w #[N ab b.epoch,N ab b.id,N ab b.time,.slice va k vc,N ab b.place] 118;have z0:W.cell? ⟨↑w,0,Z⟩=M (N ab b.epoch):=by rw[hW];simp
 have z3:W.cell? ⟨↑w,3,Z⟩=M (.slice va k vc):=by rw[hW];simp
 have J:=h.below ac;obtain⟨vu,nb,vo,vw,sq,ho,_⟩:=J.obj;have af:W.cell? ⟨kb,12,Z⟩=M (N ab ep):=mZ ho rfl;have E:=λm=>wQ kb c us cnt ep _ (J.drewN m) aA;have z:=λV hV=>JD kb c us cnt ep ep t V (J.below hV) ao;obtain⟨n,hn⟩:∃n,us.length-1=n:=⟨_,rfl⟩
 obtain⟨q,hq⟩:∃q,decide (Ag us ep+c.drift<t)=q:=⟨_,rfl⟩
 obtain⟨r,hr⟩:∃r,waits c us ep t b k=r:=⟨_,rfl⟩
 have I:=hr;unfold waits at I;rw[hq,hn]at I;rw[hn]at E;rw[hq]at z;rw[hr];have hl:=h.len;have ag:cH _:=E;have aa:cH _:=z;have H:cH _:=jy I ac;clear h J ho E z hr I hq ac;go_enter (fq Tryz.func142 rfl),Tryz.ntmps142;go_upto_region 1 with fail;rw[<-hW];clear hW;go_quiet ((go_at_call 87;exact Calls.quiet_of (ag.out _)));by_cases h1:ep+1<=n
 .have am:(ep:Int)+1<=(n:Int):=by omega
  go_wp2_with fail;go_ret;refine⟨?_,H.out.2.trans (below_drewN (aJ _ _) _)⟩;rw[<-H.out.1,ZD h1];rfl
 .have am:¬(ep:Int)+1<=(n:Int):=by omega
  go_upto_region 3 with fail;generalize hV:oF _ _=V;have ah:Below W.heap.size W V:=by rw[<-hV];exact below_drewN (aJ _ _) _
  have y0:V.cell? ⟨↑w,0,Z⟩=M (N ab b.epoch):=by rw[<-hV];exact z0
  have y3:V.cell? ⟨↑w,3,Z⟩=M (.slice va k vc):=by rw[<-hV];exact z3
  have ap:V.cell? ⟨kb,12,Z⟩=M (N ab ep):=by rw[<-hV];exact af
  have ai:=λm=>aa.out _ (below_drewN ah m);have aj:cH _:=ai;have Y:=H.out.2.trans (ah.mono H.out.2.size);clear hV z0 z3 af ai;have ae:=H.out.1;rw[Zs h1]at ae;have R:cH _:=ae;clear ae;by_cases h2:b.epoch=ep+1
  .have ak:((b.epoch:Int) == (ep:Int)+1)=aR:=by rw[h2];simp
   have H2:cH _:=h2;clear h2;go_quiet (fail);go_wp2_with fail;go_ret;refine⟨?_,Y.trans ⟨rfl,rfl,rfl,jB,λ_ _=>rfl⟩⟩;rw[<-R.out,H2.out];simp
  .have ak:((b.epoch:Int) == (ep:Int)+1)=aL:=ZS aA;have H2:cH _:=h2;clear h2;by_cases h3:k=0
   .have an:((k:Int) == 0)=aR:=by rw[h3];rfl
    have H3:cH _:=h3;clear h3;go_quiet ((go_at_call 143;exact Calls.quiet_of (aj.out _)));go_wp2_with fail;go_ret;refine⟨?_,Y.trans ⟨rfl,rfl,rfl,jB,λ_ _=>rfl⟩⟩;rw[<-R.out,ZS H2.out,H3.out];simp
   .have an:((k:Int) == 0)=aL:=ZS aA;have H3:cH _:=h3;clear h3;go_quiet (fail);go_wp2_with fail;go_ret;refine⟨?_,Y.trans ⟨rfl,rfl,rfl,jB,λ_ _=>rfl⟩⟩;rw[<-R.out,ZS H2.out,ZS H3.out];simp
def allows(us:List PB)(ep:Nat)(t:Int)(b:Ba)(k:Nat):Bool:=k == 0&&(b.epoch != ep || decide (t<Ag us (ep+1)))
def Ap(kb:Nat)(c:Cf)(us:List PB)(cnt ep:Nat)(t:Int)(b:Ba)(va:Option eM)(k vc:Nat){w:U}(h:Look w kb c us cnt ep)(Y:k=0->b.epoch=ep->ep+1<us.length):dE PQ 144 #[aD (M ⟨kb,0,Z⟩),P9 b (.slice va k vc),N ab t] w λx w'=>x=bO (.bool (allows us ep t b k))/\Below ↑w w w':=by
 unfold P9;obtain⟨W,hW,E,-⟩:=jD w #[N ab b.epoch,N ab b.id,N ab b.time,.slice va k vc,N ab b.place] 118;have z0:W.cell? ⟨↑w,0,Z⟩=M (N ab b.epoch):=by rw[hW];simp
 have z3:W.cell? ⟨↑w,3,Z⟩=M (.slice va k vc):=by rw[hW];simp
 have aa:=h.below E;obtain⟨vu,nb,vo,vw,sq,ho,hr⟩:=aa.obj;have ah:W.cell? ⟨kb,12,Z⟩=M (N ab ep):=mZ ho rfl;have c7:W.cell? ⟨kb,7,Z⟩=M vu:=mZ ho rfl;obtain⟨r,z⟩:∃r,allows us ep t b k=r:=⟨_,rfl⟩
 rw[z];unfold allows at z;have H:cH _:=jy z (jy E (jy hr Y));have hl:=h.len;clear h aa ho z E hr Y;go_enter (fq Tryz.func144 rfl),Tryz.ntmps144;go_upto_region 1 with fail;rw[<-hW];clear hW;by_cases h3:k=0
 .have af:((k:Int) == 0)=aR:=by rw[h3];rfl
  have J:cH _:=h3;clear h3;by_cases h2:b.epoch=ep
  .have ae:((b.epoch:Int) != (ep:Int))=aL:=by rw[h2];simp
   have ac:=H.out.2.2.2 J.out h2;obtain⟨g,off,cap,rfl,ai,hg,hx⟩:=H.out.2.2.1.pos aA;obtain⟨p,hp⟩:∃p,us[ep+1]? =M p:=⟨_,aO ac⟩
   have k1:W.cell? ⟨g,off+(ep+1)*3+1,Z⟩=M (N ab p.2.1):=by
    have:=Rd.rec qE 3 (λ_=>rfl) H.out.2.2.1 hp (i:=1) (u:=.int _ _) aA rfl;rw[<-dV]at this;exact this
   have ag:(ep:Int)+1<(us.length:Int):=aA
   have I:=uT hp;obtain⟨tp,R⟩:∃x,p.2.1=x:=⟨_,rfl⟩
   rw[R]at k1 I;have H2:cH _:=jy h2 I;clear h2 hx hp R I;go_quiet (fail);go_wp2_with fail;go_ret;refine⟨?_,H.out.2.1.trans ⟨rfl,rfl,rfl,jB,λ_ _=>rfl⟩⟩;rw[<-H.out.1,H2.out.2,J.out,H2.out.1];simp
  .have ae:((b.epoch:Int) != (ep:Int))=aR:=by
    rw[bne_iff_ne];omega
   have H2:cH _:=h2;clear h2;go_quiet (fail);go_wp2_with fail;go_ret;refine⟨?_,H.out.2.1.trans ⟨rfl,rfl,rfl,jB,λ_ _=>rfl⟩⟩;rw[<-H.out.1,J.out,bne_iff_ne.2 H2.out];simp
 .have af:((k:Int) == 0)=aL:=ZS aA;have J:cH _:=h3;clear h3;go_quiet (fail);go_wp2_with fail;go_ret;refine⟨?_,H.out.2.1.trans ⟨rfl,rfl,rfl,jB,λ_ _=>rfl⟩⟩;rw[<-H.out.1,ZS J.out];simp
end
def outside(c:Cf)(ep:Nat)(t:Int)(b:Ba):Bool:=decide ((b.time:Int)<t) || (b.epoch != ep&&b.epoch != ep+1) || decide ((b.epoch:Int)+c.window<(b.place:Int))
def RP(c:Cf)(us:List PB)(ep:Nat)(t:Int)(b:Ba)(k:Nat):Bool:=decide ((b.id:Int)≠FQ us b.epoch) || decide (t<Ag us b.epoch) || (decide (Ag us b.epoch+c.drift<t)&&!allows us ep t b k)
def verdict(c:Cf)(us:List PB)(cnt ep:Nat)(b:Ba)(k:Nat):Nat:=
 if lW c us cnt<(b.time:Int)then 0 else if outside c ep (lW c us cnt) b then 1 else if waits c us ep (lW c us cnt) b k then 2 else if RP c us ep (lW c us cnt) b k then 1 else 3
def Uh(kb:Nat)(c:Cf)(us:List PB)(cnt ep:Nat){b:Ba}(va:Option eM)(k vc:Nat)(w:U)(h:Look w kb c us cnt ep)(a9:ep<us.length)(hb:b.epoch<us.length)(bm:b.place<=4294967296)(ar:∀p,p∈us->∃a n cap,p.2.2=.slice a n cap):dE PQ 128 #[aD (M ⟨kb,0,Z⟩),P9 b (.slice va k vc)] w λx w'=>x=bO (N .u8 (verdict c us cnt ep b k:Nat))/\Below ↑w w w':=by
 unfold P9;obtain⟨W,hW,aq,zo⟩:=jD w #[N ab b.epoch,N ab b.id,N ab b.time,.slice va k vc,N ab b.place] 118;have bh:↑w<W.heap.size:=by rw[hW];simp
 have aa:=Ej kb c us cnt ep W (h.below aq) aA;obtain⟨t,ht⟩:∃t,lW c us cnt=t:=⟨_,rfl⟩
 obtain⟨r,hr⟩:∃r,verdict c us cnt ep b k=r:=⟨_,rfl⟩
 have an:=hr;unfold verdict at an;rw[ht]at an aa;rw[hr];have a1:cH _:=λ(_:Unit)=>aa;have H:cH _:=jy an (jy aq (jy zo (jy h (jy a9 (jy hb (jy bm ar))))));obtain⟨vu,nb,vo,vw,sq,ho,a8⟩:=(h.below aq).obj;obtain⟨bd,ak⟩:∃x,c.window=x:=⟨_,rfl⟩
 have bj:=h.window;rw[ak]at bj;have hl:=h.len;have HO:cH _:=jy ho (jy a8 ak);clear h aq zo aa hr an ht ho a8 ak ar;go_enter (fq Tryz.func128 rfl),Tryz.ntmps128;go_upto_region 1 with fail;rw[<-hW];clear hW;go_upto_region 2 with(first|(go_at_call 127;refine aT (a1.out ()) ?_;rintro e w2 ⟨rfl,m,rfl⟩)|go_in)
 generalize hV:oF _ _=V;have R:Below W.heap.size W V:=by rw[<-hV];exact below_drewN (aJ _ _) _
 have zV:V.heap[w.heap.size]? =_:=(R.block _ bh).trans H.out.2.2.1;have oV:V.heap[kb]? =_:=(R.block _ (jE HO.out.1)).trans HO.out.1;obtain⟨z0,z1,z2,z3,z4⟩:=cells5 zV;have c3:V.cell? ⟨kb,3,Z⟩=M (N ab bd):=by rw[aI oV,<-HO.out.2.2];rfl
 have bl:V.cell? ⟨kb,12,Z⟩=M (N ab ep):=mZ oV rfl;have ah:=H.out.2.1.trans (R.mono H.out.2.1.size);have HV:cH _:=jy R (jy zV (jy oV ah));clear hV R zV oV ah;by_cases h1:t<(b.time:Int)
 .go_wp2_with fail;go_ret;refine⟨?_,HV.out.2.2.2⟩;rw[<-H.out.1,ZD h1];rfl
 .go_upto_region 4 with fail;obtain⟨q,hq⟩:∃q,outside c ep t b=q:=⟨_,rfl⟩
  have ap:=hq;unfold outside at ap;rw[HO.out.2.2]at ap;have Hq:cH _:=jy hq ap;clear hq ap;go_cut [48] (λv wx=>v=.bool q/\∃m,wx=V.drewN m)
  case first=>
   by_cases h2:(b.time:Int)<t
   .go_quiet (fail);go_wp2_with fail;go_meet;refine⟨?_,_,rfl⟩;rw[<-Hq.out.2,Z0 h2];rfl
   .have a0:=ZZ h2;by_cases h3:b.epoch=ep
    .have bn:((b.epoch:Int) != (ep:Int))=aL:=by rw[h3];simp
     have H3:cH _:=h3;have H2:cH _:=a0;clear h3;go_quiet (fail);go_wp2_with fail;go_meet;refine⟨?_,_,rfl⟩;rw[<-Hq.out.2,H2.out];have:(b.epoch != ep)=aL:=by rw[H3.out];simp
     rw[this];simp
    .have bn:((b.epoch:Int) != (ep:Int))=aR:=by rw[bne_iff_ne];omega
     have H3:cH _:=h3;clear h3;by_cases h4:b.epoch=ep+1
     .have bo:((b.epoch:Int) != (ep:Int)+1)=aL:=by rw[h4];simp
      have H4:cH _:=h4;have H2:cH _:=a0;clear h4;go_quiet (fail);go_wp2_with fail;go_meet;refine⟨?_,_,rfl⟩;rw[<-Hq.out.2,H2.out];have:(b.epoch != ep+1)=aL:=by rw[H4.out];simp
      rw[this];simp
     .have bo:((b.epoch:Int) != (ep:Int)+1)=aR:=by rw[bne_iff_ne];omega
      have H4:cH _:=h4;have H2:cH _:=a0;clear h4;go_quiet (fail);go_wp2_with fail;go_meet;refine⟨?_,_,rfl⟩;rw[<-Hq.out.2,H2.out,bne_iff_ne.2 H3.out,bne_iff_ne.2 H4.out];rfl
  case rest=>
   obtain⟨rfl,m2,rfl⟩:=hcut;have av:=H.out.1;rw[Zs h1,Hq.out.1]at av;have aw:cH _:=av;clear av;cases q
   .generalize ba:oF _ _=V2;obtain⟨R,zV,oV,ah⟩:=HV.out;have az:Below V.heap.size V V2:=by rw[<-ba];exact below_drewN (aJ _ _) _
    have z:=ah.trans (az.mono ah.size);have z2:V2.heap[w.heap.size]? =_:=(az.block _ (jE zV)).trans zV;have af:=H.out.2.2.2.1.below z;have ao:=Ik kb c us cnt ep t b va k vc V2 af a9;obtain⟨q2,E⟩:∃q2,waits c us ep t b k=q2:=⟨_,rfl⟩
    rw[E]at ao;unfold P9 at ao;have a4:cH _:=λ(_:Unit)=>ao;obtain⟨x0,x1,x2,x3,x4⟩:=cells5 z2;have H2:cH _:=jy z (jy z2 (jy af E));clear R zV oV ah az z z2 af ao E ba z0 z1 z3 z4 c3 bl;cases q2
    .go_upto_region 8 with(first|(go_at_call 142;refine aT (a4.out ()) ?_;rintro e w3 ⟨rfl,ag⟩)|go_in)
     obtain⟨z,z2,af,E⟩:=H2.out;have ae:=af.below ag;have z3:w3.heap[w.heap.size]? =_:=(ag.block _ (jE z2)).trans z2;have I:=z.trans (ag.mono z.size);obtain⟨b1,bw,b0,b3,bv,a3,J⟩:=ae.obj;obtain⟨g,off,cap,rfl,b2,hg,hx⟩:=J.pos aA;obtain⟨p,hp⟩:∃p,us[b.epoch]? =M p:=⟨_,aO hb⟩
     obtain⟨da,dn,dc,hd⟩:=H.out.2.2.2.2.2.2.2 p (aX hp);have k0:w3.cell? ⟨g,off+b.epoch*3,Z⟩=M (N ab p.1):=Rd.rec qE 3 (λ_=>rfl) J hp (i:=0) (u:=.int _ _) aA rfl
     have k1:w3.cell? ⟨g,off+b.epoch*3+1,Z⟩=M (N ab p.2.1):=by
      have:=Rd.rec qE 3 (λ_=>rfl) J hp (i:=1) (u:=.int _ _) aA rfl;rw[<-dV]at this;exact this
     have k2:w3.cell? ⟨g,off+b.epoch*3+2,Z⟩=M (.slice da dn dc):=by
      have:=Rd.rec qE 3 (λ_=>rfl) J hp (i:=2) (u:=.slice da dn dc) aA (by rw[<-hd];rfl);rw[<-dV]at this;exact this
     have c7:w3.cell? ⟨kb,7,Z⟩=M (aH (M ⟨g,off,Z⟩) us.length cap):=mZ a3 rfl;have y0:=kJ z3;have bz:(b.epoch:Int)<us.length:=aA
     have hI:=Hu hp;have hT:=uT hp;obtain⟨pi,a7⟩:∃x,p.1=x:=⟨_,rfl⟩
     obtain⟨pt,a6⟩:∃x,p.2.1=x:=⟨_,rfl⟩
     rw[a7]at k0 hI;rw[a6]at k1 hT;have b4:=(jE a3)
     have bg:=(jE z3)
     have H3:cH _:=jy ae (jy z3 (jy I (jy E (jy hI hT))));clear z z2 af E ae z3 I a3 J hx hp hd hI hT a7 a6 ag x0 x1 x2 x3 x4 H2;go_cut [6] (λv wx=>v=aD (M ⟨↑w3,0,Z⟩)/\cH (wx.heap[w3.heap.size]? =M (aG #[N ab pi,N ab pt,.slice da dn dc] 102 (0,0))/\Below ↑w3 w3 wx))
     case first=>
      go_region
      all_goals
       go_wp2_with fail;go_meet;refine⟨rfl,?_,?_⟩
       .exact cT _ _
       .first|exact((aJ _ _).alloc jB _).drew|exact(aJ _ _).drew.alloc jB _
     case rest=>
      obtain⟨rfl,bb⟩:=hcut;obtain⟨ub,am⟩:=bb.out;obtain⟨ae,z3,I,E,hI,hT⟩:=H3.out;have a2:=ae.below am;have zc:wc.heap[w.heap.size]? =_:=(am.block _ bg).trans z3;have au:=I.trans (am.mono I.size);obtain⟨u0,u1⟩:=cells2 ub;obtain⟨x0,x1,x2,x3,x4⟩:=cells5 zc;have Y:=JD kb c us cnt ep _ t wc a2 hb;obtain⟨i3,ai⟩:∃x,decide (Ag us b.epoch+c.drift<t)=x:=⟨_,rfl⟩
      obtain⟨i4,ay⟩:∃x,allows us ep t b k=x:=⟨_,rfl⟩
      have a5:i3=aR->∀m,dE PQ 144 #[aD (M ⟨kb,0,Z⟩),fX #[N ab b.epoch,N ab b.id,N ab b.time,.slice va k vc,N ab b.place],N ab t] (wc.drewN m) λx w'=>x=bO (.bool i4)/\Below (wc.drewN m).heap.size (wc.drewN m) w':=λh3 m=>by
       have:=Ap kb c us cnt ep t b va k vc (a2.drewN m) (λbk bs=>by
        refine gW λbu=>?_;have hw:=E;unfold waits at hw;rw[Zs aA,bk]at hw;rw[bs]at ai;rw[ai,h3]at hw;simp at hw)
       rw[ay]at this;exact this
      rw[ai]at Y;have aj:cH _:=λ(_:Unit)=>Y;have br:cH _:=a5;have ac:=aw.out;rw[E]at ac;unfold RP at ac;rw[hI,ay]at ac;rw[hT]at ai ac;rw[ai]at ac;have HR:cH _:=jy ac au;clear ub am ae z3 I E hI hT a2 zc au Y a5 ac ai ay bb k0 k1 k2 c7 y0;by_cases g1:(b.id:Int)=pi
      .have bp:((b.id:Int) != pi)=aL:=by rw[g1];simp
       have G1:cH _:=g1;clear g1;by_cases g2:t<pt
       .go_wp2_with fail;go_ret;refine⟨?_,HR.out.2⟩;rw[<-HR.out.1,Z0 g2];simp
       .cases i3
        .go_wp2_with (first|(go_at_call 143;refine aT (aj.out ()) ?_;rintro e w4 ⟨rfl,m4,rfl⟩)|fail)
         go_ret;refine⟨?_,HR.out.2.trans (below_drewN (aJ _ _) _)⟩;rw[<-HR.out.1,ZZ (show ¬t<pt by omega),G1.out];simp
        .cases i4
         all_goals
          go_wp2_with (first|(go_at_call 143;refine aT (aj.out ()) ?_;rintro e w4 ⟨rfl,m4,rfl⟩)|(go_at_call 144;refine aT (br.out (by first|rfl|trivial) _) ?_;rintro e w5 ⟨rfl,bq⟩)|fail)
          go_ret;refine⟨?_,HR.out.2.trans ((below_drewN (aJ ↑wc wc) m4).trans bq |>.mono HR.out.2.size)⟩;rw[<-HR.out.1,ZZ (show ¬t<pt by omega),G1.out];simp
      .have bp:((b.id:Int) != pi)=aR:=by rw[bne_iff_ne];exact g1
       have G1:cH _:=g1;clear g1;go_wp2_with fail;go_ret;refine⟨?_,HR.out.2⟩;rw[<-HR.out.1,Z0 (show(b.id:Int)≠pi from G1.out)];simp
    .go_wp2_with (first|(go_at_call 142;refine aT (a4.out ()) ?_;rintro e w3 ⟨rfl,ag⟩)|go_in)
     go_ret;refine⟨?_,H2.out.1.trans (ag.mono H2.out.1.size)⟩;rw[<-aw.out,H2.out.2.2.2];rfl
   .go_wp2_with fail;go_ret;refine⟨?_,HV.out.2.2.2.trans ⟨rfl,rfl,rfl,jB,λ_ _=>rfl⟩⟩;rw[<-aw.out];rfl
section
variable {w:U}{e s n g off cap j:Nat}{xs:List X}
def Row.put(h:Row w e s (aH (M ⟨g,off,Z⟩) n cap) n xs)(u:X):Row (w.setCell ⟨g,off+j,Z⟩ u) e s (aH (M ⟨g,off,Z⟩) n cap) n (xs.set j u):=by
 refine⟨by rw[oB];exact h.1,?_⟩;obtain⟨h0,_⟩|⟨g',R,Y,aa,J,hh,E,z,I,hc⟩:=h.2
 .cases h0
 .simp only[dT,aK,nj,and_true,true_and]at J;obtain⟨⟨rfl,rfl⟩,rfl⟩:=J;refine cD ⟨g,off,cap,_,rfl,jX hh _ u,E,z,by simpa using I,λi v hi=>?_⟩
  grind
def Row.take(h:Row w e s (aH (M ⟨g,off,Z⟩) n cap) n xs){k:Nat}(hk:k<=n):Row w e s (aH (M ⟨g,off,Z⟩) k cap) k (xs.take (k*s)):=by
 have J:k*s<=n*s:=fK _ hk;refine⟨by rw[bK,h.1];omega,?_⟩;obtain⟨h0,_⟩|⟨g',z,E,I,hv,hh,R,Y,aa,hc⟩:=h.2
 .cases h0
 grind
def Row.there(h:Row w e s (aH (M ⟨g,off,Z⟩) n cap) n xs)(z:j<n*s):(w.cell? ⟨g,off+j,Z⟩).isSome=aR:=by rw[h.cell rfl j (xs[j]'(by rw[h.1];exact z)) (aO _)];rfl
end
section
variable {m i e s n g off cap k:Nat}{w:U}{xs:List X}
abbrev PW:=Ba×X
variable {V:PW->Nat}{ws rs:List PW}{b:PW}
def lV(p:PW):List X:=[N ab p.1.epoch,N ab p.1.id,N ab p.1.time,p.2,N ab p.1.place]
def nD(p:PW):(lV p).length=5:=rfl
def pick(V:PW->Nat):List PW->(Nat×Option PW)×List PW
 |[]=>((0,Z),[])
 |b::r=>if V b=0 then((pick V r).1,b::(pick V r).2)else if V b=2 then((2,Z),b::r)else if V b=3 then((3,M b),r)else pick V r
structure lU(V:PW->Nat)(ws rs:List PW)(m i:Nat):Prop where
 len:rs.length=ws.length
 le:m<=i
 ile:i<=ws.length
 back:rs.drop i=ws.drop i
 run:pick V ws=((pick V (ws.drop i)).1,rs.take m++(pick V (ws.drop i)).2)
 sub:∀p,p∈rs->p∈ws
def lU.start(V:PW->Nat)(ws:List PW):lU V ws ws 0 0:=⟨rfl,jB,dL _,rfl,aC,λ_ h=>h⟩
def lU.at(h:lU V ws rs m i)(z:ws[i]? =M b):rs[i]? =M b:=by have:=Z1 (λq=>q[0]?) h.back;simpa[iV,z]using this
def xC{α:Type}{l:List α}{x:α}(h:l[i]? =M x):l.drop i=x::l.drop (i+1):=by obtain⟨z,rfl⟩:=aN.1 h;exact List.drop_eq_getElem_cons z
def lU.stay(h:lU V ws rs m i)(E:ws[i]? =M b)(J:V b=0):lU V ws (rs.set m b) (m+1) (i+1):=by
 have I:=(aN.1 E).1;have R:=h.le;have h2:=h.len;refine⟨by rw[oB];exact h2,aA,aA,?_,?_,λp hp=>(List.mem_or_eq_of_mem_set hp).elim (h.sub p) (λe=>e ▸ aX E)⟩
 .rw[List.drop_set_of_lt aA];have:=Z1 (List.drop 1) h.back;simpa[iC]using this
 .rw[h.run,xC E]
  have hp:pick V (b::ws.drop (i+1))=((pick V (ws.drop (i+1))).1,b::(pick V (ws.drop (i+1))).2):=by
   rw[pick,ZD J]
  rw[hp]
  congr 1
  have z:rs.take (m+1)=rs.take m++[rs[m]' aA]:=eY aA;rw[List.take_set,z,List.set_append_right _ _ (by rw[bK];omega),bK,fZ aA];simp
def lU.go(h:lU V ws rs m i)(z:ws[i]? =M b)(I:V b≠0)(h2:V b≠2)(h3:V b≠3):lU V ws rs m (i+1):=by
 have E:=(aN.1 z).1;refine⟨h.len,by have:=h.le;omega,aA,?_,?_,h.sub⟩
 .have:=Z1 (List.drop 1) h.back;simpa[iC]using this
 .rw[h.run,xC z,pick,Zs I,Zs h2,Zs h3]
def lU.halt(h:lU V ws rs m i)(z:ws[i]? =M b)(h2:V b=2):pick V ws=((2,Z),rs.take m++rs.drop i):=by rw[h.run,h.back,xC z,pick,Zs aA,ZD h2]
def lU.got(h:lU V ws rs m i)(E:ws[i]? =M b)(h3:V b=3):pick V ws=((3,M b),rs.take m++rs.drop (i+1)):=by
 have z:rs.drop (i+1)=ws.drop (i+1):=by
  have:=Z1 (List.drop 1) h.back;simpa[iC]using this
 rw[h.run,z,xC E,pick,Zs aA,Zs aA,ZD h3]
def lU.done(h:lU V ws rs m i)(z:ws.length<=i):pick V ws=((0,Z),rs.take m):=by rw[h.run,List.drop_eq_nil_of_le z,pick,gI]
section
variable {α:Type}(f:α->List X)(s:Nat)(hf:∀x,(f x).length=s)
include hf
def qx(l:List α)(k:Nat):(l.flatMap f).take (k*s)=(l.take k).flatMap f/\(l.flatMap f).drop (k*s)=(l.drop k).flatMap f:=by
 induction l generalizing k with
 |nil=>simp
 |cons x l ih=>
  cases k with
  |zero=>simp
  |succ k=>
   have hk:(k+1)*s=s+k*s:=by rw[iP];omega
   rw[gY,hk];constructor
   .rw[List.take_append,hf x,eH (by rw[hf x];omega),pM,(ih k).1,List.take_succ_cons,gY]
   .rw[List.drop_append,hf x,qS (by rw[hf x];omega),pM,(ih k).2,List.drop_succ_cons,dS]
end
def Row.over(h:Row w e s (aH (M ⟨g,off,Z⟩) n cap) n xs)(vs:List X)(hk:k+vs.length<=n*s):Row (w.setCells g (off+k) vs) e s (aH (M ⟨g,off,Z⟩) n cap) n (xs.take k++vs++xs.drop (k+vs.length)):=by
 have hl:=h.1;refine⟨by simp only[aS,bK,dW];omega,?_⟩;obtain⟨h0,_⟩|⟨g',Y,aa,ac,hv,hh,E,J,R,hc⟩:=h.2
 .cases h0
 .simp only[dT,aK,nj,and_true,true_and]at hv;obtain⟨⟨rfl,rfl⟩,rfl⟩:=hv;obtain⟨I,k1,k2,k3,k4⟩:=oK vs (off+k) hh;refine cD ⟨g,off,cap,I,rfl,k1,E,J,by rw[k2];exact R,λj v z=>?_⟩;have ae:n*s<=cap*s:=fK _ E;by_cases h1:j<k
  .rw[fM,bZ (by rw[bK];omega),gU,ZD h1]at z;rw[k3 _ (bE aA)];exact hc j v z
  .by_cases h2:j<k+vs.length
   .rw[fM,bV (by rw[bK];omega),bK,fZ aA,bZ aA]at z;have:=k4 _ v z aA;rw[show off+j=off+k+(j-k) from by omega];exact this
   .rw[bV (by simp only[aS,bK];omega)]at z;simp only[aS,bK]at z;rw[fZ aA,iV]at z;rw[k3 _ (cD aA)];exact hc j v (by rw[<-z];congr 1;omega)
def Row.lay(h:Row w e s (aH (M ⟨g,off,Z⟩) n cap) n xs){j:Nat}(vs:List X)(hk:k<=n)(hv:vs.length=j*s)(hj:k+j<=cap):Row (w.setCells g (off+k*s) vs) e s (aH (M ⟨g,off,Z⟩) (k+j) cap) (k+j) (xs.take (k*s)++vs):=by
 have hl:=h.1;have R:k*s<=n*s:=fK _ hk;refine⟨by rw[aS,bK,hl,fZ R,hv,iP],?_⟩;obtain⟨h0,_⟩|⟨g',ac,ae,ag,z,hh,ah,J,aa,hc⟩:=h.2
 .cases h0
 .simp only[dT,aK,nj,and_true,true_and]at z;obtain⟨⟨rfl,rfl⟩,rfl⟩:=z;obtain⟨I,k1,k2,k3,k4⟩:=oK vs (off+k*s) hh;have Y:(k+j)*s<=cap*s:=fK _ hj;rw[iP]at Y;refine cD ⟨g,off,cap,I,rfl,k1,hj,J,by rw[k2];exact aa,λi v E=>?_⟩;by_cases h1:i<k*s
  .rw[bZ (by rw[bK];omega),gU,ZD h1]at E;rw[k3 _ (bE aA)];exact hc i v E
  .rw[bV (by rw[bK];omega),bK,fZ aA]at E;have af:=(aN.1 E).1;have:=k4 _ v E aA;rw[show off+i=off+k*s+(i-k*s) from by omega];exact this
section
variable {α:Type}(f:α->List X)(s:Nat)(hf:∀x,(f x).length=s)
include hf
def Row.adL{rs:List α}(h:Row w e s (aH (M ⟨g,off,Z⟩) n cap) n (rs.flatMap f))(E:m<rs.length)(x:α):Row (w.setCells g (off+m*s) (f x)) e s (aH (M ⟨g,off,Z⟩) n cap) n ((rs.set m x).flatMap f):=by have I:=h.1;rw[mQ f s hf]at I;have z:(m+1)*s<=rs.length*s:=fK _ E;rw[iP,Nat.one_mul]at z;have:=h.over (k:=m*s) (f x) (by rw[hf x];omega);rw[(qx f s hf rs m).1,hf x,show m*s+s=(m+1)*s from by rw[iP,Nat.one_mul],(qx f s hf rs (m+1)).2]at this;rw[List.set_eq_take_append_cons_drop,ZD E,iw,gY,<-fM];exact this
def Row.Ic{rs:List α}(h:Row w e s (aH (M ⟨g,off,Z⟩) n cap) n (rs.flatMap f))(z:List α)(hk:k<=n)(E:k+z.length<=cap):Row (w.setCells g (off+k*s) (z.flatMap f)) e s (aH (M ⟨g,off,Z⟩) (k+z.length) cap) (k+z.length) ((rs.take k++z).flatMap f):=by have:=h.lay (k:=k) (j:=z.length) _ hk (mQ f s hf z) E;rw[(qx f s hf rs k).1]at this;rw[iw];exact this
end
end
section
variable {w w':U}{kb nb cnt ep sq e n:Nat}{c:Cf}{vu vo vw:X}{us:List PB}{dl:Nat->List (List UInt8)}{ws:List PW}
def kQ(w:U)(v:X)(l:List (List UInt8)):Prop:=Row w 9 1 v l.length (l.map nT)
structure rH(w:U)(kb:Nat)(c:Cf)(vu:X)(us:List PB)(dl:Nat->List (List UInt8))(nb:Nat)(vo vw:X)(ws:List PW)(cnt ep sq:Nat):Prop where
 obj:w.heap[kb]? =M (aG (jP c vu nb vo vw cnt ep sq) 100 (0,0))
 upper:Row w 102 3 vu us.length (us.flatMap qE)
 wait:Row w 118 5 vw ws.length (ws.flatMap lV)
 deps:∀(j:Nat)(p:PB),us[j]? =M p->kQ w p.2.2 (dl j)
 txs:∀p,p∈ws->kQ w p.2 p.1.txs
structure yS(c:Cf)(us:List PB)(ws:List PW)(cnt ep:Nat):Prop where
 times:∀p,p∈us->0<=p.2.1/\p.2.1<=4294967296
 step:0<=c.step/\c.step<=20
 drift:0<=c.drift/\c.drift<=100
 window:0<=c.window/\c.window<=8
 cnt:cnt<4294967296
 len:us.length<=4294967296
 wlen:ws.length<=4294967296
 ep:ep<us.length
 batch:∀p,p∈ws->p.1.epoch<us.length/\p.1.place<=4294967296
def rH.jM{XS:Nat->Prop}(h:rH w kb c vu us dl nb vo vw ws cnt ep sq)(hc:jI XS w w')(R:¬XS kb)(h2:∀g,vu.ownBlock=M g->¬XS g)(h3:∀g,vw.ownBlock=M g->¬XS g)(h4:∀(g:Nat)(cs:Array X)(J:Nat×Nat),w.heap[g]? =M (aG cs 9 J)->¬XS g):rH w' kb c vu us dl nb vo vw ws cnt ep sq:=
 ⟨(hc.block _ (jE h.obj) R).trans h.obj,h.upper.jM hc h2,h.wait.jM hc h3,λj p hp=>Row.jM (h.deps j p hp) hc (λg I=>by obtain⟨E,z⟩:=Row.obj (h.deps j p hp) I;exact h4 g E _ z),λp hp=>Row.jM (h.txs p hp) hc (λg I=>by obtain⟨E,z⟩:=Row.obj (h.txs p hp) I;exact h4 g E _ z)⟩
def rH.below(h:rH w kb c vu us dl nb vo vw ws cnt ep sq)(z:Below ↑w w w'):rH w' kb c vu us dl nb vo vw ws cnt ep sq:=h.jM (.below z jB (λ_=>False)) (λe=>e) (λ_ _ e=>e) (λ_ _ e=>e) (λ_ _ _ _ e=>e)
def rH.look(h:rH w kb c vu us dl nb vo vw ws cnt ep sq)(s:yS c us ws cnt ep):Look w kb c us cnt ep:=
 ⟨⟨vu,nb,vo,vw,sq,h.obj,h.upper.rd⟩,s.times,s.step,s.drift,s.window,jo s.cnt,s.len⟩
def jH{E s:Nat}{v:X}{xs:List X}(h:Row w e s v n xs){k:Nat}{cs:Array X}{I:Nat×Nat}(hk:w.heap[k]? =M (aG cs E I))(z:E≠e):v.ownBlock≠M k:=λR=>by
 obtain⟨J,hc⟩:=h.obj R;rw[hk]at hc;simp at hc;exact z hc.2.1
section
variable {P:cU}(w:U){ops:Array Oper}{rest:List Oper}{o:Oper}{a:Act}{Q:Exit->Act->U->Prop}
def kT(R:o.guard=Z)(s x:Operand)(t:cG)(ho:o.op=.call { callee:=.builtin .append,args:=#[s,x],argTypes:=#[t,t] })(e:cG)(i:TypeInfo)(size:Nat)(ht:P.underlying t=M (.slice e))(hi:P.info? e=M i)(E:i.size=size)(b off n cap:Nat)(hs:a.eval s=aH (M ⟨b,off,Z⟩) n cap)(ad:eM)(m c:Nat)(z:List X)(hx:a.eval x=aH (M ad) m c)(hl:z.length=m*size)(J:∀j u,z[j]? =M u->w.cell? (ad.add j)=M u)(h1:∀u∈z,u.oneCell'=aR)(I:n+m<=cap)(hc:∀j,j<z.length->(w.cell? ⟨b,off+n*size+j,Z⟩).isSome=aR)(hf:∀j,w.frozen? ⟨b,j,Z⟩=aL)(hK:wpList P ops Q rest (a.put o.dst (aH (M ⟨b,off,Z⟩) (n+m) cap)) (w.setCells b (off+n*size) z)):wpList P ops Q (o::rest) a w:=by
 refine wpList_plain R λK Y=>?_;subst E;have hr:=run_append_room_cells (P:=P) w t o.type e i ht hi b off n cap ad m c z hl J h1 I hc (λj _=>hf _);unfold Oper.wp execOp;simp only[ho,resolve,invoke,builtin,iU,Sem.run_pure,iq,fQ,eP,fP,hs,hx,hr];exact Y _ _ hK
end
def Bf:(PQ.info? 118).map (λi=>(i.zero,i.size,i.bytes))=M (M (fX #[N ab 0,N ab 0,N ab 0,aH Z 0 0,N ab 0]),5,56):=XN
def acu(w:U)(R:Nat)(a b c d e:X):U:=((((w.setCell ⟨R,0,Z⟩ a).setCell ⟨R,1,Z⟩ b).setCell ⟨R,2,Z⟩ c).setCell ⟨R,3,Z⟩ d).setCell ⟨R,4,Z⟩ e
def qI(w:U)(R:Nat)(a b c d e:X):jI (λk=>k=R) w (acu w R a b c d e):=
 ((((jI.set w R 0 a).trans (jI.set _ R 1 b) (λ_ _ e=>e)).trans (jI.set _ R 2 c) (λ_ _ e=>e)).trans (jI.set _ R 3 d) (λ_ _ e=>e)).trans (jI.set _ R 4 e) (λ_ _ e=>e)
def qF{Wd:U}{z:X}{ws':List PW}{R:Nat}(ho:Wd.heap[kb]? =M (aG (jP c vu nb vo vw cnt ep sq) 100 (0,0)))(hu:Row Wd 102 3 vu us.length (us.flatMap qE))(hd:∀(j:Nat)(p:PB),us[j]? =M p->kQ Wd p.2.2 (dl j))(hr:Row Wd 118 5 z ws'.length (ws'.flatMap lV))(ht:∀p,p∈ws'->kQ Wd p.2 p.1.txs){rc:Array X}(hR:Wd.heap[R]? =M (aG rc 118 (0,0)))(I:z.ownBlock≠M R)(x0 x1 x2 x3 x4:X):rH (acu (Wd.setCell ⟨kb,10,Z⟩ z) R x0 x1 x2 x3 x4) kb c vu us dl nb vo z ws' cnt ep sq:=by
 have J:kb≠R:=λe=>by rw[e,hR]at ho;simp at ho
 have E:=jI.set Wd kb 10 z
 have h1:rH (Wd.setCell ⟨kb,10,Z⟩ z) kb c vu us dl nb vo z ws' cnt ep sq:=by
  refine⟨?_,hu.jM E (λg I e=>jH hu ho aB (by rw[I,e])),hr.jM E (λg I e=>jH hr ho aB (by rw[I,e])),λj p hp=>Row.jM (hd j p hp) E (λg I e=>jH (hd j p hp) ho aB (by rw[I,e])),λp hp=>Row.jM (ht p hp) E (λg I e=>jH (ht p hp) ho aB (by rw[I,e]))⟩;have:=jX ho 10 z;simpa[jP]using this
 have aa:(Wd.setCell ⟨kb,10,Z⟩ z).heap[R]? =M (aG rc 118 (0,0)):=(aW _ _ _ _ (λe=>J e.symm)).trans hR;refine h1.jM (qI _ R x0 x1 x2 x3 x4) J (λg I e=>jH h1.upper aa aB (by rw[I,e])) (λg ac e=>I (by rw[ac,e])) (λg cs fz Y e=>?_);rw[e,aa]at Y;simp at Y
def CW(h:∀p,p∈ws->kQ w p.2 p.1.txs):∀u,u∈ws.flatMap lV->u.oneCell'=aR:=λu E=>by
 obtain⟨p,hp,z⟩:=List.mem_flatMap.1 E;obtain⟨a,cap,e⟩:=Row.slice (h p hp);unfold lV at z;rw[e]at z;simp at z;rcases z with rfl|rfl|rfl|rfl|rfl<;>rfl
def BQ{g off cap:Nat}{rs:List PW}(h:Row w e 5 (aH (M ⟨g,off,Z⟩) n cap) n (rs.flatMap lV))(i:Nat):∀j u,((rs.drop i).flatMap lV)[j]? =M u->w.cell? ((⟨g,off+i*5,Z⟩:eM).add j)=M u:=λj u z=>by
 rw[<-(qx lV 5 nD rs i).2,iV]at z;have:=h.cell rfl _ u z;rw[<-dV]at this;unfold jp;split
 .rename_i E;subst E;exact this
 .exact this
def yK(o:Nat×Option PW):X:=match o.2 with
 |some b=>cQ #[P9 b.1 b.2,N .u8 o.1]
 |none=>cQ #[fX #[N ab 0,N ab 0,N ab 0,aH Z 0 0,N ab 0],N .u8 o.1]
def judged(c:Cf)(us:List PB)(cnt ep:Nat)(b:PW):Nat:=verdict c us cnt ep b.1 b.1.txs.length
def PV(kb:Nat)(c:Cf)(vu:X)(us:List PB)(dl:Nat->List (List UInt8))(nb:Nat)(vo vw:X)(ws:List PW)(cnt ep sq:Nat)(w:U)(h:rH w kb c vu us dl nb vo vw ws cnt ep sq)(s:yS c us ws cnt ep):dE PQ 86 #[aD (M ⟨kb,0,Z⟩)] w λe w'=>e=bO (yK (pick (judged c us cnt ep) ws).1)/\∃ba,rH w' kb c vu us dl nb vo ba (pick (judged c us cnt ep) ws).2 cnt ep sq/\(∀g,ba.ownBlock=M g->vw.ownBlock=M g)/\jI (λk=>k=kb\/vw.ownBlock=M k) w w':=by
 obtain⟨W,hW,J,ro⟩:=jD w #[N ab 0,N ab 0,N ab 0,aH Z 0 0,N ab 0] 118;have hD:=h.below J;have c10:W.cell? ⟨kb,10,Z⟩=M vw:=mZ hD.obj rfl;have fk:=aQ hD.obj;have bz:=(jE hD.obj)
 have b7:=(jE h.obj)
 obtain⟨rfl,a6⟩|⟨g,off,cap,b6,rfl,bl,cc,b9,_,_⟩:=h.wait.2
 .obtain rfl:=bP a6;obtain⟨r0,r1,r2,r3,r4⟩:=cells5 ro;have fr:=aQ ro;have bp:kb≠w.heap.size:=by omega
  have H:cH _:=jy hD (jy J ro);clear hD J ro h s a6;go_enter (fq Tryz.func86 rfl),Tryz.ntmps86;go_upto_region 1 with fail;rw[<-hW];clear hW;go_wp2_with fail;go_loopg [4,5,6,7,18] 0 (λgg v4 _ _ _ a3 wx=>v4=aH Z 0 0/\a3=N ab 0/\wx=W)
  case atStart=>exact⟨rfl,rfl,rfl⟩
  case round=>
   obtain⟨rfl,rfl,rfl⟩:=hrel;go_wp2_with fail;obtain⟨hD,J,ro⟩:=H.out;refine cM (v:=cQ #[.agg _,.int _ 0]) (by simp[results,m9,go_sem,r0,r1,r2,r3,r4]) rfl ⟨rfl,_,?_,λg hg=>hg,?_⟩
   .exact qF hD.obj hD.upper hD.deps hD.wait hD.txs ro (by simp[cV]) _ _ _ _ _
   .exact((jI.below J jB _).trans (jI.set _ kb 10 _) (λk _ e=>bE e)).trans (qI _ _ _ _ _ _ _) (λk hk e=>aA)
 .have b8:=(jE bl)
  have bq:kb≠g:=λe=>jH h.wait h.obj aB (by rw[e];rfl);have cd:=s.wlen;have b0:(0:Int)<=(cap:Int):=aA
  have b2:(ws.length:Int)<=cap:=aA
  obtain⟨V,hV⟩:∃V,V=judged c us cnt ep:=⟨_,rfl⟩
  rw[<-hV]
  have stay:∀Wd,jI (λk=>k=g) W Wd->Wd.heap[kb]? =M (aG (jP c vu nb vo (aH (M ⟨g,off,Z⟩) ws.length cap) cnt ep sq) 100 (0,0))/\Row Wd 102 3 vu us.length (us.flatMap qE)/\(∀(j:Nat)(p:PB),us[j]? =M p->kQ Wd p.2.2 (dl j))/\(∀p,p∈ws->kQ Wd p.2 p.1.txs)/\Wd.heap[w.heap.size]? =M (aG #[N ab 0,N ab 0,N ab 0,aH Z 0 0,N ab 0] 118 (0,0)):=λWd hX=>by
   obtain⟨gc,aw⟩:=hD.wait.obj (g:=g) rfl;refine⟨(hX.block _ bz bq).trans hD.obj,hD.upper.jM hX (λq hq e=>jH hD.upper aw aB (by rw[hq,e])),λj p hp=>Row.jM (hD.deps j p hp) hX (λq hq e=>jH (hD.deps j p hp) aw aB (by rw[hq,e])),λp hp=>Row.jM (hD.txs p hp) hX (λq hq e=>jH (hD.txs p hp) aw aB (by rw[hq,e])),(hX.block _ (jE ro) aA).trans ro⟩
  obtain⟨i0,bd,bu,bh,bw⟩:=pa Bf;have Hi:cH _:=jy bd bh;have H:cH _:=jy hD (jy J (jy ro (jy s (jy stay (jy hV h)))));clear hD J ro h s bl stay hV bd bu bh bw;go_enter (fq Tryz.func86 rfl),Tryz.ntmps86;go_upto_region 1 with fail;rw[<-hW];clear hW;go_wp2_with fail;go_loopg [4,5,6,7,18] ws.length (λgg v4 _ _ _ a3 wx=>∃(i m:Nat)(rs:List PW),a3=N ab i/\v4=aH (M ⟨g,off,Z⟩) m cap/\gg=ws.length-i/\m<=i/\i<=ws.length/\cH (lU V ws rs m i/\Row wx 118 5 (aH (M ⟨g,off,Z⟩) ws.length cap) ws.length (rs.flatMap lV)/\jI (λk=>k=g) W wx))
  case atStart=>exact⟨0,0,ws,rfl,rfl,rfl,jB,dL _,lU.start V ws,H.out.1.wait,jI.refl _ _⟩
  case round=>
   obtain⟨i,m,rs,rfl,rfl,rfl,ca,b4,HI⟩:=hrel;clear c10 fk;obtain⟨q1,q2,q3,q4,q5⟩:=H.out.2.2.2.2.1 wr HI.out.2.2;have c10:wr.cell? ⟨kb,10,Z⟩=M (aH (M ⟨g,off,Z⟩) ws.length cap):=mZ q1 rfl;have fk:=aQ q1;have fr:=aQ q5;obtain⟨r0,r1,r2,r3,r4⟩:=cells5 q5;have bp:kb≠w.heap.size:=aA
   by_cases bs:i<ws.length
   .have bg:(i:Int)<ws.length:=by omega
    obtain⟨b,hb⟩:∃b,ws[i]? =M b:=⟨_,aO bs⟩
    obtain⟨p1,p2,p3⟩:=HI.out;have bj:=p1.at hb;have aq:=aX hb;obtain⟨va,vc,a0⟩:=Row.slice (q4 b aq);have kk:=λj u (E:j<5) (hu:(lV b)[j]? =M u)=>p2.cell rfl (i*5+j) u (by rw[flat_get lV 5 nD rs i j b bj E];exact hu);have k0:wr.cell? ⟨g,off+i*5,Z⟩=M (N ab b.1.epoch):=by have:=kk 0 _ aA rfl;exact this
    have k1:wr.cell? ⟨g,off+i*5+1,Z⟩=M (N ab b.1.id):=by have:=kk 1 _ aA rfl;rw[<-dV]at this;exact this
    have k2:wr.cell? ⟨g,off+i*5+2,Z⟩=M (N ab b.1.time):=by have:=kk 2 _ aA rfl;rw[<-dV]at this;exact this
    have k3:wr.cell? ⟨g,off+i*5+3,Z⟩=M (.slice va b.1.txs.length vc):=by have:=kk 3 _ aA rfl;rw[<-dV,a0]at this;exact this
    have k4:wr.cell? ⟨g,off+i*5+4,Z⟩=M (N ab b.1.place):=by have:=kk 4 _ aA rfl;rw[<-dV]at this;exact this
    obtain⟨W2,a7,az,yo⟩:=jD wr #[N ab b.1.epoch,N ab b.1.id,N ab b.1.time,.slice va b.1.txs.length vc,N ab b.1.place] 118;obtain⟨y0,y1,y2,y3,y4⟩:=cells5 yo;have ay:=p3.trans (.below az jB (λ_=>False)) (λ_ _ e=>e.elim);obtain⟨s1,s2,s3,s4,s5⟩:=H.out.2.2.2.2.1 W2 ay;have sn:=H.out.2.2.2.1;have bm:Look W2 kb c us cnt ep:=⟨⟨vu,nb,vo,_,sq,s1,s2.rd⟩,sn.times,sn.step,sn.drift,sn.window,jo sn.cnt,sn.len⟩
    have ao:=Uh kb c us cnt ep va b.1.txs.length vc W2 bm sn.ep (sn.batch b aq).1 (sn.batch b aq).2 (λp hp=>by
     obtain⟨j,E⟩:=pP hp;obtain⟨x,y,bv⟩:=Row.slice (s3 j p E);exact⟨x,_,y,bv⟩)
    have a2:verdict c us cnt ep b.1 b.1.txs.length=V b:=by rw[H.out.2.2.2.2.2.1];rfl
    rw[a2]at ao;unfold P9 at ao
    have a4:V b=0\/V b=1\/V b=2\/V b=3:=by
     rw[<-a2];unfold verdict;split
     .simp
     .split
      .simp
      .split
       .simp
       .split<;>simp
    obtain⟨vb,a1⟩:∃vb,V b=vb:=⟨_,rfl⟩
    rw[a1]at ao a4;have ar:cH _:=λ(_:Unit)=>ao;have HB:cH _:=jy hb (jy aq (jy a0 (jy az (jy yo (jy ay a1)))));clear q1 q2 q3 q4 q5 p1 p2 p3 bj hb aq a0 kk az yo ay s1 s2 s3 s4 s5 sn bm ao a2 a1
    have behind:∀w3,Below ↑W2 W2 w3->jI (λk=>k=g) W w3/\Row w3 118 5 (aH (M ⟨g,off,Z⟩) ws.length cap) ws.length (rs.flatMap lV)/\w3.heap[wr.heap.size]? =M (aG #[N ab b.1.epoch,N ab b.1.id,N ab b.1.time,.slice va b.1.txs.length vc,N ab b.1.place] 118 (0,0)):=λw3 ac=>
     ⟨HB.out.2.2.2.2.2.1.trans (.below ac jB (λ_=>False)) (λ_ _ e=>e.elim),(HI.out.2.1.below HB.out.2.2.2.1).below ac,(ac.block _ (jE HB.out.2.2.2.2.1)).trans HB.out.2.2.2.2.1⟩
    have R:cH _:=behind;clear behind;go_upto_region 5 with fail;rw[<-a7];clear a7;obtain rfl|rfl|rfl|rfl:=a4
    .go_upto_region 8 with(first|(go_at_call 128;refine aT (ar.out ()) ?_;rintro e w3 ⟨rfl,ac⟩)|go_in)
     obtain⟨e1,e2,e3⟩:=R.out w3 ac;obtain⟨x0,x1,x2,x3,x4⟩:=cells5 e3;have an:=λo=>e2.below ((aJ _ w3).alloc jB o);have ag:cH _:=jy an e1;clear e1 e2 e3 an k0 k1 k2 k3 k4 y0 y1 y2 y3 y4;go_wp2_with (first|(at_builtin;refine kT _ rfl (.tmp 29) (.tmp 31) 98 rfl 118 i0 5 (uq nz) Hi.out.1 Hi.out.2 g off m cap rfl _ 1 1 [N ab b.1.epoch,N ab b.1.id,N ab b.1.time,.slice va b.1.txs.length vc,N ab b.1.place] rfl rfl (by intro j u E;match j,E with|0,E=>(simp at E;subst E;simp[jp])|1,E=>(simp at E;subst E;simp[jp])|2,E=>(simp at E;subst E;simp[jp])|3,E=>(simp at E;subst E;simp[jp])|4,E=>(simp at E;subst E;simp[jp])) (by intro u hu;simp at hu;rcases hu with rfl|rfl|rfl|rfl|rfl<;>rfl) aA (by intro j E;(have a5:j<5:=E);have:=(ag.out.1 (aG #[N ab b.1.epoch,N ab b.1.id,N ab b.1.time,.slice va b.1.txs.length vc,N ab b.1.place] 118)).there (j:=m*5+j) aA;rw[<-dV]at this;exact this) (by intro j;exact(ag.out.1 _).frozen rfl j) ?_)|go_in)
     go_roundg (ws.length-(i+1))
     case measure=>omega
     case rel=>
      refine⟨_,_,_,by go_num,rfl,rfl,aA,aA,HI.out.1.stay HB.out.1 HB.out.2.2.2.2.2.2,?_,?_⟩
      .have:=Row.adL lV 5 nD (ag.out.1 (aG #[N ab b.1.epoch,N ab b.1.id,N ab b.1.time,.slice va b.1.txs.length vc,N ab b.1.place] 118)) (m:=m) (by rw[HI.out.1.len];omega) b;unfold lV at this⊢;rw[HB.out.2.2.1]at this;exact this
      .exact(ag.out.2.trans (jI.alloc (λ_=>False) w3 _) (λ_ _ e=>e.elim)).trans (.grown (kH g _ _ _).1) (λk _ e=>by simpa using e.symm)
    .go_wp2_with (first|(go_at_call 128;refine aT (ar.out ()) ?_;rintro e w3 ⟨rfl,ac⟩)|go_in)
     go_roundg (ws.length-(i+1))
     case measure=>omega
     case rel=>
      obtain⟨e1,e2,e3⟩:=R.out w3 ac;exact⟨_,m,rs,by go_num,rfl,rfl,aA,aA,HI.out.1.go HB.out.1 (by rw[HB.out.2.2.2.2.2.2];omega) (by rw[HB.out.2.2.2.2.2.2];omega) (by rw[HB.out.2.2.2.2.2.2];omega),e2,e1⟩
    .go_upto_region 10 with(first|(go_at_call 128;refine aT (ar.out ()) ?_;rintro e w3 ⟨rfl,ac⟩)|go_in)
     obtain⟨e1,e2,e3⟩:=R.out w3 ac;obtain⟨s1,s2,s3,s4,s5⟩:=H.out.2.2.2.2.1 w3 e1;have bn:w3.cell? ⟨kb,10,Z⟩=M (aH (M ⟨g,off,Z⟩) ws.length cap):=mZ s1 rfl;have ae:=CW (λp hp=>s4 p (HI.out.1.sub p (je hp))) (ws:=rs.drop i);have ak:=BQ e2 i;have ai:(rs.drop i).length=ws.length-i:=by rw[dW,HI.out.1.len]
     have am:((rs.drop i).flatMap lV).length=(ws.length-i)*5:=by rw[mQ lV 5 nD,ai]
     obtain⟨Y,I⟩:∃Y,Y=(rs.drop i).flatMap lV:=⟨_,rfl⟩
     rw[<-I]at ae ak am;have Hn:cH _:=jy ae (jy ak (jy am (jy I (jy e2 (jy e1 ai)))));have br:(i:Int)<=ws.length:=aA
     have b5:¬(i=cap):=aA
     have b1:(i:Int)<=cap:=aA
     clear e1 e2 e3 s1 s2 s3 s4 s5 ae ak am I ai k0 k1 k2 k3 k4 y0 y1 y2 y3 y4 c10 r0 r1 r2 r3 r4 fk fr;go_wp2_with (first|(at_builtin;refine kT _ rfl (.tmp 36) (.tmp 42) 98 rfl 118 i0 5 (uq nz) Hi.out.1 Hi.out.2 g off m cap rfl _ _ _ Y rfl Hn.out.2.2.1 Hn.out.2.1 Hn.out.1 aA (by intro j E;(have a5:j<(ws.length-i)*5:=(by rw[<-Hn.out.2.2.1];exact E));have:=Hn.out.2.2.2.2.1.there (j:=m*5+j) aA;rw[<-dV]at this;exact this) (by intro j;exact Hn.out.2.2.2.2.1.frozen rfl j) ?_;generalize hX:oE _ _ _ _=Wd;have z:jI (λk=>k=g) W Wd:=(by rw[<-hX];exact Hn.out.2.2.2.2.2.1.trans (.grown (kH g _ _ _).1) (λk _ e=>by simpa using e.symm));obtain⟨s1,s2,s3,s4,s5⟩:=H.out.2.2.2.2.1 Wd z;have bn:Wd.cell? ⟨kb,10,Z⟩=M (aH (M ⟨g,off,Z⟩) ws.length cap):=(by rw[aI s1];rfl);have fk:=aQ s1;have fr:=aQ s5;have r0:Wd.cell? ⟨w.heap.size,0,Z⟩=M (N ab 0):=(by rw[aI s5];rfl);have r1:Wd.cell? ⟨w.heap.size,1,Z⟩=M (N ab 0):=(by rw[aI s5];rfl);have r2:Wd.cell? ⟨w.heap.size,2,Z⟩=M (N ab 0):=(by rw[aI s5];rfl);have r3:Wd.cell? ⟨w.heap.size,3,Z⟩=M (aH Z 0 0):=(by rw[aI s5];rfl);have r4:Wd.cell? ⟨w.heap.size,4,Z⟩=M (N ab 0):=(by rw[aI s5];rfl);have HX:cH _:=jy hX z;clear hX z s1 s2 s3 s4 s5)|go_in)
     obtain⟨hD,J,ro,s,stay,hV,h⟩:=H.out;obtain⟨t1,t2,t3,t4,t5,t6,t7⟩:=Hn.out;obtain⟨hX,z⟩:=HX.out;obtain⟨s1,s2,s3,s4,s5⟩:=stay Wd z;have af:=HI.out.1.halt HB.out.1 HB.out.2.2.2.2.2.2;have aa:=Row.Ic lV 5 nD t5 (k:=m) (rs.drop i) aA (by rw[t7];omega);rw[<-t4,hX,t7]at aa;have ah:(rs.take m++rs.drop i).length=m+(ws.length-i):=by rw[aS,bK,t7,HI.out.1.len,fZ aA]
     refine cM (v:=cQ #[fX #[N ab 0,N ab 0,N ab 0,aH Z 0 0,N ab 0],N .u8 2]) (by simp[results,m9,go_sem,r0,r1,r2,r3,r4]) rfl ⟨by rw[af];rfl,aH (M _) (m+(ws.length-i)) cap,?_,λq hq=>hq,?_⟩
     .rw[af];refine qF s1 s2 s3 (by rw[ah];exact aa) (λp hp=>?_) s5 (by simp[cV];omega) _ _ _ _ _;obtain hp|hp:=dM.1 hp
      .exact s4 p (HI.out.1.sub p (jd hp))
      .exact s4 p (HI.out.1.sub p (je hp))
     .exact((((jI.below J jB _).trans z (λk _ e=>cD (by rw[e];rfl))).trans (jI.set _ kb 10 _) (λk _ e=>bE e)).trans (qI _ _ _ _ _ _ _) (λk hk e=>aA))
    .go_upto_region 13 with(first|(go_at_call 128;refine aT (ar.out ()) ?_;rintro e w3 ⟨rfl,ac⟩)|go_in)
     obtain⟨e1,e2,e3⟩:=R.out w3 ac;obtain⟨s1,s2,s3,s4,s5⟩:=H.out.2.2.2.2.1 w3 e1;have bn:w3.cell? ⟨kb,10,Z⟩=M (aH (M ⟨g,off,Z⟩) ws.length cap):=mZ s1 rfl;have ae:=CW (λp hp=>s4 p (HI.out.1.sub p (je hp))) (ws:=rs.drop (i+1));have ak:=BQ e2 (i+1);have ai:(rs.drop (i+1)).length=ws.length-(i+1):=by rw[dW,HI.out.1.len]
     have am:((rs.drop (i+1)).flatMap lV).length=(ws.length-(i+1))*5:=by rw[mQ lV 5 nD,ai]
     obtain⟨Y,I⟩:∃Y,Y=(rs.drop (i+1)).flatMap lV:=⟨_,rfl⟩
     rw[<-I]at ae ak am;have a8:=(jE e3)
     have bk:wr.heap.size≠g:=by
      have h1:=HI.out.2.1.lt (g:=g) rfl;omega
     have Hn:cH _:=jy ae (jy ak (jy am (jy I (jy e2 (jy e1 (jy ai (jy e3 ac)))))));have br:(i:Int)+1<=(ws.length:Int):=aA
     have b1:(i:Int)+1<=(cap:Int):=aA
     clear e1 e2 e3 s1 s2 s3 s4 s5 ae ak am I ai k0 k1 k2 k3 k4 y0 y1 y2 y3 y4 c10 r0 r1 r2 r3 r4 fk fr;by_cases bo:i+1=cap
     .have a9:ws.length-(i+1)=0:=by omega
      have au:Y=[]:=bP (by rw[Hn.out.2.2.1,a9]);have ap:cH _:=au;clear a9 au;subst bo;go_wp2_with (first|(at_builtin;refine kT _ rfl (.tmp 50) (.tmp 57) 98 rfl 118 i0 5 (uq nz) Hi.out.1 Hi.out.2 g off m _ rfl _ 0 0 Y rfl (by rw[ap.out];rfl) (by intro j u E;rw[ap.out]at E;simp at E) Hn.out.1 aA (by intro j E;rw[ap.out]at E;simp at E) (by intro j;exact Hn.out.2.2.2.2.1.frozen rfl j) ?_;generalize hX:oE _ _ _ _=Wd;have aj:jI (λk=>k=g) w3 Wd:=(by rw[<-hX];exact(jI.grown (kH g _ _ _).1).mono (λk _ e=>by simpa using e.symm));have z:=Hn.out.2.2.2.2.2.1.trans aj (λ_ _ e=>e);obtain⟨s1,s2,s3,s4,s5⟩:=H.out.2.2.2.2.1 Wd z;have b3:=(aj.block _ a8 bk).trans Hn.out.2.2.2.2.2.2.2.1;have x0:Wd.cell? ⟨wr.heap.size,0,Z⟩=M (N ab b.1.epoch):=(by rw[aI b3];rfl);have x1:Wd.cell? ⟨wr.heap.size,1,Z⟩=M (N ab b.1.id):=(by rw[aI b3];rfl);have x2:Wd.cell? ⟨wr.heap.size,2,Z⟩=M (N ab b.1.time):=(by rw[aI b3];rfl);have x3:Wd.cell? ⟨wr.heap.size,3,Z⟩=M (.slice va b.1.txs.length vc):=(by rw[aI b3];rfl);have x4:Wd.cell? ⟨wr.heap.size,4,Z⟩=M (N ab b.1.place):=(by rw[aI b3];rfl);have bb:Wd.cell? ⟨kb,10,Z⟩=M (aH (M ⟨g,off,Z⟩) ws.length (i+1)):=(by rw[aI s1];rfl);have fk:=aQ s1;have fr:=aQ s5;have r0:Wd.cell? ⟨w.heap.size,0,Z⟩=M (N ab 0):=(by rw[aI s5];rfl);have r1:Wd.cell? ⟨w.heap.size,1,Z⟩=M (N ab 0):=(by rw[aI s5];rfl);have r2:Wd.cell? ⟨w.heap.size,2,Z⟩=M (N ab 0):=(by rw[aI s5];rfl);have r3:Wd.cell? ⟨w.heap.size,3,Z⟩=M (aH Z 0 0):=(by rw[aI s5];rfl);have r4:Wd.cell? ⟨w.heap.size,4,Z⟩=M (N ab 0):=(by rw[aI s5];rfl);have HX:cH _:=jy hX z;clear hX z s1 s2 s3 s4 s5 b3 aj)|go_in)
      obtain⟨hD,J,ro,s,stay,hV,h⟩:=H.out;obtain⟨t1,t2,t3,t4,t5,t6,t7,t8,t9⟩:=Hn.out;obtain⟨hX,z⟩:=HX.out;obtain⟨s1,s2,s3,s4,s5⟩:=stay Wd z;have af:=HI.out.1.got HB.out.1 HB.out.2.2.2.2.2.2;have aa:=Row.Ic lV 5 nD t5 (k:=m) (rs.drop (i+1)) aA (by rw[t7];omega);rw[<-t4,hX,t7,show ws.length-(i+1)=0 from by omega]at aa;have ah:(rs.take m++rs.drop (i+1)).length=m+0:=by rw[aS,bK,t7,HI.out.1.len,fZ aA];omega
      refine cM (v:=cQ #[fX #[N ab b.1.epoch,N ab b.1.id,N ab b.1.time,.slice va b.1.txs.length vc,N ab b.1.place],N .u8 3]) (by simp[results,m9,go_sem,r0,r1,r2,r3,r4]) rfl ⟨by rw[af];unfold yK P9;dsimp only;rw[HB.out.2.2.1];rfl,aH (M _) (m+0) (i+1),?_,λq hq=>hq,?_⟩
      .rw[af];refine qF s1 s2 s3 (by rw[ah];exact aa) (λp hp=>?_) s5 (by simp[cV];omega) _ _ _ _ _;obtain hp|hp:=dM.1 hp
       .exact s4 p (HI.out.1.sub p (jd hp))
       .exact s4 p (HI.out.1.sub p (je hp))
      .exact((((jI.below J jB _).trans z (λk _ e=>cD (by rw[e];rfl))).trans (jI.set _ kb 10 _) (λk _ e=>bE e)).trans (qI _ _ _ _ _ _ _) (λk hk e=>aA))
     .go_wp2_with (first|(at_builtin;refine kT _ rfl (.tmp 50) (.tmp 57) 98 rfl 118 i0 5 (uq nz) Hi.out.1 Hi.out.2 g off m cap rfl _ _ _ Y rfl Hn.out.2.2.1 Hn.out.2.1 Hn.out.1 aA (by intro j E;(have a5:j<(ws.length-(i+1))*5:=(by rw[<-Hn.out.2.2.1];exact E));have:=Hn.out.2.2.2.2.1.there (j:=m*5+j) aA;rw[<-dV]at this;exact this) (by intro j;exact Hn.out.2.2.2.2.1.frozen rfl j) ?_;generalize hX:oE _ _ _ _=Wd;have aj:jI (λk=>k=g) w3 Wd:=(by rw[<-hX];exact(jI.grown (kH g _ _ _).1).mono (λk _ e=>by simpa using e.symm));have z:=Hn.out.2.2.2.2.2.1.trans aj (λ_ _ e=>e);obtain⟨s1,s2,s3,s4,s5⟩:=H.out.2.2.2.2.1 Wd z;have b3:=(aj.block _ a8 bk).trans Hn.out.2.2.2.2.2.2.2.1;have x0:Wd.cell? ⟨wr.heap.size,0,Z⟩=M (N ab b.1.epoch):=(by rw[aI b3];rfl);have x1:Wd.cell? ⟨wr.heap.size,1,Z⟩=M (N ab b.1.id):=(by rw[aI b3];rfl);have x2:Wd.cell? ⟨wr.heap.size,2,Z⟩=M (N ab b.1.time):=(by rw[aI b3];rfl);have x3:Wd.cell? ⟨wr.heap.size,3,Z⟩=M (.slice va b.1.txs.length vc):=(by rw[aI b3];rfl);have x4:Wd.cell? ⟨wr.heap.size,4,Z⟩=M (N ab b.1.place):=(by rw[aI b3];rfl);have bb:Wd.cell? ⟨kb,10,Z⟩=M (aH (M ⟨g,off,Z⟩) ws.length cap):=(by rw[aI s1];rfl);have fk:=aQ s1;have fr:=aQ s5;have r0:Wd.cell? ⟨w.heap.size,0,Z⟩=M (N ab 0):=(by rw[aI s5];rfl);have r1:Wd.cell? ⟨w.heap.size,1,Z⟩=M (N ab 0):=(by rw[aI s5];rfl);have r2:Wd.cell? ⟨w.heap.size,2,Z⟩=M (N ab 0):=(by rw[aI s5];rfl);have r3:Wd.cell? ⟨w.heap.size,3,Z⟩=M (aH Z 0 0):=(by rw[aI s5];rfl);have r4:Wd.cell? ⟨w.heap.size,4,Z⟩=M (N ab 0):=(by rw[aI s5];rfl);have HX:cH _:=jy hX z;clear hX z s1 s2 s3 s4 s5 b3 aj)|go_in)
      obtain⟨hD,J,ro,s,stay,hV,h⟩:=H.out;obtain⟨t1,t2,t3,t4,t5,t6,t7,t8,t9⟩:=Hn.out;obtain⟨hX,z⟩:=HX.out;obtain⟨s1,s2,s3,s4,s5⟩:=stay Wd z;have af:=HI.out.1.got HB.out.1 HB.out.2.2.2.2.2.2;have aa:=Row.Ic lV 5 nD t5 (k:=m) (rs.drop (i+1)) aA (by rw[t7];omega);rw[<-t4,hX,t7]at aa;have ah:(rs.take m++rs.drop (i+1)).length=m+(ws.length-(i+1)):=by rw[aS,bK,t7,HI.out.1.len,fZ aA]
      refine cM (v:=cQ #[fX #[N ab b.1.epoch,N ab b.1.id,N ab b.1.time,.slice va b.1.txs.length vc,N ab b.1.place],N .u8 3]) (by simp[results,m9,go_sem,r0,r1,r2,r3,r4]) rfl ⟨by rw[af];unfold yK P9;dsimp only;rw[HB.out.2.2.1];rfl,aH (M _) (m+(ws.length-(i+1))) cap,?_,λq hq=>hq,?_⟩
      .rw[af];refine qF s1 s2 s3 (by rw[ah];exact aa) (λp hp=>?_) s5 (by simp[cV];omega) _ _ _ _ _;obtain hp|hp:=dM.1 hp
       .exact s4 p (HI.out.1.sub p (jd hp))
       .exact s4 p (HI.out.1.sub p (je hp))
      .exact((((jI.below J jB _).trans z (λk _ e=>cD (by rw[e];rfl))).trans (jI.set _ kb 10 _) (λk _ e=>bE e)).trans (qI _ _ _ _ _ _ _) (λk hk e=>aA))
   .have bg:¬(i:Int)<ws.length:=by omega
    clear q1 q2 q3 q4 q5;go_wp2_with fail;obtain⟨hD,J,ro,s,stay,hV,h⟩:=H.out;obtain⟨p1,p2,p3⟩:=HI.out;obtain⟨q1,q2,q3,q4,q5⟩:=stay wr p3;have af:=p1.done aA;rw[af];have ai:=p1.len;have av:=p2.take (k:=m) aA;rw[(qx lV 5 nD rs m).1]at av;refine cM (v:=cQ #[.agg _,.int _ 0]) (by simp[results,m9,go_sem,r0,r1,r2,r3,r4]) rfl ⟨rfl,aH (M _) m cap,?_,λq hq=>hq,?_⟩
    .refine qF q1 q2 q3 (by rw[bK,fZ aA];exact av) (λp hp=>?_) q5 (by simp[cV];omega) _ _ _ _ _;exact q4 p (p1.sub p (jd hp))
    .exact((((jI.below J jB _).trans p3 (λk _ e=>cD (by rw[e];rfl))).trans (jI.set _ kb 10 _) (λk _ e=>bE e)).trans (qI _ _ _ _ _ _ _) (λk hk e=>aA))
end
end Go.Proofs.YtpibpdpedjinhabGreatDoor.Hm
namespace Go.Proofs.YtpibpdpedjinhabGreatDoor.Dv
open Fr (F)
section
variable {l:List F}{n:Nat}{c:Ch}{f:F}
def yu:∀{a b:List Nat},a.Nodup->(∀x,x∈a->x∈b)->a.length<=b.length
 |[],_,_,_=>dL _
 |x::a,b,hn,hs=>by
  have I:=hs x aC;have z:=iE.1 hn;have:=yu (a:=a) (b:=b.erase x) z.2 (λy E=>(List.mem_erase_of_ne (λ(e:y=x)=>z.1 (by rw[<-e];exact E))).2 (hs y (by simp[E])))
  grind
def Uc{l:List Nat}(I:l.Nodup)(E:∀x,x∈l->x<=n):l.length=n+1↔∀k,k<n+1->k∈l:=by
 constructor
 .intro h k hk;refine gW λhc=>?_;have:=yu (b:=(ir (n+1)).erase k) I (λx z=>(List.mem_erase_of_ne (λe=>hc (by rw[<-e];exact z))).2 (gV.2 (by have:=E x z;omega)))
  grind
 .intro h;have J:=yu (b:=ir (n+1)) I (λx z=>gV.2 (by have:=E x z;omega));have h2:=yu (a:=ir _) (b:=l) List.nodup_range (λx z=>h x (gV.1 z))
  grind
def D8:(has l n).isSome=aR↔n∈l.map (·.num):=by unfold has;simp
def uU{l:List F}:∀{k:Nat},(rP l k).isSome=aR↔∀n,n<k->n∈l.map (·.num)
 |0=>by simp[rP]
 |k+1=>by
  have I:=uU (l:=l) (k:=k);unfold rP;constructor
  .intro h n z;cases E:rP l k with
   |none=>simp[E]at h
   |some s=>
    simp only[E,gX,Option.isSome_map]at h;obtain z|rfl:=jm (pB.1 z)
    .grind
    .exact D8.1 h
  .intro h;have J:=I.2 (λn z=>h n aA);have h2:=D8.2 (h k aA);obtain⟨s,hs⟩:=Option.isSome_iff_exists.1 J;simp[hs,h2]
structure Fine(l:List F):Prop where
 apart:(l.map (·.num)).Nodup
 upto:∀n,last l=M n->∀x,x∈l->x.num<=n
def Kz:Fine []:=⟨aC,by simp[last]⟩
def F6(h:Fine l)(z:last l=M n):l.length=n+1↔(bytes l).isSome=aR:=by have:=Uc (l:=l.map _) (n:=n) h.apart (λx I=>by obtain⟨y,E,rfl⟩:=bM.1 I;exact h.upto n z y E);rw[bC]at this;rw[this];unfold bytes;rw[z,gX];exact uU.symm
def J6(l:List F)(f:F):last (l++[f])=(last l).or (if f.last then M f.num else Z):=by
 unfold last
 grind
def L9(p:F->Bool)(h:∀x,x∈l->x.last=aR->p x=aR):last (l.filter p)=last l:=by
 induction l with
 |nil=>rfl
 |cons x l z=>
  have z:=z (λy E=>h y (by simp[E]));unfold last at z⊢
  grind
def Fh:last l=Z↔∀x,x∈l->x.last=aL:=by unfold last;simp
def yX(h:oM c f=aL):f.num∉c.l.map (·.num)/\c.spoilt=aL/\(∀n,last c.l=M n->f.last=aL/\f.num<=n):=by
 unfold oM at h;simp only[ig]at h;obtain⟨⟨z,h2⟩,h3⟩:=h;refine⟨λE=>?_,h2,λn I=>?_⟩
 .rw[D8.2 E]at z;cases z
 grind
def Bq(I:oM c f=aL):last (grown c f)=(last c.l).or (if f.last then M f.num else Z):=by
 obtain⟨h1,h2,h3⟩:=yX I;unfold grown;rw[L9,J6];intro x E z;obtain E|E:=dM.1 E
 .unfold goes;cases R:f.last
  .rfl
  .have J:last c.l=Z:=by
    cases Y:last c.l with
    |none=>rfl
    |some n=>grind
   rw[Fh.1 J x E]at z;cases z
 .rw[dK.1 E];unfold goes;simp
def NS(h:Fine c.l)(I:oM c f=aL):Fine (grown c f):=by
 obtain⟨h1,h2,h3⟩:=yX I;have hl:=Bq I;refine⟨?_,λn z x J=>?_⟩
 .unfold grown;refine(List.filter_sublist.map _).nodup ?_;rw[bJ];refine List.nodup_append.2 ⟨h.apart,aC,λa ha b aa e=>?_⟩
  grind
 .rw[hl]at z;unfold grown at J;obtain⟨E,R⟩:=fU.1 J;cases hc:last c.l with
  |some k=>
   rw[hc]at z;simp at z;subst z;obtain E|E:=dM.1 E
   .exact h.upto k hc x E
   grind
  |none=>
   rw[hc]at z;simp only[Option.none_or]at z;cases Y:f.last
   .grind
   .rw[Y]at z;simp at z;subst z;unfold goes at R
    grind
def size_append(l:List F)(f:F):size (l++[f])=size l+f.data.length:=by simp[size]
def size_filter_le{l:List F}{p:F->Bool}:size (l.filter p)<=size l:=by
 induction l with
 |nil=>simp[size]
 |cons x l ih=>
  unfold size at ih⊢
  grind
def Ti{k:Nat}{s d:List UInt8}(h:rP l k=M s)(hd:has l k=M d):rP l (k+1)=M (s++d):=by simp[rP,h,hd]
end
end Go.Proofs.YtpibpdpedjinhabGreatDoor.Dv
