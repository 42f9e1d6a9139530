import Derived.Test.YtpibpdpedjinhaaGreatDoorPA
import Init
import Derived.Lib.BitFns
set_option maxRecDepth 100000
set_option linter.all false
open Bool renaming false->aL,true->bB
open List renaming drop_succ_cons->lP,replicate->eN
open Option renaming none->Z,some->M
open UInt8 renaming ofNat->cQ
namespace Go.Proofs.YtpibpdpedjinhaaGreatDoor
namespace Sq
def same:List UInt8->Nat
 |[]=>0
 |[_]=>1
 |x::y::r=>if x=y then same (y::r)+1 else 1
def vY(x:UInt8)(r:List UInt8):1<=same (x::r):=by
 cases r with
 |nil=>simp[same]
 |cons y r=>simp only[same];split<;>omega
def wY:∀s:List UInt8,same s<=s.length
 |[]=>by simp[same]
 |[_]=>by simp[same]
 |x::y::r=>by
  have:=wY (y::r);simp only[same,aU]at *;split<;>omega
def wM:∀(k:Nat)(x:UInt8)(r:List UInt8),k<=same (x::r)->(x::r).take k=eN k x
 |0,_,_,_=>aC
 |1,_,_,_=>aC
 |k+2,x,r,h=>by
  cases r with
  |nil=>simp[same]at h
  |cons y r=>
   simp only[same]at h;split at h
   .rename_i e;subst e;have:=wM (k+1) x r aA
    grind
   .omega
def oC:∀(k:Nat)(x:UInt8)(t:List UInt8),1<=k->k<=same (eN k x++t)
 |0,_,_,h=>aA
 |1,x,t,_=>by
  show 1<=same (x::t)
  exact vY x t
 |k+2,x,t,_=>by
  have:=oC (k+1) x t aA
  show k+2<=same (x::x::(eN k x++t))
  have e:same (x::x::(eN k x++t))=same (x::(eN k x++t))+1:=by simp[same]
  grind
structure Plan where
 cost:Nat
 run:Bool
 size:Nat
def nought:Plan:=⟨0,aL,0⟩
def kD(p:Plan):Plan:=
 if p.run=bB\/p.size=0\/p.size=128 then⟨p.cost+2,aL,1⟩else⟨p.cost+1,aL,p.size+1⟩
def best(m:Nat)(T:List Plan):Plan:=
 if 2<=m/\(T.getD (min m 128-1) nought).cost+2<(kD (T.getD 0 nought)).cost then⟨(T.getD (min m 128-1) nought).cost+2,bB,min m 128⟩else kD (T.getD 0 nought)
def tab:List UInt8->List Plan
 |[]=>[nought]
 |x::r=>best (same (x::r)) (tab r)::tab r
def plan(s:List UInt8):Plan:=(tab s).getD 0 nought
def qJ:∀s:List UInt8,(tab s).length=s.length+1
 |[]=>rfl
 |_::r=>by simp[tab,qJ r]
def uQ:∀(k:Nat)(s:List UInt8),k<=s.length->(tab s).getD k nought=plan (s.drop k)
 |0,s,_=>by simp[plan]
 |k+1,[],h=>by simp at h
 |k+1,x::r,h=>by
  simp only[tab,List.getD_cons_succ,lP];exact uQ k r (by simpa using h)
def DK:plan []=nought:=rfl
def og(x:UInt8)(r:List UInt8):plan (x::r)=
  if 2<=same (x::r)/\(plan ((x::r).drop (min (same (x::r)) 128))).cost+2<(kD (plan r)).cost then⟨(plan ((x::r).drop (min (same (x::r)) 128))).cost+2,bB,min (same (x::r)) 128⟩else kD (plan r):=by
 have E:=wY (x::r);have hp:=vY x r
 have e:(tab r).getD (min (same (x::r)) 128-1) nought=plan ((x::r).drop (min (same (x::r)) 128)):=by
  rw[uQ _ _ (by grind)];obtain⟨j,q⟩:∃j,min (same (x::r)) 128=j+1:=⟨min (same (x::r)) 128-1,aA⟩
  rw[q];rfl
 show best (same (x::r)) (tab r)=_
 unfold best;rw[e];rfl
def nR(p:Plan):p.cost+1<=(kD p).cost/\(kD p).cost<=p.cost+2:=by unfold kD;split<;>simp
def uI(x:UInt8)(r:List UInt8):(plan (x::r)).cost<=(kD (plan r)).cost:=by
 rw[og]
 grind
def BF(x:UInt8)(r:List UInt8)(h:2<=same (x::r)):(plan (x::r)).cost<=(plan ((x::r).drop (min (same (x::r)) 128))).cost+2:=by
 rw[og]
 grind
def J7(x:UInt8)(r:List UInt8)(h:2<=same (x::r)):∃y t,r=y::t/\x=y/\same (x::r)=same r+1:=by
 cases r with
 |nil=>simp[same]at h
 |cons y t=>
  refine⟨y,t,rfl,?_⟩;simp only[same]at h⊢
  grind
def Rf:∀(n:Nat)(s:List UInt8),s.length<=n->∀k:Nat,(plan (s.drop k)).cost<=(plan s).cost
 |_,[],_,k=>aC
 |_,_::_,_,0=>aC
 |0,_::_,h,_=>by simp at h
 |n+1,x::r,h,k+1=>by
  have I:=Rf n;have q:r.length<=n:=by simpa using h
  rw[lP];refine bH (I r q k) ?_;have hw:=nR (plan r);rw[og x r];split
  .rename_i h;obtain⟨h2,_⟩:=h;obtain⟨y,t,E,e2,e3⟩:=J7 x r h2;simp only;obtain⟨j,J⟩:∃j,min (same (x::r)) 128=j+1:=⟨min (same (x::r)) 128-1,aA⟩
   rw[J,lP];by_cases h3:2<=same r
   .have g:(plan r).cost<=(plan (r.drop (min (same r) 128))).cost+2:=by
     rw[E]at h3⊢;exact BF y t h3
    obtain⟨d,hd⟩:∃d,min (same r) 128=j+d:=⟨min (same r) 128-j,aA⟩
    have Y:(plan (r.drop (min (same r) 128))).cost<=(plan (r.drop j)).cost:=by
     rw[hd,<-iE];exact I _ aF d
    omega
   .have:j=1:=by
     have:=vY y t;rw[<-E]at this;omega
    subst this;have h4:=uI y t;have h5:=nR (plan t)
    grind
  .omega
def mono(s:List UInt8)(k:Nat):(plan (s.drop k)).cost<=(plan s).cost:=Rf s.length s jE k
def qy:∀(x:UInt8)(r:List UInt8),1<=(plan (x::r)).size/\(plan (x::r)).size<=128/\(plan (x::r)).size<=r.length+1/\
  ((plan (x::r)).run=bB->2<=(plan (x::r)).size/\(plan (x::r)).size<=same (x::r)/\(plan (x::r)).cost=2+(plan ((x::r).drop (plan (x::r)).size)).cost)/\
  ((plan (x::r)).run=aL->(plan (x::r)).cost=1+(plan (x::r)).size+(plan ((x::r).drop (plan (x::r)).size)).cost)
 |x,[]=>by
  have e:plan [x]=⟨2,aL,1⟩:=by simp[plan,tab,best,same,kD,nought]
  rw[e];simp[plan,tab,nought]
 |x,y::t=>by
  have E:=qy y t;have q:=wY (x::y::t);have hp:=vY x (y::t);simp only[aU]at q⊢;rw[og x (y::t)];split
  .grind
  .unfold kD
   grind
def fits(p:Bool×List UInt8):Prop:=1<=p.2.length/\p.2.length<=128/\(p.1=bB->2<=p.2.length/\∃x,p.2=eN p.2.length x)
def xB(p:Bool×List UInt8):Nat:=if p.1=bB then 2 else p.2.length+1
def total:List (Bool×List UInt8)->Nat
 |[]=>0
 |p::l=>xB p+total l
def joined:List (Bool×List UInt8)->List UInt8
 |[]=>[]
 |p::l=>p.2++joined l
def qP:∀(n:Nat)(l:List (Bool×List UInt8)),(joined l).length<=n->(∀p,p∈l->fits p)->
  (plan (joined l)).cost<=total l/\(∀b r,l=(aL,b)::r->b.length<128->total l=(plan (joined l)).cost->(plan (joined l)).run=aL/\(plan (joined l)).size<=b.length)
 |_,[],_,_=>⟨by simp[joined,DK,nought],aC⟩
 |n,(bB,b)::l,hn,hf=>by
  refine⟨?_,aC⟩;obtain⟨h1,h2,h3⟩:=hf _ (dQ ..);obtain⟨h4,x,h5⟩:=h3 rfl;simp only at h1 h2 h4 h5
  have hl:(joined l).length<=n-1/\1<=n:=by
   simp only[joined,aS]at hn;omega
  obtain⟨I,rfl⟩:∃I,n=I+1:=⟨n-1,aA⟩
  have ih:=(qP I l aA (λp hp=>hf p (cZ _ hp))).1;have hs:=oC _ x (joined l) h1;rw[<-h5]at hs;simp only[joined,total,xB,if_true]
  obtain⟨y,t,hy⟩:∃y t,b++joined l=y::t:=by
   cases b with
   |nil=>simp at h1
   |cons y t=>exact⟨y,_,rfl⟩
  have hr:=BF y t (by rw[<-hy];omega);rw[<-hy]at hr;have hd:(b++joined l).drop b.length=joined l:=aC
  obtain⟨d,ae⟩:∃d,min (same (b++joined l)) 128=b.length+d:=⟨min (same (b++joined l)) 128-b.length,aA⟩
  rw[ae,<-iE,hd]at hr;have:=mono (joined l) d;omega
 |n,(aL,b)::l,hn,hf=>by
  obtain⟨h1,h2,_⟩:=hf _ (dQ ..);simp only at h1 h2
  have hl:(joined l).length<=n-1/\1<=n:=by
   simp only[joined,aS]at hn;omega
  obtain⟨I,rfl⟩:∃I,n=I+1:=⟨n-1,aA⟩
  have ac:=λp hp=>hf p (cZ _ hp)
  match b,h1 with
  |[x],_=>
   have ih:=(qP I l aA ac).1;have hw:=uI x (joined l);have hc:=nR (plan (joined l));have ej:joined ((aL,[x])::l)=x::joined l:=rfl;have et:total ((aL,[x])::l)=2+total l:=by simp[total,xB]
   rw[ej,et];refine⟨aA,?_⟩;intro b r Y hb ab;have E:b=[x]:=by simp at Y;exact Y.1.symm
   subst E;have q:(plan (x::joined l)).cost=(plan (joined l)).cost+2:=aA
   rw[og]at q⊢;split at q
   .grind
   .rename_i g;rw[Zs g];unfold kD at q⊢
    grind
  |x::y::c,_=>
   have ej:joined ((aL,x::y::c)::l)=x::joined ((aL,y::c)::l):=rfl;have et:total ((aL,x::y::c)::l)=1+total ((aL,y::c)::l):=by simp[total,xB];omega
   have ag:∀p,p∈(aL,y::c)::l->fits p:=by
    intro p hp;obtain rfl|hp:=dD.1 hp
    .refine⟨aC,?_,aC⟩
     grind
    .exact ac p hp
   have ih:=qP I ((aL,y::c)::l) (by
    grind) ag
   have aa:∃z t,joined ((aL,y::c)::l)=z::t:=⟨y,_,rfl⟩
   rw[ej,et];generalize joined ((aL,y::c)::l)=J at ih aa⊢;generalize total ((aL,y::c)::l)=K at ih⊢;obtain⟨ah,af⟩:=ih;have hw:=uI x J;have hc:=nR (plan J);simp only[aU]at h2;by_cases hk:K=(plan J).cost
   .obtain⟨g1,g2⟩:=af _ l rfl (by grind) hk;obtain⟨z,t,hz⟩:=aa;have g3:=(qy z t).1;rw[<-hz]at g3;simp only[aU]at g2
    have ew:kD (plan J)=⟨(plan J).cost+1,aL,(plan J).size+1⟩:=by
     unfold kD;rw[Zs];simp only[not_or,g1];refine⟨aC,aA,aA⟩
    rw[ew]at hw hc;simp only at hw hc;refine⟨aA,?_⟩;intro b r Y hb ab;have E:b=x::y::c:=by simp at Y;exact Y.1.symm
    subst E;have q:(plan (x::J)).cost=(plan J).cost+1:=aA
    rw[og,ew]at q⊢
    grind
   .refine⟨aA,?_⟩;intro b r Y hb ab;have E:b=x::y::c:=by simp at Y;exact Y.1.symm
    subst E;have q:(plan (x::J)).cost=(plan J).cost+2:=aA
    rw[og]at q⊢;split at q
    .grind
    .rename_i g;rw[Zs g];unfold kD at q⊢
     grind
def Ib:∀(n:Nat)(s:List UInt8),s.length<=n->∃l,(∀p,p∈l->fits p)/\joined l=s/\total l=(plan s).cost
 |_,[],_=>⟨[],aC,rfl,rfl⟩
 |0,_::_,h=>by simp at h
 |n+1,x::r,h=>by
  obtain⟨h1,h2,h3,h4,h5⟩:=qy x r;generalize hp:plan (x::r)=p at h1 h2 h3 h4 h5;simp only[aU]at h;obtain⟨l,g1,Y,g3⟩:=Ib n ((x::r).drop p.size) aF;have E:((x::r).take p.size).length=p.size:=aF
  refine⟨(p.run,(x::r).take p.size)::l,?_,?_,?_⟩
  .intro q I;obtain rfl|I:=dD.1 I
   .refine⟨?_,?_,?_⟩
    .simp only[E];omega
    .simp only[E];omega
    .intro hr;simp only[E];obtain⟨J,k2,_⟩:=h4 hr;exact⟨J,x,wM _ _ _ k2⟩
   .exact g1 q I
  .simp only[joined,Y,List.take_append_drop]
  .simp only[total,xB,g3,E]
   grind
def F8(a b:List (Bool×List UInt8)):joined (a++b)=joined a++joined b:=by
 induction a with
 |nil=>rfl
 |cons p a ih=>simp[joined,ih]
def Kw(a b:List (Bool×List UInt8)):total (a++b)=total a+total b:=by
 induction a with
 |nil=>simp[total]
 |cons p a ih=>simp[total,ih];omega
def back(l:List (Bool×List UInt8)):List (Bool×List UInt8):=(l.map λp=>(p.1,p.2.reverse)).reverse
def Ic(p:Bool×List UInt8)(l:List (Bool×List UInt8)):back (p::l)=back l++[(p.1,p.2.reverse)]:=by simp[back]
def Bg(l:List (Bool×List UInt8)):joined (back l)=(joined l).reverse:=by
 induction l with
 |nil=>rfl
 |cons p l ih=>rw[Ic,F8,ih];simp[joined]
def FB(l:List (Bool×List UInt8)):total (back l)=total l:=by
 induction l with
 |nil=>rfl
 |cons p l ih=>rw[Ic,Kw,ih];simp[total,xB];omega
def IY(l:List (Bool×List UInt8))(h:∀p,p∈l->fits p):∀p,p∈back l->fits p:=by
 intro p hp;simp only[back,List.mem_reverse,bM]at hp;obtain⟨q,E,rfl⟩:=hp;obtain⟨I,h2,h3⟩:=h q E;refine⟨by simpa using I,by simpa using h2,?_⟩
 grind
def cand(T:List Nat)(k f:Nat):Nat:=if T.getD k 0+1+(k+1)<f then T.getD k 0+1+(k+1)else f
def inner(big:Nat)(m:Nat)(T:List Nat):Nat->Nat
 |0=>big
 |k+1=>if k+1<=m/\2<=k+1/\T.getD k 0+2<cand T k (inner big m T k)then T.getD k 0+2 else cand T k (inner big m T k)
def ab4(T:List Nat)(k f:Nat):cand T k f<=f/\cand T k f<=T.getD k 0+1+(k+1):=by unfold cand;split<;>omega
def aaG(T:List Nat)(k f:Nat):cand T k f=f\/cand T k f=T.getD k 0+1+(k+1):=by unfold cand;split<;>simp
def rQ(big:Nat):List UInt8->List Nat
 |[]=>[0]
 |x::r=>inner big (same (x::r)) (rQ big r) (min (r.length+1) 128)::rQ big r
def few(big:Nat)(u:List UInt8):Nat:=(rQ big u).getD 0 0
def uS(big:Nat):∀(k:Nat)(s:List UInt8),k<=s.length->(rQ big s).getD k 0=few big (s.drop k)
 |0,s,_=>by simp[few]
 |k+1,[],h=>by simp at h
 |k+1,x::r,h=>by
  simp only[rQ,List.getD_cons_succ,lP];exact uS big k r (by simpa using h)
def NU(big m:Nat)(T:List Nat):∀(K k:Nat),k<K->inner big m T K<=T.getD k 0+1+(k+1)/\(k+1<=m->2<=k+1->inner big m T K<=T.getD k 0+2)
 |0,_,h=>aA
 |K+1,k,h=>by
  have c:=ab4 T K (inner big m T K)
  have step:inner big m T (K+1)<=cand T K (inner big m T K):=by
   rw[inner];split<;>omega
  by_cases hk:k<K
  .have q:=NU big m T K k hk;omega
  .obtain rfl:k=K:=by omega
   refine⟨aA,λa b=>?_⟩;rw[inner]
   grind
def Fz(big m:Nat)(T:List Nat):∀K:Nat,inner big m T K=big\/∃k,k<K/\(inner big m T K=T.getD k 0+1+(k+1)\/(k+1<=m/\2<=k+1/\inner big m T K=T.getD k 0+2))
 |0=>.inl rfl
 |K+1=>by
  have q:=Fz big m T K;rw[inner];split
  .grind
  .obtain c|c:=aaG T K (inner big m T K)
   .grind
   grind
def YM(big:Nat)(x:UInt8)(r:List UInt8):few big (x::r)=inner big (same (x::r)) (rQ big r) (min (r.length+1) 128):=rfl
def Y6(big:Nat)(x:UInt8)(r:List UInt8)(k:Nat)(E:k<128)(q:k<=r.length):few big (x::r)<=few big (r.drop k)+1+(k+1)/\(k+1<=same (x::r)->2<=k+1->few big (x::r)<=few big (r.drop k)+2):=by
 have h:=NU big (same (x::r)) (rQ big r) (min (r.length+1) 128) k aA;rw[uS big k r q]at h;exact h
def zT(big:Nat):∀u:List UInt8,few big u<=2*u.length
 |[]=>by simp[few,rQ]
 |x::r=>by
  have:=(Y6 big x r 0 aA aA).1;have q:=zT big r
  grind
def Ja(big:Nat):∀(l:List (Bool×List UInt8)),(∀p,p∈l->fits p)->few big (joined l)<=total l
 |[],_=>by simp[joined,few,rQ]
 |(b,[])::l,hf=>by
  have:=(hf _ (dQ ..)).1;simp at this
 |(b,x::c)::l,hf=>by
  obtain⟨q,h2,h3⟩:=hf _ (dQ ..);simp only[aU]at q h2 h3;have E:=Ja big l (λp hp=>hf p (cZ _ hp));have h:=Y6 big x (c++joined l) c.length aA aC;have hd:(c++joined l).drop c.length=joined l:=aC
  rw[hd]at h;simp only[joined,total,xB,dN,aU];cases b with
  |false=>simp;omega
  |true=>
   obtain⟨h4,y,I⟩:=h3 rfl;have hs:=oC (c.length+1) y (joined l) aA
   grind
def Ol(big:Nat):∀(n:Nat)(u:List UInt8),u.length<=n->2*u.length<big\/u=[]->∃l,(∀p,p∈l->fits p)/\joined l=u/\total l=few big u
 |_,[],_,_=>⟨[],aC,rfl,rfl⟩
 |0,_::_,h,_=>by simp at h
 |n+1,x::r,h,J=>by
  have aa:2*(r.length+1)<big:=by rcases J with J|J<;>simp at J;omega
  have hs:=zT big (x::r);rw[YM]at *;have hl:=wY (x::r);simp only[aU]at h hl hs;obtain g|⟨k,hk,g⟩:=Fz big (same (x::r)) (rQ big r) (min (r.length+1) 128)
  .omega
  .rw[uS big k r aA]at g;obtain⟨l,g1,Y,g3⟩:=Ol big n (r.drop k) aF (.inl aF);obtain g|⟨k1,k2,g⟩:=g
   .refine⟨(aL,x::r.take k)::l,?_,?_,?_⟩
    .intro q I;obtain rfl|I:=dD.1 I
     .refine⟨aC,aF,aC⟩
     .exact g1 q I
    .simp[joined,Y]
    .simp only[total,xB,g3,g];simp;omega
   .refine⟨(bB,x::r.take k)::l,?_,?_,?_⟩
    .intro q I;obtain rfl|I:=dD.1 I
     .have E:(x::r.take k).length=k+1:=by simp;omega
      refine⟨aC,by simp only[E];omega,λ_=>?_⟩;simp only[E];exact⟨k2,x,by rw[<-wM _ _ _ k1];rfl⟩
     .exact g1 q I
    .simp[joined,Y]
    .simp only[total,xB,g3,g];simp;omega
def ZO(big:Nat)(s:List UInt8)(J:2*s.length<big\/s=[]):(plan s).cost=few big s.reverse:=by obtain⟨l,I,h2,h3⟩:=Ib _ s jE;obtain⟨m,E,q,Y⟩:=Ol big _ s.reverse jE (by simpa using J);have a:=Ja big _ (IY l I);rw[Bg,FB,h2,h3]at a;have b:=(qP _ _ jE (IY m E)).1;rw[Bg,FB,q,Y,List.reverse_reverse]at b;omega
def piece:List UInt8->Option (List UInt8×Nat)
 |[]=>Z
 |c::r=>
  if c.toNat<128 then(if c.toNat+1<=r.length then M (r.take (c.toNat+1),c.toNat+2)else Z)
  else if c.toNat=128 then Z
  else match r with
   |[]=>Z
   |b::_=>M (eN (257-c.toNat) b,2)
def spread:Nat->List UInt8->Int->List UInt8->List UInt8×Bool
 |0,_,_,out=>(out,bB)
 |f+1,s,most,out=>
  if s=[]then(out,bB)else
  match piece s with
  |none=>(out,aL)
  |some (t,n)=>if max most 0<(out.length:Int)+t.length then(out++t.take ((max most 0).toNat-out.length),aL)else spread f (s.drop n) most (out++t)
def Eu(f:Nat)(most:Int)(out:List UInt8):spread f [] most out=(out,bB):=by
 cases f<;>simp[spread]
def Ou(f:Nat)(s:List UInt8)(most:Int)(out:List UInt8)(I:0<s.length)(E:s.length<=f)(hp:piece s=Z):spread f s most out=(out,aL):=by
 obtain⟨q,rfl⟩:∃q,f=q+1:=⟨f-1,aA⟩
 rw[spread,Zs (by grind),hp]
def BA(f:Nat)(s:List UInt8)(most:Int)(out t:List UInt8)(n:Nat)(I:0<s.length)(E:s.length<=f)(hp:piece s=M (t,n)):
  spread f s most out=if max most 0<(out.length:Int)+t.length then(out++t.take ((max most 0).toNat-out.length),aL)else spread (f-1) (s.drop n) most (out++t):=by
 obtain⟨q,rfl⟩:∃q,f=q+1:=⟨f-1,aA⟩
 rw[spread,Zs (by grind),hp];rfl
def Nl(s:List UInt8)(t:List UInt8)(n:Nat)(h:piece s=M (t,n)):2<=n/\n<=s.length/\1<=t.length/\t.length<=128:=by
 cases s with
 |nil=>simp[piece]at h
 |cons c r=>
  simp only[piece]at h;have q:=c.toNat_lt
  grind
def first(p:Plan)(s:List UInt8):List UInt8:=
 if p.run=bB then [cQ (257-p.size),s.headD 0]else cQ (p.size-1)::s.take p.size
def enc:Nat->List UInt8->List UInt8
 |0,_=>[]
 |f+1,s=>if s=[]then []else first (plan s) s++enc f (s.drop (plan s).size)
def KA(f:Nat):enc f []=[]:=by cases f<;>simp[enc]
def lD:∀(f:Nat)(s:List UInt8),s.length<=f->(enc f s).length=(plan s).cost
 |f,[],_=>by rw[KA];rfl
 |0,_::_,h=>by simp at h
 |f+1,x::r,h=>by
  obtain⟨E,h2,h3,h4,I⟩:=qy x r;simp only[aU]at h;have q:=lD f ((x::r).drop (plan (x::r)).size) aF;rw[enc,Zs aC,aS,q];unfold first
  grind
def Ny(x:UInt8)(r rest:List UInt8):piece (first (plan (x::r)) (x::r)++rest)=M ((x::r).take (plan (x::r)).size,(first (plan (x::r)) (x::r)).length):=by
 obtain⟨Y,h2,h3,h4,h5⟩:=qy x r;unfold first
 cases I:(plan (x::r)).run with
 |true=>
  obtain⟨J,E,_⟩:=h4 I;rw[wM _ _ _ E];generalize (plan (x::r)).size=n at *;have e:(cQ (257-n)).toNat=257-n:=aF
  simp only[if_true,dN,dS,piece,e,List.headD_cons,aU,bY]
  grind
 |false=>
  have q:((x::r).take (plan (x::r)).size).length=(plan (x::r)).size:=aF
  generalize (x::r).take (plan (x::r)).size=t at *;generalize (plan (x::r)).size=n at *;have e:(cQ (n-1)).toNat=n-1:=aF
  simp only[bU,if_false,dN,piece,e,aU,aS,q]
  grind
def EL:∀(f:Nat)(s:List UInt8)(F:Nat)(most:Int)(out:List UInt8),s.length<=f->(enc f s).length<=F->(out.length:Int)+s.length<=most->spread F (enc f s) most out=(out++s,bB)
 |f,[],F,most,out,_,_,_=>by rw[KA,Eu];simp
 |0,_::_,_,_,_,h,_,_=>by simp at h
 |f+1,x::r,F,most,out,h,hF,hm=>by
  obtain⟨Y,h2,h3,h4,h5⟩:=qy x r;simp only[aU]at h hm;have hp:=Ny x r (enc f ((x::r).drop (plan (x::r)).size));have J:1<=(first (plan (x::r)) (x::r)).length:=by unfold first;split<;>simp
  rw[enc,Zs aC]at hF⊢;rw[aS]at hF;obtain⟨E,rfl⟩:∃E,F=E+1:=⟨F-1,aA⟩
  rw[spread,Zs (by intro I;rw[I]at hp;simp[piece]at hp),hp];simp only;have q:((x::r).take (plan (x::r)).size).length=(plan (x::r)).size:=aF
  rw[q,Zs aA,List.drop_left']
  .rw[EL f _ E most _ aF aA aF];simp
  .rfl
end Sq
namespace Im
section
variable {l:List Nat}{n:Nat}
structure It where
 list:Bool
 bytes:List UInt8
 kids:List It
variable {i:It}
def wt:Nat->It->Nat
 |0,_=>0
 |n+1,i=>i.bytes.length+1+(i.kids.map (wt n)).sum
theorem ac5{x:Nat}(h:x∈l):x<=l.sum:=by
 induction l with
 |nil=>cases h
 |cons a l ih=>
  grind
theorem Fg{k:It}(h:k∈i.kids):wt n k+1<=wt (n+1) i:=by have:wt n k∈i.kids.map (wt n):=bM.2 ⟨k,h,rfl⟩;have:=ac5 this;simp only[wt];omega
theorem aaN(h:∀x,x∈l->1<=x):l.length<=l.sum:=by
 induction l with
 |nil=>simp
 |cons a l ih=>
  have q:=h a (dQ ..)
  grind
def dp:Nat->It->Prop
 |0,_=>False
 |n+1,i=>∀k,k∈i.kids->dp n k
theorem adB(h:dp n i):1<=wt n i:=by
 cases n with
 |zero=>cases h
 |succ n=>simp only[wt];omega
theorem wH(h:dp n i):i.kids.length+i.bytes.length+1<=wt n i:=by
 cases n with
 |zero=>cases h
 |succ n=>
  have:=aaN (l:=i.kids.map (wt n)) (λx q=>by
   obtain⟨k,hk,rfl⟩:=bM.1 q;exact adB (h k hk))
  rw[bC]at this;simp only[wt];omega
def num:Nat->Nat->List UInt8
 |0,_=>[]
 |f+1,n=>if n=0 then []else num f (n/256)++[cQ (n%256)]
def wid(n:Nat):Nat:=if n=0 then 0 else if n<256 then 1 else if n<65536 then 2 else if n<16777216 then 3 else 4
theorem uV(f:Nat):num f 0=[]:=by cases f<;>simp[num]
theorem CO(n:Nat)(q:n≠0)(h:n<4294967296):wid n=wid (n/256)+1:=by
 unfold wid
 grind
theorem qg(n:Nat):wid n<=4/\wid n<=n:=by
 unfold wid
 grind
theorem Ce:∀(f n:Nat),n<4294967296->wid n<=f->(num f n).length=wid n
 |0,n,_,h=>by simp[num];omega
 |f+1,n,hn,h=>by
  rw[num];split
  .rename_i e;subst e;simp[wid]
  .rename_i e;have:=CO n e hn;rw[aS,Ce f (n/256) aA aA];simp;omega
theorem zk:∀(f n:Nat),n<4294967296->wid n<=f->num f n=num (wid n) n
 |0,n,_,h=>by
  grind
 |f+1,n,hn,h=>by
  by_cases e:n=0
  .subst e;rw[uV,uV]
  .have hw:=CO n e hn;rw[hw,num,num,Zs e,Zs e,zk f (n/256) aA aA]
def shifts(n:Nat):Nat->List UInt8
 |0=>[]
 |k+1=>cQ (n/256 ^ k%256)::shifts n k
theorem AA(n:Nat):∀k:Nat,shifts n (k+1)=shifts (n/256) k++[cQ (n%256)]
 |0=>by simp[shifts]
 |k+1=>by
  rw[shifts,AA n k,shifts];have:n/256 ^ (k+1)=n/256/256 ^ k:=by rw[Nat.pow_succ,Nat.mul_comm,Nat.div_div_eq_div_mul]
  rw[this];rfl
theorem Dx:∀(k n:Nat),n<4294967296->wid n=k->shifts n k=num k n
 |0,n,_,h=>by
  have:n=0:=by
   unfold wid at h
   repeat' split at h
   all_goals omega
  subst this;rfl
 |k+1,n,hn,h=>by
  have e:n≠0:=by intro e;subst e;simp[wid]at h
  have hw:=CO n e hn;rw[AA,num,Zs e,Dx k (n/256) aA aA]
theorem XO(n:Nat)(h:n<4294967296):(Lib.bitLen n+7)/8=wid n:=by
 have small:∀m:Nat,0<m->m<256->1<=Lib.bitLen m/\Lib.bitLen m<=8:=by
  intro m E q;exact⟨by have:=(by decide+kernel:∀x:Fin _,0<x.val->1<=Lib.bitLen x.val) ⟨m,q⟩ E;exact this,Lib.bitLen_le8 ⟨m,q⟩⟩
 unfold wid;split
 .rename_i e;subst e;decide
 .split
  .grind
  .split
   .rw[Lib.bitLen_shift8 n aA aA]
    grind
   .split
    .rw[Lib.bitLen_shift16 n aA aA]
     grind
    .rw[Lib.bitLen_shift24 n aA aA]
     grind
def head(q n:Nat):List UInt8:=if n<=55 then [cQ (q+n)]else cQ (q+55+wid n)::num 4 n
def begun(q:Nat)(s:List UInt8):List UInt8:=head q s.length++s
def bare(b:List UInt8):Bool:=match b with|[x]=>decide (x.toNat<128)|_=>aL
def sc(b:List UInt8):List UInt8:=if bare b then b else begun 128 b
def cat(f:It->Option (List UInt8)):List It->Option (List UInt8)
 |[]=>M []
 |k::r=>match f k with
  |none=>Z
  |some c=>match cat f r with
   |none=>Z
   |some s=>M (c++s)
def code:Nat->It->Option (List UInt8)
 |0,i=>if i.list=bB then Z else if i.kids.isEmpty then M (sc i.bytes)else Z
 |d+1,i=>if i.list=bB then(if i.bytes.isEmpty then(match cat (code d) i.kids with|none=>Z|some s=>M (begun 192 s))else Z)else if i.kids.isEmpty then M (sc i.bytes)else Z
theorem Fa(q n:Nat)(h:n<4294967296):(head q n).length=if n<=55 then 1 else 1+wid n:=by
 unfold head;split
 .rfl
 .rw[aU,Ce 4 n h (qg n).1];omega
theorem wQ(q n:Nat)(h:n<4294967296):1<=(head q n).length/\(head q n).length<=5:=by have:=qg n;rw[Fa q n h];split<;>omega
theorem E5(f g:It->Option (List UInt8)):∀(l:List It)(s:List UInt8),(∀k c,k∈l->f k=M c->g k=M c)->cat f l=M s->cat g l=M s
 |[],s,_,h=>h
 |k::r,s,hk,h=>by
  rw[cat]at h;cases q:f k with
  |none=>rw[q]at h;simp at h
  |some c=>
   rw[q]at h;cases E:cat f r with
   |none=>rw[E]at h;simp at h
   |some t=>
    rw[E]at h;rw[cat,hk k c (dQ ..) q];simp only;rw[E5 f g r t (λx c I=>hk x c (cZ _ I)) E];exact h
theorem RP:∀(d:Nat)(i:It)(c:List UInt8),code d i=M c->code (d+1) i=M c
 |0,i,c,h=>by
  simp only[code]at h⊢
  grind
 |d+1,i,c,h=>by
  rw[code]at h⊢;split at h
  .rename_i e;rw[ZD e];split at h
   .rename_i E;rw[ZD E];cases q:cat (code d) i.kids with
    |none=>rw[q]at h;simp at h
    |some s=>
     rw[q]at h;rw[E5 (code d) (code (d+1)) i.kids s (λk c _=>RP d k c) q];exact h
   .simp at h
  grind
theorem I4(i:It)(c:List UInt8):∀(e d:Nat),code d i=M c->code (d+e) i=M c
 |0,_,h=>h
 |e+1,d,h=>RP (d+e) i c (I4 i c e d h)
theorem Yx(b:List UInt8)(h:b.length<=2097152):(sc b).length<=b.length+5:=by
 unfold sc begun;split
 .omega
 .rw[aS];have:=wQ 128 b.length aA;omega
theorem Ku(f:It->Option (List UInt8))(g:It->Nat):∀(l:List It)(s:List UInt8),(∀k c,k∈l->f k=M c->c.length<=6*g k)->cat f l=M s->s.length<=6*(l.map g).sum
 |[],s,_,h=>by simp[cat]at h;subst h;simp
 |k::r,s,hk,h=>by
  rw[cat]at h;cases q:f k with
  |none=>rw[q]at h;simp at h
  |some c=>
   rw[q]at h;cases E:cat f r with
   |none=>rw[E]at h;simp at h
   |some t=>
    rw[E]at h;simp only[aK]at h;subst h;have J:=hk k c (dQ ..) q;have h2:=Ku f g r t (λx c I=>hk x c (cZ _ I)) E
    grind
theorem vX:∀(n d:Nat)(i:It)(c:List UInt8),dp n i->wt n i<=2097152->code d i=M c->c.length<=6*wt n i
 |0,_,_,_,h,_,_=>by cases h
 |n+1,d,i,c,h,hw,q=>by
  have hk:=wH h
  have str:(if i.kids.isEmpty then M (sc i.bytes)else Z)=M c->c.length<=6*wt (n+1) i:=by
   intro h;split at h
   .simp only[aK]at h;subst h;have:=Yx i.bytes aA;omega
   .simp at h
  cases d with
  |zero=>
   simp only[code]at q
   grind
  |succ d=>
   simp only[code]at q;split at q
   .split at q
    .cases E:cat (code d) i.kids with
     |none=>grind
     |some s=>
      rw[E]at q;simp only[aK]at q;subst q
      have I:=Ku _ (wt n) _ s (λk c hk q=>by
       have:=Fg (n:=n) hk;exact vX n d k c (h k hk) aA q) E
      have hs:(i.kids.map (wt n)).sum<=wt (n+1) i:=by simp only[wt];omega
      have:=wQ 192 s.length aA;unfold begun;rw[aS];simp only[wt]at hw hs⊢;omega
    .simp at q
   .exact str q
theorem tN{d:Nat}{l:List It}{s:List UInt8}(h:dp (n+1) i)(hw:wt (n+1) i<=2097152)(E:∀k,k∈l->k∈i.kids)(hs:(l.map (wt n)).sum<=wt (n+1) i)(q:cat (code d) l=M s):s.length<=12582912:=by
 have:=Ku _ (wt n) l s (λk c hk q=>by
  have:=Fg (n:=n) (E k hk);exact vX n d k c (h k (E k hk)) aA q) q
 omega
theorem WW(f:It->Option (List UInt8))(l:List It)(k:It):cat f (l++[k])=(match cat f l with|none=>Z|some s=>match f k with|none=>Z|some c=>M (s++c)):=by
 induction l with
 |nil=>
  simp only[dS,cat];cases f k<;>simp
 |cons x l ih=>
  rw[dN,cat,cat,ih];cases f x with
  |none=>rfl
  |some c=>
   grind
theorem AV(f:It->Option (List UInt8))(l:List It)(k:It)(s:List UInt8)(h:cat f l=M s):cat f (l++[k])=(f k).map (λc=>s++c):=by rw[WW,h];cases f k<;>rfl
theorem sK(d:Nat)(i:It)(q:i.list=bB)(h2:i.bytes.isEmpty=bB):code (d+1) i=(cat (code d) i.kids).map (begun 192):=by
 simp only[code]
 grind
theorem ZK(f:It->Option (List UInt8))(l:List It)(k:It)(r:List It)(h:f k=Z):cat f (l++k::r)=Z:=by
 induction l with
 |nil=>simp only[dS,cat,h]
 |cons x l ih=>
  rw[dN,cat,ih];cases f x<;>rfl
end
def val:List UInt8->Nat->Nat
 |[],a=>a
 |x::r,a=>val r (256*a+x.toNat)
def val_append:∀(a b:List UInt8)(n:Nat),val (a++b) n=val b (val a n)
 |[],_,_=>rfl
 |x::a,b,n=>by simp only[dN,val];exact val_append a b _
def Q7:∀(k n:Nat),n<256 ^ k->val (num k n) 0=n
 |0,n,h=>by simp at h;subst h;rfl
 |k+1,n,h=>by
  rw[num];split
  .rename_i e;subst e;rfl
  .rw[val_append,Q7 k (n/256) aA];simp only[val];have:(cQ (n%256)).toNat=n%256:=by simp
   rw[this];omega
def XQ(n:Nat)(h:n<4294967296):n<256 ^ wid n:=by
 unfold wid
 grind
def Rq(n:Nat)(h:n<4294967296):val (num 4 n) 0=n:=by rw[zk 4 n h (qg n).1];exact Q7 _ n (XQ n h)
def NJ(n:Nat)(q:n≠0)(h:n<4294967296):∃x r,num 4 n=x::r/\x≠0:=by
 have key:∀(k n:Nat),n≠0->n<256 ^ k->∃x r,num k n=x::r/\x≠0:=by
  intro k
  induction k with
  |zero=>omega
  |succ k ih=>
   intro n q h;rw[num,Zs q];by_cases e:n/256=0
   .rw[e,uV];refine⟨_,[],rfl,λE=>?_⟩;have:=Z1 UInt8.toNat E;simp at this;omega
   .obtain⟨x,r,I,h2⟩:=ih _ e aA
    grind
 rw[zk 4 n h (qg n).1];exact key _ n q (XQ n h)
def chk(l:Bool)(s:List UInt8)(q n:Nat):Option (Bool×Nat×Nat):=
 if s.length-q<n then Z else if l=aL/\n=1/\(s.getD q 0).toNat<128 then Z else M (l,q,q+n)
def far(l:Bool)(s:List UInt8)(q:Nat):Option (Bool×Nat×Nat):=
 if s.length<q\/s.getD 1 0=0 then Z else if val ((s.take q).drop 1) 0<=55 then Z else chk l s q (val ((s.take q).drop 1) 0)
def body(s:List UInt8):Option (Bool×Nat×Nat):=
 match s with
 |[]=>Z
 |c::_=>
  if c.toNat<128 then M (aL,0,1)
  else if c.toNat<=183 then chk aL s 1 (c.toNat-128)
  else if c.toNat<=187 then far aL s (1+(c.toNat-183))
  else if c.toNat<192 then Z
  else if c.toNat<=247 then chk bB s 1 (c.toNat-192)
  else if c.toNat<=251 then far bB s (1+(c.toNat-247))
  else Z
def Ec(l:Bool)(b rest:List UInt8)(J:b.length<4294967296)(hn:l=aL->bare b=aL):
  body (begun (if l=bB then 192 else 128) b++rest)=M (l,(head (if l=bB then 192 else 128) b.length).length,(head (if l=bB then 192 else 128) b.length).length+b.length):=by
 unfold begun head;by_cases I:b.length<=55
 .rw[ZD I]
  have E:∀x:UInt8,chk l ([x]++b++rest) 1 b.length=M (l,1,1+b.length):=by
   intro x;unfold chk;rw[Zs aC,Zs];rintro⟨rfl,Y,h2⟩
   match b,Y with
   |[y],_=>have:=hn rfl;simp[bare]at this;simp at h2;omega
  cases l with
  |true=>
   have e:(cQ (192+b.length)).toNat=192+b.length:=aF
   have:=E (cQ (192+b.length));simp only[if_true,dN,dS,body,e,aU,bY]at this⊢
   grind
  |false=>
   have e:(cQ (128+b.length)).toNat=128+b.length:=aF
   have:=E (cQ (128+b.length));simp only[bU,if_false,dN,dS,body,e,aU,bY]at this⊢
   grind
 .rw[Zs I];have hw:=qg b.length
  have aa:1<=wid b.length:=by
   unfold wid
   repeat' split
   all_goals omega
  have q:=Ce 4 _ J hw.1;obtain⟨y,r,hy,ab⟩:=NJ _ aA J;have hv:=Rq _ J
  have CV:∀x:UInt8,far l (x::num 4 b.length++b++rest) (1+wid b.length)=M (l,1+wid b.length,1+wid b.length+b.length):=by
   intro x
   have et:((x::num 4 b.length++b++rest).take (1+wid b.length)).drop 1=num 4 b.length:=by
    rw[Nat.add_comm,dN,dN,List.take_succ_cons,lP,List.drop_zero,fM,<-q,List.take_left]
   unfold far;rw[et,hv,Zs,Zs I]
   .unfold chk;rw[Zs (by simp[q];omega),Zs aA]
   .grind
  cases l with
  |true=>
   have e:(cQ (192+55+wid b.length)).toNat=192+55+wid b.length:=aF
   have:=CV (cQ (192+55+wid b.length));simp only[if_true,dN,body,e,aU,q]at this⊢
   grind
  |false=>
   have e:(cQ (128+55+wid b.length)).toNat=128+55+wid b.length:=aF
   have:=CV (cQ (128+55+wid b.length));simp only[bU,if_false,dN,body,e,aU,q]at this⊢
   grind
def Uf(x:UInt8)(rest:List UInt8)(h:x.toNat<128):body (x::rest)=M (aL,0,1):=by simp[body,h]
def Oi{l:Bool}{s:List UInt8}{f n:Nat}{x:Bool×Nat×Nat}(h:chk l s f n=M x):x=(l,f,f+n)/\n<=s.length-f/\(l=aL->n=1->128<=(s.getD f 0).toNat):=by
 unfold chk at h
 grind
def many(g:List UInt8->Option (It×Nat)):Nat->List UInt8->Option (List It)
 |0,s=>if s=[]then M []else Z
 |f+1,s=>if s=[]then M []else match g s with
  |none=>Z
  |some (i,n)=>(many g f (s.drop n)).map (λl=>i::l)
def read(b:List UInt8->Option (Bool×Nat×Nat)):Nat->List UInt8->Option (It×Nat)
 |0,s=>match b s with
  |some (aL,f,t)=>M (⟨aL,(s.take t).drop f,[]⟩,t)
  |_=>Z
 |d+1,s=>match b s with
  |none=>Z
  |some (aL,f,t)=>M (⟨aL,(s.take t).drop f,[]⟩,t)
  |some (bB,f,t)=>(many (read b d) s.length ((s.take t).drop f)).map (λl=>(⟨bB,[],l⟩,t))
def L8(g:List UInt8->Option (It×Nat))(f:Nat):many g f []=M []:=by cases f<;>simp[many]
def Nr(g:List UInt8->Option (It×Nat))(h:It->Option (List UInt8)):∀(l:List It)(s:List UInt8)(f:Nat),cat h l=M s->s.length<=f->(∀k c rest,k∈l->h k=M c->c.length<=s.length->g (c++rest)=M (k,c.length)/\1<=c.length)->many g f s=M l
 |[],s,f,hc,_,_=>by
  simp only[cat,aK]at hc;subst hc;exact L8 g f
 |k::l,s,f,hc,hf,hg=>by
  rw[cat]at hc;cases hk:h k with
  |none=>grind
  |some c=>
   rw[hk]at hc;cases E:cat h l with
   |none=>grind
   |some t=>
    rw[E]at hc;simp only[aK]at hc;subst hc;rw[aS]at hf;obtain⟨I,Y⟩:=hg k c t (dQ ..) hk aC;obtain⟨q,rfl⟩:∃q,f=q+1:=⟨f-1,aA⟩
    rw[many,Zs (by grind),I];simp only[List.drop_left];rw[Nr g h l t q E aA (λk c rest hk J hl=>hg k c rest (cZ _ hk) J (by grind))];rfl
def Aj(b:List UInt8->Option (Bool×Nat×Nat))(hb:∀s x,body s=M x->b s=M x):∀(d:Nat)(i:It)(c rest:List UInt8),code d i=M c->c.length<4294967296->read b d (c++rest)=M (i,c.length)/\1<=c.length:=by
 have str:∀(d:Nat)(i:It)(c rest:List UInt8),i.list=aL->code d i=M c->c.length<4294967296->read b d (c++rest)=M (i,c.length)/\1<=c.length:=by
  intro d i c rest hl I q
  have ac:i.kids=[]/\sc i.bytes=c:=by
   cases d<;>simp only[code,hl,bU,if_false]at I<;>split at I<;>simp at I<;>rename_i hk<;>exact⟨by simpa using hk,I⟩
  obtain⟨hk,rfl⟩:=ac;have hi:i=⟨aL,i.bytes,[]⟩:=by obtain⟨l,bs,ks⟩:=i;simp_all
  have key:∃f,body (sc i.bytes++rest)=M (aL,f,(sc i.bytes).length)/\(sc i.bytes).drop f=i.bytes/\1<=(sc i.bytes).length:=by
   unfold sc at q⊢;cases J:bare i.bytes with
   |true=>
    rw[ZD rfl]
    match hq:i.bytes,J with
    |[x],J=>exact⟨0,by rw[List.singleton_append];exact Uf x rest (by simpa[bare]using J),rfl,aC⟩
   |false=>
    rw[J]at q;simp only[bU,if_false]at q⊢;have E:i.bytes.length<4294967296:=by unfold begun at q;rw[aS]at q;omega
    have:=Ec aL _ rest E (λ_=>J);simp only[bU,if_false]at this;have hh:=wQ 128 _ E;refine⟨_,by rw[this];unfold begun;rw[aS],?_,?_⟩
    .unfold begun;rw[List.drop_left]
    .unfold begun;grind
  obtain⟨f,k1,k2,k3⟩:=key;refine⟨?_,k3⟩
  have:read b d (sc i.bytes++rest)=M (⟨aL,((sc i.bytes++rest).take (sc i.bytes).length).drop f,[]⟩,(sc i.bytes).length):=by
   cases d<;>simp only[read]<;>rw[hb _ _ k1]
  rw[this,List.take_left,k2,<-hi]
 intro d
 induction d with
 |zero=>
  intro i c rest I q;cases hl:i.list with
  |false=>exact str 0 i c rest hl I q
  |true=>simp[code,hl]at I
 |succ d ih=>
  intro i c rest I q;cases hl:i.list with
  |false=>exact str _ i c rest hl I q
  |true=>
   have Y:i.bytes.isEmpty=bB:=by
    cases Y:i.bytes.isEmpty with
    |true=>rfl
    |false=>simp[code,hl,Y]at I
   rw[sK d i hl Y]at I;obtain⟨s,hs,rfl⟩:=bI.1 I
   have hi:i=⟨bB,[],i.kids⟩:=by
    obtain⟨l,bs,ks⟩:=i;simp only[List.isEmpty_iff]at hl Y;simp[hl,Y]
   have aa:s.length<4294967296:=by unfold begun at q;rw[aS]at q;omega
   have ab:=Ec bB s rest aa (λe=>by cases e);simp only[if_true]at ab;have hh:=wQ 192 _ aa;have E:(begun 192 s).length=(head 192 s.length).length+s.length:=by unfold begun;rw[aS]
   refine⟨?_,by rw[E];omega⟩;rw[read,hb _ _ ab]
   have e1:((begun 192 s++rest).take ((head 192 s.length).length+s.length)).drop (head 192 s.length).length=s:=by
    rw[<-E,List.take_left];unfold begun;rw[List.drop_left]
   simp only;rw[e1,Nr (read b d) (code d) i.kids s _ hs (by grind) (λk c rest _ hk ae=>ih k c rest hk aA),E,hi];rfl
def rb(s:List UInt8):Option (Bool×Nat×Nat):=
 match s with
 |[]=>Z
 |c::_=>
  if c.toNat<128 then M (aL,0,1)
  else if c.toNat-(if 192<=c.toNat then 192 else 128)<=55 then
   (if s.length<1+(c.toNat-(if 192<=c.toNat then 192 else 128))then Z else M (decide (192<=c.toNat),1,1+(c.toNat-(if 192<=c.toNat then 192 else 128))))
  else if 4<c.toNat-(if 192<=c.toNat then 192 else 128)-55\/s.length<1+(c.toNat-(if 192<=c.toNat then 192 else 128)-55)then Z
  else if s.length<1+(c.toNat-(if 192<=c.toNat then 192 else 128)-55)+val ((s.take (1+(c.toNat-(if 192<=c.toNat then 192 else 128)-55))).drop 1) 0 then Z
  else M (decide (192<=c.toNat),1+(c.toNat-(if 192<=c.toNat then 192 else 128)-55),1+(c.toNat-(if 192<=c.toNat then 192 else 128)-55)+val ((s.take (1+(c.toNat-(if 192<=c.toNat then 192 else 128)-55))).drop 1) 0)
def PD(s:List UInt8)(x:Bool×Nat×Nat)(h:body s=M x):rb s=M x:=by
 cases s with
 |nil=>simp[body]at h
 |cons c r=>
  have hc:=c.toNat_lt;simp only[body]at h;simp only[rb]
  have aa:∀(l:Bool)(q:Nat),(if 192<=c.toNat then 192 else 128)=q->decide (192<=c.toNat)=l->c.toNat-q<=55->chk l (c::r) 1 (c.toNat-q)=M x->¬c.toNat<128->(if c.toNat<128 then M (aL,0,1)
    else if c.toNat-(if 192<=c.toNat then 192 else 128)<=55 then
   (if (c::r).length<1+(c.toNat-(if 192<=c.toNat then 192 else 128))then Z else M (decide (192<=c.toNat),1,1+(c.toNat-(if 192<=c.toNat then 192 else 128))))
  else if 4<c.toNat-(if 192<=c.toNat then 192 else 128)-55\/(c::r).length<1+(c.toNat-(if 192<=c.toNat then 192 else 128)-55)then Z
  else if (c::r).length<1+(c.toNat-(if 192<=c.toNat then 192 else 128)-55)+val (((c::r).take (1+(c.toNat-(if 192<=c.toNat then 192 else 128)-55))).drop 1) 0 then Z
  else M (decide (192<=c.toNat),1+(c.toNat-(if 192<=c.toNat then 192 else 128)-55),1+(c.toNat-(if 192<=c.toNat then 192 else 128)-55)+val (((c::r).take (1+(c.toNat-(if 192<=c.toNat then 192 else 128)-55))).drop 1) 0))=M x:=by
   intro l q I J h1 h2 h3;obtain⟨Y,hn,_⟩:=Oi h2;rw[Zs h3,I,J,ZD h1,Zs (by grind),Y]
  have E:∀(l:Bool)(q:Nat),(if 192<=c.toNat then 192 else 128)=q->decide (192<=c.toNat)=l->55<c.toNat-q->c.toNat-q<=59->far l (c::r) (1+(c.toNat-q-55))=M x->¬c.toNat<128->(if c.toNat<128 then M (aL,0,1)
    else if c.toNat-(if 192<=c.toNat then 192 else 128)<=55 then
   (if (c::r).length<1+(c.toNat-(if 192<=c.toNat then 192 else 128))then Z else M (decide (192<=c.toNat),1,1+(c.toNat-(if 192<=c.toNat then 192 else 128))))
  else if 4<c.toNat-(if 192<=c.toNat then 192 else 128)-55\/(c::r).length<1+(c.toNat-(if 192<=c.toNat then 192 else 128)-55)then Z
  else if (c::r).length<1+(c.toNat-(if 192<=c.toNat then 192 else 128)-55)+val (((c::r).take (1+(c.toNat-(if 192<=c.toNat then 192 else 128)-55))).drop 1) 0 then Z
  else M (decide (192<=c.toNat),1+(c.toNat-(if 192<=c.toNat then 192 else 128)-55),1+(c.toNat-(if 192<=c.toNat then 192 else 128)-55)+val (((c::r).take (1+(c.toNat-(if 192<=c.toNat then 192 else 128)-55))).drop 1) 0))=M x:=by
   intro l q I J h1 ab h2 h3;unfold far at h2;split at h2
   .simp at h2
   .rename_i hg;split at h2
    .simp at h2
    .obtain⟨Y,hn,_⟩:=Oi h2;rw[Zs h3,I,J,Zs aA,Zs aA,Zs aA,Y]
  grind
end Im
