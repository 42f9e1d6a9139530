import Derived.Test.YtpibpdpedjinhaaGreatDoorP21
import Derived.Test.YtpibpdpedjinhaaGreatDoorP22
import Derived.Shelf.Strings.Builder2
import Derived.Shelf.Strings.BuilderK
import Derived.Shelf.Strings.Repeat
set_option maxRecDepth 100000
set_option maxHeartbeats 4000000
set_option linter.all false
open BitVec renaming ofInt->ot,ofInt_natCast->oR,toNat_ofNat->o5
open Bool renaming false->aL,true->bB
open Go renaming Calls->eE,Value->aD,World->U
open Go.Ending renaming returned->bX
open Go.IntKind renaming i64->X,u32->dE,wrap_u64->pZ
open Go.Lib renaming byteCells->lz,byteCells_length->nv,bytesWorld->pg,run_convert_string_bytes->pD
open Go.Proofs.Tryz renaming sizeOf4->qb,sizeOf5->p6,sizeOf9->qd,underlying0->py,underlying155->fX,underlying4->nj,underlying5->gD,underlying9->eI,zeroValue0->pE,zeroValue155->qv,zeroValue4->pH,zeroValue5->pA,zeroValue9->pL
open Go.Value renaming bool->cF,int->N,pointer->aM,slice->aR,string->aH,tuple->dC
open Option renaming none->Z,some->M
open Or renaming inl->cJ,inr->cK
namespace Go.Proofs.YtpibpdpedjinhaaGreatDoor.Im
section
variable {g:List UInt8->Option (It×Nat)}{s:List UInt8}{l:List It}{p d f t:Nat}{b:List UInt8->Option (Bool×Nat×Nat)}
inductive nG(g:List UInt8->Option (It×Nat))(s:List UInt8):List It->Nat->Prop
 |nil:nG g s [] 0
 |snoc {l:List It} {p:Nat} {i:It} {n:Nat}:nG g s l p->p<s.length->g (s.drop p)=M (i,n)->nG g s (l++[i]) (p+n)
def Fair(g:List UInt8->Option (It×Nat)):Prop:=∀s i n,g s=M (i,n)->1<=n/\n<=s.length
theorem nG.le(q:Fair g)(h:nG g s l p):p<=s.length/\l.length<=p:=by
 induction h with
 |nil=>simp
 |snoc h hp hgs ih=>
  have:=q _ _ _ hgs
  grind
theorem nG.many(h:nG g s l p):∀f,l.length<=f->Im.many g f s=(Im.many g (f-l.length) (s.drop p)).map (λr=>l++r):=by
 induction h with
 |nil=>intro f _;simp
 |@snoc l p i n h hp hgs ih=>
  intro f J;simp only[aS,aU,bY]at J⊢;rw[ih f aA];obtain⟨q,I⟩:∃q,f-l.length=q+1:=⟨f-l.length-1,aA⟩
  have E:s.drop p≠[]:=by intro e;have:=Z1 List.length e;simp at this;omega
  rw[I,Im.many,Zs E,hgs];simp only;rw[show f-(l.length+(0+1))=q from by omega,iE];cases Im.many g q (s.drop (p+n))<;>simp
theorem nG.all(q:Fair g)(h:nG g s l p)(f:Nat)(E:s.length<=f)(hp:s.length<=p):Im.many g f s=M l:=by have:=h.le q;rw[h.many f aA,List.drop_of_length_le hp,L8];simp
theorem nG.stuck(J:Fair g)(h:nG g s l p)(f:Nat)(hf:s.length<=f)(hp:p<s.length)(Y:g (s.drop p)=Z):Im.many g f s=Z:=by
 have:=h.le J;rw[h.many f aA];obtain⟨I,E⟩:∃I,f-l.length=I+1:=⟨f-l.length-1,aA⟩
 have q:s.drop p≠[]:=by intro e;have:=Z1 List.length e;simp at this;omega
 rw[E,Im.many,Zs q,Y];rfl
theorem Ik(g:List UInt8->Option (It×Nat)):∀(f:Nat)(s:List UInt8)(l:List It),Im.many g f s=M l->Fair g->∀(h:It->Nat),(∀s' i n,g s'=M (i,n)->h i<=2*n)->(l.map h).sum<=2*s.length
 |0,s,l,hm,_,h,_=>by
  simp only[Im.many]at hm
  grind
 |f+1,s,l,hm,hg,h,hh=>by
  rw[Im.many]at hm;split at hm
  .grind
  .cases q:g s with
   |none=>grind
   |some x=>
    obtain⟨i,n⟩:=x;rw[q]at hm;simp only at hm;obtain⟨t,ht,rfl⟩:=bI.1 hm;have E:=hg s i n q;have h2:=Ik g f _ t ht hg h hh
    grind
theorem ML(g:List UInt8->Option (It×Nat)):∀(f:Nat)(s:List UInt8)(l:List It),Im.many g f s=M l->∀k,k∈l->∃s' n,g s'=M (k,n)
 |0,s,l,hm,k,hk=>by
  simp only[Im.many]at hm
  grind
 |f+1,s,l,hm,k,hk=>by
  rw[Im.many]at hm;split at hm
  .grind
  .cases q:g s with
   |none=>grind
   |some x=>
    obtain⟨i,n⟩:=x;rw[q]at hm;simp only at hm;obtain⟨t,ht,rfl⟩:=bI.1 hm;obtain rfl|hk:=dD.1 hk
    .exact⟨s,n,q⟩
    .exact ML g f _ t ht k hk
theorem I5(g g':List UInt8->Option (It×Nat))(E:∀s x,g s=M x->g' s=M x):∀(f:Nat)(s:List UInt8)(l:List It),Im.many g f s=M l->Im.many g' f s=M l
 |0,s,l,hm=>hm
 |f+1,s,l,hm=>by
  rw[Im.many]at hm⊢;split at hm
  .grind
  .rename_i e;rw[Zs e];cases q:g s with
   |none=>grind
   |some x=>
    obtain⟨i,n⟩:=x;rw[q]at hm;simp only at hm;obtain⟨t,ht,rfl⟩:=bI.1 hm;rw[E s _ q];simp only;rw[I5 g g' E f _ t ht];rfl
def rM(b:List UInt8->Option (Bool×Nat×Nat)):Nat->List UInt8->Option (It×Nat)
 |0,_=>Z
 |d+1,s=>match b s with
  |none=>Z
  |some (aL,f,t)=>M (⟨aL,(s.take t).drop f,[]⟩,t)
  |some (bB,f,t)=>(many (rM b d) s.length ((s.take t).drop f)).map (λl=>(⟨bB,[],l⟩,t))
theorem wu(h:b s=M (aL,f,t)):rM b (d+1) s=M (⟨aL,(s.take t).drop f,[]⟩,t):=by rw[rM,h]
theorem yB(h:b s=M (bB,f,t)):rM b (d+1) s=(many (rM b d) s.length ((s.take t).drop f)).map (λl=>(⟨bB,[],l⟩,t)):=by rw[rM,h]
theorem CX(h:b s=Z):rM b (d+1) s=Z:=by rw[rM,h]
theorem D6(h:b s=M (aL,f,t)):read b d s=M (⟨aL,(s.take t).drop f,[]⟩,t):=by cases d<;>rw[read,h]
theorem Iu(h:b s=M (bB,f,t)):read b (d+1) s=(many (read b d) s.length ((s.take t).drop f)).map (λl=>(⟨bB,[],l⟩,t)):=by rw[read,h]
theorem CQ(h:b s=M (bB,f,t)):read b 0 s=Z:=by rw[read,h]
theorem wV(h:b s=Z):read b d s=Z:=by cases d<;>rw[read,h]
theorem F5(b:List UInt8->Option (Bool×Nat×Nat)):∀(d:Nat)(s:List UInt8)(x:It×Nat),read b d s=M x->rM b (d+1) s=M x:=by
 intro d
 induction d with
 |zero=>
  intro s x h;cases q:b s with
  |none=>rw[wV q]at h;simp at h
  |some y=>
   obtain⟨l,f,t⟩:=y;cases l with
   |true=>rw[CQ q]at h;simp at h
   |false=>rw[D6 q]at h;rw[wu q];exact h
 |succ d ih=>
  intro s x h;cases q:b s with
  |none=>rw[wV q]at h;simp at h
  |some y=>
   obtain⟨l,f,t⟩:=y;cases l with
   |false=>rw[D6 q]at h;rw[wu q];exact h
   |true=>
    rw[Iu q]at h;obtain⟨I,E,rfl⟩:=bI.1 h;rw[yB q,I5 (read b d) (rM b (d+1)) ih _ _ _ E];rfl
def Body(b:List UInt8->Option (Bool×Nat×Nat)):Prop:=∀s l f t,b s=M (l,f,t)->f<=t/\t<=s.length/\1<=t/\(l=bB->1<=f)
theorem EF(E:Body b)(d:Nat):Fair (rM b d):=by
 intro s i n h;cases d with
 |zero=>simp[rM]at h
 |succ d=>
  cases q:b s with
  |none=>rw[CX q]at h;simp at h
  |some y=>
   obtain⟨l,f,t⟩:=y;have:=E s l f t q;cases l with
   |false=>rw[wu q]at h;simp at h;omega
   |true=>
    rw[yB q]at h;obtain⟨J,I,Y⟩:=bI.1 h
    grind
theorem sZ(q:Body b)(d:Nat):Fair (read b d):=λs i n h=>EF q (d+1) s i n (F5 b d s _ h)
theorem Ed{b:List UInt8->Option (Bool×Nat×Nat)}(E:Body b):∀(d:Nat)(s:List UInt8)(i:It)(n:Nat),rM b d s=M (i,n)->dp d i/\wt d i<=2*n
 |0,s,i,n,h=>by simp[rM]at h
 |d+1,s,i,n,h=>by
  cases q:b s with
  |none=>rw[CX q]at h;simp at h
  |some y=>
   obtain⟨l,f,t⟩:=y;have hq:=E s l f t q;cases l with
   |false=>
    rw[wu q]at h;simp only[aK,dJ]at h;obtain⟨rfl,rfl⟩:=h;refine⟨λk hk=>by simp at hk,?_⟩;simp only[wt,fP,List.sum_nil,dW,bK];omega
   |true=>
    rw[yB q]at h;obtain⟨ks,Y,J⟩:=bI.1 h;simp only[dJ]at J;obtain⟨rfl,rfl⟩:=J;refine⟨λk hk=>?_,?_⟩
    .obtain⟨s',n',I⟩:=ML _ _ _ _ Y k hk;exact(Ed E d s' k n' I).1
    .have:=Ik _ _ _ _ Y (EF E d) _ (λs' i n h=>(Ed E d s' i n h).2);simp only[dW,bK]at this;have:=hq.2.2.2 rfl;simp only[wt,bY];omega
theorem abj(q:Body b)(d:Nat)(s:List UInt8)(i:It)(n:Nat)(h:read b d s=M (i,n)):dp (d+1) i/\wt (d+1) i<=2*n:=Ed q (d+1) s i n (F5 b d s _ h)
theorem aas:Body rb:=by
 intro s l f t h;cases s with
 |nil=>simp[rb]at h
 |cons c r=>
  have q:=c.toNat_lt;simp only[rb]at h
  grind
theorem pF:Body body:=λs l f t h=>aas s l f t (PD s _ h)
end
end Go.Proofs.YtpibpdpedjinhaaGreatDoor.Im
namespace Go.Proofs.YtpibpdpedjinhaaGreatDoor
def Sq.chunks:∀(n:Nat)(s:List UInt8),s.length<=n->∃l,(∀p,p∈l->Sq.fits p)/\Sq.joined l=s/\Sq.total l<=s.length+(s.length+127)/128
 |n,[],_=>⟨[],aC,rfl,by simp[Sq.total]⟩
 |0,_::_,h=>by simp at h
 |n+1,x::r,h=>by
  obtain⟨l,q,h2,h3⟩:=Sq.chunks n ((x::r).drop 128) (by simp at h⊢;omega);refine⟨(aL,(x::r).take 128)::l,?_,?_,?_⟩
  .intro p hp;obtain rfl|hp:=dD.1 hp
   .refine⟨aC,by grind,λh=>by simp at h⟩
   .exact q p hp
  .rw[Sq.joined,h2];simp
  .rw[Sq.total,Sq.xB,Zs aC]
   grind
def Sq.Vf(s:List UInt8):(Sq.plan s).cost<=s.length+(s.length+127)/128:=by obtain⟨l,q,h2,h3⟩:=Sq.chunks _ s jE;have:=(Sq.qP _ l jE q).1;rw[h2]at this;omega
namespace Im
def dec(s:List UInt8):Option It:=match read body 8 s with
 |some (i,n)=>if n=s.length then M i else Z
 |none=>Z
def VT{i:It}{c:List UInt8}(h:code 8 i=M c)(q:c.length<4294967296):dec c=M i:=by have:=(Aj body (λ_ _ h=>h) 8 i c [] h q).1;rw[gI]at this;unfold dec;rw[this];simp
end Im
end Go.Proofs.YtpibpdpedjinhaaGreatDoor
namespace Go.Proofs.YtpibpdpedjinhaaGreatDoor.Dv
open Fr (F)
section
structure Tx where
 fr:Nat
 dest:Nat
 data:List UInt8
structure X2 where
 id:Int
 time:Int
 txs:List Tx
 logs:List (List UInt8)
instance:Inhabited X2:=⟨⟨0,0,[],[]⟩⟩
structure Cf where
 inbox:Nat
 batcher:Nat
 timeout:Int
 window:Int
 drift:Int
 step:Int
 most:Int
structure Ch where
 name:Nat
 opened:Nat
 l:List F
 spoilt:Bool
structure Ba where
 epoch:Nat
 id:Nat
 time:Nat
 txs:List (List UInt8)
 place:Nat
structure Lo where
 number:Nat
 time:Int
 epoch:Nat
 id:Int
 seq:Nat
 txs:List (List UInt8)
 deps:List (List UInt8)
 at_:Nat
instance:Inhabited Lo:=⟨⟨0,0,0,0,0,[],[],0⟩⟩
def last(l:List F):Option Nat:=(l.find? (·.last)).map (·.num)
def has(l:List F)(n:Nat):Option (List UInt8):=(l.find? (λx=>x.num == n)).map (·.data)
def pX(l:List F):Nat->Option (List UInt8)
 |0=>M []
 |k+1=>(pX l k).bind λs=>(has l k).map λd=>s++d
def bytes(l:List F):Option (List UInt8):=(last l).bind λn=>pX l (n+1)
def size(l:List F):Nat:=(l.map λx=>x.data.length).sum
def nU(c:Ch)(f:F):Bool:=(has c.l f.num).isSome || c.spoilt || (match last c.l with|some n=>f.last || decide (n<f.num)|none=>aL)
def goes(f x:F):Bool:=f.last&&decide (f.num<x.num)
def grown(c:Ch)(f:F):List F:=(c.l++[f]).filter λx=>!goes f x
def joined(most:Int)(c:Ch)(f:F):Ch:=
 if nU c f then c
 else if most<(size (grown c f):Int)then { c with l:=[],spoilt:=bB } else { c with l:=grown c f }
def frame(most:Int)(n:Nat)(cs:List Ch)(f:F):List Ch:=
 if f.num=0 then cs.filter (λc=>c.name != f.chan)++[joined most ⟨f.chan,n,[],aL⟩ f]
 else cs.map λc=>if c.name=f.chan then joined most c f else c
def oI(c:Cf)(t:Tx):List F:=if t.dest=c.inbox/\t.fr=c.batcher then(Fr.frames t.data).getD []else []
def heard(c:Cf)(txs:List Tx):List F:=txs.flatMap (oI c)
def pull:List Ch->List (List UInt8)×List Ch
 |[]=>([],[])
 |c::cs=>match bytes c.l with
  |none=>([],c::cs)
  |some s=>(s::(pull cs).1,(pull cs).2)
def value(i:Im.It):Option Nat:=
 if i.list || decide (8<i.bytes.length) || (i.bytes != []&&i.bytes.getD 0 0 == 0) || (i.bytes.length == 8&&decide (64<=(i.bytes.getD 0 0).toNat))then Z
 else M (Im.val i.bytes 0)
def qC(l:Im.It)(place:Nat):Option Ba:=
 match l.list,l.kids with
 |true,[a,b,c,d]=>
  if d.list=aL then Z else
  match value a,value b,value c with
  |some x,M y,M z=>if d.kids.all (λt=>!t.list)then M ⟨x,y,z,d.kids.map (·.bytes),place⟩else Z
  |_,_,_=>Z
 |_,_=>Z
def uK(i:Im.It)(place:Nat):Option Ba:=
 if i.list then Z else
 match i.bytes with
 |[]=>Z
 |x::r=>if x=0 then(Im.dec r).bind (λl=>qC l place)else Z
def rd:Nat->List UInt8->Nat->List Ba
 |0,_,_=>[]
 |f+1,s,n=>if s=[]then []else
  match Im.read Im.body 8 s with
  |none=>[]
  |some (i,k)=>match uK i n with
   |none=>[]
   |some b=>(if b.epoch<=n then [b]else [])++rd f (s.drop k) n
def reads(s:List UInt8)(n:Nat):List Ba:=rd (Sq.spread s.length s 4096 []).1.length (Sq.spread s.length s 4096 []).1 n
def take(c:Cf)(u:X2)(n:Nat)(cs:List Ch)(wait:List Ba):List Ch×List Ba:=
 let cs1:=cs.filter λx=>decide ((n:Int)-(x.opened:Int)<=c.timeout)
 let cs2:=(heard c u.txs).foldl (frame c.most n) cs1
 ((pull cs2).2,wait++(pull cs2).1.flatMap (λs=>reads s n))
def isDep(s:List UInt8):Bool:=
 match Im.dec s with
 |some i=>match i.list,i.kids with
  |true,[a,b]=>!a.list&&!b.list&&decide (0<a.bytes.length)&&decide (a.bytes.length<9)&&decide (b.bytes.length<65)
  |_,_=>aL
 |none=>aL
def jS(u:X2):List (List UInt8):=u.logs.filter isDep
inductive Out where
 |no
 |hold
 |got (b:Ba)
section
variable (c:Cf)(chain:List X2)(n:Nat)
def late(e:Nat)(t:Int)(b:Ba):Bool:=decide ((b.time:Int)<t) || decide (b.epoch<e) || decide (e+1<b.epoch) || decide ((b.epoch:Int)+c.window<(b.place:Int))
def holds(e:Nat)(t:Int)(b:Ba):Bool:=(b.epoch == e+1&&decide (n<e+1)) || (b.txs.isEmpty&&b.epoch == e&&decide (n<e+1)&&decide ((chain[e]!).time+c.drift<t))
def wrong(e:Nat)(t:Int)(b:Ba):Bool:=decide ((b.id:Int)≠(chain[b.epoch]!).id) || decide (t<(chain[b.epoch]!).time) || (decide ((chain[b.epoch]!).time+c.drift<t)&&(!b.txs.isEmpty || (b.epoch == e&&decide ((chain[e+1]!).time<=t))))
def sift(e:Nat)(t:Int):List Ba->Out×List Ba
 |[]=>(.no,[])
 |b::r=>
  if t<(b.time:Int)then((sift e t r).1,b::(sift e t r).2)
  else if late c e t b then sift e t r
  else if holds c chain n e t b then(.hold,b::r)
  else if wrong c chain e t b then sift e t r
  else(.got b,r)
def lay(h:Lo)(epoch:Nat)(txs:List (List UInt8)):Lo:=
 ⟨h.number+1,h.time+c.step,epoch,(chain[epoch]!).id,if epoch=h.epoch then h.seq+1 else 0,txs,if epoch=h.epoch then []else jS (chain[epoch]!),n⟩
def draw(h:Lo)(wait:List Ba):Option Lo×List Ba:=
 let r:=sift c chain n h.epoch (h.time+c.step) wait
 match r.1 with
 |.hold=>(Z,r.2)
 |.got b=>(M (lay c chain n h b.epoch b.txs),r.2)
 |.no=>if (n:Int)<=h.epoch+c.window then(Z,r.2)else(M (lay c chain n h (if (chain[h.epoch+1]!).time<=h.time+c.step then h.epoch+1 else h.epoch) []),r.2)
def draws:Nat->Lo->List Ba->List Lo×List Ba
 |0,_,wait=>([],wait)
 |f+1,h,wait=>match draw c chain n h wait with
  |(Z,k)=>([],k)
  |(M x,k)=>(x::(draws f x k).1,(draws f x k).2)
end
structure St where
 chs:List Ch
 wait:List Ba
 log:List Lo
def left(chain:List X2)(n:Nat)(h:Lo)(wait:List Ba):Nat:=wait.length+(n-h.epoch)+((chain[n]!).time-h.time).toNat
def step(c:Cf)(chain:List X2)(n:Nat)(s:St):St:=
 let r:=take c (chain[n]!) n s.chs s.wait
 let h:=s.log.getLastD default
 let d:=draws c chain n (left chain n h r.2+1) h r.2
 ⟨r.1,d.2,s.log++d.1⟩
def first(u:X2):Lo:=⟨0,u.time,0,u.id,0,[],jS u,0⟩
def start(chain:List X2):St:=⟨[],[],[first (chain[0]!)]⟩
def gone(c:Cf)(chain:List X2):Nat->St
 |0=>start chain
 |k+1=>step c chain k (gone c chain k)
def jP(c:Cf):Bool:=decide (1<=c.timeout/\c.timeout<=8/\1<=c.window/\c.window<=8/\0<=c.drift/\c.drift<=100/\2<=c.step/\c.step<=20/\1<=c.most/\c.most<=4096)
def small(u:X2):Bool:=decide (u.txs.length<=20/\u.logs.length<=20)&&u.txs.all (λt=>decide (t.data.length<=2000))&&u.logs.all (λs=>decide (s.length<=2000))
def lX(q:Option Int)(u:X2):Bool:=(match q with
 |none=>decide (0<=u.time/\u.time<=1000000)
 |some b=>decide (b<u.time/\u.time<=b+24))&&small u
def kK:Option Int->List X2->Bool
 |_,[]=>bB
 |b,u::r=>lX b u&&kK (M u.time) r
def jY(chain:List X2):Bool:=decide (1<=chain.length/\chain.length<=60)&&kK Z chain
def all(c:Cf)(chain:List X2):Int×List Lo:=
 if jP c=aL then(1,[])else if jY chain=aL then(2,[])else(0,(gone c chain chain.length).log)
end
end Go.Proofs.YtpibpdpedjinhaaGreatDoor.Dv
namespace Go.Proofs.YtpibpdpedjinhaaGreatDoor
open Go.RowKit Go.Joins
section
variable {B:Nat}{w w':U}
def K3(w:U)(b o:Nat)(q I E:aD):Prop:=w.cell? ⟨b,o,Z⟩=M q/\w.cell? ⟨b,o+1,Z⟩=M I/\w.cell? ⟨b,o+2,Z⟩=M E
def In(B:Nat)(w:U):Nat->aD->aD->aD->Im.It->Prop
 |0,_,_,_,_=>False
 |n+1,c0,c1,c2,i=>c0=.bool i.list/\c1=aH ⟨i.bytes.toArray⟩/\∃a cap,c2=.slice a i.kids.length cap/\(i.kids≠[]->∃b off,a=M ⟨b,off,Z⟩/\b<B/\∀(j:Nat)(J:j<i.kids.length),∃E I q,K3 w b (off+j*3) E I q/\In B w n E I q (i.kids[j]))
theorem K3.below{b o:Nat}{I Y J:aD}(h:K3 w b o I Y J)(E:Below B w w')(q:b<B):K3 w' b o I Y J:=
 ⟨(E.cell (p:=⟨b,o,Z⟩) q).trans h.1,(E.cell (p:=⟨b,o+1,Z⟩) q).trans h.2.1,(E.cell (p:=⟨b,o+2,Z⟩) q).trans h.2.2⟩
theorem In.below(hb:Below B w w'):∀(n:Nat)(c0 I J:aD)(i:Im.It),In B w n c0 I J i->In B w' n c0 I J i
 |0,_,_,_,_,h=>h
 |n+1,c0,I,J,i,h=>by
  obtain⟨h0,h1,a,cap,h2,h3⟩:=h;refine⟨h0,h1,a,cap,h2,λhk=>?_⟩;obtain⟨b,off,ha,q,hj⟩:=h3 hk;refine⟨b,off,ha,q,λj E=>?_⟩;obtain⟨d0,d1,d2,aa,Y⟩:=hj j E;exact⟨d0,d1,d2,aa.below hb q,In.below hb n d0 d1 d2 _ Y⟩
theorem In.dp:∀(n:Nat)(c0 I J:aD)(i:Im.It),In B w n c0 I J i->Im.dp n i
 |0,_,_,_,_,h=>h
 |n+1,c0,I,J,i,h=>by
  obtain⟨h0,h1,a,cap,h2,h3⟩:=h;intro k hk;obtain⟨j,hj,rfl⟩:=List.mem_iff_getElem.1 hk;obtain⟨b,off,ha,aa,E⟩:=h3 (by grind);obtain⟨d0,d1,Y,ab,q⟩:=E j hj;exact In.dp n d0 d1 Y _ q
theorem In.shape{n:Nat}{c0 E q:aD}{i:Im.It}(h:In B w n c0 E q i):∃a cap,c0=.bool i.list/\E=aH ⟨i.bytes.toArray⟩/\q=.slice a i.kids.length cap:=by
 cases n with
 |zero=>cases h
 |succ n=>
  obtain⟨J,I,a,cap,h2,_⟩:=h;exact⟨a,cap,J,I,h2⟩
theorem below_drewN{a:U}(h:Below B a w)(n:Nat):Below B a (w.drewN n):=h.trans ⟨rfl,rfl,rfl,jE,λ_ _=>rfl⟩
end
end Go.Proofs.YtpibpdpedjinhaaGreatDoor
namespace Go.Proofs.YtpibpdpedjinhaaGreatDoor.Hm
open Go.RowKit Go.Joins Go.Shelf
section
variable {i:Im.It}
theorem bits_or_u64_nat(a b:Nat)(E:a<18446744073709551616)(I:b<18446744073709551616):bits .or .u64 (a:Int) (b:Int)=((a |||b:Nat):Int):=by
 have J:a |||b<2 ^ 64:=Nat.or_lt_two_pow aA aA
 have q:(ot 64 (a:Int)).toNat=a:=by
  rw[oR,o5];exact Nat.mod_eq_of_lt aA
 have h2:(ot 64 (b:Int)).toNat=b:=by
  rw[oR,o5];exact Nat.mod_eq_of_lt aA
 show IntKind.u64.wrap ((ot 64 (a:Int) |||BitVec.ofInt 64 (b:Int)).toNat:Int)=_
 rw[BitVec.toNat_or,q,h2,pZ];omega
theorem CZ(s:List UInt8)(k:Nat)(hk:k<s.length):Im.val (s.take (k+1)) 0=256*Im.val (s.take k) 0+(s.getD k 0).toNat:=by
 rw[eY hk,Im.val_append];simp only[Im.val];rw[aY,aO hk];simp
 try omega
theorem tJ:∀(s:List UInt8)(n:Nat),Im.val s n<(n+1)*256 ^ s.length
 |[],n=>by simp[Im.val]
 |x::s,n=>by
  have:=tJ s (256*n+x.toNat);have q:=x.toNat_lt;simp only[Im.val,aU,Nat.pow_succ];refine aP this ?_;rw[Nat.mul_comm (256 ^ s.length) 256,<-Nat.mul_assoc];exact fK _ aA
theorem Xg:∀(s:List UInt8)(n:Nat),n*256 ^ s.length<=Im.val s n
 |[],n=>by simp[Im.val]
 |x::s,n=>by
  have:=Xg s (256*n+x.toNat);simp only[Im.val,aU,Nat.pow_succ];refine bH ?_ this;rw[Nat.mul_comm (256 ^ s.length) 256,<-Nat.mul_assoc];exact fK _ aA
theorem U2(s:List UInt8)(hs:s.length<=8):decide (4611686018427387903<Im.val s 0)=(s.length == 8&&decide (64<=(s.getD 0 0).toNat)):=by
 by_cases q:s.length=8
 .cases s with
  |nil=>simp at q
  |cons x s=>
   have I:s.length=7:=by simpa using q
   have E:=tJ s x.toNat;have h2:=Xg s x.toNat;rw[I]at E h2;have e:Im.val (x::s) 0=Im.val s x.toNat:=by simp[Im.val]
   rw[e,q];simp only[List.getD_cons_zero,beq_self_eq_true,Bool.true_and];exact decide_eq_decide.2 aA
 .have E:=tJ s 0;have h2:(256:Nat) ^ s.length<=256 ^ 7:=iO aB aA;rw[show(s.length == 8)=aL from ZS q,Bool.false_and];exact ZZ aA
def aeY(o:Option Nat):aD:=dC #[N X ((o.getD 0:Nat):Int),.bool o.isSome]
theorem Di(h:i.list=bB\/8<i.bytes.length\/(i.bytes≠[]/\(i.bytes.getD 0 0)=0)):Dv.value i=Z:=by
 unfold Dv.value;rw[ZD];obtain h|h|⟨q,h2⟩:=h
 .simp[h]
 .simp[h]
 .grind
theorem MG(q:i.list=aL)(h2:i.bytes.length<=8)(h3:i.bytes=[]\/(i.bytes.getD 0 0)≠0):Dv.value i=if 4611686018427387903<Im.val i.bytes 0 then Z else M (Im.val i.bytes 0):=by
 have E:=U2 _ h2;unfold Dv.value;rw[q,<-E,ZZ (show ¬8<i.bytes.length by omega)]
 have:(i.bytes != []&&i.bytes.getD 0 0 == 0)=aL:=by
  obtain h3|h3:=h3
  .rw[h3];rfl
  .grind
 rw[this];simp
theorem uz(i:Im.It)(c2:aD)(w:U)(au:∃a n cap,c2=.slice a n cap):eE PQ 176 #[.agg #[.bool i.list,aH ⟨i.bytes.toArray⟩,c2]] w λe w'=>e=bX (aeY (Dv.value i))/\Below w.heap.size w w':=by
 obtain⟨a,n,cap,rfl⟩:=au;obtain⟨D,hD⟩:∃D:ByteArray,(⟨i.bytes.toArray⟩:ByteArray)=D:=⟨_,rfl⟩
 have I:D.data.toList=i.bytes:=by rw[<-hD]
 have J:D.size=i.bytes.length:=by rw[<-hD];rfl
 rw[hD];obtain⟨R,hR⟩:∃R,Dv.value i=R:=⟨_,rfl⟩
 rw[hR];obtain⟨li,E⟩:∃li,i.list=li:=⟨_,rfl⟩
 rw[E];obtain⟨W,hW,aa,-⟩:=jI w #[.bool li,aH D,.slice a n cap] 103;have z0:W.cell? ⟨w.heap.size,0,Z⟩=M (.bool li):=by rw[hW];simp
 have z1:W.cell? ⟨w.heap.size,1,Z⟩=M (aH D):=by rw[hW];simp
 have H:Hid _:=jD I (jD J (jD hR (jD E aa)));cases li
 .by_cases h8:D.size<=8
  .have ax:¬(8:Int)<(D.size:Int):=by omega
   by_cases he:i.bytes=[]
   .have ar:D=⟨#[]⟩:=by rw[<-hD,he]
    have q:=MG E aA (cJ he);rw[hR,he]at q;subst ar;have Hv:Hid _:=q;clear hD I J hR E aa q he;go_enter (fq Tryz.func176 rfl),Tryz.ntmps176;go_upto_region 1 with fail;rw[<-hW];clear hW;have ag:=λu:U=>pD (P:=PQ) u 9 155 5 ⟨#[]⟩ (uq eI) (uq fX) (uq gD);go_wp2_with fail;obtain⟨Y,hY⟩:∃Y:U,Y=pg W 5 ⟨#[]⟩:=⟨_,rfl⟩
    have ab:Below w.heap.size w Y:=by rw[hY];exact Fr.below_bytesWorld H.out.2.2.2.2 H.out.2.2.2.2.size _ _
    rw[<-hY];have HY:Hid _:=ab;clear hY ab ag;go_loopg [5,7,29] 0 (λg v5 _ t wx=>v5=N .u64 0/\t=N X 0/\wx=Y)
    case atStart=>simp
    case round=>
     obtain⟨rfl,rfl,rfl⟩:=hrel;go_wp2_with fail;go_ret2;refine⟨?_,HY.out⟩;rw[Hv.out];rfl
   .have h0:0<D.size:=by
     rw[J];exact List.length_pos_iff.2 he
    have aq:D.toList.isEmpty=aL:=by rw[Fr.toList_empty];exact ZZ aA
    obtain⟨x,hx⟩:∃x:UInt8,i.bytes.getD 0 0=x:=⟨_,rfl⟩
    have ac:D[0]'h0=x:=by
     rw[<-hx,<-I,aY]
     have:D.data.toList[0]? =M (D[0]'h0):=by
      rw[aO (by simpa using h0)];rfl
     rw[this];rfl
    by_cases hz:x=0
    .have q:=Di (i:=i) (cK (cK ⟨he,by rw[hx];exact hz⟩));rw[hR]at q;subst q;have aj:(((D[0]'h0).toNat:Int) == 0)=bB:=by rw[ac,hz];rfl
     clear hD I J hR E aa hx ac hz he;go_enter (fq Tryz.func176 rfl),Tryz.ntmps176;go_upto_region 1 with fail;rw[<-hW];clear hW;go_wp2_with fail;go_ret2;exact⟨rfl,H.out.2.2.2.2⟩
    .have q:=MG E aA (cK (by rw[hx];exact hz));rw[hR,<-I]at q
     have aj:(((D[0]'h0).toNat:Int) == 0)=aL:=by
      rw[ac];refine ZS (λe=>hz ?_);have:x.toNat=0:=aA
      exact jA.1 (by rw[this];rfl)
     have Hv:Hid _:=q;clear hD I J hR E aa hx ac hz he q;go_enter (fq Tryz.func176 rfl),Tryz.ntmps176;go_upto_region 1 with fail;rw[<-hW];clear hW;have ag:=λu:U=>pD (P:=PQ) u 9 155 5 D (uq eI) (uq fX) (uq gD);go_wp2_with fail;obtain⟨Y,hY⟩:∃Y:U,Y=pg W 5 D:=⟨_,rfl⟩
     have ab:Below w.heap.size w Y:=by rw[hY];exact Fr.below_bytesWorld H.out.2.2.2.2 H.out.2.2.2.2.size _ _
     have ao:∀k,k<D.size->Y.cell? ⟨W.heap.size,k,Z⟩=M (N .u8 (D.data.toList.getD k 0).toNat):=λk hk=>by rw[hY];exact Lib.bytesWorld_cell W 5 D k hk
     rw[<-hY];have HY:Hid _:=jD ao ab;clear hY ao ab ag aj aq;generalize grownCap W D.size 0 5=gc;go_loopg [5,7,29] D.size (λg v5 _ t wx=>∃k:Nat,k<=D.size/\t=N X k/\v5=N .u64 (Im.val (D.data.toList.take k) 0:Nat)/\g=D.size-k/\wx=Y)
     case atStart=>exact⟨0,dL _,rfl,rfl,rfl,rfl⟩
     case round=>
      obtain⟨k,hk,rfl,rfl,rfl,rfl⟩:=hrel;by_cases ap:k<D.size
      .have ai:(k:Int)<D.size:=by omega
       have hc:=HY.out.1 k aA;have af:=CZ D.data.toList k (by rw[<-bD];exact ap);generalize hb:(D.data.toList.getD k 0).toNat=b at hc af;have aw:b<256:=by rw[<-hb];exact UInt8.toNat_lt _
       have az:Im.val (D.data.toList.take k) 0<72057594037927936:=by
        have h1:=tJ (D.data.toList.take k) 0;have h2:(256:Nat) ^ (D.data.toList.take k).length<=256 ^ 7:=iO aB (by grind);omega
       generalize an:Im.val (D.data.toList.take (k+1)) 0=V' at af;have av:Hid _:=an;clear an;generalize Im.val (D.data.toList.take k) 0=V at *;have Hb:Hid _:=hb;clear hb;go_wp2_with fail
       rw[show bits .or .u64 ((V:Int)*256) (b:Int)=V' from by
        rw[show(V:Int)*256=((V*256:Nat):Int) from by omega,bits_or_u64_nat _ _ aA aA,Fr.Cm V b aw,af]]
       go_roundg (D.size-(k+1))
       case measure=>omega
       case rel=>
        refine⟨_,aA,by go_num,?_,rfl,rfl⟩;rw[av.out]
      .have ai:¬(k:Int)<D.size:=by omega
       obtain rfl:k=D.size:=aA
       have q:=Hv.out;rw[show D.data.toList.take D.size=D.data.toList from eH aC];have ah:=tJ D.data.toList 0;have ae:(256:Nat) ^ D.data.toList.length<=256 ^ 8:=iO aB (by rw[<-bD];exact h8);generalize Im.val D.data.toList 0=V at *;have ay:V<18446744073709551616:=aA
       by_cases ak:4611686018427387903<V
       .rw[ZD ak]at q;have am:(4611686018427387903:Int)<(V:Int):=by omega
        subst q;clear ah ae;go_wp2_with fail;go_ret2;exact⟨rfl,HY.out.2⟩
       .rw[Zs ak]at q;have am:¬(4611686018427387903:Int)<(V:Int):=by omega
        subst q;clear ah ae;go_wp2_with fail;go_ret2;exact⟨rfl,HY.out.2⟩
  .have ax:(8:Int)<(D.size:Int):=by omega
   have q:=Di (i:=i) (cK (cJ aA));rw[hR]at q;subst q;clear hD I J hR E aa;go_enter (fq Tryz.func176 rfl),Tryz.ntmps176;go_upto_region 1 with fail;rw[<-hW];clear hW;go_wp2_with fail;go_ret2;exact⟨rfl,H.out.2.2.2.2⟩
 .have q:=Di (i:=i) (cJ E);rw[hR]at q;subst q;clear hD I J hR E aa;go_enter (fq Tryz.func176 rfl),Tryz.ntmps176;go_upto_region 1 with fail;rw[<-hW];clear hW;go_wp2_with fail;go_ret2;exact⟨rfl,H.out.2.2.2.2⟩
end
open Go.RowKit Go.Joins
open Dv (Cf X2 Tx)
section
variable {w:U}{g off cap j:Nat}{α:Type}
theorem mZ(n a b:Int)(w:U):eE PQ 66 #[N X n,N X a,N X b] w λe w'=>e=bX (cF (decide (a<=n)&&decide (n<=b)))/\w'=w:=by
 obtain⟨r,q⟩:∃r,(decide (a<=n)&&decide (n<=b))=r:=⟨_,rfl⟩
 rw[q];have E:Hid _:=q;clear q;go_enter (fq Tryz.func66 rfl),Tryz.ntmps66;by_cases I:a<=n
 .by_cases h2:n<=b
  .go_wp2_with fail;go_ret;refine⟨?_,rfl⟩;rw[<-E.out,Z0 aA,Z0 aA];rfl
  .go_wp2_with fail;go_ret;refine⟨?_,rfl⟩;rw[<-E.out,Z0 aA,ZZ aA];rfl
 .go_wp2_with fail;go_ret;refine⟨?_,rfl⟩;rw[<-E.out,ZZ aA];rfl
def jL(c:Cf):Array aD:=#[N dE c.inbox,N dE c.batcher,N X c.timeout,N X c.window,N X c.drift,N X c.step,N X c.most]
theorem EO(c:Cf)(w:U):eE PQ 36 #[.agg (jL c)] w λe w'=>e=bX (.bool (Dv.jP c))/\Below w.heap.size w w':=by
 obtain⟨ib,ba,t,q,I,st,E⟩:=c;unfold jL;dsimp only;have hb:Below w.heap.size w (w.alloc (.cells #[N dE ib,N dE ba,N X t,N X q,N X I,N X st,N X E] 24)):=(aJ _ w).alloc jE _;have Hb:Hid _:=hb;clear hb;go_enter (fq Tryz.func36 rfl),Tryz.ntmps36;have W1:=λw=>mZ t 1 8 w;have W2:=λw=>mZ q 1 8 w;have W3:=λw=>mZ I 0 100 w;have W4:=λw=>mZ st 2 20 w;have W5:=λw=>mZ E 1 4096 w;obtain⟨b1,e1⟩:∃b,(decide (1<=t)&&decide (t<=8))=b:=⟨_,rfl⟩
 obtain⟨b2,Y⟩:∃b,(decide (1<=q)&&decide (q<=8))=b:=⟨_,rfl⟩
 obtain⟨b3,e3⟩:∃b,(decide (0<=I)&&decide (I<=100))=b:=⟨_,rfl⟩
 obtain⟨b4,e4⟩:∃b,(decide (2<=st)&&decide (st<=20))=b:=⟨_,rfl⟩
 obtain⟨b5,J⟩:∃b,(decide (1<=E)&&decide (E<=4096))=b:=⟨_,rfl⟩
 have hr:Dv.jP ⟨ib,ba,t,q,I,st,E⟩=(b1&&b2&&b3&&b4&&b5):=by
  unfold Dv.jP;rw[<-e1,<-Y,<-e3,<-e4,<-J];simp only[Bool.decide_and,Bool.and_assoc]
 rw[e1]at W1;rw[Y]at W2;rw[e3]at W3;rw[e4]at W4;rw[J]at W5;have H1:Hid _:=W1;have H2:Hid _:=W2;have H3:Hid _:=W3;have H4:Hid _:=W4;have H5:Hid _:=W5;rw[hr];clear hr e1 Y e3 e4 J W1 W2 W3 W4 W5;cases b1<;>cases b2<;>cases b3<;>cases b4<;>cases b5
 all_goals
  go_wp2_with (go_at_call 66;first|(with_reducible refine aT (H1.out _) ?_;rintro e w2 ⟨rfl,rfl⟩)|(with_reducible refine aT (H2.out _) ?_;rintro e w2 ⟨rfl,rfl⟩)|(with_reducible refine aT (H3.out _) ?_;rintro e w2 ⟨rfl,rfl⟩)|(with_reducible refine aT (H4.out _) ?_;rintro e w2 ⟨rfl,rfl⟩)|(with_reducible refine aT (H5.out _) ?_;rintro e w2 ⟨rfl,rfl⟩)|fail)
  go_ret;exact⟨rfl,Hb.out⟩
def oZ(t:Tx):List aD:=[N dE t.fr,N dE t.dest,aH ⟨t.data.toArray⟩]
def lM(s:List UInt8):aD:=aH ⟨s.toArray⟩
def rO(w:U)(v:aD)(l:List Tx):Prop:=Rd w 3 v l.length (l.flatMap oZ)
def qY(w:U)(v:aD)(l:List (List UInt8)):Prop:=Rd w 1 v l.length (l.map lM)
theorem rO.get{l:List Tx}(h:rO w (aR (M ⟨g,off,Z⟩) l.length cap) l){t:Tx}(q:l[j]? =M t):w.cell? ⟨g,off+j*3,Z⟩=M (N dE t.fr)/\w.cell? ⟨g,off+j*3+1,Z⟩=M (N dE t.dest)/\w.cell? ⟨g,off+j*3+2,Z⟩=M (aH ⟨t.data.toArray⟩):=by
 have k:=λi u hi (E:(oZ t)[i]? =M u)=>Rd.rec oZ 3 (λ_=>rfl) h q hi E;exact⟨k 0 _ aA rfl,k 1 _ aA rfl,k 2 _ aA rfl⟩
theorem qY.get{l:List (List UInt8)}(h:qY w (aR (M ⟨g,off,Z⟩) l.length cap) l){s:List UInt8}(q:l[j]? =M s):w.cell? ⟨g,off+j,Z⟩=M (aH ⟨s.toArray⟩):=by have Y:=(aN.1 q).1;obtain⟨g',I,J,E,_,_,hx⟩:=Rd.pos h aA;simp only[Value.slice.injEq,aK,Addr.mk.injEq,and_true,true_and]at E;obtain⟨⟨rfl,rfl⟩,rfl⟩:=E;exact hx j _ (by rw[fE,q];rfl)
theorem Rd.cases{s n:Nat}{v:aD}{xs:List aD}(h:Rd w s v n xs):(∃a cap,n=0/\v=.slice a 0 cap)\/(∃g off cap,0<n/\v=aR (M ⟨g,off,Z⟩) n cap):=by
 obtain q|q:=gQ n
 .obtain⟨a,cap,rfl⟩:=h.slice;exact cJ ⟨a,cap,q,by rw[q]⟩
 .obtain⟨g,off,cap,E,_⟩:=h.pos q;exact cK ⟨g,off,cap,q,E⟩
theorem QC(t:Tx)(w:U):eE PQ 147 #[.agg #[N dE t.fr,N dE t.dest,aH ⟨t.data.toArray⟩]] w λe w'=>e=bX (cF (decide (2000<t.data.length)))/\Below w.heap.size w w':=by
 obtain⟨D,q⟩:∃D:ByteArray,(⟨t.data.toArray⟩:ByteArray)=D:=⟨_,rfl⟩
 have hs:D.size=t.data.length:=by rw[<-q];rfl
 rw[q,<-hs];have E:Hid _:=λo=>(aJ _ w).alloc jE o;clear q hs;go_enter (fq Tryz.func147 rfl),Tryz.ntmps147;go_wp2_with fail;go_ret;exact⟨by simp only[Int.ofNat_lt.symm];rfl,E.out _⟩
theorem Ph(s:List UInt8)(w:U):eE PQ 149 #[aH ⟨s.toArray⟩] w λe w'=>e=bX (cF (decide (2000<s.length)))/\Below w.heap.size w w':=by
 obtain⟨D,q⟩:∃D:ByteArray,(⟨s.toArray⟩:ByteArray)=D:=⟨_,rfl⟩
 have hs:D.size=s.length:=by rw[<-q];rfl
 rw[q,<-hs];clear q hs;go_enter (fq Tryz.func149 rfl),Tryz.ntmps149;go_wp2_with fail;go_ret;exact⟨by simp only[Int.ofNat_lt.symm];rfl,aJ _ _⟩
def idx{α:Type}(p:α->Bool)(l:List α):Int:=match l.findIdx? p with
 |some i=>i
 |none=>-1
theorem Dl{p:α->Bool}{l:List α}(h:∀(j:Nat)(x:α),l[j]? =M x->p x=aL):idx p l=-1:=by unfold idx;rw[List.findIdx?_eq_none_iff.2 (λx E=>by obtain⟨j,q⟩:=List.getElem?_of_mem E;exact h j x q)]
theorem Ez{p:α->Bool}{l:List α}{i:Nat}{x:α}(E:l[i]? =M x)(I:p x=bB)(h:∀(j:Nat)(y:α),j<i->l[j]? =M y->p y=aL):idx p l=i:=by
 unfold idx;obtain⟨q,rfl⟩:=aN.1 E
 rw[jg.2 ⟨q,I,λj J=>by
  grind⟩]
theorem Sj(p:α->Bool)(l:List α):decide (0<=idx p l)=l.any p:=by
 unfold idx;cases h:l.findIdx? p with
 |none=>
  grind
 |some i=>
  obtain⟨q,E,_⟩:=jg.1 h;rw[Z0 aC];symm;rw[List.any_eq_true];exact⟨_,List.getElem_mem q,E⟩
end
end Go.Proofs.YtpibpdpedjinhaaGreatDoor.Hm
namespace Go.Proofs.YtpibpdpedjinhaaGreatDoor
open Go.RowKit Go.Joins
def o9(a b:ByteArray):(a++b).data.toList=a.data.toList++b.data.toList:=aC
def aa3{a:ByteArray}{l:List UInt8}(h:a.data.toList=l):Ending.returned (aH a)=bX (aH ⟨l.toArray⟩):=by subst h;rfl
def one_byte(u:U)(x:Int):(convert 155 9 (aR (M ⟨u.heap.size,0,Z⟩) 1 1)).run PQ (u.alloc (.cells #[N .u8 x] 5))=.ok (aH ⟨#[UInt8.ofNat x.toNat]⟩) (u.alloc (.cells #[N .u8 x] 5)):=by
 have h:=run_convert_bytes_arg (P:=PQ) (u.alloc (.cells #[N .u8 x] 5)) 155 5 (uq fX) (uq gD) u.heap.size 0 1 1 [x] rfl (λi q=>by
  obtain rfl:i=0:=aA
  simp) 9 (uq eI)
 exact h
def WT:Option (List UInt8)->aD
 |some c=>dC #[aH ⟨c.toArray⟩,cF bB]
 |none=>dC #[aH ⟨#[]⟩,cF aL]
def toList_empty(s:ByteArray):s.toList.isEmpty=decide (s.size=0):=by rw[ByteArray.toList_eq,bD];cases s.data.toList<;>simp
def tH(u:U)(s:ByteArray)(i:Int)(j:Nat)(q:j<s.size)(e:i=(j:Int)):(Instr.index 9 (aH s) (N X i)).run PQ u=.ok (N .u8 (s[j].toNat:Int)) u:=by subst e;rw[run_index_string u _ s X _ (uq eI),dif_pos aA];simp
def W9(s:ByteArray)(q:0<s.size)(h:s.size=1):Im.bare s.data.toList=decide (s[0].toNat<128):=by
 obtain⟨⟨l⟩⟩:=s
 match l,h with
 |[x],_=>rfl
def NT(s:ByteArray)(h:s.size≠1):Im.bare s.data.toList=aL:=by
 obtain⟨⟨l⟩⟩:=s
 match l,h with
 |[],_=>rfl
 |[x],h=>exact Xs rfl h
 |x::y::r,_=>rfl
def V8{n:Nat}{i:Im.It}(k:Nat):((i.kids.take k).map (Im.wt n)).sum<=Im.wt (n+1) i:=by
 have h:∀(l:List Nat)(k:Nat),(l.take k).sum<=l.sum:=by
  intro l
  induction l with
  |nil=>intro k;simp
  |cons a l ih=>
   intro k;cases k with
   |zero=>simp
   |succ k=>grind
 have:=h (i.kids.map (Im.wt n)) k;rw[<-List.map_take]at this;simp only[Im.wt];omega
open Go.Shelf
open Go.RowKit
def ren:Go.Shelf.Ren:=⟨fun|105=>204|212=>217|99=>218|165=>91|166=>140|170=>173|169=>93|263=>226|264=>227|206=>228|240=>137|241=>138|276=>192|277=>193|167=>139|n=>n,fun|9=>9|3=>3|4=>4|20=>20|0=>0|46=>154|109=>307|5=>5|72=>178|76=>237|51=>22|146=>318|53=>207|148=>320|70=>176|37=>155|75=>163|127=>239|164=>253|80=>182|n=>n,fun|n=>n⟩
def lays105:Go.Proofs.Lays.n105 PQ ren:={
 mixed:=XN
 f99:=(fq Tryz.func218 rfl).trans (Z1 M XN)
 f105:=(fq Tryz.func204 rfl).trans (Z1 M XN)
 f165:=(fq Tryz.func91 rfl).trans (Z1 M XN)
 f166:=(fq Tryz.func140 rfl).trans (Z1 M XN)
 f169:=(fq Tryz.func93 rfl).trans (Z1 M XN)
 f170:=(fq Tryz.func173 rfl).trans (Z1 M XN)
 f206:=(fq Tryz.func228 rfl).trans (Z1 M XN)
 f212:=(fq Tryz.func217 rfl).trans (Z1 M XN)
 f240:=(fq Tryz.func137 rfl).trans (Z1 M XN)
 f241:=(fq Tryz.func138 rfl).trans (Z1 M XN)
 f263:=(fq Tryz.func226 rfl).trans (Z1 M XN)
 f264:=(fq Tryz.func227 rfl).trans (Z1 M XN)
 f276:=(fq Tryz.func192 rfl).trans (Z1 M XN)
 f277:=(fq Tryz.func193 rfl).trans (Z1 M XN)
 t0:=(uq py)
 a0:=(qp Tryz.isAgg0)
 z0:=(oO Tryz.sizeOf0)
 v0:=(qj pE)
 t3:=(uq Tryz.underlying3)
 a3:=(qp Tryz.isAgg3)
 z3:=(oO Tryz.sizeOf3)
 v3:=(qj Tryz.zeroValue3)
 t4:=(uq nj)
 a4:=(qp Tryz.isAgg4)
 z4:=(oO qb)
 v4:=(qj pH)
 t5:=(uq gD)
 a5:=(qp Tryz.isAgg5)
 z5:=(oO p6)
 v5:=(qj pA)
 t9:=(uq eI)
 a9:=(qp Tryz.isAgg9)
 z9:=(oO qd)
 v9:=(qj pL)
 t20:=(uq Tryz.underlying20)
 a20:=(qp Tryz.isAgg20)
 z20:=(oO Tryz.sizeOf20)
 v20:=(qj Tryz.zeroValue20)
 t37:=(uq fX)
 a37:=(qp Tryz.isAgg155)
 z37:=(oO Tryz.sizeOf155)
 v37:=(qj qv)
 t46:=(uq Tryz.underlying154)
 a46:=(qp Tryz.isAgg154)
 z46:=(oO Tryz.sizeOf154)
 v46:=(qj Tryz.zeroValue154)
 t51:=(uq Tryz.underlying22)
 a51:=(qp Tryz.isAgg22)
 z51:=(oO Tryz.sizeOf22)
 v51:=(qj Tryz.zeroValue22)
 t53:=(uq Tryz.underlying207)
 a53:=(qp Tryz.isAgg207)
 z53:=(oO Tryz.sizeOf207)
 v53:=(qj Tryz.zeroValue207)
 t70:=(uq Tryz.underlying176)
 a70:=(qp Tryz.isAgg176)
 z70:=(oO Tryz.sizeOf176)
 v70:=(qj Tryz.zeroValue176)
 t72:=(uq Tryz.underlying178)
 a72:=(qp Tryz.isAgg178)
 z72:=(oO Tryz.sizeOf178)
 v72:=(qj Tryz.zeroValue178)
 t75:=(uq Tryz.underlying163)
 a75:=(qp Tryz.isAgg163)
 z75:=(oO Tryz.sizeOf163)
 v75:=(qj Tryz.zeroValue163)
 t76:=(uq Tryz.underlying237)
 a76:=(qp Tryz.isAgg237)
 z76:=(oO Tryz.sizeOf237)
 v76:=(qj Tryz.zeroValue237)
 t109:=(uq Tryz.underlying307)
 a109:=(qp Tryz.isAgg307)
 z109:=(oO Tryz.sizeOf307)
 v109:=(qj Tryz.zeroValue307)
 t127:=(uq Tryz.underlying239)
 a127:=(qp Tryz.isAgg239)
 z127:=(oO Tryz.sizeOf239)
 v127:=(qj Tryz.zeroValue239)
 t146:=(uq Tryz.underlying318)
 a146:=(qp Tryz.isAgg318)
 z146:=(oO Tryz.sizeOf318)
 v146:=(qj Tryz.zeroValue318)
 t148:=(uq Tryz.underlying320)
 a148:=(qp Tryz.isAgg320)
 z148:=(oO Tryz.sizeOf320)
 v148:=(qj Tryz.zeroValue320)
 t164:=(uq Tryz.underlying253)
 a164:=(qp Tryz.isAgg253)
 z164:=(oO Tryz.sizeOf253)
 v164:=(qj Tryz.zeroValue253) }
def lays167:Go.Proofs.Lays.n167 PQ ren:={
 mixed:=XN
 f167:=(fq Tryz.func139 rfl).trans (Z1 M XN)
 f240:=(fq Tryz.func137 rfl).trans (Z1 M XN)
 f276:=(fq Tryz.func192 rfl).trans (Z1 M XN)
 t0:=(uq py)
 a0:=(qp Tryz.isAgg0)
 z0:=(oO Tryz.sizeOf0)
 v0:=(qj pE)
 t4:=(uq nj)
 a4:=(qp Tryz.isAgg4)
 z4:=(oO qb)
 v4:=(qj pH)
 t5:=(uq gD)
 a5:=(qp Tryz.isAgg5)
 z5:=(oO p6)
 v5:=(qj pA)
 t9:=(uq eI)
 a9:=(qp Tryz.isAgg9)
 z9:=(oO qd)
 v9:=(qj pL)
 t20:=(uq Tryz.underlying20)
 a20:=(qp Tryz.isAgg20)
 z20:=(oO Tryz.sizeOf20)
 v20:=(qj Tryz.zeroValue20)
 t37:=(uq fX)
 a37:=(qp Tryz.isAgg155)
 z37:=(oO Tryz.sizeOf155)
 v37:=(qj qv)
 t70:=(uq Tryz.underlying176)
 a70:=(qp Tryz.isAgg176)
 z70:=(oO Tryz.sizeOf176)
 v70:=(qj Tryz.zeroValue176)
 t72:=(uq Tryz.underlying178)
 a72:=(qp Tryz.isAgg178)
 z72:=(oO Tryz.sizeOf178)
 v72:=(qj Tryz.zeroValue178)
 t75:=(uq Tryz.underlying163)
 a75:=(qp Tryz.isAgg163)
 z75:=(oO Tryz.sizeOf163)
 v75:=(qj Tryz.zeroValue163)
 t164:=(uq Tryz.underlying253)
 a164:=(qp Tryz.isAgg253)
 z164:=(oO Tryz.sizeOf253)
 v164:=(qj Tryz.zeroValue253) }
def extra:Builder.Extra PQ ren:={
 sizeBuilder:=XN
 liesBuilder:=XN
 t5:=(uq gD)
 a5:=(qp Tryz.isAgg5)
 z5:=(oO p6)
 v5:=(qj pA)
 infoByte:=XN
 cellsByte:=XN
 sizeByte:=XN
 neB5:=by decide }
abbrev tu(B b:Nat)(l:List UInt8)(w:U):Prop:=Lib.IsBuilderF 178 5 B b (lz l) w
def fresh(w:U):tu w.heap.size w.heap.size [] (w.alloc (.cells #[aM Z,aR Z 0 0] 178)):=Lib.IsBuilderF.of (Lib.fresh_isBuilder 178 5 w)
def agD(B b:Nat)(l:List UInt8)(w:U)(h:tu B b l w):eE PQ 173 #[aM (M ⟨b,0,Z⟩)] w λe w'=>e=bX (N X l.length)/\w'=w:=by
 have c:=Any.Builder_Len_f (ρ:=ren) { lays105 with } B b _ w h;rw[nv]at c;exact c
def wS(B b:Nat)(l:List UInt8)(w:U)(h:tu B b l w)(q:B<=w.heap.size):eE PQ 93 #[aM (M ⟨b,0,Z⟩)] w λe w'=>e=bX (aH ⟨l.toArray⟩)/\tu B b l w'/\Below B w w':=
 Any.Builder_String_any_f (ρ:=ren) { lays105 with } extra B b l w h q
def zS(B b:Nat)(l:List UInt8)(s:ByteArray)(w:U)(h:tu B b l w)(I:l.length+s.size<=140737488355328)(J:B<=w.heap.size):eE PQ 140 #[aM (M ⟨b,0,Z⟩),aH s] w λe w'=>e=bX (dC #[N X s.size,.nilIface])/\tu B b (l++s.data.toList) w'/\Below B w w':=by
 refine(Any.Builder_WriteString_f (ρ:=ren) { lays105 with } extra B b _ s w h (by rw[nv];exact I) J).mono ?_;rintro e w' ⟨rfl,q,E⟩;refine⟨rfl,?_,E⟩;rw[Lib.strCells_eq,<-Lib.byteCells_append]at q;exact cK q
def bByte(B b:Nat)(l:List UInt8)(c:UInt8)(w:U)(h:tu B b l w)(I:l.length+1<=140737488355328)(Y:B<=w.heap.size):eE PQ 139 #[aM (M ⟨b,0,Z⟩),N .u8 c.toNat] w λe w'=>e=bX .nilIface/\tu B b (l++[c]) w'/\Below B w w'/\Lib.OthersKept 5 (M b) w w':=by
 refine(Any.Builder_WriteByte_k (ρ:=ren) lays167 extra B b _ _ w h (by rw[nv];exact I) Y).mono ?_;rintro e w' ⟨rfl,J,E,q⟩;refine⟨rfl,?_,E,q⟩;rw[tu,Lib.byteCells_append];exact cK J
def acI(B b n:Nat)(w:U)(Y:B<=b)(E:w.heap[b]? =M (.cells #[aM Z,aR Z 0 0] 178 (0,0)))(q:B<=w.heap.size)(hn:n<=281474976710656):eE PQ 91 #[aM (M ⟨b,0,Z⟩),N X n] w λe w'=>e=bX (dC #[])/\tu B b [] w'/\Below B w w':=by
 refine(Any.Builder_Grow_fresh (ρ:=ren) { lays105 with } extra B b n w Y E q hn).mono ?_;rintro e w' ⟨rfl,J,I⟩;exact⟨rfl,Lib.IsBuilderF.of (cK J),I⟩
def repeated(s:ByteArray)(c:Nat)(w:U)(E:c<=9223372036854775807)(q:s.size*c<=140737488355328):eE PQ 204 #[aH s,N X c] w λe w'=>e=bX (aH ⟨(Lib.repeatL s.data.toList c).toArray⟩)/\Below w.heap.size w w':=
 Any.strings_Repeat (ρ:=ren) lays105 extra s c w E q
def pG{B b:Nat}{l:List UInt8}{w w':U}(h:tu B b l w)(J:Below w.heap.size w w'):tu B b l w':=by
 have go:∀p,Lib.BuilderAtF 178 5 B b p (lz l) w->Lib.BuilderAtF 178 5 B b p (lz l) w':=by
  intro p hp;have E:=hp.lt;obtain⟨h1,v,h2,h3,h4⟩:=hp;have hk:=h3.lt;refine⟨h1,v,(J.block b E).trans h2,?_,h4⟩;obtain⟨g1,q⟩:=h3;refine⟨g1,?_⟩;obtain q|q:=q
  .exact cJ q
  .obtain⟨g,cap,I,Y,rfl,q1,q2,q3⟩:=q;exact cK ⟨g,cap,I,Y,rfl,q1,(J.block g (hk g rfl).2).trans q2,q3⟩
 exact h.elim (λx=>cJ (go _ x)) (λx=>cK (go _ x))
