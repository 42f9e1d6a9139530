import Derived.Test.YtpibpdpedjinhaaGreatDoorP32
import Derived.OrdersIn
set_option maxRecDepth 100000
set_option maxHeartbeats 4000000
set_option linter.all false
open Bool renaming false->aL,true->bB
open Go renaming Addr->gF,Boxed->jb,Oper->lR,Program->cY,Value->aD,World->U,bodyPost_ret->cM,execOp->bL,heap_alloc_new->cX,results_none->rp
open Go.Region renaming ready->fI,wanted->cT
open Go.Value renaming bool->cF,int->N,ownBlock->eA,pointer->aM,slice->aR,string->aH
open Go.World renaming cell?_of_block->bN
open Option renaming none->Z,some->M
open Or renaming inl->cJ,inr->cK
open Prod renaming fst->cG,snd->lr
namespace Go.Proofs.YtpibpdpedjinhaaGreatDoor
namespace Hm
open Dv (X2 Cf Ba Lo)
section
variable {ep cnt T:Nat}{b:Ba}{h:Lo}{s s0:uy}{x:DX}{pre:List DX}{ws:List PW}
structure Lk(chain:List X2)(us:List PB)(dl:Nat->List (List UInt8)):Prop where
 pos:0<us.length
 len:us.length<=chain.length
 id:∀j,j<us.length->Ia us j=(chain[j]!).id
 time:∀j,j<us.length->BM us j=(chain[j]!).time
 deps:∀j,j<us.length->dl j=Dv.jS (chain[j]!)
section
variable {c:Cf}{chain:List X2}{us:List PB}{dl:Nat->List (List UInt8)}
theorem uf(ep:Nat)(t:Int)(b:Ba):outside c ep t b=Dv.late c ep t b:=by unfold outside Dv.late;rw[Bool.eq_iff_iff];simp only[iV,dF,Z3,bne_iff_ne];omega
theorem FV(l:List (List UInt8)):(l.length == 0)=l.isEmpty:=by cases l<;>simp
theorem AO(hk:Lk chain us dl)(q:ep<us.length){t:Int}(ho:outside c ep t b=aL):waits c us ep t b b.txs.length=Dv.holds c chain (us.length-1) ep t b:=by
 unfold waits Dv.holds;rw[FV,<-hk.time ep q];unfold outside at ho;simp only[iw,jf,Z6,bne_eq_false_iff_eq]at ho;rw[Bool.eq_iff_iff];by_cases h:ep+1<=us.length-1
 .grind
 .grind
theorem N8(hk:Lk chain us dl)(q:ep<us.length){t:Int}(J:b.epoch<us.length)(hw:waits c us ep t b b.txs.length=aL):SS c us ep t b b.txs.length=Dv.wrong c chain ep t b:=by
 have I:b.epoch=ep->b.txs.isEmpty=bB->(chain[b.epoch]!).time+c.drift<t->ep+1<us.length:=λE Y hl=>by
  unfold waits at hw;rw[FV,Y,hk.time _ q,<-E]at hw;by_cases h:b.epoch+1<=us.length-1
  .omega
  .grind
 have h2:ep+1<us.length->BM us (ep+1)=(chain[ep+1]!).time:=hk.time _;unfold SS Dv.wrong allows;rw[FV,hk.id _ J,hk.time _ J]
 congr 1
 revert I h2;generalize (chain[b.epoch]!).time=A;generalize (chain[ep+1]!).time=D;generalize BM us (ep+1)=D';intro I h2;rw[Bool.eq_iff_iff];simp only[dF,Z3,Bool.not_eq_true',jf,iw,bne_eq_false_iff_eq,Z6,iV,YY];constructor
 .grind
 .grind
theorem F9(hk:Lk chain us dl)(q:ep<us.length)(I:b.epoch<us.length):
  verdict c us cnt ep b b.txs.length=if lT c us cnt<(b.time:Int)then 0 else if Dv.late c ep (lT c us cnt) b then 1 else if Dv.holds c chain (us.length-1) ep (lT c us cnt) b then 2 else if Dv.wrong c chain ep (lT c us cnt) b then 1 else 3:=by
 unfold verdict;split
 .rfl
 .rw[uf];split
  .rfl
  .rename_i E;rw[AO hk q (by rw[uf];simpa using E)];split
   .rfl
   .rename_i h2;rw[N8 hk q I (by rw[AO hk q (by rw[uf];simpa using E)];simpa using h2)]
theorem GV(hk:Lk chain us dl){cnt ep:Nat}(q:ep<us.length):∀ws:List PW,(∀p,p∈ws->p.1.epoch<us.length)->
  (pick (judged c us cnt ep) ws).2.map cG=(Dv.sift c chain (us.length-1) ep (lT c us cnt) (ws.map cG)).2/\
  (match (Dv.sift c chain (us.length-1) ep (lT c us cnt) (ws.map cG)).1 with
   |.no=>(pick (judged c us cnt ep) ws).1=(0,Z)
   |.hold=>(pick (judged c us cnt ep) ws).1=(2,Z)
   |.got b=>∃v,(pick (judged c us cnt ep) ws).1=(3,M (b,v)))
 |[],_=>by simp[pick,Dv.sift]
 |b::r,h=>by
  obtain⟨i1,i2⟩:=GV hk (cnt:=cnt) q r (λp hp=>h p (cZ _ hp));have E:judged c us cnt ep b=_:=F9 (c:=c) hk (cnt:=cnt) q (h b dQ);rw[eP,Dv.sift,pick];by_cases I:lT c us cnt<(b.1.time:Int)
  .grind
  .rw[Zs I]at E⊢;by_cases h2:Dv.late c ep (lT c us cnt) b.1=bB
   .grind
   .rw[Zs h2]at E⊢;by_cases h3:Dv.holds c chain (us.length-1) ep (lT c us cnt) b.1=bB
    .grind
    .rw[Zs h3]at E⊢;by_cases h4:Dv.wrong c chain ep (lT c us cnt) b.1=bB
     .grind
     .grind
def Eb:Option PW->List (List UInt8)
 |some b=>b.1.txs
 |none=>[]
def qx(c:Cf)(us:List PB)(dl:Nat->List (List UInt8))(x:DX):Lo:=⟨x.s.cnt,lT c us x.s.cnt,x.e,Ia us x.e,x.s'.sq,Eb x.ob,if x.s'.sq=0 then dl x.e else [],us.length-1⟩
structure Hs(c:Cf)(us:List PB)(h:Lo)(s:uy):Prop where
 number:h.number+1=s.cnt
 time:h.time+c.step=lT c us s.cnt
 epoch:h.epoch=s.ep
 seq:h.seq=s.sq
theorem IV(hk:Lk chain us dl)(hs:Hs c us h s)(E:s.ep<us.length)(hw:1<=c.window)(q:∀p,p∈s.ws->p.1.epoch<us.length):
  (jK c us s.ws s.cnt s.ep).2.map cG=(Dv.draw c chain (us.length-1) h (s.ws.map cG)).2/\
  (match (jK c us s.ws s.cnt s.ep).1 with
   |none=>(Dv.draw c chain (us.length-1) h (s.ws.map cG)).1=Z
   |some (e,ob)=>(Dv.draw c chain (us.length-1) h (s.ws.map cG)).1=M (Dv.lay c chain (us.length-1) h e (Eb ob))):=by
 have I:s.cnt≠0:=by have:=hs.number;omega
 obtain⟨i1,i2⟩:=GV (c:=c) hk (cnt:=s.cnt) E _ q;unfold jK Dv.draw;rw[Zs (by have:=hk.pos;omega),Zs I];rw[hs.epoch,hs.time];cases ho:(Dv.sift c chain (us.length-1) s.ep (lT c us s.cnt) (s.ws.map cG)).1 with
 |got b=>
  rw[ho]at i2;obtain⟨v,J⟩:=i2;rw[J];dsimp only;rw[ho];exact⟨i1,rfl⟩
 |hold=>
  grind
 |no=>
  rw[ho]at i2;rw[i2];dsimp only;rw[ho];by_cases Y:((us.length-1:Nat):Int)<=(s.ep:Int)+c.window
  .grind
  .rw[ZD ⟨aA,aA⟩];dsimp only;rw[Zs Y];refine⟨i1,?_⟩;unfold alone Eb;rw[hk.time _ (by omega:s.ep+1<us.length)]
theorem Xe(hk:Lk chain us dl)(hs:Hs c us h x.s)(J:x.e<us.length)(I:x.s'=⟨x.s'.ws,x.s.cnt+1,x.e,kE x.s.cnt x.s.ep x.s.sq x.e⟩):Dv.lay c chain (us.length-1) h x.e (Eb x.ob)=qx c us dl x/\Hs c us (qx c us dl x) x.s':=by
 have Y:x.s'.sq=kE x.s.cnt x.s.ep x.s.sq x.e:=by rw[I]
 have q:x.s'.cnt=x.s.cnt+1:=by rw[I]
 have E:x.s'.ep=x.e:=by rw[I]
 have h1:=hs.number;refine⟨?_,?_,?_,?_,?_⟩
 .unfold Dv.lay qx;rw[Y];unfold kE;rw[hs.number,hs.time,hs.epoch,hs.seq,hk.id _ J,hk.deps _ J];by_cases h2:x.e=x.s.ep
  .grind
  .grind
 .exact q.symm
 .rw[q,GU];rfl
 .exact E.symm
 .rfl
inductive yA(c:Cf)(us:List PB):uy->List DX->Prop
 |nil (s0:uy):yA c us s0 []
 |cons {x:DX} {r:List DX}:jK c us x.s.ws x.s.cnt x.s.ep=(M (x.e,x.ob),x.s'.ws)->x.s'=⟨x.s'.ws,x.s.cnt+1,x.e,kE x.s.cnt x.s.ep x.s.sq x.e⟩->yA c us x.s' r->yA c us x.s (x::r)
theorem yA.snoc{s0:uy}{pre:List DX}(h:yA c us s0 pre):∀{x:DX},x.s=jM s0 pre->jK c us x.s.ws x.s.cnt x.s.ep=(M (x.e,x.ob),x.s'.ws)->x.s'=⟨x.s'.ws,x.s.cnt+1,x.e,kE x.s.cnt x.s.ep x.s.sq x.e⟩->yA c us s0 (pre++[x]):=by
 induction h with
 |nil s0=>
  intro x q h2 h3;have q:x.s=s0:=q;subst q;exact .cons h2 h3 (.nil _)
 |cons g1 g2 g3 ih=>
  intro x q h2 h3;exact .cons g1 g2 (ih q h2 h3)
theorem Steps.abv(h:Steps c us s0 pre):yA c us s0 pre:=by
 induction h with
 |nil=>exact .nil _
 |snoc _ h2 h3 h4 ih=>exact ih.snoc h2 h3 h4
structure Ok(c:Cf)(chain:List X2)(us:List PB)(T:Nat)(h:Lo)(s:uy):Prop where
 hs:Hs c us h s
 ep:s.ep<us.length
 ws:∀p,p∈s.ws->p.1.epoch<us.length/\p.1.place<=4294967296
 much:s.cnt+Dv.left chain (us.length-1) h (s.ws.map cG)<=T
 sq:s.sq<=s.cnt
theorem uF:∀p,p∈(jK c us ws cnt ep).2->p∈ws:=by
 intro p hp;have h2:=(qM (judged c us cnt ep) ws).2.1;unfold jK at hp;split at hp
 .exact hp
 .grind
theorem Ok.next(hk:Lk chain us dl)(hc:Dv.jY chain=bB)(q:Dv.jP c=bB)(o:Ok c chain us T h x.s)(h1:jK c us x.s.ws x.s.cnt x.s.ep=(M (x.e,x.ob),x.s'.ws))(h2:x.s'=⟨x.s'.ws,x.s.cnt+1,x.e,kE x.s.cnt x.s.ep x.s.sq x.e⟩):Dv.draw c chain (us.length-1) h (x.s.ws.map cG)=(M (qx c us dl x),x.s'.ws.map cG)/\x.e<us.length/\Ok c chain us T (qx c us dl x) x.s':=by
 have hw:1<=c.window:=by
  unfold Dv.jP at q;simp only[Z3]at q;omega
 obtain⟨Y,J⟩:=IV hk o.hs o.ep hw (λp hp=>(o.ws p hp).1);rw[h1]at Y J;dsimp only at Y J;have hp:=hk.pos;have hl:=hk.len;have hd:Dv.draw c chain (us.length-1) h (x.s.ws.map cG)=(M (Dv.lay c chain (us.length-1) h x.e (Eb x.ob)),x.s'.ws.map cG):=Prod.ext J Y.symm;have hs:=Dv.wF c chain _ hc q aA (by rw[o.hs.epoch];have:=o.ep;omega) hd
 have he:x.e<us.length:=by
  have:=hs.2.2.1;simp only[Dv.lay]at this;omega
 obtain⟨e1,e2⟩:=Xe hk o.hs he h2;rw[e1]at hd hs;have E:x.s'.cnt=x.s.cnt+1:=by rw[h2]
 have I:x.s'.sq=kE x.s.cnt x.s.ep x.s.sq x.e:=by rw[h2]
 refine⟨hd,he,e2,by rw[h2];exact he,λp hp=>o.ws p ?_,?_,?_⟩
 .have:=uF (c:=c) (us:=us) (ws:=x.s.ws) (cnt:=x.s.cnt) (ep:=x.s.ep) p;rw[h1]at this;exact this hp
 .have hm:=o.much;unfold Dv.left at hm⊢;rw[E];have:=hs.2.2.2.2.2.2.2;omega
 .rw[I,E];have:=o.sq;unfold kE;split<;>omega
theorem yA.ok(hk:Lk chain us dl)(J:Dv.jY chain=bB)(q:Dv.jP c=bB)(f:yA c us s0 pre):∀{h:Lo},Ok c chain us T h s0->∃z,Ok c chain us T z (jM s0 pre)/\z=(h::pre.map (qx c us dl)).getLastD default:=by
 induction f with
 |nil s0=>
  intro h o;exact⟨h,o,rfl⟩
 |@cons x r h1 h2 _ ih=>
  intro h o;obtain⟨z,I,E⟩:=ih (o.next hk J q h1 h2).2.2;exact⟨z,I,by rw[E];simp⟩
theorem yA.draws(hk:Lk chain us dl)(hc:Dv.jY chain=bB)(q:Dv.jP c=bB)(f:yA c us s0 pre):∀{h:Lo}(n:Nat),Ok c chain us T h s0->(jK c us (jM s0 pre).ws (jM s0 pre).cnt (jM s0 pre).ep).1=Z->pre.length<n->Dv.draws c chain (us.length-1) n h (s0.ws.map cG)=(pre.map (qx c us dl),(jK c us (jM s0 pre).ws (jM s0 pre).cnt (jM s0 pre).ep).2.map cG):=by
 have hw:1<=c.window:=by
  unfold Dv.jP at q;simp only[Z3]at q;omega
 induction f with
 |nil s0=>
  intro h n o E I;cases n with
  |zero=>simp at I
  |succ n=>
   obtain⟨Y,J⟩:=IV hk o.hs o.ep hw (λp hp=>(o.ws p hp).1);have E:(jK c us s0.ws s0.cnt s0.ep).1=Z:=E;rw[E]at J;dsimp only at J;have hd:Dv.draw c chain (us.length-1) h (s0.ws.map cG)=(Z,(jK c us s0.ws s0.cnt s0.ep).2.map cG):=Prod.ext J Y.symm;rw[Dv.draws,hd];rfl
 |@cons x r h1 h2 _ ih=>
  intro h n o E I;cases n with
  |zero=>simp at I
  |succ n=>
   obtain⟨hd,he,o'⟩:=o.next hk hc q h1 h2;have:=ih n o' E (by simpa using I);rw[Dv.draws,hd];dsimp only;rw[this];rfl
theorem Steps.draws(hk:Lk chain us dl)(E:Dv.jY chain=bB)(q:Dv.jP c=bB)(f:yA c us s0 pre)(o:Ok c chain us T h s0)(I:(jK c us (jM s0 pre).ws (jM s0 pre).cnt (jM s0 pre).ep).1=Z):Dv.draws c chain (us.length-1) (Dv.left chain (us.length-1) h (s0.ws.map cG)+1) h (s0.ws.map cG)=(pre.map (qx c us dl),(jK c us (jM s0 pre).ws (jM s0 pre).cnt (jM s0 pre).ep).2.map cG):=by
 rw[Dv.yF c chain (us.length-1) E q (by have:=hk.len;have:=hk.pos;omega) _ (Dv.left chain (us.length-1) h (s0.ws.map cG)+1+pre.length) h _ (by rw[o.hs.epoch];have:=o.ep;omega) aA aA];exact f.draws hk E q _ o I aA
theorem Lk.get(hk:Lk chain us dl){j:Nat}{p:PB}(h:us[j]? =M p):p.1=(chain[j]!).id/\p.2.1=(chain[j]!).time:=by have q:=(aN.1 h).1;exact⟨(Jl h).symm.trans (hk.id j q),(wJ h).symm.trans (hk.time j q)⟩
theorem Ok.sane(hk:Lk chain us dl)(J:Dv.jY chain=bB)(q:Dv.jP c=bB)(hT:T<4294967296)(o:Ok c chain us T h s):Ac c us s.ws s.cnt s.ep:=by unfold Dv.jP at q;simp only[Z3]at q;have Y:=(Dv.kU J).2.1;have hl:=hk.len;have E:=o.much;unfold Dv.left at E;rw[bC]at E;refine⟨λp hp=>?_,aA,aA,aA,aA,aA,aA,o.ep,o.ws⟩;obtain⟨j,I⟩:=jB.1 hp;have aa:=(aN.1 I).1;have:=Dv.U1 J (i:=j) aA;rw[(hk.get I).2];omega
theorem abe(hk:Lk chain us dl)(I:Dv.jY chain=bB)(q:Dv.jP c=bB)(J:T<4294967296)(o:Ok c chain us T h s0):Good c us s0:=by intro pre hp;obtain⟨z,E,_⟩:=hp.abv.ok hk I q o;have Y:=E.hs.number;have h2:=E.much;have h3:=E.sq;exact⟨λ_=>E.sane hk I q J,aA,λe=>aA⟩
theorem ED(q:us.length=1)(ws:List PW):jK c us ws 0 0=(M (0,Z),ws):=by unfold jK;rw[Zs aA,ZD rfl]
theorem Du(J:us.length=1)(f:yA c us ⟨ws,0,0,0⟩ pre):pre=[]\/∃x r,pre=x::r/\x.s=⟨ws,0,0,0⟩/\x.e=0/\x.ob=Z/\x.s'=⟨ws,1,0,0⟩/\yA c us ⟨ws,1,0,0⟩ r:=by
 generalize q:(⟨ws,0,0,0⟩:uy)=s at f;cases f with
 |nil=>exact cJ rfl
 |@cons x r h1 h2 h3=>
  right;have hs:=q;clear q;rw[<-hs]at h1 h2;rw[ED J]at h1;simp only[dJ,aK]at h1;obtain⟨⟨E,Y⟩,I⟩:=h1;rw[<-E,<-I]at h2;have h2:x.s'=⟨ws,1,0,0⟩:=h2;rw[h2]at h3;exact⟨x,r,rfl,rfl,E.symm,Y.symm,h2,h3⟩
theorem QI(hk:Lk chain us dl)(E:us.length=1)(q:x.s=⟨ws,0,0,0⟩)(h2:x.e=0)(h3:x.ob=Z)(h4:x.s'=⟨ws,1,0,0⟩):qx c us dl x=Dv.first (chain[0]!):=by
 unfold qx Dv.first;rw[q,h2,h3,h4]
 have ht:lT c us 0=BM us 0:=by
  unfold lT BM;simp
 dsimp only;rw[ZD rfl,ht,hk.id 0 aA,hk.time 0 aA,hk.deps 0 aA,E];rfl
theorem ES(hk:Lk chain us dl)(E:us.length=1)(q:∀p,p∈ws->p.1.epoch<us.length/\p.1.place<=4294967296):Ok c chain us (1+ws.length) (Dv.first (chain[0]!)) ⟨ws,1,0,0⟩:=by
 refine⟨⟨rfl,?_,rfl,rfl⟩,by show 0<_;omega,q,?_,aC⟩
 .unfold Dv.first lT;have:=hk.time 0 aA;unfold BM at this;rw[this];simp
 .unfold Dv.left Dv.first;rw[E];simp
theorem Qm(hk:Lk chain us dl)(Y:Dv.jY chain=bB)(q:Dv.jP c=bB)(J:us.length=1)(aa:ws.length<4294967000)(E:∀p,p∈ws->p.1.epoch<us.length/\p.1.place<=4294967296):Good c us ⟨ws,0,0,0⟩:=by
 intro pre hp;obtain rfl|⟨x,r,rfl,h1,h2,h3,h4,h5⟩:=Du J hp.abv
 .refine⟨λ_=>?_,by show 0<_;omega,λ_=>rfl⟩;have:=(ES (c:=c) hk J E).sane hk Y q aA;exact⟨this.times,this.step,this.drift,this.window,by show 0<_;omega,this.len,this.wlen,this.ep,this.batch⟩
 .obtain⟨z,I,_⟩:=h5.ok hk Y q (ES (c:=c) hk J E)
  have e:jM ⟨ws,0,0,0⟩ (x::r)=jM ⟨ws,1,0,0⟩ r:=by
   unfold jM;rw[List.foldl_cons,h4]
  rw[e];have h1:=I.hs.number;have h2:=I.much;have h3:=I.sq;exact⟨λ_=>I.sane hk Y q aA,aA,λe=>aA⟩
end
end
open Dv (Cf)
section
variable {v:aD}{lo hi m:Nat}{vs us:List aD}
def bn(vs:List aD)(g:Nat):Nat:=vs.countP λv=>v.ownBlock == M g
theorem xP(a b:List aD)(g:Nat):bn (a++b) g=bn a g+bn b g:=List.countP_append
theorem tV(v:aD)(a:List aD)(g:Nat):bn (v::a) g=bn [v] g+bn a g:=xP [v] a g
theorem aad(g:Nat):bn [] g=0:=rfl
theorem afi{g:Nat}(h:0<bn [v] g):v.ownBlock=M g:=by
 unfold bn at h;rw[List.countP_singleton]at h;split at h
 .rename_i e;simpa using e
 .omega
theorem aeS(v:aD)(g:Nat):bn [v] g<=1:=List.countP_le_length
structure kH(lo hi:Nat)(vs:List aD):Prop where
 one:∀g,bn vs g<=1
 at_:∀g,0<bn vs g->lo<=g/\g<hi
theorem kH.nil(lo hi:Nat):kH lo hi []:=⟨λg=>dL _,λg h=>by simp[aad]at h⟩
theorem kH.mono{lo' q:Nat}(h:kH lo hi vs)(I:lo'<=lo)(h2:hi<=q):kH lo' q vs:=⟨h.one,λg E=>by have:=h.at_ g E;omega⟩
theorem kH.less(h:kH lo hi vs)(q:∀g,bn us g<=bn vs g):kH lo hi us:=⟨λg=>bH (q g) (h.one g),λg E=>h.at_ g (aP E (q g))⟩
theorem kH.append{a b:List aD}(h:kH lo m a)(q:kH m hi b)(I:lo<=m)(h2:m<=hi):kH lo hi (a++b):=by refine⟨λg=>?_,λg Y=>?_⟩<;>rw[xP]at *<;>have h3:=h.one g<;>have h4:=q.one g<;>have J:=h.at_ g<;>have E:=q.at_ g<;>omega
theorem kH.one'(h:∀g,v.ownBlock=M g->lo<=g/\g<hi):kH lo hi [v]:=⟨aeS v,λg q=>h g (afi q)⟩
theorem RG(V:PW->Nat)(g:Nat):∀ws:List PW,bn [ET (pick V ws).1.2] g+bn ((pick V ws).2.map lr) g<=bn (ws.map lr) g
 |[]=>by simp[pick,ET,bn,eA]
 |b::r=>by
  have E:=RG V g r;have q:bn [ET Z] g=0:=by simp[ET,bn,eA]
  rw[pick,eP,tV b.2 (r.map lr)];split
  .dsimp only;rw[eP,tV b.2 _];omega
  .split
   .dsimp only;rw[q,eP,tV b.2 _];omega
   .split
    .exact jE
    .omega
theorem QZ(c:Cf)(us:List PB)(ws:List PW)(cnt ep g:Nat):bn ((jK c us ws cnt ep).2.map lr) g<=bn (ws.map lr) g/\∀e ob,(jK c us ws cnt ep).1=M (e,ob)->bn [ET ob] g+bn ((jK c us ws cnt ep).2.map lr) g<=bn (ws.map lr) g:=by
 have h:=RG (judged c us cnt ep) g ws;have E:bn [ET Z] g=0:=by simp[ET,bn,eA]
 unfold jK;split
 .exact⟨jE,λe ob h=>by simp at h⟩
 .split
  .refine⟨jE,λe ob h=>?_⟩;simp only[aK,dJ]at h;rw[<-h.2,E,fJ];exact jE
  .split
   .rename_i b I;rw[I]at h;dsimp only;refine⟨aA,λe ob q=>?_⟩;simp only[aK,dJ]at q;rw[<-q.2];exact h
   .rename_i I;rw[I,E,fJ]at h;split
    .refine⟨h,λe ob q=>?_⟩;simp only[aK,dJ]at q;rw[<-q.2,E,fJ];exact h
    .exact⟨h,λe ob q=>by simp at q⟩
theorem Z9{c:Cf}{us:List PB}{s0:uy}{q:List DX}(h:Steps c us s0 q)(g:Nat):bn (q.map λx=>ET x.ob) g+bn ((jM s0 q).ws.map lr) g<=bn (s0.ws.map lr) g:=by
 induction h with
 |nil=>simp[aad,jM]
 |@snoc q x hp h1 h2 h3 ih=>
  rw[tC,bJ,xP];have:=(QZ c us x.s.ws x.s.cnt x.s.ep g).2 x.e x.ob (by rw[h2]);rw[h2]at this;rw[h1]at this;have e:bn ([x].map λx=>ET x.ob) g=bn [ET x.ob] g:=rfl;rw[e];dsimp only at this;omega
def lv(pl:List (Dv.Lo×aD×aD)):List aD:=pl.flatMap λp=>[p.2.1,p.2.2]
theorem afG(pl:List (Dv.Lo×aD×aD))(g:Nat):bn (lv pl) g=bn (pl.map λp=>p.2.1) g+bn (pl.map λp=>p.2.2) g:=by
 induction pl with
 |nil=>rfl
 |cons p pl ih=>
  have e:lv (p::pl)=p.2.1::p.2.2::lv pl:=rfl;rw[e,tV p.2.1 (p.2.2::lv pl),tV p.2.2 (lv pl),ih,eP,eP,tV p.2.1 (pl.map λp=>p.2.1),tV p.2.2 (pl.map λp=>p.2.2)];omega
theorem ado(a b:List (Dv.Lo×aD×aD)):lv (a++b)=lv a++lv b:=iC
theorem kH.drawn{pl ps:List (Dv.Lo×aD×aD)}{ws:List aD}(h:kH lo m (lv pl++us))(hd:kH m hi (ps.map λp=>p.2.2))(hw:∀g,bn (ps.map λp=>p.2.1) g+bn ws g<=bn us g)(I:lo<=m)(h2:m<=hi):kH lo hi (lv (pl++ps)++ws):=by refine⟨λg=>?_,λg Y=>?_⟩<;>rw[ado,xP,xP,afG ps]at *<;>have h3:=h.one g<;>have h4:=hd.one g<;>have q:=h.at_ g<;>have E:=hd.at_ g<;>have J:=hw g<;>rw[xP]at h3 q<;>omega
end
open Go.RowKit Go.Joins Go.Shelf
section
variable {XS M':Nat->Prop}{W W' w w':U}{v vu vo vw v0:aD}{n kb nb cnt ep sq e s B0 cap:Nat}{c:Cf}{us:List PB}{dl:Nat->List (List UInt8)}{ws:List PW}{xs:List aD}{s0:uy}{pre:List DX}{x:DX}{a:Option gF}
abbrev PL:=Lo×aD×aD
variable {p:PL}{ps0 ps:List PL}
def kM(p:PL):List aD:=[N .i64 p.1.number,N .i64 p.1.time,N .i64 p.1.epoch,N .i64 p.1.id,N .i64 p.1.seq,p.2.1,p.2.2,N .i64 p.1.at_]
structure LAt(XS:Nat->Prop)(W:U)(p:PL):Prop where
 txs:kX W p.2.1 p.1.txs
 deps:kX W p.2.2 p.1.deps
 ntxs:∀g,p.2.1.ownBlock=M g->¬XS g
 ndeps:∀g,p.2.2.ownBlock=M g->¬XS g
def RN(XS:Nat->Prop)(W:U):Prop:=∀(k:Nat)(cs:Array aD)(q:Nat×Nat),W.heap[k]? =M (.cells cs 9 q)->¬XS k
theorem kX.jR{l:List (List UInt8)}(h:kX W v l)(Y:jO XS W W')(I:RN XS W):kX W' v l:=Row.jR h Y (λg J=>by
 obtain⟨E,q⟩:=Row.obj h J;exact I g E _ q)
theorem LAt.jR(h:LAt XS W p)(E:jO M' W W')(q:RN M' W):LAt XS W' p:=⟨h.txs.jR E q,h.deps.jR E q,h.ntxs,h.ndeps⟩
theorem LAt.own(h:LAt XS W p)(q:jO XS W W'):LAt XS W' p:=⟨Row.jR h.txs q h.ntxs,Row.jR h.deps q h.ndeps,h.ntxs,h.ndeps⟩
def pI(XS:Nat->Prop)(W:U):Prop:=∀(k:Nat)(cs:Array aD)(t:Nat)(q:Nat×Nat),W.heap[k]? =M (.cells cs t q)->¬XS k
theorem pI.str(h:pI XS W):RN XS W:=λk cs q hk=>h k cs _ q hk
theorem l9{A B:U}{row:Option Nat}(E:A.grownBy B row)(q:∀r,row=M r->n<=r/\∃o:Obj,A.heap[r]? =M o/\o.isCells=aL):∃XS,jO XS A B/\pI XS A/\∀k,k<n->¬XS k:=
 ⟨λk=>row=M k,.grown E,λk cs t J hk e=>(by
  obtain⟨_,o,ho,I⟩:=q k e;rw[hk]at ho;cases ho;cases I),λk hk e=>(by have:=(q k e).1;omega)⟩
theorem sD.nS(h:sD w kb c vu us dl nb vo vw ws cnt ep sq)(J:jO XS w w')(q:pI XS w):sD w' kb c vu us dl nb vo vw ws cnt ep sq:=
 h.jR J (q _ _ _ _ h.obj) (λg I=>by obtain⟨E,e⟩:=h.upper.obj I;exact q g _ _ _ e) (λg I=>by obtain⟨E,e⟩:=h.wait.obj I;exact q g _ _ _ e) q.str
theorem vG(h:Row w e s v n xs)(J:jO XS w w')(E:pI XS w):Row w' e s v n xs:=h.jR J (λg I=>by
 obtain⟨q,e⟩:=h.obj I;exact E g _ _ _ e)
theorem xE{b t:Nat}(h:jb w b t v)(E:jO XS w w')(q:pI XS w):jb w' b t v:=(E.block b h.lt (q b _ _ _ h)).trans h
def Typed(t E:Nat)(XS:Nat->Prop)(W:U):Prop:=∀(k:Nat)(cs:Array aD)(u:Nat)(q:Nat×Nat),W.heap[k]? =M (.cells cs u q)->XS k->u=t\/u=E
theorem Typed.X7(h:Typed 62 35 XS W):RN XS W:=λk cs q hk e=>by
 rcases h k cs _ q hk e with h|h<;>revert h<;>decide
theorem sD.typed(h:sD w kb c vu us dl nb vo vw ws cnt ep sq)(Y:jO XS w w')(E:Typed 62 35 XS w):sD w' kb c vu us dl nb vo vw ws cnt ep sq:=
 h.jR Y (λe=>by rcases E _ _ _ _ h.obj e with h|h<;>revert h<;>decide) (λg J e=>by obtain⟨I,q⟩:=h.upper.obj J;rcases E g _ _ _ q e with h|h<;>revert h<;>decide) (λg J e=>by obtain⟨I,q⟩:=h.wait.obj J;rcases E g _ _ _ q e with h|h<;>revert h<;>decide) E.X7
section
variable {F:Fence}{k:Nat}{P:cY}(w:U){ops:Array lR}{rest:List lR}{o:lR}{a:Act}{Q:Exit->Act->U->Prop}
theorem xk(ab:o.guard=Z)(s x:Operand)(t:TypeId)(ho:o.op=.call { callee:=.builtin .append,args:=#[s,x],argTypes:=#[t,t] })(e:TypeId)(i:TypeInfo)(z:aD)(size bytes:Nat)(ht:P.underlying t=M (.slice e))(hi:P.info? e=M i)(hz:i.zero=M z)(I:i.size=size)(ag:i.bytes=bytes)(ah:z.cells.size=size)(af:0<size)(v:aD)(n:Nat)(xs:List aD)(hs:a.eval s=v)(Y:Row w e size v n xs)(ad:gF)(m c:Nat)(q:List aD)(hx:a.eval x=aR (M ad) m c)(hm:0<m)(hl:q.length=m*size)(J:∀j u,q[j]? =M u->w.cell? (ad.add j)=M u)(h1:∀u∈q,u.oneCell'=bB)(ae:n+m<=maxLen)(E:(n+m)*bytes<=140737488355328)(h:∀g off cap w',Row w' e size (aR (M ⟨g,off,Z⟩) (n+m) cap) (n+m) (xs++q)->Grew v g w w'->wpListIn F k P ops Q rest (a.put o.dst (aR (M ⟨g,off,Z⟩) (n+m) cap)) w'):wpListIn F k P ops Q (o::rest) a w:=by
 refine wpListIn_plain ab λK hK=>?_;obtain⟨v',w',hr,h2,⟨g,off,cap,rfl⟩,h4⟩:=Y.append (P:=P) t o.type i z bytes ht hi hz I ag ah af ad m c q hm hl J h1 ae E;unfold Oper.wpIn;refine⟨?_,?_⟩
 .simp[Oper.about,ho,resolve,Target.leads,Sem.run_pure]
 .rw[Oper.semAt_plain F _ _ (by rw[ho];intro c ac;cases ac)];simp[bL,ho,resolve,invoke,builtin,hs,hx,hr,Result.andThen];refine hK _ _ (h g off cap w' h2 ?_);obtain⟨e1,e2,e3⟩|⟨e1,e2,e3⟩:=h4
  .have aa:v.ownBlock=M g:=e1.symm;exact cJ ⟨aa,by rw[<-aa];exact e2,e3⟩
  .exact cK ⟨by simpa[eA]using e1,e2,e3⟩
end
theorem Grew.others{g:Nat}(h:Grew v g w w')(q:Row w e s v n xs):KeepsOthers w w':=⟨h.jR.size,λk o hk ho=>by
 refine(h.jR.block k (jG hk) (λJ=>?_)).trans hk;obtain⟨I,E⟩:=q.obj J;rw[hk]at E;cases E;cases ho⟩
theorem Ox{ws':List PW}{b:PW}(h:jK c us ws cnt ep=(M (e,M b),ws')):b∈ws:=by
 obtain⟨q,_,_⟩:=qM (judged c us cnt ep) ws;unfold jK at h;split at h
 .cases h
 .split at h
  .cases h
  .split at h
   .rename_i Y E;cases h;obtain q|q|⟨J,I,q⟩:=q
    .rw[q]at E;cases E
    .rw[q]at E;cases E
    .rw[q]at E;cases E;exact I
   .split at h<;>cases h
theorem Nu(h:Steps c us s0 pre):(∀p,p∈(jM s0 pre).ws->p∈s0.ws)/\(jM s0 pre).cnt=s0.cnt+pre.length:=by
 induction h with
 |nil=>exact⟨λ_ h=>h,rfl⟩
 |@snoc pre x _ h2 h3 h4 ih=>
  rw[tC];rw[<-h2]at ih;refine⟨λp hp=>ih.1 p ?_,?_⟩
  .have:=uF (c:=c) (us:=us) (ws:=x.s.ws) (cnt:=x.s.cnt) (ep:=x.s.ep) p;rw[h3]at this;exact this hp
  .rw[h4,aS,iI]
   show x.s.cnt+1=_
   rw[ih.2];omega
theorem Y9(h:Steps c us s0 (pre++[x])){b:PW}(E:x.ob=M b):b∈s0.ws/\x.s.cnt=s0.cnt+pre.length:=by
 generalize q:pre++[x]=l at h;cases h with
 |nil=>simp at q
 |snoc h1 h2 h3 h4=>
  obtain⟨rfl,e⟩:=List.append_inj' q rfl;cases e;rw[E]at h3;have:=Nu h1;rw[<-h2]at this;exact⟨this.1 b (Ox h3),this.2⟩
theorem Ug(h:Steps c us s0 (pre++[x])):Steps c us s0 pre:=by
 generalize q:pre++[x]=l at h;cases h with
 |nil=>simp at q
 |snoc h1 h2 h3 h4=>
  obtain⟨rfl,e⟩:=List.append_inj' q rfl;cases e;exact h1
structure SI(c:Cf)(us:List PB)(dl:Nat->List (List UInt8))(XS:Nat->Prop)(B0:Nat)(v0:aD)(ps0:List PL)(w:U)(pre:List DX)(W:U)(ps:List PL)(a:Option gF)(cap:Nat):Prop where
 los:ps.map cG=pre.map (qx c us dl)
 box:jb W B0 35 (.slice a (ps0++ps).length cap)
 row:Row W 62 8 (.slice a (ps0++ps).length cap) (ps0++ps).length ((ps0++ps).flatMap kM)
 at_:∀p,p∈ps0++ps->LAt XS W p
 own:∀g,(aR a (ps0++ps).length cap).ownBlock=M g->v0.ownBlock=M g\/w.heap.size<=g
 jR:jO (λk=>XS k\/v0.ownBlock=M k) w W
 big:B0<W.heap.size
 txv:(ps.map λp=>p.2.1)=pre.map λx=>ET x.ob
 dep:kH w.heap.size W.heap.size (ps.map λp=>p.2.2)
theorem SI.nS(h:SI c us dl XS B0 v0 ps0 w pre W ps a cap)(q:jO M' W W')(I:pI M' W)(E:∀k,k<w.heap.size->¬M' k):SI c us dl XS B0 v0 ps0 w pre W' ps a cap:=
 ⟨h.los,xE h.box q I,vG h.row q I,λp hp=>(h.at_ p hp).jR q I.str,h.own,h.jR.trans q (λk hk e=>Xs e (E k hk)),aP h.big q.size,h.txv,h.dep.mono jE q.size⟩
theorem SI.turn(h:SI c us dl XS B0 v0 ps0 w pre W ps a cap)(E:jO XS W W')(hB:¬XS B0)(Y:∀g,v0.ownBlock=M g->¬XS g)(I:∀k,XS k->k<w.heap.size):SI c us dl XS B0 v0 ps0 w pre W' ps a cap:=
 ⟨h.los,(E.block B0 h.box.lt hB).trans h.box,h.row.jR E (λg hg J=>by
  obtain q|q:=h.own g hg
  .exact Y g q J
  .have:=I g J;omega),λp hp=>(h.at_ p hp).own E,h.own,h.jR.trans E (λk _ e=>cJ e),aP h.big E.size,h.txv,h.dep.mono jE E.size⟩
theorem SI.more(h:SI c us dl XS B0 v0 ps0 w pre W ps a cap)(hp:p.1=qx c us dl x)(ac:LAt XS W p){a':Option gF}{E:Nat}(hc:jO (λk=>(aR a (ps0++ps).length cap).ownBlock=M k\/k=B0) W W')(Y:jb W' B0 35 (.slice a' ((ps0++ps).length+1) E))(aa:Row W' 62 8 (.slice a' ((ps0++ps).length+1) E) ((ps0++ps).length+1) ((ps0++ps).flatMap kM++kM p))(J:∀g,(aR a' ((ps0++ps).length+1) E).ownBlock=M g->(aR a (ps0++ps).length cap).ownBlock=M g\/w.heap.size<=g)(hB:w.heap.size<=B0)(ae:p.2.1=ET x.ob)(ab:kH w.heap.size W.heap.size ((ps++[p]).map λp=>p.2.2)):Typed 62 35 (λk=>(aR a (ps0++ps).length cap).ownBlock=M k\/k=B0) W/\SI c us dl XS B0 v0 ps0 w (pre++[x]) W' (ps++[p]) a' E:=by
 have hT:Typed 62 35 (λk=>(aR a (ps0++ps).length cap).ownBlock=M k\/k=B0) W:=by
  rintro k cs u fz hk (e|rfl)
  .obtain⟨af,q⟩:=h.row.obj e;rw[hk]at q;simp at q;exact cJ q.2.1
  .have q:=h.box;unfold jb at q;rw[hk]at q;simp at q;exact cK q.2.1
 have hl:(ps0++(ps++[p])).length=(ps0++ps).length+1:=aF
 refine⟨hT,⟨by rw[bJ,bJ,h.los];simp[hp],by rw[hl];exact Y,?_,λq I=>?_,λg hg=>?_,?_,aP h.big hc.size,by rw[bJ,bJ,h.txv];simp[ae],ab.mono jE hc.size⟩⟩
 .rw[hl,<-fM,iC];simpa using aa
 .rw[<-fM]at I;obtain I|I:=dM.1 I
  .exact(h.at_ q I).jR hc hT.X7
  .rw[dK.1 I];exact ac.jR hc hT.X7
 .rw[hl]at hg;obtain q|q:=J g hg
  .exact h.own g q
  .exact cK q
 .refine h.jR.trans hc (λk hk e=>?_);obtain e|e:=e
  .obtain q|q:=h.own k e
   .exact cK q
   .omega
  .omega
end
open Go.RowKit
section
variable {L:Array Bool}{i k:Nat}{a:Act}{v:aD}
def unl(L:Array Bool):Nat:=L.toList.countP (λb=>!b)
theorem SB(q:L[i]? =M aL):0<unl L:=by obtain⟨h,e⟩:=dY.1 q;exact List.countP_pos_iff.2 ⟨aL,by rw[<-e];exact Array.getElem_mem_toList h,rfl⟩
theorem aaw(q:L[i]? =M aL):unl (L.setIfInBounds i bB)<unl L:=by
 have hp:=SB q;obtain⟨h,e⟩:=dY.1 q;unfold unl at hp⊢;rw[Array.toList_setIfInBounds,List.countP_set (by simpa using h)];have E:L.toList[i]'(by simpa using h)=aL:=by simpa using e
 simp only[E,Bool.not_false,if_true,Bool.not_true,bU,if_false];omega
theorem BL{md:Region.Mode}{ops:Array lR}(h:i∈fI md ops L):L[i]? =M aL:=by
 unfold fI at h;rw[fU,dF]at h;have q:=h.2.1;rw[fD]at q;cases E:L[i]? with
 |none=>rw[E]at q;simp at q
 |some b=>
  rw[E]at q;simp at q;rw[q]
section
variable {F:Fence}{n:Nat}{P:cY}{md:Region.Mode}{ops:Array lR}{Q:Exit->Act->U->Prop}
theorem wpOpIn_mono{K E:Act->U->Prop}{w:U}(h:∀a w,K a w->E a w)(q:wpOpIn F n P ops Q i K a w):wpOpIn F n P ops Q i E a w:=by
 unfold wpOpIn at q⊢;cases ho:ops[i]? with
 |none=>rw[ho]at q;exact h _ _ q
 |some o=>
  rw[ho]at q;dsimp only at q⊢;split
  .rename_i hw;rw[ZD hw]at q;exact Oper.wpIn_mono h q
  .rename_i hw;rw[Zs hw]at q;exact⟨q.1,h _ _ q.2⟩
theorem vT(Inv:Array Bool->Act->U->Prop)(q:∀L a w,Inv L a w->fI md ops L=[]->Q .normal a w)
  (E:∀L a w i,Inv L a w->i∈fI md ops L->wpOpIn F n P ops Q i (λa' w'=>Inv (L.setIfInBounds i bB) a' w') a w):
  ∀(I:Nat)(L:Array Bool)(a:Act)(w:U),unl L<=I->Inv L a w->wpAnyIn F n P md ops Q I L a w
 |0,L,a,w,hf,hI=>by
  have J:fI md ops L=[]:=by
   cases h:fI md ops L with
   |nil=>rfl
   |cons i r=>
    have:=SB (BL (i:=i) (by rw[h];exact dQ));omega
  exact⟨J,q L a w hI J⟩
 |f+1,L,a,w,hf,hI=>⟨λh=>q L a w hI h,λi Y=>wpOpIn_mono (λa' w' h=>vT Inv q E f _ a' w' (by have:=aaw (BL Y);omega) h) (E L a w i hI Y)⟩
end
section
variable {l n:Nat}{P:cY}{ops:Array lR}{Q:Exit->Act->U->Prop}{i:Nat}{o:lR}{K:Act->U->Prop}{a:Act}{w w':U}
theorem lV(ho:ops[i]? =M o)(I:o.guard=Z)(hd:∀c,o.op≠.defer c)(q:(bL a.eval o).run P w=.ok (.value v) w')(E:K (a.put o.dst v) w'):wpOpIn (Fence.wide.inRound l) n P ops Q i K a w:=by unfold wpOpIn;rw[ho];dsimp only;rw[ZD (by simp[cT,I])];refine⟨λ_ _=>trivial,?_⟩;rw[Oper.semAt_eq _ _ _ hd,q];exact E
theorem Nc(ho:ops[i]? =M o)(I:o.guard=Z)(hd:∀c,o.op≠.defer c)(q:(bL a.eval o).run P w=.ok .skip w')(E:K (a.put o.dst undef) w'):wpOpIn (Fence.wide.inRound l) n P ops Q i K a w:=by unfold wpOpIn;rw[ho];dsimp only;rw[ZD (by simp[cT,I])];refine⟨λ_ _=>trivial,?_⟩;rw[Oper.semAt_eq _ _ _ hd,q];exact E
end
theorem JV{d:Nat}:(a.put (M d) v).tmps[k]? =if d=k then(if d<a.tmps.size then M v else Z)else a.tmps[k]?:=by unfold Act.put;rw[aV]
theorem kC(h:a.tmps[k]? =M v):a.eval (.tmp k)=v:=by
 show a.tmps.getD k undef=v
 rw[fD,h];rfl
end
end Hm
section
open Go.RowKit Go.Joins Go.Shelf
attribute [local go_sem] Oper.semAt_some
def XE(d:Nat)(s:ByteArray)(q:List Wa)(x:Wa)(lo:Nat)(W:U):Prop:=XY (d+1) q x lo W/\∃p,Im.nG (Im.read Im.body d) s.data.toList ((q++[x]).map Wa.i) p
def XE.turn(d:Nat)(s:ByteArray)(q:List Wa)(x:Wa)(lo:Nat)(W E:U)(h:∀k,lo<=k->E.heap[k]? =W.heap[k]?)(hs:E.heap.size=W.heap.size)(I:XE d s q x lo W):XE d s q x lo E:=⟨XY.turn _ q x lo W E h hs I.1,I.2⟩
def Oj(d:Nat)(hf:FirstSaid d)(s:ByteArray)(ac sB dB:Nat)(w:U)(hs:s.size<=16777216)(bh:ac+d=9)(hH:kG w)(h0:1<w.heap.size)(ax:w.cell? ⟨sB,0,Z⟩=M (aH s))(a6:w.cell? ⟨dB,0,Z⟩=M (N .i64 ac))(bd:sB<w.heap.size)(hdl:dB<w.heap.size):Gives PQ 205 #[aM (M ⟨sB,0,Z⟩),aM (M ⟨dB,0,Z⟩)] Wa.encs (λk=>k=1\/k=sB\/k=dB) (XE d s) (Done d s) (Left d s) w:=by
 intro l J Jx W hW av aw;have Hf:Hid _:=hf;have HY:Hid _:=av;have ba:Hid _:=aw;clear hf av aw;refine callsIn_of_wp (fq Tryz.func205 rfl) rfl trivial ?_ rfl;simp only[Tryz.ntmps205,dR,aU,bY,Nat.reduceAdd,Nat.reduceSub,dH,dG,dU,dI,dS,dN];gi_wp2
 gi_loopw [4] (λt wr=>∃(Y:List Wa)(W0:U)(p:Nat),t=N .i64 p/\Hid (Im.nG (Im.read Im.body d) s.data.toList (Y.map Wa.i) p/\sJ Y=p/\p<=s.size/\Y.length<=p/\J Y W0/\Below W0.heap.size W0 wr/\kG wr/\sB<wr.heap.size/\dB<wr.heap.size)/\wr.cell? ⟨sB,0,Z⟩=M (aH s)/\wr.cell? ⟨dB,0,Z⟩=M (N .i64 ac))
  (λt wr=>s.size-(intOf t).toNat)
 case atStart=>
  have:=hW.size;exact⟨[],W,0,rfl,⟨Im.nG.nil,rfl,dL _,jE,ba.out,aJ _ _,hH.below hW h0,aA,aA⟩,(hW.cell (p:=⟨sB,0,Z⟩) bd).trans ax,(hW.cell (p:=⟨dB,0,Z⟩) hdl).trans a6⟩
 case round=>
  obtain⟨Y,W0,p,rfl,Hr,c0,c1⟩:=hrel;clear ax a6;by_cases ai:p<s.size
  .have a8:(p:Int)<s.size:=by omega
   have bg:(s.extract p s.size).size<=16777216:=aF
   have an:(s.extract p s.size).data.toList=s.data.toList.drop p:=by rw[ext_list,eH (by rw[<-bD];omega)]
   have E:=λW hW=>Hf.out _ ac W bg bh (Hr.out.2.2.2.2.2.2.1.below hW Hr.out.2.2.2.2.2.2.1.pos);have q:=aJ wr.heap.size wr;obtain⟨_,_,_,_,_,_,_,bj,bb⟩:=Hr.out;have bo:sB≠wr.heap.size:=aA
   have br:dB≠wr.heap.size:=aA
   rw[an]at E;generalize hC:Im.read Im.body d (s.data.toList.drop p)=C at E;have ae:Hid _:=E;have HC:Hid _:=hC;clear E hC an;gi_wp2;refine wpIn_wide.2 ?_;cases C with
   |none=>
    go_cut [5,6,7] (λv5 v6 v7 wx=>v7=cF aL/\Below wr.heap.size wr wx)
    case first=>
     go_region_with (go_at_call 206;refine(ae.out _ ?_).mono ?_;(first|exact q|exact q.drew|exact below_drewN q _|exact q.alloc jE _|exact below_drewN (q.alloc jE _) _|exact(below_drewN q _).alloc jE _);rintro e w3 ⟨ap,af⟩;obtain rfl:=ap;have I:Below wr.heap.size wr w3:=Below.trans (by first|exact q|exact q.drew|exact below_drewN q _|exact q.alloc jE _|exact below_drewN (q.alloc jE _) _|exact(below_drewN q _).alloc jE _) (af.mono aC);(try (have hz:w3.heap[wr.heap.size]? =M (.cells #[cF aL,aH ⟨#[]⟩,aR Z 0 0] 103 (0,0)):=(af.block _ aC).trans (by first|exact cX _ _|(have:=cX (wr.drewN 0) (.cells #[cF aL,aH ⟨#[]⟩,aR Z 0 0] 103);simpa using this));have z0:w3.cell? ⟨wr.heap.size,0,Z⟩=M (cF aL):=(by rw[aI hz];rfl);have z1:w3.cell? ⟨wr.heap.size,1,Z⟩=M (aH ⟨#[]⟩):=(by rw[aI hz];rfl);have z2:w3.cell? ⟨wr.heap.size,2,Z⟩=M (aR Z 0 0):=(by rw[aI hz];rfl);have fz:=aQ hz)))
     all_goals
      go_wp2_with fail;go_meet;refine⟨rfl,?_⟩
      first
       |exact I.alloc I.size _
       |exact below_drewN (I.alloc I.size _) _
       |exact((I.setCell jE _).setCell jE _).setCell jE _
       |exact below_drewN (((I.setCell jE _).setCell jE _).setCell jE _) _
    case rest=>
     obtain⟨rfl,ab⟩:=hcut;gi_wp2;refine cM (rp rfl _ _ _) rfl ?_;obtain⟨he,aj,ay,az,hJ,aa,ah,_,_⟩:=Hr.out;exact⟨⟨_,rfl⟩,cJ ⟨Y,W0,⟨p,he,aj,cK ⟨ai,HC.out⟩⟩,hJ,aa.trans (ab.mono aa.size)⟩⟩
   |some x=>
    obtain⟨i,n⟩:=x;have ao:=Im.sZ Im.pF d _ _ _ HC.out;rw[dW,<-bD]at ao;have bu:=ao.1;have bm:p+n<=s.size:=aA
    clear ao;obtain⟨IB,aq⟩:∃IB:ByteArray,(⟨i.bytes.toArray⟩:ByteArray)=IB:=⟨_,rfl⟩
    go_cut [5,6,7] (λv5 v6 v7 wx=>∃(b:Nat)(a:Option gF)(cap:Nat),v5=aM (M ⟨b,0,Z⟩)/\v6=N .i64 n/\v7=cF bB/\Below wr.heap.size wr wx/\K3 wx b 0 (.bool i.list) (aH IB) (.slice a i.kids.length cap)/\Tr wx (d+1) wr.heap.size wx.heap.size (.bool i.list) (aH IB) (.slice a i.kids.length cap) i)
    case first=>
     go_region_with (go_at_call 206;refine(ae.out _ ?_).mono ?_;(first|exact q|exact q.drew|exact below_drewN q _|exact q.alloc jE _|exact below_drewN (q.alloc jE _) _|exact(below_drewN q _).alloc jE _);rintro e w3 ⟨ap,af⟩;obtain⟨a3,am,rfl,ak⟩:=ap;simp only at ak⊢;rw[aq]at ak⊢;have au:Hid (Tr _ _ _ _ _ _ _ _):=ak;clear ak;have I:Below wr.heap.size wr w3:=Below.trans (by first|exact q|exact q.drew|exact below_drewN q _|exact q.alloc jE _|exact below_drewN (q.alloc jE _) _|exact(below_drewN q _).alloc jE _) (af.mono aC);(try (have hz:w3.heap[wr.heap.size]? =M (.cells #[cF aL,aH ⟨#[]⟩,aR Z 0 0] 103 (0,0)):=(af.block _ aC).trans (by first|exact cX _ _|(have:=cX (wr.drewN 0) (.cells #[cF aL,aH ⟨#[]⟩,aR Z 0 0] 103);simpa using this));have z0:w3.cell? ⟨wr.heap.size,0,Z⟩=M (cF aL):=(by rw[aI hz];rfl);have z1:w3.cell? ⟨wr.heap.size,1,Z⟩=M (aH ⟨#[]⟩):=(by rw[aI hz];rfl);have z2:w3.cell? ⟨wr.heap.size,2,Z⟩=M (aR Z 0 0):=(by rw[aI hz];rfl);have fz:=aQ hz)))
     all_goals
      go_wp2_with fail;go_meet
      first
       |exact⟨_,a3,am,rfl,rfl,rfl,Jg I au.out aC _⟩
       |exact⟨_,a3,am,rfl,rfl,rfl,SG I au.out aC hz⟩
    case rest=>
     obtain⟨b,a,cap,rfl,rfl,rfl,ab,⟨k0,k1,k2⟩,ag⟩:=hcut;rw[fJ]at k1 k2;rw[<-aq]at ag;obtain⟨he,aj,ay,az,hJ,aa,ah,_,_⟩:=Hr.out;have a9:=aa.trans (ab.mono aa.size);obtain⟨fn,tmps,assign,body,hy,hR⟩:=HY.out Y ⟨p+n,i,a,cap⟩ W0 wc hJ a9 ⟨⟨aA,ag.wider aa.size jE⟩,p+n,by rw[bJ];exact Im.nG.snoc he (by rw[<-bD];exact ai) HC.out⟩;simp only[Wa.encs,Int.natCast_add]at hy;rw[aq]at hy;have HR:Hid _:=hR;have bv:Hid _:=ag;clear hR ag;have bq:(p:Int)+(n:Int)<=16777216:=aA
     gi_wp2;refine RoundIn.mono HR.out ?_;rintro e W3 (⟨rfl,bl,bs,ar⟩|⟨rfl,a7⟩)
     .gi_wp2;go_roundw
      case rel=>
       have q0:=ar 1 (cJ rfl);have q1:=ar sB (cK (cJ rfl));have q2:=ar dB (cK (cK rfl));have s5:=ab.size;have bk:=ah.below ab ah.pos;refine⟨_,W3,p+n,aC,⟨?_,nZ _ _,bm,aF,bl,aJ _ _,?_,aA,aA⟩,?_,?_⟩
       .rw[bJ];exact Im.nG.snoc he (by rw[<-bD];exact ai) HC.out
       .obtain⟨⟨a0,a1,a2⟩,a3,a4,a5⟩:=bk;exact⟨⟨(bN q0).trans a0,(bN q0).trans a1,(bN q0).trans a2⟩,(bN q0).trans a3,(bN q0).trans a4,(bN q0).trans a5⟩
       .exact(bN q1).trans ((ab.cell (p:=⟨sB,0,Z⟩) bj).trans c0)
       .exact(bN q2).trans ((ab.cell (p:=⟨dB,0,Z⟩) bb).trans c1)
      case measure=>simp[intOf];omega
     .gi_wp2;refine cM (rp rfl _ _ _) rfl ?_;refine⟨⟨_,rfl⟩,cK ⟨_,W3,⟨p+n,?_,nZ _ _⟩,a7,aJ _ _⟩⟩;rw[bJ];exact Im.nG.snoc he (by rw[<-bD];exact ai) HC.out
  .have a8:¬(p:Int)<s.size:=by omega
   gi_wp2;go_end0;obtain⟨he,aj,ay,az,hJ,aa,ah,_,_⟩:=Hr.out;exact⟨⟨_,rfl⟩,cJ ⟨Y,⟨p,he,aj,cJ aA⟩,W0,hJ,aa⟩⟩
end
