import Derived.Test.YtpibpdpedjinhaaGreatDoorP43
set_option maxRecDepth 100000
set_option maxHeartbeats 8000000
set_option linter.all false
open Array renaming getElem_toList->mB
open Bool renaming false->aL,or_eq_true->mj,true->bB,true_and->rB
open ByteArray renaming size_append->rT
open Go renaming Calls->eE,Value->aD,World->U,bodyPost_ret->cM,heap_alloc_new->cX,info_parts->rS
open Go.Addr renaming add->gR
open Go.Ending renaming returned->bX
open Go.IntKind renaming i64->X,wrap_i64->cP
open Go.Obj renaming cells->aG
open Go.RowKit renaming Hid->cS
open Go.Value renaming agg->gP,bool->cF,int->N,ownBlock->eA,pointer->aM,slice->aR,string->aH,tuple->dC
open Go.Value.slice renaming injEq->eQ
open Int renaming tmod_eq_emod_of_nonneg->oi
open List renaming drop_eq_getElem_cons->ju,drop_eq_nil_of_le->kp,foldl_cons->rv,getElem?_range->qn,length->my,length_range->pu,mem_range'_1->mu,range->gE,range'->ii,range_succ->lh,replicate->eN
open Nat renaming mod_lt->ri,mul_comm->p8,succ_mul->ph
open Option renaming none->Z,some->M
open UInt8 renaming ofNat->cQ
namespace Go.Proofs.YtpibpdpedjinhaaGreatDoor.Dv
open Fr (F)
section
variable {l:List Nat}{n k z e id t m:Nat}{s:List UInt8}{txs:List (List UInt8)}
section
variable {most:Int}{m k n:Nat}{f:Nat->F}(hf:∀i,(f i).chan=k/\(f i).num=i/\(f i).last=decide (i+1=n))
include hf
theorem Kq:∀(l:List Nat)(i:Nat),has (l.map f) i=if i∈l then M (f i).data else Z
 |[],i=>by simp[has]
 |j::l,i=>by
  have q:=Kq l i;unfold has at q⊢;rw[eP,iH,(hf j).2.1];by_cases e:j=i
  .subst e;simp
  .rw[show(j == i)=aL from ZS e];dsimp only;rw[q];simp[show ¬i=j from λh=>e h.symm]
theorem Nk:∀(l:List Nat)(x:Nat),last (l.map f)=M x->x∈l/\x+1=n
 |[],x,h=>by simp[last]at h
 |j::l,x,h=>by
  have q:=Nk l x;unfold last at q h;rw[eP,iH,(hf j).2.2]at h;by_cases e:j+1=n
  .simp only[e,decide_true,cO,aK]at h;rw[(hf j).2.1]at h;subst h;exact⟨dQ ..,e⟩
  .simp only[e,decide_false]at h;have:=q h;exact⟨cZ _ this.1,this.2⟩
theorem Dq:∀(l:List Nat)(x:Nat),x∈l->x+1=n->last (l.map f)=M x
 |[],x,h,_=>by simp at h
 |j::l,x,h,hx=>by
  have q:=Dq l x;unfold last at q⊢;rw[eP,iH,(hf j).2.2];by_cases e:j+1=n
  .simp only[e,decide_true,cO,aK];rw[(hf j).2.1];omega
  .simp only[e,decide_false];obtain rfl|h:=dD.1 h
   .exact Xs hx e
   .exact q h hx
theorem join_one{j:Nat}(I:∀x,x∈l->x<n)(hj:j<n)(E:j∉l)(hs:(size ((l++[j]).map f):Int)<=most):joined most ⟨k,m,l.map f,aL⟩ (f j)=⟨k,m,(l++[j]).map f,aL⟩:=by
 have Y:nU ⟨k,m,l.map f,aL⟩ (f j)=aL:=by
  unfold nU;dsimp only;rw[(hf j).2.1,Kq hf,Zs E];cases e:last (l.map f)with
  |none=>simp
  |some x=>
   obtain⟨J,h2⟩:=Nk hf l x e;have:j≠x:=λe=>E (e ▸ J);simp only[(hf j).2.2,Option.isSome_none,Bool.false_or,iw,Z6];omega
 have hg:grown ⟨k,m,l.map f,aL⟩ (f j)=(l++[j]).map f:=by
  unfold grown;rw[iW.2]
  .simp
  .intro x q;simp only[dM,bM,dK]at q;simp only[goes,(hf j).2.2,(hf j).2.1,Bool.not_eq_true',jf,Z6];obtain⟨i,hi,rfl⟩|rfl:=q
   .have:=I i hi;rw[(hf i).2.1];omega
   .rw[(hf j).2.1];omega
 unfold joined;rw[Y,hg,Zs aC,Zs aA]
omit hf in
theorem Oq(l r:List Nat):size (l.map f)<=size ((l++r).map f):=by unfold size;simp
theorem I9{cs:List Ch}(E:∀c,c∈cs->c.name≠k):∀(q l:List Nat),(l++q).Nodup->0∈l->(∀x,x∈l++q->x<n)->(size ((l++q).map f):Int)<=most->(q.map f).foldl (frame most m) (cs++[⟨k,m,l.map f,aL⟩])=cs++[⟨k,m,(l++q).map f,aL⟩]
 |[],l,_,_,_,_=>aC
 |j::q,l,hd,h0,hn,hs=>by
  have e:l++j::q=(l++[j])++q:=aC
  have J:j∉l:=λh=>by
   have:=(List.nodup_append.1 hd).2.2 j h j (dQ ..);exact this rfl
  have I:j≠0:=λe=>J (e ▸ h0);rw[eP,rv]
  have:frame most m (cs++[⟨k,m,l.map f,aL⟩]) (f j)=cs++[⟨k,m,(l++[j]).map f,aL⟩]:=by
   unfold frame;rw[(hf j).2.1,Zs I,bJ,(hf j).1]
   congr 1
   .conv=>rhs;rw[<-List.map_id cs]
    refine jo λc Y=>?_;rw[Zs (E c Y)];rfl
   .rw[eP,fP,ZD rfl,join_one hf (λx hx=>hn x (by simp[hx])) (hn j aC) J];rw[e]at hs;have:=Oq (f:=f) (l++[j]) q;omega
  rw[this,e];exact I9 E q (l++[j]) (by rw[<-e];exact hd) (by simp[h0]) (by rw[<-e];exact hn) (by rw[<-e];exact hs)
theorem TD{cs:List Ch}(E:∀c,c∈cs->c.name≠k)(q:List Nat)(hd:(0::q).Nodup)(I:∀x,x∈0::q->x<n)(hs:(size ((0::q).map f):Int)<=most):((0::q).map f).foldl (frame most m) cs=cs++[⟨k,m,(0::q).map f,aL⟩]:=by
 rw[eP,rv]
 have:frame most m cs (f 0)=cs++[⟨k,m,[0].map f,aL⟩]:=by
  unfold frame;rw[(hf 0).2.1,ZD rfl,(hf 0).1,iW.2 λc J=>by simpa using E c J]
  congr 2
  refine join_one hf (l:=[]) (λx Y=>by simp at Y) (I 0 aC) aC ?_;have:=Oq (f:=f) [0] q;simp only[dS]at this⊢;have e:[0]++q=0::q:=rfl;rw[e]at this;omega
 rw[this];exact I9 hf E q [0] hd aC I hs
end
def pc(s:List UInt8)(z n j:Nat):List UInt8:=if j+1<n then(s.drop (j*z)).take z else s.drop (j*z)
def Gp(k:Nat)(s:List UInt8)(z n j:Nat):F:=⟨k,j,pc s z n j,decide (j+1=n)⟩
def rZ(n:Nat)(q:Bool):List Nat:=0::(gE (n-1)).map λi=>if q then n-1-i else i+1
theorem aco(E:1<=n)(h2:n<=4)(q:Bool):(rZ n q).Nodup/\(∀x,x∈rZ n q->x<n)/\(∀x,x<n->x∈rZ n q):=by
 have:n=1\/n=2\/n=3\/n=4:=aA
 rcases this with rfl|rfl|rfl|rfl<;>cases q<;>decide
theorem JY(k:Nat)(s:List UInt8)(z n:Nat):∀i,(Gp k s z n i).chan=k/\(Gp k s z n i).num=i/\(Gp k s z n i).last=decide (i+1=n):=λ_=>⟨rfl,rfl,rfl⟩
theorem RQ{k:Nat}{s:List UInt8}{z n:Nat}{l:List Nat}(q:∀x,x<n->x∈l):∀j,j<n->pX (l.map (Gp k s z n)) j=M (s.take (j*z))
 |0,_=>by simp[pX]
 |j+1,h=>by
  rw[pX,RQ q j aA,Kq (JY k s z n),ZD (q j aA)];simp only[gX,cO,aK,Gp,pc,ZD h];rw[<-List.take_add,ph]
theorem Xc(E:1<=n)(q:∀x,x<n->x∈l):pX (l.map (Gp k s z n)) n=M s:=by
 obtain⟨j,rfl⟩:∃j,n=j+1:=⟨n-1,aA⟩
 rw[pX,RQ q j aA,Kq (JY k s z (j+1)),ZD (q j aA)];simp only[gX,cO,aK,Gp,pc,Zs (Nat.lt_irrefl _)];exact List.take_append_drop ..
theorem Pv(s:List UInt8)(z n j:Nat):(pc s z n j).length<=s.length:=by unfold pc;split<;>simp only[bK,dW]<;>omega
theorem Io(E:1<=n)(h2:n<=4)(q:Bool):size ((rZ n q).map (Gp k s z n))=s.length:=by
 have:n=1\/n=2\/n=3\/n=4:=aA
 rcases this with rfl|rfl|rfl|rfl<;>cases q<;>simp[rZ,size,Gp,pc,lh]<;>omega
theorem Nb:∀l:List F,(Fr.cat l).length=9*l.length+size l
 |[]=>by simp[Fr.cat,size]
 |x::l=>by
  have q:=Nb l;have:=Fr.lD x;unfold Fr.cat size at q⊢;simp only[gY,aS,eP,List.sum_cons,aU]at q⊢;omega
def lW(b:List UInt8):Im.It:=⟨aL,b,[]⟩
def xG(e id t:Nat)(txs:List (List UInt8)):Im.It:=⟨bB,[],[lW (Im.num 4 e),lW (Im.num 4 id),lW (Im.num 4 t),⟨bB,[],txs.map lW⟩]⟩
def yj(e id t:Nat)(txs:List (List UInt8)):List UInt8:=Im.begun 192 (Im.sc (Im.num 4 e)++(Im.sc (Im.num 4 id)++(Im.sc (Im.num 4 t)++Im.begun 192 (txs.flatMap Im.sc))))
def rV(e id t:Nat)(txs:List (List UInt8)):List UInt8:=Im.sc (0::yj e id t txs)
def qc(e id t:Nat)(txs:List (List UInt8)):List UInt8:=Sq.enc (rV e id t txs).length (rV e id t txs)
theorem uX(d:Nat)(b:List UInt8):Im.code d (lW b)=M (Im.sc b):=by cases d<;>simp[Im.code,lW]
theorem Rl(d:Nat):∀l:List (List UInt8),Im.cat (Im.code d) (l.map lW)=M (l.flatMap Im.sc)
 |[]=>rfl
 |b::l=>by rw[eP,Im.cat,uX,Rl d l];rfl
theorem Ef(e id t:Nat)(txs:List (List UInt8)):Im.code 8 (xG e id t txs)=M (yj e id t txs):=by
 have h:Im.code 7 ⟨bB,[],txs.map lW⟩=M (Im.begun 192 (txs.flatMap Im.sc)):=by
  rw[Im.sK 6 _ rfl rfl,Rl];rfl
 rw[Im.sK 7 _ rfl rfl];unfold xG;simp only[Im.cat,uX,h,cO];simp[yj]
def Short(txs:List (List UInt8)):Prop:=txs.length<=6/\∀b,b∈txs->b.length<=40
theorem Y5:∀l:List (List UInt8),(∀b,b∈l->b.length<=40)->((l.map lW).map (Im.wt 1)).sum<=41*l.length
 |[],_=>aC
 |b::l,h=>by
  have q:=Y5 l (λx E=>h x (cZ _ E));have:=h b (dQ ..);simp only[eP,List.sum_cons,aU,lW,Im.wt,fP,List.sum_nil]at q⊢;omega
theorem y9(n:Nat)(h:n<65536):(Im.num 4 n).length<=4:=by rw[Im.Ce 4 n aA (Im.qg n).1];exact(Im.qg n).1
theorem ac8(e id t:Nat)(txs:List (List UInt8)):Im.dp 3 (xG e id t txs):=by
 intro x E;simp only[xG,dD,List.not_mem_nil,or_false]at E;obtain rfl|rfl|rfl|rfl:=E
 .intro y q;simp[lW]at q
 .intro y q;simp[lW]at q
 .intro y q;simp[lW]at q
 .intro y q;simp only[bM]at q;obtain⟨b,_,rfl⟩:=q;intro z I;simp[lW]at I
theorem Xo(q:e<65536)(E:id<65536)(ht:t<65536)(hs:Short txs):Im.wt 3 (xG e id t txs)<=263:=by
 have I:=y9 e q;have h2:=y9 id E;have h3:=y9 t ht;have h4:=Y5 txs hs.2;have J:=hs.1
 have:Im.wt 3 (xG e id t txs)=0+1+(((Im.num 4 e).length+1)+(((Im.num 4 id).length+1)+(((Im.num 4 t).length+1)+(0+1+((txs.map lW).map (Im.wt 1)).sum)))):=by
  simp[xG,lW,Im.wt]
 omega
theorem zl(E:e<65536)(I:id<65536)(ht:t<65536)(hs:Short txs):(yj e id t txs).length<=1578/\(rV e id t txs).length<=1584/\1<=(rV e id t txs).length/\(qc e id t txs).length<=1600:=by
 have hw:=Xo E I ht hs;have J:=Im.vX 3 8 _ _ (ac8 e id t txs) aA (Ef e id t txs);have h2:=Im.Yx (0::yj e id t txs) aF;have h3:(rV e id t txs).length<=1584:=by unfold rV;simp only[aU]at h2;omega
 have h4:=Sq.lD (rV e id t txs).length (rV e id t txs) jE;have Y:=Sq.Vf (rV e id t txs);have q:=(Im.Aj Im.body (λ_ _ h=>h) 8 (lW (0::yj e id t txs)) (rV e id t txs) [] (uX 8 _) aA).2;refine⟨aA,h3,q,?_⟩;unfold qc;omega
theorem value_num(h:n<65536):value (lW (Im.num 4 n))=M n:=by
 have q:=y9 n h;unfold value lW;dsimp only;rw[Zs,Im.Rq n aA];by_cases E:n=0
 .subst E;simp[Im.uV]
 .obtain⟨x,r,e,I⟩:=Im.NJ n E aA;rw[e]at q⊢;simp only[aU]at q;simp[I];omega
theorem Vj(E:e<65536)(J:id<65536)(ht:t<65536)(hs:Short txs)(Y:e<=m):reads (qc e id t txs) m=[⟨e,id,t,txs,m⟩]:=by
 obtain⟨h1,h2,h3,h4⟩:=zl E J ht hs
 have q:Sq.spread (qc e id t txs).length (qc e id t txs) 4096 []=(rV e id t txs,bB):=by
  have:=Sq.EL (rV e id t txs).length (rV e id t txs) (qc e id t txs).length 4096 [] jE jE aF;simpa[qc]using this
 unfold reads;rw[q];dsimp only;obtain⟨f,hf⟩:∃f,(rV e id t txs).length=f+1:=⟨(rV e id t txs).length-1,aA⟩
 have I:=(Im.Aj Im.body (λ_ _ h=>h) 8 (lW (0::yj e id t txs)) (rV e id t txs) [] (uX 8 _) aA).1;rw[gI]at I
 have hb:uK (lW (0::yj e id t txs)) m=M ⟨e,id,t,txs,m⟩:=by
  unfold uK lW;simp only[bU,if_false,if_true];rw[Im.VT (Ef e id t txs) aA];simp only[gX,qC,xG];rw[value_num E,value_num J,value_num ht];simp[lW,Function.comp_def]
 rw[hf,rd,Zs (by intro e;rw[e]at h3;simp at h3),I];dsimp only;rw[hb];dsimp only;rw[ZD Y,List.drop_length];cases f<;>simp[rd]
def Good(c:Cf)(m:Nat)(t:Tx)(k:Nat)(b:Ba):Prop:=t.dest=c.inbox/\t.fr=c.batcher/\∃fs,Fr.frames t.data=M fs/\∀cs:List Ch,(∀x,x∈cs->x.name≠k)->∃ch:Ch,fs.foldl (frame c.most m) cs=cs++[ch]/\ch.name=k/\∃s,bytes ch.l=M s/\reads s m=[b]
def Kz(k:Nat)(s:List UInt8)(n:Nat)(q:Bool):List UInt8:=0::Fr.cat ((rZ n q).map (Gp k s (s.length/n+1) n))
theorem Oc(E:1<=n)(h2:n<=4)(q:Bool):(rZ n q).length=n:=by simp[rZ];omega
theorem aaX(E:1<=n)(h2:n<=4)(q:Bool):(Kz k s n q).length=1+9*n+s.length:=by unfold Kz;rw[aU,Nb,bC,Oc E h2,Io E h2];omega
theorem Zg{c:Cf}(q:Bool)(J:1<=n)(h2:n<=4)(hk:k<65536)(he:e<65536)(hi:id<65536)(ht:t<65536)(hs:Short txs)(hm:e<=m)(aa:4096<=c.most):Good c m ⟨c.batcher,c.inbox,Kz k (qc e id t txs) n q⟩ k ⟨e,id,t,txs,m⟩:=by
 obtain⟨i1,i2,i3⟩:=aco J h2 q;have hl:=(zl he hi ht hs).2.2.2;refine⟨rfl,rfl,_,Fr.Qd (by simp[rZ]) λx hx=>?_,λcs Y=>⟨_,TD (JY k _ _ n) Y _ i1 i2 ?_,rfl,qc e id t txs,?_,Vj he hi ht hs hm⟩⟩
 .obtain⟨j,hj,rfl⟩:=bM.1 hx;have:=i2 j hj;have:=Pv (qc e id t txs) ((qc e id t txs).length/n+1) n j;exact⟨by simp only[Gp];omega,by simp only[Gp];omega,by simp only[Gp];omega⟩
 .have:=Io (k:=k) (s:=qc e id t txs) (z:=(qc e id t txs).length/n+1) J h2 q;unfold rZ at this;omega
 .have I:last ((rZ n q).map (Gp k (qc e id t txs) ((qc e id t txs).length/n+1) n))=M (n-1):=Dq (JY k _ _ n) _ _ (i3 _ aA) aA;have E:=Xc (k:=k) (s:=qc e id t txs) (z:=(qc e id t txs).length/n+1) J i3;unfold bytes;unfold rZ at I E;dsimp only;rw[I,gX,show n-1+1=n from by omega];exact E
theorem I8{c:Cf}{m:Nat}:∀(l:List (Tx×Nat×Ba))(cs:List Ch),(∀x,x∈l->Good c m x.1 x.2.1 x.2.2)->(l.map λx=>x.2.1).Nodup->(∀x,x∈l->∀y,y∈cs->y.name≠x.2.1)->
  ∃chs,(heard c (l.map Prod.fst)).foldl (frame c.most m) cs=cs++chs/\(pull chs).2=[]/\(pull chs).1.flatMap (λs=>reads s m)=l.map λx=>x.2.2
 |[],cs,_,_,_=>⟨[],by simp[heard],rfl,rfl⟩
 |x::l,cs,hg,hd,hcs=>by
  obtain⟨g1,J,fs,g3,g4⟩:=hg x (dQ ..);obtain⟨ch,e1,Y,s,I,e4⟩:=g4 cs (hcs x (dQ ..));rw[eP,iG]at hd
  obtain⟨chs,i1,i2,i3⟩:=I8 l (cs++[ch]) (λy E=>hg y (cZ _ E)) hd.2 (λy E z q=>by
   obtain q|q:=dM.1 q
   .exact hcs y (cZ _ E) z q
   .rw[dK.1 q,Y];exact λe=>hd.1 (bM.2 ⟨y,E,e.symm⟩))
  refine⟨ch::chs,?_,?_,?_⟩
  .have hx:oI c x.1=fs:=by unfold oI;rw[ZD ⟨g1,J⟩,g3];rfl
   unfold heard at i1⊢;rw[eP,gY,List.foldl_append,hx,e1,i1];simp
  .rw[pull,I];exact i2
  .rw[pull,I];simp only[gY,eP,e4,i3];rfl
theorem Ut{c:Cf}{u:X2}{noise:List Tx}{l:List (Tx×Nat×Ba)}(E:u.txs=noise++l.map Prod.fst)(J:∀t,t∈noise->t.fr≠c.batcher)(I:∀x,x∈l->Good c m x.1 x.2.1 x.2.2)(hd:(l.map λx=>x.2.1).Nodup)(wait:List Ba):take c u m [] wait=([],wait++l.map λx=>x.2.2):=by
 have q:heard c noise=[]:=by
  unfold heard;rw[List.flatMap_eq_nil_iff];intro t ht;unfold oI;rw[Zs λh=>J t ht h.2]
 obtain⟨chs,i1,i2,i3⟩:=I8 l [] I hd aC
 have:(heard c u.txs).foldl (frame c.most m) []=chs:=by
  rw[E];unfold heard at q i1⊢;rw[iC,q,dS,i1,dS]
 unfold take;simp only[List.filter_nil,this,i2,i3]
structure Hon(c:Cf)(chain:List X2)(K:Nat)(ep pl:Nat->Nat)(tx:Nat->List (List UInt8))(S:Nat):Prop where
 cf:jP c=bB
 ch:jY chain=bB
 st:c.step=S
 t0:(chain[0]!).time=0
 ep0:ep 0=0
 up:∀k,k<K->ep k<=ep (k+1)/\ep (k+1)<=ep k+1
 plc:∀k,1<=k->k<=K->ep k<=pl k/\(pl k:Int)<=ep k+c.window/\pl k<chain.length
 tm:∀k,1<=k->k<=K->(chain[ep k]!).time<=(k*S:Nat)/\((k*S:Nat):Int)<=(chain[ep k]!).time+c.drift
 en:chain.length<=ep K+2
 id:∀k,1<=k->k<=K->(chain[ep k]!).id=(100+ep k:Nat)
 tk:∀m,m<chain.length->∀wait,take c (chain[m]!) m [] wait=([],wait++((ii 1 K).filter λk=>pl k == m).map λk=>⟨ep k,100+ep k,k*S,tx k,m⟩)
section
variable {c:Cf}{chain:List X2}{K S:Nat}{ep pl:Nat->Nat}{tx:Nat->List (List UInt8)}(H:Hon c chain K ep pl tx S)
def sS(ep pl:Nat->Nat)(tx:Nat->List (List UInt8))(S k:Nat):Ba:=⟨ep k,100+ep k,k*S,tx k,pl k⟩
structure Lies(ep:Nat->Nat)(tx:Nat->List (List UInt8))(S k:Nat)(x:Lo):Prop where
 number:x.number=k
 time:x.time=(k*S:Nat)
 epoch:x.epoch=ep k
 txs:1<=k->x.txs=tx k
structure Wait(K:Nat)(ep pl:Nat->Nat)(tx:Nat->List (List UInt8))(S d m:Nat)(w:List Ba):Prop where
 all:∀k,d<k->k<=K->pl k<m->sS ep pl tx S k∈w
 only:∀b,b∈w->∃k,1<=k/\k<=K/\pl k<m/\b=sS ep pl tx S k
include H in
theorem KY{d m:Nat}(hd:d<K)(hm:m<chain.length):∀w:List Ba,(∀b,b∈w->∃k,1<=k/\k<=K/\pl k<m+1/\b=sS ep pl tx S k)->
  let r:=Dv.sift c chain m (ep d) ((d+1)*S:Nat) w
  ((sS ep pl tx S (d+1)∈w/\r.1=.got (sS ep pl tx S (d+1)))\/(sS ep pl tx S (d+1)∉w/\r.1=.no))/\(∀k,d+1<k->sS ep pl tx S k∈w->sS ep pl tx S k∈r.2)/\(∀b,b∈r.2->b∈w)
 |[],_=>by simp[Dv.sift]
 |b::r,hw=>by
  have ih:=KY hd hm r (λx hx=>hw x (cZ _ hx));obtain⟨k,Y,k2,k3,rfl⟩:=hw b (dQ ..)
  have hS:2<=S:=by
   have:=H.cf;unfold jP at this;simp only[Z3]at this;have:=H.st;omega
  have inj:∀{i j:Nat},sS ep pl tx S i=sS ep pl tx S j->i=j:=λ{i j} e=>by
   have:i*S=j*S:=Z1 Ba.time e;exact Nat.eq_of_mul_eq_mul_right aA this
  dsimp only at ih⊢;obtain⟨i1,i2,i3⟩:=ih
  have E:k≠d+1->((sS ep pl tx S (d+1)∈r/\(Dv.sift c chain m (ep d) ((d+1)*S:Nat) r).1=.got (sS ep pl tx S (d+1)))\/(sS ep pl tx S (d+1)∉r/\(Dv.sift c chain m (ep d) ((d+1)*S:Nat) r).1=.no))->((sS ep pl tx S (d+1)∈sS ep pl tx S k::r/\(Dv.sift c chain m (ep d) ((d+1)*S:Nat) r).1=.got (sS ep pl tx S (d+1)))\/(sS ep pl tx S (d+1)∉sS ep pl tx S k::r/\(Dv.sift c chain m (ep d) ((d+1)*S:Nat) r).1=.no)):=λhk h=>by
   obtain⟨a,b⟩|⟨a,b⟩:=h
   .exact .inl ⟨cZ _ a,b⟩
   .refine .inr ⟨λh=>?_,b⟩;obtain h|h:=dD.1 h
    .exact hk (inj h.symm)
    .exact a h
  rw[Dv.sift];obtain aa|rfl|ab:=Nat.lt_trichotomy k (d+1)
  .have ht:k*S<(d+1)*S:=Nat.mul_lt_mul_of_pos_right aa aA;rw[Zs (by simp only[sS];omega),ZD (by unfold late;rw[mj,mj,mj,Z3,Z3,Z3,Z3];dsimp only[sS];omega)];refine⟨E aA i1,λj J q=>?_,λb I=>cZ _ (i3 b I)⟩;obtain h|h:=dD.1 q
   .have:=inj h;omega
   .exact i2 j J h
  .obtain⟨p1,p2,p3⟩:=H.plc (d+1) Y k2;obtain⟨t1,t2⟩:=H.tm (d+1) Y k2;obtain⟨u1,u2⟩:=H.up d hd;have ac:=H.id (d+1) Y k2;rw[Zs (by simp only[sS];omega),Zs (by unfold late;rw[mj,mj,mj,Z3,Z3,Z3,Z3];dsimp only[sS];omega),Zs,Zs]
   .refine⟨.inl ⟨dQ ..,rfl⟩,λj J q=>?_,λb I=>cZ _ I⟩;obtain h|h:=dD.1 q
    .have:=inj h;omega
    .exact h
   .unfold wrong;rw[iV,iV,dF,Z3,Z3,Z3];dsimp only[sS];rintro((h|h)|h)
    .exact h ac.symm
    .omega
    .omega
   .unfold holds;simp only[iV,dF,Z3,YY];dsimp only[sS];rintro(h|⟨⟨⟨_,h⟩,_⟩,h2⟩)
    .omega
    .rw[<-h]at h2;omega
  .have ht:(d+1)*S<k*S:=Nat.mul_lt_mul_of_pos_right ab aA;rw[ZD (by simp only[sS];omega)];refine⟨E aA i1,λj J q=>?_,λb I=>?_⟩
   .obtain h|h:=dD.1 q
    .rw[h];exact dQ ..
    .exact cZ _ (i2 j J h)
   .obtain h|h:=dD.1 I
    .rw[h];exact dQ ..
    .exact cZ _ (i3 b h)
theorem Iy{m e:Nat}{t:Int}:∀w:List Ba,(∀b,b∈w->(b.time:Int)<t)->(Dv.sift c chain m e t w).1=.no
 |[],_=>rfl
 |b::r,h=>by
  have:=h b (dQ ..);rw[Dv.sift,Zs aA,ZD (by simp only[late,iV,Z3];omega)];exact Iy r λx q=>h x (cZ _ q)
include H in
theorem Ig{m:Nat}(hm:m<chain.length):∀(f d:Nat)(h:Lo)(w:List Ba),d<=K->Lies ep tx S d h->ep d<=m->Wait K ep pl tx S d (m+1) w->left chain m h w<f->
  ∃I,d<=I/\I<=K/\(I<K->m<pl (I+1))/\ep I<=m/\(Dv.draws c chain m f h w).1.length=I-d/\(∀j,(hj:j<(Dv.draws c chain m f h w).1.length)->Lies ep tx S (d+1+j) ((Dv.draws c chain m f h w).1[j]))/\Wait K ep pl tx S I (m+1) (Dv.draws c chain m f h w).2
 |0,_,_,_,_,_,_,_,h=>aA
 |f+1,d,h,w,hd,hl,he,hw,hf=>by
  have ht:h.time+c.step=((d+1)*S:Nat):=by rw[hl.time,H.st,ph];push_cast;omega
  by_cases Y:d=K
  .subst Y
   have af:(Dv.sift c chain m h.epoch (h.time+c.step) w).1=.no:=Iy w λb J=>by
    obtain⟨k,k1,k2,k3,rfl⟩:=hw.only b J;have:k*S<=d*S:=fK _ k2
    have h2:2<=S:=by
     have:=H.cf;unfold jP at this;simp only[Z3]at this;have:=H.st;omega
    rw[ht,ph];simp only[sS];omega
   have am:=H.en
   have aj:1<=c.window:=by
    have:=H.cf;unfold jP at this;simp only[Z3]at this;omega
   have q:Dv.draw c chain m h w=(Z,(Dv.sift c chain m h.epoch (h.time+c.step) w).2):=by
    unfold Dv.draw;simp only[af];rw[ZD (by rw[hl.epoch];omega)]
   rw[Dv.draws,q];refine⟨d,jE,jE,λh=>Xs h (Nat.lt_irrefl _),he,aC,λj hj=>by simp at hj,⟨λk hk ak=>aA,λb J=>hw.only b (Nw _ _ _ _ _ _ _ J)⟩⟩
  .have aa:d<K:=by omega
   obtain⟨s1,s2,s3⟩:=KY H aa hm w hw.only;rw[<-ht,<-hl.epoch]at s1 s2 s3;obtain⟨ag,E⟩|⟨ae,E⟩:=s1
   .have q:Dv.draw c chain m h w=(M (lay c chain m h (ep (d+1)) (tx (d+1))),(Dv.sift c chain m h.epoch (h.time+c.step) w).2):=by
     unfold Dv.draw;simp only[E];rfl
    have ai:=wF c chain m H.ch H.cf hm (by rw[hl.epoch];exact he) q;have ab:Lies ep tx S (d+1) (lay c chain m h (ep (d+1)) (tx (d+1))):=⟨by simp[lay,hl.number],by simp only[lay];exact ht,rfl,λ_=>rfl⟩
    obtain⟨k,k1,k2,k3,ek⟩:=hw.only _ ag;have hp:ep (d+1)<=m:=ai.2.2.1;have ac:Wait K ep pl tx S (d+1) (m+1) (Dv.sift c chain m h.epoch (h.time+c.step) w).2:=⟨λk hk h2 h3=>s2 k hk (hw.all k aA h2 h3),λb J=>hw.only b (s3 b J)⟩
    unfold left at hf;obtain⟨I,j1,j2,j3,j4,j5,j6,j7⟩:=Ig hm f (d+1) _ _ aa ab hp ac (by unfold left;omega);rw[Dv.draws,q];dsimp only;refine⟨I,aA,j2,j3,j4,by simp only[aU,j5];omega,λj hj=>?_,j7⟩;cases j with
    |zero=>exact ab
    |succ j=>
     have:=j6 j (by simpa using hj);rw[show d+1+(j+1)=d+1+1+j from by omega];exact this
   .have ah:m<pl (d+1):=by
     obtain h|h:=gG m (pl (d+1))
     .exact h
     .exact Xs (hw.all (d+1) aA aA aA) ae
    obtain⟨p1,p2,p3⟩:=H.plc (d+1) aA aA;have hu:=H.up d aa
    have q:Dv.draw c chain m h w=(Z,(Dv.sift c chain m h.epoch (h.time+c.step) w).2):=by
     unfold Dv.draw;simp only[E];rw[ZD (by rw[hl.epoch];omega)]
    rw[Dv.draws,q];refine⟨d,jE,hd,λ_=>ah,he,aC,λj hj=>by simp at hj,⟨λk hk h2 h3=>?_,λb J=>hw.only b (s3 b J)⟩⟩;have:k≠d+1:=by rintro rfl;omega
    exact s2 k aA (hw.all k hk h2 h3)
include H in
theorem NG:∀m,m<=chain.length->∃d,d<=K/\(1<=m->d<K->m-1<pl (d+1))/\ep d<=m-1/\(Dv.gone c chain m).chs=[]/\(Dv.gone c chain m).log.length=d+1/\(∀j,(hj:j<(Dv.gone c chain m).log.length)->Lies ep tx S j ((Dv.gone c chain m).log[j]))/\Wait K ep pl tx S d m (Dv.gone c chain m).wait
 |0,_=>by
  refine⟨0,dL _,λh=>aA,by rw[H.ep0];omega,rfl,rfl,λj hj=>?_,⟨λk _ _ h=>aA,λb q=>by simp[Dv.gone,start]at q⟩⟩;have:j=0:=by simp[Dv.gone,start]at hj;omega
  subst this;exact⟨rfl,by simp only[Dv.gone,start,first,List.getElem_cons_zero,H.t0];simp,H.ep0.symm,λh=>aA⟩
 |m+1,hm=>by
  obtain⟨d,i1,i2,i3,i4,i5,i6,i7⟩:=NG m aA;have aa:(Dv.gone c chain m).log≠[]:=by intro e;rw[e]at i5;simp at i5
  have E:(Dv.gone c chain m).log.getLastD default=(Dv.gone c chain m).log[d]' aA:=by
   rw[List.getLastD_eq_getLast?,List.getLast?_eq_some_getLast aa,fH,List.getLast_eq_getElem];simp[i5]
  have I:=i6 d aA;rw[<-E]at I;rw[Dv.gone];unfold Dv.step;simp only[i4,H.tk m aA]
  have hw:Wait K ep pl tx S d (m+1) ((Dv.gone c chain m).wait++((ii 1 K).filter λk=>pl k == m).map λk=>⟨ep k,100+ep k,k*S,tx k,m⟩):=by
   refine⟨λk h1 h2 h3=>?_,λb q=>?_⟩
   .obtain h|h:=gG (pl k) m
    .exact List.mem_append_left _ (i7.all k h1 h2 h)
    .have e:pl k=m:=by omega
     refine List.mem_append_right _ (bM.2 ⟨k,fU.2 ⟨mu.2 ⟨aA,aA⟩,by simp[e]⟩,by simp[sS,e]⟩)
   .obtain q|q:=dM.1 q
    .obtain⟨k,Y,J,k3,e⟩:=i7.only b q;exact⟨k,Y,J,aA,e⟩
    .obtain⟨k,hk,rfl⟩:=bM.1 q;obtain⟨Y,J⟩:=fU.1 hk;have Y:=mu.1 Y;have J:pl k=m:=by simpa using J
     exact⟨k,aA,aA,aA,by simp[sS,J]⟩
  obtain⟨d',j1,j2,j3,j4,j5,j6,j7⟩:=Ig H (m:=m) aA (left chain m ((Dv.gone c chain m).log.getLastD default) ((Dv.gone c chain m).wait++((ii 1 K).filter λk=>pl k == m).map λk=>⟨ep k,100+ep k,k*S,tx k,m⟩)+1) d _ _ i1 I aA hw (Nat.lt_succ_self _);refine⟨d',j2,λ_ h=>by simpa using j3 h,by simpa using j4,trivial,by rw[aS,i5,j5];omega,λj hj=>?_,j7⟩;rw[List.getElem_append];split
  .exact i6 j _
  .rename_i h;have:=j6 (j-(Dv.gone c chain m).log.length) (by rw[aS]at hj;omega);rwa[show d+1+(j-(Dv.gone c chain m).log.length)=j from by omega]at this
include H in
theorem Hon.all:∃log,Dv.all c chain=(0,log)/\log.length=K+1/\∀j,(J:j<log.length)->Lies ep tx S j (log[j]):=by
 have E:=kU H.ch;obtain⟨d,i1,i2,i3,i4,q,I,i7⟩:=NG H chain.length jE
 have hd:d=K:=by
  obtain h|h:=gG d K
  .have:=i2 E.1 h;have:=(H.plc (d+1) aA aA).2.2;omega
  .omega
 subst hd;refine⟨_,?_,q,I⟩;unfold Dv.all;rw[Zs (by rw[H.cf];decide),Zs (by rw[H.ch];decide)]
end
end
end Go.Proofs.YtpibpdpedjinhaaGreatDoor.Dv
namespace Go.Proofs.YtpibpdpedjinhaaGreatDoor.Dv
variable {k m:Nat}
structure HP where
 W:Nat
 S:Nat
 n:Nat
 gp:Nat->Nat
 lp:Nat->Nat
 cn:Nat->Nat
 od:Nat->Bool
 nz:Nat->List Tx
 tx:Nat->List (List UInt8)
structure HP.Ok(p:HP):Prop where
 W1:1<=p.W
 W3:p.W<=3
 S8:8<=p.S
 S20:p.S<=20
 n1:1<=p.n
 n20:p.n<=20
 gp:∀i,p.S+p.gp i<=24
 lp:∀i,p.lp i<=p.W
 cn:∀i,1<=p.cn i/\p.cn i<=4
 nz:∀i,(p.nz i).length<=1/\∀t,t∈p.nz i->t.fr≠8/\t.data.length<=2000
 tx:∀i,Short (p.tx i)
namespace HP
variable (p:HP)
def T:Nat->Nat
 |0=>0
 |i+1=>T i+p.S+p.gp (i+1)
def ep:Nat->Nat
 |0=>0
 |k+1=>if ep k+1<p.n/\p.T (ep k+1)<=(k+1)*p.S then ep k+1 else ep k
def pl(k:Nat):Nat:=min (p.ep k+p.lp k) (p.n-1)
def K:Nat:=p.T (p.n-1)/p.S
def data(k:Nat):List UInt8:=Kz k (qc (p.ep k) (100+p.ep k) (k*p.S) (p.tx k)) (p.cn k) (p.od k)
def c:Cf:=⟨9,8,3,p.W,24,p.S,4096⟩
def u(k m:Nat):X2:=⟨(100+m:Nat),p.T m,p.nz m++((ii 1 k).filter λj=>p.pl j == m).map λj=>⟨8,9,p.data j⟩,[]⟩
def us(k:Nat):List X2:=(gE p.n).map (p.u k)
variable {p}(h:p.Ok)
include h
theorem Dn(i:Nat):p.T i+p.S<=p.T (i+1)/\p.T (i+1)<=p.T i+24:=by have:=h.gp (i+1);rw[T];omega
theorem zF:∀(d i:Nat),p.T i+d*8<=p.T (i+d)/\p.T (i+d)<=p.T i+d*24
 |0,i=>aC
 |d+1,i=>by
  have:=zF d i;have:=Dn h (i+d);have:=h.S8;rw[<-dV];omega
theorem afK{i j:Nat}(q:i<=j):p.T i<=p.T j/\p.T j<=p.T i+(j-i)*24:=by have:=zF h (j-i) i;rw[show i+(j-i)=j from by omega]at this;omega
theorem vF:∀k,p.ep k<p.n/\p.T (p.ep k)<=k*p.S/\(p.ep k+1<p.n->k*p.S<p.T (p.ep k+1))
 |0=>by
  have J:=h.n1;have h2:=Dn h 0;have h3:=h.S8;simp only[ep,T]at *;omega
 |k+1=>by
  obtain⟨i1,i2,i3⟩:=vF k;have I:(k+1)*p.S=k*p.S+p.S:=ph k p.S;have Y:=Dn h (p.ep k+1);rw[ep];split
  .rename_i q;have:=i3 q.1;omega
  .rename_i q;refine⟨i1,aA,λE=>?_⟩;obtain h|h:=gG ((k+1)*p.S) (p.T (p.ep k+1))
   .exact h
   .exact Xs ⟨E,h⟩ q
theorem XL:p.K*p.S<=p.T (p.n-1)/\p.T (p.n-1)<p.K*p.S+p.S/\p.K<=57:=by have E:=h.S8;have J:=Nat.div_add_mod (p.T (p.n-1)) p.S;have Y:=ri (p.T (p.n-1)) (show p.S > 0 by omega);have I:=zF h (p.n-1) 0;have q:=h.n20;have h0:p.T 0=0:=rfl;rw[fJ]at I;have hc:p.S*(p.T (p.n-1)/p.S)=p.K*p.S:=p8 ..;refine⟨aA,aA,?_⟩;have:p.K*8<=p.K*p.S:=Nat.mul_le_mul_left _ E;omega
theorem adA(hk:k<=p.K):k*p.S<=p.T (p.n-1):=bH (fK _ hk) (XL h).1
theorem CJ(hk:k<=p.K):p.T (p.ep k)<=k*p.S/\k*p.S<=p.T (p.ep k)+24/\k*p.S<=456:=by
 obtain⟨e1,e2,J⟩:=vF h k;have I:=adA h hk;have hg:=Dn h (p.ep k);have Y:=zF h (p.n-1) 0;have E:=h.n20;have h0:p.T 0=0:=rfl;rw[fJ]at Y;refine⟨e2,?_,aA⟩;obtain q|q:=gG (p.ep k+1) p.n
 .have:=J q;omega
 .rw[show p.n-1=p.ep k from by omega]at I;omega
omit h in
theorem Sv(q:Nat->Bool)(a:Nat)(E:∀k,q k=bB->a<=k/\k<=a+12):∀n s,((ii s n).filter q).length<=a+13-max s a
 |0,s=>aC
 |n+1,s=>by
  have I:=Sv q a E n (s+1);rw[List.range'_succ,eG];split
  .rename_i hs;have:=E s hs;rw[aU];omega
  .omega
theorem few(m:Nat)(hm:m<p.n):((ii 1 p.K).filter λj=>p.pl j == m).length<=13:=by
 have h8:=h.S8;have hw:=h.W3
 have key:∀j,(decide (1<=j/\j<=p.K)&&(p.pl j == m))=bB->p.T (m-3)/p.S<=j/\j<=p.T (m-3)/p.S+12:=λj q=>by
  simp only[dF,Z3,YY]at q;obtain⟨⟨j1,j2⟩,j3⟩:=q;obtain⟨e1,e2,e3⟩:=vF h j;have ac:=h.lp j;have ab:=CJ h j2;unfold pl at j3;have aa:m<=p.ep j+3:=aA
  have ae:p.ep j<=m:=aA
  have t1:=afK h (show m-3<=p.ep j by omega);have Y:j*p.S<=p.T (m-3)+96:=aA
  have I:p.T (m-3)<=j*p.S:=aA
  refine⟨Nat.div_le_of_le_mul (by rw[p8];exact I),?_⟩;have hd:=Nat.div_add_mod (p.T (m-3)) p.S;have hl:=ri (p.T (m-3)) (show p.S > 0 by omega);obtain J|J:=gG (p.T (m-3)/p.S+12) j
  .have E:(p.T (m-3)/p.S+13)*p.S<=j*p.S:=fK _ J;rw[iU,p8 (p.T (m-3)/p.S)]at E;omega
  .exact J
 have e:(ii 1 p.K).filter (λj=>p.pl j == m)=(ii 1 p.K).filter λj=>decide (1<=j/\j<=p.K)&&(p.pl j == m):=by
  refine List.filter_congr λj q=>?_;have:=mu.1 q;rw[Z0 aA,rB]
 rw[e];have:=Sv _ _ key p.K 1;omega
theorem MI(hk:k<=p.K):(p.data k).length<=2000/\∀m,p.ep k<=m->Good p.c m ⟨8,9,p.data k⟩ k ⟨p.ep k,100+p.ep k,k*p.S,p.tx k,m⟩:=by have J:=(vF h k).1;have E:=h.n20;have Y:=(XL h).2.2;have ht:=(CJ h hk).2.2;have q:=h.cn k;have hb:=zl (e:=p.ep k) (id:=100+p.ep k) (t:=k*p.S) aA aA aA (h.tx k);refine⟨?_,λm I=>Zg (c:=p.c) (p.od k) q.1 q.2 aA aA aA aA (h.tx k) I (by simp[c])⟩;unfold data;rw[aaX q.1 q.2];omega
omit h in
theorem zC(k:Nat):(p.us k).length=p.n:=by simp[us]
omit h in
theorem KC(q:m<p.n):(p.us k)[m]! =p.u k m:=by rw[getElem!_def];simp[us,q]
omit h in
theorem zu(f:Nat->X2):∀(n s:Nat)(b:Option Int),(0<n->lX b (f s)=bB)->(∀i,s<=i->i+1<s+n->lX (M (f i).time) (f (i+1))=bB)->kK b ((ii s n).map f)=bB
 |0,_,_,_,_=>rfl
 |n+1,s,b,h0,hs=>by
  rw[List.range'_succ,eP,kK,h0 aA,rB];exact zu f n (s+1) _ (λE=>hs s jE aA) λi q h2=>hs i aA aA
theorem Ko(q:m<p.n):small (p.u p.K m)=bB:=by
 have J:=few h m q;have I:=h.nz m;unfold small u;simp only[dF,Z3,fF,aS,bC,bY];refine⟨⟨⟨aA,aA⟩,λt ht=>?_⟩,aC⟩;obtain ht|ht:=dM.1 ht
 .exact(I.2 t ht).2
 .obtain⟨j,E,rfl⟩:=bM.1 ht;have:=mu.1 (fU.1 E).1;exact(MI h (show j<=p.K by omega)).1
theorem chain:jY (p.us p.K)=bB:=by
 unfold jY;have I:=h.n1;have q:=h.n20;rw[zC,dF,Z3];refine⟨aA,?_⟩;unfold us;rw[List.range_eq_range'];refine zu _ _ _ _ (λ_=>?_) λi _ J=>?_
 .unfold lX;rw[Ko h aA];simp[u,T]
 .have:=Dn h i;have E:=h.S8;unfold lX;rw[Ko h aA,Bool.and_true];exact Z0 (by simp only[u];omega)
theorem hon:Hon p.c (p.us p.K) p.K p.ep p.pl p.tx p.S:=by
 have h1:=h.n1;have ac:=h.W1;have ae:=h.W3;have ab:=h.S8;have aa:=h.S20;refine⟨?_,chain h,rfl,?_,rfl,λk _=>?_,λk E q=>?_,λk E q=>?_,?_,λk E q=>?_,λm hm wait=>?_⟩
 .unfold jP c;simp only[Z3];omega
 .rw[KC aA];rfl
 .rw[ep];split<;>omega
 .have J:=(vF h k).1;have I:=h.lp k;rw[zC];unfold pl;simp only[c];omega
 .have J:=(vF h k).1;have ht:=CJ h q;rw[KC J];simp only[u,c];omega
 .obtain⟨e1,e2,e3⟩:=vF h p.K;obtain⟨E,q,k3⟩:=XL h;rw[zC];obtain I|I:=gG (p.ep p.K+2) p.n
  .have:=e3 aA;have t1:=afK h (show p.ep p.K+1<=p.n-2 by omega);have t2:=Dn h (p.n-2);rw[show p.n-2+1=p.n-1 from by omega]at t2;omega
  .exact I
 .rw[KC (vF h k).1];rfl
 .rw[zC]at hm;rw[KC hm];have:=Ut (c:=p.c) (m:=m) (u:=p.u p.K m) (noise:=p.nz m) (l:=((ii 1 p.K).filter λj=>p.pl j == m).map λj=>(⟨8,9,p.data j⟩,j,⟨p.ep j,100+p.ep j,j*p.S,p.tx j,m⟩)) (by simp[u,Function.comp_def]) (λt ht=>((h.nz m).2 t ht).1) (λx hx=>?_) ?_ wait
  .simpa[Function.comp_def]using this
  .obtain⟨j,hj,rfl⟩:=bM.1 hx;obtain⟨j1,Y⟩:=fU.1 hj;have j1:=mu.1 j1;have Y:p.pl j=m:=by simpa using Y
   refine(MI h (show j<=p.K by omega)).2 m ?_;have J:=(vF h j).1;unfold pl at Y;omega
  .rw[jy];have:((λx:Tx×Nat×Ba=>x.2.1)∘λj=>((⟨8,9,p.data j⟩:Tx),j,(⟨p.ep j,100+p.ep j,j*p.S,p.tx j,m⟩:Ba)))=id:=rfl;rw[this,List.map_id];exact(List.nodup_range' (step:=1) aA).filter _
end HP
end Go.Proofs.YtpibpdpedjinhaaGreatDoor.Dv
namespace Go.Proofs.YtpibpdpedjinhaaGreatDoor.Hm
open Go.RowKit Go.Joins Go.Shelf
def shr(l:List (List UInt8))(f:Nat):Nat->Nat->List (List UInt8)
 |0,_=>[]
 |g+1,i=>(l.getD ((f+i)%l.length) []).take 40::(if (f+i)%5=4 then []else shr l f g (i+1))
def Au(l:List (List UInt8))(f:Nat):List (List UInt8):=shr l f (min l.length 6) 0
def G9(l:List (List UInt8))(f:Nat):∀g i,(shr l f g i).length<=g/\∀b,b∈shr l f g i->b.length<=40
 |0,i=>by simp[shr]
 |g+1,i=>by
  have E:=G9 l f g (i+1);rw[shr];split
  .refine⟨aC,λb q=>?_⟩;rw[dK.1 q,bK];omega
  .refine⟨by simp only[aU];omega,λb q=>?_⟩;obtain rfl|q:=dD.1 q
   .rw[bK];omega
   .exact E.2 b q
def Mc(l:List (List UInt8))(f:Nat):Dv.Short (Au l f):=by have:=G9 l f (min l.length 6) 0;exact⟨by unfold Au;omega,this.2⟩
def Made.add{w W Wa J:U}{v:aD}{l:List (List UInt8)}{x:List UInt8}{lo g5 E I:Nat}(h:Made W lo v l)(hw:Below lo w W)(aa:lo<=w.heap.size)(hX:Below W.heap.size W Wa)(hr:Row J 9 1 (aR (M ⟨g5,E,Z⟩) (l.length+1) I) (l.length+1) (l.map lM++[lM x]))(hg:Grew v g5 Wa J):Made J lo (aR (M ⟨g5,E,Z⟩) (l.length+1) I) (l++[x])/\Below lo w J:=by have hs:=hw.size;have Y:=hw.trans (hX.mono aA);have:=yL Y (by have:=hX.size;omega) h.2 hg;refine⟨⟨by simpa using hr,λq hq=>?_⟩,this.1⟩;cases hq;exact this.2
def ShQ(w:U)(E:List (List UInt8))(e:Ending)(w':U):Prop:=∃a cap,e=bX (.slice a E.length cap)/\Made w' w.heap.size (.slice a E.length cap) E/\Below w.heap.size w w'
def QL(v:aD)(l:List (List UInt8))(f:Nat)(w:U)(h:Rd w 1 v l.length (l.map lM))(hl:l.length<=4294967296)(hf:f<=65536):eE PQ 25 #[v,N X f] w (ShQ w (Au l f)):=by
 obtain⟨a,cap,rfl⟩:=h.slice;obtain⟨E,hE⟩:∃E,Au l f=E:=⟨_,rfl⟩
 rw[hE];obtain⟨n,hn⟩:∃n,l.length=n:=⟨_,rfl⟩
 obtain⟨i0,ap,am,ar,ao⟩:=rS uY;have Hi:cS _:=jD ap (jD am (jD ar ao));have H:cS _:=jD h (jD hE hn);rw[hn]at hl⊢;clear h hE hn ap am ar ao;go_enter (fq Tryz.func25 rfl),Tryz.ntmps25;go_wp2_with fail;go_loopg [5,6] n (λgg v5 v6 wx=>∃(i:Nat)(L:List (List UInt8))(ra:Option Addr)(rc:Nat),i<=min n 6/\L.length=i/\v6=N X i/\v5=.slice ra i rc/\gg=n-i/\cS (L++shr l f (min n 6-i) i=E/\Made wx w.heap.size (.slice ra i rc) L/\Below w.heap.size w wx))
 case atStart=>
  refine⟨0,[],Z,0,dL _,rfl,rfl,rfl,rfl,?_,⟨Row.nil _ _ _,by simp[eA]⟩,aJ _ _⟩;obtain⟨h,hE,hn⟩:=H.out;rw[<-hE,<-hn];rfl
 case round=>
  obtain⟨i,L,ra,rc,hi,I,rfl,rfl,rfl,HI⟩:=hrel
  have fin:cS (L=E->ShQ w E (bX (.slice ra i rc)) wr):=λe=>by
   subst e;unfold ShQ;rw[I];exact⟨_,_,rfl,HI.out.2.1,HI.out.2.2⟩
  by_cases a3:i<n
  .have aq:(i:Int)<n:=by omega
   by_cases h6:i<6
   .have aw:(i:Int)<6:=by omega
    obtain⟨h,hE,hn⟩:=H.out;obtain⟨g,off,ay,e,_,ak,hx⟩:=h.pos aA;simp only[eQ]at e;obtain⟨rfl,-,rfl⟩:=e;have av:(f+i)%n<n:=ri _ aA;obtain⟨x,ai⟩:∃x,l[(f+i)%n]? =M x:=⟨_,aO aA⟩
    have aj:l.getD ((f+i)%n) []=x:=by rw[aY,ai];rfl
    have k0:wr.cell? ⟨g,off+(f+i)%n,Z⟩=M (lM x):=(HI.out.2.2.cell (p:=⟨g,_,Z⟩) ak).trans (hx _ _ (by rw[fE,ai];rfl));unfold lM at k0;obtain⟨Wa,hX⟩:∃Wa:ByteArray,(⟨x.toArray⟩:ByteArray)=Wa:=⟨_,rfl⟩
    rw[hX]at k0;have ac:Wa.data.toList=x:=by rw[<-hX]
    obtain⟨j,hj⟩:∃j,(f+i)%n=j:=⟨_,rfl⟩
    rw[hj]at k0 av;have hm:((f:Int)+i).tmod (n:Int)=j:=by rw[<-hj,oi aA];simp
    have a2:IntKind.i64.wrap (j:Int)=j:=by rw[cP];omega
    have a4:((n:Int) == 0)=aL:=ZS aA;have ax:(n:Int)≠0:=aA
    have az:(j:Int)<n:=aA
    obtain⟨q,hq⟩:∃q,(f+i)%5=q:=⟨_,rfl⟩
    have a1:((f:Int)+i).tmod 5=q:=by rw[<-hq,oi aA];omega
    have a6:IntKind.i64.wrap (q:Int)=q:=by rw[cP];omega
    have hs:∃g,min n 6-i=g+1:=⟨min n 6-i-1,aA⟩
    have ab:shr l f (min n 6-i) i=x.take 40::(if q=4 then []else shr l f (min n 6-(i+1)) (i+1)):=by
     obtain⟨g',au⟩:=hs;rw[au,shr,hn,aj,hq,show min n 6-(i+1)=g' from by omega]
    have ag:∀o,Row (wr.alloc o) 9 1 (.slice ra i rc) i (L.map lM):=λo=>by have:=HI.out.2.1.1;rw[I]at this;exact this.below ((aJ _ wr).alloc jE o)
    have ae:cS _:=ag;have HX:cS _:=jD ab (jD ac I);clear ag ab hs h hE hn hx ai aj hX ac hj hq I ak fin;go_upto_if 29 with fail;go_cut [7] from 8 to 40 (λv wx=>wx=wr/\∃Y:ByteArray,v=aH Y/\cS (Y.data.toList=x.take 40))
    case first=>
     by_cases a5:40<Wa.size
     .have q1:decide ((40:Int)<(Wa.size:Int))=bB:=Z0 aA;have q2:(40:Int)<(Wa.size:Int):=by omega
      have q3:(40:Int)<=(Wa.size:Int):=aA
      go_wp2_with fail;go_meet
      case rel=>exact⟨rfl,_,rfl,by rw[cS,<-HX.out.2.1,ext_list];simp⟩
     .have q1:decide ((40:Int)<(Wa.size:Int))=aL:=ZZ aA;have q2:¬(40:Int)<(Wa.size:Int):=by omega
      go_wp2_with fail;go_meet
      case rel=>exact⟨rfl,Wa,rfl,by rw[cS,<-HX.out.2.1,eH (by rw[<-bD];omega)]⟩
    case rest=>
     obtain⟨rfl,Y,rfl,HY⟩:=hcut;by_cases h4:q=4
     .have q1:((q:Int) == 4)=bB:=by simp[h4]
      have H4:cS _:=h4;clear h4;go_wp2_with (first|(at_builtin;refine kJ _ rfl (.tmp 32) (.tmp 34) 40 rfl 9 i0 _ 1 16 (uq Tryz.underlying40) Hi.out.1 Hi.out.2.1 Hi.out.2.2.1 Hi.out.2.2.2 rfl aB _ i _ rfl (ae.out _) _ 1 1 [aH Y] rfl aB rfl (by intro j u hj;match j,hj with|0,hj=>(simp at hj;subst hj;simp[gR])) (by intro u hu;simp at hu;subst hu;rfl) (by unfold maxLen;omega) aA ?_;intro g5 an af w5 J aa;have ah:cS _:=jD J aa;clear J aa)|go_in)
      go_ret;obtain⟨ab,ac,I⟩:=HX.out;obtain⟨h1,h2,h3⟩:=HI.out;rw[ab,ZD H4.out]at h1;have hY:lM (x.take 40)=aH Y:=by unfold lM;rw[<-HY.out]
      have h5:=ah.out;rw[<-I]at h2 h5;have:=h2.add (x:=x.take 40) h3 jE ((aJ _ _).alloc jE _) (by rw[hY];exact h5.1) h5.2;unfold ShQ;rw[<-h1,aS,I];rw[I]at this;exact⟨_,_,rfl,this.1,this.2⟩
     .have q1:((q:Int) == 4)=aL:=ZS aA;have H4:cS _:=h4;clear h4;go_wp2_with (first|(at_builtin;refine kJ _ rfl (.tmp 32) (.tmp 34) 40 rfl 9 i0 _ 1 16 (uq Tryz.underlying40) Hi.out.1 Hi.out.2.1 Hi.out.2.2.1 Hi.out.2.2.2 rfl aB _ i _ rfl (ae.out _) _ 1 1 [aH Y] rfl aB rfl (by intro j u hj;match j,hj with|0,hj=>(simp at hj;subst hj;simp[gR])) (by intro u hu;simp at hu;subst hu;rfl) (by unfold maxLen;omega) aA ?_;intro g5 an af w5 J aa;have ah:cS _:=jD J aa;clear J aa)|go_in)
      go_roundg (n-(i+1))
      case measure=>omega
      case rel=>
       obtain⟨ab,ac,I⟩:=HX.out;obtain⟨h1,h2,h3⟩:=HI.out;rw[ab,Zs H4.out]at h1;have hY:lM (x.take 40)=aH Y:=by unfold lM;rw[<-HY.out]
       have h5:=ah.out;rw[<-I]at h2 h5;have:=h2.add (x:=x.take 40) h3 jE ((aJ _ _).alloc jE _) (by rw[hY];exact h5.1) h5.2;rw[I]at this;exact⟨i+1,L++[x.take 40],_,af,aA,by simp[I],by go_num,rfl,rfl,by simpa using h1,this.1,this.2⟩
   .have aw:¬(i:Int)<6:=by omega
    have HF:cS _:=fin.out (by have:=HI.out.1;rw[show min n 6-i=0 from by omega]at this;simpa[shr]using this);clear fin;go_wp2_with fail;go_ret;exact HF.out
  .have aq:¬(i:Int)<n:=by omega
   have HF:cS _:=fin.out (by have:=HI.out.1;rw[show min n 6-i=0 from by omega]at this;simpa[shr]using this);clear fin;go_wp2_with fail;go_ret;exact HF.out
def La(n:Nat)(w:U)(hn:n<65536):eE PQ 57 #[N X n] w λe w'=>e=bX (gP #[cF aL,aH ⟨(Im.num 4 n).toArray⟩,aR Z 0 0])/\Below w.heap.size w w':=by
 generalize hE:Im.num 4 n=E;have HE:cS _:=hE;clear hE;have hw4:=(Im.qg n).1;obtain⟨w1,hw1,hb1,hz⟩:=jI w #[cF aL,aH ⟨#[]⟩,aR Z 0 0] 103;have hs1:=hb1.size;have hlt:=(jG hz)
 have Hz:cS _:=jD hz hb1;clear hz hb1;go_enter (fq Tryz.func57 rfl),Tryz.ntmps57;go_wp2_with fail;rw[<-hw1];clear hw1;go_loopg [0,3] n (λg t v wx=>∃(m f:Nat)(s:ByteArray),t=N X m/\v=aH s/\g=m/\m<65536/\Im.wid m<=f/\s.size+f<=4/\cS (Im.num f m++s.data.toList=E)/\Below w1.heap.size w1 wx)
 case atStart=>exact⟨n,4,_,rfl,rfl,rfl,hn,hw4,jE,by rw[cS];simpa using HE.out,aJ _ _⟩
 case round=>
  obtain⟨m,f,s,rfl,rfl,rfl,hm,hf,hs,Hacc,hb⟩:=hrel;by_cases h0:0<gk
  .have h0':0<(gk:Int):=by omega
   have hcv:=one_byte wr (gk%256);have hss:(s.size:Int)<=4:=aA
   go_wp2_with fail;go_roundg (gk/256)
   case measure=>omega
   case rel=>
    have hwd:=Im.CO gk aA aA;obtain⟨f',rfl⟩:∃f',f=f'+1:=⟨f-1,aA⟩
    have hu:cQ ((gk:Int)%256).toNat=cQ (gk%256):=by
     congr 1
    refine⟨_,f',⟨#[cQ ((gk:Int)%256).toNat]⟩++s,by go_num,rfl,rfl,aA,aA,?_,?_,hb.alloc hb.size _⟩
    .have:((⟨#[cQ ((gk:Int)%256).toNat]⟩:ByteArray)++s).size=1+s.size:=by rw[rT];rfl
     omega
    .have:=Hacc.out;rw[Im.num,Zs aA]at this;rw[cS,<-this,hu];simp
  .have h0':¬0<(gk:Int):=by omega
   obtain rfl:gk=0:=aA
   have hfin:s.data.toList=E:=by have:=Hacc.out;rw[Im.uV]at this;exact this
   obtain⟨hz,hb1⟩:=Hz.out;have hz2:=(hb.block _ hlt).trans hz;obtain⟨c0,c1,c2⟩:=cells3 hz2;have fz:=aQ hz2;obtain⟨r0,r1,r2⟩:=cells3 (jV (jV (jV hz2 0 (cF aL)) 1 (aH s)) 2 (aR Z 0 0));have HB:cS _:=jD hb hb1;clear hz hb1 hz2 hb;go_wp2_with fail;refine cM (v:=gP #[cF aL,aH s,aR Z 0 0]) (by simp[results,Tryz.results57,go_sem,r0,r1,r2]) rfl ⟨?_,?_⟩
   .rw[<-hfin]
   .obtain⟨hb,hb1⟩:=HB.out;exact(((hb1.trans (hb.mono hs1)).setCell jE _).setCell jE _).setCell jE _
def E8(v n:Nat)(w:U)(hn:n<=4)(hv:v<65536):eE PQ 88 #[N X v,N X n] w λe w'=>e=bX (aH ⟨(Fr.be n v).toArray⟩)/\Below w.heap.size w w':=by
 generalize hE:Fr.be n v=E;have HE:cS _:=hE;clear hE;go_enter (fq Tryz.func88 rfl),Tryz.ntmps88;go_wp2_with fail;go_loopg [0,5,6] n (λg t x y wx=>∃(m i:Nat)(s:ByteArray),t=N X m/\x=aH s/\y=N X i/\i<=n/\g=n-i/\m<65536/\s.size=i/\cS (Fr.be (n-i) m++s.data.toList=E)/\Below w.heap.size w wx)
 case atStart=>exact⟨v,0,_,rfl,rfl,rfl,dL _,rfl,hv,rfl,by rw[cS];simpa using HE.out,aJ _ _⟩
 case round=>
  obtain⟨m,i,s,rfl,rfl,rfl,hi,rfl,hm,hs,q,J⟩:=hrel;by_cases h0:i<n
  .have Y:(i:Int)<n:=by omega
   have ab:=one_byte wr (m%256);have aa:(s.size:Int)<=4:=aA
   go_wp2_with fail;go_roundg (n-(i+1))
   case measure=>omega
   case rel=>
    have hu:cQ ((m:Int)%256).toNat=cQ (m%256):=by
     congr 1
    refine⟨m/256,i+1,⟨#[cQ ((m:Int)%256).toNat]⟩++s,by go_num,rfl,by go_num,aA,rfl,aA,?_,?_,J.alloc J.size _⟩
    .have:((⟨#[cQ ((m:Int)%256).toNat]⟩:ByteArray)++s).size=1+s.size:=by rw[rT];rfl
     omega
    .have:=q.out;rw[show n-i=(n-(i+1))+1 from by omega,Fr.be]at this;rw[cS,<-this,hu];simp
  .have Y:¬(i:Int)<n:=by omega
   obtain rfl:i=n:=aA
   have I:s.data.toList=E:=by have:=q.out;rw[Nat.sub_self,Fr.be]at this;exact this
   go_wp2_with fail;go_ret;rw[<-I];exact⟨rfl,J⟩
def PI(x:Fr.F)(w:U)(h1:x.chan<65536)(h2:x.num<65536)(h3:x.data.length<65536):eE PQ 55 #[N X x.chan,N X x.num,aH ⟨x.data.toArray⟩,.bool x.last] w λe w'=>e=bX (aH ⟨(Fr.enc x).toArray⟩)/\Below w.heap.size w w':=by
 obtain⟨ch,J,da,la⟩:=x;dsimp only at h1 h2 h3⊢;obtain⟨D,hD⟩:∃D:ByteArray,(⟨da.toArray⟩:ByteArray)=D:=⟨_,rfl⟩
 have q:D.data.toList=da:=by rw[<-hD]
 have ac:D.size=da.length:=by rw[<-q,bD]
 obtain⟨a1,e1⟩:∃a,Fr.be 4 ch=a:=⟨_,rfl⟩
 obtain⟨a2,e2⟩:∃a,Fr.be 2 J=a:=⟨_,rfl⟩
 obtain⟨a3,e3⟩:∃a,Fr.be 2 da.length=a:=⟨_,rfl⟩
 have l1:=Fr.lI 4 ch;have l2:=Fr.lI 2 J;have l3:=Fr.lI 2 da.length;have c1:∀W,eE PQ 88 #[N X (ch:Nat),N X 4] W λe w'=>e=bX (aH ⟨(Fr.be 4 ch).toArray⟩)/\Below W.heap.size W w':=λW=>E8 ch 4 W aB h1;have c2:∀W,eE PQ 88 #[N X (J:Nat),N X 2] W λe w'=>e=bX (aH ⟨(Fr.be 2 J).toArray⟩)/\Below W.heap.size W w':=λW=>E8 J 2 W aB h2;have c3:∀W,eE PQ 88 #[N X (da.length:Nat),N X 2] W λe w'=>e=bX (aH ⟨(Fr.be 2 da.length).toArray⟩)/\Below W.heap.size W w':=λW=>E8 da.length 2 W aB h3;rw[e1]at l1 c1;rw[e2]at l2 c2;rw[e3]at l3 c3;obtain⟨A1,I⟩:∃A:ByteArray,(⟨a1.toArray⟩:ByteArray)=A:=⟨_,rfl⟩
 obtain⟨A2,Y⟩:∃A:ByteArray,(⟨a2.toArray⟩:ByteArray)=A:=⟨_,rfl⟩
 obtain⟨A3,f3⟩:∃A:ByteArray,(⟨a3.toArray⟩:ByteArray)=A:=⟨_,rfl⟩
 have s1:A1.size=4:=by rw[<-l1,<-I,bD]
 have s2:A2.size=2:=by rw[<-l2,<-Y,bD]
 have s3:A3.size=2:=by rw[<-l3,<-f3,bD]
 have hE:Fr.enc ⟨ch,J,da,la⟩=a1++a2++a3++da++[if la then 1 else 0]:=by rw[<-e1,<-e2,<-e3];rfl
 rw[<-ac]at c3;rw[I]at c1;rw[Y]at c2;rw[f3]at c3;have HC:cS _:=jD c1 (jD c2 c3);have HF:cS _:=jD hE (jD q (jD I (jD Y f3)));rw[hD];have ah:D.size<65536:=aA
 clear c1 c2 c3 hE q I Y f3 e1 e2 e3 l1 l2 l3 hD ac h3;go_enter (fq Tryz.func55 rfl),Tryz.ntmps55;cases la
 all_goals
  go_wp2_with (first|(go_at_call 88;(with_reducible refine aT (HC.out.1 _) ?_);rintro e w1 ⟨rfl,ae⟩;have E:cS _:=ae;clear ae)|(go_at_call 88;(with_reducible refine aT (HC.out.2.1 _) ?_);rintro e w2 ⟨rfl,ab⟩;have aa:cS _:=ab;clear ab)|(go_at_call 88;(with_reducible refine aT (HC.out.2.2 _) ?_);rintro e w3 ⟨rfl,af⟩;have ag:cS _:=af;clear af))
  go_ret;obtain⟨hE,q,I,Y,f3⟩:=HF.out;refine⟨?_,E.out.trans ((aa.out.mono E.out.size).trans (ag.out.mono (bH E.out.size aa.out.size)))⟩;rw[hE];refine aa3 ?_;rw[o9,o9,o9,o9,q,<-I,<-Y,<-f3];rfl
open Dv (Gp pc rZ Kz)
section
variable {n i:Nat}
theorem aef(a n:Nat):pk (a:Int) (n:Int)=((a%n:Nat):Int):=by unfold pk;rw[Zs aA,oi aA];omega
theorem abA(q:Bool)(E:1<=i)(h2:i<n):(rZ n q)[i]? =M (if q then n-i else i):=by
 obtain⟨j,rfl⟩:∃j,i=j+1:=⟨i-1,aA⟩
 unfold rZ;rw[eU,fE,qn aA];simp only[cO,aK];split<;>omega
theorem Zz(q:Bool)(E:1<=i)(h2:i<n):(rZ n q).take (i+1)=(rZ n q).take i++[if q then n-i else i]:=by rw[List.take_add_one,abA q E h2];rfl
theorem OA(n:Nat)(f:Nat->List UInt8):(gE (n+1)).map f=(gE n).map f++[f n]:=by simp[lh]
theorem X4(k:Nat)(s:ByteArray)(q:Nat)(w:U)(hk:k<65536)(hs:s.size<=4096)(hr:q<100):eE PQ 26 #[N X k,aH s,N X q] w λe w'=>e=bX (aH ⟨(Kz k s.data.toList (1+q%4) (decide (q%2=1))).toArray⟩)/\Below w.heap.size w w':=by
 obtain⟨r4,aw⟩:∃r,q%4=r:=⟨_,rfl⟩
 obtain⟨S,hS⟩:∃S,s.data.toList=S:=⟨_,rfl⟩
 have ak:s.size=S.length:=by rw[<-hS,bD]
 obtain⟨Y,J⟩:∃b,decide (q%2=1)=b:=⟨_,rfl⟩
 have b6:r4<4:=aA
 obtain⟨n,hn⟩:∃n,1+r4=n:=⟨_,rfl⟩
 obtain⟨z,hz⟩:∃z,S.length/n=z:=⟨_,rfl⟩
 obtain⟨E,hE⟩:∃E,Kz k S n Y=E:=⟨_,rfl⟩
 rw[aw,hS,J,hn,hE];have ab:=λW=>pick_any (q:Nat) 4 W aA aA aA aA;have aq:=aef q 4;rw[show((4:Nat):Int)=4 from rfl]at aq;rw[aq,aw]at ab;have hq:(s.size:Int).tdiv (n:Int)=z:=by rw[ak,<-hz,Int.tdiv_eq_ediv_of_nonneg aA];omega
 have b9:z<=4096:=by rw[<-hz];exact bH (Nat.div_le_self ..) aA
 have ci:(s.size:Int)/(n:Int)=z:=by rw[ak,<-hz];omega
 have cc:IntKind.i64.wrap (z:Int)=z:=by rw[cP];omega
 have ca:(1:Int)+(r4:Int)=(n:Int):=aA
 have cg:((n:Int) == 0)=aL:=ZS aA;have b3:(n:Int)≠0:=aA
 have b1:n<=4:=aA
 have az:1<=n:=aA
 obtain⟨en,an⟩:∃en:Nat->List UInt8,en=λj=>Fr.enc (Gp k S (z+1) n j):=⟨_,rfl⟩
 have a5:∀j,(en j).length<=4105:=λj=>by
  have:=Dv.Pv S (z+1) n j;rw[an,Fr.lD];simp only[Gp];omega
 have bd:∀i,i<=n->n<=i->0::((rZ n Y).take i).flatMap en=E:=λi h1 h2=>by
  obtain rfl:i=n:=aA
  rw[<-hE,an,<-hz,eH (by rw[Dv.Oc az b1];exact jE)];unfold Kz Fr.cat;rw[List.flatMap_map]
 have bh:∀j,j<n->∀P:ByteArray,P.data.toList=pc S (z+1) n j->∀W,eE PQ 55 #[N X k,N X j,aH P,cF (decide (j+1=n))] W λe w'=>e=bX (aH ⟨(en j).toArray⟩)/\Below W.heap.size W w':=λj hj P hP W=>by
  have h:=Dv.Pv S (z+1) n j;have:=PI (Gp k S (z+1) n j) W hk (by simp only[Gp];omega) (by simp only[Gp];omega);rw[an];have e:(⟨(pc S (z+1) n j).toArray⟩:ByteArray)=P:=by rw[<-hP]
  simp only[Gp]at this;rw[e]at this;exact this
 obtain⟨i0,bg,a3,bl,a7⟩:=rS uY;have Hi:cS _:=jD bg (jD a3 (jD bl a7));have HP:cS _:=ab;have HF:cS _:=bh;have HE:cS _:=jD bd (jD a5 (jD hS ak));have a6:cS _:=J;have h2:(q:Int).tmod 2=((q%2:Nat):Int):=by rw[oi aA];omega
 have bq:IntKind.i64.wrap ((q%2:Nat):Int)=((q%2:Nat):Int):=by rw[cP];omega
 obtain⟨r2,ay⟩:∃r,q%2=r:=⟨_,rfl⟩
 rw[ay]at h2 bq J
 have cp:(((r2:Nat):Int) == 0)=!Y:=by
  rw[<-J];rcases(show r2=0\/r2=1 by omega)with rfl|rfl<;>rfl
 clear hS ak bg a3 bl a7 ab bh bd a5 an aq J ay hE hz aw hn a6;go_enter (fq Tryz.func26 rfl),Tryz.ntmps26;go_wp2_with (go_at_call 22;refine aT (HP.out _) ?_;rintro e w1 ⟨rfl,hw⟩;subst w1)
 go_loopg [1,9,10] n (λgg v1 v9 bz wx=>∃(i:Nat)(R:ByteArray)(ra:Option Addr)(rc:Nat),i<=n/\v1=aH R/\bz=N X i/\v9=.slice ra i rc/\gg=n-i/\cS ((i<n->R.data.toList=S.drop (i*(z+1)))/\Made wx w.heap.size (.slice ra i rc) ((gE i).map en)/\Below w.heap.size w wx))
 case atStart=>
  obtain⟨-,-,hS,-⟩:=HE.out;exact⟨0,s,Z,0,dL _,rfl,rfl,rfl,rfl,λ_=>by simpa using hS,⟨Row.nil _ _ _,by simp[eA]⟩,aJ _ _⟩
 case round=>
  obtain⟨i,R,ra,rc,hi,rfl,rfl,rfl,rfl,HI⟩:=hrel;by_cases a2:i<n
  .have bk:(i:Int)<n:=by omega
   obtain⟨hR,hM,hB⟩:=HI.out;replace hR:=hR a2;have av:R.size=S.length-i*(z+1):=by rw[bD,hR,dW]
   have cl:R.size<=4096:=by have:=HE.out.2.2.2;omega
   have HR:cS _:=jD hR av
   have I:∀V,Below wr.heap.size wr V->∀o,Row (V.alloc o) 9 1 (.slice ra i rc) i ((gE i).map en |>.map lM):=λV hV o=>by
    have:=hM.1;rw[bC,pu]at this;exact(this.below hV).below ((aJ _ V).alloc jE o)
   have a1:cS _:=I;clear hR av hM hB I;obtain⟨tb,af⟩:∃b,decide (i+1<n/\z+1<R.size)=b:=⟨_,rfl⟩
   have ar:cS _:=af;go_upto_region 8 with fail;go_cut [38] from 23 to 57 (λv wx=>wx=wr/\v=.bool tb)
   case first=>
    by_cases hl:i+1<n
    .have ax:(i:Int)<(n:Int)-1:=by omega
     have q1:decide ((i:Int)<(n:Int)-1)=bB:=Z0 ax
     have q2:decide ((z:Int)+1<(R.size:Int))=tb:=by
      rw[<-af];exact decide_eq_decide.2 ⟨λh=>⟨hl,aA⟩,λh=>aA⟩
     clear af;go_wp2_with fail;go_meet
     case rel=>exact⟨rfl,rfl⟩
    .have ax:¬(i:Int)<(n:Int)-1:=by omega
     have q1:decide ((i:Int)<(n:Int)-1)=aL:=ZZ ax;have q2:tb=aL:=by rw[<-af];exact ZZ λh=>hl h.1
     clear af;go_wp2_with fail;go_meet
     case rel=>exact⟨rfl,by rw[q2]⟩
   case rest=>
   obtain⟨rfl,rfl⟩:=hcut;clear af;go_upto_if 38 with fail;go_cut [11] from 23 to 57 (λv wx=>wx=wc/\∃P:ByteArray,v=aH P/\P.size<=R.size/\cS (P.data.toList=pc S (z+1) n i/\(i+1<n->(R.extract P.size R.size).data.toList=S.drop ((i+1)*(z+1)))))
   case first=>
    have ac:cS (∀P:ByteArray,(i+1<n->P.data.toList=R.data.toList.take (z+1))->(¬i+1<n->P=R)->P.data.toList=pc S (z+1) n i/\(i+1<n->(R.extract P.size R.size).data.toList=S.drop ((i+1)*(z+1)))):=λP h1 h2=>by
     obtain⟨hR,av⟩:=HR.out;have hx:(R.extract P.size R.size).data.toList=R.data.toList.drop P.size:=by rw[lU,bD R,iM]
     unfold pc;by_cases hl:i+1<n
     .have h1:=h1 hl;rw[ZD hl,h1,hR];refine⟨rfl,λ_=>?_⟩;rw[hx,hR,bD,h1,hR,bK,dW,iE,ph];obtain h|h:=Nat.le_total (z+1) (S.length-i*(z+1))
      .rw[fZ h]
      .rw[Nat.min_eq_right h,kp aA,kp aA]
     .rw[Zs hl,h2 hl,hR];exact⟨rfl,λh=>Xs h hl⟩
    cases tb
    .go_wp2_with fail;go_meet
     case rel=>
      have:=Ys ar.out;exact⟨rfl,R,rfl,jE,ac.out _ (λh=>by rw[eH (by rw[<-bD];omega)]) (λ_=>rfl)⟩
    .have cd:(z:Int)+1<=(R.size:Int):=by have:=Z2 ar.out;omega
     go_wp2_with fail;go_meet
     case rel=>
      have:=Z2 ar.out;refine⟨rfl,_,rfl,?_,ac.out _ (λ_=>?_) (λh=>Xs this.1 h)⟩
      .rw[fA];omega
      .rw[lU];simp
   case rest=>
    obtain⟨rfl,P,rfl,b8,bb⟩:=hcut;have b4:(P.size:Int)<=(R.size:Int):=aA
    have hdl:((i:Int) == (n:Int)-1)=decide (i+1=n):=by
     by_cases h:i+1=n
     .rw[Z0 h];exact beq_iff_eq.2 aA
     .rw[ZZ h];exact ZS aA
    have ag:=HF.out i a2 P bb.out.1;have ae:∀W,eE PQ 55 #[N X k,N X i,aH P,.bool ((i:Int) == (n:Int)-1)] W λe w'=>e=bX (aH ⟨(en i).toArray⟩)/\Below W.heap.size W w':=λW=>by rw[hdl];exact ag W
    have ah:cS _:=ae;obtain⟨D,hD⟩:∃D:ByteArray,(⟨(en i).toArray⟩:ByteArray)=D:=⟨_,rfl⟩
    rw[hD]at ah;have HD:cS _:=hD;clear ag ae hdl hD;go_wp2_with (first|(go_at_call 55;refine aT (ah.out _) ?_;rintro e w2 ⟨rfl,a4⟩;have au:cS _:=a4;clear a4)|(at_builtin;refine kJ _ rfl (.tmp 54) (.tmp 56) 40 rfl 9 i0 _ 1 16 (uq Tryz.underlying40) Hi.out.1 Hi.out.2.1 Hi.out.2.2.1 Hi.out.2.2.2 rfl aB _ i _ rfl (a1.out _ au.out _) _ 1 1 [aH D] rfl aB rfl (by intro j u hj;match j,hj with|0,hj=>(simp at hj;subst hj;simp[gR])) (by intro u hu;simp at hu;subst hu;rfl) (by unfold maxLen;omega) aA ?_;intro g5 b5 a9 w5 ai ap;have bu:cS _:=jD ai ap;clear ai ap)|go_in)
    go_roundg (n-(i+1))
    case measure=>omega
    case rel=>
     obtain⟨hR,hM,hB⟩:=HI.out;have hD:lM (en i)=aH D:=by unfold lM;rw[HD.out]
     obtain⟨h5,bw⟩:=bu.out;have bj:((gE i).map en).length=i:=aC
     have:=hM.add (x:=en i) hB jE (au.out.trans ((aJ _ w2).alloc jE _ |>.mono au.out.size)) (by rw[hD,bj];exact h5) bw;rw[bj,<-OA]at this;exact⟨i+1,_,_,a9,aA,rfl,by go_num,rfl,rfl,bb.out.2,this.1,this.2⟩
  .have bk:¬(i:Int)<n:=by omega
   obtain rfl:i=n:=aA
   obtain⟨-,hM,hB⟩:=HI.out;have I:=hM.1;rw[bC,pu]at I;obtain⟨g,off,cap,hv,-⟩:=I.pos aA;simp only[eQ,true_and]at hv;obtain⟨rfl,rfl⟩:=hv
   have aa:∀j,j<i->∀V,Below wr.heap.size wr V->∃D:ByteArray,(⟨(en j).toArray⟩:ByteArray)=D/\D.size<=4105/\V.cell? ⟨g,off+j,Z⟩=M (aH D):=λj hj V hV=>by
    refine⟨_,rfl,?_,?_⟩
    .rw[bD];exact HE.out.2.1 j
    .exact(I.below hV).cell rfl j _ (by rw[fE,fE,qn hj];rfl)
   obtain⟨D0,a8,cb,k0⟩:=aa 0 aA wr (aJ _ _);have aj:cS _:=aa;have br:cS _:=a8;have ck:(0:Int)<(i:Int):=aA
   rw[Nat.add_zero]at k0;obtain⟨wq,am⟩:∃wq,wq=wr:=⟨_,rfl⟩
   rw[<-am]at hB;rw[<-am]at aj;clear aa I hM a8;go_wp2_with fail;rw[<-am];clear am k0;go_loopg [13,14] (i-1) (λgg bo b0 wx=>∃(j:Nat)(O:ByteArray),1<=j/\j<=i/\bo=aH O/\b0=N X j/\gg=i-j/\O.size<=1+j*4105/\cS (O.data.toList=0::((rZ i Y).take j).flatMap en/\Below wq.heap.size wq wx))
   case atStart=>
    refine⟨1,_,jE,az,rfl,rfl,?_,?_,?_,aJ _ _⟩
    .rfl
    .rw[rT];have:(⟨#[0]⟩:ByteArray).size=1:=rfl;omega
    .rw[o9,<-br.out];simp[rZ]
   case round=>
    obtain⟨j,O,bv,hj,rfl,rfl,rfl,hO,HJ⟩:=hrel;by_cases bx:j<i
    .have bm:(j:Int)<i:=by omega
     obtain⟨y,hy⟩:∃y,(if Y then i-j else j)=y:=⟨_,rfl⟩
     have bs:y<i:=by rw[<-hy];split<;>omega
     obtain⟨D,hD,ce,kd⟩:=aj.out y bs wr HJ.out.2
     have ao:cS (∀V:U,V=wr->∃(j':Nat)(O':ByteArray),1<=j'/\j'<=i/\aH (O++D)=aH O'/\N X ((j:Int)+1)=N X j'/\i-(j+1)=i-j'/\O'.size<=1+j'*4105/\cS (O'.data.toList=0::((rZ i Y).take j').flatMap en/\Below wq.heap.size wq V)):=λV hV=>by
      subst hV;refine⟨j+1,_,aA,aA,rfl,by go_num,rfl,?_,?_,HJ.out.2⟩
      .rw[rT];omega
      .rw[o9,HJ.out.1,<-hD,Zz Y bv bx,hy];simp
     have cm:(O.size:Int)<=20000:=aA
     have co:(D.size:Int)<=4105:=aA
     have b7:(y:Int)<i:=aA
     have Hy:cS _:=hy;clear hD;cases Y
     .obtain rfl:j=y:=by simpa using Hy.out
      go_wp2_with fail;go_roundg (i-(j+1))
      case measure=>omega
      case rel=>exact ao.out _ rfl
     .have cj:(i:Int)-(j:Int)=(y:Int):=by have:=Hy.out;rw[ZD rfl]at this;omega
      go_wp2_with fail;go_roundg (i-(j+1))
      case measure=>omega
      case rel=>exact ao.out _ rfl
    .have bm:¬(j:Int)<i:=by omega
     obtain rfl:j=i:=aA
     have ba:O.data.toList=E:=by rw[HJ.out.1];exact HE.out.1 j jE jE
     have b2:cS _:=hB.trans (HJ.out.2.mono hB.size);clear hB;go_wp2_with fail;go_ret;rw[<-ba];exact⟨rfl,b2.out⟩
end
end Go.Proofs.YtpibpdpedjinhaaGreatDoor.Hm
namespace Go.Proofs.YtpibpdpedjinhaaGreatDoor
open Go.RowKit Go.Joins
section
variable {B:Nat}{ps:List Sq.Plan}{w:U}
theorem JB(p:Sq.Plan)(w:U)(J:p.cost<=4194304)(h2:p.size<=128):eE PQ 136 #[gP #[N X p.cost,.bool p.run,N X p.size]] w λe w'=>e=bX (gP #[N X (Sq.kD p).cost,.bool (Sq.kD p).run,N X (Sq.kD p).size])/\Below w.heap.size w w':=by
 obtain⟨c,r,z⟩:=p;simp only at J h2⊢;have E:∀(a b:Obj),Below w.heap.size w ((w.alloc a).alloc b):=λa b=>((aJ _ w).alloc jE _).alloc aC _;have q:cS _:=E;clear E;cases r with
 |true=>
  go_enter (fq Tryz.func136 rfl),Tryz.ntmps136;go_wp2_with fail;exact cM (v:=gP #[N X ((c:Int)+2),cF aL,N X 1]) (by simp[results,Tryz.results136,go_sem]) rfl ⟨by simp[Sq.kD],q.out _ _⟩
 |false=>
  by_cases hz:z=0\/z=128
  .obtain rfl|rfl:=hz
   all_goals
    go_enter (fq Tryz.func136 rfl),Tryz.ntmps136;go_wp2_with fail;exact cM (v:=gP #[N X ((c:Int)+2),cF aL,N X 1]) (by simp[results,Tryz.results136,go_sem]) rfl ⟨by simp[Sq.kD],q.out _ _⟩
  .have Y:((z:Int) == 0)=aL:=by simp;omega
   have I:((z:Int) == 128)=aL:=aF
   go_enter (fq Tryz.func136 rfl),Tryz.ntmps136;go_wp2_with fail;exact cM (v:=gP #[N X ((c:Int)+1),cF aL,N X ((z:Int)+1)]) (by simp[results,Tryz.results136,go_sem]) rfl ⟨by rw[Sq.kD,Zs aF];simp,q.out _ _⟩
def flat:List Sq.Plan->List aD
 |[]=>[]
 |p::r=>N X p.cost::.bool p.run::N X p.size::flat r
theorem flat_get:∀(l:List Sq.Plan)(j:Nat),j<l.length->(flat l)[j*3]? =M (N X (l.getD j Sq.nought).cost)/\(flat l)[j*3+1]? =M (.bool (l.getD j Sq.nought).run)/\(flat l)[j*3+2]? =M (N X (l.getD j Sq.nought).size)
 |[],_,h=>by simp at h
 |p::r,0,_=>by simp[flat]
 |p::r,j+1,h=>by
  have:=flat_get r j (by simpa using h);simpa[flat,ph]using this
theorem KO:∀(l:List Sq.Plan)(j:Nat)(p:Sq.Plan),flat (l.set j p)=(((flat l).set (j*3) (N X p.cost)).set (j*3+1) (.bool p.run)).set (j*3+2) (N X p.size)
 |[],_,_=>rfl
 |q::r,0,p=>by simp[flat]
 |q::r,j+1,p=>by
  have:=KO r j p;simp[flat,ph,this]
def mQ(B:Nat)(ps:List Sq.Plan)(w:U):Prop:=w.heap[B]? =M (aG (flat ps).toArray 180 (0,0))
theorem mQ.cell(h:mQ B ps w)(j:Nat)(q:j<ps.length):w.cell? ⟨B,j*3,Z⟩=M (N X (ps.getD j Sq.nought).cost)/\w.cell? ⟨B,j*3+1,Z⟩=M (.bool (ps.getD j Sq.nought).run)/\w.cell? ⟨B,j*3+2,Z⟩=M (N X (ps.getD j Sq.nought).size):=by
 have g:=flat_get ps j q;simp only[aI h];simpa using g
theorem mQ.free(h:mQ B ps w)(j:Nat):w.frozen? ⟨B,j,Z⟩=aL:=aQ h j
theorem mQ.set(h:mQ B ps w)(j:Nat)(p:Sq.Plan):mQ B (ps.set j p) (((w.setCell ⟨B,j*3,Z⟩ (N X p.cost)).setCell ⟨B,j*3+1,Z⟩ (.bool p.run)).setCell ⟨B,j*3+2,Z⟩ (N X p.size)):=by
 have q:=block_setCell h (i:=j*3) (N X p.cost);have h2:=block_setCell q (i:=j*3+1) (.bool p.run);have h3:=block_setCell h2 (i:=j*3+2) (N X p.size);rw[mQ,h3]
 congr 2
 apply Array.ext';rw[KO];simp
theorem mQ.below{w':U}(h:mQ B ps w)(E:Below w.heap.size w w'):mQ B ps w':=by
 have q:B<w.heap.size:=(jG h)
 exact(E.block B q).trans h
theorem mQ.alloc(h:mQ B ps w)(o:Obj):mQ B ps (w.alloc o):=by
 have q:B<w.heap.size:=(jG h)
 exact(aZ w o B q).trans h
theorem Qo(n:Nat):madeCells #[N X 0,cF aL,N X 0] (n*3)=(flat (eN n Sq.nought)).toArray:=by
 apply Array.ext';rw[madeCells,Array.toList_map,Array.toList_range]
 show(gE (n*3)).map _=flat (eN n Sq.nought)
 induction n with
 |zero=>rfl
 |succ n ih=>
  have e:(n+1)*3=n*3+1+1+1:=aA
  have f:∀n:Nat,flat (eN (n+1) Sq.nought)=flat (eN n Sq.nought)++[N X 0,cF aL,N X 0]:=by
   intro n
   induction n with
   |zero=>rfl
   |succ n ih=>
    have e:∀m:Nat,flat (eN (m+1) Sq.nought)=[N X 0,cF aL,N X 0]++flat (eN m Sq.nought):=λ_=>rfl;have q:=e (n+1);rw[ih,<-fM,<-e n]at q;exact q
  rw[e,lh,lh,lh,f,<-ih];simp only[bJ,eP,fP,fM,dN,dS];have E:n*3%3=0:=aA
  have I:(n*3+1)%3=1:=aA
  have q:(n*3+1+1)%3=2:=aA
  simp[E,I,q]
theorem Tz:(PQ.info? 180).map (λi=>(i.zero,i.size,i.bytes))=M (M (gP #[N X 0,cF aL,N X 0]),3,24):=XN
theorem yC(l:List UInt8):(Sq.plan l).cost<=2*l.length/\(Sq.plan l).size<=128:=by
 cases l with
 |nil=>simp[Sq.DK,Sq.nought]
 |cons x r=>
  refine⟨?_,(Sq.qy x r).2.1⟩;rw[Sq.ZO (4*(x::r).length) (x::r) (.inl (by simp only[aU];omega))];have:=Sq.zT (4*(x::r).length) (x::r).reverse;simpa using this
theorem Vt(s:ByteArray)(J:Nat)(h:J<s.size):Sq.same (s.data.toList.drop J)=if I:J+1<s.size then(if s[J+1]=s[J]then Sq.same (s.data.toList.drop (J+1))+1 else 1)else 1:=by
 have Y:=bD s
 have E:s.data.toList.drop J=s[J]::s.data.toList.drop (J+1):=by
  rw[ju aA,mB];rfl
 split
 .rename_i I
  have q:s.data.toList.drop (J+1)=s[J+1]::s.data.toList.drop (J+2):=by
   rw[ju aA,mB];rfl
  rw[E,q];simp only[Sq.same];by_cases e:s[J+1]=s[J]
  .rw[ZD e,ZD e.symm]
  .rw[Zs e,Zs (λh=>e h.symm)]
 .have q:s.data.toList.drop (J+1)=[]:=kp aA;rw[E,q];rfl
theorem VH(s:ByteArray)(J:Nat)(h:J<s.size):Sq.plan (s.data.toList.drop J)=
  if 2<=Sq.same (s.data.toList.drop J)/\(Sq.plan (s.data.toList.drop (J+min (Sq.same (s.data.toList.drop J)) 128))).cost+2<(Sq.kD (Sq.plan (s.data.toList.drop (J+1)))).cost then
   ⟨(Sq.plan (s.data.toList.drop (J+min (Sq.same (s.data.toList.drop J)) 128))).cost+2,bB,min (Sq.same (s.data.toList.drop J)) 128⟩else Sq.kD (Sq.plan (s.data.toList.drop (J+1))):=by
 have E:=bD s
 have q:s.data.toList.drop J=s[J]::s.data.toList.drop (J+1):=by
  rw[ju aA,mB];rfl
 rw[<-iE];rw[q];exact Sq.og _ _
theorem Vh(s:ByteArray)(w:U)(hs:s.size<=1048576):eE PQ 90 #[aH s] w λe w'=>e=bX (aR (M ⟨w.heap.size,0,Z⟩) (s.size+1) (s.size+1))/\mQ w.heap.size (Sq.tab s.data.toList) w'/\Below w.heap.size w w':=by
 obtain⟨i0,hi,hz0,hz1,hz2⟩:=rS Tz
 have hmk:∀u:U,(Instr.makeSlice 174 (N X ((s.size:Int)+1)) (N X ((s.size:Int)+1))).run PQ u=
   .ok (aR (M ⟨u.heap.size,0,Z⟩) (s.size+1) (s.size+1)) (u.alloc (aG (madeCells #[N X 0,cF aL,N X 0] ((s.size+1)*3)) 180)):=λu=>by
  have h:=run_make (P:=PQ) u 174 180 i0 (gP #[N X 0,cF aL,N X 0]) (uq Tryz.underlying174) hi hz0 X X ((s.size:Int)+1) ((s.size:Int)+1) aA (Int.le_refl _) (by rw[hz2];omega) aA;have e:((s.size:Int)+1).toNat=s.size+1:=aA
  rw[e]at h;simpa[hz1,Value.cells]using h
 clear hi hz0 hz1 hz2
 have hI0:mQ w.heap.size (eN (s.size+1) Sq.nought) (w.alloc (aG (madeCells #[N X 0,cF aL,N X 0] ((s.size+1)*3)) 180)):=by
  rw[mQ,Qo];exact cX _ _
 have hb0:Below w.heap.size w (w.alloc (aG (madeCells #[N X 0,cF aL,N X 0] ((s.size+1)*3)) 180)):=(aJ _ w).alloc jE _;have HI0:cS _:=hI0;clear hI0;go_enter (fq Tryz.func90 rfl),Tryz.ntmps90;go_wp2_with fail;go_loopg [4,5] s.size (λg m t wx=>∃(ps:List Sq.Plan),g<=s.size/\m=N X (Sq.same (s.data.toList.drop g))/\t=N X ((g:Int)-1)/\ps.length=s.size+1/\(∀j,g<=j->j<=s.size->ps.getD j Sq.nought=Sq.plan (s.data.toList.drop j))/\mQ w.heap.size ps wx/\Below w.heap.size w wx)
 case atStart=>
  refine⟨_,jE,?_,rfl,aC,?_,HI0.out,hb0⟩
  .rw[bD,List.drop_length];rfl
  .intro j hj1 hj2;obtain rfl:j=s.size:=by omega
   rw[bD,List.drop_length];simp[Sq.DK]
 case round=>
  obtain⟨ps,hJ,rfl,rfl,hpl,hps,hI,hb⟩:=hrel;clear hmk hb0 HI0;by_cases h1:1<=gk
  .obtain⟨J,rfl⟩:∃J,gk=J+1:=⟨gk-1,aA⟩
   rw[show(((J+1:Nat):Int)-1)=(J:Int) from by omega];have hsl:Sq.same (s.data.toList.drop (J+1))<=1048576:=by have:=Sq.wY (s.data.toList.drop (J+1));rw[dW,<-bD]at this;omega
   have hJs:J<s.size:=by clear hpl hps hsl;omega
   have hst:=Vt s J hJs;have hp0:=(yC (s.data.toList.drop (J+1)))
   have hpc:=VH s J hJs;rw[dW,<-bD]at hp0
   have hm0p:J+1<s.size->1<=Sq.same (s.data.toList.drop (J+1)):=λh=>by
    cases hd:s.data.toList.drop (J+1)with
    |nil=>
     have:=Z1 my hd;rw[dW,<-bD]at this;simp at this;omega
    |cons x r=>exact Sq.vY x r
   have hm0z:¬J+1<s.size->Sq.same (s.data.toList.drop (J+1))=0:=λh=>by
    rw[kp (by rw[<-bD];omega)];rfl
   have hm1s:Sq.same (s.data.toList.drop J)<=s.size-J:=by have:=Sq.wY (s.data.toList.drop J);rw[dW,<-bD]at this;exact this
   generalize hm0:Sq.same (s.data.toList.drop (J+1))=m0 at *;generalize hm1:Sq.same (s.data.toList.drop J)=m1 at *
   have hm1l:1<=m1/\m1<=m0+1/\J+m1<=s.size:=by
    split at hst
    .split at hst<;>omega
    .omega
   have Hst:cS _:=hst;have Hps:cS _:=hps;have Hpl:cS _:=hpl;have Hm1:cS _:=hm1;have Hpc:cS _:=hpc;have Hm0p:cS _:=hm0p;have Hm0z:cS _:=hm0z;clear hps hpl hm0 hm1 hst hpc hm0p hm0z hm1s;have hm0':(m0:Int)<=1048576:=aA
   go_wp2_with fail;go_cut [36] (λb wx=>b=cF (decide (J+1<s.size/\m1=1/\m0+1≠1))/\mQ w.heap.size ps wx/\Below w.heap.size w wx)
   case first=>
    by_cases hA:J+1<s.size
    .have hA':(J:Int)+1<(s.size:Int):=by omega
     have hx1:∀u:U,(Instr.index 9 (aH s) (N X ((J:Int)+1))).run PQ u=.ok (N .u8 ((s[J+1]'hA).toNat:Int)) u:=λu=>tH u s _ _ hA aA;have hx2:∀u:U,(Instr.index 9 (aH s) (N X (J:Int))).run PQ u=.ok (N .u8 ((s[J]'hJs).toNat:Int)) u:=λu=>tH u s _ _ hJs aA;go_quiet (fail);go_wp2_with fail;go_meet;refine⟨?_,hI,below_drewN hb _⟩;have hst:=Hst.out;rw[dif_pos hA]at hst;have hm:=Hm0p.out hA;by_cases he:s[J+1]=s[J]
     .rw[ZD he]at hst;rw[ZZ aA,he];simp
     .rw[Zs he]at hst;rw[Z0 ⟨hA,hst,aA⟩];have:¬(s[J+1].toNat=s[J].toNat):=λh=>he (jA.1 h);simp;omega
    .have hA':decide ((J:Int)+1<(s.size:Int))=aL:=by simp;omega
     go_quiet (fail);go_wp2_with fail;go_meet;exact⟨by rw[ZZ aA],hI,below_drewN hb _⟩
   case rest=>
    obtain⟨rfl,hI1,hb1⟩:=hcut;clear hI hb;generalize hbb:decide (J+1<s.size/\m1=1/\m0+1≠1)=bb;have Hbb:cS _:=hbb;clear hbb;go_upto_if 36 with fail;go_cut [4] (λm wx=>m=N X m1/\mQ w.heap.size ps wx/\Below w.heap.size w wx)
    case first=>
     cases bb with
     |true=>
      go_wp2;go_meet;have hm:=Z2 Hbb.out;exact⟨by rw[hm.2.1];rfl,hI1,hb1⟩
     |false=>
      go_wp2;go_meet;have hm:=Ys Hbb.out;have hst:=Hst.out;refine⟨?_,hI1,hb1⟩
      have e:m1=m0+1:=by
       by_cases hA:J+1<s.size
       .have:=Hm0p.out hA;rw[dif_pos hA]at hst;split at hst
        .exact hst
        .omega
       .have:=Hm0z.out hA;rw[dif_neg hA]at hst;omega
      rw[e];go_num
    case rest=>
     obtain⟨rfl,hI2,hb2⟩:=hcut;clear hI1 hb1 Hst Hbb;have c:=hI2.cell (J+1) (by have:=Hpl.out;omega);rw[Hps.out (J+1) aA aA]at c;obtain⟨c0,c1,c2⟩:=c;have hw2:=(yC (s.data.toList.drop (J+min m1 128)))
     rw[dW,<-bD]at hw2;have hcn:=λh=>(hI2.cell (J+min m1 128) h).1;have hcn:=hcn (by have:=Hpl.out;omega);rw[Hps.out (J+min m1 128) aA aA]at hcn;generalize Sq.plan (s.data.toList.drop (J+1))=p1 at *;generalize hpn:Sq.plan (s.data.toList.drop (J+min m1 128))=pn at *;have Hpn:cS _:=hpn;clear hpn;have hwc:=Sq.nR p1;go_wp2_with fail;refine(JB p1 _ aA aA).mono ?_;generalize Sq.kD p1=q at *;rintro e w3 ⟨rfl,hb3⟩;have hI3:=hI2.below hb3;have hb4:=hb2.trans (hb3.mono hb2.size);have hlt3:w.heap.size<w3.heap.size:=(jG hI3)
     clear c0 c1 c2 hcn;have hcn:=(hI3.cell (J+min m1 128) (by have:=Hpl.out;omega)).1;rw[Hps.out (J+min m1 128) aA aA,Hpn.out]at hcn;obtain⟨c0,c1,c2⟩:=hI3.cell J (by have:=Hpl.out;omega);have hfr:=hI3.free
     have hfin:∀(p:Sq.Plan)(c z:Int)(o:Obj),Sq.plan (s.data.toList.drop J)=p->c=p.cost->z=p.size->∃(ps':List Sq.Plan),ps'.length=s.size+1/\(∀j,J<=j->j<=s.size->ps'.getD j Sq.nought=Sq.plan (s.data.toList.drop j))/\
       mQ w.heap.size ps' ((((w3.setCell ⟨w.heap.size,J*3,Z⟩ (N X c)).setCell ⟨w.heap.size,J*3+1,Z⟩ (.bool p.run)).setCell ⟨w.heap.size,J*3+2,Z⟩ (N X z)).alloc o)/\
       Below w.heap.size w ((((w3.setCell ⟨w.heap.size,J*3,Z⟩ (N X c)).setCell ⟨w.heap.size,J*3+1,Z⟩ (.bool p.run)).setCell ⟨w.heap.size,J*3+2,Z⟩ (N X z)).alloc o):=by
      intro p c z o hp hc hz;subst hc hz;have hpl:=Hpl.out;refine⟨ps.set J p,by rw[List.length_set];exact hpl,?_,(hI3.set J p).alloc _,(((hb4.setCell jE _).setCell jE _).setCell jE _).alloc aF _⟩;intro j h1 h2;simp only[aY,iR];by_cases hjJ:J=j
      .subst hjJ;rw[ZD rfl,ZD aA,hp];rfl
      .rw[Zs hjJ,<-Hps.out j aA h2,aY]
     have Hfin:cS _:=hfin;clear hfin hI3 hb4 Hps Hpl hI2 hb2
     have hcn':w3.cell? ⟨w.heap.size,((J:Int)+min (m1:Int) 128).toNat*3,Z⟩=M (N X pn.cost):=by
      rw[show((J:Int)+min (m1:Int) 128).toNat=J+min m1 128 from by omega];exact hcn
     clear hcn;have hn1:min (m1:Int) 128<=128:=aA
     have hn2:1<=min (m1:Int) 128:=aA
     have hn3:(J:Int)+min (m1:Int) 128<=s.size:=aA
     by_cases hm2:2<=m1
     .have hm2':2<=(m1:Int):=by omega
      by_cases hc:(pn.cost:Int)+2<q.cost
      .go_wp2_with fail;go_roundg J
       case measure=>omega
       case rel=>
        have this:=Hpc.out;rw[ZD ⟨hm2,aA⟩]at this;have k1:((pn.cost:Int)+2)=((pn.cost+2:Nat):Int):=aA
        have k2:(min (m1:Int) 128)=((min m1 128:Nat):Int):=aA
        obtain⟨ps',g1,g2,g3,g4⟩:=Hfin.out ⟨pn.cost+2,bB,min m1 128⟩ ((pn.cost:Int)+2) (min (m1:Int) 128) (aG #[N X ((pn.cost:Int)+2),cF bB,N X (min (m1:Int) 128)] 180) this k1 k2;exact⟨ps',aA,by rw[Hm1.out],rfl,g1,g2,g3,g4⟩
      .go_wp2_with fail;go_roundg J
       case measure=>omega
       case rel=>
        have this:=Hpc.out;rw[Zs aA]at this;obtain⟨ps',g1,g2,g3,g4⟩:=Hfin.out q _ _ (aG #[N X q.cost,.bool q.run,N X q.size] 180) this rfl rfl;exact⟨ps',aA,by rw[Hm1.out],rfl,g1,g2,g3,g4⟩
     .have hm2':¬2<=(m1:Int):=by omega
      go_wp2_with fail;go_roundg J
      case measure=>omega
      case rel=>
       have this:=Hpc.out;rw[Zs aA]at this;obtain⟨ps',g1,g2,g3,g4⟩:=Hfin.out q _ _ (aG #[N X q.cost,.bool q.run,N X q.size] 180) this rfl rfl;exact⟨ps',aA,by rw[Hm1.out],rfl,g1,g2,g3,g4⟩
  .obtain rfl:gk=0:=by omega
   have Hps:cS _:=hps;have Hpl:cS _:=hpl;clear hps hpl;go_wp2;go_ret;refine⟨rfl,?_,hb⟩
   have e:Sq.tab s.data.toList=ps:=by
    apply List.ext_getElem
    .rw[Sq.qJ,<-bD];exact Hpl.out.symm
    .intro j h1 h2;have hpl:=Hpl.out;have e1:=Sq.uQ j s.data.toList (by rw[<-bD];omega);have e2:=Hps.out j (dL _) aA;rw[<-e1]at e2;simpa[aY,h1,h2]using e2.symm
   rw[e];exact hI
end
def Tq(B b:Nat)(l:List UInt8)(p:Sq.Plan)(s:ByteArray)(w:U)(h:tu B b l w)(hl:l.length<=4194304)(hB:B<=w.heap.size)(h0:0<s.size)(hr:p.run=bB)(h1:2<=p.size)(h2:p.size<=128):eE PQ 92 #[aM (M ⟨b,0,Z⟩),gP #[N X p.cost,.bool p.run,N X p.size],aH s] w λe w'=>e=bX (dC #[])/\tu B b (l++Sq.first p s.data.toList) w'/\Below B w w':=by
 obtain⟨c,r,z⟩:=p;simp only at h1 h2 hr⊢;subst hr;go_enter (fq Tryz.func92 rfl),Tryz.ntmps92;go_wp2_with fail;rw[show((257:Int)-(z:Int))=((cQ (257-z)).toNat:Int) from by simp;omega];refine(bByte B b l _ _ (h.alloc _) aA aF).mono ?_;rintro e w1 ⟨rfl,I,Y,ab⟩;have q:Below B w w1:=((aJ B w).alloc hB _).trans Y;go_wp2_with fail;refine(bByte B b _ _ _ I aF (by have:=q.size;omega)).mono ?_;rintro e w2 ⟨rfl,E,J,aa⟩;go_wp2;refine cM (v:=dC #[]) (by simp[results,Tryz.results92,go_sem]) rfl ⟨rfl,?_,q.trans J⟩
 have e:l++Sq.first ⟨c,bB,z⟩ s.data.toList=l++[cQ (257-z)]++[s[0]]:=by
  have d1:s.data.toList=s[0]::s.data.toList.drop 1:=by
   have hl:=bD s;have:=ju (l:=s.data.toList) (i:=0) aA;rw[List.drop_zero,mB]at this;exact this
  rw[Sq.first,d1];simp
 rw[e];exact E
def Tv(B b:Nat)(l:List UInt8)(p:Sq.Plan)(s:ByteArray)(w:U)(h:tu B b l w)(hl:l.length<=4194304)(hB:B<=w.heap.size)(hr:p.run=aL)(h1:1<=p.size)(h2:p.size<=128)(h3:p.size<=s.size):eE PQ 92 #[aM (M ⟨b,0,Z⟩),gP #[N X p.cost,.bool p.run,N X p.size],aH s] w λe w'=>e=bX (dC #[])/\tu B b (l++Sq.first p s.data.toList) w'/\Below B w w':=by
 obtain⟨c,r,z⟩:=p;simp only at h1 h2 h3 hr⊢;subst hr;go_enter (fq Tryz.func92 rfl),Tryz.ntmps92;go_wp2_with fail;rw[show((z:Int)-1)=((cQ (z-1)).toNat:Int) from by simp;omega];have ae:b<w.heap.size:=h.elim (λx=>x.lt) (λx=>x.lt);refine(bByte B b l _ _ (h.alloc _) aA aF).mono ?_;rintro e w1 ⟨rfl,Y,ab,I⟩;have E:Below B w w1:=((aJ B w).alloc hB _).trans ab;have q:w1.heap[w.heap.size]? =M (aG #[N X (c:Int),cF aL,N X (z:Int)] 180 (0,0)):=I w.heap.size _ (cX _ _) aF aC;have cz:w1.cell? ⟨w.heap.size,2,Z⟩=M (N X (z:Int)):=nV q rfl;have af:(z:Int)<=(s.size:Int):=aA
 have ac:cS _:=q;clear q;go_wp2_with fail;refine(zS B b _ _ _ Y (by simp[fA];omega) (by have:=E.size;omega)).mono ?_;rintro e w2 ⟨rfl,J,aa⟩;go_wp2;go_end0;refine⟨rfl,?_,E.trans aa⟩
 have e:l++Sq.first ⟨c,aL,z⟩ s.data.toList=l++[cQ (z-1)]++(s.extract 0 z).data.toList:=by
  rw[lU,Sq.first];simp
 rw[e];exact J
def write_any(B b:Nat)(l:List UInt8)(t:ByteArray)(x:UInt8)(r:List UInt8)(w:U)(h:tu B b l w)(E:l.length<=4194304)(I:B<=w.heap.size)(ht:t.data.toList=x::r):eE PQ 92 #[aM (M ⟨b,0,Z⟩),gP #[N X (Sq.plan (x::r)).cost,.bool (Sq.plan (x::r)).run,N X (Sq.plan (x::r)).size],aH t] w λe w'=>e=bX (dC #[])/\tu B b (l++Sq.first (Sq.plan (x::r)) (x::r)) w'/\Below B w w':=by
 obtain⟨J,h2,h3,h4,Y⟩:=Sq.qy x r;have hs:t.size=r.length+1:=by rw[bD,ht];rfl
 cases q:(Sq.plan (x::r)).run with
 |true=>
  have c:=Tq B b l (Sq.plan (x::r)) t w h E I aA q (h4 q).1 h2;rw[ht,q]at c;exact c
 |false=>
  have c:=Tv B b l (Sq.plan (x::r)) t w h E I q J h2 aA;rw[ht,q]at c;exact c
def LK(s:ByteArray)(w:U)(hs:s.size<=1048576):eE PQ 58 #[aH s] w λe w'=>e=bX (aH ⟨(Sq.enc s.size s.data.toList).toArray⟩)/\Below w.heap.size w w':=by
 have hl:=bD s;have ai:=(yC s.data.toList).1;rw[<-hl]at ai;have af:=Sq.lD s.size s.data.toList aA;generalize hE:Sq.enc s.size s.data.toList=E at *;have HE:cS _:=hE;have ap:cS _:=af;have Hl:cS _:=hl;clear hE af hl;go_enter (fq Tryz.func58 rfl),Tryz.ntmps58;go_wp2_with fail;refine(Vh s _ hs).mono ?_;rintro e w1 ⟨rfl,ab,ak⟩;have Y:w.heap.size<w1.heap.size:=(jG ab)
 have c0:=(ab.cell 0 (by rw[Sq.qJ];omega)).1;rw[show(Sq.tab s.data.toList).getD 0 Sq.nought=Sq.plan s.data.toList from rfl]at c0;simp only[Nat.zero_mul]at c0;go_wp2_with fail;refine(acI w1.heap.size w1.heap.size _ _ jE (cX _ _) aC aA).mono ?_;rintro e w2 ⟨rfl,am,ae⟩;have an:mQ w.heap.size (Sq.tab s.data.toList) w2:=(ae.block _ Y).trans (ab.alloc _);have I:Below w.heap.size w w2:=(ak.alloc aA _).trans (ae.mono aA);have ah:w1.heap.size<=w2.heap.size:=by have:=ae.size;simp at this;omega
 clear c0 ab;go_wp2_with fail;go_loopg [5] s.size (λg t wx=>∃(k f:Nat)(q:List UInt8),t=N X k/\k<=s.size/\g=s.size-k/\s.size-k<=f/\cS (q++Sq.enc f (s.data.toList.drop k)=E)/\tu w1.heap.size w1.heap.size q wx/\mQ w.heap.size (Sq.tab s.data.toList) wx/\Below w.heap.size w wx/\w1.heap.size<=wx.heap.size)
 case atStart=>exact⟨0,s.size,[],rfl,dL _,rfl,aA,HE.out,am,an,I,ah⟩
 case round=>
  obtain⟨k,f,q,rfl,hk,rfl,hf,aa,hI,hP,hb,ac⟩:=hrel;have a5:cS (Below w.heap.size w w1):=ak;clear am an I ah ae ak
  have a4:q.length<=2*s.size:=by
   have h1:=Z1 my aa.out;rw[aS]at h1;have h2:=ap.out;omega
  by_cases a2:(k:Int)<(s.size:Int)
  .obtain⟨c0,c1,c2⟩:=hP.cell k (by rw[Sq.qJ,<-Hl.out];omega);rw[Sq.uQ k s.data.toList (by rw[<-Hl.out];omega)]at c0 c1 c2;have aj:(s.extract k s.size).data.toList=s.data.toList.drop k:=by rw[lU,Hl.out,iM]
   obtain⟨x,r,J⟩:∃x r,s.data.toList.drop k=x::r:=by
    cases hd:s.data.toList.drop k with
    |nil=>have:=Z1 my hd;rw[dW,<-Hl.out]at this;simp at this;omega
    |cons x r=>exact⟨x,r,rfl⟩
   have a3:r.length+1=s.size-k:=by have:=Z1 my J;rw[dW,<-Hl.out]at this;simpa using this.symm
   have ar:=λ(W:U)(hW:tu w1.heap.size w1.heap.size q W)(av:w1.heap.size<=W.heap.size)=>write_any w1.heap.size w1.heap.size q (s.extract k s.size) x r W hW aA av (by rw[aj,J]);rw[J]at aj c0 c1 c2;have aw:=Sq.qy x r;have Hw:cS _:=ar;have aq:cS _:=J;clear ar aj J;obtain⟨p1,p2,p3,p4,p5⟩:=aw;have a1:cS _:=jD p4 p5;clear p4 p5;go_upto_block 1 with fail;go_cut [] (λwx=>tu w1.heap.size w1.heap.size (q++Sq.first (Sq.plan (x::r)) (x::r)) wx/\mQ w.heap.size (Sq.tab s.data.toList) wx/\Below w.heap.size w wx/\w1.heap.size<=wx.heap.size)
   case first=>
    go_wp2_with fail;go_region_with (go_at_call 92;refine(Hw.out _ ?_ ?_).mono ?_;exact hI;exact ac;rintro e w3 ⟨rfl,ax,I⟩)
    all_goals
     go_wp2_with fail;go_meet;have hm:=I.mono (jv Y);exact⟨ax,(I.block _ Y).trans hP,Below.trans (by first|exact hb|exact hb.drew|exact below_drewN hb _) hm,bH ac I.size⟩
   case rest=>
    obtain⟨ay,ao,az,au⟩:=hcut;clear c0 c1 c2 hI hP hb ac;have c2:=(ao.cell k (by rw[Sq.qJ,<-Hl.out];omega)).2.2;rw[Sq.uQ k s.data.toList (by rw[<-Hl.out];omega),aq.out]at c2;go_wp2;go_roundg (s.size-(k+(Sq.plan (x::r)).size))
    case measure=>omega
    case rel=>
     refine⟨k+(Sq.plan (x::r)).size,f-1,q++Sq.first (Sq.plan (x::r)) (x::r),by go_num,aA,rfl,aA,?_,ay,ao,az,au⟩;rw[cS,<-aa.out,<-iE,aq.out];obtain⟨f',rfl⟩:∃f',f=f'+1:=⟨f-1,aA⟩
     rw[Sq.enc,Zs aC,Nat.add_sub_cancel,fM]
  .have ag:s.data.toList.drop k=[]:=kp (by rw[<-Hl.out];omega);have hE:q=E:=by have:=aa.out;rw[ag,Sq.KA,gI]at this;exact this
   subst hE;clear ag;go_wp2_with fail;refine(wS _ _ q _ hI ac).mono ?_;rintro e w3 ⟨rfl,_,I⟩;go_wp2;go_ret;exact⟨rfl,hb.trans (I.mono aA)⟩
end Go.Proofs.YtpibpdpedjinhaaGreatDoor
namespace Go.Proofs.YtpibpdpedjinhaaGreatDoor.Hm
open Go.RowKit Go.Joins Go.Shelf
open Fr (below_drewN)
open Dv (xG yj rV qc lW)
section
variable {w0 w:U}{bl:Nat}{l:List (List UInt8)}{v:aD}
def Ij(b:List UInt8):List aD:=[cF aL,aH ⟨b.toArray⟩,aR Z 0 0]
theorem ZW:(PQ.info? 103).map (λi=>(i.zero,i.size,i.bytes))=M (M (gP #[cF aL,aH ⟨#[]⟩,aR Z 0 0]),3,48):=XN
theorem EN(B:Nat)(w:U)(n:Nat)(b:List UInt8):In B w (n+1) (cF aL) (aH ⟨b.toArray⟩) (aR Z 0 0) (lW b):=⟨rfl,rfl,Z,0,rfl,λh=>Xs rfl h⟩
structure Ks(w0:U)(bl:Nat)(l:List (List UInt8))(v:aD)(w:U):Prop where
 box:w.heap[bl]? =M (aG #[cF bB,aH ⟨#[]⟩,v] 103 (0,0))
 row:Row w 103 3 v l.length (l.flatMap Ij)
 own:∀g,v.ownBlock=M g->bl<g
 lo:w0.heap.size=bl
 bel:Below bl w0 w
theorem Ks.inn(h:Ks w0 bl l v w):In w.heap.size w 2 (cF bB) (aH ⟨#[]⟩) v ⟨bB,[],l.map lW⟩:=by
 obtain⟨a,cap,rfl⟩:=h.row.slice;refine⟨rfl,rfl,a,cap,aC,λhk=>?_⟩;obtain⟨g,off,I,e,-⟩:=h.row.pos (by cases l with|nil=>simp at hk|cons=>simp);cases e;refine⟨g,off,rfl,h.row.lt rfl,λj E=>?_⟩;simp only[bC]at E;have q:∀i u,i<3->(Ij l[j])[i]? =M u->w.cell? ⟨g,off+(j*3+i),Z⟩=M u:=λi u Y J=>h.row.cell rfl _ _ (by rw[flat_get Ij 3 (λ_=>rfl) l j i l[j] (aO E) Y];exact J);refine⟨cF aL,aH ⟨l[j].toArray⟩,aR Z 0 0,⟨?_,?_,?_⟩,?_⟩
 .exact q 0 _ aA rfl
 .have:=q 1 _ aA rfl;rwa[<-dV]at this
 .have:=q 2 _ aA rfl;rwa[<-dV]at this
 .simp only[List.getElem_map];exact EN _ _ _ _
theorem Ks.below{w':U}(h:Ks w0 bl l v w)(E:Below w.heap.size w w'):Ks w0 bl l v w':=by
 have q:=(jG h.box)
 exact⟨(E.block _ q).trans h.box,h.row.below E,h.own,h.lo,h.bel.trans (E.mono aA)⟩
def acy(e id t:List UInt8)(v:aD):Array aD:=#[cF aL,aH ⟨e.toArray⟩,aR Z 0 0,cF aL,aH ⟨id.toArray⟩,aR Z 0 0,cF aL,aH ⟨t.toArray⟩,aR Z 0 0,cF bB,aH ⟨#[]⟩,v]
theorem adD{W:U}{K:Nat}{e id t:Nat}(h:Ks w0 bl l v w)(I:Below w.heap.size w W)(q:W.heap[K]? =M (aG (acy (Im.num 4 e) (Im.num 4 id) (Im.num 4 t) v) 103 (0,0))):In W.heap.size W 3 (cF bB) (aH ⟨#[]⟩) (aR (M ⟨K,0,Z⟩) 4 4) (xG e id t l):=by
 have J:=(h.below I).inn;refine⟨rfl,rfl,M ⟨K,0,Z⟩,4,rfl,λ_=>⟨K,0,rfl,(jG q),λj E=>?_⟩⟩;have E:j<4:=E
 match j,E with
 |0,_=>exact⟨_,_,_,⟨by rw[aI q];rfl,by rw[aI q];rfl,by rw[aI q];rfl⟩,EN _ _ _ _⟩
 |1,_=>exact⟨_,_,_,⟨by rw[aI q];rfl,by rw[aI q];rfl,by rw[aI q];rfl⟩,EN _ _ _ _⟩
 |2,_=>exact⟨_,_,_,⟨by rw[aI q];rfl,by rw[aI q];rfl,by rw[aI q];rfl⟩,EN _ _ _ _⟩
 |3,_=>exact⟨_,_,_,⟨by rw[aI q];rfl,by rw[aI q];rfl,by rw[aI q];rfl⟩,J⟩
theorem Qv(e id t:Nat)(v:aD)(txs:List (List UInt8))(w:U)(he:e<65536)(ar:id<65536)(ht:t<65536)(h:Rd w 1 v txs.length (txs.map lM))(hs:Dv.Short txs)(hH:kG w):eE PQ 27 #[N X e,N X id,N X t,v] w λr w'=>r=bX (aH ⟨(qc e id t txs).toArray⟩)/\Below w.heap.size w w':=by
 obtain⟨a,cap,rfl⟩:=h.slice;obtain⟨b1,b2,b3,b4⟩:=Dv.zl he ar ht hs;have h0:=hH.pos;have am:∀n:Nat,n<65536->∀W,eE PQ 57 #[N X n] W λr w'=>r=bX (gP #[cF aL,aH ⟨(Im.num 4 n).toArray⟩,aR Z 0 0])/\Below W.heap.size W w':=λn hn W=>La n W hn
 have ai:∀(Wa W:U)(v:aD)(K:Nat),Ks w w.heap.size txs v Wa->Below Wa.heap.size Wa W->W.heap[K]? =M (aG (acy (Im.num 4 e) (Im.num 4 id) (Im.num 4 t) v) 103 (0,0))->eE PQ 56 #[gP #[cF bB,aH ⟨#[]⟩,aR (M ⟨K,0,Z⟩) 4 4]] W λr w'=>r=bX (dC #[aH ⟨(yj e id t txs).toArray⟩,N X 0])/\Below W.heap.size W w':=λWa W v K hX hb hK=>by
  have hw:=Dv.Xo he ar ht hs;have bq:Below w.heap.size w W:=hX.bel.trans (hb.mono (by have:=hX.bel.size;omega));have:=FI 3 W.heap.size _ _ _ _ W jE aA (hH.below bq h0) (adD hX hb hK);rw[Dv.Ef]at this;exact this
 have ae:∀W,Below w.heap.size w W->eE PQ 56 #[gP #[cF aL,aH ⟨(0::yj e id t txs).toArray⟩,aR Z 0 0]] W λr w'=>r=bX (dC #[aH ⟨(rV e id t txs).toArray⟩,N X 0])/\Below W.heap.size W w':=λW hb=>by
  have:=FI 1 W.heap.size (lW (0::yj e id t txs)) _ _ _ W jE (by simp[Im.wt,lW];omega) (hH.below hb h0) (EN _ _ _ _);rw[Dv.uX]at this;exact this
 obtain⟨B,hB⟩:∃B:ByteArray,(⟨(yj e id t txs).toArray⟩:ByteArray)=B:=⟨_,rfl⟩
 obtain⟨C,hC⟩:∃C:ByteArray,(⟨(rV e id t txs).toArray⟩:ByteArray)=C:=⟨_,rfl⟩
 have an:B.data.toList=yj e id t txs:=by rw[<-hB]
 have av:C.data.toList=rV e id t txs:=by rw[<-hC]
 have b0:B.size<=1578:=by rw[bD,an];exact b1
 have a4:C.size=(rV e id t txs).length:=by rw[bD,av]
 have a1:∀W,eE PQ 58 #[aH C] W λr w'=>r=bX (aH ⟨(qc e id t txs).toArray⟩)/\Below W.heap.size W w':=λW=>by
  have:=LK C W aA;rw[a4,av]at this;exact this
 have a3:(⟨#[0]⟩:ByteArray)++B=⟨(0::yj e id t txs).toArray⟩:=by
  apply ByteArray.ext;apply Array.ext';rw[o9,an];simp
 rw[<-a3,hC]at ae;rw[hB]at ai;obtain⟨i0,a8,a2,bb,a6⟩:=rS ZW;have Hi:cS _:=jD a8 (jD a2 (jD bb a6));have a7:cS _:=ai;have bd:cS _:=ae;have HN:cS _:=am;have az:cS _:=a1;obtain⟨n,hn⟩:∃n,txs.length=n:=⟨_,rfl⟩
 have H:cS _:=jD h hn;have b5:n<=6:=by rw[<-hn];exact hs.1
 have ap:Ks w w.heap.size [] (aR Z 0 0) (w.alloc (aG #[cF bB,aH ⟨#[]⟩,aR Z 0 0] 103)):=⟨cX _ _,Row.nil _ _ _,by simp[eA],rfl,(aJ _ w).alloc jE _⟩
 rw[hn];clear ai ae am a1 a8 a2 bb a6 h hn a3 hB hC an av a4 b1 b2 b3 b4 hH h0;obtain⟨bl,aq⟩:∃bl,w.heap.size=bl:=⟨_,rfl⟩
 obtain⟨S,hS⟩:∃S,qc e id t txs=S:=⟨_,rfl⟩
 rw[hS]at az⊢;rw[aq]at ap a7 bd⊢;have bo:cS _:=ap;clear ap hS;go_enter (fq Tryz.func27 rfl),Tryz.ntmps27;go_wp2_with fail;have bs:cS _:=aq;clear aq;go_loopg [10] n (λgg bm wx=>∃(i:Nat)(ra:Option Addr)(rc:Nat),i<=n/\bm=N X i/\gg=n-i/\cS (Ks w bl (txs.take i) (.slice ra i rc) wx))
 case atStart=>exact⟨0,Z,0,dL _,rfl,rfl,bo.out⟩
 case round=>
  obtain⟨i,ra,rc,hi,rfl,rfl,HI⟩:=hrel;by_cases bz:i<n
  .have ba:(i:Int)<n:=by omega
   obtain⟨h,hn⟩:=H.out;obtain⟨x,hx⟩:∃x,txs[i]? =M x:=⟨_,aO aA⟩
   obtain⟨g,off,bw,ee,-,bk,hq⟩:=h.pos aA;simp only[eQ]at ee;obtain⟨rfl,-,rfl⟩:=ee;obtain⟨ac,af,ab,ak,aa⟩:=HI.out;have k0:wr.cell? ⟨g,off+i,Z⟩=M (lM x):=(aa.cell (p:=⟨g,_,Z⟩) (show g<bl by omega)).trans (hq _ _ (by rw[fE,hx];rfl));unfold lM at k0;obtain⟨Wa,hX⟩:∃Wa:ByteArray,(⟨x.toArray⟩:ByteArray)=Wa:=⟨_,rfl⟩
   rw[hX]at k0;obtain⟨c0,c1,c2⟩:=cells3 ac;have fz:=aQ ac;have J:=(jG ac)
   have aj:(txs.take i).length=i:=by rw[bK];omega
   rw[aj]at af;have aw:cS (∀o,Row (wr.alloc o).drew 103 3 (.slice ra i rc) i ((txs.take i).flatMap Ij)):=λo=>af.kept λq hq=>fV _ _ _ (af.lt hq);have HK:cS (∀o,(wr.alloc o).drew.heap[bl]? =M (aG #[cF bB,aH ⟨#[]⟩,.slice ra i rc] 103 (0,0))):=λo=>(fV _ _ _ J).trans ac;have ca:∀o,(wr.alloc o).cell? ⟨bl,2,Z⟩=M (.slice ra i rc):=λo=>(cells3 (HK.out o)).2.2;have HX:cS _:=jD hx (jD hX (jD aj (jD ab (jD ak (jD aa J)))));clear h hn hx hq hX af aj ab ak aa ac bk;go_upto_region 5 with fail;go_region_law ((refine pY (by rfl) (.tmp 23) (.tmp 29) 101 (by rfl) 103 i0 _ 3 48 (uq Tryz.underlying101) Hi.out.1 Hi.out.2.1 Hi.out.2.2.1 Hi.out.2.2.2 (by rfl) aB _ i ((txs.take i).flatMap Ij) (by rfl) (aw.out _) ⟨wr.heap.size,0,Z⟩ 1 1 [cF aL,aH Wa,aR Z 0 0] (by rfl) aB (by rfl) (by intro j x hj;match j,hj with|0,hj=>(simp at hj;subst hj;simp[gR])|1,hj=>(simp at hj;subst hj;simp[gR])|2,hj=>(simp at hj;subst hj;simp[gR])) (by intro x hx;simp at hx;rcases hx with rfl|rfl|rfl<;>rfl) (by unfold maxLen;omega) aA ?_;intro g4 bg a5 w4 Y I;have ah:=(I.jR.block bl (aP HX.out.2.2.2.2.2.2 ((aJ _ wr).alloc jE _).size) (λe=>Nat.lt_irrefl _ (HX.out.2.2.2.1 _ e))).trans (HK.out _);have b6:=aQ ah;obtain⟨s0,s1,s2⟩:=cells3 ah;have H4:cS _:=jD Y (jD I ah);clear Y I ah))
   all_goals
    go_wp2_with fail;go_roundg (n-(i+1))
    case measure=>omega
    case rel=>
     obtain⟨hx,hX,aj,ab,ak,aa,J⟩:=HX.out;obtain⟨Y,I,ah⟩:=H4.out;have bu:txs.take (i+1)=txs.take i++[x]:=by rw[List.take_add_one,hx];rfl
     obtain⟨O,hO⟩:∃O,O=aG #[cF aL,aH Wa,aR Z 0 0] 103:=⟨_,rfl⟩
     rw[<-hO]at I;have ao:Below wr.heap.size wr (wr.alloc O).drew:=((aJ _ wr).alloc jE O).drew;have ax:=aa.trans (ao.mono aA);have hl:=yL ax (by have:=ao.size;omega) (λq hq=>jv (ab q hq)) I
     have a9:bl<g4:=by
      obtain e|e:=I.own
      .exact ab g4 e
      .have:=ao.size;omega
     refine⟨i+1,M ⟨g4,bg,Z⟩,a5,aA,by go_num,rfl,⟨?_,?_,λq hq=>?_,ak,hl.1.setCell jE _⟩⟩
     .exact jV ah 2 _
     .rw[bu,aS,aj,iC];refine Row.kept (w:=w4) ?_ λq hq=>aW _ _ _ _ λe=>?_
      .have:[x].flatMap Ij=[cF aL,aH Wa,aR Z 0 0]:=by rw[<-hX];rfl
       rw[this];exact Y
      .cases hq;exact Nat.ne_of_gt a9 e
     .cases hq;exact a9
  .have ba:¬(i:Int)<n:=by omega
   obtain rfl:i=n:=aA
   have hK:=HI.out;rw[eH (by rw[H.out.2];exact jE)]at hK;obtain⟨c0,c1,c2⟩:=cells3 hK.box;have J:=(jG hK.box)
   have ay:cS _:=hK;have bv:cS (∀V,Below wr.heap.size wr V->V.cell? ⟨bl,0,Z⟩=M (cF bB)/\V.cell? ⟨bl,1,Z⟩=M (aH ⟨#[]⟩)/\V.cell? ⟨bl,2,Z⟩=M (.slice ra i rc)):=λV hV=>cells3 ((hV.block _ J).trans hK.box);clear hK;go_upto_region 6 with fail;go_cut [11] (λv wx=>v=aH B/\cS (Below bl w wx))
   case first=>
    have E:Below wr.heap.size wr wr:=aJ _ _;go_region_with (first|(go_at_call 57;(first|(with_reducible refine aT (HN.out _ he _) ?_)|(with_reducible refine aT (HN.out _ ar _) ?_)|(with_reducible refine aT (HN.out _ ht _) ?_));rintro e' w5 ⟨rfl,au⟩;replace E:Below wr.heap.size wr w5:=(by first|exact E.trans (au.mono E.size)|exact E.drew.trans (au.mono E.drew.size));clear au;obtain⟨c0,c1,c2⟩:=bv.out _ E)|(go_at_call 56;(refine aT (a7.out wr _ _ _ ay.out ?_ ?_) ?_;(first|exact E.alloc E.size _|exact(E.alloc E.size _).drew);(first|exact cX _ _|(show(World.alloc _ _).heap[_]? =_;exact cX _ _)));rintro e' w6 ⟨rfl,ag⟩;have bj:Below wr.heap.size wr w6:=(by first|exact(E.alloc E.size _).trans (ag.mono (E.alloc E.size _).size)|exact((E.alloc E.size _).drew).trans (ag.mono ((E.alloc E.size _).drew).size));clear ag E))
    all_goals
     go_wp2_with fail;go_meet
     case rel=>exact⟨rfl,ay.out.bel.trans (bj.mono (jv J))⟩
   case rest=>
    obtain⟨rfl,Hb⟩:=hcut;have bx:(B.size:Int)<=1578:=aA
    go_wp2_with (first|(go_at_call 56;refine aT (bd.out _ Hb.out) ?_;rintro e' w6 ⟨rfl,ag⟩;have H6:cS _:=ag;clear ag)|(go_at_call 58;refine aT (az.out _) ?_;rintro e' w7 ⟨rfl,bh⟩;have H7:cS _:=bh;clear bh))
    go_ret;have br:bl<=wc.heap.size:=by have:=Hb.out.size;have:=bs.out;omega
    exact⟨rfl,Hb.out.trans ((H6.out.trans (H7.out.mono H6.out.size)).mono br)⟩
end
end Go.Proofs.YtpibpdpedjinhaaGreatDoor.Hm
