/- For every config and every upper chain of bulk at most 1048576 together tributarylaw.Alls returns true and leaves its arguments as they read: All answers as the reference does, twice; what was handed in stays as it is; what came out is the caller's. The goroutines that it leaves behind go their own ways. No premise. -/
import Derived.Test.YtpibpdpedjinhaaGreatDoorP14
import Derived.Test.YtpibpdpedjinhaaGreatDoorP15
import Derived.Test.YtpibpdpedjinhaaGreatDoorP16
import Derived.Test.YtpibpdpedjinhaaGreatDoorCards
import Derived.Test.YtpibpdpedjinhaaGreatDoorTie
set_option maxRecDepth 100000
set_option maxHeartbeats 8000000
set_option linter.all false
open Array renaming getElem?_append_left->Z8,replicate->wy,setIfInBounds->qb,size->qd
open Bool renaming false->pi,true->pw
open ByteArray renaming mk->ZK
open Eq renaming trans->oy
open Go renaming Addr->zm,Calls->tf,Code->vy,Exit->qaC,TypeId->wj,Value->po,World->pn,info_parts->yk,wp_block->Y5,wp_cond->Y9,wp_seq->ud,wp_skip->ZD
open Go.Act renaming eval->p7,put->td
open Go.Addr renaming add->sf
open Go.Code renaming block->Yj,cond->Yh,seq->qv
open Go.Ending renaming returned->qs
open Go.Frame renaming enter->X4
open Go.IntKind renaming i64->pg
open Go.Obj renaming cells->pj
open Go.Operand renaming tmp->sn
open Go.Proofs.Tryz renaming f10->yv,f3->xz,f34->YH,prog->px,underlying25->qaY
open Go.RowKit renaming Hid->qu
open Go.RowKit.Below renaming mono->o5,trans->ow
open Go.Value renaming agg->we,bool->rh,int->ox,ownBlock->ov,pointer->pm,slice->U,tuple->sh
open Go.Value.slice renaming injEq->ry
open Go.World renaming alloc->o6,cell?->Z
open List renaming length->M,length_eq_zero_iff->tt,mem_flatMap->Ys,take_add_one->qbc,take_append_drop->YX,take_append_of_le_length->ZO
open Nat renaming add_zero->qaP,le_succ_of_le->qbj
open Ne renaming symm->YI
open Option renaming none->X,some->N
open Prod renaming fst->p9
open Go.Proofs.Tryz
namespace Go.Proofs.YtpibpdpedjinhaaGreatDoor
open Dv
namespace Hm
open Go.RowKit Go.Joins Go.Shelf
open Dv (Zq)
section
variable {a:Array po}{m:Nat}{Q:qaC->Act->pn->Prop}
theorem TW:rJ=qv WE (qv tk1 (qv We (qv V7 (qv (qv VC (.block 2 (.loop (qv (qv Xj (.cond (sn 63) .skip (.exit 2))) (qv (.block 3 (qv Sh (.cond (sn 89) VO .skip))) Jg))))) (.block 6 (.loop (qv (qv O4 (.cond (sn 117) .skip (.exit 6))) (.block 7 (qv PM (qv (qv Jd (.cond (sn 129) (.exit 6) .skip)) (qv MU JD))))))))))):=rfl
structure XR(c:Cf)(vch:po)(ug uoff ucap:Nat)(ps:List PU)(cs:List (Ch×po))(bs:List PW)(Zn kb lo n:Nat)(vwa vlog:po)(w:pn):Prop where
 work:gq w kb c (U (N ⟨ug,uoff,X⟩) (M ps) ucap) vch vwa vlog
 low:lo<=kb
 chs:iH w lo vch cs
 ok:oG Zn c.7 cs
 fewM:Zn+4440<=1048576
 op:∀p∈cs,p.1.2<=n
 wa:CX w lo vwa bs
 few:M bs<=549755813888
 cf:fR c=pw
 ups:∀W,Below lo w W->iy W (U (N ⟨ug,uoff,X⟩) (M ps) ucap) ps
 hn:n<M ps
 pl:M ps<=60
 small:∀u∈ps,Dv.small u.1=pw
section
variable {c:Cf}{vch:po}{ug hd ha:Nat}{ps:List PU}{cs:List (Ch×po)}{bs:List PW}{Zn kb lo n:Nat}{vwa hh:po}{w:pn}
theorem ON{o}(h:zE a kb n)(r:lo<=kb)(hM:Zn<=1048576)(hm:m<=1099511627776)(av:c.7<=4096)(hv:Xv c o hh (cs.map p9) (bs.map p9) Zn m kb lo n w vch vwa cs bs w)(hK:∀f g v j d e,zE f kb n->Xv c o hh (cs.map p9) (bs.map p9) Zn m kb lo n w v j d e g->Dv.pull (d.map p9)=([],d.map p9)->Q .normal ⟨f,[]⟩ g):(Yj 6 (.loop (qv (qv O4 (.cond (sn 117) .skip (.exit 6))) (.block 7 (qv PM (qv (qv Jd (.cond (sn 129) (.exit 6) .skip)) (qv MU JD))))))).wp PQ Q ⟨a,[]⟩ w:=by
 refine Y5 (mN (λk H f=>∃(a:Array po)(v j:po)(d:List (Ch×po))(e:List PW),H=⟨a,[]⟩/\k=M d/\zE a kb n/\Xv c o hh (cs.map p9) (bs.map p9) Zn m kb lo n w v j d e f) ⟨M cs,a,vch,vwa,cs,bs,R,R,h,hv⟩ ?_);rintro k H G ⟨a2,v,j,d,e,rfl,rfl,hu,b⟩;obtain⟨va,q,rfl⟩:=b.2.1.slice;have x:Z G ⟨kb,8,X⟩=N (U va (M d) q):=by rw[b.1.cell];rfl
 refine ud (ud (L3 hu x λay y an=>?_))
 show(Yh (sn 117) .skip (.exit 6)).wp _ _ _ _
 refine Y9 (t:=decide (0<M d)) (by simp[p7,cS,an]) ?_;cases d with
 |nil=>
  refine wp_exit ?_
  show Q .normal _ _
  exact hK _ _ _ _ [] e y b R
 |cons p cr=>
  rw[Ze aC];refine ZD ?_
  show(Yj 7 _).wp _ _ _ _
  have am:M (p::cr)<=1048576:=aX b.3.1 hM;obtain⟨g,aw,ar,O,aa,-,au⟩:=b.2.1.pos aC;simp only[ry,true_and]at O;obtain⟨rfl,rfl⟩:=O;obtain⟨C,D,t,E⟩:=b.2.get R (j:=0) (p:=p) R;have L:=b.3.2 p aC;have ab:=b.3.3 p.1 aC;have I:=b.2.2 p aC;have i:=IA p.1.1 p.1.2 p.2 p.1.3 p.1.4 G lo I aA (λf b=>(L.1 f b).1) (λf b=>(L.1 f b).2);obtain⟨pa,pc,af⟩:=Fr.gW I;rw[af]at t i;rw[Nat.zero_mul,qaP]at C D t E;unfold Dv.bytesV at i;cases l:Dv.bytes p.1.3 with
  |none=>
   rw[l]at i;refine Y5 (ud (Eh y x aC C D t E i λJ w2 z u B f=>?_))
   show(qv (qv Jd _) _).wp _ _ _ _
   refine ud (ud (DM z u B λK A u F=>?_))
   show(Yh (sn 129) (.exit 6) .skip).wp _ _ _ _
   refine Y9 (t:=pw) (by simp[p7,cS,F]) ?_;refine wp_exit ?_
   show Q .normal _ _
   refine hK _ _ _ _ (p::cr) e A ⟨b.1.fF f,b.2.keeps (fN.fF [] f) aC aC,b.3,⟨b.4.1.fF f,b.4.2,λs p=>⟨(b.4.3 s p).1.fF f,(b.4.3 s p).2⟩⟩,b.5,b.6,ow b.7 (o5 f (aX r (eZ b.1.lt))),b.8.trans (fN.fF _ f)⟩ ?_;rw[cL,Dv.pull,l]
  |some s=>
   rw[l]at i;refine Y5 (ud (Eh y x aC C D t E i λaz w2 T f ao z=>?_))
   show(qv (qv Jd _) _).wp _ _ _ _
   refine ud (ud (DM T f ao λa0 V f ap=>?_))
   show(Yh (sn 129) (.exit 6) .skip).wp _ _ _ _
   refine Y9 (t:=pi) (by simp[p7,cS,ap]) ?_;refine ZD ?_
   show(qv MU JD).wp _ _ _ _
   have B:=b.1.fF z;refine ud (NS V f B aC aa am λa1 u ax W f ag ah=>?_)
   show JD.wp _ _ _ _
   subst ag;have ac:fN [89] w2 (w2.setCell ⟨kb,8,X⟩ (U u (M cr) (q-1))):=fN.set B aC _ _;have K:=(fN.fF [89] z).trans ac
   have ai:(ZK s.toArray).size<=4194304:=by
    have:=Iu l ab;have p:(ZK s.toArray).size=M s:=R;omega
   have ad:=b.5;rw[aP]at ad;have aj:gq (w2.setCell ⟨kb,8,X⟩ (U u (M cr) (q-1))) kb c o (U u (M cr) (q-1)) j hh:=B.lY _;have ak:=b.4.keeps K aB aB;refine KT W f (JN c o (U u (M cr) (q-1)) j hh e kb lo n _ _ aj r ak ai aA) λaq w5 Y hr=>?_;obtain⟨v',P,r1,r2,F,r4,r5⟩:=hr;have J:fN [89,127] G w5:=(K.mono aC).trans r5
   have ae:Dv.pull ((p::cr).map p9)=(s::(Dv.pull (cr.map p9)).1,(Dv.pull (cr.map p9)).2):=by
    rw[cL,Dv.pull,l]
   have A:=b.6;rw[ae]at A;refine⟨M cr,aC,aq,_,v',cr,P,R,R,Y,r1,?_,b.3.sub (eL _ _),r2,?_,⟨A.1,?_⟩,?_,b.8.trans J⟩
   .exact(GF b.2 ah).keeps J aB aB
   .have p:=Zf M F;rw[aV,aN,aV]at p;have:=Bu s n;have S:(ZK s.toArray).1.1=s:=by simp
    rw[S]at p;omega
   .have p:(ZK s.toArray).1.1=s:=by simp
    rw[p]at F;rw[F,<-A.2,dQ,cZ]
   .exact ow ((ow b.7 (o5 z (aX r (eZ b.1.lt)))).setCell (p:=⟨kb,8,X⟩) r _) r4
end
end
section
section
variable {c:Cf}{vch:po}{ug hd ha:Nat}{ps:List PU}{cs:List (Ch×po)}{bs:List PW}{Zn kb lo n:Nat}{vwa hh:po}{w:pn}
theorem I0(T:XR c vch ug hd ha ps cs bs Zn kb lo n vwa hh w){u}(hu:ps[n]? =N u):tf PQ 34 #[pm (N ⟨kb,0,X⟩),ox pg n] w (EW c (U (N ⟨ug,hd,X⟩) (M ps) ha) hh u.1 (cs.map p9) (bs.map p9) Zn kb lo n w):=by
 have O:=T.9;unfold fR at O;simp only[Zh]at O;have a7:=T.12;have hn:=T.11;have ak:=T.5;have a5:=T.8;have o:=aS hu;obtain⟨a9,ba,au,-⟩:=lN (T.13 u o);have Y:lo<=↑w:=aX T.2 (eZ T.1.lt);obtain⟨va,bm,ar⟩:=T.3.1.slice;have ag:=T.1;have P:=T.3;rw[ar]at ag P;obtain⟨ta,ax,B⟩:=Rd.slice ((T.10 w (aH _ _)).2 u o).1;refine calls_of_wp (fq func34 R) (c:=rJ) R ?_;rw[TW,ntmps34];obtain⟨a0,a1,a2⟩:=args2 (pm (N ⟨kb,0,X⟩)) (ox pg n) 140;have J:∀(ah:Array po)(G:pn),EW c (U (N ⟨ug,hd,X⟩) (M ps) ha) hh u.1 (cs.map p9) (bs.map p9) Zn kb lo n w (qs (sh #[])) G->bodyPost PQ YH (EW c (U (N ⟨ug,hd,X⟩) (M ps) ha) hh u.1 (cs.map p9) (bs.map p9) Zn kb lo n w) .normal ⟨ah,[]⟩ G:=λah G A=>⟨R,sh #[],results_none R _ _ _,A⟩
 generalize ai:bodyPost PQ YH (EW c (U (N ⟨ug,hd,X⟩) (M ps) ha) hh u.1 (cs.map p9) (bs.map p9) Zn kb lo n w)=Q at J⊢;clear ai;refine ud (OE (kb:=kb) (n:=n) ⟨a0,a1,a2⟩ λbc h0 F=>?_)
 show(qv tk1 _).wp _ _ _ _
 refine ud (P4 h0 F ag P T.6 aA ⟨aA,aA⟩ (by have:=T.4.1;omega) λbd r D E w1 h1 F hr aa ao v=>?_)
 show(qv We _).wp _ _ _ _
 have p:=T.1.fF v;refine ud (Pr h1 F p λbf h2=>?_)
 show(qv V7 _).wp _ _ _ _
 obtain⟨w2,e⟩:∃w2,w2=w1.setCell ⟨kb,8,X⟩ (U D (M r) E):=⟨_,R⟩
 rw[<-e];have W:fN [89] w w2:=by rw[e];exact(fN.fF _ v).trans (fN.set p aC _ _)
 have K:Below lo w w2:=by rw[e];exact(o5 v Y).setCell (p:=⟨kb,8,X⟩) T.2 _
 have ae:gq w2 kb c (U (N ⟨ug,hd,X⟩) (M ps) ha) (U D (M r) E) vwa hh:=by rw[e];exact p.lY _
 have ab:r.Sublist cs:=by rw[hr];exact List.filter_sublist
 have aj:iH w2 lo (U D (M r) E) r:=by
  refine⟨Gp ?_ (λg a=>aX Y (ao g a)),λm j=>(T.3.2 m (ab.subset j)).keeps W aB⟩;rw[e];exact aa.gE (fT.set w1 kb 8 _) (λt A a=>fK aa p aB (by rw[A,a]))
 clear e;obtain⟨-,-,m2,-⟩:=(T.10 w2 K).get hu;rw[B]at m2;refine ud (Q3 h2 (by rw[ae.cell];rfl) hn m2 λbg h3 t6=>?_)
 show(qv (qv VC _) _).wp _ _ _ _
 refine ud (ud (Rw h3 t6 λay h4=>?_))
 show(Yj 2 _).wp _ _ _ _
 refine Y5 (mN (λk H b=>∃(a:Array po)(i:Nat)(s:po)(d:List (Ch×po)),H=⟨a,[]⟩/\k=M u.1.3-i/\i<=M u.1.3/\Oo a kb n (U ta (M u.1.3) ax) i/\gq b kb c (U (N ⟨ug,hd,X⟩) (M ps) ha) s vwa hh/\iH b lo s d/\oG (Zn+222*i) c.7 d/\d.map p9=(Dv.heard c (u.1.3.take i)).foldl (Dv.frame c.7 n) (r.map p9)/\Below lo w b/\fN [89] w b) ⟨_,ay,0,_,r,R,R,bU _,h4,ae,aj,T.4.sub ab,by simp[Dv.heard],K,W⟩ ?_);rintro k H b ⟨bl,i,s,d,rfl,rfl,hi,aq,q,S,l,V,y,z⟩;refine ud (ud (Pc aq λbh h av=>?_))
 show(Yh (sn 63) .skip (.exit 2)).wp _ _ _ _
 refine Y9 (t:=decide (i<M u.1.3)) (by simp[p7,cS,av]) ?_;have an:lo<=↑b:=aX T.2 (eZ q.lt);by_cases f:i<M u.1.3
 .rw[Ze f];refine ZD ?_
  show(qv (Yj 3 _) Jg).wp _ _ _ _
  have C:=((T.10 b y).2 u o).1;rw[B]at C;obtain⟨g,bb,a3,ad,-⟩:=Rd.pos C aA;simp only[ry,true_and]at ad;obtain⟨rfl,rfl⟩:=ad;obtain⟨t,m⟩:∃t,u.1.3[i]? =N t:=⟨_,aK f⟩
  have a8:Dv.heard c (u.1.3.take (i+1))=Dv.heard c (u.1.3.take i)++jQ c t:=by
   obtain⟨g1,g2⟩:=aJ.1 m;unfold Dv.heard;rw[cO g1,g2,dU];simp
  obtain⟨e0,e1,-⟩:=ny.get C m;have ap:=au t (aS m);refine ud (Y5 (ud (MQ (B:=decide (t.2=c.1/\t.1=c.2)) h q f aA e0 e1 (by grind) λbj w6 I aw j=>?_)))
  show(Yh (sn 89) VO .skip).wp _ _ _ _
  have af:=q.fF j;have L:=S.keeps (fN.fF [] j) aC aC;have x:=ow y (o5 j an);have Q:=z.trans (fN.fF [89] j);refine Y9 (t:=decide (t.2=c.1/\t.1=c.2)) (by simp[p7,cS,aw]) ?_;by_cases a:t.2=c.1/\t.1=c.2
  .rw[Ze a];have ac:=((T.10 w6 x).2 u o).1;rw[B]at ac;obtain⟨-,-,e2⟩:=ny.get ac m
   have am:(Fr.frames (ZK t.3.toArray).1.1).getD []=jQ c t:=by
    unfold jQ;rw[Zb a]
   have a6:M (jQ c t)<=222:=pA c t ap;refine Q6 I af T.2 L l aA aA f aA e2 (by have a4:(ZK t.3.toArray).size=M t.3:=R;omega) am λbk w7 v7 c7 h7 q1 q2 q3 q4 q5 q6=>?_
   show Jg.wp _ _ _ _
   refine Eb h7 aA λaz h8=>?_;exact⟨M u.1.3-(i+1),aA,az,i+1,v7,c7,R,R,aA,h8,q1,q2,q3.mono aA,by grind,ow x q5,Q.trans q6⟩
  .rw[Zd a];refine ZD ?_
   show Jg.wp _ _ _ _
   refine Eb I aA λac h8=>?_;have am:jQ c t=[]:=by unfold jQ;rw[Za a]
   exact⟨M u.1.3-(i+1),aA,ac,i+1,s,d,R,R,aA,h8,af,L,l.mono aA,by grind,x,Q⟩
 .rw[Zd f];refine wp_exit ?_
  show(Yj 6 _).wp _ _ _ _
  have x:i=M u.1.3:=aA
  subst x;rw[eD]at V;have I:=T.7.keeps z aB aB;refine ON (Zn:=Zn+4440) (m:=1099511627776) (cs:=d) (bs:=bs) ⟨h.1,h.2,h.3⟩ T.2 ak aA aA ⟨q,S,l.mono aA,I,by have:=l.1;omega,⟨R,R⟩,aH _ _,fN.refl _ _⟩ λad w7 Q vb t m h7 a C=>?_;refine J _ _ ⟨R,Q,t,vb,m,a.1,a.2,a.3,a.4,?_,ow y a.7,(z.mono aC).trans a.8⟩;have j:=a.6;rw[C]at j;rw[V,hr]at j;unfold Dv.take;dsimp only;rw[List.filter_map,show((λac:Ch=>decide ((n:Int)-(ac.2:Int)<=c.3))∘p9)=(λL:Ch×po=>decide ((n:Int)-(L.1.2:Int)<=c.3)) from R,<-j.2,j.1];simp
end
end
open Dv (Zq)
section
variable {wait:List Ba}{h:Lo}{Zs:List Lo×List Ba}{f:Nat}
def Ti(h:Lo):=h.5<=h.1/\0<=h.2/\h.2<=1000000+20*(h.1:Int)
theorem qJ(a c f):(Dv.joined a c f).2=c.2:=by
 unfold Dv.joined
 grind
theorem qB{b n}:∀(l:List Fr.F)(cs),(∀y∈cs,y.2<=n)->∀x,x∈l.foldl (Dv.frame b n) cs->x.2<=n
 |[],_,h=>h
 |f::l,cs,h=>qB l _ λx a=>by
  obtain a|⟨c,hc,rfl⟩|rfl:=AC a
  .exact h x a
  .rw[qJ];exact h c hc
  .rw[qJ];exact Nat.le_refl n
theorem E0:∀(cs x),x∈(Dv.pull cs).2->x∈cs
 |[],_,h=>by simp[Dv.pull]at h
 |c::cs,x,h=>by
  unfold Dv.pull at h;split at h
  .exact h
  .exact bK _ (E0 cs x h)
theorem Df{c u n cs}(h:∀y∈cs,y.2<=n):∀x,x∈(Dv.take c u n cs wait).1->x.2<=n:=λx a=>
 qB _ _ (λy b=>h y (dD.1 b).1) x (E0 _ x a)
section
variable {c:Cf}{chain:List Zq}{n:Nat}
theorem Nz{x k}(a:Dv.draw c chain n h wait=(N x,k)):∃E t,x=Dv.lay c chain n h E t:=by
 unfold Dv.draw at a
 grind
theorem KI:∀b,b∈(Dv.draw c chain n h wait).2->b∈wait:=λb a=>by
 unfold Dv.draw at a;simp only at a;split at a
 .exact pG c chain n _ _ _ _ a
 .exact pG c chain n _ _ _ _ a
 .split at a<;>exact pG c chain n _ _ _ _ a
structure PP(c:Cf)(chain:List Zq)(n:Nat)(Zs:List Lo×List Ba)(bs:List PW)(ls:List PL)(p:PL)(m:Bool)(f:Nat):Prop where
 last:ls[M ls-1]? =N p
 ti:Ti p.1
 ep:p.1.3<=n
 num:p.1.1+1=M ls
 few:M ls+Dv.left chain n p.1 (bs.map p9)<=4294967296
 bt:∀q∈bs,q.1.1<=n
 on:m=pw->Dv.left chain n p.1 (bs.map p9)<f/\Zs=(ls.map p9++(Dv.draws c chain n f p.1 (bs.map p9)).1,(Dv.draws c chain n f p.1 (bs.map p9)).2)
 off:m=pi->Zs=(ls.map p9,bs.map p9)
theorem PP.next{bs bs' ls ls' p b}(hc:gB chain=pw)(j:fR c=pw)(u:n<M chain)(I:PP c chain n Zs bs ls p pw f)(h:yK c chain n p.1 bs bs' ls ls' b):∃p' a,PP c chain n Zs bs' ls' p' b a/\(b=pw->a<f):=by
 obtain⟨t,s⟩:=I.7 R;have l:=j;unfold fR at l;simp only[Zh]at l;obtain⟨a,rfl⟩:∃a,f=a+1:=⟨f-1,aA⟩
 have g:=KI (c:=c) (chain:=chain) (n:=n) (h:=p.1) (wait:=bs.map p9);have r:=EY c chain n p.1 (bs.map p9);have m:=I.5;unfold yK at h;cases d:Dv.draw c chain n p.1 (bs.map p9)with
 |mk o k=>
  rw[d]at h g r;dsimp only at g r;rw[Dv.draws,d]at s
  have i:bs'.map p9=k->∀q∈bs',q.1.1<=n:=λe q B=>by
   obtain⟨v,k,o⟩:=bB.1 (g q.1 (by grind));rw[<-o];exact I.6 v k
  cases o with
  |none=>
   obtain⟨rfl,rfl,e⟩:=h;refine⟨p,0,⟨I.1,I.2,I.3,I.4,?_,i e,λh=>by simp at h,λ_=>?_⟩,λh=>by simp at h⟩
   .rw[e];unfold Dv.left at m⊢;omega
   grind
  |some x=>
   obtain⟨rfl,⟨q,rfl,rfl⟩,e⟩:=h;obtain⟨v,w,k,x,y,-,-,z⟩:=pQ c chain n hc j u I.3 d;obtain⟨D,F,G⟩:=I.2;have A:=I.4;refine⟨q,a,⟨aC,⟨?_,aA,aA⟩,k,aD,?_,i e,λ_=>⟨?_,?_⟩,λh=>by simp at h⟩,λ_=>Nat.lt_succ_self _⟩
   .obtain⟨E,C,o⟩:=Nz d;rw[o];unfold Dv.lay
    grind
   .rw[e];unfold Dv.left at m⊢
    grind
   .rw[e];unfold Dv.left at t⊢;omega
   grind
structure SB(c:Cf)(chain:List Zq)(n:Nat)(cs:List (Ch×po))(bs:List PW)(ls:List PL)(p:PL):Prop where
 chs:cs.map p9=(Dv.gone c chain n).1
 wait:bs.map p9=(Dv.gone c chain n).2
 log:ls.map p9=(Dv.gone c chain n).3
 last:ls[M ls-1]? =N p
 ti:Ti p.1
 op:∀x∈cs,x.1.2<=n
 bt:∀q∈bs,q.1.1<=n
theorem Rn{ls:List PL}{p}(h:ls[M ls-1]? =N p):(ls.map p9).getLastD default=p.1:=by grind
section
variable {cs cs':List (Ch×po)}{bs bs':List PW}{ls ls':List PL}{p p':PL}
theorem SB.few(hc:gB chain=pw)(a:fR c=pw)(b:n<=M chain)(I:SB c chain n cs bs ls p):M bs<=4294967296:=by have F:=(lV hc a n b).5;unfold Dv.much at F;rw[<-I.2,aV]at F;have:=(gJ hc).2.1;omega
theorem SB.took(hc:gB chain=pw)(l:fR c=pw)(e:n<M chain)(I:SB c chain n cs bs ls p)(h:(cs'.map p9,bs'.map p9)=Dv.take c (chain[n]!) n (cs.map p9) (bs.map p9)):PP c chain n ((Dv.gone c chain (n+1)).3,(Dv.gone c chain (n+1)).2) bs' ls p pw (Dv.left chain n p.1 (bs'.map p9)+1)/\cs'.map p9=(Dv.gone c chain (n+1)).1/\∀x∈cs',x.1.2<=n:=by
 have F:=lV hc l n (eZ e);have f:=Rn I.4;have i:=F.2;have d:=F.4;have b:=F.5;unfold Dv.much at b;rw[<-I.3,f]at i d b;rw[<-I.1,<-I.2,aV,aV,aV]at b;rw[aV]at d;obtain⟨a,t,k,u,v⟩:=gJ hc;have r:=Dv.take_len c (chain[n]!) n (cs.map p9) (bs.map p9) (jq chain X k n e);rw[<-h,aV,aV,aV,aV]at r;have w:=mT hc (i:=n-1) (j:=n) aA e;refine⟨⟨I.4,I.5,aA,d,?_,λq m=>?_,λ_=>⟨Nat.lt_succ_self _,?_⟩,λh=>by simp at h⟩,?_,λx y=>?_⟩
 .unfold Dv.left
  grind
 .have o:q.1∈(Dv.take c (chain[n]!) n (cs.map p9) (bs.map p9)).2:=by rw[<-h];exact bB.2 ⟨q,m,R⟩
  obtain a|a:=xS o
  .obtain⟨s,j,g⟩:=bB.1 a;rw[<-g];exact I.7 s j
  .exact a.1
 .rw[Dv.gone];unfold Dv.step;dsimp only;rw[<-I.1,<-I.2,<-h,<-I.3,f]
 .rw[Dv.gone];unfold Dv.step;dsimp only;rw[<-I.1,<-I.2,<-h]
 .refine Df (c:=c) (u:=chain[n]!) (wait:=bs.map p9) (cs:=cs.map p9) (λz o=>?_) x.1 ?_
  .obtain⟨s,j,g⟩:=bB.1 o;rw[<-g];exact I.6 s j
  grind
theorem PP.done(I:PP c chain n ((Dv.gone c chain (n+1)).3,(Dv.gone c chain (n+1)).2) bs ls p pi f)(b:cs.map p9=(Dv.gone c chain (n+1)).1)(d:∀x∈cs,x.1.2<=n):SB c chain (n+1) cs bs ls p:=by have a:=I.8 R;simp only[bR]at a;exact⟨b,a.2.symm,a.1.symm,I.1,I.2,λx g=>qbj (d x g),λq e=>qbj (I.6 q e)⟩
theorem PP.L6{m}(I:PP c chain n Zs bs ls p m f)(a:n<60):wR p.1/\M ls<=4294967296/\M bs<=4294967296:=by have:=I.5;have:=I.4;have:=I.3;obtain⟨b,d,e⟩:=I.2;unfold Dv.left at *;rw[aV]at *;exact⟨⟨aA,aA,aA,aA,aA⟩,aA,aA⟩
end
end
end
open Dv (Zq)
section
variable {a:Array po}{Q:qaC->Act->pn->Prop}
theorem Tv:mg=qv Xm (qv VN (qv (qv VM (.cond (sn 16) VU .skip)) (qv (qv Wd (.cond (sn 24) Wt .skip)) (qv V0 (qv (qv VV (.block 0 (.loop (qv (qv Xp (.cond (sn 28) .skip (.exit 0))) (qv (.block 1 (qv Se (qv (qv Qk (.cond (sn 38) QL .skip)) PA))) Ux))))) (qv LM (qv IY (qv (qv Ls (.block 2 (.loop (qv (qv Pm (.cond (sn 73) .skip (.exit 2))) (qv (.block 3 (qv QM (qv ND (.block 4 (.loop (qv (qv PJ (.cond (sn 79) .skip (.exit 4))) (.block 5 Mq))))))) JQ))))) Lz)))))))):=rfl
def J3(c:Cf)(chain:List Zq)(w:pn)(e:Ending)(w':pn):=∃b a,e=qs (sh #[b,ox pg (Dv.all c chain).1])/\B6 w' ↑w b a/\a.map p9=(Dv.all c chain).2/\Below ↑w w w'
theorem B6.nil(w a):B6 w a (U X 0 0) []:=⟨fM.nil _ _ _,gh,aC⟩
section
variable {c:Cf}{ps:List PU}{w:pn}{va:Option zm}{vcap:Nat}
theorem Ri{cb d j i f}(v:fR c=pw)(iO:gB (ps.map p9)=pw)(h:Ij a (U (N ⟨d,j,X⟩) (M ps) i) cb)(hc:f.1[cb]? =N (pj (fP c) 24 (0,0)))(aq:iy w (U (N ⟨d,j,X⟩) (M ps) i) ps)(hb:Below ↑w w f)(hQ:∀(m:Array po)(l:po)(t:Int)(e:pn),m[4]? =N l->m[5]? =N (ox pg t)->J3 c (ps.map p9) w (qs (sh #[l,ox pg t])) e->Q .ret ⟨m,[]⟩ e):(qv LM (qv IY (qv (qv Ls (.block 2 (.loop (qv (qv Pm (.cond (sn 73) .skip (.exit 2))) (qv (.block 3 (qv QM (qv ND (.block 4 (.loop (qv (qv PJ (.cond (sn 79) .skip (.exit 4))) (.block 5 Mq))))))) JQ))))) Lz))).wp PQ Q ⟨a,[]⟩ f:=by
 have aj:=v;unfold fR at aj;simp only[Zh]at aj;obtain⟨am,ac,a1,-,-⟩:=gJ iO;rw[aV]at am ac
 have ae:∀u∈ps,Dv.small u.1=pw:=λu q=>by
  obtain⟨A,m,o⟩:=List.getElem_of_mem q;have:=jq _ X a1 A (by grind)
  grind
 have ab:∀{A:Nat}{u:PU},ps[A]? =N u->(ps.map p9)[A]! =u.1:=λq=>by grind
 have bc:∀u∈ps,0<=u.1.2/\u.1.2<=1001440:=λu q=>by
  obtain⟨A,m,o⟩:=List.getElem_of_mem q;have:=A4 iO (i:=A) (by grind)
  grind
 have hU:∀W,Below ↑w w W->iy W (U (N ⟨d,j,X⟩) (M ps) i) ps:=λW E=>aq.fF E;obtain⟨b,L⟩:∃u,ps[0]? =N u:=⟨_,aK aA⟩
 have F:=aS L;refine ud (K9 h ⟨_,_,_,R⟩ hc λb6 s1 t1 af=>?_)
 show(qv IY _).wp _ _ _ _
 obtain⟨w1,bg,az,z1⟩:=fL f (Bl c (U (N ⟨d,j,X⟩) (M ps) i) (U X 0 0) (U X 0 0) (U X 0 0)) 89;rw[<-bg];have K:↑w<=f.1.size:=hb.4;have bf:gq w1 ↑f c (U (N ⟨d,j,X⟩) (M ps) i) (U X 0 0) (U X 0 0) (U X 0 0):=z1;have y:=ow hb (o5 az K);have O:=hU w1 y;obtain⟨m0,m1,m2,m3⟩:=O.get L;rw[Nat.zero_mul,qaP]at m0 m1 m2 m3;obtain⟨xa,xc,bk⟩:=Rd.slice (O.2 b F).1;obtain⟨xl,b0,av⟩:=Rd.slice (O.2 b F).2.1
 have bd:d<↑w1:=by
  obtain⟨G,H,C,m,_,t,_⟩:=O.1.pos aA;simp only[ry,aI,Addr.mk.injEq,and_true,true_and]at m;rw[m.1.1];exact t
 have a6:d≠f.1.size:=by
  obtain⟨C,H,t,m,_,G,_⟩:=aq.1.pos aA;simp only[ry,aI,Addr.mk.injEq,and_true,true_and]at m;rw[m.1.1];omega
 obtain⟨b2,b3,b4,bj⟩:=lN (ae b F)
 have a5:∀V,Below ↑w1 w1 V->tf PQ 33 #[we #[ox pg b.1.1,ox pg b.1.2,U xa (M b.1.3) xc,U xl (M b.1.4) b0]] V λo e=>∃p P,o=qs (U p (M (fV b.1)) P)/\jk e V.1.size (U p (M (fV b.1)) P) (fV b.1)/\Below V.1.size V e:=λV hV=>by
  have m:=((hU V (ow y (o5 hV y.4))).2 b F).2.1;rw[av]at m;exact qE b.1.1 b.1.2 _ _ ⟨_,_,_,R⟩ b.1.4 V m aA (λt hx=>by have:=bj t hx;omega)
 rw[bk]at m2;rw[av]at m3;refine ud (KC (ds:=fV b.1) s1 t1 af bf am bd a6 m0 m1 m2 m3 a5 λb7 w2 l S T s1 t1 af bh bb a8 ao a0=>?_)
 show(qv (qv Ls _) _).wp _ _ _ _
 have a2:Below ↑w w w2:=ow y (o5 a0 K)
 have a7:B6 w2 ↑w l [(Dv.first b.1,U X 0 0,U S (M (fV b.1)) T)]:=⟨bb,λg hg=>aX y.4 (a8 g hg),λB hp=>by
  rw[bT.1 hp];exact⟨⟨fM.nil _ _ _,gh⟩,ao.1,λg hg=>aX y.4 (ao.2 g hg)⟩⟩
 have h0:SB c (ps.map p9) 0 [] [] [(Dv.first b.1,U X 0 0,U S (M (fV b.1)) T)] (Dv.first b.1,U X 0 0,U S (M (fV b.1)) T):=by
  have o:Dv.gone c (ps.map p9) 0=⟨[],[],[Dv.first b.1]⟩:=by rw[Dv.gone,Dv.start,ab L]
  have:=bc b F;have m:=gJ iO;rw[ab L]at m;exact⟨by rw[o];rfl,by rw[o];rfl,by rw[o];rfl,R,⟨fI,this.1,by unfold Dv.first;dsimp only;omega⟩,aC,aC⟩
 refine ud (ud (Ob s1 t1 af λbp h3=>?_))
 show(Yj 2 _).wp _ _ _ _
 refine Y5 (mN (λk p s=>∃(a:Array po)(n:Nat)(ag D l:po)(I:List (Ch×po))(x:List PW)(r:List PL)(B:PL),p=⟨a,[]⟩/\k=M ps-n/\n<=M ps/\E4 a (U (N ⟨d,j,X⟩) (M ps) i) ↑f n/\gq s ↑f c (U (N ⟨d,j,X⟩) (M ps) i) ag D l/\iH s ↑w ag I/\oG (4440*n) c.7 I/\CX s ↑w D x/\B6 s ↑w l r/\SB c (ps.map p9) n I x r B/\Below ↑w w s) ⟨_,bp,0,_,_,l,[],[],_,_,R,R,bU _,h3,bh,iH.nil _ _,⟨aC,aC,λc hc=>by simp at hc⟩,⟨fM.nil _ _ _,gh,aC⟩,a7,h0,a2⟩ ?_);rintro k p s ⟨cc,n,ag,D,ah,I,x,r,B,rfl,rfl,hn,hx,au,a4,ba,ay,ad,J,aa⟩;refine ud (ud (Na hx λb8 h4 bm=>?_))
 show(Yh (sn 73) .skip (.exit 2)).wp _ _ _ _
 refine Y9 (t:=decide (n<M ps)) (by simp[p7,cS,bm]) ?_;by_cases z:n<M ps
 .rw[Ze z];refine ZD ?_
  show(qv (Yj 3 _) JQ).wp _ _ _ _
  obtain⟨u,q⟩:∃u,ps[n]? =N u:=⟨_,aK z⟩
  have an:n<M (ps.map p9):=by rw[aV];exact z
  have b1:=J.few iO v aA;have ar:∀W,Below ↑w s W->iy W (U (N ⟨d,j,X⟩) (M ps) i) ps:=λW E=>hU W (ow aa E);have ap:=I0 (Zn:=4440*n) ⟨au,K,a4,ba,aA,J.6,ay,aA,v,ar,z,ac,ae⟩ q;unfold EW at ap;refine ud (Y5 (ud (Mb h4 ap λb9 w5 h5 hr=>?_)));obtain⟨v5,c5,b5,d5,q1,q2,q3,q4,q5,q6,q7⟩:=hr
  show(qv ND _).wp _ _ _ _
  rw[<-ab q]at q5;obtain⟨hD,a3,a9⟩:=J.took iO v an q5;refine ud (Nq h5 λbq h6 G=>?_)
  show(Yj 4 _).wp _ _ _ _
  refine Y5 (mN (λk p t=>∃(a:Array po)(D l:po)(x:List PW)(r:List PL)(B:PL)(m:Bool)(Y:Nat),p=⟨a,[]⟩/\k=(if m=pw then Y+1 else 0)/\E4 a (U (N ⟨d,j,X⟩) (M ps) i) ↑f n/\a[12]? =N (.bool m)/\gq t ↑f c (U (N ⟨d,j,X⟩) (M ps) i) v5 D l/\CX t ↑w D x/\B6 t ↑w l r/\PP c (ps.map p9) n ((Dv.gone c (ps.map p9) (n+1)).3,(Dv.gone c (ps.map p9) (n+1)).2) x r B m Y/\Below ↑w s t/\fN [89,127,62] w5 t) ⟨_,bq,b5,ah,d5,r,B,pw,_,R,R,h6,G,q1,q4,ad.keeps q7 aB aB,hD,q6,fN.refl _ _⟩ ?_);rintro k p t ⟨cd,bx,bw,bz,lz,pz,m,Y,rfl,rfl,hz,G,r1,r2,r3,C,r5,r6⟩;refine ud (ud (Mj hz G λca h7 bo=>?_))
  show(Yh (sn 79) .skip (.exit 4)).wp _ _ _ _
  refine Y9 (t:=m) (by simp[p7,cS,bo]) ?_;cases m with
  |true=>
   refine ZD ?_
   show(Yj 5 Mq).wp _ _ _ _
   obtain⟨bu,f1,f2⟩:=C.L6 aA
   have ak:=Ji ⟨r1,K,r2,r3,C.1,bu,f1,aA,λbl hq=>by have:=C.6 bl hq;omega,v,λW E=>ar W (ow r5 E),z,ac,C.3,λu q=>by
    obtain⟨-,y2,-,y4⟩:=lN (ae u q)
    grind⟩
   unfold sJ at ak;refine Y5 (K6 (Zs:=λH e=>∃v' ax ai aw,gq e ↑f c (U (N ⟨d,j,X⟩) (M ps) i) v5 v' ax/\CX e ↑w v' ai/\B6 e ↑w ax aw/\yK c (ps.map p9) n pz.1 bz ai lz aw H/\Below ↑w t e/\fN [89,127,62] t e) h7 (aO ak λo e=>?_) λbr w8 H h8 G hR=>?_)
   .simp
   .obtain⟨v',bv,ai,ax,y1,y2,y3,y4,y5,y6⟩:=hR;obtain⟨p',f',aw,hf⟩:=C.next iO v an y4;refine⟨(if H=pw then f'+1 else 0),?_,br,v',bv,ai,ax,p',H,f',R,R,h8,G,y1,y2,y3,aw,ow r5 y5,r6.trans y6⟩
    grind
  |false=>
   refine wp_exit ?_
   show JQ.wp _ _ _ _
   refine Kq h7 aA λai H=>?_;exact⟨M ps-(n+1),aA,ai,n+1,v5,bx,bw,c5,bz,lz,pz,R,R,aA,H,r1,q2.keeps r6 aB aB,q3.mono aA,r2,r3,C.done a3 a9,ow aa r5⟩
 .rw[Zd z];refine wp_exit ?_
  show Lz.wp _ _ _ _
  have m:n=M ps:=aA
  subst m;refine LQ (vl:=ah) h4 (by rw[au.cell];rfl) ?_ λG t C=>?_
  .obtain⟨p,P,o⟩:=ad.1.slice;exact⟨_,_,_,o⟩
  .refine hQ _ _ _ _ t C ⟨ah,r,?_,ad,?_,aa⟩
   .unfold Dv.all
    grind
   .unfold Dv.all;rw[v,iO,J.3,aV];rfl
end
end
end Hm
namespace Hm
open Go.RowKit Go.Joins Go.Shelf
open Dv (Zq)
open Fr (fG)
variable {Zs:pn->Prop}{g b l tc n lc m a e f on:Nat}{o p:Int}{ta la k:Option zm}{xs:List po}{d:po}
noncomputable def lL:vy:=match xz.9 with
 |some c=>c
 |_=>.ret
noncomputable def as0:vy:=cq [0] lL
noncomputable def VZ:vy:=cq [1,0] lL
noncomputable def Wa:vy:=cq [1,1,0] lL
noncomputable def VE:vy:=cq [1,1,1,0,0] lL
noncomputable def Wh:vy:=cq [1,1,1,0,1,4,5,0,0] lL
noncomputable def Wp:vy:=cq [1,1,1,0,1,4,5,1,1] lL
noncomputable def VB:vy:=cq [1,1,1,0,1,4,5,1,0,4,0] lL
noncomputable def Vy:vy:=cq [1,1,1,0,1,4,5,1,0,4,1,0,0] lL
noncomputable def U6:vy:=cq [1,1,1,0,1,4,5,1,0,4,1,0,1,4,5,0,0] lL
noncomputable def NM:vy:=cq [1,1,1,0,1,4,5,1,0,4,1,0,1,4,5,1,0,4,0] lL
noncomputable def Ms:vy:=cq [1,1,1,0,1,4,5,1,0,4,1,0,1,4,5,1,0,4,1] lL
noncomputable def T9:vy:=cq [1,1,1,0,1,4,5,1,0,4,1,0,1,4,5,1,1] lL
noncomputable def Qs:vy:=cq [1,1,1,0,1,4,5,1,0,4,1,1,0] lL
noncomputable def Rj:vy:=cq [1,1,1,0,1,4,5,1,0,4,1,1,1,0] lL
noncomputable def Tn:vy:=cq [1,1,1,0,1,4,5,1,0,4,1,1,1,1,0] lL
noncomputable def Ks:vy:=cq [1,1,1,0,1,4,5,1,0,4,1,1,1,1,1,0] lL
noncomputable def Jy:vy:=cq [1,1,1,0,1,4,5,1,0,4,1,1,1,1,1,1,0,0] lL
noncomputable def QE:vy:=cq [1,1,1,0,1,4,5,1,0,4,1,1,1,1,1,1,0,1,2] lL
noncomputable def I9:vy:=cq [1,1,1,0,1,4,5,1,0,4,1,1,1,1,1,1,1,1,0] lL
noncomputable def JP:vy:=cq [1,1,1,0,1,4,5,1,0,4,1,1,1,1,1,1,1,1,1,0,0] lL
noncomputable def Qg:vy:=cq [1,1,1,0,1,4,5,1,0,4,1,1,1,1,1,1,1,1,1,0,1,2] lL
noncomputable def J2:vy:=cq [1,1,1,0,1,4,5,1,0,4,1,1,1,1,1,1,1,1,1,1,0] lL
noncomputable def Jz:vy:=cq [1,1,1,0,1,4,5,1,0,4,1,1,1,1,1,1,1,1,1,1,1,0] lL
noncomputable def JB:vy:=cq [1,1,1,0,1,4,5,1,0,4,1,1,1,1,1,1,1,1,1,1,1,1,0] lL
noncomputable def O1:vy:=cq [1,1,1,0,1,4,5,1,0,4,1,1,1,1,1,1,1,1,1,1,1,1,1,2] lL
noncomputable def asS:vy:=cq [1,1,1,0,1,4,5,1,0,4,1,1,1,1,1,1,1,0] lL
noncomputable def NV:vy:=cq [1,1,1,1,0] lL
structure As(tm:Array po)(vc:po)(cb kb:Nat)(vw:po)(er:Int)(i:Nat):Prop where
 size:qd tm=127
 s1:tm[1]? =N vc
 s2:tm[2]? =N (pm (N ⟨cb,0,X⟩))
 s5:tm[5]? =N (pm (N ⟨kb,0,X⟩))
 s6:tm[6]? =N vw
 s7:tm[7]? =N (ox pg er)
 s8:tm[8]? =N (ox pg i)
def Hl:Array po:=#[ox pg 0,U X 0 0,U X 0 0,U X 0 0,U X 0 0,U X 0 0,U X 0 0,U X 0 0,U X 0 0]
theorem Ew:(PQ.info? 42).map (λi=>(i.8,i.3,i.4))=N (N (we #[ox pg 0,ox pg 0,U X 0 0,U X 0 0]),4,64):=Zm
attribute [local go_sem] vk vD uF uZ Array.size_setIfInBounds Array.getElem_setIfInBounds_ne Array.getElem_setIfInBounds_self
section
variable {tm:Array po}{w:pn}{vc vw vo:po}{va:Option zm}{cb kb vn vcap i j:Nat}{c:Cf}{er:Int}{Q:qaC->Act->pn->Prop}
theorem Qc(b:qd tm=127)(d:tm[0]? =N (.agg (fP c)))(t1:tm[1]? =N vc)(hK:∀a,qd a=127->a[1]? =N vc->a[2]? =N (pm (N ⟨↑w,0,X⟩))->Q .normal ⟨a,[]⟩ (o6 w (pj (fP c) 24))):as0.wp PQ Q ⟨tm,[]⟩ w:=by unfold fP at *;have a:qu _:=hK;clear hK;simp only[as0,lL,cq,xz];go_wp2;exact a _ hw hw hw
theorem Pb(b:qd tm=127)(t1:tm[1]? =N vc)(c:tm[2]? =N (pm (N ⟨cb,0,X⟩)))(hK:∀a,qd a=127->a[1]? =N vc->a[2]? =N (pm (N ⟨cb,0,X⟩))->a[5]? =N (pm (N ⟨↑w,0,X⟩))->Q .normal ⟨a,[]⟩ (o6 w (pj Hl 34))):VZ.wp PQ Q ⟨tm,[]⟩ w:=by unfold Hl at *;have a:qu _:=hK;clear hK;simp only[VZ,lL,cq,xz];go_wp2;exact a _ hw hw hw hw
theorem Ow{Zs:po->Int->pn->Prop}(o:qd tm=127)(t1:tm[1]? =N vc)(p:tm[2]? =N (pm (N ⟨cb,0,X⟩)))(q:tm[5]? =N (pm (N ⟨kb,0,X⟩)))(hc:w.1[cb]? =N (pj (fP c) 24 (0,0)))(b:tf PQ 10 #[.agg (fP c),vc] w λe d=>∃a er,e=qs (sh #[a,ox pg er])/\Zs a er d)(hK:∀a d vw er,qd a=127->a[1]? =N vc->a[2]? =N (pm (N ⟨cb,0,X⟩))->a[5]? =N (pm (N ⟨kb,0,X⟩))->a[6]? =N vw->a[7]? =N (ox pg er)->Zs vw er d->Q .normal ⟨a,[]⟩ d):Wa.wp PQ Q ⟨tm,[]⟩ w:=by
 unfold fP at *;obtain⟨g,h,i,j,k,l,m⟩:=rD hc;have f:qu _:=λ(_:Unit)=>b;have d:qu _:=hK;clear hK b hc;simp only[Wa,lL,cq,xz];go_wp2_with (go_at_call 10;refine aO (f ()) ?_;rintro n w2 ⟨r,er,rfl,a⟩;have e:qu _:=a;clear a)
 exact d _ _ _ _ hw hw hw hw hw hw e.out
theorem Qy(b:qd tm=127)(t1:tm[1]? =N vc)(c:tm[2]? =N (pm (N ⟨cb,0,X⟩)))(d:tm[5]? =N (pm (N ⟨kb,0,X⟩)))(e:tm[6]? =N vw)(f:tm[7]? =N (ox pg er))(hK:∀a,As a vc cb kb vw er 0->Q .normal ⟨a,[]⟩ w):VE.wp PQ Q ⟨tm,[]⟩ w:=by have a:qu _:=hK;clear hK;simp only[VE,lL,cq,xz];go_wp2;exact a _ hc
theorem Hp(h:As tm vc cb kb vw er i)(hK:∀a,As a vc cb kb vw er i->a[28]? =N (rh (decide (i<2)))->Q .normal ⟨a,[]⟩ w):Wh.wp PQ Q ⟨tm,[]⟩ w:=by obtain⟨b,c,d,e,f,g,j⟩:=h;have a:qu _:=hK;clear hK;simp only[Wh,lL,cq,xz];go_wp2;exact a _ hc (by simp[*];omega)
theorem QC(h:As tm vc cb kb vw er i)(b:i<2)(hK:∀a,As a vc cb kb vw er (i+1)->Q .normal ⟨a,[]⟩ w):Wp.wp PQ Q ⟨tm,[]⟩ w:=by obtain⟨c,d,e,f,g,j,k⟩:=h;have a:qu _:=hK;clear hK;simp only[Wp,lL,cq,xz];go_wp2;exact a _ hc
theorem O3(h:As tm vc cb kb vw er i)(hK:∀a,As a vc cb kb vw er i->a[9]? =N (U X 0 0)->Q .normal ⟨a,[]⟩ w):VB.wp PQ Q ⟨tm,[]⟩ w:=by obtain⟨b,c,d,e,f,g,j⟩:=h;have a:qu _:=hK;clear hK;simp only[VB,lL,cq,xz];go_wp2;exact a _ hc hw
theorem QU(h:As tm vc cb kb vw er i)(k:tm[9]? =N vo)(hK:∀a,As a vc cb kb vw er i->a[9]? =N vo->a[10]? =N (ox pg ((0:Nat):Int))->Q .normal ⟨a,[]⟩ w):Vy.wp PQ Q ⟨tm,[]⟩ w:=by obtain⟨b,c,d,e,f,g,j⟩:=h;have a:qu _:=hK;clear hK;simp only[Vy,lL,cq,xz];go_wp2;exact a _ hc hw hw
theorem OS(h:As tm (U va vn vcap) cb kb vw er i)(m:tm[9]? =N vo)(d:tm[10]? =N (ox pg j))(hK:∀a,As a (U va vn vcap) cb kb vw er i->a[9]? =N vo->a[10]? =N (ox pg j)->a[34]? =N (rh (decide (j<vn)))->Q .normal ⟨a,[]⟩ w):U6.wp PQ Q ⟨tm,[]⟩ w:=by obtain⟨b,c,e,f,g,k,l⟩:=h;have a:qu _:=hK;clear hK;simp only[U6,lL,cq,xz];go_wp2;exact a _ hc hw hw hw
theorem Lj{Zs:zm->Nat->zm->Nat->pn->Prop}(h:As tm (U (N ⟨g,b,X⟩) vn vcap) cb kb vw er i)(I:tm[9]? =N vo)(C:tm[10]? =N (ox pg j))(t:j<vn)(x:Z w ⟨g,b+j*4,X⟩=N (ox pg o))(y:Z w ⟨g,b+j*4+1,X⟩=N (ox pg p))(z:Z w ⟨g,b+j*4+2,X⟩=N (U ta l tc))(A:Z w ⟨g,b+j*4+3,X⟩=N (U la n lc))(m:tf PQ 11 #[we #[ox pg o,ox pg p,U ta l tc,U la n lc]] w λf k=>∃a d c e,f=qs (we #[ox pg o,ox pg p,U (N a) l d,U (N c) n e])/\Zs a d c e k)(hK:∀a c d f e k,As a (U (N ⟨g,b,X⟩) vn vcap) cb kb vw er i->a[9]? =N vo->a[10]? =N (ox pg j)->a[11]? =N (pm (N ⟨c.1.size,0,X⟩))->Zs d f e k c->Q .normal ⟨a,[]⟩ (o6 c (pj #[ox pg o,ox pg p,U (N d) l f,U (N e) n k] 42))):NM.wp PQ Q ⟨tm,[]⟩ w:=by
 obtain⟨v,B,D,E,F,G,H⟩:=h;have u:(j:Int)<vn:=aA
 have e:qu _:=λ(_:Unit)=>m;have c:qu _:=hK;clear hK m;simp only[NM,lL,cq,xz];go_wp2_with (go_at_call 11;refine aO (e ()) ?_;rintro s w2 ⟨f,q,k,r,rfl,a⟩;have d:qu _:=a;clear a)
 exact c _ _ _ _ _ _ hc hw hw hw d.out
theorem MR{D r s f q}(h:As tm vc cb kb vw er i)(O:tm[9]? =N (U k m a))(F:tm[10]? =N (ox pg j))(G:tm[11]? =N (pm (N ⟨D,0,X⟩)))(x:w.1[D]? =N (pj #[ox pg o,ox pg p,U (N f) l r,U (N q) n s] 42 (0,0)))(y:fM w 42 4 (U k m a) m xs)(hm:m<=4294967296)(hK:∀c d Zr g b e,As c vc cb kb vw er i->c[9]? =N (U (N ⟨g,b,X⟩) (m+1) e)->c[10]? =N (ox pg j)->Below ↑w w Zr->fM d 42 4 (U (N ⟨g,b,X⟩) (m+1) e) (m+1) (xs++[ox pg o,ox pg p,U (N f) l r,U (N q) n s])->jC (U k m a) g Zr d->Q .normal ⟨c,[]⟩ d):Ms.wp PQ Q ⟨tm,[]⟩ w:=by
 obtain⟨d,E,H,I,J,K,L⟩:=h;obtain⟨V,rfl,d⟩:=jg d
 iterate 127 (obtain⟨_,V,rfl,c⟩:=je d;clear d;have d:=c;clear c)
 obtain rfl:=tt.1 d;clear d;simp only[cN,cM,cG,aI]at E H I J K L O F G;subst E H I J K L O F G;obtain⟨T,v,A,B,C⟩:=yk Ew;have e:qu _:=fE v (fE A (fE B C));have S:qu (∀g,fM (o6 w g) 42 4 (U k m a) m xs):=λg=>y.fF ((aH _ w).alloc fI g);obtain⟨W,Y,aa,c3⟩:=iP x;have P:qu _:=hK;clear hK y x v A B C;simp only[Ms,lL,cq,xz];go_wp2_with (at_builtin;refine fX _ R (sn 42) (sn 44) 25 R 42 T _ 4 64 (uq qaY) e.1 e.2.1 e.2.2.1 e.2.2.2 R aB (U k m a) m xs R (S _) ⟨↑w,0,X⟩ 1 1 [ox pg o,ox pg p,U (N f) l r,U (N q) n s] R aB R (by intro j ad c;match j,c with|0,c=>(simp at c;subst c;simp[sf])|1,c=>(simp at c;subst c;simp[sf])|2,c=>(simp at c;subst c;simp[sf])|3,c=>(simp at c;subst c;simp[sf])) (by intro ad c;simp at c;rcases c with rfl|rfl|rfl|rfl<;>rfl) aE aA ?_;intro g3 ac ab w3 z u;have t:qu _:=fE z u;clear z u)
 exact P _ _ _ _ _ _ ⟨R,R,R,R,R,R,R⟩ R R ((aH _ w).alloc fI _) t.1 t.2
theorem OV(h:As tm vc cb kb vw er i)(n:tm[9]? =N vo)(e:tm[10]? =N (ox pg j))(b:j<4294967296)(hK:∀a,As a vc cb kb vw er i->a[9]? =N vo->a[10]? =N (ox pg ((j+1:Nat):Int))->Q .normal ⟨a,[]⟩ w):T9.wp PQ Q ⟨tm,[]⟩ w:=by obtain⟨c,d,f,g,k,l,m⟩:=h;have a:qu _:=hK;clear hK;simp only[T9,lL,cq,xz];go_wp2;exact a _ hc hw hw
theorem NJ(h:As tm vc cb kb vw er i)(A:tm[9]? =N (U k m a))(n:fM w 42 4 (U k m a) m xs)(H:m<=4294967296)(hK:∀c d Zr g b e,As c vc cb kb vw er i->c[9]? =N (U (N ⟨g,b,X⟩) (m+1) e)->Below ↑w w Zr->fM d 42 4 (U (N ⟨g,b,X⟩) (m+1) e) (m+1) (xs++[ox pg 77,ox pg 0,U X 0 0,U X 0 0])->jC (U k m a) g Zr d->Q .normal ⟨c,[]⟩ d):Qs.wp PQ Q ⟨tm,[]⟩ w:=by
 obtain⟨d,t,u,v,x,y,z⟩:=h;obtain⟨E,rfl,d⟩:=jg d
 iterate 127 (obtain⟨_,E,rfl,c⟩:=je d;clear d;have d:=c;clear c)
 obtain rfl:=tt.1 d;clear d;simp only[cN,cM,cG,aI]at t u v x y z A;subst t u v x y z A;obtain⟨D,l,q,r,s⟩:=yk Ew;have e:qu _:=fE l (fE q (fE r s));have C:qu (∀o,fM (o6 w o) 42 4 (U k m a) m xs):=λo=>n.fF ((aH _ w).alloc fI o);have B:qu _:=hK;clear hK n l q r s;simp only[Qs,lL,cq,xz];go_wp2_with (at_builtin;refine fX _ R (sn 46) (sn 48) 25 R 42 D _ 4 64 (uq qaY) e.1 e.2.1 e.2.2.1 e.2.2.2 R aB (U k m a) m xs R (C _) ⟨↑w,0,X⟩ 1 1 [ox pg 77,ox pg 0,U X 0 0,U X 0 0] R aB R (by intro j J c;match j,c with|0,c=>(simp at c;subst c;simp[sf])|1,c=>(simp at c;subst c;simp[sf])|2,c=>(simp at c;subst c;simp[sf])|3,c=>(simp at c;subst c;simp[sf])) (by intro j c;simp at c;rcases c with rfl|rfl|rfl|rfl<;>rfl) aE aA ?_;intro G I F w3 p g;have f:qu _:=fE p g;clear p g)
 exact B _ _ _ _ _ _ ⟨R,R,R,R,R,R,R⟩ R ((aH _ w).alloc fI _) f.1 f.2
theorem Of(h:As tm (U va vn vcap) cb kb vw er i)(p:tm[9]? =N (U (N ⟨e,f,X⟩) (vn+1) a))(d:vn<=a)(hK:∀b,As b (U va vn vcap) cb kb vw er i->b[9]? =N (U (N ⟨e,f,X⟩) vn a)->Q .normal ⟨b,[]⟩ w):Rj.wp PQ Q ⟨tm,[]⟩ w:=by
 obtain⟨c,j,k,l,m,n,o⟩:=h;have g:(vn:Int)<=a:=aA
 have b:qu _:=hK;clear hK;simp only[Rj,lL,cq,xz];go_wp2;exact b _ hc hw
theorem Le(h:As tm vc cb kb vw er i)(s:tm[9]? =N vo)(l:tm[12]? =N d)(m:tm[13]? =N (ox pg er))(b:tf PQ 13 #[d,vw] w λe a=>e=qs (rh pw)/\Zs a)(hK:∀a c,As a vc cb kb vw er i->a[9]? =N vo->a[12]? =N d->a[13]? =N (ox pg er)->a[14]? =N (rh pw)->Zs c->Q .normal ⟨a,[]⟩ c):Ks.wp PQ Q ⟨tm,[]⟩ w:=by
 obtain⟨j,k,n,o,p,q,r⟩:=h;have f:qu _:=λ(_:Unit)=>b;have c:qu _:=hK;clear hK b;simp only[Ks,lL,cq,xz];go_wp2_with (go_at_call 13;refine aO (f ()) ?_;rintro g w2 ⟨rfl,a⟩;have e:qu _:=a;clear a)
 exact c _ _ hc hw hw hw hw e.out
theorem Lu{d c b e wc}(h:As tm vc cb kb (U c b wc) er i)(r:tm[9]? =N vo)(j:tm[12]? =N (U d b e))(k:tm[13]? =N (ox pg er))(l:tm[14]? =N (rh pw))(hK:∀a,As a vc cb kb (U c b wc) er i->a[9]? =N vo->a[12]? =N (U d b e)->a[76]? =N (rh pi)->Q .normal ⟨a,[]⟩ w):Jy.wp PQ Q ⟨tm,[]⟩ w:=by obtain⟨f,g,m,n,o,p,q⟩:=h;have a:qu _:=hK;clear hK;simp only[Jy,lL,cq,xz];go_wp2;exact a _ hc hw hw hw
theorem Ny(h:As tm vc cb kb vw er i)(s:tm[9]? =N (U (N ⟨e,f,X⟩) on a))(m:tm[12]? =N d)(j:on+1<=a)(c:on<=4294967296)(hK:∀b,As b vc cb kb vw er i->b[9]? =N (U (N ⟨e,f,X⟩) on a)->b[12]? =N d->b[17]? =N (U (N ⟨e,f,X⟩) (on+1) a)->Q .normal ⟨b,[]⟩ w):I9.wp PQ Q ⟨tm,[]⟩ w:=by
 obtain⟨g,l,n,o,p,q,r⟩:=h;have k:(on:Int)+1<=a:=aA
 have b:qu _:=hK;clear hK;simp only[I9,lL,cq,xz];go_wp2;exact b _ hc hw hw (by first|exact hw|(simp[*];omega))
theorem M7(h:As tm vc cb kb vw er i)(t:tm[9]? =N (U (N ⟨e,f,X⟩) on a))(m:tm[12]? =N d)(n:tm[17]? =N (U (N ⟨e,f,X⟩) (on+1) a))(c:on<=4294967296)(q0:Z w ⟨e,f+on*4,X⟩=N (ox pg 77))(k:Z w ⟨e,f+on*4+1,X⟩=N (ox pg 0))(hK:∀b,As b vc cb kb vw er i->b[9]? =N (U (N ⟨e,f,X⟩) on a)->b[12]? =N d->b[119]? =N (rh pi)->Q .normal ⟨b,[]⟩ w):JP.wp PQ Q ⟨tm,[]⟩ w:=by
 obtain⟨j,l,o,p,q,r,s⟩:=h;have g:(on:Int)<(on:Int)+1:=aA
 have b:qu _:=hK;clear hK;simp only[JP,lL,cq,xz];go_wp2;exact b _ hc hw hw hw
theorem N7(h:As tm vc cb kb vw er i)(l:tm[12]? =N d)(b:tf PQ 16 #[pm (N ⟨kb,0,X⟩),d] w λe a=>e=qs (sh #[])/\Zs a)(hK:∀a c,As a vc cb kb vw er i->Zs c->Q .normal ⟨a,[]⟩ c):J2.wp PQ Q ⟨tm,[]⟩ w:=by
 obtain⟨j,k,m,n,o,p,q⟩:=h;have f:qu _:=λ(_:Unit)=>b;have c:qu _:=hK;clear hK b;simp only[J2,lL,cq,xz];go_wp2_with (go_at_call 16;refine aO (f ()) ?_;rintro g w2 ⟨rfl,a⟩;have e:qu _:=a;clear a)
 exact c _ _ hc e.out
theorem MX(h:As tm vc cb kb vw er i)(b:tf PQ 17 #[pm (N ⟨kb,0,X⟩)] w λe a=>e=qs (rh pw)/\Zs a)(hK:∀a c,As a vc cb kb vw er i->a[18]? =N (rh pw)->Zs c->Q .normal ⟨a,[]⟩ c):Jz.wp PQ Q ⟨tm,[]⟩ w:=by
 obtain⟨g,j,k,l,m,n,o⟩:=h;have e:qu _:=λ(_:Unit)=>b;have c:qu _:=hK;clear hK b;simp only[Jz,lL,cq,xz];go_wp2_with (go_at_call 17;refine aO (e ()) ?_;rintro f w2 ⟨rfl,a⟩;have d:qu _:=a;clear a)
 exact c _ _ hc hw d.out
theorem NG(h:As tm vc cb kb vw er i)(d:tm[18]? =N (rh pw))(hK:∀a,As a vc cb kb vw er i->a[126]? =N (rh pi)->Q .normal ⟨a,[]⟩ w):JB.wp PQ Q ⟨tm,[]⟩ w:=by obtain⟨b,c,e,f,g,j,k⟩:=h;have a:qu _:=hK;clear hK;simp only[JB,lL,cq,xz];go_wp2;exact a _ hc hw
theorem M0(h:As tm vc cb kb vw er i)(hK:∀a,a[4]? =N (rh pw)->Q .normal ⟨a,[]⟩ w):NV.wp PQ Q ⟨tm,[]⟩ w:=by obtain⟨b,c,d,e,f,g,j⟩:=h;have a:qu _:=hK;clear hK;simp only[NV,lL,cq,xz];go_wp2;exact a _ hw
end
end Hm
namespace Hm
open Go.RowKit Go.Joins Go.Shelf
open Dv (Zq)
section
variable {w':pn}{u:Zq}{f a vo:po}{off cap:Nat}
def uv(a:List PU):List po:=a.flatMap λp=>[p.2.1,p.2.2]
theorem Cb(a b):uv (a++b)=uv a++uv b:=dU
theorem B8(p):M (jT p)=4:=rfl
theorem tq.kept{w}(h:tq w u f a)(c:∀g,ov f=N g\/ov a=N g->w'.1[g]? =w.1[g]?):tq w' u f a:=by obtain⟨⟨i,k,d,rfl,m⟩,j,l,e,rfl,n⟩:=h;exact⟨⟨i,k,d,R,m.kept λg b=>c g (.inl b)⟩,j,l,e,R,n.kept λg b=>c g (.inr b)⟩
theorem tq.lt{w:pn}(h:tq w u f a){g:Nat}(b:ov f=N g\/ov a=N g):g<↑w:=by
 obtain⟨⟨k,m,i,rfl,c⟩,l,n,j,rfl,d⟩:=h;obtain e|e:=b
 .exact c.lt e
 .exact d.lt e
theorem tq.kind{w:pn}(h:tq w u f a){g:Nat}(c:ov f=N g\/ov a=N g):∃b t,w.1[g]? =N (pj b t (0,0))/\(t=68\/t=9):=by
 obtain⟨⟨m,o,j,rfl,d⟩,n,p,k,rfl,i⟩:=h;obtain e|e:=c
 .obtain⟨l,hc⟩:=d.obj e
  grind
 .obtain⟨l,hc⟩:=i.obj e
  grind
theorem tq.two{w}(h:tq w u f a)(g):bn [f,a] g<=1:=by
 obtain⟨⟨d,i,b,rfl,n⟩,e,j,c,rfl,o⟩:=h;rw[nF];have q:=KP (U (N ⟨d,i,X⟩) (M u.3) b) g;have r:=KP (U (N ⟨e,j,X⟩) (M u.4) c) g;by_cases k:0<bn [U (N ⟨d,i,X⟩) (M u.3) b] g
 .by_cases l:0<bn [U (N ⟨e,j,X⟩) (M u.4) c] g
  .have f1:=MT k;have m:=MT l;obtain⟨p,hc⟩:=o.obj m;exact(fK n hc aB f1).elim
  .omega
 .omega
theorem tq.up{w}(h:tq w u f a)(d:M u.3<=4294967296)(e:M u.4<=4294967296):lU w u f a:=by obtain⟨⟨l,n,j,rfl,g⟩,m,o,k,rfl,i⟩:=h;have b:=g.take (k:=M u.3) aA;have c:=i.take (k:=M u.4) aA;rw[ZO (by rw[yQ];exact fI),cK (by rw[yQ];exact fI)]at b;rw[Nat.mul_one,ZO aC,cK aC]at c;exact⟨b.rd,c.rd,d,e⟩
structure BG(w w':pn)(us:List Zq)(os:List PU)(vo:po):Prop where
 same:os.map p9=us
 row:fM w' 42 4 vo (M os) (os.flatMap jT)
 own:∀g,ov vo=N g->w.1.size<=g
 ows:∀p∈os,tq w' p.1 p.2.1 p.2.2
 fr:gK ↑w ↑w' (uv os)
 bel:Below ↑w w w'
theorem BG.nil(w):BG w w [] [] (U X 0 0):=⟨R,fM.nil _ _ _,gh,aC,gK.nil _ _,aH _ _⟩
theorem BG.next{w x y Zr z:pn}{us:List Zq}{b:List PU}{g:Nat}(h:BG w w' us b vo)(c:tq x u f a)(B:∀g,ov f=N g\/ov a=N g->w'.1.size<=g)(t:Below ↑w' w' x)(n:Below ↑x x y)(j:Below ↑y y Zr)(D:fM z 42 4 (U (N ⟨g,off,X⟩) (M b+1) cap) (M b+1) (b.flatMap jT++jT (u,f,a)))(l:jC vo g Zr z):BG w z (us++[u]) (b++[(u,f,a)]) (U (N ⟨g,off,X⟩) (M b+1) cap):=by
 have r:=t.4;have s:=n.4;have E:=j.4;have p:=h.6.4;have k:Below ↑w' w' Zr:=ow t (o5 (ow n (o5 j s)) r);have o:fM Zr 42 4 vo (M b) (b.flatMap jT):=h.2.fF k;have A:=iD (lo:=w.1.size) l h.3 aA;have F:=A.4
 have kept:∀{u f a},tq Zr u f a->tq z u f a:=λc=>c.kept λq d=>l.gE.5 q (c.lt d) λe=>by
  obtain⟨v,G,hc,m⟩:=c.kind d;obtain rfl|rfl:=m
  .exact fK o hc aB e
  .exact fK o hc aB e
 refine⟨by rw[aZ,h.1];rfl,by grind,λq d=>?_,λC i=>?_,?_,ow h.6 (ow (o5 k p) A)⟩
 .have e:g=q:=by simpa[ov]using d
  subst e;obtain e|e:=l.own
  .exact h.3 g e
  .omega
 .obtain i|i:=bV.1 i
  .exact kept ((h.4 C i).fF k)
  .rw[bT.1 i];exact kept (c.fF (ow n (o5 j s)))
 .rw[Cb];refine(h.5.append (hi:=x.1.size) ⟨c.two,λq d=>?_⟩ p r).mono fI aA;obtain⟨v,m,e⟩:=yS d;have m:v=f\/v=a:=by simpa[uv]using m
  have e:ov f=N q\/ov a=N q:=by rcases m with rfl|rfl<;>simp[e]
  exact⟨B q e,c.lt e⟩
section
variable {tm:Array po}{w:pn}{vw:po}{xa:Option zm}{cb kb vc i:Nat}{er:Int}{ps:List PU}{Q:qaC->Act->pn->Prop}
theorem TQ(h:As tm (U xa (M ps) vc) cb kb vw er i)(b:tm[9]? =N (U X 0 0))(T:iy w (U xa (M ps) vc) ps)(hl:M ps<=4294967296)(hK:∀g w' d vo,As g (U xa (M ps) vc) cb kb vw er i->g[9]? =N vo->BG w w' (ps.map p9) d vo->Q .normal ⟨g,[]⟩ w'):(qv Vy (.block 2 (.loop (qv (qv U6 (.cond (sn 34) .skip (.exit 2))) (qv (.block 3 (qv NM Ms)) T9))))).wp PQ Q ⟨tm,[]⟩ w:=by
 refine ud (QU h b λac G b c=>?_)
 show(Yj 2 _).wp _ _ _ _
 refine Y5 (mN (λk x e=>∃(tm:Array po)(j:Nat)(d:List PU)(vo:po),x=⟨tm,[]⟩/\k=M ps-j/\j<=M ps/\M d=j/\As tm (U xa (M ps) vc) cb kb vw er i/\tm[9]? =N vo/\tm[10]? =N (ox pg j)/\BG w e ((ps.map p9).take j) d vo) ⟨_,ac,0,[],_,R,R,bU _,R,G,b,c,by rw[List.take_zero];exact BG.nil w⟩ ?_);rintro k x e ⟨am,j,d,vo,rfl,rfl,hj,ag,W,b,c,q⟩;refine ud (ud (OS W b c λai y b c ab=>?_))
 show(Yh (sn 34) .skip (.exit 2)).wp _ _ _ _
 refine Y9 (t:=decide (j<M ps)) (by simp[p7,cS,ab]) ?_;by_cases r:j<M ps
 .rw[Ze r];refine ZD ?_
  show(qv (Yj 3 _) T9).wp _ _ _ _
  obtain⟨p,s⟩:∃p,ps[j]? =N p:=⟨_,aK r⟩
  have u:=T.fF q.6;obtain⟨g,off,ae,ev,-,-,-⟩:=u.1.pos aA;simp only[ry,true_and]at ev;obtain⟨rfl,rfl⟩:=ev;obtain⟨Y,m1,D,E⟩:=u.get s;have t:=u.2 p (aS s);obtain⟨ta,tc,C⟩:=Rd.slice t.1;obtain⟨la,lc,B⟩:=Rd.slice t.2.1;have z:=CE p.1 p.2.1 p.2.2 e t;rw[C]at D;rw[B]at E;rw[C,B]at z;refine ud (Y5 (ud (Lj (Zs:=λl n m o w'=>tq w' p.1 (U (N l) (M p.1.3) n) (U (N m) (M p.1.4) o)/\(∀g,ov (U (N l) (M p.1.3) n)=N g\/ov (U (N m) (M p.1.4) o)=N g->e.1.size<=g)/\Below ↑e e w') y b c r Y m1 D E (aO z ?_) λaj w3 l n m o H b c aa L=>?_)))
  .rintro I w' ⟨f,a,rfl,v,A,F⟩;obtain⟨J,S,O,rfl,-⟩:=v.1;obtain⟨K,V,P,rfl,-⟩:=v.2;exact⟨_,_,_,_,R,v,A,F⟩
  .obtain⟨r1,r2,F⟩:=L;obtain⟨w4,V,v,z4⟩:=fL w3 #[ox pg p.1.1,ox pg p.1.2,U (N l) (M p.1.3) n,U (N m) (M p.1.4) o] 42;rw[<-V];have A:fM w4 42 4 vo (M d) (d.flatMap jT):=(q.2.fF F).fF v;obtain⟨oa,oc,rfl⟩:=A.slice;refine MR H b c aa z4 A aA λak w5 Zr g5 ah af I b c O S P=>?_;have K:=q.next r1 r2 F v O S P;refine OV I b c aA λad J b c=>?_;exact⟨_,aA,ad,j+1,d++[(p.1,U (N l) (M p.1.3) n,U (N m) (M p.1.4) o)],_,R,R,r,by grind,J,b,c,by rw[qbc,cT,s];exact K⟩
 .rw[Zd r];obtain rfl:j=M ps:=by omega
  rw[cK aC]at q;exact wp_exit (hK _ _ d vo y b q)
end
end
end Hm
namespace Hm
open Go.RowKit Go.Joins Go.Shelf
open Dv (Zq)
variable {j:Nat}
theorem Q4{os p}(h:os[j]? =N p)(g):bn (uv (os.take (j+1))) g=bn (uv (os.take j)) g+bn [p.2.1,p.2.2] g/\bn (uv (os.take (j+1))) g<=bn (uv os) g:=by
 have e:os.take (j+1)=os.take j++[p]:=by rw[qbc,h];rfl
 refine⟨by rw[e,Cb,lE];rfl,?_⟩;have:=lE (uv (os.take (j+1))) (uv (os.drop (j+1))) g;rw[<-Cb,YX]at this;omega
attribute [local go_sem] vk vD uF uZ Array.size_setIfInBounds Array.getElem_setIfInBounds_ne Array.getElem_setIfInBounds_self
section
variable {tm:Array po}{w:pn}{vw v12:po}{xa:Option zm}{cb kb vc i og oo oc lo hi:Nat}{er:Int}{ps os:List PU}{tl:List po}{Q:qaC->Act->pn->Prop}
theorem NT(h:As tm (U xa (M ps) vc) cb kb vw er i)(Y:tm[9]? =N (U (N ⟨og,oo,X⟩) (M ps) oc))(L:tm[12]? =N v12)(hl:M ps<=4294967296)(o:os.map p9=ps.map p9)(f:fM w 42 4 (U (N ⟨og,oo,X⟩) (M ps+1) oc) (M ps+1) (os.flatMap jT++tl))(m:∀p∈os,tq w p.1 p.2.1 p.2.2)(r:gK lo hi (uv os))(t:∀b,fT (λk=>0<bn (uv os) k) w b->iy b (U xa (M ps) vc) ps)(hK:∀b d,As b (U xa (M ps) vc) cb kb vw er i->b[9]? =N (U (N ⟨og,oo,X⟩) (M ps) oc)->b[12]? =N v12->fT (λk=>0<bn (uv os) k) w d->Q .normal ⟨b,[]⟩ d):asS.wp PQ Q ⟨tm,[]⟩ w:=by
 have ao:M os=M ps:=by have:=Zf M o;exact ir
 have hap:∀{k:Nat},0<bn (uv os) k->ov (U (N ⟨og,oo,X⟩) (M ps+1) oc)≠N k:=λ{k} c e=>by
  obtain⟨v,b,d⟩:=yS c;obtain⟨s,p,b⟩:=Ys.1 b;obtain⟨u,x,hc,q⟩:=(m s p).kind (g:=k) (by simp at b;rcases b with rfl|rfl<;>simp[d]);obtain rfl|rfl:=q
  .exact fK f hc aB e
  .exact fK f hc aB e
 obtain⟨n,K,O,P,S,T,W⟩:=h;have H:qu _:=fE hK (fE t (fE m (fE f (fE r (fE o @hap)))));clear hK t m f r o hap;simp only[asS,lL,cq,xz];go_wp2;refine mN (λk aj a=>∃(tm:Array po)(j:Nat),aj=⟨tm,[]⟩/\k=M ps-j/\j<=M ps/\As tm (U xa (M ps) vc) cb kb vw er i/\tm[9]? =N (U (N ⟨og,oo,X⟩) (M ps) oc)/\tm[12]? =N v12/\tm[15]? =N (ox pg j)/\fT (λk=>0<bn (uv (os.take j)) k) w a) ⟨_,_,0,R,R,bU _,hc,hw,hw,hw,fT.refl _ _⟩ ?_;clear n K O P S T W Y L;rintro k aj a ⟨tm,j,rfl,rfl,hj,⟨n,K,O,P,S,T,W⟩,Y,L,an,l⟩;obtain⟨hK,t,m,f,r,o,hap⟩:=H.out
 have ae:∀g,bn (uv (os.take j)) g<=bn (uv os) g:=λg=>by
  have:=lE (uv (os.take j)) (uv (os.drop j)) g;rw[<-Cb,YX]at this;omega
 have D:fT (λk=>0<bn (uv os) k) w a:=l.mono λk _ c=>aL c (ae k);by_cases am:j<M ps
 .obtain⟨p,G⟩:∃p,ps[j]? =N p:=⟨_,aK am⟩
  obtain⟨q,A⟩:∃q,os[j]? =N q:=⟨_,aK aA⟩
  have d:q.1=p.1:=by
   have h1:(os.map p9)[j]? =N q.1:=by rw[cT,A];rfl
   rw[o,cT,G]at h1;simpa using h1.symm
  have I:=t a D;obtain⟨g,aq,ar,ev,-,-,-⟩:=I.1.pos aA;simp only[ry,true_and]at ev;obtain⟨rfl,rfl⟩:=ev;obtain⟨m0,m1,m2,m3⟩:=I.get G;have s:=I.2 p (aS G);obtain⟨ta,tc,ai⟩:=Rd.slice s.1;obtain⟨la,lc,ah⟩:=Rd.slice s.2.1;have E:=Q4 A;have aa:tq w q.1 q.2.1 q.2.2:=m q (aS A)
  have ab:∀k,ov q.2.1=N k\/ov q.2.2=N k->0<bn [q.2.1,q.2.2] k:=λk c=>by
   obtain e|e:=c
   .exact Fo (v:=q.2.1) aC e
   .exact Fo (v:=q.2.2) aC e
  have y:tq a q.1 q.2.1 q.2.2:=aa.kept λk c=>l.5 k (aa.lt c) λe=>by
   have h1:=E k;have h2:=ab k c;have h3:=r.1 k;omega
  obtain⟨g1,o1,k1,v,-⟩:=y.1;obtain⟨g2,o2,k2,x,-⟩:=y.2;have af:=f.gE D λk c e=>hap e c
  have z:∀{B:Nat}{u:po},B<4->(jT q)[B]? =N u->Z a ⟨og,oo+j*4+B,X⟩=N u:=λ{B u} hr hu=>by
   rw[cE];refine af.cell R _ _ ?_;have hf:=flat_get jT 4 B8 os j B q A hr;rw[hu]at hf;rw[bI (aJ.1 hf).1];exact hf
  have C:=z (B:=0) aA R;have c1:=z (B:=1) aA R;have c2:=z (B:=2) aA R;have c3:=z (B:=3) aA R;have ac:=λV (hV:Below ↑a a V)=>Ae p.1 q.2.1 q.2.2 p.2.1 p.2.2 V (by rw[<-d];exact y.fF hV) (s.fF hV);rw[v,d]at c2;rw[x,d]at c3;rw[d]at C c1;rw[qaP]at C;rw[ai]at m2;rw[ah]at m3;rw[ai,ah,v,x,d]at ac;have ag:=λV (b:Below ↑a a V)=>JU p.1 q.2.1 q.2.2 V (by rw[<-d];exact y.fF b) s.2.2.1 s.2.2.2;rw[v,x,d]at ag
  have ad:∀w3 w5,Below ↑a a w3->_->fT (λk=>0<bn (uv (os.take (j+1))) k) w w5:=λw3 w5 b (ap:fT (λk=>ov q.2.1=N k\/ov q.2.2=N k) w3 w5)=>by
   refine((l.mono λk _ c=>?_).trans (fT.fF b fI _) λ_ _ e=>e).trans ap λk c e=>?_
   .have:=(E k).1;omega
   .have:=(E k).1;have:=ab k e;omega
  rw[v,x,d]at ad;have ak:∀V,Below ↑a a V->∀J u,Z a ⟨og,J,X⟩=N u->Z V ⟨og,J,X⟩=N u:=λV b J u h=>oy (b.cell (p:=⟨og,J,X⟩) (af.lt R)) h;have F:qu _:=fE ac (fE ag (fE ad ak));have au:(j:Int)<M ps:=aA
  clear ac ag ad ak af y aa ab E s I z D ae l hK t m f r o hap G A d v x ai ah;go_wp2;refine wp_cond_true (by simp[p7,n]) ?_;go_upto_region 21 with fail;refine wp_region_noPanic ?_;go_region_with ((go_at_call 14;refine aO (F.1 _ (aH _ _).drew) ?_;rintro e w2 ⟨rfl,h2⟩))
  all_goals
   refine NoPanic.normal ?_;have b:=ow (aH _ a).drew h2;have d0:=F.2.2.2 _ b _ _ C;have d1:=F.2.2.2 _ b _ _ c1;have d2:=F.2.2.2 _ b _ _ c2;have d3:=F.2.2.2 _ b _ _ c3;have HS:qu _:=fE (λ(_:Unit)=>F.2.1 _ b) b;clear b h2 C c1 c2 c3 m0 m1 m2 m3;go_upto_region 22 with fail;refine Uw (λtm=>As tm (U (N ⟨g,aq,X⟩) (M ps) vc) cb kb vw er i/\tm[9]? =N (U (N ⟨og,oo,X⟩) (M ps) oc)/\tm[12]? =N v12/\tm[15]? =N (ox pg j)/\tm[16]? =N (rh pw)) ⟨hc,hw,hw,hw,hw⟩ ?_;clear n K O P S T W Y L an;rintro tm ⟨⟨n,K,O,P,S,T,W⟩,Y,L,an,av⟩;go_wp2;refine wp_cond_false (by simp[p7,n]) ?_;go_wp2_with (go_at_call 15;refine aO (HS.1 ()) ?_;rintro e w5 ⟨rfl,h5⟩;have H5:qu _:=h5;clear h5)
   refine⟨_,(by omega:ps.length-(j+1)<ps.length-j),_,j+1,R,R,am,hc,hw,hw,hw,F.2.2.1 _ _ HS.2 H5⟩
 .obtain rfl:j=M ps:=by omega
  rw[<-ao,eD]at l;have F:qu _:=fE hK l;have b:¬((M ps:Int)<M ps):=aA
  clear l hK t m f r o hap D ae;go_wp2;refine wp_cond_false (by simp[p7,n]) ?_;go_wp2;exact F.1 _ _ hc hw hw F.2
end
end Hm
namespace Hm
open Go.RowKit Go.Joins Go.Shelf
open Dv (Zq)
section
variable {w' W W':pn}{e n B0:Nat}{xs:List po}
theorem fM.iO{w:pn}{s:Nat}{v:po}(h:fM w e s v n xs)(hc:gQ (λ_=>False) w w'):fM w' e s v n xs:=h.kept λg a=>hc.2 g (h.lt a) λe=>e
theorem Book.heap{kb Zp:Nat}{ts ls:List En}(h:Book W kb B0 Zp ts ls)(hc:gQ (λ_=>False) W W'):Book W' kb B0 Zp ts ls:=by obtain⟨m,d,l,c,⟨o,j,g,f,i,k⟩,b⟩:=h.1;exact⟨⟨m,d,l,c,⟨oy (hc.2 kb (fO o) λe=>e) o,j.iO hc,g.iO hc,f.iO hc,i.iO hc,k⟩,b⟩,h.2,λx a=>⟨fM.iO (h.3 x a).1 hc,(h.3 x a).2⟩,λx a=>⟨fM.iO (h.4 x a).1 hc,(h.4 x a).2⟩⟩
theorem RJ{w:pn}{va:po}{pl:List PL}(c:fM w 62 8 va (M pl) (pl.flatMap gA))(b:∀p∈pl,hZ w p.2.1 p.1.6/\hZ w p.2.2 p.1.7/\M p.1.6<=4294967296/\M p.1.7<=4294967296):Dl w va pl:=
 ⟨c.rd,λp a=>⟨(b p a).1,(b p a).2.1,by grind,by grind⟩⟩
section
variable {tm:Array po}{v w:pn}{vw va:po}{xa:Option zm}{cb kb vc i og oo oc hi hj Zp:Nat}{er:Int}{ps os:List PU}{pl ls:List PL}{ts l2:List En}{Q:qaC->Act->pn->Prop}
theorem O2(h:As tm (U xa (M ps) vc) cb kb vw er i)(c:tm[9]? =N (U (N ⟨og,oo,X⟩) (M ps) oc))(b:tm[12]? =N va)(L:tm[13]? =N (ox pg er))(E:M ps<=4294967296)(hc:gQ (λ_=>False) v w)(a0:∀W,gQ (λ_=>False) v W->iy W (U xa (M ps) vc) ps)(ai:fM v 62 8 vw (M ls) (ls.flatMap gA))(K:∀p∈ls,hZ v p.2.1 p.1.6/\hZ v p.2.2 p.1.7/\M p.1.6<=4294967296/\M p.1.7<=4294967296)(s:Book v kb kb Zp ts l2)(ag:os.map p9=ps.map p9)(af:fM w 42 4 (U (N ⟨og,oo,X⟩) (M ps+1) oc) (M ps+1) (os.flatMap jT++[ox pg 77,ox pg 0,U X 0 0,U X 0 0]))(ad:∀p∈os,tq w p.1 p.2.1 p.2.2)(D:gK ↑v hi (uv os))(bd:↑v<=hi)(o:fM w 62 8 va (M pl) (pl.flatMap gA))(A:∀p∈pl,hZ w p.2.1 p.1.6/\hZ w p.2.2 p.1.7/\M p.1.6<=4294967296/\M p.1.7<=4294967296)(ay:pl.map p9=ls.map p9)(aa:gK hi hj (lv pl))(ah:∀g,ov va=N g->hi<=g)(F:M pl<=4294967296)(hN:Zp+2*M pl<=1099511627776)(az:M ts+8*M pl<=1099511627776)(av:M l2<=1099511627776)(hm:∀Y∈l2,Y.3<=1099511627776)(hK:∀Y w' q l,As Y (U xa (M ps) vc) cb kb vw er i->Book w' kb kb (Zp+2*M pl+1) q l->M q=M ts+8*M pl->M l=M l2+4->(∀ak∈l,ak.3<=1099511627776)->↑v<=w'.1.size->(∀k<kb,w'.1[k]? =v.1[k]?)->(∀(k:Nat)(m:Array po)(t:wj)(r:Nat×Nat),v.1[k]? =N (pj m t r)->t∉bkt->w'.1[k]? =N (pj m t r))->Q .normal ⟨Y,[]⟩ w'):(qv Ks (qv (qv Jy (.cond (sn 76) QE .skip)) (qv asS (qv I9 (qv (qv JP (.cond (sn 119) Qg .skip)) (qv J2 (qv Jz (qv JB (.cond (sn 126) O1 .skip))))))))).wp PQ Q ⟨tm,[]⟩ w:=by
 have ar:M os=M ps:=by have:=Zf M ag;exact ir
 have ae:M pl=M ls:=by have:=Zf M ay;exact ir
 have a8:kb<↑v:=by obtain⟨_,_,_,_,am,_⟩:=s.1;exact am.lt
 obtain⟨wa,wc,rfl⟩:=ai.slice;obtain⟨P,O,rfl⟩:=o.slice;have bc:=hc.1;have ap:=F7 (U P (M pl) O) (U wa (M ls) wc) pl ls w (RJ o A) (RJ (ai.iO hc) λp a=>⟨fM.iO (K p a).1 hc,fM.iO (K p a).2.1 hc,(K p a).2.2⟩) aA;refine ud (Le (Zs:=λw'=>Below ↑w w w') h c b L (aO ap ?_) λbf w1 B c b L a3 j=>?_)
 .rintro e w' ⟨Y,rfl,B,S⟩
  grind
 show(qv (qv Jy _) _).wp _ _ _ _
 rw[<-ae]at B;refine ud (ud (Lu B c b L a3 λbg S c b a6=>?_))
 show(Yh (sn 76) QE .skip).wp _ _ _ _
 refine Y9 (t:=pi) (by simp[p7,cS,a6]) (ZD ?_)
 show(qv asS _).wp _ _ _ _
 have aq:gQ (λ_=>False) v w1:=hc.trans ((fT.fF j fI (λ_=>False)).h) λ_ _ e=>e;have V:∀{W:pn},fT (λk=>0<bn (uv os) k) w1 W->gQ (λ_=>False) v W:=λx=>aq.trans ⟨x.4,λk f F=>x.5 k f λe=>F e⟩ (M':=λk=>0<bn (uv os) k) (λk f e=>by have:=(D.2 k e).1;omega);refine ud (NT S c b E ag (af.fF j) (λp a=>(ad p a).fF j) D (λW x=>a0 W (V x)) λbh w3 h3 c b C=>?_)
 show(qv I9 _).wp _ _ _ _
 have z:=V C;have H:=af.fF j
 have G:fM w3 42 4 (U (N ⟨og,oo,X⟩) (M ps+1) oc) (M ps+1) (os.flatMap jT++[ox pg 77,ox pg 0,U X 0 0,U X 0 0]):=H.gE C λg d e=>by
  obtain⟨ak,hx,e1⟩:=yS e;obtain⟨p,a,hx⟩:=Ys.1 hx;obtain⟨m,t,Y,J⟩:=((ad p a).fF j).kind (g:=g) (by grind);obtain rfl|rfl:=J
  .exact fK H Y aB d
  .exact fK H Y aB d
 have aw:M ps+1<=oc:=by
  obtain⟨_,_,c',e,Y,_⟩:=G.rd;cases e;exact Y
 have a7:M (os.flatMap jT)=M ps*4:=by rw[jm jT 4 B8,ar]
 have q0:Z w3 ⟨og,oo+M ps*4,X⟩=N (ox pg 77):=G.cell R _ _ (by grind)
 have q1:Z w3 ⟨og,oo+M ps*4+1,X⟩=N (ox pg 0):=by
  rw[cE];exact G.cell R _ _ (by grind)
 refine ud (Ny h3 c b aw E λbj h4 c b a4=>?_)
 show(qv (qv JP _) _).wp _ _ _ _
 refine ud (ud (M7 h4 c b a4 E q0 q1 λbk h5 c b a1=>?_))
 show(Yh (sn 119) Qg .skip).wp _ _ _ _
 refine Y9 (t:=pi) (by simp[p7,cS,a1]) (ZD ?_)
 show(qv J2 _).wp _ _ _ _
 have an:=s.heap z
 have I:∀{e aj n:Nat}{u:po}{xs:List po},fM w e aj u n xs->(∀g,ov u=N g->hi<=g)->fM w3 e aj u n xs:=λo hu=>(o.fF j).gE C λg d e=>by
  have:=(D.2 g e).2
  grind
 have ab:∀{p:PL},p∈pl->∀{u:po},u=p.2.1\/u=p.2.2->∀g,ov u=N g->hi<=g:=λ{p} a {u} hu g d=>(aa.2 g (Fo (v:=u) (Ys.2 ⟨p,a,by grind⟩) d)).1;have au:=F2 (U P (M pl) O) pl w3 kb kb Zp hi hj ts l2 (I o ah) (λp a=>⟨I (A p a).1 (ab a (.inl R)),I (A p a).2.1 (ab a (.inr R)),(A p a).2.2⟩) aa ah aA an (λak Y g d=>by have:=fM.lt (s.3 ak Y).1 d;omega) (λak Y g d=>by have:=fM.lt (s.4 ak Y).1 d;omega) F hN az av hm;refine ud (N7 h5 b au λbl w6 h6 ao=>?_);obtain⟨q,l,r1,r2,r3,r4,r5,r6⟩:=ao
 show(qv Jz _).wp _ _ _ _
 refine ud (MX h6 (JW w6 kb kb q l r1 aA aA r4) λbm w7 h7 a5 y=>?_)
 show(qv JB _).wp _ _ _ _
 refine ud (NG h7 a5 λbo T a2=>?_)
 show(Yh (sn 126) O1 .skip).wp _ _ _ _
 refine Y9 (t:=pi) (by simp[p7,cS,a2]) (ZD ?_);have a9:=z.1;have ba:=r5.4;have bb:=y.4;rw[ae]at T;refine hK _ _ q l T (r1.fF y) r2 r3 r4 aA (λk f=>?_) λk m t r f J=>?_
 .rw[y.5 k aA,r5.5 k f,z.2 k aA λe=>e]
 .have ak:=(fO f)
  have Y:=oy (z.2 k ak λe=>e) f;rw[y.5 k aA];exact r6 k m t r Y J aA
end
end
open Dv (Zq)
def Kz(c:Cf)(ps:List PU)(Y:po)(w:pn)(p:iy w Y ps)(hl:M ps<=4294967296)(af:∀u∈ps,-9223372036854775808<=u.1.2/\u.1.2<=9223372036854775807):tf PQ 10 #[.agg (fP c),Y] w (J3 c (ps.map p9) w):=by
 have l:∀(z:Array po)(A:po)(a:Int)(j:pn),z[4]? =N A->z[5]? =N (ox pg a)->J3 c (ps.map p9) w (qs (sh #[A,ox pg a])) j->bodyPost PQ yv (J3 c (ps.map p9) w) .ret ⟨z,[]⟩ j:=λz A a j e f hq=>bodyPost_ret (v:=sh #[A,ox pg a]) (by simp[results,results10,go_sem,e,f]) R hq;have B:∀(a:Int)(j:pn),Dv.all c (ps.map p9)=(a,[])->Below ↑w w j->J3 c (ps.map p9) w (qs (sh #[U X 0 0,ox pg a])) j:=λa j h hb=>⟨_,[],by rw[h],B6.nil _ _,by rw[h];rfl,hb⟩
 obtain⟨va,aa,rfl⟩:=Rd.slice p.1;refine calls_of_wp (fq func10 R) (c:=mg) R ?_;rw[Tv,ntmps10];obtain⟨a0,a1,a2⟩:=args2 (.agg (fP c)) (U va (M ps) aa) 85;generalize ad:bodyPost PQ yv (J3 c (ps.map p9) w)=Q at l⊢;clear ad;refine ud (Rg a0 a1 a2 λax h0=>?_)
 show(qv VN _).wp _ _ _ _
 obtain⟨w1,ag,d,E⟩:=fL w (fP c) 24;rw[<-ag];refine ud (OG h0 E (zI c w1) λay w2 h1 t6 K=>?_)
 show(qv (qv VM _) _).wp _ _ _ _
 have J:=ow d (o5 K d.4);refine ud (ud (PF h1 t6 λaz G am=>?_))
 show(Yh (sn 16) VU .skip).wp _ _ _ _
 refine Y9 (t:=!fR c) (by simp[p7,cS,am]) ?_;cases t:fR c with
 |false=>exact Rf G λb e f=>l _ _ _ _ e f (B 1 _ (by unfold Dv.all;rw[t];rfl) J)
 |true=>
  refine ZD ?_
  show(qv (qv Wd _) _).wp _ _ _ _
  refine ud (ud (QD G λa3 H an=>?_))
  show(Yh (sn 24) Wt .skip).wp _ _ _ _
  refine Y9 (t:=decide (M ps<1\/60<M ps)) (by simp[p7,cS,an]) ?_;by_cases S:M ps<1\/60<M ps
  .rw[Ze S];exact P8 H λb e f=>l _ _ _ _ e f (B 2 _ (by unfold Dv.all gB;rw[t,aV,Zd aA];rfl) J)
  .rw[Zd S];refine ZD ?_
   show(qv V0 _).wp _ _ _ _
   refine ud (Rv H λa4 h4 t7=>?_)
   show(qv (qv VV _) _).wp _ _ _ _
   refine ud (ud (Qe h4 t7 λar h5=>?_))
   show(Yj 0 _).wp _ _ _ _
   obtain⟨g,aj,au,T,-⟩:=Rd.pos p.1 aA;simp only[ry,true_and]at T;obtain⟨rfl,rfl⟩:=T;have aw:↑w<=w1.1.size:=d.4;refine Y5 (mN (λk F D=>∃(s:Array po)(i:Nat)(b:Option Int),F=⟨s,[]⟩/\k=M ps-i/\i<=M ps/\Je s (U (N ⟨g,aj,X⟩) (M ps) aa) ↑w (B5 b) i/\(∀n,b=N n->0<=n/\n<=1000000+24*(i:Int))/\gP X (ps.map p9)=gP b ((ps.drop i).map p9)/\Below ↑w1 w1 D) ⟨_,ar,0,X,R,R,bU _,h5,aC,aC,K⟩ ?_);rintro k F D ⟨a9,i,b,rfl,rfl,hi,hx,O,m,r⟩;have Q:=ow d (o5 r d.4);refine ud (ud (Ph hx λa5 q ao=>?_))
   show(Yh (sn 28) .skip (.exit 0)).wp _ _ _ _
   refine Y9 (t:=decide (i<M ps)) (by simp[p7,cS,ao]) ?_;by_cases o:i<M ps
   .rw[Ze o];refine ZD ?_
    show(qv (Yj 1 _) Ux).wp _ _ _ _
    obtain⟨u,v⟩:∃u,ps[i]? =N u:=⟨_,aK o⟩
    have x:=aS v;have y:=p.fF Q;obtain⟨m0,C,V,W⟩:=y.get v;obtain⟨xa,xc,ah⟩:=Rd.slice (y.2 u x).1;obtain⟨xl,ba,ai⟩:=Rd.slice (y.2 u x).2.1;have s:=CJ b u.1 u.2.1 u.2.2 D (y.2 u x) (λab ht=>by have:=O ab ht;omega) (af u x);unfold uN at s;rw[ah]at V s;rw[ai]at W s
    have ae:ps.drop i=u::ps.drop (i+1):=by
     obtain⟨g1,g2⟩:=aJ.1 v;rw[List.drop_eq_getElem_cons g1,g2]
    rw[ae,cL,gP]at m;refine ud (Y5 (ud (Ky q o m0 C V W s λa6 w7 h7 t9 ac=>?_)))
    show(qv (qv Qk _) _).wp _ _ _ _
    have L:=ow r (o5 ac r.4);have P:=ow d (o5 L d.4);refine ud (ud (NI h7 t9 λa7 I ap=>?_))
    show(Yh (sn 38) QL .skip).wp _ _ _ _
    refine Y9 (t:=!jo b u.1) (by simp[p7,cS,ap]) ?_;cases n:jo b u.1 with
    |false=>exact La I λab e f=>l _ _ _ _ e f (B 2 _ (by unfold Dv.all gB;rw[t,m,n];simp) P)
    |true=>
     refine ZD ?_
     show PA.wp _ _ _ _
     obtain⟨-,C,-,-⟩:=(p.fF P).get v;refine MF I o C λa8 h9=>?_
     show Ux.wp _ _ _ _
     refine Rz h9 aA λaq ab=>?_;refine⟨M ps-(i+1),aA,aq,i+1,N u.1.2,R,R,aA,ab,λak ht=>?_,by rw[m,n];rfl,L⟩;have av:u.1.2=ak:=by simpa using ht
     unfold jo at n;cases b with
     |none=>
      simp only[bN,Zh]at n;omega
     |some b0=>
      have:=O b0 R;simp only[bN,Zh]at n;omega
   .rw[Zd o];refine wp_exit ?_
    show(qv LM _).wp _ _ _ _
    have n:i=M ps:=aA
    subst n;rw[List.drop_length]at m;refine Ri t (by unfold gB;rw[m,aV,Ze aA];rfl) ⟨q.1,q.2,q.3⟩ (oy (r.5 _ (fO E)) E) p Q l
end Hm
namespace Pa
open Go Go.Conc Go.RowKit Go.Joins
open Hm (iq fP gQ fT lU iy PU PL gA hZ jT cq As Book En bkt lL as0 VZ Wa VE Wh Wp VB Vy U6 T9 NM Ms Qs Rj Tn Ks Jy QE asS I9 JP Qg J2 Jz JB O1 NV)
open Dv (Zq)
open Po hiding Zq H B IT PR NB
section
variable {a:Array po}{s:Nat}{v u:po}{w:pn}{D:Nat->Prop}
theorem sI{s'}(h:a[s]? =N v)(b:s'≠s):(qb a s' u)[s]? =N v:=by grind
theorem tnew(h:s<qd a):(qb a s u)[s]? =N u:=by grind
theorem KA{b:Nat}{c:Cf}{a:Act}(e:w.1[b]? =N (pj (fP c) 24 (0,0)))(f:a.eval (sn s)=iq b):∀t d (o:Oper),o.2=.load 24 (sn s)->(execOp a.eval o).run PQ (on w t d)=.ok (.value (.agg (fP c))) (on w t d):=λt d o h=>by
 have c:=xT (w:=on w t d) e;have g:=c 0;have i:=c 1;have j:=c 2;have k:=c 3;have l:=c 4;have m:=c 5;have n:=c 6;unfold execOp;simp only[h,f,iq];simp[go_sem,g,i,j,k,l,m,n,fP]
theorem QN(c:Cf)(us:List Zq):M (Dv.all c us).2<=4294967296/\∀x,x∈(Dv.all c us).2->M x.6<=4294967296/\M x.7<=4294967296:=by
 unfold Dv.all;split
 .simp
 .split
  .simp
  .rename_i a b;have d:fR c=pw:=by simpa using a
   have iO:gB us=pw:=by simpa using b
   have F:=(lV iO d (M us) fI).5;have f:=(gJ iO).2.1;unfold Dv.much at F;refine⟨kl,λx e=>?_⟩;have:=(Hm.yw (c:=c) iO (M us)).2 x e;unfold Hm.Ud at this;omega
noncomputable def Xt:vy:=qv (qv Wh (.cond (sn 28) .skip (.exit 0))) (qv (.block 1 (qv VB (qv (qv Vy (.block 2 (.loop (qv (qv U6 (.cond (sn 34) .skip (.exit 2))) (qv (.block 3 (qv NM Ms)) T9))))) (qv Qs (qv Rj (qv Tn (qv Ks (qv (qv Jy (.cond (sn 76) QE .skip)) (qv asS (qv I9 (qv (qv JP (.cond (sn 119) Qg .skip)) (qv J2 (qv Jz (qv JB (.cond (sn 126) O1 .skip))))))))))))))) Wp)
theorem S9:lL=qv as0 (qv VZ (qv Wa (qv (qv VE (.block 0 (.loop Xt))) (qv NV .ret)))):=Zm
theorem Ha:xz.9=N lL:=Zm
structure Wx(w0:pn)(c:Cf)(cb kb:Nat)(vw:po)(ls:List PL)(i:Nat)(w:pn):Prop where
 gE:gQ (λ_=>False) w0 w
 low:↑w0<=kb
 cfg:w.1[cb]? =N (pj (fP c) 24 (0,0))
 row:Hm.fM w 62 8 vw (M ls) (ls.flatMap gA)
 str:∀p∈ls,hZ w p.2.1 p.1.6/\hZ w p.2.2 p.1.7
 bk:∃Zp ts l2,Book w kb kb Zp ts l2/\Zp<=i*8589934593/\M ts<=i*34359738368/\M l2<=i*4/\∀x:En,x∈l2->x.3<=1099511627776
section
variable {Post:Cl}{w0:pn}{c:Cf}{ps:List PU}{xa:Option zm}{vc cb kb:Nat}{vw:po}{ls:List PL}
theorem K4{ps:List PU}(h:iy w v ps)(t d):iy (on w t d) v ps:=mJ h ⟨fI,λ_ _ _=>R⟩
theorem E8{y y' Zr z:pn}{us:List Zq}{d:List PU}{i:po}{g:Nat}(h:Hm.BG w y us d i)(b:y'.1=y.1)(c:Below ↑y' y' Zr)(e:Hm.jC i g Zr z):(∀p∈d,Hm.tq z p.1 p.2.1 p.2.2)/\gQ (λ_=>False) w z/\↑y<=z.1.size:=by
 have v:=h.6.4;have A:↑y'=y.1.size:=by rw[b]
 have x:=c.4;have m:Hm.fM Zr 42 4 i (M d) (d.flatMap jT):=h.2.kept λq a=>by rw[c.5 q (by rw[b];exact h.2.lt a),b]
 have s:=Hm.iD (lo:=w.1.size) e h.3 aA;have u:=e.gE.4;refine⟨λp o=>?_,⟨aA,λk l _=>?_⟩,aA⟩
 .have n:=h.4 p o;have f:Hm.tq Zr p.1 p.2.1 p.2.2:=n.kept λq a=>by rw[c.5 q (by rw[b];exact n.lt a),b]
  exact f.kept λq a=>e.gE.5 q (f.lt a) λj=>by
   obtain⟨t,B,hc,r⟩:=f.kind a;obtain rfl|rfl:=r
   .exact Hm.fK m hc aB j
   .exact Hm.fK m hc aB j
 .rw[s.5 k l,c.5 k aA,b,h.6.5 k l]
theorem Ep(rd:Cr.ReadW)(bf:qd Tryz.prog.globals<=w0.1.size)(ae:iy w0 (U xa (M ps) vc) ps)(ac:M ps<=4294967296)(hH:oE w0)(aa:ls.map p9=(Dv.all c (ps.map p9)).2){i:Nat}(Y:i<2){k:List Item}(d:Wx w0 c cb kb vw ls i w)(h:As a (U xa (M ps) vc) cb kb vw (Dv.all c (ps.map p9)).1 i)(ab:∀D' w' ai,Wx w0 c cb kb vw ls (i+1) w'->As ai (U xa (M ps) vc) cb kb vw (Dv.all c (ps.map p9)).1 (i+1)->Wq D' Post [] ((base 3).at ⟨ai,[]⟩ k) [] w'):Wq D Post [] ((base 3).at ⟨a,[]⟩ (.code Xt::k)) [] w:=by
 obtain⟨j,W⟩:∃j,j=(Dv.all c (ps.map p9)).1:=⟨_,R⟩
 rw[<-W]at h ab;obtain⟨bd,ap⟩:=QN c (ps.map p9);have bj:=d.1.1;refine Wq.seq (Wq.seq (Wq.walk λt q Q f _=>Hm.Hp h λa h ba=>f _ _ (Wq.same (y:=w) (λ_ _=>R) (Wq.cond (t:=pw) (by simp[p7,ba,Y]) ?_))));rw[Zb R];refine Wq.skip (Wq.seq (Wq.block (Wq.seq ?_)));refine Wq.walk λt q Q f _=>Hm.O3 h λa h m=>f _ _ (Wq.same (y:=w) (λ_ _=>R) (Wq.seq ?_));have af:=mJ ae d.1;refine Wq.walk λt q Q f _=>Hm.TQ (w:=on w t q) h m (K4 af t q) ac λa w1 y vo h m n=>f _ _ (Wq.seq ?_);obtain⟨oa,bk,L⟩:=n.2.slice;have A:M y=M ps:=by have:=Zf M n.1;exact ir
 rw[L]at m;have ad:=n.2;rw[L]at ad;refine Wq.walk λt' T Q f _=>Hm.NJ (w:=on w1 t' T) h m (ad.kept λ_ _=>R) aA λa w2 Zr O P F h m hX C ar=>f _ _ (Wq.seq ?_);rw[A]at m C
 have bg:M ps+1<=F:=by
  obtain⟨_,_,c',e,ai,_⟩:=C.rd;cases e;exact ai
 refine Wq.walk λt q Q f _=>Hm.Of h m aA λa h m=>f _ _ (Wq.same (y:=w2) (λ_ _=>R) (Wq.seq ?_));obtain⟨K,x,az⟩:=E8 n (y':=on w1 t' T) R hX (by rw[L];exact ar);have x:gQ (λ_=>False) w w2:=x.heaps R R;have bh:↑w<=w1.1.size:=n.6.4
 have ag:∀p∈y,M p.1.3<=4294967296/\M p.1.4<=4294967296:=λp b=>by
  have:p.1∈y.map p9:=bB.2 ⟨p,b,R⟩;rw[n.1]at this;obtain⟨ai,hq,e⟩:=bB.1 this;rw[<-e];exact(ae.2 ai hq).2.2
 have hU:iy w2 (U (N ⟨O,P,X⟩) (M y) F) y:=by
  refine⟨?_,λp b=>(K p b).up (ag p b).1 (ag p b).2⟩;have:=C.take (k:=M ps) aA;rw[ZO (by rw[Hm.jm jT 4 Hm.B8,A];exact fI),cK (by rw[Hm.jm jT 4 Hm.B8,A];exact fI)]at this;rw[A];exact this.rd
 have ak:=d.1.trans x λ_ _ e=>e;have o:=h.1;have am:=oy (x.2 cb (fO d.3) λe=>e) d.3;refine Wq.reg (n:=8) ⟨_,R⟩ Zm ?_;refine Wq.Kp (.load 24 (sn 2)) (N 55) (.agg (fP c)) w2 Zm (KA am (Ar h.3)) ?_;simp only[td];refine Wq.Kp (.move (sn 9)) (N 56) (U (N ⟨O,P,X⟩) (M ps) F) w2 Zm (mv (sI m aB)) ?_;simp only[td];obtain⟨o4,aw,ax,ao,au⟩:∃E,(Pw Tn)[2]? =N E/\E.2=.call { callee:=.value (.func 12),args:=#[sn 55,sn 56],argTypes:=#[24,25] }/\E.1=N 57/\E.6=X:=⟨_,R,R,R,R⟩
 refine Ql rd (c:=c) (ps:=y) aw (Cr.iU au) ax (Ar (sI (tnew aA) aB)) (by rw[A];exact Ar (tnew (by simp[o]))) aA hU aA (hH.kept ak) λD5 v r pl r1 r2 G H aq a0=>?_;rw[n.1]at G⊢;rw[<-W,ao];simp only[td];refine Wq.Kp (.move (sn 57)) (N 54) (sh #[r,ox pg j]) v Zm (mv (tnew (by simp[o]))) ?_;simp only[td];refine Wq.Kp (.extract (sn 54) 0) (N 58) r v Zm (xt (tnew (by simp[o])) R) ?_;simp only[td];refine Wq.Kp (.extract (sn 54) 1) (N 59) (ox pg j) v Zm (xt (sI (tnew (by simp[o])) aB) R) ?_;simp only[td];refine Wq.Kp (.assign (sn 58)) (N 12) r v Zm (XA (sI (tnew (by simp[o])) aB)) ?_;simp only[td];refine Wq.Kp (.assign (sn 59)) (N 13) (ox pg j) v Zm (XA (sI (tnew (by simp[o])) aB)) (Wq.done ?_);simp only[td];obtain⟨z,B⟩:∃z,z=(qb (qb (qb (qb (qb (qb (qb (qb a 55 (.agg (fP c))) 56 (U (N ⟨O,P,X⟩) (M ps) F)) 57 (sh #[r,ox pg j])) 54 (sh #[r,ox pg j])) 58 r) 59 (ox pg j)) 12 r) 13 (ox pg j)):=⟨_,R⟩
 rw[<-B]
 have b:∀s u,a[s]? =N u->s≠55/\s≠56/\s≠57/\s≠54/\s≠58/\s≠59/\s≠12/\s≠13->z[s]? =N u:=λs u hs ⟨n1,n2,n3,n4,n5,n6,n7,n8⟩=>by
  rw[B];exact sI (sI (sI (sI (sI (sI (sI (sI hs (YI n1)) (YI n2)) (YI n3)) (YI n4)) (YI n5)) (YI n6)) (YI n7)) (YI n8)
 have h9:As z (U xa (M ps) vc) cb kb vw j i:=⟨by rw[B];simp[o],b 1 _ h.2 aB,b 2 _ h.3 aB,b 5 _ h.4 aB,b 6 _ h.5 aB,b 7 _ h.6 aB,b 8 _ h.7 aB⟩
 have bb:=b 9 _ m aB;have a8:z[12]? =N r:=by rw[B];exact sI (tnew (by simp[o])) aB
 have a9:z[13]? =N (ox pg j):=by rw[B];exact tnew (by simp[o])
 have an:gQ (λ_=>False) w v:=x.trans H λ_ _ e=>e;have V:∀{l:List PL},l.map p9=(Dv.all c (ps.map p9)).2->∀p∈l,M p.1.6<=4294967296/\M p.1.7<=4294967296:=λ{l} e p b=>ap p.1 (by grind);have ay:M pl<=4294967296:=by have:=Zf M G;rw[aV]at this;omega
 obtain⟨aj,ts,l2,b1,b2,b3,b4,b5⟩:=d.6;refine Wq.walk λt q Q f _=>Hm.O2 (v:=w) (w:=on v t q) (hi:=w2.1.size) (hj:=v.1.size) h9 bb a8 a9 ac (an.heaps R R) (λai hW=>mJ af hW) d.4 (λp b=>⟨(d.5 p b).1,(d.5 p b).2,V aa p b⟩) b1 n.1 (Hm.fM.kept (C.iO H) λ_ _=>R) (λp b=>(K p b).kept λg I=>H.2 g ((K p b).lt I) λe=>e) (n.5.mono fI az) (by have:=x.1;omega) (r1.kept λ_ _=>R) (λp b=>⟨Hm.fM.kept (r2 p b).1 λ_ _=>R,Hm.fM.kept (r2 p b).2 λ_ _=>R,V G p b⟩) (by rw[G,aa]) aq a0 ay aA aA aA b5 λa S t2 l3 h a1 a2 a3 a4 a5 a6 a7=>f _ _ (Wq.inBlock ?_);refine Wq.walk λt q Q f _=>Hm.QC h Y λa h=>f _ _ (Wq.same (y:=S) (λ_ _=>R) (ab D5 S a ?_ h));have av:=d.2
 have J:∀{e s ah:Nat}{u:po}{xs:List po},e∉bkt->Hm.fM w e s u ah xs->Hm.fM S e s u ah xs:=λhe hr=>hr.kept λg I=>by
  obtain⟨ai,bc⟩:=hr.obj I
  grind
 refine⟨⟨aA,λk hk _=>?_⟩,av,a7 cb _ _ _ d.3 aB,J aB d.4,λp b=>⟨J aB (d.5 p b).1,J aB (d.5 p b).2⟩,aj+2*M pl+1,t2,l3,a1,aA,aA,aA,a4⟩;rw[a6 k aA,d.1.2 k hk λe=>e]
theorem Pv(rd:Cr.ReadW)(F:qd Tryz.prog.globals<=w.1.size)(x:iy w (U xa (M ps) vc) ps)(v:M ps<=4294967296)(ab:∀u∈ps,-9223372036854775808<=u.1.2/\u.1.2<=9223372036854775807)(B:oE w)(Y:∀j e u,gQ (λ_=>False) w e->WP (qe px.2 j) e u->Keep (qe px.2 j) Post u->Post.3 (rh pw) u):Wq D Post [] ((base 3).at ⟨#[.agg (fP c),U xa (M ps) vc]++wy 125 undef,[]⟩ [.code lL]) [] w:=by
 have fin:∀(j:Nat->Prop)(l:Act)(e:pn)(p:List Item),l.1[4]? =N (rh pw)->l.2=[]->gQ (λ_=>False) w e->Wq j Post [] { (base 3).at l p with mode:=.returning } [] e:=λj l e p L V hc=>
  Wq.last (v:=rh pw) (fn:=xz) R V R func3 Zm (λw=>by
   have:l.1[4]? =_:=L;simp[results,results3,go_sem,Frame.at,this]) (λw=>by simp[results,results3,go_sem]) (Y j e · hc)
 rw[S9];obtain⟨a,n⟩:∃a:Array po,a=#[.agg (fP c),U xa (M ps) vc]++wy 125 undef:=⟨_,R⟩
 have g:qd a=127:=by rw[n];simp
 have t0:a[0]? =N (.agg (fP c)):=by rw[n,Z8 aC];rfl
 have i:a[1]? =N (U xa (M ps) vc):=by rw[n,Z8 aC];rfl
 rw[<-n];refine Wq.seq (Wq.walk λt d Q b _=>Hm.Qc g t0 i λa g i k=>b _ _ (Wq.same (y:=o6 w (pj (fP c) 24)) (λ_ _=>R) (Wq.seq ?_)));rw[show(on w t d).1.size=w.1.size from R]at k;obtain⟨w1,ac,C,I⟩:=fL w (fP c) 24;rw[<-ac];refine Wq.walk λt d Q b _=>Hm.Pb g i k λa g i k o=>b _ _ (Wq.same (y:=o6 w1 (pj Hm.Hl 34)) (λ_ _=>R) (Wq.seq ?_));rw[show(on w1 t d).1.size=w1.1.size from R]at o;obtain⟨w2,ad,q,J⟩:=fL w1 Hm.Hl 34;rw[<-ad];have aa:=C.4;have af:=q.4;have S:gQ (λ_=>False) w w1:=(fT.fF C fI _).h;have T:gQ (λ_=>False) w1 w2:=(fT.fF q fI _).h;have E:=S.trans T λ_ _ f=>f;have z:=oy (q.5 _ (fO I)) I;refine Wq.walk λt d Q b _=>Hm.Ow (w:=on w2 t d) (Zs:=λu A e=>A=(Dv.all c (ps.map p9)).1/\∃ls,Hm.B6 e ↑w2 u ls/\ls.map p9=(Dv.all c (ps.map p9)).2/\Below ↑w2 (on w2 t d) e) g i k o z (aO (Hm.Kz c ps (U xa (M ps) vc) (on w2 t d) (K4 (mJ x E) t d) v ab) ?_) λa w3 vw A g i k o t6 t7 O=>b _ _ (Wq.seq (Wq.seq ?_))
 .rintro f e ⟨vl,ls,rfl,u,H,q3⟩;exact⟨vl,_,R,R,ls,u,H,q3⟩
 obtain⟨rfl,ls,s,G,P⟩:=O;refine Wq.walk λt d Q b _=>Hm.Qy g i k o t6 t7 λa h=>b _ _ (Wq.same (y:=w3) (λ_ _=>R) (Wq.block (Wq.loop ?_)));have r:gQ (λ_=>False) w2 w3:=((fT.fF P fI _).h).heaps R R;have W:=(fO J)
 have z3:=oy (r.2 _ W λf=>f) J;have m:Wx w c ↑w ↑w1 vw ls 0 w3:=⟨E.trans r λ_ _ f=>f,aa,oy (r.2 _ (fO z) λf=>f) z,s.1,λH u=>⟨(s.3 H u).1.1,(s.3 H u).2.1⟩,0,[],[],⟨⟨U X 0 0,U X 0 0,U X 0 0,U X 0 0,⟨z3,Hm.fM.nil _ _ _,Hm.fM.nil _ _ _,Hm.fM.nil _ _ _,Hm.fM.nil _ _ _,gh⟩,gh⟩,fI,aC,aC⟩,aA,aC,aC,aC⟩
 refine Ep rd F x v B G aA m h λD1 w4 a m h=>Wq.inLoop ?_;refine Ep rd F x v B G aA m h λK y a m h=>Wq.inLoop ?_;unfold Xt;refine Wq.seq (Wq.seq (Wq.walk λt d Q b _=>Hm.Hp h λa h ae=>b _ _ (Wq.same (y:=y) (λ_ _=>R) (Wq.cond (t:=pi) (by simp[p7,ae]) ?_))));rw[Za aB];refine Wq.exit (k':=[.code (qv NV .ret)]) R (Wq.seq ?_);refine Wq.walk λt d Q b _=>Hm.M0 h λa t4=>b _ _ (Wq.same (y:=y) (λ_ _=>R) (Wq.ret λp=>fin K _ y p t4 R m.1))
end
end
end Pa
namespace alls
open Go.ChangeShapes Go.WideShapes Go.ChangeAt Go.RowKit Go.Conc Go.Proofs.YtpibpdpedjinhaaGreatDoor.Pa
open Hm (fP)
def own:ownKnob Tryz.prog.godebug=X:=Zm
def laidOut:laidOutB px=pw:=Zm
def runs(rd:Cr.ReadW)(H enc W base args g n F)(j:∀(a:Nat) t v,xz.4[a]? =N t->args[a]? =N v->Value.okWide px W .any base t v)(r:DataW.Whole enc px xz.4.1 Rows.allsSpec.2 pi W args.1 g n F)(y:Rows.uptoSmall H (g++n)=pw)(K:laidMetH px Rows.allsUptoRow.16 W)(A:W.ShapedOpen px):Cr.sD px (λv a=>Rows.allsSpec.post enc px xz pi pw pi pi W args v a) (solo (G (X4 px 3 args .normal) []) W) #[]:=by
 have O:=r;obtain⟨ae,am,J,L,rfl,ai,aj⟩:=r;have q:DataW.TrodAll enc px W 0 (λ_=>pw) pw xz.4.1 args.1 g ae:=J;rw[params3]at q j;obtain⟨D,ao,I,ag,p0,q0,s,rfl,rfl,o,r0⟩:=trodAll_cons q;obtain⟨E,ap,l,ah,p1,q1,rfl,rfl,rfl,p,r1⟩:=trodAll_cons r0;obtain⟨rfl,rfl,rfl⟩:=trodAll_nil r1;obtain rfl:args=#[D,E]:=by cases args;simp_all
 obtain⟨rfl,rfl⟩:=trodVars_none L;have B:=o;have C:=p;have ab:∀x∈p0,x.block<W.1.size:=by obtain⟨m,i⟩:=B;exact DataW.trod_lt m _ _ _ i
 have ac:∀x∈p1,x.block<W.1.size:=by obtain⟨m,i⟩:=C;exact DataW.trod_lt m _ _ _ i
 obtain⟨f,rfl,ak⟩:=okWide_struct underlying24 (j 0 24 D R R);obtain⟨e,ad,d,rfl⟩:=okWide_slice qaY (j 1 25 E R R);obtain⟨f0,Q⟩:=o;obtain⟨f1,S⟩:=p;obtain⟨c,hc,z⟩:=DO Q;simp only at z;subst z
 obtain rfl:f=fP c:=by
  have:f.1=(fP c).1:=by simpa[Value.cells]using hc
  cases f
  simp_all
 simp only[dI]at y
 have P:Rows.uptoBulk l<=4294967296:=by
  have h:Rows.uptoBulkAll [I,l]<=1048576:=Zg y;simp only[Rows.uptoBulkAll]at h;omega
 have V:=Tz A;obtain⟨v,k,aq,an,hv,u,aa,T,Y⟩:=JA S P;obtain rfl:U e ad d=v:=by simpa[Value.cells]using hv
 simp only[ry]at u;obtain⟨rfl,rfl,rfl⟩:=u;refine Cr.Gc ?_
 have w:X4 px 3 #[.agg (fP c),U e (M k) d] .normal=(Conc.base 3).at ⟨#[.agg (fP c),U e (M k) d]++wy 125 undef,[]⟩ [.code Hm.lL]:=by
  unfold X4;simp only[func3,bJ,cW,dP,Ha];rfl
 refine Po.ID (fr:=X4 px 3 #[.agg (fP c),U e (M k) d] .normal) ?_ ?_
 .rw[w];refine Pv rd (by simpa[Po.hush]using V) (NL aa) T Y (ES A (NE K)) λaf w' G hc hw x=>?_;have a:=I8 hc hw x;have s:=trodAll_cons_mk (Go.RowKit.Below.trod laidOut Zm (Zg Zm) B a ab) (trodAll_cons_mk (Go.RowKit.Below.trod laidOut Zm (Zg Zm) C a ac) trodAll_mk0);have t:∀b,W.keptBut G b:=λb=>⟨(a.frame b).1,(a.frame b).2.1,(a.frame b).2.2⟩
  exact⟨_,_,_,[],_,[],O,trodAll_mk1 (shut_bool Tryz.underlying4 _),s.of_heap (by rfl),R,t _,λh=>by cases h⟩
 .rw[w];exact L2 func3 R Ha
noncomputable def laidWorld(a:Os):pn:=
 { World.holding px a ⟨#[],#[],[]⟩with heap:=(World.holding px a ⟨#[],#[],[]⟩).1.modify 1 fun
   |pj _ t frozen=>pj #[rh pi,ox .u8 128,ox .u8 183,rh pw,ox .u8 192,ox .u8 247] t frozen
   |o=>o }
def G0:Array po:=#[we #[ox .u32 0,ox .u32 0,ox pg 0,ox pg 0,ox pg 0,ox pg 0,ox pg 0],U X 0 0]
def laid_met(a:Os):laidMet px Rows.allsUptoRow.16 ((laidWorld a).forCall (λ_ _=>0) ⟨#[],G0,[]⟩).memory:=
 laidMet_of_run' 8 Zm Zm
def reads(a:Os){H:Type}(enc:wj×po->H):∃b,DataW.whole enc px ((laidWorld a).forCall (λ_ _=>0) ⟨#[],G0,[]⟩).memory xz.4.1 Rows.allsSpec.2 pi G0.1 8=N ([.agg [.lit (.int .u32 0),.lit (.int .u32 0),.lit (.int pg 0),.lit (.int pg 0),.lit (.int pg 0),.lit (.int pg 0),.lit (.int pg 0)],.nil],[],b):=
 ⟨[],Zm⟩
def GD(rd:Cr.ReadW)(a:Os)(n:a.Started)(H:Type)(enc:wj×po->H)(F:Stop.Interp):ReturnsInLeavingWide {} checked a 3 .any ((Rows.OpenSpec.upto Rows.allsSpec).preRow enc px xz Rows.allsUptoRow.15 pi Rows.allsUptoRow.16) (((Rows.OpenSpec.upto Rows.allsSpec).at F).post enc px xz pi pw pi pi):=by
 obtain⟨o,m⟩:=reads a enc
 refine oh (C:=checked) (s:=Rows.OpenSpec.upto Rows.allsSpec) own n func3
  (witness_row_at (enc:=enc) (C:=checked) pi (laidWorld a) G0 R Zm Zm Zm
   (OpenSpec.preRow_of_cond 8 m Zm (λk i=>by cases i;kernel_rfl) Zm (laid_met a))) ?_
 intro W base b d e c l g h f j;exact runs rd H enc W base b d e c l g (h _ R) f j
def LD(rd:Cr.ReadW):Rows.AllsUptoSaid:=
 oZ 3 xz R R R R R R R ⟨R,R,R,R,R⟩ R R R R R Zm func3 Zm
  (Zg Zm) (by unfold Func.isWrapper;first|(rw[Zb gz];kernel_rfl)|(rw[Za gz];exact⟨R,R⟩))
  (λa b H enc _ F=>by rw[OpenClaim.pre_eq_preRow];exact GD rd a b H enc F)
def plain(f fn)(b:Tryz.pinned.3.2.funcNamed "tributary/tributarylaw.Alls"=N f)(c:Tryz.pinned.3.2.2[f]? =N fn):pi=Tryz.pinned.3.2.looks []/\∀(j:Nat) t,fn.4[j]? =N t->Tryz.pinned.3.2.wantsStandIn t=pi:=by
 obtain rfl:f=3:=cR (oy (show Tryz.prog.funcNamed "tributary/tributarylaw.Alls"=N 3 by kernel_rfl).symm b) |>.symm;obtain rfl:fn=xz:=(cR (oy func3.symm c)).symm;refine⟨Zm,λj t a=>?_⟩;rw[params3]at a;have a:t=24\/t=25:=by simpa using dK a
 obtain rfl|rfl:=a
 .exact(show Tryz.prog.wantsStandIn 24=pi by kernel_rfl)
 .exact(show Tryz.prog.wantsStandIn 25=pi by kernel_rfl)
end alls
section
theorem alls_card_holds:Rows.AllsUptoCardSaid:=
 vQ .later [.data] pw (pw,"86f446d083b21c697143d8f604f5e2b0e35ced65590020ebfc29d445f4fc9267") pi pw (alls.LD Cr.DU) Zm allsUpto_row_tie R ⟨R,R⟩ Zm R alls.plain Zm
end
