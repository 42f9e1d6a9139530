/- For every plan of bulk at most 1048576 tributarykeep.Honest returns true and leaves its argument as it reads: what an honest batcher writes down, each batch in time, cut into pieces, whatever others write meanwhile, is what the lower chain has. The goroutines that it leaves behind go their own ways. No premise. -/
import Derived.Test.YtpibpdpedjinhaaGreatDoorP44
import Derived.Test.YtpibpdpedjinhaaGreatDoorP45
import Derived.Test.YtpibpdpedjinhaaGreatDoorP46
import Derived.Test.YtpibpdpedjinhaaGreatDoorP47
import Derived.Test.YtpibpdpedjinhaaGreatDoorP48
import Derived.Test.YtpibpdpedjinhaaGreatDoorP49
import Derived.Test.YtpibpdpedjinhaaGreatDoorP50
import Derived.Test.YtpibpdpedjinhaaGreatDoorP51
import Derived.Test.YtpibpdpedjinhaaGreatDoorRows
import Derived.ProofKit
import Derived.OpenShut
import Derived.Deep.Slices
import Derived.Deep.Strs
import Derived.Deep.DeepHandedRow
import Derived.Lib.LaidTab
import Derived.ChangeOld
import Derived.Carry
import Derived.Conc.LeavingOf
import Derived.SevenTiedAt
import Derived.Test.YtpibpdpedjinhaaGreatDoorCards
import Derived.Test.YtpibpdpedjinhaaGreatDoorTie
set_option maxRecDepth 100000
set_option maxHeartbeats 4000000
set_option linter.all false
open Array renaming replicate->mi
open Bool renaming false->aL,true->bB
open Go renaming FuncId->qa,TypeId->cH,Value->aD,World->U,wp_seq->iA
open Go.Act renaming eval->lL,put->iv
open Go.Code renaming seq->cL
open Go.DataW renaming trod_int->iz
open Go.Frame renaming enter->iS
open Go.IntKind renaming i64->X
open Go.Operand renaming tmp->eC
open Go.Proofs.Tryz renaming f7->eT,prog->bE,underlying22->rj,underlying3->mC,underlying4->nj,underlying5->gD,underlying9->eI
open Go.Value renaming agg->gP,bool->cF,int->N,ownBlock->eA,slice->aR,string->aH
open Go.Value.slice renaming injEq->eQ
open List renaming eq_of_mem_replicate->oj,ext_getElem?->r9,getElem?_range->qn,length->my,length_set->pN,range->gE,range'->ii,range_succ->lh,replicate->eN
open Nat renaming add_comm->r8,mod_lt->ri,succ_mul->ph
open Option renaming none->Z,some->M
open Prod renaming fst->cG
namespace Go.Proofs.YtpibpdpedjinhaaGreatDoor
namespace Hm
open Go.RowKit Go.Joins Go.Shelf
open Dv (Lo Cf X2 Tx HP)
section
variable {us:List PU}{n i:Nat}{f:Nat->X2}
def IK(t:Tx):Tx:=⟨if t.fr=8 then 7 else t.fr,t.dest,t.data.take 2000⟩
def J3(p0 p1 p2:Int)(gs ls cs:List Int)(ts:List (List UInt8))(os:List Tx):HP where
 W:=1+(pk p2 3).toNat
 S:=8+(pk p1 13).toNat
 n:=1+(pk p0 20).toNat
 gp:=λi=>(pk (pV gs i) (25-((8+(pk p1 13).toNat:Nat):Int))).toNat
 lp:=λi=>(pk (pV ls i) (((1+(pk p2 3).toNat:Nat):Int)+1)).toNat
 cn:=λi=>1+(pk (pV cs i) 100).toNat%4
 od:=λi=>decide ((pk (pV cs i) 100).toNat%2=1)
 nz:=λi=>match os[i%os.length]? with
  |none=>[]
  |some t=>[IK t]
 tx:=λi=>Au ts i
section
variable {p0 p1 p2:Int}{gs ls cs:List Int}{ts:List (List UInt8)}{os:List Tx}
theorem Ea:(J3 p0 p1 p2 gs ls cs ts os).Ok:=by
 have h3:=sU (c:=p2) (n:=3) aA;have I:=sU (c:=p1) (n:=13) aA;have E:=sU (c:=p0) (n:=20) aA;refine⟨?_,?_,?_,?_,?_,?_,λi=>?_,λi=>?_,λi=>?_,λi=>?_,λi=>Mc _ _⟩
 .simp only[J3];omega
 .simp only[J3];omega
 .simp only[J3];omega
 .simp only[J3];omega
 .simp only[J3];omega
 .simp only[J3];omega
 .have:=sU (c:=pV gs i) (n:=25-((8+(pk p1 13).toNat:Nat):Int)) aA;simp only[J3];omega
 .have:=sU (c:=pV ls i) (n:=((1+(pk p2 3).toNat:Nat):Int)+1) aA;simp only[J3];omega
 .simp only[J3];omega
 .simp only[J3];split
  .simp
  .refine⟨aC,λt ht=>?_⟩;rw[dK.1 ht];unfold IK;dsimp only;refine⟨by split<;>omega,by rw[bK];omega⟩
end
structure ZF(w:U)(pb:Nat)(p0 p1 p2:Int)(gs ls cs:List Int)(ts:List (List UInt8))(os:List Tx)(vg vl vq vt vn:aD):Prop where
 bp:w.heap[pb]? =M (.cells #[N X p0,N X p1,N X p2,vg,vl,vq,vt,vn] 65 (0,0))
 rg:Rd w 1 vg gs.length (gs.map (N X))
 rl:Rd w 1 vl ls.length (ls.map (N X))
 rq:Rd w 1 vq cs.length (cs.map (N X))
 rt:Rd w 1 vt ts.length (ts.map lM)
 rn:rO w vn os
 lens:gs.length<=4294967296/\ls.length<=4294967296/\cs.length<=4294967296/\ts.length<=4294967296/\os.length<=4294967296
 few:∀t,t∈os->t.data.length<=4294967296
 ints:∀i,(-9223372036854775808<=pV gs i/\pV gs i<=9223372036854775807)/\(-9223372036854775808<=pV ls i/\pV ls i<=9223372036854775807)/\(-9223372036854775808<=pV cs i/\pV cs i<=9223372036854775807)
theorem ZF.below{w w':U}{pb:Nat}{p0 p1 p2:Int}{gs ls cs:List Int}{ts:List (List UInt8)}{os:List Tx}{vg vl vq vt vn:aD}(h:ZF w pb p0 p1 p2 gs ls cs ts os vg vl vq vt vn)(E:Below w.heap.size w w'):ZF w' pb p0 p1 p2 gs ls cs ts os vg vl vq vt vn:=
 ⟨(E.block _ (jG h.bp)).trans h.bp,h.rg.below E,h.rl.below E,h.rq.below E,h.rt.below E,Rd.below h.rn E,h.lens,h.few,h.ints⟩
def half(p:HP)(i j:Nat):X2:=if j<i then p.u 0 j else⟨0,0,[],[]⟩
theorem Si{J:Nat->X2}{q:PU}(h:us.map cG=(gE n).map f)(hi:i<n)(hq:q.1=J i)(Y:∀j,j≠i->J j=f j):(us.set i q).map cG=(gE n).map J:=by
 rw[List.map_set,h];apply r9;intro j;rw[iR];by_cases I:i=j
 .subst I;simp[hi,hq]
 .rw[Zs I,fE,fE];obtain E|E:=gG j n
  .rw[qn E];simp[Y j (λe=>I e.symm)]
  .rw[List.getElem?_eq_none (by simpa using E)];rfl
theorem wE(h:us.map cG=(gE n).map f)(I:i<n):∃q,us[i]? =M q/\q.1=f i:=by
 have E:us.length=n:=by simpa using Z1 my h
 refine⟨us[i]' aA,aO aA,?_⟩;have:=Z1 (λl=>l[i]?) h;simpa[I,E]using this
section
variable {tm:Array aD}{w0 w:U}{pb cb g off cap i:Nat}{p0 p1 p2:Int}{gs ls cs:List Int}{ts:List (List UInt8)}{os:List Tx}{vg vl vq vt vn:aD}{us:List PU}{p:HP}{q:PU}{Q:Exit->Act->U->Prop}
theorem frz(I:Row w 42 4 (aR (M ⟨g,off,Z⟩) us.length cap) us.length (us.flatMap mO)):∃E,w.heap[g]? =M (.cells E 42 (0,0)):=I.obj rfl
theorem aa2(hA:ZF w0 pb p0 p1 p2 gs ls cs ts os vg vl vq vt vn)(hP:p=J3 p0 p1 p2 gs ls cs ts os)(h:Ho tm pb cb g off cap p.n)(t7:tm[7]? =M (N X (i:Nat)))(hi:i<p.n)(E:wZ w0 cb g off cap p.c us (aR Z 0 0) [] w)(hl:us.length=p.n)(hq:us[i]? =M q)(aa:q.1.time=0)(hb:∀j,j<i->∃r,us[j]? =M r/\r.1.time=p.T j)(hK:∀I w',Ho I pb cb g off cap p.n->I[7]? =M (N X (i:Nat))->wZ w0 cb g off cap p.c (us.set i (⟨q.1.id,p.T i,q.1.txs,q.1.logs⟩,q.2)) (aR Z 0 0) [] w'->Q .normal ⟨I,[]⟩ w'):(Code.seq Uy (.cond (eC 51) Qh .skip)).wp PQ Q ⟨tm,[]⟩ w:=by
 have ok:p.Ok:=by rw[hP];exact Ea
 refine iA (Wp h t7 λai h1 t7 ab=>?_)
 show(Code.cond (eC 51) Qh .skip).wp _ _ _ _
 refine wp_cond (t:=decide (0<i)) (by simp[lL,fD,ab]) ?_;by_cases h0:0<i
 .rw[Z0 h0];obtain⟨j,rfl⟩:∃j,i=j+1:=⟨i-1,aA⟩
  obtain⟨r,hr,af⟩:=hb j aA;have J:=hA.below E.bel
  have hT:p.T j<=456:=by
   have:=(Dv.HP.zF ok j 0).2;have ah:=ok.n20;rw[fJ]at this;have:p.T 0=0:=rfl;omega
  have hg:=sU (c:=pV gs (j+1)) (n:=25-(p.S:Int)) (by have:=ok.S20;omega)
  have ac:((p.gp (j+1):Nat):Int)=pk (pV gs (j+1)) (25-(p.S:Int)):=by
   have e:p.gp (j+1)=(pk (pV gs (j+1)) (25-(p.S:Int))).toNat:=by rw[hP];rfl
   rw[e];omega
  have ae:(w.cell? ⟨g,off+(j+1)*4+1,Z⟩).isSome=bB:=by rw[(E.get hq).2.1];rfl
  have m0:=(E.get hr).2.1;rw[af]at m0;refine Yf (T:=(p.T j:Nat)) (S:=p.S) (r:=p.gp (j+1)) (j:=j) (a0:=pV gs (j+1)) h1 t7 hi rfl ok.n20 ⟨aA,aA⟩ ok.S20 (by have:=ok.gp (j+1);omega) J.bp E.bc rfl (frz E.row) m0 ae (λV hV=>Pq vg gs (j+1) V (J.rg.below hV) hA.lens.1) (λV=>by rw[ac];exact pick_any _ _ V (by have:=ok.S20;omega) aA (hA.ints _).1.1 (hA.ints _).1.2) λag h2 t7=>?_;refine hK _ _ h2 t7 ?_;have:=(E.ae6 (q':=(⟨q.1.id,p.T (j+1),q.1.txs,q.1.logs⟩,q.2)) (u:=N X (p.T j+p.S+p.gp (j+1))) hq (o:=1) aA (by simp[mO,Dv.HP.T]) rfl rfl rfl).below ((aJ _ _).drew);exact this
 .rw[ZZ h0];refine wp_skip (hK _ _ h1 t7 ?_);obtain rfl:i=0:=by omega
  have:(⟨q.1.id,((p.T 0:Nat):Int),q.1.txs,q.1.logs⟩,q.2)=q:=by
   have:((p.T 0:Nat):Int)=q.1.time:=by rw[aa];rfl
   rw[this]
  rw[this]
  have Y:us.set 0 q=us:=by
   obtain⟨hl,rfl⟩:=aN.1 hq;exact List.set_getElem_self _
  rw[Y];exact E
theorem Xn(hA:ZF w0 pb p0 p1 p2 gs ls cs ts os vg vl vq vt vn)(hP:p=J3 p0 p1 p2 gs ls cs ts os)(h:Ho tm pb cb g off cap p.n)(t7:tm[7]? =M (N X (i:Nat)))(hi:i<p.n)(hM:wZ w0 cb g off cap p.c us (aR Z 0 0) [] w)(hl:us.length=p.n)(hq:us[i]? =M q)(Y:q.1.txs=[])(hK:∀ae w' v,Ho ae pb cb g off cap p.n->ae[7]? =M (N X (i:Nat))->wZ w0 cb g off cap p.c (us.set i (⟨q.1.id,q.1.time,p.nz i,q.1.logs⟩,v,q.2.2)) (aR Z 0 0) [] w'->Q .normal ⟨ae,[]⟩ w'):(Code.seq Ul (.cond (eC 77) (cL Tt (cL Tn (cL Uc U4))) .skip)).wp PQ Q ⟨tm,[]⟩ w:=by
 have ok:p.Ok:=by rw[hP];exact Ea
 have J:=hA.below hM.bel;obtain⟨na,nc,ax⟩:=Rd.slice hA.rn;subst ax;refine iA (XF h t7 J.bp λa7 h1 t7 ay=>?_)
 show(Code.cond (eC 77) _ .skip).wp _ _ _ _
 refine wp_cond (t:=decide (0<os.length)) (by simp[lL,fD,ay]) ?_;by_cases h0:0<os.length
 .rw[Z0 h0];have aj:i%os.length<os.length:=ri _ h0;obtain⟨t,ht⟩:∃t,os[i%os.length]? =M t:=⟨_,aO aj⟩
  have af:p.nz i=[IK t]:=by rw[hP];simp only[J3];rw[ht]
  obtain⟨ng,no,a4,e,-,an,-⟩:=Rd.pos J.rn h0;simp only[eQ,true_and]at e;obtain⟨rfl,rfl⟩:=e;obtain⟨m0,m1,m2⟩:=rO.get J.rn ht;have hdl:=hA.few t (aX ht);refine iA (Xk h1 t7 ok.n20 hi h0 hA.lens.2.2.2.2 rfl J.bp an m0 m1 m2 λa9 h2 t7 t8=>?_);obtain⟨w2,ao,aq,z2⟩:=jI w #[N .u32 (t.fr:Nat),N .u32 (t.dest:Nat),aH ⟨t.data.toArray⟩] 68;rw[<-ao];have aa:Below w.heap.size w w2.drew:=aq.drew;have z2:w2.drew.heap[w.heap.size]? =_:=z2;have ap:=(aa.block _ (jG hM.bc)).trans hM.bc;refine iA (XH h2 t7 t8 z2 ap rfl λa5 w3 f' h3 t7 t8 au f8 f1 f2 z3=>?_);refine iA (Yd h3 t7 t8 z3 (by rw[bD];exact hdl) λa8 w4 D' h4 t7 t8 a1 hD z4=>?_);have aw:Below w.heap.size w w4:=(aa.trans (au _ jE)).trans (a1 _ jE);have E:=hM.below aw;obtain⟨a3,am⟩:=E.row.obj (g:=g) rfl;have I:=(E.tx q (aX hq)).1;obtain⟨ta,tc,ac⟩:=I.slice;have ab:=(E.get hq).2.2.1;rw[ac]at ab I;rw[Y]at ab I ac;refine Yo h4 t7 t8 hi ok.n20 aC ab am I z4 λa6 Wa w5 g5 ai ak h5 t7 hX av a2=>?_
  have ag:IK t=⟨f',t.dest,D'.data.toList⟩:=by
   unfold IK;rw[hD]
   congr 1
   by_cases e:t.fr=8
   .rw[ZD e,f2 e]
   .rw[Zs e,f1 e]
  have az:Grew q.2.1 g5 Wa w5:=by rw[ac];exact a2
  have:=E.app (t:=IK t) hq hX (by rw[Y,ag];simpa[oZ]using av) az;rw[Y]at this;refine hK _ _ (aR (M ⟨g5,ai,Z⟩) (([]:List Tx).length+1) ak) h5 t7 ?_;rw[af];exact this
 .rw[ZZ h0];refine wp_skip (hK _ _ q.2.1 h1 t7 ?_);have ar:os=[]:=bP aA;have af:p.nz i=[]:=by rw[hP];simp only[J3];rw[ar];rfl
  have:(⟨q.1.id,q.1.time,p.nz i,q.1.logs⟩,q.2.1,q.2.2)=q:=by rw[af,<-Y]
  rw[this]
  have ah:us.set i q=us:=by
   obtain⟨hl,rfl⟩:=aN.1 hq;exact List.set_getElem_self _
  rw[ah];exact hM
theorem WE(hA:ZF w0 pb p0 p1 p2 gs ls cs ts os vg vl vq vt vn)(hP:p=J3 p0 p1 p2 gs ls cs ts os)(h:Ho tm pb cb g off cap p.n)(Y:wZ w0 cb g off cap p.c us (aR Z 0 0) [] w)(I:us.map cG=(gE p.n).map (half p 0))(hK:∀ac w' aa,Ho ac pb cb g off cap p.n->wZ w0 cb g off cap p.c aa (aR Z 0 0) [] w'->aa.map cG=p.us 0->Q .normal ⟨ac,[]⟩ w'):(Code.seq VR (.block 0 (.loop (cL (cL ho8 (.cond (eC 41) .skip (.exit 0))) (cL (.block 1 (cL XR (cL (cL Uy (.cond (eC 51) Qh .skip)) (cL Ul (.cond (eC 77) (cL Tt (cL Tn (cL Uc U4))) .skip))))) ho9))))).wp PQ Q ⟨tm,[]⟩ w:=by
 have ok:p.Ok:=by rw[hP];exact Ea
 refine iA (aaI h λak h1 t7=>?_)
 show(Code.block 0 _).wp _ _ _ _
 refine wp_block (DT (λk a wy=>∃(tm:Array aD)(i:Nat)(us:List PU),a=⟨tm,[]⟩/\k=p.n-i/\i<=p.n/\Ho tm pb cb g off cap p.n/\tm[7]? =M (N X (i:Nat))/\wZ w0 cb g off cap p.c us (aR Z 0 0) [] wy/\us.map cG=(gE p.n).map (half p i)) ⟨_,ak,0,us,rfl,rfl,dL _,h1,t7,Y,I⟩ ?_);rintro k a wy ⟨aw,i,us,rfl,rfl,hi,hx,t7,Y,I⟩;have hl:us.length=p.n:=by simpa using Z1 my I
 refine iA (iA (abY hx t7 λaq h2 t7 aj=>?_))
 show(Code.cond (eC 41) .skip (.exit 0)).wp _ _ _ _
 refine wp_cond (t:=decide (i<p.n)) (by simp[lL,fD,aj]) ?_;by_cases E:i<p.n
 .rw[Z0 E];refine wp_skip ?_
  show(Code.seq (Code.block 1 _) ho9).wp _ _ _ _
  obtain⟨q,hq,ag⟩:=wE I E;have J:q.1=⟨0,0,[],[]⟩:=by rw[ag,half,Zs (Nat.lt_irrefl _)]
  obtain⟨ar,ae⟩:=Y.row.obj (g:=g) rfl;refine iA (wp_block (iA (Z7 h2 t7 E ok.n20 (Y.get hq).1 (aQ ae) λau h3 t7=>?_)));have ai:=Y.ae6 (q':=(⟨(100+i:Nat),q.1.time,q.1.txs,q.1.logs⟩,q.2)) (u:=N X ((100+i:Nat):Int)) hq (o:=0) aA (by simp[mO]) rfl rfl rfl
  have an:(us.set i (⟨(100+i:Nat),q.1.time,q.1.txs,q.1.logs⟩,q.2))[i]? =M (⟨(100+i:Nat),q.1.time,q.1.txs,q.1.logs⟩,q.2):=by
   rw[iR,ZD rfl,ZD aA]
  refine iA (aa2 hA hP h3 t7 E ai (by rw[pN];exact hl) an (by rw[J]) (λj hj=>?_) λav w4 h4 t7 ab=>?_)
  .obtain⟨r,hr,am⟩:=wE I (show j<p.n by omega);refine⟨r,by rw[iR,Zs aA];exact hr,?_⟩;rw[am,half,ZD hj];rfl
  rw[List.set_set]at ab
  have ao:(us.set i (⟨(100+i:Nat),(p.T i:Nat),q.1.txs,q.1.logs⟩,q.2))[i]? =M (⟨(100+i:Nat),(p.T i:Nat),q.1.txs,q.1.logs⟩,q.2):=by
   rw[iR,ZD rfl,ZD aA]
  refine Xn hA hP h4 t7 E ab (by rw[pN];exact hl) ao (by rw[J]) λap w5 v h5 t7 af=>?_;rw[List.set_set]at af;refine abH h5 t7 (by have:=ok.n20;omega) λah h6 t7=>?_;refine⟨_,aA,ah,i+1,_,rfl,rfl,E,h6,t7,af,Si I E ?_ λj hj=>?_⟩
  .rw[half,ZD aA];dsimp only;rw[J];simp[Dv.HP.u]
  .unfold half;by_cases h:j<i
   .rw[ZD aA,ZD h]
   .rw[Zs aA,Zs h]
 .rw[ZZ E];obtain rfl:i=p.n:=by omega
  refine wp_exit (hK _ _ us h2 Y ?_);rw[I];unfold Dv.HP.us;refine jo λj hj=>?_;rw[half,ZD (gV.1 hj)]
end
end
section
def wl(p:HP)(k:Nat):Lo:=⟨k,(k*p.S:Nat),p.ep k,0,0,p.tx k,[],0⟩
def ZL{p:HP}{j m:Nat}:p.u (j+1) m=if p.pl (j+1)=m then⟨(p.u j m).id,(p.u j m).time,(p.u j m).txs++[⟨8,9,p.data (j+1)⟩],(p.u j m).logs⟩else p.u j m:=by
 have e:ii 1 (j+1)=ii 1 j++[j+1]:=by
  rw[List.range'_concat];simp[r8]
 unfold Dv.HP.u;rw[e,iJ];split
 .rename_i h;simp[h]
 .rename_i h;simp[h]
section
variable {tm:Array aD}{w0 w:U}{pb cb g off cap:Nat}{p0 p1 p2:Int}{gs ls cs:List Int}{ts:List (List UInt8)}{os:List Tx}{vg vl vq vt vn:aD}{us:List PU}{p:HP}{Q:Exit->Act->U->Prop}
theorem Yv(hA:ZF w0 pb p0 p1 p2 gs ls cs ts os vg vl vq vt vn)(hP:p=J3 p0 p1 p2 gs ls cs ts os)(hH:kG w0)(h:Ho tm pb cb g off cap p.n)(t9:tm[9]? =M (aR Z 0 0))(t10:tm[10]? =M (N X ((0:Nat):Int)))(hM:wZ w0 cb g off cap p.c us (aR Z 0 0) [] w)(I:us.map cG=p.us 0)(hK:∀ae w' aq vw ws,ae.size=273->ae[4]? =M (.pointer (M ⟨cb,0,Z⟩))->ae[6]? =M (aR (M ⟨g,off,Z⟩) p.n cap)->ae[9]? =M vw->wZ w0 cb g off cap p.c aq vw ws w'->aq.map cG=p.us p.K->ws.map cG=(ii 1 p.K).map (wl p)->Q .normal ⟨ae,[]⟩ w'):(Code.seq Xj (.block 2 (.loop (cL (cL XG (.cond (eC 123) .skip (.exit 2))) (cL (.block 3 (cL Yq (cL Yh (cL XP (cL XU (cL ZM (cL YH (cL YR YO)))))))) Vw))))).wp PQ Q ⟨tm,[]⟩ w:=by
 have ok:p.Ok:=by rw[hP];exact Ea
 have n1:=ok.n1;have n20:=ok.n20;have S8:=ok.S8;have S20:=ok.S20;obtain⟨K1,K2,cg⟩:=Dv.HP.XL ok
 have an:∀m,m<p.n->p.T m<=456:=λm hm=>by
  have:=(Dv.HP.zF ok m 0).2;rw[fJ]at this;have:p.T 0=0:=rfl;omega
 refine iA (ZC h t9 t10 λb0 h1=>?_)
 show(Code.block 2 _).wp _ _ _ _
 refine wp_block (DT (λk a wy=>∃(tm:Array aD)(j:Nat)(us:List PU)(vw:aD)(ws:List PL),a=⟨tm,[]⟩/\k=p.K-j/\j<=p.K/\Hk tm pb cb g off cap p.n vw (p.ep j) (j+1)/\wZ w0 cb g off cap p.c us vw ws wy/\us.map cG=p.us j/\ws.map cG=(ii 1 j).map (wl p)) ⟨_,b0,0,us,_,[],rfl,rfl,dL _,h1,hM,I,rfl⟩ ?_);rintro k a wy ⟨ce,j,us,vw,ws,rfl,rfl,hj,hx,hM,I,ak⟩;have hl:us.length=p.n:=by have:=Z1 my I;rwa[bC,Dv.HP.zC]at this
 obtain⟨ql,b4,bj⟩:=wE (i:=p.n-1) I aA;have mT:=(hM.get b4).2.1;rw[bj]at mT;obtain⟨t,ht⟩:∃t,(j+1)*p.S=t:=⟨_,rfl⟩
 refine iA (iA (YU (T:=p.T (p.n-1)) (j:=p.n-1) hx S20 aA rfl ht (by have:=an (p.n-1) aA;omega) n20 aA hM.bc mT λcx V2 h2 bb bv=>?_))
 show(Code.cond (eC 123) .skip (.exit 2)).wp _ _ _ _
 refine wp_cond (t:=decide (t<=p.T (p.n-1))) (by simp[lL,fD,bb]) ?_;replace hM:=hM.below bv;have cw:(j+1)*p.S=j*p.S+p.S:=ph ..;by_cases ax:t<=p.T (p.n-1)
 .rw[Z0 ax];refine wp_skip ?_
  show(Code.seq (Code.block 3 _) Vw).wp _ _ _ _
  have ag:j+1<=p.K:=by
   obtain hc|hc:=gG p.K (j+1)
   .have:(p.K+1)*p.S<=(j+1)*p.S:=fK _ hc;rw[ph]at this;omega
   .exact hc
  obtain⟨e1,e2,e3⟩:=Dv.HP.vF ok j;obtain⟨f1,f2,f3⟩:=Dv.HP.vF ok (j+1);have br:=Dv.HP.CJ ok ag;rw[ht]at br f2 f3;have av:=hA.below hM.bel;refine iA (wp_block (iA (YP S20 aA rfl ht h2 hM.bc λcj h3 E=>?_)));refine iA (Zo (T:=p.T (p.ep j+1)) (t:=t) h3 E ?_ aA e1 n20 (λhl=>?_) λcr h4 E=>?_)
  .obtain hc|hc:=gG (p.ep j+1) p.n
   .have:=an _ hc;omega
   .have:=(Dv.HP.Dn ok (p.ep j)).2;have:=an _ e1;omega
  .obtain⟨r,hr,bm⟩:=wE I hl;have:=(hM.get hr).2.1;rw[bm]at this;exact this
  have b1:(if p.ep j+1<p.n/\p.T (p.ep j+1)<=t then p.ep j+1 else p.ep j)=p.ep (j+1):=by rw[<-ht];rfl
  rw[b1]at h4;have bl:p.tx (j+1)=Au ts (j+1):=by rw[hP];rfl
  refine iA (Zd (R:=λa m c w'=>m=(p.tx (j+1)).length/\Made w' V2.heap.size (.slice a m c) (p.tx (j+1))/\Below V2.heap.size V2 w') h4 E av.bp (aT (QL vt ts (j+1) V2 av.rt hA.lens.2.2.2.1 aA) ?_) λcm w5 sa sn sc h5 E J hR=>?_)
  .rintro e' w' ⟨a,az,rfl,q1,q2⟩;rw[bl];exact⟨a,_,az,rfl,rfl,q1,q2⟩
  obtain⟨rfl,am,b7⟩:=hR;have aj:=hM.below b7;obtain⟨ma,mc,bq⟩:=aj.wrow.slice;have ac:ws.length=j:=by have:=Z1 my ak;simpa using this
  subst bq;rw[ac]at h5;have a7:=aj.wrow;rw[ac]at a7;refine iA (ZB h5 E J a7 aA λcy w6 Wa g6 ca b9 h6 E J hX a3 bz=>?_);have af:=aj.want (x:=(wl p (j+1),.slice sa (p.tx (j+1)).length sc,aR Z 0 0)) hX (by rw[ac];unfold kM wl;rw[<-ht]at a3;exact a3) (by rw[ac];exact bz) am.1;rw[ac]at af;have co:Below w0.heap.size w0 w6:=af.bel
  have au:(ws++[((wl p (j+1),.slice sa (p.tx (j+1)).length sc,aR Z 0 0):PL)]).map cG=(ii 1 (j+1)).map (wl p):=by
   rw[List.range'_concat,bJ,bJ,ak];simp[r8]
  have aw:=hA.below af.bel
  have bu:((p.lp (j+1):Nat):Int)=pk (pV ls (j+1)) ((p.W:Int)+1):=by
   have e:p.lp (j+1)=(pk (pV ls (j+1)) ((p.W:Int)+1)).toNat:=by rw[hP];rfl
   have:=sU (c:=pV ls (j+1)) (n:=(p.W:Int)+1) aA;rw[e];omega
  have ci:=ok.lp (j+1);have b2:=ok.W3;refine iA (YI (W:=p.W) (r:=p.lp (j+1)) (a0:=pV ls (j+1)) h6 E J aA b2 aA rfl aw.bp af.bc (λV hV=>Pq vl ls (j+1) V (aw.rl.below hV) hA.lens.2.1) (λV=>by rw[bu];exact pick_any _ _ V aA aA (hA.ints _).2.1.1 (hA.ints _).2.1.2) λcv V7 h7 E J aa b8=>?_);have Y:=af.below b8;refine iA (Y1 h7 E J aa aA n1 n20 λcu h8 E J aa=>?_);have bw:min (p.ep (j+1)+p.lp (j+1)) (p.n-1)=p.pl (j+1):=rfl;rw[bw]at aa;have ao:p.pl (j+1)<p.n:=by unfold Dv.HP.pl;omega
  have a6:=hA.below Y.bel;obtain⟨qe,bo,a5⟩:=wE I f1;have mI:=(Y.get bo).1;rw[a5]at mI;have cp:=sU (c:=pV cs (j+1)) (n:=100) aA;have ar:kX V7 (.slice sa (p.tx (j+1)).length sc) (p.tx (j+1)):=Y.wstr _ (List.mem_append_right _ (dK.2 rfl));have cl:=Dv.zl (e:=p.ep (j+1)) (id:=100+p.ep (j+1)) (t:=t) aA aA aA (ok.tx (j+1));refine iA (Z5 (r:=(pk (pV cs (j+1)) 100).toNat) (a0:=pV cs (j+1)) (B:=⟨(Dv.qc (p.ep (j+1)) (100+p.ep (j+1)) t (p.tx (j+1))).toArray⟩) (D:=⟨(p.data (j+1)).toArray⟩) h8 E J aa f1 a6.bp (Y.row.lt rfl) mI (λV hV=>?_) (λV hV=>Pq vq cs (j+1) V (a6.rq.below hV) hA.lens.2.2.1) (λV=>?_) (λV hV=>?_) λct V9 h9 aa bx bs=>?_)
  .refine aT (Qv (p.ep (j+1)) (100+p.ep (j+1)) t _ (p.tx (j+1)) V aA aA aA (Row.rd (Row.below ar hV)) (ok.tx (j+1)) ?_) ?_
   .exact hH.below (Y.bel.trans (hV.mono Y.bel.size)) hH.pos
   .rintro e' w' ⟨rfl,q⟩;exact⟨rfl,hV.trans (q.mono hV.size)⟩
  .have:=pick_any (pV cs (j+1)) 100 V aA aA (hA.ints _).2.2.1 (hA.ints _).2.2.2;rwa[show pk (pV cs (j+1)) 100=(((pk (pV cs (j+1)) 100).toNat:Nat):Int) from by omega]at this
  .refine aT (X4 (j+1) _ (pk (pV cs (j+1)) 100).toNat V aA (by rw[bD];show(Dv.qc _ _ _ _).length<=_;omega) aA) ?_;rintro e' w' ⟨rfl,q⟩;refine⟨?_,hV.trans (q.mono hV.size)⟩
   have:p.data (j+1)=Dv.Kz (j+1) (Dv.qc (p.ep (j+1)) (100+p.ep (j+1)) t (p.tx (j+1))) (1+(pk (pV cs (j+1)) 100).toNat%4) (decide ((pk (pV cs (j+1)) 100).toNat%2=1)):=by
    unfold Dv.HP.data;rw[ht]
    congr 1
    .rw[hP];rfl
    .rw[hP];rfl
   rw[this]
  have ab:=Y.below bs;obtain⟨qm,ai,ah⟩:=wE I ao;have ba:=(ab.tx qm (aX ai)).1;obtain⟨ta,tc,a8⟩:=ba.slice;have m2:=(ab.get ai).2.2.1;have ap:=ba;rw[a8]at m2 ap;obtain⟨cd,bh⟩:=ab.row.obj (g:=g) rfl
  have bk:qm.1.txs.length<=1000:=by
   rw[ah];have a1:=(ok.nz (p.pl (j+1))).1;have a2:=gZ (λi=>p.pl i == p.pl (j+1)) (ii 1 j);rw[List.length_range']at a2;simp only[Dv.HP.u,aS,bC];omega
  refine Yk h9 aa bx ao n20 bk m2 bh ap ab.bc rfl rfl λcc cz w10 ck b5 b3 h10 a9 bg ay=>?_;have a4:=ab.app (t:=⟨8,9,p.data (j+1)⟩) ai a9 (by simpa[oZ]using bg) (by rw[a8];exact ay);refine Zr h10 aA λbd b6=>?_;refine⟨_,aA,bd,j+1,_,_,_,rfl,rfl,ag,b6,a4,?_,au⟩;unfold Dv.HP.us;refine Si (f:=p.u j) I ao ?_ λm hm=>?_
  .rw[ZL,ZD rfl,ah]
  .rw[ZL,Zs (λe=>hm e.symm)]
 .rw[ZZ ax]
  have ag:j=p.K:=by
   obtain hc|hc:=gG j p.K
   .have:(j+1)*p.S<=p.K*p.S:=fK _ hc;omega
   .omega
  subst ag;exact wp_exit (hK _ _ us vw ws h2.ho.size h2.ho.s4 h2.ho.s6 h2.s9 hM I ak)
end
end
open Dv (Lo Cf X2 Tx)
section
def adU{w:U}{pl:List PL}{g off cap n j:Nat}{x:PL}(h:Row w 62 8 (aR (M ⟨g,off,Z⟩) n cap) n (pl.flatMap kM))(J:pl.length=n)(q:pl[j]? =M x):∀i u,i<8->(kM x)[i]? =M u->w.cell? ⟨g,off+j*8+i,Z⟩=M u:=λi u I E=>by
 subst J;rw[dV];exact Rd.rec kM 8 (λ_=>rfl) h.rd q I E
section
variable {tm:Array aD}{w:U}{wa la:Option Addr}{wc lc:Nat}{ws pl:List PL}{Q:Exit->Act->U->Prop}
theorem aaK(hs:tm.size=273)(t9:tm[9]? =M (.slice wa ws.length wc))(ac:tm[16]? =M (.slice la (ws.length+1) lc))(au:tm[17]? =M (N X 0))(a2:ws.length<=1000)(hw:Row w 62 8 (.slice wa ws.length wc) ws.length (ws.flatMap kM))(aw:∀q,q∈ws->kX w q.2.1 q.1.txs)(ax:pl.length=ws.length+1)(hp:Row w 62 8 (.slice la (ws.length+1) lc) (ws.length+1) (pl.flatMap kM))(av:∀q,q∈pl->kX w q.2.1 q.1.txs/\kX w q.2.2 q.1.deps)(af:∀i x y,pl[i+1]? =M x->ws[i]? =M y->x.1.txs=y.1.txs/\x.1.number=y.1.number/\x.1.time=y.1.time/\x.1.epoch=y.1.epoch)(aq:∀y,y∈ws->y.1.txs.length<=100)(hK:∀ao w',ao[2]? =M (cF bB)->Below w.heap.size w w'->Q .ret ⟨ao,[]⟩ w'):(Code.seq Yb (cL (cL aac (.block 4 (.loop (cL (cL ZV (.cond (eC 225) .skip (.exit 4))) (cL (.block 5 (cL ZR (cL Za Zp))) UK))))) (cL YJ .ret))).wp PQ Q ⟨tm,[]⟩ w:=by
 refine iA (WL hs t9 ac au a2 λbb hs t9 ac=>?_);refine iA (iA (ZE hs t9 ac λa4 h2=>?_))
 show(Code.block 4 _).wp _ _ _ _
 refine wp_block (DT (λk a wy=>∃(tm:Array aD)(i:Nat),a=⟨tm,[]⟩/\k=ws.length-i/\i<=ws.length/\Hz tm (.slice wa ws.length wc) (.slice la (ws.length+1) lc) i/\Below w.heap.size w wy) ⟨_,a4,0,rfl,rfl,dL _,h2,aJ _ _⟩ ?_);rintro k a wy ⟨a7,i,rfl,rfl,hi,hx,hb⟩;refine iA (iA (Zl hx λa9 h3 ai=>?_))
 show(Code.cond (eC 225) .skip (.exit 4)).wp _ _ _ _
 refine wp_cond (t:=decide (i<ws.length)) (by simp[lL,fD,ai]) ?_;by_cases I:i<ws.length
 .rw[Z0 I];refine wp_skip ?_
  show(Code.seq (Code.block 5 _) UK).wp _ _ _ _
  obtain⟨x,ag⟩:∃x,pl[i+1]? =M x:=⟨_,aO aA⟩
  obtain⟨y,aa⟩:∃y,ws[i]? =M y:=⟨_,aO I⟩
  obtain⟨s1,s2,s3,s4⟩:=af i x y ag aa;obtain⟨lg,lo,bg,e,-⟩:=hp.pos aA;simp only[eQ,true_and]at e;obtain⟨rfl,rfl⟩:=e;obtain⟨wg,wo,a8,e,-⟩:=hw.pos aA;simp only[eQ,true_and]at e;obtain⟨rfl,rfl⟩:=e;have kx:=adU (hp.below hb) ax ag;have J:=(av x (aX ag))
  have ab:=aw y (aX aa);obtain⟨xa,xc,am⟩:=J.1.slice;obtain⟨da,dc,az⟩:=J.2.slice;obtain⟨sa,sc,ah⟩:=ab.slice;have k5:=kx 5 _ aA rfl;have k6:=kx 6 _ aA rfl;rw[am]at k5;rw[az]at k6;refine iA (wp_block (iA (VY h3 aA aA (kx 0 _ aA rfl) (kx 1 _ aA rfl) (kx 2 _ aA rfl) (kx 3 _ aA rfl) (kx 4 _ aA rfl) k5 k6 (kx 7 _ aA rfl) λa1 h4 t19=>?_)));obtain⟨w4,ar,a6,z4⟩:=jI wy #[N X x.1.number,N X x.1.time,N X x.1.epoch,N X x.1.id,N X x.1.seq,.slice xa x.1.txs.length xc,.slice da x.1.deps.length dc,N X x.1.at_] 62;rw[<-ar];have E:=hb.trans (a6.mono hb.size);obtain⟨z0,z1,z2,-,-,z5⟩:=tX z4;have ky:=adU (hw.below E) rfl aa;have y5:=ky 5 _ aA rfl;rw[ah]at y5;have an:=(jG z4)
  have aj:=(hw.below E).lt (g:=wg) rfl;refine iA (YA h4 t19 I z5 y5 (λV hV=>?_) λba V5 h5 t19 t20 ap=>?_)
  .have ak:=E.trans (hV.mono E.size);have:=Gs (.slice xa x.1.txs.length xc) (.slice sa y.1.txs.length sc) x.1.txs y.1.txs V (by have:=Row.rd (Row.below J.1 ak);rwa[am]at this) (by have:=Row.rd (Row.below ab ak);rwa[ah]at this) (by rw[s1];have:=aq y (aX aa);omega);rw[Z0 s1]at this;refine aT this ?_;rintro e' w' ⟨rfl,q⟩;have ae:=hV.trans (q.mono hV.size);exact⟨rfl,ae,(ae.cell (p:=⟨wy.heap.size,_,Z⟩) an).trans z5,(ae.cell (p:=⟨wg,_,Z⟩) aj).trans y5⟩
  have Y:=E.trans (ap.mono E.size);have a5:=(ap.block _ an).trans z4;obtain⟨z0,z1,z2⟩:=cells3 a5;have ky:=adU (hw.below Y) rfl aa;have y0:=ky 0 _ aA rfl;have y1:=ky 1 _ aA rfl;have y2:=ky 2 _ aA rfl;rw[<-s2]at y0;rw[<-s3]at y1;rw[<-s4]at y2;refine Zv h5 t19 t20 I z0 y0 z1 y1 z2 y2 λbd V6 h6 ay=>?_;refine YZ h6 aA λa3 h7=>?_;exact⟨_,aA,a3,i+1,rfl,rfl,I,h7,Y.trans (ay.mono Y.size)⟩
 .rw[ZZ I];refine wp_exit ?_;refine iA (Ye h3 λa1 _ t2=>?_);exact wp_ret (hK _ _ t2 hb)
end
end
end Hm
namespace Pa
open Go Go.Conc Go.RowKit Go.Joins
open Hm (ptr jL kF jO pR nK PU PL kM kX mO cq Ho wZ ZF Rd rO lM pV pk J3 mD ho0 ho1 ho2 ho4 ho5 ho6 VR ho8 ho9 XR Uy Qh Ul Tt Tn Uc U4 abr acg Xj XG Vw Yq Yh XP XU ZM YH YR YO adX Yb aac ZV UK ZR Za Zp YJ)
open Dv (X2 Cf Tx)
open Po hiding X2 H B IT PR NB
section
variable {w w':U}{s n:Nat}{v u:aD}{tm:Array aD}{ws:List PL}
theorem Gn{xs:List aD}(h:Rd w s v n xs)(q:kF (λ_=>False) w w'):Rd w' s v n xs:=Hm.Rd.kept h q.size (λ_ g _ E=>q.block g E (λe=>e))
theorem hput{s':Nat}(h:tm[s]? =M v)(q:s'≠s):(tm.setIfInBounds s' u)[s]? =M v:=by grind
theorem hnew(h:s<tm.size):(tm.setIfInBounds s u)[s]? =M u:=by grind
theorem abV{bc:Nat}{c:Cf}{a:Act}(hb:w.heap[bc]? =M (.cells (jL c) 24 (0,0)))(hs:a.eval (eC s)=ptr bc):∀t d (o:Oper),o.op=.load 24 (eC s)->(execOp a.eval o).run PQ (on w t d)=.ok (.value (.agg (jL c))) (on w t d):=λt d o h=>by
 have c:=yR (w:=on w t d) hb;have J:=c 0;have q:=c 1;have E:=c 2;have I:=c 3;have k4:=c 4;have k5:=c 5;have Y:=c 6;unfold execOp;simp only[h,hs,ptr];simp[go_sem,J,q,E,I,k4,k5,Y,jL]
theorem adH:mD=cL ho0 (cL ho1 (cL ho2 (cL ho4 (cL ho5 (cL ho6 (cL (cL VR (.block 0 (.loop (cL (cL ho8 (.cond (eC 41) .skip (.exit 0))) (cL (.block 1 (cL XR (cL (cL Uy (.cond (eC 51) Qh .skip)) (cL Ul (.cond (eC 77) (cL Tt (cL Tn (cL Uc U4))) .skip))))) ho9))))) (cL abr (cL acg (cL (cL Xj (.block 2 (.loop (cL (cL XG (.cond (eC 123) .skip (.exit 2))) (cL (.block 3 (cL Yq (cL Yh (cL XP (cL XU (cL ZM (cL YH (cL YR YO)))))))) Vw))))) (cL adX (cL Yb (cL (cL aac (.block 4 (.loop (cL (cL ZV (.cond (eC 225) .skip (.exit 4))) (cL (.block 5 (cL ZR (cL Za Zp))) UK))))) (cL YJ .ret))))))))))))):=XN
theorem Tc:Tryz.f7.body=M mD:=XN
def zU:PU:=(⟨0,0,[],[]⟩,aR Z 0 0,aR Z 0 0)
theorem Xp(n:Nat):madeCells #[N X 0,N X 0,aR Z 0 0,aR Z 0 0] (n*4)=((eN n zU).flatMap mO).toArray:=by
 apply Array.ext';rw[madeCells,Array.toList_map,Array.toList_range]
 show(gE (n*4)).map _=(eN n zU).flatMap mO
 induction n with
 |zero=>rfl
 |succ n ih=>
  have e:(n+1)*4=n*4+1+1+1+1:=aA
  rw[e,lh,lh,lh,lh,List.replicate_succ',iC,<-ih];simp only[bJ,eP,fP,fM,dN,dS];have q:n*4%4=0:=aA
  have E:(n*4+1)%4=1:=aA
  have J:(n*4+1+1)%4=2:=aA
  have I:(n*4+1+1+1)%4=3:=aA
  simp[q,E,J,I,mO,zU]
theorem Zc{a b:U}(h:Below n a b)(t d):Below n (on a t d) (on b t d):=⟨h.os,rfl,h.output,h.size,h.block⟩
theorem V4{J:U}{I g off cap:Nat}{c:Cf}{us:List PU}{vw:aD}(h:wZ w I g off cap c us vw ws J)(t d):wZ (on w t d) I g off cap c us vw ws (on J t d):=
 ⟨Zc h.bel t d,h.bc,h.row.kept λ_ _=>rfl,h.lg,λq E=>⟨Hm.Row.kept (h.tx q E).1 λ_ _=>rfl,(h.tx q E).2⟩,h.own,h.apart,h.wrow.kept λ_ _=>rfl,h.wown,λq E=>Hm.Row.kept (h.wstr q E) λ_ _=>rfl⟩
theorem vH{E:Nat}{p0 p1 p2:Int}{gs ls cs:List Int}{ts:List (List UInt8)}{os:List Tx}{vg vl vq vt vn:aD}(h:ZF w E p0 p1 p2 gs ls cs ts os vg vl vq vt vn)(q:kF (λ_=>False) w w'):ZF w' E p0 p1 p2 gs ls cs ts os vg vl vq vt vn:=
 ⟨(q.block _ (jG h.bp) (λe=>e)).trans h.bp,Gn h.rg q,Gn h.rl q,Gn h.rq q,Gn h.rt q,Gn h.rn q,h.lens,h.few,h.ints⟩
theorem SV(h:Below w.heap.size w w'):kF (λ_=>False) w w':=(jO.below h jE _).h
section
variable {Post:Ir}{p0 p1 p2:Int}{gs ls cs:List Int}{ts:List (List UInt8)}{os:List Tx}{vg vl vq vt vn:aD}
theorem abB{p:Dv.HP}(ok:p.Ok){pl:List PL}(q:ws.map cG=(ii 1 p.K).map (Hm.wl p))(E:pl.map cG=(Dv.all p.c (p.us p.K)).2):(Dv.all p.c (p.us p.K)).1=0/\ws.length=p.K/\pl.length=p.K+1/\(∀y,y∈ws->y.1.txs.length<=100)/\∀i x y,pl[i+1]? =M x->ws[i]? =M y->x.1.txs=y.1.txs/\x.1.number=y.1.number/\x.1.time=y.1.time/\x.1.epoch=y.1.epoch:=by
 obtain⟨log,e,hl,hL⟩:=(Dv.HP.hon ok).all;rw[e]at E⊢;have h1:ws.length=p.K:=by simpa using Z1 my q
 have h2:pl.length=p.K+1:=by have:=Z1 my E;rw[bC]at this;exact this.trans hl
 refine⟨rfl,h1,h2,λy I=>?_,λi x y hx I=>?_⟩
 .have:y.1∈ws.map cG:=bM.2 ⟨y,I,rfl⟩;rw[q]at this;obtain⟨k,-,e⟩:=bM.1 this;rw[<-e];have:=(ok.tx k).1;simp only[Hm.wl];omega
 .have hi:=(aN.1 I).1
  have ey:y.1=Hm.wl p (i+1):=by
   have:=Z1 (λl=>l[i]?) q;simp only[fE,I,cO]at this;rw[List.getElem?_range' aA]at this;simpa[r8]using this
  have J:log[i+1]? =M x.1:=by
   have:=Z1 (λl=>l[i+1]?) E;simpa[hx]using this.symm
  obtain⟨Y,J⟩:=aN.1 J;have:=hL (i+1) Y;rw[J]at this;rw[ey];exact⟨this.txs aA,this.number,this.time,this.epoch⟩
theorem UZ(rd:Cr.ReadW){D:Nat->Prop}(bu:Tryz.prog.globals.size<=w.heap.size)(rg:Rd w 1 vg gs.length (gs.map (N X)))(rl:Rd w 1 vl ls.length (ls.map (N X)))(rq:Rd w 1 vq cs.length (cs.map (N X)))(rt:Rd w 1 vt ts.length (ts.map lM))(rn:rO w vn os)(lens:gs.length<=4294967296/\ls.length<=4294967296/\cs.length<=4294967296/\ts.length<=4294967296/\os.length<=4294967296)(few:∀t,t∈os->t.data.length<=4294967296)(ints:∀i,(-9223372036854775808<=pV gs i/\pV gs i<=9223372036854775807)/\(-9223372036854775808<=pV ls i/\pV ls i<=9223372036854775807)/\(-9223372036854775808<=pV cs i/\pV cs i<=9223372036854775807))(br:-9223372036854775808<=p0/\p0<=9223372036854775807)(bm:-9223372036854775808<=p1/\p1<=9223372036854775807)(bj:-9223372036854775808<=p2/\p2<=9223372036854775807)(hH:rD w)(aj:∀D' w' y,kF (λ_=>False) w w'->WP (qe Tryz.prog.funcs D') w' y->Keep (qe Tryz.prog.funcs D') Post y->Post.post (cF bB) y):Wq D Post [] ((base 7).at { tmps:=#[gP #[N X p0,N X p1,N X p2,vg,vl,vq,vt,vn]]++mi 272 undef,defers:=[] } [.code mD]) [] w:=by
 have fin:∀(D':Nat->Prop)(a':Act)(w':U)(todo:List Item),a'.tmps[2]? =M (cF bB)->a'.defers=[]->kF (λ_=>False) w w'->Wq D' Post [] { (base 7).at a' todo with mode:=.returning } [] w':=λD' a' w' todo h6 hd hc=>
  Wq.last (v:=cF bB) (fn:=eT) rfl hd rfl Tryz.func7 XN (λw=>by
   have:a'.tmps[2]? =_:=h6;simp[results,Tryz.results7,go_sem,Frame.at,this]) (λw=>by simp[results,Tryz.results7,go_sem]) (aj D' w' · hc)
 obtain⟨p,hP⟩:∃p,p=J3 p0 p1 p2 gs ls cs ts os:=⟨_,rfl⟩
 have ok:p.Ok:=by rw[hP];exact Hm.Ea
 rw[adH];obtain⟨tm,ac⟩:∃tm:Array aD,tm=#[gP #[N X p0,N X p1,N X p2,vg,vl,vq,vt,vn]]++mi 272 undef:=⟨_,rfl⟩
 have hs:tm.size=273:=by rw[ac];simp
 have t0:tm[0]? =M (gP #[N X p0,N X p1,N X p2,vg,vl,vq,vt,vn]):=by rw[ac,Array.getElem?_append_left aC];rfl
 rw[<-ac];clear ac;refine Wq.seq (Wq.walk λt d Q E _=>Hm.ab2 hs t0 λtm hs t1=>E _ _ (Wq.same (y:=w.alloc (.cells #[N X p0,N X p1,N X p2,vg,vl,vq,vt,vn] 65)) (λ_ _=>rfl) (Wq.seq ?_)));rw[show(on w t d).heap.size=w.heap.size from rfl]at t1;obtain⟨w1,a5,bs,z1⟩:=jI w #[N X p0,N X p1,N X p2,vg,vl,vq,vt,vn] 65;rw[<-a5];have J:=SV bs;have bh:ZF w1 w.heap.size p0 p1 p2 gs ls cs ts os vg vl vq vt vn:=⟨z1,Gn rg J,Gn rl J,Gn rq J,Gn rt J,Gn rn J,lens,few,ints⟩
 refine Wq.reg (n:=2) ⟨_,rfl⟩ XN ?_;obtain⟨o1,aq,ao,bk,ba⟩:∃o,(Xq ho1)[0]? =M o/\o.op=.call { callee:=.value (.func 21),args:=#[],argTypes:=#[] }/\o.dst=M 21/\o.guard=Z:=⟨_,rfl,rfl,rfl,rfl⟩
 refine Zt rd aq (Cr.kR ba) ao (by have:=J.size;omega) (hH.kept J) λD2 w2 ar=>?_;rw[bk];simp only[iv];refine Wq.CG (.assign (eC 21)) (M 3) (cF bB) w2 XN (asg (hnew aA)) (Wq.done ?_);simp only[iv];have ax:=J.trans ar λ_ _ e=>e;have ak:=vH bh ar;refine Wq.seq (Wq.walk λt d Q E _=>Hm.aar (by simpa using hs) (hput (hput t1 aB) aB) (hnew (by simp[hs])) λtm hs t1=>E _ _ (Wq.same (y:=w2) (λ_ _=>rfl) (Wq.seq ?_)));have i3:=Hm.sU (c:=p2) (n:=3) aA;have bv:=Hm.sU (c:=p1) (n:=13) aA;have bx:=Hm.sU (c:=p0) (n:=20) aA
 have pick:∀(x m:Int)(V:U),0<m->m<=1000->-9223372036854775808<=x/\x<=9223372036854775807->Calls PQ 22 #[N X x,N X m] V λe w'=>e=.returned (N X (((pk x m).toNat:Nat):Int))/\w'=V:=λx m V h1 h2 h3=>by
  have h4:=Hm.sU (c:=x) h1;have:=Hm.pick_any x m V h1 aA h3.1 h3.2;rwa[show pk x m=(((pk x m).toNat:Nat):Int) from by omega]at this
 refine Wq.walk λt d Q E _=>Hm.aaD (w:=on w2 t d) (W:=(pk p2 3).toNat) (S:=(pk p1 13).toNat) hs t1 ak.bp (λV=>pick _ _ V aA aA bj) (λV=>pick _ _ V aA aA bm) aA aA λtm w3 hs t1 t4 bd z3=>E _ _ (Wq.seq ?_);have av:kF (λ_=>False) w2 w3:=(SV bd).heaps rfl rfl;have ae:=ax.trans av λ_ _ e=>e;have ai:=vH ak av;have z3:w3.heap[w2.heap.size]? =M (.cells (jL p.c) 24 (0,0)):=by rw[hP];exact z3
 refine Wq.walk λt d Q E _=>Hm.ab7 (w:=on w3 t d) (r:=(pk p0 20).toNat) hs t1 t4 ai.bp (λV=>pick _ _ V aA aA br) aA λtm hs t1 t4 t5=>E _ _ (Wq.same (y:=w3) (λ_ _=>rfl) (Wq.seq ?_));have hn:1+(pk p0 20).toNat=p.n:=by rw[hP];rfl
 rw[hn]at t5;refine Wq.walk λt d Q E _=>Hm.acn (w:=on w3 t d) hs t1 t4 t5 ok.n20 λtm h=>E _ _ (Wq.same (y:=w3.alloc (.cells ((eN p.n zU).flatMap mO).toArray 42)) (λ_ _=>by rw[Xp];rfl) (Wq.seq ?_));rw[show(on w3 t d).heap.size=w3.heap.size from rfl]at h;obtain⟨w4,a2,a1,z4⟩:=jI w3 ((eN p.n zU).flatMap mO).toArray 42;rw[<-a2];have ay:((eN p.n zU).flatMap mO).length=p.n*4:=by rw[Hm.oG mO 4 (λ_=>rfl),List.length_replicate]
 have a3:wZ w3 w2.heap.size w3.heap.size 0 p.n p.c (eN p.n zU) (aR Z 0 0) [] w4:=by
  refine⟨a1,(a1.block _ (jG z3)).trans z3,?_,jE,λq Y=>?_,λq Y b e=>?_,λi j q r b hi hj e e'=>?_,Hm.Row.nil _ _ _,by simp[eA],aC⟩
  .rw[List.length_replicate];refine⟨ay,.inr ⟨w3.heap.size,0,p.n,_,rfl,z4,jE,by unfold maxLen;have:=ok.n20;omega,?_,λj u hj=>?_⟩⟩
   .simp[ay]
   .rw[fJ];simpa using hj
  .obtain rfl:=oj Y;exact⟨Hm.Row.nil _ _ _,rfl,rfl⟩
  .obtain rfl:=oj Y;simp[zU,eA]at e
  .obtain rfl:=oj (aX hi);simp[zU,eA]at e
 have au:(eN p.n zU).map cG=(gE p.n).map (Hm.half p 0):=by
  apply r9;intro i;rw[fE,fE];obtain hl|hl:=gG i p.n
  .rw[qn hl,List.getElem?_replicate,ZD hl];simp[Hm.half,zU]
  .rw[List.getElem?_eq_none (by simpa using hl),List.getElem?_eq_none (by simpa using hl)];rfl
 have same:∀{v:U} (t d),kF (λ_=>False) v (on v t d):=λt d=>adb rfl;refine Wq.walk λt5 d5 Q E _=>Hm.WE (vH ai (same t5 d5)) hP h (V4 a3 t5 d5) au λtm w5 us h bb aa=>E _ _ (Wq.seq ?_);refine Wq.walk λt d Q E _=>Hm.WR h λtm h t9=>E _ _ (Wq.same (y:=w5) (λ_ _=>rfl) (Wq.seq ?_));refine Wq.walk λt d Q E _=>Hm.Zw h t9 λtm h t9 t10=>E _ _ (Wq.same (y:=w5) (λ_ _=>rfl) (Wq.seq ?_));have a8:kG w3:=(hH.kept ae).hd;refine Wq.walk λt6 d6 Q E _=>Hm.Yv (w0:=on (on w3 t5 d5) t6 d6) (vH (vH ai (same t5 d5)) (same t6 d6)) hP (Hm.mG (Hm.mG a8 (same t5 d5) (λe=>e)) (same t6 d6) (λe=>e)) h t9 t10 (V4 bb t6 d6) aa λtm w6 us vw ws hs t4 a4 t9 I aa bg=>E _ _ (Wq.seq ?_);have am:kF (λ_=>False) w3 w6:=(SV I.bel).heaps rfl rfl;have ab:=ae.trans am λ_ _ e=>e;have af:us.length=p.n:=by have:=Z1 my aa;rwa[bC,Dv.HP.zC]at this
 have aw:nK w6 (aR (M ⟨w3.heap.size,0,Z⟩) us.length p.n) us:=I.ups λq Y=>by
  have:q.1∈us.map cG:=bM.2 ⟨q,Y,rfl⟩;rw[aa]at this;obtain⟨m,hm,e⟩:=bM.1 this;have:=(Dv.wX (Dv.HP.Ko ok (gV.1 hm))).1;rw[<-e];omega
 refine Wq.reg (n:=8) ⟨_,rfl⟩ XN ?_;refine Wq.CG (.load 24 (eC 4)) (M 207) (.agg (jL p.c)) w6 XN (abV I.bc (G5 t4)) ?_;simp only[iv];refine Wq.CG (.move (eC 6)) (M 208) (aR (M ⟨w3.heap.size,0,Z⟩) p.n p.n) w6 XN (mv (hput a4 aB)) ?_;simp only[iv];obtain⟨o4,an,a6,bl,bq⟩:∃o,(Xq adX)[2]? =M o/\o.op=.call { callee:=.value (.func 12),args:=#[eC 207,eC 208],argTypes:=#[24,25] }/\o.dst=M 209/\o.guard=Z:=⟨_,rfl,rfl,rfl,rfl⟩
 refine Wi rd (c:=p.c) (ps:=us) an (Cr.kR bq) a6 (G5 (hput (hnew aA) aB)) (by rw[af];exact G5 (hnew (by simp[hs]))) (by have:=ab.size;omega) aw (by rw[af];have:=ok.n20;omega) (hH.kept ab) λD7 w7 va pl r1 r2 r3 ag=>?_;rw[aa]at r3⊢;obtain⟨e0,e1,e2,e3,e4⟩:=abB ok bg r3;rw[e0,bl];simp only[iv];refine Wq.CG (.move (eC 209)) (M 206) (.tuple #[va,N X 0]) w7 XN (mv (hnew (by simp[hs]))) ?_;simp only[iv];refine Wq.CG (.extract (eC 206) 0) (M 210) va w7 XN (xt (hnew (by simp[hs])) rfl) ?_;simp only[iv];refine Wq.CG (.extract (eC 206) 1) (M 211) (N X 0) w7 XN (xt (hput (hnew (by simp[hs])) aB) rfl) ?_;simp only[iv];refine Wq.CG (.assign (eC 210)) (M 16) va w7 XN (asg (hput (hnew (by simp[hs])) aB)) ?_;simp only[iv];refine Wq.CG (.assign (eC 211)) (M 17) (N X 0) w7 XN (asg (hput (hnew (by simp[hs])) aB)) (Wq.done ?_);simp only[iv];obtain⟨la,lc,ah⟩:=r1.slice;obtain⟨wa,wc,a9⟩:=I.wrow.slice;rw[e2,<-e1]at ah;have az:Hm.Row w7 62 8 vw ws.length (ws.flatMap kM):=I.wrow.kept λg hg=>ag.block g (I.wrow.lt hg) λe=>e;have ap:∀q,q∈ws->kX w7 q.2.1 q.1.txs:=λq Y=>Hm.Row.kept (I.wstr q Y) λg hg=>ag.block g (Hm.Row.lt (I.wstr q Y) hg) λe=>e;rw[a9]at az t9;rw[ah,e2,<-e1]at r1;have bo:ws.length<=1000:=by have:=(Dv.HP.XL ok).2.2;omega
 refine Wq.walk λt d Q _ hR=>Hm.aaK (w:=on w7 t d) (ws:=ws) (pl:=pl) (wa:=wa) (la:=la) (wc:=wc) (lc:=lc) (by simp[hs]) (hput (hput (hput (hput (hput (hput (hput (hput t9 aB) aB) aB) aB) aB) aB) aB) aB) (hput (by rw[ah];exact hnew (by simp[hs])) aB) (hnew (by simp[hs])) bo (az.kept λ_ _=>rfl) (λq Y=>Hm.Row.kept (ap q Y) λ_ _=>rfl) (by rw[e2,e1]) (r1.kept λ_ _=>rfl) (λq Y=>⟨Hm.Row.kept (r2 q Y).1 λ_ _=>rfl,Hm.Row.kept (r2 q Y).2 λ_ _=>rfl⟩) e4 e3 λbw w8 t2 a7=>hR _ _ λtodo=>?_;exact fin D7 _ w8 todo t2 rfl ((ab.trans ag λ_ _ e=>e).trans ((SV a7).heaps rfl rfl) λ_ _ e=>e)
end
end
end Pa
section
open Go.ChangeShapes Go.WideShapes Go.ChangeAt Go.RowKit
def PO:Tryz.prog.cellsOf 4=1:=XN
def Xy:Tryz.prog.cellsOf 5=1:=XN
def Td:Tryz.prog.globalNamed "tributary/item.heads"=M 1:=XN
def JL:(Tryz.prog.globals[ 1 ]?).map (·.type)=M 306:=XN
def Lh:Tryz.prog.cellsOf 306=6:=XN
def Pg:Tryz.prog.cellsOf 280=3:=XN
def Zx{W:U}{l:List (String×DataW Unit)}(h:laidMet bE (("tributary/item.heads",Rows.laid_tributary_item_heads)::l) W):kG W:=by
 obtain⟨ps,⟨g',t',cs,ac,p,q,aa,ab,J,hd,_,_⟩,_⟩:=h;obtain rfl:=fC (Td.symm.trans aa);obtain rfl:=fC (JL.symm.trans ab);obtain⟨xs,m,_,hx,E,Y,hi⟩:=DataW.trod_array Tryz.underlying306 hd;rw[Lh]at E;have I:=λi=>World.var?_cell Td J i;obtain⟨cs⟩:=cs
 match cs,E,xs,Y with
 |[a0,a1,a2,a3,a4,a5],_,[x0,x1],_=>
 have h0:=hi 0 aA;have h1:=hi 1 aA;simp only[Pg]at h0 h1;simp only[Rows.laid_tributary_item_heads,dJ,DataW.agg.injEq,eP,fP,List.cons.injEq,and_true]at hx;obtain⟨y0,y1,y2,n,hy,_,k0,k1,k2⟩:=Go.Deep.trod_struct3 Tryz.underlying280 h0;obtain⟨z0,z1,z2,n',hz,_,l0,l1,l2⟩:=Go.Deep.trod_struct3 Tryz.underlying280 h1;simp only[PO,Xy]at k0 k1 k2 l0 l1 l2;obtain⟨b0,e0,rfl⟩:=DataW.trod_bool nj k0;obtain⟨b1,e1,rfl,_⟩:=iz gD k1;obtain⟨b2,e2,rfl,_⟩:=iz gD k2;obtain⟨b3,e3,rfl⟩:=DataW.trod_bool nj l0;obtain⟨b4,e4,rfl,_⟩:=iz gD l1;obtain⟨b5,e5,rfl,_⟩:=iz gD l2;simp at e0 e1 e2 e3 e4 e5;subst e0 e1 e2 e3 e4 e5;subst hy hz;simp at hx;obtain⟨⟨⟨rfl,rfl,rfl⟩,rfl,rfl,rfl⟩,_⟩:=hx;exact⟨⟨I 0,I 1,I 2⟩,I 3,I 4,I 5⟩
end
namespace Pa
open Go Go.Conc Go.ChangeShapes Go.WideShapes Go.ChangeAt Go.RowKit
open Hm (PU mO nK pR rO qY Rd lM oZ jL kF)
open Dv (Tx X2 Cf)
open Po hiding X2 H B IT PR NB
section
variable {D:Nat->Prop}
theorem Ob:Tryz.prog.cellsOf 68=3:=XN
theorem Iz:Tryz.prog.cellsOf 9=1:=XN
theorem PV:Tryz.prog.cellsOf 40=1:=XN
theorem Vz:Tryz.prog.cellsOf 39=1:=XN
theorem Jf:Tryz.prog.cellsOf 3=1:=XN
theorem U3:Tryz.prog.cellsOf 22=1:=XN
theorem YS{H:Type}:∀d:DataW H,1<=Rows.uptoBulk d
 |.lit l=>by cases l<;>simp[Rows.uptoBulk]
 |.nil=>by simp[Rows.uptoBulk]
 |.ptr d=>by simp[Rows.uptoBulk]
 |.slice a b=>by simp[Rows.uptoBulk]
 |.agg a=>by simp[Rows.uptoBulk]
 |.iface a d=>by simp[Rows.uptoBulk]
 |.map m=>by simp[Rows.uptoBulk]
 |.held h=>by simp[Rows.uptoBulk]
theorem Lc{H:Type}:∀l:List (DataW H),l.length<=Rows.uptoBulkAll l
 |[]=>aC
 |d::l=>by
  have:=YS d;have:=Lc l;simp only[Rows.uptoBulkAll,aU];omega
theorem MZ{H:Type}{d:DataW H}:∀{l:List (DataW H)},d∈l->Rows.uptoBulk d<=Rows.uptoBulkAll l
 |[],h=>by cases h
 |e::l,h=>by
  simp only[Rows.uptoBulkAll];obtain rfl|h:=dD.1 h
  .omega
  .have:=MZ h;omega
theorem SC{α:Type}{Q:Nat->α->Prop}:∀n,(∀i,i<n->∃z,Q i z)->∃l:List α,l.length=n/\∀i z,l[i]? =M z->Q i z
 |0,_=>⟨[],rfl,λi z h=>by simp at h⟩
 |n+1,h=>by
  obtain⟨l,E,I⟩:=SC n λi q=>h i aA;obtain⟨z,Y⟩:=h n aA;refine⟨l++[z],by simp[E],λi y J=>?_⟩;obtain q|q:=gG i l.length
  .grind
  .grind
section
variable {H:Type}{enc:cH×aD->H}{W:U}{held:Bool}
theorem add_add(a:Addr)(hs:a.spot=Z)(n:Nat):a.add n=⟨a.block,a.off+n,Z⟩:=by
 obtain⟨b,o,s⟩:=a;simp only at hs;subst hs;unfold Addr.add;split
 .grind
 .rfl
theorem JH{t e:cH}{k fuel:Nat}{cs:List aD}{x:DataW H×List MemPlace}(ht:Tryz.prog.underlying t=M (.slice e))(hk:Tryz.prog.cellsOf e=k)(I:0<k)(h:DataW.trod enc bE W 0 (λ_=>bB) held fuel t cs=M x){α:Type}(f:α->List aD)(hf:∀a,(f a).length=k)(B:α->DataW H->Prop)(af:∀n cs' y,DataW.trod enc bE W 0 (λ_=>bB) held n e cs'=M y->∃a,cs'=f a/\B a y.1):∃(v:aD)(l:List α),cs=[v]/\Rd W k v l.length (l.flatMap f)/\l.length<=Rows.uptoBulk x.1/\(∃a c,v=.slice a l.length c)/\∀a∈l,∃d,B a d/\Rows.uptoBulk d<=Rows.uptoBulk x.1:=by
 obtain⟨rfl,rfl⟩|⟨a,len,cap,m,n,D,Pl,rfl,hb,ah,ak,hm,rfl,hx⟩:=Go.Deep.open_slice ht h
 .exact⟨_,[],rfl,Hm.Rd.nil _ _ _ _,aC,⟨Z,0,rfl⟩,λa h=>by cases h⟩
 simp only[if_true]at hm;subst hm;rw[hk]at hx
 have E:0<m->a.spot=Z:=λh0=>by
  obtain⟨cs',h1,_⟩:=hx 0 h0;obtain⟨_,J,hc⟩:=World.cells?_some h1;have Y:=hc 0 I;rw[aO aA]at Y;unfold World.cell? at Y;split at Y
  .split at Y
   .cases Y
   .rename_i ae;have e:(a.add (0*k)).add 0=a:=by simp[Addr.add]
    rw[e]at ae;simpa using ae
  .cases Y
 have ab:∀i,i<m->∃(z:α)(cs':List aD),cs'.length=k/\(∀j,j<k->W.cell? ⟨a.block,a.off+i*k+j,Z⟩=cs'[j]?)/\cs'=f z/\B z (D i):=by
  intro i hi;obtain⟨cs',h1,h2⟩:=hx i hi;obtain⟨_,J,hc⟩:=World.cells?_some h1;obtain⟨z,hz,hB⟩:=af n cs' _ h2;have hs:=E aA;refine⟨z,cs',J,λj hj=>?_,hz,hB⟩;have:=hc j hj;rw[add_add a hs,add_add _ rfl]at this;exact this
 obtain⟨l,J,hq⟩:=SC (α:=α) (Q:=λi z=>∃cs':List aD,cs'.length=k/\(∀j,j<k->W.cell? _=cs'[j]?)/\cs'=f z/\B z _) len λi hi=>ab i aA
 have q:Rows.uptoBulkAll ((gE len).map D)<=Rows.uptoBulk (H:=H) (.slice ((gE len).map D) ((gE (m-len)).map λj=>D (len+j))):=by
  simp only[Rows.uptoBulk];omega
 refine⟨_,l,rfl,?_,?_,⟨M a,m,by rw[J]⟩,λz hz=>?_⟩
 .rw[J]
  have key:∀j u,(l.flatMap f)[j]? =M u->W.cell? ⟨a.block,a.off+j,Z⟩=M u:=λj u hj=>by
   have aa:=(aN.1 hj).1;rw[Hm.oG f k hf,J]at aa;have hi:=(Nat.div_lt_iff_lt_mul I).2 aa;have hr:j%k<k:=ri _ I;have ag:j=j/k*k+j%k:=by have:=Nat.div_add_mod j k;rw[Nat.mul_comm]at this;omega
   have hz:l[j/k]? =M l[j/k]:=aO aA;obtain⟨cs',c1,c2,c3,_⟩:=hq _ _ hz;have ac:=Hm.flat_get f k hf l _ _ _ hz hr;rw[<-ag,hj,<-c3]at ac;rw[show a.off+j=a.off+j/k*k+j%k by omega,c2 (j%k) hr];exact ac.symm
  refine⟨by rw[Hm.oG f k hf,J],_,m,rfl,ah,λh0=>⟨_,_,?_,?_,key⟩⟩
  .have hs:=E aA;obtain⟨b,o,sp⟩:=a;simp only at hs;subst hs;rfl
  .have ai:0<(l.flatMap f).length:=by rw[Hm.oG f k hf,J];exact Nat.mul_pos h0 I
   have:=key 0 _ (aO ai);unfold World.cell? at this;split at this
   .grind
   .cases this
 .rw[J];have:=Lc ((gE len).map D);rw[bC,List.length_range]at this;exact bH this q
 .obtain⟨i,hi⟩:=jB.1 hz;obtain⟨_,_,_,_,hB⟩:=hq i z hi;have aj:=(aN.1 hi).1;exact⟨_,hB,bH (MZ (bM.2 ⟨i,gV.2 aA,rfl⟩)) q⟩
end
section
variable {H:Type}{enc:cH×aD->H}{W:U}{held:Bool}{fuel:Nat}{cs:List aD}{x:DataW H×List MemPlace}
theorem abR(s:ByteArray):aH s=lM s.data.toList:=by simp[lM]
theorem XD{k:IntKind}{n:Int}(hk:k=.u32)(h:(Lit.int k n).wf=bB):∃m:Nat,n=m:=by subst hk;refine⟨n.toNat,?_⟩;have q:IntKind.u32.min=0:=rfl;simp only[Lit.wf,dF,Z3]at h;omega
theorem open_strs(h:DataW.trod enc bE W 0 (λ_=>bB) held fuel 40 cs=M x):∃v l,cs=[v]/\qY W v l/\l.length<=Rows.uptoBulk x.1:=by
 obtain⟨v,l,E,h2,h3,_,_⟩:=JH Tryz.underlying40 Iz aA h (λs=>[lM s]) (λ_=>rfl) (λ_ _=>True) (λn cs' y q=>by
  obtain⟨s,rfl,rfl,_⟩:=DataW.trod_string eI q;exact⟨s.data.toList,by rw[<-abR],trivial⟩)
 refine⟨v,l,E,?_,h3⟩;have e:∀l:List (List UInt8),l.flatMap (λs=>[lM s])=l.map lM:=λl=>by induction l with|nil=>rfl|cons a l ih=>simp[ih]
 unfold qY;rw[<-e l];exact h2
end
theorem ael:((((begin bE (λ_ _=>0) default).world.heap[1]?).bind Obj.row?).map (·.2))=M 306:=XN
theorem YG:2<=Tryz.prog.globals.size:=Z2 XN
theorem OV:Tryz.prog.globals.size<(begin bE (λ_ _=>0) default).world.heap.size:=Z2 XN
theorem ad5{W:U}(h:W.ShapedOpen bE):Tryz.prog.globals.size<=W.heap.size:=by
 obtain⟨o,_,ho,_⟩:=h.2 _ jE OV;have:=(jG ho)
 omega
theorem XW{f:qa}{fn:Func}{c:Code}{tm:Array aD}(q:Tryz.prog.funcs[f]? =M fn)(E:EW f=bB)(I:fn.body=M c):uP (qe Tryz.prog.funcs D) ((base f).at ⟨tm,[]⟩ [.code c]):=by
 refine⟨λi J=>?_,λd hd=>(by cases hd),rfl⟩;obtain rfl:i=.code c:=by simpa[Frame.at]using J
 rewrite [GN]
 have:=(RU E q).2;rw[I]at this;exact this
section
variable {W:U}
theorem oQ(a:Addr):(hush W).cell? a=W.cell? a:=by
 unfold World.cell? hush;rw[iK];cases h:W.heap[a.block]? with
 |none=>rfl
 |some o=>cases o<;>rfl
theorem yY{s n:Nat}{v:aD}{xs:List aD}(h:Rd W s v n xs):Rd (hush W) s v n xs:=by obtain⟨E,a,cap,e,h2,h3⟩:=h;refine⟨E,a,cap,e,h2,λI=>?_⟩;obtain⟨g,off,Y,q,hc⟩:=h3 I;exact⟨g,off,Y,by simpa[hush]using q,λj u J=>(oQ _).trans (hc j u J)⟩
theorem Og(h:W.ShapedOpen bE)(q:kG W):rD (hush W):=by
 refine⟨⟨⟨(oQ _).trans q.1.1,(oQ _).trans q.1.2.1,(oQ _).trans q.1.2.2⟩,⟨(oQ _).trans q.2.1,(oQ _).trans q.2.2.1,(oQ _).trans q.2.2.2⟩⟩,?_⟩;have:=ael;cases e:(((begin bE (λ_ _=>0) default).world.heap[1]?).bind Obj.row?)with
 |none=>grind
 |some z=>
  obtain⟨zero,t⟩:=z;rw[e]at this;simp only[cO,aK]at this;obtain⟨cs,E,_⟩:=h.1 1 zero t (by have:=YG;omega) e;subst this;exact⟨_,_,_,Q5 E rfl,aB,aB,aB,aB,aB⟩
theorem Uu{post:aD->U->Prop}{w' y:U}(J:kF (λ_=>False) (hush W) w')(hw:WP (qe Tryz.prog.funcs D) w' y)(hk:Keep (qe Tryz.prog.funcs D) ⟨Ai W,W,post⟩ y):Go.RowKit.Below W.heap.size W { y with tape:=W.tape }:=by
 refine⟨hk.os,rfl,hk.output,hk.size,λk E=>?_⟩;by_cases q:Ai W k
 .exact(hk.dead k q).2
 .have Y:¬(qe Tryz.prog.funcs D).D k:=λh=>q (hk.old k h E);have hz:(hush W).heap.size=W.heap.size:=by simp[hush]
  have I:=(hw.out k Y).trans (J.block k (by rw[hz];exact E) (λe=>e));refine I.trans ?_;cases ho:W.heap[k]? with
  |none=>grind
  |some o=>exact Q5 ho (Bool.eq_false_iff.2 λe=>q ⟨o,ho,e⟩)
end
end
end Pa
section
open Go Go.Conc
section
variable {s:OpenSpec}{p:Pinned}{c:OpenClaim}
section
variable {H:Type}{enc:cH×aD->H}
theorem sQ{a:Assume}{C:Checked}{os:Os}{f:qa}{fn:Func}{F:Stop.Interp}{aa:List PathCond}{apart fresh E I:Bool}{Y:List (String×DataW Unit)}(own:ownKnob C.prog.godebug=Z)(J:os.Started)(aj:C.prog.funcs[f]? =M fn)(ab:∃(w:U)(tape:Tape)(i:Input),w.os=os/\(w.forCall tape i).Shaped C.prog/\i.vars=[]/\Input.okWide C.prog (w.forCall tape i) .any w.heap.size f i/\s.preRow enc C.prog fn aa apart Y (w.forCall tape i).memory i.args/\a.holds C.prog (lone (iS C.prog f i.args .normal) [] (w.forCall tape i)))(runs:∀(W:U)(base:Nat)(args:Array aD)(ds gs:List (DataW H))(q:List MemPlace),(∀(j:Nat) t v,fn.params[j]? =M t->args[j]? =M v->Value.okWide C.prog W .any base t v)->DataW.Whole enc C.prog fn.params.toList s.vars apart W args.toList ds gs q->(∀k,s.cond=M k->k H (ds++gs)=bB)->laidMetH C.prog Y W->W.ShapedOpen C.prog->∃XS last o w' t',runNT C.prog (XS+1) (solo (G (iS C.prog f args .normal) []) W) #[]=(.ended o w',t')/\runN C.prog XS (solo (G (iS C.prog f args .normal) []) W)=.next last/\step C.prog last=.ended o w'/\Conc.Good C.prog (λv W'=>(s.at F).post enc C.prog fn apart fresh E I W args v W') last o w' t'):ReturnsInLeavingWide a C os f .any (s.preRow enc C.prog fn aa apart Y) ((s.at F).post enc C.prog fn apart fresh E I):=by
 refine returnsInLeavingWide_of_good own J ab ?_;intro w tape i _ ai _ ah af _;obtain⟨_,_,_,ak,ae,_,_,_,_,ac⟩:=ah;have e:=fC (ae.symm.trans aj);subst e;obtain⟨⟨hp,hl⟩,hz⟩:=af;obtain⟨ds,gs,q,hw,hc,hk⟩:=OpenSpec.pre_parts hp;have ag:=DataW.Whole.of_heap (w':=w.forCall tape i) (by rfl) hw;obtain⟨XS,last,o,w',t',h1,h2,h3,h4⟩:=runs _ _ _ ds gs q ac ag hk (hl.of_heap (by rfl)) ai;exact⟨XS,last,o,w',t',h1,h2,h3,h4.mono λv hp=>ChangeSpec.post_blind hp⟩
end
theorem uO(f:qa)(fn:Func)(hn:c.program=p.name)(hs:c.sum=p.sum)(a9:c.spec=s.name)(q:c.start=.entering)(E:c.outside=[])(ax:c.inits=[])(a4:c.under=Z)(au:c.initsInPlace=[]/\c.initsUnfollowed=aL/\c.initsRecurse=aL/\c.initsNamed=[]/\c.initsPassed=[])(ak:c.noBlocks=aL)(bg:c.leaving=bB)(ab:c.followed=Z)(ai:c.narrowed=s.cond.isSome)(J:c.still=aL)(ba:p.checked.prog.funcNamed c.func=M f)(hf:p.checked.prog.funcs[f]? =M fn)(I:joinedFacts p.checked.prog f fn s.bare c=bB)(aa:fn.isInstance p.checked.prog c.origin c.targs)(Y:fn.isWrapper p.checked.prog c.wrapper c.mainSum)(h:∀os:Os,os.Started->∀(H:Type)(enc:cH×aD->H),(∀a b,enc a=enc b->a=b)->∀F:Stop.Interp,ReturnsInLeavingWide c.assume p.checked os f .any (c.pre enc p.checked.prog fn s) ((s.at F).post enc p.checked.prog fn c.apart c.fresh c.handsOn c.again)):c.holds p s:=by
 simp only[joinedFacts,dF,YY,Array.all_eq_true_iff_forall_mem,fF,Z3]at I;obtain⟨⟨⟨⟨⟨⟨⟨⟨⟨⟨⟨⟨⟨⟨⟨⟨⟨⟨⟨⟨⟨⟨⟨⟨⟨⟨⟨⟨⟨⟨⟨k1,k2⟩,k3⟩,k4⟩,k5⟩,k6⟩,k7⟩,k8⟩,k9⟩,ar⟩,a5⟩,a6⟩,bh⟩,ap⟩,aq⟩,a3⟩,a1⟩,af⟩,ao⟩,ay⟩,av⟩,a7⟩,az⟩,aj⟩,ac⟩,ah⟩,ae⟩,ag⟩,an⟩,a8⟩,bd⟩,am⟩:=I;have hq:∀os:Os,Stop.quiet p.checked.prog os:=λos k hk=>by rw[k9]at hk;cases hk
 refine⟨k1,hn,hs,a9,k2,k3,by unfold OpenClaim.startFits;rw[q];exact ah,by unfold OpenClaim.startTold;rw[q];exact⟨ax,a4,au⟩,f,fn,ba,hf,⟨k4,ay⟩,(λhb=>by rw[ak]at hb;cases hb),by unfold OpenClaim.namedList;rw[ab];exact k5,aa,Y,
  k6.trans k7.symm,⟨k8.trans k9.symm,by unfold Program.envWorded;rw[k9];rfl,ac⟩,ar,a5,a6,bh,ap,⟨aq,bd,am⟩,⟨a3,av⟩,⟨a1,a7,an,a8⟩,⟨az,ae,ag,af⟩,(by rw[E,ai];cases bb:c.shortTexts with|none=>simp|some _=>rw[bb]at aj;cases aj),λn aw=>varReadable_some (ao n aw),
  ⟨_,by unfold OpenClaim.world;rw[E,q];exact WideRow.started_initial,hq _⟩,[],by unfold OpenClaim.lists;rw[ab],λos st _ H enc inj=>?_⟩
 have a2:os.Started:=by unfold OpenClaim.world at st;rw[E,q]at st;exact st
 rw[OpenClaim.post_not_still J];unfold OpenClaim.form;rw[q,k6];intro F;have e1:c.okInput=Input.okWide:=by unfold OpenClaim.okInput;rw[ak]
 have e2:c.atReturn p.checked.prog=leavingAtReturn p.checked.prog:=by unfold OpenClaim.atReturn;rw[bg]
 have e3:c.always p.checked.prog []=nothingAlways:=by unfold OpenClaim.always;rw[ab]
 have e4:s.post enc p.checked.prog fn F c.outside c.apart c.fresh c.handsOn c.again=(s.at F).post enc p.checked.prog fn c.apart c.fresh c.handsOn c.again:=by rw[E];rfl
 rw[e1,e2,e3]
 show ReturnsInOpen _ _ _ _ _ _ _ _ (s.post enc p.checked.prog fn F c.outside c.apart c.fresh c.handsOn c.again) _ _
 rw[e4];exact h os a2 H enc inj F ah
theorem BU(Lk:Looks)(kinds:List LaidKind)(E:Bool)(q:Bool×String)(lk g:Bool)(hc:c.holds p s)(hw:c.wfByText s=bB)(I:c.laidByTextAt Lk p kinds E)(J:c.start=.entering)(Y:c.noBlocks=aL/\c.again=aL)(hm:p.checked.prog.mainIs=M (q.1,q.2.toList))(hn:(!q.1&&q.2.isEmpty&&!lk)=aL)(hl:∀f fn,p.checked.prog.funcNamed c.func=M f->p.checked.prog.funcs[f]? =M fn->lk=p.checked.prog.looks []/\∀(j:Nat) t,fn.params[j]? =M t->p.checked.prog.wantsStandIn t=aL)(hg:g=c.goesBy p.checked.prog):Claim7.holds p (.plain s) { stood:={ row:=c,standIns:=[],harness:=q,looks:=lk },kinds:=[],alts:=[],goes:=g,laidByText:=bB,laidKinds:=kinds,laidTests:=E,laidLooks:=Lk }:=by
 have h6:∀r:OpenClaim,Claim7.isSixth { stood:={ row:=r,standIns:=[],harness:=q,looks:=lk },kinds:=[] }=aL:=λr=>by simpa[Claim7.isSixth]using hn
 exact⟨Claim7.tied_new_at Lk kinds E (Claim7.new_of_sixth hc q lk J Y hm (h6 c) hl) hw,(λD hD=>by cases hD),I,(λh=>by cases h),hg⟩
end
end
namespace honest
open Go.ChangeShapes Go.WideShapes Go.ChangeAt Go.RowKit Go.Conc Go.Proofs.YtpibpdpedjinhaaGreatDoor.Pa
open Hm (jL)
def own:ownKnob Tryz.prog.godebug=Z:=XN
def laidOut:laidOutB bE=bB:=XN
def Qb:Tryz.prog.cellsOf 65=8:=XN
def Pe:Tryz.prog.cellsOf 31=1:=XN
section
variable {H:Type}{enc:cH×aD->H}{W:U}{held:Bool}{fuel:Nat}{cs:List aD}{x:DataW H×List MemPlace}
theorem open_ints(h:DataW.trod enc bE W 0 (λ_=>bB) held fuel 31 cs=M x):∃(v:aD)(l:List Int),cs=[v]/\Hm.Rd W 1 v l.length (l.map (N X))/\l.length<=Rows.uptoBulk x.1/\∀n∈l,-9223372036854775808<=n/\n<=9223372036854775807:=by
 obtain⟨v,l,I,h2,h3,_,h4⟩:=JH Tryz.underlying31 Jf aA h (λn=>[N X n]) (λ_=>rfl) (λn _=>-9223372036854775808<=n/\n<=9223372036854775807) (λn cs' y E=>by
  obtain⟨m,rfl,rfl,q⟩:=iz mC E;simp only[Lit.wf,dF,Z3]at q;exact⟨m,rfl,q⟩)
 refine⟨v,l,I,?_,h3,λn J=>(h4 n J).elim λ_ h=>h.1⟩;have e:∀l:List Int,l.flatMap (λs=>[N X s])=l.map (N X):=λl=>by induction l with|nil=>rfl|cons a l ih=>simp[ih]
 rw[<-e l];exact h2
theorem Az{l:List Int}(h:∀n∈l,-9223372036854775808<=n/\n<=9223372036854775807)(i:Nat):-9223372036854775808<=Hm.pV l i/\Hm.pV l i<=9223372036854775807:=by
 unfold Hm.pV;rw[aY];cases e:l[i%l.length]? with
 |none=>exact⟨aB,aB⟩
 |some x=>exact h x (aX e)
theorem Ue(h:DataW.trod enc bE W 0 (λ_=>bB) held fuel 39 cs=M x):∃v l,cs=[v]/\Hm.rO W v l/\l.length<=Rows.uptoBulk x.1/\∀t,t∈l->t.data.length<=Rows.uptoBulk x.1:=by
 obtain⟨v,l,J,h2,h3,_,h4⟩:=JH Tryz.underlying39 Ob aA h Hm.oZ (λ_=>rfl) (λt d=>t.data.length<=Rows.uptoBulk d) (λn cs' y hy=>by
  obtain⟨y0,y1,y2,n',rfl,q,Y,J,h2⟩:=Go.Deep.trod_struct3 Tryz.underlying68 hy;rw[Ob]at q
  match cs',q with
  |[c0,c1,c2],_=>
  simp only[U3,Iz]at Y J h2;obtain⟨m0,E,rfl,w0⟩:=iz rj Y;obtain⟨m1,I,rfl,w1⟩:=iz rj J;obtain⟨s,hs,rfl,_⟩:=DataW.trod_string eI h2;simp at E I hs;subst E I hs;obtain⟨k0,rfl⟩:=XD rfl w0;obtain⟨k1,rfl⟩:=XD rfl w1;exact⟨⟨k0,k1,s.data.toList⟩,by simp[Hm.oZ],by simp[Rows.uptoBulk,Rows.uptoBulkAll];omega⟩)
 exact⟨v,l,J,h2,h3,λt ht=>by obtain⟨d,a,b⟩:=h4 t ht;omega⟩
theorem UF(h:DataW.trod enc bE W 0 (λ_=>bB) held fuel 65 cs=M x)(hb:Rows.uptoBulk x.1<=4294967296):∃(p0 p1 p2:Int)(vg vl vq vt vn:aD)(I E J:List Int)(ts:List (List UInt8))(os:List Dv.Tx),cs=[N X p0,N X p1,N X p2,vg,vl,vq,vt,vn]/\Hm.Rd W 1 vg I.length (I.map (N X))/\Hm.Rd W 1 vl E.length (E.map (N X))/\Hm.Rd W 1 vq J.length (J.map (N X))/\Hm.Rd W 1 vt ts.length (ts.map Hm.lM)/\Hm.rO W vn os/\(I.length<=4294967296/\E.length<=4294967296/\J.length<=4294967296/\ts.length<=4294967296/\os.length<=4294967296)/\(∀t,t∈os->t.data.length<=4294967296)/\(∀i,(-9223372036854775808<=Hm.pV I i/\Hm.pV I i<=9223372036854775807)/\(-9223372036854775808<=Hm.pV E i/\Hm.pV E i<=9223372036854775807)/\(-9223372036854775808<=Hm.pV J i/\Hm.pV J i<=9223372036854775807))/\(-9223372036854775808<=p0/\p0<=9223372036854775807)/\(-9223372036854775808<=p1/\p1<=9223372036854775807)/\(-9223372036854775808<=p2/\p2<=9223372036854775807):=by
 obtain⟨xs,n,_,rfl,hl,Y,q⟩:=DataW.trod_struct Tryz.underlying65 h;rw[Qb]at hl
 match xs,Y,cs,hl with
 |[y0,y1,y2,y3,y4,y5,y6,y7],_,[c0,c1,c2,c3,c4,c5,c6,c7],_=>
 have k0:=q 0 _ rfl;have k1:=q 1 _ rfl;have k2:=q 2 _ rfl;have k3:=q 3 _ rfl;have k4:=q 4 _ rfl;have k5:=q 5 _ rfl;have k6:=q 6 _ rfl;have k7:=q 7 _ rfl;simp[Jf,Pe,PV,Vz]at k0 k1 k2 k3 k4 k5 k6 k7;obtain⟨m0,e0,rfl,w0⟩:=iz mC k0;obtain⟨m1,e1,rfl,w1⟩:=iz mC k1;obtain⟨m2,e2,rfl,w2⟩:=iz mC k2;obtain⟨vg,I,e3,rg,bg,ig⟩:=open_ints k3;obtain⟨vl,E,e4,rl,bl,il⟩:=open_ints k4;obtain⟨vq,J,e5,rq,bq,iq⟩:=open_ints k5;obtain⟨vt,ts,e6,rt,bt⟩:=open_strs k6;obtain⟨vn,os,e7,rn,bn,fn⟩:=Ue k7;simp at e0 e1 e2 e3 e4 e5 e6 e7;subst e0 e1 e2 e3 e4 e5 e6 e7;simp only[Lit.wf,dF,Z3]at w0 w1 w2;simp[Rows.uptoBulk,Rows.uptoBulkAll]at hb;exact⟨m0,m1,m2,c3,c4,c5,c6,c7,I,E,J,ts,os,rfl,rg,rl,rq,rt,rn,⟨aA,aA,aA,aA,aA⟩,λt ht=>by have:=fn t ht;omega,λi=>⟨Az ig i,Az il i,Az iq i⟩,w0,w1,w2⟩
end
def runs(rd:Cr.ReadW)(H:Type)(enc:cH×aD->H)(W:U)(base:Nat)(args:Array aD)(ds gs:List (DataW H))(J:List MemPlace)(Y:∀(j:Nat) t v,Tryz.f7.params[j]? =M t->args[j]? =M v->Value.okWide bE W .any base t v)(hW:DataW.Whole enc bE Tryz.f7.params.toList Rows.honestSpec.vars aL W args.toList ds gs J)(hk:Rows.uptoSmall H (ds++gs)=bB)(hL:laidMetH bE Rows.honestUptoRow.laid W)(ae:W.ShapedOpen bE):Cr.yP bE (λv W'=>Rows.honestSpec.post enc bE eT aL bB aL aL W args v W') (solo (Go.Conc.G (iS bE 7 args .normal) []) W) #[]:=by
 have aj:=hW;obtain⟨p,q,ah,hV,rfl,ap,aq⟩:=hW;have hA:DataW.TrodAll enc bE W 0 (λ_=>bB) bB Tryz.f7.params.toList args.toList ds p:=ah;rw[Tryz.params7]at hA Y;obtain⟨v0,ao,d0,am,p0,q0,E,rfl,rfl,h0,r0⟩:=trodAll_cons hA;obtain⟨rfl,rfl,rfl⟩:=trodAll_nil r0;obtain rfl:args=#[v0]:=by cases args;simp_all
 obtain⟨rfl,rfl⟩:=trodVars_none hV;have k0:=h0;have af:∀x∈p0,x.block<W.heap.size:=by obtain⟨m,hm⟩:=k0;exact DataW.trod_lt m _ _ _ hm
 obtain⟨cs,rfl,an⟩:=okWide_struct Tryz.underlying65 (Y 0 65 v0 rfl rfl);obtain⟨f0,ak⟩:=h0;simp only[gI]at hk
 have ai:Rows.uptoBulk d0<=4294967296:=by
  have h:Rows.uptoBulkAll [d0]<=1048576:=Z2 hk;simp only[Rows.uptoBulkAll]at h;omega
 have ab:=ad5 ae;obtain⟨n0,n1,n2,vg,vl,vq,vt,vn,gs,ls,qs,ts,os,hc,rg,rl,rq,rt,rn,lens,few,ints,b0,b1,b2⟩:=UF ak ai
 obtain rfl:cs=#[N X n0,N X n1,N X n2,vg,vl,vq,vt,vn]:=by
  have:cs.toList=[N X n0,N X n1,N X n2,vg,vl,vq,vt,vn]:=by simpa[Value.cells]using hc
  cases cs
  simp_all
 refine Cr.Qq ?_
 have ac:iS bE 7 #[gP #[N X n0,N X n1,N X n2,vg,vl,vq,vt,vn]] .normal=(Conc.base 7).at { tmps:=#[gP #[N X n0,N X n1,N X n2,vg,vl,vq,vt,vn]]++mi 272 undef,defers:=[] } [.code Hm.mD]:=by
  unfold iS;simp only[Tryz.func7,cO,fH,gX,Tc];rfl
 refine Po.TQ (fr:=iS bE 7 #[gP #[N X n0,N X n1,N X n2,vg,vl,vq,vt,vn]] .normal) ?_ ?_
 .rw[ac];refine UZ rd (by simpa[Po.hush]using ab) (yY rg) (yY rl) (yY rq) (yY rt) (yY rn) lens few ints b0 b1 b2 (Og ae (Zx hL)) λD w' y hc hw ag=>?_;have bel:=Uu hc hw ag;have E:=trodAll_cons_mk (Go.RowKit.Below.trod laidOut XN (Z2 XN) k0 bel af) trodAll_mk0;have aa:∀I,W.keptBut y I:=λI=>⟨(bel.frame I).1,(bel.frame I).2.1,(bel.frame I).2.2⟩
  exact⟨_,_,_,[],_,[],aj,trodAll_mk1 (shut_bool nj _),E.of_heap (by rfl),rfl,aa _,λh=>by cases h⟩
 .rw[ac];exact XW Tryz.func7 rfl Tc
noncomputable def laidWorld(os:Os):U:=
 { World.holding bE os ⟨#[],#[],[]⟩with heap:=(World.holding bE os ⟨#[],#[],[]⟩).heap.modify 1 fun
   |.cells _ t frozen=>.cells #[cF aL,N .u8 128,N .u8 183,cF bB,N .u8 192,N .u8 247] t frozen
   |o=>o }
def Rz:Array aD:=#[gP #[N X 0,N X 0,N X 0,aR Z 0 0,aR Z 0 0,aR Z 0 0,aR Z 0 0,aR Z 0 0]]
def laid_met(os:Os):laidMet bE Rows.honestUptoRow.laid ((laidWorld os).forCall (λ_ _=>0) ⟨#[],Rz,[]⟩).memory:=
 laidMet_of_run' 8 XN XN
def reads(os:Os){H:Type}(enc:cH×aD->H):∃q,DataW.whole enc bE ((laidWorld os).forCall (λ_ _=>0) ⟨#[],Rz,[]⟩).memory Tryz.f7.params.toList Rows.honestSpec.vars aL Rz.toList 8=M ([.agg [.lit (.int X 0),.lit (.int X 0),.lit (.int X 0),.nil,.nil,.nil,.nil,.nil]],[],q):=
 ⟨[],XN⟩
def QT(rd:Cr.ReadW)(os:Os)(q:os.Started)(H:Type)(enc:cH×aD->H)(F:Stop.Interp):ReturnsInLeavingWide {} Tryz.checked os 7 .any ((Rows.OpenSpec.upto Rows.honestSpec).preRow enc bE eT Rows.honestUptoRow.domain aL Rows.honestUptoRow.laid) (((Rows.OpenSpec.upto Rows.honestSpec).at F).post enc bE eT aL bB aL aL):=by
 obtain⟨Y,hx⟩:=reads os enc
 refine sQ (C:=Tryz.checked) (s:=Rows.OpenSpec.upto Rows.honestSpec) own q Tryz.func7
  (witness_row_at (enc:=enc) (C:=Tryz.checked) aL (laidWorld os) Rz rfl XN XN XN
   (OpenSpec.preRow_of_cond 8 hx XN (λk hk=>by cases hk;kernel_rfl) XN (laid_met os))) ?_
 intro W base args ds gs E J hW I hL aa;exact runs rd H enc W base args ds gs E J hW (I _ rfl) hL aa
def Xr(rd:Cr.ReadW):Rows.HonestUptoSaid:=
 uO 7 eT rfl rfl rfl rfl rfl rfl rfl ⟨rfl,rfl,rfl,rfl,rfl⟩ rfl rfl rfl rfl rfl XN Tryz.func7 XN
  (Z2 XN) (by unfold Func.isWrapper;first|(rw[ZD (by decide+kernel)];kernel_rfl)|(rw[Zs (by decide+kernel)];exact⟨rfl,rfl⟩))
  (λos q H enc _ F=>by rw[OpenClaim.pre_eq_preRow];exact QT rd os q H enc F)
def plain(f:qa)(fn:Func)(E:Tryz.pinned.checked.prog.funcNamed "tributary/tributarykeep.Honest"=M f)(q:Tryz.pinned.checked.prog.funcs[f]? =M fn):aL=Tryz.pinned.checked.prog.looks []/\∀(j:Nat) t,fn.params[j]? =M t->Tryz.pinned.checked.prog.wantsStandIn t=aL:=by
 obtain rfl:f=7:=fC ((show Tryz.prog.funcNamed "tributary/tributarykeep.Honest"=M 7 by kernel_rfl).symm.trans E) |>.symm;obtain rfl:fn=eT:=(fC (Tryz.func7.symm.trans q)).symm;refine⟨XN,λj t ht=>?_⟩;rw[Tryz.params7]at ht;have ht:t=65:=by simpa using gK ht
 subst ht;exact(show Tryz.prog.wantsStandIn 65=aL by kernel_rfl)
end honest
section
theorem honest_card_holds:Rows.HonestUptoCardSaid:=
 BU .later [.data] bB (bB,"86f446d083b21c697143d8f604f5e2b0e35ced65590020ebfc29d445f4fc9267") aL bB (honest.Xr Cr.MO) XN honestUpto_row_tie rfl ⟨rfl,rfl⟩ XN rfl honest.plain XN
end
