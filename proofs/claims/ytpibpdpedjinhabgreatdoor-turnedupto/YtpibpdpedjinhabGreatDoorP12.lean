import Derived.Test.YtpibpdpedjinhabGreatDoorP11
import Derived.LaidEql
import Derived.Laws.Pointers
import Derived.OrdersIn
set_option maxRecDepth 100000
set_option maxHeartbeats 8000000
set_option linter.all false
open Bool renaming false->aL,true->aR
open Go renaming Addr->eM,Boxed->rp,Calls->dE,Code->eE,Ending->pm,Exit->p9,KeepsFrom->rr,Obj->nL,Oper->ij,Operand->jN,OwnFrom->rq,Program->cU,TypeId->cG,Value->X,World->U,bodyPost_ret->cM,callsIn_wide->gO,execOp->bN,heap_alloc_new->cT,info_parts->pa,results_none->pC,run_endLoop->rN,run_takeDeferred->rK,run_underlying->eJ,undef->aE
open Go.Ending renaming returned->bO
open Go.Fence renaming wide->gP
open Go.IntKind renaming i64->ab,u16->lB,u32->eA
open Go.Obj renaming cells->aG,deferred->eI
open Go.Proofs.Tryz renaming ntmps47->ow,results55->mi,results84->lE,underlying107->pc,underlying138->js,underlying22->lx,underlying26->py,underlying93->po
open Go.Region renaming ready->fR,wanted->cP
open Go.RowKit renaming Hid->cH
open Go.Value renaming agg->fX,bool->cK,int->N,ownBlock->cV,pointer->aD,slice->aH,string->bB,tuple->cQ
open Go.World renaming alloc_heap_new->rA,cell?_of_block->bX,drewN->oF,putObj_heap_other->qT,putObj_heap_same->ri,putObj_size->rh
open List renaming append_inj'->oi,filter_congr->pn,filter_filter->pd
open Nat renaming le_succ->mB
open Option renaming isSome_map->pb,none->Z,some->M
open Or renaming inl->bE,inr->cD
open Prod renaming fst->cI
namespace Go.Proofs.YtpibpdpedjinhabGreatDoor
namespace Hm
open Go.RowKit Go.Joins
open Dv (Ch Fine)
open Fr (F below_drewN)
def Tz(b:Nat):X:=aD (M ⟨b,0,Z⟩)
def Jw(f:F):X:=fX #[N eA f.chan,N lB f.num,bB ⟨f.data.toArray⟩,.bool f.last]
def uj(l:List F):AL:=l.map λf=>(f.num,Jw f)
structure PC where
 blk:Nat
 fm:Option Nat
 ch:Ch
 size:Int
 ended:Bool
 last:Nat
def vW(o:PC):nL:=aG #[N eA o.ch.name,N ab o.ch.opened,.map o.fm,N ab o.size,.bool o.ended,N lB o.last,.bool o.ch.spoilt] 140 (0,0)
def Small(l:List F):Prop:=∀x,x∈l->x.num<65536/\x.data.length<=65536
structure Sound(w:U)(o:PC):Prop where
 map:∃B,o.fm=M B/\lS w B lB (uj o.ch.l)
 size:o.size=Dv.size o.ch.l
 room:Dv.size o.ch.l<=4294967296
 ended:o.ended=(Dv.last o.ch.l).isSome
 last:∀n,Dv.last o.ch.l=M n->o.last=n
structure ChanAt(w:U)(o:PC):Prop where
 obj:w.heap[o.blk]? =M (vW o)
 fine:Fine o.ch.l
 small:Small o.ch.l
 lastLt:o.last<65536
 sound:o.ch.spoilt=aL->Sound w o
 spoilt:o.ch.spoilt=aR->o.ch.l=[]/\o.fm=Z
def aae{l:List F}{n:Nat}:(l9 (uj l) n).isSome=(Dv.has l n).isSome:=by unfold l9 uj Dv.has;rw[pb,pb,List.find?_map,pb];rfl
def ab8{w:U}:(zeroValue 109).run PQ w=.ok (fX #[N eA 0,N lB 0,bB ⟨#[]⟩,cK aL]) w:=XN
def Xp(w:U):(zeroValue 136).run PQ w=.ok (aD Z) w:=XN
def PE(c:Ch)(f:F)(h:c.spoilt=aL):(Dv.oM c f)=((Dv.has c.l f.num).isSome || (match Dv.last c.l with|some n=>f.last || decide (n<f.num)|none=>aL)):=by unfold Dv.oM;rw[h,Bool.or_false];rfl
def LG(o:PC)(f:F){w:U}(h:ChanAt w o)(hf:f.num<65536):dE PQ 76 #[aD (M ⟨o.blk,0,Z⟩),Jw f] w λe w'=>e=bO (.bool (!Dv.oM o.ch f))/\Below ↑w w w':=by
 obtain⟨r,hr⟩:∃r,(!Dv.oM o.ch f)=r:=⟨_,rfl⟩
 rw[hr];obtain⟨blk,fm,⟨nm,op,l,sp⟩,sz,en,la⟩:=o;obtain⟨fc,fn,fd,aa⟩:=f;unfold Jw;dsimp only at *;obtain⟨D,hD⟩:∃D:ByteArray,(⟨fd.toArray⟩:ByteArray)=D:=⟨_,rfl⟩
 rw[hD];have ak:blk<↑w:=(jE h.obj)
 obtain⟨W,hW,R,-⟩:=jD w #[N eA fc,N lB fn,bB D,.bool aa] 109;have ho:W.heap[blk]? =_:=(R.block _ ak).trans h.obj;obtain⟨-,-,e2,-,e4,e5,e6⟩:=Dn ho;have z1:W.cell? ⟨↑w,1,Z⟩=M (N lB fn):=by rw[hW];simp
 have z3:W.cell? ⟨↑w,3,Z⟩=M (.bool aa):=by rw[hW];simp
 cases sp
 .obtain⟨⟨B,rfl,hm⟩,aj,ae,Y,ah⟩:=h.sound rfl;dsimp only at hm aj Y ah;rw[PE _ _ rfl]at hr;dsimp only at hr;obtain⟨t,ht⟩:∃t,(Dv.has l fn).isSome=t:=⟨_,rfl⟩
  rw[ht]at hr;obtain⟨q,hq⟩:∃q,(match Dv.last l with|some n=>aa || decide (n<fn)|none=>aL)=q:=⟨_,rfl⟩
  rw[hq]at hr
  have ai:(en=aL/\q=aL)\/(en=aR/\q=(aa || decide (la<fn))):=by
   cases hl:Dv.last l with
   |none=>rw[hl]at Y hq;exact bE ⟨Y,hq.symm⟩
   |some n=>rw[hl]at Y hq;rw[ah n hl];exact cD ⟨Y,hq.symm⟩
  have Hr:cH _:=jy hr R
  obtain⟨v0,v1,v2,v3,am⟩:∃a b c d,(l9 (uj l) fn).getD (Value.agg #[N eA 0,N lB 0,bB ⟨#[]⟩,cK aL])=fX #[N eA a,N lB b,bB c,.bool d]:=by
   unfold l9 uj;rw[List.find?_map];cases l.find? ((λp:Nat×X=>p.1 == fn)∘λf=>(f.num,Jw f))with
   |none=>exact⟨_,_,_,_,rfl⟩
   |some x=>exact⟨_,_,_,_,rfl⟩
  have z:=λ(V:U)(E:V.heap[B]? =w.heap[B]?)=>(hm.of_block E).lookup (P:=PQ) (uq js) (uq pc) (ab8) fn aR;simp only[if_true]at z;rw[aae,am,ht]at z;have HL:cH _:=jy z (jy hm.lt (jy ak R));have J:↑w<W.heap.size:=by rw[hW];simp
  clear am hD h hm aj ae Y ah hq ht hr z R;go_enter (fq Tryz.func76 rfl),Tryz.ntmps76;go_upto_region 1 with fail;rw[<-hW];clear hW;obtain⟨rfl,rfl⟩|⟨rfl,hq⟩:=ai
  .go_quiet (fail);go_upto_region 3 with fail;generalize E:oF _ _=V;have f2:V.cell? ⟨blk,2,Z⟩=M (.map (M B)):=by rw[<-E];exact e2
   have g1:V.cell? ⟨↑w,1,Z⟩=M (N lB fn):=by rw[<-E];exact z1
   have hs:↑V=W.heap.size:=by rw[<-E];rfl
   have I:V.heap[B]? =w.heap[B]?:=by rw[<-E];exact HL.out.2.2.2.block B HL.out.2.1
   have ac:=aP HL.out.2.1 (jo J);have af:=aP HL.out.2.2.1 (jo J);rw[<-hs]at J ac af;have l1:=HL.out.1 V.drew I;have l2:=λobj=>HL.out.1 ((V.alloc obj).drew) ((aZ _ _ _ ac).trans I);have HV:cH _:=jy E hs;clear E hs I e2 e4 e5 e6 z1 z3;go_region
   all_goals
    go_wp2_with fail;go_ret;refine⟨?_,Hr.out.2.trans ?_⟩
    .rw[<-Hr.out.1];simp
    .have hb:Below ↑w W V:=by rw[<-HV.out.1];exact below_drewN (aJ _ _) _
     refine hb.trans ?_
     first|exact(((aJ _ V).alloc aA _).drew)|exact(((aJ _ V).drew.alloc (by show _<=V.heap.size;omega) _))|trace_state
  .cases aa
   .by_cases hn:la<fn
    .have an:(la:Int)<fn:=by omega
     have ag:q=aR:=by rw[hq];simp[hn]
     clear hq hn;subst ag;go_quiet (fail);go_wp2_with fail;go_ret;refine⟨?_,Hr.out.2.trans ⟨rfl,rfl,rfl,jB,λ_ _=>rfl⟩⟩;rw[<-Hr.out.1];simp
    .have ag:q=aL:=by rw[hq];simp[hn]
     have Hn:cH _:=hn;clear hq hn;subst ag;go_quiet (fail);rw[ZZ Hn.out];go_upto_region 3 with fail;generalize E:oF _ _=V;have f2:V.cell? ⟨blk,2,Z⟩=M (.map (M B)):=by rw[<-E];exact e2
     have g1:V.cell? ⟨↑w,1,Z⟩=M (N lB fn):=by rw[<-E];exact z1
     have hs:↑V=W.heap.size:=by rw[<-E];rfl
     have I:V.heap[B]? =w.heap[B]?:=by rw[<-E];exact HL.out.2.2.2.block B HL.out.2.1
     have ac:=aP HL.out.2.1 (jo J);have af:=aP HL.out.2.2.1 (jo J);rw[<-hs]at J ac af;have l1:=HL.out.1 V.drew I;have l2:=λobj=>HL.out.1 ((V.alloc obj).drew) ((aZ _ _ _ ac).trans I);have HV:cH _:=jy E hs;clear E hs I e2 e4 e5 e6 z1 z3;go_region
     all_goals
      go_wp2_with fail;go_ret;refine⟨?_,Hr.out.2.trans ?_⟩
      .rw[<-Hr.out.1];simp
      .have hb:Below ↑w W V:=by rw[<-HV.out.1];exact below_drewN (aJ _ _) _
       refine hb.trans ?_
       first|exact(((aJ _ V).alloc aA _).drew)|exact(((aJ _ V).drew.alloc (by show _<=V.heap.size;omega) _))|trace_state
   .subst hq;go_quiet (fail);go_wp2_with fail;go_ret;refine⟨?_,Hr.out.2.trans ⟨rfl,rfl,rfl,jB,λ_ _=>rfl⟩⟩;rw[<-Hr.out.1];simp
 .have Hr:cH _:=jy hr R;clear hD h hr ho R;go_enter (fq Tryz.func76 rfl),Tryz.ntmps76;go_upto_region 1 with fail;rw[<-hW];clear hW;go_quiet (fail);go_wp2_with fail;go_ret;refine⟨?_,Hr.out.2.trans ⟨rfl,rfl,rfl,jB,λ_ _=>rfl⟩⟩;rw[<-Hr.out.1];unfold Dv.oM;simp
section
variable {l:List F}{x:F}{k blk B t r cnt nm op n:Nat}{w w0 w1 w2:U}{cs:Array X}{fz:Nat×Nat}{q:IntKind}{m:AL}{L:Nat->Bool}{sp:Bool}
def upto(n:Nat)(L:Nat->Bool)(x:F):Bool:=decide (x.num<=n) || L x.num
def size_cons(x:F)(l:List F):Dv.size (x::l)=x.data.length+Dv.size l:=by simp[Dv.size]
def size_drop(Y:(l.map (·.num)).Nodup)(R:x∈l):Dv.size (l.filter (λy=>y.num != x.num))+x.data.length=Dv.size l:=by
 induction l with
 |nil=>simp at R
 |cons y l ih=>
  have E:=iE.1 (by simpa using Y:(y.num::l.map (·.num)).Nodup);obtain rfl|I:=dD.1 R
  .have:l.filter (λy=>y.num != x.num)=l:=iR.2 (λz hz=>by
    simp only[bne_iff_ne,ne_eq];exact λe=>E.1 (bM.2 ⟨z,hz,e⟩))
   rw[eG,Zs aC,this,size_cons];omega
  .have J:y.num≠x.num:=λe=>E.1 (e ▸ bM.2 ⟨x,I,rfl⟩);rw[eG,ZD (by simp[J]),size_cons,size_cons];have:=ih E.2 I;omega
def ZN(l:List F)(k:Nat):nX (uj l) k=uj (l.filter (λy=>y.num != k)):=by unfold nX uj;rw[List.filter_map];rfl
def Gv(l:List F)(n k:Nat)(L:Nat->Bool)(hk:n<k):(l.filter (upto n L)).filter (λy=>y.num != k)=l.filter (upto n (λx=>L x&&x != k)):=by
 rw[pd]
 congr 1
 funext y;unfold upto;by_cases e:y.num=k
 .simp[e];omega
 .have:(y.num != k)=aR:=by simp[e]
  show((y.num != k)&&_)=(_ || (L y.num&&(y.num != k)))
  rw[this];simp
def GV(l:List F)(n k:Nat)(L:Nat->Bool)(hk:k<=n):l.filter (upto n L)=l.filter (upto n (λx=>L x&&x != k)):=by
 congr 1
 funext y;unfold upto;by_cases e:y.num=k
 .have:y.num<=n:=by omega
  simp[this]
 .have:(y.num != k)=aR:=by simp[e]
  show _=(_ || (L y.num&&(y.num != k)))
  rw[this];simp
def aaL{v:X}(h:(k,v)∈uj l):∃x,x∈l/\x.num=k/\v=Jw x:=by unfold uj at h;obtain⟨x,z,e⟩:=bM.1 h;simp only[dJ]at e;exact⟨x,z,e.1,e.2.symm⟩
def mO(nm:Nat)(op:Nat)(fm:Option Nat)(sz:Int)(en:Bool)(la:Nat)(sp:Bool):Array X:=#[N eA nm,N ab op,.map fm,N ab sz,.bool en,N lB la,.bool sp]
structure oQ(w0:U)(blk B nm op n:Nat)(sp:Bool)(l:List F)(r:Nat)(L:Nat->Bool)(cnt:Nat)(w:U):Prop where
 rg:lD w B r lB (uj (l.filter (upto n L))) L cnt
 obj:w.heap[blk]? =M (aG (mO nm op (M B) (Dv.size (l.filter (upto n L))) aR n sp) 140 (0,0))
 jM:jI (λk=>k=blk\/k=B) w0 w
 new:↑w0<=r
def lg(h:w.heap[blk]? =M (aG cs t fz))(z:lS w B q m):blk≠B:=by obtain⟨es,c,E,_⟩:=z;intro e;rw[e,E]at h;cases h
def xI(h:w.heap[blk]? =M (aG cs t fz))(I:lD w B r q m L cnt):blk≠r:=by obtain⟨es,E,z,seen,c0,R,h2,h3,h4,Y,J,_⟩:=I;intro e;rw[e,J]at h;cases h
def oQ.came(h:oQ w0 blk B nm op n sp l r L cnt w)(E:w.grownBy w1 (M r)):w1.heap[blk]? =M (aG (mO nm op (M B) (Dv.size (l.filter (upto n L))) aR n sp) 140 (0,0))/\jI (λk=>k=blk\/k=B) w0 w1:=by
 have z:=xI h.obj h.rg;refine⟨(E.block blk (jE h.obj) (by simp[z])).trans h.obj,h.jM.trans (.grown E) (λj I e=>?_)⟩;simp at e;subst e;have:=h.new;omega
def oQ.stay(E:lD w1 B r lB (uj (l.filter (upto n L))) (λx=>L x&&x != k) cnt)(ho:w1.heap[blk]? =M (aG (mO nm op (M B) (Dv.size (l.filter (upto n L))) aR n sp) 140 (0,0)))(hc:jI (λk=>k=blk\/k=B) w0 w1)(I:↑w0<=r)(hk:k<=n)(z:Below ↑w1 w1 w2):oQ w0 blk B nm op n sp l r (λx=>L x&&x != k) cnt w2:=by
 refine⟨?_,?_,hc.trans (.below z jB (λ_=>False)) (λ_ _ e=>e.elim),I⟩
 .rw[<-GV l n k L hk];exact E.FP (z.block _ E.ZE.lt) (z.block _ E.lt)
 .rw[<-GV l n k L hk];exact(z.block _ (jE ho)).trans ho
def oQ.less(z:lD w1 B r lB m (λx=>L x&&x != k) cnt){s:Int}(ho:w1.heap[blk]? =M (aG (mO nm op (M B) s aR n sp) 140 (0,0)))(hc:jI (λk=>k=blk\/k=B) w0 w1)(E:Below ↑w1 w1 w2)(s':Int):lD (w2.setCell ⟨blk,3,Z⟩ (N ab s')) B r lB m (λx=>L x&&x != k) cnt/\(w2.setCell ⟨blk,3,Z⟩ (N ab s')).heap[blk]? =M (aG (mO nm op (M B) s' aR n sp) 140 (0,0))/\jI (λk=>k=blk\/k=B) w0 (w2.setCell ⟨blk,3,Z⟩ (N ab s')):=by
 have J:=lg ho z.ZE;have h2:=xI ho z;have I:w2.heap[blk]? =_:=(E.block _ (jE ho)).trans ho;refine⟨z.FP ((aW _ _ _ _ (λe=>J e.symm)).trans (E.block _ z.ZE.lt)) ((aW _ _ _ _ (λe=>h2 e.symm)).trans (E.block _ z.lt)),?_,?_⟩
 .have:=jX I 3 (N ab s');simpa[mO]using this
 .exact(hc.trans (.below E jB (λ_=>False)) (λ_ _ e=>e.elim)).trans (jI.set w2 blk 3 _) (λk _ e=>bE e)
def oQ.gone{w3 w4:U}(Y:(l.map (·.num)).Nodup)(hk:n<k)(hx:x∈l.filter (upto n L))(E:x.num=k)(ho:w3.heap[blk]? =M (aG (mO nm op (M B) ((Dv.size (l.filter (upto n L)):Int)-x.data.length) aR n sp) 140 (0,0)))(hc:jI (λk=>k=blk\/k=B) w0 w3)(hn:↑w0<=r)(I:lD w4 B r lB (nX (uj (l.filter (upto n L))) k) (λx=>(L x&&x != k)&&x != k) cnt)(J:w3.grownBy w4 (M B))(z:blk≠B):oQ w0 blk B nm op n sp l r (λx=>L x&&x != k) cnt w4:=by
 have R:(λx=>(L x&&x != k)&&x != k)=(λx=>L x&&x != k):=by funext x;cases L x<;>cases(x != k)<;>rfl
 rw[R,ZN,Gv l n k L hk]at I;refine⟨I,?_,hc.trans (.grown J) (λj _ e=>cD (by simpa using e.symm)),hn⟩;have hs:=size_drop ((List.filter_sublist.map _).nodup Y) hx;rw[E,Gv l n k L hk]at hs;rw[(J.block blk (jE ho) (by simp[z])),ho]
 congr 3
 omega
def Z7{p:F->Bool}(z:x∈l.filter p):x.data.length<=Dv.size (l.filter p):=by
 induction l with
 |nil=>simp at z
 |cons y l ih=>
  rw[eG]at z⊢;split
  .rename_i h;rw[ZD h]at z;rw[size_cons];obtain rfl|z:=dD.1 z
   .omega
   .have:=ih z;omega
  .rename_i h;rw[Zs h]at z;exact ih z
def Zm(blk B nm op n:Nat)(sp en:Bool)(la:Nat){l:List F}(w:U)(ho:w.heap[blk]? =M (aG (mO nm op (M B) (Dv.size l) en la sp) 140 (0,0)))(hm:lS w B lB (uj l))(hl:(l.map (·.num)).Nodup)(hs:Small l)(aa:Dv.size l<=8589934592):dE PQ 118 #[aD (M ⟨blk,0,Z⟩),N lB n] w λe w'=>e=bO (cQ #[])/\w'.heap[blk]? =M (aG (mO nm op (M B) (Dv.size (l.filter (λx=>decide (x.num<=n)))) aR n sp) 140 (0,0))/\lS w' B lB (uj (l.filter (λx=>decide (x.num<=n))))/\jI (λk=>k=blk\/k=B) w w':=by
 have aj:=lg ho hm;obtain⟨W1,ac⟩:∃W1,W1=(w.setCell ⟨blk,4,Z⟩ (cK aR)).setCell ⟨blk,5,Z⟩ (N lB n):=⟨_,rfl⟩
 obtain⟨-,-,-,-,c4,c5⟩:=Xk ho;have fz:=aQ ho
 have z:W1.heap[blk]? =M (aG (mO nm op (M B) (Dv.size l) aR n sp) 140 (0,0)):=by
  rw[ac];have:=jX (jX ho 4 (cK aR)) 5 (N lB n);simpa[mO]using this
 have a4:lS W1 B lB (uj l):=hm.of_block (by rw[ac,aW _ _ _ _ (λe=>aj e.symm),aW _ _ _ _ (λe=>aj e.symm)])
 have E:jI (λk=>k=blk\/k=B) w W1:=by
  rw[ac];exact((jI.set w blk 4 _).trans (jI.set _ blk 5 _) (λ_ _ e=>e)).mono (λk _ e=>bE e)
 obtain⟨-,-,d2⟩:=cells3 z;have H1:cH _:=jy z (jy E (jy hl (jy hs aa)));have aq:cH (lS _ _ _ _):=a4;clear ho hm hl hs aa z a4 E;go_enter (fq Tryz.func118 rfl),Tryz.ntmps118;go_upto_region 2 with fail;rw[<-ac];clear ac;go_wp2_with (first|(at_range;refine xQ _ rfl _ 138 rfl 107 109 _ (uq js) B _ rfl aq.out ?_;intro w0 a2 ak a8)|go_in)
 go_frame
 have Y:oQ w blk B nm op n sp l ↑W1 (λk=>decide (k∈(uj l).map cI)) (uj l).length w0:=by
  have ag:l.filter (upto n (λk=>decide (k∈(uj l).map cI)))=l:=iR.2 (λx hx=>by
   unfold upto;have:x.num∈(uj l).map cI:=bM.2 ⟨_,bM.2 ⟨x,hx,rfl⟩,rfl⟩;simp only[this,decide_true,Bool.or_true])
  refine⟨by rw[ag];exact a2,by rw[ag];exact(ak.block _ (jE H1.out.1) aC).trans H1.out.1,H1.out.2.1.trans (.grown ak) (λk _ e=>by simp at e),H1.out.2.1.size⟩
 obtain⟨r,hr⟩:∃r,r=W1.heap.size:=⟨_,rfl⟩
 rw[<-hr]at Y⊢;have ai:cH (oQ _ _ _ _ _ _ _ _ _ _ _ _):=Y;clear Y a2 ak a8 aq d2 hr;go_loopg [4,5] (uj l).length (λgg _ _ wx=>∃L,cH (oQ w blk B nm op n sp l r L gg wx))
 case atStart=>exact⟨_,ai⟩
 case round=>
  obtain⟨L,HE⟩:=hrel;clear ai;go_upto_region 4 with(first|(at_next;refine wR _ rfl _ rfl B r _ _ L _ rfl HE.out.rg ?_ ?_)|go_in)
  .intro bk ao;go_wp2_with fail;go_end0;refine⟨rfl,?_,?_,HE.out.jM⟩
   .have:=HE.out.obj
    have e:l.filter (upto n L)=l.filter (λx=>decide (x.num<=n)):=by
     congr 1;funext x;unfold upto;rw[ao];simp
    rw[e]at this;exact this
   .have:=HE.out.rg.ZE
    have e:l.filter (upto n L)=l.filter (λx=>decide (x.num<=n)):=by
     congr 1;funext x;unfold upto;rw[ao];simp
    rw[e]at this;exact this
  .intro k v w1 a5 a7 ah au I aw ay ba af;obtain⟨x,hx,ar,rfl⟩:=aaL ah;obtain⟨z,E⟩:=HE.out.came ay;obtain⟨xc,xn,xd,xl⟩:=x;simp only at ar;subst ar;unfold Jw at af⊢;dsimp only at af⊢;obtain⟨D,hD⟩:∃D:ByteArray,(⟨xd.toArray⟩:ByteArray)=D:=⟨_,rfl⟩
   have R:D.size=xd.length:=by rw[<-hD];rfl
   rw[hD]at af⊢;obtain⟨W2,ae,J,-⟩:=jD w1 #[N eA xc,N lB xn,bB D,.bool xl] 109;have z2:W2.cell? ⟨↑w1,2,Z⟩=M (bB D):=by rw[ae];simp
   have a9:=(jE z)
   have am:W2.heap[blk]? =_:=(J.block _ a9).trans z;obtain⟨S,hS⟩:∃S:Nat,S=Dv.size (l.filter (upto n L)):=⟨_,rfl⟩
   have bj:D.size<=S:=by rw[R,hS];exact Z7 hx
   have bl:S<=8589934592:=by rw[hS];exact bH (Dv.size_filter_le) H1.out.2.2.2.2
   have y3:W2.cell? ⟨blk,3,Z⟩=M (N ab S):=by rw[aI am,hS];rfl
   have bm:=aQ am;have bh:↑w1<W2.heap.size:=by rw[ae];simp
   have HX:cH _:=jy hx (jy I (jy z (jy E (jy J (jy hS R)))));clear hx I z E J ah au ay ba am hS hD R a7;go_upto_region 5 with fail;rw[<-ae];clear ae af;by_cases hk:xn<=n
   .have a6:¬(n:Int)<xn:=by omega
    go_wp2_with fail;go_roundg a5
    case measure=>exact aw
    case rel=>
     obtain⟨hx,I,z,E,J,hS,R⟩:=HX.out;exact⟨_,oQ.stay I z E HE.out.new hk J⟩
   .have a6:(n:Int)<xn:=by omega
    have bd:blk≠w1.heap.size:=aA
    go_upto_region 6 with fail;go_cut [29] (λv wx=>cH (∃W5,Below ↑w1 w1 W5/\wx=W5.setCell ⟨blk,3,Z⟩ (N ab ((S:Int)-D.size))))
    case first=>
     go_region
     all_goals
      go_wp2_with fail;go_meet;exact⟨_,HX.out.2.2.2.2.1.drew,rfl⟩
    case rest=>
     obtain⟨W5,bb,rfl⟩:=hcut.out;obtain⟨hx,I,z,E,J,hS,R⟩:=HX.out;obtain⟨q1,q2,q3⟩:=oQ.less I z E bb (S-D.size);obtain⟨W6,an⟩:∃W6,W6=W5.setCell ⟨blk,3,Z⟩ (N ab ((S:Int)-D.size)):=⟨_,rfl⟩
     rw[<-an]at q1 q2 q3⊢;obtain⟨-,-,y2⟩:=cells3 q2;have HQ:cH _:=jy q1 (jy q2 q3);clear hx I z E J hS R q1 q2 q3 an hcut;go_wp2_with (first|(at_delete;(refine uM _ rfl _ _ 138 107 rfl 109 _ (uq js) (uq pc) B r _ _ _ xn rfl rfl HQ.out.1 ?_;intro w7 ap av bg a1 a3;have az:cH _:=jy av (jy a1 a3);clear av a1 a3;go_frame))|go_in)
     go_roundg ap
     case measure=>omega
     case rel=>
      obtain⟨hx,I,z,E,J,hS,R⟩:=HX.out;have a0:=HQ.out.2.1;rw[hS,R]at a0;exact⟨_,oQ.gone (k:=xn) H1.out.2.2.1 aA hx rfl a0 HQ.out.2.2 HE.out.new az.out.1 az.out.2.1 aj⟩
end
section
variable {l:List F}{f:F}{c:Ch}{w0 w w':U}{blk B nm op s la:Nat}{en:Bool}
def Z8(h:f.num∉l.map (·.num)):vG (uj l) f.num (Jw f)=uj (l++[f]):=by
 unfold vG
 have:f.num∉(uj l).map cI:=by
  unfold uj;rw[jr];exact h
 rw[Zs this];unfold uj;simp
def Vf(z:f.last=aR):Dv.grown c f=(c.l++[f]).filter (λx=>decide (x.num<=f.num)):=by
 unfold Dv.grown
 congr 1
 funext x;unfold Dv.goes;rw[z,Bool.true_and,<-decide_not];exact decide_eq_decide.2 aA
def J7(z:f.last=aL):Dv.grown c f=c.l++[f]:=by unfold Dv.grown;refine iR.2 (λx _=>?_);unfold Dv.goes;rw[z];simp
def Lh(h:Small c.l)(E:f.num<65536/\f.data.length<=65536):Small (Dv.grown c f):=by
 intro x z;unfold Dv.grown at z;obtain z|z:=dM.1 (fU.1 z).1
 .exact h x z
 .rw[dK.1 z];exact E
def Jp(h:f.num∉l.map (·.num))(I:(l.map (·.num)).Nodup):((l++[f]).map (·.num)).Nodup:=by rw[bJ];refine List.nodup_append.2 ⟨I,aC,λa E b z e=>?_⟩;simp at z;subst z;exact h (e ▸ E)
structure rG(w0:U)(blk B nm op:Nat)(l:List F)(s:Nat)(en:Bool)(la:Nat)(w:U):Prop where
 obj:w.heap[blk]? =M (aG (mO nm op (M B) s en la aL) 140 (0,0))
 map:lS w B lB (uj l)
 jM:jI (λk=>k=blk\/k=B) w0 w
def rG.kept(h:rG w0 blk B nm op l s en la w)(z:Below ↑w w w'):rG w0 blk B nm op l s en la w':=
 ⟨(z.block _ (jE h.obj)).trans h.obj,h.map.of_block (z.block _ h.map.lt),h.jM.trans (.below z jB (λ_=>False)) (λ_ _ e=>e.elim)⟩
def rG.put{l':List F}(h:rG w0 blk B nm op l s en la w)(I:lS w' B lB (uj l'))(E:w.grownBy w' (M B)):rG w0 blk B nm op l' s en la w':=by have z:=lg h.obj h.map;exact⟨(E.block _ (jE h.obj) (by simp[z])).trans h.obj,I,h.jM.trans (.grown E) (λk _ e=>cD (by simpa using e.symm))⟩
def rG.size(h:rG w0 blk B nm op l s en la w)(s':Nat):rG w0 blk B nm op l s' en la (w.setCell ⟨blk,3,Z⟩ (N ab s')):=by have z:=lg h.obj h.map;refine⟨?_,h.map.of_block (aW _ _ _ _ (λe=>z e.symm)),h.jM.trans (jI.set w blk 3 _) (λk _ e=>bE e)⟩;have:=jX h.obj 3 (N ab s');simpa[mO]using this
def rG.abN(h:rG w0 blk B nm op l s en la w)(z:la<65536):ChanAt ((w.setCell ⟨blk,6,Z⟩ (cK aR)).setCell ⟨blk,2,Z⟩ (.map Z)) ⟨blk,Z,⟨nm,op,[],aR⟩,s,en,la⟩/\jI (λk=>k=blk\/k=B) w0 ((w.setCell ⟨blk,6,Z⟩ (cK aR)).setCell ⟨blk,2,Z⟩ (.map Z)):=by refine⟨⟨?_,Dv.Kz,λx E=>by simp at E,z,λh=>by simp at h,λ_=>⟨rfl,rfl⟩⟩,(h.jM.trans (jI.set w blk 6 _) (λk _ e=>bE e)).trans (jI.set _ blk 2 _) (λk _ e=>bE e)⟩;have:=jX (jX h.obj 6 (cK aR)) 2 (.map Z);simpa[mO,vW]using this
def rG.sound(h:rG w0 blk B nm op l s en la w)(z:la<65536)(I:Fine l)(hs:Small l)(R:en=(Dv.last l).isSome)(J:∀n,Dv.last l=M n->la=n)(E:s=Dv.size l)(Y:Dv.size l<=4294967296):ChanAt w ⟨blk,M B,⟨nm,op,l,aL⟩,s,en,la⟩:=
 ⟨h.obj,I,hs,z,λ_=>⟨⟨B,rfl,h.map⟩,by simp[E],Y,R,J⟩,λh=>by simp at h⟩
def VX(o:PC)(f:F)(most:Int)(w:U)(h:ChanAt w o)(hb:Dv.oM o.ch f=aL)(hf:f.num<65536/\f.data.length<=65536)(bj:0<=most/\most<=4294967296):dE PQ 77 #[aD (M ⟨o.blk,0,Z⟩),Jw f,N ab most] w λe w'=>e=bO (cQ #[])/\∃o':PC,o'.blk=o.blk/\o'.ch=Dv.joined most o.ch f/\(o'.fm=o.fm\/o'.fm=Z)/\ChanAt w' o'/\jI (λk=>k=o.blk\/o.fm=M k) w w':=by
 obtain⟨b1,b2,b3⟩:=Dv.yX hb;obtain⟨blk,fm,⟨nm,op,l,sp⟩,sz,en,la⟩:=o;dsimp only at b1 b2 b3⊢;subst b2;obtain⟨⟨B,hB,hm⟩,a3,ak,ai,ah⟩:=h.sound rfl;dsimp only at hB hm a3 ai ah ak;subst hB a3;obtain⟨c1,bg⟩:∃c:Ch,c=⟨nm,op,l,aL⟩:=⟨_,rfl⟩
 have E:=Dv.NS h.fine hb;have I:=Lh h.small hf;have z:=Dv.Bq hb
 have hj:Dv.joined most ⟨nm,op,l,aL⟩ f=(if most<(Dv.size (Dv.grown ⟨nm,op,l,aL⟩ f):Int)then⟨nm,op,[],aR⟩else⟨nm,op,Dv.grown ⟨nm,op,l,aL⟩ f,aL⟩):=by
  unfold Dv.joined;rw[hb];rfl
 obtain⟨fc,fn,fd,ae⟩:=f;unfold Jw;dsimp only at *;obtain⟨D,hD⟩:∃D:ByteArray,(⟨fd.toArray⟩:ByteArray)=D:=⟨_,rfl⟩
 have ag:D.size=fd.length:=by rw[<-hD];rfl
 rw[hD];obtain⟨W,hW,a9,-⟩:=jD w #[N eA fc,N lB fn,bB D,.bool ae] 109;have hk:rG w blk B nm op l (Dv.size l) en la W:=rG.kept ⟨h.obj,hm,jI.refl _ _⟩ a9;have aw:=hk.kept (aJ _ W).drew;obtain⟨w2,Y,aq,az,bb⟩:=aw.map.update (P:=PQ) (uq js) (uq pc) fn (Jw ⟨fc,fn,fd,ae⟩);have am:=Z8 (l:=l) (f:=⟨fc,fn,fd,ae⟩) b1;dsimp only at am;rw[am]at aq;have aa:=aw.put aq az;unfold Jw at Y;dsimp only at Y;rw[hD]at Y;have bk:blk<↑w:=(jE h.obj)
 obtain⟨-,-,e2⟩:=cells3 hk.obj;have bd:↑w<W.heap.size:=by rw[hW];simp
 have zo:W.heap[w.heap.size]? =M (aG #[N eA fc,N lB fn,bB D,.bool ae] 109 (0,0)):=by rw[hW];exact cT _ _
 obtain⟨z0,z1,z2,z3⟩:=cells4 zo;have ac:w2.heap[w.heap.size]? =_:=(az.block _ (show _<W.heap.size from bd) (by simp;have:=hm.lt;omega)).trans zo;obtain⟨-,y1,y2,y3⟩:=cells4 ac;have x3:w2.cell? ⟨blk,3,Z⟩=M (N ab (Dv.size l:Int)):=mZ aa.obj rfl;have fz:=aQ aa.obj;obtain⟨S,hS⟩:∃S,Dv.size l=S:=⟨_,rfl⟩
 have J:Dv.size (l++[⟨fc,fn,fd,ae⟩])=S+D.size:=by rw[Dv.size_append,hS,ag]
 rw[hS]at x3 aa ak;have bl:D.size<=65536:=by rw[ag];exact hf.2
 have H:cH _:=jy h (jy E (jy I (jy z (jy aa (jy J (jy ai (jy ah (jy hb (jy b1 (jy b3 (jy hf (jy ac (jy ag hj)))))))))))));have ba:blk≠w.heap.size:=aA
 clear h E I z hk aw aa J ai ah b1 b3 hm aq az bb am hj bg a9 hS hD hb hf zo ac c1 ag;go_enter (fq Tryz.func77 rfl),Tryz.ntmps77;go_upto_region 1 with fail;rw[<-hW];clear hW;go_cut [12] (λ_ wx=>wx=w2)
 case first=>
  go_region
  all_goals
   go_wp2_with fail;go_meet;rfl
 case rest=>
  subst hcut;clear e2 z0 z1 z2 z3 Y;go_upto_region 2 with fail;go_cut [16] (λ_ wx=>cH (∃W5,Below ↑wc wc W5/\wx=W5.setCell ⟨blk,3,Z⟩ (N ab ((S+D.size:Nat):Int))))
  case first=>
   go_region
   all_goals
    go_wp2_with fail;go_meet;exact⟨_,(aJ _ _).drew,by rw[Int.natCast_add];rfl⟩
  case rest=>
   obtain⟨W5,ao,rfl⟩:=hcut.out;obtain⟨h,E,I,z,aa,J,ai,ah,hb,b1,b3,hf,ac,ag,hj⟩:=H.out;have R:=(aa.kept ao).size (S+D.size);have an:(W5.setCell ⟨blk,3,Z⟩ (N ab ((S+D.size:Nat):Int))).heap[w.heap.size]? =_:=((aW _ _ _ _ ba.symm).trans (ao.block _ (jE ac))).trans ac;obtain⟨W6,ap⟩:∃W6,W6=W5.setCell ⟨blk,3,Z⟩ (N ab ((S+D.size:Nat):Int)):=⟨_,rfl⟩
   rw[<-ap]at R an⊢;obtain⟨-,y1,-,y3⟩:=cells4 an;have a0:=Jp (l:=l) (f:=⟨fc,fn,fd,ae⟩) b1 h.fine.apart;cases ae
   .have hg:=J7 (c:=⟨nm,op,l,aL⟩) (f:=⟨fc,fn,fd,aL⟩) rfl;dsimp only at hg;rw[hg]at E I z hj;rw[J]at hj;have x3:W6.cell? ⟨blk,3,Z⟩=M (N ab ((S+D.size:Nat):Int)):=mZ R.obj rfl;obtain⟨-,-,x2,-,-,-,x6⟩:=Dn R.obj;have bh:=aQ R.obj;have H6:cH _:=jy R (jy E (jy I (jy z (jy h.lastLt (jy ai (jy ah (jy J hj)))))));clear h E I z aa J ai ah hb b1 b3 hf ac R an ap ao hcut hg a0 fz ag hj;by_cases au:most<((S+D.size:Nat):Int)
    .have a2:most<(S:Int)+(D.size:Int):=by omega
     go_wp2_with fail;go_end0;obtain⟨q1,q2⟩:=rG.abN H6.out.1 H6.out.2.2.2.2.1;obtain⟨k5,k1,k2,k3,k4,k6,k7,k8,kj⟩:=H6.out;rw[ZD au]at kj;exact⟨rfl,_,rfl,kj.symm,cD rfl,q1,q2.mono (λk _ e=>e.imp id (λe=>by rw[e]))⟩
    .have a2:¬most<(S:Int)+(D.size:Int):=by omega
     go_wp2_with fail;go_end0;obtain⟨k5,k1,k2,k3,k4,k6,k7,k8,kj⟩:=H6.out;rw[Zs aA]at kj;simp only[bU,if_false,Option.or_none]at k3;refine⟨rfl,_,rfl,kj.symm,bE rfl,rG.sound k5 k4 k1 k2 (by rw[k3];exact k6) (λn hn=>k7 n (by rw[<-k3];exact hn)) k8.symm aA,k5.jM.mono (λk _ e=>e.imp id (λe=>by rw[e]))⟩
   .have hg:=Vf (c:=⟨nm,op,l,aL⟩) (f:=⟨fc,fn,fd,aR⟩) rfl;dsimp only at hg;rw[hg]at E I z hj
    have af:=Zm blk B nm op fn aL en la W6 (by rw[J];exact R.obj) R.map a0 (λx hx=>by
     obtain hx|hx:=dM.1 hx
     .exact h.small x hx
     .rw[dK.1 hx];exact hf) (by rw[J];omega)
    obtain⟨l2,av⟩:∃l2:List F,l2=(l++[(⟨fc,fn,fd,aR⟩:F)]).filter (λx=>decide (x.num<=fn)):=⟨_,rfl⟩
    rw[<-av]at af E I z hj;have ar:cH _:=λ(_:Unit)=>af
    have a4:Dv.last l=Z:=by
     cases hx:Dv.last l with
     |none=>rfl
     |some n=>have:=(b3 n hx).1;cases this
    have a7:Dv.size l2<=S+D.size:=by rw[av,<-J];exact Dv.size_filter_le
    obtain⟨S2,a8⟩:∃S2,Dv.size l2=S2:=⟨_,rfl⟩
    rw[a8]at a7 hj;have H6:cH _:=jy R (jy E (jy I (jy z (jy hf.1 (jy a4 (jy a8 hj))))));clear h E I z aa J ai ah hb b1 b3 hf ac R an ap ao hcut hg a0 fz ag hj af av a4;go_upto_region 5 with(first|(go_at_call 118;refine aT (ar.out ()) ?_;rintro e w7 ⟨rfl,aj,a5,a6⟩)|go_in)
    obtain⟨k5,k1,k2,k3,k4,k6,kS,kj⟩:=H6.out;rw[kS]at aj;have a1:rG w blk B nm op l2 S2 aR fn w7:=⟨aj,a5,k5.jM.trans a6 (λ_ _ e=>e)⟩
    have x3:w7.cell? ⟨blk,3,Z⟩=M (N ab (S2:Int)):=mZ aj rfl;obtain⟨-,-,x2,-,-,-,x6⟩:=Dn aj;have bm:=aQ aj;have ay:cH (rG _ _ _ _ _ _ _ _ _ _):=a1;clear aj a5 a6 a1 k5 k1 k2 k3 k4 k6 kS kj;by_cases au:most<(S2:Int)
    .go_wp2_with fail;go_end0;obtain⟨k5,k1,k2,k3,k4,k6,kS,kj⟩:=H6.out;obtain⟨q1,q2⟩:=rG.abN ay.out k4;rw[ZD au]at kj;exact⟨rfl,_,rfl,kj.symm,cD rfl,q1,q2.mono (λk _ e=>e.imp id (λe=>by rw[e]))⟩
    .go_wp2_with fail;go_end0;obtain⟨k5,k1,k2,k3,k4,k6,kS,kj⟩:=H6.out;rw[Zs aA]at kj;rw[k6]at k3;simp only[if_true,Option.none_or]at k3;refine⟨rfl,_,rfl,kj.symm,bE rfl,rG.sound ay.out k4 k1 k2 (by rw[k3];rfl) (λn hn=>by rw[k3]at hn;exact fC hn) kS.symm aA,ay.out.jM.mono (λk _ e=>e.imp id (λe=>by rw[e]))⟩
end
section
variable {k nb n b:Nat}{XS:Nat->Prop}{w w':U}{o:PC}{vo:X}{nm:AL}{os:List PC}
def ptr(b:Nat):X:=aD (M ⟨b,0,Z⟩)
structure Chs(w:U)(nb:Nat)(vo:X)(nm:AL)(os:List PC):Prop where
 named:lS w nb eA nm
 order:Row w 136 1 vo os.length (os.map λo=>ptr o.blk)
 chans:∀o,o∈os->ChanAt w o
 apart:(os.map (·.blk)).Nodup
 maps:∀o o',o∈os->o'∈os->∀b,o.fm=M b->o'.fm=M b->o.blk=o'.blk
 far:∀o,o∈os->o.fm≠M nb
 entries:∀p,p∈nm->∃o,o∈os/\p=(o.ch.name,ptr o.blk)
def Own(nb:Nat)(vo:X)(os:List PC)(k:Nat):Prop:=k=nb\/vo.ownBlock=M k\/∃o,o∈os/\(k=o.blk\/o.fm=M k)
def alive(nm:AL)(o:PC):Bool:=match l9 nm o.ch.name with
 |some (aD (M a))=>a.block == o.blk
 |_=>aL
def lives(nm:AL)(os:List PC):List Ch:=(os.filter (alive nm)).map (·.ch)
def LZ{m:AL}{v:X}(h:l9 m k=M v):(k,v)∈m:=by
 unfold l9 at h;rw[bI]at h
 grind
def ChanAt.jM(h:ChanAt w o)(hc:jI XS w w')(E:¬XS o.blk)(h2:∀b,o.fm=M b->¬XS b):ChanAt w' o:=by refine⟨(hc.block _ (jE h.obj) E).trans h.obj,h.fine,h.small,h.lastLt,λhs=>?_,h.spoilt⟩;obtain⟨⟨B,e,z⟩,a,b,c,d⟩:=h.sound hs;exact⟨⟨B,e,z.of_block (hc.block _ z.lt (h2 B e))⟩,a,b,c,d⟩
def Chs.jM(h:Chs w nb vo nm os)(hc:jI XS w w')(z:∀k,Own nb vo os k->¬XS k):Chs w' nb vo nm os:=
 ⟨h.named.of_block (hc.block _ h.named.lt (z _ (bE rfl))),h.order.jM hc (λg I=>z g (cD (bE I))),λo ho=>(h.chans o ho).jM hc (z _ (cD (cD ⟨o,ho,bE rfl⟩))) (λb E=>z b (cD (cD ⟨o,ho,cD E⟩))),h.apart,h.maps,h.far,h.entries⟩
def Chs.below(h:Chs w nb vo nm os)(z:Below ↑w w w'):Chs w' nb vo nm os:=h.jM (.below z jB (λ_=>False)) (λ_ _ e=>e)
def Chs.qZ(h:Chs w nb vo nm os)(hk:Own nb vo os k):k<↑w:=by
 obtain rfl|hk|⟨o,ho,rfl|hk⟩:=hk
 .exact h.named.lt
 .exact h.order.lt hk
 .exact(dY.1 (h.chans o ho).obj).1
 .cases hs:o.ch.spoilt
  .obtain⟨⟨B,e,z⟩,_⟩:=(h.chans o ho).sound hs;rw[e]at hk;cases hk;exact z.lt
  .rw[((h.chans o ho).spoilt hs).2]at hk;cases hk
def Chs.lK(h:Chs w nb vo nm os){cs:Array X}{t:Nat}{z:Nat×Nat}(hk:w.heap[k]? =M (aG cs t z))(R:t≠136)(h2:t≠140):¬Own nb vo os k:=by
 rintro(rfl|e|⟨o,ho,rfl|e⟩)
 .exact lg hk h.named rfl
 .obtain⟨E,hc⟩:=h.order.obj e
  grind
 .have hc:=(h.chans o ho).obj;unfold vW at hc
  grind
 .cases hs:o.ch.spoilt
  .obtain⟨⟨B,J,I⟩,_⟩:=(h.chans o ho).sound hs;rw[J]at e;cases e;exact lg hk I rfl
  .rw[((h.chans o ho).spoilt hs).2]at e;cases e
def Chs.get(h:Chs w nb vo nm os):l9 nm n=Z\/∃o,o∈os/\o.ch.name=n/\l9 nm n=M (ptr o.blk):=by
 cases z:l9 nm n with
 |none=>exact bE rfl
 |some v=>
  obtain⟨o,ho,e⟩:=h.entries _ (LZ z)
  grind
def pX(h:l9 nm o.ch.name=M (ptr b)):alive nm o=(b == o.blk):=by unfold alive;rw[h];rfl
def sH(h:l9 nm o.ch.name=Z):alive nm o=aL:=by unfold alive;rw[h]
def afv(w:U):(sizeOf 140).run PQ w=.ok 7 w:=XN
def agD{a:Nat}{I cb:Array X}{ta tb:cG}(z:w.heap[a]? =M (aG I ta (0,0)))(J:w.heap[b]? =M (aG cb tb (0,0))):(binOp .eql 136 (aD (M ⟨a,0,Z⟩)) (aD (M ⟨b,0,Z⟩))).run PQ w=.ok (.bool (a == b)) w:=by
 have E:(sameAddr ⟨a,0,Z⟩ ⟨b,0,Z⟩).run PQ w=.ok (a == b) w:=by
  by_cases e:a=b
  .subst e;rw[run_sameAddr_same];simp
  .rw[run_sameAddr_other w (a:=⟨a,0,Z⟩) (b:=⟨b,0,Z⟩) (λh=>e (Z1 Addr.block h)) z J,show(a == b)=aL from ZS e]
 have h2:(Op.equal 136 (aD (M ⟨a,0,Z⟩)) (aD (M ⟨b,0,Z⟩))).run PQ w=.ok (a == b) w:=by
  unfold Op.equal Op.maxDepth
  show(Op.equalIn (9999+1) _ _ _).run _ _=_
  unfold Op.equalIn;simp only[iU,eJ (uq Tryz.underlying136),Result.andThen,afv];simp[E]
 simp only[binOp];simp[h2]
def Xl:(binOp .eql 136 (aD Z) (aD (M ⟨b,0,Z⟩))).run PQ w=.ok (cK aL) w:=by
 have h2:(Op.equal 136 (aD Z) (aD (M ⟨b,0,Z⟩))).run PQ w=.ok aL w:=by
  unfold Op.equal Op.maxDepth
  show(Op.equalIn (9999+1) _ _ _).run _ _=_
  unfold Op.equalIn;simp only[iU,eJ (uq Tryz.underlying136),Result.andThen];rfl
 simp only[binOp];simp[h2]
structure Core(w:U)(nb:Nat)(nm:AL)(os:List PC):Prop where
 named:lS w nb eA nm
 objs:∀o,o∈os->w.heap[o.blk]? =M (vW o)
 entries:∀p,p∈nm->∃o,o∈os/\p=(o.ch.name,ptr o.blk)
def Chs.core(h:Chs w nb vo nm os):Core w nb nm os:=⟨h.named,λo ho=>(h.chans o ho).obj,h.entries⟩
def Core.get(h:Core w nb nm os):l9 nm n=Z\/∃o,o∈os/\o.ch.name=n/\l9 nm n=M (ptr o.blk):=by
 cases z:l9 nm n with
 |none=>exact bE rfl
 |some v=>
  obtain⟨o,ho,e⟩:=h.entries _ (LZ z)
  grind
def Core.jM(h:Core w nb nm os)(hc:jI XS w w')(z:¬XS nb)(h2:∀o,o∈os->¬XS o.blk):Core w' nb nm os:=
 ⟨h.named.of_block (hc.block _ h.named.lt z),λo ho=>(hc.block _ (dY.1 (h.objs o ho)).1 (h2 o ho)).trans (h.objs o ho),h.entries⟩
def Core.drewN(h:Core w nb nm os)(m:Nat):Core (w.drewN m) nb nm os:=⟨h.named.of_block rfl,h.objs,h.entries⟩
def rU(s nb:Nat)(i:Nat)(nm:AL)(os:List PC)(o:PC)(w:U)(h:Core w nb nm os)(ho:o∈os)(hs:w.cell? ⟨s,i,Z⟩=M (.map (M nb))):dE PQ 67 #[aD (M ⟨s,i,Z⟩),ptr o.blk] w λe w'=>e=bO (.bool (alive nm o))/\∃m,w'=w.drewN m:=by
 have E:=h.objs o ho;have c0:=kJ E;have z:=(h.named.of_block (w':=w.drew) rfl).lookup (P:=PQ) (uq po) (uq lx) (Xp _) o.ch.name aL;simp only[bU,if_false]at z;obtain⟨r,J⟩:∃r,alive nm o=r:=⟨_,rfl⟩
 rw[J];unfold ptr;obtain I|⟨o',Y,hn,I⟩:=h.get (n:=o.ch.name)
 .rw[I]at z;simp only[Option.getD_none]at z;rw[sH I]at J;subst J;have R:=Xl (w:=w.drew) (b:=o.blk);clear h ho E I;go_enter (fq Tryz.func67 rfl),Tryz.ntmps67;go_wp2_with fail;go_region
  all_goals
   go_wp2_with fail;go_ret;exact⟨rfl,1,rfl⟩
 .rw[I]at z;simp only[fH]at z;unfold ptr at z;rw[pX I]at J;have R:=agD (w:=w.drew) (h.objs o' Y) E;rw[J]at R;clear h ho E I J;go_enter (fq Tryz.func67 rfl),Tryz.ntmps67;go_wp2_with fail;go_region
  all_goals
   go_wp2_with fail;go_ret;exact⟨rfl,1,rfl⟩
end
open Dv (Cf X2 Tx)
open Fr (below_drewN)
section
variable {w:U}
abbrev PU:=X2×X×X
variable {ps:List PU}
def oq(p:PU):List X:=[N ab p.1.id,N ab p.1.time,p.2.1,p.2.2]
def oz(w:U)(v:X)(ps:List PU):Prop:=Rd w 4 v ps.length (ps.flatMap oq)/\∀p,p∈ps->kW w p.1 p.2.1 p.2.2
def oz.below{w':U}{v:X}(h:oz w v ps)(z:Below ↑w w w'):oz w' v ps:=⟨Rd.below h.1 z,λp hp=>(h.2 p hp).below z⟩
def oz.get{g off cap:Nat}(h:oz w (aH (M ⟨g,off,Z⟩) ps.length cap) ps){j:Nat}{p:PU}(z:ps[j]? =M p):w.cell? ⟨g,off+j*4,Z⟩=M (N ab p.1.id)/\w.cell? ⟨g,off+j*4+1,Z⟩=M (N ab p.1.time)/\w.cell? ⟨g,off+j*4+2,Z⟩=M p.2.1/\w.cell? ⟨g,off+j*4+3,Z⟩=M p.2.2:=by
 have k:=λi u hi (E:(oq p)[i]? =M u)=>Rd.rec oq 4 (λ_=>rfl) h.1 z hi E;exact⟨k 0 _ aA rfl,k 1 _ aA rfl,k 2 _ aA rfl,k 3 _ aA rfl⟩
def JE(us:List X2)(i:Nat)(u:X2)(E:us[i]? =M u)(b:Option Int):Dv.kF b (us.drop i)=(Dv.lY b u&&Dv.kF (M u.time) (us.drop (i+1))):=by obtain⟨z,rfl⟩:=aN.1 E;rw[List.drop_eq_getElem_cons z,Dv.kF]
def RF(us:List X2)(i:Nat)(h:us.length<=i)(b:Option Int):Dv.kF b (us.drop i)=aR:=by rw[List.drop_eq_nil_of_le h,Dv.kF]
def GK{v:X}(ps:List PU)(w:U)(h:oz w v ps)(hl:ps.length<=4294967296):dE PQ 29 #[v] w λe w'=>e=bO (.bool (Dv.jS (ps.map cI)))/\Below ↑w w w':=by
 obtain⟨r,hr⟩:∃r,Dv.jS (ps.map cI)=r:=⟨_,rfl⟩
 rw[hr]
 have hd:Dv.jS (ps.map cI)=((decide ((1:Int)<=ps.length)&&decide ((ps.length:Int)<=60))&&Dv.kF Z (ps.map cI)):=by
  unfold Dv.jS;rw[bC,Bool.decide_and]
  congr 2
  .exact decide_eq_decide.2 aA
  .exact decide_eq_decide.2 aA
 rw[hr]at hd;have c1:=λW=>ng ps.length 1 60 W;obtain⟨b1,ac⟩:∃b,(decide ((1:Int)<=ps.length)&&decide ((ps.length:Int)<=60))=b:=⟨_,rfl⟩
 rw[ac]at c1 hd;have C1:cH _:=c1;clear c1 hr;cases b1
 .obtain⟨a,cap,rfl⟩:=Rd.slice h.1;have Hd:cH _:=hd;clear hd ac h;go_enter (fq Tryz.func29 rfl),Tryz.ntmps29;go_wp2_with (go_at_call 35;refine aT (C1.out _) ?_;rintro e w2 ⟨rfl,J⟩;obtain rfl:=J.symm)
  go_ret;exact⟨by rw[Hd.out];rfl,aJ _ _⟩
 .have h1:1<=ps.length/\ps.length<=60:=by
   simp only[dF,Z3]at ac;omega
  obtain⟨g,off,cap,rfl,a3,hg,_⟩:=Rd.pos h.1 aA;obtain⟨p0,I⟩:∃p,ps[0]? =M p:=⟨_,aO aA⟩
  obtain⟨k0,k1,k2,k3⟩:=h.get I;simp only[Nat.zero_mul,Nat.add_zero]at k0 k1 k2 k3;have ah:(ps.map cI)[0]? =M p0.1:=by rw[fE,I];rfl
  have c2:=λW hb=>first_any _ _ _ W ((h.2 p0 (aX I)).below hb);have ae:=JE _ 0 _ ah Z;rw[List.drop_zero,Eh]at ae;rw[ae]at hd;obtain⟨b2,E⟩:∃b,mM p0.1=b:=⟨_,rfl⟩
  rw[E]at c2 hd;unfold Ku at c2;obtain⟨ta,tc,Y⟩:=Rd.slice (h.2 p0 (aX I)).1;obtain⟨la,lc,aa⟩:=Rd.slice (h.2 p0 (aX I)).2.1;rw[Y]at c2 k2;rw[aa]at c2 k3;have C2:cH _:=c2;have a0:(1:Int)<=ps.length:=aA
  have a2:(ps.length:Int)<=cap:=aA
  have ay:(0:Int)<ps.length:=aA
  cases b2
  .have Hd:cH _:=hd;clear hd ac h c2 ae ah Y aa I;go_enter (fq Tryz.func29 rfl),Tryz.ntmps29;go_wp2_with (first|(go_at_call 35;refine aT (C1.out _) ?_;rintro e w2 ⟨rfl,J⟩;obtain rfl:=J.symm)|(go_at_call 18;refine aT (C2.out _ ?_) ?_;exact aJ _ _;rintro e w2 ⟨rfl,E⟩)|fail)
   go_ret;exact⟨by rw[Hd.out];rfl,E⟩
  .have an:0<=p0.1.time/\p0.1.time<=1000000:=by
    unfold mM at E;simp only[dF,Z3]at E;exact E.1
   by_cases aq:cap=1
   .have au:ps.length=1:=by omega
    have hr:r=aR:=by
     rw[hd,RF _ _ (by rw[bC];omega)];rfl
    subst aq;have Hr:cH _:=hr;rw[au]at C1⊢;clear hd ac h c2 ae ah Y aa I an hr;go_enter (fq Tryz.func29 rfl),Tryz.ntmps29;go_wp2_with (first|(go_at_call 35;refine aT (C1.out _) ?_;rintro e w2 ⟨rfl,J⟩;obtain rfl:=J.symm)|(go_at_call 18;refine aT (C2.out _ ?_) ?_;exact aJ _ _;rintro e w2 ⟨rfl,E⟩)|fail)
    have ak:cH _:=E;clear E;go_loopg [3,4,19] 0 (λgg _ _ aj wx=>aj=N ab 0/\wx=w2)
    case atStart=>exact⟨rfl,rfl⟩
    case round=>
     obtain⟨rfl,rfl⟩:=hrel;go_wp2_with fail;go_ret;exact⟨by rw[Hr.out];rfl,ak.out⟩
   .have Hd:cH _:=hd;have H:cH _:=jy h (jy I an);clear hd ac h c2 ae ah Y aa I an;go_enter (fq Tryz.func29 rfl),Tryz.ntmps29;go_wp2_with (first|(go_at_call 35;refine aT (C1.out _) ?_;rintro e w2 ⟨rfl,J⟩;obtain rfl:=J.symm)|(go_at_call 18;refine aT (C2.out _ ?_) ?_;exact aJ _ _;rintro e w2 ⟨rfl,E⟩)|fail)
    have ak:cH _:=E;clear E k0 k1 k2 k3;go_loopg [3,4,19] ps.length (λgg _ _ aj wx=>∃(i:Nat)(p:PU),i+1<=ps.length/\aj=N ab i/\gg=ps.length-i/\cH (ps[i]? =M p/\(0<=p.1.time/\p.1.time<=1000000+24*i)/\r=Dv.kF (M p.1.time) ((ps.map cI).drop (i+1))/\Below ↑w w wx))
    case atStart=>exact⟨0,p0,aA,rfl,rfl,H.out.2.1,by have:=H.out.2.2;omega,by rw[Hd.out];simp,ak.out⟩
    case round=>
     obtain⟨i,p,hi,rfl,rfl,HI⟩:=hrel;obtain⟨hp,ai,af,R⟩:=HI.out;by_cases av:i+1<ps.length
     .obtain⟨q,hq⟩:∃q,ps[i+1]? =M q:=⟨_,aO av⟩
      have hU:=H.out.1.below R;obtain⟨k0,k1,k2,k3⟩:=hU.get hq;obtain⟨_,kt,_,_⟩:=hU.get hp;rw[show off+(i+1)*4=off+4+i*4 from by omega]at k0 k1 k2 k3;obtain⟨ta,tc,Y⟩:=Rd.slice (hU.2 q (aX hq)).1;obtain⟨la,lc,aa⟩:=Rd.slice (hU.2 q (aX hq)).2.1;have c3:=λW hb=>next_any p.1.time _ W ((hU.2 q (aX hq)).below hb) aA;have ag:=JE (ps.map cI) (i+1) q.1 (by rw[fE,hq];rfl) (M p.1.time);rw[U2]at ag;obtain⟨b3,am⟩:∃b,mY p.1.time q.1=b:=⟨_,rfl⟩
      rw[am]at c3 ag;unfold Ku at c3;rw[Y]at c3 k2;rw[aa]at c3 k3;obtain⟨W,hW,z,-⟩:=jD wr #[N ab q.1.id,N ab q.1.time,.slice ta q.1.txs.length tc,.slice la q.1.logs.length lc] 28;have a4:=(z.cell (p:=⟨g,_,Z⟩) (by have:=R.size;show g<_;omega)).trans kt;have z0:W.cell? ⟨↑wr,0,Z⟩=M (N ab q.1.id):=by rw[hW];simp
      have z1:W.cell? ⟨↑wr,1,Z⟩=M (N ab q.1.time):=by rw[hW];simp
      have z2:W.cell? ⟨↑wr,2,Z⟩=M (.slice ta q.1.txs.length tc):=by rw[hW];simp
      have z3:W.cell? ⟨↑wr,3,Z⟩=M (.slice la q.1.logs.length lc):=by rw[hW];simp
      have C3:cH _:=c3;have ap:cH _:=jy ag (jy af (jy hq (jy R (jy am (jy ai z)))));have aw:(i:Int)<ps.length-1:=aA
      have az:(i:Int)<ps.length:=aA
      clear c3 ag af hq Y aa hU hp R am ai;have ar:i<ps.length-1:=aA
      go_upto_region 6 with fail;rw[<-hW];clear hW;have a1:=aJ ↑W W;cases b3
      .go_region_with (go_at_call 40;(refine aT (C3.out _ ?_) ?_;(first|exact z|exact z.drew|exact below_drewN z _);rintro e w5 ⟨rfl,ao⟩))
       all_goals
        go_wp2_with fail;go_ret;obtain⟨q1,q2,q3,q4,q5,q6,q7⟩:=ap.out;refine⟨by rw[q2,q1];rfl,q4.trans ((Below.trans ?_ (ao.mono ?_)).mono q4.size)⟩
        .first|exact z|exact z.drew|exact below_drewN z _
        .first|exact z.size|exact z.drew.size|exact(below_drewN z _).size
      .go_region_with (go_at_call 40;(refine aT (C3.out _ ?_) ?_;(first|exact z|exact z.drew|exact below_drewN z _);rintro e w5 ⟨rfl,ao⟩))
       all_goals
        go_wp2_with fail;go_roundg (ps.length-(i+1))
        case measure=>omega
        case rel=>
         obtain⟨q1,q2,q3,q4,q5,q6,q7⟩:=ap.out;refine⟨_,q,aA,by go_num,rfl,q3,?_,by rw[q2,q1];rfl,q4.trans ((Below.trans ?_ (ao.mono ?_)).mono q4.size)⟩
         .unfold mY at q5;simp only[dF,Z3]at q5;omega
         .first|exact z|exact z.drew|exact below_drewN z _
         .first|exact z.size|exact z.drew.size|exact(below_drewN z _).size
     .have ar:¬i<ps.length-1:=by omega
      clear hp ai af R;go_wp2_with fail;go_ret;obtain⟨hp,ai,af,R⟩:=HI.out;refine⟨?_,R⟩;rw[af,RF _ _ (by rw[bC];omega)];rfl
end
open Dv (X2 Cf Ba Ch)
section
variable {v vo:X}{s n nb:Nat}{xs:List X}
structure jL(XS:Nat->Prop)(w w':U):Prop where
 size:↑w<=w'.heap.size
 block:∀k,k<w.heap.size->¬XS k->w'.heap[k]? =w.heap[k]?
section
variable {XS M':Nat->Prop}{w w' w'':U}
def jL.refl(XS:Nat->Prop)(w:U):jL XS w w:=⟨jB,λ_ _ _=>rfl⟩
def jI.h(h:jI XS w w'):jL XS w w':=⟨h.size,h.block⟩
def jL.trans(h:jL XS w w')(z:jL M' w' w'')(I:∀k,k<w.heap.size->M' k->XS k):jL XS w w'':=
 ⟨bH h.size z.size,λk hk E=>(z.block k (aP hk h.size) (λe=>E (I k hk e))).trans (h.block k hk E)⟩
def jL.mono(h:jL XS w w')(z:∀k,k<w.heap.size->XS k->M' k):jL M' w w':=⟨h.size,λk hk E=>h.block k hk (λe=>E (z k hk e))⟩
def jL.heaps{v v':U}(h:jL XS w w')(e:v.heap=w.heap)(z:v'.heap=w'.heap):jL XS v v':=⟨by rw[e,z];exact h.size,λk hk=>by rw[e,z];rw[e]at hk;exact h.block k hk⟩
def jL.fake(h:jL XS w w'):∃v,jI XS w v/\v.heap=w'.heap:=⟨{ w' with os:=w.os,tape:=w.tape,output:=w.output },⟨rfl,rfl,rfl,h.size,h.block⟩,rfl⟩
def Row.heap{e:Nat}(h:Row w e s v n xs)(q:w'.heap=w.heap):Row w' e s v n xs:=h.kept (λg _=>by rw[q])
def Rd.heap(h:Rd w s v n xs)(q:w'.heap=w.heap):Rd w' s v n xs:=h.kept (by grind) (λ_ g _ _=>by rw[q])
def rH.heap{kb:Nat}{c:Cf}{vu:X}{us:List PB}{dl:Nat->List (List UInt8)}{vw:X}{ws:List PW}{cnt ep sq:Nat}(h:rH w kb c vu us dl nb vo vw ws cnt ep sq)(q:w'.heap=w.heap):rH w' kb c vu us dl nb vo vw ws cnt ep sq:=
 ⟨by rw[q];exact h.obj,h.upper.heap q,h.wait.heap q,λj p hp=>Row.heap (h.deps j p hp) q,λp hp=>Row.heap (h.txs p hp) q⟩
def ChanAt.heap{o:PC}(h:ChanAt w o)(q:w'.heap=w.heap):ChanAt w' o:=⟨by rw[q];exact h.obj,h.fine,h.small,h.lastLt,λe=>by
 have s:=h.sound e;obtain⟨B,E,z⟩:=s.map;exact⟨⟨B,E,z.of_block (by rw[q])⟩,s.size,s.room,s.ended,s.last⟩,h.spoilt⟩
def Chs.heap{nm:AL}{os:List PC}(h:Chs w nb vo nm os)(q:w'.heap=w.heap):Chs w' nb vo nm os:=⟨h.named.of_block (by rw[q]),h.order.heap q,λo ho=>(h.chans o ho).heap q,h.apart,h.maps,h.far,h.entries⟩
def kW.heap{u:X2}{vt vl:X}(h:kW w u vt vl)(q:w'.heap=w.heap):kW w' u vt vl:=⟨Rd.heap h.1 q,Rd.heap h.2.1 q,h.2.2⟩
def qg(q:w'.heap=w.heap)(a:eM):w'.cell? a=w.cell? a:=by unfold World.cell?;rw[q]
def lJ.heap(h:lJ w)(q:w'.heap=w.heap):lJ w':=⟨⟨by rw[qg q];exact h.1.1,by rw[qg q];exact h.1.2.1,by rw[qg q];exact h.1.2.2⟩,⟨by rw[qg q];exact h.2.1,by rw[qg q];exact h.2.2.1,by rw[qg q];exact h.2.2.2⟩⟩
end
end
open Go.RowKit Go.Joins Go.Shelf
open Dv (X2 Cf Ba)
def WC(w:U):(binOp .eql 26 (aH Z 0 0) (aH Z 0 0)).run PQ w=.ok (cK aR) w:=XN
def SY(w:U)(a:eM)(n c:Nat):(binOp .eql 26 (aH (M a) n c) (aH Z 0 0)).run PQ w=.ok (cK aL) w:=XN
def OQ{v:X}{l:List (List UInt8)}(w:U)(h:kQ w v l)(hl:l.length<=4294967296):dE PQ 47 #[v] w λe w'=>∃a cap,e=bO (.slice a l.length cap)/\Made w' ↑w (.slice a l.length cap) l/\Below ↑w w w':=by
 obtain⟨rfl,ao⟩|⟨g,off,cap,aw,rfl,an,ay,av,_,_⟩:=h.2
 .obtain rfl:=bP ao;have am:=WC;go_enter (fq Tryz.func47 rfl),ow;go_wp2_with fail;go_ret;exact⟨Z,0,rfl,⟨Row.nil _ _ _,by simp[cV]⟩,aJ _ _⟩
 .obtain⟨i0,ak,ag,ah,ai⟩:=pa BP;have Hi:cH _:=jy ak (jy ag (jy ah ai));obtain⟨W,hW,R,ho⟩:=jD w #[] 9;have Y:Row W 9 1 (aH (M ⟨↑w,0,Z⟩) 0 0) 0 []:=⟨aC,cD ⟨_,0,0,_,rfl,ho,jB,by unfold maxLen;omega,aC,λj u hj=>by simp at hj⟩⟩
  have J:∀j u,(l.map nT)[j]? =M u->W.cell? ((⟨g,off,Z⟩:eM).add j)=M u:=λj u hj=>by
   have:=(Row.below h R).cell rfl j u hj;unfold Addr.add;split
   .rename_i h0;subst h0;exact this
   .exact this
  have ac:∀u,u∈l.map nT->u.oneCell'=aR:=λu hu=>by
   obtain⟨x,_,rfl⟩:=bM.1 hu;rfl
  have ae:(l.map nT).length=l.length*1:=aC
  obtain⟨aa,E⟩:∃aa,aa=l.map nT:=⟨_,rfl⟩
  rw[<-E]at J ac ae;have H:cH _:=jy R (jy ho (jy Y (jy J (jy ac (jy ae E)))));have am:=SY;clear R ho Y J ac ae E h ak ag ah ai an;by_cases hn:l.length=0
  .obtain⟨rfl⟩:l=[]:=bP hn;have af:aa=[]:=H.out.2.2.2.2.2.2;have au:cH _:=af;clear af hn;go_enter (fq Tryz.func47 rfl),ow;go_upto_region 3 with fail;go_wp2_with (first|(at_builtin;rw[<-hW];refine kT _ rfl (.tmp 5) (.tmp 6) 26 rfl 9 i0 1 (uq py) Hi.out.1 Hi.out.2.2.1 _ 0 0 0 rfl _ 0 cap [] rfl rfl (by intro j u hj;simp at hj) (by intro u hu;simp at hu) aA (by intro j hj;simp at hj) (by intro j;exact aQ H.out.2.1 j) ?_)|go_in)
   go_ret;subst hW;exact⟨_,0,rfl,⟨H.out.2.2.1,λq hq=>by have:M w.heap.size=M q:=hq;cases this;exact jB⟩,H.out.1⟩
  .go_enter (fq Tryz.func47 rfl),ow;go_upto_region 3 with fail;go_wp2_with (first|(at_builtin;rw[<-hW];refine kX _ rfl (.tmp 5) (.tmp 6) 26 rfl 9 i0 _ 1 16 (uq py) Hi.out.1 Hi.out.2.1 Hi.out.2.2.1 Hi.out.2.2.2 rfl aB _ 0 [] rfl H.out.2.2.1 _ _ cap aa rfl aA H.out.2.2.2.2.2.1 H.out.2.2.2.1 H.out.2.2.2.2.1 (by unfold maxLen;omega) aA ?_;intro g5 ar aj w5 I z;have ap:cH _:=jy I z;clear I z)|go_in)
   go_ret;obtain⟨I,z⟩:=ap.out;obtain⟨R,ho,Y,J,ac,ae,E⟩:=H.out;rw[fJ,dS,E]at I
   have aq:↑w<=g5:=by
    obtain e|e:=z.own
    .have:M w.heap.size=M g5:=e;cases this;exact jB
    .exact bH R.size e
   refine⟨_,aj,rfl,⟨I,λq hq=>by have:M g5=M q:=hq;cases this;exact aq⟩,?_⟩;refine R.trans ⟨z.jM.os,z.jM.tape,z.jM.output,z.jM.size,λq hq=>z.jM.block q (aP hq R.size) (λe=>?_)⟩;have:M w.heap.size=M q:=e;cases this;omega
def alone(c:Cf)(us:List PB)(cnt ep:Nat):Nat:=if Ag us (ep+1)<=lW c us cnt then ep+1 else ep
def yD(kb:Nat)(c:Cf)(us:List PB)(cnt ep:Nat)(w:U)(h:Look w kb c us cnt ep)(Y:ep+1<us.length):dE PQ 88 #[aD (M ⟨kb,0,Z⟩)] w λx w'=>x=bO (N ab (alone c us cnt ep:Nat))/\∃m,w'=w.drewN m:=by
 obtain⟨vu,nb,vo,vw,sq,ho,R⟩:=h.obj;obtain⟨g,off,cap,rfl,ae,hg,hx⟩:=R.pos aA;obtain⟨p,hp⟩:∃p,us[ep+1]? =M p:=⟨_,aO Y⟩
 have k1:w.cell? ⟨g,off+(ep+1)*3+1,Z⟩=M (N ab p.2.1):=by
  have:=Rd.rec qE 3 (λ_=>rfl) R hp (i:=1) (u:=.int _ _) aA rfl;rw[<-dV]at this;exact this
 have c7:w.cell? ⟨kb,7,Z⟩=M (aH (M ⟨g,off,Z⟩) us.length cap):=mZ ho rfl;have ac:w.cell? ⟨kb,12,Z⟩=M (N ab ep):=mZ ho rfl;have z:=λm=>Ej kb c us cnt ep _ (h.drewN m) aA;have aa:(ep:Int)+1<(us.length:Int):=aA
 obtain⟨t,ht⟩:∃t,lW c us cnt=t:=⟨_,rfl⟩
 obtain⟨r,E⟩:∃r,alone c us cnt ep=r:=⟨_,rfl⟩
 rw[E];unfold alone at E;rw[uT hp,ht]at E;rw[ht]at z;obtain⟨tp,J⟩:∃x,p.2.1=x:=⟨_,rfl⟩
 rw[J]at k1 E;have I:cH _:=z;have Hr:cH _:=E;have hl:=h.len;clear h ho R hx hp z E ht J;go_enter (fq Tryz.func88 rfl),Tryz.ntmps88;go_upto_region 1 with fail;go_quiet ((go_at_call 127;exact Calls.quiet_of (I.out _)));by_cases h1:tp<=t
 .go_wp2_with fail;go_ret;refine⟨?_,_,rfl⟩;rw[<-Hr.out,ZD h1];rfl
 .go_wp2_with fail;go_ret;refine⟨?_,_,rfl⟩;rw[<-Hr.out,Zs aA];rfl
section
variable {w:U}{kb nb cnt ep sq R:Nat}{vu vo vw v0 v1 v2 v3 v4 v5 v6 v7:X}{us:List PB}{dl:Nat->List (List UInt8)}{ws:List PW}{ty:cG}
def loV(num:Nat)(time:Int)(ep:Nat)(id:Int)(sq:Nat)(vt z:X)(at_:Nat):X:=fX #[N ab num,N ab time,N ab ep,N ab id,N ab sq,vt,z,N ab at_]
def kG(cnt ep sq e:Nat):Nat:=if 0<cnt/\e=ep then sq+1 else 0
def rH.turn{c:Cf}(h:rH w kb c vu us dl nb vo vw ws cnt ep sq){w':U}{z J I:Nat}(hc:jI (λk=>k=kb) w w')(ho:w'.heap[kb]? =M (aG (jP c vu nb vo vw z J I) 100 (0,0))):rH w' kb c vu us dl nb vo vw ws z J I:=
 ⟨ho,h.upper.jM hc (λg E e=>jH h.upper h.obj aB (by rw[E,e])),h.wait.jM hc (λg E e=>jH h.wait h.obj aB (by rw[E,e])),λj p hp=>Row.jM (h.deps j p hp) hc (λg E e=>jH (h.deps j p hp) h.obj aB (by rw[E,e])),λp hp=>Row.jM (h.txs p hp) hc (λg E e=>jH (h.txs p hp) h.obj aB (by rw[E,e]))⟩
def rE(w:U)(R:Nat)(a b c d e f g h:X):U:=(((((((w.setCell ⟨R,0,Z⟩ a).setCell ⟨R,1,Z⟩ b).setCell ⟨R,2,Z⟩ c).setCell ⟨R,3,Z⟩ d).setCell ⟨R,4,Z⟩ e).setCell ⟨R,5,Z⟩ f).setCell ⟨R,6,Z⟩ g).setCell ⟨R,7,Z⟩ h
def kZ(w:U)(R:Nat)(a b c d e f g h:X):jI (λk=>k=R) w (rE w R a b c d e f g h):=
 (((((((jI.set w R 0 a).trans (jI.set _ R 1 b) (λ_ _ e=>e)).trans (jI.set _ R 2 c) (λ_ _ e=>e)).trans (jI.set _ R 3 d) (λ_ _ e=>e)).trans (jI.set _ R 4 e) (λ_ _ e=>e)).trans (jI.set _ R 5 f) (λ_ _ e=>e)).trans (jI.set _ R 6 g) (λ_ _ e=>e)).trans (jI.set _ R 7 h) (λ_ _ e=>e)
def DJ(h:w.heap[R]? =M (aG #[v0,v1,v2,v3,v4,v5,v6,v7] ty (0,0)))(a b c d e f g i:X):(rE w R a b c d e f g i).heap[R]? =M (aG #[a,b,c,d,e,f,g,i] ty (0,0)):=by have:=jX (jX (jX (jX (jX (jX (jX (jX h 0 a) 1 b) 2 c) 3 d) 4 e) 5 f) 6 g) 7 i;simpa[rE]using this
def YU{V:U}{c:Cf}{lo:Nat}{vd:X}{l:List (List UInt8)}(h:rH V kb c vu us dl nb vo vw ws cnt ep sq)(hm:Made V lo vd l){rc:Array X}(hR:V.heap[R]? =M (aG rc 52 (0,0)))(x0 x1 x2 x3 x4 x5 x6 x7:X):rH (rE (V.setCell ⟨kb,11,Z⟩ (N ab ((cnt:Int)+1))) R x0 x1 x2 x3 x4 x5 x6 x7) kb c vu us dl nb vo vw ws (cnt+1) ep sq/\Made (rE (V.setCell ⟨kb,11,Z⟩ (N ab ((cnt:Int)+1))) R x0 x1 x2 x3 x4 x5 x6 x7) lo vd l:=by
 have aa:kb≠R:=λe=>by have:=h.obj;rw[e,hR]at this;simp at this
 have E:=jI.set V kb 11 (N ab (cnt+1))
 have h1:rH (V.setCell ⟨kb,11,Z⟩ (N ab ((cnt:Int)+1))) kb c vu us dl nb vo vw ws (cnt+1) ep sq:=by
  refine h.turn E ?_;have:=jX h.obj 11 (N ab (cnt+1));simpa[jP]using this
 have Y:=hm.1.jM E (λg I e=>jH hm.1 h.obj aB (by rw[I,e]));have z:(V.setCell ⟨kb,11,Z⟩ (N ab ((cnt:Int)+1))).heap[R]? =M (aG rc 52 (0,0)):=(aW _ _ _ _ (λe=>aa e.symm)).trans hR;have J:=kZ (V.setCell ⟨kb,11,Z⟩ (N ab (cnt+1))) R x0 x1 x2 x3 x4 x5 x6 x7;refine⟨h1.jM J aa (λg I e=>jH h1.upper z aB (by rw[I,e])) (λg I e=>jH h1.wait z aB (by rw[I,e])) (λg cs fz ac e=>?_),Y.jM J (λg I e=>jH Y z aB (by rw[I,e])),hm.2⟩;rw[e,z]at ac;simp at ac
def lq{W:U}{b:Nat}(h:W.heap[b]? =M (aG #[v0,v1,v2,v3,v4,v5,v6,v7] ty (0,0))):W.cell? ⟨b,0,Z⟩=M v0/\W.cell? ⟨b,1,Z⟩=M v1/\W.cell? ⟨b,2,Z⟩=M v2/\W.cell? ⟨b,3,Z⟩=M v3/\W.cell? ⟨b,4,Z⟩=M v4/\W.cell? ⟨b,5,Z⟩=M v5/\W.cell? ⟨b,6,Z⟩=M v6/\W.cell? ⟨b,7,Z⟩=M v7/\(∀o,W.frozen? ⟨b,o,Z⟩=aL):=
 ⟨by rw[aI h];rfl,by rw[aI h];rfl,by rw[aI h];rfl,by rw[aI h];rfl,by rw[aI h];rfl,by rw[aI h];rfl,by rw[aI h];rfl,by rw[aI h];rfl,aQ h⟩
def JY(kb:Nat)(c:Cf)(vu:X)(us:List PB)(dl:Nat->List (List UInt8))(nb:Nat)(vo vw:X)(ws:List PW)(cnt ep sq e:Nat)(ta:Option eM)(tn tc:Nat)(w:U)(h:rH w kb c vu us dl nb vo vw ws cnt ep sq)(s:yS c us ws cnt ep)(he:e<us.length)(cc:sq<4294967296)(hdl:∀j,(dl j).length<=4294967296):
  dE PQ 85 #[aD (M ⟨kb,0,Z⟩),N ab e,.slice ta tn tc] w λx w'=>∃vd,x=bO (loV cnt (lW c us cnt) e (FQ us e) (kG cnt ep sq e) (.slice ta tn tc) vd (us.length-1))/\Made w' ↑w vd (if kG cnt ep sq e=0 then dl e else [])/\rH w' kb c vu us dl nb vo vw ws (cnt+1) e (kG cnt ep sq e)/\jI (λk=>k=kb) w w':=by
 obtain⟨W,hW,az,ro⟩:=jD w #[N ab 0,N ab 0,N ab 0,N ab 0,N ab 0,aH Z 0 0,aH Z 0 0,N ab 0] 52;have hD:=h.below az;have c11:W.cell? ⟨kb,11,Z⟩=M (N ab cnt):=mZ hD.obj rfl;have b1:W.cell? ⟨kb,12,Z⟩=M (N ab ep):=mZ hD.obj rfl;have a2:W.cell? ⟨kb,13,Z⟩=M (N ab sq):=mZ hD.obj rfl;have fk:=aQ hD.obj;obtain⟨q,hq⟩:∃q,kG cnt ep sq e=q:=⟨_,rfl⟩
 rw[hq];unfold kG at hq;obtain⟨ld,a5⟩:∃ld,(if q=0 then dl e else [])=ld:=⟨_,rfl⟩
 rw[a5];have bs:cH _:=a5;clear a5;have H:cH _:=jy hD (jy az (jy ro (jy s (jy hq hdl))));have cl:=s.cnt;have cf:=s.len;have ci:=(jE h.obj)
 clear hD az ro s hq h hdl;go_enter (fq Tryz.func85 rfl),Tryz.ntmps85;go_upto_region 1 with fail;rw[<-hW];clear hW;obtain⟨b,hb⟩:∃b,decide (0<cnt/\e=ep)=b:=⟨_,rfl⟩
 have Hb:cH _:=hb;clear hb;go_cut [21] (λv wx=>v=cK b/\wx=W)
 case first=>
  by_cases h0:0<cnt
  .have b4:(0:Int)<(cnt:Int):=by omega
   by_cases h1:e=ep
   .have b6:((e:Int) == (ep:Int))=aR:=by rw[h1];simp
    have H1:cH _:=jy h0 h1;clear h1 h0;go_wp2_with fail;go_meet;refine⟨?_,rfl⟩;rw[<-Hb.out,Z0 H1.out]
   .have b6:((e:Int) == (ep:Int))=aL:=ZS aA;have H1:cH _:=h1;clear h1;go_wp2_with fail;go_meet;refine⟨?_,rfl⟩;rw[<-Hb.out,ZZ (λh=>H1.out h.2)]
  .have b4:¬(0:Int)<(cnt:Int):=by omega
   have H1:cH _:=h0;clear h0;go_wp2_with fail;go_meet;refine⟨?_,rfl⟩;rw[<-Hb.out,ZZ (λh=>H1.out h.1)]
 case rest=>
  obtain⟨rfl,aw⟩:=hcut;have av:=aw.symm;clear aw;subst av;go_upto_if 21 with fail;go_cut [22] (λ_ wx=>cH (rH wx kb c vu us dl nb vo vw ws cnt e q/\jI (λk=>k=kb) W wx))
  case first=>
   cases b
   .go_wp2_with fail;go_meet;obtain⟨hD,az,ro,s,hq,hdl⟩:=H.out;have Y:q=0:=by rw[<-hq,Zs (Ys Hb.out)]
    subst Y;have hc:jI (λk=>k=kb) W ((W.setCell ⟨kb,12,Z⟩ (N ab e)).setCell ⟨kb,13,Z⟩ (N ab 0)):=(jI.set _ kb 12 _).trans (jI.set _ kb 13 _) (λ_ _ e=>e);refine⟨hD.turn hc ?_,hc⟩;have:=jX (jX hD.obj 12 (N ab e)) 13 (N ab 0);simpa[jP]using this
   .go_wp2_with fail;go_meet;obtain⟨hD,az,ro,s,hq,hdl⟩:=H.out;obtain⟨b2,br⟩:=Z2 Hb.out;have Y:q=sq+1:=by rw[<-hq,ZD ⟨b2,br⟩]
    subst Y br;have hc:jI (λk=>k=kb) W (W.setCell ⟨kb,13,Z⟩ (N ab ((sq:Int)+1))):=jI.set _ kb 13 _;refine⟨hD.turn hc ?_,hc⟩;have:=jX hD.obj 13 (N ab (sq+1));simpa[jP]using this
  case rest=>
   obtain⟨Vc,bw⟩:∃V,V=wc:=⟨_,rfl⟩
   subst bw;clear c11 b1 a2 fk;obtain⟨an,ai⟩:=hcut.out;have E:Vc.heap[w.heap.size]? =_:=(ai.block _ (jE H.out.2.2.1) aA).trans H.out.2.2.1;obtain⟨g,off,cap,bd,cg⟩:=an.upper.pos aA;obtain⟨p,hp⟩:∃p,us[e]? =M p:=⟨_,aO he⟩
   obtain⟨da,ap,a8⟩:=Row.slice (an.deps e p hp);have ay:=an.upper.rd;rw[bd]at ay;have k0:Vc.cell? ⟨g,off+e*3,Z⟩=M (N ab p.1):=Rd.rec qE 3 (λ_=>rfl) ay hp (i:=0) (u:=.int _ _) aA rfl
   have k1:Vc.cell? ⟨g,off+e*3+1,Z⟩=M (N ab p.2.1):=by
    have:=Rd.rec qE 3 (λ_=>rfl) ay hp (i:=1) (u:=.int _ _) aA rfl;rw[<-dV]at this;exact this
   have k2:Vc.cell? ⟨g,off+e*3+2,Z⟩=M (.slice da (dl e).length ap):=by
    have:=Rd.rec qE 3 (λ_=>rfl) ay hp (i:=2) (u:=.slice da (dl e).length ap) aA (by rw[<-a8];rfl);rw[<-dV]at this;exact this
   have c7:Vc.cell? ⟨kb,7,Z⟩=M (aH (M ⟨g,off,Z⟩) us.length cap):=by rw[aI an.obj,<-bd];rfl
   have cd:(e:Int)<us.length:=aA
   obtain⟨Wd,hX,ae,uo⟩:=jD Vc #[N ab p.1,N ab p.2.1,.slice da (dl e).length ap] 102;have z:=an.below ae;have bl:yS c us ws cnt e:=⟨H.out.2.2.2.1.times,H.out.2.2.2.1.step,H.out.2.2.2.1.drift,H.out.2.2.2.1.window,H.out.2.2.2.1.cnt,H.out.2.2.2.1.len,H.out.2.2.2.1.wlen,he,H.out.2.2.2.1.batch⟩
   have a7:=z.look bl;have a9:=λV hV=>Ej kb c us cnt e V (a7.below hV) aA;have bb:=λV hV=>wQ kb c us cnt e V (a7.below hV) aA;obtain⟨t,ht⟩:∃t,lW c us cnt=t:=⟨_,rfl⟩
   obtain⟨nn,ah⟩:∃nn,us.length-1=nn:=⟨_,rfl⟩
   have hI:=Hu hp;obtain⟨pi,bp⟩:∃x,p.1=x:=⟨_,rfl⟩
   rw[ht]at a9;rw[ah]at bb;rw[bp]at hI uo hX k0;have bh:Wd.cell? ⟨kb,11,Z⟩=M (N ab cnt):=mZ z.obj rfl;have bg:Wd.cell? ⟨kb,13,Z⟩=M (N ab q):=mZ z.obj rfl;have u0:=kJ uo;have bk:=(jE uo)
   have bj:=(jE z.obj)
   have b0:cH _:=a9;have b3:cH _:=bb;have ac:kQ Wd (.slice da (dl e).length ap) (dl e):=by have:=z.deps e p hp;rw[a8]at this;exact this
   have H2:cH _:=jy z (jy uo (jy ac (jy ae (jy E (jy ai (jy hp (jy hI (jy ht ah))))))));clear ac an ai E ay hp a8 bd z bl a7 a9 bb uo ae hI ht ah bp hcut;go_upto_region 5 with fail;rw[<-hX];clear hX k0 k1 k2 c7;have aa:=aJ ↑Wd Wd;have hS:∀V,Below ↑Wd Wd V->V.cell? ⟨kb,11,Z⟩=M (N ab cnt)/\V.cell? ⟨kb,13,Z⟩=M (N ab q)/\V.cell? ⟨↑Vc,0,Z⟩=M (N ab pi):=λV hV=>⟨(hV.cell (p:=⟨kb,11,Z⟩) bj).trans bh,(hV.cell (p:=⟨kb,13,Z⟩) bj).trans bg,(hV.cell (p:=⟨_,0,Z⟩) bk).trans u0⟩
   have HS:cH _:=hS;clear hS;go_cut [8] (λv wx=>cH (v=aD (M ⟨↑Wd,0,Z⟩)/\wx.heap[Wd.heap.size]? =M (aG #[N ab cnt,N ab t,N ab e,N ab pi,N ab q,.slice ta tn tc,aH Z 0 0,N ab nn] 52 (0,0))/\Below ↑Wd Wd wx))
   case first=>
    go_region_held3 (λV=>V.cell? ⟨kb,11,Z⟩=M (N ab cnt)/\V.cell? ⟨kb,13,Z⟩=M (N ab q)/\V.cell? ⟨↑Vc,0,Z⟩=M (N ab pi))
     ((refine HS.out _ ?_;(repeat (with_reducible refine Below.setCell ?_ (p:=_) (by first|exact jB|exact J.size|exact I.size) _));first|exact I|exact I.alloc I.size _|exact J|exact J.alloc J.size _|exact aa.drew|exact(aa.drew.alloc jB _)|exact(aa.alloc jB _).drew))
     (first|(go_at_call 127;(refine aT (b0.out _ ?_) ?_;(first|exact aa.drew|exact aa.drew.alloc jB _|exact(aa.alloc jB _).drew);rintro e5 w5 ⟨rfl,m5,ar⟩;have J:Below ↑Wd Wd w5:=(by rw[ar];first|exact below_drewN aa.drew _|exact below_drewN (aa.drew.alloc jB _) _|exact below_drewN (aa.alloc jB _).drew _);(first|(have bm:↑w5=Wd.heap.size:=(by rw[ar];rfl))|(have bn:w5.heap[Wd.heap.size]? =M (aG #[N ab 0,N ab 0,N ab 0,N ab 0,N ab 0,aH Z 0 0,aH Z 0 0,N ab 0] 52 (0,0)):=(by rw[ar];exact cT _ _);obtain⟨y0,y1,y2,y3,y4,y5,y6,y7,yf⟩:=lq bn));have cn:cH _:=ar;clear ar))|(go_at_call 87;(refine aT (b3.out _ ?_) ?_;(first|exact J|exact J.alloc J.size _);rintro e6 w6 ⟨rfl,m6,aj⟩;have I:Below ↑Wd Wd w6:=(by rw[aj];first|exact below_drewN J _|exact below_drewN (J.alloc J.size _) _);(first|(have aq:w6.heap[Wd.heap.size]? =M (aG #[N ab 0,N ab 0,N ab 0,N ab 0,N ab 0,aH Z 0 0,aH Z 0 0,N ab 0] 52 (0,0)):=(by rw[aj];exact bn);obtain⟨x0,x1,x2,x3,x4,x5,x6,x7,xf⟩:=lq aq)|(have aq:w6.heap[Wd.heap.size]? =M (aG #[N ab 0,N ab 0,N ab 0,N ab 0,N ab 0,aH Z 0 0,aH Z 0 0,N ab 0] 52 (0,0)):=(by rw[aj,<-bm];exact cT _ _);obtain⟨x0,x1,x2,x3,x4,x5,x6,x7,xf⟩:=lq aq)|(have bz:↑w6=Wd.heap.size:=(by rw[aj];exact bm)));have ck:cH _:=aj;clear aj))|fail)
    .go_wp2_with fail;go_meet;exact⟨rfl,by rw[<-bz];exact cT _ _,I.alloc I.size _⟩
    .go_wp2_with fail;go_meet;exact⟨rfl,DJ aq _ _ _ _ _ _ _ _,I.trans ⟨(kZ w6 _ _ _ _ _ _ _ _ _).os,(kZ w6 _ _ _ _ _ _ _ _ _).tape,(kZ w6 _ _ _ _ _ _ _ _ _).output,(kZ w6 _ _ _ _ _ _ _ _ _).size,λk hk=>(kZ w6 _ _ _ _ _ _ _ _ _).block k (aP hk I.size) (iM hk)⟩⟩
    .go_wp2_with fail;go_meet;exact⟨rfl,DJ aq _ _ _ _ _ _ _ _,I.trans ⟨(kZ w6 _ _ _ _ _ _ _ _ _).os,(kZ w6 _ _ _ _ _ _ _ _ _).tape,(kZ w6 _ _ _ _ _ _ _ _ _).output,(kZ w6 _ _ _ _ _ _ _ _ _).size,λk hk=>(kZ w6 _ _ _ _ _ _ _ _ _).block k (aP hk I.size) (iM hk)⟩⟩
   case rest=>
    obtain⟨rfl,a6,am⟩:=hcut.out;clear bh bg u0;obtain⟨c11,a2,_⟩:=HS.out wc am;have u2:wc.cell? ⟨↑Vc,2,Z⟩=M (.slice da (dl e).length ap):=(am.cell (p:=⟨↑Vc,2,Z⟩) bk).trans (by rw[aI H2.out.2.1];rfl);obtain⟨l0,l1,l2,l3,l4,l5,l6,l7,lf⟩:=lq a6;have b9:=am;have HC:cH _:=OQ wc (Row.below H2.out.2.2.1 am) (H.out.2.2.2.2.2 e);have HL:cH _:=jy a6 am;clear a6 am hcut;obtain⟨bq,bu⟩:∃b,decide (q=0)=b:=⟨_,rfl⟩
    have Hq:cH _:=bu;clear bu;obtain⟨Wc,bv⟩:∃V,V=wc:=⟨_,rfl⟩
    subst bv;go_upto_region 6 with fail;go_cut [64] (λv wx=>v=.bool bq/\wx=Wc)
    case first=>
     by_cases Y:q=0
     .have b5:((q:Int) == 0)=aR:=by rw[Y];rfl
      have ba:cH _:=Y;clear Y;go_wp2_with fail;go_meet;refine⟨?_,rfl⟩;rw[<-Hq.out,Z0 ba.out]
     .have b5:((q:Int) == 0)=aL:=ZS aA;have ba:cH _:=Y;clear Y;go_wp2_with fail;go_meet;refine⟨?_,rfl⟩;rw[<-Hq.out,ZZ ba.out]
    case rest=>
     obtain⟨rfl,aw⟩:=hcut;have av:=aw.symm;clear aw;subst av;go_upto_if 64 with fail;go_cut [8] (λv wx=>cH (∃va vn vc,v=aD (M ⟨↑Wd,0,Z⟩)/\wx.heap[Wd.heap.size]? =M (aG #[N ab cnt,N ab t,N ab e,N ab pi,N ab q,.slice ta tn tc,.slice va vn vc,N ab nn] 52 (0,0))/\Made wx ↑Wd (.slice va vn vc) ld/\Below ↑Wd Wd wx))
     case first=>
      cases bq
      .go_wp2_with fail;go_meet;refine⟨Z,0,0,rfl,HL.out.1,?_,HL.out.2⟩;rw[<-bs.out,Zs (Ys Hq.out)];exact⟨Row.nil _ _ _,by simp[cV]⟩
      .go_wp2_with (first|(go_at_call 47;refine aT HC.out ?_;rintro e7 w7 ⟨va,vc,rfl,ak,a0⟩;have ao:=(a0.block _ (jE HL.out.1)).trans HL.out.1;obtain⟨k0,k1,k2,k3,k4,k5,k6,k7,kf⟩:=lq ao;have HM:cH _:=jy ak (jy a0 ao);clear ak a0 ao)|fail)
       go_meet;obtain⟨ak,a0,ao⟩:=HM.out;refine⟨va,(dl e).length,vc,rfl,?_,?_,?_⟩
       .have:=jX ao 6 (.slice va (dl e).length vc);simpa using this
       .rw[<-bs.out,ZD (Z2 Hq.out)];exact⟨ak.1.jM (jI.set _ _ 6 _) (λg hg e=>jH ak.1 ao aB (by rw[hg,e])),λg hg=>bH HL.out.2.size (ak.2 g hg)⟩
       .exact(HL.out.2.trans (a0.mono HL.out.2.size)).setCell jB _
     case rest=>
      obtain⟨va,vn,vc,rfl,a1,a3,ag⟩:=hcut.out;clear hcut c11 a2 u2 l0 l1 l2 l3 l4 l5 l6 l7 lf;obtain⟨c11,a2,_⟩:=HS.out wc ag;obtain⟨l0,l1,l2,l3,l4,l5,l6,l7,lf⟩:=lq a1;obtain⟨z,uo,ac,ae,E,ai,hp,hI,ht,ah⟩:=H2.out;have b8:=(jE E)
      have a4:Wd.heap[w.heap.size]? =_:=(ae.block _ b8).trans E;have af:wc.heap[w.heap.size]? =_:=(ag.block _ aA).trans a4;obtain⟨r0,r1,r2,r3,r4,r5,r6,r7,rf⟩:=lq af;have au:=z.below ag;have fk:=aQ au.obj;have H8:cH _:=jy au (jy a3 (jy ag (jy af a1)));have cj:kb≠w.heap.size:=aA
      have ca:kb≠Wd.heap.size:=aA
      have ce:↑w≠Wd.heap.size:=aA
      clear a1 a3 ag af a4 au z uo ac ae E ai hp hI ht ah;go_wp2_with fail;obtain⟨au,a3,ag,af,a1⟩:=H8.out;obtain⟨z,uo,ac,ae,E,ai,hp,hI,ht,ah⟩:=H2.out;obtain⟨b7,bo⟩:=YU au a3 af (N ab cnt) (N ab t) (N ab e) (N ab pi) (N ab q) (.slice ta tn tc) (.slice va vn vc) (N ab nn);refine cM (v:=fX #[N ab cnt,N ab t,N ab e,N ab pi,N ab q,.slice ta tn tc,.slice va vn vc,N ab nn]) (by simp[results,Tryz.results85,go_sem,r0,r1,r2,r3,r4,r5,r6,r7]) rfl ⟨_,?_,⟨bo.1,λg hg=>bH aA (bo.2 g hg)⟩,b7,?_⟩
      .rw[ht,hI,ah];rfl
      .exact((((((jI.below H.out.2.1 jB _).trans ai (λ_ _ e=>e)).trans (jI.below ae jB _) (λ_ _ e=>e)).trans (jI.below ag jB _) (λ_ _ e=>e)).trans (jI.set _ kb 11 _) (λ_ _ e=>e)).trans (kZ _ _ _ _ _ _ _ _ _ _) (λk hk e=>aA))
end
section
variable {c:Cf}{us:List PB}{ws ws':List PW}{cnt ep kb nb sq R:Nat}{V w:U}{vu vo vw vw':X}{dl:Nat->List (List UInt8)}{rc:Array X}
def qw(V:PW->Nat):∀l:List PW,((pick V l).1=(0,Z)\/(pick V l).1=(2,Z)\/∃b,b∈l/\(pick V l).1=(3,M b))/\(∀p,p∈(pick V l).2->p∈l)/\(pick V l).2.length<=l.length
 |[]=>⟨bE rfl,λ_ h=>h,jB⟩
 |b::r=>by
  obtain⟨E,h2,h3⟩:=qw V r;unfold pick;split
  .refine⟨?_,?_,aF⟩
   .obtain h|h|⟨x,z,h⟩:=E
    .exact bE h
    .exact cD (bE h)
    .exact cD (cD ⟨x,cZ _ z,h⟩)
   .intro p hp;obtain e|h:=dD.1 hp
    .rw[e];exact dQ
    .exact cZ _ (h2 p h)
  .split
   .exact⟨cD (bE rfl),λ_ h=>h,jB⟩
   .split
    .exact⟨cD (cD ⟨b,dQ,rfl⟩),λp h=>cZ _ h,aC⟩
    .refine⟨?_,λp h=>cZ _ (h2 p h),aF⟩;obtain h|h|⟨x,z,h⟩:=E
     .exact bE h
     .exact cD (bE h)
     .exact cD (cD ⟨x,cZ _ z,h⟩)
def yS.sub(s:yS c us ws cnt ep)(h:∀p,p∈ws'->p∈ws)(z:ws'.length<=ws.length):yS c us ws' cnt ep:=
 ⟨s.times,s.step,s.drift,s.window,s.cnt,s.len,bH z s.wlen,s.ep,λp hp=>s.batch p (h p hp)⟩
def jO(c:Cf)(us:List PB)(ws:List PW)(cnt ep:Nat):Option (Nat×Option PW)×List PW:=
 if us.length=0 then(Z,ws)else if cnt=0 then(M (0,Z),ws)else
  match (pick (judged c us cnt ep) ws).1.2 with
  |some b=>(M (b.1.epoch,M b),(pick (judged c us cnt ep) ws).2)
  |none=>if (pick (judged c us cnt ep) ws).1.1≠2/\(ep:Int)+c.window<((us.length-1:Nat):Int)then(M (alone c us cnt ep,Z),(pick (judged c us cnt ep) ws).2)else(Z,(pick (judged c us cnt ep) ws).2)
def txV:Option PW->X
 |some b=>b.2
 |none=>aH Z 0 0
def lo0:X:=fX #[N ab 0,N ab 0,N ab 0,N ab 0,N ab 0,aH Z 0 0,aH Z 0 0,N ab 0]
def Dj(w:U)(kb:Nat)(c:Cf)(vu:X)(us:List PB)(dl:Nat->List (List UInt8))(nb:Nat)(vo vw:X)(cnt ep sq:Nat)(r:Option (Nat×Option PW)×List PW)(x:pm)(w':U):Prop:=
 (match r.1 with
  |none=>x=bO (cQ #[lo0,cK aL])/\∃vw',rH w' kb c vu us dl nb vo vw' r.2 cnt ep sq/\∀g,vw'.ownBlock=M g->vw.ownBlock=M g
  |some o=>o.1<us.length/\∃z,x=bO (cQ #[loV cnt (lW c us cnt) o.1 (FQ us o.1) (kG cnt ep sq o.1) (txV o.2) z (us.length-1),cK aR])/\Made w' ↑w z (if kG cnt ep sq o.1=0 then dl o.1 else [])/\(∀b,o.2=M b->kQ w' b.2 b.1.txs)/\∃vw',rH w' kb c vu us dl nb vo vw' r.2 (cnt+1) o.1 (kG cnt ep sq o.1)/\∀g,vw'.ownBlock=M g->vw.ownBlock=M g)
 /\jI (λk=>k=kb\/vw.ownBlock=M k) w w'
def Bl(h:rH V kb c vu us dl nb vo vw ws cnt ep sq)(E:V.heap[R]? =M (aG rc 52 (0,0))){Y x1 x2 x3 x4 x5 x6 x7:X}:rH (rE V R Y x1 x2 x3 x4 x5 x6 x7) kb c vu us dl nb vo vw ws cnt ep sq:=by
 have I:kb≠R:=λe=>by have:=h.obj;rw[e,E]at this;simp at this
 refine h.jM (kZ V R Y x1 x2 x3 x4 x5 x6 x7) I (λg J e=>jH h.upper E aB (by rw[J,e])) (λg J e=>jH h.wait E aB (by rw[J,e])) (λg cs fz z e=>?_);rw[e,E]at z;simp at z
def DR{v:X}{n:Nat}{l:List X}(E:Row V 9 1 v n l)(hR:V.heap[R]? =M (aG rc 52 (0,0)))(z Y x2 x3 I x5 J x7:X):Row (rE V R z Y x2 x3 I x5 J x7) 9 1 v n l:=
 E.jM (kZ V R z Y x2 x3 I x5 J x7) (λg hg e=>jH E hR aB (by rw[hg,e]))
def wK{z:U}{e:Nat}{ob:Option PW}{vd:X}
  (hr:jO c us ws cnt ep=(M (e,ob),ws')) (he:e<us.length) (hm:Made z ↑V vd (if kG cnt ep sq e=0 then dl e else [])) (ac:↑w<=V.heap.size) (ht:∀b,ob=M b->kQ V b.2 b.1.txs) (J:∃cs,V.heap[kb]? =M (aG cs 100 (0,0)))
  (hD:rH z kb c vu us dl nb vo vw' ws' (cnt+1) e (kG cnt ep sq e)) (E:∀g,vw'.ownBlock=M g->vw.ownBlock=M g) (Y:jI (λk=>k=kb\/vw.ownBlock=M k) w V) (hc:jI (λk=>k=kb) V z) (hR:z.heap[w.heap.size]? =M (aG rc 52 (0,0))) {x0 x1 x2 x3 x4 x5 x6 x7:X} {x:pm} (hx:x=bO (cQ #[loV cnt (lW c us cnt) e (FQ us e) (kG cnt ep sq e) (txV ob) vd (us.length-1),cK aR])):
  Dj w kb c vu us dl nb vo vw cnt ep sq (jO c us ws cnt ep) x (rE z ↑w x0 x1 x2 x3 x4 x5 x6 x7):=by
 rw[hr];obtain⟨cs,aa⟩:=J;refine⟨⟨he,vd,hx,⟨DR hm.1 hR _ _ _ _ _ _ _ _,λg I=>bH ac (hm.2 g I)⟩,λb hb=>?_,vw',Bl hD hR,E⟩,(Y.trans hc (λ_ _ e=>bE e)).trans (kZ z _ _ _ _ _ _ _ _ _) (λk hk e=>aA)⟩;have h1:=Row.jM (ht b hb) hc (λg I e=>jH (ht b hb) aa aB (by rw[I,e]));exact DR h1 hR _ _ _ _ _ _ _ _
def yB(hr:jO c us ws cnt ep=(Z,ws'))(hD:rH V kb c vu us dl nb vo vw' ws' cnt ep sq)(z:∀g,vw'.ownBlock=M g->vw.ownBlock=M g)(E:jI (λk=>k=kb\/vw.ownBlock=M k) w V)(J:V.heap[w.heap.size]? =M (aG rc 52 (0,0))){I x1 x2 x3 Y x5 x6 x7:X}:Dj w kb c vu us dl nb vo vw cnt ep sq (jO c us ws cnt ep) (bO (cQ #[lo0,cK aL])) (rE V ↑w I x1 x2 x3 Y x5 x6 x7):=by
 rw[hr];exact⟨⟨rfl,vw',Bl hD J,z⟩,E.trans (kZ V _ _ _ _ _ _ _ _ _) (λk hk e=>aA)⟩
end
section
variable {c:Cf}{us:List PB}{ws:List PW}{cnt ep e:Nat}
def Fq(c:Cf)(us:List PB)(cnt:Nat):lW c us (cnt+1)=lW c us cnt+c.step:=by
 unfold lW
 grind
def yS.Yx(s:yS c us ws cnt ep)(z:e<us.length):Ag us e<=4294967296:=by rw[uT (aO z)];exact(s.times _ (List.getElem_mem z)).2
def Dw{V:PW->Nat}{b:PW}:∀{l:List PW},(pick V l).1=(3,M b)->V b=3/\b∈l/\(pick V l).2.length<l.length
 |[],h=>by simp[pick]at h
 |x::r,h=>by
  unfold pick at h⊢;split at h
  .rename_i I;rw[ZD I];obtain⟨J,h2,h3⟩:=Dw (l:=r) h
   grind
  .rename_i I;rw[Zs I];split at h
   .cases h
   .rename_i E;rw[Zs E];split at h
    .grind
    .rename_i z;rw[Zs z];obtain⟨J,h2,h3⟩:=Dw (l:=r) h
     grind
def EW{b:Ba}{k:Nat}(h:verdict c us cnt ep b k=3):b.epoch=ep\/b.epoch=ep+1:=by
 unfold verdict at h;split at h
 .cases h
 .split at h
  .cases h
  .rename_i ho;unfold outside at ho
   grind
def meas(c:Cf)(us:List PB)(ws:List PW)(cnt ep:Nat):Nat:=ws.length+(us.length-ep)+((4294967298-lW c us cnt)/2).toNat
def SS{ws':List PW}{ob:Option PW}(s:yS c us ws cnt ep)(ae:2<=c.step)(hz:cnt=0->ep=0)(h:jO c us ws cnt ep=(M (e,ob),ws')):meas c us ws' (cnt+1) e<meas c us ws cnt ep/\ep<=e/\e<us.length:=by
 have af:=s.ep;have aa:=s.window;unfold jO at h;rw[Zs aA]at h;unfold meas;rw[Fq];obtain⟨t,ht⟩:∃t,lW c us cnt=t:=⟨_,rfl⟩
 obtain⟨z,R,ac⟩:=qw (judged c us cnt ep) ws;split at h
 .rename_i E;cases h;have h0:=hz E;have:=s.Yx (e:=0) aA
  have ah:lW c us cnt=Ag us 0:=by
   unfold lW Ag;rw[E];simp
  omega
 .split at h
  .rename_i b Y;obtain z|z|⟨b',ag,z⟩:=z
   .grind
   .grind
   .rw[z]at Y;cases Y;obtain⟨h1,h2,h3⟩:=Dw z;have h4:=EW h1;have h5:=(s.batch _ h2).1
    grind
  .split at h
   .rename_i J;cases h;have I:ep+1<us.length:=by omega
    have:=s.Yx I;unfold alone
    grind
   .cases h
end
section
variable {c:Cf}{us:List PB}{ws rs:List PW}{cnt ep n:Nat}
def Jv{b:PW}(E:us.length≠0)(hc:cnt≠0)(z:(pick (judged c us cnt ep) ws).1=(n,M b))(h2:(pick (judged c us cnt ep) ws).2=rs):jO c us ws cnt ep=(M (b.1.epoch,M b),rs):=by unfold jO;rw[Zs E,Zs hc,z,h2]
def Dz(E:us.length≠0)(hc:cnt≠0)(z:(pick (judged c us cnt ep) ws).1=(n,Z))(h2:(pick (judged c us cnt ep) ws).2=rs)(h:n≠2/\(ep:Int)+c.window<((us.length-1:Nat):Int)):jO c us ws cnt ep=(M (alone c us cnt ep,Z),rs):=by unfold jO;rw[Zs E,Zs hc,z,h2];dsimp only;rw[ZD h]
def vV(E:us.length≠0)(hc:cnt≠0)(z:(pick (judged c us cnt ep) ws).1=(n,Z))(h2:(pick (judged c us cnt ep) ws).2=rs)(h:¬(n≠2/\(ep:Int)+c.window<((us.length-1:Nat):Int))):jO c us ws cnt ep=(Z,rs):=by unfold jO;rw[Zs E,Zs hc,z,h2];dsimp only;rw[Zs h]
def sG{w:U}{lo:Nat}{v:X}{l:List (List UInt8)}(h:Made w lo v l):∃a n c,v=.slice a n c:=by obtain⟨a,c,e⟩:=Row.slice h.1;exact⟨a,_,c,e⟩
def Fa(kb:Nat)(c:Cf)(vu:X)(us:List PB)(dl:Nat->List (List UInt8))(nb:Nat)(vo vw:X){ws:List PW}{cnt ep sq:Nat}(w:U)(h:rH w kb c vu us dl nb vo vw ws cnt ep sq)(s:0<us.length->yS c us ws cnt ep)(bm:sq<4294967296)(hdl:∀j,(dl j).length<=4294967296):dE PQ 55 #[aD (M ⟨kb,0,Z⟩)] w (Dj w kb c vu us dl nb vo vw cnt ep sq (jO c us ws cnt ep)):=by
 obtain⟨W,hW,au,ro⟩:=jD w #[N ab 0,N ab 0,N ab 0,N ab 0,N ab 0,aH Z 0 0,aH Z 0 0,N ab 0] 52;have hD:=h.below au;obtain⟨ua,bu,az⟩:=hD.upper.slice;have c7:W.cell? ⟨kb,7,Z⟩=M (.slice ua us.length bu):=by rw[aI hD.obj,<-az];rfl
 have c11:W.cell? ⟨kb,11,Z⟩=M (N ab cnt):=mZ hD.obj rfl;have b8:=(jE h.obj)
 have a3:=(jE ro)
 have I:jI (λk=>k=kb\/vw.ownBlock=M k) w W:=.below au jB _;by_cases hu:us.length=0
 .have bz:((us.length:Int) == 0)=aR:=by rw[hu];rfl
  obtain⟨r0,r1,r2,r3,r4,r5,r6,r7,rf⟩:=lq ro;have hp:jO c us ws cnt ep=(Z,ws):=by unfold jO;rw[ZD hu]
  have H:cH _:=jy hD (jy I (jy ro hp));clear h hD I hp s az au ro hu;go_enter (fq Tryz.func55 rfl),Tryz.ntmps55;go_upto_region 1 with fail;rw[<-hW];clear hW;go_wp2_with fail;obtain⟨hD,I,ro,hp⟩:=H.out;refine cM (v:=cQ #[fX #[N ab 0,N ab 0,N ab 0,N ab 0,N ab 0,aH Z 0 0,aH Z 0 0,N ab 0],cK aL]) (by simp[results,mi,go_sem,r0,r1,r2,r3,r4,r5,r6,r7]) rfl ?_;exact yB hp hD (λ_ hg=>hg) I ro
 .have bz:((us.length:Int) == 0)=aL:=ZS aA;have s:=s aA;obtain⟨nn,z⟩:∃nn,us.length-1=nn:=⟨_,rfl⟩
  by_cases hc:cnt=0
  .have bw:((cnt:Int) == 0)=aR:=by rw[hc];rfl
   have hp:jO c us ws cnt ep=(M (0,Z),ws):=by unfold jO;rw[Zs hu,ZD hc]
   have hd:dE PQ 85 #[aD (M ⟨kb,0,Z⟩),N ab 0,aH Z 0 0] W _:=JY kb c vu us dl nb vo vw ws cnt ep sq 0 Z 0 0 W hD s aA bm hdl;rw[z]at hd;have Hd:cH _:=hd;have H:cH _:=jy hD (jy I (jy ro (jy hp z)));have b1:0<us.length:=aA
   clear h hD I hp s az au ro hd z hc hu;go_enter (fq Tryz.func55 rfl),Tryz.ntmps55;go_upto_region 1 with fail;rw[<-hW];clear hW;go_wp2_with (first|(go_at_call 85;refine aT Hd.out ?_;rintro x2 w2 ⟨vd,rfl,ac,ai,ae⟩;obtain⟨va,vn,vc,rfl⟩:=sG ac;have aa:=(ae.block _ a3 aA).trans H.out.2.2.1;obtain⟨r0,r1,r2,r3,r4,r5,r6,r7,rf⟩:=lq aa;have H2:cH _:=jy ac (jy ai (jy ae aa));clear ac ai ae aa;unfold loV)|fail)
   obtain⟨hD,I,ro,hp,z⟩:=H.out;obtain⟨ac,ai,ae,aa⟩:=H2.out;refine cM (v:=cQ #[fX #[N ab cnt,N ab (lW c us cnt),N ab 0,N ab (FQ us 0),N ab (kG cnt ep sq 0),aH Z 0 0,.slice va vn vc,N ab nn],cK aR]) (by simp[results,mi,go_sem,r0,r1,r2,r3,r4,r5,r6,r7]) rfl ?_;exact wK hp b1 ac (jo a3) (λb hb=>by simp at hb) ⟨_,hD.obj⟩ ai (λ_ hg=>hg) I ae aa (by rw[z];rfl)
  .have bw:((cnt:Int) == 0)=aL:=ZS aA;obtain⟨aj,am,a4⟩:=qw (judged c us cnt ep) ws;obtain⟨rs,ap⟩:∃rs,(pick (judged c us cnt ep) ws).2=rs:=⟨_,rfl⟩
   have ag:=PV kb c vu us dl nb vo vw ws cnt ep sq W hD s;rw[ap]at ag am a4;have s2:=s.sub am a4;have bj:=jH hD.wait ro aB;have a6:=λV vw' hV e he ta (tn tc:Nat)=>JY kb c vu us dl nb vo vw' rs cnt ep sq e ta tn tc V hV s2 he bm hdl;rw[z]at a6;have bn:cH _:=a6;have b9:=s.len;obtain aj|aj|⟨b,hb,aj⟩:=aj
   .obtain⟨b3,b6⟩:=s.window;have b5:=s.ep;have hs:=s2;rw[aj]at ag;have ar:=λV hV=>wQ kb c us cnt ep V hV aA;rw[z]at ar;have bg:cH _:=ar;clear ar;by_cases hw:(ep:Int)+c.window<(nn:Int)
    case' neg=>
     have ao:=vV hu hc aj ap (λh=>hw (by rw[<-z];exact h.2))
    case' pos=>
     have ao:=Dz hu hc aj ap ⟨aB,by rw[z];exact hw⟩;have br:ep+1<us.length:=aA
     obtain⟨al,bb⟩:∃al,alone c us cnt ep=al:=⟨_,rfl⟩
     have ba:al<us.length:=by rw[<-bb];unfold alone;split<;>omega
     have a2:=λV hV=>yD kb c us cnt ep V hV br;rw[bb]at ao a2;have bq:cH _:=a2;clear a2 bb
    all_goals
     unfold yK at ag;dsimp only at ag;have a5:cH _:=ag;have H:cH _:=jy hD (jy I (jy ro (jy ao (jy z hs))));clear h hD I ao s s2 hs az au ro a6 ag z hc hu aj am a4 ap;go_enter (fq Tryz.func55 rfl),Tryz.ntmps55;go_upto_region 1 with fail;rw[<-hW];clear hW;go_upto_region 8 with(first|(go_at_call 86;refine aT a5.out ?_;rintro x1 w1 ⟨rfl,a8,af,E,J⟩;have R:=(J.block _ a3 (by rintro(e|e);omega;exact bj e)).trans H.out.2.2.1;have a1:=(jE R);have H1:cH _:=jy af (jy E (jy J R));clear af E J R)|fail)
     generalize hV:World.alloc _ _=V;have an:Below w1.heap.size w1 V:=by rw[<-hV];exact(aJ _ _).alloc jB _
     obtain⟨hD,I,ro,hp,z,hs⟩:=H.out;obtain⟨af,E,J,R⟩:=H1.out;have ah:=(an.block _ a1).trans R;have Y:=af.below an;have ak:=(I.trans J (λ_ _ e=>e)).trans (.below an jB _) (λ_ _ e=>e);have a9:=(jE ah)
     have b2:V.cell? ⟨kb,12,Z⟩=M (N ab ep):=mZ Y.obj rfl;have c3:V.cell? ⟨kb,3,Z⟩=M (N ab c.window):=mZ Y.obj rfl;have a7:=Y.look hs;have av:=λm=>bg.out _ (a7.below (below_drewN (aJ _ _) m))
    .have bl:=λV' b0=>bq.out V' (a7.below b0);have a0:cH _:=av;have b4:cH _:=bl;have HV:cH _:=jy Y (jy ak (jy ah (jy hp (jy E z))));clear hV an hD I ro hp z hs af E J R ah Y ak a7 av bl;go_quiet ((go_at_call 87;exact Calls.quiet_of (a0.out _)));go_wp2_with (first|(go_at_call 88;refine aT (b4.out _ (below_drewN (aJ _ _) _)) ?_;rintro x3 w3 ⟨rfl,m3,bp⟩;have ay:Below ↑V V w3:=(by rw[bp];exact below_drewN (below_drewN (aJ _ _) _) _);clear bp)|(go_at_call 85;refine aT (bn.out w3 a8 (HV.out.1.below ay) al ba Z 0 0) ?_;rintro x2 w2 ⟨vd,rfl,ac,ai,ae⟩;obtain⟨va,vn,vc,rfl⟩:=sG ac;have aa:=(ae.block _ (aP a9 ay.size) aA).trans ((ay.block _ a9).trans HV.out.2.2.1);obtain⟨r0,r1,r2,r3,r4,r5,r6,r7,rf⟩:=lq aa;have H2:cH _:=jy ac (jy ai (jy ae aa));clear ac ai ae aa;unfold loV)|fail)
     obtain⟨Y,ak,ah,hp,E,z⟩:=HV.out;obtain⟨ac,ai,ae,aa⟩:=H2.out;refine cM (v:=cQ #[fX #[N ab cnt,N ab (lW c us cnt),N ab al,N ab (FQ us al),N ab (kG cnt ep sq al),aH Z 0 0,.slice va vn vc,N ab nn],cK aR]) (by simp[results,mi,go_sem,r0,r1,r2,r3,r4,r5,r6,r7]) rfl ?_;exact wK hp ba ac (bH (jo a9) ay.size) (λb' bh=>by simp at bh) ⟨_,(Y.below ay).obj⟩ ai E (ak.trans (.below ay jB _) (λ_ _ e=>e)) ae aa (by rw[z];rfl)
    .have a0:cH _:=av;obtain⟨r0,r1,r2,r3,r4,r5,r6,r7,rf⟩:=lq ah;have HV:cH _:=jy Y (jy ak (jy ah (jy hp E)));clear hV an hD I ro hp z hs af E J R ah Y ak a7 av;go_quiet ((go_at_call 87;exact Calls.quiet_of (a0.out _)));go_wp2_with fail;obtain⟨Y,ak,ah,hp,E⟩:=HV.out;refine cM (v:=cQ #[fX #[N ab 0,N ab 0,N ab 0,N ab 0,N ab 0,aH Z 0 0,aH Z 0 0,N ab 0],cK aL]) (by simp[results,mi,go_sem,r0,r1,r2,r3,r4,r5,r6,r7]) rfl ?_;exact yB hp (Y.below (below_drewN (aJ _ _) _)) E (ak.trans (.below (below_drewN (aJ _ V) _) jB _) (λ_ _ e=>e)) ah
   .have ao:=vV hu hc aj ap (λh=>h.1 rfl);have hs:=s2;rw[aj]at ag;unfold yK at ag;dsimp only at ag;have a5:cH _:=ag;have H:cH _:=jy hD (jy I (jy ro (jy ao (jy z hs))));clear h hD I ao s s2 hs az au ro a6 ag z hc hu aj am a4 ap;go_enter (fq Tryz.func55 rfl),Tryz.ntmps55;go_upto_region 1 with fail;rw[<-hW];clear hW;go_upto_region 8 with(first|(go_at_call 86;refine aT a5.out ?_;rintro x1 w1 ⟨rfl,a8,af,E,J⟩;have R:=(J.block _ a3 (by rintro(e|e);omega;exact bj e)).trans H.out.2.2.1;have a1:=(jE R);have H1:cH _:=jy af (jy E (jy J R));clear af E J R)|fail)
    generalize hV:World.alloc _ _=V;have an:Below w1.heap.size w1 V:=by rw[<-hV];exact(aJ _ _).alloc jB _
    obtain⟨hD,I,ro,hp,z,hs⟩:=H.out;obtain⟨af,E,J,R⟩:=H1.out;have ah:=(an.block _ a1).trans R;have Y:=af.below an;have ak:=(I.trans J (λ_ _ e=>e)).trans (.below an jB _) (λ_ _ e=>e);have a9:=(jE ah)
    have b2:V.cell? ⟨kb,12,Z⟩=M (N ab ep):=mZ Y.obj rfl;have c3:V.cell? ⟨kb,3,Z⟩=M (N ab c.window):=mZ Y.obj rfl;obtain⟨r0,r1,r2,r3,r4,r5,r6,r7,rf⟩:=lq ah;have HV:cH _:=jy Y (jy ak (jy ah (jy hp E)));clear hV an hD I ro hp z hs af E J R ah Y ak;go_quiet (fail);go_wp2_with fail;obtain⟨Y,ak,ah,hp,E⟩:=HV.out;refine cM (v:=cQ #[fX #[N ab 0,N ab 0,N ab 0,N ab 0,N ab 0,aH Z 0 0,aH Z 0 0,N ab 0],cK aL]) (by simp[results,mi,go_sem,r0,r1,r2,r3,r4,r5,r6,r7]) rfl ?_;exact yB hp (Y.below (below_drewN (aJ _ _) _)) E (ak.trans (.below (below_drewN (aJ _ V) _) jB _) (λ_ _ e=>e)) ah
   .have aq:=hD.txs b hb;obtain⟨ta,tc,aw⟩:=Row.slice aq;obtain⟨tn,bk⟩:∃n,b.1.txs.length=n:=⟨_,rfl⟩
    rw[bk]at aw;have bv:=(s.batch b hb).1;have ao:=Jv hu hc aj ap;rw[aj]at ag;unfold yK P9 at ag;dsimp only at ag;rw[aw]at ag;have a5:cH _:=ag;have H:cH _:=jy hD (jy I (jy ro (jy ao (jy z (jy aq aw)))));clear h hD I ao s s2 az au ro a6 ag z hc hu aj am a4 aq aw bk hb ap;go_enter (fq Tryz.func55 rfl),Tryz.ntmps55;go_upto_region 1 with fail;rw[<-hW];clear hW;go_wp2_with (first|(go_at_call 86;refine aT a5.out ?_;rintro x1 w1 ⟨rfl,a8,af,E,J⟩;have R:=(J.block _ a3 (by rintro(e|e);omega;exact bj e)).trans H.out.2.2.1;have a1:=(jE R);have H1:cH _:=jy af (jy E (jy J R));clear af E J R)|(go_at_call 85;refine aT (bn.out _ a8 (H1.out.1.below ((aJ _ _).alloc jB _)) _ bv ta tn tc) ?_;rintro x2 w2 ⟨vd,rfl,ac,ai,ae⟩;obtain⟨va,vn,vc,rfl⟩:=sG ac;have aa:=(ae.block _ aF aA).trans ((aZ w1 _ _ a1).trans H1.out.2.2.2);obtain⟨r0,r1,r2,r3,r4,r5,r6,r7,rf⟩:=lq aa;have H2:cH _:=jy ac (jy ai (jy ae aa));clear ac ai ae aa;unfold loV)|fail)
    obtain⟨hD,I,ro,hp,z,aq,aw⟩:=H.out;obtain⟨af,E,J,R⟩:=H1.out;obtain⟨ac,ai,ae,aa⟩:=H2.out;refine cM (v:=cQ #[fX #[N ab cnt,N ab (lW c us cnt),N ab b.1.epoch,N ab (FQ us b.1.epoch),N ab (kG cnt ep sq b.1.epoch),.slice ta tn tc,.slice va vn vc,N ab nn],cK aR]) (by simp[results,mi,go_sem,r0,r1,r2,r3,r4,r5,r6,r7]) rfl ?_
    have bo:kQ w1 b.2 b.1.txs:=Row.jM aq J (λg hg e=>by
     obtain e|e:=e
     .exact jH aq hD.obj aB (by rw[hg,e])
     .obtain⟨b7,bs⟩:=hD.wait.obj e;exact jH aq bs aB hg)
    have bd:=(aJ _ w1).alloc jB (aG #[N ab b.1.epoch,N ab b.1.id,N ab b.1.time,.slice ta tn tc,N ab b.1.place] 118);exact wK hp bv ac aF (λb' bh=>by cases bh;exact Row.below bo bd) ⟨_,(af.below bd).obj⟩ ai E ((I.trans J (λ_ _ e=>e)).trans (.below bd jB _) (λ_ _ e=>e)) ae aa (by rw[z];rw[show txV (M b)=b.2 from rfl,aw];rfl)
end
open Go.RowKit
section
variable {XS:Nat->Prop}{P:cU}{lb:Array X}
def uQ{a b:U}(h:jI XS a b){l:Nat}(o:nL)(z:l<↑a):jI XS (a.putObj l o) (b.putObj l o):=
 ⟨h.os,h.tape,h.output,by simpa using h.size,λk hk E=>by
  by_cases e:l=k
  .subst e;rw[ri z,ri (aP z h.size)]
  .rw[qT (Ne.symm e),qT (Ne.symm e)];exact h.block k (by simpa using hk) E⟩
def OX{α:Type}(P:cU)(g:Nat)(lb:Array X)(encs:α->Array X)(XS:Nat->Prop)(R En:List α->U->Prop)(Y:List α->α->Nat->U->Prop)(S Sp:List α->Prop):Prop:=
 ∀(l:Nat)(J Jx:List α->U->Prop)(W:U),(∀k,XS k->k<l)->l<↑W->R [] W->
  (∀z x E I,J z E->jI XS E I->Y z x ↑E I->YieldAt gP 1 P l (encs x) I λe W'=>
   (e=bO (cK aR)/\J (z++[x]) W'/\↑I<=W'.heap.size/\R (z++[x]) W'/\∀k,E.heap.size<=k->k<I.heap.size->W'.heap[k]? =I.heap[k]?)\/(e=bO (cK aL)/\Jx (z++[x]) W'))->
  J [] W->
  CallsIn gP 2 P g (#[.func (.yield l) #[] #[]]++lb) W λe W'=>(∃v,e=bO v)/\((∃xs E,S xs/\J xs E/\jI XS E W'/\En xs W')\/(∃z E,Sp z/\Jx z E/\jI XS E W'))
def adN{α:Type}(B lo J:Nat)(E I:List α->U->Prop)(z:eE->List α->U->Prop)(xs:List α)(W:U):p9->Act->U->Prop
 |.normal,_,W'=>rr B W W'/\E xs W'/\(∀k,lo<=k->k<J->W'.heap[k]? =W.heap[k]?)/\I xs W'
 |.ret,_,W'=>rr B W W'/\z .ret xs W'
 |.exit id,_,W'=>rr B W W'/\z (.exit id) xs W'
 |.goto t,_,W'=>rr B W W'/\z (.goto t) xs W'
 |.panic _,_,_=>False
 |.outgrown,_,_=>False
def PK{α:Type}(P:cU)(g:Nat)(lb:Array X)(encs:α->Array X)(XS:Nat->Prop)(E:U->U->Prop)(St En:List α->U->Prop)(Y:List α->α->Nat->U->Prop)(S Sp:List α->Prop):Prop:=
 ∀(l:Nat)(J Jx:List α->U->Prop)(W:U),(∀k,XS k->k<l)->l<↑W->St [] W->
  (∀z x I R,J z I->jI XS I R->E I R->Y z x ↑I R->YieldAt gP 1 P l (encs x) R λe W'=>
   (e=bO (cK aR)/\J (z++[x]) W'/\↑R<=W'.heap.size/\St (z++[x]) W'/\∀k,I.heap.size<=k->k<R.heap.size->W'.heap[k]? =R.heap[k]?)\/(e=bO (cK aL)/\Jx (z++[x]) W'))->
  J [] W->
  CallsIn gP 2 P g (#[.func (.yield l) #[] #[]]++lb) W λe W'=>(∃v,e=bO v)/\((∃xs I,S xs/\J xs I/\jI XS I W'/\E I W'/\En xs W')\/(∃z I,Sp z/\Jx z I/\jI XS I W'/\E I W'))
def Lu{α:Type}{g:Nat}{encs:α->Array X}{R En:List α->U->Prop}{Y:List α->α->Nat->U->Prop}{S I:List α->Prop}(h:OX P g lb encs XS R En Y S I):PK P g lb encs XS (λ_ _=>True) R En Y S I:=λl J Jx W h1 h2 h3 h4 h5=>
 (h l J Jx W h1 h2 h3 (λE x z W1 q1 q2 q3=>h4 E x z W1 q1 q2 trivial q3) h5).mono λ_ _ q=>⟨q.1,q.2.imp (λ⟨xs,z,a,b,c,d⟩=>⟨xs,z,a,b,c,trivial,d⟩) (λ⟨p,z,a,b,c⟩=>⟨p,z,a,b,c,trivial⟩)⟩
def tq{α:Type}{g:jN}{ps:Array Tmp}{assign body:eE}{Q:p9->Act->U->Prop}{a:Act}{w:U}{gf:Nat}(hg:a.eval g=.func (.func gf) #[] lb)(eg:∀args w,(callFunc gf args).run P w=.ok (.enter gf args) w){encs:α->Array X}{E:U->U->Prop}{St En:List α->U->Prop}{Y:List α->α->Nat->U->Prop}{S Sp:List α->Prop}(ar:PK P gf lb encs XS E St En Y S Sp)(hM:∀k,XS k->k<w.heap.size)(hE:∀(A B:U)(l:Nat)(o:nL),↑w<=l->E A B->E (A.putObj l o) (B.putObj l o))(ao:rq ↑w St)(au:rq ↑w En)(hY:∀lo,rq ↑w (λ(q:List α×α) W=>Y q.1 q.2 lo W))(ay:∀x,(encs x).size=ps.size)(I:List α->U->Prop)(Ix:eE->List α->U->Prop)(hI:rq ↑w I)(af:∀c,rq ↑w (Ix c))(h0:I [] w)(aw:St [] w)(ah:α->Nat->Act)(al:α->U->U)(hA:∀x W k,k<W.heap.size->(al x W).heap[k]? =W.heap[k]?)(a0:∀x W,W.heap.size<=(al x W).heap.size)(av:∀x W l o,l<W.heap.size->(al x W).putObj l o=al x (W.putObj l o))(ae:∀(l:Nat)(x:α)(W:U)(K:Act->U->Prop),K (ah x ↑W) (al x W)->assign.wpIn (Fence.wide.inRound l) 1 P (Exit.then K (λ_ _ _=>False)) { tmps:=(ps.zip (encs x)).foldl (λt (p,v)=>t.setIfInBounds p v) a.tmps,defers:=[] } W)(aj:∀(l:Nat)(J:List α)(x:α)(R W1:U),w.heap.size<=l->l<R.heap.size->(∃r,W1.heap[l]? =M (.loop r))->I J R->jI XS R W1->E R W1->Y J x ↑R W1->body.wpIn (Fence.wide.inRound l) 1 P (adN ↑w ↑R ↑W1 St I Ix (J++[x]) (al x W1)) (ah x ↑W1) (al x W1))(ak:∀(D:Nat)(xs:List α)(R W:U),w.heap.size<=D->D<R.heap.size->S xs->I xs R->jI XS R W->E R W->En xs W->W.heap[D]? =M (eI (M []))->Q .normal { a with defers:={ target:=.collected D,args:=#[] }::a.defers } W)(an:∀(D:Nat)(c:eE)(J:List α)(R W:U),w.heap.size<=D->D<R.heap.size->Sp J->Ix c J R->jI XS R W->E R W->W.heap[D]? =M (eI (M []))->c.wpIn gP 3 P Q { a with defers:={ target:=.collected D,args:=#[] }::a.defers } W):(Code.rangeFunc g ps assign body).wpIn gP 3 P Q a w:=by
 refine wpIn_rangeFunc λfn a2=>?_;obtain⟨rc,aa⟩:∃rc:LoopState->Option eE->Loop,rc=λst pe=>{ state:=st,pending:=pe,fn,tmps:=a.tmps,params:=ps,assign,body,defers:=w.heap.size }:=⟨_,rfl⟩
 obtain⟨V,hV⟩:∃V,(w.alloc (eI (M []))).alloc (.loop (rc .ready Z))=V:=⟨_,rfl⟩
 have vl:V.heap[w.heap.size+1]? =M (.loop (rc .ready Z)):=by
  have:=rA (w.alloc (eI (M []))) (.loop (rc .ready Z));rw[fB,hV]at this;exact this
 have vd:V.heap[w.heap.size]? =M (eI (M [])):=by rw[<-hV];exact(aZ _ _ _ aC).trans (rA w _)
 have vI:I [] V:=by rw[<-hV];exact hI.alloc _ (hI.alloc _ h0)
 have vS:St [] V:=by rw[<-hV];exact ao.alloc _ (ao.alloc _ aw)
 have nl:¬XS (w.heap.size+1):=λh=>by have:=hM _ h;omega
 have nd:¬XS w.heap.size:=λh=>by have:=hM _ h;omega
 refine⟨w.heap.size+1,[{ target:=.collected ↑w,args:=#[] }],V,{ target:=.fn (.func gf) lb,args:=#[.func (.yield (w.heap.size+1)) #[] #[]] },V,gf,
  #[.func (.yield (w.heap.size+1)) #[] #[]]++lb,V,?_,?_,λ_ _=>trivial,by simp[invoke,go_sem,eg],λh=>by simp[gP]at h,?_⟩
 .rw[<-hV,aa];exact run_enterLoop_outer _ _ _ _ _
 .simp only[resolve,hg];simp[go_sem]
 refine(ar _
  (λJ W=>I J W/\W.heap[w.heap.size+1]? =M _/\W.heap[w.heap.size]? =M _)
  (λJ W=>∃c,Ix c J W/\W.heap[w.heap.size+1]? =M (.loop (rc .done (M c)))/\W.heap[w.heap.size]? =M (eI (M []))) V (λk hk=>by have:=hM k hk;omega) (jE vl) vS ?_ ⟨vI,vl,vd⟩).mono ?_
 .rintro J x R W1 ⟨i0,l0,d0⟩ hb he hy;have ac:=(jE l0)
  have l1:=(hb.block _ ac nl).trans l0;have d1:=(hb.block _ (by omega:↑w<R.heap.size) nd).trans d0;have ag:=(jE l1)
  have ry:=run_yield (P:=P) (args:=encs x) l1 (by rw[aa];exact ay x);rw[aa]at ry;refine⟨fn,_,assign,body,ry,roundIn_of_wpIn a2 (ae _ x W1 _ ⟨_,run_beginRound ((hA _ _ _ ag).trans l1) (by rw[aa]),?_⟩)⟩;clear ry;rw[av _ _ _ _ ag];obtain⟨o,ho⟩:∃o:nL,Obj.loop { rc .ready Z with state:=.busy }=o:=⟨_,rfl⟩
  rw[ho];have b1:=uQ hb o ac
  have y1:Y J x (R.putObj (w.heap.size+1) o).heap.size (W1.putObj (w.heap.size+1) o):=by
   rw[rh];exact(hY _).putObj (s:=(J,x)) o hy aA l1 rfl
  have am:=aj _ J x _ _ aA aF ⟨_,(ri ag).trans (Z1 M ho.symm)⟩ (hI.putObj o i0 aA l0 rfl) b1 (hE _ _ _ _ aA he) y1;simp only[rh]at am;refine wpIn_mono am ?_;clear am;have a1:(al x (W1.putObj (w.heap.size+1) o)).heap[w.heap.size+1]? =M o:=(hA _ _ _ aF).trans (ri ag);have az:(al x (W1.putObj (w.heap.size+1) o)).heap[w.heap.size]? =M (eI (M [])):=(hA _ _ _ aF).trans ((qT aA).trans d1);have ai:=a0 x (W1.putObj (w.heap.size+1) o)
  have fin:∀(z:Option eE)(W3:U),rr ↑w (al x (W1.putObj (w.heap.size+1) o)) W3->
    (Instr.endRound (w.heap.size+1) z).run P W3=.ok (.bool z.isNone) (W3.putObj (w.heap.size+1) (.loop (rc (if z.isNone then .ready else .done) z)))/\
    W3.heap[w.heap.size+1]? =M o/\
    (W3.putObj (w.heap.size+1) (.loop (rc (if z.isNone then .ready else .done) z))).heap[w.heap.size+1]? =M (.loop (rc (if z.isNone then .ready else .done) z))/\
    (W3.putObj (w.heap.size+1) (.loop (rc (if z.isNone then .ready else .done) z))).heap[w.heap.size]? =M (eI (M [])):=λz W3 aq=>by
   have q1:=aq.same _ _ aA a1 (by rw[<-ho];rfl);have q2:=aq.same _ _ jB az rfl;have ap:=q1;rw[<-ho]at ap;have:=run_endRound (P:=P) z ap;refine⟨?_,q1,ri (jE q1),(qT aA).trans q2⟩;rw[aa]at this⊢;exact this
  rintro e a3 W3 hp;cases e with
  |normal=>
   obtain⟨k3,kk,kx,i3⟩:=hp;obtain⟨hr,l3,l4,d4⟩:=fin Z W3 k3;refine⟨_,_,hr,bE ⟨rfl,⟨hI.putObj _ i3 aA l3 (by rw[<-ho];rfl),l4,d4⟩,by have:=k3.size;simp at ai⊢;omega,ao.putObj _ kk aA l3 (by rw[<-ho];rfl),λk h1 h2=>by rw[qT aA,kx k h1 h2,hA _ _ _ (by rw[rh];exact h2),qT aA]⟩⟩
  |ret=>
   obtain⟨k3,i3⟩:=hp;obtain⟨hr,l3,l4,d4⟩:=fin (M .ret) W3 k3;exact⟨_,_,hr,cD ⟨rfl,_,(af _).putObj _ i3 aA l3 (by rw[<-ho];rfl),l4,d4⟩⟩
  |exit id=>
   obtain⟨k3,i3⟩:=hp;obtain⟨hr,l3,l4,d4⟩:=fin (M (.exit id)) W3 k3;exact⟨_,_,hr,cD ⟨rfl,_,(af _).putObj _ i3 aA l3 (by rw[<-ho];rfl),l4,d4⟩⟩
  |goto t=>
   obtain⟨k3,i3⟩:=hp;obtain⟨hr,l3,l4,d4⟩:=fin (M (.goto t)) W3 k3;exact⟨_,_,hr,cD ⟨rfl,_,(af _).putObj _ i3 aA l3 (by rw[<-ho];rfl),l4,d4⟩⟩
  |panic ch=>exact hp.elim
  |outgrown=>exact hp.elim
 .rintro e W2 ⟨⟨v,rfl⟩,(⟨xs,R,hS,⟨i0,l0,d0⟩,hb,he,ai⟩|⟨J,R,hS,⟨c,i0,l0,d0⟩,hb,he⟩)⟩
  .have ac:=(jE l0)
   have l2:=(hb.block _ ac nl).trans l0;have d2:=(hb.block _ (by omega:↑w<R.heap.size) nd).trans d0;refine⟨Z,_,by have:=rN (P:=P) l2 (by rw[aa];simp);rw[aa]at this;exact this,?_⟩;exact ak _ xs _ _ jB aF hS (hI.putObj _ i0 aA l0 rfl) (uQ hb _ ac) (hE _ _ _ _ aA he) (au.putObj _ ai aA l2 rfl) ((qT aA).trans d2)
  .have ac:=(jE l0)
   have l2:=(hb.block _ ac nl).trans l0;have d2:=(hb.block _ (by omega:↑w<R.heap.size) nd).trans d0;refine⟨M c,_,by have:=rN (P:=P) l2 (by rw[aa];simp);rw[aa]at this;exact this,?_⟩;exact an _ c J _ _ jB aF hS ((af c).putObj _ i0 aA l0 rfl) (uQ hb _ ac) (hE _ _ _ _ aA he) ((qT aA).trans d2)
end
structure sD where
 ws:List PW
 cnt:Nat
 ep:Nat
 sq:Nat
structure LV where
 i0:Int
 i1:Int
 i2:Int
 i3:Int
 i4:Int
 ta:Option eM
 tn:Nat
 tc:Nat
 da:Option eM
 dn:Nat
 dc:Nat
 i7:Int
def LV.cells(x:LV):Array X:=#[N ab x.i0,N ab x.i1,N ab x.i2,N ab x.i3,N ab x.i4,.slice x.ta x.tn x.tc,.slice x.da x.dn x.dc,N ab x.i7]
structure DX where
 lv:LV
 e:Nat
 ob:Option PW
 s:sD
 s':sD
def DX.v(x:DX):X:=.agg x.lv.cells
def DX.encs(x:DX):Array X:=#[x.v]
def jQ(s0:sD)(z:List DX):sD:=z.foldl (λ_ x=>x.s') s0
def wE(s0:sD)(z:List DX)(x:DX):jQ s0 (z++[x])=x.s':=by simp[jQ]
inductive Steps(c:Cf)(us:List PB)(s0:sD):List DX->Prop
 |nil:Steps c us s0 []
 |snoc {pre:List DX} {x:DX}:Steps c us s0 pre->x.s=jQ s0 pre->jO c us x.s.ws x.s.cnt x.s.ep=(M (x.e,x.ob),x.s'.ws)->x.s'=⟨x.s'.ws,x.s.cnt+1,x.e,kG x.s.cnt x.s.ep x.s.sq x.e⟩->Steps c us s0 (pre++[x])
def DA(W:U)(kb:Nat)(c:Cf)(vu:X)(us:List PB)(dl:Nat->List (List UInt8))(nb:Nat)(vo vw:X)(d:sD):Prop:=∃z,rH W kb c vu us dl nb vo z d.ws d.cnt d.ep d.sq/\∀g,z.ownBlock=M g->vw.ownBlock=M g
def EP(kb E:Nat)(c:Cf)(vu:X)(us:List PB)(dl:Nat->List (List UInt8))(nb:Nat)(vo vw:X)(s0:sD)(z:List DX)(W:U):Prop:=DA W kb c vu us dl nb vo vw (jQ s0 z)/\W.cell? ⟨E,0,Z⟩=M (aD (M ⟨kb,0,Z⟩))
def Zf(kb:Nat)(c:Cf)(vu:X)(us:List PB)(dl:Nat->List (List UInt8))(nb:Nat)(vo vw:X)(s0:sD)(z:List DX)(W:U):Prop:=DA W kb c vu us dl nb vo vw ⟨(jO c us (jQ s0 z).ws (jQ s0 z).cnt (jQ s0 z).ep).2,(jQ s0 z).cnt,(jQ s0 z).ep,(jQ s0 z).sq⟩
def DY(kb I:Nat)(c:Cf)(vu:X)(us:List PB)(dl:Nat->List (List UInt8))(nb:Nat)(vo vw:X)(s0:sD)(z:List DX)(x:DX)(lo:Nat)(W:U):Prop:=
 Steps c us s0 (z++[x])/\(∃E,x.v=loV x.s.cnt (lW c us x.s.cnt) x.e (FQ us x.e) x.s'.sq (txV x.ob) E (us.length-1)/\Made W lo E (if x.s'.sq=0 then dl x.e else []))/\(∀b,x.ob=M b->kQ W b.2 b.1.txs)/\x.e<us.length/\EP kb I c vu us dl nb vo vw s0 (z++[x]) W
def DS(c:Cf)(us:List PB)(s0:sD)(z:List DX):Prop:=Steps c us s0 z/\(jO c us (jQ s0 z).ws (jQ s0 z).cnt (jQ s0 z).ep).1=Z
def Vq(kb E:Nat)(c:Cf)(vu:X)(us:List PB)(dl:Nat->List (List UInt8))(nb:Nat)(vo vw:X)(s0:sD)(z:List DX)(lo:Nat)(v:X)(ok:Bool)(W:U):Prop:=
 (ok=aR/\∃x,x.v=v/\DY kb E c vu us dl nb vo vw s0 z x lo W)\/(ok=aL/\DS c us s0 z/\Zf kb c vu us dl nb vo vw s0 z W)
def Good(c:Cf)(us:List PB)(s0:sD):Prop:=∀z,Steps c us s0 z->(0<us.length->yS c us (jQ s0 z).ws (jQ s0 z).cnt (jQ s0 z).ep)/\(jQ s0 z).sq<4294967296/\((jQ s0 z).cnt=0->(jQ s0 z).ep=0)
def Um{ob:Option PW}{w:U}(h:∀b,ob=M b->kQ w b.2 b.1.txs):∃a n cap,txV ob=.slice a n cap:=by
 cases ob with
 |none=>exact⟨Z,0,0,rfl⟩
 |some b=>
  obtain⟨a,cap,e⟩:=Row.slice (h b rfl);exact⟨a,_,cap,e⟩
def NQ{kb R:Nat}{c:Cf}{vu:X}{us:List PB}{dl:Nat->List (List UInt8)}{nb:Nat}{vo vw:X}{s0:sD}{z:List DX}{W:U}(hp:Steps c us s0 z)(hG:Good c us s0)(hdl:∀j,(dl j).length<=4294967296)(aj:¬(R=kb\/vw.ownBlock=M R))(ah:EP kb R c vu us dl nb vo vw s0 z W):dE PQ 55 #[aD (M ⟨kb,0,Z⟩)] W λx w'=>∃(i0 i1 i2 i3 i4:Int)(ta:Option eM)(tn tc:Nat)(da:Option eM)(dn dc:Nat)(i7:Int)(ok:Bool),x=bO (cQ #[fX #[N ab i0,N ab i1,N ab i2,N ab i3,N ab i4,.slice ta tn tc,.slice da dn dc,N ab i7],.bool ok]) /\jI (λk=>k=kb\/vw.ownBlock=M k) W w'/\Vq kb R c vu us dl nb vo vw s0 z ↑W (fX #[N ab i0,N ab i1,N ab i2,N ab i3,N ab i4,.slice ta tn tc,.slice da dn dc,N ab i7]) ok w'/\w'.cell? ⟨R,0,Z⟩=M (aD (M ⟨kb,0,Z⟩)):=by
 obtain⟨⟨ag,hD,I⟩,J⟩:=ah;obtain⟨g1,g2,g3⟩:=hG z hp;have ai:R<W.heap.size:=fG W _ J;refine aT (Fa kb c vu us dl nb vo ag W hD g1 g2 hdl) ?_;rintro x w' ⟨h1,h2⟩;have hc:=h2.mono (λk _ e=>e.imp (λe=>e) (λe=>I k e));have E:=(bX (hc.block R ai aj)).trans J;cases hr:jO c us (jQ s0 z).ws (jQ s0 z).cnt (jQ s0 z).ep with
 |mk o ws'=>
  rw[hr]at h1;cases o with
  |none=>
   obtain⟨rfl,Y,aa,ac⟩:=h1;exact⟨0,0,0,0,0,Z,0,0,Z,0,0,0,aL,rfl,hc,cD ⟨rfl,⟨hp,by rw[hr]⟩,Y,by rw[hr];exact aa,λg hg=>I g (ac g hg)⟩,E⟩
  |some o=>
   obtain⟨e,ob⟩:=o;obtain⟨he,vd,rfl,hm,ht,Y,aa,ac⟩:=h1;obtain⟨ta,tn,tc,ae⟩:=Um ht;obtain⟨da,dn,dc,af⟩:=sG hm;refine⟨(jQ s0 z).cnt,lW c us _,e,FQ us e,kG _ _ _ e,ta,tn,tc,da,dn,dc,(us.length-1:Nat),aR,?_,hc,bE ⟨rfl,⟨⟨(jQ s0 z).cnt,lW c us (jQ s0 z).cnt,e,FQ us e,kG (jQ s0 z).cnt (jQ s0 z).ep (jQ s0 z).sq e,ta,tn,tc,da,dn,dc,(us.length-1:Nat)⟩,e,ob,jQ s0 z,⟨ws',(jQ s0 z).cnt+1,e,kG _ _ _ e⟩⟩,rfl,.snoc hp rfl hr rfl,⟨vd,?_,hm⟩,ht,he,?_,E⟩,E⟩
   .dsimp only;rw[ae,af];rfl
   .dsimp only;rw[ae,af];rfl
   .rw[wE];exact⟨Y,aa,λg hg=>I g (ac g hg)⟩
section
variable {W:U}{kb nb cB lo lo' R:Nat}{c:Cf}{vu vo vw v:X}{us:List PB}{dl:Nat->List (List UInt8)}{s0 d:sD}{pre:List DX}{ok:Bool}{rc:Array X}
def mW(kb:Nat)(c:Cf)(us:List PB)(W:U):Nat:=match W.heap[kb]? with
 |some (aG cs _ _)=>match (cs[10]?:Option X),(cs[11]?:Option X),(cs[12]?:Option X)with
  |some (.slice _ n _),M (.int _ a),M (.int _ e)=>n+(us.length-e.toNat)+((4294967298-lW c us a.toNat)/2).toNat
  |_,_,_=>0
 |_=>0
def abY{ws:List PW}{cnt ep sq:Nat}(h:rH W kb c vu us dl nb vo vw ws cnt ep sq):mW kb c us W=meas c us ws cnt ep:=by obtain⟨a,cap,e⟩:=Row.slice h.wait;unfold mW;rw[h.obj,e];simp[jP,meas]
def aaQ:X->Bool
 |cK b=>b
 |_=>aL
def mL(kb:Nat)(c:Cf)(us:List PB)(t:X)(W:U):Nat:=if aaQ t then mW kb c us W+1 else 0
def Vq.below{W':U}(h:Vq kb cB c vu us dl nb vo vw s0 pre lo v ok W)(I:Below ↑W W W')(aa:lo'<=lo):Vq kb cB c vu us dl nb vo vw s0 pre lo' v ok W':=by
 have E:∀d,DA W kb c vu us dl nb vo vw d->DA W' kb c vu us dl nb vo vw d:=λd ⟨J,z,h2⟩=>⟨J,z.below I,h2⟩
 obtain⟨e,x,hx,z,⟨vd,h2,h3⟩,h4,h5,h6,h7⟩|⟨e,z,h2⟩:=h
 .exact bE ⟨e,x,hx,z,⟨vd,h2,Row.below h3.1 I,λg hg=>bH aa (h3.2 g hg)⟩,λb Y=>Row.below (h4 b Y) I,h5,E _ h6,(I.cell (p:=⟨cB,0,Z⟩) (fG W _ h7)).trans h7⟩
 .exact cD ⟨e,z,E _ h2⟩
def DA.rE(h:DA W kb c vu us dl nb vo vw d)(E:W.heap[R]? =M (aG rc 52 (0,0)))(z Y x2 x3 I x5 J x7:X):DA (rE W R z Y x2 x3 I x5 J x7) kb c vu us dl nb vo vw d:=
 let ⟨vw',h1,h2⟩:=h
 ⟨vw',Bl h1 E,h2⟩
def Vq.rE(h:Vq kb cB c vu us dl nb vo vw s0 pre lo v ok W)(ac:lo'<=lo)(hR:W.heap[R]? =M (aG rc 52 (0,0)))(aa:cB≠R)(z x1 Y I E x5 x6 J:X):Vq kb cB c vu us dl nb vo vw s0 pre lo' v ok (rE W R z x1 Y I E x5 x6 J):=by
 have hS:=λu n l (h:Row W 9 1 u n l)=>DR h hR z x1 Y I E x5 x6 J;have hD:=λd (h:DA W kb c vu us dl nb vo vw d)=>h.rE hR z x1 Y I E x5 x6 J;have hC:=(kZ W R z x1 Y I E x5 x6 J).block cB;revert hS hD hC;generalize Hm.rE W R z x1 Y I E x5 x6 J=Wd;intro hS hD hC;obtain⟨e,x,hx,h1,⟨vd,h2,h3⟩,h4,h5,h6,h7⟩|⟨e,h1,h2⟩:=h
 .refine bE ⟨e,x,hx,h1,⟨vd,h2,?_,λg hg=>bH ac (h3.2 g hg)⟩,?_,h5,hD _ h6,?_⟩
  .exact hS _ _ _ h3.1
  .intro b hb;exact hS _ _ _ (h4 b hb)
  .exact(bX (hC (fG W _ h7) aa)).trans h7
 .exact cD ⟨e,h1,hD _ h2⟩
def Qb{x:DX}(h:Steps c us s0 (pre++[x])):x.s=jQ s0 pre/\jO c us x.s.ws x.s.cnt x.s.ep=(M (x.e,x.ob),x.s'.ws)/\x.s'=⟨x.s'.ws,x.s.cnt+1,x.e,kG x.s.cnt x.s.ep x.s.sq x.e⟩:=by
 generalize z:pre++[x]=l at h;cases h with
 |nil=>simp at z
 |snoc h1 h2 h3 h4=>
  obtain⟨rfl,e⟩:=oi z rfl;cases e;exact⟨h2,h3,h4⟩
def Y2(h:Vq kb cB c vu us dl nb vo vw s0 pre lo v ok W)(hG:Good c us s0)(hp:Steps c us s0 pre)(E:2<=c.step):mL kb c us (.bool ok) W<meas c us (jQ s0 pre).ws (jQ s0 pre).cnt (jQ s0 pre).ep+1:=by
 obtain⟨rfl,x,hx,I,_,_,h5,z⟩|⟨rfl,I,h2⟩:=h
 .obtain⟨⟨aa,z,_⟩,_⟩:=z;rw[wE]at z;obtain⟨e1,e2,Y⟩:=Qb I;obtain⟨J,g2,g3⟩:=hG pre hp;rw[<-e1]at J g3⊢;have hm:=SS (J aA) E g3 e2;unfold mL aaQ;rw[ZD rfl,abY z];have ec:x.s'.cnt=x.s.cnt+1:=by rw[Y]
  have ee:x.s'.ep=x.e:=by rw[Y]
  rw[ec,ee];omega
 .unfold mL aaQ;rw[Zs aC];omega
def aa1(h:DA W kb c vu us dl nb vo vw d):mL kb c us (cK aR) W=meas c us d.ws d.cnt d.ep+1:=by obtain⟨E,z,_⟩:=h;unfold mL aaQ;rw[ZD rfl,abY z]
def Aa{z w4:U}{o:nL}(hc:jI (λk=>k=kb\/vw.ownBlock=M k) (z.alloc o) w4)(ha:Vq kb cB c vu us dl nb vo vw s0 pre (z.alloc o).heap.size v ok w4)(hl:w4.heap[z.heap.size]? =M (aG rc 52 (0,0)))(cb:w4.cell? ⟨cB,0,Z⟩=M (aD (M ⟨kb,0,Z⟩)))(aa:cB<↑z)(E x1 x2 J I x5 x6 Y:X):Vq kb cB c vu us dl nb vo vw s0 pre ↑z v ok (rE w4 ↑z E x1 x2 J I x5 x6 Y)/\jI (λk=>k=kb\/vw.ownBlock=M k) z (rE w4 ↑z E x1 x2 J I x5 x6 Y)/\(rE w4 ↑z E x1 x2 J I x5 x6 Y).cell? ⟨cB,0,Z⟩=M (aD (M ⟨kb,0,Z⟩)):=by
 have h1:=Vq.rE (lo':=z.heap.size) ha aC hl (iM aa) E x1 x2 J I x5 x6 Y;have h2:=kZ w4 z.heap.size E x1 x2 J I x5 x6 Y;revert h1 h2;generalize rE w4 z.heap.size E x1 x2 J I x5 x6 Y=Wd;intro h1 h2;exact⟨h1,((jI.alloc _ z o).trans hc (λ_ _ e=>e)).trans h2 (λk hk e=>Xs e (iM hk)),(bX (h2.block cB (fG w4 _ cb) (iM aa))).trans cb⟩
end
end Hm
namespace Hm
open Go.RowKit Go.Joins Go.Shelf
open Dv (X2 Cf Ba)
attribute [local go_sem] Oper.semAt_some
def JX(kb E:Nat)(c:Cf)(vu:X)(us:List PB)(dl:Nat->List (List UInt8))(nb:Nat)(vo vw:X)(s0:sD)(hG:Good c us s0)(a7:2<=c.step)(hdl:∀j,(dl j).length<=4294967296)(ag:¬(E=kb\/vw.ownBlock=M E)):OX PQ 54 #[aD (M ⟨E,0,Z⟩)] DX.encs (λk=>k=kb\/vw.ownBlock=M k) (EP kb E c vu us dl nb vo vw s0) (Zf kb c vu us dl nb vo vw s0) (DY kb E c vu us dl nb vo vw s0) (DS c us s0) (λ_=>True):=by
 intro l J Jx W hM av aj ao ar;have a0:=λk hk=>Nat.lt_trans (hM k hk) av;have Hn:=λz V hp (h:EP kb E c vu us dl nb vo vw s0 z V)=>NQ hp hG hdl ag h;have HN:cH _:=Hn;have HY:cH _:=ao;have a6:cH _:=ar;have HS:cH _:=aj;have cb:=aj.2;have HG:cH _:=jy hG (jy ag a0);clear ao ar Hn aj hG ag hM a0 av;refine callsIn_of_wp (fq Tryz.func54 rfl) rfl trivial ?_ rfl;simp only[Tryz.ntmps54,dR,aU,bY,Nat.reduceAdd,Nat.reduceSub,dH,dG,dU,dI,dS,dN];gi_wp2;refine⟨trivial,(gO.2 (HN.out [] W .nil HS.out)).mono ?_⟩;rintro x1 w1 ⟨i0,i1,i2,i3,i4,ta,tn,tc,da,dn,dc,i7,ok,rfl,aw,am,ac⟩;have HA:cH _:=jy aw am;clear aw am;gi_wp2
 gi_loopw [3,4] (λv3 v4 wr=>∃(lb:Nat)(i0 i1 i2 i3 i4:Int)(ta:Option eM)(tn tc:Nat)(da:Option eM)(dn dc:Nat)(i7:Int)(ok:Bool)(z:List DX)(W0:U),v3=aD (M ⟨lb,0,Z⟩)/\v4=.bool ok/\wr.heap[lb]? =M (aG #[N ab i0,N ab i1,N ab i2,N ab i3,N ab i4,.slice ta tn tc,.slice da dn dc,N ab i7] 52 (0,0))/\wr.cell? ⟨E,0,Z⟩=M (aD (M ⟨kb,0,Z⟩))/\cH (J z W0/\jI (λk=>k=kb\/vw.ownBlock=M k) W0 wr/\↑W0<=lb/\↑W<=W0.heap.size/\Vq kb E c vu us dl nb vo vw s0 z ↑W0 (fX #[N ab i0,N ab i1,N ab i2,N ab i3,N ab i4,.slice ta tn tc,.slice da dn dc,N ab i7]) ok wr))
  (λ_ v4 wr=>mL kb c us v4 wr)
 case atStart=>
  have hb:=(aJ _ w1).alloc jB (aG #[N ab i0,N ab i1,N ab i2,N ab i3,N ab i4,.slice ta tn tc,.slice da dn dc,N ab i7] 52);exact⟨_,i0,i1,i2,i3,i4,ta,tn,tc,da,dn,dc,i7,ok,[],W,rfl,rfl,cT _ _,(hb.cell (p:=⟨E,0,Z⟩) (fG w1 _ ac)).trans ac,⟨a6.out,HA.out.1.trans (.below hb jB _) (λ_ _ e=>e),HA.out.1.size,jB,HA.out.2.below hb jB⟩⟩
 case round=>
  clear HA ac cb;obtain⟨lb,i0,i1,i2,i3,i4,ta,tn,tc,da,dn,dc,i7,ok,z,W0,rfl,rfl,ak,cb,Hr⟩:=hrel;obtain⟨l0,l1,l2,l3,l4,l5,l6,l7,lf⟩:=lq ak;cases ok with
  |false=>
   gi_wp2;go_end0;obtain⟨hJ,hc,au,an,ha⟩:=Hr.out;obtain⟨e,_⟩|⟨_,hS,hE⟩:=ha
   .cases e
   .exact⟨⟨_,rfl⟩,bE ⟨z,W0,hS,hJ,hc,hE⟩⟩
  |true=>
   obtain⟨hJ,hc,au,an,ha⟩:=Hr.out;obtain⟨_,x,ah,hy⟩|⟨e,_⟩:=ha
   .obtain⟨fn,tmps,assign,body,ba,hR⟩:=HY.out z x W0 wr hJ hc hy;simp only[DX.encs,ah]at ba;have HR:cH _:=hR;have Hy:cH _:=jy hy ah;clear hR hy hc hJ au ah an;have az:=(jE ak)
    gi_wp2;refine RoundIn.mono HR.out ?_;rintro e I (⟨rfl,a4,ap,Y,a2⟩|⟨rfl,a1⟩)
    .have ay:=(a2 lb Hr.out.2.2.1 az).trans ak;obtain⟨m0,m1,m2,m3,m4,m5,m6,m7,mf⟩:=lq ay;have a5:=Y.2;have H3:cH _:=jy a4 (jy ap Y);have af:E<I.heap.size:=fG I _ a5;have bb:=λo=>(((aJ _ I).alloc jB o).cell (p:=⟨E,0,Z⟩) af).trans a5;have aa:∀o,EP kb E c vu us dl nb vo vw s0 (z++[x]) (I.alloc o):=λo=>⟨let ⟨vw',q1,q2⟩:=Y.1;⟨vw',q1.below ((aJ _ I).alloc jB o),q2⟩,bb o⟩
     have bd:cH _:=aa;clear a4 ap Y a2 ay aa;gi_wp2;refine⟨trivial,(gO.2 (HN.out _ _ Hy.out.1.1 (bd.out _))).mono ?_⟩;rintro x1 w4 ⟨j0,j1,j2,j3,j4,ja,jn,jc,ka,kn,kc,j7,a8,rfl,ae,aq,a9⟩
     have a3:¬(I.heap.size=kb\/vw.ownBlock=M ↑I):=λh=>by
      have q1:=HG.out.2.2 _ h;have q2:=Hr.out.2.2.2.1;have q3:=Hr.out.2.1.size;have q4:=H3.out.2.1;omega
     have ai:=(ae.block _ aC a3).trans (cT I _);obtain⟨n0,n1,n2,n3,n4,n5,n6,n7,nf⟩:=lq ai;have R:cH _:=jy ae (jy aq (jy ai a9));clear ae aq ai a3;gi_wp2;go_roundw
     case rel=>
      have hE:=Aa R.out.1 R.out.2.1 R.out.2.2.1 R.out.2.2.2 af (N ab j0) (N ab j1) (N ab j2) (N ab j3) (N ab j4) (.slice ja jn jc) (.slice ka kn kc) (N ab j7);have hO:=DJ R.out.2.2.1 (N ab j0) (N ab j1) (N ab j2) (N ab j3) (N ab j4) (.slice ja jn jc) (.slice ka kn kc) (N ab j7);exact⟨_,j0,j1,j2,j3,j4,ja,jn,jc,ka,kn,kc,j7,a8,_,I,rfl,rfl,hO,hE.2.2,⟨H3.out.1,hE.2.1,jB,bH Hr.out.2.2.2.1 (bH Hr.out.2.1.size H3.out.2.1),hE.1⟩⟩
     case measure=>
      have hE:=Aa R.out.1 R.out.2.1 R.out.2.2.1 R.out.2.2.2 af (N ab j0) (N ab j1) (N ab j2) (N ab j3) (N ab j4) (.slice ja jn jc) (.slice ka kn kc) (N ab j7);have hm:=Nat.lt_of_lt_of_eq (Y2 hE.1 HG.out.1 Hy.out.1.1 a7) (aa1 Hy.out.1.2.2.2.2.1).symm;clear hE;unfold rE at hm;exact hm
    .gi_wp2;refine cM (pC rfl _ _ _) rfl ?_;exact⟨⟨_,rfl⟩,cD ⟨_,I,trivial,a1,jI.refl _ _⟩⟩
   .cases e
end Hm
namespace Dv
open Fr (F)
section
variable {b:Option Int}{u:X2}{l:List X2}
def kK{r:List X2}(h:kF b (u::r)=aR):lY b u=aR/\kF (M u.time) r=aR:=by simpa[kF]using h
def EM(h:lY b u=aR):small u=aR:=by unfold lY at h;simp only[dF]at h;exact h.2
def zJ:∀(l:List X2)(b:Int),kF (M b) l=aR->∀k,k<l.length->b+(k:Int)<(l[k]!).time/\(l[k]!).time<=b+24*((k:Int)+1)
 |[],_,_,k,hk=>by simp at hk
 |u::r,b,h,0,_=>by
  have z:=(kK h).1;unfold lY at z;simp only[dF,Z3]at z;simp only[List.getElem!_cons_zero];omega
 |u::r,b,h,k+1,hk=>by
  have z:=(kK h).1;unfold lY at z;simp only[dF,Z3]at z;have:=zJ r u.time (kK h).2 k (by simpa using hk);simp only[jk];omega
def zL:∀(l:List X2)(b:Option Int),kF b l=aR->∀i j,i<j->j<l.length->(l[i]!).time+((j:Int)-(i:Int))<=(l[j]!).time/\(l[j]!).time<=(l[i]!).time+24*((j:Int)-(i:Int))
 |[],_,_,_,j,_,hj=>by simp at hj
 |u::r,b,h,0,j+1,_,hj=>by
  have:=zJ r _ (kK h).2 j (by simpa using hj);simp only[List.getElem!_cons_zero,jk];omega
 |u::r,b,h,i+1,j+1,hij,hj=>by
  have:=zL r (M u.time) (kK h).2 i j aA (by simpa using hj);simp only[jk];omega
def mG:∀(l:List X2)(b:Option Int),kF b l=aR->∀k,k<l.length->small (l[k]!)=aR
 |[],_,_,k,hk=>by simp at hk
 |u::r,b,h,0,_=>EM (kK h).1
 |u::r,b,h,k+1,hk=>by
  rw[jk];exact mG r _ (kK h).2 k (by simpa using hk)
def jW(h:jS l=aR):1<=l.length/\l.length<=60/\kF Z l=aR/\0<=(l[0]!).time/\(l[0]!).time<=1000000:=by
 unfold jS at h;simp only[dF,Z3]at h;obtain⟨⟨z,h2⟩,h3⟩:=h;refine⟨z,h2,h3,?_⟩;cases l with
 |nil=>simp at z
 |cons u r=>
  have:=(kK h3).1;unfold lY at this;simp only[dF,Z3]at this;simpa using this.1
def sO(h:jS l=aR){i j:Nat}(E:i<=j)(I:j<l.length):(l[i]!).time+((j:Int)-(i:Int))<=(l[j]!).time/\(l[j]!).time<=(l[i]!).time+24*((j:Int)-(i:Int)):=by
 obtain z|rfl:=jm E
 .exact zL l Z (jW h).2.2.1 i j z I
 .omega
def Gi(h:jS l=aR){i:Nat}(z:i<l.length):0<=(l[i]!).time/\(l[i]!).time<=1001440:=by have E:=jW h;have h2:=sO h (dL i) z;omega
section
variable (c:Cf)(chain:List X2)(n:Nat)
def Cb(e:Nat)(t:Int):∀l:List Ba,(sift c chain n e t l).2.length<=l.length
 |[]=>by simp[sift]
 |b::r=>by
  have z:=Cb e t r;rw[sift]
  repeat' split
  all_goals simp only[aU]
  all_goals omega
def LY(e:Nat)(t:Int):∀(l:List Ba)(x:Ba),x∈(sift c chain n e t l).2->x∈l
 |[],x,h=>by simp[sift]at h
 |b::r,x,h=>by
  have z:=LY e t r x;rw[sift]at h;split at h
  .grind
  .grind
def uG(e:Nat)(t:Int):∀(l:List Ba)(b:Ba),(sift c chain n e t l).1=.got b->b∈l/\(b.time:Int)=t/\e<=b.epoch/\b.epoch<=e+1/\(b.epoch:Int)+c.window≥(b.place:Int)/\holds c chain n e t b=aL/\wrong c chain e t b=aL/\(sift c chain n e t l).2.length+1<=l.length
 |[],b,h=>by simp[sift]at h
 |x::r,b,h=>by
  have E:=uG e t r b;rw[sift]at h⊢;split at h
  .grind
  .rename_i z;rw[Zs z];split at h
   .grind
   .rename_i h2;rw[Zs h2];split at h
    .cases h
    .rename_i h3;rw[Zs h3];split at h
     .grind
     .rename_i h4;rw[Zs h4];cases h;simp only[late,iQ,Z3,not_or]at h2;exact⟨dQ ..,aA,aA,aA,aA,by simpa using h3,by simpa using h4,aC⟩
def Y3(h:Lo)(wait:List Ba):(draw c chain n h wait).2.length<=wait.length:=by
 have:=Cb c chain n h.epoch (h.time+c.step) wait;unfold draw;simp only;split
 .exact this
 .exact this
 .split<;>exact this
def yG{h x:Lo}{wait k:List Ba}(hc:jS chain=aR)(hcf:jK c=aR)(I:n<chain.length)(Y:h.epoch<=n)(hd:draw c chain n h wait=(M x,k)):h.epoch<=x.epoch/\x.epoch<=h.epoch+1/\x.epoch<=n/\x.time=h.time+c.step/\x.number=h.number+1/\x.at_=n/\x.id=(chain[x.epoch]!).id/\k.length+1+(n-x.epoch)+((chain[n]!).time-x.time).toNat<=wait.length+(n-h.epoch)+((chain[n]!).time-h.time).toNat:=by
 unfold jK at hcf;simp only[Z3]at hcf;have R:=Cb c chain n h.epoch (h.time+c.step) wait;unfold draw at hd;simp only at hd;split at hd
 .simp at hd
 .rename_i b E;simp only[dJ,aK]at hd;obtain⟨rfl,rfl⟩:=hd;obtain⟨_,_,i3,i4,_,z,_,J⟩:=uG c chain n _ _ _ _ E
  have hk:b.epoch<=n:=by
   unfold holds at z;simp only[ig,iY,beq_eq_false_iff_ne,Z6]at z;omega
  simp only[lay];refine⟨i3,i4,hk,trivial,trivial,trivial,trivial,?_⟩;omega
 .split at hd
  .simp at hd
  .rename_i hw;simp only[dJ,aK]at hd;obtain⟨rfl,rfl⟩:=hd;simp only[lay];by_cases ht:(chain[h.epoch+1]!).time<=h.time+c.step
   .grind
   .rw[Zs ht];have:=sO hc (i:=h.epoch+1) (j:=n) aA I;refine⟨aA,aA,aA,trivial,trivial,trivial,trivial,?_⟩;omega
def xw(hc:jS chain=aR)(hcf:jK c=aR)(E:n<chain.length):∀(f z:Nat)(h:Lo)(wait:List Ba),h.epoch<=n->left chain n h wait<f->left chain n h wait<z->draws c chain n f h wait=draws c chain n z h wait
 |0,_,_,_,_,h,_=>aA
 |_,0,_,_,_,_,h=>aA
 |f+1,z+1,h,wait,he,h1,h2=>by
  rw[draws,draws];cases hd:draw c chain n h wait with
  |mk o k=>
   cases o with
   |none=>rfl
   |some x=>
    have hs:=yG c chain n hc hcf E he hd;unfold left at h1 h2;have I:=xw hc hcf E f z x k aA (by unfold left;omega) (by unfold left;omega);simp only[I]
def zI(hc:jS chain=aR)(hcf:jK c=aR)(I:n<chain.length):∀(f:Nat)(h:Lo)(wait:List Ba),h.epoch<=n->
  let r:=draws c chain n f h wait
  let z:=(h::r.1).getLastD default
  z.epoch<=n/\h.epoch<=z.epoch/\z.time=h.time+c.step*(r.1.length:Int)/\z.number=h.number+r.1.length/\r.2.length+r.1.length+(n-z.epoch)+((chain[n]!).time-z.time).toNat<=wait.length+(n-h.epoch)+((chain[n]!).time-h.time).toNat
 |0,h,wait,he=>by simp[draws];exact he
 |f+1,h,wait,he=>by
  rw[draws];cases hd:draw c chain n h wait with
  |mk o k=>
   cases o with
   |none=>
    have:=Y3 c chain n h wait;rw[hd]at this;simp only[List.getLastD_cons,List.getLastD_nil,bY]at this⊢;refine⟨he,jB,aA,aA,aA⟩
   |some x=>
    have hs:=yG c chain n hc hcf I he hd;have E:=zI hc hcf I f x k aA;simp only[List.getLastD_cons,aU]at E⊢;obtain⟨i1,i2,i3,i4,J⟩:=E;refine⟨i1,aA,?_,aA,aA⟩;rw[i3,hs.2.2.2.1]
    push_cast
    rw[Int.mul_add];omega
end
def Gq:∀(f:Nat)(s:List UInt8)(p:Nat)(l:List F),p<=s.length->Fr.rest f s p=M l->p+9*l.length<=s.length
 |0,s,p,l,hp,h=>by
  simp only[Fr.rest]at h;split at h
  .grind
  .simp at h
 |f+1,s,p,l,hp,h=>by
  rw[Fr.rest]at h;split at h
  .grind
  .cases ho:Fr.one s p with
   |none=>rw[ho]at h;simp at h
   |some x=>
    obtain⟨x,n⟩:=x;rw[ho]at h;simp only at h;obtain⟨t,ht,rfl⟩:=bI.1 h;have z:=Fr.one_le ho;have:=Gq f s _ t z.2 ht;simp only[aU];omega
def KP(s:List UInt8):9*((Fr.frames s).getD []).length<=s.length:=by
 cases h:Fr.frames s with
 |none=>simp
 |some l=>
  unfold Fr.frames at h;split at h
  .simp at h
  .rename_i h2;have:=Gq _ _ _ _ aA h;simp only[fH];omega
def zu(c:Cf)(t:Tx)(h:t.data.length<=2000):(qP c t).length<=222:=by
 unfold qP;split
 .have:=KP t.data;omega
 .simp
def GH(c:Cf):∀(l:List Tx),(∀t,t∈l->t.data.length<=2000)->(heard c l).length<=222*l.length
 |[],_=>by simp[heard]
 |t::l,h=>by
  have z:=GH c l (λx E=>h x (cZ _ E));have I:=zu c t (h t (dQ ..));unfold heard at z⊢;rw[gY,aS,aU];omega
def qj(h:small u=aR):u.txs.length<=20/\u.logs.length<=20/\(∀t,t∈u.txs->t.data.length<=2000)/\(∀s,s∈u.logs->s.length<=2000):=by unfold small at h;simp only[dF,Z3,fF]at h;exact⟨h.1.1.1,h.1.1.2,h.1.2,h.2⟩
def zM(c:Cf)(h:small u=aR):(heard c u.txs).length<=4440:=by have z:=qj h;have:=GH c _ z.2.2.1;omega
def TQ(most:Int)(n:Nat)(cs:List Ch)(f:F):(frame most n cs f).length<=cs.length+1:=by
 unfold frame;split
 .grind
 .simp
def uf(most:Int)(n:Nat):∀(l:List F)(cs:List Ch),(l.foldl (frame most n) cs).length<=cs.length+l.length
 |[],cs=>aC
 |f::l,cs=>by
  have z:=uf most n l (frame most n cs f);have h2:=TQ most n cs f;simp only[List.foldl_cons,aU];omega
def DW:∀cs:List Ch,(pull cs).1.length+(pull cs).2.length=cs.length
 |[]=>by simp[pull]
 |c::cs=>by
  rw[pull];split
  .simp
  .have:=DW cs;simp only[aU];omega
def qy:∀(f:Nat)(s:List UInt8)(most:Int)(out:List UInt8),(out.length:Int)<=max most 0->((Sq.spread f s most out).1.length:Int)<=max most 0
 |0,_,_,out,h=>h
 |f+1,s,most,out,h=>by
  rw[Sq.spread];split
  .exact h
  .split
   .exact h
   .split
    .grind
    .rename_i h2;exact qy f _ _ _ (by grind)
def Wj:∀(f:Nat)(s:List UInt8)(n:Nat),(rd f s n).length<=f
 |0,_,_=>by simp[rd]
 |f+1,s,n=>by
  rw[rd];split
  .simp
  .split
   .simp
   .split
    .simp
    .rename_i _ i k _ _ b _;have:=Wj f (s.drop k) n;rw[aS];split<;>simp only[aU,bY]<;>omega
def U3(s:List UInt8)(n:Nat):(reads s n).length<=4096:=by have z:=Wj (Sq.spread s.length s 4096 []).1.length (Sq.spread s.length s 4096 []).1 n;have h2:=qy s.length s 4096 [] (by grind);unfold reads;omega
def wL(n:Nat):∀l:List (List UInt8),(l.flatMap (λs=>reads s n)).length<=4096*l.length
 |[]=>aC
 |s::l=>by
  have z:=wL n l;have h2:=U3 s n;rw[gY,aS,aU];omega
def take_len(c:Cf){u:X2}(n:Nat)(cs:List Ch)(wait:List Ba)(z:small u=aR):4096*(take c u n cs wait).1.length+(take c u n cs wait).2.length<=4096*cs.length+wait.length+18186240:=by have E:=zM c z;have h2:=uf c.most n (heard c u.txs) (cs.filter λx=>decide (n-x.opened<=c.timeout));have h3:=gZ (λx:Ch=>decide (n-x.opened<=c.timeout)) cs;have h4:=DW ((heard c u.txs).foldl (frame c.most n) (cs.filter λx=>decide (n-x.opened<=c.timeout)));have I:=wL n (pull ((heard c u.txs).foldl (frame c.most n) (cs.filter λx=>decide (n-x.opened<=c.timeout)))).1;unfold take;simp only[aS];omega
def much(chain:List X2)(n:Nat)(s:St):Nat:=4096*s.chs.length+s.wait.length+s.log.length+(n-(s.log.getLastD default).epoch)+((chain[n]!).time-(s.log.getLastD default).time).toNat
structure Fit(c:Cf)(chain:List X2)(k:Nat)(s:St):Prop where
 some:s.log≠[]
 epoch:(s.log.getLastD default).epoch<=k-1
 time:(s.log.getLastD default).time=(chain[0]!).time+c.step*((s.log.length-1:Nat):Int)
 number:(s.log.getLastD default).number+1=s.log.length
 much:much chain (k-1) s<=2+k*18186265
def tN{α:Type}[Inhabited α](a b:List α)(_:a≠[]):(a++b).getLastD default=(a.getLastD default::b).getLastD default:=by grind
def VU{c:Cf}{chain:List X2}(hc:jS chain=aR)(hcf:jK c=aR){k:Nat}(hk:k<chain.length){s:St}(h:Fit c chain k s):Fit c chain (k+1) (step c chain k s):=by
 have I:=jW hc;have Y:=take_len c k s.chs s.wait (mG chain Z I.2.2.1 k hk);have z:=zI c chain k hc hcf hk (left chain k (s.log.getLastD default) (take c (chain[k]!) k s.chs s.wait).2+1) (s.log.getLastD default) (take c (chain[k]!) k s.chs s.wait).2 (by have:=h.epoch;omega);have hm:=h.much;have hs:=h.some;have J:1<=s.log.length:=by cases hl:s.log with|nil=>exact Xs hl hs|cons=>simp
 have ht:=sO hc (i:=k-1) (j:=k) aA hk;have R:=h.number;have E:=h.time;unfold Dv.much at hm;unfold step;simp only;generalize hT:take c (chain[k]!) k s.chs s.wait=T at *;generalize hD:draws c chain k (left chain k (s.log.getLastD default) T.2+1) (s.log.getLastD default) T.2=D at *;simp only at z;obtain⟨d1,d2,d3,d4,d5⟩:=z;refine⟨?_,?_,?_,?_,?_⟩
 .simp[hs]
 .grind
 .grind
 .grind
 .unfold Dv.much;simp only[Nat.add_sub_cancel];rw[tN _ _ hs,aS]
  have:((chain[k]!).time-(s.log.getLastD default).time).toNat<=((chain[k-1]!).time-(s.log.getLastD default).time).toNat+24:=by
   obtain rfl|aa:=gQ k
   .simp
   .omega
  omega
def UH(c:Cf)(chain:List X2):Fit c chain 0 (start chain):=by refine⟨by simp[start],by simp[start,first],by simp[start,first],by simp[start,first],?_⟩;simp[much,start,first]
def oI{c:Cf}{chain:List X2}(hc:jS chain=aR)(hcf:jK c=aR):∀k,k<=chain.length->Fit c chain k (gone c chain k)
 |0,_=>UH c chain
 |k+1,hk=>VU hc hcf aA (oI hc hcf k aA)
end
end Dv
namespace Hm
open Dv (X2 Cf Ba Lo)
section
variable {ep cnt T:Nat}{b:Ba}{h:Lo}{s s0:sD}{x:DX}{pre:List DX}{ws:List PW}
structure Lk(chain:List X2)(us:List PB)(dl:Nat->List (List UInt8)):Prop where
 pos:0<us.length
 len:us.length<=chain.length
 id:∀j,j<us.length->FQ us j=(chain[j]!).id
 time:∀j,j<us.length->Ag us j=(chain[j]!).time
 deps:∀j,j<us.length->dl j=Dv.jR (chain[j]!)
section
variable {c:Cf}{chain:List X2}{us:List PB}{dl:Nat->List (List UInt8)}
def sJ(ep:Nat)(t:Int)(b:Ba):outside c ep t b=Dv.late c ep t b:=by unfold outside Dv.late;rw[Bool.eq_iff_iff];simp only[iQ,dF,Z3,bne_iff_ne];omega
def Em(l:List (List UInt8)):(l.length == 0)=l.isEmpty:=by cases l<;>simp
def zx(hk:Lk chain us dl)(z:ep<us.length){t:Int}(ho:outside c ep t b=aL):waits c us ep t b b.txs.length=Dv.holds c chain (us.length-1) ep t b:=by
 unfold waits Dv.holds;rw[Em,<-hk.time ep z];unfold outside at ho;simp only[ig,iY,Z6,bne_eq_false_iff_eq]at ho;rw[Bool.eq_iff_iff];by_cases h:ep+1<=us.length-1
 .grind
 .grind
def MQ(hk:Lk chain us dl)(z:ep<us.length){t:Int}(J:b.epoch<us.length)(hw:waits c us ep t b b.txs.length=aL):RP c us ep t b b.txs.length=Dv.wrong c chain ep t b:=by
 have I:b.epoch=ep->b.txs.isEmpty=aR->(chain[b.epoch]!).time+c.drift<t->ep+1<us.length:=λE R Y=>by
  unfold waits at hw;rw[Em,R,hk.time _ z,<-E]at hw;by_cases h:b.epoch+1<=us.length-1
  .omega
  .grind
 have h2:ep+1<us.length->Ag us (ep+1)=(chain[ep+1]!).time:=hk.time _;unfold RP Dv.wrong allows;rw[Em,hk.id _ J,hk.time _ J]
 congr 1
 revert I h2;generalize (chain[b.epoch]!).time=A;generalize (chain[ep+1]!).time=D;generalize Ag us (ep+1)=D';intro I h2;rw[Bool.eq_iff_iff];simp only[dF,Z3,Bool.not_eq_true',iY,ig,bne_eq_false_iff_eq,Z6,iQ,YY];constructor
 .grind
 .grind
def EF(hk:Lk chain us dl)(z:ep<us.length)(I:b.epoch<us.length):
  verdict c us cnt ep b b.txs.length=if lW c us cnt<(b.time:Int)then 0 else if Dv.late c ep (lW c us cnt) b then 1 else if Dv.holds c chain (us.length-1) ep (lW c us cnt) b then 2 else if Dv.wrong c chain ep (lW c us cnt) b then 1 else 3:=by
 unfold verdict;split
 .rfl
 .rw[sJ];split
  .rfl
  .rename_i E;rw[zx hk z (by rw[sJ];simpa using E)];split
   .rfl
   .rename_i h2;rw[MQ hk z I (by rw[zx hk z (by rw[sJ];simpa using E)];simpa using h2)]
def Fv(hk:Lk chain us dl){cnt ep:Nat}(z:ep<us.length):∀ws:List PW,(∀p,p∈ws->p.1.epoch<us.length)->
  (pick (judged c us cnt ep) ws).2.map cI=(Dv.sift c chain (us.length-1) ep (lW c us cnt) (ws.map cI)).2/\
  (match (Dv.sift c chain (us.length-1) ep (lW c us cnt) (ws.map cI)).1 with
   |.no=>(pick (judged c us cnt ep) ws).1=(0,Z)
   |.hold=>(pick (judged c us cnt ep) ws).1=(2,Z)
   |.got b=>∃v,(pick (judged c us cnt ep) ws).1=(3,M (b,v)))
 |[],_=>by simp[pick,Dv.sift]
 |b::r,h=>by
  obtain⟨i1,i2⟩:=Fv hk (cnt:=cnt) z r (λp hp=>h p (cZ _ hp));have E:judged c us cnt ep b=_:=EF (c:=c) hk (cnt:=cnt) z (h b dQ);rw[eP,Dv.sift,pick];by_cases I:lW c us cnt<(b.1.time:Int)
  .grind
  .rw[Zs I]at E⊢;by_cases h2:Dv.late c ep (lW c us cnt) b.1=aR
   .grind
   .rw[Zs h2]at E⊢;by_cases h3:Dv.holds c chain (us.length-1) ep (lW c us cnt) b.1=aR
    .grind
    .rw[Zs h3]at E⊢;by_cases h4:Dv.wrong c chain ep (lW c us cnt) b.1=aR
     .grind
     .grind
def Cm:Option PW->List (List UInt8)
 |some b=>b.1.txs
 |none=>[]
def pJ(c:Cf)(us:List PB)(dl:Nat->List (List UInt8))(x:DX):Lo:=⟨x.s.cnt,lW c us x.s.cnt,x.e,FQ us x.e,x.s'.sq,Cm x.ob,if x.s'.sq=0 then dl x.e else [],us.length-1⟩
structure Hs(c:Cf)(us:List PB)(h:Lo)(s:sD):Prop where
 number:h.number+1=s.cnt
 time:h.time+c.step=lW c us s.cnt
 epoch:h.epoch=s.ep
 seq:h.seq=s.sq
def Gy(hk:Lk chain us dl)(hs:Hs c us h s)(E:s.ep<us.length)(hw:1<=c.window)(z:∀p,p∈s.ws->p.1.epoch<us.length):
  (jO c us s.ws s.cnt s.ep).2.map cI=(Dv.draw c chain (us.length-1) h (s.ws.map cI)).2/\
  (match (jO c us s.ws s.cnt s.ep).1 with
   |none=>(Dv.draw c chain (us.length-1) h (s.ws.map cI)).1=Z
   |some (e,ob)=>(Dv.draw c chain (us.length-1) h (s.ws.map cI)).1=M (Dv.lay c chain (us.length-1) h e (Cm ob))):=by
 have I:s.cnt≠0:=by have:=hs.number;omega
 obtain⟨i1,i2⟩:=Fv (c:=c) hk (cnt:=s.cnt) E _ z;unfold jO Dv.draw;rw[Zs (by have:=hk.pos;omega),Zs I];rw[hs.epoch,hs.time];cases ho:(Dv.sift c chain (us.length-1) s.ep (lW c us s.cnt) (s.ws.map cI)).1 with
 |got b=>
  rw[ho]at i2;obtain⟨v,J⟩:=i2;rw[J];dsimp only;rw[ho];exact⟨i1,rfl⟩
 |hold=>
  grind
 |no=>
  rw[ho]at i2;rw[i2];dsimp only;rw[ho];by_cases R:((us.length-1:Nat):Int)<=(s.ep:Int)+c.window
  .grind
  .rw[ZD ⟨aA,aA⟩];dsimp only;rw[Zs R];refine⟨i1,?_⟩;unfold alone Cm;rw[hk.time _ (by omega:s.ep+1<us.length)]
def WO(hk:Lk chain us dl)(hs:Hs c us h x.s)(J:x.e<us.length)(I:x.s'=⟨x.s'.ws,x.s.cnt+1,x.e,kG x.s.cnt x.s.ep x.s.sq x.e⟩):Dv.lay c chain (us.length-1) h x.e (Cm x.ob)=pJ c us dl x/\Hs c us (pJ c us dl x) x.s':=by
 have R:x.s'.sq=kG x.s.cnt x.s.ep x.s.sq x.e:=by rw[I]
 have z:x.s'.cnt=x.s.cnt+1:=by rw[I]
 have E:x.s'.ep=x.e:=by rw[I]
 have Y:=hs.number;refine⟨?_,?_,?_,?_,?_⟩
 .unfold Dv.lay pJ;rw[R];unfold kG;rw[hs.number,hs.time,hs.epoch,hs.seq,hk.id _ J,hk.deps _ J];by_cases h2:x.e=x.s.ep
  .grind
  .grind
 .exact z.symm
 .rw[z,Fq];rfl
 .exact E.symm
 .rfl
inductive wZ(c:Cf)(us:List PB):sD->List DX->Prop
 |nil (s0:sD):wZ c us s0 []
 |cons {x:DX} {r:List DX}:jO c us x.s.ws x.s.cnt x.s.ep=(M (x.e,x.ob),x.s'.ws)->x.s'=⟨x.s'.ws,x.s.cnt+1,x.e,kG x.s.cnt x.s.ep x.s.sq x.e⟩->wZ c us x.s' r->wZ c us x.s (x::r)
def wZ.snoc{s0:sD}{pre:List DX}(h:wZ c us s0 pre):∀{x:DX},x.s=jQ s0 pre->jO c us x.s.ws x.s.cnt x.s.ep=(M (x.e,x.ob),x.s'.ws)->x.s'=⟨x.s'.ws,x.s.cnt+1,x.e,kG x.s.cnt x.s.ep x.s.sq x.e⟩->wZ c us s0 (pre++[x]):=by
 induction h with
 |nil s0=>
  intro x z h2 h3;have z:x.s=s0:=z;subst z;exact .cons h2 h3 (.nil _)
 |cons g1 g2 g3 ih=>
  intro x z h2 h3;exact .cons g1 g2 (ih z h2 h3)
def Steps.aaK(h:Steps c us s0 pre):wZ c us s0 pre:=by
 induction h with
 |nil=>exact .nil _
 |snoc _ h2 h3 h4 ih=>exact ih.snoc h2 h3 h4
structure Ok(c:Cf)(chain:List X2)(us:List PB)(T:Nat)(h:Lo)(s:sD):Prop where
 hs:Hs c us h s
 ep:s.ep<us.length
 ws:∀p,p∈s.ws->p.1.epoch<us.length/\p.1.place<=4294967296
 much:s.cnt+Dv.left chain (us.length-1) h (s.ws.map cI)<=T
 sq:s.sq<=s.cnt
def sU:∀p,p∈(jO c us ws cnt ep).2->p∈ws:=by
 intro p hp;have h2:=(qw (judged c us cnt ep) ws).2.1;unfold jO at hp;split at hp
 .exact hp
 .grind
def Ok.next(hk:Lk chain us dl)(hc:Dv.jS chain=aR)(hcf:Dv.jK c=aR)(o:Ok c chain us T h x.s)(Y:jO c us x.s.ws x.s.cnt x.s.ep=(M (x.e,x.ob),x.s'.ws))(h2:x.s'=⟨x.s'.ws,x.s.cnt+1,x.e,kG x.s.cnt x.s.ep x.s.sq x.e⟩):Dv.draw c chain (us.length-1) h (x.s.ws.map cI)=(M (pJ c us dl x),x.s'.ws.map cI)/\x.e<us.length/\Ok c chain us T (pJ c us dl x) x.s':=by
 have hw:1<=c.window:=by
  unfold Dv.jK at hcf;simp only[Z3]at hcf;omega
 obtain⟨J,I⟩:=Gy hk o.hs o.ep hw (λp hp=>(o.ws p hp).1);rw[Y]at J I;dsimp only at J I;have hp:=hk.pos;have hl:=hk.len;have hd:Dv.draw c chain (us.length-1) h (x.s.ws.map cI)=(M (Dv.lay c chain (us.length-1) h x.e (Cm x.ob)),x.s'.ws.map cI):=Prod.ext I J.symm;have hs:=Dv.yG c chain _ hc hcf aA (by rw[o.hs.epoch];have:=o.ep;omega) hd
 have R:x.e<us.length:=by
  have:=hs.2.2.1;simp only[Dv.lay]at this;omega
 obtain⟨e1,e2⟩:=WO hk o.hs R h2;rw[e1]at hd hs;have z:x.s'.cnt=x.s.cnt+1:=by rw[h2]
 have E:x.s'.sq=kG x.s.cnt x.s.ep x.s.sq x.e:=by rw[h2]
 refine⟨hd,R,e2,by rw[h2];exact R,λp hp=>o.ws p ?_,?_,?_⟩
 .have:=sU (c:=c) (us:=us) (ws:=x.s.ws) (cnt:=x.s.cnt) (ep:=x.s.ep) p;rw[Y]at this;exact this hp
 .have hm:=o.much;unfold Dv.left at hm⊢;rw[z];have:=hs.2.2.2.2.2.2.2;omega
 .rw[E,z];have:=o.sq;unfold kG;split<;>omega
def wZ.ok(hk:Lk chain us dl)(hc:Dv.jS chain=aR)(hcf:Dv.jK c=aR)(f:wZ c us s0 pre):∀{h:Lo},Ok c chain us T h s0->∃z,Ok c chain us T z (jQ s0 pre)/\z=(h::pre.map (pJ c us dl)).getLastD default:=by
 induction f with
 |nil s0=>
  intro h o;exact⟨h,o,rfl⟩
 |@cons x r h1 h2 _ ih=>
  intro h o;obtain⟨z,I,E⟩:=ih (o.next hk hc hcf h1 h2).2.2;exact⟨z,I,by rw[E];simp⟩
def wZ.draws(hk:Lk chain us dl)(hc:Dv.jS chain=aR)(hcf:Dv.jK c=aR)(f:wZ c us s0 pre):∀{h:Lo}(n:Nat),Ok c chain us T h s0->(jO c us (jQ s0 pre).ws (jQ s0 pre).cnt (jQ s0 pre).ep).1=Z->pre.length<n->Dv.draws c chain (us.length-1) n h (s0.ws.map cI)=(pre.map (pJ c us dl),(jO c us (jQ s0 pre).ws (jQ s0 pre).cnt (jQ s0 pre).ep).2.map cI):=by
 have hw:1<=c.window:=by
  unfold Dv.jK at hcf;simp only[Z3]at hcf;omega
 induction f with
 |nil s0=>
  intro h n o z E;cases n with
  |zero=>simp at E
  |succ n=>
   obtain⟨J,I⟩:=Gy hk o.hs o.ep hw (λp hp=>(o.ws p hp).1);have z:(jO c us s0.ws s0.cnt s0.ep).1=Z:=z;rw[z]at I;dsimp only at I;have hd:Dv.draw c chain (us.length-1) h (s0.ws.map cI)=(Z,(jO c us s0.ws s0.cnt s0.ep).2.map cI):=Prod.ext I J.symm;rw[Dv.draws,hd];rfl
 |@cons x r h1 h2 _ ih=>
  intro h n o z E;cases n with
  |zero=>simp at E
  |succ n=>
   obtain⟨hd,R,o'⟩:=o.next hk hc hcf h1 h2;have:=ih n o' z (by simpa using E);rw[Dv.draws,hd];dsimp only;rw[this];rfl
def Steps.draws(hk:Lk chain us dl)(hc:Dv.jS chain=aR)(hcf:Dv.jK c=aR)(f:wZ c us s0 pre)(o:Ok c chain us T h s0)(z:(jO c us (jQ s0 pre).ws (jQ s0 pre).cnt (jQ s0 pre).ep).1=Z):Dv.draws c chain (us.length-1) (Dv.left chain (us.length-1) h (s0.ws.map cI)+1) h (s0.ws.map cI)=(pre.map (pJ c us dl),(jO c us (jQ s0 pre).ws (jQ s0 pre).cnt (jQ s0 pre).ep).2.map cI):=by
 rw[Dv.xw c chain (us.length-1) hc hcf (by have:=hk.len;have:=hk.pos;omega) _ (Dv.left chain (us.length-1) h (s0.ws.map cI)+1+pre.length) h _ (by rw[o.hs.epoch];have:=o.ep;omega) aA aA];exact f.draws hk hc hcf _ o z aA
def Lk.get(hk:Lk chain us dl){j:Nat}{p:PB}(h:us[j]? =M p):p.1=(chain[j]!).id/\p.2.1=(chain[j]!).time:=by have z:=(aN.1 h).1;exact⟨(Hu h).symm.trans (hk.id j z),(uT h).symm.trans (hk.time j z)⟩
def Ok.sane(hk:Lk chain us dl)(hc:Dv.jS chain=aR)(hcf:Dv.jK c=aR)(Y:T<4294967296)(o:Ok c chain us T h s):yS c us s.ws s.cnt s.ep:=by unfold Dv.jK at hcf;simp only[Z3]at hcf;have I:=(Dv.jW hc).2.1;have R:=hk.len;have z:=o.much;unfold Dv.left at z;rw[bC]at z;refine⟨λp hp=>?_,aA,aA,aA,aA,aA,aA,o.ep,o.ws⟩;obtain⟨j,E⟩:=jw.1 hp;have J:=(aN.1 E).1;have:=Dv.Gi hc (i:=j) aA;rw[(hk.get E).2];omega
def aav(hk:Lk chain us dl)(hc:Dv.jS chain=aR)(hcf:Dv.jK c=aR)(I:T<4294967296)(o:Ok c chain us T h s0):Good c us s0:=by intro pre hp;obtain⟨z,E,_⟩:=hp.aaK.ok hk hc hcf o;have J:=E.hs.number;have h2:=E.much;have h3:=E.sq;exact⟨λ_=>E.sane hk hc hcf I,aA,λe=>aA⟩
def Dl(z:us.length=1)(ws:List PW):jO c us ws 0 0=(M (0,Z),ws):=by unfold jO;rw[Zs aA,ZD rfl]
def BA(J:us.length=1)(f:wZ c us ⟨ws,0,0,0⟩ pre):pre=[]\/∃x r,pre=x::r/\x.s=⟨ws,0,0,0⟩/\x.e=0/\x.ob=Z/\x.s'=⟨ws,1,0,0⟩/\wZ c us ⟨ws,1,0,0⟩ r:=by
 generalize z:(⟨ws,0,0,0⟩:sD)=s at f;cases f with
 |nil=>exact bE rfl
 |@cons x r h1 h2 h3=>
  right;have hs:=z;clear z;rw[<-hs]at h1 h2;rw[Dl J]at h1;simp only[dJ,aK]at h1;obtain⟨⟨E,R⟩,I⟩:=h1;rw[<-E,<-I]at h2;have h2:x.s'=⟨ws,1,0,0⟩:=h2;rw[h2]at h3;exact⟨x,r,rfl,rfl,E.symm,R.symm,h2,h3⟩
def Qg(hk:Lk chain us dl)(E:us.length=1)(z:x.s=⟨ws,0,0,0⟩)(h2:x.e=0)(h3:x.ob=Z)(h4:x.s'=⟨ws,1,0,0⟩):pJ c us dl x=Dv.first (chain[0]!):=by
 unfold pJ Dv.first;rw[z,h2,h3,h4]
 have ht:lW c us 0=Ag us 0:=by
  unfold lW Ag;simp
 dsimp only;rw[ZD rfl,ht,hk.id 0 aA,hk.time 0 aA,hk.deps 0 aA,E];rfl
def Dy(hk:Lk chain us dl)(E:us.length=1)(z:∀p,p∈ws->p.1.epoch<us.length/\p.1.place<=4294967296):Ok c chain us (1+ws.length) (Dv.first (chain[0]!)) ⟨ws,1,0,0⟩:=by
 refine⟨⟨rfl,?_,rfl,rfl⟩,by show 0<_;omega,z,?_,aC⟩
 .unfold Dv.first lW;have:=hk.time 0 aA;unfold Ag at this;rw[this];simp
 .unfold Dv.left Dv.first;rw[E];simp
def Px(hk:Lk chain us dl)(hc:Dv.jS chain=aR)(hcf:Dv.jK c=aR)(J:us.length=1)(R:ws.length<4294967000)(E:∀p,p∈ws->p.1.epoch<us.length/\p.1.place<=4294967296):Good c us ⟨ws,0,0,0⟩:=by
 intro pre hp;obtain rfl|⟨x,r,rfl,Y,h2,h3,h4,h5⟩:=BA J hp.aaK
 .refine⟨λ_=>?_,by show 0<_;omega,λ_=>rfl⟩;have:=(Dy (c:=c) hk J E).sane hk hc hcf aA;exact⟨this.times,this.step,this.drift,this.window,by show 0<_;omega,this.len,this.wlen,this.ep,this.batch⟩
 .obtain⟨z,I,_⟩:=h5.ok hk hc hcf (Dy (c:=c) hk J E)
  have e:jQ ⟨ws,0,0,0⟩ (x::r)=jQ ⟨ws,1,0,0⟩ r:=by
   unfold jQ;rw[List.foldl_cons,h4]
  rw[e];have Y:=I.hs.number;have h2:=I.much;have h3:=I.sq;exact⟨λ_=>I.sane hk hc hcf aA,aA,λe=>aA⟩
end
end
open Go.RowKit Go.Joins Go.Shelf
section
variable {XS M':Nat->Prop}{W W' w w':U}{v vu vo vw v0:X}{n kb nb cnt ep sq e s B0 cap:Nat}{c:Cf}{us:List PB}{dl:Nat->List (List UInt8)}{ws:List PW}{xs:List X}{s0:sD}{pre:List DX}{x:DX}{a:Option eM}
abbrev PL:=Lo×X×X
variable {p:PL}{ps0 ps:List PL}
def jJ(p:PL):List X:=[N ab p.1.number,N ab p.1.time,N ab p.1.epoch,N ab p.1.id,N ab p.1.seq,p.2.1,p.2.2,N ab p.1.at_]
structure LAt(XS:Nat->Prop)(W:U)(p:PL):Prop where
 txs:kQ W p.2.1 p.1.txs
 deps:kQ W p.2.2 p.1.deps
 ntxs:∀g,p.2.1.ownBlock=M g->¬XS g
 ndeps:∀g,p.2.2.ownBlock=M g->¬XS g
def QT(XS:Nat->Prop)(W:U):Prop:=∀(k:Nat)(cs:Array X)(z:Nat×Nat),W.heap[k]? =M (aG cs 9 z)->¬XS k
def kQ.jM{l:List (List UInt8)}(h:kQ W v l)(hc:jI XS W W')(I:QT XS W):kQ W' v l:=Row.jM h hc (λg J=>by
 obtain⟨E,z⟩:=Row.obj h J;exact I g E _ z)
def LAt.jM(h:LAt XS W p)(hc:jI M' W W')(z:QT M' W):LAt XS W' p:=⟨h.txs.jM hc z,h.deps.jM hc z,h.ntxs,h.ndeps⟩
def LAt.own(h:LAt XS W p)(hc:jI XS W W'):LAt XS W' p:=⟨Row.jM h.txs hc h.ntxs,Row.jM h.deps hc h.ndeps,h.ntxs,h.ndeps⟩
def o8(XS:Nat->Prop)(W:U):Prop:=∀(k:Nat)(cs:Array X)(t:Nat)(z:Nat×Nat),W.heap[k]? =M (aG cs t z)->¬XS k
def o8.str(h:o8 XS W):QT XS W:=λk cs z hk=>h k cs _ z hk
def lH{A B:U}{row:Option Nat}(E:A.grownBy B row)(z:∀r,row=M r->n<=r/\∃o:nL,A.heap[r]? =M o/\o.isCells=aL):∃XS,jI XS A B/\o8 XS A/\∀k,k<n->¬XS k:=
 ⟨λk=>row=M k,.grown E,λk cs t I hk e=>(by
  obtain⟨_,o,ho,hc⟩:=z k e;rw[hk]at ho;cases ho;cases hc),λk hk e=>(by have:=(z k e).1;omega)⟩
def rH.nU(h:rH w kb c vu us dl nb vo vw ws cnt ep sq)(hc:jI XS w w')(z:o8 XS w):rH w' kb c vu us dl nb vo vw ws cnt ep sq:=
 h.jM hc (z _ _ _ _ h.obj) (λg I=>by obtain⟨E,e⟩:=h.upper.obj I;exact z g _ _ _ e) (λg I=>by obtain⟨E,e⟩:=h.wait.obj I;exact z g _ _ _ e) z.str
def uw(h:Row w e s v n xs)(hc:jI XS w w')(E:o8 XS w):Row w' e s v n xs:=h.jM hc (λg I=>by
 obtain⟨z,e⟩:=h.obj I;exact E g _ _ _ e)
def vP{b t:Nat}(h:rp w b t v)(hc:jI XS w w')(z:o8 XS w):rp w' b t v:=(hc.block b h.lt (z b _ _ _ h)).trans h
def Typed(t E:Nat)(XS:Nat->Prop)(W:U):Prop:=∀(k:Nat)(cs:Array X)(u:Nat)(z:Nat×Nat),W.heap[k]? =M (aG cs u z)->XS k->u=t\/u=E
def Typed.XD(h:Typed 52 44 XS W):QT XS W:=λk cs z hk e=>by
 rcases h k cs _ z hk e with h|h<;>revert h<;>decide
def rH.typed(h:rH w kb c vu us dl nb vo vw ws cnt ep sq)(hc:jI XS w w')(z:Typed 52 44 XS w):rH w' kb c vu us dl nb vo vw ws cnt ep sq:=
 h.jM hc (λe=>by rcases z _ _ _ _ h.obj e with h|h<;>revert h<;>decide) (λg I e=>by obtain⟨E,q⟩:=h.upper.obj I;rcases z g _ _ _ q e with h|h<;>revert h<;>decide) (λg I e=>by obtain⟨E,q⟩:=h.wait.obj I;rcases z g _ _ _ q e with h|h<;>revert h<;>decide) z.XD
section
variable {F:Fence}{k:Nat}{P:cU}(w:U){ops:Array ij}{rest:List ij}{o:ij}{a:Act}{Q:p9->Act->U->Prop}
def vH(ac:o.guard=Z)(s x:jN)(t:cG)(ho:o.op=.call { callee:=.builtin .append,args:=#[s,x],argTypes:=#[t,t] })(e:cG)(i:TypeInfo)(z:X)(size bytes:Nat)(ht:P.underlying t=M (.slice e))(hi:P.info? e=M i)(hz:i.zero=M z)(J:i.size=size)(ah:i.bytes=bytes)(ai:z.cells.size=size)(ag:0<size)(v:X)(n:Nat)(xs:List X)(hs:a.eval s=v)(Y:Row w e size v n xs)(ad:eM)(m c:Nat)(E:List X)(hx:a.eval x=aH (M ad) m c)(hm:0<m)(hl:E.length=m*size)(R:∀j u,E[j]? =M u->w.cell? (ad.add j)=M u)(h1:∀u∈E,u.oneCell'=aR)(af:n+m<=maxLen)(I:(n+m)*bytes<=140737488355328)(h:∀g off cap w',Row w' e size (aH (M ⟨g,off,Z⟩) (n+m) cap) (n+m) (xs++E)->Grew v g w w'->wpListIn F k P ops Q rest (a.put o.dst (aH (M ⟨g,off,Z⟩) (n+m) cap)) w'):wpListIn F k P ops Q (o::rest) a w:=by
 refine wpListIn_plain ac λK hK=>?_;obtain⟨v',w',hr,h2,⟨g,off,cap,rfl⟩,h4⟩:=Y.append (P:=P) t o.type i z bytes ht hi hz J ah ai ag ad m c E hm hl R h1 af I;unfold Oper.wpIn;refine⟨?_,?_⟩
 .simp[Oper.about,ho,resolve,Target.leads,Sem.run_pure]
 .rw[Oper.semAt_plain F _ _ (by rw[ho];intro c ae;cases ae)];simp[bN,ho,resolve,invoke,builtin,hs,hx,hr,Result.andThen];refine hK _ _ (h g off cap w' h2 ?_);obtain⟨e1,e2,e3⟩|⟨e1,e2,e3⟩:=h4
  .have aa:v.ownBlock=M g:=e1.symm;exact bE ⟨aa,by rw[<-aa];exact e2,e3⟩
  .exact cD ⟨by simpa[cV]using e1,e2,e3⟩
end
def Grew.others{g:Nat}(h:Grew v g w w')(z:Row w e s v n xs):KeepsOthers w w':=⟨h.jM.size,λk o hk ho=>by
 refine(h.jM.block k (jE hk) (λI=>?_)).trans hk;obtain⟨E,hc⟩:=z.obj I;rw[hk]at hc;cases hc;cases ho⟩
def MF{ws':List PW}{b:PW}(h:jO c us ws cnt ep=(M (e,M b),ws')):b∈ws:=by
 obtain⟨z,_,_⟩:=qw (judged c us cnt ep) ws;unfold jO at h;split at h
 .cases h
 .split at h
  .cases h
  .split at h
   .rename_i R E;cases h;obtain z|z|⟨J,I,z⟩:=z
    .rw[z]at E;cases E
    .rw[z]at E;cases E
    .rw[z]at E;cases E;exact I
   .split at h<;>cases h
def LW(h:Steps c us s0 pre):(∀p,p∈(jQ s0 pre).ws->p∈s0.ws)/\(jQ s0 pre).cnt=s0.cnt+pre.length:=by
 induction h with
 |nil=>exact⟨λ_ h=>h,rfl⟩
 |@snoc pre x _ h2 h3 h4 ih=>
  rw[wE];rw[<-h2]at ih;refine⟨λp hp=>ih.1 p ?_,?_⟩
  .have:=sU (c:=c) (us:=us) (ws:=x.s.ws) (cnt:=x.s.cnt) (ep:=x.s.ep) p;rw[h3]at this;exact this hp
  .rw[h4,aS,iF]
   show x.s.cnt+1=_
   rw[ih.2];omega
def Yw(h:Steps c us s0 (pre++[x])){b:PW}(E:x.ob=M b):b∈s0.ws/\x.s.cnt=s0.cnt+pre.length:=by
 generalize z:pre++[x]=l at h;cases h with
 |nil=>simp at z
 |snoc h1 h2 h3 h4=>
  obtain⟨rfl,e⟩:=oi z rfl;cases e;rw[E]at h3;have:=LW h1;rw[<-h2]at this;exact⟨this.1 b (MF h3),this.2⟩
def Tq(h:Steps c us s0 (pre++[x])):Steps c us s0 pre:=by
 generalize z:pre++[x]=l at h;cases h with
 |nil=>simp at z
 |snoc h1 h2 h3 h4=>
  obtain⟨rfl,e⟩:=oi z rfl;cases e;exact h1
structure SI(c:Cf)(us:List PB)(dl:Nat->List (List UInt8))(XS:Nat->Prop)(B0:Nat)(v0:X)(ps0:List PL)(w:U)(pre:List DX)(W:U)(ps:List PL)(a:Option eM)(cap:Nat):Prop where
 los:ps.map cI=pre.map (pJ c us dl)
 box:rp W B0 44 (.slice a (ps0++ps).length cap)
 row:Row W 52 8 (.slice a (ps0++ps).length cap) (ps0++ps).length ((ps0++ps).flatMap jJ)
 at_:∀p,p∈ps0++ps->LAt XS W p
 own:∀g,(aH a (ps0++ps).length cap).ownBlock=M g->v0.ownBlock=M g\/w.heap.size<=g
 jM:jI (λk=>XS k\/v0.ownBlock=M k) w W
 big:B0<W.heap.size
def SI.nU(h:SI c us dl XS B0 v0 ps0 w pre W ps a cap)(hc:jI M' W W')(E:o8 M' W)(z:∀k,k<w.heap.size->¬M' k):SI c us dl XS B0 v0 ps0 w pre W' ps a cap:=
 ⟨h.los,vP h.box hc E,uw h.row hc E,λp hp=>(h.at_ p hp).jM hc E.str,h.own,h.jM.trans hc (λk hk e=>Xs e (z k hk)),aP h.big hc.size⟩
def SI.turn(h:SI c us dl XS B0 v0 ps0 w pre W ps a cap)(hc:jI XS W W')(R:¬XS B0)(I:∀g,v0.ownBlock=M g->¬XS g)(z:∀k,XS k->k<w.heap.size):SI c us dl XS B0 v0 ps0 w pre W' ps a cap:=
 ⟨h.los,(hc.block B0 h.box.lt R).trans h.box,h.row.jM hc (λg J E=>by
  obtain q|q:=h.own g J
  .exact I g q E
  .have:=z g E;omega),λp hp=>(h.at_ p hp).own hc,h.own,h.jM.trans hc (λk _ e=>bE e),aP h.big hc.size⟩
def SI.more(h:SI c us dl XS B0 v0 ps0 w pre W ps a cap)(hp:p.1=pJ c us dl x)(Y:LAt XS W p){a':Option eM}{z:Nat}(hc:jI (λk=>(aH a (ps0++ps).length cap).ownBlock=M k\/k=B0) W W')(J:rp W' B0 44 (.slice a' ((ps0++ps).length+1) z))(R:Row W' 52 8 (.slice a' ((ps0++ps).length+1) z) ((ps0++ps).length+1) ((ps0++ps).flatMap jJ++jJ p))(I:∀g,(aH a' ((ps0++ps).length+1) z).ownBlock=M g->(aH a (ps0++ps).length cap).ownBlock=M g\/w.heap.size<=g)(hB:w.heap.size<=B0):Typed 52 44 (λk=>(aH a (ps0++ps).length cap).ownBlock=M k\/k=B0) W/\SI c us dl XS B0 v0 ps0 w (pre++[x]) W' (ps++[p]) a' z:=by
 have hT:Typed 52 44 (λk=>(aH a (ps0++ps).length cap).ownBlock=M k\/k=B0) W:=by
  rintro k cs u fz hk (e|rfl)
  .obtain⟨aa,q⟩:=h.row.obj e;rw[hk]at q;simp at q;exact bE q.2.1
  .have q:=h.box;unfold rp at q;rw[hk]at q;simp at q;exact cD q.2.1
 have hl:(ps0++(ps++[p])).length=(ps0++ps).length+1:=aF
 refine⟨hT,⟨by rw[bJ,bJ,h.los];simp[hp],by rw[hl];exact J,?_,λq E=>?_,λg hg=>?_,?_,aP h.big hc.size⟩⟩
 .rw[hl,<-fM,iw];simpa using R
 .rw[<-fM]at E;obtain E|E:=dM.1 E
  .exact(h.at_ q E).jM hc hT.XD
  .rw[dK.1 E];exact Y.jM hc hT.XD
 .rw[hl]at hg;obtain q|q:=I g hg
  .exact h.own g q
  .exact cD q
 .refine h.jM.trans hc (λk hk e=>?_);obtain e|e:=e
  .obtain q|q:=h.own k e
   .exact cD q
   .omega
  .omega
end
open Go.RowKit
section
variable {L:Array Bool}{i k:Nat}{a:Act}{v:X}
def unl(L:Array Bool):Nat:=L.toList.countP (λb=>!b)
def Ry(z:L[i]? =M aL):0<unl L:=by obtain⟨h,e⟩:=dY.1 z;exact List.countP_pos_iff.2 ⟨aL,by rw[<-e];exact Array.getElem_mem_toList h,rfl⟩
def ZC(z:L[i]? =M aL):unl (L.setIfInBounds i aR)<unl L:=by
 have hp:=Ry z;obtain⟨h,e⟩:=dY.1 z;unfold unl at hp⊢;rw[Array.toList_setIfInBounds,List.countP_set (by simpa using h)];have E:L.toList[i]'(by simpa using h)=aL:=by simpa using e
 simp only[E,Bool.not_false,if_true,Bool.not_true,bU,if_false];omega
def Ae{md:Region.Mode}{ops:Array ij}(h:i∈fR md ops L):L[i]? =M aL:=by
 unfold fR at h;rw[fU,dF]at h;have z:=h.2.1;rw[fD]at z;cases E:L[i]? with
 |none=>rw[E]at z;simp at z
 |some b=>
  rw[E]at z;simp at z;rw[z]
section
variable {F:Fence}{n:Nat}{P:cU}{md:Region.Mode}{ops:Array ij}{Q:p9->Act->U->Prop}
def wpOpIn_mono{K E:Act->U->Prop}{w:U}(h:∀a w,K a w->E a w)(z:wpOpIn F n P ops Q i K a w):wpOpIn F n P ops Q i E a w:=by
 unfold wpOpIn at z⊢;cases ho:ops[i]? with
 |none=>rw[ho]at z;exact h _ _ z
 |some o=>
  rw[ho]at z;dsimp only at z⊢;split
  .rename_i hw;rw[ZD hw]at z;exact Oper.wpIn_mono h z
  .rename_i hw;rw[Zs hw]at z;exact⟨z.1,h _ _ z.2⟩
def uJ(Inv:Array Bool->Act->U->Prop)(z:∀L a w,Inv L a w->fR md ops L=[]->Q .normal a w)
  (E:∀L a w i,Inv L a w->i∈fR md ops L->wpOpIn F n P ops Q i (λa' w'=>Inv (L.setIfInBounds i aR) a' w') a w):
  ∀(I:Nat)(L:Array Bool)(a:Act)(w:U),unl L<=I->Inv L a w->wpAnyIn F n P md ops Q I L a w
 |0,L,a,w,hf,hI=>by
  have J:fR md ops L=[]:=by
   cases h:fR md ops L with
   |nil=>rfl
   |cons i r=>
    have:=Ry (Ae (i:=i) (by rw[h];exact dQ));omega
  exact⟨J,z L a w hI J⟩
 |f+1,L,a,w,hf,hI=>⟨λh=>z L a w hI h,λi R=>wpOpIn_mono (λa' w' h=>uJ Inv z E f _ a' w' (by have:=ZC (Ae R);omega) h) (E L a w i hI R)⟩
end
section
variable {l n:Nat}{P:cU}{ops:Array ij}{Q:p9->Act->U->Prop}{i:Nat}{o:ij}{K:Act->U->Prop}{a:Act}{w w':U}
def lZ(ho:ops[i]? =M o)(I:o.guard=Z)(hd:∀c,o.op≠.defer c)(z:(bN a.eval o).run P w=.ok (.value v) w')(E:K (a.put o.dst v) w'):wpOpIn (Fence.wide.inRound l) n P ops Q i K a w:=by unfold wpOpIn;rw[ho];dsimp only;rw[ZD (by simp[cP,I])];refine⟨λ_ _=>trivial,?_⟩;rw[Oper.semAt_eq _ _ _ hd,z];exact E
def LC(ho:ops[i]? =M o)(I:o.guard=Z)(hd:∀c,o.op≠.defer c)(z:(bN a.eval o).run P w=.ok .skip w')(E:K (a.put o.dst aE) w'):wpOpIn (Fence.wide.inRound l) n P ops Q i K a w:=by unfold wpOpIn;rw[ho];dsimp only;rw[ZD (by simp[cP,I])];refine⟨λ_ _=>trivial,?_⟩;rw[Oper.semAt_eq _ _ _ hd,z];exact E
end
def I9{d:Nat}:(a.put (M d) v).tmps[k]? =if d=k then(if d<a.tmps.size then M v else Z)else a.tmps[k]?:=by unfold Act.put;rw[aV]
def kD(h:a.tmps[k]? =M v):a.eval (.tmp k)=v:=by
 show a.tmps.getD k aE=v
 rw[fD,h];rfl
end
end Hm
section
open Go.RowKit Go.Joins Go.Shelf
attribute [local go_sem] Oper.semAt_some
def XE(d:Nat)(s:ByteArray)(z:List Wd)(x:Wd)(lo:Nat)(W:U):Prop:=XY (d+1) z x lo W/\∃p,Im.nJ (Im.read Im.body d) s.data.toList ((z++[x]).map Wd.i) p
def XE.turn(d:Nat)(s:ByteArray)(z:List Wd)(x:Wd)(lo:Nat)(W W':U)(h:∀k,lo<=k->W'.heap[k]? =W.heap[k]?)(hs:↑W'=W.heap.size)(E:XE d s z x lo W):XE d s z x lo W':=⟨XY.turn _ z x lo W W' h hs E.1,E.2⟩
def Nh(d:Nat)(hf:FirstSaid d)(s:ByteArray)(ac:Nat){sB:Nat}(dB:Nat)(w:U)(hs:s.size<=16777216)(bj:ac+d=9)(hH:lJ w)(h0:1<w.heap.size)(ay:w.cell? ⟨sB,0,Z⟩=M (bB s))(a7:w.cell? ⟨dB,0,Z⟩=M (N ab ac))(bg:sB<↑w)(hdl:dB<↑w):Gives PQ 140 #[aD (M ⟨sB,0,Z⟩),aD (M ⟨dB,0,Z⟩)] Wd.encs (λk=>k=1\/k=sB\/k=dB) (XE d s) (Done d s) (Left d s) w:=by
 intro l J Jx W hW av aw;have Hf:cH _:=hf;have HY:cH _:=av;have bb:cH _:=aw;clear hf av aw;refine callsIn_of_wp (fq Tryz.func140 rfl) rfl trivial ?_ rfl;simp only[Tryz.ntmps140,dR,aU,bY,Nat.reduceAdd,Nat.reduceSub,dH,dG,dU,dI,dS,dN];gi_wp2
 gi_loopw [4] (λt wr=>∃(R:List Wd)(W0:U)(p:Nat),t=N ab p/\cH (Im.nJ (Im.read Im.body d) s.data.toList (R.map Wd.i) p/\rO R=p/\p<=s.size/\R.length<=p/\J R W0/\Below ↑W0 W0 wr/\lJ wr/\sB<↑wr/\dB<↑wr)/\wr.cell? ⟨sB,0,Z⟩=M (bB s)/\wr.cell? ⟨dB,0,Z⟩=M (N ab ac))
  (λt wr=>s.size-(intOf t).toNat)
 case atStart=>
  have:=hW.size;exact⟨[],W,0,rfl,⟨Im.nJ.nil,rfl,dL _,jB,bb.out,aJ _ _,hH.below hW h0,aA,aA⟩,(hW.cell (p:=⟨sB,0,Z⟩) bg).trans ay,(hW.cell (p:=⟨dB,0,Z⟩) hdl).trans a7⟩
 case round=>
  obtain⟨R,W0,p,rfl,Hr,c0,c1⟩:=hrel;clear ay a7;by_cases ai:p<s.size
  .have a9:(p:Int)<s.size:=by omega
   have bh:(s.extract p s.size).size<=16777216:=aF
   have an:(s.extract p s.size).data.toList=s.data.toList.drop p:=by rw[ext_list,eH (by rw[<-bD];omega)]
   have E:=λW hW=>Hf.out _ ac W bh bj (Hr.out.2.2.2.2.2.2.1.below hW Hr.out.2.2.2.2.2.2.1.pos);have z:=aJ ↑wr wr;obtain⟨_,_,_,_,_,_,_,bk,bd⟩:=Hr.out;have bo:sB≠wr.heap.size:=aA
   have bq:dB≠wr.heap.size:=aA
   rw[an]at E;generalize hC:Im.read Im.body d (s.data.toList.drop p)=C at E;have ae:cH _:=E;have HC:cH _:=hC;clear E hC an;gi_wp2;refine wpIn_wide.2 ?_;cases C with
   |none=>
    go_cut [5,6,7] (λv5 v6 v7 wx=>v7=cK aL/\Below ↑wr wr wx)
    case first=>
     go_region_with (go_at_call 141;refine(ae.out _ ?_).mono ?_;(first|exact z|exact z.drew|exact below_drewN z _|exact z.alloc jB _|exact below_drewN (z.alloc jB _) _|exact(below_drewN z _).alloc jB _);rintro e w3 ⟨ap,af⟩;obtain rfl:=ap;have I:Below ↑wr wr w3:=Below.trans (by first|exact z|exact z.drew|exact below_drewN z _|exact z.alloc jB _|exact below_drewN (z.alloc jB _) _|exact(below_drewN z _).alloc jB _) (af.mono aC);(try (have hz:w3.heap[wr.heap.size]? =M (aG #[cK aL,bB ⟨#[]⟩,aH Z 0 0] 164 (0,0)):=(af.block _ aC).trans (by first|exact cT _ _|(have:=cT (wr.drewN 0) (aG #[cK aL,bB ⟨#[]⟩,aH Z 0 0] 164);simpa using this));have z0:w3.cell? ⟨↑wr,0,Z⟩=M (cK aL):=(by rw[aI hz];rfl);have z1:w3.cell? ⟨↑wr,1,Z⟩=M (bB ⟨#[]⟩):=(by rw[aI hz];rfl);have z2:w3.cell? ⟨↑wr,2,Z⟩=M (aH Z 0 0):=(by rw[aI hz];rfl);have fz:=aQ hz)))
     all_goals
      go_wp2_with fail;go_meet;refine⟨rfl,?_⟩
      first
       |exact I.alloc I.size _
       |exact below_drewN (I.alloc I.size _) _
       |exact((I.setCell jB _).setCell jB _).setCell jB _
       |exact below_drewN (((I.setCell jB _).setCell jB _).setCell jB _) _
    case rest=>
     obtain⟨rfl,aa⟩:=hcut;gi_wp2;refine cM (pC rfl _ _ _) rfl ?_;obtain⟨he,aj,az,a6,hJ,Y,ah,_,_⟩:=Hr.out;exact⟨⟨_,rfl⟩,bE ⟨R,W0,⟨p,he,aj,cD ⟨ai,HC.out⟩⟩,hJ,Y.trans (aa.mono Y.size)⟩⟩
   |some x=>
    obtain⟨i,n⟩:=x;have ao:=Im.rZ Im.oZ d _ _ _ HC.out;rw[dW,<-bD]at ao;have bs:=ao.1;have bn:p+n<=s.size:=aA
    clear ao;obtain⟨IB,aq⟩:∃IB:ByteArray,(⟨i.bytes.toArray⟩:ByteArray)=IB:=⟨_,rfl⟩
    go_cut [5,6,7] (λv5 v6 v7 wx=>∃(b:Nat)(a:Option eM)(cap:Nat),v5=aD (M ⟨b,0,Z⟩)/\v6=N ab n/\v7=cK aR/\Below ↑wr wr wx/\K3 wx b 0 (.bool i.list) (bB IB) (.slice a i.kids.length cap)/\Tr wx (d+1) ↑wr ↑wx (.bool i.list) (bB IB) (.slice a i.kids.length cap) i)
    case first=>
     go_region_with (go_at_call 141;refine(ae.out _ ?_).mono ?_;(first|exact z|exact z.drew|exact below_drewN z _|exact z.alloc jB _|exact below_drewN (z.alloc jB _) _|exact(below_drewN z _).alloc jB _);rintro e w3 ⟨ap,af⟩;obtain⟨a3,am,rfl,ak⟩:=ap;simp only at ak⊢;rw[aq]at ak⊢;have au:cH (Tr _ _ _ _ _ _ _ _):=ak;clear ak;have I:Below ↑wr wr w3:=Below.trans (by first|exact z|exact z.drew|exact below_drewN z _|exact z.alloc jB _|exact below_drewN (z.alloc jB _) _|exact(below_drewN z _).alloc jB _) (af.mono aC);(try (have hz:w3.heap[wr.heap.size]? =M (aG #[cK aL,bB ⟨#[]⟩,aH Z 0 0] 164 (0,0)):=(af.block _ aC).trans (by first|exact cT _ _|(have:=cT (wr.drewN 0) (aG #[cK aL,bB ⟨#[]⟩,aH Z 0 0] 164);simpa using this));have z0:w3.cell? ⟨↑wr,0,Z⟩=M (cK aL):=(by rw[aI hz];rfl);have z1:w3.cell? ⟨↑wr,1,Z⟩=M (bB ⟨#[]⟩):=(by rw[aI hz];rfl);have z2:w3.cell? ⟨↑wr,2,Z⟩=M (aH Z 0 0):=(by rw[aI hz];rfl);have fz:=aQ hz)))
     all_goals
      go_wp2_with fail;go_meet
      first
       |exact⟨_,a3,am,rfl,rfl,rfl,GZ I au.out aC⟩
       |exact⟨_,a3,am,rfl,rfl,rfl,RG I au.out aC hz⟩
    case rest=>
     obtain⟨b,a,cap,rfl,rfl,rfl,aa,⟨k0,k1,k2⟩,ag⟩:=hcut;rw[fJ]at k1 k2;rw[<-aq]at ag;obtain⟨he,aj,az,a6,hJ,Y,ah,_,_⟩:=Hr.out;have ba:=Y.trans (aa.mono Y.size);obtain⟨fn,tmps,assign,body,hy,hR⟩:=HY.out R ⟨p+n,i,a,cap⟩ W0 wc hJ ba ⟨⟨aA,ag.wider Y.size jB⟩,p+n,by rw[bJ];exact Im.nJ.snoc he (by rw[<-bD];exact ai) HC.out⟩;simp only[Wd.encs,Int.natCast_add]at hy;rw[aq]at hy;have HR:cH _:=hR;have bu:cH _:=ag;clear hR ag;have bp:(p:Int)+(n:Int)<=16777216:=aA
     gi_wp2;refine RoundIn.mono HR.out ?_;rintro e W3 (⟨rfl,bm,br,ar⟩|⟨rfl,a8⟩)
     .gi_wp2;go_roundw
      case rel=>
       have q0:=ar 1 (bE rfl);have q1:=ar sB (cD (bE rfl));have q2:=ar dB (cD (cD rfl));have s5:=aa.size;have bl:=ah.below aa ah.pos;refine⟨_,W3,p+n,aC,⟨?_,nY _ _,bn,aF,bm,aJ _ _,?_,aA,aA⟩,?_,?_⟩
       .rw[bJ];exact Im.nJ.snoc he (by rw[<-bD];exact ai) HC.out
       .obtain⟨⟨a0,a1,a2⟩,a3,a4,a5⟩:=bl;exact⟨⟨(bX q0).trans a0,(bX q0).trans a1,(bX q0).trans a2⟩,(bX q0).trans a3,(bX q0).trans a4,(bX q0).trans a5⟩
       .exact(bX q1).trans ((aa.cell (p:=⟨sB,0,Z⟩) bk).trans c0)
       .exact(bX q2).trans ((aa.cell (p:=⟨dB,0,Z⟩) bd).trans c1)
      case measure=>simp[intOf];omega
     .gi_wp2;refine cM (pC rfl _ _ _) rfl ?_;refine⟨⟨_,rfl⟩,cD ⟨_,W3,⟨p+n,?_,nY _ _⟩,a8,aJ _ _⟩⟩;rw[bJ];exact Im.nJ.snoc he (by rw[<-bD];exact ai) HC.out
  .have a9:¬(p:Int)<s.size:=by omega
   gi_wp2;go_end0;obtain⟨he,aj,az,a6,hJ,Y,ah,_,_⟩:=Hr.out;exact⟨⟨_,rfl⟩,bE ⟨R,⟨p,he,aj,bE aA⟩,W0,hJ,Y⟩⟩
end
namespace Hm
open Go.RowKit Go.Joins Go.Shelf
open Fr (below_drewN)
open Dv (X2 Cf Ba)
section
variable {l:Im.It}{a b c:Option Nat}{w:U}
def JJ(l:Im.It):Option Ba:=match l.kids with
 |[a,b,c,d]=>match Dv.value a,Dv.value b,Dv.value c,strs d with
  |some x,M y,M z,M t=>M ⟨x,y,z,t,0⟩
  |_,_,_,_=>Z
 |_=>Z
def Vr(i:Im.It):Option Ba:=match i.bytes with
 |[]=>Z
 |x::r=>if x=0 then(Im.dec r).bind JJ else Z
def Yh(h:l.kids.length≠4):JJ l=Z:=by
 unfold JJ;split
 .rename_i e;rw[e]at h;exact Xs rfl h
 .rfl
def UM:Option Nat->Option Nat->Option Nat->Option (List (List UInt8))->Option Ba
 |some x,M y,M z,M t=>M ⟨x,y,z,t,0⟩
 |_,_,_,_=>Z
def Ue{a b c d:Im.It}(h:l.kids=[a,b,c,d]):JJ l=UM (Dv.value a) (Dv.value b) (Dv.value c) (strs d):=by unfold JJ UM;rw[h]
def F9{R:Option (List (List UInt8))}(h:a.isSome=aL\/b.isSome=aL\/c.isSome=aL\/R.isSome=aL):UM a b c R=Z:=by
 cases a<;>cases b<;>cases c<;>cases R<;>simp[UM]at h⊢
def Us(z:a.isSome=aR)(E:b.isSome=aR)(hc:c.isSome=aR)(t:List (List UInt8)):UM a b c (M t)=M ⟨a.getD 0,b.getD 0,c.getD 0,t,0⟩:=by
 cases a<;>cases b<;>cases c<;>simp[UM]at z E hc⊢
def In.four{B:Nat}{n m cap:Nat}{c0 c1:X}{a:Option eM}{R k1 Y E:Im.It}(h:In B w (n+1) c0 c1 (.slice a m cap) l)(hk:l.kids=[R,k1,Y,E]):∃g off,a=M ⟨g,off,Z⟩/\g<B/\(∃z I p0,K3 w g off (.bool R.list) (bB ⟨R.bytes.toArray⟩) (.slice z I p0))/\(∃z I p0,K3 w g (off+3) (.bool k1.list) (bB ⟨k1.bytes.toArray⟩) (.slice z I p0))/\(∃z I p0,K3 w g (off+6) (.bool Y.list) (bB ⟨Y.bytes.toArray⟩) (.slice z I p0))/\∃z p0,K3 w g (off+9) (.bool E.list) (bB ⟨E.bytes.toArray⟩) (.slice z E.kids.length p0)/\In B w n (.bool E.list) (bB ⟨E.bytes.toArray⟩) (.slice z E.kids.length p0) E:=by obtain⟨li,bs,ks⟩:=l;dsimp only at hk;subst hk;obtain⟨g,off,aa,hv,hg,J⟩:=In.kid h aC;simp only[Value.slice.injEq]at hv;obtain⟨d0,h0,i0⟩:=J 0 aC;obtain⟨d1,h1,i1⟩:=J 1 aC;obtain⟨d2,h2,i2⟩:=J 2 aC;obtain⟨d3,h3,i3⟩:=J 3 aC;obtain⟨z,p0,_,_,e0⟩:=In.shape i0;obtain⟨a1,p1,_,_,e1⟩:=In.shape i1;obtain⟨a2,p2,_,_,e2⟩:=In.shape i2;obtain⟨a3,p3,_,_,e3⟩:=In.shape i3;subst e0 e1 e2 e3;exact⟨g,off,hv.1,hg,⟨z,_,p0,h0⟩,⟨a1,_,p1,h1⟩,⟨a2,_,p2,h2⟩,a3,p3,h3,i3⟩
def abD{α:Type}{l:List α}(h:l.length=4):∃a b c d,l=[a,b,c,d]:=by
 match l,h with
 |[a,b,c,d],_=>exact⟨a,b,c,d,rfl⟩
def ahb(w:U)(lo:Nat)(e:pm):Option Ba->Prop
 |none=>e=bO (cQ #[fX #[N ab 0,N ab 0,N ab 0,aH Z 0 0,N ab 0],cK aL])
 |some b=>∃a cap,e=bO (cQ #[P9 b (.slice a b.txs.length cap),cK aR])/\Made w lo (.slice a b.txs.length cap) b.txs/\b.place=0
def cells5{W:U}{b:Nat}{ty:cG}{v0 I E z J:X}(h:W.heap[b]? =M (aG #[v0,I,E,z,J] ty (0,0))):W.cell? ⟨b,0,Z⟩=M v0/\W.cell? ⟨b,1,Z⟩=M I/\W.cell? ⟨b,2,Z⟩=M E/\W.cell? ⟨b,3,Z⟩=M z/\W.cell? ⟨b,4,Z⟩=M J/\(∀o,W.frozen? ⟨b,o,Z⟩=aL):=
 ⟨by rw[aI h];rfl,by rw[aI h];rfl,by rw[aI h];rfl,by rw[aI h];rfl,by rw[aI h];rfl,aQ h⟩
def nV{B R:Nat}{a:U}(h:Below B a w)(z:B<=R){v0 J I E Y:X}:Below B a (acu w R v0 J I E Y):=((((h.setCell (p:=⟨R,0,Z⟩) z _).setCell (p:=⟨R,1,Z⟩) z _).setCell (p:=⟨R,2,Z⟩) z _).setCell (p:=⟨R,3,Z⟩) z _).setCell (p:=⟨R,4,Z⟩) z _
def Nw(i:Im.It)(c2:X)(w:U)(c1:∃a n cap,c2=.slice a n cap)(hs:i.bytes.length<=16777216)(hH:lJ w):dE PQ 84 #[fX #[.bool i.list,bB ⟨i.bytes.toArray⟩,c2]] w λe w'=>ahb w' ↑w e (Vr i)/\Below ↑w w w':=by
 obtain⟨ia,ik,ic,rfl⟩:=c1;obtain⟨D,hD⟩:∃D:ByteArray,(⟨i.bytes.toArray⟩:ByteArray)=D:=⟨_,rfl⟩
 have an:D.data.toList=i.bytes:=by rw[<-hD]
 have ao:D.size=i.bytes.length:=by rw[<-hD];rfl
 rw[hD];obtain⟨Q,hQ⟩:∃Q,Vr i=Q:=⟨_,rfl⟩
 rw[hQ];unfold Vr at hQ;obtain⟨W,hW⟩:∃W,W=(w.alloc (aG #[.bool i.list,bB D,.slice ia ik ic] 164)).alloc (aG #[N ab 0,N ab 0,N ab 0,aH Z 0 0,N ab 0] 118):=⟨_,rfl⟩
 have J:Below ↑w w W:=by rw[hW];exact((aJ _ w).alloc jB _).alloc aC _
 have cr:↑W=w.heap.size+2:=by rw[hW];simp
 have ah:W.heap[w.heap.size+1]? =M (aG #[N ab 0,N ab 0,N ab 0,aH Z 0 0,N ab 0] 118 (0,0)):=by
  have:=cT (w.alloc (aG #[.bool i.list,bB D,.slice ia ik ic] 164)) (aG #[N ab 0,N ab 0,N ab 0,aH Z 0 0,N ab 0] 118);rw[hW];simpa using this
 have z1:W.cell? ⟨↑w,1,Z⟩=M (bB D):=by rw[hW];simp
 obtain⟨r0,r1,r2,r3,r4,rf⟩:=cells5 ah;have a9:=hH.below J hH.pos;cases aa:i.bytes with
 |nil=>
  rw[aa]at hQ;subst hQ;have co:D.toList.isEmpty=aR:=by rw[Fr.toList_empty];exact Z0 (by rw[ao,aa];rfl)
  have H:cH _:=jy J ah;clear J ah hD an ao aa a9 hH hs cr;go_enter (fq Tryz.func84 rfl),Tryz.ntmps84;go_upto_region 1 with fail;rw[<-hW];clear hW;go_wp2_with fail;refine cM (v:=.tuple _) (by simp[results,lE,go_sem,r0,r1,r2,r3,r4]) rfl ⟨rfl,nV H.out.1 (mB _)⟩
 |cons x r=>
  rw[aa]at hQ;dsimp only at hQ;have h0:0<D.size:=by rw[ao,aa];simp
  have co:D.toList.isEmpty=aL:=by rw[Fr.toList_empty];exact ZZ aA
  have ay:D[0]'h0=x:=by
   have:D.data.toList[0]? =M (D[0]'h0):=by
    rw[aO (by simpa using h0)];rfl
   rw[an,aa]at this;simpa using this.symm
  by_cases hz:x=0
  .rw[ZD hz]at hQ;have c3:(((D[0]'h0).toNat:Int) == 0)=aR:=by rw[ay,hz];rfl
   obtain⟨S,hS⟩:∃S:ByteArray,D.extract 1 D.size=S:=⟨_,rfl⟩
   have a4:S.data.toList=r:=by
    rw[<-hS,Fr.ext_list,bD,iJ,an,aa];rfl
   have bg:S.size<=16777216:=by
    rw[bD,a4];rw[aa]at hs;simp at hs;omega
   have z:=decode_any S W bg a9;rw[a4]at z;have h1:(1:Int)<=(D.size:Int):=aA
   have au:∀V,Below ↑W W V->V.heap[w.heap.size+1]? =M (aG #[N ab 0,N ab 0,N ab 0,aH Z 0 0,N ab 0] 118 (0,0)):=λV hV=>(hV.block _ aA).trans ah;have ar:cH _:=au;cases hd:Im.dec r with
   |none=>
    rw[hd]at z hQ;have ac:Z=Q:=hQ;subst ac;have ag:cH _:=λ(_:Unit)=>z;have H:cH _:=J;clear J ah hD an ao aa a9 hH hs ay hz z hQ hd a4 bg au;go_enter (fq Tryz.func84 rfl),Tryz.ntmps84;go_upto_region 1 with fail;rw[<-hW];clear hW;go_wp2_with (first|(go_at_call 124;refine aT (ag.out ()) ?_;rintro e w2 ⟨he,E⟩;unfold Il at he;subst he;obtain⟨q0,q1,q2,q3,q4,qf⟩:=cells5 (ar.out _ (E.alloc E.size (aG #[cK aL,bB ⟨#[]⟩,aH Z 0 0] 164))))|fail)
    refine cM (v:=.tuple _) (by simp[results,lE,go_sem,q0,q1,q2,q3,q4]) rfl ⟨rfl,nV (H.out.trans ((E.alloc E.size _).mono H.out.size)) (mB _)⟩
   |some l=>
    rw[hd]at z hQ;have ac:JJ l=Q:=hQ;have bu:=λk hk=>Qv (k:=k) hd hk;have cg:r.length<=16777216:=by rw[<-a4,<-bD];exact bg
    obtain⟨D2,aw⟩:∃D:ByteArray,(⟨l.bytes.toArray⟩:ByteArray)=D:=⟨_,rfl⟩
    obtain⟨li,a8⟩:∃li,l.list=li:=⟨_,rfl⟩
    obtain⟨nk,ak⟩:∃nk,l.kids.length=nk:=⟨_,rfl⟩
    have ag:cH _:=λ(_:Unit)=>z;by_cases h4:nk=4
    .subst h4;obtain⟨k0,k1,k2,k3,aq⟩:=abD ak;rw[Ue aq]at ac
     have bj:k3.kids.length<=4294967296:=by
      have:=bu k3 (by rw[aq];simp);omega
     obtain⟨o0,av⟩:∃o,Dv.value k0=o:=⟨_,rfl⟩
     obtain⟨o1,a7⟩:∃o,Dv.value k1=o:=⟨_,rfl⟩
     obtain⟨o2,a6⟩:∃o,Dv.value k2=o:=⟨_,rfl⟩
     obtain⟨R,hR⟩:∃R,strs k3=R:=⟨_,rfl⟩
     rw[av,a7,a6,hR]at ac;have H:cH _:=jy J (jy aw (jy a8 (jy ak (jy aq (jy bj (jy ac (jy av (jy a7 (jy a6 hR)))))))));clear J ah hD an ao aa a9 hH hs ay hz z hQ ac hd a4 bg au bu cg aw a8 ak aq bj av a7 a6 hR;go_enter (fq Tryz.func84 rfl),Tryz.ntmps84;go_upto_region 1 with fail;rw[<-hW];clear hW;go_upto_region 6 with(first|(go_at_call 124;refine aT (ag.out ()) ?_;rintro e w2 ⟨he,E⟩;obtain⟨a,cap,he,ht⟩:=he;rw[H.out.2.1,H.out.2.2.1,H.out.2.2.2.1]at he;subst he;have HT:cH (Tr _ _ _ _ _ _ _ _):=ht;clear ht)|fail)
     obtain⟨V,hV,az,zb⟩:=jD w2 #[.bool li,bB D2,.slice a 4 cap] 164;rw[<-hV];obtain⟨J,aw,a8,ak,aq,bj,ac,av,a7,a6,hR⟩:=H.out;have cx:=In.below az _ _ _ _ _ (Tr.inn 9 _ _ _ _ _ _ jB HT.out);obtain⟨g,off,rfl,hg,⟨a0,m0,p0,K0⟩,⟨a1,m1,p1,K1⟩,⟨a2,m2,p2,K2⟩,a3,p3,bh,I3⟩:=In.four cx aq;have Y:=aP hg az.size;have cc:=(jE zb)
     have aj:=λV'=>sQ k0 (.slice a0 m0 p0) V' ⟨_,_,_,rfl⟩;have ai:=λV'=>sQ k1 (.slice a1 m1 p1) V' ⟨_,_,_,rfl⟩;have am:=λV'=>sQ k2 (.slice a2 m2 p2) V' ⟨_,_,_,rfl⟩;have bp:=λV' (I:Below _ V V')=>vN 6 k3 V' (bH az.size I.size) (In.below (I.mono az.size) _ _ _ _ _ I3) bj;obtain⟨l0,b9⟩:∃x,k0.list=x:=⟨_,rfl⟩
     obtain⟨l1,ce⟩:∃x,k1.list=x:=⟨_,rfl⟩
     obtain⟨l2,cn⟩:∃x,k2.list=x:=⟨_,rfl⟩
     obtain⟨l3,ci⟩:∃x,k3.list=x:=⟨_,rfl⟩
     obtain⟨S0,cf⟩:∃x:ByteArray,(⟨k0.bytes.toArray⟩:ByteArray)=x:=⟨_,rfl⟩
     obtain⟨S1,cw⟩:∃x:ByteArray,(⟨k1.bytes.toArray⟩:ByteArray)=x:=⟨_,rfl⟩
     obtain⟨S2,cq⟩:∃x:ByteArray,(⟨k2.bytes.toArray⟩:ByteArray)=x:=⟨_,rfl⟩
     obtain⟨S3,cd⟩:∃x:ByteArray,(⟨k3.bytes.toArray⟩:ByteArray)=x:=⟨_,rfl⟩
     obtain⟨m3,cu⟩:∃x,k3.kids.length=x:=⟨_,rfl⟩
     rw[b9,cf]at aj K0;rw[ce,cw]at ai K1;rw[cn,cq]at am K2;rw[ci,cd,cu]at bp bh;rw[av]at aj;rw[a7]at ai;rw[a6]at am;rw[hR]at bp;unfold aeV at aj ai am;obtain⟨n0,ba⟩:∃n,o0.getD 0=n:=⟨_,rfl⟩
     obtain⟨n1,bk⟩:∃n,o1.getD 0=n:=⟨_,rfl⟩
     obtain⟨n2,bn⟩:∃n,o2.getD 0=n:=⟨_,rfl⟩
     obtain⟨b0,bl⟩:∃n,o0.isSome=n:=⟨_,rfl⟩
     obtain⟨b1,bb⟩:∃n,o1.isSome=n:=⟨_,rfl⟩
     obtain⟨b2,bd⟩:∃n,o2.isSome=n:=⟨_,rfl⟩
     rw[ba,bl]at aj;rw[bk,bb]at ai;rw[bn,bd]at am;have b6:cH _:=aj;have bv:cH _:=ai;have b7:cH _:=am;have bo:cH _:=bp
     have hK:∀V',Below ↑V V V'->V'.cell? ⟨↑w2,2,Z⟩=M (aH (M ⟨g,off,Z⟩) 4 cap)/\V'.cell? ⟨g,off,Z⟩=M (.bool l0)/\V'.cell? ⟨g,off+1,Z⟩=M (bB S0)/\V'.cell? ⟨g,off+2,Z⟩=M (.slice a0 m0 p0)/\V'.cell? ⟨g,off+3,Z⟩=M (.bool l1)/\V'.cell? ⟨g,off+4,Z⟩=M (bB S1)/\V'.cell? ⟨g,off+5,Z⟩=M (.slice a1 m1 p1)/\V'.cell? ⟨g,off+6,Z⟩=M (.bool l2)/\V'.cell? ⟨g,off+7,Z⟩=M (bB S2)/\V'.cell? ⟨g,off+8,Z⟩=M (.slice a2 m2 p2)/\V'.cell? ⟨g,off+9,Z⟩=M (.bool l3)/\V'.cell? ⟨g,off+10,Z⟩=M (bB S3)/\V'.cell? ⟨g,off+11,Z⟩=M (.slice a3 m3 p3):=λV' I=>
      ⟨(I.cell (p:=⟨↑w2,2,Z⟩) cc).trans (by rw[aI zb];rfl),(K0.below I Y).1,(K0.below I Y).2.1,(K0.below I Y).2.2,(K1.below I Y).1,(K1.below I Y).2.1,(K1.below I Y).2.2,(K2.below I Y).1,(K2.below I Y).2.1,(K2.below I Y).2.2,(bh.below I Y).1,(bh.below I Y).2.1,(bh.below I Y).2.2⟩
     have HK:cH _:=hK;have cl:=aJ ↑V V;obtain⟨x2,c9,dh,d2,dq,de,d1,er,ec,el,dk,dx,ex⟩:=hK V cl;have bq:=E.trans (az.mono E.size);have HQ:cH _:=jy ac (jy ba (jy bk (jy bn (jy bl (jy bb (jy bd (jy J bq)))))));clear hV az zb J aw a8 ak aq bj ac av a7 a6 hR cx hg Y cc K0 K1 K2 bh I3 aj ai am bp b9 ce cn ci cf cw cq cd cu ba bk bn bl bb bd hK bq E H HT r0 r1 r2 r3 r4 rf z1;go_upto_region 9 with(first|(go_at_call 125;(with_reducible refine aT (b6.out _) ?_);rintro e3 w3 ⟨rfl,cj⟩;have b4:=cj;obtain⟨x3,ew,em,eu,ee,ed,et,d8,dr,d0,ea,ez,eg⟩:=HK.out w3 b4;clear cj)|(go_at_call 125;(with_reducible refine aT (bv.out _) ?_);rintro e4 w4 ⟨rfl,cy⟩;have b5:=b4.trans (cy.mono b4.size);obtain⟨x4,eo,dz,dt,d7,du,ey,c4,c6,dm,db,ef,c5⟩:=HK.out w4 b5;clear cy)|(go_at_call 125;(with_reducible refine aT (b7.out _) ?_);rintro e5 w5 ⟨rfl,cv⟩;have af:=b5.trans (cv.mono b5.size);obtain⟨x5,dw,eb,d9,dj,eh,dg,dy,dd,ei,di,dv,d3⟩:=HK.out w5 af;clear cv)|fail)
     have bz:↑w<=w5.heap.size:=by
      have e1:=HQ.out.2.2.2.2.2.2.2.1.size;have e2:=HQ.out.2.2.2.2.2.2.2.2.size;have e3:=af.size;omega
     have bs:=(HQ.out.2.2.2.2.2.2.2.1.trans (HQ.out.2.2.2.2.2.2.2.2.mono HQ.out.2.2.2.2.2.2.2.1.size)).trans (af.mono (bH HQ.out.2.2.2.2.2.2.2.1.size HQ.out.2.2.2.2.2.2.2.2.size));have br:cH _:=bs;clear bs;cases R with
     |none=>
      go_upto_region 10 with(first|(go_at_call 126;refine aT (bo.out _ af) ?_;rintro e6 w6 ⟨he,ap⟩;unfold Strs at he;subst he)|fail)
      have bm:=af.trans (ap.mono af.size);have a5:=ar.out w6 (HQ.out.2.2.2.2.2.2.2.2.trans (bm.mono HQ.out.2.2.2.2.2.2.2.2.size));obtain⟨q0,q1,q2,q3,q4,qf⟩:=cells5 a5;have HB:cH (Below ↑w w w6):=br.out.trans (ap.mono bz);have b3:Z=Q:=by rw[<-HQ.out.1];exact(F9 (cD (cD (cD rfl)))).symm
      subst b3;clear HQ HK b6 bv b7 bo bm a5 ap;cases b0<;>cases b1<;>cases b2
      all_goals
       go_wp2_with fail;refine cM (v:=cQ #[fX #[N ab 0,N ab 0,N ab 0,aH Z 0 0,N ab 0],cK aL]) (by simp[results,lE,go_sem,q0,q1,q2,q3,q4]) rfl ?_;exact⟨rfl,nV HB.out (mB _)⟩
     |some t=>
      obtain⟨tn,ca⟩:∃n,t.length=n:=⟨_,rfl⟩
      have ct:cH _:=ca;clear ca;go_upto_region 10 with(first|(go_at_call 126;refine aT (bo.out _ af) ?_;rintro e6 w6 ⟨⟨ta,tc,he,ck⟩,ap⟩;rw[ct.out]at he;subst he;have HM:cH _:=ck;clear ck)|fail)
      have bm:=af.trans (ap.mono af.size);have a5:=ar.out w6 (HQ.out.2.2.2.2.2.2.2.2.trans (bm.mono HQ.out.2.2.2.2.2.2.2.2.size));obtain⟨q0,q1,q2,q3,q4,qf⟩:=cells5 a5;have HB:cH (Below ↑w w w6/\_):=jy (br.out.trans (ap.mono bz)) a5;have HP:cH _:=jy HQ.out.1 (jy HQ.out.2.1 (jy HQ.out.2.2.1 (jy HQ.out.2.2.2.1 (jy HQ.out.2.2.2.2.1 (jy HQ.out.2.2.2.2.2.1 HQ.out.2.2.2.2.2.2.1)))));clear HQ HK b6 bv b7 bo bm a5 ap;by_cases ae:b0=aR/\b1=aR/\b2=aR
      .obtain⟨rfl,rfl,rfl⟩:=ae;go_wp2_with fail;obtain⟨hQ,aj,ai,am,bw,b8,E⟩:=HP.out;rw[Us bw b8 E,aj,ai,am]at hQ;subst hQ;refine cM (v:=cQ #[fX #[N ab n0,N ab n1,N ab n2,.slice ta tn tc,N ab 0],cK aR]) (by simp[results,lE,go_sem,q0,q1,q2,q3,q4]) rfl ⟨⟨ta,tc,?_,?_,rfl⟩,nV HB.out.1 (mB _)⟩
       .unfold P9;dsimp only;rw[ct.out];rfl
       .exact⟨HM.out.1.jM (qI w6 _ _ _ _ _ _) (λg hg e=>jH HM.out.1 HB.out.2 aB (by rw[hg,e])),λg hg=>bH bz (HM.out.2 g hg)⟩
      .have b3:Z=Q:=by
        rw[<-HP.out.1];obtain⟨_,_,_,_,bw,b8,E⟩:=HP.out;refine(F9 ?_).symm;rw[bw,b8,E];revert ae;cases b0<;>cases b1<;>cases b2<;>simp
       subst b3;clear HP;revert ae;cases b0<;>cases b1<;>cases b2<;>intro ae
       all_goals
        first
         |exact Xs ⟨rfl,rfl,rfl⟩ ae
         |(clear ae
           go_wp2_with fail;refine cM (v:=cQ #[fX #[N ab 0,N ab 0,N ab 0,aH Z 0 0,N ab 0],cK aL]) (by simp[results,lE,go_sem,q0,q1,q2,q3,q4]) rfl ?_;exact⟨rfl,nV HB.out.1 (mB _)⟩)
    .have ej:((nk:Int) == 4)=aL:=ZS aA;have cz:Z=Q:=by rw[<-ac,Yh (by rw[ak];exact h4)]
     subst cz;have H:cH _:=jy J (jy aw (jy a8 ak));clear J ah hD an ao aa a9 hH hs ay hz z hQ ac hd a4 bg au bu cg aw a8 ak h4;go_enter (fq Tryz.func84 rfl),Tryz.ntmps84;go_upto_region 1 with fail;rw[<-hW];clear hW;go_wp2_with (first|(go_at_call 124;refine aT (ag.out ()) ?_;rintro e w2 ⟨he,E⟩;obtain⟨a,cap,he,ht⟩:=he;rw[H.out.2.1,H.out.2.2.1,H.out.2.2.2]at he;subst he;obtain⟨q0,q1,q2,q3,q4,qf⟩:=cells5 (ar.out _ (E.alloc E.size (aG #[.bool li,bB D2,.slice a nk cap] 164)));clear ht)|fail)
     refine cM (v:=.tuple _) (by simp[results,lE,go_sem,q0,q1,q2,q3,q4]) rfl ⟨rfl,nV (H.out.1.trans ((E.alloc E.size _).mono H.out.1.size)) (mB _)⟩
  .rw[Zs hz]at hQ;subst hQ
   have c3:(((D[0]'h0).toNat:Int) == 0)=aL:=by
    rw[ay];refine ZS (λe=>hz ?_);apply jv.1;simpa using e
   have H:cH _:=jy J ah;clear J ah hD an ao aa a9 hH hs cr ay hz;go_enter (fq Tryz.func84 rfl),Tryz.ntmps84;go_upto_region 1 with fail;rw[<-hW];clear hW;go_wp2_with fail;refine cM (v:=.tuple _) (by simp[results,lE,go_sem,r0,r1,r2,r3,r4]) rfl ⟨rfl,nV H.out.1 (mB _)⟩
end
section
variable {s:List UInt8}{i:Im.It}{l:List Ba}{p:Nat}
def wH{b:List UInt8->Option (Bool×Nat×Nat)}{d:Nat}{n:Nat}(h:Im.read b d s=M (i,n)):(i.list=aR->i.bytes=[])/\(i.list=aL->i.kids=[]):=by
 cases d with
 |zero=>
  rw[Im.read]at h
  grind
 |succ d=>
  rw[Im.read]at h;split at h
  .cases h
  .grind
  .rw[bI]at h
   grind
def UW(h:Im.dec s=M i):(i.list=aR->i.bytes=[])/\(i.list=aL->i.kids=[]):=by
 unfold Im.dec at h;split at h
 .rename_i z;split at h
  .cases h;exact wH z
  .cases h
 .cases h
def aal{l:Im.It}(z:l.list=aL->l.kids=[])(n:Nat):Dv.pY l n=(JJ l).map (λb=>{ b with place:=n }):=by
 unfold Dv.pY JJ;cases h:l.list with
 |false=>
  rw[z h];rfl
 |true=>
  match hk:l.kids with
  |[a,b,c,d]=>
   dsimp only;unfold strs
   grind
  |[]=>rfl
  |[_]=>rfl
  |[_,_]=>rfl
  |[_,_,_]=>rfl
  |_::_::_::_::_::_=>rfl
def Zc(z:i.list=aR->i.bytes=[])(n:Nat):Dv.tH i n=(Vr i).map (λb=>{ b with place:=n }):=by
 unfold Dv.tH Vr;cases h:i.list with
 |true=>
  rw[z h];rfl
 |false=>
  rw[Zs aC];cases E:i.bytes with
  |nil=>rfl
  |cons x r=>
   dsimp only;split
   .cases hd:Im.dec r with
    |none=>rfl
    |some l=>
     simp only[gX];exact aal (UW hd).2 n
   .rfl
inductive yM(s:List UInt8):List Ba->Nat->Prop
 |nil:yM s [] 0
 |snoc {l:List Ba} {p:Nat} {i:Im.It} {n:Nat} {b:Ba}:yM s l p->p<s.length->Im.read Im.body 8 (s.drop p)=M (i,n)->Vr i=M b->yM s (l++[b]) (p+n)
def aeR(s:List UInt8)(p:Nat):Prop:=s.length<=p\/Im.read Im.body 8 (s.drop p)=Z\/∃i n,Im.read Im.body 8 (s.drop p)=M (i,n)/\Vr i=Z
def vY(n:Nat)(l:List Ba):List Ba:=(l.filter (λb=>decide (b.epoch<=n))).map (λb=>{ b with place:=n })
def wI(n:Nat)(l:List Ba)(b:Ba):vY n (l++[b])=vY n l++(if b.epoch<=n then [{ b with place:=n }]else []):=by
 unfold vY
 grind
def yM.rd(h:yM s l p)(n:Nat):∀f,Dv.rd (f+l.length) s n=vY n l++Dv.rd f (s.drop p) n:=by
 induction h with
 |nil=>intro f;rfl
 |@snoc l p i k b _ hp hr hb ih=>
  intro f;rw[aS,iF,show f+(l.length+1)=(f+1)+l.length from by omega,ih (f+1),wI,fM]
  congr 1
  rw[Dv.rd,Zs (by intro e;have:=Z1 List.length e;grind),hr];dsimp only;rw[Zc (wH hr).1 n,hb];simp
def yM.le(h:yM s l p):l.length<=p/\p<=s.length:=by
 induction h with
 |nil=>simp
 |@snoc l p i k b _ hp hr hb ih=>
  have:=Im.rZ Im.oZ 8 _ i k hr
  grind
def yM.all(h:yM s l p)(z:aeR s p)(n:Nat):Dv.rd s.length s n=vY n l:=by
 have R:=h.le;have:=h.rd n (s.length-l.length);rw[show s.length-l.length+l.length=s.length from by omega]at this;rw[this]
 have:Dv.rd (s.length-l.length) (s.drop p) n=[]:=by
  cases J:s.length-l.length with
  |zero=>rfl
  |succ f=>
   rw[Dv.rd];split
   .rfl
   .rename_i E;obtain z|z|⟨i,k,z,I⟩:=z
    .grind
    .rw[z]
    .rw[z];dsimp only;rw[Zc (wH z).1 n,I];rfl
 grind
end
open Go.RowKit
section
variable {P:cU}{l l₀:Nat}{assign body:eE}{w:U}
def Jl{m n:Nat}{f:FuncId}{tmps:Array X}{R:pm->U->Prop}(h:RoundIn gP m P l f tmps assign body w R):RoundIn (Fence.wide.inRound l₀) n P l f tmps assign body w R:=⟨h.1,λc cs _=>h.2 c cs (room_wide _)⟩
def wS(F:Nat->Prop)(z E:U)(k:Nat):Prop:=F k\/(↑z<=k/\k<↑E)
def Py{F:Nat->Prop}{A B:U}{o:nL}(h:jI (λk=>F k/\NC A k) (A.putObj l o) (B.putObj l o))(E:¬F l):jI (λk=>F k/\NC (A.putObj l o) k) (A.putObj l o) (B.putObj l o):=
 h.mono (λk _ e=>⟨e.1,λcs t z hk=>by
  rw[qT (by rintro rfl;exact E e.1)]at hk;exact e.2 cs t z hk⟩)
def Za{α:Type}(P:cU)(g:Nat)(lb:Array X)(encs:α->Array X)(R:List α->U->Prop)(Y:List α->α->Nat->U->Prop)(S Sp:List α->Prop):Prop:=
 ∀(l:Nat)(J Jx:List α->(Nat->Prop)->U->Prop)(W:U),l<↑W->R [] W->
  (∀z x F E I,J z F E->jI (λk=>F k/\NC E k) E I->Y z x ↑E I->YieldAt gP 1 P l (encs x) I λe W'=>
   (e=bO (cK aR)/\J (z++[x]) (wS F E I) W'/\↑I<=W'.heap.size/\R (z++[x]) W'/\∀k,wS F E I k->W'.heap[k]? =I.heap[k]?)\/(e=bO (cK aL)/\Jx (z++[x]) (wS F E I) W'/\↑I<=W'.heap.size/\∀k,wS F E I k->W'.heap[k]? =I.heap[k]?))->
  J [] (λ_=>False) W->
  CallsIn gP 2 P g (#[.func (.yield l) #[] #[]]++lb) W λe W'=>(∃v,e=bO v)/\((∃xs F E,S xs/\J xs F E/\jI (λk=>F k/\NC E k) E W')\/(∃z F E,Sp z/\Jx z F E/\jI (λk=>F k/\NC E k) E W'))
def ac8{α:Type}(B:Nat)(F:Nat->Prop)(E:List α->U->Prop)(I:List α->(Nat->Prop)->U->Prop)(z:eE->List α->(Nat->Prop)->U->Prop)(xs:List α)(W:U):p9->Act->U->Prop
 |.normal,_,W'=>rr B W W'/\E xs W'/\(∀k,F k->W'.heap[k]? =W.heap[k]?)/\I xs F W'
 |.ret,_,W'=>rr B W W'/\(∀k,F k->W'.heap[k]? =W.heap[k]?)/\z .ret xs F W'
 |.exit id,_,W'=>rr B W W'/\(∀k,F k->W'.heap[k]? =W.heap[k]?)/\z (.exit id) xs F W'
 |.goto t,_,W'=>rr B W W'/\(∀k,F k->W'.heap[k]? =W.heap[k]?)/\z (.goto t) xs F W'
 |.panic _,_,_=>False
 |.outgrown,_,_=>False
def EH{α:Type}{g:jN}{ps:Array Tmp}{Q:p9->Act->U->Prop}{a:Act}{ai:Loop}(am:w.heap[l₀]? =M (.loop ai)){gf:Nat}{lb:Array X}(hg:a.eval g=.func (.func gf) #[] lb)(eg:∀args w,(callFunc gf args).run P w=.ok (.enter gf args) w){encs:α->Array X}{St:List α->U->Prop}{Y:List α->α->Nat->U->Prop}{S Sp:List α->Prop}(aq:Za P gf lb encs St Y S Sp)(ar:rq ↑w St)(hY:∀lo,rq ↑w (λ(q:List α×α) W=>Y q.1 q.2 lo W))(av:∀x,(encs x).size=ps.size)(I:List α->(Nat->Prop)->U->Prop)(Ix:eE->List α->(Nat->Prop)->U->Prop)(hI:∀F,rq ↑w (λxs W=>I xs F W))(af:∀c F,rq ↑w (λxs W=>Ix c xs F W))(h0:I [] (λ_=>False) w)(au:St [] w)(aj:α->Nat->Act)(ox:α->nL)(ae:∀(l:Nat)(x:α)(W:U)(K:Act->U->Prop),K (aj x ↑W) (W.alloc (ox x))->assign.wpIn (Fence.wide.inRound l) 1 P (Exit.then K (λ_ _ _=>False)) { tmps:=(ps.zip (encs x)).foldl (λt (p,v)=>t.setIfInBounds p v) a.tmps,defers:=[] } W)(ak:∀(l:Nat)(z:List α)(x:α)(F:Nat->Prop)(J R:U),l=w.heap.size->l<↑J->(∃r,R.heap[l]? =M (.loop r))->(∀k,F k->w.heap.size<k/\k<J.heap.size)->I z F J->jI (λk=>F k/\NC J k) J R->Y z x ↑J R->body.wpIn (Fence.wide.inRound l) 1 P (ac8 ↑w (wS F J R) St I Ix (z++[x]) (R.alloc (ox x))) (aj x ↑R) (R.alloc (ox x)))(an:∀(xs:List α)(F:Nat->Prop)(J W:U),(∀k,F k->w.heap.size<k/\k<J.heap.size)->S xs->I xs F J->jI (λk=>F k/\NC J k) J W->Q .normal a W)(ao:∀(c:eE)(z:List α)(F:Nat->Prop)(J W:U),(∀k,F k->w.heap.size<k/\k<J.heap.size)->Sp z->Ix c z F J->jI (λk=>F k/\NC J k) J W->c.wpIn (Fence.wide.inRound l₀) 1 P Q a W):(Code.rangeFunc g ps assign body).wpIn (Fence.wide.inRound l₀) 1 P Q a w:=by
 refine wpIn_rangeFunc λfn az=>?_;obtain⟨rc,aa⟩:∃rc:LoopState->Option eE->Loop,rc=λst pe=>{ state:=st,pending:=pe,fn,tmps:=a.tmps,params:=ps,assign,body,defers:=ai.defers }:=⟨_,rfl⟩
 obtain⟨V,hV⟩:∃V,w.alloc (.loop (rc .ready Z))=V:=⟨_,rfl⟩
 have vl:V.heap[w.heap.size]? =M (.loop (rc .ready Z)):=by rw[<-hV];exact rA w _
 have vI:I [] (λ_=>False) V:=by rw[<-hV];exact(hI _).alloc _ h0
 have vS:St [] V:=by rw[<-hV];exact ar.alloc _ au
 refine⟨↑w,[],V,{ target:=.fn (.func gf) lb,args:=#[.func (.yield ↑w) #[] #[]] },V,gf,
  #[.func (.yield ↑w) #[] #[]]++lb,V,?_,?_,λ_ _=>trivial,by simp[invoke,go_sem,eg],λh=>by simp[gP]at h,?_⟩
 .rw[<-hV,aa];exact run_enterLoop_inner am _ _ _ _ _
 .simp only[resolve,hg];simp[go_sem]
 refine CallsIn.mono (gO.2 (gO.1 (aq _
  (λz F W=>I z F W/\W.heap[w.heap.size]? =M _/\∀k,F k->w.heap.size<k/\k<W.heap.size)
  (λz F W=>∃c,Ix c z F W/\W.heap[w.heap.size]? =M (.loop (rc .done (M c)))/\∀k,F k->w.heap.size<k/\k<W.heap.size) V (jE vl) vS ?_ ⟨vI,vl,λ_ h=>h.elim⟩)):CallsIn _ 0 P gf _ V _) ?_
 .rintro z x F J R ⟨i0,l0,f0⟩ hb hy;have nl:¬F w.heap.size:=λh=>by have:=(f0 _ h).1;omega
  have ac:=(jE l0)
  have l1:=(hb.block _ ac (λe=>nl e.1)).trans l0;have ag:=(jE l1)
  have ry:=run_yield (P:=P) (args:=encs x) l1 (by rw[aa];exact av x);rw[aa]at ry;refine⟨fn,_,assign,body,ry,roundIn_of_wpIn az (ae _ x R _ ⟨_,run_beginRound ((aZ _ _ _ ag).trans l1) (by rw[aa]),?_⟩)⟩;clear ry;rw[yw _ _ _ _ ag];obtain⟨o,ho⟩:∃o:nL,Obj.loop { rc .ready Z with state:=.busy }=o:=⟨_,rfl⟩
  rw[ho];have b1:=Py (uQ hb o ac) nl
  have y1:Y z x (J.putObj ↑w o).heap.size (R.putObj ↑w o):=by
   rw[rh];exact(hY _).putObj (s:=(z,x)) o hy aA l1 rfl
  have eF:wS F (J.putObj ↑w o) (R.putObj ↑w o)=wS F J R:=by unfold wS;simp only[rh]
  have ah:=ak _ z x F _ _ rfl aF ⟨_,(ri ag).trans (Z1 M ho.symm)⟩ (by simpa using f0) ((hI F).putObj o i0 aA l0 rfl) b1 y1;rw[eF]at ah;simp only[rh]at ah
  have f1:∀k,wS F J R k->w.heap.size<k/\k<R.heap.size:=λk hk=>by
   have:=hb.size;obtain h|h:=hk
   .have:=f0 k h;omega
   .omega
  refine wpIn_mono ah ?_;clear ah;have aw:((R.putObj ↑w o).alloc (ox x)).heap[w.heap.size]? =M o:=(aZ _ _ _ aF).trans (ri ag)
  have fin:∀(E:Option eE)(W3:U),rr ↑w ((R.putObj ↑w o).alloc (ox x)) W3->
    (Instr.endRound ↑w E).run P W3=.ok (.bool E.isNone) (W3.putObj ↑w (.loop (rc (if E.isNone then .ready else .done) E)))/\
    W3.heap[w.heap.size]? =M o/\
    (W3.putObj ↑w (.loop (rc (if E.isNone then .ready else .done) E))).heap[w.heap.size]? =M (.loop (rc (if E.isNone then .ready else .done) E)):=λE W3 ay=>by
   have q1:=ay.same _ _ aA aw (by rw[<-ho];rfl);have ap:=q1;rw[<-ho]at ap;have:=run_endRound (P:=P) E ap;refine⟨?_,q1,ri (jE q1)⟩;rw[aa]at this⊢;exact this
  rintro e a3 W3 hp;cases e with
  |normal=>
   obtain⟨k3,kk,kx,i3⟩:=hp;obtain⟨hr,l3,l4⟩:=fin Z W3 k3;have s3:↑R<=W3.heap.size:=by have:=k3.size;simp at this;omega
   refine⟨_,_,hr,bE ⟨rfl,⟨(hI _).putObj _ i3 aA l3 (by rw[<-ho];rfl),l4,λk hk=>by have:=f1 k hk;rw[rh];omega⟩,by rw[rh];exact s3,ar.putObj _ kk aA l3 (by rw[<-ho];rfl),λk h1=>by
    have:=f1 k h1;rw[qT aA,kx k h1,aZ _ _ _ aF,qT aA]⟩⟩
  |ret=>
   obtain⟨k3,kx,i3⟩:=hp;obtain⟨hr,l3,l4⟩:=fin (M .ret) W3 k3;have s3:↑R<=W3.heap.size:=by have:=k3.size;simp at this;omega
   exact⟨_,_,hr,cD ⟨rfl,⟨_,(af _ _).putObj _ i3 aA l3 (by rw[<-ho];rfl),l4,λk hk=>by have:=f1 k hk;rw[rh];omega⟩,by rw[rh];exact s3,λk h1=>by
    have:=f1 k h1;rw[qT aA,kx k h1,aZ _ _ _ aF,qT aA]⟩⟩
  |exit id=>
   obtain⟨k3,kx,i3⟩:=hp;obtain⟨hr,l3,l4⟩:=fin (M (.exit id)) W3 k3;have s3:↑R<=W3.heap.size:=by have:=k3.size;simp at this;omega
   exact⟨_,_,hr,cD ⟨rfl,⟨_,(af _ _).putObj _ i3 aA l3 (by rw[<-ho];rfl),l4,λk hk=>by have:=f1 k hk;rw[rh];omega⟩,by rw[rh];exact s3,λk h1=>by
    have:=f1 k h1;rw[qT aA,kx k h1,aZ _ _ _ aF,qT aA]⟩⟩
  |goto t=>
   obtain⟨k3,kx,i3⟩:=hp;obtain⟨hr,l3,l4⟩:=fin (M (.goto t)) W3 k3;have s3:↑R<=W3.heap.size:=by have:=k3.size;simp at this;omega
   exact⟨_,_,hr,cD ⟨rfl,⟨_,(af _ _).putObj _ i3 aA l3 (by rw[<-ho];rfl),l4,λk hk=>by have:=f1 k hk;rw[rh];omega⟩,by rw[rh];exact s3,λk h1=>by
    have:=f1 k h1;rw[qT aA,kx k h1,aZ _ _ _ aF,qT aA]⟩⟩
  |panic ch=>exact hp.elim
  |outgrown=>exact hp.elim
 .rintro e W2 ⟨⟨v,rfl⟩,(⟨xs,F,J,hS,⟨i0,l0,f0⟩,hb⟩|⟨z,F,J,hS,⟨c,i0,l0,f0⟩,hb⟩)⟩
  .have nl:¬F w.heap.size:=λh=>by have:=(f0 _ h).1;omega
   have ac:=(jE l0)
   have l2:=(hb.block _ ac (λe=>nl e.1)).trans l0;refine⟨Z,_,by have:=rN (P:=P) l2 (by rw[aa];simp);rw[aa]at this;exact this,?_⟩;exact an xs F _ _ (by simpa using f0) hS ((hI F).putObj _ i0 aA l0 rfl) (Py (uQ hb _ ac) nl)
  .have nl:¬F w.heap.size:=λh=>by have:=(f0 _ h).1;omega
   have ac:=(jE l0)
   have l2:=(hb.block _ ac (λe=>nl e.1)).trans l0;refine⟨M c,_,by have:=rN (P:=P) l2 (by rw[aa];simp);rw[aa]at this;exact this,?_⟩;exact ao c z F _ _ (by simpa using f0) hS ((af c F).putObj _ i0 aA l0 rfl) (Py (uQ hb _ ac) nl)
end
open Dv (Ba)
section
variable {T:List UInt8}{is:List Im.It}{p j:Nat}{i:Im.It}{W:U}
structure BX where
 b:Ba
 a:Option eM
 cap:Nat
def BX.encs(x:BX):Array X:=#[fX #[N ab x.b.epoch,N ab x.b.id,N ab x.b.time,.slice x.a x.b.txs.length x.cap,N ab x.b.place]]
def Qe(ho:Option nL)(cB:Nat)(S:ByteArray)(_:List BX)(W:U):Prop:=W.heap[1]? =ho/\lJ W/\rp W cB 9 (bB S)
def BY(T:List UInt8)(pre:List BX)(x:BX)(lo:Nat)(W:U):Prop:=Made W lo (.slice x.a x.b.txs.length x.cap) x.b.txs/\x.b.place=0/\∃p,yM T ((pre++[x]).map BX.b) p
def BS(T:List UInt8)(xs:List BX):Prop:=∃p,yM T (xs.map BX.b) p/\aeR T p
def I4(h:Im.nJ (Im.read Im.body 8) T is p):∀E:List Ba,is.map Vr=E.map M->yM T E p:=by
 induction h with
 |nil=>
  intro E z;cases E with
  |nil=>exact .nil
  |cons=>simp at z
 |@snoc l p i n _ hp hr ih=>
  intro E z;rw[bJ]at z;obtain rfl|⟨I,b,rfl⟩:=List.eq_nil_or_concat E
  .simp at z
  .rw[List.concat_eq_append]at z⊢;rw[bJ]at z;obtain⟨R,h2⟩:=oi z rfl;simp only[eP,fP,List.cons.injEq,and_true]at h2;exact .snoc (ih I R) hp hr h2
def Gw(h:Im.nJ (Im.read Im.body 8) T (is++[i]) p):∃z n,Im.nJ (Im.read Im.body 8) T is z/\z<T.length/\Im.read Im.body 8 (T.drop z)=M (i,n):=by
 generalize E:is++[i]=l at h;cases h with
 |nil=>simp at E
 |snoc h1 h2 h3=>
  obtain⟨rfl,e⟩:=oi E rfl;cases e;exact⟨_,_,h1,h2,h3⟩
def Cj{n d:Nat}(h:Im.read Im.body d T=M (i,n)):i.bytes.length<=T.length:=by
 cases d with
 |zero=>
  rw[Im.read]at h;split at h
  .cases h;simp only[dW,bK];omega
  .cases h
 |succ d=>
  rw[Im.read]at h;split at h
  .cases h
  .cases h;simp only[dW,bK];omega
  .rw[bI]at h;obtain⟨l,_,e⟩:=h;cases e;simp
structure EI(J:List BX->(Nat->Prop)->U->Prop)(ho:Option nL)(cB B0 l n0 n1:Nat)(S:ByteArray)(Wc:U)(pre:List BX)(F:Nat->Prop)(W0:U):Prop where
 j:J pre F W0
 jM:jI (λk=>F k/\NC W0 k) W0 Wc
 own:∀k,n0<=k->k<n1->F k\/W0.heap.size<=k
 nc:∀k,n1<=k+2->k<n1->W0.heap.size<=k\/NC W0 k
 st:Qe ho cB S pre Wc
 box:Wc.heap[B0]? =M (aG #[.func (.yield l) #[] #[]] 156 (0,0))
 big:n1<=↑Wc
def og{F:Nat->Prop}{A B:U}(h:jI F A B)(E:F j\/↑A<=j)(o:nL):jI F A (B.putObj j o):=
 ⟨h.os,h.tape,h.output,by simpa using h.size,λk hk z=>by
  rw[qT]
  .exact h.block k hk z
  .rintro rfl;obtain q|q:=E
   .exact z q
   .omega⟩
def TY{o:nL}(h:lJ W)(I:j≠1):lJ (W.putObj j o):=by have q0:(W.putObj j o).heap[1]? =W.heap[1]?:=qT (λe=>I e.symm);obtain⟨⟨E,R,Y⟩,a3,z,a5⟩:=h;exact⟨⟨(bX q0).trans E,(bX q0).trans R,(bX q0).trans Y⟩,(bX q0).trans a3,(bX q0).trans z,(bX q0).trans a5⟩
variable {J:List BX->(Nat->Prop)->U->Prop}{ho:Option nL}{cB B0 l n0 n1:Nat}{S:ByteArray}{Wc:U}{pre:List BX}{F:Nat->Prop}{W0:U}
def EI.free(h:EI J ho cB B0 l n0 n1 S Wc pre F W0)(E:n0<=j)(z:n1<=j+2)(h2:j<n1):(F j/\NC W0 j)\/↑W0<=j:=by
 obtain q|q:=h.nc j z h2
 .exact cD q
 .obtain r|r:=h.own j E h2
  .exact bE ⟨r,q⟩
  .exact cD r
def EI.put(h:EI J ho cB B0 l n0 n1 S Wc pre F W0)(o:nL)(E:n0<=j)(z:n1<=j+2)(h2:j<n1)(h3:1<n0)(h4:cB<n0)(I:B0≠j):EI J ho cB B0 l n0 n1 S (Wc.putObj j o) pre F W0:=
 ⟨h.j,og h.jM (h.free E z h2) o,h.own,h.nc,⟨(qT aA).trans h.st.1,TY h.st.2.1 aA,(qT aA).trans h.st.2.2⟩,(qT I).trans h.box,by rw[rh];exact h.big⟩
def EI.below(h:EI J ho cB B0 l n0 n1 S Wc pre F W0)(z:Below ↑Wc Wc W):EI J ho cB B0 l n0 n1 S W pre F W0:=
 ⟨h.j,h.jM.trans (.below z jB _) (λ_ _ e=>e),h.own,h.nc,⟨(z.block _ h.st.2.1.pos).trans h.st.1,h.st.2.1.below z h.st.2.1.pos,(z.block _ h.st.2.2.lt).trans h.st.2.2⟩,(z.block _ (jE h.box)).trans h.box,bH h.big z.size⟩
def EI.next(h:EI J ho cB B0 l n0 n1 S Wc pre F W0){x:BX}{E:U}(hj:J (pre++[x]) (wS F W0 Wc) E)(hs:↑Wc<=E.heap.size)(R:Qe ho cB S (pre++[x]) E)(hk:∀k,wS F W0 Wc k->E.heap[k]? =Wc.heap[k]?)(hB:n0<=B0)(Y:B0<n1)(hn:n0+2<=n1)(aa:∀k,n1<=k+2->k<n1->NC Wc k):EI J ho cB B0 l n0 n1 S E (pre++[x]) (wS F W0 Wc) E/\∀k,n0<=k->k<n1->E.heap[k]? =Wc.heap[k]?:=by
 have I:∀k,n0<=k->k<n1->wS F W0 Wc k:=λk z h2=>by
  have:=h.big;obtain q|q:=h.own k z h2
  .exact bE q
  .exact cD ⟨q,aA⟩
 exact⟨⟨hj,jI.refl _ _,λk z h2=>bE (I k z h2),λk z h2=>cD (λcs t fz e=>aa k z h2 cs t fz (by rw[<-hk k (I k aA h2)];exact e)),R,(hk B0 (I B0 hB Y)).trans h.box,bH h.big hs⟩,λk z h2=>hk k (I k z h2)⟩
def Jb(s:ByteArray)(w:U):dE PQ 83 #[bB s] w λe w'=>e=bO (.func (.func 140) #[] #[aD (M ⟨↑w,0,Z⟩),aD (M ⟨w.heap.size+1,0,Z⟩)])/\w'=(w.alloc (aG #[bB s] 9)).alloc (aG #[N ab 1] 3):=by
 have hc:=BZ s 1 w;have z:cH _:=λ(_:Unit)=>hc;clear hc;go_enter (fq Tryz.func83 rfl),Tryz.ntmps83;go_wp2_with (go_at_call 123;refine aT (z.out ()) ?_;rintro e w2 ⟨rfl,rfl⟩)
 go_ret;exact⟨rfl,rfl⟩
end
end Hm
section
open Go.RowKit
def pR(s:ByteArray)(i j:Nat):(s.extract i j).data.toList=(s.data.toList.take j).drop i:=by simp[ByteArray.data_extract,Array.toList_extract,List.drop_take]
def strLen:X->Nat|bB s=>s.size|_=>0
def J3(s:ByteArray)(I:0<s.size):Sq.piece s.data.toList=
  if s[0].toNat<128 then(if s[0].toNat+2<=s.size then M ((s.extract 1 (s[0].toNat+2)).data.toList,s[0].toNat+2)else Z)
  else if s[0].toNat=128 then Z
  else if 2<=s.size then M (Lib.repeatL (s.extract 1 2).data.toList (257-s[0].toNat),2)else Z:=by
 obtain⟨d⟩:=s;obtain⟨l⟩:=d;cases l with
 |nil=>simp[ByteArray.size]at I
 |cons c r=>
  have z:(⟨⟨c::r⟩⟩:ByteArray)[0]=c:=rfl;have E:(⟨⟨c::r⟩⟩:ByteArray).size=r.length+1:=rfl;rw[z,E];simp only[pR,Sq.piece];split
  .by_cases h:c.toNat+1<=r.length
   .rw[ZD h,ZD aA];rfl
   .rw[Zs h,Zs aA]
  .split
   .rfl
   .cases r with
    |nil=>simp
    |cons b q=>
     simp only[aU];rw[ZD aA];have:=Lib.repeatL_replicate b 1 (257-c.toNat);simp only[Nat.mul_one]at this;rw[<-this];rfl
def ac6(s:ByteArray)(w:U)(E:0<s.size)(hc:(s[0].toNat:Int)<128)(z:(s[0].toNat:Int)+2<=s.size):dE PQ 121 #[bB s] w λe w'=>e=bO (cQ #[bB (s.extract 1 (s[0].toNat+2)),N ab (s[0].toNat+2),cK aR])/\w'=w:=by
 go_enter (fq Tryz.func121 rfl),Tryz.ntmps121;go_wp2_with fail;go_ret3;exact⟨rfl,rfl⟩
def aco(s:ByteArray){L:List UInt8}(w:U)(E:s.size<=maxLen)(h0:0<s.size)(hc:128<(s[0].toNat:Int))(Y:2<=(s.size:Int))(I:cH (Lib.repeatL (s.extract 1 2).data.toList (257-s[0].toNat)=L)):dE PQ 121 #[bB s] w λe w'=>e=bO (cQ #[bB ⟨L.toArray⟩,N ab 2,cK aR])/\Below ↑w w w':=by
 unfold maxLen at E;have J:=s[0].toNat_lt;have R:(s[0].toNat:Int)<256:=aA
 clear J;go_enter (fq Tryz.func121 rfl),Tryz.ntmps121;go_wp2_with fail;rw[show((257:Int)-(s[0].toNat:Int))=((257-s[0].toNat:Nat):Int) from by omega]
 refine(repeated aA (by
  have:(s.extract 1 2).size<=1:=by simp[fA];omega
  have:=Nat.mul_le_mul this (show 257-s[0].toNat<=257 from by omega);omega)).mono ?_
 rintro e w1 ⟨rfl,z⟩;rw[I.out];go_wp2;go_ret3;exact⟨rfl,z⟩
def afN(s:ByteArray)(w:U)(z:s.size<=maxLen)(R:0<s.size)(hc:(s[0].toNat:Int)=128\/(128<(s[0].toNat:Int)/\(s.size:Int)<2)\/((s[0].toNat:Int)<128/\(s.size:Int)<(s[0].toNat:Int)+2)):dE PQ 121 #[bB s] w λe w'=>e=bO (cQ #[bB ⟨#[]⟩,N ab 0,cK aL])/\w'=w:=by
 unfold maxLen at z;have E:=s[0].toNat_lt;have I:(s[0].toNat:Int)<256:=aA
 clear E;obtain hc|⟨hc,hd⟩|⟨hc,hd⟩:=hc
 .have J:((s[0].toNat:Int) == 128)=aR:=by simp[hc]
  clear hc;go_enter (fq Tryz.func121 rfl),Tryz.ntmps121;go_wp2_with fail;go_ret3;exact⟨rfl,rfl⟩
 .go_enter (fq Tryz.func121 rfl),Tryz.ntmps121;go_wp2_with fail;go_ret3;exact⟨rfl,rfl⟩
 .go_enter (fq Tryz.func121 rfl),Tryz.ntmps121;go_wp2_with fail;go_ret3;exact⟨rfl,rfl⟩
def aaT(s:ByteArray)(t:List UInt8)(n:Nat){w:U}(E:s.size<=maxLen)(hp:Sq.piece s.data.toList=M (t,n)):dE PQ 121 #[bB s] w λe w'=>e=bO (cQ #[bB ⟨t.toArray⟩,N ab n,cK aR])/\Below ↑w w w':=by
 have z:0<s.size:=by
  have:=(Sq.LH hp)
  rw[bD];omega
 rw[J3 s z]at hp;split at hp
 .split at hp
  .simp only[aK,dJ]at hp;obtain⟨rfl,rfl⟩:=hp;refine(ac6 s w z aA aA).mono ?_;rintro e w' ⟨rfl,rfl⟩;exact⟨rfl,aJ _ _⟩
  .simp at hp
 .split at hp
  .simp at hp
  .split at hp
   .simp only[aK,dJ]at hp;obtain⟨rfl,rfl⟩:=hp;exact aco s w E z aA aA rfl
   .simp at hp
def abl(s:ByteArray){w:U}(E:s.size<=maxLen)(z:0<s.size)(hp:Sq.piece s.data.toList=Z):dE PQ 121 #[bB s] w λe w'=>e=bO (cQ #[bB ⟨#[]⟩,N ab 0,cK aL])/\w'=w:=by
 rw[J3 s z]at hp;refine afN s w E z ?_;split at hp
 .split at hp
  .simp at hp
  .right;right;omega
 .split at hp
  .left;omega
  .split at hp
   .simp at hp
   .right;left;omega
def NM(s:ByteArray)(most:Int)(w:U)(hs:s.size<=2097152)(ar:-9223372036854775808<=most)(au:most<=9223372036854775807):dE PQ 82 #[bB s,N ab most] w λe w'=>e=bO (cQ #[bB ⟨(Sq.spread s.size s.data.toList most []).1.toArray⟩,.bool (Sq.spread s.size s.data.toList most []).2])/\Below ↑w w w':=by
 generalize hR:Sq.spread s.size s.data.toList most []=R;have HR:cH _:=hR;clear hR;go_enter (fq Tryz.func82 rfl),Tryz.ntmps82;go_wp2_with fail;go_loopw [0] (λv wr=>∃(s':ByteArray)(f:Nat)(out:List UInt8),v=bB s'/\s'.size<=f/\Sq.spread f s'.data.toList most out=R/\out.length+128*s'.size<=268435456/\(out=[]\/(out.length:Int)<=most)/\Zb w.heap.size w.heap.size out wr/\Below w.heap.size w wr) (λv _=>strLen v)
 case atStart=>
  refine⟨s,_,[],rfl,jB,HR.out,aF,bE rfl,fresh w,(aJ _ w).alloc jB _⟩
 case round=>
  obtain⟨s',f,out,rfl,hf,J,ap,ac,hI,I⟩:=hrel;by_cases h0:0<s'.size
  .have am:(!s'.toList.isEmpty)=aR:=by rw[toList_empty,ZZ aA];rfl
   cases hp:Sq.piece s'.data.toList with
   |none=>
    have z:cH (R=(out,aL)):=by
     rw[<-J];exact Sq.Ns (by rw[<-bD];exact h0) (by rw[<-bD];exact hf) hp
    clear J ac;go_wp2_with fail;refine(abl s' (by unfold maxLen;omega) h0 hp).mono ?_;rintro e w1 ⟨rfl,rfl⟩;go_wp2_with fail;refine(AU out _ hI (by have:=I.size;omega)).mono ?_;rintro e w2 ⟨rfl,_,Y⟩;go_wp2;go_ret2;rw[z.out];exact⟨rfl,I.trans Y⟩
   |some tn=>
    obtain⟨t,n⟩:=tn;have an:=Sq.LH hp;rw[<-bD]at an;have av:-9223372036854775808<=most-(out.length:Int):=by obtain h|h:=ac;simp[h];omega;omega
    have aw:most-(out.length:Int)<=9223372036854775807:=aA
    have af:cH _:=ac;clear ac;have ak:cH _:=J;clear J;have Hp:cH _:=hp;clear hp;go_wp2_with fail;refine(aaT s' t n (by unfold maxLen;omega) Hp.out).mono ?_;rintro e w1 ⟨rfl,Y⟩;have ah:=EL hI Y;have aa:=I.trans (Y.mono I.size);go_wp2_with fail;refine(agW out ah).mono ?_;rintro e w2 ⟨rfl,rfl⟩;go_wp2_with fail
    .have E:max (most-(out.length:Int)) 0<(t.length:Int):=by assumption
     have aq:(({ data:=t.toArray }:ByteArray).extract 0 (max (most-(out.length:Int)) 0).toNat).size<=t.length:=by
      rw[bD,pR];simp;omega
     have z:cH (R=(out++(({ data:=t.toArray }:ByteArray).extract 0 (max (most-(out.length:Int)) 0).toNat).data.toList,aL)):=by
      show _=_
      rw[<-ak.out,Sq.zU _ _ _ _ t n (by rw[<-bD];exact h0) (by rw[<-bD];exact hf) Hp.out];rw[ZD (by obtain h|h:=af.out;simp[h]at E⊢;omega;omega)];rw[pR];simp only[List.drop_zero]
      congr 3
      obtain h|h:=af.out
      .simp[h]
      .omega
     refine(O1 out _ _ ah aA (by have:=aa.size;omega)).mono ?_;rintro e w3 ⟨rfl,ae,ag⟩;go_wp2_with fail;refine(AU _ _ ae (by have:=aa.size;have:=ag.size;omega)).mono ?_;rintro e w4 ⟨rfl,_,ao⟩;generalize out++(({ data:=t.toArray }:ByteArray).extract 0 (max (most-(out.length:Int)) 0).toNat).data.toList=Wd at z ae⊢;go_wp2;go_ret2;rw[z.out];exact⟨rfl,(aa.trans ag).trans ao⟩
    .have E:(t.length:Int)<=max (most-(out.length:Int)) 0:=by assumption
     refine(O1 out _ _ ah (by show _+t.toArray.size<=_;simp;omega) (by have:=aa.size;omega)).mono ?_;rintro e w3 ⟨rfl,ae,ag⟩;go_wp2;go_roundw
     case rel=>
      have aj:(s'.extract n s'.size).size=s'.size-n:=by simp[fA]
      refine⟨_,f-1,_,rfl,aA,?_,?_,?_,ae,aa.trans ag⟩
      .rw[<-ak.out,Sq.zU _ _ _ _ t n (by rw[<-bD];exact h0) (by rw[<-bD];exact hf) Hp.out];rw[Zs (by obtain h|h:=af.out;simp[h]at E⊢;omega;omega)];rw[pR,bD,iJ]
      .rw[aj,aS];omega
      .right;rw[aS];obtain h|h:=af.out
       .simp[h]at E⊢;omega
       .omega
     case measure=>
      have aj:(s'.extract n s'.size).size=s'.size-n:=by simp[fA]
      simp[strLen];omega
  .have am:(!s'.toList.isEmpty)=aL:=by rw[toList_empty,Z0 aA];rfl
   go_wp2_with fail;refine(AU out _ hI (by have:=I.size;omega)).mono ?_;rintro e w1 ⟨rfl,_,Y⟩
   have ai:s'.data.toList=[]:=by
    have:=bD s';exact bP aA
   rw[ai,Sq.O7]at J;subst J;go_wp2;go_ret2;exact⟨rfl,I.trans Y⟩
end
namespace Hm
open Go.RowKit Go.Joins Go.Shelf
open Fr (below_drewN)
open Dv (Ba)
attribute [local go_sem] Oper.semAt_some
variable {xs:List Wd}
def textOf(s:List UInt8):List UInt8:=(Sq.spread s.length s 4096 []).1
def ru(xs:List Wd)(z:List BX):Prop:=xs.map (λx=>Vr x.i)=z.map (λx=>M x.b)
def ru.snoc{xs:List Wd}{z:List BX}(h:ru xs z){x:Wd}{y:BX}(E:Vr x.i=M y.b):ru (xs++[x]) (z++[y]):=by unfold ru at h⊢;rw[bJ,bJ,h];simp[E]
def ru.acr{z:List BX}(h:ru xs z){T:List UInt8}{p:Nat}(E:Im.nJ (Im.read Im.body 8) T (xs.map Wd.i) p):yM T (z.map BX.b) p:=I4 E _ (by
 unfold ru at h;rw[jr,jr];exact h)
def EJ(J:List BX->(Nat->Prop)->U->Prop)(ho:Option nL)(E R l n0 Y:Nat)(S:ByteArray)(xs:List Wd)(Wc:U):Prop:=∃z F I,EI J ho E R l n0 Y S Wc z F I/\ru xs z
def EX(J Y:List BX->(Nat->Prop)->U->Prop)(R I:Nat)(c:eE)(xs:List Wd)(Wc:U):Prop:=c=.ret/\((∃E F z xs' x,J E F z/\jI (λk=>F k/\NC z k) z Wc/\(∀k,R<=k->I<=k+2->k<I->(F k/\NC z k)\/z.heap.size<=k)/\xs=xs'++[x]/\ru xs' E/\Vr x.i=Z)\/(∃E F z,Y E F z/\jI (λk=>F k/\NC z k) z Wc/\∀k,R<=k->I<=k+2->k<I->(F k/\NC z k)\/z.heap.size<=k))
def EX.put{J Jx:List BX->(Nat->Prop)->U->Prop}{n0 R:Nat}{c:eE}{Wc:U}(h:EX J Jx n0 R c xs Wc){j:Nat}(o:nL)(h1:n0<=j)(I:R<=j+2)(h2:j<R):EX J Jx n0 R c xs (Wc.putObj j o):=by
 obtain⟨hc,⟨z,F,Y,xs',x,q1,q2,E,q4⟩|⟨z,F,Y,q1,q2,E⟩⟩:=h
 .exact⟨hc,bE ⟨z,F,Y,xs',x,q1,og q2 (E j h1 I h2) o,E,q4⟩⟩
 .exact⟨hc,cD ⟨z,F,Y,q1,og q2 (E j h1 I h2) o,E⟩⟩
def Ce{B:Nat}{G W:U}(h:Below ↑G G W)(z:B+1<G.heap.size):qm B G W:=⟨h.size,h.block B aA,h.block (B+1) z⟩
def Aw(ho:Option nL)(cB:Nat)(S:ByteArray)(hs:S.size<=4096):Za PQ 81 #[aD (M ⟨cB,0,Z⟩)] BX.encs (Qe ho cB S) (BY (textOf S.data.toList)) (BS (textOf S.data.toList)) (λ_=>True):=by
 intro l J Jx W cd aw bg bq;obtain⟨TB,a2⟩:∃TB:ByteArray,(⟨(Sq.spread S.size S.data.toList 4096 []).1.toArray⟩:ByteArray)=TB:=⟨_,rfl⟩
 obtain⟨az,a6⟩:∃b:Bool,(Sq.spread S.size S.data.toList 4096 []).2=b:=⟨_,rfl⟩
 have hT:textOf S.data.toList=TB.data.toList:=by
  rw[<-a2];unfold textOf;rw[<-bD]
 have ci:TB.size<=4096:=by
  have:=Dv.qy S.size S.data.toList 4096 [] (by simp only[bY];omega);rw[<-a2]
  show(Sq.spread S.size S.data.toList 4096 []).1.toArray.size<=4096
  rw[dR];omega
 rw[hT]at bg⊢;have aj:=λw=>NM S 4096 w aA aA aA;rw[a2,a6]at aj;have bm:cH _:=aj;have HY:cH _:=bg;have b0:cH _:=bq;have bo:=aw.2.2.lt;have b5:=λo=>(((aJ _ W).alloc jB o).cell (p:=⟨cB,0,Z⟩) bo).trans aw.2.2.cell;have a0:=aw.2.1.pos;have HS:cH _:=aw;clear bg bq aw aj a2 a6 hT;refine gO.2 (gO.1 (callsIn_of_wp_marks (n:=3) (fq Tryz.func81 rfl) rfl trivial ?_ rfl));simp only[Tryz.ntmps81,dR,aU,bY,Nat.reduceAdd,Nat.reduceSub,dH,dG,dU,dI,dS,dN];gi_wp2;refine⟨trivial,(gO.2 (bm.out _)).mono ?_⟩;rintro e w2 ⟨rfl,aq⟩;gi_wp2;refine⟨trivial,(gO.2 (Jb TB w2)).mono ?_⟩;rintro e w3 ⟨rfl,ar⟩;have bs:Below ↑w2 w2 w3:=by rw[ar];exact((aJ _ w2).alloc jB _).alloc aC _
 have ac:↑w3=w2.heap.size+2:=by rw[ar];simp
 have bj:∀(a b:nL)(k:Nat),((w2.alloc a).alloc b).heap[k]? =if k=w2.heap.size+1 then M b else if k=w2.heap.size then M a else w2.heap[k]?:=by
  intro a b k;simp only[World.alloc,iy,Array.size_push]
 have c0:w3.cell? ⟨↑w2,0,Z⟩=M (bB TB):=by
  have:w3.heap[w2.heap.size]? =M (aG #[bB TB] 9 (0,0)):=by rw[ar,bj];simp
  rw[aI this];rfl
 have c1:w3.cell? ⟨w2.heap.size+1,0,Z⟩=M (N ab 1):=by
  have:w3.heap[w2.heap.size+1]? =M (aG #[N ab 1] 3 (0,0)):=by rw[ar,bj];simp
  rw[aI this];rfl
 obtain⟨V,hV,bn,bz⟩:=jD W #[.func (.yield l) #[] #[]] 156;have cf:↑V=W.heap.size+1:=by rw[hV];simp
 rw[<-hV]at aq;have a3:=aq.trans (bs.mono aq.size);have cg:=aq.size
 have a8:∀o1 o2,EI J ho cB ↑W l ↑W (w3.heap.size+2) S ((w3.alloc o1).alloc o2) [] (λ_=>False) W:=λo1 o2=>by
  have z:Below ↑w3 w3 ((w3.alloc o1).alloc o2):=((aJ _ w3).alloc jB _).alloc aC _;have E:=a3.trans (z.mono aA);have R:=bn.trans (E.mono aA);exact⟨b0.out,.below R jB _,λk h1 _=>cD h1,λk h1 _=>bE aA,⟨(R.block _ a0).trans HS.out.1,HS.out.2.1.below R a0,(R.block _ bo).trans HS.out.2.2⟩,(E.block _ aA).trans bz,aC⟩
 have br:=HS.out.2.1.below (bn.trans (a3.mono aA)) a0;have bb:=Nh 8 (yA 8) TB 1 (w2.heap.size+1) w3 aA rfl br aA c0 (by simpa using c1) aA aA;have H0:cH _:=jy bb (jy a8 a3);clear ar bj hV bz a3 aq bs bn c0 c1 br bb a8 b5;gi_wp2
 refine xK (gf:=140) (lb:=#[aD (M ⟨↑w2,0,Z⟩),aD (M ⟨w2.heap.size+1,0,Z⟩)]) rfl (enters_of (fq Tryz.func140 rfl) XN rfl) H0.out.1 (aJ _ _) (by rintro k (rfl|rfl|rfl)<;>omega) (λaa x lo W W' h hs hx=>XE.turn 8 TB aa x lo W W' h hs hx) (λ_=>rfl)
  (EJ J ho cB ↑W l ↑W (w3.heap.size+2) S) (EX J Jx ↑W (w3.heap.size+2))
  (by
   rintro xs A r o ⟨aa,F,W0,h,hp⟩ hl;have bl:=(jE hl)
   exact⟨aa,F,W0,h.put _ aA aA aA a0 bo aA,hp⟩)
  (by
   rintro c xs A r o h hl;have bl:=(jE hl)
   exact h.put _ aA aA aA)
  (λo1 o2=>⟨[],_,_,H0.out.2.1 o1 o2,rfl⟩)
  (λx B=>{ tmps:=#[.func (.yield l) #[] #[],aD (M ⟨cB,0,Z⟩),aD (M ⟨↑W,0,Z⟩),bB TB,.bool az,aE,aD (M ⟨B,0,Z⟩),aE,aE,cQ #[bB TB,.bool az],bB S,cQ #[bB TB,.bool az],bB TB,.bool az,bB TB,.func (.func 140) #[] #[aD (M ⟨↑w2,0,Z⟩),aD (M ⟨w2.heap.size+1,0,Z⟩)],N ab x.e,fX #[.bool x.i.list,bB ⟨x.i.bytes.toArray⟩,.slice x.a x.i.kids.length x.cap],aE,aE,aE,aE,aE,aE,aE,aE,aE,aE,aE,aE,aE],defers:=[] })
  (λx=>aG #[.bool x.i.list,bB ⟨x.i.bytes.toArray⟩,.slice x.a x.i.kids.length x.cap] 164) ?assign ?body ?done ?stop
 case assign=>
  intro l x W K hK;simp only[Wd.encs];gi_wp2;exact hK
 case body=>
  rintro lp xs x bp W1 cj ca bd a7 ⟨aa,F,W0,hI,hP⟩ hb ⟨⟨cc,b1⟩,p,ai⟩;have af:=hI.below hb
  have a9:∀k,w3.heap.size+2<=k+2->k<w3.heap.size+2->NC W1 k:=λk h1 h2=>by
   obtain rfl|rfl:=(show k=w3.heap.size\/k=w3.heap.size+1 by omega)
   .exact bd
   .exact a7
  have ce:x.i.bytes.length<=4096:=by
   rw[bJ]at ai;obtain⟨p',n,_,_,h3⟩:=Gw ai;have:=Cj h3;rw[dW,<-bD]at this;omega
  obtain⟨IB,bu⟩:∃IB:ByteArray,(⟨x.i.bytes.toArray⟩:ByteArray)=IB:=⟨_,rfl⟩
  obtain⟨G,hG,gb,-⟩:=jD W1 #[.bool x.i.list,bB ⟨x.i.bytes.toArray⟩,.slice x.a x.i.kids.length x.cap] 164;rw[<-hG];have gs:↑G=W1.heap.size+1:=by rw[hG];simp
  have gk:G.heap[W1.heap.size]? =M (aG #[.bool x.i.list,bB IB,.slice x.a x.i.kids.length x.cap] 164 (0,0)):=by rw[hG,<-bu];exact cT _ _
  obtain⟨k0,k1,k2⟩:=cells3 gk;have I:=af.below gb;have ah:∀k,w3.heap.size+2<=k+2->k<w3.heap.size+2->NC G k:=λk h1 h2 cs t fz e=>a9 k h1 h2 cs t fz (by rw[<-gb.block k (by have:=af.big;omega)];exact e);have av:=Nw x.i (.slice x.a x.i.kids.length x.cap) G ⟨_,_,_,rfl⟩ aA I.st.2.1;rw[bu]at av⊢;have ba:cH _:=λ(_:Unit)=>av;have HI:cH _:=jy I (jy hP (jy ai (jy hb (jy gb (jy gs ah)))));have b6:↑W<G.heap.size:=by have:=I.big;omega
  have b8:=I.big;have bh:=kJ I.box;clear hI af hP ai hb gb gk hG b1 I av a9 ah bd a7;generalize a1:Vr x.i=q;cases q with
  |none=>
   gi_wp2;refine⟨trivial,(CallsIn.inRound _ (gO.2 (ba.out ()))).mono ?_⟩;rintro e w4 ⟨ak,z⟩;rw[a1]at ak;have ak:e=_:=ak;subst ak;gi_wp2;refine⟨(λ_ h=>by cases h),?_⟩;gi_wp2;obtain⟨I,hP,ai,hb,gb,gs,ah⟩:=HI.out;have E:=z.trans (((aJ _ w4).alloc jB (aG #[N ab 0,N ab 0,N ab 0,aH Z 0 0,N ab 0] 118)).mono z.size);have Y:=I.below E;exact⟨Ce E aA,rfl,bE ⟨aa,F,W0,xs,x,Y.j,Y.jM,λk h0 h1 h2=>Y.free h0 h1 h2,rfl,hP,a1⟩⟩
  |some b=>
   gi_wp2;refine⟨trivial,(CallsIn.inRound _ (gO.2 (ba.out ()))).mono ?_⟩;rintro e w4 ⟨ak,z⟩;rw[a1]at ak;obtain⟨a4,au,rfl,bk,bv⟩:=ak;unfold P9;have b9:=λo=>((z.trans (((aJ _ w4).alloc jB o).mono z.size)).cell (p:=⟨↑W,0,Z⟩) b6).trans bh;obtain⟨X5,b3,E,-⟩:=jD w4 #[N ab b.epoch,N ab b.id,N ab b.time,.slice a4 b.txs.length au,N ab b.place] 118;obtain⟨I,hP,ai,hb,gb,gs,ah⟩:=HI.out;have Y:=I.below (z.trans (E.mono z.size));have ao:ru (xs++[x]) (aa++[⟨b,a4,au⟩]):=hP.snoc a1;obtain⟨fn,tmps,assign,body,b7,hR⟩:=HY.out aa _ F W0 X5 Y.j Y.jM ⟨⟨Row.below bk.1 E,λg hg=>bH (bH I.jM.size aA) (bk.2 g hg)⟩,bv,p,ao.acr ai⟩;simp only[BX.encs]at b7;have HR:cH _:=hR;have ag:∀k,w3.heap.size+2<=k+2->k<w3.heap.size+2->NC X5 k:=λk h1 h2 cs t fz e=>ah k h1 h2 cs t fz (by rw[<-(z.trans (E.mono z.size)).block k aA];exact e);have H5:cH _:=jy Y (jy ao (jy z (jy E ag)));clear hR Y ao I hP ai hb gb bk bv E ag ah;subst b3;gi_wp2;refine RoundIn.mono (Jl HR.out) ?_;rintro e W3 (⟨rfl,a5,ac,ap,ae⟩|⟨rfl,an,ac,ae⟩)
   .have H3:cH _:=jy a5 (jy ac (jy ap ae));clear a5 ac ap ae;gi_wp2;obtain⟨a5,ac,ap,ae⟩:=H3.out;obtain⟨Y,ao,z,E,ag⟩:=H5.out;have I:=HI.out.1;have R:=z.trans (E.mono z.size);obtain⟨b4,ay⟩:=Y.next a5 ac ap ae jB aA aA ag;refine⟨⟨bH R.size ac,(ay _ aA aA).trans (R.block _ aA),(ay _ aA aA).trans (R.block _ aA)⟩,?_,_,_,_,b4,ao⟩;rintro k (rfl|rfl|rfl)
    .exact ap.1.trans I.st.1.symm
    .exact(ay _ aA aA).trans (R.block _ aA)
    .exact(ay _ aA aA).trans (R.block _ aA)
   .have H3:cH _:=jy an (jy ac ae);clear an ac ae;gi_wp2;obtain⟨an,ac,ae⟩:=H3.out;obtain⟨Y,ao,z,E,ag⟩:=H5.out;have R:=z.trans (E.mono z.size)
    have ha:∀k,W.heap.size<=k->k<w3.heap.size+2->wS F W0 (w4.alloc (aG #[N ab b.epoch,N ab b.id,N ab b.time,.slice a4 b.txs.length au,N ab b.place] 118)) k:=λk h1 h2=>by
     have:=Y.big;obtain q|q:=Y.own k h1 h2
     .exact bE q
     .exact cD ⟨q,aA⟩
    exact⟨⟨bH R.size ac,(ae _ (ha _ aA aA)).trans (R.block _ aA),(ae _ (ha _ aA aA)).trans (R.block _ aA)⟩,rfl,cD ⟨_,_,W3,an,jI.refl _ _,λk h0 h1 h2=>bE ⟨ha k h0 h2,λcs t fz e=>ag k h1 h2 cs t fz (by rw[<-ae k (ha k h0 h2)];exact e)⟩⟩⟩
 case done=>
  rintro D xs bp bw hD bl ⟨p,he,b2,am⟩ ⟨aa,F,W0,hI,hP⟩ hb hK;have af:=hI.below hb;have HF:cH _:=jy af (jy hP (jy he am));clear hI af hP he am hb;gi_wp2;refine⟨aC,bE ⟨_,_,rfl,rK hK,?_⟩⟩;obtain⟨af,hP,he,am⟩:=HF.out;refine⟨_,pC rfl _ _ _,⟨_,rfl⟩,bE ⟨aa,F,W0,⟨p,hP.acr he,?_⟩,af.j,og af.jM (af.free (j:=D) aA aA aA) _⟩⟩;obtain h|⟨_,h⟩:=am
  .exact bE (by rw[<-bD];exact h)
  .exact cD (bE h)
 case stop=>
  rintro D c xs bp bw hD bl ⟨p,he,b2⟩ ⟨rfl,hx⟩ hb hK;have HF:cH _:=jy hx (jy he hb);clear hx he hb;gi_wp2;refine⟨aC,bE ⟨_,_,rfl,rK hK,?_⟩⟩;obtain⟨hx,he,hb⟩:=HF.out;refine⟨_,pC rfl _ _ _,⟨_,rfl⟩,?_⟩;obtain⟨aa,F,W0,xs',x,q1,q2,q3,rfl,q5,q6⟩|⟨aa,F,W0,q1,q2,q3⟩:=hx
  .rw[bJ]at he;obtain⟨p',n,e1,e2,e3⟩:=Gw he;exact bE ⟨aa,F,W0,⟨p',q5.acr e1,cD (cD ⟨_,_,e3,q6⟩)⟩,q1,og (q2.trans (.below hb jB _) (λ_ _ e=>e)) (q3 D aA aA aA) _⟩
  .exact cD ⟨aa,F,W0,trivial,q1,og (q2.trans (.below hb jB _) (λ_ _ e=>e)) (q3 D aA aA aA) _⟩
end Hm
namespace Hm
open Go.RowKit Go.Joins
open Dv (Ch Fine)
open Fr (F below_drewN)
def Chs.more{w w3 w5:U}{nb:Nat}{vo aj:X}{nm:AL}{os:List PC}{o':PC}(h:Chs w nb vo nm os)(ah:lS w3 nb eA (vG nm o'.ch.name (ptr o'.blk)))(an:jI (λk=>k=nb) w w3)(am:ChanAt w3 o')(ag:w.heap.size<=o'.blk)(J:∀b,o'.fm=M b->w.heap.size<=b)(ak:Row w5 136 1 aj (os.length+1) ((os.map λo=>ptr o.blk)++[ptr o'.blk]))(af:jI (λk=>vo.ownBlock=M k) w3 w5):Chs w5 nb aj (vG nm o'.ch.name (ptr o'.blk)) (os++[o']):=by
 have aa:∀k,vo.ownBlock=M k->k≠nb:=λk hk e=>by
  obtain⟨ai,hc⟩:=h.order.obj hk;exact lg hc h.named e
 have ac:∀o,o∈os->vo.ownBlock≠M o.blk:=λo ho hk=>by
  obtain⟨ai,hc⟩:=h.order.obj hk;have:=(h.chans o ho).obj;unfold vW at this;rw[hc]at this;simp at this
 have R:∀o,o∈os->∀b,o.fm=M b->vo.ownBlock≠M b:=λo ho b z hk=>by
  obtain⟨ai,hc⟩:=h.order.obj hk;cases hs:o.ch.spoilt
  .obtain⟨⟨B,e,hm⟩,_⟩:=(h.chans o ho).sound hs;rw[e]at z;cases z;exact lg hc hm rfl
  .rw[((h.chans o ho).spoilt hs).2]at z;cases z
 have ae:=λo ho=>lg (h.chans o ho).obj h.named;have Y:=λo ho=>(dY.1 (h.chans o ho).obj).1;have I:∀o,o∈os->∀b,o.fm=M b->b<w.heap.size:=λo ho b z=>h.qZ (cD (cD ⟨o,ho,cD z⟩));have E:∀k,w.heap.size<=k->vo.ownBlock≠M k:=λk hk e=>by have:=h.order.lt e;omega
 refine⟨ah.of_block (af.block _ ah.lt (λe=>aa _ e rfl)),?_,?_,?_,?_,?_,?_⟩
 .rw[aS,bJ];exact ak
 .intro o ho;obtain ho|ho:=dM.1 ho
  .exact((h.chans o ho).jM an (ae o ho) (λb z e=>h.far o ho (by rw[z,e]))).jM af (ac o ho) (R o ho)
  .rw[dK.1 ho];exact am.jM af (E _ ag) (λb z=>E _ (J b z))
 .rw[bJ];refine List.nodup_append.2 ⟨h.apart,aC,λa ha b z e=>?_⟩;obtain⟨o,ho,rfl⟩:=bM.1 ha;simp at z;have:=Y o ho;omega
 .intro a b ha z x h1 h2;rcases dM.1 ha with ha|ha<;>obtain z|z:=dM.1 z
  .exact h.maps a b ha z x h1 h2
  .rw[dK.1 z]at h2;have:=J x h2;have:=I a ha x h1;omega
  .rw[dK.1 ha]at h1;have:=J x h1;have:=I b z x h2;omega
  .rw[dK.1 ha,dK.1 z]
 .intro o ho e;obtain ho|ho:=dM.1 ho
  .exact h.far o ho e
  .rw[dK.1 ho]at e;have:=J _ e;have:=h.named.lt;omega
 .intro p hp;unfold vG at hp;split at hp
  .obtain⟨q,hq,e⟩:=bM.1 hp;by_cases hk:q.1=o'.ch.name
   .rw[ZD hk]at e;exact⟨o',aC,e.symm⟩
   .rw[Zs hk]at e;obtain⟨o,ho,e'⟩:=h.entries q hq;exact⟨o,by simp[ho],by rw[<-e,e']⟩
  .obtain hp|hp:=dM.1 hp
   .obtain⟨o,ho,e'⟩:=h.entries p hp;exact⟨o,by simp[ho],e'⟩
   .exact⟨o',aC,dK.1 hp⟩
def XW:(PQ.info? 136).map (λi=>(i.zero,i.size,i.bytes))=M (M (aD Z),1,8):=XN
def open_any(kb nb:Nat)(cs:Array X)(vo:X)(nm:AL)(os:List PC)(name n:Nat)(w:U)(hk:w.heap[kb]? =M (aG cs 100 (0,0)))(h8:cs[8]? =M (.map (M nb)))(h9:cs[9]? =M vo)(h:Chs w nb vo nm os)(a9:os.length<=4294967296):dE PQ 75 #[aD (M ⟨kb,8,Z⟩),N eA name,N ab n] w λe w'=>e=bO (cQ #[])/\∃(ar:X)(o':PC),w'.heap[kb]? =M (aG (cs.setIfInBounds 9 ar) 100 (0,0))/\o'.ch=⟨name,n,[],aL⟩/\Chs w' nb ar (vG nm name (ptr o'.blk)) (os++[o'])/\w.heap.size<=o'.blk/\(∀b,o'.fm=M b->w.heap.size<=b)/\(∀k,ar.ownBlock=M k->vo.ownBlock=M k\/w.heap.size<=k)/\jI (λk=>k=kb\/k=nb\/vo.ownBlock=M k) w w':=by
 obtain⟨W2,ac⟩:∃W2,W2=(w.alloc (.map #[] 0)).alloc (aG #[N eA name,N ab n,.map (M ↑w),N ab 0,cK aL,N lB 0,cK aL] 140):=⟨_,rfl⟩
 have aa:Below ↑w w W2:=by rw[ac];exact((aJ _ w).alloc jB _).alloc aC _
 have ap:↑W2=w.heap.size+2:=by rw[ac];simp
 have aw:lS W2 ↑w lB (uj []):=by
  rw[ac];exact(lS.made w _).of_block (aZ _ _ _ aC)
 have a0:W2.heap[w.heap.size+1]? =M (vW ⟨w.heap.size+1,M ↑w,⟨name,n,[],aL⟩,0,aL,0⟩):=by
  rw[ac];have:=cT (w.alloc (.map #[] 0)) (aG #[N eA name,N ab n,.map (M ↑w),N ab 0,cK aL,N lB 0,cK aL] 140);simp only[fB]at this;exact this
 have ay:ChanAt W2 ⟨w.heap.size+1,M ↑w,⟨name,n,[],aL⟩,0,aL,0⟩:=⟨a0,Dv.Kz,λx hx=>by simp at hx,aC,λ_=>⟨⟨_,rfl,aw⟩,by simp[Dv.size],by simp[Dv.size],by simp[Dv.last],by simp[Dv.last]⟩,λh=>by simp at h⟩
 have J:=h.below aa;have Y:W2.heap[kb]? =_:=(aa.block _ (jE hk)).trans hk;obtain⟨w3,af,aj,aq,an⟩:=J.named.update (P:=PQ) (uq po) (uq lx) name (ptr (w.heap.size+1));have a6:=lg hk h.named;have e8:W2.cell? ⟨kb,8,Z⟩=M (.map (M nb)):=by rw[aI Y];exact h8
 have ah:w3.heap[kb]? =_:=(aq.block _ (jE Y) (by simp[a6])).trans Y;have e9:w3.cell? ⟨kb,9,Z⟩=M vo:=by rw[aI ah];exact h9
 have z:jI (λk=>k=nb) W2 w3:=(jI.grown aq).mono (λk _ e=>by simpa using e.symm);have ai:=ay.jM z (by have:=h.named.lt;dsimp only;omega) (λb hb=>by cases hb;have:=h.named.lt;omega);obtain⟨a,cap,rfl⟩:=h.order.slice;unfold ptr at af
 have ae:=λobj=>(J.order.jM z (λg hg e=>by
  obtain⟨a7,hc⟩:=J.order.obj hg;exact lg hc J.named e)).below ((aJ _ w3).alloc jB obj)
 have ag:cH _:=ae;have H:cH _:=jy ah (jy J (jy aj (jy z (jy ai (jy ap (jy aa (jy an (jy hk h))))))));obtain⟨i0,a4,au,a5,a2⟩:=pa XW;have Hi:cH _:=jy a4 (jy au (jy a5 a2));have az:=(jE ah)
 clear hk h aa aw a0 ay J Y aj aq an ah z ai ae ap a4 au a5 a2 h8;go_enter (fq Tryz.func75 rfl),Tryz.ntmps75;have bd:=@run_makeMap PQ;go_upto_region 1 with fail;rw[<-ac];clear ac;go_upto_region 2 with fail;clear e8 af;go_wp2_with (first|(at_builtin;refine kX _ rfl (.tmp 22) (.tmp 24) 94 rfl 136 i0 _ 1 8 (uq Tryz.underlying94) Hi.out.1 Hi.out.2.1 Hi.out.2.2.1 Hi.out.2.2.2 rfl aB _ _ _ rfl (ag.out _) _ 1 1 [aD (M ⟨w.heap.size+1,0,Z⟩)] rfl aB rfl (by intro j u hj;match j,hj with|0,hj=>(simp at hj;subst hj;simp[Addr.add])) (by intro u hu;simp at hu;subst hu;rfl) (by unfold maxLen;omega) aA ?_;intro g off av w5 I E;have R:=(E.keep (ag.out _) ((aZ _ _ _ az).trans H.out.1) aB);have c9:w5.cell? ⟨kb,9,Z⟩=M (.slice a os.length cap):=(by rw[aI R];exact h9);have bb:=aQ R;have a8:cH _:=jy I (jy E R);clear I E R)|go_in)
 go_end0;obtain⟨I,E,R⟩:=a8.out;obtain⟨ah,J,aj,z,ai,ap,aa,an,hk,h⟩:=H.out;have ak:jI (λk=>(aH a os.length cap).ownBlock=M k) w3 w5:=(jI.alloc _ w3 _).trans E.jM (λ_ _ e=>e)
 have ba:(aH a os.length cap).ownBlock≠M kb:=λe=>by
  obtain⟨a7,hc⟩:=h.order.obj e;rw[hk]at hc;simp at hc
 have a1:=(jI.below aa jB _).trans z (λ_ _ e=>e);have a3:=h.more (o':=⟨_,_,_,0,aL,0⟩) aj a1 ai (by dsimp only;omega) (λb hb=>by cases hb;exact jB) I ak;have am:=jI.set w5 kb 9 (aH (M ⟨g,off,Z⟩) (os.length+1) av);refine⟨rfl,_,_,jX R 9 _,rfl,a3.jM am (λk ao e=>?_),by dsimp only;omega,λb hb=>by cases hb;exact jB,λk ao=>?_,?_⟩
 .subst e;exact a3.lK R aB aB ao
 .have Y:M g=M k:=ao;cases Y;obtain e|e:=E.own
  .exact bE e
  .right;simp at e;omega
 .exact((a1.mono (M':=λk=>k=kb\/k=nb\/(aH a _ cap).ownBlock=M k) (λk _ e=>cD (bE e))).trans ak (λk _ e=>cD (cD e))).trans am (λk _ e=>bE e)
section
variable {w:U}{nb:Nat}{vo:X}{nm:AL}{os:List PC}{o o'':PC}{most:Int}{f:F}
def opened(n:Nat)(f:F)(cs:List Ch):List Ch:=if f.num=0 then cs.filter (λc=>c.name != f.chan)++[⟨f.chan,n,[],aL⟩]else cs
def qW(most:Int)(f:F)(c:Ch):Ch:=if c.name=f.chan then Dv.joined most c f else c
def UY(most:Int)(n:Nat)(cs:List Ch)(f:F):Dv.frame most n cs f=(opened n f cs).map (qW most f):=by
 unfold Dv.frame opened;by_cases h:f.num=0
 .rw[ZD h,ZD h,bJ]
  congr 1
  .symm;rw[ji (g:=id),List.map_id];intro c hc;have:=(fU.1 hc).2;simp only[bne_iff_ne,ne_eq]at this;unfold qW;rw[Zs this];rfl
  .simp[qW]
 .rw[Zs h,Zs h];rfl
def Kq(m:AL)(k k':Nat)(v:X):l9 (vG m k v) k'=if k'=k then M v else l9 m k':=by
 unfold l9 vG;split
 .rename_i h
  induction m with
  |nil=>simp at h
  |cons p m ih=>
   rw[eP,List.find?_cons,List.find?_cons];by_cases hp:p.1=k
   .rw[ZD hp];by_cases hk:k'=k
    .subst hk;simp
    .have E:=ZS (λe=>hk e.symm);have h2:(p.1 == k')=aL:=ZS (λe=>hk (by rw[<-e,hp]));simp only[E,h2];by_cases I:k∈m.map cI
     .exact ih I
     .have:m.map (λp=>if p.1=k then(k,v)else p)=m:=by
       rw[ji (g:=id),List.map_id];intro q J;rw[Zs (λ(e:q.1=k)=>I (e ▸ bM.2 ⟨q,J,rfl⟩))];rfl
      rw[this,Zs hk]
   .rw[Zs hp]
    have I:k∈m.map cI:=by
     obtain e|e:=dD.1 h
     .exact(hp e.symm).elim
     .exact e
    by_cases z:p.1=k'
    .have E:(p.1 == k')=aR:=by simp[z]
     simp only[E];rw[Zs (λe=>hp (by rw[z,e]))]
    .have E:=ZS z;simp only[E];exact ih I
 .rename_i h;rw[List.find?_append];by_cases hk:k'=k
  .subst hk
   have:m.find? (λp=>p.1 == k')=Z:=by
    rw[List.find?_eq_none];intro q J e;simp only[YY]at e;exact h (e ▸ bM.2 ⟨q,J,rfl⟩)
   rw[this];simp
  .rw[Zs hk];cases m.find? (λp=>p.1 == k')with
   |some p=>rfl
   |none=>
    have E:=ZS (λe=>hk e.symm);simp[E]
def Qj(h:Chs w nb vo nm os){o':PC}(z:w.heap.size<=o'.blk):lives (vG nm o'.ch.name (ptr o'.blk)) (os++[o'])=(lives nm os).filter (λc=>c.name != o'.ch.name)++[o'.ch]:=by
 unfold lives;rw[iG,bJ]
 congr 1
 .rw[List.filter_map,pd]
  congr 1
  refine pn (λo ho=>?_);have E:=(dY.1 (h.chans o ho).obj).1;unfold alive;rw[Kq];by_cases e:o.ch.name=o'.ch.name
  .rw[ZD e];have I:(o'.blk == o.blk)=aL:=ZS aA;have h2:(o.ch.name != o'.ch.name)=aL:=by simp[e]
   show(o'.blk == o.blk)=((o.ch.name != o'.ch.name)&&_)
   rw[I,h2,Bool.false_and]
  .rw[Zs e];have h2:(o.ch.name != o'.ch.name)=aR:=by simp[e]
   show _=((o.ch.name != o'.ch.name)&&_)
   rw[h2,Bool.true_and]
 .have:alive (vG nm o'.ch.name (ptr o'.blk)) o'=aR:=by
   unfold alive;rw[Kq,ZD rfl];simp[ptr]
  rw[eG,ZD this];rfl
def yQ(R:(os.map (·.blk)).Nodup){x:PC}(J:x∈os)(ho:o∈os)(e:x.blk=o.blk):x=o:=by
 induction os with
 |nil=>simp at J
 |cons y os ih=>
  have z:=iE.1 (by simpa using R:(y.blk::os.map (·.blk)).Nodup);rcases dD.1 J with rfl|I<;>obtain rfl|E:=dD.1 ho
  .rfl
  .exact(z.1 (e ▸ bM.2 ⟨o,E,rfl⟩)).elim
  .exact(z.1 (e ▸ bM.2 ⟨x,I,rfl⟩)).elim
  .exact ih z.2 I E
def swap(o'':PC)(x:PC):PC:=if x.blk=o''.blk then o'' else x
def uz(o'' x:PC):(swap o'' x).blk=x.blk:=by
 unfold swap;split
 .rename_i h;exact h.symm
 .rfl
def Chs.swap{w':U}(h:Chs w nb vo nm os)(ho:o∈os)(hb:o''.blk=o.blk)(ag:o''.ch.name=o.ch.name)(ae:o''.fm=o.fm\/o''.fm=Z)(hc:ChanAt w' o'')(hg:jI (λk=>k=o.blk\/o.fm=M k) w w'):Chs w' nb vo nm (os.map (swap o'')):=by
 have inj:∀x,x∈os->x.blk=o.blk->x=o:=λx E e=>yQ h.apart E ho e
 have z:∀x,x∈os->∀b,(Hm.swap o'' x).fm=M b->x.fm=M b:=λx E b e=>by
  unfold Hm.swap at e;split at e
  .rename_i Y;rw[inj x E (Y.trans hb)];obtain h1|h1:=ae
   .rw[<-h1];exact e
   .rw[h1]at e;cases e
  .exact e
 refine⟨h.named.of_block (hg.block _ h.named.lt (λe=>?_)),?_,?_,?_,?_,?_,?_⟩
 .obtain e|e:=e
  .exact lg (h.chans o ho).obj h.named e.symm
  .exact h.far o ho e
 .rw[bC,jr]
  have:((λo:PC=>ptr o.blk)∘Hm.swap o'')=λo=>ptr o.blk:=by
   funext x;simp only[Function.comp,uz]
  rw[this];refine h.order.jM hg (λg af e=>?_);obtain⟨ah,R⟩:=h.order.obj af;obtain rfl|e:=e
  .have:=(h.chans o ho).obj;unfold vW at this;rw[R]at this;simp at this
  .cases hs:o.ch.spoilt
   .obtain⟨⟨B,e',hm⟩,_⟩:=(h.chans o ho).sound hs;rw[e']at e;cases e;exact lg R hm rfl
   .rw[((h.chans o ho).spoilt hs).2]at e;cases e
 .intro y hy;obtain⟨x,E,rfl⟩:=bM.1 hy;unfold Hm.swap;split
  .exact hc
  .rename_i aa;refine(h.chans x E).jM hg (λe=>?_) (λb I e=>?_)
   .obtain e|e:=e
    .exact aa (e.trans hb.symm)
    .cases hs:o.ch.spoilt
     .obtain⟨⟨B,e',hm⟩,_⟩:=(h.chans o ho).sound hs;rw[e']at e;cases e;exact lg (h.chans x E).obj hm rfl
     .rw[((h.chans o ho).spoilt hs).2]at e;cases e
   .obtain e|e:=e
    .subst e;cases hs:x.ch.spoilt
     .obtain⟨⟨B,e',hm⟩,_⟩:=(h.chans x E).sound hs;rw[e']at I;cases I;exact lg (h.chans o ho).obj hm rfl
     .rw[((h.chans x E).spoilt hs).2]at I;cases I
    .exact aa ((h.maps x o E ho b I e).trans hb.symm)
 .rw[jr]
  have:((λo:PC=>o.blk)∘Hm.swap o'')=λo=>o.blk:=by
   funext x;simp only[Function.comp,uz]
  rw[this];exact h.apart
 .intro x y E hy b h1 h2;obtain⟨x0,J,rfl⟩:=bM.1 E;obtain⟨y0,ac,rfl⟩:=bM.1 hy;rw[uz,uz];exact h.maps x0 y0 J ac b (z x0 J b h1) (z y0 ac b h2)
 .intro x E e;obtain⟨x0,J,rfl⟩:=bM.1 E;exact h.far x0 J (z x0 J nb e)
 .intro p hp;obtain⟨x,E,rfl⟩:=h.entries p hp;refine⟨_,bM.2 ⟨x,E,rfl⟩,?_⟩;rw[uz];unfold Hm.swap;split
  .rename_i Y;rw[inj x E (Y.trans hb),ag]
  .rfl
def VF(ho:o∈os)(J:o''.blk=o.blk)(z:o''.fm=o.fm\/o''.fm=Z){k:Nat}(hk:Own nb vo (os.map (swap o'')) k):Own nb vo os k:=by
 obtain e|e|⟨y,I,e⟩:=hk
 .exact bE e
 .exact cD (bE e)
 .obtain⟨x,R,rfl⟩:=bM.1 I;unfold swap at e;split at e
  .refine cD (cD ⟨o,ho,?_⟩);obtain e|e:=e
   .exact bE (e.trans J)
   .obtain E|E:=z
    .exact cD (by rw[<-E];exact e)
    .rw[E]at e;cases e
  .exact cD (cD ⟨x,R,e⟩)
def Eb(h:Chs w nb vo nm os)(ho:o∈os)(J:o''.blk=o.blk)(I:o''.ch=Dv.joined most o.ch f)(R:o.ch.name=f.chan)(hg:l9 nm f.chan=M (ptr o.blk)):lives nm (os.map (swap o''))=(lives nm os).map (qW most f):=by
 have jn:(Dv.joined most o.ch f).name=o.ch.name:=by
  unfold Dv.joined;split
  .rfl
  .split<;>rfl
 have inj:∀x,x∈os->x.blk=o.blk->x=o:=λx z e=>yQ h.apart z ho e;unfold lives;rw[List.filter_map,jr,jr]
 have Y:∀x,x∈os->(alive nm∘swap o'') x=alive nm x:=λx z=>by
  simp only[Function.comp];unfold swap;split
  .rename_i e;rw[inj x z (e.trans J)];unfold alive;rw[I,jn,J]
  .rfl
 rw[pn Y];refine ji (λx z=>?_);obtain⟨z,E⟩:=fU.1 z;simp only[Function.comp];unfold swap qW;by_cases e:x.blk=o.blk
 .rw[ZD (e.trans J.symm),inj x z e,ZD R,I]
 .rw[Zs (λe'=>e (e'.trans J)),Zs];intro e';have:alive nm x=(o.blk == x.blk):=pX (by rw[e'];exact hg);rw[this]at E;simp only[YY]at E;exact e E.symm
def ND(E:l9 nm f.chan=Z):(lives nm os).map (qW most f)=lives nm os:=by
 rw[ji (g:=id),List.map_id];intro c hc;unfold lives at hc;obtain⟨x,I,rfl⟩:=bM.1 hc;have z:=(fU.1 I).2;unfold qW;rw[Zs]
 .rfl
 .intro e;rw[sH (by rw[e];exact E)]at z;cases z
def Ih(h:Chs w nb vo nm os)(ho:o∈os)(J:Dv.oM o.ch f=aR)(z:o.ch.name=f.chan)(I:l9 nm f.chan=M (ptr o.blk)):(lives nm os).map (qW most f)=lives nm os:=by
 have E:Dv.joined most o.ch f=o.ch:=by unfold Dv.joined;rw[ZD J]
 rw[<-Eb h ho (o'':=o) rfl E.symm z I]
 congr 1
 rw[ji (g:=id),List.map_id];intro x R;unfold swap;split
 .rename_i e;exact(yQ h.apart R ho e).symm
 .rfl
end
end Hm
