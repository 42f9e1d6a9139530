import Derived.Test.YtpibpdpedjinhabGreatDoorP37
import Derived.Test.YtpibpdpedjinhabGreatDoorRows
import Derived.ProofKit
import Derived.OpenShut
import Derived.Deep.Slices
import Derived.Deep.Strs
import Derived.Deep.DeepHandedRow
import Derived.Lib.LaidTab
set_option maxRecDepth 100000
set_option maxHeartbeats 4000000
set_option linter.all false
open Bool renaming false->aR,true->bB
open Go renaming Addr->fR,Calls->eL,Frame->cT,Oper->km,TypeId->cH,Value->aD,World->X,execOp->bO,heap_alloc_new->cY
open Go.Act renaming eval->n8,put->eM
open Go.DataW renaming trod_int->eZ
open Go.Ending renaming returned->bX
open Go.IntKind renaming i64->aE
open Go.Item renaming code->kB,inRegion->bR
open Go.Obj renaming cells->aL
open Go.Operand renaming tmp->cR
open Go.Proofs.Tryz renaming f4->gF,underlying4->oY,underlying5->gP
open Go.RowKit renaming Below->cG,Hid->cJ
open Go.Value renaming agg->gR,bool->cM,int->N,pointer->aG,slice->aM,string->bE,tuple->cP
open List renaming length->pn,length_eq_zero_iff->cK,not_mem_nil->o5,range->iv
open Ne renaming symm->lR
open Option renaming none->Z,some->M
open Or renaming inl->bN,inr->cF
open Prod renaming fst->cI
namespace Go.Proofs.YtpibpdpedjinhabGreatDoor
namespace Pa
open Go Go.Conc Go.RowKit Go.Joins
open Hm (ptr kD jF jL kW oz PU jJ kQ RH Ri QN ZQ)
open Dv (X2 Cf)
open Po hiding X2 H B IT PR NB
section
def YF:Cf:={ inbox:=0,batcher:=0,timeout:=1,window:=1,drift:=100,step:=2,most:=100 }
def Un:List UInt8:=[194,7,128]
def afS:List X2:=[⟨5,0,[],[]⟩,⟨6,3,[],[Un]⟩,⟨7,6,[],[]⟩]
def V8:List Dv.Lo:=[⟨0,0,0,5,0,[],[],0⟩,⟨1,2,0,5,1,[],[],2⟩,⟨2,4,1,6,0,[],[Un],2⟩]
def aa0:Dv.all YF afS=(0,V8):=XN
noncomputable def opsL:Array km:=match QN with
 |.region _ ops _=>ops
 |_=>#[]
def XZ:∃z,QN=.region z opsL aR:=⟨_,rfl⟩
def Qp:iv opsL.size=[0,1,2,3,4,5,6,7,8,9,10,11]:=XN
def QF{t:cH}{n:Nat}{z:aD}(h:(PQ.info? t).map (λi=>(i.size,i.zero))=M (n,M z)):∃E,PQ.info? t=M E/\E.size=n/\E.zero=M z:=by
 cases I:PQ.info? t with
 |none=>rw[I]at h;cases h
 |some E=>
  grind
def Oi:∃z,PQ.info? 28=M z/\z.size=4/\z.zero=M (gR #[N aE 0,N aE 0,aM Z 0 0,aM Z 0 0]):=QF XN
def Ny:∃z,PQ.info? 9=M z/\z.size=1/\z.zero=M (bE ⟨#[]⟩):=QF XN
def bl7(w:X):(Instr.build 28 #[(0,N aE 5)]).run PQ w=.ok (gR #[N aE 5,N aE 0,aM Z 0 0,aM Z 0 0]) w:=run_build w _ _ _ XN
def bl9(w:X)(n:Nat):(Instr.build 28 #[(0,N aE 6),(1,N aE 3),(3,aM (M ⟨n,0,Z⟩) 1 1)]).run PQ w=.ok (gR #[N aE 6,N aE 3,aM Z 0 0,aM (M ⟨n,0,Z⟩) 1 1]) w:=run_build w _ _ _ XN
def agH(w:X):(Instr.build 28 #[(0,N aE 7),(1,N aE 6)]).run PQ w=.ok (gR #[N aE 7,N aE 6,aM Z 0 0,aM Z 0 0]) w:=run_build w _ _ _ XN
def Jd(n:Nat):Array aD:=#[N aE 5,N aE 0,aM Z 0 0,aM Z 0 0,N aE 6,N aE 3,aM Z 0 0,aM (M ⟨n,0,Z⟩) 1 1,N aE 7,N aE 6,aM Z 0 0,aM Z 0 0]
def bs8(w:X):(Instr.buildSlice 26 1 #[(0,bE ⟨#[194,7,128]⟩)]).run PQ w=.ok (aM (M ⟨w.heap.size,0,Z⟩) 1 1) (w.alloc (aL #[bE ⟨#[194,7,128]⟩] 9)):=by obtain⟨z,E,h2,h3⟩:=Ny;exact run_buildSlice w _ _ 1 _ _ z _ (uq Tryz.underlying26) E h3 (by rw[h2];decide) (by rw[h2];decide) (by rw[h2];kernel_rfl)
def agJ(w:X)(n:Nat):(Instr.buildSlice 35 3 #[(0,gR #[N aE 5,N aE 0,aM Z 0 0,aM Z 0 0]),(1,gR #[N aE 6,N aE 3,aM Z 0 0,aM (M ⟨n,0,Z⟩) 1 1]),(2,gR #[N aE 7,N aE 6,aM Z 0 0,aM Z 0 0])]).run PQ w=.ok (aM (M ⟨w.heap.size,0,Z⟩) 3 3) (w.alloc (aL (Jd n) 28)):=by obtain⟨z,E,h2,h3⟩:=Oi;exact run_buildSlice w _ _ 3 _ _ z _ (uq Tryz.underlying35) E h3 (by rw[h2];decide) (by rw[h2];decide) (by rw[h2];kernel_rfl)
def lv(n:Nat):aD:=aM (M ⟨n,0,Z⟩) 1 1
def Kt(n:Nat):List PU:=[(⟨5,0,[],[]⟩,aM Z 0 0,aM Z 0 0),(⟨6,3,[],[Un]⟩,aM Z 0 0,lv n),(⟨7,6,[],[]⟩,aM Z 0 0,aM Z 0 0)]
def Vz(n:Nat):(Kt n).map cI=afS:=rfl
def vZ(w:X)(s:Nat):Hm.Rd w s (aM Z 0 0) 0 []:=⟨aC,Z,0,rfl,jB,λh=>Xs h aA⟩
def Zv{w:X}{n m:Nat}(E:w.heap[n]? =M (aL #[bE ⟨#[194,7,128]⟩] 9 (0,0)))(h2:w.heap[m]? =M (aL (Jd n) 28 (0,0))):oz w (aM (M ⟨m,0,Z⟩) (Kt n).length 3) (Kt n):=by
 have I:kW w ⟨5,0,[],[]⟩ (aM Z 0 0) (aM Z 0 0):=⟨vZ w 3,vZ w 1,aC,aC⟩
 have R:kW w ⟨7,6,[],[]⟩ (aM Z 0 0) (aM Z 0 0):=⟨vZ w 3,vZ w 1,aC,aC⟩
 have J:kW w ⟨6,3,[],[Un]⟩ (aM Z 0 0) (lv n):=by
  refine⟨vZ w 3,⟨rfl,_,1,rfl,jB,λ_=>⟨n,0,rfl,(jE E),λj u z=>?_⟩⟩,aC,aC⟩;rw[aI E,fJ]
  match j,z with
  |0,z=>exact z
  |j+1,z=>simp[Un]at z
 refine⟨⟨rfl,_,3,rfl,jB,λ_=>⟨m,0,rfl,(jE h2),λj u z=>?_⟩⟩,λp hp=>?_⟩
 .rw[aI h2,fJ];have:(Kt n).flatMap Hm.oq=(Jd n).toList:=rfl;rw[this,Array.getElem?_toList]at z;exact z
 .simp only[Kt,dD,o5,or_false]at hp;obtain rfl|rfl|rfl:=hp
  .exact I
  .exact J
  .exact R
section
variable {Post:vU}{D:Nat->Prop}{XX A:List cT}{w:X}
theorem YK(rd:Cr.ReadW){b₀:cT}{a₀:Act}{ops:Array km}{i:Nat}{rest:List Nat}{k:List Item}{o:km}{ap:Array cH}(ho:ops[i]? =M o)(hw:Region.wanted o (yielded ops a₀.tmps)=bB)(aq:o.op=.call { callee:=.value (.func 5),args:=#[],argTypes:=ap })(au:Tryz.prog.globals.size<=w.heap.size)(hH:qM w)(J:∀D' w',jL (λ_=>False) w w'->Wq D' Post XX (b₀.at (a₀.put o.dst (cM bB)) (bR ops rest::k)) A w'):Wq D Post XX (b₀.at a₀ (bR ops (i::rest)::k)) A w:=by
 refine Wq.call ho hw aq (fq Tryz.func5 rfl) rfl Hm.XJ ?_;simp only[fQ,fP,show Tryz.f5.ntmps=63 from rfl,dR,bY,Nat.sub_zero,dH,dG,dU,dI,dS,dN];refine Wq.seq (Wq.walk λt d Q hN _=>Hm.acM _ (hN _ _ (Wq.same (y:=w) (λ_ _=>rfl) ?_)));refine Wq.seq (Wq.walk λt d Q hN _=>Hm.adA _ (hN _ _ (Wq.same (y:=w.alloc (aL (jF YF) 24)) (λ_ _=>rfl) (Wq.seq ?_))));rw[show(on w t d).heap.size=w.heap.size from rfl];obtain⟨w2,ae,-,hb⟩:=jD w (jF YF) 24;have aj:jL (λ_=>False) w w2:=tJ (by rw[ae]);rw[<-ae];obtain⟨av,af⟩:=XZ;rw[af];refine Wq.region ?_;rw[Qp]
 refine Wq.qJ (.load 24 (cR 1)) (M 6) (.agg (jF YF)) w2 rfl (λt d o h=>by
  have c:=um (w:=on w2 t d) hb;have k0:=c 0;have k1:=c 1;have k2:=c 2;have k3:=c 3;have k4:=c 4;have k5:=c 5;have k6:=c 6;unfold bO;simp only[h];simp[go_sem,n8,k0,k1,k2,k3,k4,k5,k6,jF]) ?_
 refine Wq.qJ (.build 28 _) (M 7) (gR #[N aE 5,N aE 0,aM Z 0 0,aM Z 0 0]) w2 rfl (λt d o h=>by
  unfold bO;simp only[h,fQ,eP,fP,n8,iU,bl7,iq];rfl) ?_
 obtain⟨n,hn⟩:∃n,n=w2.heap.size:=⟨_,rfl⟩
 obtain⟨w3,R⟩:∃w3,w3=w2.alloc (aL #[bE ⟨#[194,7,128]⟩] 9):=⟨_,rfl⟩
 refine Wq.qJ (.buildSlice 26 1 _) (M 8) (lv n) w3 rfl (λt d o h=>by
  unfold bO;simp only[h,fQ,eP,fP,n8,iU,bs8,iq];rw[R,hn];rfl) ?_
 have ak:jL (λ_=>False) w2 w3:=tJ (by rw[R]);have n3:w3.heap[n]? =M (aL #[bE ⟨#[194,7,128]⟩] 9 (0,0)):=by rw[R,hn];exact cY _ _
 simp only[eM,bQ,dP,dO]
 refine Wq.qJ (.build 28 #[(0,.const _),(1,.const _),(3,cR 8)]) (M 9) (gR #[N aE 6,N aE 3,aM Z 0 0,aM (M ⟨n,0,Z⟩) 1 1]) w3 rfl (λt d o h=>by
  unfold bO;simp only[h,fQ,eP,fP,n8,fD,eX,eU,dX,fH,lv,iU,bl9,iq];rfl) ?_
 refine Wq.qJ (.build 28 _) (M 10) (gR #[N aE 7,N aE 6,aM Z 0 0,aM Z 0 0]) w3 rfl (λt d o h=>by
  unfold bO;simp only[h,fQ,eP,fP,n8,iU,agH,iq];rfl) ?_
 simp only[eM,bQ,dP,dO];obtain⟨w4,aa,-,m4⟩:=jD w3 (Jd n) 28
 refine Wq.qJ (.buildSlice 35 3 #[(0,cR 7),(1,cR 9),(2,cR 10)]) (M 11) (aM (M ⟨w3.heap.size,0,Z⟩) (Kt n).length 3) w4 rfl (λt d o h=>by
  unfold bO;simp only[h,fQ,eP,fP,n8,fD,eX,eU,dX,fH,iU,agJ,iq];rw[aa];rfl) ?_
 have ah:jL (λ_=>False) w3 w4:=tJ (by rw[aa]);have n4:=(ah.block _ (jE n3) (λe=>e)).trans n3;have z:=(aj.trans ak (λ_ _ e=>e)).trans ah (λ_ _ e=>e);have s4:=z.size;simp only[eM,bQ,dP,dO];obtain⟨x6,am,an,ai,ao⟩:∃o,opsL[6]? =M o/\o.op=.call { callee:=.value (.func 15),args:=#[cR 6,cR 11],argTypes:=#[24,35] }/\o.dst=M 12/\o.guard=Z:=⟨_,rfl,rfl,rfl,rfl⟩
 refine acv rd (c:=YF) (ps:=Kt n) am (Cr.jY ao) an rfl rfl aA (Zv n4 m4) (by simp[Kt]) (hH.kept z) ?_;intro D5 Y va pl I ac E ar;rw[Vz,aa0]at E⊢;rw[ai];simp only[eM,bQ,dP,dO];refine Wq.qJ (.move (cR 12)) (M 5) (cP #[va,N aE 0]) Y rfl (λt d o h=>by unfold bO;simp only[h];rfl) ?_;simp only[eM,bQ,dP,dO];refine Wq.qJ (.extract (cR 5) 0) (M 13) va Y rfl (λt d o h=>by unfold bO;simp only[h];rfl) ?_;simp only[eM,bQ,dP,dO];refine Wq.qJ (.extract (cR 5) 1) (M 14) (N aE 0) Y rfl (λt d o h=>by unfold bO;simp only[h];rfl) ?_;simp only[eM,bQ,dP,dO];refine Wq.qJ (.assign (cR 13)) (M 2) va Y rfl (λt d o h=>by unfold bO;simp only[h];rfl) ?_;simp only[eM,bQ,dP,dO];refine Wq.qJ (.assign (cR 14)) (M 3) (N aE 0) Y rfl (λt d o h=>by unfold bO;simp only[h];rfl) ?_;simp only[eM,bQ,dP,dO];refine Wq.done ?_
 obtain⟨p0,p1,p2,rfl,e0,e1,e2⟩:∃p0 p1 p2,pl=[p0,p1,p2]/\p0.1=(⟨0,0,0,5,0,[],[],0⟩:Dv.Lo)/\p1.1=(⟨1,2,0,5,1,[],[],2⟩:Dv.Lo)/\p2.1=(⟨2,4,1,6,0,[],[Un],2⟩:Dv.Lo):=by
  match pl,E with
  |[],h=>cases h
  |[_],h=>simp[V8]at h
  |[_,_],h=>simp[V8]at h
  |[p0,p1,p2],h=>
   simp only[eP,fP,V8,List.cons.injEq,and_true]at h;exact⟨p0,p1,p2,rfl,h.1,h.2.1,h.2.2⟩
  |_::_::_::_::_,h=>simp[V8]at h
 obtain⟨g,off,cap,rfl,_⟩:=I.pos aC;obtain⟨sa,sc,ag⟩:=(ac p2 aC).2.slice;rw[e2]at ag;refine Wq.walk λt d Q _ hR=>Hm.afb g off cap _ (I.kept λ_ _=>rfl) ?_ ?_ ?_ ?_ ?_ sa sc ?_ (λtm h=>hR _ _ λtodo=>?_)
 .simp[jJ,e1]
 .simp[jJ,e1]
 .simp[jJ,e2]
 .simp[jJ,e2]
 .simp[jJ,e2]
 .simp[jJ,ag]
 refine Wq.leave (v:=cM bB) (fn:=Tryz.f5) rfl rfl rfl (fq Tryz.func5 rfl) (λw=>by
  have:=h;simp[results,Tryz.results5,go_sem,Frame.at,this]) ?_
 rw[fO,ho];exact Wq.same (y:=Y) (λ_ _=>rfl) (J D5 Y (z.trans ar (λ_ _ e=>e)))
end
end
open Hm (ptr jF TS jL jI kW PU PL Vw lF VO Ro Nd lX NO SO Fs LJ pk tX vF ED Zh FT FZ G8 RS VD X3 YG Yi X0 XP QW WB Yn QD WW YX Rw KZ Q8 Q7 Q9 KH LM Nq Eu DU DL Gp)
open Dv (X2 Cf Ch)
section
variable {w0:X}
theorem F3.heap{w w':X}{te:cH}{xe:aD}{z sb:Ah}{sx:Option Ah}{pa pb px:Nn}(h:F3 w0 te xe z sb sx pa pb px w)(q:w'.heap=w.heap):F3 w0 te xe z sb sx pa pb px w':=h.still (Ie q)
theorem Rq{u:X2}{vt vl:aD}(E:kW w0 u vt vl){g:Nat}(I:w0.heap.size<=g):(0<u.txs.length->vt.ownBlock≠M g)/\(0<u.logs.length->vl.ownBlock≠M g):=by
 refine⟨λz e=>?_,λz e=>?_⟩
 .have:=Rj E.1 z e;omega
 .have:=Rj E.2.1 z e;omega
section
variable {Post:vU}{D:Nat->Prop}{XX A:List cT}{b:cT}{k:List Item}{w0 w:X}{te:cH}{xe:aD}{sc:aD}{T:Int}{i ob na nb nx:Nat}{op:LJ}{ta la:Option fR}{tn tc ln lc:Nat}{s:Ah}{sx:Option Ah}{pa pb px:Nn}{tm:Array aD}
theorem aad(rd:Cr.ReadW)(h1:-9223372036854775808<=op.n)(h2:op.n<=9223372036854775807)(h3:-9223372036854775808<=op.u.time)(h4:op.u.time<=9223372036854775807)(hT:0<=T)(aq:T<=1099511627776)(hu:kW w0 op.u (.slice ta tn tc) (.slice la ln lc)){kd:Int}(hF:F3 w0 te xe s s sx pa pb px w)(ea:pa.x.nk=na)(eb:pb.x.nk=nb)(ex:px.x.nk=nx)(hS:Fs tm sc (ptr na) (ptr nb) (xv sx px) T i)(t18:tm[18]? =M (ptr ob))(am:tm[84]? =M (N aE kd))(R:w.heap[ob]? =M (aL #[N aE op.kind,N aE op.n,N aE op.u.id,N aE op.u.time,.slice ta tn tc,.slice la ln lc] 37 (0,0)))(E:∀D' w' ai s' ag J aa af T',F3 w0 te xe s' s' ag J aa af w'->J.x.nk=na->aa.x.nk=nb->af.x.nk=nx->Fs ai sc (ptr na) (ptr nb) (xv ag af) T' i->0<=T'->T'<=T+24->Wq D' Post XX (b.at ⟨ai,[]⟩ k) A w'):Wq D Post XX (b.at ⟨tm,[]⟩ (.code vF::k)) A w:=by
 obtain⟨hs,t2,t10,t12,t14,t16,t17⟩:=hS;obtain⟨l,rfl,hs⟩:=Hm.jZ hs
 iterate 178 (obtain⟨_,l,rfl,h'⟩:=Hm.jV hs;clear hs;have hs:=h';clear h')
 obtain rfl:=cK.1 hs;clear hs;simp only[eX,eU,dX,aK]at t2 t10 t12 t14 t16 t17 t18 am;subst t2 t10 t12 t14 t16 t17 t18 am ea eb;have kc:∀{v:X},v.heap[ob]? =w.heap[ob]?->∀(j:Nat),v.cell? ⟨ob,j,Z⟩=(#[N aE op.kind,N aE op.n,N aE op.u.id,N aE op.u.time,.slice ta tn tc,.slice la ln lc]:Array aD)[j]?:=λ{v} q j=>aI (q.trans R) j;by_cases h0:kd=0
 ·
  subst h0;refine Wq.walk λt d Q Y _=>?_;have k2:(on w t d).cell? ⟨ob,2,Z⟩=M (N aE op.u.id):=kc rfl 2;have k3:(on w t d).cell? ⟨ob,3,Z⟩=M (N aE op.u.time):=kc rfl 3;have k4:(on w t d).cell? ⟨ob,4,Z⟩=M (.slice ta tn tc):=kc rfl 4;have k5:(on w t d).cell? ⟨ob,5,Z⟩=M (.slice la ln lc):=kc rfl 5;have hP:=λW=>Hm.pick_any op.u.time 24 W aA aA h3 h4;have hp:=Hm.Rh (c:=op.u.time) (n:=24) aA;generalize pk op.u.time 24=z at hP hp;obtain⟨u,ah⟩:∃u:X2,u={ op.u with time:=T+1+z }:=⟨_,rfl⟩
  have ae:kW w0 u (.slice ta tn tc) (.slice la ln lc):=by rw[ah];exact⟨hu.1,hu.2.1,hu.2.2⟩
  have hE:∀W,jL (λ_=>False) w W->W.heap[w.heap.size]? =M (aL #[N aE op.u.id,N aE (T+1+z),.slice ta tn tc,.slice la ln lc] 28 (0,0))->eL PQ 8 #[aG (M ⟨pa.x.nk,0,Z⟩),gR #[N aE op.u.id,N aE (T+1+z),.slice ta tn tc,.slice la ln lc]] W λe W'=>e=bX (cP #[N aE (Pa.MF s.chain u),N aE (Pa.LK s.chain u)])/\W'.heap[w.heap.size]? =M (aL #[N aE op.u.id,N aE (T+1+z),.slice ta tn tc,.slice la ln lc] 28 (0,0))/\∃J,F3 w0 te xe { s with chain:=Pa.extC s.chain u } s sx J pb px W'/\J.x.nk=pa.x.nk:=λW hc hx=>by
   have I:=hF.still hc;have:=I.a.extend (pV ae I.jM λ_ _ e=>e) (Rq ae (hF.la _ (bN (cF (bN (bN rfl))))));rw[ah]at this⊢;exact this.mono λe W' ⟨h1,J,n1,n2,n3,n4⟩=>⟨h1,(n3.block _ (jE hx) λe=>by have:=hF.a.lt e;omega).trans hx,J,I.ML (sa':={ s with chain:=Pa.extC s.chain { op.u with time:=T+1+z } }) n1 n3 n4,n2⟩
  have an:∀W J,F3 w0 te xe { s with chain:=Pa.extC s.chain u } s sx J pb px W->eL PQ 8 #[aG (M ⟨pb.x.nk,0,Z⟩),gR #[N aE op.u.id,N aE (T+1+z),.slice ta tn tc,.slice la ln lc]] W λe W'=>e=bX (cP #[N aE (Pa.MF s.chain u),N aE (Pa.LK s.chain u)])/\∃aa,F3 w0 te xe { s with chain:=Pa.extC s.chain u } { s with chain:=Pa.extC s.chain u } sx J aa px W'/\aa.x.nk=pb.x.nk:=λW J I=>by
   have:=I.b.extend (pV ae I.jM λ_ _ e=>e) (Rq ae (hF.lb _ (bN (cF (bN (bN rfl))))));rw[ah]at this I⊢;exact this.mono λe W' ⟨h1,aa,n1,n2,n3,n4⟩=>⟨h1,aa,I.QV (sb':={ s with chain:=Pa.extC s.chain { op.u with time:=T+1+z } }) n1 n3 n4,n2⟩
  have HE:cJ _:=jy hE an;have HP:cJ _:=hP;have HN:cJ _:=jy Y E;clear hE an hP Y E hF kc R ah ae hu h1 h2 h3 h4;generalize Pa.MF s.chain u=i1 at *;generalize Pa.LK s.chain u=i2 at *;have e1:(i1 == i1)=bB:=aC
  have e2:(i2 == i2)=bB:=aC
  simp only[vF,tX,gF,ptr];go_wp2_with (first|(go_at_call 7;refine aT (HP.out _) ?_;rintro e w1 ⟨rfl,rfl⟩)|(go_at_call 8;(with_reducible refine aT (HE.out.1 _ ?_ ?_) ?_);exact tJ rfl;exact cY _ _;rintro e w3 ⟨rfl,ak,h3⟩;obtain⟨c0,c1,c2,c3⟩:=cells4 (show w3.heap[(on w t d).heap.size]? =M _ from ak);obtain⟨ao,h3⟩:=h3;have H3:cJ _:=h3;clear h3 ak)|(go_at_call 8;(with_reducible refine aT (HE.out.2 _ ao H3.out.1) ?_);rintro e w4 ⟨rfl,h4⟩;have H4:cJ _:=h4;clear h4))
  obtain⟨ap,h4,e4⟩:=H4.out;exact HN.out.1 _ _ (HN.out.2 D w4 _ _ sx ao ap px _ h4 H3.out.2 e4 ex ⟨rfl,rfl,rfl,rfl,rfl,rfl,rfl⟩ aA aA)
 by_cases h5:kd=2
 ·
  subst h5;refine Wq.walk λt d Q Y _=>?_;have k1:(on w t d).cell? ⟨ob,1,Z⟩=M (N aE op.n):=kc rfl 1;have hP:=λW=>Hm.pick_any op.n 21 W aA aA h1 h2;have hp:=Hm.Rh (c:=op.n) (n:=21) aA;obtain⟨X1,aj⟩:∃X1:Nat,pk op.n 21=X1:=⟨(pk op.n 21).toNat,aA⟩
  rw[aj]at hP hp
  have hA:=(Hm.FM X1 (hF.heap (w':=on w t d) rfl).a.nd aA).mono (R':=λe w'=>e=bX (N aE 0)/\w'.cell? ⟨ob,1,Z⟩=M (N aE op.n)/\F3 w0 te xe { s with sil:=X1 } s sx ⟨{ pa.x with sil:=X1 },pa.y⟩ pb px w') λe w' ⟨g1,g2,g3⟩=>by
   have c1:jL (NO pa.x) w w':=g3.h.heaps rfl rfl;exact⟨g1,kc (c1.block _ (jE R) λe=>hF.a.far R (bN rfl) (bN e)) 1,hF.ML (hF.a.fail g2 c1) (c1.mono λ_ _ e=>bN e) λg e=>bN e⟩
  have hB:=λW (I:F3 w0 te xe { s with sil:=X1 } s sx ⟨{ pa.x with sil:=X1 },pa.y⟩ pb px W)=>(Hm.FM X1 I.b.nd aA).mono (R':=λe w'=>e=bX (N aE 0)/\F3 w0 te xe { s with sil:=X1 } { s with sil:=X1 } sx ⟨{ pa.x with sil:=X1 },pa.y⟩ ⟨{ pb.x with sil:=X1 },pb.y⟩ px w') λe w' ⟨g1,g2,g3⟩=>⟨g1,I.QV (I.b.fail g2 g3.h) (g3.h.mono λ_ _ e=>bN e) λg e=>bN e⟩
  have HA:cJ _:=jy hA hB;have HP:cJ _:=hP;have HN:cJ _:=jy Y E;clear hA hB hP Y E hF kc R hu h1 h2 h3 h4 aj;simp only[vF,tX,gF,ptr];go_wp2_with (first|(go_at_call 7;refine aT (HP.out _) ?_;rintro e w1 ⟨rfl,rfl⟩)|(go_at_call 10;(with_reducible refine aT HA.out.1 ?_);rintro e w3 ⟨rfl,k1,h3⟩;have H3:cJ _:=h3;clear h3)|(go_at_call 10;(with_reducible refine aT (HA.out.2 _ H3.out) ?_);rintro e w4 ⟨rfl,h4⟩;have H4:cJ _:=h4;clear h4))
  exact HN.out.1 _ _ (HN.out.2 D w4 _ _ sx _ _ px _ H4.out rfl rfl ex ⟨rfl,rfl,rfl,rfl,rfl,rfl,rfl⟩ hT aA)
 by_cases h6:kd=3
 ·
  subst h6;refine Wq.walk λt d Q Y _=>?_
  have hA:=(Hm.wO (hF.heap (w':=on w t d) rfl).a.nd).mono (R':=λe w'=>e=bX (cP #[])/\F3 w0 te xe { s with rs:=bB } s sx ⟨{ pa.x with rs:=bB },pa.y⟩ pb px w') λe w' ⟨g1,g2,g3⟩=>by
   have c1:jL (NO pa.x) w w':=g3.h.heaps rfl rfl;exact⟨g1,hF.ML (hF.a.reset g2 c1) (c1.mono λ_ _ e=>bN e) λg e=>bN e⟩
  have hB:=λW (I:F3 w0 te xe { s with rs:=bB } s sx ⟨{ pa.x with rs:=bB },pa.y⟩ pb px W)=>(Hm.wO I.b.nd).mono (R':=λe w'=>e=bX (cP #[])/\F3 w0 te xe { s with rs:=bB } { s with rs:=bB } sx ⟨{ pa.x with rs:=bB },pa.y⟩ ⟨{ pb.x with rs:=bB },pb.y⟩ px w') λe w' ⟨g1,g2,g3⟩=>⟨g1,I.QV (I.b.reset g2 g3.h) (g3.h.mono λ_ _ e=>bN e) λg e=>bN e⟩
  have HA:cJ _:=jy hA hB;have HN:cJ _:=jy Y E;clear hA hB Y E hF kc R hu h1 h2 h3 h4;simp only[vF,tX,gF,ptr];go_wp2_with (first|(go_at_call 11;(with_reducible refine aT HA.out.1 ?_);rintro e w3 ⟨rfl,h3⟩;have H3:cJ _:=h3;clear h3)|(go_at_call 11;(with_reducible refine aT (HA.out.2 _ H3.out) ?_);rintro e w4 ⟨rfl,h4⟩;have H4:cJ _:=h4;clear h4))
  exact HN.out.1 _ _ (HN.out.2 D w4 _ _ sx _ _ px _ H4.out rfl rfl ex ⟨rfl,rfl,rfl,rfl,rfl,rfl,rfl⟩ hT aA)
 have hp:=Hm.Rh (c:=op.n) (n:=30) aA;obtain⟨X1,ac⟩:∃X1:Nat,pk op.n 30=X1:=⟨(pk op.n 30).toNat,aA⟩
 have H:cJ _:=jy hF (jy E (jy ac (jy hp R)));have e0:(kd == 0)=aR:=by simp[h0]
 have e2:(kd == 2)=aR:=by simp[h5]
 have e3:(kd == 3)=aR:=by simp[h6]
 clear hF E ac hp R kc h0 h5 h6 hu;rw[show kB vF=kB _ from by rw[Hm.agE]];refine Wq.seq (Wq.walk λt d Q Y _=>?_);have HN:cJ _:=Y;clear Y;simp only[RS,vF,tX,gF];go_wp2_with fail;refine HN.out _ _ (Wq.same (y:=w) (λ_ _=>rfl) (Wq.cond (t:=aR) rfl (Wq.seq (Wq.walk λt d Q Y _=>?_))));clear HN;have HN:cJ _:=Y;clear Y;simp only[QW,vF,tX,gF];go_wp2_with fail;refine HN.out _ _ (Wq.same (y:=w) (λ_ _=>rfl) (Wq.cond (t:=aR) rfl (Wq.seq (Wq.walk λt d Q Y _=>?_))));clear HN;have HN:cJ _:=Y;clear Y;simp only[QD,vF,tX,gF];go_wp2_with fail;refine HN.out _ _ (Wq.same (y:=w) (λ_ _=>rfl) (Wq.cond (t:=aR) rfl (Wq.seq (Wq.walk λt d Q Y _=>?_))));clear HN;have HN:cJ _:=Y;clear Y;simp only[Rw,vF,tX,gF];go_wp2_with fail;refine HN.out _ _ (Wq.same (y:=w) (λ_ _=>rfl) (Wq.block (Wq.loop ?_)));obtain⟨hF,E,ac,hp,R⟩:=H.out;exact aaY rd (op:=op) aA ac h1 h2 rfl (λD' w' ai s' ag J aa af q1 q2 q3 q4 q5=>E D' w' ai s' ag J aa af T q1 q2 q3 q4 q5 hT aA) (X1+1) 0 aA D w _ s sx pa pb px hF rfl rfl ex ⟨rfl,rfl,rfl,rfl,rfl,rfl,rfl⟩ rfl rfl R
theorem Zw(hi:i<=4294967296)(hF:F3 w0 te xe s s sx pa pb px w)(ex:px.x.nk=nx)(hS:Fs tm sc (ptr na) (ptr nb) (xv sx px) T i)(E:∀w' aa Y R,F3 w0 te xe s s Y pa pb R w'->R.x.nk=nx->Fs aa sc (ptr na) (ptr nb) (xv Y R) T i->Wq D Post XX (b.at ⟨aa,[]⟩ k) A w'):Wq D Post XX (b.at ⟨tm,[]⟩ (.code (.seq Eu (.cond (cR 154) (.seq DU DL) .skip))::k)) A w:=by
 obtain⟨hs,t2,t10,t12,t14,t16,t17⟩:=hS;obtain⟨l,rfl,hs⟩:=Hm.jZ hs
 iterate 178 (obtain⟨_,l,rfl,h'⟩:=Hm.jV hs;clear hs;have hs:=h';clear h')
 obtain rfl:=cK.1 hs;clear hs;simp only[eX,eU,dX,aK]at t2 t10 t12 t14 t16 t17;subst t2 t10 t12 t14 t16 t17 ex;refine Wq.walk λt d Q hN _=>?_;have HN:cJ _:=jy hN E;clear hN E;cases sx with
 |none=>
  have HF:cJ _:=hF;clear hF;simp only[Eu,DU,DL,tX,gF,ptr,xv,jf];go_wp2_with fail;exact HN.out.1 _ _ (HN.out.2 _ _ Z px (HF.out.heap rfl) rfl ⟨rfl,rfl,rfl,rfl,rfl,rfl,rfl⟩)
 |some sq=>
  have hE:=((hF.heap (w':=on w t d) rfl).x sq rfl).extend (u:=⟨0,5*((i:Int)+1),[],[]⟩) ⟨vZ _ 3,vZ _ 1,aC,aC⟩ ⟨λh=>by simp at h,λh=>by simp at h⟩;have I:=hE.mono (R':=λe w'=>e=bX (cP #[N aE (Pa.MF sq.chain ⟨0,5*((i:Int)+1),[],[]⟩),N aE (Pa.LK sq.chain ⟨0,5*((i:Int)+1),[],[]⟩)])/\∃z,F3 w0 te xe s s (M { sq with chain:=Pa.extC sq.chain ⟨0,5*((i:Int)+1),[],[]⟩ }) pa pb z w'/\z.x.nk=px.x.nk) λe w' ⟨g1,z,n1,n2,n3,n4⟩=>⟨g1,z,(hF.heap (w':=on w t d) rfl).VI rfl n1 n3 n4,n2⟩
  have hR:=λW z (J:F3 w0 te xe s s (M { sq with chain:=Pa.extC sq.chain ⟨0,5*((i:Int)+1),[],[]⟩ }) pa pb z W) (hk:z.x.nk=px.x.nk)=>show eL PQ 11 #[aG (M ⟨px.x.nk,0,Z⟩)] W λe w'=>e=bX (cP #[])/\F3 w0 te xe s s (M { sq with chain:=Pa.extC sq.chain ⟨0,5*((i:Int)+1),[],[]⟩,rs:=bB }) pa pb ⟨{ z.x with rs:=bB },z.y⟩ w' by
   rw[<-hk];exact(Hm.wO (J.x _ rfl).nd).mono λe w' ⟨g1,g2,g3⟩=>⟨g1,J.VI rfl ((J.x _ rfl).reset g2 g3.h) (g3.h.mono λ_ _ e=>bN e) λg e=>bN e⟩
  dsimp only at I;have HE:cJ _:=jy I hR;clear hE I hR hF;generalize Pa.MF sq.chain ⟨0,5*((i:Int)+1),[],[]⟩=i1 at *;generalize Pa.LK sq.chain ⟨0,5*((i:Int)+1),[],[]⟩=i2 at *;simp only[Eu,DU,DL,tX,gF,ptr,xv,cO];go_wp2_with (first|(go_at_call 8;refine aT HE.out.1 ?_;rintro e w3 ⟨rfl,ac,h3⟩;have H3:cJ _:=h3;clear h3)|(go_at_call 11;refine aT (HE.out.2 _ ac H3.out.1 H3.out.2) ?_;rintro e w4 ⟨rfl,h4⟩;have H4:cJ _:=h4;clear h4))
  exact HN.out.1 _ _ (HN.out.2 w4 _ _ _ H4.out H3.out.2 ⟨rfl,rfl,rfl,rfl,by simp[xv,H3.out.2],rfl,rfl⟩)
end
end
end Pa
namespace Hm
open Go.RowKit Go.Joins Go.Shelf
open Dv (Lo X2 Cf)
section
section
variable {tm:Array aD}{w:X}{v2 v5 v14:aD}{oa ob:Option fR}{Q:Exit->Act->X->Prop}
structure FB(tm:Array aD)(v2 v5:aD)(oa ob:Option fR)(v14:aD):Prop where
 sz:tm.size=178
 t2:tm[2]? =M v2
 t5:tm[5]? =M v5
 t10:tm[10]? =M (.pointer oa)
 t12:tm[12]? =M (.pointer ob)
 t14:tm[14]? =M v14
theorem afF{e:Int}(h:FB tm v2 v5 oa ob v14)(E:tm[11]? =M (N aE e))(z:tm[13]? =M (N aE e))(hc:((∃p,oa=M p)/\(∃p,ob=M p)/\e=0)\/(oa=Z/\ob=Z/\(e=1\/e=2)))(J:∀tm:Array aD,FB tm v2 v5 oa ob v14->Q .normal ⟨tm,[]⟩ w):OH.wp PQ Q ⟨tm,[]⟩ w:=by
 obtain⟨hs,t2,t5,t10,t12,t14⟩:=h;obtain⟨l,rfl,hs⟩:=jZ hs
 iterate 178 (obtain⟨_,l,rfl,I⟩:=jV hs;clear hs;have hs:=I;clear I)
 obtain rfl:=cK.1 hs;clear hs;simp only[eX,eU,dX,aK]at t2 t5 t10 t12 t14 E z;subst t2 t5 t10 t12 t14 E z;have R:cJ _:=J;clear J;simp only[OH,gF];obtain⟨⟨p,rfl⟩,⟨q,rfl⟩,rfl⟩|⟨rfl,rfl,rfl|rfl⟩:=hc
 all_goals
  go_wp2_with fail;exact R.out _ ⟨rfl,rfl,rfl,rfl,rfl,rfl⟩
theorem ae7(h:FB tm v2 v5 oa ob v14)(E:∀(tm:Array aD) p,oa=M p->FB tm v2 v5 oa ob v14->Q .normal ⟨tm,[]⟩ w)(z:∀tm:Array aD,oa=Z->tm[8]? =M (cM bB)->Q .ret ⟨tm,[]⟩ w):Og.wp PQ Q ⟨tm,[]⟩ w:=by
 obtain⟨hs,t2,t5,t10,t12,t14⟩:=h;obtain⟨l,rfl,hs⟩:=jZ hs
 iterate 178 (obtain⟨_,l,rfl,I⟩:=jV hs;clear hs;have hs:=I;clear I)
 obtain rfl:=cK.1 hs;clear hs;simp only[eX,eU,dX,aK]at t2 t5 t10 t12 t14;subst t2 t5 t10 t12 t14;simp only[Og,gF];cases oa with
 |none=>
  have R:cJ _:=λtm=>z tm rfl;clear E z;go_wp2_with fail;exact R.out _ rfl
 |some p=>
  have J:cJ _:=λtm=>E tm p rfl;clear E z;go_wp2_with fail;exact J.out _ ⟨rfl,rfl,rfl,rfl,rfl,rfl⟩
theorem adr{z:Nat}{I:Int}(h:FB tm v2 v5 oa ob v14)(R:v5=aG (M ⟨z,0,Z⟩))(k1:w.cell? ⟨z,1,Z⟩=M (N aE I))(J:∀tm:Array aD,FB tm v2 v5 oa ob v14->tm[16]? =M (N aE I)->Q .normal ⟨tm,[]⟩ w):Di.wp PQ Q ⟨tm,[]⟩ w:=by
 obtain⟨hs,t2,t5,t10,t12,t14⟩:=h;obtain⟨l,rfl,hs⟩:=jZ hs
 iterate 178 (obtain⟨_,l,rfl,E⟩:=jV hs;clear hs;have hs:=E;clear E)
 obtain rfl:=cK.1 hs;clear hs;simp only[eX,eU,dX,aK]at t2 t5 t10 t12 t14;subst t2 t5 t10 t12 t14;subst R;have Y:cJ _:=J;clear J;simp only[Di,gF];go_wp2_with fail;exact Y.out _ ⟨rfl,rfl,rfl,rfl,rfl,rfl⟩ rfl
theorem acj{E:Int}(h:FB tm v2 v5 oa ob v14)(t16:tm[16]? =M (N aE E))(I:∀tm:Array aD,Fs tm v2 (.pointer oa) (.pointer ob) v14 E 0->Q .normal ⟨tm,[]⟩ w):DK.wp PQ Q ⟨tm,[]⟩ w:=by
 obtain⟨hs,t2,t5,t10,t12,t14⟩:=h;obtain⟨l,rfl,hs⟩:=jZ hs
 iterate 178 (obtain⟨_,l,rfl,z⟩:=jV hs;clear hs;have hs:=z;clear z)
 obtain rfl:=cK.1 hs;clear hs;simp only[eX,eU,dX,aK]at t2 t5 t10 t12 t14 t16;subst t2 t5 t10 t12 t14 t16;have J:cJ _:=I;clear I;simp only[DK,gF];go_wp2_with fail;exact J.out _ ⟨rfl,rfl,rfl,rfl,rfl,rfl,rfl⟩
end
end
end Hm
namespace Pa
open Go Go.Conc Go.RowKit Go.Joins
open Hm (ptr jF jL kW O8 Om OG)
open Dv (X2 Cf)
open Po hiding X2 H B IT PR NB
section
def VE{w:X}{bc:Nat}{c:Cf}{a:Act}{s:Nat}(R:w.heap[bc]? =M (aL (jF c) 24 (0,0)))(hs:a.eval (cR s)=ptr bc):∀t d (o:km),o.op=.load 24 (cR s)->(bO a.eval o).run PQ (on w t d)=.ok (.value (.agg (jF c))) (on w t d):=λt d o h=>by
 have c:=um (w:=on w t d) R;have I:=c 0;have k1:=c 1;have z:=c 2;have E:=c 3;have Y:=c 4;have k5:=c 5;have J:=c 6;unfold bO;simp only[h,hs,ptr];simp[go_sem,I,k1,z,E,Y,k5,J,jF]
def nv(r:Option Nn):Option fR:=r.map λp=>⟨p.x.nk,0,Z⟩
def afn(c:Cf)(u:X2)(w:X)(r:Option Nn)(e:Int)(w':X):Prop:=jL (λ_=>False) w w'/\match r with
 |some p=>newE c u=Z/\e=0/\NC c [{ u with id:=1 }] 1 1 aR 0 p w'/\∀g,NK p g->w.heap.size<=g
 |none=>newE c u=M e
section
variable {Post:vU}{D:Nat->Prop}{XX A:List cT}{b:cT}{k:List Item}{w:X}{te:cH}{xe:aD}{tm:Array aD}{c:Cf}{u:X2}{ta la:Option fR}{tn tc ln lc cb ub:Nat}
theorem NT(rd:Cr.ReadW)(C:Code)(sc Y b0 c0 m e0 e1 r0 r1:Nat)(hr:∃af,C=.region af (yE C) aR)(E:(yE C).map opw=#[(.load 24 (cR sc),M Y,Z),(.load 28 (cR 5),M b0,Z),(.call { callee:=.value (.func 6),args:=#[cR Y,cR b0],argTypes:=#[24,28] },M c0,Z),(.move (cR c0),M m,Z),(.extract (cR m) 0,M e0,Z),(.extract (cR m) 1,M e1,Z),(.assign (cR e0),M r0,Z),(.assign (cR e1),M r1,Z)])(hd:(Y≠5/\b0≠Y/\e0≠m/\e1≠e0/\r0≠e1/\r1≠r0)/\Y<178/\b0<178/\c0<178/\m<178/\e0<178/\e1<178/\r0<178/\r1<178)(hG:Oo w te xe)(hz:tm.size=178)(ag:tm[sc]? =M (ptr cb))(t5:tm[5]? =M (ptr ub))(ac:w.heap[cb]? =M (aL (jF c) 24 (0,0)))(ae:w.heap[ub]? =M (aL #[N aE u.id,N aE u.time,.slice ta tn tc,.slice la ln lc] 28 (0,0)))(hu:kW w u (.slice ta tn tc) (.slice la ln lc))(R:∀I w' r e (z:Array aD),afn c u w r e w'->z.size=178->(∀s,s∉[Y,b0,c0,m,e0,e1,r0,r1]->z[s]? =tm[s]?)->z[r0]? =M (.pointer (nv r))->z[r1]? =M (N aE e)->Wq I Post XX (b.at ⟨z,[]⟩ k) A w'):Wq D Post XX (b.at ⟨tm,[]⟩ (.code C::k)) A w:=by
 have hn:(yE C).size=8:=by have:=Z1 Array.size E;simpa using this
 refine Wq.reg hr hn ?_;obtain⟨⟨d1,d2,d3,d4,d5,d6⟩,s0,s1,s2,s3,s4,s5,s6,s7⟩:=hd;refine Wq.qJ _ _ _ w (opm E 0) (VE ac (KI ag)) ?_;refine Wq.qJ _ _ _ w (opm E 1) (IJ ae (KI (pI t5 d1))) ?_;obtain⟨o2,aj,ai,aa,ah⟩:=opc E 2;simp only[eM]
 have J:∀I w' r e,afn c u w r e w'->Wq I Post XX (b.at { tmps:=((tm.setIfInBounds Y (.agg (jF c))).setIfInBounds b0 (gR #[N aE u.id,N aE u.time,.slice ta tn tc,.slice la ln lc])).setIfInBounds c0 (cP #[.pointer (nv r),N aE e]),defers:=[] } (bR (yE C) [3,4,5,6,7]::k)) A w':=by
  intro I w' r e hP;refine Wq.qJ _ _ _ w' (opm E 3) (mv (tnew (by grind))) ?_;simp only[eM];refine Wq.qJ _ _ (.pointer (nv r)) w' (opm E 4) (xt (tnew (by grind)) rfl) ?_;simp only[eM];refine Wq.qJ _ _ (N aE e) w' (opm E 5) (xt (pI (tnew (by grind)) d3) rfl) ?_;simp only[eM];refine Wq.qJ _ _ _ w' (opm E 6) (asg (pI (tnew (by grind)) d4)) ?_;simp only[eM];refine Wq.qJ _ _ _ w' (opm E 7) (asg (pI (tnew (by grind)) d5)) (Wq.done ?_);simp only[eM];refine R I w' r e _ hP (by simpa using hz) (λs hs=>?_) (pI (tnew (by grind)) d6) (tnew (by grind));simp only[dD,o5,or_false,not_or]at hs;obtain⟨q1,q2,q3,q4,q5,q6,q7,q8⟩:=hs;simp only[aV,Zs (lR q1),Zs (lR q2),Zs (lR q3),Zs (lR q4),Zs (lR q5),Zs (lR q6),Zs (lR q7),Zs (lR q8)]
 refine adM rd aj (Cr.jY ah) ai (KI (pI (tnew aA) d2)) (KI (tnew (by grind))) hG hu (λhE I w' p n1 n2 n3=>?_) (λe he I w' hc=>?_)
 .rw[aa];exact J I w' (M p) 0 ⟨n2,hE,rfl,n1,n3⟩
 .rw[aa];exact J I w' Z e ⟨hc,he⟩
end
end
end Pa
namespace Hm
open Go.RowKit Go.Joins Go.Shelf
open Fr (below_drewN)
open Dv (Lo X2 Cf)
section
variable {ls:List Lo}
theorem LI2.rd{w I:X}{E:aD}{z:List PL}(h:LI2 w E ls z I)(J:∀x,x∈ls->x.txs.length<=4294967296/\x.deps.length<=4294967296):Bz I E z:=by refine⟨h.row.rd,λp hp=>?_⟩;have:=J p.1 (by rw[<-h.fst];exact List.mem_map_of_mem hp);exact⟨(h.lor p hp).1,(h.lor p hp).2,aA,aA⟩
section
variable {tm:Array aD}{w:X}{sc vx:aD}{T:Int}{i:Nat}{Q:Exit->Act->X->Prop}
theorem Nl{c:Cf}{x:Nd}{n:Nat}(h:lX w c x)(Y:x.v.log.map cI=ls)(hn:ls.length=n)(h0:0<n)(hf:∀y,y∈ls->y.txs.length<=4294967296/\y.deps.length<=4294967296):eL PQ 14 #[aG (M ⟨x.nk,0,Z⟩)] w λe w'=>∃J I E,e=bX (.slice J n I)/\E.map cI=ls/\Bz w' (.slice J n I) E/\cG w.heap.size w w':=by
 have ae:x.v.log.length=n:=by rw[<-hn,<-Y,bC]
 refine(Y4 h aA λp hp=>hf p.1 (by rw[<-Y];exact List.mem_map_of_mem hp)).mono λe w' ⟨va,he,E,z⟩=>?_;rw[Y]at z;obtain⟨J,I,rfl⟩:=z.row.slice;have R:E.length=n:=by rw[<-hn,<-z.fst,bC]
 have hr:=z.rd hf;rw[R]at he hr;exact⟨J,I,E,he,z.fst,hr,z.b⟩
theorem agC{c:Cf}{xa xb:Nd}(h:Fs tm sc (aG (M ⟨xa.nk,0,Z⟩)) (aG (M ⟨xb.nk,0,Z⟩)) vx T i)(ha:lX w c xa)(hb:lX w c xb)(la:xa.v.log.map cI=ls)(lb:xb.v.log.map cI=ls)(h0:0<ls.length)(ah:ls.length<=4294967296)(hf:∀y,y∈ls->y.txs.length<=4294967296/\y.deps.length<=4294967296)(hR:∀(tm:Array aD) w',tm[8]? =M (cM bB)->cG w.heap.size w w'->Q .ret ⟨tm,[]⟩ w'):Zh.wp PQ Q ⟨tm,[]⟩ w:=by
 obtain⟨hs,t2,t10,t12,t14,t16,t17⟩:=h;obtain⟨l,rfl,hs⟩:=jZ hs
 iterate 178 (obtain⟨_,l,rfl,h'⟩:=jV hs;clear hs;have hs:=h';clear h')
 obtain rfl:=cK.1 hs;clear hs;simp only[eX,eU,dX,aK]at t2 t10 t12 t14 t16 t17;subst t2 t10 t12 t14 t16 t17;obtain⟨n,hn⟩:∃n,ls.length=n:=⟨_,rfl⟩
 have hA:=Nl ha la hn aA hf;have hB:∀W,cG w.heap.size w W->_:=λW hW=>Nl (hb.below hW) lb hn aA hf
 have hG:∀W (aa bb:Option fR) (ac bc:Nat) (I E:List PL),cG w.heap.size w W->Bz W (.slice aa n ac) I->Bz W (.slice bb n bc) E->I.map cI=ls->E.map cI=ls->eL PQ 16 #[.slice aa n ac,.slice bb n bc] W λe W'=>e=bX (cM bB)/\cG w.heap.size w W':=λW aa bb ac bc I E hW h1 h2 h3 h4=>by
  refine(Pv _ _ I E W h1 h2 (by have:=Z1 pn h3;rw[bC]at this;omega)).mono λe W' ⟨r,he,hr,ai⟩=>⟨?_,hW.trans (ai.mono hW.size)⟩
  rw[he,hr.2 (by rw[h3,h4];exact List.prefix_rfl)]
 have HA:cJ _:=λ(_:Unit)=>hA;have HB:cJ _:=hB;have HG:cJ _:=hG;have HR:cJ _:=hR;clear hA hB hG hR ha hb la lb hf hn h0 ah;have e1:((n:Int) == (n:Int))=bB:=aC
 simp only[Zh,gF];go_wp2_with (first|(go_at_call 14;(with_reducible refine aT (HA.out ()) ?_);rintro e w1 ⟨aa,ac,I,rfl,J,ae,R⟩;have Y:cJ _:=jy J (jy ae R);clear J ae R)|(go_at_call 14;(with_reducible refine aT (HB.out _ Y.out.2.2) ?_);rintro e w2 ⟨bb,bc,E,rfl,ag,af,z⟩;have H2:cJ _:=jy ag (jy af z);clear ag af z)|(go_at_call 16;(with_reducible refine aT (HG.out _ _ _ _ _ I E (Y.out.2.2.trans (H2.out.2.2.mono Y.out.2.2.size)) (Y.out.2.1.below H2.out.2.2) H2.out.2.1 Y.out.1 H2.out.1) ?_);rintro e w3 ⟨rfl,z⟩;have H3:cJ _:=z;clear z))
 exact HR.out _ _ rfl H3.out
end
end
section
section
variable {tm:Array aD}{w:X}{sc va vb vx:aD}{T:Int}{i:Nat}{Q:Exit->Act->X->Prop}
theorem adl(h:Fs tm sc va vb vx T i)(J:i<=4294967296)(E:∀tm:Array aD,Fs tm sc va vb vx T (i+1)->Q .normal ⟨tm,[]⟩ w):Gp.wp PQ Q ⟨tm,[]⟩ w:=by
 obtain⟨hs,t2,t10,t12,t14,t16,t17⟩:=h;obtain⟨l,rfl,hs⟩:=jZ hs
 iterate 178 (obtain⟨_,l,rfl,z⟩:=jV hs;clear hs;have hs:=z;clear z)
 obtain rfl:=cK.1 hs;clear hs;simp only[eX,eU,dX,aK]at t2 t10 t12 t14 t16 t17;subst t2 t10 t12 t14 t16 t17;have I:cJ _:=E;clear E;simp only[Gp,tX,gF];go_wp2_with fail;exact I.out _ ⟨rfl,rfl,rfl,rfl,rfl,rfl,rfl⟩
end
end
open Dv (X2 Cf Ba Ch Lo St)
section
variable {n:Nat}{chain:List X2}
theorem Jz{i:Im.It}{b:Ba}(h:Dv.tH i n=M b):b.txs.length<=2*i.bytes.length:=by
 unfold Dv.tH at h;split at h
 .cases h
 .split at h
  .cases h
  .rename_i x r hb;split at h
   .rw[Option.bind_eq_some_iff]at h;obtain⟨l,E,h⟩:=h;unfold Dv.pY at h;split at h
    .rename_i Y R c1 I J z;split at h
     .cases h
     .split at h
      .split at h
       .cases h;have:=Qv E (k:=I) (by rw[z];simp)
        grind
       .cases h
      .cases h
    .cases h
   .cases h
theorem Vx:∀(f:Nat)(s:List UInt8)(n:Nat)(b:Ba),b∈Dv.rd f s n->b.txs.length<=2*s.length
 |0,s,n,b,h=>by simp[Dv.rd]at h
 |f+1,s,n,b,h=>by
  rw[Dv.rd]at h;split at h
  .simp at h
  .split at h
   .simp at h
   .split at h
    .simp at h
    .rename_i i k z _ x E;obtain h|h:=dM.1 h
     .split at h
      .rw[dK.1 h];have:=Jz E;have:=Cj z;omega
      .simp at h
     .have:=Vx f _ n b h
      grind
theorem V3{c:Cf}{u:X2}{cs:List Ch}{wait:List Ba}{b:Ba}(h:b∈(Dv.take c u n cs wait).2):b∈wait\/b.txs.length<=8192:=by
 unfold Dv.take at h;simp only at h;obtain h|h:=dM.1 h
 .exact bN h
 .obtain⟨s,_,hs⟩:=List.mem_flatMap.1 h;have:=Vx _ _ _ _ hs;have h2:=Dv.qy s.length s 4096 [] (by grind);exact cF aA
def Few(x:Lo):Prop:=x.txs.length<=8192/\x.deps.length<=20
theorem MG(hc:Dv.jS chain=bB)(e:Nat):(Dv.jR (chain[e]!)).length<=20:=by
 by_cases z:e<chain.length
 .have:=(Dv.qj (Dv.mG chain Z (Dv.jW hc).2.2.1 e z)).2.1;have h2:=gZ Dv.isDep (chain[e]!).logs;unfold Dv.jR;omega
 .rw[List.getElem!_eq_getElem?_getD,List.getElem?_eq_none aA];decide
theorem RX{c:Cf}(hc:Dv.jS chain=bB){h:Lo}{e:Nat}{t:List (List UInt8)}(ht:t.length<=8192):Few (Dv.lay c chain n h e t):=by
 unfold Dv.lay Few;refine⟨ht,?_⟩;dsimp only;split
 .simp
 .exact MG hc e
theorem GL{c:Cf}{chain:List X2}(hc:Dv.jS chain=bB){n:Nat}:∀(f:Nat)(h:Lo)(wait:List Ba),(∀b,b∈wait->b.txs.length<=8192)->(∀x,x∈(Dv.draws c chain n f h wait).1->Few x)/\∀b,b∈(Dv.draws c chain n f h wait).2->b.txs.length<=8192
 |0,h,wait,hw=>⟨λx E=>by simp[Dv.draws]at E,λb z=>hw b z⟩
 |f+1,h,wait,hw=>by
  have hk:∀b,b∈(Dv.sift c chain n h.epoch (h.time+c.step) wait).2->b.txs.length<=8192:=λb z=>hw b (Dv.LY (c:=c) (chain:=chain) (n:=n) _ _ _ _ z)
  have key:(∀x,(Dv.draw c chain n h wait).1=M x->Few x)/\(Dv.draw c chain n h wait).2=(Dv.sift c chain n h.epoch (h.time+c.step) wait).2:=by
   unfold Dv.draw;dsimp only;split
   .simp
   .rename_i b z;exact⟨λx E=>(by cases E;exact RX hc (hw b (Dv.uG (c:=c) (chain:=chain) (n:=n) _ _ _ _ z).1)),rfl⟩
   .split
    .simp
    .exact⟨λx E=>(by cases E;exact RX hc aC),rfl⟩
  rw[Dv.draws];split
  .grind
  .rename_i x k hd;rw[hd]at key;have I:=GL hc (c:=c) (n:=n) f x k (λb z=>hk b (by grind))
   grind
theorem Df{c:Cf}{chain:List X2}(hc:Dv.jS chain=bB):∀j:Nat,(∀b,b∈(Dv.gone c chain j).wait->b.txs.length<=8192)/\∀x,x∈(Dv.gone c chain j).log->Few x
 |0=>⟨λb z=>by simp[Dv.gone,Dv.start]at z,λx E=>by
   simp only[Dv.gone,Dv.start,dK]at E;rw[E];exact⟨by simp[Dv.first],MG hc 0⟩⟩
 |j+1=>by
  obtain⟨I,h2⟩:=Df hc j;rw[Dv.gone];unfold Dv.step;dsimp only;have hw:∀b,b∈(Dv.take c (chain[j]!) j (Dv.gone c chain j).chs (Dv.gone c chain j).wait).2->b.txs.length<=8192:=λb z=>(V3 z).elim (I b) id;obtain⟨R,J⟩:=GL hc (c:=c) (n:=j) _ _ _ hw;refine⟨J,λx E=>?_⟩
  grind
end
end Hm
namespace Pa
open Go Go.Conc Go.RowKit Go.Joins
open Hm (ptr jF jL kW Fs FB LJ pk tX vF Zh Ux Ph Tc O8 Om OG OH Og Di DK FT Gp FZ G8 Eu DU DL)
open Dv (X2 Cf)
open Po hiding X2 H B IT PR NB
section
structure KR(w:X)(v:aD)(l:List LJ):Prop where
 rd:Hm.Rd w 6 v l.length (l.flatMap LJ.cells)
 up:∀o,o∈l->kW w o.u o.vt o.vl
 kd:∀o,o∈l->-9223372036854775808<=o.kind/\o.kind<=9223372036854775807
 n:∀o,o∈l->-9223372036854775808<=o.n/\o.n<=9223372036854775807
 tm:∀o,o∈l->-9223372036854775808<=o.u.time/\o.u.time<=9223372036854775807
section
variable {Post:vU}{w0:X}{te:cH}{xe:aD}{sa:Option fR}{cap:Nat}{l:List LJ}{na nb nx:Nat}
theorem Yt(z:∀E w' y,jL (λ_=>False) w0 w'->WP (qe Tryz.prog.funcs E) w' y->Keep (qe Tryz.prog.funcs E) Post y->Post.post (cM bB) y)(E:Nat->Prop)(a':Act)(w':X)(todo:List Item)(I:a'.tmps[8]? =M (cM bB))(hd:a'.defers=[])(hc:jL (λ_=>False) w0 w'):Wq E Post [] { (base 4).at a' todo with mode:=.returning } [] w':=
 Wq.last (v:=cM bB) (fn:=gF) rfl hd rfl Tryz.func4 XN (λw=>by
  have:a'.tmps[8]? =_:=I;simp[results,Tryz.results4,go_sem,Frame.at,this]) (λw=>by simp[results,Tryz.results4,go_sem]) (z E w' · hc)
theorem BL(rd:Cr.ReadW)(R:KR w0 (.slice sa l.length cap) l)(hl:l.length<=4294967296)(ac:∀D' w' y,jL (λ_=>False) w0 w'->WP (qe Tryz.prog.funcs D') w' y->Keep (qe Tryz.prog.funcs D') Post y->Post.post (cM bB) y):∀r i,i+r=l.length->∀D w tm s sx pa pb px T,F3 w0 te xe s s sx pa pb px w->pa.x.nk=na->pb.x.nk=nb->px.x.nk=nx->Fs tm (.slice sa l.length cap) (ptr na) (ptr nb) (xv sx px) T i->0<=T->T<=1000000+24*(i:Int)->Wq D Post [] ((base 4).at ⟨tm,[]⟩ [.code tX,.inLoop tX,.inBlock 0,.code Zh]) [] w:=by
 intro r
 induction r with
 |zero=>
  intro i hi D w tm s sx pa pb px T E ea eb ex I ai am;rw[show kB tX=kB _ from by rw[Hm.QL]];refine Wq.seq (Wq.seq (Wq.walk λt d Q J _=>Hm.YQ I rfl λtm I aa=>J _ _ (Wq.same (y:=w) (λ_ _=>rfl) (Wq.cond (t:=aR) (by rw[KI aa,ZZ aA]) ?_))));rw[Zs aB];refine Wq.exit (k':=[.code Zh]) rfl (Wq.walk λt d Q _ hR=>?_);have hf:=Hm.Df (c:=s.c) E.a.hc s.j;have Y:=E.a.log;have hk:=E.a.kl;have bg:=E.a.k1;have a9:=E.a.vc.vw.few;have a6:=Z1 pn Y;rw[bC]at a6;subst ea eb;refine Hm.agC (w:=on w t d) (xa:=pa.x) (xb:=pb.x) (ls:=(Dv.gone s.c s.chain s.j).log.take s.k) I (E.heap (w':=on w t d) rfl).a.nd (E.heap (w':=on w t d) rfl).b.nd Y E.b.log aA aA (λy hy=>?_) λtm w' t8 hb=>hR _ _ λtodo=>Yt ac D _ w' todo t8 rfl (E.jM.trans ((kV hb).heaps rfl rfl) λ_ _ e=>e);have:=hf.2 y (jd hy);unfold Hm.Few at this;omega
 |succ r ih=>
  intro i hi D w tm s sx pa pb px T E ea eb ex I ai am;rw[show kB tX=kB _ from by rw[Hm.QL]];refine Wq.seq (Wq.seq (Wq.walk λt d Q J _=>Hm.YQ I rfl λtm I aa=>J _ _ (Wq.same (y:=w) (λ_ _=>rfl) (Wq.cond (t:=bB) (by rw[KI aa,Z0 aA]) ?_))));rw[ZD rfl];refine Wq.skip (Wq.seq (Wq.block (Wq.seq ?_)));have aj:i<l.length:=aA
  obtain⟨o,ho⟩:∃o,l[i]? =M o:=⟨_,aO aj⟩
  have z:=aX ho;obtain⟨g,off,a7,av,bd,hg,-⟩:=R.rd.pos aA;cases av;have a2:=Hm.Rd.kept R.rd E.jM.size λ_ g _ hl=>E.jM.block g hl λe=>e;have kc:∀t d {j:Nat} {u:aD},j<6->o.cells[j]? =M u->(on w t d).cell? ⟨g,off+(i*6+j),Z⟩=M u:=λt d {_ _} hj hu=>Hm.Rd.rec LJ.cells 6 (λ_=>rfl) a2 ho hj hu;obtain⟨ta,tc,af⟩:=Hm.Rd.slice (R.up o z).1;obtain⟨la,lc,ag⟩:=Hm.Rd.slice (R.up o z).2.1;have ah:=R.up o z;rw[af,ag]at ah;refine Wq.walk λt d Q J _=>Hm.acw (w:=on w t d) (o:=o) I rfl aj (kc t d (j:=0) aA rfl) (kc t d (j:=1) aA rfl) (kc t d (j:=2) aA rfl) (kc t d (j:=3) aA rfl) (kc t d (j:=4) aA (by rw[<-af];rfl)) (kc t d (j:=5) aA (by rw[<-ag];rfl)) λtm w1 I t18 hq=>J _ _ ?_;have hq:w1.heap=(w.alloc (aL #[N aE o.kind,N aE o.n,N aE o.u.id,N aE o.u.time,.slice ta o.u.txs.length tc,.slice la o.u.logs.length lc] 37)).heap:=hq;have a0:=E.still (tJ hq);have ae:w1.heap[w.heap.size]? =M (aL #[N aE o.kind,N aE o.n,N aE o.u.id,N aE o.u.time,.slice ta o.u.txs.length tc,.slice la o.u.logs.length lc] 37 (0,0)):=by rw[hq];exact cY _ _
  obtain⟨d1,d2⟩:=R.kd o z;obtain⟨n1,n2⟩:=R.n o z;obtain⟨m1,m2⟩:=R.tm o z;refine Wq.seq (Wq.seq (Wq.walk λt d Q J _=>Hm.adv (w:=on w1 t d) I t18 ((aI (show(on w1 t d).heap[w.heap.size]? =_ from ae) 0).trans rfl) d1 d2 λtm I t18 aq=>J _ _ (Wq.same (y:=w1) (λ_ _=>rfl) (Wq.block ?_))));refine aad rd n1 n2 m1 m2 ai aA ah a0 ea eb ex I t18 aq ae λD2 w2 bh s2 ba ar ay a8 T2 a5 ap ak a4 a1 ao bj=>?_;refine Wq.inBlock (Zw aA a5 a4 a1 λw3 bb aw au az a3 an=>?_);refine Wq.inBlock (Wq.walk λt d Q J _=>Hm.adl an aA λtm I=>J _ _ (Wq.same (y:=w3) (λ_ _=>rfl) (Wq.inLoop ?_)));exact ih (i+1) aA D2 w3 tm s2 aw ar ay au T2 az ap ak a3 I ao aA
end
noncomputable def YN:Array km:=match Ph with
 |.region _ ops _=>ops
 |_=>#[]
def Zx:∃z,Ph=.region z YN aR:=⟨_,rfl⟩
def JI:iv YN.size=[0,1]:=XN
section
variable {Post:vU}{D:Nat->Prop}{w:X}{te:cH}{xe:aD}{c c2:Cf}{u:X2}{ta la:Option fR}{tn tc ln lc:Nat}{sa:Option fR}{cap:Nat}{l:List LJ}
theorem Qc{c:Cf}{u:X2}(h:newE c u=Z):0<=u.time/\u.time<=1000000:=by have:=(TK h).2;unfold Hm.mM at this;simp only[dF,Z3]at this;exact this.1
theorem Ug{c:Cf}{u:X2}{e:Int}(h:newE c u=M e):e=1\/e=2:=by
 unfold newE at h;split at h
 .cases h;exact bN rfl
 .split at h
  .cases h;exact cF rfl
  .cases h
theorem abr(rd:Cr.ReadW)(hG:Oo w te xe)(hu:kW w u (.slice ta tn tc) (.slice la ln lc))(hO:KR w (.slice sa l.length cap) l)(hl:l.length<=4294967296)(z:∀D' w' y,jL (λ_=>False) w w'->WP (qe Tryz.prog.funcs D') w' y->Keep (qe Tryz.prog.funcs D') Post y->Post.post (cM bB) y):Wq D Post [] ((base 4).at { tmps:=#[.agg (jF c),gR #[N aE u.id,N aE u.time,.slice ta tn tc,.slice la ln lc],.slice sa l.length cap,.agg (jF c2)]++Array.replicate 174 undef,defers:=[] } [.code (.seq Ux (.seq Ph (.seq Tc (.seq O8 (.seq Om (.seq OG (.seq OH (.seq Og (.seq Di (.seq (.seq DK (.block 0 (.loop tX))) Zh))))))))))]) [] w:=by
 simp only[dH,dG,dU,dI,dS,dN];obtain⟨w1,ak,a0,bd⟩:=jD w (jF c) 24;obtain⟨w2,aj,ao,ai⟩:=jD w1 #[N aE u.id,N aE u.time,.slice ta tn tc,.slice la ln lc] 28;obtain⟨w3,a9,aq,am⟩:=jD w2 (jF c2) 24;have s1:w1.heap.size=w.heap.size+1:=by rw[ak];simp
 have s2:w2.heap.size=w.heap.size+2:=by rw[aj];simp[s1]
 have aa:=ao.trans (aq.mono ao.size);have J:=kV (a0.trans (aa.mono a0.size));rw[s1]at ai;rw[s2]at am;have y1:=(aa.block _ aA).trans bd;have y2:=(aq.block _ aA).trans ai;have H:cJ _:=jy hG (jy hu (jy hO (jy hl (jy z (jy J (jy y1 (jy y2 am)))))));clear hG hu hO hl z a0 ao aq aa J bd ai am y1 y2;refine Wq.seq (Wq.walk λt d Q hN _=>?_);have HN:cJ _:=hN;clear hN;simp only[Ux,gF,jF];go_wp2_with fail;refine HN.out _ _ (Wq.same (y:=w3) (λ_ _=>by rw[a9,aj,ak];rfl) (Wq.seq ?_));clear HN ak aj a9 s1 s2;rw[show(on w t d).heap.size=w.heap.size from rfl];obtain⟨hG,hu,hO,hl,z,J,y1,y2,y3⟩:=H.out;have au:=hG.kept J λ_ e=>e.elim;obtain⟨r1,bn⟩:=Zx;rw[bn];refine Wq.region ?_;rw[JI];obtain⟨z0,bj,b6,b0,bo⟩:∃o,YN[0]? =M o/\o.op=.call { callee:=.value (.func 5),args:=#[],argTypes:=#[] }/\o.dst=M 30/\o.guard=Z:=⟨_,rfl,rfl,rfl,rfl⟩
 refine YK rd bj (Cr.jY bo) b6 au.gl au.hd λD4 w4 Y=>?_;rw[b0];simp only[eM,bQ,dP,dO];refine Wq.qJ (.assign (cR 30)) (M 9) (cM bB) w4 rfl (λt d o h=>by unfold bO;simp only[h];rfl) (Wq.done ?_);simp only[eM,bQ,dP,dO];clear hG hu hO hl z J y1 y2 y3 au;refine Wq.seq (Wq.walk λt d Q hN _=>?_);have HN:cJ _:=hN;clear hN;simp only[Tc,gF];go_wp2_with fail;refine HN.out _ _ (Wq.same (y:=w4) (λ_ _=>rfl) (Wq.seq ?_));clear HN;obtain⟨hG,hu,hO,hl,z,J,y1,y2,y3⟩:=H.out;have ah:=J.trans Y λ_ _ e=>e;have box:∀{v:X}{g:Nat}{cs:Array aD}{t:cH},jL (λ_=>False) w3 v->w3.heap[g]? =M (aL cs t (0,0))->v.heap[g]? =M (aL cs t (0,0)):=λhc h=>(hc.block _ (jE h) λe=>e).trans h;have ay:∀{v:X},jL (λ_=>False) w v->kW v u (.slice ta tn tc) (.slice la ln lc):=λhc=>pV hu hc λ_ _ e=>e;refine NT rd O8 4 34 35 36 33 37 38 10 11 ⟨_,rfl⟩ XN aB (hG.kept ah λ_ e=>e.elim) rfl rfl rfl (box Y y1) (box Y y2) (ay ah) λD5 w5 ra ea cc E br k5 bm bs=>?_;have ae:=Y.trans E.1 λ_ _ e=>e;have aw:=ah.trans E.1 λ_ _ e=>e;have a4:=(k5 4 aB).trans rfl;have a5:=(k5 5 aB).trans rfl;have a7:=(k5 7 aB).trans rfl;have a2:=(k5 2 aB).trans rfl;clear k5;refine Wq.seq (NT rd Om 4 40 41 42 39 43 44 12 13 ⟨_,rfl⟩ XN aB (hG.kept aw λ_ e=>e.elim) br a4 a5 (box ae y1) (box ae y2) (ay aw) λD6 w6 rb eb ce R bq k6 b8 bw=>?_);have ac:=ae.trans R.1 λ_ _ e=>e;have ap:=aw.trans R.1 λ_ _ e=>e;have b7:=(k6 7 aB).trans a7;have b5:=(k6 5 aB).trans a5;have b2:=(k6 2 aB).trans a2;have b10:=(k6 10 aB).trans bm;have bp:=(k6 11 aB).trans bs;clear k6;refine Wq.seq (NT rd OG 7 46 47 48 45 49 50 14 15 ⟨_,rfl⟩ XN aB (hG.kept ap λ_ e=>e.elim) bq b7 b5 (box ac y3) (box ac y2) (ay ap) λD7 w7 rx ex b1 ar bu k7 bl cf=>?_);have a3:=ac.trans ar.1 λ_ _ e=>e;have ag:=ap.trans ar.1 λ_ _ e=>e;have I:FB b1 (.slice sa l.length cap) (ptr (w.heap.size+1)) (nv ra) (nv rb) (.pointer (nv rx)):=⟨bu,(k7 2 aB).trans b2,(k7 5 aB).trans b5,(k7 10 aB).trans b10,(k7 12 aB).trans b8,bl⟩
 have c11:=(k7 11 aB).trans bp;have b4:=(k7 13 aB).trans bw;clear k7
 have bv:ea=eb/\((∃pa pb,ra=M pa/\rb=M pb/\ea=0)\/(ra=Z/\rb=Z/\(ea=1\/ea=2))):=by
  cases ra with
  |none=>
   have h1:newE c u=M ea:=E.2;cases rb with
   |none=>
    have h2:newE c u=M eb:=R.2;rw[h1]at h2;exact⟨fC h2,cF ⟨rfl,rfl,Ug h1⟩⟩
   |some pb=>
    have h2:newE c u=Z:=R.2.1;rw[h1]at h2;cases h2
  |some pa=>
   have h1:newE c u=Z:=E.2.1;cases rb with
   |none=>
    have h2:newE c u=M eb:=R.2;rw[h1]at h2;cases h2
   |some pb=>exact⟨E.2.2.1.trans R.2.2.1.symm,bN ⟨pa,pb,rfl,rfl,E.2.2.1⟩⟩
 obtain⟨rfl,af⟩:=bv;refine Wq.seq (Wq.walk λt d Q hN _=>Hm.afF (w:=on w7 t d) I c11 b4 (af.imp (λ⟨pa,pb,h1,h2,h3⟩=>⟨⟨_,by rw[h1];rfl⟩,⟨_,by rw[h2];rfl⟩,h3⟩) λ⟨h1,h2,h3⟩=>⟨by rw[h1];rfl,by rw[h2];rfl,h3⟩) λtm I=>hN _ _ (Wq.same (y:=w7) (λ_ _=>rfl) ?_));refine Wq.seq (Wq.walk λt d Q hN hR=>Hm.ae7 (w:=on w7 t d) I (λtm q hq I=>hN _ _ (Wq.same (y:=w7) (λ_ _=>rfl) ?_)) λtm _ t8=>hR _ _ λtodo=>Yt z D7 _ _ todo t8 rfl (ag.heaps rfl rfl));obtain⟨pa,pb,rfl,rfl,-⟩|⟨h,-⟩:=af
 case inr=>rw[h]at hq;cases hq
 have b3:=box a3 y2;refine Wq.seq (Wq.walk λt d Q hN _=>Hm.adr (w:=on w7 t d) I rfl ((aI (show(on w7 t d).heap[w.heap.size+1]? =_ from b3) 1).trans rfl) λtm I t16=>hN _ _ (Wq.same (y:=w7) (λ_ _=>rfl) ?_));refine Wq.seq (Wq.seq (Wq.walk λt d Q hN _=>Hm.acj (w:=on w7 t d) I t16 λtm hS=>hN _ _ (Wq.same (y:=w7) (λ_ _=>rfl) (Wq.block (Wq.loop ?_)))));obtain⟨bk,bz,-,na,a6⟩:=E;obtain⟨av,-,-,nb,az⟩:=R;obtain⟨a1,hX⟩:=ar;have cd:=ah.size;have b9:=bk.size;have cb:=av.size;have ba:∀g,NK pa g->¬NK pb g:=λg e e'=>by have h1:=na.lt e;have h2:=az g e';omega
 have a8:=(na.still av).still a1;have bg:=nb.still a1;obtain⟨bb,ca⟩:=Qc bz;have bh:=hG.kept ag λ_ e=>e.elim;cases rx with
 |none=>
  refine BL rd hO hl z l.length 0 aA D7 w7 tm ⟨c,[{ u with id:=1 }],1,1,aR,0⟩ Z pa pb pa u.time ⟨a8,bg,λs e=>(by cases e),λg e=>?_,λg e=>?_,λe=>Xs rfl e,ba,λe=>Xs rfl e,λe=>Xs rfl e,bh,ag⟩ rfl rfl rfl hS bb aA
  .have:=a6 g e;omega
  .have:=az g e;omega
 |some px=>
  obtain⟨-,-,nx,an⟩:=hX;refine BL rd hO hl z l.length 0 aA D7 w7 tm ⟨c,[{ u with id:=1 }],1,1,aR,0⟩ (M ⟨c2,[{ u with id:=1 }],1,1,aR,0⟩) pa pb px u.time ⟨a8,bg,λs e=>(by cases e;exact nx),λg e=>?_,λg e=>?_,λ_ g e=>?_,ba,λ_ g e e'=>?_,λ_ g e e'=>?_,bh,ag⟩ rfl rfl rfl hS bb aA
  .have:=a6 g e;omega
  .have:=az g e;omega
  .have:=an g e;omega
  .have h1:=(na.still av).lt e;have h2:=an g e';omega
  .have h1:=nb.lt e;have h2:=an g e';omega
end
end
end Pa
section
open Go.ChangeShapes Go.WideShapes Go.ChangeAt Go.RowKit
def OL:Tryz.prog.cellsOf 4=1:=XN
def Xd:Tryz.prog.cellsOf 5=1:=XN
def Si:Tryz.prog.globalNamed "tributary/item.heads"=M 1:=XN
def IW:(Tryz.prog.globals[ 1 ]?).map (·.type)=M 249:=XN
def JO:Tryz.prog.cellsOf 249=6:=XN
def Ot:Tryz.prog.cellsOf 248=3:=XN
def YO{W:X}{l:List (String×DataW Unit)}(h:laidMet Tryz.prog (("tributary/item.heads",Rows.laid_tributary_item_heads)::l) W):lJ W:=by
 obtain⟨ps,⟨g',t',cs,aa,p,q,J,R,E,hd,_,_⟩,_⟩:=h;obtain rfl:=fC (Si.symm.trans J);obtain rfl:=fC (IW.symm.trans R);obtain⟨xs,m,_,Y,z,I,hi⟩:=DataW.trod_array Tryz.underlying249 hd;rw[JO]at z;have hc:=λi=>World.var?_cell Si E i;obtain⟨cs⟩:=cs
 match cs,z,xs,I with
 |[a0,a1,a2,a3,a4,a5],_,[x0,x1],_=>
 have h0:=hi 0 aA;have h1:=hi 1 aA;simp only[Ot]at h0 h1;simp only[Rows.laid_tributary_item_heads,dJ,DataW.agg.injEq,eP,fP,List.cons.injEq,and_true]at Y;obtain⟨y0,y1,y2,n,hy,_,k0,k1,k2⟩:=Go.Deep.trod_struct3 Tryz.underlying248 h0;obtain⟨z0,z1,z2,n',hz,_,l0,l1,l2⟩:=Go.Deep.trod_struct3 Tryz.underlying248 h1;simp only[OL,Xd]at k0 k1 k2 l0 l1 l2;obtain⟨b0,e0,rfl⟩:=DataW.trod_bool oY k0;obtain⟨b1,e1,rfl,_⟩:=eZ gP k1;obtain⟨b2,e2,rfl,_⟩:=eZ gP k2;obtain⟨b3,e3,rfl⟩:=DataW.trod_bool oY l0;obtain⟨b4,e4,rfl,_⟩:=eZ gP l1;obtain⟨b5,e5,rfl,_⟩:=eZ gP l2;simp at e0 e1 e2 e3 e4 e5;subst e0 e1 e2 e3 e4 e5;subst hy hz;simp at Y;obtain⟨⟨⟨rfl,rfl,rfl⟩,rfl,rfl,rfl⟩,_⟩:=Y;exact⟨⟨hc 0,hc 1,hc 2⟩,hc 3,hc 4,hc 5⟩
end
