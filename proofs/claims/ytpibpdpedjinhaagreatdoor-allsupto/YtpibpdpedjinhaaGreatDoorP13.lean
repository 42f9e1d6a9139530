import Derived.Test.YtpibpdpedjinhaaGreatDoorP10
import Derived.Test.YtpibpdpedjinhaaGreatDoorP11
set_option maxRecDepth 100000
set_option maxHeartbeats 16000000
set_option linter.all false
open Array renaming setIfInBounds->qb,size->qd
open Bool renaming decide_and->Z2,false->pi,true->pw
open ByteArray renaming size->ot
open Decidable renaming em->X8
open Eq renaming symm->si,trans->oy
open Go renaming Addr->zm,Boxed->Ye,Calls->tf,Code->vy,Exit->qaC,Obj->ZG,Oper->OF,Operand->ZT,Program->th,TypeId->wj,TypeInfo->qaH,Value->po,World->pn,bodyPost_ret->sd,callsIn_wide->zw,execOp->rj,heap_alloc_new->sv,info_parts->yk,results_none->Zy,run_takeDeferred->qam,undef->p8,wpList_plain->Z5
open Go.Addr renaming add->sf
open Go.Ending renaming returned->qs
open Go.Instr renaming indexAt->Yc
open Go.IntKind renaming i64->pg,u16->XX,u32->sr
open Go.Joins renaming block_setCell->uk
open Go.Obj renaming cells->pj
open Go.Operand renaming tmp->sn
open Go.Proofs.Tryz renaming f35->z8,results101->ZZ,results121->YL,results123->ZY,results76->ZC,underlying135->Zv,underlying40->Yl
open Go.Region renaming ready->xe
open Go.RowKit renaming Hid->qu
open Go.RowKit.Below renaming alloc->pb,cell->qi,drew->rk,mono->o5,setCell->ph,trans->ow
open Go.Value renaming agg->we,bool->rh,int->ox,oneCell'->sw,ownBlock->ov,pointer->pm,slice->U,string->pk,tuple->sh
open Go.Value.slice renaming injEq->ry
open Go.World renaming alloc->o6,cell?->Z,cell?_of_block->qz,frozen?->sk,ownsRow->r8,ownsRow_nil->Yw,putObj->rq,putObj_heap_other->sa,setCell->o3,setCells->YF
open List renaming append_inj'->ZJ,filter_nil->Z6,getLastD->wm,isEmpty->tk,length->M,mem_flatMap->Ys,range->IS,toArray->py
open Nat renaming le_succ->Yo,lt_of_le_of_lt->qaU
open Option renaming bind_eq_some_iff->qan,getD->Ym,isSome->te,none->X,some->N
open Or renaming inl->rr,inr->rz
open Prod renaming fst->p9,snd->Yd
open UInt8 renaming toNat->pf
open Go.Proofs.Tryz
namespace Go.Proofs.YtpibpdpedjinhaaGreatDoor
open Dv Im Fr
namespace Hm
open Go.RowKit Go.Joins Go.Shelf
open Fr (fG)
open Dv (Zq)
section
variable {w':pn}{kb nb cnt ep sq e s n k g f d:Nat}{c:Cf}{vu vo vw v:po}{us:List PB}{dl:Nat->List (List UInt8)}{ws rs:List PW}{xs:List po}
def hZ(w:pn)(v:po)(l:List (List UInt8)):=fM w 9 1 v (M l) (l.map jP)
structure nT(w:pn)(kb:Nat)(c:Cf)(vu:po)(us:List PB)(dl:Nat->List (List UInt8))(nb:Nat)(vo vw:po)(ws:List PW)(cnt ep sq:Nat):Prop where
 obj:w.1[kb]? =N (pj (gD c vu nb vo vw cnt ep sq) 137 (0,0))
 upper:fM w 139 3 vu (M us) (us.flatMap ng)
 wait:fM w 150 5 vw (M ws) (ws.flatMap gG)
 deps:∀(j:Nat)(p:PB),us[j]? =N p->hZ w p.2.2 (dl j)
 txs:∀p∈ws,hZ w p.2 p.1.4
structure tY(c:Cf)(us:List PB)(ws:List PW)(cnt ep:Nat):Prop where
 times:∀p∈us,0<=p.2.1/\p.2.1<=4294967296
 step:0<=c.6/\c.6<=20
 drift:0<=c.5/\c.5<=100
 window:0<=c.4/\c.4<=8
 cnt:cnt<4294967296
 len:M us<=4294967296
 wlen:M ws<=4294967296
 ep:ep<M us
 batch:∀p∈ws,p.1.1<M us/\p.1.5<=4294967296
def nT.gE{Zn w}(h:nT w kb c vu us dl nb vo vw ws cnt ep sq)(hc:fT Zn w w')(e:¬Zn kb)(f:∀g,ov vu=N g->¬Zn g)(i:∀g,ov vw=N g->¬Zn g)(b:∀(g:Nat)(a:Array po)(d:Nat×Nat),w.1[g]? =N (pj a 9 d)->¬Zn g):nT w' kb c vu us dl nb vo vw ws cnt ep sq:=
 ⟨oy (hc.5 _ (fO h.1) e) h.1,h.2.gE hc f,h.3.gE hc i,λj p a=>fM.gE (h.4 j p a) hc (λg l=>by let⟨d,k⟩:=fM.obj (h.4 j p a) l;exact b g d _ k),λp a=>fM.gE (h.5 p a) hc (λg l=>by let⟨d,k⟩:=fM.obj (h.5 p a) l;exact b g d _ k)⟩
def nT.fF{w}(h:nT w kb c vu us dl nb vo vw ws cnt ep sq)(a:Below w.1.size w w'):nT w' kb c vu us dl nb vo vw ws cnt ep sq:=h.gE (.fF a fI (λ_=>False)) (λe=>e) (λ_ _ e=>e) (λ_ _ e=>e) (λ_ _ _ _ e=>e)
def nT.look{w}(h:nT w kb c vu us dl nb vo vw ws cnt ep sq)(s:tY c us ws cnt ep):Look w kb c us cnt ep:=
 ⟨⟨vu,nb,vo,vw,sq,h.1,h.2.rd⟩,s.1,s.2,s.3,s.4,eZ s.5,s.6⟩
def fK{w}{a:Nat}(h:fM w e s v n xs){cs b}(d:w.1[k]? =N (pj cs a b))(f:a≠e):ov v≠N k:=λc=>by
 let⟨g,hc⟩:=h.obj c;rw[d]at hc;simp at hc;exact f hc.2.1
section
variable {P:th}(w:pn){ops:Array OF}{rest:List OF}{o:OF}{a:Act}{Q:qaC->Act->pn->Prop}
def jy(p:o.6=X)(s x:ZT)(t:wj)(y:o.2=.call { callee:=.builtin .append,args:=#[s,x],argTypes:=#[t,t] })(e:wj)(i:qaH)(size:Nat)(D:P.underlying t=N (.slice e))(q:P.info? e=N i)(C:i.3=size)(b f n d:Nat)(B:a.eval s=U (N ⟨b,f,X⟩) n d)(ad:zm)(m c:Nat)(g:List po)(E:a.eval x=U (N ad) m c)(r:M g=m*size)(v:∀j u,g[j]? =N u->Z w (ad.add j)=N u)(h:∀u∈g,sw u=pw)(A:n+m<=d)(hc:∀j<M g,te (Z w ⟨b,f+n*size+j,X⟩)=pw)(l:∀j,sk w ⟨b,j,X⟩=pi)(hK:wpList P ops Q rest (a.put o.1 (U (N ⟨b,f,X⟩) (n+m) d)) (w.setCells b (f+n*size) g)):wpList P ops Q (o::rest) a w:=by
 refine Z5 p λK k=>?_;subst C;have z:=run_append_room_cells (P:=P) w t o.3 e i D q b f n d ad m c g r v h A hc (λj _=>l _);unfold Oper.wp rj;simp only[y,resolve,invoke,builtin,eM,Sem.run_pure,dT,dC,cL,dB,B,E,z];exact k _ _ hK
end
def wM:(PQ.info? 150).map (λi=>(i.8,i.3,i.4))=N (N (we #[ox pg 0,ox pg 0,ox pg 0,U X 0 0,ox pg 0]),5,56):=Zm
def Sg(w:pn)(f:Nat)(a b c d e:po):pn:=o3 (o3 (o3 (o3 (o3 w ⟨f,0,X⟩ a) ⟨f,1,X⟩ b) ⟨f,2,X⟩ c) ⟨f,3,X⟩ d) ⟨f,4,X⟩ e
def lW(w f a b c d e):fT (λk=>k=f) w (Sg w f a b c d e):=
 ((((fT.set w f 0 a).trans (fT.set _ f 1 b) (λ_ _ e=>e)).trans (fT.set _ f 2 c) (λ_ _ e=>e)).trans (fT.set _ f 3 d) (λ_ _ e=>e)).trans (fT.set _ f 4 e) (λ_ _ e=>e)
def ni{Zr b i f}(d:Zr.1[kb]? =N (pj (gD c vu nb vo vw cnt ep sq) 137 (0,0)))(t:fM Zr 139 3 vu (M us) (us.flatMap ng))(n:∀(h p),us[h]? =N p->hZ Zr p.2.2 (dl h))(r:fM Zr 150 5 b (M i) (i.flatMap gG))(s:∀p∈i,hZ Zr p.2 p.1.4){v:Array po}(l:Zr.1[f]? =N (pj v 150 (0,0)))(a:ov b≠N f)(w x y z A:po):nT (Sg (o3 Zr ⟨kb,10,X⟩ b) f w x y z A) kb c vu us dl nb vo b i cnt ep sq:=by
 have q:kb≠f:=λe=>by rw[e,l]at d;simp at d
 have j:=fT.set Zr kb 10 b
 have k:nT (o3 Zr ⟨kb,10,X⟩ b) kb c vu us dl nb vo b i cnt ep sq:=by
  refine⟨?_,t.gE j (λg a e=>fK t d aB (by rw[a,e])),r.gE j (λg a e=>fK r d aB (by rw[a,e])),λu p h=>fM.gE (n u p h) j (λg a e=>fK (n u p h) d aB (by rw[a,e])),λp h=>fM.gE (s p h) j (λg a e=>fK (s p h) d aB (by rw[a,e]))⟩;have:=gI d 10 b;simpa[gD]using this
 have m:(o3 Zr ⟨kb,10,X⟩ b).1[f]? =N (pj v 150 (0,0)):=oy (aR _ _ _ _ (λe=>q (si e))) l;refine k.gE (lW _ f w x y z A) q (λg a e=>fK k.2 m aB (by rw[a,e])) (λg h e=>a (by rw[h,e])) (λg B C o e=>?_);rw[e,m]at o;simp at o
def x9{w}(h:∀p∈ws,hZ w p.2 p.1.4):∀u∈ws.flatMap gG,sw u=pw:=λu f=>by
 let⟨p,c,b⟩:=Ys.1 f;let⟨a,d,e⟩:=fM.slice (h p c);unfold gG at b;rw[e]at b;simp at b;rcases b with rfl|rfl|rfl|rfl|rfl<;>rfl
def xw{w}(h:fM w e 5 (U (N ⟨g,f,X⟩) n d) n (rs.flatMap gG))(i):∀j u,((rs.drop i).flatMap gG)[j]? =N u->Z w ((⟨g,f+i*5,X⟩:zm).add j)=N u:=λj u a=>by
 rw[<-(lG gG 5 jw rs i).2,eN]at a;have:=h.cell R _ u a;rw[<-cE]at this;unfold sf;split
 .rename_i b;subst b;exact this
 .exact this
def tQ(o:Nat×Option PW):po:=match o.2 with
 |some b=>sh #[C0 b.1 b.2,ox .u8 o.1]
 |none=>sh #[we #[ox pg 0,ox pg 0,ox pg 0,U X 0 0,ox pg 0],ox .u8 o.1]
def iK(c:Cf)(us:List PB)(cnt ep:Nat)(b:PW):Nat:=verdict c us cnt ep b.1 (M b.1.4)
def Gj(kb c vu us dl nb vo vw ws cnt ep sq w)(h:nT w kb c vu us dl nb vo vw ws cnt ep sq)(s:tY c us ws cnt ep):tf PQ 123 #[pm (N ⟨kb,0,X⟩)] w λe w'=>e=qs (tQ (pick (iK c us cnt ep) ws).1)/\∃ba,nT w' kb c vu us dl nb vo ba (pick (iK c us cnt ep) ws).2 cnt ep sq/\(∀g,ov ba=N g->ov vw=N g)/\fT (λk=>k=kb\/ov vw=N k) w w':=by
 let⟨W,hW,A,B⟩:=fL w #[ox pg 0,ox pg 0,ox pg 0,U X 0 0,ox pg 0] 150;have p:=h.fF A;have ag:Z W ⟨kb,10,X⟩=N vw:=fZ p.1 rfl;have P:=aM p.1;have bd:=(fO p.1)
 have bv:=(fO h.1)
 obtain⟨rfl,a3⟩|⟨g,f,d,bk,rfl,az,bz,bp,_,_⟩:=h.3.2
 .obtain rfl:=bC a3;let⟨b,i,j,l,m⟩:=gV B;have q:=aM B;have t:kb≠w.1.size:=by omega
  have H:qu _:=fE p (fE A B);clear p A B h s a3;go_enter (fq func123 R),ntmps123;go_upto_region 1 with fail;rw[<-hW];clear hW;go_wp2;go_loopg [4,5,6,7,18] 0 (λr n _ _ _ a o=>n=U X 0 0/\a=ox pg 0/\o=W)
  case atStart=>exact⟨R,R,R⟩
  case round=>
   obtain⟨rfl,rfl,rfl⟩:=hrel;go_wp2;let⟨p,A,B⟩:=H.out;refine sd (v:=sh #[.agg _,.int _ 0]) (by simp[results,ZY,go_sem,b,i,j,l,m]) R ⟨R,_,?_,λg a=>a,?_⟩
   .exact ni p.1 p.2 p.4 p.3 p.5 B gh _ _ _ _ _
   .exact((fT.fF A fI _).trans (fT.set _ kb 10 _) (λk _ e=>rr e)).trans (lW _ _ _ _ _ _ _) (λk n e=>aA)
 .have bq:=(fO az)
  have bc:kb≠g:=λe=>fK h.3 h.1 aB (by rw[e];rfl);have b2:=s.7;have bo:(0:Int)<=(d:Int):=aA
  have b0:(M ws:Int)<=d:=aA
  obtain⟨V,Q⟩:∃V,V=iK c us cnt ep:=⟨_,R⟩
  rw[<-Q]
  have stay:∀Zr,fT (λk=>k=g) W Zr->Zr.1[kb]? =N (pj (gD c vu nb vo (U (N ⟨g,f,X⟩) (M ws) d) cnt ep sq) 137 (0,0))/\fM Zr 139 3 vu (M us) (us.flatMap ng)/\(∀(j:Nat)(a:PB),us[j]? =N a->hZ Zr a.2.2 (dl j))/\(∀a∈ws,hZ Zr a.2 a.1.4)/\Zr.1[w.1.size]? =N (pj #[ox pg 0,ox pg 0,ox pg 0,U X 0 0,ox pg 0] 150 (0,0)):=λZr r=>by
   let⟨n,i⟩:=p.3.obj (g:=g) R;refine⟨oy (r.5 _ bd bc) p.1,p.2.gE r (λq l e=>fK p.2 i aB (by rw[l,e])),λj b a=>fM.gE (p.4 j b a) r (λq l e=>fK (p.4 j b a) i aB (by rw[l,e])),λb a=>fM.gE (p.5 b a) r (λq l e=>fK (p.5 b a) i aB (by rw[l,e])),oy (r.5 _ (fO B) aA) B⟩
  let⟨i0,a1,bh,a9,bj⟩:=yk wM;have O:qu _:=fE a1 a9;have H:qu _:=fE p (fE A (fE B (fE s (fE stay (fE Q h)))));clear p A B h s az stay Q a1 bh a9 bj;go_enter (fq func123 R),ntmps123;go_upto_region 1 with fail;rw[<-hW];clear hW;go_wp2;go_loopg [4,5,6,7,18] (M ws) (λb n _ _ _ l a=>∃(i m:Nat)(rs:List PW),l=ox pg i/\n=U (N ⟨g,f,X⟩) m d/\b=M ws-i/\m<=i/\i<=M ws/\qu (jf V ws rs m i/\fM a 150 5 (U (N ⟨g,f,X⟩) (M ws) d) (M ws) (rs.flatMap gG)/\fT (λk=>k=g) W a))
  case atStart=>exact⟨0,0,ws,R,R,R,fI,bU _,jf.start V ws,H.1.3,fT.refl _ _⟩
  case round=>
   obtain⟨i,m,rs,rfl,rfl,rfl,bx,bu,q⟩:=hrel;clear ag P;let⟨q1,q2,q3,q4,q5⟩:=H.2.2.2.2.1 wr q.2.2;have ag:Z wr ⟨kb,10,X⟩=N (U (N ⟨g,f,X⟩) (M ws) d):=fZ q1 rfl;have P:=aM q1;have fr:=aM q5;let⟨G,I,J,K,L⟩:=gV q5;have b1:kb≠w.1.size:=aA
   by_cases bg:i<M ws
   .have bw:(i:Int)<M ws:=by omega
    obtain⟨b,hb⟩:∃b,ws[i]? =N b:=⟨_,aK bg⟩
    let⟨p1,p2,p3⟩:=q.out;have a6:=p1.at hb;have aa:=aS hb;let⟨D,E,au⟩:=fM.slice (q4 b aa);have Y:=λj ad (l:j<5) (hu:(gG b)[j]? =N ad)=>p2.cell R (i*5+j) ad (by rw[flat_get gG 5 jw rs i j b a6 l];exact hu);have k0:Z wr ⟨g,f+i*5,X⟩=N (ox pg b.1.1):=by have:=Y 0 _ aA R;exact this
    have k1:Z wr ⟨g,f+i*5+1,X⟩=N (ox pg b.1.2):=by have:=Y 1 _ aA R;exact il
    have k2:Z wr ⟨g,f+i*5+2,X⟩=N (ox pg b.1.3):=by have:=Y 2 _ aA R;exact il
    have k3:Z wr ⟨g,f+i*5+3,X⟩=N (U D (M b.1.4) E):=by have:=Y 3 _ aA R;rw[<-cE,au]at this;exact this
    have k4:Z wr ⟨g,f+i*5+4,X⟩=N (ox pg b.1.5):=by have:=Y 4 _ aA R;exact il
    let⟨W2,ax,ak,yo⟩:=fL wr #[ox pg b.1.1,ox pg b.1.2,ox pg b.1.3,U D (M b.1.4) E,ox pg b.1.5] 150;let⟨y0,y1,y2,y3,y4⟩:=gV yo;have aj:=p3.trans (.fF ak fI (λ_=>False)) (λ_ _ e=>e.elim);let⟨n,y,z,v,a⟩:=H.2.2.2.2.1 W2 aj;have F:=H.2.2.2.1;have aw:Look W2 kb c us cnt ep:=⟨⟨vu,nb,vo,_,sq,n,y.rd⟩,F.1,F.2,F.3,F.4,eZ F.5,F.6⟩
    have ab:=Jo kb c us cnt ep _ D (M b.1.4) E W2 aw F.8 (F.9 b aa).1 (F.9 b aa).2 (λu t=>by
     let⟨j,l⟩:=List.getElem?_of_mem t;let⟨S,T,o⟩:=fM.slice (z j u l);exact⟨S,_,T,o⟩)
    have ai:verdict c us cnt ep b.1 (M b.1.4)=V b:=by rw[H.out.2.2.2.2.2.1];rfl
    rw[ai]at ab;unfold C0 at ab
    have a7:V b=0\/V b=1\/V b=2\/V b=3:=by
     rw[<-ai];unfold verdict;split
     .simp
     .split
      .simp
      .split
       .simp
       .split<;>simp
    obtain⟨vb,av⟩:∃vb,V b=vb:=⟨_,R⟩
    rw[av]at ab a7;have af:qu _:=λ(_:Unit)=>ab;have x:qu _:=fE hb (fE aa (fE au (fE ak (fE yo (fE aj av)))));clear q1 q2 q3 q4 q5 p1 p2 p3 a6 hb aa au Y ak yo aj n y z v a F aw ab ai av
    have behind:∀w3,Below ↑W2 W2 w3->fT (λk=>k=g) W w3/\fM w3 150 5 (U (N ⟨g,f,X⟩) (M ws) d) (M ws) (rs.flatMap gG)/\w3.1[wr.1.size]? =N (pj #[ox pg b.1.1,ox pg b.1.2,ox pg b.1.3,U D (M b.1.4) E,ox pg b.1.5] 150 (0,0)):=λw3 C=>
     ⟨x.2.2.2.2.2.1.trans (.fF C fI (λ_=>False)) (λ_ _ e=>e.elim),(q.2.1.fF x.2.2.2.1).fF C,oy (C.5 _ (fO x.2.2.2.2.1)) x.2.2.2.2.1⟩
    have ae:qu _:=behind;clear behind;go_upto_region 5 with fail;rw[<-ax];clear ax;obtain rfl|rfl|rfl|rfl:=a7
    .go_upto_region 8 with(first|(go_at_call 179;refine aO (af ()) ?_;rintro e w3 ⟨rfl,C⟩)|go_in)
     let⟨T,e2,e3⟩:=ae w3 C;let⟨x0,x1,x2,x3,x4⟩:=gV e3;have ac:=λo=>e2.fF (pb (aH _ w3) fI o);have S:qu _:=fE ac T;clear T e2 e3 ac k0 k1 k2 k3 k4 y0 y1 y2 y3 y4;go_wp2_with (first|(at_builtin;refine jy _ R (sn 29) (sn 31) 135 R 150 i0 5 (uq Zv) O.1 O.2 g f m d R _ 1 1 [ox pg b.1.1,ox pg b.1.2,ox pg b.1.3,U D (M b.1.4) E,ox pg b.1.5] R R (by intro j ad l;match j,l with|0,l=>(simp at l;subst l;simp[sf])|1,l=>(simp at l;subst l;simp[sf])|2,l=>(simp at l;subst l;simp[sf])|3,l=>(simp at l;subst l;simp[sf])|4,l=>(simp at l;subst l;simp[sf])) (by intro ad hu;simp at hu;rcases hu with rfl|rfl|rfl|rfl|rfl<;>rfl) aA (by intro j l;(have ah:j<5:=l);have:=(S.1 (pj #[ox pg b.1.1,ox pg b.1.2,ox pg b.1.3,U D (M b.1.4) E,ox pg b.1.5] 150)).there (j:=m*5+j) aA;exact il) (by intro j;exact(S.1 _).frozen R j) ?_)|go_in)
     go_roundg (M ws-(i+1))
     case measure=>omega
     case rel=>
      refine⟨_,_,_,by go_num,R,R,aA,aA,q.1.stay x.1 x.2.2.2.2.2.2,?_,?_⟩
      .have:=fM.Nx gG 5 jw (S.1 (pj #[ox pg b.1.1,ox pg b.1.2,ox pg b.1.3,U D (M b.1.4) E,ox pg b.1.5] 150)) (m:=m) (by rw[q.out.1.1];omega) b;unfold gG at this⊢;rw[x.out.2.2.1]at this;exact this
      .exact(S.2.trans (fT.alloc (λ_=>False) w3 _) (λ_ _ e=>e.elim)).trans (.grown (gY g _ _ _).1) (λk _ e=>io)
    .go_wp2_with (first|(go_at_call 179;refine aO (af ()) ?_;rintro e w3 ⟨rfl,C⟩)|go_in)
     go_roundg (M ws-(i+1))
     case measure=>omega
     case rel=>
      let⟨o,S,T⟩:=ae w3 C;exact⟨_,m,rs,by go_num,R,R,aA,aA,q.1.go x.1 (by rw[x.out.2.2.2.2.2.2];omega) (by rw[x.out.2.2.2.2.2.2];omega) (by rw[x.out.2.2.2.2.2.2];omega),S,o⟩
    .go_upto_region 10 with(first|(go_at_call 179;refine aO (af ()) ?_;rintro e w3 ⟨rfl,C⟩)|go_in)
     let⟨T,e2,e3⟩:=ae w3 C;let⟨n,y,z,v,a⟩:=H.2.2.2.2.1 w3 T;have ay:Z w3 ⟨kb,10,X⟩=N (U (N ⟨g,f,X⟩) (M ws) d):=fZ n rfl;have am:=x9 (λu t=>v u (q.1.6 u (eS t))) (ws:=rs.drop i);have ao:=xw e2 i;have an:M (rs.drop i)=M ws-i:=by rw[cF,q.out.1.1]
     have ah:M ((rs.drop i).flatMap gG)=(M ws-i)*5:=by rw[jm gG 5 jw,an]
     obtain⟨ap,ac⟩:∃ap,ap=(rs.drop i).flatMap gG:=⟨_,R⟩
     rw[<-ac]at am ao ah;have o:qu _:=fE am (fE ao (fE ah (fE ac (fE e2 (fE T an)))));have a2:(i:Int)<=M ws:=aA
     have a4:¬(i=d):=aA
     have a5:(i:Int)<=d:=aA
     clear T e2 e3 n y z v a am ao ah ac an k0 k1 k2 k3 k4 y0 y1 y2 y3 y4 ag G I J K L P fr;go_wp2_with (first|(at_builtin;refine jy _ R (sn 36) (sn 42) 135 R 150 i0 5 (uq Zv) O.1 O.2 g f m d R _ _ _ ap R o.2.2.1 o.2.1 o.1 aA (by intro j l;(have a8:j<(M ws-i)*5:=(by rw[<-o.out.2.2.1];exact l));have:=o.2.2.2.2.1.there (j:=m*5+j) aA;exact il) lj ?_;generalize r:YF _ _ _ _=Zr;have S:fT (λk=>k=g) W Zr:=(by rw[<-r];exact o.2.2.2.2.2.1.trans (.grown (gY g _ _ _).1) (λk _ e=>io));let⟨n,y,z,v,a⟩:=H.2.2.2.2.1 Zr S;have ay:Z Zr ⟨kb,10,X⟩=N (U (N ⟨g,f,X⟩) (M ws) d):=(by rw[aG n];rfl);have P:=aM n;have fr:=aM a;have G:Z Zr ⟨w.1.size,0,X⟩=N (ox pg 0):=jb;have I:Z Zr ⟨w.1.size,1,X⟩=N (ox pg 0):=jb;have J:Z Zr ⟨w.1.size,2,X⟩=N (ox pg 0):=jb;have K:Z Zr ⟨w.1.size,3,X⟩=N (U X 0 0):=jb;have L:Z Zr ⟨w.1.size,4,X⟩=N (ox pg 0):=jb;have HX:qu _:=fE r S;clear r S n y z v a)|go_in)
     let⟨p,A,B,s,stay,Q,h⟩:=H.out;let⟨t1,t2,t3,t4,t5,t6,t7⟩:=o.out;let⟨r,S⟩:=HX.out;let⟨n,y,z,v,a⟩:=stay Zr S;have ar:=q.1.halt x.1 x.2.2.2.2.2.2;have aq:=fM.BP gG 5 jw t5 (k:=m) (rs.drop i) aA (by rw[t7];omega);rw[<-t4,r,t7]at aq;have a0:M (rs.take m++rs.drop i)=m+(M ws-i):=by rw[aN,bA,t7,q.out.1.1,dF aA]
     refine sd (v:=sh #[we #[ox pg 0,ox pg 0,ox pg 0,U X 0 0,ox pg 0],ox .u8 2]) (by simp[results,ZY,go_sem,G,I,J,K,L]) R ⟨by rw[ar];rfl,U (N _) (m+(M ws-i)) d,?_,λbb hq=>hq,?_⟩
     .rw[ar];refine ni n y z (by rw[a0];exact aq) (λu t=>?_) a kn _ _ _ _ _;obtain t|t:=bV.1 t
      .exact v u (q.1.6 u (eR t))
      .exact v u (q.1.6 u (eS t))
     .exact((((fT.fF A fI _).trans S (λk _ e=>rz (by rw[e];rfl))).trans (fT.set _ kb 10 _) (λk _ e=>rr e)).trans (lW _ _ _ _ _ _ _) (λk hk e=>aA))
    .go_upto_region 13 with(first|(go_at_call 179;refine aO (af ()) ?_;rintro e w3 ⟨rfl,C⟩)|go_in)
     let⟨e1,e2,e3⟩:=ae w3 C;let⟨n,y,z,v,a⟩:=H.2.2.2.2.1 w3 e1;have bl:Z w3 ⟨kb,10,X⟩=N (U (N ⟨g,f,X⟩) (M ws) d):=fZ n rfl;have ap:=x9 (λu t=>v u (q.1.6 u (eS t))) (ws:=rs.drop (i+1));have ar:=xw e2 (i+1);have aq:M (rs.drop (i+1))=M ws-(i+1):=by rw[cF,q.out.1.1]
     have ao:M ((rs.drop (i+1)).flatMap gG)=(M ws-(i+1))*5:=by rw[jm gG 5 jw,aq]
     obtain⟨ac,an⟩:∃ac,ac=(rs.drop (i+1)).flatMap gG:=⟨_,R⟩
     rw[<-an]at ap ar ao;have ay:=(fO e3)
     have a0:wr.1.size≠g:=by
      have S:=q.2.1.lt (g:=g) R;omega
     have o:qu _:=fE ap (fE ar (fE ao (fE an (fE e2 (fE e1 (fE aq (fE e3 C)))))));have br:(i:Int)+1<=(M ws:Int):=aA
     have bs:(i:Int)+1<=(d:Int):=aA
     clear e1 e2 e3 n y z v a ap ar ao an aq k0 k1 k2 k3 k4 y0 y1 y2 y3 y4 ag G I J K L P fr;by_cases bb:i+1=d
     .have a8:M ws-(i+1)=0:=by omega
      have a4:ac=[]:=bC (by rw[o.out.2.2.1,a8]);have ah:qu _:=a4;clear a8 a4;subst bb;go_wp2_with (first|(at_builtin;refine jy _ R (sn 50) (sn 57) 135 R 150 i0 5 (uq Zv) O.1 O.2 g f m _ R _ 0 0 ac R (by rw[ah.out];rfl) (by intro j ad l;rw[ah.out]at l;simp at l) o.1 aA (by intro j l;rw[ah.out]at l;simp at l) lj ?_;generalize r:YF _ _ _ _=Zr;have am:fT (λk=>k=g) w3 Zr:=(by rw[<-r];exact(fT.grown (gY g _ _ _).1).mono (λk _ e=>io));have T:=o.2.2.2.2.2.1.trans am (λ_ _ e=>e);let⟨n,y,z,v,a⟩:=H.2.2.2.2.1 Zr T;have S:=oy (am.5 _ ay a0) o.2.2.2.2.2.2.2.1;have x0:Z Zr ⟨wr.1.size,0,X⟩=N (ox pg b.1.1):=kj;have x1:Z Zr ⟨wr.1.size,1,X⟩=N (ox pg b.1.2):=kj;have x2:Z Zr ⟨wr.1.size,2,X⟩=N (ox pg b.1.3):=kj;have x3:Z Zr ⟨wr.1.size,3,X⟩=N (U D (M b.1.4) E):=kj;have x4:Z Zr ⟨wr.1.size,4,X⟩=N (ox pg b.1.5):=kj;have bm:Z Zr ⟨kb,10,X⟩=N (U (N ⟨g,f,X⟩) (M ws) (i+1)):=(by rw[aG n];rfl);have P:=aM n;have fr:=aM a;have G:Z Zr ⟨w.1.size,0,X⟩=N (ox pg 0):=jb;have I:Z Zr ⟨w.1.size,1,X⟩=N (ox pg 0):=jb;have J:Z Zr ⟨w.1.size,2,X⟩=N (ox pg 0):=jb;have K:Z Zr ⟨w.1.size,3,X⟩=N (U X 0 0):=jb;have L:Z Zr ⟨w.1.size,4,X⟩=N (ox pg 0):=jb;have HX:qu _:=fE r T;clear r T n y z v a S am)|go_in)
      let⟨p,A,B,s,stay,Q,h⟩:=H.out;let⟨t1,t2,t3,t4,t5,t6,t7,t8,t9⟩:=o.out;let⟨r,T⟩:=HX.out;let⟨n,y,z,v,a⟩:=stay Zr T;have a5:=q.1.got x.1 x.2.2.2.2.2.2;have a2:=fM.BP gG 5 jw t5 (k:=m) (rs.drop (i+1)) aA (by rw[t7];omega);rw[<-t4,r,t7,show M ws-(i+1)=0 from by omega]at a2;have bf:M (rs.take m++rs.drop (i+1))=m+0:=by rw[aN,bA,t7,q.out.1.1,dF aA];omega
      refine sd (v:=sh #[we #[ox pg b.1.1,ox pg b.1.2,ox pg b.1.3,U D (M b.1.4) E,ox pg b.1.5],ox .u8 3]) (by simp[results,ZY,go_sem,G,I,J,K,L]) R ⟨by rw[a5];unfold tQ C0;dsimp only;rw[x.out.2.2.1];rfl,U (N _) (m+0) (i+1),?_,λb4 hq=>hq,?_⟩
      .rw[a5];refine ni n y z (by rw[bf];exact a2) (λu t=>?_) a kn _ _ _ _ _;obtain t|t:=bV.1 t
       .exact v u (q.1.6 u (eR t))
       .exact v u (q.1.6 u (eS t))
      .exact j6
     .go_wp2_with (first|(at_builtin;refine jy _ R (sn 50) (sn 57) 135 R 150 i0 5 (uq Zv) O.1 O.2 g f m d R _ _ _ ac R o.2.2.1 o.2.1 o.1 aA (by intro j l;(have a8:j<(M ws-(i+1))*5:=(by rw[<-o.out.2.2.1];exact l));have:=o.2.2.2.2.1.there (j:=m*5+j) aA;exact il) lj ?_;generalize r:YF _ _ _ _=Zr;have ah:fT (λk=>k=g) w3 Zr:=(by rw[<-r];exact(fT.grown (gY g _ _ _).1).mono (λk _ e=>io));have T:=o.2.2.2.2.2.1.trans ah (λ_ _ e=>e);let⟨n,y,z,v,a⟩:=H.2.2.2.2.1 Zr T;have S:=oy (ah.5 _ ay a0) o.2.2.2.2.2.2.2.1;have x0:Z Zr ⟨wr.1.size,0,X⟩=N (ox pg b.1.1):=kj;have x1:Z Zr ⟨wr.1.size,1,X⟩=N (ox pg b.1.2):=kj;have x2:Z Zr ⟨wr.1.size,2,X⟩=N (ox pg b.1.3):=kj;have x3:Z Zr ⟨wr.1.size,3,X⟩=N (U D (M b.1.4) E):=kj;have x4:Z Zr ⟨wr.1.size,4,X⟩=N (ox pg b.1.5):=kj;have a5:Z Zr ⟨kb,10,X⟩=N (U (N ⟨g,f,X⟩) (M ws) d):=(by rw[aG n];rfl);have P:=aM n;have fr:=aM a;have G:Z Zr ⟨w.1.size,0,X⟩=N (ox pg 0):=jb;have I:Z Zr ⟨w.1.size,1,X⟩=N (ox pg 0):=jb;have J:Z Zr ⟨w.1.size,2,X⟩=N (ox pg 0):=jb;have K:Z Zr ⟨w.1.size,3,X⟩=N (U X 0 0):=jb;have L:Z Zr ⟨w.1.size,4,X⟩=N (ox pg 0):=jb;have HX:qu _:=fE r T;clear r T n y z v a S ah)|go_in)
      let⟨p,A,B,s,stay,Q,h⟩:=H.out;let⟨t1,t2,t3,t4,t5,t6,t7,t8,t9⟩:=o.out;let⟨r,T⟩:=HX.out;let⟨n,y,z,v,a⟩:=stay Zr T;have a2:=q.1.got x.1 x.2.2.2.2.2.2;have am:=fM.BP gG 5 jw t5 (k:=m) (rs.drop (i+1)) aA (by rw[t7];omega);rw[<-t4,r,t7]at am;have a4:M (rs.take m++rs.drop (i+1))=m+(M ws-(i+1)):=by rw[aN,bA,t7,q.out.1.1,dF aA]
      refine sd (v:=sh #[we #[ox pg b.1.1,ox pg b.1.2,ox pg b.1.3,U D (M b.1.4) E,ox pg b.1.5],ox .u8 3]) (by simp[results,ZY,go_sem,G,I,J,K,L]) R ⟨by rw[a2];unfold tQ C0;dsimp only;rw[x.out.2.2.1];rfl,U (N _) (m+(M ws-(i+1))) d,?_,λbf hq=>hq,?_⟩
      .rw[a2];refine ni n y z (by rw[a4];exact am) (λu t=>?_) a kn _ _ _ _ _;obtain t|t:=bV.1 t
       .exact v u (q.1.6 u (eR t))
       .exact v u (q.1.6 u (eS t))
      .exact j6
   .have x:¬(i:Int)<M ws:=by omega
    clear q1 q2 q3 q4 q5;go_wp2;let⟨p,A,B,s,stay,Q,h⟩:=H.out;let⟨a,v,n⟩:=q.out;let⟨q1,q2,q3,q4,q5⟩:=stay wr n;have t:=a.done aA;rw[t];have y:=a.1;have b:=v.take (k:=m) aA;rw[(lG gG 5 jw rs m).1]at b;refine sd (v:=sh #[.agg _,.int _ 0]) (by simp[results,ZY,go_sem,G,I,J,K,L]) R ⟨R,U (N _) m d,?_,λz u=>u,?_⟩
    .refine ni q1 q2 q3 (by rw[bA,dF aA];exact b) (λl o=>?_) q5 kn _ _ _ _ _;exact q4 l (a.6 l (eR o))
    .exact((((fT.fF A fI _).trans n (λk _ e=>rz (by rw[e];rfl))).trans (fT.set _ kb 10 _) (λk _ e=>rr e)).trans (lW _ _ _ _ _ _ _) (λk l e=>aA))
end
def Lf(w):(binOp .eql 40 (U X 0 0) (U X 0 0)).run PQ w=.ok (rh pw) w:=Zm
def IG(w a n c):(binOp .eql 40 (U (N a) n c) (U X 0 0)).run PQ w=.ok (rh pi) w:=Zm
def FR(v l w)(h:hZ w v l)(Y:M l<=4294967296):tf PQ 130 #[v] w λe I=>∃A f,e=qs (U A (M l) f)/\jk I w.1.size (U A (M l) f) l/\Below w.1.size w I:=by
 obtain⟨rfl,P⟩|⟨g,Q,f,S,rfl,O,aa,T,_,_⟩:=h.2
 .obtain rfl:=bC P;have a:=Lf;go_enter (fq func130 R),ntmps130;go_wp2;go_ret;exact⟨X,0,R,⟨fM.nil _ _ _,gh⟩,aH _ _⟩
 .let⟨G,B,D,E,F⟩:=yk mM;have d:qu _:=fE B (fE D (fE E F));let⟨W,t,b,o⟩:=fL w #[] 9;have y:fM W 9 1 (U (N ⟨↑w,0,X⟩) 0 0) 0 []:=⟨aC,rz ⟨_,0,0,_,R,o,fI,aE,aC,λj u c=>by simp at c⟩⟩
  have m:∀j u,(l.map jP)[j]? =N u->Z W ((⟨g,Q,X⟩:zm).add j)=N u:=λj u c=>by
   have:=(fM.fF h b).cell R j u c;unfold sf;split
   .rename_i a;subst a;exact this
   .exact this
  have p:∀u∈l.map jP,sw u=pw:=λu z=>by
   obtain⟨x,_,rfl⟩:=bB.1 z;rfl
  have n:M (l.map jP)=M l*1:=aC
  obtain⟨q,i⟩:∃q,q=l.map jP:=⟨_,R⟩
  rw[<-i]at m p n;have H:qu _:=fE b (fE o (fE y (fE m (fE p (fE n i)))));have V:=IG;clear b o y m p n i h B D E F O;by_cases C:M l=0
  .obtain⟨rfl⟩:l=[]:=bC C;have a:q=[]:=H.2.2.2.2.2.2;have s:qu _:=a;clear a C;go_enter (fq func130 R),ntmps130;go_upto_region 3 with fail;go_wp2_with (first|(at_builtin;rw[<-t];refine jy _ R (sn 5) (sn 6) 40 R 9 G 1 (uq Yl) d.1 d.2.2.1 _ 0 0 0 R _ 0 f [] R R (by intro j u c;simp at c) (by intro u z;simp at z) aA (by intro j c;simp at c) (by intro j;exact aM H.2.1 j) ?_)|go_in)
   go_ret;subst t;exact⟨_,0,R,⟨H.2.2.1,λr k=>by have:N w.1.size=N r:=k;cases this;exact fI⟩,H.1⟩
  .go_enter (fq func130 R),ntmps130;go_upto_region 3 with fail;go_wp2_with (first|(at_builtin;rw[<-t];refine fX _ R (sn 5) (sn 6) 40 R 9 G _ 1 16 (uq Yl) d.1 d.2.1 d.2.2.1 d.2.2.2 R aB _ 0 [] R H.2.2.1 _ _ f q R aA H.2.2.2.2.2.1 H.2.2.2.1 H.2.2.2.2.1 aE aA ?_;intro s ab K w5 k a;have J:qu _:=fE k a;clear k a)|go_in)
   go_ret;let⟨k,a⟩:=J.out;let⟨b,o,y,m,p,n,i⟩:=H.out;rw[cX,cA,i]at k
   have L:↑w<=s:=by
    obtain e|e:=a.own
    .have:N w.1.size=N s:=e;cases this;exact fI
    .exact aX b.4 e
   refine⟨_,K,R,⟨k,λr x=>by have:N s=N r:=x;cases this;exact L⟩,?_⟩;refine ow b ⟨a.gE.1,a.gE.2,a.gE.3,a.gE.4,λr x=>a.gE.5 r (aL x b.4) (λe=>?_)⟩;have:N w.1.size=N r:=e;cases this;omega
def alone(c:Cf)(us:List PB)(b a:Nat):Nat:=if vK us (a+1)<=ji c us b then a+1 else a
def tL(e:Nat)(c:Cf)(us:List PB)(d a:Nat)(w:pn)(h:Look w e c us d a)(y:a+1<M us):tf PQ 125 #[pm (N ⟨e,0,X⟩)] w λx C=>x=qs (ox pg (alone c us d a:Nat))/\∃m,C=w.drewN m:=by
 let⟨O,J,L,P,K,f,j⟩:=h.1;obtain⟨g,q,u,rfl,I,F,z⟩:=j.pos aA;obtain⟨p,i⟩:∃p,us[a+1]? =N p:=⟨_,aK y⟩
 have A:Z w ⟨g,q+(a+1)*3+1,X⟩=N (ox pg p.2.1):=by
  have:=Rd.rec ng 3 (λ_=>R) j i (i:=1) (u:=.int _ _) aA R;exact il
 have E:Z w ⟨e,7,X⟩=N (U (N ⟨g,q,X⟩) (M us) u):=fZ f rfl;have D:Z w ⟨e,12,X⟩=N (ox pg a):=fZ f rfl;have l:=λm=>zx e c us d a _ (h.drewN m) aA;have H:(a:Int)+1<(M us:Int):=aA
 obtain⟨t,k⟩:∃t,ji c us d=t:=⟨_,R⟩
 obtain⟨r,b⟩:∃r,alone c us d a=r:=⟨_,R⟩
 rw[b];unfold alone at b;rw[pT i,k]at b;rw[k]at l;obtain⟨B,o⟩:∃x,p.2.1=x:=⟨_,R⟩
 rw[o]at A b;have s:qu _:=l;have n:qu _:=b;have G:=h.7;clear h f j z i l b k o;go_enter (fq func125 R),ntmps125;go_upto_region 1 with fail;go_quiet ((go_at_call 178;exact Calls.quiet_of (s _)));by_cases v:B<=t
 .go_wp2;go_ret;refine⟨?_,_,R⟩;rw[<-n.out,Zb v];rfl
 .go_wp2;go_ret;refine⟨?_,_,R⟩;rw[<-n.out,Za aA];rfl
section
variable {w w':pn}{d o a f m Zs b:Nat}{p q r v0 v1 v2 v3 v4 v5 v6 v7:po}{us:List PB}{j:Nat->List (List UInt8)}{n:List PW}{ty:wj}
def RU(num:Nat)(a:Int)(f:Nat)(id:Int)(m:Nat)(c b:po)(at_:Nat):po:=we #[ox pg num,ox pg a,ox pg f,ox pg id,ox pg m,c,b,ox pg at_]
def gO(a f m e:Nat):Nat:=if 0<a/\e=f then m+1 else 0
def nT.turn{c}(h:nT w d c p us j o q r n a f m){i l s:Nat}(hc:fT (λk=>k=d) w w')(v:w'.1[d]? =N (pj (gD c p o q r i l s) 137 (0,0))):nT w' d c p us j o q r n i l s:=
 ⟨v,h.2.gE hc (λg u t=>fK h.2 h.1 aB (by rw[u,t])),h.3.gE hc (λg u t=>fK h.3 h.1 aB (by rw[u,t])),λk e b=>fM.gE (h.4 k e b) hc (λg u t=>fK (h.4 k e b) h.1 aB (by rw[u,t])),λe b=>fM.gE (h.5 e b) hc (λg u t=>fK (h.5 e b) h.1 aB (by rw[u,t]))⟩
def lY(w:pn)(Zs:Nat)(a b c d e f g h:po):pn:=o3 (o3 (o3 (o3 (o3 (o3 (o3 (o3 w ⟨Zs,0,X⟩ a) ⟨Zs,1,X⟩ b) ⟨Zs,2,X⟩ c) ⟨Zs,3,X⟩ d) ⟨Zs,4,X⟩ e) ⟨Zs,5,X⟩ f) ⟨Zs,6,X⟩ g) ⟨Zs,7,X⟩ h
def iA(w Zs a b c d e f g h):fT (λk=>k=Zs) w (lY w Zs a b c d e f g h):=
 (((((((fT.set w Zs 0 a).trans (fT.set _ Zs 1 b) (λ_ _ e=>e)).trans (fT.set _ Zs 2 c) (λ_ _ e=>e)).trans (fT.set _ Zs 3 d) (λ_ _ e=>e)).trans (fT.set _ Zs 4 e) (λ_ _ e=>e)).trans (fT.set _ Zs 5 f) (λ_ _ e=>e)).trans (fT.set _ Zs 6 g) (λ_ _ e=>e)).trans (fT.set _ Zs 7 h) (λ_ _ e=>e)
def yR(h:w.1[Zs]? =N (pj #[v0,v1,v2,v3,v4,v5,v6,v7] ty (0,0)))(a b c d e f g i):(lY w Zs a b c d e f g i).1[Zs]? =N (pj #[a,b,c,d,e,f,g,i] ty (0,0)):=by have:=gI (gI (gI (gI (gI (gI (gI (gI h 0 a) 1 b) 2 c) 3 d) 4 e) 5 f) 6 g) 7 i;simpa[lY]using this
def NN{V c G I l}(h:nT V d c p us j o q r n a f m)(k:jk V G I l){H}(A:V.1[Zs]? =N (pj H 62 (0,0)))(s t u v w x y z):nT (lY (o3 V ⟨d,11,X⟩ (ox pg ((a:Int)+1))) Zs s t u v w x y z) d c p us j o q r n (a+1) f m/\jk (lY (o3 V ⟨d,11,X⟩ (ox pg ((a:Int)+1))) Zs s t u v w x y z) G I l:=by
 have C:d≠Zs:=λe=>by have:=h.1;rw[e,A]at this;simp at this
 have F:=fT.set V d 11 (ox pg (a+1))
 have i:nT (o3 V ⟨d,11,X⟩ (ox pg ((a:Int)+1))) d c p us j o q r n (a+1) f m:=by
  refine h.turn F ?_;have:=gI h.1 11 (ox pg (a+1));simpa[gD]using this
 have D:=k.1.gE F (λg J e=>fK k.1 h.1 aB (by rw[J,e]));have b:(o3 V ⟨d,11,X⟩ (ox pg ((a:Int)+1))).1[Zs]? =N (pj H 62 (0,0)):=oy (aR _ _ _ _ (λe=>C (si e))) A;have E:=iA (o3 V ⟨d,11,X⟩ (ox pg (a+1))) Zs s t u v w x y z;refine⟨i.gE E C (λg J e=>fK i.2 b aB (by rw[J,e])) (λg J e=>fK i.3 b aB (by rw[J,e])) (λg K L B e=>?_),D.gE E (λg J e=>fK D b aB (by rw[J,e])),k.2⟩;rw[e,b]at B;simp at B
def gS{W}(h:W.1[b]? =N (pj #[v0,v1,v2,v3,v4,v5,v6,v7] ty (0,0))):Z W ⟨b,0,X⟩=N v0/\Z W ⟨b,1,X⟩=N v1/\Z W ⟨b,2,X⟩=N v2/\Z W ⟨b,3,X⟩=N v3/\Z W ⟨b,4,X⟩=N v4/\Z W ⟨b,5,X⟩=N v5/\Z W ⟨b,6,X⟩=N v6/\Z W ⟨b,7,X⟩=N v7/\(∀o,sk W ⟨b,o,X⟩=pi):=
 ⟨ij,ij,ij,ij,ij,ij,ij,ij,aM h⟩
def Dn(d c p us j o q r n a f m e ta tn tc w)(h:nT w d c p us j o q r n a f m)(s:tY c us n a f)(he:e<M us)(bs:m<4294967296)(aj:∀g,M (j g)<=4294967296):
  tf PQ 122 #[pm (N ⟨d,0,X⟩),ox pg e,U ta tn tc] w λax w'=>∃vd,ax=qs (RU a (ji c us a) e (AG us e) (gO a f m e) (U ta tn tc) vd (M us-1))/\jk w' ↑w vd (if gO a f m e=0 then j e else [])/\nT w' d c p us j o q r n (a+1) e (gO a f m e)/\fT (λk=>k=d) w w':=by
 let⟨W,hW,ac,ro⟩:=fL w #[ox pg 0,ox pg 0,ox pg 0,ox pg 0,ox pg 0,U X 0 0,U X 0 0,ox pg 0] 62;have t:=h.fF ac;have ah:Z W ⟨d,11,X⟩=N (ox pg a):=fZ t.1 rfl;have ba:Z W ⟨d,12,X⟩=N (ox pg f):=fZ t.1 rfl;have ai:Z W ⟨d,13,X⟩=N (ox pg m):=fZ t.1 rfl;have fk:=aM t.1;obtain⟨i,E⟩:∃i,gO a f m e=i:=⟨_,R⟩
 rw[E];unfold gO at E;obtain⟨ld,ap⟩:∃ld,(if i=0 then j e else [])=ld:=⟨_,R⟩
 rw[ap];have ay:qu _:=ap;clear ap;have H:qu _:=fE t (fE ac (fE ro (fE s (fE E aj))));have bj:=s.5;have bk:=s.6;have bl:=(fO h.1)
 clear t ac ro s E h aj;go_enter (fq func122 R),ntmps122;go_upto_region 1 with fail;rw[<-hW];clear hW;obtain⟨b,hb⟩:∃b,decide (0<a/\e=f)=b:=⟨_,R⟩
 have Hb:qu _:=hb;clear hb;go_cut [21] (λv g=>v=rh b/\g=W)
 case first=>
  by_cases l:0<a
  .have x:(0:Int)<(a:Int):=by omega
   by_cases g:e=f
   .have y:((e:Int) == (f:Int))=pw:=by rw[g];simp
    have u:qu _:=fE l g;clear g l;go_wp2;go_meet;refine⟨?_,R⟩;rw[<-Hb.out,Ze u.out]
   .have y:((e:Int) == (f:Int))=pi:=Zc aA;have u:qu _:=g;clear g;go_wp2;go_meet;refine⟨?_,R⟩;rw[<-Hb.out,Zd (λh=>u.out h.2)]
  .have u:¬(0:Int)<(a:Int):=by omega
   have g:qu _:=l;clear l;go_wp2;go_meet;refine⟨?_,R⟩;rw[<-Hb.out,Zd (λh=>g.out h.1)]
 case rest=>
  obtain⟨rfl,af⟩:=hcut;have aw:=si af;clear af;subst aw;go_upto_if 21 with fail;go_cut [22] (λ_ g=>qu (nT g d c p us j o q r n a e i/\fT (λk=>k=d) W g))
  case first=>
   cases b
   .go_wp2;go_meet;let⟨t,ac,ro,s,E,aj⟩:=H.out;have g:i=0:=by rw[<-E,Za (Zj Hb.out)]
    subst g;have hc:fT (λk=>k=d) W (o3 (o3 W ⟨d,12,X⟩ (ox pg e)) ⟨d,13,X⟩ (ox pg 0)):=(fT.set _ d 12 _).trans (fT.set _ d 13 _) (λ_ _ e=>e);refine⟨t.turn hc ?_,hc⟩;have:=gI (gI t.1 12 (ox pg e)) 13 (ox pg 0);simpa[gD]using this
   .go_wp2;go_meet;let⟨t,ac,ro,s,E,aj⟩:=H.out;let⟨l,g⟩:=Zg Hb.out;have u:i=m+1:=by rw[<-E,Zb ⟨l,g⟩]
    subst u g;have hc:fT (λk=>k=d) W (o3 W ⟨d,13,X⟩ (ox pg ((m:Int)+1))):=fT.set _ d 13 _;refine⟨t.turn hc ?_,hc⟩;have:=gI t.1 13 (ox pg (m+1));simpa[gD]using this
  case rest=>
   obtain⟨y,bc⟩:∃V,V=wc:=⟨_,R⟩
   subst bc;clear ah ba ai fk;let⟨P,J⟩:=hcut.out;have L:y.1[w.1.size]? =_:=oy (J.5 _ (fO H.2.2.1) aA) H.2.2.1;let⟨g,am,bb,av,br⟩:=P.2.pos aA;obtain⟨C,x⟩:∃C,us[e]? =N C:=⟨_,aK he⟩
   let⟨da,aa,ao⟩:=fM.slice (P.4 e C x);have ad:=P.2.rd;rw[av]at ad;have k0:Z y ⟨g,am+e*3,X⟩=N (ox pg C.1):=Rd.rec ng 3 (λ_=>R) ad x (i:=0) (u:=.int _ _) aA R
   have k1:Z y ⟨g,am+e*3+1,X⟩=N (ox pg C.2.1):=by
    have:=Rd.rec ng 3 (λ_=>R) ad x (i:=1) (u:=.int _ _) aA R;exact il
   have k2:Z y ⟨g,am+e*3+2,X⟩=N (U da (M (j e)) aa):=by
    have:=Rd.rec ng 3 (λ_=>R) ad x (i:=2) (u:=U da (M (j e)) aa) aA (by rw[<-ao];rfl);exact il
   have c7:Z y ⟨d,7,X⟩=N (U (N ⟨g,am,X⟩) (M us) bb):=by rw[aG P.1,<-av];rfl
   have bp:(e:Int)<M us:=aA
   let⟨Zr,hX,D,F⟩:=fL y #[ox pg C.1,ox pg C.2.1,U da (M (j e)) aa] 139;have u:=P.fF D;have a7:tY c us n a e:=⟨H.2.2.2.1.1,H.2.2.2.1.2,H.2.2.2.1.3,H.2.2.2.1.4,H.2.2.2.1.5,H.2.2.2.1.6,H.2.2.2.1.7,he,H.2.2.2.1.9⟩
   have an:=u.look a7;have au:=λV I=>zx d c us a e V (an.fF I) aA;have ar:=λV I=>mS d c us a e V (an.fF I) aA;obtain⟨Y,O⟩:∃Y,ji c us a=Y:=⟨_,R⟩
   obtain⟨S,K⟩:∃S,M us-1=S:=⟨_,R⟩
   have G:=BL x;obtain⟨T,a5⟩:∃ax,C.1=ax:=⟨_,R⟩
   rw[O]at au;rw[K]at ar;rw[a5]at G F hX k0;have az:Z Zr ⟨d,11,X⟩=N (ox pg a):=fZ u.1 rfl;have a0:Z Zr ⟨d,13,X⟩=N (ox pg i):=fZ u.1 rfl;have u0:=kZ F;have a1:=(fO F)
   have a4:=(fO u.1)
   have a9:qu _:=au;have a8:qu _:=ar;have ae:hZ Zr (U da (M (j e)) aa) (j e):=by have:=u.4 e C x;rw[ao]at this;exact this
   have H2:qu _:=fE u (fE F (fE ae (fE D (fE L (fE J (fE x (fE G (fE O K))))))));clear ae P J L ad x ao av u a7 an au ar F D G O K a5 hcut;go_upto_region 5 with fail;rw[<-hX];clear hX k0 k1 k2 c7;have B:=aH ↑Zr Zr;have hS:∀V,Below ↑Zr Zr V->Z V ⟨d,11,X⟩=N (ox pg a)/\Z V ⟨d,13,X⟩=N (ox pg i)/\Z V ⟨↑y,0,X⟩=N (ox pg T):=λV I=>⟨oy (qi I (p:=⟨d,11,X⟩) a4) az,oy (qi I (p:=⟨d,13,X⟩) a4) a0,oy (qi I (p:=⟨_,0,X⟩) a1) u0⟩
   have HS:qu _:=hS;clear hS;go_cut [8] (λv l=>qu (v=pm (N ⟨↑Zr,0,X⟩)/\l.1[Zr.1.size]? =N (pj #[ox pg a,ox pg Y,ox pg e,ox pg T,ox pg i,U ta tn tc,U X 0 0,ox pg S] 62 (0,0))/\Below ↑Zr Zr l))
   case first=>
    go_region_held3 (λV=>Z V ⟨d,11,X⟩=N (ox pg a)/\Z V ⟨d,13,X⟩=N (ox pg i)/\Z V ⟨↑y,0,X⟩=N (ox pg T))
     ((refine HS.out _ ?_;(repeat (with_reducible refine Below.setCell ?_ (p:=_) (by first|exact fI|exact z.size|exact A.size) _));first|exact A|exact pb A A.4 _|exact z|exact pb z z.4 _|exact rk B|exact(pb (rk B) fI _)|exact(B.alloc fI _).drew))
     (first|(go_at_call 178;(refine aO (a9 _ ?_) ?_;(first|exact rk B|exact pb (rk B) fI _|exact(B.alloc fI _).drew);rintro e5 w5 ⟨rfl,m5,ab⟩;have z:Below ↑Zr Zr w5:=(by rw[ab];first|exact fG (rk B) _|exact fG (pb (rk B) fI _) _|exact fG (B.alloc fI _).drew _);(first|(have ak:↑w5=Zr.1.size:=(by rw[ab];rfl))|(have aq:w5.1[Zr.1.size]? =N (pj #[ox pg 0,ox pg 0,ox pg 0,ox pg 0,ox pg 0,U X 0 0,U X 0 0,ox pg 0] 62 (0,0)):=(by rw[ab];exact sv _ _);let⟨y0,y1,y2,y3,y4,y5,y6,y7,yf⟩:=gS aq));have a3:qu _:=ab;clear ab))|(go_at_call 124;(refine aO (a8 _ ?_) ?_;(first|exact z|exact pb z z.4 _);rintro e6 l ⟨rfl,m6,Q⟩;have A:Below ↑Zr Zr l:=(by rw[Q];first|exact fG z _|exact fG (pb z z.4 _) _);(first|(have ag:l.1[Zr.1.size]? =N (pj #[ox pg 0,ox pg 0,ox pg 0,ox pg 0,ox pg 0,U X 0 0,U X 0 0,ox pg 0] 62 (0,0)):=(by rw[Q];exact aq);let⟨x0,x1,x2,x3,x4,x5,x6,x7,xf⟩:=gS ag)|(have ag:l.1[Zr.1.size]? =N (pj #[ox pg 0,ox pg 0,ox pg 0,ox pg 0,ox pg 0,U X 0 0,U X 0 0,ox pg 0] 62 (0,0)):=(by rw[Q,<-ak];exact sv _ _);let⟨x0,x1,x2,x3,x4,x5,x6,x7,xf⟩:=gS ag)|(have a2:↑l=Zr.1.size:=(by rw[Q];exact ak)));have a6:qu _:=Q;clear Q))|fail)
    .go_wp2;go_meet;exact⟨R,by rw[<-a2];exact sv _ _,pb A A.4 _⟩
    .go_wp2;go_meet;exact⟨R,yR ag _ _ _ _ _ _ _ _,ow A ⟨(iA l _ _ _ _ _ _ _ _ _).1,(iA l _ _ _ _ _ _ _ _ _).2,(iA l _ _ _ _ _ _ _ _ _).3,(iA l _ _ _ _ _ _ _ _ _).4,λk hk=>(iA l _ _ _ _ _ _ _ _ _).5 k (aL hk A.4) (eH hk)⟩⟩
    .go_wp2;go_meet;exact⟨R,yR ag _ _ _ _ _ _ _ _,ow A ⟨(iA l _ _ _ _ _ _ _ _ _).1,(iA l _ _ _ _ _ _ _ _ _).2,(iA l _ _ _ _ _ _ _ _ _).3,(iA l _ _ _ _ _ _ _ _ _).4,λk hk=>(iA l _ _ _ _ _ _ _ _ _).5 k (aL hk A.4) (eH hk)⟩⟩
   case rest=>
    obtain⟨rfl,aq,A⟩:=hcut.out;clear az a0 u0;obtain⟨ah,ai,_⟩:=HS wc A;have u2:Z wc ⟨↑y,2,X⟩=N (U da (M (j e)) aa):=oy (qi A (p:=⟨↑y,2,X⟩) a1) (by rw[aG H2.out.2.1];rfl);let⟨l0,l1,l2,l3,l4,l5,l6,l7,lf⟩:=gS aq;have bh:=A;have HC:qu _:=FR _ _ wc (fM.fF H2.2.2.1 A) (H.2.2.2.2.2 e);have l:qu _:=fE aq A;clear aq A hcut;obtain⟨bq,a2⟩:∃b,decide (i=0)=b:=⟨_,R⟩
    have Hq:qu _:=a2;clear a2;obtain⟨Wc,bd⟩:∃V,V=wc:=⟨_,R⟩
    subst bd;go_upto_region 6 with fail;go_cut [64] (λv z=>v=.bool bq/\z=Wc)
    case first=>
     by_cases z:i=0
     .have ab:((i:Int) == 0)=pw:=by rw[z];rfl
      have Q:qu _:=z;clear z;go_wp2;go_meet;refine⟨?_,R⟩;rw[<-Hq.out,Ze Q.out]
     .have ab:((i:Int) == 0)=pi:=Zc aA;have Q:qu _:=z;clear z;go_wp2;go_meet;refine⟨?_,R⟩;rw[<-Hq.out,Zd Q.out]
    case rest=>
     obtain⟨rfl,af⟩:=hcut;have aw:=si af;clear af;subst aw;go_upto_if 64 with fail;go_cut [8] (λv z=>qu (∃Q vn vc,v=pm (N ⟨↑Zr,0,X⟩)/\z.1[Zr.1.size]? =N (pj #[ox pg a,ox pg Y,ox pg e,ox pg T,ox pg i,U ta tn tc,U Q vn vc,ox pg S] 62 (0,0))/\jk z ↑Zr (U Q vn vc) ld/\Below ↑Zr Zr z))
     case first=>
      cases bq
      .go_wp2;go_meet;refine⟨X,0,0,R,l.1,?_,l.2⟩;rw[<-ay.out,Za (Zj Hq.out)];exact⟨fM.nil _ _ _,gh⟩
      .go_wp2_with (first|(go_at_call 130;refine aO HC.out ?_;rintro e7 w7 ⟨va,vc,rfl,Q,ab⟩;have z:=oy (ab.5 _ (fO l.1)) l.1;let⟨k0,k1,k2,k3,k4,k5,k6,k7,kf⟩:=gS z;have HM:qu _:=fE Q (fE ab z);clear Q ab z)|fail)
       go_meet;let⟨Q,ab,z⟩:=HM.out;refine⟨va,M (j e),vc,R,?_,?_,?_⟩
       .have:=gI z 6 (U va (M (j e)) vc);exact ir
       .rw[<-ay.out,Zb (Zg Hq.out)];exact⟨Q.1.gE (fT.set _ _ 6 _) (λg hg e=>fK Q.1 z aB (by rw[hg,e])),λg hg=>aX l.2.4 (Q.2 g hg)⟩
       .exact ph (ow l.2 (o5 ab l.2.4)) fI _
     case rest=>
      obtain⟨va,vn,vc,rfl,ag,ak,z⟩:=hcut.out;clear hcut ah ai u2 l0 l1 l2 l3 l4 l5 l6 l7 lf;obtain⟨ah,ai,_⟩:=HS wc z;let⟨l0,l1,l2,l3,l4,l5,l6,l7,lf⟩:=gS ag;let⟨u,F,ae,D,L,J,x,G,O,K⟩:=H2.out;have bg:=(fO L)
      have a6:Zr.1[w.1.size]? =_:=oy (D.5 _ bg) L;have ab:wc.1[w.1.size]? =_:=oy (z.5 _ aA) a6;let⟨r0,r1,r2,r3,r4,r5,r6,r7,rf⟩:=gS ab;have Q:=u.fF z;have fk:=aM Q.1;have H8:qu _:=fE Q (fE ak (fE z (fE ab ag)));have bm:d≠w.1.size:=aA
      have bo:d≠Zr.1.size:=aA
      have bu:↑w≠Zr.1.size:=aA
      clear ag ak z ab a6 Q u F ae D L J x G O K;go_wp2;let⟨Q,ak,z,ab,ag⟩:=H8.out;let⟨u,F,ae,D,L,J,x,G,O,K⟩:=H2.out;let⟨bf,a3⟩:=NN Q ak ab (ox pg a) (ox pg Y) (ox pg e) (ox pg T) (ox pg i) (U ta tn tc) (U va vn vc) (ox pg S);refine sd (v:=we #[ox pg a,ox pg Y,ox pg e,ox pg T,ox pg i,U ta tn tc,U va vn vc,ox pg S]) (by simp[results,results122,go_sem,r0,r1,r2,r3,r4,r5,r6,r7]) R ⟨_,?_,⟨a3.1,λg hg=>aX aA (a3.2 g hg)⟩,bf,?_⟩
      .rw[O,G,K];rfl
      .exact((((((fT.fF H.2.1 fI _).trans J (λ_ _ e=>e)).trans (fT.fF D fI _) (λ_ _ e=>e)).trans (fT.fF z fI _) (λ_ _ e=>e)).trans (fT.set _ d 11 _) (λ_ _ e=>e)).trans (iA _ _ _ _ _ _ _ _ _ _) (λk hk e=>aA))
end
section
variable {c:Cf}{us:List PB}{d j:List PW}{a f i q m Zs n e:Nat}{V w:pn}{s t l v b:po}{p:Nat->List (List UInt8)}{o:Array po}
def mQ(V):∀l:List PW,((pick V l).1=(0,X)\/(pick V l).1=(2,X)\/∃b,b∈l/\(pick V l).1=(3,N b))/\(∀p,p∈(pick V l).2->p∈l)/\M (pick V l).2<=M l
 |[]=>⟨rr R,λ_ h=>h,fI⟩
 |b::r=>by
  let⟨a,c,f⟩:=mQ V r;unfold pick;split
  .refine⟨?_,?_,aD⟩
   .obtain h|h|⟨x,d,h⟩:=a
    .exact rr h
    .exact rz (rr h)
    .exact rz (rz ⟨x,bK _ d,h⟩)
   .intro p d;obtain e|h:=bM.1 d
    .rw[e];exact bY
    .exact bK _ (c p h)
  .split
   .exact⟨rz (rr R),λ_ h=>h,fI⟩
   .split
    .exact⟨rz (rz ⟨b,bY,R⟩),λp h=>bK _ h,aC⟩
    .refine⟨?_,λp h=>bK _ (c p h),aD⟩;obtain h|h|⟨x,d,h⟩:=a
     .exact rr h
     .exact rz (rr h)
     .exact rz (rz ⟨x,bK _ d,h⟩)
def tY.sub(s:tY c us d a f)(h:∀p∈j,p∈d)(b:M j<=M d):tY c us j a f:=
 ⟨s.1,s.2,s.3,s.4,s.5,s.6,aX b s.7,s.8,λp e=>s.9 p (h p e)⟩
def fU(c:Cf)(us:List PB)(d:List PW)(a f:Nat):Option (Nat×Option PW)×List PW:=
 if M us=0 then(X,d)else if a=0 then(N (0,X),d)else
  match (pick (iK c us a f) d).1.2 with
  |some b=>(N (b.1.1,N b),(pick (iK c us a f) d).2)
  |none=>if (pick (iK c us a f) d).1.1≠2/\(f:Int)+c.4<((M us-1:Nat):Int)then(N (alone c us a f,X),(pick (iK c us a f) d).2)else(X,(pick (iK c us a f) d).2)
def Ac:Option PW->po
 |some b=>b.2
 |none=>U X 0 0
def WO:po:=we #[ox pg 0,ox pg 0,ox pg 0,ox pg 0,ox pg 0,U X 0 0,U X 0 0,ox pg 0]
def yB(w:pn)(i:Nat)(c:Cf)(s:po)(us:List PB)(p:Nat->List (List UInt8))(q:Nat)(t l:po)(a f m:Nat)(r:Option (Nat×Option PW)×List PW)(x:Ending)(w':pn):=
 (match r.1 with
  |none=>x=qs (sh #[WO,rh pi])/\∃b,nT w' i c s us p q t b r.2 a f m/\∀g,ov b=N g->ov l=N g
  |some o=>o.1<M us/\∃e,x=qs (sh #[RU a (ji c us a) o.1 (AG us o.1) (gO a f m o.1) (Ac o.2) e (M us-1),rh pw])/\jk w' ↑w e (if gO a f m o.1=0 then p o.1 else [])/\(∀d,o.2=N d->hZ w' d.2 d.1.4)/\∃b,nT w' i c s us p q t b r.2 (a+1) o.1 (gO a f m o.1)/\∀g,ov b=N g->ov l=N g)
 /\fT (λk=>k=i\/ov l=N k) w w'
def wN(h:nT V i c s us p q t l d a f m)(b:V.1[Zs]? =N (pj o 62 (0,0)))(k n r u v w x y):nT (lY V Zs k n r u v w x y) i c s us p q t l d a f m:=by
 have A:i≠Zs:=λe=>by have:=h.1;rw[e,b]at this;simp at this
 refine h.gE (iA V Zs k n r u v w x y) A (λg z e=>fK h.2 b aB (by rw[z,e])) (λg z e=>fK h.3 b aB (by rw[z,e])) (λg B C j e=>?_);rw[e,b]at j;simp at j
def yU{l}(a:fM V 9 1 v n l)(m:V.1[Zs]? =N (pj o 62 (0,0)))(b c d f h i j k):fM (lY V Zs b c d f h i j k) 9 1 v n l:=
 a.gE (iA V Zs b c d f h i j k) (λg p e=>fK a m aB (by rw[p,e]))
def qW{h u v}
  (J:fU c us d a f=(N (e,u),j)) (G:e<M us) (A:jk h ↑V v (if gO a f m e=0 then p e else [])) (L:↑w<=V.1.size) (B:∀n,u=N n->hZ V n.2 n.1.4) (I:∃y,V.1[i]? =N (pj y 137 (0,0)))
  (D:nT h i c s us p q t b j (a+1) e (gO a f m e)) (K:∀g,ov b=N g->ov l=N g) (E:fT (λk=>k=i\/ov l=N k) w V) (hc:fT (λk=>k=i) V h) (r:h.1[w.1.size]? =N (pj o 62 (0,0))) {P Q S T W Y x6 x7:po} {x:Ending} (O:x=qs (sh #[RU a (ji c us a) e (AG us e) (gO a f m e) (Ac u) v (M us-1),rh pw])):
  yB w i c s us p q t l a f m (fU c us d a f) x (lY h ↑w P Q S T W Y x6 x7):=by
 rw[J];obtain⟨y,F⟩:=I;refine⟨⟨G,v,O,⟨yU A.1 r _ _ _ _ _ _ _ _,λg H=>aX L (A.2 g H)⟩,λn z=>?_,b,wN D r _ _ _ _ _ _ _ _,K⟩,(E.trans hc (λ_ _ e=>rr e)).trans (iA h _ _ _ _ _ _ _ _ _) (λk H e=>aA)⟩;have C:=fM.gE (B n z) hc (λg H e=>fK (B n z) F aB (by rw[H,e]));exact yU C r _ _ _ _ _ _ _ _
def tI(u:fU c us d a f=(X,j))(h:nT V i c s us p q t b j a f m)(v:∀g,ov b=N g->ov l=N g)(r:fT (λk=>k=i\/ov l=N k) w V)(n:V.1[w.1.size]? =N (pj o 62 (0,0))){x y z A B C D E:po}:yB w i c s us p q t l a f m (fU c us d a f) (qs (sh #[WO,rh pi])) (lY V ↑w x y z A B C D E):=by
 rw[u];exact⟨⟨R,b,wN h n _ _ _ _ _ _ _ _,v⟩,r.trans (iA V _ _ _ _ _ _ _ _ _) (λk g e=>aA)⟩
end
variable {c:Cf}{us:List PB}{n ws':List PW}{a f e k:Nat}
def Al(c us a):ji c us (a+1)=ji c us a+c.6:=by
 unfold ji
 grind
def tY.Nh(s:tY c us n a f)(b:e<M us):vK us e<=4294967296:=by rw[pT (aK b)];exact(s.1 _ (List.getElem_mem b)).2
def yL{V b}:∀{l},(pick V l).1=(3,N b)->V b=3/\b∈l/\M (pick V l).2<M l
 |[],h=>by simp[pick]at h
 |x::r,h=>by
  unfold pick at h⊢;split at h
  .rename_i a;rw[Zb a];let⟨c,d,e⟩:=yL (l:=r) h
   grind
  .rename_i a;rw[Za a];split at h
   .cases h
   .rename_i c;rw[Za c];split at h
    .grind
    .rename_i d;rw[Za d];let⟨e,f,g⟩:=yL (l:=r) h
     grind
def zT{b}(h:verdict c us a f b k=3):b.1=f\/b.1=f+1:=by
 unfold verdict at h;split at h
 .cases h
 .split at h
  .cases h
  .rename_i d;unfold outside at d
   grind
def meas(c:Cf)(us:List PB)(n:List PW)(a f:Nat):Nat:=M n+(M us-f)+((4294967298-ji c us a)/2).toNat
def IE{k}(s:tY c us n a f)(x:2<=c.6)(j:a=0->f=0)(h:fU c us n a f=(N (e,k),ws')):meas c us ws' (a+1) e<meas c us n a f/\f<=e/\e<M us:=by
 have u:=s.8;have z:=s.4;unfold fU at h;rw[Za aA]at h;unfold meas;rw[Al];obtain⟨t,y⟩:∃t,ji c us a=t:=⟨_,R⟩
 let⟨b,w,v⟩:=mQ (iK c us a f) n;split at h
 .rename_i d;cases h;have g:=j d;have:=s.Nh (e:=0) aA
  have i:ji c us a=vK us 0:=by
   unfold ji vK;rw[d];simp
  omega
 .split at h
  .rename_i l d;obtain b|b|⟨m,r,b⟩:=b
   .grind
   .grind
   .rw[b]at d;cases d;let⟨g,i,o⟩:=yL b;have p:=zT g;have q:=(s.9 _ i).1
    grind
  .split at h
   .rename_i g;cases h;have d:f+1<M us:=by omega
    have:=s.Nh d;unfold alone
    grind
   .cases h
section
variable {d rs:List PW}{n:Nat}{w:pn}{v:po}
def CW{b}(h:M us≠0)(hc:a≠0)(e:(pick (iK c us a f) d).1=(n,N b))(g:(pick (iK c us a f) d).2=rs):fU c us d a f=(N (b.1.1,N b),rs):=by unfold fU;rw[Za h,Za hc,e,g]
def yO(g:M us≠0)(hc:a≠0)(b:(pick (iK c us a f) d).1=(n,X))(e:(pick (iK c us a f) d).2=rs)(h:n≠2/\(f:Int)+c.4<((M us-1:Nat):Int)):fU c us d a f=(N (alone c us a f,X),rs):=by unfold fU;rw[Za g,Za hc,b,e];dsimp only;rw[Zb h]
def qD(g:M us≠0)(hc:a≠0)(b:(pick (iK c us a f) d).1=(n,X))(e:(pick (iK c us a f) d).2=rs)(h:¬(n≠2/\(f:Int)+c.4<((M us-1:Nat):Int))):fU c us d a f=(X,rs):=by unfold fU;rw[Za g,Za hc,b,e];dsimp only;rw[Za h]
def oF{b l}(h:jk w b v l):∃a n c,v=.slice a n c:=by let⟨a,c,e⟩:=fM.slice h.1;exact⟨a,_,c,e⟩
def Ab(o c vu us D nb vo vw d a f v w)(h:nT w o c vu us D nb vo vw d a f v)(s:0<M us->tY c us d a f)(an:v<4294967296)(ak:∀e,M (D e)<=4294967296):tf PQ 76 #[pm (N ⟨o,0,X⟩)] w (yB w o c vu us D nb vo vw a f v (fU c us d a f)):=by
 let⟨W,t,A,l⟩:=fL w #[ox pg 0,ox pg 0,ox pg 0,ox pg 0,ox pg 0,U X 0 0,U X 0 0,ox pg 0] 62;have b:=h.fF A;let⟨ua,az,I⟩:=b.2.slice;have c7:Z W ⟨o,7,X⟩=N (U ua (M us) az):=by rw[aG b.1,<-I];rfl
 have a1:Z W ⟨o,11,X⟩=N (ox pg a):=fZ b.1 rfl;have a5:=(fO h.1)
 have L:=(fO l)
 have j:fT (λk=>k=o\/ov vw=N k) w W:=.fF A fI _;by_cases r:M us=0
 .have y:((M us:Int) == 0)=pw:=by rw[r];rfl
  let⟨i,k,m,n,p,q,u,x,z⟩:=gS l;have e:fU c us d a f=(X,d):=by unfold fU;rw[Zb r]
  have H:qu _:=fE b (fE j (fE l e));clear h b j e s I A l r;go_enter (fq func76 R),ntmps76;go_upto_region 1 with fail;rw[<-t];clear t;go_wp2;let⟨b,j,l,e⟩:=H.out;refine sd (v:=sh #[we #[ox pg 0,ox pg 0,ox pg 0,ox pg 0,ox pg 0,U X 0 0,U X 0 0,ox pg 0],rh pi]) (by simp[results,ZC,go_sem,i,k,m,n,p,q,u,x]) R ?_;exact tI e b (λ_ g=>g) j l
 .have a6:((M us:Int) == 0)=pi:=Zc aA;have s:=s aA;obtain⟨J,i⟩:∃J,M us-1=J:=⟨_,R⟩
  by_cases hc:a=0
  .have V:((a:Int) == 0)=pw:=by rw[hc];rfl
   have n:fU c us d a f=(N (0,X),d):=by unfold fU;rw[Za r,Zb hc]
   have p:tf PQ 122 #[pm (N ⟨o,0,X⟩),ox pg 0,U X 0 0] W _:=Dn o c vu us D nb vo vw d a f v 0 X 0 0 W b s aA an ak;rw[i]at p;have u:qu _:=p;have H:qu _:=fE b (fE j (fE l (fE n i)));have y:0<M us:=aA
   clear h b j n s I A l p i hc r;go_enter (fq func76 R),ntmps76;go_upto_region 1 with fail;rw[<-t];clear t;go_wp2_with (first|(go_at_call 122;refine aO u.out ?_;rintro x2 w2 ⟨vd,rfl,g,m,e⟩;obtain⟨P,S,Q,rfl⟩:=oF g;have k:=oy (e.5 _ L aA) H.2.2.1;let⟨z,B,C,E,F,G,K,O,Y⟩:=gS k;have q:qu _:=fE g (fE m (fE e k));clear g m e k;unfold RU)|fail)
   let⟨b,j,l,n,i⟩:=H.out;let⟨g,m,e,k⟩:=q.out;refine sd (v:=sh #[we #[ox pg a,ox pg (ji c us a),ox pg 0,ox pg (AG us 0),ox pg (gO a f v 0),U X 0 0,U P S Q,ox pg J],rh pw]) (by simp[results,ZC,go_sem,z,B,C,E,F,G,K,O]) R ?_;exact qW n y g (eZ L) (λT x=>by simp at x) ⟨_,b.1⟩ m (λ_ x=>x) j e k (by rw[i];rfl)
  .have a3:((a:Int) == 0)=pi:=Zc aA;let⟨p,Y,T⟩:=mQ (iK c us a f) d;obtain⟨rs,z⟩:∃rs,(pick (iK c us a f) d).2=rs:=⟨_,R⟩
   have iO:=Gj o c vu us D nb vo vw d a f v W b s;rw[z]at iO Y T;have K:=s.sub Y T;have af:=fK b.3 l aB;have Q:=λV vw' q e he ta (tn tc:Nat)=>Dn o c vu us D nb vo vw' rs a f v e ta tn tc V q K he an ak;rw[i]at Q;have ai:qu _:=Q;have a7:=s.6;obtain p|p|⟨k,hb,p⟩:=p
   .let⟨a9,a8⟩:=s.4;have a4:=s.8;have G:=K;rw[p]at iO;have ah:=λV q=>mS o c us a f V q aA;rw[i]at ah;have av:qu _:=ah;clear ah;by_cases hw:(f:Int)+c.4<(J:Int)
    case' neg=>
     have ad:=qD r hc p z (λh=>hw (by rw[<-i];exact h.2))
    case' pos=>
     have ad:=yO r hc p z ⟨aB,by rw[i];exact hw⟩;have S:f+1<M us:=aA
     obtain⟨al,F⟩:∃al,alone c us a f=al:=⟨_,R⟩
     have aj:al<M us:=by rw[<-F];unfold alone;split<;>omega
     have P:=λV q=>tL o c us a f V q S;rw[F]at ad P;have ar:qu _:=P;clear P F
    all_goals
     unfold tQ at iO;dsimp only at iO;have ap:qu _:=iO;have H:qu _:=fE b (fE j (fE l (fE ad (fE i G))));clear h b j ad s K G I A l Q iO i hc r p Y T z;go_enter (fq func76 R),ntmps76;go_upto_region 1 with fail;rw[<-t];clear t;go_upto_region 8 with(first|(go_at_call 123;refine aO ap.out ?_;rintro x1 w1 ⟨rfl,a0,E,n,B⟩;have C:=oy (B.5 _ L (by rintro(e|e);omega;exact af e)) H.2.2.1;have ay:=(fO C);have H1:qu _:=fE E (fE n (fE B C));clear E n B C)|fail)
     generalize q:World.alloc _ _=V;have O:Below w1.1.size w1 V:=by rw[<-q];exact pb (aH _ _) fI _
     let⟨b,j,l,y,i,G⟩:=H.out;let⟨E,n,B,C⟩:=H1.out;have u:=oy (O.5 _ ay) C;have g:=E.fF O;have x:=(j.trans B (λ_ _ e=>e)).trans (.fF O fI _) (λ_ _ e=>e);have ag:=(fO u)
     have a2:Z V ⟨o,12,X⟩=N (ox pg f):=fZ g.1 rfl;have c3:Z V ⟨o,3,X⟩=N (ox pg c.4):=fZ g.1 rfl;have ac:=g.look G;have ae:=λm=>av _ (ac.fF (fG (aH _ _) m))
    .have am:=λV' aw=>ar V' (ac.fF aw);have au:qu _:=ae;have aq:qu _:=am;have HV:qu _:=fE g (fE x (fE u (fE y (fE n i))));clear q O b j l y i G E n B C u g x ac ae am;go_quiet ((go_at_call 124;exact Calls.quiet_of (au _)));go_wp2_with (first|(go_at_call 125;refine aO (aq _ (fG (aH _ _) _)) ?_;rintro x3 w3 ⟨rfl,m3,ao⟩;have F:Below ↑V V w3:=(by rw[ao];exact fG (fG (aH _ _) _) _);clear ao)|(go_at_call 122;refine aO (ai w3 a0 (HV.1.fF F) al aj X 0 0) ?_;rintro x2 w2 ⟨vd,rfl,S,ab,P⟩;obtain⟨va,vn,vc,rfl⟩:=oF S;have aa:=oy (P.5 _ (aL ag F.4) aA) (oy (F.5 _ ag) HV.2.2.1);let⟨r0,r1,r2,r3,r4,r5,r6,r7,rf⟩:=gS aa;have H2:qu _:=fE S (fE ab (fE P aa));clear S ab P aa;unfold RU)|fail)
     let⟨g,x,u,y,n,i⟩:=HV.out;let⟨S,ab,P,aa⟩:=H2.out;refine sd (v:=sh #[we #[ox pg a,ox pg (ji c us a),ox pg al,ox pg (AG us al),ox pg (gO a f v al),U X 0 0,U va vn vc,ox pg J],rh pw]) (by simp[results,ZC,go_sem,r0,r1,r2,r3,r4,r5,r6,r7]) R ?_;exact qW y aj S (aX (eZ ag) F.4) (λb' ax=>by simp at ax) ⟨_,(g.fF F).1⟩ ab n (x.trans (.fF F fI _) (λ_ _ e=>e)) P aa (by rw[i];rfl)
    .have P:qu _:=ae;let⟨S,r1,r2,r3,r4,r5,r6,r7,rf⟩:=gS u;have F:qu _:=fE g (fE x (fE u (fE y n)));clear q O b j l y i G E n B C u g x ac ae;go_quiet ((go_at_call 124;exact Calls.quiet_of (P _)));go_wp2;let⟨g,x,u,y,n⟩:=F.out;refine sd (v:=sh #[we #[ox pg 0,ox pg 0,ox pg 0,ox pg 0,ox pg 0,U X 0 0,U X 0 0,ox pg 0],rh pi]) (by simp[results,ZC,go_sem,S,r1,r2,r3,r4,r5,r6,r7]) R ?_;exact tI y (g.fF (fG (aH _ _) _)) n (x.trans (.fF (fG (aH _ V) _) fI _) (λ_ _ e=>e)) u
   .have G:=qD r hc p z (λh=>h.1 R);have F:=K;rw[p]at iO;unfold tQ at iO;dsimp only at iO;have S:qu _:=iO;have H:qu _:=fE b (fE j (fE l (fE G (fE i F))));clear h b j G s K F I A l Q iO i hc r p Y T z;go_enter (fq func76 R),ntmps76;go_upto_region 1 with fail;rw[<-t];clear t;go_upto_region 8 with(first|(go_at_call 123;refine aO S.out ?_;rintro x1 w1 ⟨rfl,ad,y,g,n⟩;have u:=oy (n.5 _ L (by rintro(e|e);omega;exact af e)) H.2.2.1;have aa:=(fO u);have O:qu _:=fE y (fE g (fE n u));clear y g n u)|fail)
    generalize q:World.alloc _ _=V;have B:Below w1.1.size w1 V:=by rw[<-q];exact pb (aH _ _) fI _
    let⟨b,j,l,E,i,F⟩:=H.out;let⟨y,g,n,u⟩:=O.out;have x:=oy (B.5 _ aa) u;have m:=y.fF B;have C:=(j.trans n (λ_ _ e=>e)).trans (.fF B fI _) (λ_ _ e=>e);have ac:=(fO x)
    have ab:Z V ⟨o,12,X⟩=N (ox pg f):=fZ m.1 rfl;have c3:Z V ⟨o,3,X⟩=N (ox pg c.4):=fZ m.1 rfl;let⟨r0,r1,r2,r3,r4,r5,r6,r7,rf⟩:=gS x;have P:qu _:=fE m (fE C (fE x (fE E g)));clear q B b j l E i F y g n u x m C;go_quiet (fail);go_wp2;let⟨m,C,x,E,g⟩:=P.out;refine sd (v:=sh #[we #[ox pg 0,ox pg 0,ox pg 0,ox pg 0,ox pg 0,U X 0 0,U X 0 0,ox pg 0],rh pi]) (by simp[results,ZC,go_sem,r0,r1,r2,r3,r4,r5,r6,r7]) R ?_;exact tI E (m.fF (fG (aH _ _) _)) g (C.trans (.fF (fG (aH _ V) _) fI _) (λ_ _ e=>e)) x
   .have m:=b.5 k hb;let⟨ta,tc,u⟩:=fM.slice m;obtain⟨tn,ac⟩:∃n,M k.1.4=n:=⟨_,R⟩
    rw[ac]at u;have aa:=(s.9 k hb).1;have ab:=CW r hc p z;rw[p]at iO;unfold tQ C0 at iO;dsimp only at iO;rw[u]at iO;have ad:qu _:=iO;have H:qu _:=fE b (fE j (fE l (fE ab (fE i (fE m u)))));clear h b j ab s K I A l Q iO i hc r p Y T m u ac hb z;go_enter (fq func76 R),ntmps76;go_upto_region 1 with fail;rw[<-t];clear t;go_wp2_with (first|(go_at_call 123;refine aO ad.out ?_;rintro x1 w1 ⟨rfl,aj,E,O,x⟩;have G:=oy (x.5 _ L (by rintro(e|e);omega;exact af e)) H.2.2.1;have ah:=(fO G);have P:qu _:=fE E (fE O (fE x G));clear E O x G)|(go_at_call 122;refine aO (ai _ aj (P.1.fF (pb (aH _ _) fI _)) _ aa ta tn tc) ?_;rintro x2 w2 ⟨vd,rfl,B,F,y⟩;obtain⟨va,vn,vc,rfl⟩:=oF B;have C:=oy (y.5 _ aD aA) (oy (aU w1 _ _ ah) P.2.2.2);let⟨r0,r1,r2,r3,r4,r5,r6,r7,rf⟩:=gS C;have H2:qu _:=fE B (fE F (fE y C));clear B F y C;unfold RU)|fail)
    let⟨b,j,l,hp,i,m,u⟩:=H.out;let⟨E,O,x,G⟩:=P.out;let⟨B,F,y,C⟩:=H2.out;refine sd (v:=sh #[we #[ox pg a,ox pg (ji c us a),ox pg k.1.1,ox pg (AG us k.1.1),ox pg (gO a f v k.1.1),U ta tn tc,U va vn vc,ox pg J],rh pw]) (by simp[results,ZC,go_sem,r0,r1,r2,r3,r4,r5,r6,r7]) R ?_
    have ag:hZ w1 k.2 k.1.4:=fM.gE m x (λg hg e=>by
     obtain e|e:=e
     .exact fK m b.1 aB (by rw[hg,e])
     .let⟨am,ae⟩:=b.3.obj e;exact fK m ae aB hg)
    have S:=pb (aH _ w1) fI (pj #[ox pg k.1.1,ox pg k.1.2,ox pg k.1.3,U ta tn tc,ox pg k.1.5] 150);exact qW hp aa B aD (λb' ae=>by cases ae;exact fM.fF ag S) ⟨_,(E.fF S).1⟩ F O ((j.trans x (λ_ _ e=>e)).trans (.fF S fI _) (λ_ _ e=>e)) y C (by rw[i];rw[show Ac (N k)=k.2 from R,u];rfl)
end
variable {w:pn}{b:Nat}{p e r:po}{j:Nat->List (List UInt8)}
structure oY where
 ws:List PW
 cnt:Nat
 ep:Nat
 sq:Nat
structure LV where
 i0:Int
 i1:Int
 i2:Int
 i3:Int
 i4:Int
 ta:Option zm
 tn:Nat
 tc:Nat
 da:Option zm
 dn:Nat
 dc:Nat
 i7:Int
def LV.cells(x:LV):Array po:=#[ox pg x.1,ox pg x.2,ox pg x.3,ox pg x.4,ox pg x.5,U x.6 x.7 x.8,U x.9 x.10 x.11,ox pg x.12]
structure DX where
 lv:LV
 e:Nat
 ob:Option PW
 s:oY
 s':oY
def DX.v(x:DX):po:=.agg x.1.cells
def DX.encs(x:DX):Array po:=#[x.v]
def fW(a:oY)(pre:List DX):oY:=pre.foldl (λ_ x=>x.5) a
def oD(a pre x):fW a (pre++[x])=x.5:=by simp[fW]
inductive Steps(c:Cf)(us:List PB)(s0:oY):List DX->Prop
 |nil:Steps c us s0 []
 |snoc {pre:List DX} {x:DX}:Steps c us s0 pre->x.4=fW s0 pre->fU c us x.4.1 x.4.2 x.4.3=(N (x.2,x.3),x.5.1)->x.5=⟨x.5.1,x.4.2+1,x.2,gO x.4.2 x.4.3 x.4.4 x.2⟩->Steps c us s0 (pre++[x])
def DA(W:pn)(a:Nat)(c:Cf)(p:po)(us:List PB)(j:Nat->List (List UInt8))(b:Nat)(e r:po)(d:oY):=∃f,nT W a c p us j b e f d.1 d.2 d.3 d.4/\∀g,ov f=N g->ov r=N g
def zP(a d:Nat)(c:Cf)(p:po)(us:List PB)(j:Nat->List (List UInt8))(b:Nat)(e r:po)(f:oY)(pre:List DX)(W:pn):=DA W a c p us j b e r (fW f pre)/\Z W ⟨d,0,X⟩=N (pm (N ⟨a,0,X⟩))
def OO(a:Nat)(c:Cf)(p:po)(us:List PB)(j:Nat->List (List UInt8))(b:Nat)(e r:po)(d:oY)(pre:List DX)(W:pn):=DA W a c p us j b e r ⟨(fU c us (fW d pre).1 (fW d pre).2 (fW d pre).3).2,(fW d pre).2,(fW d pre).3,(fW d pre).4⟩
def DY(a g:Nat)(c:Cf)(p:po)(us:List PB)(j:Nat->List (List UInt8))(b:Nat)(e r:po)(f:oY)(pre:List DX)(x:DX)(h:Nat)(W:pn):=
 Steps c us f (pre++[x])/\(∃d,x.v=RU x.4.2 (ji c us x.4.2) x.2 (AG us x.2) x.5.4 (Ac x.3) d (M us-1)/\jk W h d (if x.5.4=0 then j x.2 else []))/\(∀d,x.3=N d->hZ W d.2 d.1.4)/\x.2<M us/\zP a g c p us j b e r f (pre++[x]) W
def DS(c:Cf)(us:List PB)(a:oY)(pre:List DX):=Steps c us a pre/\(fU c us (fW a pre).1 (fW a pre).2 (fW a pre).3).1=X
def Km(a f:Nat)(c:Cf)(p:po)(us:List PB)(j:Nat->List (List UInt8))(b:Nat)(e r:po)(d:oY)(pre:List DX)(g:Nat)(v:po)(ok:Bool)(W:pn):=
 (ok=pw/\∃x,x.v=v/\DY a f c p us j b e r d pre x g W)\/(ok=pi/\DS c us d pre/\OO a c p us j b e r d pre W)
def Good(c:Cf)(us:List PB)(a:oY):=∀pre,Steps c us a pre->(0<M us->tY c us (fW a pre).1 (fW a pre).2 (fW a pre).3)/\(fW a pre).4<4294967296/\((fW a pre).2=0->(fW a pre).3=0)
def Js{d}(h:∀b,d=N b->hZ w b.2 b.1.4):∃a n c,Ac d=.slice a n c:=by
 cases d with
 |none=>exact⟨X,0,0,R⟩
 |some b=>
  let⟨a,c,e⟩:=fM.slice (h b R);exact⟨a,_,c,e⟩
def Fg{h d pre W}(hp:Steps c us d pre)(S:Good c us d)(aa:∀f,M (j f)<=4294967296)(V:¬(h=a\/ov r=N h))(T:zP a h c p us j b e r d pre W):tf PQ 76 #[pm (N ⟨a,0,X⟩)] W λJ u=>∃(D E F G H:Int)(n:Option zm)(s q:Nat)(i:Option zm)(m l:Nat)(I:Int)(ok:Bool),J=qs (sh #[we #[ox pg D,ox pg E,ox pg F,ox pg G,ox pg H,U n s q,U i m l,ox pg I],.bool ok]) /\fT (λk=>k=a\/ov r=N k) W u/\Km a h c p us j b e r d pre W.1.size (we #[ox pg D,ox pg E,ox pg F,ox pg G,ox pg H,U n s q,U i m l,ox pg I]) ok u/\Z u ⟨h,0,X⟩=N (pm (N ⟨a,0,X⟩)):=by
 obtain⟨⟨ac,P,x⟩,y⟩:=T;let⟨K,L,g3⟩:=S pre hp;have Y:h<↑W:=cV W _ y;refine aO (Ab a c p us j b e ac _ _ _ _ W P K L aa) ?_;rintro J u ⟨v,O⟩;have hc:=O.mono (λk _ f=>f.imp (λf=>f) (λf=>x k f));have w:=oy (qz (hc.5 h Y V)) y;cases t:fU c us (fW d pre).1 (fW d pre).2 (fW d pre).3 with
 |mk o ws'=>
  rw[t]at v;cases o with
  |none=>
   obtain⟨rfl,A,f,z⟩:=v;exact⟨0,0,0,0,0,X,0,0,X,0,0,0,pi,R,hc,rz ⟨R,⟨hp,by rw[t]⟩,A,by rw[t];exact f,λg o=>x g (z g o)⟩,w⟩
  |some o=>
   obtain⟨f,ob⟩:=o;obtain⟨he,vd,rfl,A,B,ad,Q,ab⟩:=v;let⟨n,s,q,C⟩:=Js B;let⟨i,m,l,z⟩:=oF A;refine⟨(fW d pre).2,ji c us _,f,AG us f,gO _ _ _ f,n,s,q,i,m,l,(M us-1:Nat),pw,?_,hc,rr ⟨R,⟨⟨(fW d pre).2,ji c us (fW d pre).2,f,AG us f,gO (fW d pre).2 (fW d pre).3 (fW d pre).4 f,n,s,q,i,m,l,(M us-1:Nat)⟩,f,ob,fW d pre,⟨ws',(fW d pre).2+1,f,gO _ _ _ f⟩⟩,R,.snoc hp R t R,⟨vd,?_,A⟩,B,he,?_,w⟩,w⟩
   .dsimp only;rw[C,z];rfl
   .dsimp only;rw[C,z];rfl
   .rw[oD];exact⟨ad,Q,λg o=>x g (ab g o)⟩
section
variable {W:pn}{cnt ep sq e lo' Zs:Nat}{f i v:po}{ws:List PW}{m d:oY}{pre:List DX}{ok:Bool}{rc:Array po}
def mW(b:Nat)(c:Cf)(us:List PB)(W:pn):Nat:=match W.1[b]? with
 |some (pj cs _ _)=>match (cs[10]?:Option po),(cs[11]?:Option po),(cs[12]?:Option po)with
  |some (U _ n _),N (.int _ a),N (.int _ e)=>n+(M us-e.toNat)+((4294967298-ji c us a.toNat)/2).toNat
  |_,_,_=>0
 |_=>0
def RY(h:nT W b c f us j a i r ws cnt ep sq):mW b c us W=meas c us ws cnt ep:=by let⟨d,g,e⟩:=fM.slice h.3;unfold mW;rw[h.1,e];simp[gD,meas]
def QG:po->Bool
 |rh b=>b
 |_=>pi
def mL(b:Nat)(c:Cf)(us:List PB)(t:po)(W:pn):Nat:=if QG t then mW b c us W+1 else 0
def Km.fF{p}(h:Km b e c f us j a i r m pre k v ok W)(o:Below ↑W W p)(C:lo'<=k):Km b e c f us j a i r m pre lo' v ok p:=by
 have u:∀d,DA W b c f us j a i r d->DA p b c f us j a i r d:=λd ⟨F,l,n⟩=>⟨F,l.fF o,n⟩
 obtain⟨q,G,D,l,⟨E,n,s⟩,x,y,z,t⟩|⟨q,l,n⟩:=h
 .exact rr ⟨q,G,D,l,⟨E,n,fM.fF s.1 o,λg B=>aX C (s.2 g B)⟩,λw A=>fM.fF (x w A) o,y,u _ z,oy (qi o (p:=⟨e,0,X⟩) (cV W _ t)) t⟩
 .exact rz ⟨q,l,u _ n⟩
def DA.lY(h:DA W b c f us j a i r d)(e:W.1[Zs]? =N (pj rc 62 (0,0)))(g k l m n o p q):DA (lY W Zs g k l m n o p q) b c f us j a i r d:=
 let ⟨vw',h1,h2⟩:=h
 ⟨vw',wN h1 e _ _ _ _ _ _ _ _,h2⟩
def Km.lY(h:Km b e c f us j a i r m pre k v ok W)(O:lo'<=k)(H:W.1[Zs]? =N (pj rc 62 (0,0)))(L:e≠Zs)(o p q s t w x y):Km b e c f us j a i r m pre lo' v ok (lY W Zs o p q s t w x y):=by
 have A:=λu n l (h:fM W 9 1 u n l)=>yU h H o p q s t w x y;have z:=λd (h:DA W b c f us j a i r d)=>h.lY H o p q s t w x y;have E:=(iA W Zs o p q s t w x y).5 e;revert A z E;generalize Hm.lY W Zs o p q s t w x y=Zr;intro A z E;obtain⟨B,S,P,C,⟨Q,D,F⟩,I,J,K,G⟩|⟨B,C,D⟩:=h
 .refine rr ⟨B,S,P,C,⟨Q,D,?_,λg u=>aX O (F.2 g u)⟩,?_,J,z _ K,?_⟩
  .exact A _ _ _ F.1
  .intro l n;exact A _ _ _ (I l n)
  .exact oy (qz (E (cV W _ G) L)) G
 .exact rz ⟨B,C,z _ D⟩
def Gr{x}(h:Steps c us m (pre++[x])):x.4=fW m pre/\fU c us x.4.1 x.4.2 x.4.3=(N (x.2,x.3),x.5.1)/\x.5=⟨x.5.1,x.4.2+1,x.2,gO x.4.2 x.4.3 x.4.4 x.2⟩:=by
 generalize a:pre++[x]=l at h;cases h with
 |nil=>simp at a
 |snoc h1 h2 h3 h4=>
  obtain⟨rfl,e⟩:=ZJ a R;cases e;exact⟨h2,h3,h4⟩
def NY(h:Km b e c f us j a i r m pre k v ok W)(u:Good c us m)(hp:Steps c us m pre)(w:2<=c.6):mL b c us (.bool ok) W<meas c us (fW m pre).1 (fW m pre).2 (fW m pre).3+1:=by
 obtain⟨rfl,x,C,o,_,_,A,d⟩|⟨rfl,o,z⟩:=h
 .obtain⟨⟨D,d,_⟩,_⟩:=d;rw[oD]at d;let⟨p,q,g⟩:=Gr o;let⟨l,y,n⟩:=u pre hp;rw[<-p]at l n⊢;have B:=IE (l aA) w n q;unfold mL QG;rw[Zb R,RY d];have s:x.5.2=x.4.2+1:=by rw[g]
  have t:x.5.3=x.2:=by rw[g]
  rw[s,t];omega
 .unfold mL QG;rw[Za aC];omega
def QV(h:DA W b c f us j a i r d):mL b c us (rh pw) W=meas c us d.1 d.2 d.3+1:=by obtain⟨g,e,_⟩:=h;unfold mL QG;rw[Zb R,RY e]
def vE{d w4 w}(hc:fT (λk=>k=b\/ov r=N k) (o6 d w) w4)(A:Km b e c f us j a i r m pre (o6 d w).1.size v ok w4)(C:w4.1[d.1.size]? =N (pj rc 62 (0,0)))(x:Z w4 ⟨e,0,X⟩=N (pm (N ⟨b,0,X⟩)))(y:e<d.1.size)(g h l n o p q s):Km b e c f us j a i r m pre d.1.size v ok (lY w4 d.1.size g h l n o p q s)/\fT (λk=>k=b\/ov r=N k) d (lY w4 d.1.size g h l n o p q s)/\Z (lY w4 d.1.size g h l n o p q s) ⟨e,0,X⟩=N (pm (N ⟨b,0,X⟩)):=by
 have u:=Km.lY (lo':=d.1.size) A aC C (eH y) g h l n o p q s;have t:=iA w4 d.1.size g h l n o p q s;revert u t;generalize lY w4 d.1.size g h l n o p q s=Zr;intro u t;exact⟨u,((fT.alloc _ d w).trans hc (λ_ _ z=>z)).trans t (λk B z=>Zl z (eH B)),oy (qz (t.5 e (cV w4 _ x) (eH y))) x⟩
end
end Hm
namespace Hm
open Go.RowKit Go.Joins Go.Shelf
open Dv (Zq)
attribute [local go_sem] Oper.semAt_some
def Dk(b a c A us j u z e g)(hG:Good c us g)(a9:2<=c.6)(a6:∀d,M (j d)<=4294967296)(ac:¬(a=b\/ov e=N a)):Mt PQ 75 #[pm (N ⟨a,0,X⟩)] DX.encs (λk=>k=b\/ov e=N k) (zP b a c A us j u z e g) (OO b c A us j u z e g) (DY b a c A us j u z e g) (DS c us g) (λ_=>True):=by
 intro bd a1 Jx W hM au aa am ai;have ak:=λk hk=>Nat.lt_trans (hM k hk) au;have Hn:=λpre V hp (h:zP b a c A us j u z e g pre V)=>Fg hp hG a6 ac h;have HN:qu _:=Hn;have HY:qu _:=am;have a0:qu _:=ai;have HS:qu _:=aa;have cb:=aa.2;have HG:qu _:=fE hG (fE ac ak);clear am ai Hn aa hG ac hM ak au;refine callsIn_of_wp (fq func75 R) R trivial ?_ R;simp only[ntmps75,bZ,aP,bH,Nat.reduceAdd,Nat.reduceSub,bP,bO,cD,bQ,cA,bX];gi_wp2;refine⟨trivial,(zw.2 (HN.out [] W .nil HS)).mono ?_⟩;rintro x1 w1 ⟨o,p,q,r,s,w,y,x,l,n,m,t,ok,rfl,ap,an,Y⟩;have B:qu _:=fE ap an;clear ap an;gi_wp2
 gi_loopw [3,4] (λi v wr=>∃(f:Nat)(o p q r s:Int)(w:Option zm)(y x:Nat)(l:Option zm)(n m:Nat)(t:Int)(ok:Bool)(pre:List DX)(d:pn),i=pm (N ⟨f,0,X⟩)/\v=.bool ok/\wr.1[f]? =N (pj #[ox pg o,ox pg p,ox pg q,ox pg r,ox pg s,U w y x,U l n m,ox pg t] 62 (0,0))/\Z wr ⟨a,0,X⟩=N (pm (N ⟨b,0,X⟩))/\qu (a1 pre d/\fT (λk=>k=b\/ov e=N k) d wr/\↑d<=f/\↑W<=d.1.size/\Km b a c A us j u z e g pre ↑d (we #[ox pg o,ox pg p,ox pg q,ox pg r,ox pg s,U w y x,U l n m,ox pg t]) ok wr))
  (λ_ d wr=>mL b c us d wr)
 case atStart=>
  have d:=pb (aH _ w1) fI (pj #[ox pg o,ox pg p,ox pg q,ox pg r,ox pg s,U w y x,U l n m,ox pg t] 62);exact⟨_,o,p,q,r,s,w,y,x,l,n,m,t,ok,[],W,R,R,sv _ _,oy (qi d (p:=⟨a,0,X⟩) (cV w1 _ Y)) Y,⟨a0,B.1.trans (.fF d fI _) (λ_ _ f=>f),B.1.4,fI,B.2.fF d fI⟩⟩
 case round=>
  clear B Y cb;obtain⟨lb,o,p,q,r,s,w,y,x,l,n,m,t,ok,pre,W0,rfl,rfl,ae,cb,i⟩:=hrel;let⟨l0,l1,l2,l3,l4,l5,l6,l7,lf⟩:=gS ae;cases ok with
  |false=>
   gi_wp2;go_end0;let⟨v,hc,F,E,D⟩:=i.out;obtain⟨d,_⟩|⟨_,C,f⟩:=D
   .cases d
   .exact⟨⟨_,R⟩,rr ⟨pre,W0,C,v,hc,f⟩⟩
  |true=>
   let⟨hJ,hc,a8,a5,ha⟩:=i.out;obtain⟨_,ay,af,hy⟩|⟨ah,_⟩:=ha
   .let⟨fn,bf,bc,body,ba,hR⟩:=HY pre ay W0 wr hJ hc hy;simp only[DX.encs,af]at ba;have HR:qu _:=hR;have T:qu _:=fE hy af;clear hR hy hc hJ a8 af a5;have a7:=(fO ae)
    gi_wp2;refine RoundIn.mono HR.out ?_;rintro ah d (⟨rfl,aj,aw,C,aq⟩|⟨rfl,a4⟩)
    .have ar:=oy (aq lb i.2.2.1 a7) ae;let⟨m0,m1,m2,m3,m4,m5,m6,m7,mf⟩:=gS ar;have ag:=C.2;have S:qu _:=fE aj (fE aw C);have V:a<↑d:=cV d _ ag;have a2:=λv=>oy (qi (pb (aH _ d) fI v) (p:=⟨a,0,X⟩) V) ag;have ax:∀v,zP b a c A us j u z e g (pre++[ay]) (o6 d v):=λv=>⟨let ⟨vw',q1,q2⟩:=C.1;⟨vw',q1.fF (pb (aH _ d) fI v),q2⟩,a2 v⟩
     have az:qu _:=ax;clear aj aw C aq ar ax;gi_wp2;refine⟨trivial,(zw.2 (HN _ _ T.1.1 (az _))).mono ?_⟩;rintro x1 w4 ⟨D,E,F,G,H,J,L,K,O,Q,P,I,bb,rfl,ab,ao,a3⟩
     have av:¬(d.1.size=b\/ov e=N ↑d):=λh=>by
      have q1:=HG.2.2 _ h;have q2:=i.2.2.2.1;have q3:=i.2.1.4;have q4:=S.2.1;omega
     have ad:=oy (ab.5 _ aC av) (sv d _);let⟨n0,n1,n2,n3,n4,n5,n6,n7,nf⟩:=gS ad;have f:qu _:=fE ab (fE ao (fE ad a3));clear ab ao ad av;gi_wp2;go_roundw
     case rel=>
      have hE:=vE f.1 f.2.1 f.2.2.1 f.2.2.2 V (ox pg D) (ox pg E) (ox pg F) (ox pg G) (ox pg H) (U J L K) (U O Q P) (ox pg I);have hO:=yR f.2.2.1 (ox pg D) (ox pg E) (ox pg F) (ox pg G) (ox pg H) (U J L K) (U O Q P) (ox pg I);exact⟨_,D,E,F,G,H,J,L,K,O,Q,P,I,bb,_,d,R,R,hO,hE.2.2,⟨S.1,hE.2.1,fI,aX i.2.2.2.1 (aX i.2.1.4 S.2.1),hE.1⟩⟩
     case measure=>
      have hE:=vE f.1 f.2.1 f.2.2.1 f.2.2.2 V (ox pg D) (ox pg E) (ox pg F) (ox pg G) (ox pg H) (U J L K) (U O Q P) (ox pg I);have hm:=Nat.lt_of_lt_of_eq (NY hE.1 HG.1 T.1.1 a9) (si (QV T.1.2.2.2.2.1));clear hE;unfold lY at hm;exact hm
    .gi_wp2;refine sd (Zy R _ _ _) R ?_;exact⟨⟨_,R⟩,rz ⟨_,d,trivial,a4,fT.refl _ _⟩⟩
   .cases ah
end Hm
namespace Hm
open Dv (Zq)
section
variable {ep cnt T j:Nat}{b:Ba}{h:Lo}{s s0:oY}{x:DX}{pre:List DX}{ws:List PW}
structure Lk(chain:List Zq)(us:List PB)(dl:Nat->List (List UInt8)):Prop where
 pos:0<M us
 len:M us<=M chain
 id:∀j<M us,AG us j=(chain[j]!).1
 time:∀j<M us,vK us j=(chain[j]!).2
 deps:∀j<M us,dl j=fV (chain[j]!)
section
variable {c:Cf}{chain:List Zq}{us:List PB}{dl:Nat->List (List UInt8)}
def oK(ep t b):outside c ep t b=Dv.late c ep t b:=by unfold outside Dv.late;rw[Bool.eq_iff_iff];simp only[Bool.or_eq_true,bN,Zh,bne_iff_ne];omega
def zy(l:List (List UInt8)):(M l == 0)=tk l:=by cases l<;>simp
def uG(e:Lk chain us dl)(d:ep<M us){t}(a:outside c ep t b=pi):waits c us ep t b (M b.4)=Dv.holds c chain (M us-1) ep t b:=by
 unfold waits Dv.holds;rw[zy,<-e.4 ep d];unfold outside at a;simp only[dS,eP,Zi,bne_eq_false_iff_eq]at a;rw[Bool.eq_iff_iff];by_cases h:ep+1<=M us-1
 .grind
 .grind
def EN(a:Lk chain us dl)(j:ep<M us){t}(f:b.1<M us)(hw:waits c us ep t b (M b.4)=pi):Ic c us ep t b (M b.4)=Dv.wrong c chain ep t b:=by
 have d:b.1=ep->tk b.4=pw->(chain[b.1]!).2+c.5<t->ep+1<M us:=λg i k=>by
  unfold waits at hw;rw[zy,i,a.4 _ j,<-g]at hw;by_cases h:b.1+1<=M us-1
  .omega
  .grind
 have e:ep+1<M us->vK us (ep+1)=(chain[ep+1]!).2:=a.4 _;unfold Ic Dv.wrong allows;rw[zy,a.3 _ f,a.4 _ f]
 congr 1
 revert d e;generalize (chain[b.1]!).2=A;generalize (chain[ep+1]!).2=D;generalize vK us (ep+1)=D';intro d e;rw[Bool.eq_iff_iff];simp only[bN,Zh,Bool.not_eq_true',eP,dS,bne_eq_false_iff_eq,Zi,Bool.or_eq_true,Zk];constructor
 .grind
 .grind
def zH(d:Lk chain us dl)(a:ep<M us)(g:b.1<M us):
  verdict c us cnt ep b (M b.4)=if ji c us cnt<(b.3:Int)then 0 else if Dv.late c ep (ji c us cnt) b then 1 else if Dv.holds c chain (M us-1) ep (ji c us cnt) b then 2 else if Dv.wrong c chain ep (ji c us cnt) b then 1 else 3:=by
 unfold verdict;split
 .rfl
 .rw[oK];split
  .rfl
  .rename_i e;rw[uG d a (by rw[oK];simpa using e)];split
   .rfl
   .rename_i f;rw[EN d a g (by rw[uG d a (by rw[oK];simpa using e)];exact mw)]
def An(e:Lk chain us dl){cnt ep}(d:ep<M us):∀ws:List PW,(∀p∈ws,p.1.1<M us)->
  (pick (iK c us cnt ep) ws).2.map p9=(Dv.sift c chain (M us-1) ep (ji c us cnt) (ws.map p9)).2/\
  (match (Dv.sift c chain (M us-1) ep (ji c us cnt) (ws.map p9)).1 with
   |.no=>(pick (iK c us cnt ep) ws).1=(0,X)
   |.hold=>(pick (iK c us cnt ep) ws).1=(2,X)
   |.got b=>∃v,(pick (iK c us cnt ep) ws).1=(3,N (b,v)))
 |[],_=>by simp[pick,Dv.sift]
 |b::r,h=>by
  let⟨k,l⟩:=An e (cnt:=cnt) d r (λp g=>h p (bK _ g));have a:iK c us cnt ep b=_:=zH (c:=c) e (cnt:=cnt) d (h b bY);rw[cL,Dv.sift,pick];by_cases f:ji c us cnt<(b.1.3:Int)
  .grind
  .rw[Za f]at a⊢;by_cases g:Dv.late c ep (ji c us cnt) b.1=pw
   .grind
   .rw[Za g]at a⊢;by_cases i:Dv.holds c chain (M us-1) ep (ji c us cnt) b.1=pw
    .grind
    .rw[Za i]at a⊢;by_cases j:Dv.wrong c chain ep (ji c us cnt) b.1=pw
     .grind
     .grind
def xN:Option PW->List (List UInt8)
 |some b=>b.1.4
 |none=>[]
def mB(c:Cf)(us:List PB)(dl:Nat->List (List UInt8))(x:DX):Lo:=⟨x.4.2,ji c us x.4.2,x.2,AG us x.2,x.5.4,xN x.3,if x.5.4=0 then dl x.2 else [],M us-1⟩
structure Hs(c:Cf)(us:List PB)(h:Lo)(s:oY):Prop where
 number:h.1+1=s.2
 time:h.2+c.6=ji c us s.2
 epoch:h.3=s.3
 seq:h.5=s.4
def Bh(f:Lk chain us dl)(g:Hs c us h s)(k:s.3<M us)(hw:1<=c.4)(l:∀p∈s.1,p.1.1<M us):
  (fU c us s.1 s.2 s.3).2.map p9=(Dv.draw c chain (M us-1) h (s.1.map p9)).2/\
  (match (fU c us s.1 s.2 s.3).1 with
   |none=>(Dv.draw c chain (M us-1) h (s.1.map p9)).1=X
   |some (e,ob)=>(Dv.draw c chain (M us-1) h (s.1.map p9)).1=N (Dv.lay c chain (M us-1) h e (xN ob))):=by
 have j:s.2≠0:=by have:=g.1;omega
 let⟨i,d⟩:=An (c:=c) f (cnt:=s.2) k _ l;unfold fU Dv.draw;rw[Za (by have:=f.1;omega),Za j];rw[g.3,g.2];cases a:(Dv.sift c chain (M us-1) s.3 (ji c us s.2) (s.1.map p9)).1 with
 |got b=>
  rw[a]at d;obtain⟨v,e⟩:=d;rw[e];dsimp only;rw[a];exact⟨i,R⟩
 |hold=>
  grind
 |no=>
  rw[a]at d;rw[d];dsimp only;rw[a];by_cases b:((M us-1:Nat):Int)<=(s.3:Int)+c.4
  .grind
  .rw[Zb ⟨aA,aA⟩];dsimp only;rw[Za b];refine⟨i,?_⟩;unfold alone xN;rw[f.4 _ (by omega:s.ep+1<us.length)]
def Lp(f:Lk chain us dl)(a:Hs c us h x.4)(e:x.2<M us)(b:x.5=⟨x.5.1,x.4.2+1,x.2,gO x.4.2 x.4.3 x.4.4 x.2⟩):Dv.lay c chain (M us-1) h x.2 (xN x.3)=mB c us dl x/\Hs c us (mB c us dl x) x.5:=by
 have i:x.5.4=gO x.4.2 x.4.3 x.4.4 x.2:=by rw[b]
 have d:x.5.2=x.4.2+1:=by rw[b]
 have g:x.5.3=x.2:=by rw[b]
 have j:=a.1;refine⟨?_,?_,?_,?_,?_⟩
 .unfold Dv.lay mB;rw[i];unfold gO;rw[a.1,a.2,a.3,a.4,f.3 _ e,f.5 _ e];by_cases k:x.2=x.4.3
  .grind
  .grind
 .exact si d
 .rw[d,Al];rfl
 .exact si g
 .rfl
inductive rH(c:Cf)(us:List PB):oY->List DX->Prop
 |nil (s0:oY):rH c us s0 []
 |cons {x:DX} {r:List DX}:fU c us x.4.1 x.4.2 x.4.3=(N (x.2,x.3),x.5.1)->x.5=⟨x.5.1,x.4.2+1,x.2,gO x.4.2 x.4.3 x.4.4 x.2⟩->rH c us x.5 r->rH c us x.4 (x::r)
def rH.snoc{s0 pre}(h:rH c us s0 pre):∀{x},x.4=fW s0 pre->fU c us x.4.1 x.4.2 x.4.3=(N (x.2,x.3),x.5.1)->x.5=⟨x.5.1,x.4.2+1,x.2,gO x.4.2 x.4.3 x.4.4 x.2⟩->rH c us s0 (pre++[x]):=by
 induction h with
 |nil s0=>
  intro x a b d;have a:x.4=s0:=a;subst a;exact .cons b d (.nil _)
 |cons g1 g2 g3 ih=>
  intro x a b d;exact .cons g1 g2 (ih a b d)
def Steps.Qu(h:Steps c us s0 pre):rH c us s0 pre:=by
 induction h with
 |nil=>exact .nil _
 |snoc _ h2 h3 h4 ih=>exact ih.snoc h2 h3 h4
structure Ok(c:Cf)(chain:List Zq)(us:List PB)(T:Nat)(h:Lo)(s:oY):Prop where
 hs:Hs c us h s
 ep:s.3<M us
 ws:∀p∈s.1,p.1.1<M us/\p.1.5<=4294967296
 much:s.2+Dv.left chain (M us-1) h (s.1.map p9)<=T
 sq:s.4<=s.2
def oQ:∀p,p∈(fU c us ws cnt ep).2->p∈ws:=by
 intro p a;have b:=(mQ (iK c us cnt ep) ws).2.1;unfold fU at a;split at a
 .exact a
 .grind
def Ok.next(b:Lk chain us dl)(hc:gB chain=pw)(g:fR c=pw)(o:Ok c chain us T h x.4)(l:fU c us x.4.1 x.4.2 x.4.3=(N (x.2,x.3),x.5.1))(a:x.5=⟨x.5.1,x.4.2+1,x.2,gO x.4.2 x.4.3 x.4.4 x.2⟩):Dv.draw c chain (M us-1) h (x.4.1.map p9)=(N (mB c us dl x),x.5.1.map p9)/\x.2<M us/\Ok c chain us T (mB c us dl x) x.5:=by
 have hw:1<=c.4:=by
  unfold fR at g;simp only[Zh]at g;omega
 let⟨e,f⟩:=Bh b o.1 o.2 hw (λp d=>(o.3 p d).1);rw[l]at e f;dsimp only at e f;have d:=b.1;have t:=b.2;have i:Dv.draw c chain (M us-1) h (x.4.1.map p9)=(N (Dv.lay c chain (M us-1) h x.2 (xN x.3)),x.5.1.map p9):=Prod.ext f (si e);have k:=pQ c chain _ hc g aA (by rw[o.1.3];have:=o.2;omega) i
 have j:x.2<M us:=by
  have:=k.2.2.1;simp only[Dv.lay]at this;omega
 let⟨n,q⟩:=Lp b o.1 j a;rw[n]at i k;have m:x.5.2=x.4.2+1:=by rw[a]
 have s:x.5.4=gO x.4.2 x.4.3 x.4.4 x.2:=by rw[a]
 refine⟨i,j,q,by rw[a];exact j,λp d=>o.3 p ?_,?_,?_⟩
 .have:=oQ (c:=c) (us:=us) (ws:=x.4.1) (cnt:=x.4.2) (ep:=x.4.3) p;rw[l]at this;exact this d
 .have r:=o.4;unfold Dv.left at r⊢;rw[m];have:=k.2.2.2.2.2.2.2;omega
 .rw[s,m];have:=o.5;unfold gO;split<;>omega
def rH.ok(b:Lk chain us dl)(hc:gB chain=pw)(a:fR c=pw)(f:rH c us s0 pre):∀{h},Ok c chain us T h s0->∃z,Ok c chain us T z (fW s0 pre)/\z=wm (h::pre.map (mB c us dl)) default:=by
 induction f with
 |nil s0=>
  intro h o;exact⟨h,o,R⟩
 |@cons x r h1 h2 _ ih=>
  intro h o;let⟨z,d,e⟩:=ih (o.next b hc a h1 h2).2.2;exact⟨z,d,oe⟩
def rH.draws(e:Lk chain us dl)(hc:gB chain=pw)(b:fR c=pw)(f:rH c us s0 pre):∀{h}(n),Ok c chain us T h s0->(fU c us (fW s0 pre).1 (fW s0 pre).2 (fW s0 pre).3).1=X->M pre<n->Dv.draws c chain (M us-1) n h (s0.1.map p9)=(pre.map (mB c us dl),(fU c us (fW s0 pre).1 (fW s0 pre).2 (fW s0 pre).3).2.map p9):=by
 have hw:1<=c.4:=by
  unfold fR at b;simp only[Zh]at b;omega
 induction f with
 |nil s0=>
  intro h n o d j;cases n with
  |zero=>simp at j
  |succ n=>
   let⟨g,a⟩:=Bh e o.1 o.2 hw (λp k=>(o.3 p k).1);have d:(fU c us s0.1 s0.2 s0.3).1=X:=d;rw[d]at a;dsimp only at a;have i:Dv.draw c chain (M us-1) h (s0.1.map p9)=(X,(fU c us s0.1 s0.2 s0.3).2.map p9):=Prod.ext a (si g);rw[Dv.draws,i];rfl
 |@cons x r h1 h2 _ ih=>
  intro h n o g a;cases n with
  |zero=>simp at a
  |succ n=>
   let⟨d,j,i⟩:=o.next e hc b h1 h2;have:=ih n i g nj;rw[Dv.draws,d];dsimp only;rw[this];rfl
def Steps.draws(a:Lk chain us dl)(hc:gB chain=pw)(b:fR c=pw)(f:rH c us s0 pre)(o:Ok c chain us T h s0)(d:(fU c us (fW s0 pre).1 (fW s0 pre).2 (fW s0 pre).3).1=X):Dv.draws c chain (M us-1) (Dv.left chain (M us-1) h (s0.1.map p9)+1) h (s0.1.map p9)=(pre.map (mB c us dl),(fU c us (fW s0 pre).1 (fW s0 pre).2 (fW s0 pre).3).2.map p9):=by
 rw[rQ c chain (M us-1) hc b (by have:=a.2;have:=a.1;omega) _ (Dv.left chain (M us-1) h (s0.1.map p9)+1+M pre) h _ (by rw[o.1.3];have:=o.2;omega) aA aA];exact f.draws a hc b _ o d aA
def Lk.get(b:Lk chain us dl){p}(h:us[j]? =N p):p.1=(chain[j]!).1/\p.2.1=(chain[j]!).2:=by have a:=(aJ.1 h).1;exact⟨oy (si (BL h)) (b.3 j a),oy (si (pT h)) (b.4 j a)⟩
def Ok.sane(d:Lk chain us dl)(hc:gB chain=pw)(a:fR c=pw)(i:T<4294967296)(o:Ok c chain us T h s):tY c us s.1 s.2 s.3:=by unfold fR at a;simp only[Zh]at a;have g:=(gJ hc).2.1;have l:=d.2;have e:=o.4;unfold Dv.left at e;rw[aV]at e;refine⟨λp f=>?_,aA,aA,aA,aA,aA,aA,o.2,o.3⟩;let⟨j,b⟩:=fD.1 f;have k:=(aJ.1 b).1;have:=A4 hc (i:=j) aA;rw[(d.get b).2];omega
def P7(d:Lk chain us dl)(hc:gB chain=pw)(b:fR c=pw)(e:T<4294967296)(o:Ok c chain us T h s0):Good c us s0:=by intro pre f;obtain⟨z,a,_⟩:=f.Qu.ok d hc b o;have i:=a.1.1;have j:=a.4;have k:=a.5;exact⟨λ_=>a.sane d hc b e,aA,λg=>aA⟩
def yC(a:M us=1)(ws):fU c us ws 0 0=(N (0,X),ws):=by unfold fU;rw[Za aA,Zb R]
def wT(i:M us=1)(f:rH c us ⟨ws,0,0,0⟩ pre):pre=[]\/∃x r,pre=x::r/\x.4=⟨ws,0,0,0⟩/\x.2=0/\x.3=X/\x.5=⟨ws,1,0,0⟩/\rH c us ⟨ws,1,0,0⟩ r:=by
 generalize d:(⟨ws,0,0,0⟩:oY)=s at f;cases f with
 |nil=>exact rr R
 |@cons x r h1 a h3=>
  right;have h:=d;clear d;rw[<-h]at h1 a;rw[yC i]at h1;simp only[bR,aI]at h1;obtain⟨⟨b,e⟩,g⟩:=h1;rw[<-b,<-g]at a;have a:x.5=⟨ws,1,0,0⟩:=a;rw[a]at h3;exact⟨x,r,R,R,si b,si e,a,h3⟩
def Gt(a:Lk chain us dl)(h:M us=1)(b:x.4=⟨ws,0,0,0⟩)(d:x.2=0)(e:x.3=X)(f:x.5=⟨ws,1,0,0⟩):mB c us dl x=Dv.first (chain[0]!):=by
 unfold mB Dv.first;rw[b,d,e,f]
 have g:ji c us 0=vK us 0:=by
  unfold ji vK;simp
 dsimp only;rw[Zb R,g,a.3 0 aA,a.4 0 aA,a.5 0 aA,h];rfl
def yN(a:Lk chain us dl)(b:M us=1)(d:∀p∈ws,p.1.1<M us/\p.1.5<=4294967296):Ok c chain us (1+M ws) (Dv.first (chain[0]!)) ⟨ws,1,0,0⟩:=by
 refine⟨⟨R,?_,R,R⟩,by show 0<_;omega,d,?_,aC⟩
 .unfold Dv.first ji;have:=a.4 0 aA;unfold vK at this;rw[this];simp
 .unfold Dv.left Dv.first;rw[b];simp
def F8(a:Lk chain us dl)(hc:gB chain=pw)(d:fR c=pw)(e:M us=1)(n:M ws<4294967000)(g:∀p∈ws,p.1.1<M us/\p.1.5<=4294967296):Good c us ⟨ws,0,0,0⟩:=by
 intro pre m;obtain rfl|⟨x,r,rfl,h,i,j,k,l⟩:=wT e m.Qu
 .refine⟨λ_=>?_,by show 0<_;omega,λ_=>R⟩;have:=(yN (c:=c) a e g).sane a hc d aA;exact⟨this.1,this.2,this.3,this.4,by show 0<_;omega,this.6,this.7,this.8,this.9⟩
 .obtain⟨z,b,_⟩:=l.ok a hc d (yN (c:=c) a e g)
  have f:fW ⟨ws,0,0,0⟩ (x::r)=fW ⟨ws,1,0,0⟩ r:=by
   unfold fW;rw[List.foldl_cons,k]
  rw[f];have h:=b.1.1;have i:=b.4;have j:=b.5;exact⟨λ_=>b.sane a hc d aA,aA,λf=>aA⟩
end
end
section
variable {v:po}{g lo hi lo' m:Nat}{vs us:List po}{c:Cf}{s0:oY}{pre:List DX}
def bn(vs:List po)(g:Nat):Nat:=vs.countP λv=>ov v == N g
def lE(a b g):bn (a++b) g=bn a g+bn b g:=List.countP_append
def nF(v a g):bn (v::a) g=bn [v] g+bn a g:=lE [v] a g
def Oj(g):bn [] g=0:=rfl
def GP(h:ov v=N g):bn [v] g=1:=by simp[bn,h]
def MT(h:0<bn [v] g):ov v=N g:=by
 unfold bn at h
 grind
def KP(v g):bn [v] g<=1:=List.countP_le_length
def Fo(a:v∈vs)(h:ov v=N g):0<bn vs g:=List.countP_pos_iff.2 ⟨v,a,by simp[h]⟩
def yS(h:0<bn vs g):∃v,v∈vs/\ov v=N g:=by
 let⟨v,a,e⟩:=List.countP_pos_iff.1 h
 grind
structure gK(lo hi:Nat)(vs:List po):Prop where
 one:∀g,bn vs g<=1
 at_:∀g,0<bn vs g->lo<=g/\g<hi
def gK.nil(lo hi):gK lo hi []:=⟨λg=>bU _,λg h=>by simp[Oj]at h⟩
def gK.mono{a}(h:gK lo hi vs)(c:lo'<=lo)(d:hi<=a):gK lo' a vs:=⟨h.1,λg b=>by have:=h.2 g b;omega⟩
def gK.less(h:gK lo hi vs)(a:∀g,bn us g<=bn vs g):gK lo hi us:=⟨λg=>aX (a g) (h.1 g),λg b=>h.2 g (aL b (a g))⟩
def gK.append{a b}(h:gK lo m a)(c:gK m hi b)(d:lo<=m)(e:m<=hi):gK lo hi (a++b):=by refine⟨λg=>?_,λg l=>?_⟩<;>rw[lE]at *<;>have f:=h.1 g<;>have i:=c.1 g<;>have j:=h.2 g<;>have k:=c.2 g<;>omega
def gK.one'(h:∀g,ov v=N g->lo<=g/\g<hi):gK lo hi [v]:=⟨KP v,λg a=>h g (MT a)⟩
def G2(V g):∀a:List PW,bn [Ac (pick V a).1.2] g+bn ((pick V a).2.map Yd) g<=bn (a.map Yd) g
 |[]=>by simp[pick,Ac,bn,ov]
 |b::r=>by
  have ih:=G2 V g r;have c:bn [Ac X] g=0:=by simp[Ac,bn,ov]
  rw[pick,cL,nF b.2 (r.map Yd)];split
  .dsimp only;rw[cL,nF b.2 _];omega
  .split
   .dsimp only;rw[c,cL,nF b.2 _];omega
   .split
    .exact fI
    .omega
def GJ(c us a b d g):bn ((fU c us a b d).2.map Yd) g<=bn (a.map Yd) g/\∀f e,(fU c us a b d).1=N (f,e)->bn [Ac e] g+bn ((fU c us a b d).2.map Yd) g<=bn (a.map Yd) g:=by
 have h:=G2 (iK c us b d) g a;have i:bn [Ac X] g=0:=by simp[Ac,bn,ov]
 unfold fU
 grind
def Og{us}(h:Steps c us s0 pre)(g):bn (pre.map λx=>Ac x.3) g+bn ((fW s0 pre).1.map Yd) g<=bn (s0.1.map Yd) g:=by
 induction h with
 |nil=>simp[Oj,fW]
 |@snoc pre x hp h1 h2 h3 ih=>
  rw[oD,aZ,lE];have:=(GJ c us x.4.1 x.4.2 x.4.3 g).2 x.2 x.3 (by rw[h2])
  grind
def lv(pl:List (Lo×po×po)):List po:=pl.flatMap λp=>[p.2.1,p.2.2]
def Vu(pl g):bn (lv pl) g=bn (pl.map λp=>p.2.1) g+bn (pl.map λp=>p.2.2) g:=by
 induction pl with
 |nil=>rfl
 |cons p pl ih=>
  have e:lv (p::pl)=p.2.1::p.2.2::lv pl:=R;rw[e,nF p.2.1 (p.2.2::lv pl),nF p.2.2 (lv pl),ih,cL,cL,nF p.2.1 (pl.map λp=>p.2.1),nF p.2.2 (pl.map λp=>p.2.2)];omega
def SD(a b):lv (a++b)=lv a++lv b:=dU
def gK.drawn{pl ps b}(h:gK lo m (lv pl++us))(a:gK m hi (ps.map λp=>p.2.2))(hw:∀g,bn (ps.map λp=>p.2.1) g+bn b g<=bn us g)(e:lo<=m)(f:m<=hi):gK lo hi (lv (pl++ps)++b):=by refine⟨λg=>?_,λg l=>?_⟩<;>rw[SD,lE,lE,Vu ps]at *<;>have c:=h.1 g<;>have i:=a.1 g<;>have d:=h.2 g<;>have j:=a.2 g<;>have k:=hw g<;>rw[lE]at c d<;>omega
end
open Go.RowKit Go.Joins Go.Shelf
section
variable {Zn j:Nat->Prop}{W b w':pn}{v l q r v0:po}{n u y d i z e s t g B0 cap:Nat}{c:Cf}{us:List PB}{dl:Nat->List (List UInt8)}{f ws':List PW}{xs:List po}{m:oY}{pre:List DX}{x:DX}
abbrev PL:=Lo×po×po
variable {p:PL}{ps0 ps:List PL}
def gA(p:PL):List po:=[ox pg p.1.1,ox pg p.1.2,ox pg p.1.3,ox pg p.1.4,ox pg p.1.5,p.2.1,p.2.2,ox pg p.1.8]
structure Qn(Zn:Nat->Prop)(W:pn)(p:PL):Prop where
 txs:hZ W p.2.1 p.1.6
 deps:hZ W p.2.2 p.1.7
 ntxs:∀g,ov p.2.1=N g->¬Zn g
 ndeps:∀g,ov p.2.2=N g->¬Zn g
def G5(Zn:Nat->Prop)(W:pn):=∀(k:Nat)(a:Array po)(b:Nat×Nat),W.1[k]? =N (pj a 9 b)->¬Zn k
def hZ.gE{l}(h:hZ W v l)(hc:fT Zn W b)(c:G5 Zn W):hZ b v l:=fM.gE h hc (λg e=>by
 let⟨a,d⟩:=fM.obj h e;exact c g a _ d)
def Qn.gE(h:Qn Zn W p)(hc:fT j W b)(a:G5 j W):Qn Zn b p:=⟨h.1.gE hc a,h.2.gE hc a,h.3,h.4⟩
def Qn.own(h:Qn Zn W p)(hc:fT Zn W b):Qn Zn b p:=⟨fM.gE h.1 hc h.3,fM.gE h.2 hc h.4,h.3,h.4⟩
def lO(Zn:Nat->Prop)(W:pn):=∀(k:Nat)(a:Array po)(t:Nat)(b:Nat×Nat),W.1[k]? =N (pj a t b)->¬Zn k
def lO.str(h:lO Zn W):G5 Zn W:=λk a b c=>h k a _ b c
def jD{A B:pn}{row:Option Nat}(d:A.grownBy B row)(c:∀r,row=N r->n<=r/\∃o:ZG,A.1[r]? =N o/\o.isCells=pi):∃Zn,fT Zn A B/\lO Zn A/\∀k<n,¬Zn k:=
 ⟨λk=>row=N k,.grown d,λk f t g a e=>(by
  obtain⟨_,o,b,hc⟩:=c k e;rw[a]at b;cases b;cases hc),λk a e=>(by have:=(c k e).1;omega)⟩
def nT.kM{w}(h:nT w u c l us dl y q r f d i z)(hc:fT Zn w w')(a:lO Zn w):nT w' u c l us dl y q r f d i z:=
 h.gE hc (a _ _ _ _ h.1) (λg b=>by let⟨j,e⟩:=h.2.obj b;exact a g _ _ _ e) (λg b=>by let⟨j,e⟩:=h.3.obj b;exact a g _ _ _ e) a.str
def pE{w}(h:fM w e s v n xs)(hc:fT Zn w w')(a:lO Zn w):fM w' e s v n xs:=h.gE hc (λg b=>by
 let⟨c,e⟩:=h.obj b;exact a g _ _ _ e)
def qC{w b}(h:Ye w b t v)(hc:fT Zn w w')(a:lO Zn w):Ye w' b t v:=oy (hc.5 b h.lt (a b _ _ _ h)) h
def Typed(t c:Nat)(Zn:Nat->Prop)(W:pn):=∀(k:Nat)(a:Array po)(u:Nat)(b:Nat×Nat),W.1[k]? =N (pj a u b)->Zn k->u=t\/u=c
def Typed.Me(h:Typed 62 35 Zn W):G5 Zn W:=λk a b c e=>by
 rcases h k a _ b c e with h|h<;>revert h<;>decide
def nT.typed{w}(h:nT w u c l us dl y q r f d i z)(hc:fT Zn w w')(a:Typed 62 35 Zn w):nT w' u c l us dl y q r f d i z:=
 h.gE hc (λe=>by rcases a _ _ _ _ h.1 e with h|h<;>revert h<;>decide) (λg b e=>by let⟨k,j⟩:=h.2.obj b;rcases a g _ _ _ j e with h|h<;>revert h<;>decide) (λg b e=>by let⟨k,j⟩:=h.3.obj b;rcases a g _ _ _ j e with h|h<;>revert h<;>decide) a.Me
section
variable {F:Fence}{k:Nat}{P:th}(w:pn){ops:Array OF}{rest:List OF}{o:OF}{a:Act}{Q:qaC->Act->pn->Prop}
def qw(E:o.6=X)(s x:ZT)(t:wj)(p:o.2=.call { callee:=.builtin .append,args:=#[s,x],argTypes:=#[t,t] })(e:wj)(i:qaH)(z:po)(size bytes:Nat)(W:P.underlying t=N (.slice e))(G:P.info? e=N i)(hz:i.8=N z)(T:i.3=size)(C:i.4=bytes)(aa:qd z.cells=size)(V:0<size)(v:po)(n:Nat)(xs:List po)(S:a.eval s=v)(L:fM w e size v n xs)(ad:zm)(m c:Nat)(b:List po)(Y:a.eval x=U (N ad) m c)(I:0<m)(H:M b=m*size)(J:∀j u,b[j]? =N u->Z w (ad.add j)=N u)(r:∀u∈b,sw u=pw)(B:n+m<=maxLen)(D:(n+m)*bytes<=140737488355328)(h:∀g d cap w',fM w' e size (U (N ⟨g,d,X⟩) (n+m) cap) (n+m) (xs++b)->jC v g w w'->wpListIn F k P ops Q rest (a.put o.1 (U (N ⟨g,d,X⟩) (n+m) cap)) w'):wpListIn F k P ops Q (o::rest) a w:=by
 refine wpListIn_plain E λK hK=>?_;obtain⟨v',w',O,y,⟨g,d,cap,rfl⟩,A⟩:=L.append (P:=P) t o.3 i z bytes W G hz T C aa V ad m c b I H J r B D;unfold Oper.wpIn;refine⟨?_,?_⟩
 .simp[Oper.about,p,resolve,Target.leads,Sem.run_pure]
 .rw[Oper.semAt_plain F _ _ (by rw[p];intro c q;cases q)];simp[rj,p,resolve,invoke,builtin,S,Y,O,Result.andThen];refine hK _ _ (h g d cap w' y ?_);obtain⟨f,j,l⟩|⟨f,j,l⟩:=A
  .have q:ov v=N g:=si f;exact rr ⟨q,by rw[<-q];exact j,l⟩
  .exact rz ⟨by simpa[ov]using f,j,l⟩
end
def jC.others{w}(h:jC v g w w')(d:fM w e s v n xs):KeepsOthers w w':=⟨h.gE.4,λk o a c=>by
 refine oy (h.gE.5 k (fO a) (λb=>?_)) a;let⟨f,hc⟩:=d.obj b;rw[a]at hc;cases hc;cases c⟩
def E2{b}(h:fU c us f d i=(N (e,N b),ws')):b∈f:=by
 obtain⟨a,_,_⟩:=mQ (iK c us d i) f;unfold fU at h;split at h
 .cases h
 .split at h
  .cases h
  .split at h
   .rename_i k g;cases h;obtain a|a|⟨l,j,a⟩:=a
    .rw[a]at g;cases g
    .rw[a]at g;cases g
    .rw[a]at g;cases g;exact j
   .split at h<;>cases h
def Em(h:Steps c us m pre):(∀p,p∈(fW m pre).1->p∈m.1)/\(fW m pre).2=m.2+M pre:=by
 induction h with
 |nil=>exact⟨λ_ h=>h,R⟩
 |@snoc pre x _ h2 h3 h4 ih=>
  rw[oD];rw[<-h2]at ih;refine⟨λp a=>ih.1 p ?_,?_⟩
  .have:=oQ (c:=c) (us:=us) (ws:=x.4.1) (cnt:=x.4.2) (ep:=x.4.3) p;rw[h3]at this;exact this a
  .rw[h4,aN,dZ]
   show x.4.2+1=_
   rw[ih.2];omega
def Nd(h:Steps c us m (pre++[x])){b}(d:x.3=N b):b∈m.1/\x.4.2=m.2+M pre:=by
 generalize a:pre++[x]=l at h;cases h with
 |nil=>simp at a
 |snoc h1 h2 h3 h4=>
  obtain⟨rfl,e⟩:=ZJ a R;cases e;rw[d]at h3;have:=Em h1;rw[<-h2]at this;exact⟨this.1 b (E2 h3),this.2⟩
def IW(h:Steps c us m (pre++[x])):Steps c us m pre:=by
 generalize a:pre++[x]=l at h;cases h with
 |nil=>simp at a
 |snoc h1 h2 h3 h4=>
  obtain⟨rfl,e⟩:=ZJ a R;cases e;exact h1
structure SI(c:Cf)(us:List PB)(dl:Nat->List (List UInt8))(Zn:Nat->Prop)(B0:Nat)(v0:po)(ps0:List PL)(w:pn)(pre:List DX)(W:pn)(ps:List PL)(a:Option zm)(cap:Nat):Prop where
 los:ps.map p9=pre.map (mB c us dl)
 box:Ye W B0 35 (U a (M (ps0++ps)) cap)
 row:fM W 62 8 (U a (M (ps0++ps)) cap) (M (ps0++ps)) ((ps0++ps).flatMap gA)
 at_:∀p∈ps0++ps,Qn Zn W p
 own:∀g,ov (U a (M (ps0++ps)) cap)=N g->ov v0=N g\/w.1.size<=g
 gE:fT (λk=>Zn k\/ov v0=N k) w W
 big:B0<W.1.size
 txv:(ps.map λp=>p.2.1)=pre.map λx=>Ac x.3
 dep:gK ↑w ↑W (ps.map λp=>p.2.2)
def SI.kM{w a}(h:SI c us dl Zn B0 v0 ps0 w pre W ps a cap)(hc:fT j W b)(d:lO j W)(g:∀k<w.1.size,¬j k):SI c us dl Zn B0 v0 ps0 w pre b ps a cap:=
 ⟨h.1,qC h.2 hc d,pE h.3 hc d,λp i=>(h.4 p i).gE hc d.str,h.5,h.6.trans hc (λk f e=>Zl e (g k f)),aL h.7 hc.4,h.8,h.9.mono fI hc.4⟩
def SI.turn{w a}(h:SI c us dl Zn B0 v0 ps0 w pre W ps a cap)(hc:fT Zn W b)(f:¬Zn B0)(m:∀g,ov v0=N g->¬Zn g)(j:∀k,Zn k->k<w.1.size):SI c us dl Zn B0 v0 ps0 w pre b ps a cap:=
 ⟨h.1,oy (hc.5 B0 h.2.lt f) h.2,h.3.gE hc (λg i d=>by
  obtain q|q:=h.5 g i
  .exact m g q d
  .have:=j g d;omega),λp l=>(h.4 p l).own hc,h.5,h.6.trans hc (λk _ e=>rr e),aL h.7 hc.4,h.8,h.9.mono fI hc.4⟩
def SI.more{w a}(h:SI c us dl Zn B0 v0 ps0 w pre W ps a cap)(hp:p.1=mB c us dl x)(t:Qn Zn W p){f i}(hc:fT (λk=>ov (U a (M (ps0++ps)) cap)=N k\/k=B0) W b)(o:Ye b B0 35 (U f (M (ps0++ps)+1) i))(u:fM b 62 8 (U f (M (ps0++ps)+1) i) (M (ps0++ps)+1) ((ps0++ps).flatMap gA++gA p))(s:∀g,ov (U f (M (ps0++ps)+1) i)=N g->ov (U a (M (ps0++ps)) cap)=N g\/w.1.size<=g)(B:w.1.size<=B0)(v:p.2.1=Ac x.3)(r:gK w.1.size ↑W ((ps++[p]).map λp=>p.2.2)):Typed 62 35 (λk=>ov (U a (M (ps0++ps)) cap)=N k\/k=B0) W/\SI c us dl Zn B0 v0 ps0 w (pre++[x]) b (ps++[p]) f i:=by
 have j:Typed 62 35 (λk=>ov (U a (M (ps0++ps)) cap)=N k\/k=B0) W:=by
  rintro k y C A n (e|rfl)
  .let⟨z,q⟩:=h.3.obj e;rw[n]at q;simp at q;exact rr q.2.1
  .have q:=h.2;unfold Ye at q;rw[n]at q;simp at q;exact rz q.2.1
 have l:M (ps0++(ps++[p]))=M (ps0++ps)+1:=aD
 refine⟨j,⟨by rw[aZ,aZ,h.1];simp[hp],by rw[l];exact o,?_,λq d=>?_,λg m=>?_,?_,aL h.7 hc.4,by rw[aZ,aZ,h.8];simp[v],r.mono fI hc.4⟩⟩
 .rw[l,<-cZ,dU];simpa using u
 .rw[<-cZ]at d;obtain d|d:=bV.1 d
  .exact(h.4 q d).gE hc j.Me
  .rw[bT.1 d];exact t.gE hc j.Me
 .rw[l]at m;obtain q|q:=s g m
  .exact h.5 g q
  .exact rz q
 .refine h.6.trans hc (λk n e=>?_);obtain e|e:=e
  .obtain q|q:=h.5 k e
   .exact rz q
   .omega
  .omega
end
open Go.RowKit
section
variable {L:Array Bool}{v:po}{k:Nat}
def Vf(L:Array Bool):Nat:=L.1.countP (λb=>!b)
def Hy{i:Nat}(a:L[i]? =N pi):0<Vf L:=by let⟨h,e⟩:=cH.1 a;exact List.countP_pos_iff.2 ⟨pi,by rw[<-e];exact Array.getElem_mem_toList h,R⟩
def OR{i}(a:L[i]? =N pi):Vf (qb L i pw)<Vf L:=by
 have c:=Hy a;let⟨h,e⟩:=cH.1 a;unfold Vf at c⊢;rw[Array.toList_setIfInBounds,List.countP_set jx];have b:L.1[i]' jx=pi:=by simpa using e
 simp only[b,Bool.not_false,if_true,Bool.not_true,bE,if_false];omega
def vH{md ops i}(h:i∈xe md ops L):L[i]? =N pi:=by
 unfold xe at h;rw[dD,bN]at h;have a:=h.2.1;rw[cS]at a;cases c:L[i]? with
 |none=>rw[c]at a;simp at a
 |some b=>
  rw[c]at a;simp at a;rw[a]
section
variable {F:Fence}{n:Nat}{P:th}{md:Region.Mode}{ops:Array OF}{Q:qaC->Act->pn->Prop}
def wpOpIn_mono{i K c a w}(h:∀a w,K a w->c a w)(b:wpOpIn F n P ops Q i K a w):wpOpIn F n P ops Q i c a w:=by
 unfold wpOpIn at b⊢;cases d:ops[i]? with
 |none=>rw[d]at b;exact h _ _ b
 |some o=>
  rw[d]at b;dsimp only at b⊢;split
  .rename_i hw;rw[Zb hw]at b;exact Oper.wpIn_mono h b
  .rename_i hw;rw[Za hw]at b;exact⟨b.1,h _ _ b.2⟩
def pK(Inv:Array Bool->Act->pn->Prop)(b:∀L a w,Inv L a w->xe md ops L=[]->Q .normal a w)
  (e:∀L a w i,Inv L a w->i∈xe md ops L->wpOpIn F n P ops Q i (λd w'=>Inv (qb L i pw) d w') a w):
  ∀(c:Nat)(L:Array Bool)(a:Act)(w:pn),Vf L<=c->Inv L a w->wpAnyIn F n P md ops Q c L a w
 |0,L,a,w,hf,hI=>by
  have d:xe md ops L=[]:=by
   cases h:xe md ops L with
   |nil=>rfl
   |cons i r=>
    have:=Hy (vH (i:=i) (by rw[h];exact bY));omega
  exact⟨d,b L a w hI d⟩
 |f+1,L,a,w,hf,hI=>⟨λh=>b L a w hI h,λi d=>wpOpIn_mono (λg w' h=>pK Inv b e f _ g w' (by have:=OR (vH d);omega) h) (e L a w i hI d)⟩
end
section
variable {l n:Nat}{P:th}{ops:Array OF}{Q:qaC->Act->pn->Prop}{i:Nat}{o:OF}{K:Act->pn->Prop}{a:Act}{w w':pn}
def jr(e:ops[i]? =N o)(d:o.6=X)(b:∀c,o.2≠.defer c)(f:(rj a.eval o).run P w=.ok (.value v) w')(hK:K (a.put o.1 v) w'):wpOpIn (Fence.wide.inRound l) n P ops Q i K a w:=by unfold wpOpIn;rw[e];dsimp only;rw[Zb nu];refine⟨λ_ _=>trivial,?_⟩;rw[Oper.semAt_eq _ _ _ b,f];exact hK
def Ee(e:ops[i]? =N o)(d:o.6=X)(b:∀c,o.2≠.defer c)(f:(rj a.eval o).run P w=.ok .skip w')(hK:K (a.put o.1 p8) w'):wpOpIn (Fence.wide.inRound l) n P ops Q i K a w:=by unfold wpOpIn;rw[e];dsimp only;rw[Zb nu];refine⟨λ_ _=>trivial,?_⟩;rw[Oper.semAt_eq _ _ _ b,f];exact hK
end
def Cv{a:Act}{d:Nat}:(a.put (N d) v).1[k]? =if d=k then(if d<qd a.1 then N v else X)else a.1[k]?:=by unfold Act.put;rw[aQ]
def gN{a:Act}(h:a.1[k]? =N v):a.eval (sn k)=v:=by
 show a.1.getD k p8=v
 rw[cS,h];rfl
end
open Fr (fG)
open Dv (Zq)
section
variable {l:It}{a b c:Option Nat}{Zs B n m d:Nat}{w W:pn}{α:Type}{ty:wj}{e f g i j:po}
def Da(l:It):Option Ba:=match l.3 with
 |[a,b,c,d]=>match Dv.value a,Dv.value b,Dv.value c,strs d with
  |some x,N y,N z,N t=>N ⟨x,y,z,t,0⟩
  |_,_,_,_=>X
 |_=>X
def Kn(i:It):Option Ba:=match i.2 with
 |[]=>X
 |x::r=>if x=0 then(Im.dec r).bind Da else X
def MV(h:M l.3≠4):Da l=X:=by
 unfold Da;split
 .rename_i e;rw[e]at h;exact Zl R h
 .rfl
def JK:Option Nat->Option Nat->Option Nat->Option (List (List UInt8))->Option Ba
 |some x,N y,N z,N t=>N ⟨x,y,z,t,0⟩
 |_,_,_,_=>X
def Jl{a b c d}(h:l.3=[a,b,c,d]):Da l=JK (Dv.value a) (Dv.value b) (Dv.value c) (strs d):=by unfold Da JK;rw[h]
def AX{Zs}(h:te a=pi\/te b=pi\/te c=pi\/te Zs=pi):JK a b c Zs=X:=by
 cases a<;>cases b<;>cases c<;>cases Zs<;>simp[JK]at h⊢
def Jv(d:te a=pw)(e:te b=pw)(hc:te c=pw)(t:List (List UInt8)):JK a b c (N t)=N ⟨Ym a 0,Ym b 0,Ym c 0,t,0⟩:=by
 cases a<;>cases b<;>cases c<;>simp[JK]at d e hc⊢
def In.four{c0 v a j k o e}(h:In B w (n+1) c0 v (U a m d) l)(p:l.3=[j,k,o,e]):∃g f,a=N ⟨g,f,X⟩/\g<B/\(∃b i c,K3 w g f (.bool j.1) (pk ⟨py j.2⟩) (U b i c))/\(∃b i c,K3 w g (f+3) (.bool k.1) (pk ⟨py k.2⟩) (U b i c))/\(∃b i c,K3 w g (f+6) (.bool o.1) (pk ⟨py o.2⟩) (U b i c))/\∃b c,K3 w g (f+9) (.bool e.1) (pk ⟨py e.2⟩) (U b (M e.3) c)/\In B w n (.bool e.1) (pk ⟨py e.2⟩) (U b (M e.3) c) e:=by obtain⟨li,P,Y⟩:=l;dsimp only at p;subst p;let⟨g,f,Q,q,G,i⟩:=In.kid h aC;simp only[ry]at q;let⟨S,C,H⟩:=i 0 aC;let⟨T,D,I⟩:=i 1 aC;let⟨V,E,J⟩:=i 2 aC;let⟨W,F,r⟩:=i 3 aC;obtain⟨b,c,_,_,x⟩:=In.shape H;obtain⟨s,K,_,_,y⟩:=In.shape I;obtain⟨t,L,_,_,z⟩:=In.shape J;obtain⟨u,O,_,_,A⟩:=In.shape r;subst x y z A;exact⟨g,f,q.1,G,⟨b,_,c,C⟩,⟨s,_,K,D⟩,⟨t,_,L,E⟩,u,O,F,r⟩
def Ip{l:List α}(h:M l=4):∃a b c d,l=[a,b,c,d]:=by
 match l,h with
 |[a,b,c,d],_=>exact⟨a,b,c,d,R⟩
def Xn(w:pn)(c:Nat)(e:Ending):Option Ba->Prop
 |none=>e=qs (sh #[we #[ox pg 0,ox pg 0,ox pg 0,U X 0 0,ox pg 0],rh pi])
 |some b=>∃a d,e=qs (sh #[C0 b (U a (M b.4) d),rh pw])/\jk w c (U a (M b.4) d) b.4/\b.5=0
def gV{b}(h:W.1[b]? =N (pj #[e,f,g,i,j] ty (0,0))):Z W ⟨b,0,X⟩=N e/\Z W ⟨b,1,X⟩=N f/\Z W ⟨b,2,X⟩=N g/\Z W ⟨b,3,X⟩=N i/\Z W ⟨b,4,X⟩=N j/\(∀o,sk W ⟨b,o,X⟩=pi):=
 ⟨ij,ij,ij,ij,ij,aM h⟩
def iL{a}(h:Below B a w)(b:B<=Zs)(e f g i j):Below B a (Sg w Zs e f g i j):=ph (ph (ph (ph (ph h (p:=⟨Zs,0,X⟩) b _) (p:=⟨Zs,1,X⟩) b _) (p:=⟨Zs,2,X⟩) b _) (p:=⟨Zs,3,X⟩) b _) (p:=⟨Zs,4,X⟩) b _
def E3(i c2 w)(cc:∃a n d,c2=U a n d)(O:M i.2<=16777216)(J:iJ w):tf PQ 121 #[we #[.bool i.1,pk ⟨py i.2⟩,c2]] w λv w'=>Xn w' w.1.size v (Kn i)/\Below w.1.size w w':=by
 obtain⟨ia,ik,ic,rfl⟩:=cc;obtain⟨D,y⟩:∃D:ByteArray,(⟨py i.2⟩:ByteArray)=D:=⟨_,R⟩
 have G:D.1.1=i.2:=by rw[<-y]
 have I:ot D=M i.2:=by rw[<-y];rfl
 rw[y];obtain⟨Q,e⟩:∃Q,Kn i=Q:=⟨_,R⟩
 rw[e];unfold Kn at e;obtain⟨W,h⟩:∃W,W=o6 (o6 w (pj #[.bool i.1,pk D,U ia ik ic] 103)) (pj #[ox pg 0,ox pg 0,ox pg 0,U X 0 0,ox pg 0] 150):=⟨_,R⟩
 have j:Below ↑w w W:=by rw[h];exact pb (pb (aH _ w) fI _) aC _
 have bo:↑W=w.1.size+2:=by rw[h];simp
 have u:W.1[w.1.size+1]? =N (pj #[ox pg 0,ox pg 0,ox pg 0,U X 0 0,ox pg 0] 150 (0,0)):=by
  have:=sv (o6 w (pj #[.bool i.1,pk D,U ia ik ic] 103)) (pj #[ox pg 0,ox pg 0,ox pg 0,U X 0 0,ox pg 0] 150);rw[h];exact ir
 have z1:Z W ⟨↑w,1,X⟩=N (pk D):=by rw[h];simp
 let⟨r0,r1,r2,r3,r4,rf⟩:=gV u;have T:=J.fF j J.pos;cases p:i.2 with
 |nil=>
  rw[p]at e;subst e;have b:tk D.toList=pw:=by rw[Fr.gH];exact Ze (by rw[I,p];rfl)
  have H:qu _:=fE j u;clear j u y G I p T J O bo;go_enter (fq func121 R),ntmps121;go_upto_region 1 with fail;rw[<-h];clear h;go_wp2;refine sd (v:=.tuple _) (by simp[results,YL,go_sem,r0,r1,r2,r3,r4]) R ⟨R,iL H.1 (Yo _) _ _ _ _ _⟩
 |cons x r=>
  rw[p]at e;dsimp only at e;have h0:0<ot D:=by rw[I,p];simp
  have cd:tk D.toList=pi:=by rw[Fr.gH];exact Zd aA
  have ah:D[0]'h0=x:=by
   have:D.1.1[0]? =N (D[0]'h0):=by
    rw[aK (by simpa using h0)];rfl
   rw[G,p]at this;simpa using si this
  by_cases F:x=0
  .rw[Zb F]at e;have ce:((pf (D[0]'h0):Int) == 0)=pw:=by rw[ah,F];rfl
   obtain⟨aj,hS⟩:∃aj:ByteArray,D.extract 1 (ot D)=aj:=⟨_,R⟩
   have aa:aj.1.1=r:=by
    rw[<-hS,Fr.ext_list,aW,eD,G,p];rfl
   have ak:ot aj<=16777216:=by
    rw[aW,aa];rw[p]at O;simp at O;omega
   have z:=decode_any aj W ak T;rw[aa]at z;have h1:(1:Int)<=(ot D:Int):=aA
   have aq:∀V,Below ↑W W V->V.1[w.1.size+1]? =N (pj #[ox pg 0,ox pg 0,ox pg 0,U X 0 0,ox pg 0] 150 (0,0)):=λV hV=>oy (hV.5 _ aA) u;have ao:qu _:=aq;cases hd:Im.dec r with
   |none=>
    rw[hd]at z e;have g:X=Q:=e;subst g;have f:qu _:=λ(_:Unit)=>z;have H:qu _:=j;clear j u y G I p T J O ah F z e hd aa ak aq;go_enter (fq func121 R),ntmps121;go_upto_region 1 with fail;rw[<-h];clear h;go_wp2_with (first|(go_at_call 175;refine aO (f ()) ?_;rintro v w2 ⟨c,b⟩;unfold pP at c;subst c;let⟨k,l,m,o,q,r⟩:=gV (ao _ (pb b b.4 (pj #[rh pi,pk ⟨#[]⟩,U X 0 0] 103))))|fail)
    refine sd (v:=.tuple _) (by simp[results,YL,go_sem,k,l,m,o,q]) R ⟨R,iL (ow H (o5 (pb b b.4 _) H.4)) (Yo _) _ _ _ _ _⟩
   |some l=>
    rw[hd]at z e;have s:Da l=Q:=e;have a7:=λk hk=>BH (k:=k) hd hk;have b6:M r<=16777216:=by rw[<-aa,<-aW];exact ak
    obtain⟨D2,S⟩:∃D:ByteArray,(⟨py l.2⟩:ByteArray)=D:=⟨_,R⟩
    obtain⟨li,ad⟩:∃li,l.1=li:=⟨_,R⟩
    obtain⟨nk,E⟩:∃nk,M l.3=nk:=⟨_,R⟩
    have bf:qu _:=λ(_:Unit)=>z;by_cases h4:nk=4
    .subst h4;let⟨k0,k1,k2,P,L⟩:=Ip E;rw[Jl L]at s
     have am:M P.3<=4294967296:=by
      have:=a7 P (by rw[L];simp);omega
     obtain⟨o0,ae⟩:∃an,Dv.value k0=an:=⟨_,R⟩
     obtain⟨o1,af⟩:∃an,Dv.value k1=an:=⟨_,R⟩
     obtain⟨o2,ag⟩:∃an,Dv.value k2=an:=⟨_,R⟩
     obtain⟨Zs,Y⟩:∃Zs,strs P=Zs:=⟨_,R⟩
     rw[ae,af,ag,Y]at s;have H:qu _:=fE j (fE S (fE ad (fE E (fE L (fE am (fE s (fE ae (fE af (fE ag Y)))))))));clear j u y G I p T J O ah F z e s hd aa ak aq a7 b6 S ad E L am ae af ag Y;go_enter (fq func121 R),ntmps121;go_upto_region 1 with fail;rw[<-h];clear h;go_upto_region 6 with(first|(go_at_call 175;refine aO (bf ()) ?_;rintro v w2 ⟨q,K⟩;obtain⟨a,d,q,ht⟩:=q;rw[H.out.2.1,H.out.2.2.1,H.out.2.2.2.1]at q;subst q;have HT:qu (Tr _ _ _ _ _ _ _ _):=ht;clear ht)|fail)
     let⟨V,hV,ac,zb⟩:=fL w2 #[.bool li,pk D2,U a 4 d] 103;rw[<-hV];let⟨j,S,ad,E,L,am,s,ae,af,ag,Y⟩:=H.out;have bv:=In.fF ac _ _ _ _ _ (Tr.inn 9 _ _ _ _ _ _ fI HT);obtain⟨g,o,rfl,hg,⟨a0,m0,p0,K0⟩,⟨a1,m1,p1,K1⟩,⟨a2,m2,p2,K2⟩,a3,p3,ai,I3⟩:=In.four bv L;have m:=aL hg ac.4;have b8:=(fO zb)
     have A:=λb=>oO k0 (U a0 m0 p0) b ⟨_,_,_,R⟩;have B:=λb=>oO k1 (U a1 m1 p1) b ⟨_,_,_,R⟩;have C:=λb=>oO k2 (U a2 m2 p2) b ⟨_,_,_,R⟩;have ar:=λb (f:Below _ V b)=>qA 6 _ P _ b (aX ac.4 f.4) (In.fF (o5 f ac.4) _ _ _ _ _ I3) am;obtain⟨l0,bw⟩:∃x,k0.1=x:=⟨_,R⟩
     obtain⟨l1,bx⟩:∃x,k1.1=x:=⟨_,R⟩
     obtain⟨l2,bz⟩:∃x,k2.1=x:=⟨_,R⟩
     obtain⟨l3,b3⟩:∃x,P.1=x:=⟨_,R⟩
     obtain⟨S0,bh⟩:∃x:ByteArray,(⟨py k0.2⟩:ByteArray)=x:=⟨_,R⟩
     obtain⟨S1,bj⟩:∃x:ByteArray,(⟨py k1.2⟩:ByteArray)=x:=⟨_,R⟩
     obtain⟨S2,bk⟩:∃x:ByteArray,(⟨py k2.2⟩:ByteArray)=x:=⟨_,R⟩
     obtain⟨S3,bl⟩:∃x:ByteArray,(⟨py P.2⟩:ByteArray)=x:=⟨_,R⟩
     obtain⟨m3,b4⟩:∃x,M P.3=x:=⟨_,R⟩
     rw[bw,bh]at A K0;rw[bx,bj]at B K1;rw[bz,bk]at C K2;rw[b3,bl,b4]at ar ai;rw[ae]at A;rw[af]at B;rw[ag]at C;rw[Y]at ar;unfold Pf at A B C;obtain⟨n0,a8⟩:∃n,Ym o0 0=n:=⟨_,R⟩
     obtain⟨n1,a9⟩:∃n,Ym o1 0=n:=⟨_,R⟩
     obtain⟨n2,ba⟩:∃n,Ym o2 0=n:=⟨_,R⟩
     obtain⟨b0,az⟩:∃n,te o0=n:=⟨_,R⟩
     obtain⟨b1,a4⟩:∃n,te o1=n:=⟨_,R⟩
     obtain⟨b2,a5⟩:∃n,te o2=n:=⟨_,R⟩
     rw[a8,az]at A;rw[a9,a4]at B;rw[ba,a5]at C;have au:qu _:=A;have av:qu _:=B;have aw:qu _:=C;have ap:qu _:=ar
     have hK:∀b,Below ↑V V b->Z b ⟨↑w2,2,X⟩=N (U (N ⟨g,o,X⟩) 4 d)/\Z b ⟨g,o,X⟩=N (.bool l0)/\Z b ⟨g,o+1,X⟩=N (pk S0)/\Z b ⟨g,o+2,X⟩=N (U a0 m0 p0)/\Z b ⟨g,o+3,X⟩=N (.bool l1)/\Z b ⟨g,o+4,X⟩=N (pk S1)/\Z b ⟨g,o+5,X⟩=N (U a1 m1 p1)/\Z b ⟨g,o+6,X⟩=N (.bool l2)/\Z b ⟨g,o+7,X⟩=N (pk S2)/\Z b ⟨g,o+8,X⟩=N (U a2 m2 p2)/\Z b ⟨g,o+9,X⟩=N (.bool l3)/\Z b ⟨g,o+10,X⟩=N (pk S3)/\Z b ⟨g,o+11,X⟩=N (U a3 m3 p3):=λb f=>
      ⟨oy (qi f (p:=⟨↑w2,2,X⟩) b8) (by rw[aG zb];rfl),(K0.fF f m).1,(K0.fF f m).2.1,(K0.fF f m).2.2,(K1.fF f m).1,(K1.fF f m).2.1,(K1.fF f m).2.2,(K2.fF f m).1,(K2.fF f m).2.1,(K2.fF f m).2.2,(ai.fF f m).1,(ai.fF f m).2.1,(ai.fF f m).2.2⟩
     have HK:qu _:=hK;have cb:=aH ↑V V;let⟨x2,cf,cj,cn,cs,cw,c0,c5,c9,de,di,dm,ds⟩:=hK V cb;have bs:=ow K (o5 ac K.4);have c:qu _:=fE s (fE a8 (fE a9 (fE ba (fE az (fE a4 (fE a5 (fE j bs)))))));clear hV ac zb j S ad E L am s ae af ag Y bv hg m b8 K0 K1 K2 ai I3 A B C ar bw bx bz b3 bh bj bk bl b4 a8 a9 ba az a4 a5 hK bs K H HT r0 r1 r2 r3 r4 rf z1;go_upto_region 9 with(first|(go_at_call 176;(with_reducible refine aO (au.out _) ?_);rintro e3 w3 ⟨rfl,bp⟩;have ax:=bp;let⟨x3,cg,ck,co,ct,cx,c1,c6,da,df,dj,dn,dt⟩:=HK.out w3 ax;clear bp)|(go_at_call 176;(with_reducible refine aO (av.out _) ?_);rintro e4 w4 ⟨rfl,bq⟩;have ay:=ow ax (o5 bq ax.4);let⟨x4,ch,cl,cp,cu,cy,c3,c7,db,dg,dk,dq,du⟩:=HK.out w4 ay;clear bq)|(go_at_call 176;(with_reducible refine aO (aw.out _) ?_);rintro e5 w5 ⟨rfl,br⟩;have r:=ow ay (o5 br ay.4);let⟨x5,ci,cm,cr,cv,cz,c4,c8,dc,dh,dl,dr,dv⟩:=HK.out w5 r;clear br)|fail)
     have bc:↑w<=w5.1.size:=by
      have t:=c.2.2.2.2.2.2.2.1.4;have e2:=c.2.2.2.2.2.2.2.2.4;have e3:=r.4;omega
     have bu:=ow (ow c.2.2.2.2.2.2.2.1 (o5 c.2.2.2.2.2.2.2.2 c.2.2.2.2.2.2.2.1.4)) (o5 r (aX c.2.2.2.2.2.2.2.1.4 c.2.2.2.2.2.2.2.2.4));have bd:qu _:=bu;clear bu;cases Zs with
     |none=>
      go_upto_region 10 with(first|(go_at_call 177;refine aO (ap _ r) ?_;rintro e6 w6 ⟨q,t⟩;unfold Strs at q;subst q)|fail)
      have ab:=ow r (o5 t r.4);have a6:=ao w6 (ow c.2.2.2.2.2.2.2.2 (o5 ab c.2.2.2.2.2.2.2.2.4));let⟨q0,q1,q2,q3,q4,qf⟩:=gV a6;have HB:qu (Below ↑w w w6):=ow bd (o5 t bc);have bb:X=Q:=by rw[<-c.out.1];exact si (AX (rz (rz (rz R))))
      subst bb;clear c HK au av aw ap ab a6 t;cases b0<;>cases b1<;>cases b2
      all_goals
       go_wp2;refine sd (v:=sh #[we #[ox pg 0,ox pg 0,ox pg 0,U X 0 0,ox pg 0],rh pi]) (by simp[results,YL,go_sem,q0,q1,q2,q3,q4]) R ?_;exact⟨R,iL HB (Yo _) _ _ _ _ _⟩
     |some t=>
      obtain⟨tn,b7⟩:∃n,M t=n:=⟨_,R⟩
      have bg:qu _:=b7;clear b7;go_upto_region 10 with(first|(go_at_call 177;refine aO (ap _ r) ?_;rintro e6 w6 ⟨⟨ta,tc,q,b5⟩,a6⟩;rw[bg.out]at q;subst q;have HM:qu _:=b5;clear b5)|fail)
      have bm:=ow r (o5 a6 r.4);have bb:=ao w6 (ow c.2.2.2.2.2.2.2.2 (o5 bm c.2.2.2.2.2.2.2.2.4));let⟨q0,q1,q2,q3,q4,qf⟩:=gV bb;have HB:qu (Below ↑w w w6/\_):=fE (ow bd (o5 a6 bc)) bb;have HP:qu _:=fE c.1 (fE c.2.1 (fE c.2.2.1 (fE c.2.2.2.1 (fE c.2.2.2.2.1 (fE c.2.2.2.2.2.1 c.2.2.2.2.2.2.1)))));clear c HK au av aw ap bm bb a6;by_cases ab:b0=pw/\b1=pw/\b2=pw
      .obtain⟨rfl,rfl,rfl⟩:=ab;go_wp2;let⟨e,A,B,C,t,b9,K⟩:=HP.out;rw[Jv t b9 K,A,B,C]at e;subst e;refine sd (v:=sh #[we #[ox pg n0,ox pg n1,ox pg n2,U ta tn tc,ox pg 0],rh pw]) (by simp[results,YL,go_sem,q0,q1,q2,q3,q4]) R ⟨⟨ta,tc,?_,?_,R⟩,iL HB.1 (Yo _) _ _ _ _ _⟩
       .unfold C0;dsimp only;rw[bg.out];rfl
       .exact⟨HM.1.gE (lW w6 _ _ _ _ _ _) (λg hg v=>fK HM.1 HB.2 aB (by rw[hg,v])),λg hg=>aX bc (HM.2 g hg)⟩
      .have t:X=Q:=by
        rw[<-HP.out.1];obtain⟨_,_,_,_,b9,ca,K⟩:=HP.out;refine si (AX ?_);rw[b9,ca,K];revert ab;cases b0<;>cases b1<;>cases b2<;>simp
       subst t;clear HP;revert ab;cases b0<;>cases b1<;>cases b2<;>intro ab
       all_goals
        first
         |exact Zl ⟨R,R,R⟩ ab
         |(clear ab
           go_wp2;refine sd (v:=sh #[we #[ox pg 0,ox pg 0,ox pg 0,U X 0 0,ox pg 0],rh pi]) (by simp[results,YL,go_sem,q0,q1,q2,q3,q4]) R ?_;exact⟨R,iL HB.1 (Yo _) _ _ _ _ _⟩)
    .have A:((nk:Int) == 4)=pi:=Zc aA;have f:X=Q:=by rw[<-s,MV (by rw[E];exact h4)]
     subst f;have H:qu _:=fE j (fE S (fE ad E));clear j u y G I p T J O ah F z e s hd aa ak aq a7 b6 S ad E h4;go_enter (fq func121 R),ntmps121;go_upto_region 1 with fail;rw[<-h];clear h;go_wp2_with (first|(go_at_call 175;refine aO (bf ()) ?_;rintro v w2 ⟨c,b⟩;obtain⟨a,d,c,g⟩:=c;rw[H.out.2.1,H.out.2.2.1,H.out.2.2.2]at c;subst c;let⟨m,o,q,r,t,B⟩:=gV (ao _ (pb b b.4 (pj #[.bool li,pk D2,U a nk d] 103)));clear g)|fail)
     refine sd (v:=.tuple _) (by simp[results,YL,go_sem,m,o,q,r,t]) R ⟨R,iL (ow H.1 (o5 (pb b b.4 _) H.1.4)) (Yo _) _ _ _ _ _⟩
  .rw[Za F]at e;subst e
   have b:((pf (D[0]'h0):Int) == 0)=pi:=by
    rw[ah];refine Zc (λv=>F ?_);apply fC.1;simpa using v
   have H:qu _:=fE j u;clear j u y G I p T J O bo ah F;go_enter (fq func121 R),ntmps121;go_upto_region 1 with fail;rw[<-h];clear h;go_wp2;refine sd (v:=.tuple _) (by simp[results,YL,go_sem,r0,r1,r2,r3,r4]) R ⟨R,iL H.1 (Yo _) _ _ _ _ _⟩
end
variable {s:List UInt8}{i:It}{n p:Nat}{l:List Ba}
def qQ{b d}(h:Im.read b d s=N (i,n)):(i.1=pw->i.2=[])/\(i.1=pi->i.3=[]):=by
 cases d with
 |zero=>
  rw[Im.read]at h
  grind
 |succ d=>
  rw[Im.read]at h;split at h
  .cases h
  .grind
  .rw[aY]at h
   grind
def JT(h:Im.dec s=N i):(i.1=pw->i.2=[])/\(i.1=pi->i.3=[]):=by
 unfold Im.dec at h;split at h
 .rename_i a;split at h
  .cases h;exact qQ a
  .cases h
 .cases h
def PI{l}(e:l.1=pi->l.3=[])(n):jA l n=(Da l).map (λb=>{ b with place:=n }):=by
 unfold jA Da;cases h:l.1 with
 |false=>
  rw[e h];rfl
 |true=>
  match hk:l.3 with
  |[a,b,c,d]=>
   dsimp only;unfold strs
   grind
  |[]=>rfl
  |[_]=>rfl
  |[_,_]=>rfl
  |[_,_,_]=>rfl
  |_::_::_::_::_::_=>rfl
def Oe(c:i.1=pw->i.2=[])(n):kN i n=(Kn i).map (λb=>{ b with place:=n }):=by
 unfold kN Kn;cases h:i.1 with
 |true=>
  rw[c h];rfl
 |false=>
  rw[Za aC];cases b:i.2 with
  |nil=>rfl
  |cons x r=>
   dsimp only;split
   .cases a:Im.dec r with
    |none=>rfl
    |some l=>
     simp only[dP];exact PI (JT a).2 n
   .rfl
inductive tR(s:List UInt8):List Ba->Nat->Prop
 |nil:tR s [] 0
 |snoc {l:List Ba} {p:Nat} {i:It} {n:Nat} {b:Ba}:tR s l p->p<M s->Im.read Im.body 8 (s.drop p)=N (i,n)->Kn i=N b->tR s (l++[b]) (p+n)
def UF(s:List UInt8)(p:Nat):=M s<=p\/Im.read Im.body 8 (s.drop p)=X\/∃i n,Im.read Im.body 8 (s.drop p)=N (i,n)/\Kn i=X
def qK(n:Nat)(l:List Ba):List Ba:=(l.filter (λb=>decide (b.1<=n))).map (λb=>{ b with place:=n })
def qR(n l b):qK n (l++[b])=qK n l++(if b.1<=n then [{ b with place:=n }]else []):=by
 unfold qK
 grind
def tR.rd(h:tR s l p)(n):∀f,Dv.rd (f+M l) s n=qK n l++Dv.rd f (s.drop p) n:=by
 induction h with
 |nil=>intro f;rfl
 |@snoc l p i k b _ hp hr hb ih=>
  intro f;rw[aN,dZ,show f+(M l+1)=(f+1)+M l from by omega,ih (f+1),qR,cZ]
  congr 1
  rw[Dv.rd,Za (by intro e;have:=Zf M e;grind),hr];dsimp only;rw[Oe (qQ hr).1 n,hb];simp
def tR.le(h:tR s l p):M l<=p/\p<=M s:=by
 induction h with
 |nil=>simp
 |@snoc l p i k b _ hp hr hb ih=>
  have:=oz kW 8 _ i k hr
  grind
def tR.all(h:tR s l p)(a:UF s p)(n):Dv.rd (M s) s n=qK n l:=by
 have d:=h.le;have:=h.rd n (M s-M l);rw[show M s-M l+M l=M s from by omega]at this;rw[this]
 have:Dv.rd (M s-M l) (s.drop p) n=[]:=by
  cases c:M s-M l with
  |zero=>rfl
  |succ f=>
   rw[Dv.rd];split
   .rfl
   .rename_i e;obtain a|a|⟨i,k,a,b⟩:=a
    .grind
    .rw[a]
    .rw[a];dsimp only;rw[Oe (qQ a).1 n,b];rfl
 grind
section
variable {T:List UInt8}{a:List It}{j:Nat}{W:pn}
structure BX where
 b:Ba
 a:Option zm
 cap:Nat
def BX.encs(x:BX):Array po:=#[we #[ox pg x.1.1,ox pg x.1.2,ox pg x.1.3,U x.2 (M x.1.4) x.3,ox pg x.1.5]]
def Gs(ho:Option ZG)(cB:Nat)(S:ByteArray)(_:List BX)(W:pn):=W.1[1]? =ho/\iJ W/\Ye W cB 9 (pk S)
def BY(T:List UInt8)(pre:List BX)(x:BX)(a:Nat)(W:pn):=jk W a (U x.2 (M x.1.4) x.3) x.1.4/\x.1.5=0/\∃p,tR T ((pre++[x]).map BX.b) p
def BS(T:List UInt8)(xs:List BX):=∃p,tR T (xs.map BX.b) p/\UF T p
def Cq(h:Im.jN (Im.read Im.body 8) T a p):∀b:List Ba,a.map Kn=b.map N->tR T b p:=by
 induction h with
 |nil=>
  intro b c;cases b with
  |nil=>exact .nil
  |cons=>simp at c
 |@snoc l p i n _ hp hr ih=>
  intro b c;rw[aZ]at c;obtain rfl|⟨e,g,rfl⟩:=List.eq_nil_or_concat b
  .simp at c
  .rw[List.concat_eq_append]at c⊢;rw[aZ]at c;let⟨f,d⟩:=ZJ c R;simp only[cL,dB,List.cons.injEq,and_true]at d;exact .snoc (ih e f) hp hr d
def Bf(h:Im.jN (Im.read Im.body 8) T (a++[i]) p):∃b n,Im.jN (Im.read Im.body 8) T a b/\b<M T/\Im.read Im.body 8 (T.drop b)=N (i,n):=by
 generalize c:a++[i]=l at h;cases h with
 |nil=>simp at c
 |snoc h1 h2 h3=>
  obtain⟨rfl,e⟩:=ZJ c R;cases e;exact⟨_,_,h1,h2,h3⟩
def xM{d}(h:Im.read Im.body d T=N (i,n)):M i.2<=M T:=by
 cases d with
 |zero=>
  rw[Im.read]at h;split at h
  .cases h;simp only[cF,bA];omega
  .cases h
 |succ d=>
  rw[Im.read]at h;split at h
  .cases h
  .cases h;simp only[cF,bA];omega
  .rw[aY]at h;obtain⟨l,_,e⟩:=h;cases e;simp
structure EI(J:List BX->(Nat->Prop)->pn->Prop)(ho:Option ZG)(cB B0 l n0 n1:Nat)(S:ByteArray)(Wc:pn)(pre:List BX)(F:Nat->Prop)(W0:pn):Prop where
 j:J pre F W0
 gE:fT (λk=>F k/\NC W0 k) W0 Wc
 own:∀k,n0<=k->k<n1->F k\/W0.1.size<=k
 nc:∀k,n1<=k+2->k<n1->W0.1.size<=k\/NC W0 k
 st:Gs ho cB S pre Wc
 box:Wc.1[B0]? =N (pj #[.func (.yield l) #[] #[]] 216 (0,0))
 big:n1<=↑Wc
def kS{F A B}(h:fT F A B)(b:F j\/A.1.size<=j)(o):fT F A (rq B j o):=
 ⟨h.1,h.2,h.3,by simpa using h.4,λk c a=>by
  rw[sa]
  .exact h.5 k c a
  .rintro rfl;obtain q|q:=b
   .exact a q
   .omega⟩
def Jh{o}(h:iJ W)(k:j≠1):iJ (rq W j o):=by have a:(rq W j o).1[1]? =W.1[1]?:=sa (λi=>k (si i));obtain⟨⟨b,c,d⟩,e,f,g⟩:=h;exact⟨⟨oy (qz a) b,oy (qz a) c,oy (qz a) d⟩,oy (qz a) e,oy (qz a) f,oy (qz a) g⟩
variable {J:List BX->(Nat->Prop)->pn->Prop}{ho:Option ZG}{cB B0 l n0 n1:Nat}{S:ByteArray}{Wc:pn}{pre:List BX}{F:Nat->Prop}{W0:pn}
def EI.free(h:EI J ho cB B0 l n0 n1 S Wc pre F W0)(b:n0<=j)(c:n1<=j+2)(a:j<n1):(F j/\NC W0 j)\/↑W0<=j:=by
 obtain q|q:=h.4 j c a
 .exact rz q
 .obtain r|r:=h.3 j b a
  .exact rr ⟨r,q⟩
  .exact rz r
def EI.put(h:EI J ho cB B0 l n0 n1 S Wc pre F W0)(o)(a:n0<=j)(b:n1<=j+2)(c:j<n1)(e:1<n0)(f:cB<n0)(d:B0≠j):EI J ho cB B0 l n0 n1 S (rq Wc j o) pre F W0:=
 ⟨h.1,kS h.2 (h.free a b c) o,h.3,h.4,⟨oy (sa aA) h.5.1,Jh h.5.2.1 aA,oy (sa aA) h.5.2.2⟩,oy (sa d) h.6,by rw[World.putObj_size];exact h.7⟩
def EI.fF(h:EI J ho cB B0 l n0 n1 S Wc pre F W0)(a:Below ↑Wc Wc W):EI J ho cB B0 l n0 n1 S W pre F W0:=
 ⟨h.1,h.2.trans (.fF a fI _) (λ_ _ e=>e),h.3,h.4,⟨oy (a.5 _ h.5.2.1.pos) h.5.1,h.5.2.1.fF a h.5.2.1.pos,oy (a.5 _ h.5.2.2.lt) h.5.2.2⟩,oy (a.5 _ (fO h.6)) h.6,aX h.7 a.4⟩
def EI.next(h:EI J ho cB B0 l n0 n1 S Wc pre F W0){x b}(n:J (pre++[x]) (rC F W0 Wc) b)(p:Wc.1.size<=b.1.size)(r:Gs ho cB S (pre++[x]) b)(e:∀k,rC F W0 Wc k->b.1[k]? =Wc.1[k]?)(j:n0<=B0)(m:B0<n1)(s:n0+2<=n1)(o:∀k,n1<=k+2->k<n1->NC Wc k):EI J ho cB B0 l n0 n1 S b (pre++[x]) (rC F W0 Wc) b/\∀k,n0<=k->k<n1->b.1[k]? =Wc.1[k]?:=by
 have d:∀k,n0<=k->k<n1->rC F W0 Wc k:=λk c a=>by
  have:=h.7;obtain q|q:=h.3 k c a
  .exact rr q
  .exact rz ⟨q,aA⟩
 exact⟨⟨n,fT.refl _ _,λk c a=>rr (d k c a),λk c a=>rz (λf t i g=>o k c a f t i (by rw[<-e k (d k aA a)];exact g)),r,oy (e B0 (d B0 j m)) h.6,aX h.7 p⟩,λk c a=>e k (d k c a)⟩
def Cx(s w):tf PQ 120 #[pk s] w λe b=>e=qs (.func (.func 205) #[] #[pm (N ⟨w.1.size,0,X⟩),pm (N ⟨w.1.size+1,0,X⟩)])/\b=o6 (o6 w (pj #[pk s] 9)) (pj #[ox pg 1] 3):=by
 have hc:=xC s 1 w;have a:qu _:=λ(_:Unit)=>hc;clear hc;go_enter (fq func120 R),ntmps120;go_wp2_with (go_at_call 174;refine aO (a ()) ?_;rintro e w2 ⟨rfl,rfl⟩)
 go_ret;exact⟨R,R⟩
end
end Hm
namespace Hm
open Go.RowKit Go.Joins Go.Shelf
open Fr (fG)
attribute [local go_sem] Oper.semAt_some
variable {xs:List Zr}{T:List UInt8}{p j B:Nat}{W:pn}
def textOf(s:List UInt8):List UInt8:=(Sq.spread (M s) s 4096 []).1
def nN(xs:List Zr)(pre:List BX):=xs.map (λx=>Kn x.2)=pre.map (λx=>N x.1)
def nN.snoc{xs pre}(h:nN xs pre){x y}(a:Kn x.2=N y.1):nN (xs++[x]) (pre++[y]):=by unfold nN at h⊢;rw[aZ,aZ,h];simp[a]
def nN.Sf{pre}(h:nN xs pre)(a:Im.jN (Im.read Im.body 8) T (xs.map Zr.i) p):tR T (pre.map BX.b) p:=Cq a _ (by
 unfold nN at h;rw[fB,fB];exact h)
def EJ(J:List BX->(Nat->Prop)->pn->Prop)(d:Option ZG)(c a l e f:Nat)(S:ByteArray)(xs:List Zr)(Wc:pn):=∃pre F b,EI J d c a l e f S Wc pre F b/\nN xs pre
def EX(J f:List BX->(Nat->Prop)->pn->Prop)(d b:Nat)(c:vy)(xs:List Zr)(Wc:pn):=c=.ret/\((∃pre F a e x,J pre F a/\fT (λk=>F k/\NC a k) a Wc/\(∀k,d<=k->b<=k+2->k<b->(F k/\NC a k)\/a.1.size<=k)/\xs=e++[x]/\nN e pre/\Kn x.2=X)\/(∃pre F a,f pre F a/\fT (λk=>F k/\NC a k) a Wc/\∀k,d<=k->b<=k+2->k<b->(F k/\NC a k)\/a.1.size<=k))
def EX.put{J i e b c Wc}(h:EX J i e b c xs Wc)(o)(k:e<=j)(l:b<=j+2)(m:j<b):EX J i e b c xs (rq Wc j o):=by
 obtain⟨hc,⟨pre,F,d,p,x,f,g,a,n⟩|⟨pre,F,d,f,g,a⟩⟩:=h
 .exact⟨hc,rr ⟨pre,F,d,p,x,f,kS g (a j k l m) o,a,n⟩⟩
 .exact⟨hc,rz ⟨pre,F,d,f,kS g (a j k l m) o,a⟩⟩
def xH{G}(h:Below G.1.size G W)(a:B+1<G.1.size):mO B G W:=⟨h.4,h.5 B aA,h.5 (B+1) a⟩
def vU(ho r)(S:ByteArray)(hs:ot S<=4096):Oa PQ 118 #[pm (N ⟨r,0,X⟩)] BX.encs (Gs ho r S) (BY (textOf S.1.1)) (BS (textOf S.1.1)) (λ_=>True):=by
 intro E ae Jx W bq A aj av;obtain⟨TB,V⟩:∃TB:ByteArray,(⟨py (Sq.spread (ot S) S.1.1 4096 []).1⟩:ByteArray)=TB:=⟨_,R⟩
 obtain⟨ad,a5⟩:∃b:Bool,(Sq.spread (ot S) S.1.1 4096 []).2=b:=⟨_,R⟩
 have hT:textOf S.1.1=TB.1.1:=by
  rw[<-V];unfold textOf;rw[<-aW]
 have bm:ot TB<=4096:=by
  have:=lJ (ot S) S.1.1 4096 [] (by simp only[bH];omega);rw[<-V]
  show qd (py (Sq.spread (ot S) S.1.1 4096 []).1)<=4096
  rw[bZ];omega
 rw[hT]at aj⊢;have am:=λbj=>Fe S 4096 bj aA aA aA;rw[V,a5]at am;have a8:qu _:=am;have HY:qu _:=aj;have a7:qu _:=av;have an:=A.2.2.lt;have bd:=λH=>oy (qi (pb (aH _ W) fI H) (p:=⟨r,0,X⟩) an) A.2.2.cell;have ab:=A.2.1.pos;have L:qu _:=A;clear aj av A am V a5 hT;refine zw.2 (zw.1 (callsIn_of_wp_marks (n:=3) (fq func118 R) R trivial ?_ R));simp only[ntmps118,bZ,aP,bH,Nat.reduceAdd,Nat.reduceSub,bP,bO,cD,bQ,cA,bX];gi_wp2;refine⟨trivial,(zw.2 (a8 _)).mono ?_⟩;rintro e w2 ⟨rfl,C⟩;gi_wp2;refine⟨trivial,(zw.2 (Cx TB w2)).mono ?_⟩;rintro e w3 ⟨rfl,D⟩;have ay:Below ↑w2 w2 w3:=by rw[D];exact pb (pb (aH _ w2) fI _) aC _
 have i:↑w3=w2.1.size+2:=by rw[D];simp
 have ap:∀(af b:ZG)(k:Nat),(o6 (o6 w2 af) b).1[k]? =if k=w2.1.size+1 then N b else if k=w2.1.size then N af else w2.1[k]?:=by
  intro af b k;exact ol
 have c0:Z w3 ⟨↑w2,0,X⟩=N (pk TB):=by
  have:w3.1[w2.1.size]? =N (pj #[pk TB] 9 (0,0)):=by rw[D,ap];simp
  rw[aG this];rfl
 have c1:Z w3 ⟨w2.1.size+1,0,X⟩=N (ox pg 1):=by
  have:w3.1[w2.1.size+1]? =N (pj #[ox pg 1] 3 (0,0)):=by rw[D,ap];simp
  rw[aG this];rfl
 let⟨a9,hV,ai,aw⟩:=fL W #[.func (.yield E) #[] #[]] 216;have bo:↑a9=W.1.size+1:=by rw[hV];simp
 rw[<-hV]at C;have Y:=ow C (o5 ay C.4);have bl:=C.4
 have ax:∀I J,EI ae ho r ↑W E ↑W (w3.1.size+2) S (o6 (o6 w3 I) J) [] (λ_=>False) W:=λI J=>by
  have f:Below ↑w3 w3 (o6 (o6 w3 I) J):=pb (pb (aH _ w3) fI _) aC _;have d:=ow Y (o5 f aA);have a:=ow ai (o5 d aA);exact⟨a7,.fF a fI _,λk c _=>rz c,λk c _=>rr aA,⟨oy (a.5 _ ab) L.1,L.2.1.fF a ab,oy (a.5 _ an) L.2.2⟩,oy (d.5 _ aA) aw,aC⟩
 have ar:=L.2.1.fF (ow ai (o5 Y aA)) ab;have a0:=EU 8 (tG 8) TB 1 _ (w2.1.size+1) w3 aA R ar aA c0 (by simpa using c1) aA aA;have H0:qu _:=fE a0 (fE ax Y);clear D ap hV aw Y C ay ai c0 c1 ar a0 ax bd;gi_wp2
 refine sA (gf:=205) (lb:=#[pm (N ⟨↑w2,0,X⟩),pm (N ⟨w2.1.size+1,0,X⟩)]) R (enters_of (fq func205 R) Zm R) H0.1 (aH _ _) (by rintro k (rfl|rfl|rfl)<;>omega) (λpre x d W a h hs c=>XE.turn 8 TB pre x d W a h hs c) (λ_=>R)
  (EJ ae ho r ↑W E ↑W (w3.1.size+2) S) (EX ae Jx ↑W (w3.1.size+2))
  (by
   rintro xs f j H ⟨pre,F,a,h,d⟩ c;have g:=(fO c)
   exact⟨pre,F,a,h.put _ aA aA aA ab an aA,d⟩)
  (by
   rintro d xs c g H h a;have f:=(fO a)
   exact h.put _ aA aA aA)
  (λI J=>⟨[],_,_,H0.2.1 I J,R⟩)
  (λx B=>⟨#[.func (.yield E) #[] #[],pm (N ⟨r,0,X⟩),pm (N ⟨↑W,0,X⟩),pk TB,.bool ad,p8,pm (N ⟨B,0,X⟩),p8,p8,sh #[pk TB,.bool ad],pk S,sh #[pk TB,.bool ad],pk TB,.bool ad,pk TB,.func (.func 205) #[] #[pm (N ⟨↑w2,0,X⟩),pm (N ⟨w2.1.size+1,0,X⟩)],ox pg x.1,we #[.bool x.2.1,pk ⟨py x.2.2⟩,U x.3 (M x.2.3) x.4],p8,p8,p8,p8,p8,p8,p8,p8,p8,p8,p8,p8,p8],[]⟩)
  (λx=>pj #[.bool x.2.1,pk ⟨py x.2.2⟩,U x.3 (M x.2.3) x.4] 103) ?assign ?body ?done ?stop
 case assign=>
  intro E x W K hK;simp only[Zr.encs];gi_wp2;exact hK
 case body=>
  rintro lp xs x bk O br bs a1 a2 ⟨pre,F,W0,hI,q⟩ t ⟨⟨bv,bf⟩,p,n⟩;have ah:=hI.fF t
  have a3:∀k,w3.1.size+2<=k+2->k<w3.1.size+2->NC O k:=λk j d=>by
   obtain rfl|rfl:=(show k=w3.1.size\/k=w3.1.size+1 by omega)
   .exact a1
   .exact a2
  have bp:M x.2.2<=4096:=by
   rw[aZ]at n;obtain⟨g,f,_,_,c⟩:=Bf n;have:=xM c;rw[cF,<-aW]at this;omega
  obtain⟨IB,au⟩:∃IB:ByteArray,(⟨py x.2.2⟩:ByteArray)=IB:=⟨_,R⟩
  obtain⟨G,P,o,-⟩:=fL O #[.bool x.2.1,pk ⟨py x.2.2⟩,U x.3 (M x.2.3) x.4] 103;rw[<-P];have gs:↑G=O.1.size+1:=by rw[P];simp
  have gk:G.1[O.1.size]? =N (pj #[.bool x.2.1,pk IB,U x.3 (M x.2.3) x.4] 103 (0,0)):=by rw[P,<-au];exact sv _ _
  let⟨k0,k1,k2⟩:=iY gk;have a:=ah.fF o;have v:∀k,w3.1.size+2<=k+2->k<w3.1.size+2->NC G k:=λk j d w K y e=>a3 k j d w K y (by rw[<-o.5 k (by have:=ah.7;omega)];exact e);have ak:=E3 x.2 (U x.3 (M x.2.3) x.4) G ⟨_,_,_,R⟩ aA a.5.2.1;rw[au]at ak⊢;have aq:qu _:=λ(_:Unit)=>ak;have HI:qu _:=fE a (fE q (fE n (fE t (fE o (fE gs v)))));have bb:↑W<G.1.size:=by have:=a.7;omega
  have bu:=a.7;have bg:=kZ a.6;clear hI ah q n t o gk P bf a ak a3 v a1 a2;generalize aa:Kn x.2=B;cases B with
  |none=>
   gi_wp2;refine⟨trivial,(CallsIn.inRound _ (zw.2 (aq ()))).mono ?_⟩;rintro e w4 ⟨c,g⟩;rw[aa]at c;have c:e=_:=c;subst c;gi_wp2;refine⟨(λ_ h=>by cases h),?_⟩;gi_wp2;let⟨a,q,n,t,o,gs,v⟩:=HI.out;have l:=ow g (o5 (pb (aH _ w4) fI (pj #[ox pg 0,ox pg 0,ox pg 0,U X 0 0,ox pg 0] 150)) g.4);have f:=a.fF l;exact⟨xH l aA,R,rr ⟨pre,F,W0,xs,x,f.1,f.2,λk m j d=>f.free m j d,R,q,aa⟩⟩
  |some b=>
   gi_wp2;refine⟨trivial,(CallsIn.inRound _ (zw.2 (aq ()))).mono ?_⟩;rintro e w4 ⟨az,c⟩;rw[aa]at az;obtain⟨a4,ag,rfl,ao,a6⟩:=az;unfold C0;have bw:=λH=>oy (qi (ow c (o5 (pb (aH _ w4) fI H) c.4)) (p:=⟨↑W,0,X⟩) bb) bg;obtain⟨X5,bc,m,-⟩:=fL w4 #[ox pg b.1,ox pg b.2,ox pg b.3,U a4 (M b.4) ag,ox pg b.5] 150;let⟨a,q,n,t,o,gs,v⟩:=HI.out;have l:=a.fF (ow c (o5 m c.4));have s:nN (xs++[x]) (pre++[⟨b,a4,ag⟩]):=q.snoc aa;let⟨fn,bx,assign,body,bh,hR⟩:=HY pre _ F W0 X5 l.1 l.2 ⟨⟨fM.fF ao.1 m,λg hg=>aX (aX a.2.4 aA) (ao.2 g hg)⟩,a6,p,s.Sf n⟩;simp only[BX.encs]at bh;have HR:qu _:=hR;have u:∀k,w3.1.size+2<=k+2->k<w3.1.size+2->NC X5 k:=λk j d w K y e=>v k j d w K y (by rw[<-(ow c (o5 m c.4)).5 k aA];exact e);have H5:qu _:=fE l (fE s (fE c (fE m u)));clear hR l s a q n t o ao a6 m u v;subst bc;gi_wp2;refine RoundIn.mono (CG HR) ?_;rintro e W3 (⟨rfl,Q,i,z,f⟩|⟨rfl,T,i,f⟩)
   .have H3:qu _:=fE Q (fE i (fE z f));clear Q i z f;gi_wp2;let⟨Q,i,z,f⟩:=H3.out;let⟨l,s,c,m,u⟩:=H5.out;have a:=HI.1;have g:=ow c (o5 m c.4);let⟨ba,ac⟩:=l.next Q i z f fI aA aA u;refine⟨⟨aX g.4 i,oy (ac _ aA aA) (g.5 _ aA),oy (ac _ aA aA) (g.5 _ aA)⟩,?_,_,_,_,ba,s⟩;rintro k (rfl|rfl|rfl)
    .exact oy z.1 (si a.5.1)
    .exact oy (ac _ aA aA) (g.5 _ aA)
    .exact oy (ac _ aA aA) (g.5 _ aA)
   .have H3:qu _:=fE T (fE i f);clear T i f;gi_wp2;let⟨T,i,f⟩:=H3.out;let⟨l,s,c,m,u⟩:=H5.out;have ac:=ow c (o5 m c.4)
    have g:∀k,W.1.size<=k->k<w3.1.size+2->rC F W0 (o6 w4 (pj #[ox pg b.1,ox pg b.2,ox pg b.3,U a4 (M b.4) ag,ox pg b.5] 150)) k:=λk j d=>by
     have:=l.7;obtain B|B:=l.3 k j d
     .exact rr B
     .exact rz ⟨B,aA⟩
    exact⟨⟨aX ac.4 i,oy (f _ (g _ aA aA)) (ac.5 _ aA),oy (f _ (g _ aA aA)) (ac.5 _ aA)⟩,R,rz ⟨_,_,W3,T,fT.refl _ _,λk h0 j d=>rr ⟨g k h0 d,λw K y e=>u k j d w K y (by rw[<-f k (g k h0 d)];exact e)⟩⟩⟩
 case done=>
  rintro l xs o q s u ⟨p,d,t,f⟩ ⟨pre,F,n,g,c⟩ j hK;have a:=g.fF j;have m:qu _:=fE a (fE c (fE d f));clear g a c d f j;gi_wp2;refine⟨aC,rr ⟨_,_,R,qam hK,?_⟩⟩;let⟨a,c,d,f⟩:=m.out;refine⟨_,Zy R _ _ _,⟨_,R⟩,rr ⟨pre,F,n,⟨p,c.Sf d,?_⟩,a.1,kS a.2 (a.free (j:=l) aA aA aA) _⟩⟩;obtain h|⟨_,h⟩:=f
  .exact rr (by rw[<-aW];exact h)
  .exact rz (rr h)
 case stop=>
  rintro m x xs v w z G ⟨p,c,B⟩ ⟨rfl,d⟩ a hK;have n:qu _:=fE d (fE c a);clear d c a;gi_wp2;refine⟨aC,rr ⟨_,_,R,qam hK,?_⟩⟩;let⟨d,c,a⟩:=n.out;refine⟨_,Zy R _ _ _,⟨_,R⟩,?_⟩;obtain⟨pre,F,f,P,O,g,j,l,rfl,t,u⟩|⟨pre,F,f,g,j,l⟩:=d
  .rw[aZ]at c;let⟨s,K,o,y,q⟩:=Bf c;exact rr ⟨pre,F,f,⟨s,t.Sf o,rz (rz ⟨_,_,q,u⟩)⟩,g,kS (j.trans (.fF a fI _) (λ_ _ e=>e)) (l m aA aA aA) _⟩
  .exact rz ⟨pre,F,f,trivial,g,kS (j.trans (.fF a fI _) (λ_ _ e=>e)) (l m aA aA aA) _⟩
end Hm
namespace Hm
open Go.RowKit Go.Joins Go.Shelf
open Dv (Zq)
section
variable {k m:Nat}{v:po}
noncomputable def nE:Array OF:=match Tryz.f39.9 with
 |some (.seq _ (.seq _ (.seq _ (.seq _ (.seq _ (.seq _ (.block _ (.rangeFunc _ _ _ (.block _ (.seq _ (.block _ (.rangeFunc _ _ _ (.block _ (.seq _ (.cond _ (.seq _ (.region _ ops _)) _)))))))))))))))=>ops
 |_=>#[]
def Re:∀q0 q1 q2 q3 q4 q5 q6 q7 q8 q9 q10:Bool,xe .any nE #[q0,q1,q2,q3,q4,q5,q6,q7,q8,q9,q10]=[]->q10=pw:=gz
def S8(q0 q1 q2 q3 q4 q5 q6 q7 q8 q9 q10:Bool)(i:Nat):Bool:=decide (i<11/\(i=2->q1=pw)/\(i=3->q2=pw)/\(i=4->q3=pw/\q4=pi)/\(i=6->q5=pw/\q6=pi)/\(i=7->q4=pw/\q6=pw/\q7=pi)/\(i=8->q0=pw)/\(i=9->q8=pw)/\(i=10->q9=pw/\q7=pw/\q10=pi))
def SO:∀q0 q1 q2 q3 q4 q5 q6 q7 q8 q9 q10:Bool,(xe .any nE #[q0,q1,q2,q3,q4,q5,q6,q7,q8,q9,q10]).all (S8 q0 q1 q2 q3 q4 q5 q6 q7 q8 q9 q10)=pw:=gz
def fQ{a:Act}{d u}(b:d≠k)(h:a.1[k]? =N u):(a.put (N d) v).1[k]? =N u:=by rw[Cv,Za b];exact h
def zU{a:Act}{d}(b:d<qd a.1):(a.put (N d) v).1[d]? =N v:=by rw[Cv,Zb R,Zb b]
def lQ{a:Act}{d:Nat}:qd (a.put (N d) v).1=qd a.1:=by unfold Act.put;simp
def bt(e d t:Nat)(ta:Option zm)(tn tc p:Nat):List po:=[ox pg e,ox pg d,ox pg t,U ta tn tc,ox pg p]
structure RB(W:pn)(b2 b10 kb n:Nat)(vw:po)(xs:List po)(cs:Array po)(e d t:Nat)(ta:Option zm)(tn tc p:Nat):Prop where
 h2:W.1[b2]? =N (pj #[iq kb] 93 (0,0))
 hk:W.1[kb]? =N (pj cs 137 (0,0))
 hw:cs[10]? =N vw
 h10:W.1[b10]? =N (pj (py (bt e d t ta tn tc p)) 150 (0,0))
 row:fM W 150 5 vw n xs
 ne:ov vw≠N b10
 len:n<4294967296
structure RI(W:pn)(b2 b10 kb n:Nat)(vw:po)(xs:List po)(e d t:Nat)(ta:Option zm)(tn tc p:Nat)(q0 q1 q2 q3 q4 q5 q6 q7 q8 q9 q10:Bool)(a:Act)(w:pn):Prop where
 sz:qd a.1=93
 t2:a.1[2]? =N (iq b2)
 t10:a.1[10]? =N (iq b10)
 s0:q0=pw->a.1[83]? =N (iq kb)
 s1:q1=pw->a.1[84]? =N (iq kb)
 s2:q2=pw->a.1[85]? =N (iq kb)
 s3:q3=pw->a.1[86]? =N (pm (N ⟨kb,10,X⟩))
 s4:q4=pw->a.1[87]? =N (vw)
 s5:q5=pw->a.1[88]? =N (.agg (py (bt e d t ta tn tc p)))
 s6:q6=pw->a.1[89]? =N (U (N ⟨↑W,0,X⟩) 1 1)
 s8:q8=pw->a.1[91]? =N (iq kb)
 s9:q9=pw->a.1[92]? =N (pm (N ⟨kb,10,X⟩))
 w6:q6=pi->w=W
 w7:q6=pw->q7=pi->w=o6 W (pj (py (bt e d t ta tn tc p)) 150)
 w10:q7=pw->∃g off cap w1,fM w1 150 5 (U (N ⟨g,off,X⟩) (n+1) cap) (n+1) (xs++bt e d t ta tn tc p)/\jC vw g (o6 W (pj (py (bt e d t ta tn tc p)) 150)) w1/\a.1[90]? =N (U (N ⟨g,off,X⟩) (n+1) cap)/\w=if q10=pw then o3 w1 ⟨kb,10,X⟩ (U (N ⟨g,off,X⟩) (n+1) cap)else w1
 c7:q7=pw->q4=pw/\q6=pw
 c10:q10=pw->q7=pw
section
variable {W:pn}{b2 b10 kb n:Nat}{vw:po}{xs:List po}{cs:Array po}{e d t:Nat}{ta:Option zm}{tn tc p:Nat}{q0 q1 q2 q3 q4 q5 q6 q7 q8 q9 q10:Bool}{a:Act}{w:pn}
def RI.kept(h:RI W b2 b10 kb n vw xs e d t ta tn tc p q0 q1 q2 q3 q4 q5 q6 q7 q8 q9 q10 a w){f}(c:W.1[k]? =N f)(m:k≠kb)(q:ov vw≠N k):w.1[k]? =N f:=by
 have s:=(fO c)
 have b:∀o,(o6 W o).1[k]? =N f:=λo=>oy (aU _ _ _ s) c;cases j:q6 with
 |false=>rw[h.13 j];exact c
 |true=>
  cases l:q7 with
  |false=>rw[h.14 j l];exact b _
  |true=>
   obtain⟨g,x,u,w1,v,r,_,hw⟩:=h.15 l;have i:=oy (r.gE.5 k (cH.1 (b _)).1 q) (b _);rw[hw];split
   .exact oy (aR _ _ _ _ m) i
   .exact i
def RB.XO(a:RB W b2 b10 kb n vw xs cs e d t ta tn tc p):b2≠kb/\ov vw≠N b2/\b10≠kb/\ov vw≠N kb:=by
 refine⟨λe=>?_,fK a.5 a.1 aB,λe=>?_,fK a.5 a.2 aB⟩
 .have:=a.1;rw[e,a.2]at this;simp at this
 .have:=a.4;rw[e,a.2]at this;simp at this
def KQ{l:Nat}{Q:qaC->Act->pn->Prop}(c:RB W b2 b10 kb n vw xs cs e d t ta tn tc p)(ab:qd a.1=93)(ad:a.1[2]? =N (iq b2))(ac:a.1[10]? =N (iq b10))(O:∀i g f b w1,fM w1 150 5 (U (N ⟨g,f,X⟩) (n+1) b) (n+1) (xs++bt e d t ta tn tc p)->jC vw g (o6 W (pj (py (bt e d t ta tn tc p)) 150)) w1->Q .normal i (o3 w1 ⟨kb,10,X⟩ (U (N ⟨g,f,X⟩) (n+1) b))):wpAnyIn (Fence.wide.inRound l) m PQ .any nE Q 11 (Array.replicate 11 pi) a W:=by
 let⟨i0,V,ae,af,ag⟩:=yk wM;let⟨v,x,u⟩:=c.5.slice;let⟨ai,aj,ah,ak⟩:=c.XO;refine pK (λL a w=>∃q0 q1 q2 q3 q4 q5 q6 q7 q8 q9 q10,L=#[q0,q1,q2,q3,q4,q5,q6,q7,q8,q9,q10]/\RI W b2 b10 kb n vw xs e d t ta tn tc p q0 q1 q2 q3 q4 q5 q6 q7 q8 q9 q10 a w) ?_ ?_ 11 _ a W aB ⟨pi,pi,pi,pi,pi,pi,pi,pi,pi,pi,pi,R,?_⟩
 .rintro L a w ⟨q0,q1,q2,q3,q4,q5,q6,q7,q8,q9,q10,rfl,h⟩ k;have b:=Re q0 q1 q2 q3 q4 q5 q6 q7 q8 q9 q10 k;let⟨g,r,o,w1,f,i,q,j⟩:=h.15 (h.17 b);rw[j,Zb b];exact O _ _ _ _ _ f i
 .rintro L a w E ⟨q0,q1,q2,q3,q4,q5,q6,q7,q8,q9,q10,rfl,h⟩ s;have hn:=Zg (cU.1 (SO q0 q1 q2 q3 q4 q5 q6 q7 q8 q9 q10) E s);have C:=h.kept c.1 ai aj;have r:=h.kept c.4 ah c.6;obtain⟨Y,G,H,A,j,f,I,J,i⟩:=hn
  match E,Y with
  |0,_=>
   obtain⟨o,D,k,y,z⟩:∃o,nE[0]? =N o/\o.2=.load 93 (sn 2)/\o.1=N 83/\o.6=X:=⟨_,R,R,R,R⟩
   have B:∀b,o.2≠.defer b:=jz
   have hc:=kZ C;unfold iq at hc
   refine jr (v:=pm (N ⟨kb,0,X⟩)) (w':=w) D z B (by
    unfold rj;simp only[k,gN h.2,iq];simp[go_sem,hc]) ?_
   rw[y];exact⟨pw,q1,q2,q3,q4,q5,q6,q7,q8,q9,q10,R,⟨j0,fQ aB h.2,fQ aB h.3,λ_=>zU (d:=83) gw,λe=>fQ aB (h.5 e),λe=>fQ aB (h.6 e),λe=>fQ aB (h.7 e),λe=>fQ aB (h.8 e),λe=>fQ aB (h.9 e),λe=>fQ aB (h.10 e),λe=>fQ aB (h.11 e),λe=>fQ aB (h.12 e),h.13,h.14,λe=>gn,h.16,h.17⟩⟩
  |1,_=>
   obtain⟨o,D,k,y,z⟩:∃o,nE[1]? =N o/\o.2=.load 93 (sn 2)/\o.1=N 84/\o.6=X:=⟨_,R,R,R,R⟩
   have B:∀b,o.2≠.defer b:=jz
   have hc:=kZ C;unfold iq at hc
   refine jr (v:=pm (N ⟨kb,0,X⟩)) (w':=w) D z B (by
    unfold rj;simp only[k,gN h.2,iq];simp[go_sem,hc]) ?_
   rw[y];exact⟨q0,pw,q2,q3,q4,q5,q6,q7,q8,q9,q10,R,⟨j0,fQ aB h.2,fQ aB h.3,λe=>fQ aB (h.4 e),λ_=>zU (d:=84) gw,λe=>fQ aB (h.6 e),λe=>fQ aB (h.7 e),λe=>fQ aB (h.8 e),λe=>fQ aB (h.9 e),λe=>fQ aB (h.10 e),λe=>fQ aB (h.11 e),λe=>fQ aB (h.12 e),h.13,h.14,λe=>gn,h.16,h.17⟩⟩
  |2,_=>
   obtain⟨o,D,k,y,z⟩:∃o,nE[2]? =N o/\o.2=.nilCheck (sn 84)/\o.1=N 85/\o.6=X:=⟨_,R,R,R,R⟩
   have B:∀b,o.2≠.defer b:=jz
   refine jr (v:=pm (N ⟨kb,0,X⟩)) (w':=w) D z B (by
    unfold rj;simp only[k,gN (h.5 (G R)),iq];simp[go_sem]) ?_
   rw[y];exact⟨q0,q1,pw,q3,q4,q5,q6,q7,q8,q9,q10,R,⟨j0,fQ aB h.2,fQ aB h.3,λe=>fQ aB (h.4 e),λe=>fQ aB (h.5 e),λ_=>zU (d:=85) gw,λe=>fQ aB (h.7 e),λe=>fQ aB (h.8 e),λe=>fQ aB (h.9 e),λe=>fQ aB (h.10 e),λe=>fQ aB (h.11 e),λe=>fQ aB (h.12 e),h.13,h.14,λe=>gn,h.16,h.17⟩⟩
  |3,_=>
   obtain⟨o,D,k,y,z⟩:∃o,nE[3]? =N o/\o.2=.fieldAddr 137 (sn 85) 3/\o.1=N 86/\o.6=X:=⟨_,R,R,R,R⟩
   have B:∀b,o.2≠.defer b:=jz
   refine jr (v:=pm (N ⟨kb,10,X⟩)) (w':=w) D z B (by
    unfold rj;simp only[k,gN (h.6 (H R)),iq];simp[go_sem]) ?_
   rw[y];exact⟨q0,q1,q2,pw,q4,q5,q6,q7,q8,q9,q10,R,⟨j0,fQ aB h.2,fQ aB h.3,λe=>fQ aB (h.4 e),λe=>fQ aB (h.5 e),λe=>fQ aB (h.6 e),λ_=>zU (d:=86) gw,λe=>fQ aB (h.8 e),λe=>fQ aB (h.9 e),λe=>fQ aB (h.10 e),λe=>fQ aB (h.11 e),λe=>fQ aB (h.12 e),h.13,h.14,λe=>gn,h.16,h.17⟩⟩
  |4,_=>
   obtain⟨o,K,y,z,B⟩:∃o,nE[4]? =N o/\o.2=.load 135 (sn 86)/\o.1=N 87/\o.6=X:=⟨_,R,R,R,R⟩
   have F:∀k,o.2≠.defer k:=by rw[y];intro k hc;cases hc
   have b:q7=pi:=by
    cases b:q7 with
    |false=>rfl
    |true=>have:=(h.16 b).1;rw[(A R).2]at this;cases this
   have D:w.1[kb]? =N (pj cs 137 (0,0)):=by
    cases q:q6 with
    |false=>rw[h.13 q];exact c.2
    |true=>rw[h.14 q b];exact oy (aU _ _ _ (fO c.2)) c.2
   have hc:Z w ⟨kb,10,X⟩=N (U v n x):=by rw[aG D,c.3,u]
   refine jr (v:=U v n x) (w':=w) K B F (by
    unfold rj;simp only[y,gN (h.7 (A R).1)];simp[go_sem,hc]) ?_
   rw[z];exact⟨q0,q1,q2,q3,pw,q5,q6,q7,q8,q9,q10,R,⟨j0,fQ aB h.2,fQ aB h.3,λe=>fQ aB (h.4 e),λe=>fQ aB (h.5 e),λe=>fQ aB (h.6 e),λe=>fQ aB (h.7 e),λ_=>(by rw[u];exact zU (d:=87) gw),λe=>fQ aB (h.9 e),λe=>fQ aB (h.10 e),λe=>fQ aB (h.11 e),λe=>fQ aB (h.12 e),h.13,h.14,λe=>(by let⟨g,P,q,w1,S,T,r3,r4⟩:=h.15 e;exact⟨g,P,q,w1,S,T,fQ aB r3,r4⟩),λe=>⟨R,(h.16 e).2⟩,h.17⟩⟩
  |5,_=>
   obtain⟨o,T,k,K,P⟩:∃o,nE[5]? =N o/\o.2=.load 150 (sn 10)/\o.1=N 88/\o.6=X:=⟨_,R,R,R,R⟩
   have S:∀b,o.2≠.defer b:=jz
   obtain⟨q,y,z,B,D,_⟩:=gV r
   refine jr (v:=we #[ox pg e,ox pg d,ox pg t,U ta tn tc,ox pg p]) (w':=w) T P S (by
    unfold rj;simp only[k,gN h.3,iq];simp[go_sem,q,y,z,B,D]) ?_
   rw[K];exact⟨q0,q1,q2,q3,q4,pw,q6,q7,q8,q9,q10,R,⟨j0,fQ aB h.2,fQ aB h.3,λe=>fQ aB (h.4 e),λe=>fQ aB (h.5 e),λe=>fQ aB (h.6 e),λe=>fQ aB (h.7 e),λe=>fQ aB (h.8 e),λ_=>zU (d:=88) gw,λe=>fQ aB (h.10 e),λe=>fQ aB (h.11 e),λe=>fQ aB (h.12 e),h.13,h.14,λe=>(by let⟨g,aa,F,w1,r1,r2,r3,r4⟩:=h.15 e;exact⟨g,aa,F,w1,r1,r2,fQ aB r3,r4⟩),h.16,h.17⟩⟩
  |6,_=>
   obtain⟨o,F,y,z,B⟩:∃o,nE[6]? =N o/\o.2=.buildSlice 135 1 #[(0,sn 88)]/\o.1=N 89/\o.6=X:=⟨_,R,R,R,R⟩
   have D:∀k,o.2≠.defer k:=by rw[y];intro k hc;cases hc
   have b:q7=pi:=by
    cases b:q7 with
    |false=>rfl
    |true=>have:=(h.16 b).2;rw[(j R).2]at this;cases this
   have hw:=h.13 (j R).2;subst hw;have q:=h.9 (j R).1;unfold bt at q
   refine jr (v:=U (N ⟨↑w,0,X⟩) 1 1) (w':=o6 w (pj (py (bt e d t ta tn tc p)) 150)) F B D (by
    unfold rj;simp only[y];simp[go_sem,q,bt]) ?_
   rw[z];exact⟨q0,q1,q2,q3,q4,q5,pw,q7,q8,q9,q10,R,⟨j0,fQ aB h.2,fQ aB h.3,λe=>fQ aB (h.4 e),λe=>fQ aB (h.5 e),λe=>fQ aB (h.6 e),λe=>fQ aB (h.7 e),λe=>fQ aB (h.8 e),λe=>fQ aB (h.9 e),λ_=>zU (d:=89) gw,λe=>fQ aB (h.11 e),λe=>fQ aB (h.12 e),λe=>(by cases e),λ_ _=>R,λe=>(by rw[b]at e;cases e),λe=>(by rw[b]at e;cases e),h.17⟩⟩
  |7,_=>
   obtain⟨o,ho,D,P,S⟩:∃o,nE[7]? =N o/\o.2=.call { callee:=.builtin .append,args:=#[sn 87,sn 89],argTypes:=#[135,135] }/\o.1=N 90/\o.6=X:=⟨_,R,R,R,R⟩
   have aa:∀y,o.2≠.defer y:=by rw[D];intro y hc;cases hc
   have hw:=h.14 (f R).2.1 (f R).2.2
   have K:q10=pi:=by
    cases r:q10 with
    |false=>rfl
    |true=>have:=h.17 r;rw[(f R).2.2]at this;cases this
   subst hw;obtain⟨v',w1,s,r1,⟨g,F,z,rfl⟩,r3⟩:=(c.5.fF (pb (aH _ W) fI (pj (py (bt e d t ta tn tc p)) 150))).append (P:=PQ) 135 o.3 i0 _ 56 (uq Zv) V ae af ag (by rfl) aB ⟨↑W,0,X⟩ 1 1 (bt e d t ta tn tc p) aB (by rfl) (by intro k q b;unfold bt at b⊢;match k,b with|0,b=>(simp at b;subst b;simp[sf])|1,b=>(simp at b;subst b;simp[sf])|2,b=>(simp at b;subst b;simp[sf])|3,b=>(simp at b;subst b;simp[sf])|4,b=>(simp at b;subst b;simp[sf])) (by intro k b;unfold bt at b;simp at b;rcases b with rfl|rfl|rfl|rfl|rfl<;>rfl) (by have:=c.7;exact aE) (by have:=c.7;omega)
   have T:jC vw g (o6 W (pj (py (bt e d t ta tn tc p)) 150)) w1:=by
    obtain⟨b,k,q⟩|⟨b,k,q⟩:=r3
    .have B:ov vw=N g:=si b;exact rr ⟨B,by rw[<-B];exact k,q⟩
    .exact rz ⟨by simpa[ov]using b,k,q⟩
   refine jr (v:=U (N ⟨g,F,X⟩) (n+1) z) (w':=w1) ho S aa (by
    unfold rj;simp only[D];simp[resolve,invoke,builtin,gN (h.8 (f R).1),gN (h.10 (f R).2.1),s,Result.andThen]) ?_
   rw[P];exact⟨q0,q1,q2,q3,q4,q5,q6,pw,q8,q9,q10,R,⟨j0,fQ aB h.2,fQ aB h.3,λe=>fQ aB (h.4 e),λe=>fQ aB (h.5 e),λe=>fQ aB (h.6 e),λe=>fQ aB (h.7 e),λe=>fQ aB (h.8 e),λe=>fQ aB (h.9 e),λe=>fQ aB (h.10 e),λe=>fQ aB (h.11 e),λe=>fQ aB (h.12 e),λe=>(by rw[(f R).2.1]at e;cases e),λ_ e=>(by cases e),λ_=>⟨g,F,z,w1,r1,T,zU (d:=90) gw,by rw[Za (by rw[K];simp)]⟩,λ_=>⟨(f R).1,(f R).2.1⟩,λ_=>R⟩⟩
  |8,_=>
   obtain⟨o,D,k,y,z⟩:∃o,nE[8]? =N o/\o.2=.nilCheck (sn 83)/\o.1=N 91/\o.6=X:=⟨_,R,R,R,R⟩
   have B:∀b,o.2≠.defer b:=jz
   refine jr (v:=pm (N ⟨kb,0,X⟩)) (w':=w) D z B (by
    unfold rj;simp only[k,gN (h.4 (I R)),iq];simp[go_sem]) ?_
   rw[y];exact⟨q0,q1,q2,q3,q4,q5,q6,q7,pw,q9,q10,R,⟨j0,fQ aB h.2,fQ aB h.3,λe=>fQ aB (h.4 e),λe=>fQ aB (h.5 e),λe=>fQ aB (h.6 e),λe=>fQ aB (h.7 e),λe=>fQ aB (h.8 e),λe=>fQ aB (h.9 e),λe=>fQ aB (h.10 e),λ_=>zU (d:=91) gw,λe=>fQ aB (h.12 e),h.13,h.14,λe=>gn,h.16,h.17⟩⟩
  |9,_=>
   obtain⟨o,D,k,y,z⟩:∃o,nE[9]? =N o/\o.2=.fieldAddr 137 (sn 91) 3/\o.1=N 92/\o.6=X:=⟨_,R,R,R,R⟩
   have B:∀b,o.2≠.defer b:=jz
   refine jr (v:=pm (N ⟨kb,10,X⟩)) (w':=w) D z B (by
    unfold rj;simp only[k,gN (h.11 (J R)),iq];simp[go_sem]) ?_
   rw[y];exact⟨q0,q1,q2,q3,q4,q5,q6,q7,q8,pw,q10,R,⟨j0,fQ aB h.2,fQ aB h.3,λe=>fQ aB (h.4 e),λe=>fQ aB (h.5 e),λe=>fQ aB (h.6 e),λe=>fQ aB (h.7 e),λe=>fQ aB (h.8 e),λe=>fQ aB (h.9 e),λe=>fQ aB (h.10 e),λe=>fQ aB (h.11 e),λ_=>zU (d:=92) gw,h.13,h.14,λe=>gn,h.16,h.17⟩⟩
  |10,_=>
   obtain⟨o,T,y,K,P⟩:∃o,nE[10]? =N o/\o.2=.store 135 (sn 92) (sn 90)/\o.1=X/\o.6=X:=⟨_,R,R,R,R⟩
   have S:∀b,o.2≠.defer b:=by rw[y];intro b hc;cases hc
   let⟨g,z,k,w1,r1,B,D,F⟩:=h.15 (i R).2.1;rw[Za (by rw[(i R).2.2];simp)]at F;subst F;have q:=B.keep (c.5.fF (pb (aH _ W) fI _)) (oy (aU _ _ _ (fO c.2)) c.2) aB;have hc:Z w ⟨kb,10,X⟩=N (U v n x):=by rw[aG q,c.3,u]
   have hz:=aM q 10
   refine Ee (w':=o3 w ⟨kb,10,X⟩ (U (N ⟨g,z,X⟩) (n+1) k)) T P S (by
    unfold rj;simp only[y,gN (h.12 (i R).1),gN D];simp[go_sem,stored,hc,hz]) ?_
   rw[K];exact⟨q0,q1,q2,q3,q4,q5,q6,q7,q8,q9,pw,R,⟨h.1,h.2,h.3,h.4,h.5,h.6,h.7,h.8,h.9,h.10,h.11,h.12,λe=>(by have:=(h.16 (i R).2.1).2;rw[this]at e;cases e),λ_ e=>(by rw[(i R).2.1]at e;cases e),λ_=>⟨g,z,k,w,r1,B,D,by rw[Zb R]⟩,h.16,λ_=>(i R).2.1⟩⟩
 .exact⟨ab,ad,ac,λe=>(by cases e),λe=>(by cases e),λe=>(by cases e),λe=>(by cases e),λe=>(by cases e),λe=>(by cases e),λe=>(by cases e),λe=>(by cases e),λe=>(by cases e),λ_=>R,λe=>(by cases e),λe=>(by cases e),λe=>(by cases e),λe=>(by cases e)⟩
end
end
open Fr (fG)
open Dv (Zq)
section
variable {kb n nb m k g c d:Nat}{W1 W a w w1:pn}{cs1 cs:Array po}{vw1 vw2 b v vw v9:po}{ws1 ws2 ws:List PW}{bs:List Ba}{Zn B:Nat->Prop}{l0:List Ch}{pre:List (List UInt8)}{nm:AL}{e:List PC}{s:List UInt8}
structure UI(kb n:Nat)(W1:pn)(cs1:Array po)(vw1:po)(ws1:List PW)(bs:List Ba)(W:pn)(vw2:po)(ws2:List PW):Prop where
 obj:W.1[kb]? =N (pj (qb cs1 10 vw2) 137 (0,0))
 row:fM W 150 5 vw2 (M (ws1++ws2)) ((ws1++ws2).flatMap gG)
 txs:∀p∈ws1++ws2,hZ W p.2 p.1.4
 fst:ws2.map p9=qK n bs
 own:∀g,ov vw2=N g->ov vw1=N g\/W1.1.size<=g
 gE:fT (λk=>k=kb\/ov vw1=N k) W1 W
 new:gK ↑W1 ↑W (ws2.map Yd)
def UI.kM(h:UI kb n W1 cs1 vw1 ws1 bs W vw2 ws2)(hc:fT Zn W a)(b:lO Zn W)(d:∀k<W1.1.size,¬Zn k):UI kb n W1 cs1 vw1 ws1 bs a vw2 ws2:=
 ⟨oy (hc.5 _ (fO h.1) (b _ _ _ _ h.1)) h.1,pE h.2 hc b,λp f=>(h.3 p f).gE hc b.str,h.4,h.5,h.6.trans hc (λk c e=>Zl e (d k c)),h.7.mono fI hc.4⟩
def nG(cs:Array po)(i u v):qb (qb cs i u) i v=qb cs i v:=aC
def PS.UE(h:PS kb nb B l0 pre W cs b nm e)(d:a.1[kb]? =N (pj (qb cs 10 v) 137 (0,0)))(hc:fT Zn W a)(c:∀k,Own nb b e k->¬Zn k):PS kb nb B l0 pre a (qb cs 10 v) b nm e:=
 ⟨d,by rw[aQ];simpa using h.2,by rw[aQ];simpa using h.3,h.4.gE hc c,h.5,h.6,h.7⟩
def Chs.Jj(h:Chs w nb b nm e){xs}(c:fM w 150 5 v m xs)(a:ov v=N k):¬Own nb b e k:=by let⟨d,hc⟩:=c.obj a;exact h.iQ hc aB aB
structure TI(kb nb n:Nat)(w:pn)(cs:Array po)(vw:po)(ws:List PW)(pre:List (List UInt8))(W:pn)(v9 vw1:po)(ws1:List PW):Prop where
 obj:W.1[kb]? =N (pj (qb (qb cs 9 v9) 10 vw1) 137 (0,0))
 row:fM W 150 5 vw1 (M (ws++ws1)) ((ws++ws1).flatMap gG)
 txs:∀p∈ws++ws1,hZ W p.2 p.1.4
 fst:ws1.map p9=pre.flatMap (λs=>Dv.reads s n)
 own:∀g,ov vw1=N g->ov vw=N g\/w.1.size<=g
 gE:fT (λk=>k=kb\/k=nb\/ov vw=N k) w W
 nbm:NC W nb
 nbl:nb<↑w
 new:gK ↑w ↑W (ws1.map Yd)
def TI.kM(h:TI kb nb n w cs vw ws pre W v9 vw1 ws1)(hc:fT Zn W a)(b:lO Zn W)(c:∀k<w.1.size,¬Zn k):TI kb nb n w cs vw ws pre a v9 vw1 ws1:=
 ⟨oy (hc.5 _ (fO h.1) (b _ _ _ _ h.1)) h.1,pE h.2 hc b,λp i=>(h.3 p i).gE hc b.str,h.4,h.5,h.6.trans hc (λk g e=>Zl e (c k g)),λd t f e=>h.7 d t f (by rw[<-hc.5 nb (aL h.8 h.6.4) (c nb h.8)];exact e),h.8,h.9.mono fI hc.4⟩
def TI.turn(h:TI kb nb n w cs vw ws pre W v9 vw1 ws1)(hc:fT (λk=>k=kb\/k=nb) W a)(j:EK kb W a)(l:NC a nb):∃o,TI kb nb n w cs vw ws pre a o vw1 ws1:=by
 let⟨v,m⟩:=j _ _ _ h.1
 have f:∀(g:Nat)(c:Array po)(t:Nat)(d:Nat×Nat),W.1[g]? =N (pj c t d)->t≠137->¬(g=kb\/g=nb):=by
  rintro g c t d b e (rfl|rfl)
  .rw[h.1]at b;simp at b;exact e (si b.2.1)
  .exact h.7 _ _ _ b
 refine⟨v,?_,h.2.gE hc (λg b=>?_),λp i=>fM.gE (h.3 p i) hc (λg b=>?_),h.4,h.5,h.6.trans hc (λk _ e=>e.elim rr (λe=>rz (rr e))),l,h.8,h.9.mono fI hc.4⟩
 .rw[m]
  congr 2
  apply dG;intro q;simp only[aQ,eV];split
  .rename_i e;subst e;simp
  .rfl
 .let⟨c,q⟩:=h.2.obj b;exact f g _ _ _ q aB
 .let⟨c,q⟩:=fM.obj (h.3 p i) b;exact f g _ _ _ q aB
def TI.more(h:TI kb nb n w cs vw ws pre W1 v9 vw1 ws1)(a:UI kb n W1 (qb (qb cs 9 v9) 10 vw1) vw1 (ws++ws1) bs W vw2 ws2)(d:qK n bs=Dv.reads s n):TI kb nb n w cs vw ws (pre++[s]) W v9 vw2 (ws1++ws2):=by
 refine⟨by have:=a.1;rw[nG]at this;exact this,by rw[<-cZ];exact a.2,λp i=>a.3 p (by rw[cZ];exact i),?_,λg f=>?_,h.6.trans a.6 (λk l e=>?_),λc t b e=>h.7 c t b ?_,h.8,by rw[aZ];exact h.9.append a.7 h.6.4 a.6.4⟩
 .rw[aZ,h.4,a.4,d,dU];simp
 .obtain q|q:=a.5 g f
  .exact h.5 g q
  .exact rz (aX h.6.4 q)
 .obtain e|e:=e
  .exact rr e
  .obtain q|q:=h.5 k e
   .exact rz (rz q)
   .omega
 .rw[<-a.6.5 nb (aL h.8 h.6.4) ?_]
  .exact e
  .rintro(q|q)
   .have:=h.1;rw[<-q]at this;exact h.7 _ _ _ this
   .let⟨j,r⟩:=h.2.obj q;exact h.7 _ _ _ r
def UI.more(h:UI kb n W1 cs1 vw1 ws1 bs W vw2 ws2){b}(C:b.1<=n){j l}(G:hZ W (U j (M b.4) l) b.4){b10}(L:W1.1.size<=b10)(O:ov vw2≠N b10)(t:∃cs,W.1[b10]? =N (pj cs 150 (0,0)))(u:fT (λk=>k=b10) W a)(F:gK ↑W1 ↑W ((ws2++[(({ b with place:=n }:Ba),U j (M b.4) l)]).map Yd))(x:fM w1 150 5 (U (N ⟨g,c,X⟩) (M (ws1++ws2)+1) d) (M (ws1++ws2)+1) ((ws1++ws2).flatMap gG++gG ({ b with place:=n },U j (M b.4) l))){z:ZG}(w:jC vw2 g (o6 a z) w1):UI kb n W1 cs1 vw1 ws1 (bs++[b]) (o3 w1 ⟨kb,10,X⟩ (U (N ⟨g,c,X⟩) (M (ws1++ws2)+1) d)) (U (N ⟨g,c,X⟩) (M (ws1++ws2)+1) d) (ws2++[({ b with place:=n },U j (M b.4) l)]):=by
 have D:kb≠b10:=by
  rintro rfl;obtain⟨A,s⟩:=t;rw[h.1]at s;simp at s
 have m:fT (λk=>ov vw2=N k\/k=b10) W w1:=((u.mono (λk _ e=>rz e)).trans (fT.alloc (λ_=>False) a z) (λ_ _ e=>e.elim)).trans w.gE (λk _ e=>rr e)
 have q:=oy (m.5 kb (fO h.1) (by
  rintro(e|e)
  .exact fK h.2 h.1 aB e
  .exact D e)) h.1
 have o:=fT.set w1 kb 10 (U (N ⟨g,c,X⟩) (M (ws1++ws2)+1) d)
 have y:∀v r,hZ W v r->hZ (o3 w1 ⟨kb,10,X⟩ (U (N ⟨g,c,X⟩) (M (ws1++ws2)+1) d)) v r:=λv r H=>by
  have J:=H.gE m (λk cs A f e=>by
   obtain e|e:=e
   .exact fK h.2 f aB e
   .obtain⟨K,s⟩:=t;rw[<-e,f]at s;simp at s)
  exact J.gE o (λk cs A f e=>by rw[e,q]at f;simp at f)
 have E:M (ws1++(ws2++[(({ b with place:=n }:Ba),U j (M b.4) l)]))=M (ws1++ws2)+1:=aD
 refine⟨?_,?_,λI i=>?_,?_,λB p=>?_,(h.6.trans m (λk f e=>?_)).trans o (λk _ e=>rr e),F.mono fI (aX m.4 o.4)⟩
 .have:=gI q 10 (U (N ⟨g,c,X⟩) (M (ws1++ws2)+1) d);rw[nG]at this;exact this
 .rw[E,<-cZ,dU];have:=x.gE o (λA s e=>fK x q aB (by rw[s,e]));exact ir
 .rw[<-cZ]at i;obtain i|i:=bV.1 i
  .exact y _ _ (h.3 I i)
  .rw[bT.1 i];exact y _ _ G
 .rw[aZ,h.4,qR,Zb C];rfl
 .have p:g=B:=by simpa[ov]using p
  subst p;obtain s|s:=w.own
  .exact h.5 g s
  .have A:a.1.size+1<=g:=by simpa using s
   have J:=u.4;have K:=h.6.4;exact rz aA
 .obtain e|e:=e
  .obtain s|s:=h.5 k e
   .exact rz s
   .omega
  .omega
end
section
variable {w W b:pn}{v vo vo':po}{kb nb k:Nat}{cs:Array po}{os os':List PC}{l:List Ch}{nm':AL}
def GY:∀(l j x),l[j]? =N x->∀(i u),i<4->(jv x)[i]? =N u->(Fr.flat l)[j*4+i]? =N u
 |[],j,x,h,_,_,_,_=>by simp at h
 |y::l,0,x,h,i,u,hi,hu=>by
  have h:y=x:=jx
  subst h;rw[Fr.flat,bI (by simp[jv];omega)];simpa using hu
 |y::l,j+1,x,h,i,u,hi,hu=>by
  have ih:=GY l j x jx i u hi hu;rw[Fr.flat,bF (by simp[jv];omega)];have:(j+1)*4+i-M (jv y)=j*4+i:=by simp[jv];omega
  rw[this];exact ih
def uK(w:pn)(v:po)(fs:List F):=(v=U X 0 0/\fs=[])\/∃g a b,v=U (N ⟨g,0,X⟩) (M fs) a/\w.1[g]? =N (pj b 81 (0,0))/\M fs<=a/\b.1.take (M fs*4)=Fr.flat fs
def uK.slice{fs}(h:uK w v fs):∃b a,v=.slice b (M fs) a:=by
 obtain⟨e,c⟩|⟨g,a,d,e,_⟩:=h
 .exact⟨X,0,by rw[e,c];rfl⟩
 .exact⟨_,_,e⟩
def uK.at{w v fs}(h:uK w v fs){j x}(a:fs[j]? =N x):∃g b,v=U (N ⟨g,0,X⟩) (M fs) b/\Z w ⟨g,j*4,X⟩=N (ox sr x.1)/\Z w ⟨g,j*4+1,X⟩=N (ox XX x.2)/\Z w ⟨g,j*4+2,X⟩=N (pk ⟨py x.3⟩)/\Z w ⟨g,j*4+3,X⟩=N (.bool x.4):=by
 obtain⟨_,d⟩|⟨g,b,l,e,f,_,k⟩:=h
 .rw[d]at a;simp at a
 .have n:=(aJ.1 a).1;have q:=GY fs j x a
  have hc:∀i u,i<4->(Fr.flat fs)[j*4+i]? =N u->Z w ⟨g,j*4+i,X⟩=N u:=λi u m c=>by
   rw[aG f];rw[<-k,eC aA]at c;exact lr
  exact⟨g,b,e,hc 0 _ aB (q 0 _ aB R),hc 1 _ aB (q 1 _ aB R),hc 2 _ aB (q 2 _ aB R),hc 3 _ aB (q 3 _ aB R)⟩
structure BI(kb nb:Nat)(w:pn)(cs:Array po)(vo:po)(os:List PC)(l:List Ch)(k:Nat)(W:pn)(vo':po)(nm':AL)(os':List PC):Prop where
 obj:W.1[kb]? =N (pj (qb cs 9 vo') 137 (0,0))
 chs:Chs W nb vo' nm' os'
 gE:fT (λk=>k=kb\/Own nb vo os k) w W
 own:∀k,Own nb vo' os' k->Own nb vo os k\/w.1.size<=k
 len:M os'<=M os+k
 fS:fS nm' os'=l
def BI.fF(h:BI kb nb w cs vo os l k W vo' nm' os')(a:Below ↑W W b):BI kb nb w cs vo os l k b vo' nm' os':=
 ⟨oy (a.5 _ (fO h.1)) h.1,h.2.fF a,h.3.trans (.fF a fI _) (λ_ _ e=>e),h.4,h.5,h.6⟩
def BI.took{l'}(h:BI kb nb w cs vo os l k W vo' nm' os'){g c d}(a:wU kb nb (qb cs 9 vo') vo' os' W g c d b)(i:Hm.fS c d=l'):BI kb nb w cs vo os l' (k+1) b g c d:=
 ⟨by have:=a.1;rw[nG]at this;exact this,a.2,h.3.trans a.3 (λq f e=>by
  obtain e|e:=e
  .exact rr e
  .obtain r|r:=h.4 q e
   .exact rz r
   .omega),λq f=>by
  obtain e|e:=a.4 q f
  .exact h.4 q e
  .exact rz (aX h.3.4 e),by have:=a.5;have:=h.5;omega,i⟩
def jc(fs:Nat->List F)(i:Nat):List F:=(IS i).flatMap fs
def ru(fs i):jc fs (i+1)=jc fs i++fs i:=by simp[jc,List.range_succ]
def LH(fs):∀{i m},i<=m->M (jc fs i)<=M (jc fs m):=by
 intro i m h
 induction h with
 |refl=>exact fI
 |step _ ih=>rw[ru,aN];omega
end
open Dv (Zq)
variable {s:List UInt8}{most:Int}{f:F}{n:Nat}{cs:List Ch}
def expired(c:Cf)(n:Nat)(cs:List Ch):cs.filter (λx=>!decide ((x.2:Int)<n-c.3))=cs.filter (λx=>decide ((n:Int)-(x.2:Int)<=c.3)):=by grind
def wL{b:Type}:∀(l:List (List b))(a),(∀j x,l[j]? =N x->a j=x)->(IS (M l)).flatMap a=l.flatten
 |[],_,_=>R
 |x::l,a,h=>by
  have ih:=wL l (λj=>a (j+1)) (λj y c=>h (j+1) y lr);rw[aP,List.range_succ_eq_map,dQ,List.flatMap_map,h 0 x aC,List.flatten_cons]
  congr 1
def EH(c a fs)(b:∀j t,a[j]? =N t->fs j=jQ c t):jc fs (M a)=Dv.heard c a:=by
 unfold jc Dv.heard
 have:=wL (a.map (jQ c)) fs (λj x d=>by
  grind)
 grind
def K7(c u n cs wait fs)(b:∀j t,u.3[j]? =N t->fs j=jQ c t)(a)(d:a=(jc fs (M u.3)).foldl (Dv.frame c.7 n) (cs.filter (λx=>!decide ((x.2:Int)<n-c.3)))):Dv.take c u n cs wait=((Dv.pull a).2,wait++(Dv.pull a).1.flatMap (λs=>Dv.reads s n)):=by
 rw[d,EH c u.3 fs b,expired];rfl
def lH(x l):Dv.size (x::l)=M x.3+Dv.size l:=by simp[Dv.size]
def yt(k):∀l:List F,Dv.size (l.filter (λx=>decide (x.2<k+1)))=Dv.size (l.filter (λx=>decide (x.2<k)))+Dv.size (l.filter (λx=>x.2 == k))
 |[]=>R
 |x::l=>by
  have ih:=yt k l;by_cases a:x.2<k
  .have b:x.2<k+1:=by omega
   have c:(x.2 == k)=pi:=aD
   simp only[cJ,a,b,c,decide_true,if_true,bE,if_false,lH,ih];omega
  .by_cases b:x.2=k
   .have c:(x.2 == k)=pw:=by simp[b]
    have d:x.2<k+1:=aA
    simp only[cJ,a,d,c,decide_true,decide_false,if_true,bE,if_false,lH,ih];omega
   grind
def Mf(k){d}:∀l:List F,Dv.has l k=N d->M d<=Dv.size (l.filter (λx=>x.2 == k))
 |[],h=>by simp[Dv.has]at h
 |x::l,h=>by
  by_cases a:(x.2 == k)=pw
  .unfold Dv.has at h;rw[List.find?_cons_of_pos nj]at h;simp at h;rw[List.filter_cons_of_pos nj,lH,<-h];omega
  .have ih:=Mf k (d:=d) l (by
    unfold Dv.has at h⊢
    grind)
   grind
def Dx(l):∀(k s),kP l k=N s->M s<=Dv.size (l.filter (λx=>decide (x.2<k)))
 |0,s,h=>by
  simp[kP]at h;rw[h];simp
 |k+1,s,h=>by
  rw[kP,qan]at h;obtain⟨d,b,a⟩:=h;rw[aY]at a;obtain⟨e,c,rfl⟩:=a;have f:=Dx l k d b;have g:=Mf k l c;rw[yt,aN];omega
def vg(p):∀l:List F,Dv.size (l.filter p)<=Dv.size l
 |[]=>fI
 |x::l=>by
  have ih:=vg p l;rw[cJ];split
  .rw[lH,lH];omega
  .rw[lH];omega
def Nj{l}(h:Dv.bytes l=N s):M s<=Dv.size l:=by unfold Dv.bytes at h;rw[qan]at h;obtain⟨n,_,h⟩:=h;exact aX (Dx l _ s h) (vg _ l)
def jL(most:Int)(cs:List Ch):=∀c∈cs,(Dv.size c.3:Int)<=most
def uP(a:0<=most){c}(h:(Dv.size c.3:Int)<=most):(Dv.size (Dv.joined most c f).3:Int)<=most:=by
 unfold Dv.joined;split
 .exact h
 .split
  .exact a
  grind
def xZ(a:0<=most)(h:jL most cs):jL most (Dv.frame most n cs f):=by
 intro d hc;unfold Dv.frame at hc;split at hc
 .obtain hc|hc:=bV.1 hc
  .exact h d (dD.1 hc).1
  .rw[bT.1 hc];exact uP a a
 .obtain⟨b,c,rfl⟩:=bB.1 hc;split
  .exact uP a (h b c)
  .exact h b c
def AD{most}(a:0<=most){n}:∀(l:List F){cs},jL most cs->jL most (l.foldl (Dv.frame most n) cs)
 |[],_,h=>h
 |_::l,_,h=>AD a l (xZ a h)
def DB(h:jL most cs)(p):jL most (cs.filter p):=λc hc=>h c (dD.1 hc).1
def ql{most}:∀{cs},jL most cs->(∀s,s∈(Dv.pull cs).1->(M s:Int)<=most)/\jL most (Dv.pull cs).2
 |[],_=>⟨λs a=>by simp[Dv.pull]at a,λc hc=>by simp[Dv.pull]at hc⟩
 |c::cs,h=>by
  have ih:=ql (cs:=cs) (λx a=>h x (bK _ a));rw[Dv.pull];split
  .grind
  .rename_i s b;refine⟨λt a=>?_,ih.2⟩;obtain rfl|a:=bM.1 a
   .have:=Nj b;have:=h c bY;omega
   .exact ih.1 t a
open Dv (Zq)
section
variable {i:Nat}{b:Ba}{x:PB}{v:po}{ws':List PW}
theorem vL{l}(h:jA l n=N b):b.5=n:=by
 unfold jA at h
 grind
def Ak{i}(h:kN i n=N b):b.5=n:=by
 unfold kN at h;split at h
 .cases h
 .split at h
  .cases h
  .split at h
   .rw[qan]at h;obtain⟨l,_,h⟩:=h;exact vL h
   .cases h
def EP:∀(f s n b),b∈Dv.rd f s n->b.1<=n/\b.5=n
 |0,s,n,b,h=>by simp[Dv.rd]at h
 |f+1,s,n,b,h=>by
  rw[Dv.rd]at h;split at h
  .simp at h
  .split at h
   .simp at h
   .split at h
    .simp at h
    .rename_i x a;obtain h|h:=bV.1 h
     .split at h
      .rw[bT.1 h];exact⟨‹_›,Ak a⟩
      .simp at h
     .exact EP f _ n b h
def xS{c u cs wait}(h:b∈(Dv.take c u n cs wait).2):b∈wait\/(b.1<=n/\b.5=n):=by
 unfold Dv.take at h;simp only at h;obtain h|h:=bV.1 h
 .exact rr h
 .obtain⟨s,_,a⟩:=Ys.1 h;exact rz (EP _ _ _ _ a)
structure RM(c:Cf)(chain:List Zq)(j:Nat)(us:List PB)(dl:Nat->List (List UInt8))(s:oY)(cs:List Ch)(log:List Lo):Prop where
 len:M us=j
 id:∀i<j,AG us i=(chain[i]!).1
 time:∀i<j,vK us i=(chain[i]!).2
 deps:∀i<j,dl i=fV (chain[i]!)
 chs:cs=(Dv.gone c chain j).1
 wait:s.1.map p9=(Dv.gone c chain j).2
 ws:∀p∈s.1,p.1.1<j/\p.1.5<=4294967296
 zero:j=0->log=[]/\s.2=0/\s.3=0/\s.4=0
 some:0<j->log=(Dv.gone c chain j).3/\Hs c us (wm log default) s/\s.3<j/\s.4<=s.2
def RM.start(c chain dl):RM c chain 0 [] dl ⟨[],0,0,0⟩ [] []:=
 ⟨R,λi h=>aA,λi h=>aA,λi h=>aA,R,R,λp h=>by simp at h,λ_=>⟨R,R,R,R⟩,λh=>aA⟩
section
variable {c:Cf}{chain:List Zq}{j:Nat}{us:List PB}{dl:Nat->List (List UInt8)}{s:oY}{cs:List Ch}{log:List Lo}
def QH{us}(h:i<M us):AG (us++[x]) i=AG us i:=by
 unfold AG
 grind
def Pu{us}(h:i<M us):vK (us++[x]) i=vK us i:=by
 unfold vK
 grind
def Rt{us}:AG (us++[x]) (M us)=x.1:=by unfold AG;simp
def Q9{us}:vK (us++[x]) (M us)=x.2.1:=by unfold vK;simp
structure RT(c:Cf)(chain:List Zq)(j:Nat)(us:List PB)(dl:Nat->List (List UInt8))(s:oY)(cs:List Ch)(log:List Lo):Prop where
 lk:Lk chain us dl
 len:M us=j+1
 take:(cs,s.1.map p9)=Dv.take c (chain[j]!) j (Dv.gone c chain j).1 (Dv.gone c chain j).2
 ws:∀p∈s.1,p.1.1<M us/\p.1.5<=4294967296
 zero:j=0->log=[]/\s.2=0/\s.3=0/\s.4=0
 some:0<j->log=(Dv.gone c chain j).3/\Hs c us (wm log default) s/\s.3<M us/\s.4<=s.2
def RM.took(h:RM c chain j us dl s cs log)(o:j<M chain)(r:j<=60){cs'}(d:(cs',ws'.map p9)=Dv.take c (chain[j]!) j cs (s.1.map p9)):
  RT c chain j (us++[((chain[j]!).1,(chain[j]!).2,v)]) (λi=>if i=M us then fV (chain[j]!)else dl i) ⟨ws',s.2,s.3,s.4⟩ cs' log:=by
 have b:=h.1;have g:M (us++[((chain[j]!).1,(chain[j]!).2,v)])=j+1:=by simp[b]
 rw[h.5,h.6]at d;refine⟨⟨aA,aA,λi f=>?_,λi f=>?_,λi f=>?_⟩,g,d,λp m=>?_,λe=>h.8 e,λe=>?_⟩
 .by_cases e:i=M us
  .rw[e,Rt,b]
  .rw[QH aA];exact h.2 i aA
 .by_cases e:i=M us
  .rw[e,Q9,b]
  .rw[Pu aA];exact h.3 i aA
 .by_cases e:i=M us
  .rw[Zb e,e,b]
  .rw[Za e];exact h.4 i aA
 .have a:p.1∈(Dv.take c (chain[j]!) j (Dv.gone c chain j).1 (Dv.gone c chain j).2).2:=by
   rw[<-d];exact bB.2 ⟨p,m,R⟩
  rw[g];obtain q|⟨n,t⟩:=xS a
  .rw[<-h.6]at q;let⟨l,k,e⟩:=bB.1 q;have:=h.7 l k
   grind
  .omega
 .let⟨k,a,n,l⟩:=h.9 e;refine⟨k,⟨a.1,oy a.2 ?_,a.3,a.4⟩,by show s.3<_;omega,l⟩;unfold ji
  grind
theorem RT.fit(h:RT c chain j us dl s cs log)(hc:gB chain=pw)(l:fR c=pw)(b:j<M chain)(o:0<j):∃T,T<4294967296/\Ok c chain us T (wm log default) s:=by
 let⟨g,a,i,k⟩:=h.6 o;have p:=(gJ hc).2.1;have hF:=lV hc l j aA;have f:=Dv.take_len c _ j (Dv.gone c chain j).1 (Dv.gone c chain j).2 (jq chain X (gJ hc).2.2.1 j b);rw[<-h.3]at f;simp only[aV]at f;have d:=hF.5;unfold Dv.much at d;have q:=mT hc (i:=j-1) (j:=j) aA b;have e:=hF.4;have n:=hF.2;rw[<-g]at d e n
 have m:s.2=M log:=by
  rw[<-e];exact si a.1
 refine⟨_,?_,a,i,h.4,fI,k⟩;unfold Dv.left;rw[h.2,m,aV]
 grind
def RT.good(h:RT c chain j us dl s cs log)(hc:gB chain=pw)(b:fR c=pw)(g:j<M chain):Good c us s:=by
 obtain a|a:=dL j
 .obtain⟨_,d,e,f⟩:=h.5 a
  have k:s=⟨s.1,0,0,0⟩:=by
   cases s;simp only at d e f;subst d e f;rfl
  rw[k];have i:=Dv.take_len c _ j (Dv.gone c chain j).1 (Dv.gone c chain j).2 (jq chain X (gJ hc).2.2.1 j g);rw[<-h.3,a]at i;simp only[Dv.gone,Dv.start,aV,bH]at i;exact F8 h.1 hc b (by rw[h.2,a]) aA h.4
 .let⟨T,d,o⟩:=h.fit hc b g a;exact P7 h.1 hc b d o
def RT.drawn(h:RT c chain j us dl s cs log)(hc:gB chain=pw)(m:fR c=pw)(E:j<M chain){pre}(hp:DS c us s pre):RM c chain (j+1) us dl ⟨(fU c us (fW s pre).1 (fW s pre).2 (fW s pre).3).2,(fW s pre).2,(fW s pre).3,(fW s pre).4⟩ cs (log++pre.map (mB c us dl)):=by
 have z:=h.2;have D:cs=(Dv.take c (chain[j]!) j (Dv.gone c chain j).1 (Dv.gone c chain j).2).1:=by rw[<-h.3]
 have G:s.1.map p9=(Dv.take c (chain[j]!) j (Dv.gone c chain j).1 (Dv.gone c chain j).2).2:=by rw[<-h.3]
 have A:∀(a:Lo)(k:oY)(r:List DX)(T:Nat),Ok c chain us T a k->k.1=s.1->wm (Dv.gone c chain j).3 default=a->(Dv.gone c chain j).3≠[]->rH c us k r->fW k r=fW s pre->log++pre.map (mB c us dl)=(Dv.gone c chain j).3++r.map (mB c us dl)->
   RM c chain (j+1) us dl ⟨(fU c us (fW s pre).1 (fW s pre).2 (fW s pre).3).2,(fW s pre).2,(fW s pre).3,(fW s pre).4⟩ cs (log++pre.map (mB c us dl)):=by
  intro a k r T o e d l v t u;have g:=hp.2;rw[<-t]at g;have f:=Steps.draws h.1 hc m v o g;let⟨P,b,H⟩:=v.ok h.1 hc m o;rw[t]at b f;rw[z]at f;simp only[Nat.add_sub_cancel]at f;rw[e,G]at f
  have q:Dv.gone c chain (j+1)=⟨(Dv.take c (chain[j]!) j (Dv.gone c chain j).1 (Dv.gone c chain j).2).1,(fU c us (fW s pre).1 (fW s pre).2 (fW s pre).3).2.map p9,(Dv.gone c chain j).3++r.map (mB c us dl)⟩:=by
   rw[Dv.gone,Dv.step,d,f]
  refine⟨z,λi y=>h.1.3 i aA,λi y=>h.1.4 i aA,λi y=>h.1.5 i aA,by rw[q];exact D,by rw[q],λB hp=>?_,λQ=>aA,λ_=>⟨by rw[q];exact u,?_,by have:=b.2;grind,b.5⟩⟩
  .have:=b.3 B (oQ B hp);omega
  .have n:wm (log++pre.map (mB c us dl)) default=P:=by
    rw[u,oW _ _ l,d,H]
   rw[n];exact⟨b.1.1,b.1.2,b.1.3,b.1.4⟩
 obtain a|a:=dL j
 .let⟨C,e,d,l⟩:=h.5 a
  have F:s=⟨s.1,0,0,0⟩:=by
   cases s;simp only at e d l;subst e d l;rfl
  have n:M us=1:=aA
  have w:=hp.1.Qu;rw[F]at w;obtain rfl|⟨x,r,rfl,I,J,K,L,O⟩:=wT n w
  .exfalso;have g:=hp.2;have p:fW s []=s:=R;rw[p,e,d,yC n]at g;cases g
  .have p:(Dv.gone c chain j).3=[Dv.first (chain[0]!)]:=by rw[a];rfl
   refine A _ _ r _ (yN h.1 n h.4) R (by rw[p];rfl) (by rw[p];simp) O ?_ ?_
   .unfold fW
    grind
   .rw[C,p,cL,Gt h.1 n I J K L];rfl
 .let⟨T,w,o⟩:=h.fit hc m E a;obtain⟨n,_⟩:=h.6 a;have p:=(lV hc m j aA).1;exact A _ s pre T o R (by rw[n]) p hp.1.Qu R (by rw[<-n])
end
end
def Ml(s:ByteArray)(w)(r:ot s<=8)(f:Im.val s.1.1 0<4611686018427387904):tf PQ 96 #[pk s,ox pg 0,ox pg (ot s)] w λi k=>i=qs (ox pg (Im.val s.1.1 0:Nat))/\k=w:=by
 have h:qu _:=f;clear f;go_enter (fq func96 R),ntmps96;go_wp2;go_loopg [7,8] (ot s) (λg v a b=>∃j:Nat,j<=ot s/\a=ox pg (j:Int)/\v=ox pg (Im.val (s.1.1.take j) 0:Nat)/\g=ot s-j/\b=w)
 case atStart=>exact⟨0,bU _,R,R,R,R⟩
 case round=>
  obtain⟨j,p,rfl,rfl,rfl,rfl⟩:=hrel;by_cases a:j<ot s
  .have q:(j:Int)<(ot s:Int):=by omega
   have b:=rL s.1.1 j (by rw[<-aW];exact a)
   have hc:pf (s.1.1.getD j 0)=pf s[j]:=by
    rw[aT,aK (by rw[<-aW];exact a)];rfl
   have o:Im.val (s.1.1.take (j+1)) 0<4611686018427387904:=by
    by_cases l:j+1=ot s
    .rw[cK gv];exact h
    .have c:=lX (s.1.1.take (j+1)) 0;have g:(256:Nat) ^ M (s.1.1.take (j+1))<=256 ^ 7:=eE aB aD;omega
   rw[hc]at b;have t:=λu=>Fr.kL u s (j:Int) j a R;have n:=s[j].toNat_lt;generalize pf s[j]=c at *;generalize e:Im.val (s.1.1.take (j+1)) 0=V at *;have d:qu _:=fE e b;generalize Im.val (s.1.1.take j) 0=Zq at *;have m:256*Zq+c<4611686018427387904:=aA
   clear e b hc;go_wp2;go_roundg (ot s-(j+1))
   case measure=>omega
   case rel=>
    have c:=d.2;exact⟨_,aA,by go_num,by rw[d.out.1];grind,R,R⟩
  .obtain rfl:j=ot s:=by omega
   have b:¬(ot s:Int)<(ot s:Int):=aA
   rw[cK aC];go_wp2;go_ret;exact⟨R,R⟩
def rA(i t w)(C:∃a n b,t=U a n b):tf PQ 145 #[we #[.bool i.1,pk ⟨py i.2⟩,t]] w λk K=>k=qs (Pf (Dv.value i))/\Below w.1.size w K:=by
 obtain⟨z,I,A,rfl⟩:=C;obtain⟨D,f⟩:∃D:ByteArray,(⟨py i.2⟩:ByteArray)=D:=⟨_,R⟩
 have b:D.1.1=i.2:=by rw[<-f]
 have n:ot D=M i.2:=mz
 rw[f];obtain⟨p,d⟩:∃p,Dv.value i=p:=⟨_,R⟩
 rw[d];obtain⟨a,j⟩:∃a,i.1=a:=⟨_,R⟩
 rw[j];obtain⟨W,c,o,-⟩:=fL w #[.bool a,pk D,U z I A] 103;have T:Z W ⟨↑w,0,X⟩=N (.bool a):=lm
 have V:Z W ⟨↑w,1,X⟩=N (pk D):=lm
 have H:qu _:=fE b (fE n (fE d (fE j o)));have s:=Fr.gH D;by_cases e:a=pw\/8<ot D\/(0<ot D/\i.2.getD 0 0=0)
 .have r:p=X:=by
   rw[<-d];refine rN ?_;obtain h|h|⟨h,m⟩:=e
   .grind
   .omega
   .grind
  subst r
  have q:a=pw\/(a=pi/\(8:Int)<(ot D:Int))\/(a=pi/\¬(8:Int)<(ot D:Int)/\tk D.toList=pi/\∃g:0<ot D,((pf (D[0]'g):Int) == 0)=pw):=by
   obtain h|h|⟨h,m⟩:=e
   .exact rr h
   .grind
   .cases a
    .by_cases l:8<ot D
     .grind
     .refine rz (rz ⟨R,aA,by grind,h,?_⟩)
      have:D[0]'h=0:=by
       rw[<-m,<-b,aT,aK (by grind)];rfl
      rw[this];rfl
    .exact rr R
  clear f b n d j o e s;obtain rfl|⟨rfl,l⟩|⟨rfl,l,u,g,v⟩:=q
  all_goals
   go_enter (fq func145 R),ntmps145;go_upto_region 1 with fail;rw[<-c];clear c;go_wp2;go_ret2;exact⟨R,H.2.2.2.2⟩
 .have v:a=pi:=by
   cases a
   .rfl
   .grind
  have P:¬8<ot D:=λk=>e (rz (rr k));have Q:¬(8:Int)<(ot D:Int):=aA
  have h:=xJ (oy j v) aA (by
   grind)
  have l:=A5 i.2 aA;rw[d]at h;subst v
  have r:(tk D.toList=pw/\ot D=0)\/(tk D.toList=pi/\∃m:0<ot D,((pf (D[0]'m):Int) == 0)=pi/\pf (D[0]'m)=pf (i.2.getD 0 0)):=by
   by_cases m:0<ot D
   .have q:D[0]'m=i.2.getD 0 0:=by
     rw[<-b,aT,aK (by grind)];rfl
    refine rz ⟨by grind,m,Zc (λk=>e (rz (rz ⟨m,?_⟩))),by rw[q]⟩;rw[<-q];exact fC.1 (by grind)
   .grind
  by_cases g:4611686018427387903<Im.val i.2 0
  .rw[Zb g]at h;rw[Ze g]at l;subst h;have q:=si l;simp only[bN,Zk,Zh]at q;have y:((ot D:Int) == 8)=pw:=by rw[Zk];omega
   obtain⟨u,m⟩|⟨u,m,E,x⟩:=r
   .omega
   .have B:(64:Int)<=(pf (D[0]'m):Int):=by omega
    clear f b n d j o e s l q x g;go_enter (fq func145 R),ntmps145;go_upto_region 1 with fail;rw[<-c];clear c;go_wp2;go_ret2;exact⟨R,H.2.2.2.2⟩
  .rw[Za g]at h;rw[Zd g]at l;have q:=λJ=>Ml D J aA (by rw[b];omega);rw[b]at q;have x:qu _:=q;have y:qu _:=h
   have F:(tk D.toList=pw/\((ot D:Int) == 8)=pi)\/(tk D.toList=pi/\∃m:0<ot D,((pf (D[0]'m):Int) == 0)=pi/\(((ot D:Int) == 8)=pi\/(((ot D:Int) == 8)=pw/\¬(64:Int)<=(pf (D[0]'m):Int)))):=by
    obtain⟨B,O⟩|⟨B,m,G,S⟩:=r
    .grind
    .grind
   clear f b n d j o e s l g q h r;obtain⟨E,u⟩|⟨E,m,G,u|⟨u,L⟩⟩:=F
   all_goals
    go_enter (fq func145 R),ntmps145;go_upto_region 1 with fail;rw[<-c];clear c;go_wp2_with (go_at_call 96;refine aO (x _) ?_;rintro k w2 ⟨rfl,rfl⟩)
    go_ret2;refine⟨?_,H.2.2.2.2⟩;rw[y.out];rfl
variable {l:It}
def CM(h:l.1=pi\/M l.3≠4)(n):jA l n=X:=by
 obtain⟨b,c,a⟩:=l;cases b
 .rfl
 .match a,h with
  |[],_=>rfl
  |[_],_=>rfl
  |[_,_],_=>rfl
  |[_,_,_],_=>rfl
  |[_,_,_,_],h=>simp at h
  |_::_::_::_::_::_,_=>rfl
def TK(x y z:Option Nat)(d:It)(n:Nat):Option Ba:=if te x&&te y&&(te z&&d.3.all (λt=>!t.1))then N ⟨Ym x 0,Ym y 0,Ym z 0,d.3.map (·.2),n⟩else X
def xP{a b c d}(f:l.1=pw)(e:l.3=[a,b,c,d])(n):jA l n=if d.1=pi then X else TK (Dv.value a) (Dv.value b) (Dv.value c) d n:=by
 obtain⟨i,g,h⟩:=l;dsimp only at f e;subst f e;unfold jA TK;dsimp only;split
 .rfl
 .cases Dv.value a<;>cases Dv.value b<;>cases Dv.value c<;>simp
def Xg(w:pn)(d:Nat)(e:Ending):Option Ba->Prop
 |none=>∃(x y z t:Int)(a:Option zm)(n b:Nat),e=qs (sh #[we #[ox pg x,ox pg y,ox pg z,U a n b,ox pg t],rh pi])
 |some b=>∃a c,e=qs (sh #[C0 b (U a (M b.4) c),rh pw])/\jk w d (U a (M b.4) c) b.4
def Cn(i c2)(n:Nat)(w)(cx:∃a n b,c2=U a n b)(hs:M i.2<=65536):tf PQ 101 #[we #[.bool i.1,pk ⟨py i.2⟩,c2],ox pg n] w λe w'=>Xg w' w.1.size e (kN i n)/\Below w.1.size w w':=by
 obtain⟨ia,ik,ic,rfl⟩:=cx;obtain⟨D,hD⟩:∃D:ByteArray,(⟨py i.2⟩:ByteArray)=D:=⟨_,R⟩
 have ae:D.1.1=i.2:=by rw[<-hD]
 have ax:ot D=M i.2:=by rw[<-hD];rfl
 rw[hD];obtain⟨Q,b⟩:∃Q,kN i n=Q:=⟨_,R⟩
 rw[b];unfold kN at b;obtain⟨v,a4⟩:∃cv,i.1=cv:=⟨_,R⟩
 rw[a4]at b⊢;obtain⟨W,u⟩:∃W,W=o6 (o6 w (pj #[.bool v,pk D,U ia ik ic] 103)) (pj #[ox pg 0,ox pg 0,ox pg 0,U X 0 0,ox pg 0] 127):=⟨_,R⟩
 have s:Below ↑w w W:=by rw[u];exact pb (pb (aH _ w) fI _) aC _
 have cw:↑W=w.1.size+2:=by rw[u];simp
 have aq:W.1[w.1.size+1]? =N (pj #[ox pg 0,ox pg 0,ox pg 0,U X 0 0,ox pg 0] 127 (0,0)):=by
  have:=sv (o6 w (pj #[.bool v,pk D,U ia ik ic] 103)) (pj #[ox pg 0,ox pg 0,ox pg 0,U X 0 0,ox pg 0] 127);rw[u];exact ir
 have z0:Z W ⟨↑w,0,X⟩=N (.bool v):=by rw[u];simp
 have z1:Z W ⟨↑w,1,X⟩=N (pk D):=by rw[u];simp
 let⟨r0,r1,r2,r3,r4,rf⟩:=gV aq;by_cases F:v=pw\/ot D=0\/i.2.getD 0 0≠0
 .have f:X=Q:=by
   rw[<-b];cases v
   .obtain h|h|h:=F
    .cases h
    .have:i.2=[]:=bC aA;rw[this];rfl
    .cases g:i.2 with
     |nil=>rfl
     |cons x r=>
      rw[g]at h;have:¬x=0:=h;simp[this]
   .rfl
  subst f
  have j:v=pw\/(v=pi/\(ot D:Int)<1)\/(v=pi/\¬(ot D:Int)<1/\∃a:0<ot D,((pf (D[0]'a):Int) == 0)=pi):=by
   cases v
   .by_cases a:0<ot D
    .obtain h|h|h:=F
     .cases h
     .omega
     .refine rz (rz ⟨R,aA,a,Zc (λe=>h ?_)⟩)
      have c:D[0]'a=i.2.getD 0 0:=by
       rw[<-ae,aT,aK (by rw[<-aW];exact a)];rfl
      rw[<-c];exact fC.1 (by have:pf (D[0]'a)=0:=aA;rw[this];rfl)
    .exact rz (rr ⟨R,aA⟩)
   .exact rr R
  have H:qu _:=s;clear s aq hD ae ax hs cw a4 b F;obtain rfl|⟨rfl,d⟩|⟨rfl,d,a,c⟩:=j
  all_goals
   go_enter (fq func101 R),ntmps101;go_upto_region 1 with fail;rw[<-u];clear u;go_wp2;exact sd (v:=.tuple _) (by simp[results,ZZ,go_sem,r0,r1,r2,r3,r4]) R ⟨⟨0,0,0,0,X,0,0,R⟩,iL H (Yo _) _ _ _ _ _⟩
 .have cz:v=pi:=by
   cases v
   .rfl
   .exact Zl (rr R) F
  subst cz;have h0:0<ot D:=Nat.pos_of_ne_zero (λe=>F (rz (rr e)));have ao:i.2.getD 0 0=0:=dO (λe=>F (rz (rz e)))
  obtain⟨J,an⟩:∃J,i.2=0::J:=by
   cases a:i.2 with
   |nil=>rw[a,bH]at ax;omega
   |cons x J=>
    rw[a]at ao;exact⟨J,by rw[show x=0 from ao]⟩
  rw[an]at b;replace b:(Im.dec J).bind (λl=>jA l n)=Q:=by simpa using b
  have et:¬(ot D:Int)<1:=aA
  have ex:((pf (D[0]'h0):Int) == 0)=pw:=by
   have a:D[0]'h0=0:=by
    rw[<-ao,<-ae,aT,aK (by rw[<-aW];exact h0)];rfl
   rw[a];rfl
  obtain⟨aj,hS⟩:∃aj:ByteArray,D.extract 1 (ot D)=aj:=⟨_,R⟩
  have ak:aj.1.1=J:=by
   rw[<-hS,Fr.ext_list,aW,eD,ae,an];rfl
  have bd:ot aj<=65536:=by
   rw[aW,ak];rw[an]at hs;simp at hs;omega
  have P:=uQ aj W aA;rw[ak]at P;have h1:(1:Int)<=(ot D:Int):=aA
  have bv:∀V,Below ↑W W V->V.1[w.1.size+1]? =N (pj #[ox pg 0,ox pg 0,ox pg 0,U X 0 0,ox pg 0] 127 (0,0)):=λV hV=>oy (hV.5 _ aA) aq;have bz:qu _:=bv;cases hd:Im.dec J with
  |none=>
   rw[hd]at P b;have f:X=Q:=b;subst f;have d:qu _:=λ(_:Unit)=>P;have H:qu _:=s;clear s aq hD ae ax an hs P b hd ak bd bv a4 F ao;go_enter (fq func101 R),ntmps101;go_upto_region 1 with fail;rw[<-u];clear u;go_wp2_with (first|(go_at_call 60;refine aO (d ()) ?_;rintro e w2 ⟨c,a⟩;unfold pP at c;subst c;let⟨g,j,k,m,o,p⟩:=gV (bz _ (pb a a.4 (pj #[rh pi,pk ⟨#[]⟩,U X 0 0] 103))))|fail)
   exact sd (v:=.tuple _) (by simp[results,ZZ,go_sem,g,j,k,m,o]) R ⟨⟨0,0,0,0,X,0,0,R⟩,iL (ow H (o5 (pb a a.4 _) H.4)) (Yo _) _ _ _ _ _⟩
  |some l=>
   rw[hd]at P b;have c:jA l n=Q:=b;have S:=λk hk=>BH (k:=k) hd hk;have ag:M J<=65536:=by rw[<-ak,<-aW];exact bd
   obtain⟨D2,ad⟩:∃D:ByteArray,(⟨py l.2⟩:ByteArray)=D:=⟨_,R⟩
   obtain⟨B,G⟩:∃B,l.1=B:=⟨_,R⟩
   obtain⟨nk,I⟩:∃nk,M l.3=nk:=⟨_,R⟩
   have cp:qu _:=λ(_:Unit)=>P;have H:qu _:=fE s (fE ad (fE G (fE I (fE c (fE S ag)))));clear s aq hD ae ax an hs P b c hd ak bd bv S ag ad G I a4 F ao;go_enter (fq func101 R),ntmps101;go_upto_region 1 with fail;rw[<-u];clear u;go_upto_region 4 with(first|(go_at_call 60;refine aO (cp ()) ?_;rintro e w2 ⟨he,r⟩;obtain⟨cu,b3,he,ht⟩:=he;rw[H.out.2.1,H.out.2.2.1,H.out.2.2.2.1]at he;subst he;have HT:qu (Tr _ _ _ _ _ _ _ _):=ht;clear ht)|fail)
   let⟨V,hV,O,q⟩:=fL w2 #[.bool B,pk D2,U cu nk b3] 103;rw[<-hV];let⟨s,ad,G,I,c,S,ag⟩:=H.out;have am:=ow r (o5 O r.4);have ar:=bz V am;have af:=ow s (o5 am s.4);have a8:=(fO q)
   let⟨q0,q1,q2,q3,q4,qf⟩:=gV ar;by_cases o:B=pi\/nk≠4
   .have d:X=Q:=by rw[<-c,CM (by rw[G,I];exact o)]
    subst d
    have hk:B=pi\/(B=pw/\((nk:Int) != 4)=pw):=by
     cases B
     .exact rr R
     .exact rz ⟨R,bne_iff_ne.2 (by rcases o with h|h<;>first|cases h|omega)⟩
    let⟨g,j,m⟩:=iY q;have a:qu _:=af;clear hV O q s ad G I c S ag o am r H HT r0 r1 r2 r3 r4 rf z0 z1 ar af;obtain rfl|⟨rfl,f⟩:=hk
    all_goals
     go_wp2;exact sd (v:=.tuple _) (by simp[results,ZZ,go_sem,q0,q1,q2,q3,q4]) R ⟨⟨0,0,0,0,X,0,0,R⟩,iL a (Yo _) _ _ _ _ _⟩
   .obtain rfl:nk=4:=dO (λe=>o (rz e))
    have bq:B=pw:=by
     cases B
     .exact Zl (rr R) o
     .rfl
    subst bq;let⟨k0,k1,k2,d,ap⟩:=Ip I;rw[xP G ap]at c
    have bl:M d.3<=131072:=by
     have:=S d (by rw[ap];simp);omega
    have bj:=In.fF O _ _ _ _ _ (Tr.inn 10 _ _ _ _ _ _ fI HT);obtain⟨g,p,rfl,hg,⟨a0,m0,p0,K0⟩,⟨a1,m1,p1,K1⟩,⟨a2,m2,p2,K2⟩,a3,p3,ac,I3⟩:=In.four bj ap;have m:=aL hg O.4;obtain⟨l0,bm⟩:∃x,k0.1=x:=⟨_,R⟩
    obtain⟨l1,bo⟩:∃x,k1.1=x:=⟨_,R⟩
    obtain⟨l2,bp⟩:∃x,k2.1=x:=⟨_,R⟩
    obtain⟨l3,a5⟩:∃x,d.1=x:=⟨_,R⟩
    obtain⟨S0,ba⟩:∃x:ByteArray,(⟨py k0.2⟩:ByteArray)=x:=⟨_,R⟩
    obtain⟨S1,bb⟩:∃x:ByteArray,(⟨py k1.2⟩:ByteArray)=x:=⟨_,R⟩
    obtain⟨S2,bc⟩:∃x:ByteArray,(⟨py k2.2⟩:ByteArray)=x:=⟨_,R⟩
    obtain⟨S3,b5⟩:∃x:ByteArray,(⟨py d.2⟩:ByteArray)=x:=⟨_,R⟩
    obtain⟨z,T⟩:∃x,M d.3=x:=⟨_,R⟩
    have Y:=λa=>rA k0 (U a0 m0 p0) a ⟨_,_,_,R⟩;have aa:=λa=>rA k1 (U a1 m1 p1) a ⟨_,_,_,R⟩;have ab:=λa=>rA k2 (U a2 m2 p2) a ⟨_,_,_,R⟩;rw[bm,ba]at Y K0;rw[bo,bb]at aa K1;rw[bp,bc]at ab K2;rw[a5,b5,T]at ac;have a9:=In.mono O.4 _ _ _ _ _ I3;rw[a5]at c
    have hK:∀a,Below ↑V V a->Z a ⟨↑w2,0,X⟩=N (rh pw)/\Z a ⟨↑w2,2,X⟩=N (U (N ⟨g,p,X⟩) 4 b3)/\Z a ⟨g,p,X⟩=N (.bool l0)/\Z a ⟨g,p+1,X⟩=N (pk S0)/\Z a ⟨g,p+2,X⟩=N (U a0 m0 p0)/\Z a ⟨g,p+3,X⟩=N (.bool l1)/\Z a ⟨g,p+4,X⟩=N (pk S1)/\Z a ⟨g,p+5,X⟩=N (U a1 m1 p1)/\Z a ⟨g,p+6,X⟩=N (.bool l2)/\Z a ⟨g,p+7,X⟩=N (pk S2)/\Z a ⟨g,p+8,X⟩=N (U a2 m2 p2)/\Z a ⟨g,p+9,X⟩=N (.bool l3)/\Z a ⟨g,p+10,X⟩=N (pk S3)/\Z a ⟨g,p+11,X⟩=N (U a3 z p3):=λa j=>
     ⟨oy (qi j (p:=⟨↑w2,0,X⟩) a8) (by rw[aG q];rfl),oy (qi j (p:=⟨↑w2,2,X⟩) a8) (by rw[aG q];rfl),(K0.fF j m).1,(K0.fF j m).2.1,(K0.fF j m).2.2,(K1.fF j m).1,(K1.fF j m).2.1,(K1.fF j m).2.2,(K2.fF j m).1,(K2.fF j m).2.1,(K2.fF j m).2.2,(ac.fF j m).1,(ac.fF j m).2.1,(ac.fF j m).2.2⟩
    have HK:qu _:=hK;let⟨c6,x2,da,df,dj,dn,dt,dx,d1,d6,ea,ee,ei,em⟩:=hK V (aH _ _);cases l3
    .rw[Zb R]at c;subst c;have f:qu _:=af;clear hV O q s ad G I ap bl S ag o bj hg m a8 K0 K1 K2 ac I3 a9 Y aa ab bm bo bp a5 ba bb bc b5 T hK am r H HT r0 r1 r2 r3 r4 rf z0 z1 ar af;go_wp2;exact sd (v:=.tuple _) (by simp[results,ZZ,go_sem,q0,q1,q2,q3,q4]) R ⟨⟨0,0,0,0,X,0,0,R⟩,iL f (Yo _) _ _ _ _ _⟩
    .rw[Za aC]at c;obtain⟨o0,ce⟩:∃C,Dv.value k0=C:=⟨_,R⟩
     obtain⟨o1,cg⟩:∃C,Dv.value k1=C:=⟨_,R⟩
     obtain⟨o2,ch⟩:∃C,Dv.value k2=C:=⟨_,R⟩
     rw[ce]at Y c;rw[cg]at aa c;rw[ch]at ab c;unfold Pf at Y aa ab;obtain⟨n0,br⟩:∃n,Ym o0 0=n:=⟨_,R⟩
     obtain⟨n1,bs⟩:∃n,Ym o1 0=n:=⟨_,R⟩
     obtain⟨n2,bu⟩:∃n,Ym o2 0=n:=⟨_,R⟩
     obtain⟨b0,bf⟩:∃n,te o0=n:=⟨_,R⟩
     obtain⟨b1,bg⟩:∃n,te o1=n:=⟨_,R⟩
     obtain⟨b2,bh⟩:∃n,te o2=n:=⟨_,R⟩
     rw[br,bf]at Y;rw[bs,bg]at aa;rw[bu,bh]at ab;unfold TK at c;rw[br,bs,bu,bf,bg,bh]at c;have cr:qu _:=Y;have cs:qu _:=aa;have ct:qu _:=ab;let⟨i0,cb,ck,cl,cm⟩:=yk mM;have Hi:qu _:=fE cb (fE ck (fE cl cm));have A:qu _:=fE c (fE af (fE a9 (fE ar (fE T bl))));clear hV O q s ad G I ap bl S ag o c ce cg ch bj hg m a8 K0 K1 K2 ac I3 a9 Y aa ab bm bo bp a5 ba bb bc T br bs bu bf bg bh hK am r H HT r0 r1 r2 r3 r4 rf z0 z1 ar af cb ck cl cm;go_upto_region 9 with(first|(go_at_call 145;(with_reducible refine aO (cr.out _) ?_);rintro e3 w3 ⟨rfl,b8⟩;have ay:=b8;let⟨c7,x3,db,dg,dk,dq,du,dy,d3,d7,eb,ef,ej,eo⟩:=HK.out w3 ay;clear b8)|(go_at_call 145;(with_reducible refine aO (cs.out _) ?_);rintro e4 w4 ⟨rfl,o⟩;have az:=ow ay (o5 o ay.4);let⟨c8,x4,dc,dh,dl,dr,dv,dz,d4,d8,ec,eg,ek,ep⟩:=HK.out w4 az;clear o)|(go_at_call 145;(with_reducible refine aO (ct.out _) ?_);rintro e5 t ⟨rfl,b9⟩;have E:=ow az (o5 b9 az.4);let⟨c9,x5,de,di,dm,ds,dw,d0,d5,d9,ed,eh,el,er⟩:=HK.out t E;clear b9)|fail)
     have cc:In ↑t t 9 (.bool d.1) (pk ⟨py d.2⟩) (U a3 (M d.3) p3) d:=In.mono E.4 _ _ _ _ _ (In.fF E _ _ _ _ _ A.2.2.1);have bw:=oy (E.5 _ (fO A.2.2.2.1)) A.2.2.2.1;have cj:=(fO bw)
     have b6:=λa (h:Below ↑t t a)=>ow E (o5 h E.4);have K:qu _:=fE cc (fE bw (fE (ow A.2.1 (o5 E A.2.1.4)) b6));have ew:z<=131072:=by have:=A.2.2.2.2;omega
     have T:=A.2.2.2.2.1;have L:qu _:=T;clear cc bw E az ay b6 T da df dj dn dt dx d1 d6 ea ee ei em c6 x2 db dg dk dq du dy d3 d7 eb ef ej eo c7 x3 dc dh dl dr dv dz d4 d8 ec eg ek ep c8 x4 de di dm ds dw d0 d5 d9 ed eh el er c9 x5 q0 q1 q2 q3 q4 qf;go_wp2;go_loopg [13,15,16] z (λgg ai au _ f=>∃(k:Nat)(y:Option zm)(rc:Nat)(q:Bool),k<=z/\au=ox pg k/\ai=.bool q/\gg=z-k/\qu (q=(b2&&(d.3.take k).all (λah=>!ah.1))/\f.1[t.1.size]? =N (pj #[ox pg n0,ox pg n1,ox pg n2,U y k rc,ox pg n] 127 (0,0))/\jk f (t.1.size+1) (U y k rc) ((d.3.take k).map (·.2))/\Below ↑t t f))
     case atStart=>exact⟨0,X,0,b2,bU _,R,R,R,aC,sv _ _,⟨fM.nil _ _ _,gh⟩,pb (aH _ _) fI _⟩
     case round=>
      obtain⟨k,ra,rc,q,hk,rfl,rfl,rfl,f⟩:=hrel;obtain⟨-,xr,-,-,-,-,-,-,-,-,-,y9,ya,yb⟩:=HK wr (K.2.2.2 _ f.2.2.2);let⟨c0,c1,c2,c3,c4,cf⟩:=gV f.2.1;by_cases bq:k<z
      .have eu:(k:Int)<z:=by omega
       have a6:k<M d.3:=by rw[L.out];exact bq
       let⟨g3,ey,es,hv,cy,cd⟩:=In.kid (In.fF f.2.2.2 _ _ _ _ _ K.1) (λe=>by rw[e]at a6;simp at a6);simp only[ry,true_and]at hv;obtain⟨rfl,rfl⟩:=hv;obtain⟨d2,⟨e0,e1,e2⟩,bk⟩:=cd k a6;obtain⟨x,hx⟩:∃x,d.3[k]=x:=⟨_,R⟩
       rw[hx]at e0 e1 bk;obtain⟨xa,xc,_,_,rfl⟩:=bk.shape;obtain⟨Zr,hX⟩:∃Zr:ByteArray,(⟨py x.2⟩:ByteArray)=Zr:=⟨_,R⟩
       rw[hX]at e1;obtain⟨xl,av⟩:∃xl,x.1=xl:=⟨_,R⟩
       rw[av]at e0;let⟨W2,b7,r,zc⟩:=fL wr #[.bool xl,pk Zr,U xa (M x.3) xc] 103;let⟨f0,f1,f2⟩:=iY zc;have a7:=oy (r.5 _ (fO f.2.1)) f.2.1;let⟨u0,u1,u2,u3,u4,uf⟩:=gV a7;have au:d.3.take (k+1)=d.3.take k++[x]:=by rw[cO a6,hx]
       have bx:=λC=>(f.2.2.1.1.fF r).fF (pb (aH _ W2) fI C);have ci:=λC:ZG=>oy ((pb (aH _ W2) fI C).5 _ (fO a7)) a7;rw[show M ((d.3.take k).map (·.2))=k from by rw[aV,bA];omega]at bx;have aw:qu _:=fE bx ci;have HX:qu _:=fE hX (fE r (fE av au));clear cy cd bk hx hX r av au bx a7 ci zc;go_upto_region 14 with fail;rw[<-b7];clear b7;cases q<;>cases xl
       all_goals
        go_wp2_with (first|(at_builtin;refine fX _ R (sn 115) (sn 118) 40 R 9 i0 _ 1 16 (uq Yl) Hi.1 Hi.2.1 Hi.2.2.1 Hi.2.2.2 R aB _ k _ R (aw.1 _) _ 1 1 [pk Zr] R aB R (by intro ca co hj;match ca,hj with|0,hj=>(simp at hj;subst hj;simp[sf])) (by intro ca hu;simp at hu;subst hu;rfl) aE aA ?_;intro g6 cn b4 w6 ah y;have ai:=y.keep (aw.1 _) (aw.2 _) aB;let⟨v0,v1,v2,v3,v4,vf⟩:=gV ai;have HO:qu _:=fE ah (fE y ai);clear ah y ai)|go_in)
        go_roundg (z-(k+1))
        case measure=>omega
        case rel=>
         let⟨hX,r,av,au⟩:=HX.out;let⟨ah,y,ai⟩:=HO.out;have o:=ow f.2.2.2 (o5 r f.2.2.2.4);have ca:Below ↑t t (o6 W2 (pj #[pk Zr] 9)):=pb o o.4 _;have c5:=(cH.1 (aw.2 (pj #[pk Zr] 9))).1;refine⟨k+1,N ⟨g6,cn,X⟩,b4,_,aA,by go_num,R,R,?_,?_,⟨?_,?_⟩,?_⟩
         .rw[au,List.all_append,<-Bool.and_assoc,<-f.out.1];simp[av]
         .have:=uk ai (i:=3) (U (N ⟨g6,cn,X⟩) (k+1) b4);exact ir
         .rw[au,aZ,aZ,aN,aV,bA,dF aA];have:[x].map (λco:It=>co.2)=[x.2]:=R;rw[this,cL,dB];unfold jP at ah⊢;rw[hX];exact ah.gE (fT.set w6 _ 3 _) (λez hq e=>fK ah ai aB (by rw[hq,e]))
         .intro co hq;have:N g6=N co:=hq;cases this;obtain e|e:=y.own
          .exact f.2.2.1.2 g6 e
          .exact aX c5 e
         .refine Below.setCell (p:=⟨↑t,3,X⟩) (ow ca ⟨y.gE.1,y.gE.2,y.gE.3,y.gE.4,λco hq=>y.gE.5 co (aL hq ca.4) (λe=>?_)⟩) fI _;have:=f.2.2.1.2 co e;omega
      .have a6:¬(k:Int)<z:=by omega
       obtain rfl:k=z:=aA
       let⟨q0,q1,q2,q3,q4,qf⟩:=gV (oy (f.2.2.2.5 _ cj) K.2.1);have ai:=ow K.2.2.1 (o5 f.2.2.2 K.2.2.1.4);have b:=A.1;have hz:=f.1;rw[cK (by rw[L.out];exact fI)]at hz;rw[<-hz]at b;have ah:=f.2.2.1;rw[cK (by rw[L.out];exact fI)]at ah;have y:qu _:=fE ai (fE b (fE ah (oy (f.2.2.2.5 _ cj) K.2.1)));have aw:=K.2.2.1.4;clear A HK b hz ah ai;cases b0<;>cases b1<;>cases q
       all_goals
        go_wp2;refine sd (v:=sh #[we #[ox pg n0,ox pg n1,ox pg n2,U ra k rc,ox pg n],.bool _]) (by simp[results,ZZ,go_sem,q0,q1,q2,q3,q4];rfl) R ⟨?_,iL y.1 (Yo _) _ _ _ _ _⟩;have b:=y.2.1
        first
         |(have au:X=Q:=b
           subst au;exact⟨_,_,_,_,_,_,_,R⟩)
         |(have av:N (⟨n0,n1,n2,d.3.map (·.2),n⟩:Ba)=Q:=b
           subst av;refine⟨ra,rc,?_,?_⟩
           .unfold C0;dsimp only;rw[aV,L.out]
           .dsimp only;rw[aV,L.out];have hm:=y.2.2.1;exact⟨by rw[aV,L.out];have:=hm.1;rw[aV,L.out]at this;exact this.gE (lW wr _ _ _ _ _ _) (λau hq e=>fK this y.2.2.2 aB (by rw[hq,e])),λau hq=>aX (Nat.le_succ_of_le aw) (hm.2 au hq)⟩)
section
variable {w:pn}{m a:Nat}{α:Type}
def In.two{B c0 p j e f}(h:In B w (n+1) c0 p (U j m a) l)(o:l.3=[e,f]):∃g c,j=N ⟨g,c,X⟩/\g<B/\(∃b i d,K3 w g c (.bool e.1) (pk ⟨py e.2⟩) (U b i d))/\∃b i d,K3 w g (c+3) (.bool f.1) (pk ⟨py f.2⟩) (U b i d):=by
 obtain⟨G,u,F⟩:=l;dsimp only at o;subst o;let⟨g,c,v,q,E,k⟩:=In.kid h aC;simp only[ry]at q;let⟨x,C,r⟩:=k 0 aC;let⟨y,D,s⟩:=k 1 aC;obtain⟨b,d,_,_,z⟩:=In.shape r;obtain⟨t,H,_,_,A⟩:=In.shape s
 grind
def Ta{l:List α}(h:M l=2):∃a b,l=[a,b]:=by
 match l,h with
 |[a,b],_=>exact⟨a,b,R⟩
def Qr(i:It):Bool:=match i.1,i.3 with
 |true,[a,b]=>!a.1&&!b.1&&decide (0<M a.2)&&decide (M a.2<9)&&decide (M b.2<65)
 |_,_=>pi
def AZ(s):Dv.isDep s=match Im.dec s with|some i=>Qr i|none=>pi:=rfl
def Rc{i}(h:i.1=pi\/M i.3≠2):Qr i=pi:=by
 obtain⟨b,c,a⟩:=i;cases b
 .rfl
 .match a,h with
  |[],_=>rfl
  |[_],_=>rfl
  |[_,_],h=>simp at h
  |_::_::_::_,_=>rfl
def My{d c e}{a b:Nat}(h:d=(!c&&!e&&decide (0<a)&&decide (a<9)&&decide (b<65))):(d=pi/\(c=pw\/(c=pi/\e=pw)\/(c=pi/\e=pi/\¬(0:Int)<a)\/(c=pi/\e=pi/\(0:Int)<a/\¬(a:Int)<9)\/(c=pi/\e=pi/\(0:Int)<a/\(a:Int)<9/\¬(b:Int)<65)))\/(d=pw/\c=pi/\e=pi/\(0:Int)<a/\(a:Int)<9/\(b:Int)<65):=by grind
def qE(id ba vt v)(bh:∃t n c,vt=U t n c)(l w)(h:jO w v l)(hl:M l<=4294967296)(hs:∀x∈l,M x<=65536):tf PQ 33 #[we #[ox pg id,ox pg ba,vt,v]] w λf w'=>∃t a,f=qs (U t (M (l.filter Dv.isDep)) a)/\jk w' w.1.size (U t (M (l.filter Dv.isDep)) a) (l.filter Dv.isDep)/\Below w.1.size w w':=by
 obtain⟨ta,tn,tc,rfl⟩:=bh;obtain⟨t,a,rfl⟩:=Rd.slice h;let⟨i0,a7,J,K,a9⟩:=yk mM;have Q:qu _:=fE a7 (fE J (fE K a9));let⟨W,hW,a4,zW⟩:=fL w #[ox pg id,ox pg ba,U ta tn tc,U t (M l) a] 42;have a2:=(fO zW)
 have H:qu _:=fE h (fE hs (fE zW a4));clear h hs a7 J K a9 zW a4;go_enter (fq func33 R),ntmps33;go_upto_region 1 with fail;rw[<-hW];clear hW;go_wp2;go_loopg [3,4,5,6,7,8] (M l) (λe g i _ _ _ _ d=>∃(k m:Nat)(b:Option zm)(c:Nat),k<=M l/\i=ox pg k/\g=U b m c/\m<=k/\e=M l-k/\qu (m=M ((l.take k).filter Dv.isDep)/\jk d ↑W (U b m c) ((l.take k).filter Dv.isDep)/\Below ↑W W d))
 case atStart=>exact⟨0,0,X,0,bU _,R,R,fI,R,R,⟨fM.nil _ _ _,gh⟩,aH _ _⟩
 case round=>
  obtain⟨k,m,L,O,hk,rfl,rfl,bo,rfl,b⟩:=hrel;let⟨w0,w1,w2,w3⟩:=iP (oy (b.2.2.5 _ a2) H.2.2.1);by_cases ao:k<M l
  .have bm:(k:Int)<M l:=by omega
   obtain⟨x,A⟩:∃x,l[k]? =N x:=⟨_,aK ao⟩
   obtain⟨g,au,bl,hv,_⟩:=Rd.pos H.1 aA;simp only[ry,true_and]at hv;obtain⟨rfl,rfl⟩:=hv;have ab:∀V,Below ↑W W V->jO V (U (N ⟨g,au,X⟩) (M l) a) l:=λV e=>Rd.fF (Rd.fF H.1 H.2.2.2) e;have k0:=jO.get (ab wr b.2.2) A;obtain⟨Zr,d⟩:∃Zr:ByteArray,(⟨py x⟩:ByteArray)=Zr:=⟨_,R⟩
   have ah:Zr.1.1=x:=by rw[<-d]
   have a3:ot Zr<=65536:=by rw[<-d];exact H.2.1 x (aS A)
   rw[d]at k0;have G:=uQ Zr wr aA;rw[ah]at G
   have n:l.take (k+1)=l.take k++[x]:=by
    obtain⟨i,rfl⟩:=aJ.1 A;exact cO i
   have ak:∀V,Below ↑wr wr V->Z V ⟨↑w,3,X⟩=N (U (N ⟨g,au,X⟩) (M l) a)/\Z V ⟨g,au+k,X⟩=N (pk Zr):=λV e=>by
    have c:=ow b.2.2 (o5 e b.2.2.4);refine⟨(iP (oy (c.5 _ a2) H.2.2.1)).2.2.2,?_⟩;rw[<-d];exact jO.get (ab V c) A
   have bd:qu _:=ak
   have ap:Dv.isDep x=pi->∀V,Below ↑wr wr V->m=M ((l.take (k+1)).filter Dv.isDep)/\jk V ↑W (U L m O) ((l.take (k+1)).filter Dv.isDep)/\Below ↑W W V:=λc V e=>by
    have i:(l.take (k+1)).filter Dv.isDep=(l.take k).filter Dv.isDep:=by rw[n,eA,cJ,Za lm,Z6,dI]
    rw[i];exact⟨b.1,⟨b.2.1.1.fF e,b.2.1.2⟩,ow b.2.2 (o5 e b.2.2.4)⟩
   have ax:qu _:=λ(_:Unit)=>G;have ae:qu _:=ap;cases j:Im.dec x with
   |none=>
    have c:Dv.isDep x=pi:=by rw[AZ,j]
    have o:qu _:=fE c j;clear G d ah a3 n A ak ap ab j c;go_wp2_with (go_at_call 60;refine aO (ax ()) ?_;rintro f w2 ⟨i,p⟩;rw[o.out.2]at i;unfold pP at i;subst i)
    go_roundg (M l-(k+1))
    case measure=>omega
    case rel=>exact⟨k+1,m,L,O,aA,by go_num,R,aA,R,ae o.1 _ (pb p p.4 _)⟩
   |some i=>
    rw[j]at G;have c:Dv.isDep x=Qr i:=by rw[AZ,j]
    obtain⟨ad,D⟩:∃ad:ByteArray,(⟨py i.2⟩:ByteArray)=ad:=⟨_,R⟩
    obtain⟨o,p⟩:∃o,i.1=o:=⟨_,R⟩
    obtain⟨B,s⟩:∃B,M i.3=B:=⟨_,R⟩
    have r:qu _:=fE c (fE j (fE D (fE p (fE s (fE d n)))));clear G d ah a3 n A ak ap ab j c D p s;go_upto_region 6 with(go_at_call 60;refine aO (ax ()) ?_;rintro f w2 ⟨I,T⟩;rw[r.out.2.1]at I;obtain⟨ka,kc,I,ht⟩:=I;rw[r.out.2.2.1,r.out.2.2.2.1,r.out.2.2.2.2.1]at I;subst I;have HT:qu (Tr _ _ _ _ _ _ _ _):=ht;clear ht)
    let⟨V,e,E,zb⟩:=fL w2 #[.bool o,pk ad,U ka B kc] 103;rw[<-e];let⟨x0,x1,x2⟩:=iY zb;have z:=ow T (o5 E T.4);let⟨c,j,D,p,s,d,n⟩:=r.out;by_cases y:o=pi\/B≠2
    .have q:Dv.isDep x=pi:=oy c (Rc (by rw[p,s];exact y))
     have u:o=pi\/(o=pw/\((B:Int) != 2)=pw):=by
      cases o
      .exact rr R
      .exact rz ⟨R,bne_iff_ne.2 (by rcases y with h|h<;>first|cases h|omega)⟩
     have i:qu _:=fE q z;clear e E zb z c j D p s d n y q r HT T;obtain rfl|⟨rfl,C⟩:=u
     all_goals
      go_wp2;go_roundg (M l-(k+1))
      case measure=>omega
      case rel=>exact⟨k+1,m,L,O,aA,by go_num,R,aA,R,ae i.1 _ i.2⟩
    .obtain rfl:B=2:=dO (λf=>y (rz f))
     have ao:o=pw:=by
      cases o
      .exact Zl (rr R) y
      .rfl
     subst ao;let⟨av,q,aa⟩:=Ta s;have a8:=In.fF E _ _ _ _ _ (Tr.inn 10 _ _ _ _ _ _ fI HT);obtain⟨kg,bp,rfl,hg,⟨a0,m0,p0,K0⟩,⟨a1,m1,p1,K1⟩⟩:=In.two a8 aa;have a6:=aL hg E.4;obtain⟨l0,am⟩:∃x,av.1=x:=⟨_,R⟩
     obtain⟨l1,an⟩:∃x,q.1=x:=⟨_,R⟩
     obtain⟨S,af⟩:∃x:ByteArray,(⟨py av.2⟩:ByteArray)=x:=⟨_,R⟩
     obtain⟨S1,ag⟩:∃x:ByteArray,(⟨py q.2⟩:ByteArray)=x:=⟨_,R⟩
     have J:M av.2=ot S:=by rw[<-af];rfl
     have K:M q.2=ot S1:=by rw[<-ag];rfl
     have a5:Dv.isDep x=(!l0&&!l1&&decide (0<ot S)&&decide (ot S<9)&&decide (ot S1<65)):=by
      rw[c];obtain⟨ii,Y,ik⟩:=i;dsimp only at p aa;subst p aa;unfold Qr;dsimp only;rw[am,an,J,K]
     rw[am,af]at K0;rw[an,ag]at K1;let⟨V2,ay,F,ac⟩:=fL V #[.bool l0,pk S,U a0 m0 p0] 103;let⟨V3,az,ai,bb⟩:=fL V2 #[.bool l1,pk S1,U a1 m1 p1] 103;obtain⟨s0,s1,s2⟩:=K0;obtain⟨t0,t1,t2⟩:=K1;let⟨u0,u1,u2⟩:=K3.fF ⟨t0,t1,t2⟩ F a6;have bk:=oy (qi F (p:=⟨↑w2,2,X⟩) (fO zb)) x2;have C:qu _:=fE ay (fE az (fE a5 (fE ac bb)));have aw:qu _:=fE d n;have u:=ow (ow z (o5 F z.4)) (o5 ai (aX z.4 F.4));let⟨n0,n1,n2⟩:=iY (oy (ai.5 _ (fO ac)) ac);have aq:=λV (e:Below _ wr V)=>b.2.1.1.fF e;rw[<-b.out.1]at aq;have bf:qu _:=aq;clear e E zb z c j D p s d n y r HT T ay az F ai ac bb a5 J K af ag am an a8 hg a6 aa aq;go_upto_region 8 with fail;rw[<-C.out.1];go_upto_region 9 with fail;rw[<-C.out.2.1];let⟨o0,o1,o2⟩:=iY C.2.2.2.2;let⟨y3,yx⟩:=bd V3 u;have hk:=My C.2.2.1;have P:qu _:=fE u aw.out;clear C aw u s0 s1 s2 t0 t1 t2 u0 u1 u2 x0 x1 x2 bk;obtain⟨aj,rfl|⟨rfl,rfl⟩|⟨rfl,rfl,e1⟩|⟨rfl,rfl,e1,e2⟩|⟨rfl,rfl,e1,e2,e3⟩⟩|⟨aj,rfl,rfl,e1,e2,e3⟩:=hk
     case' inr=>
      go_wp2_with (first|(at_builtin;refine fX _ R (sn 72) (sn 78) 40 R 9 i0 _ 1 16 (uq Yl) Q.1 Q.2.1 Q.2.2.1 Q.2.2.2 R aB _ m _ R (bf _ (pb P.1 P.1.4 _)) _ 1 1 [pk Zr] R aB R (by intro bj br Y;match bj,Y with|0,Y=>(simp at Y;subst Y;simp[sf])) (by intro bj Y;simp at Y;subst Y;rfl) aE aA ?_;intro g5 bq bg w5 ar i;have bc:qu _:=fE ar i;clear ar i)|go_in)
      go_roundg (M l-(k+1))
      case measure=>omega
      case rel=>
       let⟨u,d,n⟩:=P.out;let⟨ar,i⟩:=bc.out;have hf:(l.take (k+1)).filter Dv.isDep=(l.take k).filter Dv.isDep++[x]:=by rw[n,eA,cJ,Zb aj,Z6]
       have Y:Below ↑W W (o6 V3 (pj #[pk Zr] 9)):=ow b.2.2 (o5 (pb u u.4 _) b.2.2.4);refine⟨k+1,m+1,_,bg,aA,by go_num,R,aA,R,?_,⟨?_,?_⟩,?_⟩
       .rw[hf,aN,<-b.out.1];rfl
       .rw[hf,aN,<-b.out.1,aZ];have:[x].map jP=[pk Zr]:=by unfold jP;rw[<-d];rfl
        grind
       .intro q hq;have:N g5=N q:=hq;cases this;obtain f|f:=i.own
        .exact b.2.1.2 g5 f
        .exact aX Y.4 f
       .refine ow Y ⟨i.gE.1,i.gE.2,i.gE.3,i.gE.4,λq hq=>i.gE.5 q (aL hq Y.4) (λf=>?_)⟩;have:=b.2.1.2 q f;omega
     all_goals
      go_wp2;go_roundg (M l-(k+1))
      case measure=>omega
      case rel=>exact⟨k+1,m,L,O,aA,by go_num,R,aA,R,ae aj _ P.1⟩
  .have i:¬(k:Int)<M l:=by omega
   obtain rfl:k=M l:=aA
   go_wp2;go_ret;let⟨d,c,g⟩:=b.out;rw[eD]at d c;subst d;exact⟨L,O,R,⟨c.1,λq e=>aX H.2.2.2.4 (c.2 q e)⟩,ow H.2.2.2 (o5 g H.2.2.2.4)⟩
end
section
variable {g:Nat}
def Bl(c:Cf)(vc vch vwa hh:po):Array po:=#[ox sr c.1,ox sr c.2,ox pg c.3,ox pg c.4,ox pg c.5,ox pg c.6,ox pg c.7,vc,vch,vwa,hh]
def gq(W:pn)(kb:Nat)(c:Cf)(vc vch vwa hh:po):=W.1[kb]? =N (pj (Bl c vc vch vwa hh) 89 (0,0))
section
variable {w w':pn}{ts:List wj}{e s n lo kb:Nat}{v:po}{xs:List po}{l:List (List UInt8)}{c:Cf}{vc vch vwa hh:po}
def gq.cell(h:gq w kb c vc vch vwa hh)(i):Z w ⟨kb,i,X⟩=(Bl c vc vch vwa hh)[i]?:=aG h i
def gq.lt(h:gq w kb c vc vch vwa hh):kb<↑w:=(fO h)
def gq.fF(h:gq w kb c vc vch vwa hh)(a:Below ↑w w w'):gq w' kb c vc vch vwa hh:=oy (a.5 kb h.lt) h
def fM.keeps(h:fM w e s v n xs)(b:fN ts w w')(c:e∉ts):fM w' e s v n xs:=h.kept λg a=>by
 let⟨d,hc⟩:=h.obj a;rw[hc];exact b _ _ _ _ hc c
def jk.keeps(h:jk w lo v l)(a:fN ts w w')(b:9∉ts):jk w' lo v l:=⟨h.1.keeps a b,h.2⟩
def qY(h:jC v g w w')(d:fM w e s v n xs)(k:e∈ts):fN ts w w':=λb f t j a l=>by
 refine oy (h.gE.5 b (fO a) λc=>?_) a;let⟨i,hc⟩:=d.obj c
 grind
end
structure CX(w:pn)(lo:Nat)(v:po)(bs:List PW):Prop where
 row:fM w 127 5 v (M bs) (bs.flatMap gG)
 own:∀g,ov v=N g->lo<=g
 txs:∀p∈bs,jk w lo p.2 p.1.4
structure B6(w:pn)(lo:Nat)(v:po)(ls:List PL):Prop where
 row:fM w 62 8 v (M ls) (ls.flatMap gA)
 own:∀g,ov v=N g->lo<=g
 txs:∀p∈ls,jk w lo p.2.1 p.1.6/\jk w lo p.2.2 p.1.7
def CX.keeps{w w' lo v bs ts}(h:CX w lo v bs)(a:fN ts w w')(b:127∉ts)(c:9∉ts):CX w' lo v bs:=⟨h.1.keeps a b,h.2,λp d=>(h.3 p d).keeps a c⟩
def B6.keeps{w w' lo v d ts}(h:B6 w lo v d)(a:fN ts w w')(e:62∉ts)(b:9∉ts):B6 w' lo v d:=⟨h.1.keeps a e,h.2,λp c=>⟨(h.3 p c).1.keeps a b,(h.3 p c).2.keeps a b⟩⟩
def sQ:(PQ.info? 127).map (λi=>(i.8,i.3,i.4))=N (N (we #[ox pg 0,ox pg 0,ox pg 0,U X 0 0,ox pg 0]),5,56):=Zm
def iD{w w' lo v}(h:jC v g w w')(c:∀g,ov v=N g->lo<=g)(a:lo<=w.1.size):Below lo w w':=
 ⟨h.gE.1,h.gE.2,h.gE.3,h.gE.4,λq b=>h.gE.5 q (aL b a) λe=>by have:=c q e;omega⟩
end
end Hm
namespace Dv
open Go.RowKit Go.Joins
open Fr (flat iX kC iM gW gR flat_length kB fG)
section
variable {W w:pn}{d i e size n b:Nat}{l k j a v:po}{xs:List po}{t:wj}
def A1:(PQ.info? 121).map (λi=>(i.8,i.3,i.4))=N (N (we #[ox sr 0,ox pg 0,U X 0 0,rh pi]),4,48):=Zm
open Hm (Bl gq)
def _root_.Go.Proofs.YtpibpdpedjinhaaGreatDoor.Hm.gq.lY{c}(h:gq W d c l k j a)(v):gq (o3 W ⟨d,8,X⟩ v) d c l v j a:=by have:=uk h (i:=8) v;exact this
def _root_.Go.Proofs.YtpibpdpedjinhaaGreatDoor.Hm.gq.frozen{c}(h:gq W d c l k j a)(i):sk W ⟨d,i,X⟩=pi:=aM h i
def uC.weaken{a}(h:uC W i e size v n xs)(l:a<=i):uC W a e size v n xs:=by
 obtain h|⟨g,o,b,c,d,m,f,j,k⟩:=h
 .exact rr h
 .exact rz ⟨g,o,b,c,d,m,f,aX l j,k⟩
def qT{a c d e}(h:w.1[b]? =N (pj #[a,c,d,e] t (0,0)))(x y z u):(o3 (o3 (o3 (o3 w ⟨b,0,X⟩ x) ⟨b,1,X⟩ y) ⟨b,2,X⟩ z) ⟨b,3,X⟩ u).1[b]? =N (pj #[x,y,z,u] t (0,0)):=by have:=uk (uk (uk (uk h (i:=0) x) (i:=1) y) (i:=2) z) (i:=3) u;exact ir
def Md(ps:List (Ch×po)):=∀p∈ps,wR p.1.3/\M p.1.3<=1048576
def JM(c l k j a ps f)(n d i:Nat)(w)(hw:gq w d c l k j a)(a6:i<=d)(iO:iH w i k ps)(ht:Md ps)(hl:M ps<=1048576)(hf:f.2<65536/\M f.3<=65536):tf PQ 62 #[pm (N ⟨d,0,X⟩),we #[ox sr f.1,ox XX f.2,pk ⟨py f.3⟩,.bool f.4],ox pg n] w λe w'=>e=qs (sh #[])/\∃v' a1,gq w' d c l v' j a/\iH w' i v' a1/\a1.map p9=frame c.7 n (ps.map p9) f/\Below i w w'/\fN [89] w w':=by
 obtain⟨b,p,y,t⟩:=f;dsimp only at *;obtain⟨I,hD⟩:∃I:ByteArray,(⟨py y⟩:ByteArray)=I:=⟨_,R⟩
 rw[hD];obtain⟨an,ao,rfl⟩:=iO.1.slice;obtain⟨s,V⟩:∃s,s=o6 w (pj #[ox sr b,ox XX p,pk I,.bool t] 81):=⟨_,R⟩
 have G:Below ↑w w s:=by rw[V];exact pb (aH _ w) fI _
 have o1:s.1[w.1.size]? =N (pj #[ox sr b,ox XX p,pk I,.bool t] 81 (0,0)):=by rw[V];exact sv _ _
 have bc:=hw.lt;have HD:qu _:=hD;have J:qu _:=fE (hw.fF G) (fE (iO.keeps (fN.fF [] G) aC aC) (fE o1 G));have Ht:qu _:=ht;clear hD G o1 hw iO ht;go_enter (fq func62 R),ntmps62;go_wp2;rw[<-V];have a3:↑w<s.1.size:=by rw[V];simp
 clear V;go_loopg [6,7] (M ps) (λg v x o=>∃(h:Nat)(r:List (Ch×po))(q:Option zm)(u:Nat),h<=M ps/\x=ox pg h/\v=U q (M r) u/\g=M ps-h/\qu (r.map p9=((ps.map p9).take h).filterMap (pass c.7 ⟨b,p,y,t⟩)/\M r<=h/\r8 o ↑s 121 4 (U q (M r) u) (M r) (r.flatMap kK)/\(∀m∈r,kX o i m.2 m.1.3)/\Below ↑s s o))
 case atStart=>exact⟨0,[],X,0,bU _,R,R,R,R,fI,Yw _ _ _ _,aC,aH _ _⟩
 case round=>
  obtain⟨H,r,ra,rc,hi,rfl,rfl,rfl,o⟩:=hrel;have ac:=o.2.2.2.2;have A:=J.1.fF ac;have k8:Z wr ⟨d,8,X⟩=N (U an (M ps) ao):=by rw[A.cell];rfl
  have k6:Z wr ⟨d,6,X⟩=N (ox pg c.7):=by rw[A.cell];rfl
  have x:=oy (ac.5 _ a3) J.2.2.1;have f0:Z wr ⟨↑w,0,X⟩=N (ox sr b):=fZ x rfl;have f1:Z wr ⟨↑w,1,X⟩=N (ox XX p):=fZ x rfl;have f2:Z wr ⟨↑w,2,X⟩=N (pk I):=fZ x rfl;have f3:Z wr ⟨↑w,3,X⟩=N (.bool t):=fZ x rfl;have bg:↑s<=wr.1.size:=ac.4;have bf:=o.2.1;have Hq:qu _:=fE A x;clear ac A x;by_cases a7:H<M ps
  .have bd:(H:Int)<(M ps:Int):=by omega
   obtain⟨D,z⟩:∃D,ps[H]? =N D:=⟨_,aK a7⟩
   have ah:=aS z;obtain⟨g,bj,a9,hv,_,_,bb⟩:=J.2.1.1.pos aA;simp only[ry,true_and]at hv;obtain⟨rfl,rfl⟩:=hv;let⟨k0,k1,k2,k3⟩:=(J.2.1.keeps (fN.fF [] o.2.2.2.2) aC aC).get R z;have ai:=IJ c.7 ⟨b,p,y,t⟩ (ps.map p9) H D.1 (by rw[cT,z];rfl);rw[<-o.out.1]at ai;have af:=(J.2.1.2 D ah).keeps (fN.fF [] o.2.2.2.2) aC;have aw:=Ht D ah;obtain⟨pc,pv⟩:=D;obtain⟨q,C,pl,E⟩:=pc;dsimp only at *;obtain⟨S,T,rfl⟩:=gW af;obtain⟨Zr,O⟩:∃Zr,Zr=o6 wr (pj #[ox sr q,ox pg C,U S (M pl) T,.bool E] 121):=⟨_,R⟩
   have ab:Below ↑wr wr Zr:=by rw[O];exact pb (aH _ _) fI _
   have a4:↑wr<Zr.1.size:=by rw[O];simp
   have K:Zr.1[wr.1.size]? =N (pj #[ox sr q,ox pg C,U S (M pl) T,.bool E] 121 (0,0)):=by rw[O];exact sv _ _
   have x0:Z Zr ⟨↑wr,0,X⟩=N (ox sr q):=fZ K rfl;have x1:Z Zr ⟨↑wr,1,X⟩=N (ox pg C):=fZ K rfl;have x2:Z Zr ⟨↑wr,2,X⟩=N (U S (M pl) T):=fZ K rfl;have x3:Z Zr ⟨↑wr,3,X⟩=N (.bool E):=fZ K rfl;have fx:=aM K;have ax:=Hq.1.fF ab;have y6:Z Zr ⟨d,6,X⟩=N (ox pg c.7):=by rw[ax.cell];rfl
   have B:=oy (ab.5 _ aA) Hq.2;have y0:Z Zr ⟨↑w,0,X⟩=N (ox sr b):=fZ B rfl;have y1:Z Zr ⟨↑w,1,X⟩=N (ox XX p):=fZ B rfl;have y2:Z Zr ⟨↑w,2,X⟩=N (pk I):=fZ B rfl;have y3:Z Zr ⟨↑w,3,X⟩=N (.bool t):=fZ B rfl;have u:qu _:=fE K (fE ab (fE ai (fE af (fE aw O))));clear ai af aw z ah K ax B ab;go_upto_region 6 with fail;rw[<-O];clear O;have W:=gR o.2.2.1 u.2.1;have ap:=ow o.2.2.2.2 (o5 u.2.1 o.2.2.2.2.4);have aq:=λ(D:Ch×po)(z:D∈r)=>(o.2.2.2.1 D z).fF u.2.1;have HO:qu _:=fE W (fE ap aq);clear W ap aq;by_cases hB:q=b/\p=0
   .obtain⟨rfl,rfl⟩:=hB;have h:pass c.7 ⟨q,0,y,t⟩ ⟨q,C,pl,E⟩=X:=by unfold pass;rw[Zb R,Zb R]
    have F:qu _:=h;clear h;go_wp2;go_roundg (M ps-(H+1))
    case measure=>omega
    case rel=>exact⟨H+1,r,ra,rc,aA,by go_num,R,R,by have:=u.2.2.1;rw[F.out]at this;simpa using si this,aA,HO.1,HO.2.2,HO.2.1⟩
   .obtain⟨Q,F⟩:∃Q,Q=if q=b then joined c.7 ⟨q,C,pl,E⟩ ⟨b,p,y,t⟩else⟨q,C,pl,E⟩:=⟨_,R⟩
    have av:pass c.7 ⟨b,p,y,t⟩ ⟨q,C,pl,E⟩=N Q:=by
     unfold pass;rw[F];by_cases h:q=b
     .simp only[h,if_true];rw[Za (λe=>hB ⟨h,e⟩)]
     .simp only[h,if_false]
    have aa:qu _:=fE av (fE F hB);clear av F hB;go_cut [35] (λv h=>v=rh pi/\h=Zr)
    case first=>
     by_cases h:q=b
     .have Y:p≠0:=λe=>aa.2.2 ⟨h,e⟩;have L:((q:Int) == (b:Int))=pw:=by rw[h];exact beq_self_eq_true _
      have P:((p:Int) == 0)=pi:=Zc aA;go_wp2;go_meet;exact⟨R,R⟩
     .have L:((q:Int) == (b:Int))=pi:=Zc aA;go_wp2;go_meet;exact⟨R,R⟩
    case rest=>
     obtain⟨rfl,aj⟩:=hcut;have aj:=si aj;subst aj;go_upto_if 40 with fail;go_cut [8] (λv h=>v=pm (N ⟨↑wr,0,X⟩)/\∃L Y P,h.1[wr.1.size]? =N (pj #[ox sr Q.1,ox pg Q.2,U L Y P,.bool Q.4] 121 (0,0))/\kX h i (U L Y P) Q.3/\Below ↑wr wr h)
     case first=>
      by_cases ad:q=b
      .have h1:((q:Int) == (b:Int))=pw:=by rw[ad];exact beq_self_eq_true _
       have F:Q=joined c.7 ⟨q,C,pl,E⟩ ⟨b,p,y,t⟩:=by rw[aa.out.2.1,Zb ad]
       have P:=λ(ak:pn)(hu:Below ↑Zr Zr ak)=>yu ⟨q,C,pl,E⟩ (U S (M pl) T) ⟨b,p,y,t⟩ c.7 ak i (by have:=hu.4;omega) ((u.out.2.2.2.1.fF u.out.2.1).fF hu) (by have:=u.out.2.2.2.2.1.2;exact kl) u.out.2.2.2.2.1.1 hf;rw[<-F]at P;unfold UU at P;dsimp only at P;rw[HD.out]at P;have am:qu _:=P;have L:=aH ↑Zr Zr;rw[h1];clear P F ad h1;go_wp2;go_region_with (go_at_call 97;((with_reducible refine aO (am.out _ ?_) ?_);(first|exact L|exact rk L|exact fG L _);rintro e Y ⟨v5,rfl,ag,ar⟩;obtain⟨qa,au,rfl⟩:=gW ag;have ae:Below ↑Zr Zr Y:=ow (by first|exact L|exact rk L|exact fG L _) (o5 ar aC);have h:=oy (ae.5 ↑wr a4) u.out.1;have z0:Z Y ⟨↑wr,0,X⟩=N (ox sr q):=ij;have z1:Z Y ⟨↑wr,1,X⟩=N (ox pg C):=ij;have z2:Z Y ⟨↑wr,2,X⟩=N (U S (M pl) T):=ij;have z3:Z Y ⟨↑wr,3,X⟩=N (.bool E):=ij;have fz:=aM h))
       all_goals
        go_wp2;go_meet;exact⟨R,qa,M Q.3,au,qT h _ _ _ _,sP ag h aB _ _ _ _,mY (ow u.2.1 (o5 ae u.2.1.4)) _ fI _ _ _ _⟩
      .have L:((q:Int) == (b:Int))=pi:=Zc aA;have F:Q=⟨q,C,pl,E⟩:=by rw[aa.out.2.1,Za ad]
       have h:qu _:=F;rw[L];clear L F;go_wp2;go_meet;refine⟨R,S,M pl,T,?_,?_,u.2.1⟩
       .rw[h.out];exact u.1
       .rw[h.out];exact u.2.2.2.1.fF u.2.1
     case rest=>
      obtain⟨rfl,qa,qn,ad,P,x,B⟩:=hcut;have e0:Z wc ⟨↑wr,0,X⟩=N (ox sr Q.1):=fZ P rfl;have e1:Z wc ⟨↑wr,1,X⟩=N (ox pg Q.2):=fZ P rfl;have e2:Z wc ⟨↑wr,2,X⟩=N (U qa qn ad):=fZ P rfl;have e3:Z wc ⟨↑wr,3,X⟩=N (.bool Q.4):=fZ P rfl;have bh:↑wr<wc.1.size:=(fO P)
      have W:∀ak:ZG,r8 (o6 wc ak) ↑s 121 4 (U ra (M r) rc) (M r) (r.flatMap kK):=λak=>gR (gR o.2.2.1 B) (pb (aH _ wc) fI ak);have L:=ow o.2.2.2.2 (o5 B o.2.2.2.2.4);have am:qu _:=W;have HC:qu _:=fE x (fE B L);have ba:=L.4;let⟨i0,au,ay,az,a0⟩:=yk A1;have Y:qu _:=fE au (fE ay (fE az a0));clear P x B W L au ay az a0;go_wp2_with (at_builtin;(refine ig R (sn 49) (sn 51) 86 R ↑s 121 i0 _ 4 48 (uq underlying86) Y.1 Y.2.1 Y.2.2.1 Y.2.2.2 R aB _ (M r) (r.flatMap kK) R (am _) ⟨↑wc,0,X⟩ 1 1 [ox sr Q.1,ox pg Q.2,U qa qn ad,.bool Q.4] R aB R (by intro a8 bk h;match a8,h with|0,h=>(simp at h;subst h;simp[sf])|1,h=>(simp at h;subst h;simp[sf])|2,h=>(simp at h;subst h;simp[sf])|3,h=>(simp at h;subst h;simp[sf])) (by intro a8 h;simp at h;rcases h with rfl|rfl|rfl|rfl<;>rfl) aE aA aD ?_;intro v4 w4 ag ar a5;obtain⟨g4,a2,rfl⟩:=iM ag aA;have ae:qu _:=fE ag ar;clear ag ar a5))
      go_roundg (M ps-(H+1))
      case measure=>omega
      case rel=>
       let⟨x,B,L⟩:=HC.out;have h:fN [121] wc w4:=(fN.fF _ (pb (aH _ wc) fI _)).trans (fN.grown ae.2 (am _) aC);refine⟨H+1,r++[(Q,U qa qn ad)],N ⟨g4,0,X⟩,a2,aA,by go_num,aC,R,?_,aD,?_,?_,?_⟩
       .have:=u.2.2.1;rw[aa.out.1]at this;rw[this];simp
       .rw[show M (r++[(Q,U qa qn ad)])=M r+1 from by simp,dU];exact ae.1
       .intro D z;obtain z|z:=bV.1 z
        .exact((o.2.2.2.1 D z).fF B).keeps h aB
        .rw[bT.1 z];exact x.keeps h aB
       .exact Below.grown (pb L L.4 _) ae.2 aD (λm hm=>(iX o.2.2.1 hm).1)
  .have a2:¬(H:Int)<(M ps:Int):=by omega
   have ak:r.map p9=(ps.map p9).filterMap (pass c.7 ⟨b,p,y,t⟩):=by rw[o.out.1,cK aD]
   have ab:=KZ c.7 n (ps.map p9) ⟨b,p,y,t⟩;rw[<-ak]at ab;have af:qu _:=ab;clear ak ab;go_upto_if 55 with fail;go_cut [6] (λv u=>∃(h:List (Ch×po))(z:Option zm)(B:Nat),v=U z (M h) B/\h.map p9=frame c.7 n (ps.map p9) ⟨b,p,y,t⟩/\r8 u ↑s 121 4 (U z (M h) B) (M h) (h.flatMap kK)/\(∀q∈h,kX u i q.2 q.1.3)/\Below ↑s s u)
   case first=>
    by_cases O:p=0
    .have h1:((p:Int) == 0)=pw:=by rw[O];rfl
     obtain⟨Q,hQ⟩:∃Q,Q=joined c.7 ⟨b,n,[],pi⟩ ⟨b,p,y,t⟩:=⟨_,R⟩
     obtain⟨Zr,B⟩:∃Zr,Zr=o6 wr (pj #[ox sr b,ox pg n,U X 0 0,rh pi] 121):=⟨_,R⟩
     have L:Below ↑wr wr Zr:=by rw[B];exact pb (aH _ _) fI _
     have ax:↑wr<Zr.1.size:=mu
     have u:Zr.1[wr.1.size]? =N (pj #[ox sr b,ox pg n,U X 0 0,rh pi] 121 (0,0)):=by rw[B];exact sv _ _
     have x0:Z Zr ⟨↑wr,0,X⟩=N (ox sr b):=fZ u rfl;have x1:Z Zr ⟨↑wr,1,X⟩=N (ox pg n):=fZ u rfl;have x2:Z Zr ⟨↑wr,2,X⟩=N (U X 0 0):=fZ u rfl;have x3:Z Zr ⟨↑wr,3,X⟩=N (rh pi):=fZ u rfl;have fx:=aM u;have am:=Hq.1.fF L;have y6:Z Zr ⟨d,6,X⟩=N (ox pg c.7):=by rw[am.cell];rfl
     have q:=oy (L.5 _ aA) Hq.2;have y0:Z Zr ⟨↑w,0,X⟩=N (ox sr b):=fZ q rfl;have y1:Z Zr ⟨↑w,1,X⟩=N (ox XX p):=fZ q rfl;have y2:Z Zr ⟨↑w,2,X⟩=N (pk I):=fZ q rfl;have y3:Z Zr ⟨↑w,3,X⟩=N (.bool t):=fZ q rfl;have D:=λ(Y:pn)(P:Below ↑Zr Zr Y)=>yu ⟨b,n,[],pi⟩ (U X 0 0) ⟨b,p,y,t⟩ c.7 Y i (by have:=P.4;omega) (Yw _ _ _ _) aC (by intro z h;simp at h) hf;rw[<-hQ]at D;unfold UU at D;dsimp only at D;rw[HD.out]at D;have au:qu _:=D;have F:qu _:=fE u (fE L (fE hQ B));have av:qu _:=O;have C:=aH ↑Zr Zr;rw[h1];clear D hQ h1 O u L am q;go_upto_region 12 with fail;rw[<-B];clear B;go_cut [9] (λv h=>v=pm (N ⟨↑wr,0,X⟩)/\∃z K E,h.1[wr.1.size]? =N (pj #[ox sr Q.1,ox pg Q.2,U z K E,.bool Q.4] 121 (0,0))/\kX h i (U z K E) Q.3/\Below ↑wr wr h)
     case first=>
      go_region_with (go_at_call 97;((with_reducible refine aO (au.out _ ?_) ?_);(first|exact C|exact rk C|exact fG C _);rintro e h ⟨v5,rfl,K,S⟩;obtain⟨T,W,rfl⟩:=gW K;have E:Below ↑Zr Zr h:=ow (by first|exact C|exact rk C|exact fG C _) (o5 S aC);have z:=oy (E.5 ↑wr ax) F.out.1;have z0:Z h ⟨↑wr,0,X⟩=N (ox sr b):=(by rw[aG z];rfl);have z1:Z h ⟨↑wr,1,X⟩=N (ox pg n):=(by rw[aG z];rfl);have z2:Z h ⟨↑wr,2,X⟩=N (U X 0 0):=(by rw[aG z];rfl);have z3:Z h ⟨↑wr,3,X⟩=N (rh pi):=(by rw[aG z];rfl);have fz:=aM z))
      all_goals
       go_wp2;go_meet;exact⟨R,T,M Q.3,W,qT z _ _ _ _,sP K z aB _ _ _ _,mY (ow F.2.1 (o5 E F.2.1.4)) _ fI _ _ _ _⟩
     case rest=>
      obtain⟨rfl,S,W,T,E,x,q⟩:=hcut;have e0:Z wc ⟨↑wr,0,X⟩=N (ox sr Q.1):=fZ E rfl;have e1:Z wc ⟨↑wr,1,X⟩=N (ox pg Q.2):=fZ E rfl;have e2:Z wc ⟨↑wr,2,X⟩=N (U S W T):=fZ E rfl;have e3:Z wc ⟨↑wr,3,X⟩=N (.bool Q.4):=fZ E rfl;have a4:↑wr<wc.1.size:=(fO E)
      have aj:∀ae:ZG,r8 (o6 wc ae) ↑s 121 4 (U ra (M r) rc) (M r) (r.flatMap kK):=λae=>gR (gR o.2.2.1 q) (pb (aH _ wc) fI ae);have z:=ow o.2.2.2.2 (o5 q o.2.2.2.2.4);have ag:qu _:=aj;have HC:qu _:=fE x (fE q z);have a0:=z.4;let⟨i0,ai,ap,aq,ar⟩:=yk A1;have K:qu _:=fE ai (fE ap (fE aq ar));clear E x q aj z ai ap aq ar;go_wp2_with (at_builtin;(refine ig R (sn 68) (sn 70) 86 R ↑s 121 i0 _ 4 48 (uq underlying86) K.1 K.2.1 K.2.2.1 K.2.2.2 R aB _ (M r) (r.flatMap kK) R (ag _) ⟨↑wc,0,X⟩ 1 1 [ox sr Q.1,ox pg Q.2,U S W T,.bool Q.4] R aB R (by intro az Y h;match az,h with|0,h=>(simp at h;subst h;simp[sf])|1,h=>(simp at h;subst h;simp[sf])|2,h=>(simp at h;subst h;simp[sf])|3,h=>(simp at h;subst h;simp[sf])) (by intro Y P;simp at P;rcases P with rfl|rfl|rfl|rfl<;>rfl) aE aA aD ?_;intro v4 w4 ad ah ay;obtain⟨g4,aw,rfl⟩:=iM ad aA;have aa:qu _:=fE ad ah;clear ad ah ay))
      go_meet;let⟨x,q,z⟩:=HC.out;have hk:fN [121] wc w4:=(fN.fF _ (pb (aH _ wc) fI _)).trans (fN.grown aa.2 (ag _) aC);refine⟨r++[(Q,U S W T)],N ⟨g4,0,X⟩,aw,aC,?_,?_,?_,?_⟩
      .rw[af.out,Zb av.out,F.out.2.2.1];simp
      .rw[show M (r++[(Q,U S W T)])=M r+1 from by simp,dU];exact aa.1
      .intro az h;obtain h|h:=bV.1 h
       .exact((o.2.2.2.1 az h).fF q).keeps hk aB
       .rw[bT.1 h];exact x.keeps hk aB
      .exact Below.grown (pb z z.4 _) aa.2 aD (λm h=>(iX o.2.2.1 h).1)
    .have h:((p:Int) == 0)=pi:=Zc aA;rw[h];clear h;go_wp2;go_meet;refine⟨r,ra,rc,R,?_,o.2.2.1,o.2.2.2.1,o.2.2.2.2⟩;rw[af.out,Za O,dI]
   case rest=>
    obtain⟨E,P,S,rfl,u,z,B,C⟩:=hcut;have A:=J.1.fF C;have W:Z wc ⟨d,8,X⟩=N (U an (M ps) ao):=by rw[A.cell];rfl
    have T:=A.frozen;have G:=J.2.2.2;have q:fN [89] w wc:=(fN.fF _ G).trans (fN.fF _ C);have h:Below i w wc:=ow (o5 G aA) (o5 C (by have:=G.4;omega));have F:qu _:=fE A (fE u (fE z (fE B (fE q h))));clear A u z B C q h G;go_wp2;let⟨A,u,z,B,q,h⟩:=F.out;have D:fN [89] wc (o3 wc ⟨d,8,X⟩ (U P (M E) S)):=fN.set A aC _ _;go_end0;have K:i<=↑s:=aA
    exact⟨R,_,A.lY _,E,⟨(uC.CB (AJ z D aB)).weaken K,λO L=>(B O L).keeps D aB⟩,u,ph h (p:=⟨d,8,X⟩) a6 _,q.trans D⟩
end
end Dv
namespace Hm
open Go.RowKit Go.Joins Go.Shelf
variable {s:List UInt8}
def Rq(f n):Dv.rd f [] n=[]:=by
 cases f<;>simp[Dv.rd]
def Wi(n:Nat)(r:List Ba):Option Ba->List Ba
 |none=>[]
 |some b=>(if b.1<=n then [b]else [])++r
def Oy{f}(n)(h:s≠[])(b:M s<=f):∃a,f=a+1/\Dv.rd f s n=match Im.read Im.body 8 s with
  |none=>[]
  |some (i,k)=>Wi n (Dv.rd a (s.drop k) n) (kN i n):=by
 cases f with
 |zero=>grind
 |succ f=>exact⟨f,R,by rw[Dv.rd,Za h];cases Im.read Im.body 8 s<;>rfl⟩
def JN(c vc ar b1 au bs)(f u n:Nat)(s:ByteArray)(w)(hw:gq w f c vc ar b1 au)(an:u<=f)(ag:CX w u b1 bs)(hs:ot s<=4194304)(hl:M bs<=1099511627776):tf PQ 64 #[pm (N ⟨f,0,X⟩),pk s,ox pg n] w λe w'=>e=qs (sh #[])/\∃v' bg,gq w' f c vc ar v' au/\CX w' u v' bg/\bg.map p9=bs.map p9++Dv.reads s.1.1 n/\Below u w w'/\fN [89,127] w w':=by
 obtain⟨o,ap⟩:∃ah,Sq.spread (ot s) s.1.1 4096 []=ah:=⟨_,R⟩
 have i:=Et s 4096 w hs aB aB;rw[ap]at i
 have ba:M o.1<=4096:=by
  have:=lJ (ot s) s.1.1 4096 [] aB;rw[ap]at this;omega
 have bq:Dv.reads s.1.1 n=Dv.rd (M o.1) o.1 n:=by
  unfold Dv.reads;rw[<-aW,ap]
 rw[bq];obtain⟨D0,aj⟩:∃D:ByteArray,(⟨py o.1⟩:ByteArray)=D:=⟨_,R⟩
 have ak:D0.1.1=o.1:=by rw[<-aj]
 have a0:ot D0=M o.1:=by rw[<-aj];rfl
 rw[aj]at i;obtain⟨ok,bp⟩:∃b,o.2=b:=⟨_,R⟩
 rw[bp]at i;let⟨i0,bm,bw,bz,b0⟩:=yk sQ;have Hi:qu _:=fE bm (fE bw (fE bz b0));have T:qu _:=λ(_:Unit)=>i;have H:qu _:=fE hw (fE ag (fE ak (fE a0 ba)));have a9:=hw.lt;clear i ap bq aj ak a0 bp bm bw bz b0 hw ag ba hs;go_enter (fq func64 R),ntmps64;go_wp2_with (go_at_call 100;refine aO (T ()) ?_;rintro e w2 ⟨rfl,bu⟩;rw[bu];clear bu w2)
 go_loopg [1,6,7,8,9,10] (ot D0) (λk l _ _ _ _ _ d=>∃(D:ByteArray)(h:Nat)(a:List PW)(j:Option zm)(g:Nat),l=pk D/\k=ot D/\ot D<=4096/\M a+ot D<=M bs+4096/\qu (M D.1.1<=h/\a.map p9++Dv.rd h D.1.1 n=bs.map p9++Dv.rd (M o.1) o.1 n/\gq d f c vc ar (U j (M a) g) au/\CX d u (U j (M a) g) a/\Below u w d/\fN [89,127] w d))
 case atStart=>
  let⟨hw,ag,ak,a0,ba⟩:=H.out;obtain⟨d,a,rfl⟩:=ag.1.slice;exact⟨D0,M o.1,bs,d,a,R,R,aA,aA,by grind,by rw[ak],hw,ag,aH _ _,fN.refl _ _⟩
 case round=>
  obtain⟨D,b8,a,C,r,rfl,rfl,cb,cc,p⟩:=hrel;have ac:=Fr.gH D;by_cases h0:ot D=0
  .have m:tk D.toList=pw:=by rw[ac];exact Ze h0
   clear ac;go_wp2;go_end0;let⟨g,d,h,j,k,l⟩:=p.out;rw[show D.1.1=[] from bC (by rw[<-aW];exact h0),Rq,dI]at d
   grind
  .have ce:tk D.toList=pi:=by rw[ac];exact Zd h0
   have bc:D.1.1≠[]:=λe=>h0 (by rw[aW,e];rfl);obtain⟨f',rfl,K⟩:=Oy n bc p.1;have i:=xI D wr aA;rw[yY _ gv]at i;have T:qu _:=λ(_:Unit)=>i;cases m:Im.read Im.body 8 D.1.1 with
   |none=>
    rw[m]at K;have j:qu _:=fE m K;clear ac i m K bc;go_wp2_with (go_at_call 95;refine aO (T ()) ?_;rintro e w2 ⟨h,d⟩;rw[j.out.1]at h;unfold Got at h;subst h)
    let⟨z,t,v,g,k,x⟩:=p.out;have y:=(fN.fF (ts:=[89,127]) (pb d d.4 (pj #[rh pi,pk ⟨#[]⟩,U X 0 0] 103)))
    refine sd (v:=sh #[]) (Zy R _ _ _) R ⟨R,_,a,v.fF (pb d d.4 _),⟨g.1.fF (pb d d.4 _),g.2,λq l=>⟨(g.3 q l).1.fF (pb d d.4 _),(g.3 q l).2⟩⟩,by rw[<-t,j.out.2,dI],ow k (o5 (pb d d.4 _) (aX (eZ (qaU an a9)) k.4)),x.trans y⟩
   |some ah=>
    obtain⟨O,k⟩:=ah;rw[m]at K i;obtain⟨b4,cf,-⟩:=yG 8 _ _ _ m;rw[<-aW]at b4;have bv:=G9 kW 8 _ _ _ m
    have ab:M O.2<=65536:=by
     have:=sG bv.1;omega
    obtain⟨Q,I⟩:∃Q,kN O n=Q:=⟨_,R⟩
    have L:Dv.rd (f'+1) D.1.1 n=Wi n (Dv.rd f' (D.1.1.drop k) n) Q:=by rw[K,<-I]
    obtain⟨ax,hS⟩:∃ax:ByteArray,(⟨py O.2⟩:ByteArray)=ax:=⟨_,R⟩
    obtain⟨li,ad⟩:∃li,O.1=li:=⟨_,R⟩
    obtain⟨nk,ao⟩:∃nk,M O.3=nk:=⟨_,R⟩
    obtain⟨E,hE⟩:∃E:ByteArray,D.extract k (ot D)=E:=⟨_,R⟩
    have x:E.1.1=D.1.1.drop k:=by
     rw[<-hE,Fr.ext_list,aW,eD]
    have am:ot E=ot D-k:=by rw[aW,x,cF,<-aW]
    have cg:(k:Int)<=(ot D:Int):=aA
    have q:qu _:=fE m (fE L (fE I (fE hS (fE ad (fE ao (fE x (fE am ab)))))));have a8:=λb2 r P=>Cn O (U b2 nk r) n P ⟨_,_,_,R⟩ ab;rw[I,hS,ad]at a8;have av:qu _:=a8;clear ac i m K L bc I hS ad ao x am bv a8 ab;go_upto_region 3 with(go_at_call 95;refine Calls.mono (T ()) ?_;rintro e w2 ⟨l,a5⟩;rw[q.out.1]at l;obtain⟨ka,kc,l,ht⟩:=l;(dsimp only at l);rw[q.out.2.2.2.1,q.out.2.2.2.2.1,q.out.2.2.2.2.2.1]at l;subst l;clear ht)
    let⟨b7,hV,bj,zb⟩:=fL w2 #[.bool li,pk ax,U ka nk kc] 103;rw[<-hV];let⟨x0,x1,x2⟩:=iY zb;have bk:=ow a5 (o5 bj a5.4);have S:qu _:=bk;clear hV bj zb a5 bk;cases Q with
    |none=>
     go_wp2_with (go_at_call 101;refine aO (av _ _ _) ?_;rintro e w3 ⟨⟨G,J,V,W,Y,qn,qc,rfl⟩,t⟩)
     let⟨F,z,A,g,j,B⟩:=p.out;have d:∀h,Below ↑wr wr (o6 w3 h):=λh=>ow S (o5 (pb t t.4 h) S.4);exact sd (v:=sh #[]) (Zy R _ _ _) R ⟨R,_,a,A.fF (d _),⟨g.1.fF (d _),g.2,λy v=>⟨(g.3 y v).1.fF (d _),(g.3 y v).2⟩⟩,by rw[<-z,q.out.2.1];exact si (dI _),ow j (o5 (d _) (aX (eZ (qaU an a9)) j.4)),B.trans (fN.fF _ (d _))⟩
    |some b=>
     obtain⟨B,br⟩:∃n,M b.4=n:=⟨_,R⟩
     have aw:qu _:=br;clear br;go_upto_region 5 with(go_at_call 101;refine aO (av _ _ _) ?_;rintro e w3 ⟨⟨z,A,l,bo⟩,a6⟩;unfold C0 at l;rw[aw.out]at l;subst l;have HM:qu _:=bo;clear bo)
     let⟨Y,hY,a7,yb⟩:=fL w3 #[ox pg b.1,ox pg b.2,ox pg b.3,U z B A,ox pg b.5] 127;rw[<-hY];let⟨y0,y1,y2,y3,y4,yf⟩:=gV yb;have bh:=ow a6 (o5 a7 a6.4);have J:=ow S (o5 bh S.4);let⟨h1,W,h3,h4,h5,h6⟩:=p.out;have t:=h3.fF J
     have ae:jk Y u (U z B A) b.4:=by
      have:=HM.out
      refine⟨?_,λg hg=>by
       rw[aw.out]at this;have d:=this.2 g hg;have y:=S.4;have V:=h5.4;omega⟩
      have h:=this.1.fF a7;rw[aw.out]at h⊢;exact h
     have j:CX Y u (U C (M a) r) a:=⟨h4.1.fF J,h4.2,λh d=>⟨(h4.3 h d).1.fF J,(h4.3 h d).2⟩⟩
     have F:=ow h5 (o5 J (aX (eZ (qaU an a9)) h5.4));have G:=h6.trans (fN.fF (ts:=[89,127]) J);have k9:Z Y ⟨f,9,X⟩=N (U C (M a) r):=by rw[t.cell];rfl
     have fk:=aM t;have HY:qu _:=fE t (fE ae (fE j (fE F G)));have b5:=t.lt;have bf:qu (∀v,fM (o6 Y v).drew 127 5 (U C (M a) r) (M a) (a.flatMap gG)):=λv=>j.1.kept λg hg=>dE _ _ _ (j.1.lt hg);have HK:qu (∀v,gq (o6 Y v).drew f c vc ar (U C (M a) r) au):=λv=>oy (dE _ _ _ b5) t
     have ca:∀v,Z (o6 Y v) ⟨f,9,X⟩=N (U C (M a) r):=λv=>by
      have:=(HK v).cell 9;exact this
     clear hY a7 yb bh J t ae j F G h1 W h3 h4 h5 h6 a6 HM av T;by_cases bl:b.1<=n
     .have cd:(b.1:Int)<=(n:Int):=by omega
      go_upto_region 7 with fail;have t1:∀P∈[ox pg b.1,ox pg b.2,ox pg b.3,U z B A,ox pg b.5],sw P=pw:=by intro ah hx;simp at hx;rcases hx with rfl|rfl|rfl|rfl|rfl<;>rfl
      have t2:∀aq P,[ox pg b.1,ox pg b.2,ox pg b.3,U z B A,ox pg b.5][aq]? =N P->Z (o6 Y (pj #[ox pg b.1,ox pg b.2,ox pg b.3,U z B A,ox pg b.5] 127)).drew ((⟨↑Y,0,X⟩:zm).add aq)=N P:=by intro aq ah d;match aq,d with|0,d=>(simp at d;subst d;simp[sf])|1,d=>(simp at d;subst d;simp[sf])|2,d=>(simp at d;subst d;simp[sf])|3,d=>(simp at d;subst d;simp[sf])|4,d=>(simp at d;subst d;simp[sf])
      have t3:M a+1<=maxLen:=aE
      have ay:qu _:=fE t1 (fE t2 t3);clear t1 t2 t3;go_region_law ((refine jK (by rfl) (sn 42) (sn 44) 87 (by rfl) 127 i0 5 56 (uq Tryz.underlying87) Hi.1 Hi.2.1 Hi.2.2.1 Hi.2.2.2 (by rfl) aB _ (M a) (a.flatMap gG) (by rfl) (bf _) ⟨↑Y,0,X⟩ 1 1 _ (by rfl) aB (by rfl) ay.2.1 ay.1 ay.2.2 aA ?_;intro V bd az w4 af h;have y:=h.keep (bf _) (HK _) aB;have b9:=aM y;have ch:Z w4 ⟨f,9,X⟩=N (U C (M a) r):=(aG y 9);have H4:qu _:=fE af (fE h y);clear af h y))
      all_goals
       go_wp2;go_roundg (ot E)
       case measure=>have:=q.2.2.2.2.2.2.2.1;omega
       case rel=>
        let⟨t,ae,j,F,G⟩:=HY.out;let⟨m,L,I,hS,ad,ao,x,am,ab⟩:=q.out;let⟨af,h,y⟩:=H4.out;have bb:u<=↑Y:=aA
        obtain⟨ai,hO⟩:∃ai,ai=(pj #[ox pg b.1,ox pg b.2,ox pg b.3,U z B A,ox pg b.5] 127):=⟨_,R⟩
        rw[<-hO]at h;have aa:Below ↑Y Y (o6 Y ai).drew:=rk (pb (aH _ Y) fI ai);have b3:=ph (ow (ow F (o5 aa bb)) (iD h j.2 (aX bb aa.4))) (p:=⟨f,9,X⟩) an (U (N ⟨V,bd,X⟩) (M a+1) az);have a4:fN [89,127] Y (o3 w4 ⟨f,9,X⟩ (U (N ⟨V,bd,X⟩) (M a+1) az)):=((fN.fF _ aa).trans (qY h (j.1.fF aa) aC)).trans (fN.set y aC _ _);have W:=p.2.1;refine⟨E,f',a++[(b,U z B A)],N ⟨V,bd,X⟩,az,?_,R,aA,aD,by have:=p.1;rw[x,cF];omega,?_,?_,⟨?_,?_,?_⟩,b3,G.trans a4⟩
        .rw[<-hE]
        .rw[<-W,L,x];unfold Wi;simp[bl]
        .rw[aN];exact uk y (i:=9) _
        .rw[aN,dU];exact af.gE (fT.set w4 f 9 _) (λb6 hq e=>fK af y aB (by rw[hq,e]))
        .intro b6 hq;have:N V=N b6:=hq;cases this;obtain e|e:=h.own
         .exact j.2 V e
         .exact aX (aX bb aa.4) e
        .intro b6 hp;obtain hp|hp:=bV.1 hp
         .exact(j.3 b6 hp).keeps a4 aB
         .rw[bT.1 hp];exact ae.keeps a4 aB
     .have d:¬(b.1:Int)<=(n:Int):=by omega
      go_wp2;go_roundg (ot E)
      case measure=>have:=q.2.2.2.2.2.2.2.1;omega
      case rel=>
       let⟨t,ae,j,F,G⟩:=HY.out;let⟨m,L,I,hS,ad,ao,x,am,ab⟩:=q.out;have W:=p.2.1;refine⟨E,f',a,C,r,?_,R,aA,aA,by have:=p.1;grind,?_,t,j,F,G⟩
       .rw[<-hE]
       .rw[<-W,L,x];unfold Wi;simp[bl]
open Dv (Zq)
open Fr (fG)
section
variable {w:pn}{g b a n j:Nat}
def oJ(u)(g b n a m:Nat)(x:Int)(c:m<n)(e:x=m):(Yc 35 (U (N ⟨g,b,X⟩) n a) (ox pg x)).run PQ u=.ok (pm (N ⟨g,b+m*8,X⟩)) u:=by subst e;simp[Yc,go_sem,(o9 sizeOf62),c]
def qP(u)(g b n a m:Nat)(x:Int)(c:m<n)(e:x=m):(Yc 25 (U (N ⟨g,b,X⟩) n a) (ox pg x)).run PQ u=.ok (pm (N ⟨g,b+m*4,X⟩)) u:=by subst e;simp[Yc,go_sem,(o9 sizeOf42),c]
def xR:(PQ.info? 62).map (λi=>(i.8,i.3,i.4))=N (N (we #[ox pg 0,ox pg 0,ox pg 0,ox pg 0,ox pg 0,U X 0 0,U X 0 0,ox pg 0]),8,96):=Zm
def AQ{c}(h:fM w 62 8 (U (N ⟨g,b,X⟩) n a) n (c.flatMap gA))(d:n=M c){p}(hp:c[j]? =N p):Z w ⟨g,b+j*8,X⟩=N (ox pg p.1.1)/\Z w ⟨g,b+j*8+1,X⟩=N (ox pg p.1.2)/\Z w ⟨g,b+j*8+2,X⟩=N (ox pg p.1.3)/\Z w ⟨g,b+j*8+3,X⟩=N (ox pg p.1.4)/\Z w ⟨g,b+j*8+4,X⟩=N (ox pg p.1.5)/\Z w ⟨g,b+j*8+5,X⟩=N p.2.1/\Z w ⟨g,b+j*8+6,X⟩=N p.2.2/\Z w ⟨g,b+j*8+7,X⟩=N (ox pg p.1.8):=by
 subst d;have k:=λi u hi (e:(gA p)[i]? =N u)=>Rd.rec gA 8 (λ_=>R) h.rd hp (i:=i) (u:=u) hi e;exact⟨k 0 _ aA R,k 1 _ aA R,k 2 _ aA R,k 3 _ aA R,k 4 _ aA R,k 5 _ aA R,k 6 _ aA R,k 7 _ aA R⟩
structure wR(p:Lo):Prop where
 num:p.1<4611686018427387904
 t0:-4611686018427387904<p.2
 t1:p.2<4611686018427387904
 ep:p.3<4611686018427387904
 seq:p.5<4611686018427387904
def Oi(c vc a2 a3 bp ps d p)(h F n f:Nat)(tv i w)(hw:gq w h c vc a2 a3 bp)(b0:F<=h)(k:B6 w F bp d)(hp:d[M d-1]? =N p)(ht:wR p.1)(hl:M d<=4294967296)(cn:0<=c.6/\c.6<=20)(T:iy w vc ps)(u)(E:ps[f]? =N u)(cm:M ps<=4294967296)(au:M u.1.4<=4294967296/\∀x∈u.1.4,M x<=65536)(ad:jk w F tv i):tf PQ 65 #[pm (N ⟨h,0,X⟩),ox pg f,tv,ox pg n] w λl w'=>l=qs (sh #[])/\∃v' q,gq w' h c vc a2 a3 v'/\B6 w' F v' (d++[q])/\q.1=Dv.lay c (ps.map p9) n p.1 f i/\Below F w w'/\fN [89,62] w w':=by
 obtain⟨m,hm⟩:∃m,m=M d-1:=⟨_,R⟩
 have bc:m<M d:=by rw[hm];exact(aJ.1 hp).1
 rw[<-hm]at hp;obtain⟨g,b,a,rfl,ck⟩:=k.1.pos aA;obtain⟨ug,aj,a1,rfl,co,-⟩:=T.1.pos (by have:=(aJ.1 E).1;omega);have cp:f<M ps:=(aJ.1 E).1;obtain⟨y,z,rfl⟩:=ad.1.slice;let⟨va,ci,ay⟩:=T.2 u (aS E) |>.1.slice;let⟨vl,ct,az⟩:=Rd.slice (T.2 u (aS E)).2.1
 have iO:(ps.map p9)[f]! =u.1:=by
  rw[getElem!_def,cT,E];rfl
 let⟨k0,k1,k2,k3,k4,k5,k6,k7⟩:=AQ k.1 R hp;obtain⟨⟨s,t,l,id,sq,lt,ld,at_⟩,pt,pd⟩:=p;obtain⟨t1,t2,t3,t4,t5⟩:=ht;let⟨cg,ch,bg⟩:=(k.3 _ (aS hp)).1.1.slice;let⟨ce,cf,bf⟩:=(k.3 _ (aS hp)).2.1.slice;dsimp only at k0 k1 k2 k3 k4 k5 k6 k7 t1 t2 t3 t4 t5 bg bf;subst bg bf;have an:Z w ⟨h,10,X⟩=N (U (N ⟨g,b,X⟩) (M d) a):=im
 have av:(M d:Int)-1=m:=aA
 have bd:IntKind.i64.wrap ((M d:Int)-1)=m:=by rw[av,IntKind.wrap_i64];omega
 have b2:∀u,(Yc 35 (U (N ⟨g,b,X⟩) (M d) a) (ox pg ((M d:Int)-1))).run PQ u=.ok (pm (N ⟨g,b+m*8,X⟩)) u:=λu=>oJ u _ _ _ _ m _ bc av;have b3:∀u,(Yc 35 (U (N ⟨g,b,X⟩) (M d) a) (ox pg (IntKind.i64.wrap ((M d:Int)-1)))).run PQ u=.ok (pm (N ⟨g,b+m*8,X⟩)) u:=λu=>oJ u _ _ _ _ m _ bc bd;have C:=k.1.lt (g:=g) R;have bz:=hw.lt;have A:=λ(o:ZG)=>pb (aH ↑w w) fI o;have bq:=λo=>oy (qi (A o) (p:=⟨h,10,X⟩) bz) an;have b5:=λo=>oy (qi (A o) (p:=⟨g,b+m*8,X⟩) C) k0;have b6:=λo=>oy (qi (A o) (p:=⟨g,b+m*8+1,X⟩) C) k1;have b7:=λo=>oy (qi (A o) (p:=⟨g,b+m*8+2,X⟩) C) k2;have b8:=λo=>oy (qi (A o) (p:=⟨g,b+m*8+3,X⟩) C) k3;have b9:=λo=>oy (qi (A o) (p:=⟨g,b+m*8+4,X⟩) C) k4;have cb:=λo=>oy (qi (A o) (p:=⟨g,b+m*8+5,X⟩) C) k5;have cc:=λo=>oy (qi (A o) (p:=⟨g,b+m*8+6,X⟩) C) k6;have cd:=λo=>oy (qi (A o) (p:=⟨g,b+m*8+7,X⟩) C) k7;clear A;have H:qu _:=fE hw (fE k (fE T (fE E (fE au (fE ad (fE iO (fE hp (fE ay az))))))));clear hw k T E au ad iO hp ay az hm av bd;go_enter (fq func65 R),ntmps65;go_upto_region 0 with fail;go_cut [8] (λv e=>v=pm (N ⟨↑w,0,X⟩)/\qu (e.1[w.1.size]? =N (pj #[ox pg s,ox pg t,ox pg l,ox pg id,ox pg sq,U cg (M lt) ch,U ce (M ld) cf,ox pg at_] 62 (0,0))/\Below ↑w w e))
 case first=>
  go_region
  all_goals
   go_wp2;go_meet;exact⟨R,sv _ _,rk (pb (aH _ w) fI _)⟩
 case rest=>
  rename pn=>wa
  obtain⟨rfl,x⟩:=hcut;clear an k0 k1 k2 k3 k4 k5 k6 k7 bq b5 b6 b7 b8 b9 cb cc cd b2 b3;let⟨h0,h1,h2,h3,h4,h5,h6,h7⟩:=gS x.1;have ai:=H.1.fF x.2;have c5:Z wa ⟨h,5,X⟩=N (ox pg c.6):=by rw[ai.cell];rfl
  have c7:Z wa ⟨h,7,X⟩=N (U (N ⟨ug,aj,X⟩) (M ps) a1):=by rw[ai.cell];rfl
  have ax:=(H.2.2.1.fF x.2)
  have V:=(ax.get H.2.2.2.1).1
  have b1:ug<↑wa:=by
   obtain⟨r,B,j,e,_,hl,_⟩:=ax.1.pos aA;simp only[ry,aI,Addr.mk.injEq,and_true,true_and]at e;rw[e.1.1];exact hl
  have ba:=ai.lt;have aq:=(fO x.1)
  have A:=λ(o:ZG)=>pb (aH ↑wa wa) fI o;have br:=λo=>oy (qi (A o) (p:=⟨h,5,X⟩) ba) c5;have bs:=λo=>oy (qi (A o) (p:=⟨h,7,X⟩) ba) c7;have bo:=λo=>oy (qi (A o) (p:=⟨ug,aj+f*4,X⟩) b1) V;have bu:=λo=>oy (qi (A o) (p:=⟨↑w,0,X⟩) aq) h0;have bv:=λo=>oy (qi (A o) (p:=⟨↑w,1,X⟩) aq) h1;obtain⟨G,ah⟩:∃af,u.1.1=af:=⟨_,R⟩
  rw[ah]at V;rw[ah]at bo;have a5:qu _:=ah;have cl:(f:Int)<M ps:=aA
  clear A ai ax ah;go_upto_region 1 with fail;go_cut [9] (λv e=>v=pm (N ⟨↑wa,0,X⟩)/\qu (e.1[wa.1.size]? =N (pj #[ox pg ((s:Int)+1),ox pg (t+c.6),ox pg f,ox pg G,ox pg 0,U y (M i) z,U X 0 0,ox pg n] 62 (0,0))/\Below ↑wa wa e))
  case first=>
   go_region
   all_goals
    go_wp2;go_meet;exact⟨R,sv _ _,rk (pb (aH _ wa) fI _)⟩
  case rest=>
   rename pn=>wb
   obtain⟨rfl,r⟩:=hcut;clear c5 c7 V br bs bo bu bv h0 h1 h2 h3 h4 h5 h6 h7;have aa:=ow x.2 (o5 r.2 x.2.4);let⟨h0,h1,h2,h3,h4,h5,h6,h7⟩:=gS (oy (r.2.5 _ aq) x.1);let⟨x0,x1,x2,x3,x4,x5,x6,x7⟩:=gS r.1;have fx:=aM r.1;have bj:=H.1.fF aa;have aw:=H.2.2.1.fF aa;let⟨V,u1,u2,u3⟩:=aw.get H.2.2.2.1;rw[a5.out]at V;obtain⟨ut,bh⟩:∃af,u.1.2=af:=⟨_,R⟩
   rw[bh]at u1;rw[H.out.2.2.2.2.2.2.2.2.1]at u2;rw[H.out.2.2.2.2.2.2.2.2.2]at u3;have c7:Z wb ⟨h,7,X⟩=N (U (N ⟨ug,aj,X⟩) (M ps) a1):=by rw[bj.cell];rfl
   have ap:=qE G ut (U va (M u.1.3) ci) _ ⟨_,_,_,R⟩ u.1.4 wb (aw.2 u (aS H.2.2.2.1)).2.1 H.2.2.2.2.1.1 H.2.2.2.2.1.2;rw[H.out.2.2.2.2.2.2.2.2.2]at ap;have ak:qu _:=λ(_:Unit)=>ap;have b4:=(fO r.1)
   obtain⟨L,hL⟩:∃L,M u.1.4=L:=⟨_,R⟩
   obtain⟨TL,a8⟩:∃L,M u.1.3=L:=⟨_,R⟩
   rw[hL]at u3 ak;rw[a8]at u2 ak;obtain⟨DL,a6⟩:∃L,M (u.1.4.filter Dv.isDep)=L:=⟨_,R⟩
   have HL:qu _:=fE a6 aa;have bb:F<=w.1.size:=aA
   have cr:=aa.4;clear ap aw bj bh hL a8 a6 aa;go_upto_if 48 with fail;go_cut [9] (λv e=>v=pm (N ⟨↑wa,0,X⟩)/\∃(j:Option zm)(D B:Nat),qu (e.1[wa.1.size]? =N (pj #[ox pg ((s:Int)+1),ox pg (t+c.6),ox pg f,ox pg G,ox pg ((if f=l then sq+1 else 0:Nat):Int),U y (M i) z,U j D B,ox pg n] 62 (0,0))/\jk e F (U j D B) (if f=l then []else fV u.1)/\Below ↑wa wa e))
   case first=>
    by_cases D:f=l
    .have j:((f:Int) == (l:Int))=pw:=by rw[D];exact beq_self_eq_true _
     have e:qu _:=D;clear D;go_wp2;go_meet;refine⟨R,X,0,0,?_,?_,ph r.2 (p:=⟨↑wa,4,X⟩) fI _⟩
     .rw[Zb e.out];exact uk r.1 (i:=4) _
     .rw[Zb e.out];exact⟨fM.nil _ _ _,gh⟩
    .have ab:((f:Int) == (l:Int))=pi:=Zc aA;have J:qu _:=D;clear D;go_wp2_with (go_at_call 33;refine aO (ak ()) ?_;rintro Y W ⟨P,Q,K,e,B⟩;rw[HL.out.1]at K;subst K;have j:=oy (B.5 _ b4) r.1;let⟨y0,y1,y2,y3,y4,y5,y6,y7⟩:=gS j;have fy:=aM j;have O:qu _:=fE e (fE B j);clear e B j)
     go_meet;let⟨e,B,j⟩:=O.out;refine⟨R,P,DL,Q,?_,?_,ph (ow r.2 (o5 B r.2.4)) (p:=⟨↑wa,6,X⟩) fI _⟩
     .rw[Za J.out];exact uk j (i:=6) _
     .rw[Za J.out];rw[HL.out.1]at e;refine⟨?_,λq I=>aX aA (e.2 q I)⟩;exact e.1.gE (fT.set W _ 6 _) (λq I S=>fK e.1 j aB (by rw[I,S]))
   case rest=>
    rename pn=>wd
    obtain⟨rfl,I,K,J,HD⟩:=hcut;have B:=ow x.2 (o5 HD.2.2 x.2.4);have ae:=H.1.fF B;clear h0 h1 h2 h3 h4 h5 h6 h7 x0 x1 x2 x3 x4 x5 x6 x7 fx V u1 u2 u3 c7;let⟨x0,x1,x2,x3,x4,x5,x6,x7⟩:=gS HD.1;obtain⟨S,Y⟩:∃S,(if f=l then sq+1 else 0)=S:=⟨_,R⟩
    rw[Y]at x4;have an:Z wd ⟨h,10,X⟩=N (U (N ⟨g,b,X⟩) (M d) a):=by rw[ae.cell];rfl
    have fk:=aM ae;have Q:=H.2.1.1.fF B;have bx:=ae.lt;have a4:qu (∀o,fM (o6 wd o).drew 62 8 (U (N ⟨g,b,X⟩) (M d) a) (M d) (d.flatMap gA)):=λo=>Q.kept λg hg=>dE _ _ _ (Q.lt hg);have HK:qu (∀o,gq (o6 wd o).drew h c (U (N ⟨ug,aj,X⟩) (M ps) a1) a2 a3 (U (N ⟨g,b,X⟩) (M d) a)):=λo=>oy (dE _ _ _ bx) ae;have ca:∀o,Z (o6 wd o) ⟨h,10,X⟩=N (U (N ⟨g,b,X⟩) (M d) a):=λo=>(HK o).cell 10;let⟨i0,a9,bk,bl,bm⟩:=yk xR;have Hi:qu _:=fE a9 (fE bk (fE bl bm));have HS:qu _:=fE Y (fE B Q);have t6:∀u∈[ox pg ((s:Int)+1),ox pg (t+c.6),ox pg f,ox pg G,ox pg S,U y (M i) z,U I K J,ox pg n],sw u=pw:=by intro af hx;simp at hx;rcases hx with rfl|rfl|rfl|rfl|rfl|rfl|rfl|rfl<;>rfl
    have t7:∀j u,[ox pg ((s:Int)+1),ox pg (t+c.6),ox pg f,ox pg G,ox pg S,U y (M i) z,U I K J,ox pg n][j]? =N u->Z (o6 wd (pj #[ox pg ((s:Int)+1),ox pg (t+c.6),ox pg f,ox pg G,ox pg S,U y (M i) z,U I K J,ox pg n] 62)).drew ((⟨↑wd,0,X⟩:zm).add j)=N u:=by intro j af e;match j,e with|0,e=>(simp at e;subst e;simp[sf])|1,e=>(simp at e;subst e;simp[sf])|2,e=>(simp at e;subst e;simp[sf])|3,e=>(simp at e;subst e;simp[sf])|4,e=>(simp at e;subst e;simp[sf])|5,e=>(simp at e;subst e;simp[sf])|6,e=>(simp at e;subst e;simp[sf])|7,e=>(simp at e;subst e;simp[sf])
    have t8:M d+1<=maxLen:=aE
    have am:qu _:=fE t6 (fE t7 t8);clear t6 t7 t8 a9 bk bl bm Y B Q ae;go_upto_region 5 with fail;go_region_law ((refine jK (by rfl) (sn 66) (sn 68) 35 (by rfl) 62 i0 8 96 (uq Tryz.underlying35) Hi.1 Hi.2.1 Hi.2.2.1 Hi.2.2.2 (by rfl) aB _ (M d) (d.flatMap gA) (by rfl) (a4 _) ⟨↑wd,0,X⟩ 1 1 _ (by rfl) aB (by rfl) am.2.1 am.1 am.2.2 aA ?_;intro W a0 ao w4 ac O;have D:=O.keep (a4 _) (HK _) aB;have cj:=aM D;have cs:Z w4 ⟨h,10,X⟩=N (U (N ⟨g,b,X⟩) (M d) a):=(aG D 10);have H4:qu _:=fE ac (fE O D);clear ac O D))
    all_goals
     go_wp2;go_end0;let⟨hw,k,T,E,au,ad,iO,hp,ay,az⟩:=H.out;let⟨Y,B,Q⟩:=HS.out;let⟨ac,O,D⟩:=H4.out;have ar:F<=wd.1.size:=aX bb B.4;have ab:=rk (pb (aH _ wd) fI (pj #[ox pg ((s:Int)+1),ox pg (t+c.6),ox pg f,ox pg G,ox pg S,U y (M i) z,U I K J,ox pg n] 62));have bw:=ph (ow (ow (o5 B bb) (o5 ab ar)) (iD O k.2 (aX ar ab.4))) (p:=⟨h,10,X⟩) b0 (U (N ⟨W,a0,X⟩) (M d+1) ao);have a7:fN [89,62] wd (o3 w4 ⟨h,10,X⟩ (U (N ⟨W,a0,X⟩) (M d+1) ao)):=((fN.fF _ ab).trans (qY O (Q.fF ab) aC)).trans (fN.set D aC _ _);have ag:=(fN.fF (ts:=[89,62]) B).trans a7;refine⟨R,U (N ⟨W,a0,X⟩) (M d+1) ao,(Dv.lay c (ps.map p9) n ⟨s,t,l,id,sq,lt,ld,at_⟩ f i,U y (M i) z,U I K J),uk D (i:=10) _,⟨?_,?_,?_⟩,R,bw,ag⟩
     .rw[aN,dU]
      have P:[((Dv.lay c (ps.map p9) n ⟨s,t,l,id,sq,lt,ld,at_⟩ f i,U y (M i) z,U I K J):PL)].flatMap gA=[ox pg ((s:Int)+1),ox pg (t+c.6),ox pg f,ox pg G,ox pg S,U y (M i) z,U I K J,ox pg n]:=by
       unfold Dv.lay gA;rw[iO,a5.out,<-Y];rfl
      rw[P];exact ac.gE (fT.set w4 h 10 _) (λq P e1=>fK ac D aB (by rw[P,e1]))
     .intro q hq;have:N W=N q:=hq;cases this;obtain P|P:=O.own
      .exact k.2 W P
      .exact aX (aX ar ab.4) P
     .intro q P;obtain P|P:=bV.1 P
      .exact⟨(k.3 q P).1.keeps ag aB,(k.3 q P).2.keeps ag aB⟩
      .rw[bT.1 P];refine⟨ad.keeps ag aB,?_⟩;have:=HD.2.1.keeps a7 aB;unfold Dv.lay;dsimp only;rw[iO];exact this
end
section
variable {bs:List PW}{V:pn}{b d:Nat}{v:po}
section
variable {P:th}(w:pn){ops:Array OF}{rest:List OF}{o:OF}{a:Act}{Q:qaC->Act->pn->Prop}
def jI(r:o.6=X)(s x:ZT)(t:wj)(A:o.2=.call { callee:=.builtin .append,args:=#[s,x],argTypes:=#[t,t] })(e:wj)(i:qaH)(z:po)(size bytes:Nat)(D:P.underlying t=N (.slice e))(u:P.info? e=N i)(S:i.8=N z)(C:i.3=size)(H:i.4=bytes)(T:qd z.cells=size)(O:0<size)(v:po)(n:Nat)(xs:List po)(B:a.eval s=v)(p:fM w e size v n xs)(f:Option zm)(m c:Nat)(d:List po)(E:a.eval x=U f m c)(J:M d=m*size)(L:0<m->∃j,f=N j/\∀k l,d[k]? =N l->Z w (j.add k)=N l)(F:∀j∈d,sw j=pw)(G:n+m<=maxLen)(I:(n+m)*bytes<=140737488355328)(h:∀j l q,fM q e size (U j (n+m) l) (n+m) (xs++d)->fT (λk=>ov v=N k) w q->(∀g,ov (U j (n+m) l)=N g->ov v=N g\/w.1.size<=g)->wpList P ops Q rest (a.put o.1 (U j (n+m) l)) q):wpList P ops Q (o::rest) a w:=by
 by_cases y:0<m
 .obtain⟨j,rfl,k⟩:=L y;exact fX w r s x t A e i z size bytes D u S C H T O v n xs B p j m c d E y J k F G I λg V b W l q=>h _ _ _ l q.gE λK e=>by cases e;exact q.own
 .obtain rfl:m=0:=by omega
  obtain rfl:d=[]:=bC aA;refine Z5 r λK hK=>?_;obtain⟨j,b,rfl⟩:=p.slice
  have hc:n<=b:=by
   obtain⟨_,l,q,e,hc,_⟩:=p.rd;cases e;exact hc
  have k:(Builtin.append_ #[t,t] o.3 #[U j n b,U f 0 c]).run P w=.ok (U j n b) w:=by
   have l:(sizeOf e).run P w=.ok size w:=by rw[<-C];simp[sizeOf,typeInfo,u]
   cases j<;>cases f<;>simp[Builtin.append_,run_underlying D,l,hc,Builtin.lenOf,Builtin.firstCells,storeCells,loadCells,loadCellsFrom]
  have:=h j b w (by grind) (.refl _ _) λg e=>rr e;unfold Oper.wp rj;simp only[A,resolve,invoke,builtin,eM,Sem.run_pure,dT,dC,cL,dB,B,E,k];exact hK _ _ this
end
def Un(x y:Int):(x<y/\decide (x<y)=pw)\/(¬x<y/\decide (x<y)=pi):=by grind
def XP(x y:Nat):((x:Int)<y/\decide ((x:Int)<y)=pw/\decide (x<y)=pw/\x<y)\/(¬(x:Int)<y/\decide ((x:Int)<y)=pi/\decide (x<y)=pi/\¬x<y):=by grind
def Ww(x y:Nat):(((x:Int) == (y:Int))=pw/\(x == y)=pw/\x=y)\/(((x:Int) == (y:Int))=pi/\(x == y)=pi/\x≠y):=by grind
def XT(x y:Nat):((x:Int)+1<y/\decide ((x:Int)+1<y)=pw/\decide (x+1<y)=pw/\x+1<y)\/(¬(x:Int)+1<y/\decide ((x:Int)+1<y)=pi/\decide (x+1<y)=pi/\¬x+1<y):=by grind
def XJ(x y:Nat):((x:Int)<(y:Int)+1/\decide ((x:Int)<(y:Int)+1)=pw/\decide (x<y+1)=pw/\x<y+1)\/(¬(x:Int)<(y:Int)+1/\decide ((x:Int)<(y:Int)+1)=pi/\decide (x<y+1)=pi/\¬x<y+1):=by grind
def XS(x y:Nat):(((x:Int) == (y:Int)+1)=pw/\(x == y+1)=pw/\x=y+1)\/(((x:Int) == (y:Int)+1)=pi/\(x == y+1)=pi/\x≠y+1):=by grind
def Oc(h:∀q∈bs,sw q.2=pw):∀u∈bs.flatMap gG,sw u=pw:=by
 intro u a;let⟨q,b,a⟩:=Ys.1 a;unfold gG at a;simp at a;obtain rfl|rfl|rfl|rfl|rfl:=a
 .rfl
 .rfl
 .rfl
 .exact h q b
 .rfl
def F1{f wg c n i}(h:fM V f 5 (U (N ⟨wg,c,X⟩) n b) n (bs.flatMap gG))(d:i<=M bs):∀j u,((bs.drop i).flatMap gG)[j]? =N u->Z V ((⟨wg,c+i*5,X⟩:zm).add j)=N u:=λj u e=>by
 have a:M ((bs.take i).flatMap gG)=i*5:=by rw[jm gG 5 jw,bA,dF d]
 have:=h.cell R (i*5+j) u (by
  rw[<-List.take_append_drop i bs,dU,bF (by rw[a];omega),a,Nat.add_sub_cancel_left];exact e)
 unfold sf
 grind
def tA{w a c vc vch vwa hh k i kb}(hw:gq w kb c vc vch vwa hh)(o:d<=kb)(r:CX w d vwa bs)(n:B6 w d hh i)(b:Below w.1.size w a)(h:fM a 127 5 v (M k) (k.flatMap gG))(p:∀g,ov v=N g->w.1.size<=g)(m:∀q∈k,q∈bs):gq (o3 a ⟨kb,9,X⟩ v) kb c vc vch v hh/\CX (o3 a ⟨kb,9,X⟩ v) d v k/\B6 (o3 a ⟨kb,9,X⟩ v) d hh i/\Below d w (o3 a ⟨kb,9,X⟩ v)/\fN [89,127,62] w (o3 a ⟨kb,9,X⟩ v):=by
 have f:=hw.fF b;have s:=hw.lt;have hK:fN [89] w (o3 a ⟨kb,9,X⟩ v):=(fN.fF _ b).trans (fN.set f aC _ _);refine⟨uk f (i:=9) v,⟨h.gE (fT.set a kb 9 v) (λq e j=>fK h f aB (by rw[e,j])),λg l=>aX aA (p g l),λq e=>(r.3 q (m q e)).keeps hK aB⟩,n.keeps hK aB aB,ph (o5 b aA) (p:=⟨kb,9,X⟩) o _,hK.mono aC⟩
def RP(c:Cf)(chain:List Zq)(n:Nat)(p:Lo)(k:List Ba):Dv.Out->Option Lo×List Ba
 |.hold=>(X,k)
 |.got b=>(N (Dv.lay c chain n p b.1 b.4),k)
 |.no=>if (n:Int)<=p.3+c.4 then(X,k)else(N (Dv.lay c chain n p (if (chain[p.3+1]!).2<=p.2+c.6 then p.3+1 else p.3) []),k)
def CN{c chain n p l o k}(h:Dv.sift c chain n p.3 (p.2+c.6) l=(o,k)):Dv.draw c chain n p l=RP c chain n p k o:=by unfold Dv.draw;rw[h];cases o<;>rfl
def yK(c:Cf)(chain:List Zq)(n:Nat)(p:Lo)(bs a:List PW)(d e:List PL)(b:Bool):=
 match Dv.draw c chain n p (bs.map p9)with
 |(X,k)=>b=pi/\e=d/\a.map p9=k
 |(N x,k)=>b=pw/\(∃q:PL,q.1=x/\e=d++[q])/\a.map p9=k
def sJ(c:Cf)(vc vch:po)(chain:List Zq)(bs:List PW)(i:List PL)(p:Lo)(kb d n:Nat)(w:pn)(e:Ending)(w':pn):=∃b g h a f,e=qs (rh b)/\gq w' kb c vc vch g h/\CX w' d g a/\B6 w' d h f/\yK c chain n p bs a i f b/\Below d w w'/\fN [89,127,62] w w'
noncomputable def qo:vy:=match z8.9 with
 |some c=>c
 |_=>.ret
noncomputable def vX:vy:=cq [1,1,1,1,1,0,1,4,5,1,0,4] qo
noncomputable def QI:vy:=cq [1,1,1,0] vX
structure AF(tm:Array po)(kb n e:Nat)(t:Int)(kv:po)(i xb:Nat)(rv:po):Prop where
 size:qd tm=252
 s0:tm[0]? =N (pm (N ⟨kb,0,X⟩))
 s1:tm[1]? =N (ox pg n)
 s6:tm[6]? =N (ox pg e)
 s7:tm[7]? =N (ox pg t)
 s8:tm[8]? =N kv
 s9:tm[9]? =N (ox pg i)
 s10:tm[10]? =N (pm (N ⟨xb,0,X⟩))
 s11:tm[11]? =N rv
structure Qo(w:pn)(xb be bi bt bp:Nat)(tv:po):Prop where
 obj:w.1[xb]? =N (pj #[ox pg be,ox pg bi,ox pg bt,tv,ox pg bp] 127 (0,0))
section
variable {tm:Array po}{w:pn}{kb n e i xb be bi bt bp bn:Nat}{t:Int}{kv rv vc vch vwa hh:po}{c:Cf}{bta:Option zm}{btc:Nat}{Q:qaC->Act->pn->Prop}
def Mk{L}(h:AF tm kb n e t kv i xb rv)(hw:gq w kb c vc vch vwa hh)(f:Qo w xb be bi bt bp (U bta bn btc))(d:(decide ((bt:Int)<t) || decide (be<e) || decide (e+1<be) || decide ((be:Int)+c.4<(bp:Int)))=L)(D:e<4611686018427387904)(C:be<4611686018427387904)(E:1<=c.4/\c.4<=8)(j:L=pw->∀b u,AF b kb n e t kv i xb rv->Below ↑w w u->Q (.exit 1) ⟨b,[]⟩ u)(g:L=pi->∀b u,AF b kb n e t kv i xb rv->Below ↑w w u->Q .normal ⟨b,[]⟩ u):QI.wp PQ Q ⟨tm,[]⟩ w:=by
 obtain⟨a,k,l,p,q,r,s,m,o⟩:=h;obtain⟨x,rfl,a⟩:=jg a
 iterate 252 (obtain⟨_,x,rfl,b⟩:=je a;clear a;have a:=b;clear b)
 obtain rfl:=List.length_eq_zero_iff.1 a;clear a;simp only[cN,cM,cG,aI]at k l p q r s m o;subst k l p q r s m o
 as_aux_lemma=>
  let⟨F,G,I,J,K,O⟩:=gV f.1;have B:Z w ⟨kb,3,X⟩=N (ox pg c.4):=im
  have H:qu _:=fE d (fE j g);clear d j g hw f;simp only[QI,vX,qo,cq,z8];obtain⟨z,v⟩|⟨z,v⟩:=Un bt t
  case' inr=>obtain⟨A,b,u,y⟩|⟨A,b,u,y⟩:=XP be e
  case' inr.inr=>obtain⟨A,b,u,y⟩|⟨A,b,u,y⟩:=XT e be
  case' inr.inr.inr=>obtain⟨u,b⟩|⟨u,b⟩:=Un (be+c.4) bp
  all_goals
   go_upto_region 12 with fail;go_quiet (fail);go_wp2
   first
    |exact H.2.1 nt _ _ ⟨R,R,R,R,R,R,R,R,R⟩ mm
    |exact H.2.2 nt _ _ ⟨R,R,R,R,R,R,R,R,R⟩ mm
end
end
open Dv (Zq)
section
variable {W:pn}{b e n Zn:Nat}{v:po}{most:Int}{cs a:List (Ch×po)}
def Gp{s xs}(h:fM W e s v n xs)(j:∀g,ov v=N g->b<=g):uC W b e s v n xs:=by
 have f:=h.1;obtain⟨rfl,rfl⟩|⟨g,l,a,c,rfl,d,i,_,_,k⟩:=h.2
 .exact rr ⟨R,bC aA,X,0,R⟩
 .exact rz ⟨g,l,a,c,(0,0),R,i,j g R,d,f,k⟩
structure oG(Zn:Nat)(most:Int)(cs:List (Ch×po)):Prop where
 len:M cs<=Zn
 L6:∀p∈cs,Dv.wR p.1.3/\M p.1.3<=Zn
 fits:jL most (cs.map p9)
def oG.mono{M'}(h:oG Zn most cs)(a:Zn<=M'):oG M' most cs:=⟨aX h.1 a,λp b=>⟨(h.2 p b).1,aX (h.2 p b).2 a⟩,h.3⟩
def oG.SU(h:oG Zn most cs)(b:Zn<=1048576):Md cs:=λp a=>⟨(h.2 p a).1,aX (h.2 p a).2 b⟩
def AC{cs f x}(h:x∈Dv.frame most n cs f):x∈cs\/(∃c,c∈cs/\x=Dv.joined most c f)\/x=Dv.joined most ⟨f.1,n,[],pi⟩ f:=by
 unfold Dv.frame at h;split at h
 .obtain h|h:=bV.1 h
  .exact rr (dD.1 h).1
  .exact rz (rz (bT.1 h))
 .obtain⟨c,hc,rfl⟩:=bB.1 h;split
  .exact rz (rr ⟨c,hc,R⟩)
  .exact rr hc
def oG.frame{f}(g:0<=most)(h:oG Zn most cs)(d:f.2<65536/\M f.3<=65536)(c:a.map p9=Dv.frame most n (cs.map p9) f):oG (Zn+1) most a:=by
 refine⟨?_,λp i=>?_,by rw[c];exact xZ g h.3⟩
 .have:=AH most n (cs.map p9) f;rw[<-c,aV,aV]at this;have:=h.1;omega
 .have b:p.1∈a.map p9:=bB.2 ⟨p,i,R⟩;rw[c]at b;obtain b|⟨k,hc,b⟩|b:=AC b
  .let⟨q,j,e⟩:=bB.1 b;have:=h.2 q j;rw[e]at this;exact⟨this.1,aA⟩
  .let⟨q,j,e⟩:=bB.1 hc;have:=h.2 q j;rw[e]at this;rw[b];exact⟨vJ this.1 d,aX (yD _ _ _) aA⟩
  .rw[b];exact⟨vJ (by intro x b;simp at b) d,aX (yD _ _ _) aC⟩
def oG.sub(h:oG Zn most cs)(b:a.Sublist cs):oG Zn most a:=⟨aX b.length_le h.1,λp d=>h.2 p (b.subset d),λc hc=>h.3 c ((b.map p9).subset hc)⟩
def EW(c:Cf)(i j:po)(u:Zq)(cs:List Ch)(bs:List Ba)(Zn h b n:Nat)(w:pn)(e:Ending)(w':pn):=e=qs (sh #[])/\∃f a g d,gq w' h c i f g j/\iH w' b f a/\oG (Zn+4440) c.7 a/\CX w' b g d/\(a.map p9,d.map p9)=Dv.take c u n cs bs/\Below b w w'/\fN [89,127] w w'
def KR:(PQ.info? 121).map (λi=>(i.8,i.3,i.4))=N (N (we #[ox sr 0,ox pg 0,U X 0 0,rh pi]),4,48):=Zm
noncomputable def rJ:vy:=match Tryz.f34.9 with
 |some c=>c
 |_=>.ret
structure zE(tm:Array po)(kb n:Nat):Prop where
 size:qd tm=142
 s0:tm[0]? =N (pm (N ⟨kb,0,X⟩))
 s1:tm[1]? =N (ox pg n)
end
open Dv (Zq)
variable {α:Type}{k:Nat}
def DQ(c):fR c=(decide (0<c.3)&&decide (c.3<9)&&decide (0<c.4)&&decide (c.4<9)&&decide (0<=c.5)&&decide (c.5<101)&&decide (1<c.6)&&decide (c.6<21)&&decide (0<c.7)&&decide (c.7<4097)):=by unfold fR;simp only[<-Z2];exact decide_eq_decide.2 aA
def zI(c w):tf PQ 31 #[.agg (fP c)] w λj n=>j=qs (.bool (fR c))/\Below w.1.size w n:=by
 obtain⟨f,a⟩:∃f,fR c=f:=⟨_,R⟩
 rw[a];rw[DQ]at a;obtain⟨m,i,t,e,b,st,d⟩:=c;dsimp only at a;unfold fP;dsimp only;let⟨W,g,h,z⟩:=fL w #[ox sr m,ox sr i,ox pg t,ox pg e,ox pg b,ox pg st,ox pg d] 24;let⟨o,p,q,r,s,u,v⟩:=rD z;have H:qu _:=fE h a;clear h a z;obtain k|k:=X8 (0<t)
 case' inl=>obtain l|l:=X8 (t<9)
 case' inl.inl=>obtain l|l:=X8 (0<e)
 case' inl.inl.inl=>obtain l|l:=X8 (e<9)
 case' inl.inl.inl.inl=>obtain l|l:=X8 (0<=b)
 case' inl.inl.inl.inl.inl=>obtain l|l:=X8 (b<101)
 case' inl.inl.inl.inl.inl.inl=>obtain l|l:=X8 (1<st)
 case' inl.inl.inl.inl.inl.inl.inl=>obtain l|l:=X8 (st<21)
 case' inl.inl.inl.inl.inl.inl.inl.inl=>obtain l|l:=X8 (0<d)
 case' inl.inl.inl.inl.inl.inl.inl.inl.inl=>obtain l|l:=X8 (d<4097)
 all_goals
  go_enter (fq func31 R),ntmps31;go_upto_region 1 with fail;rw[<-g];clear g;go_wp2;go_ret;refine⟨?_,H.1⟩;rw[<-H.out.2];simp[*]
  try omega
def B5:Option Int->Int
 |none=>-1
 |some b=>b
def zS(l:List α)(f k x)(a:l[k]? =N x):(l.take (k+1)).all f=((l.take k).all f&&f x):=by obtain⟨h,rfl⟩:=aJ.1 a;rw[cO h,List.all_append];simp
def N2{l:List α}{f x}(a:l[k]? =N x)(h:f x=pi):l.all f=pi:=by rw[List.all_eq_false];exact⟨x,aS a,by rw[h];simp⟩
def Vh(t:Tx):Bool:=decide (M t.3<=2000)
def okS(s:List UInt8):Bool:=decide (M s<=2000)
def BJ{α:Type}(f:α->Bool)(l:List α)(k:Nat):=(l.take k).all f=pw
def BJ.more{f:α->Bool}{l x}(h:BJ f l k)(b:l[k]? =N x)(a:f x=pw):BJ f l (k+1):=by unfold BJ at h⊢;rw[zS _ _ _ _ b,h,a];rfl
def BJ.all{f:α->Bool}{l}(h:BJ f l (M l)):l.all f=pw:=by unfold BJ at h;rwa[eD]at h
def tC(b:Option Int)(u:Zq):Bool:=match b with
 |none=>decide (0<=u.2/\u.2<=1000000)
 |some b=>decide (b<u.2/\u.2<=b+24)
def FJ(b u):jo b u=(tC b u&&Dv.small u):=by
 cases b<;>rfl
def Jn(b u)(c:∀t,b=N t->0<=t/\t<=4294967296):(tC b u=pi/\((B5 b<0/\u.2<0)\/(B5 b<0/\¬u.2<0/\1000000<u.2)\/(¬B5 b<0/\B5 b<=4294967296/\u.2<=B5 b)\/(¬B5 b<0/\B5 b<=4294967296/\¬u.2<=B5 b/\24<u.2-B5 b)))\/(tC b u=pw/\((B5 b<0/\¬u.2<0/\¬1000000<u.2)\/(¬B5 b<0/\B5 b<=4294967296/\¬u.2<=B5 b/\¬24<u.2-B5 b))):=by
 cases b with
 |none=>
  unfold tC B5;dsimp only;by_cases h:0<=u.2/\u.2<=1000000
  .exact rz ⟨Ze h,rr ⟨aA,aA,aA⟩⟩
  .refine rr ⟨Zd h,?_⟩;by_cases a:u.2<0
   .exact rr ⟨aA,a⟩
   .exact rz (rr ⟨aA,a,aA⟩)
 |some t=>
  unfold tC B5;dsimp only;have:=c t R;by_cases h:t<u.2/\u.2<=t+24
  .exact rz ⟨Ze h,rz ⟨aA,aA,aA,aA⟩⟩
  .refine rr ⟨Zd h,?_⟩;by_cases a:u.2<=t
   .exact rz (rz (rr ⟨aA,aA,a⟩))
   .exact rz (rz (rz ⟨aA,aA,a,aA⟩))
def Jp(u):Dv.small u=((!decide ((20:Int)<M u.3)&&!decide ((20:Int)<M u.4))&&u.3.all Vh&&u.4.all okS):=by
 unfold Dv.small;unfold Vh okS
 congr 2
 rw[<-decide_not,<-decide_not,<-Z2];exact decide_eq_decide.2 aA
def CJ(b u J vl w)(h:lU w u J vl)(E:∀t,b=N t->0<=t/\t<=4294967296)(ad:-9223372036854775808<=u.2/\u.2<=9223372036854775807):tf PQ 32 #[ox pg (B5 b),uN u J vl] w λP w'=>P=qs (.bool (jo b u))/\Below w.1.size w w':=by
 rw[FJ,Jp];unfold uN;have hw:=Jn b u E;obtain⟨ta,tc,rfl⟩:=h.1.slice;obtain⟨Y,lc,rfl⟩:=Rd.slice h.2.1;let⟨W,m,F,z⟩:=fL w #[ox pg u.1,ox pg u.2,U ta (M u.3) tc,U Y (M u.4) lc] 42;let⟨z0,z1,z2,z3⟩:=iP z;obtain⟨B,A⟩:∃B,B5 b=B:=⟨_,R⟩
 rw[A]at hw⊢;obtain⟨O,C⟩:∃O,tC b u=O:=⟨_,R⟩
 rw[C]at hw⊢;obtain⟨id,af,c,a⟩:=u;dsimp only at *;obtain⟨t,n⟩:∃t,(O&&((!decide ((20:Int)<M c)&&!decide ((20:Int)<M a))&&c.all Vh&&a.all okS))=t:=⟨_,R⟩
 rw[n];have i:qu _:=n;clear n;have H:qu _:=fE h (fE F z);have S:=h.2.2.1;have T:=h.2.2.2;have ab:=(fO z)
 clear h F z A C E;dsimp only at S T;obtain⟨rfl,⟨e,f⟩|⟨e,f,l⟩|⟨e,f,l⟩|⟨e,f,l,L⟩⟩|⟨rfl,⟨e,f,l⟩|⟨e,f,l,L⟩⟩:=hw
 case' inr.inl|inr.inr=>obtain v|v:=X8 ((20:Int)<M c)
 case' inr.inl.inr|inr.inr.inr=>obtain y|y:=X8 ((20:Int)<M a)
 case inr.inl.inr.inr|inr.inr.inr.inr=>
  go_enter (fq func32 R),ntmps32;go_upto_region 1 with fail;rw[<-m];clear m;go_wp2;go_loopg [5] (M c) (λd g j=>∃k:Nat,k<=M c/\g=ox pg k/\d=M c-k/\W=j/\qu (BJ Vh c k))
  case atStart=>exact⟨0,bU _,R,R,R,R⟩
  case round=>
   obtain⟨k,Q,rfl,rfl,rfl,d⟩:=hrel;by_cases q:k<M c
   .have V:(k:Int)<M c:=by omega
    obtain⟨x,r⟩:∃x,c[k]? =N x:=⟨_,aK q⟩
    have o:=Rd.fF H.1.1 H.2.1;obtain⟨g,aa,I,D,-⟩:=o.pos kl;simp only[ry,true_and]at D;obtain⟨rfl,rfl⟩:=D;have G:=(ny.get o r).2.2;obtain⟨Zr,p⟩:∃Zr:ByteArray,(⟨py x.3⟩:ByteArray)=Zr:=⟨_,R⟩
    have s:ot Zr=M x.3:=by rw[<-p];rfl
    rw[p]at G;have j:qu _:=fE r s;clear o r p s;by_cases K:(2000:Int)<ot Zr
    .go_wp2;go_ret;refine⟨?_,H.2.1⟩;rw[<-i.out,N2 (f:=Vh) j.out.1 (Zd (by have:=j.out.2;omega))];simp
    .go_wp2;go_roundg (M c-(k+1))
     case measure=>omega
     case rel=>
      refine⟨k+1,aA,by go_num,R,R,?_⟩;exact d.more j.1 (Ze (by have:=j.2;omega))
   .have G:¬(k:Int)<M c:=by omega
    obtain rfl:k=M c:=aA
    have r:=d.all;have K:qu _:=fE r r;clear r;go_wp2;go_loopg [6] (M a) (λj o p=>∃k:Nat,k<=M a/\o=ox pg k/\j=M a-k/\W=p/\qu (BJ okS a k))
    case atStart=>exact⟨0,bU _,R,R,R,R⟩
    case round=>
     obtain⟨k,Q,rfl,rfl,rfl,d⟩:=hrel;by_cases q:k<M a
     .have G:(k:Int)<M a:=by omega
      obtain⟨x,s⟩:∃x,a[k]? =N x:=⟨_,aK q⟩
      have o:=Rd.fF H.1.2.1 H.2.1;obtain⟨g,ae,aa,I,-⟩:=o.pos kl;simp only[ry,true_and]at I;obtain⟨rfl,rfl⟩:=I;have V:=jO.get o s;obtain⟨Zr,p⟩:∃Zr:ByteArray,(⟨py x⟩:ByteArray)=Zr:=⟨_,R⟩
      have D:ot Zr=M x:=by rw[<-p];rfl
      rw[p]at V;have j:qu _:=fE s D;clear o s p D;by_cases ac:(2000:Int)<ot Zr
      .go_wp2;go_ret;refine⟨?_,H.2.1⟩;rw[<-i.out,N2 (f:=okS) j.out.1 (Zd (by have:=j.out.2;omega))];simp
      .go_wp2;go_roundg (M a-(k+1))
       case measure=>omega
       case rel=>
        refine⟨k+1,aA,by go_num,R,R,?_⟩;exact d.more j.1 (Ze (by have:=j.2;omega))
     .have G:¬(k:Int)<M a:=by omega
      obtain rfl:k=M a:=aA
      have j:=d.all;have Hs:qu _:=fE j j;clear j;go_wp2;go_ret;refine⟨?_,H.2.1⟩;rw[<-i.out,K.out.1,Hs.out.1];simp[v,y]
 all_goals
  go_enter (fq func32 R),ntmps32;go_upto_region 1 with fail;rw[<-m];clear m;go_wp2;go_ret;refine⟨?_,H.2.1⟩;rw[<-i.out];simp[*]
end Hm
