import Derived.Test.YtpibpdpedjinhabGreatDoorP28
set_option maxRecDepth 100000
set_option maxHeartbeats 16000000
set_option linter.all false
open Go renaming Calls->eL,Code->eN,Value->aD,World->X,callsIn_wide->iN,heap_alloc_new->cY
open Go.Code renaming seq->bL
open Go.IntKind renaming i64->aE,u16->mb,u32->dT,wrap_i64->gA
open Go.Obj renaming cells->aL
open Go.Value renaming int->N,ownBlock->eE,pointer->aG,slice->aM,string->bE
open Go.World renaming cell?_of_block->cD
open Option renaming none->Z,some->M
open Or renaming inl->bN,inr->cF
namespace Go.Proofs.YtpibpdpedjinhabGreatDoor
namespace Hm
open Go.RowKit Go.Joins Go.Shelf
open Fr (below_drewN)
open Dv (X2 Cf Ba Ch)
section
variable {kb n nb:Nat}{W1 W W' w:X}{cs1 cs:Array aD}{vw1 vw2 vo v vw v9:aD}{ws1 ws2 ws:List PW}{bs:List Ba}{XS:Nat->Prop}{pre:List (List UInt8)}{os:List PC}
structure UI(kb n:Nat)(W1:X)(cs1:Array aD)(vw1:aD)(ws1:List PW)(bs:List Ba)(W:X)(vw2:aD)(ws2:List PW):Prop where
 obj:W.heap[kb]? =M (aL (cs1.setIfInBounds 10 vw2) 100 (0,0))
 row:Row W 118 5 vw2 (ws1++ws2).length ((ws1++ws2).flatMap lV)
 txs:∀p,p∈ws1++ws2->kQ W p.2 p.1.txs
 fst:ws2.map Prod.fst=vY n bs
 own:∀g,vw2.ownBlock=M g->vw1.ownBlock=M g\/W1.heap.size<=g
 jM:jI (λk=>k=kb\/vw1.ownBlock=M k) W1 W
def UI.nU(h:UI kb n W1 cs1 vw1 ws1 bs W vw2 ws2)(hc:jI XS W W')(E:o8 XS W)(z:∀k,k<W1.heap.size->¬XS k):UI kb n W1 cs1 vw1 ws1 bs W' vw2 ws2:=
 ⟨(hc.block _ (jE h.obj) (E _ _ _ _ h.obj)).trans h.obj,uw h.row hc E,λp hp=>(h.txs p hp).jM hc E.str,h.fst,h.own,h.jM.trans hc (λk hk e=>Xs e (z k hk))⟩
def qQ(cs:Array aD)(i:Nat)(u v:aD):(cs.setIfInBounds i u).setIfInBounds i v=cs.setIfInBounds i v:=aC
def PS.aeP{B:Nat->Prop}{E:List Ch}{nm:AL}(h:PS kb nb B E pre W cs vo nm os)(z:W'.heap[kb]? =M (aL (cs.setIfInBounds 10 v) 100 (0,0)))(hc:jI XS W W')(I:∀k,Own nb vo os k->¬XS k):PS kb nb B E pre W' (cs.setIfInBounds 10 v) vo nm os:=
 ⟨z,by rw[aV];simpa using h.named,by rw[aV];simpa using h.order,h.chs.jM hc I,h.len,h.pull,h.own⟩
def Chs.Ub{nm:AL}(h:Chs w nb vo nm os){m:Nat}{xs:List aD}(E:Row w 118 5 v m xs){k:Nat}(hk:v.ownBlock=M k):¬Own nb vo os k:=by obtain⟨z,hc⟩:=E.obj hk;exact h.lK hc aB aB
structure TI(kb nb n:Nat)(w:X)(cs:Array aD)(vw:aD)(ws:List PW)(pre:List (List UInt8))(W:X)(v9 vw1:aD)(ws1:List PW):Prop where
 obj:W.heap[kb]? =M (aL ((cs.setIfInBounds 9 v9).setIfInBounds 10 vw1) 100 (0,0))
 row:Row W 118 5 vw1 (ws++ws1).length ((ws++ws1).flatMap lV)
 txs:∀p,p∈ws++ws1->kQ W p.2 p.1.txs
 fst:ws1.map Prod.fst=pre.flatMap (λs=>Dv.reads s n)
 own:∀g,vw1.ownBlock=M g->vw.ownBlock=M g\/w.heap.size<=g
 jM:jI (λk=>k=kb\/k=nb\/vw.ownBlock=M k) w W
 nbm:NC W nb
 nbl:nb<w.heap.size
def TI.nU(h:TI kb nb n w cs vw ws pre W v9 vw1 ws1)(hc:jI XS W W')(E:o8 XS W)(z:∀k,k<w.heap.size->¬XS k):TI kb nb n w cs vw ws pre W' v9 vw1 ws1:=
 ⟨(hc.block _ (jE h.obj) (E _ _ _ _ h.obj)).trans h.obj,uw h.row hc E,λp hp=>(h.txs p hp).jM hc E.str,h.fst,h.own,h.jM.trans hc (λk hk e=>Xs e (z k hk)),λc t I e=>h.nbm c t I (by rw[<-hc.block nb (aP h.nbl h.jM.size) (z nb h.nbl)];exact e),h.nbl⟩
def TI.turn(h:TI kb nb n w cs vw ws pre W v9 vw1 ws1)(hc:jI (λk=>k=kb\/k=nb) W W')(hE:EK kb W W')(R:NC W' nb):∃J,TI kb nb n w cs vw ws pre W' J vw1 ws1:=by
 obtain⟨v,hv⟩:=hE _ _ _ h.obj
 have z:∀(g:Nat)(E:Array aD)(t:Nat)(Y:Nat×Nat),W.heap[g]? =M (aL E t Y)->t≠100->¬(g=kb\/g=nb):=by
  rintro g E t Y I ht (rfl|rfl)
  .rw[h.obj]at I;simp at I;exact ht I.2.1.symm
  .exact h.nbm _ _ _ I
 refine⟨v,?_,h.row.jM hc (λg I=>?_),λp hp=>Row.jM (h.txs p hp) hc (λg I=>?_),h.fst,h.own,h.jM.trans hc (λk _ e=>e.elim bN (λe=>cF (bN e))),R,h.nbl⟩
 .rw[hv]
  congr 2
  apply gB;intro i;simp only[aV,jh];split
  .rename_i e;subst e;simp
  .rfl
 .obtain⟨E,q⟩:=h.row.obj I;exact z g _ _ _ q aB
 .obtain⟨E,q⟩:=Row.obj (h.txs p hp) I;exact z g _ _ _ q aB
def TI.more(h:TI kb nb n w cs vw ws pre W1 v9 vw1 ws1){s:List UInt8}(z:UI kb n W1 ((cs.setIfInBounds 9 v9).setIfInBounds 10 vw1) vw1 (ws++ws1) bs W vw2 ws2)(R:vY n bs=Dv.reads s n):TI kb nb n w cs vw ws (pre++[s]) W v9 vw2 (ws1++ws2):=by
 refine⟨by have:=z.obj;rw[qQ]at this;exact this,by rw[<-fM];exact z.row,λp hp=>z.txs p (by rw[fM];exact hp),?_,λg J=>?_,h.jM.trans z.jM (λk hk e=>?_),λc t E e=>h.nbm c t E ?_,h.nbl⟩
 .rw[bJ,h.fst,z.fst,R,iw];simp
 .obtain q|q:=z.own g J
  .exact h.own g q
  .exact cF (bH h.jM.size q)
 .obtain e|e:=e
  .exact bN e
  .obtain q|q:=h.own k e
   .exact cF (cF q)
   .omega
 .rw[<-z.jM.block nb (aP h.nbl h.jM.size) ?_]
  .exact e
  .rintro(q|q)
   .have:=h.obj;rw[<-q]at this;exact h.nbm _ _ _ this
   .obtain⟨I,r⟩:=h.row.obj q;exact h.nbm _ _ _ r
def UI.more(h:UI kb n W1 cs1 vw1 ws1 bs W vw2 ws2){b:Ba}(ac:b.epoch<=n){va:Option Addr}{vc:Nat}(hs:kQ W (.slice va b.txs.length vc) b.txs){b10:Nat}{w1:X}{g off cap:Nat}(ae:W1.heap.size<=b10)(af:vw2.ownBlock≠M b10)(E:∃cs,W.heap[b10]? =M (aL cs 118 (0,0)))(R:jI (λk=>k=b10) W W')(hr:Row w1 118 5 (aM (M ⟨g,off,Z⟩) ((ws1++ws2).length+1) cap) ((ws1++ws2).length+1) ((ws1++ws2).flatMap lV++lV ({ b with place:=n },.slice va b.txs.length vc))){o:Obj}(hg:Grew vw2 g (W'.alloc o) w1):UI kb n W1 cs1 vw1 ws1 (bs++[b]) (w1.setCell ⟨kb,10,Z⟩ (aM (M ⟨g,off,Z⟩) ((ws1++ws2).length+1) cap)) (aM (M ⟨g,off,Z⟩) ((ws1++ws2).length+1) cap) (ws2++[({ b with place:=n },.slice va b.txs.length vc)]):=by
 have aa:kb≠b10:=by
  rintro rfl;obtain⟨c',z⟩:=E;rw[h.obj]at z;simp at z
 have hM:jI (λk=>vw2.ownBlock=M k\/k=b10) W w1:=((R.mono (λk _ e=>cF e)).trans (jI.alloc (λ_=>False) W' o) (λ_ _ e=>e.elim)).trans hg.jM (λk _ e=>bN e)
 have ho:=(hM.block kb (jE h.obj) (by
  rintro(e|e)
  .exact jH h.row h.obj aB e
  .exact aa e)).trans h.obj
 have I:=jI.set w1 kb 10 (aM (M ⟨g,off,Z⟩) ((ws1++ws2).length+1) cap)
 have J:∀v l,kQ W v l->kQ (w1.setCell ⟨kb,10,Z⟩ (aM (M ⟨g,off,Z⟩) ((ws1++ws2).length+1) cap)) v l:=λv l hv=>by
  have q1:=hv.jM hM (λk cs fz hk e=>by
   obtain e|e:=e
   .exact jH h.row hk aB e
   .obtain⟨c',z⟩:=E;rw[<-e,hk]at z;simp at z)
  exact q1.jM I (λk cs fz hk e=>by rw[e,ho]at hk;simp at hk)
 have hl:(ws1++(ws2++[(({ b with place:=n }:Ba),aM va b.txs.length vc)])).length=(ws1++ws2).length+1:=aF
 refine⟨?_,?_,λp hp=>?_,?_,λg' Y=>?_,(h.jM.trans hM (λk hk e=>?_)).trans I (λk _ e=>bN e)⟩
 .have:=jX ho 10 (aM (M ⟨g,off,Z⟩) ((ws1++ws2).length+1) cap);rw[qQ]at this;exact this
 .rw[hl,<-fM,iw];have:=hr.jM I (λq hq e=>jH hr ho aB (by rw[hq,e]));simpa using this
 .rw[<-fM]at hp;obtain hp|hp:=dM.1 hp
  .exact J _ _ (h.txs p hp)
  .rw[dK.1 hp];exact J _ _ hs
 .rw[bJ,h.fst,wI,ZD ac];rfl
 .have Y:g=g':=by simpa[eE]using Y
  subst Y;obtain q|q:=hg.own
  .exact h.own g q
  .have q2:W'.heap.size+1<=g:=by simpa using q
   have q3:=R.size;have q4:=h.jM.size;exact cF aA
 .obtain e|e:=e
  .obtain q|q:=h.own k e
   .exact cF q
   .omega
  .omega
end
open Fr (F)
section
variable {w W W':X}{kb nb k:Nat}{cs:Array aD}{vo vo':aD}{os os':List PC}{l:List Ch}
def QJ:∀(l:List F)(j:Nat)(x:F),l[j]? =M x->∀(i:Nat)(u:aD),i<4->(Fr.wU x)[i]? =M u->(Fr.flat l)[j*4+i]? =M u
 |[],j,x,h,_,_,_,_=>by simp at h
 |y::l,0,x,h,i,u,hi,hu=>by
  have h:y=x:=by simpa using h
  subst h;rw[Fr.flat,bZ (by simp[Fr.wU];omega)];simpa using hu
 |y::l,j+1,x,h,i,u,hi,hu=>by
  have z:=QJ l j x (by simpa using h) i u hi hu;rw[Fr.flat,bV (by simp[Fr.wU];omega)];have:(j+1)*4+i-(Fr.wU y).length=j*4+i:=by simp[Fr.wU];omega
  rw[this];exact z
def zC(w:X)(v:aD)(fs:List F):Prop:=(v=aM Z 0 0/\fs=[])\/∃g cap z,v=aM (M ⟨g,0,Z⟩) fs.length cap/\w.heap[g]? =M (aL z 109 (0,0))/\fs.length<=cap/\z.toList.take (fs.length*4)=Fr.flat fs
def zC.slice{v:aD}{fs:List F}(h:zC w v fs):∃a cap,v=.slice a fs.length cap:=by
 obtain⟨e,E⟩|⟨g,cap,z,e,_⟩:=h
 .exact⟨Z,0,by rw[e,E];rfl⟩
 .exact⟨_,_,e⟩
def zC.at{w:X}{v:aD}{fs:List F}(h:zC w v fs){j:Nat}{x:F}(z:fs[j]? =M x):∃g cap,v=aM (M ⟨g,0,Z⟩) fs.length cap/\w.cell? ⟨g,j*4,Z⟩=M (N dT x.chan)/\w.cell? ⟨g,j*4+1,Z⟩=M (N mb x.num)/\w.cell? ⟨g,j*4+2,Z⟩=M (bE ⟨x.data.toArray⟩)/\w.cell? ⟨g,j*4+3,Z⟩=M (.bool x.last):=by
 obtain⟨_,R⟩|⟨g,cap,Y,e,J,_,h3⟩:=h
 .rw[R]at z;simp at z
 .have I:=(aN.1 z).1;have q:=QJ fs j x z
  have hc:∀i u,i<4->(Fr.flat fs)[j*4+i]? =M u->w.cell? ⟨g,j*4+i,Z⟩=M u:=λi u hi E=>by
   rw[aI J];rw[<-h3,iI aA]at E;simpa using E
  exact⟨g,cap,e,hc 0 _ aB (q 0 _ aB rfl),hc 1 _ aB (q 1 _ aB rfl),hc 2 _ aB (q 2 _ aB rfl),hc 3 _ aB (q 3 _ aB rfl)⟩
structure BI(kb nb:Nat)(w:X)(cs:Array aD)(vo:aD)(os:List PC)(l:List Ch)(k:Nat)(W:X)(vo':aD)(nm':AL)(os':List PC):Prop where
 obj:W.heap[kb]? =M (aL (cs.setIfInBounds 9 vo') 100 (0,0))
 chs:Chs W nb vo' nm' os'
 jM:jI (λk=>k=kb\/Own nb vo os k) w W
 own:∀k,Own nb vo' os' k->Own nb vo os k\/w.heap.size<=k
 len:os'.length<=os.length+k
 lives:lives nm' os'=l
def BI.below{z:AL}(h:BI kb nb w cs vo os l k W vo' z os')(E:Below W.heap.size W W'):BI kb nb w cs vo os l k W' vo' z os':=
 ⟨(E.block _ (jE h.obj)).trans h.obj,h.chs.below E,h.jM.trans (.below E jB _) (λ_ _ e=>e),h.own,h.len,h.lives⟩
def BI.took{l':List Ch}{J:AL}(h:BI kb nb w cs vo os l k W vo' J os'){I:aD}{E:AL}{z:List PC}(ht:BD kb nb (cs.setIfInBounds 9 vo') vo' os' W I E z W')(Y:Hm.lives E z=l'):BI kb nb w cs vo os l' (k+1) W' I E z:=
 ⟨by have:=ht.obj;rw[qQ]at this;exact this,ht.chs,h.jM.trans ht.jM (λq R e=>by
  obtain e|e:=e
  .exact bN e
  .obtain r|r:=h.own q e
   .exact cF r
   .omega),λq R=>by
  obtain e|e:=ht.own q R
  .exact h.own q e
  .exact cF (bH h.jM.size e),by have:=ht.len;have:=h.len;omega,Y⟩
def lT(fs:Nat->List F)(i:Nat):List F:=(List.range i).flatMap fs
def wM(fs:Nat->List F)(i:Nat):lT fs (i+1)=lT fs i++fs i:=by simp[lT,List.range_succ]
def Xb(fs:Nat->List F):∀{i m:Nat},i<=m->(lT fs i).length<=(lT fs m).length:=by
 intro i m h
 induction h with
 |refl=>exact jB
 |step _ ih=>rw[wM,aS];omega
end
open Fr (F below_drewN)
section
variable {Q:Exit->Act->X->Prop}
noncomputable def wV:eN:=match Tryz.f31.body with
 |some (bL c _)=>c
 |_=>.skip
noncomputable def wG:eN:=match Tryz.f31.body with
 |some (bL _ (bL c _))=>c
 |_=>.skip
noncomputable def wP:eN:=match Tryz.f31.body with
 |some (bL _ (bL _ (bL _ (bL c _))))=>c
 |_=>.skip
def UA(u2 u3 u4 u5 u6 u7 u8 u9 aw cb au bj b8 bp af b1 ag am ay cg ak ai bo R b9 ca cj Y ci bl co bb a0 b3 cd bd bs bh b5 bv a4 b7 bz b4 br ac ao av a9 a2 E ba cq bk bg ck a1 cp a8 cc b6 cm ct bu bm cf az ae cl aq ah a5 bq I bn a7 aa aj b2 ap z cn an cr a3 ar a6 b0 bw ce J:aD)(kb:Nat)(id tm:Int)(ta:Option Addr)(tn tc:Nat)(la:Option Addr)(ln lc:Nat)(w:X)(hQ:Q .normal { tmps:=#[aG (M ⟨kb,0,Z⟩),.agg #[N aE id,N aE tm,.slice ta tn tc,.slice la ln lc],aG (M ⟨w.heap.size,0,Z⟩),aG (M ⟨w.heap.size+1,0,Z⟩),u4,u5,u6,u7,u8,u9,aw,cb,au,bj,b8,bp,af,b1,ag,am,ay,cg,ak,ai,bo,R,b9,ca,cj,Y,ci,bl,co,bb,a0,b3,cd,bd,bs,bh,b5,bv,a4,b7,bz,b4,br,ac,ao,av,a9,a2,E,ba,cq,bk,bg,ck,a1,cp,a8,cc,b6,cm,ct,bu,bm,cf,az,ae,cl,aq,ah,a5,bq,I,bn,a7,aa,aj,b2,ap,z,cn,an,cr,a3,ar,a6,b0,bw,ce,J],defers:=[] } ((w.alloc (aL #[aG (M ⟨kb,0,Z⟩)] 71)).alloc (aL #[N aE id,N aE tm,.slice ta tn tc,.slice la ln lc] 28))):wV.wp PQ Q { tmps:=#[aG (M ⟨kb,0,Z⟩),.agg #[N aE id,N aE tm,.slice ta tn tc,.slice la ln lc],u2,u3,u4,u5,u6,u7,u8,u9,aw,cb,au,bj,b8,bp,af,b1,ag,am,ay,cg,ak,ai,bo,R,b9,ca,cj,Y,ci,bl,co,bb,a0,b3,cd,bd,bs,bh,b5,bv,a4,b7,bz,b4,br,ac,ao,av,a9,a2,E,ba,cq,bk,bg,ck,a1,cp,a8,cc,b6,cm,ct,bu,bm,cf,az,ae,cl,aq,ah,a5,bq,I,bn,a7,aa,aj,b2,ap,z,cn,an,cr,a3,ar,a6,b0,bw,ce,J],defers:=[] } w:=by
 simp only[wV,Tryz.f31];go_wp2_with fail;exact hQ
def U5(u4 cu cp cq ct cr u0 u1 u3 u5 u6 u7 u8 u9 av af bw ag am aw cc ak ai bm R b6 b7 ce Y cd bj ck ba az b0 b9 bb bp bg b3 bq a3 b5 bu b1 bo ac ao au a8 a1 E a9 cm bh bd cf a0 cl a7 b8 b4 ci co br bk cb ay ae cg aq ah a4 bn I bl a6 aa aj bz ap z cj an cn a2 ar a5 bv bs ca J:aD)(b2 kb:Nat)(va:Option Addr)(k vc:Nat)(w:X)(c2:w.cell? ⟨b2,0,Z⟩=M (aG (M ⟨kb,0,Z⟩)))(c7:w.cell? ⟨kb,7,Z⟩=M (.slice va k vc))(hQ:Q .normal { tmps:=#[u0,u1,aG (M ⟨b2,0,Z⟩),u3,aG (M ⟨w.heap.size,0,Z⟩),u5,u6,u7,u8,u9,av,aG (M ⟨kb,0,Z⟩),aG (M ⟨kb,0,Z⟩),aG (M ⟨kb,7,Z⟩),.slice va k vc,N aE k,af,bw,ag,am,aw,cc,ak,ai,bm,R,b6,b7,ce,Y,cd,bj,ck,ba,az,b0,b9,bb,bp,bg,b3,bq,a3,b5,bu,b1,bo,ac,ao,au,a8,a1,E,a9,cm,bh,bd,cf,a0,cl,a7,b8,b4,ci,co,br,bk,cb,ay,ae,cg,aq,ah,a4,bn,I,bl,a6,aa,aj,bz,ap,z,cj,an,cn,a2,ar,a5,bv,bs,ca,J],defers:=[] } (w.alloc (aL #[N aE k] 3))):wG.wp PQ Q { tmps:=#[u0,u1,aG (M ⟨b2,0,Z⟩),u3,u4,u5,u6,u7,u8,u9,av,cu,cp,cq,ct,cr,af,bw,ag,am,aw,cc,ak,ai,bm,R,b6,b7,ce,Y,cd,bj,ck,ba,az,b0,b9,bb,bp,bg,b3,bq,a3,b5,bu,b1,bo,ac,ao,au,a8,a1,E,a9,cm,bh,bd,cf,a0,cl,a7,b8,b4,ci,co,br,bk,cb,ay,ae,cg,aq,ah,a4,bn,I,bl,a6,aa,aj,bz,ap,z,cj,an,cn,a2,ar,a5,bv,bs,ca,J],defers:=[] } w:=by
 simp only[wG,Tryz.f31];go_wp2_with fail;exact hQ
def BD.from{kb nb:Nat}{cs:Array aD}{vo:aD}{os:List PC}{w V:X}{z:aD}{E:AL}{I:List PC}{w':X}(h:BD kb nb cs vo os V z E I w')(J:Below w.heap.size w V):BD kb nb cs vo os w z E I w':=
 ⟨h.obj,h.chs,(jI.below J jB _).trans h.jM (λ_ _ e=>e),λk hk=>(h.own k hk).imp (λe=>e) (λe=>bH J.size e),h.len⟩
def IV(u0 u1 u3 u5 u6 u7 u8 u9 a8 cj a6 br cg bz ar ca au a0 a9 cn az aw bw am ci di dm cy dk db dv c6 c5 de dj c9 b3 bq cd b5 bh cf b8 cc b1 ao a2 a7 bn bd ai bo cu bs bp co bb ct bm ck ce cq cw b6 bu cm ba ap cp a4 av bj b0 aj bv bl an ay cb a3 ah cr a1 cv bg a5 bk b9 b7 cl ak:aD)(b2 b4 kb nb n:Nat)(E:Int)(cs:Array aD)(vo:aD)(nm:AL)(os:List PC)(w:X)(h2:w.heap[b2]? =M (aL #[ptr kb] 71 (0,0)))(h4:w.heap[b4]? =M (aL #[N aE n] 3 (0,0)))(hk:w.heap[kb]? =M (aL cs 100 (0,0)))(ae:cs[2]? =M (N aE E))(h8:cs[8]? =M (.map (M nb)))(h9:cs[9]? =M vo)(af:Chs w nb vo nm os)(c4:os.length<=4294967296)(hn:n<=4294967296)(dx:0<=E/\E<=4294967296)(hQ:∀(dh cz c1 dq dd dt dr cx dg c3 du:aD)(W':X)(J:aD)(I:AL)(z:List PC),BD kb nb cs vo os w J I z W'->z.length<=os.length->lives I z=(lives nm os).filter (λc=>!decide ((c.opened:Int)<n-E))->Q .normal { tmps:=#[u0,u1,aG (M ⟨b2,0,Z⟩),u3,aG (M ⟨b4,0,Z⟩),u5,u6,u7,u8,u9,a8,cj,a6,br,cg,bz,ar,ca,au,a0,a9,cn,az,aw,bw,am,ci,dh,cz,c1,dq,dd,dt,dr,cx,dg,c3,du,b3,bq,cd,b5,bh,cf,b8,cc,b1,ao,a2,a7,bn,bd,ai,bo,cu,bs,bp,co,bb,ct,bm,ck,ce,cq,cw,b6,bu,cm,ba,ap,cp,a4,av,bj,b0,aj,bv,bl,an,ay,cb,a3,ah,cr,a1,cv,bg,a5,bk,b9,b7,cl,ak],defers:=[] } W'):wP.wp PQ Q { tmps:=#[u0,u1,aG (M ⟨b2,0,Z⟩),u3,aG (M ⟨b4,0,Z⟩),u5,u6,u7,u8,u9,a8,cj,a6,br,cg,bz,ar,ca,au,a0,a9,cn,az,aw,bw,am,ci,di,dm,cy,dk,db,dv,c6,c5,de,dj,c9,b3,bq,cd,b5,bh,cf,b8,cc,b1,ao,a2,a7,bn,bd,ai,bo,cu,bs,bp,co,bb,ct,bm,ck,ce,cq,cw,b6,bu,cm,ba,ap,cp,a4,av,bj,b0,aj,bv,bl,an,ay,cb,a3,ah,cr,a1,cv,bg,a5,bk,b9,b7,cl,ak],defers:=[] } w:=by
 have dw:IntKind.i64.wrap ((n:Int)-E)=(n:Int)-E:=by rw[gA];omega
 have hS:∀V,Below w.heap.size w V->V.cell? ⟨b2,0,Z⟩=M (aG (M ⟨kb,0,Z⟩))/\V.cell? ⟨b4,0,Z⟩=M (N aE n)/\V.cell? ⟨kb,2,Z⟩=M (N aE E):=λV hV=>by
  have q2:=(hV.block _ (jE h2)).trans h2;have q4:=(hV.block _ (jE h4)).trans h4;have qk:=(hV.block _ (jE hk)).trans hk;exact⟨by rw[aI q2];rfl,by rw[aI q4];rfl,by rw[aI qk];exact ae⟩
 have Y:∀V,Below w.heap.size w V->eL PQ 49 #[aG (M ⟨kb,8,Z⟩),N aE ((n:Int)-E)] V λe w'=>e=.returned (.tuple #[])/\(w'.cell? ⟨b2,0,Z⟩=M (aG (M ⟨kb,0,Z⟩))/\w'.cell? ⟨b4,0,Z⟩=M (N aE n)/\w'.cell? ⟨kb,2,Z⟩=M (N aE E))/\Hid (∃J I z,BD kb nb cs vo os w J I z w'/\z.length<=os.length/\lives I z=(lives nm os).filter (λc=>!decide ((c.opened:Int)<n-E))):=λV hV=>by
  refine(NH kb nb cs vo nm os _ V ((hV.block _ (jE hk)).trans hk) h8 h9 (af.below hV) c4).mono ?_;rintro e w' ⟨rfl,J,I,z,ht,hl,ag⟩;have aq:=ht.from hV
  have far:∀(k:Nat)(c:Array aD)(t:Nat)(fz:Nat×Nat),w.heap[k]? =M (aL c t fz)->t≠100->t≠136->t≠140->w'.heap[k]? =M (aL c t fz):=λk c t fz R t1 t2 t3=>(aq.jM.block k (jE R) (by
   rintro(rfl|e)
   .rw[hk]at R;simp at R;exact t1 R.2.1.symm
   .exact af.lK R t2 t3 e)).trans R
  refine⟨rfl,⟨by rw[aI (far _ _ _ _ h2 aB aB aB)];rfl,by rw[aI (far _ _ _ _ h4 aB aB aB)];rfl,?_⟩,J,I,z,aq,hl,ag⟩;rw[aI ht.obj,aV];simpa using ae
 have HS:Hid _:=hS;have ac:Hid _:=Y;have HQ:Hid _:=hQ;clear hS Y hQ h2 h4 hk ae h8 h9 af;simp only[wP,Tryz.f31];have aa:=aJ w.heap.size w;go_region_held3 (λV=>V.cell? ⟨b2,0,Z⟩=M (aG (M ⟨kb,0,Z⟩))/\V.cell? ⟨b4,0,Z⟩=M (N aE n)/\V.cell? ⟨kb,2,Z⟩=M (N aE E)) (first|exact c2|(refine HS.out _ ?_;first|exact aa|exact aa.drew)) (first|(go_at_call 49;(refine aT (ac.out _ ?_) ?_;(first|exact aa.drew|exact aa);rintro e5 w5 ⟨rfl,c2,H5⟩)))
 all_goals
  obtain⟨J,I,z,ht,hl,ag⟩:=H5.out;exact HQ.out _ _ _ _ _ _ _ _ _ _ _ w5 J I z ht hl ag
end
end Hm
namespace Hm
open Go.RowKit Go.Joins Go.Shelf
open Fr (below_drewN)
open Dv (X2 Cf Ba Ch)
attribute [local go_sem] Oper.semAt_some
variable {XS:Nat->Prop}{W A:X}{kb nb n:Nat}{pre:List (List UInt8)}{cs:Array aD}{vw1:aD}{ws1:List PW}
noncomputable def AX:eN:=match Tryz.f31.body with
 |some (bL _ (bL _ (bL _ (bL _ (bL _ c)))))=>c
 |_=>.skip
def N9(kb:Nat)(w:X):eL PQ 52 #[aG (M ⟨kb,8,Z⟩)] w λe w'=>e=.returned (.func (.func 78) #[] #[aG (M ⟨w.heap.size,0,Z⟩)])/\w'=w.alloc (aL #[aG (M ⟨kb,8,Z⟩)] 135):=by go_enter (fq Tryz.func52 rfl),Tryz.ntmps52;go_wp2_with fail;go_ret;exact⟨rfl,rfl⟩
def BG(S:ByteArray)(w:X):eL PQ 53 #[bE S] w λe w'=>e=.returned (.func (.func 81) #[] #[aG (M ⟨w.heap.size,0,Z⟩)])/\w'=w.alloc (aL #[bE S] 9):=by go_enter (fq Tryz.func53 rfl),Tryz.ntmps53;go_wp2_with fail;go_ret;exact⟨rfl,rfl⟩
def zB{W':X}(hc:jI XS W W')(I:∀k,XS k->k<W.heap.size->∃cs t z,W.heap[k]? =M (aL cs t z)):KeepsOthers W W':=⟨hc.size,λk o hk E=>(hc.block k (jE hk) (λe=>by
 obtain⟨cs,t,z,q⟩:=I k e (jE hk);rw[hk]at q;cases q;cases E)).trans hk⟩
def Qe.own(ho:Option Obj)(I:Nat)(S:ByteArray)(n:Nat)(hn:1<n):OwnFrom n (Qe ho I S):=by rintro pre A B row ⟨Y,h2,h3⟩ R hr;obtain⟨XS,z,J,E⟩:=lH R hr;have q0:=z.block 1 h2.pos (E _ hn);obtain⟨⟨a0,a1,a2⟩,a3,a4,a5⟩:=h2;exact⟨q0.trans Y,⟨⟨(cD q0).trans a0,(cD q0).trans a1,(cD q0).trans a2⟩,(cD q0).trans a3,(cD q0).trans a4,(cD q0).trans a5⟩,vP h3 z J⟩
def BY.own(T:List UInt8)(n lo:Nat):OwnFrom n (λ(q:List BX×BX) W=>BY T q.1 q.2 lo W):=by rintro q A B row ⟨E,h2,h3⟩ Y J;obtain⟨XS,z,R,I⟩:=lH Y J;exact⟨⟨kQ.jM E.1 z R.str,E.2⟩,h2,h3⟩
def PS.grown{B:Nat->Prop}{J:List Ch}{I:X}{vo:aD}{nm:AL}{os:List PC}(h:PS kb nb B J pre A cs vo nm os){row:Option Nat}(hn:∀k,B k->k<n)(Y:A.grownBy I row)(hr:∀r,row=M r->n<=r/\∃o:Obj,A.heap[r]? =M o/\o.isCells=false):PS kb nb B J pre I cs vo nm os:=by obtain⟨XS,z,R,E⟩:=lH Y hr;exact h.jM z (R _ _ _ _ h.obj) (λk hk=>E k (hn k hk))
def PSt.own(kb z nb:Nat)(B:Nat->Prop)(l0:List Ch)(p0:PX)(n:Nat)(hn:∀k,B k->k<n)(hc:z<n):OwnFrom n (PSt kb z nb B l0 p0):=by rintro pre A A' row ⟨⟨cs,Y⟩,h2⟩ J R;have h3:=Y.grown hn J R;obtain⟨XS,E,hM,I⟩:=lH J R;exact⟨⟨cs,h3⟩,(cD (E.block z (fG A _ h2) (I z hc))).trans h2⟩
def PEn.own(kb nb:Nat)(B:Nat->Prop)(I:List Ch)(n:Nat)(R:∀k,B k->k<n):OwnFrom n (PEn kb nb B I):=by rintro pre A Y row ⟨cs,vo,nm,os,E,h2⟩ z J;exact⟨cs,vo,nm,os,E.grown R z J,h2⟩
def TJ(kb nb n:Nat)(w:X)(cs:Array aD)(vw:aD)(ws:List PW)(pre:List PX)(W:X):Prop:=∃z vw1 ws1,TI kb nb n w cs vw ws (pre.map PX.s) W z vw1 ws1
def TJ.own(kb nb n:Nat)(w:X)(cs:Array aD)(vw:aD)(ws:List PW)(m:Nat)(hm:w.heap.size<=m):OwnFrom m (TJ kb nb n w cs vw ws):=by rintro pre A A' row ⟨J,vw1,ws1,h⟩ R Y;obtain⟨XS,z,I,E⟩:=lH R Y;exact⟨J,vw1,ws1,h.nU z I (λk hk=>E k aA)⟩
def UJ(kb n:Nat)(J:X)(E:Array aD)(vw1:aD)(ws1:List PW)(pre:List BX)(F:Nat->Prop)(W:X):Prop:=∃z I,UI kb n J E vw1 ws1 (pre.map BX.b) W z I/\∀g,z.ownBlock=M g->¬F g
def UJ.own(kb n:Nat)(Y:X)(I:Array aD)(vw1:aD)(ws1:List PW)(F:Nat->Prop)(m:Nat)(hm:Y.heap.size<=m):OwnFrom m (λpre W=>UJ kb n Y I vw1 ws1 pre F W):=by rintro pre A A' row ⟨z,R,h,h'⟩ hg hr;obtain⟨XS,E,hM,J⟩:=lH hg hr;exact⟨z,R,h.nU E hM (λk hk=>J k aA),h'⟩
def TI.base{w V:X}{vw:aD}{ws:List PW}{z:aD}(h:TI kb nb n V cs vw ws pre W z vw1 ws1)(E:Below w.heap.size w V)(J:nb<w.heap.size):TI kb nb n w cs vw ws pre W z vw1 ws1:=
 ⟨h.obj,h.row,h.txs,h.fst,λg I=>(h.own g I).imp id (λq=>bH E.size q),(jI.below E jB _).trans h.jM (λ_ _ e=>e),h.nbm,J⟩
def Qe.jM{I:Option Obj}{E:Nat}{S:ByteArray}{pre z:List BX}{B:X}(h:Qe I E S pre A)(hc:jI XS A B)(R:¬XS 1)(h2:¬XS E):Qe I E S z B:=by have q0:=hc.block 1 h.2.1.pos R;obtain⟨g1,⟨⟨a0,a1,a2⟩,Y,a4,a5⟩,J⟩:=h;exact⟨q0.trans g1,⟨⟨(cD q0).trans a0,(cD q0).trans a1,(cD q0).trans a2⟩,(cD q0).trans Y,(cD q0).trans a4,(cD q0).trans a5⟩,(hc.block E J.lt h2).trans J⟩
def UI.skip{R:X}{E:Array aD}{J:List Ba}{z:aD}{I:List PW}(h:UI kb n R E vw1 ws1 J W z I){b:Ba}(Y:¬b.epoch<=n):UI kb n R E vw1 ws1 (J++[b]) W z I:=
 ⟨h.obj,h.row,h.txs,by rw[wI,Zs Y,gI];exact h.fst,h.own,h.jM⟩
def UK(n:Nat)(l:List Ba):(vY n l).length<=l.length:=by unfold vY;rw[bC];exact gZ _ _
end Hm
namespace Hm
open Go.RowKit Go.Joins Go.Shelf
open Fr (below_drewN)
open Dv (X2 Cf Ba Ch)
attribute [local go_sem] Oper.semAt_some
def Qk(u0 u1 u3 u5 u6 u7 u8 u9 ex cc bu cm cq c6 bn ca bo br ck cr bp cw d1 dm cb d7 cd bm dj b5 ed dy dw de d9 b3 d2 d0 co b7 bv d3 db dg c9 cf dt cj b1 cl ct c1 ef c5 dz eb cy ee b0 d8 cp ec eh b8 b6 ea dv gd gh gj gi fb ez el eo bz dq dr cn ci ce dk cg eg cz du bw dd b9 di cv:aD)(b2 b4 kb nb n:Nat)(cs:Array aD)(vo vw:aD)(nm:AL)(os:List PC)(ws:List PW)(w:X){Q:Exit->Act->X->Prop}(h2:w.heap[b2]? =M (aL #[ptr kb] 71 (0,0)))(h4:w.heap[b4]? =M (aL #[N aE n] 3 (0,0)))(hk:w.heap[kb]? =M (aL cs 100 (0,0)))(h8:cs[8]? =M (.map (M nb)))(h9:cs[9]? =M vo)(h10:cs[10]? =M vw)(ay:Chs w nb vo nm os)(gn:os.length<=4294967296)(ap:Row w 118 5 vw ws.length (ws.flatMap lV))(fi:∀p,p∈ws->kQ w p.2 p.1.txs)(hH:lJ w)(fe:∃hc t fz,w.heap[1]? =M (aL hc t fz)/\t≠100/\t≠118)(e1:∀s,s∈(Dv.pull (lives nm os)).1->s.length<=4096)(au:ws.length+4096*(Dv.pull (lives nm os)).1.length<4294967296)(hQ:∀(D:Nat)(W':X)(v9 R:aD)(Y:List PW)(cs':Array aD)(ey:aD)(bs:AL)(cu:List PC),TI kb nb n w cs vw ws (Dv.pull (lives nm os)).1 W' v9 R Y->PS kb nb (Own nb vo os) (lives nm os) (Dv.pull (lives nm os)).1 W' cs' ey bs cu->lives bs cu=(Dv.pull (lives nm os)).2->w.heap.size<=D->D<W'.heap.size->W'.heap[D]? =M (.deferred (M []))->Q .normal { tmps:=#[u0,u1,aG (M ⟨b2,0,Z⟩),u3,aG (M ⟨b4,0,Z⟩),u5,u6,u7,u8,u9,ex,cc,bu,cm,cq,c6,bn,ca,bo,br,ck,cr,bp,cw,d1,dm,cb,d7,cd,bm,dj,b5,ed,dy,dw,de,d9,b3,d2,d0,co,b7,bv,d3,db,dg,c9,cf,dt,cj,b1,cl,ct,c1,ef,c5,dz,eb,cy,ee,b0,d8,cp,ec,eh,b8,b6,ea,dv,aG (M ⟨kb,0,Z⟩),aG (M ⟨kb,0,Z⟩),aG (M ⟨kb,8,Z⟩),.func (.func 78) #[] #[aG (M ⟨w.heap.size,0,Z⟩)],fb,ez,el,eo,bz,dq,dr,cn,ci,ce,dk,cg,eg,cz,du,bw,dd,b9,di,cv],defers:=[{ target:=.collected D,args:=#[] }] } W'):AX.wp PQ Q { tmps:=#[u0,u1,aG (M ⟨b2,0,Z⟩),u3,aG (M ⟨b4,0,Z⟩),u5,u6,u7,u8,u9,ex,cc,bu,cm,cq,c6,bn,ca,bo,br,ck,cr,bp,cw,d1,dm,cb,d7,cd,bm,dj,b5,ed,dy,dw,de,d9,b3,d2,d0,co,b7,bv,d3,db,dg,c9,cf,dt,cj,b1,cl,ct,c1,ef,c5,dz,eb,cy,ee,b0,d8,cp,ec,eh,b8,b6,ea,dv,gd,gh,gj,gi,fb,ez,el,eo,bz,dq,dr,cn,ci,ce,dk,cg,eg,cz,du,bw,dd,b9,di,cv],defers:=[] } w:=by
 have ar:∀(k:Nat)(c:Array aD)(t:Nat)(fz:Nat×Nat),w.heap[k]? =M (aL c t fz)->t≠100->t≠118->¬(k=kb\/k=nb\/vw.ownBlock=M k):=by
  rintro k c t fz bd t1 t2 (rfl|rfl|e)
  .rw[hk]at bd;simp at bd;exact t1 bd.2.1.symm
  .exact lg bd ay.named rfl
  .obtain⟨e0,q⟩:=ap.obj e;rw[bd]at q;simp at q;exact t2 q.2.1
 have e3:=ay.named.lt;have bb:=(jE h10)
 have f8:Hid (10<cs.size):=bb;have g4:=(jE hk)
 have e8:=(jE h2)
 have e4:=(jE h4)
 have f7:∀g,vw.ownBlock=M g->g<w.heap.size:=λg hg=>ap.lt hg;have fg:=hH.pos;have ei:NC w nb:=λc t fz e=>lg e ay.named rfl
 have fw:TI kb nb n w cs vw ws [] w vo vw []:=by
  refine⟨?_,by simpa using ap,by simpa using fi,rfl,λg hg=>bN hg,jI.refl _ _,ei,e3⟩;rw[hk]
  congr 2
  apply gB;intro i;simp only[aV,jh];split
  .rename_i e;subst e
   first
    |exact h10
    |(rw[ZD (jE h10)];exact h10)
  .split
   .rename_i e;subst e
    first
     |exact h9
     |(rw[ZD (jE h9)];exact h9)
   .rfl
 have et:Hid (∀k,Own nb vo os k->k<w.heap.size):=λk aa=>ay.qZ aa;have f1:PS kb nb (Own nb vo os) (lives nm os) [] w cs vo nm os:=⟨hk,h8,h9,ay,gn,aC,λk aa=>aa⟩
 obtain⟨V,hV,ao,-⟩:=jD w #[aG (M ⟨kb,8,Z⟩)] 135;have g7:V.heap.size=w.heap.size+1:=by rw[hV];simp
 have fj:V.cell? ⟨w.heap.size,0,Z⟩=M (aG (M ⟨kb,8,Z⟩)):=by
  have:V.heap[w.heap.size]? =M (aL #[aG (M ⟨kb,8,Z⟩)] 135 (0,0)):=by rw[hV];exact cY _ _
  rw[aI this];rfl
 have a6:=fw.nU (.below ao jB _) (λ_ _ _ _ _ e=>e) (λ_ _ e=>e);have e5:TI kb nb n V cs vw ws [] V vo vw []:=⟨a6.obj,a6.row,a6.txs,a6.fst,λg hg=>bN hg,jI.refl _ _,a6.nbm,aA⟩
 have fl:=f1.below ao;have c2:w.cell? ⟨b2,0,Z⟩=M (aG (M ⟨kb,0,Z⟩)):=kJ h2;have n2:=ar b2 _ _ _ h2 aB aB;have n4:=ar b4 _ _ _ h4 aB aB
 have nh:¬(1=kb\/1=nb\/vw.ownBlock=M 1):=by
  obtain⟨c,t,fz,q1,q2,q3⟩:=fe;exact ar _ _ _ _ q1 q2 q3
 have fa:=(ao.block b2 e8).trans h2;have e7:=(ao.block b4 e4).trans h4;have fo:=hH.below ao fg;have H0:Hid _:=jy (jy n2 (jy n4 nh)) (jy e1 (jy au (jy hQ (jy e5 (jy fl (jy fa (jy e7 (jy fo (jy ao fj)))))))));clear ar e1 au hQ fw e5 a6 f1 fl h2 h4 hH fe fj ao n2 n4 nh fa e7 fo hk h8 h9 h10 ay ap fi ei bb;simp only[AX,Tryz.f31];refine(wpIn_wide (n:=3)).1 ?_;gi_wp2;refine⟨trivial,(iN.2 (N9 kb w)).mono ?_⟩;rintro e w2 ⟨rfl,rfl⟩;gi_wp2;rw[<-hV];clear hV
 refine tq (gf:=78) (lb:=#[.pointer _]) rfl (enters_of (fq Tryz.func78 rfl) XN rfl)
  (JM kb _ nb _ _ ⟨[],vo,nm,os⟩ aA aA) (by rintro k (rfl|rfl)<;>omega) (λA B l o hl h=>h.put o aA) (PSt.own _ _ _ _ _ _ _ (λk aa=>(by have:=et.out k aa;omega)) aA) (PEn.own _ _ _ _ _ (λk aa=>(by have:=et.out k aa;omega))) (λlo=>by
   rintro⟨af,x⟩ A A' row h hg hr;exact PSt.own _ _ _ _ _ _ _ (λk aa=>(by have:=et.out k aa;omega)) aA (af++[x]) A A' row h hg hr) (λ_=>rfl)
  _ (λ_ _ _=>False) (TJ.own _ _ _ _ _ _ _ _ aA) (λ_ _ _ _ _ h=>h.elim) ⟨vo,vw,[],H0.out.2.2.2.2.1⟩ ⟨⟨cs,H0.out.2.2.2.2.2.1⟩,H0.out.2.2.2.2.2.2.2.2.2.2⟩
  (λx _=>{ tmps:=#[u0,u1,aG (M ⟨b2,0,Z⟩),u3,aG (M ⟨b4,0,Z⟩),u5,u6,u7,u8,bE ⟨x.s.toArray⟩,ex,cc,bu,cm,cq,c6,bn,ca,bo,br,ck,cr,bp,cw,d1,dm,cb,d7,cd,bm,dj,b5,ed,dy,dw,de,d9,b3,d2,d0,co,b7,bv,d3,db,dg,c9,cf,dt,cj,b1,cl,ct,c1,ef,c5,dz,eb,cy,ee,b0,d8,cp,ec,eh,b8,b6,ea,dv,aG (M ⟨kb,0,Z⟩),aG (M ⟨kb,0,Z⟩),aG (M ⟨kb,8,Z⟩),.func (.func 78) #[] #[aG (M ⟨w.heap.size,0,Z⟩)],bE ⟨x.s.toArray⟩,ez,el,eo,bz,dq,dr,cn,ci,ce,dk,cg,eg,cz,du,bw,dd,b9,di,cv],defers:=[] }) _ (λ_ _ _ _=>rfl) (λ_ _=>jB) (λ_ _ _ _ _=>rfl) ?assign ?body ?done ?stop
 case assign=>
  intro l x W K hK;simp only[PX.encs];gi_wp2;exact hK
 case body=>
  rintro l af x W0 W1 g8 g0 ⟨r,hr⟩ ⟨v9,R,Y,hT⟩ hc hE ⟨⟨f6,hP⟩,az⟩;rw[tu]at hP;obtain⟨an,z⟩:=hT.turn hc hE (λc t fz e=>lg e hP.chs.named rfl)
  have a7:f6=(cs.setIfInBounds 9 an).setIfInBounds 10 R:=by
   have q:=hP.obj;rw[z.obj]at q;simp at q;exact q.symm
  have av:=hP.pull;have bj:(Dv.pull (lives nm os)).1=(af++[x]).map PX.s++(Dv.pull (lives x.nm x.os)).1:=by rw[av]
  have gp:=H0.out.2.1 x.s (by rw[bj,bJ];simp);have ew:af.length+1<=(Dv.pull (lives nm os)).1.length:=by rw[bj];simp
  have g1:=z.jM.size;have ha:=hT.jM.size;have ba:=(z.jM.block b2 aA H0.out.1.1).trans H0.out.2.2.2.2.2.2.1;have bl:=(z.jM.block b4 aA H0.out.1.2.1).trans H0.out.2.2.2.2.2.2.2.1;have am:=z.jM.block _ aA H0.out.1.2.2
  have f3:lJ W1:=by
   obtain⟨⟨a0,a1,a2⟩,a3,a4,a5⟩:=H0.out.2.2.2.2.2.2.2.2.1;exact⟨⟨(cD am).trans a0,(cD am).trans a1,(cD am).trans a2⟩,(cD am).trans a3,(cD am).trans a4,(cD am).trans a5⟩
  have aq:∀k,k<w.heap.size->¬(k=kb\/k=nb\/vw.ownBlock=M k)->¬(k=kb\/R.ownBlock=M k):=λk gz aa e=>by
   obtain e|e:=e
   .exact aa (bN e)
   .obtain q|q:=z.own k e
    .exact aa (cF (cF q))
    .omega
  have f2:=aq b2 e8 H0.out.1.1;have f4:=aq b4 e4 H0.out.1.2.1;have fh:=aq _ fg H0.out.1.2.2;obtain⟨S,hS⟩:∃S:ByteArray,(⟨x.s.toArray⟩:ByteArray)=S:=⟨_,rfl⟩
  have a9:S.data.toList=x.s:=by rw[<-hS]
  have gq:S.size<=4096:=by rw[<-hS];show x.s.toArray.size<=4096;rw[dR];exact gp
  obtain⟨Xw,dh,aj,-⟩:=jD W1 #[bE S] 9;have g3:Xw.heap.size=W1.heap.size+1:=by rw[dh];simp
  have e2:Boxed Xw W1.heap.size 9 (bE S):=by unfold Boxed;rw[dh];exact cY _ _
  have ge:=(aj.block l (jE hr)).trans hr;have fp:UI kb n W1 ((cs.setIfInBounds 9 an).setIfInBounds 10 R) R (ws++Y) [] Xw R []:=⟨by rw[qQ];exact(aj.block kb aA).trans z.obj,by simpa using z.row.below aj,λp hp=>Row.below (z.txs p (by simpa using hp)) aj,rfl,λg hg=>bN hg,.below aj jB _⟩
  have c3:Qe (V.heap[1]?) W1.heap.size S [] Xw:=⟨(aj.block _ aA).trans am,f3.below aj aA,e2⟩
  have H1:Hid _:=jy hT (jy z (jy hP (jy az (jy a7 (jy fp (jy c3 (jy ba (jy bl (jy f2 (jy f4 (jy fh (jy ew a9))))))))))));clear hT z hP az a7 fp c3 ba bl f2 f4 fh ew av bj am f3 aq e2 hc hE hr aj a9;rw[hS];gi_wp2;refine⟨trivial,(CallsIn.inRound _ (iN.2 (BG S W1))).mono ?_⟩;rintro e w3 ⟨rfl,rfl⟩;gi_wp2;rw[<-dh];clear dh
  refine EH ge (gf:=81) (lb:=#[aG (M ⟨W1.heap.size,0,Z⟩)]) rfl (enters_of (fq Tryz.func81 rfl) XN rfl) (Aw (V.heap[1]?) W1.heap.size S gq) (Qe.own _ _ _ _ aA) (λlo=>BY.own _ _ lo) (λ_=>rfl)
   (λaf F W=>UJ kb n W1 ((cs.setIfInBounds 9 an).setIfInBounds 10 R) R (ws++Y) af F W/\Qe (V.heap[1]?) W1.heap.size S af W) (λ_ _ _ _=>False) (λF=>(UJ.own _ _ _ _ _ _ F _ aA).and (Qe.own _ _ _ _ aA)) (λ_ _ _ _ _ _ h=>h.elim) ⟨⟨R,[],H1.out.2.2.2.2.2.1,λ_ _ e=>e⟩,H1.out.2.2.2.2.2.2.1⟩ H1.out.2.2.2.2.2.2.1
   (λy B=>{ tmps:=#[u0,u1,aG (M ⟨b2,0,Z⟩),u3,aG (M ⟨b4,0,Z⟩),u5,u6,u7,u8,bE S,aG (M ⟨B,0,Z⟩),cc,bu,cm,cq,c6,bn,ca,bo,br,ck,cr,bp,cw,d1,dm,cb,d7,cd,bm,dj,b5,ed,dy,dw,de,d9,b3,d2,d0,co,b7,bv,d3,db,dg,c9,cf,dt,cj,b1,cl,ct,c1,ef,c5,dz,eb,cy,ee,b0,d8,cp,ec,eh,b8,b6,ea,dv,aG (M ⟨kb,0,Z⟩),aG (M ⟨kb,0,Z⟩),aG (M ⟨kb,8,Z⟩),.func (.func 78) #[] #[aG (M ⟨w.heap.size,0,Z⟩)],bE S,bE S,.func (.func 81) #[] #[aG (M ⟨W1.heap.size,0,Z⟩)],.agg #[N aE y.b.epoch,N aE y.b.id,N aE y.b.time,.slice y.a y.b.txs.length y.cap,N aE y.b.place],bz,dq,dr,cn,ci,ce,dk,cg,eg,cz,du,bw,dd,b9,di,cv],defers:=[] }) (λy=>aL #[N aE y.b.epoch,N aE y.b.id,N aE y.b.time,.slice y.a y.b.txs.length y.cap,N aE y.b.place] 118) ?iassign ?ibody ?idone ?istop
  case iassign=>
   intro l x W K hK;simp only[BX.encs];gi_wp2;exact hK
  case ibody=>
   rintro lb bh y F bg E g6 gv ⟨rb,g5⟩ hF ⟨⟨ac,ak,hU,e9⟩,f0⟩ a8 ⟨cx,av,pp,ag⟩;have bk:=hU.nU a8 (λk c t fz hk e=>e.2 c t fz hk) (λk hk e=>by have:=(hF k e.1).1;omega);obtain⟨hT,z,hP,az,a7,_,c3,ba,bl,f2,f4,fh,ew,a9⟩:=H1.out;obtain⟨G,hG,gb,gk⟩:=jD E #[N aE y.b.epoch,N aE y.b.id,N aE y.b.time,.slice y.a y.b.txs.length y.cap,N aE y.b.place] 118;rw[<-hG];have gs:G.heap.size=E.heap.size+1:=by rw[hG];simp
   obtain⟨k0,k1,k2,k3,k4,kf⟩:=cells5 gk;have J:=bk.nU (.below gb jB _) (λ_ _ _ _ _ e=>e) (λ_ _ e=>e);have g2:=bk.jM.size;have dx:=(J.jM.block b2 aA f2).trans ba;have ff:=(J.jM.block b4 aA f4).trans bl;have c4:=kJ ff;have g9:b4≠E.heap.size:=aA
   have fu:Qe (V.heap[1]?) W1.heap.size S bh E:=f0.jM a8 (λe=>by have:=(hF _ e.1).1;omega) (λe=>by have:=(hF _ e.1).1;omega);have ai:Qe (V.heap[1]?) W1.heap.size S bh G:=fu.jM (.below gb jB (λ_=>False)) (λe=>e) (λe=>e);have gx:W1.heap.size+1<bg.heap.size:=aA
   have gw:=a8.size;have ah:∀g,ac.ownBlock=M g->g<bg.heap.size:=λg hg=>hU.row.lt hg
   have I:∀g,ac.ownBlock=M g->¬wS F bg E g:=λg hg e=>by
    obtain e|e:=e
    .exact e9 g hg e
    .have:=ah g hg;omega
   have fk:Hid _:=jy J (jy ai (jy I (jy ah (jy dx (jy gk (jy cx (jy ag (jy bk (jy av (jy hF gb))))))))));clear hU bk J ai fu f0 a8 cx ag I hT z hP az a7 c3 ba bl gk dx ff hG ah e9 av hF gb;by_cases ft:y.b.epoch<=n
   .have fd:(y.b.epoch:Int)<=n:=by omega
    gi_wp2;refine wpIn_region_any XN ?_;change wpAnyIn _ _ _ _ _ _ _ _ _ (World.drew _);obtain⟨J,ai,I,ah,dx,gk,cx,ag,bk,av,hF,gb⟩:=fk.out;have ae:jI (λk=>k=E.heap.size) G (G.setCell ⟨E.heap.size,4,Z⟩ (N aE n)).drew:=(jI.set G _ 4 _).trans (jI.drew _ _) (λ_ _ e=>e);have f9:(G.setCell ⟨E.heap.size,4,Z⟩ (N aE n)).drew.heap[E.heap.size]? =M (aL (bt y.b.epoch y.b.id y.b.time y.a y.b.txs.length y.cap n).toArray 118 (0,0)):=jX gk 4 _;have ej:=J.obj;have eu:ac.ownBlock≠M E.heap.size:=λe=>by have:=ah _ e;omega
    have er:kb≠E.heap.size:=aA
    have fc:=f8.out
    have au:(ws++Y++ak).length<4294967296:=by
     have q1:=H0.out.2.2.1;have q2:=Z1 List.length H1.out.2.1.fst;rw[bC]at q2;have q3:=Dv.wL n (af.map PX.s);rw[bC]at q3;have q4:=Z1 List.length J.fst;rw[bC]at q4;have q5:=UK n (bh.map BX.b);have q6:=ag.le;rw[bC]at q5;rw[bJ,aS,bC]at q6
     have q7:(textOf S.data.toList).length<=4096:=by
      have:=Dv.qy S.data.toList.length S.data.toList 4096 [] (by simp only[bY];omega);unfold textOf;omega
     have q8:=H1.out.2.2.2.2.2.2.2.2.2.2.2.2.1;simp only[eP,fP,aU,bY]at q6;simp only[aS];omega
    have gr:RB (G.setCell ⟨E.heap.size,4,Z⟩ (N aE n)).drew b2 E.heap.size kb (ws++Y++ak).length ac ((ws++Y++ak).flatMap lV) (((cs.setIfInBounds 9 an).setIfInBounds 10 R).setIfInBounds 10 ac) y.b.epoch y.b.id y.b.time y.a y.b.txs.length y.cap n:=
     ⟨(ae.block b2 aA aA).trans dx,(ae.block kb (jE ej) er).trans ej,by rw[aV];simp[fc],f9,J.row.jM ae (λg hg e=>eu (by rw[hg,e])),eu,au⟩
    refine V4 (l:=lb) (m:=1) gr rfl rfl rfl ?_;intro a' g off cap wz hr hg;have f5:kQ G (.slice y.a y.b.txs.length y.cap) y.b.txs:=Row.below cx.1 gb;have em:=J.more ft f5 (b10:=E.heap.size) aA eu ⟨_,gk⟩ ae hr hg;have hM:jI (λk=>(ac.ownBlock=M k\/k=E.heap.size)\/k=kb) G (wz.setCell ⟨kb,10,Z⟩ (aM (M ⟨g,off,Z⟩) ((ws++Y++ak).length+1) cap)):=(((ae.mono (λk _ e=>bN (cF e))).trans (jI.alloc (λ_=>False) _ _) (λ_ _ e=>e.elim)).trans hg.jM (λk _ e=>bN (bN e))).trans (jI.set wz kb 10 _) (λk _ e=>cF e);have e6:=H1.out.2.2.2.2.2.2.2.2.2.2.2.1
    have fx:∀pr,Qe (V.heap[1]?) W1.heap.size S pr (wz.setCell ⟨kb,10,Z⟩ (aM (M ⟨g,off,Z⟩) ((ws++Y++ak).length+1) cap)):=λpr=>ai.jM hM (by
     rintro((e|e)|e)
     .obtain q|q:=J.own _ e
      .exact e6 (cF q)
      .omega
     .omega
     .exact e6 (bN e)) (by
     rintro((e|e)|e)
     .exact jH J.row ai.2.2 aB e
     .omega
     .omega)
    refine⟨(zB hM (λk hk _=>?_)).from _,fx _,λk hk=>hM.block k ?_ ?_,⟨_,_,by rw[bJ];exact em,?_⟩,fx _⟩
    .obtain(e|rfl)|rfl:=hk
     .obtain⟨e0,q⟩:=J.row.obj e;exact⟨_,_,_,q⟩
     .exact⟨_,_,_,gk⟩
     .exact⟨_,_,_,ej⟩
    .obtain e|e:=hk
     .have:=(hF k e).2;omega
     .omega
    .rintro((e|e)|e)
     .exact I k e hk
     .obtain q|q:=hk
      .have:=(hF k q).2;omega
      .omega
     .obtain q|q:=hk
      .have:=(hF k q).1;omega
      .omega
    .intro q hq e;have hq:g=q:=by simpa[eE]using hq
     subst hq;obtain r1|r1:=hg.own
     .exact I g r1 e
     .have r2:(G.setCell ⟨E.heap.size,4,Z⟩ (N aE n)).drew.heap.size+1<=g:=by simpa using r1
      have r3:=ae.size;obtain e|e:=e
      .have:=(hF g e).2;omega
      .omega
   .have fd:¬(y.b.epoch:Int)<=n:=by omega
    gi_wp2;obtain⟨J,ai,I,_⟩:=fk.out;refine⟨KeepsFrom.refl _ _,ai.jM (jI.refl (λ_=>False) _) (λe=>e) (λe=>e),λ_ _=>rfl,⟨ac,ak,?_,I⟩,ai.jM (jI.refl (λ_=>False) _) (λe=>e) (λe=>e)⟩;rw[bJ];exact J.skip ft
  case idone=>
   rintro xs F bg Wb hF ⟨p,gc,gt⟩ ⟨⟨ac,ak,hU,_⟩,_⟩ a8;have aw:=hU.nU a8 (λk c t fz hk e=>e.2 c t fz hk) (λk hk e=>by have:=(hF k e.1).1;omega);obtain⟨hT,z,hP,az,a7,_,_,_,_,_,_,_,_,a9⟩:=H1.out
   have bq:vY n (xs.map BX.b)=Dv.reads x.s n:=by
    have:=gc.all gt n;rw[a9]at this;unfold Dv.reads;exact this.symm
   have ga:=z.more aw bq
   have gg:=hP.aeP (v:=ac) (by rw[a7];exact aw.obj) aw.jM (λk hk e=>by
    obtain e|e:=e
    .exact hP.chs.lK hP.obj aB aB (e ▸ hk)
    .exact hP.chs.Ub z.row e hk)
   refine⟨(zB aw.jM (λk hk _=>?_)).from _,⟨⟨_,by rw[tu];exact gg⟩,?_⟩,λk h1 h2=>aw.jM.block k h2 ?_,an,ac,Y++ak,by rw[bJ];exact ga⟩
   .obtain rfl|e:=hk
    .exact⟨_,_,_,z.obj⟩
    .obtain⟨e0,q⟩:=z.row.obj e;exact⟨_,_,_,q⟩
   .refine(cD (aw.jM.block w.heap.size aA ?_)).trans az;rintro(e|e)
    .omega
    .obtain q|q:=z.own _ e
     .have:=f7 _ q;omega
     .omega
   .rintro(e|e)
    .omega
    .have:=hT.row.lt e;omega
  case istop=>
   rintro c gy F bg Wb _ _ h;exact h.elim
 case done=>
  rintro D xs W0 W hD gm _ ⟨v9,R,Y,hT⟩ hc hE ⟨cs',ey,bs,cu,hP,hl,hx⟩ hK;obtain⟨an,fy⟩:=hT.turn hc hE (λc t fz e=>lg e hP.chs.named rfl);rw[hx]at fy hP;exact H0.out.2.2.2.1 D W an R Y cs' ey bs cu (fy.base H0.out.2.2.2.2.2.2.2.2.2.1 e3) hP hl aA (jE hK) hK
 case stop=>
  rintro D c af W0 W hD gm _ h;exact h.elim
end Hm
namespace Hm
open Go.RowKit Go.Joins Go.Shelf
open Fr (F below_drewN)
open Dv (X2 Cf Ba Ch)
noncomputable def takeB:eN:=match Tryz.f31.body with
 |some (bL _ (bL _ (bL _ (bL _ (bL (bL _ c) _)))))=>c
 |_=>.skip
def Ib(u0 u1 u3 u5 u6 u7 u8 u9 br cy bq cc cv cg u16 cn bd bl bs c4 bk bh cf a8 cw cx c6 a9 c5 cd u32 b6 bu cp c1 b8 cj ca cq ck bz cr dr dx dy d7 d2 dm d8 fb ed ea e3 d1 e9 d3 eu er e7 fc ej ef ey dz bb dd bo bg b0 ci a6 ce b3 ba bj co bn a5 de bm dh bv bp b1 cm cl c2 a7:aD)(b2 b4 kb nb n C m:Nat)(most:Int)(cs vs:Array aD)(vo:aD)(nm:AL)(os:List PC)(fs:Nat->List F)(w:X){Q:Exit->Act->X->Prop}(h2:w.heap[b2]? =M (aL #[ptr kb] 71 (0,0)))(h4:w.heap[b4]? =M (aL #[N aE n] 3 (0,0)))(hk:w.heap[kb]? =M (aL cs 100 (0,0)))(h6:cs[6]? =M (N aE most))(h8:cs[8]? =M (.map (M nb)))(h9:cs[9]? =M vo)(a2:Chs w nb vo nm os)(hC:w.heap[C]? =M (aL vs 106 (0,0)))(fd:vs.size=m)(ak:∀i,i<m->∃v,vs[i]? =M v/\zC w v (fs i))(b9:∀i f,i<m->f∈fs i->f.num<65536/\f.data.length<=65536)(hm:m<=16777216)(au:∀i,(fs i).length<=16777216)(aw:os.length+(lT fs m).length<=4294967295)(eb:0<=most/\most<=4294967296)(hQ:∀(x6 x8 ew dq fa e8 dv eg d0 em eo e1 eh el di ei et e0 ec dj dk e2 ez e6 e4:aD)(W':X)(af:aD)(Y:AL)(R:List PC),BI kb nb w cs vo os ((lT fs m).foldl (Dv.frame most n) (lives nm os)) (lT fs m).length W' af Y R->Q .normal { tmps:=#[u0,u1,aG (M ⟨b2,0,Z⟩),u3,aG (M ⟨b4,0,Z⟩),u5,x6,u7,x8,u9,br,cy,bq,cc,cv,cg,u16,cn,bd,bl,bs,c4,bk,bh,cf,a8,cw,cx,c6,a9,c5,cd,u32,b6,bu,cp,c1,b8,cj,ca,cq,ck,bz,cr,aM (M ⟨C,0,Z⟩) m m,N aE m,ew,dq,fa,e8,dv,eg,d0,em,eo,e1,eh,el,di,ei,et,e0,ec,dj,dk,e2,ez,e6,e4,bb,dd,bo,bg,b0,ci,a6,ce,b3,ba,bj,co,bn,a5,de,bm,dh,bv,bp,b1,cm,cl,c2,a7],defers:=[] } W'):takeB.wp PQ Q { tmps:=#[u0,u1,aG (M ⟨b2,0,Z⟩),u3,aG (M ⟨b4,0,Z⟩),u5,u6,u7,u8,u9,br,cy,bq,cc,cv,cg,u16,cn,bd,bl,bs,c4,bk,bh,cf,a8,cw,cx,c6,a9,c5,cd,u32,b6,bu,cp,c1,b8,cj,ca,cq,ck,bz,cr,aM (M ⟨C,0,Z⟩) m m,N aE m,N aE 0,dr,dx,dy,d7,d2,dm,d8,fb,ed,ea,e3,d1,e9,d3,eu,er,e7,fc,ej,ef,ey,dz,bb,dd,bo,bg,b0,ci,a6,ce,b3,ba,bj,co,bn,a5,de,bm,dh,bv,bp,b1,cm,cl,c2,a7],defers:=[] } w:=by
 have ay:cs.setIfInBounds 9 vo=cs:=by
  apply gB;intro i;simp only[aV];split
  .rename_i e;subst e
   first
    |exact h9.symm
    |(rw[ZD (jE h9)];exact h9.symm)
  .rfl
 have ct:BI kb nb w cs vo os ((lT fs 0).foldl (Dv.frame most n) (lives nm os)) (lT fs 0).length w vo nm os:=⟨by rw[ay];exact hk,a2,jI.refl _ _,λk hk=>bN hk,by simp[lT],rfl⟩
 have E:∀(k:Nat)(c:Array aD)(t:Nat)(fz:Nat×Nat),w.heap[k]? =M (aL c t fz)->t≠100->t≠136->t≠140->¬(k=kb\/Own nb vo os k):=by
  rintro k c t fz ap t1 t2 t3 (rfl|e)
  .rw[hk]at ap;simp at ap;exact t1 ap.2.1.symm
  .exact a2.lK ap t2 t3 e
 have ag:∀W,jI (λk=>k=kb\/Own nb vo os k) w W->W.heap[b2]? =M (aL #[ptr kb] 71 (0,0))/\W.heap[b4]? =M (aL #[N aE n] 3 (0,0))/\W.heap[C]? =M (aL vs 106 (0,0))/\∀v l,zC w v l->zC W v l:=λW hc=>⟨(hc.block _ (jE h2) (E _ _ _ _ h2 aB aB aB)).trans h2,(hc.block _ (jE h4) (E _ _ _ _ h4 aB aB aB)).trans h4,(hc.block _ (jE hC) (E _ _ _ _ hC aB aB aB)).trans hC,λv l h=>h.imp id (λ⟨g,cap,du,e,q1,q2⟩=>⟨g,cap,du,e,(hc.block g (jE q1) (E _ _ _ _ q1 aB aB aB)).trans q1,q2⟩)⟩
 have I:Hid _:=jy ct (jy ag (jy ak (jy b9 (jy aw (jy hQ (jy h6 (jy h8 au)))))));have H9:Hid (cs[9]? =M vo):=h9;clear ct ag ak b9 aw hQ h6 h8 au h2 h4 hk h9 a2 hC ay E;simp only[takeB,Tryz.f31];go_wp2_with fail;go_loopg [46] m (λgg t wr=>∃(i:Nat)(af:aD)(Y:AL)(R:List PC),i<=m/\t=N aE i/\gg=m-i/\Hid (BI kb nb w cs vo os ((lT fs i).foldl (Dv.frame most n) (lives nm os)) (lT fs i).length wr af Y R))
 case atStart=>exact⟨0,vo,nm,os,dL _,rfl,rfl,I.out.1⟩
 case round=>
  obtain⟨i,af,Y,R,hi,rfl,rfl,HI⟩:=hrel;by_cases a0:i<m
  .have c3:(i:Int)<m:=by omega
   obtain⟨v,hv,a3⟩:=I.out.2.2.1 i a0;obtain⟨va,vc,a4⟩:=a3.slice;have hk:=I.out.2.1 wr HI.out.jM;have cC:wr.cell? ⟨C,i,Z⟩=M (.slice va (fs i).length vc):=by rw[aI hk.2.2.1,hv,a4]
   have au:=I.out.2.2.2.2.2.2.2.2 i;obtain⟨X1,hN⟩:∃X1,(fs i).length=X1:=⟨_,rfl⟩
   rw[hN]at cC au;have HN:Hid _:=jy hN (jy a3 a4);clear hv a3 a4 hk hN;go_wp2_with fail;go_loopg [52] X1 (λgg t wx=>∃(j:Nat)(z:aD)(av:AL)(an:List PC),j<=X1/\t=N aE j/\gg=X1-j/\Hid (BI kb nb w cs vo os ((lT fs i++(fs i).take j).foldl (Dv.frame most n) (lives nm os)) (lT fs i++(fs i).take j).length wx z av an))
   case atStart=>exact⟨0,af,Y,R,dL _,rfl,rfl,by rw[List.take_zero,gI];exact HI⟩
   case round=>
    rename_i fe;obtain⟨j,z,av,an,hj,rfl,rfl,HJ⟩:=hrel;by_cases ee:j<X1
    .have dg:(j:Int)<X1:=by omega
     obtain⟨f,hf⟩:∃f,(fs i)[j]? =M f:=⟨_,aO (by rw[HN.out.1];exact ee)⟩
     have hk:=I.out.2.1 wr HJ.out.jM;obtain⟨g,cap,e,k0,k1,k2,k3⟩:=(hk.2.2.2 v (fs i) HN.out.2.1).at hf;rw[HN.out.2.2]at e;simp only[Value.slice.injEq,true_and]at e;obtain⟨rfl,rfl⟩:=e;obtain⟨DB,b7⟩:∃DB:ByteArray,(⟨f.data.toArray⟩:ByteArray)=DB:=⟨_,rfl⟩
     rw[b7]at k2;obtain⟨Wd,hX,c9,ah⟩:=jD wr #[N dT f.chan,N mb f.num,bE DB,.bool f.last] 109;have aq:wr.heap.size<Wd.heap.size:=(jE ah)
     have aj:=HJ.out.below c9;have ac:=I.out.2.1 Wd aj.jM
     have ai:an.length<=4294967295:=by
      have q1:=HJ.out.len;have q2:=I.out.2.2.2.2.1;have q3:=Xb fs (show i+1<=m from a0);rw[wM,aS]at q3;rw[aS,bK]at q1;omega
     have bw:=I.out.2.2.2.1 i f a0 (aX hf);have cb:(cs.setIfInBounds 9 z)[8]? =M (.map (M nb)):=by rw[aV];simpa using I.out.2.2.2.2.2.2.2.1
     have db:(cs.setIfInBounds 9 z)[6]? =M (N aE most):=by rw[aV];simpa using I.out.2.2.2.2.2.2.1
     have b5:(cs.setIfInBounds 9 z)[9]? =M z:=by
      obtain⟨dt,_⟩:=dY.1 H9.out;rw[aV];simp[dt]
     have hS:∀V,Below Wd.heap.size Wd V->V.cell? ⟨b2,0,Z⟩=M (aG (M ⟨kb,0,Z⟩))/\V.cell? ⟨b4,0,Z⟩=M (N aE n)/\V.cell? ⟨kb,6,Z⟩=M (N aE most)/\V.cell? ⟨wr.heap.size,0,Z⟩=M (N dT f.chan)/\V.cell? ⟨wr.heap.size,1,Z⟩=M (N mb f.num)/\V.cell? ⟨wr.heap.size,2,Z⟩=M (bE DB)/\V.cell? ⟨wr.heap.size,3,Z⟩=M (.bool f.last):=λV hV=>by
      have q2:=(hV.block _ (jE ac.1)).trans ac.1;have q4:=(hV.block _ (jE ac.2.1)).trans ac.2.1;have qk:=(hV.block _ (jE aj.obj)).trans aj.obj;have qo:=(hV.block _ aq).trans ah;exact⟨by rw[aI q2];rfl,by rw[aI q4];rfl,by rw[aI qk];exact db,by rw[aI qo];rfl,by rw[aI qo];rfl,by rw[aI qo];rfl,by rw[aI qo];rfl⟩
     have aa:∀V,Below Wd.heap.size Wd V->eL PQ 51 #[aG (M ⟨kb,8,Z⟩),.agg #[N dT f.chan,N mb f.num,bE DB,.bool f.last],N aE n,N aE most] V λe w'=>e=.returned (.tuple #[])/\(w'.cell? ⟨b2,0,Z⟩=M (aG (M ⟨kb,0,Z⟩))/\w'.cell? ⟨b4,0,Z⟩=M (N aE n)/\w'.cell? ⟨kb,6,Z⟩=M (N aE most)/\w'.cell? ⟨wr.heap.size,0,Z⟩=M (N dT f.chan)/\w'.cell? ⟨wr.heap.size,1,Z⟩=M (N mb f.num)/\w'.cell? ⟨wr.heap.size,2,Z⟩=M (bE DB)/\w'.cell? ⟨wr.heap.size,3,Z⟩=M (.bool f.last))/\Hid (∃ae ao am,BI kb nb w cs vo os ((lT fs i++(fs i).take (j+1)).foldl (Dv.frame most n) (lives nm os)) (lT fs i++(fs i).take (j+1)).length w' ae ao am):=λV hV=>by
      have J:=aj.below hV;have ht:=take_any kb nb (cs.setIfInBounds 9 z) z av an f n most V J.obj cb b5 J.chs ai bw eb;unfold Jw at ht;rw[b7]at ht;refine ht.mono ?_;rintro e w' ⟨rfl,ae,ao,am,cz,d9⟩
      have az:=J.took cz (l':=(lT fs i++(fs i).take (j+1)).foldl (Dv.frame most n) (lives nm os)) (by
       rw[d9,J.lives,take_snoc hf];simp only[List.foldl_append,List.foldl_cons,List.foldl_nil])
      have cu:=I.out.2.1 w' az.jM
      have qo:w'.heap[wr.heap.size]? =_:=(cz.jM.block wr.heap.size (aP aq hV.size) (by
       have qV:=(hV.block _ aq).trans ah;rintro(e|e)
       .have:=J.obj;rw[<-e,qV]at this;simp at this
       .exact J.chs.lK qV aB aB e)).trans ((hV.block _ aq).trans ah)
      refine⟨rfl,⟨by rw[aI cu.1];rfl,by rw[aI cu.2.1];rfl,?_,by rw[aI qo];rfl,by rw[aI qo];rfl,by rw[aI qo];rfl,by rw[aI qo];rfl⟩,ae,ao,am,?_⟩
      .rw[aI az.obj,aV];simpa using I.out.2.2.2.2.2.2.1
      .have ex:(lT fs i++(fs i).take (j+1)).length=(lT fs i++(fs i).take j).length+1:=by
        rw[take_snoc hf];simp only[aS,iF];omega
       rw[ex];exact az
     have HS:Hid _:=hS;have a1:Hid _:=aa;clear hS aa bw ai aj ac ah c9 hk cb db b5;go_upto_region 10 with fail;rw[<-hX];clear hX k0 k1 k2 k3;have ar:=aJ Wd.heap.size Wd;go_region_held3 (λV=>V.cell? ⟨b2,0,Z⟩=M (aG (M ⟨kb,0,Z⟩))/\V.cell? ⟨b4,0,Z⟩=M (N aE n)/\V.cell? ⟨kb,6,Z⟩=M (N aE most)/\V.cell? ⟨wr.heap.size,0,Z⟩=M (N dT f.chan)/\V.cell? ⟨wr.heap.size,1,Z⟩=M (N mb f.num)/\V.cell? ⟨wr.heap.size,2,Z⟩=M (bE DB)/\V.cell? ⟨wr.heap.size,3,Z⟩=M (.bool f.last)) (first|exact dw|(refine HS.out _ ?_;first|exact ar|exact ar.drew)) (first|(go_at_call 51;(refine aT (a1.out _ ?_) ?_;(first|exact ar.drew|exact ar);rintro e5 w5 ⟨rfl,dw,H5⟩)))
     all_goals
      go_wp2_with fail;go_roundg (X1-(j+1))
      case measure=>omega
      case rel=>
       obtain⟨ae,ao,am,h3⟩:=H5.out;exact⟨j+1,ae,ao,am,aA,by go_num,rfl,h3⟩
    .have dg:¬(j:Int)<X1:=by omega
     obtain rfl:j=X1:=aA
     go_wp2_with fail;go_roundg (m-(i+1))
     case measure=>omega
     case rel=>
      refine⟨i+1,z,av,an,aA,by go_num,rfl,?_⟩;have q:=HJ;rw[eH (by rw[HN.out.1];exact jB),<-wM]at q;exact q
  .have c3:¬(i:Int)<m:=by omega
   obtain rfl:i=m:=aA
   go_wp2_with fail;exact I.out.2.2.2.2.2.1 _ _ _ _ _ _ _ _ _ _ _ _ _ _ _ _ _ _ _ _ _ _ _ _ _ _ _ _ _ HI.out
end Hm
