import Derived.Test.YtpibpdpedjinhabGreatDoorP19
import Derived.RangeFuncWrites
import Derived.Shelf.RegionOpen
set_option maxRecDepth 100000
set_option maxHeartbeats 4000000
set_option linter.all false
open Bool renaming false->aR,true->bB
open Go renaming Addr->fR,Calls->eL,Ending->pv,Obj->oA,TypeId->cH,Value->aD,World->X,bodyPost_ret->cN,callsIn_wide->iN,heap_alloc_new->cY,results_none->po,undef->aH,wpAnyIn_ready->eT
open Go.AllReadyIn renaming cons->gO,nil->iX
open Go.Ending renaming returned->bX
open Go.IntKind renaming i64->aE
open Go.Obj renaming cells->aL,deferred->eA
open Go.Proofs.Tryz renaming results141->mz
open Go.RowKit renaming Below->cG,Hid->cJ
open Go.Value renaming agg->gR,bool->cM,int->N,ownBlock->eE,pointer->aG,slice->aM,string->bE,tuple->cP
open Go.World renaming cell?_of_block->cD,setCell->eO
open Ne renaming symm->lR
open Option renaming none->Z,some->M
open Or renaming inl->bN,inr->cF
namespace Go.Proofs.YtpibpdpedjinhabGreatDoor
section
open Go.RowKit Go.Joins Go.Shelf
attribute [local go_sem] Oper.semAt_some
variable {u0 u1 u2 c0 c1 c2:aD}{t:cH}{wr w3:X}{n lo:Nat}{i:Im.It}
def Xi:Go.Shelf.Ren:=⟨fun|316=>129|n=>n,fun|0=>0|3=>3|4=>4|5=>5|9=>9|37=>199|127=>223|n=>n,fun|n=>n⟩
def Jq:Go.Proofs.LaysM.n316 PQ Xi:={
 mixed:=XN
 f316:=(fq Tryz.func129 rfl).trans (Z1 M XN)
 t0:=(uq Tryz.underlying0)
 a0:=(iaq Tryz.isAgg0)
 z0:=(szq Tryz.sizeOf0)
 v0:=(zvq Tryz.zeroValue0)
 t3:=(uq Tryz.underlying3)
 a3:=(iaq Tryz.isAgg3)
 z3:=(szq Tryz.sizeOf3)
 v3:=(zvq Tryz.zeroValue3)
 t4:=(uq Tryz.underlying4)
 a4:=(iaq Tryz.isAgg4)
 z4:=(szq Tryz.sizeOf4)
 v4:=(zvq Tryz.zeroValue4)
 t5:=(uq Tryz.underlying5)
 a5:=(iaq Tryz.isAgg5)
 z5:=(szq Tryz.sizeOf5)
 v5:=(zvq Tryz.zeroValue5)
 t9:=(uq Tryz.underlying9)
 a9:=(iaq Tryz.isAgg9)
 z9:=(szq Tryz.sizeOf9)
 v9:=(zvq Tryz.zeroValue9)
 t37:=(uq Tryz.underlying199)
 a37:=(iaq Tryz.isAgg199)
 z37:=(szq Tryz.sizeOf199)
 v37:=(zvq Tryz.zeroValue199)
 t127:=(uq Tryz.underlying223)
 a127:=(iaq Tryz.isAgg223)
 z127:=(szq Tryz.sizeOf223)
 v127:=(zvq Tryz.zeroValue223)
 i0:=XN
 i3:=XN
 i4:=XN
 i5:=XN
 i9:=XN
 i37:=XN
 i127:=by kernel_rfl }
def clone_any(s:ByteArray)(w:X)(hs:s.size<=16777216):eL PQ 92 #[bE s] w λe w'=>e=bX (bE s)/\cG w.heap.size w w':=by go_enter (fq Tryz.func92 rfl),Tryz.ntmps92;go_wp2_with fail;refine(Any.stringslite_Clone (ρ:=Xi) Jq s w aA).mono ?_;rintro e w1 ⟨rfl,z⟩;go_wp2_with fail;go_ret;exact⟨rfl,z⟩
def Got(n lo:Nat)(w':X)(e:pv):Option (Im.It×Nat)->Prop
 |none=>e=bX (cP #[gR #[cM aR,bE ⟨#[]⟩,aM Z 0 0],N aE 0,cM aR])
 |some x=>∃a cap,e=bX (cP #[gR #[.bool x.1.list,bE ⟨x.1.bytes.toArray⟩,.slice a x.1.kids.length cap],N aE x.2,cM bB])/\Tr w' n lo w'.heap.size (.bool x.1.list) (bE ⟨x.1.bytes.toArray⟩) (.slice a x.1.kids.length cap) x.1
def FirstSaid(d:Nat):Prop:=∀(s:ByteArray)(z:Nat)(w:X),s.size<=16777216->z+d=9->lJ w->
  eL PQ 141 #[bE s,N aE z] w λe w'=>Got (d+1) w.heap.size w' e (Im.read Im.body d s.data.toList)/\cG w.heap.size w w'
structure Wd where
 e:Nat
 i:Im.It
 a:Option fR
 cap:Nat
def Wd.encs(x:Wd):Array aD:=#[N aE x.e,gR #[.bool x.i.list,bE ⟨x.i.bytes.toArray⟩,.slice x.a x.i.kids.length x.cap]]
def rO(l:List Wd):Nat:=l.foldl (λ_ x=>x.e) 0
def nY(l:List Wd)(x:Wd):rO (l++[x])=x.e:=by simp[rO]
def XY(n:Nat)(z:List Wd)(x:Wd)(lo:Nat)(W:X):Prop:=z.length<16777216/\Tr W n lo W.heap.size (.bool x.i.list) (bE ⟨x.i.bytes.toArray⟩) (.slice x.a x.i.kids.length x.cap) x.i
def XY.turn(n:Nat)(z:List Wd)(x:Wd)(lo:Nat)(W W':X)(h:∀k,lo<=k->W'.heap[k]? =W.heap[k]?)(hs:W'.heap.size=W.heap.size)(E:XY n z x lo W):XY n z x lo W':=by refine⟨E.1,?_⟩;rw[hs];exact Tr.kept n _ _ _ _ _ _ (λk I _=>h k I) E.2
def Done(d:Nat)(s:ByteArray)(xs:List Wd):Prop:=∃p,Im.nJ (Im.read Im.body d) s.data.toList (xs.map Wd.i) p/\rO xs=p/\(s.size<=p\/p<s.size/\Im.read Im.body d (s.data.toList.drop p)=Z)
def Left(d:Nat)(s:ByteArray)(xs:List Wd):Prop:=∃p,Im.nJ (Im.read Im.body d) s.data.toList (xs.map Wd.i) p/\rO xs=p
def K3.Ia(w:X)(x y z:aD)(t:cH):K3 (w.alloc (aL #[x,y,z] t)) w.heap.size 0 x y z:=⟨aC,aC,aC⟩
def K3.acQ{w:X}{b:Nat}(h:w.heap[b]? =M (aL #[u0,u1,u2] t (0,0)))(x y z:aD):K3 (((w.setCell ⟨b,0,Z⟩ x).setCell ⟨b,1,Z⟩ y).setCell ⟨b,2,Z⟩ z) b 0 x y z:=by have E:=block_setCell h (i:=0) x;have h2:=block_setCell E (i:=1) y;have h3:=block_setCell h2 (i:=2) z;refine⟨?_,?_,?_⟩<;>rw[aI h3]<;>simp
def GZ(E:cG wr.heap.size wr w3)(ht:Tr w3 n lo w3.heap.size c0 c1 c2 i)(z:wr.heap.size<=lo)(t:cH):cG wr.heap.size wr (w3.alloc (aL #[c0,c1,c2] t))/\K3 (w3.alloc (aL #[c0,c1,c2] t)) w3.heap.size 0 c0 c1 c2/\Tr (w3.alloc (aL #[c0,c1,c2] t)) n wr.heap.size (w3.alloc (aL #[c0,c1,c2] t)).heap.size c0 c1 c2 i:=
 ⟨E.alloc E.size _,K3.Ia _ _ _ _ _,Tr.wider (Tr.kept n _ _ _ _ _ _ (λ_ _ I=>aZ _ _ _ I) ht) z aC⟩
def RG(E:cG wr.heap.size wr w3)(ht:Tr w3 n lo w3.heap.size c0 c1 c2 i)(z:wr.heap.size<lo)(I:w3.heap[wr.heap.size]? =M (aL #[u0,u1,u2] t (0,0))):cG wr.heap.size wr (((w3.setCell ⟨wr.heap.size,0,Z⟩ c0).setCell ⟨wr.heap.size,1,Z⟩ c1).setCell ⟨wr.heap.size,2,Z⟩ c2)/\K3 (((w3.setCell ⟨wr.heap.size,0,Z⟩ c0).setCell ⟨wr.heap.size,1,Z⟩ c1).setCell ⟨wr.heap.size,2,Z⟩ c2) wr.heap.size 0 c0 c1 c2/\Tr (((w3.setCell ⟨wr.heap.size,0,Z⟩ c0).setCell ⟨wr.heap.size,1,Z⟩ c1).setCell ⟨wr.heap.size,2,Z⟩ c2) n wr.heap.size (((w3.setCell ⟨wr.heap.size,0,Z⟩ c0).setCell ⟨wr.heap.size,1,Z⟩ c1).setCell ⟨wr.heap.size,2,Z⟩ c2).heap.size c0 c1 c2 i:=
 ⟨((E.setCell jB _).setCell jB _).setCell jB _,K3.acQ I _ _ _,Tr.wider (Tr.kept n _ _ _ _ _ _ (λ_ J _=>by
  rw[aW _ _ _ _ aF,aW _ _ _ _ aF,aW _ _ _ _ aF]) ht) aA (by simp[eO])⟩
def Ed(d:Nat)(hf:FirstSaid d)(s:ByteArray)(ac sB dB:Nat)(w:X)(hs:s.size<=16777216)(bj:ac+d=9)(hH:lJ w)(h0:1<w.heap.size)(ay:w.cell? ⟨sB,0,Z⟩=M (bE s))(a7:w.cell? ⟨dB,0,Z⟩=M (N aE ac))(bg:sB<w.heap.size)(hdl:dB<w.heap.size):Gives PQ 140 #[aG (M ⟨sB,0,Z⟩),aG (M ⟨dB,0,Z⟩)] Wd.encs (λk=>k=1\/k=sB\/k=dB) (XY (d+1)) (Done d s) (Left d s) w:=by
 intro l J Jx W hW av aw;have Hf:cJ _:=hf;have HY:cJ _:=av;have bb:cJ _:=aw;clear hf av aw;refine callsIn_of_wp (fq Tryz.func140 rfl) rfl trivial ?_ rfl;simp only[Tryz.ntmps140,dR,aU,bY,Nat.reduceAdd,Nat.reduceSub,dH,dG,dU,dI,dS,dN];gi_wp2
 gi_loopw [4] (λt wr=>∃(R:List Wd)(W0:X)(p:Nat),t=N aE p/\cJ (Im.nJ (Im.read Im.body d) s.data.toList (R.map Wd.i) p/\rO R=p/\p<=s.size/\R.length<=p/\J R W0/\cG W0.heap.size W0 wr/\lJ wr/\sB<wr.heap.size/\dB<wr.heap.size)/\wr.cell? ⟨sB,0,Z⟩=M (bE s)/\wr.cell? ⟨dB,0,Z⟩=M (N aE ac))
  (λt wr=>s.size-(intOf t).toNat)
 case atStart=>
  have:=hW.size;exact⟨[],W,0,rfl,⟨Im.nJ.nil,rfl,dL _,jB,bb.out,aJ _ _,hH.below hW h0,aA,aA⟩,(hW.cell (p:=⟨sB,0,Z⟩) bg).trans ay,(hW.cell (p:=⟨dB,0,Z⟩) hdl).trans a7⟩
 case round=>
  obtain⟨R,W0,p,rfl,Hr,c0,c1⟩:=hrel;clear ay a7;by_cases ao:p<s.size
  .have a9:(p:Int)<s.size:=by omega
   have bh:(s.extract p s.size).size<=16777216:=aF
   have am:(s.extract p s.size).data.toList=s.data.toList.drop p:=by rw[ext_list,eH (by rw[<-bD];omega)]
   have E:=λW hW=>Hf.out _ ac W bh bj (Hr.out.2.2.2.2.2.2.1.below hW Hr.out.2.2.2.2.2.2.1.pos);have z:=aJ wr.heap.size wr;obtain⟨_,_,_,_,_,_,_,bk,bd⟩:=Hr.out;have bo:sB≠wr.heap.size:=aA
   have bq:dB≠wr.heap.size:=aA
   rw[am]at E;generalize hC:Im.read Im.body d (s.data.toList.drop p)=C at E;have ae:cJ _:=E;have HC:cJ _:=hC;clear E hC am;gi_wp2;refine wpIn_wide.2 ?_;cases C with
   |none=>
    go_cut [5,6,7] (λv5 v6 v7 wx=>v7=cM aR/\cG wr.heap.size wr wx)
    case first=>
     go_region_with (go_at_call 141;refine(ae.out _ ?_).mono ?_;(first|exact z|exact z.drew|exact below_drewN z _|exact z.alloc jB _|exact below_drewN (z.alloc jB _) _|exact(below_drewN z _).alloc jB _);rintro e w3 ⟨ap,af⟩;obtain rfl:=ap;have I:cG wr.heap.size wr w3:=Below.trans (by first|exact z|exact z.drew|exact below_drewN z _|exact z.alloc jB _|exact below_drewN (z.alloc jB _) _|exact(below_drewN z _).alloc jB _) (af.mono aC);(try (have hz:w3.heap[wr.heap.size]? =M (aL #[cM aR,bE ⟨#[]⟩,aM Z 0 0] 164 (0,0)):=(af.block _ aC).trans (by first|exact cY _ _|(have:=cY (wr.drewN 0) (aL #[cM aR,bE ⟨#[]⟩,aM Z 0 0] 164);simpa using this));have z0:w3.cell? ⟨wr.heap.size,0,Z⟩=M (cM aR):=(by rw[aI hz];rfl);have z1:w3.cell? ⟨wr.heap.size,1,Z⟩=M (bE ⟨#[]⟩):=(by rw[aI hz];rfl);have z2:w3.cell? ⟨wr.heap.size,2,Z⟩=M (aM Z 0 0):=(by rw[aI hz];rfl);have fz:=aQ hz)))
     all_goals
      go_wp2_with fail;go_meet;refine⟨rfl,?_⟩
      first
       |exact I.alloc I.size _
       |exact below_drewN (I.alloc I.size _) _
       |exact((I.setCell jB _).setCell jB _).setCell jB _
       |exact below_drewN (((I.setCell jB _).setCell jB _).setCell jB _) _
    case rest=>
     obtain⟨rfl,aa⟩:=hcut;gi_wp2;refine cN (po rfl _ _ _) rfl ?_;obtain⟨he,ai,az,a6,hJ,Y,ah,_,_⟩:=Hr.out;exact⟨⟨_,rfl⟩,bN ⟨R,W0,⟨p,he,ai,cF ⟨ao,HC.out⟩⟩,hJ,Y.trans (aa.mono Y.size)⟩⟩
   |some x=>
    obtain⟨i,n⟩:=x;have an:=Im.rZ Im.oZ d _ _ _ HC.out;rw[dW,<-bD]at an;have bs:=an.1;have bn:p+n<=s.size:=aA
    clear an;obtain⟨IB,aq⟩:∃IB:ByteArray,(⟨i.bytes.toArray⟩:ByteArray)=IB:=⟨_,rfl⟩
    go_cut [5,6,7] (λv5 v6 v7 wx=>∃(b:Nat)(a:Option fR)(cap:Nat),v5=aG (M ⟨b,0,Z⟩)/\v6=N aE n/\v7=cM bB/\cG wr.heap.size wr wx/\K3 wx b 0 (.bool i.list) (bE IB) (.slice a i.kids.length cap)/\Tr wx (d+1) wr.heap.size wx.heap.size (.bool i.list) (bE IB) (.slice a i.kids.length cap) i)
    case first=>
     go_region_with (go_at_call 141;refine(ae.out _ ?_).mono ?_;(first|exact z|exact z.drew|exact below_drewN z _|exact z.alloc jB _|exact below_drewN (z.alloc jB _) _|exact(below_drewN z _).alloc jB _);rintro e w3 ⟨ap,af⟩;obtain⟨a3,ak,rfl,aj⟩:=ap;simp only at aj⊢;rw[aq]at aj⊢;have au:cJ (Tr _ _ _ _ _ _ _ _):=aj;clear aj;have I:cG wr.heap.size wr w3:=Below.trans (by first|exact z|exact z.drew|exact below_drewN z _|exact z.alloc jB _|exact below_drewN (z.alloc jB _) _|exact(below_drewN z _).alloc jB _) (af.mono aC);(try (have hz:w3.heap[wr.heap.size]? =M (aL #[cM aR,bE ⟨#[]⟩,aM Z 0 0] 164 (0,0)):=(af.block _ aC).trans (by first|exact cY _ _|(have:=cY (wr.drewN 0) (aL #[cM aR,bE ⟨#[]⟩,aM Z 0 0] 164);simpa using this));have z0:w3.cell? ⟨wr.heap.size,0,Z⟩=M (cM aR):=(by rw[aI hz];rfl);have z1:w3.cell? ⟨wr.heap.size,1,Z⟩=M (bE ⟨#[]⟩):=(by rw[aI hz];rfl);have z2:w3.cell? ⟨wr.heap.size,2,Z⟩=M (aM Z 0 0):=(by rw[aI hz];rfl);have fz:=aQ hz)))
     all_goals
      go_wp2_with fail;go_meet
      first
       |exact⟨_,a3,ak,rfl,rfl,rfl,GZ I au.out aC _⟩
       |exact⟨_,a3,ak,rfl,rfl,rfl,RG I au.out aC hz⟩
    case rest=>
     obtain⟨b,a,cap,rfl,rfl,rfl,aa,⟨k0,k1,k2⟩,ag⟩:=hcut;rw[fJ]at k1 k2;rw[<-aq]at ag;obtain⟨he,ai,az,a6,hJ,Y,ah,_,_⟩:=Hr.out;have ba:=Y.trans (aa.mono Y.size);obtain⟨fn,tmps,assign,body,hy,hR⟩:=HY.out R ⟨p+n,i,a,cap⟩ W0 wc hJ ba ⟨aA,ag.wider Y.size jB⟩;simp only[Wd.encs,Int.natCast_add]at hy;rw[aq]at hy;have HR:cJ _:=hR;have bu:cJ _:=ag;clear hR ag;have bp:(p:Int)+(n:Int)<=16777216:=aA
     gi_wp2;refine RoundIn.mono HR.out ?_;rintro e W3 (⟨rfl,bm,br,ar⟩|⟨rfl,a8⟩)
     .gi_wp2;go_roundw
      case rel=>
       have q0:=ar 1 (bN rfl);have q1:=ar sB (cF (bN rfl));have q2:=ar dB (cF (cF rfl));have s5:=aa.size;have bl:=ah.below aa ah.pos;refine⟨_,W3,p+n,aC,⟨?_,nY _ _,bn,aF,bm,aJ _ _,?_,aA,aA⟩,?_,?_⟩
       .rw[bJ];exact Im.nJ.snoc he (by rw[<-bD];exact ao) HC.out
       .obtain⟨⟨a0,a1,a2⟩,a3,a4,a5⟩:=bl;exact⟨⟨(cD q0).trans a0,(cD q0).trans a1,(cD q0).trans a2⟩,(cD q0).trans a3,(cD q0).trans a4,(cD q0).trans a5⟩
       .exact(cD q1).trans ((aa.cell (p:=⟨sB,0,Z⟩) bk).trans c0)
       .exact(cD q2).trans ((aa.cell (p:=⟨dB,0,Z⟩) bd).trans c1)
      case measure=>simp[intOf];omega
     .gi_wp2;refine cN (po rfl _ _ _) rfl ?_;refine⟨⟨_,rfl⟩,cF ⟨_,W3,⟨p+n,?_,nY _ _⟩,a8,aJ _ _⟩⟩;rw[bJ];exact Im.nJ.snoc he (by rw[<-bD];exact ao) HC.out
  .have a9:¬(p:Int)<s.size:=by omega
   gi_wp2;go_end0;obtain⟨he,ai,az,a6,hJ,Y,ah,_,_⟩:=Hr.out;exact⟨⟨_,rfl⟩,bN ⟨R,⟨p,he,ai,bN aA⟩,W0,hJ,Y⟩⟩
end
section
open Go.RowKit Go.Joins
section
variable {w w' A B:X}{n lo base e k g cap size:Nat}{v:aD}{ks:List Im.It}{row:Option Nat}{xs:List aD}
def Tr.Nj:∀(n lo z:Nat)(c0 E J:aD)(i:Im.It),(∀k o,lo<=k->k<z->w.heap[k]? =M o->o.isCells=bB->w'.heap[k]? =M o)->Tr w n lo z c0 E J i->Tr w' n lo z c0 E J i
 |0,_,_,_,_,_,_,_,h=>h
 |n+1,lo,z,c0,E,J,i,hk,h=>by
  obtain⟨h0,xs,L,H,h1,h2,h3,h4,h5⟩:=h;refine⟨h0,xs,L,H,⟨h1.1,?_⟩,h2,h3,h4,λj hj=>?_⟩
  .obtain hz|⟨g,cap,I,hv,Y,hh,r⟩:=h1.2
   .exact bN hz
   .exact cF ⟨g,cap,I,hv,Y,hk g _ Y (h2 g (by rw[hv];rfl)) hh rfl,r⟩
  .obtain⟨d0,d1,R,e0,e1,e2,e3⟩:=h5 j hj;have:=h3 j hj;exact⟨d0,d1,R,e0,e1,e2,Tr.Nj n (L j) (H j) d0 d1 R _ (λk o a b=>hk k o aA aA) e3⟩
def Row.Nj{z:Nat}(h:Row w n lo z v ks)(hk:∀k o,lo<=k->k<z->w.heap[k]? =M o->o.isCells=bB->w'.heap[k]? =M o):Row w' n lo z v ks:=
 (Tr.Nj (n+1) lo z (cM bB) (bE ⟨#[]⟩) v ⟨bB,[],ks⟩ hk ⟨⟨rfl,rfl⟩,h⟩).2
def kH(J:A.grownBy B row)(I:∀r,row=M r->∃o:oA,A.heap[r]? =M o/\o.isCells=aR):∀(k:Nat)(o:oA),A.heap[k]? =M o->o.isCells=bB->B.heap[k]? =M o:=by intro k o hk E;refine(J.block k (jE hk) (λe=>?_)).trans hk;obtain⟨o',z,h2⟩:=I k e.symm;rw[hk]at z;cases z;rw[E]at h2;cases h2
def Row.turn(h:Row A n lo A.heap.size v ks)(z:A.grownBy B row)(E:∀r,row=M r->∃o:oA,A.heap[r]? =M o/\o.isCells=aR):Row B n lo B.heap.size v ks:=
 (h.Nj (λk o _ _=>kH z E k o)).wider jB z.size
def Tr.turn{c0 I z:aD}{i:Im.It}(h:Tr A n lo A.heap.size c0 I z i)(E:A.grownBy B row)(J:∀r,row=M r->∃o:oA,A.heap[r]? =M o/\o.isCells=aR):Tr B n lo B.heap.size c0 I z i:=
 (Tr.Nj n _ _ _ _ _ _ (λk o _ _=>kH E J k o) h).wider jB E.size
def Fg{F:Fence}{P:Program}{o:Oper}{a:Act}{K:Act->X->Prop}{Q:Exit->Act->X->Prop}{s x:Operand}{t:cH}{u v':aD}(hw:Bool)(z:hw=bB)
  (I:o.op=.call { callee:=.builtin .append,args:=#[s,x],argTypes:=#[t,t] }) (hs:a.eval s=v) (Y:a.eval x=u) (R:(Builtin.append_ #[t,t] o.type #[v,u]).run P w=.ok v' w') (J:K (a.put o.dst v') w') {E:Prop}:
  if hw=bB then Oper.wpIn F n P o a w K Q else E:=by
 rw[ZD z];unfold Oper.wpIn;refine⟨?_,?_⟩
 .simp[Oper.about,I,resolve,Target.leads,Sem.run_pure]
 .rw[Oper.semAt_plain F _ _ (by grind)];simp[execOp,I,resolve,invoke,builtin,hs,Y,R,Result.andThen];exact J
def XI{z0 z1 z2:aD}(h:w.ownsRow base e 3 (aM (M ⟨g,0,Z⟩) (k+1) cap) (k+1) (xs++[z0,z1,z2]))(hx:xs.length=k*3)(d0 Y J:aD):(((w.setCell ⟨g,k*3,Z⟩ d0).setCell ⟨g,k*3+1,Z⟩ Y).setCell ⟨g,k*3+2,Z⟩ J).ownsRow base e 3 (aM (M ⟨g,0,Z⟩) (k+1) cap) (k+1) (xs++[d0,Y,J]):=by
 refine⟨by simp[hx];omega,?_⟩;obtain⟨h1,_⟩|⟨g',aa,z,hv,hb,hh,E,R,I,ht⟩:=h.2
 .simp at h1
 .simp only[Value.slice.injEq,aK,Addr.mk.injEq,and_true,true_and]at hv;obtain⟨rfl,rfl⟩:=hv;have a1:=block_setCell hh (i:=k*3) d0;have a2:=block_setCell a1 (i:=k*3+1) Y;have a3:=block_setCell a2 (i:=k*3+2) J;refine cF ⟨g,cap,_,rfl,hb,a3,E,R,by simp[I],?_⟩;have ac:(k+1)*3<=z.toList.length:=by rw[Array.length_toList,I];exact fK 3 E
  have ae:z.toList.take (k*3)=xs:=by
   have:=Z1 (List.take (k*3)) ht;rw[List.take_take,fZ aA]at this;rw[this,<-hx];simp
  apply List.ext_getElem?;intro i;simp only[Array.toList_setIfInBounds,gU];by_cases h3:i<(k+1)*3
  .grind
  .grind
def Qd(h:w.ownsRow base e size v k xs)(hk:0<k):∃g cap,v=aM (M ⟨g,0,Z⟩) k cap:=by
 obtain⟨_,E⟩|⟨g,cap,z,rfl,_⟩:=h.2
 .omega
 .exact⟨g,cap,rfl⟩
def CV(h:w.ownsRow base e size v k xs):∃a cap,v=.slice a k cap:=by
 obtain⟨rfl,E⟩|⟨g,cap,z,rfl,_⟩:=h.2
 .grind
 .exact⟨_,cap,rfl⟩
def OW(h:w.ownsRow base e size v k xs)(g:Nat)(o:oA)(z:v.ownBlock=M g)(E:w.heap[g]? =M o):o.isCells=bB:=by
 obtain⟨rfl,R⟩|⟨g',cap,I,rfl,_,J,_⟩:=h.2
 .simp[eE]at z
 .simp[eE]at z;subst z;rw[J]at E;cases E;rfl
def yH(b n:Nat):(⟨b,0,Z⟩:fR).add n=⟨b,n,Z⟩:=by
 unfold Addr.add;split
 .simp
 .simp
def wY{l j:Nat}(h:w.ownsRow base e size (aM (M ⟨g,0,Z⟩) l cap) k xs):w.frozen? ⟨g,j,Z⟩=aR:=by
 obtain⟨R,_⟩|⟨g',E,I,z,Y,J,_⟩:=h.2
 .simp at R
 .simp only[Value.slice.injEq,aK,Addr.mk.injEq,and_true]at z;obtain⟨rfl,_⟩:=z;exact aQ J j
end
end
section
open Go.RowKit Go.Joins Go.Shelf
attribute [local go_sem] Oper.semAt_some
variable {g B:Nat}{v:aD}
def BZ(s:ByteArray)(z:Int)(w:X):eL PQ 123 #[bE s,N aE z] w λe w'=>e=bX (.func (.func 140) #[] #[aG (M ⟨w.heap.size,0,Z⟩),aG (M ⟨w.heap.size+1,0,Z⟩)])/\w'=(w.alloc (aL #[bE s] 9)).alloc (aL #[N aE z] 3):=by
 go_enter (fq Tryz.func123 rfl),Tryz.ntmps123;go_wp2_with fail;go_ret;exact⟨rfl,rfl⟩
def WG(n lo:Nat)(w':X)(e:pv):Option (List Im.It)->Prop
 |none=>e=bX (cP #[aM Z 0 0,cM aR])
 |some ks=>∃a cap,e=bX (cP #[.slice a ks.length cap,cM bB])/\Row w' n lo w'.heap.size (.slice a ks.length cap) ks
def WI(d E:Nat)(w:X)(z:List Wd)(W:X):Prop:=
 (∃v,Boxed W E 162 v/\Row W (d+1) (E+4) W.heap.size v (z.map Wd.i))/\Boxed W (E+1) 3 (N aE (rO z))/\cG E w W/\E+4<=W.heap.size
def WI.own(d E:Nat)(w:X):OwnFrom (E+4) (WI d E w):=by
 rintro I A B row ⟨⟨v,R,h2⟩,h3,h4,Y⟩ z J;refine⟨⟨v,R.kept z (λe=>?_),h2.turn z (λr e=>(J r e).2)⟩,h3.kept z (λe=>?_),h4.grown z aA (λk e=>by grind),by have:=z.size;omega⟩
 .grind
 .grind
def sN(w:X){a b:fR}(x y:aD)(h:a.block≠b.block):(w.setCell a x).setCell b y=(w.setCell b y).setCell a x:=by
 have e:∀(A:Array oA)(f g:oA->oA)(i j:Nat),i≠j->(A.modify i f).modify j g=(A.modify j g).modify i f:=by
  intro A f g i j z;apply gB;intro k;simp only[bT];by_cases E:i=k
  .grind
  .grind
 simp only[eO];rw[e _ _ _ _ _ h]
def Ei(w:X){i:Nat}(x y z u:aD)(h:B≠g):(((w.setCell ⟨B,0,Z⟩ u).setCell ⟨g,i,Z⟩ x).setCell ⟨g,i+1,Z⟩ y).setCell ⟨g,i+2,Z⟩ z=(((w.setCell ⟨g,i,Z⟩ x).setCell ⟨g,i+1,Z⟩ y).setCell ⟨g,i+2,Z⟩ z).setCell ⟨B,0,Z⟩ u:=by rw[sN w u x h,sN _ u y h,sN _ u z h]
def mD{W:X}{t:cH}(h:Boxed W B t v)(a:fR)(x:aD)(z:B≠a.block):Boxed (W.setCell a x) B t v:=(aW _ _ _ _ z).trans h
def Uo{w W0 W1 G X2 w' F:X}{d E J:Nat}{z:List Wd}{x:Wd}{xs:List aD}{L H:Nat->Nat}{c0 c1 c2 z0 z1 z2:aD}{X1:Nat}(h0:1<E)(ao:cG E w W0)(aq:E+4<=W0.heap.size)(b0:Boxed W0 E 162 v)(b1:Boxed W0 (E+1) 3 (N aE (rO z)))(q1:W0.ownsRow (E+4) 164 3 v z.length xs)(q3:∀j,j<(z.map Wd.i).length->E+4<=L j/\L j<=H j/\H j<=W0.heap.size/\(∀g,v.ownBlock=M g->g<L j\/H j<=g))(q4:∀a b,a<b->b<(z.map Wd.i).length->H a<=L b)(q5:∀(j:Nat)(hj:j<(z.map Wd.i).length),∃d0 d1 d2,xs[j*3]? =M d0/\xs[j*3+1]? =M d1/\xs[j*3+2]? =M d2/\Tr W0 (d+1) (L j) (H j) d0 d1 d2 ((z.map Wd.i)[j]))(hb:cG W0.heap.size W0 W1)(ht:Tr W1 (d+1) W0.heap.size W1.heap.size c0 c1 c2 x.i)(gb:cG W1.heap.size W1 G)(ub:cG G.heap.size G X2)(aa:w'.ownsRow (E+4) 164 3 (aM (M ⟨g,0,Z⟩) (z.length+1) J) (z.length+1) (xs++[z0,z1,z2]))(I:X2.grownBy w' v.ownBlock)(aj:eE (aM (M ⟨g,0,Z⟩) (z.length+1) J)=v.ownBlock\/∃g',eE (aM (M ⟨g,0,Z⟩) (z.length+1) J)=M g'/\X2.heap.size<=g')(hF:F=((((w'.setCell ⟨g,z.length*3,Z⟩ c0).setCell ⟨g,z.length*3+1,Z⟩ c1).setCell ⟨g,z.length*3+2,Z⟩ c2).setCell ⟨E,0,Z⟩ (aM (M ⟨g,0,Z⟩) (z.length+1) J)).setCell ⟨E+1,0,Z⟩ (N aE x.e)):KeepsFrom X1 G F/\(∀k,k=1\/k=E+1+1\/k=E+1+1+1->F.heap[k]? =G.heap[k]?)/\WI d E w (z++[x]) F:=by
 have s1:=hb.size;have s2:=gb.size;have s3:=ub.size;have s4:=I.size;have am:=xs_len q1;have ak:=hb.trans (gb.mono s1);have ac:=ak.trans (ub.mono aA);have qU:=own_below q1 ac;have an:∀m,v.ownBlock=M m->E+4<=m:=λm hm=>(qZ q1 hm).1;have hg:=qZ aa (g:=g) rfl;obtain⟨W4,R⟩:∃W4:X,W4=((w'.setCell ⟨g,z.length*3,Z⟩ c0).setCell ⟨g,z.length*3+1,Z⟩ c1).setCell ⟨g,z.length*3+2,Z⟩ c2:=⟨_,rfl⟩
 have ag:W4.ownsRow (E+4) 164 3 (aM (M ⟨g,0,Z⟩) (z.length+1) J) (z.length+1) (xs++[c0,c1,c2]):=by rw[R];exact XI aa am _ _ _
 have s5:W4.heap.size=w'.heap.size:=by rw[R];simp[eO]
 have Y:∀k,k≠g->W4.heap[k]? =w'.heap[k]?:=λk hk=>by
  rw[R,aW _ _ _ _ hk,aW _ _ _ _ hk,aW _ _ _ _ hk]
 have ap:X2.grownBy W4 v.ownBlock:=⟨by rw[R];exact I.os,by rw[R];exact I.tape,by rw[R];exact I.output,aA,λk hk af=>by
  rw[Y k ?_]
  .exact I.block k hk af
  .rintro rfl;obtain e|⟨g',e,ar⟩:=aj
   .exact af e
   .simp[eE]at e;omega⟩
 have ah:(z.map Wd.i).length=z.length:=aC
 have ai:=
  Row.step (w:=W0) (w1:=W1) (w3:=X2) (v:=v) (xs:=xs) (L:=L) (H:=H) aA (by rw[ah];exact q1) q3 q4 q5 ht hb (gb.trans (ub.mono s2)) (by rw[ah];exact ag) ap aj
 rw[<-R]at hF
 have ae:∀k,k≠E->k≠E+1->F.heap[k]? =W4.heap[k]?:=λk h1 h2=>by
  rw[hF,aW _ _ _ _ h2,aW _ _ _ _ h1]
 have s6:F.heap.size=W4.heap.size:=by rw[hF];simp[eO]
 have e0:Boxed w' E 162 v:=(I.block _ aA (λe=>by grind)).trans ((ac.block _ aA).trans b0);have e1:Boxed w' (E+1) 3 (N aE (rO z)):=(I.block _ aA (λe=>by grind)).trans ((ac.block _ aA).trans b1);have f0:Boxed W4 E 162 v:=(Y _ aA).trans e0;have f1:Boxed W4 (E+1) 3 (N aE (rO z)):=(Y _ aA).trans e1;refine⟨KeepsOthers.from ?_ _,?_,⟨(aM (M ⟨g,0,Z⟩) (z.length+1) J),?_,?_⟩,?_,?_,aA⟩
 .have k1:KeepsOthers G X2:=⟨ub.size,λk o hk _=>(ub.block k (jE hk)).trans hk⟩
  have k2:=KeepsOthers.of_grownBy I (λj o ej hj=>OW qU j o ej hj);rw[hF,R];exact(k1.trans k2).trans (((((KeepsOthers.setCell _ _ _).trans (KeepsOthers.setCell _ _ _)).trans (KeepsOthers.setCell _ _ _)).trans (KeepsOthers.setCell _ _ _)).trans (KeepsOthers.setCell _ _ _))
 .intro k hk;have au:k<E+4:=by omega
  rw[ae k aA aA,Y k aA,I.block k aA (λe=>by grind),ub.block k aA]
 .rw[hF];exact mD (f0.set _) _ _ aC
 .rw[bJ];exact(ai.kept (w':=F) (λk k1 k2=>ae k aA aA)).wider jB aA
 .rw[hF,nY];exact(mD f1 _ _ aC).set _
 .have b5:=(ao.trans (ac.mono aA)).grown I aA (λm hm=>by have:=an m hm;omega);rw[hF,R];exact((((b5.setCell (by show E<=g;omega) _).setCell (by show E<=g;omega) _).setCell (by show E<=g;omega) _).setCell jB _).setCell aC _
end
section
open Go.RowKit Go.Joins Go.Shelf
attribute [local go_sem] Oper.semAt_some
def SE(d:Nat)(hf:FirstSaid d)(s:ByteArray)(J f:Nat)(w:X)(hs:s.size<=16777216)(a7:J+d=9)(a6:s.size<=f)(hH:lJ w):eL PQ 152 #[bE s,N aE J] w λe w'=>WG (d+1) w.heap.size w' e (Im.many (Im.read Im.body d) f s.data.toList)/\cG w.heap.size w w':=by
 have h0:=hH.pos;generalize hR:Im.many (Im.read Im.body d) f s.data.toList=R;have HR:cJ _:=hR;clear hR;refine iN.1 (callsIn_of_wp_marks (n:=3) (fq Tryz.func152 rfl) rfl trivial ?_ rfl);simp only[Tryz.ntmps152,dR,aU,bY,Nat.reduceAdd,Nat.reduceSub,dH,dG,dU,dI,dS,dN];gi_wp2;refine⟨trivial,?_⟩;refine(iN.2 (BZ s J _)).mono ?_;rintro e w' ⟨rfl,rfl⟩;gi_wp2;obtain⟨V,hV⟩:∃V:X,V=((((w.alloc (aL #[aM Z 0 0] 162)).alloc (aL #[N aE 0] 3)).alloc (aL #[bE s] 9)).alloc (aL #[N aE J] 3)):=⟨_,rfl⟩
 rw[<-hV];have a8:V.heap.size=w.heap.size+4:=by rw[hV];simp
 have a2:cG w.heap.size w V:=by rw[hV];exact((((aJ _ w).alloc jB _).alloc aC _).alloc aF _).alloc aF _
 have v0:Boxed V w.heap.size 162 (aM Z 0 0):=by rw[hV];exact(((Boxed.new w _ _).alloc _).alloc _).alloc _
 have v1:Boxed V (w.heap.size+1) 3 (N aE 0):=by
  rw[hV];have:=Boxed.new (w.alloc (aL #[aM Z 0 0] 162)) 3 (N aE 0);rw[fB]at this;exact(this.alloc _).alloc _
 have v2:V.cell? ⟨w.heap.size+1+1,0,Z⟩=M (bE s):=by
  rw[hV];have:=Boxed.new ((w.alloc (aL #[aM Z 0 0] 162)).alloc (aL #[N aE 0] 3)) 9 (bE s);rw[fB,fB]at this;exact(this.alloc _).cell
 have v3:V.cell? ⟨w.heap.size+1+1+1,0,Z⟩=M (N aE J):=by
  rw[hV];have:=Boxed.new (((w.alloc (aL #[aM Z 0 0] 162)).alloc (aL #[N aE 0] 3)).alloc (aL #[bE s] 9)) 3 (N aE J);rw[fB,fB,fB]at this;exact this.cell
 clear hV
 refine zO (gf:=140) (lb:=#[aG (M ⟨w.heap.size+1+1,0,Z⟩),aG (M ⟨w.heap.size+1+1+1,0,Z⟩)]) rfl (enters_of (fq Tryz.func140 rfl) XN rfl)
  (Ed d hf s J (w.heap.size+1+1) (w.heap.size+1+1+1) V hs a7 (hH.below a2 h0) aA v2 v3 aA aA) (aJ _ _) (by intro k hk;omega) (XY.turn (d+1)) (λ_=>rfl)
  (WI d w.heap.size w) (λ_ _ _=>False) (by rw[a8];exact WI.own d _ w) (λ_ _ _ _ _ hs _ _=>hs)
  ⟨⟨_,v0,Row.none _ _ _ _⟩,v1,a2,aA⟩
  (λx B=>{ tmps:=#[bE s,N aE J,aH,aH,aM Z 0 0,cM aR,aG (M ⟨w.heap.size,0,Z⟩),aG (M ⟨w.heap.size+1,0,Z⟩),N aE x.e,aG (M ⟨B,0,Z⟩),bE s,N aE J,.func (.func 140) #[] #[aG (M ⟨w.heap.size+1+1,0,Z⟩),aG (M ⟨w.heap.size+1+1+1,0,Z⟩)],N aE x.e,gR #[.bool x.i.list,bE ⟨x.i.bytes.toArray⟩,.slice x.a x.i.kids.length x.cap],aH,aH,aH,aH,aH,aH,aH,aH,aH,aH,aH,aH],defers:=[] })
  (λx=>aL #[.bool x.i.list,bE ⟨x.i.bytes.toArray⟩,.slice x.a x.i.kids.length x.cap] 164) ?assign ?body ?done ?stop
 case assign=>
  intro l x W K I;simp only[Wd.encs];gi_wp2;exact I
 case body=>
  rintro l z x W0 W1 ba ⟨⟨v,b0,a1⟩,b1,ak,av⟩ hb ⟨bm,ht⟩;obtain⟨xs,L,H,q1,q2,q3,q4,q5⟩:=a1;have s1:=hb.size;have bn:PQ.follows .mixedOrders=bB:=XN
  obtain⟨va,Y,rfl⟩:=CV q1;rw[bC]at *;obtain⟨IB,a5⟩:∃IB:ByteArray,(⟨x.i.bytes.toArray⟩:ByteArray)=IB:=⟨_,rfl⟩
  rw[a5]at ht⊢;obtain⟨G,hG,gb,-⟩:=jD W1 #[.bool x.i.list,bE IB,.slice x.a x.i.kids.length x.cap] 164;rw[<-hG];have gs:G.heap.size=W1.heap.size+1:=by rw[hG];simp
  have ag:=hb.trans (gb.mono s1);obtain⟨k0,k1,k2⟩:K3 G W1.heap.size 0 (.bool x.i.list) (bE IB) (.slice x.a x.i.kids.length x.cap):=by rw[hG];exact K3.Ia _ _ _ _ _
  rw[fJ]at k1 k2;clear hG;have c0:Boxed G w.heap.size 162 (.slice va z.length Y):=(ag.block _ b0.lt).trans b0;have c1:Boxed G (w.heap.size+1) 3 (N aE (rO z)):=(ag.block _ b1.lt).trans b1
  have a9:∃i0,PQ.info? 164=M i0/\i0.zero=M (gR #[cM aR,bE ⟨#[]⟩,aM Z 0 0])/\i0.size=3/\i0.bytes=48:=by
   obtain⟨i0,hi,aj,aq,am⟩:=info_parts Uw;exact⟨i0,hi,aj,aq,am⟩
  obtain⟨i0,hi,aj,aq,am⟩:=a9;obtain⟨X2,hU⟩:∃X2:X,X2=(G.alloc (aL #[cM aR,bE ⟨#[]⟩,aM Z 0 0] 164)).drew:=⟨_,rfl⟩
  have ub:cG G.heap.size G X2:=by rw[hU];exact((aJ _ G).alloc jB _).drew
  have us:X2.heap.size=G.heap.size+1:=by rw[hU];simp
  have u3:K3 X2 G.heap.size 0 (cM aR) (bE ⟨#[]⟩) (aM Z 0 0):=by rw[hU];obtain⟨t0,t1,t2⟩:=K3.Ia G (cM aR) (bE ⟨#[]⟩) (aM Z 0 0) 164;exact⟨t0,t1,t2⟩
  have qU:=own_below (own_below q1 ag) ub
  obtain⟨v',w',aa,E,ac,ap⟩:=JH (P:=PQ) X2 _ 162 162 164 i0 _ 3 48 (uq Tryz.underlying162) hi aj aq am rfl aB _ _ xs qU ⟨G.heap.size,0,Z⟩ 1 1 [cM aR,bE ⟨#[]⟩,aM Z 0 0] aB rfl (by
   intro j u hj
   match j,hj with
   |0,hj=>simp at hj;subst hj;exact u3.1
   |1,hj=>simp at hj;subst hj;exact u3.2.1
   |2,hj=>simp at hj;subst hj;exact u3.2.2) (by intro u hu;simp at hu;rcases hu with rfl|rfl|rfl<;>rfl) (by unfold maxLen;omega) aA aA
  obtain⟨g,ay,rfl⟩:=Qd E aA;rw[hU,gs]at aa;have m0:=c0.cell;have bd:=(c0.alloc (aL #[cM aR,bE ⟨#[]⟩,aM Z 0 0] 164)).cell;have bq:=qZ E (g:=g) rfl;have ar:=E.cells (g:=g) rfl;have ai:=xs_len qU;have y0:w'.cell? ⟨g,z.length*3,Z⟩=M (cM aR):=by have:=ar (z.length*3) (cM aR) (by rw[bV aA,ai];simp);simpa[yH]using this
  have y1:w'.cell? ⟨g,z.length*3+1,Z⟩=M (bE ⟨#[]⟩):=by have:=ar (z.length*3+1) (bE ⟨#[]⟩) (by rw[bV aA,ai,show z.length*3+1-z.length*3=1 from by omega];rfl);simpa[yH]using this
  have y2:w'.cell? ⟨g,z.length*3+2,Z⟩=M (aM Z 0 0):=by have:=ar (z.length*3+2) (aM Z 0 0) (by rw[bV aA,ai,show z.length*3+2-z.length*3=2 from by omega];rfl);simpa[yH]using this
  have az:∀m,eE (.slice va z.length Y)=M m->w.heap.size+4<=m:=λm hm=>(qZ q1 hm).1;have e0:Boxed w' w.heap.size 162 (.slice va z.length Y):=(ac.block _ aA (λe=>by have:=az _ e.symm;omega)).trans ((ub.block _ aA).trans c0);have e1:Boxed w' (w.heap.size+1) 3 (N aE (rO z)):=(ac.block _ aA (λe=>by have:=az _ e.symm;omega)).trans ((ub.block _ aA).trans c1);have n0:=e0.cell;have n1:=e0.frozen;have n2:=e1.cell;have n3:=e1.frozen;have n4:w'.frozen? ⟨g,z.length*3,Z⟩=aR:=wY E;have n5:w'.frozen? ⟨g,z.length*3+1,Z⟩=aR:=wY E;have n6:w'.frozen? ⟨g,z.length*3+2,Z⟩=aR:=wY E;have br:(0:Int)<=(z.length:Int):=aA
  have bp:(z.length:Int)<((z.length+1:Nat):Int):=aA
  have bo:(z.length:Int)<z.length+1:=aA
  have ah:g≠w.heap.size:=aA
  have bl:g≠w.heap.size+1:=aA
  have f0:=c0.frozen;have Hx:cJ _:=jy q1 (jy q2 (jy q3 (jy q4 q5)));have a4:cJ _:=E;have bg:cJ _:=ac;have bj:cJ _:=ap;have bk:cJ _:=ub;have bb:cJ _:=ht
  have fin:∀(a:Act)(F:X),F=((((w'.setCell ⟨g,z.length*3,Z⟩ (.bool x.i.list)).setCell ⟨g,z.length*3+1,Z⟩ (bE IB)).setCell ⟨g,z.length*3+2,Z⟩ (.slice x.a x.i.kids.length x.cap)).setCell ⟨w.heap.size,0,Z⟩ (aM (M ⟨g,0,Z⟩) (z.length+1) ay)).setCell ⟨w.heap.size+1,0,Z⟩ (N aE x.e)->
    abQ V.heap.size (λk=>k=1\/k=w.heap.size+1+1\/k=w.heap.size+1+1+1) (WI d w.heap.size w) (λ_ _ _=>False) (z++[x]) G .normal a F:=λa F hF=>
   Uo h0 ak av b0 b1 q1 (by rw[bC];exact q3) (by rw[bC];exact q4) q5 hb ht gb ub E ac ap hF
  have Fin:cJ _:=fin;clear fin;clear q1 q2 q3 q4 q5 E ac ap ub ht u3 qU hU;gi_wp2;refine wpIn_region_any XN ?_;change wpAnyIn _ _ _ _ _ _ _ _ _ (World.drew _);refine(λ(key:(?T:Prop))=>?main) ?k
  case main=>
   repeat' first
    |exact iX
    |refine gO rfl (λK I=>?_) ?_
    |refine eT (rs:=[0,1,3]) (by decide+kernel) aC ?_
    |refine eT (rs:=[1,2,3]) (by decide+kernel) aC ?_
    |refine eT (rs:=[2,3]) (by decide+kernel) aC ?_
    |refine eT (rs:=[3]) (by decide+kernel) aC ?_
    |refine eT (rs:=[2]) (by decide+kernel) aC ?_
    |refine eT (rs:=[1,3]) (by decide+kernel) aC ?_
    |refine eT (rs:=[1]) (by decide+kernel) aC ?_
    |refine eT (rs:=[1,2]) (by decide+kernel) aC ?_
    |refine eT (rs:=[0,3]) (by decide+kernel) aC ?_
    |refine eT (rs:=[0]) (by decide+kernel) aC ?_
    |refine eT (rs:=[0,1]) (by decide+kernel) aC ?_
    |(go_simp;refine I _ _ ?_;clear I K)
    |exact key
  case k=>
   refine eT (rs:=[4]) XN aC ?_;refine gO rfl (λK I=>?_) iX;refine Fg _ (by rfl) (by rfl) (by rfl) (by rfl) aa ?_;refine I _ _ ?_;clear I K aa;refine eT (rs:=[5,7]) XN aC ?_;refine gO rfl (λK I=>?_) ?_
   .go_simp;refine I _ _ ?_;clear I K;refine eT (rs:=[6,7]) XN aC ?_;refine gO rfl (λK I=>?_) ?_
    .go_simp;refine I _ _ ?_;clear I K;refine eT (rs:=[7]) XN aC ?_;refine gO rfl (λK I=>?_) iX
     .go_simp;refine I _ _ ?_;clear I K;refine wpAnyIn_done XN ?_ _;gi_wp2;exact Fin.out _ _ (by first|rfl|rw[Ei _ _ _ _ _ (lR ah)])
    refine gO rfl (λK I=>?_) iX
    .go_simp;refine I _ _ ?_;clear I K;refine eT (rs:=[6]) XN aC ?_;refine gO rfl (λK I=>?_) iX
     .go_simp;refine I _ _ ?_;clear I K;refine wpAnyIn_done XN ?_ _;gi_wp2;exact Fin.out _ _ (by first|rfl|rw[Ei _ _ _ _ _ (lR ah)])
   refine gO rfl (λK I=>?_) iX
   .go_simp;refine I _ _ ?_;clear I K;refine eT (rs:=[5]) XN aC ?_;refine gO rfl (λK I=>?_) iX
    .go_simp;refine I _ _ ?_;clear I K;refine eT (rs:=[6]) XN aC ?_;refine gO rfl (λK I=>?_) iX
     .go_simp;refine I _ _ ?_;clear I K;refine wpAnyIn_done XN ?_ _;gi_wp2;exact Fin.out _ _ (by first|rfl|rw[Ei _ _ _ _ _ (lR ah)])
 case done=>
  rintro D xs W0 W hD bh ⟨p,he,hl,ao⟩ ⟨⟨v,b0,row⟩,b1,ak,av⟩ hb I;have s1:=hb.size;have c0:Boxed W w.heap.size 162 v:=(hb.block _ b0.lt).trans b0;have c1:Boxed W (w.heap.size+1) 3 (N aE (rO xs)):=(hb.block _ b1.lt).trans b1;rw[hl]at c1;have af:=(row.kept (λk _ k2=>hb.block k k2)).wider jB s1;have a3:=grownBy_putObj' W D (eA Z);have ae:=af.turn a3 (λr e=>by cases e;exact⟨_,I,rfl⟩);have aw:=(ak.trans (hb.mono aA)).grown a3 aA (λk e=>by cases e;omega)
  obtain⟨va,Y,rfl⟩:∃va Y,v=.slice va xs.length Y:=by
   obtain⟨_,_,_,q1,_⟩:=row;have:=CV q1;simpa using this
  have m0:=c0.cell;have m1:=c1.cell;have au:=Im.rZ Im.oZ d;have a0:s.data.toList.length<=f:=by rw[<-bD];exact a6
  have an:cJ _:=ae;clear af ae row;by_cases hp:p<s.size
  .have hp':(p:Int)<s.size:=by omega
   obtain rfl:R=Z:=by
    obtain h|⟨_,h⟩:=ao
    .omega
    .exact HR.out.symm.trans (he.stuck au f a0 (by rw[<-bD];exact hp) h)
   gi_wp2;refine⟨aC,bN ⟨_,_,rfl,run_takeDeferred I,?_⟩⟩;exact⟨_,by simp[results,Tryz.results152,go_sem],rfl,aw⟩
  .have hp':¬(p:Int)<s.size:=by omega
   obtain rfl:R=M (xs.map Wd.i):=HR.out.symm.trans (he.all au f a0 (by rw[<-bD];omega));gi_wp2;refine⟨aC,bN ⟨_,_,rfl,run_takeDeferred I,?_⟩⟩;refine⟨cP #[.slice va xs.length Y,cM bB],by simp[results,Tryz.results152,go_sem],⟨va,Y,aC,?_⟩,aw⟩;have:=Row.wider an.out (lo':=w.heap.size) aA jB;rw[bC];exact this
 case stop=>
  rintro D c z W0 W _ _ _ h _ _;exact h.elim
end
section
open Go.RowKit Go.Joins Go.Shelf
attribute [local go_sem] Oper.semAt_some
def first_any(d:Nat)(hd:d=0\/∃d',d=d'+1/\FirstSaid d'):FirstSaid d:=by
 intro s E w hs bb hH;have h0:=hH.pos;have hl:=bD s;generalize hC:Im.read Im.body d s.data.toList=C;have HC:cJ _:=hC;have Hd:cJ _:=hd;clear hC hd;obtain⟨Wd,hX,ar,ay⟩:=jD w #[cM aR,bE ⟨#[]⟩,aM Z 0 0] 164;have a2:Wd.heap.size=w.heap.size+1:=by rw[hX];simp
 go_enter (fq Tryz.func141 rfl),Tryz.ntmps141;go_wp2_with fail;rw[<-hX];refine(Fb s Wd hs (hH.below ar h0)).mono ?_;rintro e w1 ⟨rfl,am⟩;have bd:=am.size;have I:=ar.trans (am.mono aA);have hz:=(am.block _ aA).trans ay;have J:∀o:oA,(w1.alloc o).heap[w.heap.size]? =M (aL #[cM aR,bE ⟨#[]⟩,aM Z 0 0] 164 (0,0)):=λo=>(aZ _ _ _ aA).trans hz;have y0:∀o:oA,(w1.alloc o).cell? ⟨w.heap.size,0,Z⟩=M (cM aR):=λo=>by rw[aI (J o)];rfl
 have y1:∀o:oA,(w1.alloc o).cell? ⟨w.heap.size,1,Z⟩=M (bE ⟨#[]⟩):=λo=>by rw[aI (J o)];rfl
 have y2:∀o:oA,(w1.alloc o).cell? ⟨w.heap.size,2,Z⟩=M (aM Z 0 0):=λo=>by rw[aI (J o)];rfl
 have fy:=λo j=>aQ (J o) j;have ba:w.heap.size≠w1.heap.size:=aA
 have a1:=hH.below I h0;have HX:cJ _:=jy am (jy a2 (jy ar ay));clear hX am a2 ar ay;cases hR:Im.body s.data.toList with
 |none=>
  obtain rfl:C=Z:=HC.out.symm.trans (Im.uZ hR);simp only[vM];go_wp2_with fail;exact cN (v:=.tuple _) (by simp[results,mz,go_sem,y0,y1,y2]) rfl ⟨rfl,(((I.alloc I.size _).setCell aC _).setCell aC _).setCell aC _⟩
 |some R=>
  obtain⟨l,f,t⟩:=R;obtain⟨bj,a7,bg,bh⟩:=Im.oZ _ _ _ _ hR;rw[<-hl]at a7;clear hl;simp only[vM];have a9:(f:Int)<=t:=aA
  have a8:(t:Int)<=s.size:=aA
  cases l with
  |false=>
   obtain rfl:=HC.out.symm.trans (Im.Cc hR);clear hR;go_wp2_with fail;obtain⟨Y,hY,-,ag⟩:=jD w1 #[cM aR,N aE f,N aE t] 237;rw[<-hY];have a4:Y.heap.size=w1.heap.size+1:=by rw[hY];simp
   have ap:cG w.heap.size w Y:=by rw[hY];exact I.alloc I.size _
   have ae:Y.heap[w.heap.size]? =M (aL #[cM aR,bE ⟨#[]⟩,aM Z 0 0] 164 (0,0)):=by rw[hY];exact J _
   have aw:=(jE ae)
   obtain⟨-,-,c2⟩:=cells3 ag;clear hY;have HY:cJ _:=jy ae ag;have Hz:cJ _:=jy y0 (jy y1 (jy y2 (jy fy J)));clear ae ag y0 y1 y2 fy J hz;have an:(s.extract f t).size<=16777216:=aF
   have ai:(⟨((s.data.toList.take t).drop f).toArray⟩:ByteArray)=s.extract f t:=by
    rw[<-ext_list]
   obtain⟨TX,aj⟩:∃TX:ByteArray,s.extract f t=TX:=⟨_,rfl⟩
   rw[aj]at an ai;rw[aj]
   have z:∀X2:X,cG Y.heap.size Y X2->eL PQ 92 #[bE TX] X2 λe w3=>e=bX (bE TX)/\w3.cell? ⟨w1.heap.size,2,Z⟩=M (N aE t)/\w3.cell? ⟨w.heap.size,0,Z⟩=M (cM aR)/\w3.cell? ⟨w.heap.size,1,Z⟩=M (bE ⟨#[]⟩)/\w3.cell? ⟨w.heap.size,2,Z⟩=M (aM Z 0 0)/\(∀j,w3.frozen? ⟨w.heap.size,j,Z⟩=aR)/\cG w.heap.size w w3:=by
    intro X2 hU;refine(clone_any TX X2 an).mono ?_;rintro e w3 ⟨rfl,ah⟩;have av:=hU.trans (ah.mono hU.size);have aq:=(av.block _ aA).trans HY.out.2;have aa:=(av.block _ aw).trans HY.out.1;exact⟨rfl,by rw[aI aq];rfl,by rw[aI aa];rfl,by rw[aI aa];rfl,by rw[aI aa];rfl,aQ aa,ap.trans (av.mono ap.size)⟩
   have ac:cJ _:=z;clear z;go_region_with (go_at_call 92;refine(ac.out _ ?_).mono ?_;(first|exact aJ _ _|exact(aJ _ _).drew|exact below_drewN (aJ _ _) _);rintro e w3 ⟨rfl,x2,z0,z1,z2,fz,af⟩)
   all_goals
    go_wp2_with fail;refine cN (v:=cP #[gR #[cM aR,bE TX,aM Z 0 0],N aE t,cM bB]) (by simp[results,mz,go_sem,z0,z1,z2]) rfl ⟨⟨Z,0,by simp only[ai];rfl,?_⟩,?_⟩
    .exact Tr.Wp (i:=⟨aR,_,[]⟩) (Row.none _ _ _ _)
    .first
      |exact((af.setCell aC _).setCell aC _).setCell aC _
      |exact below_drewN (((af.setCell aC _).setCell aC _).setCell aC _) _
  |true=>
   have an:(s.extract f t).size<=16777216:=aF
   obtain⟨TX,aj⟩:∃TX:ByteArray,s.extract f t=TX:=⟨_,rfl⟩
   have ai:TX.data.toList=(s.data.toList.take t).drop f:=by rw[<-aj,ext_list]
   obtain rfl|⟨d',rfl,hf⟩:=Hd.out
   .obtain rfl:=HC.out.symm.trans (Im.AV hR);have a5:(8:Int)<(E:Int):=by omega
    clear hR ai;go_wp2_with fail;exact cN (v:=.tuple _) (by simp[results,mz,go_sem,y0,y1,y2]) rfl ⟨rfl,(((I.alloc I.size _).setCell aC _).setCell aC _).setCell aC _⟩
   .have ao:C=_:=HC.out.symm.trans (Im.Gg hR);rw[<-ai]at ao;have a5:¬(8:Int)<(E:Int):=by omega
    have z:∀X2:X,cG w1.heap.size w1 X2->eL PQ 152 #[bE TX,N aE ((E:Int)+1)] X2 λe w3=>WG (d'+1) X2.heap.size w3 e (Im.many (Im.read Im.body d') s.data.toList.length TX.data.toList)/\cG X2.heap.size X2 w3:=by
     intro X2 hU;have:=SE d' hf TX (E+1) s.data.toList.length X2 (by rw[<-aj];exact an) aA (by rw[<-aj,<-bD];simp;omega) (a1.below hU a1.pos);rw[show((E+1:Nat):Int)=(E:Int)+1 from by omega]at this;exact this
    generalize hM:Im.many (Im.read Im.body d') s.data.toList.length TX.data.toList=XS at z ao;have ac:cJ _:=z;have a3:cJ _:=ao;clear z hR hM HC ao ai;obtain⟨Y,hY,a6,ag⟩:=jD w1 #[cM bB,N aE f,N aE t] 237;have a4:Y.heap.size=w1.heap.size+1:=by rw[hY];simp
    have ap:cG w.heap.size w Y:=by rw[hY];exact I.alloc I.size _
    have ae:Y.heap[w.heap.size]? =M (aL #[cM aR,bE ⟨#[]⟩,aM Z 0 0] 164 (0,0)):=by rw[hY];exact J _
    have aw:=(jE ae)
    have HY:cJ _:=jy ae ag;clear ae ag;go_wp2_with fail;rw[<-hY];clear hY;refine(ac.out Y a6).mono ?_;rintro e w3 ⟨a0,ah⟩;have s3:=ah.size;have af:=ap.trans (ah.mono aA);have aq:=(ah.block _ aA).trans HY.out.2;have aa:=(ah.block _ aw).trans HY.out.1;obtain⟨-,-,x2⟩:=cells3 aq;obtain⟨z0,z1,z2⟩:=cells3 aa;have fz:=aQ aa;clear aq aa y0 y1 y2 fy J hz;cases XS with
    |none=>
     obtain rfl:C=Z:=a3.out;obtain rfl:=a0;go_wp2_with fail;exact cN (v:=.tuple _) (by simp[results,mz,go_sem,z0,z1,z2]) rfl ⟨rfl,((af.setCell aC _).setCell aC _).setCell aC _⟩
    |some ks=>
     obtain rfl:C=M (⟨bB,[],ks⟩,t):=a3.out;obtain⟨ka,ak,rfl,au⟩:=a0;have az:cJ _:=au;clear au;go_wp2_with fail;go_region
     all_goals
      go_wp2_with fail;refine cN (v:=cP #[gR #[cM bB,bE ⟨#[]⟩,.slice ka ks.length ak],.int _ t,cM bB]) (by simp[results,mz,go_sem,z0,z1,z2]) rfl ⟨⟨ka,ak,rfl,?_⟩,?_⟩
      .have r1:=Row.wider (lo':=w.heap.size+1) az.out aA jB;have r2:=Row.wider (lo':=w.heap.size) (Row.kept (w':=((w3.setCell ⟨w.heap.size,0,Z⟩ (cM bB)).setCell ⟨w.heap.size,1,Z⟩ (bE ⟨#[]⟩)).setCell ⟨w.heap.size,2,Z⟩ (.slice ka ks.length ak)) r1 (λk k1 _=>by rw[aW _ _ _ _ aF,aW _ _ _ _ aF,aW _ _ _ _ aF])) aA jB;exact Tr.Wp (i:=⟨bB,[],ks⟩) (Row.wider (Row.kept r2 (λ_ _ _=>rfl)) jB (by simp[eO]))
      .first
        |exact((af.setCell aC _).setCell aC _).setCell aC _
        |exact(((af.drew.setCell aC _).setCell aC _).setCell aC _)
        |exact below_drewN (((af.setCell aC _).setCell aC _).setCell aC _) _
end
section
open Go.RowKit Go.Joins Go.Shelf
attribute [local go_sem] Oper.semAt_some
variable {g:List UInt8->Option (Im.It×Nat)}{s:List UInt8}
def yA:∀d:Nat,FirstSaid d
 |0=>first_any 0 (bN rfl)
 |d+1=>first_any (d+1) (cF ⟨d,rfl,yA d⟩)
def Xc(s:ByteArray)(w:X):eL PQ 83 #[bE s] w λe w'=>e=bX (.func (.func 140) #[] #[aG (M ⟨w.heap.size,0,Z⟩),aG (M ⟨w.heap.size+1,0,Z⟩)])/\w'=(w.alloc (aL #[bE s] 9)).alloc (aL #[N aE 1] 3):=by
 go_enter (fq Tryz.func83 rfl),Tryz.ntmps83;go_wp2_with fail;refine(BZ s 1 _).mono ?_;rintro e w1 ⟨rfl,rfl⟩;go_wp2_with fail;go_ret;exact⟨rfl,rfl⟩
def Il(n lo:Nat)(w':X)(e:pv):Option Im.It->Prop
 |none=>e=bX (cP #[gR #[cM aR,bE ⟨#[]⟩,aM Z 0 0],N aE 4])
 |some i=>∃a cap,e=bX (cP #[gR #[.bool i.list,bE ⟨i.bytes.toArray⟩,.slice a i.kids.length cap],N aE 0])/\Tr w' n lo w'.heap.size (.bool i.list) (bE ⟨i.bytes.toArray⟩) (.slice a i.kids.length cap) i
def BU{w:X}{b:Nat}{I J E:aD}{t:cH}(h:w.heap[b]? =M (aL #[I,J,E] t (0,0)))(x y z:aD):(((w.setCell ⟨b,0,Z⟩ x).setCell ⟨b,1,Z⟩ y).setCell ⟨b,2,Z⟩ z).heap[b]? =M (aL #[x,y,z] t (0,0)):=by have:=block_setCell (block_setCell (block_setCell h (i:=0) x) (i:=1) y) (i:=2) z;simpa using this
def Im.nJ.zero{p:Nat}(h:Im.nJ g s [] p):p=0:=by
 generalize z:([]:List Im.It)=l at h;cases h with
 |nil=>rfl
 |snoc=>simp at z
def Im.nJ.one{i:Im.It}{p:Nat}(h:Im.nJ g s [i] p):g s=M (i,p):=by
 generalize z:[i]=l at h;cases h with
 |nil=>simp at z
 |@snoc l0 p0 i0 n0 h hp hg=>
  have e:=z.symm;rw[List.append_eq_singleton_iff]at e;obtain⟨rfl,e⟩|⟨_,e⟩:=e
  .simp at e;subst e;obtain rfl:=h.zero;simpa using hg
  .simp at e
def DI(s:ByteArray)(z:Nat)(w:X)(E:List Wd)(W:X):Prop:=
 E=[]/\Boxed W z 9 (bE s)/\W.heap[z+1]? =M (aL #[cM aR,bE ⟨#[]⟩,aM Z 0 0] 164 (0,0))/\Boxed W (z+2) 32 (N aE 0)/\cG z w W/\z+5<=W.heap.size
def DX(s:ByteArray)(z:Nat)(w:X)(c:Code)(E:List Wd)(W:X):Prop:=
 (c=.exit 0/\∃x,E=[x]/\x.e<s.size/\DI s z w [] W)\/
 (c=.ret/\∃x,E=[x]/\s.size<=x.e/\W.heap[z+1]? =M (aL #[.bool x.i.list,bE ⟨x.i.bytes.toArray⟩,.slice x.a x.i.kids.length x.cap] 164 (0,0))/\Boxed W (z+2) 32 (N aE 0)/\cG z w W/\z+5<=W.heap.size/\Tr W 9 (z+5) W.heap.size (.bool x.i.list) (bE ⟨x.i.bytes.toArray⟩) (.slice x.a x.i.kids.length x.cap) x.i)
def cells_kept{A B:X}{row:Option Nat}(I:A.grownBy B row){n:Nat}(E:∀r,row=M r->n<=r/\∃o:oA,A.heap[r]? =M o/\o.isCells=aR){k:Nat}{o:oA}(hk:A.heap[k]? =M o)(z:o.isCells=bB):B.heap[k]? =M o:=
 kH I (λr e=>(E r e).2) k o hk z
def DI.own(s:ByteArray)(I:Nat)(w:X):OwnFrom (I+5) (DI s I w):=by rintro J A B row ⟨rfl,R,h2,h3,h4,Y⟩ z E;exact⟨rfl,cells_kept z E R rfl,cells_kept z E h2 rfl,cells_kept z E h3 rfl,h4.grown z aA (λk e=>by grind),by have:=z.size;omega⟩
def DX.own(s:ByteArray)(I:Nat)(w:X)(c:Code):OwnFrom (I+5) (DX s I w c):=by
 rintro Y A B row (⟨hc,x,rfl,J,R⟩|⟨hc,x,rfl,J,h2,h3,h4,h5,h6⟩) z E
 .exact bN ⟨hc,x,rfl,J,DI.own s I w _ _ _ _ R z E⟩
 .exact cF ⟨hc,x,rfl,J,cells_kept z E h2 rfl,cells_kept z E h3 rfl,h4.grown z aA (λk e=>by grind),by have:=z.size;omega,h6.turn z (λr e=>(E r e).2)⟩
def decode_any(s:ByteArray)(w:X)(hs:s.size<=16777216)(hH:lJ w):eL PQ 124 #[bE s] w λe w'=>Il 9 w.heap.size w' e (Im.dec s.data.toList)/\cG w.heap.size w w':=by
 have h0:=hH.pos;generalize hR:Im.dec s.data.toList=R;have HR:cJ _:=hR;clear hR;refine iN.1 (callsIn_of_wp_marks (n:=3) (fq Tryz.func124 rfl) rfl trivial ?_ rfl);simp only[Tryz.ntmps124,dR,aU,bY,Nat.reduceAdd,Nat.reduceSub,dH,dG,dU,dI,dS,dN];gi_wp2;refine⟨trivial,?_⟩;refine(iN.2 (Xc s _)).mono ?_;rintro e w' ⟨rfl,rfl⟩;gi_wp2;obtain⟨V,hV⟩:∃V:X,V=(((((w.alloc (aL #[bE s] 9)).alloc (aL #[cM aR,bE ⟨#[]⟩,aM Z 0 0] 164)).alloc (aL #[N aE 0] 32)).alloc (aL #[bE s] 9)).alloc (aL #[N aE 1] 3)):=⟨_,rfl⟩
 rw[<-hV];have ai:V.heap.size=w.heap.size+5:=by rw[hV];simp
 have aj:cG w.heap.size w V:=by rw[hV];exact(((((aJ _ w).alloc jB _).alloc aC _).alloc aF _).alloc aF _).alloc aF _
 have z:∀(a b c d e:oA)(k:Nat),((((((w.alloc a).alloc b).alloc c).alloc d).alloc e).heap[k]?)=if k=w.heap.size+4 then M e else if k=w.heap.size+3 then M d else if k=w.heap.size+2 then M c else if k=w.heap.size+1 then M b else if k=w.heap.size then M a else w.heap[k]?:=by
  intro a b c d e k;simp only[World.alloc,iy,Array.size_push]
 have v0:Boxed V w.heap.size 9 (bE s):=by unfold Boxed;rw[hV,z];simp
 have v1:V.heap[w.heap.size+1]? =M (aL #[cM aR,bE ⟨#[]⟩,aM Z 0 0] 164 (0,0)):=by rw[hV,z];simp
 have v2:Boxed V (w.heap.size+2) 32 (N aE 0):=by unfold Boxed;rw[hV,z];simp
 have v3:V.cell? ⟨w.heap.size+1+1+1,0,Z⟩=M (bE s):=by
  have:Boxed V (w.heap.size+3) 9 (bE s):=by unfold Boxed;rw[hV,z];simp
  exact this.cell
 have v4:V.cell? ⟨w.heap.size+1+1+1+1,0,Z⟩=M (N aE (1:Nat)):=by
  have:Boxed V (w.heap.size+4) 3 (N aE 1):=by unfold Boxed;rw[hV,z];simp
  exact this.cell
 clear hV z
 refine zO (gf:=140) (lb:=#[aG (M ⟨w.heap.size+1+1+1,0,Z⟩),aG (M ⟨w.heap.size+1+1+1+1,0,Z⟩)]) rfl (enters_of (fq Tryz.func140 rfl) XN rfl)
  (Ed 8 (yA 8) s 1 (w.heap.size+1+1+1) (w.heap.size+1+1+1+1) V hs rfl (hH.below aj h0) aA v3 v4 aA aA) (aJ _ _) (by intro k hk;omega) (XY.turn 9) (λ_=>rfl)
  (DI s w.heap.size w) (DX s w.heap.size w) (by rw[ai];exact DI.own s _ w) (by rw[ai];exact DX.own s _ w)
  ⟨rfl,v0,v1,v2,aj,aA⟩
  (λx B=>{ tmps:=#[bE s,aG (M ⟨w.heap.size,0,Z⟩),aG (M ⟨w.heap.size+1,0,Z⟩),aG (M ⟨w.heap.size+1+1,0,Z⟩),N aE x.e,aG (M ⟨B,0,Z⟩),bE s,.func (.func 140) #[] #[aG (M ⟨w.heap.size+1+1+1,0,Z⟩),aG (M ⟨w.heap.size+1+1+1+1,0,Z⟩)],N aE x.e,gR #[.bool x.i.list,bE ⟨x.i.bytes.toArray⟩,.slice x.a x.i.kids.length x.cap],aH,aH,aH,aH,aH,aH],defers:=[] })
  (λx=>aL #[.bool x.i.list,bE ⟨x.i.bytes.toArray⟩,.slice x.a x.i.kids.length x.cap] 164) ?assign ?body ?done ?stop
 case assign=>
  intro l x W K hK;simp only[Wd.encs];gi_wp2;exact hK
 case body=>
  rintro l ap x W0 W1 aq ⟨rfl,b0,b1,b2,aa,ae⟩ Y ⟨au,ht⟩;have s1:=Y.size;obtain⟨IB,ah⟩:∃IB:ByteArray,(⟨x.i.bytes.toArray⟩:ByteArray)=IB:=⟨_,rfl⟩
  obtain⟨G,hG,gb,-⟩:=jD W1 #[.bool x.i.list,bE ⟨x.i.bytes.toArray⟩,.slice x.a x.i.kids.length x.cap] 164;rw[<-hG];have gs:G.heap.size=W1.heap.size+1:=by rw[hG];simp
  have ac:=Y.trans (gb.mono s1);obtain⟨k0,k1,k2⟩:K3 G W1.heap.size 0 (.bool x.i.list) (bE ⟨x.i.bytes.toArray⟩) (.slice x.a x.i.kids.length x.cap):=by rw[hG];exact K3.Ia _ _ _ _ _
  rw[fJ]at k1 k2;clear hG;have c0:Boxed G w.heap.size 9 (bE s):=(ac.block _ b0.lt).trans b0;have J:=(ac.block _ aA).trans b1;have I:Boxed G (w.heap.size+1+1) 32 (N aE 0):=(ac.block _ b2.lt).trans b2;have m0:=c0.cell;have m2:=I.cell;have n2:=I.frozen;obtain⟨z0,z1,z2⟩:=cells3 J;have fz:=aQ J;have bG:=aa.trans (ac.mono aA);have tG:Tr G 9 (w.heap.size+5) G.heap.size (.bool x.i.list) (bE ⟨x.i.bytes.toArray⟩) (.slice x.a x.i.kids.length x.cap) x.i:=(Tr.kept 9 _ _ _ _ _ _ (λk _ k2=>gb.block k k2) ht).wider aA aA;have HT:cJ _:=jy tG ht;have HG:cJ _:=jy c0 (jy J (jy I bG));clear tG ht c0 J I bG b0 b1 b2;rw[ah]at k1⊢;by_cases he:x.e<s.size
  .have an:(x.e:Int)<s.size:=by omega
   gi_wp2;obtain⟨c0,J,I,bG⟩:=HG.out;exact⟨KeepsFrom.refl _ _,bN ⟨rfl,x,rfl,he,rfl,c0,J,I,bG,aA⟩⟩
  .have an:¬(x.e:Int)<s.size:=by omega
   gi_wp2;obtain⟨c0,J,I,bG⟩:=HG.out;have tG:=HT.out.1;rw[<-ah];refine⟨KeepsOthers.from ((((KeepsOthers.setCell _ _ _).trans (KeepsOthers.setCell _ _ _)).trans (KeepsOthers.setCell _ _ _)).trans (KeepsOthers.setCell _ _ _)) _,cF ⟨rfl,x,rfl,aA,?_,?_,?_,by simp[eO];omega,?_⟩⟩
   .rw[aW _ _ _ _ aC];exact BU J _ _ _
   .exact Boxed.set _ (mD (mD (mD I _ _ aC) _ _ aC) _ _ aC)
   .exact(((bG.setCell aC _).setCell aC _).setCell aC _).setCell aF _
   .refine Tr.wider (Tr.kept 9 _ _ _ _ _ _ (λk k1 _=>?_) tG) jB (by simp[eO]);rw[aW _ _ _ _ aF,aW _ _ _ _ aF,aW _ _ _ _ aF,aW _ _ _ _ aF]
 case' done=>
  rintro D xs W0 W hD ao ⟨p,he,hl,af⟩ ⟨rfl,b0,b1,b2,aa,ae⟩ Y hK;obtain rfl:=Im.nJ.zero he
  obtain rfl:R=Z:=by
   refine HR.out.symm.trans ?_
   have:Im.read Im.body 8 s.data.toList=Z:=by
    obtain h|⟨_,h⟩:=af
    .have:s.data.toList=[]:=bP (by rw[<-bD];omega);rw[this];exact Im.uZ rfl
    .simpa using h
   unfold Im.dec;rw[this]
 case' stop=>
  rintro D c ap W0 W hD ao ⟨p,he,hl⟩ (⟨rfl,x,rfl,hx,_,b0,b1,b2,aa,ae⟩|⟨rfl,x,rfl,hx,b1,b2,aa,ae,ht⟩) Y hK;rotate_left
  .have hr:=Im.nJ.one he;have ag:=hl.symm.trans (nY [] x);subst ag
   obtain rfl:R=M x.i:=by
    refine HR.out.symm.trans ?_;unfold Im.dec;rw[hr];simp only;have:=(Im.rZ Im.oZ 8 _ _ _ hr).2;rw[ZD (by rw[<-bD]at this⊢;omega)]
   have s1:=Y.size;gi_wp2;have E:D≠w.heap.size+1/\D≠w.heap.size+1+1:=aA
   have J:=(Y.block _ aA).trans b1;have I:Boxed W (w.heap.size+1+1) 32 (N aE 0):=(Y.block _ b2.lt).trans b2;have bW:=aa.trans (Y.mono aA);have g1:(W.putObj D (eA Z)).heap[w.heap.size+1]? =_:=(World.putObj_heap_other (lR E.1)).trans J;have g2:(W.putObj D (eA Z)).heap[w.heap.size+1+1]? =_:=(World.putObj_heap_other (lR E.2)).trans I;have ak:=grownBy_putObj' W D (eA Z);have tW:=(Tr.kept 9 _ _ _ _ _ _ (λk _ k2=>Y.block k k2) ht).wider jB s1;have tF:=Tr.wider (lo':=w.heap.size) (Tr.turn tW ak (λr e=>by cases e;exact⟨_,hK,rfl⟩)) aA jB;have Ht:cJ _:=tF;clear tF tW ht;refine⟨aC,bN ⟨_,_,rfl,run_takeDeferred hK,?_⟩⟩;exact⟨_,by simp[results,Tryz.results124,go_sem,aI g1,aI g2],⟨_,_,rfl,Ht.out⟩,bW.grown ak aA (λk e=>by cases e;omega)⟩
  have hr:=Im.nJ.one he;have ag:=hl.symm.trans (nY [] x);subst ag
  obtain rfl:R=Z:=by
   refine HR.out.symm.trans ?_;unfold Im.dec;rw[hr];simp only;rw[Zs (by rw[<-bD];omega)]
 all_goals
  have s1:=Y.size;have J:=(Y.block _ aA).trans b1;have I:Boxed W (w.heap.size+1+1) 32 (N aE 0):=(Y.block _ b2.lt).trans b2;have m2:=I.cell;have n2:=I.frozen;obtain⟨z0,z1,z2⟩:=cells3 J;have fz:=aQ J;have bW:=aa.trans (Y.mono aA);gi_wp2;have E:D≠w.heap.size+1/\D≠w.heap.size+1+1:=aA
  obtain⟨F,hF⟩:∃F:X,F=(((W.setCell ⟨w.heap.size+1,0,Z⟩ (cM aR)).setCell ⟨w.heap.size+1,1,Z⟩ (bE ⟨#[]⟩)).setCell ⟨w.heap.size+1,2,Z⟩ (aM Z 0 0)).setCell ⟨w.heap.size+1+1,0,Z⟩ (N aE 4):=⟨_,rfl⟩
  rw[<-hF];have am:F.heap[D]? =M (eA (M [])):=by rw[hF,aW _ _ _ _ E.2,aW _ _ _ _ E.1,aW _ _ _ _ E.1,aW _ _ _ _ E.1];exact hK
  have f1:F.heap[w.heap.size+1]? =M (aL #[cM aR,bE ⟨#[]⟩,aM Z 0 0] 164 (0,0)):=by rw[hF,aW _ _ _ _ aC];exact BU J _ _ _
  have f2:Boxed F (w.heap.size+1+1) 32 (N aE 4):=by rw[hF];exact Boxed.set _ (mD (mD (mD I _ _ aC) _ _ aC) _ _ aC)
  have bF:cG w.heap.size w F:=by rw[hF];exact(((bW.setCell aC _).setCell aC _).setCell aC _).setCell aF _
  have ar:=bF.size;have av:=(jE am)
  clear hF;have g1:(F.putObj D (eA Z)).heap[w.heap.size+1]? =_:=(World.putObj_heap_other (lR E.1)).trans f1;have g2:(F.putObj D (eA Z)).heap[w.heap.size+1+1]? =_:=(World.putObj_heap_other (lR E.2)).trans f2;refine⟨aC,bN ⟨_,_,rfl,run_takeDeferred am,?_⟩⟩;exact⟨_,by simp[results,Tryz.results124,go_sem,aI g1,aI g2],rfl,bF.grown (grownBy_putObj' F D _) aA (λk e=>by cases e;omega)⟩
end
