import Derived.Test.YtpibpdpedjinhaaGreatDoorP25
set_option maxRecDepth 100000
set_option maxHeartbeats 4000000
set_option linter.all false
open Bool renaming false->aL,true->bB
open Go renaming Boxed->jb,Calls->eE,Value->aD,World->U,bodyPost_ret->cM,callsIn_of_wp_marks->rA,callsIn_wide->km,info_parts->rS,run_takeDeferred->oe,undef->aE,wpAnyIn_ready->eZ
open Go.AllReadyIn renaming cons->ij,nil->jz
open Go.Ending renaming returned->bX
open Go.IntKind renaming i64->X
open Go.KeepsOthers renaming setCell->gO
open Go.Obj renaming cells->aG,deferred->eM
open Go.Proofs.Tryz renaming results206->nq
open Go.Value renaming agg->gP,bool->cF,int->N,ownBlock->eA,pointer->aM,slice->aR,string->aH,tuple->dC
open Go.World renaming putObj_heap_other->cE,setCell->eW
open Ne renaming symm->po
open Option renaming none->Z,some->M
namespace Go.Proofs.YtpibpdpedjinhaaGreatDoor
section
open Go.RowKit Go.Joins Go.Shelf
attribute [local go_sem] Oper.semAt_some
def TF(d:Nat)(hf:FirstSaid d)(s:ByteArray)(J f:Nat)(w:U)(hs:s.size<=16777216)(a6:J+d=9)(a5:s.size<=f)(hH:kG w):eE PQ 220 #[aH s,N X J] w λe w'=>WZ (d+1) w.heap.size w' e (Im.many (Im.read Im.body d) f s.data.toList)/\Below w.heap.size w w':=by
 have h0:=hH.pos;generalize hR:Im.many (Im.read Im.body d) f s.data.toList=R;have HR:Hid _:=hR;clear hR;refine km.1 (rA (n:=3) (fq Tryz.func220 rfl) rfl trivial ?_ rfl);simp only[Tryz.ntmps220,dR,aU,bY,Nat.reduceAdd,Nat.reduceSub,dH,dG,dU,dI,dS,dN];gi_wp2;refine⟨trivial,?_⟩;refine(km.2 (DW s J _)).mono ?_;rintro e w' ⟨rfl,rfl⟩;gi_wp2;obtain⟨V,hV⟩:∃V:U,V=((((w.alloc (aG #[aR Z 0 0] 101)).alloc (aG #[N X 0] 3)).alloc (aG #[aH s] 9)).alloc (aG #[N X J] 3)):=⟨_,rfl⟩
 rw[<-hV];have a7:V.heap.size=w.heap.size+4:=by rw[hV];simp
 have a1:Below w.heap.size w V:=by rw[hV];exact((((aJ _ w).alloc jE _).alloc aC _).alloc aF _).alloc aF _
 have v0:jb V w.heap.size 101 (aR Z 0 0):=by rw[hV];exact(((Boxed.new w _ _).alloc _).alloc _).alloc _
 have v1:jb V (w.heap.size+1) 3 (N X 0):=by
  rw[hV];have:=Boxed.new (w.alloc (aG #[aR Z 0 0] 101)) 3 (N X 0);rw[fB]at this;exact(this.alloc _).alloc _
 have v2:V.cell? ⟨w.heap.size+1+1,0,Z⟩=M (aH s):=by
  rw[hV];have:=Boxed.new ((w.alloc (aG #[aR Z 0 0] 101)).alloc (aG #[N X 0] 3)) 9 (aH s);rw[fB,fB]at this;exact(this.alloc _).cell
 have v3:V.cell? ⟨w.heap.size+1+1+1,0,Z⟩=M (N X J):=by
  rw[hV];have:=Boxed.new (((w.alloc (aG #[aR Z 0 0] 101)).alloc (aG #[N X 0] 3)).alloc (aG #[aH s] 9)) 3 (N X J);rw[fB,fB,fB]at this;exact this.cell
 clear hV
 refine Bo (gf:=205) (lb:=#[aM (M ⟨w.heap.size+1+1,0,Z⟩),aM (M ⟨w.heap.size+1+1+1,0,Z⟩)]) rfl (enters_of (fq Tryz.func205 rfl) XN rfl)
  (FN d hf s J (w.heap.size+1+1) (w.heap.size+1+1+1) V hs a6 (hH.below a1 h0) aA v2 v3 aA aA) (aJ _ _) (by intro k hk;omega) (XY.turn (d+1)) (λ_=>rfl)
  (WI d w.heap.size w) (λ_ _ _=>False) (by rw[a7];exact WI.own d _ w) (λ_ _ _ _ _ hs _ _=>hs)
  ⟨⟨_,v0,Row.none _ _ _ _⟩,v1,a1,aA⟩
  (λx B=>{ tmps:=#[aH s,N X J,aE,aE,aR Z 0 0,cF aL,aM (M ⟨w.heap.size,0,Z⟩),aM (M ⟨w.heap.size+1,0,Z⟩),N X x.e,aM (M ⟨B,0,Z⟩),aH s,N X J,.func (.func 205) #[] #[aM (M ⟨w.heap.size+1+1,0,Z⟩),aM (M ⟨w.heap.size+1+1+1,0,Z⟩)],N X x.e,gP #[.bool x.i.list,aH ⟨x.i.bytes.toArray⟩,.slice x.a x.i.kids.length x.cap],aE,aE,aE,aE,aE,aE,aE,aE,aE,aE,aE,aE],defers:=[] })
  (λx=>aG #[.bool x.i.list,aH ⟨x.i.bytes.toArray⟩,.slice x.a x.i.kids.length x.cap] 103) ?assign ?body ?done ?stop
 case assign=>
  intro l x W K I;simp only[Wa.encs];gi_wp2;exact I
 case body=>
  rintro l q x W0 W1 a9 ⟨⟨v,b0,az⟩,b1,aj,au⟩ hb ⟨bl,ht⟩;obtain⟨xs,L,H,q1,q2,q3,q4,q5⟩:=az;have s1:=hb.size;have bm:PQ.follows .mixedOrders=bB:=XN
  obtain⟨va,Y,rfl⟩:=Ep q1;rw[bC]at *;obtain⟨IB,a4⟩:∃IB:ByteArray,(⟨x.i.bytes.toArray⟩:ByteArray)=IB:=⟨_,rfl⟩
  rw[a4]at ht⊢;obtain⟨G,hG,gb,-⟩:=jI W1 #[.bool x.i.list,aH IB,.slice x.a x.i.kids.length x.cap] 103;rw[<-hG];have gs:G.heap.size=W1.heap.size+1:=by rw[hG];simp
  have af:=hb.trans (gb.mono s1);obtain⟨k0,k1,k2⟩:K3 G W1.heap.size 0 (.bool x.i.list) (aH IB) (.slice x.a x.i.kids.length x.cap):=by rw[hG];exact K3.Jm _ _ _ _ _
  rw[fJ]at k1 k2;clear hG;have c0:jb G w.heap.size 101 (.slice va q.length Y):=(af.block _ b0.lt).trans b0;have c1:jb G (w.heap.size+1) 3 (N X (sJ q)):=(af.block _ b1.lt).trans b1
  have a8:∃i0,PQ.info? 103=M i0/\i0.zero=M (gP #[cF aL,aH ⟨#[]⟩,aR Z 0 0])/\i0.size=3/\i0.bytes=48:=by
   obtain⟨i0,hi,ai,ap,ak⟩:=rS U0;exact⟨i0,hi,ai,ap,ak⟩
  obtain⟨i0,hi,ai,ap,ak⟩:=a8;obtain⟨X2,hU⟩:∃X2:U,X2=(G.alloc (aG #[cF aL,aH ⟨#[]⟩,aR Z 0 0] 103)).drew:=⟨_,rfl⟩
  have ub:Below G.heap.size G X2:=by rw[hU];exact((aJ _ G).alloc jE _).drew
  have us:X2.heap.size=G.heap.size+1:=by rw[hU];simp
  have u3:K3 X2 G.heap.size 0 (cF aL) (aH ⟨#[]⟩) (aR Z 0 0):=by rw[hU];obtain⟨t0,t1,t2⟩:=K3.Jm G (cF aL) (aH ⟨#[]⟩) (aR Z 0 0) 103;exact⟨t0,t1,t2⟩
  have qU:=own_below (own_below q1 af) ub
  obtain⟨v',w',aa,E,ab,ao⟩:=KX (P:=PQ) X2 _ 101 101 103 i0 _ 3 48 (uq Tryz.underlying101) hi ai ap ak rfl aB _ _ xs qU ⟨G.heap.size,0,Z⟩ 1 1 [cF aL,aH ⟨#[]⟩,aR Z 0 0] aB rfl (by
   intro j u hj
   match j,hj with
   |0,hj=>simp at hj;subst hj;exact u3.1
   |1,hj=>simp at hj;subst hj;exact u3.2.1
   |2,hj=>simp at hj;subst hj;exact u3.2.2) (by intro u hu;simp at hu;rcases hu with rfl|rfl|rfl<;>rfl) (by unfold maxLen;omega) aA aA
  obtain⟨g,aw,rfl⟩:=QG E aA;rw[hU,gs]at aa;have m0:=c0.cell;have bb:=(c0.alloc (aG #[cF aL,aH ⟨#[]⟩,aR Z 0 0] 103)).cell;have br:=rU E (g:=g) rfl;have aq:=E.cells (g:=g) rfl;have ah:=xs_len qU;have y0:w'.cell? ⟨g,q.length*3,Z⟩=M (cF aL):=by have:=aq (q.length*3) (cF aL) (by rw[bV aA,ah];simp);simpa[zO]using this
  have y1:w'.cell? ⟨g,q.length*3+1,Z⟩=M (aH ⟨#[]⟩):=by have:=aq (q.length*3+1) (aH ⟨#[]⟩) (by rw[bV aA,ah,show q.length*3+1-q.length*3=1 from by omega];rfl);simpa[zO]using this
  have y2:w'.cell? ⟨g,q.length*3+2,Z⟩=M (aR Z 0 0):=by have:=aq (q.length*3+2) (aR Z 0 0) (by rw[bV aA,ah,show q.length*3+2-q.length*3=2 from by omega];rfl);simpa[zO]using this
  have ax:∀m,eA (.slice va q.length Y)=M m->w.heap.size+4<=m:=λm hm=>(rU q1 hm).1;have e0:jb w' w.heap.size 101 (.slice va q.length Y):=(ab.block _ aA (λe=>by have:=ax _ e.symm;omega)).trans ((ub.block _ aA).trans c0);have e1:jb w' (w.heap.size+1) 3 (N X (sJ q)):=(ab.block _ aA (λe=>by have:=ax _ e.symm;omega)).trans ((ub.block _ aA).trans c1);have n0:=e0.cell;have n1:=e0.frozen;have n2:=e1.cell;have n3:=e1.frozen;have n4:w'.frozen? ⟨g,q.length*3,Z⟩=aL:=yx E;have n5:w'.frozen? ⟨g,q.length*3+1,Z⟩=aL:=yx E;have n6:w'.frozen? ⟨g,q.length*3+2,Z⟩=aL:=yx E;have bs:(0:Int)<=(q.length:Int):=aA
  have bq:(q.length:Int)<((q.length+1:Nat):Int):=aA
  have bo:(q.length:Int)<q.length+1:=aA
  have ag:g≠w.heap.size:=aA
  have bk:g≠w.heap.size+1:=aA
  have f0:=c0.frozen;have Hx:Hid _:=jD q1 (jD q2 (jD q3 (jD q4 q5)));have a3:Hid _:=E;have bd:Hid _:=ab;have bh:Hid _:=ao;have bj:Hid _:=ub;have ba:Hid _:=ht
  have fin:∀(a:Act)(F:U),F=((((w'.setCell ⟨g,q.length*3,Z⟩ (.bool x.i.list)).setCell ⟨g,q.length*3+1,Z⟩ (aH IB)).setCell ⟨g,q.length*3+2,Z⟩ (.slice x.a x.i.kids.length x.cap)).setCell ⟨w.heap.size,0,Z⟩ (aR (M ⟨g,0,Z⟩) (q.length+1) aw)).setCell ⟨w.heap.size+1,0,Z⟩ (N X x.e)->
    acF V.heap.size (λk=>k=1\/k=w.heap.size+1+1\/k=w.heap.size+1+1+1) (WI d w.heap.size w) (λ_ _ _=>False) (q++[x]) G .normal a F:=λa F hF=>
   UQ h0 aj au b0 b1 q1 (by rw[bC];exact q3) (by rw[bC];exact q4) q5 hb ht gb ub E ab ao hF
  have Fin:Hid _:=fin;clear fin;clear q1 q2 q3 q4 q5 E ab ao ub ht u3 qU hU;gi_wp2;refine wpIn_region_any XN ?_;change wpAnyIn _ _ _ _ _ _ _ _ _ (World.drew _);refine(λ(key:(?T:Prop))=>?main) ?k
  case main=>
   repeat' first
    |exact jz
    |refine ij rfl (λK I=>?_) ?_
    |refine eZ (rs:=[0,1,3]) (by decide+kernel) aC ?_
    |refine eZ (rs:=[1,2,3]) (by decide+kernel) aC ?_
    |refine eZ (rs:=[2,3]) (by decide+kernel) aC ?_
    |refine eZ (rs:=[3]) (by decide+kernel) aC ?_
    |refine eZ (rs:=[2]) (by decide+kernel) aC ?_
    |refine eZ (rs:=[1,3]) (by decide+kernel) aC ?_
    |refine eZ (rs:=[1]) (by decide+kernel) aC ?_
    |refine eZ (rs:=[1,2]) (by decide+kernel) aC ?_
    |refine eZ (rs:=[0,3]) (by decide+kernel) aC ?_
    |refine eZ (rs:=[0]) (by decide+kernel) aC ?_
    |refine eZ (rs:=[0,1]) (by decide+kernel) aC ?_
    |(go_simp;refine I _ _ ?_;clear I K)
    |exact key
  case k=>
   refine eZ (rs:=[4]) XN aC ?_;refine ij rfl (λK I=>?_) jz;refine GK _ (by rfl) (by rfl) (by rfl) (by rfl) aa ?_;refine I _ _ ?_;clear I K aa;refine eZ (rs:=[5,7]) XN aC ?_;refine ij rfl (λK I=>?_) ?_
   .go_simp;refine I _ _ ?_;clear I K;refine eZ (rs:=[6,7]) XN aC ?_;refine ij rfl (λK I=>?_) ?_
    .go_simp;refine I _ _ ?_;clear I K;refine eZ (rs:=[7]) XN aC ?_;refine ij rfl (λK I=>?_) jz
     .go_simp;refine I _ _ ?_;clear I K;refine wpAnyIn_done XN ?_ _;gi_wp2;exact Fin.out _ _ (by first|rfl|rw[FT _ _ _ _ _ (po ag)])
    refine ij rfl (λK I=>?_) jz
    .go_simp;refine I _ _ ?_;clear I K;refine eZ (rs:=[6]) XN aC ?_;refine ij rfl (λK I=>?_) jz
     .go_simp;refine I _ _ ?_;clear I K;refine wpAnyIn_done XN ?_ _;gi_wp2;exact Fin.out _ _ (by first|rfl|rw[FT _ _ _ _ _ (po ag)])
   refine ij rfl (λK I=>?_) jz
   .go_simp;refine I _ _ ?_;clear I K;refine eZ (rs:=[5]) XN aC ?_;refine ij rfl (λK I=>?_) jz
    .go_simp;refine I _ _ ?_;clear I K;refine eZ (rs:=[6]) XN aC ?_;refine ij rfl (λK I=>?_) jz
     .go_simp;refine I _ _ ?_;clear I K;refine wpAnyIn_done XN ?_ _;gi_wp2;exact Fin.out _ _ (by first|rfl|rw[FT _ _ _ _ _ (po ag)])
 case done=>
  rintro D xs W0 W hD bg ⟨p,he,hl,an⟩ ⟨⟨v,b0,row⟩,b1,aj,au⟩ hb I;have s1:=hb.size;have c0:jb W w.heap.size 101 v:=(hb.block _ b0.lt).trans b0;have c1:jb W (w.heap.size+1) 3 (N X (sJ xs)):=(hb.block _ b1.lt).trans b1;rw[hl]at c1;have ae:=(row.kept (λk _ k2=>hb.block k k2)).wider jE s1;have a2:=grownBy_putObj' W D (eM Z);have ac:=ae.turn a2 (λr e=>by cases e;exact⟨_,I,rfl⟩);have av:=(aj.trans (hb.mono aA)).grown a2 aA (λk e=>by cases e;omega)
  obtain⟨va,Y,rfl⟩:∃va Y,v=.slice va xs.length Y:=by
   obtain⟨_,_,_,q1,_⟩:=row;have:=Ep q1;simpa using this
  have m0:=c0.cell;have m1:=c1.cell;have ar:=Im.sZ Im.pF d;have ay:s.data.toList.length<=f:=by rw[<-bD];exact a5
  have am:Hid _:=ac;clear ae ac row;by_cases hp:p<s.size
  .have hp':(p:Int)<s.size:=by omega
   obtain rfl:R=Z:=by
    obtain h|⟨_,h⟩:=an
    .omega
    .exact HR.out.symm.trans (he.stuck ar f ay (by rw[<-bD];exact hp) h)
   gi_wp2;refine⟨aC,.inl ⟨_,_,rfl,oe I,?_⟩⟩;exact⟨_,by simp[results,Tryz.results220,go_sem],rfl,av⟩
  .have hp':¬(p:Int)<s.size:=by omega
   obtain rfl:R=M (xs.map Wa.i):=HR.out.symm.trans (he.all ar f ay (by rw[<-bD];omega));gi_wp2;refine⟨aC,.inl ⟨_,_,rfl,oe I,?_⟩⟩;refine⟨dC #[.slice va xs.length Y,cF bB],by simp[results,Tryz.results220,go_sem],⟨va,Y,aC,?_⟩,av⟩;have:=Row.wider am.out (lo':=w.heap.size) aA jE;rw[bC];exact this
 case stop=>
  rintro D c q W0 W _ _ _ h _ _;exact h.elim
end
section
open Go.RowKit Go.Joins Go.Shelf
attribute [local go_sem] Oper.semAt_some
def first_any(d:Nat)(hd:d=0\/∃d',d=d'+1/\FirstSaid d'):FirstSaid d:=by
 intro s E w hs ba hH;have h0:=hH.pos;have hl:=bD s;generalize hC:Im.read Im.body d s.data.toList=C;have HC:Hid _:=hC;have Hd:Hid _:=hd;clear hC hd;obtain⟨Wa,hX,aq,aw⟩:=jI w #[cF aL,aH ⟨#[]⟩,aR Z 0 0] 103;have a1:Wa.heap.size=w.heap.size+1:=by rw[hX];simp
 go_enter (fq Tryz.func206 rfl),Tryz.ntmps206;go_wp2_with fail;rw[<-hX];refine(GH s Wa hs (hH.below aq h0)).mono ?_;rintro e w1 ⟨rfl,ak⟩;have bb:=ak.size;have I:=aq.trans (ak.mono aA);have hz:=(ak.block _ aA).trans aw;have J:∀o:Obj,(w1.alloc o).heap[w.heap.size]? =M (aG #[cF aL,aH ⟨#[]⟩,aR Z 0 0] 103 (0,0)):=λo=>(aZ _ _ _ aA).trans hz;have y0:∀o:Obj,(w1.alloc o).cell? ⟨w.heap.size,0,Z⟩=M (cF aL):=λo=>by rw[aI (J o)];rfl
 have y1:∀o:Obj,(w1.alloc o).cell? ⟨w.heap.size,1,Z⟩=M (aH ⟨#[]⟩):=λo=>by rw[aI (J o)];rfl
 have y2:∀o:Obj,(w1.alloc o).cell? ⟨w.heap.size,2,Z⟩=M (aR Z 0 0):=λo=>by rw[aI (J o)];rfl
 have fy:=λo j=>aQ (J o) j;have a9:w.heap.size≠w1.heap.size:=aA
 have az:=hH.below I h0;have HX:Hid _:=jD ak (jD a1 (jD aq aw));clear hX ak a1 aq aw;cases hR:Im.body s.data.toList with
 |none=>
  obtain rfl:C=Z:=HC.out.symm.trans (Im.wV hR);simp only[xA];go_wp2_with fail;exact cM (v:=.tuple _) (by simp[results,nq,go_sem,y0,y1,y2]) rfl ⟨rfl,(((I.alloc I.size _).setCell aC _).setCell aC _).setCell aC _⟩
 |some R=>
  obtain⟨l,f,t⟩:=R;obtain⟨bh,a6,bd,bg⟩:=Im.pF _ _ _ _ hR;rw[<-hl]at a6;clear hl;simp only[xA];have a8:(f:Int)<=t:=aA
  have a7:(t:Int)<=s.size:=aA
  cases l with
  |false=>
   obtain rfl:=HC.out.symm.trans (Im.D6 hR);clear hR;go_wp2_with fail;obtain⟨Y,hY,-,af⟩:=jI w1 #[cF aL,N X f,N X t] 311;rw[<-hY];have a3:Y.heap.size=w1.heap.size+1:=by rw[hY];simp
   have ao:Below w.heap.size w Y:=by rw[hY];exact I.alloc I.size _
   have ac:Y.heap[w.heap.size]? =M (aG #[cF aL,aH ⟨#[]⟩,aR Z 0 0] 103 (0,0)):=by rw[hY];exact J _
   have av:=(jG ac)
   obtain⟨-,-,c2⟩:=cells3 af;clear hY;have HY:Hid _:=jD ac af;have Hz:Hid _:=jD y0 (jD y1 (jD y2 (jD fy J)));clear ac af y0 y1 y2 fy J hz;have am:(s.extract f t).size<=16777216:=aF
   have ah:(⟨((s.data.toList.take t).drop f).toArray⟩:ByteArray)=s.extract f t:=by
    rw[<-ext_list]
   obtain⟨TX,ai⟩:∃TX:ByteArray,s.extract f t=TX:=⟨_,rfl⟩
   rw[ai]at am ah;rw[ai]
   have q:∀X2:U,Below Y.heap.size Y X2->eE PQ 151 #[aH TX] X2 λe w3=>e=bX (aH TX)/\w3.cell? ⟨w1.heap.size,2,Z⟩=M (N X t)/\w3.cell? ⟨w.heap.size,0,Z⟩=M (cF aL)/\w3.cell? ⟨w.heap.size,1,Z⟩=M (aH ⟨#[]⟩)/\w3.cell? ⟨w.heap.size,2,Z⟩=M (aR Z 0 0)/\(∀j,w3.frozen? ⟨w.heap.size,j,Z⟩=aL)/\Below w.heap.size w w3:=by
    intro X2 hU;refine(clone_any TX X2 am).mono ?_;rintro e w3 ⟨rfl,ag⟩;have au:=hU.trans (ag.mono hU.size);have ap:=(au.block _ aA).trans HY.out.2;have aa:=(au.block _ av).trans HY.out.1;exact⟨rfl,by rw[aI ap];rfl,by rw[aI aa];rfl,by rw[aI aa];rfl,by rw[aI aa];rfl,aQ aa,ao.trans (au.mono ao.size)⟩
   have ab:Hid _:=q;clear q;go_region_with (go_at_call 151;refine(ab.out _ ?_).mono ?_;(first|exact aJ _ _|exact(aJ _ _).drew|exact below_drewN (aJ _ _) _);rintro e w3 ⟨rfl,x2,z0,z1,z2,fz,ae⟩)
   all_goals
    go_wp2_with fail;refine cM (v:=dC #[gP #[cF aL,aH TX,aR Z 0 0],N X t,cF bB]) (by simp[results,nq,go_sem,z0,z1,z2]) rfl ⟨⟨Z,0,by simp only[ah];rfl,?_⟩,?_⟩
    .exact Tr.WM (i:=⟨aL,_,[]⟩) (Row.none _ _ _ _)
    .first
      |exact((ae.setCell aC _).setCell aC _).setCell aC _
      |exact below_drewN (((ae.setCell aC _).setCell aC _).setCell aC _) _
  |true=>
   have am:(s.extract f t).size<=16777216:=aF
   obtain⟨TX,ai⟩:∃TX:ByteArray,s.extract f t=TX:=⟨_,rfl⟩
   have ah:TX.data.toList=(s.data.toList.take t).drop f:=by rw[<-ai,ext_list]
   obtain rfl|⟨d',rfl,hf⟩:=Hd.out
   .obtain rfl:=HC.out.symm.trans (Im.CQ hR);have a4:(8:Int)<(E:Int):=by omega
    clear hR ah;go_wp2_with fail;exact cM (v:=.tuple _) (by simp[results,nq,go_sem,y0,y1,y2]) rfl ⟨rfl,(((I.alloc I.size _).setCell aC _).setCell aC _).setCell aC _⟩
   .have an:C=_:=HC.out.symm.trans (Im.Iu hR);rw[<-ah]at an;have a4:¬(8:Int)<(E:Int):=by omega
    have q:∀X2:U,Below w1.heap.size w1 X2->eE PQ 220 #[aH TX,N X ((E:Int)+1)] X2 λe w3=>WZ (d'+1) X2.heap.size w3 e (Im.many (Im.read Im.body d') s.data.toList.length TX.data.toList)/\Below X2.heap.size X2 w3:=by
     intro X2 hU;have:=TF d' hf TX (E+1) s.data.toList.length X2 (by rw[<-ai];exact am) aA (by rw[<-ai,<-bD];simp;omega) (az.below hU az.pos);rw[show((E+1:Nat):Int)=(E:Int)+1 from by omega]at this;exact this
    generalize hM:Im.many (Im.read Im.body d') s.data.toList.length TX.data.toList=XS at q an;have ab:Hid _:=q;have a2:Hid _:=an;clear q hR hM HC an ah;obtain⟨Y,hY,a5,af⟩:=jI w1 #[cF bB,N X f,N X t] 311;have a3:Y.heap.size=w1.heap.size+1:=by rw[hY];simp
    have ao:Below w.heap.size w Y:=by rw[hY];exact I.alloc I.size _
    have ac:Y.heap[w.heap.size]? =M (aG #[cF aL,aH ⟨#[]⟩,aR Z 0 0] 103 (0,0)):=by rw[hY];exact J _
    have av:=(jG ac)
    have HY:Hid _:=jD ac af;clear ac af;go_wp2_with fail;rw[<-hY];clear hY;refine(ab.out Y a5).mono ?_;rintro e w3 ⟨ay,ag⟩;have s3:=ag.size;have ae:=ao.trans (ag.mono aA);have ap:=(ag.block _ aA).trans HY.out.2;have aa:=(ag.block _ av).trans HY.out.1;obtain⟨-,-,x2⟩:=cells3 ap;obtain⟨z0,z1,z2⟩:=cells3 aa;have fz:=aQ aa;clear ap aa y0 y1 y2 fy J hz;cases XS with
    |none=>
     obtain rfl:C=Z:=a2.out;obtain rfl:=ay;go_wp2_with fail;exact cM (v:=.tuple _) (by simp[results,nq,go_sem,z0,z1,z2]) rfl ⟨rfl,((ae.setCell aC _).setCell aC _).setCell aC _⟩
    |some ks=>
     obtain rfl:C=M (⟨bB,[],ks⟩,t):=a2.out;obtain⟨ka,aj,rfl,ar⟩:=ay;have ax:Hid _:=ar;clear ar;go_wp2_with fail;go_region
     all_goals
      go_wp2_with fail;refine cM (v:=dC #[gP #[cF bB,aH ⟨#[]⟩,.slice ka ks.length aj],.int _ t,cF bB]) (by simp[results,nq,go_sem,z0,z1,z2]) rfl ⟨⟨ka,aj,rfl,?_⟩,?_⟩
      .have r1:=Row.wider (lo':=w.heap.size+1) ax.out aA jE;have r2:=Row.wider (lo':=w.heap.size) (Row.kept (w':=((w3.setCell ⟨w.heap.size,0,Z⟩ (cF bB)).setCell ⟨w.heap.size,1,Z⟩ (aH ⟨#[]⟩)).setCell ⟨w.heap.size,2,Z⟩ (.slice ka ks.length aj)) r1 (λk k1 _=>by rw[aW _ _ _ _ aF,aW _ _ _ _ aF,aW _ _ _ _ aF])) aA jE;exact Tr.WM (i:=⟨bB,[],ks⟩) (Row.wider (Row.kept r2 (λ_ _ _=>rfl)) jE (by simp[eW]))
      .first
        |exact((ae.setCell aC _).setCell aC _).setCell aC _
        |exact(((ae.drew.setCell aC _).setCell aC _).setCell aC _)
        |exact below_drewN (((ae.setCell aC _).setCell aC _).setCell aC _) _
end
section
open Go.RowKit Go.Joins Go.Shelf
attribute [local go_sem] Oper.semAt_some
variable {g:List UInt8->Option (Im.It×Nat)}{s:List UInt8}
theorem zI:∀d:Nat,FirstSaid d
 |0=>first_any 0 (.inl rfl)
 |d+1=>first_any (d+1) (.inr ⟨d,rfl,zI d⟩)
theorem Xx(s:ByteArray)(w:U):eE PQ 120 #[aH s] w λe w'=>e=bX (.func (.func 205) #[] #[aM (M ⟨w.heap.size,0,Z⟩),aM (M ⟨w.heap.size+1,0,Z⟩)])/\w'=(w.alloc (aG #[aH s] 9)).alloc (aG #[N X 1] 3):=by
 go_enter (fq Tryz.func120 rfl),Tryz.ntmps120;go_wp2_with fail;refine(DW s 1 _).mono ?_;rintro e w1 ⟨rfl,rfl⟩;go_wp2_with fail;go_ret;exact⟨rfl,rfl⟩
def Jw(n lo:Nat)(w':U)(e:Ending):Option Im.It->Prop
 |none=>e=bX (dC #[gP #[cF aL,aH ⟨#[]⟩,aR Z 0 0],N X 4])
 |some i=>∃a cap,e=bX (dC #[gP #[.bool i.list,aH ⟨i.bytes.toArray⟩,.slice a i.kids.length cap],N X 0])/\Tr w' n lo w'.heap.size (.bool i.list) (aH ⟨i.bytes.toArray⟩) (.slice a i.kids.length cap) i
theorem DV{w:U}{b:Nat}{E I q:aD}{t:TypeId}(h:w.heap[b]? =M (aG #[E,I,q] t (0,0)))(x y z:aD):(((w.setCell ⟨b,0,Z⟩ x).setCell ⟨b,1,Z⟩ y).setCell ⟨b,2,Z⟩ z).heap[b]? =M (aG #[x,y,z] t (0,0)):=by have:=block_setCell (block_setCell (block_setCell h (i:=0) x) (i:=1) y) (i:=2) z;simpa using this
theorem Im.nG.zero{p:Nat}(h:Im.nG g s [] p):p=0:=by
 generalize q:([]:List Im.It)=l at h;cases h with
 |nil=>rfl
 |snoc=>simp at q
theorem Im.nG.one{i:Im.It}{p:Nat}(h:Im.nG g s [i] p):g s=M (i,p):=by
 generalize q:[i]=l at h;cases h with
 |nil=>simp at q
 |@snoc l0 p0 i0 n0 h hp hg=>
  have e:=q.symm;rw[List.append_eq_singleton_iff]at e;obtain⟨rfl,e⟩|⟨_,e⟩:=e
  .simp at e;subst e;obtain rfl:=h.zero;simpa using hg
  .simp at e
def DI(s:ByteArray)(q:Nat)(w:U)(E:List Wa)(W:U):Prop:=
 E=[]/\jb W q 9 (aH s)/\W.heap[q+1]? =M (aG #[cF aL,aH ⟨#[]⟩,aR Z 0 0] 103 (0,0))/\jb W (q+2) 36 (N X 0)/\Below q w W/\q+5<=W.heap.size
def DX(s:ByteArray)(q:Nat)(w:U)(c:Code)(E:List Wa)(W:U):Prop:=
 (c=.exit 0/\∃x,E=[x]/\x.e<s.size/\DI s q w [] W)\/
 (c=.ret/\∃x,E=[x]/\s.size<=x.e/\W.heap[q+1]? =M (aG #[.bool x.i.list,aH ⟨x.i.bytes.toArray⟩,.slice x.a x.i.kids.length x.cap] 103 (0,0))/\jb W (q+2) 36 (N X 0)/\Below q w W/\q+5<=W.heap.size/\Tr W 9 (q+5) W.heap.size (.bool x.i.list) (aH ⟨x.i.bytes.toArray⟩) (.slice x.a x.i.kids.length x.cap) x.i)
theorem cells_kept{A B:U}{row:Option Nat}(E:A.grownBy B row){n:Nat}(q:∀r,row=M r->n<=r/\∃o:Obj,A.heap[r]? =M o/\o.isCells=aL){k:Nat}{o:Obj}(hk:A.heap[k]? =M o)(ho:o.isCells=bB):B.heap[k]? =M o:=
 kT E (λr e=>(q r e).2) k o hk ho
theorem DI.own(s:ByteArray)(I:Nat)(w:U):OwnFrom (I+5) (DI s I w):=by rintro J A B row ⟨rfl,Y,h2,h3,h4,h5⟩ q E;exact⟨rfl,cells_kept q E Y rfl,cells_kept q E h2 rfl,cells_kept q E h3 rfl,h4.grown q aA (λk e=>by grind),by have:=q.size;omega⟩
theorem DX.own(s:ByteArray)(I:Nat)(w:U)(c:Code):OwnFrom (I+5) (DX s I w c):=by
 rintro aa A B row (⟨Y,x,rfl,J,hD⟩|⟨Y,x,rfl,J,h2,h3,h4,h5,h6⟩) q E
 .exact .inl ⟨Y,x,rfl,J,DI.own s I w _ _ _ _ hD q E⟩
 .exact .inr ⟨Y,x,rfl,J,cells_kept q E h2 rfl,cells_kept q E h3 rfl,h4.grown q aA (λk e=>by grind),by have:=q.size;omega,h6.turn q (λr e=>(E r e).2)⟩
theorem decode_any(s:ByteArray)(w:U)(hs:s.size<=16777216)(hH:kG w):eE PQ 175 #[aH s] w λe w'=>Jw 9 w.heap.size w' e (Im.dec s.data.toList)/\Below w.heap.size w w':=by
 have h0:=hH.pos;generalize hR:Im.dec s.data.toList=R;have HR:Hid _:=hR;clear hR;refine km.1 (rA (n:=3) (fq Tryz.func175 rfl) rfl trivial ?_ rfl);simp only[Tryz.ntmps175,dR,aU,bY,Nat.reduceAdd,Nat.reduceSub,dH,dG,dU,dI,dS,dN];gi_wp2;refine⟨trivial,?_⟩;refine(km.2 (Xx s _)).mono ?_;rintro e w' ⟨rfl,rfl⟩;gi_wp2;obtain⟨V,hV⟩:∃V:U,V=(((((w.alloc (aG #[aH s] 9)).alloc (aG #[cF aL,aH ⟨#[]⟩,aR Z 0 0] 103)).alloc (aG #[N X 0] 36)).alloc (aG #[aH s] 9)).alloc (aG #[N X 1] 3)):=⟨_,rfl⟩
 rw[<-hV];have ah:V.heap.size=w.heap.size+5:=by rw[hV];simp
 have ai:Below w.heap.size w V:=by rw[hV];exact(((((aJ _ w).alloc jE _).alloc aC _).alloc aF _).alloc aF _).alloc aF _
 have q:∀(a b c d e:Obj)(k:Nat),((((((w.alloc a).alloc b).alloc c).alloc d).alloc e).heap[k]?)=if k=w.heap.size+4 then M e else if k=w.heap.size+3 then M d else if k=w.heap.size+2 then M c else if k=w.heap.size+1 then M b else if k=w.heap.size then M a else w.heap[k]?:=by
  intro a b c d e k;simp only[World.alloc,iD,Array.size_push]
 have v0:jb V w.heap.size 9 (aH s):=by unfold jb;rw[hV,q];simp
 have v1:V.heap[w.heap.size+1]? =M (aG #[cF aL,aH ⟨#[]⟩,aR Z 0 0] 103 (0,0)):=by rw[hV,q];simp
 have v2:jb V (w.heap.size+2) 36 (N X 0):=by unfold jb;rw[hV,q];simp
 have v3:V.cell? ⟨w.heap.size+1+1+1,0,Z⟩=M (aH s):=by
  have:jb V (w.heap.size+3) 9 (aH s):=by unfold jb;rw[hV,q];simp
  exact this.cell
 have v4:V.cell? ⟨w.heap.size+1+1+1+1,0,Z⟩=M (N X (1:Nat)):=by
  have:jb V (w.heap.size+4) 3 (N X 1):=by unfold jb;rw[hV,q];simp
  exact this.cell
 clear hV q
 refine Bo (gf:=205) (lb:=#[aM (M ⟨w.heap.size+1+1+1,0,Z⟩),aM (M ⟨w.heap.size+1+1+1+1,0,Z⟩)]) rfl (enters_of (fq Tryz.func205 rfl) XN rfl)
  (FN 8 (zI 8) s 1 (w.heap.size+1+1+1) (w.heap.size+1+1+1+1) V hs rfl (hH.below ai h0) aA v3 v4 aA aA) (aJ _ _) (by intro k hk;omega) (XY.turn 9) (λ_=>rfl)
  (DI s w.heap.size w) (DX s w.heap.size w) (by rw[ah];exact DI.own s _ w) (by rw[ah];exact DX.own s _ w)
  ⟨rfl,v0,v1,v2,ai,aA⟩
  (λx B=>{ tmps:=#[aH s,aM (M ⟨w.heap.size,0,Z⟩),aM (M ⟨w.heap.size+1,0,Z⟩),aM (M ⟨w.heap.size+1+1,0,Z⟩),N X x.e,aM (M ⟨B,0,Z⟩),aH s,.func (.func 205) #[] #[aM (M ⟨w.heap.size+1+1+1,0,Z⟩),aM (M ⟨w.heap.size+1+1+1+1,0,Z⟩)],N X x.e,gP #[.bool x.i.list,aH ⟨x.i.bytes.toArray⟩,.slice x.a x.i.kids.length x.cap],aE,aE,aE,aE,aE,aE],defers:=[] })
  (λx=>aG #[.bool x.i.list,aH ⟨x.i.bytes.toArray⟩,.slice x.a x.i.kids.length x.cap] 103) ?assign ?body ?done ?stop
 case assign=>
  intro l x W K hK;simp only[Wa.encs];gi_wp2;exact hK
 case body=>
  rintro l ao x W0 W1 ap ⟨rfl,b0,b1,b2,aa,ac⟩ Y ⟨ar,ht⟩;have s1:=Y.size;obtain⟨IB,ag⟩:∃IB:ByteArray,(⟨x.i.bytes.toArray⟩:ByteArray)=IB:=⟨_,rfl⟩
  obtain⟨G,hG,gb,-⟩:=jI W1 #[.bool x.i.list,aH ⟨x.i.bytes.toArray⟩,.slice x.a x.i.kids.length x.cap] 103;rw[<-hG];have gs:G.heap.size=W1.heap.size+1:=by rw[hG];simp
  have ab:=Y.trans (gb.mono s1);obtain⟨k0,k1,k2⟩:K3 G W1.heap.size 0 (.bool x.i.list) (aH ⟨x.i.bytes.toArray⟩) (.slice x.a x.i.kids.length x.cap):=by rw[hG];exact K3.Jm _ _ _ _ _
  rw[fJ]at k1 k2;clear hG;have c0:jb G w.heap.size 9 (aH s):=(ab.block _ b0.lt).trans b0;have J:=(ab.block _ aA).trans b1;have I:jb G (w.heap.size+1+1) 36 (N X 0):=(ab.block _ b2.lt).trans b2;have m0:=c0.cell;have m2:=I.cell;have n2:=I.frozen;obtain⟨z0,z1,z2⟩:=cells3 J;have fz:=aQ J;have bG:=aa.trans (ab.mono aA);have tG:Tr G 9 (w.heap.size+5) G.heap.size (.bool x.i.list) (aH ⟨x.i.bytes.toArray⟩) (.slice x.a x.i.kids.length x.cap) x.i:=(Tr.kept 9 _ _ _ _ _ _ (λk _ k2=>gb.block k k2) ht).wider aA aA;have HT:Hid _:=jD tG ht;have HG:Hid _:=jD c0 (jD J (jD I bG));clear tG ht c0 J I bG b0 b1 b2;rw[ag]at k1⊢;by_cases he:x.e<s.size
  .have am:(x.e:Int)<s.size:=by omega
   gi_wp2;obtain⟨c0,J,I,bG⟩:=HG.out;exact⟨KeepsFrom.refl _ _,.inl ⟨rfl,x,rfl,he,rfl,c0,J,I,bG,aA⟩⟩
  .have am:¬(x.e:Int)<s.size:=by omega
   gi_wp2;obtain⟨c0,J,I,bG⟩:=HG.out;have tG:=HT.out.1;rw[<-ag];refine⟨KeepsOthers.from ((((gO _ _ _).trans (gO _ _ _)).trans (gO _ _ _)).trans (gO _ _ _)) _,.inr ⟨rfl,x,rfl,aA,?_,?_,?_,by simp[eW];omega,?_⟩⟩
   .rw[aW _ _ _ _ aC];exact DV J _ _ _
   .exact Boxed.set _ (mF (mF (mF I _ _ aC) _ _ aC) _ _ aC)
   .exact(((bG.setCell aC _).setCell aC _).setCell aC _).setCell aF _
   .refine Tr.wider (Tr.kept 9 _ _ _ _ _ _ (λk k1 _=>?_) tG) jE (by simp[eW]);rw[aW _ _ _ _ aF,aW _ _ _ _ aF,aW _ _ _ _ aF,aW _ _ _ _ aF]
 case' done=>
  rintro D xs W0 W hD an ⟨p,he,hl,ae⟩ ⟨rfl,b0,b1,b2,aa,ac⟩ Y hK;obtain rfl:=Im.nG.zero he
  obtain rfl:R=Z:=by
   refine HR.out.symm.trans ?_
   have:Im.read Im.body 8 s.data.toList=Z:=by
    obtain h|⟨_,h⟩:=ae
    .have:s.data.toList=[]:=bP (by rw[<-bD];omega);rw[this];exact Im.wV rfl
    .simpa using h
   unfold Im.dec;rw[this]
 case' stop=>
  rintro D c ao W0 W hD an ⟨p,he,hl⟩ (⟨rfl,x,rfl,hx,_,b0,b1,b2,aa,ac⟩|⟨rfl,x,rfl,hx,b1,b2,aa,ac,ht⟩) Y hK;rotate_left
  .have hr:=Im.nG.one he;have af:=hl.symm.trans (nZ [] x);subst af
   obtain rfl:R=M x.i:=by
    refine HR.out.symm.trans ?_;unfold Im.dec;rw[hr];simp only;have:=(Im.sZ Im.pF 8 _ _ _ hr).2;rw[ZD (by rw[<-bD]at this⊢;omega)]
   have s1:=Y.size;gi_wp2;have E:D≠w.heap.size+1/\D≠w.heap.size+1+1:=aA
   have J:=(Y.block _ aA).trans b1;have I:jb W (w.heap.size+1+1) 36 (N X 0):=(Y.block _ b2.lt).trans b2;have bW:=aa.trans (Y.mono aA);have g1:(W.putObj D (eM Z)).heap[w.heap.size+1]? =_:=(cE (po E.1)).trans J;have g2:(W.putObj D (eM Z)).heap[w.heap.size+1+1]? =_:=(cE (po E.2)).trans I;have aj:=grownBy_putObj' W D (eM Z);have tW:=(Tr.kept 9 _ _ _ _ _ _ (λk _ k2=>Y.block k k2) ht).wider jE s1;have tF:=Tr.wider (lo':=w.heap.size) (Tr.turn tW aj (λr e=>by cases e;exact⟨_,hK,rfl⟩)) aA jE;have Ht:Hid _:=tF;clear tF tW ht;refine⟨aC,.inl ⟨_,_,rfl,oe hK,?_⟩⟩;exact⟨_,by simp[results,Tryz.results175,go_sem,aI g1,aI g2],⟨_,_,rfl,Ht.out⟩,bW.grown aj aA (λk e=>by cases e;omega)⟩
  have hr:=Im.nG.one he;have af:=hl.symm.trans (nZ [] x);subst af
  obtain rfl:R=Z:=by
   refine HR.out.symm.trans ?_;unfold Im.dec;rw[hr];simp only;rw[Zs (by rw[<-bD];omega)]
 all_goals
  have s1:=Y.size;have J:=(Y.block _ aA).trans b1;have I:jb W (w.heap.size+1+1) 36 (N X 0):=(Y.block _ b2.lt).trans b2;have m2:=I.cell;have n2:=I.frozen;obtain⟨z0,z1,z2⟩:=cells3 J;have fz:=aQ J;have bW:=aa.trans (Y.mono aA);gi_wp2;have E:D≠w.heap.size+1/\D≠w.heap.size+1+1:=aA
  obtain⟨F,hF⟩:∃F:U,F=(((W.setCell ⟨w.heap.size+1,0,Z⟩ (cF aL)).setCell ⟨w.heap.size+1,1,Z⟩ (aH ⟨#[]⟩)).setCell ⟨w.heap.size+1,2,Z⟩ (aR Z 0 0)).setCell ⟨w.heap.size+1+1,0,Z⟩ (N X 4):=⟨_,rfl⟩
  rw[<-hF];have ak:F.heap[D]? =M (eM (M [])):=by rw[hF,aW _ _ _ _ E.2,aW _ _ _ _ E.1,aW _ _ _ _ E.1,aW _ _ _ _ E.1];exact hK
  have f1:F.heap[w.heap.size+1]? =M (aG #[cF aL,aH ⟨#[]⟩,aR Z 0 0] 103 (0,0)):=by rw[hF,aW _ _ _ _ aC];exact DV J _ _ _
  have f2:jb F (w.heap.size+1+1) 36 (N X 4):=by rw[hF];exact Boxed.set _ (mF (mF (mF I _ _ aC) _ _ aC) _ _ aC)
  have bF:Below w.heap.size w F:=by rw[hF];exact(((bW.setCell aC _).setCell aC _).setCell aC _).setCell aF _
  have aq:=bF.size;have au:=(jG ak)
  clear hF;have g1:(F.putObj D (eM Z)).heap[w.heap.size+1]? =_:=(cE (po E.1)).trans f1;have g2:(F.putObj D (eM Z)).heap[w.heap.size+1+1]? =_:=(cE (po E.2)).trans f2;refine⟨aC,.inl ⟨_,_,rfl,oe ak,?_⟩⟩;exact⟨_,by simp[results,Tryz.results175,go_sem,aI g1,aI g2],rfl,bF.grown (grownBy_putObj' F D _) aA (λk e=>by cases e;omega)⟩
end
namespace Hm
open Go.RowKit Go.Joins Go.Shelf
def uY:(PQ.info? 9).map (λi=>(i.zero,i.size,i.bytes))=M (M (aH ⟨#[]⟩),1,16):=XN
def strs(i:Im.It):Option (List (List UInt8)):=if i.list&&i.kids.all (λt=>!t.list)then M (i.kids.map (·.bytes))else Z
def Made(w:U)(lo:Nat)(v:aD)(l:List (List UInt8)):Prop:=Row w 9 1 v l.length (l.map lM)/\∀g,v.ownBlock=M g->lo<=g
def Strs(w:U)(lo:Nat)(e:Ending):Option (List (List UInt8))->Prop
 |none=>e=bX (dC #[aR Z 0 0,cF aL])
 |some l=>∃a cap,e=bX (dC #[.slice a l.length cap,cF bB])/\Made w lo (.slice a l.length cap) l
def In.kid{B:Nat}{w:U}{n:Nat}{c0 c1 J:aD}{i:Im.It}(h:In B w (n+1) c0 c1 J i)(hk:i.kids≠[]):∃g off cap,J=aR (M ⟨g,off,Z⟩) i.kids.length cap/\g<B/\∀(j:Nat)(Y:j<i.kids.length),∃q,K3 w g (off+j*3) (.bool i.kids[j].list) (aH ⟨i.kids[j].bytes.toArray⟩) q/\In B w n (.bool i.kids[j].list) (aH ⟨i.kids[j].bytes.toArray⟩) q i.kids[j]:=by obtain⟨_,_,a,cap,rfl,hx⟩:=h;obtain⟨g,off,rfl,hg,Y⟩:=hx hk;refine⟨g,off,cap,rfl,hg,λj E=>?_⟩;obtain⟨d0,d1,q,h1,h2⟩:=Y j E;obtain⟨a',I,e0,e1,e2⟩:=h2.shape;subst e0 e1;exact⟨q,h1,h2⟩
def xC(n B:Nat)(i:Im.It)(c2:aD)(w:U)(hB:B<=w.heap.size)(h:In B w (n+2) (.bool i.list) (aH ⟨i.bytes.toArray⟩) c2 i)(hl:i.kids.length<=4294967296):eE PQ 177 #[gP #[.bool i.list,aH ⟨i.bytes.toArray⟩,c2]] w λe w'=>Strs w' w.heap.size e (strs i)/\Below w.heap.size w w':=by
 obtain⟨a,cap,_,_,rfl⟩:=h.shape;obtain⟨D,hD⟩:∃D:ByteArray,(⟨i.bytes.toArray⟩:ByteArray)=D:=⟨_,rfl⟩
 obtain⟨W,hW,ah,-⟩:=jI w #[.bool i.list,aH D,.slice a i.kids.length cap] 103;have z0:W.cell? ⟨w.heap.size,0,Z⟩=M (.bool i.list):=by rw[hW];simp
 have z2:W.cell? ⟨w.heap.size,2,Z⟩=M (.slice a i.kids.length cap):=by rw[hW];simp
 obtain⟨R,hR⟩:∃R,strs i=R:=⟨_,rfl⟩
 rw[hR,hD];obtain⟨li,af⟩:∃li,i.list=li:=⟨_,rfl⟩
 rw[af]at z0 hW⊢;obtain⟨i0,aq,an,au,ao⟩:=rS uY;have Hi:Hid _:=jD aq (jD an (jD au ao));have H:Hid _:=jD h (jD ah (jD hR af));clear h ah hR af aq an au ao hD;cases li
 .go_enter (fq Tryz.func177 rfl),Tryz.ntmps177;go_upto_region 1 with fail;rw[<-hW];clear hW;go_wp2_with fail;go_ret2;obtain⟨h,ah,hR,af⟩:=H.out;refine⟨?_,ah⟩;rw[<-hR];unfold strs;rw[af];rfl
 .go_enter (fq Tryz.func177 rfl),Tryz.ntmps177;go_upto_region 1 with fail;rw[<-hW];clear hW;go_wp2_with fail;go_loopg [4,6,13] i.kids.length (λgg v4 _ aw wx=>∃(k:Nat)(ra:Option Addr)(rc:Nat),k<=i.kids.length/\aw=N X k/\v4=.slice ra k rc/\gg=i.kids.length-k/\Hid (Made wx w.heap.size (.slice ra k rc) ((i.kids.take k).map (·.bytes))/\(∀x,x∈i.kids.take k->x.list=aL)/\Below w.heap.size w wx))
  case atStart=>exact⟨0,Z,0,dL _,rfl,rfl,rfl,⟨Row.nil _ _ _,by simp[eA]⟩,aC,H.out.2.1⟩
  case round=>
   obtain⟨k,ra,rc,hk,rfl,rfl,rfl,HI⟩:=hrel;by_cases ag:k<i.kids.length
   .have ar:(k:Int)<i.kids.length:=by omega
    have av:=In.below (HI.out.2.2.mono hB) _ _ _ _ _ H.out.1;obtain⟨g,off,az,hv,hg,aj⟩:=In.kid av (λe=>by rw[e]at ag;simp at ag);simp only[Value.slice.injEq,true_and]at hv;obtain⟨rfl,rfl⟩:=hv;obtain⟨d2,⟨k0,k1,k2⟩,ac⟩:=aj k ag;obtain⟨x,hx⟩:∃x,i.kids[k]=x:=⟨_,rfl⟩
    rw[hx]at k0 k1 ac;obtain⟨xa,xc,_,_,rfl⟩:=ac.shape;obtain⟨Wa,hX⟩:∃Wa:ByteArray,(⟨x.bytes.toArray⟩:ByteArray)=Wa:=⟨_,rfl⟩
    rw[hX]at k1;obtain⟨W2,aa,Y,-⟩:=jI wr #[.bool x.list,aH Wa,.slice xa x.kids.length xc] 103;have y0:W2.cell? ⟨wr.heap.size,0,Z⟩=M (.bool x.list):=by rw[aa];simp
    have y1:W2.cell? ⟨wr.heap.size,1,Z⟩=M (aH Wa):=by rw[aa];simp
    obtain⟨xl,J⟩:∃xl,x.list=xl:=⟨_,rfl⟩
    rw[J]at y0 k0 aa;have ab:i.kids.take (k+1)=i.kids.take k++[x]:=by rw[eY ag,hx]
    have HX:Hid _:=jD hx (jD hX (jD Y (jD J ab)));have ae:=λo=>(HI.out.1.1.below Y).below ((aJ _ W2).alloc jE o);rw[show((i.kids.take k).map (·.bytes)).length=k from by rw[bC,bK];omega]at ae;have am:Hid _:=ae;clear av hg aj ac hx hX Y J ab ae;cases xl
    .go_upto_region 7 with fail;rw[<-aa];clear aa;go_wp2_with (first|(at_builtin;refine kJ _ rfl (.tmp 19) (.tmp 22) 40 rfl 9 i0 _ 1 16 (uq Tryz.underlying40) Hi.out.1 Hi.out.2.1 Hi.out.2.2.1 Hi.out.2.2.2 rfl aB _ k _ rfl (am.out _) _ 1 1 [aH Wa] rfl aB rfl (by intro j u hj;match j,hj with|0,hj=>(simp at hj;subst hj;simp[Addr.add])) (by intro u hu;simp at hu;subst hu;rfl) (by unfold maxLen;omega) aA ?_;intro g5 a1 ap w5 I E;have ax:Hid _:=jD I E;clear I E)|go_in)
     go_roundg (i.kids.length-(k+1))
     case measure=>omega
     case rel=>
      obtain⟨hx,hX,Y,J,ab⟩:=HX.out;obtain⟨I,E⟩:=ax.out;have ai:=HI.out.2.2.trans (Y.mono HI.out.2.2.size);have ak:Below w.heap.size w (W2.alloc (aG #[aH Wa] 9)):=ai.alloc ai.size _
      have ay:w.heap.size<=g5:=by
       obtain e|e:=E.own
       .exact HI.out.1.2 g5 e
       .exact bH ak.size e
      refine⟨_,_,ap,aA,by go_num,rfl,rfl,⟨?_,?_⟩,?_,?_⟩
      .rw[ab,bJ,bJ,aS,bC,bK,fZ aA];have:[x].map (λt:Im.It=>t.bytes)=[x.bytes]:=rfl;rw[this,eP,fP];unfold lM at I⊢;rw[hX];exact I
      .intro q hq;have:M g5=M q:=hq;cases this;exact ay
      .intro y hy;rw[ab]at hy;obtain hy|hy:=dM.1 hy
       .exact HI.out.2.1 y hy
       .rw[dK.1 hy];exact J
      .refine ak.trans ⟨E.jR.os,E.jR.tape,E.jR.output,E.jR.size,λq hq=>E.jR.block q (aP hq ak.size) (λe=>?_)⟩;have:=HI.out.1.2 q e;omega
    .go_upto_region 7 with fail;rw[<-aa];clear aa;go_wp2_with fail;go_ret2;obtain⟨hx,hX,Y,J,ab⟩:=HX.out;refine⟨?_,HI.out.2.2.trans (Y.mono HI.out.2.2.size)⟩;rw[<-H.out.2.2.1];unfold strs;rw[Zs]
     .rfl
     .intro e;simp only[dF]at e;have:=fF.1 e.2 x (by rw[<-hx];exact List.getElem_mem _);rw[J]at this;cases this
   .have ar:¬(k:Int)<i.kids.length:=by omega
    obtain rfl:k=i.kids.length:=aA
    go_wp2_with fail;go_ret2;refine⟨?_,HI.out.2.2⟩;rw[<-H.out.2.2.1];unfold strs;rw[ZD]
    .have h1:=HI.out.1;rw[iM]at h1;refine⟨ra,rc,?_,?_⟩
     .rw[bC];rfl
     .rw[bC];exact h1
    .simp only[dF];refine⟨H.out.2.2.2,fF.2 (λx hx=>?_)⟩;rw[HI.out.2.1 x (by rw[iM];exact hx)];rfl
end Hm
