import Derived.Test.YtpibpdpedjinhaaGreatDoorP36
set_option maxRecDepth 100000
set_option maxHeartbeats 8000000
set_option linter.all false
open Bool renaming false->aL,true->bB
open Go renaming Addr->gF,Value->aD,World->U,bodyPost_ret->cM,callsIn_wide->km,execOp->bL,results_none->rp
open Go.Obj renaming cells->aG
open Go.Value renaming int->N,ownBlock->eA,pointer->aM,slice->aR
open Go.World renaming cell?_of_block->bN,drewN->pw
open Option renaming none->Z,some->M
open Or renaming inl->cJ,inr->cK
namespace Go.Proofs.YtpibpdpedjinhaaGreatDoor
namespace Hm
open Go.RowKit Go.Joins
open Dv (Ch Fine)
open Fr (F below_drewN)
attribute [local go_sem] Oper.semAt_some
def Le(kb cB nb:Nat)(B:Nat->Prop)(l0:List Ch)(p0:PX)(a9:cB≠kb)(a4:cB≠nb):Qw PQ 115 #[aM (M ⟨cB,0,Z⟩)] PX.encs (λk=>k=kb\/k=nb) (EK kb) (PSt kb cB nb B l0 p0) (PEn kb nb B l0) (PY kb cB nb B l0 p0) (λ_=>True) (λ_=>True):=by
 intro l J Jx W hM bd a1 a3 a6;have HY:Hid _:=a3;have bo:Hid _:=a6;have HS:Hid _:=a1;have cb:=a1.2;have HM:Hid _:=jD hM (jD bd (jD a9 a4));clear a3 a6 a1 hM bd a9 a4;refine km.2 ?_;go_enter (fq Tryz.func115 rfl),Tryz.ntmps115;go_wp2_with fail
 go_loopw [3] (λ_ wr=>∃(ai:List PX)(W0:U)(cs:Array aD)(vo:aD)(nm:AL)(os:List PC),wr.cell? ⟨cB,0,Z⟩=M (aM (M ⟨kb,8,Z⟩))/\Hid (J ai W0/\jO (λk=>k=kb\/k=nb) W0 wr/\EK kb W0 wr/\PS kb nb B l0 (ai.map PX.s) wr cs vo nm os))
  (λ_ wr=>oL kb wr)
 case atStart=>
  obtain⟨⟨cs,h⟩,_⟩:=HS.out;exact⟨[],W,cs,_,_,_,cb,⟨bo.out,jO.refl _ _,EK.refl _ _,h⟩⟩
 case round=>
  clear cb;obtain⟨ai,W0,cs,vo,nm,os,cb,Hr⟩:=hrel;obtain⟨hJ,hc,hE,hP⟩:=Hr.out;have c8:=hP.acS;have c9:=hP.acB;cases os with
  |nil=>
   obtain⟨a,cap,e⟩:=Row.slice hP.chs.order;simp only[bY]at e;subst e;clear hJ hc hE hP;go_wp2_with fail;go_end0;obtain⟨hJ,hc,hE,hP⟩:=Hr.out;exact⟨⟨_,rfl⟩,cJ ⟨ai,W0,trivial,hJ,hc,hE,hP.stop (cJ rfl)⟩⟩
  |cons o os=>
   obtain⟨g,off,cap,e,bs⟩:=Row.pos hP.chs.order aC;have k0:=Row.cell hP.chs.order e 0 (ptr o.blk) aC;subst e;have ac:=sO kb nb 8 nm _ o wr hP.chs.core dQ c8;have ba:=(hP.chs.chans o dQ).obj;have c0:=nT ba;have fk:=aQ hP.obj;have aq:(1:Int)<=(((o::os).length:Nat):Int):=by rw[aU];omega
   have az:(0:Int)<(((o::os).length:Nat):Int):=by rw[aU];omega
   obtain⟨n,hn⟩:∃n,(o::os).length=n:=⟨_,rfl⟩
   rw[hn]at aq az c9 bs;rw[Nat.add_zero]at k0;obtain⟨b,hb⟩:∃b,alive nm o=b:=⟨_,rfl⟩
   rw[hb]at ac;unfold ptr at k0 ac;have aj:Hid _:=λ(_:Unit)=>ac;have Hb:Hid _:=jD hb hn;clear hJ hc hE hP ba ac hb hn;cases b with
   |false=>
    go_upto_region 3 with(go_at_call 104;refine aT (aj.out ()) ?_;rintro e w2 ⟨rfl,m,rfl⟩)
    generalize hV:pw _ _=V;have an:V.cell? ⟨cB,0,Z⟩=M (aM (M ⟨kb,8,Z⟩)):=by rw[<-hV];exact cb
    have a2:V.cell? ⟨kb,9,Z⟩=M (aR (M ⟨g,off,Z⟩) n cap):=by rw[<-hV];exact c9
    have av:∀q,V.frozen? ⟨kb,q,Z⟩=aL:=λq=>by rw[<-hV];exact fk q
    have HV:Hid (Below wr.heap.size wr V):=by rw[<-hV];exact below_drewN (aJ _ _) _
    clear hV cb c9 c8 k0 c0 fk;go_region;generalize hZ:World.drew _=XX;obtain⟨hJ,hc,hE,hP⟩:=Hr.out;obtain⟨hb,hn⟩:=Hb.out;have am:n-1=os.length:=by rw[<-hn,aU];omega
    rw[am]at hZ;have I:=Cut.of hP HV.out hZ;have af:=hP.skip hb I.obj I.jR;have ah:=hP.chs.lF hP.obj aB aB;have aa:=hP.chs.core.jR I.jR (λe=>ah (cJ e.symm)) (λx hx e=>ah (cK (cK ⟨x,hx,cJ e.symm⟩)));have E:=sO kb nb 8 nm _ o XX aa dQ af.acS;rw[hb]at E;unfold ptr at E;have ab:Hid _:=λ(_:Unit)=>E
    have ae:XX.cell? ⟨cB,0,Z⟩=M (aM (M ⟨kb,8,Z⟩)):=by
     rw[<-hZ];exact(bN (aW _ _ _ _ HM.out.2.2.1)).trans an
    have HZ:Hid _:=jD I (jD af ae);have HP:Hid _:=jD hJ (jD hc (jD hE hP));clear hJ hc hE hP hb hn am hZ I af ah aa E an a2 av;go_wp2_with (go_at_call 104;refine aT (ab.out ()) ?_;rintro e w2 ⟨rfl,m2,rfl⟩)
    go_roundw
    case rel=>
     obtain⟨hJ,hc,hE,hP⟩:=HP.out;obtain⟨I,af,ae⟩:=HZ.out;exact⟨ai,W0,_,_,_,os,ae,⟨hJ,(hc.trans I.jR (λk _ e=>cJ e)).trans (.below (below_drewN (aJ _ _) _) jE _) (λ_ _ e=>e),hE.trans (I.ek.trans (EK.same rfl)),af.below (below_drewN (aJ _ _) _)⟩⟩
    case measure=>
     obtain⟨hJ,hc,hE,hP⟩:=HP.out;obtain⟨I,af,ae⟩:=HZ.out;have h1:=(af.below (below_drewN (aJ _ _) m2)).oL;have h2:=hP.oL;rw[h1,h2,aU];omega
   |true=>
    have ag:=λk=>Qa o _ ((Hr.out.2.2.2.chs.chans o dQ).jR (.below (below_drewN (aJ _ _) k) jE _) (λe=>e) (λ_ _ e=>e));unfold Uj at ag;cases hs:Dv.bytes o.ch.l with
    |none=>
     rw[hs]at ag;have ar:Hid _:=ag;clear ag;go_wp2_with (first|(go_at_call 104;refine aT (aj.out ()) ?_;rintro e w2 ⟨rfl,m,rfl⟩)|(go_at_call 116;refine aT (ar.out _) ?_;rintro e w3 ⟨rfl,m3,rfl⟩))
     refine cM (rp rfl _ _ _) rfl ?_;obtain⟨hJ,hc,hE,hP⟩:=Hr.out;have ak:Below wr.heap.size wr (wr.drewN (m+m3)):=below_drewN (aJ _ _) _;exact⟨⟨_,rfl⟩,cJ ⟨ai,W0,trivial,hJ,hc.trans (.below ak jE _) (λ_ _ e=>e),hE.trans (EK.same rfl),(hP.below ak).stop (cK ⟨o,os,rfl,Hb.out.1,hs⟩)⟩⟩
    |some s=>
     rw[hs]at ag;have ar:Hid _:=ag;clear ag;go_upto_region 3 with(first|(go_at_call 104;refine aT (aj.out ()) ?_;rintro e w2 ⟨rfl,m,rfl⟩)|(go_at_call 116;refine aT (ar.out _) ?_;rintro e w3 ⟨rfl,m3,rfl⟩))
     have ak:Below wr.heap.size wr (wr.drewN (m+m3)):=below_drewN (aJ _ _) _;revert ak;generalize hV:pw _ _=V;intro ak;have an:V.cell? ⟨cB,0,Z⟩=M (aM (M ⟨kb,8,Z⟩)):=by rw[<-hV];exact cb
     have a2:V.cell? ⟨kb,9,Z⟩=M (aR (M ⟨g,off,Z⟩) n cap):=by rw[<-hV];exact c9
     have av:∀q,V.frozen? ⟨kb,q,Z⟩=aL:=λq=>by rw[<-hV];exact fk q
     have HV:Hid (Below wr.heap.size wr V):=ak;clear hV cb c9 c8 k0 c0 fk ak;go_region;generalize hq:(if cap=1 then M ({ block:=g,off:=off }:gF)else M { block:=g,off:=off+1 })=q;generalize hZ:World.drew _=XX;obtain⟨hJ,hc,hE,hP⟩:=Hr.out;obtain⟨hb,hn⟩:=Hb.out;have am:n-1=os.length:=by rw[<-hn,aU];omega
     rw[am]at hZ;have I:=Cut.of hP HV.out hZ;rw[<-hq]at I;have ah:=hP.chs.lF hP.obj aB aB;have aa:=hP.chs.core.jR I.jR (λe=>ah (cJ e.symm)) (λx hx e=>ah (cK (cK ⟨x,hx,cJ e.symm⟩)))
     have h8:XX.cell? ⟨kb,8,Z⟩=M (.map (M nb)):=by
      rw[aI I.obj,aV];simpa using hP.named
     have E:=sO kb nb 8 nm _ o XX aa dQ h8;rw[hb]at E;unfold ptr at E;have ab:Hid _:=λ(_:Unit)=>E
     have ae:XX.cell? ⟨cB,0,Z⟩=M (aM (M ⟨kb,8,Z⟩)):=by
      rw[<-hZ];exact(bN (aW _ _ _ _ HM.out.2.2.1)).trans an
     have c0:XX.cell? ⟨o.blk,0,Z⟩=M (N .u32 o.ch.name):=by rw[aI (aa.objs o dQ)];rfl
     have HZ:Hid _:=jD I aa;have HP:Hid _:=jD hJ (jD hc (jD hE (jD hP (jD hb hs))));clear hJ hc hE hP hb hn am hZ I ah aa E an a2 av hs hq;go_upto_region 5 with(go_at_call 104;refine aT (ab.out ()) ?_;rintro e w2 ⟨rfl,m2,rfl⟩)
     generalize hY:pw _ _=Y;have bg:Below XX.heap.size XX Y:=by rw[<-hY];exact below_drewN (aJ _ _) _
     have au:Y.cell? ⟨cB,0,Z⟩=M (aM (M ⟨kb,8,Z⟩)):=by rw[<-hY];exact ae
     have bm:Y.cell? ⟨kb,8,Z⟩=M (.map (M nb)):=by rw[<-hY];exact h8
     have bu:Y.cell? ⟨o.blk,0,Z⟩=M (N .u32 o.ch.name):=by rw[<-hY];exact c0
     have a8:lQ Y.drew nb .u32 nm:=by rw[<-hY];exact HZ.out.2.named.of_block rfl
     have br:Hid _:=a8;have bq:Hid _:=bg;clear hY ae h8 c0 a8 bg;go_region_law ((refine sF (by rfl) (.tmp 39) (.tmp 43) 130 22 (by rfl) 197 _ (uq Tryz.underlying130) (uq Tryz.underlying22) nb nm o.ch.name (by rfl) (by rfl) br.out ?_;intro w7 a5 ax bx))
     all_goals
      obtain⟨hJ,hc,hE,hP,hb,hs⟩:=HP.out;obtain⟨q1,q2,q3,q4,q5⟩:=hP.goes hb hs HZ.out.1 bq.out a5 ax;have bb:=(bN ((jO.grown ax).block cB (fG Y _ au) (λe=>HM.out.2.2.2 (by simpa using e.symm)))).trans au;have aw:=PE o s w7 q4 hs;unfold Uj at aw;have bw:Hid _:=λ(_:Unit)=>aw;have H7:Hid _:=jD q1 (jD (hc.trans q2 (λ_ _ e=>e)) (jD (hE.trans q3) (jD bb hJ)));clear hJ hc hE hP hb hs q1 q2 q3 q4 q5 bb aw a5 ax bx au bm bu;go_upto_region 6 with fail;refine(wpIn_wide (n:=2)).1 ?_;gi_wp2;refine⟨trivial,(km.2 (bw.out ())).mono ?_⟩;rintro e w8 ⟨rfl,ap⟩;obtain⟨q1,q2,q3,q4,hJ⟩:=H7.out;obtain⟨fn,tmps,assign,body,bz,hR⟩:=HY.out ai ⟨s,_,_,os⟩ W0 w8 hJ (q2.trans (.below ap jE _) (λ_ _ e=>e)) (q3.trans (EK.same (ap.block kb (jG q1.obj)))) ⟨⟨_,by rw[uH,bJ];exact q1.below ap⟩,(ap.cell (p:=⟨cB,0,Z⟩) (fG w7 _ q4)).trans q4⟩;simp only[PX.encs]at bz;have HR:Hid _:=hR;clear hR q1 q2 q3 q4 hJ;gi_wp2;refine RoundIn.mono HR.out ?_;rintro e W3 (⟨rfl,ao,bl,a7,bv⟩|⟨rfl,bh⟩)
      .have H3:Hid _:=jD ao a7;clear ao bl a7 bv;gi_wp2;go_wp2_with fail;go_roundw
       case rel=>
        obtain⟨ao,⟨⟨bk,ay⟩,bj⟩⟩:=H3.out;exact⟨_,W3,bk,_,_,_,bj,⟨ao,jO.refl _ _,EK.refl _ _,ay⟩⟩
       case measure=>
        obtain⟨ao,⟨⟨bk,ay⟩,bj⟩⟩:=H3.out;have h1:=ay.oL;have h2:=Hr.out.2.2.2.oL;rw[uH]at h1;rw[h1,h2,aU];exact Nat.lt_succ_self _
      .gi_wp2;go_wp2_with fail;refine cM (rp rfl _ _ _) rfl ?_;exact⟨⟨_,rfl⟩,cK ⟨_,W3,trivial,bh,jO.refl _ _,EK.refl _ _⟩⟩
end Hm
namespace Hm
open Go.RowKit Go.Joins Go.Shelf
open Dv (X2 Cf Ba)
section
variable {a:Act}{d k:Nat}{v:aD}
noncomputable def rE:Array Oper:=match Tryz.f39.body with
 |some (.seq _ (.seq _ (.seq _ (.seq _ (.seq _ (.seq _ (.block _ (.rangeFunc _ _ _ (.block _ (.seq _ (.block _ (.rangeFunc _ _ _ (.block _ (.seq _ (.cond _ (.seq _ (.region _ ops _)) _)))))))))))))))=>ops
 |_=>#[]
theorem ab5:∀q0 q1 q2 q3 q4 q5 q6 q7 q8 q9 q10:Bool,Region.ready .any rE #[q0,q1,q2,q3,q4,q5,q6,q7,q8,q9,q10]=[]->q10=bB:=by decide+kernel
def adM(q0 q1 q2 q3 q4 q5 q6 q7 q8 q9 q10:Bool)(i:Nat):Bool:=decide (i<11/\(i=2->q1=bB)/\(i=3->q2=bB)/\(i=4->q3=bB/\q4=aL)/\(i=6->q5=bB/\q6=aL)/\(i=7->q4=bB/\q6=bB/\q7=aL)/\(i=8->q0=bB)/\(i=9->q8=bB)/\(i=10->q9=bB/\q7=bB/\q10=aL))
theorem adu:∀q0 q1 q2 q3 q4 q5 q6 q7 q8 q9 q10:Bool,(Region.ready .any rE #[q0,q1,q2,q3,q4,q5,q6,q7,q8,q9,q10]).all (adM q0 q1 q2 q3 q4 q5 q6 q7 q8 q9 q10)=bB:=by decide+kernel
theorem jH{u:aD}(q:d≠k)(h:a.tmps[k]? =M u):(a.put (M d) v).tmps[k]? =M u:=by rw[JV,Zs q];exact h
theorem Gw(hd:d<a.tmps.size):(a.put (M d) v).tmps[d]? =M v:=by rw[JV,ZD rfl,ZD hd]
theorem pK:(a.put (M d) v).tmps.size=a.tmps.size:=by unfold Act.put;simp
def bt(e d t:Nat)(ta:Option gF)(tn tc p:Nat):List aD:=[N .i64 e,N .i64 d,N .i64 t,.slice ta tn tc,N .i64 p]
structure RB(W:U)(b2 b10 kb n:Nat)(vw:aD)(xs:List aD)(cs:Array aD)(e d t:Nat)(ta:Option gF)(tn tc p:Nat):Prop where
 h2:W.heap[b2]? =M (aG #[ptr kb] 93 (0,0))
 hk:W.heap[kb]? =M (aG cs 137 (0,0))
 hw:cs[10]? =M vw
 h10:W.heap[b10]? =M (aG (bt e d t ta tn tc p).toArray 150 (0,0))
 row:Row W 150 5 vw n xs
 ne:vw.ownBlock≠M b10
 len:n<4294967296
structure RI(W:U)(b2 b10 kb n:Nat)(vw:aD)(xs:List aD)(e d t:Nat)(ta:Option gF)(tn tc p:Nat)(q0 q1 q2 q3 q4 q5 q6 q7 q8 q9 q10:Bool)(a:Act)(w:U):Prop where
 sz:a.tmps.size=93
 t2:a.tmps[2]? =M (ptr b2)
 t10:a.tmps[10]? =M (ptr b10)
 s0:q0=bB->a.tmps[83]? =M (ptr kb)
 s1:q1=bB->a.tmps[84]? =M (ptr kb)
 s2:q2=bB->a.tmps[85]? =M (ptr kb)
 s3:q3=bB->a.tmps[86]? =M (aM (M ⟨kb,10,Z⟩))
 s4:q4=bB->a.tmps[87]? =M (vw)
 s5:q5=bB->a.tmps[88]? =M (.agg (bt e d t ta tn tc p).toArray)
 s6:q6=bB->a.tmps[89]? =M (aR (M ⟨W.heap.size,0,Z⟩) 1 1)
 s8:q8=bB->a.tmps[91]? =M (ptr kb)
 s9:q9=bB->a.tmps[92]? =M (aM (M ⟨kb,10,Z⟩))
 w6:q6=aL->w=W
 w7:q6=bB->q7=aL->w=W.alloc (aG (bt e d t ta tn tc p).toArray 150)
 w10:q7=bB->∃g off cap w1,Row w1 150 5 (aR (M ⟨g,off,Z⟩) (n+1) cap) (n+1) (xs++bt e d t ta tn tc p)/\Grew vw g (W.alloc (aG (bt e d t ta tn tc p).toArray 150)) w1/\a.tmps[90]? =M (aR (M ⟨g,off,Z⟩) (n+1) cap)/\w=if q10=bB then w1.setCell ⟨kb,10,Z⟩ (aR (M ⟨g,off,Z⟩) (n+1) cap)else w1
 c7:q7=bB->q4=bB/\q6=bB
 c10:q10=bB->q7=bB
section
variable {W:U}{b2 b10 kb n:Nat}{vw:aD}{xs:List aD}{cs:Array aD}{e d t:Nat}{ta:Option gF}{tn tc p:Nat}{q0 q1 q2 q3 q4 q5 q6 q7 q8 q9 q10:Bool}{a:Act}{w:U}
theorem RI.kept(h:RI W b2 b10 kb n vw xs e d t ta tn tc p q0 q1 q2 q3 q4 q5 q6 q7 q8 q9 q10 a w){ob:Obj}(hk:W.heap[k]? =M ob)(Y:k≠kb)(h2:vw.ownBlock≠M k):w.heap[k]? =M ob:=by
 have J:=(jG hk)
 have q:∀o,(W.alloc o).heap[k]? =M ob:=λo=>(aZ _ _ _ J).trans hk;cases E:q6 with
 |false=>rw[h.w6 E];exact hk
 |true=>
  cases I:q7 with
  |false=>rw[h.w7 E I];exact q _
  |true=>
   obtain⟨g,off,cap,w1,hr,hg,_,hw⟩:=h.w10 I;have h3:=(hg.jR.block k (dY.1 (q _)).1 h2).trans (q _);rw[hw];split
   .exact(aW _ _ _ _ Y).trans h3
   .exact h3
theorem RB.ne2(q:RB W b2 b10 kb n vw xs cs e d t ta tn tc p):b2≠kb/\vw.ownBlock≠M b2/\b10≠kb/\vw.ownBlock≠M kb:=by
 refine⟨λe=>?_,jJ q.row q.h2 aB,λe=>?_,jJ q.row q.hk aB⟩
 .have:=q.h2;rw[e,q.hk]at this;simp at this
 .have:=q.h10;rw[e,q.hk]at this;simp at this
theorem WA{l m:Nat}{Q:Exit->Act->U->Prop}(hB:RB W b2 b10 kb n vw xs cs e d t ta tn tc p)(an:a.tmps.size=93)(ar:a.tmps[2]? =M (ptr b2))(aj:a.tmps[10]? =M (ptr b10))(hQ:∀a' g off cap w1,Row w1 150 5 (aR (M ⟨g,off,Z⟩) (n+1) cap) (n+1) (xs++bt e d t ta tn tc p)->Grew vw g (W.alloc (aG (bt e d t ta tn tc p).toArray 150)) w1->Q .normal a' (w1.setCell ⟨kb,10,Z⟩ (aR (M ⟨g,off,Z⟩) (n+1) cap))):wpAnyIn (Fence.wide.inRound l) m PQ .any rE Q 11 (Array.replicate 11 aL) a W:=by
 obtain⟨i0,hi,ap,au,aq⟩:=info_parts Df;obtain⟨ae,af,ac⟩:=hB.row.slice;obtain⟨aw,ao,ak,ax⟩:=hB.ne2;refine vT (λL a w=>∃q0 q1 q2 q3 q4 q5 q6 q7 q8 q9 q10,L=#[q0,q1,q2,q3,q4,q5,q6,q7,q8,q9,q10]/\RI W b2 b10 kb n vw xs e d t ta tn tc p q0 q1 q2 q3 q4 q5 q6 q7 q8 q9 q10 a w) ?_ ?_ 11 _ a W aB ⟨aL,aL,aL,aL,aL,aL,aL,aL,aL,aL,aL,rfl,?_⟩
 .rintro L a w ⟨q0,q1,q2,q3,q4,q5,q6,q7,q8,q9,q10,rfl,h⟩ hr;have h10:=ab5 q0 q1 q2 q3 q4 q5 q6 q7 q8 q9 q10 hr;obtain⟨g,off,cap,w1,h1,h2,h3,h4⟩:=h.w10 (h.c10 h10);rw[h4,ZD h10];exact hQ _ _ _ _ _ h1 h2
 .rintro L a w i ⟨q0,q1,q2,q3,q4,q5,q6,q7,q8,q9,q10,rfl,h⟩ hr;have hn:=Z2 (fF.1 (adu q0 q1 q2 q3 q4 q5 q6 q7 q8 q9 q10) i hr);have h2:=h.kept hB.h2 aw ao;have h10:=h.kept hB.h10 ak hB.ne;obtain⟨ai,d2,d3,d4,d6,d7,d8,d9,aa⟩:=hn
  match i,ai with
  |0,_=>
   obtain⟨o,ho,E,q,Y⟩:∃o,rE[0]? =M o/\o.op=.load 93 (.tmp 2)/\o.dst=M 83/\o.guard=Z:=⟨_,rfl,rfl,rfl,rfl⟩
   have I:∀c,o.op≠.defer c:=by rw[E];intro c J;cases J
   have J:=nT h2;unfold ptr at J
   refine lV (v:=aM (M ⟨kb,0,Z⟩)) (w':=w) ho Y I (by
    unfold bL;simp only[E,kC h.t2,ptr];simp[go_sem,J]) ?_
   rw[q];exact⟨bB,q1,q2,q3,q4,q5,q6,q7,q8,q9,q10,rfl,⟨by rw[pK];exact h.sz,jH aB h.t2,jH aB h.t10,λ_=>Gw (d:=83) (by rw[h.sz];decide),λe=>jH aB (h.s1 e),λe=>jH aB (h.s2 e),λe=>jH aB (h.s3 e),λe=>jH aB (h.s4 e),λe=>jH aB (h.s5 e),λe=>jH aB (h.s6 e),λe=>jH aB (h.s8 e),λe=>jH aB (h.s9 e),h.w6,h.w7,λe=>(by obtain⟨g,off,cap,w1,r1,r2,r3,r4⟩:=h.w10 e;exact⟨g,off,cap,w1,r1,r2,jH aB r3,r4⟩),h.c7,h.c10⟩⟩
  |1,_=>
   obtain⟨o,ho,E,q,Y⟩:∃o,rE[1]? =M o/\o.op=.load 93 (.tmp 2)/\o.dst=M 84/\o.guard=Z:=⟨_,rfl,rfl,rfl,rfl⟩
   have I:∀c,o.op≠.defer c:=by rw[E];intro c J;cases J
   have J:=nT h2;unfold ptr at J
   refine lV (v:=aM (M ⟨kb,0,Z⟩)) (w':=w) ho Y I (by
    unfold bL;simp only[E,kC h.t2,ptr];simp[go_sem,J]) ?_
   rw[q];exact⟨q0,bB,q2,q3,q4,q5,q6,q7,q8,q9,q10,rfl,⟨by rw[pK];exact h.sz,jH aB h.t2,jH aB h.t10,λe=>jH aB (h.s0 e),λ_=>Gw (d:=84) (by rw[h.sz];decide),λe=>jH aB (h.s2 e),λe=>jH aB (h.s3 e),λe=>jH aB (h.s4 e),λe=>jH aB (h.s5 e),λe=>jH aB (h.s6 e),λe=>jH aB (h.s8 e),λe=>jH aB (h.s9 e),h.w6,h.w7,λe=>(by obtain⟨g,off,cap,w1,r1,r2,r3,r4⟩:=h.w10 e;exact⟨g,off,cap,w1,r1,r2,jH aB r3,r4⟩),h.c7,h.c10⟩⟩
  |2,_=>
   obtain⟨o,ho,E,q,Y⟩:∃o,rE[2]? =M o/\o.op=.nilCheck (.tmp 84)/\o.dst=M 85/\o.guard=Z:=⟨_,rfl,rfl,rfl,rfl⟩
   have I:∀c,o.op≠.defer c:=by rw[E];intro c J;cases J
   refine lV (v:=aM (M ⟨kb,0,Z⟩)) (w':=w) ho Y I (by
    unfold bL;simp only[E,kC (h.s1 (d2 rfl)),ptr];simp[go_sem]) ?_
   rw[q];exact⟨q0,q1,bB,q3,q4,q5,q6,q7,q8,q9,q10,rfl,⟨by rw[pK];exact h.sz,jH aB h.t2,jH aB h.t10,λe=>jH aB (h.s0 e),λe=>jH aB (h.s1 e),λ_=>Gw (d:=85) (by rw[h.sz];decide),λe=>jH aB (h.s3 e),λe=>jH aB (h.s4 e),λe=>jH aB (h.s5 e),λe=>jH aB (h.s6 e),λe=>jH aB (h.s8 e),λe=>jH aB (h.s9 e),h.w6,h.w7,λe=>(by obtain⟨g,off,cap,w1,r1,r2,r3,r4⟩:=h.w10 e;exact⟨g,off,cap,w1,r1,r2,jH aB r3,r4⟩),h.c7,h.c10⟩⟩
  |3,_=>
   obtain⟨o,ho,E,q,Y⟩:∃o,rE[3]? =M o/\o.op=.fieldAddr 137 (.tmp 85) 3/\o.dst=M 86/\o.guard=Z:=⟨_,rfl,rfl,rfl,rfl⟩
   have I:∀c,o.op≠.defer c:=by rw[E];intro c J;cases J
   refine lV (v:=aM (M ⟨kb,10,Z⟩)) (w':=w) ho Y I (by
    unfold bL;simp only[E,kC (h.s2 (d3 rfl)),ptr];simp[go_sem]) ?_
   rw[q];exact⟨q0,q1,q2,bB,q4,q5,q6,q7,q8,q9,q10,rfl,⟨by rw[pK];exact h.sz,jH aB h.t2,jH aB h.t10,λe=>jH aB (h.s0 e),λe=>jH aB (h.s1 e),λe=>jH aB (h.s2 e),λ_=>Gw (d:=86) (by rw[h.sz];decide),λe=>jH aB (h.s4 e),λe=>jH aB (h.s5 e),λe=>jH aB (h.s6 e),λe=>jH aB (h.s8 e),λe=>jH aB (h.s9 e),h.w6,h.w7,λe=>(by obtain⟨g,off,cap,w1,r1,r2,r3,r4⟩:=h.w10 e;exact⟨g,off,cap,w1,r1,r2,jH aB r3,r4⟩),h.c7,h.c10⟩⟩
  |4,_=>
   obtain⟨o,ho,E,q,Y⟩:∃o,rE[4]? =M o/\o.op=.load 135 (.tmp 86)/\o.dst=M 87/\o.guard=Z:=⟨_,rfl,rfl,rfl,rfl⟩
   have I:∀c,o.op≠.defer c:=by rw[E];intro c J;cases J
   have h7:q7=aL:=by
    cases h7:q7 with
    |false=>rfl
    |true=>have:=(h.c7 h7).1;rw[(d4 rfl).2]at this;cases this
   have ab:w.heap[kb]? =M (aG cs 137 (0,0)):=by
    cases h6:q6 with
    |false=>rw[h.w6 h6];exact hB.hk
    |true=>rw[h.w7 h6 h7];exact(aZ _ _ _ (jG hB.hk)).trans hB.hk
   have J:w.cell? ⟨kb,10,Z⟩=M (.slice ae n af):=by rw[aI ab,hB.hw,ac]
   refine lV (v:=.slice ae n af) (w':=w) ho Y I (by
    unfold bL;simp only[E,kC (h.s3 (d4 rfl).1)];simp[go_sem,J]) ?_
   rw[q];exact⟨q0,q1,q2,q3,bB,q5,q6,q7,q8,q9,q10,rfl,⟨by rw[pK];exact h.sz,jH aB h.t2,jH aB h.t10,λe=>jH aB (h.s0 e),λe=>jH aB (h.s1 e),λe=>jH aB (h.s2 e),λe=>jH aB (h.s3 e),λ_=>(by rw[ac];exact Gw (d:=87) (by rw[h.sz];decide)),λe=>jH aB (h.s5 e),λe=>jH aB (h.s6 e),λe=>jH aB (h.s8 e),λe=>jH aB (h.s9 e),h.w6,h.w7,λe=>(by obtain⟨g,off,cap,w1,r1,r2,r3,r4⟩:=h.w10 e;exact⟨g,off,cap,w1,r1,r2,jH aB r3,r4⟩),λe=>⟨rfl,(h.c7 e).2⟩,h.c10⟩⟩
  |5,_=>
   obtain⟨o,ho,E,q,Y⟩:∃o,rE[5]? =M o/\o.op=.load 150 (.tmp 10)/\o.dst=M 88/\o.guard=Z:=⟨_,rfl,rfl,rfl,rfl⟩
   have I:∀c,o.op≠.defer c:=by rw[E];intro c J;cases J
   obtain⟨c0,c1,c2,c3,c4,_⟩:=cells5 h10
   refine lV (v:=.agg #[N .i64 e,N .i64 d,N .i64 t,.slice ta tn tc,N .i64 p]) (w':=w) ho Y I (by
    unfold bL;simp only[E,kC h.t10,ptr];simp[go_sem,c0,c1,c2,c3,c4]) ?_
   rw[q];exact⟨q0,q1,q2,q3,q4,bB,q6,q7,q8,q9,q10,rfl,⟨by rw[pK];exact h.sz,jH aB h.t2,jH aB h.t10,λe=>jH aB (h.s0 e),λe=>jH aB (h.s1 e),λe=>jH aB (h.s2 e),λe=>jH aB (h.s3 e),λe=>jH aB (h.s4 e),λ_=>Gw (d:=88) (by rw[h.sz];decide),λe=>jH aB (h.s6 e),λe=>jH aB (h.s8 e),λe=>jH aB (h.s9 e),h.w6,h.w7,λe=>(by obtain⟨g,off,cap,w1,r1,r2,r3,r4⟩:=h.w10 e;exact⟨g,off,cap,w1,r1,r2,jH aB r3,r4⟩),h.c7,h.c10⟩⟩
  |6,_=>
   obtain⟨o,ho,E,q,Y⟩:∃o,rE[6]? =M o/\o.op=.buildSlice 135 1 #[(0,.tmp 88)]/\o.dst=M 89/\o.guard=Z:=⟨_,rfl,rfl,rfl,rfl⟩
   have I:∀c,o.op≠.defer c:=by rw[E];intro c J;cases J
   have h7:q7=aL:=by
    cases h7:q7 with
    |false=>rfl
    |true=>have:=(h.c7 h7).2;rw[(d6 rfl).2]at this;cases this
   have hw:=h.w6 (d6 rfl).2;subst hw;have ah:=h.s5 (d6 rfl).1;unfold bt at ah
   refine lV (v:=aR (M ⟨w.heap.size,0,Z⟩) 1 1) (w':=w.alloc (aG (bt e d t ta tn tc p).toArray 150)) ho Y I (by
    unfold bL;simp only[E];simp[go_sem,ah,bt]) ?_
   rw[q];exact⟨q0,q1,q2,q3,q4,q5,bB,q7,q8,q9,q10,rfl,⟨by rw[pK];exact h.sz,jH aB h.t2,jH aB h.t10,λe=>jH aB (h.s0 e),λe=>jH aB (h.s1 e),λe=>jH aB (h.s2 e),λe=>jH aB (h.s3 e),λe=>jH aB (h.s4 e),λe=>jH aB (h.s5 e),λ_=>Gw (d:=89) (by rw[h.sz];decide),λe=>jH aB (h.s8 e),λe=>jH aB (h.s9 e),λe=>(by cases e),λ_ _=>rfl,λe=>(by rw[h7]at e;cases e),λe=>(by rw[h7]at e;cases e),h.c10⟩⟩
  |7,_=>
   obtain⟨o,ho,E,q,Y⟩:∃o,rE[7]? =M o/\o.op=.call { callee:=.builtin .append,args:=#[.tmp 87,.tmp 89],argTypes:=#[135,135] }/\o.dst=M 90/\o.guard=Z:=⟨_,rfl,rfl,rfl,rfl⟩
   have I:∀c,o.op≠.defer c:=by rw[E];intro c J;cases J
   have hw:=h.w7 (d7 rfl).2.1 (d7 rfl).2.2
   have ag:q10=aL:=by
    cases h10:q10 with
    |false=>rfl
    |true=>have:=h.c10 h10;rw[(d7 rfl).2.2]at this;cases this
   subst hw;obtain⟨v',w1,hr,r1,⟨g,off,cap,rfl⟩,r3⟩:=(hB.row.below ((aJ _ W).alloc jE (aG (bt e d t ta tn tc p).toArray 150))).append (P:=PQ) 135 o.type i0 _ 56 (uq Tryz.underlying135) hi ap au aq (by rfl) aB ⟨W.heap.size,0,Z⟩ 1 1 (bt e d t ta tn tc p) aB (by rfl) (by intro j u hj;unfold bt at hj⊢;match j,hj with|0,hj=>(simp at hj;subst hj;simp[Addr.add])|1,hj=>(simp at hj;subst hj;simp[Addr.add])|2,hj=>(simp at hj;subst hj;simp[Addr.add])|3,hj=>(simp at hj;subst hj;simp[Addr.add])|4,hj=>(simp at hj;subst hj;simp[Addr.add])) (by intro u hu;unfold bt at hu;simp at hu;rcases hu with rfl|rfl|rfl|rfl|rfl<;>rfl) (by have:=hB.len;unfold maxLen;omega) (by have:=hB.len;omega)
   have av:Grew vw g (W.alloc (aG (bt e d t ta tn tc p).toArray 150)) w1:=by
    obtain⟨e1,e2,e3⟩|⟨e1,e2,e3⟩:=r3
    .have am:vw.ownBlock=M g:=e1.symm;exact cJ ⟨am,by rw[<-am];exact e2,e3⟩
    .exact cK ⟨by simpa[eA]using e1,e2,e3⟩
   refine lV (v:=aR (M ⟨g,off,Z⟩) (n+1) cap) (w':=w1) ho Y I (by
    unfold bL;simp only[E];simp[resolve,invoke,builtin,kC (h.s4 (d7 rfl).1),kC (h.s6 (d7 rfl).2.1),hr,Result.andThen]) ?_
   rw[q];exact⟨q0,q1,q2,q3,q4,q5,q6,bB,q8,q9,q10,rfl,⟨by rw[pK];exact h.sz,jH aB h.t2,jH aB h.t10,λe=>jH aB (h.s0 e),λe=>jH aB (h.s1 e),λe=>jH aB (h.s2 e),λe=>jH aB (h.s3 e),λe=>jH aB (h.s4 e),λe=>jH aB (h.s5 e),λe=>jH aB (h.s6 e),λe=>jH aB (h.s8 e),λe=>jH aB (h.s9 e),λe=>(by rw[(d7 rfl).2.1]at e;cases e),λ_ e=>(by cases e),λ_=>⟨g,off,cap,w1,r1,av,Gw (d:=90) (by rw[h.sz];decide),by rw[Zs (by rw[ag];simp)]⟩,λ_=>⟨(d7 rfl).1,(d7 rfl).2.1⟩,λ_=>rfl⟩⟩
  |8,_=>
   obtain⟨o,ho,E,q,Y⟩:∃o,rE[8]? =M o/\o.op=.nilCheck (.tmp 83)/\o.dst=M 91/\o.guard=Z:=⟨_,rfl,rfl,rfl,rfl⟩
   have I:∀c,o.op≠.defer c:=by rw[E];intro c J;cases J
   refine lV (v:=aM (M ⟨kb,0,Z⟩)) (w':=w) ho Y I (by
    unfold bL;simp only[E,kC (h.s0 (d8 rfl)),ptr];simp[go_sem]) ?_
   rw[q];exact⟨q0,q1,q2,q3,q4,q5,q6,q7,bB,q9,q10,rfl,⟨by rw[pK];exact h.sz,jH aB h.t2,jH aB h.t10,λe=>jH aB (h.s0 e),λe=>jH aB (h.s1 e),λe=>jH aB (h.s2 e),λe=>jH aB (h.s3 e),λe=>jH aB (h.s4 e),λe=>jH aB (h.s5 e),λe=>jH aB (h.s6 e),λ_=>Gw (d:=91) (by rw[h.sz];decide),λe=>jH aB (h.s9 e),h.w6,h.w7,λe=>(by obtain⟨g,off,cap,w1,r1,r2,r3,r4⟩:=h.w10 e;exact⟨g,off,cap,w1,r1,r2,jH aB r3,r4⟩),h.c7,h.c10⟩⟩
  |9,_=>
   obtain⟨o,ho,E,q,Y⟩:∃o,rE[9]? =M o/\o.op=.fieldAddr 137 (.tmp 91) 3/\o.dst=M 92/\o.guard=Z:=⟨_,rfl,rfl,rfl,rfl⟩
   have I:∀c,o.op≠.defer c:=by rw[E];intro c J;cases J
   refine lV (v:=aM (M ⟨kb,10,Z⟩)) (w':=w) ho Y I (by
    unfold bL;simp only[E,kC (h.s8 (d9 rfl)),ptr];simp[go_sem]) ?_
   rw[q];exact⟨q0,q1,q2,q3,q4,q5,q6,q7,q8,bB,q10,rfl,⟨by rw[pK];exact h.sz,jH aB h.t2,jH aB h.t10,λe=>jH aB (h.s0 e),λe=>jH aB (h.s1 e),λe=>jH aB (h.s2 e),λe=>jH aB (h.s3 e),λe=>jH aB (h.s4 e),λe=>jH aB (h.s5 e),λe=>jH aB (h.s6 e),λe=>jH aB (h.s8 e),λ_=>Gw (d:=92) (by rw[h.sz];decide),h.w6,h.w7,λe=>(by obtain⟨g,off,cap,w1,r1,r2,r3,r4⟩:=h.w10 e;exact⟨g,off,cap,w1,r1,r2,jH aB r3,r4⟩),h.c7,h.c10⟩⟩
  |10,_=>
   obtain⟨o,ho,E,q,Y⟩:∃o,rE[10]? =M o/\o.op=.store 135 (.tmp 92) (.tmp 90)/\o.dst=Z/\o.guard=Z:=⟨_,rfl,rfl,rfl,rfl⟩
   have I:∀c,o.op≠.defer c:=by rw[E];intro c J;cases J
   obtain⟨g,off,cap,w1,r1,r2,r3,r4⟩:=h.w10 (aa rfl).2.1;rw[Zs (by rw[(aa rfl).2.2];simp)]at r4;subst r4;have ab:=r2.keep (hB.row.below ((aJ _ W).alloc jE _)) ((aZ _ _ _ (jG hB.hk)).trans hB.hk) aB;have J:w.cell? ⟨kb,10,Z⟩=M (.slice ae n af):=by rw[aI ab,hB.hw,ac]
   have hz:=aQ ab 10
   refine Nc (w':=w.setCell ⟨kb,10,Z⟩ (aR (M ⟨g,off,Z⟩) (n+1) cap)) ho Y I (by
    unfold bL;simp only[E,kC (h.s9 (aa rfl).1),kC r3];simp[go_sem,stored,J,hz]) ?_
   rw[q];exact⟨q0,q1,q2,q3,q4,q5,q6,q7,q8,q9,bB,rfl,⟨h.sz,h.t2,h.t10,h.s0,h.s1,h.s2,h.s3,h.s4,h.s5,h.s6,h.s8,h.s9,λe=>(by have:=(h.c7 (aa rfl).2.1).2;rw[this]at e;cases e),λ_ e=>(by rw[(aa rfl).2.1]at e;cases e),λ_=>⟨g,off,cap,w,r1,r2,r3,by rw[ZD rfl]⟩,h.c7,λ_=>(aa rfl).2.1⟩⟩
 .exact⟨an,ar,aj,λe=>(by cases e),λe=>(by cases e),λe=>(by cases e),λe=>(by cases e),λe=>(by cases e),λe=>(by cases e),λe=>(by cases e),λe=>(by cases e),λe=>(by cases e),λ_=>rfl,λe=>(by cases e),λe=>(by cases e),λe=>(by cases e),λe=>(by cases e)⟩
end
end
open Fr (below_drewN)
open Dv (X2 Cf Ba Ch)
section
variable {kb n nb:Nat}{W1 W W' w:U}{cs1 cs:Array aD}{vw1 vw2 vo v vw v9:aD}{ws1 ws2 ws:List PW}{bs:List Ba}{XS:Nat->Prop}{pre:List (List UInt8)}{os:List PC}
structure UI(kb n:Nat)(W1:U)(cs1:Array aD)(vw1:aD)(ws1:List PW)(bs:List Ba)(W:U)(vw2:aD)(ws2:List PW):Prop where
 obj:W.heap[kb]? =M (aG (cs1.setIfInBounds 10 vw2) 137 (0,0))
 row:Row W 150 5 vw2 (ws1++ws2).length ((ws1++ws2).flatMap lS)
 txs:∀p,p∈ws1++ws2->kX W p.2 p.1.txs
 fst:ws2.map Prod.fst=xK n bs
 own:∀g,vw2.ownBlock=M g->vw1.ownBlock=M g\/W1.heap.size<=g
 jR:jO (λk=>k=kb\/vw1.ownBlock=M k) W1 W
 new:kH W1.heap.size W.heap.size (ws2.map Prod.snd)
theorem UI.nS(h:UI kb n W1 cs1 vw1 ws1 bs W vw2 ws2)(q:jO XS W W')(I:pI XS W)(E:∀k,k<W1.heap.size->¬XS k):UI kb n W1 cs1 vw1 ws1 bs W' vw2 ws2:=
 ⟨(q.block _ (jG h.obj) (I _ _ _ _ h.obj)).trans h.obj,vG h.row q I,λp hp=>(h.txs p hp).jR q I.str,h.fst,h.own,h.jR.trans q (λk hk e=>Xs e (E k hk)),h.new.mono jE q.size⟩
theorem rG(cs:Array aD)(i:Nat)(u v:aD):(cs.setIfInBounds i u).setIfInBounds i v=cs.setIfInBounds i v:=aC
theorem PS.aeU{B:Nat->Prop}{E:List Ch}{nm:AL}(h:PS kb nb B E pre W cs vo nm os)(q:W'.heap[kb]? =M (aG (cs.setIfInBounds 10 v) 137 (0,0)))(J:jO XS W W')(I:∀k,Own nb vo os k->¬XS k):PS kb nb B E pre W' (cs.setIfInBounds 10 v) vo nm os:=
 ⟨q,by rw[aV];simpa using h.named,by rw[aV];simpa using h.order,h.chs.jR J I,h.len,h.pull,h.own⟩
theorem Chs.UC{nm:AL}(h:Chs w nb vo nm os){m:Nat}{xs:List aD}(E:Row w 150 5 v m xs){k:Nat}(hk:v.ownBlock=M k):¬Own nb vo os k:=by obtain⟨q,I⟩:=E.obj hk;exact h.lF I aB aB
structure TI(kb nb n:Nat)(w:U)(cs:Array aD)(vw:aD)(ws:List PW)(pre:List (List UInt8))(W:U)(v9 vw1:aD)(ws1:List PW):Prop where
 obj:W.heap[kb]? =M (aG ((cs.setIfInBounds 9 v9).setIfInBounds 10 vw1) 137 (0,0))
 row:Row W 150 5 vw1 (ws++ws1).length ((ws++ws1).flatMap lS)
 txs:∀p,p∈ws++ws1->kX W p.2 p.1.txs
 fst:ws1.map Prod.fst=pre.flatMap (λs=>Dv.reads s n)
 own:∀g,vw1.ownBlock=M g->vw.ownBlock=M g\/w.heap.size<=g
 jR:jO (λk=>k=kb\/k=nb\/vw.ownBlock=M k) w W
 nbm:NC W nb
 nbl:nb<w.heap.size
 new:kH w.heap.size W.heap.size (ws1.map Prod.snd)
theorem TI.nS(h:TI kb nb n w cs vw ws pre W v9 vw1 ws1)(q:jO XS W W')(I:pI XS W)(E:∀k,k<w.heap.size->¬XS k):TI kb nb n w cs vw ws pre W' v9 vw1 ws1:=
 ⟨(q.block _ (jG h.obj) (I _ _ _ _ h.obj)).trans h.obj,vG h.row q I,λp hp=>(h.txs p hp).jR q I.str,h.fst,h.own,h.jR.trans q (λk hk e=>Xs e (E k hk)),λc t J e=>h.nbm c t J (by rw[<-q.block nb (aP h.nbl h.jR.size) (E nb h.nbl)];exact e),h.nbl,h.new.mono jE q.size⟩
theorem TI.turn(h:TI kb nb n w cs vw ws pre W v9 vw1 ws1)(Y:jO (λk=>k=kb\/k=nb) W W')(hE:EK kb W W')(ab:NC W' nb):∃aa,TI kb nb n w cs vw ws pre W' aa vw1 ws1:=by
 obtain⟨v,hv⟩:=hE _ _ _ h.obj
 have E:∀(g:Nat)(I:Array aD)(t:Nat)(fz:Nat×Nat),W.heap[g]? =M (aG I t fz)->t≠137->¬(g=kb\/g=nb):=by
  rintro g I t fz J ht (rfl|rfl)
  .rw[h.obj]at J;simp at J;exact ht J.2.1.symm
  .exact h.nbm _ _ _ J
 refine⟨v,?_,h.row.jR Y (λg J=>?_),λp hp=>Row.jR (h.txs p hp) Y (λg J=>?_),h.fst,h.own,h.jR.trans Y (λk _ e=>e.elim cJ (λe=>cK (cJ e))),ab,h.nbl,h.new.mono jE Y.size⟩
 .rw[hv]
  congr 2
  apply gB;intro i;simp only[aV,jm];split
  .rename_i e;subst e;simp
  .rfl
 .obtain⟨I,q⟩:=h.row.obj J;exact E g _ _ _ q aB
 .obtain⟨I,q⟩:=Row.obj (h.txs p hp) J;exact E g _ _ _ q aB
theorem TI.more(h:TI kb nb n w cs vw ws pre W1 v9 vw1 ws1){s:List UInt8}(E:UI kb n W1 ((cs.setIfInBounds 9 v9).setIfInBounds 10 vw1) vw1 (ws++ws1) bs W vw2 ws2)(hb:xK n bs=Dv.reads s n):TI kb nb n w cs vw ws (pre++[s]) W v9 vw2 (ws1++ws2):=by
 refine⟨by have:=E.obj;rw[rG]at this;exact this,by rw[<-fM];exact E.row,λp hp=>E.txs p (by rw[fM];exact hp),?_,λg Y=>?_,h.jR.trans E.jR (λk hk e=>?_),λc t I e=>h.nbm c t I ?_,h.nbl,by rw[bJ];exact h.new.append E.new h.jR.size E.jR.size⟩
 .rw[bJ,h.fst,E.fst,hb,iC];simp
 .obtain q|q:=E.own g Y
  .exact h.own g q
  .exact cK (bH h.jR.size q)
 .obtain e|e:=e
  .exact cJ e
  .obtain q|q:=h.own k e
   .exact cK (cK q)
   .omega
 .rw[<-E.jR.block nb (aP h.nbl h.jR.size) ?_]
  .exact e
  .rintro(q|q)
   .have:=h.obj;rw[<-q]at this;exact h.nbm _ _ _ this
   .obtain⟨J,r⟩:=h.row.obj q;exact h.nbm _ _ _ r
theorem UI.more(h:UI kb n W1 cs1 vw1 ws1 bs W vw2 ws2){b:Ba}(ae:b.epoch<=n){va:Option gF}{vc:Nat}(hs:kX W (.slice va b.txs.length vc) b.txs){b10:Nat}{w1:U}{g off cap:Nat}(af:W1.heap.size<=b10)(ag:vw2.ownBlock≠M b10)(J:∃cs,W.heap[b10]? =M (aG cs 150 (0,0)))(aa:jO (λk=>k=b10) W W')(hnew:kH W1.heap.size W.heap.size ((ws2++[(({ b with place:=n }:Ba),aR va b.txs.length vc)]).map Prod.snd))(hr:Row w1 150 5 (aR (M ⟨g,off,Z⟩) ((ws1++ws2).length+1) cap) ((ws1++ws2).length+1) ((ws1++ws2).flatMap lS++lS ({ b with place:=n },.slice va b.txs.length vc))){o:Obj}(hg:Grew vw2 g (W'.alloc o) w1):UI kb n W1 cs1 vw1 ws1 (bs++[b]) (w1.setCell ⟨kb,10,Z⟩ (aR (M ⟨g,off,Z⟩) ((ws1++ws2).length+1) cap)) (aR (M ⟨g,off,Z⟩) ((ws1++ws2).length+1) cap) (ws2++[({ b with place:=n },.slice va b.txs.length vc)]):=by
 have ac:kb≠b10:=by
  rintro rfl;obtain⟨c',I⟩:=J;rw[h.obj]at I;simp at I
 have hM:jO (λk=>vw2.ownBlock=M k\/k=b10) W w1:=((aa.mono (λk _ e=>cK e)).trans (jO.alloc (λ_=>False) W' o) (λ_ _ e=>e.elim)).trans hg.jR (λk _ e=>cJ e)
 have ho:=(hM.block kb (jG h.obj) (by
  rintro(e|e)
  .exact jJ h.row h.obj aB e
  .exact ac e)).trans h.obj
 have E:=jO.set w1 kb 10 (aR (M ⟨g,off,Z⟩) ((ws1++ws2).length+1) cap)
 have Y:∀v l,kX W v l->kX (w1.setCell ⟨kb,10,Z⟩ (aR (M ⟨g,off,Z⟩) ((ws1++ws2).length+1) cap)) v l:=λv l hv=>by
  have q1:=hv.jR hM (λk cs fz hk e=>by
   obtain e|e:=e
   .exact jJ h.row hk aB e
   .obtain⟨c',I⟩:=J;rw[<-e,hk]at I;simp at I)
  exact q1.jR E (λk cs fz hk e=>by rw[e,ho]at hk;simp at hk)
 have hl:(ws1++(ws2++[(({ b with place:=n }:Ba),aR va b.txs.length vc)])).length=(ws1++ws2).length+1:=aF
 refine⟨?_,?_,λp hp=>?_,?_,λg' ab=>?_,(h.jR.trans hM (λk hk e=>?_)).trans E (λk _ e=>cJ e),hnew.mono jE (bH hM.size E.size)⟩
 .have:=jV ho 10 (aR (M ⟨g,off,Z⟩) ((ws1++ws2).length+1) cap);rw[rG]at this;exact this
 .rw[hl,<-fM,iC];have:=hr.jR E (λq hq e=>jJ hr ho aB (by rw[hq,e]));simpa using this
 .rw[<-fM]at hp;obtain hp|hp:=dM.1 hp
  .exact Y _ _ (h.txs p hp)
  .rw[dK.1 hp];exact Y _ _ hs
 .rw[bJ,h.fst,xU,ZD ae];rfl
 .have ab:g=g':=by simpa[eA]using ab
  subst ab;obtain q|q:=hg.own
  .exact h.own g q
  .have q2:W'.heap.size+1<=g:=by simpa using q
   have q3:=aa.size;have q4:=h.jR.size;exact cK aA
 .obtain e|e:=e
  .obtain q|q:=h.own k e
   .exact cK q
   .omega
  .omega
end
open Fr (F)
section
variable {w W W':U}{kb nb k:Nat}{cs:Array aD}{vo vo':aD}{os os':List PC}{l:List Ch}
theorem Rx:∀(l:List F)(j:Nat)(x:F),l[j]? =M x->∀(i:Nat)(u:aD),i<4->(Fr.yu x)[i]? =M u->(Fr.flat l)[j*4+i]? =M u
 |[],j,x,h,_,_,_,_=>by simp at h
 |y::l,0,x,h,i,u,hi,hu=>by
  have h:y=x:=by simpa using h
  subst h;rw[Fr.flat,bZ (by simp[Fr.yu];omega)];simpa using hu
 |y::l,j+1,x,h,i,u,hi,hu=>by
  have q:=Rx l j x (by simpa using h) i u hi hu;rw[Fr.flat,bV (by simp[Fr.yu];omega)];have:(j+1)*4+i-(Fr.yu y).length=j*4+i:=by simp[Fr.yu];omega
  rw[this];exact q
def AX(w:U)(v:aD)(fs:List F):Prop:=(v=aR Z 0 0/\fs=[])\/∃g cap q,v=aR (M ⟨g,0,Z⟩) fs.length cap/\w.heap[g]? =M (aG q 81 (0,0))/\fs.length<=cap/\q.toList.take (fs.length*4)=Fr.flat fs
theorem AX.slice{v:aD}{fs:List F}(h:AX w v fs):∃a cap,v=.slice a fs.length cap:=by
 obtain⟨e,E⟩|⟨g,cap,q,e,_⟩:=h
 .exact⟨Z,0,by rw[e,E];rfl⟩
 .exact⟨_,_,e⟩
theorem AX.at{w:U}{v:aD}{fs:List F}(h:AX w v fs){j:Nat}{x:F}(E:fs[j]? =M x):∃g cap,v=aR (M ⟨g,0,Z⟩) fs.length cap/\w.cell? ⟨g,j*4,Z⟩=M (N .u32 x.chan)/\w.cell? ⟨g,j*4+1,Z⟩=M (N .u16 x.num)/\w.cell? ⟨g,j*4+2,Z⟩=M (.string ⟨x.data.toArray⟩)/\w.cell? ⟨g,j*4+3,Z⟩=M (.bool x.last):=by
 obtain⟨_,e'⟩|⟨g,cap,aa,e,h1,_,h3⟩:=h
 .rw[e']at E;simp at E
 .have Y:=(aN.1 E).1;have q:=Rx fs j x E
  have I:∀i u,i<4->(Fr.flat fs)[j*4+i]? =M u->w.cell? ⟨g,j*4+i,Z⟩=M u:=λi u hi J=>by
   rw[aI h1];rw[<-h3,iL aA]at J;simpa using J
  exact⟨g,cap,e,I 0 _ aB (q 0 _ aB rfl),I 1 _ aB (q 1 _ aB rfl),I 2 _ aB (q 2 _ aB rfl),I 3 _ aB (q 3 _ aB rfl)⟩
structure BI(kb nb:Nat)(w:U)(cs:Array aD)(vo:aD)(os:List PC)(l:List Ch)(k:Nat)(W:U)(vo':aD)(nm':AL)(os':List PC):Prop where
 obj:W.heap[kb]? =M (aG (cs.setIfInBounds 9 vo') 137 (0,0))
 chs:Chs W nb vo' nm' os'
 jR:jO (λk=>k=kb\/Own nb vo os k) w W
 own:∀k,Own nb vo' os' k->Own nb vo os k\/w.heap.size<=k
 len:os'.length<=os.length+k
 lives:lives nm' os'=l
theorem BI.below{q:AL}(h:BI kb nb w cs vo os l k W vo' q os')(E:Below W.heap.size W W'):BI kb nb w cs vo os l k W' vo' q os':=
 ⟨(E.block _ (jG h.obj)).trans h.obj,h.chs.below E,h.jR.trans (.below E jE _) (λ_ _ e=>e),h.own,h.len,h.lives⟩
theorem BI.took{l':List Ch}{Y:AL}(h:BI kb nb w cs vo os l k W vo' Y os'){J:aD}{I:AL}{E:List PC}(ht:Dw kb nb (cs.setIfInBounds 9 vo') vo' os' W J I E W')(hl:Hm.lives I E=l'):BI kb nb w cs vo os l' (k+1) W' J I E:=
 ⟨by have:=ht.obj;rw[rG]at this;exact this,ht.chs,h.jR.trans ht.jR (λq hq e=>by
  obtain e|e:=e
  .exact cJ e
  .obtain r|r:=h.own q e
   .exact cK r
   .omega),λq hq=>by
  obtain e|e:=ht.own q hq
  .exact h.own q e
  .exact cK (bH h.jR.size e),by have:=ht.len;have:=h.len;omega,hl⟩
def lJ(fs:Nat->List F)(i:Nat):List F:=(List.range i).flatMap fs
theorem x9(fs:Nat->List F)(i:Nat):lJ fs (i+1)=lJ fs i++fs i:=by simp[lJ,List.range_succ]
theorem Xv(fs:Nat->List F):∀{i m:Nat},i<=m->(lJ fs i).length<=(lJ fs m).length:=by
 intro i m h
 induction h with
 |refl=>exact jE
 |step _ ih=>rw[x9,aS];omega
end
end Hm
