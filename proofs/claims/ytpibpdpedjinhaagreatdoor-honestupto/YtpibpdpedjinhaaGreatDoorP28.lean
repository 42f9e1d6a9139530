import Derived.Test.YtpibpdpedjinhaaGreatDoorP27
set_option maxRecDepth 100000
set_option maxHeartbeats 8000000
set_option linter.all false
open Go.IntKind renaming i64->X
open Go.Value renaming int->N,pointer->aM,slice->aR
open Go.Value.slice renaming injEq->eQ
open Option renaming none->Z,some->M
namespace Go.Proofs.YtpibpdpedjinhaaGreatDoor
namespace Hm
open Go.RowKit Go.Joins Go.Shelf
open Fr (below_drewN)
open Dv (X2 Cf Ba)
def outside(c:Cf)(ep:Nat)(t:Int)(b:Ba):Bool:=decide ((b.time:Int)<t) || (b.epoch != ep&&b.epoch != ep+1) || decide ((b.epoch:Int)+c.window<(b.place:Int))
def SS(c:Cf)(us:List PB)(ep:Nat)(t:Int)(b:Ba)(k:Nat):Bool:=decide ((b.id:Int)≠Ia us b.epoch) || decide (t<BM us b.epoch) || (decide (BM us b.epoch+c.drift<t)&&!allows us ep t b k)
def verdict(c:Cf)(us:List PB)(cnt ep:Nat)(b:Ba)(k:Nat):Nat:=
 if lT c us cnt<(b.time:Int)then 0 else if outside c ep (lT c us cnt) b then 1 else if waits c us ep (lT c us cnt) b k then 2 else if SS c us ep (lT c us cnt) b k then 1 else 3
def UH(kb:Nat)(c:Cf)(us:List PB)(cnt ep:Nat)(b:Ba)(va:Option Addr)(k vc:Nat)(w:World)(h:Look w kb c us cnt ep)(ba:ep<us.length)(hb:b.epoch<us.length)(bo:b.place<=4294967296)(au:∀p,p∈us->∃a n cap,p.2.2=.slice a n cap):Calls PQ 179 #[aM (M ⟨kb,0,Z⟩),QE b (.slice va k vc)] w λx w'=>x=.returned (N .u8 (verdict c us cnt ep b k:Nat))/\Below w.heap.size w w':=by
 unfold QE;obtain⟨W,hW,ar,zo⟩:=jI w #[N X b.epoch,N X b.id,N X b.time,.slice va k vc,N X b.place] 150;have bj:w.heap.size<W.heap.size:=by rw[hW];simp
 have ac:=FU kb c us cnt ep W (h.below ar) aA;obtain⟨t,ht⟩:∃t,lT c us cnt=t:=⟨_,rfl⟩
 obtain⟨r,hr⟩:∃r,verdict c us cnt ep b k=r:=⟨_,rfl⟩
 have ao:=hr;unfold verdict at ao;rw[ht]at ao ac;rw[hr];have a2:Hid _:=λ(_:Unit)=>ac;have H:Hid _:=jD ao (jD ar (jD zo (jD h (jD ba (jD hb (jD bo au))))));obtain⟨vu,nb,vo,vw,sq,ho,a9⟩:=(h.below ar).obj;obtain⟨bg,am⟩:∃x,c.window=x:=⟨_,rfl⟩
 have bk:=h.window;rw[am]at bk;have hl:=h.len;have HO:Hid _:=jD ho (jD a9 am);clear h ar zo ac hr ao ht ho a9 am au;go_enter (fq Tryz.func179 rfl),Tryz.ntmps179;go_upto_region 1 with fail;rw[<-hW];clear hW;go_upto_region 2 with(first|(go_at_call 178;refine aT (a2.out ()) ?_;rintro e w2 ⟨rfl,m,rfl⟩)|go_in)
 generalize hV:World.drewN _ _=V;have aa:Below W.heap.size W V:=by rw[<-hV];exact below_drewN (aJ _ _) _
 have zV:V.heap[w.heap.size]? =_:=(aa.block _ bj).trans H.out.2.2.1;have oV:V.heap[kb]? =_:=(aa.block _ (jG HO.out.1)).trans HO.out.1;obtain⟨z0,z1,z2,z3,z4⟩:=cells5 zV;have c3:V.cell? ⟨kb,3,Z⟩=M (N X bg):=by rw[aI oV,<-HO.out.2.2];rfl
 have bm:V.cell? ⟨kb,12,Z⟩=M (N X ep):=nV oV rfl;have ai:=H.out.2.1.trans (aa.mono H.out.2.1.size);have HV:Hid _:=jD aa (jD zV (jD oV ai));clear hV aa zV oV ai;by_cases h1:t<(b.time:Int)
 .go_wp2_with fail;go_ret;refine⟨?_,HV.out.2.2.2⟩;rw[<-H.out.1,ZD h1];rfl
 .go_upto_region 4 with fail;obtain⟨q,hq⟩:∃q,outside c ep t b=q:=⟨_,rfl⟩
  have aq:=hq;unfold outside at aq;rw[HO.out.2.2]at aq;have Hq:Hid _:=jD hq aq;clear hq aq;go_cut [48] (λv wx=>v=.bool q/\∃m,wx=V.drewN m)
  case first=>
   by_cases h2:(b.time:Int)<t
   .go_quiet (fail);go_wp2_with fail;go_meet;refine⟨?_,_,rfl⟩;rw[<-Hq.out.2,Z0 h2];rfl
   .have a1:=ZZ h2;by_cases h3:b.epoch=ep
    .have bq:((b.epoch:Int) != (ep:Int))=false:=by rw[h3];simp
     have H3:Hid _:=h3;have H2:Hid _:=a1;clear h3;go_quiet (fail);go_wp2_with fail;go_meet;refine⟨?_,_,rfl⟩;rw[<-Hq.out.2,H2.out];have:(b.epoch != ep)=false:=by rw[H3.out];simp
     rw[this];simp
    .have bq:((b.epoch:Int) != (ep:Int))=true:=by rw[bne_iff_ne];omega
     have H3:Hid _:=h3;clear h3;by_cases h4:b.epoch=ep+1
     .have br:((b.epoch:Int) != (ep:Int)+1)=false:=by rw[h4];simp
      have H4:Hid _:=h4;have H2:Hid _:=a1;clear h4;go_quiet (fail);go_wp2_with fail;go_meet;refine⟨?_,_,rfl⟩;rw[<-Hq.out.2,H2.out];have:(b.epoch != ep+1)=false:=by rw[H4.out];simp
      rw[this];simp
     .have br:((b.epoch:Int) != (ep:Int)+1)=true:=by rw[bne_iff_ne];omega
      have H4:Hid _:=h4;have H2:Hid _:=a1;clear h4;go_quiet (fail);go_wp2_with fail;go_meet;refine⟨?_,_,rfl⟩;rw[<-Hq.out.2,H2.out,bne_iff_ne.2 H3.out,bne_iff_ne.2 H4.out];rfl
  case rest=>
   obtain⟨rfl,m2,rfl⟩:=hcut;have aw:=H.out.1;rw[Zs h1,Hq.out.1]at aw;have ax:Hid _:=aw;clear aw;cases q
   .generalize bb:World.drewN _ _=V2;obtain⟨aa,zV,oV,ai⟩:=HV.out;have az:Below V.heap.size V V2:=by rw[<-bb];exact below_drewN (aJ _ _) _
    have E:=ai.trans (az.mono ai.size);have z2:V2.heap[w.heap.size]? =_:=(az.block _ (jG zV)).trans zV;have ag:=H.out.2.2.2.1.below E;have ap:=Jv kb c us cnt ep t b va k vc V2 ag ba;obtain⟨q2,I⟩:∃q2,waits c us ep t b k=q2:=⟨_,rfl⟩
    rw[I]at ap;unfold QE at ap;have a5:Hid _:=λ(_:Unit)=>ap;obtain⟨x0,x1,x2,x3,x4⟩:=cells5 z2;have H2:Hid _:=jD E (jD z2 (jD ag I));clear aa zV oV ai az E z2 ag ap I bb z0 z1 z3 z4 c3 bm;cases q2
    .go_upto_region 8 with(first|(go_at_call 207;refine aT (a5.out ()) ?_;rintro e w3 ⟨rfl,ah⟩)|go_in)
     obtain⟨E,z2,ag,I⟩:=H2.out;have af:=ag.below ah;have z3:w3.heap[w.heap.size]? =_:=(ah.block _ (jG z2)).trans z2;have J:=E.trans (ah.mono E.size);obtain⟨b3,b0,b2,b5,bz,a4,Y⟩:=af.obj;obtain⟨g,off,cap,rfl,b4,hg,hx⟩:=Y.pos aA;obtain⟨p,hp⟩:∃p,us[b.epoch]? =M p:=⟨_,aO hb⟩
     obtain⟨da,dn,dc,hd⟩:=H.out.2.2.2.2.2.2.2 p (aX hp);have k0:w3.cell? ⟨g,off+b.epoch*3,Z⟩=M (N X p.1):=Rd.rec qW 3 (λ_=>rfl) Y hp (i:=0) (u:=.int _ _) aA rfl
     have k1:w3.cell? ⟨g,off+b.epoch*3+1,Z⟩=M (N X p.2.1):=by
      have:=Rd.rec qW 3 (λ_=>rfl) Y hp (i:=1) (u:=.int _ _) aA rfl;rw[<-dV]at this;exact this
     have k2:w3.cell? ⟨g,off+b.epoch*3+2,Z⟩=M (.slice da dn dc):=by
      have:=Rd.rec qW 3 (λ_=>rfl) Y hp (i:=2) (u:=.slice da dn dc) aA (by rw[<-hd];rfl);rw[<-dV]at this;exact this
     have c7:w3.cell? ⟨kb,7,Z⟩=M (aR (M ⟨g,off,Z⟩) us.length cap):=nV a4 rfl;have y0:=nT z3;have b1:(b.epoch:Int)<us.length:=aA
     have hI:=Jl hp;have hT:=wJ hp;obtain⟨pi,a8⟩:∃x,p.1=x:=⟨_,rfl⟩
     obtain⟨pt,a7⟩:∃x,p.2.1=x:=⟨_,rfl⟩
     rw[a8]at k0 hI;rw[a7]at k1 hT;have b6:=(jG a4)
     have bh:=(jG z3)
     have H3:Hid _:=jD af (jD z3 (jD J (jD I (jD hI hT))));clear E z2 ag I af z3 J a4 Y hx hp hd hI hT a8 a7 ah x0 x1 x2 x3 x4 H2;go_cut [6] (λv wx=>v=aM (M ⟨w3.heap.size,0,Z⟩)/\Hid (wx.heap[w3.heap.size]? =M (.cells #[N X pi,N X pt,.slice da dn dc] 139 (0,0))/\Below w3.heap.size w3 wx))
     case first=>
      go_region
      all_goals
       go_wp2_with fail;go_meet;refine⟨rfl,?_,?_⟩
       .exact heap_alloc_new _ _
       .first|exact((aJ _ _).alloc jE _).drew|exact(aJ _ _).drew.alloc jE _
     case rest=>
      obtain⟨rfl,bd⟩:=hcut;obtain⟨ub,an⟩:=bd.out;obtain⟨af,z3,J,I,hI,hT⟩:=H3.out;have a3:=af.below an;have zc:wc.heap[w.heap.size]? =_:=(an.block _ bh).trans z3;have av:=J.trans (an.mono J.size);obtain⟨u0,u1⟩:=cells2 ub;obtain⟨x0,x1,x2,x3,x4⟩:=cells5 zc;have ab:=KQ kb c us cnt ep _ t wc a3 hb;obtain⟨i3,aj⟩:∃x,decide (BM us b.epoch+c.drift<t)=x:=⟨_,rfl⟩
      obtain⟨i4,ay⟩:∃x,allows us ep t b k=x:=⟨_,rfl⟩
      have a6:i3=true->∀m,Calls PQ 209 #[aM (M ⟨kb,0,Z⟩),.agg #[N X b.epoch,N X b.id,N X b.time,.slice va k vc,N X b.place],N X t] (wc.drewN m) λx w'=>x=.returned (.bool i4)/\Below (wc.drewN m).heap.size (wc.drewN m) w':=λh3 m=>by
       have:=BR kb c us cnt ep t b va k vc _ (a3.drewN m) (λbl bw=>by
        refine gW λbx=>?_;have hw:=I;unfold waits at hw;rw[Zs aA,bl]at hw;rw[bw]at aj;rw[aj,h3]at hw;simp at hw)
       rw[ay]at this;exact this
      rw[aj]at ab;have ak:Hid _:=λ(_:Unit)=>ab;have bv:Hid _:=a6;have ae:=ax.out;rw[I]at ae;unfold SS at ae;rw[hI,ay]at ae;rw[hT]at aj ae;rw[aj]at ae;have HR:Hid _:=jD ae av;clear ub an af z3 J I hI hT a3 zc av ab a6 ae aj ay bd k0 k1 k2 c7 y0;by_cases g1:(b.id:Int)=pi
      .have bs:((b.id:Int) != pi)=false:=by rw[g1];simp
       have G1:Hid _:=g1;clear g1;by_cases g2:t<pt
       .go_wp2_with fail;go_ret;refine⟨?_,HR.out.2⟩;rw[<-HR.out.1,Z0 g2];simp
       .cases i3
        .go_wp2_with (first|(go_at_call 208;refine aT (ak.out ()) ?_;rintro e w4 ⟨rfl,m4,rfl⟩)|fail)
         go_ret;refine⟨?_,HR.out.2.trans (below_drewN (aJ _ _) _)⟩;rw[<-HR.out.1,ZZ (show ¬t<pt by omega),G1.out];simp
        .cases i4
         all_goals
          go_wp2_with (first|(go_at_call 208;refine aT (ak.out ()) ?_;rintro e w4 ⟨rfl,m4,rfl⟩)|(go_at_call 209;refine aT (bv.out (by first|rfl|trivial) _) ?_;rintro e w5 ⟨rfl,bu⟩)|fail)
          go_ret;refine⟨?_,HR.out.2.trans ((below_drewN (aJ wc.heap.size wc) m4).trans bu |>.mono HR.out.2.size)⟩;rw[<-HR.out.1,ZZ (show ¬t<pt by omega),G1.out];simp
      .have bs:((b.id:Int) != pi)=true:=by rw[bne_iff_ne];exact g1
       have G1:Hid _:=g1;clear g1;go_wp2_with fail;go_ret;refine⟨?_,HR.out.2⟩;rw[<-HR.out.1,Z0 (show(b.id:Int)≠pi from G1.out)];simp
    .go_wp2_with (first|(go_at_call 207;refine aT (a5.out ()) ?_;rintro e w3 ⟨rfl,ah⟩)|go_in)
     go_ret;refine⟨?_,H2.out.1.trans (ah.mono H2.out.1.size)⟩;rw[<-ax.out,H2.out.2.2.2];rfl
   .go_wp2_with fail;go_ret;refine⟨?_,HV.out.2.2.2.trans ⟨rfl,rfl,rfl,jE,λ_ _=>rfl⟩⟩;rw[<-ax.out];rfl
open Go.RowKit Go.Joins
section
variable {w:World}{e s n g off cap j:Nat}{xs:List Value}
theorem Row.put(h:Row w e s (aR (M ⟨g,off,Z⟩) n cap) n xs)(u:Value):Row (w.setCell ⟨g,off+j,Z⟩ u) e s (aR (M ⟨g,off,Z⟩) n cap) n (xs.set j u):=by
 refine⟨by rw[List.length_set];exact h.1,?_⟩;obtain⟨h0,_⟩|⟨g',Y,aa,ab,J,hh,E,q,I,hc⟩:=h.2
 .cases h0
 .simp only[eQ,aK,Addr.mk.injEq,and_true,true_and]at J;obtain⟨⟨rfl,rfl⟩,rfl⟩:=J;refine .inr ⟨g,off,cap,_,rfl,jV hh _ u,E,q,by simpa using I,λi v hi=>?_⟩
  grind
theorem Row.take(h:Row w e s (aR (M ⟨g,off,Z⟩) n cap) n xs){k:Nat}(hk:k<=n):Row w e s (aR (M ⟨g,off,Z⟩) k cap) k (xs.take (k*s)):=by
 have J:k*s<=n*s:=fK _ hk;refine⟨by rw[bK,h.1];omega,?_⟩;obtain⟨h0,_⟩|⟨g',q,E,I,hv,hh,Y,aa,ab,hc⟩:=h.2
 .cases h0
 grind
theorem Row.there(h:Row w e s (aR (M ⟨g,off,Z⟩) n cap) n xs)(q:j<n*s):(w.cell? ⟨g,off+j,Z⟩).isSome=true:=by rw[h.cell rfl j (xs[j]'(by rw[h.1];exact q)) (aO _)];rfl
end
section
variable {m i e s n g off cap k:Nat}{w:World}{xs:List Value}
abbrev PW:=Ba×Value
variable {V:PW->Nat}{ws rs:List PW}{b:PW}
def lS(p:PW):List Value:=[N X p.1.epoch,N X p.1.id,N X p.1.time,p.2,N X p.1.place]
theorem nC(p:PW):(lS p).length=5:=rfl
def pick(V:PW->Nat):List PW->(Nat×Option PW)×List PW
 |[]=>((0,Z),[])
 |b::r=>if V b=0 then((pick V r).1,b::(pick V r).2)else if V b=2 then((2,Z),b::r)else if V b=3 then((3,M b),r)else pick V r
structure lN(V:PW->Nat)(ws rs:List PW)(m i:Nat):Prop where
 len:rs.length=ws.length
 le:m<=i
 ile:i<=ws.length
 back:rs.drop i=ws.drop i
 run:pick V ws=((pick V (ws.drop i)).1,rs.take m++(pick V (ws.drop i)).2)
 sub:∀p,p∈rs->p∈ws
theorem lN.start(V:PW->Nat)(ws:List PW):lN V ws ws 0 0:=⟨rfl,jE,dL _,rfl,aC,λ_ h=>h⟩
theorem lN.at(h:lN V ws rs m i)(E:ws[i]? =M b):rs[i]? =M b:=by have:=Z1 (λq=>q[0]?) h.back;simpa[jd,E]using this
theorem yH{α:Type}{l:List α}{x:α}(h:l[i]? =M x):l.drop i=x::l.drop (i+1):=by obtain⟨q,rfl⟩:=aN.1 h;exact List.drop_eq_getElem_cons q
theorem lN.stay(h:lN V ws rs m i)(E:ws[i]? =M b)(J:V b=0):lN V ws (rs.set m b) (m+1) (i+1):=by
 have I:=(aN.1 E).1;have Y:=h.le;have h2:=h.len;refine⟨by rw[List.length_set];exact h2,aA,aA,?_,?_,λp hp=>(List.mem_or_eq_of_mem_set hp).elim (h.sub p) (λe=>e ▸ aX E)⟩
 .rw[List.drop_set_of_lt aA];have:=Z1 (List.drop 1) h.back;simpa[iE]using this
 .rw[h.run,yH E]
  have hp:pick V (b::ws.drop (i+1))=((pick V (ws.drop (i+1))).1,b::(pick V (ws.drop (i+1))).2):=by
   rw[pick,ZD J]
  rw[hp]
  congr 1
  have q:rs.take (m+1)=rs.take m++[rs[m]' aA]:=eY aA;rw[List.take_set,q,List.set_append_right _ _ (by rw[bK];omega),bK,fZ aA];simp
theorem lN.go(h:lN V ws rs m i)(q:ws[i]? =M b)(I:V b≠0)(h2:V b≠2)(h3:V b≠3):lN V ws rs m (i+1):=by
 have E:=(aN.1 q).1;refine⟨h.len,by have:=h.le;omega,aA,?_,?_,h.sub⟩
 .have:=Z1 (List.drop 1) h.back;simpa[iE]using this
 .rw[h.run,yH q,pick,Zs I,Zs h2,Zs h3]
theorem lN.halt(h:lN V ws rs m i)(q:ws[i]? =M b)(h2:V b=2):pick V ws=((2,Z),rs.take m++rs.drop i):=by rw[h.run,h.back,yH q,pick,Zs aA,ZD h2]
theorem lN.got(h:lN V ws rs m i)(E:ws[i]? =M b)(h3:V b=3):pick V ws=((3,M b),rs.take m++rs.drop (i+1)):=by
 have q:rs.drop (i+1)=ws.drop (i+1):=by
  have:=Z1 (List.drop 1) h.back;simpa[iE]using this
 rw[h.run,q,yH E,pick,Zs aA,Zs aA,ZD h3]
theorem lN.done(h:lN V ws rs m i)(q:ws.length<=i):pick V ws=((0,Z),rs.take m):=by rw[h.run,List.drop_eq_nil_of_le q,pick,gI]
section
variable {α:Type}(f:α->List Value)(s:Nat)(hf:∀x,(f x).length=s)
include hf
theorem qN(l:List α)(k:Nat):(l.flatMap f).take (k*s)=(l.take k).flatMap f/\(l.flatMap f).drop (k*s)=(l.drop k).flatMap f:=by
 induction l generalizing k with
 |nil=>simp
 |cons x l ih=>
  cases k with
  |zero=>simp
  |succ k=>
   have hk:(k+1)*s=s+k*s:=by rw[iU];omega
   rw[gY,hk];constructor
   .rw[List.take_append,hf x,eH (by rw[hf x];omega),Nat.add_sub_cancel_left,(ih k).1,List.take_succ_cons,gY]
   .rw[List.drop_append,hf x,List.drop_of_length_le (by rw[hf x];omega),Nat.add_sub_cancel_left,(ih k).2,List.drop_succ_cons,dS]
end
theorem Row.over(h:Row w e s (aR (M ⟨g,off,Z⟩) n cap) n xs)(vs:List Value)(hk:k+vs.length<=n*s):Row (w.setCells g (off+k) vs) e s (aR (M ⟨g,off,Z⟩) n cap) n (xs.take k++vs++xs.drop (k+vs.length)):=by
 have hl:=h.1;refine⟨by simp only[aS,bK,dW];omega,?_⟩;obtain⟨h0,_⟩|⟨g',aa,ab,ac,hv,hh,E,J,Y,hc⟩:=h.2
 .cases h0
 .simp only[eQ,aK,Addr.mk.injEq,and_true,true_and]at hv;obtain⟨⟨rfl,rfl⟩,rfl⟩:=hv;obtain⟨I,k1,k2,k3,k4⟩:=sH vs (off+k) hh;refine .inr ⟨g,off,cap,I,rfl,k1,E,J,by rw[k2];exact Y,λj v q=>?_⟩;have ae:n*s<=cap*s:=fK _ E;by_cases h1:j<k
  .rw[fM,bZ (by rw[bK];omega),gU,ZD h1]at q;rw[k3 _ (.inl aA)];exact hc j v q
  .by_cases h2:j<k+vs.length
   .rw[fM,bV (by rw[bK];omega),bK,fZ aA,bZ aA]at q;have:=k4 _ v q aA;rw[show off+j=off+k+(j-k) from by omega];exact this
   .rw[bV (by simp only[aS,bK];omega)]at q;simp only[aS,bK]at q;rw[fZ aA,jd]at q;rw[k3 _ (.inr aA)];exact hc j v (by rw[<-q];congr 1;omega)
theorem Row.lay(h:Row w e s (aR (M ⟨g,off,Z⟩) n cap) n xs){j:Nat}(vs:List Value)(hk:k<=n)(hv:vs.length=j*s)(hj:k+j<=cap):Row (w.setCells g (off+k*s) vs) e s (aR (M ⟨g,off,Z⟩) (k+j) cap) (k+j) (xs.take (k*s)++vs):=by
 have hl:=h.1;have Y:k*s<=n*s:=fK _ hk;refine⟨by rw[aS,bK,hl,fZ Y,hv,iU],?_⟩;obtain⟨h0,_⟩|⟨g',ac,ae,ag,q,hh,ah,J,ab,hc⟩:=h.2
 .cases h0
 .simp only[eQ,aK,Addr.mk.injEq,and_true,true_and]at q;obtain⟨⟨rfl,rfl⟩,rfl⟩:=q;obtain⟨I,k1,k2,k3,k4⟩:=sH vs (off+k*s) hh;have aa:(k+j)*s<=cap*s:=fK _ hj;rw[iU]at aa;refine .inr ⟨g,off,cap,I,rfl,k1,hj,J,by rw[k2];exact ab,λi v E=>?_⟩;by_cases h1:i<k*s
  .rw[bZ (by rw[bK];omega),gU,ZD h1]at E;rw[k3 _ (.inl aA)];exact hc i v E
  .rw[bV (by rw[bK];omega),bK,fZ aA]at E;have af:=(aN.1 E).1;have:=k4 _ v E aA;rw[show off+i=off+k*s+(i-k*s) from by omega];exact this
section
variable {α:Type}(f:α->List Value)(s:Nat)(hf:∀x,(f x).length=s)
include hf
theorem Row.ad2{rs:List α}(h:Row w e s (aR (M ⟨g,off,Z⟩) n cap) n (rs.flatMap f))(E:m<rs.length)(x:α):Row (w.setCells g (off+m*s) (f x)) e s (aR (M ⟨g,off,Z⟩) n cap) n ((rs.set m x).flatMap f):=by have I:=h.1;rw[oG f s hf]at I;have q:(m+1)*s<=rs.length*s:=fK _ E;rw[iU,Nat.one_mul]at q;have:=h.over (k:=m*s) (f x) (by rw[hf x];omega);rw[(qN f s hf rs m).1,hf x,show m*s+s=(m+1)*s from by rw[iU,Nat.one_mul],(qN f s hf rs (m+1)).2]at this;rw[List.set_eq_take_append_cons_drop,ZD E,iC,gY,<-fM];exact this
theorem Row.Jp{rs:List α}(h:Row w e s (aR (M ⟨g,off,Z⟩) n cap) n (rs.flatMap f))(q:List α)(hk:k<=n)(E:k+q.length<=cap):Row (w.setCells g (off+k*s) (q.flatMap f)) e s (aR (M ⟨g,off,Z⟩) (k+q.length) cap) (k+q.length) ((rs.take k++q).flatMap f):=by have:=h.lay (k:=k) (j:=q.length) _ hk (oG f s hf q) E;rw[(qN f s hf rs k).1]at this;rw[iC];exact this
end
end
end Hm
