import Derived.Test.YtpibpdpedjinhabGreatDoorP21
set_option maxRecDepth 100000
set_option maxHeartbeats 8000000
set_option linter.all false
open Bool renaming false->aR,true->bB
open Go renaming Calls->eL,Value->aD,World->X,bodyPost_ret->cN
open Go.Addr renaming add->lr
open Go.IntKind renaming i64->aE,u16->mb,u32->dT
open Go.Obj renaming cells->aL
open Go.Proofs.Tryz renaming results86->mE,underlying98->mS
open Go.RowKit renaming Below->cG,Hid->cJ
open Go.Value renaming agg->gR,int->N,ownBlock->eE,pointer->aG,slice->aM,string->bE,tuple->cP
open Go.Value.slice renaming injEq->eJ
open Go.World renaming drewN->mn,setCells->od
open List renaming length_set->oc,range->iv
open Option renaming isSome_map->mH,none->Z,some->M
namespace Go.Proofs.YtpibpdpedjinhabGreatDoor
namespace Hm
open Go.RowKit Go.Joins Go.Shelf
open Fr (below_drewN)
open Dv (X2 Cf Ba)
def outside(c:Cf)(ep:Nat)(t:Int)(b:Ba):Bool:=decide ((b.time:Int)<t) || (b.epoch != ep&&b.epoch != ep+1) || decide ((b.epoch:Int)+c.window<(b.place:Int))
def RP(c:Cf)(us:List PB)(ep:Nat)(t:Int)(b:Ba)(k:Nat):Bool:=decide ((b.id:Int)≠FQ us b.epoch) || decide (t<Ag us b.epoch) || (decide (Ag us b.epoch+c.drift<t)&&!allows us ep t b k)
def verdict(c:Cf)(us:List PB)(cnt ep:Nat)(b:Ba)(k:Nat):Nat:=
 if lW c us cnt<(b.time:Int)then 0 else if outside c ep (lW c us cnt) b then 1 else if waits c us ep (lW c us cnt) b k then 2 else if RP c us ep (lW c us cnt) b k then 1 else 3
def Uh(kb:Nat)(c:Cf)(us:List PB)(cnt ep:Nat)(b:Ba)(va:Option Addr)(k vc:Nat)(w:X)(h:Look w kb c us cnt ep)(a9:ep<us.length)(hb:b.epoch<us.length)(bm:b.place<=4294967296)(ar:∀p,p∈us->∃a n cap,p.2.2=.slice a n cap):eL PQ 128 #[aG (M ⟨kb,0,Z⟩),P9 b (.slice va k vc)] w λx w'=>x=.returned (N .u8 (verdict c us cnt ep b k:Nat))/\cG w.heap.size w w':=by
 unfold P9;obtain⟨W,hW,aq,zo⟩:=jD w #[N aE b.epoch,N aE b.id,N aE b.time,.slice va k vc,N aE b.place] 118;have bh:w.heap.size<W.heap.size:=by rw[hW];simp
 have aa:=Ej kb c us cnt ep W (h.below aq) aA;obtain⟨t,ht⟩:∃t,lW c us cnt=t:=⟨_,rfl⟩
 obtain⟨r,hr⟩:∃r,verdict c us cnt ep b k=r:=⟨_,rfl⟩
 have an:=hr;unfold verdict at an;rw[ht]at an aa;rw[hr];have a1:cJ _:=λ(_:Unit)=>aa;have H:cJ _:=jy an (jy aq (jy zo (jy h (jy a9 (jy hb (jy bm ar))))));obtain⟨vu,nb,vo,vw,sq,ho,a8⟩:=(h.below aq).obj;obtain⟨bd,ak⟩:∃x,c.window=x:=⟨_,rfl⟩
 have bj:=h.window;rw[ak]at bj;have hl:=h.len;have HO:cJ _:=jy ho (jy a8 ak);clear h aq zo aa hr an ht ho a8 ak ar;go_enter (fq Tryz.func128 rfl),Tryz.ntmps128;go_upto_region 1 with fail;rw[<-hW];clear hW;go_upto_region 2 with(first|(go_at_call 127;refine aT (a1.out ()) ?_;rintro e w2 ⟨rfl,m,rfl⟩)|go_in)
 generalize hV:mn _ _=V;have R:cG W.heap.size W V:=by rw[<-hV];exact below_drewN (aJ _ _) _
 have zV:V.heap[w.heap.size]? =_:=(R.block _ bh).trans H.out.2.2.1;have oV:V.heap[kb]? =_:=(R.block _ (jE HO.out.1)).trans HO.out.1;obtain⟨z0,z1,z2,z3,z4⟩:=cells5 zV;have c3:V.cell? ⟨kb,3,Z⟩=M (N aE bd):=by rw[aI oV,<-HO.out.2.2];rfl
 have bl:V.cell? ⟨kb,12,Z⟩=M (N aE ep):=mZ oV rfl;have ah:=H.out.2.1.trans (R.mono H.out.2.1.size);have HV:cJ _:=jy R (jy zV (jy oV ah));clear hV R zV oV ah;by_cases h1:t<(b.time:Int)
 .go_wp2_with fail;go_ret;refine⟨?_,HV.out.2.2.2⟩;rw[<-H.out.1,ZD h1];rfl
 .go_upto_region 4 with fail;obtain⟨q,hq⟩:∃q,outside c ep t b=q:=⟨_,rfl⟩
  have ap:=hq;unfold outside at ap;rw[HO.out.2.2]at ap;have Hq:cJ _:=jy hq ap;clear hq ap;go_cut [48] (λv wx=>v=.bool q/\∃m,wx=V.drewN m)
  case first=>
   by_cases h2:(b.time:Int)<t
   .go_quiet (fail);go_wp2_with fail;go_meet;refine⟨?_,_,rfl⟩;rw[<-Hq.out.2,Z0 h2];rfl
   .have a0:=ZZ h2;by_cases h3:b.epoch=ep
    .have bn:((b.epoch:Int) != (ep:Int))=aR:=by rw[h3];simp
     have H3:cJ _:=h3;have H2:cJ _:=a0;clear h3;go_quiet (fail);go_wp2_with fail;go_meet;refine⟨?_,_,rfl⟩;rw[<-Hq.out.2,H2.out];have:(b.epoch != ep)=aR:=by rw[H3.out];simp
     rw[this];simp
    .have bn:((b.epoch:Int) != (ep:Int))=bB:=by rw[bne_iff_ne];omega
     have H3:cJ _:=h3;clear h3;by_cases h4:b.epoch=ep+1
     .have bo:((b.epoch:Int) != (ep:Int)+1)=aR:=by rw[h4];simp
      have H4:cJ _:=h4;have H2:cJ _:=a0;clear h4;go_quiet (fail);go_wp2_with fail;go_meet;refine⟨?_,_,rfl⟩;rw[<-Hq.out.2,H2.out];have:(b.epoch != ep+1)=aR:=by rw[H4.out];simp
      rw[this];simp
     .have bo:((b.epoch:Int) != (ep:Int)+1)=bB:=by rw[bne_iff_ne];omega
      have H4:cJ _:=h4;have H2:cJ _:=a0;clear h4;go_quiet (fail);go_wp2_with fail;go_meet;refine⟨?_,_,rfl⟩;rw[<-Hq.out.2,H2.out,bne_iff_ne.2 H3.out,bne_iff_ne.2 H4.out];rfl
  case rest=>
   obtain⟨rfl,m2,rfl⟩:=hcut;have av:=H.out.1;rw[Zs h1,Hq.out.1]at av;have aw:cJ _:=av;clear av;cases q
   .generalize ba:mn _ _=V2;obtain⟨R,zV,oV,ah⟩:=HV.out;have az:cG V.heap.size V V2:=by rw[<-ba];exact below_drewN (aJ _ _) _
    have z:=ah.trans (az.mono ah.size);have z2:V2.heap[w.heap.size]? =_:=(az.block _ (jE zV)).trans zV;have af:=H.out.2.2.2.1.below z;have ao:=Ik kb c us cnt ep t b va k vc V2 af a9;obtain⟨q2,E⟩:∃q2,waits c us ep t b k=q2:=⟨_,rfl⟩
    rw[E]at ao;unfold P9 at ao;have a4:cJ _:=λ(_:Unit)=>ao;obtain⟨x0,x1,x2,x3,x4⟩:=cells5 z2;have H2:cJ _:=jy z (jy z2 (jy af E));clear R zV oV ah az z z2 af ao E ba z0 z1 z3 z4 c3 bl;cases q2
    .go_upto_region 8 with(first|(go_at_call 142;refine aT (a4.out ()) ?_;rintro e w3 ⟨rfl,ag⟩)|go_in)
     obtain⟨z,z2,af,E⟩:=H2.out;have ae:=af.below ag;have z3:w3.heap[w.heap.size]? =_:=(ag.block _ (jE z2)).trans z2;have I:=z.trans (ag.mono z.size);obtain⟨b1,bw,b0,b3,bv,a3,J⟩:=ae.obj;obtain⟨g,off,cap,rfl,b2,hg,hx⟩:=J.pos aA;obtain⟨p,hp⟩:∃p,us[b.epoch]? =M p:=⟨_,aO hb⟩
     obtain⟨da,dn,dc,hd⟩:=H.out.2.2.2.2.2.2.2 p (aX hp);have k0:w3.cell? ⟨g,off+b.epoch*3,Z⟩=M (N aE p.1):=Rd.rec qE 3 (λ_=>rfl) J hp (i:=0) (u:=.int _ _) aA rfl
     have k1:w3.cell? ⟨g,off+b.epoch*3+1,Z⟩=M (N aE p.2.1):=by
      have:=Rd.rec qE 3 (λ_=>rfl) J hp (i:=1) (u:=.int _ _) aA rfl;rw[<-dV]at this;exact this
     have k2:w3.cell? ⟨g,off+b.epoch*3+2,Z⟩=M (.slice da dn dc):=by
      have:=Rd.rec qE 3 (λ_=>rfl) J hp (i:=2) (u:=.slice da dn dc) aA (by rw[<-hd];rfl);rw[<-dV]at this;exact this
     have c7:w3.cell? ⟨kb,7,Z⟩=M (aM (M ⟨g,off,Z⟩) us.length cap):=mZ a3 rfl;have y0:=kJ z3;have bz:(b.epoch:Int)<us.length:=aA
     have hI:=Hu hp;have hT:=uT hp;obtain⟨pi,a7⟩:∃x,p.1=x:=⟨_,rfl⟩
     obtain⟨pt,a6⟩:∃x,p.2.1=x:=⟨_,rfl⟩
     rw[a7]at k0 hI;rw[a6]at k1 hT;have b4:=(jE a3)
     have bg:=(jE z3)
     have H3:cJ _:=jy ae (jy z3 (jy I (jy E (jy hI hT))));clear z z2 af E ae z3 I a3 J hx hp hd hI hT a7 a6 ag x0 x1 x2 x3 x4 H2;go_cut [6] (λv wx=>v=aG (M ⟨w3.heap.size,0,Z⟩)/\cJ (wx.heap[w3.heap.size]? =M (aL #[N aE pi,N aE pt,.slice da dn dc] 102 (0,0))/\cG w3.heap.size w3 wx))
     case first=>
      go_region
      all_goals
       go_wp2_with fail;go_meet;refine⟨rfl,?_,?_⟩
       .exact heap_alloc_new _ _
       .first|exact((aJ _ _).alloc jB _).drew|exact(aJ _ _).drew.alloc jB _
     case rest=>
      obtain⟨rfl,bb⟩:=hcut;obtain⟨ub,am⟩:=bb.out;obtain⟨ae,z3,I,E,hI,hT⟩:=H3.out;have a2:=ae.below am;have zc:wc.heap[w.heap.size]? =_:=(am.block _ bg).trans z3;have au:=I.trans (am.mono I.size);obtain⟨u0,u1⟩:=cells2 ub;obtain⟨x0,x1,x2,x3,x4⟩:=cells5 zc;have Y:=JD kb c us cnt ep _ t wc a2 hb;obtain⟨i3,ai⟩:∃x,decide (Ag us b.epoch+c.drift<t)=x:=⟨_,rfl⟩
      obtain⟨i4,ay⟩:∃x,allows us ep t b k=x:=⟨_,rfl⟩
      have a5:i3=bB->∀m,eL PQ 144 #[aG (M ⟨kb,0,Z⟩),gR #[N aE b.epoch,N aE b.id,N aE b.time,.slice va k vc,N aE b.place],N aE t] (wc.drewN m) λx w'=>x=.returned (.bool i4)/\cG (wc.drewN m).heap.size (wc.drewN m) w':=λh3 m=>by
       have:=Ap kb c us cnt ep t b va k vc _ (a2.drewN m) (λbk bs=>by
        refine gW λbu=>?_;have hw:=E;unfold waits at hw;rw[Zs aA,bk]at hw;rw[bs]at ai;rw[ai,h3]at hw;simp at hw)
       rw[ay]at this;exact this
      rw[ai]at Y;have aj:cJ _:=λ(_:Unit)=>Y;have br:cJ _:=a5;have ac:=aw.out;rw[E]at ac;unfold RP at ac;rw[hI,ay]at ac;rw[hT]at ai ac;rw[ai]at ac;have HR:cJ _:=jy ac au;clear ub am ae z3 I E hI hT a2 zc au Y a5 ac ai ay bb k0 k1 k2 c7 y0;by_cases g1:(b.id:Int)=pi
      .have bp:((b.id:Int) != pi)=aR:=by rw[g1];simp
       have G1:cJ _:=g1;clear g1;by_cases g2:t<pt
       .go_wp2_with fail;go_ret;refine⟨?_,HR.out.2⟩;rw[<-HR.out.1,Z0 g2];simp
       .cases i3
        .go_wp2_with (first|(go_at_call 143;refine aT (aj.out ()) ?_;rintro e w4 ⟨rfl,m4,rfl⟩)|fail)
         go_ret;refine⟨?_,HR.out.2.trans (below_drewN (aJ _ _) _)⟩;rw[<-HR.out.1,ZZ (show ¬t<pt by omega),G1.out];simp
        .cases i4
         all_goals
          go_wp2_with (first|(go_at_call 143;refine aT (aj.out ()) ?_;rintro e w4 ⟨rfl,m4,rfl⟩)|(go_at_call 144;refine aT (br.out (by first|rfl|trivial) _) ?_;rintro e w5 ⟨rfl,bq⟩)|fail)
          go_ret;refine⟨?_,HR.out.2.trans ((below_drewN (aJ wc.heap.size wc) m4).trans bq |>.mono HR.out.2.size)⟩;rw[<-HR.out.1,ZZ (show ¬t<pt by omega),G1.out];simp
      .have bp:((b.id:Int) != pi)=bB:=by rw[bne_iff_ne];exact g1
       have G1:cJ _:=g1;clear g1;go_wp2_with fail;go_ret;refine⟨?_,HR.out.2⟩;rw[<-HR.out.1,Z0 (show(b.id:Int)≠pi from G1.out)];simp
    .go_wp2_with (first|(go_at_call 142;refine aT (a4.out ()) ?_;rintro e w3 ⟨rfl,ag⟩)|go_in)
     go_ret;refine⟨?_,H2.out.1.trans (ag.mono H2.out.1.size)⟩;rw[<-aw.out,H2.out.2.2.2];rfl
   .go_wp2_with fail;go_ret;refine⟨?_,HV.out.2.2.2.trans ⟨rfl,rfl,rfl,jB,λ_ _=>rfl⟩⟩;rw[<-aw.out];rfl
open Go.RowKit Go.Joins
section
variable {w:X}{e s n g off cap j:Nat}{xs:List aD}
def Row.put(h:Row w e s (aM (M ⟨g,off,Z⟩) n cap) n xs)(u:aD):Row (w.setCell ⟨g,off+j,Z⟩ u) e s (aM (M ⟨g,off,Z⟩) n cap) n (xs.set j u):=by
 refine⟨by rw[oc];exact h.1,?_⟩;obtain⟨h0,_⟩|⟨g',R,Y,aa,J,hh,E,z,I,hc⟩:=h.2
 .cases h0
 .simp only[eJ,aK,Addr.mk.injEq,and_true,true_and]at J;obtain⟨⟨rfl,rfl⟩,rfl⟩:=J;refine .inr ⟨g,off,cap,_,rfl,jX hh _ u,E,z,by simpa using I,λi v hi=>?_⟩
  grind
def Row.take(h:Row w e s (aM (M ⟨g,off,Z⟩) n cap) n xs){k:Nat}(hk:k<=n):Row w e s (aM (M ⟨g,off,Z⟩) k cap) k (xs.take (k*s)):=by
 have J:k*s<=n*s:=fK _ hk;refine⟨by rw[bK,h.1];omega,?_⟩;obtain⟨h0,_⟩|⟨g',z,E,I,hv,hh,R,Y,aa,hc⟩:=h.2
 .cases h0
 grind
def Row.there(h:Row w e s (aM (M ⟨g,off,Z⟩) n cap) n xs)(z:j<n*s):(w.cell? ⟨g,off+j,Z⟩).isSome=bB:=by rw[h.cell rfl j (xs[j]'(by rw[h.1];exact z)) (aO _)];rfl
end
section
variable {m i e s n g off cap k:Nat}{w:X}{xs:List aD}
abbrev PW:=Ba×aD
variable {V:PW->Nat}{ws rs:List PW}{b:PW}
def lV(p:PW):List aD:=[N aE p.1.epoch,N aE p.1.id,N aE p.1.time,p.2,N aE p.1.place]
def nD(p:PW):(lV p).length=5:=rfl
def pick(V:PW->Nat):List PW->(Nat×Option PW)×List PW
 |[]=>((0,Z),[])
 |b::r=>if V b=0 then((pick V r).1,b::(pick V r).2)else if V b=2 then((2,Z),b::r)else if V b=3 then((3,M b),r)else pick V r
structure lU(V:PW->Nat)(ws rs:List PW)(m i:Nat):Prop where
 len:rs.length=ws.length
 le:m<=i
 ile:i<=ws.length
 back:rs.drop i=ws.drop i
 run:pick V ws=((pick V (ws.drop i)).1,rs.take m++(pick V (ws.drop i)).2)
 sub:∀p,p∈rs->p∈ws
def lU.start(V:PW->Nat)(ws:List PW):lU V ws ws 0 0:=⟨rfl,jB,dL _,rfl,aC,λ_ h=>h⟩
def lU.at(h:lU V ws rs m i)(z:ws[i]? =M b):rs[i]? =M b:=by have:=Z1 (λq=>q[0]?) h.back;simpa[iV,z]using this
def xC{α:Type}{l:List α}{x:α}(h:l[i]? =M x):l.drop i=x::l.drop (i+1):=by obtain⟨z,rfl⟩:=aN.1 h;exact List.drop_eq_getElem_cons z
def lU.stay(h:lU V ws rs m i)(E:ws[i]? =M b)(J:V b=0):lU V ws (rs.set m b) (m+1) (i+1):=by
 have I:=(aN.1 E).1;have R:=h.le;have h2:=h.len;refine⟨by rw[oc];exact h2,aA,aA,?_,?_,λp hp=>(List.mem_or_eq_of_mem_set hp).elim (h.sub p) (λe=>e ▸ aX E)⟩
 .rw[List.drop_set_of_lt aA];have:=Z1 (List.drop 1) h.back;simpa[iC]using this
 .rw[h.run,xC E]
  have hp:pick V (b::ws.drop (i+1))=((pick V (ws.drop (i+1))).1,b::(pick V (ws.drop (i+1))).2):=by
   rw[pick,ZD J]
  rw[hp]
  congr 1
  have z:rs.take (m+1)=rs.take m++[rs[m]' aA]:=eY aA;rw[List.take_set,z,List.set_append_right _ _ (by rw[bK];omega),bK,fZ aA];simp
def lU.go(h:lU V ws rs m i)(z:ws[i]? =M b)(I:V b≠0)(h2:V b≠2)(h3:V b≠3):lU V ws rs m (i+1):=by
 have E:=(aN.1 z).1;refine⟨h.len,by have:=h.le;omega,aA,?_,?_,h.sub⟩
 .have:=Z1 (List.drop 1) h.back;simpa[iC]using this
 .rw[h.run,xC z,pick,Zs I,Zs h2,Zs h3]
def lU.halt(h:lU V ws rs m i)(z:ws[i]? =M b)(h2:V b=2):pick V ws=((2,Z),rs.take m++rs.drop i):=by rw[h.run,h.back,xC z,pick,Zs aA,ZD h2]
def lU.got(h:lU V ws rs m i)(E:ws[i]? =M b)(h3:V b=3):pick V ws=((3,M b),rs.take m++rs.drop (i+1)):=by
 have z:rs.drop (i+1)=ws.drop (i+1):=by
  have:=Z1 (List.drop 1) h.back;simpa[iC]using this
 rw[h.run,z,xC E,pick,Zs aA,Zs aA,ZD h3]
def lU.done(h:lU V ws rs m i)(z:ws.length<=i):pick V ws=((0,Z),rs.take m):=by rw[h.run,List.drop_eq_nil_of_le z,pick,gI]
section
variable {α:Type}(f:α->List aD)(s:Nat)(hf:∀x,(f x).length=s)
include hf
def qx(l:List α)(k:Nat):(l.flatMap f).take (k*s)=(l.take k).flatMap f/\(l.flatMap f).drop (k*s)=(l.drop k).flatMap f:=by
 induction l generalizing k with
 |nil=>simp
 |cons x l ih=>
  cases k with
  |zero=>simp
  |succ k=>
   have hk:(k+1)*s=s+k*s:=by rw[iP];omega
   rw[gY,hk];constructor
   .rw[List.take_append,hf x,eH (by rw[hf x];omega),Nat.add_sub_cancel_left,(ih k).1,List.take_succ_cons,gY]
   .rw[List.drop_append,hf x,List.drop_of_length_le (by rw[hf x];omega),Nat.add_sub_cancel_left,(ih k).2,List.drop_succ_cons,dS]
end
def Row.over(h:Row w e s (aM (M ⟨g,off,Z⟩) n cap) n xs)(vs:List aD)(hk:k+vs.length<=n*s):Row (w.setCells g (off+k) vs) e s (aM (M ⟨g,off,Z⟩) n cap) n (xs.take k++vs++xs.drop (k+vs.length)):=by
 have hl:=h.1;refine⟨by simp only[aS,bK,dW];omega,?_⟩;obtain⟨h0,_⟩|⟨g',Y,aa,ac,hv,hh,E,J,R,hc⟩:=h.2
 .cases h0
 .simp only[eJ,aK,Addr.mk.injEq,and_true,true_and]at hv;obtain⟨⟨rfl,rfl⟩,rfl⟩:=hv;obtain⟨I,k1,k2,k3,k4⟩:=oK vs (off+k) hh;refine .inr ⟨g,off,cap,I,rfl,k1,E,J,by rw[k2];exact R,λj v z=>?_⟩;have ae:n*s<=cap*s:=fK _ E;by_cases h1:j<k
  .rw[fM,bZ (by rw[bK];omega),gU,ZD h1]at z;rw[k3 _ (.inl aA)];exact hc j v z
  .by_cases h2:j<k+vs.length
   .rw[fM,bV (by rw[bK];omega),bK,fZ aA,bZ aA]at z;have:=k4 _ v z aA;rw[show off+j=off+k+(j-k) from by omega];exact this
   .rw[bV (by simp only[aS,bK];omega)]at z;simp only[aS,bK]at z;rw[fZ aA,iV]at z;rw[k3 _ (.inr aA)];exact hc j v (by rw[<-z];congr 1;omega)
def Row.lay(h:Row w e s (aM (M ⟨g,off,Z⟩) n cap) n xs){j:Nat}(vs:List aD)(hk:k<=n)(hv:vs.length=j*s)(hj:k+j<=cap):Row (w.setCells g (off+k*s) vs) e s (aM (M ⟨g,off,Z⟩) (k+j) cap) (k+j) (xs.take (k*s)++vs):=by
 have hl:=h.1;have R:k*s<=n*s:=fK _ hk;refine⟨by rw[aS,bK,hl,fZ R,hv,iP],?_⟩;obtain⟨h0,_⟩|⟨g',ac,ae,ag,z,hh,ah,J,aa,hc⟩:=h.2
 .cases h0
 .simp only[eJ,aK,Addr.mk.injEq,and_true,true_and]at z;obtain⟨⟨rfl,rfl⟩,rfl⟩:=z;obtain⟨I,k1,k2,k3,k4⟩:=oK vs (off+k*s) hh;have Y:(k+j)*s<=cap*s:=fK _ hj;rw[iP]at Y;refine .inr ⟨g,off,cap,I,rfl,k1,hj,J,by rw[k2];exact aa,λi v E=>?_⟩;by_cases h1:i<k*s
  .rw[bZ (by rw[bK];omega),gU,ZD h1]at E;rw[k3 _ (.inl aA)];exact hc i v E
  .rw[bV (by rw[bK];omega),bK,fZ aA]at E;have af:=(aN.1 E).1;have:=k4 _ v E aA;rw[show off+i=off+k*s+(i-k*s) from by omega];exact this
section
variable {α:Type}(f:α->List aD)(s:Nat)(hf:∀x,(f x).length=s)
include hf
def Row.adL{rs:List α}(h:Row w e s (aM (M ⟨g,off,Z⟩) n cap) n (rs.flatMap f))(E:m<rs.length)(x:α):Row (w.setCells g (off+m*s) (f x)) e s (aM (M ⟨g,off,Z⟩) n cap) n ((rs.set m x).flatMap f):=by have I:=h.1;rw[mQ f s hf]at I;have z:(m+1)*s<=rs.length*s:=fK _ E;rw[iP,Nat.one_mul]at z;have:=h.over (k:=m*s) (f x) (by rw[hf x];omega);rw[(qx f s hf rs m).1,hf x,show m*s+s=(m+1)*s from by rw[iP,Nat.one_mul],(qx f s hf rs (m+1)).2]at this;rw[List.set_eq_take_append_cons_drop,ZD E,iw,gY,<-fM];exact this
def Row.Ic{rs:List α}(h:Row w e s (aM (M ⟨g,off,Z⟩) n cap) n (rs.flatMap f))(z:List α)(hk:k<=n)(E:k+z.length<=cap):Row (w.setCells g (off+k*s) (z.flatMap f)) e s (aM (M ⟨g,off,Z⟩) (k+z.length) cap) (k+z.length) ((rs.take k++z).flatMap f):=by have:=h.lay (k:=k) (j:=z.length) _ hk (mQ f s hf z) E;rw[(qx f s hf rs k).1]at this;rw[iw];exact this
end
end
section
variable {w w':X}{kb nb cnt ep sq e n:Nat}{c:Cf}{vu vo vw:aD}{us:List PB}{dl:Nat->List (List UInt8)}{ws:List PW}
def kQ(w:X)(v:aD)(l:List (List UInt8)):Prop:=Row w 9 1 v l.length (l.map nT)
structure rH(w:X)(kb:Nat)(c:Cf)(vu:aD)(us:List PB)(dl:Nat->List (List UInt8))(nb:Nat)(vo vw:aD)(ws:List PW)(cnt ep sq:Nat):Prop where
 obj:w.heap[kb]? =M (aL (jP c vu nb vo vw cnt ep sq) 100 (0,0))
 upper:Row w 102 3 vu us.length (us.flatMap qE)
 wait:Row w 118 5 vw ws.length (ws.flatMap lV)
 deps:∀(j:Nat)(p:PB),us[j]? =M p->kQ w p.2.2 (dl j)
 txs:∀p,p∈ws->kQ w p.2 p.1.txs
structure yS(c:Cf)(us:List PB)(ws:List PW)(cnt ep:Nat):Prop where
 times:∀p,p∈us->0<=p.2.1/\p.2.1<=4294967296
 step:0<=c.step/\c.step<=20
 drift:0<=c.drift/\c.drift<=100
 window:0<=c.window/\c.window<=8
 cnt:cnt<4294967296
 len:us.length<=4294967296
 wlen:ws.length<=4294967296
 ep:ep<us.length
 batch:∀p,p∈ws->p.1.epoch<us.length/\p.1.place<=4294967296
def rH.jM{XS:Nat->Prop}(h:rH w kb c vu us dl nb vo vw ws cnt ep sq)(hc:jI XS w w')(R:¬XS kb)(h2:∀g,vu.ownBlock=M g->¬XS g)(h3:∀g,vw.ownBlock=M g->¬XS g)(h4:∀(g:Nat)(cs:Array aD)(J:Nat×Nat),w.heap[g]? =M (aL cs 9 J)->¬XS g):rH w' kb c vu us dl nb vo vw ws cnt ep sq:=
 ⟨(hc.block _ (jE h.obj) R).trans h.obj,h.upper.jM hc h2,h.wait.jM hc h3,λj p hp=>Row.jM (h.deps j p hp) hc (λg I=>by obtain⟨E,z⟩:=Row.obj (h.deps j p hp) I;exact h4 g E _ z),λp hp=>Row.jM (h.txs p hp) hc (λg I=>by obtain⟨E,z⟩:=Row.obj (h.txs p hp) I;exact h4 g E _ z)⟩
def rH.below(h:rH w kb c vu us dl nb vo vw ws cnt ep sq)(z:cG w.heap.size w w'):rH w' kb c vu us dl nb vo vw ws cnt ep sq:=h.jM (.below z jB (λ_=>False)) (λe=>e) (λ_ _ e=>e) (λ_ _ e=>e) (λ_ _ _ _ e=>e)
def rH.look(h:rH w kb c vu us dl nb vo vw ws cnt ep sq)(s:yS c us ws cnt ep):Look w kb c us cnt ep:=
 ⟨⟨vu,nb,vo,vw,sq,h.obj,h.upper.rd⟩,s.times,s.step,s.drift,s.window,jo s.cnt,s.len⟩
def jH{E s:Nat}{v:aD}{xs:List aD}(h:Row w e s v n xs){k:Nat}{cs:Array aD}{I:Nat×Nat}(hk:w.heap[k]? =M (aL cs E I))(z:E≠e):v.ownBlock≠M k:=λR=>by
 obtain⟨J,hc⟩:=h.obj R;rw[hk]at hc;simp at hc;exact z hc.2.1
section
variable {P:Program}(w:X){ops:Array Oper}{rest:List Oper}{o:Oper}{a:Act}{Q:Exit->Act->X->Prop}
def kT(R:o.guard=Z)(s x:Operand)(t:TypeId)(ho:o.op=.call { callee:=.builtin .append,args:=#[s,x],argTypes:=#[t,t] })(e:TypeId)(i:TypeInfo)(size:Nat)(ht:P.underlying t=M (.slice e))(hi:P.info? e=M i)(E:i.size=size)(b off n cap:Nat)(hs:a.eval s=aM (M ⟨b,off,Z⟩) n cap)(ad:Addr)(m c:Nat)(z:List aD)(hx:a.eval x=aM (M ad) m c)(hl:z.length=m*size)(J:∀j u,z[j]? =M u->w.cell? (ad.add j)=M u)(h1:∀u∈z,u.oneCell'=bB)(I:n+m<=cap)(hc:∀j,j<z.length->(w.cell? ⟨b,off+n*size+j,Z⟩).isSome=bB)(hf:∀j,w.frozen? ⟨b,j,Z⟩=aR)(hK:wpList P ops Q rest (a.put o.dst (aM (M ⟨b,off,Z⟩) (n+m) cap)) (w.setCells b (off+n*size) z)):wpList P ops Q (o::rest) a w:=by
 refine wpList_plain R λK Y=>?_;subst E;have hr:=run_append_room_cells (P:=P) w t o.type e i ht hi b off n cap ad m c z hl J h1 I hc (λj _=>hf _);unfold Oper.wp execOp;simp only[ho,resolve,invoke,builtin,iU,Sem.run_pure,iq,fQ,eP,fP,hs,hx,hr];exact Y _ _ hK
end
def Bf:(PQ.info? 118).map (λi=>(i.zero,i.size,i.bytes))=M (M (gR #[N aE 0,N aE 0,N aE 0,aM Z 0 0,N aE 0]),5,56):=XN
def acu(w:X)(R:Nat)(a b c d e:aD):X:=((((w.setCell ⟨R,0,Z⟩ a).setCell ⟨R,1,Z⟩ b).setCell ⟨R,2,Z⟩ c).setCell ⟨R,3,Z⟩ d).setCell ⟨R,4,Z⟩ e
def qI(w:X)(R:Nat)(a b c d e:aD):jI (λk=>k=R) w (acu w R a b c d e):=
 ((((jI.set w R 0 a).trans (jI.set _ R 1 b) (λ_ _ e=>e)).trans (jI.set _ R 2 c) (λ_ _ e=>e)).trans (jI.set _ R 3 d) (λ_ _ e=>e)).trans (jI.set _ R 4 e) (λ_ _ e=>e)
def qF{Wd:X}{z:aD}{ws':List PW}{R:Nat}(J:Wd.heap[kb]? =M (aL (jP c vu nb vo vw cnt ep sq) 100 (0,0)))(hu:Row Wd 102 3 vu us.length (us.flatMap qE))(hd:∀(j:Nat)(p:PB),us[j]? =M p->kQ Wd p.2.2 (dl j))(hr:Row Wd 118 5 z ws'.length (ws'.flatMap lV))(ht:∀p,p∈ws'->kQ Wd p.2 p.1.txs){rc:Array aD}(hR:Wd.heap[R]? =M (aL rc 118 (0,0)))(I:z.ownBlock≠M R)(x0 x1 x2 x3 x4:aD):rH (acu (Wd.setCell ⟨kb,10,Z⟩ z) R x0 x1 x2 x3 x4) kb c vu us dl nb vo z ws' cnt ep sq:=by
 have Y:kb≠R:=λe=>by rw[e,hR]at J;simp at J
 have E:=jI.set Wd kb 10 z
 have h1:rH (Wd.setCell ⟨kb,10,Z⟩ z) kb c vu us dl nb vo z ws' cnt ep sq:=by
  refine⟨?_,hu.jM E (λg I e=>jH hu J aB (by rw[I,e])),hr.jM E (λg I e=>jH hr J aB (by rw[I,e])),λj p hp=>Row.jM (hd j p hp) E (λg I e=>jH (hd j p hp) J aB (by rw[I,e])),λp hp=>Row.jM (ht p hp) E (λg I e=>jH (ht p hp) J aB (by rw[I,e]))⟩;have:=jX J 10 z;simpa[jP]using this
 have ac:(Wd.setCell ⟨kb,10,Z⟩ z).heap[R]? =M (aL rc 118 (0,0)):=(aW _ _ _ _ (λe=>Y e.symm)).trans hR;refine h1.jM (qI _ R x0 x1 x2 x3 x4) Y (λg I e=>jH h1.upper ac aB (by rw[I,e])) (λg ae e=>I (by rw[ae,e])) (λg cs fz aa e=>?_);rw[e,ac]at aa;simp at aa
def CW(h:∀p,p∈ws->kQ w p.2 p.1.txs):∀u,u∈ws.flatMap lV->u.oneCell'=bB:=λu E=>by
 obtain⟨p,hp,z⟩:=List.mem_flatMap.1 E;obtain⟨a,cap,e⟩:=Row.slice (h p hp);unfold lV at z;rw[e]at z;simp at z;rcases z with rfl|rfl|rfl|rfl|rfl<;>rfl
def BQ{g off cap:Nat}{rs:List PW}(h:Row w e 5 (aM (M ⟨g,off,Z⟩) n cap) n (rs.flatMap lV))(i:Nat):∀j u,((rs.drop i).flatMap lV)[j]? =M u->w.cell? ((⟨g,off+i*5,Z⟩:Addr).add j)=M u:=λj u z=>by
 rw[<-(qx lV 5 nD rs i).2,iV]at z;have:=h.cell rfl _ u z;rw[<-dV]at this;unfold lr;split
 .rename_i E;subst E;exact this
 .exact this
def yK(o:Nat×Option PW):aD:=match o.2 with
 |some b=>cP #[P9 b.1 b.2,N .u8 o.1]
 |none=>cP #[gR #[N aE 0,N aE 0,N aE 0,aM Z 0 0,N aE 0],N .u8 o.1]
def judged(c:Cf)(us:List PB)(cnt ep:Nat)(b:PW):Nat:=verdict c us cnt ep b.1 b.1.txs.length
def PV(kb:Nat)(c:Cf)(vu:aD)(us:List PB)(dl:Nat->List (List UInt8))(nb:Nat)(vo vw:aD)(ws:List PW)(cnt ep sq:Nat)(w:X)(h:rH w kb c vu us dl nb vo vw ws cnt ep sq)(s:yS c us ws cnt ep):eL PQ 86 #[aG (M ⟨kb,0,Z⟩)] w λe w'=>e=.returned (yK (pick (judged c us cnt ep) ws).1)/\∃ba,rH w' kb c vu us dl nb vo ba (pick (judged c us cnt ep) ws).2 cnt ep sq/\(∀g,ba.ownBlock=M g->vw.ownBlock=M g)/\jI (λk=>k=kb\/vw.ownBlock=M k) w w':=by
 obtain⟨W,hW,J,ro⟩:=jD w #[N aE 0,N aE 0,N aE 0,aM Z 0 0,N aE 0] 118;have hD:=h.below J;have c10:W.cell? ⟨kb,10,Z⟩=M vw:=mZ hD.obj rfl;have fk:=aQ hD.obj;have bz:=(jE hD.obj)
 have b7:=(jE h.obj)
 obtain⟨rfl,a6⟩|⟨g,off,cap,b6,rfl,bl,cb,b9,_,_⟩:=h.wait.2
 .obtain rfl:=bP a6;obtain⟨r0,r1,r2,r3,r4⟩:=cells5 ro;have fr:=aQ ro;have bp:kb≠w.heap.size:=by omega
  have H:cJ _:=jy hD (jy J ro);clear hD J ro h s a6;go_enter (fq Tryz.func86 rfl),Tryz.ntmps86;go_upto_region 1 with fail;rw[<-hW];clear hW;go_wp2_with fail;go_loopg [4,5,6,7,18] 0 (λgg v4 _ _ _ a3 wx=>v4=aM Z 0 0/\a3=N aE 0/\wx=W)
  case atStart=>exact⟨rfl,rfl,rfl⟩
  case round=>
   obtain⟨rfl,rfl,rfl⟩:=hrel;go_wp2_with fail;obtain⟨hD,J,ro⟩:=H.out;refine cN (v:=cP #[.agg _,.int _ 0]) (by simp[results,mE,go_sem,r0,r1,r2,r3,r4]) rfl ⟨rfl,_,?_,λg hg=>hg,?_⟩
   .exact qF hD.obj hD.upper hD.deps hD.wait hD.txs ro (by simp[eE]) _ _ _ _ _
   .exact((jI.below J jB _).trans (jI.set _ kb 10 _) (λk _ e=>.inl e)).trans (qI _ _ _ _ _ _ _) (λk hk e=>aA)
 .have b8:=(jE bl)
  have bq:kb≠g:=λe=>jH h.wait h.obj aB (by rw[e];rfl);have cc:=s.wlen;have b0:(0:Int)<=(cap:Int):=aA
  have b2:(ws.length:Int)<=cap:=aA
  obtain⟨V,hV⟩:∃V,V=judged c us cnt ep:=⟨_,rfl⟩
  rw[<-hV]
  have stay:∀Wd,jI (λk=>k=g) W Wd->Wd.heap[kb]? =M (aL (jP c vu nb vo (aM (M ⟨g,off,Z⟩) ws.length cap) cnt ep sq) 100 (0,0))/\Row Wd 102 3 vu us.length (us.flatMap qE)/\(∀(j:Nat)(p:PB),us[j]? =M p->kQ Wd p.2.2 (dl j))/\(∀p,p∈ws->kQ Wd p.2 p.1.txs)/\Wd.heap[w.heap.size]? =M (aL #[N aE 0,N aE 0,N aE 0,aM Z 0 0,N aE 0] 118 (0,0)):=λWd hX=>by
   obtain⟨gc,aw⟩:=hD.wait.obj (g:=g) rfl;refine⟨(hX.block _ bz bq).trans hD.obj,hD.upper.jM hX (λq hq e=>jH hD.upper aw aB (by rw[hq,e])),λj p hp=>Row.jM (hD.deps j p hp) hX (λq hq e=>jH (hD.deps j p hp) aw aB (by rw[hq,e])),λp hp=>Row.jM (hD.txs p hp) hX (λq hq e=>jH (hD.txs p hp) aw aB (by rw[hq,e])),(hX.block _ (jE ro) aA).trans ro⟩
  obtain⟨i0,bd,bu,bh,bw⟩:=info_parts Bf;have Hi:cJ _:=jy bd bh;have H:cJ _:=jy hD (jy J (jy ro (jy s (jy stay (jy hV h)))));clear hD J ro h s bl stay hV bd bu bh bw;go_enter (fq Tryz.func86 rfl),Tryz.ntmps86;go_upto_region 1 with fail;rw[<-hW];clear hW;go_wp2_with fail;go_loopg [4,5,6,7,18] ws.length (λgg v4 _ _ _ a3 wx=>∃(i m:Nat)(rs:List PW),a3=N aE i/\v4=aM (M ⟨g,off,Z⟩) m cap/\gg=ws.length-i/\m<=i/\i<=ws.length/\cJ (lU V ws rs m i/\Row wx 118 5 (aM (M ⟨g,off,Z⟩) ws.length cap) ws.length (rs.flatMap lV)/\jI (λk=>k=g) W wx))
  case atStart=>exact⟨0,0,ws,rfl,rfl,rfl,jB,dL _,lU.start V ws,H.out.1.wait,jI.refl _ _⟩
  case round=>
   obtain⟨i,m,rs,rfl,rfl,rfl,ca,b4,HI⟩:=hrel;clear c10 fk;obtain⟨q1,q2,q3,q4,q5⟩:=H.out.2.2.2.2.1 wr HI.out.2.2;have c10:wr.cell? ⟨kb,10,Z⟩=M (aM (M ⟨g,off,Z⟩) ws.length cap):=mZ q1 rfl;have fk:=aQ q1;have fr:=aQ q5;obtain⟨r0,r1,r2,r3,r4⟩:=cells5 q5;have bp:kb≠w.heap.size:=aA
   by_cases bs:i<ws.length
   .have bg:(i:Int)<ws.length:=by omega
    obtain⟨b,hb⟩:∃b,ws[i]? =M b:=⟨_,aO bs⟩
    obtain⟨p1,p2,p3⟩:=HI.out;have bj:=p1.at hb;have aq:=aX hb;obtain⟨va,vc,a0⟩:=Row.slice (q4 b aq);have kk:=λj u (E:j<5) (hu:(lV b)[j]? =M u)=>p2.cell rfl (i*5+j) u (by rw[flat_get lV 5 nD rs i j b bj E];exact hu);have k0:wr.cell? ⟨g,off+i*5,Z⟩=M (N aE b.1.epoch):=by have:=kk 0 _ aA rfl;exact this
    have k1:wr.cell? ⟨g,off+i*5+1,Z⟩=M (N aE b.1.id):=by have:=kk 1 _ aA rfl;rw[<-dV]at this;exact this
    have k2:wr.cell? ⟨g,off+i*5+2,Z⟩=M (N aE b.1.time):=by have:=kk 2 _ aA rfl;rw[<-dV]at this;exact this
    have k3:wr.cell? ⟨g,off+i*5+3,Z⟩=M (.slice va b.1.txs.length vc):=by have:=kk 3 _ aA rfl;rw[<-dV,a0]at this;exact this
    have k4:wr.cell? ⟨g,off+i*5+4,Z⟩=M (N aE b.1.place):=by have:=kk 4 _ aA rfl;rw[<-dV]at this;exact this
    obtain⟨W2,a7,az,yo⟩:=jD wr #[N aE b.1.epoch,N aE b.1.id,N aE b.1.time,.slice va b.1.txs.length vc,N aE b.1.place] 118;obtain⟨y0,y1,y2,y3,y4⟩:=cells5 yo;have ay:=p3.trans (.below az jB (λ_=>False)) (λ_ _ e=>e.elim);obtain⟨s1,s2,s3,s4,s5⟩:=H.out.2.2.2.2.1 W2 ay;have sn:=H.out.2.2.2.1;have bm:Look W2 kb c us cnt ep:=⟨⟨vu,nb,vo,_,sq,s1,s2.rd⟩,sn.times,sn.step,sn.drift,sn.window,jo sn.cnt,sn.len⟩
    have ao:=Uh kb c us cnt ep _ va b.1.txs.length vc W2 bm sn.ep (sn.batch b aq).1 (sn.batch b aq).2 (λp hp=>by
     obtain⟨j,E⟩:=List.getElem?_of_mem hp;obtain⟨x,y,bv⟩:=Row.slice (s3 j p E);exact⟨x,_,y,bv⟩)
    have a2:verdict c us cnt ep b.1 b.1.txs.length=V b:=by rw[H.out.2.2.2.2.2.1];rfl
    rw[a2]at ao;unfold P9 at ao
    have a4:V b=0\/V b=1\/V b=2\/V b=3:=by
     rw[<-a2];unfold verdict;split
     .simp
     .split
      .simp
      .split
       .simp
       .split<;>simp
    obtain⟨vb,a1⟩:∃vb,V b=vb:=⟨_,rfl⟩
    rw[a1]at ao a4;have ar:cJ _:=λ(_:Unit)=>ao;have HB:cJ _:=jy hb (jy aq (jy a0 (jy az (jy yo (jy ay a1)))));clear q1 q2 q3 q4 q5 p1 p2 p3 bj hb aq a0 kk az yo ay s1 s2 s3 s4 s5 sn bm ao a2 a1
    have behind:∀w3,cG W2.heap.size W2 w3->jI (λk=>k=g) W w3/\Row w3 118 5 (aM (M ⟨g,off,Z⟩) ws.length cap) ws.length (rs.flatMap lV)/\w3.heap[wr.heap.size]? =M (aL #[N aE b.1.epoch,N aE b.1.id,N aE b.1.time,.slice va b.1.txs.length vc,N aE b.1.place] 118 (0,0)):=λw3 ac=>
     ⟨HB.out.2.2.2.2.2.1.trans (.below ac jB (λ_=>False)) (λ_ _ e=>e.elim),(HI.out.2.1.below HB.out.2.2.2.1).below ac,(ac.block _ (jE HB.out.2.2.2.2.1)).trans HB.out.2.2.2.2.1⟩
    have R:cJ _:=behind;clear behind;go_upto_region 5 with fail;rw[<-a7];clear a7;obtain rfl|rfl|rfl|rfl:=a4
    .go_upto_region 8 with(first|(go_at_call 128;refine aT (ar.out ()) ?_;rintro e w3 ⟨rfl,ac⟩)|go_in)
     obtain⟨e1,e2,e3⟩:=R.out w3 ac;obtain⟨x0,x1,x2,x3,x4⟩:=cells5 e3;have an:=λo=>e2.below ((aJ _ w3).alloc jB o);have ag:cJ _:=jy an e1;clear e1 e2 e3 an k0 k1 k2 k3 k4 y0 y1 y2 y3 y4;go_wp2_with (first|(at_builtin;refine kT _ rfl (.tmp 29) (.tmp 31) 98 rfl 118 i0 5 (uq mS) Hi.out.1 Hi.out.2 g off m cap rfl _ 1 1 [N aE b.1.epoch,N aE b.1.id,N aE b.1.time,.slice va b.1.txs.length vc,N aE b.1.place] rfl rfl (by intro j u E;match j,E with|0,E=>(simp at E;subst E;simp[lr])|1,E=>(simp at E;subst E;simp[lr])|2,E=>(simp at E;subst E;simp[lr])|3,E=>(simp at E;subst E;simp[lr])|4,E=>(simp at E;subst E;simp[lr])) (by intro u hu;simp at hu;rcases hu with rfl|rfl|rfl|rfl|rfl<;>rfl) aA (by intro j E;(have a5:j<5:=E);have:=(ag.out.1 (aL #[N aE b.1.epoch,N aE b.1.id,N aE b.1.time,.slice va b.1.txs.length vc,N aE b.1.place] 118)).there (j:=m*5+j) aA;rw[<-dV]at this;exact this) (by intro j;exact(ag.out.1 _).frozen rfl j) ?_)|go_in)
     go_roundg (ws.length-(i+1))
     case measure=>omega
     case rel=>
      refine⟨_,_,_,by go_num,rfl,rfl,aA,aA,HI.out.1.stay HB.out.1 HB.out.2.2.2.2.2.2,?_,?_⟩
      .have:=Row.adL lV 5 nD (ag.out.1 (aL #[N aE b.1.epoch,N aE b.1.id,N aE b.1.time,.slice va b.1.txs.length vc,N aE b.1.place] 118)) (m:=m) (by rw[HI.out.1.len];omega) b;unfold lV at this⊢;rw[HB.out.2.2.1]at this;exact this
      .exact(ag.out.2.trans (jI.alloc (λ_=>False) w3 _) (λ_ _ e=>e.elim)).trans (.grown (kH g _ _ _).1) (λk _ e=>by simpa using e.symm)
    .go_wp2_with (first|(go_at_call 128;refine aT (ar.out ()) ?_;rintro e w3 ⟨rfl,ac⟩)|go_in)
     go_roundg (ws.length-(i+1))
     case measure=>omega
     case rel=>
      obtain⟨e1,e2,e3⟩:=R.out w3 ac;exact⟨_,m,rs,by go_num,rfl,rfl,aA,aA,HI.out.1.go HB.out.1 (by rw[HB.out.2.2.2.2.2.2];omega) (by rw[HB.out.2.2.2.2.2.2];omega) (by rw[HB.out.2.2.2.2.2.2];omega),e2,e1⟩
    .go_upto_region 10 with(first|(go_at_call 128;refine aT (ar.out ()) ?_;rintro e w3 ⟨rfl,ac⟩)|go_in)
     obtain⟨e1,e2,e3⟩:=R.out w3 ac;obtain⟨s1,s2,s3,s4,s5⟩:=H.out.2.2.2.2.1 w3 e1;have bn:w3.cell? ⟨kb,10,Z⟩=M (aM (M ⟨g,off,Z⟩) ws.length cap):=mZ s1 rfl;have ae:=CW (λp hp=>s4 p (HI.out.1.sub p (je hp))) (ws:=rs.drop i);have ak:=BQ e2 i;have ai:(rs.drop i).length=ws.length-i:=by rw[dW,HI.out.1.len]
     have am:((rs.drop i).flatMap lV).length=(ws.length-i)*5:=by rw[mQ lV 5 nD,ai]
     obtain⟨Y,I⟩:∃Y,Y=(rs.drop i).flatMap lV:=⟨_,rfl⟩
     rw[<-I]at ae ak am;have Hn:cJ _:=jy ae (jy ak (jy am (jy I (jy e2 (jy e1 ai)))));have br:(i:Int)<=ws.length:=aA
     have b5:¬(i=cap):=aA
     have b1:(i:Int)<=cap:=aA
     clear e1 e2 e3 s1 s2 s3 s4 s5 ae ak am I ai k0 k1 k2 k3 k4 y0 y1 y2 y3 y4 c10 r0 r1 r2 r3 r4 fk fr;go_wp2_with (first|(at_builtin;refine kT _ rfl (.tmp 36) (.tmp 42) 98 rfl 118 i0 5 (uq mS) Hi.out.1 Hi.out.2 g off m cap rfl _ _ _ Y rfl Hn.out.2.2.1 Hn.out.2.1 Hn.out.1 aA (by intro j E;(have a5:j<(ws.length-i)*5:=(by rw[<-Hn.out.2.2.1];exact E));have:=Hn.out.2.2.2.2.1.there (j:=m*5+j) aA;rw[<-dV]at this;exact this) (by intro j;exact Hn.out.2.2.2.2.1.frozen rfl j) ?_;generalize hX:od _ _ _ _=Wd;have z:jI (λk=>k=g) W Wd:=(by rw[<-hX];exact Hn.out.2.2.2.2.2.1.trans (.grown (kH g _ _ _).1) (λk _ e=>by simpa using e.symm));obtain⟨s1,s2,s3,s4,s5⟩:=H.out.2.2.2.2.1 Wd z;have bn:Wd.cell? ⟨kb,10,Z⟩=M (aM (M ⟨g,off,Z⟩) ws.length cap):=(by rw[aI s1];rfl);have fk:=aQ s1;have fr:=aQ s5;have r0:Wd.cell? ⟨w.heap.size,0,Z⟩=M (N aE 0):=(by rw[aI s5];rfl);have r1:Wd.cell? ⟨w.heap.size,1,Z⟩=M (N aE 0):=(by rw[aI s5];rfl);have r2:Wd.cell? ⟨w.heap.size,2,Z⟩=M (N aE 0):=(by rw[aI s5];rfl);have r3:Wd.cell? ⟨w.heap.size,3,Z⟩=M (aM Z 0 0):=(by rw[aI s5];rfl);have r4:Wd.cell? ⟨w.heap.size,4,Z⟩=M (N aE 0):=(by rw[aI s5];rfl);have HX:cJ _:=jy hX z;clear hX z s1 s2 s3 s4 s5)|go_in)
     obtain⟨hD,J,ro,s,stay,hV,h⟩:=H.out;obtain⟨t1,t2,t3,t4,t5,t6,t7⟩:=Hn.out;obtain⟨hX,z⟩:=HX.out;obtain⟨s1,s2,s3,s4,s5⟩:=stay Wd z;have af:=HI.out.1.halt HB.out.1 HB.out.2.2.2.2.2.2;have aa:=Row.Ic lV 5 nD t5 (k:=m) (rs.drop i) aA (by rw[t7];omega);rw[<-t4,hX,t7]at aa;have ah:(rs.take m++rs.drop i).length=m+(ws.length-i):=by rw[aS,bK,t7,HI.out.1.len,fZ aA]
     refine cN (v:=cP #[gR #[N aE 0,N aE 0,N aE 0,aM Z 0 0,N aE 0],N .u8 2]) (by simp[results,mE,go_sem,r0,r1,r2,r3,r4]) rfl ⟨by rw[af];rfl,aM (M _) (m+(ws.length-i)) cap,?_,λq hq=>hq,?_⟩
     .rw[af];refine qF s1 s2 s3 (by rw[ah];exact aa) (λp hp=>?_) s5 (by simp[eE];omega) _ _ _ _ _;obtain hp|hp:=dM.1 hp
      .exact s4 p (HI.out.1.sub p (jd hp))
      .exact s4 p (HI.out.1.sub p (je hp))
     .exact((((jI.below J jB _).trans z (λk _ e=>.inr (by rw[e];rfl))).trans (jI.set _ kb 10 _) (λk _ e=>.inl e)).trans (qI _ _ _ _ _ _ _) (λk hk e=>aA))
    .go_upto_region 13 with(first|(go_at_call 128;refine aT (ar.out ()) ?_;rintro e w3 ⟨rfl,ac⟩)|go_in)
     obtain⟨e1,e2,e3⟩:=R.out w3 ac;obtain⟨s1,s2,s3,s4,s5⟩:=H.out.2.2.2.2.1 w3 e1;have bn:w3.cell? ⟨kb,10,Z⟩=M (aM (M ⟨g,off,Z⟩) ws.length cap):=mZ s1 rfl;have ae:=CW (λp hp=>s4 p (HI.out.1.sub p (je hp))) (ws:=rs.drop (i+1));have ak:=BQ e2 (i+1);have ai:(rs.drop (i+1)).length=ws.length-(i+1):=by rw[dW,HI.out.1.len]
     have am:((rs.drop (i+1)).flatMap lV).length=(ws.length-(i+1))*5:=by rw[mQ lV 5 nD,ai]
     obtain⟨Y,I⟩:∃Y,Y=(rs.drop (i+1)).flatMap lV:=⟨_,rfl⟩
     rw[<-I]at ae ak am;have a8:=(jE e3)
     have bk:wr.heap.size≠g:=by
      have h1:=HI.out.2.1.lt (g:=g) rfl;omega
     have Hn:cJ _:=jy ae (jy ak (jy am (jy I (jy e2 (jy e1 (jy ai (jy e3 ac)))))));have br:(i:Int)+1<=(ws.length:Int):=aA
     have b1:(i:Int)+1<=(cap:Int):=aA
     clear e1 e2 e3 s1 s2 s3 s4 s5 ae ak am I ai k0 k1 k2 k3 k4 y0 y1 y2 y3 y4 c10 r0 r1 r2 r3 r4 fk fr;by_cases bo:i+1=cap
     .have a9:ws.length-(i+1)=0:=by omega
      have au:Y=[]:=bP (by rw[Hn.out.2.2.1,a9]);have ap:cJ _:=au;clear a9 au;subst bo;go_wp2_with (first|(at_builtin;refine kT _ rfl (.tmp 50) (.tmp 57) 98 rfl 118 i0 5 (uq mS) Hi.out.1 Hi.out.2 g off m _ rfl _ 0 0 Y rfl (by rw[ap.out];rfl) (by intro j u E;rw[ap.out]at E;simp at E) Hn.out.1 aA (by intro j E;rw[ap.out]at E;simp at E) (by intro j;exact Hn.out.2.2.2.2.1.frozen rfl j) ?_;generalize hX:od _ _ _ _=Wd;have aj:jI (λk=>k=g) w3 Wd:=(by rw[<-hX];exact(jI.grown (kH g _ _ _).1).mono (λk _ e=>by simpa using e.symm));have z:=Hn.out.2.2.2.2.2.1.trans aj (λ_ _ e=>e);obtain⟨s1,s2,s3,s4,s5⟩:=H.out.2.2.2.2.1 Wd z;have b3:=(aj.block _ a8 bk).trans Hn.out.2.2.2.2.2.2.2.1;have x0:Wd.cell? ⟨wr.heap.size,0,Z⟩=M (N aE b.1.epoch):=(by rw[aI b3];rfl);have x1:Wd.cell? ⟨wr.heap.size,1,Z⟩=M (N aE b.1.id):=(by rw[aI b3];rfl);have x2:Wd.cell? ⟨wr.heap.size,2,Z⟩=M (N aE b.1.time):=(by rw[aI b3];rfl);have x3:Wd.cell? ⟨wr.heap.size,3,Z⟩=M (.slice va b.1.txs.length vc):=(by rw[aI b3];rfl);have x4:Wd.cell? ⟨wr.heap.size,4,Z⟩=M (N aE b.1.place):=(by rw[aI b3];rfl);have bb:Wd.cell? ⟨kb,10,Z⟩=M (aM (M ⟨g,off,Z⟩) ws.length (i+1)):=(by rw[aI s1];rfl);have fk:=aQ s1;have fr:=aQ s5;have r0:Wd.cell? ⟨w.heap.size,0,Z⟩=M (N aE 0):=(by rw[aI s5];rfl);have r1:Wd.cell? ⟨w.heap.size,1,Z⟩=M (N aE 0):=(by rw[aI s5];rfl);have r2:Wd.cell? ⟨w.heap.size,2,Z⟩=M (N aE 0):=(by rw[aI s5];rfl);have r3:Wd.cell? ⟨w.heap.size,3,Z⟩=M (aM Z 0 0):=(by rw[aI s5];rfl);have r4:Wd.cell? ⟨w.heap.size,4,Z⟩=M (N aE 0):=(by rw[aI s5];rfl);have HX:cJ _:=jy hX z;clear hX z s1 s2 s3 s4 s5 b3 aj)|go_in)
      obtain⟨hD,J,ro,s,stay,hV,h⟩:=H.out;obtain⟨t1,t2,t3,t4,t5,t6,t7,t8,t9⟩:=Hn.out;obtain⟨hX,z⟩:=HX.out;obtain⟨s1,s2,s3,s4,s5⟩:=stay Wd z;have af:=HI.out.1.got HB.out.1 HB.out.2.2.2.2.2.2;have aa:=Row.Ic lV 5 nD t5 (k:=m) (rs.drop (i+1)) aA (by rw[t7];omega);rw[<-t4,hX,t7,show ws.length-(i+1)=0 from by omega]at aa;have ah:(rs.take m++rs.drop (i+1)).length=m+0:=by rw[aS,bK,t7,HI.out.1.len,fZ aA];omega
      refine cN (v:=cP #[gR #[N aE b.1.epoch,N aE b.1.id,N aE b.1.time,.slice va b.1.txs.length vc,N aE b.1.place],N .u8 3]) (by simp[results,mE,go_sem,r0,r1,r2,r3,r4]) rfl ⟨by rw[af];unfold yK P9;dsimp only;rw[HB.out.2.2.1];rfl,aM (M _) (m+0) (i+1),?_,λq hq=>hq,?_⟩
      .rw[af];refine qF s1 s2 s3 (by rw[ah];exact aa) (λp hp=>?_) s5 (by simp[eE];omega) _ _ _ _ _;obtain hp|hp:=dM.1 hp
       .exact s4 p (HI.out.1.sub p (jd hp))
       .exact s4 p (HI.out.1.sub p (je hp))
      .exact((((jI.below J jB _).trans z (λk _ e=>.inr (by rw[e];rfl))).trans (jI.set _ kb 10 _) (λk _ e=>.inl e)).trans (qI _ _ _ _ _ _ _) (λk hk e=>aA))
     .go_wp2_with (first|(at_builtin;refine kT _ rfl (.tmp 50) (.tmp 57) 98 rfl 118 i0 5 (uq mS) Hi.out.1 Hi.out.2 g off m cap rfl _ _ _ Y rfl Hn.out.2.2.1 Hn.out.2.1 Hn.out.1 aA (by intro j E;(have a5:j<(ws.length-(i+1))*5:=(by rw[<-Hn.out.2.2.1];exact E));have:=Hn.out.2.2.2.2.1.there (j:=m*5+j) aA;rw[<-dV]at this;exact this) (by intro j;exact Hn.out.2.2.2.2.1.frozen rfl j) ?_;generalize hX:od _ _ _ _=Wd;have aj:jI (λk=>k=g) w3 Wd:=(by rw[<-hX];exact(jI.grown (kH g _ _ _).1).mono (λk _ e=>by simpa using e.symm));have z:=Hn.out.2.2.2.2.2.1.trans aj (λ_ _ e=>e);obtain⟨s1,s2,s3,s4,s5⟩:=H.out.2.2.2.2.1 Wd z;have b3:=(aj.block _ a8 bk).trans Hn.out.2.2.2.2.2.2.2.1;have x0:Wd.cell? ⟨wr.heap.size,0,Z⟩=M (N aE b.1.epoch):=(by rw[aI b3];rfl);have x1:Wd.cell? ⟨wr.heap.size,1,Z⟩=M (N aE b.1.id):=(by rw[aI b3];rfl);have x2:Wd.cell? ⟨wr.heap.size,2,Z⟩=M (N aE b.1.time):=(by rw[aI b3];rfl);have x3:Wd.cell? ⟨wr.heap.size,3,Z⟩=M (.slice va b.1.txs.length vc):=(by rw[aI b3];rfl);have x4:Wd.cell? ⟨wr.heap.size,4,Z⟩=M (N aE b.1.place):=(by rw[aI b3];rfl);have bb:Wd.cell? ⟨kb,10,Z⟩=M (aM (M ⟨g,off,Z⟩) ws.length cap):=(by rw[aI s1];rfl);have fk:=aQ s1;have fr:=aQ s5;have r0:Wd.cell? ⟨w.heap.size,0,Z⟩=M (N aE 0):=(by rw[aI s5];rfl);have r1:Wd.cell? ⟨w.heap.size,1,Z⟩=M (N aE 0):=(by rw[aI s5];rfl);have r2:Wd.cell? ⟨w.heap.size,2,Z⟩=M (N aE 0):=(by rw[aI s5];rfl);have r3:Wd.cell? ⟨w.heap.size,3,Z⟩=M (aM Z 0 0):=(by rw[aI s5];rfl);have r4:Wd.cell? ⟨w.heap.size,4,Z⟩=M (N aE 0):=(by rw[aI s5];rfl);have HX:cJ _:=jy hX z;clear hX z s1 s2 s3 s4 s5 b3 aj)|go_in)
      obtain⟨hD,J,ro,s,stay,hV,h⟩:=H.out;obtain⟨t1,t2,t3,t4,t5,t6,t7,t8,t9⟩:=Hn.out;obtain⟨hX,z⟩:=HX.out;obtain⟨s1,s2,s3,s4,s5⟩:=stay Wd z;have af:=HI.out.1.got HB.out.1 HB.out.2.2.2.2.2.2;have aa:=Row.Ic lV 5 nD t5 (k:=m) (rs.drop (i+1)) aA (by rw[t7];omega);rw[<-t4,hX,t7]at aa;have ah:(rs.take m++rs.drop (i+1)).length=m+(ws.length-(i+1)):=by rw[aS,bK,t7,HI.out.1.len,fZ aA]
      refine cN (v:=cP #[gR #[N aE b.1.epoch,N aE b.1.id,N aE b.1.time,.slice va b.1.txs.length vc,N aE b.1.place],N .u8 3]) (by simp[results,mE,go_sem,r0,r1,r2,r3,r4]) rfl ⟨by rw[af];unfold yK P9;dsimp only;rw[HB.out.2.2.1];rfl,aM (M _) (m+(ws.length-(i+1))) cap,?_,λq hq=>hq,?_⟩
      .rw[af];refine qF s1 s2 s3 (by rw[ah];exact aa) (λp hp=>?_) s5 (by simp[eE];omega) _ _ _ _ _;obtain hp|hp:=dM.1 hp
       .exact s4 p (HI.out.1.sub p (jd hp))
       .exact s4 p (HI.out.1.sub p (je hp))
      .exact((((jI.below J jB _).trans z (λk _ e=>.inr (by rw[e];rfl))).trans (jI.set _ kb 10 _) (λk _ e=>.inl e)).trans (qI _ _ _ _ _ _ _) (λk hk e=>aA))
   .have bg:¬(i:Int)<ws.length:=by omega
    clear q1 q2 q3 q4 q5;go_wp2_with fail;obtain⟨hD,J,ro,s,stay,hV,h⟩:=H.out;obtain⟨p1,p2,p3⟩:=HI.out;obtain⟨q1,q2,q3,q4,q5⟩:=stay wr p3;have af:=p1.done aA;rw[af];have ai:=p1.len;have av:=p2.take (k:=m) aA;rw[(qx lV 5 nD rs m).1]at av;refine cN (v:=cP #[.agg _,.int _ 0]) (by simp[results,mE,go_sem,r0,r1,r2,r3,r4]) rfl ⟨rfl,aM (M _) m cap,?_,λq hq=>hq,?_⟩
    .refine qF q1 q2 q3 (by rw[bK,fZ aA];exact av) (λp hp=>?_) q5 (by simp[eE];omega) _ _ _ _ _;exact q4 p (p1.sub p (jd hp))
    .exact((((jI.below J jB _).trans p3 (λk _ e=>.inr (by rw[e];rfl))).trans (jI.set _ kb 10 _) (λk _ e=>.inl e)).trans (qI _ _ _ _ _ _ _) (λk hk e=>aA))
end
end Hm
namespace Dv
open Fr (F)
section
variable {l:List F}{n:Nat}{c:Ch}{f:F}
def yu:∀{a b:List Nat},a.Nodup->(∀x,x∈a->x∈b)->a.length<=b.length
 |[],_,_,_=>dL _
 |x::a,b,hn,hs=>by
  have I:=hs x aC;have z:=iE.1 hn;have:=yu (a:=a) (b:=b.erase x) z.2 (λy E=>(List.mem_erase_of_ne (λ(e:y=x)=>z.1 (by rw[<-e];exact E))).2 (hs y (by simp[E])))
  grind
def Uc{l:List Nat}(I:l.Nodup)(E:∀x,x∈l->x<=n):l.length=n+1↔∀k,k<n+1->k∈l:=by
 constructor
 .intro h k hk;refine gW λhc=>?_;have:=yu (b:=(iv (n+1)).erase k) I (λx z=>(List.mem_erase_of_ne (λe=>hc (by rw[<-e];exact z))).2 (gV.2 (by have:=E x z;omega)))
  grind
 .intro h;have J:=yu (b:=iv (n+1)) I (λx z=>gV.2 (by have:=E x z;omega));have h2:=yu (a:=iv _) (b:=l) List.nodup_range (λx z=>h x (gV.1 z))
  grind
def D8:(has l n).isSome=bB↔n∈l.map (·.num):=by unfold has;simp
def uU{l:List F}:∀{k:Nat},(rP l k).isSome=bB↔∀n,n<k->n∈l.map (·.num)
 |0=>by simp[rP]
 |k+1=>by
  have I:=uU (l:=l) (k:=k);unfold rP;constructor
  .intro h n z;cases E:rP l k with
   |none=>simp[E]at h
   |some s=>
    simp only[E,gX,mH]at h;obtain z|rfl:=jm (Nat.lt_succ_iff.1 z)
    .grind
    .exact D8.1 h
  .intro h;have J:=I.2 (λn z=>h n aA);have h2:=D8.2 (h k aA);obtain⟨s,hs⟩:=Option.isSome_iff_exists.1 J;simp[hs,h2]
structure Fine(l:List F):Prop where
 apart:(l.map (·.num)).Nodup
 upto:∀n,last l=M n->∀x,x∈l->x.num<=n
def Kz:Fine []:=⟨aC,by simp[last]⟩
def F6(h:Fine l)(z:last l=M n):l.length=n+1↔(bytes l).isSome=bB:=by have:=Uc (l:=l.map _) (n:=n) h.apart (λx I=>by obtain⟨y,E,rfl⟩:=bM.1 I;exact h.upto n z y E);rw[bC]at this;rw[this];unfold bytes;rw[z,gX];exact uU.symm
def J6(l:List F)(f:F):last (l++[f])=(last l).or (if f.last then M f.num else Z):=by
 unfold last
 grind
def L9(p:F->Bool)(h:∀x,x∈l->x.last=bB->p x=bB):last (l.filter p)=last l:=by
 induction l with
 |nil=>rfl
 |cons x l z=>
  have z:=z (λy E=>h y (by simp[E]));unfold last at z⊢
  grind
def Fh:last l=Z↔∀x,x∈l->x.last=aR:=by unfold last;simp
def yX(h:oM c f=aR):f.num∉c.l.map (·.num)/\c.spoilt=aR/\(∀n,last c.l=M n->f.last=aR/\f.num<=n):=by
 unfold oM at h;simp only[ig]at h;obtain⟨⟨z,h2⟩,h3⟩:=h;refine⟨λE=>?_,h2,λn I=>?_⟩
 .rw[D8.2 E]at z;cases z
 grind
def Bq(I:oM c f=aR):last (grown c f)=(last c.l).or (if f.last then M f.num else Z):=by
 obtain⟨h1,h2,h3⟩:=yX I;unfold grown;rw[L9,J6];intro x E z;obtain E|E:=dM.1 E
 .unfold goes;cases R:f.last
  .rfl
  .have J:last c.l=Z:=by
    cases Y:last c.l with
    |none=>rfl
    |some n=>grind
   rw[Fh.1 J x E]at z;cases z
 .rw[dK.1 E];unfold goes;simp
def NS(h:Fine c.l)(I:oM c f=aR):Fine (grown c f):=by
 obtain⟨h1,h2,h3⟩:=yX I;have hl:=Bq I;refine⟨?_,λn z x J=>?_⟩
 .unfold grown;refine(List.filter_sublist.map _).nodup ?_;rw[bJ];refine List.nodup_append.2 ⟨h.apart,aC,λa ha b aa e=>?_⟩
  grind
 .rw[hl]at z;unfold grown at J;obtain⟨E,R⟩:=fU.1 J;cases hc:last c.l with
  |some k=>
   rw[hc]at z;simp at z;subst z;obtain E|E:=dM.1 E
   .exact h.upto k hc x E
   grind
  |none=>
   rw[hc]at z;simp only[Option.none_or]at z;cases Y:f.last
   .grind
   .rw[Y]at z;simp at z;subst z;unfold goes at R
    grind
def size_append(l:List F)(f:F):size (l++[f])=size l+f.data.length:=by simp[size]
def size_filter_le(l:List F)(p:F->Bool):size (l.filter p)<=size l:=by
 induction l with
 |nil=>simp[size]
 |cons x l ih=>
  unfold size at ih⊢
  grind
def Ti{k:Nat}{s d:List UInt8}(h:rP l k=M s)(hd:has l k=M d):rP l (k+1)=M (s++d):=by simp[rP,h,hd]
end
end Dv
namespace Hm
open Go.RowKit Go.Joins
open Dv (Ch Fine)
open Fr (F below_drewN)
def Tz(b:Nat):aD:=aG (M ⟨b,0,Z⟩)
def Jw(f:F):aD:=gR #[N dT f.chan,N mb f.num,bE ⟨f.data.toArray⟩,.bool f.last]
def uj(l:List F):AL:=l.map λf=>(f.num,Jw f)
structure PC where
 blk:Nat
 fm:Option Nat
 ch:Ch
 size:Int
 ended:Bool
 last:Nat
def vW(o:PC):Obj:=aL #[N dT o.ch.name,N aE o.ch.opened,.map o.fm,N aE o.size,.bool o.ended,N mb o.last,.bool o.ch.spoilt] 140 (0,0)
def Small(l:List F):Prop:=∀x,x∈l->x.num<65536/\x.data.length<=65536
structure Sound(w:X)(o:PC):Prop where
 map:∃B,o.fm=M B/\lS w B mb (uj o.ch.l)
 size:o.size=Dv.size o.ch.l
 room:Dv.size o.ch.l<=4294967296
 ended:o.ended=(Dv.last o.ch.l).isSome
 last:∀n,Dv.last o.ch.l=M n->o.last=n
structure ChanAt(w:X)(o:PC):Prop where
 obj:w.heap[o.blk]? =M (vW o)
 fine:Fine o.ch.l
 small:Small o.ch.l
 lastLt:o.last<65536
 sound:o.ch.spoilt=aR->Sound w o
 spoilt:o.ch.spoilt=bB->o.ch.l=[]/\o.fm=Z
def aae{l:List F}{n:Nat}:(l9 (uj l) n).isSome=(Dv.has l n).isSome:=by unfold l9 uj Dv.has;rw[mH,mH,List.find?_map,mH];rfl
def ab8(w:X):(zeroValue 109).run PQ w=.ok (gR #[N dT 0,N mb 0,bE ⟨#[]⟩,.bool aR]) w:=XN
def Xp(w:X):(zeroValue 136).run PQ w=.ok (aG Z) w:=XN
def PE(c:Ch)(f:F)(h:c.spoilt=aR):(Dv.oM c f)=((Dv.has c.l f.num).isSome || (match Dv.last c.l with|some n=>f.last || decide (n<f.num)|none=>aR)):=by unfold Dv.oM;rw[h,Bool.or_false];rfl
def LG(o:PC)(f:F)(w:X)(h:ChanAt w o)(hf:f.num<65536):eL PQ 76 #[aG (M ⟨o.blk,0,Z⟩),Jw f] w λe w'=>e=.returned (.bool (!Dv.oM o.ch f))/\cG w.heap.size w w':=by
 obtain⟨r,hr⟩:∃r,(!Dv.oM o.ch f)=r:=⟨_,rfl⟩
 rw[hr];obtain⟨blk,fm,⟨nm,op,l,sp⟩,sz,en,la⟩:=o;obtain⟨fc,fn,fd,aa⟩:=f;unfold Jw;dsimp only at *;obtain⟨D,hD⟩:∃D:ByteArray,(⟨fd.toArray⟩:ByteArray)=D:=⟨_,rfl⟩
 rw[hD];have ak:blk<w.heap.size:=(jE h.obj)
 obtain⟨W,hW,R,-⟩:=jD w #[N dT fc,N mb fn,bE D,.bool aa] 109;have ho:W.heap[blk]? =_:=(R.block _ ak).trans h.obj;obtain⟨-,-,e2,-,e4,e5,e6⟩:=Dn ho;have z1:W.cell? ⟨w.heap.size,1,Z⟩=M (N mb fn):=by rw[hW];simp
 have z3:W.cell? ⟨w.heap.size,3,Z⟩=M (.bool aa):=by rw[hW];simp
 cases sp
 .obtain⟨⟨B,rfl,hm⟩,aj,ae,Y,ah⟩:=h.sound rfl;dsimp only at hm aj Y ah;rw[PE _ _ rfl]at hr;dsimp only at hr;obtain⟨t,ht⟩:∃t,(Dv.has l fn).isSome=t:=⟨_,rfl⟩
  rw[ht]at hr;obtain⟨q,hq⟩:∃q,(match Dv.last l with|some n=>aa || decide (n<fn)|none=>aR)=q:=⟨_,rfl⟩
  rw[hq]at hr
  have ai:(en=aR/\q=aR)\/(en=bB/\q=(aa || decide (la<fn))):=by
   cases hl:Dv.last l with
   |none=>rw[hl]at Y hq;exact .inl ⟨Y,hq.symm⟩
   |some n=>rw[hl]at Y hq;rw[ah n hl];exact .inr ⟨Y,hq.symm⟩
  have Hr:cJ _:=jy hr R
  obtain⟨v0,v1,v2,v3,am⟩:∃a b c d,(l9 (uj l) fn).getD (Value.agg #[N dT 0,N mb 0,bE ⟨#[]⟩,.bool aR])=gR #[N dT a,N mb b,bE c,.bool d]:=by
   unfold l9 uj;rw[List.find?_map];cases l.find? ((λp:Nat×aD=>p.1 == fn)∘λf=>(f.num,Jw f))with
   |none=>exact⟨_,_,_,_,rfl⟩
   |some x=>exact⟨_,_,_,_,rfl⟩
  have z:=λ(V:X)(E:V.heap[B]? =w.heap[B]?)=>(hm.of_block E).lookup (P:=PQ) (uq Tryz.underlying138) (uq Tryz.underlying107) (ab8 _) fn bB;simp only[if_true]at z;rw[aae,am,ht]at z;have HL:cJ _:=jy z (jy hm.lt (jy ak R));have J:w.heap.size<W.heap.size:=by rw[hW];simp
  clear am hD h hm aj ae Y ah hq ht hr z R;go_enter (fq Tryz.func76 rfl),Tryz.ntmps76;go_upto_region 1 with fail;rw[<-hW];clear hW;obtain⟨rfl,rfl⟩|⟨rfl,hq⟩:=ai
  .go_quiet (fail);go_upto_region 3 with fail;generalize E:mn _ _=V;have f2:V.cell? ⟨blk,2,Z⟩=M (.map (M B)):=by rw[<-E];exact e2
   have g1:V.cell? ⟨w.heap.size,1,Z⟩=M (N mb fn):=by rw[<-E];exact z1
   have hs:V.heap.size=W.heap.size:=by rw[<-E];rfl
   have I:V.heap[B]? =w.heap[B]?:=by rw[<-E];exact HL.out.2.2.2.block B HL.out.2.1
   have ac:=aP HL.out.2.1 (jo J);have af:=aP HL.out.2.2.1 (jo J);rw[<-hs]at J ac af;have l1:=HL.out.1 V.drew I;have l2:=λobj=>HL.out.1 ((V.alloc obj).drew) ((aZ _ _ _ ac).trans I);have HV:cJ _:=jy E hs;clear E hs I e2 e4 e5 e6 z1 z3;go_region
   all_goals
    go_wp2_with fail;go_ret;refine⟨?_,Hr.out.2.trans ?_⟩
    .rw[<-Hr.out.1];simp
    .have hb:cG w.heap.size W V:=by rw[<-HV.out.1];exact below_drewN (aJ _ _) _
     refine hb.trans ?_
     first|exact(((aJ _ V).alloc aA _).drew)|exact(((aJ _ V).drew.alloc (by show _<=V.heap.size;omega) _))|trace_state
  .cases aa
   .by_cases hn:la<fn
    .have an:(la:Int)<fn:=by omega
     have ag:q=bB:=by rw[hq];simp[hn]
     clear hq hn;subst ag;go_quiet (fail);go_wp2_with fail;go_ret;refine⟨?_,Hr.out.2.trans ⟨rfl,rfl,rfl,jB,λ_ _=>rfl⟩⟩;rw[<-Hr.out.1];simp
    .have ag:q=aR:=by rw[hq];simp[hn]
     have Hn:cJ _:=hn;clear hq hn;subst ag;go_quiet (fail);rw[ZZ Hn.out];go_upto_region 3 with fail;generalize E:mn _ _=V;have f2:V.cell? ⟨blk,2,Z⟩=M (.map (M B)):=by rw[<-E];exact e2
     have g1:V.cell? ⟨w.heap.size,1,Z⟩=M (N mb fn):=by rw[<-E];exact z1
     have hs:V.heap.size=W.heap.size:=by rw[<-E];rfl
     have I:V.heap[B]? =w.heap[B]?:=by rw[<-E];exact HL.out.2.2.2.block B HL.out.2.1
     have ac:=aP HL.out.2.1 (jo J);have af:=aP HL.out.2.2.1 (jo J);rw[<-hs]at J ac af;have l1:=HL.out.1 V.drew I;have l2:=λobj=>HL.out.1 ((V.alloc obj).drew) ((aZ _ _ _ ac).trans I);have HV:cJ _:=jy E hs;clear E hs I e2 e4 e5 e6 z1 z3;go_region
     all_goals
      go_wp2_with fail;go_ret;refine⟨?_,Hr.out.2.trans ?_⟩
      .rw[<-Hr.out.1];simp
      .have hb:cG w.heap.size W V:=by rw[<-HV.out.1];exact below_drewN (aJ _ _) _
       refine hb.trans ?_
       first|exact(((aJ _ V).alloc aA _).drew)|exact(((aJ _ V).drew.alloc (by show _<=V.heap.size;omega) _))|trace_state
   .subst hq;go_quiet (fail);go_wp2_with fail;go_ret;refine⟨?_,Hr.out.2.trans ⟨rfl,rfl,rfl,jB,λ_ _=>rfl⟩⟩;rw[<-Hr.out.1];simp
 .have Hr:cJ _:=jy hr R;clear hD h hr ho R;go_enter (fq Tryz.func76 rfl),Tryz.ntmps76;go_upto_region 1 with fail;rw[<-hW];clear hW;go_quiet (fail);go_wp2_with fail;go_ret;refine⟨?_,Hr.out.2.trans ⟨rfl,rfl,rfl,jB,λ_ _=>rfl⟩⟩;rw[<-Hr.out.1];unfold Dv.oM;simp
end Hm
