import Derived.Test.YtpibpdpedjinhaaGreatDoorP25
set_option maxRecDepth 100000
set_option maxHeartbeats 8000000
set_option linter.unusedSimpArgs false
namespace Go.Proofs.YtpibpdpedjinhaaGreatDoor
section
open Go.RowKit Go.Joins Go.Shelf
attribute [local go_sem] Oper.semAt_some
def XE(d:Nat)(s:ByteArray)(z:List X)(x:X)(lo:Nat)(W:World):Prop:=XY (d+1) z x lo W/\∃p,Im.mJ (Im.read Im.body d) s.data.toList ((z++[x]).map X.i) p
theorem XE.turn(d:Nat)(s:ByteArray)(z:List X)(x:X)(lo:Nat)(W E:World)(h:∀k,lo<=k->E.heap[k]? =W.heap[k]?)(hs:E.heap.size=W.heap.size)(I:XE d s z x lo W):XE d s z x lo E:=⟨XY.turn _ z x lo W E h hs I.1,I.2⟩
theorem J8(d:Nat)(hf:FirstSaid d)(s:ByteArray)(ab sB dB:Nat)(w:World)(hs:s.size<=16777216)(bg:ab+d=9)(hH:kQ w)(h0:1<w.heap.size)
  (aw:w.cell? ⟨sB,0,none⟩=some (.string s)) (az:w.cell? ⟨dB,0,none⟩=some (.int .i64 ab)) (bb:sB<w.heap.size) (hdl:dB<w.heap.size):
  Gives PQ 205 #[.pointer (some ⟨sB,0,none⟩),.pointer (some ⟨dB,0,none⟩)] X.encs (λk=>k=1\/k=sB\/k=dB) (XE d s) (Done d s) (Left d s) w:=by
 intro l J Jx W hW au av;have Hf:Hid _:=hf;have HY:Hid _:=au;have a9:Hid _:=av;clear hf au av;refine callsIn_of_wp (fq Tryz.func205 rfl) rfl trivial ?_ rfl;simp only[Tryz.ntmps205,dL,aN,bM,Nat.reduceAdd,Nat.reduceSub,cO,bZ,dN,cZ,dM,dH];gi_wp2
 gi_loopw [4] (λt wr=>∃(E:List X)(W0:World)(p:Nat),t=.int .i64 p/\Hid (Im.mJ (Im.read Im.body d) s.data.toList (E.map X.i) p/\mP E=p/\p<=s.size/\E.length<=p/\J E W0/\Below W0.heap.size W0 wr/\kQ wr/\sB<wr.heap.size/\dB<wr.heap.size)/\wr.cell? ⟨sB,0,none⟩=some (.string s)/\wr.cell? ⟨dB,0,none⟩=some (.int .i64 ab))
  (λt wr=>s.size-(intOf t).toNat)
 case atStart=>
  have:=hW.size;exact⟨[],W,0,rfl,⟨Im.mJ.nil,rfl,dF _,jA,a9.out,aB _ _,hH.below hW h0,by omega,by omega⟩,(hW.cell (p:=⟨sB,0,none⟩) bb).trans aw,(hW.cell (p:=⟨dB,0,none⟩) hdl).trans az⟩
 case round=>
  obtain⟨E,W0,p,rfl,Hr,c0,c1⟩:=hrel;clear aw az;by_cases ah:p<s.size
  ·have a7:(p:Int)<s.size:=by omega
   have bd:(s.extract p s.size).size<=16777216:=by simp;omega
   have am:(s.extract p s.size).data.toList=s.data.toList.drop p:=by rw[ext_list,dV (by rw[<-aV];omega)]
   have I:=λ(W:World)(hW:Below wr.heap.size wr W)=>Hf.out (s.extract p s.size) ab W bd bg (Hr.out.2.2.2.2.2.2.1.below hW Hr.out.2.2.2.2.2.2.1.pos);have z:=aB wr.heap.size wr;obtain⟨_,_,_,_,_,_,_,bh,ba⟩:=Hr.out;have bm:sB≠wr.heap.size:=by omega
   have bo:dB≠wr.heap.size:=by omega
   rw[am]at I;generalize hC:Im.read Im.body d (s.data.toList.drop p)=C at I;have ac:Hid _:=I;have HC:Hid _:=hC;clear I hC am;gi_wp2;refine wpIn_wide.2 ?_;cases C with
   |none=>
    go_cut [5,6,7] (λv5 v6 v7 wx=>v7=.bool false/\Below wr.heap.size wr wx)
    case first=>
     go_region_with (go_at_call 206;refine(ac.out _ ?_).mono ?_;(first|exact z|exact z.drew|exact below_drewN z _|exact z.alloc jA _|exact below_drewN (z.alloc jA _) _|exact(below_drewN z _).alloc jA _);rintro e w3 ⟨ao,ae⟩;obtain rfl:=ao;have R:Below wr.heap.size wr w3:=Below.trans (by first|exact z|exact z.drew|exact below_drewN z _|exact z.alloc jA _|exact below_drewN (z.alloc jA _) _|exact(below_drewN z _).alloc jA _) (ae.mono (by simp));(try (have hz:w3.heap[wr.heap.size]? =some (.cells #[.bool false,.string ⟨#[]⟩,.slice none 0 0] 103 (0,0)):=(ae.block wr.heap.size (by simp)).trans (by first|exact heap_alloc_new _ _|(have:=heap_alloc_new (wr.drewN 0) (.cells #[.bool false,.string ⟨#[]⟩,.slice none 0 0] 103);simpa using this));have z0:w3.cell? ⟨wr.heap.size,0,none⟩=some (.bool false):=(by rw[aA hz];rfl);have z1:w3.cell? ⟨wr.heap.size,1,none⟩=some (.string ⟨#[]⟩):=(by rw[aA hz];rfl);have z2:w3.cell? ⟨wr.heap.size,2,none⟩=some (.slice none 0 0):=(by rw[aA hz];rfl);have fz:=aI hz)))
     all_goals
      go_wp2_with fail;go_meet;refine⟨rfl,?_⟩
      first
       |exact R.alloc R.size _
       |exact below_drewN (R.alloc R.size _) _
       |exact((R.setCell jA _).setCell jA _).setCell jA _
       |exact below_drewN (((R.setCell jA _).setCell jA _).setCell jA _) _
    case rest=>
     obtain⟨rfl,aa⟩:=hcut;gi_wp2;refine bodyPost_ret (results_none rfl _ _ _) rfl ?_;obtain⟨he,ai,ax,ay,hJ,Y,ag,_,_⟩:=Hr.out;exact⟨⟨_,rfl⟩,.inl ⟨E,W0,⟨p,he,ai,.inr ⟨ah,HC.out⟩⟩,hJ,Y.trans (aa.mono Y.size)⟩⟩
   |some x=>
    obtain⟨i,n⟩:=x;have an:=Im.rG Im.oI d _ _ _ HC.out;rw[dP,<-aV]at an;have bq:1<=n:=an.1;have bl:p+n<=s.size:=by omega
    clear an;obtain⟨IB,ap⟩:∃IB:ByteArray,(⟨i.bytes.toArray⟩:ByteArray)=IB:=⟨_,rfl⟩
    go_cut [5,6,7] (λv5 v6 v7 wx=>∃(b:Nat)(a:Option Addr)(cap:Nat),v5=.pointer (some ⟨b,0,none⟩)/\v6=.int .i64 n/\v7=.bool true/\Below wr.heap.size wr wx/\K3 wx b 0 (.bool i.list) (.string IB) (.slice a i.kids.length cap)/\Tr wx (d+1) wr.heap.size wx.heap.size (.bool i.list) (.string IB) (.slice a i.kids.length cap) i)
    case first=>
     go_region_with (go_at_call 206;refine(ac.out _ ?_).mono ?_;(first|exact z|exact z.drew|exact below_drewN z _|exact z.alloc jA _|exact below_drewN (z.alloc jA _) _|exact(below_drewN z _).alloc jA _);rintro e w3 ⟨ao,ae⟩;obtain⟨a3,ak,rfl,aj⟩:=ao;simp only at aj⊢;rw[ap]at aj⊢;have ar:Hid (Tr _ _ _ _ _ _ _ _):=aj;clear aj;have R:Below wr.heap.size wr w3:=Below.trans (by first|exact z|exact z.drew|exact below_drewN z _|exact z.alloc jA _|exact below_drewN (z.alloc jA _) _|exact(below_drewN z _).alloc jA _) (ae.mono (by simp));(try (have hz:w3.heap[wr.heap.size]? =some (.cells #[.bool false,.string ⟨#[]⟩,.slice none 0 0] 103 (0,0)):=(ae.block wr.heap.size (by simp)).trans (by first|exact heap_alloc_new _ _|(have:=heap_alloc_new (wr.drewN 0) (.cells #[.bool false,.string ⟨#[]⟩,.slice none 0 0] 103);simpa using this));have z0:w3.cell? ⟨wr.heap.size,0,none⟩=some (.bool false):=(by rw[aA hz];rfl);have z1:w3.cell? ⟨wr.heap.size,1,none⟩=some (.string ⟨#[]⟩):=(by rw[aA hz];rfl);have z2:w3.cell? ⟨wr.heap.size,2,none⟩=some (.slice none 0 0):=(by rw[aA hz];rfl);have fz:=aI hz)))
     all_goals
      go_wp2_with fail;go_meet
      first
       |exact⟨_,a3,ak,rfl,rfl,rfl,FH R ar.out (by simp) _⟩
       |exact⟨_,a3,ak,rfl,rfl,rfl,OJ R ar.out (by simp) hz⟩
    case rest=>
     obtain⟨b,a,cap,rfl,rfl,rfl,aa,⟨k0,k1,k2⟩,af⟩:=hcut;rw[fC]at k1 k2;rw[<-ap]at af;obtain⟨he,ai,ax,ay,hJ,Y,ag,_,_⟩:=Hr.out;have a8:=Y.trans (aa.mono Y.size);obtain⟨fn,tmps,assign,body,hy,hR⟩:=HY.out E ⟨p+n,i,a,cap⟩ W0 wc hJ a8 ⟨⟨by omega,af.wider Y.size jA⟩,p+n,by rw[aY];exact Im.mJ.snoc he (by rw[<-aV];exact ah) HC.out⟩;simp only[X.encs,Int.natCast_add]at hy;rw[ap]at hy;have HR:Hid _:=hR;have br:Hid _:=af;clear hR af;have bn:(p:Int)+(n:Int)<=16777216:=by omega
     gi_wp2;refine RoundIn.mono HR.out ?_;rintro e W3 (⟨rfl,bk,bp,aq⟩|⟨rfl,a6⟩)
     ·gi_wp2;go_roundw
      case rel=>
       have q0:=aq 1 (.inl rfl);have q1:=aq sB (.inr (.inl rfl));have q2:=aq dB (.inr (.inr rfl));have s5:=aa.size;have bj:=ag.below aa ag.pos;refine⟨E++[⟨p+n,i,a,cap⟩],W3,p+n,by simp,⟨?_,lg _ _,bl,by simp;omega,bk,aB _ _,?_,by omega,by omega⟩,?_,?_⟩
       ·rw[aY];exact Im.mJ.snoc he (by rw[<-aV];exact ah) HC.out
       ·obtain⟨⟨a0,a1,a2⟩,a3,a4,a5⟩:=bj;exact⟨⟨(World.cell?_of_block q0).trans a0,(World.cell?_of_block q0).trans a1,(World.cell?_of_block q0).trans a2⟩,(World.cell?_of_block q0).trans a3,(World.cell?_of_block q0).trans a4,(World.cell?_of_block q0).trans a5⟩
       ·exact(World.cell?_of_block q1).trans ((aa.cell (p:=⟨sB,0,none⟩) bh).trans c0)
       ·exact(World.cell?_of_block q2).trans ((aa.cell (p:=⟨dB,0,none⟩) ba).trans c1)
      case measure=>simp[intOf];omega
     ·gi_wp2;refine bodyPost_ret (results_none rfl _ _ _) rfl ?_;refine⟨⟨_,rfl⟩,.inr ⟨E++[⟨p+n,i,a,cap⟩],W3,⟨p+n,?_,lg _ _⟩,a6,aB _ _⟩⟩;rw[aY];exact Im.mJ.snoc he (by rw[<-aV];exact ah) HC.out
  ·have a7:¬(p:Int)<s.size:=by omega
   gi_wp2;go_end0;obtain⟨he,ai,ax,ay,hJ,Y,ag,_,_⟩:=Hr.out;exact⟨⟨_,rfl⟩,.inl ⟨E,⟨p,he,ai,.inl (by omega)⟩,W0,hJ,Y⟩⟩
end
namespace Hm
open Go.RowKit Go.Joins Go.Shelf
open Fr (below_drewN)
open Dv (U Cf Ba)
section
variable {l:Im.It}{a b c:Option Nat}{w:World}
def Ip(l:Im.It):Option Ba:=match l.kids with
 |[a,b,c,d]=>match Dv.value a,Dv.value b,Dv.value c,strs d with
  |some x,some y,some z,some t=>some ⟨x,y,z,t,0⟩
  |_,_,_,_=>none
 |_=>none
def Ro(i:Im.It):Option Ba:=match i.bytes with
 |[]=>none
 |x::r=>if x=0 then(Im.dec r).bind Ip else none
theorem UU(h:l.kids.length≠4):Ip l=none:=by
 unfold Ip;split
 ·rename_i e;rw[e]at h;exact absurd rfl h
 ·rfl
def QD:Option Nat->Option Nat->Option Nat->Option (List (List UInt8))->Option Ba
 |some x,some y,some z,some t=>some ⟨x,y,z,t,0⟩
 |_,_,_,_=>none
theorem Qg{a b c d:Im.It}(h:l.kids=[a,b,c,d]):Ip l=QD (Dv.value a) (Dv.value b) (Dv.value c) (strs d):=by
 unfold Ip QD;rw[h]
theorem EN{R:Option (List (List UInt8))}(h:a.isSome=false\/b.isSome=false\/c.isSome=false\/R.isSome=false):QD a b c R=none:=by
 cases a<;>cases b<;>cases c<;>cases R<;>simp[QD]at h⊢
theorem Qo(z:a.isSome=true)(I:b.isSome=true)(E:c.isSome=true)(t:List (List UInt8)):QD a b c (some t)=some ⟨a.getD 0,b.getD 0,c.getD 0,t,0⟩:=by
 cases a<;>cases b<;>cases c<;>simp[QD]at z I E⊢
theorem In.four{B:Nat}{n m cap:Nat}{c0 c1:Value}{a:Option Addr}{k0 Y k2 I:Im.It}(h:In B w (n+1) c0 c1 (.slice a m cap) l)(hk:l.kids=[k0,Y,k2,I]):∃g off,a=some ⟨g,off,none⟩/\g<B/\(∃z J E,K3 w g off (.bool k0.list) (.string ⟨k0.bytes.toArray⟩) (.slice z J E))/\(∃z J E,K3 w g (off+3) (.bool Y.list) (.string ⟨Y.bytes.toArray⟩) (.slice z J E))/\(∃z J E,K3 w g (off+6) (.bool k2.list) (.string ⟨k2.bytes.toArray⟩) (.slice z J E))/\∃z E,K3 w g (off+9) (.bool I.list) (.string ⟨I.bytes.toArray⟩) (.slice z I.kids.length E)/\In B w n (.bool I.list) (.string ⟨I.bytes.toArray⟩) (.slice z I.kids.length E) I:=by
 obtain⟨li,bs,ks⟩:=l;dsimp only at hk;subst hk;obtain⟨g,off,aa,hv,hg,R⟩:=In.kid h (by simp);simp only[Value.slice.injEq]at hv;obtain⟨d0,h0,i0⟩:=R 0 (by simp);obtain⟨d1,h1,i1⟩:=R 1 (by simp);obtain⟨d2,h2,i2⟩:=R 2 (by simp);obtain⟨d3,h3,i3⟩:=R 3 (by simp);obtain⟨z,E,_,_,e0⟩:=In.shape i0;obtain⟨a1,p1,_,_,e1⟩:=In.shape i1;obtain⟨a2,p2,_,_,e2⟩:=In.shape i2;obtain⟨a3,p3,_,_,e3⟩:=In.shape i3;subst e0 e1 e2 e3;exact⟨g,off,hv.1,hg,⟨z,_,E,h0⟩,⟨a1,_,p1,h1⟩,⟨a2,_,p2,h2⟩,a3,p3,h3,i3⟩
theorem Yi{α:Type}{l:List α}(h:l.length=4):∃a b c d,l=[a,b,c,d]:=by
 match l,h with
 |[a,b,c,d],_=>exact⟨a,b,c,d,rfl⟩
def acH(w:World)(lo:Nat)(e:Ending):Option Ba->Prop
 |none=>e=.returned (.tuple #[.agg #[.int .i64 0,.int .i64 0,.int .i64 0,.slice none 0 0,.int .i64 0],.bool false])
 |some b=>∃a cap,e=.returned (.tuple #[Nj b (.slice a b.txs.length cap),.bool true])/\Made w lo (.slice a b.txs.length cap) b.txs/\b.place=0
theorem cells5{W:World}{b:Nat}{ty:TypeId}{J I E z R:Value}(h:W.heap[b]? =some (.cells #[J,I,E,z,R] ty (0,0))):W.cell? ⟨b,0,none⟩=some J/\W.cell? ⟨b,1,none⟩=some I/\W.cell? ⟨b,2,none⟩=some E/\W.cell? ⟨b,3,none⟩=some z/\W.cell? ⟨b,4,none⟩=some R/\(∀o,W.frozen? ⟨b,o,none⟩=false):=
 ⟨by rw[aA h];rfl,by rw[aA h];rfl,by rw[aA h];rfl,by rw[aA h];rfl,by rw[aA h];rfl,aI h⟩
theorem ny{B R:Nat}{a:World}(h:Below B a w)(z:B<=R)(Y J I E v4:Value):Below B a (YW w R Y J I E v4):=((((h.setCell (p:=⟨R,0,none⟩) z _).setCell (p:=⟨R,1,none⟩) z _).setCell (p:=⟨R,2,none⟩) z _).setCell (p:=⟨R,3,none⟩) z _).setCell (p:=⟨R,4,none⟩) z _
theorem Kv(i:Im.It)(c2:Value)(w:World)(cu:∃a n cap,c2=.slice a n cap)(hs:i.bytes.length<=16777216)(hH:kQ w):Calls PQ 121 #[.agg #[.bool i.list,.string ⟨i.bytes.toArray⟩,c2]] w λe w'=>acH w' w.heap.size e (Ro i)/\Below w.heap.size w w':=by
 obtain⟨ia,ik,ic,rfl⟩:=cu;obtain⟨D,hD⟩:∃D:ByteArray,(⟨i.bytes.toArray⟩:ByteArray)=D:=⟨_,rfl⟩
 have am:D.data.toList=i.bytes:=by rw[<-hD]
 have an:D.size=i.bytes.length:=by rw[<-hD];rfl
 rw[hD];obtain⟨Q,hQ⟩:∃Q,Ro i=Q:=⟨_,rfl⟩
 rw[hQ];unfold Ro at hQ;obtain⟨W,hW⟩:∃W,W=(w.alloc (.cells #[.bool i.list,.string D,.slice ia ik ic] 103)).alloc (.cells #[.int .i64 0,.int .i64 0,.int .i64 0,.slice none 0 0,.int .i64 0] 150):=⟨_,rfl⟩
 have J:Below w.heap.size w W:=by rw[hW];exact((aB _ w).alloc jA _).alloc (by simp) _
 have cl:W.heap.size=w.heap.size+2:=by rw[hW];simp
 have ag:W.heap[w.heap.size+1]? =some (.cells #[.int .i64 0,.int .i64 0,.int .i64 0,.slice none 0 0,.int .i64 0] 150 (0,0)):=by
  have:=heap_alloc_new (w.alloc (.cells #[.bool i.list,.string D,.slice ia ik ic] 103)) (.cells #[.int .i64 0,.int .i64 0,.int .i64 0,.slice none 0 0,.int .i64 0] 150);rw[hW];simpa using this
 have z1:W.cell? ⟨w.heap.size,1,none⟩=some (.string D):=by rw[hW];simp
 obtain⟨r0,r1,r2,r3,r4,rf⟩:=cells5 ag;have a7:kQ W:=hH.below J hH.pos;cases aa:i.bytes with
 |nil=>
  rw[aa]at hQ;subst hQ;have cj:D.toList.isEmpty=true:=by rw[Fr.toList_empty];exact decide_eq_true (by rw[an,aa];rfl)
  have H:Hid _:=jw J ag;clear J ag hD am an aa a7 hH hs cl;go_enter (fq Tryz.func121 rfl),Tryz.ntmps121;go_upto_region 1 with fail;rw[<-hW];clear hW;go_wp2_with fail;refine bodyPost_ret (v:=.tuple #[.agg #[.int .i64 0,.int .i64 0,.int .i64 0,.slice none 0 0,.int .i64 0],.bool false]) (by simp[results,Tryz.results121,go_sem,r0,r1,r2,r3,r4]) rfl ⟨rfl,ny H.out.1 (Nat.le_succ _) _ _ _ _ _⟩
 |cons x r=>
  rw[aa]at hQ;dsimp only at hQ;have h0:0<D.size:=by rw[an,aa];simp
  have cj:D.toList.isEmpty=false:=by rw[Fr.toList_empty];exact decide_eq_false (by omega)
  have aw:D[0]'h0=x:=by
   have:D.data.toList[0]? =some (D[0]'h0):=by
    rw[aG (by simpa using h0)];rfl
   rw[am,aa]at this;simpa using this.symm
  by_cases hz:x=0
  ·rw[if_pos hz]at hQ;have cv:(((D[0]'h0).toNat:Int) == 0)=true:=by rw[aw,hz];rfl
   obtain⟨S,hS⟩:∃S:ByteArray,D.extract 1 D.size=S:=⟨_,rfl⟩
   have ay:S.data.toList=r:=by
    rw[<-hS,Fr.ext_list,aV,iF,am,aa];rfl
   have bb:S.size<=16777216:=by
    rw[aV,ay];rw[aa]at hs;simp at hs;omega
   have z:=decode_any S W bb a7;rw[ay]at z;have h1:(1:Int)<=(D.size:Int):=by omega
   have ar:∀V,Below W.heap.size W V->V.heap[w.heap.size+1]? =some (.cells #[.int .i64 0,.int .i64 0,.int .i64 0,.slice none 0 0,.int .i64 0] 150 (0,0)):=λV hV=>(hV.block _ (by omega)).trans ag;have aq:Hid _:=ar;cases hd:Im.dec r with
   |none=>
    rw[hd]at z hQ;have ab:none=Q:=hQ;subst ab;have af:Hid _:=λ(_:Unit)=>z;have H:Hid _:=J;clear J ag hD am an aa a7 hH hs aw hz z hQ hd ay bb ar;go_enter (fq Tryz.func121 rfl),Tryz.ntmps121;go_upto_region 1 with fail;rw[<-hW];clear hW;go_wp2_with (first|(go_at_call 175;refine aK (af.out ()) ?_;rintro e w2 ⟨he,E⟩;unfold F8 at he;subst he;obtain⟨q0,q1,q2,q3,q4,qf⟩:=cells5 (aq.out _ (E.alloc E.size (.cells #[.bool false,.string ⟨#[]⟩,.slice none 0 0] 103))))|fail)
    refine bodyPost_ret (v:=.tuple #[.agg #[.int .i64 0,.int .i64 0,.int .i64 0,.slice none 0 0,.int .i64 0],.bool false]) (by simp[results,Tryz.results121,go_sem,q0,q1,q2,q3,q4]) rfl ⟨rfl,ny (H.out.trans ((E.alloc E.size _).mono H.out.size)) (Nat.le_succ _) _ _ _ _ _⟩
   |some l=>
    rw[hd]at z hQ;have ab:Ip l=Q:=hQ;have br:=λk hk=>VT (k:=k) hd hk;have cc:r.length<=16777216:=by rw[<-ay,<-aV];exact bb
    obtain⟨D2,av⟩:∃D:ByteArray,(⟨l.bytes.toArray⟩:ByteArray)=D:=⟨_,rfl⟩
    obtain⟨li,a6⟩:∃li,l.list=li:=⟨_,rfl⟩
    obtain⟨nk,aj⟩:∃nk,l.kids.length=nk:=⟨_,rfl⟩
    have af:Hid _:=λ(_:Unit)=>z;by_cases h4:nk=4
    ·subst h4;obtain⟨k0,k1,k2,k3,ap⟩:=Yi aj;rw[Qg ap]at ab
     have bg:k3.kids.length<=4294967296:=by
      have:=br k3 (by rw[ap];simp);omega
     obtain⟨o0,au⟩:∃o,Dv.value k0=o:=⟨_,rfl⟩
     obtain⟨o1,a5⟩:∃o,Dv.value k1=o:=⟨_,rfl⟩
     obtain⟨o2,a4⟩:∃o,Dv.value k2=o:=⟨_,rfl⟩
     obtain⟨R,hR⟩:∃R,strs k3=R:=⟨_,rfl⟩
     rw[au,a5,a4,hR]at ab;have H:Hid _:=jw J (jw av (jw a6 (jw aj (jw ap (jw bg (jw ab (jw au (jw a5 (jw a4 hR)))))))));clear J ag hD am an aa a7 hH hs aw hz z hQ ab hd ay bb ar br cc av a6 aj ap bg au a5 a4 hR;go_enter (fq Tryz.func121 rfl),Tryz.ntmps121;go_upto_region 1 with fail;rw[<-hW];clear hW;go_upto_region 6 with(first|(go_at_call 175;refine aK (af.out ()) ?_;rintro e w2 ⟨he,E⟩;obtain⟨a,cap,he,ht⟩:=he;rw[H.out.2.1,H.out.2.2.1,H.out.2.2.2.1]at he;subst he;have HT:Hid (Tr _ _ _ _ _ _ _ _):=ht;clear ht)|fail)
     obtain⟨V,hV,ax,zb⟩:=jE w2 #[.bool li,.string D2,.slice a 4 cap] 103;rw[<-hV];obtain⟨J,av,a6,aj,ap,bg,ab,au,a5,a4,hR⟩:=H.out;have cq:=In.below ax _ _ _ _ _ (Tr.inn 9 _ _ _ _ _ _ jA HT.out);obtain⟨g,off,rfl,hg,⟨a0,m0,p0,K0⟩,⟨a1,m1,p1,K1⟩,⟨a2,m2,p2,K2⟩,a3,p3,bd,I3⟩:=In.four cq ap;have Y:g<V.heap.size:=aH hg ax.size;have b8:w2.heap.size<V.heap.size:=(jC zb)
     have ai:=λV'=>rZ k0 (.slice a0 m0 p0) V' ⟨_,_,_,rfl⟩;have ah:=λV'=>rZ k1 (.slice a1 m1 p1) V' ⟨_,_,_,rfl⟩;have ak:=λV'=>rZ k2 (.slice a2 m2 p2) V' ⟨_,_,_,rfl⟩;have bn:=λV' (I:Below V.heap.size V V')=>vg 6 w2.heap.size k3 (.slice a3 k3.kids.length p3) V' (aW ax.size I.size) (In.below (I.mono ax.size) _ _ _ _ _ I3) bg;obtain⟨l0,b6⟩:∃x,k0.list=x:=⟨_,rfl⟩
     obtain⟨l1,ca⟩:∃x,k1.list=x:=⟨_,rfl⟩
     obtain⟨l2,ci⟩:∃x,k2.list=x:=⟨_,rfl⟩
     obtain⟨l3,cd⟩:∃x,k3.list=x:=⟨_,rfl⟩
     obtain⟨S0,cb⟩:∃x:ByteArray,(⟨k0.bytes.toArray⟩:ByteArray)=x:=⟨_,rfl⟩
     obtain⟨S1,cp⟩:∃x:ByteArray,(⟨k1.bytes.toArray⟩:ByteArray)=x:=⟨_,rfl⟩
     obtain⟨S2,ck⟩:∃x:ByteArray,(⟨k2.bytes.toArray⟩:ByteArray)=x:=⟨_,rfl⟩
     obtain⟨S3,b9⟩:∃x:ByteArray,(⟨k3.bytes.toArray⟩:ByteArray)=x:=⟨_,rfl⟩
     obtain⟨m3,cn⟩:∃x,k3.kids.length=x:=⟨_,rfl⟩
     rw[b6,cb]at ai K0;rw[ca,cp]at ah K1;rw[ci,ck]at ak K2;rw[cd,b9,cn]at bn bd;rw[au]at ai;rw[a5]at ah;rw[a4]at ak;rw[hR]at bn;unfold aaP at ai ah ak;obtain⟨n0,a8⟩:∃n,o0.getD 0=n:=⟨_,rfl⟩
     obtain⟨n1,bh⟩:∃n,o1.getD 0=n:=⟨_,rfl⟩
     obtain⟨n2,bl⟩:∃n,o2.getD 0=n:=⟨_,rfl⟩
     obtain⟨b0,bj⟩:∃n,o0.isSome=n:=⟨_,rfl⟩
     obtain⟨b1,a9⟩:∃n,o1.isSome=n:=⟨_,rfl⟩
     obtain⟨b2,ba⟩:∃n,o2.isSome=n:=⟨_,rfl⟩
     rw[a8,bj]at ai;rw[bh,a9]at ah;rw[bl,ba]at ak;have b3:Hid _:=ai;have bs:Hid _:=ah;have b4:Hid _:=ak;have bm:Hid _:=bn
     have hK:∀V',Below V.heap.size V V'->V'.cell? ⟨w2.heap.size,2,none⟩=some (.slice (some ⟨g,off,none⟩) 4 cap)/\V'.cell? ⟨g,off,none⟩=some (.bool l0)/\V'.cell? ⟨g,off+1,none⟩=some (.string S0)/\V'.cell? ⟨g,off+2,none⟩=some (.slice a0 m0 p0)/\V'.cell? ⟨g,off+3,none⟩=some (.bool l1)/\V'.cell? ⟨g,off+4,none⟩=some (.string S1)/\V'.cell? ⟨g,off+5,none⟩=some (.slice a1 m1 p1)/\V'.cell? ⟨g,off+6,none⟩=some (.bool l2)/\V'.cell? ⟨g,off+7,none⟩=some (.string S2)/\V'.cell? ⟨g,off+8,none⟩=some (.slice a2 m2 p2)/\V'.cell? ⟨g,off+9,none⟩=some (.bool l3)/\V'.cell? ⟨g,off+10,none⟩=some (.string S3)/\V'.cell? ⟨g,off+11,none⟩=some (.slice a3 m3 p3):=λV' I=>
      ⟨(I.cell (p:=⟨w2.heap.size,2,none⟩) b8).trans (by rw[aA zb];rfl),(K0.below I Y).1,(K0.below I Y).2.1,(K0.below I Y).2.2,(K1.below I Y).1,(K1.below I Y).2.1,(K1.below I Y).2.2,(K2.below I Y).1,(K2.below I Y).2.1,(K2.below I Y).2.2,(bd.below I Y).1,(bd.below I Y).2.1,(bd.below I Y).2.2⟩
     have HK:Hid _:=hK;have cg:=aB V.heap.size V;obtain⟨x2,cz,c6,dv,dg,c4,du,eg,d2,ed,dd,dm,el⟩:=hK V cg;have bo:Below W.heap.size W V:=E.trans (ax.mono E.size);have HQ:Hid _:=jw ab (jw a8 (jw bh (jw bl (jw bj (jw a9 (jw ba (jw J bo)))))));clear hV ax zb J av a6 aj ap bg ab au a5 a4 hR cq hg Y b8 K0 K1 K2 bd I3 ai ah ak bn b6 ca ci cd cb cp ck b9 cn a8 bh bl bj a9 ba hK bo E H HT r0 r1 r2 r3 r4 rf z1;go_upto_region 9 with(first|(go_at_call 176;(with_reducible refine aK (b3.out _) ?_);rintro e3 w3 ⟨rfl,ce⟩;have bx:Below V.heap.size V w3:=ce;obtain⟨x3,ej,ee,ei,d7,d3,eh,dy,dh,dt,d0,eo,d9⟩:=HK.out w3 bx;clear ce)|(go_at_call 176;(with_reducible refine aK (bs.out _) ?_);rintro e4 w4 ⟨rfl,cr⟩;have bz:Below V.heap.size V w4:=bx.trans (cr.mono bx.size);obtain⟨x4,ef,dr,di,dx,dj,em,cw,cy,de,c1,d8,cx⟩:=HK.out w4 bz;clear cr)|(go_at_call 176;(with_reducible refine aK (b4.out _) ?_);rintro e5 w5 ⟨rfl,co⟩;have ae:Below V.heap.size V w5:=bz.trans (co.mono bz.size);obtain⟨x5,dl,d1,dz,db,ea,c5,dq,c3,eb,c9,dk,dw⟩:=HK.out w5 ae;clear co)|fail)
     have bv:w.heap.size<=w5.heap.size:=by
      have e1:=HQ.out.2.2.2.2.2.2.2.1.size;have e2:=HQ.out.2.2.2.2.2.2.2.2.size;have e3:=ae.size;omega
     have bq:Below w.heap.size w w5:=(HQ.out.2.2.2.2.2.2.2.1.trans (HQ.out.2.2.2.2.2.2.2.2.mono HQ.out.2.2.2.2.2.2.2.1.size)).trans (ae.mono (aW HQ.out.2.2.2.2.2.2.2.1.size HQ.out.2.2.2.2.2.2.2.2.size));have bp:Hid _:=bq;clear bq;cases R with
     |none=>
      go_upto_region 10 with(first|(go_at_call 177;refine aK (bm.out _ ae) ?_;rintro e6 w6 ⟨he,ao⟩;unfold Strs at he;subst he)|fail)
      have bk:Below V.heap.size V w6:=ae.trans (ao.mono ae.size);have az:=aq.out w6 (HQ.out.2.2.2.2.2.2.2.2.trans (bk.mono HQ.out.2.2.2.2.2.2.2.2.size));obtain⟨q0,q1,q2,q3,q4,qf⟩:=cells5 az;have HB:Hid (Below w.heap.size w w6):=bp.out.trans (ao.mono bv);have bw:none=Q:=by rw[<-HQ.out.1];exact(EN (.inr (.inr (.inr rfl)))).symm
      subst bw;clear HQ HK b3 bs b4 bm bk az ao;cases b0<;>cases b1<;>cases b2
      all_goals
       go_wp2_with fail;refine bodyPost_ret (v:=.tuple #[.agg #[.int .i64 0,.int .i64 0,.int .i64 0,.slice none 0 0,.int .i64 0],.bool false]) (by simp[results,Tryz.results121,go_sem,q0,q1,q2,q3,q4]) rfl ?_;exact⟨rfl,ny HB.out (Nat.le_succ _) _ _ _ _ _⟩
     |some t=>
      obtain⟨tn,b7⟩:∃n,t.length=n:=⟨_,rfl⟩
      have cm:Hid _:=b7;clear b7;go_upto_region 10 with(first|(go_at_call 177;refine aK (bm.out _ ae) ?_;rintro e6 w6 ⟨⟨ta,tc,he,cf⟩,ao⟩;rw[cm.out]at he;subst he;have HM:Hid _:=cf;clear cf)|fail)
      have bk:Below V.heap.size V w6:=ae.trans (ao.mono ae.size);have az:=aq.out w6 (HQ.out.2.2.2.2.2.2.2.2.trans (bk.mono HQ.out.2.2.2.2.2.2.2.2.size));obtain⟨q0,q1,q2,q3,q4,qf⟩:=cells5 az;have HB:Hid (Below w.heap.size w w6/\_):=jw (bp.out.trans (ao.mono bv)) az;have HP:Hid _:=jw HQ.out.1 (jw HQ.out.2.1 (jw HQ.out.2.2.1 (jw HQ.out.2.2.2.1 (jw HQ.out.2.2.2.2.1 (jw HQ.out.2.2.2.2.2.1 HQ.out.2.2.2.2.2.2.1)))));clear HQ HK b3 bs b4 bm bk az ao;by_cases ac:b0=true/\b1=true/\b2=true
      ·obtain⟨rfl,rfl,rfl⟩:=ac;go_wp2_with fail;obtain⟨hQ,ai,ah,ak,bu,b5,E⟩:=HP.out;rw[Qo bu b5 E,ai,ah,ak]at hQ;subst hQ;refine bodyPost_ret (v:=.tuple #[.agg #[.int .i64 n0,.int .i64 n1,.int .i64 n2,.slice ta tn tc,.int .i64 0],.bool true]) (by simp[results,Tryz.results121,go_sem,q0,q1,q2,q3,q4]) rfl ⟨⟨ta,tc,?_,?_,rfl⟩,ny HB.out.1 (Nat.le_succ _) _ _ _ _ _⟩
       ·unfold Nj;dsimp only;rw[cm.out];rfl
       ·exact⟨HM.out.1.jO (qh w6 (w.heap.size+1) _ _ _ _ _) (λg hg e=>jF HM.out.1 HB.out.2 (by decide) (by rw[hg,e])),λg hg=>aW bv (HM.out.2 g hg)⟩
      ·have bw:none=Q:=by
        rw[<-HP.out.1];obtain⟨_,_,_,_,bu,b5,E⟩:=HP.out;refine(EN ?_).symm;rw[bu,b5,E];revert ac;cases b0<;>cases b1<;>cases b2<;>simp
       subst bw;clear HP;revert ac;cases b0<;>cases b1<;>cases b2<;>intro ac
       all_goals
        first
         |exact absurd ⟨rfl,rfl,rfl⟩ ac
         |(clear ac
           go_wp2_with fail;refine bodyPost_ret (v:=.tuple #[.agg #[.int .i64 0,.int .i64 0,.int .i64 0,.slice none 0 0,.int .i64 0],.bool false]) (by simp[results,Tryz.results121,go_sem,q0,q1,q2,q3,q4]) rfl ?_;exact⟨rfl,ny HB.out.1 (Nat.le_succ _) _ _ _ _ _⟩)
    ·have ec:((nk:Int) == 4)=false:=beq_false_of_ne (by omega);have ct:none=Q:=by rw[<-ab,UU (by rw[aj];exact h4)]
     subst ct;have H:Hid _:=jw J (jw av (jw a6 aj));clear J ag hD am an aa a7 hH hs aw hz z hQ ab hd ay bb ar br cc av a6 aj h4;go_enter (fq Tryz.func121 rfl),Tryz.ntmps121;go_upto_region 1 with fail;rw[<-hW];clear hW;go_wp2_with (first|(go_at_call 175;refine aK (af.out ()) ?_;rintro e w2 ⟨he,E⟩;obtain⟨a,cap,he,ht⟩:=he;rw[H.out.2.1,H.out.2.2.1,H.out.2.2.2]at he;subst he;obtain⟨q0,q1,q2,q3,q4,qf⟩:=cells5 (aq.out _ (E.alloc E.size (.cells #[.bool li,.string D2,.slice a nk cap] 103)));clear ht)|fail)
     refine bodyPost_ret (v:=.tuple #[.agg #[.int .i64 0,.int .i64 0,.int .i64 0,.slice none 0 0,.int .i64 0],.bool false]) (by simp[results,Tryz.results121,go_sem,q0,q1,q2,q3,q4]) rfl ⟨rfl,ny (H.out.1.trans ((E.alloc E.size _).mono H.out.1.size)) (Nat.le_succ _) _ _ _ _ _⟩
  ·rw[if_neg hz]at hQ;subst hQ
   have cv:(((D[0]'h0).toNat:Int) == 0)=false:=by
    rw[aw];refine beq_false_of_ne (λe=>hz ?_);apply jr.1;simpa using e
   have H:Hid _:=jw J ag;clear J ag hD am an aa a7 hH hs cl aw hz;go_enter (fq Tryz.func121 rfl),Tryz.ntmps121;go_upto_region 1 with fail;rw[<-hW];clear hW;go_wp2_with fail;refine bodyPost_ret (v:=.tuple #[.agg #[.int .i64 0,.int .i64 0,.int .i64 0,.slice none 0 0,.int .i64 0],.bool false]) (by simp[results,Tryz.results121,go_sem,r0,r1,r2,r3,r4]) rfl ⟨rfl,ny H.out.1 (Nat.le_succ _) _ _ _ _ _⟩
end
section
variable {s:List UInt8}{i:Im.It}{l:List Ba}{p:Nat}
theorem vT{b:List UInt8->Option (Bool×Nat×Nat)}{d:Nat}{n:Nat}(h:Im.read b d s=some (i,n)):(i.list=true->i.bytes=[])/\(i.list=false->i.kids=[]):=by
 cases d with
 |zero=>
  rw[Im.read]at h;split at h
  ·cases h;exact⟨λe=>(by cases e),λ_=>rfl⟩
  ·cases h
 |succ d=>
  rw[Im.read]at h;split at h
  ·cases h
  ·cases h;exact⟨λe=>(by cases e),λ_=>rfl⟩
  ·rw[aX]at h;obtain⟨l,_,e⟩:=h;cases e;exact⟨λ_=>rfl,λe=>(by cases e)⟩
theorem QI(h:Im.dec s=some i):(i.list=true->i.bytes=[])/\(i.list=false->i.kids=[]):=by
 unfold Im.dec at h;split at h
 ·rename_i z;split at h
  ·cases h;exact vT z
  ·cases h
 ·cases h
theorem WW{l:Im.It}(z:l.list=false->l.kids=[])(n:Nat):Dv.ru l n=(Ip l).map (λb=>{ b with place:=n }):=by
 unfold Dv.ru Ip;cases h:l.list with
 |false=>
  rw[z h];rfl
 |true=>
  match hk:l.kids with
  |[a,b,c,d]=>
   dsimp only;unfold strs;cases hd:d.list with
   |false=>
    rw[if_pos rfl];simp only[Bool.false_and,bJ,if_false];cases Dv.value a<;>cases Dv.value b<;>cases Dv.value c<;>rfl
   |true=>
    rw[if_neg (by simp)];simp only[Bool.true_and];cases Dv.value a<;>cases Dv.value b<;>cases Dv.value c<;>by_cases E:(d.kids.all λt=>!t.list)=true<;>simp[E]
  |[]=>rfl
  |[_]=>rfl
  |[_,_]=>rfl
  |[_,_,_]=>rfl
  |_::_::_::_::_::_=>rfl
theorem VF(z:i.list=true->i.bytes=[])(n:Nat):Dv.xJ i n=(Ro i).map (λb=>{ b with place:=n }):=by
 unfold Dv.xJ Ro;cases h:i.list with
 |true=>
  rw[z h];rfl
 |false=>
  rw[if_neg (by simp)];cases E:i.bytes with
  |nil=>rfl
  |cons x r=>
   dsimp only;split
   ·cases hd:Im.dec r with
    |none=>rfl
    |some l=>
     simp only[gK];exact WW (QI hd).2 n
   ·rfl
inductive yF(s:List UInt8):List Ba->Nat->Prop
 |nil:yF s [] 0
 |snoc {l:List Ba} {p:Nat} {i:Im.It} {n:Nat} {b:Ba}:yF s l p->p<s.length->Im.read Im.body 8 (s.drop p)=some (i,n)->Ro i=some b->yF s (l++[b]) (p+n)
def aaM(s:List UInt8)(p:Nat):Prop:=s.length<=p\/Im.read Im.body 8 (s.drop p)=none\/∃i n,Im.read Im.body 8 (s.drop p)=some (i,n)/\Ro i=none
def vK(n:Nat)(l:List Ba):List Ba:=(l.filter (λb=>decide (b.epoch<=n))).map (λb=>{ b with place:=n })
theorem vU(n:Nat)(l:List Ba)(b:Ba):vK n (l++[b])=vK n l++(if b.epoch<=n then [{ b with place:=n }]else []):=by
 unfold vK;rw[iC,aY]
 congr 1
 by_cases h:b.epoch<=n<;>simp[h]
theorem yF.rd(h:yF s l p)(n:Nat):∀f,Dv.rd (f+l.length) s n=vK n l++Dv.rd f (s.drop p) n:=by
 induction h with
 |nil=>intro f;rfl
 |@snoc l p i k b _ hp hr hb ih=>
  intro f;rw[aJ,iy,show f+(l.length+1)=(f+1)+l.length from by omega,ih (f+1),vU,fE]
  congr 1
  rw[Dv.rd,if_neg (by intro e;have:=congrArg List.length e;rw[dP]at this;simp at this;omega),hr];dsimp only;rw[VF (vT hr).1 n,hb];simp only[bQ,gZ]
theorem yF.le(h:yF s l p):l.length<=p/\p<=s.length:=by
 induction h with
 |nil=>exact⟨jA,dF _⟩
 |@snoc l p i k b _ hp hr hb ih=>
  have:=Im.rG Im.oI 8 (s.drop p) i k hr;rw[dP]at this;rw[aJ,iy];omega
theorem yF.all(h:yF s l p)(z:aaM s p)(n:Nat):Dv.rd s.length s n=vK n l:=by
 have R:=h.le;have:=h.rd n (s.length-l.length);rw[show s.length-l.length+l.length=s.length from by omega]at this;rw[this]
 have:Dv.rd (s.length-l.length) (s.drop p) n=[]:=by
  cases J:s.length-l.length with
  |zero=>rfl
  |succ f=>
   rw[Dv.rd];split
   ·rfl
   ·rename_i E;rcases z with z|z|⟨i,k,z,I⟩
    ·exact absurd (List.drop_eq_nil_of_le z) E
    ·rw[z]
    ·rw[z];dsimp only;rw[VF (vT z).1 n,I];rfl
 rw[this,fU]
end
open Go.RowKit
section
variable {P:Program}{l l₀:Nat}{assign body:Code}{w:World}
theorem G5{m n:Nat}{f:FuncId}{tmps:Array Value}{R:Ending->World->Prop}(h:RoundIn Fence.wide m P l f tmps assign body w R):RoundIn (Fence.wide.inRound l₀) n P l f tmps assign body w R:=⟨h.1,λc cs _=>h.2 c cs (room_wide _)⟩
def wo(F:Nat->Prop)(z E:World)(k:Nat):Prop:=F k\/(z.heap.size<=k/\k<E.heap.size)
theorem MK{F:Nat->Prop}{A B:World}{o:Obj}(h:jJ (λk=>F k/\NC A k) (A.putObj l o) (B.putObj l o))(E:¬F l):jJ (λk=>F k/\NC (A.putObj l o) k) (A.putObj l o) (B.putObj l o):=
 h.mono (λk _ e=>⟨e.1,λcs t z hk=>by
  rw[World.putObj_heap_other (by rintro rfl;exact E e.1)]at hk;exact e.2 cs t z hk⟩)
def VD{α:Type}(P:Program)(g:Nat)(lb:Array Value)(encs:α->Array Value)(St:List α->World->Prop)(Y:List α->α->Nat->World->Prop)(S Sp:List α->Prop):Prop:=
 ∀(l:Nat)(J Jx:List α->(Nat->Prop)->World->Prop)(W:World),l<W.heap.size->St [] W->
  (∀z x F E I,J z F E->jJ (λk=>F k/\NC E k) E I->Y z x E.heap.size I->YieldAt Fence.wide 1 P l (encs x) I λe R=>
   (e=.returned (.bool true)/\J (z++[x]) (wo F E I) R/\I.heap.size<=R.heap.size/\St (z++[x]) R/\∀k,wo F E I k->R.heap[k]? =I.heap[k]?)\/(e=.returned (.bool false)/\Jx (z++[x]) (wo F E I) R/\I.heap.size<=R.heap.size/\∀k,wo F E I k->R.heap[k]? =I.heap[k]?))->
  J [] (λ_=>False) W->
  CallsIn Fence.wide 2 P g (#[.func (.yield l) #[] #[]]++lb) W λe R=>(∃v,e=.returned v)/\((∃xs F E,S xs/\J xs F E/\jJ (λk=>F k/\NC E k) E R)\/(∃z F E,Sp z/\Jx z F E/\jJ (λk=>F k/\NC E k) E R))
def Zr{α:Type}(B:Nat)(F:Nat->Prop)(E:List α->World->Prop)(I:List α->(Nat->Prop)->World->Prop)(z:Code->List α->(Nat->Prop)->World->Prop)(xs:List α)(W:World):Exit->Act->World->Prop
 |.normal,_,W'=>KeepsFrom B W W'/\E xs W'/\(∀k,F k->W'.heap[k]? =W.heap[k]?)/\I xs F W'
 |.ret,_,W'=>KeepsFrom B W W'/\(∀k,F k->W'.heap[k]? =W.heap[k]?)/\z .ret xs F W'
 |.exit id,_,W'=>KeepsFrom B W W'/\(∀k,F k->W'.heap[k]? =W.heap[k]?)/\z (.exit id) xs F W'
 |.goto t,_,W'=>KeepsFrom B W W'/\(∀k,F k->W'.heap[k]? =W.heap[k]?)/\z (.goto t) xs F W'
 |.panic _,_,_=>False
 |.outgrown,_,_=>False
theorem Dy{α:Type}{g:Operand}{ps:Array Tmp}{Q:Exit->Act->World->Prop}{a:Act}{ah:Loop}(ak:w.heap[l₀]? =some (.loop ah))
  {gf:Nat} {lb:Array Value} (hg:a.eval g=.func (.func gf) #[] lb) (eg:∀args w,(callFunc gf args).run P w=.ok (.enter gf args) w)
  {encs:α->Array Value} {St:List α->World->Prop} {Y:List α->α->Nat->World->Prop} {S Sp:List α->Prop} (ap:VD P gf lb encs St Y S Sp)
  (aq:OwnFrom w.heap.size St) (hY:∀lo,OwnFrom w.heap.size (λ(q:List α×α) W=>Y q.1 q.2 lo W)) (au:∀x,(encs x).size=ps.size)
  (I:List α->(Nat->Prop)->World->Prop) (Ix:Code->List α->(Nat->Prop)->World->Prop) (hI:∀F,OwnFrom w.heap.size (λxs W=>I xs F W)) (ae:∀c F,OwnFrom w.heap.size (λxs W=>Ix c xs F W)) (h0:I [] (λ_=>False) w) (ar:St [] w) (ai:α->Nat->Act) (ox:α->Obj)
  (ac:∀(l:Nat)(x:α)(W:World)(K:Act->World->Prop),K (ai x W.heap.size) (W.alloc (ox x))->
   assign.wpIn (Fence.wide.inRound l) 1 P (Exit.then K (λ_ _ _=>False)) { tmps:=(ps.zip (encs x)).foldl (λt (p,v)=>t.setIfInBounds p v) a.tmps,defers:=[] } W)
  (aj:∀(l:Nat)(z:List α)(x:α)(F:Nat->Prop)(J R:World),l=w.heap.size->l<J.heap.size->(∃r,R.heap[l]? =some (.loop r))->(∀k,F k->w.heap.size<k/\k<J.heap.size)->I z F J->jJ (λk=>F k/\NC J k) J R->Y z x J.heap.size R->body.wpIn (Fence.wide.inRound l) 1 P (Zr w.heap.size (wo F J R) St I Ix (z++[x]) (R.alloc (ox x))) (ai x R.heap.size) (R.alloc (ox x)))
  (am:∀(xs:List α)(F:Nat->Prop)(J W:World),(∀k,F k->w.heap.size<k/\k<J.heap.size)->S xs->I xs F J->jJ (λk=>F k/\NC J k) J W->Q .normal a W)
  (an:∀(c:Code)(z:List α)(F:Nat->Prop)(J W:World),(∀k,F k->w.heap.size<k/\k<J.heap.size)->Sp z->Ix c z F J->jJ (λk=>F k/\NC J k) J W->c.wpIn (Fence.wide.inRound l₀) 1 P Q a W):
  (Code.rangeFunc g ps assign body).wpIn (Fence.wide.inRound l₀) 1 P Q a w:=by
 refine wpIn_rangeFunc λfn ax=>?_;obtain⟨rc,aa⟩:∃rc:LoopState->Option Code->Loop,rc=λst pe=>{ state:=st,pending:=pe,fn,tmps:=a.tmps,params:=ps,assign,body,defers:=ah.defers }:=⟨_,rfl⟩
 obtain⟨V,hV⟩:∃V,w.alloc (.loop (rc .ready none))=V:=⟨_,rfl⟩
 have vl:V.heap[w.heap.size]? =some (.loop (rc .ready none)):=by rw[<-hV];exact World.alloc_heap_new w _
 have vI:I [] (λ_=>False) V:=by rw[<-hV];exact(hI _).alloc _ h0
 have vS:St [] V:=by rw[<-hV];exact aq.alloc _ ar
 refine⟨w.heap.size,[],V,{ target:=.fn (.func gf) lb,args:=#[.func (.yield w.heap.size) #[] #[]] },V,gf,
  #[.func (.yield w.heap.size) #[] #[]]++lb,V,?_,?_,λ_ _=>trivial,by simp[invoke,go_sem,eg],λh=>by simp[Fence.wide]at h,?_⟩
 ·rw[<-hV,aa];exact run_enterLoop_inner ak _ _ _ _ _
 ·simp only[resolve,hg];simp[go_sem]
 refine CallsIn.mono (callsIn_wide.2 (callsIn_wide.1 (ap w.heap.size
  (λz F W=>I z F W/\W.heap[w.heap.size]? =some (.loop (rc .ready none))/\∀k,F k->w.heap.size<k/\k<W.heap.size)
  (λz F W=>∃c,Ix c z F W/\W.heap[w.heap.size]? =some (.loop (rc .done (some c)))/\∀k,F k->w.heap.size<k/\k<W.heap.size) V (jC vl) vS ?_ ⟨vI,vl,λ_ h=>h.elim⟩)):CallsIn Fence.wide 0 P gf _ V _) ?_
 ·rintro z x F J R ⟨i0,l0,f0⟩ hb hy;have nl:¬F w.heap.size:=λh=>by have:=(f0 _ h).1;omega
  have ab:w.heap.size<J.heap.size:=(jC l0)
  have l1:=(hb.block _ ab (λe=>nl e.1)).trans l0;have af:w.heap.size<R.heap.size:=(jC l1)
  have ry:=run_yield (P:=P) (args:=encs x) l1 (by rw[aa];exact au x);rw[aa]at ry;refine⟨fn,_,assign,body,ry,roundIn_of_wpIn ax (ac _ x R _ ⟨_,run_beginRound ((aT _ _ _ af).trans l1) (by rw[aa]),?_⟩)⟩;clear ry;rw[xU _ _ _ _ af];obtain⟨o,ho⟩:∃o:Obj,Obj.loop { rc .ready none with state:=.busy }=o:=⟨_,rfl⟩
  rw[ho];have b1:=MK (uD hb w.heap.size o ab) nl
  have y1:Y z x (J.putObj w.heap.size o).heap.size (R.putObj w.heap.size o):=by
   rw[World.putObj_size];exact(hY J.heap.size).putObj (s:=(z,x)) o hy (by omega) l1 rfl
  have eF:wo F (J.putObj w.heap.size o) (R.putObj w.heap.size o)=wo F J R:=by unfold wo;simp only[World.putObj_size]
  have ag:=aj w.heap.size z x F _ _ rfl (by simp;omega) ⟨_,(World.putObj_heap_same af).trans (congrArg some ho.symm)⟩ (by simpa using f0) ((hI F).putObj o i0 (by omega) l0 rfl) b1 y1;rw[eF]at ag;simp only[World.putObj_size]at ag
  have f1:∀k,wo F J R k->w.heap.size<k/\k<R.heap.size:=λk hk=>by
   have:=hb.size;rcases hk with h|h
   ·have:=f0 k h;omega
   ·omega
  refine wpIn_mono ag ?_;clear ag;have av:((R.putObj w.heap.size o).alloc (ox x)).heap[w.heap.size]? =some o:=(aT _ _ _ (by simp;omega)).trans (World.putObj_heap_same af)
  have fin:∀(E:Option Code)(W3:World),KeepsFrom w.heap.size ((R.putObj w.heap.size o).alloc (ox x)) W3->
    (Instr.endRound w.heap.size E).run P W3=.ok (.bool E.isNone) (W3.putObj w.heap.size (.loop (rc (if E.isNone then .ready else .done) E)))/\
    W3.heap[w.heap.size]? =some o/\
    (W3.putObj w.heap.size (.loop (rc (if E.isNone then .ready else .done) E))).heap[w.heap.size]? =some (.loop (rc (if E.isNone then .ready else .done) E)):=λE W3 aw=>by
   have q1:=aw.same _ _ (by omega) av (by rw[<-ho];rfl);have ao:=q1;rw[<-ho]at ao;have:=run_endRound (P:=P) E ao;refine⟨?_,q1,World.putObj_heap_same (jC q1)⟩;rw[aa]at this⊢;exact this
  rintro e a3 W3 hp;cases e with
  |normal=>
   obtain⟨k3,kk,kx,i3⟩:=hp;obtain⟨hr,l3,l4⟩:=fin none W3 k3;have s3:R.heap.size<=W3.heap.size:=by have:=k3.size;simp at this;omega
   refine⟨_,_,hr,.inl ⟨rfl,⟨(hI _).putObj _ i3 (by omega) l3 (by rw[<-ho];rfl),l4,λk hk=>by have:=f1 k hk;rw[World.putObj_size];omega⟩,by rw[World.putObj_size];exact s3,aq.putObj _ kk (by omega) l3 (by rw[<-ho];rfl),λk h1=>by
    have:=f1 k h1;rw[World.putObj_heap_other (by omega),kx k h1,aT _ _ _ (by simp;omega),World.putObj_heap_other (by omega)]⟩⟩
  |ret=>
   obtain⟨k3,kx,i3⟩:=hp;obtain⟨hr,l3,l4⟩:=fin (some .ret) W3 k3;have s3:R.heap.size<=W3.heap.size:=by have:=k3.size;simp at this;omega
   exact⟨_,_,hr,.inr ⟨rfl,⟨.ret,(ae _ _).putObj _ i3 (by omega) l3 (by rw[<-ho];rfl),l4,λk hk=>by have:=f1 k hk;rw[World.putObj_size];omega⟩,by rw[World.putObj_size];exact s3,λk h1=>by
    have:=f1 k h1;rw[World.putObj_heap_other (by omega),kx k h1,aT _ _ _ (by simp;omega),World.putObj_heap_other (by omega)]⟩⟩
  |exit id=>
   obtain⟨k3,kx,i3⟩:=hp;obtain⟨hr,l3,l4⟩:=fin (some (.exit id)) W3 k3;have s3:R.heap.size<=W3.heap.size:=by have:=k3.size;simp at this;omega
   exact⟨_,_,hr,.inr ⟨rfl,⟨.exit id,(ae _ _).putObj _ i3 (by omega) l3 (by rw[<-ho];rfl),l4,λk hk=>by have:=f1 k hk;rw[World.putObj_size];omega⟩,by rw[World.putObj_size];exact s3,λk h1=>by
    have:=f1 k h1;rw[World.putObj_heap_other (by omega),kx k h1,aT _ _ _ (by simp;omega),World.putObj_heap_other (by omega)]⟩⟩
  |goto t=>
   obtain⟨k3,kx,i3⟩:=hp;obtain⟨hr,l3,l4⟩:=fin (some (.goto t)) W3 k3;have s3:R.heap.size<=W3.heap.size:=by have:=k3.size;simp at this;omega
   exact⟨_,_,hr,.inr ⟨rfl,⟨.goto t,(ae _ _).putObj _ i3 (by omega) l3 (by rw[<-ho];rfl),l4,λk hk=>by have:=f1 k hk;rw[World.putObj_size];omega⟩,by rw[World.putObj_size];exact s3,λk h1=>by
    have:=f1 k h1;rw[World.putObj_heap_other (by omega),kx k h1,aT _ _ _ (by simp;omega),World.putObj_heap_other (by omega)]⟩⟩
  |panic ch=>exact hp.elim
  |outgrown=>exact hp.elim
 ·rintro e W2 ⟨⟨v,rfl⟩,(⟨xs,F,J,hS,⟨i0,l0,f0⟩,hb⟩|⟨z,F,J,hS,⟨c,i0,l0,f0⟩,hb⟩)⟩
  ·have nl:¬F w.heap.size:=λh=>by have:=(f0 _ h).1;omega
   have ab:w.heap.size<J.heap.size:=(jC l0)
   have l2:=(hb.block _ ab (λe=>nl e.1)).trans l0;refine⟨none,_,by have:=run_endLoop (P:=P) l2 (by rw[aa];simp);rw[aa]at this;exact this,?_⟩;exact am xs F _ _ (by simpa using f0) hS ((hI F).putObj _ i0 (by omega) l0 rfl) (MK (uD hb w.heap.size _ ab) nl)
  ·have nl:¬F w.heap.size:=λh=>by have:=(f0 _ h).1;omega
   have ab:w.heap.size<J.heap.size:=(jC l0)
   have l2:=(hb.block _ ab (λe=>nl e.1)).trans l0;refine⟨some c,_,by have:=run_endLoop (P:=P) l2 (by rw[aa];simp);rw[aa]at this;exact this,?_⟩;exact an c z F _ _ (by simpa using f0) hS ((ae c F).putObj _ i0 (by omega) l0 rfl) (MK (uD hb w.heap.size _ ab) nl)
end
open Dv (Ba)
section
variable {T:List UInt8}{is:List Im.It}{p j:Nat}{i:Im.It}{W:World}
structure BX where
 b:Ba
 a:Option Addr
 cap:Nat
def BX.encs(x:BX):Array Value:=#[.agg #[.int .i64 x.b.epoch,.int .i64 x.b.id,.int .i64 x.b.time,.slice x.a x.b.txs.length x.cap,.int .i64 x.b.place]]
def Nl(ho:Option Obj)(cB:Nat)(S:ByteArray)(_:List BX)(W:World):Prop:=W.heap[1]? =ho/\kQ W/\Boxed W cB 9 (.string S)
def BY(T:List UInt8)(pre:List BX)(x:BX)(lo:Nat)(W:World):Prop:=Made W lo (.slice x.a x.b.txs.length x.cap) x.b.txs/\x.b.place=0/\∃p,yF T ((pre++[x]).map BX.b) p
def BS(T:List UInt8)(xs:List BX):Prop:=∃p,yF T (xs.map BX.b) p/\aaM T p
theorem Gw(h:Im.mJ (Im.read Im.body 8) T is p):∀E:List Ba,is.map Ro=E.map some->yF T E p:=by
 induction h with
 |nil=>
  intro E z;cases E with
  |nil=>exact .nil
  |cons=>simp at z
 |@snoc l p i n _ hp hr ih=>
  intro E z;rw[aY]at z;rcases List.eq_nil_or_concat E with rfl|⟨I,b,rfl⟩
  ·simp at z
  ·rw[List.concat_eq_append]at z⊢;rw[aY]at z;obtain⟨R,h2⟩:=List.append_inj' z rfl;simp only[dW,fG,List.cons.injEq,and_true]at h2;exact .snoc (ih I R) hp hr h2
theorem Fb(h:Im.mJ (Im.read Im.body 8) T (is++[i]) p):∃z n,Im.mJ (Im.read Im.body 8) T is z/\z<T.length/\Im.read Im.body 8 (T.drop z)=some (i,n):=by
 generalize E:is++[i]=l at h;cases h with
 |nil=>simp at E
 |snoc h1 h2 h3=>
  obtain⟨rfl,e⟩:=List.append_inj' E rfl;cases e;exact⟨_,_,h1,h2,h3⟩
theorem LH{n d:Nat}(h:Im.read Im.body d T=some (i,n)):i.bytes.length<=T.length:=by
 cases d with
 |zero=>
  rw[Im.read]at h;split at h
  ·cases h;simp only[dP,aZ];omega
  ·cases h
 |succ d=>
  rw[Im.read]at h;split at h
  ·cases h
  ·cases h;simp only[dP,aZ];omega
  ·rw[aX]at h;obtain⟨l,_,e⟩:=h;cases e;simp
structure EI(J:List BX->(Nat->Prop)->World->Prop)(ho:Option Obj)(cB B0 l n0 n1:Nat)(S:ByteArray)(Wc:World)(pre:List BX)(F:Nat->Prop)(W0:World):Prop where
 j:J pre F W0
 jO:jJ (λk=>F k/\NC W0 k) W0 Wc
 own:∀k,n0<=k->k<n1->F k\/W0.heap.size<=k
 nc:∀k,n1<=k+2->k<n1->W0.heap.size<=k\/NC W0 k
 st:Nl ho cB S pre Wc
 box:Wc.heap[B0]? =some (.cells #[.func (.yield l) #[] #[]] 216 (0,0))
 big:n1<=Wc.heap.size
theorem nG{F:Nat->Prop}{A B:World}(h:jJ F A B)(E:F j\/A.heap.size<=j)(o:Obj):jJ F A (B.putObj j o):=
 ⟨h.os,h.tape,h.output,by simpa using h.size,λk hk z=>by
  rw[World.putObj_heap_other]
  ·exact h.block k hk z
  ·rintro rfl;rcases E with q|q
   ·exact z q
   ·omega⟩
theorem Qb{o:Obj}(h:kQ W)(I:j≠1):kQ (W.putObj j o):=by
 have q0:(W.putObj j o).heap[1]? =W.heap[1]?:=World.putObj_heap_other (λe=>I e.symm);obtain⟨⟨E,R,Y⟩,a3,z,a5⟩:=h;exact⟨⟨(World.cell?_of_block q0).trans E,(World.cell?_of_block q0).trans R,(World.cell?_of_block q0).trans Y⟩,(World.cell?_of_block q0).trans a3,(World.cell?_of_block q0).trans z,(World.cell?_of_block q0).trans a5⟩
variable {J:List BX->(Nat->Prop)->World->Prop}{ho:Option Obj}{cB B0 l n0 n1:Nat}{S:ByteArray}{Wc:World}{pre:List BX}{F:Nat->Prop}{W0:World}
theorem EI.free(h:EI J ho cB B0 l n0 n1 S Wc pre F W0)(E:n0<=j)(z:n1<=j+2)(h2:j<n1):(F j/\NC W0 j)\/W0.heap.size<=j:=by
 rcases h.nc j z h2 with q|q
 ·exact .inr q
 ·rcases h.own j E h2 with r|r
  ·exact .inl ⟨r,q⟩
  ·exact .inr r
theorem EI.put(h:EI J ho cB B0 l n0 n1 S Wc pre F W0)(o:Obj)(E:n0<=j)(z:n1<=j+2)(h2:j<n1)(h3:1<n0)(h4:cB<n0)(I:B0≠j):EI J ho cB B0 l n0 n1 S (Wc.putObj j o) pre F W0:=
 ⟨h.j,nG h.jO (h.free E z h2) o,h.own,h.nc,⟨(World.putObj_heap_other (by omega)).trans h.st.1,Qb h.st.2.1 (by omega),(World.putObj_heap_other (by omega)).trans h.st.2.2⟩,(World.putObj_heap_other I).trans h.box,by rw[World.putObj_size];exact h.big⟩
theorem EI.below(h:EI J ho cB B0 l n0 n1 S Wc pre F W0)(z:Below Wc.heap.size Wc W):EI J ho cB B0 l n0 n1 S W pre F W0:=
 ⟨h.j,h.jO.trans (.below z jA _) (λ_ _ e=>e),h.own,h.nc,⟨(z.block _ h.st.2.1.pos).trans h.st.1,h.st.2.1.below z h.st.2.1.pos,(z.block _ h.st.2.2.lt).trans h.st.2.2⟩,(z.block _ (jC h.box)).trans h.box,aW h.big z.size⟩
theorem EI.next(h:EI J ho cB B0 l n0 n1 S Wc pre F W0){x:BX}{E:World}(hj:J (pre++[x]) (wo F W0 Wc) E)(hs:Wc.heap.size<=E.heap.size)(R:Nl ho cB S (pre++[x]) E)(hk:∀k,wo F W0 Wc k->E.heap[k]? =Wc.heap[k]?)(hB:n0<=B0)(Y:B0<n1)(hn:n0+2<=n1)(aa:∀k,n1<=k+2->k<n1->NC Wc k):EI J ho cB B0 l n0 n1 S E (pre++[x]) (wo F W0 Wc) E/\∀k,n0<=k->k<n1->E.heap[k]? =Wc.heap[k]?:=by
 have I:∀k,n0<=k->k<n1->wo F W0 Wc k:=λk z h2=>by
  have:=h.big;rcases h.own k z h2 with q|q
  ·exact .inl q
  ·exact .inr ⟨q,by omega⟩
 exact⟨⟨hj,jJ.refl _ _,λk z h2=>.inl (I k z h2),λk z h2=>.inr (λcs t fz e=>aa k z h2 cs t fz (by rw[<-hk k (I k (by omega) h2)];exact e)),R,(hk B0 (I B0 hB Y)).trans h.box,aW h.big hs⟩,λk z h2=>hk k (I k z h2)⟩
theorem GL(s:ByteArray)(w:World):Calls PQ 120 #[.string s] w λe w'=>e=.returned (.func (.func 205) #[] #[.pointer (some ⟨w.heap.size,0,none⟩),.pointer (some ⟨w.heap.size+1,0,none⟩)])/\w'=(w.alloc (.cells #[.string s] 9)).alloc (.cells #[.int .i64 1] 3):=by
 have z:=Bh s 1 w;have E:Hid _:=λ(_:Unit)=>z;clear z;go_enter (fq Tryz.func120 rfl),Tryz.ntmps120;go_wp2_with (go_at_call 174;refine aK (E.out ()) ?_;rintro e w2 ⟨rfl,rfl⟩)
 go_ret;exact⟨rfl,rfl⟩
end
end Hm
section
open Go.RowKit
theorem pq(s:ByteArray)(i j:Nat):(s.extract i j).data.toList=(s.data.toList.take j).drop i:=by
 simp[ByteArray.data_extract,Array.toList_extract,List.drop_take]
def strLen:Value->Nat|.string s=>s.size|_=>0
theorem IK(s:ByteArray)(I:0<s.size):Sq.piece s.data.toList=
  if s[0].toNat<128 then(if s[0].toNat+2<=s.size then some ((s.extract 1 (s[0].toNat+2)).data.toList,s[0].toNat+2)else none)
  else if s[0].toNat=128 then none
  else if 2<=s.size then some (Lib.repeatL (s.extract 1 2).data.toList (257-s[0].toNat),2)else none:=by
 obtain⟨d⟩:=s;obtain⟨l⟩:=d;cases l with
 |nil=>simp[ByteArray.size]at I
 |cons c r=>
  have z:(⟨⟨c::r⟩⟩:ByteArray)[0]=c:=rfl;have E:(⟨⟨c::r⟩⟩:ByteArray).size=r.length+1:=rfl;rw[z,E];simp only[pq,Sq.piece];split
  ·by_cases h:c.toNat+1<=r.length
   ·rw[if_pos h,if_pos (by omega)];rfl
   ·rw[if_neg h,if_neg (by omega)]
  ·split
   ·rfl
   ·cases r with
    |nil=>simp
    |cons b q=>
     simp only[aN];rw[if_pos (by omega)];have:=Lib.repeatL_replicate b 1 (257-c.toNat);simp only[Nat.mul_one]at this;rw[<-this];rfl
theorem Zq(s:ByteArray)(w:World)(E:0<s.size)(I:(s[0].toNat:Int)<128)(z:(s[0].toNat:Int)+2<=s.size):
  Calls PQ 172 #[.string s] w λe w'=>e=.returned (.tuple #[.string (s.extract 1 (s[0].toNat+2)),.int .i64 (s[0].toNat+2),.bool true])/\w'=w:=by
 go_enter (fq Tryz.func172 rfl),Tryz.ntmps172;go_wp2_with fail;go_ret3;exact⟨rfl,rfl⟩
theorem YT(s:ByteArray)(L:List UInt8)(w:World)(E:s.size<=maxLen)(h0:0<s.size)(hc:128<(s[0].toNat:Int))(Y:2<=(s.size:Int))(I:Hid (Lib.repeatL (s.extract 1 2).data.toList (257-s[0].toNat)=L)):
  Calls PQ 172 #[.string s] w λe w'=>e=.returned (.tuple #[.string ⟨L.toArray⟩,.int .i64 2,.bool true])/\Below w.heap.size w w':=by
 unfold maxLen at E;have J:=s[0].toNat_lt;have R:(s[0].toNat:Int)<256:=by omega
 clear J;go_enter (fq Tryz.func172 rfl),Tryz.ntmps172;go_wp2_with fail;rw[show((257:Int)-(s[0].toNat:Int))=((257-s[0].toNat:Nat):Int) from by omega]
 refine(repeated _ _ _ (by omega) (by
  have:(s.extract 1 2).size<=1:=by simp[eG];omega
  have:=Nat.mul_le_mul this (show 257-s[0].toNat<=257 from by omega);omega)).mono ?_
 rintro e w1 ⟨rfl,z⟩;rw[I.out];go_wp2;go_ret3;exact⟨rfl,z⟩
theorem abr(s:ByteArray)(w:World)(E:s.size<=maxLen)(Y:0<s.size)(z:(s[0].toNat:Int)=128\/(128<(s[0].toNat:Int)/\(s.size:Int)<2)\/((s[0].toNat:Int)<128/\(s.size:Int)<(s[0].toNat:Int)+2)):
  Calls PQ 172 #[.string s] w λe w'=>e=.returned (.tuple #[.string ⟨#[]⟩,.int .i64 0,.bool false])/\w'=w:=by
 unfold maxLen at E;have I:=s[0].toNat_lt;have J:(s[0].toNat:Int)<256:=by omega
 clear I;rcases z with z|⟨z,hd⟩|⟨z,hd⟩
 ·have R:((s[0].toNat:Int) == 128)=true:=by simp[z]
  clear z;go_enter (fq Tryz.func172 rfl),Tryz.ntmps172;go_wp2_with fail;go_ret3;exact⟨rfl,rfl⟩
 ·go_enter (fq Tryz.func172 rfl),Tryz.ntmps172;go_wp2_with fail;go_ret3;exact⟨rfl,rfl⟩
 ·go_enter (fq Tryz.func172 rfl),Tryz.ntmps172;go_wp2_with fail;go_ret3;exact⟨rfl,rfl⟩
theorem XD(s:ByteArray)(t:List UInt8)(n:Nat)(w:World)(E:s.size<=maxLen)(hp:Sq.piece s.data.toList=some (t,n)):
  Calls PQ 172 #[.string s] w λe w'=>e=.returned (.tuple #[.string ⟨t.toArray⟩,.int .i64 n,.bool true])/\Below w.heap.size w w':=by
 have z:0<s.size:=by
  have:=(Sq.JA _ _ _ hp)
  rw[aV];omega
 rw[IK s z]at hp;split at hp
 ·split at hp
  ·simp only[aC,dA]at hp;obtain⟨rfl,rfl⟩:=hp;refine(Zq s w z (by omega) (by omega)).mono ?_;rintro e w' ⟨rfl,rfl⟩;exact⟨rfl,aB _ _⟩
  ·simp at hp
 ·split at hp
  ·simp at hp
  ·split at hp
   ·simp only[aC,dA]at hp;obtain⟨rfl,rfl⟩:=hp;exact YT s _ w E z (by omega) (by omega) rfl
   ·simp at hp
theorem X6(s:ByteArray)(w:World)(E:s.size<=maxLen)(z:0<s.size)(hp:Sq.piece s.data.toList=none):
  Calls PQ 172 #[.string s] w λe w'=>e=.returned (.tuple #[.string ⟨#[]⟩,.int .i64 0,.bool false])/\w'=w:=by
 rw[IK s z]at hp;refine abr s w E z ?_;split at hp
 ·split at hp
  ·simp at hp
  ·right;right;omega
 ·split at hp
  ·left;omega
  ·split at hp
   ·simp at hp
   ·right;left;omega
theorem KG(s:ByteArray)(most:Int)(w:World)(hs:s.size<=2097152)(aq:-9223372036854775808<=most)(ar:most<=9223372036854775807):
  Calls PQ 119 #[.string s,.int .i64 most] w λe w'=>e=.returned (.tuple #[.string ⟨(Sq.spread s.size s.data.toList most []).1.toArray⟩,.bool (Sq.spread s.size s.data.toList most []).2])/\Below w.heap.size w w':=by
 generalize hR:Sq.spread s.size s.data.toList most []=R;have HR:Hid _:=hR;clear hR;go_enter (fq Tryz.func119 rfl),Tryz.ntmps119;go_wp2_with fail;go_loopw [0] (λv wr=>∃(s':ByteArray)(f:Nat)(out:List UInt8),v=.string s'/\s'.size<=f/\Sq.spread f s'.data.toList most out=R/\out.length+128*s'.size<=268435456/\(out=[]\/(out.length:Int)<=most)/\VE w.heap.size w.heap.size out wr/\Below w.heap.size w wr) (λv _=>strLen v)
 case atStart=>
  refine⟨s,s.size,[],rfl,jA,HR.out,by simp;omega,.inl rfl,fresh w,(aB _ w).alloc jA _⟩
 case round=>
  obtain⟨s',f,out,rfl,hf,J,ao,ab,hI,I⟩:=hrel;by_cases h0:0<s'.size
  ·have ak:(!s'.toList.isEmpty)=true:=by rw[toList_empty,decide_eq_false (by omega)];rfl
   cases hp:Sq.piece s'.data.toList with
   |none=>
    have z:Hid (R=(out,false)):=by
     rw[<-J];exact Sq.Kr _ _ _ _ (by rw[<-aV];exact h0) (by rw[<-aV];exact hf) hp
    clear J ab;go_wp2_with fail;refine(X6 s' _ (by unfold maxLen;omega) h0 hp).mono ?_;rintro e w1 ⟨rfl,rfl⟩;go_wp2_with fail;refine(Ag _ _ out _ hI (by have:=I.size;omega)).mono ?_;rintro e w2 ⟨rfl,_,Y⟩;go_wp2;go_ret2;rw[z.out];exact⟨rfl,I.trans Y⟩
   |some tn=>
    obtain⟨t,n⟩:=tn;have am:=Sq.JA _ _ _ hp;rw[<-aV]at am;have au:-9223372036854775808<=most-(out.length:Int):=by rcases ab with h|h;simp[h];omega;omega
    have av:most-(out.length:Int)<=9223372036854775807:=by omega
    have ae:Hid _:=ab;clear ab;have aj:Hid _:=J;clear J;have Hp:Hid _:=hp;clear hp;go_wp2_with fail;refine(XD s' t n _ (by unfold maxLen;omega) Hp.out).mono ?_;rintro e w1 ⟨rfl,Y⟩;have ag:=Dz hI Y;have aa:=I.trans (Y.mono I.size);go_wp2_with fail;refine(acr _ _ out _ ag).mono ?_;rintro e w2 ⟨rfl,rfl⟩;go_wp2_with fail
    ·have E:max (most-(out.length:Int)) 0<(t.length:Int):=by assumption
     have ap:(({ data:=t.toArray }:ByteArray).extract 0 (max (most-(out.length:Int)) 0).toNat).size<=t.length:=by
      rw[aV,pq];simp;omega
     have z:Hid (R=(out++(({ data:=t.toArray }:ByteArray).extract 0 (max (most-(out.length:Int)) 0).toNat).data.toList,false)):=by
      show _=_
      rw[<-aj.out,Sq.zF _ _ _ _ t n (by rw[<-aV];exact h0) (by rw[<-aV];exact hf) Hp.out];rw[if_pos (by rcases ae.out with h|h;simp[h]at E⊢;omega;omega)];rw[pq];simp only[List.drop_zero]
      congr 3
      rcases ae.out with h|h
      ·simp[h]
      ·omega
     refine(L9 _ _ out _ _ ag (by omega) (by have:=aa.size;omega)).mono ?_;rintro e w3 ⟨rfl,ac,af⟩;go_wp2_with fail;refine(Ag _ _ _ _ ac (by have:=aa.size;have:=af.size;omega)).mono ?_;rintro e w4 ⟨rfl,_,an⟩;generalize out++(({ data:=t.toArray }:ByteArray).extract 0 (max (most-(out.length:Int)) 0).toNat).data.toList=X at z ac⊢;go_wp2;go_ret2;rw[z.out];exact⟨rfl,(aa.trans af).trans an⟩
    ·have E:(t.length:Int)<=max (most-(out.length:Int)) 0:=by assumption
     refine(L9 _ _ out _ _ ag (by show _+t.toArray.size<=_;simp;omega) (by have:=aa.size;omega)).mono ?_;rintro e w3 ⟨rfl,ac,af⟩;go_wp2;go_roundw
     case rel=>
      have ai:(s'.extract n s'.size).size=s'.size-n:=by simp[eG]
      refine⟨s'.extract n s'.size,f-1,out++t,rfl,by omega,?_,?_,?_,ac,aa.trans af⟩
      ·rw[<-aj.out,Sq.zF _ _ _ _ t n (by rw[<-aV];exact h0) (by rw[<-aV];exact hf) Hp.out];rw[if_neg (by rcases ae.out with h|h;simp[h]at E⊢;omega;omega)];rw[pq,aV,iF]
      ·rw[ai,aJ];omega
      ·right;rw[aJ];rcases ae.out with h|h
       ·simp[h]at E⊢;omega
       ·omega
     case measure=>
      have ai:(s'.extract n s'.size).size=s'.size-n:=by simp[eG]
      simp[strLen];omega
  ·have ak:(!s'.toList.isEmpty)=false:=by rw[toList_empty,decide_eq_true (by omega)];rfl
   go_wp2_with fail;refine(Ag _ _ out _ hI (by have:=I.size;omega)).mono ?_;rintro e w1 ⟨rfl,_,Y⟩
   have ah:s'.data.toList=[]:=by
    have:=aV s';exact bD (by omega)
   rw[ah,Sq.Me]at J;subst J;go_wp2;go_ret2;exact⟨rfl,I.trans Y⟩
end
end Go.Proofs.YtpibpdpedjinhaaGreatDoor
