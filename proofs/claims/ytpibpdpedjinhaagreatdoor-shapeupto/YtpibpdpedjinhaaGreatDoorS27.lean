import Derived.Test.YtpibpdpedjinhaaGreatDoorS25
set_option maxRecDepth 100000
set_option maxHeartbeats 8000000
set_option linter.unusedSimpArgs false
namespace Go.Proofs.YtpibpdpedjinhaaGreatDoor
section
open Go.RowKit Go.Joins Go.Shelf
attribute [local go_sem] Oper.semAt_some
def XE (d:Nat) (s:ByteArray) (q:List X) (x:X) (lo:Nat) (W:World):Prop:=XY (d+1) q x lo W/\∃p,Im.mJ (Im.read Im.body d) s.data.toList ((q++[x]).map X.i) p
theorem XE.turn (d:Nat) (s:ByteArray) (q:List X) (x:X) (lo:Nat) (W z:World) (h:∀k,lo<=k->z.heap[k]? =W.heap[k]?) (hs:z.heap.size=W.heap.size) (E:XE d s q x lo W):XE d s q x lo z:=⟨XY.turn _ q x lo W z h hs E.1,E.2⟩
theorem JO (d:Nat) (hf:FirstSaid d) (s:ByteArray) (aa sB dB:Nat) (w:World) (hs:s.size<=16777216) (bd:aa+d=9) (hH:kU w) (h0:1 < w.heap.size)
  (av:w.cell? ⟨sB,0,none⟩=some (.string s)) (ay:w.cell? ⟨dB,0,none⟩=some (.int .i64 aa)) (ba:sB < w.heap.size) (hdl:dB < w.heap.size):
  Gives PQ 205 #[.pointer (some ⟨sB,0,none⟩),.pointer (some ⟨dB,0,none⟩)] X.encs (λk=>k=1\/k=sB\/k=dB) (XE d s) (Done d s) (Left d s) w:=by
 intro l J Jx W hW ar au
 have Hf:Hid _:=hf
 have HY:Hid _:=ar
 have a8:Hid _:=au
 clear hf ar au
 refine callsIn_of_wp (fq Tryz.func205 rfl) rfl trivial ?_ rfl
 simp only [Tryz.ntmps205,dL,aN,bM,Nat.reduceAdd,Nat.reduceSub,cO,bZ,dN,cZ,dM,dH]
 gi_wp2
 gi_loopw [4] (λt wr=>∃(z:List X) (W0:World) (p:Nat),t=.int .i64 p/\Hid (Im.mJ (Im.read Im.body d) s.data.toList (z.map X.i) p/\qH z=p/\p<=s.size/\z.length<=p/\J z W0/\Below W0.heap.size W0 wr/\kU wr/\sB < wr.heap.size/\dB < wr.heap.size)/\wr.cell? ⟨sB,0,none⟩=some (.string s)/\wr.cell? ⟨dB,0,none⟩=some (.int .i64 aa))
  (λt wr=>s.size - (intOf t).toNat)
 case atStart=>
  have:=hW.size
  exact ⟨[],W,0,rfl,⟨Im.mJ.nil,rfl,dF _,jC,a8.out,aB _ _,hH.below hW h0,by omega,by omega⟩,(hW.cell (p:=⟨sB,0,none⟩) ba).trans av,(hW.cell (p:=⟨dB,0,none⟩) hdl).trans ay⟩
 case round=>
  obtain ⟨z,W0,p,rfl,Hr,c0,c1⟩:=hrel
  clear av ay
  by_cases ag:p < s.size
  ·have a6:(p:Int) < (s.size:Int):=by omega
   have bb:(s.extract p s.size).size<=16777216:=by simp;omega
   have ak:(s.extract p s.size).data.toList=s.data.toList.drop p:=by rw [ext_list,dV (by rw [<-aV];omega)]
   have E:=λ(W:World) (hW:Below wr.heap.size wr W)=>Hf.out (s.extract p s.size) aa W bb bd (Hr.out.2.2.2.2.2.2.1.below hW Hr.out.2.2.2.2.2.2.1.pos)
   have q:=aB wr.heap.size wr
   obtain ⟨_,_,_,_,_,_,_,bg,a9⟩:=Hr.out
   have bl:sB≠wr.heap.size:=by omega
   have bn:dB≠wr.heap.size:=by omega
   rw [ak] at E
   generalize hC:Im.read Im.body d (s.data.toList.drop p)=C at E
   have ab:Hid _:=E
   have HC:Hid _:=hC
   clear E hC ak
   gi_wp2
   refine wpIn_wide.2 ?_
   cases C with
   |none=>
    go_cut [5,6,7] (λv5 v6 v7 wx=>v7=.bool false/\Below wr.heap.size wr wx)
    case first=>
     go_region_with (go_at_call 206;refine (ab.out _ ?_).mono ?_;(first|exact q|exact q.drew|exact below_drewN q _|exact q.alloc jC _|exact below_drewN (q.alloc jC _) _|exact (below_drewN q _).alloc jC _);rintro e w3 ⟨an,ac⟩;obtain rfl:=an;have I:Below wr.heap.size wr w3:=Below.trans (by first|exact q|exact q.drew|exact below_drewN q _|exact q.alloc jC _|exact below_drewN (q.alloc jC _) _|exact (below_drewN q _).alloc jC _) (ac.mono (by simp));(try (have hz:w3.heap[wr.heap.size]? =some (.cells #[.bool false,.string ⟨#[]⟩,.slice none 0 0] 103 (0,0)):=(ac.block wr.heap.size (by simp)).trans (by first|exact heap_alloc_new _ _|(have:=heap_alloc_new (wr.drewN 0) (.cells #[.bool false,.string ⟨#[]⟩,.slice none 0 0] 103);simpa using this));have z0:w3.cell? ⟨wr.heap.size,0,none⟩=some (.bool false):=(by rw [aA hz];rfl);have z1:w3.cell? ⟨wr.heap.size,1,none⟩=some (.string ⟨#[]⟩):=(by rw [aA hz];rfl);have z2:w3.cell? ⟨wr.heap.size,2,none⟩=some (.slice none 0 0):=(by rw [aA hz];rfl);have fz:=aI hz)))
     all_goals
      go_wp2_with fail
      go_meet
      refine ⟨rfl,?_⟩
      first
       |exact I.alloc I.size _
       |exact below_drewN (I.alloc I.size _) _
       |exact ((I.setCell jC _).setCell jC _).setCell jC _
       |exact below_drewN (((I.setCell jC _).setCell jC _).setCell jC _) _
    case rest=>
     obtain ⟨rfl,Y⟩:=hcut
     gi_wp2
     refine bodyPost_ret (results_none rfl _ _ _) rfl ?_
     obtain ⟨he,ah,aw,ax,hJ,R,af,_,_⟩:=Hr.out
     exact ⟨⟨_,rfl⟩,.inl ⟨z,W0,⟨p,he,ah,.inr ⟨ag,HC.out⟩⟩,hJ,R.trans (Y.mono R.size)⟩⟩
   |some x=>
    obtain ⟨i,n⟩:=x
    have am:=Im.qP Im.oq d _ _ _ HC.out
    rw [dP,<-aV] at am
    have bp:1<=n:=am.1
    have bk:p+n<=s.size:=by omega
    clear am
    obtain ⟨IB,ao⟩:∃IB:ByteArray,(⟨i.bytes.toArray⟩:ByteArray)=IB:=⟨_,rfl⟩
    go_cut [5,6,7] (λv5 v6 v7 wx=>∃(b:Nat) (a:Option Addr) (cap:Nat),v5=.pointer (some ⟨b,0,none⟩)/\v6=.int .i64 n/\v7=.bool true/\Below wr.heap.size wr wx/\K3 wx b 0 (.bool i.list) (.string IB) (.slice a i.kids.length cap)/\Tr wx (d+1) wr.heap.size wx.heap.size (.bool i.list) (.string IB) (.slice a i.kids.length cap) i)
    case first=>
     go_region_with (go_at_call 206;refine (ab.out _ ?_).mono ?_;(first|exact q|exact q.drew|exact below_drewN q _|exact q.alloc jC _|exact below_drewN (q.alloc jC _) _|exact (below_drewN q _).alloc jC _);rintro e w3 ⟨an,ac⟩;obtain ⟨a3,aj,rfl,ai⟩:=an;simp only at ai⊢;rw [ao] at ai⊢;have aq:Hid (Tr _ _ _ _ _ _ _ _):=ai;clear ai;have I:Below wr.heap.size wr w3:=Below.trans (by first|exact q|exact q.drew|exact below_drewN q _|exact q.alloc jC _|exact below_drewN (q.alloc jC _) _|exact (below_drewN q _).alloc jC _) (ac.mono (by simp));(try (have hz:w3.heap[wr.heap.size]? =some (.cells #[.bool false,.string ⟨#[]⟩,.slice none 0 0] 103 (0,0)):=(ac.block wr.heap.size (by simp)).trans (by first|exact heap_alloc_new _ _|(have:=heap_alloc_new (wr.drewN 0) (.cells #[.bool false,.string ⟨#[]⟩,.slice none 0 0] 103);simpa using this));have z0:w3.cell? ⟨wr.heap.size,0,none⟩=some (.bool false):=(by rw [aA hz];rfl);have z1:w3.cell? ⟨wr.heap.size,1,none⟩=some (.string ⟨#[]⟩):=(by rw [aA hz];rfl);have z2:w3.cell? ⟨wr.heap.size,2,none⟩=some (.slice none 0 0):=(by rw [aA hz];rfl);have fz:=aI hz)))
     all_goals
      go_wp2_with fail
      go_meet
      first
       |exact ⟨_,a3,aj,rfl,rfl,rfl,EU I aq.out (by simp) _⟩
       |exact ⟨_,a3,aj,rfl,rfl,rfl,Oa I aq.out (by simp) hz⟩
    case rest=>
     obtain ⟨b,a,cap,rfl,rfl,rfl,Y,⟨k0,k1,k2⟩,ae⟩:=hcut
     rw [fC] at k1 k2
     rw [<-ao] at ae
     obtain ⟨he,ah,aw,ax,hJ,R,af,_,_⟩:=Hr.out
     have a7:=R.trans (Y.mono R.size)
     obtain ⟨fn,tmps,assign,body,hy,hR⟩:=HY.out z ⟨p+n,i,a,cap⟩ W0 wc hJ a7 ⟨⟨by omega,ae.wider R.size jC⟩,p+n,by rw [aY];exact Im.mJ.snoc he (by rw [<-aV];exact ag) HC.out⟩
     simp only [X.encs,Int.natCast_add] at hy
     rw [ao] at hy
     have HR:Hid _:=hR
     have bq:Hid _:=ae
     clear hR ae
     have bm:(p:Int)+(n:Int)<=16777216:=by omega
     gi_wp2
     refine RoundIn.mono HR.out ?_
     rintro e W3 (⟨rfl,bj,bo,ap⟩|⟨rfl,az⟩)
     ·gi_wp2
      go_roundw
      case rel=>
       have q0:=ap 1 (.inl rfl)
       have q1:=ap sB (.inr (.inl rfl))
       have q2:=ap dB (.inr (.inr rfl))
       have s5:=Y.size
       have bh:=af.below Y af.pos
       refine ⟨z++[⟨p+n,i,a,cap⟩],W3,p+n,by simp,⟨?_,ny _ _,bk,by simp;omega,bj,aB _ _,?_,by omega,by omega⟩,?_,?_⟩
       ·rw [aY]
        exact Im.mJ.snoc he (by rw [<-aV];exact ag) HC.out
       ·obtain ⟨⟨a0,a1,a2⟩,a3,a4,a5⟩:=bh
        exact ⟨⟨(World.cell?_of_block q0).trans a0,(World.cell?_of_block q0).trans a1,(World.cell?_of_block q0).trans a2⟩,(World.cell?_of_block q0).trans a3,(World.cell?_of_block q0).trans a4,(World.cell?_of_block q0).trans a5⟩
       ·exact (World.cell?_of_block q1).trans ((Y.cell (p:=⟨sB,0,none⟩) bg).trans c0)
       ·exact (World.cell?_of_block q2).trans ((Y.cell (p:=⟨dB,0,none⟩) a9).trans c1)
      case measure=>simp [intOf];omega
     ·gi_wp2
      refine bodyPost_ret (results_none rfl _ _ _) rfl ?_
      refine ⟨⟨_,rfl⟩,.inr ⟨z++[⟨p+n,i,a,cap⟩],W3,⟨p+n,?_,ny _ _⟩,az,aB _ _⟩⟩
      rw [aY]
      exact Im.mJ.snoc he (by rw [<-aV];exact ag) HC.out
  ·have a6:¬(p:Int) < (s.size:Int):=by omega
   gi_wp2
   go_end0
   obtain ⟨he,ah,aw,ax,hJ,R,af,_,_⟩:=Hr.out
   exact ⟨⟨_,rfl⟩,.inl ⟨z,⟨p,he,ah,.inl (by omega)⟩,W0,hJ,R⟩⟩
end
namespace Hm
open Go.RowKit Go.Joins Go.Shelf
open Fr (below_drewN)
open Dv (U Cf Ba)
section
variable {l:Im.It} {a b c:Option Nat} {w:World}
def He (l:Im.It):Option Ba:=match l.kids with
 |[a,b,c,d]=>match Dv.value a,Dv.value b,Dv.value c,strs d with
  |some x,some y,some z,some t=>some ⟨x,y,z,t,0⟩
  |_,_,_,_=>none
 |_=>none
def QI (i:Im.It):Option Ba:=match i.bytes with
 |[]=>none
 |x::r=>if x=0 then (Im.dec r).bind He else none
theorem Uf (h:l.kids.length≠4):He l=none:=by
 unfold He
 split
 ·rename_i e
  rw [e] at h
  exact absurd rfl h
 ·rfl
def Qb:Option Nat->Option Nat->Option Nat->Option (List (List UInt8))->Option Ba
 |some x,some y,some z,some t=>some ⟨x,y,z,t,0⟩
 |_,_,_,_=>none
theorem Pm {a b c d:Im.It} (h:l.kids=[a,b,c,d]):He l=Qb (Dv.value a) (Dv.value b) (Dv.value c) (strs d):=by
 unfold He Qb
 rw [h]
theorem Ef {R:Option (List (List UInt8))} (h:a.isSome=false\/b.isSome=false\/c.isSome=false\/R.isSome=false):Qb a b c R=none:=by
 cases a<;>cases b<;>cases c<;>cases R<;>simp [Qb] at h⊢
theorem PE (q:a.isSome=true) (E:b.isSome=true) (z:c.isSome=true) (t:List (List UInt8)):Qb a b c (some t)=some ⟨a.getD 0,b.getD 0,c.getD 0,t,0⟩:=by
 cases a<;>cases b<;>cases c<;>simp [Qb] at q E z⊢
theorem In.four {B:Nat} {n m cap:Nat} {c0 c1:Value} {a:Option Addr} {Y R k2 E:Im.It} (h:In B w (n+1) c0 c1 (.slice a m cap) l) (hk:l.kids=[Y,R,k2,E]):∃g off,a=some ⟨g,off,none⟩/\g < B/\(∃q I z,K3 w g off (.bool Y.list) (.string ⟨Y.bytes.toArray⟩) (.slice q I z))/\(∃q I z,K3 w g (off+3) (.bool R.list) (.string ⟨R.bytes.toArray⟩) (.slice q I z))/\(∃q I z,K3 w g (off+6) (.bool k2.list) (.string ⟨k2.bytes.toArray⟩) (.slice q I z))/\∃q z,K3 w g (off+9) (.bool E.list) (.string ⟨E.bytes.toArray⟩) (.slice q E.kids.length z)/\In B w n (.bool E.list) (.string ⟨E.bytes.toArray⟩) (.slice q E.kids.length z) E:=by
 obtain ⟨li,bs,ks⟩:=l
 dsimp only at hk
 subst hk
 obtain ⟨g,off,aa,hv,hg,J⟩:=In.kid h (by simp)
 simp only [Value.slice.injEq] at hv
 obtain ⟨d0,h0,i0⟩:=J 0 (by simp)
 obtain ⟨d1,h1,i1⟩:=J 1 (by simp)
 obtain ⟨d2,h2,i2⟩:=J 2 (by simp)
 obtain ⟨d3,h3,i3⟩:=J 3 (by simp)
 obtain ⟨q,z,_,_,e0⟩:=In.shape i0
 obtain ⟨a1,p1,_,_,e1⟩:=In.shape i1
 obtain ⟨a2,p2,_,_,e2⟩:=In.shape i2
 obtain ⟨a3,p3,_,_,e3⟩:=In.shape i3
 subst e0 e1 e2 e3
 exact ⟨g,off,hv.1,hg,⟨q,_,z,h0⟩,⟨a1,_,p1,h1⟩,⟨a2,_,p2,h2⟩,a3,p3,h3,i3⟩
theorem XD {α:Type} {l:List α} (h:l.length=4):∃a b c d,l=[a,b,c,d]:=by
 match l,h with
 |[a,b,c,d],_=>exact ⟨a,b,c,d,rfl⟩
def abX (w:World) (lo:Nat) (e:Ending):Option Ba->Prop
 |none=>e=.returned (.tuple #[.agg #[.int .i64 0,.int .i64 0,.int .i64 0,.slice none 0 0,.int .i64 0],.bool false])
 |some b=>∃a cap,e=.returned (.tuple #[MH b (.slice a b.txs.length cap),.bool true])/\Made w lo (.slice a b.txs.length cap) b.txs/\b.place=0
theorem cells5 {W:World} {b:Nat} {ty:TypeId} {I E z q J:Value} (h:W.heap[b]? =some (.cells #[I,E,z,q,J] ty (0,0))):W.cell? ⟨b,0,none⟩=some I/\W.cell? ⟨b,1,none⟩=some E/\W.cell? ⟨b,2,none⟩=some z/\W.cell? ⟨b,3,none⟩=some q/\W.cell? ⟨b,4,none⟩=some J/\(∀o,W.frozen? ⟨b,o,none⟩=false):=
 ⟨by rw [aA h];rfl,by rw [aA h];rfl,by rw [aA h];rfl,by rw [aA h];rfl,by rw [aA h];rfl,aI h⟩
theorem ng {B R:Nat} {a:World} (h:Below B a w) (q:B<=R) (J I E z Y:Value):Below B a (Yk w R J I E z Y):=((((h.setCell (p:=⟨R,0,none⟩) q _).setCell (p:=⟨R,1,none⟩) q _).setCell (p:=⟨R,2,none⟩) q _).setCell (p:=⟨R,3,none⟩) q _).setCell (p:=⟨R,4,none⟩) q _
theorem JX (i:Im.It) (c2:Value) (w:World) (ct:∃a n cap,c2=.slice a n cap) (hs:i.bytes.length<=16777216) (hH:kU w):Calls PQ 121 #[.agg #[.bool i.list,.string ⟨i.bytes.toArray⟩,c2]] w λe w'=>abX w' w.heap.size e (QI i)/\Below w.heap.size w w':=by
 obtain ⟨ia,ik,ic,rfl⟩:=ct
 obtain ⟨D,hD⟩:∃D:ByteArray,(⟨i.bytes.toArray⟩:ByteArray)=D:=⟨_,rfl⟩
 have ak:D.data.toList=i.bytes:=by rw [<-hD]
 have am:D.size=i.bytes.length:=by rw [<-hD];rfl
 rw [hD]
 obtain ⟨Q,hQ⟩:∃Q,QI i=Q:=⟨_,rfl⟩
 rw [hQ]
 unfold QI at hQ
 obtain ⟨W,hW⟩:∃W,W=(w.alloc (.cells #[.bool i.list,.string D,.slice ia ik ic] 103)).alloc (.cells #[.int .i64 0,.int .i64 0,.int .i64 0,.slice none 0 0,.int .i64 0] 150):=⟨_,rfl⟩
 have I:Below w.heap.size w W:=by rw [hW];exact ((aB _ w).alloc jC _).alloc (by simp) _
 have ck:W.heap.size=w.heap.size+2:=by rw [hW];simp
 have af:W.heap[w.heap.size+1]? =some (.cells #[.int .i64 0,.int .i64 0,.int .i64 0,.slice none 0 0,.int .i64 0] 150 (0,0)):=by
  have:=heap_alloc_new (w.alloc (.cells #[.bool i.list,.string D,.slice ia ik ic] 103)) (.cells #[.int .i64 0,.int .i64 0,.int .i64 0,.slice none 0 0,.int .i64 0] 150)
  rw [hW]
  simpa using this
 have z1:W.cell? ⟨w.heap.size,1,none⟩=some (.string D):=by rw [hW];simp
 obtain ⟨r0,r1,r2,r3,r4,rf⟩:=cells5 af
 have a6:kU W:=hH.below I hH.pos
 cases Y:i.bytes with
 |nil=>
  rw [Y] at hQ
  subst hQ
  have ci:D.toList.isEmpty=true:=by rw [Fr.toList_empty];exact decide_eq_true (by rw [am,Y];rfl)
  have H:Hid _:=jB I af
  clear I af hD ak am Y a6 hH hs ck
  go_enter (fq Tryz.func121 rfl),Tryz.ntmps121
  go_upto_region 1 with fail
  rw [<-hW]
  clear hW
  go_wp2_with fail
  refine bodyPost_ret (v:=.tuple #[.agg #[.int .i64 0,.int .i64 0,.int .i64 0,.slice none 0 0,.int .i64 0],.bool false]) (by simp [results,Tryz.results121,go_sem,r0,r1,r2,r3,r4]) rfl ⟨rfl,ng H.out.1 (Nat.le_succ _) _ _ _ _ _⟩
 |cons x r=>
  rw [Y] at hQ
  dsimp only at hQ
  have h0:0 < D.size:=by rw [am,Y];simp
  have ci:D.toList.isEmpty=false:=by rw [Fr.toList_empty];exact decide_eq_false (by omega)
  have av:D[0]'h0=x:=by
   have:D.data.toList[0]? =some (D[0]'h0):=by
    rw [aG (by simpa using h0)]
    rfl
   rw [ak,Y] at this
   simpa using this.symm
  by_cases hz:x=0
  ·rw [if_pos hz] at hQ
   have cu:(((D[0]'h0).toNat:Int) == 0)=true:=by rw [av,hz];rfl
   obtain ⟨S,hS⟩:∃S:ByteArray,D.extract 1 D.size=S:=⟨_,rfl⟩
   have ax:S.data.toList=r:=by
    rw [<-hS,Fr.ext_list,aV,iG,ak,Y]
    rfl
   have ba:S.size<=16777216:=by
    rw [aV,ax]
    rw [Y] at hs
    simp at hs
    omega
   have q:=decode_any S W ba a6
   rw [ax] at q
   have h1:(1:Int)<=(D.size:Int):=by omega
   have aq:∀V,Below W.heap.size W V->V.heap[w.heap.size+1]? =some (.cells #[.int .i64 0,.int .i64 0,.int .i64 0,.slice none 0 0,.int .i64 0] 150 (0,0)):=λV hV=>(hV.block _ (by omega)).trans af
   have ap:Hid _:=aq
   cases hd:Im.dec r with
   |none=>
    rw [hd] at q hQ
    have aa:none=Q:=hQ
    subst aa
    have ae:Hid _:=λ(_:Unit)=>q
    have H:Hid _:=I
    clear I af hD ak am Y a6 hH hs av hz q hQ hd ax ba aq
    go_enter (fq Tryz.func121 rfl),Tryz.ntmps121
    go_upto_region 1 with fail
    rw [<-hW]
    clear hW
    go_wp2_with (first|(go_at_call 175;refine aK (ae.out ()) ?_;rintro e w2 ⟨he,z⟩;unfold FB at he;subst he;obtain ⟨q0,q1,q2,q3,q4,qf⟩:=cells5 (ap.out _ (z.alloc z.size (.cells #[.bool false,.string ⟨#[]⟩,.slice none 0 0] 103))))|fail)
    refine bodyPost_ret (v:=.tuple #[.agg #[.int .i64 0,.int .i64 0,.int .i64 0,.slice none 0 0,.int .i64 0],.bool false]) (by simp [results,Tryz.results121,go_sem,q0,q1,q2,q3,q4]) rfl ⟨rfl,ng (H.out.trans ((z.alloc z.size _).mono H.out.size)) (Nat.le_succ _) _ _ _ _ _⟩
   |some l=>
    rw [hd] at q hQ
    have aa:He l=Q:=hQ
    have bq:=λk hk=>Vo (k:=k) hd hk
    have cb:r.length<=16777216:=by rw [<-ax,<-aV];exact ba
    obtain ⟨D2,au⟩:∃D:ByteArray,(⟨l.bytes.toArray⟩:ByteArray)=D:=⟨_,rfl⟩
    obtain ⟨li,a5⟩:∃li,l.list=li:=⟨_,rfl⟩
    obtain ⟨nk,ai⟩:∃nk,l.kids.length=nk:=⟨_,rfl⟩
    have ae:Hid _:=λ(_:Unit)=>q
    by_cases h4:nk=4
    ·subst h4
     obtain ⟨k0,k1,k2,k3,ao⟩:=XD ai
     rw [Pm ao] at aa
     have bd:k3.kids.length<=4294967296:=by
      have:=bq k3 (by rw [ao];simp)
      omega
     obtain ⟨o0,ar⟩:∃o,Dv.value k0=o:=⟨_,rfl⟩
     obtain ⟨o1,a4⟩:∃o,Dv.value k1=o:=⟨_,rfl⟩
     obtain ⟨o2,az⟩:∃o,Dv.value k2=o:=⟨_,rfl⟩
     obtain ⟨R,hR⟩:∃R,strs k3=R:=⟨_,rfl⟩
     rw [ar,a4,az,hR] at aa
     have H:Hid _:=jB I (jB au (jB a5 (jB ai (jB ao (jB bd (jB aa (jB ar (jB a4 (jB az hR)))))))))
     clear I af hD ak am Y a6 hH hs av hz q hQ aa hd ax ba aq bq cb au a5 ai ao bd ar a4 az hR
     go_enter (fq Tryz.func121 rfl),Tryz.ntmps121
     go_upto_region 1 with fail
     rw [<-hW]
     clear hW
     go_upto_region 6 with (first|(go_at_call 175;refine aK (ae.out ()) ?_;rintro e w2 ⟨he,z⟩;obtain ⟨a,cap,he,ht⟩:=he;rw [H.out.2.1,H.out.2.2.1,H.out.2.2.2.1] at he;subst he;have HT:Hid (Tr _ _ _ _ _ _ _ _):=ht;clear ht)|fail)
     obtain ⟨V,hV⟩:∃V,V=w2.alloc (.cells #[.bool li,.string D2,.slice a 4 cap] 103):=⟨_,rfl⟩
     rw [<-hV]
     have aw:Below w2.heap.size w2 V:=by rw [hV];exact (aB _ _).alloc jC _
     have zb:V.heap[w2.heap.size]? =some (.cells #[.bool li,.string D2,.slice a 4 cap] 103 (0,0)):=by rw [hV];exact heap_alloc_new _ _
     obtain ⟨I,au,a5,ai,ao,bd,aa,ar,a4,az,hR⟩:=H.out
     have cp:=In.below aw _ _ _ _ _ (Tr.inn 9 _ _ _ _ _ _ jC HT.out)
     obtain ⟨g,off,rfl,hg,⟨a0,m0,p0,K0⟩,⟨a1,m1,p1,K1⟩,⟨a2,m2,p2,K2⟩,a3,p3,bb,I3⟩:=In.four cp ao
     have J:g < V.heap.size:=aH hg aw.size
     have b7:w2.heap.size < V.heap.size:=(jE zb)
     have ah:=λV'=>rF k0 (.slice a0 m0 p0) V' ⟨_,_,_,rfl⟩
     have ag:=λV'=>rF k1 (.slice a1 m1 p1) V' ⟨_,_,_,rfl⟩
     have aj:=λV'=>rF k2 (.slice a2 m2 p2) V' ⟨_,_,_,rfl⟩
     have bm:=λV' (E:Below V.heap.size V V')=>uF 6 w2.heap.size k3 (.slice a3 k3.kids.length p3) V' (aW aw.size E.size) (In.below (E.mono aw.size) _ _ _ _ _ I3) bd
     obtain ⟨l0,b5⟩:∃x,k0.list=x:=⟨_,rfl⟩
     obtain ⟨l1,b9⟩:∃x,k1.list=x:=⟨_,rfl⟩
     obtain ⟨l2,cg⟩:∃x,k2.list=x:=⟨_,rfl⟩
     obtain ⟨l3,cc⟩:∃x,k3.list=x:=⟨_,rfl⟩
     obtain ⟨S0,ca⟩:∃x:ByteArray,(⟨k0.bytes.toArray⟩:ByteArray)=x:=⟨_,rfl⟩
     obtain ⟨S1,co⟩:∃x:ByteArray,(⟨k1.bytes.toArray⟩:ByteArray)=x:=⟨_,rfl⟩
     obtain ⟨S2,cj⟩:∃x:ByteArray,(⟨k2.bytes.toArray⟩:ByteArray)=x:=⟨_,rfl⟩
     obtain ⟨S3,b8⟩:∃x:ByteArray,(⟨k3.bytes.toArray⟩:ByteArray)=x:=⟨_,rfl⟩
     obtain ⟨m3,cm⟩:∃x,k3.kids.length=x:=⟨_,rfl⟩
     rw [b5,ca] at ah K0
     rw [b9,co] at ag K1
     rw [cg,cj] at aj K2
     rw [cc,b8,cm] at bm bb
     rw [ar] at ah
     rw [a4] at ag
     rw [az] at aj
     rw [hR] at bm
     unfold aae at ah ag aj
     obtain ⟨n0,a7⟩:∃n,o0.getD 0=n:=⟨_,rfl⟩
     obtain ⟨n1,bg⟩:∃n,o1.getD 0=n:=⟨_,rfl⟩
     obtain ⟨n2,bk⟩:∃n,o2.getD 0=n:=⟨_,rfl⟩
     obtain ⟨b0,bh⟩:∃n,o0.isSome=n:=⟨_,rfl⟩
     obtain ⟨b1,a8⟩:∃n,o1.isSome=n:=⟨_,rfl⟩
     obtain ⟨b2,a9⟩:∃n,o2.isSome=n:=⟨_,rfl⟩
     rw [a7,bh] at ah
     rw [bg,a8] at ag
     rw [bk,a9] at aj
     have bz:Hid _:=ah
     have br:Hid _:=ag
     have b3:Hid _:=aj
     have bl:Hid _:=bm
     have hK:∀V',Below V.heap.size V V'->V'.cell? ⟨w2.heap.size,2,none⟩=some (.slice (some ⟨g,off,none⟩) 4 cap)/\V'.cell? ⟨g,off,none⟩=some (.bool l0)/\V'.cell? ⟨g,off+1,none⟩=some (.string S0)/\V'.cell? ⟨g,off+2,none⟩=some (.slice a0 m0 p0)/\V'.cell? ⟨g,off+3,none⟩=some (.bool l1)/\V'.cell? ⟨g,off+4,none⟩=some (.string S1)/\V'.cell? ⟨g,off+5,none⟩=some (.slice a1 m1 p1)/\V'.cell? ⟨g,off+6,none⟩=some (.bool l2)/\V'.cell? ⟨g,off+7,none⟩=some (.string S2)/\V'.cell? ⟨g,off+8,none⟩=some (.slice a2 m2 p2)/\V'.cell? ⟨g,off+9,none⟩=some (.bool l3)/\V'.cell? ⟨g,off+10,none⟩=some (.string S3)/\V'.cell? ⟨g,off+11,none⟩=some (.slice a3 m3 p3):=λV' E=>
      ⟨(E.cell (p:=⟨w2.heap.size,2,none⟩) b7).trans (by rw [aA zb];rfl),(K0.below E J).1,(K0.below E J).2.1,(K0.below E J).2.2,(K1.below E J).1,(K1.below E J).2.1,(K1.below E J).2.2,(K2.below E J).1,(K2.below E J).2.1,(K2.below E J).2.2,(bb.below E J).1,(bb.below E J).2.1,(bb.below E J).2.2⟩
     have HK:Hid _:=hK
     have cf:=aB V.heap.size V
     obtain ⟨x2,cy,c5,du,de,c3,dt,ei,d7,ef,db,dl,eo⟩:=hK V cf
     have bn:Below W.heap.size W V:=z.trans (aw.mono z.size)
     have HQ:Hid _:=jB aa (jB a7 (jB bg (jB bk (jB bh (jB a8 (jB a9 (jB I bn)))))))
     clear hV aw zb I au a5 ai ao bd aa ar a4 az hR cp hg J b7 K0 K1 K2 bb I3 ah ag aj bm b5 b9 cg cc ca co cj b8 cm a7 bg bk bh a8 a9 hK bn z H HT r0 r1 r2 r3 r4 rf z1
     go_upto_region 9 with (first|(go_at_call 176;(with_reducible refine aK (bz.out _) ?_);rintro e3 w3 ⟨rfl,cd⟩;have bw:Below V.heap.size V w3:=cd;obtain ⟨x3,em,eg,el,d9,d8,ej,dx,dg,dr,dz,et,eb⟩:=HK.out w3 bw;clear cd)|(go_at_call 176;(with_reducible refine aK (br.out _) ?_);rintro e4 w4 ⟨rfl,cq⟩;have bx:Below V.heap.size V w4:=bw.trans (cq.mono bw.size);obtain ⟨x4,eh,dq,dh,dw,di,er,cv,cx,dd,cz,ea,cw⟩:=HK.out w4 bx;clear cq)|(go_at_call 176;(with_reducible refine aK (b3.out _) ?_);rintro e5 w5 ⟨rfl,cn⟩;have ac:Below V.heap.size V w5:=bx.trans (cn.mono bx.size);obtain ⟨x5,dk,d2,dy,c9,ec,c4,dm,c1,ed,c6,dj,dv⟩:=HK.out w5 ac;clear cn)|fail)
     have bu:w.heap.size<=w5.heap.size:=by
      have e1:=HQ.out.2.2.2.2.2.2.2.1.size
      have e2:=HQ.out.2.2.2.2.2.2.2.2.size
      have e3:=ac.size
      omega
     have bp:Below w.heap.size w w5:=(HQ.out.2.2.2.2.2.2.2.1.trans (HQ.out.2.2.2.2.2.2.2.2.mono HQ.out.2.2.2.2.2.2.2.1.size)).trans (ac.mono (aW HQ.out.2.2.2.2.2.2.2.1.size HQ.out.2.2.2.2.2.2.2.2.size))
     have bo:Hid _:=bp
     clear bp
     cases R with
     |none=>
      go_upto_region 10 with (first|(go_at_call 177;refine aK (bl.out _ ac) ?_;rintro e6 w6 ⟨he,an⟩;unfold Strs at he;subst he)|fail)
      have bj:Below V.heap.size V w6:=ac.trans (an.mono ac.size)
      have ay:=ap.out w6 (HQ.out.2.2.2.2.2.2.2.2.trans (bj.mono HQ.out.2.2.2.2.2.2.2.2.size))
      obtain ⟨q0,q1,q2,q3,q4,qf⟩:=cells5 ay
      have HB:Hid (Below w.heap.size w w6):=bo.out.trans (an.mono bu)
      have bv:none=Q:=by rw [<-HQ.out.1];exact (Ef (.inr (.inr (.inr rfl)))).symm
      subst bv
      clear HQ HK bz br b3 bl bj ay an
      cases b0<;>cases b1<;>cases b2
      all_goals
       go_wp2_with fail
       refine bodyPost_ret (v:=.tuple #[.agg #[.int .i64 0,.int .i64 0,.int .i64 0,.slice none 0 0,.int .i64 0],.bool false]) (by simp [results,Tryz.results121,go_sem,q0,q1,q2,q3,q4]) rfl ?_
       exact ⟨rfl,ng HB.out (Nat.le_succ _) _ _ _ _ _⟩
     |some t=>
      obtain ⟨tn,b6⟩:∃n,t.length=n:=⟨_,rfl⟩
      have cl:Hid _:=b6
      clear b6
      go_upto_region 10 with (first|(go_at_call 177;refine aK (bl.out _ ac) ?_;rintro e6 w6 ⟨⟨ta,tc,he,ce⟩,an⟩;rw [cl.out] at he;subst he;have HM:Hid _:=ce;clear ce)|fail)
      have bj:Below V.heap.size V w6:=ac.trans (an.mono ac.size)
      have ay:=ap.out w6 (HQ.out.2.2.2.2.2.2.2.2.trans (bj.mono HQ.out.2.2.2.2.2.2.2.2.size))
      obtain ⟨q0,q1,q2,q3,q4,qf⟩:=cells5 ay
      have HB:Hid (Below w.heap.size w w6/\_):=jB (bo.out.trans (an.mono bu)) ay
      have HP:Hid _:=jB HQ.out.1 (jB HQ.out.2.1 (jB HQ.out.2.2.1 (jB HQ.out.2.2.2.1 (jB HQ.out.2.2.2.2.1 (jB HQ.out.2.2.2.2.2.1 HQ.out.2.2.2.2.2.2.1)))))
      clear HQ HK bz br b3 bl bj ay an
      by_cases ab:b0=true/\b1=true/\b2=true
      ·obtain ⟨rfl,rfl,rfl⟩:=ab
       go_wp2_with fail
       obtain ⟨hQ,ah,ag,aj,bs,b4,z⟩:=HP.out
       rw [PE bs b4 z,ah,ag,aj] at hQ
       subst hQ
       refine bodyPost_ret (v:=.tuple #[.agg #[.int .i64 n0,.int .i64 n1,.int .i64 n2,.slice ta tn tc,.int .i64 0],.bool true]) (by simp [results,Tryz.results121,go_sem,q0,q1,q2,q3,q4]) rfl ⟨⟨ta,tc,?_,?_,rfl⟩,ng HB.out.1 (Nat.le_succ _) _ _ _ _ _⟩
       ·unfold MH
        dsimp only
        rw [cl.out]
        rfl
       ·exact ⟨HM.out.1.jR (pK w6 (w.heap.size+1) _ _ _ _ _) (λg hg e=>jH HM.out.1 HB.out.2 (by decide) (by rw [hg,e])),λg hg=>aW bu (HM.out.2 g hg)⟩
      ·have bv:none=Q:=by
        rw [<-HP.out.1]
        obtain ⟨_,_,_,_,bs,b4,z⟩:=HP.out
        refine (Ef ?_).symm
        rw [bs,b4,z]
        revert ab
        cases b0<;>cases b1<;>cases b2<;>simp
       subst bv
       clear HP
       revert ab
       cases b0<;>cases b1<;>cases b2<;>intro ab
       all_goals
        first
         |exact absurd ⟨rfl,rfl,rfl⟩ ab
         |(clear ab
           go_wp2_with fail
           refine bodyPost_ret (v:=.tuple #[.agg #[.int .i64 0,.int .i64 0,.int .i64 0,.slice none 0 0,.int .i64 0],.bool false]) (by simp [results,Tryz.results121,go_sem,q0,q1,q2,q3,q4]) rfl ?_
           exact ⟨rfl,ng HB.out.1 (Nat.le_succ _) _ _ _ _ _⟩)
    ·have ee:((nk:Int) == 4)=false:=beq_false_of_ne (by omega)
     have cr:none=Q:=by rw [<-aa,Uf (by rw [ai];exact h4)]
     subst cr
     have H:Hid _:=jB I (jB au (jB a5 ai))
     clear I af hD ak am Y a6 hH hs av hz q hQ aa hd ax ba aq bq cb au a5 ai h4
     go_enter (fq Tryz.func121 rfl),Tryz.ntmps121
     go_upto_region 1 with fail
     rw [<-hW]
     clear hW
     go_wp2_with (first|(go_at_call 175;refine aK (ae.out ()) ?_;rintro e w2 ⟨he,z⟩;obtain ⟨a,cap,he,ht⟩:=he;rw [H.out.2.1,H.out.2.2.1,H.out.2.2.2] at he;subst he;obtain ⟨q0,q1,q2,q3,q4,qf⟩:=cells5 (ap.out _ (z.alloc z.size (.cells #[.bool li,.string D2,.slice a nk cap] 103)));clear ht)|fail)
     refine bodyPost_ret (v:=.tuple #[.agg #[.int .i64 0,.int .i64 0,.int .i64 0,.slice none 0 0,.int .i64 0],.bool false]) (by simp [results,Tryz.results121,go_sem,q0,q1,q2,q3,q4]) rfl ⟨rfl,ng (H.out.1.trans ((z.alloc z.size _).mono H.out.1.size)) (Nat.le_succ _) _ _ _ _ _⟩
  ·rw [if_neg hz] at hQ
   subst hQ
   have cu:(((D[0]'h0).toNat:Int) == 0)=false:=by
    rw [av]
    refine beq_false_of_ne (λe=>hz ?_)
    apply jv.1
    simpa using e
   have H:Hid _:=jB I af
   clear I af hD ak am Y a6 hH hs ck av hz
   go_enter (fq Tryz.func121 rfl),Tryz.ntmps121
   go_upto_region 1 with fail
   rw [<-hW]
   clear hW
   go_wp2_with fail
   refine bodyPost_ret (v:=.tuple #[.agg #[.int .i64 0,.int .i64 0,.int .i64 0,.slice none 0 0,.int .i64 0],.bool false]) (by simp [results,Tryz.results121,go_sem,r0,r1,r2,r3,r4]) rfl ⟨rfl,ng H.out.1 (Nat.le_succ _) _ _ _ _ _⟩
end
section
variable {s:List UInt8} {i:Im.It} {l:List Ba} {p:Nat}
theorem uS {b:List UInt8->Option (Bool×Nat×Nat)} {d:Nat} {n:Nat} (h:Im.read b d s=some (i,n)):(i.list=true->i.bytes=[])/\(i.list=false->i.kids=[]):=by
 cases d with
 |zero=>
  rw [Im.read] at h
  split at h
  ·cases h
   exact ⟨λe=>(by cases e),λ_=>rfl⟩
  ·cases h
 |succ d=>
  rw [Im.read] at h
  split at h
  ·cases h
  ·cases h
   exact ⟨λe=>(by cases e),λ_=>rfl⟩
  ·rw [aX] at h
   obtain ⟨l,_,e⟩:=h
   cases e
   exact ⟨λ_=>rfl,λe=>(by cases e)⟩
theorem Qj (h:Im.dec s=some i):(i.list=true->i.bytes=[])/\(i.list=false->i.kids=[]):=by
 unfold Im.dec at h
 split at h
 ·rename_i q
  split at h
  ·cases h
   exact uS q
  ·cases h
 ·cases h
theorem acs {l:Im.It} (q:l.list=false->l.kids=[]) (n:Nat):Dv.qM l n=(He l).map (λb=>{ b with place:=n }):=by
 unfold Dv.qM He
 cases h:l.list with
 |false=>
  rw [q h]
  rfl
 |true=>
  match hk:l.kids with
  |[a,b,c,d]=>
   dsimp only
   unfold strs
   cases hd:d.list with
   |false=>
    rw [if_pos rfl]
    simp only [Bool.false_and,bJ,if_false]
    cases Dv.value a<;>cases Dv.value b<;>cases Dv.value c<;>rfl
   |true=>
    rw [if_neg (by simp)]
    simp only [Bool.true_and]
    cases Dv.value a<;>cases Dv.value b<;>cases Dv.value c<;>by_cases z:(d.kids.all λt=>!t.list)=true<;>simp [z]
  |[]=>rfl
  |[_]=>rfl
  |[_,_]=>rfl
  |[_,_,_]=>rfl
  |_::_::_::_::_::_=>rfl
theorem U9 (q:i.list=true->i.bytes=[]) (n:Nat):Dv.wM i n=(QI i).map (λb=>{ b with place:=n }):=by
 unfold Dv.wM QI
 cases h:i.list with
 |true=>
  rw [q h]
  rfl
 |false=>
  rw [if_neg (by simp)]
  cases z:i.bytes with
  |nil=>rfl
  |cons x r=>
   dsimp only
   split
   ·cases hd:Im.dec r with
    |none=>rfl
    |some l=>
     simp only [gK]
     exact acs (Qj hd).2 n
   ·rfl
inductive xH (s:List UInt8):List Ba->Nat->Prop
 |nil:xH s [] 0
 |snoc {l:List Ba} {p:Nat} {i:Im.It} {n:Nat} {b:Ba}:xH s l p->p < s.length->Im.read Im.body 8 (s.drop p)=some (i,n)->QI i=some b->xH s (l++[b]) (p+n)
def Z9 (s:List UInt8) (p:Nat):Prop:=s.length<=p\/Im.read Im.body 8 (s.drop p)=none\/∃i n,Im.read Im.body 8 (s.drop p)=some (i,n)/\QI i=none
def uM (n:Nat) (l:List Ba):List Ba:=(l.filter (λb=>decide (b.epoch<=n))).map (λb=>{ b with place:=n })
theorem uT (n:Nat) (l:List Ba) (b:Ba):uM n (l++[b])=uM n l++(if b.epoch<=n then [{ b with place:=n }] else []):=by
 unfold uM
 rw [iD,aY]
 congr 1
 by_cases h:b.epoch<=n<;>simp [h]
theorem xH.rd (h:xH s l p) (n:Nat):∀f,Dv.rd (f+l.length) s n=uM n l++Dv.rd f (s.drop p) n:=by
 induction h with
 |nil=>intro f;rfl
 |@snoc l p i k b _ hp hr hb ih=>
  intro f
  rw [aJ,iC,show f+(l.length+1)=(f+1)+l.length from by omega,ih (f+1),uT,fE]
  congr 1
  rw [Dv.rd,if_neg (by intro e;have:=congrArg List.length e;rw [dP] at this;simp at this;omega),hr]
  dsimp only
  rw [U9 (uS hr).1 n,hb]
  simp only [bQ,gZ]
theorem xH.le (h:xH s l p):l.length<=p/\p<=s.length:=by
 induction h with
 |nil=>exact ⟨jC,dF _⟩
 |@snoc l p i k b _ hp hr hb ih=>
  have:=Im.qP Im.oq 8 (s.drop p) i k hr
  rw [dP] at this
  rw [aJ,iC]
  omega
theorem xH.all (h:xH s l p) (q:Z9 s p) (n:Nat):Dv.rd s.length s n=uM n l:=by
 have J:=h.le
 have:=h.rd n (s.length - l.length)
 rw [show s.length - l.length+l.length=s.length from by omega] at this
 rw [this]
 have:Dv.rd (s.length - l.length) (s.drop p) n=[]:=by
  cases I:s.length - l.length with
  |zero=>rfl
  |succ f=>
   rw [Dv.rd]
   split
   ·rfl
   ·rename_i z
    rcases q with q|q|⟨i,k,q,E⟩
    ·exact absurd (List.drop_eq_nil_of_le q) z
    ·rw [q]
    ·rw [q]
     dsimp only
     rw [U9 (uS q).1 n,E]
     rfl
 rw [this,fU]
end
open Go.RowKit
section
variable {P:Program} {l l₀ gf:Nat} {assign body:Code} {w:World} {g:Operand} {ps:Array Tmp} {Q:Exit->Act->World->Prop} {lb:Array Value}
theorem Gx {m n:Nat} {f:FuncId} {tmps:Array Value} {R:Ending->World->Prop} (h:RoundIn Fence.wide m P l f tmps assign body w R):RoundIn (Fence.wide.inRound l₀) n P l f tmps assign body w R:=⟨h.1,λc cs _=>h.2 c cs (room_wide _)⟩
def vG (F:Nat->Prop) (q z:World) (k:Nat):Prop:=F k\/(q.heap.size<=k/\k < z.heap.size)
def NC (W:World) (k:Nat):Prop:=∀(cs:Array Value) (t:Nat) (q:Nat×Nat),W.heap[k]?≠some (.cells cs t q)
theorem LX {F:Nat->Prop} {A B:World} {o:Obj} (h:jL (λk=>F k/\NC A k) (A.putObj l o) (B.putObj l o)) (z:¬F l):jL (λk=>F k/\NC (A.putObj l o) k) (A.putObj l o) (B.putObj l o):=
 h.mono (λk _ e=>⟨e.1,λcs t q hk=>by
  rw [World.putObj_heap_other (by rintro rfl;exact z e.1)] at hk
  exact e.2 cs t q hk⟩)
def U7 {α:Type} (P:Program) (g:Nat) (lb:Array Value) (encs:α->Array Value) (R:List α->World->Prop) (Y:List α->α->Nat->World->Prop) (S Sp:List α->Prop):Prop:=
 ∀(l:Nat) (J Jx:List α->(Nat->Prop)->World->Prop) (W:World),l < W.heap.size->R [] W->
  (∀q x F z E,J q F z->jL (λk=>F k/\NC z k) z E->Y q x z.heap.size E->YieldAt Fence.wide 1 P l (encs x) E λe I=>
   (e=.returned (.bool true)/\J (q++[x]) (vG F z E) I/\E.heap.size<=I.heap.size/\R (q++[x]) I/\∀k,vG F z E k->I.heap[k]? =E.heap[k]?)\/(e=.returned (.bool false)/\Jx (q++[x]) (vG F z E) I/\E.heap.size<=I.heap.size/\∀k,vG F z E k->I.heap[k]? =E.heap[k]?))->
  J [] (λ_=>False) W->
  CallsIn Fence.wide 2 P g (#[.func (.yield l) #[] #[]]++lb) W λe I=>(∃v,e=.returned v)/\((∃xs F z,S xs/\J xs F z/\jL (λk=>F k/\NC z k) z I)\/(∃q F z,Sp q/\Jx q F z/\jL (λk=>F k/\NC z k) z I))
def YQ {α:Type} (B:Nat) (F:Nat->Prop) (z:List α->World->Prop) (I:List α->(Nat->Prop)->World->Prop) (q:Code->List α->(Nat->Prop)->World->Prop) (xs:List α) (W:World):Exit->Act->World->Prop
 |.normal,_,W'=>KeepsFrom B W W'/\z xs W'/\(∀k,F k->W'.heap[k]? =W.heap[k]?)/\I xs F W'
 |.ret,_,W'=>KeepsFrom B W W'/\(∀k,F k->W'.heap[k]? =W.heap[k]?)/\q .ret xs F W'
 |.exit id,_,W'=>KeepsFrom B W W'/\(∀k,F k->W'.heap[k]? =W.heap[k]?)/\q (.exit id) xs F W'
 |.goto t,_,W'=>KeepsFrom B W W'/\(∀k,F k->W'.heap[k]? =W.heap[k]?)/\q (.goto t) xs F W'
 |.panic _,_,_=>False
 |.outgrown,_,_=>False
theorem CP {α:Type} {a:Act} {ah:Loop} (ak:w.heap[l₀]? =some (.loop ah))
  (hg:a.eval g=.func (.func gf) #[] lb) (eg:∀args w,(callFunc gf args).run P w=.ok (.enter gf args) w)
  {encs:α->Array Value} {St:List α->World->Prop} {Y:List α->α->Nat->World->Prop} {S Sp:List α->Prop} (ap:U7 P gf lb encs St Y S Sp)
  (aq:OwnFrom w.heap.size St) (hY:∀lo,OwnFrom w.heap.size (λ(q:List α×α) W=>Y q.1 q.2 lo W)) (au:∀x,(encs x).size=ps.size)
  (I:List α->(Nat->Prop)->World->Prop) (Ix:Code->List α->(Nat->Prop)->World->Prop) (hI:∀F,OwnFrom w.heap.size (λxs W=>I xs F W)) (ae:∀c F,OwnFrom w.heap.size (λxs W=>Ix c xs F W)) (h0:I [] (λ_=>False) w) (ar:St [] w) (ai:α->Nat->Act) (ox:α->Obj)
  (ac:∀(l:Nat) (x:α) (W:World) (K:Act->World->Prop),K (ai x W.heap.size) (W.alloc (ox x))->
   assign.wpIn (Fence.wide.inRound l) 1 P (Exit.then K (λ_ _ _=>False)) { tmps:=(ps.zip (encs x)).foldl (λt (p,v)=>t.setIfInBounds p v) a.tmps,defers:=[] } W)
  (aj:∀(l:Nat) (z:List α) (x:α) (F:Nat->Prop) (J R:World),l=w.heap.size->l < J.heap.size->(∃r,R.heap[l]? =some (.loop r))->(∀k,F k->w.heap.size < k/\k < J.heap.size)->I z F J->jL (λk=>F k/\NC J k) J R->Y z x J.heap.size R->body.wpIn (Fence.wide.inRound l) 1 P (YQ w.heap.size (vG F J R) St I Ix (z++[x]) (R.alloc (ox x))) (ai x R.heap.size) (R.alloc (ox x)))
  (am:∀(xs:List α) (F:Nat->Prop) (J W:World),(∀k,F k->w.heap.size < k/\k < J.heap.size)->S xs->I xs F J->jL (λk=>F k/\NC J k) J W->Q .normal a W)
  (an:∀(c:Code) (z:List α) (F:Nat->Prop) (J W:World),(∀k,F k->w.heap.size < k/\k < J.heap.size)->Sp z->Ix c z F J->jL (λk=>F k/\NC J k) J W->c.wpIn (Fence.wide.inRound l₀) 1 P Q a W):
  (Code.rangeFunc g ps assign body).wpIn (Fence.wide.inRound l₀) 1 P Q a w:=by
 refine wpIn_rangeFunc λfn ax=>?_
 obtain ⟨rc,aa⟩:∃rc:LoopState->Option Code->Loop,rc=λst pe=>{ state:=st,pending:=pe,fn,tmps:=a.tmps,params:=ps,assign,body,defers:=ah.defers }:=⟨_,rfl⟩
 obtain ⟨V,hV⟩:∃V,w.alloc (.loop (rc .ready none))=V:=⟨_,rfl⟩
 have vl:V.heap[w.heap.size]? =some (.loop (rc .ready none)):=by rw [<-hV];exact World.alloc_heap_new w _
 have vI:I [] (λ_=>False) V:=by rw [<-hV];exact (hI _).alloc _ h0
 have vS:St [] V:=by rw [<-hV];exact aq.alloc _ ar
 refine ⟨w.heap.size,[],V,{ target:=.fn (.func gf) lb,args:=#[.func (.yield w.heap.size) #[] #[]] },V,gf,
  #[.func (.yield w.heap.size) #[] #[]]++lb,V,?_,?_,λ_ _=>trivial,by simp [invoke,go_sem,eg],λh=>by simp [Fence.wide] at h,?_⟩
 ·rw [<-hV,aa];exact run_enterLoop_inner ak _ _ _ _ _
 ·simp only [resolve,hg]
  simp [go_sem]
 refine CallsIn.mono (callsIn_wide.2 (callsIn_wide.1 (ap w.heap.size
  (λz F W=>I z F W/\W.heap[w.heap.size]? =some (.loop (rc .ready none))/\∀k,F k->w.heap.size < k/\k < W.heap.size)
  (λz F W=>∃c,Ix c z F W/\W.heap[w.heap.size]? =some (.loop (rc .done (some c)))/\∀k,F k->w.heap.size < k/\k < W.heap.size) V (jE vl) vS ?_ ⟨vI,vl,λ_ h=>h.elim⟩)):CallsIn Fence.wide 0 P gf _ V _) ?_
 ·rintro z x F J R ⟨i0,l0,f0⟩ hb hy
  have nl:¬F w.heap.size:=λh=>by have:=(f0 _ h).1;omega
  have ab:w.heap.size < J.heap.size:=(jE l0)
  have l1:=(hb.block _ ab (λe=>nl e.1)).trans l0
  have af:w.heap.size < R.heap.size:=(jE l1)
  have ry:=run_yield (P:=P) (args:=encs x) l1 (by rw [aa];exact au x)
  rw [aa] at ry
  refine ⟨fn,_,assign,body,ry,roundIn_of_wpIn ax (ac _ x R _ ⟨_,run_beginRound ((aT _ _ _ af).trans l1) (by rw [aa]),?_⟩)⟩
  clear ry
  rw [tu _ _ _ _ af]
  obtain ⟨o,ho⟩:∃o:Obj,Obj.loop { rc .ready none with state:=.busy }=o:=⟨_,rfl⟩
  rw [ho]
  have b1:=LX (oI hb w.heap.size o ab) nl
  have y1:Y z x (J.putObj w.heap.size o).heap.size (R.putObj w.heap.size o):=by
   rw [World.putObj_size]
   exact (hY J.heap.size).putObj (s:=(z,x)) o hy (by omega) l1 rfl
  have eF:vG F (J.putObj w.heap.size o) (R.putObj w.heap.size o)=vG F J R:=by unfold vG;simp only [World.putObj_size]
  have ag:=aj w.heap.size z x F _ _ rfl (by simp;omega) ⟨_,(World.putObj_heap_same af).trans (congrArg some ho.symm)⟩ (by simpa using f0) ((hI F).putObj o i0 (by omega) l0 rfl) b1 y1
  rw [eF] at ag
  simp only [World.putObj_size] at ag
  have f1:∀k,vG F J R k->w.heap.size < k/\k < R.heap.size:=λk hk=>by
   have:=hb.size
   rcases hk with h|h
   ·have:=f0 k h
    omega
   ·omega
  refine wpIn_mono ag ?_
  clear ag
  have av:((R.putObj w.heap.size o).alloc (ox x)).heap[w.heap.size]? =some o:=(aT _ _ _ (by simp;omega)).trans (World.putObj_heap_same af)
  have fin:∀(E:Option Code) (W3:World),KeepsFrom w.heap.size ((R.putObj w.heap.size o).alloc (ox x)) W3->
    (Instr.endRound w.heap.size E).run P W3=.ok (.bool E.isNone) (W3.putObj w.heap.size (.loop (rc (if E.isNone then .ready else .done) E)))/\
    W3.heap[w.heap.size]? =some o/\
    (W3.putObj w.heap.size (.loop (rc (if E.isNone then .ready else .done) E))).heap[w.heap.size]? =some (.loop (rc (if E.isNone then .ready else .done) E)):=λE W3 aw=>by
   have q1:=aw.same _ _ (by omega) av (by rw [<-ho];rfl)
   have ao:=q1
   rw [<-ho] at ao
   have:=run_endRound (P:=P) E ao
   refine ⟨?_,q1,World.putObj_heap_same (jE q1)⟩
   rw [aa] at this⊢
   exact this
  rintro e a3 W3 hp
  cases e with
  |normal=>
   obtain ⟨k3,kk,kx,i3⟩:=hp
   obtain ⟨hr,l3,l4⟩:=fin none W3 k3
   have s3:R.heap.size<=W3.heap.size:=by have:=k3.size;simp at this;omega
   refine ⟨_,_,hr,.inl ⟨rfl,⟨(hI _).putObj _ i3 (by omega) l3 (by rw [<-ho];rfl),l4,λk hk=>by have:=f1 k hk;rw [World.putObj_size];omega⟩,by rw [World.putObj_size];exact s3,aq.putObj _ kk (by omega) l3 (by rw [<-ho];rfl),λk h1=>by
    have:=f1 k h1
    rw [World.putObj_heap_other (by omega),kx k h1,aT _ _ _ (by simp;omega),World.putObj_heap_other (by omega)]⟩⟩
  |ret=>
   obtain ⟨k3,kx,i3⟩:=hp
   obtain ⟨hr,l3,l4⟩:=fin (some .ret) W3 k3
   have s3:R.heap.size<=W3.heap.size:=by have:=k3.size;simp at this;omega
   exact ⟨_,_,hr,.inr ⟨rfl,⟨.ret,(ae _ _).putObj _ i3 (by omega) l3 (by rw [<-ho];rfl),l4,λk hk=>by have:=f1 k hk;rw [World.putObj_size];omega⟩,by rw [World.putObj_size];exact s3,λk h1=>by
    have:=f1 k h1
    rw [World.putObj_heap_other (by omega),kx k h1,aT _ _ _ (by simp;omega),World.putObj_heap_other (by omega)]⟩⟩
  |exit id=>
   obtain ⟨k3,kx,i3⟩:=hp
   obtain ⟨hr,l3,l4⟩:=fin (some (.exit id)) W3 k3
   have s3:R.heap.size<=W3.heap.size:=by have:=k3.size;simp at this;omega
   exact ⟨_,_,hr,.inr ⟨rfl,⟨.exit id,(ae _ _).putObj _ i3 (by omega) l3 (by rw [<-ho];rfl),l4,λk hk=>by have:=f1 k hk;rw [World.putObj_size];omega⟩,by rw [World.putObj_size];exact s3,λk h1=>by
    have:=f1 k h1
    rw [World.putObj_heap_other (by omega),kx k h1,aT _ _ _ (by simp;omega),World.putObj_heap_other (by omega)]⟩⟩
  |goto t=>
   obtain ⟨k3,kx,i3⟩:=hp
   obtain ⟨hr,l3,l4⟩:=fin (some (.goto t)) W3 k3
   have s3:R.heap.size<=W3.heap.size:=by have:=k3.size;simp at this;omega
   exact ⟨_,_,hr,.inr ⟨rfl,⟨.goto t,(ae _ _).putObj _ i3 (by omega) l3 (by rw [<-ho];rfl),l4,λk hk=>by have:=f1 k hk;rw [World.putObj_size];omega⟩,by rw [World.putObj_size];exact s3,λk h1=>by
    have:=f1 k h1
    rw [World.putObj_heap_other (by omega),kx k h1,aT _ _ _ (by simp;omega),World.putObj_heap_other (by omega)]⟩⟩
  |panic ch=>exact hp.elim
  |outgrown=>exact hp.elim
 ·rintro e W2 ⟨⟨v,rfl⟩,(⟨xs,F,J,hS,⟨i0,l0,f0⟩,hb⟩|⟨z,F,J,hS,⟨c,i0,l0,f0⟩,hb⟩)⟩
  ·have nl:¬F w.heap.size:=λh=>by have:=(f0 _ h).1;omega
   have ab:w.heap.size < J.heap.size:=(jE l0)
   have l2:=(hb.block _ ab (λe=>nl e.1)).trans l0
   refine ⟨none,_,by have:=run_endLoop (P:=P) l2 (by rw [aa];simp);rw [aa] at this;exact this,?_⟩
   exact am xs F _ _ (by simpa using f0) hS ((hI F).putObj _ i0 (by omega) l0 rfl) (LX (oI hb w.heap.size _ ab) nl)
  ·have nl:¬F w.heap.size:=λh=>by have:=(f0 _ h).1;omega
   have ab:w.heap.size < J.heap.size:=(jE l0)
   have l2:=(hb.block _ ab (λe=>nl e.1)).trans l0
   refine ⟨some c,_,by have:=run_endLoop (P:=P) l2 (by rw [aa];simp);rw [aa] at this;exact this,?_⟩
   exact an c z F _ _ (by simpa using f0) hS ((ae c F).putObj _ i0 (by omega) l0 rfl) (LX (oI hb w.heap.size _ ab) nl)
structure qJ (B:Nat) (W W':World):Prop where
 size:W.heap.size<=W'.heap.size
 one:W'.heap[B]? =W.heap[B]?
 two:W'.heap[B+1]? =W.heap[B+1]?
def YM {α:Type} (B:Nat) (z:Nat->Prop) (I:List α->World->Prop) (q:Code->List α->World->Prop) (xs:List α) (W:World):Exit->Act->World->Prop
 |.normal,_,W'=>qJ B W W'/\(∀k,z k->W'.heap[k]? =W.heap[k]?)/\I xs W'
 |.ret,_,W'=>qJ B W W'/\q .ret xs W'
 |.exit id,_,W'=>qJ B W W'/\q (.exit id) xs W'
 |.goto t,_,W'=>qJ B W W'/\q (.goto t) xs W'
 |.panic _,_,_=>False
 |.outgrown,_,_=>False
theorem FK {α:Type} {a:Act}
  (hg:a.eval g=.func (.func gf) #[] lb) (eg:∀args w,(callFunc gf args).run P w=.ok (.enter gf args) w)
  {encs:α->Array Value} {ks:Nat->Prop} {Y:List α->α->Nat->World->Prop} {S Sp:List α->Prop} {w0:World} (an:Gives P gf lb encs ks Y S Sp w0) (ak:Below w0.heap.size w0 w)
  (au:∀k,ks k->k < w.heap.size) (hY:∀q x lo W W',(∀k,lo<=k->W'.heap[k]? =W.heap[k]?)->W'.heap.size=W.heap.size->Y q x lo W->Y q x lo W') (ao:∀x,(encs x).size=ps.size)
  (I:List α->World->Prop) (Ix:Code->List α->World->Prop) (hI:∀xs A o,I xs A->w.heap.size+1 < A.heap.size->I xs (A.putObj (w.heap.size+1) o)) (ab:∀c xs A o,Ix c xs A->w.heap.size+1 < A.heap.size->Ix c xs (A.putObj (w.heap.size+1) o)) (h0:∀o1 o2,I [] ((w.alloc o1).alloc o2)) (ae:α->Nat->Act) (ox:α->Obj)
  (aa:∀(l:Nat) (x:α) (W:World) (K:Act->World->Prop),K (ae x W.heap.size) (W.alloc (ox x))->
   assign.wpIn (Fence.wide.inRound l) 1 P (Exit.then K (λ_ _ _=>False)) { tmps:=(ps.zip (encs x)).foldl (λt (p,v)=>t.setIfInBounds p v) a.tmps,defers:=[] } W)
  (af:∀(l:Nat) (q:List α) (x:α) (E W1:World),l=w.heap.size+1->l < E.heap.size->NC W1 w.heap.size->NC W1 (w.heap.size+1)->I q E->Below E.heap.size E W1->Y q x E.heap.size W1->body.wpIn (Fence.wide.inRound l) 1 P (YM w.heap.size ks I Ix (q++[x]) (W1.alloc (ox x))) (ae x W1.heap.size) (W1.alloc (ox x)))
  (ag:∀(D:Nat) (xs:List α) (E W:World),D=w.heap.size->D < E.heap.size->S xs->I xs E->Below E.heap.size E W->W.heap[D]? =some (.deferred (some []))->Q .normal { a with defers:={ target:=.collected D,args:=#[] }::a.defers } W)
  (ai:∀(D:Nat) (c:Code) (q:List α) (E W:World),D=w.heap.size->D < E.heap.size->Sp q->Ix c q E->Below E.heap.size E W->W.heap[D]? =some (.deferred (some []))->c.wpIn Fence.wide 3 P Q { a with defers:={ target:=.collected D,args:=#[] }::a.defers } W):
  (Code.rangeFunc g ps assign body).wpIn Fence.wide 3 P Q a w:=by
 refine wpIn_rangeFunc λfn ar=>?_
 obtain ⟨rc,R⟩:∃rc:LoopState->Option Code->Loop,rc=λst pe=>{ state:=st,pending:=pe,fn,tmps:=a.tmps,params:=ps,assign,body,defers:=w.heap.size }:=⟨_,rfl⟩
 obtain ⟨V,hV⟩:∃V,(w.alloc (.deferred (some []))).alloc (.loop (rc .ready none))=V:=⟨_,rfl⟩
 have vl:V.heap[w.heap.size+1]? =some (.loop (rc .ready none)):=by
  have:=World.alloc_heap_new (w.alloc (.deferred (some []))) (.loop (rc .ready none))
  rw [eH,hV] at this
  exact this
 have vd:V.heap[w.heap.size]? =some (.deferred (some [])):=by rw [<-hV];exact (aT _ _ _ (by simp)).trans (World.alloc_heap_new w _)
 have vI:I [] V:=by rw [<-hV];exact h0 _ _
 have vb:Below w0.heap.size w0 V:=by rw [<-hV];exact ak.trans ((((aB _ w).alloc jC _).alloc (by simp) _).mono ak.size)
 refine ⟨w.heap.size+1,[{ target:=.collected w.heap.size,args:=#[] }],V,{ target:=.fn (.func gf) lb,args:=#[.func (.yield (w.heap.size+1)) #[] #[]] },V,gf,
  #[.func (.yield (w.heap.size+1)) #[] #[]]++lb,V,?_,?_,λ_ _=>trivial,by simp [invoke,go_sem,eg],λh=>by simp [Fence.wide] at h,?_⟩
 ·rw [<-hV,R];exact run_enterLoop_outer _ _ _ _ _
 ·simp only [resolve,hg]
  simp [go_sem]
 refine (an (w.heap.size+1)
  (λq W=>I q W/\W.heap[w.heap.size+1]? =some (.loop (rc .ready none))/\W.heap[w.heap.size]? =some (.deferred (some [])))
  (λq W=>∃c,Ix c q W/\W.heap[w.heap.size+1]? =some (.loop (rc .done (some c)))/\W.heap[w.heap.size]? =some (.deferred (some []))) V vb ?_ ⟨vI,vl,vd⟩).mono ?_
 ·rintro q x E W1 ⟨i0,l0,d0⟩ hb hy
  have J:w.heap.size+1 < E.heap.size:=(jE l0)
  have l1:=(hb.block _ J).trans l0
  have d1:=(hb.block _ (by omega:w.heap.size < E.heap.size)).trans d0
  have ac:w.heap.size+1 < W1.heap.size:=(jE l1)
  have ry:=run_yield (P:=P) (args:=encs x) l1 (by rw [R];exact ao x)
  rw [R] at ry
  refine ⟨fn,_,assign,body,ry,roundIn_of_wpIn ar (aa _ x W1 _ ⟨_,run_beginRound ((aT _ _ _ ac).trans l1) (by rw [R]),?_⟩)⟩
  clear ry
  rw [tu _ _ _ _ ac]
  obtain ⟨o,ho⟩:∃o:Obj,Obj.loop { rc .ready none with state:=.busy }=o:=⟨_,rfl⟩
  rw [ho]
  have b1:=oO hb (w.heap.size+1) o J
  have y1:Y q x (E.putObj (w.heap.size+1) o).heap.size (W1.putObj (w.heap.size+1) o):=by
   rw [World.putObj_size]
   exact hY q x _ W1 _ (λk hk=>World.putObj_heap_other (by omega)) (by simp) hy
  have ah:=af (w.heap.size+1) q x _ _ rfl (by simp;omega) (λcs t fz hk=>by rw [World.putObj_heap_other (by omega),d1] at hk;cases hk) (λcs t fz hk=>by rw [World.putObj_heap_same ac,<-ho] at hk;cases hk) (hI _ _ o i0 J) (by simpa using b1) y1
  rw [World.putObj_size] at ah
  refine wpIn_mono ah ?_
  clear ah
  have aq:((W1.putObj (w.heap.size+1) o).alloc (ox x)).heap[w.heap.size+1]? =some o:=(aT _ _ _ (by simp;omega)).trans (World.putObj_heap_same ac)
  have ap:((W1.putObj (w.heap.size+1) o).alloc (ox x)).heap[w.heap.size]? =some (.deferred (some [])):=(aT _ _ _ (by simp;omega)).trans ((World.putObj_heap_other (by omega)).trans d1)
  have fin:∀(z:Option Code) (W3:World),qJ w.heap.size ((W1.putObj (w.heap.size+1) o).alloc (ox x)) W3->
    (Instr.endRound (w.heap.size+1) z).run P W3=.ok (.bool z.isNone) (W3.putObj (w.heap.size+1) (.loop (rc (if z.isNone then .ready else .done) z)))/\
    W3.heap[w.heap.size+1]? =some o/\
    (W3.putObj (w.heap.size+1) (.loop (rc (if z.isNone then .ready else .done) z))).heap[w.heap.size+1]? =some (.loop (rc (if z.isNone then .ready else .done) z))/\
    (W3.putObj (w.heap.size+1) (.loop (rc (if z.isNone then .ready else .done) z))).heap[w.heap.size]? =some (.deferred (some [])):=λz W3 am=>by
   have q1:=am.two.trans aq
   have q2:=am.one.trans ap
   have aj:=q1
   rw [<-ho] at aj
   have:=run_endRound (P:=P) z aj
   refine ⟨?_,q1,World.putObj_heap_same (jE q1),(World.putObj_heap_other (by omega)).trans q2⟩
   rw [R] at this⊢
   exact this
  rintro e a3 W3 hp
  cases e with
  |normal=>
   obtain ⟨k3,kk,i3⟩:=hp
   obtain ⟨hr,l3,l4,d4⟩:=fin none W3 k3
   refine ⟨_,_,hr,.inl ⟨rfl,⟨hI _ _ _ i3 (jE l3),l4,d4⟩,by have:=k3.size;simp at this⊢;omega,λk hk=>?_⟩⟩
   have av:=au k hk
   rw [World.putObj_heap_other (by omega),kk k hk,aT _ _ _ (by simp;omega),World.putObj_heap_other (by omega)]
  |ret=>
   obtain ⟨k3,i3⟩:=hp
   obtain ⟨hr,l3,l4,d4⟩:=fin (some .ret) W3 k3
   exact ⟨_,_,hr,.inr ⟨rfl,.ret,ab _ _ _ _ i3 (jE l3),l4,d4⟩⟩
  |exit id=>
   obtain ⟨k3,i3⟩:=hp
   obtain ⟨hr,l3,l4,d4⟩:=fin (some (.exit id)) W3 k3
   exact ⟨_,_,hr,.inr ⟨rfl,.exit id,ab _ _ _ _ i3 (jE l3),l4,d4⟩⟩
  |goto t=>
   obtain ⟨k3,i3⟩:=hp
   obtain ⟨hr,l3,l4,d4⟩:=fin (some (.goto t)) W3 k3
   exact ⟨_,_,hr,.inr ⟨rfl,.goto t,ab _ _ _ _ i3 (jE l3),l4,d4⟩⟩
  |panic ch=>exact hp.elim
  |outgrown=>exact hp.elim
 ·rintro e W2 ⟨⟨v,rfl⟩,(⟨xs,E,hS,⟨i0,l0,d0⟩,hb⟩|⟨q,E,hS,⟨c,i0,l0,d0⟩,hb⟩)⟩
  ·have J:w.heap.size+1 < E.heap.size:=(jE l0)
   have l2:=(hb.block _ J).trans l0
   have d2:=(hb.block _ (by omega:w.heap.size < E.heap.size)).trans d0
   refine ⟨none,_,by have:=run_endLoop (P:=P) l2 (by rw [R];simp);rw [R] at this;exact this,?_⟩
   exact ag _ xs _ _ rfl (by simp;omega) hS (hI _ _ _ i0 J) (by simpa using oO hb (w.heap.size+1) _ J) ((World.putObj_heap_other (by omega)).trans d2)
  ·have J:w.heap.size+1 < E.heap.size:=(jE l0)
   have l2:=(hb.block _ J).trans l0
   have d2:=(hb.block _ (by omega:w.heap.size < E.heap.size)).trans d0
   refine ⟨some c,_,by have:=run_endLoop (P:=P) l2 (by rw [R];simp);rw [R] at this;exact this,?_⟩
   exact ai _ c q _ _ rfl (by simp;omega) hS (ab c _ _ _ i0 J) (by simpa using oO hb (w.heap.size+1) _ J) ((World.putObj_heap_other (by omega)).trans d2)
end
open Dv (Ba)
section
variable {T:List UInt8} {is:List Im.It} {p j:Nat} {i:Im.It} {W:World}
structure BX where
 b:Ba
 a:Option Addr
 cap:Nat
def BX.encs (x:BX):Array Value:=#[.agg #[.int .i64 x.b.epoch,.int .i64 x.b.id,.int .i64 x.b.time,.slice x.a x.b.txs.length x.cap,.int .i64 x.b.place]]
def MK (ho:Option Obj) (cB:Nat) (S:ByteArray) (_:List BX) (W:World):Prop:=W.heap[1]? =ho/\kU W/\Boxed W cB 9 (.string S)
def BY (T:List UInt8) (pre:List BX) (x:BX) (lo:Nat) (W:World):Prop:=Made W lo (.slice x.a x.b.txs.length x.cap) x.b.txs/\x.b.place=0/\∃p,xH T ((pre++[x]).map BX.b) p
def BS (T:List UInt8) (xs:List BX):Prop:=∃p,xH T (xs.map BX.b) p/\Z9 T p
theorem Gf (h:Im.mJ (Im.read Im.body 8) T is p):∀z:List Ba,is.map QI=z.map some->xH T z p:=by
 induction h with
 |nil=>
  intro z q
  cases z with
  |nil=>exact .nil
  |cons=>simp at q
 |@snoc l p i n _ hp hr ih=>
  intro z q
  rw [aY] at q
  rcases List.eq_nil_or_concat z with rfl|⟨E,b,rfl⟩
  ·simp at q
  ·rw [List.concat_eq_append] at q⊢
   rw [aY] at q
   obtain ⟨I,h2⟩:=List.append_inj' q rfl
   simp only [dW,fG,List.cons.injEq,and_true] at h2
   exact .snoc (ih E I) hp hr h2
theorem EC (h:Im.mJ (Im.read Im.body 8) T (is++[i]) p):∃q n,Im.mJ (Im.read Im.body 8) T is q/\q < T.length/\Im.read Im.body 8 (T.drop q)=some (i,n):=by
 generalize z:is++[i]=l at h
 cases h with
 |nil=>simp at z
 |snoc h1 h2 h3=>
  obtain ⟨rfl,e⟩:=List.append_inj' z rfl
  cases e
  exact ⟨_,_,h1,h2,h3⟩
theorem KZ {n d:Nat} (h:Im.read Im.body d T=some (i,n)):i.bytes.length<=T.length:=by
 cases d with
 |zero=>
  rw [Im.read] at h
  split at h
  ·cases h
   simp only [dP,aZ]
   omega
  ·cases h
 |succ d=>
  rw [Im.read] at h
  split at h
  ·cases h
  ·cases h
   simp only [dP,aZ]
   omega
  ·rw [aX] at h
   obtain ⟨l,_,e⟩:=h
   cases e
   simp
structure EI (J:List BX->(Nat->Prop)->World->Prop) (ho:Option Obj) (cB B0 l n0 n1:Nat) (S:ByteArray) (Wc:World) (pre:List BX) (F:Nat->Prop) (W0:World):Prop where
 j:J pre F W0
 jR:jL (λk=>F k/\NC W0 k) W0 Wc
 own:∀k,n0<=k->k < n1->F k\/W0.heap.size<=k
 nc:∀k,n1<=k+2->k < n1->W0.heap.size<=k\/NC W0 k
 st:MK ho cB S pre Wc
 box:Wc.heap[B0]? =some (.cells #[.func (.yield l) #[] #[]] 216 (0,0))
 big:n1<=Wc.heap.size
theorem nC {F:Nat->Prop} {A B:World} (h:jL F A B) (E:F j\/A.heap.size<=j) (o:Obj):jL F A (B.putObj j o):=
 ⟨h.os,h.tape,h.output,by simpa using h.size,λk hk z=>by
  rw [World.putObj_heap_other]
  ·exact h.block k hk z
  ·rintro rfl
   rcases E with q|q
   ·exact z q
   ·omega⟩
theorem Pg {o:Obj} (h:kU W) (E:j≠1):kU (W.putObj j o):=by
 have q0:(W.putObj j o).heap[1]? =W.heap[1]?:=World.putObj_heap_other (λe=>E e.symm)
 obtain ⟨⟨z,I,R⟩,Y,q,a5⟩:=h
 exact ⟨⟨(World.cell?_of_block q0).trans z,(World.cell?_of_block q0).trans I,(World.cell?_of_block q0).trans R⟩,(World.cell?_of_block q0).trans Y,(World.cell?_of_block q0).trans q,(World.cell?_of_block q0).trans a5⟩
variable {J:List BX->(Nat->Prop)->World->Prop} {ho:Option Obj} {cB B0 l n0 n1:Nat} {S:ByteArray} {Wc:World} {pre:List BX} {F:Nat->Prop} {W0:World}
theorem EI.free (h:EI J ho cB B0 l n0 n1 S Wc pre F W0) (E:n0<=j) (z:n1<=j+2) (h2:j < n1):(F j/\NC W0 j)\/W0.heap.size<=j:=by
 rcases h.nc j z h2 with q|q
 ·exact .inr q
 ·rcases h.own j E h2 with r|r
  ·exact .inl ⟨r,q⟩
  ·exact .inr r
theorem EI.put (h:EI J ho cB B0 l n0 n1 S Wc pre F W0) (o:Obj) (z:n0<=j) (q:n1<=j+2) (h2:j < n1) (h3:1 < n0) (h4:cB < n0) (E:B0≠j):EI J ho cB B0 l n0 n1 S (Wc.putObj j o) pre F W0:=
 ⟨h.j,nC h.jR (h.free z q h2) o,h.own,h.nc,⟨(World.putObj_heap_other (by omega)).trans h.st.1,Pg h.st.2.1 (by omega),(World.putObj_heap_other (by omega)).trans h.st.2.2⟩,(World.putObj_heap_other E).trans h.box,by rw [World.putObj_size];exact h.big⟩
theorem EI.below (h:EI J ho cB B0 l n0 n1 S Wc pre F W0) (q:Below Wc.heap.size Wc W):EI J ho cB B0 l n0 n1 S W pre F W0:=
 ⟨h.j,h.jR.trans (.below q jC _) (λ_ _ e=>e),h.own,h.nc,⟨(q.block _ h.st.2.1.pos).trans h.st.1,h.st.2.1.below q h.st.2.1.pos,(q.block _ h.st.2.2.lt).trans h.st.2.2⟩,(q.block _ (jE h.box)).trans h.box,aW h.big q.size⟩
theorem EI.next (h:EI J ho cB B0 l n0 n1 S Wc pre F W0) {x:BX} {E:World} (hj:J (pre++[x]) (vG F W0 Wc) E) (hs:Wc.heap.size<=E.heap.size) (R:MK ho cB S (pre++[x]) E) (hk:∀k,vG F W0 Wc k->E.heap[k]? =Wc.heap[k]?) (hB:n0<=B0) (Y:B0 < n1) (hn:n0+2<=n1) (aa:∀k,n1<=k+2->k < n1->NC Wc k):EI J ho cB B0 l n0 n1 S E (pre++[x]) (vG F W0 Wc) E/\∀k,n0<=k->k < n1->E.heap[k]? =Wc.heap[k]?:=by
 have I:∀k,n0<=k->k < n1->vG F W0 Wc k:=λk z h2=>by
  have:=h.big
  rcases h.own k z h2 with q|q
  ·exact .inl q
  ·exact .inr ⟨q,by omega⟩
 exact ⟨⟨hj,jL.refl _ _,λk z h2=>.inl (I k z h2),λk z h2=>.inr (λcs t fz e=>aa k z h2 cs t fz (by rw [<-hk k (I k (by omega) h2)];exact e)),R,(hk B0 (I B0 hB Y)).trans h.box,aW h.big hs⟩,λk z h2=>hk k (I k z h2)⟩
theorem Gm (s:ByteArray) (w:World):Calls PQ 120 #[.string s] w λe w'=>e=.returned (.func (.func 205) #[] #[.pointer (some ⟨w.heap.size,0,none⟩),.pointer (some ⟨w.heap.size+1,0,none⟩)])/\w'=(w.alloc (.cells #[.string s] 9)).alloc (.cells #[.int .i64 1] 3):=by
 have q:=Ak s 1 w
 have z:Hid _:=λ(_:Unit)=>q
 clear q
 go_enter (fq Tryz.func120 rfl),Tryz.ntmps120
 go_wp2_with (go_at_call 174;refine aK (z.out ()) ?_;rintro e w2 ⟨rfl,rfl⟩)
 go_ret
 exact ⟨rfl,rfl⟩
end
end Hm
end Go.Proofs.YtpibpdpedjinhaaGreatDoor
