import Derived.Test.YtpibpdpedjinhaaGreatDoorU26
import Derived.Test.YtpibpdpedjinhaaGreatDoorU27
import Derived.Lib.SliceRun
set_option maxRecDepth 100000
set_option maxHeartbeats 8000000
set_option linter.unusedSimpArgs false
namespace Go.Proofs.YtpibpdpedjinhaaGreatDoor
section
open Go.RowKit
theorem oM (s:ByteArray) (i j:Nat):(s.extract i j).data.toList=(s.data.toList.take j).drop i:=by
 simp [ByteArray.data_extract,Array.toList_extract,List.drop_take]
def strLen:Value->Nat|.string s=>s.size|_=>0
theorem Ik (s:ByteArray) (I:0 < s.size):Sq.piece s.data.toList=
  if s[0].toNat < 128 then (if s[0].toNat+2<=s.size then some ((s.extract 1 (s[0].toNat+2)).data.toList,s[0].toNat+2) else none)
  else if s[0].toNat=128 then none
  else if 2<=s.size then some (Lib.repeatL (s.extract 1 2).data.toList (257 - s[0].toNat),2) else none:=by
 obtain ⟨d⟩:=s
 obtain ⟨l⟩:=d
 cases l with
 |nil=>simp [ByteArray.size] at I
 |cons c r=>
  have z:(⟨⟨c::r⟩⟩:ByteArray)[0]=c:=rfl
  have E:(⟨⟨c::r⟩⟩:ByteArray).size=r.length+1:=rfl
  rw [z,E]
  simp only [oM,Sq.piece]
  split
  ·by_cases h:c.toNat+1<=r.length
   ·rw [if_pos h,if_pos (by omega)]
    rfl
   ·rw [if_neg h,if_neg (by omega)]
  ·split
   ·rfl
   ·cases r with
    |nil=>simp
    |cons b q=>
     simp only [aN]
     rw [if_pos (by omega)]
     have:=Lib.repeatL_replicate b 1 (257 - c.toNat)
     simp only [Nat.mul_one] at this
     rw [<-this]
     rfl
theorem YP (s:ByteArray) (w:World) (E:0 < s.size) (I:(s[0].toNat:Int) < 128) (z:(s[0].toNat:Int)+2<=s.size):
  Calls PQ 172 #[.string s] w λe w'=>e=.returned (.tuple #[.string (s.extract 1 (s[0].toNat+2)),.int .i64 (s[0].toNat+2),.bool true])/\w'=w:=by
 go_enter (fq Tryz.func172 rfl),Tryz.ntmps172
 go_wp2_with fail
 go_ret3
 exact ⟨rfl,rfl⟩
theorem Yh (s:ByteArray) (L:List UInt8) (w:World) (E:s.size<=maxLen) (h0:0 < s.size) (hc:128 < (s[0].toNat:Int)) (Y:2<=(s.size:Int)) (I:Hid (Lib.repeatL (s.extract 1 2).data.toList (257 - s[0].toNat)=L)):
  Calls PQ 172 #[.string s] w λe w'=>e=.returned (.tuple #[.string ⟨L.toArray⟩,.int .i64 2,.bool true])/\Below w.heap.size w w':=by
 unfold maxLen at E
 have J:=s[0].toNat_lt
 have R:(s[0].toNat:Int) < 256:=by omega
 clear J
 go_enter (fq Tryz.func172 rfl),Tryz.ntmps172
 go_wp2_with fail
 rw [show ((257:Int) - (s[0].toNat:Int))=((257 - s[0].toNat:Nat):Int) from by omega]
 refine (repeated _ _ _ (by omega) (by
  have:(s.extract 1 2).size<=1:=by simp [eG];omega
  have:=Nat.mul_le_mul this (show 257 - s[0].toNat<=257 from by omega)
  omega)).mono ?_
 rintro e w1 ⟨rfl,z⟩
 rw [I.out]
 go_wp2
 go_ret3
 exact ⟨rfl,z⟩
theorem aaO (s:ByteArray) (w:World) (E:s.size<=maxLen) (Y:0 < s.size) (z:(s[0].toNat:Int)=128\/(128 < (s[0].toNat:Int)/\(s.size:Int) < 2)\/((s[0].toNat:Int) < 128/\(s.size:Int) < (s[0].toNat:Int)+2)):
  Calls PQ 172 #[.string s] w λe w'=>e=.returned (.tuple #[.string ⟨#[]⟩,.int .i64 0,.bool false])/\w'=w:=by
 unfold maxLen at E
 have I:=s[0].toNat_lt
 have J:(s[0].toNat:Int) < 256:=by omega
 clear I
 rcases z with z|⟨z,hd⟩|⟨z,hd⟩
 ·have R:((s[0].toNat:Int) == 128)=true:=by simp [z]
  clear z
  go_enter (fq Tryz.func172 rfl),Tryz.ntmps172
  go_wp2_with fail
  go_ret3
  exact ⟨rfl,rfl⟩
 ·go_enter (fq Tryz.func172 rfl),Tryz.ntmps172
  go_wp2_with fail
  go_ret3
  exact ⟨rfl,rfl⟩
 ·go_enter (fq Tryz.func172 rfl),Tryz.ntmps172
  go_wp2_with fail
  go_ret3
  exact ⟨rfl,rfl⟩
theorem WV (s:ByteArray) (t:List UInt8) (n:Nat) (w:World) (E:s.size<=maxLen) (hp:Sq.piece s.data.toList=some (t,n)):
  Calls PQ 172 #[.string s] w λe w'=>e=.returned (.tuple #[.string ⟨t.toArray⟩,.int .i64 n,.bool true])/\Below w.heap.size w w':=by
 have z:0 < s.size:=by
  have:=(Sq.Jk _ _ _ hp)
  rw [aV]
  omega
 rw [Ik s z] at hp
 split at hp
 ·split at hp
  ·simp only [aC,dA] at hp
   obtain ⟨rfl,rfl⟩:=hp
   refine (YP s w z (by omega) (by omega)).mono ?_
   rintro e w' ⟨rfl,rfl⟩
   exact ⟨rfl,aB _ _⟩
  ·simp at hp
 ·split at hp
  ·simp at hp
  ·split at hp
   ·simp only [aC,dA] at hp
    obtain ⟨rfl,rfl⟩:=hp
    exact Yh s _ w E z (by omega) (by omega) rfl
   ·simp at hp
theorem Xp (s:ByteArray) (w:World) (E:s.size<=maxLen) (z:0 < s.size) (hp:Sq.piece s.data.toList=none):
  Calls PQ 172 #[.string s] w λe w'=>e=.returned (.tuple #[.string ⟨#[]⟩,.int .i64 0,.bool false])/\w'=w:=by
 rw [Ik s z] at hp
 refine aaO s w E z ?_
 split at hp
 ·split at hp
  ·simp at hp
  ·right;right;omega
 ·split at hp
  ·left;omega
  ·split at hp
   ·simp at hp
   ·right;left;omega
theorem J8 (s:ByteArray) (most:Int) (w:World) (hs:s.size<=2097152) (aq:-9223372036854775808<=most) (ar:most<=9223372036854775807):
  Calls PQ 119 #[.string s,.int .i64 most] w λe w'=>e=.returned (.tuple #[.string ⟨(Sq.spread s.size s.data.toList most []).1.toArray⟩,.bool (Sq.spread s.size s.data.toList most []).2])/\Below w.heap.size w w':=by
 generalize hR:Sq.spread s.size s.data.toList most []=R
 have HR:Hid _:=hR
 clear hR
 go_enter (fq Tryz.func119 rfl),Tryz.ntmps119
 go_wp2_with fail
 go_loopw [0] (λv wr=>∃(s':ByteArray) (f:Nat) (out:List UInt8),v=.string s'/\s'.size<=f/\Sq.spread f s'.data.toList most out=R/\out.length+128 * s'.size<=268435456/\(out=[]\/(out.length:Int)<=most)/\U8 w.heap.size w.heap.size out wr/\Below w.heap.size w wr) (λv _=>strLen v)
 case atStart=>
  refine ⟨s,s.size,[],rfl,jC,HR.out,by simp;omega,.inl rfl,fresh w,(aB _ w).alloc jC _⟩
 case round=>
  obtain ⟨s',f,out,rfl,hf,J,ao,ab,hI,I⟩:=hrel
  by_cases h0:0 < s'.size
  ·have ak:(!s'.toList.isEmpty)=true:=by rw [toList_empty,decide_eq_false (by omega)];rfl
   cases hp:Sq.piece s'.data.toList with
   |none=>
    have z:Hid (R=(out,false)):=by
     rw [<-J]
     exact Sq.JU _ _ _ _ (by rw [<-aV];exact h0) (by rw [<-aV];exact hf) hp
    clear J ab
    go_wp2_with fail
    refine (Xp s' _ (by unfold maxLen;omega) h0 hp).mono ?_
    rintro e w1 ⟨rfl,rfl⟩
    go_wp2_with fail
    refine (zD _ _ out _ hI (by have:=I.size;omega)).mono ?_
    rintro e w2 ⟨rfl,_,Y⟩
    go_wp2
    go_ret2
    rw [z.out]
    exact ⟨rfl,I.trans Y⟩
   |some tn=>
    obtain ⟨t,n⟩:=tn
    have am:=Sq.Jk _ _ _ hp
    rw [<-aV] at am
    have au:-9223372036854775808<=most - (out.length:Int):=by rcases ab with h|h;simp [h];omega;omega
    have av:most - (out.length:Int)<=9223372036854775807:=by omega
    have ae:Hid _:=ab
    clear ab
    have aj:Hid _:=J
    clear J
    have Hp:Hid _:=hp
    clear hp
    go_wp2_with fail
    refine (WV s' t n _ (by unfold maxLen;omega) Hp.out).mono ?_
    rintro e w1 ⟨rfl,Y⟩
    have ag:=CQ hI Y
    have aa:=I.trans (Y.mono I.size)
    go_wp2_with fail
    refine (abJ _ _ out _ ag).mono ?_
    rintro e w2 ⟨rfl,rfl⟩
    go_wp2_with fail
    ·have E:max (most - (out.length:Int)) 0 < (t.length:Int):=by assumption
     have ap:(({ data:=t.toArray }:ByteArray).extract 0 (max (most - (out.length:Int)) 0).toNat).size<=t.length:=by
      rw [aV,oM];simp;omega
     have z:Hid (R=(out++(({ data:=t.toArray }:ByteArray).extract 0 (max (most - (out.length:Int)) 0).toNat).data.toList,false)):=by
      show _=_
      rw [<-aj.out,Sq.yR _ _ _ _ t n (by rw [<-aV];exact h0) (by rw [<-aV];exact hf) Hp.out]
      rw [if_pos (by rcases ae.out with h|h;simp [h] at E⊢;omega;omega)]
      rw [oM]
      simp only [List.drop_zero]
      congr 3
      rcases ae.out with h|h
      ·simp [h]
      ·omega
     refine (LC _ _ out _ _ ag (by omega) (by have:=aa.size;omega)).mono ?_
     rintro e w3 ⟨rfl,ac,af⟩
     go_wp2_with fail
     refine (zD _ _ _ _ ac (by have:=aa.size;have:=af.size;omega)).mono ?_
     rintro e w4 ⟨rfl,_,an⟩
     generalize out++(({ data:=t.toArray }:ByteArray).extract 0 (max (most - (out.length:Int)) 0).toNat).data.toList=X at z ac⊢
     go_wp2
     go_ret2
     rw [z.out]
     exact ⟨rfl,(aa.trans af).trans an⟩
    ·have E:(t.length:Int)<=max (most - (out.length:Int)) 0:=by assumption
     refine (LC _ _ out _ _ ag (by show _+t.toArray.size<=_;simp;omega) (by have:=aa.size;omega)).mono ?_
     rintro e w3 ⟨rfl,ac,af⟩
     go_wp2
     go_roundw
     case rel=>
      have ai:(s'.extract n s'.size).size=s'.size - n:=by simp [eG]
      refine ⟨s'.extract n s'.size,f - 1,out++t,rfl,by omega,?_,?_,?_,ac,aa.trans af⟩
      ·rw [<-aj.out,Sq.yR _ _ _ _ t n (by rw [<-aV];exact h0) (by rw [<-aV];exact hf) Hp.out]
       rw [if_neg (by rcases ae.out with h|h;simp [h] at E⊢;omega;omega)]
       rw [oM,aV,iG]
      ·rw [ai,aJ];omega
      ·right
       rw [aJ]
       rcases ae.out with h|h
       ·simp [h] at E⊢;omega
       ·omega
     case measure=>
      have ai:(s'.extract n s'.size).size=s'.size - n:=by simp [eG]
      simp [strLen]
      omega
  ·have ak:(!s'.toList.isEmpty)=false:=by rw [toList_empty,decide_eq_true (by omega)];rfl
   go_wp2_with fail
   refine (zD _ _ out _ hI (by have:=I.size;omega)).mono ?_
   rintro e w1 ⟨rfl,_,Y⟩
   have ah:s'.data.toList=[]:=by
    have:=aV s'
    exact bD (by omega)
   rw [ah,Sq.LH] at J
   subst J
   go_wp2
   go_ret2
   exact ⟨rfl,I.trans Y⟩
end
namespace Hm
open Go.RowKit Go.Joins Go.Shelf
open Fr (below_drewN)
open Dv (Ba)
attribute [local go_sem] Oper.semAt_some
variable {xs:List X}
def textOf (s:List UInt8):List UInt8:=(Sq.spread s.length s 4096 []).1
def qx (xs:List X) (z:List BX):Prop:=xs.map (λx=>QI x.i)=z.map (λx=>some x.b)
theorem qx.snoc {xs:List X} {z:List BX} (h:qx xs z) {x:X} {y:BX} (E:QI x.i=some y.b):qx (xs++[x]) (z++[y]):=by
 unfold qx at h⊢
 rw [aY,aY,h]
 simp [E]
theorem qx.Yj {z:List BX} (h:qx xs z) {T:List UInt8} {p:Nat} (E:Im.mJ (Im.read Im.body 8) T (xs.map X.i) p):xH T (z.map BX.b) p:=Gf E _ (by
 unfold qx at h
 rw [jr,jr]
 exact h)
def EJ (J:List BX->(Nat->Prop)->World->Prop) (Y:Option Obj) (E R l n0 n1:Nat) (S:ByteArray) (xs:List X) (Wc:World):Prop:=∃z F I,EI J Y E R l n0 n1 S Wc z F I/\qx xs z
def EX (J Y:List BX->(Nat->Prop)->World->Prop) (R I:Nat) (c:Code) (xs:List X) (Wc:World):Prop:=c=.ret/\((∃E F z xs' x,J E F z/\jL (λk=>F k/\NC z k) z Wc/\(∀k,R<=k->I<=k+2->k < I->(F k/\NC z k)\/z.heap.size<=k)/\xs=xs'++[x]/\qx xs' E/\QI x.i=none)\/(∃E F z,Y E F z/\jL (λk=>F k/\NC z k) z Wc/\∀k,R<=k->I<=k+2->k < I->(F k/\NC z k)\/z.heap.size<=k))
theorem EX.put {J Jx:List BX->(Nat->Prop)->World->Prop} {n0 R:Nat} {c:Code} {Wc:World} (h:EX J Jx n0 R c xs Wc) {j:Nat} (o:Obj) (h1:n0<=j) (I:R<=j+2) (h2:j < R):EX J Jx n0 R c xs (Wc.putObj j o):=by
 obtain ⟨hc,⟨z,F,Y,xs',x,q1,q2,E,q4⟩|⟨z,F,Y,q1,q2,E⟩⟩:=h
 ·exact ⟨hc,.inl ⟨z,F,Y,xs',x,q1,nC q2 (E j h1 I h2) o,E,q4⟩⟩
 ·exact ⟨hc,.inr ⟨z,F,Y,q1,nC q2 (E j h1 I h2) o,E⟩⟩
theorem Aq {B:Nat} {G W:World} (h:Below G.heap.size G W) (z:B+1 < G.heap.size):qJ B G W:=⟨h.size,h.block B (by omega),h.block (B+1) z⟩
theorem zu (ho:Option Obj) (cB:Nat) (S:ByteArray) (hs:S.size<=4096):
  U7 PQ 118 #[.pointer (some ⟨cB,0,none⟩)] BX.encs (MK ho cB S) (BY (textOf S.data.toList)) (BS (textOf S.data.toList)) (λ_=>True):=by
 intro l J Jx W b9 av bb bo
 obtain ⟨TB,a0⟩:∃TB:ByteArray,(⟨(Sq.spread S.size S.data.toList 4096 []).1.toArray⟩:ByteArray)=TB:=⟨_,rfl⟩
 obtain ⟨ax,a3⟩:∃b:Bool,(Sq.spread S.size S.data.toList 4096 []).2=b:=⟨_,rfl⟩
 have hT:textOf S.data.toList=TB.data.toList:=by
  rw [<-a0]
  unfold textOf
  rw [<-aV]
 have cd:TB.size<=4096:=by
  have:=Dv.rC S.size S.data.toList 4096 [] (by simp only [bM];omega)
  rw [<-a0]
  show (Sq.spread S.size S.data.toList 4096 []).1.toArray.size<=4096
  rw [dL]
  omega
 rw [hT] at bb⊢
 have ai:=λ(w:World)=>J8 S 4096 w (by omega) (by omega) (by omega)
 rw [a0,a3] at ai
 have bk:Hid _:=ai
 have HY:Hid _:=bb
 have bx:Hid _:=bo
 have bm:=av.2.2.lt
 have b2:∀o,(W.alloc o).cell? ⟨cB,0,none⟩=some (.string S):=λo=>(((aB W.heap.size W).alloc jC o).cell (p:=⟨cB,0,none⟩) bm).trans av.2.2.cell
 have ay:=av.2.1.pos
 have HS:Hid _:=av
 clear bb bo av ai a0 a3 hT
 refine callsIn_wide.2 (callsIn_wide.1 (callsIn_of_wp_marks (n:=3) (fq Tryz.func118 rfl) rfl trivial ?_ rfl))
 simp only [Tryz.ntmps118,dL,aN,bM,Nat.reduceAdd,Nat.reduceSub,cO,bZ,dN,cZ,dM,dH]
 gi_wp2
 refine ⟨trivial,(callsIn_wide.2 (bk.out _)).mono ?_⟩
 rintro e w2 ⟨rfl,aq⟩
 gi_wp2
 refine ⟨trivial,(callsIn_wide.2 (Gm TB w2)).mono ?_⟩
 rintro e w3 ⟨rfl,ar⟩
 have bq:Below w2.heap.size w2 w3:=by rw [ar];exact ((aB _ w2).alloc jC _).alloc (by simp) _
 have ab:w3.heap.size=w2.heap.size+2:=by rw [ar];simp
 have bg:∀(a b:Obj) (k:Nat),((w2.alloc a).alloc b).heap[k]? =if k=w2.heap.size+1 then some b else if k=w2.heap.size then some a else w2.heap[k]?:=by
  intro a b k
  simp only [World.alloc,gY,Array.size_push]
 have c0:w3.cell? ⟨w2.heap.size,0,none⟩=some (.string TB):=by
  have:w3.heap[w2.heap.size]? =some (.cells #[.string TB] 9 (0,0)):=by rw [ar,bg];simp
  rw [aA this];rfl
 have c1:w3.cell? ⟨w2.heap.size+1,0,none⟩=some (.int .i64 1):=by
  have:w3.heap[w2.heap.size+1]? =some (.cells #[.int .i64 1] 3 (0,0)):=by rw [ar,bg];simp
  rw [aA this];rfl
 obtain ⟨V,hV⟩:∃V,V=W.alloc (.cells #[.func (.yield l) #[] #[]] 216):=⟨_,rfl⟩
 have cb:V.heap.size=W.heap.size+1:=by rw [hV];simp
 have bl:Below W.heap.size W V:=by rw [hV];exact (aB _ W).alloc jC _
 have bw:V.heap[W.heap.size]? =some (.cells #[.func (.yield l) #[] #[]] 216 (0,0)):=by rw [hV];exact heap_alloc_new _ _
 rw [<-hV] at aq
 have a1:Below V.heap.size V w3:=aq.trans (bq.mono aq.size)
 have cc:=aq.size
 have a6:∀o1 o2,EI J ho cB W.heap.size l W.heap.size (w3.heap.size+2) S ((w3.alloc o1).alloc o2) [] (λ_=>False) W:=λo1 o2=>by
  have z:Below w3.heap.size w3 ((w3.alloc o1).alloc o2):=((aB _ w3).alloc jC _).alloc (by simp) _
  have E:Below V.heap.size V ((w3.alloc o1).alloc o2):=a1.trans (z.mono (by omega))
  have R:Below W.heap.size W ((w3.alloc o1).alloc o2):=bl.trans (E.mono (by omega))
  exact ⟨bx.out,.below R jC _,λk h1 _=>.inr h1,λk h1 _=>.inl (by omega),⟨(R.block _ ay).trans HS.out.1,HS.out.2.1.below R ay,(R.block _ bm).trans HS.out.2.2⟩,(E.block _ (by omega)).trans bw,by simp⟩
 have bp:kU w3:=HS.out.2.1.below (bl.trans (a1.mono (by omega))) ay
 have a9:=JO 8 (wX 8) TB 1 w2.heap.size (w2.heap.size+1) w3 (by omega) rfl bp (by omega) c0 (by simpa using c1) (by omega) (by omega)
 have H0:Hid _:=jB a9 (jB a6 a1)
 clear ar bg hV bw a1 aq bq bl c0 c1 bp a9 a6 b2
 gi_wp2
 refine FK (gf:=205) (lb:=#[.pointer (some ⟨w2.heap.size,0,none⟩),.pointer (some ⟨w2.heap.size+1,0,none⟩)]) rfl (enters_of (fq Tryz.func205 rfl) (by kernel_rfl) rfl) H0.out.1 (aB _ _) (by rintro k (rfl|rfl|rfl)<;>omega) (λaa x lo W W' h hs hx=>XE.turn 8 TB aa x lo W W' h hs hx) (λ_=>rfl)
  (EJ J ho cB W.heap.size l W.heap.size (w3.heap.size+2) S) (EX J Jx W.heap.size (w3.heap.size+2))
  (by
   rintro xs A o ⟨aa,F,W0,h,hp⟩ bj
   exact ⟨aa,F,W0,h.put o (by omega) (by omega) (by omega) ay bm (by omega),hp⟩)
  (by
   rintro c xs A o h bj
   exact h.put o (by omega) (by omega) (by omega))
  (λo1 o2=>⟨[],_,_,H0.out.2.1 o1 o2,rfl⟩)
  (λx B=>{ tmps:=#[.func (.yield l) #[] #[],.pointer (some ⟨cB,0,none⟩),.pointer (some ⟨W.heap.size,0,none⟩),.string TB,.bool ax,undef,.pointer (some ⟨B,0,none⟩),undef,undef,.tuple #[.string TB,.bool ax],.string S,.tuple #[.string TB,.bool ax],.string TB,.bool ax,.string TB,.func (.func 205) #[] #[.pointer (some ⟨w2.heap.size,0,none⟩),.pointer (some ⟨w2.heap.size+1,0,none⟩)],.int .i64 x.e,.agg #[.bool x.i.list,.string ⟨x.i.bytes.toArray⟩,.slice x.a x.i.kids.length x.cap],undef,undef,undef,undef,undef,undef,undef,undef,undef,undef,undef,undef,undef],defers:=[] })
  (λx=>.cells #[.bool x.i.list,.string ⟨x.i.bytes.toArray⟩,.slice x.a x.i.kids.length x.cap] 103) ?assign ?body ?done ?stop
 case assign=>
  intro l x W K hK
  simp only [X.encs]
  gi_wp2
  exact hK
 case body=>
  rintro lp xs x bn W1 ce b7 ba a5 ⟨aa,F,W0,hI,hP⟩ hb ⟨⟨b8,bz⟩,p,ah⟩
  have ae:=hI.below hb
  have a7:∀k,w3.heap.size+2<=k+2->k < w3.heap.size+2->NC W1 k:=λk h1 h2=>by
   rcases (show k=w3.heap.size\/k=w3.heap.size+1 by omega) with rfl|rfl
   ·exact ba
   ·exact a5
  have ca:x.i.bytes.length<=4096:=by
   rw [aY] at ah
   obtain ⟨p',n,_,_,h3⟩:=EC ah
   have:=KZ h3
   rw [dP,<-aV] at this
   omega
  obtain ⟨IB,br⟩:∃IB:ByteArray,(⟨x.i.bytes.toArray⟩:ByteArray)=IB:=⟨_,rfl⟩
  obtain ⟨G,hG⟩:∃G:World,G=W1.alloc (.cells #[.bool x.i.list,.string ⟨x.i.bytes.toArray⟩,.slice x.a x.i.kids.length x.cap] 103):=⟨_,rfl⟩
  rw [<-hG]
  have gs:G.heap.size=W1.heap.size+1:=by rw [hG];simp
  have gb:Below W1.heap.size W1 G:=by rw [hG];exact (aB _ _).alloc jC _
  have gk:G.heap[W1.heap.size]? =some (.cells #[.bool x.i.list,.string IB,.slice x.a x.i.kids.length x.cap] 103 (0,0)):=by rw [hG,<-br];exact heap_alloc_new _ _
  have k0:G.cell? ⟨W1.heap.size,0,none⟩=some (.bool x.i.list):=jF gk rfl
  have k1:G.cell? ⟨W1.heap.size,1,none⟩=some (.string IB):=jF gk rfl
  have k2:G.cell? ⟨W1.heap.size,2,none⟩=some (.slice x.a x.i.kids.length x.cap):=jF gk rfl
  have I:=ae.below gb
  have ag:∀k,w3.heap.size+2<=k+2->k < w3.heap.size+2->NC G k:=λk h1 h2 cs t fz e=>a7 k h1 h2 cs t fz (by rw [<-gb.block k (by have:=ae.big;omega)];exact e)
  have au:=JX x.i (.slice x.a x.i.kids.length x.cap) G ⟨_,_,_,rfl⟩ (by omega) I.st.2.1
  rw [br] at au⊢
  have a8:Hid _:=λ(_:Unit)=>au
  have HI:Hid _:=jB I (jB hP (jB ah (jB hb (jB gb (jB gs ag)))))
  have b3:W.heap.size < G.heap.size:=by have:=I.big;omega
  have b5:w3.heap.size+2<=G.heap.size:=I.big
  have bd:G.cell? ⟨W.heap.size,0,none⟩=some (.func (.yield l) #[] #[]):=jF I.box rfl
  clear hI ae hP ah hb gb gk hG bz I au a7 ag ba a5
  generalize az:QI x.i=q
  cases q with
  |none=>
   gi_wp2
   refine ⟨trivial,(CallsIn.inRound _ (callsIn_wide.2 (a8.out ()))).mono ?_⟩
   rintro e w4 ⟨aj,z⟩
   rw [az] at aj
   have aj:e=_:=aj
   subst aj
   gi_wp2
   refine ⟨(λ_ h=>by cases h),?_⟩
   gi_wp2
   obtain ⟨I,hP,ah,hb,gb,gs,ag⟩:=HI.out
   have E:=z.trans (((aB _ w4).alloc jC (.cells #[.int .i64 0,.int .i64 0,.int .i64 0,.slice none 0 0,.int .i64 0] 150)).mono z.size)
   have Y:=I.below E
   exact ⟨Aq E (by omega),rfl,.inl ⟨aa,F,W0,xs,x,Y.j,Y.jR,λk h0 h1 h2=>Y.free h0 h1 h2,rfl,hP,az⟩⟩
  |some b=>
   gi_wp2
   refine ⟨trivial,(CallsIn.inRound _ (callsIn_wide.2 (a8.out ()))).mono ?_⟩
   rintro e w4 ⟨aj,z⟩
   rw [az] at aj
   obtain ⟨a4,am,rfl,bh,bu⟩:=aj
   unfold MH
   have b6:∀o,(w4.alloc o).cell? ⟨W.heap.size,0,none⟩=some (.func (.yield l) #[] #[]):=λo=>((z.trans (((aB _ w4).alloc jC o).mono z.size)).cell (p:=⟨W.heap.size,0,none⟩) b3).trans bd
   obtain ⟨X5,bs⟩:∃X5,X5=w4.alloc (.cells #[.int .i64 b.epoch,.int .i64 b.id,.int .i64 b.time,.slice a4 b.txs.length am,.int .i64 b.place] 150):=⟨_,rfl⟩
   have E:Below w4.heap.size w4 X5:=by rw [bs];exact (aB _ w4).alloc jC _
   obtain ⟨I,hP,ah,hb,gb,gs,ag⟩:=HI.out
   have Y:=I.below (z.trans (E.mono z.size))
   have ao:qx (xs++[x]) (aa++[⟨b,a4,am⟩]):=hP.snoc az
   obtain ⟨fn,tmps,assign,body,b4,hR⟩:=HY.out aa ⟨b,a4,am⟩ F W0 X5 Y.j Y.jR ⟨⟨Row.below bh.1 E,λg hg=>aW (aW I.jR.size (by omega)) (bh.2 g hg)⟩,bu,p,ao.Yj ah⟩
   simp only [BX.encs] at b4
   have HR:Hid _:=hR
   have af:∀k,w3.heap.size+2<=k+2->k < w3.heap.size+2->NC X5 k:=λk h1 h2 cs t fz e=>ag k h1 h2 cs t fz (by rw [<-(z.trans (E.mono z.size)).block k (by omega)];exact e)
   have H5:Hid _:=jB Y (jB ao (jB z (jB E af)))
   clear hR Y ao I hP ah hb gb bh bu E af ag
   subst bs
   gi_wp2
   refine RoundIn.mono (Gx HR.out) ?_
   rintro e W3 (⟨rfl,a2,ab,ap,ac⟩|⟨rfl,an,ab,ac⟩)
   ·have H3:Hid _:=jB a2 (jB ab (jB ap ac))
    clear a2 ab ap ac
    gi_wp2
    obtain ⟨a2,ab,ap,ac⟩:=H3.out
    obtain ⟨Y,ao,z,E,af⟩:=H5.out
    have I:=HI.out.1
    have R:=z.trans (E.mono z.size)
    obtain ⟨b1,aw⟩:=Y.next a2 ab ap ac jC (by omega) (by omega) af
    refine ⟨⟨aW R.size ab,(aw _ (by omega) (by omega)).trans (R.block _ (by omega)),(aw _ (by omega) (by omega)).trans (R.block _ (by omega))⟩,?_,_,_,_,b1,ao⟩
    rintro k (rfl|rfl|rfl)
    ·exact ap.1.trans I.st.1.symm
    ·exact (aw _ (by omega) (by omega)).trans (R.block _ (by omega))
    ·exact (aw _ (by omega) (by omega)).trans (R.block _ (by omega))
   ·have H3:Hid _:=jB an (jB ab ac)
    clear an ab ac
    gi_wp2
    obtain ⟨an,ab,ac⟩:=H3.out
    obtain ⟨Y,ao,z,E,af⟩:=H5.out
    have R:=z.trans (E.mono z.size)
    have ha:∀k,W.heap.size<=k->k < w3.heap.size+2->vG F W0 (w4.alloc (.cells #[.int .i64 b.epoch,.int .i64 b.id,.int .i64 b.time,.slice a4 b.txs.length am,.int .i64 b.place] 150)) k:=λk h1 h2=>by
     have:=Y.big
     rcases Y.own k h1 h2 with q|q
     ·exact Or.inl q
     ·exact Or.inr ⟨q,by omega⟩
    exact ⟨⟨aW R.size ab,(ac _ (ha _ (by omega) (by omega))).trans (R.block _ (by omega)),(ac _ (ha _ (by omega) (by omega))).trans (R.block _ (by omega))⟩,rfl,.inr ⟨_,_,W3,an,jL.refl _ _,λk h0 h1 h2=>.inl ⟨ha k h0 h2,λcs t fz e=>af k h1 h2 cs t fz (by rw [<-ac k (ha k h0 h2)];exact e)⟩⟩⟩
 case done=>
  rintro D xs bn bv hD bj ⟨p,he,b0,ak⟩ ⟨aa,F,W0,hI,hP⟩ hb hK
  have ae:=hI.below hb
  have HF:Hid _:=jB ae (jB hP (jB he ak))
  clear hI ae hP he ak hb
  gi_wp2
  refine ⟨by simp,.inl ⟨_,_,rfl,run_takeDeferred hK,?_⟩⟩
  obtain ⟨ae,hP,he,ak⟩:=HF.out
  refine ⟨_,results_none rfl _ _ _,⟨_,rfl⟩,.inl ⟨aa,F,W0,⟨p,hP.Yj he,?_⟩,ae.j,nC ae.jR (ae.free (j:=D) (by omega) (by omega) (by omega)) _⟩⟩
  rcases ak with h|⟨_,h⟩
  ·exact .inl (by rw [<-aV];exact h)
  ·exact .inr (.inl h)
 case stop=>
  rintro D c xs bn bv hD bj ⟨p,he,b0⟩ ⟨rfl,hx⟩ hb hK
  have HF:Hid _:=jB hx (jB he hb)
  clear hx he hb
  gi_wp2
  refine ⟨by simp,.inl ⟨_,_,rfl,run_takeDeferred hK,?_⟩⟩
  obtain ⟨hx,he,hb⟩:=HF.out
  refine ⟨_,results_none rfl _ _ _,⟨_,rfl⟩,?_⟩
  rcases hx with ⟨aa,F,W0,xs',x,q1,q2,q3,rfl,q5,q6⟩|⟨aa,F,W0,q1,q2,q3⟩
  ·rw [aY] at he
   obtain ⟨p',n,e1,e2,e3⟩:=EC he
   exact .inl ⟨aa,F,W0,⟨p',q5.Yj e1,.inr (.inr ⟨_,_,e3,q6⟩)⟩,q1,nC (q2.trans (.below hb jC _) (λ_ _ e=>e)) (q3 D (by omega) (by omega) (by omega)) _⟩
  ·exact .inr ⟨aa,F,W0,trivial,q1,nC (q2.trans (.below hb jC _) (λ_ _ e=>e)) (q3 D (by omega) (by omega) (by omega)) _⟩
end Hm
namespace Hm
open Go.RowKit Go.Joins
open Dv (Ch Fine)
open Fr (F below_drewN)
theorem Chs.more {w w3 w5:World} {nb:Nat} {vo aj:Value} {nm:AL} {os:List PC} {o':PC} (h:Chs w nb vo nm os) (ah:lD w3 nb .u32 (uw nm o'.ch.name (ptr o'.blk))) (an:jL (λk=>k=nb) w w3) (am:ChanAt w3 o') (ag:w.heap.size<=o'.blk) (R:∀b,o'.fm=some b->w.heap.size<=b)
  (ak:Row w5 197 1 aj (os.length+1) ((os.map λo=>ptr o.blk)++[ptr o'.blk])) (af:jL (λk=>vo.ownBlock=some k) w3 w5):Chs w5 nb aj (uw nm o'.ch.name (ptr o'.blk)) (os++[o']):=by
 have ab:∀k,vo.ownBlock=some k->k≠nb:=λk hk e=>by
  obtain ⟨ai,hc⟩:=h.order.obj hk
  exact kR hc h.named e
 have ac:∀o,o∈os->vo.ownBlock≠some o.blk:=λo z hk=>by
  obtain ⟨ai,hc⟩:=h.order.obj hk
  have:=(h.chans o z).obj
  unfold uJ at this
  rw [hc] at this
  simp at this
 have Y:∀o,o∈os->∀b,o.fm=some b->vo.ownBlock≠some b:=λo z b E hk=>by
  obtain ⟨ai,hc⟩:=h.order.obj hk
  cases hs:o.ch.spoilt
  ·obtain ⟨⟨B,e,hm⟩,_⟩:=(h.chans o z).sound hs
   rw [e] at E
   cases E
   exact kR hc hm rfl
  ·rw [((h.chans o z).spoilt hs).2] at E
   cases E
 have ae:∀o,o∈os->o.blk≠nb:=λo z=>kR (h.chans o z).obj h.named
 have aa:∀o,o∈os->o.blk < w.heap.size:=λo z=>(dR.1 (h.chans o z).obj).1
 have J:∀o,o∈os->∀b,o.fm=some b->b < w.heap.size:=λo z b E=>h.qp (.inr (.inr ⟨o,z,.inr E⟩))
 have I:∀k,w.heap.size<=k->vo.ownBlock≠some k:=λk hk e=>by have:=h.order.lt e;omega
 refine ⟨ah.of_block (af.block _ ah.lt (λe=>ab _ e rfl)),?_,?_,?_,?_,?_,?_⟩
 ·rw [aJ,aY];exact ak
 ·intro o z
  rcases dG.1 z with z|z
  ·exact ((h.chans o z).jR an (ae o z) (λb E e=>h.far o z (by rw [E,e]))).jR af (ac o z) (Y o z)
  ·rw [dD.1 z]
   exact am.jR af (I _ ag) (λb E=>I _ (R b E))
 ·rw [aY]
  refine List.nodup_append.2 ⟨h.apart,by simp,λa ha b E e=>?_⟩
  obtain ⟨o,z,rfl⟩:=bC.1 ha
  simp at E
  have:=aa o z
  omega
 ·intro a b ha E x h1 h2
  rcases dG.1 ha with ha|ha<;>rcases dG.1 E with E|E
  ·exact h.maps a b ha E x h1 h2
  ·rw [dD.1 E] at h2
   have:=R x h2;have:=J a ha x h1;omega
  ·rw [dD.1 ha] at h1
   have:=R x h1;have:=J b E x h2;omega
  ·rw [dD.1 ha,dD.1 E]
 ·intro o z e
  rcases dG.1 z with z|z
  ·exact h.far o z e
  ·rw [dD.1 z] at e
   have:=R _ e;have:=h.named.lt;omega
 ·intro p hp
  unfold uw at hp
  split at hp
  ·obtain ⟨q,hq,e⟩:=bC.1 hp
   by_cases hk:q.1=o'.ch.name
   ·rw [if_pos hk] at e
    exact ⟨o',by simp,e.symm⟩
   ·rw [if_neg hk] at e
    obtain ⟨o,z,e'⟩:=h.entries q hq
    exact ⟨o,by simp [z],by rw [<-e,e']⟩
  ·rcases dG.1 hp with hp|hp
   ·obtain ⟨o,z,e'⟩:=h.entries p hp
    exact ⟨o,by simp [z],e'⟩
   ·exact ⟨o',by simp,dD.1 hp⟩
theorem TL:(PQ.info? 197).map (λi=>(i.zero,i.size,i.bytes))=some (some (.pointer none),1,8):=by kernel_rfl
theorem open_any (kb nb:Nat) (cs:Array Value) (vo:Value) (nm:AL) (os:List PC) (name n:Nat) (w:World) (hk:w.heap[kb]? =some (.cells cs 137 (0,0))) (h8:cs[8]? =some (.map (some nb))) (h9:cs[9]? =some vo) (h:Chs w nb vo nm os) (a7:os.length<=4294967296):
  Calls PQ 112 #[.pointer (some ⟨kb,8,none⟩),.int .u32 name,.int .i64 n] w λe w'=>e=.returned (.tuple #[])/\∃(ar:Value) (o':PC),w'.heap[kb]? =some (.cells (cs.setIfInBounds 9 ar) 137 (0,0))/\o'.ch=⟨name,n,[],false⟩/\Chs w' nb ar (uw nm name (ptr o'.blk)) (os++[o'])/\
   w.heap.size<=o'.blk/\(∀b,o'.fm=some b->w.heap.size<=b)/\(∀k,ar.ownBlock=some k->vo.ownBlock=some k\/w.heap.size<=k)/\jL (λk=>k=kb\/k=nb\/vo.ownBlock=some k) w w':=by
 obtain ⟨W2,ab⟩:∃W2,W2=(w.alloc (.map #[] 0)).alloc (.cells #[.int .u32 name,.int .i64 n,.map (some w.heap.size),.int .i64 0,.bool false,.int .u16 0,.bool false] 201):=⟨_,rfl⟩
 have aa:Below w.heap.size w W2:=by rw [ab];exact ((aB _ w).alloc jC _).alloc (by simp) _
 have ap:W2.heap.size=w.heap.size+2:=by rw [ab];simp
 have av:lD W2 w.heap.size .u16 (rU []):=by
  rw [ab]
  exact (lD.made w .u16).of_block (aT _ _ _ (by simp))
 have ay:W2.heap[w.heap.size+1]? =some (uJ ⟨w.heap.size+1,some w.heap.size,⟨name,n,[],false⟩,0,false,0⟩):=by
  rw [ab]
  have:=heap_alloc_new (w.alloc (.map #[] 0)) (.cells #[.int .u32 name,.int .i64 n,.map (some w.heap.size),.int .i64 0,.bool false,.int .u16 0,.bool false] 201)
  simp only [eH] at this
  exact this
 have aw:ChanAt W2 ⟨w.heap.size+1,some w.heap.size,⟨name,n,[],false⟩,0,false,0⟩:=⟨ay,Dv.IJ,λx hx=>by simp at hx,by simp,λ_=>⟨⟨_,rfl,av⟩,by simp [Dv.size],by simp [Dv.size],by simp [Dv.last],by simp [Dv.last]⟩,λh=>by simp at h⟩
 have J:=h.below aa
 have Y:W2.heap[kb]? =_:=(aa.block _ (jE hk)).trans hk
 obtain ⟨w3,ae,ai,aq,an⟩:=J.named.update (P:=PQ) (uq Tryz.underlying130) (uq Tryz.underlying22) name (ptr (w.heap.size+1))
 have a4:kb≠nb:=kR hk h.named
 have e8:W2.cell? ⟨kb,8,none⟩=some (.map (some nb)):=by rw [aA Y];exact h8
 have ag:w3.heap[kb]? =_:=(aq.block _ (jE Y) (by simp [a4])).trans Y
 have e9:w3.cell? ⟨kb,9,none⟩=some vo:=by rw [aA ag];exact h9
 have z:jL (λk=>k=nb) W2 w3:=(jL.grown aq).mono (λk _ e=>by simpa using e.symm)
 have ah:ChanAt w3 ⟨w.heap.size+1,some w.heap.size,⟨name,n,[],false⟩,0,false,0⟩:=aw.jR z (by have:=h.named.lt;dsimp only;omega) (λb hb=>by cases hb;have:=h.named.lt;omega)
 obtain ⟨a,cap,rfl⟩:=h.order.slice
 unfold ptr at ae
 have ac:=λobj=>(J.order.jR z (λg hg e=>by
  obtain ⟨a5,hc⟩:=J.order.obj hg
  exact kR hc J.named e)).below ((aB w3.heap.size w3).alloc jC obj)
 have af:Hid _:=ac
 have H:Hid _:=jB ag (jB J (jB ai (jB z (jB ah (jB ap (jB aa (jB an (jB hk h))))))))
 obtain ⟨i0,a2,au,a3,a0⟩:=info_parts TL
 have Hi:Hid _:=jB a2 (jB au (jB a3 a0))
 have ax:kb < w3.heap.size:=(jE ag)
 clear hk h aa av ay aw J Y ai aq an ag z ah ac ap a2 au a3 a0 h8
 go_enter (fq Tryz.func112 rfl),Tryz.ntmps112
 have ba:=@run_makeMap PQ
 go_upto_region 1 with fail
 rw [<-ab]
 clear ab
 go_upto_region 2 with fail
 clear e8 ae
 go_wp2_with (first|(at_builtin;refine lW _ rfl (.tmp 22) (.tmp 24) 131 rfl 197 i0 _ 1 8 (uq Tryz.underlying131) Hi.out.1 Hi.out.2.1 Hi.out.2.2.1 Hi.out.2.2.2 rfl (by decide) _ os.length _ rfl (af.out _) ⟨w3.heap.size,0,none⟩ 1 1 [.pointer (some ⟨w.heap.size+1,0,none⟩)] rfl (by decide) rfl (by intro j u hj;match j,hj with|0,hj=>(simp at hj;subst hj;simp [Addr.add])) (by intro u hu;simp at hu;subst hu;rfl) (by unfold maxLen;omega) (by omega) ?_;intro g off ak w5 I E;have R:w5.heap[kb]? =some (.cells cs 137 (0,0)):=(E.keep (af.out _) ((aT _ _ _ ax).trans H.out.1) (by decide));have c9:w5.cell? ⟨kb,9,none⟩=some (.slice a os.length cap):=(by rw [aA R];exact h9);have a9:=aI R;have a6:Hid _:=jB I (jB E R);clear I E R)|go_in)
 go_end0
 obtain ⟨I,E,R⟩:=a6.out
 obtain ⟨ag,J,ai,z,ah,ap,aa,an,hk,h⟩:=H.out
 have aj:jL (λk=>(Value.slice a os.length cap).ownBlock=some k) w3 w5:=(jL.alloc _ w3 _).trans E.jR (λ_ _ e=>e)
 have a8:(Value.slice a os.length cap).ownBlock≠some kb:=λe=>by
  obtain ⟨a5,hc⟩:=h.order.obj e
  rw [hk] at hc
  simp at hc
 have az:jL (λk=>k=nb) w w3:=(jL.below aa jC _).trans z (λ_ _ e=>e)
 have a1:=h.more (o':=⟨w.heap.size+1,some w.heap.size,⟨name,n,[],false⟩,0,false,0⟩) ai az ah (by dsimp only;omega) (λb hb=>by cases hb;exact jC) I aj
 have am:=jL.set w5 kb 9 (.slice (some ⟨g,off,none⟩) (os.length+1) ak)
 refine ⟨rfl,.slice (some ⟨g,off,none⟩) (os.length+1) ak,⟨w.heap.size+1,some w.heap.size,⟨name,n,[],false⟩,0,false,0⟩,jU R 9 _,rfl,a1.jR am (λk ao e=>?_),by dsimp only;omega,λb hb=>by cases hb;exact jC,λk ao=>?_,?_⟩
 ·subst e
  exact a1.kX R (by decide) (by decide) ao
 ·have Y:some g=some k:=ao
  cases Y
  rcases E.own with e|e
  ·exact .inl e
  ·right
   simp at e
   omega
 ·exact ((az.mono (M':=λk=>k=kb\/k=nb\/(Value.slice a os.length cap).ownBlock=some k) (λk _ e=>.inr (.inl e))).trans aj (λk _ e=>.inr (.inr e))).trans am (λk _ e=>.inl e)
section
variable {w:World} {nb:Nat} {vo:Value} {nm:AL} {os:List PC} {o o'':PC} {most:Int} {f:F}
def opened (n:Nat) (f:F) (cs:List Ch):List Ch:=if f.num=0 then cs.filter (λc=>c.name != f.chan)++[⟨f.chan,n,[],false⟩] else cs
def qj (most:Int) (f:F) (c:Ch):Ch:=if c.name=f.chan then Dv.joined most c f else c
theorem Ql (most:Int) (n:Nat) (cs:List Ch) (f:F):Dv.frame most n cs f=(opened n f cs).map (qj most f):=by
 unfold Dv.frame opened
 by_cases h:f.num=0
 ·rw [if_pos h,if_pos h,aY]
  congr 1
  ·symm
   rw [ji (g:=id),List.map_id]
   intro c z
   have:=(fK.1 z).2
   simp only [bne_iff_ne,ne_eq] at this
   unfold qj
   rw [if_neg this]
   rfl
  ·simp [qj]
 ·rw [if_neg h,if_neg h]
  rfl
theorem Iy (m:AL) (k k':Nat) (v:Value):lJ (uw m k v) k'=if k'=k then some v else lJ m k':=by
 unfold lJ uw
 split
 ·rename_i h
  induction m with
  |nil=>simp at h
  |cons p m ih=>
   rw [dW,iy,iy]
   by_cases hp:p.1=k
   ·rw [if_pos hp]
    by_cases hk:k'=k
    ·subst hk;simp
    ·have E:(k == k')=false:=beq_false_of_ne (λe=>hk e.symm)
     have h2:(p.1 == k')=false:=beq_false_of_ne (λe=>hk (by rw [<-e,hp]))
     simp only [E,h2]
     by_cases I:k∈m.map Prod.fst
     ·exact ih I
     ·have:m.map (λp=>if p.1=k then (k,v) else p)=m:=by
       rw [ji (g:=id),List.map_id]
       intro q J
       rw [if_neg (λ(e:q.1=k)=>I (e ▸ bC.2 ⟨q,J,rfl⟩))]
       rfl
      rw [this,if_neg hk]
   ·rw [if_neg hp]
    have I:k∈m.map Prod.fst:=by
     rcases bV.1 h with e|e
     ·exact (hp e.symm).elim
     ·exact e
    by_cases z:p.1=k'
    ·have E:(p.1 == k')=true:=by simp [z]
     simp only [E]
     rw [if_neg (λe=>hp (by rw [z,e]))]
    ·have E:(p.1 == k')=false:=beq_false_of_ne z
     simp only [E]
     exact ih I
 ·rename_i h
  rw [List.find?_append]
  by_cases hk:k'=k
  ·subst hk
   have:m.find? (λp=>p.1 == k')=none:=by
    rw [List.find?_eq_none]
    intro q J e
    simp only [beq_iff_eq] at e
    exact h (e ▸ bC.2 ⟨q,J,rfl⟩)
   rw [this]
   simp
  ·rw [if_neg hk]
   cases m.find? (λp=>p.1 == k') with
   |some p=>rfl
   |none=>
    have E:(k == k')=false:=beq_false_of_ne (λe=>hk e.symm)
    simp [E]
theorem MP (h:Chs w nb vo nm os) {o':PC} (z:w.heap.size<=o'.blk):lives (uw nm o'.ch.name (ptr o'.blk)) (os++[o'])=(lives nm os).filter (λc=>c.name != o'.ch.name)++[o'.ch]:=by
 unfold lives
 rw [iD,aY]
 congr 1
 ·rw [List.filter_map,List.filter_filter]
  congr 1
  refine List.filter_congr (λo I=>?_)
  have E:o.blk < w.heap.size:=(dR.1 (h.chans o I).obj).1
  unfold alive
  rw [Iy]
  by_cases e:o.ch.name=o'.ch.name
  ·rw [if_pos e]
   have J:(o'.blk == o.blk)=false:=beq_false_of_ne (by omega)
   have h2:(o.ch.name != o'.ch.name)=false:=by simp [e]
   show (o'.blk == o.blk)=((o.ch.name != o'.ch.name)&&_)
   rw [J,h2,Bool.false_and]
  ·rw [if_neg e]
   have h2:(o.ch.name != o'.ch.name)=true:=by simp [e]
   show _=((o.ch.name != o'.ch.name)&&_)
   rw [h2,Bool.true_and]
 ·have:alive (uw nm o'.ch.name (ptr o'.blk)) o'=true:=by
   unfold alive
   rw [Iy,if_pos rfl]
   simp [ptr]
  rw [dU,if_pos this]
  rfl
theorem xK (Y:(os.map (·.blk)).Nodup) {x:PC} (J:x∈os) (R:o∈os) (e:x.blk=o.blk):x=o:=by
 induction os with
 |nil=>simp at J
 |cons y os ih=>
  have z:=iw.1 (by simpa using Y:(y.blk::os.map (·.blk)).Nodup)
  rcases bV.1 J with rfl|I<;>rcases bV.1 R with rfl|E
  ·rfl
  ·exact (z.1 (e ▸ bC.2 ⟨o,E,rfl⟩)).elim
  ·exact (z.1 (e ▸ bC.2 ⟨x,I,rfl⟩)).elim
  ·exact ih z.2 I E
def swap (o'':PC) (x:PC):PC:=if x.blk=o''.blk then o'' else x
theorem sH (o'' x:PC):(swap o'' x).blk=x.blk:=by
 unfold swap
 split
 ·rename_i h;exact h.symm
 ·rfl
theorem Chs.swap {w':World} (h:Chs w nb vo nm os) (R:o∈os) (hb:o''.blk=o.blk) (ag:o''.ch.name=o.ch.name) (ae:o''.fm=o.fm\/o''.fm=none) (hc:ChanAt w' o'') (hg:jL (λk=>k=o.blk\/o.fm=some k) w w'):Chs w' nb vo nm (os.map (swap o'')):=by
 have inj:∀x,x∈os->x.blk=o.blk->x=o:=λx E e=>xK h.apart E R e
 have z:∀x,x∈os->∀b,(Hm.swap o'' x).fm=some b->x.fm=some b:=λx E b e=>by
  unfold Hm.swap at e
  split at e
  ·rename_i aa
   rw [inj x E (aa.trans hb)]
   rcases ae with h1|h1
   ·rw [<-h1];exact e
   ·rw [h1] at e;cases e
  ·exact e
 refine ⟨h.named.of_block (hg.block _ h.named.lt (λe=>?_)),?_,?_,?_,?_,?_,?_⟩
 ·rcases e with e|e
  ·exact kR (h.chans o R).obj h.named e.symm
  ·exact h.far o R e
 ·rw [aU,jr]
  have:((λo:PC=>ptr o.blk)∘Hm.swap o'')=λo=>ptr o.blk:=by
   funext x;simp only [Function.comp,sH]
  rw [this]
  refine h.order.jR hg (λg af e=>?_)
  obtain ⟨ah,Y⟩:=h.order.obj af
  rcases e with rfl|e
  ·have:=(h.chans o R).obj
   unfold uJ at this
   rw [Y] at this
   simp at this
  ·cases hs:o.ch.spoilt
   ·obtain ⟨⟨B,e',hm⟩,_⟩:=(h.chans o R).sound hs
    rw [e'] at e
    cases e
    exact kR Y hm rfl
   ·rw [((h.chans o R).spoilt hs).2] at e
    cases e
 ·intro y hy
  obtain ⟨x,E,rfl⟩:=bC.1 hy
  unfold Hm.swap
  split
  ·exact hc
  ·rename_i ab
   refine (h.chans x E).jR hg (λe=>?_) (λb I e=>?_)
   ·rcases e with e|e
    ·exact ab (e.trans hb.symm)
    ·cases hs:o.ch.spoilt
     ·obtain ⟨⟨B,e',hm⟩,_⟩:=(h.chans o R).sound hs
      rw [e'] at e
      cases e
      exact kR (h.chans x E).obj hm rfl
     ·rw [((h.chans o R).spoilt hs).2] at e
      cases e
   ·rcases e with e|e
    ·subst e
     cases hs:x.ch.spoilt
     ·obtain ⟨⟨B,e',hm⟩,_⟩:=(h.chans x E).sound hs
      rw [e'] at I
      cases I
      exact kR (h.chans o R).obj hm rfl
     ·rw [((h.chans x E).spoilt hs).2] at I
      cases I
    ·exact ab ((h.maps x o E R b I e).trans hb.symm)
 ·rw [jr]
  have:((λo:PC=>o.blk)∘Hm.swap o'')=λo=>o.blk:=by
   funext x;simp only [Function.comp,sH]
  rw [this]
  exact h.apart
 ·intro x y E hy b h1 h2
  obtain ⟨x0,J,rfl⟩:=bC.1 E
  obtain ⟨y0,ac,rfl⟩:=bC.1 hy
  rw [sH,sH]
  exact h.maps x0 y0 J ac b (z x0 J b h1) (z y0 ac b h2)
 ·intro x E e
  obtain ⟨x0,J,rfl⟩:=bC.1 E
  exact h.far x0 J (z x0 J nb e)
 ·intro p hp
  obtain ⟨x,E,rfl⟩:=h.entries p hp
  refine ⟨Hm.swap o'' x,bC.2 ⟨x,E,rfl⟩,?_⟩
  rw [sH]
  unfold Hm.swap
  split
  ·rename_i aa
   rw [inj x E (aa.trans hb),ag]
  ·rfl
theorem QS (I:o∈os) (R:o''.blk=o.blk) (z:o''.fm=o.fm\/o''.fm=none) {k:Nat} (hk:Own nb vo (os.map (swap o'')) k):Own nb vo os k:=by
 rcases hk with e|e|⟨y,J,e⟩
 ·exact .inl e
 ·exact .inr (.inl e)
 ·obtain ⟨x,Y,rfl⟩:=bC.1 J
  unfold swap at e
  split at e
  ·refine .inr (.inr ⟨o,I,?_⟩)
   rcases e with e|e
   ·exact .inl (e.trans R)
   ·rcases z with E|E
    ·exact .inr (by rw [<-E];exact e)
    ·rw [E] at e;cases e
  ·exact .inr (.inr ⟨x,Y,e⟩)
theorem BO (h:Chs w nb vo nm os) (ho:o∈os) (J:o''.blk=o.blk) (I:o''.ch=Dv.joined most o.ch f) (R:o.ch.name=f.chan) (hg:lJ nm f.chan=some (ptr o.blk)):lives nm (os.map (swap o''))=(lives nm os).map (qj most f):=by
 have jn:(Dv.joined most o.ch f).name=o.ch.name:=by
  unfold Dv.joined
  split
  ·rfl
  ·split<;>rfl
 have inj:∀x,x∈os->x.blk=o.blk->x=o:=λx z e=>xK h.apart z ho e
 unfold lives
 rw [List.filter_map,jr,jr]
 have Y:∀x,x∈os->(alive nm∘swap o'') x=alive nm x:=λx z=>by
  simp only [Function.comp]
  unfold swap
  split
  ·rename_i e
   rw [inj x z (e.trans J)]
   unfold alive
   rw [I,jn,J]
  ·rfl
 rw [List.filter_congr Y]
 refine ji (λx z=>?_)
 obtain ⟨z,E⟩:=fK.1 z
 simp only [Function.comp]
 unfold swap qj
 by_cases e:x.blk=o.blk
 ·rw [if_pos (e.trans J.symm),inj x z e,if_pos R,I]
 ·rw [if_neg (λe'=>e (e'.trans J)),if_neg]
  intro e'
  have:alive nm x=(o.blk == x.blk):=oP (by rw [e'];exact hg)
  rw [this] at E
  simp only [beq_iff_eq] at E
  exact e E.symm
theorem J3 (I:lJ nm f.chan=none):(lives nm os).map (qj most f)=lives nm os:=by
 rw [ji (g:=id),List.map_id]
 intro c E
 unfold lives at E
 obtain ⟨x,J,rfl⟩:=bC.1 E
 have z:=(fK.1 J).2
 unfold qj
 rw [if_neg]
 ·rfl
 ·intro e
  rw [qZ (by rw [e];exact I)] at z
  cases z
theorem Fp (h:Chs w nb vo nm os) (E:o∈os) (R:Dv.nM o.ch f=true) (z:o.ch.name=f.chan) (J:lJ nm f.chan=some (ptr o.blk)):(lives nm os).map (qj most f)=lives nm os:=by
 have I:Dv.joined most o.ch f=o.ch:=by unfold Dv.joined;rw [if_pos R]
 rw [<-BO h E (o'':=o) rfl I.symm z J]
 congr 1
 rw [ji (g:=id),List.map_id]
 intro x Y
 unfold swap
 split
 ·rename_i e
  exact (xK h.apart Y E e).symm
 ·rfl
end
theorem aaJ:PQ.underlying 197=some (.pointer (PQ.pointee 197)):=by kernel_rfl
theorem Pe (w:World):(binOp .neq 197 (.pointer none) (.pointer none)).run PQ w=.ok (.bool false) w:=run_neq_pointer_nil w _ none aaJ
theorem Qx (w:World) (b:Nat):(binOp .neq 197 (.pointer (some ⟨b,0,none⟩)) (.pointer none)).run PQ w=.ok (.bool true) w:=run_neq_pointer_nil w _ (some _) aaJ
theorem JG (most:Int) (c:Ch) (f:F):(Dv.joined most c f).name=c.name:=by
 unfold Dv.joined
 split
 ·rfl
 ·split<;>rfl
structure zZ (kb nb:Nat) (cs:Array Value) (vo:Value) (os:List PC) (w:World) (vo':Value) (nm':AL) (os':List PC) (w':World):Prop where
 obj:w'.heap[kb]? =some (.cells (cs.setIfInBounds 9 vo') 137 (0,0))
 chs:Chs w' nb vo' nm' os'
 jR:jL (λk=>k=kb\/Own nb vo os k) w w'
 own:∀k,Own nb vo' os' k->Own nb vo os k\/w.heap.size<=k
 len:os'.length<=os.length+1
theorem take_any (kb nb:Nat) (cs:Array Value) (vo:Value) (nm:AL) (os:List PC) (f:F) (n:Nat) (most:Int) (w:World) (hk:w.heap[kb]? =some (.cells cs 137 (0,0))) (h8:cs[8]? =some (.map (some nb))) (h9:cs[9]? =some vo) (h:Chs w nb vo nm os) (a8:os.length<=4294967295) (hf:f.num < 65536/\f.data.length<=65536) (ai:0<=most/\most<=4294967296):
  Calls PQ 72 #[.pointer (some ⟨kb,8,none⟩),GV f,.int .i64 n,.int .i64 most] w λe w'=>e=.returned (.tuple #[])/\∃au a0 ay,zZ kb nb cs vo os w au a0 ay w'/\lives a0 ay=Dv.frame most n (lives nm os) f:=by
 rw [Ql]
 obtain ⟨fc,fn,fd,Y⟩:=f
 unfold GV
 dsimp only at *
 obtain ⟨D,hD⟩:∃D:ByteArray,(⟨fd.toArray⟩:ByteArray)=D:=⟨_,rfl⟩
 rw [hD]
 obtain ⟨W,hW⟩:∃W,W=w.alloc (.cells #[.int .u32 fc,.int .u16 fn,.string D,.bool Y] 81):=⟨_,rfl⟩
 have R:Below w.heap.size w W:=by rw [hW];exact (aB _ w).alloc jC _
 have a2:w.heap.size < W.heap.size:=by rw [hW];simp
 have zo:W.heap[w.heap.size]? =some (.cells #[.int .u32 fc,.int .u16 fn,.string D,.bool Y] 81 (0,0)):=by rw [hW];exact heap_alloc_new _ _
 have z0:W.cell? ⟨w.heap.size,0,none⟩=some (.int .u32 fc):=jF zo rfl
 have z1:W.cell? ⟨w.heap.size,1,none⟩=some (.int .u16 fn):=jF zo rfl
 have af:W.heap[kb]? =_:=(R.block _ (jE hk)).trans hk
 have ac:=h.below R
 have an:=open_any kb nb cs vo nm os fc n W af h8 h9 ac (by omega)
 have aw:Hid _:=λ(_:Unit)=>an
 have a6:kb < w.heap.size:=(jE hk)
 have H:Hid _:=jB hk (jB h8 (jB h9 (jB h (jB R (jB zo (jB af (jB ac (jB hf (jB ai hD)))))))))
 clear hk h8 h9 h R zo af ac an hf ai hD
 go_enter (fq Tryz.func72 rfl),Tryz.ntmps72
 go_upto_if 11 with fail
 rw [<-hW]
 clear hW
 go_cut [16] (λ_ wx=>Hid (∃aj ak ag,zZ kb nb cs vo os w aj ak ag wx/\lives ak ag=opened n ⟨fc,fn,fd,Y⟩ (lives nm os)/\wx.heap[w.heap.size]? =some (.cells #[.int .u32 fc,.int .u16 fn,.string D,.bool Y] 81 (0,0))))
 case first=>
  by_cases h0:fn=0
  ·have h1:((fn:Int) == 0)=true:=by rw [h0];rfl
   have H0:Hid _:=h0
   rw [h1]
   clear h1 h0
   go_wp2_with (go_at_call 112;refine aK (aw.out ()) ?_;rintro e w2 ⟨rfl,au,o',q1,q2,q3,q4,q5,q6,q7⟩)
   go_meet
   obtain ⟨hk,h8,h9,h,R,zo,af,ac,hf,ai,hD⟩:=H.out
   have bb:=R.size
   have az:jL (λk=>k=kb\/Own nb vo os k) w w2:=(jL.below R jC _).trans q7 (λk _ e=>by
    rcases e with e|e|e
    ·exact .inl e
    ·exact .inr (.inl e)
    ·exact .inr (.inr (.inl e)))
   refine ⟨au,_,_,⟨q1,q3,az,λk am=>?_,by simp⟩,?_,?_⟩
   ·rcases am with e|e|⟨x,hx,e⟩
    ·exact .inl (.inl e)
    ·rcases q6 k e with e|e
     ·exact .inl (.inr (.inl e))
     ·exact .inr (by omega)
    ·rcases dG.1 hx with hx|hx
     ·exact .inl (.inr (.inr ⟨x,hx,e⟩))
     ·rw [dD.1 hx] at e
      rcases e with e|e
      ·exact .inr (by omega)
      ·have:=q5 k e
       exact .inr (by omega)
   ·have:=MP ac q4
    rw [q2] at this
    rw [this]
    unfold opened
    rw [if_pos H0.out]
   ·refine (q7.block _ a2 ?_).trans zo
    rintro (e|e|e)
    ·omega
    ·have:=h.named.lt;omega
    ·have:=h.order.lt e;omega
  ·have h1:((fn:Int) == 0)=false:=beq_false_of_ne (by omega)
   have H0:Hid _:=h0
   rw [h1]
   clear h1 h0
   go_wp2_with fail
   go_meet
   obtain ⟨hk,h8,h9,h,R,zo,af,ac,hf,ai,hD⟩:=H.out
   refine ⟨vo,nm,os,⟨?_,ac,.below R jC _,λk am=>.inl am,by omega⟩,?_,zo⟩
   ·have:cs.setIfInBounds 9 vo=cs:=by
     refine fP (λi=>?_)
     rw [aO]
     by_cases e:9=i
     ·subst e
      have a3:=(jE h9)
      rw [if_pos rfl,if_pos a3,h9]
     ·rw [if_neg e]
    rw [this]
    exact af
   ·unfold opened
    rw [if_neg H0.out]
 case rest=>
  obtain ⟨aj,ak,ag,z,aa,J⟩:=hcut.out
  obtain ⟨hk,h8,h9,h,R,zo,af,ac,hf,ai,hD⟩:=H.out
  have e8:wc.cell? ⟨kb,8,none⟩=some (.map (some nb)):=by rw [aA z.obj,aO,if_neg (by omega)];exact h8
  have y0:wc.cell? ⟨w.heap.size,0,none⟩=some (.int .u32 fc):=jF J rfl
  have I:=(z.chs.named.of_block (w':=wc.drew) rfl).lookup (P:=PQ) (uq Tryz.underlying130) (uq Tryz.underlying22) (SE _) fc false
  simp only [bJ,if_false] at I
  have aq:Below wc.heap.size wc wc.drew:=(aB _ _).drew
  have a1:=Pe
  have a4:=Qx
  have tail:∀w',Below wc.heap.size wc w'->zZ kb nb cs vo os w aj ak ag w':=λw' hb=>⟨(hb.block _ (jE z.obj)).trans z.obj,z.chs.below hb,z.jR.trans (.below hb jC (λ_=>False)) (λ_ _ e=>e.elim),z.own,z.len⟩
  rcases z.chs.get (n:=fc) with hg|⟨o,ho,hn,hg⟩
  ·rw [hg] at I
   simp only [Option.getD_none] at I
   have HT:Hid _:=jB tail (jB aa hg)
   clear hk h8 h9 h R zo af ac hf ai hD z aa J hg hcut tail z0 z1
   go_upto_region 3 with fail
   go_cut [8] (λv wx=>v=.pointer none/\wx=wc.drew)
   case first=>
    go_region
    all_goals
     go_wp2_with fail
     go_meet
     exact ⟨rfl,rfl⟩
   case rest=>
    obtain ⟨rfl,rfl⟩:=hcut
    go_wp2_with fail
    go_end0
    obtain ⟨tail,aa,hg⟩:=HT.out
    refine ⟨rfl,aj,ak,ag,tail _ aq,?_⟩
    rw [<-aa,J3 hg]
  ·rw [hg] at I
   simp only [fB] at I
   unfold ptr at I
   have av:=z.chs.below aq
   have ae:=Jj o ⟨fc,fn,fd,Y⟩ wc.drew (av.chans o ho) hf.1
   have E:=λ(W':World) (a5:Below wc.drew.heap.size wc.drew W') (hb:Dv.nM o.ch ⟨fc,fn,fd,Y⟩=false)=>QY o ⟨fc,fn,fd,Y⟩ most W' ((av.below a5).chans o ho) hb hf ai
   unfold GV at ae E
   dsimp only at ae E
   rw [hD] at ae E
   obtain ⟨b,hb⟩:∃b,Dv.nM o.ch ⟨fc,fn,fd,Y⟩=b:=⟨_,rfl⟩
   rw [hb] at ae E
   have zd:wc.drew.heap[w.heap.size]? =some (.cells #[.int .u32 fc,.int .u16 fn,.string D,.bool Y] 81 (0,0)):=J
   have x0:wc.cell? ⟨w.heap.size,0,none⟩=some (.int .u32 fc):=jF J rfl
   have x1:wc.cell? ⟨w.heap.size,1,none⟩=some (.int .u16 fn):=jF J rfl
   have x2:wc.cell? ⟨w.heap.size,2,none⟩=some (.string D):=jF J rfl
   have x3:wc.cell? ⟨w.heap.size,3,none⟩=some (.bool Y):=jF J rfl
   have ar:Hid _:=λ(_:Unit)=>ae
   have ax:Hid _:=E
   have HT:Hid _:=jB tail (jB aa (jB hg (jB ho (jB hn (jB hb (jB z (jB hk (jB h J))))))))
   have ap:=(jE J)
   clear hk h8 h9 h R zo af ac hf ai hD z aa J hg hcut tail ae E av zd ho hn hb z0 z1
   go_upto_region 3 with fail
   go_cut [8] (λv wx=>v=.pointer (some ⟨o.blk,0,none⟩)/\wx=wc.drew)
   case first=>
    go_region
    all_goals
     go_wp2_with fail
     go_meet
     exact ⟨rfl,rfl⟩
   case rest=>
    obtain ⟨rfl,rfl⟩:=hcut
    cases b
    ·go_wp2_with (first|(go_at_call 113;refine aK (ar.out ()) ?_;rintro e w2 ⟨rfl,ah⟩;have ba:w2.cell? ⟨w.heap.size,0,none⟩=some (.int .u32 fc):=(ah.cell (p:=⟨w.heap.size,0,none⟩) ap).trans x0;have bg:w2.cell? ⟨w.heap.size,1,none⟩=some (.int .u16 fn):=(ah.cell (p:=⟨w.heap.size,1,none⟩) ap).trans x1;have a9:w2.cell? ⟨w.heap.size,2,none⟩=some (.string D):=(ah.cell (p:=⟨w.heap.size,2,none⟩) ap).trans x2;have bd:w2.cell? ⟨w.heap.size,3,none⟩=some (.bool Y):=(ah.cell (p:=⟨w.heap.size,3,none⟩) ap).trans x3)|(go_at_call 114;(refine aK (ax.out _ ah trivial) ?_;rintro e w3 ⟨rfl,o'',j1,j2,j3,j4,j5⟩))|fail)
     go_end0
     obtain ⟨tail,aa,hg,ho,hn,hb,z,hk,h,J⟩:=HT.out
     have ab:=tail _ (aq.trans ah)
     have ao:∀k,(k=o.blk\/o.fm=some k)->Own nb aj ag k:=λk e=>.inr (.inr ⟨o,ho,e⟩)
     have a7:=ab.chs.swap ho j1 (by rw [j2,JG]) j3 j4 j5
     refine ⟨rfl,aj,ak,ag.map (swap o''),⟨?_,a7,?_,λk am=>ab.own k (QS ho j1 j3 am),by rw [aU];exact ab.len⟩,?_⟩
     ·refine (j5.block _ (jE ab.obj) (λe=>?_)).trans ab.obj
      exact ab.chs.kX ab.obj (by decide) (by decide) (ao _ e)
     ·refine ab.jR.trans j5 (λk a6 e=>?_)
      rcases ab.own k (ao k e) with e|e
      ·exact .inr e
      ·omega
     ·rw [<-aa]
      exact BO ab.chs ho j1 j2 hn hg
    ·go_wp2_with (first|(go_at_call 113;refine aK (ar.out ()) ?_;rintro e w2 ⟨rfl,ah⟩)|fail)
     go_end0
     obtain ⟨tail,aa,hg,ho,hn,hb,z,hk,h,J⟩:=HT.out
     refine ⟨rfl,aj,ak,ag,tail _ (aq.trans ah),?_⟩
     rw [<-aa,Fp z.chs ho hb hn hg]
theorem yM (J kb nb:Nat) (nm:AL) (os:List PC) (o:PC) (w:World) (h:Core w nb nm os) (R:o∈os) (hs:w.cell? ⟨J,0,none⟩=some (.pointer (some ⟨kb,8,none⟩))) (hk:w.cell? ⟨kb,8,none⟩=some (.map (some nb))):
  Calls PQ 106 #[ptr o.blk,.pointer (some ⟨J,0,none⟩)] w λe w'=>e=.returned (.bool (!alive nm o))/\∃m,w'=w.drewN m:=by
 have z:=qL kb nb 8 nm os o w h R hk
 unfold ptr at z⊢
 obtain ⟨b,I⟩:∃b,alive nm o=b:=⟨_,rfl⟩
 rw [I] at z⊢
 have E:Hid _:=λ(_:Unit)=>z
 clear z I h
 go_enter (fq Tryz.func106 rfl),Tryz.ntmps106
 go_wp2_with (go_at_call 104;refine aK (E.out ()) ?_;rintro e w2 ⟨rfl,m,rfl⟩)
 go_ret
 exact ⟨rfl,m,rfl⟩
theorem KR (sb kb nb:Nat) (nm:AL) (os l:List PC) (v:Value) (w:World) (h:Core w nb nm os) (hl:∀o,o∈l->o∈os) (hr:Rd w 1 v l.length (l.map λo=>ptr o.blk)) (hs:w.cell? ⟨sb,0,none⟩=some (.pointer (some ⟨kb,8,none⟩))) (hk:w.cell? ⟨kb,8,none⟩=some (.map (some nb))) (af:l.length<=4294967296):
  Calls PQ 152 #[v,.func (.func 106) #[] #[.pointer (some ⟨sb,0,none⟩)]] w λe w'=>e=.returned (.int .i64 (idx (λo=>!alive nm o) l))/\∃m,w'=w.drewN m:=by
 have eg:=enters_of (P:=PQ) (fq Tryz.func106 rfl) (by kernel_rfl) rfl
 rcases Rd.cases hr with ⟨a,cap,h0,rfl⟩|⟨g,off,cap,h0,rfl⟩
 ·obtain rfl:=bD h0
  go_enter (fq Tryz.func152 rfl),Tryz.ntmps152
  go_wp2_with fail
  go_loopg [5,8] 0 (λgg _ v8 wx=>v8=.int .i64 0/\wx=w)
  case atStart=>exact ⟨rfl,rfl⟩
  case round=>
   obtain ⟨rfl,rfl⟩:=hrel
   go_wp2_with fail
   go_ret
   exact ⟨rfl,0,rfl⟩
 ·obtain ⟨g',ac,ae,hv,_,hg,hx⟩:=hr.pos h0
  simp only [Value.slice.injEq,aC,Addr.mk.injEq,and_true,true_and] at hv
  obtain ⟨⟨rfl,rfl⟩,rfl⟩:=hv
  have z:=λ(m:Nat) (o:PC) (R:o∈l)=>yM sb kb nb nm os o (w.drewN m) (h.drewN m) (hl o R) hs hk
  have hf:∀(j m:Nat) (o:PC),l[j]? =some o->(w.drewN m).cell? ⟨g,off+j,none⟩=some (ptr o.blk):=λj m o I=>hx j _ (by rw [eX,I];rfl)
  have Hf:Hid _:=jB hf z
  clear hf z hr h hl hx hs hk
  go_enter (fq Tryz.func152 rfl),Tryz.ntmps152
  go_wp2_with fail
  go_loopg [5,8] l.length (λgg _ v8 wx=>∃i m:Nat,i<=l.length/\v8=.int .i64 i/\gg=l.length - i/\Hid (∀(j:Nat) (y:PC),j < i->l[j]? =some y->(!alive nm y)=false)/\wx=w.drewN m)
  case atStart=>exact ⟨0,0,dF _,rfl,rfl,λj y I=>by omega,rfl⟩
  case round=>
   obtain ⟨i,m,hi,rfl,rfl,Hi,rfl⟩:=hrel
   by_cases ab:i < l.length
   ·have aa:(i:Int) < (l.length:Int):=by omega
    obtain ⟨o,R⟩:∃o,l[i]? =some o:=⟨_,aG ab⟩
    have k0:=Hf.out.1 i m o R
    have J:=Hf.out.2 m o (aQ R)
    unfold ptr at k0 J
    have Ho:Hid _:=R
    obtain ⟨V,hV⟩:∃V,V=w.drewN m:=⟨_,rfl⟩
    rw [<-hV] at k0 J⊢
    cases Y:(!alive nm o)
    ·rw [Y] at J
     have Hc:Hid _:=λ(_:Unit)=>J
     have Hq:Hid _:=jB Y hV
     clear J R Y hV
     go_wp2_with (go_at_call 106;refine aK (Hc.out ()) ?_;rintro e w2 ⟨rfl,m2,rfl⟩)
     go_roundg (l.length - (i+1))
     case measure=>omega
     case rel=>
      refine ⟨i+1,m+m2,by omega,by go_num,rfl,λj y I E=>?_,?_⟩
      ·rcases jm (Nat.lt_succ_iff.1 I) with I|rfl
       ·exact Hi.out j y I E
       ·rw [Ho.out] at E
        cases E
        exact Hq.out.1
      ·rw [Hq.out.2];simp
    ·rw [Y] at J
     have Hc:Hid _:=λ(_:Unit)=>J
     have Hq:Hid _:=jB Y hV
     clear J R Y hV
     go_wp2_with (go_at_call 106;refine aK (Hc.out ()) ?_;rintro e w2 ⟨rfl,m2,rfl⟩)
     go_ret
     refine ⟨by rw [A8 Ho.out Hq.out.1 (λj y I E=>Hi.out j y I E)];rfl,m+m2,?_⟩
     rw [Hq.out.2];simp
   ·have aa:¬(i:Int) < (l.length:Int):=by omega
    go_wp2_with fail
    go_ret
    refine ⟨?_,m,rfl⟩
    rw [zU (λj y E=>Hi.out j y (by have:=(aF.1 E).1;omega) E)]
    rfl
end Hm
end Go.Proofs.YtpibpdpedjinhaaGreatDoor
