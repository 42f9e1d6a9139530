import Derived.Test.YtpibpdpedjinhaaGreatDoorU19
import Derived.RangeFuncWrites
import Derived.Shelf.RegionOpen
set_option maxRecDepth 100000
set_option maxHeartbeats 4000000
set_option linter.unusedSimpArgs false
namespace Go.Proofs.YtpibpdpedjinhaaGreatDoor
section
open Go.RowKit Go.Joins
theorem ext_list (s:ByteArray) (a b:Nat):(s.extract a b).data.toList=(s.data.toList.take b).drop a:=by
 simp [ByteArray.data_extract,Array.toList_extract,List.drop_take]
theorem qX:∀(l:List UInt8) (a k:Nat),a < 256 ^ k->Im.val l a < 256 ^ (k+l.length)
 |[],a,k,h=>h
 |x::l,a,k,h=>by
  have:=x.toNat_lt
  have h2:=qX l (256 * a+x.toNat) (k+1) (by rw [Nat.pow_succ];omega)
  simp only [Im.val,aN]
  rw [show k+(l.length+1)=k+1+l.length from by omega]
  exact h2
theorem zL (s:List UInt8) (k:Nat) (h:k < s.length):Im.val (s.take (k+1)) 0=256 * Im.val (s.take k) 0+(s.getD k 0).toNat:=by
 rw [dZ h,Im.val_append,aS,aG h]
 rfl
theorem zB (a c:Nat) (z:c < 256):(a * 256) |||c=256 * a+c:=by
 have:=Nat.two_pow_add_eq_or_of_lt (i:=8) (b:=c) (by omega) a
 rw [show a * 256=2 ^ 8 * a from by omega,<-this]
theorem below_bytesWorld {B:Nat} {w u:World} (h:Below B w u) (E:B<=u.heap.size) (e:TypeId) (s:ByteArray):Below B w (Lib.bytesWorld u e s):=
 h.trans ⟨rfl,rfl,rfl,by rw [Lib.bytesWorld_size];omega,λm z=>Lib.bytesWorld_at_old u e s m (by omega)⟩
theorem yB (l:Bool) (x y:Int) (s:ByteArray) (f:Nat) (w:World) (hs:s.size<=16777216) (hf:2<=f) (bh:f<=5):
  Calls PQ 230 #[.agg #[.bool l,.int .u8 x,.int .u8 y],.string s,.int .i64 f] w λe w'=>e=.returned (uD (Im.far l s.data.toList f))/\Below w.heap.size w w':=by
 have hl:=aV s
 have av:∀(a b:Obj),Below w.heap.size w ((w.alloc a).alloc b):=λa b=>((aB _ w).alloc jC _).alloc (by simp) _
 have ai:Hid _:=av
 clear av
 by_cases h1:s.size < f
 ·have J:Im.far l s.data.toList f=none:=by unfold Im.far;rw [<-hl,if_pos (.inl h1)]
  rw [J]
  have a9:(s.size:Int) < (f:Int):=by omega
  clear J hl
  go_enter (fq Tryz.func230 rfl),Tryz.ntmps230
  go_wp2_with fail
  exact bodyPost_ret (v:=.tuple #[.agg #[.bool false,.int .i64 0,.int .i64 0],.bool false]) (by simp [results,Tryz.results230,go_sem]) rfl ⟨rfl,ai.out _ _⟩
 ·have a9:¬(s.size:Int) < (f:Int):=by omega
  have aq:1 < s.size:=by omega
  have hx:=λu=>zx u s 1 1 aq rfl
  have ag:=getD_byte s 1 aq
  by_cases h2:s[1]=0
  ·have J:Im.far l s.data.toList f=none:=by unfold Im.far;rw [ag,if_pos (.inr h2)]
   rw [J]
   have a8:((s[1].toNat:Int) == 0)=true:=by rw [h2];rfl
   clear J hl
   go_enter (fq Tryz.func230 rfl),Tryz.ntmps230
   go_wp2_with fail
   exact bodyPost_ret (v:=.tuple #[.agg #[.bool false,.int .i64 0,.int .i64 0],.bool false]) (by simp [results,Tryz.results230,go_sem]) rfl ⟨rfl,ai.out _ _⟩
  ·have a8:((s[1].toNat:Int) == 0)=false:=by
    have:s[1].toNat≠0:=λe=>h2 (jv.1 e)
    simp
    omega
   obtain ⟨S,hS⟩:∃S:ByteArray,s.extract 1 f=S:=⟨_,rfl⟩
   have ao:S.data.toList=(s.data.toList.take f).drop 1:=by rw [<-hS,ext_list]
   have bg:S.size=f - 1:=by rw [<-hS];simp [eG];omega
   have a6:=λu:World=>Lib.run_convert_string_bytes (P:=PQ) u 9 155 5 S (uq Tryz.underlying9) (uq Tryz.underlying155) (uq Tryz.underlying5)
   have J:Im.far l s.data.toList f=if Im.val S.data.toList 0<=55 then none else Im.chk l s.data.toList f (Im.val S.data.toList 0):=by
    unfold Im.far
    rw [<-hl,ag,if_neg (by intro h;rcases h with h|h;exact h1 h;exact h2 h),ao]
   generalize Im.far l s.data.toList f=R at J⊢
   have HR:Hid _:=J
   clear J hl ao ag
   go_enter (fq Tryz.func230 rfl),Tryz.ntmps230
   go_wp2_with fail
   obtain ⟨X,hX⟩:∃X:World,X=((w.alloc (Obj.cells #[Value.bool l,Value.int IntKind.u8 x,Value.int IntKind.u8 y] 280)).alloc (Obj.cells #[Value.bool false,Value.int IntKind.i64 0,Value.int IntKind.i64 0] 311)):=⟨_,rfl⟩
   have ax:X.heap.size=w.heap.size+1+1:=by rw [hX];simp
   have a2:Below w.heap.size w X:=by rw [hX];exact ai.out _ _
   have az:X.heap[w.heap.size]? =some (.cells #[Value.bool l,Value.int IntKind.u8 x,Value.int IntKind.u8 y] 280 (0,0)):=by rw [hX,aT _ _ _ (by simp)];exact heap_alloc_new _ _
   have am:X.heap[w.heap.size+1]? =some (.cells #[Value.bool false,Value.int IntKind.i64 0,Value.int IntKind.i64 0] 311 (0,0)):=by rw [hX];have:=heap_alloc_new (w.alloc (Obj.cells #[Value.bool l,Value.int IntKind.u8 x,Value.int IntKind.u8 y] 280)) (Obj.cells #[Value.bool false,Value.int IntKind.i64 0,Value.int IntKind.i64 0] 311);simpa using this
   rw [<-hX]
   obtain ⟨Y,hY⟩:∃Y:World,Y=Lib.bytesWorld X 5 S:=⟨_,rfl⟩
   have bb:Y.heap.size=w.heap.size+3:=by rw [hY,Lib.bytesWorld_size,ax]
   have ac:Below X.heap.size X Y:=by rw [hY];exact below_bytesWorld (aB _ _) jC _ _
   have ay:∀k,k < S.size->Y.cell? ⟨w.heap.size+1+1,k,none⟩=some (.int .u8 (S.data.toList.getD k 0).toNat):=λk hk=>by rw [hY,<-ax];exact Lib.bytesWorld_cell X 5 S k hk
   rw [<-hY]
   have I:=(ac.block w.heap.size (by omega)).trans az
   have E:=(ac.block (w.heap.size+1) (by omega)).trans am
   have ab:Below w.heap.size w Y:=a2.trans (ac.mono (by omega))
   have af:=aV S
   have HY:Hid _:=jB ay (jB I (jB E ab))
   have ae:Hid _:=af
   clear hX hY ay I E ab ac az am a2 af a6 hx hS
   generalize grownCap X (f - 1) 0 5=gc
   go_loopg [8,26] (f - 1) (λg v t wx=>∃k:Nat,k<=f - 1/\t=.int .i64 k/\v=.int .u64 (Im.val (S.data.toList.take k) 0:Nat)/\g=f - 1 - k/\wx=Y)
   case atStart=>exact ⟨0,dF _,rfl,rfl,rfl,rfl⟩
   case round=>
    obtain ⟨k,hk,rfl,rfl,rfl,rfl⟩:=hrel
    have a0:Im.val (S.data.toList.take k) 0 < 4294967296:=by
     have:=qX (S.data.toList.take k) 0 0 (by simp)
     have ah:0+(S.data.toList.take k).length<=4:=by simp;omega
     have:=iH (n:=256) (by decide) ah
     omega
    by_cases bd:k < f - 1
    ·have a1:(k:Int) < ((f - 1:Nat):Int):=by omega
     have hc:=HY.out.1 k (by omega)
     generalize hb:(S.data.toList.getD k 0).toNat=b at hc
     have a4:b < 256:=by rw [<-hb];exact UInt8.toNat_lt _
     have aj:=zL S.data.toList k (by rw [<-ae.out];omega)
     rw [hb] at aj
     have ba:Im.val (S.data.toList.take k) 0 < 16777216:=by
      have:=qX (S.data.toList.take k) 0 0 (by simp)
      have ah:0+(S.data.toList.take k).length<=3:=by simp;omega
      have:=iH (n:=256) (by decide) ah
      omega
     generalize ar:Im.val (S.data.toList.take (k+1)) 0=V' at aj
     have a3:Hid _:=ar
     clear ar
     generalize Im.val (S.data.toList.take k) 0=V at *
     have Hb:Hid _:=hb
     clear hb
     go_wp2_with fail
     rw [show bits .or .u64 ((V:Int) * 256) (b:Int)=(V':Int) from by
      rw [show (V:Int) * 256=((V * 256:Nat):Int) from by omega,bits_or_u64_nat _ _ (by omega) (by omega),zB V b a4,aj]]
     go_roundg (f - 1 - (k+1))
     case measure=>omega
     case rel=>
      refine ⟨k+1,by omega,by go_num,?_,rfl,rfl⟩
      rw [a3.out]
    ·have a1:¬(k:Int) < ((f - 1:Nat):Int):=by omega
     obtain rfl:k=f - 1:=by omega
     have a5:S.data.toList.take (f - 1)=S.data.toList:=dV (by rw [<-ae.out];omega)
     rw [a5] at a0⊢
     obtain ⟨_,I,E,ab⟩:=HY.out
     generalize Im.val S.data.toList 0=V at *
     have m0:wr.cell? ⟨w.heap.size,0,none⟩=some (.bool l):=jF I rfl
     have m1:wr.cell? ⟨w.heap.size,1,none⟩=some (.int .u8 x):=jF I rfl
     have m2:wr.cell? ⟨w.heap.size,2,none⟩=some (.int .u8 y):=jF I rfl
     have r0:wr.cell? ⟨w.heap.size+1,0,none⟩=some (.bool false):=jF E rfl
     have r1:wr.cell? ⟨w.heap.size+1,1,none⟩=some (.int .i64 0):=jF E rfl
     have r2:wr.cell? ⟨w.heap.size+1,2,none⟩=some (.int .i64 0):=jF E rfl
     have fr:=aI E
     have ap:Hid _:=ab
     have a7:Hid _:=E
     clear I E ab HY
     by_cases au:V<=55
     ·have an:(V:Int)<=55:=by omega
      have J:R=none:=by rw [HR.out,if_pos au]
      have ak:Hid _:=J
      clear J HR
      go_wp2_with fail
      exact bodyPost_ret (v:=.tuple #[.agg #[.bool false,.int .i64 0,.int .i64 0],.bool false]) (by simp [results,Tryz.results230,go_sem,r0,r1,r2]) rfl ⟨by rw [ak.out];rfl,((ap.out.setCell (by simp) _).setCell (by simp) _).setCell (by simp) _⟩
     ·have an:¬(V:Int)<=55:=by omega
      have J:R=Im.chk l s.data.toList f V:=by rw [HR.out,if_neg au]
      obtain ⟨b0,f0,t0,q0,hV⟩:∃b0 f0 t0 q0,uD (Im.chk l s.data.toList f V)=.tuple #[.agg #[.bool b0,.int .i64 f0,.int .i64 t0],.bool q0]:=by
       cases Im.chk l s.data.toList f V with
       |none=>exact ⟨_,_,_,_,rfl⟩
       |some z=>exact ⟨_,_,_,_,rfl⟩
      have HV:Hid _:=hV
      have ak:Hid _:=J
      clear J HR hV
      go_wp2_with fail
      refine (Bv l x y s f V wr hs (by omega) a0).mono ?_
      rintro e w3 ⟨rfl,aw⟩
      rw [HV.out]
      have aa:=(aw.block (w.heap.size+1) (by omega)).trans a7.out
      have z0:w3.cell? ⟨w.heap.size+1,0,none⟩=some (.bool false):=jF aa rfl
      have z1:w3.cell? ⟨w.heap.size+1,1,none⟩=some (.int .i64 0):=jF aa rfl
      have z2:w3.cell? ⟨w.heap.size+1,2,none⟩=some (.int .i64 0):=jF aa rfl
      have fz:=aI aa
      have HB:Hid _:=ap.out.trans (aw.mono (by omega))
      clear r0 r1 r2 fr m0 m1 m2 aa
      go_wp2_with fail
      exact bodyPost_ret (v:=.tuple #[.agg #[.bool b0,.int .i64 f0,.int .i64 t0],.bool q0]) (by simp [results,Tryz.results230,go_sem,z0,z1,z2]) rfl ⟨by rw [ak.out,HV.out],((HB.out.setCell (by simp) _).setCell (by simp) _).setCell (by simp) _⟩
theorem Y1 (u:World):(Instr.index 306 (.agg #[.bool false,.int .u8 128,.int .u8 183,.bool true,.int .u8 192,.int .u8 247]) (.int .i64 0)).run PQ u=.ok (.agg #[.bool false,.int .u8 128,.int .u8 183]) u:=by
 simp [Instr.index,run_underlying (uq Tryz.underlying306),asIntOf,go_sem]
theorem Yv (u:World):(Instr.index 306 (.agg #[.bool false,.int .u8 128,.int .u8 183,.bool true,.int .u8 192,.int .u8 247]) (.int .i64 1)).run PQ u=.ok (.agg #[.bool true,.int .u8 192,.int .u8 247]) u:=by
 simp [Instr.index,run_underlying (uq Tryz.underlying306),asIntOf,go_sem]
theorem Dk (s:ByteArray) (w:World) (hs:s.size<=16777216) (hH:kU w):
  Calls PQ 219 #[.string s] w λe w'=>e=.returned (uD (Im.body s.data.toList))/\Below w.heap.size w w':=by
 have hl:=aV s
 have h0:=hH.pos
 have aj:=toList_empty s
 by_cases hz:s.size=0
 ·have hR:Im.body s.data.toList=none:=by
   have:s.data.toList=[]:=bD (by omega)
   rw [this]
   rfl
  rw [hR]
  have he:s.toList.isEmpty=true:=by rw [aj];simp [hz]
  clear hR hl aj
  go_enter (fq Tryz.func219 rfl),Tryz.ntmps219
  go_wp2_with fail
  exact bodyPost_ret (v:=.tuple #[.agg #[.bool false,.int .i64 0,.int .i64 0],.bool false]) (by simp [results,Tryz.results219,go_sem]) rfl ⟨rfl,(aB _ w).alloc jC _⟩
 ·have he:s.toList.isEmpty=false:=by rw [aj];simp [hz]
  have ar:0 < s.size:=by omega
  have hx:=λu=>zx u s 0 0 ar rfl
  obtain ⟨c,hc⟩:∃c:UInt8,s[0]=c:=⟨_,rfl⟩
  have a6:=c.toNat_lt
  rw [hc] at hx
  have hR:Im.body s.data.toList=if c.toNat < 128 then some (false,0,1)
  else if c.toNat<=183 then Im.chk false s.data.toList 1 (c.toNat - 128)
  else if c.toNat<=187 then Im.far false s.data.toList (1+(c.toNat - 183))
  else if c.toNat < 192 then none
  else if c.toNat<=247 then Im.chk true s.data.toList 1 (c.toNat - 192)
  else if c.toNat<=251 then Im.far true s.data.toList (1+(c.toNat - 247))
  else none:=by
   have hg:=getD_byte s 0 ar
   rw [hc] at hg
   cases hd:s.data.toList with
   |nil=>exact absurd (by rw [hl,hd];rfl) hz
   |cons a r=>
    rw [hd] at hg
    simp at hg
    subst hg
    rfl
  generalize Im.body s.data.toList=R at hR⊢
  have HR:Hid _:=hR
  clear hR hl aj hc
  generalize hn:c.toNat=n at *
  clear hn
  by_cases au:n < 128
  ·have ao:(n:Int) < 128:=by omega
   go_enter (fq Tryz.func219 rfl),Tryz.ntmps219
   go_wp2_with fail
   exact bodyPost_ret (v:=.tuple #[.agg #[.bool false,.int .i64 0,.int .i64 1],.bool true]) (by simp [results,Tryz.results219,go_sem]) rfl ⟨by rw [HR.out,if_pos au];rfl,(aB _ w).alloc jC _⟩
  ·have ao:¬(n:Int) < 128:=by omega
   have aw:=hH
   obtain ⟨⟨a0,a1,a2⟩,a3,a4,a5⟩:=aw
   simp only [fC,Nat.reduceAdd] at a1 a2 a4 a5
   obtain ⟨X,hX⟩:∃X:World,X=w.alloc (.cells #[.bool false,.int .i64 0,.int .i64 0] 311):=⟨_,rfl⟩
   have am:X.heap.size=w.heap.size+1:=by rw [hX];simp
   have ae:Below w.heap.size w X:=by rw [hX];exact (aB _ w).alloc jC _
   have Y:X.heap[w.heap.size]? =some (.cells #[.bool false,.int .i64 0,.int .i64 0] 311 (0,0)):=by rw [hX];exact heap_alloc_new _ _
   have hV:∀R':Option (Bool×Nat×Nat),∃b0 f0 t0 q0,uD R'=.tuple #[.agg #[.bool b0,.int .i64 f0,.int .i64 t0],.bool q0]:=by
    intro R'
    cases R' with
    |none=>exact ⟨_,_,_,_,rfl⟩
    |some z=>exact ⟨_,_,_,_,rfl⟩
   have ak:Hid _:=hV
   clear hV
   go_enter (fq Tryz.func219 rfl),Tryz.ntmps219
   go_wp2_with fail
   rw [<-hX]
   have HX:Hid _:=jB am (jB ae Y)
   clear hX am ae Y a0 a1 a2 a3 a4 a5
   go_loopg [16] 2 (λg t wx=>∃k:Nat,k<=2/\t=.int .i64 k/\g=2 - k/\Below (w.heap.size+1) X wx/\(1<=k->187 < n)/\(k=2->n < 192\/251 < n))
   case atStart=>exact ⟨0,dF _,rfl,rfl,aB _ _,λh=>by omega,λh=>by omega⟩
   case round=>
    obtain ⟨k,hk,rfl,rfl,hb,ap,av⟩:=hrel
    obtain ⟨am,ae,Y⟩:=HX.out
    have ac:=hb.size
    rw [am] at ac
    have J:=(hb.block w.heap.size (by omega)).trans Y
    have ah:Below w.heap.size w wr:=ae.trans (hb.mono (by omega))
    have az:=Y1
    have ay:=Yv
    match k,hk with
    |0,_=>
     have aq:=ap
     by_cases h1:128<=n/\n<=183
     ·obtain ⟨g1,g2⟩:=h1
      have hR:R=Im.chk false s.data.toList 1 (n - 128):=by rw [HR.out];repeat' first|rw [if_neg (by omega)]|rw [if_pos (by omega)]
      obtain ⟨b0,f0,t0,q0,hV⟩:=ak.out (Im.chk false s.data.toList 1 (n - 128))
      have HV:Hid _:=hV
      have ab:Hid _:=hR
      have af:Hid _:=J
      clear hR HR hV J Y
      have ai:(128:Int)<=(n:Int):=by omega
      have ag:(n:Int)<=183:=by omega
      go_wp2_with fail
      rw [show (n:Int) - 128=((n - 128:Nat):Int) from by omega]
      refine (Bv false 128 183 s 1 (n - 128) _ hs (by omega) (by omega)).mono ?_
      rintro e w3 ⟨rfl,I⟩
      have aa:Below (w.heap.size+1) X w3:=(hb.alloc ac _).trans (I.mono (by simp;omega))
      rw [HV.out]
      have E:=(I.block w.heap.size (by simp;omega)).trans ((aT _ _ _ (by omega)).trans af.out)
      have z0:w3.cell? ⟨w.heap.size,0,none⟩=some (.bool false):=jF E rfl
      have z1:w3.cell? ⟨w.heap.size,1,none⟩=some (.int .i64 0):=jF E rfl
      have z2:w3.cell? ⟨w.heap.size,2,none⟩=some (.int .i64 0):=jF E rfl
      have fz:=aI E
      have HB:Hid (Below w.heap.size w w3):=ae.trans (aa.mono (by omega))
      clear E I aa hb ah
      go_wp2_with fail
      exact bodyPost_ret (v:=.tuple #[.agg #[.bool b0,.int .i64 f0,.int .i64 t0],.bool q0]) (by simp [results,Tryz.results219,go_sem,z0,z1,z2]) rfl ⟨by rw [ab.out,HV.out],((HB.out.setCell (by simp) _).setCell (by simp) _).setCell (by simp) _⟩
     ·by_cases h2:183 < n/\n<=187
      ·obtain ⟨g1,g2⟩:=h2
       have hR:R=Im.far false s.data.toList (1+(n - 183)):=by rw [HR.out];repeat' first|rw [if_neg (by omega)]|rw [if_pos (by omega)]
       obtain ⟨b0,f0,t0,q0,hV⟩:=ak.out (Im.far false s.data.toList (1+(n - 183)))
       have HV:Hid _:=hV
       have ab:Hid _:=hR
       have af:Hid _:=J
       clear hR HR hV J Y
       have ai:(183:Int) < (n:Int):=by omega
       have ag:(n:Int)<=187:=by omega
       go_wp2_with fail
       rw [show 1+((n:Int) - 183)=((1+(n - 183):Nat):Int) from by omega]
       refine (yB false 128 183 s (1+(n - 183)) _ hs (by omega) (by omega)).mono ?_
       rintro e w3 ⟨rfl,I⟩
       have aa:Below (w.heap.size+1) X w3:=(hb.alloc ac _).trans (I.mono (by simp;omega))
       rw [HV.out]
       have E:=(I.block w.heap.size (by simp;omega)).trans ((aT _ _ _ (by omega)).trans af.out)
       have z0:w3.cell? ⟨w.heap.size,0,none⟩=some (.bool false):=jF E rfl
       have z1:w3.cell? ⟨w.heap.size,1,none⟩=some (.int .i64 0):=jF E rfl
       have z2:w3.cell? ⟨w.heap.size,2,none⟩=some (.int .i64 0):=jF E rfl
       have fz:=aI E
       have HB:Hid (Below w.heap.size w w3):=ae.trans (aa.mono (by omega))
       clear E I aa hb ah
       go_wp2_with fail
       exact bodyPost_ret (v:=.tuple #[.agg #[.bool b0,.int .i64 f0,.int .i64 t0],.bool q0]) (by simp [results,Tryz.results219,go_sem,z0,z1,z2]) rfl ⟨by rw [ab.out,HV.out],((HB.out.setCell (by simp) _).setCell (by simp) _).setCell (by simp) _⟩
      ·have h3:187 < n:=by omega
       have ai:(128:Int)<=(n:Int):=by omega
       have ag:(183:Int) < (n:Int):=by omega
       have ax:(187:Int) < (n:Int):=by omega
       clear J Y
       go_wp2_with fail
       go_roundg 1
       case measure=>omega
       case rel=>exact ⟨1,by omega,rfl,rfl,hb.alloc ac _,λ_=>h3,λh=>by omega⟩
    |1,_=>
     have aq:=ap
     have an:=ap (by omega)
     by_cases h1:192<=n/\n<=247
     ·obtain ⟨g1,g2⟩:=h1
      have hR:R=Im.chk true s.data.toList 1 (n - 192):=by rw [HR.out];repeat' first|rw [if_neg (by omega)]|rw [if_pos (by omega)]
      obtain ⟨b0,f0,t0,q0,hV⟩:=ak.out (Im.chk true s.data.toList 1 (n - 192))
      have HV:Hid _:=hV
      have ab:Hid _:=hR
      have af:Hid _:=J
      clear hR HR hV J Y
      have ai:(192:Int)<=(n:Int):=by omega
      have ag:(n:Int)<=247:=by omega
      go_wp2_with fail
      rw [show (n:Int) - 192=((n - 192:Nat):Int) from by omega]
      refine (Bv true 192 247 s 1 (n - 192) _ hs (by omega) (by omega)).mono ?_
      rintro e w3 ⟨rfl,I⟩
      have aa:Below (w.heap.size+1) X w3:=(hb.alloc ac _).trans (I.mono (by simp;omega))
      rw [HV.out]
      have E:=(I.block w.heap.size (by simp;omega)).trans ((aT _ _ _ (by omega)).trans af.out)
      have z0:w3.cell? ⟨w.heap.size,0,none⟩=some (.bool false):=jF E rfl
      have z1:w3.cell? ⟨w.heap.size,1,none⟩=some (.int .i64 0):=jF E rfl
      have z2:w3.cell? ⟨w.heap.size,2,none⟩=some (.int .i64 0):=jF E rfl
      have fz:=aI E
      have HB:Hid (Below w.heap.size w w3):=ae.trans (aa.mono (by omega))
      clear E I aa hb ah
      go_wp2_with fail
      exact bodyPost_ret (v:=.tuple #[.agg #[.bool b0,.int .i64 f0,.int .i64 t0],.bool q0]) (by simp [results,Tryz.results219,go_sem,z0,z1,z2]) rfl ⟨by rw [ab.out,HV.out],((HB.out.setCell (by simp) _).setCell (by simp) _).setCell (by simp) _⟩
     ·by_cases h2:247 < n/\n<=251
      ·obtain ⟨g1,g2⟩:=h2
       have hR:R=Im.far true s.data.toList (1+(n - 247)):=by rw [HR.out];repeat' first|rw [if_neg (by omega)]|rw [if_pos (by omega)]
       obtain ⟨b0,f0,t0,q0,hV⟩:=ak.out (Im.far true s.data.toList (1+(n - 247)))
       have HV:Hid _:=hV
       have ab:Hid _:=hR
       have af:Hid _:=J
       clear hR HR hV J Y
       have ai:(247:Int) < (n:Int):=by omega
       have ag:(n:Int)<=251:=by omega
       go_wp2_with fail
       rw [show 1+((n:Int) - 247)=((1+(n - 247):Nat):Int) from by omega]
       refine (yB true 192 247 s (1+(n - 247)) _ hs (by omega) (by omega)).mono ?_
       rintro e w3 ⟨rfl,I⟩
       have aa:Below (w.heap.size+1) X w3:=(hb.alloc ac _).trans (I.mono (by simp;omega))
       rw [HV.out]
       have E:=(I.block w.heap.size (by simp;omega)).trans ((aT _ _ _ (by omega)).trans af.out)
       have z0:w3.cell? ⟨w.heap.size,0,none⟩=some (.bool false):=jF E rfl
       have z1:w3.cell? ⟨w.heap.size,1,none⟩=some (.int .i64 0):=jF E rfl
       have z2:w3.cell? ⟨w.heap.size,2,none⟩=some (.int .i64 0):=jF E rfl
       have fz:=aI E
       have HB:Hid (Below w.heap.size w w3):=ae.trans (aa.mono (by omega))
       clear E I aa hb ah
       go_wp2_with fail
       exact bodyPost_ret (v:=.tuple #[.agg #[.bool b0,.int .i64 f0,.int .i64 t0],.bool q0]) (by simp [results,Tryz.results219,go_sem,z0,z1,z2]) rfl ⟨by rw [ab.out,HV.out],((HB.out.setCell (by simp) _).setCell (by simp) _).setCell (by simp) _⟩
      ·have h3:n < 192\/251 < n:=by omega
       clear J Y
       rcases h3 with h3|h3
       ·have ai:(n:Int) < 192:=by omega
        have ag:(n:Int)<=247:=by omega
        go_wp2_with fail
        go_roundg 0
        case measure=>omega
        case rel=>exact ⟨2,by omega,rfl,rfl,hb.alloc ac _,λ_=>an,λ_=>by omega⟩
       ·have ai:(192:Int)<=(n:Int):=by omega
        have ag:(247:Int) < (n:Int):=by omega
        have ax:(251:Int) < (n:Int):=by omega
        go_wp2_with fail
        go_roundg 0
        case measure=>omega
        case rel=>exact ⟨2,by omega,rfl,rfl,hb.alloc ac _,λ_=>an,λ_=>by omega⟩
    |2,_=>
     have aq:=av rfl
     have hR:R=none:=by rw [HR.out];repeat' first|rw [if_neg (by omega)]|split|rfl|omega
     have ab:Hid _:=hR
     have z0:wr.cell? ⟨w.heap.size,0,none⟩=some (.bool false):=jF J rfl
     have z1:wr.cell? ⟨w.heap.size,1,none⟩=some (.int .i64 0):=jF J rfl
     have z2:wr.cell? ⟨w.heap.size,2,none⟩=some (.int .i64 0):=jF J rfl
     have fz:=aI J
     have HB:Hid _:=ah
     clear J Y hR HR hb ah
     go_wp2_with fail
     exact bodyPost_ret (v:=.tuple #[.agg #[.bool false,.int .i64 0,.int .i64 0],.bool false]) (by simp [results,Tryz.results219,go_sem,z0,z1,z2]) rfl ⟨by rw [ab.out];rfl,((HB.out.setCell (by simp) _).setCell (by simp) _).setCell (by simp) _⟩
end
section
open Go.RowKit Go.Joins Go.Shelf
attribute [local go_sem] Oper.semAt_some
variable {u0 u1 u2 c0 c1 c2:Value} {t:TypeId} {wr w3:World} {n lo:Nat} {i:Im.It}
def Sv:Go.Shelf.Ren:=⟨fun|316=>198|n=>n,fun|0=>0|3=>3|4=>4|5=>5|9=>9|37=>155|127=>239|n=>n,fun|n=>n⟩
theorem GI:Go.Proofs.LaysM.n316 PQ Sv:={
 mixed:=by kernel_rfl
 f316:=(fq Tryz.func198 rfl).trans (congrArg some (by kernel_rfl))
 t0:=(uq Tryz.underlying0)
 a0:=(uf Tryz.isAgg0)
 z0:=(tH Tryz.sizeOf0)
 v0:=(tN Tryz.zeroValue0)
 t3:=(uq Tryz.underlying3)
 a3:=(uf Tryz.isAgg3)
 z3:=(tH Tryz.sizeOf3)
 v3:=(tN Tryz.zeroValue3)
 t4:=(uq Tryz.underlying4)
 a4:=(uf Tryz.isAgg4)
 z4:=(tH Tryz.sizeOf4)
 v4:=(tN Tryz.zeroValue4)
 t5:=(uq Tryz.underlying5)
 a5:=(uf Tryz.isAgg5)
 z5:=(tH Tryz.sizeOf5)
 v5:=(tN Tryz.zeroValue5)
 t9:=(uq Tryz.underlying9)
 a9:=(uf Tryz.isAgg9)
 z9:=(tH Tryz.sizeOf9)
 v9:=(tN Tryz.zeroValue9)
 t37:=(uq Tryz.underlying155)
 a37:=(uf Tryz.isAgg155)
 z37:=(tH Tryz.sizeOf155)
 v37:=(tN Tryz.zeroValue155)
 t127:=(uq Tryz.underlying239)
 a127:=(uf Tryz.isAgg239)
 z127:=(tH Tryz.sizeOf239)
 v127:=(tN Tryz.zeroValue239)
 i0:=by kernel_rfl
 i3:=by kernel_rfl
 i4:=by kernel_rfl
 i5:=by kernel_rfl
 i9:=by kernel_rfl
 i37:=by kernel_rfl
 i127:=by kernel_rfl }
theorem clone_any (s:ByteArray) (w:World) (hs:s.size<=16777216):Calls PQ 151 #[.string s] w λe w'=>e=.returned (.string s)/\Below w.heap.size w w':=by
 go_enter (fq Tryz.func151 rfl),Tryz.ntmps151
 go_wp2_with fail
 refine (Any.stringslite_Clone (ρ:=Sv) GI s w (by omega)).mono ?_
 rintro e w1 ⟨rfl,z⟩
 go_wp2_with fail
 go_ret
 exact ⟨rfl,z⟩
def Got (n lo:Nat) (w':World) (e:Ending):Option (Im.It×Nat)->Prop
 |none=>e=.returned (.tuple #[.agg #[.bool false,.string ⟨#[]⟩,.slice none 0 0],.int .i64 0,.bool false])
 |some x=>∃a cap,e=.returned (.tuple #[.agg #[.bool x.1.list,.string ⟨x.1.bytes.toArray⟩,.slice a x.1.kids.length cap],.int .i64 x.2,.bool true])/\Tr w' n lo w'.heap.size (.bool x.1.list) (.string ⟨x.1.bytes.toArray⟩) (.slice a x.1.kids.length cap) x.1
def FirstSaid (d:Nat):Prop:=∀(s:ByteArray) (z:Nat) (w:World),s.size<=16777216->z+d=9->kU w->
  Calls PQ 206 #[.string s,.int .i64 z] w λe w'=>Got (d+1) w.heap.size w' e (Im.read Im.body d s.data.toList)/\Below w.heap.size w w'
structure X where
 e:Nat
 i:Im.It
 a:Option Addr
 cap:Nat
def X.encs (x:X):Array Value:=#[.int .i64 x.e,.agg #[.bool x.i.list,.string ⟨x.i.bytes.toArray⟩,.slice x.a x.i.kids.length x.cap]]
def qH (l:List X):Nat:=l.foldl (λ_ x=>x.e) 0
theorem ny (l:List X) (x:X):qH (l++[x])=x.e:=by simp [qH]
def XY (n:Nat) (z:List X) (x:X) (lo:Nat) (W:World):Prop:=z.length < 16777216/\Tr W n lo W.heap.size (.bool x.i.list) (.string ⟨x.i.bytes.toArray⟩) (.slice x.a x.i.kids.length x.cap) x.i
theorem XY.turn (n:Nat) (z:List X) (x:X) (lo:Nat) (W E:World) (h:∀k,lo<=k->E.heap[k]? =W.heap[k]?) (hs:E.heap.size=W.heap.size) (I:XY n z x lo W):XY n z x lo E:=by
 refine ⟨I.1,?_⟩
 rw [hs]
 exact Tr.kept n _ _ _ _ _ _ (λk J _=>h k J) I.2
def Done (d:Nat) (s:ByteArray) (xs:List X):Prop:=∃p,Im.mJ (Im.read Im.body d) s.data.toList (xs.map X.i) p/\qH xs=p/\(s.size<=p\/p < s.size/\Im.read Im.body d (s.data.toList.drop p)=none)
def Left (d:Nat) (s:ByteArray) (xs:List X):Prop:=∃p,Im.mJ (Im.read Im.body d) s.data.toList (xs.map X.i) p/\qH xs=p
theorem K3.Fe (w:World) (x y z:Value) (t:TypeId):K3 (w.alloc (.cells #[x,y,z] t)) w.heap.size 0 x y z:=⟨by simp,by simp,by simp⟩
theorem K3.abA {w:World} {b:Nat} (h:w.heap[b]? =some (.cells #[u0,u1,u2] t (0,0))) (x y z:Value):K3 (((w.setCell ⟨b,0,none⟩ x).setCell ⟨b,1,none⟩ y).setCell ⟨b,2,none⟩ z) b 0 x y z:=by
 have E:=block_setCell h (i:=0) x
 have h2:=block_setCell E (i:=1) y
 have h3:=block_setCell h2 (i:=2) z
 refine ⟨?_,?_,?_⟩<;>rw [aA h3]<;>simp
theorem EU (E:Below wr.heap.size wr w3) (ht:Tr w3 n lo w3.heap.size c0 c1 c2 i) (z:wr.heap.size<=lo) (t:TypeId):
  Below wr.heap.size wr (w3.alloc (.cells #[c0,c1,c2] t))/\K3 (w3.alloc (.cells #[c0,c1,c2] t)) w3.heap.size 0 c0 c1 c2/\Tr (w3.alloc (.cells #[c0,c1,c2] t)) n wr.heap.size (w3.alloc (.cells #[c0,c1,c2] t)).heap.size c0 c1 c2 i:=
 ⟨E.alloc E.size _,K3.Fe _ _ _ _ _,Tr.wider (Tr.kept n _ _ _ _ _ _ (λ_ _ I=>aT _ _ _ I) ht) z (by simp)⟩
theorem Oa (E:Below wr.heap.size wr w3) (ht:Tr w3 n lo w3.heap.size c0 c1 c2 i) (z:wr.heap.size < lo) (I:w3.heap[wr.heap.size]? =some (.cells #[u0,u1,u2] t (0,0))):
  Below wr.heap.size wr (((w3.setCell ⟨wr.heap.size,0,none⟩ c0).setCell ⟨wr.heap.size,1,none⟩ c1).setCell ⟨wr.heap.size,2,none⟩ c2)/\K3 (((w3.setCell ⟨wr.heap.size,0,none⟩ c0).setCell ⟨wr.heap.size,1,none⟩ c1).setCell ⟨wr.heap.size,2,none⟩ c2) wr.heap.size 0 c0 c1 c2/\Tr (((w3.setCell ⟨wr.heap.size,0,none⟩ c0).setCell ⟨wr.heap.size,1,none⟩ c1).setCell ⟨wr.heap.size,2,none⟩ c2) n wr.heap.size (((w3.setCell ⟨wr.heap.size,0,none⟩ c0).setCell ⟨wr.heap.size,1,none⟩ c1).setCell ⟨wr.heap.size,2,none⟩ c2).heap.size c0 c1 c2 i:=
 ⟨((E.setCell jC _).setCell jC _).setCell jC _,K3.abA I _ _ _,Tr.wider (Tr.kept n _ _ _ _ _ _ (λ_ J _=>by
  rw [aP _ _ _ _ (by simp;omega),aP _ _ _ _ (by simp;omega),aP _ _ _ _ (by simp;omega)]) ht) (by omega) (by simp [World.setCell])⟩
theorem BQ (d:Nat) (hf:FirstSaid d) (s:ByteArray) (ab sB dB:Nat) (w:World) (hs:s.size<=16777216) (bg:ab+d=9) (hH:kU w) (h0:1 < w.heap.size)
  (aw:w.cell? ⟨sB,0,none⟩=some (.string s)) (az:w.cell? ⟨dB,0,none⟩=some (.int .i64 ab)) (bb:sB < w.heap.size) (hdl:dB < w.heap.size):
  Gives PQ 205 #[.pointer (some ⟨sB,0,none⟩),.pointer (some ⟨dB,0,none⟩)] X.encs (λk=>k=1\/k=sB\/k=dB) (XY (d+1)) (Done d s) (Left d s) w:=by
 intro l J Jx W hW au av
 have Hf:Hid _:=hf
 have HY:Hid _:=au
 have a9:Hid _:=av
 clear hf au av
 refine callsIn_of_wp (fq Tryz.func205 rfl) rfl trivial ?_ rfl
 simp only [Tryz.ntmps205,dL,aN,bM,Nat.reduceAdd,Nat.reduceSub,cO,bZ,dN,cZ,dM,dH]
 gi_wp2
 gi_loopw [4] (λt wr=>∃(E:List X) (W0:World) (p:Nat),t=.int .i64 p/\Hid (Im.mJ (Im.read Im.body d) s.data.toList (E.map X.i) p/\qH E=p/\p<=s.size/\E.length<=p/\J E W0/\Below W0.heap.size W0 wr/\kU wr/\sB < wr.heap.size/\dB < wr.heap.size)/\wr.cell? ⟨sB,0,none⟩=some (.string s)/\wr.cell? ⟨dB,0,none⟩=some (.int .i64 ab))
  (λt wr=>s.size - (intOf t).toNat)
 case atStart=>
  have:=hW.size
  exact ⟨[],W,0,rfl,⟨Im.mJ.nil,rfl,dF _,jC,a9.out,aB _ _,hH.below hW h0,by omega,by omega⟩,(hW.cell (p:=⟨sB,0,none⟩) bb).trans aw,(hW.cell (p:=⟨dB,0,none⟩) hdl).trans az⟩
 case round=>
  obtain ⟨E,W0,p,rfl,Hr,c0,c1⟩:=hrel
  clear aw az
  by_cases an:p < s.size
  ·have a7:(p:Int) < (s.size:Int):=by omega
   have bd:(s.extract p s.size).size<=16777216:=by simp;omega
   have ak:(s.extract p s.size).data.toList=s.data.toList.drop p:=by rw [ext_list,dV (by rw [<-aV];omega)]
   have I:=λ(W:World) (hW:Below wr.heap.size wr W)=>Hf.out (s.extract p s.size) ab W bd bg (Hr.out.2.2.2.2.2.2.1.below hW Hr.out.2.2.2.2.2.2.1.pos)
   have z:=aB wr.heap.size wr
   obtain ⟨_,_,_,_,_,_,_,bh,ba⟩:=Hr.out
   have bm:sB≠wr.heap.size:=by omega
   have bo:dB≠wr.heap.size:=by omega
   rw [ak] at I
   generalize hC:Im.read Im.body d (s.data.toList.drop p)=C at I
   have ac:Hid _:=I
   have HC:Hid _:=hC
   clear I hC ak
   gi_wp2
   refine wpIn_wide.2 ?_
   cases C with
   |none=>
    go_cut [5,6,7] (λv5 v6 v7 wx=>v7=.bool false/\Below wr.heap.size wr wx)
    case first=>
     go_region_with (go_at_call 206;refine (ac.out _ ?_).mono ?_;(first|exact z|exact z.drew|exact below_drewN z _|exact z.alloc jC _|exact below_drewN (z.alloc jC _) _|exact (below_drewN z _).alloc jC _);rintro e w3 ⟨ao,ae⟩;obtain rfl:=ao;have R:Below wr.heap.size wr w3:=Below.trans (by first|exact z|exact z.drew|exact below_drewN z _|exact z.alloc jC _|exact below_drewN (z.alloc jC _) _|exact (below_drewN z _).alloc jC _) (ae.mono (by simp));(try (have hz:w3.heap[wr.heap.size]? =some (.cells #[.bool false,.string ⟨#[]⟩,.slice none 0 0] 103 (0,0)):=(ae.block wr.heap.size (by simp)).trans (by first|exact heap_alloc_new _ _|(have:=heap_alloc_new (wr.drewN 0) (.cells #[.bool false,.string ⟨#[]⟩,.slice none 0 0] 103);simpa using this));have z0:w3.cell? ⟨wr.heap.size,0,none⟩=some (.bool false):=(by rw [aA hz];rfl);have z1:w3.cell? ⟨wr.heap.size,1,none⟩=some (.string ⟨#[]⟩):=(by rw [aA hz];rfl);have z2:w3.cell? ⟨wr.heap.size,2,none⟩=some (.slice none 0 0):=(by rw [aA hz];rfl);have fz:=aI hz)))
     all_goals
      go_wp2_with fail
      go_meet
      refine ⟨rfl,?_⟩
      first
       |exact R.alloc R.size _
       |exact below_drewN (R.alloc R.size _) _
       |exact ((R.setCell jC _).setCell jC _).setCell jC _
       |exact below_drewN (((R.setCell jC _).setCell jC _).setCell jC _) _
    case rest=>
     obtain ⟨rfl,aa⟩:=hcut
     gi_wp2
     refine bodyPost_ret (results_none rfl _ _ _) rfl ?_
     obtain ⟨he,ah,ax,ay,hJ,Y,ag,_,_⟩:=Hr.out
     exact ⟨⟨_,rfl⟩,.inl ⟨E,W0,⟨p,he,ah,.inr ⟨an,HC.out⟩⟩,hJ,Y.trans (aa.mono Y.size)⟩⟩
   |some x=>
    obtain ⟨i,n⟩:=x
    have am:=Im.qP Im.oq d _ _ _ HC.out
    rw [dP,<-aV] at am
    have bq:1<=n:=am.1
    have bl:p+n<=s.size:=by omega
    clear am
    obtain ⟨IB,ap⟩:∃IB:ByteArray,(⟨i.bytes.toArray⟩:ByteArray)=IB:=⟨_,rfl⟩
    go_cut [5,6,7] (λv5 v6 v7 wx=>∃(b:Nat) (a:Option Addr) (cap:Nat),v5=.pointer (some ⟨b,0,none⟩)/\v6=.int .i64 n/\v7=.bool true/\Below wr.heap.size wr wx/\K3 wx b 0 (.bool i.list) (.string IB) (.slice a i.kids.length cap)/\Tr wx (d+1) wr.heap.size wx.heap.size (.bool i.list) (.string IB) (.slice a i.kids.length cap) i)
    case first=>
     go_region_with (go_at_call 206;refine (ac.out _ ?_).mono ?_;(first|exact z|exact z.drew|exact below_drewN z _|exact z.alloc jC _|exact below_drewN (z.alloc jC _) _|exact (below_drewN z _).alloc jC _);rintro e w3 ⟨ao,ae⟩;obtain ⟨a3,aj,rfl,ai⟩:=ao;simp only at ai⊢;rw [ap] at ai⊢;have ar:Hid (Tr _ _ _ _ _ _ _ _):=ai;clear ai;have R:Below wr.heap.size wr w3:=Below.trans (by first|exact z|exact z.drew|exact below_drewN z _|exact z.alloc jC _|exact below_drewN (z.alloc jC _) _|exact (below_drewN z _).alloc jC _) (ae.mono (by simp));(try (have hz:w3.heap[wr.heap.size]? =some (.cells #[.bool false,.string ⟨#[]⟩,.slice none 0 0] 103 (0,0)):=(ae.block wr.heap.size (by simp)).trans (by first|exact heap_alloc_new _ _|(have:=heap_alloc_new (wr.drewN 0) (.cells #[.bool false,.string ⟨#[]⟩,.slice none 0 0] 103);simpa using this));have z0:w3.cell? ⟨wr.heap.size,0,none⟩=some (.bool false):=(by rw [aA hz];rfl);have z1:w3.cell? ⟨wr.heap.size,1,none⟩=some (.string ⟨#[]⟩):=(by rw [aA hz];rfl);have z2:w3.cell? ⟨wr.heap.size,2,none⟩=some (.slice none 0 0):=(by rw [aA hz];rfl);have fz:=aI hz)))
     all_goals
      go_wp2_with fail
      go_meet
      first
       |exact ⟨_,a3,aj,rfl,rfl,rfl,EU R ar.out (by simp) _⟩
       |exact ⟨_,a3,aj,rfl,rfl,rfl,Oa R ar.out (by simp) hz⟩
    case rest=>
     obtain ⟨b,a,cap,rfl,rfl,rfl,aa,⟨k0,k1,k2⟩,af⟩:=hcut
     rw [fC] at k1 k2
     rw [<-ap] at af
     obtain ⟨he,ah,ax,ay,hJ,Y,ag,_,_⟩:=Hr.out
     have a8:=Y.trans (aa.mono Y.size)
     obtain ⟨fn,tmps,assign,body,hy,hR⟩:=HY.out E ⟨p+n,i,a,cap⟩ W0 wc hJ a8 ⟨by omega,af.wider Y.size jC⟩
     simp only [X.encs,Int.natCast_add] at hy
     rw [ap] at hy
     have HR:Hid _:=hR
     have br:Hid _:=af
     clear hR af
     have bn:(p:Int)+(n:Int)<=16777216:=by omega
     gi_wp2
     refine RoundIn.mono HR.out ?_
     rintro e W3 (⟨rfl,bk,bp,aq⟩|⟨rfl,a6⟩)
     ·gi_wp2
      go_roundw
      case rel=>
       have q0:=aq 1 (.inl rfl)
       have q1:=aq sB (.inr (.inl rfl))
       have q2:=aq dB (.inr (.inr rfl))
       have s5:=aa.size
       have bj:=ag.below aa ag.pos
       refine ⟨E++[⟨p+n,i,a,cap⟩],W3,p+n,by simp,⟨?_,ny _ _,bl,by simp;omega,bk,aB _ _,?_,by omega,by omega⟩,?_,?_⟩
       ·rw [aY]
        exact Im.mJ.snoc he (by rw [<-aV];exact an) HC.out
       ·obtain ⟨⟨a0,a1,a2⟩,a3,a4,a5⟩:=bj
        exact ⟨⟨(World.cell?_of_block q0).trans a0,(World.cell?_of_block q0).trans a1,(World.cell?_of_block q0).trans a2⟩,(World.cell?_of_block q0).trans a3,(World.cell?_of_block q0).trans a4,(World.cell?_of_block q0).trans a5⟩
       ·exact (World.cell?_of_block q1).trans ((aa.cell (p:=⟨sB,0,none⟩) bh).trans c0)
       ·exact (World.cell?_of_block q2).trans ((aa.cell (p:=⟨dB,0,none⟩) ba).trans c1)
      case measure=>simp [intOf];omega
     ·gi_wp2
      refine bodyPost_ret (results_none rfl _ _ _) rfl ?_
      refine ⟨⟨_,rfl⟩,.inr ⟨E++[⟨p+n,i,a,cap⟩],W3,⟨p+n,?_,ny _ _⟩,a6,aB _ _⟩⟩
      rw [aY]
      exact Im.mJ.snoc he (by rw [<-aV];exact an) HC.out
  ·have a7:¬(p:Int) < (s.size:Int):=by omega
   gi_wp2
   go_end0
   obtain ⟨he,ah,ax,ay,hJ,Y,ag,_,_⟩:=Hr.out
   exact ⟨⟨_,rfl⟩,.inl ⟨E,⟨p,he,ah,.inl (by omega)⟩,W0,hJ,Y⟩⟩
end
section
open Go.RowKit Go.Joins
section
variable {w w' A B:World} {n lo base e k g cap size:Nat} {v:Value} {ks:List Im.It} {row:Option Nat} {xs:List Value}
theorem Tr.JQ:∀(n lo z:Nat) (c0 E J:Value) (i:Im.It),(∀k o,lo<=k->k < z->w.heap[k]? =some o->o.isCells=true->w'.heap[k]? =some o)->Tr w n lo z c0 E J i->Tr w' n lo z c0 E J i
 |0,_,_,_,_,_,_,_,h=>h
 |n+1,lo,z,c0,E,J,i,hk,h=>by
  obtain ⟨h0,xs,L,H,h1,h2,h3,h4,h5⟩:=h
  refine ⟨h0,xs,L,H,⟨h1.1,?_⟩,h2,h3,h4,λj hj=>?_⟩
  ·rcases h1.2 with hz|⟨g,cap,I,hv,Y,hh,r⟩
   ·exact .inl hz
   ·exact .inr ⟨g,cap,I,hv,Y,hk g _ Y (h2 g (by rw [hv];rfl)) hh rfl,r⟩
  ·obtain ⟨d0,d1,R,e0,e1,e2,e3⟩:=h5 j hj
   have:=h3 j hj
   exact ⟨d0,d1,R,e0,e1,e2,Tr.JQ n (L j) (H j) d0 d1 R _ (λk o a b=>hk k o (by omega) (by omega)) e3⟩
theorem Row.JQ {z:Nat} (h:Row w n lo z v ks) (hk:∀k o,lo<=k->k < z->w.heap[k]? =some o->o.isCells=true->w'.heap[k]? =some o):Row w' n lo z v ks:=
 (Tr.JQ (n+1) lo z (.bool true) (.string ⟨#[]⟩) v ⟨true,[],ks⟩ hk ⟨⟨rfl,rfl⟩,h⟩).2
theorem kN (J:A.grownBy B row) (I:∀r,row=some r->∃o:Obj,A.heap[r]? =some o/\o.isCells=false):∀(k:Nat) (o:Obj),A.heap[k]? =some o->o.isCells=true->B.heap[k]? =some o:=by
 intro k o hk E
 refine (J.block k (jE hk) (λe=>?_)).trans hk
 obtain ⟨o',z,h2⟩:=I k e.symm
 rw [hk] at z
 cases z
 rw [E] at h2
 cases h2
theorem Row.turn (h:Row A n lo A.heap.size v ks) (z:A.grownBy B row) (E:∀r,row=some r->∃o:Obj,A.heap[r]? =some o/\o.isCells=false):Row B n lo B.heap.size v ks:=
 (h.JQ (λk o _ _=>kN z E k o)).wider jC z.size
theorem Tr.turn {c0 I z:Value} {i:Im.It} (h:Tr A n lo A.heap.size c0 I z i) (E:A.grownBy B row) (J:∀r,row=some r->∃o:Obj,A.heap[r]? =some o/\o.isCells=false):Tr B n lo B.heap.size c0 I z i:=
 (Tr.JQ n _ _ _ _ _ _ (λk o _ _=>kN E J k o) h).wider jC E.size
theorem Dn {F:Fence} {P:Program} {o:Oper} {a:Act} {K:Act->World->Prop} {Q:Exit->Act->World->Prop} {s x:Operand} {t:TypeId} {u v':Value} (hw:Bool) (z:hw=true)
  (J:o.op=.call { callee:=.builtin .append,args:=#[s,x],argTypes:=#[t,t] }) (hs:a.eval s=v) (hx:a.eval x=u) (Y:(Builtin.append_ #[t,t] o.type #[v,u]).run P w=.ok v' w') (R:K (a.put o.dst v') w') {E:Prop}:
  if hw=true then Oper.wpIn F n P o a w K Q else E:=by
 rw [if_pos z]
 unfold Oper.wpIn
 refine ⟨?_,?_⟩
 ·simp [Oper.about,J,resolve,Target.leads,Sem.run_pure]
 ·rw [Oper.semAt_plain F _ _ (by rw [J];intro c I;cases I)]
  simp [execOp,J,resolve,invoke,builtin,hs,hx,Y,Result.andThen]
  exact R
theorem Tf {z0 z1 z2:Value} (h:w.ownsRow base e 3 (.slice (some ⟨g,0,none⟩) (k+1) cap) (k+1) (xs++[z0,z1,z2])) (J:xs.length=k * 3) (d0 d1 R:Value):
  (((w.setCell ⟨g,k * 3,none⟩ d0).setCell ⟨g,k * 3+1,none⟩ d1).setCell ⟨g,k * 3+2,none⟩ R).ownsRow base e 3 (.slice (some ⟨g,0,none⟩) (k+1) cap) (k+1) (xs++[d0,d1,R]):=by
 refine ⟨by simp [J];omega,?_⟩
 rcases h.2 with ⟨h1,_⟩|⟨g',ab,z,hv,hb,hh,E,Y,I,ht⟩
 ·simp at h1
 ·simp only [Value.slice.injEq,aC,Addr.mk.injEq,and_true,true_and] at hv
  obtain ⟨rfl,rfl⟩:=hv
  have a1:=block_setCell hh (i:=k * 3) d0
  have a2:=block_setCell a1 (i:=k * 3+1) d1
  have a3:=block_setCell a2 (i:=k * 3+2) R
  refine .inr ⟨g,cap,_,rfl,hb,a3,E,Y,by simp [I],?_⟩
  have ac:(k+1) * 3<=z.toList.length:=by rw [jk,I];exact fD 3 E
  have aa:z.toList.take (k * 3)=xs:=by
   have:=congrArg (List.take (k * 3)) ht
   rw [List.take_take,fO (by omega)] at this
   rw [this,<-J]
   simp
  apply List.ext_getElem?
  intro i
  simp only [Array.toList_setIfInBounds,gG]
  by_cases h3:i < (k+1) * 3
  ·rw [if_pos h3]
   by_cases hi:i < k * 3
   ·rw [bP (by omega),<-aa,gG,if_pos hi]
    simp only [iK]
    rw [if_neg (by omega),if_neg (by omega),if_neg (by omega)]
   ·rw [bK (by omega),J]
    simp only [iK,List.length_set]
    rcases (by omega:i=k * 3\/i=k * 3+1\/i=k * 3+2) with rfl|rfl|rfl
    ·rw [if_neg (by omega),if_neg (by omega),if_pos rfl,if_pos (by omega),Nat.sub_self];rfl
    ·rw [if_neg (by omega),if_pos rfl,if_pos (by omega),show k * 3+1 - k * 3=1 from by omega];rfl
    ·rw [if_pos rfl,if_pos (by omega),show k * 3+2 - k * 3=2 from by omega];rfl
  ·rw [if_neg h3,List.getElem?_eq_none (by simp [J];omega)]
theorem MJ (h:w.ownsRow base e size v k xs) (hk:0 < k):∃g cap,v=.slice (some ⟨g,0,none⟩) k cap:=by
 rcases h.2 with ⟨_,E⟩|⟨g,cap,z,rfl,_⟩
 ·omega
 ·exact ⟨g,cap,rfl⟩
theorem AP (h:w.ownsRow base e size v k xs):∃a cap,v=.slice a k cap:=by
 rcases h.2 with ⟨rfl,E⟩|⟨g,cap,z,rfl,_⟩
 ·exact ⟨none,0,by rw [E]⟩
 ·exact ⟨_,cap,rfl⟩
theorem Lr (h:w.ownsRow base e size v k xs) (g:Nat) (o:Obj) (z:v.ownBlock=some g) (E:w.heap[g]? =some o):o.isCells=true:=by
 rcases h.2 with ⟨rfl,R⟩|⟨g',cap,I,rfl,_,J,_⟩
 ·simp [Value.ownBlock] at z
 ·simp [Value.ownBlock] at z
  subst z
  rw [J] at E
  cases E
  rfl
theorem xB (b n:Nat):(⟨b,0,none⟩:Addr).add n=⟨b,n,none⟩:=by
 unfold Addr.add
 split
 ·rename_i h;subst h;rfl
 ·simp
theorem vJ {l j:Nat} (h:w.ownsRow base e size (.slice (some ⟨g,0,none⟩) l cap) k xs):w.frozen? ⟨g,j,none⟩=false:=by
 rcases h.2 with ⟨R,_⟩|⟨g',E,I,z,Y,J,_⟩
 ·simp at R
 ·simp only [Value.slice.injEq,aC,Addr.mk.injEq,and_true] at z
  obtain ⟨rfl,_⟩:=z
  exact aI J j
end
end
section
open Go.RowKit Go.Joins Go.Shelf
attribute [local go_sem] Oper.semAt_some
variable {g B:Nat} {v:Value}
theorem Ak (s:ByteArray) (z:Int) (w:World):
  Calls PQ 174 #[.string s,.int .i64 z] w λe w'=>e=.returned (.func (.func 205) #[] #[.pointer (some ⟨w.heap.size,0,none⟩),.pointer (some ⟨w.heap.size+1,0,none⟩)])/\w'=(w.alloc (.cells #[.string s] 9)).alloc (.cells #[.int .i64 z] 3):=by
 go_enter (fq Tryz.func174 rfl),Tryz.ntmps174
 go_wp2_with fail
 go_ret
 exact ⟨rfl,rfl⟩
def Rx (n lo:Nat) (w':World) (e:Ending):Option (List Im.It)->Prop
 |none=>e=.returned (.tuple #[.slice none 0 0,.bool false])
 |some ks=>∃a cap,e=.returned (.tuple #[.slice a ks.length cap,.bool true])/\Row w' n lo w'.heap.size (.slice a ks.length cap) ks
def WI (d E:Nat) (w:World) (z:List X) (W:World):Prop:=
 (∃v,Boxed W E 101 v/\Row W (d+1) (E+4) W.heap.size v (z.map X.i))/\Boxed W (E+1) 3 (.int .i64 (qH z))/\Below E w W/\E+4<=W.heap.size
theorem WI.own (d I:Nat) (w:World):OwnFrom (I+4) (WI d I w):=by
 rintro J A B row ⟨⟨v,R,h2⟩,h3,h4,Y⟩ z E
 refine ⟨⟨v,R.kept z (λe=>?_),h2.turn z (λr e=>(E r e).2)⟩,h3.kept z (λe=>?_),h4.grown z (by omega) (λk e=>by have:=(E k e).1;omega),by have:=z.size;omega⟩
 ·have:=(E _ e.symm).1;omega
 ·have:=(E _ e.symm).1;omega
theorem rD (w:World) {a b:Addr} (x y:Value) (h:a.block≠b.block):(w.setCell a x).setCell b y=(w.setCell b y).setCell a x:=by
 have e:∀(A:Array Obj) (f g:Obj->Obj) (i j:Nat),i≠j->(A.modify i f).modify j g=(A.modify j g).modify i f:=by
  intro A f g i j z
  apply fP
  intro k
  simp only [bI]
  by_cases E:i=k
  ·subst E
   rw [if_neg (Ne.symm z)]
   simp [Ne.symm z]
  ·by_cases h2:j=k
   ·subst h2
    simp [E]
   ·simp [E,h2]
 simp only [World.setCell]
 rw [e _ _ _ _ _ h]
theorem BZ (w:World) {i:Nat} (x y z u:Value) (h:B≠g):(((w.setCell ⟨B,0,none⟩ u).setCell ⟨g,i,none⟩ x).setCell ⟨g,i+1,none⟩ y).setCell ⟨g,i+2,none⟩ z=(((w.setCell ⟨g,i,none⟩ x).setCell ⟨g,i+1,none⟩ y).setCell ⟨g,i+2,none⟩ z).setCell ⟨B,0,none⟩ u:=by
 rw [rD w u x h,rD _ u y h,rD _ u z h]
theorem kW {W:World} {t:TypeId} (h:Boxed W B t v) (a:Addr) (x:Value) (z:B≠a.block):Boxed (W.setCell a x) B t v:=(aP _ _ _ _ z).trans h
theorem Pz {w Y W1 G U w' F:World} {d E I:Nat} {z:List X} {x:X} {xs:List Value} {L H:Nat->Nat} {c0 c1 c2 z0 z1 z2:Value} {N:Nat} (h0:1 < E)
  (ao:Below E w Y) (aq:E+4<=Y.heap.size) (b0:Boxed Y E 101 v) (b1:Boxed Y (E+1) 3 (.int .i64 (qH z)))
  (q1:Y.ownsRow (E+4) 103 3 v z.length xs)
  (q3:∀j,j < (z.map X.i).length->E+4<=L j/\L j<=H j/\H j<=Y.heap.size/\(∀g,v.ownBlock=some g->g < L j\/H j<=g)) (q4:∀a b,a < b->b < (z.map X.i).length->H a<=L b)
  (q5:∀(j:Nat) (hj:j < (z.map X.i).length),∃d0 d1 d2,xs[j * 3]? =some d0/\xs[j * 3+1]? =some d1/\xs[j * 3+2]? =some d2/\Tr Y (d+1) (L j) (H j) d0 d1 d2 ((z.map X.i)[j]))
  (hb:Below Y.heap.size Y W1) (ht:Tr W1 (d+1) Y.heap.size W1.heap.size c0 c1 c2 x.i) (gb:Below W1.heap.size W1 G) (ub:Below G.heap.size G U)
  (ab:w'.ownsRow (E+4) 103 3 (.slice (some ⟨g,0,none⟩) (z.length+1) I) (z.length+1) (xs++[z0,z1,z2]))
  (J:U.grownBy w' v.ownBlock) (ak:Value.ownBlock (.slice (some ⟨g,0,none⟩) (z.length+1) I)=v.ownBlock\/∃g',Value.ownBlock (.slice (some ⟨g,0,none⟩) (z.length+1) I)=some g'/\U.heap.size<=g')
  (hF:F=((((w'.setCell ⟨g,z.length * 3,none⟩ c0).setCell ⟨g,z.length * 3+1,none⟩ c1).setCell ⟨g,z.length * 3+2,none⟩ c2).setCell ⟨E,0,none⟩ (.slice (some ⟨g,0,none⟩) (z.length+1) I)).setCell ⟨E+1,0,none⟩ (.int .i64 x.e)):
  KeepsFrom N G F/\(∀k,k=1\/k=E+1+1\/k=E+1+1+1->F.heap[k]? =G.heap[k]?)/\WI d E w (z++[x]) F:=by
 have s1:=hb.size
 have s2:=gb.size
 have s3:=ub.size
 have s4:=J.size
 have an:=xs_len q1
 have am:Below Y.heap.size Y G:=hb.trans (gb.mono s1)
 have ae:Below Y.heap.size Y U:=am.trans (ub.mono (by omega))
 have qU:U.ownsRow (E+4) 103 3 v z.length xs:=own_below q1 ae
 have ac:∀m,v.ownBlock=some m->E+4<=m:=λm hm=>(qp q1 hm).1
 have hg:=qp ab (g:=g) rfl
 obtain ⟨W4,R⟩:∃W4:World,W4=((w'.setCell ⟨g,z.length * 3,none⟩ c0).setCell ⟨g,z.length * 3+1,none⟩ c1).setCell ⟨g,z.length * 3+2,none⟩ c2:=⟨_,rfl⟩
 have ah:W4.ownsRow (E+4) 103 3 (.slice (some ⟨g,0,none⟩) (z.length+1) I) (z.length+1) (xs++[c0,c1,c2]):=by rw [R];exact Tf ab an _ _ _
 have s5:W4.heap.size=w'.heap.size:=by rw [R];simp [World.setCell]
 have aa:∀k,k≠g->W4.heap[k]? =w'.heap[k]?:=λk hk=>by
  rw [R,aP _ _ _ _ hk,aP _ _ _ _ hk,aP _ _ _ _ hk]
 have ap:U.grownBy W4 v.ownBlock:=⟨by rw [R];exact J.os,by rw [R];exact J.tape,by rw [R];exact J.output,by omega,λk hk ag=>by
  rw [aa k ?_]
  ·exact J.block k hk ag
  ·rintro rfl
   rcases ak with e|⟨g',e,ar⟩
   ·exact ag e
   ·simp [Value.ownBlock] at e;omega⟩
 have ai:(z.map X.i).length=z.length:=by simp
 have aj:Row W4 (d+1) (E+4) W4.heap.size (.slice (some ⟨g,0,none⟩) (z.length+1) I) (z.map X.i++[x.i]):=
  Row.step (w:=Y) (w1:=W1) (w3:=U) (v:=v) (xs:=xs) (L:=L) (H:=H) (by omega) (by rw [ai];exact q1) q3 q4 q5 ht hb (gb.trans (ub.mono s2)) (by rw [ai];exact ah) ap ak
 rw [<-R] at hF
 have af:∀k,k≠E->k≠E+1->F.heap[k]? =W4.heap[k]?:=λk h1 h2=>by
  rw [hF,aP _ _ _ _ h2,aP _ _ _ _ h1]
 have s6:F.heap.size=W4.heap.size:=by rw [hF];simp [World.setCell]
 have e0:Boxed w' E 101 v:=(J.block _ (by omega) (λe=>by have:=ac _ e.symm;omega)).trans ((ae.block _ (by omega)).trans b0)
 have e1:Boxed w' (E+1) 3 (.int .i64 (qH z)):=(J.block _ (by omega) (λe=>by have:=ac _ e.symm;omega)).trans ((ae.block _ (by omega)).trans b1)
 have f0:Boxed W4 E 101 v:=(aa _ (by omega)).trans e0
 have f1:Boxed W4 (E+1) 3 (.int .i64 (qH z)):=(aa _ (by omega)).trans e1
 refine ⟨KeepsOthers.from ?_ _,?_,⟨(.slice (some ⟨g,0,none⟩) (z.length+1) I),?_,?_⟩,?_,?_,by omega⟩
 ·have k1:KeepsOthers G U:=⟨ub.size,λk o hk _=>(ub.block k (jE hk)).trans hk⟩
  have k2:KeepsOthers U w':=KeepsOthers.of_grownBy J (λj o ej hj=>Lr qU j o ej hj)
  rw [hF,R]
  exact (k1.trans k2).trans (((((KeepsOthers.setCell _ _ _).trans (KeepsOthers.setCell _ _ _)).trans (KeepsOthers.setCell _ _ _)).trans (KeepsOthers.setCell _ _ _)).trans (KeepsOthers.setCell _ _ _))
 ·intro k hk
  have au:k < E+4:=by omega
  rw [af k (by omega) (by omega),aa k (by omega),J.block k (by omega) (λe=>by have:=ac _ e.symm;omega),ub.block k (by omega)]
 ·rw [hF];exact kW (f0.set _) _ _ (by simp)
 ·rw [aY]
  exact (aj.kept (w':=F) (λk k1 k2=>af k (by omega) (by omega))).wider jC (by omega)
 ·rw [hF,ny];exact (kW f1 _ _ (by simp)).set _
 ·have b5:Below E w w':=(ao.trans (ae.mono (by omega))).grown J (by omega) (λm hm=>by have:=ac m hm;omega)
  rw [hF,R]
  exact ((((b5.setCell (by show E<=g;omega) _).setCell (by show E<=g;omega) _).setCell (by show E<=g;omega) _).setCell jC _).setCell (by show E<=E+1;omega) _
end
end Go.Proofs.YtpibpdpedjinhaaGreatDoor
