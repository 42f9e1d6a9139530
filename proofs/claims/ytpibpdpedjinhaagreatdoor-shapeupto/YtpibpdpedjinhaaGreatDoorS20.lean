import Derived.Test.YtpibpdpedjinhaaGreatDoorS19
import Derived.RangeFuncWrites
import Derived.Shelf.RegionOpen
set_option maxRecDepth 100000
set_option maxHeartbeats 4000000
set_option linter.unusedSimpArgs false
namespace Go.Proofs.YtpibpdpedjinhaaGreatDoor
section
open Go.RowKit Go.Joins
theorem ext_list (s:ByteArray) (a b:Nat):(s.extract a b).data.toList=(s.data.toList.take b).drop a:=by
 simp [ByteArray.data_extract,Array.toList_extract,List.drop_take]
theorem qX:∀(l:List UInt8) (a k:Nat),a < 256 ^ k->Im.val l a < 256 ^ (k+l.length)
 |[],a,k,h=>h
 |x::l,a,k,h=>by
  have:=x.toNat_lt
  have h2:=qX l (256 * a+x.toNat) (k+1) (by rw [Nat.pow_succ];omega)
  simp only [Im.val,aN]
  rw [show k+(l.length+1)=k+1+l.length from by omega]
  exact h2
theorem zL (s:List UInt8) (k:Nat) (h:k < s.length):Im.val (s.take (k+1)) 0=256 * Im.val (s.take k) 0+(s.getD k 0).toNat:=by
 rw [dZ h,Im.val_append,aS,aG h]
 rfl
theorem zB (a c:Nat) (q:c < 256):(a * 256) |||c=256 * a+c:=by
 have:=Nat.two_pow_add_eq_or_of_lt (i:=8) (b:=c) (by omega) a
 rw [show a * 256=2 ^ 8 * a from by omega,<-this]
theorem below_bytesWorld {B:Nat} {w u:World} (h:Below B w u) (z:B<=u.heap.size) (e:TypeId) (s:ByteArray):Below B w (Lib.bytesWorld u e s):=
 h.trans ⟨rfl,rfl,rfl,by rw [Lib.bytesWorld_size];omega,λm q=>Lib.bytesWorld_at_old u e s m (by omega)⟩
theorem yB (l:Bool) (x y:Int) (s:ByteArray) (f:Nat) (w:World) (hs:s.size<=16777216) (hf:2<=f) (bg:f<=5):
  Calls PQ 230 #[.agg #[.bool l,.int .u8 x,.int .u8 y],.string s,.int .i64 f] w λe w'=>e=.returned (uD (Im.far l s.data.toList f))/\Below w.heap.size w w':=by
 have hl:=aV s
 have au:∀(a b:Obj),Below w.heap.size w ((w.alloc a).alloc b):=λa b=>((aB _ w).alloc jC _).alloc (by simp) _
 have ah:Hid _:=au
 clear au
 by_cases h1:s.size < f
 ·have I:Im.far l s.data.toList f=none:=by unfold Im.far;rw [<-hl,if_pos (.inl h1)]
  rw [I]
  have a8:(s.size:Int) < (f:Int):=by omega
  clear I hl
  go_enter (fq Tryz.func230 rfl),Tryz.ntmps230
  go_wp2_with fail
  exact bodyPost_ret (v:=.tuple #[.agg #[.bool false,.int .i64 0,.int .i64 0],.bool false]) (by simp [results,Tryz.results230,go_sem]) rfl ⟨rfl,ah.out _ _⟩
 ·have a8:¬(s.size:Int) < (f:Int):=by omega
  have ap:1 < s.size:=by omega
  have hx:=λu=>zx u s 1 1 ap rfl
  have af:=getD_byte s 1 ap
  by_cases h2:s[1]=0
  ·have I:Im.far l s.data.toList f=none:=by unfold Im.far;rw [af,if_pos (.inr h2)]
   rw [I]
   have a7:((s[1].toNat:Int) == 0)=true:=by rw [h2];rfl
   clear I hl
   go_enter (fq Tryz.func230 rfl),Tryz.ntmps230
   go_wp2_with fail
   exact bodyPost_ret (v:=.tuple #[.agg #[.bool false,.int .i64 0,.int .i64 0],.bool false]) (by simp [results,Tryz.results230,go_sem]) rfl ⟨rfl,ah.out _ _⟩
  ·have a7:((s[1].toNat:Int) == 0)=false:=by
    have:s[1].toNat≠0:=λe=>h2 (jv.1 e)
    simp
    omega
   obtain ⟨S,hS⟩:∃S:ByteArray,s.extract 1 f=S:=⟨_,rfl⟩
   have an:S.data.toList=(s.data.toList.take f).drop 1:=by rw [<-hS,ext_list]
   have bd:S.size=f - 1:=by rw [<-hS];simp [eG];omega
   have a5:=λu:World=>Lib.run_convert_string_bytes (P:=PQ) u 9 155 5 S (uq Tryz.underlying9) (uq Tryz.underlying155) (uq Tryz.underlying5)
   have I:Im.far l s.data.toList f=if Im.val S.data.toList 0<=55 then none else Im.chk l s.data.toList f (Im.val S.data.toList 0):=by
    unfold Im.far
    rw [<-hl,af,if_neg (by intro h;rcases h with h|h;exact h1 h;exact h2 h),an]
   generalize Im.far l s.data.toList f=R at I⊢
   have HR:Hid _:=I
   clear I hl an af
   go_enter (fq Tryz.func230 rfl),Tryz.ntmps230
   go_wp2_with fail
   obtain ⟨X,hX⟩:∃X:World,X=((w.alloc (Obj.cells #[Value.bool l,Value.int IntKind.u8 x,Value.int IntKind.u8 y] 280)).alloc (Obj.cells #[Value.bool false,Value.int IntKind.i64 0,Value.int IntKind.i64 0] 311)):=⟨_,rfl⟩
   have aw:X.heap.size=w.heap.size+1+1:=by rw [hX];simp
   have a1:Below w.heap.size w X:=by rw [hX];exact ah.out _ _
   have ay:X.heap[w.heap.size]? =some (.cells #[Value.bool l,Value.int IntKind.u8 x,Value.int IntKind.u8 y] 280 (0,0)):=by rw [hX,aT _ _ _ (by simp)];exact heap_alloc_new _ _
   have ak:X.heap[w.heap.size+1]? =some (.cells #[Value.bool false,Value.int IntKind.i64 0,Value.int IntKind.i64 0] 311 (0,0)):=by rw [hX];have:=heap_alloc_new (w.alloc (Obj.cells #[Value.bool l,Value.int IntKind.u8 x,Value.int IntKind.u8 y] 280)) (Obj.cells #[Value.bool false,Value.int IntKind.i64 0,Value.int IntKind.i64 0] 311);simpa using this
   rw [<-hX]
   obtain ⟨Y,hY⟩:∃Y:World,Y=Lib.bytesWorld X 5 S:=⟨_,rfl⟩
   have ba:Y.heap.size=w.heap.size+3:=by rw [hY,Lib.bytesWorld_size,aw]
   have ab:Below X.heap.size X Y:=by rw [hY];exact below_bytesWorld (aB _ _) jC _ _
   have ax:∀k,k < S.size->Y.cell? ⟨w.heap.size+1+1,k,none⟩=some (.int .u8 (S.data.toList.getD k 0).toNat):=λk hk=>by rw [hY,<-aw];exact Lib.bytesWorld_cell X 5 S k hk
   rw [<-hY]
   have E:=(ab.block w.heap.size (by omega)).trans ay
   have q:=(ab.block (w.heap.size+1) (by omega)).trans ak
   have aa:Below w.heap.size w Y:=a1.trans (ab.mono (by omega))
   have ae:=aV S
   have HY:Hid _:=jB ax (jB E (jB q aa))
   have ac:Hid _:=ae
   clear hX hY ax E q aa ab ay ak a1 ae a5 hx hS
   generalize grownCap X (f - 1) 0 5=gc
   go_loopg [8,26] (f - 1) (λg v t wx=>∃k:Nat,k<=f - 1/\t=.int .i64 k/\v=.int .u64 (Im.val (S.data.toList.take k) 0:Nat)/\g=f - 1 - k/\wx=Y)
   case atStart=>exact ⟨0,dF _,rfl,rfl,rfl,rfl⟩
   case round=>
    obtain ⟨k,hk,rfl,rfl,rfl,rfl⟩:=hrel
    have az:Im.val (S.data.toList.take k) 0 < 4294967296:=by
     have:=qX (S.data.toList.take k) 0 0 (by simp)
     have ag:0+(S.data.toList.take k).length<=4:=by simp;omega
     have:=iH (n:=256) (by decide) ag
     omega
    by_cases bb:k < f - 1
    ·have a0:(k:Int) < ((f - 1:Nat):Int):=by omega
     have hc:=HY.out.1 k (by omega)
     generalize hb:(S.data.toList.getD k 0).toNat=b at hc
     have a3:b < 256:=by rw [<-hb];exact UInt8.toNat_lt _
     have ai:=zL S.data.toList k (by rw [<-ac.out];omega)
     rw [hb] at ai
     have a9:Im.val (S.data.toList.take k) 0 < 16777216:=by
      have:=qX (S.data.toList.take k) 0 0 (by simp)
      have ag:0+(S.data.toList.take k).length<=3:=by simp;omega
      have:=iH (n:=256) (by decide) ag
      omega
     generalize aq:Im.val (S.data.toList.take (k+1)) 0=V' at ai
     have a2:Hid _:=aq
     clear aq
     generalize Im.val (S.data.toList.take k) 0=V at *
     have Hb:Hid _:=hb
     clear hb
     go_wp2_with fail
     rw [show bits .or .u64 ((V:Int) * 256) (b:Int)=(V':Int) from by
      rw [show (V:Int) * 256=((V * 256:Nat):Int) from by omega,bits_or_u64_nat _ _ (by omega) (by omega),zB V b a3,ai]]
     go_roundg (f - 1 - (k+1))
     case measure=>omega
     case rel=>
      refine ⟨k+1,by omega,by go_num,?_,rfl,rfl⟩
      rw [a2.out]
    ·have a0:¬(k:Int) < ((f - 1:Nat):Int):=by omega
     obtain rfl:k=f - 1:=by omega
     have a4:S.data.toList.take (f - 1)=S.data.toList:=dV (by rw [<-ac.out];omega)
     rw [a4] at az⊢
     obtain ⟨_,E,q,aa⟩:=HY.out
     generalize Im.val S.data.toList 0=V at *
     have m0:wr.cell? ⟨w.heap.size,0,none⟩=some (.bool l):=jF E rfl
     have m1:wr.cell? ⟨w.heap.size,1,none⟩=some (.int .u8 x):=jF E rfl
     have m2:wr.cell? ⟨w.heap.size,2,none⟩=some (.int .u8 y):=jF E rfl
     have r0:wr.cell? ⟨w.heap.size+1,0,none⟩=some (.bool false):=jF q rfl
     have r1:wr.cell? ⟨w.heap.size+1,1,none⟩=some (.int .i64 0):=jF q rfl
     have r2:wr.cell? ⟨w.heap.size+1,2,none⟩=some (.int .i64 0):=jF q rfl
     have fr:=aI q
     have ao:Hid _:=aa
     have a6:Hid _:=q
     clear E q aa HY
     by_cases ar:V<=55
     ·have am:(V:Int)<=55:=by omega
      have I:R=none:=by rw [HR.out,if_pos ar]
      have aj:Hid _:=I
      clear I HR
      go_wp2_with fail
      exact bodyPost_ret (v:=.tuple #[.agg #[.bool false,.int .i64 0,.int .i64 0],.bool false]) (by simp [results,Tryz.results230,go_sem,r0,r1,r2]) rfl ⟨by rw [aj.out];rfl,((ao.out.setCell (by simp) _).setCell (by simp) _).setCell (by simp) _⟩
     ·have am:¬(V:Int)<=55:=by omega
      have I:R=Im.chk l s.data.toList f V:=by rw [HR.out,if_neg ar]
      obtain ⟨b0,f0,t0,q0,hV⟩:∃b0 f0 t0 q0,uD (Im.chk l s.data.toList f V)=.tuple #[.agg #[.bool b0,.int .i64 f0,.int .i64 t0],.bool q0]:=by
       cases Im.chk l s.data.toList f V with
       |none=>exact ⟨_,_,_,_,rfl⟩
       |some z=>exact ⟨_,_,_,_,rfl⟩
      have HV:Hid _:=hV
      have aj:Hid _:=I
      clear I HR hV
      go_wp2_with fail
      refine (Bv l x y s f V wr hs (by omega) az).mono ?_
      rintro e w3 ⟨rfl,av⟩
      rw [HV.out]
      have J:=(av.block (w.heap.size+1) (by omega)).trans a6.out
      have z0:w3.cell? ⟨w.heap.size+1,0,none⟩=some (.bool false):=jF J rfl
      have z1:w3.cell? ⟨w.heap.size+1,1,none⟩=some (.int .i64 0):=jF J rfl
      have z2:w3.cell? ⟨w.heap.size+1,2,none⟩=some (.int .i64 0):=jF J rfl
      have fz:=aI J
      have HB:Hid _:=ao.out.trans (av.mono (by omega))
      clear r0 r1 r2 fr m0 m1 m2 J
      go_wp2_with fail
      exact bodyPost_ret (v:=.tuple #[.agg #[.bool b0,.int .i64 f0,.int .i64 t0],.bool q0]) (by simp [results,Tryz.results230,go_sem,z0,z1,z2]) rfl ⟨by rw [aj.out,HV.out],((HB.out.setCell (by simp) _).setCell (by simp) _).setCell (by simp) _⟩
theorem Y1 (u:World):(Instr.index 306 (.agg #[.bool false,.int .u8 128,.int .u8 183,.bool true,.int .u8 192,.int .u8 247]) (.int .i64 0)).run PQ u=.ok (.agg #[.bool false,.int .u8 128,.int .u8 183]) u:=by
 simp [Instr.index,run_underlying (uq Tryz.underlying306),asIntOf,go_sem]
theorem Yv (u:World):(Instr.index 306 (.agg #[.bool false,.int .u8 128,.int .u8 183,.bool true,.int .u8 192,.int .u8 247]) (.int .i64 1)).run PQ u=.ok (.agg #[.bool true,.int .u8 192,.int .u8 247]) u:=by
 simp [Instr.index,run_underlying (uq Tryz.underlying306),asIntOf,go_sem]
theorem Dk (s:ByteArray) (w:World) (hs:s.size<=16777216) (hH:kU w):
  Calls PQ 219 #[.string s] w λe w'=>e=.returned (uD (Im.body s.data.toList))/\Below w.heap.size w w':=by
 have hl:=aV s
 have h0:=hH.pos
 have ai:=toList_empty s
 by_cases hz:s.size=0
 ·have hR:Im.body s.data.toList=none:=by
   have:s.data.toList=[]:=bD (by omega)
   rw [this]
   rfl
  rw [hR]
  have he:s.toList.isEmpty=true:=by rw [ai];simp [hz]
  clear hR hl ai
  go_enter (fq Tryz.func219 rfl),Tryz.ntmps219
  go_wp2_with fail
  exact bodyPost_ret (v:=.tuple #[.agg #[.bool false,.int .i64 0,.int .i64 0],.bool false]) (by simp [results,Tryz.results219,go_sem]) rfl ⟨rfl,(aB _ w).alloc jC _⟩
 ·have he:s.toList.isEmpty=false:=by rw [ai];simp [hz]
  have aq:0 < s.size:=by omega
  have hx:=λu=>zx u s 0 0 aq rfl
  obtain ⟨c,hc⟩:∃c:UInt8,s[0]=c:=⟨_,rfl⟩
  have az:=c.toNat_lt
  rw [hc] at hx
  have hR:Im.body s.data.toList=if c.toNat < 128 then some (false,0,1)
  else if c.toNat<=183 then Im.chk false s.data.toList 1 (c.toNat - 128)
  else if c.toNat<=187 then Im.far false s.data.toList (1+(c.toNat - 183))
  else if c.toNat < 192 then none
  else if c.toNat<=247 then Im.chk true s.data.toList 1 (c.toNat - 192)
  else if c.toNat<=251 then Im.far true s.data.toList (1+(c.toNat - 247))
  else none:=by
   have hg:=getD_byte s 0 aq
   rw [hc] at hg
   cases hd:s.data.toList with
   |nil=>exact absurd (by rw [hl,hd];rfl) hz
   |cons a r=>
    rw [hd] at hg
    simp at hg
    subst hg
    rfl
  generalize Im.body s.data.toList=R at hR⊢
  have HR:Hid _:=hR
  clear hR hl ai hc
  generalize hn:c.toNat=n at *
  clear hn
  by_cases ar:n < 128
  ·have an:(n:Int) < 128:=by omega
   go_enter (fq Tryz.func219 rfl),Tryz.ntmps219
   go_wp2_with fail
   exact bodyPost_ret (v:=.tuple #[.agg #[.bool false,.int .i64 0,.int .i64 1],.bool true]) (by simp [results,Tryz.results219,go_sem]) rfl ⟨by rw [HR.out,if_pos ar];rfl,(aB _ w).alloc jC _⟩
  ·have an:¬(n:Int) < 128:=by omega
   have av:=hH
   obtain ⟨⟨a0,a1,a2⟩,a3,a4,a5⟩:=av
   simp only [fC,Nat.reduceAdd] at a1 a2 a4 a5
   obtain ⟨X,hX⟩:∃X:World,X=w.alloc (.cells #[.bool false,.int .i64 0,.int .i64 0] 311):=⟨_,rfl⟩
   have ak:X.heap.size=w.heap.size+1:=by rw [hX];simp
   have ac:Below w.heap.size w X:=by rw [hX];exact (aB _ w).alloc jC _
   have J:X.heap[w.heap.size]? =some (.cells #[.bool false,.int .i64 0,.int .i64 0] 311 (0,0)):=by rw [hX];exact heap_alloc_new _ _
   have hV:∀R':Option (Bool×Nat×Nat),∃b0 f0 t0 q0,uD R'=.tuple #[.agg #[.bool b0,.int .i64 f0,.int .i64 t0],.bool q0]:=by
    intro R'
    cases R' with
    |none=>exact ⟨_,_,_,_,rfl⟩
    |some z=>exact ⟨_,_,_,_,rfl⟩
   have aj:Hid _:=hV
   clear hV
   go_enter (fq Tryz.func219 rfl),Tryz.ntmps219
   go_wp2_with fail
   rw [<-hX]
   have HX:Hid _:=jB ak (jB ac J)
   clear hX ak ac J a0 a1 a2 a3 a4 a5
   go_loopg [16] 2 (λg t wx=>∃k:Nat,k<=2/\t=.int .i64 k/\g=2 - k/\Below (w.heap.size+1) X wx/\(1<=k->187 < n)/\(k=2->n < 192\/251 < n))
   case atStart=>exact ⟨0,dF _,rfl,rfl,aB _ _,λh=>by omega,λh=>by omega⟩
   case round=>
    obtain ⟨k,hk,rfl,rfl,hb,ao,au⟩:=hrel
    obtain ⟨ak,ac,J⟩:=HX.out
    have ab:=hb.size
    rw [ak] at ab
    have I:=(hb.block w.heap.size (by omega)).trans J
    have ag:Below w.heap.size w wr:=ac.trans (hb.mono (by omega))
    have ay:=Y1
    have ax:=Yv
    match k,hk with
    |0,_=>
     have ap:=ao
     by_cases h1:128<=n/\n<=183
     ·obtain ⟨g1,g2⟩:=h1
      have hR:R=Im.chk false s.data.toList 1 (n - 128):=by rw [HR.out];repeat' first|rw [if_neg (by omega)]|rw [if_pos (by omega)]
      obtain ⟨b0,f0,t0,q0,hV⟩:=aj.out (Im.chk false s.data.toList 1 (n - 128))
      have HV:Hid _:=hV
      have aa:Hid _:=hR
      have ae:Hid _:=I
      clear hR HR hV I J
      have ah:(128:Int)<=(n:Int):=by omega
      have af:(n:Int)<=183:=by omega
      go_wp2_with fail
      rw [show (n:Int) - 128=((n - 128:Nat):Int) from by omega]
      refine (Bv false 128 183 s 1 (n - 128) _ hs (by omega) (by omega)).mono ?_
      rintro e w3 ⟨rfl,E⟩
      have Y:Below (w.heap.size+1) X w3:=(hb.alloc ab _).trans (E.mono (by simp;omega))
      rw [HV.out]
      have q:=(E.block w.heap.size (by simp;omega)).trans ((aT _ _ _ (by omega)).trans ae.out)
      have z0:w3.cell? ⟨w.heap.size,0,none⟩=some (.bool false):=jF q rfl
      have z1:w3.cell? ⟨w.heap.size,1,none⟩=some (.int .i64 0):=jF q rfl
      have z2:w3.cell? ⟨w.heap.size,2,none⟩=some (.int .i64 0):=jF q rfl
      have fz:=aI q
      have HB:Hid (Below w.heap.size w w3):=ac.trans (Y.mono (by omega))
      clear q E Y hb ag
      go_wp2_with fail
      exact bodyPost_ret (v:=.tuple #[.agg #[.bool b0,.int .i64 f0,.int .i64 t0],.bool q0]) (by simp [results,Tryz.results219,go_sem,z0,z1,z2]) rfl ⟨by rw [aa.out,HV.out],((HB.out.setCell (by simp) _).setCell (by simp) _).setCell (by simp) _⟩
     ·by_cases h2:183 < n/\n<=187
      ·obtain ⟨g1,g2⟩:=h2
       have hR:R=Im.far false s.data.toList (1+(n - 183)):=by rw [HR.out];repeat' first|rw [if_neg (by omega)]|rw [if_pos (by omega)]
       obtain ⟨b0,f0,t0,q0,hV⟩:=aj.out (Im.far false s.data.toList (1+(n - 183)))
       have HV:Hid _:=hV
       have aa:Hid _:=hR
       have ae:Hid _:=I
       clear hR HR hV I J
       have ah:(183:Int) < (n:Int):=by omega
       have af:(n:Int)<=187:=by omega
       go_wp2_with fail
       rw [show 1+((n:Int) - 183)=((1+(n - 183):Nat):Int) from by omega]
       refine (yB false 128 183 s (1+(n - 183)) _ hs (by omega) (by omega)).mono ?_
       rintro e w3 ⟨rfl,E⟩
       have Y:Below (w.heap.size+1) X w3:=(hb.alloc ab _).trans (E.mono (by simp;omega))
       rw [HV.out]
       have q:=(E.block w.heap.size (by simp;omega)).trans ((aT _ _ _ (by omega)).trans ae.out)
       have z0:w3.cell? ⟨w.heap.size,0,none⟩=some (.bool false):=jF q rfl
       have z1:w3.cell? ⟨w.heap.size,1,none⟩=some (.int .i64 0):=jF q rfl
       have z2:w3.cell? ⟨w.heap.size,2,none⟩=some (.int .i64 0):=jF q rfl
       have fz:=aI q
       have HB:Hid (Below w.heap.size w w3):=ac.trans (Y.mono (by omega))
       clear q E Y hb ag
       go_wp2_with fail
       exact bodyPost_ret (v:=.tuple #[.agg #[.bool b0,.int .i64 f0,.int .i64 t0],.bool q0]) (by simp [results,Tryz.results219,go_sem,z0,z1,z2]) rfl ⟨by rw [aa.out,HV.out],((HB.out.setCell (by simp) _).setCell (by simp) _).setCell (by simp) _⟩
      ·have h3:187 < n:=by omega
       have ah:(128:Int)<=(n:Int):=by omega
       have af:(183:Int) < (n:Int):=by omega
       have aw:(187:Int) < (n:Int):=by omega
       clear I J
       go_wp2_with fail
       go_roundg 1
       case measure=>omega
       case rel=>exact ⟨1,by omega,rfl,rfl,hb.alloc ab _,λ_=>h3,λh=>by omega⟩
    |1,_=>
     have ap:=ao
     have am:=ao (by omega)
     by_cases h1:192<=n/\n<=247
     ·obtain ⟨g1,g2⟩:=h1
      have hR:R=Im.chk true s.data.toList 1 (n - 192):=by rw [HR.out];repeat' first|rw [if_neg (by omega)]|rw [if_pos (by omega)]
      obtain ⟨b0,f0,t0,q0,hV⟩:=aj.out (Im.chk true s.data.toList 1 (n - 192))
      have HV:Hid _:=hV
      have aa:Hid _:=hR
      have ae:Hid _:=I
      clear hR HR hV I J
      have ah:(192:Int)<=(n:Int):=by omega
      have af:(n:Int)<=247:=by omega
      go_wp2_with fail
      rw [show (n:Int) - 192=((n - 192:Nat):Int) from by omega]
      refine (Bv true 192 247 s 1 (n - 192) _ hs (by omega) (by omega)).mono ?_
      rintro e w3 ⟨rfl,E⟩
      have Y:Below (w.heap.size+1) X w3:=(hb.alloc ab _).trans (E.mono (by simp;omega))
      rw [HV.out]
      have q:=(E.block w.heap.size (by simp;omega)).trans ((aT _ _ _ (by omega)).trans ae.out)
      have z0:w3.cell? ⟨w.heap.size,0,none⟩=some (.bool false):=jF q rfl
      have z1:w3.cell? ⟨w.heap.size,1,none⟩=some (.int .i64 0):=jF q rfl
      have z2:w3.cell? ⟨w.heap.size,2,none⟩=some (.int .i64 0):=jF q rfl
      have fz:=aI q
      have HB:Hid (Below w.heap.size w w3):=ac.trans (Y.mono (by omega))
      clear q E Y hb ag
      go_wp2_with fail
      exact bodyPost_ret (v:=.tuple #[.agg #[.bool b0,.int .i64 f0,.int .i64 t0],.bool q0]) (by simp [results,Tryz.results219,go_sem,z0,z1,z2]) rfl ⟨by rw [aa.out,HV.out],((HB.out.setCell (by simp) _).setCell (by simp) _).setCell (by simp) _⟩
     ·by_cases h2:247 < n/\n<=251
      ·obtain ⟨g1,g2⟩:=h2
       have hR:R=Im.far true s.data.toList (1+(n - 247)):=by rw [HR.out];repeat' first|rw [if_neg (by omega)]|rw [if_pos (by omega)]
       obtain ⟨b0,f0,t0,q0,hV⟩:=aj.out (Im.far true s.data.toList (1+(n - 247)))
       have HV:Hid _:=hV
       have aa:Hid _:=hR
       have ae:Hid _:=I
       clear hR HR hV I J
       have ah:(247:Int) < (n:Int):=by omega
       have af:(n:Int)<=251:=by omega
       go_wp2_with fail
       rw [show 1+((n:Int) - 247)=((1+(n - 247):Nat):Int) from by omega]
       refine (yB true 192 247 s (1+(n - 247)) _ hs (by omega) (by omega)).mono ?_
       rintro e w3 ⟨rfl,E⟩
       have Y:Below (w.heap.size+1) X w3:=(hb.alloc ab _).trans (E.mono (by simp;omega))
       rw [HV.out]
       have q:=(E.block w.heap.size (by simp;omega)).trans ((aT _ _ _ (by omega)).trans ae.out)
       have z0:w3.cell? ⟨w.heap.size,0,none⟩=some (.bool false):=jF q rfl
       have z1:w3.cell? ⟨w.heap.size,1,none⟩=some (.int .i64 0):=jF q rfl
       have z2:w3.cell? ⟨w.heap.size,2,none⟩=some (.int .i64 0):=jF q rfl
       have fz:=aI q
       have HB:Hid (Below w.heap.size w w3):=ac.trans (Y.mono (by omega))
       clear q E Y hb ag
       go_wp2_with fail
       exact bodyPost_ret (v:=.tuple #[.agg #[.bool b0,.int .i64 f0,.int .i64 t0],.bool q0]) (by simp [results,Tryz.results219,go_sem,z0,z1,z2]) rfl ⟨by rw [aa.out,HV.out],((HB.out.setCell (by simp) _).setCell (by simp) _).setCell (by simp) _⟩
      ·have h3:n < 192\/251 < n:=by omega
       clear I J
       rcases h3 with h3|h3
       ·have ah:(n:Int) < 192:=by omega
        have af:(n:Int)<=247:=by omega
        go_wp2_with fail
        go_roundg 0
        case measure=>omega
        case rel=>exact ⟨2,by omega,rfl,rfl,hb.alloc ab _,λ_=>am,λ_=>by omega⟩
       ·have ah:(192:Int)<=(n:Int):=by omega
        have af:(247:Int) < (n:Int):=by omega
        have aw:(251:Int) < (n:Int):=by omega
        go_wp2_with fail
        go_roundg 0
        case measure=>omega
        case rel=>exact ⟨2,by omega,rfl,rfl,hb.alloc ab _,λ_=>am,λ_=>by omega⟩
    |2,_=>
     have ap:=au rfl
     have hR:R=none:=by rw [HR.out];repeat' first|rw [if_neg (by omega)]|split|rfl|omega
     have aa:Hid _:=hR
     have z0:wr.cell? ⟨w.heap.size,0,none⟩=some (.bool false):=jF I rfl
     have z1:wr.cell? ⟨w.heap.size,1,none⟩=some (.int .i64 0):=jF I rfl
     have z2:wr.cell? ⟨w.heap.size,2,none⟩=some (.int .i64 0):=jF I rfl
     have fz:=aI I
     have HB:Hid _:=ag
     clear I J hR HR hb ag
     go_wp2_with fail
     exact bodyPost_ret (v:=.tuple #[.agg #[.bool false,.int .i64 0,.int .i64 0],.bool false]) (by simp [results,Tryz.results219,go_sem,z0,z1,z2]) rfl ⟨by rw [aa.out];rfl,((HB.out.setCell (by simp) _).setCell (by simp) _).setCell (by simp) _⟩
end
section
open Go.RowKit Go.Joins Go.Shelf
attribute [local go_sem] Oper.semAt_some
variable {u0 u1 u2 c0 c1 c2:Value} {t:TypeId} {wr w3:World} {n lo:Nat} {i:Im.It}
def Sv:Go.Shelf.Ren:=⟨fun|316=>198|n=>n,fun|0=>0|3=>3|4=>4|5=>5|9=>9|37=>155|127=>239|n=>n,fun|n=>n⟩
theorem GI:Go.Proofs.LaysM.n316 PQ Sv:={
 mixed:=by kernel_rfl
 f316:=(fq Tryz.func198 rfl).trans (congrArg some (by kernel_rfl))
 t0:=(uq Tryz.underlying0)
 a0:=(uf Tryz.isAgg0)
 z0:=(tH Tryz.sizeOf0)
 v0:=(tN Tryz.zeroValue0)
 t3:=(uq Tryz.underlying3)
 a3:=(uf Tryz.isAgg3)
 z3:=(tH Tryz.sizeOf3)
 v3:=(tN Tryz.zeroValue3)
 t4:=(uq Tryz.underlying4)
 a4:=(uf Tryz.isAgg4)
 z4:=(tH Tryz.sizeOf4)
 v4:=(tN Tryz.zeroValue4)
 t5:=(uq Tryz.underlying5)
 a5:=(uf Tryz.isAgg5)
 z5:=(tH Tryz.sizeOf5)
 v5:=(tN Tryz.zeroValue5)
 t9:=(uq Tryz.underlying9)
 a9:=(uf Tryz.isAgg9)
 z9:=(tH Tryz.sizeOf9)
 v9:=(tN Tryz.zeroValue9)
 t37:=(uq Tryz.underlying155)
 a37:=(uf Tryz.isAgg155)
 z37:=(tH Tryz.sizeOf155)
 v37:=(tN Tryz.zeroValue155)
 t127:=(uq Tryz.underlying239)
 a127:=(uf Tryz.isAgg239)
 z127:=(tH Tryz.sizeOf239)
 v127:=(tN Tryz.zeroValue239)
 i0:=by kernel_rfl
 i3:=by kernel_rfl
 i4:=by kernel_rfl
 i5:=by kernel_rfl
 i9:=by kernel_rfl
 i37:=by kernel_rfl
 i127:=by kernel_rfl }
theorem clone_any (s:ByteArray) (w:World) (hs:s.size<=16777216):Calls PQ 151 #[.string s] w λe w'=>e=.returned (.string s)/\Below w.heap.size w w':=by
 go_enter (fq Tryz.func151 rfl),Tryz.ntmps151
 go_wp2_with fail
 refine (Any.stringslite_Clone (ρ:=Sv) GI s w (by omega)).mono ?_
 rintro e w1 ⟨rfl,q⟩
 go_wp2_with fail
 go_ret
 exact ⟨rfl,q⟩
def Got (n lo:Nat) (w':World) (e:Ending):Option (Im.It×Nat)->Prop
 |none=>e=.returned (.tuple #[.agg #[.bool false,.string ⟨#[]⟩,.slice none 0 0],.int .i64 0,.bool false])
 |some x=>∃a cap,e=.returned (.tuple #[.agg #[.bool x.1.list,.string ⟨x.1.bytes.toArray⟩,.slice a x.1.kids.length cap],.int .i64 x.2,.bool true])/\Tr w' n lo w'.heap.size (.bool x.1.list) (.string ⟨x.1.bytes.toArray⟩) (.slice a x.1.kids.length cap) x.1
def FirstSaid (d:Nat):Prop:=∀(s:ByteArray) (q:Nat) (w:World),s.size<=16777216->q+d=9->kU w->
  Calls PQ 206 #[.string s,.int .i64 q] w λe w'=>Got (d+1) w.heap.size w' e (Im.read Im.body d s.data.toList)/\Below w.heap.size w w'
structure X where
 e:Nat
 i:Im.It
 a:Option Addr
 cap:Nat
def X.encs (x:X):Array Value:=#[.int .i64 x.e,.agg #[.bool x.i.list,.string ⟨x.i.bytes.toArray⟩,.slice x.a x.i.kids.length x.cap]]
def qH (l:List X):Nat:=l.foldl (λ_ x=>x.e) 0
theorem ny (l:List X) (x:X):qH (l++[x])=x.e:=by simp [qH]
def XY (n:Nat) (q:List X) (x:X) (lo:Nat) (W:World):Prop:=q.length < 16777216/\Tr W n lo W.heap.size (.bool x.i.list) (.string ⟨x.i.bytes.toArray⟩) (.slice x.a x.i.kids.length x.cap) x.i
theorem XY.turn (n:Nat) (q:List X) (x:X) (lo:Nat) (W z:World) (h:∀k,lo<=k->z.heap[k]? =W.heap[k]?) (hs:z.heap.size=W.heap.size) (E:XY n q x lo W):XY n q x lo z:=by
 refine ⟨E.1,?_⟩
 rw [hs]
 exact Tr.kept n _ _ _ _ _ _ (λk I _=>h k I) E.2
def Done (d:Nat) (s:ByteArray) (xs:List X):Prop:=∃p,Im.mJ (Im.read Im.body d) s.data.toList (xs.map X.i) p/\qH xs=p/\(s.size<=p\/p < s.size/\Im.read Im.body d (s.data.toList.drop p)=none)
def Left (d:Nat) (s:ByteArray) (xs:List X):Prop:=∃p,Im.mJ (Im.read Im.body d) s.data.toList (xs.map X.i) p/\qH xs=p
theorem K3.Fe (w:World) (x y z:Value) (t:TypeId):K3 (w.alloc (.cells #[x,y,z] t)) w.heap.size 0 x y z:=⟨by simp,by simp,by simp⟩
theorem K3.abA {w:World} {b:Nat} (h:w.heap[b]? =some (.cells #[u0,u1,u2] t (0,0))) (x y z:Value):K3 (((w.setCell ⟨b,0,none⟩ x).setCell ⟨b,1,none⟩ y).setCell ⟨b,2,none⟩ z) b 0 x y z:=by
 have q:=block_setCell h (i:=0) x
 have h2:=block_setCell q (i:=1) y
 have h3:=block_setCell h2 (i:=2) z
 refine ⟨?_,?_,?_⟩<;>rw [aA h3]<;>simp
theorem EU (z:Below wr.heap.size wr w3) (ht:Tr w3 n lo w3.heap.size c0 c1 c2 i) (q:wr.heap.size<=lo) (t:TypeId):
  Below wr.heap.size wr (w3.alloc (.cells #[c0,c1,c2] t))/\K3 (w3.alloc (.cells #[c0,c1,c2] t)) w3.heap.size 0 c0 c1 c2/\Tr (w3.alloc (.cells #[c0,c1,c2] t)) n wr.heap.size (w3.alloc (.cells #[c0,c1,c2] t)).heap.size c0 c1 c2 i:=
 ⟨z.alloc z.size _,K3.Fe _ _ _ _ _,Tr.wider (Tr.kept n _ _ _ _ _ _ (λ_ _ E=>aT _ _ _ E) ht) q (by simp)⟩
theorem Oa (z:Below wr.heap.size wr w3) (ht:Tr w3 n lo w3.heap.size c0 c1 c2 i) (q:wr.heap.size < lo) (E:w3.heap[wr.heap.size]? =some (.cells #[u0,u1,u2] t (0,0))):
  Below wr.heap.size wr (((w3.setCell ⟨wr.heap.size,0,none⟩ c0).setCell ⟨wr.heap.size,1,none⟩ c1).setCell ⟨wr.heap.size,2,none⟩ c2)/\K3 (((w3.setCell ⟨wr.heap.size,0,none⟩ c0).setCell ⟨wr.heap.size,1,none⟩ c1).setCell ⟨wr.heap.size,2,none⟩ c2) wr.heap.size 0 c0 c1 c2/\Tr (((w3.setCell ⟨wr.heap.size,0,none⟩ c0).setCell ⟨wr.heap.size,1,none⟩ c1).setCell ⟨wr.heap.size,2,none⟩ c2) n wr.heap.size (((w3.setCell ⟨wr.heap.size,0,none⟩ c0).setCell ⟨wr.heap.size,1,none⟩ c1).setCell ⟨wr.heap.size,2,none⟩ c2).heap.size c0 c1 c2 i:=
 ⟨((z.setCell jC _).setCell jC _).setCell jC _,K3.abA E _ _ _,Tr.wider (Tr.kept n _ _ _ _ _ _ (λ_ I _=>by
  rw [aP _ _ _ _ (by simp;omega),aP _ _ _ _ (by simp;omega),aP _ _ _ _ (by simp;omega)]) ht) (by omega) (by simp [World.setCell])⟩
theorem BQ (d:Nat) (hf:FirstSaid d) (s:ByteArray) (aa sB dB:Nat) (w:World) (hs:s.size<=16777216) (bd:aa+d=9) (hH:kU w) (h0:1 < w.heap.size)
  (av:w.cell? ⟨sB,0,none⟩=some (.string s)) (ay:w.cell? ⟨dB,0,none⟩=some (.int .i64 aa)) (ba:sB < w.heap.size) (hdl:dB < w.heap.size):
  Gives PQ 205 #[.pointer (some ⟨sB,0,none⟩),.pointer (some ⟨dB,0,none⟩)] X.encs (λk=>k=1\/k=sB\/k=dB) (XY (d+1)) (Done d s) (Left d s) w:=by
 intro l J Jx W hW ar au
 have Hf:Hid _:=hf
 have HY:Hid _:=ar
 have a8:Hid _:=au
 clear hf ar au
 refine callsIn_of_wp (fq Tryz.func205 rfl) rfl trivial ?_ rfl
 simp only [Tryz.ntmps205,dL,aN,bM,Nat.reduceAdd,Nat.reduceSub,cO,bZ,dN,cZ,dM,dH]
 gi_wp2
 gi_loopw [4] (λt wr=>∃(z:List X) (W0:World) (p:Nat),t=.int .i64 p/\Hid (Im.mJ (Im.read Im.body d) s.data.toList (z.map X.i) p/\qH z=p/\p<=s.size/\z.length<=p/\J z W0/\Below W0.heap.size W0 wr/\kU wr/\sB < wr.heap.size/\dB < wr.heap.size)/\wr.cell? ⟨sB,0,none⟩=some (.string s)/\wr.cell? ⟨dB,0,none⟩=some (.int .i64 aa))
  (λt wr=>s.size - (intOf t).toNat)
 case atStart=>
  have:=hW.size
  exact ⟨[],W,0,rfl,⟨Im.mJ.nil,rfl,dF _,jC,a8.out,aB _ _,hH.below hW h0,by omega,by omega⟩,(hW.cell (p:=⟨sB,0,none⟩) ba).trans av,(hW.cell (p:=⟨dB,0,none⟩) hdl).trans ay⟩
 case round=>
  obtain ⟨z,W0,p,rfl,Hr,c0,c1⟩:=hrel
  clear av ay
  by_cases am:p < s.size
  ·have a6:(p:Int) < (s.size:Int):=by omega
   have bb:(s.extract p s.size).size<=16777216:=by simp;omega
   have aj:(s.extract p s.size).data.toList=s.data.toList.drop p:=by rw [ext_list,dV (by rw [<-aV];omega)]
   have E:=λ(W:World) (hW:Below wr.heap.size wr W)=>Hf.out (s.extract p s.size) aa W bb bd (Hr.out.2.2.2.2.2.2.1.below hW Hr.out.2.2.2.2.2.2.1.pos)
   have q:=aB wr.heap.size wr
   obtain ⟨_,_,_,_,_,_,_,bg,a9⟩:=Hr.out
   have bl:sB≠wr.heap.size:=by omega
   have bn:dB≠wr.heap.size:=by omega
   rw [aj] at E
   generalize hC:Im.read Im.body d (s.data.toList.drop p)=C at E
   have ab:Hid _:=E
   have HC:Hid _:=hC
   clear E hC aj
   gi_wp2
   refine wpIn_wide.2 ?_
   cases C with
   |none=>
    go_cut [5,6,7] (λv5 v6 v7 wx=>v7=.bool false/\Below wr.heap.size wr wx)
    case first=>
     go_region_with (go_at_call 206;refine (ab.out _ ?_).mono ?_;(first|exact q|exact q.drew|exact below_drewN q _|exact q.alloc jC _|exact below_drewN (q.alloc jC _) _|exact (below_drewN q _).alloc jC _);rintro e w3 ⟨an,ac⟩;obtain rfl:=an;have I:Below wr.heap.size wr w3:=Below.trans (by first|exact q|exact q.drew|exact below_drewN q _|exact q.alloc jC _|exact below_drewN (q.alloc jC _) _|exact (below_drewN q _).alloc jC _) (ac.mono (by simp));(try (have hz:w3.heap[wr.heap.size]? =some (.cells #[.bool false,.string ⟨#[]⟩,.slice none 0 0] 103 (0,0)):=(ac.block wr.heap.size (by simp)).trans (by first|exact heap_alloc_new _ _|(have:=heap_alloc_new (wr.drewN 0) (.cells #[.bool false,.string ⟨#[]⟩,.slice none 0 0] 103);simpa using this));have z0:w3.cell? ⟨wr.heap.size,0,none⟩=some (.bool false):=(by rw [aA hz];rfl);have z1:w3.cell? ⟨wr.heap.size,1,none⟩=some (.string ⟨#[]⟩):=(by rw [aA hz];rfl);have z2:w3.cell? ⟨wr.heap.size,2,none⟩=some (.slice none 0 0):=(by rw [aA hz];rfl);have fz:=aI hz)))
     all_goals
      go_wp2_with fail
      go_meet
      refine ⟨rfl,?_⟩
      first
       |exact I.alloc I.size _
       |exact below_drewN (I.alloc I.size _) _
       |exact ((I.setCell jC _).setCell jC _).setCell jC _
       |exact below_drewN (((I.setCell jC _).setCell jC _).setCell jC _) _
    case rest=>
     obtain ⟨rfl,Y⟩:=hcut
     gi_wp2
     refine bodyPost_ret (results_none rfl _ _ _) rfl ?_
     obtain ⟨he,ag,aw,ax,hJ,R,af,_,_⟩:=Hr.out
     exact ⟨⟨_,rfl⟩,.inl ⟨z,W0,⟨p,he,ag,.inr ⟨am,HC.out⟩⟩,hJ,R.trans (Y.mono R.size)⟩⟩
   |some x=>
    obtain ⟨i,n⟩:=x
    have ak:=Im.qP Im.oq d _ _ _ HC.out
    rw [dP,<-aV] at ak
    have bp:1<=n:=ak.1
    have bk:p+n<=s.size:=by omega
    clear ak
    obtain ⟨IB,ao⟩:∃IB:ByteArray,(⟨i.bytes.toArray⟩:ByteArray)=IB:=⟨_,rfl⟩
    go_cut [5,6,7] (λv5 v6 v7 wx=>∃(b:Nat) (a:Option Addr) (cap:Nat),v5=.pointer (some ⟨b,0,none⟩)/\v6=.int .i64 n/\v7=.bool true/\Below wr.heap.size wr wx/\K3 wx b 0 (.bool i.list) (.string IB) (.slice a i.kids.length cap)/\Tr wx (d+1) wr.heap.size wx.heap.size (.bool i.list) (.string IB) (.slice a i.kids.length cap) i)
    case first=>
     go_region_with (go_at_call 206;refine (ab.out _ ?_).mono ?_;(first|exact q|exact q.drew|exact below_drewN q _|exact q.alloc jC _|exact below_drewN (q.alloc jC _) _|exact (below_drewN q _).alloc jC _);rintro e w3 ⟨an,ac⟩;obtain ⟨a3,ai,rfl,ah⟩:=an;simp only at ah⊢;rw [ao] at ah⊢;have aq:Hid (Tr _ _ _ _ _ _ _ _):=ah;clear ah;have I:Below wr.heap.size wr w3:=Below.trans (by first|exact q|exact q.drew|exact below_drewN q _|exact q.alloc jC _|exact below_drewN (q.alloc jC _) _|exact (below_drewN q _).alloc jC _) (ac.mono (by simp));(try (have hz:w3.heap[wr.heap.size]? =some (.cells #[.bool false,.string ⟨#[]⟩,.slice none 0 0] 103 (0,0)):=(ac.block wr.heap.size (by simp)).trans (by first|exact heap_alloc_new _ _|(have:=heap_alloc_new (wr.drewN 0) (.cells #[.bool false,.string ⟨#[]⟩,.slice none 0 0] 103);simpa using this));have z0:w3.cell? ⟨wr.heap.size,0,none⟩=some (.bool false):=(by rw [aA hz];rfl);have z1:w3.cell? ⟨wr.heap.size,1,none⟩=some (.string ⟨#[]⟩):=(by rw [aA hz];rfl);have z2:w3.cell? ⟨wr.heap.size,2,none⟩=some (.slice none 0 0):=(by rw [aA hz];rfl);have fz:=aI hz)))
     all_goals
      go_wp2_with fail
      go_meet
      first
       |exact ⟨_,a3,ai,rfl,rfl,rfl,EU I aq.out (by simp) _⟩
       |exact ⟨_,a3,ai,rfl,rfl,rfl,Oa I aq.out (by simp) hz⟩
    case rest=>
     obtain ⟨b,a,cap,rfl,rfl,rfl,Y,⟨k0,k1,k2⟩,ae⟩:=hcut
     rw [fC] at k1 k2
     rw [<-ao] at ae
     obtain ⟨he,ag,aw,ax,hJ,R,af,_,_⟩:=Hr.out
     have a7:=R.trans (Y.mono R.size)
     obtain ⟨fn,tmps,assign,body,hy,hR⟩:=HY.out z ⟨p+n,i,a,cap⟩ W0 wc hJ a7 ⟨by omega,ae.wider R.size jC⟩
     simp only [X.encs,Int.natCast_add] at hy
     rw [ao] at hy
     have HR:Hid _:=hR
     have bq:Hid _:=ae
     clear hR ae
     have bm:(p:Int)+(n:Int)<=16777216:=by omega
     gi_wp2
     refine RoundIn.mono HR.out ?_
     rintro e W3 (⟨rfl,bj,bo,ap⟩|⟨rfl,az⟩)
     ·gi_wp2
      go_roundw
      case rel=>
       have q0:=ap 1 (.inl rfl)
       have q1:=ap sB (.inr (.inl rfl))
       have q2:=ap dB (.inr (.inr rfl))
       have s5:=Y.size
       have bh:=af.below Y af.pos
       refine ⟨z++[⟨p+n,i,a,cap⟩],W3,p+n,by simp,⟨?_,ny _ _,bk,by simp;omega,bj,aB _ _,?_,by omega,by omega⟩,?_,?_⟩
       ·rw [aY]
        exact Im.mJ.snoc he (by rw [<-aV];exact am) HC.out
       ·obtain ⟨⟨a0,a1,a2⟩,a3,a4,a5⟩:=bh
        exact ⟨⟨(World.cell?_of_block q0).trans a0,(World.cell?_of_block q0).trans a1,(World.cell?_of_block q0).trans a2⟩,(World.cell?_of_block q0).trans a3,(World.cell?_of_block q0).trans a4,(World.cell?_of_block q0).trans a5⟩
       ·exact (World.cell?_of_block q1).trans ((Y.cell (p:=⟨sB,0,none⟩) bg).trans c0)
       ·exact (World.cell?_of_block q2).trans ((Y.cell (p:=⟨dB,0,none⟩) a9).trans c1)
      case measure=>simp [intOf];omega
     ·gi_wp2
      refine bodyPost_ret (results_none rfl _ _ _) rfl ?_
      refine ⟨⟨_,rfl⟩,.inr ⟨z++[⟨p+n,i,a,cap⟩],W3,⟨p+n,?_,ny _ _⟩,az,aB _ _⟩⟩
      rw [aY]
      exact Im.mJ.snoc he (by rw [<-aV];exact am) HC.out
  ·have a6:¬(p:Int) < (s.size:Int):=by omega
   gi_wp2
   go_end0
   obtain ⟨he,ag,aw,ax,hJ,R,af,_,_⟩:=Hr.out
   exact ⟨⟨_,rfl⟩,.inl ⟨z,⟨p,he,ag,.inl (by omega)⟩,W0,hJ,R⟩⟩
end
section
open Go.RowKit Go.Joins
section
variable {w w' A B:World} {n lo base e k g cap size:Nat} {v:Value} {ks:List Im.It} {row:Option Nat} {xs:List Value}
theorem Tr.JQ:∀(n lo q:Nat) (c0 z I:Value) (i:Im.It),(∀k o,lo<=k->k < q->w.heap[k]? =some o->o.isCells=true->w'.heap[k]? =some o)->Tr w n lo q c0 z I i->Tr w' n lo q c0 z I i
 |0,_,_,_,_,_,_,_,h=>h
 |n+1,lo,q,c0,z,I,i,hk,h=>by
  obtain ⟨h0,xs,L,H,Y,h2,h3,h4,h5⟩:=h
  refine ⟨h0,xs,L,H,⟨Y.1,?_⟩,h2,h3,h4,λj hj=>?_⟩
  ·rcases Y.2 with hz|⟨g,cap,E,hv,R,hh,r⟩
   ·exact .inl hz
   ·exact .inr ⟨g,cap,E,hv,R,hk g _ R (h2 g (by rw [hv];rfl)) hh rfl,r⟩
  ·obtain ⟨d0,d1,J,e0,e1,e2,e3⟩:=h5 j hj
   have:=h3 j hj
   exact ⟨d0,d1,J,e0,e1,e2,Tr.JQ n (L j) (H j) d0 d1 J _ (λk o a b=>hk k o (by omega) (by omega)) e3⟩
theorem Row.JQ {q:Nat} (h:Row w n lo q v ks) (hk:∀k o,lo<=k->k < q->w.heap[k]? =some o->o.isCells=true->w'.heap[k]? =some o):Row w' n lo q v ks:=
 (Tr.JQ (n+1) lo q (.bool true) (.string ⟨#[]⟩) v ⟨true,[],ks⟩ hk ⟨⟨rfl,rfl⟩,h⟩).2
theorem kN (I:A.grownBy B row) (E:∀r,row=some r->∃o:Obj,A.heap[r]? =some o/\o.isCells=false):∀(k:Nat) (o:Obj),A.heap[k]? =some o->o.isCells=true->B.heap[k]? =some o:=by
 intro k o hk z
 refine (I.block k (jE hk) (λe=>?_)).trans hk
 obtain ⟨o',q,h2⟩:=E k e.symm
 rw [hk] at q
 cases q
 rw [z] at h2
 cases h2
theorem Row.turn (h:Row A n lo A.heap.size v ks) (q:A.grownBy B row) (z:∀r,row=some r->∃o:Obj,A.heap[r]? =some o/\o.isCells=false):Row B n lo B.heap.size v ks:=
 (h.JQ (λk o _ _=>kN q z k o)).wider jC q.size
theorem Tr.turn {c0 E q:Value} {i:Im.It} (h:Tr A n lo A.heap.size c0 E q i) (z:A.grownBy B row) (I:∀r,row=some r->∃o:Obj,A.heap[r]? =some o/\o.isCells=false):Tr B n lo B.heap.size c0 E q i:=
 (Tr.JQ n _ _ _ _ _ _ (λk o _ _=>kN z I k o) h).wider jC z.size
theorem Dn {F:Fence} {P:Program} {o:Oper} {a:Act} {K:Act->World->Prop} {Q:Exit->Act->World->Prop} {s x:Operand} {t:TypeId} {u v':Value} (hw:Bool) (q:hw=true)
  (I:o.op=.call { callee:=.builtin .append,args:=#[s,x],argTypes:=#[t,t] }) (hs:a.eval s=v) (Y:a.eval x=u) (R:(Builtin.append_ #[t,t] o.type #[v,u]).run P w=.ok v' w') (J:K (a.put o.dst v') w') {E:Prop}:
  if hw=true then Oper.wpIn F n P o a w K Q else E:=by
 rw [if_pos q]
 unfold Oper.wpIn
 refine ⟨?_,?_⟩
 ·simp [Oper.about,I,resolve,Target.leads,Sem.run_pure]
 ·rw [Oper.semAt_plain F _ _ (by rw [I];intro c z;cases z)]
  simp [execOp,I,resolve,invoke,builtin,hs,Y,R,Result.andThen]
  exact J
theorem Tf {z0 z1 z2:Value} (h:w.ownsRow base e 3 (.slice (some ⟨g,0,none⟩) (k+1) cap) (k+1) (xs++[z0,z1,z2])) (I:xs.length=k * 3) (d0 d1 J:Value):
  (((w.setCell ⟨g,k * 3,none⟩ d0).setCell ⟨g,k * 3+1,none⟩ d1).setCell ⟨g,k * 3+2,none⟩ J).ownsRow base e 3 (.slice (some ⟨g,0,none⟩) (k+1) cap) (k+1) (xs++[d0,d1,J]):=by
 refine ⟨by simp [I];omega,?_⟩
 rcases h.2 with ⟨h1,_⟩|⟨g',aa,q,hv,hb,hh,z,R,E,ht⟩
 ·simp at h1
 ·simp only [Value.slice.injEq,aC,Addr.mk.injEq,and_true,true_and] at hv
  obtain ⟨rfl,rfl⟩:=hv
  have a1:=block_setCell hh (i:=k * 3) d0
  have a2:=block_setCell a1 (i:=k * 3+1) d1
  have a3:=block_setCell a2 (i:=k * 3+2) J
  refine .inr ⟨g,cap,_,rfl,hb,a3,z,R,by simp [E],?_⟩
  have ab:(k+1) * 3<=q.toList.length:=by rw [jk,E];exact fD 3 z
  have Y:q.toList.take (k * 3)=xs:=by
   have:=congrArg (List.take (k * 3)) ht
   rw [List.take_take,fO (by omega)] at this
   rw [this,<-I]
   simp
  apply List.ext_getElem?
  intro i
  simp only [Array.toList_setIfInBounds,gG]
  by_cases h3:i < (k+1) * 3
  ·rw [if_pos h3]
   by_cases hi:i < k * 3
   ·rw [bP (by omega),<-Y,gG,if_pos hi]
    simp only [iK]
    rw [if_neg (by omega),if_neg (by omega),if_neg (by omega)]
   ·rw [bK (by omega),I]
    simp only [iK,List.length_set]
    rcases (by omega:i=k * 3\/i=k * 3+1\/i=k * 3+2) with rfl|rfl|rfl
    ·rw [if_neg (by omega),if_neg (by omega),if_pos rfl,if_pos (by omega),Nat.sub_self];rfl
    ·rw [if_neg (by omega),if_pos rfl,if_pos (by omega),show k * 3+1 - k * 3=1 from by omega];rfl
    ·rw [if_pos rfl,if_pos (by omega),show k * 3+2 - k * 3=2 from by omega];rfl
  ·rw [if_neg h3,List.getElem?_eq_none (by simp [I];omega)]
theorem MJ (h:w.ownsRow base e size v k xs) (hk:0 < k):∃g cap,v=.slice (some ⟨g,0,none⟩) k cap:=by
 rcases h.2 with ⟨_,z⟩|⟨g,cap,q,rfl,_⟩
 ·omega
 ·exact ⟨g,cap,rfl⟩
theorem AP (h:w.ownsRow base e size v k xs):∃a cap,v=.slice a k cap:=by
 rcases h.2 with ⟨rfl,z⟩|⟨g,cap,q,rfl,_⟩
 ·exact ⟨none,0,by rw [z]⟩
 ·exact ⟨_,cap,rfl⟩
theorem Lr (h:w.ownsRow base e size v k xs) (g:Nat) (o:Obj) (q:v.ownBlock=some g) (z:w.heap[g]? =some o):o.isCells=true:=by
 rcases h.2 with ⟨rfl,J⟩|⟨g',cap,E,rfl,_,I,_⟩
 ·simp [Value.ownBlock] at q
 ·simp [Value.ownBlock] at q
  subst q
  rw [I] at z
  cases z
  rfl
theorem xB (b n:Nat):(⟨b,0,none⟩:Addr).add n=⟨b,n,none⟩:=by
 unfold Addr.add
 split
 ·rename_i h;subst h;rfl
 ·simp
theorem vJ {l j:Nat} (h:w.ownsRow base e size (.slice (some ⟨g,0,none⟩) l cap) k xs):w.frozen? ⟨g,j,none⟩=false:=by
 rcases h.2 with ⟨J,_⟩|⟨g',z,E,q,R,I,_⟩
 ·simp at J
 ·simp only [Value.slice.injEq,aC,Addr.mk.injEq,and_true] at q
  obtain ⟨rfl,_⟩:=q
  exact aI I j
end
end
section
open Go.RowKit Go.Joins Go.Shelf
attribute [local go_sem] Oper.semAt_some
variable {g B:Nat} {v:Value}
theorem Ak (s:ByteArray) (q:Int) (w:World):
  Calls PQ 174 #[.string s,.int .i64 q] w λe w'=>e=.returned (.func (.func 205) #[] #[.pointer (some ⟨w.heap.size,0,none⟩),.pointer (some ⟨w.heap.size+1,0,none⟩)])/\w'=(w.alloc (.cells #[.string s] 9)).alloc (.cells #[.int .i64 q] 3):=by
 go_enter (fq Tryz.func174 rfl),Tryz.ntmps174
 go_wp2_with fail
 go_ret
 exact ⟨rfl,rfl⟩
def Rx (n lo:Nat) (w':World) (e:Ending):Option (List Im.It)->Prop
 |none=>e=.returned (.tuple #[.slice none 0 0,.bool false])
 |some ks=>∃a cap,e=.returned (.tuple #[.slice a ks.length cap,.bool true])/\Row w' n lo w'.heap.size (.slice a ks.length cap) ks
def WI (d z:Nat) (w:World) (q:List X) (W:World):Prop:=
 (∃v,Boxed W z 101 v/\Row W (d+1) (z+4) W.heap.size v (q.map X.i))/\Boxed W (z+1) 3 (.int .i64 (qH q))/\Below z w W/\z+4<=W.heap.size
theorem WI.own (d E:Nat) (w:World):OwnFrom (E+4) (WI d E w):=by
 rintro I A B row ⟨⟨v,J,h2⟩,h3,h4,R⟩ q z
 refine ⟨⟨v,J.kept q (λe=>?_),h2.turn q (λr e=>(z r e).2)⟩,h3.kept q (λe=>?_),h4.grown q (by omega) (λk e=>by have:=(z k e).1;omega),by have:=q.size;omega⟩
 ·have:=(z _ e.symm).1;omega
 ·have:=(z _ e.symm).1;omega
theorem rD (w:World) {a b:Addr} (x y:Value) (h:a.block≠b.block):(w.setCell a x).setCell b y=(w.setCell b y).setCell a x:=by
 have e:∀(A:Array Obj) (f g:Obj->Obj) (i j:Nat),i≠j->(A.modify i f).modify j g=(A.modify j g).modify i f:=by
  intro A f g i j q
  apply fP
  intro k
  simp only [bI]
  by_cases z:i=k
  ·subst z
   rw [if_neg (Ne.symm q)]
   simp [Ne.symm q]
  ·by_cases h2:j=k
   ·subst h2
    simp [z]
   ·simp [z,h2]
 simp only [World.setCell]
 rw [e _ _ _ _ _ h]
theorem BZ (w:World) {i:Nat} (x y z u:Value) (h:B≠g):(((w.setCell ⟨B,0,none⟩ u).setCell ⟨g,i,none⟩ x).setCell ⟨g,i+1,none⟩ y).setCell ⟨g,i+2,none⟩ z=(((w.setCell ⟨g,i,none⟩ x).setCell ⟨g,i+1,none⟩ y).setCell ⟨g,i+2,none⟩ z).setCell ⟨B,0,none⟩ u:=by
 rw [rD w u x h,rD _ u y h,rD _ u z h]
theorem kW {W:World} {t:TypeId} (h:Boxed W B t v) (a:Addr) (x:Value) (q:B≠a.block):Boxed (W.setCell a x) B t v:=(aP _ _ _ _ q).trans h
theorem Pz {w R W1 G U w' F:World} {d z E:Nat} {q:List X} {x:X} {xs:List Value} {L H:Nat->Nat} {c0 c1 c2 z0 z1 z2:Value} {N:Nat} (h0:1 < z)
  (an:Below z w R) (ap:z+4<=R.heap.size) (b0:Boxed R z 101 v) (b1:Boxed R (z+1) 3 (.int .i64 (qH q)))
  (q1:R.ownsRow (z+4) 103 3 v q.length xs)
  (q3:∀j,j < (q.map X.i).length->z+4<=L j/\L j<=H j/\H j<=R.heap.size/\(∀g,v.ownBlock=some g->g < L j\/H j<=g)) (q4:∀a b,a < b->b < (q.map X.i).length->H a<=L b)
  (q5:∀(j:Nat) (hj:j < (q.map X.i).length),∃d0 d1 d2,xs[j * 3]? =some d0/\xs[j * 3+1]? =some d1/\xs[j * 3+2]? =some d2/\Tr R (d+1) (L j) (H j) d0 d1 d2 ((q.map X.i)[j]))
  (hb:Below R.heap.size R W1) (ht:Tr W1 (d+1) R.heap.size W1.heap.size c0 c1 c2 x.i) (gb:Below W1.heap.size W1 G) (ub:Below G.heap.size G U)
  (aa:w'.ownsRow (z+4) 103 3 (.slice (some ⟨g,0,none⟩) (q.length+1) E) (q.length+1) (xs++[z0,z1,z2]))
  (I:U.grownBy w' v.ownBlock) (aj:Value.ownBlock (.slice (some ⟨g,0,none⟩) (q.length+1) E)=v.ownBlock\/∃g',Value.ownBlock (.slice (some ⟨g,0,none⟩) (q.length+1) E)=some g'/\U.heap.size<=g')
  (hF:F=((((w'.setCell ⟨g,q.length * 3,none⟩ c0).setCell ⟨g,q.length * 3+1,none⟩ c1).setCell ⟨g,q.length * 3+2,none⟩ c2).setCell ⟨z,0,none⟩ (.slice (some ⟨g,0,none⟩) (q.length+1) E)).setCell ⟨z+1,0,none⟩ (.int .i64 x.e)):
  KeepsFrom N G F/\(∀k,k=1\/k=z+1+1\/k=z+1+1+1->F.heap[k]? =G.heap[k]?)/\WI d z w (q++[x]) F:=by
 have s1:=hb.size
 have s2:=gb.size
 have s3:=ub.size
 have s4:=I.size
 have am:=xs_len q1
 have ak:Below R.heap.size R G:=hb.trans (gb.mono s1)
 have ac:Below R.heap.size R U:=ak.trans (ub.mono (by omega))
 have qU:U.ownsRow (z+4) 103 3 v q.length xs:=own_below q1 ac
 have ab:∀m,v.ownBlock=some m->z+4<=m:=λm hm=>(qp q1 hm).1
 have hg:=qp aa (g:=g) rfl
 obtain ⟨W4,J⟩:∃W4:World,W4=((w'.setCell ⟨g,q.length * 3,none⟩ c0).setCell ⟨g,q.length * 3+1,none⟩ c1).setCell ⟨g,q.length * 3+2,none⟩ c2:=⟨_,rfl⟩
 have ag:W4.ownsRow (z+4) 103 3 (.slice (some ⟨g,0,none⟩) (q.length+1) E) (q.length+1) (xs++[c0,c1,c2]):=by rw [J];exact Tf aa am _ _ _
 have s5:W4.heap.size=w'.heap.size:=by rw [J];simp [World.setCell]
 have Y:∀k,k≠g->W4.heap[k]? =w'.heap[k]?:=λk hk=>by
  rw [J,aP _ _ _ _ hk,aP _ _ _ _ hk,aP _ _ _ _ hk]
 have ao:U.grownBy W4 v.ownBlock:=⟨by rw [J];exact I.os,by rw [J];exact I.tape,by rw [J];exact I.output,by omega,λk hk af=>by
  rw [Y k ?_]
  ·exact I.block k hk af
  ·rintro rfl
   rcases aj with e|⟨g',e,aq⟩
   ·exact af e
   ·simp [Value.ownBlock] at e;omega⟩
 have ah:(q.map X.i).length=q.length:=by simp
 have ai:Row W4 (d+1) (z+4) W4.heap.size (.slice (some ⟨g,0,none⟩) (q.length+1) E) (q.map X.i++[x.i]):=
  Row.step (w:=R) (w1:=W1) (w3:=U) (v:=v) (xs:=xs) (L:=L) (H:=H) (by omega) (by rw [ah];exact q1) q3 q4 q5 ht hb (gb.trans (ub.mono s2)) (by rw [ah];exact ag) ao aj
 rw [<-J] at hF
 have ae:∀k,k≠z->k≠z+1->F.heap[k]? =W4.heap[k]?:=λk h1 h2=>by
  rw [hF,aP _ _ _ _ h2,aP _ _ _ _ h1]
 have s6:F.heap.size=W4.heap.size:=by rw [hF];simp [World.setCell]
 have e0:Boxed w' z 101 v:=(I.block _ (by omega) (λe=>by have:=ab _ e.symm;omega)).trans ((ac.block _ (by omega)).trans b0)
 have e1:Boxed w' (z+1) 3 (.int .i64 (qH q)):=(I.block _ (by omega) (λe=>by have:=ab _ e.symm;omega)).trans ((ac.block _ (by omega)).trans b1)
 have f0:Boxed W4 z 101 v:=(Y _ (by omega)).trans e0
 have f1:Boxed W4 (z+1) 3 (.int .i64 (qH q)):=(Y _ (by omega)).trans e1
 refine ⟨KeepsOthers.from ?_ _,?_,⟨(.slice (some ⟨g,0,none⟩) (q.length+1) E),?_,?_⟩,?_,?_,by omega⟩
 ·have k1:KeepsOthers G U:=⟨ub.size,λk o hk _=>(ub.block k (jE hk)).trans hk⟩
  have k2:KeepsOthers U w':=KeepsOthers.of_grownBy I (λj o ej hj=>Lr qU j o ej hj)
  rw [hF,J]
  exact (k1.trans k2).trans (((((KeepsOthers.setCell _ _ _).trans (KeepsOthers.setCell _ _ _)).trans (KeepsOthers.setCell _ _ _)).trans (KeepsOthers.setCell _ _ _)).trans (KeepsOthers.setCell _ _ _))
 ·intro k hk
  have ar:k < z+4:=by omega
  rw [ae k (by omega) (by omega),Y k (by omega),I.block k (by omega) (λe=>by have:=ab _ e.symm;omega),ub.block k (by omega)]
 ·rw [hF];exact kW (f0.set _) _ _ (by simp)
 ·rw [aY]
  exact (ai.kept (w':=F) (λk k1 k2=>ae k (by omega) (by omega))).wider jC (by omega)
 ·rw [hF,ny];exact (kW f1 _ _ (by simp)).set _
 ·have b5:Below z w w':=(an.trans (ac.mono (by omega))).grown I (by omega) (λm hm=>by have:=ab m hm;omega)
  rw [hF,J]
  exact ((((b5.setCell (by show z<=g;omega) _).setCell (by show z<=g;omega) _).setCell (by show z<=g;omega) _).setCell jC _).setCell (by show z<=z+1;omega) _
end
end Go.Proofs.YtpibpdpedjinhaaGreatDoor
