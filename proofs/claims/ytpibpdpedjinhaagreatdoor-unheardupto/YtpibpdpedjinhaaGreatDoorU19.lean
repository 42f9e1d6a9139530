import Derived.Test.YtpibpdpedjinhaaGreatDoorU18
import Derived.Shelf.Strings.Builder2
import Derived.Shelf.Strings.BuilderK
import Derived.Shelf.Strings.Repeat
import Derived.Shelf.Strconv.Itoa0
import Derived.Laws.ResultCell
set_option maxRecDepth 100000
set_option maxHeartbeats 4000000
namespace Go.Proofs.YtpibpdpedjinhaaGreatDoor
namespace Dv
open Fr (F)
section
structure Tx where
 fr:Nat
 dest:Nat
 data:List UInt8
structure U where
 id:Int
 time:Int
 txs:List Tx
 logs:List (List UInt8)
instance:Inhabited U:=⟨⟨0,0,[],[]⟩⟩
structure Cf where
 inbox:Nat
 batcher:Nat
 timeout:Int
 window:Int
 drift:Int
 step:Int
 most:Int
structure Ch where
 name:Nat
 opened:Nat
 l:List F
 spoilt:Bool
structure Ba where
 epoch:Nat
 id:Nat
 time:Nat
 txs:List (List UInt8)
 place:Nat
structure Lo where
 number:Nat
 time:Int
 epoch:Nat
 id:Int
 seq:Nat
 txs:List (List UInt8)
 deps:List (List UInt8)
 at_:Nat
instance:Inhabited Lo:=⟨⟨0,0,0,0,0,[],[],0⟩⟩
def last (l:List F):Option Nat:=(l.find? (·.last)).map (·.num)
def has (l:List F) (n:Nat):Option (List UInt8):=(l.find? (λx=>x.num == n)).map (·.data)
def qI (l:List F):Nat->Option (List UInt8)
 |0=>some []
 |k+1=>(qI l k).bind λs=>(has l k).map λd=>s++d
def bytes (l:List F):Option (List UInt8):=(last l).bind λn=>qI l (n+1)
def size (l:List F):Nat:=(l.map λx=>x.data.length).sum
def nM (c:Ch) (f:F):Bool:=(has c.l f.num).isSome || c.spoilt || (match last c.l with|some n=>f.last || decide (n < f.num)|none=>false)
def goes (f x:F):Bool:=f.last&&decide (f.num < x.num)
def grown (c:Ch) (f:F):List F:=(c.l++[f]).filter λx=>!goes f x
def joined (most:Int) (c:Ch) (f:F):Ch:=
 if nM c f then c
 else if most < (size (grown c f):Int) then { c with l:=[],spoilt:=true } else { c with l:=grown c f }
def frame (most:Int) (n:Nat) (cs:List Ch) (f:F):List Ch:=
 if f.num=0 then cs.filter (λc=>c.name != f.chan)++[joined most ⟨f.chan,n,[],false⟩ f]
 else cs.map λc=>if c.name=f.chan then joined most c f else c
def qc (c:Cf) (t:Tx):List F:=if t.dest=c.inbox/\t.fr=c.batcher then (Fr.frames t.data).getD [] else []
def heard (c:Cf) (txs:List Tx):List F:=txs.flatMap (qc c)
def pull:List Ch->List (List UInt8)×List Ch
 |[]=>([],[])
 |c::cs=>match bytes c.l with
  |none=>([],c::cs)
  |some s=>(s::(pull cs).1,(pull cs).2)
def value (i:Im.It):Option Nat:=
 if i.list || decide (8 < i.bytes.length) || (i.bytes != []&&i.bytes.getD 0 0 == 0) || (i.bytes.length == 8&&decide (64<=(i.bytes.getD 0 0).toNat)) then none
 else some (Im.val i.bytes 0)
def qM (l:Im.It) (place:Nat):Option Ba:=
 match l.list,l.kids with
 |true,[a,b,c,d]=>
  if d.list=false then none else
  match value a,value b,value c with
  |some x,some y,some z=>if d.kids.all (λt=>!t.list) then some ⟨x,y,z,d.kids.map (·.bytes),place⟩ else none
  |_,_,_=>none
 |_,_=>none
def wM (i:Im.It) (place:Nat):Option Ba:=
 if i.list then none else
 match i.bytes with
 |[]=>none
 |x::r=>if x=0 then (Im.dec r).bind (λl=>qM l place) else none
def rd:Nat->List UInt8->Nat->List Ba
 |0,_,_=>[]
 |f+1,s,n=>if s=[] then [] else
  match Im.read Im.body 8 s with
  |none=>[]
  |some (i,k)=>match wM i n with
   |none=>[]
   |some b=>(if b.epoch<=n then [b] else [])++rd f (s.drop k) n
def reads (s:List UInt8) (n:Nat):List Ba:=rd (Sq.spread s.length s 4096 []).1.length (Sq.spread s.length s 4096 []).1 n
def take (c:Cf) (u:U) (n:Nat) (cs:List Ch) (wait:List Ba):List Ch×List Ba:=
 let cs1:=cs.filter λx=>decide ((n:Int) - (x.opened:Int)<=c.timeout)
 let cs2:=(heard c u.txs).foldl (frame c.most n) cs1
 ((pull cs2).2,wait++(pull cs2).1.flatMap (λs=>reads s n))
def isDep (s:List UInt8):Bool:=
 match Im.dec s with
 |some i=>match i.list,i.kids with
  |true,[a,b]=>!a.list&&!b.list&&decide (0 < a.bytes.length)&&decide (a.bytes.length < 9)&&decide (b.bytes.length < 65)
  |_,_=>false
 |none=>false
def jP (u:U):List (List UInt8):=u.logs.filter isDep
inductive Out where
 |no
 |hold
 |got (b:Ba)
section
variable (c:Cf) (chain:List U) (n:Nat)
def late (e:Nat) (t:Int) (b:Ba):Bool:=decide ((b.time:Int) < t) || decide (b.epoch < e) || decide (e+1 < b.epoch) || decide ((b.epoch:Int)+c.window < (b.place:Int))
def holds (e:Nat) (t:Int) (b:Ba):Bool:=(b.epoch == e+1&&decide (n < e+1)) || (b.txs.isEmpty&&b.epoch == e&&decide (n < e+1)&&decide ((chain[e]!).time+c.drift < t))
def wrong (e:Nat) (t:Int) (b:Ba):Bool:=decide ((b.id:Int)≠(chain[b.epoch]!).id) || decide (t < (chain[b.epoch]!).time) || (decide ((chain[b.epoch]!).time+c.drift < t)&&(!b.txs.isEmpty || (b.epoch == e&&decide ((chain[e+1]!).time<=t))))
def sift (e:Nat) (t:Int):List Ba->Out×List Ba
 |[]=>(.no,[])
 |b::r=>
  if t < (b.time:Int) then ((sift e t r).1,b::(sift e t r).2)
  else if late c e t b then sift e t r
  else if holds c chain n e t b then (.hold,b::r)
  else if wrong c chain e t b then sift e t r
  else (.got b,r)
def lay (h:Lo) (epoch:Nat) (txs:List (List UInt8)):Lo:=
 ⟨h.number+1,h.time+c.step,epoch,(chain[epoch]!).id,if epoch=h.epoch then h.seq+1 else 0,txs,if epoch=h.epoch then [] else jP (chain[epoch]!),n⟩
def draw (h:Lo) (wait:List Ba):Option Lo×List Ba:=
 let r:=sift c chain n h.epoch (h.time+c.step) wait
 match r.1 with
 |.hold=>(none,r.2)
 |.got b=>(some (lay c chain n h b.epoch b.txs),r.2)
 |.no=>if (n:Int)<=(h.epoch:Int)+c.window then (none,r.2) else (some (lay c chain n h (if (chain[h.epoch+1]!).time<=h.time+c.step then h.epoch+1 else h.epoch) []),r.2)
def draws:Nat->Lo->List Ba->List Lo×List Ba
 |0,_,wait=>([],wait)
 |f+1,h,wait=>match draw c chain n h wait with
  |(none,k)=>([],k)
  |(some x,k)=>(x::(draws f x k).1,(draws f x k).2)
end
structure St where
 chs:List Ch
 wait:List Ba
 log:List Lo
def left (chain:List U) (n:Nat) (h:Lo) (wait:List Ba):Nat:=wait.length+(n - h.epoch)+((chain[n]!).time - h.time).toNat
def step (c:Cf) (chain:List U) (n:Nat) (s:St):St:=
 let r:=take c (chain[n]!) n s.chs s.wait
 let h:=s.log.getLastD default
 let d:=draws c chain n (left chain n h r.2+1) h r.2
 ⟨r.1,d.2,s.log++d.1⟩
def first (u:U):Lo:=⟨0,u.time,0,u.id,0,[],jP u,0⟩
def start (chain:List U):St:=⟨[],[],[first (chain[0]!)]⟩
def gone (c:Cf) (chain:List U):Nat->St
 |0=>start chain
 |k+1=>step c chain k (gone c chain k)
def jQ (c:Cf):Bool:=decide (1<=c.timeout/\c.timeout<=8/\1<=c.window/\c.window<=8/\0<=c.drift/\c.drift<=100/\2<=c.step/\c.step<=20/\1<=c.most/\c.most<=4096)
def small (u:U):Bool:=decide (u.txs.length<=20/\u.logs.length<=20)&&u.txs.all (λt=>decide (t.data.length<=2000))&&u.logs.all (λs=>decide (s.length<=2000))
def mY (z:Option Int) (u:U):Bool:=(match z with
 |none=>decide (0<=u.time/\u.time<=1000000)
 |some b=>decide (b < u.time/\u.time<=b+24))&&small u
def jW:Option Int->List U->Bool
 |_,[]=>true
 |b,u::r=>mY b u&&jW (some u.time) r
def jS (chain:List U):Bool:=decide (1<=chain.length/\chain.length<=60)&&jW none chain
def all (c:Cf) (chain:List U):Int×List Lo:=
 if jQ c=false then (1,[]) else if jS chain=false then (2,[]) else (0,(gone c chain chain.length).log)
end
end Dv
section
open Go.RowKit Go.Joins
section
variable {B:Nat} {w w':World}
def K3 (w:World) (b o:Nat) (z I E:Value):Prop:=w.cell? ⟨b,o,none⟩=some z/\w.cell? ⟨b,o+1,none⟩=some I/\w.cell? ⟨b,o+2,none⟩=some E
def In (B:Nat) (w:World):Nat->Value->Value->Value->Im.It->Prop
 |0,_,_,_,_=>False
 |n+1,c0,c1,c2,i=>c0=.bool i.list/\c1=.string ⟨i.bytes.toArray⟩/\∃a cap,c2=.slice a i.kids.length cap/\(i.kids≠[]->∃b off,a=some ⟨b,off,none⟩/\b < B/\∀(j:Nat) (J:j < i.kids.length),∃E I z,K3 w b (off+j * 3) E I z/\In B w n E I z (i.kids[j]))
theorem K3.below {b o:Nat} {I R J:Value} (h:K3 w b o I R J) (E:Below B w w') (z:b < B):K3 w' b o I R J:=
 ⟨(E.cell (p:=⟨b,o,none⟩) z).trans h.1,(E.cell (p:=⟨b,o+1,none⟩) z).trans h.2.1,(E.cell (p:=⟨b,o+2,none⟩) z).trans h.2.2⟩
theorem In.below (hb:Below B w w'):∀(n:Nat) (c0 I J:Value) (i:Im.It),In B w n c0 I J i->In B w' n c0 I J i
 |0,_,_,_,_,h=>h
 |n+1,c0,I,J,i,h=>by
  obtain ⟨h0,h1,a,cap,h2,h3⟩:=h
  refine ⟨h0,h1,a,cap,h2,λhk=>?_⟩
  obtain ⟨b,off,ha,z,hj⟩:=h3 hk
  refine ⟨b,off,ha,z,λj E=>?_⟩
  obtain ⟨d0,d1,d2,Y,R⟩:=hj j E
  exact ⟨d0,d1,d2,Y.below hb z,In.below hb n d0 d1 d2 _ R⟩
theorem In.shape {n:Nat} {c0 E z:Value} {i:Im.It} (h:In B w n c0 E z i):∃a cap,c0=.bool i.list/\E=.string ⟨i.bytes.toArray⟩/\z=.slice a i.kids.length cap:=by
 cases n with
 |zero=>cases h
 |succ n=>
  obtain ⟨J,I,a,cap,h2,_⟩:=h
  exact ⟨a,cap,J,I,h2⟩
theorem below_drewN {a:World} (h:Below B a w) (n:Nat):Below B a (w.drewN n):=h.trans ⟨rfl,rfl,rfl,jC,λ_ _=>rfl⟩
end
end
namespace Hm
open Go.RowKit Go.Joins Go.Shelf
section
variable {i:Im.It}
theorem bits_or_u64_nat (a b:Nat) (E:a < 18446744073709551616) (I:b < 18446744073709551616):bits .or .u64 (a:Int) (b:Int)=((a |||b:Nat):Int):=by
 have J:a |||b < 2 ^ 64:=Nat.or_lt_two_pow (by omega) (by omega)
 have z:(BitVec.ofInt 64 (a:Int)).toNat=a:=by
  rw [BitVec.ofInt_natCast,BitVec.toNat_ofNat];exact Nat.mod_eq_of_lt (by omega)
 have h2:(BitVec.ofInt 64 (b:Int)).toNat=b:=by
  rw [BitVec.ofInt_natCast,BitVec.toNat_ofNat];exact Nat.mod_eq_of_lt (by omega)
 show IntKind.u64.wrap ((BitVec.ofInt 64 (a:Int) |||BitVec.ofInt 64 (b:Int)).toNat:Int)=_
 rw [BitVec.toNat_or,z,h2,IntKind.wrap_u64]
 omega
theorem zL (s:List UInt8) (k:Nat) (hk:k < s.length):Im.val (s.take (k+1)) 0=256 * Im.val (s.take k) 0+(s.getD k 0).toNat:=by
 rw [dZ hk,Im.val_append]
 simp only [Im.val]
 rw [aS,aG hk]
 simp
 try omega
theorem qX:∀(s:List UInt8) (n:Nat),Im.val s n < (n+1) * 256 ^ s.length
 |[],n=>by simp [Im.val]
 |x::s,n=>by
  have:=qX s (256 * n+x.toNat)
  have z:=x.toNat_lt
  simp only [Im.val,aN,Nat.pow_succ]
  refine aH this ?_
  rw [Nat.mul_comm (256 ^ s.length) 256,<-Nat.mul_assoc]
  exact fD _ (by omega)
theorem RJ:∀(s:List UInt8) (n:Nat),n * 256 ^ s.length<=Im.val s n
 |[],n=>by simp [Im.val]
 |x::s,n=>by
  have:=RJ s (256 * n+x.toNat)
  simp only [Im.val,aN,Nat.pow_succ]
  refine aW ?_ this
  rw [Nat.mul_comm (256 ^ s.length) 256,<-Nat.mul_assoc]
  exact fD _ (by omega)
theorem PV (s:List UInt8) (hs:s.length<=8):decide (4611686018427387903 < Im.val s 0)=(s.length == 8&&decide (64<=(s.getD 0 0).toNat)):=by
 by_cases z:s.length=8
 ·cases s with
  |nil=>simp at z
  |cons x s=>
   have I:s.length=7:=by simpa using z
   have E:=qX s x.toNat
   have h2:=RJ s x.toNat
   rw [I] at E h2
   have e:Im.val (x::s) 0=Im.val s x.toNat:=by simp [Im.val]
   rw [e,z]
   simp only [List.getD_cons_zero,beq_self_eq_true,Bool.true_and]
   exact decide_eq_decide.2 (by omega)
 ·have E:=qX s 0
  have h2:(256:Nat) ^ s.length<=256 ^ 7:=iH (by decide) (by omega)
  rw [show (s.length == 8)=false from beq_false_of_ne z,Bool.false_and]
  exact decide_eq_false (by omega)
def aae (o:Option Nat):Value:=.tuple #[.int .i64 ((o.getD 0:Nat):Int),.bool o.isSome]
theorem zQ (h:i.list=true\/8 < i.bytes.length\/(i.bytes≠[]/\(i.bytes.getD 0 0)=0)):Dv.value i=none:=by
 unfold Dv.value
 rw [if_pos]
 rcases h with h|h|⟨z,h2⟩
 ·simp [h]
 ·simp [h]
 ·simp only [iO]
  left;right
  rw [h2]
  simp [z]
theorem IW (z:i.list=false) (h2:i.bytes.length<=8) (h3:i.bytes=[]\/(i.bytes.getD 0 0)≠0):Dv.value i=if 4611686018427387903 < Im.val i.bytes 0 then none else some (Im.val i.bytes 0):=by
 have E:=PV i.bytes h2
 unfold Dv.value
 rw [z,<-E,decide_eq_false (show ¬8 < i.bytes.length by omega)]
 have:(i.bytes != []&&i.bytes.getD 0 0 == 0)=false:=by
  rcases h3 with h3|h3
  ·rw [h3];rfl
  ·rw [show (i.bytes.getD 0 0 == 0)=false from beq_false_of_ne h3,Bool.and_false]
 rw [this]
 simp
theorem rF (i:Im.It) (c2:Value) (w:World) (au:∃a n cap,c2=.slice a n cap):Calls PQ 176 #[.agg #[.bool i.list,.string ⟨i.bytes.toArray⟩,c2]] w λe w'=>e=.returned (aae (Dv.value i))/\Below w.heap.size w w':=by
 obtain ⟨a,n,cap,rfl⟩:=au
 obtain ⟨D,hD⟩:∃D:ByteArray,(⟨i.bytes.toArray⟩:ByteArray)=D:=⟨_,rfl⟩
 have I:D.data.toList=i.bytes:=by rw [<-hD]
 have J:D.size=i.bytes.length:=by rw [<-hD];rfl
 rw [hD]
 obtain ⟨R,hR⟩:∃R,Dv.value i=R:=⟨_,rfl⟩
 rw [hR]
 obtain ⟨li,E⟩:∃li,i.list=li:=⟨_,rfl⟩
 rw [E]
 obtain ⟨W,hW⟩:∃W,W=w.alloc (.cells #[.bool li,.string D,.slice a n cap] 103):=⟨_,rfl⟩
 have aa:Below w.heap.size w W:=by rw [hW];exact (aB _ w).alloc jC _
 have z0:W.cell? ⟨w.heap.size,0,none⟩=some (.bool li):=by rw [hW];simp
 have z1:W.cell? ⟨w.heap.size,1,none⟩=some (.string D):=by rw [hW];simp
 have H:Hid _:=jB I (jB J (jB hR (jB E aa)))
 cases li
 ·by_cases h8:D.size<=8
  ·have ax:¬(8:Int) < (D.size:Int):=by omega
   by_cases he:i.bytes=[]
   ·have ar:D=⟨#[]⟩:=by rw [<-hD,he]
    have z:=IW E (by omega) (.inl he)
    rw [hR,he] at z
    subst ar
    have Hv:Hid _:=z
    clear hD I J hR E aa z he
    go_enter (fq Tryz.func176 rfl),Tryz.ntmps176
    go_upto_region 1 with fail
    rw [<-hW]
    clear hW
    have ag:=λu:World=>Lib.run_convert_string_bytes (P:=PQ) u 9 155 5 ⟨#[]⟩ (uq Tryz.underlying9) (uq Tryz.underlying155) (uq Tryz.underlying5)
    go_wp2_with fail
    obtain ⟨Y,hY⟩:∃Y:World,Y=Lib.bytesWorld W 5 ⟨#[]⟩:=⟨_,rfl⟩
    have ab:Below w.heap.size w Y:=by rw [hY];exact Fr.below_bytesWorld H.out.2.2.2.2 H.out.2.2.2.2.size _ _
    rw [<-hY]
    have HY:Hid _:=ab
    clear hY ab ag
    go_loopg [5,7,29] 0 (λg v5 _ t wx=>v5=.int .u64 0/\t=.int .i64 0/\wx=Y)
    case atStart=>exact ⟨rfl,rfl,rfl⟩
    case round=>
     obtain ⟨rfl,rfl,rfl⟩:=hrel
     go_wp2_with fail
     go_ret2
     refine ⟨?_,HY.out⟩
     rw [Hv.out]
     rfl
   ·have h0:0 < D.size:=by
     rw [J]
     exact List.length_pos_iff.2 he
    have aq:D.toList.isEmpty=false:=by rw [Fr.toList_empty];exact decide_eq_false (by omega)
    obtain ⟨x,hx⟩:∃x:UInt8,i.bytes.getD 0 0=x:=⟨_,rfl⟩
    have ac:D[0]'h0=x:=by
     rw [<-hx,<-I,aS]
     have:D.data.toList[0]? =some (D[0]'h0):=by
      rw [aG (by simpa using h0)]
      rfl
     rw [this]
     rfl
    by_cases hz:x=0
    ·have z:=zQ (i:=i) (.inr (.inr ⟨he,by rw [hx];exact hz⟩))
     rw [hR] at z
     subst z
     have aj:(((D[0]'h0).toNat:Int) == 0)=true:=by rw [ac,hz];rfl
     clear hD I J hR E aa hx ac hz he
     go_enter (fq Tryz.func176 rfl),Tryz.ntmps176
     go_upto_region 1 with fail
     rw [<-hW]
     clear hW
     go_wp2_with fail
     go_ret2
     exact ⟨rfl,H.out.2.2.2.2⟩
    ·have z:=IW E (by omega) (.inr (by rw [hx];exact hz))
     rw [hR,<-I] at z
     have aj:(((D[0]'h0).toNat:Int) == 0)=false:=by
      rw [ac]
      refine beq_false_of_ne (λe=>hz ?_)
      have:x.toNat=0:=by omega
      exact jv.1 (by rw [this];rfl)
     have Hv:Hid _:=z
     clear hD I J hR E aa hx ac hz he z
     go_enter (fq Tryz.func176 rfl),Tryz.ntmps176
     go_upto_region 1 with fail
     rw [<-hW]
     clear hW
     have ag:=λu:World=>Lib.run_convert_string_bytes (P:=PQ) u 9 155 5 D (uq Tryz.underlying9) (uq Tryz.underlying155) (uq Tryz.underlying5)
     go_wp2_with fail
     obtain ⟨Y,hY⟩:∃Y:World,Y=Lib.bytesWorld W 5 D:=⟨_,rfl⟩
     have ab:Below w.heap.size w Y:=by rw [hY];exact Fr.below_bytesWorld H.out.2.2.2.2 H.out.2.2.2.2.size _ _
     have ao:∀k,k < D.size->Y.cell? ⟨W.heap.size,k,none⟩=some (.int .u8 (D.data.toList.getD k 0).toNat):=λk hk=>by rw [hY];exact Lib.bytesWorld_cell W 5 D k hk
     rw [<-hY]
     have HY:Hid _:=jB ao ab
     clear hY ao ab ag aj aq
     generalize grownCap W D.size 0 5=gc
     go_loopg [5,7,29] D.size (λg v5 _ t wx=>∃k:Nat,k<=D.size/\t=.int .i64 k/\v5=.int .u64 (Im.val (D.data.toList.take k) 0:Nat)/\g=D.size - k/\wx=Y)
     case atStart=>exact ⟨0,dF _,rfl,rfl,rfl,rfl⟩
     case round=>
      obtain ⟨k,hk,rfl,rfl,rfl,rfl⟩:=hrel
      by_cases ap:k < D.size
      ·have ai:(k:Int) < (D.size:Int):=by omega
       have hc:=HY.out.1 k (by omega)
       have af:=zL D.data.toList k (by rw [<-aV];exact ap)
       generalize hb:(D.data.toList.getD k 0).toNat=b at hc af
       have aw:b < 256:=by rw [<-hb];exact UInt8.toNat_lt _
       have az:Im.val (D.data.toList.take k) 0 < 72057594037927936:=by
        have h1:=qX (D.data.toList.take k) 0
        have h2:(256:Nat) ^ (D.data.toList.take k).length<=256 ^ 7:=iH (by decide) (by rw [aZ];omega)
        omega
       generalize an:Im.val (D.data.toList.take (k+1)) 0=V' at af
       have av:Hid _:=an
       clear an
       generalize Im.val (D.data.toList.take k) 0=V at *
       have Hb:Hid _:=hb
       clear hb
       go_wp2_with fail
       rw [show bits .or .u64 ((V:Int) * 256) (b:Int)=(V':Int) from by
        rw [show (V:Int) * 256=((V * 256:Nat):Int) from by omega,bits_or_u64_nat _ _ (by omega) (by omega),Fr.zB V b aw,af]]
       go_roundg (D.size - (k+1))
       case measure=>omega
       case rel=>
        refine ⟨k+1,by omega,by go_num,?_,rfl,rfl⟩
        rw [av.out]
      ·have ai:¬(k:Int) < (D.size:Int):=by omega
       obtain rfl:k=D.size:=by omega
       have z:=Hv.out
       rw [show D.data.toList.take D.size=D.data.toList from dV (by rw [<-aV];omega)]
       have ah:=qX D.data.toList 0
       have ae:(256:Nat) ^ D.data.toList.length<=256 ^ 8:=iH (by decide) (by rw [<-aV];exact h8)
       generalize Im.val D.data.toList 0=V at *
       have ay:V < 18446744073709551616:=by omega
       by_cases ak:4611686018427387903 < V
       ·rw [if_pos ak] at z
        have am:(4611686018427387903:Int) < (V:Int):=by omega
        subst z
        clear ah ae
        go_wp2_with fail
        go_ret2
        exact ⟨rfl,HY.out.2⟩
       ·rw [if_neg ak] at z
        have am:¬(4611686018427387903:Int) < (V:Int):=by omega
        subst z
        clear ah ae
        go_wp2_with fail
        go_ret2
        exact ⟨rfl,HY.out.2⟩
  ·have ax:(8:Int) < (D.size:Int):=by omega
   have z:=zQ (i:=i) (.inr (.inl (by omega)))
   rw [hR] at z
   subst z
   clear hD I J hR E aa
   go_enter (fq Tryz.func176 rfl),Tryz.ntmps176
   go_upto_region 1 with fail
   rw [<-hW]
   clear hW
   go_wp2_with fail
   go_ret2
   exact ⟨rfl,H.out.2.2.2.2⟩
 ·have z:=zQ (i:=i) (.inl E)
  rw [hR] at z
  subst z
  clear hD I J hR E aa
  go_enter (fq Tryz.func176 rfl),Tryz.ntmps176
  go_upto_region 1 with fail
  rw [<-hW]
  clear hW
  go_wp2_with fail
  go_ret2
  exact ⟨rfl,H.out.2.2.2.2⟩
end
open Go.RowKit Go.Joins
open Dv (Cf U Tx)
section
variable {w:World} {g off cap j:Nat} {α:Type}
theorem lZ (n a b:Int) (w:World):Calls PQ 66 #[.int .i64 n,.int .i64 a,.int .i64 b] w λe w'=>e=.returned (.bool (decide (a<=n)&&decide (n<=b)))/\w'=w:=by
 obtain ⟨r,z⟩:∃r,(decide (a<=n)&&decide (n<=b))=r:=⟨_,rfl⟩
 rw [z]
 have E:Hid _:=z
 clear z
 go_enter (fq Tryz.func66 rfl),Tryz.ntmps66
 by_cases I:a<=n
 ·by_cases h2:n<=b
  ·go_wp2_with fail
   go_ret
   refine ⟨?_,rfl⟩
   rw [<-E.out,decide_eq_true (by omega),decide_eq_true (by omega)];rfl
  ·go_wp2_with fail
   go_ret
   refine ⟨?_,rfl⟩
   rw [<-E.out,decide_eq_true (by omega),decide_eq_false (by omega)];rfl
 ·go_wp2_with fail
  go_ret
  refine ⟨?_,rfl⟩
  rw [<-E.out,decide_eq_false (by omega)];rfl
def jI (c:Cf):Array Value:=#[.int .u32 c.inbox,.int .u32 c.batcher,.int .i64 c.timeout,.int .i64 c.window,.int .i64 c.drift,.int .i64 c.step,.int .i64 c.most]
theorem Bo (c:Cf) (w:World):Calls PQ 36 #[.agg (jI c)] w λe w'=>e=.returned (.bool (Dv.jQ c))/\Below w.heap.size w w':=by
 obtain ⟨ib,ba,t,z,I,st,E⟩:=c
 unfold jI
 dsimp only
 have hb:Below w.heap.size w (w.alloc (.cells #[.int .u32 ib,.int .u32 ba,.int .i64 t,.int .i64 z,.int .i64 I,.int .i64 st,.int .i64 E] 24)):=(aB _ w).alloc jC _
 have Hb:Hid _:=hb
 clear hb
 go_enter (fq Tryz.func36 rfl),Tryz.ntmps36
 have Y:=λw=>lZ t 1 8 w
 have W2:=λw=>lZ z 1 8 w
 have W3:=λw=>lZ I 0 100 w
 have W4:=λw=>lZ st 2 20 w
 have W5:=λw=>lZ E 1 4096 w
 obtain ⟨b1,e1⟩:∃b,(decide (1<=t)&&decide (t<=8))=b:=⟨_,rfl⟩
 obtain ⟨b2,R⟩:∃b,(decide (1<=z)&&decide (z<=8))=b:=⟨_,rfl⟩
 obtain ⟨b3,e3⟩:∃b,(decide (0<=I)&&decide (I<=100))=b:=⟨_,rfl⟩
 obtain ⟨b4,e4⟩:∃b,(decide (2<=st)&&decide (st<=20))=b:=⟨_,rfl⟩
 obtain ⟨b5,J⟩:∃b,(decide (1<=E)&&decide (E<=4096))=b:=⟨_,rfl⟩
 have hr:Dv.jQ ⟨ib,ba,t,z,I,st,E⟩=(b1&&b2&&b3&&b4&&b5):=by
  unfold Dv.jQ
  rw [<-e1,<-R,<-e3,<-e4,<-J]
  simp only [Bool.decide_and,Bool.and_assoc]
 rw [e1] at Y
 rw [R] at W2
 rw [e3] at W3
 rw [e4] at W4
 rw [J] at W5
 have H1:Hid _:=Y
 have H2:Hid _:=W2
 have H3:Hid _:=W3
 have H4:Hid _:=W4
 have H5:Hid _:=W5
 rw [hr]
 clear hr e1 R e3 e4 J Y W2 W3 W4 W5
 cases b1<;>cases b2<;>cases b3<;>cases b4<;>cases b5
 all_goals
  go_wp2_with (go_at_call 66;first|(with_reducible refine aK (H1.out _) ?_;rintro e w2 ⟨rfl,rfl⟩)|(with_reducible refine aK (H2.out _) ?_;rintro e w2 ⟨rfl,rfl⟩)|(with_reducible refine aK (H3.out _) ?_;rintro e w2 ⟨rfl,rfl⟩)|(with_reducible refine aK (H4.out _) ?_;rintro e w2 ⟨rfl,rfl⟩)|(with_reducible refine aK (H5.out _) ?_;rintro e w2 ⟨rfl,rfl⟩)|fail)
  go_ret
  exact ⟨rfl,Hb.out⟩
def xC (t:Tx):List Value:=[.int .u32 t.fr,.int .u32 t.dest,.string ⟨t.data.toArray⟩]
def nT (s:List UInt8):Value:=.string ⟨s.toArray⟩
def wP (w:World) (v:Value) (l:List Tx):Prop:=Rd w 3 v l.length (l.flatMap xC)
def pJ (w:World) (v:Value) (l:List (List UInt8)):Prop:=Rd w 1 v l.length (l.map nT)
theorem wP.get {l:List Tx} (h:wP w (.slice (some ⟨g,off,none⟩) l.length cap) l) {t:Tx} (z:l[j]? =some t):
  w.cell? ⟨g,off+j * 3,none⟩=some (.int .u32 t.fr)/\w.cell? ⟨g,off+j * 3+1,none⟩=some (.int .u32 t.dest)/\w.cell? ⟨g,off+j * 3+2,none⟩=some (.string ⟨t.data.toArray⟩):=by
 have k:=λ(i:Nat) (u:Value) (I:i < 3) (E:(xC t)[i]? =some u)=>Rd.rec xC 3 (λ_=>rfl) h z I E
 exact ⟨k 0 _ (by omega) rfl,k 1 _ (by omega) rfl,k 2 _ (by omega) rfl⟩
theorem pJ.get {l:List (List UInt8)} (h:pJ w (.slice (some ⟨g,off,none⟩) l.length cap) l) {s:List UInt8} (z:l[j]? =some s):w.cell? ⟨g,off+j,none⟩=some (.string ⟨s.toArray⟩):=by
 have R:j < l.length:=(aF.1 z).1
 obtain ⟨g',I,J,E,_,_,Y⟩:=Rd.pos h (by omega)
 simp only [Value.slice.injEq,aC,Addr.mk.injEq,and_true,true_and] at E
 obtain ⟨⟨rfl,rfl⟩,rfl⟩:=E
 exact Y j _ (by rw [eX,z];rfl)
theorem Rd.cases {s n:Nat} {v:Value} {xs:List Value} (h:Rd w s v n xs):(∃a cap,n=0/\v=.slice a 0 cap)\/(∃g off cap,0 < n/\v=.slice (some ⟨g,off,none⟩) n cap):=by
 rcases gB n with z|z
 ·obtain ⟨a,cap,rfl⟩:=h.slice
  exact .inl ⟨a,cap,z,by rw [z]⟩
 ·obtain ⟨g,off,cap,E,_⟩:=h.pos z
  exact .inr ⟨g,off,cap,z,E⟩
theorem MF (t:Tx) (w:World):Calls PQ 147 #[.agg #[.int .u32 t.fr,.int .u32 t.dest,.string ⟨t.data.toArray⟩]] w λe w'=>e=.returned (.bool (decide (2000 < t.data.length)))/\Below w.heap.size w w':=by
 obtain ⟨D,z⟩:∃D:ByteArray,(⟨t.data.toArray⟩:ByteArray)=D:=⟨_,rfl⟩
 have hs:D.size=t.data.length:=by rw [<-z];rfl
 rw [z,<-hs]
 have E:Hid _:=λo=>(aB w.heap.size w).alloc jC o
 clear z hs
 go_enter (fq Tryz.func147 rfl),Tryz.ntmps147
 go_wp2_with fail
 go_ret
 exact ⟨by simp only [Int.ofNat_lt.symm];rfl,E.out _⟩
theorem KN (s:List UInt8) (w:World):Calls PQ 149 #[.string ⟨s.toArray⟩] w λe w'=>e=.returned (.bool (decide (2000 < s.length)))/\Below w.heap.size w w':=by
 obtain ⟨D,z⟩:∃D:ByteArray,(⟨s.toArray⟩:ByteArray)=D:=⟨_,rfl⟩
 have hs:D.size=s.length:=by rw [<-z];rfl
 rw [z,<-hs]
 clear z hs
 go_enter (fq Tryz.func149 rfl),Tryz.ntmps149
 go_wp2_with fail
 go_ret
 exact ⟨by simp only [Int.ofNat_lt.symm];rfl,aB _ _⟩
def idx {α:Type} (p:α->Bool) (l:List α):Int:=match l.findIdx? p with
 |some i=>i
 |none=>-1
theorem zU {p:α->Bool} {l:List α} (h:∀(j:Nat) (x:α),l[j]? =some x->p x=false):idx p l=-1:=by
 unfold idx
 rw [List.findIdx?_eq_none_iff.2 (λx E=>by obtain ⟨j,z⟩:=List.getElem?_of_mem E;exact h j x z)]
theorem A8 {p:α->Bool} {l:List α} {i:Nat} {x:α} (I:l[i]? =some x) (J:p x=true) (h:∀(j:Nat) (y:α),j < i->l[j]? =some y->p y=false):idx p l=i:=by
 unfold idx
 obtain ⟨z,rfl⟩:=aF.1 I
 rw [iZ.2 ⟨z,J,λj E=>by
  have:=h j (l[j]'(by omega)) E (aG (by omega))
  simp [this]⟩]
theorem NW (p:α->Bool) (l:List α):decide (0<=idx p l)=l.any p:=by
 unfold idx
 cases h:l.findIdx? p with
 |none=>
  have:=List.findIdx?_eq_none_iff.1 h
  rw [decide_eq_false (by show ¬(0:Int)<=-1;omega)]
  symm
  rw [List.any_eq_false]
  exact λx E=>by simp [this x E]
 |some i=>
  obtain ⟨z,E,_⟩:=iZ.1 h
  rw [decide_eq_true (by show (0:Int)<=(i:Int);omega)]
  symm
  rw [List.any_eq_true]
  exact ⟨_,List.getElem_mem z,E⟩
end
end Hm
section
open Go.RowKit
theorem oO {B:Nat} {a b:World} (h:Below B a b) (l:Nat) (o:Obj) (z:l < a.heap.size):Below B (a.putObj l o) (b.putObj l o):=
 ⟨h.os,h.tape,h.output,by simp;exact h.size,λk hk=>by
  by_cases e:k=l
  ·subst e;rw [World.putObj_heap_same z,World.putObj_heap_same (aH z h.size)]
  ·rw [World.putObj_heap_other e,World.putObj_heap_other e];exact h.block k hk⟩
theorem tu (w:World) (l:Nat) (o o':Obj) (z:l < w.heap.size):(w.alloc o).putObj l o'=(w.putObj l o').alloc o:=by
 have:(w.heap.push o).setIfInBounds l o'=(w.heap.setIfInBounds l o').push o:=by
  apply fP
  intro i
  simp only [aO,gY,Array.size_push,jh]
  by_cases e:l=i
  ·subst e;simp [z,iJ z];omega
  ·simp [e]
 show { (w.alloc o) with heap:=(w.alloc o).heap.setIfInBounds l o' }={ (w.putObj l o') with heap:=(w.putObj l o').heap.push o }
 have E:(w.alloc o).heap=w.heap.push o:=rfl
 have I:(w.putObj l o').heap=w.heap.setIfInBounds l o':=rfl
 rw [E,I,this]
 rfl
def Gives {α:Type} (P:Program) (g:Nat) (lb:Array Value) (encs:α->Array Value) (ks:Nat->Prop) (Y:List α->α->Nat->World->Prop) (S Sp:List α->Prop) (w:World):Prop:=
 ∀(l:Nat) (J Jx:List α->World->Prop) (W:World),Below w.heap.size w W->
  (∀z x E R,J z E->Below E.heap.size E R->Y z x E.heap.size R->YieldAt Fence.wide 1 P l (encs x) R λe I=>
   (e=.returned (.bool true)/\J (z++[x]) I/\R.heap.size<=I.heap.size/\∀k,ks k->I.heap[k]? =R.heap[k]?)\/(e=.returned (.bool false)/\Jx (z++[x]) I))->
  J [] W->
  CallsIn Fence.wide 2 P g (#[.func (.yield l) #[] #[]]++lb) W λe I=>(∃v,e=.returned v)/\((∃xs E,S xs/\J xs E/\Below E.heap.size E I)\/(∃z E,Sp z/\Jx z E/\Below E.heap.size E I))
def XP {α:Type} (B:Nat) (E:Nat->Prop) (I:List α->World->Prop) (z:Code->List α->World->Prop) (xs:List α) (W:World):Exit->Act->World->Prop
 |.normal,_,W'=>KeepsFrom B W W'/\(∀k,E k->W'.heap[k]? =W.heap[k]?)/\I xs W'
 |.ret,_,W'=>KeepsFrom B W W'/\z .ret xs W'
 |.exit id,_,W'=>KeepsFrom B W W'/\z (.exit id) xs W'
 |.goto t,_,W'=>KeepsFrom B W W'/\z (.goto t) xs W'
 |.panic _,_,_=>False
 |.outgrown,_,_=>False
theorem yN {α:Type} {P:Program} {g:Operand} {ps:Array Tmp} {assign body:Code} {Q:Exit->Act->World->Prop} {a:Act} {w:World}
  {gf:Nat} {lb:Array Value} (hg:a.eval g=.func (.func gf) #[] lb) (eg:∀args w,(callFunc gf args).run P w=.ok (.enter gf args) w)
  {encs:α->Array Value} {ks:Nat->Prop} {Y:List α->α->Nat->World->Prop} {S Sp:List α->Prop} {w0:World} (ao:Gives P gf lb encs ks Y S Sp w0) (am:Below w0.heap.size w0 w)
  (av:∀k,ks k->k < w.heap.size) (hY:∀z x lo W W',(∀k,lo<=k->W'.heap[k]? =W.heap[k]?)->W'.heap.size=W.heap.size->Y z x lo W->Y z x lo W') (ap:∀x,(encs x).size=ps.size)
  (I:List α->World->Prop) (Ix:Code->List α->World->Prop) (hI:OwnFrom w.heap.size I) (ac:∀c,OwnFrom w.heap.size (Ix c)) (h0:I [] w) (ae:α->Nat->Act) (ox:α->Obj)
  (ab:∀(l:Nat) (x:α) (W:World) (K:Act->World->Prop),K (ae x W.heap.size) (W.alloc (ox x))->
   assign.wpIn (Fence.wide.inRound l) 1 P (Exit.then K (λ_ _ _=>False)) { tmps:=(ps.zip (encs x)).foldl (λt (p,v)=>t.setIfInBounds p v) a.tmps,defers:=[] } W)
  (af:∀(l:Nat) (z:List α) (x:α) (J W1:World),w.heap.size < J.heap.size->I z J->Below J.heap.size J W1->Y z x J.heap.size W1->body.wpIn (Fence.wide.inRound l) 1 P (XP w.heap.size ks I Ix (z++[x]) (W1.alloc (ox x))) (ae x W1.heap.size) (W1.alloc (ox x)))
  (ah:∀(D:Nat) (xs:List α) (J W:World),w.heap.size<=D->D < J.heap.size->S xs->I xs J->Below J.heap.size J W->W.heap[D]? =some (.deferred (some []))->Q .normal { a with defers:={ target:=.collected D,args:=#[] }::a.defers } W)
  (aj:∀(D:Nat) (c:Code) (z:List α) (J W:World),w.heap.size<=D->D < J.heap.size->Sp z->Ix c z J->Below J.heap.size J W->W.heap[D]? =some (.deferred (some []))->c.wpIn Fence.wide 3 P Q { a with defers:={ target:=.collected D,args:=#[] }::a.defers } W):
  (Code.rangeFunc g ps assign body).wpIn Fence.wide 3 P Q a w:=by
 refine wpIn_rangeFunc λfn au=>?_
 obtain ⟨rc,R⟩:∃rc:LoopState->Option Code->Loop,rc=λst pe=>{ state:=st,pending:=pe,fn,tmps:=a.tmps,params:=ps,assign,body,defers:=w.heap.size }:=⟨_,rfl⟩
 obtain ⟨V,hV⟩:∃V,(w.alloc (.deferred (some []))).alloc (.loop (rc .ready none))=V:=⟨_,rfl⟩
 have vl:V.heap[w.heap.size+1]? =some (.loop (rc .ready none)):=by
  have:=World.alloc_heap_new (w.alloc (.deferred (some []))) (.loop (rc .ready none))
  rw [eH,hV] at this
  exact this
 have vd:V.heap[w.heap.size]? =some (.deferred (some [])):=by rw [<-hV];exact (aT _ _ _ (by simp)).trans (World.alloc_heap_new w _)
 have vI:I [] V:=by rw [<-hV];exact hI.alloc _ (hI.alloc _ h0)
 have vb:Below w0.heap.size w0 V:=by rw [<-hV];exact am.trans ((((aB _ w).alloc jC _).alloc (by simp) _).mono am.size)
 refine ⟨w.heap.size+1,[{ target:=.collected w.heap.size,args:=#[] }],V,{ target:=.fn (.func gf) lb,args:=#[.func (.yield (w.heap.size+1)) #[] #[]] },V,gf,
  #[.func (.yield (w.heap.size+1)) #[] #[]]++lb,V,?_,?_,λ_ _=>trivial,by simp [invoke,go_sem,eg],λh=>by simp [Fence.wide] at h,?_⟩
 ·rw [<-hV,R];exact run_enterLoop_outer _ _ _ _ _
 ·simp only [resolve,hg]
  simp [go_sem]
 refine (ao (w.heap.size+1)
  (λz W=>I z W/\W.heap[w.heap.size+1]? =some (.loop (rc .ready none))/\W.heap[w.heap.size]? =some (.deferred (some [])))
  (λz W=>∃c,Ix c z W/\W.heap[w.heap.size+1]? =some (.loop (rc .done (some c)))/\W.heap[w.heap.size]? =some (.deferred (some []))) V vb ?_ ⟨vI,vl,vd⟩).mono ?_
 ·rintro z x J W1 ⟨i0,l0,d0⟩ hb hy
  have aa:w.heap.size+1 < J.heap.size:=(jE l0)
  have l1:=(hb.block _ aa).trans l0
  have d1:=(hb.block _ (by omega:w.heap.size < J.heap.size)).trans d0
  have ag:w.heap.size+1 < W1.heap.size:=(jE l1)
  have ry:=run_yield (P:=P) (args:=encs x) l1 (by rw [R];exact ap x)
  rw [R] at ry
  refine ⟨fn,_,assign,body,ry,roundIn_of_wpIn au (ab _ x W1 _ ⟨_,run_beginRound ((aT _ _ _ ag).trans l1) (by rw [R]),?_⟩)⟩
  clear ry
  rw [tu _ _ _ _ ag]
  obtain ⟨o,ho⟩:∃o:Obj,Obj.loop { rc .ready none with state:=.busy }=o:=⟨_,rfl⟩
  rw [ho]
  have b1:=oO hb (w.heap.size+1) o aa
  have y1:Y z x (J.putObj (w.heap.size+1) o).heap.size (W1.putObj (w.heap.size+1) o):=by
   rw [World.putObj_size]
   exact hY z x _ W1 _ (λk hk=>World.putObj_heap_other (by omega)) (by simp) hy
  have ai:=af (w.heap.size+1) z x _ _ (by simp;omega) (hI.putObj o i0 (by omega) l0 rfl) (by simpa using b1) y1
  rw [World.putObj_size] at ai
  refine wpIn_mono ai ?_
  clear ai
  have ar:((W1.putObj (w.heap.size+1) o).alloc (ox x)).heap[w.heap.size+1]? =some o:=(aT _ _ _ (by simp;omega)).trans (World.putObj_heap_same ag)
  have aq:((W1.putObj (w.heap.size+1) o).alloc (ox x)).heap[w.heap.size]? =some (.deferred (some [])):=(aT _ _ _ (by simp;omega)).trans ((World.putObj_heap_other (by omega)).trans d1)
  have fin:∀(E:Option Code) (W3:World),KeepsFrom w.heap.size ((W1.putObj (w.heap.size+1) o).alloc (ox x)) W3->
    (Instr.endRound (w.heap.size+1) E).run P W3=.ok (.bool E.isNone) (W3.putObj (w.heap.size+1) (.loop (rc (if E.isNone then .ready else .done) E)))/\
    W3.heap[w.heap.size+1]? =some o/\
    (W3.putObj (w.heap.size+1) (.loop (rc (if E.isNone then .ready else .done) E))).heap[w.heap.size+1]? =some (.loop (rc (if E.isNone then .ready else .done) E))/\
    (W3.putObj (w.heap.size+1) (.loop (rc (if E.isNone then .ready else .done) E))).heap[w.heap.size]? =some (.deferred (some [])):=λE W3 an=>by
   have q1:=an.same _ _ (by omega) ar (by rw [<-ho];rfl)
   have q2:=an.same _ _ jC aq rfl
   have ak:=q1
   rw [<-ho] at ak
   have:=run_endRound (P:=P) E ak
   refine ⟨?_,q1,World.putObj_heap_same (jE q1),(World.putObj_heap_other (by omega)).trans q2⟩
   rw [R] at this⊢
   exact this
  rintro e a3 W3 hp
  cases e with
  |normal=>
   obtain ⟨k3,kk,i3⟩:=hp
   obtain ⟨hr,l3,l4,d4⟩:=fin none W3 k3
   refine ⟨_,_,hr,.inl ⟨rfl,⟨hI.putObj _ i3 (by omega) l3 (by rw [<-ho];rfl),l4,d4⟩,by have:=k3.size;simp at this⊢;omega,λk hk=>?_⟩⟩
   have aw:=av k hk
   rw [World.putObj_heap_other (by omega),kk k hk,aT _ _ _ (by simp;omega),World.putObj_heap_other (by omega)]
  |ret=>
   obtain ⟨k3,i3⟩:=hp
   obtain ⟨hr,l3,l4,d4⟩:=fin (some .ret) W3 k3
   exact ⟨_,_,hr,.inr ⟨rfl,.ret,(ac _).putObj _ i3 (by omega) l3 (by rw [<-ho];rfl),l4,d4⟩⟩
  |exit id=>
   obtain ⟨k3,i3⟩:=hp
   obtain ⟨hr,l3,l4,d4⟩:=fin (some (.exit id)) W3 k3
   exact ⟨_,_,hr,.inr ⟨rfl,.exit id,(ac _).putObj _ i3 (by omega) l3 (by rw [<-ho];rfl),l4,d4⟩⟩
  |goto t=>
   obtain ⟨k3,i3⟩:=hp
   obtain ⟨hr,l3,l4,d4⟩:=fin (some (.goto t)) W3 k3
   exact ⟨_,_,hr,.inr ⟨rfl,.goto t,(ac _).putObj _ i3 (by omega) l3 (by rw [<-ho];rfl),l4,d4⟩⟩
  |panic ch=>exact hp.elim
  |outgrown=>exact hp.elim
 ·rintro e W2 ⟨⟨v,rfl⟩,(⟨xs,J,hS,⟨i0,l0,d0⟩,hb⟩|⟨z,J,hS,⟨c,i0,l0,d0⟩,hb⟩)⟩
  ·have aa:w.heap.size+1 < J.heap.size:=(jE l0)
   have l2:=(hb.block _ aa).trans l0
   have d2:=(hb.block _ (by omega:w.heap.size < J.heap.size)).trans d0
   refine ⟨none,_,by have:=run_endLoop (P:=P) l2 (by rw [R];simp);rw [R] at this;exact this,?_⟩
   exact ah _ xs _ _ jC (by simp;omega) hS (hI.putObj _ i0 (by omega) l0 rfl) (by simpa using oO hb (w.heap.size+1) _ aa) ((World.putObj_heap_other (by omega)).trans d2)
  ·have aa:w.heap.size+1 < J.heap.size:=(jE l0)
   have l2:=(hb.block _ aa).trans l0
   have d2:=(hb.block _ (by omega:w.heap.size < J.heap.size)).trans d0
   refine ⟨some c,_,by have:=run_endLoop (P:=P) l2 (by rw [R];simp);rw [R] at this;exact this,?_⟩
   exact aj _ c z _ _ jC (by simp;omega) hS ((ac c).putObj _ i0 (by omega) l0 rfl) (by simpa using oO hb (w.heap.size+1) _ aa) ((World.putObj_heap_other (by omega)).trans d2)
open Go.RowKit Go.Joins
theorem toList_empty (s:ByteArray):s.toList.isEmpty=decide (s.size=0):=by
 rw [ByteArray.toList_eq,aV]
 cases s.data.toList<;>simp
theorem zx (u:World) (s:ByteArray) (i:Int) (j:Nat) (z:j < s.size) (e:i=(j:Int)):(Instr.index 9 (.string s) (.int .i64 i)).run PQ u=.ok (.int .u8 (s[j].toNat:Int)) u:=by
 subst e
 rw [run_index_string u _ s .i64 _ (uq Tryz.underlying9),dif_pos (by omega)]
 simp
open Go.Shelf
def ren:Go.Shelf.Ren:=⟨fun|105=>204|212=>217|99=>218|165=>91|166=>140|170=>173|169=>93|263=>226|264=>227|206=>228|240=>137|241=>138|276=>192|277=>193|167=>139|n=>n,fun|9=>9|3=>3|4=>4|20=>20|0=>0|46=>154|109=>307|5=>5|72=>178|76=>237|51=>22|146=>318|53=>207|148=>320|70=>176|37=>155|75=>163|127=>239|164=>253|80=>182|n=>n,fun|n=>n⟩
theorem lays105:Go.Proofs.Lays.n105 PQ ren:={
 mixed:=by kernel_rfl
 f99:=(fq Tryz.func218 rfl).trans (congrArg some (by kernel_rfl))
 f105:=(fq Tryz.func204 rfl).trans (congrArg some (by kernel_rfl))
 f165:=(fq Tryz.func91 rfl).trans (congrArg some (by kernel_rfl))
 f166:=(fq Tryz.func140 rfl).trans (congrArg some (by kernel_rfl))
 f169:=(fq Tryz.func93 rfl).trans (congrArg some (by kernel_rfl))
 f170:=(fq Tryz.func173 rfl).trans (congrArg some (by kernel_rfl))
 f206:=(fq Tryz.func228 rfl).trans (congrArg some (by kernel_rfl))
 f212:=(fq Tryz.func217 rfl).trans (congrArg some (by kernel_rfl))
 f240:=(fq Tryz.func137 rfl).trans (congrArg some (by kernel_rfl))
 f241:=(fq Tryz.func138 rfl).trans (congrArg some (by kernel_rfl))
 f263:=(fq Tryz.func226 rfl).trans (congrArg some (by kernel_rfl))
 f264:=(fq Tryz.func227 rfl).trans (congrArg some (by kernel_rfl))
 f276:=(fq Tryz.func192 rfl).trans (congrArg some (by kernel_rfl))
 f277:=(fq Tryz.func193 rfl).trans (congrArg some (by kernel_rfl))
 t0:=(uq Tryz.underlying0)
 a0:=(uf Tryz.isAgg0)
 z0:=(tH Tryz.sizeOf0)
 v0:=(tN Tryz.zeroValue0)
 t3:=(uq Tryz.underlying3)
 a3:=(uf Tryz.isAgg3)
 z3:=(tH Tryz.sizeOf3)
 v3:=(tN Tryz.zeroValue3)
 t4:=(uq Tryz.underlying4)
 a4:=(uf Tryz.isAgg4)
 z4:=(tH Tryz.sizeOf4)
 v4:=(tN Tryz.zeroValue4)
 t5:=(uq Tryz.underlying5)
 a5:=(uf Tryz.isAgg5)
 z5:=(tH Tryz.sizeOf5)
 v5:=(tN Tryz.zeroValue5)
 t9:=(uq Tryz.underlying9)
 a9:=(uf Tryz.isAgg9)
 z9:=(tH Tryz.sizeOf9)
 v9:=(tN Tryz.zeroValue9)
 t20:=(uq Tryz.underlying20)
 a20:=(uf Tryz.isAgg20)
 z20:=(tH Tryz.sizeOf20)
 v20:=(tN Tryz.zeroValue20)
 t37:=(uq Tryz.underlying155)
 a37:=(uf Tryz.isAgg155)
 z37:=(tH Tryz.sizeOf155)
 v37:=(tN Tryz.zeroValue155)
 t46:=(uq Tryz.underlying154)
 a46:=(uf Tryz.isAgg154)
 z46:=(tH Tryz.sizeOf154)
 v46:=(tN Tryz.zeroValue154)
 t51:=(uq Tryz.underlying22)
 a51:=(uf Tryz.isAgg22)
 z51:=(tH Tryz.sizeOf22)
 v51:=(tN Tryz.zeroValue22)
 t53:=(uq Tryz.underlying207)
 a53:=(uf Tryz.isAgg207)
 z53:=(tH Tryz.sizeOf207)
 v53:=(tN Tryz.zeroValue207)
 t70:=(uq Tryz.underlying176)
 a70:=(uf Tryz.isAgg176)
 z70:=(tH Tryz.sizeOf176)
 v70:=(tN Tryz.zeroValue176)
 t72:=(uq Tryz.underlying178)
 a72:=(uf Tryz.isAgg178)
 z72:=(tH Tryz.sizeOf178)
 v72:=(tN Tryz.zeroValue178)
 t75:=(uq Tryz.underlying163)
 a75:=(uf Tryz.isAgg163)
 z75:=(tH Tryz.sizeOf163)
 v75:=(tN Tryz.zeroValue163)
 t76:=(uq Tryz.underlying237)
 a76:=(uf Tryz.isAgg237)
 z76:=(tH Tryz.sizeOf237)
 v76:=(tN Tryz.zeroValue237)
 t109:=(uq Tryz.underlying307)
 a109:=(uf Tryz.isAgg307)
 z109:=(tH Tryz.sizeOf307)
 v109:=(tN Tryz.zeroValue307)
 t127:=(uq Tryz.underlying239)
 a127:=(uf Tryz.isAgg239)
 z127:=(tH Tryz.sizeOf239)
 v127:=(tN Tryz.zeroValue239)
 t146:=(uq Tryz.underlying318)
 a146:=(uf Tryz.isAgg318)
 z146:=(tH Tryz.sizeOf318)
 v146:=(tN Tryz.zeroValue318)
 t148:=(uq Tryz.underlying320)
 a148:=(uf Tryz.isAgg320)
 z148:=(tH Tryz.sizeOf320)
 v148:=(tN Tryz.zeroValue320)
 t164:=(uq Tryz.underlying253)
 a164:=(uf Tryz.isAgg253)
 z164:=(tH Tryz.sizeOf253)
 v164:=(tN Tryz.zeroValue253) }
theorem extra:Builder.Extra PQ ren:={
 sizeBuilder:=by kernel_rfl
 liesBuilder:=by kernel_rfl
 t5:=(uq Tryz.underlying5)
 a5:=(uf Tryz.isAgg5)
 z5:=(tH Tryz.sizeOf5)
 v5:=(tN Tryz.zeroValue5)
 infoByte:=by kernel_rfl
 cellsByte:=by kernel_rfl
 sizeByte:=by kernel_rfl
 neB5:=by decide }
abbrev U8 (B b:Nat) (l:List UInt8) (w:World):Prop:=Lib.IsBuilderF 178 5 B b (Lib.byteCells l) w
theorem fresh (w:World):U8 w.heap.size w.heap.size [] (w.alloc (.cells #[.pointer none,.slice none 0 0] 178)):=Lib.IsBuilderF.of (Lib.fresh_isBuilder 178 5 w)
theorem abJ (B b:Nat) (l:List UInt8) (w:World) (h:U8 B b l w):
  Calls PQ 173 #[.pointer (some ⟨b,0,none⟩)] w λe w'=>e=.returned (.int .i64 l.length)/\w'=w:=by
 have c:=Any.Builder_Len_f (ρ:=ren) { lays105 with } B b (Lib.byteCells l) w h
 rw [Lib.byteCells_length] at c
 exact c
theorem zD (B b:Nat) (l:List UInt8) (w:World) (h:U8 B b l w) (z:B<=w.heap.size):
  Calls PQ 93 #[.pointer (some ⟨b,0,none⟩)] w λe w'=>e=.returned (.string ⟨l.toArray⟩)/\U8 B b l w'/\Below B w w':=
 Any.Builder_String_any_f (ρ:=ren) { lays105 with } extra B b l w h z
theorem LC (B b:Nat) (l:List UInt8) (s:ByteArray) (w:World) (h:U8 B b l w) (I:l.length+s.size<=140737488355328) (J:B<=w.heap.size):
  Calls PQ 140 #[.pointer (some ⟨b,0,none⟩),.string s] w λe w'=>e=.returned (.tuple #[.int .i64 s.size,.nilIface])/\U8 B b (l++s.data.toList) w'/\Below B w w':=by
 refine (Any.Builder_WriteString_f (ρ:=ren) { lays105 with } extra B b (Lib.byteCells l) s w h (by rw [Lib.byteCells_length];exact I) J).mono ?_
 rintro e w' ⟨rfl,z,E⟩
 refine ⟨rfl,?_,E⟩
 rw [Lib.strCells_eq,<-Lib.byteCells_append] at z
 exact Or.inr z
theorem repeated (s:ByteArray) (c:Nat) (w:World) (E:c<=9223372036854775807) (z:s.size * c<=140737488355328):
  Calls PQ 204 #[.string s,.int .i64 c] w λe w'=>e=.returned (.string ⟨(Lib.repeatL s.data.toList c).toArray⟩)/\Below w.heap.size w w':=
 Any.strings_Repeat (ρ:=ren) lays105 extra s c w E z
theorem CQ {B b:Nat} {l:List UInt8} {w w':World} (h:U8 B b l w) (J:Below w.heap.size w w'):U8 B b l w':=by
 have go:∀p,Lib.BuilderAtF 178 5 B b p (Lib.byteCells l) w->Lib.BuilderAtF 178 5 B b p (Lib.byteCells l) w':=by
  intro p hp
  have E:=hp.lt
  obtain ⟨h1,v,h2,h3,h4⟩:=hp
  have hk:=h3.lt
  refine ⟨h1,v,(J.block b E).trans h2,?_,h4⟩
  obtain ⟨g1,z⟩:=h3
  refine ⟨g1,?_⟩
  rcases z with z|z
  ·exact Or.inl z
  ·obtain ⟨g,cap,I,R,rfl,Y,q2,q3⟩:=z
   exact Or.inr ⟨g,cap,I,R,rfl,Y,(J.block g (hk g rfl).2).trans q2,q3⟩
 exact h.elim (λx=>.inl (go _ x)) (λx=>.inr (go _ x))
section
variable {w:World}
def kU (w:World):Prop:=K3 w 1 0 (.bool false) (.int .u8 128) (.int .u8 183)/\K3 w 1 3 (.bool true) (.int .u8 192) (.int .u8 247)
theorem kU.below {B:Nat} {w':World} (h:kU w) (E:Below B w w') (z:1 < B):kU w':=⟨h.1.below E z,h.2.below E z⟩
theorem kU.pos (h:kU w):1 < w.heap.size:=by
 have g:=h.1.1
 rcases fQ 1 w.heap.size with e|e
 ·exact e
 ·unfold World.cell? at g
  rw [iR (by simpa using e)] at g
  simp at g
end
theorem G9 {P:Program} (w:World) (base:Nat) (t ty e:TypeId) (i:TypeInfo) (z:Value) (size bytes:Nat) (ht:P.underlying t=some (.slice e)) (hi:P.info? e=some i) (hz:i.zero=some z)
  (I:i.size=size) (ag:i.bytes=bytes) (aj:z.cells.size=size) (ah:0 < size)
  (v:Value) (n:Nat) (xs:List Value) (aa:w.ownsRow base e size v n xs)
  (a:Addr) (m c:Nat) (E:List Value) (hm:0 < m) (hl:E.length=m * size) (R:∀j u,E[j]? =some u->w.cell? (a.add j)=some u) (h1:∀u∈E,u.oneCell'=true)
  (ae:n+m<=maxLen) (Y:(n+m) * bytes<=140737488355328) (ac:base<=w.heap.size):
  ∃v' w',(Builtin.append_ #[t,t] ty #[v,.slice (some a) m c]).run P w=.ok v' w'/\w'.ownsRow base e size v' (n+m) (xs++E)/\w.grownBy w' v.ownBlock/\(v'.ownBlock=v.ownBlock\/∃g,v'.ownBlock=some g/\w.heap.size<=g):=by
 obtain ⟨v',w',hr,h2,h3,h4⟩:=run_append_own (P:=P) w base t ty e i z size bytes ht hi hz I ag aj ah v n xs aa a m c E hl R h1 ae Y ac
 refine ⟨v',w',hr,h2,h3,?_⟩
 have ak:n+m<=9223372036854775807:=by simp only [maxLen] at ae;omega
 rcases aa.2 with ⟨rfl,rfl⟩|⟨g,cap,af,rfl,aq,hg,ar,ap,ao,an⟩
 ·right
  have hx:xs=[]:=bD (by simpa using aa.1)
  subst hx
  obtain ⟨v2,w2,J,g2,_,g4⟩:=run_append_own (P:=P) w w.heap.size t ty e i z size bytes ht hi hz I ag aj ah (.slice none 0 0) 0 [] (World.ownsRow_nil w _ e size) a m c E hl R h1 ae Y jC
  rw [hr] at J
  simp only [Result.ok.injEq] at J
  obtain ⟨rfl,rfl⟩:=J
  rcases g2.2 with ⟨e1,_⟩|⟨g,cap,af,rfl,am,_⟩
  ·have:=(g4.1 e1).2;omega
  ·exact ⟨g,rfl,am⟩
 ·by_cases ab:n+m<=cap
  ·left
   have ai:n * i.size+E.length<=af.size:=by rw [hl,ao,I,<-iM];exact fD _ ab
   have J:=run_append_room (P:=P) w t ty e i ht hi g n cap af hg a m c E (by rw [I];exact hl) R h1 ab ai
   rw [hr] at J
   simp only [Result.ok.injEq] at J
   rw [J.1]
   rfl
  ·right
   subst I ag
   have holds:∀j u,xs[j]? =some u->w.cell? ((⟨g,0,none⟩:Addr).add j)=some u:=aa.cells (g:=g) rfl
   have J:=run_append_grow (P:=P) w t ty e i z ht hi hz ⟨g,0,none⟩ n cap xs aa.1 holds a m c E hl R (by omega) (by omega) (growslice_fits (by omega) Y)
   rw [hr] at J
   simp only [Result.ok.injEq] at J
   exact ⟨w.heap.size,by rw [J.1];rfl,jC⟩
theorem PI:(PQ.info? 103).map (λi=>(i.zero,i.size,i.bytes))=some (some (.agg #[.bool false,.string ⟨#[]⟩,.slice none 0 0]),3,48):=by kernel_rfl
section
variable {w:World} {base e size n:Nat} {v:Value} {xs:List Value}
theorem own_below {w':World} (h:w.ownsRow base e size v n xs) (R:Below w.heap.size w w'):w'.ownsRow base e size v n xs:=by
 obtain ⟨J,h2⟩:=h
 refine ⟨J,?_⟩
 rcases h2 with h2|⟨g,cap,z,I,Y,E,r⟩
 ·exact .inl h2
 ·exact .inr ⟨g,cap,z,I,Y,(R.block g (jE E)).trans E,r⟩
theorem qp (h:w.ownsRow base e size v n xs) {g:Nat} (z:v.ownBlock=some g):base<=g/\g < w.heap.size:=by
 rcases h.2 with ⟨rfl,_⟩|⟨g',cap,E,rfl,J,I,_⟩
 ·simp [Value.ownBlock] at z
 ·simp [Value.ownBlock] at z
  subst z
  exact ⟨J,(jE I)⟩
theorem xs_len (h:w.ownsRow base e 3 v n xs):xs.length=n * 3:=h.1
end
section
variable {w w':World} {n lo hi base e size lo' hi':Nat} {v:Value} {i:Im.It} {xs:List Value} {ks:List Im.It}
def Tr (w:World):Nat->Nat->Nat->Value->Value->Value->Im.It->Prop
 |0,_,_,_,_,_,_=>False
 |n+1,lo,hi,c0,c1,c2,i=>(c0=.bool i.list/\c1=.string ⟨i.bytes.toArray⟩)/\∃(xs:List Value) (L H:Nat->Nat),w.ownsRow lo 103 3 c2 i.kids.length xs/\(∀g,c2.ownBlock=some g->g < hi)/\
   (∀j,j < i.kids.length->lo<=L j/\L j<=H j/\H j<=hi/\(∀g,c2.ownBlock=some g->g < L j\/H j<=g))/\(∀a b,a < b->b < i.kids.length->H a<=L b)/\
   ∀(j:Nat) (J:j < i.kids.length),∃E I z,xs[j * 3]? =some E/\xs[j * 3+1]? =some I/\xs[j * 3+2]? =some z/\Tr w n (L j) (H j) E I z (i.kids[j])
def Row (w:World) (n lo hi:Nat) (v:Value) (ks:List Im.It):Prop:=∃(xs:List Value) (L H:Nat->Nat),w.ownsRow lo 103 3 v ks.length xs/\(∀g,v.ownBlock=some g->g < hi)/\
   (∀j,j < ks.length->lo<=L j/\L j<=H j/\H j<=hi/\(∀g,v.ownBlock=some g->g < L j\/H j<=g))/\(∀a b,a < b->b < ks.length->H a<=L b)/\
   ∀(j:Nat) (J:j < ks.length),∃E I z,xs[j * 3]? =some E/\xs[j * 3+1]? =some I/\xs[j * 3+2]? =some z/\Tr w n (L j) (H j) E I z (ks[j])
theorem Tr.Rl (h:Row w n lo hi v i.kids):Tr w (n+1) lo hi (.bool i.list) (.string ⟨i.bytes.toArray⟩) v i:=⟨⟨rfl,rfl⟩,h⟩
theorem FC (h:w.ownsRow base e size v n xs) (hk:∀g,v.ownBlock=some g->w'.heap[g]? =w.heap[g]?):w'.ownsRow base e size v n xs:=by
 obtain ⟨J,h2⟩:=h
 refine ⟨J,?_⟩
 rcases h2 with h2|⟨g,cap,z,E,R,I,r⟩
 ·exact .inl h2
 ·exact .inr ⟨g,cap,z,E,R,(hk g (by rw [E];rfl)).trans I,r⟩
theorem Tr.kept:∀(n lo hi:Nat) (c0 z E:Value) (i:Im.It),(∀k,lo<=k->k < hi->w'.heap[k]? =w.heap[k]?)->Tr w n lo hi c0 z E i->Tr w' n lo hi c0 z E i
 |0,_,_,_,_,_,_,_,h=>h
 |n+1,lo,hi,c0,z,E,i,hk,h=>by
  obtain ⟨h0,xs,L,H,R,h2,h3,h4,h5⟩:=h
  refine ⟨h0,xs,L,H,FC R (λg J=>hk g (qp R J).1 (h2 g J)),h2,h3,h4,λj hj=>?_⟩
  obtain ⟨d0,Y,I,e0,e1,e2,e3⟩:=h5 j hj
  have:=h3 j hj
  exact ⟨d0,Y,I,e0,e1,e2,Tr.kept n (L j) (H j) d0 Y I _ (λk a b=>hk k (by omega) (by omega)) e3⟩
theorem Row.kept (h:Row w n lo hi v ks) (hk:∀k,lo<=k->k < hi->w'.heap[k]? =w.heap[k]?):Row w' n lo hi v ks:=
 (Tr.kept (n+1) lo hi (.bool true) (.string ⟨#[]⟩) v ⟨true,[],ks⟩ hk ⟨⟨rfl,rfl⟩,h⟩).2
theorem Tr.inn {B:Nat}:∀(n lo hi:Nat) (c0 Y c2:Value) (i:Im.It),hi<=B->Tr w n lo hi c0 Y c2 i->In B w n c0 Y c2 i
 |0,_,_,_,_,_,_,_,h=>h
 |n+1,lo,hi,c0,Y,c2,i,hB,h=>by
  obtain ⟨⟨I,J⟩,xs,L,H,h1,h2,h3,h4,h5⟩:=h
  rcases h1.2 with ⟨rfl,hz⟩|⟨g,cap,aa,rfl,hg,hh,ac,ab,ae,E⟩
  ·refine ⟨I,J,none,0,by rw [hz],λR=>absurd (bD hz) R⟩
  ·refine ⟨I,J,some ⟨g,0,none⟩,cap,rfl,λ_=>⟨g,0,rfl,by have:=h2 g rfl;omega,λj hj=>?_⟩⟩
   obtain ⟨d0,d1,d2,e0,e1,e2,e3⟩:=h5 j hj
   have z:∀(m:Nat) (u:Value),xs[m]? =some u->aa[m]? =some u:=by
    intro m u hu
    have hm:m < xs.length:=(aF.1 hu).1
    have hl:=h1.1
    rw [<-E,iF (by omega)] at hu
    simpa using hu
   have:=h3 j hj
   refine ⟨d0,d1,d2,⟨?_,?_,?_⟩,Tr.inn n (L j) (H j) d0 d1 d2 _ (by omega) e3⟩
   ·rw [aA hh,fC];exact z _ _ e0
   ·rw [aA hh,fC];exact z _ _ e1
   ·rw [aA hh,fC];exact z _ _ e2
theorem IK {z:Nat} (h:w.ownsRow base e size v n xs) (R:z<=base):w.ownsRow z e size v n xs:=by
 obtain ⟨J,h2⟩:=h
 refine ⟨J,?_⟩
 rcases h2 with h2|⟨g,cap,E,I,Y,r⟩
 ·exact .inl h2
 ·exact .inr ⟨g,cap,E,I,by omega,r⟩
theorem Row.wider (h:Row w n lo hi v ks) (I:lo'<=lo) (h2:hi<=hi'):Row w n lo' hi' v ks:=by
 obtain ⟨xs,L,H,E,q2,J,q4,R⟩:=h
 refine ⟨xs,L,H,IK E I,λg z=>by have:=q2 g z;omega,λj hj=>?_,q4,R⟩
 obtain ⟨a1,a2,a3,Y⟩:=J j hj
 exact ⟨by omega,a2,by omega,Y⟩
theorem Tr.wider {c0 E z:Value} (h:Tr w n lo hi c0 E z i) (I:lo'<=lo) (h2:hi<=hi'):Tr w n lo' hi' c0 E z i:=by
 cases n with
 |zero=>cases h
 |succ n=>exact ⟨h.1,Row.wider h.2 I h2⟩
theorem Row.none (w:World) (n lo hi:Nat):Row w n lo hi (.slice none 0 0) []:=
 ⟨[],λ_=>0,λ_=>0,World.ownsRow_nil w lo _ 3,λg I=>by simp [Value.ownBlock] at I,λj z=>by simp at z,λ_ b _ E=>by simp at E,λj z=>by simp at z⟩
theorem Row.step {w1 w3 w4:World} {k:Im.It} {v' d0 d1 Y:Value} (an:lo<=w.heap.size) {L H:Nat->Nat} (R:w.ownsRow lo 103 3 v ks.length xs)
  (ae:∀j,j < ks.length->lo<=L j/\L j<=H j/\H j<=w.heap.size/\(∀g,v.ownBlock=some g->g < L j\/H j<=g)) (ai:∀a b,a < b->b < ks.length->H a<=L b)
  (aa:∀(j:Nat) (hj:j < ks.length),∃d0 d1 Y,xs[j * 3]? =some d0/\xs[j * 3+1]? =some d1/\xs[j * 3+2]? =some Y/\Tr w n (L j) (H j) d0 d1 Y (ks[j]))
  (ah:Tr w1 n w.heap.size w1.heap.size d0 d1 Y k) (aj:Below w.heap.size w w1) (af:Below w1.heap.size w1 w3)
  (J:w4.ownsRow lo 103 3 v' (ks.length+1) (xs++[d0,d1,Y])) (ab:w3.grownBy w4 v.ownBlock) (ag:v'.ownBlock=v.ownBlock\/∃g,v'.ownBlock=some g/\w3.heap.size<=g):Row w4 n lo w4.heap.size v' (ks++[k]):=by
 have hx:=xs_len R
 have s1:=aj.size
 have s3:=af.size
 have s4:=ab.size
 have ak:∀g,v.ownBlock=some g->g < w.heap.size:=λg E=>(qp R E).2
 have I:(ks++[k]).length=ks.length+1:=by simp
 refine ⟨xs++[d0,d1,Y],λj=>if j < ks.length then L j else w.heap.size,λj=>if j < ks.length then H j else w1.heap.size,by rw [I];exact J,λg E=>(qp J E).2,?_,?_,?_⟩
 ·intro j hj
  by_cases z:j < ks.length
  ·simp only [if_pos z]
   obtain ⟨a1,a2,a3,a4⟩:=ae j z
   refine ⟨a1,a2,by omega,λg E=>?_⟩
   rcases ag with e|⟨g',e,am⟩
   ·rw [e] at E;exact a4 g E
   ·rw [e] at E;simp at E;omega
  ·simp only [if_neg z]
   refine ⟨an,s1,by omega,λg E=>?_⟩
   rcases ag with e|⟨g',e,am⟩
   ·rw [e] at E;have:=ak g E;omega
   ·rw [e] at E;simp at E;omega
 ·intro a b ao hb
  rw [I] at hb
  by_cases ac:b < ks.length
  ·simp only [if_pos ac,if_pos (show a < ks.length by omega)]
   exact ai a b ao ac
  ·simp only [if_neg ac,if_pos (show a < ks.length by omega)]
   exact (ae a (by omega)).2.2.1
 ·intro j hj
  rw [I] at hj
  by_cases z:j < ks.length
  ·obtain ⟨e0,e1,e2,q0,q1,q2,ho⟩:=aa j z
   obtain ⟨a1,a2,a3,a4⟩:=ae j z
   simp only [if_pos z]
   rw [List.getElem_append_left z]
   refine ⟨e0,e1,e2,?_,?_,?_,Tr.kept n _ _ _ _ _ _ (λm m1 m2=>?_) ho⟩
   ·rw [bP (by omega)];exact q0
   ·rw [bP (by omega)];exact q1
   ·rw [bP (by omega)];exact q2
   ·rw [ab.block m (by omega) (λe=>by have:=a4 m e.symm;omega),af.block m (by omega),aj.block m (by omega)]
  ·obtain rfl:j=ks.length:=by omega
   simp only [if_neg z]
   rw [List.getElem_append_right jC]
   simp only [Nat.sub_self,List.getElem_cons_zero]
   refine ⟨d0,d1,Y,?_,?_,?_,Tr.kept n _ _ _ _ _ _ (λm m1 m2=>?_) ah⟩
   ·rw [bK (by omega),hx];simp
   ·rw [bK (by omega),hx,show ks.length * 3+1 - ks.length * 3=1 from by omega];rfl
   ·rw [bK (by omega),hx,show ks.length * 3+2 - ks.length * 3=2 from by omega];rfl
   ·rw [ab.block m (by omega) (λe=>by have:=ak m e.symm;omega),af.block m (by omega)]
end
def uD:Option (Bool×Nat×Nat)->Value
 |some (l,f,t)=>.tuple #[.agg #[.bool l,.int .i64 f,.int .i64 t],.bool true]
 |none=>.tuple #[.agg #[.bool false,.int .i64 0,.int .i64 0],.bool false]
theorem getD_byte (s:ByteArray) (f:Nat) (h:f < s.size):s.data.toList.getD f 0=s[f]:=by
 have z:=aV s
 rw [aS,aG (by omega),Array.getElem_toList]
 rfl
theorem Bv (l:Bool) (x y:Int) (s:ByteArray) (f n:Nat) (w:World) (hs:s.size<=16777216) (hf:f<=s.size) (hn:n < 4294967296):
  Calls PQ 229 #[.agg #[.bool l,.int .u8 x,.int .u8 y],.string s,.int .i64 f,.int .u64 n] w λe w'=>e=.returned (uD (Im.chk l s.data.toList f n))/\Below w.heap.size w w':=by
 have I:=aV s
 have R:∀(a b:Obj),Below w.heap.size w ((w.alloc a).alloc b):=λa b=>((aB _ w).alloc jC _).alloc (by simp) _
 have E:Hid _:=R
 clear R
 have ac:0<=(s.size:Int) - (f:Int):=by omega
 have af:IntKind.u64.wrap ((s.size:Int) - (f:Int))=(s.size:Int) - (f:Int):=by rw [IntKind.wrap_u64];omega
 by_cases h1:s.size - f < n
 ·have J:Im.chk l s.data.toList f n=none:=by unfold Im.chk;rw [<-I,if_pos h1]
  rw [J]
  have aa:(s.size:Int) - (f:Int) < (n:Int):=by omega
  clear J I
  go_enter (fq Tryz.func229 rfl),Tryz.ntmps229
  go_wp2_with fail
  exact bodyPost_ret (v:=.tuple #[.agg #[.bool false,.int .i64 0,.int .i64 0],.bool false]) (by simp [results,Tryz.results229,go_sem]) rfl ⟨rfl,E.out _ _⟩
 ·have aa:¬(s.size:Int) - (f:Int) < (n:Int):=by omega
  by_cases h2:l=false/\n=1/\(s.data.toList.getD f 0).toNat < 128
  ·have J:Im.chk l s.data.toList f n=none:=by unfold Im.chk;rw [<-I,if_neg h1,if_pos h2]
   rw [J]
   obtain ⟨rfl,rfl,h3⟩:=h2
   have z:f < s.size:=by omega
   rw [getD_byte s f z] at h3
   have ae:(s[f].toNat:Int) < 128:=by omega
   have hx:=λu=>zx u s (f:Int) f z rfl
   clear J I h3
   go_enter (fq Tryz.func229 rfl),Tryz.ntmps229
   go_wp2_with fail
   exact bodyPost_ret (v:=.tuple #[.agg #[.bool false,.int .i64 0,.int .i64 0],.bool false]) (by simp [results,Tryz.results229,go_sem]) rfl ⟨rfl,E.out _ _⟩
  ·have J:Im.chk l s.data.toList f n=some (l,f,f+n):=by unfold Im.chk;rw [<-I,if_neg h1,if_neg h2]
   rw [J]
   clear J
   cases l with
   |true=>
    clear I h2
    go_enter (fq Tryz.func229 rfl),Tryz.ntmps229
    go_wp2_with fail
    exact bodyPost_ret (v:=.tuple #[.agg #[.bool true,.int .i64 f,.int .i64 ((f:Int)+(n:Int))],.bool true]) (by simp [results,Tryz.results229,go_sem]) rfl ⟨by simp [uD],E.out _ _⟩
   |false=>
    by_cases Y:n=1
    ·subst Y
     have z:f < s.size:=by omega
     have h3:¬(s[f].toNat:Int) < 128:=by
      rw [getD_byte s f z] at h2
      intro h;exact h2 ⟨rfl,rfl,by omega⟩
     have hx:=λu=>zx u s (f:Int) f z rfl
     clear I h2
     go_enter (fq Tryz.func229 rfl),Tryz.ntmps229
     go_wp2_with fail
     exact bodyPost_ret (v:=.tuple #[.agg #[.bool false,.int .i64 f,.int .i64 ((f:Int)+1)],.bool true]) (by simp [results,Tryz.results229,go_sem]) rfl ⟨by simp [uD],E.out _ _⟩
    ·have ab:((n:Int) == 1)=false:=by simp;omega
     clear I h2
     go_enter (fq Tryz.func229 rfl),Tryz.ntmps229
     go_wp2_with fail
     exact bodyPost_ret (v:=.tuple #[.agg #[.bool false,.int .i64 f,.int .i64 ((f:Int)+(n:Int))],.bool true]) (by simp [results,Tryz.results229,go_sem]) rfl ⟨by simp [uD],E.out _ _⟩
end
end Go.Proofs.YtpibpdpedjinhaaGreatDoor
