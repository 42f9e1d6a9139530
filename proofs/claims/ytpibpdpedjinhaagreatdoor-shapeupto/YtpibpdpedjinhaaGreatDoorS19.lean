import Derived.Test.YtpibpdpedjinhaaGreatDoorS18
import Derived.Shelf.Strings.Builder2
import Derived.Shelf.Strings.BuilderK
import Derived.Shelf.Strings.Repeat
import Derived.Shelf.Strconv.Itoa0
import Derived.Laws.ResultCell
set_option maxRecDepth 100000
set_option maxHeartbeats 4000000
namespace Go.Proofs.YtpibpdpedjinhaaGreatDoor
namespace Dv
open Fr (F)
section
structure Tx where
 fr:Nat
 dest:Nat
 data:List UInt8
structure U where
 id:Int
 time:Int
 txs:List Tx
 logs:List (List UInt8)
instance:Inhabited U:=⟨⟨0,0,[],[]⟩⟩
structure Cf where
 inbox:Nat
 batcher:Nat
 timeout:Int
 window:Int
 drift:Int
 step:Int
 most:Int
structure Ch where
 name:Nat
 opened:Nat
 l:List F
 spoilt:Bool
structure Ba where
 epoch:Nat
 id:Nat
 time:Nat
 txs:List (List UInt8)
 place:Nat
structure Lo where
 number:Nat
 time:Int
 epoch:Nat
 id:Int
 seq:Nat
 txs:List (List UInt8)
 deps:List (List UInt8)
 at_:Nat
instance:Inhabited Lo:=⟨⟨0,0,0,0,0,[],[],0⟩⟩
def last (l:List F):Option Nat:=(l.find? (·.last)).map (·.num)
def has (l:List F) (n:Nat):Option (List UInt8):=(l.find? (λx=>x.num == n)).map (·.data)
def qI (l:List F):Nat->Option (List UInt8)
 |0=>some []
 |k+1=>(qI l k).bind λs=>(has l k).map λd=>s++d
def bytes (l:List F):Option (List UInt8):=(last l).bind λn=>qI l (n+1)
def size (l:List F):Nat:=(l.map λx=>x.data.length).sum
def nM (c:Ch) (f:F):Bool:=(has c.l f.num).isSome || c.spoilt || (match last c.l with|some n=>f.last || decide (n < f.num)|none=>false)
def goes (f x:F):Bool:=f.last&&decide (f.num < x.num)
def grown (c:Ch) (f:F):List F:=(c.l++[f]).filter λx=>!goes f x
def joined (most:Int) (c:Ch) (f:F):Ch:=
 if nM c f then c
 else if most < (size (grown c f):Int) then { c with l:=[],spoilt:=true } else { c with l:=grown c f }
def frame (most:Int) (n:Nat) (cs:List Ch) (f:F):List Ch:=
 if f.num=0 then cs.filter (λc=>c.name != f.chan)++[joined most ⟨f.chan,n,[],false⟩ f]
 else cs.map λc=>if c.name=f.chan then joined most c f else c
def qc (c:Cf) (t:Tx):List F:=if t.dest=c.inbox/\t.fr=c.batcher then (Fr.frames t.data).getD [] else []
def heard (c:Cf) (txs:List Tx):List F:=txs.flatMap (qc c)
def pull:List Ch->List (List UInt8)×List Ch
 |[]=>([],[])
 |c::cs=>match bytes c.l with
  |none=>([],c::cs)
  |some s=>(s::(pull cs).1,(pull cs).2)
def value (i:Im.It):Option Nat:=
 if i.list || decide (8 < i.bytes.length) || (i.bytes != []&&i.bytes.getD 0 0 == 0) || (i.bytes.length == 8&&decide (64<=(i.bytes.getD 0 0).toNat)) then none
 else some (Im.val i.bytes 0)
def qM (l:Im.It) (place:Nat):Option Ba:=
 match l.list,l.kids with
 |true,[a,b,c,d]=>
  if d.list=false then none else
  match value a,value b,value c with
  |some x,some y,some z=>if d.kids.all (λt=>!t.list) then some ⟨x,y,z,d.kids.map (·.bytes),place⟩ else none
  |_,_,_=>none
 |_,_=>none
def wM (i:Im.It) (place:Nat):Option Ba:=
 if i.list then none else
 match i.bytes with
 |[]=>none
 |x::r=>if x=0 then (Im.dec r).bind (λl=>qM l place) else none
def rd:Nat->List UInt8->Nat->List Ba
 |0,_,_=>[]
 |f+1,s,n=>if s=[] then [] else
  match Im.read Im.body 8 s with
  |none=>[]
  |some (i,k)=>match wM i n with
   |none=>[]
   |some b=>(if b.epoch<=n then [b] else [])++rd f (s.drop k) n
def reads (s:List UInt8) (n:Nat):List Ba:=rd (Sq.spread s.length s 4096 []).1.length (Sq.spread s.length s 4096 []).1 n
def take (c:Cf) (u:U) (n:Nat) (cs:List Ch) (wait:List Ba):List Ch×List Ba:=
 let cs1:=cs.filter λx=>decide ((n:Int) - (x.opened:Int)<=c.timeout)
 let cs2:=(heard c u.txs).foldl (frame c.most n) cs1
 ((pull cs2).2,wait++(pull cs2).1.flatMap (λs=>reads s n))
def isDep (s:List UInt8):Bool:=
 match Im.dec s with
 |some i=>match i.list,i.kids with
  |true,[a,b]=>!a.list&&!b.list&&decide (0 < a.bytes.length)&&decide (a.bytes.length < 9)&&decide (b.bytes.length < 65)
  |_,_=>false
 |none=>false
def jP (u:U):List (List UInt8):=u.logs.filter isDep
inductive Out where
 |no
 |hold
 |got (b:Ba)
section
variable (c:Cf) (chain:List U) (n:Nat)
def late (e:Nat) (t:Int) (b:Ba):Bool:=decide ((b.time:Int) < t) || decide (b.epoch < e) || decide (e+1 < b.epoch) || decide ((b.epoch:Int)+c.window < (b.place:Int))
def holds (e:Nat) (t:Int) (b:Ba):Bool:=(b.epoch == e+1&&decide (n < e+1)) || (b.txs.isEmpty&&b.epoch == e&&decide (n < e+1)&&decide ((chain[e]!).time+c.drift < t))
def wrong (e:Nat) (t:Int) (b:Ba):Bool:=decide ((b.id:Int)≠(chain[b.epoch]!).id) || decide (t < (chain[b.epoch]!).time) || (decide ((chain[b.epoch]!).time+c.drift < t)&&(!b.txs.isEmpty || (b.epoch == e&&decide ((chain[e+1]!).time<=t))))
def sift (e:Nat) (t:Int):List Ba->Out×List Ba
 |[]=>(.no,[])
 |b::r=>
  if t < (b.time:Int) then ((sift e t r).1,b::(sift e t r).2)
  else if late c e t b then sift e t r
  else if holds c chain n e t b then (.hold,b::r)
  else if wrong c chain e t b then sift e t r
  else (.got b,r)
def lay (h:Lo) (epoch:Nat) (txs:List (List UInt8)):Lo:=
 ⟨h.number+1,h.time+c.step,epoch,(chain[epoch]!).id,if epoch=h.epoch then h.seq+1 else 0,txs,if epoch=h.epoch then [] else jP (chain[epoch]!),n⟩
def draw (h:Lo) (wait:List Ba):Option Lo×List Ba:=
 let r:=sift c chain n h.epoch (h.time+c.step) wait
 match r.1 with
 |.hold=>(none,r.2)
 |.got b=>(some (lay c chain n h b.epoch b.txs),r.2)
 |.no=>if (n:Int)<=(h.epoch:Int)+c.window then (none,r.2) else (some (lay c chain n h (if (chain[h.epoch+1]!).time<=h.time+c.step then h.epoch+1 else h.epoch) []),r.2)
def draws:Nat->Lo->List Ba->List Lo×List Ba
 |0,_,wait=>([],wait)
 |f+1,h,wait=>match draw c chain n h wait with
  |(none,k)=>([],k)
  |(some x,k)=>(x::(draws f x k).1,(draws f x k).2)
end
structure St where
 chs:List Ch
 wait:List Ba
 log:List Lo
def left (chain:List U) (n:Nat) (h:Lo) (wait:List Ba):Nat:=wait.length+(n - h.epoch)+((chain[n]!).time - h.time).toNat
def step (c:Cf) (chain:List U) (n:Nat) (s:St):St:=
 let r:=take c (chain[n]!) n s.chs s.wait
 let h:=s.log.getLastD default
 let d:=draws c chain n (left chain n h r.2+1) h r.2
 ⟨r.1,d.2,s.log++d.1⟩
def first (u:U):Lo:=⟨0,u.time,0,u.id,0,[],jP u,0⟩
def start (chain:List U):St:=⟨[],[],[first (chain[0]!)]⟩
def gone (c:Cf) (chain:List U):Nat->St
 |0=>start chain
 |k+1=>step c chain k (gone c chain k)
def jQ (c:Cf):Bool:=decide (1<=c.timeout/\c.timeout<=8/\1<=c.window/\c.window<=8/\0<=c.drift/\c.drift<=100/\2<=c.step/\c.step<=20/\1<=c.most/\c.most<=4096)
def small (u:U):Bool:=decide (u.txs.length<=20/\u.logs.length<=20)&&u.txs.all (λt=>decide (t.data.length<=2000))&&u.logs.all (λs=>decide (s.length<=2000))
def mY (q:Option Int) (u:U):Bool:=(match q with
 |none=>decide (0<=u.time/\u.time<=1000000)
 |some b=>decide (b < u.time/\u.time<=b+24))&&small u
def jW:Option Int->List U->Bool
 |_,[]=>true
 |b,u::r=>mY b u&&jW (some u.time) r
def jS (chain:List U):Bool:=decide (1<=chain.length/\chain.length<=60)&&jW none chain
def all (c:Cf) (chain:List U):Int×List Lo:=
 if jQ c=false then (1,[]) else if jS chain=false then (2,[]) else (0,(gone c chain chain.length).log)
end
end Dv
section
open Go.RowKit Go.Joins
section
variable {B:Nat} {w w':World}
def K3 (w:World) (b o:Nat) (d0 d1 q:Value):Prop:=w.cell? ⟨b,o,none⟩=some d0/\w.cell? ⟨b,o+1,none⟩=some d1/\w.cell? ⟨b,o+2,none⟩=some q
def In (B:Nat) (w:World):Nat->Value->Value->Value->Im.It->Prop
 |0,_,_,_,_=>False
 |n+1,c0,c1,c2,i=>c0=.bool i.list/\c1=.string ⟨i.bytes.toArray⟩/\∃a cap,c2=.slice a i.kids.length cap/\(i.kids≠[]->∃b off,a=some ⟨b,off,none⟩/\b < B/\∀(j:Nat) (z:j < i.kids.length),∃d0 d1 q,K3 w b (off+j * 3) d0 d1 q/\In B w n d0 d1 q (i.kids[j]))
theorem K3.below {b o:Nat} {d0 d1 E:Value} (h:K3 w b o d0 d1 E) (z:Below B w w') (q:b < B):K3 w' b o d0 d1 E:=
 ⟨(z.cell (p:=⟨b,o,none⟩) q).trans h.1,(z.cell (p:=⟨b,o+1,none⟩) q).trans h.2.1,(z.cell (p:=⟨b,o+2,none⟩) q).trans h.2.2⟩
theorem In.below (hb:Below B w w'):∀(n:Nat) (c0 E I:Value) (i:Im.It),In B w n c0 E I i->In B w' n c0 E I i
 |0,_,_,_,_,h=>h
 |n+1,c0,E,I,i,h=>by
  obtain ⟨h0,h1,a,cap,h2,h3⟩:=h
  refine ⟨h0,h1,a,cap,h2,λhk=>?_⟩
  obtain ⟨b,off,ha,q,hj⟩:=h3 hk
  refine ⟨b,off,ha,q,λj z=>?_⟩
  obtain ⟨d0,d1,Y,R,J⟩:=hj j z
  exact ⟨d0,d1,Y,R.below hb q,In.below hb n d0 d1 Y _ J⟩
theorem In.shape {n:Nat} {c0 z q:Value} {i:Im.It} (h:In B w n c0 z q i):∃a cap,c0=.bool i.list/\z=.string ⟨i.bytes.toArray⟩/\q=.slice a i.kids.length cap:=by
 cases n with
 |zero=>cases h
 |succ n=>
  obtain ⟨I,E,a,cap,h2,_⟩:=h
  exact ⟨a,cap,I,E,h2⟩
theorem below_drewN {a:World} (h:Below B a w) (n:Nat):Below B a (w.drewN n):=h.trans ⟨rfl,rfl,rfl,jC,λ_ _=>rfl⟩
end
end
namespace Hm
open Go.RowKit Go.Joins Go.Shelf
section
variable {i:Im.It}
theorem bits_or_u64_nat (a b:Nat) (z:a < 18446744073709551616) (E:b < 18446744073709551616):bits .or .u64 (a:Int) (b:Int)=((a |||b:Nat):Int):=by
 have I:a |||b < 2 ^ 64:=Nat.or_lt_two_pow (by omega) (by omega)
 have q:(BitVec.ofInt 64 (a:Int)).toNat=a:=by
  rw [BitVec.ofInt_natCast,BitVec.toNat_ofNat];exact Nat.mod_eq_of_lt (by omega)
 have h2:(BitVec.ofInt 64 (b:Int)).toNat=b:=by
  rw [BitVec.ofInt_natCast,BitVec.toNat_ofNat];exact Nat.mod_eq_of_lt (by omega)
 show IntKind.u64.wrap ((BitVec.ofInt 64 (a:Int) |||BitVec.ofInt 64 (b:Int)).toNat:Int)=_
 rw [BitVec.toNat_or,q,h2,IntKind.wrap_u64]
 omega
theorem zL (s:List UInt8) (k:Nat) (hk:k < s.length):Im.val (s.take (k+1)) 0=256 * Im.val (s.take k) 0+(s.getD k 0).toNat:=by
 rw [dZ hk,Im.val_append]
 simp only [Im.val]
 rw [aS,aG hk]
 simp
 try omega
theorem qX:∀(s:List UInt8) (n:Nat),Im.val s n < (n+1) * 256 ^ s.length
 |[],n=>by simp [Im.val]
 |x::s,n=>by
  have:=qX s (256 * n+x.toNat)
  have q:=x.toNat_lt
  simp only [Im.val,aN,Nat.pow_succ]
  refine aH this ?_
  rw [Nat.mul_comm (256 ^ s.length) 256,<-Nat.mul_assoc]
  exact fD _ (by omega)
theorem RJ:∀(s:List UInt8) (n:Nat),n * 256 ^ s.length<=Im.val s n
 |[],n=>by simp [Im.val]
 |x::s,n=>by
  have:=RJ s (256 * n+x.toNat)
  simp only [Im.val,aN,Nat.pow_succ]
  refine aW ?_ this
  rw [Nat.mul_comm (256 ^ s.length) 256,<-Nat.mul_assoc]
  exact fD _ (by omega)
theorem PV (s:List UInt8) (hs:s.length<=8):decide (4611686018427387903 < Im.val s 0)=(s.length == 8&&decide (64<=(s.getD 0 0).toNat)):=by
 by_cases q:s.length=8
 ·cases s with
  |nil=>simp at q
  |cons x s=>
   have E:s.length=7:=by simpa using q
   have z:=qX s x.toNat
   have h2:=RJ s x.toNat
   rw [E] at z h2
   have e:Im.val (x::s) 0=Im.val s x.toNat:=by simp [Im.val]
   rw [e,q]
   simp only [List.getD_cons_zero,beq_self_eq_true,Bool.true_and]
   exact decide_eq_decide.2 (by omega)
 ·have z:=qX s 0
  have h2:(256:Nat) ^ s.length<=256 ^ 7:=iH (by decide) (by omega)
  rw [show (s.length == 8)=false from beq_false_of_ne q,Bool.false_and]
  exact decide_eq_false (by omega)
def aae (o:Option Nat):Value:=.tuple #[.int .i64 ((o.getD 0:Nat):Int),.bool o.isSome]
theorem zQ (h:i.list=true\/8 < i.bytes.length\/(i.bytes≠[]/\(i.bytes.getD 0 0)=0)):Dv.value i=none:=by
 unfold Dv.value
 rw [if_pos]
 rcases h with h|h|⟨q,h2⟩
 ·simp [h]
 ·simp [h]
 ·simp only [iO]
  left;right
  rw [h2]
  simp [q]
theorem IW (q:i.list=false) (h2:i.bytes.length<=8) (h3:i.bytes=[]\/(i.bytes.getD 0 0)≠0):Dv.value i=if 4611686018427387903 < Im.val i.bytes 0 then none else some (Im.val i.bytes 0):=by
 have z:=PV i.bytes h2
 unfold Dv.value
 rw [q,<-z,decide_eq_false (show ¬8 < i.bytes.length by omega)]
 have:(i.bytes != []&&i.bytes.getD 0 0 == 0)=false:=by
  rcases h3 with h3|h3
  ·rw [h3];rfl
  ·rw [show (i.bytes.getD 0 0 == 0)=false from beq_false_of_ne h3,Bool.and_false]
 rw [this]
 simp
theorem rF (i:Im.It) (c2:Value) (w:World) (au:∃a n cap,c2=.slice a n cap):Calls PQ 176 #[.agg #[.bool i.list,.string ⟨i.bytes.toArray⟩,c2]] w λe w'=>e=.returned (aae (Dv.value i))/\Below w.heap.size w w':=by
 obtain ⟨a,n,cap,rfl⟩:=au
 obtain ⟨D,hD⟩:∃D:ByteArray,(⟨i.bytes.toArray⟩:ByteArray)=D:=⟨_,rfl⟩
 have E:D.data.toList=i.bytes:=by rw [<-hD]
 have I:D.size=i.bytes.length:=by rw [<-hD];rfl
 rw [hD]
 obtain ⟨R,hR⟩:∃R,Dv.value i=R:=⟨_,rfl⟩
 rw [hR]
 obtain ⟨li,z⟩:∃li,i.list=li:=⟨_,rfl⟩
 rw [z]
 obtain ⟨W,J⟩:∃W,W=w.alloc (.cells #[.bool li,.string D,.slice a n cap] 103):=⟨_,rfl⟩
 have aa:Below w.heap.size w W:=by rw [J];exact (aB _ w).alloc jC _
 have z0:W.cell? ⟨w.heap.size,0,none⟩=some (.bool li):=by rw [J];simp
 have z1:W.cell? ⟨w.heap.size,1,none⟩=some (.string D):=by rw [J];simp
 have H:Hid _:=jB E (jB I (jB hR (jB z aa)))
 cases li
 ·by_cases h8:D.size<=8
  ·have ax:¬(8:Int) < (D.size:Int):=by omega
   by_cases he:i.bytes=[]
   ·have ar:D=⟨#[]⟩:=by rw [<-hD,he]
    have q:=IW z (by omega) (.inl he)
    rw [hR,he] at q
    subst ar
    have Hv:Hid _:=q
    clear hD E I hR z aa q he
    go_enter (fq Tryz.func176 rfl),Tryz.ntmps176
    go_upto_region 1 with fail
    rw [<-J]
    clear J
    have ag:=λu:World=>Lib.run_convert_string_bytes (P:=PQ) u 9 155 5 ⟨#[]⟩ (uq Tryz.underlying9) (uq Tryz.underlying155) (uq Tryz.underlying5)
    go_wp2_with fail
    obtain ⟨Y,hY⟩:∃Y:World,Y=Lib.bytesWorld W 5 ⟨#[]⟩:=⟨_,rfl⟩
    have ab:Below w.heap.size w Y:=by rw [hY];exact Fr.below_bytesWorld H.out.2.2.2.2 H.out.2.2.2.2.size _ _
    rw [<-hY]
    have HY:Hid _:=ab
    clear hY ab ag
    go_loopg [5,7,29] 0 (λg v5 _ t wx=>v5=.int .u64 0/\t=.int .i64 0/\wx=Y)
    case atStart=>exact ⟨rfl,rfl,rfl⟩
    case round=>
     obtain ⟨rfl,rfl,rfl⟩:=hrel
     go_wp2_with fail
     go_ret2
     refine ⟨?_,HY.out⟩
     rw [Hv.out]
     rfl
   ·have h0:0 < D.size:=by
     rw [I]
     exact List.length_pos_iff.2 he
    have aq:D.toList.isEmpty=false:=by rw [Fr.toList_empty];exact decide_eq_false (by omega)
    obtain ⟨x,hx⟩:∃x:UInt8,i.bytes.getD 0 0=x:=⟨_,rfl⟩
    have ac:D[0]'h0=x:=by
     rw [<-hx,<-E,aS]
     have:D.data.toList[0]? =some (D[0]'h0):=by
      rw [aG (by simpa using h0)]
      rfl
     rw [this]
     rfl
    by_cases hz:x=0
    ·have q:=zQ (i:=i) (.inr (.inr ⟨he,by rw [hx];exact hz⟩))
     rw [hR] at q
     subst q
     have aj:(((D[0]'h0).toNat:Int) == 0)=true:=by rw [ac,hz];rfl
     clear hD E I hR z aa hx ac hz he
     go_enter (fq Tryz.func176 rfl),Tryz.ntmps176
     go_upto_region 1 with fail
     rw [<-J]
     clear J
     go_wp2_with fail
     go_ret2
     exact ⟨rfl,H.out.2.2.2.2⟩
    ·have q:=IW z (by omega) (.inr (by rw [hx];exact hz))
     rw [hR,<-E] at q
     have aj:(((D[0]'h0).toNat:Int) == 0)=false:=by
      rw [ac]
      refine beq_false_of_ne (λe=>hz ?_)
      have:x.toNat=0:=by omega
      exact jv.1 (by rw [this];rfl)
     have Hv:Hid _:=q
     clear hD E I hR z aa hx ac hz he q
     go_enter (fq Tryz.func176 rfl),Tryz.ntmps176
     go_upto_region 1 with fail
     rw [<-J]
     clear J
     have ag:=λu:World=>Lib.run_convert_string_bytes (P:=PQ) u 9 155 5 D (uq Tryz.underlying9) (uq Tryz.underlying155) (uq Tryz.underlying5)
     go_wp2_with fail
     obtain ⟨Y,hY⟩:∃Y:World,Y=Lib.bytesWorld W 5 D:=⟨_,rfl⟩
     have ab:Below w.heap.size w Y:=by rw [hY];exact Fr.below_bytesWorld H.out.2.2.2.2 H.out.2.2.2.2.size _ _
     have ao:∀k,k < D.size->Y.cell? ⟨W.heap.size,k,none⟩=some (.int .u8 (D.data.toList.getD k 0).toNat):=λk hk=>by rw [hY];exact Lib.bytesWorld_cell W 5 D k hk
     rw [<-hY]
     have HY:Hid _:=jB ao ab
     clear hY ao ab ag aj aq
     generalize grownCap W D.size 0 5=gc
     go_loopg [5,7,29] D.size (λg v5 _ t wx=>∃k:Nat,k<=D.size/\t=.int .i64 k/\v5=.int .u64 (Im.val (D.data.toList.take k) 0:Nat)/\g=D.size - k/\wx=Y)
     case atStart=>exact ⟨0,dF _,rfl,rfl,rfl,rfl⟩
     case round=>
      obtain ⟨k,hk,rfl,rfl,rfl,rfl⟩:=hrel
      by_cases ap:k < D.size
      ·have ai:(k:Int) < (D.size:Int):=by omega
       have hc:=HY.out.1 k (by omega)
       have af:=zL D.data.toList k (by rw [<-aV];exact ap)
       generalize hb:(D.data.toList.getD k 0).toNat=b at hc af
       have aw:b < 256:=by rw [<-hb];exact UInt8.toNat_lt _
       have az:Im.val (D.data.toList.take k) 0 < 72057594037927936:=by
        have h1:=qX (D.data.toList.take k) 0
        have h2:(256:Nat) ^ (D.data.toList.take k).length<=256 ^ 7:=iH (by decide) (by rw [aZ];omega)
        omega
       generalize an:Im.val (D.data.toList.take (k+1)) 0=V' at af
       have av:Hid _:=an
       clear an
       generalize Im.val (D.data.toList.take k) 0=V at *
       have Hb:Hid _:=hb
       clear hb
       go_wp2_with fail
       rw [show bits .or .u64 ((V:Int) * 256) (b:Int)=(V':Int) from by
        rw [show (V:Int) * 256=((V * 256:Nat):Int) from by omega,bits_or_u64_nat _ _ (by omega) (by omega),Fr.zB V b aw,af]]
       go_roundg (D.size - (k+1))
       case measure=>omega
       case rel=>
        refine ⟨k+1,by omega,by go_num,?_,rfl,rfl⟩
        rw [av.out]
      ·have ai:¬(k:Int) < (D.size:Int):=by omega
       obtain rfl:k=D.size:=by omega
       have q:=Hv.out
       rw [show D.data.toList.take D.size=D.data.toList from dV (by rw [<-aV];omega)]
       have ah:=qX D.data.toList 0
       have ae:(256:Nat) ^ D.data.toList.length<=256 ^ 8:=iH (by decide) (by rw [<-aV];exact h8)
       generalize Im.val D.data.toList 0=V at *
       have ay:V < 18446744073709551616:=by omega
       by_cases ak:4611686018427387903 < V
       ·rw [if_pos ak] at q
        have am:(4611686018427387903:Int) < (V:Int):=by omega
        subst q
        clear ah ae
        go_wp2_with fail
        go_ret2
        exact ⟨rfl,HY.out.2⟩
       ·rw [if_neg ak] at q
        have am:¬(4611686018427387903:Int) < (V:Int):=by omega
        subst q
        clear ah ae
        go_wp2_with fail
        go_ret2
        exact ⟨rfl,HY.out.2⟩
  ·have ax:(8:Int) < (D.size:Int):=by omega
   have q:=zQ (i:=i) (.inr (.inl (by omega)))
   rw [hR] at q
   subst q
   clear hD E I hR z aa
   go_enter (fq Tryz.func176 rfl),Tryz.ntmps176
   go_upto_region 1 with fail
   rw [<-J]
   clear J
   go_wp2_with fail
   go_ret2
   exact ⟨rfl,H.out.2.2.2.2⟩
 ·have q:=zQ (i:=i) (.inl z)
  rw [hR] at q
  subst q
  clear hD E I hR z aa
  go_enter (fq Tryz.func176 rfl),Tryz.ntmps176
  go_upto_region 1 with fail
  rw [<-J]
  clear J
  go_wp2_with fail
  go_ret2
  exact ⟨rfl,H.out.2.2.2.2⟩
end
open Go.RowKit Go.Joins
open Dv (Cf U Tx)
section
variable {w:World} {g off cap j:Nat} {α:Type}
theorem lZ (n a b:Int) (w:World):Calls PQ 66 #[.int .i64 n,.int .i64 a,.int .i64 b] w λe w'=>e=.returned (.bool (decide (a<=n)&&decide (n<=b)))/\w'=w:=by
 obtain ⟨r,q⟩:∃r,(decide (a<=n)&&decide (n<=b))=r:=⟨_,rfl⟩
 rw [q]
 have z:Hid _:=q
 clear q
 go_enter (fq Tryz.func66 rfl),Tryz.ntmps66
 by_cases E:a<=n
 ·by_cases h2:n<=b
  ·go_wp2_with fail
   go_ret
   refine ⟨?_,rfl⟩
   rw [<-z.out,decide_eq_true (by omega),decide_eq_true (by omega)];rfl
  ·go_wp2_with fail
   go_ret
   refine ⟨?_,rfl⟩
   rw [<-z.out,decide_eq_true (by omega),decide_eq_false (by omega)];rfl
 ·go_wp2_with fail
  go_ret
  refine ⟨?_,rfl⟩
  rw [<-z.out,decide_eq_false (by omega)];rfl
def jI (c:Cf):Array Value:=#[.int .u32 c.inbox,.int .u32 c.batcher,.int .i64 c.timeout,.int .i64 c.window,.int .i64 c.drift,.int .i64 c.step,.int .i64 c.most]
theorem Bo (c:Cf) (w:World):Calls PQ 36 #[.agg (jI c)] w λe w'=>e=.returned (.bool (Dv.jQ c))/\Below w.heap.size w w':=by
 obtain ⟨ib,ba,t,q,E,st,z⟩:=c
 unfold jI
 dsimp only
 have hb:Below w.heap.size w (w.alloc (.cells #[.int .u32 ib,.int .u32 ba,.int .i64 t,.int .i64 q,.int .i64 E,.int .i64 st,.int .i64 z] 24)):=(aB _ w).alloc jC _
 have Hb:Hid _:=hb
 clear hb
 go_enter (fq Tryz.func36 rfl),Tryz.ntmps36
 have R:=λw=>lZ t 1 8 w
 have W2:=λw=>lZ q 1 8 w
 have Y:=λw=>lZ E 0 100 w
 have W4:=λw=>lZ st 2 20 w
 have W5:=λw=>lZ z 1 4096 w
 obtain ⟨b1,e1⟩:∃b,(decide (1<=t)&&decide (t<=8))=b:=⟨_,rfl⟩
 obtain ⟨b2,J⟩:∃b,(decide (1<=q)&&decide (q<=8))=b:=⟨_,rfl⟩
 obtain ⟨b3,e3⟩:∃b,(decide (0<=E)&&decide (E<=100))=b:=⟨_,rfl⟩
 obtain ⟨b4,e4⟩:∃b,(decide (2<=st)&&decide (st<=20))=b:=⟨_,rfl⟩
 obtain ⟨b5,I⟩:∃b,(decide (1<=z)&&decide (z<=4096))=b:=⟨_,rfl⟩
 have hr:Dv.jQ ⟨ib,ba,t,q,E,st,z⟩=(b1&&b2&&b3&&b4&&b5):=by
  unfold Dv.jQ
  rw [<-e1,<-J,<-e3,<-e4,<-I]
  simp only [Bool.decide_and,Bool.and_assoc]
 rw [e1] at R
 rw [J] at W2
 rw [e3] at Y
 rw [e4] at W4
 rw [I] at W5
 have H1:Hid _:=R
 have H2:Hid _:=W2
 have H3:Hid _:=Y
 have H4:Hid _:=W4
 have H5:Hid _:=W5
 rw [hr]
 clear hr e1 J e3 e4 I R W2 Y W4 W5
 cases b1<;>cases b2<;>cases b3<;>cases b4<;>cases b5
 all_goals
  go_wp2_with (go_at_call 66;first|(with_reducible refine aK (H1.out _) ?_;rintro e w2 ⟨rfl,rfl⟩)|(with_reducible refine aK (H2.out _) ?_;rintro e w2 ⟨rfl,rfl⟩)|(with_reducible refine aK (H3.out _) ?_;rintro e w2 ⟨rfl,rfl⟩)|(with_reducible refine aK (H4.out _) ?_;rintro e w2 ⟨rfl,rfl⟩)|(with_reducible refine aK (H5.out _) ?_;rintro e w2 ⟨rfl,rfl⟩)|fail)
  go_ret
  exact ⟨rfl,Hb.out⟩
def xC (t:Tx):List Value:=[.int .u32 t.fr,.int .u32 t.dest,.string ⟨t.data.toArray⟩]
def nT (s:List UInt8):Value:=.string ⟨s.toArray⟩
def wP (w:World) (v:Value) (l:List Tx):Prop:=Rd w 3 v l.length (l.flatMap xC)
def pJ (w:World) (v:Value) (l:List (List UInt8)):Prop:=Rd w 1 v l.length (l.map nT)
theorem wP.get {l:List Tx} (h:wP w (.slice (some ⟨g,off,none⟩) l.length cap) l) {t:Tx} (q:l[j]? =some t):
  w.cell? ⟨g,off+j * 3,none⟩=some (.int .u32 t.fr)/\w.cell? ⟨g,off+j * 3+1,none⟩=some (.int .u32 t.dest)/\w.cell? ⟨g,off+j * 3+2,none⟩=some (.string ⟨t.data.toArray⟩):=by
 have k:=λ(i:Nat) (u:Value) (E:i < 3) (z:(xC t)[i]? =some u)=>Rd.rec xC 3 (λ_=>rfl) h q E z
 exact ⟨k 0 _ (by omega) rfl,k 1 _ (by omega) rfl,k 2 _ (by omega) rfl⟩
theorem pJ.get {l:List (List UInt8)} (h:pJ w (.slice (some ⟨g,off,none⟩) l.length cap) l) {s:List UInt8} (q:l[j]? =some s):w.cell? ⟨g,off+j,none⟩=some (.string ⟨s.toArray⟩):=by
 have J:j < l.length:=(aF.1 q).1
 obtain ⟨g',E,I,z,_,_,R⟩:=Rd.pos h (by omega)
 simp only [Value.slice.injEq,aC,Addr.mk.injEq,and_true,true_and] at z
 obtain ⟨⟨rfl,rfl⟩,rfl⟩:=z
 exact R j _ (by rw [eX,q];rfl)
theorem Rd.cases {s n:Nat} {v:Value} {xs:List Value} (h:Rd w s v n xs):(∃a cap,n=0/\v=.slice a 0 cap)\/(∃g off cap,0 < n/\v=.slice (some ⟨g,off,none⟩) n cap):=by
 rcases gB n with q|q
 ·obtain ⟨a,cap,rfl⟩:=h.slice
  exact .inl ⟨a,cap,q,by rw [q]⟩
 ·obtain ⟨g,off,cap,z,_⟩:=h.pos q
  exact .inr ⟨g,off,cap,q,z⟩
theorem MF (t:Tx) (w:World):Calls PQ 147 #[.agg #[.int .u32 t.fr,.int .u32 t.dest,.string ⟨t.data.toArray⟩]] w λe w'=>e=.returned (.bool (decide (2000 < t.data.length)))/\Below w.heap.size w w':=by
 obtain ⟨D,q⟩:∃D:ByteArray,(⟨t.data.toArray⟩:ByteArray)=D:=⟨_,rfl⟩
 have hs:D.size=t.data.length:=by rw [<-q];rfl
 rw [q,<-hs]
 have z:Hid _:=λo=>(aB w.heap.size w).alloc jC o
 clear q hs
 go_enter (fq Tryz.func147 rfl),Tryz.ntmps147
 go_wp2_with fail
 go_ret
 exact ⟨by simp only [Int.ofNat_lt.symm];rfl,z.out _⟩
theorem KN (s:List UInt8) (w:World):Calls PQ 149 #[.string ⟨s.toArray⟩] w λe w'=>e=.returned (.bool (decide (2000 < s.length)))/\Below w.heap.size w w':=by
 obtain ⟨D,q⟩:∃D:ByteArray,(⟨s.toArray⟩:ByteArray)=D:=⟨_,rfl⟩
 have hs:D.size=s.length:=by rw [<-q];rfl
 rw [q,<-hs]
 clear q hs
 go_enter (fq Tryz.func149 rfl),Tryz.ntmps149
 go_wp2_with fail
 go_ret
 exact ⟨by simp only [Int.ofNat_lt.symm];rfl,aB _ _⟩
def idx {α:Type} (p:α->Bool) (l:List α):Int:=match l.findIdx? p with
 |some i=>i
 |none=>-1
theorem zU {p:α->Bool} {l:List α} (h:∀(j:Nat) (x:α),l[j]? =some x->p x=false):idx p l=-1:=by
 unfold idx
 rw [List.findIdx?_eq_none_iff.2 (λx z=>by obtain ⟨j,q⟩:=List.getElem?_of_mem z;exact h j x q)]
theorem A8 {p:α->Bool} {l:List α} {i:Nat} {x:α} (E:l[i]? =some x) (I:p x=true) (h:∀(j:Nat) (y:α),j < i->l[j]? =some y->p y=false):idx p l=i:=by
 unfold idx
 obtain ⟨q,rfl⟩:=aF.1 E
 rw [iZ.2 ⟨q,I,λj z=>by
  have:=h j (l[j]'(by omega)) z (aG (by omega))
  simp [this]⟩]
theorem NW (p:α->Bool) (l:List α):decide (0<=idx p l)=l.any p:=by
 unfold idx
 cases h:l.findIdx? p with
 |none=>
  have:=List.findIdx?_eq_none_iff.1 h
  rw [decide_eq_false (by show ¬(0:Int)<=-1;omega)]
  symm
  rw [List.any_eq_false]
  exact λx z=>by simp [this x z]
 |some i=>
  obtain ⟨q,z,_⟩:=iZ.1 h
  rw [decide_eq_true (by show (0:Int)<=(i:Int);omega)]
  symm
  rw [List.any_eq_true]
  exact ⟨_,List.getElem_mem q,z⟩
end
end Hm
section
open Go.RowKit
theorem oO {B:Nat} {a b:World} (h:Below B a b) (l:Nat) (o:Obj) (q:l < a.heap.size):Below B (a.putObj l o) (b.putObj l o):=
 ⟨h.os,h.tape,h.output,by simp;exact h.size,λk hk=>by
  by_cases e:k=l
  ·subst e;rw [World.putObj_heap_same q,World.putObj_heap_same (aH q h.size)]
  ·rw [World.putObj_heap_other e,World.putObj_heap_other e];exact h.block k hk⟩
theorem tu (w:World) (l:Nat) (o o':Obj) (q:l < w.heap.size):(w.alloc o).putObj l o'=(w.putObj l o').alloc o:=by
 have:(w.heap.push o).setIfInBounds l o'=(w.heap.setIfInBounds l o').push o:=by
  apply fP
  intro i
  simp only [aO,gY,Array.size_push,jh]
  by_cases e:l=i
  ·subst e;simp [q,iJ q];omega
  ·simp [e]
 show { (w.alloc o) with heap:=(w.alloc o).heap.setIfInBounds l o' }={ (w.putObj l o') with heap:=(w.putObj l o').heap.push o }
 have z:(w.alloc o).heap=w.heap.push o:=rfl
 have E:(w.putObj l o').heap=w.heap.setIfInBounds l o':=rfl
 rw [z,E,this]
 rfl
def Gives {α:Type} (P:Program) (g:Nat) (lb:Array Value) (encs:α->Array Value) (ks:Nat->Prop) (Y:List α->α->Nat->World->Prop) (S Sp:List α->Prop) (w:World):Prop:=
 ∀(l:Nat) (J R:List α->World->Prop) (W:World),Below w.heap.size w W->
  (∀q x z I,J q z->Below z.heap.size z I->Y q x z.heap.size I->YieldAt Fence.wide 1 P l (encs x) I λe E=>
   (e=.returned (.bool true)/\J (q++[x]) E/\I.heap.size<=E.heap.size/\∀k,ks k->E.heap[k]? =I.heap[k]?)\/(e=.returned (.bool false)/\R (q++[x]) E))->
  J [] W->
  CallsIn Fence.wide 2 P g (#[.func (.yield l) #[] #[]]++lb) W λe E=>(∃v,e=.returned v)/\((∃xs z,S xs/\J xs z/\Below z.heap.size z E)\/(∃q z,Sp q/\R q z/\Below z.heap.size z E))
def XP {α:Type} (B:Nat) (z:Nat->Prop) (I:List α->World->Prop) (q:Code->List α->World->Prop) (xs:List α) (W:World):Exit->Act->World->Prop
 |.normal,_,W'=>KeepsFrom B W W'/\(∀k,z k->W'.heap[k]? =W.heap[k]?)/\I xs W'
 |.ret,_,W'=>KeepsFrom B W W'/\q .ret xs W'
 |.exit id,_,W'=>KeepsFrom B W W'/\q (.exit id) xs W'
 |.goto t,_,W'=>KeepsFrom B W W'/\q (.goto t) xs W'
 |.panic _,_,_=>False
 |.outgrown,_,_=>False
theorem yN {α:Type} {P:Program} {g:Operand} {ps:Array Tmp} {assign body:Code} {Q:Exit->Act->World->Prop} {a:Act} {w:World}
  {gf:Nat} {lb:Array Value} (hg:a.eval g=.func (.func gf) #[] lb) (eg:∀args w,(callFunc gf args).run P w=.ok (.enter gf args) w)
  {encs:α->Array Value} {ks:Nat->Prop} {Y:List α->α->Nat->World->Prop} {S Sp:List α->Prop} {w0:World} (an:Gives P gf lb encs ks Y S Sp w0) (ak:Below w0.heap.size w0 w)
  (au:∀k,ks k->k < w.heap.size) (hY:∀q x lo W W',(∀k,lo<=k->W'.heap[k]? =W.heap[k]?)->W'.heap.size=W.heap.size->Y q x lo W->Y q x lo W') (ao:∀x,(encs x).size=ps.size)
  (I:List α->World->Prop) (Ix:Code->List α->World->Prop) (hI:OwnFrom w.heap.size I) (ab:∀c,OwnFrom w.heap.size (Ix c)) (h0:I [] w) (ac:α->Nat->Act) (ox:α->Obj)
  (aa:∀(l:Nat) (x:α) (W:World) (K:Act->World->Prop),K (ac x W.heap.size) (W.alloc (ox x))->
   assign.wpIn (Fence.wide.inRound l) 1 P (Exit.then K (λ_ _ _=>False)) { tmps:=(ps.zip (encs x)).foldl (λt (p,v)=>t.setIfInBounds p v) a.tmps,defers:=[] } W)
  (ae:∀(l:Nat) (q:List α) (x:α) (E W1:World),w.heap.size < E.heap.size->I q E->Below E.heap.size E W1->Y q x E.heap.size W1->body.wpIn (Fence.wide.inRound l) 1 P (XP w.heap.size ks I Ix (q++[x]) (W1.alloc (ox x))) (ac x W1.heap.size) (W1.alloc (ox x)))
  (ag:∀(D:Nat) (xs:List α) (E W:World),w.heap.size<=D->D < E.heap.size->S xs->I xs E->Below E.heap.size E W->W.heap[D]? =some (.deferred (some []))->Q .normal { a with defers:={ target:=.collected D,args:=#[] }::a.defers } W)
  (ai:∀(D:Nat) (c:Code) (q:List α) (E W:World),w.heap.size<=D->D < E.heap.size->Sp q->Ix c q E->Below E.heap.size E W->W.heap[D]? =some (.deferred (some []))->c.wpIn Fence.wide 3 P Q { a with defers:={ target:=.collected D,args:=#[] }::a.defers } W):
  (Code.rangeFunc g ps assign body).wpIn Fence.wide 3 P Q a w:=by
 refine wpIn_rangeFunc λfn ar=>?_
 obtain ⟨rc,J⟩:∃rc:LoopState->Option Code->Loop,rc=λst pe=>{ state:=st,pending:=pe,fn,tmps:=a.tmps,params:=ps,assign,body,defers:=w.heap.size }:=⟨_,rfl⟩
 obtain ⟨V,hV⟩:∃V,(w.alloc (.deferred (some []))).alloc (.loop (rc .ready none))=V:=⟨_,rfl⟩
 have vl:V.heap[w.heap.size+1]? =some (.loop (rc .ready none)):=by
  have:=World.alloc_heap_new (w.alloc (.deferred (some []))) (.loop (rc .ready none))
  rw [eH,hV] at this
  exact this
 have vd:V.heap[w.heap.size]? =some (.deferred (some [])):=by rw [<-hV];exact (aT _ _ _ (by simp)).trans (World.alloc_heap_new w _)
 have vI:I [] V:=by rw [<-hV];exact hI.alloc _ (hI.alloc _ h0)
 have vb:Below w0.heap.size w0 V:=by rw [<-hV];exact ak.trans ((((aB _ w).alloc jC _).alloc (by simp) _).mono ak.size)
 refine ⟨w.heap.size+1,[{ target:=.collected w.heap.size,args:=#[] }],V,{ target:=.fn (.func gf) lb,args:=#[.func (.yield (w.heap.size+1)) #[] #[]] },V,gf,
  #[.func (.yield (w.heap.size+1)) #[] #[]]++lb,V,?_,?_,λ_ _=>trivial,by simp [invoke,go_sem,eg],λh=>by simp [Fence.wide] at h,?_⟩
 ·rw [<-hV,J];exact run_enterLoop_outer _ _ _ _ _
 ·simp only [resolve,hg]
  simp [go_sem]
 refine (an (w.heap.size+1)
  (λq W=>I q W/\W.heap[w.heap.size+1]? =some (.loop (rc .ready none))/\W.heap[w.heap.size]? =some (.deferred (some [])))
  (λq W=>∃c,Ix c q W/\W.heap[w.heap.size+1]? =some (.loop (rc .done (some c)))/\W.heap[w.heap.size]? =some (.deferred (some []))) V vb ?_ ⟨vI,vl,vd⟩).mono ?_
 ·rintro q x E W1 ⟨i0,l0,d0⟩ hb hy
  have R:w.heap.size+1 < E.heap.size:=(jE l0)
  have l1:=(hb.block _ R).trans l0
  have d1:=(hb.block _ (by omega:w.heap.size < E.heap.size)).trans d0
  have af:w.heap.size+1 < W1.heap.size:=(jE l1)
  have ry:=run_yield (P:=P) (args:=encs x) l1 (by rw [J];exact ao x)
  rw [J] at ry
  refine ⟨fn,_,assign,body,ry,roundIn_of_wpIn ar (aa _ x W1 _ ⟨_,run_beginRound ((aT _ _ _ af).trans l1) (by rw [J]),?_⟩)⟩
  clear ry
  rw [tu _ _ _ _ af]
  obtain ⟨o,ho⟩:∃o:Obj,Obj.loop { rc .ready none with state:=.busy }=o:=⟨_,rfl⟩
  rw [ho]
  have b1:=oO hb (w.heap.size+1) o R
  have y1:Y q x (E.putObj (w.heap.size+1) o).heap.size (W1.putObj (w.heap.size+1) o):=by
   rw [World.putObj_size]
   exact hY q x _ W1 _ (λk hk=>World.putObj_heap_other (by omega)) (by simp) hy
  have ah:=ae (w.heap.size+1) q x _ _ (by simp;omega) (hI.putObj o i0 (by omega) l0 rfl) (by simpa using b1) y1
  rw [World.putObj_size] at ah
  refine wpIn_mono ah ?_
  clear ah
  have aq:((W1.putObj (w.heap.size+1) o).alloc (ox x)).heap[w.heap.size+1]? =some o:=(aT _ _ _ (by simp;omega)).trans (World.putObj_heap_same af)
  have ap:((W1.putObj (w.heap.size+1) o).alloc (ox x)).heap[w.heap.size]? =some (.deferred (some [])):=(aT _ _ _ (by simp;omega)).trans ((World.putObj_heap_other (by omega)).trans d1)
  have fin:∀(z:Option Code) (W3:World),KeepsFrom w.heap.size ((W1.putObj (w.heap.size+1) o).alloc (ox x)) W3->
    (Instr.endRound (w.heap.size+1) z).run P W3=.ok (.bool z.isNone) (W3.putObj (w.heap.size+1) (.loop (rc (if z.isNone then .ready else .done) z)))/\
    W3.heap[w.heap.size+1]? =some o/\
    (W3.putObj (w.heap.size+1) (.loop (rc (if z.isNone then .ready else .done) z))).heap[w.heap.size+1]? =some (.loop (rc (if z.isNone then .ready else .done) z))/\
    (W3.putObj (w.heap.size+1) (.loop (rc (if z.isNone then .ready else .done) z))).heap[w.heap.size]? =some (.deferred (some [])):=λz W3 am=>by
   have q1:=am.same _ _ (by omega) aq (by rw [<-ho];rfl)
   have q2:=am.same _ _ jC ap rfl
   have aj:=q1
   rw [<-ho] at aj
   have:=run_endRound (P:=P) z aj
   refine ⟨?_,q1,World.putObj_heap_same (jE q1),(World.putObj_heap_other (by omega)).trans q2⟩
   rw [J] at this⊢
   exact this
  rintro e a3 W3 hp
  cases e with
  |normal=>
   obtain ⟨k3,kk,i3⟩:=hp
   obtain ⟨hr,l3,l4,d4⟩:=fin none W3 k3
   refine ⟨_,_,hr,.inl ⟨rfl,⟨hI.putObj _ i3 (by omega) l3 (by rw [<-ho];rfl),l4,d4⟩,by have:=k3.size;simp at this⊢;omega,λk hk=>?_⟩⟩
   have av:=au k hk
   rw [World.putObj_heap_other (by omega),kk k hk,aT _ _ _ (by simp;omega),World.putObj_heap_other (by omega)]
  |ret=>
   obtain ⟨k3,i3⟩:=hp
   obtain ⟨hr,l3,l4,d4⟩:=fin (some .ret) W3 k3
   exact ⟨_,_,hr,.inr ⟨rfl,.ret,(ab _).putObj _ i3 (by omega) l3 (by rw [<-ho];rfl),l4,d4⟩⟩
  |exit id=>
   obtain ⟨k3,i3⟩:=hp
   obtain ⟨hr,l3,l4,d4⟩:=fin (some (.exit id)) W3 k3
   exact ⟨_,_,hr,.inr ⟨rfl,.exit id,(ab _).putObj _ i3 (by omega) l3 (by rw [<-ho];rfl),l4,d4⟩⟩
  |goto t=>
   obtain ⟨k3,i3⟩:=hp
   obtain ⟨hr,l3,l4,d4⟩:=fin (some (.goto t)) W3 k3
   exact ⟨_,_,hr,.inr ⟨rfl,.goto t,(ab _).putObj _ i3 (by omega) l3 (by rw [<-ho];rfl),l4,d4⟩⟩
  |panic ch=>exact hp.elim
  |outgrown=>exact hp.elim
 ·rintro e W2 ⟨⟨v,rfl⟩,(⟨xs,E,hS,⟨i0,l0,d0⟩,hb⟩|⟨q,E,hS,⟨c,i0,l0,d0⟩,hb⟩)⟩
  ·have R:w.heap.size+1 < E.heap.size:=(jE l0)
   have l2:=(hb.block _ R).trans l0
   have d2:=(hb.block _ (by omega:w.heap.size < E.heap.size)).trans d0
   refine ⟨none,_,by have:=run_endLoop (P:=P) l2 (by rw [J];simp);rw [J] at this;exact this,?_⟩
   exact ag _ xs _ _ jC (by simp;omega) hS (hI.putObj _ i0 (by omega) l0 rfl) (by simpa using oO hb (w.heap.size+1) _ R) ((World.putObj_heap_other (by omega)).trans d2)
  ·have R:w.heap.size+1 < E.heap.size:=(jE l0)
   have l2:=(hb.block _ R).trans l0
   have d2:=(hb.block _ (by omega:w.heap.size < E.heap.size)).trans d0
   refine ⟨some c,_,by have:=run_endLoop (P:=P) l2 (by rw [J];simp);rw [J] at this;exact this,?_⟩
   exact ai _ c q _ _ jC (by simp;omega) hS ((ab c).putObj _ i0 (by omega) l0 rfl) (by simpa using oO hb (w.heap.size+1) _ R) ((World.putObj_heap_other (by omega)).trans d2)
open Go.RowKit Go.Joins
theorem toList_empty (s:ByteArray):s.toList.isEmpty=decide (s.size=0):=by
 rw [ByteArray.toList_eq,aV]
 cases s.data.toList<;>simp
theorem zx (u:World) (s:ByteArray) (i:Int) (j:Nat) (q:j < s.size) (e:i=(j:Int)):(Instr.index 9 (.string s) (.int .i64 i)).run PQ u=.ok (.int .u8 (s[j].toNat:Int)) u:=by
 subst e
 rw [run_index_string u _ s .i64 _ (uq Tryz.underlying9),dif_pos (by omega)]
 simp
open Go.Shelf
def ren:Go.Shelf.Ren:=⟨fun|105=>204|212=>217|99=>218|165=>91|166=>140|170=>173|169=>93|263=>226|264=>227|206=>228|240=>137|241=>138|276=>192|277=>193|167=>139|n=>n,fun|9=>9|3=>3|4=>4|20=>20|0=>0|46=>154|109=>307|5=>5|72=>178|76=>237|51=>22|146=>318|53=>207|148=>320|70=>176|37=>155|75=>163|127=>239|164=>253|80=>182|n=>n,fun|n=>n⟩
theorem lays105:Go.Proofs.Lays.n105 PQ ren:={
 mixed:=by kernel_rfl
 f99:=(fq Tryz.func218 rfl).trans (congrArg some (by kernel_rfl))
 f105:=(fq Tryz.func204 rfl).trans (congrArg some (by kernel_rfl))
 f165:=(fq Tryz.func91 rfl).trans (congrArg some (by kernel_rfl))
 f166:=(fq Tryz.func140 rfl).trans (congrArg some (by kernel_rfl))
 f169:=(fq Tryz.func93 rfl).trans (congrArg some (by kernel_rfl))
 f170:=(fq Tryz.func173 rfl).trans (congrArg some (by kernel_rfl))
 f206:=(fq Tryz.func228 rfl).trans (congrArg some (by kernel_rfl))
 f212:=(fq Tryz.func217 rfl).trans (congrArg some (by kernel_rfl))
 f240:=(fq Tryz.func137 rfl).trans (congrArg some (by kernel_rfl))
 f241:=(fq Tryz.func138 rfl).trans (congrArg some (by kernel_rfl))
 f263:=(fq Tryz.func226 rfl).trans (congrArg some (by kernel_rfl))
 f264:=(fq Tryz.func227 rfl).trans (congrArg some (by kernel_rfl))
 f276:=(fq Tryz.func192 rfl).trans (congrArg some (by kernel_rfl))
 f277:=(fq Tryz.func193 rfl).trans (congrArg some (by kernel_rfl))
 t0:=(uq Tryz.underlying0)
 a0:=(uf Tryz.isAgg0)
 z0:=(tH Tryz.sizeOf0)
 v0:=(tN Tryz.zeroValue0)
 t3:=(uq Tryz.underlying3)
 a3:=(uf Tryz.isAgg3)
 z3:=(tH Tryz.sizeOf3)
 v3:=(tN Tryz.zeroValue3)
 t4:=(uq Tryz.underlying4)
 a4:=(uf Tryz.isAgg4)
 z4:=(tH Tryz.sizeOf4)
 v4:=(tN Tryz.zeroValue4)
 t5:=(uq Tryz.underlying5)
 a5:=(uf Tryz.isAgg5)
 z5:=(tH Tryz.sizeOf5)
 v5:=(tN Tryz.zeroValue5)
 t9:=(uq Tryz.underlying9)
 a9:=(uf Tryz.isAgg9)
 z9:=(tH Tryz.sizeOf9)
 v9:=(tN Tryz.zeroValue9)
 t20:=(uq Tryz.underlying20)
 a20:=(uf Tryz.isAgg20)
 z20:=(tH Tryz.sizeOf20)
 v20:=(tN Tryz.zeroValue20)
 t37:=(uq Tryz.underlying155)
 a37:=(uf Tryz.isAgg155)
 z37:=(tH Tryz.sizeOf155)
 v37:=(tN Tryz.zeroValue155)
 t46:=(uq Tryz.underlying154)
 a46:=(uf Tryz.isAgg154)
 z46:=(tH Tryz.sizeOf154)
 v46:=(tN Tryz.zeroValue154)
 t51:=(uq Tryz.underlying22)
 a51:=(uf Tryz.isAgg22)
 z51:=(tH Tryz.sizeOf22)
 v51:=(tN Tryz.zeroValue22)
 t53:=(uq Tryz.underlying207)
 a53:=(uf Tryz.isAgg207)
 z53:=(tH Tryz.sizeOf207)
 v53:=(tN Tryz.zeroValue207)
 t70:=(uq Tryz.underlying176)
 a70:=(uf Tryz.isAgg176)
 z70:=(tH Tryz.sizeOf176)
 v70:=(tN Tryz.zeroValue176)
 t72:=(uq Tryz.underlying178)
 a72:=(uf Tryz.isAgg178)
 z72:=(tH Tryz.sizeOf178)
 v72:=(tN Tryz.zeroValue178)
 t75:=(uq Tryz.underlying163)
 a75:=(uf Tryz.isAgg163)
 z75:=(tH Tryz.sizeOf163)
 v75:=(tN Tryz.zeroValue163)
 t76:=(uq Tryz.underlying237)
 a76:=(uf Tryz.isAgg237)
 z76:=(tH Tryz.sizeOf237)
 v76:=(tN Tryz.zeroValue237)
 t109:=(uq Tryz.underlying307)
 a109:=(uf Tryz.isAgg307)
 z109:=(tH Tryz.sizeOf307)
 v109:=(tN Tryz.zeroValue307)
 t127:=(uq Tryz.underlying239)
 a127:=(uf Tryz.isAgg239)
 z127:=(tH Tryz.sizeOf239)
 v127:=(tN Tryz.zeroValue239)
 t146:=(uq Tryz.underlying318)
 a146:=(uf Tryz.isAgg318)
 z146:=(tH Tryz.sizeOf318)
 v146:=(tN Tryz.zeroValue318)
 t148:=(uq Tryz.underlying320)
 a148:=(uf Tryz.isAgg320)
 z148:=(tH Tryz.sizeOf320)
 v148:=(tN Tryz.zeroValue320)
 t164:=(uq Tryz.underlying253)
 a164:=(uf Tryz.isAgg253)
 z164:=(tH Tryz.sizeOf253)
 v164:=(tN Tryz.zeroValue253) }
theorem extra:Builder.Extra PQ ren:={
 sizeBuilder:=by kernel_rfl
 liesBuilder:=by kernel_rfl
 t5:=(uq Tryz.underlying5)
 a5:=(uf Tryz.isAgg5)
 z5:=(tH Tryz.sizeOf5)
 v5:=(tN Tryz.zeroValue5)
 infoByte:=by kernel_rfl
 cellsByte:=by kernel_rfl
 sizeByte:=by kernel_rfl
 neB5:=by decide }
abbrev U8 (B b:Nat) (l:List UInt8) (w:World):Prop:=Lib.IsBuilderF 178 5 B b (Lib.byteCells l) w
theorem fresh (w:World):U8 w.heap.size w.heap.size [] (w.alloc (.cells #[.pointer none,.slice none 0 0] 178)):=Lib.IsBuilderF.of (Lib.fresh_isBuilder 178 5 w)
theorem abJ (B b:Nat) (l:List UInt8) (w:World) (h:U8 B b l w):
  Calls PQ 173 #[.pointer (some ⟨b,0,none⟩)] w λe w'=>e=.returned (.int .i64 l.length)/\w'=w:=by
 have c:=Any.Builder_Len_f (ρ:=ren) { lays105 with } B b (Lib.byteCells l) w h
 rw [Lib.byteCells_length] at c
 exact c
theorem zD (B b:Nat) (l:List UInt8) (w:World) (h:U8 B b l w) (q:B<=w.heap.size):
  Calls PQ 93 #[.pointer (some ⟨b,0,none⟩)] w λe w'=>e=.returned (.string ⟨l.toArray⟩)/\U8 B b l w'/\Below B w w':=
 Any.Builder_String_any_f (ρ:=ren) { lays105 with } extra B b l w h q
theorem LC (B b:Nat) (l:List UInt8) (s:ByteArray) (w:World) (h:U8 B b l w) (E:l.length+s.size<=140737488355328) (I:B<=w.heap.size):
  Calls PQ 140 #[.pointer (some ⟨b,0,none⟩),.string s] w λe w'=>e=.returned (.tuple #[.int .i64 s.size,.nilIface])/\U8 B b (l++s.data.toList) w'/\Below B w w':=by
 refine (Any.Builder_WriteString_f (ρ:=ren) { lays105 with } extra B b (Lib.byteCells l) s w h (by rw [Lib.byteCells_length];exact E) I).mono ?_
 rintro e w' ⟨rfl,q,z⟩
 refine ⟨rfl,?_,z⟩
 rw [Lib.strCells_eq,<-Lib.byteCells_append] at q
 exact Or.inr q
theorem repeated (s:ByteArray) (c:Nat) (w:World) (z:c<=9223372036854775807) (q:s.size * c<=140737488355328):
  Calls PQ 204 #[.string s,.int .i64 c] w λe w'=>e=.returned (.string ⟨(Lib.repeatL s.data.toList c).toArray⟩)/\Below w.heap.size w w':=
 Any.strings_Repeat (ρ:=ren) lays105 extra s c w z q
theorem CQ {B b:Nat} {l:List UInt8} {w w':World} (h:U8 B b l w) (I:Below w.heap.size w w'):U8 B b l w':=by
 have go:∀p,Lib.BuilderAtF 178 5 B b p (Lib.byteCells l) w->Lib.BuilderAtF 178 5 B b p (Lib.byteCells l) w':=by
  intro p hp
  have z:=hp.lt
  obtain ⟨Y,v,h2,h3,h4⟩:=hp
  have hk:=h3.lt
  refine ⟨Y,v,(I.block b z).trans h2,?_,h4⟩
  obtain ⟨g1,q⟩:=h3
  refine ⟨g1,?_⟩
  rcases q with q|q
  ·exact Or.inl q
  ·obtain ⟨g,cap,E,J,rfl,R,q2,q3⟩:=q
   exact Or.inr ⟨g,cap,E,J,rfl,R,(I.block g (hk g rfl).2).trans q2,q3⟩
 exact h.elim (λx=>.inl (go _ x)) (λx=>.inr (go _ x))
section
variable {w:World}
def kU (w:World):Prop:=K3 w 1 0 (.bool false) (.int .u8 128) (.int .u8 183)/\K3 w 1 3 (.bool true) (.int .u8 192) (.int .u8 247)
theorem kU.below {B:Nat} {w':World} (h:kU w) (z:Below B w w') (q:1 < B):kU w':=⟨h.1.below z q,h.2.below z q⟩
theorem kU.pos (h:kU w):1 < w.heap.size:=by
 have g:=h.1.1
 rcases fQ 1 w.heap.size with e|e
 ·exact e
 ·unfold World.cell? at g
  rw [iR (by simpa using e)] at g
  simp at g
end
theorem G9 {P:Program} (w:World) (base:Nat) (t ty e:TypeId) (i:TypeInfo) (z:Value) (size bytes:Nat) (ht:P.underlying t=some (.slice e)) (hi:P.info? e=some i) (hz:i.zero=some z)
  (E:i.size=size) (af:i.bytes=bytes) (ai:z.cells.size=size) (ag:0 < size)
  (v:Value) (n:Nat) (xs:List Value) (Y:w.ownsRow base e size v n xs)
  (a:Addr) (m c:Nat) (q:List Value) (hm:0 < m) (hl:q.length=m * size) (J:∀j u,q[j]? =some u->w.cell? (a.add j)=some u) (h1:∀u∈q,u.oneCell'=true)
  (ac:n+m<=maxLen) (R:(n+m) * bytes<=140737488355328) (ab:base<=w.heap.size):
  ∃v' w',(Builtin.append_ #[t,t] ty #[v,.slice (some a) m c]).run P w=.ok v' w'/\w'.ownsRow base e size v' (n+m) (xs++q)/\w.grownBy w' v.ownBlock/\(v'.ownBlock=v.ownBlock\/∃g,v'.ownBlock=some g/\w.heap.size<=g):=by
 obtain ⟨v',w',hr,h2,h3,h4⟩:=run_append_own (P:=P) w base t ty e i z size bytes ht hi hz E af ai ag v n xs Y a m c q hl J h1 ac R ab
 refine ⟨v',w',hr,h2,h3,?_⟩
 have aj:n+m<=9223372036854775807:=by simp only [maxLen] at ac;omega
 rcases Y.2 with ⟨rfl,rfl⟩|⟨g,cap,ae,rfl,ap,hg,aq,ao,an,am⟩
 ·right
  have hx:xs=[]:=bD (by simpa using Y.1)
  subst hx
  obtain ⟨v2,w2,I,g2,_,g4⟩:=run_append_own (P:=P) w w.heap.size t ty e i z size bytes ht hi hz E af ai ag (.slice none 0 0) 0 [] (World.ownsRow_nil w _ e size) a m c q hl J h1 ac R jC
  rw [hr] at I
  simp only [Result.ok.injEq] at I
  obtain ⟨rfl,rfl⟩:=I
  rcases g2.2 with ⟨e1,_⟩|⟨g,cap,ae,rfl,ak,_⟩
  ·have:=(g4.1 e1).2;omega
  ·exact ⟨g,rfl,ak⟩
 ·by_cases aa:n+m<=cap
  ·left
   have ah:n * i.size+q.length<=ae.size:=by rw [hl,an,E,<-iM];exact fD _ aa
   have I:=run_append_room (P:=P) w t ty e i ht hi g n cap ae hg a m c q (by rw [E];exact hl) J h1 aa ah
   rw [hr] at I
   simp only [Result.ok.injEq] at I
   rw [I.1]
   rfl
  ·right
   subst E af
   have holds:∀j u,xs[j]? =some u->w.cell? ((⟨g,0,none⟩:Addr).add j)=some u:=Y.cells (g:=g) rfl
   have I:=run_append_grow (P:=P) w t ty e i z ht hi hz ⟨g,0,none⟩ n cap xs Y.1 holds a m c q hl J (by omega) (by omega) (growslice_fits (by omega) R)
   rw [hr] at I
   simp only [Result.ok.injEq] at I
   exact ⟨w.heap.size,by rw [I.1];rfl,jC⟩
theorem PI:(PQ.info? 103).map (λi=>(i.zero,i.size,i.bytes))=some (some (.agg #[.bool false,.string ⟨#[]⟩,.slice none 0 0]),3,48):=by kernel_rfl
section
variable {w:World} {base e size n:Nat} {v:Value} {xs:List Value}
theorem own_below {w':World} (h:w.ownsRow base e size v n xs) (J:Below w.heap.size w w'):w'.ownsRow base e size v n xs:=by
 obtain ⟨I,h2⟩:=h
 refine ⟨I,?_⟩
 rcases h2 with h2|⟨g,cap,q,E,R,z,r⟩
 ·exact .inl h2
 ·exact .inr ⟨g,cap,q,E,R,(J.block g (jE z)).trans z,r⟩
theorem qp (h:w.ownsRow base e size v n xs) {g:Nat} (q:v.ownBlock=some g):base<=g/\g < w.heap.size:=by
 rcases h.2 with ⟨rfl,_⟩|⟨g',cap,z,rfl,I,E,_⟩
 ·simp [Value.ownBlock] at q
 ·simp [Value.ownBlock] at q
  subst q
  exact ⟨I,(jE E)⟩
theorem xs_len (h:w.ownsRow base e 3 v n xs):xs.length=n * 3:=h.1
end
section
variable {w w':World} {n lo hi base e size lo' hi':Nat} {v:Value} {i:Im.It} {xs:List Value} {ks:List Im.It}
def Tr (w:World):Nat->Nat->Nat->Value->Value->Value->Im.It->Prop
 |0,_,_,_,_,_,_=>False
 |n+1,lo,hi,c0,c1,c2,i=>(c0=.bool i.list/\c1=.string ⟨i.bytes.toArray⟩)/\∃(xs:List Value) (L H:Nat->Nat),w.ownsRow lo 103 3 c2 i.kids.length xs/\(∀g,c2.ownBlock=some g->g < hi)/\
   (∀j,j < i.kids.length->lo<=L j/\L j<=H j/\H j<=hi/\(∀g,c2.ownBlock=some g->g < L j\/H j<=g))/\(∀a b,a < b->b < i.kids.length->H a<=L b)/\
   ∀(j:Nat) (z:j < i.kids.length),∃d0 d1 q,xs[j * 3]? =some d0/\xs[j * 3+1]? =some d1/\xs[j * 3+2]? =some q/\Tr w n (L j) (H j) d0 d1 q (i.kids[j])
def Row (w:World) (n lo hi:Nat) (v:Value) (ks:List Im.It):Prop:=∃(xs:List Value) (L H:Nat->Nat),w.ownsRow lo 103 3 v ks.length xs/\(∀g,v.ownBlock=some g->g < hi)/\
   (∀j,j < ks.length->lo<=L j/\L j<=H j/\H j<=hi/\(∀g,v.ownBlock=some g->g < L j\/H j<=g))/\(∀a b,a < b->b < ks.length->H a<=L b)/\
   ∀(j:Nat) (z:j < ks.length),∃d0 d1 q,xs[j * 3]? =some d0/\xs[j * 3+1]? =some d1/\xs[j * 3+2]? =some q/\Tr w n (L j) (H j) d0 d1 q (ks[j])
theorem Tr.Rl (h:Row w n lo hi v i.kids):Tr w (n+1) lo hi (.bool i.list) (.string ⟨i.bytes.toArray⟩) v i:=⟨⟨rfl,rfl⟩,h⟩
theorem FC (h:w.ownsRow base e size v n xs) (hk:∀g,v.ownBlock=some g->w'.heap[g]? =w.heap[g]?):w'.ownsRow base e size v n xs:=by
 obtain ⟨I,h2⟩:=h
 refine ⟨I,?_⟩
 rcases h2 with h2|⟨g,cap,q,z,J,E,r⟩
 ·exact .inl h2
 ·exact .inr ⟨g,cap,q,z,J,(hk g (by rw [z];rfl)).trans E,r⟩
theorem Tr.kept:∀(n lo hi:Nat) (c0 q z:Value) (i:Im.It),(∀k,lo<=k->k < hi->w'.heap[k]? =w.heap[k]?)->Tr w n lo hi c0 q z i->Tr w' n lo hi c0 q z i
 |0,_,_,_,_,_,_,_,h=>h
 |n+1,lo,hi,c0,q,z,i,hk,h=>by
  obtain ⟨h0,xs,L,H,J,h2,h3,h4,h5⟩:=h
  refine ⟨h0,xs,L,H,FC J (λg I=>hk g (qp J I).1 (h2 g I)),h2,h3,h4,λj R=>?_⟩
  obtain ⟨d0,d1,E,Y,e1,e2,e3⟩:=h5 j R
  have:=h3 j R
  exact ⟨d0,d1,E,Y,e1,e2,Tr.kept n (L j) (H j) d0 d1 E _ (λk a b=>hk k (by omega) (by omega)) e3⟩
theorem Row.kept (h:Row w n lo hi v ks) (hk:∀k,lo<=k->k < hi->w'.heap[k]? =w.heap[k]?):Row w' n lo hi v ks:=
 (Tr.kept (n+1) lo hi (.bool true) (.string ⟨#[]⟩) v ⟨true,[],ks⟩ hk ⟨⟨rfl,rfl⟩,h⟩).2
theorem Tr.inn {B:Nat}:∀(n lo hi:Nat) (c0 R c2:Value) (i:Im.It),hi<=B->Tr w n lo hi c0 R c2 i->In B w n c0 R c2 i
 |0,_,_,_,_,_,_,_,h=>h
 |n+1,lo,hi,c0,R,c2,i,hB,h=>by
  obtain ⟨⟨E,I⟩,xs,L,H,h1,h2,h3,h4,h5⟩:=h
  rcases h1.2 with ⟨rfl,hz⟩|⟨g,cap,Y,rfl,hg,hh,ab,aa,ac,z⟩
  ·refine ⟨E,I,none,0,by rw [hz],λJ=>absurd (bD hz) J⟩
  ·refine ⟨E,I,some ⟨g,0,none⟩,cap,rfl,λ_=>⟨g,0,rfl,by have:=h2 g rfl;omega,λj hj=>?_⟩⟩
   obtain ⟨d0,d1,d2,e0,e1,e2,e3⟩:=h5 j hj
   have q:∀(m:Nat) (u:Value),xs[m]? =some u->Y[m]? =some u:=by
    intro m u hu
    have hm:m < xs.length:=(aF.1 hu).1
    have hl:=h1.1
    rw [<-z,iF (by omega)] at hu
    simpa using hu
   have:=h3 j hj
   refine ⟨d0,d1,d2,⟨?_,?_,?_⟩,Tr.inn n (L j) (H j) d0 d1 d2 _ (by omega) e3⟩
   ·rw [aA hh,fC];exact q _ _ e0
   ·rw [aA hh,fC];exact q _ _ e1
   ·rw [aA hh,fC];exact q _ _ e2
theorem IK {q:Nat} (h:w.ownsRow base e size v n xs) (J:q<=base):w.ownsRow q e size v n xs:=by
 obtain ⟨I,h2⟩:=h
 refine ⟨I,?_⟩
 rcases h2 with h2|⟨g,cap,z,E,R,r⟩
 ·exact .inl h2
 ·exact .inr ⟨g,cap,z,E,by omega,r⟩
theorem Row.wider (h:Row w n lo hi v ks) (E:lo'<=lo) (h2:hi<=hi'):Row w n lo' hi' v ks:=by
 obtain ⟨xs,L,H,z,q2,I,Y,J⟩:=h
 refine ⟨xs,L,H,IK z E,λg q=>by have:=q2 g q;omega,λj hj=>?_,Y,J⟩
 obtain ⟨a1,a2,a3,R⟩:=I j hj
 exact ⟨by omega,a2,by omega,R⟩
theorem Tr.wider {c0 z q:Value} (h:Tr w n lo hi c0 z q i) (E:lo'<=lo) (h2:hi<=hi'):Tr w n lo' hi' c0 z q i:=by
 cases n with
 |zero=>cases h
 |succ n=>exact ⟨h.1,Row.wider h.2 E h2⟩
theorem Row.none (w:World) (n lo hi:Nat):Row w n lo hi (.slice none 0 0) []:=
 ⟨[],λ_=>0,λ_=>0,World.ownsRow_nil w lo _ 3,λg E=>by simp [Value.ownBlock] at E,λj q=>by simp at q,λ_ b _ z=>by simp at z,λj q=>by simp at q⟩
theorem Row.step {w1 w3 w4:World} {k:Im.It} {v' d0 d1 R:Value} (am:lo<=w.heap.size) {L H:Nat->Nat} (J:w.ownsRow lo 103 3 v ks.length xs)
  (ac:∀j,j < ks.length->lo<=L j/\L j<=H j/\H j<=w.heap.size/\(∀g,v.ownBlock=some g->g < L j\/H j<=g)) (ah:∀a b,a < b->b < ks.length->H a<=L b)
  (Y:∀(j:Nat) (hj:j < ks.length),∃d0 d1 R,xs[j * 3]? =some d0/\xs[j * 3+1]? =some d1/\xs[j * 3+2]? =some R/\Tr w n (L j) (H j) d0 d1 R (ks[j]))
  (ag:Tr w1 n w.heap.size w1.heap.size d0 d1 R k) (ai:Below w.heap.size w w1) (ae:Below w1.heap.size w1 w3)
  (I:w4.ownsRow lo 103 3 v' (ks.length+1) (xs++[d0,d1,R])) (aa:w3.grownBy w4 v.ownBlock) (af:v'.ownBlock=v.ownBlock\/∃g,v'.ownBlock=some g/\w3.heap.size<=g):Row w4 n lo w4.heap.size v' (ks++[k]):=by
 have hx:=xs_len J
 have s1:=ai.size
 have s3:=ae.size
 have s4:=aa.size
 have aj:∀g,v.ownBlock=some g->g < w.heap.size:=λg z=>(qp J z).2
 have E:(ks++[k]).length=ks.length+1:=by simp
 refine ⟨xs++[d0,d1,R],λj=>if j < ks.length then L j else w.heap.size,λj=>if j < ks.length then H j else w1.heap.size,by rw [E];exact I,λg z=>(qp I z).2,?_,?_,?_⟩
 ·intro j hj
  by_cases q:j < ks.length
  ·simp only [if_pos q]
   obtain ⟨a1,a2,a3,a4⟩:=ac j q
   refine ⟨a1,a2,by omega,λg z=>?_⟩
   rcases af with e|⟨g',e,ak⟩
   ·rw [e] at z;exact a4 g z
   ·rw [e] at z;simp at z;omega
  ·simp only [if_neg q]
   refine ⟨am,s1,by omega,λg z=>?_⟩
   rcases af with e|⟨g',e,ak⟩
   ·rw [e] at z;have:=aj g z;omega
   ·rw [e] at z;simp at z;omega
 ·intro a b an hb
  rw [E] at hb
  by_cases ab:b < ks.length
  ·simp only [if_pos ab,if_pos (show a < ks.length by omega)]
   exact ah a b an ab
  ·simp only [if_neg ab,if_pos (show a < ks.length by omega)]
   exact (ac a (by omega)).2.2.1
 ·intro j hj
  rw [E] at hj
  by_cases q:j < ks.length
  ·obtain ⟨e0,e1,e2,q0,q1,q2,ho⟩:=Y j q
   obtain ⟨a1,a2,a3,a4⟩:=ac j q
   simp only [if_pos q]
   rw [List.getElem_append_left q]
   refine ⟨e0,e1,e2,?_,?_,?_,Tr.kept n _ _ _ _ _ _ (λm m1 m2=>?_) ho⟩
   ·rw [bP (by omega)];exact q0
   ·rw [bP (by omega)];exact q1
   ·rw [bP (by omega)];exact q2
   ·rw [aa.block m (by omega) (λe=>by have:=a4 m e.symm;omega),ae.block m (by omega),ai.block m (by omega)]
  ·obtain rfl:j=ks.length:=by omega
   simp only [if_neg q]
   rw [List.getElem_append_right jC]
   simp only [Nat.sub_self,List.getElem_cons_zero]
   refine ⟨d0,d1,R,?_,?_,?_,Tr.kept n _ _ _ _ _ _ (λm m1 m2=>?_) ag⟩
   ·rw [bK (by omega),hx];simp
   ·rw [bK (by omega),hx,show ks.length * 3+1 - ks.length * 3=1 from by omega];rfl
   ·rw [bK (by omega),hx,show ks.length * 3+2 - ks.length * 3=2 from by omega];rfl
   ·rw [aa.block m (by omega) (λe=>by have:=aj m e.symm;omega),ae.block m (by omega)]
end
def uD:Option (Bool×Nat×Nat)->Value
 |some (l,f,t)=>.tuple #[.agg #[.bool l,.int .i64 f,.int .i64 t],.bool true]
 |none=>.tuple #[.agg #[.bool false,.int .i64 0,.int .i64 0],.bool false]
theorem getD_byte (s:ByteArray) (f:Nat) (h:f < s.size):s.data.toList.getD f 0=s[f]:=by
 have q:=aV s
 rw [aS,aG (by omega),Array.getElem_toList]
 rfl
theorem Bv (l:Bool) (x y:Int) (s:ByteArray) (f n:Nat) (w:World) (hs:s.size<=16777216) (hf:f<=s.size) (hn:n < 4294967296):
  Calls PQ 229 #[.agg #[.bool l,.int .u8 x,.int .u8 y],.string s,.int .i64 f,.int .u64 n] w λe w'=>e=.returned (uD (Im.chk l s.data.toList f n))/\Below w.heap.size w w':=by
 have E:=aV s
 have J:∀(a b:Obj),Below w.heap.size w ((w.alloc a).alloc b):=λa b=>((aB _ w).alloc jC _).alloc (by simp) _
 have z:Hid _:=J
 clear J
 have ac:0<=(s.size:Int) - (f:Int):=by omega
 have af:IntKind.u64.wrap ((s.size:Int) - (f:Int))=(s.size:Int) - (f:Int):=by rw [IntKind.wrap_u64];omega
 by_cases Y:s.size - f < n
 ·have I:Im.chk l s.data.toList f n=none:=by unfold Im.chk;rw [<-E,if_pos Y]
  rw [I]
  have aa:(s.size:Int) - (f:Int) < (n:Int):=by omega
  clear I E
  go_enter (fq Tryz.func229 rfl),Tryz.ntmps229
  go_wp2_with fail
  exact bodyPost_ret (v:=.tuple #[.agg #[.bool false,.int .i64 0,.int .i64 0],.bool false]) (by simp [results,Tryz.results229,go_sem]) rfl ⟨rfl,z.out _ _⟩
 ·have aa:¬(s.size:Int) - (f:Int) < (n:Int):=by omega
  by_cases h2:l=false/\n=1/\(s.data.toList.getD f 0).toNat < 128
  ·have I:Im.chk l s.data.toList f n=none:=by unfold Im.chk;rw [<-E,if_neg Y,if_pos h2]
   rw [I]
   obtain ⟨rfl,rfl,h3⟩:=h2
   have q:f < s.size:=by omega
   rw [getD_byte s f q] at h3
   have ae:(s[f].toNat:Int) < 128:=by omega
   have hx:=λu=>zx u s (f:Int) f q rfl
   clear I E h3
   go_enter (fq Tryz.func229 rfl),Tryz.ntmps229
   go_wp2_with fail
   exact bodyPost_ret (v:=.tuple #[.agg #[.bool false,.int .i64 0,.int .i64 0],.bool false]) (by simp [results,Tryz.results229,go_sem]) rfl ⟨rfl,z.out _ _⟩
  ·have I:Im.chk l s.data.toList f n=some (l,f,f+n):=by unfold Im.chk;rw [<-E,if_neg Y,if_neg h2]
   rw [I]
   clear I
   cases l with
   |true=>
    clear E h2
    go_enter (fq Tryz.func229 rfl),Tryz.ntmps229
    go_wp2_with fail
    exact bodyPost_ret (v:=.tuple #[.agg #[.bool true,.int .i64 f,.int .i64 ((f:Int)+(n:Int))],.bool true]) (by simp [results,Tryz.results229,go_sem]) rfl ⟨by simp [uD],z.out _ _⟩
   |false=>
    by_cases R:n=1
    ·subst R
     have q:f < s.size:=by omega
     have h3:¬(s[f].toNat:Int) < 128:=by
      rw [getD_byte s f q] at h2
      intro h;exact h2 ⟨rfl,rfl,by omega⟩
     have hx:=λu=>zx u s (f:Int) f q rfl
     clear E h2
     go_enter (fq Tryz.func229 rfl),Tryz.ntmps229
     go_wp2_with fail
     exact bodyPost_ret (v:=.tuple #[.agg #[.bool false,.int .i64 f,.int .i64 ((f:Int)+1)],.bool true]) (by simp [results,Tryz.results229,go_sem]) rfl ⟨by simp [uD],z.out _ _⟩
    ·have ab:((n:Int) == 1)=false:=by simp;omega
     clear E h2
     go_enter (fq Tryz.func229 rfl),Tryz.ntmps229
     go_wp2_with fail
     exact bodyPost_ret (v:=.tuple #[.agg #[.bool false,.int .i64 f,.int .i64 ((f:Int)+(n:Int))],.bool true]) (by simp [results,Tryz.results229,go_sem]) rfl ⟨by simp [uD],z.out _ _⟩
end
end Go.Proofs.YtpibpdpedjinhaaGreatDoor
