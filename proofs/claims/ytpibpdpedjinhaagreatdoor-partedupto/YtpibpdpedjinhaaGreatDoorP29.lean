import Derived.Test.YtpibpdpedjinhaaGreatDoorP28
import Derived.Deep.RegionLaw
set_option maxRecDepth 100000
set_option maxHeartbeats 8000000
set_option linter.unusedSimpArgs false
namespace Go.Proofs.YtpibpdpedjinhaaGreatDoor
namespace Hm
open Go.RowKit Go.Joins
open Dv (Ch Fine)
open Fr (F below_drewN)
section
variable {kb nb i:Nat}{cs:Array Value}{vo:Value}{nm nm':AL}{os:List PC}{oldest:Int}{w0 w w':World}{o:PC}
structure mQ(kb nb:Nat)(cs:Array Value)(vo:Value)(nm:AL)(os:List PC)(oldest:Int)(w0:World)(i:Nat)(nm':AL)(w:World):Prop where
 obj:w.heap[kb]? =some (.cells cs 137 (0,0))
 chs:Chs w nb vo nm' os
 jO:jJ (λk=>k=nb) w0 w
 who:∀x,x∈os->alive nm' x=(alive nm x&&!(decide (x.blk∈(os.take i).map (·.blk))&&decide ((x.ch.opened:Int)<oldest)))
theorem mQ.below(h:mQ kb nb cs vo nm os oldest w0 i nm' w)(z:Below w.heap.size w w'):mQ kb nb cs vo nm os oldest w0 i nm' w':=
 ⟨(z.block _ (jC h.obj)).trans h.obj,h.chs.below z,h.jO.trans (.below z jA (λ_=>False)) (λ_ _ e=>e.elim),h.who⟩
theorem wM{x:PC}(z:os[i]? =some o):x.blk∈(os.take (i+1)).map (·.blk)↔(x.blk∈(os.take i).map (·.blk)\/x.blk=o.blk):=by
 rw[take_snoc z,aY];simp
theorem Uj(R:(os.map (·.blk)).Nodup)(E:os[i]? =some o):o.blk∉(os.take i).map (·.blk):=λh=>by
 obtain⟨y,I,e⟩:=bC.1 h;obtain⟨k,hk⟩:=List.getElem?_of_mem I;rw[gG]at hk;split at hk
 ·rename_i z;have hp:List.Pairwise (·≠·) (os.map (·.blk)):=R;rw[ig]at hp;obtain⟨J,h2⟩:=aF.1 hk;obtain⟨h3,h4⟩:=aF.1 E;exact hp k i (by simpa using J) (by simpa using h3) z (by simp[h2,h4,e])
 ·cases hk
theorem mQ.stay(h:mQ kb nb cs vo nm os oldest w0 i nm' w)(z:os[i]? =some o)(hs:alive nm' o=false\/¬(o.ch.opened:Int)<oldest):mQ kb nb cs vo nm os oldest w0 (i+1) nm' w:=by
 refine⟨h.obj,h.chs,h.jO,λx I=>?_⟩;by_cases e:x.blk=o.blk
 ·have:=yI h.chs.apart I (aQ z) e;subst this;have J:decide (x.blk∈(os.take (i+1)).map (·.blk))=true:=decide_eq_true ((wM z).2 (.inr rfl));have E:decide (x.blk∈(os.take i).map (·.blk))=false:=decide_eq_false (Uj h.chs.apart z);have hw:=h.who x I;rw[E]at hw;simp only[Bool.false_and,Bool.not_false,Bool.and_true]at hw;rw[J];rcases hs with hs|hs
  ·rw[hs]at hw;rw[hs,<-hw];rfl
  ·rw[decide_eq_false hs,hw];simp
 ·rw[h.who x I];have:decide (x.blk∈(os.take (i+1)).map (·.blk))=decide (x.blk∈(os.take i).map (·.blk)):=decide_eq_decide.2 (by rw[wM z];simp[e]);rw[this]
theorem mQ.gone(h:mQ kb nb cs vo nm os oldest w0 i nm' w)(z:os[i]? =some o)(R:alive nm' o=true)(hs:(o.ch.opened:Int)<oldest)(E:lu w' nb .u32 (nD nm' o.ch.name))(I:jJ (λj=>j=nb) w w')(hk:kb≠nb):mQ kb nb cs vo nm os oldest w0 (i+1) (nD nm' o.ch.name) w':=by
 refine⟨(I.block _ (jC h.obj) hk).trans h.obj,h.chs.del E I,h.jO.trans I (λ_ _ e=>e),λx J=>?_⟩;rw[FC R h.chs.apart (aQ z) h.chs x J,h.who x J];by_cases e:x.blk=o.blk
 ·have:=yI h.chs.apart J (aQ z) e;subst this;have E:decide (x.blk∈(os.take (i+1)).map (·.blk))=true:=decide_eq_true ((wM z).2 (.inr rfl));rw[E,decide_eq_true hs];simp
 ·have:decide (x.blk∈(os.take (i+1)).map (·.blk))=decide (x.blk∈(os.take i).map (·.blk)):=decide_eq_decide.2 (by rw[wM z];simp[e]);have h2:(x.blk != o.blk)=true:=by simp[e]
  rw[this,h2,Bool.and_true]
theorem mQ.lives(h:mQ kb nb cs vo nm os oldest w0 os.length nm' w):lives nm' os=(Hm.lives nm os).filter (λc=>!decide ((c.opened:Int)<oldest)):=by
 unfold Hm.lives;rw[List.filter_map,List.filter_filter]
 congr 1
 refine List.filter_congr (λx z=>?_);rw[h.who x z,iF];have:decide (x.blk∈os.map (·.blk))=true:=decide_eq_true (bC.2 ⟨x,z,rfl⟩);rw[this,Bool.true_and,Bool.and_comm];rfl
theorem Chs.thin{I:Value}(h:Chs w nb vo nm os)(hr:Row w' 197 1 I (os.filter (alive nm)).length ((os.filter (alive nm)).map λo=>ptr o.blk))(hg:jJ (λk=>vo.ownBlock=some k) w w'):Chs w' nb I nm (os.filter (alive nm)):=by
 have sub:∀o,o∈os.filter (alive nm)->o∈os:=λo E=>(fK.1 E).1
 have z:∀g,vo.ownBlock=some g->g≠nb/\(∀o,o∈os->g≠o.blk/\o.fm≠some g):=λg Y=>by
  obtain⟨ab,hc⟩:=h.order.obj Y;refine⟨kN hc h.named,λo E=>⟨λe=>?_,λe=>?_⟩⟩
  ·have:=(h.chans o E).obj;unfold vH at this;rw[<-e,hc]at this;simp at this
  ·cases hs:o.ch.spoilt
   ·obtain⟨⟨B,e',hm⟩,_⟩:=(h.chans o E).sound hs;rw[e']at e;cases e;exact kN hc hm rfl
   ·rw[((h.chans o E).spoilt hs).2]at e;cases e
 refine⟨h.named.of_block (hg.block _ h.named.lt (λe=>(z _ e).1 rfl)),hr,λo E=>(h.chans o (sub o E)).jO hg (λe=>((z _ e).2 o (sub o E)).1 rfl) (λb R e=>((z _ e).2 o (sub o E)).2 R),(List.filter_sublist.map _).nodup h.apart,λa b ha R=>h.maps a b (sub a ha) (sub b R),λo E=>h.far o (sub o E),λp hp=>?_⟩;obtain⟨o,E,rfl⟩:=h.entries p hp;refine⟨o,fK.2 ⟨E,?_⟩,rfl⟩
 have aa:(nm.map Prod.fst).Nodup:=by
  obtain⟨es,c,_,_,hn,_⟩:=h.named;exact hn
 obtain⟨es,c,_,he,_⟩:=h.named;have J:=he.lM aa hp;rw[pF J];simp
theorem MX(nm:AL)(os:List PC):lives nm (os.filter (alive nm))=lives nm os:=by
 unfold lives;rw[List.filter_filter];simp
end
section
section
variable {P:Program}{w:World}{ops:Array Oper}{o:Oper}{a:Act}{K:Act->World->Prop}{Q:Exit->Act->World->Prop}{E:Prop}
theorem qP(hg:o.guard=none)(x y:Operand)(t J:TypeId)(I:o.op=Op.call { callee:=Callee.builtin Builtin.delete,args:=#[x,y],argTypes:=#[t,J] })(e:TypeId)(q:IntKind)(ht:P.underlying t=some (.map J e))(hk:P.underlying J=some (.int q))
  (B:Nat) (m:AL) (k:Nat) (hx:a.eval x=.map (some B)) (hy:a.eval y=.int q k) (h:lu w B q m)
  (hK:∀w',lu w' B q (nD m k)->w.grownBy w' (some B)->w'.heap.size=w.heap.size->K (a.put o.dst (.tuple #[])) w'):
  if Region.wanted o (yielded ops a.tmps)=true then Oper.wp P o a w K Q else E:=by
 have hw:Region.wanted o (yielded ops a.tmps)=true:=by simp[Region.wanted,hg]
 rw[if_pos hw];obtain⟨w',z,Y,r2,R⟩:=h.delete ht hk k o.type;unfold Oper.wp;simp[execOp,I,resolve,invoke,builtin,hx,hy,z,Result.andThen];exact hK w' Y r2 R
end
end
theorem KC(kb nb:Nat)(cs:Array Value)(vo:Value)(nm:AL)(os:List PC)(E:Int)(w:World)(hk:w.heap[kb]? =some (.cells cs 137 (0,0)))(h8:cs[8]? =some (.map (some nb)))(h9:cs[9]? =some vo)(h:Chs w nb vo nm os)(ap:os.length<=4294967296):
  Calls PQ 70 #[.pointer (some ⟨kb,8,none⟩),.int .i64 E] w λe w'=>e=.returned (.tuple #[])/\∃a5 z ah,AU kb nb cs vo os w a5 z ah w'/\ah.length<=os.length/\lives z ah=(lives nm os).filter (λc=>!decide ((c.opened:Int)<E)):=by
 obtain⟨W,hW,R,zo⟩:=jE w #[.pointer (some ⟨kb,8,none⟩)] 196;have a3:w.heap.size<W.heap.size:=by rw[hW];simp
 have z0:=nO zo;have aa:W.heap[kb]? =_:=(R.block _ (jC hk)).trans hk;have e9:W.cell? ⟨kb,9,none⟩=some vo:=by rw[aA aa];exact h9
 have az:kb≠nb:=kN hk h.named;have bm:=h.named.lt;have ae:mQ kb nb cs vo nm os E W 0 nm W:=⟨aa,h.below R,jJ.refl _ _,λx hx=>by simp⟩
 obtain⟨a,cap,rfl⟩:=h.order.slice;have ag:Hid (mQ _ _ _ _ _ _ _ _ _ _ _):=ae;have H:Hid _:=jw hk (jw h8 (jw h9 (jw h (jw R (jw zo aa)))));clear hk h8 h9 h R zo aa ae;go_enter (fq Tryz.func70 rfl),Tryz.ntmps70;go_upto_region 1 with fail;rw[<-hW];clear hW;go_wp2_with fail;go_loopg [5,11] os.length (λgg _ a2 wx=>∃(i:Nat)(z:AL),i<=os.length/\a2=.int .i64 i/\gg=os.length-i/\Hid (mQ kb nb cs (.slice a os.length cap) nm os E W i z wx))
 case atStart=>exact⟨0,nm,dF _,rfl,rfl,ag⟩
 case round=>
  obtain⟨i,z,hi,rfl,rfl,I⟩:=hrel;clear ag z0 e9;obtain⟨hk,h8,h9,h,R,zo,aa⟩:=H.out;have Y:wr.heap[w.heap.size]? =_:=(I.out.jO.block _ a3 (by omega)).trans zo;have z0:=nO Y;have e8:wr.cell? ⟨kb,8,none⟩=some (.map (some nb)):=by rw[aA I.out.obj];exact h8
  have e9:wr.cell? ⟨kb,9,none⟩=some (.slice a os.length cap):=by rw[aA I.out.obj];exact h9
  by_cases a4:i<os.length
  ·have ax:(i:Int)<os.length:=by omega
   obtain⟨o,ho⟩:∃o,os[i]? =some o:=⟨_,aG a4⟩
   obtain⟨g,off,bb,hv,_⟩:=I.out.chs.order.pos (by omega);simp only[Value.slice.injEq,true_and]at hv;obtain⟨rfl,rfl⟩:=hv;have k0:=I.out.chs.order.cell rfl i (ptr o.blk) (by rw[eX,ho];rfl);have J:=qZ kb nb 8 z os o wr I.out.chs.core (aQ ho) e8;have ar:=(I.out.chs.chans o (aQ ho)).obj;obtain⟨c0,c1⟩:=cells2 ar;obtain⟨b,hb⟩:∃b,alive z o=b:=⟨_,rfl⟩
   rw[hb]at J;unfold ptr at k0 J;have ab:Hid _:=λ(_:Unit)=>J;have Ho:Hid _:=jw ho hb;clear J ho hb ar hk h8 h9 h R zo aa Y;cases b
   ·go_wp2_with (go_at_call 104;refine aK (ab.out ()) ?_;rintro e w2 ⟨rfl,m,rfl⟩)
    go_roundg (os.length-(i+1))
    case measure=>omega
    case rel=>exact⟨i+1,z,by omega,by go_num,rfl,(I.out.below (below_drewN (aB _ _) _)).stay Ho.out.1 (.inl Ho.out.2)⟩
   ·by_cases ba:(o.ch.opened:Int)<E
    ·go_upto_region 5 with(go_at_call 104;refine aK (ab.out ()) ?_;rintro e w2 ⟨rfl,m,rfl⟩)
     generalize hV:World.drewN _ _=V;have an:mQ kb nb cs (.slice (some ⟨g,off,none⟩) os.length cap) nm os E W i z V:=by rw[<-hV];exact I.out.below (below_drewN (aB _ _) _)
     have bh:V.cell? ⟨w.heap.size,0,none⟩=some (.pointer (some ⟨kb,8,none⟩)):=by rw[<-hV];exact z0
     have bk:V.cell? ⟨kb,8,none⟩=some (.map (some nb)):=by rw[<-hV];exact e8
     have bg:V.cell? ⟨o.blk,0,none⟩=some (.int .u32 o.ch.name):=by rw[<-hV];exact c0
     have a9:Hid (mQ _ _ _ _ _ _ _ _ _ _ _):=an;have aq:=an.chs.named.of_block (w':=V.drew) rfl;have a7:Hid (lu _ _ _ _):=aq;clear an hV z0 e8 e9 c0 c1 aq k0;go_region_law ((refine qP (by rfl) (.tmp 29) (.tmp 33) 130 22 (by rfl) 197 .u32 (uq Tryz.underlying130) (uq Tryz.underlying22) nb z o.ch.name (by rfl) (by rfl) a7.out ?_;intro w7 a1 a8 bl))
     all_goals
      go_wp2_with fail;go_roundg (os.length-(i+1))
      case measure=>omega
      case rel=>exact⟨i+1,_,by omega,by go_num,rfl,a9.out.gone Ho.out.1 Ho.out.2 ba a1 ((jJ.drew _ V).trans (.grown a8) (λk _ e=>by simpa using e.symm)) az⟩
    ·go_wp2_with (go_at_call 104;refine aK (ab.out ()) ?_;rintro e w2 ⟨rfl,m,rfl⟩)
     go_roundg (os.length-(i+1))
     case measure=>omega
     case rel=>exact⟨i+1,z,by omega,by go_num,rfl,(I.out.below (below_drewN (aB _ _) _)).stay Ho.out.1 (.inr (by omega))⟩
  ·have ax:¬(i:Int)<os.length:=by omega
   obtain rfl:i=os.length:=by omega
   have ao:(Value.slice a os.length cap).ownBlock≠some kb:=λe=>by
    obtain⟨a0,hc⟩:=I.out.chs.order.obj e;rw[I.out.obj]at hc;simp at hc
   have ac:=λ(V:World)(hV:Below wr.heap.size wr V)=>(Jk w.heap.size kb nb z os (.slice a os.length cap) V (I.out.chs.below hV).core (I.out.chs.below hV).order #[.pointer (some ⟨kb,8,none⟩)] cs ((hV.block _ (jC Y)).trans Y) rfl ((hV.block _ (jC I.out.obj)).trans I.out.obj) h8 ap).mono
    (R':=λe w'=>∃va vk vc,e=.returned (.slice va vk vc)/\w'.cell? ⟨w.heap.size,0,none⟩=some (.pointer (some ⟨kb,8,none⟩))/\w'.cell? ⟨kb,9,none⟩=some (.slice a os.length cap)/\(∀q,w'.frozen? ⟨kb,q,none⟩=false)/\Hid (vk=(os.filter (alive z)).length/\Row w' 197 1 (.slice va vk vc) vk ((os.filter (alive z)).map λo=>ptr o.blk)/\(Value.slice va vk vc).ownBlock=(Value.slice a os.length cap).ownBlock/\jJ (λk=>(Value.slice a os.length cap).ownBlock=some k) wr w'/\w'.heap[kb]? =some (.cells cs 137 (0,0))))
    (λe w' ⟨va,vk,vc,p1,p2,p3,p4,p5⟩=>by
     have q5:jJ (λk=>(Value.slice a os.length cap).ownBlock=some k) wr w':=(jJ.below hV jA _).trans p5 (λ_ _ e=>e);have q6:w'.heap[kb]? =some (.cells cs 137 (0,0)):=(q5.block _ (jC I.out.obj) ao).trans I.out.obj
     have q7:w'.heap[w.heap.size]? =_:=(q5.block _ (jC Y) (λe=>by
      obtain⟨a0,hc⟩:=I.out.chs.order.obj e;rw[Y]at hc;simp at hc)).trans Y
     exact⟨va,vk,vc,p1,by rw[aA q7];rfl,by rw[aA q6];exact h9,aI q6,p2,p3,p4,q5,q6⟩)
   have av:Hid _:=ac;have aj:=aB wr.heap.size wr;clear hk h8 h9 h R zo aa Y ac ao;go_upto_region 7 with fail;go_region_with (go_at_call 105;(refine aK (av.out _ ?_) ?_;(first|exact aj|exact aj.drew|exact below_drewN aj _);rintro e w5 ⟨va,vk,vc,rfl,bj,bn,bd,H5⟩))
   all_goals
    go_wp2_with fail;go_end0;obtain⟨a6,ak,am,ay,au⟩:=H5.out;obtain⟨hk,h8,h9,h,R,zo,aa⟩:=H.out;subst a6;have aw:=I.out.chs.thin ak ay;have af:=jJ.set w5 kb 9 (.slice va (os.filter (alive z)).length vc);refine⟨rfl,.slice va (os.filter (alive z)).length vc,z,os.filter (alive z),⟨jT au 9 _,aw.jO af (λk ai e=>?_),?_,λk ai=>.inl ?_,?_⟩,gU _ _,?_⟩
    ·subst e;exact aw.kU au (by decide) (by decide) ai
    ·refine(((jJ.below R jA _).trans I.out.jO (λk _ e=>.inr (.inl e))).trans ay (λk _ e=>.inr (.inr (.inl e)))).trans af (λk _ e=>.inl e)
    ·rcases ai with e|e|⟨x,hx,e⟩
     ·exact .inl e
     ·exact .inr (.inl (by rw[<-am];exact e))
     ·exact .inr (.inr ⟨x,(fK.1 hx).1,e⟩)
    ·have:=gU (alive z) os;omega
    ·rw[MX,I.out.lives]
theorem KQ{w:World}{o:PC}(h:ChanAt w o):∃L:Nat,(∀V:World,(∀b,o.fm=some b->V.heap[b]? =w.heap[b]?)->(Builtin.len_ #[199] 3 #[.map o.fm]).run PQ V=.ok (.int .i64 L) V)/\L<=65536/\(o.ended&&decide ((L:Int)=o.last+1))=(Dv.bytes o.ch.l).isSome:=by
 cases hs:o.ch.spoilt
 ·obtain⟨⟨B,e,Y⟩,h1,h2,h3,h4⟩:=h.sound hs;refine⟨o.ch.l.length,λV hV=>?_,?_,?_⟩
  ·rw[e];have:=(Y.of_block (hV B e)).len (P:=PQ) (uq Tryz.underlying199) 3;rw[this];simp[sV,goInt]
  ·have:=Dv.xR (a:=o.ch.l.map (·.num)) (b:=List.range 65536) h.fine.apart (λx R=>by
    obtain⟨y,J,rfl⟩:=bC.1 R;exact gI.2 (h.small y J).1)
   rw[aU,List.length_range]at this;exact this
  ·rw[h3];cases z:Dv.last o.ch.l with
   |none=>
    have:Dv.bytes o.ch.l=none:=by unfold Dv.bytes;rw[z];rfl
    rw[this];rfl
   |some n=>
    have hw:=Dv.EH h.fine z;rw[h4 n z];have:((o.ch.l.length:Int)=n+1)↔o.ch.l.length=n+1:=by omega
    cases E:(Dv.bytes o.ch.l).isSome with
    |true=>rw[decide_eq_true ((this.trans hw).2 E)];rfl
    |false=>
     rw[decide_eq_false (λh=>by
      have:=(this.trans hw).1 h;rw[E]at this;cases this)]
     rfl
 ·obtain⟨e1,I⟩:=h.spoilt hs;refine⟨0,λV _=>?_,by omega,?_⟩
  ·rw[I];exact lu.len_nil (P:=PQ) (uq Tryz.underlying199) 3
  ·rw[e1];have:¬((0:Nat):Int)=(o.last:Int)+1:=by omega
   rw[decide_eq_false this,Bool.and_false];rfl
theorem L8(o:PC)(w:World)(h:ChanAt w o):Calls PQ 116 #[PK o.blk] w λe w'=>e=.returned (.bool (Dv.bytes o.ch.l).isSome)/\∃m,w'=w.drewN m:=by
 obtain⟨L,hL,ab,J⟩:=KQ h;obtain⟨-,-,c2,-,c4,c5⟩:=TD h.obj;obtain⟨r,E⟩:∃r,(Dv.bytes o.ch.l).isSome=r:=⟨_,rfl⟩
 rw[E]at J⊢;have aa:=λn=>hL (w.drewN n) (λ_ _=>rfl);have R:=h.lastLt;obtain⟨en,I⟩:∃en,o.ended=en:=⟨_,rfl⟩
 obtain⟨la,z⟩:∃la,o.last=la:=⟨_,rfl⟩
 rw[I]at c4 J;rw[z]at c5 J R;unfold PK;have Y:Hid _:=J;clear h hL J E I z;go_enter (fq Tryz.func116 rfl),Tryz.ntmps116;go_upto_region 1 with fail;cases en
 ·go_quiet (fail);go_wp2_with fail;go_ret;exact⟨by rw[<-Y.out];rfl,_,rfl⟩
 ·go_quiet (fail);go_wp2_with fail;go_ret;exact⟨by rw[<-Y.out];rfl,_,rfl⟩
theorem NY{l:List F}{n:Nat}{d:List UInt8}(h:Dv.has l n=some d):∃x,x∈l/\x.num=n/\x.data=d/\lM (sV l) n=some (Ie x):=by
 unfold Dv.has at h;rw[aX]at h;obtain⟨x,z,rfl⟩:=h;have E:=List.find?_some z;refine⟨x,List.mem_of_find?_eq_some z,by simpa using E,rfl,?_⟩;unfold lM sV;rw[List.find?_map];have:l.find? ((λp:Nat×Value=>p.1 == n)∘λf=>(f.num,Ie f))=some x:=z;rw[this];rfl
theorem OD{l:List F}:∀{k:Nat}{s:List UInt8},Dv.qX l k=some s->Small l->s.length<=k*65536
 |0,s,h,_=>by simp[Dv.qX]at h;subst h;simp
 |k+1,s,h,hs=>by
  unfold Dv.qX at h;cases E:Dv.qX l k with
  |none=>rw[E]at h;cases h
  |some t=>
   rw[E,gK,aX]at h;obtain⟨d,hd,rfl⟩:=h;have J:=OD (l:=l) (k:=k) (s:=t) E hs;obtain⟨x,I,_,z,_⟩:=NY hd;have:=(hs x I).2;rw[aJ,iL,<-z];omega
theorem KA(a b c d:Value)(w:World):(Instr.field 81 (.agg #[a,b,c,d]) 2).run PQ w=.ok c w:=by kernel_rfl
theorem LG(o:PC)(s:List UInt8)(w:World)(h:ChanAt w o)(hs:Dv.bytes o.ch.l=some s):Calls PQ 117 #[PK o.blk] w λe w'=>e=.returned (.string ⟨s.toArray⟩)/\Below w.heap.size w w':=by
 have ap:o.ch.spoilt=false:=by
  cases hx:o.ch.spoilt with
  |false=>rfl
  |true=>rw[(h.spoilt hx).1]at hs;cases hs
 obtain⟨⟨B,hB,hm⟩,h1,h2,h3,h4⟩:=h.sound ap
 obtain⟨n,hn,hg⟩:∃n,Dv.last o.ch.l=some n/\Dv.qX o.ch.l (n+1)=some s:=by
  unfold Dv.bytes at hs;cases hl:Dv.last o.ch.l with
  |none=>rw[hl]at hs;cases hs
  |some n=>rw[hl]at hs;exact⟨n,rfl,hs⟩
 have ag:o.ch.l.length=n+1:=(Dv.EH h.fine hn).2 (by rw[hs];rfl)
 have ax:o.ch.l.length<=65536:=by
  have:=Dv.xR (a:=o.ch.l.map (·.num)) (b:=List.range 65536) h.fine.apart (λx hx=>by
   obtain⟨y,hy,rfl⟩:=bC.1 hx;exact gI.2 (h.small y hy).1)
  rw[aU,List.length_range]at this;exact this
 have ab:=h.obj;have av:o.blk<w.heap.size:=(jC ab)
 obtain⟨W,hW,af,-⟩:=jE w #[.pointer none,.slice none 0 0] 178;have am:VE w.heap.size w.heap.size [] W:=by rw[hW];exact fresh w
 have c2:∀V,Below w.heap.size w V->V.cell? ⟨o.blk,2,none⟩=some (.map (some B)):=λV hV=>by rw[hV.cell (p:=⟨o.blk,2,none⟩) av,aA ab,<-hB];rfl
 have R:∀V,Below w.heap.size w V->lu V B .u16 (sV o.ch.l):=λV hV=>hm.of_block (hV.block _ hm.lt);have ak:=(R W af).len (P:=PQ) (uq Tryz.underlying199) 3;rw[show(sV o.ch.l).length=n+1 from by unfold sV;rw[aU];exact ag]at ak;have ar:=c2 W af;have J:=h.small;obtain⟨l,hl⟩:∃l,o.ch.l=l:=⟨_,rfl⟩
 rw[hl]at R hg J ag ax
 have aa:∀k,k<=n+1->∃t,Dv.qX l k=some t:=λk hk=>by
  have h0:=Dv.uJ (l:=l) (k:=n+1);rw[hg]at h0;have h1:=h0.1 rfl;exact Option.isSome_iff_exists.1 (Dv.uJ.2 (λj hj=>h1 j (by omega)))
 have H:Hid _:=jw c2 (jw R (jw hg (jw J aa)));have HB:Hid _:=jw af am;unfold PK;have a0:w.heap.size<W.heap.size:=by rw[hW];simp
 clear h hs hm h1 h2 h3 h4 hn ab af am c2 R J hg aa hB hl ap;go_enter (fq Tryz.func117 rfl),Tryz.ntmps117;go_upto_region 2 with fail;rw[<-hW];clear hW;go_wp2_with fail;go_loopg [4,10] (n+1) (λgg _ aw wx=>∃(i:Nat)(t:List UInt8),i<=n+1/\aw=.int .i64 i/\gg=n+1-i/\Hid (Dv.qX l i=some t/\VE w.heap.size w.heap.size t wx/\Below w.heap.size w wx))
 case atStart=>exact⟨0,[],by omega,rfl,rfl,rfl,HB.out.2,HB.out.1⟩
 case round=>
  obtain⟨i,t,hi,rfl,rfl,HI⟩:=hrel;clear ar ak;obtain⟨c2,R,hg,J,aa⟩:=H.out;by_cases a1:i<n+1
  ·have aq:(i:Int)<n+1:=by omega
   obtain⟨t',I⟩:=aa (i+1) (by omega)
   obtain⟨d,hd⟩:∃d,Dv.has l i=some d:=by
    unfold Dv.qX at I;rw[HI.out.1,gK,aX]at I;obtain⟨d,hd,_⟩:=I;exact⟨d,hd⟩
   have ae:t'=t++d:=by
    have:=Dv.Py HI.out.1 hd;rw[this]at I;exact(eP I).symm
   obtain⟨x,hx,au,ai,ah⟩:=NY hd;have E:=(R wr HI.out.2.2).lookup (P:=PQ) (uq Tryz.underlying199) (uq Tryz.underlying79) (YK _) i false;rw[ah]at E;simp only[bJ,if_false,fB]at E;unfold Ie at E;rw[ai]at E;obtain⟨D,hD⟩:∃D:ByteArray,(⟨d.toArray⟩:ByteArray)=D:=⟨_,rfl⟩
   have ac:D.data.toList=d:=by rw[<-hD]
   have a2:D.size<=65536:=by rw[<-hD,<-ai];exact(J x hx).2
   rw[hD]at E;have e2:=c2 wr HI.out.2.2;have ay:=OD HI.out.1 J;have z:=L9 w.heap.size w.heap.size t D wr HI.out.2.1 (by have:i*65536<=65536*65536:=fD _ (by omega);omega) HI.out.2.2.size;have Y:Hid _:=λ(_:Unit)=>z;have Hx:Hid _:=jw I (jw ae ac);have az:=KA;clear c2 R hg J aa I ae hd hx au ai ah hD ac ay z;go_wp2_with (go_at_call 140;refine aK (Y.out ()) ?_;rintro e w2 ⟨rfl,an,aj⟩)
   go_roundg (n+1-(i+1))
   case measure=>omega
   case rel=>
    obtain⟨I,ae,ac⟩:=Hx.out;exact⟨i+1,t',by omega,by go_num,rfl,I,by rw[ae,<-ac];exact an,HI.out.2.2.trans aj⟩
  ·have aq:¬(i:Int)<n+1:=by omega
   obtain rfl:i=n+1:=by omega
   have ao:t=s:=by
    have:=HI.out.1;rw[hg]at this;exact(eP this).symm
   have z:=Ag w.heap.size w.heap.size t wr HI.out.2.1 HI.out.2.2.size;rw[ao]at z;have Y:Hid _:=λ(_:Unit)=>z;clear c2 R hg J aa z ao;go_wp2_with (go_at_call 93;refine aK (Y.out ()) ?_;rintro e w2 ⟨rfl,an,aj⟩)
   go_ret;exact⟨rfl,HI.out.2.2.trans aj⟩
section
variable {w A W W' Z:World}{n g off cap nb kb:Nat}{nm:AL}{o:PC}{os:List PC}{vo:Value}{l l0:List Ch}{s:List UInt8}{B:Nat->Prop}{pre:List (List UInt8)}{cs:Array Value}
theorem Row.tail{e:Nat}{x:Value}{xs:List Value}(h:Row w e 1 (.slice (some ⟨g,off,none⟩) (n+1) cap) (n+1) (x::xs)):Row w e 1 (.slice (if cap=1 then some ⟨g,off,none⟩else some ⟨g,off+1,none⟩) n (cap-1)) n xs:=by
 obtain⟨h1,h2⟩:=h;rw[aN]at h1;rcases h2 with⟨I,e2⟩|⟨g',J,R,z,I,h3,h4,h5,h6,h7⟩
 ·cases e2
 ·simp only[Value.slice.injEq,aC,Addr.mk.injEq]at I;obtain⟨⟨rfl,rfl,_⟩,_,rfl⟩:=I;by_cases Y:cap=1
  ·rw[if_pos Y];have hx:xs=[]:=bD (by omega);refine⟨by omega,.inr ⟨_,_,_,z,rfl,h3,by omega,by omega,by omega,λj u E=>?_⟩⟩;rw[hx]at E;simp at E
  ·rw[if_neg Y];refine⟨by omega,.inr ⟨_,_,_,z,rfl,h3,by omega,by omega,by omega,λj u E=>?_⟩⟩;rw[dO,Nat.add_comm 1 j];exact h7 (j+1) u (by simpa using E)
theorem Chs.tail(h:Chs w nb (.slice (some ⟨g,off,none⟩) n cap) nm (o::os))(J:alive nm o=false):Chs w nb (.slice (if cap=1 then some ⟨g,off,none⟩else some ⟨g,off+1,none⟩) os.length (cap-1)) nm os:=by
 have hn:n=os.length+1:=by
  obtain⟨a,c,e⟩:=Row.slice h.order;simp only[Value.slice.injEq]at e;simpa using e.2.1
 subst hn;have I:=h.apart;rw[dW,iq]at I;refine⟨h.named,Row.tail (by simpa using h.order),λx E=>h.chans x (bT _ E),I.2,λa b J hb=>h.maps a b (bT _ J) (bT _ hb),λx E=>h.far x (bT _ E),λp hp=>?_⟩;obtain⟨x,E,e⟩:=h.entries p hp;rcases bV.1 E with rfl|E
 ·exfalso
  have R:(nm.map Prod.fst).Nodup:=by
   obtain⟨es,c,_,_,q,_⟩:=h.named;exact q
  obtain⟨es,c,_,Y,_⟩:=h.named;have z:=Y.lM R hp;rw[e]at z;rw[pF z]at J;simp at J
 ·exact⟨x,E,e⟩
theorem KO(z:alive nm o=false):lives nm (o::os)=lives nm os:=by
 unfold lives;rw[List.filter_cons_of_neg (by simp[z])]
theorem AP(z:alive nm o=true):lives nm (o::os)=o.ch::lives nm os:=by
 unfold lives;rw[List.filter_cons_of_pos (by simp[z])];rfl
theorem Pe(h:Chs w nb vo nm (o::os))(I:alive nm o=true):alive (nD nm o.ch.name) o=false/\lives (nD nm o.ch.name) os=lives nm os:=by
 have hd:=FC I h.apart dK h;have z:=h.apart;rw[dW,iq]at z;refine⟨by rw[hd o dK];simp,?_⟩;unfold lives
 congr 1
 refine List.filter_congr (λx E=>?_);rw[hd x (bT _ E)]
 have:(x.blk != o.blk)=true:=by
  simp only[bne_iff_ne,ne_eq];intro e;exact z.1 (bC.2 ⟨x,E,e⟩)
 rw[this,Bool.and_true]
theorem LY{c:Ch}(h:Dv.bytes c.l=some s):Dv.pull (c::l)=(s::(Dv.pull l).1,(Dv.pull l).2):=by
 rw[Dv.pull,h]
theorem Pv{c:Ch}(h:Dv.bytes c.l=none):Dv.pull (c::l)=([],c::l):=by
 rw[Dv.pull,h]
structure PX where
 s:List UInt8
 vo:Value
 nm:AL
 os:List PC
def PX.encs(x:PX):Array Value:=#[.string ⟨x.s.toArray⟩]
def IX(z:PX)(pre:List PX):PX:=pre.foldl (λ_ x=>x) z
theorem sH(z:PX)(pre:List PX)(x:PX):IX z (pre++[x])=x:=by simp[IX]
structure PS(kb nb:Nat)(B:Nat->Prop)(l0:List Ch)(pre:List (List UInt8))(W:World)(cs:Array Value)(vo:Value)(nm:AL)(os:List PC):Prop where
 obj:W.heap[kb]? =some (.cells cs 137 (0,0))
 named:cs[8]? =some (.map (some nb))
 order:cs[9]? =some vo
 chs:Chs W nb vo nm os
 len:os.length<=4294967296
 pull:Dv.pull l0=(pre++(Dv.pull (lives nm os)).1,(Dv.pull (lives nm os)).2)
 own:∀k,Own nb vo os k->B k
def PSt(kb E nb:Nat)(B:Nat->Prop)(l0:List Ch)(z:PX)(pre:List PX)(W:World):Prop:=(∃cs,PS kb nb B l0 (pre.map PX.s) W cs (IX z pre).vo (IX z pre).nm (IX z pre).os)/\W.cell? ⟨E,0,none⟩=some (.pointer (some ⟨kb,8,none⟩))
def PEn(kb nb:Nat)(B:Nat->Prop)(l0:List Ch)(pre:List PX)(W:World):Prop:=∃cs vo nm os,PS kb nb B l0 (pre.map PX.s) W cs vo nm os/\lives nm os=(Dv.pull l0).2/\pre.map PX.s=(Dv.pull l0).1
def PY(kb z nb:Nat)(B:Nat->Prop)(l0:List Ch)(E:PX)(pre:List PX)(x:PX)(_:Nat)(W:World):Prop:=PSt kb z nb B l0 E (pre++[x]) W
def EK(kb:Nat)(A B:World):Prop:=∀(cs:Array Value)(t:Nat)(z:Nat×Nat),A.heap[kb]? =some (.cells cs t z)->∃v,B.heap[kb]? =some (.cells (cs.setIfInBounds 9 v) t z)
theorem EK.refl(kb:Nat)(A:World):EK kb A A:=λcs t E h=>⟨cs[9]?.getD .nilFunc,by
 rw[h]
 congr 2
 apply fP;intro i;rw[aO];split
 ·rename_i e;subst e;split
  ·rename_i z;rw[bU z];rfl
  ·rename_i z;exact iQ (by omega)
 ·rfl⟩
theorem EK.trans{B C:World}(E:EK kb A B)(h2:EK kb B C):EK kb A C:=λcs t z h=>by
 obtain⟨v,h3⟩:=E cs t z h;obtain⟨v',h4⟩:=h2 _ t z h3;exact⟨v',by rw[h4];simp⟩
theorem EK.same{B:World}(h:B.heap[kb]? =A.heap[kb]?):EK kb A B:=λcs t z I=>by
 obtain⟨v,E⟩:=EK.refl kb A cs t z I;exact⟨v,h.trans E⟩
theorem EK.put{l:Nat}{B:World}(h:EK kb A B)(o:Obj)(I:kb<l):EK kb (A.putObj l o) (B.putObj l o):=λcs t E z=>by
 rw[World.putObj_heap_other (by omega)]at z⊢;exact h cs t E z
theorem PS.jO(h:PS kb nb B l0 pre W cs vo nm os){M:Nat->Prop}(z:jJ M W W')(hk:¬M kb)(E:∀k,B k->¬M k):PS kb nb B l0 pre W' cs vo nm os:=
 ⟨(z.block _ (jC h.obj) hk).trans h.obj,h.named,h.order,h.chs.jO z (λk hk=>E k (h.own k hk)),h.len,h.pull,h.own⟩
theorem PS.below(h:PS kb nb B l0 pre W cs vo nm os)(z:Below W.heap.size W W'):PS kb nb B l0 pre W' cs vo nm os:=
 h.jO (.below z jA (λ_=>False)) (λe=>e) (λ_ _ e=>e)
def oL(kb:Nat)(W:World):Nat:=match W.cell? ⟨kb,9,none⟩with
 |some (.slice _ n _)=>n
 |_=>0
theorem PS.YJ(h:PS kb nb B l0 pre W cs vo nm os):W.cell? ⟨kb,8,none⟩=some (.map (some nb)):=by rw[aA h.obj];exact h.named
theorem PS.Yp(h:PS kb nb B l0 pre W cs vo nm os):W.cell? ⟨kb,9,none⟩=some vo:=by rw[aA h.obj];exact h.order
theorem PS.oL(h:PS kb nb B l0 pre W cs vo nm os):oL kb W=os.length:=by
 obtain⟨a,cap,e⟩:=Row.slice h.chs.order;unfold Hm.oL;rw[h.Yp,e]
theorem PS.skip(h:PS kb nb B l0 pre W cs (.slice (some ⟨g,off,none⟩) n cap) nm (o::os))(R:alive nm o=false)(z:W'.heap[kb]? =some (.cells (cs.setIfInBounds 9 (.slice (if cap=1 then some ⟨g,off,none⟩else some ⟨g,off+1,none⟩) os.length (cap-1))) 137 (0,0)))(Y:jJ (λk=>k=kb) W W'):
  PS kb nb B l0 pre W' (cs.setIfInBounds 9 (.slice (if cap=1 then some ⟨g,off,none⟩else some ⟨g,off+1,none⟩) os.length (cap-1))) (.slice (if cap=1 then some ⟨g,off,none⟩else some ⟨g,off+1,none⟩) os.length (cap-1)) nm os:=by
 have I:=h.chs.kU h.obj (by decide) (by decide);have J:9<cs.size:=(jC h.order)
 have E:=h.len;rw[aN]at E;refine⟨z,by rw[aO];simpa using h.named,by rw[aO];simp[J],(h.chs.jO Y (λk hk e=>I (e ▸ hk))).tail R,by omega,by have:=h.pull;rw[KO R]at this;exact this,λk hk=>h.own k ?_⟩;rcases hk with e|e|⟨x,hx,e⟩
 ·exact .inl e
 ·exact .inr (.inl (by split at e<;>exact e))
 ·exact .inr (.inr ⟨x,bT _ hx,e⟩)
theorem PS.take(h:PS kb nb B l0 pre W cs (.slice (some ⟨g,off,none⟩) n cap) nm (o::os))(ha:alive nm o=true)(hs:Dv.bytes o.ch.l=some s){E:World}(z:W'.heap[kb]? =some (.cells (cs.setIfInBounds 9 (.slice (if cap=1 then some ⟨g,off,none⟩else some ⟨g,off+1,none⟩) os.length (cap-1))) 137 (0,0)))(hc:jJ (λk=>k=kb) W W')(hm:lu E nb .u32 (nD nm o.ch.name))(R:jJ (λk=>k=nb) W' E):
  PS kb nb B l0 (pre++[s]) E (cs.setIfInBounds 9 (.slice (if cap=1 then some ⟨g,off,none⟩else some ⟨g,off+1,none⟩) os.length (cap-1))) (.slice (if cap=1 then some ⟨g,off,none⟩else some ⟨g,off+1,none⟩) os.length (cap-1)) (nD nm o.ch.name) os:=by
 have I:=h.chs.kU h.obj (by decide) (by decide);have aa:9<cs.size:=(jC h.order)
 have Y:=h.len;rw[aN]at Y;have hd:=Pe h.chs ha;have J:=h.chs.jO hc (λk hk e=>I (e ▸ hk));refine⟨(R.block kb (jC z) (λe=>I (.inl e))).trans z,by rw[aO];simpa using h.named,by rw[aO];simp[aa],(J.del hm R).tail hd.1,by omega,?_,λk hk=>h.own k ?_⟩
 ·rw[h.pull,AP ha,LY hs,hd.2];simp
 ·rcases hk with e|e|⟨x,hx,e⟩
  ·exact .inl e
  ·exact .inr (.inl (by split at e<;>exact e))
  ·exact .inr (.inr ⟨x,bT _ hx,e⟩)
structure Cut(kb:Nat)(cs:Array Value)(v:Value)(W Z:World):Prop where
 obj:Z.heap[kb]? =some (.cells (cs.setIfInBounds 9 v) 137 (0,0))
 jO:jJ (λk=>k=kb) W Z
 ek:EK kb W Z
theorem Cut.of{V:World}(h:PS kb nb B l0 pre W cs vo nm os){v:Value}(E:Below W.heap.size W V)(I:(V.setCell ⟨kb,9,none⟩ v).drew=Z):Cut kb cs v W Z:=by
 have J:jJ (λk=>k=kb) W Z:=by
  rw[<-I];exact((jJ.below E jA _).trans (jJ.set _ kb 9 v) (λ_ _ e=>e)).trans (jJ.drew _ _) (λ_ _ e=>e)
 have z:Z.heap[kb]? =some (.cells (cs.setIfInBounds 9 v) 137 (0,0)):=by
  rw[<-I];have:V.heap[kb]? =some (.cells cs 137 (0,0)):=(E.block _ (jC h.obj)).trans h.obj;exact block_setCell this v
 refine⟨z,J,λcs' t R hk=>?_⟩;rw[h.obj]at hk;cases hk;exact⟨v,z⟩
theorem PS.goes{Y X:World}(h:PS kb nb B l0 pre W cs (.slice (some ⟨g,off,none⟩) n cap) nm (o::os))(R:alive nm o=true)(hs:Dv.bytes o.ch.l=some s)(z:Cut kb cs (.slice (if cap=1 then some ⟨g,off,none⟩else some ⟨g,off+1,none⟩) os.length (cap-1)) W Z)(hY:Below Z.heap.size Z Y)(J:lu X nb .u32 (nD nm o.ch.name))(hg:Y.drew.grownBy X (some nb)):
  PS kb nb B l0 (pre++[s]) X (cs.setIfInBounds 9 (.slice (if cap=1 then some ⟨g,off,none⟩else some ⟨g,off+1,none⟩) os.length (cap-1))) (.slice (if cap=1 then some ⟨g,off,none⟩else some ⟨g,off+1,none⟩) os.length (cap-1)) (nD nm o.ch.name) os/\jJ (λk=>k=kb\/k=nb) W X/\EK kb W X/\ChanAt X o/\jJ (λk=>k=nb) Z X:=by
 have I:=h.chs.kU h.obj (by decide) (by decide);have E:jJ (λk=>k=nb) Z X:=((jJ.below hY jA _).trans (jJ.drew _ _) (λ_ _ e=>e)).trans (.grown hg) (λk _ e=>by simpa using e.symm);have hC:=h.chs.jO z.jO (λk hk e=>I (e ▸ hk));refine⟨h.take R hs z.obj z.jO J E,(z.jO.mono (λk _ e=>.inl e)).trans E (λk _ e=>.inr e),z.ek.trans (EK.same (E.block kb (jC z.obj) (λe=>I (.inl e)))),?_,E⟩;exact(hC.del J E).chans o dK
theorem PS.stop{pre:List PX}(h:PS kb nb B l0 (pre.map PX.s) W cs vo nm os)(R:os=[]\/∃o z,os=o::z/\alive nm o=true/\Dv.bytes o.ch.l=none):PEn kb nb B l0 pre W:=by
 have hp:Dv.pull (lives nm os)=([],lives nm os):=by
  rcases R with rfl|⟨o,z,rfl,I,J⟩
  ·rfl
  ·rw[AP I];exact Pv J
 have E:=h.pull;rw[hp,fU]at E;exact⟨cs,vo,nm,os,h,by rw[E],by rw[E]⟩
end
end Hm
namespace Hm
open Go.RowKit Go.Joins
open Dv (Ch Fine)
open Fr (F below_drewN)
attribute [local go_sem] Oper.semAt_some
theorem Iu(kb cB nb:Nat)(B:Nat->Prop)(l0:List Ch)(p0:PX)(a7:cB≠kb)(a2:cB≠nb):
  MR PQ 115 #[.pointer (some ⟨cB,0,none⟩)] PX.encs (λk=>k=kb\/k=nb) (EK kb) (PSt kb cB nb B l0 p0) (PEn kb nb B l0) (PY kb cB nb B l0 p0) (λ_=>True) (λ_=>True):=by
 intro l J Jx W hM ba az a1 a4;have HY:Hid _:=a1;have bl:Hid _:=a4;have HS:Hid _:=az;have cb:=az.2;have HM:Hid _:=jw hM (jw ba (jw a7 a2));clear a1 a4 az hM ba a7 a2;refine callsIn_wide.2 ?_;go_enter (fq Tryz.func115 rfl),Tryz.ntmps115;go_wp2_with fail
 go_loopw [3] (λ_ wr=>∃(ac:List PX)(W0:World)(cs:Array Value)(vo:Value)(nm:AL)(os:List PC),wr.cell? ⟨cB,0,none⟩=some (.pointer (some ⟨kb,8,none⟩))/\Hid (J ac W0/\jJ (λk=>k=kb\/k=nb) W0 wr/\EK kb W0 wr/\PS kb nb B l0 (ac.map PX.s) wr cs vo nm os))
  (λ_ wr=>oL kb wr)
 case atStart=>
  obtain⟨⟨cs,h⟩,_⟩:=HS.out;exact⟨[],W,cs,_,_,_,cb,⟨bl.out,jJ.refl _ _,EK.refl _ _,h⟩⟩
 case round=>
  clear cb;obtain⟨ac,W0,cs,vo,nm,os,cb,Hr⟩:=hrel;obtain⟨hJ,hc,hE,I⟩:=Hr.out;have c8:=I.YJ;have c9:=I.Yp;cases os with
  |nil=>
   obtain⟨a,cap,e⟩:=Row.slice I.chs.order;simp only[bM]at e;subst e;clear hJ hc hE I;go_wp2_with fail;go_end0;obtain⟨hJ,hc,hE,I⟩:=Hr.out;exact⟨⟨_,rfl⟩,.inl ⟨ac,W0,trivial,hJ,hc,hE,I.stop (.inl rfl)⟩⟩
  |cons o os=>
   obtain⟨g,off,cap,e,bo⟩:=Row.pos I.chs.order (by simp);have k0:=Row.cell I.chs.order e 0 (ptr o.blk) (by simp);subst e;have ab:=qZ kb nb 8 nm (o::os) o wr I.chs.core dK c8;have a8:=(I.chs.chans o dK).obj;have c0:=nO a8;have fk:=aI I.obj;have ap:(1:Int)<=(((o::os).length:Nat):Int):=by rw[aN];omega
   have ay:(0:Int)<(((o::os).length:Nat):Int):=by rw[aN];omega
   obtain⟨n,hn⟩:∃n,(o::os).length=n:=⟨_,rfl⟩
   rw[hn]at ap ay c9 bo;rw[Nat.add_zero]at k0;obtain⟨b,hb⟩:∃b,alive nm o=b:=⟨_,rfl⟩
   rw[hb]at ab;unfold ptr at k0 ab;have ai:Hid _:=λ(_:Unit)=>ab;have Hb:Hid _:=jw hb hn;clear hJ hc hE I a8 ab hb hn;cases b with
   |false=>
    go_upto_region 3 with(go_at_call 104;refine aK (ai.out ()) ?_;rintro e w2 ⟨rfl,m,rfl⟩)
    generalize hV:World.drewN _ _=V;have am:V.cell? ⟨cB,0,none⟩=some (.pointer (some ⟨kb,8,none⟩)):=by rw[<-hV];exact cb
    have a0:V.cell? ⟨kb,9,none⟩=some (.slice (some ⟨g,off,none⟩) n cap):=by rw[<-hV];exact c9
    have au:∀q,V.frozen? ⟨kb,q,none⟩=false:=λq=>by rw[<-hV];exact fk q
    have HV:Hid (Below wr.heap.size wr V):=by rw[<-hV];exact below_drewN (aB _ _) _
    clear hV cb c9 c8 k0 c0 fk;go_region;generalize hZ:World.drew _=Z;obtain⟨hJ,hc,hE,I⟩:=Hr.out;obtain⟨hb,hn⟩:=Hb.out;have ak:n-1=os.length:=by rw[<-hn,aN];omega
    rw[ak]at hZ;have E:=Cut.of I HV.out hZ;have af:=I.skip hb E.obj E.jO;have ah:=I.chs.kU I.obj (by decide) (by decide);have R:=I.chs.core.jO E.jO (λe=>ah (.inl e.symm)) (λx hx e=>ah (.inr (.inr ⟨x,hx,.inl e.symm⟩)));have z:=qZ kb nb 8 nm (o::os) o Z R dK af.YJ;rw[hb]at z;unfold ptr at z;have aa:Hid _:=λ(_:Unit)=>z
    have ae:Z.cell? ⟨cB,0,none⟩=some (.pointer (some ⟨kb,8,none⟩)):=by
     rw[<-hZ];exact(World.cell?_of_block (aP _ _ _ _ HM.out.2.2.1)).trans am
    have HZ:Hid _:=jw E (jw af ae);have HP:Hid _:=jw hJ (jw hc (jw hE I));clear hJ hc hE I hb hn ak hZ E af ah R z am a0 au;go_wp2_with (go_at_call 104;refine aK (aa.out ()) ?_;rintro e w2 ⟨rfl,m2,rfl⟩)
    go_roundw
    case rel=>
     obtain⟨hJ,hc,hE,I⟩:=HP.out;obtain⟨E,af,ae⟩:=HZ.out;exact⟨ac,W0,_,_,_,os,ae,⟨hJ,(hc.trans E.jO (λk _ e=>.inl e)).trans (.below (below_drewN (aB _ _) _) jA _) (λ_ _ e=>e),hE.trans (E.ek.trans (EK.same rfl)),af.below (below_drewN (aB _ _) _)⟩⟩
    case measure=>
     obtain⟨hJ,hc,hE,I⟩:=HP.out;obtain⟨E,af,ae⟩:=HZ.out;have h1:=(af.below (below_drewN (aB _ _) m2)).oL;have h2:=I.oL;rw[h1,h2,aN];omega
   |true=>
    have ag:=λ(k:Nat)=>L8 o (wr.drewN k) ((Hr.out.2.2.2.chs.chans o dK).jO (.below (below_drewN (aB _ _) k) jA (λ_=>False)) (λe=>e) (λ_ _ e=>e));unfold PK at ag;cases hs:Dv.bytes o.ch.l with
    |none=>
     rw[hs]at ag;have aq:Hid _:=ag;clear ag;go_wp2_with (first|(go_at_call 104;refine aK (ai.out ()) ?_;rintro e w2 ⟨rfl,m,rfl⟩)|(go_at_call 116;refine aK (aq.out _) ?_;rintro e w3 ⟨rfl,m3,rfl⟩))
     refine bodyPost_ret (results_none rfl _ _ _) rfl ?_;obtain⟨hJ,hc,hE,I⟩:=Hr.out;have aj:Below wr.heap.size wr (wr.drewN (m+m3)):=below_drewN (aB _ _) _;exact⟨⟨_,rfl⟩,.inl ⟨ac,W0,trivial,hJ,hc.trans (.below aj jA _) (λ_ _ e=>e),hE.trans (EK.same rfl),(I.below aj).stop (.inr ⟨o,os,rfl,Hb.out.1,hs⟩)⟩⟩
    |some s=>
     rw[hs]at ag;have aq:Hid _:=ag;clear ag;go_upto_region 3 with(first|(go_at_call 104;refine aK (ai.out ()) ?_;rintro e w2 ⟨rfl,m,rfl⟩)|(go_at_call 116;refine aK (aq.out _) ?_;rintro e w3 ⟨rfl,m3,rfl⟩))
     have aj:Below wr.heap.size wr (wr.drewN (m+m3)):=below_drewN (aB _ _) _;revert aj;generalize hV:World.drewN _ _=V;intro aj;have am:V.cell? ⟨cB,0,none⟩=some (.pointer (some ⟨kb,8,none⟩)):=by rw[<-hV];exact cb
     have a0:V.cell? ⟨kb,9,none⟩=some (.slice (some ⟨g,off,none⟩) n cap):=by rw[<-hV];exact c9
     have au:∀q,V.frozen? ⟨kb,q,none⟩=false:=λq=>by rw[<-hV];exact fk q
     have HV:Hid (Below wr.heap.size wr V):=aj;clear hV cb c9 c8 k0 c0 fk aj;go_region;generalize hq:(if cap=1 then some ({ block:=g,off:=off }:Addr)else some { block:=g,off:=off+1 })=q;generalize hZ:World.drew _=Z;obtain⟨hJ,hc,hE,I⟩:=Hr.out;obtain⟨hb,hn⟩:=Hb.out;have ak:n-1=os.length:=by rw[<-hn,aN];omega
     rw[ak]at hZ;have E:=Cut.of I HV.out hZ;rw[<-hq]at E;have ah:=I.chs.kU I.obj (by decide) (by decide);have R:=I.chs.core.jO E.jO (λe=>ah (.inl e.symm)) (λx hx e=>ah (.inr (.inr ⟨x,hx,.inl e.symm⟩)))
     have h8:Z.cell? ⟨kb,8,none⟩=some (.map (some nb)):=by
      rw[aA E.obj,aO];simpa using I.named
     have z:=qZ kb nb 8 nm (o::os) o Z R dK h8;rw[hb]at z;unfold ptr at z;have aa:Hid _:=λ(_:Unit)=>z
     have ae:Z.cell? ⟨cB,0,none⟩=some (.pointer (some ⟨kb,8,none⟩)):=by
      rw[<-hZ];exact(World.cell?_of_block (aP _ _ _ _ HM.out.2.2.1)).trans am
     have c0:Z.cell? ⟨o.blk,0,none⟩=some (.int .u32 o.ch.name):=by rw[aA (R.objs o dK)];rfl
     have HZ:Hid _:=jw E R;have HP:Hid _:=jw hJ (jw hc (jw hE (jw I (jw hb hs))));clear hJ hc hE I hb hn ak hZ E ah R z am a0 au hs hq;go_upto_region 5 with(go_at_call 104;refine aK (aa.out ()) ?_;rintro e w2 ⟨rfl,m2,rfl⟩)
     generalize hY:World.drewN _ _=Y;have bb:Below Z.heap.size Z Y:=by rw[<-hY];exact below_drewN (aB _ _) _
     have ar:Y.cell? ⟨cB,0,none⟩=some (.pointer (some ⟨kb,8,none⟩)):=by rw[<-hY];exact ae
     have bk:Y.cell? ⟨kb,8,none⟩=some (.map (some nb)):=by rw[<-hY];exact h8
     have bp:Y.cell? ⟨o.blk,0,none⟩=some (.int .u32 o.ch.name):=by rw[<-hY];exact c0
     have a6:lu Y.drew nb .u32 nm:=by rw[<-hY];exact HZ.out.2.named.of_block rfl
     have bn:Hid _:=a6;have bm:Hid _:=bb;clear hY ae h8 c0 a6 bb;go_region_law ((refine qP (by rfl) (.tmp 39) (.tmp 43) 130 22 (by rfl) 197 .u32 (uq Tryz.underlying130) (uq Tryz.underlying22) nb nm o.ch.name (by rfl) (by rfl) bn.out ?_;intro w7 a3 aw bs))
     all_goals
      obtain⟨hJ,hc,hE,I,hb,hs⟩:=HP.out;obtain⟨q1,q2,q3,q4,q5⟩:=I.goes hb hs HZ.out.1 bm.out a3 aw;have a9:w7.cell? ⟨cB,0,none⟩=some (.pointer (some ⟨kb,8,none⟩)):=(World.cell?_of_block ((jJ.grown aw).block cB (fA Y ⟨cB,0,none⟩ ar) (λe=>HM.out.2.2.2 (by simpa using e.symm)))).trans ar;have av:=LG o s w7 q4 hs;unfold PK at av;have br:Hid _:=λ(_:Unit)=>av;have H7:Hid _:=jw q1 (jw (hc.trans q2 (λ_ _ e=>e)) (jw (hE.trans q3) (jw a9 hJ)));clear hJ hc hE I hb hs q1 q2 q3 q4 q5 a9 av a3 aw bs ar bk bp;go_upto_region 6 with fail;refine(wpIn_wide (n:=2)).1 ?_;gi_wp2;refine⟨trivial,(callsIn_wide.2 (br.out ())).mono ?_⟩;rintro e w8 ⟨rfl,ao⟩;obtain⟨q1,q2,q3,q4,hJ⟩:=H7.out;obtain⟨fn,tmps,assign,body,bu,hR⟩:=HY.out ac ⟨s,_,_,os⟩ W0 w8 hJ (q2.trans (.below ao jA _) (λ_ _ e=>e)) (q3.trans (EK.same (ao.block kb (jC q1.obj)))) ⟨⟨_,by rw[sH,aY];exact q1.below ao⟩,(ao.cell (p:=⟨cB,0,none⟩) (fA w7 ⟨cB,0,none⟩ q4)).trans q4⟩;simp only[PX.encs]at bu;have HR:Hid _:=hR;clear hR q1 q2 q3 q4 hJ;gi_wp2;refine RoundIn.mono HR.out ?_;rintro e W3 (⟨rfl,an,bj,a5,bq⟩|⟨rfl,bd⟩)
      ·have H3:Hid _:=jw an a5;clear an bj a5 bq;gi_wp2;go_wp2_with fail;go_roundw
       case rel=>
        obtain⟨an,⟨⟨bh,ax⟩,bg⟩⟩:=H3.out;exact⟨ac++[_],W3,bh,_,_,_,bg,⟨an,jJ.refl _ _,EK.refl _ _,ax⟩⟩
       case measure=>
        obtain⟨an,⟨⟨bh,ax⟩,bg⟩⟩:=H3.out;have h1:=ax.oL;have h2:=Hr.out.2.2.2.oL;rw[sH]at h1;rw[h1,h2,aN];exact Nat.lt_succ_self _
      ·gi_wp2;go_wp2_with fail;refine bodyPost_ret (results_none rfl _ _ _) rfl ?_;exact⟨⟨_,rfl⟩,.inr ⟨ac++[_],W3,trivial,bd,jJ.refl _ _,EK.refl _ _⟩⟩
end Hm
end Go.Proofs.YtpibpdpedjinhaaGreatDoor
