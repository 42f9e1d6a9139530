import Derived.Test.YtpibpdpedjinhaaGreatDoorU31
set_option maxRecDepth 100000
set_option maxHeartbeats 2000000
set_option linter.unusedSimpArgs false
namespace Go.Proofs.YtpibpdpedjinhaaGreatDoor
namespace Hm
open Dv (U Cf Ba Ch Tx)
open Fr (F)
section
variable {most:Int} {cs:List Ch}
theorem expired (c:Cf) (n:Nat) (cs:List Ch):cs.filter (λx=>!decide ((x.opened:Int) < (n:Int) - c.timeout))=cs.filter (λx=>decide ((n:Int) - (x.opened:Int)<=c.timeout)):=by
 refine List.filter_congr (λx _=>?_)
 rw [Bool.eq_iff_iff]
 simp only [Bool.not_eq_true',decide_eq_false_iff_not,decide_eq_true_eq]
 omega
theorem zN {α:Type}:∀(l:List (List α)) (fs:Nat->List α),(∀j x,l[j]? =some x->fs j=x)->(List.range l.length).flatMap fs=l.flatten
 |[],_,_=>rfl
 |x::l,fs,h=>by
  have E:=zN l (λj=>fs (j+1)) (λj y z=>h (j+1) y (by simpa using z))
  rw [aN,List.range_succ_eq_map,gQ,List.flatMap_map,h 0 x (by simp),List.flatten_cons]
  congr 1
theorem JC (c:Cf) (txs:List Tx) (fs:Nat->List F) (z:∀j t,txs[j]? =some t->fs j=Dv.qc c t):lq fs txs.length=Dv.heard c txs:=by
 unfold lq Dv.heard
 have:=zN (txs.map (Dv.qc c)) fs (λj x E=>by
  rw [eX,aX] at E
  obtain ⟨t,ht,rfl⟩:=E
  exact z j t ht)
 rw [aU] at this
 rw [this,List.flatMap]
theorem Ro (c:Cf) (u:U) (n:Nat) (cs:List Ch) (wait:List Ba) (fs:Nat->List F) (E:∀j t,u.txs[j]? =some t->fs j=Dv.qc c t) (l2:List Ch) (z:l2=(lq fs u.txs.length).foldl (Dv.frame c.most n) (cs.filter (λx=>!decide ((x.opened:Int) < (n:Int) - c.timeout)))):
  Dv.take c u n cs wait=((Dv.pull l2).2,wait++(Dv.pull l2).1.flatMap (λs=>Dv.reads s n)):=by
 rw [z,JC c u.txs fs E,expired]
 rfl
theorem nX (x:F) (l:List F):Dv.size (x::l)=x.data.length+Dv.size l:=by simp [Dv.size]
theorem AX (k:Nat):∀l:List F,Dv.size (l.filter (λx=>decide (x.num < k+1)))=Dv.size (l.filter (λx=>decide (x.num < k)))+Dv.size (l.filter (λx=>x.num == k))
 |[]=>rfl
 |x::l=>by
  have z:=AX k l
  by_cases E:x.num < k
  ·have h2:x.num < k+1:=by omega
   have h3:(x.num == k)=false:=by simp;omega
   simp only [dU,E,h2,h3,decide_true,if_true,bJ,if_false,nX,z]
   omega
  ·by_cases h2:x.num=k
   ·have h3:(x.num == k)=true:=by simp [h2]
    have h4:x.num < k+1:=by omega
    simp only [dU,E,h4,h3,decide_true,decide_false,if_true,bJ,if_false,nX,z]
    omega
   ·have h3:(x.num == k)=false:=by simp [h2]
    have h4:¬x.num < k+1:=by omega
    simp only [dU,E,h4,h3,decide_false,bJ,if_false,z]
theorem Tc (k:Nat) {d:List UInt8}:∀l:List F,Dv.has l k=some d->d.length<=Dv.size (l.filter (λx=>x.num == k))
 |[],h=>by simp [Dv.has] at h
 |x::l,h=>by
  by_cases z:(x.num == k)=true
  ·unfold Dv.has at h
   rw [List.find?_cons_of_pos (by simpa using z)] at h
   simp at h
   rw [List.filter_cons_of_pos (by simpa using z),nX,<-h]
   omega
  ·have E:=Tc k (d:=d) l (by
    unfold Dv.has at h⊢
    rw [List.find?_cons_of_neg (by simpa using z)] at h
    exact h)
   rw [List.filter_cons_of_neg (by simpa using z)]
   exact E
theorem Iw (l:List F):∀(k:Nat) (s:List UInt8),Dv.qI l k=some s->s.length<=Dv.size (l.filter (λx=>decide (x.num < k)))
 |0,s,h=>by
  simp [Dv.qI] at h
  rw [h]
  simp
 |k+1,s,h=>by
  rw [Dv.qI,Option.bind_eq_some_iff] at h
  obtain ⟨s',z,h2⟩:=h
  rw [aX] at h2
  obtain ⟨d,h3,rfl⟩:=h2
  have E:=Iw l k s' z
  have I:=Tc k l h3
  rw [AX,aJ]
  omega
theorem yP (p:F->Bool):∀l:List F,Dv.size (l.filter p)<=Dv.size l
 |[]=>jC
 |x::l=>by
  have z:=yP p l
  rw [dU]
  split
  ·rw [nX,nX];omega
  ·rw [nX];omega
theorem Uw {l:List F} {s:List UInt8} (h:Dv.bytes l=some s):s.length<=Dv.size l:=by
 unfold Dv.bytes at h
 rw [Option.bind_eq_some_iff] at h
 obtain ⟨n,_,h⟩:=h
 exact aW (Iw l _ s h) (yP _ l)
def Fits (most:Int) (cs:List Ch):Prop:=∀c,c∈cs->(Dv.size c.l:Int)<=most
theorem yH (z:0<=most) {c:Ch} {f:F} (h:(Dv.size c.l:Int)<=most):(Dv.size (Dv.joined most c f).l:Int)<=most:=by
 unfold Dv.joined
 split
 ·exact h
 ·split
  ·exact z
  ·rename_i h2
   simp only
   omega
theorem LD (I:0<=most) {n:Nat} {f:F} (h:Fits most cs):Fits most (Dv.frame most n cs f):=by
 intro c z
 unfold Dv.frame at z
 split at z
 ·rcases dG.1 z with z|z
  ·exact h c (fK.1 z).1
  ·rw [dD.1 z]
   exact yH I I
 ·obtain ⟨J,E,rfl⟩:=bC.1 z
  split
  ·exact yH I (h J E)
  ·exact h J E
theorem Y4 {most:Int} (z:0<=most) {n:Nat}:∀(l:List F) {cs:List Ch},Fits most cs->Fits most (l.foldl (Dv.frame most n) cs)
 |[],_,h=>h
 |_::l,_,h=>Y4 z l (LD z h)
theorem IG (h:Fits most cs) (p:Ch->Bool):Fits most (cs.filter p):=λc z=>h c (fK.1 z).1
theorem x9 {most:Int}:∀{cs:List Ch},Fits most cs->(∀s,s∈(Dv.pull cs).1->(s.length:Int)<=most)/\Fits most (Dv.pull cs).2
 |[],_=>⟨λs hs=>by simp [Dv.pull] at hs,λc I=>by simp [Dv.pull] at I⟩
 |c::cs,h=>by
  have z:=x9 (cs:=cs) (λx J=>h x (bT _ J))
  rw [Dv.pull]
  split
  ·exact ⟨λs hs=>by simp at hs,h⟩
  ·rename_i s E
   refine ⟨λt ht=>?_,z.2⟩
   rcases bV.1 ht with rfl|ht
   ·have:=Uw E
    have:=h c dK
    omega
   ·exact z.1 t ht
end
open Go.RowKit Go.Joins Go.Shelf
open Dv (U Cf Ba Ch)
section
variable {M:Nat->Prop} {k t:Nat} {cs:Array Value} {fz:Nat×Nat} {vo':Value} {nm':AL} {os':List PC}
structure TS (w:World) (kb nb:Nat) (c:Cf) (vu:Value) (us:List PB) (dl:Nat->List (List UInt8)) (vo vw:Value) (ws:List PW) (nm:AL) (os:List PC) (cnt ep sq:Nat):Prop where
 d:qw w kb c vu us dl nb vo vw ws cnt ep sq
 ch:Chs w nb vo nm os
 hd:kU w
 ht:∃hc t fz,w.heap[1]? =some (.cells hc t fz)/\t≠137/\t≠150/\t≠139/\t≠197/\t≠201
section
variable {w w':World} {kb nb:Nat} {c:Cf} {vu:Value} {us:List PB} {dl:Nat->List (List UInt8)} {vo vw:Value} {ws:List PW} {nm:AL} {os:List PC} {cnt ep sq:Nat}
theorem TS.heap (h:TS w kb nb c vu us dl vo vw ws nm os cnt ep sq) (q:w'.heap=w.heap):TS w' kb nb c vu us dl vo vw ws nm os cnt ep sq:=⟨h.d.heap q,h.ch.heap q,kU.heap h.hd q,by rw [q];exact h.ht⟩
theorem mZ (hd:kU w) (E:kF M w w') (z:¬M 1):kU w':=by
 have e:∀(i:Nat),w'.cell? ⟨1,i,none⟩=w.cell? ⟨1,i,none⟩:=λi=>by
  unfold World.cell?
  rw [E.block _ hd.pos z]
 exact ⟨⟨by rw [e];exact hd.1.1,by rw [e];exact hd.1.2.1,by rw [e];exact hd.1.2.2⟩,⟨by rw [e];exact hd.2.1,by rw [e];exact hd.2.2.1,by rw [e];exact hd.2.2.2⟩⟩
theorem TS.kept (h:TS w kb nb c vu us dl vo vw ws nm os cnt ep sq) (I:kF M w w') (z:∀k,k < w.heap.size->¬M k):TS w' kb nb c vu us dl vo vw ws nm os cnt ep sq:=by
 obtain ⟨v,R,J⟩:=(I.mono (M':=λ_=>False) (λk hk e=>z k hk e)).fake
 obtain ⟨E,t,fz,Y,q2⟩:=h.ht
 exact ⟨(h.d.below R.Iq).heap J.symm,(h.ch.below R.Iq).heap J.symm,mZ h.hd I (z _ h.hd.pos),E,t,fz,(I.block _ h.hd.pos (z _ h.hd.pos)).trans Y,q2⟩
theorem TS.below (h:TS w kb nb c vu us dl vo vw ws nm os cnt ep sq) (z:Below w.heap.size w w'):TS w' kb nb c vu us dl vo vw ws nm os cnt ep sq:=h.kept (M:=λ_=>False) (jL.below z jC _).h (λ_ _ e=>e)
theorem TS.GY (h:TS w kb nb c vu us dl vo vw ws nm os cnt ep sq) (hk:w.heap[k]? =some (.cells cs t fz)) (t1:t≠137) (t2:t≠197) (t3:t≠201):¬(k=kb\/Own nb vo os k):=by
 rintro (rfl|e)
 ·rw [h.d.obj] at hk
  simp at hk
  exact t1 hk.2.1.symm
 ·exact h.ch.kX hk t2 t3 e
theorem TS.Zy (h:TS w kb nb c vu us dl vo vw ws nm os cnt ep sq) (hk:w.heap[k]? =some (.cells cs t fz)) (t1:t≠137) (t2:t≠150):¬(k=kb\/k=nb\/vw.ownBlock=some k):=by
 rintro (rfl|rfl|e)
 ·rw [h.d.obj] at hk
  simp at hk
  exact t1 hk.2.1.symm
 ·exact kR hk h.ch.named rfl
 ·exact jH h.d.wait hk t2 e
theorem TS.WB (h:TS w kb nb c vu us dl vo vw ws nm os cnt ep sq) (hk:w.heap[k]? =some (.cells cs t fz)) (t1:t≠137) (t2:t≠139):¬(k=kb\/vu.ownBlock=some k):=by
 rintro (rfl|e)
 ·rw [h.d.obj] at hk
  simp at hk
  exact t1 hk.2.1.symm
 ·exact jH h.d.upper hk t2 e
theorem TS.chans (h:TS w kb nb c vu us dl vo vw ws nm os cnt ep sq) (E:w'.heap[kb]? =some (.cells ((jO c vu nb vo vw cnt ep sq).setIfInBounds 9 vo') 137 (0,0))) (ab:Chs w' nb vo' nm' os') (hc:kF (λk=>k=kb\/Own nb vo os k) w w'):TS w' kb nb c vu us dl vo' vw ws nm' os' cnt ep sq:=by
 obtain ⟨aa,t,fz,R,q2,q3,q4,Y,J⟩:=h.ht
 have z:∀{e s n:Nat} {v:Value} {xs:List Value},Row w e s v n xs->e≠137->e≠197->e≠201->Row w' e s v n xs:=λhr t1 t2 t3=>hr.kept (λg hg=>hc.block g (hr.lt hg) (by
  obtain ⟨ac,I⟩:=hr.obj hg
  exact h.GY I t1 t2 t3))
 refine ⟨⟨?_,z h.d.upper (by decide) (by decide) (by decide),z h.d.wait (by decide) (by decide) (by decide),λj p hp=>z (h.d.deps j p hp) (by decide) (by decide) (by decide),λp hp=>z (h.d.txs p hp) (by decide) (by decide) (by decide)⟩,ab,mZ h.hd hc (h.GY R q2 Y J),aa,t,fz,(hc.block _ h.hd.pos (h.GY R q2 Y J)).trans R,q2,q3,q4,Y,J⟩
 rw [E]
 rfl
theorem TS.took (h:TS w kb nb c vu us dl vo vw ws nm os cnt ep sq) (ht:zZ kb nb (jO c vu nb vo vw cnt ep sq) vo os w vo' nm' os' w'):TS w' kb nb c vu us dl vo' vw ws nm' os' cnt ep sq:=h.chans ht.obj ht.chs ht.jR.h
theorem TS.bi (h:TS w kb nb c vu us dl vo vw ws nm os cnt ep sq) {l:List Ch} {m:Nat} (ht:BI kb nb w (jO c vu nb vo vw cnt ep sq) vo os l m w' vo' nm' os'):TS w' kb nb c vu us dl vo' vw ws nm' os' cnt ep sq:=h.chans ht.obj ht.chs ht.jR.h
theorem TS.pulled (h:TS w kb nb c vu us dl vo vw ws nm os cnt ep sq) {n:Nat} {l0:List Ch} {J:List (List UInt8)} {Y E:Value} {I:List PW} {cs':Array Value} (ht:TI kb nb n w (jO c vu nb vo vw cnt ep sq) vw ws J w' Y E I) {B:Nat->Prop} (hp:PS kb nb B l0 J w' cs' vo' nm' os'):TS w' kb nb c vu us dl vo' E (ws++I) nm' os' cnt ep sq:=by
 have hc:=ht.jR.h
 obtain ⟨aa,t,fz,q1,q2,q3,q4,q5,q6⟩:=h.ht
 have z:∀{e s n:Nat} {v:Value} {xs:List Value},Row w e s v n xs->e≠137->e≠150->Row w' e s v n xs:=λhr t1 t2=>hr.kept (λg hg=>hc.block g (hr.lt hg) (by
  obtain ⟨ab,R⟩:=hr.obj hg
  exact h.Zy R t1 t2))
 have e9:Y=vo':=by
  have h1:=ht.obj
  rw [hp.obj] at h1
  simp only [aC,Obj.cells.injEq,and_true] at h1
  have h2:=hp.order
  rw [h1] at h2
  have h3:(((jO c vu nb vo vw cnt ep sq).setIfInBounds 9 Y).setIfInBounds 10 E)[9]? =some Y:=rfl
  rw [h3] at h2
  exact eP h2
 subst e9
 refine ⟨⟨?_,z h.d.upper (by decide) (by decide),ht.row,λj p hp=>z (h.d.deps j p hp) (by decide) (by decide),ht.txs⟩,hp.chs,mZ h.hd hc (h.Zy q1 q2 q3),aa,t,fz,(hc.block _ h.hd.pos (h.Zy q1 q2 q3)).trans q1,q2,q3,q4,q5,q6⟩
 rw [ht.obj]
 rfl
theorem TS.more (h:TS w kb nb c vu us dl vo vw ws nm os cnt ep sq) {u:U} {da:Option Addr} {dc:Nat} {w6 w1:World} {g off cap:Nat} (hb:Below w.heap.size w w6) (hm:Made w6 w.heap.size (.slice da (Dv.jP u).length dc) (Dv.jP u)) (J:Row w1 139 3 (.slice (some ⟨g,off,none⟩) (us.length+1) cap) (us.length+1) (us.flatMap pG++[.int .i64 u.id,.int .i64 u.time,.slice da (Dv.jP u).length dc]))
  (hg:Grew vu g (w6.alloc (.cells #[.int .i64 u.id,.int .i64 u.time,.slice da (Dv.jP u).length dc] 139)) w1):
  TS (w1.setCell ⟨kb,7,none⟩ (.slice (some ⟨g,off,none⟩) (us.length+1) cap)) kb nb c (.slice (some ⟨g,off,none⟩) (us.length+1) cap) (us++[(u.id,u.time,.slice da (Dv.jP u).length dc)]) (λj=>if j=us.length then Dv.jP u else dl j) vo vw ws nm os cnt ep sq/\jL (λk=>k=kb\/vu.ownBlock=some k) w (w1.setCell ⟨kb,7,none⟩ (.slice (some ⟨g,off,none⟩) (us.length+1) cap)):=by
 have c1:jL (λk=>vu.ownBlock=some k) w6 w1:=(jL.alloc _ _ _).trans hg.jR (λ_ _ e=>e)
 have c2:jL (λk=>vu.ownBlock=some k) w w1:=(jL.below hb jC _).trans c1 (λ_ _ e=>e)
 have ae:=(jE h.d.obj)
 have c3:jL (λk=>k=kb\/vu.ownBlock=some k) w6 (w1.setCell ⟨kb,7,none⟩ (.slice (some ⟨g,off,none⟩) (us.length+1) cap)):=(c1.mono (λ_ _ e=>.inr e)).trans (.set _ _ _ _) (λ_ _ e=>.inl e)
 have c4:jL (λk=>k=kb\/vu.ownBlock=some k) w (w1.setCell ⟨kb,7,none⟩ (.slice (some ⟨g,off,none⟩) (us.length+1) cap)):=(jL.below hb jC _).trans c3 (λ_ _ e=>e)
 obtain ⟨ac,t,fz,q1,q2,q3,q4,q5,q6⟩:=h.ht
 have I:=h.below hb
 have E:∀{e s n:Nat} {v:Value} {xs:List Value},Row w6 e s v n xs->e≠137->e≠139->Row (w1.setCell ⟨kb,7,none⟩ (.slice (some ⟨g,off,none⟩) (us.length+1) cap)) e s v n xs:=λJ t1 t2=>J.kept (λg hg=>c3.block g (J.lt hg) (by
  obtain ⟨Y,z⟩:=J.obj hg
  exact I.WB z t1 t2))
 have aa:w1.heap[kb]? =some (.cells (jO c vu nb vo vw cnt ep sq) 137 (0,0)):=(c2.block kb ae (jH h.d.upper h.d.obj (by decide))).trans h.d.obj
 have ab:g≠kb:=by
  obtain ⟨Y,z⟩:=J.obj (g:=g) rfl
  intro e
  subst e
  rw [aa] at z
  simp at z
 refine ⟨⟨⟨?_,?_,E I.d.wait (by decide) (by decide),λj p hp=>?_,λp hp=>E (I.d.txs p hp) (by decide) (by decide)⟩,?_,mZ h.hd c4.h (h.WB q1 q2 q4),ac,t,fz,(c4.block _ h.hd.pos (h.WB q1 q2 q4)).trans q1,q2,q3,q4,q5,q6⟩,c4⟩
 ·rw [block_setCell aa]
  rfl
 ·rw [aJ,iC,gX]
  exact J.kept (λg' R=>by
   simp only [Value.ownBlock,aC] at R
   subst R
   exact aP _ _ _ _ ab)
 ·by_cases hj:j=us.length
  ·subst hj
   rw [bK jC,Nat.sub_self] at hp
   simp at hp
   subst hp
   rw [if_pos rfl]
   exact E hm.1 (by decide) (by decide)
  ·rw [if_neg hj]
   have hl:=(aF.1 hp).1
   rw [aJ,iC] at hl
   rw [bP (by omega)] at hp
   exact E (I.d.deps j p hp) (by decide) (by decide)
 ·refine I.ch.jR c3 (λk hk=>?_)
  rintro (rfl|e)
  ·exact I.ch.kX I.d.obj (by decide) (by decide) hk
  ·obtain ⟨Y,z⟩:=I.d.upper.obj e
   exact I.ch.kX z (by decide) (by decide) hk
end
end
theorem jy {α:Type} {l:List α} {n:Nat} (h:l.length=n+1):∃x r,l=x::r/\r.length=n:=by
 cases l with
 |nil=>simp at h
 |cons x r=>exact ⟨x,r,rfl,by simpa using h⟩
theorem Rq {t:Array Value} (h:t.size=93):∃u0 u1 u2 u3 u4 u5 u6 u7 u8 u9 av b8 ar bg b5 bn ae bx af ak aw cd aj ah bm R b6 b7 cf Y ce bj cl a9 ay b0 ca ba bq bd b2 br a2 b4 bv b1 bp ab an au a7 a0 E a8 cn bh bb cg az cm a6 b9 b3 cj cp bs bk cc ax ac ci ap ag a3 bo I bl a5 aa ai bz ao z ck am co a1 aq a4 bw bu cb J,t=#[u0,u1,u2,u3,u4,u5,u6,u7,u8,u9,av,b8,ar,bg,b5,bn,ae,bx,af,ak,aw,cd,aj,ah,bm,R,b6,b7,cf,Y,ce,bj,cl,a9,ay,b0,ca,ba,bq,bd,b2,br,a2,b4,bv,b1,bp,ab,an,au,a7,a0,E,a8,cn,bh,bb,cg,az,cm,a6,b9,b3,cj,cp,bs,bk,cc,ax,ac,ci,ap,ag,a3,bo,I,bl,a5,aa,ai,bz,ao,z,ck,am,co,a1,aq,a4,bw,bu,cb,J]:=by
 obtain ⟨l⟩:=t
 replace h:l.length=93:=h
 iterate 93 (obtain ⟨_,l,rfl,h'⟩:=jy h;clear h;have h:=h';clear h')
 obtain rfl:=List.length_eq_zero_iff.1 h
 exact ⟨_,_,_,_,_,_,_,_,_,_,_,_,_,_,_,_,_,_,_,_,_,_,_,_,_,_,_,_,_,_,_,_,_,_,_,_,_,_,_,_,_,_,_,_,_,_,_,_,_,_,_,_,_,_,_,_,_,_,_,_,_,_,_,_,_,_,_,_,_,_,_,_,_,_,_,_,_,_,_,_,_,_,_,_,_,_,_,_,_,_,_,_,_,rfl⟩
end Hm
namespace Pa
open Go Go.Conc Go.RowKit Go.Joins
open Hm (ptr jY jI jO TS kF oG AL PC PB PW lives xO wY xG takeB Dy ops2 Fits)
open Dv (U Cf Ch)
open Po hiding U H B IT PR NB
section
noncomputable def ops4:Array Oper:=match Tryz.f39.body with
 |some (.seq _ (.seq _ (.seq _ (.seq _ (.seq (.seq (.region _ ops _) _) _)))))=>ops
 |_=>#[]
noncomputable def LJ:Code:=match Tryz.f39.body with
 |some (.seq _ (.seq _ (.seq c _)))=>c
 |_=>.skip
noncomputable def QL:Code:=match Tryz.f39.body with
 |some (.seq _ (.seq _ (.seq _ (.seq _ (.seq (.seq c _) _)))))=>c
 |_=>.skip
theorem OA:Tryz.f39.body=some (.seq xO (.seq wY (.seq LJ (.seq xG (.seq (.seq QL takeB) Dy))))):=by kernel_rfl
theorem OV:∃z,LJ=.region z ops2 true:=⟨_,rfl⟩
theorem O5:∃z,QL=.region z ops4 true:=⟨_,rfl⟩
structure SA (a:Act) (b2 b3 b4:Nat):Prop where
 sz:a.tmps.size=93
 df:a.defers=[]
 t2:a.tmps[2]? =some (ptr b2)
 t3:a.tmps[3]? =some (ptr b3)
 t4:a.tmps[4]? =some (ptr b4)
structure TB (w:World) (b2 b3 b4 kb n:Nat) (u:U) (vt vl:Value):Prop where
 h2:w.heap[b2]? =some (.cells #[ptr kb] 93 (0,0))
 h3:w.heap[b3]? =some (.cells #[.int .i64 u.id,.int .i64 u.time,vt,vl] 42 (0,0))
 h4:w.heap[b4]? =some (.cells #[.int .i64 n] 3 (0,0))
section
variable {w w':World}
variable {kb:Nat} {u:U} {vt vl:Value} {b2 b3 b4 n:Nat}
theorem TB.jR {M:Nat->Prop} (h:TB w b2 b3 b4 kb n u vt vl) (E:kF M w w') (z:∀(j:Nat) (cs:Array Value) (t:Nat) (I:Nat×Nat),w.heap[j]? =some (.cells cs t I)->t=93\/t=42\/t=3->¬M j):TB w' b2 b3 b4 kb n u vt vl:=
 ⟨(E.block _ (jE h.h2) (z _ _ _ _ h.h2 (.inl rfl))).trans h.h2,(E.block _ (jE h.h3) (z _ _ _ _ h.h3 (.inr (.inl rfl)))).trans h.h3,(E.block _ (jE h.h4) (z _ _ _ _ h.h4 (.inr (.inr rfl)))).trans h.h4⟩
end
end
open Hm (ptr jI jO)
open Dv (U Cf)
open Cr (Fill Sr)
section
def YK (kb b3 s:Nat) (c:Cf) (tx:Option Addr) (n cap:Nat) (i:Nat):Value:=(#[ptr kb,ptr kb,ptr kb,.agg (jI c),.pointer (some ⟨b3,2,none⟩),.slice tx n cap,.slice (some ⟨s+1,0,none⟩) n n,.int .i64 n,.int .i64 0]:Array Value).getD i undef
section
variable {Post:Eh} {D:Nat->Prop} {w:World} {b:Frame} {a:Act} {k:List Item} {Z A:List Frame}
variable {kb nb:Nat} {c:Cf} {vu vo vw vl:Value} {cnt ep sq:Nat} {u:U} {b2 b3 b4:Nat} {tx:Option Addr} {n cap:Nat} {fs:Nat->List Fr.F}
theorem Zd:Cr.fills 93 ops4=true:=by kernel_rfl
theorem Xr (rd:Cr.ReadW) {ac:Nat} (hA:SA a b2 b3 b4) (h2:w.heap[b2]? =some (.cells #[ptr kb] 93 (0,0))) (h3:w.heap[b3]? =some (.cells #[.int .i64 u.id,.int .i64 u.time,.slice tx n cap,vl] 42 (0,0))) (hk:w.heap[kb]? =some (.cells (jO c vu nb vo vw cnt ep sq) 137 (0,0)))
  (hn:n<=16777216) (af:Tryz.prog.globals.size<=w.heap.size) {tb p0:Nat} {fr ad:Nat->Int} {data:Nat->ByteArray} (hx:Sr (λ_=>True) w tx tb p0 n fr ad data) (ae:∀j,j < n->fs j=Fr.lM c.inbox c.batcher (fr j) (ad j) (data j).data.toList)
  (hQ:∀a' w' D',SA a' b2 b3 b4->a'.tmps[44]? =some (.slice (some ⟨w.heap.size+1,0,none⟩) n n)->a'.tmps[45]? =some (.int .i64 n)->a'.tmps[46]? =some (.int .i64 0)->Ah w n fs w'->Wq D' Post Z (b.at a' k) A w'):
  Wq D Post Z (b.at a (.code (.region ac ops4 true)::k)) A w:=by
 refine Wq.fill (τ:=Unit) (λ_=>YK kb b3 w.heap.size c tx n cap) (λl v D1 _=>(l.getD 6 false=false->v=w/\D1=D)/\(l.getD 6 false=true->Ah w n fs v)) (by rw [hA.sz];exact Zd) (λl a' v D1 _ hl R hJ=>?_) (λl a' v D1 _ i o rest J hi aa R hJ Y=>?_) () ⟨λ_=>⟨rfl,rfl⟩,λh=>by rw [show ops4.size=9 from rfl] at h;cases h⟩
 ·have e:∀{i t},i < 9->Cr.mO ops4 i=some t->a'.tmps[t]? =some (YK kb b3 w.heap.size c tx n cap i):=λhi hd=>R.got _ _ hd (hl _ hi)
  exact hQ a' _ _ ⟨R.size.trans hA.sz,R.defers.trans hA.df,(R.slot (by kernel_rfl)).trans hA.t2,(R.slot (by kernel_rfl)).trans hA.t3,(R.slot (by kernel_rfl)).trans hA.t4⟩ (e (i:=6) (by decide) rfl) (e (i:=7) (by decide) rfl) (e (i:=8) (by decide) rfl) (hJ.2 (hl 6 (by decide)))
 ·have hold:∀j,j < w.heap.size->v.heap[j]? =w.heap[j]?:=λj hj=>by
   cases h6:l.getD 6 false with
   |false=>rw [(hJ.1 h6).1]
   |true=>exact (hJ.2 h6).old j hj
  have g2:=(hold _ (jE h2)).trans h2
  have g3:=(hold _ (jE h3)).trans h3
  have gk:=(hold _ (jE hk)).trans hk
  have keep:i≠6->(((l.setIfInBounds i true).getD 6 false=false->v=w/\D1=D)/\((l.setIfInBounds i true).getD 6 false=true->Ah w n fs v)):=λe=>by rw [getD_set_ne false e];exact hJ
  have go:i≠6->o.guard=none->(∀t d,(execOp a'.eval o).run PQ (on v t d)=.ok (.value (YK kb b3 w.heap.size c tx n cap i)) (on v t d))->Wq D1 Post Z (b.at a' (.inRegion ops4 (i::rest)::k)) A v:=λe E hr=>Wq.val J E hr (Y v D1 () (λ_ _=>rfl) (keep e))
  have ab:=(jE J)
  have e2:=R.old (s:=2) (by kernel_rfl) hA.t2
  have e3:=R.old (s:=3) (by kernel_rfl) hA.t3
  have cl:∀{B:Nat} {cs:Array Value} {ty:TypeId} {fz:Nat×Nat} (o:Nat),v.heap[B]? =some (.cells cs ty fz)->∀t d,(on v t d).cell? ⟨B,o,none⟩=cs[o]?:=λo h t d=>aA (show (on v t d).heap[_]? =_ from h) o
  have I:∀j t,Cr.waits ops4 i j=true->Cr.mO ops4 j=some t->a'.eval (.tmp t)=YK kb b3 w.heap.size c tx n cap j:=λj t hw hd=>R.ev hd (aa j hw)
  match i,ab with
  |0,_=>
   obtain ⟨z,E⟩:=Cr.kL (.load 93 (.tmp 2),none) J rfl
   refine go (by decide) E λt d=>?_
   have c0:=cl 0 g2 t d
   unfold execOp
   simp only [z,e2,ptr]
   simp [go_sem,c0]
   rfl
  |1,_=>
   obtain ⟨z,E⟩:=Cr.kL (.nilCheck (.tmp 38),none) J rfl
   refine go (by decide) E λt d=>?_
   unfold execOp
   simp only [z,I 0 38 rfl rfl]
   rfl
  |2,_=>
   obtain ⟨z,E⟩:=Cr.kL (.fieldAddr 137 (.tmp 39) 0,none) J rfl
   refine go (by decide) E λt d=>?_
   unfold execOp
   simp only [z,I 1 39 rfl rfl]
   simp [go_sem]
   rfl
  |3,_=>
   obtain ⟨z,E⟩:=Cr.kL (.load 24 (.tmp 40),none) J rfl
   refine go (by decide) E λt d=>?_
   have c0:_=(jI c)[0]?:=cl 0 gk t d
   have c1:_=(jI c)[1]?:=cl 1 gk t d
   have c2:_=(jI c)[2]?:=cl 2 gk t d
   have c3:_=(jI c)[3]?:=cl 3 gk t d
   have c4:_=(jI c)[4]?:=cl 4 gk t d
   have c5:_=(jI c)[5]?:=cl 5 gk t d
   have c6:_=(jI c)[6]?:=cl 6 gk t d
   unfold execOp
   simp only [z,I 2 40 rfl rfl]
   simp [go_sem,YK,ptr,jI,c0,c1,c2,c3,c4,c5,c6]
  |4,_=>
   obtain ⟨z,E⟩:=Cr.kL (.fieldAddr 42 (.tmp 3) 2,none) J rfl
   refine go (by decide) E λt d=>?_
   unfold execOp
   simp only [z,e3,ptr]
   simp [go_sem]
   rfl
  |5,_=>
   obtain ⟨z,E⟩:=Cr.kL (.load 39 (.tmp 42),none) J rfl
   refine go (by decide) E λt d=>?_
   have c0:=cl 2 g3 t d
   unfold execOp
   simp only [z,I 4 42 rfl rfl]
   simp [go_sem,YK,c0]
  |6,_=>
   obtain ⟨z,E⟩:=Cr.kL (.call { callee:=.value (.func 71),args:=#[.tmp 41,.tmp 43],argTypes:=#[24,39] },none) J rfl
   have h6:=Cr.F6 hi
   obtain ⟨rfl,rfl⟩:=hJ.1 h6.1
   refine Wk.frames rd J (Cr.kG E) z (I 3 41 rfl rfl) (I 5 43 rfl rfl) hn af hx ae λD' x' hP=>Y x' D' () (λ_ _=>rfl) ⟨λh=>(by rw [h6.2] at h;cases h),λ_=>hP⟩
  |7,_=>
   obtain ⟨z,E⟩:=Cr.kL (.call { callee:=.builtin .len,args:=#[.tmp 44],argTypes:=#[29] },none) J rfl
   refine go (by decide) E λt d=>?_
   have e:a'.tmps[44]? =some (.slice (some ⟨w.heap.size+1,0,none⟩) n n):=R.got 6 44 rfl (aa 6 rfl)
   unfold execOp
   simp only [z]
   simp [go_sem,YK,e]
  |8,_=>
   obtain ⟨z,E⟩:=Cr.kL (.move (.const (.int .i64 0)),none) J rfl
   refine go (by decide) E λt d=>?_
   unfold execOp
   simp only [z]
   rfl
end
end
section
variable {ta la:Option Addr} {tn tc ln lc:Nat}
section
variable {Post:Eh} {D:Nat->Prop} {w w':World} {b:Frame} {a:Act} {k:List Item} {Z A:List Frame}
variable {kb nb:Nat} {c:Cf} {vu:Value} {us:List PB} {dl:Nat->List (List UInt8)} {vo vw:Value} {ws:List PW} {nm:AL} {os:List PC} {cnt ep sq:Nat} {u:U} {vt vl:Value} {b2 b3 b4 n:Nat}
theorem OM {rest:Code} (hS:TS w kb nb c vu us dl vo vw ws nm os cnt ep sq) (ha:a={ tmps:=#[.pointer (some ⟨kb,0,none⟩),.agg #[.int .i64 u.id,.int .i64 u.time,.slice ta tn tc,.slice la ln lc],undef,undef,undef,undef,undef,undef,undef,undef,undef,undef,undef,undef,undef,undef,undef,undef,undef,undef,undef,undef,undef,undef,undef,undef,undef,undef,undef,undef,undef,undef,undef,undef,undef,undef,undef,undef,undef,undef,undef,undef,undef,undef,undef,undef,undef,undef,undef,undef,undef,undef,undef,undef,undef,undef,undef,undef,undef,undef,undef,undef,undef,undef,undef,undef,undef,undef,undef,undef,undef,undef,undef,undef,undef,undef,undef,undef,undef,undef,undef,undef,undef,undef,undef,undef,undef,undef,undef,undef,undef,undef,undef],defers:=[] })
  (R:∀a' w',SA a' w.heap.size (w.heap.size+1) (w.heap.size+2)->kF (λ_=>False) w w'->TB w' w.heap.size (w.heap.size+1) (w.heap.size+2) kb us.length u (.slice ta tn tc) (.slice la ln lc)->Wq D Post Z (b.at a' [.code rest]) A w'):
  Wq D Post Z (b.at a [.code (.seq xO (.seq wY rest))]) A w:=by
 refine Wq.seq ?_
 obtain ⟨w1,E⟩:∃w1,w1=(w.alloc (.cells #[.pointer (some ⟨kb,0,none⟩)] 93)).alloc (.cells #[.int .i64 u.id,.int .i64 u.time,.slice ta tn tc,.slice la ln lc] 42):=⟨_,rfl⟩
 have s1:w1.heap.size=w.heap.size+2:=by rw [E];simp
 have b1:Go.RowKit.Below w.heap.size w w1:=by rw [E];exact ((Go.RowKit.Below.refl _ w).alloc jC _).alloc (by simp) _
 have k2:w1.heap[w.heap.size]? =some (.cells #[ptr kb] 93 (0,0)):=by rw [E,Go.RowKit.Below.heap_alloc _ _ _ (by simp)];exact heap_alloc_new _ _
 have k3:w1.heap[w.heap.size+1]? =some (.cells #[.int .i64 u.id,.int .i64 u.time,.slice ta tn tc,.slice la ln lc] 42 (0,0)):=by
  have:=heap_alloc_new (w.alloc (.cells #[.pointer (some ⟨kb,0,none⟩)] 93)) (.cells #[.int .i64 u.id,.int .i64 u.time,.slice ta tn tc,.slice la ln lc] 42)
  rw [E]
  simpa using this
 refine Wq.piece (Q:=λa' W=>a'={ tmps:=#[.pointer (some ⟨kb,0,none⟩),.agg #[.int .i64 u.id,.int .i64 u.time,.slice ta tn tc,.slice la ln lc],.pointer (some ⟨w.heap.size,0,none⟩),.pointer (some ⟨w.heap.size+1,0,none⟩),undef,undef,undef,undef,undef,undef,undef,undef,undef,undef,undef,undef,undef,undef,undef,undef,undef,undef,undef,undef,undef,undef,undef,undef,undef,undef,undef,undef,undef,undef,undef,undef,undef,undef,undef,undef,undef,undef,undef,undef,undef,undef,undef,undef,undef,undef,undef,undef,undef,undef,undef,undef,undef,undef,undef,undef,undef,undef,undef,undef,undef,undef,undef,undef,undef,undef,undef,undef,undef,undef,undef,undef,undef,undef,undef,undef,undef,undef,undef,undef,undef,undef,undef,undef,undef,undef,undef,undef,undef],defers:=[] }/\W.heap=w1.heap) (λt d=>?_) ?_
 ·rw [ha]
  refine Hm.PZ _ _ _ _ _ _ _ _ _ _ _ _ _ _ _ _ _ _ _ _ _ _ _ _ _ _ _ _ _ _ _ _ _ _ _ _ _ _ _ _ _ _ _ _ _ _ _ _ _ _ _ _ _ _ _ _ _ _ _ _ _ _ _ _ _ _ _ _ _ _ _ _ _ _ _ _ _ _ _ _ _ _ _ _ _ _ _ _ _ _ _ kb u.id u.time ta tn tc la ln lc (on w t d) ⟨rfl,rfl,?_⟩
  rw [E]
  rfl
 rintro a1 z ⟨rfl,J⟩
 have J:z.heap=w1.heap:=J
 refine Wq.seq ?_
 have Y:=(hS.below b1).heap J
 obtain ⟨va,vc,ab⟩:=Y.d.upper.slice
 have o7:(jO c vu nb vo vw cnt ep sq)[7]? =some (.slice va us.length vc):=by rw [<-ab];rfl
 refine Wq.piece (Q:=λa' W=>SA a' w.heap.size (w.heap.size+1) (w.heap.size+2)/\W.heap=(z.alloc (.cells #[.int .i64 us.length] 3)).heap) (λt d=>?_) ?_
 ·refine Hm.Qs _ _ _ _ _ _ _ _ _ _ _ _ _ _ _ _ _ _ _ _ _ _ _ _ _ _ _ _ _ _ _ _ _ _ _ _ _ _ _ _ _ _ _ _ _ _ _ _ _ _ _ _ _ _ _ _ _ _ _ _ _ _ _ _ _ _ _ _ _ _ _ _ _ _ _ _ _ _ _ _ _ _ _ _ _ _ _ _ _ _ _ _ w.heap.size kb va us.length vc (on z t d) (by rw [aA (show (on z t d).heap[w.heap.size]? =_ from by rw [show (on z t d).heap=w1.heap from J];exact k2)];rfl) (by rw [aA (show (on z t d).heap[kb]? =_ from Y.d.obj)];exact o7) ⟨rfl,⟨rfl,rfl,rfl,rfl,?_⟩,rfl⟩
  show some (Value.pointer (some ⟨z.heap.size,0,none⟩))=_
  rw [J,s1]
  rfl
 rintro a2 w2 ⟨aa,I⟩
 have I:w2.heap=(z.alloc (.cells #[.int .i64 us.length] 3)).heap:=I
 have hold:∀j,j < w.heap.size+2->w2.heap[j]? =w1.heap[j]?:=λj hj=>by
  rw [I,Go.RowKit.Below.heap_alloc _ _ _ (by rw [J,s1];exact hj),J]
 refine R a2 w2 aa ⟨by rw [I];simp [J,s1];omega,λj hj _=>(hold j (by omega)).trans (b1.block j hj)⟩ ⟨(hold _ (by omega)).trans k2,(hold _ (by omega)).trans k3,?_⟩
 have:=heap_alloc_new z (.cells #[.int .i64 us.length] 3)
 rw [I]
 rw [J,s1] at this
 exact this
def Vw (dl:Nat->List (List UInt8)) (n:Nat) (u:U):Nat->List (List UInt8):=λj=>if j=n then Dv.jP u else dl j
theorem WJ {rest:Code} (hS:TS w kb nb c vu us dl vo vw ws nm os cnt ep sq) (R:SA a b2 b3 b4) (hB:TB w b2 b3 b4 kb us.length u (.slice ta tn tc) (.slice la ln lc)) (ab:oG w u (.slice ta tn tc) (.slice la ln lc)) (ac:∀x,x∈u.logs->x.length<=16777216) (hn:us.length < 4294967296)
  (I:∀a' w' z J,SA a' b2 b3 b4->TS w' kb nb c z (us++[(u.id,u.time,J)]) (Vw dl us.length u) vo vw ws nm os cnt ep sq->kF (λj=>j=kb\/vu.ownBlock=some j) w w'->(∀g,z.ownBlock=some g->vu.ownBlock=some g\/w.heap.size<=g)->Wq D Post Z (b.at a' [.code rest]) A w'):
  Wq D Post Z (b.at a [.code (.seq LJ rest)]) A w:=by
 refine Wq.seq ?_
 obtain ⟨af,Y⟩:=OV
 refine Wq.piece (Q:=λa' W=>SA a' b2 b3 b4/\∃z J,TS W kb nb c z (us++[(u.id,u.time,J)]) (Vw dl us.length u) vo vw ws nm os cnt ep sq/\kF (λj=>j=kb\/vu.ownBlock=some j) w W/\∀g,z.ownBlock=some g->vu.ownBlock=some g\/w.heap.size<=g) (λt d=>?_) ?_
 ·rw [Y]
  refine (wpIn_wide (n:=1)).1 (wpIn_region_any (by kernel_rfl) ?_)
  have E:TS (on w t d).drew kb nb c vu us dl vo vw ws nm os cnt ep sq:=hS.heap rfl
  refine Hm.WW (W:=(on w t d).drew) (cs:=jO c vu nb vo vw cnt ep sq) ⟨hB.h2,hB.h3,hS.d.obj,rfl,E.d.upper,hn,ab.heap rfl,ac,E.hd⟩ R.sz R.t2 R.t3 R.t4 ?_
  intro a' da dc w6 g off cap w1 e1 e2 e3 e4 e5 hb hm hr hg
  obtain ⟨q1,q2⟩:=E.more hb hm hr hg
  refine ⟨rfl,⟨e1,e5.trans R.df,e2,e3,e4⟩,_,_,q1,q2.h.heaps rfl rfl,λg' aa=>?_⟩
  have e:g=g':=by simpa [Value.ownBlock] using aa
  subst e
  rcases hg.own with q|q
  ·exact .inl q
  ·refine .inr (aW (show w.heap.size<=w6.heap.size from hb.size) (aW ?_ q))
   simp
 rintro a' w' ⟨ae,z,J,q1,q2,q3⟩
 exact I a' w' z J ae (q1.heap rfl) (q2.heaps rfl rfl) q3
end
end
section
section
variable {Post:Eh} {D:Nat->Prop} {w w':World} {b:Frame} {a:Act} {k:List Item} {Z A:List Frame}
variable {kb nb:Nat} {c:Cf} {vu:Value} {us:List PB} {dl:Nat->List (List UInt8)} {vo vw:Value} {ws:List PW} {nm:AL} {os:List PC} {cnt ep sq:Nat} {u:U} {vt vl:Value} {b2 b3 b4 n:Nat}
theorem Rz {rest:Code} {c0:Nat} (hS:TS w kb nb c vu us dl vo vw ws nm os cnt ep sq) (hA:SA a b2 b3 b4) (hB:TB w b2 b3 b4 kb c0 u vt vl) (hn:c0<=4294967296) (aa:os.length<=4294967296) (ab:0<=c.timeout/\c.timeout<=4294967296)
  (R:∀a' w' I E z,SA a' b2 b3 b4->TS w' kb nb c vu us dl I vw ws E z cnt ep sq->kF (λj=>j=kb\/Hm.Own nb vo os j) w w'->(∀j,Hm.Own nb I z j->Hm.Own nb vo os j\/w.heap.size<=j)->z.length<=os.length->lives E z=(lives nm os).filter (λx=>!decide ((x.opened:Int) < (c0:Int) - c.timeout))->Wq D Post Z (b.at a' [.code rest]) A w'):
  Wq D Post Z (b.at a [.code (.seq xG rest)]) A w:=by
 refine Wq.seq ?_
 refine Wq.piece (Q:=λa' W=>SA a' b2 b3 b4/\∃I E z,TS W kb nb c vu us dl I vw ws E z cnt ep sq/\kF (λj=>j=kb\/Hm.Own nb vo os j) w W/\(∀j,Hm.Own nb I z j->Hm.Own nb vo os j\/w.heap.size<=j)/\z.length<=os.length/\lives E z=(lives nm os).filter (λx=>!decide ((x.opened:Int) < (c0:Int) - c.timeout))) (λt d=>?_) ?_
 ·have J:TS (on w t d) kb nb c vu us dl vo vw ws nm os cnt ep sq:=hS.heap rfl
  obtain ⟨tm,df⟩:=a
  obtain ⟨sz,Y,t2,t3,t4⟩:=hA
  dsimp only at sz Y t2 t3 t4
  subst Y
  obtain ⟨u0,u1,u2,u3,u4,u5,u6,u7,u8,u9,a8,ct,a6,bv,cp,b5,aq,cf,ar,a0,a9,cy,ay,aw,b1,aj,cq,cr,c1,ak,cz,bx,de,bq,bb,ci,cv,br,b9,bu,cl,cb,bj,cn,cd,ck,b7,an,a2,a7,bo,bg,af,bp,dh,bw,bs,c4,bd,dg,bn,cu,cm,db,dj,ca,bz,cx,ba,ap,c5,a4,au,bk,b6,ah,b0,bm,am,ax,cg,a3,ae,dd,a1,di,bh,a5,bl,ce,cc,cw,ai,rfl⟩:=Hm.Rq sz
  simp only [dY,dX,dQ,aC] at t2 t3 t4
  subst t2 t3 t4
  refine Hm.FY _ _ _ _ _ _ _ _ _ _ _ _ _ _ _ _ _ _ _ _ _ _ _ _ _ _ _ _ _ _ _ _ _ _ _ _ _ _ _ _ _ _ _ _ _ _ _ _ _ _ _ _ _ _ _ _ _ _ _ _ _ _ _ _ _ _ _ _ _ _ _ _ _ _ _ _ _ _ _ _ _ _ _ _ _ _ _ _ _ _ _ b2 b4 kb nb c0 c.timeout (jO c vu nb vo vw cnt ep sq) vo nm os (on w t d) hB.h2 hB.h4 J.d.obj rfl rfl rfl J.ch aa hn ab ?_
  intro co ao av c2 b8 c6 c3 ag cj az c9 W' I E z ht h1 h2
  exact ⟨rfl,⟨rfl,rfl,rfl,rfl,rfl⟩,I,E,z,J.took ht,ht.jR.h.heaps rfl rfl,ht.own,h1,h2⟩
 rintro a' w' ⟨ac,I,E,z,q1,q2,q3,q4,q5⟩
 exact R a' w' I E z ac (q1.heap rfl) (q2.heaps rfl rfl) q3 q4 q5
theorem WQ {d0:Code} {c0 C m:Nat} {vs:Array Value} {fs:Nat->List Fr.F} (hS:TS w kb nb c vu us dl vo vw ws nm os cnt ep sq) (hA:SA a b2 b3 b4) (hB:TB w b2 b3 b4 kb c0 u vt vl) (ac:a.tmps[44]? =some (.slice (some ⟨C,0,none⟩) m m)) (J:a.tmps[45]? =some (.int .i64 m)) (ab:a.tmps[46]? =some (.int .i64 0))
  (hC:w.heap[C]? =some (.cells vs 76 (0,0))) (ag:vs.size=m) (aa:∀i,i < m->∃v,vs[i]? =some v/\Hm.yD w v (fs i)) (ai:∀i f,i < m->f∈fs i->f.num < 65536/\f.data.length<=65536) (hm:m<=16777216) (ah:∀i,(fs i).length<=16777216)
  (ae:os.length+(Hm.lq fs m).length<=4294967295) (aj:0<=c.most/\c.most<=4294967296)
  (Y:∀a' w' I E z,SA a' b2 b3 b4->TS w' kb nb c vu us dl I vw ws E z cnt ep sq->kF (λj=>j=kb\/Hm.Own nb vo os j) w w'->(∀j,Hm.Own nb I z j->Hm.Own nb vo os j\/w.heap.size<=j)->z.length<=os.length+(Hm.lq fs m).length->lives E z=(Hm.lq fs m).foldl (Dv.frame c.most c0) (lives nm os)->Wq D Post Z (b.at a' [.code d0]) A w'):
  Wq D Post Z (b.at a [.code takeB,.code d0]) A w:=by
 refine Wq.piece (Q:=λa' W=>SA a' b2 b3 b4/\∃I E z,TS W kb nb c vu us dl I vw ws E z cnt ep sq/\kF (λj=>j=kb\/Hm.Own nb vo os j) w W/\(∀j,Hm.Own nb I z j->Hm.Own nb vo os j\/w.heap.size<=j)/\z.length<=os.length+(Hm.lq fs m).length/\lives E z=(Hm.lq fs m).foldl (Dv.frame c.most c0) (lives nm os)) (λt d=>?_) ?_
 ·have R:TS (on w t d) kb nb c vu us dl vo vw ws nm os cnt ep sq:=hS.heap rfl
  obtain ⟨tm,df⟩:=a
  obtain ⟨sz,af,t2,t3,t4⟩:=hA
  dsimp only at sz af t2 t3 t4 ac J ab
  subst af
  obtain ⟨u0,u1,u2,u3,u4,u5,u6,u7,u8,u9,bk,db,bh,b9,c5,cf,a1,cu,a2,a8,bl,dj,a7,a5,ce,av,c6,c9,dm,aw,dk,cb,d2,b1,bn,cw,dg,b5,cm,b7,c1,cn,bs,c4,cq,cy,ck,az,ba,bj,bz,bq,aq,b0,d9,ca,b6,dv,bp,d7,bx,dd,c2,dz,eb,co,cc,di,bm,a0,dy,bd,a3,bu,cg,ar,cd,bw,ax,a6,cv,bb,ap,d1,a9,ea,br,bg,bv,ct,cp,dh,au,rfl⟩:=Hm.Rq sz
  simp only [dY,dX,dQ,aC] at t2 t3 t4 ac J ab
  subst t2 t3 t4 ac J ab
  refine Hm.Fg _ _ _ _ _ _ _ _ _ _ _ _ _ _ _ _ _ _ _ _ _ _ _ _ _ _ _ _ _ _ _ _ _ _ _ _ _ _ _ _ _ _ _ _ _ _ _ _ _ _ _ _ _ _ _ _ _ _ _ _ _ _ _ _ _ _ _ _ _ _ _ _ _ _ _ _ _ _ _ _ _ _ _ _ _ _ _ _ b2 b4 kb nb c0 C m c.most (jO c vu nb vo vw cnt ep sq) vs vo nm os fs (on w t d) hB.h2 hB.h4 R.d.obj rfl rfl rfl R.ch hC ag aa ai hm ah ae aj ?_
  intro x6 x8 de ay d8 d3 a4 ci bo cx cz dt cj cr am cl c3 dr b8 an ao du dq dx dw W' I E z ht
  exact ⟨rfl,⟨rfl,rfl,rfl,rfl,rfl⟩,I,E,z,R.bi ht,ht.jR.h.heaps rfl rfl,ht.own,ht.len,ht.lives⟩
 rintro a' w' ⟨ak,I,E,z,q1,q2,q3,q4,q5⟩
 exact Y a' w' I E z ak (q1.heap rfl) (q2.heaps rfl rfl) q3 q4 q5
end
end
section
section
variable {Post:Eh} {D:Nat->Prop} {w w':World} {b:Frame} {a:Act} {k:List Item} {Z A:List Frame}
variable {kb nb:Nat} {c:Cf} {vu:Value} {us:List PB} {dl:Nat->List (List UInt8)} {vo vw:Value} {ws:List PW} {nm:AL} {os:List PC} {cnt ep sq:Nat} {u:U} {vt vl:Value} {b2 b3 b4 n:Nat}
theorem Qi {c0:Nat} (hS:TS w kb nb c vu us dl vo vw ws nm os cnt ep sq) (hA:SA a b2 b3 b4) (hB:TB w b2 b3 b4 kb c0 u vt vl) (ag:os.length<=4294967296)
  (ae:∀s,s∈(Dv.pull (lives nm os)).1->s.length<=4096) (ab:ws.length+4096 * (Dv.pull (lives nm os)).1.length < 4294967296)
  (aa:∀a' w' (dd:Nat) I Y J E z,a'.defers=[{ target:=.collected dd,args:=#[] }]->w'.heap[dd]? =some (.deferred (some []))->w.heap.size<=dd->TS w' kb nb c vu us dl I Y (ws++J) E z cnt ep sq->kF (λj=>j=kb\/j=nb\/vw.ownBlock=some j) w w'->(∀j,Hm.Own nb I z j->Hm.Own nb vo os j)->(∀g,Y.ownBlock=some g->vw.ownBlock=some g\/w.heap.size<=g)->z.length<=4294967296->lives E z=(Dv.pull (lives nm os)).2->J.map Prod.fst=(Dv.pull (lives nm os)).1.flatMap (λs=>Dv.reads s c0)->Wq D Post Z (b.at a' []) A w'):
  Wq D Post Z (b.at a [.code Dy]) A w:=by
 refine Wq.piece (Q:=λa' W=>∃(dd:Nat),∃I Y J E z,a'.defers=[{ target:=.collected dd,args:=#[] }]/\W.heap[dd]? =some (.deferred (some []))/\w.heap.size<=dd/\TS W kb nb c vu us dl I Y (ws++J) E z cnt ep sq/\kF (λj=>j=kb\/j=nb\/vw.ownBlock=some j) w W/\(∀j,Hm.Own nb I z j->Hm.Own nb vo os j)/\(∀g,Y.ownBlock=some g->vw.ownBlock=some g\/w.heap.size<=g)/\z.length<=4294967296/\lives E z=(Dv.pull (lives nm os)).2/\J.map Prod.fst=(Dv.pull (lives nm os)).1.flatMap (λs=>Dv.reads s c0)) (λt d=>?_) ?_
 ·have R:TS (on w t d) kb nb c vu us dl vo vw ws nm os cnt ep sq:=hS.heap rfl
  obtain ⟨tm,df⟩:=a
  obtain ⟨sz,ac,t2,t3,t4⟩:=hA
  dsimp only at sz ac t2 t3 t4
  subst ac
  obtain ⟨u0,u1,u2,u3,u4,u5,u6,u7,u8,u9,a9,cq,a7,bw,cn,b6,av,cf,aw,a1,ba,cw,a0,ay,b5,ao,co,cp,cy,ap,cx,bz,c4,br,bd,ci,ct,bs,b9,bv,ck,ca,bk,cm,cd,cj,b8,ar,a3,a8,bp,bh,ak,bq,c6,bx,bu,cz,bg,c5,bo,cr,cl,c2,db,cb,b0,cv,bb,au,c1,a5,ax,bl,b7,am,b1,bn,aq,az,cg,a4,aj,c3,a2,c9,bj,a6,bm,ce,cc,cu,an,rfl⟩:=Hm.Rq sz
  simp only [dY,dX,dQ,aC] at t2 t3 t4
  subst t2 t3 t4
  obtain ⟨ah,tt,fz,q1,q2,q3,_⟩:=R.ht
  refine Hm.MQ _ _ _ _ _ _ _ _ _ _ _ _ _ _ _ _ _ _ _ _ _ _ _ _ _ _ _ _ _ _ _ _ _ _ _ _ _ _ _ _ _ _ _ _ _ _ _ _ _ _ _ _ _ _ _ _ _ _ _ _ _ _ _ _ _ _ _ _ _ _ _ _ _ _ _ _ _ _ _ _ _ _ _ _ _ _ _ _ _ _ _ b2 b4 kb nb c0 (jO c vu nb vo vw cnt ep sq) vo vw nm os ws (on w t d) hB.h2 hB.h4 R.d.obj rfl rfl rfl R.ch ag R.d.wait R.d.txs R.hd ⟨ah,tt,fz,q1,q2,q3⟩ ae ab ?_
  intro D W' v9 af J cs' I E z hT hP h1 h2 h3 h4
  exact ⟨rfl,D,I,af,J,E,z,rfl,h4,h2,R.pulled hT hP,hT.jR.h.heaps rfl rfl,hP.own,hT.own,hP.len,h1,hT.fst⟩
 rintro a' w' ⟨D,I,Y,J,E,z,q1,q2,q3,q4,q5,q6,q7,q8,q9,ai⟩
 exact aa a' w' D I Y J E z q1 q2 q3 (q4.heap rfl) (q5.heaps rfl rfl) q6 q7 q8 q9 ai
end
end
end Pa
namespace Fr
section
variable {s:List UInt8}
def be:Nat->Nat->List UInt8
 |0,_=>[]
 |k+1,v=>be k (v / 256)++[UInt8.ofNat (v % 256)]
theorem D6:∀k v,(be k v).length=k
 |0,_=>rfl
 |k+1,v=>by rw [be,aJ,D6];rfl
theorem Gw:∀(k:Nat) (s:List UInt8) (p:Nat),p+k<=s.length->(s.drop p).take k=be k (big s p k)
 |0,_,_,_=>by simp [be]
 |k+1,s,p,h=>by
  have h2:=(s.getD (p+k) 0).toNat_lt
  rw [big,be,show (256 * big s p k+(s.getD (p+k) 0).toNat) / 256=big s p k from by omega,<-Gw k s p (by omega),show (256 * big s p k+(s.getD (p+k) 0).toNat) % 256=(s.getD (p+k) 0).toNat from by omega,
   dZ (by rw [dP];omega),List.getElem_drop]
  congr 2
  rw [aS,aG (by omega)]
  simp
def fits (x:F):Prop:=x.chan < 4294967296/\x.num < 65536/\x.data.length < 65536
def enc (x:F):List UInt8:=be 4 x.chan++be 2 x.num++be 2 x.data.length++x.data++[if x.last then 1 else 0]
theorem Lu (x:F):(enc x).length=9+x.data.length:=by
 simp [enc,D6]
 omega
theorem VY {p:Nat} {x:F} {n:Nat} (h:one s p=some (x,n)):s.drop p=enc x++s.drop (p+n)/\fits x/\n=(enc x).length:=by
 have aa:=one_le h
 unfold one at h
 split at h
 ·simp at h
 ·rename_i h9
  split at h
  ·simp at h
  ·rename_i hN
   split at h
   ·simp at h
   ·rename_i hc
    simp only [aC,dA] at h
    obtain ⟨rfl,rfl⟩:=h
    have Y:=Gw 4 s p (by omega)
    have b2:=Gw 2 s (p+4) (by omega)
    have I:=Gw 2 s (p+6) (by omega)
    have z:=sJ s p 4
    have l2:=sJ s (p+4) 2
    have E:=sJ s (p+6) 2
    simp only [Nat.reducePow] at z l2 E
    generalize big s (p+6) 2=N at *
    generalize big s p 4=C4 at *
    generalize big s (p+4) 2=C2 at *
    have hdl:((s.take (p+8+N)).drop (p+8)).length=N:=by simp;omega
    refine ⟨?_,⟨z,l2,by rw [hdl];exact E⟩,by rw [Lu,hdl]⟩
    have J:[if ((s.getD (p+8+N) 0).toNat == 1)=true then (1:UInt8) else 0]=(s.drop (p+8+N)).take 1:=by
     have R:s.getD (p+8+N) 0=s[p+8+N]'(by omega):=by rw [aS,aG (by omega)];rfl
     rw [R] at hc⊢
     rw [List.drop_eq_getElem_cons (by omega)]
     simp only [List.take_succ_cons,List.take_zero,List.cons.injEq,and_true]
     rcases (by omega:(s[p+8+N]'(by omega)).toNat=0\/(s[p+8+N]'(by omega)).toNat=1) with h|h
     ·rw [h];simp;exact jv.1 (by rw [h];rfl)
     ·rw [h];simp;exact jv.1 (by rw [h];rfl)
    have hd:(s.take (p+8+N)).drop (p+8)=(s.drop (p+8)).take N:=by rw [List.drop_take];congr 1;omega
    unfold enc
    simp only
    rw [hdl,J,<-Y,<-b2,<-I,hd]
    have j:∀(q k:Nat),s.drop q=(s.drop q).take k++s.drop (q+k):=λq k=>by rw [<-gZ,List.take_append_drop]
    conv=>lhs;rw [j p 4,j (p+4) 2,show p+4+2=p+6 from rfl,j (p+6) 2,show p+6+2=p+8 from rfl,j (p+8) N,j (p+8+N) 1]
    rw [show p+(9+N)=p+8+N+1 from by omega]
    simp only [fE]
def cat (l:List F):List UInt8:=l.flatMap enc
theorem Ig:∀(f:Nat) (s:List UInt8) (p:Nat) (l:List F),rest f s p=some l->s.drop p=cat l/\∀x,x∈l->fits x
 |0,s,p,l,h=>by
  simp only [rest] at h
  split at h
  ·simp at h;subst h;simp [cat];assumption
  ·simp at h
 |f+1,s,p,l,h=>by
  rw [rest] at h
  split at h
  ·simp at h;subst h;simp [cat];assumption
  ·cases z:one s p with
   |none=>rw [z] at h;simp at h
   |some x=>
    obtain ⟨x,n⟩:=x
    rw [z] at h
    simp only at h
    obtain ⟨t,ht,rfl⟩:=aX.1 h
    obtain ⟨I,h2,_⟩:=VY z
    obtain ⟨h3,h4⟩:=Ig f s _ t ht
    refine ⟨by rw [I,h3];simp [cat],λy E=>?_⟩
    rcases bV.1 E with rfl|E
    ·exact h2
    ·exact h4 y E
theorem KO {l:List F} (h:frames s=some l):s=0::cat l/\l≠[]/\∀x,x∈l->fits x:=by
 unfold frames at h
 split at h
 ·simp at h
 ·rename_i h2
  obtain ⟨h3,h4⟩:=Ig _ _ _ _ h
  have hs:s=0::s.drop 1:=by
   cases s with
   |nil=>simp at h2
   |cons x r=>
    have:x=0:=by
     by_cases z:x=0
     ·exact z
     ·exact absurd (.inr (by simpa using z)) h2
    subst this
    rfl
  refine ⟨hs.trans (by rw [h3]),?_,h4⟩
  rintro rfl
  have:(s.drop 1).length=0:=by rw [h3];rfl
  rw [dP] at this
  omega
end
end Fr
namespace Pa
open Go Go.Conc Go.RowKit Go.Joins
open Hm (ptr jY jI jO TS kF oG AL PC PB PW lives xO wY xG takeB Dy ops2 Fits)
open Dv (U Cf Ch Tx)
open Po hiding U H B IT PR NB
open Cr (Sr)
section
variable {w':World}
def Tk (kb nb:Nat) (vu vo vw:Value) (os:List PC) (k:Nat):Prop:=k=kb\/vu.ownBlock=some k\/vw.ownBlock=some k\/Hm.Own nb vo os k
theorem zG {M:Nat->Prop} {w:World} {u:U} {E J:Value} (h:oG w u E J) (z:kF M w w') (hM:∀g,(0 < u.txs.length/\E.ownBlock=some g)\/(0 < u.logs.length/\J.ownBlock=some g)->¬M g):oG w' u E J:=
 ⟨Hm.Rd.kept h.1 z.size (λY g R I=>z.block g I (hM g (.inl ⟨Y,R⟩))),Hm.Rd.kept h.2.1 z.size (λY g R I=>z.block g I (hM g (.inr ⟨Y,R⟩))),h.2.2⟩
def Jz (u:U) (j:Nat):Int:=((u.txs[j]?.map (·.fr)).getD 0:Nat)
def Lh (u:U) (j:Nat):Int:=((u.txs[j]?.map (·.dest)).getD 0:Nat)
def YX (u:U) (j:Nat):ByteArray:=⟨((u.txs[j]?.map (·.data)).getD []).toArray⟩
def PN (c:Cf) (u:U) (j:Nat):List Fr.F:=Fr.lM c.inbox c.batcher (Jz u j) (Lh u j) (YX u j).data.toList
theorem xQ (c:Cf) (u:U) (j:Nat) (t:Tx) (h:u.txs[j]? =some t):PN c u j=Dv.qc c t:=by
 unfold PN Jz Lh YX Fr.lM Dv.qc
 rw [h]
 simp only [bQ,fB,Int.ofNat_inj]
theorem VZ (c:Cf) (u:U) (h:∀t,t∈u.txs->t.data.length<=2000) (j:Nat):(PN c u j).length<=222:=by
 cases ht:u.txs[j]? with
 |some t=>rw [xQ c u j t ht];exact Dv.yw c t (h t (aQ ht))
 |none=>
  unfold PN YX Fr.lM
  rw [ht]
  split
  ·simp [Fr.frames]
  ·simp
theorem Pq (c:Cf) (u:U) (j:Nat) (x:Fr.F) (h:x∈PN c u j):x.num < 65536/\x.data.length<=65536:=by
 unfold PN Fr.lM at h
 split at h
 ·cases z:Fr.frames (YX u j).data.toList with
  |none=>rw [z] at h;simp at h
  |some l=>
   rw [z] at h
   obtain ⟨_,h2,h3⟩:=(Fr.KO z).2.2 x h
   exact ⟨h2,by omega⟩
 ·simp at h
theorem EW:∀{l m:List Nat},l.Nodup->(∀x,x∈l->x∈m)->l.length<=m.length
 |[],_,_,_=>dF _
 |x::l,m,hn,hs=>by
  have E:=hs x dK
  obtain ⟨I,h2⟩:=iw.1 hn
  have:=EW (l:=l) (m:=m.erase x) h2 (λy z=>(List.mem_erase_of_ne (λe=>I (by rw [<-e];exact z))).2 (hs y (bT _ z)))
  rw [List.length_erase_of_mem E] at this
  have:0 < m.length:=List.length_pos_of_mem E
  rw [aN]
  omega
section
variable {w:World}
variable {kb nb:Nat} {c:Cf} {vu:Value} {us:List PB} {dl:Nat->List (List UInt8)} {vo vw:Value} {ws:List PW} {nm:AL} {os:List PC} {cnt ep sq:Nat} {u:U} {ta la:Option Addr} {tn tc ln lc:Nat}
theorem Ye (I:oG w u (.slice ta tn tc) (.slice la ln lc)) (J:∀t,t∈u.txs->t.data.length<=2000):tn=u.txs.length/\∃tb p0,Sr (λ_=>True) w ta tb p0 tn (Jz u) (Lh u) (YX u):=by
 obtain ⟨hx,_⟩:=I
 obtain ⟨_,a,cap,e,_,z⟩:=hx
 cases e
 refine ⟨rfl,?_⟩
 rcases gB u.txs.length with R|R
 ·exact ⟨0,0,λh=>by omega,λj E=>by omega,λj E=>by omega⟩
 ·obtain ⟨g,off,rfl,Y,hc⟩:=z R
  refine ⟨g,off,λ_=>⟨rfl,trivial⟩,λj E=>?_,λj E=>?_⟩<;>obtain ⟨t,ht⟩:∃t,u.txs[j]? =some t:=⟨_,aG E⟩
  ·have q:=Hm.wP.get (w:=w) (l:=u.txs) (g:=g) (off:=off) (cap:=tc) ⟨‹_›,_,_,rfl,‹_›,λ_=>⟨g,off,rfl,Y,hc⟩⟩ ht
   unfold Jz Lh YX
   rw [ht]
   exact q
  ·unfold YX
   rw [ht]
   have:=J t (aQ ht)
   show t.data.toArray.size<=_
   simp
   omega
theorem KQ (hS:TS w kb nb c vu us dl vo vw ws nm os cnt ep sq) {Y ae:Value} {ws':List PW} {ai:AL} {I:List PC} (J:TS w' kb nb c vu us dl Y ae ws' ai I cnt ep sq) (hc:kF (λj=>j=kb\/j=nb\/vw.ownBlock=some j) w w') (R:∀j,Hm.Own nb Y I j->Hm.Own nb vo os j):I.length<=os.length:=by
 have h:=EW (l:=I.map (·.blk)) (m:=os.map (·.blk)) J.ch.apart (λx hx=>?_)
 ·simpa using h
 obtain ⟨o,ho,rfl⟩:=bC.1 hx
 have E:w'.heap[o.blk]? =_:=(J.ch.chans o ho).obj
 unfold Hm.uJ at E
 have ag:o.blk≠kb:=λe=>by
  rw [e,J.d.obj] at E
  simp at E
 have ab:o.blk≠nb:=λe=>Hm.kR E J.ch.named e
 have hold:vw.ownBlock≠some o.blk->o.blk < w.heap.size->w.heap[o.blk]? =_:=λh hl=>(hc.block _ hl (by
  rintro (e|e|e)
  ·exact ag e
  ·exact ab e
  ·exact h e)).symm.trans E
 rcases R o.blk (.inr (.inr ⟨o,ho,.inl rfl⟩)) with e|e|⟨o',aa,e|e⟩
 ·exact absurd e ab
 ·exfalso
  obtain ⟨af,z⟩:=hS.ch.order.obj e
  have hv:vw.ownBlock≠some o.blk:=Hm.jH hS.d.wait z (by decide)
  rw [hold hv (jE z)] at z
  simp at z
 ·exact bC.2 ⟨o',aa,e.symm⟩
 ·exfalso
  have ac:=hS.ch.chans o' aa
  have ah:o'.ch.spoilt=false:=by
   cases hs:o'.ch.spoilt with
   |false=>rfl
   |true=>have:=(ac.spoilt hs).2;rw [e] at this;cases this
  obtain ⟨B,hB,hm⟩:=(ac.sound ah).map
  rw [e] at hB
  cases hB
  obtain ⟨es,cl,hb,_⟩:=hm
  have hv:vw.ownBlock≠some o.blk:=λq=>by
   obtain ⟨af,z⟩:=hS.d.wait.obj q
   rw [hb] at z
   cases z
  rw [hold hv (jE hb)] at hb
  cases hb
theorem TS.mark (z:TS w kb nb c vu us dl vo vw ws nm os cnt ep sq) {D:Nat} (hD:w.heap[D]? =some (.deferred (some []))):TS (w.putObj D (.deferred none)) kb nb c vu us dl vo vw ws nm os cnt ep sq:=by
 have J:∀(j:Nat) (cs:Array Value) (t:Nat) (fz:Nat×Nat),w.heap[j]? =some (.cells cs t fz)->j≠D:=λj cs t fz h e=>by
  subst e
  rw [hD] at h
  cases h
 have ab:∀(j:Nat) (q:IntKind) (m:AL),Hm.lD w j q m->j≠D:=λj q m h e=>by
  obtain ⟨es,cl,h,_⟩:=h
  subst e
  rw [hD] at h
  cases h
 have R:∀j,j≠D->(w.putObj D (.deferred none)).heap[j]? =w.heap[j]?:=λj hj=>World.putObj_heap_other hj
 have E:∀{e s n:Nat} {v:Value} {xs:List Value},Hm.Row w e s v n xs->Hm.Row (w.putObj D (.deferred none)) e s v n xs:=λhr=>hr.kept (λg hg=>R g (by
  obtain ⟨ac,Y⟩:=hr.obj hg
  exact J g _ _ _ Y))
 have aa:1≠D:=by
  obtain ⟨hc,t,fz,q,_⟩:=z.ht
  exact J _ _ _ _ q
 have I:∀i,(w.putObj D (.deferred none)).cell? ⟨1,i,none⟩=w.cell? ⟨1,i,none⟩:=λi=>by unfold World.cell?;rw [R _ aa]
 refine ⟨⟨(R _ (J _ _ _ _ z.d.obj)).trans z.d.obj,E z.d.upper,E z.d.wait,λj p hp=>E (z.d.deps j p hp),λp hp=>E (z.d.txs p hp)⟩,⟨z.ch.named.of_block (R _ (ab _ _ _ z.ch.named)),E z.ch.order,λo ho=>?_,z.ch.apart,z.ch.maps,z.ch.far,z.ch.entries⟩,⟨⟨by rw [I];exact z.hd.1.1,by rw [I];exact z.hd.1.2.1,by rw [I];exact z.hd.1.2.2⟩,⟨by rw [I];exact z.hd.2.1,by rw [I];exact z.hd.2.2.1,by rw [I];exact z.hd.2.2.2⟩⟩,by rw [R _ aa];exact z.ht⟩
 have h:=z.ch.chans o ho
 refine ⟨(R _ (J _ _ _ _ h.obj)).trans h.obj,h.fine,h.small,h.lastLt,λe=>?_,h.spoilt⟩
 have s:=h.sound e
 obtain ⟨B,hB,hm⟩:=s.map
 exact ⟨⟨B,hB,hm.of_block (R _ (ab _ _ _ hm))⟩,s.size,s.room,s.ended,s.last⟩
theorem VX (rd:Cr.ReadW) {Post:Eh} {D:Nat->Prop} {b₀:Frame} {a₀:Act} {ops:Array Oper} {i:Nat} {rest:List Nat} {k:List Item} {Z A:List Frame} {o:Oper} {x y:Operand} {ck:Array TypeId} (ho:ops[i]? =some o) (hw:Region.wanted o (yielded ops a₀.tmps)=true)
  (cm:o.op=.call { callee:=.value (.func 39),args:=#[x,y],argTypes:=ck }) (ex:a₀.eval x=ptr kb) (ey:a₀.eval y=.agg #[.int .i64 u.id,.int .i64 u.time,.slice ta tn tc,.slice la ln lc])
  (c1:Tryz.prog.globals.size<=w.heap.size) (hS:TS w kb nb c vu us dl vo vw ws nm os cnt ep sq) (co:oG w u (.slice ta tn tc) (.slice la ln lc))
  (ah:∀g,(0 < u.txs.length/\(Value.slice ta tn tc).ownBlock=some g)\/(0 < u.logs.length/\(Value.slice la ln lc).ownBlock=some g)->g < w.heap.size/\¬Tk kb nb vu vo vw os g)
  (z:Dv.small u=true) (bh:Dv.jQ c=true) (di:us.length<=60) (c4:os.length<=1000000) (bu:Fits c.most (lives nm os)) (cu:ws.length+4096 * (lives nm os).length<=2000000000)
  (ay:∀D' w' b1 v3 bp br ak ar E,TS w' kb nb c b1 (us++[(u.id,u.time,v3)]) (Vw dl us.length u) bp br (ws++ak) ar E cnt ep sq->kF (Tk kb nb vu vo vw os) w w'->(∀j,Tk kb nb b1 bp br E j->Tk kb nb vu vo vw os j\/w.heap.size<=j)->E.length<=os.length+4440->Fits c.most (lives ar E)->(lives ar E,(ws++ak).map Prod.fst)=Dv.take c u us.length (lives nm os) (ws.map Prod.fst)->
   Wq D' Post Z (b₀.at (a₀.put o.dst (.tuple #[])) (.inRegion ops rest::k)) A w'):
  Wq D Post Z (b₀.at a₀ (.inRegion ops (i::rest)::k)) A w:=by
 obtain ⟨dh,dj,bm,cb⟩:=Dv.yt z
 have dg:1<=c.timeout/\c.timeout<=8/\1<=c.window/\c.window<=8/\0<=c.drift/\c.drift<=100/\2<=c.step/\c.step<=20/\1<=c.most/\c.most<=4096:=by
  unfold Dv.jQ at bh
  exact of_decide_eq_true bh
 refine Wq.call ho hw cm (fq Tryz.func39 rfl) rfl OA ?_
 simp only [fJ,dW,fG,ex,ey,show Tryz.f39.ntmps=93 from rfl,dL,aN,bM,Nat.reduceAdd,Nat.reduceSub,cO,bZ,dN,cZ,dM,dH]
 refine OM (u:=u) hS rfl ?_
 intro a1 w1 cc am ba
 have bx:=hS.kept am (λ_ _ e=>e)
 have an:=zG co am (λ_ _ e=>e)
 refine WJ bx cc ba an (λx hx=>by have:=cb x hx;omega) (by omega) ?_
 intro a2 w2 b3 v3 b5 bv af ap
 have bq:=ba.jR af (λj cs t fz h ht=>bx.WB h (by rcases ht with rfl|rfl|rfl<;>decide) (by rcases ht with rfl|rfl|rfl<;>decide))
 have bj:=zG an af (λg hg=>by
  rintro (e|e)
  ·exact (ah g hg).2 (.inl e)
  ·exact (ah g hg).2 (.inr (.inl e)))
 refine Rz (c0:=us.length) bv b5 bq (by omega) (by omega) (by omega) ?_
 intro a3 w3 b9 a7 aj ce bb ag av ct Y
 have au:=bq.jR ag (λj cs t fz h ht=>bv.GY h (by rcases ht with rfl|rfl|rfl<;>decide) (by rcases ht with rfl|rfl|rfl<;>decide) (by rcases ht with rfl|rfl|rfl<;>decide))
 have bk:=zG bj ag (λg hg=>by
  rintro (e|e)
  ·exact (ah g hg).2 (.inl e)
  ·exact (ah g hg).2 (.inr (.inr (.inr e))))
 have s1:=am.size
 have s2:=af.size
 have s3:=ag.size
 refine Wq.seq (Wq.seq ?_)
 obtain ⟨de,bg⟩:=O5
 rw [bg]
 obtain ⟨bs,tb,p0,cd⟩:=Ye bk bm
 refine Xr (u:=u) (c:=c) (fs:=PN c u) rd ce au.h2 au.h3 bb.d.obj (by omega) (by omega) cd (λ_ _=>rfl) ?_
 intro a4 w4 D4 cl cq ca cf hF
 have ae:kF (λ_=>False) w3 w4:=⟨by have:=hF.size;omega,λj R _=>hF.old j R⟩
 have s4:=ae.size
 have bw:=bb.kept ae (λ_ _ e=>e)
 have bn:=au.jR ae (λ_ _ _ _ _ _ e=>e)
 obtain ⟨vs,a9,bl,az⟩:=hF.rows
 have ac:Hm.lq (PN c u) tn=Dv.heard c u.txs:=by rw [bs];exact Hm.JC c u.txs (PN c u) (xQ c u)
 have cy:(Hm.lq (PN c u) tn).length<=4440:=by rw [ac];exact Dv.yL c z
 refine WQ (c0:=us.length) (C:=w3.heap.size+1) (m:=tn) (vs:=vs) (fs:=PN c u) bw cl bn cq ca cf a9 bl (λi hi=>?rows) (λi f _ hf=>Pq c u i f hf) (by omega) (λi=>by have:=VZ c u bm i;omega) (by omega) (by omega) ?_
 case rows=>
  obtain ⟨v,h1,h2⟩:=az i hi
  refine ⟨v,h1,h2.imp id ?_⟩
  rintro ⟨g,cap,b4,r1,_,r2,r3,_,_,r4⟩
  exact ⟨g,cap,b4,r1,r2,r3,r4⟩
 intro a5 w5 b8 ai I cn bd a8 a0 cw ab
 have cg:=bn.jR a8 (λj cs t fz h ht=>bw.GY h (by rcases ht with rfl|rfl|rfl<;>decide) (by rcases ht with rfl|rfl|rfl<;>decide) (by rcases ht with rfl|rfl|rfl<;>decide))
 have s5:=a8.size
 have aw:Fits c.most (lives a7 aj):=by rw [Y];exact Hm.IG bu _
 have aa:Fits c.most (lives ai I):=by rw [ab];exact Hm.Y4 (by omega) _ aw
 have cx:(lives a7 aj).length<=(lives nm os).length:=by rw [Y];exact gU _ _
 have cr:(lives ai I).length<=(lives nm os).length+4440:=by
  rw [ab]
  have:=Dv.rX c.most us.length (Hm.lq (PN c u) tn) (lives a7 aj)
  omega
 have db:=Dv.BK (lives ai I)
 refine Qi (c0:=us.length) bd cn cg (by omega) (λs hs=>by have:=(Hm.x9 aa).1 s hs;omega) (by omega) ?_
 intro a6 w6 dd ci b2 ak cj b6 b7 hD c9 bz ax J aq cv ao bo
 have s6:=ax.size
 have cp:=KQ bd bz ax J
 refine Wq.fin λtodo=>Wq.takes (b:=dd) (ds:=[]) rfl b7 hD ?_
 refine Wq.leave (v:=.tuple #[]) (fn:=Tryz.f39) rfl rfl rfl (fq Tryz.func39 rfl) (λw=>by simp [results,Tryz.results39,go_sem]) ?_
 rw [fF,ho]
 have b0:∀j,j < w.heap.size->(w6.putObj dd (.deferred none)).heap[j]? =w6.heap[j]?:=λj R=>World.putObj_heap_other (by omega)
 have cz:(w6.putObj dd (.deferred none)).heap.size=w6.heap.size:=World.putObj_size
 have g3:∀j,Hm.Own nb b9 aj j->Hm.Own nb vo os j\/w.heap.size<=j:=λj R=>(av j R).imp id (λq=>by omega)
 have g5:∀j,Hm.Own nb b8 I j->Hm.Own nb vo os j\/w.heap.size<=j:=λj R=>by
  rcases a0 j R with q|q
  ·exact g3 j q
  ·exact .inr (by omega)
 refine ay D4 (w6.putObj dd (.deferred none)) b3 v3 ci b2 ak cj b6 (TS.mark bz hD) ⟨by omega,λj R hn=>?jR⟩ (λj R=>?own) (by omega) (by rw [ao];exact (Hm.x9 aa).2) ?take
 case jR=>
  rw [b0 j R,ax.block j (by omega) ?c6,a8.block j (by omega) ?c5,ae.block j (by omega) (λe=>e),ag.block j (by omega) ?c3,af.block j (by omega) ?c2,am.block j R (λe=>e)]
  case c6=>
   rintro (e|e|e)
   ·exact hn (.inl e)
   ·rw [e] at hn;exact hn (.inr (.inr (.inr (.inl rfl))))
   ·exact hn (.inr (.inr (.inl e)))
  case c5=>
   rintro (e|e)
   ·exact hn (.inl e)
   ·rcases g3 j e with q|q
    ·exact hn (.inr (.inr (.inr q)))
    ·omega
  case c3=>
   rintro (e|e)
   ·exact hn (.inl e)
   ·exact hn (.inr (.inr (.inr e)))
  case c2=>
   rintro (e|e)
   ·exact hn (.inl e)
   ·exact hn (.inr (.inl e))
 case own=>
  rcases R with q|q|q|q
  ·exact .inl (.inl q)
  ·rcases ap j q with r|r
   ·exact .inl (.inr (.inl r))
   ·exact .inr (by omega)
  ·rcases aq j q with r|r
   ·exact .inl (.inr (.inr (.inl r)))
   ·exact .inr (by omega)
  ·rcases g5 j (J j q) with r|r
   ·exact .inl (.inr (.inr (.inr r)))
   ·exact .inr r
 case take=>
  rw [Hm.Ro c u us.length (lives nm os) (ws.map Prod.fst) (PN c u) (xQ c u) (lives ai I) (by rw [ab,Y,bs]),ao,aY,bo]
end
end
end Pa
end Go.Proofs.YtpibpdpedjinhaaGreatDoor
