import Derived.Test.YtpibpdpedjinhaaGreatDoorP31
set_option maxRecDepth 100000
set_option maxHeartbeats 2000000
set_option linter.unusedSimpArgs false
namespace Go.Proofs.YtpibpdpedjinhaaGreatDoor
namespace Hm
open Dv (U Cf Ba Ch Tx)
open Fr (F)
section
variable {most:Int}{cs:List Ch}
theorem expired(c:Cf)(n:Nat)(cs:List Ch):cs.filter (λx=>!decide ((x.opened:Int)<n-c.timeout))=cs.filter (λx=>decide ((n:Int)-(x.opened:Int)<=c.timeout)):=by
 refine List.filter_congr (λx _=>?_);rw[Bool.eq_iff_iff];simp only[Bool.not_eq_true',decide_eq_false_iff_not,decide_eq_true_eq];omega
theorem Ar{α:Type}:∀(l:List (List α))(fs:Nat->List α),(∀j x,l[j]? =some x->fs j=x)->(List.range l.length).flatMap fs=l.flatten
 |[],_,_=>rfl
 |x::l,fs,h=>by
  have E:=Ar l (λj=>fs (j+1)) (λj y z=>h (j+1) y (by simpa using z));rw[aN,List.range_succ_eq_map,gQ,List.flatMap_map,h 0 x (by simp),List.flatten_cons]
  congr 1
theorem JU(c:Cf)(txs:List Tx)(fs:Nat->List F)(z:∀j t,txs[j]? =some t->fs j=Dv.mG c t):kY fs txs.length=Dv.heard c txs:=by
 unfold kY Dv.heard
 have:=Ar (txs.map (Dv.mG c)) fs (λj x E=>by
  rw[eX,aX]at E;obtain⟨t,ht,rfl⟩:=E;exact z j t ht)
 rw[aU]at this;rw[this,List.flatMap]
theorem Sl(c:Cf)(u:U)(n:Nat)(cs:List Ch)(wait:List Ba)(fs:Nat->List F)(E:∀j t,u.txs[j]? =some t->fs j=Dv.mG c t)(l2:List Ch)(z:l2=(kY fs u.txs.length).foldl (Dv.frame c.most n) (cs.filter (λx=>!decide ((x.opened:Int)<n-c.timeout)))):
  Dv.take c u n cs wait=((Dv.pull l2).2,wait++(Dv.pull l2).1.flatMap (λs=>Dv.reads s n)):=by
 rw[z,JU c u.txs fs E,expired];rfl
theorem oq(x:F)(l:List F):Dv.size (x::l)=x.data.length+Dv.size l:=by simp[Dv.size]
theorem BM(k:Nat):∀l:List F,Dv.size (l.filter (λx=>decide (x.num<k+1)))=Dv.size (l.filter (λx=>decide (x.num<k)))+Dv.size (l.filter (λx=>x.num == k))
 |[]=>rfl
 |x::l=>by
  have z:=BM k l;by_cases E:x.num<k
  ·have h2:x.num<k+1:=by omega
   have h3:(x.num == k)=false:=by simp;omega
   simp only[dU,E,h2,h3,decide_true,if_true,bJ,if_false,oq,z];omega
  ·by_cases h2:x.num=k
   ·have h3:(x.num == k)=true:=by simp[h2]
    have h4:x.num<k+1:=by omega
    simp only[dU,E,h4,h3,decide_true,decide_false,if_true,bJ,if_false,oq,z];omega
   ·have h3:(x.num == k)=false:=by simp[h2]
    have h4:¬x.num<k+1:=by omega
    simp only[dU,E,h4,h3,decide_false,bJ,if_false,z]
theorem Uf(k:Nat){d:List UInt8}:∀l:List F,Dv.has l k=some d->d.length<=Dv.size (l.filter (λx=>x.num == k))
 |[],h=>by simp[Dv.has]at h
 |x::l,h=>by
  by_cases z:(x.num == k)=true
  ·unfold Dv.has at h;rw[List.find?_cons_of_pos (by simpa using z)]at h;simp at h;rw[List.filter_cons_of_pos (by simpa using z),oq,<-h];omega
  ·have E:=Uf k (d:=d) l (by
    unfold Dv.has at h⊢;rw[List.find?_cons_of_neg (by simpa using z)]at h;exact h)
   rw[List.filter_cons_of_neg (by simpa using z)];exact E
theorem IY(l:List F):∀(k:Nat)(s:List UInt8),Dv.qX l k=some s->s.length<=Dv.size (l.filter (λx=>decide (x.num<k)))
 |0,s,h=>by
  simp[Dv.qX]at h;rw[h];simp
 |k+1,s,h=>by
  rw[Dv.qX,Option.bind_eq_some_iff]at h;obtain⟨s',z,h2⟩:=h;rw[aX]at h2;obtain⟨d,h3,rfl⟩:=h2;have E:=IY l k s' z;have I:=Uf k l h3;rw[BM,aJ];omega
theorem zD(p:F->Bool):∀l:List F,Dv.size (l.filter p)<=Dv.size l
 |[]=>jA
 |x::l=>by
  have z:=zD p l;rw[dU];split
  ·rw[oq,oq];omega
  ·rw[oq];omega
theorem U7{l:List F}{s:List UInt8}(h:Dv.bytes l=some s):s.length<=Dv.size l:=by
 unfold Dv.bytes at h;rw[Option.bind_eq_some_iff]at h;obtain⟨n,_,h⟩:=h;exact aW (IY l _ s h) (zD _ l)
def Fits(most:Int)(cs:List Ch):Prop:=∀c,c∈cs->(Dv.size c.l:Int)<=most
theorem zq(z:0<=most){c:Ch}{f:F}(h:(Dv.size c.l:Int)<=most):(Dv.size (Dv.joined most c f).l:Int)<=most:=by
 unfold Dv.joined;split
 ·exact h
 ·split
  ·exact z
  ·rename_i h2;simp only;omega
theorem Mc(I:0<=most){n:Nat}{f:F}(h:Fits most cs):Fits most (Dv.frame most n cs f):=by
 intro c z;unfold Dv.frame at z;split at z
 ·rcases dG.1 z with z|z
  ·exact h c (fK.1 z).1
  ·rw[dD.1 z];exact zq I I
 ·obtain⟨J,E,rfl⟩:=bC.1 z;split
  ·exact zq I (h J E)
  ·exact h J E
theorem Eu{most:Int}(z:0<=most){n:Nat}:∀(l:List F){cs:List Ch},Fits most cs->Fits most (l.foldl (Dv.frame most n) cs)
 |[],_,h=>h
 |_::l,_,h=>Eu z l (Mc z h)
theorem I7(h:Fits most cs)(p:Ch->Bool):Fits most (cs.filter p):=λc z=>h c (fK.1 z).1
theorem yS{most:Int}:∀{cs:List Ch},Fits most cs->(∀s,s∈(Dv.pull cs).1->(s.length:Int)<=most)/\Fits most (Dv.pull cs).2
 |[],_=>⟨λs hs=>by simp[Dv.pull]at hs,λc I=>by simp[Dv.pull]at I⟩
 |c::cs,h=>by
  have z:=yS (cs:=cs) (λx J=>h x (bT _ J));rw[Dv.pull];split
  ·exact⟨λs hs=>by simp at hs,h⟩
  ·rename_i s E;refine⟨λt ht=>?_,z.2⟩;rcases bV.1 ht with rfl|ht
   ·have:=U7 E;have:=h c dK;omega
   ·exact z.1 t ht
end
open Go.RowKit Go.Joins Go.Shelf
open Dv (U Cf Ba Ch)
section
variable {M:Nat->Prop}{k t:Nat}{cs:Array Value}{fz:Nat×Nat}{vo':Value}{nm':AL}{os':List PC}
structure TS(w:World)(kb nb:Nat)(c:Cf)(vu:Value)(us:List PB)(dl:Nat->List (List UInt8))(vo vw:Value)(ws:List PW)(nm:AL)(os:List PC)(cnt ep sq:Nat):Prop where
 d:qJ w kb c vu us dl nb vo vw ws cnt ep sq
 ch:Chs w nb vo nm os
 hd:kQ w
 ht:∃hc t fz,w.heap[1]? =some (.cells hc t fz)/\t≠137/\t≠150/\t≠139/\t≠197/\t≠201
section
variable {w w':World}{kb nb:Nat}{c:Cf}{vu:Value}{us:List PB}{dl:Nat->List (List UInt8)}{vo vw:Value}{ws:List PW}{nm:AL}{os:List PC}{cnt ep sq:Nat}
theorem TS.heap(h:TS w kb nb c vu us dl vo vw ws nm os cnt ep sq)(q:w'.heap=w.heap):TS w' kb nb c vu us dl vo vw ws nm os cnt ep sq:=⟨h.d.heap q,h.ch.heap q,kQ.heap h.hd q,by rw[q];exact h.ht⟩
theorem ng(hd:kQ w)(E:jZ M w w')(z:¬M 1):kQ w':=by
 have e:∀(i:Nat),w'.cell? ⟨1,i,none⟩=w.cell? ⟨1,i,none⟩:=λi=>by
  unfold World.cell?;rw[E.block _ hd.pos z]
 exact⟨⟨by rw[e];exact hd.1.1,by rw[e];exact hd.1.2.1,by rw[e];exact hd.1.2.2⟩,⟨by rw[e];exact hd.2.1,by rw[e];exact hd.2.2.1,by rw[e];exact hd.2.2.2⟩⟩
theorem TS.kept(h:TS w kb nb c vu us dl vo vw ws nm os cnt ep sq)(I:jZ M w w')(z:∀k,k<w.heap.size->¬M k):TS w' kb nb c vu us dl vo vw ws nm os cnt ep sq:=by
 obtain⟨v,R,J⟩:=(I.mono (M':=λ_=>False) (λk hk e=>z k hk e)).fake;obtain⟨E,t,fz,Y,q2⟩:=h.ht;exact⟨(h.d.below R.IV).heap J.symm,(h.ch.below R.IV).heap J.symm,ng h.hd I (z _ h.hd.pos),E,t,fz,(I.block _ h.hd.pos (z _ h.hd.pos)).trans Y,q2⟩
theorem TS.below(h:TS w kb nb c vu us dl vo vw ws nm os cnt ep sq)(z:Below w.heap.size w w'):TS w' kb nb c vu us dl vo vw ws nm os cnt ep sq:=h.kept (M:=λ_=>False) (jJ.below z jA _).h (λ_ _ e=>e)
theorem TS.Ih(h:TS w kb nb c vu us dl vo vw ws nm os cnt ep sq)(hk:w.heap[k]? =some (.cells cs t fz))(t1:t≠137)(t2:t≠197)(t3:t≠201):¬(k=kb\/Own nb vo os k):=by
 rintro(rfl|e)
 ·rw[h.d.obj]at hk;simp at hk;exact t1 hk.2.1.symm
 ·exact h.ch.kU hk t2 t3 e
theorem TS.aah(h:TS w kb nb c vu us dl vo vw ws nm os cnt ep sq)(hk:w.heap[k]? =some (.cells cs t fz))(t1:t≠137)(t2:t≠150):¬(k=kb\/k=nb\/vw.ownBlock=some k):=by
 rintro(rfl|rfl|e)
 ·rw[h.d.obj]at hk;simp at hk;exact t1 hk.2.1.symm
 ·exact kN hk h.ch.named rfl
 ·exact jF h.d.wait hk t2 e
theorem TS.Xj(h:TS w kb nb c vu us dl vo vw ws nm os cnt ep sq)(hk:w.heap[k]? =some (.cells cs t fz))(t1:t≠137)(t2:t≠139):¬(k=kb\/vu.ownBlock=some k):=by
 rintro(rfl|e)
 ·rw[h.d.obj]at hk;simp at hk;exact t1 hk.2.1.symm
 ·exact jF h.d.upper hk t2 e
theorem TS.chans(h:TS w kb nb c vu us dl vo vw ws nm os cnt ep sq)(E:w'.heap[kb]? =some (.cells ((jK c vu nb vo vw cnt ep sq).setIfInBounds 9 vo') 137 (0,0)))(ab:Chs w' nb vo' nm' os')(hc:jZ (λk=>k=kb\/Own nb vo os k) w w'):TS w' kb nb c vu us dl vo' vw ws nm' os' cnt ep sq:=by
 obtain⟨aa,t,fz,R,q2,q3,q4,Y,J⟩:=h.ht
 have z:∀{e s n:Nat}{v:Value}{xs:List Value},Row w e s v n xs->e≠137->e≠197->e≠201->Row w' e s v n xs:=λhr t1 t2 t3=>hr.kept (λg hg=>hc.block g (hr.lt hg) (by
  obtain⟨ac,I⟩:=hr.obj hg;exact h.Ih I t1 t2 t3))
 refine⟨⟨?_,z h.d.upper (by decide) (by decide) (by decide),z h.d.wait (by decide) (by decide) (by decide),λj p hp=>z (h.d.deps j p hp) (by decide) (by decide) (by decide),λp hp=>z (h.d.txs p hp) (by decide) (by decide) (by decide)⟩,ab,ng h.hd hc (h.Ih R q2 Y J),aa,t,fz,(hc.block _ h.hd.pos (h.Ih R q2 Y J)).trans R,q2,q3,q4,Y,J⟩;rw[E];rfl
theorem TS.took(h:TS w kb nb c vu us dl vo vw ws nm os cnt ep sq)(ht:AU kb nb (jK c vu nb vo vw cnt ep sq) vo os w vo' nm' os' w'):TS w' kb nb c vu us dl vo' vw ws nm' os' cnt ep sq:=h.chans ht.obj ht.chs ht.jO.h
theorem TS.bi(h:TS w kb nb c vu us dl vo vw ws nm os cnt ep sq){l:List Ch}{m:Nat}(ht:BI kb nb w (jK c vu nb vo vw cnt ep sq) vo os l m w' vo' nm' os'):TS w' kb nb c vu us dl vo' vw ws nm' os' cnt ep sq:=h.chans ht.obj ht.chs ht.jO.h
theorem TS.pulled(h:TS w kb nb c vu us dl vo vw ws nm os cnt ep sq){n:Nat}{l0:List Ch}{J:List (List UInt8)}{Y E:Value}{I:List PW}{cs':Array Value}(ht:TI kb nb n w (jK c vu nb vo vw cnt ep sq) vw ws J w' Y E I){B:Nat->Prop}(hp:PS kb nb B l0 J w' cs' vo' nm' os'):TS w' kb nb c vu us dl vo' E (ws++I) nm' os' cnt ep sq:=by
 have hc:=ht.jO.h;obtain⟨aa,t,fz,q1,q2,q3,q4,q5,q6⟩:=h.ht
 have z:∀{e s n:Nat}{v:Value}{xs:List Value},Row w e s v n xs->e≠137->e≠150->Row w' e s v n xs:=λhr t1 t2=>hr.kept (λg hg=>hc.block g (hr.lt hg) (by
  obtain⟨ab,R⟩:=hr.obj hg;exact h.aah R t1 t2))
 have e9:Y=vo':=by
  have h1:=ht.obj;rw[hp.obj]at h1;simp only[aC,Obj.cells.injEq,and_true]at h1;have h2:=hp.order;rw[h1]at h2;have h3:(((jK c vu nb vo vw cnt ep sq).setIfInBounds 9 Y).setIfInBounds 10 E)[9]? =some Y:=rfl;rw[h3]at h2;exact eP h2
 subst e9;refine⟨⟨?_,z h.d.upper (by decide) (by decide),ht.row,λj p hp=>z (h.d.deps j p hp) (by decide) (by decide),ht.txs⟩,hp.chs,ng h.hd hc (h.aah q1 q2 q3),aa,t,fz,(hc.block _ h.hd.pos (h.aah q1 q2 q3)).trans q1,q2,q3,q4,q5,q6⟩;rw[ht.obj];rfl
theorem TS.more(h:TS w kb nb c vu us dl vo vw ws nm os cnt ep sq){u:U}{da:Option Addr}{dc:Nat}{w6 w1:World}{g off cap:Nat}(hb:Below w.heap.size w w6)(hm:Made w6 w.heap.size (.slice da (Dv.jL u).length dc) (Dv.jL u))(J:Row w1 139 3 (.slice (some ⟨g,off,none⟩) (us.length+1) cap) (us.length+1) (us.flatMap qc++[.int .i64 u.id,.int .i64 u.time,.slice da (Dv.jL u).length dc]))
  (hg:Grew vu g (w6.alloc (.cells #[.int .i64 u.id,.int .i64 u.time,.slice da (Dv.jL u).length dc] 139)) w1):
  TS (w1.setCell ⟨kb,7,none⟩ (.slice (some ⟨g,off,none⟩) (us.length+1) cap)) kb nb c (.slice (some ⟨g,off,none⟩) (us.length+1) cap) (us++[(u.id,u.time,.slice da (Dv.jL u).length dc)]) (λj=>if j=us.length then Dv.jL u else dl j) vo vw ws nm os cnt ep sq/\jJ (λk=>k=kb\/vu.ownBlock=some k) w (w1.setCell ⟨kb,7,none⟩ (.slice (some ⟨g,off,none⟩) (us.length+1) cap)):=by
 have c1:jJ (λk=>vu.ownBlock=some k) w6 w1:=(jJ.alloc _ _ _).trans hg.jO (λ_ _ e=>e);have c2:jJ (λk=>vu.ownBlock=some k) w w1:=(jJ.below hb jA _).trans c1 (λ_ _ e=>e);have ae:=(jC h.d.obj)
 have c3:jJ (λk=>k=kb\/vu.ownBlock=some k) w6 (w1.setCell ⟨kb,7,none⟩ (.slice (some ⟨g,off,none⟩) (us.length+1) cap)):=(c1.mono (λ_ _ e=>.inr e)).trans (.set _ _ _ _) (λ_ _ e=>.inl e);have c4:jJ (λk=>k=kb\/vu.ownBlock=some k) w (w1.setCell ⟨kb,7,none⟩ (.slice (some ⟨g,off,none⟩) (us.length+1) cap)):=(jJ.below hb jA _).trans c3 (λ_ _ e=>e);obtain⟨ac,t,fz,q1,q2,q3,q4,q5,q6⟩:=h.ht;have I:=h.below hb
 have E:∀{e s n:Nat}{v:Value}{xs:List Value},Row w6 e s v n xs->e≠137->e≠139->Row (w1.setCell ⟨kb,7,none⟩ (.slice (some ⟨g,off,none⟩) (us.length+1) cap)) e s v n xs:=λJ t1 t2=>J.kept (λg hg=>c3.block g (J.lt hg) (by
  obtain⟨Y,z⟩:=J.obj hg;exact I.Xj z t1 t2))
 have aa:w1.heap[kb]? =some (.cells (jK c vu nb vo vw cnt ep sq) 137 (0,0)):=(c2.block kb ae (jF h.d.upper h.d.obj (by decide))).trans h.d.obj
 have ab:g≠kb:=by
  obtain⟨Y,z⟩:=J.obj (g:=g) rfl;intro e;subst e;rw[aa]at z;simp at z
 refine⟨⟨⟨?_,?_,E I.d.wait (by decide) (by decide),λj p hp=>?_,λp hp=>E (I.d.txs p hp) (by decide) (by decide)⟩,?_,ng h.hd c4.h (h.Xj q1 q2 q4),ac,t,fz,(c4.block _ h.hd.pos (h.Xj q1 q2 q4)).trans q1,q2,q3,q4,q5,q6⟩,c4⟩
 ·rw[block_setCell aa];rfl
 ·rw[aJ,iy,gX]
  exact J.kept (λg' R=>by
   simp only[Value.ownBlock,aC]at R;subst R;exact aP _ _ _ _ ab)
 ·by_cases hj:j=us.length
  ·subst hj;rw[bK jA,Nat.sub_self]at hp;simp at hp;subst hp;rw[if_pos rfl];exact E hm.1 (by decide) (by decide)
  ·rw[if_neg hj];have hl:=(aF.1 hp).1;rw[aJ,iy]at hl;rw[bP (by omega)]at hp;exact E (I.d.deps j p hp) (by decide) (by decide)
 ·refine I.ch.jO c3 (λk hk=>?_);rintro(rfl|e)
  ·exact I.ch.kU I.d.obj (by decide) (by decide) hk
  ·obtain⟨Y,z⟩:=I.d.upper.obj e;exact I.ch.kU z (by decide) (by decide) hk
end
end
theorem E5{α:Type}{l:List α}{n:Nat}(h:l.length=n+1):∃x r,l=x::r/\r.length=n:=by
 cases l with
 |nil=>simp at h
 |cons x r=>exact⟨x,r,rfl,by simpa using h⟩
theorem Sr{t:Array Value}(h:t.size=93):∃u0 u1 u2 u3 u4 u5 u6 u7 u8 u9 av b8 ar bg b5 bn ae bx af ak aw cd aj ah bm R b6 b7 cf Y ce bj cl a9 ay b0 ca ba bq bd b2 br a2 b4 bv b1 bp ab an au a7 a0 E a8 cn bh bb cg az cm a6 b9 b3 cj cp bs bk cc ax ac ci ap ag a3 bo I bl a5 aa ai bz ao z ck am co a1 aq a4 bw bu cb J,t=#[u0,u1,u2,u3,u4,u5,u6,u7,u8,u9,av,b8,ar,bg,b5,bn,ae,bx,af,ak,aw,cd,aj,ah,bm,R,b6,b7,cf,Y,ce,bj,cl,a9,ay,b0,ca,ba,bq,bd,b2,br,a2,b4,bv,b1,bp,ab,an,au,a7,a0,E,a8,cn,bh,bb,cg,az,cm,a6,b9,b3,cj,cp,bs,bk,cc,ax,ac,ci,ap,ag,a3,bo,I,bl,a5,aa,ai,bz,ao,z,ck,am,co,a1,aq,a4,bw,bu,cb,J]:=by
 obtain⟨l⟩:=t;replace h:l.length=93:=h
 iterate 93 (obtain⟨_,l,rfl,h'⟩:=E5 h;clear h;have h:=h';clear h')
 obtain rfl:=List.length_eq_zero_iff.1 h;exact⟨_,_,_,_,_,_,_,_,_,_,_,_,_,_,_,_,_,_,_,_,_,_,_,_,_,_,_,_,_,_,_,_,_,_,_,_,_,_,_,_,_,_,_,_,_,_,_,_,_,_,_,_,_,_,_,_,_,_,_,_,_,_,_,_,_,_,_,_,_,_,_,_,_,_,_,_,_,_,_,_,_,_,_,_,_,_,_,_,_,_,_,_,_,rfl⟩
end Hm
namespace Pa
open Go Go.Conc Go.RowKit Go.Joins
open Hm (ptr jW jG jK TS jZ oC AL PC PB PW lives yK xZ yD takeB Eh ops2 Fits)
open Dv (U Cf Ch)
open Po hiding U H B IT PR NB
section
noncomputable def ops4:Array Oper:=match Tryz.f39.body with
 |some (.seq _ (.seq _ (.seq _ (.seq _ (.seq (.seq (.region _ ops _) _) _)))))=>ops
 |_=>#[]
noncomputable def MB:Code:=match Tryz.f39.body with
 |some (.seq _ (.seq _ (.seq c _)))=>c
 |_=>.skip
noncomputable def Rq:Code:=match Tryz.f39.body with
 |some (.seq _ (.seq _ (.seq _ (.seq _ (.seq (.seq c _) _)))))=>c
 |_=>.skip
theorem O9:Tryz.f39.body=some (.seq yK (.seq xZ (.seq MB (.seq yD (.seq (.seq Rq takeB) Eh))))):=by kernel_rfl
theorem PG:∃z,MB=.region z ops2 true:=⟨_,rfl⟩
theorem P5:∃z,Rq=.region z ops4 true:=⟨_,rfl⟩
structure SA(a:Act)(b2 b3 b4:Nat):Prop where
 sz:a.tmps.size=93
 df:a.defers=[]
 t2:a.tmps[2]? =some (ptr b2)
 t3:a.tmps[3]? =some (ptr b3)
 t4:a.tmps[4]? =some (ptr b4)
structure TB(w:World)(b2 b3 b4 kb n:Nat)(u:U)(vt vl:Value):Prop where
 h2:w.heap[b2]? =some (.cells #[ptr kb] 93 (0,0))
 h3:w.heap[b3]? =some (.cells #[.int .i64 u.id,.int .i64 u.time,vt,vl] 42 (0,0))
 h4:w.heap[b4]? =some (.cells #[.int .i64 n] 3 (0,0))
section
variable {w w':World}
variable {kb:Nat}{u:U}{vt vl:Value}{b2 b3 b4 n:Nat}
theorem TB.jO{M:Nat->Prop}(h:TB w b2 b3 b4 kb n u vt vl)(E:jZ M w w')(z:∀(j:Nat)(cs:Array Value)(t:Nat)(I:Nat×Nat),w.heap[j]? =some (.cells cs t I)->t=93\/t=42\/t=3->¬M j):TB w' b2 b3 b4 kb n u vt vl:=
 ⟨(E.block _ (jC h.h2) (z _ _ _ _ h.h2 (.inl rfl))).trans h.h2,(E.block _ (jC h.h3) (z _ _ _ _ h.h3 (.inr (.inl rfl)))).trans h.h3,(E.block _ (jC h.h4) (z _ _ _ _ h.h4 (.inr (.inr rfl)))).trans h.h4⟩
end
end
open Hm (ptr jG jK)
open Dv (U Cf)
open Cr (Fill Tz)
section
def Zl(kb b3 s:Nat)(c:Cf)(tx:Option Addr)(n cap:Nat)(i:Nat):Value:=(#[ptr kb,ptr kb,ptr kb,.agg (jG c),.pointer (some ⟨b3,2,none⟩),.slice tx n cap,.slice (some ⟨s+1,0,none⟩) n n,.int .i64 n,.int .i64 0]:Array Value).getD i undef
section
variable {Post:EO}{D:Nat->Prop}{w:World}{b:Frame}{a:Act}{k:List Item}{Z A:List Frame}
variable {kb nb:Nat}{c:Cf}{vu vo vw vl:Value}{cnt ep sq:Nat}{u:U}{b2 b3 b4:Nat}{tx:Option Addr}{n cap:Nat}{fs:Nat->List Fr.F}
theorem ZP:Cr.fills 93 ops4=true:=by kernel_rfl
theorem X9(rd:Cr.ReadW){ac:Nat}(hA:SA a b2 b3 b4)(h2:w.heap[b2]? =some (.cells #[ptr kb] 93 (0,0)))(h3:w.heap[b3]? =some (.cells #[.int .i64 u.id,.int .i64 u.time,.slice tx n cap,vl] 42 (0,0)))(hk:w.heap[kb]? =some (.cells (jK c vu nb vo vw cnt ep sq) 137 (0,0)))
  (hn:n<=16777216) (af:Tryz.prog.globals.size<=w.heap.size) {tb p0:Nat} {fr ad:Nat->Int} {data:Nat->ByteArray} (hx:Tz (λ_=>True) w tx tb p0 n fr ad data) (ae:∀j,j<n->fs j=Fr.lQ c.inbox c.batcher (fr j) (ad j) (data j).data.toList)
  (hQ:∀a' w' D',SA a' b2 b3 b4->a'.tmps[44]? =some (.slice (some ⟨w.heap.size+1,0,none⟩) n n)->a'.tmps[45]? =some (.int .i64 n)->a'.tmps[46]? =some (.int .i64 0)->Bc w n fs w'->Wq D' Post Z (b.at a' k) A w'):
  Wq D Post Z (b.at a (.code (.region ac ops4 true)::k)) A w:=by
 refine Wq.fill (τ:=Unit) (λ_=>Zl kb b3 w.heap.size c tx n cap) (λl v D1 _=>(l.getD 6 false=false->v=w/\D1=D)/\(l.getD 6 false=true->Bc w n fs v)) (by rw[hA.sz];exact ZP) (λl a' v D1 _ hl R hJ=>?_) (λl a' v D1 _ i o rest J hi aa R hJ Y=>?_) () ⟨λ_=>⟨rfl,rfl⟩,λh=>by rw[show ops4.size=9 from rfl]at h;cases h⟩
 ·have e:∀{i t},i<9->Cr.nK ops4 i=some t->a'.tmps[t]? =some (Zl kb b3 w.heap.size c tx n cap i):=λhi hd=>R.got _ _ hd (hl _ hi);exact hQ a' _ _ ⟨R.size.trans hA.sz,R.defers.trans hA.df,(R.slot (by kernel_rfl)).trans hA.t2,(R.slot (by kernel_rfl)).trans hA.t3,(R.slot (by kernel_rfl)).trans hA.t4⟩ (e (i:=6) (by decide) rfl) (e (i:=7) (by decide) rfl) (e (i:=8) (by decide) rfl) (hJ.2 (hl 6 (by decide)))
 ·have hold:∀j,j<w.heap.size->v.heap[j]? =w.heap[j]?:=λj hj=>by
   cases h6:l.getD 6 false with
   |false=>rw[(hJ.1 h6).1]
   |true=>exact(hJ.2 h6).old j hj
  have g2:=(hold _ (jC h2)).trans h2;have g3:=(hold _ (jC h3)).trans h3;have gk:=(hold _ (jC hk)).trans hk;have keep:i≠6->(((l.setIfInBounds i true).getD 6 false=false->v=w/\D1=D)/\((l.setIfInBounds i true).getD 6 false=true->Bc w n fs v)):=λe=>by rw[getD_set_ne false e];exact hJ
  have go:i≠6->o.guard=none->(∀t d,(execOp a'.eval o).run PQ (on v t d)=.ok (.value (Zl kb b3 w.heap.size c tx n cap i)) (on v t d))->Wq D1 Post Z (b.at a' (.inRegion ops4 (i::rest)::k)) A v:=λe E hr=>Wq.val J E hr (Y v D1 () (λ_ _=>rfl) (keep e));have ab:=(jC J)
  have e2:=R.old (s:=2) (by kernel_rfl) hA.t2;have e3:=R.old (s:=3) (by kernel_rfl) hA.t3;have cl:∀{B:Nat}{cs:Array Value}{ty:TypeId}{fz:Nat×Nat}(o:Nat),v.heap[B]? =some (.cells cs ty fz)->∀t d,(on v t d).cell? ⟨B,o,none⟩=cs[o]?:=λo h t d=>aA (show(on v t d).heap[_]? =_ from h) o;have I:∀j t,Cr.waits ops4 i j=true->Cr.nK ops4 j=some t->a'.eval (.tmp t)=Zl kb b3 w.heap.size c tx n cap j:=λj t hw hd=>R.ev hd (aa j hw)
  match i,ab with
  |0,_=>
   obtain⟨z,E⟩:=Cr.kZ (.load 93 (.tmp 2),none) J rfl;refine go (by decide) E λt d=>?_;have c0:=cl 0 g2 t d;unfold execOp;simp only[z,e2,ptr];simp[go_sem,c0];rfl
  |1,_=>
   obtain⟨z,E⟩:=Cr.kZ (.nilCheck (.tmp 38),none) J rfl;refine go (by decide) E λt d=>?_;unfold execOp;simp only[z,I 0 38 rfl rfl];rfl
  |2,_=>
   obtain⟨z,E⟩:=Cr.kZ (.fieldAddr 137 (.tmp 39) 0,none) J rfl;refine go (by decide) E λt d=>?_;unfold execOp;simp only[z,I 1 39 rfl rfl];simp[go_sem];rfl
  |3,_=>
   obtain⟨z,E⟩:=Cr.kZ (.load 24 (.tmp 40),none) J rfl;refine go (by decide) E λt d=>?_;have c0:_=(jG c)[0]?:=cl 0 gk t d;have c1:_=(jG c)[1]?:=cl 1 gk t d;have c2:_=(jG c)[2]?:=cl 2 gk t d;have c3:_=(jG c)[3]?:=cl 3 gk t d;have c4:_=(jG c)[4]?:=cl 4 gk t d;have c5:_=(jG c)[5]?:=cl 5 gk t d;have c6:_=(jG c)[6]?:=cl 6 gk t d;unfold execOp;simp only[z,I 2 40 rfl rfl];simp[go_sem,Zl,ptr,jG,c0,c1,c2,c3,c4,c5,c6]
  |4,_=>
   obtain⟨z,E⟩:=Cr.kZ (.fieldAddr 42 (.tmp 3) 2,none) J rfl;refine go (by decide) E λt d=>?_;unfold execOp;simp only[z,e3,ptr];simp[go_sem];rfl
  |5,_=>
   obtain⟨z,E⟩:=Cr.kZ (.load 39 (.tmp 42),none) J rfl;refine go (by decide) E λt d=>?_;have c0:=cl 2 g3 t d;unfold execOp;simp only[z,I 4 42 rfl rfl];simp[go_sem,Zl,c0]
  |6,_=>
   obtain⟨z,E⟩:=Cr.kZ (.call { callee:=.value (.func 71),args:=#[.tmp 41,.tmp 43],argTypes:=#[24,39] },none) J rfl;have h6:=Cr.Oq hi;obtain⟨rfl,rfl⟩:=hJ.1 h6.1;refine Wk.frames rd J (Cr.ku E) z (I 3 41 rfl rfl) (I 5 43 rfl rfl) hn af hx ae λD' x' hP=>Y x' D' () (λ_ _=>rfl) ⟨λh=>(by rw[h6.2]at h;cases h),λ_=>hP⟩
  |7,_=>
   obtain⟨z,E⟩:=Cr.kZ (.call { callee:=.builtin .len,args:=#[.tmp 44],argTypes:=#[29] },none) J rfl;refine go (by decide) E λt d=>?_;have e:a'.tmps[44]? =some (.slice (some ⟨w.heap.size+1,0,none⟩) n n):=R.got 6 44 rfl (aa 6 rfl);unfold execOp;simp only[z];simp[go_sem,Zl,e]
  |8,_=>
   obtain⟨z,E⟩:=Cr.kZ (.move (.const (.int .i64 0)),none) J rfl;refine go (by decide) E λt d=>?_;unfold execOp;simp only[z];rfl
end
end
section
variable {ta la:Option Addr}{tn tc ln lc:Nat}
section
variable {Post:EO}{D:Nat->Prop}{w w':World}{b:Frame}{a:Act}{k:List Item}{Z A:List Frame}
variable {kb nb:Nat}{c:Cf}{vu:Value}{us:List PB}{dl:Nat->List (List UInt8)}{vo vw:Value}{ws:List PW}{nm:AL}{os:List PC}{cnt ep sq:Nat}{u:U}{vt vl:Value}{b2 b3 b4 n:Nat}
theorem Px{rest:Code}(hS:TS w kb nb c vu us dl vo vw ws nm os cnt ep sq)(ha:a={ tmps:=#[.pointer (some ⟨kb,0,none⟩),.agg #[.int .i64 u.id,.int .i64 u.time,.slice ta tn tc,.slice la ln lc],undef,undef,undef,undef,undef,undef,undef,undef,undef,undef,undef,undef,undef,undef,undef,undef,undef,undef,undef,undef,undef,undef,undef,undef,undef,undef,undef,undef,undef,undef,undef,undef,undef,undef,undef,undef,undef,undef,undef,undef,undef,undef,undef,undef,undef,undef,undef,undef,undef,undef,undef,undef,undef,undef,undef,undef,undef,undef,undef,undef,undef,undef,undef,undef,undef,undef,undef,undef,undef,undef,undef,undef,undef,undef,undef,undef,undef,undef,undef,undef,undef,undef,undef,undef,undef,undef,undef,undef,undef,undef,undef],defers:=[] })
  (R:∀a' w',SA a' w.heap.size (w.heap.size+1) (w.heap.size+2)->jZ (λ_=>False) w w'->TB w' w.heap.size (w.heap.size+1) (w.heap.size+2) kb us.length u (.slice ta tn tc) (.slice la ln lc)->Wq D Post Z (b.at a' [.code rest]) A w'):
  Wq D Post Z (b.at a [.code (.seq yK (.seq xZ rest))]) A w:=by
 refine Wq.seq ?_;obtain⟨w1,E⟩:∃w1,w1=(w.alloc (.cells #[.pointer (some ⟨kb,0,none⟩)] 93)).alloc (.cells #[.int .i64 u.id,.int .i64 u.time,.slice ta tn tc,.slice la ln lc] 42):=⟨_,rfl⟩
 have s1:w1.heap.size=w.heap.size+2:=by rw[E];simp
 have b1:Go.RowKit.Below w.heap.size w w1:=by rw[E];exact((Go.RowKit.Below.refl _ w).alloc jA _).alloc (by simp) _
 have k2:w1.heap[w.heap.size]? =some (.cells #[ptr kb] 93 (0,0)):=by rw[E,Go.RowKit.Below.heap_alloc _ _ _ (by simp)];exact heap_alloc_new _ _
 have k3:w1.heap[w.heap.size+1]? =some (.cells #[.int .i64 u.id,.int .i64 u.time,.slice ta tn tc,.slice la ln lc] 42 (0,0)):=by
  have:=heap_alloc_new (w.alloc (.cells #[.pointer (some ⟨kb,0,none⟩)] 93)) (.cells #[.int .i64 u.id,.int .i64 u.time,.slice ta tn tc,.slice la ln lc] 42);rw[E];simpa using this
 refine Wq.piece (Q:=λa' W=>a'={ tmps:=#[.pointer (some ⟨kb,0,none⟩),.agg #[.int .i64 u.id,.int .i64 u.time,.slice ta tn tc,.slice la ln lc],.pointer (some ⟨w.heap.size,0,none⟩),.pointer (some ⟨w.heap.size+1,0,none⟩),undef,undef,undef,undef,undef,undef,undef,undef,undef,undef,undef,undef,undef,undef,undef,undef,undef,undef,undef,undef,undef,undef,undef,undef,undef,undef,undef,undef,undef,undef,undef,undef,undef,undef,undef,undef,undef,undef,undef,undef,undef,undef,undef,undef,undef,undef,undef,undef,undef,undef,undef,undef,undef,undef,undef,undef,undef,undef,undef,undef,undef,undef,undef,undef,undef,undef,undef,undef,undef,undef,undef,undef,undef,undef,undef,undef,undef,undef,undef,undef,undef,undef,undef,undef,undef,undef,undef,undef,undef],defers:=[] }/\W.heap=w1.heap) (λt d=>?_) ?_
 ·rw[ha];refine Hm.Qw _ _ _ _ _ _ _ _ _ _ _ _ _ _ _ _ _ _ _ _ _ _ _ _ _ _ _ _ _ _ _ _ _ _ _ _ _ _ _ _ _ _ _ _ _ _ _ _ _ _ _ _ _ _ _ _ _ _ _ _ _ _ _ _ _ _ _ _ _ _ _ _ _ _ _ _ _ _ _ _ _ _ _ _ _ _ _ _ _ _ _ kb u.id u.time ta tn tc la ln lc (on w t d) ⟨rfl,rfl,?_⟩;rw[E];rfl
 rintro a1 z ⟨rfl,J⟩;have J:z.heap=w1.heap:=J;refine Wq.seq ?_;have Y:=(hS.below b1).heap J;obtain⟨va,vc,ab⟩:=Y.d.upper.slice;have o7:(jK c vu nb vo vw cnt ep sq)[7]? =some (.slice va us.length vc):=by rw[<-ab];rfl
 refine Wq.piece (Q:=λa' W=>SA a' w.heap.size (w.heap.size+1) (w.heap.size+2)/\W.heap=(z.alloc (.cells #[.int .i64 us.length] 3)).heap) (λt d=>?_) ?_
 ·refine Hm.QV _ _ _ _ _ _ _ _ _ _ _ _ _ _ _ _ _ _ _ _ _ _ _ _ _ _ _ _ _ _ _ _ _ _ _ _ _ _ _ _ _ _ _ _ _ _ _ _ _ _ _ _ _ _ _ _ _ _ _ _ _ _ _ _ _ _ _ _ _ _ _ _ _ _ _ _ _ _ _ _ _ _ _ _ _ _ _ _ _ _ _ _ w.heap.size kb va us.length vc (on z t d) (by rw[aA (show(on z t d).heap[w.heap.size]? =_ from by rw[show(on z t d).heap=w1.heap from J];exact k2)];rfl) (by rw[aA (show(on z t d).heap[kb]? =_ from Y.d.obj)];exact o7) ⟨rfl,⟨rfl,rfl,rfl,rfl,?_⟩,rfl⟩
  show some (Value.pointer (some ⟨z.heap.size,0,none⟩))=_
  rw[J,s1];rfl
 rintro a2 w2 ⟨aa,I⟩;have I:w2.heap=(z.alloc (.cells #[.int .i64 us.length] 3)).heap:=I
 have hold:∀j,j<w.heap.size+2->w2.heap[j]? =w1.heap[j]?:=λj hj=>by
  rw[I,Go.RowKit.Below.heap_alloc _ _ _ (by rw[J,s1];exact hj),J]
 refine R a2 w2 aa ⟨by rw[I];simp[J,s1];omega,λj hj _=>(hold j (by omega)).trans (b1.block j hj)⟩ ⟨(hold _ (by omega)).trans k2,(hold _ (by omega)).trans k3,?_⟩;have:=heap_alloc_new z (.cells #[.int .i64 us.length] 3);rw[I];rw[J,s1]at this;exact this
def V3(dl:Nat->List (List UInt8))(n:Nat)(u:U):Nat->List (List UInt8):=λj=>if j=n then Dv.jL u else dl j
theorem Xq{rest:Code}(hS:TS w kb nb c vu us dl vo vw ws nm os cnt ep sq)(R:SA a b2 b3 b4)(hB:TB w b2 b3 b4 kb us.length u (.slice ta tn tc) (.slice la ln lc))(ab:oC w u (.slice ta tn tc) (.slice la ln lc))(ac:∀x,x∈u.logs->x.length<=16777216)(hn:us.length<4294967296)
  (I:∀a' w' z J,SA a' b2 b3 b4->TS w' kb nb c z (us++[(u.id,u.time,J)]) (V3 dl us.length u) vo vw ws nm os cnt ep sq->jZ (λj=>j=kb\/vu.ownBlock=some j) w w'->(∀g,z.ownBlock=some g->vu.ownBlock=some g\/w.heap.size<=g)->Wq D Post Z (b.at a' [.code rest]) A w'):
  Wq D Post Z (b.at a [.code (.seq MB rest)]) A w:=by
 refine Wq.seq ?_;obtain⟨af,Y⟩:=PG;refine Wq.piece (Q:=λa' W=>SA a' b2 b3 b4/\∃z J,TS W kb nb c z (us++[(u.id,u.time,J)]) (V3 dl us.length u) vo vw ws nm os cnt ep sq/\jZ (λj=>j=kb\/vu.ownBlock=some j) w W/\∀g,z.ownBlock=some g->vu.ownBlock=some g\/w.heap.size<=g) (λt d=>?_) ?_
 ·rw[Y];refine(wpIn_wide (n:=1)).1 (wpIn_region_any (by kernel_rfl) ?_);have E:TS (on w t d).drew kb nb c vu us dl vo vw ws nm os cnt ep sq:=hS.heap rfl;refine Hm.XF (W:=(on w t d).drew) (cs:=jK c vu nb vo vw cnt ep sq) ⟨hB.h2,hB.h3,hS.d.obj,rfl,E.d.upper,hn,ab.heap rfl,ac,E.hd⟩ R.sz R.t2 R.t3 R.t4 ?_;intro a' da dc w6 g off cap w1 e1 e2 e3 e4 e5 hb hm hr hg;obtain⟨q1,q2⟩:=E.more hb hm hr hg;refine⟨rfl,⟨e1,e5.trans R.df,e2,e3,e4⟩,_,_,q1,q2.h.heaps rfl rfl,λg' aa=>?_⟩;have e:g=g':=by simpa[Value.ownBlock]using aa
  subst e;rcases hg.own with q|q
  ·exact .inl q
  ·refine .inr (aW (show w.heap.size<=w6.heap.size from hb.size) (aW ?_ q));simp
 rintro a' w' ⟨ae,z,J,q1,q2,q3⟩;exact I a' w' z J ae (q1.heap rfl) (q2.heaps rfl rfl) q3
end
end
section
section
variable {Post:EO}{D:Nat->Prop}{w w':World}{b:Frame}{a:Act}{k:List Item}{Z A:List Frame}
variable {kb nb:Nat}{c:Cf}{vu:Value}{us:List PB}{dl:Nat->List (List UInt8)}{vo vw:Value}{ws:List PW}{nm:AL}{os:List PC}{cnt ep sq:Nat}{u:U}{vt vl:Value}{b2 b3 b4 n:Nat}
theorem SG{rest:Code}{c0:Nat}(hS:TS w kb nb c vu us dl vo vw ws nm os cnt ep sq)(hA:SA a b2 b3 b4)(hB:TB w b2 b3 b4 kb c0 u vt vl)(hn:c0<=4294967296)(aa:os.length<=4294967296)(ab:0<=c.timeout/\c.timeout<=4294967296)
  (R:∀a' w' I E z,SA a' b2 b3 b4->TS w' kb nb c vu us dl I vw ws E z cnt ep sq->jZ (λj=>j=kb\/Hm.Own nb vo os j) w w'->(∀j,Hm.Own nb I z j->Hm.Own nb vo os j\/w.heap.size<=j)->z.length<=os.length->lives E z=(lives nm os).filter (λx=>!decide ((x.opened:Int)<c0-c.timeout))->Wq D Post Z (b.at a' [.code rest]) A w'):
  Wq D Post Z (b.at a [.code (.seq yD rest)]) A w:=by
 refine Wq.seq ?_;refine Wq.piece (Q:=λa' W=>SA a' b2 b3 b4/\∃I E z,TS W kb nb c vu us dl I vw ws E z cnt ep sq/\jZ (λj=>j=kb\/Hm.Own nb vo os j) w W/\(∀j,Hm.Own nb I z j->Hm.Own nb vo os j\/w.heap.size<=j)/\z.length<=os.length/\lives E z=(lives nm os).filter (λx=>!decide ((x.opened:Int)<c0-c.timeout))) (λt d=>?_) ?_
 ·have J:TS (on w t d) kb nb c vu us dl vo vw ws nm os cnt ep sq:=hS.heap rfl;obtain⟨tm,df⟩:=a;obtain⟨sz,Y,t2,t3,t4⟩:=hA;dsimp only at sz Y t2 t3 t4;subst Y;obtain⟨u0,u1,u2,u3,u4,u5,u6,u7,u8,u9,a8,ct,a6,bv,cp,b5,aq,cf,ar,a0,a9,cy,ay,aw,b1,aj,cq,cr,c1,ak,cz,bx,de,bq,bb,ci,cv,br,b9,bu,cl,cb,bj,cn,cd,ck,b7,an,a2,a7,bo,bg,af,bp,dh,bw,bs,c4,bd,dg,bn,cu,cm,db,dj,ca,bz,cx,ba,ap,c5,a4,au,bk,b6,ah,b0,bm,am,ax,cg,a3,ae,dd,a1,di,bh,a5,bl,ce,cc,cw,ai,rfl⟩:=Hm.Sr sz;simp only[dY,dX,dQ,aC]at t2 t3 t4;subst t2 t3 t4;refine Hm.Gq _ _ _ _ _ _ _ _ _ _ _ _ _ _ _ _ _ _ _ _ _ _ _ _ _ _ _ _ _ _ _ _ _ _ _ _ _ _ _ _ _ _ _ _ _ _ _ _ _ _ _ _ _ _ _ _ _ _ _ _ _ _ _ _ _ _ _ _ _ _ _ _ _ _ _ _ _ _ _ _ _ _ _ _ _ _ _ _ _ _ _ b2 b4 kb nb c0 c.timeout (jK c vu nb vo vw cnt ep sq) vo nm os (on w t d) hB.h2 hB.h4 J.d.obj rfl rfl rfl J.ch aa hn ab ?_;intro co ao av c2 b8 c6 c3 ag cj az c9 W' I E z ht h1 h2;exact⟨rfl,⟨rfl,rfl,rfl,rfl,rfl⟩,I,E,z,J.took ht,ht.jO.h.heaps rfl rfl,ht.own,h1,h2⟩
 rintro a' w' ⟨ac,I,E,z,q1,q2,q3,q4,q5⟩;exact R a' w' I E z ac (q1.heap rfl) (q2.heaps rfl rfl) q3 q4 q5
theorem Xx{d0:Code}{c0 C m:Nat}{vs:Array Value}{fs:Nat->List Fr.F}(hS:TS w kb nb c vu us dl vo vw ws nm os cnt ep sq)(hA:SA a b2 b3 b4)(hB:TB w b2 b3 b4 kb c0 u vt vl)(ac:a.tmps[44]? =some (.slice (some ⟨C,0,none⟩) m m))(J:a.tmps[45]? =some (.int .i64 m))(ab:a.tmps[46]? =some (.int .i64 0))
  (hC:w.heap[C]? =some (.cells vs 76 (0,0))) (ag:vs.size=m) (aa:∀i,i<m->∃v,vs[i]? =some v/\Hm.zi w v (fs i)) (ai:∀i f,i<m->f∈fs i->f.num<65536/\f.data.length<=65536) (hm:m<=16777216) (ah:∀i,(fs i).length<=16777216)
  (ae:os.length+(Hm.kY fs m).length<=4294967295) (aj:0<=c.most/\c.most<=4294967296)
  (Y:∀a' w' I E z,SA a' b2 b3 b4->TS w' kb nb c vu us dl I vw ws E z cnt ep sq->jZ (λj=>j=kb\/Hm.Own nb vo os j) w w'->(∀j,Hm.Own nb I z j->Hm.Own nb vo os j\/w.heap.size<=j)->z.length<=os.length+(Hm.kY fs m).length->lives E z=(Hm.kY fs m).foldl (Dv.frame c.most c0) (lives nm os)->Wq D Post Z (b.at a' [.code d0]) A w'):
  Wq D Post Z (b.at a [.code takeB,.code d0]) A w:=by
 refine Wq.piece (Q:=λa' W=>SA a' b2 b3 b4/\∃I E z,TS W kb nb c vu us dl I vw ws E z cnt ep sq/\jZ (λj=>j=kb\/Hm.Own nb vo os j) w W/\(∀j,Hm.Own nb I z j->Hm.Own nb vo os j\/w.heap.size<=j)/\z.length<=os.length+(Hm.kY fs m).length/\lives E z=(Hm.kY fs m).foldl (Dv.frame c.most c0) (lives nm os)) (λt d=>?_) ?_
 ·have R:TS (on w t d) kb nb c vu us dl vo vw ws nm os cnt ep sq:=hS.heap rfl;obtain⟨tm,df⟩:=a;obtain⟨sz,af,t2,t3,t4⟩:=hA;dsimp only at sz af t2 t3 t4 ac J ab;subst af;obtain⟨u0,u1,u2,u3,u4,u5,u6,u7,u8,u9,bk,db,bh,b9,c5,cf,a1,cu,a2,a8,bl,dj,a7,a5,ce,av,c6,c9,dm,aw,dk,cb,d2,b1,bn,cw,dg,b5,cm,b7,c1,cn,bs,c4,cq,cy,ck,az,ba,bj,bz,bq,aq,b0,d9,ca,b6,dv,bp,d7,bx,dd,c2,dz,eb,co,cc,di,bm,a0,dy,bd,a3,bu,cg,ar,cd,bw,ax,a6,cv,bb,ap,d1,a9,ea,br,bg,bv,ct,cp,dh,au,rfl⟩:=Hm.Sr sz;simp only[dY,dX,dQ,aC]at t2 t3 t4 ac J ab;subst t2 t3 t4 ac J ab;refine Hm.FV _ _ _ _ _ _ _ _ _ _ _ _ _ _ _ _ _ _ _ _ _ _ _ _ _ _ _ _ _ _ _ _ _ _ _ _ _ _ _ _ _ _ _ _ _ _ _ _ _ _ _ _ _ _ _ _ _ _ _ _ _ _ _ _ _ _ _ _ _ _ _ _ _ _ _ _ _ _ _ _ _ _ _ _ _ _ _ _ b2 b4 kb nb c0 C m c.most (jK c vu nb vo vw cnt ep sq) vs vo nm os fs (on w t d) hB.h2 hB.h4 R.d.obj rfl rfl rfl R.ch hC ag aa ai hm ah ae aj ?_;intro x6 x8 de ay d8 d3 a4 ci bo cx cz dt cj cr am cl c3 dr b8 an ao du dq dx dw W' I E z ht;exact⟨rfl,⟨rfl,rfl,rfl,rfl,rfl⟩,I,E,z,R.bi ht,ht.jO.h.heaps rfl rfl,ht.own,ht.len,ht.lives⟩
 rintro a' w' ⟨ak,I,E,z,q1,q2,q3,q4,q5⟩;exact Y a' w' I E z ak (q1.heap rfl) (q2.heaps rfl rfl) q3 q4 q5
end
end
section
section
variable {Post:EO}{D:Nat->Prop}{w w':World}{b:Frame}{a:Act}{k:List Item}{Z A:List Frame}
variable {kb nb:Nat}{c:Cf}{vu:Value}{us:List PB}{dl:Nat->List (List UInt8)}{vo vw:Value}{ws:List PW}{nm:AL}{os:List PC}{cnt ep sq:Nat}{u:U}{vt vl:Value}{b2 b3 b4 n:Nat}
theorem QH{c0:Nat}(hS:TS w kb nb c vu us dl vo vw ws nm os cnt ep sq)(hA:SA a b2 b3 b4)(hB:TB w b2 b3 b4 kb c0 u vt vl)(ag:os.length<=4294967296)
  (ae:∀s,s∈(Dv.pull (lives nm os)).1->s.length<=4096) (ab:ws.length+4096*(Dv.pull (lives nm os)).1.length<4294967296)
  (aa:∀a' w' (dd:Nat) I Y J E z,a'.defers=[{ target:=.collected dd,args:=#[] }]->w'.heap[dd]? =some (.deferred (some []))->w.heap.size<=dd->TS w' kb nb c vu us dl I Y (ws++J) E z cnt ep sq->jZ (λj=>j=kb\/j=nb\/vw.ownBlock=some j) w w'->(∀j,Hm.Own nb I z j->Hm.Own nb vo os j)->(∀g,Y.ownBlock=some g->vw.ownBlock=some g\/w.heap.size<=g)->z.length<=4294967296->lives E z=(Dv.pull (lives nm os)).2->J.map Prod.fst=(Dv.pull (lives nm os)).1.flatMap (λs=>Dv.reads s c0)->Wq D Post Z (b.at a' []) A w'):
  Wq D Post Z (b.at a [.code Eh]) A w:=by
 refine Wq.piece (Q:=λa' W=>∃(dd:Nat),∃I Y J E z,a'.defers=[{ target:=.collected dd,args:=#[] }]/\W.heap[dd]? =some (.deferred (some []))/\w.heap.size<=dd/\TS W kb nb c vu us dl I Y (ws++J) E z cnt ep sq/\jZ (λj=>j=kb\/j=nb\/vw.ownBlock=some j) w W/\(∀j,Hm.Own nb I z j->Hm.Own nb vo os j)/\(∀g,Y.ownBlock=some g->vw.ownBlock=some g\/w.heap.size<=g)/\z.length<=4294967296/\lives E z=(Dv.pull (lives nm os)).2/\J.map Prod.fst=(Dv.pull (lives nm os)).1.flatMap (λs=>Dv.reads s c0)) (λt d=>?_) ?_
 ·have R:TS (on w t d) kb nb c vu us dl vo vw ws nm os cnt ep sq:=hS.heap rfl;obtain⟨tm,df⟩:=a;obtain⟨sz,ac,t2,t3,t4⟩:=hA;dsimp only at sz ac t2 t3 t4;subst ac;obtain⟨u0,u1,u2,u3,u4,u5,u6,u7,u8,u9,a9,cq,a7,bw,cn,b6,av,cf,aw,a1,ba,cw,a0,ay,b5,ao,co,cp,cy,ap,cx,bz,c4,br,bd,ci,ct,bs,b9,bv,ck,ca,bk,cm,cd,cj,b8,ar,a3,a8,bp,bh,ak,bq,c6,bx,bu,cz,bg,c5,bo,cr,cl,c2,db,cb,b0,cv,bb,au,c1,a5,ax,bl,b7,am,b1,bn,aq,az,cg,a4,aj,c3,a2,c9,bj,a6,bm,ce,cc,cu,an,rfl⟩:=Hm.Sr sz;simp only[dY,dX,dQ,aC]at t2 t3 t4;subst t2 t3 t4;obtain⟨ah,tt,fz,q1,q2,q3,_⟩:=R.ht;refine Hm.Nv _ _ _ _ _ _ _ _ _ _ _ _ _ _ _ _ _ _ _ _ _ _ _ _ _ _ _ _ _ _ _ _ _ _ _ _ _ _ _ _ _ _ _ _ _ _ _ _ _ _ _ _ _ _ _ _ _ _ _ _ _ _ _ _ _ _ _ _ _ _ _ _ _ _ _ _ _ _ _ _ _ _ _ _ _ _ _ _ _ _ _ b2 b4 kb nb c0 (jK c vu nb vo vw cnt ep sq) vo vw nm os ws (on w t d) hB.h2 hB.h4 R.d.obj rfl rfl rfl R.ch ag R.d.wait R.d.txs R.hd ⟨ah,tt,fz,q1,q2,q3⟩ ae ab ?_;intro D W' v9 af J cs' I E z hT hP h1 h2 h3 h4;exact⟨rfl,D,I,af,J,E,z,rfl,h4,h2,R.pulled hT hP,hT.jO.h.heaps rfl rfl,hP.own,hT.own,hP.len,h1,hT.fst⟩
 rintro a' w' ⟨D,I,Y,J,E,z,q1,q2,q3,q4,q5,q6,q7,q8,q9,ai⟩;exact aa a' w' D I Y J E z q1 q2 q3 (q4.heap rfl) (q5.heaps rfl rfl) q6 q7 q8 q9 ai
end
end
end Pa
namespace Fr
section
variable {s:List UInt8}{l:List F}
def be:Nat->Nat->List UInt8
 |0,_=>[]
 |k+1,v=>be k (v/256)++[UInt8.ofNat (v%256)]
theorem lJ:∀k v,(be k v).length=k
 |0,_=>rfl
 |k+1,v=>by rw[be,aJ,lJ];rfl
theorem FX:∀(k v:Nat)(z post:List UInt8),v<256 ^ k->big (z++be k v++post) z.length k=v
 |0,v,_,_,h=>by simp at h;subst h;rfl
 |k+1,v,z,post,h=>by
  rw[big,be];have E:v/256<256 ^ k:=by rw[Nat.pow_succ]at h;omega
  have e:z++(be k (v/256)++[UInt8.ofNat (v%256)])++post=z++be k (v/256)++([UInt8.ofNat (v%256)]++post):=by simp
  rw[e,FX k (v/256) z _ E]
  have h2:(z++be k (v/256)++([UInt8.ofNat (v%256)]++post)).getD (z.length+k) 0=UInt8.ofNat (v%256):=by
   rw[aS,bK (by simp[lJ])];simp[lJ]
  rw[h2,UInt8.toNat_ofNat'];omega
theorem GZ:∀(k:Nat)(s:List UInt8)(p:Nat),p+k<=s.length->(s.drop p).take k=be k (big s p k)
 |0,_,_,_=>by simp[be]
 |k+1,s,p,h=>by
  have h2:=(s.getD (p+k) 0).toNat_lt
  rw[big,be,show(256*big s p k+(s.getD (p+k) 0).toNat)/256=big s p k from by omega,<-GZ k s p (by omega),show(256*big s p k+(s.getD (p+k) 0).toNat)%256=(s.getD (p+k) 0).toNat from by omega,
   dZ (by rw[dP];omega),List.getElem_drop]
  congr 2
  rw[aS,aG (by omega)];simp
def fits(x:F):Prop:=x.chan<4294967296/\x.num<65536/\x.data.length<65536
def enc(x:F):List UInt8:=be 4 x.chan++be 2 x.num++be 2 x.data.length++x.data++[if x.last then 1 else 0]
theorem lZ(x:F):(enc x).length=9+x.data.length:=by
 simp[enc,lJ];omega
theorem Xr(x:F)(h:fits x)(z post:List UInt8):one (z++enc x++post) z.length=some (x,(enc x).length):=by
 obtain⟨h1,h2,h3⟩:=h
 have Y:big (z++enc x++post) z.length 4=x.chan:=by
  have:z++enc x++post=z++be 4 x.chan++(be 2 x.num++be 2 x.data.length++x.data++[if x.last then 1 else 0]++post):=by simp[enc]
  rw[this];exact FX 4 _ _ _ (by simpa using h1)
 have e2:big (z++enc x++post) (z.length+4) 2=x.num:=by
  have:z++enc x++post=(z++be 4 x.chan)++be 2 x.num++(be 2 x.data.length++x.data++[if x.last then 1 else 0]++post):=by simp[enc]
  rw[this];have:=FX 2 x.num (z++be 4 x.chan) (be 2 x.data.length++x.data++[if x.last then 1 else 0]++post) (by simpa using h2);rwa[aJ,lJ]at this
 have J:big (z++enc x++post) (z.length+6) 2=x.data.length:=by
  have:z++enc x++post=(z++be 4 x.chan++be 2 x.num)++be 2 x.data.length++(x.data++[if x.last then 1 else 0]++post):=by simp[enc]
  rw[this];have:=FX 2 x.data.length (z++be 4 x.chan++be 2 x.num) (x.data++[if x.last then 1 else 0]++post) (by simpa using h3);rwa[aJ,aJ,lJ,lJ]at this
 have R:(z++enc x++post).length=z.length+(9+x.data.length)+post.length:=by simp[lZ];omega
 have e8:(z++enc x++post).getD (z.length+8+x.data.length) 0=if x.last then 1 else 0:=by
  have:z++enc x++post=(z++be 4 x.chan++be 2 x.num++be 2 x.data.length++x.data)++([if x.last then 1 else 0]++post):=by simp[enc]
  rw[this,aS,bK (by simp[lJ];omega)];have:z.length+8+x.data.length-(z++be 4 x.chan++be 2 x.num++be 2 x.data.length++x.data).length=0:=by simp[lJ];omega
  rw[this];rfl
 have ed:((z++enc x++post).take (z.length+8+x.data.length)).drop (z.length+8)=x.data:=by
  have:z++enc x++post=(z++be 4 x.chan++be 2 x.num++be 2 x.data.length)++x.data++([if x.last then 1 else 0]++post):=by simp[enc]
  rw[this,List.take_append_of_le_length (by simp[lJ]<;>omega)];have E:(z++be 4 x.chan++be 2 x.num++be 2 x.data.length).length=z.length+8:=by simp[lJ]<;>omega
  rw[dV (by rw[aJ,E];omega),<-E,List.drop_left]
 unfold one;rw[J,Y,e2,e8,ed,R,lZ,if_neg (by omega),if_neg (by omega)];cases I:x.last
 ·rw[if_neg (by simp)]
  congr 2
  cases x
  simp_all
 ·rw[if_neg (by simp)]
  congr 2
  cases x
  simp_all
theorem WR{p:Nat}{x:F}{n:Nat}(h:one s p=some (x,n)):s.drop p=enc x++s.drop (p+n)/\fits x/\n=(enc x).length:=by
 have aa:=one_le h;unfold one at h;split at h
 ·simp at h
 ·rename_i h9;split at h
  ·simp at h
  ·rename_i hN;split at h
   ·simp at h
   ·rename_i hc;simp only[aC,dA]at h;obtain⟨rfl,rfl⟩:=h;have Y:=GZ 4 s p (by omega);have b2:=GZ 2 s (p+4) (by omega);have I:=GZ 2 s (p+6) (by omega);have z:=oQ s p 4;have l2:=oQ s (p+4) 2;have E:=oQ s (p+6) 2;simp only[Nat.reducePow]at z l2 E;generalize big s (p+6) 2=N at *;generalize big s p 4=C4 at *;generalize big s (p+4) 2=C2 at *;have hdl:((s.take (p+8+N)).drop (p+8)).length=N:=by simp;omega
    refine⟨?_,⟨z,l2,by rw[hdl];exact E⟩,by rw[lZ,hdl]⟩
    have J:[if ((s.getD (p+8+N) 0).toNat == 1)=true then(1:UInt8)else 0]=(s.drop (p+8+N)).take 1:=by
     have R:s.getD (p+8+N) 0=s[p+8+N]'(by omega):=by rw[aS,aG (by omega)];rfl
     rw[R]at hc⊢;rw[List.drop_eq_getElem_cons (by omega)];simp only[List.take_succ_cons,List.take_zero,List.cons.injEq,and_true];rcases(by omega:(s[p+8+N]'(by omega)).toNat=0\/(s[p+8+N]'(by omega)).toNat=1)with h|h
     ·rw[h];simp;exact jr.1 (by rw[h];rfl)
     ·rw[h];simp;exact jr.1 (by rw[h];rfl)
    have hd:(s.take (p+8+N)).drop (p+8)=(s.drop (p+8)).take N:=by rw[List.drop_take];congr 1;omega
    unfold enc;simp only;rw[hdl,J,<-Y,<-b2,<-I,hd];have j:∀(q k:Nat),s.drop q=(s.drop q).take k++s.drop (q+k):=λq k=>by rw[<-gZ,List.take_append_drop]
    conv=>lhs;rw[j p 4,j (p+4) 2,show p+4+2=p+6 from rfl,j (p+6) 2,show p+6+2=p+8 from rfl,j (p+8) N,j (p+8+N) 1]
    rw[show p+(9+N)=p+8+N+1 from by omega];simp only[fE]
def cat(l:List F):List UInt8:=l.flatMap enc
theorem Ko:∀(l:List F)(f:Nat)(z:List UInt8),(∀x,x∈l->fits x)->l.length<=f->rest f (z++cat l) z.length=some l
 |[],f,z,_,_=>by
  cases f<;>simp[rest,cat]
 |x::l,0,z,_,h=>by simp at h
 |x::l,f+1,z,hx,h=>by
  have e:z++cat (x::l)=z++enc x++cat l:=by simp[cat]
  have I:=lZ x;have:=Ko l f (z++enc x) (λy E=>hx y (bT _ E)) (by simpa using h);rw[aJ]at this;rw[rest,e,if_neg (by simp only[aJ];omega),Xr x (hx x (dK ..))];simp only;rw[this];rfl
theorem IE:∀(f:Nat)(s:List UInt8)(p:Nat)(l:List F),rest f s p=some l->s.drop p=cat l/\∀x,x∈l->fits x
 |0,s,p,l,h=>by
  simp only[rest]at h;split at h
  ·simp at h;subst h;simp[cat];assumption
  ·simp at h
 |f+1,s,p,l,h=>by
  rw[rest]at h;split at h
  ·simp at h;subst h;simp[cat];assumption
  ·cases z:one s p with
   |none=>rw[z]at h;simp at h
   |some x=>
    obtain⟨x,n⟩:=x;rw[z]at h;simp only at h;obtain⟨t,ht,rfl⟩:=aX.1 h;obtain⟨I,h2,_⟩:=WR z;obtain⟨h3,h4⟩:=IE f s _ t ht;refine⟨by rw[I,h3];simp[cat],λy E=>?_⟩;rcases bV.1 E with rfl|E
    ·exact h2
    ·exact h4 y E
theorem BH(J:l≠[])(h:∀x,x∈l->fits x):frames (0::cat l)=some l:=by
 obtain⟨x,r,rfl⟩:∃x r,l=x::r:=by cases l with|nil=>exact absurd rfl J|cons x r=>exact⟨x,r,rfl⟩
 have R:=lZ x
 have z:∀m:List F,m.length<=(cat m).length:=by
  intro m
  induction m with
  |nil=>simp
  |cons y m ih=>
   have:=lZ y;simp only[cat,gQ,aJ,aN]at ih⊢;omega
 have I:=z (x::r);unfold frames;rw[if_neg]
 ·exact Ko (x::r) _ [0] h (by simp at I⊢;omega)
 ·rintro(E|E)
  ·simp[cat]at E;omega
  ·exact E rfl
theorem rQ(h:frames s=some l):s=0::cat l/\l≠[]/\∀x,x∈l->fits x:=by
 unfold frames at h;split at h
 ·simp at h
 ·rename_i h2;obtain⟨h3,h4⟩:=IE _ _ _ _ h
  have hs:s=0::s.drop 1:=by
   cases s with
   |nil=>simp at h2
   |cons x r=>
    have:x=0:=by
     by_cases z:x=0
     ·exact z
     ·exact absurd (.inr (by simpa using z)) h2
    subst this;rfl
  refine⟨hs.trans (by rw[h3]),?_,h4⟩;rintro rfl;have:(s.drop 1).length=0:=by rw[h3];rfl
  rw[dP]at this;omega
theorem zK(h:frames s=some l){m:Nat}(Y:1<=m)(h2:m<l.length):
  frames (s.take (1+(cat (l.take m)).length))=some (l.take m)/\frames (0::s.drop (1+(cat (l.take m)).length))=some (l.drop m)/\1+(cat (l.take m)).length<=s.length:=by
 obtain⟨hs,_,I⟩:=rQ h
 have z:cat l=cat (l.take m)++cat (l.drop m):=by
  unfold cat;rw[<-gX,List.take_append_drop]
 have J:s.take (1+(cat (l.take m)).length)=0::cat (l.take m):=by
  rw[hs,z,Nat.add_comm 1,List.take_succ_cons,List.take_left]
 have R:s.drop (1+(cat (l.take m)).length)=cat (l.drop m):=by
  rw[hs,z,Nat.add_comm 1,List.drop_succ_cons,List.drop_left]
 refine⟨?_,?_,?_⟩
 ·rw[J];exact BH (by intro e;have:=congrArg List.length e;rw[aZ,bM]at this;omega) (λx E=>I x (iZ E))
 ·rw[R];exact BH (by intro e;have:=congrArg List.length e;rw[dP,bM]at this;omega) (λx E=>I x (jd E))
 ·rw[hs,z];simp;omega
end
end Fr
end Go.Proofs.YtpibpdpedjinhaaGreatDoor
