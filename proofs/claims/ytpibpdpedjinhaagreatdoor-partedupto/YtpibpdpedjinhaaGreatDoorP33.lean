import Derived.Test.YtpibpdpedjinhaaGreatDoorP32
set_option maxRecDepth 100000
set_option maxHeartbeats 8000000
set_option linter.unusedSimpArgs false
namespace Go.Proofs.YtpibpdpedjinhaaGreatDoor
namespace Pa
open Go Go.Conc Go.RowKit Go.Joins
open Hm (ptr jW jG jK TS jZ oC AL PC PB PW lives yK xZ yD takeB Eh ops2 Fits)
open Dv (U Cf Ch Tx)
open Po hiding U H B IT PR NB
open Cr (Tz)
section
variable {w':World}
def Tk(kb nb:Nat)(vu vo vw:Value)(os:List PC)(k:Nat):Prop:=k=kb\/vu.ownBlock=some k\/vw.ownBlock=some k\/Hm.Own nb vo os k
theorem Ah{M:Nat->Prop}{w:World}{u:U}{E J:Value}(h:oC w u E J)(z:jZ M w w')(hM:∀g,(0<u.txs.length/\E.ownBlock=some g)\/(0<u.logs.length/\J.ownBlock=some g)->¬M g):oC w' u E J:=
 ⟨Hm.Rd.kept h.1 z.size (λY g R I=>z.block g I (hM g (.inl ⟨Y,R⟩))),Hm.Rd.kept h.2.1 z.size (λY g R I=>z.block g I (hM g (.inr ⟨Y,R⟩))),h.2.2⟩
def frJ(u:U)(j:Nat):Int:=((u.txs[j]?.map (·.fr)).getD 0:Nat)
def adJ(u:U)(j:Nat):Int:=((u.txs[j]?.map (·.dest)).getD 0:Nat)
def Zz(u:U)(j:Nat):ByteArray:=⟨((u.txs[j]?.map (·.data)).getD []).toArray⟩
def Qs(c:Cf)(u:U)(j:Nat):List Fr.F:=Fr.lQ c.inbox c.batcher (frJ u j) (adJ u j) (Zz u j).data.toList
theorem yM(c:Cf)(u:U)(j:Nat)(t:Tx)(h:u.txs[j]? =some t):Qs c u j=Dv.mG c t:=by
 unfold Qs frJ adJ Zz Fr.lQ Dv.mG;rw[h];simp only[bQ,fB,Int.ofNat_inj]
theorem WT(c:Cf)(u:U)(h:∀t,t∈u.txs->t.data.length<=2000)(j:Nat):(Qs c u j).length<=222:=by
 cases ht:u.txs[j]? with
 |some t=>rw[yM c u j t ht];exact Dv.yZ c t (h t (aQ ht))
 |none=>
  unfold Qs Zz Fr.lQ;rw[ht];split
  ·simp[Fr.frames]
  ·simp
theorem Qi(c:Cf)(u:U)(j:Nat)(x:Fr.F)(h:x∈Qs c u j):x.num<65536/\x.data.length<=65536:=by
 unfold Qs Fr.lQ at h;split at h
 ·cases z:Fr.frames (Zz u j).data.toList with
  |none=>rw[z]at h;simp at h
  |some l=>
   rw[z]at h;obtain⟨_,h2,h3⟩:=(Fr.rQ z).2.2 x h;exact⟨h2,by omega⟩
 ·simp at h
theorem FK:∀{l m:List Nat},l.Nodup->(∀x,x∈l->x∈m)->l.length<=m.length
 |[],_,_,_=>dF _
 |x::l,m,hn,hs=>by
  have E:=hs x dK;obtain⟨I,h2⟩:=iq.1 hn;have:=FK (l:=l) (m:=m.erase x) h2 (λy z=>(List.mem_erase_of_ne (λe=>I (by rw[<-e];exact z))).2 (hs y (bT _ z)));rw[List.length_erase_of_mem E]at this;have:0<m.length:=List.length_pos_of_mem E;rw[aN];omega
section
variable {w:World}
variable {kb nb:Nat}{c:Cf}{vu:Value}{us:List PB}{dl:Nat->List (List UInt8)}{vo vw:Value}{ws:List PW}{nm:AL}{os:List PC}{cnt ep sq:Nat}{u:U}{ta la:Option Addr}{tn tc ln lc:Nat}
theorem YP(I:oC w u (.slice ta tn tc) (.slice la ln lc))(J:∀t,t∈u.txs->t.data.length<=2000):tn=u.txs.length/\∃tb p0,Tz (λ_=>True) w ta tb p0 tn (frJ u) (adJ u) (Zz u):=by
 obtain⟨hx,_⟩:=I;obtain⟨_,a,cap,e,_,z⟩:=hx;cases e;refine⟨rfl,?_⟩;rcases gB u.txs.length with R|R
 ·exact⟨0,0,λh=>by omega,λj E=>by omega,λj E=>by omega⟩
 ·obtain⟨g,off,rfl,Y,hc⟩:=z R;refine⟨g,off,λ_=>⟨rfl,trivial⟩,λj E=>?_,λj E=>?_⟩<;>obtain⟨t,ht⟩:∃t,u.txs[j]? =some t:=⟨_,aG E⟩
  ·have q:=Hm.um.get (w:=w) (l:=u.txs) (g:=g) (off:=off) (cap:=tc) ⟨‹_›,_,_,rfl,‹_›,λ_=>⟨g,off,rfl,Y,hc⟩⟩ ht;unfold frJ adJ Zz;rw[ht];exact q
  ·unfold Zz;rw[ht];have:=J t (aQ ht)
   show t.data.toArray.size<=_
   simp;omega
theorem Lp(hS:TS w kb nb c vu us dl vo vw ws nm os cnt ep sq){Y ae:Value}{ws':List PW}{ai:AL}{I:List PC}(J:TS w' kb nb c vu us dl Y ae ws' ai I cnt ep sq)(hc:jZ (λj=>j=kb\/j=nb\/vw.ownBlock=some j) w w')(R:∀j,Hm.Own nb Y I j->Hm.Own nb vo os j):I.length<=os.length:=by
 have h:=FK (l:=I.map (·.blk)) (m:=os.map (·.blk)) J.ch.apart (λx hx=>?_)
 ·simpa using h
 obtain⟨o,ho,rfl⟩:=bC.1 hx;have E:w'.heap[o.blk]? =_:=(J.ch.chans o ho).obj;unfold Hm.vH at E
 have ag:o.blk≠kb:=λe=>by
  rw[e,J.d.obj]at E;simp at E
 have ab:o.blk≠nb:=λe=>Hm.kN E J.ch.named e
 have hold:vw.ownBlock≠some o.blk->o.blk<w.heap.size->w.heap[o.blk]? =_:=λh hl=>(hc.block _ hl (by
  rintro(e|e|e)
  ·exact ag e
  ·exact ab e
  ·exact h e)).symm.trans E
 rcases R o.blk (.inr (.inr ⟨o,ho,.inl rfl⟩))with e|e|⟨o',aa,e|e⟩
 ·exact absurd e ab
 ·exfalso;obtain⟨af,z⟩:=hS.ch.order.obj e;have hv:vw.ownBlock≠some o.blk:=Hm.jF hS.d.wait z (by decide);rw[hold hv (jC z)]at z;simp at z
 ·exact bC.2 ⟨o',aa,e.symm⟩
 ·exfalso;have ac:=hS.ch.chans o' aa
  have ah:o'.ch.spoilt=false:=by
   cases hs:o'.ch.spoilt with
   |false=>rfl
   |true=>have:=(ac.spoilt hs).2;rw[e]at this;cases this
  obtain⟨B,hB,hm⟩:=(ac.sound ah).map;rw[e]at hB;cases hB;obtain⟨es,cl,hb,_⟩:=hm
  have hv:vw.ownBlock≠some o.blk:=λq=>by
   obtain⟨af,z⟩:=hS.d.wait.obj q;rw[hb]at z;cases z
  rw[hold hv (jC hb)]at hb;cases hb
theorem TS.mark(z:TS w kb nb c vu us dl vo vw ws nm os cnt ep sq){D:Nat}(hD:w.heap[D]? =some (.deferred (some []))):TS (w.putObj D (.deferred none)) kb nb c vu us dl vo vw ws nm os cnt ep sq:=by
 have J:∀(j:Nat)(cs:Array Value)(t:Nat)(fz:Nat×Nat),w.heap[j]? =some (.cells cs t fz)->j≠D:=λj cs t fz h e=>by
  subst e;rw[hD]at h;cases h
 have ab:∀(j:Nat)(q:IntKind)(m:AL),Hm.lu w j q m->j≠D:=λj q m h e=>by
  obtain⟨es,cl,h,_⟩:=h;subst e;rw[hD]at h;cases h
 have R:∀j,j≠D->(w.putObj D (.deferred none)).heap[j]? =w.heap[j]?:=λj hj=>World.putObj_heap_other hj
 have E:∀{e s n:Nat}{v:Value}{xs:List Value},Hm.Row w e s v n xs->Hm.Row (w.putObj D (.deferred none)) e s v n xs:=λhr=>hr.kept (λg hg=>R g (by
  obtain⟨ac,Y⟩:=hr.obj hg;exact J g _ _ _ Y))
 have aa:1≠D:=by
  obtain⟨hc,t,fz,q,_⟩:=z.ht;exact J _ _ _ _ q
 have I:∀i,(w.putObj D (.deferred none)).cell? ⟨1,i,none⟩=w.cell? ⟨1,i,none⟩:=λi=>by unfold World.cell?;rw[R _ aa]
 refine⟨⟨(R _ (J _ _ _ _ z.d.obj)).trans z.d.obj,E z.d.upper,E z.d.wait,λj p hp=>E (z.d.deps j p hp),λp hp=>E (z.d.txs p hp)⟩,⟨z.ch.named.of_block (R _ (ab _ _ _ z.ch.named)),E z.ch.order,λo ho=>?_,z.ch.apart,z.ch.maps,z.ch.far,z.ch.entries⟩,⟨⟨by rw[I];exact z.hd.1.1,by rw[I];exact z.hd.1.2.1,by rw[I];exact z.hd.1.2.2⟩,⟨by rw[I];exact z.hd.2.1,by rw[I];exact z.hd.2.2.1,by rw[I];exact z.hd.2.2.2⟩⟩,by rw[R _ aa];exact z.ht⟩;have h:=z.ch.chans o ho;refine⟨(R _ (J _ _ _ _ h.obj)).trans h.obj,h.fine,h.small,h.lastLt,λe=>?_,h.spoilt⟩;have s:=h.sound e;obtain⟨B,hB,hm⟩:=s.map;exact⟨⟨B,hB,hm.of_block (R _ (ab _ _ _ hm))⟩,s.size,s.room,s.ended,s.last⟩
theorem WQ(rd:Cr.ReadW){Post:EO}{D:Nat->Prop}{b₀:Frame}{a₀:Act}{ops:Array Oper}{i:Nat}{rest:List Nat}{k:List Item}{Z A:List Frame}{o:Oper}{x y:Operand}{ck:Array TypeId}(ho:ops[i]? =some o)(hw:Region.wanted o (yielded ops a₀.tmps)=true)
  (cm:o.op=.call { callee:=.value (.func 39),args:=#[x,y],argTypes:=ck }) (ex:a₀.eval x=ptr kb) (ey:a₀.eval y=.agg #[.int .i64 u.id,.int .i64 u.time,.slice ta tn tc,.slice la ln lc])
  (c1:Tryz.prog.globals.size<=w.heap.size) (hS:TS w kb nb c vu us dl vo vw ws nm os cnt ep sq) (co:oC w u (.slice ta tn tc) (.slice la ln lc))
  (ah:∀g,(0<u.txs.length/\(Value.slice ta tn tc).ownBlock=some g)\/(0<u.logs.length/\(Value.slice la ln lc).ownBlock=some g)->g<w.heap.size/\¬Tk kb nb vu vo vw os g)
  (z:Dv.small u=true) (bh:Dv.jP c=true) (di:us.length<=60) (c4:os.length<=1000000) (bu:Fits c.most (lives nm os)) (cu:ws.length+4096*(lives nm os).length<=2000000000)
  (ay:∀D' w' b1 v3 bp br ak ar E,TS w' kb nb c b1 (us++[(u.id,u.time,v3)]) (V3 dl us.length u) bp br (ws++ak) ar E cnt ep sq->jZ (Tk kb nb vu vo vw os) w w'->(∀j,Tk kb nb b1 bp br E j->Tk kb nb vu vo vw os j\/w.heap.size<=j)->E.length<=os.length+4440->Fits c.most (lives ar E)->(lives ar E,(ws++ak).map Prod.fst)=Dv.take c u us.length (lives nm os) (ws.map Prod.fst)->
   Wq D' Post Z (b₀.at (a₀.put o.dst (.tuple #[])) (.inRegion ops rest::k)) A w'):
  Wq D Post Z (b₀.at a₀ (.inRegion ops (i::rest)::k)) A w:=by
 obtain⟨dh,dj,bm,cb⟩:=Dv.yX z
 have dg:1<=c.timeout/\c.timeout<=8/\1<=c.window/\c.window<=8/\0<=c.drift/\c.drift<=100/\2<=c.step/\c.step<=20/\1<=c.most/\c.most<=4096:=by
  unfold Dv.jP at bh;exact of_decide_eq_true bh
 refine Wq.call ho hw cm (fq Tryz.func39 rfl) rfl O9 ?_;simp only[fJ,dW,fG,ex,ey,show Tryz.f39.ntmps=93 from rfl,dL,aN,bM,Nat.reduceAdd,Nat.reduceSub,cO,bZ,dN,cZ,dM,dH];refine Px (u:=u) hS rfl ?_;intro a1 w1 cc am ba;have bx:=hS.kept am (λ_ _ e=>e);have an:=Ah co am (λ_ _ e=>e);refine Xq bx cc ba an (λx hx=>by have:=cb x hx;omega) (by omega) ?_;intro a2 w2 b3 v3 b5 bv af ap;have bq:=ba.jO af (λj cs t fz h ht=>bx.Xj h (by rcases ht with rfl|rfl|rfl<;>decide) (by rcases ht with rfl|rfl|rfl<;>decide))
 have bj:=Ah an af (λg hg=>by
  rintro(e|e)
  ·exact(ah g hg).2 (.inl e)
  ·exact(ah g hg).2 (.inr (.inl e)))
 refine SG (c0:=us.length) bv b5 bq (by omega) (by omega) (by omega) ?_;intro a3 w3 b9 a7 aj ce bb ag av ct Y;have au:=bq.jO ag (λj cs t fz h ht=>bv.Ih h (by rcases ht with rfl|rfl|rfl<;>decide) (by rcases ht with rfl|rfl|rfl<;>decide) (by rcases ht with rfl|rfl|rfl<;>decide))
 have bk:=Ah bj ag (λg hg=>by
  rintro(e|e)
  ·exact(ah g hg).2 (.inl e)
  ·exact(ah g hg).2 (.inr (.inr (.inr e))))
 have s1:=am.size;have s2:=af.size;have s3:=ag.size;refine Wq.seq (Wq.seq ?_);obtain⟨de,bg⟩:=P5;rw[bg];obtain⟨bs,tb,p0,cd⟩:=YP bk bm;refine X9 (u:=u) (c:=c) (fs:=Qs c u) rd ce au.h2 au.h3 bb.d.obj (by omega) (by omega) cd (λ_ _=>rfl) ?_;intro a4 w4 D4 cl cq ca cf hF;have ae:jZ (λ_=>False) w3 w4:=⟨by have:=hF.size;omega,λj R _=>hF.old j R⟩
 have s4:=ae.size;have bw:=bb.kept ae (λ_ _ e=>e);have bn:=au.jO ae (λ_ _ _ _ _ _ e=>e);obtain⟨vs,a9,bl,az⟩:=hF.rows;have ac:Hm.kY (Qs c u) tn=Dv.heard c u.txs:=by rw[bs];exact Hm.JU c u.txs (Qs c u) (yM c u)
 have cy:(Hm.kY (Qs c u) tn).length<=4440:=by rw[ac];exact Dv.zA c z
 refine Xx (c0:=us.length) (C:=w3.heap.size+1) (m:=tn) (vs:=vs) (fs:=Qs c u) bw cl bn cq ca cf a9 bl (λi hi=>?rows) (λi f _ hf=>Qi c u i f hf) (by omega) (λi=>by have:=WT c u bm i;omega) (by omega) (by omega) ?_
 case rows=>
  obtain⟨v,h1,h2⟩:=az i hi;refine⟨v,h1,h2.imp id ?_⟩;rintro⟨g,cap,b4,r1,_,r2,r3,_,_,r4⟩;exact⟨g,cap,b4,r1,r2,r3,r4⟩
 intro a5 w5 b8 ai I cn bd a8 a0 cw ab;have cg:=bn.jO a8 (λj cs t fz h ht=>bw.Ih h (by rcases ht with rfl|rfl|rfl<;>decide) (by rcases ht with rfl|rfl|rfl<;>decide) (by rcases ht with rfl|rfl|rfl<;>decide));have s5:=a8.size;have aw:Fits c.most (lives a7 aj):=by rw[Y];exact Hm.I7 bu _
 have aa:Fits c.most (lives ai I):=by rw[ab];exact Hm.Eu (by omega) _ aw
 have cx:(lives a7 aj).length<=(lives nm os).length:=by rw[Y];exact gU _ _
 have cr:(lives ai I).length<=(lives nm os).length+4440:=by
  rw[ab];have:=Dv.sZ c.most us.length (Hm.kY (Qs c u) tn) (lives a7 aj);omega
 have db:=Dv.CW (lives ai I);refine QH (c0:=us.length) bd cn cg (by omega) (λs hs=>by have:=(Hm.yS aa).1 s hs;omega) (by omega) ?_;intro a6 w6 dd ci b2 ak cj b6 b7 hD c9 bz ax J aq cv ao bo;have s6:=ax.size;have cp:=Lp bd bz ax J;refine Wq.fin λtodo=>Wq.takes (b:=dd) (ds:=[]) rfl b7 hD ?_;refine Wq.leave (v:=.tuple #[]) (fn:=Tryz.f39) rfl rfl rfl (fq Tryz.func39 rfl) (λw=>by simp[results,Tryz.results39,go_sem]) ?_;rw[fF,ho];have b0:∀j,j<w.heap.size->(w6.putObj dd (.deferred none)).heap[j]? =w6.heap[j]?:=λj R=>World.putObj_heap_other (by omega);have cz:(w6.putObj dd (.deferred none)).heap.size=w6.heap.size:=World.putObj_size;have g3:∀j,Hm.Own nb b9 aj j->Hm.Own nb vo os j\/w.heap.size<=j:=λj R=>(av j R).imp id (λq=>by omega)
 have g5:∀j,Hm.Own nb b8 I j->Hm.Own nb vo os j\/w.heap.size<=j:=λj R=>by
  rcases a0 j R with q|q
  ·exact g3 j q
  ·exact .inr (by omega)
 refine ay D4 (w6.putObj dd (.deferred none)) b3 v3 ci b2 ak cj b6 (TS.mark bz hD) ⟨by omega,λj R hn=>?jO⟩ (λj R=>?own) (by omega) (by rw[ao];exact(Hm.yS aa).2) ?take
 case jO=>
  rw[b0 j R,ax.block j (by omega) ?c6,a8.block j (by omega) ?c5,ae.block j (by omega) (λe=>e),ag.block j (by omega) ?c3,af.block j (by omega) ?c2,am.block j R (λe=>e)]
  case c6=>
   rintro(e|e|e)
   ·exact hn (.inl e)
   ·rw[e]at hn;exact hn (.inr (.inr (.inr (.inl rfl))))
   ·exact hn (.inr (.inr (.inl e)))
  case c5=>
   rintro(e|e)
   ·exact hn (.inl e)
   ·rcases g3 j e with q|q
    ·exact hn (.inr (.inr (.inr q)))
    ·omega
  case c3=>
   rintro(e|e)
   ·exact hn (.inl e)
   ·exact hn (.inr (.inr (.inr e)))
  case c2=>
   rintro(e|e)
   ·exact hn (.inl e)
   ·exact hn (.inr (.inl e))
 case own=>
  rcases R with q|q|q|q
  ·exact .inl (.inl q)
  ·rcases ap j q with r|r
   ·exact .inl (.inr (.inl r))
   ·exact .inr (by omega)
  ·rcases aq j q with r|r
   ·exact .inl (.inr (.inr (.inl r)))
   ·exact .inr (by omega)
  ·rcases g5 j (J j q)with r|r
   ·exact .inl (.inr (.inr (.inr r)))
   ·exact .inr r
 case take=>
  rw[Hm.Sl c u us.length (lives nm os) (ws.map Prod.fst) (Qs c u) (yM c u) (lives ai I) (by rw[ab,Y,bs]),ao,aY,bo]
end
end
end Pa
namespace Hm
open Go.RowKit Go.Joins Go.Shelf
open Dv (U Cf Ba Lo)
attribute [local go_sem] Oper.semAt_some
variable {kb nb:Nat}{vu vo vw:Value}{us:List PB}{dl:Nat->List (List UInt8)}{W:World}
theorem Nr:(PQ.info? 62).map (λi=>(i.zero,i.size,i.bytes))=some (some lo0,8,96):=by kernel_rfl
def SJ(c:Cf)(us:List PB)(dl:Nat->List (List UInt8))(M:Nat->Prop)(I:Nat)(J:Value)(z:List PL)(w:World)(E:List DX)(W:World):Prop:=∃ps a cap,SI c us dl M I J z w E W ps a cap
theorem SJ.own(c:Cf)(us:List PB)(dl:Nat->List (List UInt8))(M:Nat->Prop)(Y:Nat)(v0:Value)(z:List PL)(w:World)(n:Nat)(hn:w.heap.size<=n):OwnFrom n (SJ c us dl M Y v0 z w):=by
 rintro R A B row ⟨ps,a,cap,h⟩ J hr;obtain⟨M',hc,I,E⟩:=lN J hr;exact⟨ps,a,cap,h.mZ hc I (λk hk=>E k (by omega))⟩
theorem DA.own{c:Cf}{d:rM}{A B:World}{M:Nat->Prop}(h:DA A kb c vu us dl nb vo vw d)(J:jJ M A B)(E:oJ M A):DA B kb c vu us dl nb vo vw d:=by
 obtain⟨z,I,h2⟩:=h;exact⟨z,I.mZ J E,h2⟩
theorem Tv{b:Nat}{v:Value}(h:W.cell? ⟨b,0,none⟩=some v):∃cs t z,W.heap[b]? =some (.cells cs t z):=by
 unfold World.cell? at h;simp only at h;split at h
 ·rename_i cs t z hk;exact⟨cs,t,z,hk⟩
 ·cases h
theorem DK.own(kb z:Nat)(c:Cf)(vu:Value)(us:List PB)(dl:Nat->List (List UInt8))(nb:Nat)(vo vw:Value)(s0:rM)(n:Nat):OwnFrom n (DK kb z c vu us dl nb vo vw s0):=by
 rintro R A B row ⟨Y,h2⟩ J hr;obtain⟨M',I,E,aa⟩:=lN J hr;obtain⟨cs,t,fz,hk⟩:=Tv h2;exact⟨Y.own I E,(World.cell?_of_block (I.block z (jC hk) (E _ _ _ _ hk))).trans h2⟩
theorem VX.own(kb:Nat)(c:Cf)(vu:Value)(us:List PB)(dl:Nat->List (List UInt8))(nb:Nat)(vo vw:Value)(s0:rM)(n:Nat):OwnFrom n (VX kb c vu us dl nb vo vw s0):=by
 rintro I A B row J E R;obtain⟨M',hc,z,Y⟩:=lN E R;exact DA.own J hc z
theorem DY.own(kb E:Nat)(c:Cf)(vu:Value)(us:List PB)(dl:Nat->List (List UInt8))(nb:Nat)(vo vw:Value)(s0:rM)(n lo:Nat):OwnFrom n (λ(q:List DX×DX) W=>DY kb E c vu us dl nb vo vw s0 q.1 q.2 lo W):=by
 rintro q A B row ⟨h1,⟨vd,h2,h3⟩,h4,h5,h6⟩ J R;have z:=DK.own kb E c vu us dl nb vo vw s0 n (q.1++[q.2]) A B row h6 J R;obtain⟨M',Y,I,aa⟩:=lN J R;exact⟨h1,⟨vd,h2,kM.jO h3.1 Y I.str,h3.2⟩,λb hb=>(h4 b hb).jO Y I.str,h5,z⟩
theorem DY.pl{R:Nat}{c:Cf}{s0:rM}{J:List DX}{x:DX}{lo:Nat}{w:World}(h:DY kb R c vu us dl nb vo vw s0 J x lo W)(aa:w.heap.size<=lo)(Y:∀k,(k=kb\/vw.ownBlock=some k)->k<w.heap.size)(I:∀p,p∈s0.ws->∀g,p.2.ownBlock=some g->¬(g=kb\/vw.ownBlock=some g)):
  ∃p:PL,p.1=o9 c us dl x/\Xn (λk=>k=kb\/vw.ownBlock=some k) W p/\jY p=x.lv.cells.toList:=by
 obtain⟨h1,⟨vd,h2,h3⟩,h4,h5,h6⟩:=h;refine⟨(o9 c us dl x,YF x.ob,vd),rfl,⟨?_,?_,?_,?_⟩,?_⟩
 ·cases z:x.ob with
  |none=>
   unfold o9 kM YF Bv;rw[z];exact Row.nil _ _ _
  |some b=>
   have:=h4 b z;unfold o9 YF Bv;rw[z];exact this
 ·exact h3.1
 ·intro g E;cases z:x.ob with
  |none=>
   rw[z]at E;cases E
  |some b=>
   rw[z]at E;exact I b (U5 h1 z).1 g E
 ·intro g E e;have:=h3.2 g E;have:=Y g e;omega
 ·unfold DX.v Yz at h2;have:=congrArg (λv=>match v with|.agg l=>l.toList|_=>[]) h2;dsimp only at this;rw[this];rfl
theorem DT(kb cB:Nat)(c:Cf)(vu:Value)(us:List PB)(dl:Nat->List (List UInt8))(nb:Nat)(vo vw:Value)(s0:rM)(v0:Value)(z:List PL)(w:World)(hG:Good c us s0)(br:2<=c.step)(hdl:∀j,(dl j).length<=4294967296)
  (hD:qJ w kb c vu us dl nb vo vw s0.ws s0.cnt s0.ep s0.sq) (aq:Boxed w cB 93 (.pointer (some ⟨kb,0,none⟩))) (bw:0<us.length)
  (af:Row w 62 8 v0 z.length (z.flatMap jY)) (ap:∀p,p∈z->kM w p.2.1 p.1.txs/\kM w p.2.2 p.1.deps) (az:z.length<=s0.cnt):
  Calls PQ 40 #[v0,.func (.func 75) #[] #[.pointer (some ⟨cB,0,none⟩)]] w λe w'=>∃E ps a cap,e=.returned (.slice a (z++ps).length cap)/\DS c us s0 E/\ps.map Prod.fst=E.map (o9 c us dl)/\Row w' 62 8 (.slice a (z++ps).length cap) (z++ps).length ((z++ps).flatMap jY)
   /\(∀p,p∈z++ps->kM w' p.2.1 p.1.txs/\kM w' p.2.2 p.1.deps)/\VX kb c vu us dl nb vo vw s0 E w'/\jJ (λk=>(k=kb\/vw.ownBlock=some k)\/v0.ownBlock=some k) w w'/\(∀g,(Value.slice a (z++ps).length cap).ownBlock=some g->v0.ownBlock=some g\/w.heap.size<=g):=by
 obtain⟨M,ah⟩:∃M:Nat->Prop,M=λk=>k=kb\/vw.ownBlock=some k:=⟨_,rfl⟩
 have au:∀k,M k->k<w.heap.size:=by
  rw[ah];rintro k (rfl|e)
  ·exact(jC hD.obj)
  ·exact hD.wait.lt e
 have aw:∀k cs t fz,w.heap[k]? =some (.cells cs t fz)->M k->t=137\/t=150:=by
  rw[ah];rintro k cs t fz hk (rfl|e)
  ·have:=hD.obj;rw[hk]at this;simp at this;exact .inl this.2.1
  ·obtain⟨bd,q⟩:=hD.wait.obj e;rw[hk]at q;simp at q;exact .inr q.2.1
 have ao:¬M cB:=λe=>by rcases aw cB _ _ _ aq e with h|h<;>revert h<;>decide
 have bl:∀g,v0.ownBlock=some g->¬M g:=λg hg e=>by
  obtain⟨bd,q⟩:=af.obj hg;rcases aw g _ _ _ q e with h|h<;>revert h<;>decide
 have aj:∀v l,kM w v l->∀g,v.ownBlock=some g->¬M g:=λv l h g hg e=>by
  obtain⟨bd,q⟩:=Row.obj h hg;rcases aw g _ _ _ q e with h|h<;>revert h<;>decide
 have a7:∀p,p∈s0.ws->∀g,p.2.ownBlock=some g->¬M g:=λp hp=>aj _ _ (hD.txs p hp);have ai:=IG kb cB c vu us dl nb vo vw s0 hG br hdl (by rw[ah]at ao;exact ao);have a9:=λ(E:List DX)(x:DX)(n:Nat)(W:World)(h:DY kb cB c vu us dl nb vo vw s0 E x n W)(hn:w.heap.size<=n)=>DY.pl h hn (by rw[ah]at au;exact au) (by rw[ah]at a7;exact a7)
 have ay:∀(E:List DX)(x:DX),Steps c us s0 (E++[x])->s0.cnt+E.length<4294967296:=λE x h=>by
  have h1:=PE h;have h2:=((hG E h1).1 bw).cnt;rw[(JD h1).2]at h2;exact h2
 rw[<-ah]at ai a9;obtain⟨a0,I,rfl⟩:=af.slice;rw[show(λk=>(k=kb\/vw.ownBlock=some k)\/(Value.slice a0 z.length I).ownBlock=some k)=(λk=>M k\/(Value.slice a0 z.length I).ownBlock=some k) from by rw[ah]];obtain⟨V,hV⟩:∃V:World,V=w.alloc (Obj.cells #[.slice a0 z.length I] 35):=⟨_,rfl⟩
 have b4:V.heap.size=w.heap.size+1:=by rw[hV];simp
 have ag:Below w.heap.size w V:=by rw[hV];exact(aB _ w).alloc jA _
 have bk:Boxed V w.heap.size 35 (.slice a0 z.length I):=by unfold Boxed;rw[hV];exact heap_alloc_new _ _
 have a1:=aq.lt;have a2:DK kb cB c vu us dl nb vo vw s0 [] V:=⟨⟨vw,hD.below ag,λg h=>h⟩,(ag.cell (p:=⟨cB,0,none⟩) a1).trans aq.cell⟩
 have bg:SJ c us dl M w.heap.size (.slice a0 z.length I) z w [] V:=⟨[],a0,I,⟨rfl,by simpa using bk,by simpa using af.below ag,λp hp=>by
  rw[fU]at hp;exact⟨Row.below (ap p hp).1 ag,Row.below (ap p hp).2 ag,aj _ _ (ap p hp).1,aj _ _ (ap p hp).2⟩,λg hg=>.inl (by simpa using hg),.below ag jA _,by omega⟩⟩
 have an:(∀g,(Value.slice a0 z.length I).ownBlock=some g->g≠cB)/\cB<w.heap.size:=⟨λg hg e=>jF af aq (by decide) (by rw[hg,e]),a1⟩
 have H0:Hid _:=jw ai (jw a9 (jw ay (jw au (jw bl (jw a2 (jw bg (jw ag az)))))));have bo:∀k,M k->k<V.heap.size:=λk hk=>by have:=au k hk;omega
 clear ai a9 ay bl a2 bg ag hD hG hdl aq af ap az aw ao aj a7 bk;refine callsIn_wide.1 (callsIn_of_wp_marks (n:=3) (fq Tryz.func40 rfl) rfl trivial ?_ rfl);simp only[Tryz.ntmps40,dL,aN,bM,Nat.reduceAdd,Nat.reduceSub,cO,bZ,dN,cZ,dM,dH];gi_wp2;rw[<-hV];clear hV;obtain⟨i0,hi,bq,bx,bu⟩:=info_parts Nr
 refine xG (gf:=75) (lb:=#[.pointer (some ⟨cB,0,none⟩)]) rfl (enters_of (fq Tryz.func75 rfl) (by kernel_rfl) rfl)
  (Ut H0.out.1) bo (λ_ _ _ _ _ h=>h) (DK.own kb cB c vu us dl nb vo vw s0 _) (VX.own kb c vu us dl nb vo vw s0 _) (λn=>DY.own kb cB c vu us dl nb vo vw s0 _ n) (λ_=>rfl)
  (SJ c us dl M w.heap.size (.slice a0 z.length I) z w) (λ_ _ _=>False) (SJ.own c us dl M w.heap.size _ z w _ (by omega)) (λ_ _ _ _ _ h=>h.elim) H0.out.2.2.2.2.2.2.1 H0.out.2.2.2.2.2.1
  (λx B=>{ tmps:=#[.slice a0 z.length I,.func (.func 75) #[] #[.pointer (some ⟨cB,0,none⟩)],.pointer (some ⟨w.heap.size,0,none⟩),undef,.slice none 0 0,.pointer (some ⟨B,0,none⟩),.func (.func 75) #[] #[.pointer (some ⟨cB,0,none⟩)],.agg x.lv.cells,undef,undef,undef,undef,undef],defers:=[] })
  (λx W=>W.alloc (.cells x.lv.cells 62)) (λ_ W k hk=>aT W _ k hk) (λ_ W=>by simp) (λ_ W l o hl=>xU W l _ o hl) ?assign ?body ?done ?stop
 case assign=>
  intro l x W K hK;simp only[DX.encs,DX.v,LV.cells]at hK⊢;gi_wp2;exact hK
 case body=>
  rintro l E x W0 W1 b1 b0 ⟨r,hr⟩ ⟨ps,a,cap,hI⟩ hc _ hy;have bv:w.heap.size<=W0.heap.size:=hI.jO.size;obtain⟨p,ax,av,ar⟩:=H0.out.2.1 E x _ W1 hy bv;have Y:=hI.turn hc (λe=>by have:=H0.out.2.2.2.1 _ e;omega) H0.out.2.2.2.2.1 H0.out.2.2.2.1;have b2:=H0.out.2.2.1 E x hy.1
  have bz:ps.length=E.length:=by
   have:=congrArg List.length hI.los;simpa using this
  have b3:=H0.out.2.2.2.2.2.2.2.2;have b5:=hc.size;obtain⟨N,hN⟩:∃N,(z++ps).length=N:=⟨_,rfl⟩
  have b7:N<4294967296:=by rw[<-hN,aJ];omega
  have am:=Y.box;have a8:=Y.row;rw[hN]at am a8;obtain⟨G,ba,gb,gk⟩:=jE W1 x.lv.cells 62;rw[<-ba];have gs:G.heap.size=W1.heap.size+1:=by rw[ba];simp
  clear ba;unfold LV.cells at gk;obtain⟨k0,k1,k2,k3,k4,k5,k6,k7,kf⟩:=kX gk;have bG:Boxed G w.heap.size 35 (.slice a N cap):=(gb.block _ am.lt).trans am;have m0:=bG.cell;have qG:Row G 62 8 (.slice a N cap) N ((z++ps).flatMap jY):=a8.below gb;have Hc:Hid _:=jw bG (jw qG (jw hy (jw Y (jw hc (jw ax (jw av (jw ar (jw gb (jw hN hI)))))))));clear bG qG hy Y hc ax av ar gb hN hI hr am a8 gk;gi_wp2_with (gi_at_builtin;refine uV _ (by rfl) (.tmp 8) (.tmp 10) 35 (by rfl) 62 i0 _ 8 96 (uq Tryz.underlying35) hi bq bx bu (by rfl) (by decide) _ N ((z++ps).flatMap jY) (by rfl) (Hc.out.2.1.below ((aB _ G).alloc jA _)) ⟨W1.heap.size+1,0,none⟩ 1 1 x.lv.cells.toList (by rfl) (by decide) (by rfl) (by intro j u J;rw[<-gs];unfold LV.cells at J;match j,J with|0,J=>(simp at J;subst J;simp[Addr.add])|1,J=>(simp at J;subst J;simp[Addr.add])|2,J=>(simp at J;subst J;simp[Addr.add])|3,J=>(simp at J;subst J;simp[Addr.add])|4,J=>(simp at J;subst J;simp[Addr.add])|5,J=>(simp at J;subst J;simp[Addr.add])|6,J=>(simp at J;subst J;simp[Addr.add])|7,J=>(simp at J;subst J;simp[Addr.add])) (by intro u hu;unfold LV.cells at hu;simp at hu;rcases hu with rfl|rfl|rfl|rfl|rfl|rfl|rfl|rfl<;>rfl) (by unfold maxLen;omega) (by omega) ?_;intro g off ae w4 aa ab;have e0:Boxed w4 w.heap.size 35 (.slice a N cap):=ab.keep (Hc.out.2.1.below ((aB _ G).alloc jA _)) (Hc.out.1.alloc _) (by decide);have n0:=e0.cell;have n1:=e0.frozen;have HF:Hid _:=jw aa (jw ab e0);clear aa ab e0)
  obtain⟨aa,ab,e0⟩:=HF.out;obtain⟨bG,qG,hy,Y,hc,ax,av,ar,gb,hN,hI⟩:=Hc.out;have e1:Boxed (w4.setCell ⟨w.heap.size,0,none⟩ (.slice (some ⟨g,off,none⟩) (N+1) ae)) w.heap.size 35 (.slice (some ⟨g,off,none⟩) (N+1) ae):=e0.set _;have bj:=(aB _ G).alloc jA (.cells x.lv.cells 62);have bn:=qG.below bj
  have e2:Row (w4.setCell ⟨w.heap.size,0,none⟩ (.slice (some ⟨g,off,none⟩) (N+1) ae)) 62 8 (.slice (some ⟨g,off,none⟩) (N+1) ae) (N+1) ((z++ps).flatMap jY++jY p):=by
   rw[ar];exact aa.jO (jJ.set w4 w.heap.size 0 _) (λq hq e=>jF aa e0 (by decide) (by rw[hq,e]))
  have ac:jJ (λk=>(Value.slice a N cap).ownBlock=some k\/k=w.heap.size) W1 (w4.setCell ⟨w.heap.size,0,none⟩ (.slice (some ⟨g,off,none⟩) (N+1) ae)):=
   (((jJ.below gb jA _).trans (jJ.below bj jA (λ_=>False)) (λ_ _ e=>e.elim)).trans ab.jO (λk _ e=>.inl e)).trans (jJ.set w4 w.heap.size 0 _) (λk _ e=>.inr e)
  have a6:KeepsOthers G (w4.setCell ⟨w.heap.size,0,none⟩ (.slice (some ⟨g,off,none⟩) (N+1) ae)):=((KeepsOthers.alloc G _).trans (ab.others bn)).trans (KeepsOthers.setCell _ _ _);rw[<-hN]at ac e1 e2
  obtain⟨hT,R⟩:=Y.more ax av ac e1 e2 (λq hq=>by
   rw[hN];have hq:g=q:=by simpa[Value.ownBlock]using hq
   subst hq;rcases ab.own with q|q
   ·exact .inl q
   ·refine .inr ?_;have q2:(G.alloc (.cells x.lv.cells 62)).heap.size<=g:=q;simp at q2;omega) jA
  rw[hN]at ac hT R;refine⟨a6.from _,?_,?_,_,_,_,R⟩
  ·obtain⟨⟨bs,h1,h2⟩,h3⟩:=hy.2.2.2.2;refine⟨⟨bs,h1.typed ac hT,h2⟩,?_⟩;refine(World.cell?_of_block (ac.block cB (fA W1 ⟨cB,0,none⟩ h3) ?_)).trans h3;rintro(e|e)
   ·rw[<-hN]at e;rcases Y.own cB e with q|q
    ·exact an.1 cB q rfl
    ·have:=an.2;omega
   ·have:=an.2;omega
  ·intro k b6 bh;refine(ac.block k bh ?_).trans (gb.block k bh).symm;rintro(e|e)
   ·rw[<-hN]at e;have:=hI.row.lt e;omega
   ·have:=hI.big;omega
 case done=>
  rintro D xs W0 W hD bp hS ⟨ps,a,cap,hI⟩ hc _ bb hK;have Y:=hI.turn hc (λe=>by have:=H0.out.2.2.2.1 _ e;omega) H0.out.2.2.2.2.1 H0.out.2.2.2.1;have m0:=Y.box.cell;have bm:=grownBy_putObj' W D (.deferred none)
  obtain⟨M',a5,a4,a3⟩:=lN (n:=w.heap.size) bm (λr e=>by
   have e:D=r:=by simpa using e
   subst e;exact⟨by omega,_,hK,rfl⟩)
  have R:=Y.mZ a5 a4 a3;have ak:VX kb c vu us dl nb vo vw s0 xs (W.putObj D (.deferred none)):=DA.own bb a5 a4;have HF:Hid _:=jw R (jw ak hS);clear hI Y R bb ak hc a5 a4 a3 bm hS;gi_wp2;refine⟨by simp,.inl ⟨_,_,rfl,run_takeDeferred hK,?_⟩⟩;obtain⟨R,ak,hS⟩:=HF.out;exact⟨.slice a (z++ps).length cap,by simp[results,Tryz.results40,go_sem],xs,ps,a,cap,rfl,hS,R.los,R.row,λp hp=>⟨(R.at_ p hp).txs,(R.at_ p hp).deps⟩,ak,R.jO,R.own⟩
 case stop=>
  rintro D c E W0 W hD bp _ h;exact h.elim
end Hm
namespace Hm
open Go.RowKit Go.Joins Go.Shelf
theorem KJ(kb:Nat)(w:World):Calls PQ 41 #[.pointer (some ⟨kb,0,none⟩)] w λe w'=>e=.returned (.func (.func 75) #[] #[.pointer (some ⟨w.heap.size,0,none⟩)])/\w'=w.alloc (.cells #[.pointer (some ⟨kb,0,none⟩)] 93):=by
 go_enter (fq Tryz.func41 rfl),Tryz.ntmps41;go_wp2_with fail;go_ret;exact⟨rfl,rfl⟩
open Fr (below_drewN)
open Dv (U Cf Ba Ch)
section
variable {u1 u3 u6 u7 u8 u9 u10 u11 u12 u13 u14 u15 u16 u17 u18 u19 u20 u21 u22 u23 u24 u25 u26 u27 u28 u29 u30 u31 u32 u0 u4 u5 u2:Value}{Q:Exit->Act->World->Prop}
noncomputable def OV:Code:=match Tryz.f12.body with
 |some (.seq c _)=>c
 |_=>.skip
noncomputable def Fz:Code:=match Tryz.f12.body with
 |some (.seq _ (.seq c _))=>c
 |_=>.skip
noncomputable def Ez:Code:=match Tryz.f12.body with
 |some (.seq _ (.seq _ (.seq c _)))=>c
 |_=>.skip
noncomputable def Ol:Code:=match Tryz.f12.body with
 |some (.seq _ (.seq _ (.seq _ (.seq c _))))=>c
 |_=>.skip
noncomputable def OC:Code:=match Tryz.f12.body with
 |some (.seq _ (.seq _ (.seq _ (.seq _ (.seq c _)))))=>c
 |_=>.skip
noncomputable def OT:Code:=match Tryz.f12.body with
 |some (.seq _ (.seq _ (.seq _ (.seq _ (.seq _ (.seq (.seq c _) _))))))=>c
 |_=>.skip
noncomputable def allL:Code:=match Tryz.f12.body with
 |some (.seq _ (.seq _ (.seq _ (.seq _ (.seq _ (.seq (.seq _ (.block _ (.loop c))) _))))))=>c
 |_=>.skip
noncomputable def yh:Code:=match Tryz.f12.body with
 |some (.seq _ (.seq _ (.seq _ (.seq _ (.seq _ (.seq _ (.seq c _)))))))=>c
 |_=>.skip
noncomputable def Em:Code:=match allL with
 |.seq c _=>c
 |_=>.skip
noncomputable def FD:Code:=match allL with
 |.seq _ (.seq _ (.seq (.block _ (.seq c _)) _))=>c
 |_=>.skip
noncomputable def yH:Code:=match allL with
 |.seq _ (.seq _ (.seq (.block _ (.seq _ (.seq c _))) _))=>c
 |_=>.skip
noncomputable def yT:Code:=match allL with
 |.seq _ (.seq _ (.seq (.block _ (.seq _ (.seq _ c))) _))=>c
 |_=>.skip
noncomputable def yJ:Code:=match allL with
 |.seq _ (.seq _ (.seq _ c))=>c
 |_=>.skip
theorem UC:Tryz.f12.body=some (.seq OV (.seq Fz (.seq Ez (.seq Ol (.seq OC (.seq (.seq OT (.block 0 (.loop allL))) (.seq yh .ret))))))):=by kernel_rfl
theorem Je:allL=.seq Em (.seq (.cond (.tmp 21) .skip (.exit 0)) (.seq (.block 1 (.seq FD (.seq yH yT))) yJ)):=by kernel_rfl
theorem Z5{u2 u4 u5:Value}(c:Cf)(w:World)
  (z:Q .normal { tmps:=#[.agg #[.int .u32 c.inbox,.int .u32 c.batcher,.int .i64 c.timeout,.int .i64 c.window,.int .i64 c.drift,.int .i64 c.step,.int .i64 c.most],u1,.pointer (some ⟨w.heap.size,0,none⟩),u3,.slice none 0 0,.int .i64 0,u6,u7,u8,u9,u10,u11,u12,u13,u14,u15,u16,u17,u18,u19,u20,u21,u22,u23,u24,u25,u26,u27,u28,u29,u30,u31,u32],defers:=[] } (w.alloc (.cells #[.int .u32 c.inbox,.int .u32 c.batcher,.int .i64 c.timeout,.int .i64 c.window,.int .i64 c.drift,.int .i64 c.step,.int .i64 c.most] 24))):
  OV.wp PQ Q { tmps:=#[.agg #[.int .u32 c.inbox,.int .u32 c.batcher,.int .i64 c.timeout,.int .i64 c.window,.int .i64 c.drift,.int .i64 c.step,.int .i64 c.most],u1,u2,u3,u4,u5,u6,u7,u8,u9,u10,u11,u12,u13,u14,u15,u16,u17,u18,u19,u20,u21,u22,u23,u24,u25,u26,u27,u28,u29,u30,u31,u32],defers:=[] } w:=by
 simp only[OV,Tryz.f12];go_wp2_with fail;exact z
theorem Y6{u10 u11 u12:Value}(c:Cf)(E:Nat)(w:World)(k0:w.cell? ⟨E,0,none⟩=some (.int .u32 c.inbox))(k1:w.cell? ⟨E,1,none⟩=some (.int .u32 c.batcher))(k2:w.cell? ⟨E,2,none⟩=some (.int .i64 c.timeout))(k3:w.cell? ⟨E,3,none⟩=some (.int .i64 c.window))(k4:w.cell? ⟨E,4,none⟩=some (.int .i64 c.drift))(k5:w.cell? ⟨E,5,none⟩=some (.int .i64 c.step))(k6:w.cell? ⟨E,6,none⟩=some (.int .i64 c.most))(I:Dv.jP c=true)
  (R:∀Y,Below w.heap.size w Y->Q .normal { tmps:=#[u0,u1,.pointer (some ⟨E,0,none⟩),u3,u4,u5,u6,u7,u8,u9,.agg #[.int .u32 c.inbox,.int .u32 c.batcher,.int .i64 c.timeout,.int .i64 c.window,.int .i64 c.drift,.int .i64 c.step,.int .i64 c.most],.bool true,.bool false,u13,u14,u15,u16,u17,u18,u19,u20,u21,u22,u23,u24,u25,u26,u27,u28,u29,u30,u31,u32],defers:=[] } Y):
  Fz.wp PQ Q { tmps:=#[u0,u1,.pointer (some ⟨E,0,none⟩),u3,u4,u5,u6,u7,u8,u9,u10,u11,u12,u13,u14,u15,u16,u17,u18,u19,u20,u21,u22,u23,u24,u25,u26,u27,u28,u29,u30,u31,u32],defers:=[] } w:=by
 have z:=Cj c w;rw[I]at z;have H:Hid _:=z;have HQ:Hid _:=R;clear z R I;simp only[Fz,Tryz.f12];go_wp2_with (go_at_call 36;refine aK H.out ?_;rintro e5 w5 ⟨rfl,J⟩)
 exact HQ.out _ J
theorem Ns{u4 u5 u10 u11 u12:Value}(c:Cf)(E:Nat)(w:World)(k0:w.cell? ⟨E,0,none⟩=some (.int .u32 c.inbox))(k1:w.cell? ⟨E,1,none⟩=some (.int .u32 c.batcher))(k2:w.cell? ⟨E,2,none⟩=some (.int .i64 c.timeout))(k3:w.cell? ⟨E,3,none⟩=some (.int .i64 c.window))(k4:w.cell? ⟨E,4,none⟩=some (.int .i64 c.drift))(k5:w.cell? ⟨E,5,none⟩=some (.int .i64 c.step))(k6:w.cell? ⟨E,6,none⟩=some (.int .i64 c.most))(I:Dv.jP c=false)
  (R:∀Y,Below w.heap.size w Y->Q .ret { tmps:=#[u0,u1,.pointer (some ⟨E,0,none⟩),u3,.slice none 0 0,.int .i64 1,u6,u7,u8,u9,.agg #[.int .u32 c.inbox,.int .u32 c.batcher,.int .i64 c.timeout,.int .i64 c.window,.int .i64 c.drift,.int .i64 c.step,.int .i64 c.most],.bool false,.bool true,u13,u14,u15,u16,u17,u18,u19,u20,u21,u22,u23,u24,u25,u26,u27,u28,u29,u30,u31,u32],defers:=[] } Y):
  Fz.wp PQ Q { tmps:=#[u0,u1,.pointer (some ⟨E,0,none⟩),u3,u4,u5,u6,u7,u8,u9,u10,u11,u12,u13,u14,u15,u16,u17,u18,u19,u20,u21,u22,u23,u24,u25,u26,u27,u28,u29,u30,u31,u32],defers:=[] } w:=by
 have z:=Cj c w;rw[I]at z;have H:Hid _:=z;have HQ:Hid _:=R;clear z R I;simp only[Fz,Tryz.f12];go_wp2_with (go_at_call 36;refine aK H.out ?_;rintro e5 w5 ⟨rfl,J⟩)
 exact HQ.out _ J
theorem Z7{u13 u14 u15:Value}(R:Option Addr)(n vc:Nat)(ps:List PU)(w:World)(I:lI w (.slice R n vc) ps)(E:ps.length<=4294967296)(J:Dv.jR (ps.map Prod.fst)=true)
  (hQ:∀W',Below w.heap.size w W'->Q .normal { tmps:=#[u0,.slice R n vc,u2,u3,u4,u5,u6,u7,u8,u9,u10,u11,u12,.slice R n vc,.bool true,.bool false,u16,u17,u18,u19,u20,u21,u22,u23,u24,u25,u26,u27,u28,u29,u30,u31,u32],defers:=[] } W'):
  Ez.wp PQ Q { tmps:=#[u0,.slice R n vc,u2,u3,u4,u5,u6,u7,u8,u9,u10,u11,u12,u13,u14,u15,u16,u17,u18,u19,u20,u21,u22,u23,u24,u25,u26,u27,u28,u29,u30,u31,u32],defers:=[] } w:=by
 have z:=Fq _ ps w I E;rw[J]at z;have H:Hid _:=z;have HQ:Hid _:=hQ;clear z hQ J I E;simp only[Ez,Tryz.f12];go_wp2_with (go_at_call 37;refine aK H.out ?_;rintro e5 w5 ⟨rfl,Y⟩)
 exact HQ.out _ Y
theorem KH{u4 u5 u13 u14 u15:Value}(R:Option Addr)(n vc:Nat)(ps:List PU)(w:World)(I:lI w (.slice R n vc) ps)(E:ps.length<=4294967296)(J:Dv.jR (ps.map Prod.fst)=false)
  (hQ:∀W',Below w.heap.size w W'->Q .ret { tmps:=#[u0,.slice R n vc,u2,u3,.slice none 0 0,.int .i64 2,u6,u7,u8,u9,u10,u11,u12,.slice R n vc,.bool false,.bool true,u16,u17,u18,u19,u20,u21,u22,u23,u24,u25,u26,u27,u28,u29,u30,u31,u32],defers:=[] } W'):
  Ez.wp PQ Q { tmps:=#[u0,.slice R n vc,u2,u3,u4,u5,u6,u7,u8,u9,u10,u11,u12,u13,u14,u15,u16,u17,u18,u19,u20,u21,u22,u23,u24,u25,u26,u27,u28,u29,u30,u31,u32],defers:=[] } w:=by
 have z:=Fq _ ps w I E;rw[J]at z;have H:Hid _:=z;have HQ:Hid _:=hQ;clear z hQ J I E;simp only[Ez,Tryz.f12];go_wp2_with (go_at_call 37;refine aK H.out ?_;rintro e5 w5 ⟨rfl,Y⟩)
 exact HQ.out _ Y
theorem Y3{u6:Value}(w:World)
  (z:Q .normal { tmps:=#[u0,u1,u2,u3,u4,u5,.slice none 0 0,u7,u8,u9,u10,u11,u12,u13,u14,u15,u16,u17,u18,u19,u20,u21,u22,u23,u24,u25,u26,u27,u28,u29,u30,u31,u32],defers:=[] } w):
  Ol.wp PQ Q { tmps:=#[u0,u1,u2,u3,u4,u5,u6,u7,u8,u9,u10,u11,u12,u13,u14,u15,u16,u17,u18,u19,u20,u21,u22,u23,u24,u25,u26,u27,u28,u29,u30,u31,u32],defers:=[] } w:=by
 simp only[Ol,Tryz.f12];go_wp2_with fail;exact z
theorem Zf{u7 u16 u17:Value}(c:Cf)(E:Nat)(w:World)(k0:w.cell? ⟨E,0,none⟩=some (.int .u32 c.inbox))(k1:w.cell? ⟨E,1,none⟩=some (.int .u32 c.batcher))(k2:w.cell? ⟨E,2,none⟩=some (.int .i64 c.timeout))(k3:w.cell? ⟨E,3,none⟩=some (.int .i64 c.window))(k4:w.cell? ⟨E,4,none⟩=some (.int .i64 c.drift))(k5:w.cell? ⟨E,5,none⟩=some (.int .i64 c.step))(k6:w.cell? ⟨E,6,none⟩=some (.int .i64 c.most))
  (J:∀R,R=((w.alloc (.cells (jG c) 24)).alloc (.map #[] 0)).alloc (.cells (jK c (.slice none 0 0) (w.heap.size+1) (.slice none 0 0) (.slice none 0 0) 0 0 0) 137)->Q .normal { tmps:=#[u0,u1,.pointer (some ⟨E,0,none⟩),u3,u4,u5,u6,.pointer (some ⟨w.heap.size+2,0,none⟩),u8,u9,u10,u11,u12,u13,u14,u15,.agg #[.int .u32 c.inbox,.int .u32 c.batcher,.int .i64 c.timeout,.int .i64 c.window,.int .i64 c.drift,.int .i64 c.step,.int .i64 c.most],.pointer (some ⟨w.heap.size+2,0,none⟩),u18,u19,u20,u21,u22,u23,u24,u25,u26,u27,u28,u29,u30,u31,u32],defers:=[] } R):
  OC.wp PQ Q { tmps:=#[u0,u1,.pointer (some ⟨E,0,none⟩),u3,u4,u5,u6,u7,u8,u9,u10,u11,u12,u13,u14,u15,u16,u17,u18,u19,u20,u21,u22,u23,u24,u25,u26,u27,u28,u29,u30,u31,u32],defers:=[] } w:=by
 have z:=new_any c w;have H:Hid _:=z;have Y:Hid _:=J;clear z J;simp only[OC,Tryz.f12];go_wp2_with (go_at_call 38;refine aK H.out ?_;rintro e5 w5 ⟨rfl,I⟩;have HW:Hid _:=I;clear I)
 exact Y.out _ HW.out
theorem YQ{u18 u19 u20:Value}(z:Option Addr)(n vc:Nat)(w:World)
  (E:Q .normal { tmps:=#[u0,.slice z n vc,u2,u3,u4,u5,u6,u7,u8,u9,u10,u11,u12,u13,u14,u15,u16,u17,.slice z n vc,.int .i64 n,.int .i64 0,u21,u22,u23,u24,u25,u26,u27,u28,u29,u30,u31,u32],defers:=[] } w):
  OT.wp PQ Q { tmps:=#[u0,.slice z n vc,u2,u3,u4,u5,u6,u7,u8,u9,u10,u11,u12,u13,u14,u15,u16,u17,u18,u19,u20,u21,u22,u23,u24,u25,u26,u27,u28,u29,u30,u31,u32],defers:=[] } w:=by
 simp only[OT,Tryz.f12];go_wp2_with fail;exact E
theorem U4{u21:Value}(j n:Nat)(w:World)
  (z:Q .normal { tmps:=#[u0,u1,u2,u3,u4,u5,u6,u7,u8,u9,u10,u11,u12,u13,u14,u15,u16,u17,u18,.int .i64 n,.int .i64 j,.bool (decide (j<n)),u22,u23,u24,u25,u26,u27,u28,u29,u30,u31,u32],defers:=[] } w):
  Em.wp PQ Q { tmps:=#[u0,u1,u2,u3,u4,u5,u6,u7,u8,u9,u10,u11,u12,u13,u14,u15,u16,u17,u18,.int .i64 n,.int .i64 j,u21,u22,u23,u24,u25,u26,u27,u28,u29,u30,u31,u32],defers:=[] } w:=by
 simp only[Em,allL,Tryz.f12];go_wp2_with fail;exact z
theorem Zj{u9 u22 u23:Value}(g off n vc j:Nat)(id I:Int)(ta:Option Addr)(tn tc:Nat)(E:Option Addr)(J z:Nat)(w:World)(hj:j<n)(k0:w.cell? ⟨g,off+j*4,none⟩=some (.int .i64 id))(k1:w.cell? ⟨g,off+j*4+1,none⟩=some (.int .i64 I))(k2:w.cell? ⟨g,off+j*4+2,none⟩=some (.slice ta tn tc))(k3:w.cell? ⟨g,off+j*4+3,none⟩=some (.slice E J z))
  (R:∀Y,Y.heap=(w.alloc (.cells #[.int .i64 id,.int .i64 I,.slice ta tn tc,.slice E J z] 42)).heap->Q .normal { tmps:=#[u0,u1,u2,u3,u4,u5,u6,u7,u8,.pointer (some ⟨w.heap.size,0,none⟩),u10,u11,u12,u13,u14,u15,u16,u17,.slice (some ⟨g,off,none⟩) n vc,u19,.int .i64 j,u21,.pointer (some ⟨g,off+j*4,none⟩),.agg #[.int .i64 id,.int .i64 I,.slice ta tn tc,.slice E J z],u24,u25,u26,u27,u28,u29,u30,u31,u32],defers:=[] } Y):
  FD.wp PQ Q { tmps:=#[u0,u1,u2,u3,u4,u5,u6,u7,u8,u9,u10,u11,u12,u13,u14,u15,u16,u17,.slice (some ⟨g,off,none⟩) n vc,u19,.int .i64 j,u21,u22,u23,u24,u25,u26,u27,u28,u29,u30,u31,u32],defers:=[] } w:=by
 have aa:(0:Int)<=j:=by omega
 have ab:(j:Int)<n:=by omega
 have HQ:Hid _:=R;clear R;simp only[FD,allL,Tryz.f12];go_wp2_with fail;exact HQ.out _ rfl
theorem XJ{u31:Value}(j:Nat)(w:World)(E:j<=4294967296)
  (z:Q .normal { tmps:=#[u0,u1,u2,u3,u4,u5,u6,u7,u8,u9,u10,u11,u12,u13,u14,u15,u16,u17,u18,u19,.int .i64 ((j+1:Nat):Int),u21,u22,u23,u24,u25,u26,u27,u28,u29,u30,.int .i64 ((j+1:Nat):Int),u32],defers:=[] } w):
  yJ.wp PQ Q { tmps:=#[u0,u1,u2,u3,u4,u5,u6,u7,u8,u9,u10,u11,u12,u13,u14,u15,u16,u17,u18,u19,.int .i64 j,u21,u22,u23,u24,u25,u26,u27,u28,u29,u30,u31,u32],defers:=[] } w:=by
 have hw:IntKind.i64.wrap ((j:Int)+1)=((j+1:Nat):Int):=by rw[IntKind.wrap_i64];omega
 simp only[yJ,allL,Tryz.f12];go_wp2_with fail;exact z
theorem WB{u4 u5 u32:Value}(z:Option Addr)(n vc:Nat)(w:World)
  (E:Q .normal { tmps:=#[u0,u1,u2,u3,.slice z n vc,.int .i64 0,.slice z n vc,u7,u8,u9,u10,u11,u12,u13,u14,u15,u16,u17,u18,u19,u20,u21,u22,u23,u24,u25,u26,u27,u28,u29,u30,u31,.slice z n vc],defers:=[] } w):
  yh.wp PQ Q { tmps:=#[u0,u1,u2,u3,u4,u5,.slice z n vc,u7,u8,u9,u10,u11,u12,u13,u14,u15,u16,u17,u18,u19,u20,u21,u22,u23,u24,u25,u26,u27,u28,u29,u30,u31,u32],defers:=[] } w:=by
 simp only[yh,Tryz.f12];go_wp2_with fail;exact E
theorem Xd{u27 u28 u29 u30:Value}(kb:Nat)(J:Option Addr)(I z:Nat)(R:Option Addr->Nat->Nat->World->Prop)(w:World)(hc:Calls PQ 40 #[.slice J I z,.func (.func 75) #[] #[.pointer (some ⟨w.heap.size,0,none⟩)]] (w.alloc (.cells #[.pointer (some ⟨kb,0,none⟩)] 93)) (λe E=>∃a n cap,e=.returned (.slice a n cap)/\R a n cap E))
  (Y:∀a n cap E,R a n cap E->Q .normal { tmps:=#[u0,u1,u2,u3,u4,u5,.slice a n cap,.pointer (some ⟨kb,0,none⟩),u8,u9,u10,u11,u12,u13,u14,u15,u16,u17,u18,u19,u20,u21,u22,u23,u24,u25,u26,.slice J I z,.pointer (some ⟨kb,0,none⟩),.func (.func 75) #[] #[.pointer (some ⟨w.heap.size,0,none⟩)],.slice a n cap,u31,u32],defers:=[] } E):
  yT.wp PQ Q { tmps:=#[u0,u1,u2,u3,u4,u5,.slice J I z,.pointer (some ⟨kb,0,none⟩),u8,u9,u10,u11,u12,u13,u14,u15,u16,u17,u18,u19,u20,u21,u22,u23,u24,u25,u26,u27,u28,u29,u30,u31,u32],defers:=[] } w:=by
 have H1:Hid _:=KJ kb w;have H2:Hid _:=hc;have HQ:Hid _:=Y;clear hc Y;simp only[yT,allL,Tryz.f12];go_wp2_with (first|(go_at_call 41;refine aK H1.out ?_;rintro e5 w5 ⟨rfl,rfl⟩)|(go_at_call 40;refine aK H2.out ?_;rintro e6 w6 ⟨a,n,cap,rfl,h6⟩;have HR:Hid _:=h6;clear h6))
 exact HQ.out _ _ _ _ HR.out
end
open Dv (U Cf Ba Ch Lo St)
section
variable {n i:Nat}{b:Ba}{us:List PB}{x:PB}
theorem zO{l:Im.It}(h:Dv.ru l n=some b):b.place=n:=by
 unfold Dv.ru at h;split at h
 ·split at h
  ·cases h
  ·split at h
   ·split at h
    ·cases h;rfl
    ·cases h
   ·cases h
 ·cases h
theorem Ed{i:Im.It}(h:Dv.xJ i n=some b):b.place=n:=by
 unfold Dv.xJ at h;split at h
 ·cases h
 ·split at h
  ·cases h
  ·split at h
   ·rw[Option.bind_eq_some_iff]at h;obtain⟨l,_,h⟩:=h;exact zO h
   ·cases h
theorem JZ:∀(f:Nat)(s:List UInt8)(n:Nat)(b:Ba),b∈Dv.rd f s n->b.epoch<=n/\b.place=n
 |0,s,n,b,h=>by simp[Dv.rd]at h
 |f+1,s,n,b,h=>by
  rw[Dv.rd]at h;split at h
  ·simp at h
  ·split at h
   ·simp at h
   ·split at h
    ·simp at h
    ·rename_i x z;rcases dG.1 h with h|h
     ·split at h
      ·rw[dD.1 h];exact⟨‹_›,Ed z⟩
      ·simp at h
     ·exact JZ f _ n b h
theorem LK{c:Cf}{u:U}{cs:List Ch}{wait:List Ba}(h:b∈(Dv.take c u n cs wait).2):b∈wait\/(b.epoch<=n/\b.place=n):=by
 unfold Dv.take at h;simp only at h;rcases dG.1 h with h|h
 ·exact .inl h
 ·obtain⟨s,_,hs⟩:=List.mem_flatMap.1 h;exact .inr (JZ _ _ _ _ hs)
structure RM(c:Cf)(chain:List U)(j:Nat)(us:List PB)(dl:Nat->List (List UInt8))(s:rM)(cs:List Ch)(log:List Lo):Prop where
 len:us.length=j
 id:∀i,i<j->Ey us i=(chain[i]!).id
 time:∀i,i<j->zN us i=(chain[i]!).time
 deps:∀i,i<j->dl i=Dv.jL (chain[i]!)
 chs:cs=(Dv.gone c chain j).chs
 wait:s.ws.map Prod.fst=(Dv.gone c chain j).wait
 ws:∀p,p∈s.ws->p.1.epoch<j/\p.1.place<=4294967296
 zero:j=0->log=[]/\s.cnt=0/\s.ep=0/\s.sq=0
 some:0<j->log=(Dv.gone c chain j).log/\Hs c us (log.getLastD default) s/\s.ep<j/\s.sq<=s.cnt
theorem RM.start(c:Cf)(chain:List U)(dl:Nat->List (List UInt8)):RM c chain 0 [] dl ⟨[],0,0,0⟩ [] []:=
 ⟨rfl,λi h=>by omega,λi h=>by omega,λi h=>by omega,rfl,rfl,λp h=>by simp at h,λ_=>⟨rfl,rfl,rfl,rfl⟩,λh=>by omega⟩
section
variable {c:Cf}{chain:List U}{j:Nat}{us:List PB}{dl:Nat->List (List UInt8)}{s:rM}{cs:List Ch}{log:List Lo}
theorem XC(h:i<us.length):Ey (us++[x]) i=Ey us i:=by
 unfold Ey;rw[aS,aS,bP h]
theorem WM(h:i<us.length):zN (us++[x]) i=zN us i:=by
 unfold zN;rw[aS,aS,bP h]
theorem Ye:Ey (us++[x]) us.length=x.1:=by
 unfold Ey;rw[aS,bK jA,Nat.sub_self];rfl
theorem X3:zN (us++[x]) us.length=x.2.1:=by
 unfold zN;rw[aS,bK jA,Nat.sub_self];rfl
structure RT(c:Cf)(chain:List U)(j:Nat)(us:List PB)(dl:Nat->List (List UInt8))(s:rM)(cs:List Ch)(log:List Lo):Prop where
 lk:Lk chain us dl
 len:us.length=j+1
 take:(cs,s.ws.map Prod.fst)=Dv.take c (chain[j]!) j (Dv.gone c chain j).chs (Dv.gone c chain j).wait
 ws:∀p,p∈s.ws->p.1.epoch<us.length/\p.1.place<=4294967296
 zero:j=0->log=[]/\s.cnt=0/\s.ep=0/\s.sq=0
 some:0<j->log=(Dv.gone c chain j).log/\Hs c us (log.getLastD default) s/\s.ep<us.length/\s.sq<=s.cnt
theorem RM.took(h:RM c chain j us dl s cs log)(hj:j<chain.length)(I:j<=60){v:Value}{ws':List PW}{cs':List Ch}(ht:(cs',ws'.map Prod.fst)=Dv.take c (chain[j]!) j cs (s.ws.map Prod.fst)):
  RT c chain j (us++[((chain[j]!).id,(chain[j]!).time,v)]) (λi=>if i=us.length then Dv.jL (chain[j]!)else dl i) ⟨ws',s.cnt,s.ep,s.sq⟩ cs' log:=by
 have E:=h.len;have z:(us++[((chain[j]!).id,(chain[j]!).time,v)]).length=j+1:=by simp[E]
 rw[h.chs,h.wait]at ht;refine⟨⟨by omega,by omega,λi J=>?_,λi J=>?_,λi J=>?_⟩,z,ht,λp hp=>?_,λe=>h.zero e,λe=>?_⟩
 ·by_cases e:i=us.length
  ·rw[e,Ye,E]
  ·rw[XC (by omega)];exact h.id i (by omega)
 ·by_cases e:i=us.length
  ·rw[e,X3,E]
  ·rw[WM (by omega)];exact h.time i (by omega)
 ·by_cases e:i=us.length
  ·rw[if_pos e,e,E]
  ·rw[if_neg e];exact h.deps i (by omega)
 ·have Y:p.1∈(Dv.take c (chain[j]!) j (Dv.gone c chain j).chs (Dv.gone c chain j).wait).2:=by
   rw[<-ht];exact bC.2 ⟨p,hp,rfl⟩
  rw[z];rcases LK Y with q|⟨q1,q2⟩
  ·rw[<-h.wait]at q;obtain⟨p',hp',e⟩:=bC.1 q;have:=h.ws p' hp';rw[e]at this;omega
  ·omega
 ·obtain⟨R,h2,h3,h4⟩:=h.some e;refine⟨R,⟨h2.number,h2.time.trans ?_,h2.epoch,h2.seq⟩,by show s.ep<_;omega,h4⟩;unfold lF;rw[aS,aS,bP (by omega)]
theorem RT.fit(h:RT c chain j us dl s cs log)(J:Dv.jR chain=true)(aa:Dv.jP c=true)(hj:j<chain.length)(R:0<j):∃T,T<4294967296/\Ok c chain us T (log.getLastD default) s:=by
 obtain⟨h1,h2,h3,h4⟩:=h.some R;have ab:=(Dv.kJ J).2.1;have hF:=Dv.rJ J aa j (by omega);have I:=Dv.take_len c (chain[j]!) j (Dv.gone c chain j).chs (Dv.gone c chain j).wait (Dv.nY chain none (Dv.kJ J).2.2.1 j hj);rw[<-h.take]at I;simp only[aU]at I;have hm:=hF.much;unfold Dv.much at hm;have ht:=Dv.rY J (i:=j-1) (j:=j) (by omega) hj;have z:=hF.number;have Y:=hF.epoch;rw[<-h1]at hm z Y
 have E:s.cnt=log.length:=by
  rw[<-z];exact h2.number.symm
 refine⟨s.cnt+Dv.left chain (us.length-1) (log.getLastD default) (s.ws.map Prod.fst),?_,h2,h3,h.ws,jA,h4⟩;unfold Dv.left;rw[h.len,E,aU];simp only[Nat.add_sub_cancel];omega
theorem RT.good(h:RT c chain j us dl s cs log)(J:Dv.jR chain=true)(z:Dv.jP c=true)(hj:j<chain.length):Good c us s:=by
 rcases gB j with I|I
 ·obtain⟨_,R,e2,Y⟩:=h.zero I
  have hs:s=⟨s.ws,0,0,0⟩:=by
   cases s;simp only at R e2 Y;subst R e2 Y;rfl
  rw[hs];have E:=Dv.take_len c (chain[j]!) j (Dv.gone c chain j).chs (Dv.gone c chain j).wait (Dv.nY chain none (Dv.kJ J).2.2.1 j hj);rw[<-h.take,I]at E;simp only[Dv.gone,Dv.start,aU,bM]at E;exact MI h.lk J z (by rw[h.len,I]) (by omega) h.ws
 ·obtain⟨T,hT,o⟩:=h.fit J z hj I;exact Xe h.lk J z hT o
theorem RT.drawn(h:RT c chain j us dl s cs log)(hc:Dv.jR chain=true)(Y:Dv.jP c=true)(hj:j<chain.length){E:List DX}(hp:DS c us s E):
  RM c chain (j+1) us dl ⟨(jH c us (jI s E).ws (jI s E).cnt (jI s E).ep).2,(jI s E).cnt,(jI s E).ep,(jI s E).sq⟩ cs (log++E.map (o9 c us dl)):=by
 have hl:=h.len;have ac:cs=(Dv.take c (chain[j]!) j (Dv.gone c chain j).chs (Dv.gone c chain j).wait).1:=by rw[<-h.take]
 have ab:s.ws.map Prod.fst=(Dv.take c (chain[j]!) j (Dv.gone c chain j).chs (Dv.gone c chain j).wait).2:=by rw[<-h.take]
 have main:∀(R:Lo)(s0:rM)(r:List DX)(T:Nat),Ok c chain us T R s0->s0.ws=s.ws->(Dv.gone c chain j).log.getLastD default=R->(Dv.gone c chain j).log≠[]->wF c us s0 r->jI s0 r=jI s E->log++E.map (o9 c us dl)=(Dv.gone c chain j).log++r.map (o9 c us dl)->
   RM c chain (j+1) us dl ⟨(jH c us (jI s E).ws (jI s E).cnt (jI s E).ep).2,(jI s E).cnt,(jI s E).ep,(jI s E).sq⟩ cs (log++E.map (o9 c us dl)):=by
  intro R s0 r T o e1 e2 e3 f e4 e5;have hn:=hp.2;rw[<-e4]at hn;have hd:=Steps.draws h.lk hc Y f o hn;obtain⟨z,oz,hz⟩:=f.ok h.lk hc Y o;rw[e4]at oz hd;rw[hl]at hd;simp only[Nat.add_sub_cancel]at hd;rw[e1,ab]at hd
  have I:Dv.gone c chain (j+1)=⟨(Dv.take c (chain[j]!) j (Dv.gone c chain j).chs (Dv.gone c chain j).wait).1,(jH c us (jI s E).ws (jI s E).cnt (jI s E).ep).2.map Prod.fst,(Dv.gone c chain j).log++r.map (o9 c us dl)⟩:=by
   rw[Dv.gone,Dv.step,e2,hd]
  refine⟨hl,λi hi=>h.lk.id i (by omega),λi hi=>h.lk.time i (by omega),λi hi=>h.lk.deps i (by omega),by rw[I];exact ac,by rw[I],λp hp=>?_,λe=>by omega,λ_=>⟨by rw[I];exact e5,?_,by have:=oz.ep;show(jI s E).ep<_;omega,oz.sq⟩⟩
  ·have:=oz.ws p (sD p hp);omega
  ·have ae:(log++E.map (o9 c us dl)).getLastD default=z:=by
    rw[e5,Dv.lU _ _ e3,e2,hz]
   rw[ae];exact⟨oz.hs.number,oz.hs.time,oz.hs.epoch,oz.hs.seq⟩
 rcases gB j with R|R
 ·obtain⟨e0,e1,e2,e3⟩:=h.zero R
  have hs:s=⟨s.ws,0,0,0⟩:=by
   cases s;simp only at e1 e2 e3;subst e1 e2 e3;rfl
  have hu:us.length=1:=by omega
  have J:=hp.1.Xt;rw[hs]at J;rcases AQ hu J with rfl|⟨x,r,rfl,q1,q2,q3,q4,q5⟩
  ·exfalso;have hn:=hp.2;have el:jI s []=s:=rfl;rw[el,e1,e2,BR hu]at hn;cases hn
  ·have hg:(Dv.gone c chain j).log=[Dv.first (chain[0]!)]:=by rw[R];rfl
   refine main (Dv.first (chain[0]!)) ⟨s.ws,1,0,0⟩ r (1+s.ws.length) (CG h.lk hu h.ws) rfl (by rw[hg];rfl) (by rw[hg];simp) q5 ?_ ?_
   ·unfold jI;rw[List.foldl_cons,q4]
   ·rw[e0,hg,dW,Nq h.lk hu q1 q2 q3 q4];rfl
 ·obtain⟨T,hT,o⟩:=h.fit hc Y hj R;obtain⟨g1,_⟩:=h.some R;have aa:=(Dv.rJ hc Y j (by omega)).some;exact main (log.getLastD default) s E T o rfl (by rw[g1]) aa hp.1.Xt rfl (by rw[<-g1])
end
end
end Hm
end Go.Proofs.YtpibpdpedjinhaaGreatDoor
