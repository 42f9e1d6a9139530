import Derived.Test.YtpibpdpedjinhaaGreatDoorP39
set_option maxRecDepth 100000
set_option maxHeartbeats 8000000
set_option linter.all false
open Bool renaming false->aL,true->bB
open Go renaming Addr->gF,Boxed->jb,Code->im,OwnFrom->nA,Value->aD,World->U,undef->aE
open Go.Addr renaming add->gR
open Go.Code renaming seq->cL
open Go.IntKind renaming i64->X,u32->dE,wrap_i64->cP
open Go.Obj renaming cells->aG,deferred->eM
open Go.Proofs.Tryz renaming f12->lE
open Go.Value renaming agg->gP,bool->cF,int->N,pointer->aM,slice->aR
open Option renaming none->Z,some->M
open Prod renaming fst->cG
namespace Go.Proofs.YtpibpdpedjinhaaGreatDoor
namespace Hm
open Go.RowKit Go.Joins Go.Shelf
open Dv (X2 Cf Ba Lo)
attribute [local go_sem] Oper.semAt_some
variable {kb nb:Nat}{vu vo vw:aD}{us:List PB}{dl:Nat->List (List UInt8)}{W:U}
theorem FK:(PQ.info? 62).map (λi=>(i.zero,i.size,i.bytes))=M (M lo0,8,96):=XN
def SJ(c:Cf)(us:List PB)(dl:Nat->List (List UInt8))(XS:Nat->Prop)(I:Nat)(J:aD)(q:List PL)(w:U)(E:List DX)(W:U):Prop:=∃ps a cap,SI c us dl XS I J q w E W ps a cap
theorem SJ.own(c:Cf)(us:List PB)(dl:Nat->List (List UInt8))(XS:Nat->Prop)(B0:Nat)(v0:aD)(q:List PL)(w:U)(n:Nat)(hn:w.heap.size<=n):nA n (SJ c us dl XS B0 v0 q w):=by rintro Y A B row ⟨ps,a,cap,h⟩ J hr;obtain⟨M',hc,I,E⟩:=l9 J hr;exact⟨ps,a,cap,h.nS hc I (λk hk=>E k aA)⟩
theorem DA.own{c:Cf}{d:uy}{A B:U}{XS:Nat->Prop}(h:DA A kb c vu us dl nb vo vw d)(J:jO XS A B)(E:pI XS A):DA B kb c vu us dl nb vo vw d:=by obtain⟨q,I,h2⟩:=h;exact⟨q,I.nS J E,h2⟩
theorem Xz{b:Nat}{v:aD}(h:W.cell? ⟨b,0,Z⟩=M v):∃cs t q,W.heap[b]? =M (aG cs t q):=by
 unfold World.cell? at h;simp only at h;split at h
 .rename_i cs t q hk;exact⟨cs,t,q,hk⟩
 .cases h
theorem Gl.own(kb q:Nat)(c:Cf)(vu:aD)(us:List PB)(dl:Nat->List (List UInt8))(nb:Nat)(vo vw:aD)(s0:uy)(n:Nat):nA n (Gl kb q c vu us dl nb vo vw s0):=by rintro Y A B row ⟨h1,h2⟩ J hr;obtain⟨M',I,E,aa⟩:=l9 J hr;obtain⟨cs,t,fz,hk⟩:=Xz h2;exact⟨h1.own I E,(World.cell?_of_block (I.block q (jG hk) (E _ _ _ _ hk))).trans h2⟩
theorem DEn.own(kb:Nat)(c:Cf)(vu:aD)(us:List PB)(dl:Nat->List (List UInt8))(nb:Nat)(vo vw:aD)(s0:uy)(n:Nat):nA n (DEn kb c vu us dl nb vo vw s0):=by rintro I A B row J E Y;obtain⟨M',hc,q,aa⟩:=l9 E Y;exact DA.own J hc q
theorem DY.own(kb I:Nat)(c:Cf)(vu:aD)(us:List PB)(dl:Nat->List (List UInt8))(nb:Nat)(vo vw:aD)(s0:uy)(n lo:Nat):nA n (λ(q:List DX×DX) W=>DY kb I c vu us dl nb vo vw s0 q.1 q.2 lo W):=by rintro q A B row ⟨h1,⟨vd,h2,h3⟩,h4,h5,h6⟩ Y hr;have E:=Gl.own kb I c vu us dl nb vo vw s0 n _ A B row h6 Y hr;obtain⟨M',hc,J,aa⟩:=l9 Y hr;exact⟨h1,⟨vd,h2,kX.jR h3.1 hc J.str,h3.2⟩,λb hb=>(h4 b hb).jR hc J.str,h5,E⟩
theorem DY.pl{Y:Nat}{c:Cf}{s0:uy}{J:List DX}{x:DX}{lo:Nat}{w:U}(h:DY kb Y c vu us dl nb vo vw s0 J x lo W)(aa:w.heap.size<=lo)(hM:∀k,(k=kb\/vw.ownBlock=M k)->k<w.heap.size)(I:∀p,p∈s0.ws->∀g,p.2.ownBlock=M g->¬(g=kb\/vw.ownBlock=M g)):∃p:PL,p.1=qx c us dl x/\LAt (λk=>k=kb\/vw.ownBlock=M k) W p/\kM p=x.lv.cells.toList/\p.2.1=ET x.ob/\∀g,p.2.2.ownBlock=M g->lo<=g:=by
 obtain⟨h1,⟨vd,h2,h3⟩,h4,h5,h6⟩:=h;refine⟨(qx c us dl x,ET x.ob,vd),rfl,⟨?_,?_,?_,?_⟩,?_,rfl,h3.2⟩
 .cases q:x.ob with
  |none=>
   unfold qx kX ET Eb;rw[q];exact Row.nil _ _ _
  |some b=>
   have:=h4 b q;unfold qx ET Eb;rw[q];exact this
 .exact h3.1
 .intro g E;cases q:x.ob with
  |none=>
   rw[q]at E;cases E
  |some b=>
   rw[q]at E;exact I b (Y9 h1 q).1 g E
 .intro g E e;have:=h3.2 g E;have:=hM g e;omega
 .unfold DX.v loV at h2;have:=Z1 (λv=>match v with|.agg l=>l.toList|_=>[]) h2;dsimp only at this;rw[this];rfl
theorem Eh(kb cB:Nat)(c:Cf)(vu:aD)(us:List PB)(dl:Nat->List (List UInt8))(nb:Nat)(vo vw:aD)(s0:uy)(v0:aD)(E:List PL)(w:U)(hG:Good c us s0)(b1:2<=c.step)(hdl:∀j,(dl j).length<=4294967296)(hD:sD w kb c vu us dl nb vo vw s0.ws s0.cnt s0.ep s0.sq)(au:jb w cB 93 (aM (M ⟨kb,0,Z⟩)))(b4:0<us.length)(ah:Row w 62 8 v0 E.length (E.flatMap kM))(ar:∀p,p∈E->kX w p.2.1 p.1.txs/\kX w p.2.2 p.1.deps)(a4:E.length<=s0.cnt):Calls PQ 40 #[v0,.func (.func 75) #[] #[aM (M ⟨cB,0,Z⟩)]] w λe w'=>∃I ps a cap,e=.returned (.slice a (E++ps).length cap)/\DS c us s0 I/\ps.map cG=I.map (qx c us dl)/\Row w' 62 8 (.slice a (E++ps).length cap) (E++ps).length ((E++ps).flatMap kM) /\(∀p,p∈E++ps->kX w' p.2.1 p.1.txs/\kX w' p.2.2 p.1.deps)/\DEn kb c vu us dl nb vo vw s0 I w'/\jO (λk=>(k=kb\/vw.ownBlock=M k)\/v0.ownBlock=M k) w w'/\(∀g,(aR a (E++ps).length cap).ownBlock=M g->v0.ownBlock=M g\/w.heap.size<=g)/\(ps.map λp=>p.2.1)=(I.map λx=>ET x.ob)/\kH w.heap.size w'.heap.size (ps.map λp=>p.2.2):=by
 obtain⟨XS,aj⟩:∃XS:Nat->Prop,XS=λk=>k=kb\/vw.ownBlock=M k:=⟨_,rfl⟩
 have ax:∀k,XS k->k<w.heap.size:=by
  rw[aj];rintro k (rfl|e)
  .exact(jG hD.obj)
  .exact hD.wait.lt e
 have az:∀k cs t fz,w.heap[k]? =M (aG cs t fz)->XS k->t=137\/t=150:=by
  rw[aj];rintro k cs t fz hk (rfl|e)
  .have:=hD.obj;rw[hk]at this;simp at this;exact .inl this.2.1
  .obtain⟨bk,q⟩:=hD.wait.obj e;rw[hk]at q;simp at q;exact .inr q.2.1
 have aq:¬XS cB:=λe=>by rcases az cB _ _ _ au e with h|h<;>revert h<;>decide
 have bu:∀g,v0.ownBlock=M g->¬XS g:=λg hg e=>by
  obtain⟨bk,q⟩:=ah.obj hg;rcases az g _ _ _ q e with h|h<;>revert h<;>decide
 have am:∀v l,kX w v l->∀g,v.ownBlock=M g->¬XS g:=λv l h g hg e=>by
  obtain⟨bk,q⟩:=Row.obj h hg;rcases az g _ _ _ q e with h|h<;>revert h<;>decide
 have bb:=λp hp=>am _ _ (hD.txs p hp);have ak:=Lr kb cB c vu us dl nb vo vw s0 hG b1 hdl (by rw[aj]at aq;exact aq);have bg:=λI x n W (h:DY kb cB c vu us dl nb vo vw s0 I x n W) (hn:w.heap.size<=n)=>DY.pl h hn (by rw[aj]at ax;exact ax) (by rw[aj]at bb;exact bb)
 have a3:∀(I:List DX)(x:DX),Steps c us s0 (I++[x])->s0.cnt+I.length<4294967296:=λI x h=>by
  have h1:=Ug h;have h2:=((hG I h1).1 b4).cnt;rw[(Nu h1).2]at h2;exact h2
 rw[<-aj]at ak bg;obtain⟨a0,aa,rfl⟩:=ah.slice;rw[show(λk=>(k=kb\/vw.ownBlock=M k)\/(aR a0 E.length aa).ownBlock=M k)=(λk=>XS k\/(aR a0 E.length aa).ownBlock=M k) from by rw[aj]];obtain⟨V,hV⟩:∃V:U,V=w.alloc (aG #[.slice a0 E.length aa] 35):=⟨_,rfl⟩
 have cb:V.heap.size=w.heap.size+1:=by rw[hV];simp
 have ai:Below w.heap.size w V:=by rw[hV];exact(aJ _ w).alloc jE _
 have bq:jb V w.heap.size 35 (.slice a0 E.length aa):=by unfold jb;rw[hV];exact heap_alloc_new _ _
 have a5:=au.lt;have a6:Gl kb cB c vu us dl nb vo vw s0 [] V:=⟨⟨vw,hD.below ai,λg h=>h⟩,(ai.cell (p:=⟨cB,0,Z⟩) a5).trans au.cell⟩
 have bl:SJ c us dl XS w.heap.size (.slice a0 E.length aa) E w [] V:=⟨[],a0,aa,⟨rfl,by simpa using bq,by simpa using ah.below ai,λp hp=>by
  rw[gI]at hp;exact⟨Row.below (ar p hp).1 ai,Row.below (ar p hp).2 ai,am _ _ (ar p hp).1,am _ _ (ar p hp).2⟩,λg hg=>.inl (by simpa using hg),.below ai jE _,aA,rfl,kH.nil _ _⟩⟩
 have ap:(∀g,(aR a0 E.length aa).ownBlock=M g->g≠cB)/\cB<w.heap.size:=⟨λg hg e=>jJ ah au aB (by rw[hg,e]),a5⟩
 have H0:Hid _:=jD ak (jD bg (jD a3 (jD ax (jD bu (jD a6 (jD bl (jD ai a4)))))));have bx:∀k,XS k->k<V.heap.size:=λk hk=>by have:=ax k hk;omega
 clear ak bg a3 bu a6 bl ai hD hG hdl au ah ar a4 az aq am bb bq;refine callsIn_wide.1 (callsIn_of_wp_marks (n:=3) (fq Tryz.func40 rfl) rfl trivial ?_ rfl);simp only[Tryz.ntmps40,dR,aU,bY,Nat.reduceAdd,Nat.reduceSub,dH,dG,dU,dI,dS,dN];gi_wp2;rw[<-hV];clear hV;obtain⟨i0,hi,b0,b5,b3⟩:=info_parts FK
 refine y8 (gf:=75) (lb:=#[.pointer _]) rfl (enters_of (fq Tryz.func75 rfl) XN rfl)
  (Yn H0.out.1) bx (λ_ _ _ _ _ h=>h) (Gl.own kb cB c vu us dl nb vo vw s0 _) (DEn.own kb c vu us dl nb vo vw s0 _) (λn=>DY.own kb cB c vu us dl nb vo vw s0 _ n) (λ_=>rfl)
  _ (λ_ _ _=>False) (SJ.own c us dl XS _ _ E w _ aA) (λ_ _ _ _ _ h=>h.elim) H0.out.2.2.2.2.2.2.1 H0.out.2.2.2.2.2.1
  (λx B=>{ tmps:=#[.slice a0 E.length aa,.func (.func 75) #[] #[aM (M ⟨cB,0,Z⟩)],aM (M ⟨w.heap.size,0,Z⟩),aE,aR Z 0 0,aM (M ⟨B,0,Z⟩),.func (.func 75) #[] #[aM (M ⟨cB,0,Z⟩)],.agg x.lv.cells,aE,aE,aE,aE,aE],defers:=[] })
  (λx W=>W.alloc (aG x.lv.cells 62)) (λ_ W k hk=>aZ W _ k hk) (λ_ W=>aC) (λ_ W l o hl=>zG W l _ o hl) ?assign ?body ?done ?stop
 case assign=>
  intro l x W K hK;simp only[DX.encs,DX.v,LV.cells]at hK⊢;gi_wp2;exact hK
 case body=>
  rintro l I x W0 W1 b8 b7 ⟨r,hr⟩ ⟨ps,a,cap,hI⟩ hc _ hy;have br:=hI.jR.size;obtain⟨p,a1,av,aw,ay,bs⟩:=H0.out.2.1 I x _ W1 hy br
  have a2:kH w.heap.size W1.heap.size ((ps++[p]).map λp=>p.2.2):=by
   rw[bJ];exact hI.dep.append (kH.one' λg hg=>⟨bs g hg,Row.lt av.deps hg⟩) br hc.size
  have ab:=hI.turn hc (λe=>by have:=H0.out.2.2.2.1 _ e;omega) H0.out.2.2.2.2.1 H0.out.2.2.2.1;have b9:=H0.out.2.2.1 I x hy.1
  have b6:ps.length=I.length:=by
   have:=Z1 List.length hI.los;simpa using this
  have ca:=H0.out.2.2.2.2.2.2.2.2;have cc:=hc.size;obtain⟨X1,hN⟩:∃X1,(E++ps).length=X1:=⟨_,rfl⟩
  have ce:X1<4294967296:=by rw[<-hN,aS];omega
  have ao:=ab.box;have bd:=ab.row;rw[hN]at ao bd;obtain⟨G,bh,gb,gk⟩:=jI W1 x.lv.cells 62;rw[<-bh];have gs:G.heap.size=W1.heap.size+1:=by rw[bh];simp
  clear bh;unfold LV.cells at gk;obtain⟨k0,k1,k2,k3,k4,k5,k6,k7,kf⟩:=mJ gk;have bG:jb G w.heap.size 35 (.slice a X1 cap):=(gb.block _ ao.lt).trans ao;have m0:=bG.cell;have qG:=bd.below gb;have Hc:Hid _:=jD bG (jD qG (jD hy (jD ab (jD hc (jD a1 (jD av (jD aw (jD gb (jD hN (jD hI (jD ay a2)))))))))));clear bG qG hy ab hc a1 av aw ay bs a2 gb hN hI hr ao bd gk;gi_wp2_with (gi_at_builtin;refine xk _ (by rfl) (.tmp 8) (.tmp 10) 35 (by rfl) 62 i0 _ 8 96 (uq Tryz.underlying35) hi b0 b5 b3 (by rfl) aB _ X1 _ (by rfl) (Hc.out.2.1.below ((aJ _ G).alloc jE _)) ⟨W1.heap.size+1,0,Z⟩ 1 1 x.lv.cells.toList (by rfl) aB (by rfl) (by intro j u Y;rw[<-gs];unfold LV.cells at Y;match j,Y with|0,Y=>(simp at Y;subst Y;simp[gR])|1,Y=>(simp at Y;subst Y;simp[gR])|2,Y=>(simp at Y;subst Y;simp[gR])|3,Y=>(simp at Y;subst Y;simp[gR])|4,Y=>(simp at Y;subst Y;simp[gR])|5,Y=>(simp at Y;subst Y;simp[gR])|6,Y=>(simp at Y;subst Y;simp[gR])|7,Y=>(simp at Y;subst Y;simp[gR])) (by intro u hu;unfold LV.cells at hu;simp at hu;rcases hu with rfl|rfl|rfl|rfl|rfl|rfl|rfl|rfl<;>rfl) (by unfold maxLen;omega) aA ?_;intro g off ag w4 ac ae;have e0:jb w4 w.heap.size 35 (.slice a X1 cap):=ae.keep (Hc.out.2.1.below ((aJ _ G).alloc jE _)) (Hc.out.1.alloc _) aB;have n0:=e0.cell;have n1:=e0.frozen;have HF:Hid _:=jD ac (jD ae e0);clear ac ae e0)
  obtain⟨ac,ae,e0⟩:=HF.out;obtain⟨bG,qG,hy,ab,hc,a1,av,aw,gb,hN,hI,ay,a2⟩:=Hc.out;have e1:jb (w4.setCell ⟨w.heap.size,0,Z⟩ (aR (M ⟨g,off,Z⟩) (X1+1) ag)) w.heap.size 35 (aR (M ⟨g,off,Z⟩) (X1+1) ag):=e0.set _;have bo:=(aJ _ G).alloc jE (aG x.lv.cells 62);have bw:=qG.below bo
  have e2:Row (w4.setCell ⟨w.heap.size,0,Z⟩ (aR (M ⟨g,off,Z⟩) (X1+1) ag)) 62 8 (aR (M ⟨g,off,Z⟩) (X1+1) ag) (X1+1) ((E++ps).flatMap kM++kM p):=by
   rw[aw];exact ac.jR (jO.set w4 _ 0 _) (λq hq e=>jJ ac e0 aB (by rw[hq,e]))
  have af:jO (λk=>(aR a X1 cap).ownBlock=M k\/k=w.heap.size) W1 (w4.setCell ⟨w.heap.size,0,Z⟩ (aR (M ⟨g,off,Z⟩) (X1+1) ag)):=
   (((jO.below gb jE _).trans (jO.below bo jE (λ_=>False)) (λ_ _ e=>e.elim)).trans ae.jR (λk _ e=>.inl e)).trans (jO.set w4 _ 0 _) (λk _ e=>.inr e)
  have ba:KeepsOthers G (w4.setCell ⟨w.heap.size,0,Z⟩ (aR (M ⟨g,off,Z⟩) (X1+1) ag)):=((KeepsOthers.alloc G _).trans (ae.others bw)).trans (KeepsOthers.setCell _ _ _);rw[<-hN]at af e1 e2
  obtain⟨hT,J⟩:=ab.more a1 av af e1 e2 (λq hq=>by
   rw[hN];have hq:g=q:=by simpa[Value.ownBlock]using hq
   subst hq;obtain q|q:=ae.own
   .exact .inl q
   .refine .inr ?_;have q2:(G.alloc (aG x.lv.cells 62)).heap.size<=g:=q;simp at q2;omega) jE ay a2
  rw[hN]at af hT J;refine⟨ba.from _,?_,?_,_,_,_,J⟩
  .obtain⟨⟨b2,h1,h2⟩,h3⟩:=hy.2.2.2.2;refine⟨⟨b2,h1.typed af hT,h2⟩,?_⟩;refine(World.cell?_of_block (af.block cB (fG W1 _ h3) ?_)).trans h3;rintro(e|e)
   .rw[<-hN]at e;obtain q|q:=ab.own cB e
    .exact ap.1 cB q rfl
    .have:=ap.2;omega
   .have:=ap.2;omega
  .intro k cd bm;refine(af.block k bm ?_).trans (gb.block k bm).symm;rintro(e|e)
   .rw[<-hN]at e;have:=hI.row.lt e;omega
   .have:=hI.big;omega
 case done=>
  rintro D xs W0 W hD bz hS ⟨ps,a,cap,hI⟩ hc _ bj hK;have ab:=hI.turn hc (λe=>by have:=H0.out.2.2.2.1 _ e;omega) H0.out.2.2.2.2.1 H0.out.2.2.2.1;have m0:=ab.box.cell;have bv:=grownBy_putObj' W D (eM Z)
  obtain⟨M',a9,a8,a7⟩:=l9 (n:=w.heap.size) bv (λr e=>by
   have e:D=r:=by simpa using e
   subst e;exact⟨aA,_,hK,rfl⟩)
  have J:=ab.nS a9 a8 a7;have an:DEn kb c vu us dl nb vo vw s0 xs (W.putObj D (eM Z)):=DA.own bj a9 a8;have HF:Hid _:=jD J (jD an hS);clear hI ab J bj an hc a9 a8 a7 bv hS;gi_wp2;refine⟨aC,.inl ⟨_,_,rfl,run_takeDeferred hK,?_⟩⟩;obtain⟨J,an,hS⟩:=HF.out;exact⟨_,by simp[results,Tryz.results40,go_sem],xs,ps,a,cap,rfl,hS,J.los,J.row,λp hp=>⟨(J.at_ p hp).txs,(J.at_ p hp).deps⟩,an,J.jR,J.own,J.txv,J.dep⟩
 case stop=>
  rintro D c I W0 W hD bz _ h;exact h.elim
end Hm
namespace Hm
open Go.RowKit Go.Joins Go.Shelf
def OO(kb:Nat)(w:U):Calls PQ 41 #[aM (M ⟨kb,0,Z⟩)] w λe w'=>e=.returned (.func (.func 75) #[] #[aM (M ⟨w.heap.size,0,Z⟩)])/\w'=w.alloc (aG #[aM (M ⟨kb,0,Z⟩)] 93):=by go_enter (fq Tryz.func41 rfl),Tryz.ntmps41;go_wp2_with fail;go_ret;exact⟨rfl,rfl⟩
open Fr (below_drewN)
open Dv (X2 Cf Ba Ch)
section
variable {u1 u3 u6 u7 u8 u9 u10 u11 u12 u13 u14 u15 u16 u17 u18 u19 u20 u21 u22 u23 u24 u25 u26 u27 u28 u29 u30 u31 u32 u0 u4 u5 u2:aD}{Q:Exit->Act->U->Prop}
noncomputable def S9:im:=match Tryz.f12.body with
 |some (cL c _)=>c
 |_=>.skip
noncomputable def I7:im:=match Tryz.f12.body with
 |some (cL _ (cL c _))=>c
 |_=>.skip
noncomputable def Ie:im:=match Tryz.f12.body with
 |some (cL _ (cL _ (cL c _)))=>c
 |_=>.skip
noncomputable def RS:im:=match Tryz.f12.body with
 |some (cL _ (cL _ (cL _ (cL c _))))=>c
 |_=>.skip
noncomputable def Sr:im:=match Tryz.f12.body with
 |some (cL _ (cL _ (cL _ (cL _ (cL c _)))))=>c
 |_=>.skip
noncomputable def SX:im:=match Tryz.f12.body with
 |some (cL _ (cL _ (cL _ (cL _ (cL _ (cL (cL c _) _))))))=>c
 |_=>.skip
noncomputable def allL:im:=match Tryz.f12.body with
 |some (cL _ (cL _ (cL _ (cL _ (cL _ (cL (cL _ (.block _ (.loop c))) _))))))=>c
 |_=>.skip
noncomputable def DU:im:=match Tryz.f12.body with
 |some (cL _ (cL _ (cL _ (cL _ (cL _ (cL _ (cL c _)))))))=>c
 |_=>.skip
noncomputable def GY:im:=match allL with
 |cL c _=>c
 |_=>.skip
noncomputable def Jd:im:=match allL with
 |cL _ (cL _ (cL (.block _ (cL c _)) _))=>c
 |_=>.skip
noncomputable def zY:im:=match allL with
 |cL _ (cL _ (cL (.block _ (cL _ (cL c _))) _))=>c
 |_=>.skip
noncomputable def Ap:im:=match allL with
 |cL _ (cL _ (cL (.block _ (cL _ (cL _ c))) _))=>c
 |_=>.skip
noncomputable def Aa:im:=match allL with
 |cL _ (cL _ (cL _ c))=>c
 |_=>.skip
theorem Yy:Tryz.f12.body=M (cL S9 (cL I7 (cL Ie (cL RS (cL Sr (cL (cL SX (.block 0 (.loop allL))) (cL DU .ret))))))):=XN
theorem MF:allL=cL GY (cL (.cond (.tmp 21) .skip (.exit 0)) (cL (.block 1 (cL Jd (cL zY Ap))) Aa)):=XN
theorem aee{u2 u4 u5:aD}(c:Cf)(w:U)(q:Q .normal { tmps:=#[gP #[N dE c.inbox,N dE c.batcher,N X c.timeout,N X c.window,N X c.drift,N X c.step,N X c.most],u1,aM (M ⟨w.heap.size,0,Z⟩),u3,aR Z 0 0,N X 0,u6,u7,u8,u9,u10,u11,u12,u13,u14,u15,u16,u17,u18,u19,u20,u21,u22,u23,u24,u25,u26,u27,u28,u29,u30,u31,u32],defers:=[] } (w.alloc (aG #[N dE c.inbox,N dE c.batcher,N X c.timeout,N X c.window,N X c.drift,N X c.step,N X c.most] 24))):S9.wp PQ Q { tmps:=#[gP #[N dE c.inbox,N dE c.batcher,N X c.timeout,N X c.window,N X c.drift,N X c.step,N X c.most],u1,u2,u3,u4,u5,u6,u7,u8,u9,u10,u11,u12,u13,u14,u15,u16,u17,u18,u19,u20,u21,u22,u23,u24,u25,u26,u27,u28,u29,u30,u31,u32],defers:=[] } w:=by
 simp only[S9,lE];go_wp2_with fail;exact q
theorem adg{u10 u11 u12:aD}(c:Cf)(E:Nat)(w:U)(k0:w.cell? ⟨E,0,Z⟩=M (N dE c.inbox))(k1:w.cell? ⟨E,1,Z⟩=M (N dE c.batcher))(k2:w.cell? ⟨E,2,Z⟩=M (N X c.timeout))(k3:w.cell? ⟨E,3,Z⟩=M (N X c.window))(k4:w.cell? ⟨E,4,Z⟩=M (N X c.drift))(k5:w.cell? ⟨E,5,Z⟩=M (N X c.step))(k6:w.cell? ⟨E,6,Z⟩=M (N X c.most))(I:Dv.jP c=bB)(Y:∀W',Below w.heap.size w W'->Q .normal { tmps:=#[u0,u1,aM (M ⟨E,0,Z⟩),u3,u4,u5,u6,u7,u8,u9,gP #[N dE c.inbox,N dE c.batcher,N X c.timeout,N X c.window,N X c.drift,N X c.step,N X c.most],cF bB,cF aL,u13,u14,u15,u16,u17,u18,u19,u20,u21,u22,u23,u24,u25,u26,u27,u28,u29,u30,u31,u32],defers:=[] } W'):I7.wp PQ Q { tmps:=#[u0,u1,aM (M ⟨E,0,Z⟩),u3,u4,u5,u6,u7,u8,u9,u10,u11,u12,u13,u14,u15,u16,u17,u18,u19,u20,u21,u22,u23,u24,u25,u26,u27,u28,u29,u30,u31,u32],defers:=[] } w:=by
 have q:=EO c w;rw[I]at q;have H:Hid _:=q;have HQ:Hid _:=Y;clear q Y I;simp only[I7,lE];go_wp2_with (go_at_call 36;refine aT H.out ?_;rintro e5 w5 ⟨rfl,J⟩)
 exact HQ.out _ J
theorem QJ{u4 u5 u10 u11 u12:aD}(c:Cf)(E:Nat)(w:U)(k0:w.cell? ⟨E,0,Z⟩=M (N dE c.inbox))(k1:w.cell? ⟨E,1,Z⟩=M (N dE c.batcher))(k2:w.cell? ⟨E,2,Z⟩=M (N X c.timeout))(k3:w.cell? ⟨E,3,Z⟩=M (N X c.window))(k4:w.cell? ⟨E,4,Z⟩=M (N X c.drift))(k5:w.cell? ⟨E,5,Z⟩=M (N X c.step))(k6:w.cell? ⟨E,6,Z⟩=M (N X c.most))(I:Dv.jP c=aL)(Y:∀W',Below w.heap.size w W'->Q .ret { tmps:=#[u0,u1,aM (M ⟨E,0,Z⟩),u3,aR Z 0 0,N X 1,u6,u7,u8,u9,gP #[N dE c.inbox,N dE c.batcher,N X c.timeout,N X c.window,N X c.drift,N X c.step,N X c.most],cF aL,cF bB,u13,u14,u15,u16,u17,u18,u19,u20,u21,u22,u23,u24,u25,u26,u27,u28,u29,u30,u31,u32],defers:=[] } W'):I7.wp PQ Q { tmps:=#[u0,u1,aM (M ⟨E,0,Z⟩),u3,u4,u5,u6,u7,u8,u9,u10,u11,u12,u13,u14,u15,u16,u17,u18,u19,u20,u21,u22,u23,u24,u25,u26,u27,u28,u29,u30,u31,u32],defers:=[] } w:=by
 have q:=EO c w;rw[I]at q;have H:Hid _:=q;have HQ:Hid _:=Y;clear q Y I;simp only[I7,lE];go_wp2_with (go_at_call 36;refine aT H.out ?_;rintro e5 w5 ⟨rfl,J⟩)
 exact HQ.out _ J
theorem aeg{u13 u14 u15:aD}(Y:Option gF)(n vc:Nat)(ps:List PU)(w:U)(I:nK w (.slice Y n vc) ps)(E:ps.length<=4294967296)(J:Dv.jY (ps.map cG)=bB)(hQ:∀W',Below w.heap.size w W'->Q .normal { tmps:=#[u0,.slice Y n vc,u2,u3,u4,u5,u6,u7,u8,u9,u10,u11,u12,.slice Y n vc,cF bB,cF aL,u16,u17,u18,u19,u20,u21,u22,u23,u24,u25,u26,u27,u28,u29,u30,u31,u32],defers:=[] } W'):Ie.wp PQ Q { tmps:=#[u0,.slice Y n vc,u2,u3,u4,u5,u6,u7,u8,u9,u10,u11,u12,u13,u14,u15,u16,u17,u18,u19,u20,u21,u22,u23,u24,u25,u26,u27,u28,u29,u30,u31,u32],defers:=[] } w:=by
 have q:=IZ _ ps w I E;rw[J]at q;have H:Hid _:=q;have HQ:Hid _:=hQ;clear q hQ J I E;simp only[Ie,lE];go_wp2_with (go_at_call 37;refine aT H.out ?_;rintro e5 w5 ⟨rfl,aa⟩)
 exact HQ.out _ aa
theorem OJ{u4 u5 u13 u14 u15:aD}(Y:Option gF)(n vc:Nat)(ps:List PU)(w:U)(I:nK w (.slice Y n vc) ps)(E:ps.length<=4294967296)(J:Dv.jY (ps.map cG)=aL)(hQ:∀W',Below w.heap.size w W'->Q .ret { tmps:=#[u0,.slice Y n vc,u2,u3,aR Z 0 0,N X 2,u6,u7,u8,u9,u10,u11,u12,.slice Y n vc,cF aL,cF bB,u16,u17,u18,u19,u20,u21,u22,u23,u24,u25,u26,u27,u28,u29,u30,u31,u32],defers:=[] } W'):Ie.wp PQ Q { tmps:=#[u0,.slice Y n vc,u2,u3,u4,u5,u6,u7,u8,u9,u10,u11,u12,u13,u14,u15,u16,u17,u18,u19,u20,u21,u22,u23,u24,u25,u26,u27,u28,u29,u30,u31,u32],defers:=[] } w:=by
 have q:=IZ _ ps w I E;rw[J]at q;have H:Hid _:=q;have HQ:Hid _:=hQ;clear q hQ J I E;simp only[Ie,lE];go_wp2_with (go_at_call 37;refine aT H.out ?_;rintro e5 w5 ⟨rfl,aa⟩)
 exact HQ.out _ aa
theorem ada{u6:aD}(w:U)(q:Q .normal { tmps:=#[u0,u1,u2,u3,u4,u5,aR Z 0 0,u7,u8,u9,u10,u11,u12,u13,u14,u15,u16,u17,u18,u19,u20,u21,u22,u23,u24,u25,u26,u27,u28,u29,u30,u31,u32],defers:=[] } w):RS.wp PQ Q { tmps:=#[u0,u1,u2,u3,u4,u5,u6,u7,u8,u9,u10,u11,u12,u13,u14,u15,u16,u17,u18,u19,u20,u21,u22,u23,u24,u25,u26,u27,u28,u29,u30,u31,u32],defers:=[] } w:=by
 simp only[RS,lE];go_wp2_with fail;exact q
theorem adr{u7 u16 u17:aD}(c:Cf)(E:Nat)(w:U)(k0:w.cell? ⟨E,0,Z⟩=M (N dE c.inbox))(k1:w.cell? ⟨E,1,Z⟩=M (N dE c.batcher))(k2:w.cell? ⟨E,2,Z⟩=M (N X c.timeout))(k3:w.cell? ⟨E,3,Z⟩=M (N X c.window))(k4:w.cell? ⟨E,4,Z⟩=M (N X c.drift))(k5:w.cell? ⟨E,5,Z⟩=M (N X c.step))(k6:w.cell? ⟨E,6,Z⟩=M (N X c.most))(J:∀Y,Y=((w.alloc (aG (jL c) 24)).alloc (.map #[] 0)).alloc (aG (jT c (aR Z 0 0) (w.heap.size+1) (aR Z 0 0) (aR Z 0 0) 0 0 0) 137)->Q .normal { tmps:=#[u0,u1,aM (M ⟨E,0,Z⟩),u3,u4,u5,u6,aM (M ⟨w.heap.size+2,0,Z⟩),u8,u9,u10,u11,u12,u13,u14,u15,gP #[N dE c.inbox,N dE c.batcher,N X c.timeout,N X c.window,N X c.drift,N X c.step,N X c.most],aM (M ⟨w.heap.size+2,0,Z⟩),u18,u19,u20,u21,u22,u23,u24,u25,u26,u27,u28,u29,u30,u31,u32],defers:=[] } Y):Sr.wp PQ Q { tmps:=#[u0,u1,aM (M ⟨E,0,Z⟩),u3,u4,u5,u6,u7,u8,u9,u10,u11,u12,u13,u14,u15,u16,u17,u18,u19,u20,u21,u22,u23,u24,u25,u26,u27,u28,u29,u30,u31,u32],defers:=[] } w:=by
 have q:=new_any c w;have H:Hid _:=q;have HQ:Hid _:=J;clear q J;simp only[Sr,lE];go_wp2_with (go_at_call 38;refine aT H.out ?_;rintro e5 w5 ⟨rfl,I⟩;have HW:Hid _:=I;clear I)
 exact HQ.out _ HW.out
theorem acZ{u18 u19 u20:aD}(E:Option gF)(n q:Nat)(w:U)(I:Q .normal { tmps:=#[u0,.slice E n q,u2,u3,u4,u5,u6,u7,u8,u9,u10,u11,u12,u13,u14,u15,u16,u17,.slice E n q,N X n,N X 0,u21,u22,u23,u24,u25,u26,u27,u28,u29,u30,u31,u32],defers:=[] } w):SX.wp PQ Q { tmps:=#[u0,.slice E n q,u2,u3,u4,u5,u6,u7,u8,u9,u10,u11,u12,u13,u14,u15,u16,u17,u18,u19,u20,u21,u22,u23,u24,u25,u26,u27,u28,u29,u30,u31,u32],defers:=[] } w:=by
 simp only[SX,lE];go_wp2_with fail;exact I
theorem Y4{u21:aD}(j n:Nat)(w:U)(q:Q .normal { tmps:=#[u0,u1,u2,u3,u4,u5,u6,u7,u8,u9,u10,u11,u12,u13,u14,u15,u16,u17,u18,N X n,N X j,cF (decide (j<n)),u22,u23,u24,u25,u26,u27,u28,u29,u30,u31,u32],defers:=[] } w):GY.wp PQ Q { tmps:=#[u0,u1,u2,u3,u4,u5,u6,u7,u8,u9,u10,u11,u12,u13,u14,u15,u16,u17,u18,N X n,N X j,u21,u22,u23,u24,u25,u26,u27,u28,u29,u30,u31,u32],defers:=[] } w:=by
 simp only[GY,allL,lE];go_wp2_with fail;exact q
theorem adv{u9 u22 u23:aD}(g off n J j:Nat)(id tm:Int)(ta:Option gF)(tn tc:Nat)(la:Option gF)(q lc:Nat)(w:U)(hj:j<n)(k0:w.cell? ⟨g,off+j*4,Z⟩=M (N X id))(k1:w.cell? ⟨g,off+j*4+1,Z⟩=M (N X tm))(k2:w.cell? ⟨g,off+j*4+2,Z⟩=M (.slice ta tn tc))(k3:w.cell? ⟨g,off+j*4+3,Z⟩=M (.slice la q lc))(E:∀I,I.heap=(w.alloc (aG #[N X id,N X tm,.slice ta tn tc,.slice la q lc] 42)).heap->Q .normal { tmps:=#[u0,u1,u2,u3,u4,u5,u6,u7,u8,aM (M ⟨w.heap.size,0,Z⟩),u10,u11,u12,u13,u14,u15,u16,u17,aR (M ⟨g,off,Z⟩) n J,u19,N X j,u21,aM (M ⟨g,off+j*4,Z⟩),gP #[N X id,N X tm,.slice ta tn tc,.slice la q lc],u24,u25,u26,u27,u28,u29,u30,u31,u32],defers:=[] } I):Jd.wp PQ Q { tmps:=#[u0,u1,u2,u3,u4,u5,u6,u7,u8,u9,u10,u11,u12,u13,u14,u15,u16,u17,aR (M ⟨g,off,Z⟩) n J,u19,N X j,u21,u22,u23,u24,u25,u26,u27,u28,u29,u30,u31,u32],defers:=[] } w:=by
 have Y:(0:Int)<=j:=aA
 have aa:(j:Int)<n:=aA
 have HQ:Hid _:=E;clear E;simp only[Jd,allL,lE];go_wp2_with fail;exact HQ.out _ rfl
theorem abL{u31:aD}(j:Nat)(w:U)(E:j<=4294967296)(q:Q .normal { tmps:=#[u0,u1,u2,u3,u4,u5,u6,u7,u8,u9,u10,u11,u12,u13,u14,u15,u16,u17,u18,u19,N X ((j+1:Nat):Int),u21,u22,u23,u24,u25,u26,u27,u28,u29,u30,N X ((j+1:Nat):Int),u32],defers:=[] } w):Aa.wp PQ Q { tmps:=#[u0,u1,u2,u3,u4,u5,u6,u7,u8,u9,u10,u11,u12,u13,u14,u15,u16,u17,u18,u19,N X j,u21,u22,u23,u24,u25,u26,u27,u28,u29,u30,u31,u32],defers:=[] } w:=by
 have hw:IntKind.i64.wrap ((j:Int)+1)=((j+1:Nat):Int):=by rw[cP];omega
 simp only[Aa,allL,lE];go_wp2_with fail;exact q
theorem aaM{u4 u5 u32:aD}(E:Option gF)(n q:Nat)(w:U)(I:Q .normal { tmps:=#[u0,u1,u2,u3,.slice E n q,N X 0,.slice E n q,u7,u8,u9,u10,u11,u12,u13,u14,u15,u16,u17,u18,u19,u20,u21,u22,u23,u24,u25,u26,u27,u28,u29,u30,u31,.slice E n q],defers:=[] } w):DU.wp PQ Q { tmps:=#[u0,u1,u2,u3,u4,u5,.slice E n q,u7,u8,u9,u10,u11,u12,u13,u14,u15,u16,u17,u18,u19,u20,u21,u22,u23,u24,u25,u26,u27,u28,u29,u30,u31,u32],defers:=[] } w:=by
 simp only[DU,lE];go_wp2_with fail;exact I
theorem abd{u27 u28 u29 u30:aD}(kb:Nat)(a0:Option gF)(I q:Nat)(R:Option gF->Nat->Nat->U->Prop)(w:U)(Y:Calls PQ 40 #[.slice a0 I q,.func (.func 75) #[] #[aM (M ⟨w.heap.size,0,Z⟩)]] (w.alloc (aG #[aM (M ⟨kb,0,Z⟩)] 93)) (λe E=>∃a n cap,e=.returned (.slice a n cap)/\R a n cap E))(J:∀a n cap E,R a n cap E->Q .normal { tmps:=#[u0,u1,u2,u3,u4,u5,.slice a n cap,aM (M ⟨kb,0,Z⟩),u8,u9,u10,u11,u12,u13,u14,u15,u16,u17,u18,u19,u20,u21,u22,u23,u24,u25,u26,.slice a0 I q,aM (M ⟨kb,0,Z⟩),.func (.func 75) #[] #[aM (M ⟨w.heap.size,0,Z⟩)],.slice a n cap,u31,u32],defers:=[] } E):Ap.wp PQ Q { tmps:=#[u0,u1,u2,u3,u4,u5,.slice a0 I q,aM (M ⟨kb,0,Z⟩),u8,u9,u10,u11,u12,u13,u14,u15,u16,u17,u18,u19,u20,u21,u22,u23,u24,u25,u26,u27,u28,u29,u30,u31,u32],defers:=[] } w:=by
 have H1:Hid _:=OO kb w;have H2:Hid _:=Y;have HQ:Hid _:=J;clear Y J;simp only[Ap,allL,lE];go_wp2_with (first|(go_at_call 41;refine aT H1.out ?_;rintro e5 w5 ⟨rfl,rfl⟩)|(go_at_call 40;refine aT H2.out ?_;rintro e6 w6 ⟨a,n,cap,rfl,h6⟩;have HR:Hid _:=h6;clear h6))
 exact HQ.out _ _ _ _ HR.out
end
open Dv (X2 Cf Ba Ch Lo St)
section
variable {n i:Nat}{b:Ba}{us:List PB}{x:PB}
theorem BN{l:Im.It}(h:Dv.qC l n=M b):b.place=n:=by
 unfold Dv.qC at h
 grind
theorem GR{i:Im.It}(h:Dv.uK i n=M b):b.place=n:=by
 unfold Dv.uK at h;split at h
 .cases h
 .split at h
  .cases h
  .split at h
   .rw[Option.bind_eq_some_iff]at h;obtain⟨l,_,h⟩:=h;exact BN h
   .cases h
theorem Oa:∀(f:Nat)(s:List UInt8)(n:Nat)(b:Ba),b∈Dv.rd f s n->b.epoch<=n/\b.place=n
 |0,s,n,b,h=>by simp[Dv.rd]at h
 |f+1,s,n,b,h=>by
  rw[Dv.rd]at h;split at h
  .simp at h
  .split at h
   .simp at h
   .split at h
    .simp at h
    .rename_i x q;obtain h|h:=dM.1 h
     .split at h
      .rw[dK.1 h];exact⟨‹_›,GR q⟩
      .simp at h
     .exact Oa f _ n b h
theorem PN{c:Cf}{u:X2}{cs:List Ch}{wait:List Ba}(h:b∈(Dv.take c u n cs wait).2):b∈wait\/(b.epoch<=n/\b.place=n):=by
 unfold Dv.take at h;simp only at h;obtain h|h:=dM.1 h
 .exact .inl h
 .obtain⟨s,_,hs⟩:=List.mem_flatMap.1 h;exact .inr (Oa _ _ _ _ hs)
structure RM(c:Cf)(chain:List X2)(j:Nat)(us:List PB)(dl:Nat->List (List UInt8))(s:uy)(cs:List Ch)(log:List Lo):Prop where
 len:us.length=j
 id:∀i,i<j->Ia us i=(chain[i]!).id
 time:∀i,i<j->BM us i=(chain[i]!).time
 deps:∀i,i<j->dl i=Dv.jS (chain[i]!)
 chs:cs=(Dv.gone c chain j).chs
 wait:s.ws.map cG=(Dv.gone c chain j).wait
 ws:∀p,p∈s.ws->p.1.epoch<j/\p.1.place<=4294967296
 zero:j=0->log=[]/\s.cnt=0/\s.ep=0/\s.sq=0
 some:0<j->log=(Dv.gone c chain j).log/\Hs c us (log.getLastD default) s/\s.ep<j/\s.sq<=s.cnt
theorem RM.start(c:Cf)(chain:List X2)(dl:Nat->List (List UInt8)):RM c chain 0 [] dl ⟨[],0,0,0⟩ [] []:=
 ⟨rfl,λi h=>aA,λi h=>aA,λi h=>aA,rfl,rfl,λp h=>by simp at h,λ_=>⟨rfl,rfl,rfl,rfl⟩,λh=>aA⟩
section
variable {c:Cf}{chain:List X2}{j:Nat}{us:List PB}{dl:Nat->List (List UInt8)}{s:uy}{cs:List Ch}{log:List Lo}
theorem abD(h:i<us.length):Ia (us++[x]) i=Ia us i:=by
 unfold Ia
 grind
theorem aaT(h:i<us.length):BM (us++[x]) i=BM us i:=by
 unfold BM
 grind
theorem aci:Ia (us++[x]) us.length=x.1:=by unfold Ia;simp
theorem ab3:BM (us++[x]) us.length=x.2.1:=by unfold BM;simp
structure RT(c:Cf)(chain:List X2)(j:Nat)(us:List PB)(dl:Nat->List (List UInt8))(s:uy)(cs:List Ch)(log:List Lo):Prop where
 lk:Lk chain us dl
 len:us.length=j+1
 take:(cs,s.ws.map cG)=Dv.take c (chain[j]!) j (Dv.gone c chain j).chs (Dv.gone c chain j).wait
 ws:∀p,p∈s.ws->p.1.epoch<us.length/\p.1.place<=4294967296
 zero:j=0->log=[]/\s.cnt=0/\s.ep=0/\s.sq=0
 some:0<j->log=(Dv.gone c chain j).log/\Hs c us (log.getLastD default) s/\s.ep<us.length/\s.sq<=s.cnt
theorem RM.took(h:RM c chain j us dl s cs log)(hj:j<chain.length)(J:j<=60){v:aD}{ws':List PW}{cs':List Ch}(ht:(cs',ws'.map cG)=Dv.take c (chain[j]!) j cs (s.ws.map cG)):
  RT c chain j (us++[((chain[j]!).id,(chain[j]!).time,v)]) (λi=>if i=us.length then Dv.jS (chain[j]!)else dl i) ⟨ws',s.cnt,s.ep,s.sq⟩ cs' log:=by
 have I:=h.len;have E:(us++[((chain[j]!).id,(chain[j]!).time,v)]).length=j+1:=by simp[I]
 rw[h.chs,h.wait]at ht;refine⟨⟨aA,aA,λi Y=>?_,λi Y=>?_,λi Y=>?_⟩,E,ht,λp hp=>?_,λe=>h.zero e,λe=>?_⟩
 .by_cases e:i=us.length
  .rw[e,aci,I]
  .rw[abD aA];exact h.id i aA
 .by_cases e:i=us.length
  .rw[e,ab3,I]
  .rw[aaT aA];exact h.time i aA
 .by_cases e:i=us.length
  .rw[ZD e,e,I]
  .rw[Zs e];exact h.deps i aA
 .have hm:p.1∈(Dv.take c (chain[j]!) j (Dv.gone c chain j).chs (Dv.gone c chain j).wait).2:=by
   rw[<-ht];exact bM.2 ⟨p,hp,rfl⟩
  rw[E];obtain q|⟨q1,q2⟩:=PN hm
  .rw[<-h.wait]at q;obtain⟨p',hp',e⟩:=bM.1 q;have:=h.ws p' hp'
   grind
  .omega
 .obtain⟨h1,h2,h3,h4⟩:=h.some e;refine⟨h1,⟨h2.number,h2.time.trans ?_,h2.epoch,h2.seq⟩,by show s.ep<_;omega,h4⟩;unfold lT
  grind
theorem RT.fit(h:RT c chain j us dl s cs log)(J:Dv.jY chain=bB)(ab:Dv.jP c=bB)(hj:j<chain.length)(Y:0<j):∃T,T<4294967296/\Ok c chain us T (log.getLastD default) s:=by
 obtain⟨h1,h2,h3,h4⟩:=h.some Y;have ac:=(Dv.kU J).2.1;have hF:=Dv.vO J ab j aA;have I:=Dv.take_len c _ j (Dv.gone c chain j).chs (Dv.gone c chain j).wait (Dv.oN chain Z (Dv.kU J).2.2.1 j hj);rw[<-h.take]at I;simp only[bC]at I;have hm:=hF.much;unfold Dv.much at hm;have ht:=Dv.uw J (i:=j-1) (j:=j) aA hj;have q:=hF.number;have aa:=hF.epoch;rw[<-h1]at hm q aa
 have E:s.cnt=log.length:=by
  rw[<-q];exact h2.number.symm
 refine⟨_,?_,h2,h3,h.ws,jE,h4⟩;unfold Dv.left;rw[h.len,E,bC]
 grind
theorem RT.good(h:RT c chain j us dl s cs log)(J:Dv.jY chain=bB)(q:Dv.jP c=bB)(hj:j<chain.length):Good c us s:=by
 obtain I|I:=gQ j
 .obtain⟨_,Y,e2,e3⟩:=h.zero I
  have hs:s=⟨s.ws,0,0,0⟩:=by
   cases s;simp only at Y e2 e3;subst Y e2 e3;rfl
  rw[hs];have E:=Dv.take_len c _ j (Dv.gone c chain j).chs (Dv.gone c chain j).wait (Dv.oN chain Z (Dv.kU J).2.2.1 j hj);rw[<-h.take,I]at E;simp only[Dv.gone,Dv.start,bC,bY]at E;exact Qm h.lk J q (by rw[h.len,I]) aA h.ws
 .obtain⟨T,hT,o⟩:=h.fit J q hj I;exact abe h.lk J q hT o
theorem RT.drawn(h:RT c chain j us dl s cs log)(hc:Dv.jY chain=bB)(Y:Dv.jP c=bB)(hj:j<chain.length){q:List DX}(hp:DS c us s q):RM c chain (j+1) us dl ⟨(jK c us (jM s q).ws (jM s q).cnt (jM s q).ep).2,(jM s q).cnt,(jM s q).ep,(jM s q).sq⟩ cs (log++q.map (qx c us dl)):=by
 have hl:=h.len;have ac:cs=(Dv.take c (chain[j]!) j (Dv.gone c chain j).chs (Dv.gone c chain j).wait).1:=by rw[<-h.take]
 have ab:s.ws.map cG=(Dv.take c (chain[j]!) j (Dv.gone c chain j).chs (Dv.gone c chain j).wait).2:=by rw[<-h.take]
 have main:∀(J:Lo)(s0:uy)(r:List DX)(T:Nat),Ok c chain us T J s0->s0.ws=s.ws->(Dv.gone c chain j).log.getLastD default=J->(Dv.gone c chain j).log≠[]->yA c us s0 r->jM s0 r=jM s q->log++q.map (qx c us dl)=(Dv.gone c chain j).log++r.map (qx c us dl)->
   RM c chain (j+1) us dl ⟨(jK c us (jM s q).ws (jM s q).cnt (jM s q).ep).2,(jM s q).cnt,(jM s q).ep,(jM s q).sq⟩ cs (log++q.map (qx c us dl)):=by
  intro J s0 r T o e1 e2 e3 f e4 e5;have hn:=hp.2;rw[<-e4]at hn;have hd:=Steps.draws h.lk hc Y f o hn;obtain⟨z,oz,hz⟩:=f.ok h.lk hc Y o;rw[e4]at oz hd;rw[hl]at hd;simp only[Nat.add_sub_cancel]at hd;rw[e1,ab]at hd
  have E:Dv.gone c chain (j+1)=⟨(Dv.take c (chain[j]!) j (Dv.gone c chain j).chs (Dv.gone c chain j).wait).1,(jK c us (jM s q).ws (jM s q).cnt (jM s q).ep).2.map cG,(Dv.gone c chain j).log++r.map (qx c us dl)⟩:=by
   rw[Dv.gone,Dv.step,e2,hd]
  refine⟨hl,λi hi=>h.lk.id i aA,λi hi=>h.lk.time i aA,λi hi=>h.lk.deps i aA,by rw[E];exact ac,by rw[E],λp hp=>?_,λe=>aA,λ_=>⟨by rw[E];exact e5,?_,by have:=oz.ep;grind,oz.sq⟩⟩
  .have:=oz.ws p (uF p hp);omega
  .have ae:(log++q.map (qx c us dl)).getLastD default=z:=by
    rw[e5,Dv.uM _ _ e3,e2,hz]
   rw[ae];exact⟨oz.hs.number,oz.hs.time,oz.hs.epoch,oz.hs.seq⟩
 obtain J|J:=gQ j
 .obtain⟨e0,e1,e2,e3⟩:=h.zero J
  have hs:s=⟨s.ws,0,0,0⟩:=by
   cases s;simp only at e1 e2 e3;subst e1 e2 e3;rfl
  have hu:us.length=1:=aA
  have I:=hp.1.abv;rw[hs]at I;obtain rfl|⟨x,r,rfl,q1,q2,q3,q4,q5⟩:=Du hu I
  .exfalso;have hn:=hp.2;have el:jM s []=s:=rfl;rw[el,e1,e2,ED hu]at hn;cases hn
  .have hg:(Dv.gone c chain j).log=[Dv.first (chain[0]!)]:=by rw[J];rfl
   refine main _ _ r _ (ES h.lk hu h.ws) rfl (by rw[hg];rfl) (by rw[hg];simp) q5 ?_ ?_
   .unfold jM
    grind
   .rw[e0,hg,eP,QI h.lk hu q1 q2 q3 q4];rfl
 .obtain⟨T,hT,o⟩:=h.fit hc Y hj J;obtain⟨g1,_⟩:=h.some J;have aa:=(Dv.vO hc Y j aA).some;exact main _ s q T o rfl (by rw[g1]) aa hp.1.abv rfl (by rw[<-g1])
end
end
end Hm
