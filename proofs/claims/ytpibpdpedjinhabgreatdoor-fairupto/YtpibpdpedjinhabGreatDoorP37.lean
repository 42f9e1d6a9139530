import Derived.Test.YtpibpdpedjinhabGreatDoorP36
set_option maxRecDepth 100000
set_option maxHeartbeats 8000000
set_option linter.all false
open Bool renaming false->aR,true->bB
open Go renaming Calls->eL,Code->eN,Frame->cT,Oper->km,TypeId->cH,Value->aD,World->X,execOp->bO,heap_alloc_new->cY,undef->aH
open Go.Code renaming seq->bL
open Go.Ending renaming returned->bX
open Go.IntKind renaming i64->aE,wrap_i64->gA
open Go.Obj renaming cells->aL
open Go.Proofs.Tryz renaming f4->gF
open Go.RowKit renaming Below->cG,Hid->cJ
open Go.Value renaming bool->cM,int->N,pointer->aG,slice->aM
open Go.Value.slice renaming injEq->eJ
open List renaming length_eq_zero_iff->cK,not_mem_nil->o5,range->iv,take_append_of_le_length->oX
open Option renaming none->Z,some->M
open Or renaming inl->bN,inr->cF
open Prod renaming fst->cI
namespace Go.Proofs.YtpibpdpedjinhabGreatDoor
namespace Pa
open Go Go.Conc Go.RowKit Go.Joins
open Hm (ptr jL jI kW PU Vw lF VO Ro Nd lX NO SO ku mY wF U9)
open Dv (X2 Cf)
open Po hiding X2 H B IT PR NB
section
variable {chain:List X2}{u:X2}
def CJ(chain:List X2):Int:=(chain[chain.length-1]!).time
def extC(chain:List X2)(u:X2):List X2:=if 60<=chain.length then chain else if mY (CJ chain) u=bB then chain++[{ u with id:=((chain.length+1:Nat):Int) }]else chain
def MF(chain:List X2)(u:X2):Int:=if 60<=chain.length then 0 else if mY (CJ chain) u=bB then((chain.length+1:Nat):Int)else 0
def LK(chain:List X2)(u:X2):Int:=if 60<=chain.length then 5 else if mY (CJ chain) u=bB then 0 else 2
theorem uF:∀(l:List X2)(b:Option Int)(u:X2),l≠[]->Dv.kF b l=bB->Dv.lY (M ((l[l.length-1]!).time)) u=bB->Dv.kF b (l++[u])=bB
 |[],_,_,h,_,_=>Xs rfl h
 |[x],b,u,_,h,hu=>by
  obtain⟨z,_⟩:=Dv.kK h;have E:Dv.lY (M x.time) u=bB:=hu;simp[Dv.kF,z,E]
 |x::y::l,b,u,_,h,hu=>by
  obtain⟨z,h2⟩:=Dv.kK h;have:=uF (y::l) (M x.time) u aC h2 (by simpa using hu);rw[dN,Dv.kF,z,this];rfl
theorem IZ(h:Dv.jS chain=bB)(I:chain.length<60)(z:mY (CJ chain) u=bB):Dv.jS (chain++[u])=bB:=by
 obtain⟨J,_,h2,_⟩:=Dv.jW h
 have E:Dv.lY (M (CJ chain)) u=bB:=by
  unfold mY at z;unfold Dv.lY;simp only[dF,Z3]at z⊢;exact⟨⟨aA,z.1.2⟩,z.2⟩
 have:=uF chain Z u (by grind) h2 E;unfold Dv.jS;rw[this,aS,iF,Bool.and_true];exact Z0 aA
theorem xk{i:Nat}(h:i<chain.length):(chain++[u])[i]! =chain[i]!:=by grind
theorem Sz{c:Cf}{j:Nat}(hc:Dv.jS chain=bB)(z:Dv.jS (chain++[u])=bB)(hcf:Dv.jK c=bB)(I:1<=j)(E:j<=chain.length):Dv.gone c (chain++[u]) j=Dv.gone c chain j:=by rw[<-Dv.GR z hcf I (by grind),oX E,Dv.GR hc hcf I E]
section
variable {c:Cf}{chain:List X2}{j k:Nat}{rs:Bool}{sil:Nat}{p:Nn}{w w':X}
theorem NO.types{h:lX w c p.x}{g:Nat}(E:NO p.x g):∃cs t z,w.heap[g]? =M (aL cs t z)/\t∈[60,83,28,73,52,3]:=by
 obtain rfl|e|e:=E
 .exact⟨_,_,_,h.obj,aB⟩
 .obtain rfl|e:=e
  .exact⟨_,_,_,h.src.obj,aB⟩
  .obtain⟨cs,q⟩:=h.src.row.obj e;exact⟨_,_,_,q,aB⟩
 .obtain⟨cs,t,z,q⟩:=Jj h.vw e;refine⟨cs,t,z,q,?_⟩;rcases h.vw.types e q with rfl|rfl|rfl<;>decide
theorem NC.turned(h:NC c chain j k rs sil p w){x':Nd}(R:lX w' c x')(I:x'.v=p.x.v)(hc:jL (NO p.x) w w'):VC c chain j x'.v p.y w':=by
 rw[I];have J:lF w' p.x.v:=I ▸ R.vw
 have key:∀g,NO p.x g->¬p.y.own p.x.v.kb g:=λg E=>by
  obtain⟨cs,t,Y,q,ht⟩:=NO.types (h:=h.nd) E
  have z:t∉[100,102,118,136,140]:=by
   simp only[dD,o5,or_false]at ht;rcases ht with rfl|rfl|rfl|rfl|rfl|rfl<;>decide
  simp only[dD,o5,or_false,not_or]at z;exact TS.zn h.vc.ts q z.1 z.2.1 z.2.2.1 z.2.2.2.1 z.2.2.2.2
 exact⟨J,TS.stands h.vc.ts (λg E=>hc.block g (TS.lt h.vc.ts E) λe=>key g e E) (h.ro (hc.mono λ_ _ e=>bN e)) (hc.block _ h.vc.ts.hd.pos λe=>ny (h.low _ (bN e)) rfl),h.vc.rm,h.vc.seen,h.vc.osl,h.vc.fits,h.vc.hdl,h.vc.low⟩
theorem NC.fail(h:NC c chain j k rs sil p w){n:Nat}(z:lX w' c { p.x with sil:=n })(hc:jL (NO p.x) w w'):NC c chain j k rs n ⟨{ p.x with sil:=n },p.y⟩ w':=
 ⟨z,h.turned z rfl hc,h.ps,h.last,rfl,h.rs,h.kl,h.k1,h.ids,h.hc,h.hcf,h.j1,h.jl,h.low⟩
theorem NC.reset(h:NC c chain j k rs sil p w)(z:lX w' c { p.x with rs:=bB })(hc:jL (NO p.x) w w'):NC c chain j k bB sil ⟨{ p.x with rs:=bB },p.y⟩ w':=
 ⟨z,h.turned z rfl hc,h.ps,h.last,h.sil,rfl,h.kl,h.k1,h.ids,h.hc,h.hcf,h.j1,h.jl,h.low⟩
theorem NC.extended(h:NC c chain j k rs sil p w){e:Ending}(I:wF w p.x.sb p.x.vb p.x.ps p.x.last p.x.sil (CJ chain) u e w'):e=bX (.tuple #[N aE (MF chain u),N aE (LK chain u)])/\∃p',NC c (extC chain u) j k rs sil p' w'/\p'.x.nk=p.x.nk/\jL (NK p) w w'/\∀g,NK p' g->NK p g\/w.heap.size<=g:=by
 have aj:=h.len;have ak:=h.last;unfold wF at I;rw[aj]at I;unfold MF LK extC;by_cases E:60<=chain.length
 .rw[ZD E]at I;rw[ZD E,ZD E,ZD E];have hc:=kV I.2;exact⟨I.1,p,h.still hc,rfl,hc.mono λ_ _ e=>e.elim,λg e=>bN e⟩
 .rw[Zs E]at I;rw[Zs E,Zs E,Zs E];by_cases z:mY (CJ chain) u=bB
  .rw[ZD z]at I;rw[ZD z,ZD z,ZD z];unfold U9 at I;rw[ak]at I;obtain⟨he,ag,vt,vl,hS,ae,aa⟩:=I;have af:jL (NO p.x) w w':=ae.h.mono λg _ e=>cF (bN e);have hN:=h.nd.afh hS ae;have R:=h.turned hN rfl af;have ai:mY (CJ chain) { u with id:=((chain.length+1:Nat):Int) }=bB:=z;have ac:=IZ h.hc aA ai
   have ho:∀g,NK ⟨{ p.x with vb:=ag,ps:=p.x.ps++[({ u with id:=((chain.length+1:Nat):Int) },vt,vl)],last:=chain.length+1,sil:=p.x.sil },p.y⟩ g->NK p g\/w.heap.size<=g:=λg Y=>by
    obtain(e|(e|e)|e)|e:=Y
    .exact bN (bN (bN e))
    .exact bN (bN (cF (bN (bN e))))
    .exact(aa g e).imp (λe=>bN (cF (bN (cF e)))) id
    .exact bN (bN (cF (cF e)))
    .exact bN (cF e)
   have Y:=Sz (u:={ u with id:=((chain.length+1:Nat):Int) }) h.hc ac h.hcf h.j1 h.jl;have an:=h.jl;have am:=h.lt (g:=p.x.nk) (bN (bN rfl));have ao:=h.low p.x.nk (bN (bN rfl));have J:=R.rm;refine⟨he,⟨{ p.x with vb:=ag,ps:=p.x.ps++[({ u with id:=((chain.length+1:Nat):Int) },vt,vl)],last:=chain.length+1,sil:=p.x.sil },p.y⟩,⟨hN,⟨R.vw,R.ts,⟨J.len,λi hi=>?_,λi hi=>?_,λi hi=>?_,?_,?_,J.ws,J.zero,?_⟩,?_,R.osl,R.fits,R.hdl,R.low⟩,by rw[bJ,h.ps];rfl,aC,h.sil,h.rs,h.kl,h.k1,λi hi=>?_,ac,h.hcf,h.j1,by grind,λg Y=>(ho g Y).elim (h.low g) aA⟩,rfl,af.mono λ_ _ e=>bN e,ho⟩
   .rw[J.id i hi,xk aA]
   .rw[J.time i hi,xk aA]
   .rw[J.deps i hi,xk aA]
   .rw[J.chs,Y]
   .rw[J.wait,Y]
   .rw[Y];exact J.some
   .rw[R.seen,oX h.jl]
   .rw[aS,iF]at hi;by_cases ah:i<chain.length
    .rw[xk ah];exact h.ids i ah
    .grind
  .rw[Zs z]at I;rw[Zs z,Zs z,Zs z];have hc:=kV I.2;exact⟨I.1,p,h.still hc,rfl,hc.mono λ_ _ e=>e.elim,λg e=>bN e⟩
theorem NC.extend(h:NC c chain j k rs sil p w){vt vl:aD}(hu:kW w u vt vl)(I:(0<u.txs.length->vt.ownBlock≠M p.x.sb)/\(0<u.logs.length->vl.ownBlock≠M p.x.sb)):eL PQ 8 #[aG (M ⟨p.x.nk,0,Z⟩),.agg #[N aE u.id,N aE u.time,vt,vl]] w λe w'=>e=bX (.tuple #[N aE (MF chain u),N aE (LK chain u)])/\∃R,NC c (extC chain u) j k rs sil R w'/\R.x.nk=p.x.nk/\jL (NK p) w w'/\∀g,NK R g->NK p g\/w.heap.size<=g:=by
 have aa:=(Dv.jW h.hc).2.1;have h1:=(Dv.jW h.hc).1;have J:=h.len;have ac:=h.last;obtain⟨q,Y⟩:∃q,p.x.ps[p.x.ps.length-1]? =M q:=⟨_,aO aA⟩
 have E:q.1.time=CJ chain:=by
  unfold CJ;rw[<-J,h.up Y]
 have ht:=Dv.Gi h.hc (show chain.length-1<chain.length by omega);have z:=Hm.Lc (x:=p.x) u vt vl h.nd hu I aA Y (by rw[E];unfold CJ;omega);rw[E]at z;exact z.mono λe w' hE=>h.extended hE
end
structure Ah where
 c:Cf
 chain:List X2
 j:Nat
 k:Nat
 rs:Bool
 sil:Nat
variable {s s':Ah}
abbrev Ah.at(s:Ah)(p:Nn)(w:X):Prop:=NC s.c s.chain s.j s.k s.rs s.sil p w
structure F3(w0:X)(te:cH)(xe:aD)(sa sb:Ah)(sx:Option Ah)(pa pb px:Nn)(w:X):Prop where
 a:sa.at pa w
 b:sb.at pb w
 x:∀s,sx=M s->s.at px w
 la:∀g,NK pa g->w0.heap.size<=g
 lb:∀g,NK pb g->w0.heap.size<=g
 lx:sx≠Z->∀g,NK px g->w0.heap.size<=g
 ab:∀g,NK pa g->¬NK pb g
 ax:sx≠Z->∀g,NK pa g->¬NK px g
 bx:sx≠Z->∀g,NK pb g->¬NK px g
 glo:Oo w te xe
 jM:jL (λ_=>False) w0 w
section
variable {w0 w w':X}{te:cH}{xe:aD}{sa sb:Ah}{sx:Option Ah}{pa pb px:Nn}
theorem Ah.apart{p q:Nn}(h:s.at p w)(z:s'.at q w)(hc:jL (NK p) w w')(I:∀g,NK p g->¬NK q g):s'.at q w':=z.kept (λg E=>hc.block g (z.lt E) λe=>I g e E) (h.ro hc) (hc.block _ z.vc.ts.hd.pos λe=>ny (h.low _ e) rfl)
theorem F3.swap(h:F3 w0 te xe sa sb sx pa pb px w):F3 w0 te xe sb sa sx pb pa px w:=⟨h.b,h.a,h.x,h.lb,h.la,h.lx,λg e z=>h.ab g z e,h.bx,h.ax,h.glo,h.jM⟩
theorem F3.still(h:F3 w0 te xe sa sb sx pa pb px w)(hc:jL (λ_=>False) w w'):F3 w0 te xe sa sb sx pa pb px w':=⟨h.a.still hc,h.b.still hc,λs e=>(h.x s e).still hc,h.la,h.lb,h.lx,h.ab,h.ax,h.bx,h.glo.kept hc λ_ e=>e.elim,h.jM.trans hc λ_ _ e=>e⟩
theorem F3.ML(h:F3 w0 te xe sa sb sx pa pb px w){sa':Ah}{z:Nn}(R:sa'.at z w')(hc:jL (NK pa) w w')(I:∀g,NK z g->NK pa g\/w.heap.size<=g):F3 w0 te xe sa' sb sx z pb px w':=by
 have s0:=h.jM.size;refine⟨R,Ah.apart h.a h.b hc h.ab,λs e=>Ah.apart h.a (h.x s e) hc (h.ax (by grind)),λg E=>(I g E).elim (h.la g) (bH s0),h.lb,h.lx,λg E e=>?_,λJ g E e=>?_,h.bx,h.glo.kept hc h.a.low,h.jM.trans hc λg E e=>?_⟩
 .obtain q|q:=I g E
  .exact h.ab g q e
  .have:=h.b.lt e;omega
 .obtain q|q:=I g E
  .exact h.ax J g q e
  .obtain⟨s,hs⟩:=Option.ne_none_iff_exists'.1 J;have:=(h.x s hs).lt e;omega
 .have:=h.la g e;omega
theorem F3.QV(h:F3 w0 te xe sa sb sx pa pb px w){sb':Ah}{z:Nn}(I:sb'.at z w')(hc:jL (NK pb) w w')(E:∀g,NK z g->NK pb g\/w.heap.size<=g):F3 w0 te xe sa sb' sx pa z px w':=(h.swap.ML I hc E).swap
theorem F3.VI(h:F3 w0 te xe sa sb sx pa pb px w){E:Nn}(hs:sx=M s)(hn:s'.at E w')(hc:jL (NK px) w w')(J:∀g,NK E g->NK px g\/w.heap.size<=g):F3 w0 te xe sa sb (M s') pa pb E w':=by
 have s0:=h.jM.size;have I:sx≠Z:=by rw[hs];exact Option.some_ne_none s
 have Y:=h.x s hs;refine⟨Ah.apart Y h.a hc λg e R=>h.ax I g R e,Ah.apart Y h.b hc λg e R=>h.bx I g R e,λt e=>by cases e;exact hn,h.la,h.lb,λ_ g z=>(J g z).elim (h.lx I g) (bH s0),h.ab,λ_ g z e=>?_,λ_ g z e=>?_,h.glo.kept hc Y.low,h.jM.trans hc λg z e=>?_⟩
 .obtain q|q:=J g e
  .exact h.ax I g z q
  .have:=h.a.lt z;omega
 .obtain q|q:=J g e
  .exact h.bx I g z q
  .have:=h.b.lt z;omega
 .have:=h.lx I g e;omega
end
end
end Pa
namespace Hm
open Go.RowKit Go.Joins Go.Shelf
open Fr (below_drewN)
def pk(c n:Int):Int:=(if c<0 then -(c+1)else c).tmod n
def Rh{c n:Int}(E:0<n):0<=pk c n/\pk c n<n:=by
 unfold pk;have z:0<=(if c<0 then -(c+1)else c):=by split<;>omega
 exact⟨Int.tmod_nonneg _ z,Int.tmod_lt_of_pos _ E⟩
def pick_any(c n:Int)(w:X)(R:0<n)(J:n<=9223372036854775807)(aa:-9223372036854775808<=c)(I:c<=9223372036854775807):eL PQ 7 #[N aE c,N aE n] w λe w'=>e=bX (N aE (pk c n))/\w'=w:=by
 have hp:=Rh (c:=c) R;have Y:(n == 0)=aR:=ZS aA;have E:n≠0:=aA
 obtain⟨r,z⟩:∃r,pk c n=r:=⟨_,rfl⟩
 rw[z]at hp⊢;have hw:IntKind.i64.wrap r=r:=by rw[gA];omega
 by_cases h:c<0
 .have h1:IntKind.i64.wrap (c+1)=c+1:=by rw[gA];omega
  have h2:IntKind.i64.wrap (-(c+1))=-(c+1):=by rw[gA];omega
  have h3:(-(c+1)).tmod n=r:=by rw[<-z,pk,ZD h]
  go_enter (fq Tryz.func7 rfl),Tryz.ntmps7;go_wp2_with fail;go_ret;exact⟨rfl,rfl⟩
 .have h3:c.tmod n=r:=by rw[<-z,pk,Zs h]
  go_enter (fq Tryz.func7 rfl),Tryz.ntmps7;go_wp2_with fail;go_ret;exact⟨rfl,rfl⟩
open Dv (Lo)
def OO{a b:ByteArray}(h:a.toList=b.toList):a=b:=by apply ByteArray.ext;apply Array.ext';simpa[ByteArray.toList_eq]using h
def vC{α:Type}{l:List α}{j:Nat}{x:α}(h:l[j]? =M x):l.take (j+1)=l.take j++[x]:=by rw[List.take_add_one,h];rfl
def vO(va vb:aD)(la lb:List (List UInt8))(w:X)(Y:Rd w 1 va la.length (la.map nT))(I:Rd w 1 vb lb.length (lb.map nT))(hl:la.length<=9223372036854775807):eL PQ 56 #[va,vb] w λe w'=>e=bX (cM (decide (la=lb)))/\cG w.heap.size w w':=by
 obtain⟨aa,ac,rfl⟩:=Y.slice;obtain⟨ba,bc,rfl⟩:=I.slice;obtain⟨r,R⟩:∃r,decide (la=lb)=r:=⟨_,rfl⟩
 rw[R];obtain⟨na,z⟩:∃n,la.length=n:=⟨_,rfl⟩
 obtain⟨nb,E⟩:∃n,lb.length=n:=⟨_,rfl⟩
 have H:cJ _:=jy Y (jy I (jy R (jy z E)));rw[z]at hl;rw[z,E];clear Y I R z E;by_cases hn:na=nb
 .subst hn;have ak:((na:Int) == (na:Int))=bB:=by simp
  go_enter (fq Tryz.func56 rfl),Tryz.ntmps56;go_wp2_with fail;go_loopg [5] na (λgg t wr=>∃i:Nat,i<=na/\t=N aE i/\gg=na-i/\cJ (la.take i=lb.take i/\cG w.heap.size w wr))
  case atStart=>exact⟨0,dL _,rfl,rfl,⟨rfl,aJ _ _⟩⟩
  case round=>
   obtain⟨i,hi,rfl,rfl,HI⟩:=hrel;obtain⟨Y,I,R,z,E⟩:=H.out;by_cases ap:i<na
   .have ah:(i:Int)<na:=by omega
    obtain⟨x,hx⟩:∃x,la[i]? =M x:=⟨_,aO aA⟩
    obtain⟨y,hy⟩:∃y,lb[i]? =M y:=⟨_,aO aA⟩
    obtain⟨g1,o1,c1,e1,_,an,q1⟩:=Y.pos aA;obtain⟨g2,o2,c2,e2,_,am,q2⟩:=I.pos aA;simp only[eJ]at e1 e2;obtain⟨rfl,_,rfl⟩:=e1;obtain⟨rfl,_,rfl⟩:=e2;have k1:wr.cell? ⟨g1,o1+i,Z⟩=M (nT x):=(HI.out.2.cell (p:=⟨g1,_,Z⟩) an).trans (q1 i _ (by rw[fE,hx];rfl));have k2:wr.cell? ⟨g2,o2+i,Z⟩=M (nT y):=(HI.out.2.cell (p:=⟨g2,_,Z⟩) am).trans (q2 i _ (by rw[fE,hy];rfl));unfold nT at k1 k2;obtain⟨XB,af⟩:∃Wd:ByteArray,(⟨x.toArray⟩:ByteArray)=Wd:=⟨_,rfl⟩
    obtain⟨YB,ae⟩:∃Wd:ByteArray,(⟨y.toArray⟩:ByteArray)=Wd:=⟨_,rfl⟩
    rw[af]at k1;rw[ae]at k2;have ai:=HI.out.2;by_cases J:x=y
    .have ag:XB=YB:=by rw[<-af,<-ae,J]
     subst ag;clear Y I q1 q2 R z E;go_wp2_with fail;go_quiet (fail);go_wp2_with fail;go_roundg (na-(i+1))
     case measure=>omega
     case rel=>exact⟨_,aA,by go_num,rfl,⟨by rw[vC hx,vC hy,HI.out.1,J],below_drewN ai _⟩⟩
    .have ag:XB≠YB:=λe=>J (by
      have:x.toArray=y.toArray:=by
       rw[<-af,<-ae]at e;simpa using e
      simpa using this)
     have ao:=ZS (λe=>ag (OO e));clear Y I q1 q2;go_wp2_with fail;go_quiet (fail);go_wp2_with fail;go_ret;refine⟨?_,below_drewN ai _⟩;have aj:la≠lb:=λe=>J (by rw[e,hy]at hx;exact(fC hx).symm)
     show Ending.returned (cM aR)=_
     rw[<-R,ZZ aj]
   .have ah:¬(i:Int)<na:=by omega
    clear Y I;go_wp2_with fail;go_ret;obtain rfl:i=na:=aA
    have h1:=HI.out.1;rw[eH aA,eH aA]at h1;exact⟨by rw[<-R,h1];simp,HI.out.2⟩
 .have ak:((na:Int) == (nb:Int))=aR:=by simp;omega
  go_enter (fq Tryz.func56 rfl),Tryz.ntmps56;go_wp2_with fail;go_ret;obtain⟨Y,I,R,z,E⟩:=H.out;refine⟨?_,aJ _ _⟩;rw[<-R,ZZ (λe=>hn (by rw[<-z,<-E,e]))];rfl
def acA{a b:Lo}(I:a.number=b.number)(h2:a.time=b.time)(h3:a.epoch=b.epoch)(h4:a.id=b.id)(R:a.seq=b.seq)(z:a.txs=b.txs)(J:a.deps=b.deps)(E:a.at_=b.at_):a=b:=by
 cases a;cases b
 simp_all
def Wh(p q:PL)(w:X)(au:kQ w p.2.1 p.1.txs)(ao:kQ w p.2.2 p.1.deps)(ar:kQ w q.2.1 q.1.txs)(am:kQ w q.2.2 q.1.deps)(az:p.1.txs.length<=9223372036854775807)(a5:p.1.deps.length<=9223372036854775807):eL PQ 34 #[.agg (jJ p).toArray,.agg (jJ q).toArray] w λe w'=>∃r,e=bX (.bool r)/\(r=bB↔p.1=q.1)/\cG w.heap.size w w':=by
 obtain⟨a1,c1,e1⟩:=Row.slice au;obtain⟨a2,c2,e2⟩:=Row.slice ao;obtain⟨a3,c3,e3⟩:=Row.slice ar;obtain⟨a4,c4,e4⟩:=Row.slice am;have r1:=Row.rd au;have r2:=Row.rd ao;have r3:=Row.rd ar;have r4:=Row.rd am;rw[e1]at r1;rw[e2]at r2;rw[e3]at r3;rw[e4]at r4;unfold jJ;rw[e1,e2,e3,e4];clear au ao ar am e1 e2 e3 e4;have ap:=λV hV=>vO _ _ _ _ V (r1.below hV) (r3.below hV) az;have ai:=λV hV=>vO _ _ _ _ V (r2.below hV) (r4.below hV) a5;generalize p.1.txs.length=n1 at *;generalize p.1.deps.length=n2 at *;generalize q.1.txs.length=n3 at *;generalize q.1.deps.length=n4 at *;obtain⟨bx,ak⟩:∃b,decide (p.1.txs=q.1.txs)=b:=⟨_,rfl⟩
 obtain⟨bd,aj⟩:∃b,decide (p.1.deps=q.1.deps)=b:=⟨_,rfl⟩
 rw[ak]at ap;rw[aj]at ai;have a6:cJ _:=ap;have a0:cJ _:=ai;have HB:cJ _:=jy ak aj;obtain⟨Wd,hX⟩:∃Wd:X,Wd=(w.alloc (aL #[N aE p.1.number,N aE p.1.time,N aE p.1.epoch,N aE p.1.id,N aE p.1.seq,.slice a1 n1 c1,.slice a2 n2 c2,N aE p.1.at_] 52)).alloc (aL #[N aE q.1.number,N aE q.1.time,N aE q.1.epoch,N aE q.1.id,N aE q.1.seq,.slice a3 n3 c3,.slice a4 n4 c4,N aE q.1.at_] 52):=⟨_,rfl⟩
 have ay:cG w.heap.size w Wd:=by rw[hX];exact((aJ _ w).alloc jB _).alloc aC _
 have x1:Wd.heap[w.heap.size]? =M (aL #[N aE p.1.number,N aE p.1.time,N aE p.1.epoch,N aE p.1.id,N aE p.1.seq,.slice a1 n1 c1,.slice a2 n2 c2,N aE p.1.at_] 52 (0,0)):=by rw[hX];exact(aZ _ _ _ aC).trans (cY _ _)
 have x2:Wd.heap[w.heap.size+1]? =M (aL #[N aE q.1.number,N aE q.1.time,N aE q.1.epoch,N aE q.1.id,N aE q.1.seq,.slice a3 n3 c3,.slice a4 n4 c4,N aE q.1.at_] 52 (0,0)):=by
  have:=cY (w.alloc (aL #[N aE p.1.number,N aE p.1.time,N aE p.1.epoch,N aE p.1.id,N aE p.1.seq,.slice a1 n1 c1,.slice a2 n2 c2,N aE p.1.at_] 52)) (aL #[N aE q.1.number,N aE q.1.time,N aE q.1.epoch,N aE q.1.id,N aE q.1.seq,.slice a3 n3 c3,.slice a4 n4 c4,N aE q.1.at_] 52);rw[fB]at this;rw[hX];exact this
 have l1:=(jE x1)
 have l2:=(jE x2)
 obtain⟨k0,k1,k2,k3,k4,k5,k6,k7,kf⟩:=lq x1;obtain⟨m0,m1,m2,m3,m4,m5,m6,m7,mf⟩:=lq x2;have HX:cJ _:=jy x1 (jy x2 ay);clear x1 x2 ay ap ai ak aj r1 r2 r3 r4;go_enter (fq Tryz.func34 rfl),Tryz.ntmps34;go_upto_region 1 with fail;rw[<-hX];clear hX;go_upto_region 2 with(go_at_call 56;refine aT (a6.out _ HX.out.2.2) ?_;rintro e w2 ⟨rfl,R⟩)
 have y1:=(R.block _ l1).trans HX.out.1;have y2:=(R.block _ l2).trans HX.out.2.1;have ah:=HX.out.2.2.trans (R.mono HX.out.2.2.size);have s2:=R.size;clear k0 k1 k2 k3 k4 k5 k6 k7 kf m0 m1 m2 m3 m4 m5 m6 m7 mf;obtain⟨k0,k1,k2,k3,k4,k5,k6,k7,kf⟩:=lq y1;obtain⟨m0,m1,m2,m3,m4,m5,m6,m7,mf⟩:=lq y2;have HY:cJ _:=jy y1 (jy y2 ah);clear y1 y2 ah R;go_upto_region 3 with(go_at_call 56;refine aT (a0.out _ HY.out.2.2) ?_;rintro e w3 ⟨rfl,af⟩)
 have z1:=(af.block _ aA).trans HY.out.1;have z2:=(af.block _ aA).trans HY.out.2.1;have ag:=HY.out.2.2.trans (af.mono HY.out.2.2.size);clear k0 k1 k2 k3 k4 k5 k6 k7 kf m0 m1 m2 m3 m4 m5 m6 m7 mf;obtain⟨k0,k1,k2,k3,k4,k5,k6,k7,kf⟩:=lq z1;obtain⟨m0,m1,m2,m3,m4,m5,m6,m7,mf⟩:=lq z2;have HZ:cJ _:=ag;clear z1 z2 ag af;cases bx with
 |false=>
  go_wp2_with fail;go_ret;refine⟨aR,rfl,⟨λe=>(by cases e),λe=>?_⟩,HZ.out⟩;exfalso;exact Ys HB.out.1 (by rw[e])
 |true=>
  cases bd with
  |false=>
   go_wp2_with fail;go_ret;refine⟨aR,rfl,⟨λe=>(by cases e),λe=>?_⟩,HZ.out⟩;exfalso;exact Ys HB.out.2 (by rw[e])
  |true=>
   by_cases z:p.1.number=q.1.number;rotate_left
   .have J:((p.1.number:Int) == (q.1.number:Int))=aR:=ZS aA;go_wp2_with fail;go_ret;refine⟨aR,rfl,⟨λe=>(by cases e),λe=>?_⟩,HZ.out⟩;exfalso;exact z (by rw[e])
   have J:((p.1.number:Int) == (q.1.number:Int))=bB:=by rw[z];exact beq_self_eq_true _
   by_cases I:p.1.time=q.1.time;rotate_left
   .have ae:((p.1.time:Int) == (q.1.time:Int))=aR:=ZS aA;go_wp2_with fail;go_ret;refine⟨aR,rfl,⟨λe=>(by cases e),λe=>?_⟩,HZ.out⟩;exfalso;exact I (by rw[e])
   have ae:((p.1.time:Int) == (q.1.time:Int))=bB:=by rw[I];exact beq_self_eq_true _
   by_cases E:p.1.epoch=q.1.epoch;rotate_left
   .have aa:((p.1.epoch:Int) == (q.1.epoch:Int))=aR:=ZS aA;go_wp2_with fail;go_ret;refine⟨aR,rfl,⟨λe=>(by cases e),λe=>?_⟩,HZ.out⟩;exfalso;exact E (by rw[e])
   have aa:((p.1.epoch:Int) == (q.1.epoch:Int))=bB:=by rw[E];exact beq_self_eq_true _
   by_cases aq:p.1.id=q.1.id;rotate_left
   .have aw:((p.1.id:Int) == (q.1.id:Int))=aR:=ZS aA;go_wp2_with fail;go_ret;refine⟨aR,rfl,⟨λe=>(by cases e),λe=>?_⟩,HZ.out⟩;exfalso;exact aq (by rw[e])
   have aw:((p.1.id:Int) == (q.1.id:Int))=bB:=by rw[aq];exact beq_self_eq_true _
   by_cases ac:p.1.seq=q.1.seq;rotate_left
   .have an:((p.1.seq:Int) == (q.1.seq:Int))=aR:=ZS aA;go_wp2_with fail;go_ret;refine⟨aR,rfl,⟨λe=>(by cases e),λe=>?_⟩,HZ.out⟩;exfalso;exact ac (by rw[e])
   have an:((p.1.seq:Int) == (q.1.seq:Int))=bB:=by rw[ac];exact beq_self_eq_true _
   by_cases Y:p.1.at_=q.1.at_;rotate_left
   .have av:((p.1.at_:Int) == (q.1.at_:Int))=aR:=ZS aA;go_wp2_with fail;go_ret;refine⟨aR,rfl,⟨λe=>(by cases e),λe=>?_⟩,HZ.out⟩;exfalso;exact Y (by rw[e])
   have av:((p.1.at_:Int) == (q.1.at_:Int))=bB:=by rw[Y];exact beq_self_eq_true _
   go_wp2_with fail;go_ret;exact⟨bB,rfl,⟨λ_=>acA z I E aq ac (Z2 HB.out.1) (Z2 HB.out.2) Y,λ_=>rfl⟩,HZ.out⟩
section
variable {w w':X}{ps qs:List PL}
def Bz(w:X)(v:aD)(ps:List PL):Prop:=Rd w 8 v ps.length (ps.flatMap jJ)/\∀p,p∈ps->kQ w p.2.1 p.1.txs/\kQ w p.2.2 p.1.deps/\p.1.txs.length<=9223372036854775807/\p.1.deps.length<=9223372036854775807
theorem Bz.below{v:aD}(h:Bz w v ps)(z:cG w.heap.size w w'):Bz w' v ps:=⟨h.1.below z,λp hp=>⟨Row.below (h.2 p hp).1 z,Row.below (h.2 p hp).2.1 z,(h.2 p hp).2.2⟩⟩
theorem Oj(p:PL):(jJ p).length=8:=rfl
theorem Bz.cells{w:X}{g off cap:Nat}{ps:List PL}{n:Nat}(h:Bz w (aM (M ⟨g,off,Z⟩) n cap) ps){i:Nat}{p:PL}(E:ps[i]? =M p):∀(j:Nat)(u:aD),(jJ p)[j]? =M u->w.cell? ⟨g,off+(i*8+j),Z⟩=M u:=λj u z=>by
 have I:n=ps.length:=by
  obtain⟨a,c,e⟩:=h.1.slice;simp only[eJ]at e;exact e.2.1
 subst I;exact Rd.rec jJ 8 Oj h.1 E (by have:=(aN.1 z).1;simpa[jJ]using this) z
def MP(ps qs:List PL)(w:X)(e:Ending)(w':X):Prop:=∃r,e=bX (.bool r)/\(r=bB↔(qs.map cI) <+:(ps.map cI))/\cG w.heap.size w w'
theorem MP.yes(h:(qs.map cI) <+:(ps.map cI))(z:cG w.heap.size w w'):MP ps qs w (bX (cM bB)) w':=⟨bB,rfl,⟨λ_=>h,λ_=>rfl⟩,z⟩
theorem MP.no(h:¬(qs.map cI) <+:(ps.map cI))(z:cG w.heap.size w w'):MP ps qs w (bX (cM aR)) w':=⟨aR,rfl,⟨λe=>(by cases e),λe=>Xs e h⟩,z⟩
theorem Pv(va vb:aD)(ps qs:List PL)(w:X)(ha:Bz w va ps)(hb:Bz w vb qs)(hl:ps.length<=9223372036854775807):eL PQ 16 #[va,vb] w (MP ps qs w):=by
 obtain⟨aa,ac,rfl⟩:=ha.1.slice;obtain⟨ba,bc,rfl⟩:=hb.1.slice;obtain⟨na,I⟩:∃n,ps.length=n:=⟨_,rfl⟩
 obtain⟨nb,J⟩:∃n,qs.length=n:=⟨_,rfl⟩
 have H:cJ _:=jy ha (jy hb (jy I J));rw[I]at hl;rw[I,J];clear ha hb I J;by_cases hn:na<nb
 .have ak:(na:Int)<nb:=by omega
  go_enter (fq Tryz.func16 rfl),Tryz.ntmps16;go_wp2_with fail;go_ret;obtain⟨ha,hb,I,J⟩:=H.out;refine MP.no (λe=>?_) (aJ _ _);have:=e.length_le;simp only[bC]at this;omega
 .have ak:¬(na:Int)<nb:=by omega
  go_enter (fq Tryz.func16 rfl),Tryz.ntmps16;go_wp2_with fail;go_loopg [5,6] nb (λgg t _ wr=>∃i:Nat,i<=nb/\t=N aE i/\gg=nb-i/\cJ ((qs.map cI).take i=(ps.map cI).take i/\cG w.heap.size w wr))
  case atStart=>exact⟨0,dL _,rfl,rfl,⟨rfl,aJ _ _⟩⟩
  case round=>
   obtain⟨i,hi,rfl,rfl,HI⟩:=hrel;obtain⟨ha,hb,I,J⟩:=H.out;by_cases ap:i<nb
   .have aj:(i:Int)<nb:=by omega
    have ao:(i:Int)<na:=aA
    obtain⟨x,hx⟩:∃x,ps[i]? =M x:=⟨_,aO aA⟩
    obtain⟨y,hy⟩:∃y,qs[i]? =M y:=⟨_,aO aA⟩
    have E:=HI.out.2;obtain⟨g1,o1,d1,e1,_⟩:=ha.1.pos aA;obtain⟨g2,o2,d2,e2,_⟩:=hb.1.pos aA;simp only[eJ]at e1 e2;obtain⟨rfl,_,rfl⟩:=e1;obtain⟨rfl,_,rfl⟩:=e2;have Y:=(ha.below E).cells hx;have R:=(hb.below E).cells hy;have sx:=ha.2 x (aX hx);have sy:=hb.2 y (aX hy);have z:=λV hV=>Wh x y V (Row.below sx.1 hV) (Row.below sx.2.1 hV) (Row.below sy.1 hV) (Row.below sy.2.1 hV) sx.2.2.1 sx.2.2.2;obtain⟨a1,c1,f1⟩:=Row.slice sx.1;obtain⟨a2,c2,f2⟩:=Row.slice sx.2.1;obtain⟨a3,c3,f3⟩:=Row.slice sy.1;obtain⟨a4,c4,f4⟩:=Row.slice sy.2.1;unfold jJ at Y R z;rw[f1,f2,f3,f4]at z;rw[f1,f2]at Y;rw[f3,f4]at R;have k0:wr.cell? ⟨g1,o1+i*8,Z⟩=_:=Y 0 _ rfl;have k1:wr.cell? ⟨g1,o1+i*8+1,Z⟩=_:=Y 1 _ rfl;have k2:wr.cell? ⟨g1,o1+i*8+2,Z⟩=_:=Y 2 _ rfl;have k3:wr.cell? ⟨g1,o1+i*8+3,Z⟩=_:=Y 3 _ rfl;have k4:wr.cell? ⟨g1,o1+i*8+4,Z⟩=_:=Y 4 _ rfl;have k5:wr.cell? ⟨g1,o1+i*8+5,Z⟩=_:=Y 5 _ rfl;have k6:wr.cell? ⟨g1,o1+i*8+6,Z⟩=_:=Y 6 _ rfl;have k7:wr.cell? ⟨g1,o1+i*8+7,Z⟩=_:=Y 7 _ rfl;have m0:wr.cell? ⟨g2,o2+i*8,Z⟩=_:=R 0 _ rfl;have m1:wr.cell? ⟨g2,o2+i*8+1,Z⟩=_:=R 1 _ rfl;have m2:wr.cell? ⟨g2,o2+i*8+2,Z⟩=_:=R 2 _ rfl;have m3:wr.cell? ⟨g2,o2+i*8+3,Z⟩=_:=R 3 _ rfl;have m4:wr.cell? ⟨g2,o2+i*8+4,Z⟩=_:=R 4 _ rfl;have m5:wr.cell? ⟨g2,o2+i*8+5,Z⟩=_:=R 5 _ rfl;have m6:wr.cell? ⟨g2,o2+i*8+6,Z⟩=_:=R 6 _ rfl;have m7:wr.cell? ⟨g2,o2+i*8+7,Z⟩=_:=R 7 _ rfl;have ag:cJ _:=z;have ae:cJ _:=jy hx hy;have HN:cJ _:=jy I J;clear z ha hb Y R sx sy hx hy f1 f2 f3 f4 I J;go_upto_region 6 with fail;go_region_with (go_at_call 34;refine aT (ag.out _ ?_) ?_;(first|exact E.drew|exact below_drewN E _|exact E);rintro e5 w5 ⟨r,rfl,ai,an⟩)
    all_goals
     have af:cG w.heap.size w w5:=Below.trans (by first|exact E.drew|exact below_drewN E _|exact E) (an.mono (by simpa using E.size));have ah:cJ (r=bB↔x.1=y.1):=ai;clear ai;cases r
     .go_wp2_with fail;go_ret;refine MP.no (λe=>?_) af;obtain⟨tl,am⟩:=e;have J:=HN.out.2;have q1:=Z1 (λl=>l[i]?) am;rw[bZ (by rw[bC];omega),fE,fE,ae.out.1,ae.out.2]at q1;have q2:=ah.out.2 (fC q1).symm;cases q2
     .go_wp2_with fail;go_roundg (nb-(i+1))
      case measure=>omega
      case rel=>exact⟨_,aA,by go_num,rfl,⟨by rw[vC (x:=y.1) (by rw[fE,ae.out.2];rfl),vC (x:=x.1) (by rw[fE,ae.out.1];rfl),HI.out.1,ah.out.1 (by first|exact trivial|rfl)],af⟩⟩
   .have aj:¬(i:Int)<nb:=by omega
    clear ha hb;go_wp2_with fail;go_ret;obtain rfl:i=nb:=aA
    have h1:=HI.out.1;rw[eH (by rw[bC];omega)]at h1;exact MP.yes (by rw[h1];exact List.take_prefix _ _) HI.out.2
end
open Dv (Lo X2 Cf)
section
variable {n cap:Nat}
noncomputable def Ux:eN:=match Tryz.f4.body with
 |some (bL c _)=>c
 |_=>.ret
noncomputable def Ph:eN:=match Tryz.f4.body with
 |some (bL _ (bL c _))=>c
 |_=>.ret
noncomputable def Tc:eN:=match Tryz.f4.body with
 |some (bL _ (bL _ (bL c _)))=>c
 |_=>.ret
noncomputable def O8:eN:=match Tryz.f4.body with
 |some (bL _ (bL _ (bL _ (bL c _))))=>c
 |_=>.ret
noncomputable def Om:eN:=match Tryz.f4.body with
 |some (bL _ (bL _ (bL _ (bL _ (bL c _)))))=>c
 |_=>.ret
noncomputable def OG:eN:=match Tryz.f4.body with
 |some (bL _ (bL _ (bL _ (bL _ (bL _ (bL c _))))))=>c
 |_=>.ret
noncomputable def OH:eN:=match Tryz.f4.body with
 |some (bL _ (bL _ (bL _ (bL _ (bL _ (bL _ (bL c _)))))))=>c
 |_=>.ret
noncomputable def Og:eN:=match Tryz.f4.body with
 |some (bL _ (bL _ (bL _ (bL _ (bL _ (bL _ (bL _ (bL c _))))))))=>c
 |_=>.ret
noncomputable def Di:eN:=match Tryz.f4.body with
 |some (bL _ (bL _ (bL _ (bL _ (bL _ (bL _ (bL _ (bL _ (bL c _)))))))))=>c
 |_=>.ret
noncomputable def DK:eN:=match Tryz.f4.body with
 |some (bL _ (bL _ (bL _ (bL _ (bL _ (bL _ (bL _ (bL _ (bL _ (bL (bL c _) _))))))))))=>c
 |_=>.ret
noncomputable def tX:eN:=match Tryz.f4.body with
 |some (bL _ (bL _ (bL _ (bL _ (bL _ (bL _ (bL _ (bL _ (bL _ (bL (bL _ (.block _ (.loop c))) _))))))))))=>c
 |_=>.ret
noncomputable def Zh:eN:=match Tryz.f4.body with
 |some (bL _ (bL _ (bL _ (bL _ (bL _ (bL _ (bL _ (bL _ (bL _ (bL _ c))))))))))=>c
 |_=>.ret
noncomputable def FT:eN:=match tX with
 |bL (bL c _) _=>c
 |_=>.ret
noncomputable def FZ:eN:=match tX with
 |bL _ (bL (.block _ (bL c _)) _)=>c
 |_=>.ret
noncomputable def G8:eN:=match tX with
 |bL _ (bL (.block _ (bL _ (bL (bL c _) _))) _)=>c
 |_=>.ret
noncomputable def vF:eN:=match tX with
 |bL _ (bL (.block _ (bL _ (bL (bL _ (.block _ c)) _))) _)=>c
 |_=>.ret
noncomputable def Eu:eN:=match tX with
 |bL _ (bL (.block _ (bL _ (bL _ (bL c _)))) _)=>c
 |_=>.ret
noncomputable def DU:eN:=match tX with
 |bL _ (bL (.block _ (bL _ (bL _ (bL _ (.cond _ (bL c _) _))))) _)=>c
 |_=>.ret
noncomputable def DL:eN:=match tX with
 |bL _ (bL (.block _ (bL _ (bL _ (bL _ (.cond _ (bL _ c) _))))) _)=>c
 |_=>.ret
noncomputable def Gp:eN:=match tX with
 |bL _ (bL _ c)=>c
 |_=>.ret
noncomputable def RS:eN:=match vF with
 |bL c _=>c
 |_=>.ret
noncomputable def VD:eN:=match vF with
 |bL _ (.cond _ (bL c _) _)=>c
 |_=>.ret
noncomputable def X3:eN:=match vF with
 |bL _ (.cond _ (bL _ (bL c _)) _)=>c
 |_=>.ret
noncomputable def YG:eN:=match vF with
 |bL _ (.cond _ (bL _ (bL _ (bL c _))) _)=>c
 |_=>.ret
noncomputable def Yi:eN:=match vF with
 |bL _ (.cond _ (bL _ (bL _ (bL _ (bL c _)))) _)=>c
 |_=>.ret
noncomputable def X0:eN:=match vF with
 |bL _ (.cond _ (bL _ (bL _ (bL _ (bL _ (bL c _))))) _)=>c
 |_=>.ret
noncomputable def XP:eN:=match vF with
 |bL _ (.cond _ (bL _ (bL _ (bL _ (bL _ (bL _ c))))) _)=>c
 |_=>.ret
noncomputable def QW:eN:=match vF with
 |bL _ (.cond _ _ (bL c _))=>c
 |_=>.ret
noncomputable def WB:eN:=match vF with
 |bL _ (.cond _ _ (bL _ (.cond _ (bL c _) _)))=>c
 |_=>.ret
noncomputable def Yn:eN:=match vF with
 |bL _ (.cond _ _ (bL _ (.cond _ (bL _ c) _)))=>c
 |_=>.ret
noncomputable def QD:eN:=match vF with
 |bL _ (.cond _ _ (bL _ (.cond _ _ (bL c _))))=>c
 |_=>.ret
noncomputable def WW:eN:=match vF with
 |bL _ (.cond _ _ (bL _ (.cond _ _ (bL _ (.cond _ (bL c _) _)))))=>c
 |_=>.ret
noncomputable def YX:eN:=match vF with
 |bL _ (.cond _ _ (bL _ (.cond _ _ (bL _ (.cond _ (bL _ c) _)))))=>c
 |_=>.ret
noncomputable def Rw:eN:=match vF with
 |bL _ (.cond _ _ (bL _ (.cond _ _ (bL _ (.cond _ _ (bL c _))))))=>c
 |_=>.ret
noncomputable def ED:eN:=match vF with
 |bL _ (.cond _ _ (bL _ (.cond _ _ (bL _ (.cond _ _ (bL _ (.block _ (.loop c))))))))=>c
 |_=>.ret
noncomputable def KZ:eN:=match ED with
 |bL (bL c _) _=>c
 |_=>.ret
noncomputable def Q8:eN:=match ED with
 |bL _ (bL (.block _ (bL c _)) _)=>c
 |_=>.ret
noncomputable def Q7:eN:=match ED with
 |bL _ (bL (.block _ (bL _ (bL (bL c _) _))) _)=>c
 |_=>.ret
noncomputable def Q9:eN:=match ED with
 |bL _ (bL (.block _ (bL _ (bL (bL _ (.cond _ c _)) _))) _)=>c
 |_=>.ret
noncomputable def KH:eN:=match ED with
 |bL _ (bL (.block _ (bL _ (bL _ (bL c _)))) _)=>c
 |_=>.ret
noncomputable def LM:eN:=match ED with
 |bL _ (bL (.block _ (bL _ (bL _ (bL _ c)))) _)=>c
 |_=>.ret
noncomputable def Nq:eN:=match ED with
 |bL _ (bL _ c)=>c
 |_=>.ret
theorem RQ:Tryz.f4.body=M (bL Ux (bL Ph (bL Tc (bL O8 (bL Om (bL OG (bL OH (bL Og (bL Di (bL (bL DK (.block 0 (.loop tX))) Zh)))))))))):=XN
theorem QL:tX=bL (bL FT (.cond (.tmp 75) .skip (.exit 0))) (bL (.block 1 (bL FZ (bL (bL G8 (.block 2 vF)) (bL Eu (.cond (.tmp 154) (bL DU DL) .skip))))) Gp):=XN
theorem agE:vF=bL RS (.cond (.tmp 103) (bL VD (bL X3 (bL YG (bL Yi (bL X0 XP))))) (bL QW (.cond (.tmp 135) (bL WB Yn) (bL QD (.cond (.tmp 147) (bL WW YX) (bL Rw (.block 3 (.loop ED)))))))):=XN
theorem afw:ED=bL (bL KZ (.cond (.tmp 89) .skip (.exit 3))) (bL (.block 4 (bL Q8 (bL (bL Q7 (.cond (.tmp 95) Q9 .skip)) (bL KH LM)))) Nq):=XN
structure Fs(tm:Array aD)(sc va vb vx:aD)(T:Int)(i:Nat):Prop where
 sz:tm.size=178
 t2:tm[2]? =M sc
 t10:tm[10]? =M va
 t12:tm[12]? =M vb
 t14:tm[14]? =M vx
 t16:tm[16]? =M (N aE T)
 t17:tm[17]? =M (N aE i)
structure LJ where
 kind:Int
 n:Int
 u:X2
 vt:aD
 vl:aD
def LJ.cells(o:LJ):List aD:=[N aE o.kind,N aE o.n,N aE o.u.id,N aE o.u.time,o.vt,o.vl]
section
variable {tm:Array aD}{w:X}{sc va vb vx:aD}{T:Int}{i:Nat}{Q:Exit->Act->X->Prop}
theorem YQ{J:Option Addr}(h:Fs tm sc va vb vx T i)(z:sc=.slice J n cap)(I:∀tm:Array aD,Fs tm sc va vb vx T i->tm[75]? =M (cM (decide (i<n)))->Q .normal ⟨tm,[]⟩ w):FT.wp PQ Q ⟨tm,[]⟩ w:=by
 obtain⟨hs,t2,t10,t12,t14,t16,t17⟩:=h;obtain⟨l,rfl,hs⟩:=jZ hs
 iterate 178 (obtain⟨_,l,rfl,E⟩:=jV hs;clear hs;have hs:=E;clear E)
 obtain rfl:=cK.1 hs;clear hs;simp only[eX,eU,dX,aK]at t2 t10 t12 t14 t16 t17;subst t2 t10 t12 t14 t16 t17;subst z;have R:cJ _:=I;clear I;simp only[FT,tX,gF];go_wp2_with fail;exact R.out _ ⟨rfl,rfl,rfl,rfl,rfl,rfl,rfl⟩ aC
theorem acw{g off:Nat}{o:LJ}{ta la:Option Addr}{tn tc J E:Nat}(h:Fs tm sc va vb vx T i)(z:sc=aM (M ⟨g,off,Z⟩) n cap)(hi:i<n)(k0:w.cell? ⟨g,off+i*6,Z⟩=M (N aE o.kind))(k1:w.cell? ⟨g,off+i*6+1,Z⟩=M (N aE o.n))(k2:w.cell? ⟨g,off+i*6+2,Z⟩=M (N aE o.u.id))(k3:w.cell? ⟨g,off+i*6+3,Z⟩=M (N aE o.u.time))(k4:w.cell? ⟨g,off+i*6+4,Z⟩=M (.slice ta tn tc))(k5:w.cell? ⟨g,off+i*6+5,Z⟩=M (.slice la J E))(R:∀(tm:Array aD) w',Fs tm sc va vb vx T i->tm[18]? =M (aG (M ⟨w.heap.size,0,Z⟩))->w'.heap=(w.alloc (aL #[N aE o.kind,N aE o.n,N aE o.u.id,N aE o.u.time,.slice ta tn tc,.slice la J E] 37)).heap->Q .normal ⟨tm,[]⟩ w'):FZ.wp PQ Q ⟨tm,[]⟩ w:=by
 obtain⟨hs,t2,t10,t12,t14,t16,t17⟩:=h;obtain⟨l,rfl,hs⟩:=jZ hs
 iterate 178 (obtain⟨_,l,rfl,I⟩:=jV hs;clear hs;have hs:=I;clear I)
 obtain rfl:=cK.1 hs;clear hs;simp only[eX,eU,dX,aK]at t2 t10 t12 t14 t16 t17;subst t2 t10 t12 t14 t16 t17;subst z;have Y:(i:Int)<(n:Int):=aA
 have HN:cJ _:=R;clear R;simp only[FZ,tX,gF];go_wp2_with fail;exact HN.out _ _ ⟨rfl,rfl,rfl,rfl,rfl,rfl,rfl⟩ rfl rfl
theorem adv{ob:Nat}{kd:Int}(h:Fs tm sc va vb vx T i)(t18:tm[18]? =M (aG (M ⟨ob,0,Z⟩)))(k0:w.cell? ⟨ob,0,Z⟩=M (N aE kd))(J:-9223372036854775808<=kd)(h2:kd<=9223372036854775807)(E:∀tm:Array aD,Fs tm sc va vb vx T i->tm[18]? =M (aG (M ⟨ob,0,Z⟩))->tm[84]? =M (N aE (pk kd 8))->Q .normal ⟨tm,[]⟩ w):G8.wp PQ Q ⟨tm,[]⟩ w:=by
 obtain⟨hs,t2,t10,t12,t14,t16,t17⟩:=h;obtain⟨l,rfl,hs⟩:=jZ hs
 iterate 178 (obtain⟨_,l,rfl,z⟩:=jV hs;clear hs;have hs:=z;clear z)
 obtain rfl:=cK.1 hs;clear hs;simp only[eX,eU,dX,aK]at t2 t10 t12 t14 t16 t17 t18;subst t2 t10 t12 t14 t16 t17 t18;have I:=pick_any kd 8 w aA aA J h2;have Y:cJ _:=λ(_:Unit)=>I;clear I;have R:cJ _:=E;clear E;simp only[G8,tX,gF];go_wp2_with (go_at_call 7;refine aT (Y.out ()) ?_;rintro e w1 ⟨rfl,rfl⟩)
 exact R.out _ ⟨rfl,rfl,rfl,rfl,rfl,rfl,rfl⟩ rfl rfl
end
end
end Hm
namespace Po
open Go Go.Conc
section
variable {ops:Array km}{l:Array (Op×Option Tmp×Option (Nat×Bool))}
def yE:eN->Array km
 |.region _ ops _=>ops
 |_=>#[]
abbrev opw(o:km):Op×Option Tmp×Option (Nat×Bool):=(o.op,o.dst,o.guard)
theorem opm(h:ops.map opw=l)(i:Nat):(ops[i]?).map (λo=>(o.op,o.dst,o.guard))=l[i]?:=by rw[<-h,iH]
theorem opc(h:ops.map opw=l)(i:Nat){op:Op}{d:Option Tmp}(E:l[i]? =M (op,d,Z):=by rfl):∃o,ops[i]? =M o/\o.op=op/\o.dst=d/\o.guard=Z:=by
 have:=(opm h i).trans E;cases z:ops[i]? with
 |none=>rw[z]at this;cases this
 |some o=>
  rw[z]at this;simp only[cO,aK,dJ]at this;exact⟨o,rfl,this⟩
section
variable {D:Nat->Prop}{Post:vU}{XX A:List cT}{x:X}{b:cT}{a:Act}{k:List Item}{C:eN}{n:Nat}
theorem Wq.reg(E:∃z,C=.region z (yE C) aR)(I:(yE C).size=n)(h:Wq D Post XX (b.at a (.inRegion (yE C) (iv n)::k)) A x):Wq D Post XX (b.at a (.code C::k)) A x:=by obtain⟨z,e⟩:=E;rw[e];exact Wq.region (by rw[I];exact h)
end
section
variable {tm:Array aD}{s:Nat}{v u:aD}{w:X}
theorem VQ{tm:Array aD}{s:Nat}{v:aD}(h:tm[s]? =M v):(Act.mk tm []).eval (.tmp s)=v:=by simp[Act.eval,h]
theorem mv(h:tm[s]? =M v):∀t d (o:km),o.op=.move (.tmp s)->(bO (Act.mk tm []).eval o).run PQ (on w t d)=.ok (.value v) (on w t d):=λt d o z=>by unfold bO;simp only[z,VQ h];rfl
theorem asg(h:tm[s]? =M v):∀t d (o:km),o.op=.assign (.tmp s)->(bO (Act.mk tm []).eval o).run PQ (on w t d)=.ok (.value v) (on w t d):=λt d o z=>by unfold bO;simp only[z,VQ h];rfl
theorem xt{l:Array aD}{i:Nat}(h:tm[s]? =M (.tuple l))(E:l[i]? =M u):∀t d (o:km),o.op=.extract (.tmp s) i->(bO (Act.mk tm []).eval o).run PQ (on w t d)=.ok (.value u) (on w t d):=λt d o z=>by unfold bO;simp only[z,VQ h];simp[go_sem,E]
end
end
end Po
namespace Pa
open Go Go.Conc Go.RowKit Go.Joins
open Hm (ptr jF TS jL jI kW PU PL Vw lF VO Ro Nd lX NO SO Fs LJ pk tX vF ED Zh FT FZ G8 RS VD X3 YG Yi X0 XP QW WB Yn QD WW YX Rw KZ Q8 Q7 Q9 KH LM Nq Eu DU DL Gp Ux Ph Tc O8 Om OG OH Og Di DK)
open Dv (X2 Cf Ch)
open Po hiding X2 H B IT PR NB
section
def NC.far{c:Cf}{chain:List X2}{j k:Nat}{rs:Bool}{sil:Nat}{p:Nn}{w:X}(h:NC c chain j k rs sil p w){g:Nat}{cs:Array aD}{t:cH}{I:Nat×Nat}(z:w.heap[g]? =M (aL cs t I))(ht:t=37\/t=24):¬NK p g:=by
 rintro(e|e)
 .obtain⟨cs',R,J,q,E⟩:=NO.types (h:=h.nd) e;rw[z]at q;simp only[aK,Obj.cells.injEq]at q;rw[<-q.2.1]at E;rcases ht with rfl|rfl<;>exact Xs E aB
 .exact TS.zn h.vc.ts z (by grind) (by grind) (by grind) (by grind) (by grind) e
def Ah.step(s:Ah):Ah:=⟨s.c,s.chain,spJ s.c s.chain s.j s.k s.rs s.sil,spK s.c s.chain s.j s.k s.rs s.sil,spR s.rs s.sil,spS s.sil⟩
def Ah.told(s:Ah):Int:=spV s.c s.chain s.j s.k s.rs s.sil
section
variable {Post:vU}{D:Nat->Prop}{XX A:List cT}{b:cT}{k:List Item}{w:X}{te:cH}{xe:aD}{tm:Array aD}{s:Ah}{p:Nn}
theorem Yy(rd:Cr.ReadW)(C:eN)(n s0 I b0:Nat){rest:List Nat}(hr:∃Y,C=.region Y (yE C) aR)(hn:(yE C).size=n)(hl:iv n=0::1::rest)(o0:((yE C)[0]?).map opw=M (.move (.tmp s0),M I,Z))(E:((yE C)[1]?).map opw=M (.call { callee:=.value (.func 13),args:=#[.tmp I],argTypes:=#[31] },M b0,Z))(ha:tm[s0]? =M (ptr p.x.nk))(hz:I<tm.size)(hG:Oo w te xe)(h:s.at p w)(z:∀D' w' R,s.step.at R w'->R.x.nk=p.x.nk->jL (NK p) w w'->(∀g,NK R g->NK p g\/w.heap.size<=g)->Wq D' Post XX (b.at { tmps:=(tm.setIfInBounds I (ptr p.x.nk)).setIfInBounds b0 (N .u8 s.told),defers:=[] } (.inRegion (yE C) rest::k)) A w'):Wq D Post XX (b.at ⟨tm,[]⟩ (.code C::k)) A w:=by
 refine Wq.reg hr hn ?_;rw[hl];refine Wq.qJ _ _ _ w o0 (mv ha) ?_;simp only[Act.put];cases J:(yE C)[1]? with
 |none=>rw[J]at E;cases E
 |some o=>
  rw[J]at E;simp only[cO,aK,dJ]at E;obtain⟨hp,hd,hg⟩:=E;refine abv rd (p:=p) J (Cr.jY hg) hp (KI (tnew hz)) hG h λD2 w2 p2 m1 m2 m3 m4=>?_;rw[hd];exact z D2 w2 p2 m1 m2 m3 m4
end
def xv(E:Option Ah)(z:Nn):aD:=.pointer (E.map λ_=>⟨z.x.nk,0,Z⟩)
section
variable {Post:vU}{XX A:List cT}{b:cT}{k:List Item}{w0:X}{te:cH}{xe:aD}{sc:aD}{T:Int}{i ob na nb nx:Nat}{op:LJ}{cs:Array aD}
theorem aaY(rd:Cr.ReadW){X1:Nat}(J:X1<=30)(ap:pk op.n 30=X1)(h1:-9223372036854775808<=op.n)(h2:op.n<=9223372036854775807)(ak:cs[1]? =M (N aE op.n))(ae:∀D' w' a2 s' au aw av ao,F3 w0 te xe s' s' au aw av ao w'->aw.x.nk=na->av.x.nk=nb->ao.x.nk=nx->Fs a2 sc (ptr na) (ptr nb) (xv au ao) T i->Wq D' Post XX (b.at ⟨a2,[]⟩ k) A w'):∀r m,m+r=X1+1->∀D w tm s sx pa pb px,F3 w0 te xe s s sx pa pb px w->pa.x.nk=na->pb.x.nk=nb->px.x.nk=nx->Fs tm sc (ptr na) (ptr nb) (xv sx px) T i->tm[18]? =M (ptr ob)->tm[24]? =M (N aE m)->w.heap[ob]? =M (aL cs 37 (0,0))->Wq D Post XX (b.at ⟨tm,[]⟩ (.code ED::.inLoop ED::.inBlock 3::k)) A w:=by
 have hP:=λW=>Hm.pick_any op.n 30 W aA aA h1 h2;rw[ap]at hP;have H:cJ _:=jy ae (jy J (jy ap ak));have HP:cJ _:=hP;clear ae J ap hP h1 h2;intro r
 induction r with
 |zero=>
  intro m hm D w tm s sx pa pb px hF ea eb ex hS t18 Y I;obtain⟨hs,t2,t10,t12,t14,t16,t17⟩:=hS;obtain⟨l,rfl,hs⟩:=Hm.jZ hs
  iterate 178 (obtain⟨_,l,rfl,h'⟩:=Hm.jV hs;clear hs;have hs:=h';clear h')
  obtain rfl:=cK.1 hs;clear hs;simp only[eX,eU,dX,aK]at t2 t10 t12 t14 t16 t17 t18 Y;subst t2 t10 t12 t14 t16 t17 t18 Y;have HF:cJ _:=jy hF (jy ea (jy eb (jy ex hm)));rw[show Item.code ED=Item.code _ from by rw[Hm.afw]];refine Wq.seq (Wq.seq (Wq.walk λt d Q J _=>?_));have k1:(on w t d).cell? ⟨ob,1,Z⟩=M (N aE op.n):=(aI (show(on w t d).heap[ob]? =_ from I) 1).trans H.out.2.2.2;have HN:cJ _:=J;clear J hF ea eb ex hm I ak;simp only[KZ,ED,vF,tX,gF,ptr];go_wp2_with (go_at_call 7;refine aT (HP.out _) ?_;rintro e w1 ⟨rfl,rfl⟩)
  obtain⟨hF,ea,eb,ex,hm⟩:=HF.out;refine HN.out _ _ (Wq.same (y:=w) (λ_ _=>rfl) (Wq.cond (t:=decide (m<=X1)) rfl ?_));rw[Zs aF];exact Wq.exit (k':=k) rfl (H.out.1 D w _ s sx pa pb px hF ea eb ex ⟨rfl,rfl,rfl,rfl,rfl,rfl,rfl⟩)
 |succ r ih=>
  intro m hm D w tm s sx pa pb px hF ea eb ex hS t18 Y I;obtain⟨hs,t2,t10,t12,t14,t16,t17⟩:=hS;obtain⟨l,rfl,hs⟩:=Hm.jZ hs
  iterate 178 (obtain⟨_,l,rfl,h'⟩:=Hm.jV hs;clear hs;have hs:=h';clear h')
  obtain rfl:=cK.1 hs;clear hs;simp only[eX,eU,dX,aK]at t2 t10 t12 t14 t16 t17 t18 Y;symm at t2;subst t2 t10 t12 t14 t16 t17 t18 Y;have HF:cJ _:=jy hF (jy ea (jy eb (jy ex (jy hm (jy I ih)))));rw[show Item.code ED=Item.code _ from by rw[Hm.afw]];refine Wq.seq (Wq.seq (Wq.walk λt d Q J _=>?_));have k1:(on w t d).cell? ⟨ob,1,Z⟩=M (N aE op.n):=(aI (show(on w t d).heap[ob]? =_ from I) 1).trans H.out.2.2.2;have HN:cJ _:=J;clear J hF ea eb ex hm I ak ih;simp only[KZ,ED,vF,tX,gF,ptr];go_wp2_with (go_at_call 7;refine aT (HP.out _) ?_;rintro e w1 ⟨rfl,rfl⟩)
  obtain⟨hF,ea,eb,ex,hm,I,ih⟩:=HF.out;have J:=H.out.2.1;refine HN.out _ _ (Wq.same (y:=w) (λ_ _=>rfl) (Wq.cond (t:=decide (m<=X1)) rfl ?_));rw[ZD aF];refine Wq.skip (Wq.seq (Wq.block (Wq.seq ?_)));clear HN k1;subst ea eb;refine Yy rd Q8 3 10 92 93 ⟨_,rfl⟩ XN rfl rfl rfl rfl aC hF.glo hF.a λD1 w1 ar aj e1 ah an=>?_;simp only[bQ,dP,dO];have R:=hF.ML aj ah an;have E:=(ah.block _ (jE I) (hF.a.far I (bN rfl))).trans I;refine Wq.qJ (.assign (.tmp 93)) (M 25) _ w1 rfl (asg rfl) (Wq.done ?_);simp only[Act.put,bQ,dP,dO]
  have rest:∀D2 w2 (tm:Array aD) ag aa,F3 w0 te xe s.step s ag ar pb aa w2->aa.x.nk=nx->Fs tm sc (ptr pa.x.nk) (ptr pb.x.nk) (xv ag aa) T i->tm[18]? =M (ptr ob)->tm[24]? =M (N aE m)->tm[25]? =M (N .u8 s.told)->w2.heap[ob]? =M (aL cs 37 (0,0))->
    Wq D2 Post XX (b.at ⟨tm,[]⟩ (.code (bL KH LM)::.inBlock 4::.code Nq::.inLoop ED::.inBlock 3::k)) A w2:=by
   intro D2 w2 tm ag aa af ai hS t18 Y aq ac;obtain⟨hs,t2,t10,t12,t14,t16,t17⟩:=hS;obtain⟨l,rfl,hs⟩:=Hm.jZ hs
   iterate 178 (obtain⟨_,l,rfl,h'⟩:=Hm.jV hs;clear hs;have hs:=h';clear h')
   obtain rfl:=cK.1 hs;clear hs;simp only[eX,eU,dX,aK]at t2 t10 t12 t14 t16 t17 t18 Y aq;subst t2 t10 t12 t14 t16 t17 t18 Y aq;refine Wq.seq (Yy rd KH 3 12 98 99 ⟨_,rfl⟩ XN rfl rfl rfl rfl aC af.glo af.b λD3 w3 a3 ay e3 am a1=>?_);simp only[bQ,dP,dO];refine Wq.qJ (.assign (.tmp 99)) (M 26) _ w3 rfl (asg rfl) (Wq.done ?_);simp only[Act.put,bQ,dP,dO];have HG:cJ _:=jy (af.QV ay am a1) (jy ((am.block _ (jE ac) (af.b.far ac (bN rfl))).trans ac) (jy e3 (jy ai (jy ih (jy hm (jy J e1))))));clear af ay am a1 ac e3 ai ih hm J e1 hF R I E aj ah an;generalize s.told=z;have q1:(z == z)=bB:=aC
   refine Wq.walk λt d Q J _=>?_;have HN:cJ _:=J;clear J;simp only[LM,ED,vF,tX,gF];go_wp2_with fail;refine HN.out _ _ (Wq.same (y:=w3) (λ_ _=>rfl) (Wq.inBlock (Wq.walk λt d Q J _=>?_)));clear HN;have HN:cJ _:=J;have hm:=HG.out.2.2.2.2.2.1;have a6:=HG.out.2.2.2.2.2.2.1;have a8:m<=30:=aA
   clear J hm a6;simp only[Nq,ED,vF,tX,gF];go_wp2_with fail;obtain⟨a5,a0,e3,ai,ih,hm,J,e1⟩:=HG.out;exact HN.out _ _ (Wq.same (y:=w3) (λ_ _=>rfl) (Wq.inLoop (ih (m+1) aA D3 w3 _ s.step ag ar a3 aa a5 e1 e3 ai ⟨rfl,rfl,rfl,rfl,rfl,rfl,rfl⟩ rfl rfl a0)))
  have HG:cJ _:=jy rest (jy R (jy E ex));clear rest R E ex ih hF I aj ah an hm J e1;generalize s.told=z at *;refine Wq.seq (Wq.seq (Wq.walk λt d Q J _=>?_));have HN:cJ _:=J;clear J;simp only[Q7,ED,vF,tX,gF,xv];cases sx with
  |none=>
   simp only[jf];go_wp2_with fail;obtain⟨rest,R,E,ex⟩:=HG.out;refine HN.out _ _ (Wq.same (y:=w1) (λ_ _=>rfl) (Wq.cond (t:=aR) rfl (Wq.skip (rest D1 w1 _ Z px R ex ⟨rfl,rfl,rfl,rfl,rfl,rfl,rfl⟩ rfl rfl rfl E))))
  |some sq=>
   simp only[cO];go_wp2_with fail;obtain⟨rest,R,E,ex⟩:=HG.out;have hX:=R.x sq rfl;refine HN.out _ _ (Wq.same (y:=w1) (λ_ _=>rfl) (Wq.cond (t:=bB) rfl (Yy rd Q9 2 14 96 97 ⟨_,rfl⟩ XN rfl rfl rfl rfl aC R.glo hX λD2 w2 aa a7 e2 az a4=>Wq.done ?_)));simp only[bQ,dP,dO];exact rest D2 w2 _ (M sq.step) aa (R.VI rfl a7 az a4) (e2.trans ex) ⟨rfl,rfl,rfl,rfl,by simp[xv,e2,ptr],rfl,rfl⟩ rfl rfl rfl ((az.block _ (jE E) (hX.far E (bN rfl))).trans E)
end
end
end Pa
namespace Hm
open Go.RowKit Go.Joins Go.Shelf
section
variable {Q:Exit->Act->X->Prop}
noncomputable def RH:eN:=match Tryz.f5.body with
 |some (bL c _)=>c
 |_=>.skip
noncomputable def Ri:eN:=match Tryz.f5.body with
 |some (bL _ (bL c _))=>c
 |_=>.skip
noncomputable def QN:eN:=match Tryz.f5.body with
 |some (bL _ (bL _ (bL c _)))=>c
 |_=>.skip
noncomputable def ZQ:eN:=match Tryz.f5.body with
 |some (bL _ (bL _ (bL _ c)))=>c
 |_=>.skip
theorem XJ:Tryz.f5.body=M (bL RH (bL Ri (bL QN ZQ))):=XN
theorem afb{u0 u1 u4 u5 u6 u7 u8 u9 aj bm ah a0 bj a4 Y a9 aa af ak bp ae ac a3 I bk bl br J bq a2 bu av am ba bo aw a6 az bd a7 ap bh a8 bb a5 R ag ai ar ao E au bw a1 ay bs an bv aq bn bg:aD}(g off cap:Nat)(w:X){xs:List aD}(z:Row w 52 8 (aM (M ⟨g,off,Z⟩) 3 cap) 3 xs)(k1:xs[10]? =M (N aE 0))(k2:xs[9]? =M (N aE 2))(k3:xs[18]? =M (N aE 1))(k4:xs[19]? =M (N aE 6))(k5:xs[23]? =M (N aE 2))(va:Option Addr)(vc:Nat)(k6:xs[22]? =M (.slice va 1 vc))(hQ:∀tm:Array aD,tm[0]? =M (cM bB)->Q .ret ⟨tm,[]⟩ w):ZQ.wp PQ Q { tmps:=#[u0,u1,aM (M ⟨g,off,Z⟩) 3 cap,N aE 0,u4,u5,u6,u7,u8,u9,aj,bm,ah,a0,bj,a4,Y,a9,aa,af,ak,bp,ae,ac,a3,I,bk,bl,br,J,bq,a2,bu,av,am,ba,bo,aw,a6,az,bd,a7,ap,bh,a8,bb,a5,R,ag,ai,ar,ao,E,au,bw,a1,ay,bs,an,bv,aq,bn,bg],defers:=[] } w:=by
 have c1:=z.cell rfl _ _ k1;have c2:=z.cell rfl _ _ k2;have c3:=z.cell rfl _ _ k3;have c4:=z.cell rfl _ _ k4;have c5:=z.cell rfl _ _ k5;have c6:=z.cell rfl _ _ k6;have HQ:cJ _:=hQ;clear hQ z k1 k2 k3 k4 k5 k6;simp only[ZQ,Tryz.f5];go_wp2_with fail;exact HQ _ rfl
theorem acM(w:X)(z:Q .normal { tmps:=#[cM aR,aH,aH,aH,aH,aH,aH,aH,aH,aH,aH,aH,aH,aH,aH,aH,aH,aH,aH,aH,aH,aH,aH,aH,aH,aH,aH,aH,aH,aH,aH,aH,aH,aH,aH,aH,aH,aH,aH,aH,aH,aH,aH,aH,aH,aH,aH,aH,aH,aH,aH,aH,aH,aH,aH,aH,aH,aH,aH,aH,aH,aH,aH],defers:=[] } w):RH.wp PQ Q { tmps:=#[aH,aH,aH,aH,aH,aH,aH,aH,aH,aH,aH,aH,aH,aH,aH,aH,aH,aH,aH,aH,aH,aH,aH,aH,aH,aH,aH,aH,aH,aH,aH,aH,aH,aH,aH,aH,aH,aH,aH,aH,aH,aH,aH,aH,aH,aH,aH,aH,aH,aH,aH,aH,aH,aH,aH,aH,aH,aH,aH,aH,aH,aH,aH],defers:=[] } w:=by simp only[RH,Tryz.f5];go_wp2_with fail;exact z
theorem adA(w:X)(z:Q .normal { tmps:=#[cM aR,aG (M ⟨w.heap.size,0,Z⟩),aH,aH,.agg #[N .u32 0,N .u32 0,N aE 1,N aE 1,N aE 100,N aE 2,N aE 100],aH,aH,aH,aH,aH,aH,aH,aH,aH,aH,aH,aH,aH,aH,aH,aH,aH,aH,aH,aH,aH,aH,aH,aH,aH,aH,aH,aH,aH,aH,aH,aH,aH,aH,aH,aH,aH,aH,aH,aH,aH,aH,aH,aH,aH,aH,aH,aH,aH,aH,aH,aH,aH,aH,aH,aH,aH,aH],defers:=[] } (w.alloc (aL #[N .u32 0,N .u32 0,N aE 1,N aE 1,N aE 100,N aE 2,N aE 100] 24))):Ri.wp PQ Q { tmps:=#[cM aR,aH,aH,aH,aH,aH,aH,aH,aH,aH,aH,aH,aH,aH,aH,aH,aH,aH,aH,aH,aH,aH,aH,aH,aH,aH,aH,aH,aH,aH,aH,aH,aH,aH,aH,aH,aH,aH,aH,aH,aH,aH,aH,aH,aH,aH,aH,aH,aH,aH,aH,aH,aH,aH,aH,aH,aH,aH,aH,aH,aH,aH,aH],defers:=[] } w:=by simp only[Ri,Tryz.f5];go_wp2_with fail;exact z
end
end Hm
