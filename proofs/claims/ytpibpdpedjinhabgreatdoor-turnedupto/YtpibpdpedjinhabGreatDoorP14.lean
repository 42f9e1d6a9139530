import Derived.Test.YtpibpdpedjinhabGreatDoorP13
set_option maxRecDepth 100000
set_option maxHeartbeats 4000000
set_option linter.all false
open Bool renaming false->aL,true->aR
open Go renaming Addr->eM,Calls->dE,Code->eE,Ending->pm,Exit->p9,Frame->cR,Item->pS,Oper->ij,Operand->jN,OwnFrom->rq,TypeId->cG,Value->X,World->U,bodyPost_ret->cM,callsIn_wide->gO,execOp->bN,heap_alloc_new->cT,info_parts->pa,run_underlying->eJ,undef->aE
open Go.Addr renaming add->jp
open Go.Builtin renaming append_->jb,firstCells->oo,lenOf->pv,zeroCells->ma
open Go.Code renaming seq->bR
open Go.Ending renaming returned->bO
open Go.Instr renaming indexAt->nF
open Go.IntKind renaming i64->ab,wrap_i64->eT
open Go.Item renaming code->ly,inRegion->bL
open Go.Joins renaming block_setCell->rj
open Go.Obj renaming cells->aG,deferred->eI
open Go.Operand renaming tmp->cN
open Go.Proofs.Tryz renaming f15->j8,f44->kI,ntmps47->ow,underlying26->py,underlying35->lz,underlying44->lh
open Go.Region renaming wanted->cP
open Go.RowKit renaming Hid->cH
open Go.RowKit.Below renaming heap_setCell->mU
open Go.Value renaming agg->fX,bool->cK,int->N,pointer->aD,slice->aH,string->bB,tuple->cQ
open Go.World renaming cell?->eB,cell?_of_block->bX,frozen?->iX
open List renaming getElem!_eq_getElem?_getD->my,getElem_drop->pu,getElem_take->nA,length_eq_zero_iff->cJ,length_set->oB,mem_append_right->oR,mem_flatMap->p7,not_mem_nil->mR,range->ir,take_append_drop->oy
open Nat renaming add_zero->pN,eq_zero_of_not_pos->om
open Option renaming none->Z,some->M
open Or renaming inl->bE,inr->cD
open Prod renaming fst->cI
namespace Go.Proofs.YtpibpdpedjinhabGreatDoor
namespace Hm
open Dv (X2 Cf Ba Ch Lo St)
section
variable {n i:Nat}{b:Ba}{us:List PB}{x:PB}
theorem Ai{l:Im.It}(h:Dv.pY l n=M b):b.place=n:=by
 unfold Dv.pY at h
 grind
def Fp{i:Im.It}(h:Dv.tH i n=M b):b.place=n:=by
 unfold Dv.tH at h;split at h
 .cases h
 .split at h
  .cases h
  .split at h
   .rw[Option.bind_eq_some_iff]at h;obtain⟨l,_,h⟩:=h;exact Ai h
   .cases h
def MS:∀(f:Nat)(s:List UInt8)(n:Nat)(b:Ba),b∈Dv.rd f s n->b.epoch<=n/\b.place=n
 |0,s,n,b,h=>by simp[Dv.rd]at h
 |f+1,s,n,b,h=>by
  rw[Dv.rd]at h;split at h
  .simp at h
  .split at h
   .simp at h
   .split at h
    .simp at h
    .rename_i x z;obtain h|h:=dM.1 h
     .split at h
      .rw[dK.1 h];exact⟨‹_›,Fp z⟩
      .simp at h
     .exact MS f _ n b h
def OJ{c:Cf}{u:X2}{cs:List Ch}{wait:List Ba}(h:b∈(Dv.take c u n cs wait).2):b∈wait\/(b.epoch<=n/\b.place=n):=by
 unfold Dv.take at h;simp only at h;obtain h|h:=dM.1 h
 .exact bE h
 .obtain⟨s,_,hs⟩:=p7.1 h;exact cD (MS _ _ _ _ hs)
structure RM(c:Cf)(chain:List X2)(j:Nat)(us:List PB)(dl:Nat->List (List UInt8))(s:sD)(cs:List Ch)(log:List Lo):Prop where
 len:us.length=j
 id:∀i,i<j->FQ us i=(chain[i]!).id
 time:∀i,i<j->Ag us i=(chain[i]!).time
 deps:∀i,i<j->dl i=Dv.jR (chain[i]!)
 chs:cs=(Dv.gone c chain j).chs
 wait:s.ws.map cI=(Dv.gone c chain j).wait
 ws:∀p,p∈s.ws->p.1.epoch<j/\p.1.place<=4294967296
 zero:j=0->log=[]/\s.cnt=0/\s.ep=0/\s.sq=0
 some:0<j->log=(Dv.gone c chain j).log/\Hs c us (log.getLastD default) s/\s.ep<j/\s.sq<=s.cnt
def RM.start(c:Cf)(chain:List X2)(dl:Nat->List (List UInt8)):RM c chain 0 [] dl ⟨[],0,0,0⟩ [] []:=
 ⟨rfl,λi h=>aA,λi h=>aA,λi h=>aA,rfl,rfl,λp h=>by simp at h,λ_=>⟨rfl,rfl,rfl,rfl⟩,λh=>aA⟩
section
variable {c:Cf}{chain:List X2}{j:Nat}{us:List PB}{dl:Nat->List (List UInt8)}{s:sD}{cs:List Ch}{log:List Lo}
def aaR(h:i<us.length):FQ (us++[x]) i=FQ us i:=by
 unfold FQ
 grind
def aac(h:i<us.length):Ag (us++[x]) i=Ag us i:=by
 unfold Ag
 grind
def abz:FQ (us++[x]) us.length=x.1:=by unfold FQ;simp
def abg:Ag (us++[x]) us.length=x.2.1:=by unfold Ag;simp
structure RT(c:Cf)(chain:List X2)(j:Nat)(us:List PB)(dl:Nat->List (List UInt8))(s:sD)(cs:List Ch)(log:List Lo):Prop where
 lk:Lk chain us dl
 len:us.length=j+1
 take:(cs,s.ws.map cI)=Dv.take c (chain[j]!) j (Dv.gone c chain j).chs (Dv.gone c chain j).wait
 ws:∀p,p∈s.ws->p.1.epoch<us.length/\p.1.place<=4294967296
 zero:j=0->log=[]/\s.cnt=0/\s.ep=0/\s.sq=0
 some:0<j->log=(Dv.gone c chain j).log/\Hs c us (log.getLastD default) s/\s.ep<us.length/\s.sq<=s.cnt
def RM.took(h:RM c chain j us dl s cs log)(hj:j<chain.length)(I:j<=60){v:X}{ws':List PW}{cs':List Ch}(ht:(cs',ws'.map cI)=Dv.take c (chain[j]!) j cs (s.ws.map cI)):
  RT c chain j (us++[((chain[j]!).id,(chain[j]!).time,v)]) (λi=>if i=us.length then Dv.jR (chain[j]!)else dl i) ⟨ws',s.cnt,s.ep,s.sq⟩ cs' log:=by
 have E:=h.len;have z:(us++[((chain[j]!).id,(chain[j]!).time,v)]).length=j+1:=by simp[E]
 rw[h.chs,h.wait]at ht;refine⟨⟨aA,aA,λi J=>?_,λi J=>?_,λi J=>?_⟩,z,ht,λp hp=>?_,λe=>h.zero e,λe=>?_⟩
 .by_cases e:i=us.length
  .rw[e,abz,E]
  .rw[aaR aA];exact h.id i aA
 .by_cases e:i=us.length
  .rw[e,abg,E]
  .rw[aac aA];exact h.time i aA
 .by_cases e:i=us.length
  .rw[ZD e,e,E]
  .rw[Zs e];exact h.deps i aA
 .have Y:p.1∈(Dv.take c (chain[j]!) j (Dv.gone c chain j).chs (Dv.gone c chain j).wait).2:=by
   rw[<-ht];exact bM.2 ⟨p,hp,rfl⟩
  rw[z];obtain q|⟨q1,q2⟩:=OJ Y
  .rw[<-h.wait]at q;obtain⟨p',hp',e⟩:=bM.1 q;have:=h.ws p' hp'
   grind
  .omega
 .obtain⟨R,h2,h3,h4⟩:=h.some e;refine⟨R,⟨h2.number,h2.time.trans ?_,h2.epoch,h2.seq⟩,by show s.ep<_;omega,h4⟩;unfold lW
  grind
theorem RT.fit(h:RT c chain j us dl s cs log)(hc:Dv.jS chain=aR)(hcf:Dv.jK c=aR)(hj:j<chain.length)(J:0<j):∃T,T<4294967296/\Ok c chain us T (log.getLastD default) s:=by
 obtain⟨h1,h2,h3,h4⟩:=h.some J;have aa:=(Dv.jW hc).2.1;have Y:=Dv.oI hc hcf j aA;have I:=Dv.take_len c j (Dv.gone c chain j).chs (Dv.gone c chain j).wait (Dv.mG chain Z (Dv.jW hc).2.2.1 j hj);rw[<-h.take]at I;simp only[bC]at I;have hm:=Y.much;unfold Dv.much at hm;have ht:=Dv.sO hc (i:=j-1) (j:=j) aA hj;have z:=Y.number;have R:=Y.epoch;rw[<-h1]at hm z R
 have E:s.cnt=log.length:=by
  rw[<-z];exact h2.number.symm
 refine⟨_,?_,h2,h3,h.ws,jB,h4⟩;unfold Dv.left;rw[h.len,E,bC]
 grind
def RT.good(h:RT c chain j us dl s cs log)(hc:Dv.jS chain=aR)(hcf:Dv.jK c=aR)(R:j<chain.length):Good c us s:=by
 obtain E|E:=gQ j
 .obtain⟨_,I,Y,J⟩:=h.zero E
  have hs:s=⟨s.ws,0,0,0⟩:=by
   cases s;simp only at I Y J;subst I Y J;rfl
  rw[hs];have z:=Dv.take_len c j (Dv.gone c chain j).chs (Dv.gone c chain j).wait (Dv.mG chain Z (Dv.jW hc).2.2.1 j R);rw[<-h.take,E]at z;simp only[Dv.gone,Dv.start,bC,bY]at z;exact Px h.lk hc hcf (by rw[h.len,E]) aA h.ws
 .obtain⟨T,hT,o⟩:=h.fit hc hcf R E;exact aav h.lk hc hcf hT o
def RT.drawn(h:RT c chain j us dl s cs log)(hc:Dv.jS chain=aR)(hcf:Dv.jK c=aR)(hj:j<chain.length){E:List DX}(hp:DS c us s E):RM c chain (j+1) us dl ⟨(jO c us (jQ s E).ws (jQ s E).cnt (jQ s E).ep).2,(jQ s E).cnt,(jQ s E).ep,(jQ s E).sq⟩ cs (log++E.map (pJ c us dl)):=by
 have hl:=h.len;have ae:cs=(Dv.take c (chain[j]!) j (Dv.gone c chain j).chs (Dv.gone c chain j).wait).1:=by rw[<-h.take]
 have ac:s.ws.map cI=(Dv.take c (chain[j]!) j (Dv.gone c chain j).chs (Dv.gone c chain j).wait).2:=by rw[<-h.take]
 have main:∀(R:Lo)(s0:sD)(r:List DX)(T:Nat),Ok c chain us T R s0->s0.ws=s.ws->(Dv.gone c chain j).log.getLastD default=R->(Dv.gone c chain j).log≠[]->wZ c us s0 r->jQ s0 r=jQ s E->log++E.map (pJ c us dl)=(Dv.gone c chain j).log++r.map (pJ c us dl)->
   RM c chain (j+1) us dl ⟨(jO c us (jQ s E).ws (jQ s E).cnt (jQ s E).ep).2,(jQ s E).cnt,(jQ s E).ep,(jQ s E).sq⟩ cs (log++E.map (pJ c us dl)):=by
  intro R s0 r T o e1 e2 e3 f e4 e5;have hn:=hp.2;rw[<-e4]at hn;have hd:=Steps.draws h.lk hc hcf f o hn;obtain⟨z,Y,hz⟩:=f.ok h.lk hc hcf o;rw[e4]at Y hd;rw[hl]at hd;simp only[Nat.add_sub_cancel]at hd;rw[e1,ac]at hd
  have I:Dv.gone c chain (j+1)=⟨(Dv.take c (chain[j]!) j (Dv.gone c chain j).chs (Dv.gone c chain j).wait).1,(jO c us (jQ s E).ws (jQ s E).cnt (jQ s E).ep).2.map cI,(Dv.gone c chain j).log++r.map (pJ c us dl)⟩:=by
   rw[Dv.gone,Dv.step,e2,hd]
  refine⟨hl,λi hi=>h.lk.id i aA,λi hi=>h.lk.time i aA,λi hi=>h.lk.deps i aA,by rw[I];exact ae,by rw[I],λp hp=>?_,λe=>aA,λ_=>⟨by rw[I];exact e5,?_,by have:=Y.ep;grind,Y.sq⟩⟩
  .have:=Y.ws p (sU p hp);omega
  .have af:(log++E.map (pJ c us dl)).getLastD default=z:=by
    rw[e5,Dv.tN _ _ e3,e2,hz]
   rw[af];exact⟨Y.hs.number,Y.hs.time,Y.hs.epoch,Y.hs.seq⟩
 obtain R|R:=gQ j
 .obtain⟨e0,e1,e2,e3⟩:=h.zero R
  have hs:s=⟨s.ws,0,0,0⟩:=by
   cases s;simp only at e1 e2 e3;subst e1 e2 e3;rfl
  have hu:us.length=1:=aA
  have J:=hp.1.aaK;rw[hs]at J;obtain rfl|⟨x,r,rfl,q1,q2,q3,q4,q5⟩:=BA hu J
  .exfalso;have hn:=hp.2;have el:jQ s []=s:=rfl;rw[el,e1,e2,Dl hu]at hn;cases hn
  .have hg:(Dv.gone c chain j).log=[Dv.first (chain[0]!)]:=by rw[R];rfl
   refine main _ _ r _ (Dy h.lk hu h.ws) rfl (by rw[hg];rfl) (by rw[hg];simp) q5 ?_ ?_
   .unfold jQ
    grind
   .rw[e0,hg,eP,Qg h.lk hu q1 q2 q3 q4];rfl
 .obtain⟨T,hT,o⟩:=h.fit hc hcf hj R;obtain⟨g1,_⟩:=h.some R;have aa:=(Dv.oI hc hcf j aA).some;exact main _ s E T o rfl (by rw[g1]) aa hp.1.aaK rfl (by rw[<-g1])
end
end
end Hm
namespace Pa
open Go Go.Conc Go.RowKit Go.Joins
open Hm (ptr kD jF jP TS jL kW oz AL PC PB PW PU lives Fits jJ kQ RZ GU FU QY Rt RU allL FC GY yP zh yR BR)
open Dv (X2 Cf Ch)
open Po hiding X2 H B IT PR NB
section
variable {w w':U}{v:X}{ps:List PU}{j s n:Nat}{xs:List X}
def abV{t:Array X}(h:t.size=33):∃u0 u1 u2 u3 u4 u5 u6 u7 u8 u9 I E ag ao am av ah ac ai ap J R ak aj ar Y au z af aa ae aq an,t=#[u0,u1,u2,u3,u4,u5,u6,u7,u8,u9,I,E,ag,ao,am,av,ah,ac,ai,ap,J,R,ak,aj,ar,Y,au,z,af,aa,ae,aq,an]:=by
 obtain⟨l⟩:=t;replace h:l.length=33:=h
 iterate 33 (obtain⟨_,l,rfl,h'⟩:=Hm.yO h;clear h;have h:=h';clear h')
 obtain rfl:=cJ.1 h;exact⟨_,_,_,_,_,_,_,_,_,_,_,_,_,_,_,_,_,_,_,_,_,_,_,_,_,_,_,_,_,_,_,_,_,rfl⟩
structure SL(a:Act)(v va:X)(kb n j:Nat):Prop where
 sz:a.tmps.size=33
 df:a.defers=[]
 t1:a.tmps[1]? =M v
 t6:a.tmps[6]? =M va
 t7:a.tmps[7]? =M (ptr kb)
 t18:a.tmps[18]? =M v
 t19:a.tmps[19]? =M (N ab n)
 t20:a.tmps[20]? =M (N ab j)
def QI{tm:Array X}{z E:X}(h4:tm[4]? =M z)(I:tm[5]? =M E)(w:U):(results j8 tm).run PQ w=.ok (cQ #[z,E]) w:=by simp[results,Tryz.results15,go_sem,h4,I]
def JR(h:oz w v ps)(q:w'.heap=w.heap):oz w' v ps:=⟨Hm.Rd.heap h.1 q,λp hp=>(h.2 p hp).heap q⟩
def um{z:Nat}{c:Cf}(h:w.heap[z]? =M (aG (jF c) 24 (0,0)))(i:Nat):w.cell? ⟨z,i,Z⟩=(jF c)[i]?:=aI h _
section
variable {w w':U}{kb nb:Nat}{c:Cf}{vu:X}{us:List PB}{dl:Nat->List (List UInt8)}{vo vw:X}{ws:List PW}{nm:AL}{os:List PC}{cnt ep sq:Nat}
def TS.zn(h:TS w kb nb c vu us dl vo vw ws nm os cnt ep sq){cs:Array X}{t:Nat}{E:Nat×Nat}(z:w.heap[j]? =M (aG cs t E))(t1:t≠100)(t2:t≠102)(t3:t≠118)(t4:t≠136)(t5:t≠140):¬Tk kb nb vu vo vw os j:=by
 rintro(e|e|e|e)
 .exact h.JA z t1 t4 t5 (bE e)
 .exact Hm.jH h.d.upper z t2 e
 .exact Hm.jH h.d.wait z t3 e
 .exact h.JA z t1 t4 t5 (cD e)
def BF(h:TS w kb nb c vu us dl vo vw ws nm os cnt ep sq)(hc:jL (Tk kb nb vu vo vw os) w w'){e:Nat}(E:Hm.Row w e s v n xs)(t1:e≠100)(t2:e≠102)(t3:e≠118)(t4:e≠136)(t5:e≠140):Hm.Row w' e s v n xs:=
 E.kept (λg I=>hc.block g (E.lt I) (by
  obtain⟨J,z⟩:=E.obj I;exact TS.zn h z t1 t2 t3 t4 t5))
def TS.drawn(h:TS w kb nb c vu us dl vo vw ws nm os cnt ep sq){I:X}{ws':List PW}{E J R:Nat}(hD:Hm.rH w' kb c vu us dl nb vo I ws' E J R){v0:X}(hr:Hm.Row w 52 8 v0 n xs)(hc:jL (λk=>(k=kb\/vw.ownBlock=M k)\/v0.ownBlock=M k) w w')(hh:v0.ownBlock≠M 1):TS w' kb nb c vu us dl vo I ws' nm os E J R:=by
 obtain⟨ac,t,fz,Y,q2,q3,q4,q5,q6⟩:=h.ht
 have hM:¬((1=kb\/vw.ownBlock=M 1)\/v0.ownBlock=M 1):=by
  rintro((e|e)|e)
  .exact h.JA Y q2 q5 q6 (bE e)
  .exact Hm.jH h.d.wait Y q3 e
  .exact hh e
 refine⟨hD,?_,Hm.mX h.hd hc hM,by rw[hc.block _ h.hd.pos hM];exact⟨ac,t,fz,Y,q2,q3,q4,q5,q6⟩⟩;obtain⟨v,hv,hq⟩:=hc.fake;refine(h.ch.jM hv (λk hk=>?_)).heap hq.symm;rintro((rfl|e)|e)
 .exact h.ch.lK h.d.obj aB aB hk
 .obtain⟨aa,z⟩:=h.d.wait.obj e;exact h.ch.lK z aB aB hk
 .obtain⟨aa,z⟩:=hr.obj e;exact h.ch.lK z aB aB hk
def Bg(h:oz w v ps)(hc:jL (λ_=>False) w w'):oz w' v ps:=
 ⟨Hm.Rd.kept h.1 hc.size (λ_ g _ z=>hc.block g z (λe=>e)),λp hp=>pV (h.2 p hp) hc (λ_ _ e=>e)⟩
def Rj{g:Nat}(h:Hm.Rd w s v n xs)(E:0<n)(e:v.ownBlock=M g):g<↑w:=by obtain⟨g',off,cap,rfl,_,z,_⟩:=h.pos E;cases e;exact z
def Y1(c:Cf)(hd:lJ w)(ht:∃hc t J,w.heap[1]? =M (aG hc t J)/\t≠100/\t≠118/\t≠102/\t≠136/\t≠140)(z:w'.heap=(((w.alloc (aG (jF c) 24)).alloc (.map #[] 0)).alloc (aG (jP c (aH Z 0 0) (w.heap.size+1) (aH Z 0 0) (aH Z 0 0) 0 0 0) 100)).heap):TS w' (w.heap.size+2) (w.heap.size+1) c (aH Z 0 0) [] (λ_=>[]) (aH Z 0 0) (aH Z 0 0) [] [] [] 0 0 0:=by
 have hold:∀j,j<w.heap.size->w'.heap[j]? =w.heap[j]?:=λj I=>by
  rw[z,fV _ _ _ aF,fV _ _ _ aF,fV _ _ _ I]
 have R:w'.heap[w.heap.size+1]? =M (.map #[] 0):=by
  rw[z,fV _ _ _ aC];have:=cT (w.alloc (aG (jF c) 24)) (.map #[] 0);simpa using this
 have hk:w'.heap[w.heap.size+2]? =M (aG (jP c (aH Z 0 0) (w.heap.size+1) (aH Z 0 0) (aH Z 0 0) 0 0 0) 100 (0,0)):=by
  rw[z];have:=cT ((w.alloc (aG (jF c) 24)).alloc (.map #[] 0)) (aG (jP c (aH Z 0 0) (w.heap.size+1) (aH Z 0 0) (aH Z 0 0) 0 0 0) 100);simpa using this
 have E:↑w<=w'.heap.size:=by rw[z];simp;omega
 refine⟨⟨hk,Hm.Row.nil _ _ _,Hm.Row.nil _ _ _,λj p hp=>by simp at hp,λp hp=>by simp at hp⟩,⟨⟨_,0,R,.nil,aC,aC,λe Y=>by simp at Y⟩,Hm.Row.nil _ _ _,λo ho=>by simp at ho,aC,λo o' ho=>by simp at ho,λo ho=>by simp at ho,λp hp=>by simp at hp⟩,Hm.mX (XS:=λ_=>False) hd ⟨E,λj I _=>hold j I⟩ (λe=>e),by grind⟩
end
structure LI(w0:U)(c:Cf)(ps:List PU)(kb nb:Nat)(vu:X)(us:List PB)(dl:Nat->List (List UInt8))(vo vw:X)(ws:List PW)(nm:AL)(os:List PC)(cnt ep sq:Nat)(va:X)(pl:List Hm.PL)(j:Nat)(w:U):Prop where
 ts:TS w kb nb c vu us dl vo vw ws nm os cnt ep sq
 rm:Hm.RM c (ps.map cI) j us dl ⟨ws,cnt,ep,sq⟩ (lives nm os) (pl.map cI)
 row:Hm.Row w 52 8 va pl.length (pl.flatMap jJ)
 strs:∀p,p∈pl->kQ w p.2.1 p.1.txs/\kQ w p.2.2 p.1.deps
 osl:os.length<=4440*j
 fits:Fits c.most (lives nm os)
 hdl:∀i,(dl i).length<=4294967296
 low:∀k,Tk kb nb vu vo vw os k->w0.heap.size<=k
 vlow:∀g,va.ownBlock=M g->w0.heap.size<=g
 jM:jL (λ_=>False) w0 w
section
variable {w0 w w':U}{c:Cf}{ps:List PU}{kb nb:Nat}{vu:X}{us:List PB}{dl:Nat->List (List UInt8)}{vo vw:X}{ws:List PW}{nm:AL}{os:List PC}{cnt ep sq:Nat}{va:X}{pl:List Hm.PL}{j:Nat}
def LI.kept(h:LI w0 c ps kb nb vu us dl vo vw ws nm os cnt ep sq va pl j w)(hc:jL (λ_=>False) w w'):LI w0 c ps kb nb vu us dl vo vw ws nm os cnt ep sq va pl j w':=
 ⟨h.ts.kept hc (λ_ _ e=>e),h.rm,h.row.kept (λg z=>hc.block g (h.row.lt z) (λe=>e)),λp hp=>⟨Hm.Row.kept (h.strs p hp).1 (λg z=>hc.block g (Hm.Row.lt (h.strs p hp).1 z) (λe=>e)),Hm.Row.kept (h.strs p hp).2 (λg z=>hc.block g (Hm.Row.lt (h.strs p hp).2 z) (λe=>e))⟩,h.osl,h.fits,h.hdl,h.low,h.vlow,h.jM.trans hc (λ_ _ e=>e)⟩
def Ie(q:w'.heap=w.heap):jL (λ_=>False) w w':=⟨by grind,λk _ _=>by rw[q]⟩
def tJ{o:Obj}(q:w'.heap=(w.alloc o).heap):jL (λ_=>False) w w':=⟨by rw[q];simp,λk hk _=>by rw[q,fV _ _ _ hk]⟩
def RT.count{chain:List X2}{s:Hm.sD}{cs:List Ch}{log:List Dv.Lo}(h:Hm.RT c chain j us dl s cs log)(hc:Dv.jS chain=aR)(hcf:Dv.jK c=aR)(R:j<chain.length):log.length<=s.cnt:=by
 obtain z|z:=gQ j
 .rw[(h.zero z).1];exact dL _
 .obtain⟨I,E,_⟩:=h.some z;have J:=(Dv.oI hc hcf j aA).number;rw[<-I]at J;have:=E.number;omega
def Rn(u:X2)(h:Dv.small u=aR):(Dv.jR u).length<=4294967296:=by have:=(Dv.qj h).2.1;have h2:=gZ Dv.isDep u.logs;unfold Dv.jR;omega
def LI.much(h:LI w0 c ps kb nb vu us dl vo vw ws nm os cnt ep sq va pl j w)(hc:Dv.jS (ps.map cI)=aR)(hcf:Dv.jK c=aR)(I:j<=(ps.map cI).length):ws.length+4096*(lives nm os).length<=2000000000:=by have z:=(Dv.oI hc hcf j I).much;have E:=(Dv.jW hc).2.1;unfold Dv.much at z;rw[<-h.rm.chs,<-h.rm.wait,bC]at z;have:ws.length=(Hm.sD.mk ws cnt ep sq).ws.length:=rfl;omega
end
noncomputable def MH:Array ij:=match yP with
 |.region _ ops _=>ops
 |_=>#[]
def S9:∃z,yP=.region z MH aL:=⟨_,rfl⟩
def JQ:ir MH.size=[0,1,2]:=XN
def RD(c:Cf)(us:List PB)(dl:Nat->List (List UInt8))(kb nb:Nat)(vu vo vw:X)(s:Hm.sD)(pl:List Hm.PL)(v0:X)(w:U)(a:Option eM)(n cap:Nat)(W:U):Prop:=
 ∃E z,n=(pl++z).length/\Hm.DS c us s E/\z.map cI=E.map (Hm.pJ c us dl)/\Hm.Row W 52 8 (.slice a n cap) (pl++z).length ((pl++z).flatMap jJ)/\(∀p,p∈pl++z->kQ W p.2.1 p.1.txs/\kQ W p.2.2 p.1.deps)/\Hm.Zf kb c vu us dl nb vo vw s E W/\jL (λk=>(k=kb\/vw.ownBlock=M k)\/v0.ownBlock=M k) w W/\∀g,(aH a n cap).ownBlock=M g->v0.ownBlock=M g\/w.heap.size<=g
section
variable {Post:vU}{XX A:List cR}{w0:U}{c:Cf}{ps:List PU}{xa:Option eM}{vc:Nat}{b₀:cR}{a₀:Act}{ops:Array ij}{i:Nat}{rest:List Nat}{k:List pS}{o:ij}
def V7{p:PU}(h:ps[j]? =M p):(ps.map cI)[j]! =p.1:=by grind
def KY(rd:Cr.ReadW)(ho:ops[i]? =M o)(hc:Dv.jS (ps.map cI)=aR)(hcf:Dv.jK c=aR)(b7:Tryz.prog.globals.size<=w0.heap.size)(I:oz w0 (.slice xa ps.length vc) ps)(a9:∀D w va (pl:List Hm.PL),Hm.Row w 52 8 va pl.length (pl.flatMap jJ)->(∀p,p∈pl->kQ w p.2.1 p.1.txs/\kQ w p.2.2 p.1.deps)->pl.map cI=(Dv.gone c (ps.map cI) ps.length).log->jL (λ_=>False) w0 w->Wq D Post XX (b₀.at (a₀.put o.dst (cQ #[va,N ab 0])) (bL ops rest::k)) A w):∀r j,j+r=ps.length->∀D w a kb nb vu us dl vo vw ws nm os cnt ep sq va pl,LI w0 c ps kb nb vu us dl vo vw ws nm os cnt ep sq va pl j w->SL a (.slice xa ps.length vc) va kb ps.length j->Wq D Post XX ((base 15).at a [.code allL,.inLoop allL,.inBlock 0,.code (bR BR .ret)]) (b₀.at a₀ (bL ops (i::rest)::k)::A) w:=by
 have b9:=(Dv.jW hc).2.1;have h1:=(Dv.jW hc).1;rw[bC]at b9 h1
 have dr:1<=c.timeout/\c.timeout<=8/\1<=c.window/\c.window<=8/\0<=c.drift/\c.drift<=100/\2<=c.step/\c.step<=20/\1<=c.most/\c.most<=4096:=by
  unfold Dv.jK at hcf;exact Z2 hcf
 have dm:=aP (show 1<Tryz.prog.globals.size from Z2 XN) b7;intro r
 induction r with
 |zero=>
  intro j hj D w a kb nb vu us dl vo vw ws nm os cnt ep sq va pl hI hA;have hj:j=ps.length:=aA
  obtain⟨tm,df⟩:=a;obtain⟨sz,ai,t1,t6,t7,t18,t19,t20⟩:=hA;dsimp only at sz ai t1 t6 t7 t18 t19 t20;subst ai;obtain⟨u0,u1,u2,u3,u4,u5,u6,u7,u8,u9,ca,cy,b8,ci,ct,cl,b0,co,b1,b6,cc,c5,b4,b2,ck,bv,cv,cx,c9,bw,c6,cj,dh,rfl⟩:=abV sz;simp only[eX,eU,dX,aK]at t1 t6 t7 t18 t19 t20;subst t1 t6 t7 t18 t19 t20;obtain⟨aa,ac,ba⟩:=hI.row.slice;subst ba;rw[show ly allL=ly (bR FC (bR (.cond (cN 21) .skip (.exit 0)) (bR (.block 1 (bR GY (bR yP zh))) yR))) from by rw[Hm.KF]];refine Wq.seq (Wq.walk λt d Q hN _=>Hm.Yu j (hN _ _ (Wq.same (y:=w) (λ_ _=>rfl) ?_)));refine Wq.seq (Wq.cond (t:=decide _) rfl ?_);rw[Zs (by simp[hj])];refine Wq.exit (k':=[.code _]) rfl (Wq.seq (Wq.walk λt d Q hN _=>Hm.ZV aa ac (hN _ _ (Wq.same (y:=w) (λ_ _=>rfl) ?_))));refine Wq.ret λtodo=>Wq.leave (v:=cQ #[.slice aa _ ac,.int _ 0]) (fn:=j8) rfl rfl rfl (fq Tryz.func15 rfl) (QI rfl rfl) ?_;rw[fO,ho];exact a9 D w _ pl hI.row hI.strs (by rw[<-hj];exact(hI.rm.some aA).1) hI.jM
 |succ r ih=>
  intro j hj D w a kb nb vu us dl vo vw ws nm os cnt ep sq va pl hI hA;have an:j<ps.length:=aA
  have ag:j<(ps.map cI).length:=by rw[bC];exact an
  obtain⟨g,off,ay,cf,_⟩:=Hm.Rd.pos I.1 aA;cases cf;obtain⟨tm,df⟩:=a;obtain⟨sz,ai,t1,t6,t7,t18,t19,t20⟩:=hA;dsimp only at sz ai t1 t6 t7 t18 t19 t20;subst ai;obtain⟨u0,u1,u2,u3,u4,u5,u6,u7,u8,u9,ca,cy,b8,ci,ct,cl,b0,co,b1,b6,cc,c5,b4,b2,ck,bv,cv,cx,c9,bw,c6,cj,dh,rfl⟩:=abV sz;simp only[eX,eU,dX,aK]at t1 t6 t7 t18 t19 t20;subst t1 t6 t7 t18 t19 t20;rw[show ly allL=ly (bR FC (bR (.cond (cN 21) .skip (.exit 0)) (bR (.block 1 (bR GY (bR yP zh))) yR))) from by rw[Hm.KF]];refine Wq.seq (Wq.walk λt d Q hN _=>Hm.Yu j (hN _ _ (Wq.same (y:=w) (λ_ _=>rfl) ?_)));refine Wq.seq (Wq.cond (t:=decide _) rfl ?_);rw[ZD (by simp[an])];refine Wq.skip (Wq.seq (Wq.block (Wq.seq ?_)));obtain⟨p,bb⟩:∃p,ps[j]? =M p:=⟨_,aO an⟩
  have ao:=aX bb;have a2:=V7 bb;have af:Dv.small p.1=aR:=by rw[<-a2];exact Dv.mG _ Z (Dv.jW hc).2.2.1 j ag
  obtain⟨k0,k1,k2,k3⟩:=(Bg I hI.jM).get bb;obtain⟨ta,tc,bd⟩:=Hm.Rd.slice (I.2 p ao).1;obtain⟨la,lc,bg⟩:=Hm.Rd.slice (I.2 p ao).2.1;rw[bd]at k2;rw[bg]at k3;refine Wq.walk λt d Q hN _=>Hm.acW g off vc j ta tc la lc an k0 k1 k2 k3 (λw2 ar=>hN _ _ ?_);rw[show(on w t d).heap.size=w.heap.size from rfl];have ar:w2.heap=(w.alloc (aG #[N ab p.1.id,N ab p.1.time,.slice ta p.1.txs.length tc,.slice la p.1.logs.length lc] 28)).heap:=ar;have z:=hI.kept (tJ ar)
  have cd:w2.heap[w.heap.size]? =M (aG #[N ab p.1.id,N ab p.1.time,.slice ta p.1.txs.length tc,.slice la p.1.logs.length lc] 28 (0,0)):=by
   rw[ar];exact cT _ _
  refine Wq.seq ?_;obtain⟨dq,bl⟩:=S9;rw[bl];refine Wq.region ?_;rw[JQ];obtain⟨p0,dg,bs,cu,b3⟩:∃o,MH[0]? =M o/\o.op=.move (cN 7)/\o.dst=M 24/\o.guard=Z:=⟨_,rfl,rfl,rfl,rfl⟩
  obtain⟨p1,cz,bo,cr,ce⟩:∃o,MH[1]? =M o/\o.op=.load 28 (cN 9)/\o.dst=M 25/\o.guard=Z:=⟨_,rfl,rfl,rfl,rfl⟩
  obtain⟨p2,cq,bn,cn,db⟩:∃o,MH[2]? =M o/\o.op=.call { callee:=.value (.func 31),args:=#[cN 24,cN 25],argTypes:=#[71,28] }/\o.dst=M 26/\o.guard=Z:=⟨_,rfl,rfl,rfl,rfl⟩
  refine Wq.val (v:=ptr kb) (x':=w2) dg b3 (λt d=>by unfold bN;simp only[bs];rfl) ?_;rw[cu]
  refine Wq.val (v:=fX #[N ab p.1.id,N ab p.1.time,.slice ta p.1.txs.length tc,.slice la p.1.logs.length lc]) (x':=w2) cz ce (λt d=>by
   have c:=aI (show(on w2 t d).heap[w.heap.size]? =_ from cd);have c0:=c 0;have c1:=c 1;have c2:=c 2;have c3:=c 3;unfold bN;simp only[bo];simp[go_sem,Act.put,Act.eval,c0,c1,c2,c3]) ?_
  rw[cr];have aw:=(Bg I z.jM).2 p ao;rw[bd,bg]at aw;have s2:=z.jM.size;have di:=z.osl;refine QH rd cq (Cr.jY db) bn rfl rfl aA z.ts aw (λq hq=>?ap) af hcf (by rw[z.rm.len];omega) aA z.fits (z.much hc hcf aA) ?_
  case ap=>
   have dj:q<↑w0:=by
    have hu:=I.2 p ao;rw[bd,bg]at hu;obtain⟨hn,e⟩|⟨hn,e⟩:=hq
    .exact Rj hu.1 hn e
    .exact Rj hu.2.1 hn e
   exact⟨aA,λe=>by have:=z.low q e;omega⟩
  intro D3 w3 am v3 aj av J bh au bj ak a6 dd a8 a3;rw[cn];refine Wq.done ?_;have aq:=z.rm.took ag aA (v:=v3) (cs':=lives bh au) (ws':=ws++J) (by rw[a2,a3,z.rm.len]);rw[a2]at aq;have Y:=BF z.ts ak z.row aB aB aB aB aB
  have ah:∀q,q∈pl->kQ w3 q.2.1 q.1.txs/\kQ w3 q.2.2 q.1.deps:=λq hq=>
   ⟨BF z.ts ak (z.strs q hq).1 aB aB aB aB aB,BF z.ts ak (z.strs q hq).2 aB aB aB aB aB⟩
  have a0:∀i,(Nz dl us.length p.1 i).length<=4294967296:=λi=>by
   unfold Nz;split
   .exact Rn _ af
   .exact z.hdl i
  have ae:=RT.count aq hc hcf ag;rw[bC]at ae;have a7:=aq.good hc hcf ag;obtain⟨aa,ac,ba⟩:=Y.slice;subst ba
  have E:∀q,Tk kb nb am aj av au q->w0.heap.size<=q:=λq hq=>by
   obtain e|e:=a6 q hq
   .exact z.low q e
   .omega
  refine Wq.walk λt d Q hN _=>Hm.aat kb aa ac (RD c (us++[(p.1.id,p.1.time,v3)]) (Nz dl us.length p.1) kb nb am aj av ⟨ws++J,cnt,ep,sq⟩ pl (.slice aa pl.length ac) w3) ?calls (λdt n4 dk w4 hX=>hN _ _ ?_)
  case calls=>
   have hb:RowKit.Below ↑w3 (on w3 t d) ((on w3 t d).alloc (aG #[aD (M ⟨kb,0,Z⟩)] 71)):=(RowKit.Below.refl _ (on w3 t d)).alloc jB _;have de:TS (on w3 t d) kb nb c am (us++[(p.1.id,p.1.time,v3)]) (Nz dl us.length p.1) aj av (ws++J) bh au cnt ep sq:=bj.heap rfl;refine(Hm.vT kb ↑w3 c am _ _ nb aj av ⟨_,cnt,ep,sq⟩ _ pl _ a7 aA a0 (de.d.below hb) (Boxed.new _ _ _) aC ((Y.heap (w':=on w3 t d) rfl).below hb) (λq hq=>⟨Hm.Row.below (Hm.Row.heap (w':=on w3 t d) (ah q hq).1 rfl) hb,Hm.Row.below (Hm.Row.heap (w':=on w3 t d) (ah q hq).2 rfl) hb⟩) ae).mono ?_;rintro e W' ⟨R,bm,a',ay,rfl,q1,q2,q3,q4,q5,q6,q7⟩;refine⟨a',_,ay,rfl,R,bm,rfl,q1,q2,q3,q4,q5,?_,λg hg=>(q7 g hg).imp id (λq=>bH hb.size q)⟩;exact((Hm.jI.below hb jB _).trans q6 (λ_ _ e=>e)).h.heaps rfl rfl
  obtain⟨R,bm,cw,bu,bp,a5,a4,a1,bq,b5⟩:=hX;subst cw;have br:=aq.drawn hc hcf ag bu;unfold Hm.Zf at a1;generalize (Hm.sD.mk (Hm.jO c (us++[(p.1.id,p.1.time,v3)]) (Hm.jQ ⟨ws++J,cnt,ep,sq⟩ R).ws (Hm.jQ ⟨ws++J,cnt,ep,sq⟩ R).cnt (Hm.jQ ⟨ws++J,cnt,ep,sq⟩ R).ep).2 (Hm.jQ ⟨ws++J,cnt,ep,sq⟩ R).cnt (Hm.jQ ⟨ws++J,cnt,ep,sq⟩ R).ep (Hm.jQ ⟨ws++J,cnt,ep,sq⟩ R).sq)=s4 at a1 br;obtain⟨bz,cg,bk⟩:=a1;refine Wq.inBlock (Wq.walk λt d Q hN _=>Hm.aaX j aA (hN _ _ (Wq.same (y:=w4) (λ_ _=>rfl) (Wq.inLoop ?_))));have az:=z.vlow;have c4:=TS.drawn bj cg Y bq (λe=>by have:=az _ e;omega);have s3:=ak.size;refine ih _ aA D3 w4 _ kb nb am _ _ aj bz _ bh au _ _ _ _ _ ⟨c4,?_,a5,a4,aA,a8,a0,λq hq=>?_,λg hg=>?_,?_⟩ ⟨rfl,rfl,rfl,rfl,rfl,rfl,rfl,rfl⟩
  .rw[bJ,bp];exact br
  .obtain e|e|e|e:=hq
   .exact E q (bE e)
   .exact E q (cD (bE e))
   .exact E q (cD (cD (bE (bk q e))))
   .exact E q (cD (cD (cD e)))
  .grind
  .refine(z.jM.trans ak (λq hq e=>?_)).trans bq (λq hq e=>?_)
   .have:=z.low q e;omega
   .obtain(e|e)|e:=e
    .have:=E q (bE e);omega
    .have:=E q (cD (cD (bE e)));omega
    .have:=az q e;omega
end
structure qM(w:U):Prop where
 hd:lJ w
 ty:∃hc t fz,w.heap[1]? =M (aG hc t fz)/\t≠100/\t≠118/\t≠102/\t≠136/\t≠140
def qM.kept(h:qM w)(hc:jL (λ_=>False) w w'):qM w':=⟨Hm.mX h.hd hc (λe=>e),by rw[hc.block _ h.hd.pos (λe=>e)];exact h.ty⟩
section
variable {Post:vU}{D:Nat->Prop}{XX A:List cR}{w:U}{c:Cf}{ps:List PU}{xa:Option eM}{vc:Nat}
def acv(rd:Cr.ReadW){b₀:cR}{a₀:Act}{ops:Array ij}{i:Nat}{rest:List Nat}{k:List pS}{o:ij}{x y:jN}{a1:Array cG}(ho:ops[i]? =M o)(hw:cP o (yielded ops a₀.tmps)=aR)(a2:o.op=.call { callee:=.value (.func 15),args:=#[x,y],argTypes:=a1 })(ex:a₀.eval x=.agg (jF c))(ey:a₀.eval y=.slice xa ps.length vc)(ay:Tryz.prog.globals.size<=w.heap.size)(ae:oz w (.slice xa ps.length vc) ps)(ar:ps.length<=4294967296)(hH:qM w)(I:∀D' w' va (pl:List Hm.PL),Hm.Row w' 52 8 va pl.length (pl.flatMap jJ)->(∀p,p∈pl->kQ w' p.2.1 p.1.txs/\kQ w' p.2.2 p.1.deps)->pl.map cI=(Dv.all c (ps.map cI)).2->jL (λ_=>False) w w'->Wq D' Post XX (b₀.at (a₀.put o.dst (cQ #[va,N ab (Dv.all c (ps.map cI)).1])) (bL ops rest::k)) A w'):Wq D Post XX (b₀.at a₀ (bL ops (i::rest)::k)) A w:=by
 refine Wq.call ho hw a2 (fq Tryz.func15 rfl) rfl Hm.X6 ?_;simp only[fQ,eP,fP,ex,ey,show Tryz.f15.ntmps=33 from rfl,dR,aU,bY,Nat.reduceAdd,Nat.reduceSub,dH,dG,dU,dI,dS,dN]
 have bad:∀(a':Act)(w':U)(todo:List pS)(er:Int),a'.defers=[]->a'.tmps[4]? =M (aH Z 0 0)->a'.tmps[5]? =M (N ab er)->jL (λ_=>False) w w'->Dv.all c (ps.map cI)=(er,[])->Wq D Post XX { (base 15).at a' todo with mode:=.returning } (b₀.at a₀ (bL ops (i::rest)::k)::A) w':=by
  intro a' w' todo er h0 h4 h5 az z;refine Wq.leave (v:=.tuple _) (fn:=j8) rfl h0 rfl (fq Tryz.func15 rfl) (QI h4 h5) ?_;rw[fO,ho];have:=I D w' _ [] (Hm.Row.nil _ _ _) (λp hp=>by simp at hp) (by rw[z];rfl) az;rw[z]at this;exact this
 refine Wq.seq (Wq.walk λt d Q R _=>Hm.ad5 c (R _ _ (Wq.same (y:=w.alloc (aG (jF c) 24)) (λ_ _=>rfl) ?_)));obtain⟨w1,am,-,aj⟩:=jD w (jF c) 24;have aa:jL (λ_=>False) w w1:=tJ (by rw[am]);have cf:∀{v:U},jL (λ_=>False) w1 v->v.heap[w.heap.size]? =M (aG (jF c) 24 (0,0)):=λh=>(h.block _ (jE aj) (λe=>e)).trans aj;have Y:∀{u v:U} {t d},RowKit.Below ↑u (on u t d) v->jL (λ_=>False) u v:=λh=>((Hm.jI.below h jB _).h).heaps rfl rfl;rw[<-am];refine Wq.seq ?_;have k1:=λt d=>um (w:=on w1 t d) aj;cases hcf:Dv.jK c with
 |false=>exact Wq.walk λt d Q _ hR=>Hm.Qi c (k1 t d 0) (k1 t d 1) (k1 t d 2) (k1 t d 3) (k1 t d 4) (k1 t d 5) (k1 t d 6) hcf (λw2 ah=>hR _ _ λtodo=>bad _ w2 todo 1 rfl rfl rfl (aa.trans (Y (u:=w1) ah) (λ_ _ e=>e)) (by unfold Dv.all;rw[hcf];rfl))
 |true=>
  refine Wq.walk λt d Q R _=>Hm.acH c (k1 t d 0) (k1 t d 1) (k1 t d 2) (k1 t d 3) (k1 t d 4) (k1 t d 5) (k1 t d 6) hcf (λw2 ah=>R _ _ ?_);have ag:jL (λ_=>False) w1 w2:=Y ah;have ac:=Bg ae (aa.trans ag (λ_ _ e=>e));refine Wq.seq ?_;cases J:Dv.jS (ps.map cI)with
  |false=>exact Wq.walk λt d Q _ hR=>Hm.ML xa vc ps (JR ac rfl) ar J (λw3 ai=>hR _ _ λtodo=>bad _ w3 todo 2 rfl rfl rfl ((aa.trans ag (λ_ _ e=>e)).trans (Y (u:=w2) ai) (λ_ _ e=>e)) (by unfold Dv.all;rw[hcf,J];rfl))
  |true=>
   refine Wq.walk λt d Q R _=>Hm.ad6 xa vc ps (JR ac rfl) ar J (λw3 ai=>R _ _ ?_);have aq:=ag.trans (Y (u:=w2) ai) (λ_ _ e=>e);have b3:=cf aq;have k3:=λt d=>um (w:=on w3 t d) b3;refine Wq.seq (Wq.walk λt d Q R _=>Hm.acD (R _ _ (Wq.same (y:=w3) (λ_ _=>rfl) (Wq.seq ?_))));refine Wq.walk λt d Q R _=>Hm.acR c (k3 t d 0) (k3 t d 1) (k3 t d 2) (k3 t d 3) (k3 t d 4) (k3 t d 5) (k3 t d 6) (λw4 av=>R _ _ ?_);have af:w4.heap=(((w3.alloc (aG (jF c) 24)).alloc (.map #[] 0)).alloc (aG (jP c (aH Z 0 0) (w3.heap.size+1) (aH Z 0 0) (aH Z 0 0) 0 0 0) 100)).heap:=by rw[av];rfl
   have E:=aa.trans aq (λ_ _ e=>e);have s3:=E.size;have an:=hH.kept E;have a0:=Y1 c an.hd an.ty af
   have ap:jL (λ_=>False) w3 w4:=⟨by rw[af];simp;omega,λj hj _=>by
    rw[af,fV _ _ _ aF,fV _ _ _ aF,fV _ _ _ hj]⟩
   refine Wq.seq (Wq.seq (Wq.walk λt d Q R _=>Hm.ach xa vc (R _ _ (Wq.same (y:=w4) (λ_ _=>rfl) (Wq.block (Wq.loop ?_))))))
   refine KY rd ho J hcf ay ae ?_ ps.length 0 aA D w4 _ _ _ _ [] _ _ _ [] [] [] 0 0 0 _ [] ⟨a0,Hm.RM.start _ _ _,Hm.Row.nil _ _ _,λp hp=>by simp at hp,aC,λx hx=>by simp[lives]at hx,λi=>aC,λq hq=>by
     obtain e|e|e|e|e|⟨x,hx,_⟩:=hq
     .omega
     .cases e
     .cases e
     .omega
     .cases e
     .simp at hx,λg hg=>(by cases hg),E.trans ap (λ_ _ e=>e)⟩ ⟨rfl,rfl,rfl,rfl,rfl,rfl,rfl,rfl⟩
   intro D7 w7 va pl au ak ao aw
   have z:Dv.all c (ps.map cI)=(0,(Dv.gone c (ps.map cI) ps.length).log):=by
    unfold Dv.all;rw[hcf,J,bC];rfl
   have:=I D7 w7 va pl au ak (by rw[z];exact ao) aw;rw[z]at this;exact this
end
end
end Pa
namespace Hm
open Go.RowKit Go.Joins Go.Shelf
open Fr (below_drewN)
open Dv (X2)
section
def upZ:PU:=(⟨0,0,[],[]⟩,aH Z 0 0,aH Z 0 0)
def YS(p:PU):X:=fX #[N ab p.1.id,N ab p.1.time,p.2.1,p.2.2]
def Pe(w:U)(p:PU):Prop:=Row w 125 3 p.2.1 p.1.txs.length (p.1.txs.flatMap oO)/\kQ w p.2.2 p.1.logs
def Ro(w w':U):Prop:=∀(g:Nat) cs t fz,w.heap[g]? =M (aG cs t fz)->t=125\/t=9->w'.heap[g]? =w.heap[g]?
section
variable {w w':U}{p:PU}{e s n:Nat}{v:X}{xs:List X}
def Row.ro(h:Row w e s v n xs)(z:e=125\/e=9)(E:Ro w w'):Row w' e s v n xs:=h.kept λg I=>by
 obtain⟨c,hc⟩:=h.obj I;exact E g c e _ hc z
def Pe.ro(h:Pe w p)(z:Ro w w'):Pe w' p:=⟨h.1.ro (bE rfl) z,Row.ro h.2 (cD rfl) z⟩
def Ro.jM{XS:Nat->Prop}(hc:jI XS w w')(E:∀k cs t z,XS k->w.heap[k]? =M (aG cs t z)->t≠125/\t≠9):Ro w w':=λg cs t z h ht=>hc.block g (jE h) λe=>by
 obtain⟨I,h2⟩:=E g cs t z e h;exact ht.elim I h2
def Pe.at(h:Pe w p)(z:p.1.txs.length<=4294967296)(h2:p.1.logs.length<=4294967296):kW w p.1 p.2.1 p.2.2:=⟨h.1.rd,Row.rd h.2,z,h2⟩
end
def lu{w w':U}{a:eM}{v:X}(h:w.cell? a=M v)(E:Below ↑w w w'):w'.cell? a=M v:=by
 refine(E.cell ?_).trans h;unfold eB at h;cases z:w.heap[a.block]? with
 |none=>rw[z]at h;cases h
 |some o=>exact(jE z)
structure tX(w:U)(sb:Nat)(vb:X)(ps:List PU)(last sil:Nat):Prop where
 obj:w.heap[sb]? =M (aG #[vb,N ab last,N ab sil] 83 (0,0))
 row:Row w 28 4 vb ps.length (ps.flatMap oq)
 up:∀p,p∈ps->Pe w p
 len:ps.length<=60
 few:sil<=20
 ids:last<=1099511627776
def SO(sb:Nat)(vb:X)(k:Nat):Prop:=k=sb\/vb.ownBlock=M k
section
variable {w w':U}{sb:Nat}{vb:X}{ps:List PU}{last sil:Nat}
def tX.lt(h:tX w sb vb ps last sil):sb<↑w:=(jE h.obj)
def tX.ne(h:tX w sb vb ps last sil):vb.ownBlock≠M sb:=λe=>by
 obtain⟨c,hc⟩:=h.row.obj e;rw[h.obj]at hc;simp at hc
def tX.types(h:tX w sb vb ps last sil){k:Nat}{cs:Array X}{t:cG}{E:Nat×Nat}(hk:SO sb vb k)(hc:w.heap[k]? =M (aG cs t E)):t=83\/t=28:=by
 obtain rfl|e:=hk
 .rw[h.obj]at hc;simp at hc;exact bE hc.2.1.symm
 .obtain⟨c,z⟩:=h.row.obj e;rw[z]at hc;simp at hc;exact cD hc.2.1.symm
def tX.kept(h:tX w sb vb ps last sil)(hk:∀k,SO sb vb k->w'.heap[k]? =w.heap[k]?)(z:Ro w w'):tX w' sb vb ps last sil:=
 ⟨(hk sb (bE rfl)).trans h.obj,h.row.kept λg E=>hk g (cD E),λp hp=>(h.up p hp).ro z,h.len,h.few,h.ids⟩
def tX.below(h:tX w sb vb ps last sil)(z:Below ↑w w w'):tX w' sb vb ps last sil:=
 h.kept (λk hk=>z.block k (by
  obtain rfl|e:=hk
  .exact h.lt
  .exact h.row.lt e)) λg cs t E hc _=>z.block g (jE hc)
def tX.ro(h:tX w sb vb ps last sil)(hc:jI (SO sb vb) w w'):Ro w w':=.jM hc λk cs t z hk e=>by
 obtain rfl|rfl:=h.types hk e
 .exact⟨aB,aB⟩
 .exact⟨aB,aB⟩
def tX.silent(h:tX w sb vb ps last sil){s:Nat}(hs:s<=20):tX (w.setCell ⟨sb,2,Z⟩ (N ab s)) sb vb ps last s:=by have hc:=jI.set w sb 2 (N ab s);refine⟨?_,h.row.jM hc (λg z e=>h.ne (by rw[z,e])),λp hp=>(h.up p hp).ro (h.ro (hc.mono λk _ e=>bE e)),h.len,hs,h.ids⟩;rw[rj h.obj];rfl
def JB(n:Int)(h:tX w sb vb ps last sil):dE PQ 26 #[aD (M ⟨sb,0,Z⟩),N ab n] w λe w'=>
  if n<0\/20<n then e=bO (N ab 3)/\w'=w else e=bO (N ab 0)/\w'=w.setCell ⟨sb,2,Z⟩ (N ab n):=by
 obtain⟨c0,R,E⟩:=cells3 h.obj;have z:=aQ h.obj;have I:=h.lt;clear h;go_enter (fq Tryz.func26 rfl),Tryz.ntmps26;by_cases J:n<0
 .go_wp2_with fail;go_ret;exact⟨rfl,rfl⟩
 .by_cases h2:20<n
  .go_wp2_with fail;go_ret;exact⟨rfl,rfl⟩
  .go_wp2_with fail;go_ret;exact⟨rfl,rfl⟩
def Iz(w:U)(R:Nat)(a b c d:X):U:=(((w.setCell ⟨R,0,Z⟩ a).setCell ⟨R,1,Z⟩ b).setCell ⟨R,2,Z⟩ c).setCell ⟨R,3,Z⟩ d
def nK{R t:Nat}{z E J I:X}(h:w.heap[R]? =M (aG #[z,E,J,I] t (0,0)))(a b c d:X):(Iz w R a b c d).heap[R]? =M (aG #[a,b,c,d] t (0,0))/\jI (λk=>k=R) w (Iz w R a b c d):=by refine⟨?_,(((jI.set w R 0 a).trans (.set _ R 1 b) λ_ _ e=>e).trans (.set _ R 2 c) λ_ _ e=>e).trans (.set _ R 3 d) λ_ _ e=>e⟩;have:=jX (jX (jX (jX h 0 a) 1 b) 2 c) 3 d;simpa[Iz]using this
def rW(w:U)(sb:Nat)(vb:X)(ps:List PU)(last sil:Nat)(ev:X)(i:Int)(e:pm)(w':U):Prop:=
 if 0<sil then e=bO (cQ #[YS upZ,cK aL,ev])/\tX w' sb vb ps last (sil-1)/\jI (λk=>k=sb) w w'
 else Below ↑w w w'/\((∃(n:Nat)(p:PU),i=n/\ps[n]? =M p/\e=bO (cQ #[YS p,cK aR,.nilIface]))\/(i<0\/(ps.length:Int)<=i)/\e=bO (cQ #[YS upZ,cK aL,.nilIface]))
def Uf{fn:Func}{tm:Array X}{R:Nat}{p:PU}{E z:X}(I:fn.results=#[.cell 4 28,.tmp 5,.tmp 6])(h4:tm[4]? =M (aD (M ⟨R,0,Z⟩)))(h5:tm[5]? =M E)(J:tm[6]? =M z)(hz:w.heap[R]? =M (aG #[N ab p.1.id,N ab p.1.time,p.2.1,p.2.2] 28 (0,0))):(results fn tm).run PQ w=.ok (cQ #[YS p,E,z]) w:=by obtain⟨z0,z1,Y,z3⟩:=cells4 hz;simp[results,I,go_sem,h4,h5,J,z0,z1,Y,z3,YS]
def CO{ev:X}(i:Int)(h:tX w sb vb ps last sil)(ac:w.cell? ⟨0,0,Z⟩=M ev):dE PQ 38 #[aD (M ⟨sb,0,Z⟩),N ab i] w (rW w sb vb ps last sil ev i):=by
 obtain⟨W,J,z,E⟩:=jD w #[N ab 0,N ab 0,aH Z 0 0,aH Z 0 0] 28;have I:=h.below z;obtain⟨c0,c1,c2⟩:=cells3 I.obj;obtain⟨z0,z1,z2,z3⟩:=cells4 E;have fz:=aQ I.obj;have ai:=aQ E;have hl:=h.lt;have R:sb≠w.heap.size:=aA
 have he:=lu ac z;have hf:=h.few;have H:cH _:=jy h (jy z (jy I E));by_cases h0:0<sil
 .have ae:(0:Int)<sil:=by omega
  clear h z I E;go_enter (fq Tryz.func38 rfl),Tryz.ntmps38;go_upto_region 1 with fail;rw[<-J];clear J;go_upto_region 3 with fail;go_region
  all_goals
   go_wp2_with fail;obtain⟨h,z,I,E⟩:=H.out;rw[show((sil:Int)-1)=((sil-1:Nat):Int) by omega];have hV:=I.silent (s:=sil-1) aA;have aa:=(aW W ⟨sb,2,Z⟩ (N ab (sil-1:Nat)) ↑w R.symm).trans E;obtain⟨q1,q2⟩:=nK aa (N ab 0) (N ab 0) (aH Z 0 0) (aH Z 0 0);refine cM (Uf (p:=upZ) rfl rfl rfl rfl q1) rfl ?_;unfold rW;rw[ZD h0];have q3:=q2.trans (.drew (λk=>k=w.heap.size) _) λ_ _ e=>e;refine⟨rfl,hV.kept (λk hk=>q3.block k ?_ ?_) (.jM q3 λk cs t fz hk e=>?_),((jI.below z jB _).trans (.set W sb 2 _) λ_ _ e=>e).trans q3 λk hk e=>aA⟩
   .have:=hV.lt;obtain rfl|e:=hk
    .exact this
    .exact hV.row.lt e
   .obtain rfl|e:=hk
    .exact R
    .intro e';have:=h.row.lt e;omega
   .subst hk;rw[aa]at e;simp at e;rw[<-e.2.1];exact⟨aB,aB⟩
 .have ae:¬(0:Int)<sil:=by omega
  have hold:∀(n:Nat) a b c d,Below ↑w w (Iz W ↑w a b c d):=λn a b c d=>((jI.below (XS:=λ_=>False) z jB).trans (nK E a b c d).2 λk hk e=>aA).lQ;by_cases h1:i<0
  .clear h z I E;go_enter (fq Tryz.func38 rfl),Tryz.ntmps38;go_upto_region 1 with fail;rw[<-J];clear J;go_wp2_with fail;refine cM (Uf (p:=upZ) rfl rfl rfl rfl (nK H.out.2.2.2 _ _ _ _).1) rfl ?_;unfold rW;rw[Zs h0];exact⟨hold 0 _ _ _ _,cD ⟨bE h1,rfl⟩⟩
  .by_cases h2:(ps.length:Int)<=i
   .obtain⟨a,cap,hv⟩:=h.row.slice;clear h z I E;subst hv;go_enter (fq Tryz.func38 rfl),Tryz.ntmps38;go_upto_region 1 with fail;rw[<-J];clear J;go_wp2_with fail;refine cM (Uf (p:=upZ) rfl rfl rfl rfl (nK H.out.2.2.2 _ _ _ _).1) rfl ?_;unfold rW;rw[Zs h0];exact⟨hold 0 _ _ _ _,cD ⟨cD h2,rfl⟩⟩
   .obtain⟨n,rfl⟩:∃n:Nat,i=n:=⟨i.toNat,aA⟩
    obtain⟨g,off,cap,rfl,ag⟩:=h.row.pos aA;obtain⟨p,hp⟩:∃p,ps[n]? =M p:=⟨_,aO aA⟩
    obtain⟨u,vt,vl⟩:=p;have hu:=h.up _ (aX hp);obtain⟨ta,tc,rfl⟩:∃a c,vt=.slice a u.txs.length c:=hu.1.slice;obtain⟨la,lc,rfl⟩:∃a c,vl=.slice a u.logs.length c:=Row.slice hu.2;have Y:=λ(j:Nat) x (hj:j<4) (hu:(oq (u,.slice ta u.txs.length tc,.slice la u.logs.length lc))[j]? =M x)=>Rd.rec oq 4 (λ_=>rfl) I.row.rd hp hj hu;have k0:=Y 0 _ aA rfl;have k1:=Y 1 _ aA rfl;have k2:=Y 2 _ aA rfl;have k3:=Y 3 _ aA rfl;rw[<-dV]at k0 k1 k2 k3;rw[pN]at k0;have ah:g≠w.heap.size:=by have:=h.row.lt (g:=g) rfl;omega
    have af:(n:Int)<ps.length:=aA
    have Hp:cH _:=hp;clear h z I E Y hp hu;go_enter (fq Tryz.func38 rfl),Tryz.ntmps38;go_upto_region 1 with fail;rw[<-J];clear J;go_wp2_with fail;refine cM (Uf (p:=(u,.slice ta u.txs.length tc,.slice la u.logs.length lc)) rfl rfl rfl rfl (nK H.out.2.2.2 _ _ _ _).1) rfl ?_;unfold rW;rw[Zs h0];exact⟨hold 0 _ _ _ _,bE ⟨n,_,rfl,Hp.out,rfl⟩⟩
end
end
section
def XF(w:U)(E s n:Nat)(xs:List X)(e:pm)(w':U):Prop:=∃a cap,e=bO (.slice a n cap)/\Row w' E s (.slice a n cap) n xs/\(∀g,(aH a n cap).ownBlock=M g->w.heap.size<=g)/\Below ↑w w w'
def He{w:U}{E s:Nat}:XF w E s 0 [] (bO (aH Z 0 0)) w:=⟨Z,0,rfl,Row.nil _ _ _,λg e=>(by cases e),aJ _ _⟩
structure NY(w W:U)(E s n:Nat)(xs:List X)(g off cap:Nat):Prop where
 b:Below ↑w w W
 o:W.heap[w.heap.size]? =M (aG #[] E (0,0))
 r:Row W E s (aH (M ⟨↑w,0,Z⟩) 0 0) 0 []
 c:0<n->∀j u,xs[j]? =M u->W.cell? ((⟨g,off,Z⟩:eM).add j)=M u
 l:xs.length=n*s
section
variable {w W:U}{E s n g off cap:Nat}{xs:List X}{a:eM}
def NY.of(z:Below ↑w w W)(ho:W.heap[w.heap.size]? =M (aG #[] E (0,0)))(h:Rd w s (aH (M a) n cap) n xs):∃g off,(0<n->a=⟨g,off,Z⟩)/\NY w W E s n xs g off cap:=by
 obtain⟨Y,a',R,hv,hc,hp⟩:=h;cases hv;have hr:Row W E s (aH (M ⟨↑w,0,Z⟩) 0 0) 0 []:=⟨aC,cD ⟨↑w,0,0,#[],rfl,ho,jB,by unfold maxLen;omega,aC,λj u J=>by simp at J⟩⟩
 by_cases I:0<n
 .obtain⟨g,off,ha,hg,hx⟩:=hp I;cases ha;refine⟨g,off,λ_=>rfl,z,ho,hr,λ_ j u J=>?_,Y⟩;have:=lu (hx j u J) z;unfold jp;split
  .rename_i h0;subst h0;exact this
  .exact this
 .exact⟨0,0,λe=>Xs e I,z,ho,hr,λe=>Xs e I,Y⟩
def NY.fin(h:NY w W E s n xs g off cap){J I z:Nat}{R:U}(Y:Row R E s (aH (M ⟨J,I,Z⟩) (0+n) z) (0+n) ([]++xs))(hg:Grew (aH (M ⟨↑w,0,Z⟩) 0 0) J W R):XF w E s n xs (bO (aH (M ⟨J,I,Z⟩) n z)) R:=by
 rw[fJ,dS]at Y;refine⟨M ⟨J,I,Z⟩,z,rfl,Y,λq hq=>?_,((jI.below h.b jB (λ_=>False)).trans hg.jM λk hk e=>?_).lQ⟩
 .have:M J=M q:=hq;cases this;obtain e|e:=hg.own
  .cases e;exact jB
  .exact bH h.b.size e
 .have:w.heap.size=k:=fC e;omega
end
def Xu(w:U)(n k:Nat):(binOp .eql 25 (aH Z n k) (aH Z 0 0)).run PQ w=.ok (cK aR) w:=XN
def Ua(w:U)(a:eM)(n k:Nat):(binOp .eql 25 (aH (M a) n k) (aH Z 0 0)).run PQ w=.ok (cK aL) w:=XN
def ES:(PQ.info? 125).map (λi=>(i.zero,i.size,i.bytes))=M (M (fX #[N .u32 0,N .u32 0,bB ⟨#[]⟩]),3,24):=XN
def X8{v:X}{n:Nat}{xs:List X}(w:U)(h:Rd w 3 v n xs)(h1:∀u,u∈xs->u.oneCell'=aR)(hl:n<=4294967296):dE PQ 91 #[v] w (XF w 125 3 n xs):=by
 obtain⟨a,cap,rfl⟩:=h.slice;cases a with
 |none=>
  obtain⟨h2,a',ag,hv,hc,hp⟩:=h;cases hv;obtain rfl:n=0:=om λe=>by obtain⟨g,off,ha,_⟩:=hp e;cases ha
  obtain rfl:xs=[]:=bP aA;have af:=Xu;clear h2 hc hp h1 hl;go_enter (fq Tryz.func91 rfl),Tryz.ntmps91;go_wp2_with fail;go_ret;exact He
 |some a=>
  obtain⟨i0,Y,R,aa,ac⟩:=pa ES;obtain⟨W,hW,hb,ho⟩:=jD w #[] 125;obtain⟨g,off,ha,hS⟩:=NY.of hb ho h;have z:cH _:=jy Y (jy R (jy aa (jy ac (jy hS h1))));have af:=Ua;clear hb ho Y R aa ac h h1 hS;by_cases hn:n=0
  .subst hn;have hx:xs=[]:=bP (by rw[z.out.2.2.2.2.1.l]);subst hx;clear ha;go_enter (fq Tryz.func91 rfl),Tryz.ntmps91;go_upto_region 3 with fail;go_wp2_with (first|(at_builtin;rw[<-hW];refine kT _ rfl (cN 5) (cN 6) 25 rfl 125 i0 3 (uq Tryz.underlying25) z.out.1 z.out.2.2.1 ↑w 0 0 0 rfl a 0 cap [] rfl rfl (by intro j u hj;simp at hj) (by intro u hu;simp at hu) aA (by intro j hj;simp at hj) (by intro j;exact aQ z.out.2.2.2.2.1.o j) ?_)|go_in)
   go_ret;subst hW;exact⟨M ⟨↑w,0,Z⟩,0,rfl,z.out.2.2.2.2.1.r,λq hq=>by cases hq;exact jB,z.out.2.2.2.2.1.b⟩
  .obtain rfl:=ha aA;clear ha;go_enter (fq Tryz.func91 rfl),Tryz.ntmps91;go_upto_region 3 with fail;go_wp2_with (first|(at_builtin;rw[<-hW];refine kX _ rfl (cN 5) (cN 6) 25 rfl 125 i0 _ 3 24 (uq Tryz.underlying25) z.out.1 z.out.2.1 z.out.2.2.1 z.out.2.2.2.1 rfl aB _ 0 [] rfl z.out.2.2.2.2.1.r ⟨g,off,Z⟩ n cap xs rfl aA z.out.2.2.2.2.1.l (z.out.2.2.2.2.1.c aA) z.out.2.2.2.2.2 (by unfold maxLen;omega) aA ?_;intro g5 ah ai w5 I J;have ae:cH _:=jy I J;clear I J)|go_in)
   go_ret;have:=z.out.2.2.2.2.1.fin ae.out.1 ae.out.2;simpa using this
def Y0(w:U)(n k:Nat):(binOp .eql 26 (aH Z n k) (aH Z 0 0)).run PQ w=.ok (cK aR) w:=XN
def Uu(w:U)(a:eM)(n k:Nat):(binOp .eql 26 (aH (M a) n k) (aH Z 0 0)).run PQ w=.ok (cK aL) w:=XN
def E8:(PQ.info? 9).map (λi=>(i.zero,i.size,i.bytes))=M (M (bB ⟨#[]⟩),1,16):=XN
def CB{v:X}{n:Nat}{xs:List X}(w:U)(h:Rd w 1 v n xs)(h1:∀u,u∈xs->u.oneCell'=aR)(hl:n<=4294967296):dE PQ 47 #[v] w (XF w 9 1 n xs):=by
 obtain⟨a,cap,rfl⟩:=h.slice;cases a with
 |none=>
  obtain⟨h2,a',ag,hv,hc,hp⟩:=h;cases hv;obtain rfl:n=0:=om λe=>by obtain⟨g,off,ha,_⟩:=hp e;cases ha
  obtain rfl:xs=[]:=bP aA;have af:=Y0;clear h2 hc hp h1 hl;go_enter (fq Tryz.func47 rfl),ow;go_wp2_with fail;go_ret;exact He
 |some a=>
  obtain⟨i0,Y,R,aa,ac⟩:=pa E8;obtain⟨W,hW,hb,ho⟩:=jD w #[] 9;obtain⟨g,off,ha,hS⟩:=NY.of hb ho h;have z:cH _:=jy Y (jy R (jy aa (jy ac (jy hS h1))));have af:=Uu;clear hb ho Y R aa ac h h1 hS;by_cases hn:n=0
  .subst hn;have hx:xs=[]:=bP (by rw[z.out.2.2.2.2.1.l]);subst hx;clear ha;go_enter (fq Tryz.func47 rfl),ow;go_upto_region 3 with fail;go_wp2_with (first|(at_builtin;rw[<-hW];refine kT _ rfl (cN 5) (cN 6) 26 rfl 9 i0 1 (uq py) z.out.1 z.out.2.2.1 ↑w 0 0 0 rfl a 0 cap [] rfl rfl (by intro j u hj;simp at hj) (by intro u hu;simp at hu) aA (by intro j hj;simp at hj) (by intro j;exact aQ z.out.2.2.2.2.1.o j) ?_)|go_in)
   go_ret;subst hW;exact⟨M ⟨↑w,0,Z⟩,0,rfl,z.out.2.2.2.2.1.r,λq hq=>by cases hq;exact jB,z.out.2.2.2.2.1.b⟩
  .obtain rfl:=ha aA;clear ha;go_enter (fq Tryz.func47 rfl),ow;go_upto_region 3 with fail;go_wp2_with (first|(at_builtin;rw[<-hW];refine kX _ rfl (cN 5) (cN 6) 26 rfl 9 i0 _ 1 16 (uq py) z.out.1 z.out.2.1 z.out.2.2.1 z.out.2.2.2.1 rfl aB _ 0 [] rfl z.out.2.2.2.2.1.r ⟨g,off,Z⟩ n cap xs rfl aA z.out.2.2.2.2.1.l (z.out.2.2.2.2.1.c aA) z.out.2.2.2.2.2 (by unfold maxLen;omega) aA ?_;intro g5 ah ai w5 I J;have ae:cH _:=jy I J;clear I J)|go_in)
   go_ret;have:=z.out.2.2.2.2.1.fin ae.out.1 ae.out.2;simpa using this
def VN(w:U)(n k:Nat):(binOp .eql 44 (aH Z n k) (aH Z 0 0)).run PQ w=.ok (cK aR) w:=XN
def UF(w:U)(a:eM)(n k:Nat):(binOp .eql 44 (aH (M a) n k) (aH Z 0 0)).run PQ w=.ok (cK aL) w:=XN
def rF:(PQ.info? 52).map (λi=>(i.zero,i.size,i.bytes))=M (M (fX #[N ab 0,N ab 0,N ab 0,N ab 0,N ab 0,aH Z 0 0,aH Z 0 0,N ab 0]),8,96):=XN
def Y9(v:X)(n:Nat){xs:List X}(w:U)(h:Rd w 8 v n xs)(h1:∀u,u∈xs->u.oneCell'=aR)(hl:n<=4294967296):dE PQ 46 #[v] w (XF w 52 8 n xs):=by
 obtain⟨a,cap,rfl⟩:=h.slice;cases a with
 |none=>
  obtain⟨h2,a',ag,hv,hc,hp⟩:=h;cases hv;obtain rfl:n=0:=om λe=>by obtain⟨g,off,ha,_⟩:=hp e;cases ha
  obtain rfl:xs=[]:=bP aA;have af:=VN;clear h2 hc hp h1 hl;go_enter (fq Tryz.func46 rfl),Tryz.ntmps46;go_wp2_with fail;go_ret;exact He
 |some a=>
  obtain⟨i0,Y,R,aa,ac⟩:=pa rF;obtain⟨W,hW,hb,ho⟩:=jD w #[] 52;obtain⟨g,off,ha,hS⟩:=NY.of hb ho h;have z:cH _:=jy Y (jy R (jy aa (jy ac (jy hS h1))));have af:=UF;clear hb ho Y R aa ac h h1 hS;by_cases hn:n=0
  .subst hn;have hx:xs=[]:=bP (by rw[z.out.2.2.2.2.1.l]);subst hx;clear ha;go_enter (fq Tryz.func46 rfl),Tryz.ntmps46;go_upto_region 3 with fail;go_wp2_with (first|(at_builtin;rw[<-hW];refine kT _ rfl (cN 5) (cN 6) 44 rfl 52 i0 8 (uq lh) z.out.1 z.out.2.2.1 ↑w 0 0 0 rfl a 0 cap [] rfl rfl (by intro j u hj;simp at hj) (by intro u hu;simp at hu) aA (by intro j hj;simp at hj) (by intro j;exact aQ z.out.2.2.2.2.1.o j) ?_)|go_in)
   go_ret;subst hW;exact⟨M ⟨↑w,0,Z⟩,0,rfl,z.out.2.2.2.2.1.r,λq hq=>by cases hq;exact jB,z.out.2.2.2.2.1.b⟩
  .obtain rfl:=ha aA;clear ha;go_enter (fq Tryz.func46 rfl),Tryz.ntmps46;go_upto_region 3 with fail;go_wp2_with (first|(at_builtin;rw[<-hW];refine kX _ rfl (cN 5) (cN 6) 44 rfl 52 i0 _ 8 96 (uq lh) z.out.1 z.out.2.1 z.out.2.2.1 z.out.2.2.2.1 rfl aB _ 0 [] rfl z.out.2.2.2.2.1.r ⟨g,off,Z⟩ n cap xs rfl aA z.out.2.2.2.2.1.l (z.out.2.2.2.2.1.c aA) z.out.2.2.2.2.2 (by unfold maxLen;omega) aA ?_;intro g5 ah ai w5 I J;have ae:cH _:=jy I J;clear I J)|go_in)
   go_ret;have:=z.out.2.2.2.2.1.fin ae.out.1 ae.out.2;simpa using this
end
open Dv (Lo)
section
variable {w w':U}{v:X}
def Row.short{e s n:Nat}{xs:List X}(h:Row w e s v n xs):n<=9223372036854775807:=by
 obtain⟨_,h⟩|⟨g,off,cap,z,_,_,E,h2,_⟩:=h.2
 .omega
 .have:maxLen=9223372036854775807:=rfl;omega
def IE(w:U)(p:PL):Prop:=kQ w p.2.1 p.1.txs/\kQ w p.2.2 p.1.deps
def IE.below{p:PL}(h:IE w p)(z:Below ↑w w w'):IE w' p:=⟨Row.below h.1 z,Row.below h.2 z⟩
def pz(w:U)(v:X)(ps:List PL):Prop:=Rd w 8 v ps.length (ps.flatMap jJ)/\∀p,p∈ps->IE w p
def pz.below{ps:List PL}(h:pz w v ps)(z:Below ↑w w w'):pz w' v ps:=⟨h.1.below z,λp hp=>(h.2 p hp).below z⟩
def pz.cells{w:U}{g off cap:Nat}{ps:List PL}(h:pz w (aH (M ⟨g,off,Z⟩) ps.length cap) ps){i:Nat}{p:PL}(R:ps[i]? =M p):∃I n1 z J n2 E,p.2.1=.slice I n1 z/\p.2.2=.slice J n2 E/\w.cell? ⟨g,off+i*8,Z⟩=M (N ab p.1.number)/\w.cell? ⟨g,off+i*8+1,Z⟩=M (N ab p.1.time)/\w.cell? ⟨g,off+i*8+2,Z⟩=M (N ab p.1.epoch)/\w.cell? ⟨g,off+i*8+3,Z⟩=M (N ab p.1.id)/\w.cell? ⟨g,off+i*8+4,Z⟩=M (N ab p.1.seq)/\w.cell? ⟨g,off+i*8+5,Z⟩=M (.slice I n1 z)/\w.cell? ⟨g,off+i*8+6,Z⟩=M (.slice J n2 E)/\w.cell? ⟨g,off+i*8+7,Z⟩=M (N ab p.1.at_):=by
 obtain⟨I,z,e1⟩:=Row.slice (h.2 p (aX R)).1;obtain⟨J,E,e2⟩:=Row.slice (h.2 p (aX R)).2;have k:=λ(j:Nat) u (hj:j<8) (hu:(jJ p)[j]? =M u)=>Rd.rec jJ 8 (λ_=>rfl) h.1 R hj hu;have Y:=k 5 _ aA rfl;have k6:=k 6 _ aA rfl;rw[e1]at Y;rw[e2]at k6;exact⟨I,_,z,J,_,E,e1,e2,k 0 _ aA rfl,k 1 _ aA rfl,k 2 _ aA rfl,k 3 _ aA rfl,k 4 _ aA rfl,Y,k6,k 7 _ aA rfl⟩
end
section
section
variable {P:Program}{w:U}{E s n g off cap:Nat}{xs:List X}
def BM(t e ty:cG)(z:X)(ht:P.underlying t=M (.slice e))(hv:∀w,(zeroValue e).run P w=.ok z w)(hz:z.cells.size=s)(Y:∀v,v∈z.cells->v.oneCell'=aR)(b o n c:Nat)(hn:0<n)(hc:∀j,j<n*s->(w.cell? ⟨b,o+j,Z⟩).isSome=aR)(hf:∀j,w.frozen? ⟨b,j,Z⟩=aL):∃vs,vs.length=n*s/\(Builtin.clear_ #[t] ty #[aH (M ⟨b,o,Z⟩) n c]).run P w=.ok (cQ #[]) (w.setCells b o vs):=by
 have R:(ma z.cells n).toList.length=n*s:=by simp[ma,hz]
 refine⟨(ma z.cells n).toList,R,?_⟩
 have I:=run_storeCells_cells (P:=P) b o (ma z.cells n).toList 0 w (by rw[R];simpa using hc) (λj _=>hf _) (λv J=>by
  simp only[ma,Array.toList_map,bM]at J;obtain⟨i,_,rfl⟩:=J;by_cases hs:z.cells.size=0
  .rw[Array.getElem!_eq_getD,fD,Array.getElem?_eq_none aA];rfl
  .have:i%z.cells.size<z.cells.size:=Nat.mod_lt _ aA;rw[getElem!_pos z.cells _ this];exact Y _ (Array.getElem_mem this))
 simp only[pN]at I;obtain⟨m,rfl⟩:∃m,n=m+1:=⟨n-1,aA⟩
 simp[Builtin.clear_,eJ ht,hv,I]
def Row.behind(h:Row w E s (aH (M ⟨g,off,Z⟩) n cap) n xs)(vs:List X):Row (w.setCells g (off+n*s) vs) E s (aH (M ⟨g,off,Z⟩) n cap) n xs:=by
 obtain⟨Y,h⟩:=h;refine⟨Y,?_⟩;obtain⟨e,_⟩|⟨g',I,J,aa,e,hh,h1,h2,h3,h4⟩:=h
 .cases e
 .cases e;obtain⟨z,q1,q2,q3,_⟩:=oK vs (off+n*s) hh;refine cD ⟨g,off,cap,z,rfl,q1,h1,h2,by rw[q2];exact h3,λj u R=>?_⟩;have:=(aN.1 R).1;rw[q3 _ (bE aA)];exact h4 j u R
def Row.room(h:Row w E s (aH (M ⟨g,off,Z⟩) n cap) n xs){j:Nat}(Y:j<cap*s):(w.cell? ⟨g,off+j,Z⟩).isSome=aR:=by
 obtain⟨e,_⟩|⟨g',z,I,J,e,R,h1,h2,h3,h4⟩:=h.2
 .cases e
 .cases e;rw[aI R,dA aA];rfl
def Row.moved(h:Row w E s (aH (M ⟨g,off,Z⟩) n cap) n xs){j:Nat}(hj:j<=n):Row (w.setCells g off (xs.drop (j*s))) E s (aH (M ⟨g,off,Z⟩) (n-j) cap) (n-j) (xs.drop (j*s)):=by
 obtain⟨h0,h⟩:=h;have R:(xs.drop (j*s)).length=(n-j)*s:=by rw[dW,h0,Nat.sub_mul]
 refine⟨R,?_⟩;obtain⟨e,_⟩|⟨g',I,J,aa,e,hh,h1,h2,h3,h4⟩:=h
 .cases e
 .cases e;obtain⟨z,q1,q2,_,q4⟩:=oK (xs.drop (j*s)) off hh;refine cD ⟨g,off,cap,z,rfl,q1,aA,h2,by rw[q2];exact h3,λi u Y=>q4 i u Y ?_⟩;have:=(aN.1 Y).1;have:n*s<=cap*s:=fK _ h1;rw[R,Nat.sub_mul]at *;omega
end
def ae1(w:U):(zeroValue 52).run PQ w=.ok (fX #[N ab 0,N ab 0,N ab 0,N ab 0,N ab 0,aH Z 0 0,aH Z 0 0,N ab 0]) w:=(BL Tryz.zeroValue52) w
def aeQ(w:U)(v:X)(n j:Nat)(xs:List X)(e:pm)(w':U):Prop:=∃a cap,e=bO (.slice a (n-j) cap)/\Row w' 52 8 (.slice a (n-j) cap) (n-j) (xs.drop (j*8))/\(aH a (n-j) cap).ownBlock=v.ownBlock/\jI (λk=>v.ownBlock=M k) w w'
def adp{v:X}{n:Nat}(j:Nat){xs:List X}(w:U)(h:Row w 52 8 v n xs)(h1:∀u,u∈xs->u.oneCell'=aR)(hj:j<=n)(hn:n<=4294967296):dE PQ 39 #[v,N ab 0,N ab j] w (aeQ w v n j xs):=by
 obtain rfl|aq:=gQ j
 .obtain⟨a,cap,rfl⟩:=h.slice
  have hc:n<=cap:=by
   obtain⟨_,a',c',e,hc,_⟩:=h.rd;cases e;exact hc
  have ag:(n:Int)<=cap:=aA
  have H:cH _:=h;clear h h1;go_enter (fq Tryz.func39 rfl),Tryz.ntmps39;go_wp2_with fail;go_ret;exact⟨a,cap,rfl,by rw[Nat.zero_mul,List.drop_zero];exact H.out,rfl,.refl _ _⟩
 .obtain⟨g,off,cap,rfl,hc⟩:=h.pos aA;have ag:(n:Int)<=cap:=by omega
  have ai:(0:Int)<j:=aA
  have ar:(j:Int)<=n:=aA
  have au:(j:Int)<=cap:=aA
  have aj:((0:Int) == (j:Int))=aL:=ZS aA;have ap:¬(0=j):=aA
  obtain⟨i0,J,aa,R,ac⟩:=pa rF;obtain⟨m,hm⟩:∃m,n-j=m:=⟨_,rfl⟩
  have am:(n:Int)-j=m:=aA
  have hdl:(xs.drop (j*8)).length=m*8:=by rw[dW,h.1];omega
  have z:∀i u,(xs.drop (j*8))[i]? =M u->w.cell? ⟨g,off+j*8+i,Z⟩=M u:=λi u I=>by
   rw[iV]at I;have:=h.cell rfl _ _ I;rw[<-dV]at this;exact this
  have H:cH _:=jy h (jy h1 (jy hdl (jy z (jy J R))));have af:=h.frozen rfl
  have H2:cH (∀i u,(xs.drop (j*8))[i]? =M u->w.drew.cell? ((⟨g,off+j*8,Z⟩:eM).add i)=M u):=λi u I=>by
   have:w.drew.cell? ⟨g,off+j*8+i,Z⟩=M u:=z i u I;unfold jp;split
   .rename_i h0;subst h0;exact this
   .exact this
  have H3:cH (∀i,i<(xs.drop (j*8)).length->(w.drew.cell? ⟨g,off+0*8+i,Z⟩).isSome=aR/\w.drew.frozen? ⟨g,off+0*8+i,Z⟩=aL):=λi I=>by
   rw[Nat.zero_mul,pN];exact⟨h.there aA,af _⟩
  unfold aeQ;rw[hm];clear h h1 hdl z J aa R ac;go_enter (fq Tryz.func39 rfl),Tryz.ntmps39;go_upto_region 5 with fail;go_cut [0] (λv wx=>v=aH (M ⟨g,off,Z⟩) m cap/\cH (Row wx 52 8 (aH (M ⟨g,off,Z⟩) m cap) m (xs.drop (j*8))/\jI (λk=>k=g) w wx))
  case first=>
   by_cases ae:cap=j
   .obtain rfl:m=0:=by omega
    obtain rfl:j=n:=aA
    obtain rfl:cap=j:=ae;have hx:xs.drop (cap*8)=[]:=bP (by rw[H.out.2.2.1]);go_region_law ((refine step_append_room (by rfl) (cN 22) (cN 25) 44 (by rfl) 52 i0 8 (uq lh) H.out.2.2.2.2.1 H.out.2.2.2.2.2 g off 0 cap (by rfl) ⟨g,off,Z⟩ 0 0 [] (by rfl) (by rfl) (λi u I=>by simp at I) (λu hu=>by simp at hu) aA (λi I=>by simp at I) ?_))
    all_goals
     go_wp2_with fail;go_meet;have Y:=(H.out.1.kept (w':=w.drew) λ_ _=>rfl).moved (Nat.le_refl cap);rw[hx,Nat.sub_self]at Y;rw[hx];exact⟨rfl,Y,.drew _ w⟩
   .go_region_law ((refine step_append_room (by rfl) (cN 22) (cN 25) 44 (by rfl) 52 i0 8 (uq lh) H.out.2.2.2.2.1 H.out.2.2.2.2.2 g off 0 cap (by rfl) ⟨g,off+j*8,Z⟩ m (cap-j) (xs.drop (j*8)) (by rfl) H.out.2.2.1 H2.out (λu hu=>H.out.2.1 u (je hu)) aA H3.out ?_))
    all_goals
     go_wp2_with fail;go_meet;have Y:=(H.out.1.kept (w':=w.drew) λ_ _=>rfl).moved hj;rw[hm]at Y;exact⟨rfl,Y,(jI.drew _ w).trans (.grown (kH g _ off w.drew).1) λk _ e=>by simpa using e.symm⟩
  case rest=>
   obtain⟨rfl,HC⟩:=hcut;have ao:¬(cap=m):=aA
   have an:(m:Int)<=n:=aA
   have ak:(m:Int)<=cap:=aA
   obtain⟨vs,-,ah⟩:=BM (P:=PQ) (w:=wc) (s:=8) 44 52 0 _ (uq lh) ae1 rfl (by simp[Value.cells,Value.oneCell']) g (off+m*8) (n-m) (cap-m) aA (λi I=>by have:=HC.out.1.room (j:=m*8+i) aA;rw[<-dV]at this;exact this) (HC.out.1.frozen rfl);go_wp2_with fail;go_ret;exact⟨_,cap,rfl,HC.out.1.behind vs,rfl,(HC.out.2.trans (.grown (kH g _ _ wc).1) λk _ e=>by simpa using e.symm).mono λk _ e=>by rw[e];rfl⟩
end
section
section
variable {P:Program}{w:U}{ops:Array ij}{o:ij}{a:Act}{K:Act->U->Prop}{Q:p9->Act->U->Prop}{E:Prop}
def yI(hg:o.guard=Z)(s x:jN)(t:cG)(af:o.op=.call { callee:=.builtin .append,args:=#[s,x],argTypes:=#[t,t] })
  (e:cG) (i:TypeInfo) {z:X} (size bytes:Nat) (ht:P.underlying t=M (.slice e)) (hi:P.info? e=M i) (hz:i.zero=M z)
  (R:i.size=size) (ai:i.bytes=bytes) (aj:z.cells.size=size) (ah:0<size)
  {v:X} (n:Nat) {xs:List X} (hs:a.eval s=v) (J:Row w e size v n xs)
  (ax:Option eM) (m c:Nat) {I:List X} (hx:a.eval x=.slice ax m c) (hl:I.length=m*size) (ac:0<m->∃ad,ax=M ad/\∀j u,I[j]? =M u->w.cell? (ad.add j)=M u) (h1:∀u∈I,u.oneCell'=aR)
  (ag:n+m<=maxLen) (aa:(n+m)*bytes<=140737488355328)
  (h:∀a' Y w',Row w' e size (.slice a' (n+m) Y) (n+m) (xs++I)->jI (λk=>v.ownBlock=M k) w w'->(∀g,(aH a' (n+m) Y).ownBlock=M g->v.ownBlock=M g\/w.heap.size<=g)->K (a.put o.dst (.slice a' (n+m) Y)) w'):
  if cP o (yielded ops a.tmps)=aR then Oper.wp P o a w K Q else E:=by
 by_cases hm:0<m
 .obtain⟨ad,rfl,hn⟩:=ac hm;exact pG hg s x t af e i z size bytes ht hi hz R ai aj ah v n xs hs J ad m c I hx hm hl hn h1 ag aa λg off cap w' r q=>h _ _ _ r q.jM λg' e=>by cases e;exact q.own
 .obtain rfl:m=0:=by omega
  obtain rfl:I=[]:=bP aA;have hw:cP o (yielded ops a.tmps)=aR:=by simp[cP,hg]
  rw[ZD hw];obtain⟨b,cap,rfl⟩:=J.slice
  have hc:n<=cap:=by
   obtain⟨_,a',c',e,hc,_⟩:=J.rd;cases e;exact hc
  have hr:(jb #[t,t] o.type #[.slice b n cap,.slice ax 0 c]).run P w=.ok (.slice b n cap) w:=by
   have ae:(sizeOf e).run P w=.ok size w:=by rw[<-R];simp[sizeOf,typeInfo,hi]
   cases b<;>cases ax<;>simp[jb,eJ ht,ae,hc,pv,oo,storeCells,loadCells,loadCellsFrom]
  have:=h b cap w (by rw[gI];exact J) (.refl _ _) λg e=>bE e;unfold Oper.wp;simp[bN,af,resolve,invoke,builtin,hs,hx,hr,Result.andThen];exact this
end
structure Vw where
 vb:Nat
 vs:X
 seen:List Int
 kb:Nat
 vl:X
 log:List PL
 vc:X
 com:List PL
def Vw.cells(v:Vw):Array X:=#[v.vs,aD (M ⟨v.kb,0,Z⟩),v.vl,v.vc]
structure lF(w:U)(v:Vw):Prop where
 obj:w.heap[v.vb]? =M (aG v.cells 73 (0,0))
 seen:Row w 3 1 v.vs v.seen.length (v.seen.map λi=>N ab i)
 log:Row w 52 8 v.vl v.log.length (v.log.flatMap jJ)
 com:Row w 52 8 v.vc v.com.length (v.com.flatMap jJ)
 lor:∀p,p∈v.log++v.com->IE w p
 ne:∀g,v.vl.ownBlock=M g->v.vc.ownBlock≠M g
 few:v.log.length+v.com.length<=4294967296
def VL(v:Vw)(k:Nat):Prop:=k=v.vb\/v.vl.ownBlock=M k\/v.vc.ownBlock=M k
def VO(v:Vw)(k:Nat):Prop:=VL v k\/v.vs.ownBlock=M k
def Qa{l:List PL}{w:U}(h:∀p,p∈l->IE w p):∀u,u∈l.flatMap jJ->u.oneCell'=aR:=λu z=>by
 obtain⟨p,hp,z⟩:=p7.1 z;obtain⟨Y,c1,I⟩:=Row.slice (h p hp).1;obtain⟨a2,R,J⟩:=Row.slice (h p hp).2;simp only[jJ,I,J,dD,mR,or_false]at z;rcases z with rfl|rfl|rfl|rfl|rfl|rfl|rfl|rfl<;>rfl
section
variable {w w':U}{v:Vw}
def lF.types(h:lF w v){k:Nat}{cs:Array X}{t:cG}{I:Nat×Nat}(hk:VO v k)(hc:w.heap[k]? =M (aG cs t I)):t=73\/t=52\/t=3:=by
 have key:∀{E s n:Nat}{u:X}{xs:List X},Row w E s u n xs->u.ownBlock=M k->t=E:=λJ e=>by
  obtain⟨c,z⟩:=J.obj e;rw[z]at hc;simp at hc;exact hc.2.1.symm
 obtain(rfl|e|e)|e:=hk
 .rw[h.obj]at hc;simp at hc;exact bE hc.2.1.symm
 .exact cD (bE (key h.log e))
 .exact cD (bE (key h.com e))
 .exact cD (cD (key h.seen e))
def lF.lt(h:lF w v){k:Nat}(hk:VO v k):k<↑w:=by
 obtain(rfl|e|e)|e:=hk
 .exact(jE h.obj)
 .exact h.log.lt e
 .exact h.com.lt e
 .exact h.seen.lt e
def lF.ro(h:lF w v)(hc:jI (VO v) w w'):Ro w w':=.jM hc λk cs t z hk e=>by
 rcases h.types hk e with rfl|rfl|rfl<;>exact⟨aB,aB⟩
def IE.ro{p:PL}(h:IE w p)(z:Ro w w'):IE w' p:=⟨Row.ro h.1 (cD rfl) z,Row.ro h.2 (cD rfl) z⟩
def lF.kept(h:lF w v)(hk:∀k,VO v k->w'.heap[k]? =w.heap[k]?)(z:Ro w w'):lF w' v:=
 ⟨(hk _ (bE (bE rfl))).trans h.obj,h.seen.kept λg e=>hk g (cD e),h.log.kept λg e=>hk g (bE (cD (bE e))),h.com.kept λg e=>hk g (bE (cD (cD e))),λp hp=>(h.lor p hp).ro z,h.ne,h.few⟩
def lF.below(h:lF w v)(z:Below ↑w w w'):lF w' v:=h.kept (λk hk=>z.block k (h.lt hk)) λg _ _ _ hc _=>z.block g (jE hc)
def lF.apart(h:lF w v):v.vs.ownBlock≠M v.vb/\v.vl.ownBlock≠M v.vb/\v.vc.ownBlock≠M v.vb:=by
 have key:∀{E s n:Nat}{u:X}{xs:List X},Row w E s u n xs->E≠73->u.ownBlock≠M v.vb:=λJ I e=>by
  obtain⟨c,z⟩:=J.obj e;rw[h.obj]at z;simp at z;exact I z.2.symm
 exact⟨key h.seen aB,key h.log aB,key h.com aB⟩
end
def Xj(w:U)(v:Vw)(n:Nat)(w':U):Prop:=∃vl vc,lF w' { v with vl:=vl,log:=v.log++v.com.take n,vc:=vc,com:=v.com.drop n }/\jI (VL v) w w'/\(∀g,vl.ownBlock=M g->v.vl.ownBlock=M g\/w.heap.size<=g)/\vc.ownBlock=v.vc.ownBlock
structure VH(w:U)(v:Vw)(n:Nat)(vl:X)(wx:U):Prop where
 obj:wx.heap[v.vb]? =M (aG #[v.vs,aD (M ⟨v.kb,0,Z⟩),vl,v.vc] 73 (0,0))
 log:Row wx 52 8 vl (v.log.length+n) (v.log.flatMap jJ++(v.com.take n).flatMap jJ)
 com:Row wx 52 8 v.vc v.com.length (v.com.flatMap jJ)
 jM:jI (VL v) w wx
 own:∀g,vl.ownBlock=M g->v.vl.ownBlock=M g\/w.heap.size<=g
def Dk(v:Vw)(n:Nat)(w:U)(h:lF w v)(hn:n<=v.com.length):dE PQ 23 #[aD (M ⟨v.vb,0,Z⟩),N ab n] w λe w'=>e=bO (cQ #[])/\Xj w v n w':=by
 obtain⟨va,vcap,hvl⟩:=h.log.slice;obtain⟨ca,cc,hvc⟩:=h.com.slice;obtain⟨c0,c1,c2,c3⟩:=cells4 h.obj;have fz:=aQ h.obj;rw[hvl]at c2;rw[hvc]at c3
 have hcc:v.com.length<=cc:=by
  obtain⟨_,a',c',e,hc,_⟩:=h.com.rd;rw[hvc]at e;cases e;exact hc
 have hc1:(n:Int)<=cc:=aA
 obtain⟨i0,hi0,hz0,hz1,hz2⟩:=pa rF;have hrow:Row w.drew 52 8 (.slice va v.log.length vcap) v.log.length (v.log.flatMap jJ):=by rw[<-hvl];exact h.log.kept λ_ _=>rfl
 have hnl:((v.com.take n).flatMap jJ).length=n*8:=by rw[mQ jJ 8 (λ_=>rfl),bK,fZ hn]
 have hnews:0<n->∃ad,ca=M ad/\∀j u,((v.com.take n).flatMap jJ)[j]? =M u->w.drew.cell? (ad.add j)=M u:=λhp=>by
  obtain⟨g,off,cap,e,_⟩:=h.com.pos aA;rw[hvc]at e;cases e;refine⟨_,rfl,λj u hj=>?_⟩
  have:(v.com.flatMap jJ)[j]? =M u:=by
   rw[<-oy n v.com,iw,bZ (aN.1 hj).1];exact hj
  have:=h.com.cell hvc j u this;unfold jp;split
  .rename_i h0;subst h0;exact this
  .exact this
 have hone:=Qa (l:=v.com.take n) λp hp=>h.lor p (oR _ (jd hp));have H:cH _:=jy h (jy hrow (jy hnl (jy hnews (jy hone (jy hi0 (jy hz0 (jy hz1 hz2)))))));have hfew:=h.few;have HV:cH _:=jy hvl hvc;clear h hrow hnl hnews hone hi0 hz0 hz1 hz2 hvl hvc;go_enter (fq Tryz.func23 rfl),Tryz.ntmps23;go_upto_region 0 with fail;go_cut [15] (λvl wx=>cH (VH w v n vl wx))
 case first=>
  go_region_law ((refine yI (by rfl) (cN 8) (cN 14) 44 (by rfl) 52 i0 8 96 (uq lh) H.out.2.2.2.2.2.1 H.out.2.2.2.2.2.2.1 H.out.2.2.2.2.2.2.2.1 H.out.2.2.2.2.2.2.2.2 (by rfl) aB v.log.length (by rfl) H.out.2.1 ca n cc (by rfl) H.out.2.2.1 H.out.2.2.2.1 H.out.2.2.2.2.1 (by unfold maxLen;omega) aA ?_;intro a' cap' w4 hr4 hc4 ho4;have hk4:=(hc4.block v.vb (jE H.out.1.obj) (λe=>H.out.1.apart.2.1 (by rw[HV.out.1];exact e))).trans H.out.1.obj;have f4:=aQ hk4;obtain⟨d0,d1,d2,d3⟩:=cells4 hk4;have H4:cH _:=jy hr4 (jy hc4 (jy ho4 hk4));clear hr4 hc4 ho4 hk4))
  all_goals
   go_wp2_with fail;go_meet;obtain⟨h1,h2,h3⟩:=H.out.1.apart;have hvb:=(jE H.out.1.obj)
   rw[<-HV.out.1]at H4;have hc:jI (VL v) w (w4.setCell ⟨v.vb,2,Z⟩ (.slice a' (v.log.length+n) cap')):=((jI.drew _ w).trans H4.out.2.1 λk _ e=>cD (bE e)).trans (.set w4 v.vb 2 _) λk _ e=>bE e;refine⟨by rw[rj H4.out.2.2.2];rfl,H4.out.1.jM (.set w4 v.vb 2 _) λg hg e=>?_,(H.out.1.com.jM ((jI.drew _ w).trans H4.out.2.1 λ_ _ e=>e) λg hg e=>H.out.1.ne g e hg).jM (.set w4 v.vb 2 _) λg hg e=>h3 (by rw[hg,e]),hc,H4.out.2.2.1⟩;obtain e'|e':=H4.out.2.2.1 g hg
   .exact h2 (by rw[e',e])
   .exact Xs e' (by show ¬↑w<=g;omega)
 case rest=>
  have HX:=hcut;clear hcut c0 c1 c2 c3 fz;obtain⟨c0,c1,c2,c3⟩:=cells4 HX.out.obj;have hD:=adp n wc HX.out.com (Qa (l:=v.com) λp hp=>H.out.1.lor p (oR _ hp)) hn aA;have HD:cH _:=λ(_:Unit)=>hD;clear hD;go_wp2_with (go_at_call 39;refine aT (HD.out ()) ?_;rintro e w5 ⟨a5,cap5,rfl,hr5,ho5,hc5⟩;have hk5:=(hc5.block v.vb (jE HX.out.obj) (λe=>H.out.1.apart.2.2 e)).trans HX.out.obj;have f5:=aQ hk5;obtain⟨d0,d1,d2,d3⟩:=cells4 hk5;have H5:cH _:=jy hr5 (jy ho5 (jy hc5 hk5));clear hr5 ho5 hc5 hk5)
  go_end0;obtain⟨h1,h2,h3⟩:=H.out.1.apart;have hs:=jI.set w5 v.vb 3 (.slice a5 (v.com.length-n) cap5);have hc:jI (VL v) w (w5.setCell ⟨v.vb,3,Z⟩ (.slice a5 (v.com.length-n) cap5)):=(HX.out.jM.trans H5.out.2.2.1 λk _ e=>cD (cD e)).trans hs λk _ e=>bE e;have hr:=H.out.1.ro (hc.mono λk _ e=>bE e)
  have hlog:∀g,(u15:X).ownBlock=M g->v.vc.ownBlock≠M g/\g≠v.vb:=λg hg=>by
   have hvb:=(jE H.out.1.obj)
   obtain e|e:=HX.out.own g hg
   .exact⟨H.out.1.ne g e,λe'=>h2 (by rw[e,e'])⟩
   .exact⟨λe'=>by have:=H.out.1.com.lt e';omega,aA⟩
  refine⟨rfl,u15,.slice a5 (v.com.length-n) cap5,⟨?_,?_,?_,?_,λp hp=>(H.out.1.lor p ?_).ro hr,λg hg=>by rw[H5.out.2.1];exact(hlog g hg).1,?_⟩,hc,HX.out.own,H5.out.2.1⟩
  .rw[rj H5.out.2.2.2];rfl
  .exact H.out.1.seen.jM hc λg hg e=>by
    obtain⟨c,hc⟩:=H.out.1.seen.obj hg
    have key:∀{u:X}{m:Nat}{ys:List X},Row w 52 8 u m ys->u.ownBlock≠M g:=λhr e=>by
     obtain⟨c',hc'⟩:=hr.obj e;rw[hc]at hc';simp at hc'
    obtain rfl|e|e:=e
    .exact h1 hg
    .exact key H.out.1.log e
    .exact key H.out.1.com e
  .have:=(HX.out.log.jM H5.out.2.2.1 λg hg=>(hlog g hg).1).jM hs λg hg=>(hlog g hg).2;simpa[iw,fZ hn]using this
  .have:=H5.out.1.jM hs λg hg e=>h3 (by rw[<-H5.out.2.1,hg,e])
   have e:(v.com.drop n).flatMap jJ=(v.com.flatMap jJ).drop (n*8):=by
    have h1:v.com.flatMap jJ=(v.com.take n).flatMap jJ++(v.com.drop n).flatMap jJ:=by rw[<-iw,oy]
    rw[h1,<-H.out.2.2.1,List.drop_left]
   simpa[e]using this
  .dsimp only at hp;rw[fM,oy]at hp;exact hp
  .simp only[aS,bK,dW];omega
end
open Dv (Lo Cf)
def tK(c:Cf)(w:U):U:=((((w.alloc (aG (jF c) 24)).alloc (aG (jF c) 24)).alloc (.map #[] 0)).alloc (aG (jP c (aH Z 0 0) (w.heap.size+2) (aH Z 0 0) (aH Z 0 0) 0 0 0) 100)).alloc (aG #[aH Z 0 0,aD (M ⟨w.heap.size+3,0,Z⟩),aH Z 0 0,aH Z 0 0] 73)
def zZ(c:Cf)(w:U):dE PQ 20 #[.agg (jF c)] w λe w'=>e=bO (aD (M ⟨w.heap.size+4,0,Z⟩))/\w'=tK c w:=by
 obtain⟨W,z,-,I⟩:=jD w (jF c) 24;have hC:=new_any c W;have hs:↑W=w.heap.size+1:=by rw[z];simp
 rw[hs]at hC;have J:cH _:=λ(_:Unit)=>hC;have Y:cH _:=jy z hs;unfold jF at I J z⊢;obtain⟨z0,z1,z2,z3,z4,z5,z6⟩:=Dn I;clear hC I hs;go_enter (fq Tryz.func20 rfl),Tryz.ntmps20;go_upto_region 1 with fail;rw[<-z];clear z;go_wp2_with (go_at_call 30;refine aT (J.out ()) ?_;rintro e w1 ⟨rfl,E⟩;have R:cH _:=E;clear E)
 go_ret;have E:=R.out;obtain⟨z,hs⟩:=Y.out;have h2:↑w1=w.heap.size+4:=by rw[E];simp[hs]
 refine⟨?_,?_⟩
 .show Ending.returned (aD (M ⟨↑w1,0,Z⟩))=_
  rw[h2]
 .rw[E,z];rfl
def SB(v:Vw)(w:U)(h:lF w v)(z:v.seen.length<=4294967296):dE PQ 43 #[aD (M ⟨v.vb,0,Z⟩)] w λe w'=>e=bO (N ab ((v.seen.length:Int)-1))/\w'=w:=by obtain⟨a,cap,hs⟩:=h.seen.slice;have c0:=kJ h.obj;rw[hs]at c0;clear h hs;go_enter (fq Tryz.func43 rfl),Tryz.ntmps43;go_wp2_with fail;go_ret;exact⟨rfl,rfl⟩
def KG(v:Vw)(a:Option eM)(n cap:Nat)(w:U)(h:lF w v):dE PQ 64 #[aD (M ⟨v.vb,0,Z⟩),.slice a n cap] w λe w'=>e=bO (cK (decide (v.com.length=0/\v.log.length<n)))/\w'=w:=by
 obtain⟨la,Y,E⟩:=h.log.slice;obtain⟨ca,cc,hc⟩:=h.com.slice;obtain⟨-,-,I,J⟩:=cells4 h.obj;rw[E]at I;rw[hc]at J;clear h E hc;generalize v.com.length=x at *;generalize v.log.length=y at *;go_enter (fq Tryz.func64 rfl),Tryz.ntmps64;by_cases z:x=0
 .subst z;go_wp2_with fail;go_ret;exact⟨aC,rfl⟩
 .have R:((x:Int) == (0:Int))=aL:=ZS aA;go_wp2_with fail;go_ret;exact⟨by simp[z],rfl⟩
section
variable {ps:List PL}
section
variable {α:Type}(f:α->List X)(s:Nat)(hf:∀x,(f x).length=s)
include hf
def Me:∀(l:List α)(i j:Nat)(x y:α)(u:X),l[i]? =M x->j<s->f y=(f x).set j u->(l.flatMap f).set (i*s+j) u=(l.set i y).flatMap f
 |[],i,j,x,y,u,h,_,_=>by simp at h
 |z::l,0,j,x,y,u,h,hj,hy=>by
  simp at h;subst h;rw[gY,Nat.zero_mul,fJ,List.set_append_left _ _ (by rw[hf];exact hj),dO,gY,hy]
 |z::l,i+1,j,x,y,u,h,hj,hy=>by
  rw[gY,List.set_append_right _ _ (by rw[hf,iP];omega),hf,show(i+1)*s+j-s=i*s+j by rw[iP];omega,Me l i j x y u (by simpa using h) hj hy,dP,gY]
end
def map_set{i:Nat}{p q:PL}(h:ps[i]? =M p)(e:q.1=p.1):(ps.set i q).map cI=ps.map cI:=by rw[List.map_set,e];obtain⟨z,rfl⟩:=aN.1 h;have:(ps.map cI).set i ((ps.map cI)[i]'(by simpa using z))=ps.map cI:=List.set_getElem_self _;simpa using this
structure LI2(w:U)(va:X)(ls:List Lo)(ps:List PL)(wx:U):Prop where
 row:Row wx 52 8 va ps.length (ps.flatMap jJ)
 fst:ps.map cI=ls
 lor:∀p,p∈ps->IE wx p
 low:∀g,va.ownBlock=M g->w.heap.size<=g
 b:Below ↑w w wx
def LI2.put{w J w1:U}{g off cap n j i:Nat}{ls:List Lo}{p q:PL}{u:X}(h:LI2 w (aH (M ⟨g,off,Z⟩) n cap) ls ps J)(hn:ps.length=n)(hp:ps[i]? =M p)(E:Below ↑J J w1)(hj:j<8)(hq:jJ q=(jJ p).set j u)(e:q.1=p.1)(R:IE w1 q):LI2 w (aH (M ⟨g,off,Z⟩) n cap) ls (ps.set i q) (w1.setCell ⟨g,off+i*8+j,Z⟩ u)/\IE (w1.setCell ⟨g,off+i*8+j,Z⟩ u) q:=by
 subst hn;have Y:=h.row.below E
 have z:Ro w1 (w1.setCell ⟨g,off+i*8+j,Z⟩ u):=.jM (.set w1 g _ u) λk cs t fz hk hc=>by
  subst hk;obtain⟨c,I⟩:=Y.obj (g:=k) rfl;rw[I]at hc;simp at hc;rw[<-hc.2.1];exact⟨aB,aB⟩
 refine⟨⟨?_,(map_set hp e).trans h.fst,λp' hp'=>?_,h.low,((jI.below (h.b.trans (E.mono h.b.size)) jB (λ_=>False)).trans (.set w1 g _ u) λk hk e=>?_).lQ⟩,R.ro z⟩
 .have:=Y.put (j:=i*8+j) u;rw[Me jJ 8 (λ_=>rfl) ps i j p q u hp hj hq,<-dV]at this;rw[oB];exact this
 .obtain hp'|rfl:=List.mem_or_eq_of_mem_set hp'
  .exact((h.lor p' hp').below E).ro z
  .exact R.ro z
 .have:=h.low g rfl;omega
def P7{v:X}{ps:List PL}(w:U)(h:pz w v ps)(hl:ps.length<=4294967296)(hn:0<ps.length)(hs:∀p,p∈ps->p.1.txs.length<=4294967296/\p.1.deps.length<=4294967296):dE PQ 28 #[v] w λe w'=>∃va qs,e=bO va/\LI2 w va (ps.map cI) qs w':=by
 have hC:=Y9 v ps.length w h.1 (Qa h.2) hl;have HC:cH _:=λ(_:Unit)=>hC;have H:cH _:=jy h hs;clear h hs hC;go_enter (fq Tryz.func28 rfl),Tryz.ntmps28;go_upto_region 2 with(go_at_call 46;refine aT (HC.out ()) ?_;rintro e w1 ⟨a,cap,rfl,hr,ho,Y⟩;have H1:cH _:=jy hr (jy ho Y);clear hr ho Y)
 obtain⟨g,off,an,e,_⟩:=H1.out.1.pos hn;cases e;go_upto_region 3 with fail;go_loopg [4,9] ps.length (λgg _ t wx=>∃i:Nat,t=N ab i/\i<=ps.length/\gg=ps.length-i/\cH (∃qs,qs.length=ps.length/\LI2 w (aH (M ⟨g,off,Z⟩) ps.length cap) (ps.map cI) qs wx))
 case atStart=>exact⟨0,rfl,dL _,rfl,ps,rfl,H1.out.1,rfl,λp hp=>(H.out.1.2 p hp).below H1.out.2.2,H1.out.2.1,H1.out.2.2⟩
 case round=>
  obtain⟨i,rfl,hi,rfl,HI⟩:=hrel;obtain⟨qs,hq,hI⟩:=HI.out;by_cases ao:i<ps.length
  .have af:(i:Int)<ps.length:=by omega
   obtain⟨q,I⟩:∃q,qs[i]? =M q:=⟨_,aO aA⟩
   obtain⟨l,v1,v2⟩:=q;have hm:=hI.lor _ (aX I);obtain⟨a1,c1,e1⟩:=Row.slice hm.1;obtain⟨a2,c2,e2⟩:=Row.slice hm.2;dsimp only at e1 e2;subst e1 e2
   have J:l.txs.length<=4294967296/\l.deps.length<=4294967296:=by
    have:l∈ps.map cI:=by rw[<-hI.fst];exact bM.2 ⟨_,aX I,rfl⟩
    obtain⟨p,hp,rfl⟩:=bM.1 this;exact H.out.2 p hp
   have kk:=λ(j:Nat) u (hj:j<8) (hu:(jJ (l,.slice a1 l.txs.length c1,.slice a2 l.deps.length c2))[j]? =M u)=>hI.row.cell (by rw[hq]) (i*8+j) u ((flat_get jJ 8 (λ_=>rfl) qs i j _ I hj).trans hu);have k5:=kk 5 _ aA rfl;rw[<-dV]at k5;have ag:=CB wr (Row.rd hm.1) (λu hu=>by obtain⟨t,_,rfl⟩:=bM.1 hu;rfl) J.1;have aj:cH _:=λ(_:Unit)=>ag;have hg:=hI.row.lt (g:=g) (by rfl);have HJ:cH _:=jy hI (jy I (jy hm J));have fg:=hI.row.frozen (by rw[hq]);clear hI I hm J kk ag;go_upto_region 6 with(go_at_call 47;refine aT (aj.out ()) ?_;rintro e w2 ⟨a3,c3,rfl,hr,ho,Y⟩;have ah:=(Y.cell (p:=⟨g,off+i*8+5,Z⟩) hg).trans k5;have f5:w2.frozen? ⟨g,off+i*8+5,Z⟩=aL:=by { have:=Y.block g hg;unfold iX;rw[this];exact fg _ };have H2:cH _:=jy hr (jy ho Y);clear hr ho Y)
   obtain⟨hI,I,hm,J⟩:=HJ.out;obtain⟨E,R⟩:=hI.put (j:=5) (q:=(l,.slice a3 l.txs.length c3,.slice a2 l.deps.length c2)) (u:=.slice a3 l.txs.length c3) hq I H2.out.2.2 aA rfl rfl ⟨H2.out.1,Row.below hm.2 H2.out.2.2⟩;have z:(qs.set i (l,.slice a3 l.txs.length c3,.slice a2 l.deps.length c2))[i]? =M (l,.slice a3 l.txs.length c3,.slice a2 l.deps.length c2):=by rw[List.getElem?_set_self aA]
   have aa:(qs.set i (l,aH a3 l.txs.length c3,aH a2 l.deps.length c2)).length=ps.length:=by rw[oB];exact hq
   obtain⟨Wd,hX⟩:∃Wd,Wd=w2.setCell ⟨g,off+i*8+5,Z⟩ (.slice a3 l.txs.length c3):=⟨_,rfl⟩
   rw[<-hX]at E R⊢;generalize qs.set i (l,aH a3 l.txs.length c3,aH a2 l.deps.length c2)=rs at *;have k6:=E.row.cell (by rw[aa]) (i*8+6) (.slice a2 l.deps.length c2) ((flat_get jJ 8 (λ_=>rfl) rs i 6 _ z aA).trans rfl);rw[<-dV]at k6;have ae:=CB Wd (Row.rd R.2) (λu hu=>by obtain⟨t,_,rfl⟩:=bM.1 hu;rfl) J.2;have am:cH _:=λ(_:Unit)=>ae;have ac:=E.row.lt (g:=g) (by rfl);have ai:=E.row.frozen (by rw[aa]);have HK:cH _:=jy E (jy z R);clear hI I hm J E R z ae hX k5 ah f5 fg;go_wp2_with (go_at_call 47;refine aT (am.out ()) ?_;rintro e w3 ⟨a4,c4,rfl,hr,ho,Y⟩;have ap:=(Y.cell (p:=⟨g,off+i*8+6,Z⟩) ac).trans k6;have f6:w3.frozen? ⟨g,off+i*8+6,Z⟩=aL:=by { have:=Y.block g ac;unfold iX;rw[this];exact ai _ };have H3:cH _:=jy hr (jy ho Y);clear hr ho Y)
   go_roundg (ps.length-(i+1))
   case measure=>omega
   case rel=>
    obtain⟨E,z,R⟩:=HK.out;obtain⟨ak,aq⟩:=E.put (j:=6) (q:=(l,.slice a3 l.txs.length c3,.slice a4 l.deps.length c4)) (u:=.slice a4 l.deps.length c4) aa z H3.out.2.2 aA rfl rfl ⟨Row.below R.1 H3.out.2.2,H3.out.1⟩;exact⟨i+1,by go_num,aA,rfl,_,by rw[oB];exact aa,ak⟩
  .have af:¬(i:Int)<ps.length:=by omega
   have HJ:cH _:=hI;clear hI;go_wp2_with fail;go_ret;exact⟨_,rfl,qs,HJ.out⟩
end
section
section
variable {w w' W w1:U}{sb:Nat}{vb:X}{ps:List PU}{last sil:Nat}{ev:X}{i:Int}{e:pm}
def rW.wrap{x0 x1 x2 x3:X}(h:tX w sb vb ps last sil)(R:Below ↑w w W)(Y:W.heap[w.heap.size]? =M (aG #[x0,x1,x2,x3] 28 (0,0)))(E:rW W sb vb ps last sil ev i e w1):∃u:X2,∃ta tn tc la ln J b v,e=bO (cQ #[fX #[N ab u.id,N ab u.time,.slice ta tn tc,.slice la ln J],cK b,v])/\w1.heap[w.heap.size]? =M (aG #[x0,x1,x2,x3] 28 (0,0))/\rW w sb vb ps last sil ev i e (Iz w1 ↑w (N ab u.id) (N ab u.time) (.slice ta tn tc) (.slice la ln J)):=by
 have hl:=h.lt;have hW:=h.below R;unfold rW at E⊢;by_cases h0:0<sil
 .simp only[ZD h0]at E⊢;obtain⟨rfl,hs,hc⟩:=E;have z:=(hc.block _ (jE Y) aA).trans Y;obtain⟨q1,q2⟩:=nK z (N ab 0) (N ab 0) (aH Z 0 0) (aH Z 0 0);refine⟨⟨0,0,[],[]⟩,Z,0,0,Z,0,0,aL,ev,rfl,z,rfl,hs.kept (λk hk=>q2.block k ?_ ?_) (.jM q2 λk cs t fz hk e=>?_),((jI.below R jB _).trans hc λ_ _ e=>e).trans q2 λk hk e=>aA⟩
  .obtain rfl|e:=hk
   .exact hs.lt
   .exact hs.row.lt e
  .obtain rfl|e:=hk
   .omega
   .have:=h.row.lt e;omega
  .subst hk;rw[z]at e;simp at e;rw[<-e.2.1];exact⟨aB,aB⟩
 .simp only[Zs h0]at E⊢;obtain⟨I,E⟩:=E;have z:=(I.block _ (jE Y)).trans Y;have hB:=λa b c d=>((jI.below (R.trans (I.mono R.size)) jB (λ_=>False)).trans (nK z a b c d).2 λk hk e=>aA).lQ;obtain⟨n,p,hi,hp,rfl⟩|⟨hi,rfl⟩:=E
  .obtain⟨u,vt,vl⟩:=p;have hu:=h.up _ (aX hp);obtain⟨ta,tc,rfl⟩:∃a c,vt=.slice a u.txs.length c:=hu.1.slice;obtain⟨la,J,rfl⟩:∃a c,vl=.slice a u.logs.length c:=Row.slice hu.2;exact⟨u,ta,_,tc,la,_,J,aR,_,rfl,z,hB _ _ _ _,bE ⟨n,_,hi,hp,rfl⟩⟩
  .exact⟨⟨0,0,[],[]⟩,Z,0,0,Z,0,0,aL,_,rfl,z,hB _ _ _ _,cD ⟨hi,rfl⟩⟩
def rW.from(E:Below ↑w w W)(z:rW W sb vb ps last sil ev i e w1):rW w sb vb ps last sil ev i e w1:=by
 unfold rW at z⊢;split at z
 .rename_i h;rw[ZD h];exact⟨z.1,z.2.1,(jI.below E jB _).trans z.2.2 λ_ _ e=>e⟩
 .rename_i h;rw[Zs h];exact⟨E.trans (z.1.mono E.size),z.2⟩
def II(h:tX w sb vb ps last sil)(E:w.cell? ⟨0,0,Z⟩=M ev):dE PQ 21 #[aD (M ⟨sb,0,Z⟩),N ab i] w (rW w sb vb ps last sil ev i):=by
 obtain⟨W,R,J,Y⟩:=jD w #[N ab 0,N ab 0,aH Z 0 0,aH Z 0 0] 28;have I:=CO i (h.below J) (lu E J);have HA:cH _:=λ(_:Unit)=>I;have H:cH _:=jy h (jy J Y);clear h J Y I E;go_enter (fq Tryz.func21 rfl),Tryz.ntmps21;go_upto_region 1 with fail;rw[<-R];clear R;go_wp2_with (go_at_call 38;refine aT (HA.out ()) ?_;intro e w1 I;obtain⟨u,ta,tn,tc,la,ln,lc,b,v,rfl,z,hP⟩:=I.wrap H.out.1 H.out.2.1 H.out.2.2;have fz:=aQ z;obtain⟨z0,z1,z2,z3⟩:=cells4 z;have HP:cH _:=jy hP z;clear hP z I)
 exact cM (Uf (p:=(u,.slice ta tn tc,.slice la ln lc)) rfl rfl rfl rfl (nK HP.out.2 _ _ _ _).1) rfl HP.out.1
def TU(u:X2)(ta la:Option eM)(tn tc J E:Nat)(id:Int)(R:Nat)(hc:w.cell? ⟨R,0,Z⟩=M (N ab id)):dE PQ 95 #[fX #[N ab u.id,N ab u.time,.slice ta tn tc,.slice la J E],aD (M ⟨R,0,Z⟩)] w λe w'=>e=bO (cK (decide (u.id=id)))/\Below ↑w w w':=by obtain⟨W,I,z,Y⟩:=jD w #[N ab u.id,N ab u.time,.slice ta tn tc,.slice la J E] 28;have z0:=kJ Y;have hc:=lu hc z;have Hb:cH _:=z;clear z Y;go_enter (fq Tryz.func95 rfl),Tryz.ntmps95;go_upto_region 1 with fail;rw[<-I];clear I;go_wp2_with fail;go_ret;exact⟨rfl,Hb.out⟩
def MW(id:Int)(bb:Nat)(h:tX w sb vb ps last sil)(hn:0<ps.length)(hc:w.cell? ⟨bb,0,Z⟩=M (N ab id)):dE PQ 94 #[vb,.func (.func 95) #[] #[aD (M ⟨bb,0,Z⟩)]] w λe w'=>e=bO (N ab (idx (λp:PU=>decide (p.1.id=id)) ps))/\Below ↑w w w':=by
 have eg:=enters_of (P:=PQ) (fq Tryz.func95 rfl) XN rfl;obtain⟨g,off,cap,rfl,af⟩:=h.row.pos hn;have Hf:cH _:=λ(W:U)(hb:Below ↑w w W)(j:Nat)(p:PU)(R:ps[j]? =M p)(i:Nat) x (hi:i<4) (hx:(oq p)[i]? =M x)=>Rd.rec oq 4 (λ_=>rfl) (h.below hb).row.rd R hi hx;have Hc:cH _:=hc;have H:cH _:=h;have ae:=h.len;clear h hc;go_enter (fq Tryz.func94 rfl),Tryz.ntmps94;go_wp2_with fail;go_loopg [5,8] ps.length (λgg _ v8 wx=>∃i:Nat,i<=ps.length/\v8=N ab i/\gg=ps.length-i/\cH (∀(j:Nat)(y:PU),j<i->ps[j]? =M y->decide (y.1.id=id)=aL)/\cH (Below ↑w w wx))
 case atStart=>exact⟨0,dL _,rfl,rfl,λj y R=>aA,aJ _ _⟩
 case round=>
  obtain⟨i,hi,rfl,rfl,Hi,I⟩:=hrel;by_cases ac:i<ps.length
  .have aa:(i:Int)<ps.length:=by omega
   obtain⟨⟨u,vt,vl⟩,ht⟩:∃t,ps[i]? =M t:=⟨_,aO ac⟩
   have hu:=H.out.up _ (aX ht);obtain⟨ta,tc,rfl⟩:∃a c,vt=.slice a u.txs.length c:=hu.1.slice;obtain⟨la,lc,rfl⟩:∃a c,vl=.slice a u.logs.length c:=Row.slice hu.2;have k0:=Hf.out wr I.out i _ ht 0 _ aA rfl;have k1:=Hf.out wr I.out i _ ht 1 _ aA rfl;have k2:=Hf.out wr I.out i _ ht 2 _ aA rfl;have k3:=Hf.out wr I.out i _ ht 3 _ aA rfl;rw[<-dV]at k0 k1 k2 k3;rw[pN]at k0;have z:=TU u ta la u.txs.length tc u.logs.length lc id bb (lu Hc.out I.out);have Ht:cH _:=ht;clear ht hu;cases hq:decide (u.id=id)
   .rw[hq]at z;have E:cH _:=λ(_:Unit)=>z;have Hq:cH _:=hq;clear z hq;go_wp2_with (go_at_call 95;refine(E.out ()).mono ?_;rintro e w2 ⟨rfl,Y⟩)
    go_roundg (ps.length-(i+1))
    case measure=>omega
    case rel=>
     refine⟨i+1,aA,by go_num,rfl,λj y R J=>?_,I.out.trans (Y.mono I.out.size)⟩;obtain R|rfl:=jm (Nat.lt_succ_iff.1 R)
     .exact Hi.out j y R J
     .rw[Ht.out]at J;cases J;exact Hq.out
   .rw[hq]at z;have E:cH _:=λ(_:Unit)=>z;have Hq:cH _:=hq;clear z hq;go_wp2_with (go_at_call 95;refine(E.out ()).mono ?_;rintro e w2 ⟨rfl,Y⟩)
    go_ret;exact⟨by rw[xR Ht.out Hq.out (λj y R J=>Hi.out j y R J)];rfl,I.out.trans (Y.mono I.out.size)⟩
  .have aa:¬(i:Int)<ps.length:=by omega
   go_wp2_with fail;go_ret;refine⟨?_,I.out⟩;rw[xB (λj y J=>Hi.out j y (by have:=(aN.1 J).1;omega) J)];rfl
def X4(id:Int)(h:tX w sb vb ps last sil)(hn:0<ps.length)(R:w.cell? ⟨0,0,Z⟩=M ev):dE PQ 63 #[aD (M ⟨sb,0,Z⟩),N ab id] w (rW w sb vb ps last sil ev (idx (λp:PU=>decide (p.1.id=id)) ps)):=by
 obtain⟨V,hV,J,hi⟩:=jD w #[N ab id] 3;obtain⟨W,hW,z,hz⟩:=jD V #[N ab 0,N ab 0,aH Z 0 0,aH Z 0 0] 28;have aa:cH (↑V=w.heap.size+1):=by show _=_;rw[hV];simp
 have hI:=MW id ↑w ((h.below J).below z) hn (lu (kJ hi) z);have c0:=kJ ((h.below J).below z).obj;have HI:cH _:=λ(_:Unit)=>hI;have H:cH _:=jy h (jy J (jy z (jy hz R)));have hl:=h.lt;have ac:↑w<V.heap.size:=(jE hi)
 obtain⟨q,hq⟩:∃q,q=idx (λp:PU=>decide (p.1.id=id)) ps:=⟨_,rfl⟩
 rw[<-hq]at HI⊢;clear h J z hz hI R hi;go_enter (fq Tryz.func63 rfl),Tryz.ntmps63;go_upto_region 1 with fail;rw[<-hV,<-hW];clear hV hW hq;go_wp2_with (first|(go_at_call 94;refine aT (HI.out ()) ?_;rintro e w2 ⟨rfl,Y⟩;have I:cH _:=Y;clear Y)|(go_at_call 38;refine aT (CO q (((H.out.1.below H.out.2.1).below H.out.2.2.1).below I.out) (lu (lu (lu H.out.2.2.2.2 H.out.2.1) H.out.2.2.1) I.out)) ?_;intro e w3 hA;obtain⟨u,ta,tn,tc,la,ln,lc,b,v,rfl,E,hP⟩:=hA.wrap (H.out.1.below H.out.2.1) (H.out.2.2.1.trans (I.out.mono H.out.2.2.1.size)) ((I.out.block _ (jE H.out.2.2.2.1)).trans H.out.2.2.2.1);rw[aa.out]at E hP;have fz:=aQ E;obtain⟨z0,z1,z2,z3⟩:=cells4 E;have HP:cH _:=jy (hP.from H.out.2.1) E;clear hP E hA))
 exact cM (Uf (p:=(u,.slice ta tn tc,.slice la ln lc)) rfl rfl rfl rfl (nK HP.out.2 _ _ _ _).1) rfl HP.out.1
end
end
end Hm
namespace Hm
open Go.RowKit Go.Joins Go.Shelf
open Fr (below_drewN)
open Dv (Lo)
attribute [local go_sem] Oper.semAt_some
variable {W w:U}{e k:X}{nk:Nat}
def Hw(a:Option eM)(n c:Nat){w:U}:dE PQ 93 #[.slice a n c] w λe w'=>e=bO (.func (.func 130) #[] #[aD (M ⟨↑w,0,Z⟩)])/\w'=w.alloc (aG #[.slice a n c] 70):=by go_enter (fq Tryz.func93 rfl),Tryz.ntmps93;go_wp2_with fail;go_ret;exact⟨rfl,rfl⟩
def EC(v:Vw)(a:Option eM)(c:Nat)(w:U)(h:lF w v)(z:v.vs=.slice a v.seen.length c):dE PQ 62 #[aD (M ⟨v.vb,0,Z⟩)] w λe w'=>e=bO (.func (.func 130) #[] #[aD (M ⟨↑w,0,Z⟩)])/\w'=w.alloc (aG #[.slice a v.seen.length c] 70):=by
 have c0:=kJ h.obj;rw[z]at c0;clear h z;go_enter (fq Tryz.func62 rfl),Tryz.ntmps62;go_wp2_with (go_at_call 93;refine aT (Hw a v.seen.length c) ?_;rintro e w1 ⟨rfl,rfl⟩)
 go_ret;exact⟨rfl,rfl⟩
def lI(c:Dv.Cf)(sb vb:Nat)(rs:Bool):Array X:=#[N .u32 c.inbox,N .u32 c.batcher,N ab c.timeout,N ab c.window,N ab c.drift,N ab c.step,N ab c.most,aD (M ⟨sb,0,Z⟩),aD (M ⟨vb,0,Z⟩),.bool rs]
structure YR(w:U)(nk:Nat)(k e:X)(W:U):Prop where
 box:W.heap[w.heap.size]? =M (aG #[aD (M ⟨nk,0,Z⟩)] 31 (0,0))
 r1:W.heap[w.heap.size+1]? =M (aG #[k] 3 (0,0))
 r2:W.heap[w.heap.size+2]? =M (aG #[e] 62 (0,0))
def Ll(w:U)(sb:Nat)(vb:X)(ps:List PU)(last sil:Nat)(ev:X)(k:X)(e:pm)(w':U):Prop:=
 if 0<sil then e=bO (cQ #[k,ev])/\tX w' sb vb ps last (sil-1)/\jI (λk=>k=sb) w w'
 else e=bO (cQ #[k,.nilIface])/\Below ↑w w w'
def Gt{b o:Nat}{v:X}(h:W.cell? ⟨b,o,Z⟩=M v):∃cs t z,W.heap[b]? =M (aG cs t z):=by
 unfold eB at h;simp only at h;split at h
 .rename_i cs t z hk;exact⟨cs,t,z,hk⟩
 .cases h
def CoI(w:U)(nk:Nat)(z:List Unit)(W:U):Prop:=z=[]/\YR w nk (N ab 0) .nilIface W/\jI (λ_=>False) w W
def CoX(w:U)(sb:Nat)(vb:X)(ps:List PU)(last sil:Nat)(ev:X)(k:X)(c:eE)(_:List Unit)(W:U):Prop:=
 c=.ret/\∃e nk,YR w nk k e W/\Ll w sb vb ps last sil ev k (bO (cQ #[k,e])) W
def rW.jM{w':U}{sb:Nat}{vb:X}{ps:List PU}{last sil:Nat}{ev:X}{i:Int}{e:pm}(h:rW w sb vb ps last sil ev i e w'):jI (λk=>k=sb) w w':=by
 unfold rW at h;split at h
 .exact h.2.2
 .exact .below h.1 jB _
def YR.kept{W':U}(h:YR w nk k e W)(hk:∀j,w.heap.size<=j->j<w.heap.size+3->W'.heap[j]? =W.heap[j]?):YR w nk k e W':=⟨(hk _ aA aA).trans h.box,(hk _ aA aA).trans h.r1,(hk _ aA aA).trans h.r2⟩
def coF(w w2:U)(a b c d k e:X):U:=((w2.alloc (aG #[a,b,c,d] 28)).setCell ⟨w.heap.size+1,0,Z⟩ k).setCell ⟨w.heap.size+1+1,0,Z⟩ e
def YR.fin{w2:U}{J I:X}(h:YR w nk J I w2)(a b c d k e:X):YR w nk k e (coF w w2 a b c d k e)/\jI (λj=>j=w.heap.size+1\/j=w.heap.size+2) w2 (coF w w2 a b c d k e):=by
 have Y:=(jE h.r2)
 obtain⟨A,R,z,-⟩:=jD w2 #[a,b,c,d] 28;have hc:jI (λ_=>False) w2 A:=.below z jB _;have E:=h.kept (W':=A) λj _ hj=>hc.block j aA (λe=>e);unfold coF;rw[<-R];refine⟨⟨?_,?_,?_⟩,((hc.mono λ_ _ e=>e.elim).trans (.set _ (w.heap.size+1) 0 k) λ_ _ e=>bE e).trans (.set _ (w.heap.size+2) 0 e) λ_ _ e=>cD e⟩
 .rw[mU _ _ _ _ (by dsimp only;omega),mU _ _ _ _ (by dsimp only;omega)];exact E.box
 .rw[mU _ _ _ _ (by dsimp only;omega),rj E.r1];rfl
 .rw[rj ((mU _ _ _ _ (by dsimp only;omega)).trans E.r2)];rfl
def YR.lt(h:YR w nk k e W):w.heap.size+2<W.heap.size:=(jE h.r2)
def CoI.own(w:U)(nk m:Nat)(hm:w.heap.size+3<=m):rq m (CoI w nk):=by rintro R A B row ⟨I,E,h2⟩ J Y;obtain⟨M',hc,hM,z⟩:=lH J Y;have:=E.lt;exact⟨I,E.kept λj _ hj=>hc.block j aA (z j aA),h2.trans hc λk hk e=>z k aA e⟩
def CoX.own(w:U)(sb:Nat)(vb:X)(ps:List PU)(last sil:Nat)(ev k:X)(c:eE)(m:Nat)(hm:w.heap.size+3<=m):rq m (CoX w sb vb ps last sil ev k c):=by
 rintro aa A B row ⟨Y,e,nk,J,h2⟩ hg hr;obtain⟨M',hc,I,E⟩:=lH hg hr;have:=J.lt;refine⟨Y,e,nk,J.kept λj _ R=>hc.block j aA (E j aA),?_⟩;unfold Ll at h2⊢;split at h2
 .rename_i hs;rw[ZD hs];refine⟨h2.1,h2.2.1.kept (λj R=>?_) λg cs t fz z _=>hc.block g (jE z) (I _ _ _ _ z),h2.2.2.trans hc λk hk e=>Xs e (E k aA)⟩;obtain rfl|e:=R
  .exact hc.block _ h2.2.1.lt (I _ _ _ _ h2.2.1.obj)
  .obtain⟨cs,z⟩:=h2.2.1.row.obj e;exact hc.block _ (h2.2.1.row.lt e) (I _ _ _ _ z)
 .rename_i hs;rw[Zs hs];exact⟨h2.1,((jI.below h2.2 jB (λ_=>False)).trans hc λk hk e=>E k aA e).lQ⟩
end Hm
namespace Hm
open Go.RowKit Go.Joins Go.Shelf
open Fr (below_drewN)
open Dv (X2)
section
structure CI(w:U)(id time:Int)(vt vl:X)(wx:U):Prop where
 box:wx.heap[w.heap.size]? =M (aG #[N ab id,N ab time,vt,vl] 28 (0,0))
 res:wx.heap[w.heap.size+1]? =M (aG #[N ab 0,N ab 0,aH Z 0 0,aH Z 0 0] 28 (0,0))
 b:Below ↑w w wx
section
variable {w wx w':U}{id time:Int}{vt vl v:X}{E s n:Nat}{xs:List X}
def CI.start(w:U)(id time:Int)(vt vl:X):CI w id time vt vl ((w.alloc (aG #[N ab id,N ab time,vt,vl] 28)).alloc (aG #[N ab 0,N ab 0,aH Z 0 0,aH Z 0 0] 28)):=by
 refine⟨?_,?_,((aJ _ w).alloc jB _).alloc aC _⟩
 .rw[fV _ _ _ aC];exact cT _ _
 .have:=cT (w.alloc (aG #[N ab id,N ab time,vt,vl] 28)) (aG #[N ab 0,N ab 0,aH Z 0 0,aH Z 0 0] 28);simpa using this
def CI.jM{XS:Nat->Prop}(h:CI w id time vt vl wx)(hc:jI XS wx w')(z:∀k,XS k->w.heap.size+2<=k):CI w id time vt vl w':=by
 have l2:=(jE h.res)
 refine⟨(hc.block _ aA λe=>?_).trans h.box,(hc.block _ l2 λe=>?_).trans h.res,((jI.below h.b jB (λ_=>False)).trans hc λk hk e=>?_).lQ⟩
 .have:=z _ e;omega
 .have:=z _ e;omega
 .have:=z _ e;omega
def CI.set2(h:CI w id time vt vl wx)(v:X):CI w id time v vl (wx.setCell ⟨↑w,2,Z⟩ v):=by refine⟨by rw[rj h.box];rfl,(aW _ _ _ _ (Nat.succ_ne_self _)).trans h.res,((jI.below h.b jB (λ_=>False)).trans (.set wx ↑w 2 v) λk hk e=>aA).lQ⟩
def CI.acQ(h:CI w id time vt vl wx)(v:X):CI w id time vt v (wx.setCell ⟨↑w,3,Z⟩ v):=by refine⟨by rw[rj h.box];rfl,(aW _ _ _ _ (Nat.succ_ne_self _)).trans h.res,((jI.below h.b jB (λ_=>False)).trans (.set wx ↑w 3 v) λk hk e=>aA).lQ⟩
def Row.again{g off cap:Nat}(h:Row w E s (aH (M ⟨g,off,Z⟩) n cap) n xs){j:Nat}(z:xs[j]? =M v):Row (w.setCell ⟨g,off+j,Z⟩ v) E s (aH (M ⟨g,off,Z⟩) n cap) n xs:=by have:=h.put (j:=j) v;obtain⟨I,rfl⟩:=aN.1 z;rwa[List.set_getElem_self I]at this
def QU(u:X2):(∀x,x∈u.txs.flatMap oO->x.oneCell'=aR)/\∀x,x∈u.logs.map nT->x.oneCell'=aR:=by
 refine⟨λx z=>?_,λx z=>?_⟩
 .obtain⟨t,_,ht⟩:=p7.1 z;simp only[oO,dD,mR,or_false]at ht;rcases ht with rfl|rfl|rfl<;>rfl
 .obtain⟨t,_,rfl⟩:=bM.1 z;rfl
def IX(u:X2){vt vl:X}(w:U)(h:kW w u vt vl)(hd:∀t,t∈u.txs->t.data.length<=16777216)(hg:∀s,s∈u.logs->s.length<=16777216):dE PQ 61 #[fX #[N ab u.id,N ab u.time,vt,vl]] w λe w'=>∃a b a' b',e=bO (YS (u,.slice a u.txs.length b,.slice a' u.logs.length b'))/\Pe w' (u,.slice a u.txs.length b,.slice a' u.logs.length b')/\Below ↑w w w':=by
 obtain⟨ta,tc,rfl⟩:=h.1.slice;obtain⟨la,lc,rfl⟩:=Rd.slice h.2.1;obtain⟨W,hW⟩:∃W,W=(w.alloc (aG #[N ab u.id,N ab u.time,.slice ta u.txs.length tc,.slice la u.logs.length lc] 28)).alloc (aG #[N ab 0,N ab 0,aH Z 0 0,aH Z 0 0] 28):=⟨_,rfl⟩
 have hI:=CI.start w u.id u.time (.slice ta u.txs.length tc) (.slice la u.logs.length lc);rw[<-hW]at hI;have au:↑W=w.heap.size+2:=by rw[hW];simp
 obtain⟨b0,b1,b2,b3⟩:=cells4 hI.box;have fb:=aQ hI.box;have hC:=X8 W (h.below hI.b).1 (QU u).1 h.2.2.1;have HC:cH _:=λ(_:Unit)=>hC;have H:cH _:=jy h (jy hd (jy hg (jy hI au)));clear h hd hg hI hC au;go_enter (fq Tryz.func61 rfl),Tryz.ntmps61;go_upto_region 1 with fail;rw[<-hW];clear hW;go_upto_region 2 with(go_at_call 91;refine aT (HC.out ()) ?_;rintro e w1 ⟨a,cap,rfl,hr,aa,ar⟩;have J:=H.out.2.2.2.1.jM (.below ar jB (λ_=>False)) (λ_ e=>e.elim);clear b0 b1 b2 b3 fb;obtain⟨b0,b1,b2,b3⟩:=cells4 J.box;have fb:=aQ J.box;have HR:cH _:=jy hr (jy aa (jy ar J));clear hr aa ar J)
 obtain⟨V,hV⟩:∃V,V=w1.setCell ⟨↑w,2,Z⟩ (.slice a u.txs.length cap):=⟨_,rfl⟩
 have R:=HR.out.2.2.2.set2 (.slice a u.txs.length cap);have ae:=HR.out.1.jM (.set w1 ↑w 2 (.slice a u.txs.length cap)) (λg hg e=>by have:=HR.out.2.1 g hg;have:=H.out.2.2.2.2;omega);rw[<-hV]at R ae⊢;clear hV b0 b1 b2 b3 fb;obtain⟨b0,b1,b2,b3⟩:=cells4 R.box;have H2:cH _:=jy R ae;clear R ae;have hn:=H.out.1.2.2.1;go_upto_region 3 with fail;clear b0 b1 b2 b3;go_loopg [3,12] u.txs.length (λgg _ a3 wx=>∃i:Nat,a3=N ab i/\i<=u.txs.length/\gg=u.txs.length-i/\cH (CI w u.id u.time (.slice a u.txs.length cap) (.slice la u.logs.length lc) wx/\Row wx 125 3 (.slice a u.txs.length cap) u.txs.length (u.txs.flatMap oO)))
 case atStart=>exact⟨0,rfl,dL _,rfl,H2.out⟩
 case round=>
  obtain⟨i,rfl,hi,rfl,HI⟩:=hrel;obtain⟨b0,b1,b2,b3⟩:=cells4 HI.out.1.box;by_cases an:i<u.txs.length
  .have ai:(i:Int)<u.txs.length:=by omega
   obtain⟨g,off,z,hv,a2⟩:=HI.out.2.pos aA;cases hv;obtain⟨t,ht⟩:∃t,u.txs[i]? =M t:=⟨_,aO an⟩
   have hx:(u.txs.flatMap oO)[i*3+2]? =M (bB ⟨t.data.toArray⟩):=flat_get oO 3 (λ_=>rfl) _ i 2 t ht aA;have k2:=HI.out.2.cell rfl _ _ hx;rw[<-dV]at k2;have fg:=HI.out.2.frozen rfl;have ag:=HI.out.2.lt (g:=g) rfl;have aq:=(jE HI.out.1.box)
   obtain⟨D,hD⟩:∃D:ByteArray,D=⟨t.data.toArray⟩:=⟨_,rfl⟩
   rw[<-hD]at k2 hx;have ap:D.size<=16777216:=by rw[hD];show t.data.toArray.size<=_;rw[dR];exact H.out.2.1 t (aX ht)
   have HX:cH _:=hx;clear hx ht hD;go_upto_region 5 with fail;go_region_with (go_at_call 92;(refine aT (Fr.clone_any D _ ap) ?_;rintro e w5 ⟨rfl,I⟩;have k5:=(I.cell (p:=⟨g,off+i*3+2,Z⟩) ag).trans k2;have f5:w5.frozen? ⟨g,off+i*3+2,Z⟩=aL:=by { have:=I.block g ag;unfold iX;rw[this];exact fg _ };have c5:=(I.cell (p:=⟨↑w,2,Z⟩) aq).trans b2;have ac:cH _:=I;clear I))
   all_goals
    go_wp2_with fail;go_roundg (u.txs.length-(i+1))
    case measure=>omega
    case rel=>
     have hB:Below ↑wr wr w5:=by first|exact ac.out|exact(aJ _ _).drew.trans ac.out|exact(below_drewN (aJ _ _) _).trans ac.out
     have hs:=jI.set w5 g (off+i*3+2) (bB D);have aa:w.heap.size+2<=g:=by rw[<-H.out.2.2.2.2];exact HR.out.2.1 g rfl
     have av:=(HI.out.2.below hB).again HX.out;rw[<-dV]at av;exact⟨i+1,by go_num,aA,rfl,(HI.out.1.jM (.below hB jB (λ_=>False)) (λ_ e=>e.elim)).jM hs (λk e=>aA),av⟩
  .have ai:¬(i:Int)<u.txs.length:=by omega
   have ao:=HI.out.1;have fb:=aQ ao.box;have aw:=CB wr (Rd.below H.out.1.2.1 ao.b) (QU u).2 H.out.1.2.2.2;have a0:cH _:=λ(_:Unit)=>aw;clear ao aw;go_upto_region 8 with(go_at_call 47;refine aT (a0.out ()) ?_;rintro e w3 ⟨a',z,rfl,hr,aa,aj⟩;have J:=HI.out.1.jM (.below aj jB (λ_=>False)) (λ_ e=>e.elim);clear b0 b1 b2 b3 fb;obtain⟨b0,b1,b2,b3⟩:=cells4 J.box;have fb:=aQ J.box;have ah:cH _:=jy hr (jy aa (jy (HI.out.2.below aj) J));have a6:cH _:=aj;clear hr aa aj J)
   obtain⟨Wd,hX⟩:∃Wd,Wd=w3.setCell ⟨↑w,3,Z⟩ (.slice a' u.logs.length z):=⟨_,rfl⟩
   have R:=ah.out.2.2.2.acQ (.slice a' u.logs.length z);have l2:=(jE HI.out.1.res)
   have ae:=ah.out.1.jM (.set w3 ↑w 3 (.slice a' u.logs.length z)) (λg hg e=>by have:=ah.out.2.1 g hg;omega);have am:=ah.out.2.2.1.jM (.set w3 ↑w 3 (.slice a' u.logs.length z)) (λg hg e=>by have:=HR.out.2.1 g hg;have:=H.out.2.2.2.2;omega);rw[<-hX]at R ae am⊢;clear hX b0 b1 b2 b3 fb;obtain⟨b0,b1,b2,b3⟩:=cells4 R.box;have H3:cH _:=jy R (jy ae am);clear R ae am;have a5:=H.out.1.2.2.2;go_upto_region 9 with fail;clear b0 b1 b2 b3;go_loopg [4,35] u.logs.length (λgg _ ay wx=>∃i:Nat,ay=N ab i/\i<=u.logs.length/\gg=u.logs.length-i/\cH (CI w u.id u.time (.slice a u.txs.length cap) (.slice a' u.logs.length z) wx/\Row wx 9 1 (.slice a' u.logs.length z) u.logs.length (u.logs.map nT)/\Row wx 125 3 (.slice a u.txs.length cap) u.txs.length (u.txs.flatMap oO)))
   case atStart=>exact⟨0,rfl,dL _,rfl,H3.out⟩
   case round=>
    obtain⟨i,rfl,hi,rfl,Y⟩:=hrel;obtain⟨b0,b1,b2,b3⟩:=cells4 Y.out.1.box;by_cases an:i<u.logs.length
    .have ai:(i:Int)<u.logs.length:=by omega
     obtain⟨g,off,a1,hv,a2⟩:=Y.out.2.1.pos aA;cases hv;obtain⟨t,ht⟩:∃t,u.logs[i]? =M t:=⟨_,aO an⟩
     have hx:(u.logs.map nT)[i]? =M (bB ⟨t.toArray⟩):=by rw[fE,ht];rfl
     have k2:=Y.out.2.1.cell rfl _ _ hx;have fg:=Y.out.2.1.frozen rfl;have ag:=Y.out.2.1.lt (g:=g) rfl;have aq:=(jE Y.out.1.box)
     obtain⟨D,hD⟩:∃D:ByteArray,D=⟨t.toArray⟩:=⟨_,rfl⟩
     rw[<-hD]at k2 hx;have ap:D.size<=16777216:=by rw[hD];show t.toArray.size<=_;rw[dR];exact H.out.2.2.1 t (aX ht)
     have HX:cH _:=hx;clear hx ht hD;go_upto_region 11 with fail;go_region_with (go_at_call 92;(refine aT (Fr.clone_any D _ ap) ?_;rintro e w5 ⟨rfl,I⟩;have k5:=(I.cell (p:=⟨g,off+i,Z⟩) ag).trans k2;have f5:w5.frozen? ⟨g,off+i,Z⟩=aL:=by { have:=I.block g ag;unfold iX;rw[this];exact fg _ };have c5:=(I.cell (p:=⟨↑w,3,Z⟩) aq).trans b3;have ac:cH _:=I;clear I))
     all_goals
      go_wp2_with fail;go_roundg (u.logs.length-(i+1))
      case measure=>omega
      case rel=>
       have hB:Below ↑wr wr w5:=by first|exact ac.out|exact(aJ _ _).drew.trans ac.out|exact(below_drewN (aJ _ _) _).trans ac.out
       have hs:=jI.set w5 g (off+i) (bB D);have aa:w.heap.size+2<=g:=by have:=ah.out.2.1 g rfl;omega
       refine⟨i+1,by go_num,aA,rfl,(Y.out.1.jM (.below hB jB (λ_=>False)) (λ_ e=>e.elim)).jM hs (λk e=>aA),(Y.out.2.1.below hB).again HX.out,(Y.out.2.2.below hB).jM hs (λg' az e=>?_)⟩;subst e;obtain⟨c1,a4⟩:=Y.out.2.1.obj (g:=g') rfl;obtain⟨c2,af⟩:=Y.out.2.2.obj az;rw[a4]at af;simp at af
    .have ai:¬(i:Int)<u.logs.length:=by omega
     obtain⟨r0,r1,r2,r3⟩:=cells4 Y.out.1.res;have fr:=aQ Y.out.1.res;go_wp2_with fail;obtain⟨q1,q2⟩:=nK Y.out.1.res (N ab u.id) (N ab u.time) (.slice a u.txs.length cap) (.slice a' u.logs.length z);have hl:=l2
     have ak:∀{E s n:Nat}{v:X}{xs:List X},Row wr E s v n xs->E≠28->Row (Iz wr (w.heap.size+1) (N ab u.id) (N ab u.time) (.slice a u.txs.length cap) (.slice a' u.logs.length z)) E s v n xs:=λhr ne=>hr.jM q2 λg hg e=>by
      subst e;obtain⟨c2,af⟩:=hr.obj hg;rw[Y.out.1.res]at af;simp at af;exact ne af.2.symm
     refine cM (v:=YS (u,.slice a u.txs.length cap,.slice a' u.logs.length z)) ?_ rfl ⟨a,cap,a',z,rfl,⟨ak Y.out.2.2 aB,ak Y.out.2.1 aB⟩,((jI.below Y.out.1.b jB (λ_=>False)).trans q2 λk hk e=>aA).lQ⟩;obtain⟨z0,z1,z2,z3⟩:=cells4 q1;unfold Iz at z0 z1 z2 z3;simp only[results,Tryz.results61];simp[go_sem,z0,z1,z2,z3,YS]
end
end
section
def aaI:(PQ.info? 28).map (λi=>(i.zero,i.size,i.bytes))=M (M (fX #[N ab 0,N ab 0,aH Z 0 0,aH Z 0 0]),4,64):=XN
section
variable {w w':U}{sb:Nat}{vb:X}{ps:List PU}{last sil:Nat}
def tX.next(h:tX w sb vb ps last sil){n:Nat}(E:n<=1099511627776):tX (w.setCell ⟨sb,1,Z⟩ (N ab n)) sb vb ps n sil:=by have hc:=jI.set w sb 1 (N ab n);refine⟨?_,h.row.jM hc (λg z e=>h.ne (by rw[z,e])),λp hp=>(h.up p hp).ro (h.ro (hc.mono λk _ e=>bE e)),h.len,h.few,E⟩;rw[rj h.obj];rfl
def tX.far(h:tX w sb vb ps last sil){R:Nat}{cs:Array X}{E:Nat×Nat}(Y:w.heap[R]? =M (aG cs 28 E))(hc:jI (λk=>k=R) w w')(J:¬SO sb vb R):tX w' sb vb ps last sil/\Ro w w':=by
 have z:Ro w w':=.jM hc λk cs' t I hk e=>by
  subst hk;rw[Y]at e;simp at e;rw[<-e.2.1];exact⟨aB,aB⟩
 refine⟨h.kept (λk hk=>hc.block k ?_ λe=>J (by rw[<-e];exact hk)) z,z⟩;obtain rfl|e:=hk
 .exact h.lt
 .exact h.row.lt e
def U9(w:U)(sb:Nat)(vb:X)(ps:List PU)(last sil:Nat)(u:X2)(v:X)(e:pm)(w':U):Prop:=
 e=bO v/\∃z vt vl,tX w' sb z (ps++[({ u with id:=(last+1:Nat) },vt,vl)]) (last+1) sil/\jI (SO sb vb) w w'/\∀g,z.ownBlock=M g->vb.ownBlock=M g\/w.heap.size<=g
def DV(u:X2){vt vl:X}(h:tX w sb vb ps last sil)(hu:kW w u vt vl)(hd:∀t,t∈u.txs->t.data.length<=16777216)(hg:∀s,s∈u.logs->s.length<=16777216)(af:(0<u.txs.length->vt.ownBlock≠M sb)/\(0<u.logs.length->vl.ownBlock≠M sb))(hl:ps.length<60)(hi:last<1099511627776):dE PQ 37 #[aD (M ⟨sb,0,Z⟩),fX #[N ab u.id,N ab u.time,vt,vl]] w (U9 w sb vb ps last sil u (N ab (last+1:Nat))):=by
 obtain⟨L,hL⟩:∃L:Nat,L=last+1:=⟨_,rfl⟩
 unfold U9;rw[<-hL];obtain⟨ta,tc,rfl⟩:=hu.1.slice;obtain⟨la,lc,rfl⟩:=Rd.slice hu.2.1;obtain⟨W,hW,hb,hz⟩:=jD w #[N ab u.id,N ab u.time,.slice ta u.txs.length tc,.slice la u.logs.length lc] 28;have hS:=h.below hb;obtain⟨c0,c1,c2⟩:=cells3 hS.obj;have fs:=aQ hS.obj;have a4:=h.lt;have au:sb≠w.heap.size:=aA
 obtain⟨Wd,hX⟩:∃Wd,Wd=W.setCell ⟨sb,1,Z⟩ (N ab L):=⟨_,rfl⟩
 have an:=hS.next (n:=L) aA;have I:=jI.set W sb 1 (N ab L);rw[<-hX]at an I;have ar:=(I.block ↑w (jE hz) au.symm).trans hz;obtain⟨z0,z1,z2,z3⟩:=cells4 ar;have ai:=hu.below hb;have hC:=IX u Wd ⟨Rd.jM ai.1 I λhn g e e'=>af.1 hn (by rw[e,e']),Rd.jM ai.2.1 I λhn g e e'=>af.2 hn (by rw[e,e']),ai.2.2⟩ hd hg;have HC:cH _:=λ(_:Unit)=>hC;have H:cH _:=jy h (jy hb (jy ar (jy an I)));clear h hb hz hS an I ar hC hu ai hd hg af;go_enter (fq Tryz.func37 rfl),Tryz.ntmps37;go_upto_region 1 with fail;rw[<-hW];clear hW;go_upto_region 2 with fail;rw[show(last:Int)+1=L by omega,<-hX];have HL:cH _:=hL;clear hL;clear hX c0 c1 c2 fs;go_upto_region 3 with(go_at_call 61;refine Calls.mono (HC.out ()) ?_;rintro e w2 ⟨a,b,a',b',rfl,hR,aq⟩;have z:=(aq.block ↑w (jE H.out.2.2.1)).trans H.out.2.2.1;have fz:=Lib.frozen_of_heap z;clear z0 z1 z2 z3;obtain⟨z0,z1,z2,z3⟩:=cells4 z;unfold YS;dsimp only;have HR:cH _:=jy hR (jy aq z);clear hR aq z)
 obtain⟨V,hV⟩:∃V,V=Iz w2 ↑w (N ab u.id) (N ab u.time) (.slice a u.txs.length b) (.slice a' u.logs.length b'):=⟨_,rfl⟩
 have ao:¬SO sb vb w.heap.size:=by
  rintro(e|e)
  .omega
  .have:=H.out.1.row.lt e;omega
 obtain⟨q1,q2⟩:=nK HR.out.2.2 (N ab u.id) (N ab u.time) (.slice a u.txs.length b) (.slice a' u.logs.length b');obtain⟨ah,am⟩:=(H.out.2.2.2.1.below HR.out.2.1).far HR.out.2.2 q2 ao;rw[<-hV]at q1 q2 ah am;change Code.wp _ _ _ _ (Iz w2 ↑w _ _ _ _);rw[<-hV];clear z0 z1 z2 z3 fz hV;obtain⟨z0,z1,z2,z3⟩:=cells4 q1;obtain⟨c0,c1,c2⟩:=cells3 ah.obj;have fz:=aQ q1;have HV:cH _:=jy q1 (jy q2 (jy ah (HR.out.1.ro am)));clear q1 q2 ah am;go_upto_region 4 with fail;obtain⟨Y,hY⟩:∃Y,Y=V.setCell ⟨↑w,0,Z⟩ (N ab L):=⟨_,rfl⟩
 have q1:Y.heap[w.heap.size]? =M (aG #[N ab L,N ab u.time,.slice a u.txs.length b,.slice a' u.logs.length b'] 28 (0,0)):=by
  rw[hY,rj HV.out.1];rfl
 have q2:=jI.set V ↑w 0 (N ab L);obtain⟨R,ap⟩:=HV.out.2.2.1.far HV.out.1 q2 ao;rw[<-hY]at q2 R ap⊢;clear z0 z1 z2 z3 fz c0 c1 c2 hY;obtain⟨z0,z1,z2,z3⟩:=cells4 q1;obtain⟨c0,c1,c2⟩:=cells3 R.obj;have fs:=aQ R.obj;have J:cH _:=jy q1 (jy q2 (jy R (HV.out.2.2.2.ro ap)));clear q1 q2 R ap;obtain⟨i0,a0,av,a1,z⟩:=pa aaI;have Hi:cH _:=jy a0 (jy av (jy a1 z));clear a0 av a1 z;have ak:cH (∀o,Row (Y.alloc o).drew 28 4 vb ps.length (ps.flatMap oq)):=λo=>J.out.2.2.1.row.kept λg hg=>fV _ _ _ (J.out.2.2.1.row.lt hg);obtain⟨va,vc,a2⟩:=H.out.1.row.slice;subst a2;have HK:cH (∀o,(Y.alloc o).drew.heap[sb]? =M (aG #[.slice va ps.length vc,N ab L,N ab sil] 83 (0,0))):=λo=>(fV _ _ _ J.out.2.2.1.lt).trans J.out.2.2.1.obj;have ca:∀o,(Y.alloc o).cell? ⟨sb,0,Z⟩=M (.slice va ps.length vc):=λo=>kJ (HK.out o);go_region_law ((refine pG (by rfl) (cN 23) (cN 25) 35 (by rfl) 28 i0 _ 4 64 (uq lz) Hi.out.1 Hi.out.2.1 Hi.out.2.2.1 Hi.out.2.2.2 (by rfl) aB _ ps.length (ps.flatMap oq) (by rfl) (ak.out _) ⟨↑Y,0,Z⟩ 1 1 [N ab L,N ab u.time,.slice a u.txs.length b,.slice a' u.logs.length b'] (by rfl) aB (by rfl) (by intro j x E;match j,E with|0,E=>(simp at E;subst E;simp[jp])|1,E=>(simp at E;subst E;simp[jp])|2,E=>(simp at E;subst E;simp[jp])|3,E=>(simp at E;subst E;simp[jp])) (by intro x hx;simp at hx;rcases hx with rfl|rfl|rfl|rfl<;>rfl) (by unfold maxLen;omega) aA ?_;intro g4 ag ae w4 ac aa;have aj:=aa.keep (ak.out _) (HK.out _) aB;have a5:=aQ aj;obtain⟨s0,s1,s2⟩:=cells3 aj;have H4:cH _:=jy ac (jy aa aj);clear ac aa aj))
 all_goals
  have hN:=((H4.out.2.1.jM.block ↑w (by show _<(Y.alloc _).heap.size;simp;have:=(jE J.out.1);omega) (λe=>ao (cD e))).trans (fV _ _ _ (jE J.out.1))).trans J.out.1;have z4:=kJ ((aW w4 ⟨sb,0,Z⟩ (aH (M ⟨g4,ag,Z⟩) (ps.length+1) ae) _ au.symm).trans hN);go_wp2_with fail;go_ret;have ay:jI (SO sb (.slice va ps.length vc)) Y (w4.setCell ⟨sb,0,Z⟩ (aH (M ⟨g4,ag,Z⟩) (ps.length+1) ae)):=((((jI.alloc _ Y _).trans (.drew _ _) λ_ _ e=>e).trans H4.out.2.1.jM λk _ e=>cD e)).trans (.set w4 sb 0 _) λk _ e=>bE e;have az:=J.out.2.2.1.ro ay
  have a3:g4≠sb:=λe=>by
   obtain⟨c4,aw⟩:=H4.out.1.obj (g:=g4) rfl;rw[e,H4.out.2.2]at aw;simp at aw
  refine⟨rfl,aH (M ⟨g4,ag,Z⟩) (ps.length+1) ae,.slice a u.txs.length b,.slice a' u.logs.length b',⟨?_,?_,λp hp=>?_,aF,H.out.1.few,by have:=HL.out;omega⟩,?_,λg hg=>?_⟩
  .rw[rj H4.out.2.2];rfl
  .rw[iw,aS];exact H4.out.1.kept λg hg=>by cases hg;exact aW _ _ _ _ a3
  .obtain hp|hp:=dM.1 hp
   .exact(J.out.2.2.1.up p hp).ro az
   .rw[dK.1 hp];exact J.out.2.2.2.ro az
  .refine((((((jI.below H.out.2.1 jB _).trans H.out.2.2.2.2 λk _ e=>bE e).trans (.below HR.out.2.1 jB (λ_=>False)) λ_ _ e=>e.elim).trans HV.out.2.1 λk hk e=>aA).trans J.out.2.1 λk hk e=>aA).trans ay λ_ _ e=>e)
  .cases hg;obtain e|e:=H4.out.2.1.own
   .exact bE e
   .refine cD (bH ?_ e)
    show _<=(Y.alloc _).heap.size
    have:=(jE J.out.1)
    simp;omega
def vg{u:X2}(h:Dv.small u=aR):(∀t,t∈u.txs->t.data.length<=16777216)/\∀s,s∈u.logs->s.length<=16777216:=by obtain⟨_,_,h3,h4⟩:=Dv.qj h;exact⟨λt ht=>bH (h3 t ht) aB,λs hs=>bH (h4 s hs) aB⟩
def Pm(u:X2)(vt vl:X)(R:kW w u vt vl)(hs:Dv.small u=aR):dE PQ 19 #[fX #[N ab u.id,N ab u.time,vt,vl]] w λe w'=>∃sb vb ah af,e=bO (aD (M ⟨sb,0,Z⟩))/\tX w' sb vb [({ u with id:=1 },ah,af)] 1 0/\Below ↑w w w'/\∀k,SO sb vb k->w.heap.size<=k:=by
 obtain⟨ta,tc,rfl⟩:=R.1.slice;obtain⟨la,lc,rfl⟩:=Rd.slice R.2.1;obtain⟨V,hV,J,Y⟩:=jD w #[N ab u.id,N ab u.time,.slice ta u.txs.length tc,.slice la u.logs.length lc] 28;obtain⟨W,hW,I,ho⟩:=jD V #[aH Z 0 0,N ab 0,N ab 0] 83;have E:↑V=w.heap.size+1:=by rw[hV];simp
 have hb:Below ↑w w W:=J.trans (I.mono J.size);have hS:tX W ↑V (aH Z 0 0) [] 0 0:=⟨ho,Row.nil _ _ _,λp hp=>by simp at hp,aC,aA,aA⟩
 have z:∀{s n:Nat}{v:X}{xs:List X},Rd w s v n xs->0<n->v.ownBlock≠M V.heap.size:=λhr hn e=>by
  obtain⟨g,off,cap,rfl,_,hg,_⟩:=hr.pos hn;have:g=V.heap.size:=fC e;omega
 have hC:=DV u hS (R.below hb) (vg hs).1 (vg hs).2 ⟨z R.1,z R.2.1⟩ aC aA;obtain⟨z0,z1,z2,z3⟩:=cells4 Y;have ae:↑w<V.heap.size:=aA
 have HC:cH _:=λ(_:Unit)=>hC;have H:cH _:=jy hb E;have Y:=(I.block ↑w ae).trans Y;clear z0 z1 z2 z3;obtain⟨z0,z1,z2,z3⟩:=cells4 Y;clear J I ho hb hS z hC Y R hs;rw[E]at HC;go_enter (fq Tryz.func19 rfl),Tryz.ntmps19;go_upto_region 2 with fail;rw[<-hV,<-hW];clear hV hW E;go_wp2_with (go_at_call 37;refine aT (HC.out ()) ?_;rintro e w1 ⟨rfl,ag,vt,vl,aa,hc,ac⟩;have HR:cH _:=jy aa (jy hc ac);clear aa hc ac)
 go_ret;refine⟨w.heap.size+1,ag,vt,vl,rfl,HR.out.1,((jI.below H.out.1 jB (λ_=>False)).trans HR.out.2.1 λk hk e=>?_).lQ,λk hk=>?_⟩
 .obtain rfl|e:=e
  .omega
  .cases e
 .obtain rfl|e:=hk
  .omega
  .obtain e|e:=HR.out.2.2 k e
   .cases e
   .exact bH H.out.1.size e
def GI(u:U){g off n cap:Nat}(m:Nat){x:Int}(z:m<n)(e:x=m):(nF 35 (aH (M ⟨g,off,Z⟩) n cap) (N ab x)).run PQ u=.ok (aD (M ⟨g,off+m*4,Z⟩)) u:=by subst e;simp[nF,go_sem,(Di Tryz.sizeOf28),z]
def wF(w:U)(sb:Nat)(vb:X)(ps:List PU)(last sil:Nat)(t:Int)(u:X2)(e:pm)(w':U):Prop:=
 if 60<=ps.length then e=bO (cQ #[N ab 0,N ab 5])/\Below ↑w w w'
 else if mY t u=aR then U9 w sb vb ps last sil u (cQ #[N ab (last+1:Nat),N ab 0]) e w'
 else e=bO (cQ #[N ab 0,N ab 2])/\Below ↑w w w'
def ET(u:X2){vt vl:X}(h:tX w sb vb ps last sil)(hu:kW w u vt vl)(J:(0<u.txs.length->vt.ownBlock≠M sb)/\(0<u.logs.length->vl.ownBlock≠M sb))(hi:last<1099511627776){p:PU}(hp:ps[ps.length-1]? =M p)(ht:0<=p.1.time/\p.1.time<=4294967296):dE PQ 24 #[aD (M ⟨sb,0,Z⟩),fX #[N ab u.id,N ab u.time,vt,vl]] w (wF w sb vb ps last sil p.1.time u):=by
 obtain⟨ta,tc,rfl⟩:=hu.1.slice;obtain⟨la,lc,rfl⟩:=Rd.slice hu.2.1;obtain⟨W,hW,hb,hz⟩:=jD w #[N ab u.id,N ab u.time,.slice ta u.txs.length tc,.slice la u.logs.length lc] 28;have hS:=h.below hb;have ao:=h.lt;have hn:ps.length-1<ps.length:=(aN.1 hp).1;obtain⟨g,off,cap,rfl,aq⟩:=h.row.pos aA;obtain⟨c0,c1,c2⟩:=cells3 hS.obj;obtain⟨z0,z1,z2,z3⟩:=cells4 hz;have am:=h.len;by_cases af:60<=ps.length
 .have ag:(60:Int)<=ps.length:=by omega
  have Hb:cH _:=hb;clear h hb hS hz hu J hp ht;unfold wF;simp only[ZD af];go_enter (fq Tryz.func24 rfl),Tryz.ntmps24;go_upto_region 1 with fail;rw[<-hW];clear hW;go_wp2_with fail;exact cM (v:=cQ #[N ab 0,N ab 5]) (by simp[results,Tryz.results24,go_sem]) rfl ⟨rfl,Hb.out⟩
 .have ag:¬(60:Int)<=ps.length:=by omega
  unfold wF;simp only[Zs af];have k1:=Rd.rec oq 4 (λ_=>rfl) hS.row.rd hp (i:=1) (u:=N ab p.1.time) aA rfl;rw[<-dV]at k1;obtain⟨m,hm⟩:∃m,m=ps.length-1:=⟨_,rfl⟩
  have aa:(ps.length:Int)-1=m:=aA
  have ae:IntKind.i64.wrap ((ps.length:Int)-1)=m:=by rw[aa,eT];omega
  rw[<-hm]at k1;have ap:(m:Int)<ps.length:=aA
  have hN:=λW' (hw:Below ↑W W W')=>next_any p.1.time u W' ((hu.below hb).below hw) ht;unfold Ku at hN;obtain⟨t,ac⟩:∃t,p.1.time=t:=⟨_,rfl⟩
  rw[ac]at k1 hN⊢;have ar:∀u,(nF 35 (aH (M ⟨g,off,Z⟩) ps.length cap) (N ab ((ps.length:Int)-1))).run PQ u=.ok (aD (M ⟨g,off+m*4,Z⟩)) u:=λu=>GI u m aA aa;have an:∀u,(nF 35 (aH (M ⟨g,off,Z⟩) ps.length cap) (N ab (IntKind.i64.wrap ((ps.length:Int)-1)))).run PQ u=.ok (aD (M ⟨g,off+m*4,Z⟩)) u:=λu=>GI u m aA ae;clear aa ae;have I:=aJ ↑W W;have ak:=hS.lt;have ai:=hS.row.lt (g:=g) rfl;have z:=(jE hz)
  have H:cH _:=jy h (jy hb (jy hu J));have HN:cH _:=hN;clear h hb hS hz hu J hp ht hN ac hm;obtain⟨q,hq⟩:∃q,mY t u=q:=⟨_,rfl⟩
  rw[hq]at HN⊢;have HQ:cH _:=hq;clear hq;go_enter (fq Tryz.func24 rfl),Tryz.ntmps24;go_upto_region 1 with fail;rw[<-hW];clear hW;go_upto_region 3 with fail;go_cut [27] (λv wx=>v=.bool (!q)/\cH (Below ↑W W wx))
  case first=>
   go_region_with (go_at_call 40;(refine aT (HN.out _ ?_) ?_;(first|exact I|exact I.drew|exact below_drewN I _);rintro e w5 ⟨rfl,E⟩;have a0:=(E.cell (p:=⟨sb,0,Z⟩) ak).trans c0;have a1:=(E.cell (p:=⟨g,off+m*4+1,Z⟩) ai).trans k1;have a2:=(E.cell (p:=⟨↑w,0,Z⟩) z).trans z0;have a3:=(E.cell (p:=⟨↑w,1,Z⟩) z).trans z1;have a4:=(E.cell (p:=⟨↑w,2,Z⟩) z).trans z2;have a5:=(E.cell (p:=⟨↑w,3,Z⟩) z).trans z3;have Y:cH _:=E;clear E))
   all_goals
    go_wp2_with fail;go_meet;refine⟨rfl,?_⟩
    first|exact Y.out|exact I.drew.trans Y.out|exact(below_drewN I _).trans Y.out
  case rest=>
   obtain⟨rfl,Hc⟩:=hcut;cases q
   .go_wp2_with fail;exact cM (v:=cQ #[N ab 0,N ab 2]) (by simp[results,Tryz.results24,go_sem]) rfl ⟨rfl,H.out.2.1.trans (Hc.out.mono H.out.2.1.size)⟩
   .have R:Below ↑w w wc:=H.out.2.1.trans (Hc.out.mono H.out.2.1.size)
    have hs:Dv.small u=aR:=by
     have:=HQ.out;unfold mY at this;simp only[dF]at this;exact this.2
    have hL:=DV u (H.out.1.below R) (H.out.2.2.1.below R) (vg hs).1 (vg hs).2 H.out.2.2.2 aA hi;have HL:cH _:=λ(_:Unit)=>hL;have y0:=(Hc.out.cell (p:=⟨↑w,0,Z⟩) z).trans z0;have y1:=(Hc.out.cell (p:=⟨↑w,1,Z⟩) z).trans z1;have y2:=(Hc.out.cell (p:=⟨↑w,2,Z⟩) z).trans z2;have y3:=(Hc.out.cell (p:=⟨↑w,3,Z⟩) z).trans z3;have HB:cH _:=R;clear hL hs R;go_wp2_with (go_at_call 37;refine aT (HL.out ()) ?_;rintro e w6 ⟨rfl,hR⟩;have HR:cH _:=hR;clear hR)
    obtain⟨ah,vt,vl,r1,r2,r3⟩:=HR.out;refine cM (v:=cQ #[N ab (last+1:Nat),N ab 0]) (by simp[results,Tryz.results24,go_sem]) rfl ⟨rfl,ah,vt,vl,r1,(jI.below HB.out jB _).trans r2 λ_ _ e=>e,λg' aj=>?_⟩;exact(r3 g' aj).imp id (bH HB.out.size)
end
end
open Dv (Lo X2 Cf)
section
variable {k last sil sb:Nat}{vb:X}{ps:List PU}{e:pm}
structure Nd where
 nk:Nat
 sb:Nat
 vb:X
 ps:List PU
 last:Nat
 sil:Nat
 v:Vw
 rs:Bool
structure lX(w:U)(c:Cf)(x:Nd):Prop where
 obj:w.heap[x.nk]? =M (aG (lI c x.sb x.v.vb x.rs) 60 (0,0))
 src:tX w x.sb x.vb x.ps x.last x.sil
 vw:lF w x.v
def NO(x:Nd)(k:Nat):Prop:=k=x.nk\/SO x.sb x.vb k\/VO x.v k
section
variable {w w':U}{c:Cf}{x:Nd}
def lX.types(h:lX w c x){cs:Array X}{t:cG}{z:Nat×Nat}(hk:NO x k)(hc:w.heap[k]? =M (aG cs t z)):t≠125/\t≠9:=by
 obtain rfl|e|e:=hk
 .rw[h.obj]at hc;simp at hc;rw[<-hc.2.1];exact⟨aB,aB⟩
 .rcases h.src.types e hc with rfl|rfl<;>exact⟨aB,aB⟩
 .rcases h.vw.types e hc with rfl|rfl|rfl<;>exact⟨aB,aB⟩
def lX.lt(h:lX w c x)(hk:NO x k):k<↑w:=by
 obtain rfl|(rfl|e)|e:=hk
 .exact(jE h.obj)
 .exact h.src.lt
 .exact h.src.row.lt e
 .exact h.vw.lt e
def lX.kept(h:lX w c x)(hk:∀k,NO x k->w'.heap[k]? =w.heap[k]?)(z:Ro w w'):lX w' c x:=
 ⟨(hk _ (bE rfl)).trans h.obj,h.src.kept (λk e=>hk k (cD (bE e))) z,h.vw.kept (λk e=>hk k (cD (cD e))) z⟩
def lX.below(h:lX w c x)(z:Below ↑w w w'):lX w' c x:=h.kept (λk hk=>z.block k (h.lt hk)) λg _ _ _ hc _=>z.block g (jE hc)
def lX.far(h:lX w c x):¬SO x.sb x.vb x.nk/\¬VO x.v x.nk/\∀k,SO x.sb x.vb k->¬VO x.v k:=by
 have E:=h.obj;refine⟨λe=>?_,λe=>?_,λk e I=>?_⟩
 .rcases h.src.types e E with q|q<;>exact Xs q aB
 .rcases h.vw.types e E with q|q|q<;>exact Xs q aB
 .obtain⟨cs,t,z,hc⟩:∃cs t z,w.heap[k]? =M (aG cs t z):=by
   obtain rfl|e:=e
   .exact⟨_,_,_,h.src.obj⟩
   .obtain⟨c,hc⟩:=h.src.row.obj e;exact⟨_,_,_,hc⟩
  rcases h.src.types e hc with rfl|rfl<;>rcases h.vw.types I hc with q|q|q<;>exact Xs q aB
def lX.cells(h:lX w c x):w.cell? ⟨x.nk,7,Z⟩=M (aD (M ⟨x.sb,0,Z⟩))/\w.cell? ⟨x.nk,8,Z⟩=M (aD (M ⟨x.v.vb,0,Z⟩))/\w.cell? ⟨x.nk,9,Z⟩=M (.bool x.rs):=
 ⟨by rw[aI h.obj];rfl,by rw[aI h.obj];rfl,by rw[aI h.obj];rfl⟩
def lX.afh(h:lX w c x)(hs:tX w' x.sb vb ps last sil)(hc:jI (SO x.sb x.vb) w w'):lX w' c { x with vb:=vb,ps:=ps,last:=last,sil:=sil }:=by have E:=h.src.ro hc;have z:=h.far;exact⟨(hc.block _ (jE h.obj) z.1).trans h.obj,hs,h.vw.kept (λk hk=>hc.block k (h.vw.lt hk) λe=>z.2.2 k e hk) E⟩
def FM(n:Nat)(h:lX w c x)(J:n<=20):dE PQ 10 #[aD (M ⟨x.nk,0,Z⟩),N ab n] w λe w'=>e=bO (N ab 0)/\lX w' c { x with sil:=n }/\jI (NO x) w w':=by
 obtain⟨Y,-,-⟩:=h.cells;have E:=JB n h.src;rw[show(λ(e:pm)(w':U)=>if (n:Int)<0\/20<(n:Int)then e=bO (N ab 3)/\w'=w else e=bO (N ab 0)/\w'=w.setCell ⟨x.sb,2,Z⟩ (N ab n))=λe w'=>e=bO (N ab 0)/\w'=w.setCell ⟨x.sb,2,Z⟩ (N ab n) from by funext e w';rw[Zs aA]]at E;have R:cH _:=λ(_:Unit)=>E;have H:cH _:=h;clear h E;go_enter (fq Tryz.func10 rfl),Tryz.ntmps10;go_wp2_with (go_at_call 26;refine aT (R.out ()) ?_;rintro e w1 ⟨rfl,z⟩;have I:cH _:=z;clear z)
 go_ret;have z:=I.out;subst z;have hc:jI (SO x.sb x.vb) w (w.setCell ⟨x.sb,2,Z⟩ (N ab n)):=(jI.set w x.sb 2 (N ab n)).mono λk _ e=>bE e;exact⟨rfl,H.out.afh (H.out.src.silent J) hc,hc.mono λk _ e=>cD (bE e)⟩
def wO(h:lX w c x):dE PQ 11 #[aD (M ⟨x.nk,0,Z⟩)] w λe w'=>e=bO (cQ #[])/\lX w' c { x with rs:=aR }/\jI (NO x) w w':=by obtain⟨-,-,J⟩:=h.cells;have I:=aQ h.obj;have H:cH _:=h;clear h;go_enter (fq Tryz.func11 rfl),Tryz.ntmps11;go_wp2_with fail;go_end0;have h:=H.out;have hc:=jI.set w x.nk 9 (cK aR);have z:=h.far;have E:Ro w (w.setCell ⟨x.nk,9,Z⟩ (cK aR)):=.jM hc λk cs t I hk e=>h.types (bE hk) e;refine⟨rfl,⟨?_,h.src.kept (λk hk=>hc.block k (h.lt (cD (bE hk))) λe=>z.1 (by rw[<-e];exact hk)) E,h.vw.kept (λk hk=>hc.block k (h.lt (cD (cD hk))) λe=>z.2.1 (by rw[<-e];exact hk)) E⟩,hc.mono λk _ e=>bE e⟩;rw[rj h.obj];rfl
def wF.shape{t:Int}{u:X2}(h:wF w sb vb ps last sil t u e w'):∃i k:Int,e=bO (cQ #[N ab i,N ab k]):=by
 unfold wF at h;split at h
 .exact⟨_,_,h.1⟩
 .split at h
  .exact⟨_,_,h.1⟩
  .exact⟨_,_,h.1⟩
def wF.from{W:U}{t:Int}{u:X2}(z:Below ↑w w W)(h:wF W sb vb ps last sil t u e w'):wF w sb vb ps last sil t u e w':=by
 unfold wF U9 at h⊢;split at h
 .rename_i J;rw[ZD J];exact⟨h.1,z.trans (h.2.mono z.size)⟩
 .rename_i J;rw[Zs J];split at h
  .rename_i I;rw[ZD I];obtain⟨R,E,vt,vl,h2,h3,h4⟩:=h;exact⟨R,E,vt,vl,h2,(jI.below z jB _).trans h3 λ_ _ e=>e,λg Y=>(h4 g Y).imp id (bH z.size)⟩
  .rename_i I;rw[Zs I];exact⟨h.1,z.trans (h.2.mono z.size)⟩
def Lc(u:X2)(vt vl:X)(h:lX w c x)(J:kW w u vt vl)(E:(0<u.txs.length->vt.ownBlock≠M x.sb)/\(0<u.logs.length->vl.ownBlock≠M x.sb))(hi:x.last<1099511627776){p:PU}(hp:x.ps[x.ps.length-1]? =M p)(ht:0<=p.1.time/\p.1.time<=4294967296):dE PQ 8 #[aD (M ⟨x.nk,0,Z⟩),fX #[N ab u.id,N ab u.time,vt,vl]] w (wF w x.sb x.vb x.ps x.last x.sil p.1.time u):=by
 obtain⟨ta,tc,rfl⟩:=J.1.slice;obtain⟨la,lc,rfl⟩:=Rd.slice J.2.1;obtain⟨W,Y,I,hz⟩:=jD w #[N ab u.id,N ab u.time,.slice ta u.txs.length tc,.slice la u.logs.length lc] 28;obtain⟨z0,z1,z2,z3⟩:=cells4 hz;obtain⟨k7,-,-⟩:=(h.below I).cells;have hE:=λW' (hw:Below ↑W W W')=>ET u ((h.below I).below hw).src ((J.below I).below hw) E hi hp ht;have HE:cH _:=hE;have Hb:cH _:=I;have z:=aJ ↑W W;clear h I hz hE J E hp;go_enter (fq Tryz.func8 rfl),Tryz.ntmps8;go_upto_region 1 with fail;rw[<-Y];clear Y;go_region_with (go_at_call 24;(refine aT (HE.out _ ?_) ?_;(first|exact z|exact z.drew|exact below_drewN z _);intro e w5 R;obtain⟨i,k,rfl⟩:=R.shape;have HA:cH _:=R;clear R))
 all_goals
  go_wp2_with fail;refine cM (v:=cQ #[N ab i,N ab k]) (by simp[results,Tryz.results8,go_sem]) rfl ?_;refine wF.from (Hb.out.trans (Below.mono ?_ Hb.out.size)) HA.out
  first|exact z|exact z.drew|exact below_drewN z _
def Y4(h:lX w c x)(Y:0<x.v.log.length)(hs:∀p,p∈x.v.log->p.1.txs.length<=4294967296/\p.1.deps.length<=4294967296):dE PQ 14 #[aD (M ⟨x.nk,0,Z⟩)] w λe w'=>∃z,e=bO z/\∃E,LI2 w z (x.v.log.map cI) E w':=by
 obtain⟨-,k8,-⟩:=h.cells;obtain⟨-,-,c2,-⟩:=cells4 h.vw.obj;have hC:=P7 w ⟨h.vw.log.rd,λp hp=>h.vw.lor p (List.mem_append_left _ hp)⟩ (by have:=h.vw.few;omega) Y hs;have R:cH _:=λ(_:Unit)=>hC;clear h hC hs;go_enter (fq Tryz.func14 rfl),Tryz.ntmps14;go_wp2_with (go_at_call 28;refine aT (R.out ()) ?_;rintro e w1 ⟨z,E,rfl,I⟩;have J:cH _:=I;clear I)
 go_ret;exact⟨z,rfl,E,J.out⟩
end
end
section
variable {K:Act->U->Prop}{w:U}
noncomputable def VP:eE:=match Tryz.f22.body with
 |some (bR c _)=>c
 |_=>.ret
noncomputable def Vg:eE:=match Tryz.f22.body with
 |some (bR _ (bR c _))=>c
 |_=>.ret
noncomputable def O9:eE:=match Tryz.f22.body with
 |some (bR _ (bR _ (bR c _)))=>c
 |_=>.ret
noncomputable def Ui:eE:=match Tryz.f22.body with
 |some (bR _ (bR _ (bR _ c)))=>c
 |_=>.ret
def abk:Tryz.f22.body=M (bR VP (bR Vg (bR O9 Ui))):=XN
structure VS(a:Act)(vb b3:Nat):Prop where
 sz:a.tmps.size=34
 df:a.defers=[]
 t0:a.tmps[0]? =M (aD (M ⟨vb,0,Z⟩))
 t3:a.tmps[3]? =M (aD (M ⟨b3,0,Z⟩))
def VG:(PQ.info? 3).map (λi=>(i.zero,i.size,i.bytes))=M (M (N ab 0),1,8):=XN
def afV(v:Vw)(u:X2)(vu b3 x1 x2 x3:X){bb:Nat}(h:lF w v)(hb:w.heap[bb]? =M (aG #[N ab u.id,x1,x2,x3] 28 (0,0)))(hl:v.seen.length<=60)(hx:b3=aD (M ⟨bb,0,Z⟩))(hQ:∀a' w' vs,VS a' v.vb bb->lF w' { v with vs:=vs,seen:=v.seen++[u.id] }->jI (λk=>k=v.vb\/v.vs.ownBlock=M k) w w'->(∀g,vs.ownBlock=M g->v.vs.ownBlock=M g\/w.heap.size<=g)->K a' w'):Vg.wp PQ (Exit.then K λ_ _ _=>False) { tmps:=#[aD (M ⟨v.vb,0,Z⟩),vu,aE,b3,aE,aE,aE,aE,aE,aE,aE,aE,aE,aE,aE,aE,aE,aE,aE,aE,aE,aE,aE,aE,aE,aE,aE,aE,aE,aE,aE,aE,aE,aE],defers:=[] } w:=by
 subst hx;obtain⟨va,E,z⟩:=h.seen.slice;obtain⟨c0,-,-,-⟩:=cells4 h.obj;have fz:=aQ h.obj;have z0:=kJ hb;rw[z]at c0;obtain⟨i0,ag,af,ah,ai⟩:=pa VG;have Hi:cH _:=jy ag (jy af (jy ah ai));have Y:Row w 3 1 (.slice va v.seen.length E) v.seen.length (v.seen.map λi=>N ab i):=by rw[<-z];exact h.seen
 have ae:cH (∀o,Row (w.alloc o).drew 3 1 (.slice va v.seen.length E) v.seen.length (v.seen.map λi=>N ab i)):=λo=>Y.kept λg hg=>fV _ _ _ (Y.lt hg);have HK:cH (∀o,(w.alloc o).drew.heap[v.vb]? =M (aG #[.slice va v.seen.length E,aD (M ⟨v.kb,0,Z⟩),v.vl,v.vc] 73 (0,0))):=λo=>(fV _ _ _ (jE h.obj)).trans (by rw[h.obj,Vw.cells,z]);have ca:∀o,(w.alloc o).cell? ⟨v.vb,0,Z⟩=M (.slice va v.seen.length E):=λo=>kJ (HK.out o);have H:cH _:=jy h (jy hb (jy z hQ));clear h hb z ag af ah ai Y hQ;simp only[Vg,Tryz.f22];go_region_law ((refine pG (by rfl) (cN 8) (cN 11) 70 (by rfl) 3 i0 _ 1 8 (uq Tryz.underlying70) Hi.out.1 Hi.out.2.1 Hi.out.2.2.1 Hi.out.2.2.2 (by rfl) aB _ v.seen.length _ (by rfl) (ae.out _) ⟨↑w,0,Z⟩ 1 1 [N ab u.id] (by rfl) aB (by rfl) (by intro j x hj;match j,hj with|0,hj=>(simp at hj;subst hj;simp[jp])) (by intro x hx;simp at hx;subst hx;rfl) (by unfold maxLen;omega) aA ?_;intro g4 R J w4 I aa;have ac:=aa.keep (ae.out _) (HK.out _) aB;have an:=aQ ac;have s0:=kJ ac;have H4:cH _:=jy I (jy aa ac);clear I aa ac))
 all_goals
  obtain⟨h,hb,z,hQ⟩:=H.out;have hc:jI (λk=>k=v.vb\/v.vs.ownBlock=M k) w (w4.setCell ⟨v.vb,0,Z⟩ (aH (M ⟨g4,R,Z⟩) (v.seen.length+1) J)):=(((jI.alloc _ w _).trans (.drew _ _) λ_ _ e=>e).trans H4.out.2.1.jM λk _ e=>cD (by rw[z];exact e)).trans (.set w4 v.vb 0 _) λk _ e=>bE e;have hr:=h.ro (hc.mono λk _ e=>e.elim (λe=>bE (bE e)) cD)
  have am:g4≠v.vb:=λe=>by
   obtain⟨c4,aj⟩:=H4.out.1.obj (g:=g4) rfl;rw[e,H4.out.2.2]at aj;simp at aj
  have key:∀{x:X}{m:Nat}{ys:List X},Row w 52 8 x m ys->x.ownBlock≠M v.vb->Row (w4.setCell ⟨v.vb,0,Z⟩ (aH (M ⟨g4,R,Z⟩) (v.seen.length+1) J)) 52 8 x m ys:=λhx ak=>hx.jM hc λg hg e=>by
   obtain rfl|e:=e
   .exact ak hg
   .obtain⟨c1,q1⟩:=hx.obj hg;obtain⟨c2,q2⟩:=h.seen.obj e;rw[q1]at q2;simp at q2
  refine hQ _ _ (aH (M ⟨g4,R,Z⟩) (v.seen.length+1) J) ⟨rfl,rfl,rfl,rfl⟩ ⟨?_,?_,key h.log h.apart.2.1,key h.com h.apart.2.2,λp hp=>(h.lor p hp).ro hr,h.ne,h.few⟩ hc λg hg=>?_
  .rw[rj H4.out.2.2];rfl
  .rw[bJ,aS];exact H4.out.1.kept λg hg=>by cases hg;exact aW _ _ _ _ am
  .cases hg;obtain e|e:=H4.out.2.1.own
   .exact bE (by rw[z];exact e)
   .refine cD (bH ?_ e)
    show _<=(w.alloc _).heap.size
    simp
def afl{u1 u2 u3 u4 u5 u6 u7 u8 u9 ae ac a4 ay av ar an aj ao a1 af ag au aq a3 ah az aa am ai ak a2 aw ap:X}(vb kb:Nat)(vs vl:X)(Y:Option eM)(J z:Nat)(R:Option eM->Nat->Nat->U->Prop)(hk:w.heap[vb]? =M (aG #[vs,aD (M ⟨kb,0,Z⟩),vl,.slice Y J z] 73 (0,0)))(hc:∀W,Below ↑w w W->W.heap[w.heap.size]? =M (aG #[aD (M ⟨kb,0,Z⟩)] 71 (0,0))->dE PQ 32 #[.slice Y J z,.func (.func 54) #[] #[aD (M ⟨↑w,0,Z⟩)]] W (λe W'=>∃a n cap,e=bO (.slice a n cap)/\R a n cap W'))(hR:∀a n cap W',R a n cap W'->W'.heap[vb]? =M (aG #[vs,aD (M ⟨kb,0,Z⟩),vl,.slice Y J z] 73 (0,0)))(hQ:∀a' a n cap W',a'.tmps.size=34->a'.defers=[]->R a n cap W'->K a' (W'.setCell ⟨vb,3,Z⟩ (.slice a n cap))):Ui.wp PQ (Exit.then K λ_ _ _=>False) { tmps:=#[aD (M ⟨vb,0,Z⟩),u1,u2,u3,u4,u5,u6,u7,u8,u9,ae,ac,a4,ay,av,ar,an,aj,ao,a1,af,ag,au,aq,a3,ah,az,aa,am,ai,ak,a2,aw,ap],defers:=[] } w:=by
 obtain⟨-,c1,-,c3⟩:=cells4 hk;have a6:∀o,(w.alloc o).cell? ⟨vb,1,Z⟩=M (aD (M ⟨kb,0,Z⟩)):=λo=>(cells4 ((fV w o _ (jE hk)).trans hk)).2.1;have a5:∀o,(w.alloc o).cell? ⟨vb,3,Z⟩=M (.slice Y J z):=λo=>(cells4 ((fV w o _ (jE hk)).trans hk)).2.2.2;have HC:cH _:=hc;have HR:cH _:=hR;have HQ:cH _:=hQ;clear hc hR hQ hk;have I:=aJ ↑w w;simp only[Ui,Tryz.f22];go_region_with (first|(go_at_call 33;(refine aT (Bh kb _) ?_;rintro e5 w5 ⟨rfl,rfl⟩))|(go_at_call 32;(refine aT (HC.out _ ?_ ?_) ?_;(first|exact(I.alloc jB _).drew|exact I.drew.alloc jB _);(exact cT w _);rintro e6 w6 ⟨a,n,cap,rfl,h6⟩;have E:=HR.out _ _ _ _ h6;have f6:=aQ E;obtain⟨d0,d1,d2,d3⟩:=cells4 E;have H6:cH _:=h6;clear h6 E)))
 all_goals exact HQ.out _ _ _ _ _ rfl rfl H6.out
end
end Hm
namespace Pa
open Go Go.Conc Go.RowKit Go.Joins
open Hm (ptr kD jF jP TS jL kW oz AL PC PB PW PU lives Fits jJ kQ VP Vg O9 Ui VS Vw lF)
open Dv (X2 Cf Ch)
open Po hiding X2 H B IT PR NB
open Cr (Fill)
section
noncomputable def opsV:Array ij:=match O9 with
 |.region _ ops _=>ops
 |_=>#[]
def aaM:∃z,O9=.region z opsV aR:=⟨_,rfl⟩
def TkR(kb nb:Nat)(c:Cf)(vu:X)(us:List PB)(dl:Nat->List (List UInt8))(vo vw:X)(ws:List PW)(nm:AL)(os:List PC)(cnt ep sq:Nat)(u:X2)(w w':U):Prop:=
 ∃Y v3 R J I E z,TS w' kb nb c Y (us++[(u.id,u.time,v3)]) (Nz dl us.length u) R J (ws++I) E z cnt ep sq/\jL (Tk kb nb vu vo vw os) w w'/\(∀j,Tk kb nb Y R J z j->Tk kb nb vu vo vw os j\/w.heap.size<=j)/\z.length<=os.length+4440/\Fits c.most (lives E z)/\(lives E z,(ws++I).map cI)=Dv.take c u us.length (lives nm os) (ws.map cI)
def vsV(vb kb:Nat)(u:X2)(vt vl:X)(i:Nat):X:=(#[ptr vb,ptr vb,aD (M ⟨vb,1,Z⟩),ptr kb,fX #[N ab u.id,N ab u.time,vt,vl],cQ #[]]:Array X).getD i aE
section
variable {Post:vU}{D:Nat->Prop}{w:U}{b:cR}{a:Act}{k:List pS}{XX A:List cR}
variable {kb nb:Nat}{c:Cf}{vu vo vw:X}{us:List PB}{dl:Nat->List (List UInt8)}{ws:List PW}{nm:AL}{os:List PC}{cnt ep sq:Nat}{u:X2}{ta la:Option eM}{tn tc ln lc vb b3:Nat}{x0 x2 x3:X}
def ac4:Cr.fills 34 opsV=aR:=XN
def afo(rd:Cr.ReadW)(hA:VS a vb b3)(hv:w.heap[vb]? =M (aG #[x0,aD (M ⟨kb,0,Z⟩),x2,x3] 73 (0,0)))(h3:w.heap[b3]? =M (aG #[N ab u.id,N ab u.time,.slice ta tn tc,.slice la ln lc] 28 (0,0)))(ag:Tryz.prog.globals.size<=w.heap.size)(hS:TS w kb nb c vu us dl vo vw ws nm os cnt ep sq)(ap:kW w u (.slice ta tn tc) (.slice la ln lc))(an:∀g,(0<u.txs.length/\(aH ta tn tc).ownBlock=M g)\/(0<u.logs.length/\(aH la ln lc).ownBlock=M g)->g<w.heap.size/\¬Tk kb nb vu vo vw os g)(R:Dv.small u=aR)(hcf:Dv.jK c=aR)(aq:us.length<=60)(aj:os.length<=1000000)(ae:Fits c.most (lives nm os))(aa:ws.length+4096*(lives nm os).length<=2000000000)(hQ:∀a' w' D',VS a' vb b3->TkR kb nb c vu us dl vo vw ws nm os cnt ep sq u w w'->Wq D' Post XX (b.at a' k) A w'):Wq D Post XX (b.at a (.code O9::k)) A w:=by
 obtain⟨av,ac⟩:=aaM;rw[ac];refine Wq.fill (τ:=Unit) (λ_=>vsV vb kb u (.slice ta tn tc) (.slice la ln lc)) (λl v D1 _=>(l.getD 5 aL=aL->v=w/\D1=D)/\(l.getD 5 aL=aR->TkR kb nb c vu us dl vo vw ws nm os cnt ep sq u w v)) (by rw[hA.sz];exact ac4) (λl a' v D1 _ hl Y hJ=>?_) (λl a' v D1 _ i o rest ho hi ar Y hJ J=>?_) () ⟨λ_=>⟨rfl,rfl⟩,λh=>by rw[show opsV.size=6 from rfl]at h;cases h⟩
 .exact hQ a' _ _ ⟨Y.size.trans hA.sz,Y.defers.trans hA.df,(Y.slot XN).trans hA.t0,(Y.slot XN).trans hA.t3⟩ (hJ.2 (hl 5 aB))
 .have hold:∀{j:Nat}{cs:Array X}{t:Nat}{fz:Nat×Nat},w.heap[j]? =M (aG cs t fz)->t≠100->t≠102->t≠118->t≠136->t≠140->v.heap[j]? =M (aG cs t fz):=λhj t1 t2 t3 t4 t5=>by
   cases h5:l.getD 5 aL with
   |false=>grind
   |true=>
    obtain⟨_,_,_,_,_,_,_,_,hc,_⟩:=hJ.2 h5;exact(hc.block _ (jE hj) (TS.zn hS hj t1 t2 t3 t4 t5)).trans hj
  have gv:=hold hv aB aB aB aB aB;have g3:=hold h3 aB aB aB aB aB;have keep:i≠5->(((l.setIfInBounds i aR).getD 5 aL=aL->v=w/\D1=D)/\((l.setIfInBounds i aR).getD 5 aL=aR->TkR kb nb c vu us dl vo vw ws nm os cnt ep sq u w v)):=λe=>by rw[getD_set_ne aL e];exact hJ
  have go:i≠5->o.guard=Z->(∀t d,(bN a'.eval o).run PQ (on v t d)=.ok (.value (vsV vb kb u (.slice ta tn tc) (.slice la ln lc) i)) (on v t d))->Wq D1 Post XX (b.at a' (bL opsV (i::rest)::k)) A v:=λe E hr=>Wq.val ho E hr (J v D1 () (λ_ _=>rfl) (keep e));have ai:=(jE ho)
  have e0:=Y.old (s:=0) XN hA.t0;have e3:=Y.old (s:=3) XN hA.t3;have cl:∀{B:Nat}{cs:Array X}{ty:cG}{fz:Nat×Nat}(o:Nat),v.heap[B]? =M (aG cs ty fz)->∀t d,(on v t d).cell? ⟨B,o,Z⟩=cs[o]?:=λo h t d=>aI (show(on v t d).heap[_]? =_ from h) o;have I:∀j t,Cr.waits opsV i j=aR->Cr.nN opsV j=M t->a'.eval (cN t)=vsV vb kb u (.slice ta tn tc) (.slice la ln lc) j:=λj t hw hd=>Y.ev hd (ar j hw)
  match i,ai with
  |0,_=>
   obtain⟨z,E⟩:=Cr.kM (.move (cN 0),Z) ho rfl;refine go aB E λt d=>?_;unfold bN;simp only[z,e0];rfl
  |1,_=>
   obtain⟨z,E⟩:=Cr.kM (.nilCheck (cN 15),Z) ho rfl;refine go aB E λt d=>?_;unfold bN;simp only[z,I 0 15 rfl rfl];rfl
  |2,_=>
   obtain⟨z,E⟩:=Cr.kM (.fieldAddr 73 (cN 16) 1,Z) ho rfl;refine go aB E λt d=>?_;unfold bN;simp only[z,I 1 16 rfl rfl];simp[go_sem];rfl
  |3,_=>
   obtain⟨z,E⟩:=Cr.kM (.load 71 (cN 17),Z) ho rfl;refine go aB E λt d=>?_;have c0:=cl 1 gv t d;unfold bN;simp only[z,I 2 17 rfl rfl];simp[go_sem,vsV,ptr,c0]
  |4,_=>
   obtain⟨z,E⟩:=Cr.kM (.load 28 (cN 3),Z) ho rfl;refine go aB E λt d=>?_;have c0:=cl 0 g3 t d;have c1:=cl 1 g3 t d;have c2:=cl 2 g3 t d;have c3:=cl 3 g3 t d;unfold bN;simp only[z,e3];simp[go_sem,vsV,c0,c1,c2,c3]
  |5,_=>
   obtain⟨z,E⟩:=Cr.kM (.call { callee:=.value (.func 31),args:=#[cN 18,cN 19],argTypes:=#[71,28] },Z) ho rfl;have h5:=Cr.AP hi;obtain⟨rfl,rfl⟩:=hJ.1 h5.1;refine QH rd ho (Cr.jY E) z (I 3 18 rfl rfl) (I 4 19 rfl rfl) ag hS ap an R hcf aq aj ae aa λD' w' au v3 ak am ao ah af r1 r2 r3 r4 r5 r6=>J w' D' () (λ_ _=>rfl) ⟨λh=>(by rw[h5.2]at h;cases h),λ_=>⟨au,v3,ak,am,ao,ah,af,r1,r2,r3,r4,r5,r6⟩⟩
end
end
open Hm (ptr jF jP TS jL jI kW AL PC PB PW PU PL lives Fits jJ kQ VP Vg O9 Ui VS Vw lF VO VL Ro IE Pe)
section
variable {k:Nat}{w w':U}
section
variable {w w':U}{kb nb:Nat}{c:Cf}{vu:X}{us:List PB}{dl:Nat->List (List UInt8)}{vo vw:X}{ws:List PW}{nm:AL}{os:List PC}{cnt ep sq:Nat}
def TS.stands(h:TS w kb nb c vu us dl vo vw ws nm os cnt ep sq)(hk:∀k,Tk kb nb vu vo vw os k->w'.heap[k]? =w.heap[k]?)(I:Ro w w')(E:w'.heap[1]? =w.heap[1]?):TS w' kb nb c vu us dl vo vw ws nm os cnt ep sq:=by
 have z:∀i,w'.cell? ⟨1,i,Z⟩=w.cell? ⟨1,i,Z⟩:=λi=>by unfold eB;rw[E]
 refine⟨⟨(hk _ (bE rfl)).trans h.d.obj,h.d.upper.kept λg e=>hk g (cD (bE e)),h.d.wait.kept λg e=>hk g (cD (cD (bE e))),λj p hp=>Hm.Row.ro (h.d.deps j p hp) (cD rfl) I,λp hp=>Hm.Row.ro (h.d.txs p hp) (cD rfl) I⟩,⟨h.ch.named.of_block (hk _ (cD (cD (cD (bE rfl))))),h.ch.order.kept λg e=>hk g (cD (cD (cD (cD (bE e))))),λo ho=>?_,h.ch.apart,h.ch.maps,h.ch.far,h.ch.entries⟩,⟨⟨by rw[z];exact h.hd.1.1,by rw[z];exact h.hd.1.2.1,by rw[z];exact h.hd.1.2.2⟩,⟨by rw[z];exact h.hd.2.1,by rw[z];exact h.hd.2.2.1,by rw[z];exact h.hd.2.2.2⟩⟩,by rw[E];exact h.ht⟩;have hc:=h.ch.chans o ho;refine⟨(hk _ (cD (cD (cD (cD (cD ⟨o,ho,bE rfl⟩)))))).trans hc.obj,hc.fine,hc.small,hc.lastLt,λe=>?_,hc.spoilt⟩;have s:=hc.sound e;obtain⟨B,J,R⟩:=s.map;exact⟨⟨B,J,R.of_block (hk _ (cD (cD (cD (cD (cD ⟨o,ho,cD J⟩))))))⟩,s.size,s.room,s.ended,s.last⟩
def TS.lt(h:TS w kb nb c vu us dl vo vw ws nm os cnt ep sq)(hk:Tk kb nb vu vo vw os k):k<↑w:=by
 have E:∀{b:Nat}{q:IntKind}{m:AL},Hm.lS w b q m->b<↑w:=λz=>by
  obtain⟨es,I,h,_⟩:=z
  grind
 obtain rfl|e|e|e|e|⟨o,ho,e|e⟩:=hk
 .exact(jE h.d.obj)
 .exact h.d.upper.lt e
 .exact h.d.wait.lt e
 .rw[e];exact E h.ch.named
 .exact h.ch.order.lt e
 .rw[e];exact(dY.1 (h.ch.chans o ho).obj).1
 .have hc:=h.ch.chans o ho;cases hs:o.ch.spoilt with
  |true=>have:=(hc.spoilt hs).2;grind
  |false=>
   obtain⟨B,J,z⟩:=(hc.sound hs).map
   grind
end
structure Ck where
 nb:Nat
 vu:X
 us:List PB
 dl:Nat->List (List UInt8)
 vo:X
 vw:X
 ws:List PW
 nm:AL
 os:List PC
 cnt:Nat
 ep:Nat
 sq:Nat
def Ck.own(y:Ck)(kb k:Nat):Prop:=Tk kb y.nb y.vu y.vo y.vw y.os k
abbrev Ck.at(y:Ck)(w:U)(kb:Nat)(c:Cf):Prop:=TS w kb y.nb c y.vu y.us y.dl y.vo y.vw y.ws y.nm y.os y.cnt y.ep y.sq
def VK(v:Vw)(y:Ck)(k:Nat):Prop:=VO v k\/y.own v.kb k
structure VC(c:Cf)(chain:List X2)(j:Nat)(v:Vw)(y:Ck)(w:U):Prop where
 vw:lF w v
 ts:y.at w v.kb c
 rm:Hm.RM c chain j y.us y.dl ⟨y.ws,y.cnt,y.ep,y.sq⟩ (lives y.nm y.os) ((v.log++v.com).map cI)
 seen:v.seen=(chain.take j).map (·.id)
 osl:y.os.length<=4440*j
 fits:Fits c.most (lives y.nm y.os)
 hdl:∀i,(y.dl i).length<=4294967296
 low:∀k,VK v y k->Tryz.prog.globals.size<=k
def lF.heap{v:Vw}(h:lF w v)(q:w'.heap=w.heap):lF w' v:=h.kept (λk _=>by rw[q]) λg _ _ _ _ _=>by rw[q]
def Jj{v:Vw}(h:lF w v)(hk:VO v k):∃cs t z,w.heap[k]? =M (aG cs t z):=by
 have key:∀{E s n:Nat}{u:X}{xs:List X},Hm.Row w E s u n xs->u.ownBlock=M k->∃cs t z,w.heap[k]? =M (aG cs t z):=λI e=>by
  obtain⟨c,hc⟩:=I.obj e;exact⟨_,_,_,hc⟩
 obtain(rfl|e|e)|e:=hk
 .exact⟨_,_,_,h.obj⟩
 .exact key h.log e
 .exact key h.com e
 .exact key h.seen e
def ny(h:Tryz.prog.globals.size<=k):1≠k:=λe=>by
 have:1<Tryz.prog.globals.size:=Z2 XN;omega
def Ro.heap(q:w'.heap=w.heap):Ro w w':=λg _ _ _ _ _=>by rw[q]
section
variable {c:Cf}{chain:List X2}{j:Nat}{v:Vw}{y:Ck}{w w':U}
def VC.kept(h:VC c chain j v y w)(hk:∀k,VK v y k->w'.heap[k]? =w.heap[k]?)(z:Ro w w')(E:w'.heap[1]? =w.heap[1]?):VC c chain j v y w':=
 ⟨h.vw.kept (λk e=>hk k (bE e)) z,TS.stands h.ts (λk e=>hk k (cD e)) z E,h.rm,h.seen,h.osl,h.fits,h.hdl,h.low⟩
def VC.heap(h:VC c chain j v y w)(q:w'.heap=w.heap):VC c chain j v y w':=h.kept (λ_ _=>by rw[q]) (Ro.heap q) (by rw[q])
def VC.lt(h:VC c chain j v y w)(hk:VK v y k):k<↑w:=hk.elim h.vw.lt (TS.lt h.ts)
def VC.far(h:VC c chain j v y w){cs:Array X}{t:cG}{z:Nat×Nat}(hc:w.heap[k]? =M (aG cs t z))(ht:t∉[73,52,3,100,102,118,136,140]):¬VK v y k:=by
 simp only[dD,mR,or_false,not_or]at ht;rintro(e|e)
 .obtain q|q|q:=h.vw.types e hc
  .exact ht.1 q
  .exact ht.2.1 q
  .exact ht.2.2.1 q
 .exact TS.zn h.ts hc ht.2.2.2.1 ht.2.2.2.2.1 ht.2.2.2.2.2.1 ht.2.2.2.2.2.2.1 ht.2.2.2.2.2.2.2 e
def VC.ro(h:VC c chain j v y w)(hc:jL (VK v y) w w'):Ro w w':=λg cs t E z ht=>hc.block g (jE z) (h.far z (by rcases ht with rfl|rfl<;>decide))
def kV(h:Below ↑w w w'):jL (λ_=>False) w w':=(Hm.jI.below h jB _).h
def Ro.of(hc:jL (λ_=>False) w w'):Ro w w':=λg _ _ _ z _=>hc.block g (jE z) (λe=>e)
def VC.still(h:VC c chain j v y w)(hc:jL (λ_=>False) w w'):VC c chain j v y w':=h.kept (λk hk=>hc.block k (h.lt hk) (λe=>e)) (Ro.of hc) (hc.block _ h.ts.hd.pos (λe=>e))
def Wy(hc:Dv.jS chain=aR)(hcf:Dv.jK c=aR)(E:j<=chain.length):(Dv.gone c chain j).log.length<=2147483648:=by have I:=(Dv.oI hc hcf j E).much;have z:=(Dv.jW hc).2.1;unfold Dv.much at I;omega
end
end
section
def rY{K:Act->U->Prop}{Q:p9->Act->U->Prop}(h:∀a w,K a w->Q .normal a w)(z:p9)(a:Act)(w:U)(e:Exit.then K (λ_ _ _=>False) z a w):Q z a w:=by
 cases z with
 |normal=>exact h a w e
 |_=>exact e.elim
def take_one{chain:List X2}{j:Nat}{u:X2}(z:j<chain.length)(E:chain[j]! =u):(chain.take (j+1)).map (·.id)=(chain.take j).map (·.id)++[u.id]:=by rw[eY z,bJ,<-E];simp[z]
section
variable {Post:vU}{D:Nat->Prop}{XX A:List cR}{c:Cf}{chain:List X2}{j:Nat}{v:Vw}{y:Ck}{w:U}{u:X2}{ta la:Option eM}{tn tc ln lc:Nat}
def DF(rd:Cr.ReadW){b₀:cR}{a₀:Act}{ops:Array ij}{i:Nat}{rest:List Nat}{k:List pS}{o:ij}{x x':jN}{ct:Array cG}(ho:ops[i]? =M o)(hw:cP o (yielded ops a₀.tmps)=aR)(cw:o.op=.call { callee:=.value (.func 22),args:=#[x,x'],argTypes:=ct })(ex:a₀.eval x=ptr v.vb)(ey:a₀.eval x'=fX #[N ab u.id,N ab u.time,.slice ta tn tc,.slice la ln lc])(c6:Tryz.prog.globals.size<=w.heap.size)(h:VC c chain j v y w)(hc:Dv.jS chain=aR)(hcf:Dv.jK c=aR)(hj:j<chain.length)(hu:chain[j]! =u)(cx:Pe w (u,.slice ta tn tc,.slice la ln lc))(bw:∀D' w' v' y' com,VC c chain (j+1) v' y' w'->v'.vb=v.vb->v'.kb=v.kb->v'.vl=v.vl->v'.log=v.log->v'.com=v.com++com->jL (VK v y) w w'->(∀g,VK v' y' g->VK v y g\/w.heap.size<=g)->Wq D' Post XX (b₀.at (a₀.put o.dst (cQ #[])) (bL ops rest::k)) A w'):Wq D Post XX (b₀.at a₀ (bL ops (i::rest)::k)) A w:=by
 have c9:=(Dv.jW hc).2.1;have ae:Dv.small u=aR:=by rw[<-hu];exact Dv.mG _ Z (Dv.jW hc).2.2.1 j hj
 obtain⟨de,dh,_,_⟩:=Dv.qj ae
 have dd:2<=c.step:=by
  unfold Dv.jK at hcf;have:=Z2 hcf;omega
 have db:v.seen.length=j:=by rw[h.seen];simp;omega
 refine Wq.call ho hw cw (fq Tryz.func22 rfl) rfl Hm.abk ?_;simp only[fQ,eP,fP,ex,ey,show Tryz.f22.ntmps=34 from rfl,dR,aU,bY,Nat.reduceAdd,Nat.reduceSub,dH,dG,dU,dI,dS,dN];obtain⟨w1,cf,c1,b0⟩:=jD w #[N ab u.id,N ab u.time,.slice ta tn tc,.slice la ln lc] 28;have bd:=kV c1;have h1:=h.still bd;have s1:=bd.size;refine Wq.seq (Wq.walk λt d Q hN _=>?_);have HN:cH _:=hN;clear hN;simp only[VP,Tryz.f22];go_wp2_with fail;refine HN.out _ _ (Wq.same (y:=w1) (λ_ _=>by rw[cf];rfl) (Wq.seq ?_));clear HN;rw[show(on w t d).heap.size=w.heap.size from rfl];refine Wq.walk λt d Q hN _=>wp_mono (Hm.afV (w:=on w1 t d) (K:=λa' w'=>Q .normal a' w') v u _ _ _ _ _ (lF.heap h1.vw rfl) b0 aA rfl λa2 w2 vs cn ba bh ai=>hN _ _ ?_) (rY λ_ _ e=>e);have ar:jL (λk=>k=v.vb\/v.vs.ownBlock=M k) w1 w2:=bh.h.heaps rfl rfl;clear bh;have s2:=ar.size;have ai:∀g,vs.ownBlock=M g->v.vs.ownBlock=M g\/w1.heap.size<=g:=ai;have b1:Ro w1 w2:=h1.ro (ar.mono λk _ e=>bE (e.elim (λe=>bE (bE e)) cD))
 have cr:∀{k:Nat},k=v.vb\/v.vs.ownBlock=M k->∃cs t fz,w1.heap[k]? =M (aG cs t fz)/\(t=73\/t=3):=λe=>by
  obtain rfl|e:=e
  .exact⟨_,_,_,h1.vw.obj,bE rfl⟩
  .obtain⟨cs,q⟩:=h1.vw.seen.obj e;exact⟨_,_,_,q,cD rfl⟩
 have a7:y.at w2 v.kb c:=TS.stands h1.ts (λk hk=>ar.block k (TS.lt h1.ts hk) λe=>by
  obtain⟨cs,t,fz,q,e|e⟩:=cr e<;>subst e<;>exact TS.zn h1.ts q aB aB aB aB aB hk) b1 (ar.block _ h1.ts.hd.pos λe=>ny (h.low _ (bE (e.elim (λe=>bE (bE e)) cD))) rfl)
 have ag:=(cx.ro (Ro.of bd)).ro b1
 have cc:w2.heap[w.heap.size]? =_:=(ar.block ↑w (jE b0) λe=>by
  grind).trans b0
 refine Wq.seq (afo rd cn ba.obj cc aA a7 (ag.at (by dsimp only;omega) (by dsimp only;omega)) (λg R=>?ap) ae hcf (by rw[h.rm.len];omega) (by have:=h.osl;omega) h.fits ?much λa3 w3 D3 cg cy=>?_)
 case ap=>
  obtain⟨_,e⟩|⟨_,e⟩:=R
  .obtain⟨cs,q⟩:=ag.1.obj e;exact⟨ag.1.lt e,TS.zn a7 q aB aB aB aB aB⟩
  .obtain⟨cs,q⟩:=Hm.Row.obj ag.2 e;exact⟨Hm.Row.lt ag.2 e,TS.zn a7 q aB aB aB aB aB⟩
 case much=>
  have hF:=(Dv.oI hc hcf j aA).much;unfold Dv.much at hF;rw[<-h.rm.chs,<-h.rm.wait,bC]at hF;have:y.ws.length=(Hm.sD.mk y.ws y.cnt y.ep y.sq).ws.length:=rfl;omega
 obtain⟨au,v3,aq,a1,Y,a5,av,af,bv,az,c5,bu,bo⟩:=cy;have s3:=bv.size;have Uj:∀{g:Nat}{cs:Array X}{t:Nat}{fz:Nat×Nat},w2.heap[g]? =M (aG cs t fz)->t≠100->t≠102->t≠118->t≠136->t≠140->w3.heap[g]? =w2.heap[g]?:=λq t1 t2 t3 t4 t5=>bv.block _ (jE q) (TS.zn a7 q t1 t2 t3 t4 t5);have cl:Ro w2 w3:=λg cs t fz q e=>by grind
 have E:lF w3 { v with vs:=vs,seen:=v.seen++[u.id] }:=ba.kept (λk hk=>by
  obtain⟨cs,t,fz,q⟩:∃cs t fz,w2.heap[k]? =M (aG cs t fz):=Jj ba hk;rcases ba.types hk q with rfl|rfl|rfl<;>exact Uj q aB aB aB aB aB) cl
 have a8:=h.rm.took hj aA (v:=v3) (cs':=lives a5 av) (ws':=y.ws++Y) (by rw[hu,bo,h.rm.len]);rw[hu]at a8
 have bk:∀i,(Nz y.dl y.us.length u i).length<=4294967296:=λi=>by
  unfold Nz;split
  .exact Rn _ ae
  .exact h.hdl i
 have a9:=RT.count a8 hc hcf hj;rw[bC,aS]at a9;have bs:=a8.good hc hcf hj;obtain⟨aa,ac,a0⟩:∃a cap,v.vc=.slice a v.com.length cap:=E.com.slice;obtain⟨tm,df⟩:=a3;obtain⟨sz,b6,t0,t3⟩:=cg;dsimp only at sz b6 t0 t3;subst b6;obtain⟨l⟩:=tm;replace sz:l.length=34:=sz
 iterate 34 (obtain⟨_,l,rfl,b3⟩:=Hm.yO sz;clear sz;have sz:=b3;clear b3)
 obtain rfl:=cJ.1 sz;simp only[eX,eU,dX,aK]at t0 t3;subst t0;have ah:w3.heap[v.vb]? =M (aG #[vs,aD (M ⟨v.kb,0,Z⟩),v.vl,.slice aa v.com.length ac] 73 (0,0)):=E.obj.trans (by simp only[Vw.cells,a0]);have J:Hm.Row w3 52 8 (.slice aa v.com.length ac) v.com.length (v.com.flatMap jJ):=by rw[<-a0];exact E.com
 have aw:∀q,q∈v.com->kQ w3 q.2.1 q.1.txs/\kQ w3 q.2.2 q.1.deps:=λq hq=>E.lor q (oR _ hq);refine Wq.walk λt d Q hN _=>wp_mono (Hm.afl (w:=on w3 t d) (K:=λa' w'=>Q .normal a' w') v.vb v.kb vs v.vl aa v.com.length ac (RD c (y.us++[(u.id,u.time,v3)]) (Nz y.dl y.us.length u) v.kb y.nb au aq a1 ⟨y.ws++Y,y.cnt,y.ep,y.sq⟩ v.com (.slice aa v.com.length ac) w3) ah (λW hb cj=>?calls) (λa n cap W hX=>?view) λa4 am n4 ak w4 dg cq hX=>hN _ _ ?_) (rY λ_ _ e=>e)
 case calls=>
  have cz:TS (on w3 t d) v.kb y.nb c au (y.us++[(u.id,u.time,v3)]) (Nz y.dl y.us.length u) aq a1 (y.ws++Y) a5 av y.cnt y.ep y.sq:=af.heap rfl;refine(Hm.vT v.kb ↑w3 c au _ _ y.nb aq a1 ⟨_,y.cnt,y.ep,y.sq⟩ _ v.com _ bs aA bk (cz.d.below hb) cj aC ((J.heap (w':=on w3 t d) rfl).below hb) (λq hq=>⟨Hm.Row.below (Hm.Row.heap (w':=on w3 t d) (aw q hq).1 rfl) hb,Hm.Row.below (Hm.Row.heap (w':=on w3 t d) (aw q hq).2 rfl) hb⟩) (by grind)).mono ?_;rintro e W' ⟨I,z,a',b5,rfl,q1,q2,q3,q4,q5,q6,q7⟩;refine⟨a',_,b5,rfl,I,z,rfl,q1,q2,q3,q4,q5,?_,λg R=>(q7 g R).imp id (λq=>bH hb.size q)⟩;exact((Hm.jI.below hb jB _).trans q6 (λ_ _ e=>e)).h.heaps rfl rfl
 case view=>
  obtain⟨I,z,-,-,-,-,-,-,aj,-⟩:=hX;refine(aj.block _ (jE ah) ?_).trans ah;rintro((e|e)|e)
  .exact TS.zn af ah aB aB aB aB aB (bE e)
  .exact Hm.jH af.d.wait ah aB e
  .exact Hm.jH J ah aB e
 obtain⟨I,z,cu,cd,b7,br,bp,bm,aj,ci⟩:=hX;subst cu;have s4:=aj.size;have b8:=a8.drawn hc hcf hj cd;unfold Hm.Zf at bm;generalize (Hm.sD.mk (Hm.jO c (y.us++[(u.id,u.time,v3)]) (Hm.jQ ⟨y.ws++Y,y.cnt,y.ep,y.sq⟩ I).ws (Hm.jQ ⟨y.ws++Y,y.cnt,y.ep,y.sq⟩ I).cnt (Hm.jQ ⟨y.ws++Y,y.cnt,y.ep,y.sq⟩ I).ep).2 (Hm.jQ ⟨y.ws++Y,y.cnt,y.ep,y.sq⟩ I).cnt (Hm.jQ ⟨y.ws++Y,y.cnt,y.ep,y.sq⟩ I).ep (Hm.jQ ⟨y.ws++Y,y.cnt,y.ep,y.sq⟩ I).sq)=st4 at bm b8;obtain⟨b2,ck,b4⟩:=bm;have bb:=TS.drawn af ck J aj (λe=>ny (h.low _ (bE (bE (cD (cD (by rw[a0];exact e)))))) rfl)
 have ce:∀{g:Nat}{cs:Array X}{t:Nat}{fz:Nat×Nat},w3.heap[g]? =M (aG cs t fz)->t≠100->t≠118->t≠52->¬((g=v.kb\/a1.ownBlock=M g)\/(aH aa v.com.length ac).ownBlock=M g):=λq t1 t2 t3 e=>by
  obtain(e|e)|e:=e
  .rw[e,af.d.obj]at q;simp only[aK,Obj.cells.injEq]at q;exact t1 q.2.1.symm
  .exact Hm.jH af.d.wait q t2 e
  .exact Hm.jH J q t3 e
 have b9:∀{g:Nat}{cs:Array X}{t:Nat}{fz:Nat×Nat},w3.heap[g]? =M (aG cs t fz)->t≠100->t≠118->t≠52->w4.heap[g]? =w3.heap[g]?:=λq t1 t2 t3=>aj.block _ (jE q) (ce q t1 t2 t3);have cv:Ro w3 w4:=λg cs t fz q e=>by grind
 have a6:=(b9 ah aB aB aB).trans ah
 have bn:Hm.Row w4 52 8 v.vl v.log.length (v.log.flatMap jJ):=E.log.kept λg R=>aj.block g (E.log.lt R) λe=>by
  obtain⟨cs,q⟩:=E.log.obj R;obtain(e|e)|e:=e
  .rw[e,af.d.obj]at q;simp at q
  .exact Hm.jH af.d.wait q aB e
  .exact E.ne g R (by rw[a0];exact e)
 have ao:jI (λk=>k=v.vb) w4 (w4.setCell ⟨v.vb,3,Z⟩ (.slice am (v.com++z).length ak)):=.set w4 v.vb 3 _
 have ay:∀{e s n:Nat}{x:X}{xs:List X},Hm.Row w4 e s x n xs->e≠73->Hm.Row (w4.setCell ⟨v.vb,3,Z⟩ (.slice am (v.com++z).length ak)) e s x n xs:=λhr ht=>hr.jM ao λg R e=>by
  obtain⟨cs,q⟩:=hr.obj R;rw[e,a6]at q;simp only[aK,Obj.cells.injEq]at q;exact ht q.2.1.symm
 have bz:Ro w4 (w4.setCell ⟨v.vb,3,Z⟩ (.slice am (v.com++z).length ak)):=.jM ao λk cs t fz e q=>by
  grind
 have co:=TS.stands bb (w':=w4.setCell ⟨v.vb,3,Z⟩ (.slice am (v.com++z).length ak)) (λk hk=>ao.block k (TS.lt bb hk) λe=>by
  rw[e]at hk;exact TS.zn bb a6 aB aB aB aB aB hk) bz (ao.block _ bb.hd.pos λe=>ny (h.low _ (bE (bE (bE rfl)))) e)
 have bg:∀g,(aH am (v.com++z).length ak).ownBlock=M g->v.vc.ownBlock=M g\/w3.heap.size<=g:=λg R=>by grind
 refine Wq.fin λtodo=>Wq.leave (v:=cQ #[]) (fn:=Tryz.f22) rfl cq rfl (fq Tryz.func22 rfl) (λw=>by simp[results,Tryz.results22,go_sem]) ?_;rw[fO,ho];have bq:((v.log++(v.com++z)).map cI)=(v.log++v.com).map cI++I.map (Hm.pJ c (y.us++[(u.id,u.time,v3)]) (Nz y.dl y.us.length u)):=by rw[<-fM,bJ (l₁:=v.log++v.com),b7]
 have bl:Hm.RM c chain (j+1) (y.us++[(u.id,u.time,v3)]) (Nz y.dl y.us.length u) st4 (lives a5 av) ((v.log++(v.com++z)).map cI):=by rw[bq];exact b8
 have ca:=Wy hc hcf (show j+1<=chain.length by omega);rw[<-(bl.some aA).1,bC,aS]at ca
 have bj:∀g,VK { v with vs:=vs,seen:=v.seen++[u.id],vc:=.slice am (v.com++z).length ak,com:=v.com++z } ⟨y.nb,au,y.us++[(u.id,u.time,v3)],Nz y.dl y.us.length u,aq,b2,st4.ws,a5,av,st4.cnt,st4.ep,st4.sq⟩ g->VK v y g\/w.heap.size<=g:=λg R=>by
  have an:∀{q},Tk v.kb y.nb au aq a1 av q->VK v y q\/w.heap.size<=q:=λe=>(az _ e).imp cD aA;obtain((e|e|e)|e)|e:=R
  .exact bE (bE (bE (bE e)))
  .exact bE (bE (bE (cD (bE e))))
  .obtain e|e:=bg g e
   .exact bE (bE (bE (cD (cD e))))
   .exact cD aA
  .obtain e|e:=ai g e
   .exact bE (bE (cD e))
   .exact cD aA
  .obtain e|e|e|e:=e
   .exact an (bE e)
   .exact an (cD (bE e))
   .exact an (cD (cD (bE (b4 g e))))
   .exact an (cD (cD (cD e)))
 refine bw D3 _ { v with vs:=vs,seen:=v.seen++[u.id],vc:=.slice am (v.com++z).length ak,com:=v.com++z } ⟨y.nb,au,y.us++[(u.id,u.time,v3)],Nz y.dl y.us.length u,aq,b2,st4.ws,a5,av,st4.cnt,st4.ep,st4.sq⟩ z ⟨⟨?_,?_,ay bn aB,ay br aB,λp hp=>?_,λg R e=>?_,by dsimp only;omega⟩,co,bl,?_,?_,bu,bk,λg R=>(bj g R).elim (h.low g) aA⟩ rfl rfl rfl rfl rfl ?_ bj
 .rw[rj a6];rfl
 .exact ay (E.seen.kept λg R=>by
   obtain⟨cs,q⟩:=E.seen.obj R;exact b9 q aB aB aB) aB
 .dsimp only at hp;rw[<-fM]at hp;obtain hp|hp:=dM.1 hp
  .exact((E.lor p hp).ro cv).ro bz
  .exact IE.ro (bp p (oR _ hp)) bz
 .obtain e|e:=bg g e
  .exact E.ne g R e
  .have:=E.log.lt R;omega
 .rw[take_one hj hu,h.seen]
 .have:=h.osl;dsimp only;omega
 ·
  refine⟨by have:=ao.size;omega,λk hk hn=>?_⟩;rw[ao.block k aA λe=>hn (bE (bE (bE e))),aj.block k aA ?c4,bv.block k aA ?c3,ar.block k aA ?c2,bd.block k hk (λe=>e)]
  case c2=>exact λe=>hn (bE (e.elim (λe=>bE (bE e)) cD))
  case c3=>exact λe=>hn (cD e)
  case c4=>
   rintro((e|e)|e)
   .exact hn (cD (bE e))
   .obtain e|e:=az k (cD (cD (bE e)))
    .exact hn (cD e)
    .omega
   .exact hn (bE (bE (cD (cD (by rw[a0];exact e)))))
end
end
open Hm (ptr jF TS jL jI kW PU PL jJ Vw lF VO VL Xj Ro IE Pe Nd lX NO SO tX)
section
section
variable {c:Cf}{chain:List X2}{j n:Nat}{v:Vw}{y:Ck}{w w':U}
def VC.laid(h:VC c chain j v y w)(hp:Xj w v n w'):∃v',VC c chain j v' y w'/\v'.vb=v.vb/\v'.kb=v.kb/\v'.log=v.log++v.com.take n/\v'.com=v.com.drop n/\jL (VK v y) w w'/\∀g,VK v' y g->VK v y g\/w.heap.size<=g:=by
 obtain⟨vl,vc,hV,hc,R,Y⟩:=hp;have z:jL (VK v y) w w':=hc.h.mono λk _ e=>bE (bE e)
 have ty:∀{k:Nat},VL v k->∃cs t E,w.heap[k]? =M (aG cs t E)/\(t=73\/t=52\/t=3):=λe=>by
  obtain⟨cs,t,E,q⟩:=Jj h.vw (bE e);exact⟨cs,t,E,q,h.vw.types (bE e) q⟩
 have J:y.at w' v.kb c:=TS.stands h.ts (λk hk=>hc.block k (TS.lt h.ts hk) λe=>by
  obtain⟨cs,t,E,q,e|e|e⟩:=ty e<;>subst e<;>exact TS.zn h.ts q aB aB aB aB aB hk) (h.ro z) (hc.block _ h.ts.hd.pos λe=>ny (h.low _ (bE (bE e))) rfl)
 have ho:∀g,VK { v with vl:=vl,log:=v.log++v.com.take n,vc:=vc,com:=v.com.drop n } y g->VK v y g\/w.heap.size<=g:=λg I=>by
  obtain((e|e|e)|e)|e:=I
  .exact bE (bE (bE (bE e)))
  .exact(R g e).imp (λe=>bE (bE (cD (bE e)))) id
  .exact bE (bE (bE (cD (cD (Y ▸ e)))))
  .exact bE (bE (cD e))
  .exact bE (cD e)
 refine⟨_,⟨hV,J,?_,h.seen,h.osl,h.fits,h.hdl,λk hk=>(ho k hk).elim (h.low k) λe=>?_⟩,rfl,rfl,rfl,rfl,z,ho⟩
 .dsimp only;rw[fM,oy];exact h.rm
 .have:=h.lt (k:=v.vb) (bE (bE (bE rfl)));have:=h.low v.vb (bE (bE (bE rfl)));omega
end
structure Nn where
 x:Nd
 y:Ck
def NK(p:Nn)(k:Nat):Prop:=NO p.x k\/p.y.own p.x.v.kb k
def VK.nk{p:Nn}{k:Nat}(h:VK p.x.v p.y k):NK p k:=h.elim (λe=>bE (cD (cD e))) cD
structure NC(c:Cf)(chain:List X2)(j k:Nat)(rs:Bool)(sil:Nat)(p:Nn)(w:U):Prop where
 nd:lX w c p.x
 vc:VC c chain j p.x.v p.y w
 ps:p.x.ps.map cI=chain
 last:p.x.last=chain.length
 sil:p.x.sil=sil
 rs:p.x.rs=rs
 kl:p.x.v.log.length=k
 k1:1<=k
 ids:∀i,i<chain.length->(chain[i]!).id=((i+1:Nat):Int)
 hc:Dv.jS chain=aR
 hcf:Dv.jK c=aR
 j1:1<=j
 jl:j<=chain.length
 low:∀k,NK p k->Tryz.prog.globals.size<=k
structure Oo(w:U)(te:cG)(xe:X):Prop where
 gl:Tryz.prog.globals.size<=w.heap.size
 ev:w.cell? ⟨0,0,Z⟩=M (.iface te xe)
 hd:qM w
def Oo.kept{w w':U}{XS:Nat->Prop}{te:cG}{xe:X}(h:Oo w te xe)(hc:jL XS w w')(z:∀k,XS k->Tryz.prog.globals.size<=k):Oo w' te xe:=by
 have hs:=hc.size;have R:=h.gl;have J:0<Tryz.prog.globals.size:=Z2 XN;have I:1<Tryz.prog.globals.size:=Z2 XN;have E:¬XS 1:=λe=>by have:=z _ e;omega
 refine⟨aA,?_,Hm.mX h.hd.hd hc E,by rw[hc.block _ h.hd.hd.pos E];exact h.hd.ty⟩;rw[<-h.ev];unfold eB;rw[show w'.heap[(Addr.mk 0 0 Z).block]? =w.heap[(Addr.mk 0 0 Z).block]? from hc.block 0 aA λe=>by have:=z _ e;omega]
end
end Pa
namespace Hm
open Go.RowKit Go.Joins Go.Shelf
open Fr (below_drewN)
open Dv (Lo)
attribute [local go_sem] Oper.semAt_some
variable {ps:List PU}
def BwT(z g off cap:Nat)(ids:List Int)(_:List Nat)(W:U):Prop:=W.cell? ⟨z,0,Z⟩=M (aH (M ⟨g,off,Z⟩) ids.length cap)/\∀i,i<ids.length->W.cell? ⟨g,off+i,Z⟩=M (N ab (ids.getD i 0))
def Vu(cB g off cap:Nat)(ids:List Int)(hl:ids.length<=4294967296):OX PQ 130 #[aD (M ⟨cB,0,Z⟩)] (λx:Nat=>#[N ab (x:Nat),N ab (ids.getD x 0)]) (λ_=>False) (BwT cB g off cap ids) (λ_ _=>True) (λz x _ W=>BwT cB g off cap ids z W/\x+z.length+1=ids.length) (λxs=>xs.length=ids.length) (λ_=>True):=by
 intro l J Jx W hM ae hS R Y;obtain⟨n,hn⟩:∃n,ids.length=n:=⟨_,rfl⟩
 have E:cH _:=jy R (jy Y (jy hS hn));obtain⟨c0,-⟩:=hS;rw[hn]at c0 hl;clear R Y hM hn;refine callsIn_of_wp (fq Tryz.func130 rfl) rfl trivial ?_ rfl;simp only[Tryz.ntmps130,dR,aU,bY,Nat.reduceAdd,Nat.reduceSub,dH,dG,dU,dI,dS,dN];gi_wp2;gi_loopw [3] (λt wr=>∃(z:List Nat)(k:Nat),t=N ab ((k:Int)-1)/\cH (k+z.length=n/\J z wr/\BwT cB g off cap ids z wr)) (λt _=>(intOf t+1).toNat)
 case atStart=>exact⟨[],n,rfl,aC,E.out.2.1,E.out.2.2.1⟩
 case round=>
  obtain⟨z,k,rfl,Hr⟩:=hrel;clear c0;obtain⟨hk,I,c0,c1⟩:=Hr.out;rw[E.out.2.2.2]at c0;cases k with
  |zero=>
   clear c1 I;have ac:¬(0:Int)<=-1:=aA
   rw[show(((0:Nat):Int)-1)=-1 from rfl];gi_wp2;go_end0;exact⟨⟨_,rfl⟩,bE ⟨z,by rw[E.out.2.2.2];omega,wr,Hr.out.2.1,.refl _ _⟩⟩
  |succ k=>
   have af:=c1 k (by rw[E.out.2.2.2];omega);obtain⟨fn,tmps,assign,body,hy,hR⟩:=E.out.1 z k wr wr I (.refl _ _) ⟨Hr.out.2.2,by rw[E.out.2.2.2];omega⟩;generalize ids.getD k 0=id at *;have HR:cH _:=hR;have ag:(0:Int)<=(k:Int):=aA
   have ah:(k:Int)<(n:Int):=aA
   rw[show(((k+1:Nat):Int)-1)=(k:Int) by omega];clear hR c1 I;gi_wp2;refine RoundIn.mono HR.out ?_;rintro e W3 (⟨rfl,I,_,hS,_⟩|⟨rfl,aa⟩)
   .have HS:cH _:=jy I hS;clear I hS;gi_wp2;go_roundw
    case rel=>exact⟨z++[k],k,by go_num,by rw[aS,iF,<-hk];omega,HS.out.1,HS.out.2⟩
    case measure=>simp[intOf]
   .gi_wp2;refine cM (results_none rfl _ _ _) rfl ?_;exact⟨⟨_,rfl⟩,cD ⟨_,W3,trivial,aa,.refl _ _⟩⟩
def BwT.own(z g off cap:Nat)(ids:List Int)(m:Nat):rq m (BwT z g off cap ids):=by
 rintro J A B row ⟨R,h2⟩ I Y;obtain⟨M',hc,E,aa⟩:=lH I Y
 have key:∀{b o:Nat}{v:X},A.cell? ⟨b,o,Z⟩=M v->B.cell? ⟨b,o,Z⟩=M v:=λ{b o v} h=>by
  obtain⟨cs,t,fz,hk⟩:=Gt h;exact(bX (hc.block b (jE hk) (E _ _ _ _ hk))).trans h
 exact⟨key R,λi hi=>key (h2 i hi)⟩
def FB(ps:List PU)(id:Int):Prop:=∀p,p∈ps->p.1.id≠id
def Qc(ids:List Int)(ps:List PU)(x:Nat):Prop:=x<ids.length/\¬FB ps (ids.getD x 0)/\∀i,x<i->i<ids.length->FB ps (ids.getD i 0)
def abj(w:U)(sb:Nat)(vb:X)(ps:List PU)(last sil:Nat)(ev:X)(ids:List Int)(e:pm)(w':U):Prop:=∃k:Int,Ll w sb vb ps last sil ev (N ab k) e w'/\(¬0<sil->∃x:Nat,k=x/\Qc ids ps x)
def CoJ(w:U)(nk:Nat)(ps:List PU)(sil:Nat)(ids:List Int)(z:List Nat)(W:U):Prop:=(z≠[]->sil=0)/\(∀i,i<ids.length->ids.length<=i+z.length->FB ps (ids.getD i 0))/\YR w nk (N ab 0) .nilIface W/\jI (λ_=>False) w W
def CoY(w:U)(sb:Nat)(vb:X)(ps:List PU)(last sil:Nat)(ev:X)(ids:List Int)(c:eE)(_:List Nat)(W:U):Prop:=∃k:Int,(¬0<sil->∃x:Nat,k=x/\Qc ids ps x)/\CoX w sb vb ps last sil ev (N ab k) c [] W
def CoJ.own(w:U)(nk:Nat)(ps:List PU)(sil:Nat)(ids:List Int)(m:Nat)(hm:w.heap.size+3<=m):rq m (CoJ w nk ps sil ids):=by rintro I A B row ⟨z,h3,R,h2⟩ E Y;obtain⟨-,J,q2⟩:=CoI.own w nk m hm [] A B row ⟨rfl,R,h2⟩ E Y;exact⟨z,h3,J,q2⟩
def CoY.own(w:U)(sb:Nat)(vb:X)(ps:List PU)(last sil:Nat)(ev:X)(ids:List Int)(c:eE)(m:Nat)(J:w.heap.size+3<=m):rq m (CoY w sb vb ps last sil ev ids c):=by rintro E A B row ⟨k,hk,h⟩ z I;exact⟨k,hk,CoX.own w sb vb ps last sil ev _ c m J [] A B row h z I⟩
def YG{id:Int}{m:Nat}{p:PU}(h:idx (λp:PU=>decide (p.1.id=id)) ps=m)(hp:ps[m]? =M p):p.1.id=id:=by
 unfold idx at h;split at h
 .rename_i i E;obtain rfl:i=m:=by omega
  obtain⟨z,h2,_⟩:=iZ.1 E;rw[aO z]at hp;cases hp;simpa using h2
 .omega
def WW{id:Int}(h:idx (λp:PU=>decide (p.1.id=id)) ps<0\/(ps.length:Int)<=idx (λp:PU=>decide (p.1.id=id)) ps):FB ps id:=by
 unfold idx at h;split at h
 .rename_i i z;obtain⟨E,_⟩:=iZ.1 z;omega
 .rename_i z;intro p hp;have:=List.findIdx?_eq_none_iff.1 z p hp;simpa using this
def KH{c:Dv.Cf}{nk sb:Nat}{vb:X}{last sil:Nat}{v:Vw}{rs:Bool}{te:cG}{xe:X}{w:U}(hN:w.heap[nk]? =M (aG (lI c sb v.vb rs) 60 (0,0)))(hS:tX w sb vb ps last sil)(hV:lF w v)(a9:w.cell? ⟨0,0,Z⟩=M (.iface te xe))(hl:v.seen.length<=60)(hf:∃x,x<v.seen.length/\¬FB ps (v.seen.getD x 0))(a5:0<ps.length):dE PQ 42 #[aD (M ⟨nk,0,Z⟩)] w (abj w sb vb ps last sil (.iface te xe) v.seen):=by
 have hn:0<v.seen.length:=by obtain⟨x,hx,_⟩:=hf;omega
 obtain⟨g,off,cap,aq,_⟩:=hV.seen.pos hn;obtain⟨A,hA,ar,a0⟩:=jD w #[aD (M ⟨nk,0,Z⟩)] 31;obtain⟨B,hB,aa,b0⟩:=jD A #[N ab 0] 3;obtain⟨V,az,ah,v0⟩:=jD B #[.nilIface] 62;have sA:↑A=w.heap.size+1:=by rw[hA];simp
 have sB:↑B=w.heap.size+2:=by rw[hB];simp[sA]
 rw[sA]at b0;rw[sB]at v0;have an:Below ↑w w V:=ar.trans ((aa.trans (ah.mono aa.size)).mono ar.size);have ap:YR w nk (N ab 0) .nilIface V:=⟨((aa.trans (ah.mono aa.size)).block _ aA).trans a0,(ah.block _ aA).trans b0,v0⟩
 have kN:∀W,Below ↑w w W->W.cell? ⟨nk,7,Z⟩=M (aD (M ⟨sb,0,Z⟩))/\W.cell? ⟨nk,8,Z⟩=M (aD (M ⟨v.vb,0,Z⟩)):=λW hb=>by
  have:=(hb.block nk (jE hN)).trans hN;exact⟨by rw[aI this];rfl,by rw[aI this];rfl⟩
 have ae:=EC v (M ⟨g,off,Z⟩) cap V (hV.below an) aq;have sV:↑V=w.heap.size+3:=by rw[az];simp[sB]
 rw[sV]at ae;have HA:cH _:=λ(_:Unit)=>ae;have H:cH _:=jy hS (jy hV (jy a9 (jy a5 (jy hf (jy kN (jy an (jy ap (jy aq sV))))))));obtain⟨_,k8⟩:=kN V an;have x0:=kJ ap.box;obtain⟨n,a2⟩:∃n,v.seen.length=n:=⟨_,rfl⟩
 rw[a2]at hn hl HA;have Hn:cH _:=a2;clear hN hS hV a9 a5 hf kN an ap ae aq ar aa ah a0 b0 v0 a2;refine gO.1 (callsIn_of_wp_marks (n:=3) (fq Tryz.func42 rfl) rfl trivial ?_ rfl);simp only[Tryz.ntmps42,dR,aU,bY,Nat.reduceAdd,Nat.reduceSub,dH,dG,dU,dI,dS,dN];have am:V=((w.alloc (aG #[aD (M ⟨nk,0,Z⟩)] 31)).alloc (aG #[N ab 0] 3)).alloc (aG #[.nilIface] 62):=by rw[az,hB,hA]
 clear hA hB az;rw[am]at k8 x0;gi_wp2;rw[<-am];refine⟨trivial,(gO.2 (HA.out ())).mono ?_⟩;rintro e w' ⟨rfl,rfl⟩;obtain⟨Wd,hX,a6,x1⟩:=jD V #[aH (M ⟨g,off,Z⟩) n cap] 70;gi_wp2;rw[am]at hX;have sX:↑Wd=w.heap.size+4:=by rw[hX];simp
 rw[<-hX];clear am hX;have a7:=H.out.2.2.2.2.2.2.1.trans (a6.mono H.out.2.2.2.2.2.2.1.size);have x2:Wd.cell? ⟨w.heap.size+3,0,Z⟩=M (aH (M ⟨g,off,Z⟩) n cap):=by rw[H.out.2.2.2.2.2.2.2.2.2]at x1;exact kJ x1
 have x3:∀i,i<v.seen.length->Wd.cell? ⟨g,off+i,Z⟩=M (N ab (v.seen.getD i 0)):=λi hi=>by
  have hr:=(H.out.2.1.below a7).seen;refine hr.cell H.out.2.2.2.2.2.2.2.2.1 i _ ?_;rw[fE,aO hi,aY,aO hi];rfl
 refine tq (gf:=130) (lb:=#[.pointer _]) rfl (enters_of (fq Tryz.func130 rfl) XN rfl)
  (Lu (Vu (w.heap.size+3) g off cap v.seen (by rw[Hn.out];omega))) (λ_ h=>h.elim) (λ_ _ _ _ _ h=>h) (BwT.own _ _ _ _ _ _) (λ_ _ _ _ _ _ _=>trivial) (λ_ q A A' row h hg hr=>⟨BwT.own _ _ _ _ _ _ q.1 A A' row h.1 hg hr,h.2⟩) (λ_=>rfl)
  (CoJ w nk ps sil v.seen) (CoY w sb vb ps last sil (.iface te xe) v.seen) (CoJ.own _ _ _ _ _ _ aA) (λ_=>CoY.own _ _ _ _ _ _ _ _ _ _ aA) ⟨λe=>Xs rfl e,λi h1 h2=>Xs h1 (by simpa using h2),H.out.2.2.2.2.2.2.2.1.kept λj _ R=>a6.block j (by have:=H.out.2.2.2.2.2.2.2.2.2;omega),.below a7 jB _⟩ ⟨by rw[Hn.out];exact x2,x3⟩
  (λx _=>{ tmps:=#[aD (M ⟨nk,0,Z⟩),aD (M ⟨↑w,0,Z⟩),aD (M ⟨w.heap.size+1,0,Z⟩),aD (M ⟨w.heap.size+1+1,0,Z⟩),N ab (x:Nat),N ab (v.seen.getD x 0),aE,aE,aE,aD (M ⟨nk,0,Z⟩),aD (M ⟨nk,0,Z⟩),aD (M ⟨nk,8,Z⟩),aD (M ⟨v.vb,0,Z⟩),.func (.func 130) #[] #[aD (M ⟨w.heap.size+3,0,Z⟩)],N ab (x:Nat),N ab (v.seen.getD x 0),aE,aE,aE,aE,aE,aE,aE,aE,aE,aE,aE,aE,aE,aE,aE,aE,aE],defers:=[] }) (λ_ W=>W) (λ_ _ _ _=>rfl) (λ_ _=>jB) (λ_ _ _ _ _=>rfl) ?assign ?body ?done ?stop
 case assign=>
  intro l x W K hK;gi_wp2;exact hK
 case body=>
  rintro l aw x W0 W1 bb ba ⟨r,hr⟩ ⟨au,ai,hB,hc⟩ aj _ ⟨hy,hx⟩;have E:Below ↑w w W1:=(hc.trans aj λ_ _ e=>e).lQ;have ao:=hB.kept (W':=W1) λj _ R=>aj.block j (by have:=hB.lt;omega) (λe=>e);have a1:=H.out.1.below E;have k7:=(H.out.2.2.2.2.2.1 W1 E).1;have y0:=kJ ao.box;obtain⟨id,ag⟩:∃id,v.seen.getD x 0=id:=⟨_,rfl⟩
  have ac:=X4 id a1 H.out.2.2.2.1 (lu H.out.2.2.1 E);rw[ag];have HX:cH _:=jy au (jy ai (jy ag (jy hx hy)));have HB:cH _:=λ(_:Unit)=>ac;have HW:cH _:=jy E (jy ao (jy a1 (jy bb (jy aj ba))));clear ac E ao a1 hB hc aj hr au ai ag hx hy;gi_wp2;refine⟨trivial,(gO.2 (HB.out ())).mono ?_⟩;intro e w2 hA;have ay:jI (λk=>k=sb) W1 w2:=hA.jM;have I:=HW.out.2.1.kept (W':=w2) λj R bk=>ay.block j (by have:=HW.out.2.1.lt;omega) (by have:=H.out.1.lt;omega);have bg:=I.lt;have q1:∀o,(w2.alloc o).cell? ⟨w.heap.size+1,0,Z⟩=M (N ab 0):=λo=>kJ ((fV _ _ _ aA).trans I.r1);have q2:∀o,(w2.alloc o).cell? ⟨w.heap.size+1+1,0,Z⟩=M .nilIface:=λo=>kJ ((fV _ _ _ aA).trans I.r2);have q3:∀o j,(w2.alloc o).frozen? ⟨w.heap.size+1,j,Z⟩=aL:=λo=>aQ ((fV _ _ _ aA).trans I.r1);have q4:∀o j,(w2.alloc o).frozen? ⟨w.heap.size+1+1,j,Z⟩=aL:=λo=>aQ ((fV _ _ _ aA).trans I.r2);have n1:w.heap.size+1≠w2.heap.size:=aA
  have n2:w.heap.size+1+1≠w2.heap.size:=aA
  have z:cH _:=jy I ay;clear I ay bg;unfold rW at hA;by_cases h0:0<sil
  .rw[ZD h0]at hA;obtain⟨rfl,a8,_⟩:=hA;have av:cH _:=a8;clear a8;simp only[YS,upZ];gi_wp2;obtain⟨f1,f2⟩:=z.out.1.fin (N ab 0) (N ab 0) (aH Z 0 0) (aH Z 0 0) (N ab (x:Nat)) (.iface te xe);refine⟨⟨bH z.out.2.size f2.size,λj o R ho _=>?_⟩,(x:Nat),λe=>Xs h0 e,rfl,_,nk,f1,?_⟩
   .have Y:=(jE ho)
    have:=H.out.1.lt;exact((f2.block j (aP Y z.out.2.size) aA).trans (z.out.2.block j Y aA)).trans ho
   .unfold Ll;rw[ZD h0];refine⟨rfl,av.out.kept (λj R=>f2.block j ?_ ?_) (.jM f2 λj cs t fz R hc=>?_),(((jI.below HW.out.1 jB _).trans z.out.2 λ_ _ e=>e).trans f2 λj R e=>aA)⟩
    .obtain rfl|e:=R
     .exact av.out.lt
     .exact av.out.row.lt e
    .have bh:j<↑w:=by
      obtain rfl|e:=R
      .exact H.out.1.lt
      .exact H.out.1.row.lt e
     omega
    .obtain rfl|rfl:=R
     .rw[z.out.1.r1]at hc;simp at hc;rw[<-hc.2.1];exact⟨aB,aB⟩
     .rw[z.out.1.r2]at hc;simp at hc;rw[<-hc.2.1];exact⟨aB,aB⟩
  .rw[Zs h0]at hA;obtain⟨ak,⟨m,⟨u,vt,vl⟩,hm,hp,rfl⟩|⟨hm,rfl⟩⟩:=hA
   .have hu:=HW.out.2.2.1.up _ (aX hp);obtain⟨ta,tc,rfl⟩:∃a c,vt=.slice a u.txs.length c:=hu.1.slice;obtain⟨la,lc,rfl⟩:∃a c,vl=.slice a u.logs.length c:=Row.slice hu.2;have af:cH _:=ak;have Hp:cH _:=jy hm hp;clear ak hu hp hm;simp only[YS];gi_wp2;obtain⟨f1,f2⟩:=z.out.1.fin (N ab u.id) (N ab u.time) (.slice ta u.txs.length tc) (.slice la u.logs.length lc) (N ab (x:Nat)) .nilIface;refine⟨⟨bH z.out.2.size f2.size,λj o R ho _=>?_⟩,(x:Nat),λ_=>⟨x,rfl,by have:=HX.out.2.2.2.1;have:=Hn.out;omega,λe=>e _ (aX Hp.out.2) ?fnd,λi h1 h2=>HX.out.2.1 i h2 (by have:=HX.out.2.2.2.1;omega)⟩,rfl,_,nk,f1,?_⟩
    case fnd=>
     rw[HX.out.2.2.1];exact YG Hp.out.1 Hp.out.2
    .have Y:=(jE ho)
     have:=H.out.1.lt;exact((f2.block j (aP Y z.out.2.size) aA).trans (z.out.2.block j Y aA)).trans ho
    .unfold Ll;rw[Zs h0];exact⟨rfl,(((jI.below HW.out.1 jB (λ_=>False)).trans (.below af.out jB (λ_=>False)) λ_ _ e=>e).trans f2 λj R e=>aA).lQ⟩
   .have af:cH _:=jy ak (WW hm);clear ak hm;simp only[YS,upZ];gi_wp2;obtain⟨A2,bd,a4,-⟩:=jD w2 #[N ab 0,N ab 0,aH Z 0 0,aH Z 0 0] 28;rw[<-bd];have J:=af.out.1.trans (a4.mono af.out.1.size);obtain⟨au,ai,ag,hx,hy⟩:=HX.out;refine⟨⟨J.size,λj o R ho _=>?_⟩,⟨?_,λi hi=>?_⟩,λk _ hk=>J.block k hk,λ_=>aA,λi h1 h2=>?_,HW.out.2.1.kept λj h1 h2=>J.block j ?_,?_⟩
    .exact(J.block j (jE ho)).trans ho
    .obtain⟨cs,t,fz,hk⟩:=Gt hy.1;exact(bX (J.block _ (jE hk))).trans hy.1
    .obtain⟨cs,t,fz,hk⟩:=Gt (hy.2 i hi);exact(bX (J.block _ (jE hk))).trans (hy.2 i hi)
    .rw[aS,iF]at h2;by_cases e:i=x
     .subst e;rw[ag];exact af.out.2
     .exact ai i h1 aA
    .have:=HW.out.2.1.lt;omega
    .exact(jI.below HW.out.1 jB _).trans (.below J jB _) λ_ _ e=>e
 case done=>
  intro D xs W0 W _ _ h hJ;obtain⟨x,hx,hf⟩:=H.out.2.2.2.2.1;exact Xs (hJ.2.1 x hx aA) hf
 case stop=>
  rintro D cd aw W0 W hD bh _ h hc _ hK;have h1:=CoY.own _ _ _ _ _ _ _ _ _ ↑Wd aA aw W0 W Z h ⟨hc.os,hc.tape,hc.output,hc.size,λk hk _=>hc.block k hk (λe=>e)⟩ (λr e=>by cases e)
  have h2:=CoY.own _ _ _ _ _ _ _ _ _ ↑Wd aA aw W (W.putObj D (eI Z)) _ h1 (grownBy_putObj' W D (eI Z)) (λr e=>by
   have e:D=r:=by simpa using e
   subst e;exact⟨aA,_,hK,rfl⟩)
  obtain⟨kx,a3,rfl,e,bj,hB,hP⟩:=h2;have z1:=kJ hB.r1;have z2:=kJ hB.r2;have HP:cH _:=(⟨kx,hP,a3⟩:abj w sb vb ps last sil (.iface te xe) v.seen _ _)
  clear hB hP h h1 hc a3;gi_wp2;refine⟨aC,bE ⟨_,_,rfl,run_takeDeferred hK,?_⟩⟩;exact⟨_,by simp[results,Tryz.results42,go_sem,z1,z2],HP.out⟩
end Hm
namespace Hm
open Go.RowKit Go.Joins Go.Shelf
open Fr (below_drewN)
open Dv (Lo X2 Cf)
section
def agh(w:U):(zeroValue 28).run PQ w=.ok (fX #[N ab 0,N ab 0,aH Z 0 0,aH Z 0 0]) w:=(BL Tryz.zeroValue28) w
def ahw(w:U)(v:X)(i:Nat)(xs:List X)(e:pm)(w':U):Prop:=∃a cap,e=bO (.slice a i cap)/\Row w' 28 4 (.slice a i cap) i (xs.take (i*4))/\(aH a i cap).ownBlock=v.ownBlock/\jI (λk=>v.ownBlock=M k) w w'
def aee(v:X)(n i:Nat){xs:List X}(w:U)(h:Row w 28 4 v n xs)(z:i<=n)(hn:n<=4294967296):dE PQ 41 #[v,N ab i,N ab n] w (ahw w v i xs):=by
 by_cases aa:i=n
 .subst aa;obtain⟨a,cap,rfl⟩:=h.slice
  have hc:i<=cap:=by
   obtain⟨_,a',c',e,hc,_⟩:=h.rd;cases e;exact hc
  have ae:(i:Int)<=cap:=aA
  have H:cH _:=h;clear h;go_enter (fq Tryz.func41 rfl),Tryz.ntmps41;go_wp2_with fail;go_ret;exact⟨a,cap,rfl,by rw[<-H.out.1,iJ];exact H.out,rfl,.refl _ _⟩
 .obtain⟨g,off,cap,rfl,hc⟩:=h.pos aA;have ae:(n:Int)<=cap:=by omega
  have ag:(i:Int)<n:=aA
  have ak:(i:Int)<=n:=aA
  have am:(i:Int)<=cap:=aA
  have aj:(0:Int)<=i:=aA
  have ah:((i:Int) == (n:Int))=aL:=ZS aA;obtain⟨i0,E,R,I,Y⟩:=pa aaI;have H:cH _:=jy h (jy E I);clear h E R I Y;go_enter (fq Tryz.func41 rfl),Tryz.ntmps41;go_upto_region 5 with fail;go_cut [0] (λv wx=>v=aH (M ⟨g,off,Z⟩) i cap/\cH (Row wx 28 4 (aH (M ⟨g,off,Z⟩) i cap) i (xs.take (i*4))/\jI (λk=>k=g) w wx))
  case first=>
   have hr:=(H.out.1.kept (w':=w.drew) λ_ _=>rfl).take z;have HR:cH _:=hr;clear hr;by_cases ac:cap=n
   .obtain rfl:cap=n:=ac;go_region_law ((refine step_append_room (by rfl) (cN 22) (cN 25) 35 (by rfl) 28 i0 4 (uq lz) H.out.2.1 H.out.2.2 g off i cap (by rfl) ⟨g,off,Z⟩ 0 0 [] (by rfl) (by rfl) (λi u z=>by simp at z) (λu hu=>by simp at hu) aA (λi z=>by simp at z) ?_))
    all_goals
     go_wp2_with fail;go_meet;exact⟨rfl,HR.out,.drew _ w⟩
   .go_region_law ((refine step_append_room (by rfl) (cN 22) (cN 25) 35 (by rfl) 28 i0 4 (uq lz) H.out.2.1 H.out.2.2 g off i cap (by rfl) ⟨g,off+n*4,Z⟩ 0 (cap-n) [] (by rfl) (by rfl) (λi u z=>by simp at z) (λu hu=>by simp at hu) aA (λi z=>by simp at z) ?_))
    all_goals
     go_wp2_with fail;go_meet;exact⟨rfl,HR.out,.drew _ w⟩
  case rest=>
   obtain⟨rfl,J⟩:=hcut;have ai:¬(cap=i):=aA
   obtain⟨vs,-,af⟩:=BM (P:=PQ) (w:=wc) (s:=4) 35 28 0 _ (uq lz) agh rfl (by simp[Value.cells,Value.oneCell']) g (off+i*4) (n-i) (cap-i) aA (λj hj=>by have:=J.out.1.room (j:=i*4+j) aA;rw[<-dV]at this;exact this) (J.out.1.frozen rfl);go_wp2_with fail;go_ret;exact⟨_,cap,rfl,J.out.1.behind vs,rfl,(J.out.2.trans (.grown (kH g _ _ wc).1) λk _ e=>by simpa using e.symm).mono λk _ e=>by rw[e];rfl⟩
section
variable {w w':U}{sb:Nat}{vb:X}{ps:List PU}{last sil:Nat}{c:Cf}{x:Nd}
def Yy(w:U)(sb:Nat)(vb:X)(ps:List PU)(last sil d:Nat)(e:pm)(w':U):Prop:=e=bO (N ab 0)/\∃z,tX w' sb z (ps.take (ps.length-d)) last sil/\z.ownBlock=vb.ownBlock/\jI (SO sb vb) w w'
def KL(d:Nat)(h:tX w sb vb ps last sil)(hd:d<ps.length):dE PQ 25 #[aD (M ⟨sb,0,Z⟩),N ab d] w (Yy w sb vb ps last sil d):=by
 have hl:=h.len;obtain⟨c0,c1,c2⟩:=cells3 h.obj;have fz:=aQ h.obj;obtain⟨a,cap,hv⟩:=h.row.slice;have hm:(ps.length:Int)-d=((ps.length-d:Nat):Int):=aA
 have ag:¬(d:Int)<0:=aA
 have ae:¬(ps.length:Int)<=d:=aA
 obtain⟨m,E⟩:∃m,ps.length-d=m:=⟨_,rfl⟩
 obtain⟨n,I⟩:∃n,ps.length=n:=⟨_,rfl⟩
 have hD:∀W,Below ↑w w W->dE PQ 41 #[vb,N ab (IntKind.i64.wrap ((n:Int)-(d:Int))),N ab n] W λe w'=>∃a cap,e=bO (.slice a m cap)/\(Row w' 28 4 (.slice a m cap) m ((ps.flatMap oq).take (m*4))/\(aH a m cap).ownBlock=vb.ownBlock/\jI (λk=>vb.ownBlock=M k) w w')/\w'.cell? ⟨sb,0,Z⟩=M vb/\∀j,w'.frozen? ⟨sb,j,Z⟩=aL:=λW J=>by
  have hS:=h.below J;have hD:=aee vb ps.length (ps.length-d) W hS.row aA aA;rw[E,I]at hD;rw[show IntKind.i64.wrap ((n:Int)-(d:Int))=(m:Int) by rw[eT];omega];refine hD.mono λe w' ⟨a,cap,q1,q2,q3,q4⟩=>⟨a,cap,q1,⟨q2,q3,(jI.below J jB _).trans q4 λ_ _ e=>e⟩,?_⟩
  have J:=(q4.block sb hS.lt hS.ne).trans hS.obj;exact⟨kJ J,aQ J⟩
 have fin:∀w1 w2 Y z,Row w1 28 4 (.slice Y m z) m ((ps.flatMap oq).take (m*4))->(aH Y m z).ownBlock=vb.ownBlock->jI (λk=>vb.ownBlock=M k) w w1->jI (λ_=>False) (w1.setCell ⟨sb,0,Z⟩ (.slice Y m z)) w2->Yy w sb vb ps last sil d (bO (N ab 0)) w2:=by
  intro w1 w2 Y z q1 q2 q3 q4;have J:=(q3.block sb h.lt h.ne).trans h.obj;have ac:=(jI.set w1 sb 0 (.slice Y m z)).trans (q4.mono λ_ _ e=>e.elim) λ_ _ e=>e;have hc:jI (SO sb vb) w w2:=(q3.mono λk _ e=>cD e).trans ac λk _ e=>bE e;have hr:=h.ro hc;have R:(ps.take m).length=m:=by rw[bK];omega
  refine⟨rfl,.slice Y m z,⟨?_,?_,λp hp=>(h.up p (jd hp)).ro hr,by have:=h.len;rw[E,R];omega,h.few,h.ids⟩,q2,hc⟩
  .have hl:=(jE J)
   rw[q4.block sb (by simpa using hl) (λe=>e),rj J];rfl
  .rw[E,R,show(ps.take m).flatMap oq=(ps.flatMap oq).take (m*4) from(qx oq 4 (λ_=>rfl) ps m).1.symm];exact q1.jM ac λg hg e=>h.ne (by rw[<-q2,hg,e])
 have HF:cH _:=fin;rw[I]at hv;have HV:cH _:=hv;rw[hv]at c0;rw[hv]at hD;have HD:cH _:=hD;have aa:=aJ ↑w w;have af:=h.lt;rw[I]at hl ae;clear h hD hv E I c1 c2 hd fin hm;go_enter (fq Tryz.func25 rfl),Tryz.ntmps25;go_upto_region 3 with fail;go_region_with (go_at_call 41;(refine aT (HD.out _ ?_) ?_;(first|exact aa.drew|exact aa|exact below_drewN aa _);rintro e w1 ⟨Y,z,rfl,h1,h4,h5⟩;have H1:cH _:=h1;clear h1))
 all_goals
  go_wp2_with fail;go_ret;refine HF.out w1 _ Y z H1.out.1 (by rw[HV.out];exact H1.out.2.1) (by rw[HV.out];exact H1.out.2.2) ?_
  first|exact .refl _ _|exact .drew _ _
def VI(d:Nat)(h:lX w c x)(hd:d<x.ps.length):dE PQ 9 #[aD (M ⟨x.nk,0,Z⟩),N ab d] w (Yy w x.sb x.vb x.ps x.last x.sil d):=by
 obtain⟨R,-,-⟩:=h.cells;have z:=KL d h.src hd;have J:cH _:=λ(_:Unit)=>z;clear h z;go_enter (fq Tryz.func9 rfl),Tryz.ntmps9;go_wp2_with (go_at_call 25;refine aT (J.out ()) ?_;rintro e w1 ⟨rfl,E⟩;have I:cH _:=E;clear E)
 go_ret;exact⟨rfl,I.out⟩
end
end
end Hm
namespace Dv
open Fr (F)
section
variable {chain:List X2}
def Like(u v:X2):Prop:=u.id=v.id/\u.time=v.time/\jR u=jR v
def Like.refl(u:X2):Like u u:=⟨rfl,rfl,rfl⟩
section
variable {c:Cf}{a b:List X2}{k:Nat}
def F7(z:∀i,i<=k->Like (a[i]!) (b[i]!)){e:Nat}(I:e<=k)(t:Int):∀l:List Ba,sift c a k e t l=sift c b k e t l
 |[]=>rfl
 |x::r=>by
  have Y:=F7 z I t r;rw[sift,sift,Y];have h1:holds c a k e t x=holds c b k e t x:=by unfold holds;rw[(z e I).2.1]
  rw[h1];by_cases J:late c e t x=aR
  .simp[J]
  .by_cases E:holds c b k e t x=aR
   .simp[E]
   .have h2:wrong c a e t x=wrong c b e t x:=by
     simp only[late,iQ,Z3,not_or]at J;unfold holds at E;simp only[iQ,dF,YY,Z3,not_or]at E;have R:x.epoch<=k:=aA
     unfold wrong;rw[(z _ R).1,(z _ R).2.1];by_cases hk:e+1<=k
     .rw[(z _ hk).2.1]
     .grind
    rw[h2]
def Dc(z:∀i,i<=k->Like (a[i]!) (b[i]!)){h:Lo}{e:Nat}(E:e<=k)(txs:List (List UInt8)):lay c a k h e txs=lay c b k h e txs:=by unfold lay;rw[(z e E).1,(z e E).2.2]
def U7(hw:1<=c.window)(z:∀i,i<=k->Like (a[i]!) (b[i]!)){h:Lo}(E:h.epoch<=k)(wait:List Ba):draw c a k h wait=draw c b k h wait:=by
 have hs:=F7 (c:=c) z E (h.time+c.step) wait;unfold draw;simp only;rw[hs];cases R:(sift c b k h.epoch (h.time+c.step) wait).1 with
 |hold=>rfl
 |got x=>
  simp only;obtain⟨_,_,i3,i4,_,J,_,_⟩:=uG c b k _ _ _ _ R
  have hk:x.epoch<=k:=by
   unfold holds at J;simp only[ig,iY,beq_eq_false_iff_ne,Z6]at J;omega
  rw[Dc z hk]
 |no=>
  simp only;split
  .rfl
  .rename_i Y;have I:h.epoch+1<=k:=by omega
   rw[(z _ I).2.1];split
   .rw[Dc z I]
   .rw[Dc z E]
def C9(hw:1<=c.window)(z:∀i,i<=k->Like (a[i]!) (b[i]!)):∀(f:Nat)(h:Lo)(wait:List Ba),h.epoch<=k->draws c a k f h wait=draws c b k f h wait
 |0,_,_,_=>rfl
 |f+1,h,wait,he=>by
  rw[draws,draws,U7 hw z he];cases hd:draw c b k h wait with
  |mk o r=>
   cases o with
   |none=>rfl
   |some x=>
    have J:x.epoch<=k:=by
     unfold draw at hd;simp only at hd;split at hd
     .simp at hd
     .rename_i y E;simp only[dJ,aK]at hd;obtain⟨rfl,rfl⟩:=hd;obtain⟨_,_,i3,i4,_,I,_,_⟩:=uG c b k _ _ _ _ E;simp only[lay];unfold holds at I
      grind
     .split at hd
      .simp at hd
      .simp only[dJ,aK]at hd;obtain⟨rfl,rfl⟩:=hd;simp only[lay];split<;>omega
    simp only[C9 hw z f x r J]
def Sv(z:∀i,i<=k->Like (a[i]!) (b[i]!))(h:Lo)(wait:List Ba):left a k h wait=left b k h wait:=by unfold left;rw[(z k jB).2.1]
def Uy(hw:1<=c.window)(z:∀i,i<=k->Like (a[i]!) (b[i]!))(I:heard c (a[k]!).txs=heard c (b[k]!).txs){s:St}(E:(s.log.getLastD default).epoch<=k):step c a k s=step c b k s:=by
 have ht:take c (a[k]!) k s.chs s.wait=take c (b[k]!) k s.chs s.wait:=by unfold take;rw[I]
 unfold step;simp only;rw[ht,Sv z,C9 hw z _ _ _ E]
end
def Alike(c:Cf)(u v:X2):Prop:=Like u v/\heard c u.txs=heard c v.txs
def G7{c:Cf}{a b:List X2}(z:jS a=aR)(hcf:jK c=aR):∀k,k<=a.length->(∀i,i<=k-1->Alike c (a[i]!) (b[i]!))->gone c a k=gone c b k
 |0,_,hab=>by
  have:=(hab 0 aA).1;unfold gone start first
  rw[this.1,this.2.1,this.2.2]
 |k+1,hk,hab=>by
  have E:=G7 z hcf k aA (λi I=>hab i aA);have J:=(oI z hcf k aA).epoch
  have hw:1<=c.window:=by
   unfold jK at hcf;simp only[Z3]at hcf;omega
  rw[gone,gone,<-E];exact Uy hw (λi I=>(hab i aA).1) (hab k aA).2 aA
def GR{c:Cf}(hc:jS chain=aR)(hcf:jK c=aR){n:Nat}(E:1<=n)(z:n<=chain.length):gone c (chain.take n) n=gone c chain n:=by
 refine(G7 hc hcf n z (λi I=>?_)).symm
 have:(chain.take n)[i]! =chain[i]!:=by
  simp only[my];rw[iI aA]
 rw[this];exact⟨Like.refl _,rfl⟩
def DK:∀(l:List X2)(b:Option Int)(n:Nat),kF b l=aR->kF b (l.take n)=aR
 |[],_,_,_=>by simp[kF]
 |_::_,_,0,_=>by simp[kF]
 |u::r,b,n+1,h=>by
  rw[List.take_succ_cons,kF,(kK h).1,DK r _ n (kK h).2];rfl
def Gs(hc:jS chain=aR){n:Nat}(z:1<=n)(E:n<=chain.length):jS (chain.take n)=aR:=by
 have h:=jW hc;unfold jS;rw[DK _ _ _ h.2.2.1]
 grind
end
end Dv
namespace Pa
open Go Go.Conc Go.RowKit Go.Joins
open Hm (ptr jL jI kW PU Vw lF VO Ro Nd lX NO SO tX mY wF U9 Yy FB Qc abj)
open Dv (X2 Cf)
open Po hiding X2 H B IT PR NB
section
variable {g i:Nat}
structure Nb(c:Cf)(old:List X2)(j:Nat)(chain:List X2)(p:Nn)(w:U):Prop where
 nd:lX w c p.x
 vc:VC c old j p.x.v p.y w
 ps:p.x.ps.map cI=chain
 low:∀k,NK p k->Tryz.prog.globals.size<=k
section
variable {c:Cf}{old chain:List X2}{j:Nat}{p:Nn}{w w':U}
def Nb.lt(h:Nb c old j chain p w)(hk:NK p g):g<↑w:=hk.elim h.nd.lt (TS.lt h.vc.ts)
def Nb.kept(h:Nb c old j chain p w)(hk:∀k,NK p k->w'.heap[k]? =w.heap[k]?)(z:Ro w w')(E:w'.heap[1]? =w.heap[1]?):Nb c old j chain p w':=
 ⟨h.nd.kept (λk e=>hk k (bE e)) z,h.vc.kept (λk e=>hk k e.nk) z E,h.ps,h.low⟩
def Nb.still(h:Nb c old j chain p w)(hc:jL (λ_=>False) w w'):Nb c old j chain p w':=h.kept (λk hk=>hc.block k (h.lt hk) (λe=>e)) (Ro.of hc) (hc.block _ h.vc.ts.hd.pos (λe=>e))
def Nb.ro(h:Nb c old j chain p w)(hc:jL (NK p) w w'):Ro w w':=λg cs t E z ht=>hc.block g (jE z) λe=>by
 obtain e|e:=e
 .have:=h.nd.types e z;exact ht.elim this.1 this.2
 .exact TS.zn h.vc.ts z (by grind) (by grind) (by grind) (by grind) (by grind) e
def Nb.len(h:Nb c old j chain p w):p.x.ps.length=chain.length:=by rw[<-h.ps,bC]
def Nb.up(h:Nb c old j chain p w){q:PU}(z:p.x.ps[i]? =M q):chain[i]! =q.1:=by rw[<-h.ps,my,fE,z];rfl
def Nb.seen(h:Nb c old j chain p w)(z:j<=old.length):p.x.v.seen.length=j:=by rw[h.vc.seen];simp;omega
def Nb.apart(h:Nb c old j chain p w)(hk:g=p.x.nk\/SO p.x.sb p.x.vb g):¬VK p.x.v p.y g:=by
 obtain⟨cs,t,z,E,ht⟩:∃cs t z,w.heap[g]? =M (aG cs t z)/\(t=60\/t=83\/t=28):=by
  obtain rfl|rfl|e:=hk
  .exact⟨_,_,_,h.nd.obj,bE rfl⟩
  .exact⟨_,_,_,h.nd.src.obj,cD (bE rfl)⟩
  .obtain⟨cs,q⟩:=h.nd.src.row.obj e;exact⟨_,_,_,q,cD (cD rfl)⟩
 exact h.vc.far E (by rcases ht with rfl|rfl|rfl<;>decide)
def Nb.viewed(h:Nb c old j chain p w){z:List X2}{I:Nat}{v':Vw}{y':Ck}(J:VC c z I v' y' w')(hb:v'.vb=p.x.v.vb)(hc:jL (VK p.x.v p.y) w w')(ho:∀g,VK v' y' g->VK p.x.v p.y g\/w.heap.size<=g):Nb c z I chain ⟨{ p.x with v:=v' },y'⟩ w'/\jL (NK p) w w'/\∀g,NK ⟨{ p.x with v:=v' },y'⟩ g->NK p g\/w.heap.size<=g:=by
 have R:=h.vc.ro hc
 have E:∀g,NK ⟨{ p.x with v:=v' },y'⟩ g->NK p g\/w.heap.size<=g:=λg Y=>by
  obtain(e|e|e)|e:=Y
  .exact bE (bE (bE e))
  .exact bE (bE (cD (bE e)))
  .exact(ho g (bE e)).imp VK.nk id
  .exact(ho g (cD e)).imp VK.nk id
 refine⟨⟨⟨(hc.block _ (h.lt (bE (bE rfl))) (h.apart (bE rfl))).trans ?_,h.nd.src.kept (λk e=>hc.block k (h.lt (bE (cD (bE e)))) (h.apart (cD e))) R,J.vw⟩,J,h.ps,λk hk=>(E k hk).elim (h.low k) λe=>?_⟩,hc.mono λk _ e=>e.nk,E⟩
 .rw[h.nd.obj,hb]
 .have:=h.lt (g:=p.x.nk) (bE (bE rfl));have:=h.low p.x.nk (bE (bE rfl));omega
def Nb.turned(h:Nb c old j chain p w){x':Nd}(I:lX w' c x')(z:x'.v=p.x.v)(hc:jL (λk=>k=p.x.nk\/SO p.x.sb p.x.vb k) w w'):VC c old j x'.v p.y w':=by have E:=h.ro (hc.mono λk _ e=>bE (e.imp id bE));rw[z];exact h.vc.kept (λk hk=>hc.block k (h.lt hk.nk) λe=>h.apart e hk) E (hc.block _ h.vc.ts.hd.pos λe=>ny (h.low _ (bE (e.imp id bE))) rfl)
def VC.swap{v:Vw}{y:Ck}(h:VC c old j v y w)(e:old.take j=chain.take j)(R:1<=j)(Y:j<=old.length)(I:j<=chain.length)(ho:Dv.jS old=aR)(hc:Dv.jS chain=aR)(hcf:Dv.jK c=aR):VC c chain j v y w:=by
 have J:Dv.gone c chain j=Dv.gone c old j:=by rw[<-Dv.GR hc hcf R I,<-e,Dv.GR ho hcf R Y]
 have E:∀i,i<j->chain[i]! =old[i]!:=λi E=>by
  have:=Z1 (·[i]!) e
  grind
 have z:=h.rm;exact⟨h.vw,h.ts,⟨z.len,λi q=>by rw[z.id i q,E i q],λi q=>by rw[z.time i q,E i q],λi q=>by rw[z.deps i q,E i q],by rw[z.chs,J],by rw[z.wait,J],z.ws,z.zero,by rw[J];exact z.some⟩,by rw[h.seen,e],h.osl,h.fits,h.hdl,h.low⟩
end
structure Nv where
 old:List X2
 j:Nat
 m:Nat
 rs:Bool
 sil:Nat
 last:Nat
structure NP(c:Cf)(chain:List X2)(s:Nv):Prop where
 hc:Dv.jS chain=aR
 ho:Dv.jS s.old=aR
 hcf:Dv.jK c=aR
 jl:s.j<=s.old.length
 m1:1<=s.m
 mj:s.m<=s.j
 ml:s.m<=chain.length
 cm:s.old.take s.m=chain.take s.m
 no:∀u,u∈(s.old.take s.j).drop s.m->∀v,v∈chain->v.id≠u.id
 nd:chain.Pairwise (λa b=>a.id≠b.id)
 idc:∀u,u∈chain->u.id<=s.last
 ido:∀u,u∈s.old.take s.j->u.id<=s.last
structure NT(c:Cf)(chain:List X2)(s:Nv)(p:Nn)(w:U):Prop where
 nb:Nb c s.old s.j chain p w
 np:NP c chain s
 last:p.x.last=s.last
 sil:p.x.sil=s.sil
 rs:p.x.rs=s.rs
section
variable {c:Cf}{chain:List X2}{s:Nv}{p:Nn}{w w':U}
def NP.more(h:NP c chain s){u:X2}(Y:u.id=((s.last+1:Nat):Int))(hc:Dv.jS (chain++[u])=aR):NP c (chain++[u]) { s with last:=s.last+1 }:=by
 have E:=h.idc;have h2:=h.ido;have h3:=h.ml;refine⟨hc,h.ho,h.hcf,h.jl,h.m1,h.mj,aF,by rw[List.take_append_of_le_length h3];exact h.cm,λv z x R=>?_,?_,λv z=>?_,λv z=>by have:=h2 v z;simp only;omega⟩
 .obtain q|q:=dM.1 R
  .exact h.no v z x q
  .have:=h2 v (je z);rw[dK]at q;subst q;omega
 .rw[List.pairwise_append];refine⟨h.nd,aC,λa J b I=>?_⟩;rw[dK]at I;subst I;have:=E a J;omega
 .obtain q|q:=dM.1 z
  .have:=E v q;simp only;omega
  .rw[dK]at q;subst q;simp only;omega
def NP.less(h:NP c chain s){n:Nat}(R:1<=n)(hn:n<=chain.length):NP c (chain.take n) { s with m:=min s.m n }:=by
 have hm:=h.mj;refine⟨Dv.Gs h.hc R hn,h.ho,h.hcf,h.jl,by have:=h.m1;simp only;omega,by simp only;omega,by simp only[bK];omega,?_,λu z v I=>?_,h.nd.sublist (List.take_sublist _ _),λu z=>h.idc u (jd z),h.ido⟩
 .have q:=Z1 (List.take n) h.cm;simp only[List.take_take]at q⊢;rw[show min (min s.m n) n=min n s.m by omega,show min s.m n=min n s.m by omega];exact q
 .simp only at z;by_cases J:s.m<=n
  .rw[fZ J]at z;exact h.no u z v (jd I)
  .rw[Nat.min_eq_right aA]at z;obtain⟨i,Y,rfl⟩:=List.getElem_of_mem z;rw[dW,bK]at Y;rw[pu,nA];by_cases E:n+i<s.m
   .have e:s.old[n+i]'(by have:=h.jl;omega)=chain[n+i]'(by have:=h.ml;omega):=by
     have:=Z1 (·[n+i]?) h.cm;simp only[gU,ZD E]at this;rw[aO (by have:=h.jl;omega),aO (by have:=h.ml;omega)]at this;exact fC this
    rw[e];obtain⟨k,hk,rfl⟩:=List.getElem_of_mem I;rw[bK]at hk;rw[nA];exact iD.1 h.nd k (n+i) aA (by have:=h.ml;omega) aA
   .refine h.no _ ?_ v (jd I);rw[List.mem_iff_getElem];refine⟨n+i-s.m,aF,?_⟩;rw[pu,nA]
    congr 1
    omega
def NP.back(h:NP c chain s)(I:s.m<=i)(E:i<=chain.length):NP c chain ⟨chain,i,i,aL,s.sil,s.last⟩:=
 ⟨h.hc,h.hc,h.hcf,E,by have:=h.m1;simp only;omega,jB,E,rfl,λu z=>by
  simp only at z;rw[List.drop_eq_nil_of_le aF]at z;exact Xs z aC,h.nd,h.idc,λu z=>h.idc u (jd z)⟩
def NT.found(h:NT c chain s p w){x:Nat}(hx:Qc p.x.v.seen p.x.ps x):x+1=s.m:=by
 obtain⟨h1,h2,h3⟩:=hx;have hs:=h.nb.vc.seen;have hm:=h.np.m1;have ac:=h.np.mj;have J:=h.np.jl;have Y:=h.nb.seen J;rw[Y]at h1 h3
 have hg:∀i,i<s.j->p.x.v.seen.getD i 0=(s.old[i]!).id:=λi hi=>by
  rw[hs]
  grind
 by_cases aa:s.m<=x
 .refine Xs (λq E=>?_) h2;rw[hg x h1];refine h.np.no _ ?_ _ (by rw[<-h.nb.ps];exact List.mem_map_of_mem E);rw[List.mem_iff_getElem];refine⟨x-s.m,aF,?_⟩;rw[pu,nA,getElem!_pos s.old x aA]
  congr 1
  omega
 .by_cases R:x+1=s.m
  .exact R
  .have z:=h3 (s.m-1) aA aA;rw[hg _ aA]at z;have I:=Z1 (·[s.m-1]?) h.np.cm;simp only[gU,ZD (show s.m-1<s.m by omega)]at I;have af:=h.np.ml;have ae:=h.nb.len;obtain⟨q,E⟩:∃q,p.x.ps[s.m-1]? =M q:=⟨_,aO aA⟩
   have:=z q (aX E);rw[<-h.nb.up E]at this
   grind
def NT.there(h:NT c chain s p w):∃x,x<p.x.v.seen.length/\¬FB p.x.ps (p.x.v.seen.getD x 0):=by
 have hm:=h.np.m1;have R:=h.np.mj;have z:=h.np.jl;have J:=h.nb.seen z;have aa:=h.np.ml;have Y:=h.nb.len;refine⟨s.m-1,aA,λe=>?_⟩;obtain⟨q,I⟩:∃q,p.x.ps[s.m-1]? =M q:=⟨_,aO aA⟩
 have:=e q (aX I);rw[<-h.nb.up I,h.nb.vc.seen]at this;have E:=Z1 (·[s.m-1]?) h.np.cm;simp only[gU,ZD (show s.m-1<s.m by omega)]at E
 grind
def NT.still(h:NT c chain s p w)(hc:jL (λ_=>False) w w'):NT c chain s p w':=⟨h.nb.still hc,h.np,h.last,h.sil,h.rs⟩
def NT.common(h:NT c chain s p w){te:cG}{xe:X}(hG:Oo w te xe)(z:s.j<=60):dE PQ 42 #[aD (M ⟨p.x.nk,0,Z⟩)] w (abj w p.x.sb p.x.vb p.x.ps p.x.last p.x.sil (.iface te xe) p.x.v.seen):=by have E:=(Dv.jW h.np.hc).1;have hs:=h.nb.seen h.np.jl;exact Hm.KH h.nb.nd.obj h.nb.nd.src h.nb.nd.vw hG.ev aA h.there (by rw[h.nb.len];omega)
def NT.afh(h:NT c chain s p w){vb:X}{ps:List PU}{last:Nat}{s':Nv}{z:List X2}(hS:tX w' p.x.sb vb ps last p.x.sil)(hc:jI (SO p.x.sb p.x.vb) w w')(ho:∀g,vb.ownBlock=M g->p.x.vb.ownBlock=M g\/w.heap.size<=g)(R:ps.map cI=z)(hp:NP c z s')(e1:s'.old=s.old)(e2:s'.j=s.j)(e3:s'.rs=s.rs)(e4:s'.sil=s.sil)(e5:s'.last=last):∃Y,NT c z s' Y w'/\Y.x.nk=p.x.nk/\jL (NK p) w w'/\∀g,NK Y g->NK p g\/w.heap.size<=g:=by
 have I:jL (λk=>k=p.x.nk\/SO p.x.sb p.x.vb k) w w':=hc.h.mono λg _ e=>cD e;have hN:=h.nb.nd.afh hS hc
 have E:∀g,NK ⟨{ p.x with vb:=vb,ps:=ps,last:=last,sil:=p.x.sil },p.y⟩ g->NK p g\/w.heap.size<=g:=λg J=>by
  obtain(e|(e|e)|e)|e:=J
  .exact bE (bE (bE e))
  .exact bE (bE (cD (bE (bE e))))
  .exact(ho g e).imp (λe=>bE (cD (bE (cD e)))) id
  .exact bE (bE (cD (cD e)))
  .exact bE (cD e)
 have aa:=h.nb.lt (g:=p.x.nk) (bE (bE rfl));have ac:=h.nb.low p.x.nk (bE (bE rfl));have hV:=h.nb.turned hN rfl I;rw[<-e1,<-e2]at hV;exact⟨⟨{ p.x with vb:=vb,ps:=ps,last:=last,sil:=p.x.sil },p.y⟩,⟨⟨hN,hV,R,λg J=>(E g J).elim (h.nb.low g) aA⟩,hp,e5.symm,by rw[e4];exact h.sil,by rw[e3];exact h.rs⟩,rfl,I.mono λk _ e=>bE (e.imp id bE),E⟩
end
end
end Pa
namespace Hm
open Go.RowKit Go.Joins Go.Shelf
open Fr (below_drewN)
open Dv (Lo X2 Cf)
section
def Told(ps:List PU)(i:Int)(p:PU)(f:Bool):Prop:=(f=aR/\∃n:Nat,i=n/\ps[n]? =M p)\/(f=aL/\(i<0\/(ps.length:Int)<=i))
section
variable {w w':U}{sb:Nat}{vb:X}{ps:List PU}{last:Nat}{ev:X}
def rD(h:tX w sb vb ps last 0)(E:w.cell? ⟨0,0,Z⟩=M ev)(i:Int):dE PQ 21 #[aD (M ⟨sb,0,Z⟩),N ab i] w λe w'=>
  ∃(u:X2)(ta la:Option eM)(tn tc Y z:Nat)(f:Bool),e=bO (cQ #[fX #[N ab u.id,N ab u.time,.slice ta tn tc,.slice la Y z],.bool f,.nilIface])/\Told ps i (u,.slice ta tn tc,.slice la Y z) f/\Below ↑w w w':=by
 refine(II h E).mono λe w' I=>?_;unfold rW at I;rw[Zs aA]at I;obtain⟨J,⟨n,⟨u,vt,vl⟩,hn,hp,rfl⟩|⟨hi,rfl⟩⟩:=I
 .have R:=h.up _ (aX hp);obtain⟨ta,tc,rfl⟩:∃a c,vt=.slice a u.txs.length c:=R.1.slice;obtain⟨la,z,rfl⟩:∃a c,vl=.slice a u.logs.length c:=Row.slice R.2;exact⟨u,ta,la,_,tc,_,z,aR,rfl,bE ⟨rfl,n,hn,hp⟩,J⟩
 .exact⟨⟨0,0,[],[]⟩,Z,Z,0,0,0,0,aL,rfl,cD ⟨rfl,hi⟩,J⟩
end
def jZ{n:Nat}{tm:Array X}(h:tm.size=n):∃l:List X,tm=l.toArray/\l.length=n:=⟨tm.toList,aC,by simpa using h⟩
def jV{l:List X}{n:Nat}(h:l.length=n+1):∃a m,l=a::m/\m.length=n:=by
 cases l with
 |nil=>simp at h
 |cons a m=>exact⟨a,m,rfl,by simpa using h⟩
end
section
variable {tm:Array X}{w:U}{Q:p9->Act->U->Prop}
noncomputable def ady:eE:=match Tryz.f45.body with
 |some (bR c _)=>c
 |_=>.ret
noncomputable def ac9:eE:=match Tryz.f45.body with
 |some (bR _ (bR c _))=>c
 |_=>.ret
noncomputable def adf:eE:=match Tryz.f45.body with
 |some (bR _ (bR _ (bR (bR c _) _)))=>c
 |_=>.ret
noncomputable def aby:eE:=match Tryz.f45.body with
 |some (bR _ (bR _ (bR (bR _ (.cond _ (bR c _) _)) _)))=>c
 |_=>.ret
noncomputable def aaz:eE:=match Tryz.f45.body with
 |some (bR _ (bR _ (bR (bR _ (.cond _ (bR _ (bR c _)) _)) _)))=>c
 |_=>.ret
noncomputable def abG:eE:=match Tryz.f45.body with
 |some (bR _ (bR _ (bR (bR _ (.cond _ (bR _ (bR _ c)) _)) _)))=>c
 |_=>.ret
noncomputable def ZB:eE:=match Tryz.f45.body with
 |some (bR _ (bR _ (bR _ (bR c _))))=>c
 |_=>.ret
noncomputable def onT:eE:=match Tryz.f45.body with
 |some (bR _ (bR _ (bR _ (bR _ c))))=>c
 |_=>.ret
def ZL:Tryz.f45.body=M (bR ady (bR ac9 (bR (bR adf (.cond (cN 17) (bR aby (bR aaz abG)) .skip)) (bR ZB onT)))):=XN
def afy{f:Bool}{J R:X}(hs:tm.size=49)(t4:tm[4]? =M J)(t5:tm[5]? =M R)(t6:tm[6]? =M (.bool f))(t7:tm[7]? =M .nilIface)(z:∀tm:Array X,f=aR->tm.size=49->tm[4]? =M J->tm[5]? =M R->Q .normal ⟨tm,[]⟩ w)(E:∀tm:Array X,f=aL->tm.size=49->tm[2]? =M (N .u8 2)->tm[3]? =M .nilIface->Q .ret ⟨tm,[]⟩ w):aaz.wp PQ Q ⟨tm,[]⟩ w:=by
 obtain⟨l,rfl,hs⟩:=jZ hs
 iterate 49 (obtain⟨_,l,rfl,I⟩:=jV hs;clear hs;have hs:=I;clear I)
 obtain rfl:=cJ.1 hs;clear hs;simp only[eX,eU,dX,aK]at t4 t5 t6 t7;subst t4 t5 t6 t7;simp only[aaz,Tryz.f45];cases f with
 |true=>
  have HN:cH _:=λtm=>z tm rfl;clear z E;go_wp2_with fail;exact HN.out _ rfl rfl rfl
 |false=>
  have Y:cH _:=λtm=>E tm rfl;clear z E;go_wp2_with fail;exact Y.out _ rfl rfl rfl
def ab5{v:Vw}(hs:tm.size=49)(t4:tm[4]? =M (aD (M ⟨v.vb,0,Z⟩)))(h:lF w v)(R:∀(tm:Array X) w',tm.size=49->Xj w v v.com.length w'->Q .normal ⟨tm,[]⟩ w'):ZB.wp PQ Q ⟨tm,[]⟩ w:=by
 obtain⟨l,rfl,hs⟩:=jZ hs
 iterate 49 (obtain⟨_,l,rfl,E⟩:=jV hs;clear hs;have hs:=E;clear E)
 obtain rfl:=cJ.1 hs;clear hs;simp only[eX,eU,dX,aK]at t4;subst t4;obtain⟨ca,cc,z⟩:=h.com.slice;obtain⟨-,-,-,c3⟩:=cells4 h.obj;rw[z]at c3;have J:=Dk v v.com.length w h jB;have HL:cH _:=λ(_:Unit)=>J;have HN:cH _:=R;clear R J h z;generalize v.com.length=n at *;simp only[ZB,Tryz.f45];go_wp2_with (go_at_call 23;refine aT (HL.out ()) ?_;rintro e w1 ⟨rfl,I⟩;have Y:cH _:=I;clear I)
 exact HN.out _ _ rfl Y.out
def afs(hs:tm.size=49)(E:∀tm:Array X,tm.size=49->tm[2]? =M (N .u8 1)->tm[3]? =M .nilIface->Q .ret ⟨tm,[]⟩ w):onT.wp PQ Q ⟨tm,[]⟩ w:=by
 obtain⟨l,rfl,hs⟩:=jZ hs
 iterate 49 (obtain⟨_,l,rfl,z⟩:=jV hs;clear hs;have hs:=z;clear z)
 obtain rfl:=cJ.1 hs;clear hs;have I:cH _:=E;clear E;simp only[onT,Tryz.f45];go_wp2_with fail;exact I.out _ rfl rfl rfl
end
def ae9{tm:Array X}{w:U}{c:Cf}{x:Nd}{ev:X}{K:Act->U->Prop}(hs:tm.size=49)(t0:tm[0]? =M (aD (M ⟨x.nk,0,Z⟩)))(t4:tm[4]? =M (aD (M ⟨x.v.vb,0,Z⟩)))(h:lX w c x)(J:x.sil=0)(ae:w.cell? ⟨0,0,Z⟩=M ev)(hK:∀(tm:Array X) w' bx (u:X2) (ta la:Option eM) (tn tc I E:Nat) (f:Bool),tm.size=49->tm[0]? =M (aD (M ⟨x.nk,0,Z⟩))->tm[4]? =M (aD (M ⟨x.v.vb,0,Z⟩))->tm[5]? =M (aD (M ⟨bx,0,Z⟩))->tm[6]? =M (.bool f)->tm[7]? =M .nilIface->w'.heap[bx]? =M (aG #[N ab u.id,N ab u.time,.slice ta tn tc,.slice la I E] 28 (0,0))->Below ↑w w w'->Told x.ps (x.v.seen.length:Nat) (u,.slice ta tn tc,.slice la I E) f->K ⟨tm,[]⟩ w'):aby.wp PQ (Exit.then K λ_ _ _=>False) ⟨tm,[]⟩ w:=by
 obtain⟨l,rfl,hs⟩:=jZ hs
 iterate 49 (obtain⟨_,l,rfl,h'⟩:=jV hs;clear hs;have hs:=h';clear h')
 obtain rfl:=cJ.1 hs;clear hs;simp only[eX,eU,dX,aK]at t0 t4;subst t0 t4;obtain⟨va,Y,ac⟩:=h.vw.seen.slice;obtain⟨k7,-,-⟩:=h.cells;have c0:=kJ h.vw.obj;rw[ac]at c0;have q7:∀o,(w.alloc o).cell? ⟨x.nk,7,Z⟩=M (aD (M ⟨x.sb,0,Z⟩)):=λo=>lu k7 ((aJ _ w).alloc jB o);have q0:∀o,(w.alloc o).cell? ⟨x.v.vb,0,Z⟩=M (.slice va x.v.seen.length Y):=λo=>lu c0 ((aJ _ w).alloc jB o);have hB:∀W,Below ↑w w W->dE PQ 21 #[aD (M ⟨x.sb,0,Z⟩),N ab (x.v.seen.length:Nat)] W λe w'=>∃(u:X2)(ta la:Option eM)(tn tc I E:Nat)(f:Bool),e=bO (cQ #[fX #[N ab u.id,N ab u.time,.slice ta tn tc,.slice la I E],.bool f,.nilIface])/\(Told x.ps (x.v.seen.length:Nat) (u,.slice ta tn tc,.slice la I E) f/\Below ↑w w w')/\Below ↑W W w':=λW R=>(rD (by have:=(h.below R).src;rw[J]at this;exact this) (lu ae R) _).mono λe w' ⟨u,ta,la,tn,tc,I,E,f,h1,h2,h3⟩=>⟨u,ta,la,tn,tc,I,E,f,h1,⟨h2,R.trans (h3.mono R.size)⟩,h3⟩
 have HB:cH _:=hB;have HK:cH _:=hK;have z:=aJ ↑w w;clear hB hK h ac J;simp only[aby,Tryz.f45];go_region_with (go_at_call 21;(refine aT (HB.out _ ?_) ?_;(first|exact z|exact z.drew|exact below_drewN z _|exact(z.alloc jB _).drew|exact z.drew.alloc jB _);rintro e w5 ⟨u,ta,la,tn,tc,I,E,f,rfl,h5,aa⟩;(first|(have hz:w5.heap[w.heap.size]? =M (aG #[N ab 0,N ab 0,aH Z 0 0,aH Z 0 0] 28 (0,0)):=(aa.block _ aC).trans (cT w _);obtain⟨z0,z1,z2,z3⟩:=cells4 hz;have fz:=aQ hz;have HZ:cH _:=hz;clear hz)|skip);have H5:cH _:=h5;clear h5 aa))
 all_goals
  obtain⟨h5,R⟩:=H5.out;refine HK.out _ _ _ u ta la tn tc I E f rfl rfl rfl rfl rfl rfl ?_ ?_ h5
  .first
    |with_reducible exact cT _ _
    |exact(nK HZ.out _ _ _ _).1
  .first
    |with_reducible exact R.alloc R.size _
    |exact((jI.below R jB (λ_=>False)).trans (nK HZ.out _ _ _ _).2 λk hk e=>aA).lQ
end Hm
namespace Pa
open Go Go.Conc Go.RowKit Go.Joins
open Hm (ptr jF TS jL jI PU Vw lF Ro Pe Nd lX ady ac9 adf aby aaz abG ZB onT Told)
open Dv (X2 Cf Ch)
open Po hiding X2 H B IT PR NB
section
variable {tm:Array X}{s:Nat}{v u:X}{w:U}
def KI(h:tm[s]? =M v):(Act.mk tm []).eval (cN s)=v:=by simp[Act.eval,h]
def pI{s':Nat}(h:tm[s]? =M v)(z:s'≠s):(tm.setIfInBounds s' u)[s]? =M v:=by grind
def tnew(h:s<tm.size):(tm.setIfInBounds s u)[s]? =M u:=by grind
def lX.heap{w':U}{c:Cf}{x:Nd}(h:lX w c x)(q:w'.heap=w.heap):lX w' c x:=h.kept (λ_ _=>by rw[q]) (Ro.heap q)
def IJ{B:Nat}{a b c d:X}{act:Act}{r:jN}(h:w.heap[B]? =M (aG #[a,b,c,d] 28 (0,0)))(e:act.eval r=ptr B):∀t z (o:ij),o.op=.load 28 r->(bN act.eval o).run PQ (on w t z)=.ok (.value (fX #[a,b,c,d])) (on w t z):=λt z o ho=>by
 have k:=aI (show(on w t z).heap[B]? =_ from h);have J:=k 0;have k1:=k 1;have E:=k 2;have I:=k 3;unfold bN;simp only[ho,e,ptr];simp[go_sem,J,k1,E,I]
noncomputable def Xo:Array ij:=match abG with
 |.region _ ops _=>ops
 |_=>#[]
def ZR:∃z,abG=.region z Xo aL:=⟨_,rfl⟩
def JV:ir Xo.size=[0,1,2]:=XN
def ad3{E z:X}(h2:tm[2]? =M E)(h3:tm[3]? =M z)(w:U):(results Tryz.f45 tm).run PQ w=.ok (cQ #[E,z]) w:=by simp[results,Tryz.results45,go_sem,h2,h3]
end
section
def OnT(chain:List X2)(j:Nat)(v:Vw)(z:Nat)(v':Vw)(V:Int):Prop:=j<=z/\z<=chain.length/\v'.com=[]/\((V=1/\(chain.length-z<chain.length-j\/(z=j/\v.com≠[])))\/(V=2/\z=j/\j=chain.length/\v.com=[]))
section
variable {Post:vU}{D:Nat->Prop}{XX A:List cR}{c:Cf}{chain:List X2}{j:Nat}{p:Nn}{w:U}{te:cG}{xe:X}
def YX(rd:Cr.ReadW){b₀:cR}{a₀:Act}{ops:Array ij}{i:Nat}{rest:List Nat}{k:List pS}{o:ij}{x:jN}{a2:Array cG}(ho:ops[i]? =M o)(hw:cP o (yielded ops a₀.tmps)=aR)(a4:o.op=.call { callee:=.value (.func 45),args:=#[x],argTypes:=a2 })(ex:a₀.eval x=ptr p.x.nk)(hG:Oo w te xe)(h:Nb c chain j chain p w)(hc:Dv.jS chain=aR)(hcf:Dv.jK c=aR)(h1:1<=j)(J:j<=chain.length)(E:p.x.sil=0)(z:∀D' w' v' y' j' V,Nb c chain j' chain ⟨{ p.x with v:=v' },y'⟩ w'->OnT chain j p.x.v j' v' V->jL (NK p) w w'->(∀g,NK ⟨{ p.x with v:=v' },y'⟩ g->NK p g\/w.heap.size<=g)->Wq D' Post XX (b₀.at (a₀.put o.dst (cQ #[N .u8 V,.nilIface])) (bL ops rest::k)) A w'):Wq D Post XX (b₀.at a₀ (bL ops (i::rest)::k)) A w:=by
 have ae:=(Dv.jW hc).2.1;have af:=h.seen J;have Y:=h.len;obtain⟨ca,cc,ao⟩:=h.vc.vw.com.slice;have c3:=(cells4 h.vc.vw.obj).2.2.2;rw[ao]at c3;have k8:=h.nd.cells.2.1;clear ao;refine Wq.call ho hw a4 (fq Tryz.func45 rfl) rfl Hm.ZL ?_;simp only[fQ,eP,fP,ex,show Tryz.f45.ntmps=49 from rfl,dR,aU,bY,Nat.reduceAdd,Nat.reduceSub,dH,dG,dU,dI,dS,dN]
 have back:∀(D':Nat->Prop)(tm:Array X)(w':U)(todo:List pS)(v':Vw)(y':Ck)(j':Nat)(V:Int),tm[2]? =M (N .u8 V)->tm[3]? =M .nilIface->Nb c chain j' chain ⟨{ p.x with v:=v' },y'⟩ w'->OnT chain j p.x.v j' v' V->jL (NK p) w w'->(∀g,NK ⟨{ p.x with v:=v' },y'⟩ g->NK p g\/w.heap.size<=g)->Wq D' Post XX { (base 45).at ⟨tm,[]⟩ todo with mode:=.returning } (b₀.at a₀ (bL ops (i::rest)::k)::A) w':=by
  intro D' tm w' todo v' y' j' V h2 h3 q1 q2 q3 q4;refine Wq.leave (v:=.tuple _) (fn:=Tryz.f45) rfl rfl rfl (fq Tryz.func45 rfl) (ad3 h2 h3) ?_;rw[fO,ho];exact z D' w' v' y' j' V q1 q2 q3 q4
 have H:cH _:=jy h (jy z (jy back (jy af (jy hc (jy hcf (jy h1 (jy ae (jy J (jy Y E)))))))));clear h z back af hc hcf h1 ae J Y E;obtain⟨nc,ac⟩:∃nc,nc=p.x.v.com.length:=⟨_,rfl⟩
 rw[<-ac]at c3;have aq:cH _:=ac;clear ac;refine Wq.seq (Wq.walk λt d Q I _=>?_);have HN:cH _:=I;clear I;simp only[ady,Tryz.f45];go_wp2_with fail;refine HN.out _ _ (Wq.same (y:=w) (λ_ _=>rfl) (Wq.seq (Wq.walk λt d Q I _=>?_)));clear HN;have HN:cH _:=I;clear I;have av:(on w t d).cell? _=_:=k8;simp only[ac9,Tryz.f45,ptr];go_wp2_with fail;refine HN.out _ _ (Wq.same (y:=w) (λ_ _=>rfl) (Wq.seq (Wq.seq (Wq.walk λt d Q I _=>?_))));clear HN av;have HN:cH _:=I;clear I;have au:(on w t d).cell? _=_:=c3;simp only[adf,Tryz.f45];by_cases h0:nc=0
 case neg=>
  have a8:((nc:Int) == (0:Int))=aL:=ZS aA;go_wp2_with fail;obtain⟨h,z,back,af,hc,hcf,h1,ae,J,Y,E⟩:=H.out;refine HN.out _ _ (Wq.same (y:=w) (λ_ _=>rfl) (Wq.cond (t:=aL) rfl ?_));clear HN au;rw[Zs aB];refine Wq.skip (Wq.seq (Wq.walk λt d Q I _=>Hm.ab5 (w:=on w t d) (v:=p.x.v) rfl rfl (lF.heap h.vc.vw rfl) λtm w4 x0 hL=>I _ _ ?_));obtain⟨v4,aj,f1,f2,f3,f4,R,aa⟩:=VC.laid (h.vc.heap (w':=on w t d) rfl) hL;have ag:jL (VK p.x.v p.y) w w4:=R.heaps rfl rfl;obtain⟨n1,n2,n3⟩:=h.viewed (v':=v4) (y':=p.y) aj f1 ag aa;refine Wq.walk λt d Q _ hR=>Hm.afs x0 λtm x0 x2 x3=>hR _ _ λtodo=>Wq.same (y:=w4) (λ_ _=>rfl) ?_;exact back D tm w4 todo v4 p.y j 1 x2 x3 n1 ⟨jB,J,by rw[f4,List.drop_length],bE ⟨rfl,cD ⟨rfl,λe=>h0 (by rw[aq.out,e];rfl)⟩⟩⟩ n2 n3
 subst h0;go_wp2_with fail;refine HN.out _ _ (Wq.same (y:=w) (λ_ _=>rfl) (Wq.cond (t:=aR) rfl ?_));clear HN au;rw[ZD rfl];obtain⟨h,z,back,af,hc,hcf,h1,ae,J,Y,E⟩:=H.out;have ac:=aq.out;refine Wq.seq (Wq.walk λt d Q I _=>wp_mono (Hm.ae9 (w:=on w t d) (c:=c) (x:=p.x) (K:=λa' w'=>Q .normal a' w') rfl rfl rfl (lX.heap h.nd rfl) E hG.ev λtm w2 bx u ta la tn tc ln lc f z0 z1 z4 z5 z6 z7 aw ay hT=>I _ _ ?_) (rY λ_ _ e=>e));have ah:jL (λ_=>False) w w2:=(kV ay).heaps rfl rfl;have h2:=h.still ah;have s2:=ah.size;refine Wq.seq (Wq.walk λt d Q I hR=>Hm.afy z0 z4 z5 z6 z7 (λtm e y0 y4 y5=>I _ _ (Wq.same (y:=w2) (λ_ _=>rfl) ?_)) λtm e y0 y2 y3=>hR _ _ λtodo=>Wq.same (y:=w2) (λ_ _=>rfl) ?_)
 .subst e;obtain⟨-,n,hn,hq⟩|⟨e,-⟩:=hT
  case inr=>cases e
  obtain rfl:j=n:=aA
  have ai:j<chain.length:=by rw[<-Y];exact(aN.1 hq).1
  have a5:=h2.nd.src.up _ (aX hq);obtain⟨a7,am⟩:=ZR;rw[am];refine Wq.region ?_;rw[JV];refine Wq.qJ (.move (cN 4)) (M 39) (ptr p.x.v.vb) w2 rfl (λt d o h=>by unfold bN;simp only[h,KI y4];rfl) ?_;refine Wq.qJ (.load 28 (cN 5)) (M 40) _ w2 rfl (IJ aw (KI (pI y5 aB))) ?_;obtain⟨o2,az,a1,a0,a6⟩:∃o,Xo[2]? =M o/\o.op=.call { callee:=.value (.func 22),args:=#[cN 39,cN 40],argTypes:=#[57,28] }/\o.dst=M 41/\o.guard=Z:=⟨_,rfl,rfl,rfl,rfl⟩
  simp only[Act.put];refine DF rd (v:=p.x.v) (y:=p.y) az (Cr.jY a6) a1 (KI (pI (tnew aA) aB)) (KI (tnew (by grind))) (by have:=hG.gl;omega) h2.vc hc hcf ai (h.up hq) a5 ?_;intro D3 w3 v3 y3 com ap e1 e2 e3 e4 e5 an a3;rw[a0];simp only[Act.put];refine Wq.done ?_;have s3:=an.size;refine Wq.seq (Wq.walk λt d Q I _=>Hm.ab5 (w:=on w3 t d) (v:=v3) (by grind) (by grind) (lF.heap ap.vw rfl) λtm w4 x0 hL=>I _ _ ?_);obtain⟨v4,aj,f1,f2,f3,f4,R,aa⟩:=VC.laid (ap.heap (w':=on w3 t d) rfl) hL;have ag:jL (VK v3 y3) w3 w4:=R.heaps rfl rfl;have a9:∀g,VK v4 y3 g->VK v3 y3 g\/w3.heap.size<=g:=aa;have s4:=ag.size;have ak:jL (VK p.x.v p.y) w w4:=(ah.mono λ_ _ e=>e.elim).trans (an.trans ag λk hk e=>(a3 k e).elim id λe=>aA) λ_ _ e=>e
  obtain⟨n1,n2,n3⟩:=h.viewed (v':=v4) (y':=y3) aj (f1.trans e1) ak (λg hg=>by
   grind)
  refine Wq.walk λt d Q _ hR=>Hm.afs x0 λtm x0 x2 x3=>hR _ _ λtodo=>Wq.same (y:=w4) (λ_ _=>rfl) ?_;exact back D3 tm w4 todo v4 y3 (j+1) 1 x2 x3 n1 ⟨aA,ai,by rw[f4,List.drop_length],bE ⟨rfl,bE aA⟩⟩ n2 n3
 .subst e;obtain⟨e,-⟩|⟨-,hn⟩:=hT
  .cases e
  have ai:¬j<chain.length:=aA
  have ar:p.x.v.com=[]:=bP ac.symm;exact back D tm w2 todo p.x.v p.y j 2 y2 y3 h2 ⟨jB,J,ar,cD ⟨rfl,rfl,aA,ar⟩⟩ (ah.mono λ_ _ e=>e.elim) λg e=>bE e
end
end
end Pa
namespace Hm
open Go.RowKit Go.Joins Go.Shelf
open Fr (below_drewN)
open Dv (Lo X2 Cf)
section
variable {n:Nat}{v8:X}{w:U}
noncomputable def ac1:eE:=match Tryz.f44.body with
 |some (bR c _)=>c
 |_=>.ret
noncomputable def adq:eE:=match Tryz.f44.body with
 |some (bR _ (bR c _))=>c
 |_=>.ret
noncomputable def acV:eE:=match Tryz.f44.body with
 |some (bR _ (bR _ (bR c _)))=>c
 |_=>.ret
noncomputable def adz:eE:=match Tryz.f44.body with
 |some (bR _ (bR _ (bR _ (bR (bR c _) _))))=>c
 |_=>.ret
noncomputable def Gf:eE:=match Tryz.f44.body with
 |some (bR _ (bR _ (bR _ (bR (bR _ (.block _ (.loop c))) _))))=>c
 |_=>.ret
noncomputable def bkT:eE:=match Tryz.f44.body with
 |some (bR _ (bR _ (bR _ (bR _ c))))=>c
 |_=>.ret
noncomputable def aaf:eE:=match Gf with
 |bR (bR c _) _=>c
 |_=>.ret
noncomputable def aaS:eE:=match Gf with
 |bR _ (bR (.block _ (bR c _)) _)=>c
 |_=>.ret
noncomputable def Z5:eE:=match Gf with
 |bR _ (bR (.block _ (bR _ (bR c _))) _)=>c
 |_=>.ret
noncomputable def Z4:eE:=match Gf with
 |bR _ (bR (.block _ (bR _ (bR _ (bR c _)))) _)=>c
 |_=>.ret
noncomputable def RY:eE:=match Gf with
 |bR _ (bR (.block _ (bR _ (bR _ (bR _ (bR c _))))) _)=>c
 |_=>.ret
noncomputable def QX:eE:=match Gf with
 |bR _ (bR (.block _ (bR _ (bR _ (bR _ (bR _ c))))) _)=>c
 |_=>.ret
noncomputable def aa9:eE:=match Gf with
 |bR _ (bR _ c)=>c
 |_=>.ret
def aah:Tryz.f44.body=M (bR ac1 (bR adq (bR acV (bR (bR adz (.block 0 (.loop Gf))) bkT)))):=XN
def QB:Gf=bR (bR aaf (.cond (cN 30) .skip (.exit 0))) (bR (.block 1 (bR aaS (bR Z5 (bR Z4 (bR RY QX))))) aa9):=XN
structure KQ(tm:Array X)(nk:Nat)(q:Int)(vl:X)(vb i:Nat):Prop where
 sz:tm.size=72
 t0:tm[0]? =M (aD (M ⟨nk,0,Z⟩))
 t1:tm[1]? =M (N ab q)
 t5:tm[5]? =M vl
 t6:tm[6]? =M (aD (M ⟨vb,0,Z⟩))
 t7:tm[7]? =M (N ab i)
section
variable {tm:Array X}{w:U}{nk vb i:Nat}{q:Int}{vl:X}{Q:p9->Act->U->Prop}
def abK{la:Option eM}{z:Nat}{v:Vw}(h:KQ tm nk q (.slice la n z) v.vb i)(Y:lF w v)(R:∀tm:Array X,KQ tm nk q (.slice la n z) v.vb i->tm[30]? =M (cK (decide ((i:Int)<=q) || decide (v.com.length=0/\v.log.length<n)))->Q .normal ⟨tm,[]⟩ w):aaf.wp PQ Q ⟨tm,[]⟩ w:=by
 obtain⟨hs,t0,t1,t5,t6,t7⟩:=h;obtain⟨l,rfl,hs⟩:=jZ hs
 iterate 72 (obtain⟨_,l,rfl,E⟩:=jV hs;clear hs;have hs:=E;clear E)
 obtain rfl:=cJ.1 hs;clear hs;simp only[eX,eU,dX,aK]at t0 t1 t5 t6 t7;subst t0 t1 t5 t6 t7;have hR:=KG v la n z w Y;have HR:cH _:=λ(_:Unit)=>hR;have J:cH _:=R;clear R hR Y;simp only[aaf,Gf,kI];by_cases I:(i:Int)<=q
 .go_wp2_with fail;exact J.out _ ⟨rfl,rfl,rfl,rfl,rfl,rfl⟩ (by simp[I])
 .have Hq:cH _:=I;go_wp2_with (go_at_call 64;refine aT (HR.out ()) ?_;rintro e w1 ⟨rfl,rfl⟩)
  exact J.out _ ⟨rfl,rfl,rfl,rfl,rfl,rfl⟩ (by simp;intro h;exact Xs h Hq.out)
def afT{c:Cf}{x:Nd}{ev:X}(h:KQ tm x.nk q vl vb i)(hx:w.heap[x.nk]? =M (aG (lI c x.sb x.v.vb x.rs) 60 (0,0)))(hS:tX w x.sb x.vb x.ps x.last 0)(z:w.cell? ⟨0,0,Z⟩=M ev)(hN:∀(tm:Array X) w' bx (u:X2) (ta la:Option eM) (tn tc J I:Nat) (f:Bool),KQ tm x.nk q vl vb i->tm[8]? =M (aD (M ⟨bx,0,Z⟩))->tm[9]? =M (.bool f)->tm[10]? =M .nilIface->w'.heap[bx]? =M (aG #[N ab u.id,N ab u.time,.slice ta tn tc,.slice la J I] 28 (0,0))->Below ↑w w w'->Told x.ps (i:Nat) (u,.slice ta tn tc,.slice la J I) f->Q .normal ⟨tm,[]⟩ w'):aaS.wp PQ Q ⟨tm,[]⟩ w:=by
 obtain⟨hs,t0,t1,t5,t6,t7⟩:=h;obtain⟨l,rfl,hs⟩:=jZ hs
 iterate 72 (obtain⟨_,l,rfl,Y⟩:=jV hs;clear hs;have hs:=Y;clear Y)
 obtain rfl:=cJ.1 hs;clear hs;simp only[eX,eU,dX,aK]at t0 t1 t5 t6 t7;subst t0 t1 t5 t6 t7;have k7:w.cell? ⟨x.nk,7,Z⟩=M (aD (M ⟨x.sb,0,Z⟩)):=mZ hx rfl;have hB:=rD hS z (i:Int);have HB:cH _:=λ(_:Unit)=>hB;have HN:cH _:=hN;clear hN hB hS hx z;simp only[aaS,Gf,kI];go_wp2_with (go_at_call 21;refine aT (HB.out ()) ?_;rintro e w5 ⟨u,ta,la,tn,tc,J,I,f,rfl,h5,E⟩;have R:cH _:=jy h5 E;clear h5 E)
 exact HN.out _ _ ↑w5 u ta la tn tc J I f ⟨rfl,rfl,rfl,rfl,rfl,rfl⟩ rfl rfl rfl (cT _ _) (R.out.2.alloc (by exact R.out.2.size) _) R.out.1
def afK{J:X}(h:KQ tm nk q vl vb i)(t8:tm[8]? =M v8)(I:tm[9]? =M J)(t10:tm[10]? =M .nilIface)(z:∀tm:Array X,KQ tm nk q vl vb i->tm[8]? =M v8->tm[9]? =M J->Q .normal ⟨tm,[]⟩ w):Z5.wp PQ Q ⟨tm,[]⟩ w:=by
 obtain⟨hs,t0,t1,t5,t6,t7⟩:=h;obtain⟨l,rfl,hs⟩:=jZ hs
 iterate 72 (obtain⟨_,l,rfl,E⟩:=jV hs;clear hs;have hs:=E;clear E)
 obtain rfl:=cJ.1 hs;clear hs;simp only[eX,eU,dX,aK]at t0 t1 t5 t6 t7 t8 I t10;subst t0 t1 t5 t6 t7 t8 I t10;have R:cH _:=z;clear z;simp only[Z5,Gf,kI];go_wp2_with fail;exact R.out _ ⟨rfl,rfl,rfl,rfl,rfl,rfl⟩ rfl rfl
def afg(h:KQ tm nk q vl vb i)(t8:tm[8]? =M v8)(E:tm[9]? =M (cK aR))(I:∀tm:Array X,KQ tm nk q vl vb i->tm[8]? =M v8->Q .normal ⟨tm,[]⟩ w):Z4.wp PQ Q ⟨tm,[]⟩ w:=by
 obtain⟨hs,t0,t1,t5,t6,t7⟩:=h;obtain⟨l,rfl,hs⟩:=jZ hs
 iterate 72 (obtain⟨_,l,rfl,z⟩:=jV hs;clear hs;have hs:=z;clear z)
 obtain rfl:=cJ.1 hs;clear hs;simp only[eX,eU,dX,aK]at t0 t1 t5 t6 t7 t8 E;subst t0 t1 t5 t6 t7 t8 E;have J:cH _:=I;clear I;simp only[Z4,Gf,kI];go_wp2_with fail;exact J.out _ ⟨rfl,rfl,rfl,rfl,rfl,rfl⟩ rfl
def afm(h:KQ tm nk q vl vb i)(J:i<=60)(E:∀tm:Array X,KQ tm nk q vl vb (i+1)->Q .normal ⟨tm,[]⟩ w):aa9.wp PQ Q ⟨tm,[]⟩ w:=by
 obtain⟨hs,t0,t1,t5,t6,t7⟩:=h;obtain⟨l,rfl,hs⟩:=jZ hs
 iterate 72 (obtain⟨_,l,rfl,z⟩:=jV hs;clear hs;have hs:=z;clear z)
 obtain rfl:=cJ.1 hs;clear hs;simp only[eX,eU,dX,aK]at t0 t1 t5 t6 t7;subst t0 t1 t5 t6 t7;have I:cH _:=E;clear E;simp only[aa9,Gf,kI];go_wp2_with fail;exact I.out _ ⟨rfl,rfl,rfl,rfl,rfl,rfl⟩
def pz.rest{a:Option eM}{cap m:Nat}{pl:List PL}(h:pz w (.slice a n cap) pl)(Y:pl.length=n)(hm:m<=n):pz w (.slice (if cap=m then a else a.map (·.add (m*8))) (n-m) (cap-m)) (pl.drop m):=by
 subst Y;refine⟨?_,λp hp=>h.2 p (je hp)⟩;obtain⟨hl,a',c',e,hc,hp⟩:=h.1;cases e;refine⟨?_,_,_,by rw[dW],by rw[dW];omega,λE=>?_⟩
 .rw[mQ jJ 8 (λ_=>rfl)]
 .rw[dW]at E;obtain⟨g,off,rfl,J,z⟩:=hp aA;rw[Zs aA];refine⟨g,off+m*8,?_,J,λj u hj=>?_⟩
  .simp only[cO,jp];split
   .rename_i I;simp[I]
   .rfl
  .rw[dV];refine z (m*8+j) u ?_;have e:pl.flatMap jJ=(pl.take m).flatMap jJ++(pl.drop m).flatMap jJ:=by rw[<-iw,oy]
   have R:((pl.take m).flatMap jJ).length=m*8:=by rw[mQ jJ 8 (λ_=>rfl),bK,fZ hm]
   rw[e,bV aA,R,Nat.add_sub_cancel_left];exact hj
def Xj.from{W w':U}{v:Vw}(z:Below ↑w w W)(h:Xj W v n w'):Xj w v n w':=by obtain⟨vl,vc,E,h2,h3,h4⟩:=h;exact⟨vl,vc,E,(jI.below z jB _).trans h2 λ_ _ e=>e,λg I=>(h3 g I).imp id (bH z.size),h4⟩
def aha{c:Cf}{sb v0:Nat}{rs:Bool}(h:KQ tm nk q vl vb i)(z:w.heap[nk]? =M (aG (lI c sb v0 rs) 60 (0,0)))(J:∀(tm:Array X) w',tm[4]? =M .nilIface->w'.heap[nk]? =M (aG (lI c sb vb aL) 60 (0,0))->jI (λk=>k=nk) w w'->Q .ret ⟨tm,[]⟩ w'):bkT.wp PQ Q ⟨tm,[]⟩ w:=by
 obtain⟨hs,t0,t1,t5,t6,t7⟩:=h;obtain⟨l,rfl,hs⟩:=jZ hs
 iterate 72 (obtain⟨_,l,rfl,E⟩:=jV hs;clear hs;have hs:=E;clear E)
 obtain rfl:=cJ.1 hs;clear hs;simp only[eX,eU,dX,aK]at t0 t1 t5 t6 t7;subst t0 t1 t5 t6 t7;have R:w.cell? ⟨nk,8,Z⟩=M (aD (M ⟨v0,0,Z⟩)):=mZ z rfl;have k9:w.cell? ⟨nk,9,Z⟩=M (.bool rs):=mZ z rfl;have Y:=aQ z;have I:cH _:=jy J z;clear J z;simp only[bkT,kI];go_wp2_with fail;refine I.out.1 _ _ rfl ?_ ((jI.set w nk 8 _).trans (.set _ nk 9 _) λ_ _ e=>e);have:=jX (jX I.out.2 8 (aD (M ⟨vb,0,Z⟩))) 9 (cK aL);simpa[lI]using this
end
end
end Hm
namespace Pa
open Go Go.Conc Go.RowKit Go.Joins
open Hm (ptr jF jP TS jL jI PU PL Vw lF VO Ro Pe IE pz Nd lX NO SO ac1 adq acV adz Gf bkT aaf aaS Z5 Z4 RY QX aa9 KQ Told tK lives)
open Dv (X2 Cf Ch)
open Po hiding X2 H B IT PR NB
section
variable {w w':U}
noncomputable def Xf:Array ij:=match RY with
 |.region _ ops _=>ops
 |_=>#[]
def XA:∃z,RY=.region z Xf aL:=⟨_,rfl⟩
def Md:ir Xf.size=[0,1,2]:=XN
def ad2{tm:Array X}{z:X}(h4:tm[4]? =M z)(w:U):(results kI tm).run PQ w=.ok z w:=by simp[results,Tryz.results44,go_sem,h4]
def Vo(n:Nat):Vw:=⟨n+4,aH Z 0 0,[],n+3,aH Z 0 0,[],aH Z 0 0,[]⟩
def Zg(n:Nat):Ck:=⟨n+2,aH Z 0 0,[],λ_=>[],aH Z 0 0,aH Z 0 0,[],[],[],0,0,0⟩
def adi{n k:Nat}(h:VK (Vo n) (Zg n) k):k=n+4\/k=n+3\/k=n+2:=by
 obtain((e|e|e)|e)|e|e|e|e|e|⟨o,ho,_⟩:=h
 .exact bE e
 .cases e
 .cases e
 .cases e
 .exact cD (bE e)
 .cases e
 .cases e
 .exact cD (cD e)
 .cases e
 .cases ho
def Kr(c:Cf)(chain:List X2)(hH:qM w)(hg:Tryz.prog.globals.size<=w.heap.size)(hq:w'.heap=(tK c w).heap):VC c chain 0 (Vo ↑w) (Zg ↑w) w'/\jL (λ_=>False) w w'/\↑w'=w.heap.size+5:=by
 obtain⟨w1,ac,ah,-⟩:=jD w (jF c) 24;have I:=kV ah;have aa:↑w1=w.heap.size+1:=by rw[ac];simp
 obtain⟨w4,z⟩:∃w4,w4=(((w1.alloc (aG (jF c) 24)).alloc (.map #[] 0)).alloc (aG (jP c (aH Z 0 0) (w1.heap.size+1) (aH Z 0 0) (aH Z 0 0) 0 0 0) 100)):=⟨_,rfl⟩
 have hT:=Y1 (w':=w4) c (hH.kept I).hd (hH.kept I).ty (by rw[z]);have R:↑w4=w.heap.size+4:=by rw[z];simp[aa]
 obtain⟨w5,ae,af,Y⟩:=jD w4 #[aH Z 0 0,aD (M ⟨w.heap.size+3,0,Z⟩),aH Z 0 0,aH Z 0 0] 73;have J:=kV af;rw[aa]at hT;rw[R]at Y;have E:w'.heap=w5.heap:=by rw[hq,ae,z,ac];unfold tK;simp
 have ag:jL (λ_=>False) w1 w4:=⟨aA,λk hk _=>by
  rw[z,fV _ _ _ aF,fV _ _ _ aF,fV _ _ _ hk]⟩
 have hV:lF w5 (Vo ↑w):=⟨Y,Hm.Row.nil _ _ _,Hm.Row.nil _ _ _,Hm.Row.nil _ _ _,λp hp=>(by cases hp),λg hg=>(by cases hg),by simp[Vo]⟩
 have hv:VC c chain 0 (Vo ↑w) (Zg ↑w) w5:=⟨hV,(hT.kept J λ_ _ e=>e),Hm.RM.start _ _ _,rfl,by simp[Zg],λx hx=>by simp[Zg,lives]at hx,λi=>by simp[Zg],λk hk=>by have:=adi hk;omega⟩
 exact⟨hv.heap E,((I.trans ag λ_ _ e=>e).trans J λ_ _ e=>e).heaps rfl E,by rw[E,ae];simp[R]⟩
section
variable {Post:vU}{XX A:List cR}{c:Cf}{chain:List X2}{j kk:Nat}{rs:Bool}{p:Nn}{w:U}{te:cG}{xe:X}
def FX{v:X}{pl:List PL}(h:pz w v pl)(hc:jL (λ_=>False) w w'):pz w' v pl:=⟨Hm.Rd.kept h.1 hc.size λ_ g _ z=>hc.block g z (λe=>e),λp hp=>(h.2 p hp).ro (Ro.of hc)⟩
end
end
end Pa
namespace Hm
open Go.RowKit Go.Joins Go.Shelf
open Fr (below_drewN)
open Dv (Lo)
def acj(e:pm):Prop:=∃b,e=bO (cK b)
def FT{va vb:X}{la lb:List (List UInt8)}(w:U)(E:kQ w va la)(I:kQ w vb lb):dE PQ 131 #[va,vb] w λe w'=>acj e/\Below ↑w w w':=by
 obtain⟨aa,ac,rfl⟩:=Row.slice E;obtain⟨ba,bc,rfl⟩:=Row.slice I;have hl:=Row.short E;by_cases z:la.length=lb.length
 .obtain⟨n,hn⟩:∃n,la.length=n:=⟨_,rfl⟩
  have H:cH _:=jy E (jy I (jy hn z));rw[<-z];rw[hn]at hl⊢;clear E I hn z;have af:((n:Int) == (n:Int))=aR:=aC
  go_enter (fq Tryz.func131 rfl),Tryz.ntmps131;go_wp2_with fail;go_loopg [5,13] n (λgg _ t wr=>∃i:Nat,i<=n/\t=N ab i/\gg=n-i/\cH (Below ↑w w wr))
  case atStart=>exact⟨0,dL _,rfl,rfl,aJ _ _⟩
  case round=>
   obtain⟨i,hi,rfl,rfl,R⟩:=hrel;by_cases ag:i<n
   .have J:(i:Int)<n:=by omega
    obtain⟨E,I,hn,z⟩:=H.out;obtain⟨x,hx⟩:∃x,la[i]? =M x:=⟨_,aO aA⟩
    obtain⟨y,hy⟩:∃x,lb[i]? =M x:=⟨_,aO aA⟩
    obtain⟨g1,o1,c1,e1,_⟩:=Row.pos E aA;obtain⟨g2,o2,c2,e2,_⟩:=Row.pos I aA;cases e1;cases e2;have k1:=(R.out.cell (p:=⟨g1,o1+i,Z⟩) (Row.lt E rfl)).trans (Row.cell E rfl i _ (show(la.map nT)[i]? =M (nT x) by rw[fE,hx];rfl));have k2:=(R.out.cell (p:=⟨g2,o2+i,Z⟩) (Row.lt I rfl)).trans (Row.cell I rfl i _ (show(lb.map nT)[i]? =M (nT y) by rw[fE,hy];rfl));unfold nT at k1 k2;obtain⟨XB,ae⟩:∃Wd:ByteArray,(⟨x.toArray⟩:ByteArray)=Wd:=⟨_,rfl⟩
    obtain⟨YB,Y⟩:∃Wd:ByteArray,(⟨y.toArray⟩:ByteArray)=Wd:=⟨_,rfl⟩
    rw[ae]at k1;rw[Y]at k2;clear E I hn hx hy ae Y z;cases ah:(XB.toList == YB.toList)
    case true=>
     go_wp2_with fail;go_quiet (fail);go_wp2_with fail;go_roundg (n-(i+1))
     case measure=>omega
     case rel=>exact⟨i+1,aA,by go_num,rfl,below_drewN R.out _⟩
    case false=>
     go_wp2_with fail;go_quiet (fail);go_wp2_with fail;go_ret;exact⟨⟨_,rfl⟩,below_drewN R.out _⟩
   .have J:¬(i:Int)<n:=by omega
    go_wp2_with fail;go_ret;exact⟨⟨_,rfl⟩,R.out⟩
 .have af:((la.length:Int) == (lb.length:Int))=aL:=ZS aA;clear E I;go_enter (fq Tryz.func131 rfl),Tryz.ntmps131;go_wp2_with fail;go_ret;exact⟨⟨_,rfl⟩,aJ _ _⟩
def Om(p q:PL)(w:U)(hp:IE w p)(hq:IE w q):dE PQ 96 #[.agg (jJ p).toArray,.agg (jJ q).toArray] w λe w'=>acj e/\Below ↑w w w':=by
 have I:=λ(V:U)(hV:Below w.heap.size w V)=>FT V (Row.below hp.1 hV) (Row.below hq.1 hV);have E:=λ(V:U)(hV:Below w.heap.size w V)=>FT V (Row.below hp.2 hV) (Row.below hq.2 hV);obtain⟨a1,c1,e1⟩:=Row.slice hp.1;obtain⟨a2,c2,e2⟩:=Row.slice hp.2;obtain⟨a3,c3,e3⟩:=Row.slice hq.1;obtain⟨a4,c4,e4⟩:=Row.slice hq.2;clear hp hq;unfold jJ;rw[e1,e2,e3,e4];rw[e1,e3]at I;rw[e2,e4]at E;clear e1 e2 e3 e4;generalize p.1.txs.length=n1 at *;generalize p.1.deps.length=n2 at *;generalize q.1.txs.length=n3 at *;generalize q.1.deps.length=n4 at *;generalize p.1.time=f2 at *;generalize p.1.id=f4 at *;generalize q.1.time=g2 at *;generalize q.1.id=g4 at *;generalize ((p.1.number:Nat):Int)=f1 at *;generalize ((p.1.epoch:Nat):Int)=f3 at *;generalize ((p.1.seq:Nat):Int)=f5 at *;generalize ((p.1.at_:Nat):Int)=f6 at *;generalize ((q.1.number:Nat):Int)=g1 at *;generalize ((q.1.epoch:Nat):Int)=g3 at *;generalize ((q.1.seq:Nat):Int)=g5 at *;generalize ((q.1.at_:Nat):Int)=g6 at *;obtain⟨Y,hY,J,y1⟩:=jD w #[N ab f1,N ab f2,N ab f3,N ab f4,N ab f5,.slice a1 n1 c1,.slice a2 n2 c2,N ab f6] 52;obtain⟨Wd,hX,R,x2⟩:=jD Y #[N ab g1,N ab g2,N ab g3,N ab g4,N ab g5,.slice a3 n3 c3,.slice a4 n4 c4,N ab g6] 52;have aa:Y.heap.size=w.heap.size+1:=by rw[hY];simp
 have x1:=(R.block ↑w aA).trans y1;rw[aa]at x2;have hb:=J.trans (R.mono J.size);have l1:=(jE x1)
 have l2:=(jE x2)
 obtain⟨k0,k1,k2,k3,k4,k5,k6,k7,kf⟩:=lq x1;obtain⟨m0,m1,m2,m3,m4,m5,m6,m7,mf⟩:=lq x2;have H:cH _:=jy I (jy E (jy hb (jy x1 x2)));clear I E hb x1 x2 y1 J R aa kf mf;obtain⟨t1,h1⟩:∃t,(f1 == g1)=t:=⟨_,rfl⟩
 obtain⟨t2,h2⟩:∃t,(f2 == g2)=t:=⟨_,rfl⟩
 obtain⟨t3,h3⟩:∃t,(f3 == g3)=t:=⟨_,rfl⟩
 obtain⟨t4,h4⟩:∃t,(f4 == g4)=t:=⟨_,rfl⟩
 obtain⟨t5,h5⟩:∃t,(f5 == g5)=t:=⟨_,rfl⟩
 obtain⟨t6,h6⟩:∃t,(f6 == g6)=t:=⟨_,rfl⟩
 go_enter (fq Tryz.func96 rfl),Tryz.ntmps96;go_upto_region 1 with fail;rw[<-hY,<-hX];clear hX hY;cases t1
 .go_wp2_with fail;go_ret;exact⟨⟨_,rfl⟩,H.out.2.2.1⟩
 cases t2
 .go_wp2_with fail;go_ret;exact⟨⟨_,rfl⟩,H.out.2.2.1⟩
 cases t3
 .go_wp2_with fail;go_ret;exact⟨⟨_,rfl⟩,H.out.2.2.1⟩
 cases t4
 .go_wp2_with fail;go_ret;exact⟨⟨_,rfl⟩,H.out.2.2.1⟩
 cases t5
 .go_wp2_with fail;go_ret;exact⟨⟨_,rfl⟩,H.out.2.2.1⟩
 cases t6
 .go_wp2_with fail;go_ret;exact⟨⟨_,rfl⟩,H.out.2.2.1⟩
 go_wp2_with (go_at_call 131;first|((with_reducible refine aT (H.out.1 _ H.out.2.2.1) ?_);rintro e w2 ⟨⟨b,rfl⟩,z⟩;obtain⟨_,_,_,_,_,_,p6,_,_⟩:=lq ((z.block _ l1).trans H.out.2.2.2.1);obtain⟨_,_,_,_,_,_,r6,_,_⟩:=lq ((z.block _ l2).trans H.out.2.2.2.2);have Hb:cH _:=H.out.2.2.1.trans (z.mono H.out.2.2.1.size);clear z;cases b)|((with_reducible refine aT (H.out.2.1 _ Hb.out) ?_);rintro e w3 ⟨⟨b',rfl⟩,ac⟩;have ae:cH _:=Hb.out.trans (ac.mono Hb.out.size);clear ac))
 all_goals go_ret
 .exact⟨⟨_,rfl⟩,Hb.out⟩
 .exact⟨⟨_,rfl⟩,ae.out⟩
def Og{va vb:X}(J I:List PL)(w:U)(ha:pz w va J)(R:pz w vb I)(hl:J.length<=4294967296/\I.length<=4294967296):dE PQ 65 #[va,vb] w λe w'=>∃z:Nat,e=bO (N ab z)/\(z<=J.length/\z<=I.length)/\Below ↑w w w':=by
 obtain⟨aa,ac,rfl⟩:=ha.1.slice;obtain⟨ba,bc,rfl⟩:=R.1.slice;obtain⟨m,hm⟩:∃m,min J.length I.length=m:=⟨_,rfl⟩
 have ar:m<=J.length:=aA
 have ap:m<=I.length:=aA
 have an:min (J.length:Int) (I.length:Int)=m:=aA
 have H:cH _:=jy ha R;clear ha R;go_enter (fq Tryz.func65 rfl),Tryz.ntmps65;go_wp2_with fail;go_loopg [6,13] m (λgg _ t wr=>∃i:Nat,i<=m/\t=N ab i/\gg=m-i/\cH (Below ↑w w wr))
 case atStart=>exact⟨0,dL _,rfl,rfl,aJ _ _⟩
 case round=>
  obtain⟨i,hi,rfl,rfl,HI⟩:=hrel;by_cases ao:i<m
  .have aj:(i:Int)<m:=by omega
   have aq:(i:Int)<J.length:=aA
   have au:(i:Int)<I.length:=aA
   obtain⟨ha,R⟩:=H.out;obtain⟨p,hp⟩:∃x,J[i]? =M x:=⟨_,aO aA⟩
   obtain⟨q,hq⟩:∃x,I[i]? =M x:=⟨_,aO aA⟩
   obtain⟨g1,o1,c1,e1,_⟩:=ha.1.pos aA;obtain⟨g2,o2,c2,e2,_⟩:=R.1.pos aA;cases e1;cases e2;have af:=ha.below HI.out;have ae:=R.below HI.out;obtain⟨a1,n1,k1,a2,n2,k2,ai,ah,x0,x1,x2,x3,x4,x5,x6,x7⟩:=af.cells hp;obtain⟨a3,n3,k3,a4,n4,k4,am,ag,y0,y1,y2,y3,y4,y5,y6,y7⟩:=ae.cells hq;have hs:=λV (hV:Below ↑wr wr V)=>Om p q V ((af.2 p (aX hp)).below hV) ((ae.2 q (aX hq)).below hV);unfold jJ at hs;rw[ai,ah,am,ag]at hs;have HS:cH _:=hs;have E:=aJ ↑wr wr;clear hs ha R af ae hp hq ai ah am ag;go_upto_region 5 with fail;go_cut [13,25] from 13 to 27 (λu v wx=>u=N ab i/\(∃b,v=cK b)/\cH (Below ↑wr wr wx))
   case first=>
    go_region_with (go_at_call 96;(refine aT (HS.out _ ?_) ?_;(first|exact E|exact E.drew|exact below_drewN E _);rintro e w5 ⟨⟨b,rfl⟩,ak⟩;have Y:cH _:=ak;clear ak))
    all_goals
     go_wp2_with fail;go_meet;refine⟨rfl,⟨_,rfl⟩,?_⟩
     first|exact Y.out|exact E.drew.trans Y.out|exact(below_drewN E _).trans Y.out
   case rest=>
    obtain⟨rfl,⟨b,rfl⟩,Hc⟩:=hcut;cases b
    .go_wp2_with fail;go_roundg (m-(i+1))
     case measure=>omega
     case rel=>exact⟨i+1,aA,by go_num,rfl,HI.out.trans (Hc.out.mono HI.out.size)⟩
    .go_wp2_with fail;go_ret;exact⟨i,rfl,aA,HI.out.trans (Hc.out.mono HI.out.size)⟩
  .have aj:¬(i:Int)<m:=by omega
   obtain rfl:i=m:=aA
   go_wp2_with fail;go_ret;exact⟨i,rfl,aA,HI.out⟩
open Dv (Lo X2 Cf)
section
section
variable {tm:Array X}{w:U}{nk vb i:Nat}{q:Int}{vl:X}{Q:p9->Act->U->Prop}
def abW{la:Option eM}{n Y:Nat}{v:Vw}{pl:List PL}{K:Act->U->Prop}(h:KQ tm nk q (.slice la n Y) v.vb i)(R:lF w v)(J:pz w (.slice la n Y) pl)(hn:pl.length=n)(hm:v.log.length<=n)(ag:n<=4294967296)(hK:∀(tm:Array X) w' z,KQ tm nk q (.slice la n Y) v.vb i->z<=v.com.length->z<=n-v.log.length->Xj w v z w'->K ⟨tm,[]⟩ w'):QX.wp PQ (Exit.then K λ_ _ _=>False) ⟨tm,[]⟩ w:=by
 obtain⟨hs,t0,t1,t5,t6,t7⟩:=h;obtain⟨l,rfl,hs⟩:=jZ hs
 iterate 72 (obtain⟨_,l,rfl,h'⟩:=jV hs;clear hs;have hs:=h';clear h')
 obtain rfl:=cJ.1 hs;clear hs;simp only[eX,eU,dX,aK]at t0 t1 t5 t6 t7;subst t0 t1 t5 t6 t7;obtain⟨va,af,ac⟩:=R.log.slice;obtain⟨ca,cc,aa⟩:=R.com.slice;obtain⟨-,-,c2,c3⟩:=cells4 R.obj;rw[ac]at c2;rw[aa]at c3
 have hA:∀W,Below ↑w w W->dE PQ 65 #[.slice ca v.com.length cc,.slice (if Y=v.log.length then la else la.map (·.add (v.log.length*8))) (n-v.log.length) (Y-v.log.length)] W λe W'=>∃z:Nat,e=bO (N ab z)/\(z<=v.com.length/\z<=n-v.log.length)/\Below ↑w w W':=λW hb=>by
  have h1:pz w (.slice ca v.com.length cc) v.com:=⟨by rw[<-aa];exact R.com.rd,λp hp=>R.lor p (oR _ hp)⟩
  refine(Og v.com (pl.drop v.log.length) W (h1.below hb) ((J.rest hn hm).below hb) ⟨by have:=R.few;omega,by rw[dW];omega⟩).mono λe W' ⟨z,h1,h2,h3⟩=>⟨z,h1,⟨h2.1,by have:=h2.2;rw[dW,hn]at this;exact this⟩,hb.trans (h3.mono hb.size)⟩
 have hL:∀(z:Nat),z<=v.com.length->∀W,Below ↑w w W->dE PQ 23 #[aD (M ⟨v.vb,0,Z⟩),N ab z] W λe W'=>e=bO (cQ #[])/\Xj w v z W':=λz hz W hb=>(Dk v _ W (R.below hb) hz).mono λe W' ⟨h1,h2⟩=>⟨h1,h2.from hb⟩
 have HL:cH _:=hL;have HK:cH _:=hK;have I:=aJ ↑w w;have ah:((v.log.length:Nat):Int)<=(n:Int):=aA
 have ai:n<=Y:=by
  obtain⟨_,_,_,e,hc,_⟩:=J.1;cases e;omega
 clear hK hL R J ac aa hn;generalize v.com.length=x at *;generalize v.log.length=m at *;simp only[QX,Gf,kI];by_cases ae:Y=m
 .obtain rfl:n=m:=by omega
  subst ae;simp only[if_true,Nat.sub_self]at hA;have HA:cH _:=hA;clear hA;go_region_with (first|(go_at_call 65;((with_reducible refine aT (HA.out _ ?_) ?_);(first|exact I|exact I.drew|exact below_drewN I _);rintro e w5 ⟨z,rfl,hz,E⟩;have HZ:cH _:=hz;clear hz))|(go_at_call 23;((with_reducible refine aT (HL.out z HZ.out.1 _ ?_) ?_);(first|exact E|exact E.drew|exact below_drewN E _);rintro e w6 ⟨rfl,h6⟩;have H6:cH _:=h6;clear h6)))
  all_goals refine HK.out _ _ z ⟨rfl,rfl,rfl,rfl,rfl,rfl⟩ HZ.out.1 (by have:=HZ.out.2;omega) ?_
  all_goals exact H6.out
 .simp only[Zs ae]at hA;have HA:cH _:=hA;clear hA;go_region_with (first|(go_at_call 65;((with_reducible refine aT (HA.out _ ?_) ?_);(first|exact I|exact I.drew|exact below_drewN I _);rintro e w5 ⟨z,rfl,hz,E⟩;have HZ:cH _:=hz;clear hz))|(go_at_call 23;((with_reducible refine aT (HL.out z HZ.out.1 _ ?_) ?_);(first|exact E|exact E.drew|exact below_drewN E _);rintro e w6 ⟨rfl,h6⟩;have H6:cH _:=h6;clear h6)))
  all_goals refine HK.out _ _ z ⟨rfl,rfl,rfl,rfl,rfl,rfl⟩ HZ.out.1 (by have:=HZ.out.2;omega) ?_
  all_goals exact H6.out
noncomputable def aem:eE:=match Z4 with
 |bR c _=>c
 |_=>.ret
def Zw:Z4=bR aem (.cond (cN 47) (.exit 0) .skip):=XN
def afD{f:Bool}(h:KQ tm nk q vl vb i)(E:tm[9]? =M (.bool f))(I:∀tm:Array X,KQ tm nk q vl vb i->tm[47]? =M (.bool !f)->Q .normal ⟨tm,[]⟩ w):aem.wp PQ Q ⟨tm,[]⟩ w:=by
 obtain⟨hs,t0,t1,t5,t6,t7⟩:=h;obtain⟨l,rfl,hs⟩:=jZ hs
 iterate 72 (obtain⟨_,l,rfl,z⟩:=jV hs;clear hs;have hs:=z;clear z)
 obtain rfl:=cJ.1 hs;clear hs;simp only[eX,eU,dX,aK]at t0 t1 t5 t6 t7 E;subst t0 t1 t5 t6 t7 E;have J:cH _:=I;clear I;simp only[aem,Z4,Gf,kI];go_wp2_with fail;exact J.out _ ⟨rfl,rfl,rfl,rfl,rfl,rfl⟩ rfl
end
end
end Hm
