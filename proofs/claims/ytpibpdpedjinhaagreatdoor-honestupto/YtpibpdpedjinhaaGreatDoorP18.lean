import Derived.Test.YtpibpdpedjinhaaGreatDoorP07
import Derived.Test.YtpibpdpedjinhaaGreatDoorP14
import Derived.Test.YtpibpdpedjinhaaGreatDoorP17
set_option maxRecDepth 100000
set_option maxHeartbeats 4000000
set_option linter.all false
open Bool renaming false->aL,true->bB
open Go renaming Code->im,Frame->cU,Func->rk,FuncId->qa,Goroutine->bO,Obj->pT,Oper->lR,Operand->nL,Program->cY,TypeId->cH,Value->aD,World->U,callFunc->ki,events_store->rK,execOp->bL,run_underlying->eL,undef->aE
open Go.Code renaming seq->cL
open Go.Conc renaming mem_listed->jp,stepG_region_end->bA,stepG_seq->bR,stepG_skip->gM
open Go.Conc.Goes renaming stop->cI
open Go.ConcR.Gen renaming base_kind->dT
open Go.Extern.BytealgMakeNoZero renaming makeNoZero->mH
open Go.Instr renaming buildSlice->om
open Go.Item renaming inRegion->cD
open Go.Obj renaming cells->aG,deferred->eM
open Go.Operand renaming tmp->eC
open Go.Proofs.Tryz renaming prog->bE,underlying76->mx
open Go.Region renaming wanted->cT
open Go.Value renaming bool->cF,int->N,pointer->aM,slice->aR,string->aH,tuple->dC
open Go.World renaming cell?->fR
open List renaming sublist_append_right->pP
open Option renaming none->Z,some->M
open Or renaming inl->cJ,inr->cK
namespace Go.Proofs.YtpibpdpedjinhaaGreatDoor
namespace Cr
open Go Go.Conc Go.ConcN Go.RowKit Go.Conc.Lib Go.ConcR.Gen Go.ConcN.Gen
open Go.ConcR (KK WgAt stA smA Payload DC0)
open Fr (F flat one fv frames)
variable {n j:Nat}{w:U}{v v':aD}{t:cH}{p:nL}
def pJ(o:lR):Bool:=match o.op with|.defer _=>aL|_=>bB
theorem pJ.out{o:lR}(h:pJ o=bB)(c:Go.Call):o.op≠.defer c:=λe=>by simp[pJ,e]at h
section
variable {S:Who}{m:Nat}{St:jZ->bO->U->Prop}{K0:jZ}{w0:U}{L L0:List (Nat×pT)}{b:cU}{a:Act}{k:List Item}{cs:List cU}{ops:Array lR}{i:Nat}{rest:List Nat}{o:lR}
theorem RH{X1 q i:Nat}{ob:pT}{wr:Bool}(h:L[j]? =M (n,ob)):EvA L X1 q ⟨.cell ⟨n,i,Z⟩,wr,aL⟩:=cJ ⟨_,_,rfl,cJ ⟨_,aX h,rfl⟩⟩
theorem Wc.rdR(v:aD)(ho:ops[i]? =M o)(hw:cT o (yielded ops a.tmps)=bB)(hk:b.kind≠.early)(hd:pJ o=bB)(h:∀w,Lies L w0.heap.size w->(bL a.eval o).run bE w=.ok (.value v) w/\∀e∈(bL a.eval o).events bE w #[],EvA L w.heap.size w.heap.size e)(E:Wc bE S m St K0 w0 L (G (b.atR (a.put o.dst v) (cD ops rest::k)) cs)):Wc bE S m St K0 w0 L (G (b.atR a (cD ops (i::rest)::k)) cs):=
 .opR ho hw hk (pJ.out hd) λw q=>⟨v,w,L,cJ (h w q).1,.still q λe I=>(h w q).2 e (jp I),E⟩
theorem Wc.alR(ob:pT)(v:Nat->aD)(ho:ops[i]? =M o)(hw:cT o (yielded ops a.tmps)=bB)(hk:b.kind≠.early)(hd:pJ o=bB)(h:∀w,Lies L w0.heap.size w->(bL a.eval o).run bE w=.ok (.value (v w.heap.size)) (w.alloc ob)/\∀e∈(bL a.eval o).events bE w #[],EvA L w.heap.size (w.heap.size+1) e)(E:∀n,Wc bE S m St K0 w0 ((n,ob)::L) (G (b.atR (a.put o.dst (v n)) (cD ops rest::k)) cs)):Wc bE S m St K0 w0 L (G (b.atR a (cD ops (i::rest)::k)) cs):=
 .opR ho hw hk (pJ.out hd) λw q=>⟨_,_,_,cJ (h w q).1,.alloc q ob λe I=>(h w q).2 e (jp I),E _⟩
theorem Wc.stR{B:Nat}{ob:pT}(q:pT)(J:L[j]? =M (B,ob))(ho:ops[i]? =M o)(hw:cT o (yielded ops a.tmps)=bB)(hk:b.kind≠.early)(hd:pJ o=bB)(h:∀w,Lies L w0.heap.size w->(bL a.eval o).run bE w=.ok .skip (w.putObj B q)/\∀e∈(bL a.eval o).events bE w #[],EvA L w.heap.size w.heap.size e)(I:Wc bE S m St K0 w0 (L.set j (B,q)) (G (b.atR (a.put o.dst aE) (cD ops rest::k)) cs)):Wc bE S m St K0 w0 L (G (b.atR a (cD ops (i::rest)::k)) cs):=
 .opR ho hw hk (pJ.out hd) λw E=>⟨_,_,_,cK ⟨(h w E).1,rfl⟩,.put E J λe Y=>(h w E).2 e (jp Y),I⟩
theorem Fe(I:L[j]? =M (n,aG #[v] t))(J:Lies L w0.heap.size w)(hp:a.eval p=aM (M ⟨n,0,Z⟩))(q:o.op=.load t p)(ht:t=76\/t=3\/t=9):(bL a.eval o).run bE w=.ok (.value v) w/\∀e∈(bL a.eval o).events bE w #[],EvA L w.heap.size w.heap.size e:=by
 have h:=oK J I;have c0:w.cell? ⟨n,0,Z⟩=M v:=by simp[fR,h]
 unfold bL;simp only[q,hp];rcases ht with rfl|rfl|rfl<;>
 .refine⟨by simp[go_sem,c0],λe E=>?_⟩;simp[go_sem,c0]at E;subst E;exact RH I
theorem QB{q:nL}(I:L[j]? =M (n,aG #[v] t))(hl:Lies L w0.heap.size w)(hp:a.eval p=aM (M ⟨n,0,Z⟩))(hq:a.eval q=v')(E:o.op=.store t p q)(ht:(∃a k c,v'=.slice a k c/\t=76)\/∃e,v'=N .i64 e/\t=3):(bL a.eval o).run bE w=.ok .skip (w.putObj n (aG #[v'] t))/\∀e∈(bL a.eval o).events bE w #[],EvA L w.heap.size w.heap.size e:=by
 have h:=oK hl I;have c0:w.cell? ⟨n,0,Z⟩=M v:=by simp[fR,h]
 have Y:w.frozen? ⟨n,0,Z⟩=aL:=aQ h 0;have hs:w.setCell ⟨n,0,Z⟩ v'=w.putObj n (aG #[v'] t):=Um h;unfold bL;simp only[E,hp,hq,<-hs];rcases ht with⟨a,k,c,rfl,rfl⟩|⟨e,rfl,rfl⟩<;>
 .refine⟨by simp[go_sem,stored,c0,Y],λe J=>?_⟩;simp[go_sem,stored,storedEv,c0,Y,rK _ _ _ _ _ _ (show(aR _ _ _).oneCell'=bB from rfl)]at J;subst J;exact RH I
theorem Gy{w':U}{xv:aD}(s x:nL)(t:cH)(ho:o.op=.call { callee:=.builtin .append,args:=#[s,x],argTypes:=#[t,t] })(hs:a.eval s=v)(E:a.eval x=xv)(q:(Builtin.append_ #[t,t] o.type #[v,xv]).run bE w=.ok v' w'):(bL a.eval o).run bE w=.ok (.value v') w':=by
 unfold bL;simp only[ho,resolve,invoke,builtin,iZ,Sem.run_pure,iy,fQ,eP,fP,hs,E,q]
theorem Wu(w:U)(x:F):(om 76 1 #[(0,.agg (F6 x))]).run bE w=.ok (aR (M ⟨w.heap.size,0,Z⟩) 1 1) (w.alloc (aG (F6 x) 81))/\(om 76 1 #[(0,.agg (F6 x))]).events bE w #[]=#[]:=by
 obtain⟨J,Y,I,q,aa⟩:∃i,Tryz.prog.info? 81=M i/\i.zero=M (.agg KP)/\i.size=4/\i.bytes=32:=by
  have:=QY;cases h:Tryz.prog.info? 81 with
  |none=>grind
  |some i=>
   grind
 have E:Instr.fill (λi=>M (i*J.size,J.size)) ((Array.range (1*J.size)).map ((Value.agg KP).cells[· % (Value.agg KP).cells.size]!)) (#[(0,Value.agg (F6 x))]:Array (Nat×aD)).toList=M (F6 x):=by rw[q];kernel_rfl
 refine⟨run_buildSlice w _ _ 1 _ _ J _ mx Y I (by rw[q];decide) (by rw[q];decide) E,?_⟩;have E:Instr.fill (λi=>M (i*4,4)) (Array.map (λx=>(Value.agg KP).cells[x%(Value.agg KP).cells.size]!) (Array.range 4)) [(0,.agg (F6 x))]=M (F6 x):=by rw[q]at E;exact E
 simp[E,om,eL mx,sizeOf,typeInfo,zeroValue,Y,I,q,newRow]
theorem N7{c0 n0:Int}{I:ByteArray}{J:Bool}(Y:L[j]? =M (n,aG (Nh c0 n0 I J) 81))(hl:Lies L w0.heap.size w)(hp:a.eval p=aM (M ⟨n,0,Z⟩))(q:o.op=.load 81 p):(bL a.eval o).run bE w=.ok (.value (.agg (Nh c0 n0 I J))) w/\∀e∈(bL a.eval o).events bE w #[],EvA L w.heap.size w.heap.size e:=by
 have h:=oK hl Y;have c0:=aI h 0;have c1:=aI h 1;have E:=aI h 2;have c3:=aI h 3;unfold bL;simp only[q,hp];refine⟨by simp[go_sem,c0,c1,E,c3],λe he=>?_⟩;simp[go_sem,c0,c1,E,c3]at he;rcases he with rfl|rfl|rfl|rfl<;>exact RH Y
noncomputable def Zn:im:=match Tryz.f59.body with
 |some (cL _ (cL _ (cL _ (cL _ (cL _ (cL (cL _ (.block _ (.rangeFunc _ _ c _))) _))))))=>c
 |_=>.skip
noncomputable def Wn:im:=match Tryz.f59.body with
 |some (cL _ (cL _ (cL _ (cL _ (cL _ (cL (cL _ (.block _ (.rangeFunc _ _ _ c))) _))))))=>c
 |_=>.skip
noncomputable def ftl:im:=match Tryz.f59.body with
 |some (cL _ (cL _ (cL _ (cL _ (cL _ (cL _ c))))))=>c
 |_=>.skip
theorem U8{u0 u1 u2 u3 u4 u7 u8 u9 ac ab a3 ax av ar an ai ao ay au aq a1 ag a2 aa ak ah aj az aw ap ae am af:aD}{l d sb E F p e:Nat}{T:ByteArray}{fs:List Fr.F}{x:Fr.F}{R:List (Nat×pT)}{r:Loop}{c:cU}(a7:r.state=.ready)(a8:r.pending=Z)(hR:Aw v fs R)(a6:fs.length<1048576)(nx:∀v' R',Aw v' (fs++[x]) R'->Wc bE S m St K0 w0 ((l,.loop r)::(d,eM (M []))::(sb,aG #[aH T] 9)::(E,aG #[N .i64 e] 3)::(F,aG #[v'] 76)::(R'++L0)) (G (c.finish (cF bB)) cs)):Wc bE S m St K0 w0 ((l,.loop r)::(d,eM (M []))::(sb,aG #[aH T] 9)::(E,aG #[N .i64 p] 3)::(F,aG #[v] 76)::(R++L0)) (G (Frame.round l 59 #[u0,u1,u2,u3,u4,aM (M ⟨F,0,Z⟩),aM (M ⟨E,0,Z⟩),u7,u8,u9,ac,ab,a3,ax,av,ar,an,ai,ao,ay,N .i64 e,.agg (F6 x),au,aq,a1,ag,a2,aa,ak,ah,aj,az,aw,ap,ae,am,af] Zn Wn .normal) (c::cs)):=by
 rw[show Frame.round l 59 #[u0,u1,u2,u3,u4,aM (M ⟨F,0,Z⟩),aM (M ⟨E,0,Z⟩),u7,u8,u9,ac,ab,a3,ax,av,ar,an,ai,ao,ay,N .i64 e,.agg (F6 x),au,aq,a1,ag,a2,aa,ak,ah,aj,az,aw,ap,ae,am,af] Zn Wn .normal=Frame.atR { base 59 with roundOf:=M l } { tmps:=#[u0,u1,u2,u3,u4,aM (M ⟨F,0,Z⟩),aM (M ⟨E,0,Z⟩),u7,u8,u9,ac,ab,a3,ax,av,ar,an,ai,ao,ay,N .i64 e,.agg (F6 x),au,aq,a1,ag,a2,aa,ak,ah,aj,az,aw,ap,ae,am,af],defers:=[] } [.code Zn,.beginRound,.code Wn] from rfl];obtain⟨bb,Y⟩:∃bb,bb=({ base 59 with roundOf:=M l }:cU):=⟨_,rfl⟩
 have hk:bb.kind=.normal:=by rw[Y];rfl
 have q:bb.kind≠.early:=by rw[hk];decide
 have a4:bb.roundOf=M l:=by rw[Y]
 rw[<-Y];clear Y;have NX:Hid _:=nx;clear nx;rw[show Zn=cL _ _ from rfl];refine Wc.afk (Wc.abz [0] rfl ?_);refine Wc.rdR (.int _ e) rfl rfl q rfl (λw _=>⟨rfl,λe J=>by simp[go_sem]at J⟩) ?_;walk_nrm;refine Wc.Tf (Wc.abz [0,1] rfl ?_);refine Wc.alR (aG KP 81) (λn=>aM (M ⟨n,0,Z⟩)) rfl rfl q rfl (λw I=>⟨by simp[go_sem],λe J=>by simp[go_sem]at J⟩) λfb=>?_;walk_nrm;refine Wc.stR (j:=0) (aG (F6 x) 81) rfl rfl rfl q rfl (λw I=>qQ rfl rfl rfl w I) ?_;walk_nrm;refine Wc.Tf (Wc.begin (j:=1) rfl a7 a4 q ?_);rw[show Wn=.block 1 (cL _ _) from rfl];refine Wc.ade (Wc.afk (Wc.abz [0,1,2,3,4] rfl ?_));refine Wc.rdR v rfl rfl q rfl (λw I=>Fe (j:=5) rfl I rfl rfl (cJ rfl)) ?_;walk_nrm;refine Wc.rdR (.agg (F6 x)) rfl rfl q rfl (λw I=>N7 (j:=0) rfl I rfl rfl) ?_;walk_nrm;refine Wc.alR (aG (F6 x) 81) (λn=>aR (M ⟨n,0,Z⟩) 1 1) rfl rfl q rfl (λw I=>?_) λn3=>?_
 .have h:=Wu w x;refine⟨by simp[go_sem,h.1],λe J=>?_⟩;simp[go_sem,h.2]at J
 walk_nrm;refine Wc.opR rfl rfl q (pJ.out rfl) λw I=>?_;obtain⟨v',w',R',h1,a5,h2⟩:=ab1 (A:=[(n3,aG _ 81),(fb,aG _ 81),(l,.loop _),(d,.deferred _),(sb,aG _ 9),(E,aG _ 3),(F,aG _ 76)]) (n3:=n3) hR I (.head _) a6;refine⟨v',w',_,cJ (Gy _ _ _ rfl rfl rfl h1),h2 _ λe J=>by have J:=jp J;rw[events_append_op (v:=v) (xv:=aR (M ⟨n3,0,Z⟩) 1 1) (eC 22) (eC 24) 76 rfl rfl rfl]at J;exact J,?_⟩;clear h1 h2 I;obtain⟨va,vc,hv⟩:=a5.slice;walk_nrm;refine Wc.stR (j:=6) (aG #[v'] 76) rfl rfl rfl q rfl (λw I=>QB (j:=6) rfl I rfl rfl rfl (cJ ⟨_,_,_,hv,rfl⟩)) ?_;walk_nrm;refine Wc.Tf (Wc.abz [0,1] rfl ?_);refine Wc.rdR (.int _ e) rfl rfl q rfl (λw _=>⟨rfl,λe J=>by simp[go_sem]at J⟩) ?_;walk_nrm;refine Wc.stR (j:=5) (aG #[.int _ e] 3) rfl rfl rfl q rfl (λw I=>QB (j:=5) rfl I rfl rfl rfl (cK ⟨_,rfl,rfl⟩)) ?_;walk_nrm;refine Wc.Tf (Wc.Wx (Wc.agM (j:=2) rfl a4 hk ?_));refine Wc.drop (.cons _ (.cons _ (iT _))) ?_;have hr:({ ({ r with state:=.busy }:Loop)with state:=.ready,pending:=Z }:Loop)=r:=by cases r;simp_all
 rw[hr];exact NX.out v' R' a5
end
end Cr
namespace Cr
open Go Go.Conc Go.ConcN Go.RowKit Go.Conc.Lib Go.ConcR.Gen Go.ConcN.Gen
open Go.ConcR (KK WgAt stA smA Payload DC0)
open Fr (F flat one fv frames VK)
noncomputable def Zy:im:=match Tryz.f141.body with
 |some (cL _ (.block _ (.loop c)))=>c
 |_=>.skip
section
variable {S:Who}{m:Nat}{St:jZ->bO->U->Prop}{K0:jZ}{w0:U}{L0:List (Nat×pT)}{cs:List cU}
abbrev fTA(s T:ByteArray)(F E q:Nat)(x y:aD):Array aD:=#[aH s,aE,aR Z 0 0,cF aL,aH T,aM (M ⟨F,0,Z⟩),aM (M ⟨E,0,Z⟩),aE,aE,aH s,cF aL,cF aL,aH s,N .u8 0,cF aL,cF aL,aH s,aH T,aH T,.func (.func 141) #[] #[aM (M ⟨q,0,Z⟩)],x,y,aE,aE,aE,aE,aE,aE,aE,aE,aE,aE,aE,aE,aE,aE,aE]
noncomputable abbrev abx(s T:ByteArray)(F E q d:Nat):Loop:={ state:=.ready,pending:=Z,fn:=59,tmps:=fTA s T F E q aE aE,params:=#[20,21],assign:=Zn,body:=Wn,defers:=d }
noncomputable abbrev fLs(s T:ByteArray)(F E q d l p:Nat)(v:aD)(R:List (Nat×pT)):List (Nat×pT):=(l,.loop (abx s T F E q d))::(d,eM (M []))::(q,aG #[aH T] 9)::(E,aG #[N .i64 p] 3)::(F,aG #[v] 76)::R
theorem UY{s T:ByteArray}{l d sb E F:Nat}{b:cU}{a:Act}{k:List Item}(hT:T.size<=1048576)(nx:∀v fs R p,Aw v fs R->VK T.data.toList fs p->one T.data.toList p=Z->Wc bE S m St K0 w0 (fLs s T F E sb d l p v (R++L0)) (G (b.at a (.endRangeFunc l::k)) cs)):∀r p,T.size-p<r->∀v fs R,Aw v fs R->VK T.data.toList fs p->∀u4 u5 u6 u7 u8 u9 ab aa ar ao an ak ah ag ai aq ac af am aj ae:aD,Wc bE S m St K0 w0 (fLs s T F E sb d l p v (R++L0)) (G ((base 141).at { tmps:=#[.func (.yield l) #[] #[],aM (M ⟨sb,0,Z⟩),aE,N .i64 p,u4,u5,u6,u7,u8,u9,ab,aa,ar,ao,an,ak,ah,ag,ai,aq,ac,af,am,aj,ae],defers:=[] } [.code Zy,.inLoop Zy,.inBlock 0]) (b.at a (.inRangeFunc l::k)::cs)):=by
 intro r
 induction r with
 |zero=>intro p hr;omega
 |succ r ih=>
  intro p hr v fs R hR hA u4 u5 u6 u7 u8 u9 ab aa ar ao an ak ah ag ai aq ac af am aj ae;have ap:=hA.le;rw[<-bD]at ap;have aw:(0:Int)<=(p:Int):=aA
  have au:(p:Int)<=T.size:=aA
  have Y:=Uk (T.extract p T.size) aF;rw[show(T.extract p T.size).data.toList=T.data.toList.drop p by rw[Fr.ext_list,eH aC],<-Fr.DJ _ _ (by rw[<-bD];exact ap.1)]at Y;have ev:=λw es=>oP T _ _ w es (D9 T p w es aw au);rw[show Zy=.block 1 (cL _ _) from rfl];refine Wc.block (Wc.seq (Wc.reg [0,1,2,3,4,5,6,7,8,9,10,11] rfl ?_));refine Wc.rd _ rfl rfl (dT _) (λw J=>Fe (j:=2) rfl J rfl rfl (cK (cK rfl))) ?_;walk_nrm;have HR:Hid _:=hR;have HA:Hid _:=hA;have NX:Hid _:=nx;have IH:Hid _:=ih;have HF:Hid _:=Y;clear hR hA nx ih Y;refine Wc.go 50 λK w q=>?_
  iterate 2 u_op At.en q
  refine cI λ_ I=>Wc.use ?_ (q.en I);clear q;refine HF.out _ _ _ _ _ _ _ _ _ _ _ _ _ _ _ _ rfl rfl (dT _) rfl (by simp[Act.eval]) ?_;walk_nrm;generalize hC:one T.data.toList p=C;cases C with
  |none=>
   simp only[fv];refine Wc.go 50 λK w q=>?_
   iterate 4 u_op At.en q
   refine cI λ_ I=>Wc.use ?_ (q.en I);clear q;refine Wc.al (aG KP 81) (λn=>aM (M ⟨n,0,Z⟩)) rfl rfl (dT _) (λw J=>⟨by simp[go_sem],λe he=>by simp[go_sem]at he⟩) λfb=>?_;walk_nrm;refine Wc.st (j:=0) (aG KP 81) rfl rfl rfl (dT _) (λw J=>qQ rfl rfl rfl w J) ?_;walk_nrm;refine Wc.go 50 λK w q=>?_
   iterate 2 u_op At.en q
   u_c bA At.en q
   iterate 2 u_c bR At.en q
   u_reg At.en q
   iterate 2 u_op At.en q
   u_c bA At.en q;u_cond bB At.en q;refine cI λ_ I=>Wc.use ?_ (q.en I);clear q;refine .ret λtodo=>.back _ rfl rfl rfl Tryz.func141 (λw=>⟨results_none rfl _ _ _,by simp[results,Tryz.results141]⟩) (Wc.drop (iY _ _) (NX.out _ _ _ _ HR.out HA.out hC))
  |some x=>
   obtain⟨f,n⟩:=x;have ho:=Fr.one_le hC;rw[<-bD]at ho;simp only[fv];refine Wc.go 50 λK w q=>?_
   iterate 4 u_op At.en q
   refine cI λ_ I=>Wc.use ?_ (q.en I);clear q;refine Wc.al (aG KP 81) (λn=>aM (M ⟨n,0,Z⟩)) rfl rfl (dT _) (λw J=>⟨by simp[go_sem],λe he=>by simp[go_sem]at he⟩) λfb=>?_;walk_nrm;refine Wc.st (j:=0) (aG (F6 f) 81) rfl rfl rfl (dT _) (λw J=>qQ rfl rfl rfl w J) ?_;walk_nrm;refine Wc.go 50 λK w q=>?_
   iterate 2 u_op At.en q
   u_c bA At.en q
   iterate 2 u_c bR At.en q
   u_reg At.en q
   iterate 2 u_op At.en q
   u_c bA At.en q;u_cond aL At.en q;u_c gM At.en q;u_c bR At.en q;u_reg At.en q
   iterate 4 u_op At.en q
   u_c bA At.en q;u_c bR At.en q;u_reg At.en q
   iterate 2 u_op At.en q
   refine cI λ_ I=>Wc.use ?_ (q.en I);clear q;refine Wc.rd (.agg (F6 f)) rfl rfl (dT _) (λw J=>N7 (j:=0) rfl J rfl rfl) ?_;walk_nrm;rw[show IntKind.i64.wrap ((p:Int)+n)=((p+n:Nat):Int) by rw[IntKind.wrap_i64];omega];refine Wc.yield (j:=1) rfl rfl rfl (dT _) rfl rfl rfl ?_;refine Wc.drop (iY _ _) ?_;have ht:((abx s T F E sb d).params.zip #[N .i64 ((p+n:Nat):Int),.agg (F6 f)]).foldl (λtmps (t,a)=>tmps.setIfInBounds t a) (abx s T F E sb d).tmps=fTA s T F E sb (N .i64 ((p+n:Nat):Int)) (.agg (F6 f)):=XN
   walk_nrm;rw[ht];refine U8 (r:=abx s T F E sb d) (x:=f) (e:=p+n) rfl rfl HR.out aA λv' R' av=>?_;rw[fO];walk_nrm;refine Wc.go 50 λK w q=>?_;u_op At.en q;u_c bA At.en q;u_cond aL At.en q;u_c gM At.en q;u_c stepG_inBlock At.en q;u_c stepG_inLoop At.en q;refine cI λ_ I=>Wc.use ?_ (q.en I);exact IH.out _ aA v' _ R' av (.snoc HA.out hC) _ _ _ _ _ _ _ _ _ _ _ _ _ _ _ _ _ _ _ _ _
end
end Cr
namespace Cr
open Go Go.Conc Go.ConcN Go.RowKit Go.Conc.Lib Go.ConcR.Gen Go.ConcN.Gen
open Go.ConcR (KK WgAt stA smA Payload DC0)
open Fr (F flat one fv frames VK)
def aeR(f:qa)(args:Array aD)(r:aD->aD)(fs:List F):Prop:=∀(S:Who)(m:Nat)(St:jZ->bO->U->Prop)(K0:jZ)(w0:U)(L:List (Nat×pT))(b:cU)(a:Act)(k:List Item)(cs:List cU)(ops:Array lR)(i:Nat)(rest:List Nat)(o:lR)(xs:Array nL)(q:Array cH),
 ops[i]? =M o->cT o (yielded ops a.tmps)=bB->b.kind≠.early->o.op=.call { callee:=.value (.func f),args:=xs,argTypes:=q }->xs.map a.eval=args->(∀v R,Aw v fs R->Wc bE S m St K0 w0 (R++L) (G (b.at (a.put o.dst (r v)) (cD ops rest::k)) cs))->Wc bE S m St K0 w0 L (G (b.at a (cD ops (i::rest)::k)) cs)
def ab8(a:Option Addr)(n c:Nat)(w:U)(es:Array Event):(Builtin.len_ #[76] 3 #[.slice a n c]).events bE w es=es:=by simp[Builtin.len_,eL mx]
section
variable {S:Who}{m:Nat}{St:jZ->bO->U->Prop}{K0:jZ}{w0:U}{L0:List (Nat×pT)}{cs:List cU}
theorem aal{s T:ByteArray}{l d sb E F p:Nat}{v:aD}{fs:List Fr.F}{R:List (Nat×pT)}{cf:cU}(hR:Aw v fs R)
  (J:∀v' R',Aw v' ((if fs.length=0\/p<T.size then Z else M fs).getD []) R'->Wc bE S m St K0 w0 (R'++L0) (G (cf.finish (dC #[v',.bool (if fs.length=0\/p<T.size then Z else M fs).isSome])) cs)):
  Wc bE S m St K0 w0 (fLs s T F E sb d l p v (R++L0)) (G ((base 59).at { tmps:=fTA s T F E sb aE aE,defers:=[{ target:=.collected d,args:=#[] }] } [.endRangeFunc l,.inBlock 0,.code ftl]) (cf::cs)):=by
 obtain⟨va,vc,hv⟩:=hR.slice;subst hv;have NX:Hid _:=J;have HR:Hid _:=hR;have el:=Jz;have ac:=ab8;clear J hR;refine Wc.over (j:=0) rfl (show LoopState.ready≠.busy by decide) rfl (Wc.inBlock ?_);rw[show ftl=cL (cL _ _) _ from rfl];refine Wc.seq (Wc.seq (Wc.reg [0,1,2,3,4,5,6,7,8] rfl ?_));refine Wc.rd _ rfl rfl (dT _) (λw Y=>Fe (j:=4) rfl Y rfl rfl (cJ rfl)) ?_;walk_nrm;by_cases h0:fs.length=0
 .have ab:((fs.length:Int) == 0)=bB:=by simp[h0]
  refine Wc.go 50 λK w q=>?_
  iterate 3 u_op At.en q
  iterate 4 u_skip At.en q
  u_op At.en q;u_c bA At.en q;u_cond bB At.en q;u_c bR At.en q;u_reg At.en q
  iterate 2 u_op At.en q
  u_c bA At.en q;refine cI λ_ I=>Wc.use ?_ (q.en I);clear q;have J:=NX.out;rw[ZD (cJ h0)]at J;exact .ret λtodo=>.takes (j:=1) rfl rfl rfl (.KU rfl rfl rfl Tryz.func59 rfl rfl rfl (Wc.drop (.cons _ (.cons _ (.cons _ (.cons _ (.cons _ (pP _ _)))))) (J _ [] (cJ ⟨rfl,rfl,rfl⟩))))
 have ab:((fs.length:Int) == 0)=aL:=ZS aA;refine Wc.go 50 λK w q=>?_
 iterate 3 u_op At.en q
 refine cI λ_ I=>Wc.use ?_ (q.en I);clear q;refine Wc.rd _ rfl rfl (dT _) (λw Y=>Fe (j:=3) rfl Y rfl rfl (cK (cJ rfl))) ?_;walk_nrm;by_cases h1:p<T.size
 .have aa:(p:Int)<T.size:=by omega
  refine Wc.go 50 λK w q=>?_
  iterate 4 u_op At.en q
  u_c bA At.en q;u_cond bB At.en q;u_c bR At.en q;u_reg At.en q
  iterate 2 u_op At.en q
  u_c bA At.en q;refine cI λ_ I=>Wc.use ?_ (q.en I);clear q;have J:=NX.out;rw[ZD (cK h1)]at J;exact .ret λtodo=>.takes (j:=1) rfl rfl rfl (.KU rfl rfl rfl Tryz.func59 rfl rfl rfl (Wc.drop (.cons _ (.cons _ (.cons _ (.cons _ (.cons _ (pP _ _)))))) (J _ [] (cJ ⟨rfl,rfl,rfl⟩))))
 have aa:¬(p:Int)<T.size:=aA
 refine Wc.go 50 λK w q=>?_
 iterate 4 u_op At.en q
 u_c bA At.en q;u_cond aL At.en q;u_c gM At.en q;u_c bR At.en q;u_reg At.en q;refine cI λ_ I=>Wc.use ?_ (q.en I);clear q;refine Wc.rd _ rfl rfl (dT _) (λw Y=>Fe (j:=4) rfl Y rfl rfl (cJ rfl)) ?_;walk_nrm;refine Wc.go 50 λK w q=>?_
 iterate 2 u_op At.en q
 u_c bA At.en q;refine cI λ_ I=>Wc.use ?_ (q.en I);clear q;have J:=NX.out;rw[Zs aA]at J;exact .ret λtodo=>.takes (j:=1) rfl rfl rfl (.KU rfl rfl rfl Tryz.func59 rfl rfl rfl (Wc.drop (.cons _ (.cons _ (.cons _ (.cons _ (.cons _ (iT _)))))) (J _ R HR.out)))
end
def abh(s:ByteArray)(hs:s.size<=1048576):aeR 59 #[aH s] (λv=>dC #[v,.bool (frames s.data.toList).isSome]) ((frames s.data.toList).getD []):=by
 intro S m St K0 w0 L b a k cs ops i rest o xs an ho hw hk ac hx nx;refine Wc.call ho hw hk ac Tryz.func59 rfl rfl ?_;rw[hx];simp only[Tryz.ntmps59,dR,aU,bY,Nat.reduceAdd,Nat.reduceSub,dH,dG,dU,dI,dS,dN]
 have nx:∀v R,Aw v ((frames s.data.toList).getD []) R->Wc bE S m St K0 w0 (R++L) (G ((b.at a (cD ops (i::rest)::k)).finish (dC #[v,.bool (frames s.data.toList).isSome])) cs):=by
  intro v R h;rw[fO,ho];exact nx v R h
 generalize b.at a (cD ops (i::rest)::k)=cf at nx;have Y:=bD s;have el:=Jz;have te:=Fr.toList_empty s;have NX:Hid _:=nx;clear nx ho hw hk ac hx;by_cases ag:s.size=0
 .have ah:s.toList.isEmpty=bB:=by rw[te];exact Z0 ag
  clear te;refine Wc.go 50 λK w q=>?_;u_c bR At.en q;u_reg At.en q
  iterate 2 u_op At.en q
  u_c bA At.en q
  iterate 2 u_c bR At.en q
  u_reg At.en q
  iterate 3 u_op At.en q
  iterate 3 u_skip At.en q
  u_op At.en q;u_c bA At.en q;u_cond bB At.en q;u_c bR At.en q;u_reg At.en q
  iterate 2 u_op At.en q
  u_c bA At.en q;refine cI λ_ I=>Wc.use ?_ (q.en I);rw[Fr.Af (cJ aA)]at NX;exact .ret λtodo=>.KU rfl rfl rfl Tryz.func59 rfl rfl rfl (NX.out _ [] (cJ ⟨rfl,rfl,rfl⟩))
 have ae:0<s.size:=aA
 have ah:s.toList.isEmpty=aL:=by rw[te];exact ZZ aA
 have ai:=λu=>acO u s 0 0 ae rfl;have ak:=λw es=>FQ s 0 w es aA aA;have hg:=Fr.getD_byte s 0 ae;clear te;by_cases h0:s[0].toNat=0
 .have af:(1:Int)<=(s.size:Int):=by omega
  rw[h0]at ai;obtain⟨T,hT⟩:∃T:ByteArray,s.extract 1 s.size=T:=⟨_,rfl⟩
  have J:T.data.toList=s.data.toList.drop 1:=by rw[<-hT,Fr.ext_list,eH aA]
  have ab:T.size=s.size-1:=by rw[<-hT];simp[fA]
  have aa:s.data.toList.getD 0 0=0:=by rw[hg];exact jA.1 h0
  have aj:=λw es=>oP s _ _ w es (D9 s 1 w es aA af);have HT:Hid _:=jD J (jD ab aa);clear J ab aa hg Y h0;refine Wc.go 50 λK w q=>?_;u_c bR At.en q;u_reg At.en q
  iterate 2 u_op At.en q
  u_c bA At.en q
  iterate 2 u_c bR At.en q
  u_reg At.en q
  iterate 7 u_op At.en q
  u_c bA At.en q;u_cond aL At.en q;u_c gM At.en q;u_c bR At.en q;u_reg At.en q
  iterate 3 u_op At.en q
  u_c bA At.en q;refine cI λ_ I=>Wc.use ?_ (q.en I);clear q;refine Wc.seq (Wc.reg [0] rfl ?_);refine Wc.al (aG #[aR Z 0 0] 76) (λn=>aM (M ⟨n,0,Z⟩)) rfl rfl (dT _) (λw Y=>⟨by simp[go_sem],λe he=>by simp[go_sem]at he⟩) λF=>?_;refine Wc.done (Wc.seq (Wc.reg [0,1] rfl ?_));walk_nrm;refine Wc.al (aG #[N .i64 0] 3) (λn=>aM (M ⟨n,0,Z⟩)) rfl rfl (dT _) (λw Y=>⟨by simp[go_sem],λe he=>by simp[go_sem]at he⟩) λE=>?_;walk_nrm;refine Wc.st (j:=0) (aG #[.int _ 0] 3) rfl rfl rfl (dT _) (λw Y=>QB (j:=0) rfl Y rfl rfl rfl (cK ⟨_,rfl,rfl⟩)) ?_;walk_nrm;refine Wc.done (Wc.seq (Wc.seq (Wc.reg [0,1] rfl ?_)));refine Wc.go 50 λK w q=>?_;u_op At.en q;refine cI λ_ I=>Wc.use ?_ (q.en I);clear q;refine Wc.call rfl rfl (dT _) rfl Tryz.func94 rfl rfl ?_;simp only[Tryz.ntmps94,dR,aU,bY,Nat.reduceAdd,Nat.reduceSub,dH,dG,dU,dI,dS,dN];walk_nrm;refine Wc.seq (Wc.reg [0,1] rfl ?_);refine Wc.al (aG #[aH T] 9) (λn=>aM (M ⟨n,0,Z⟩)) rfl rfl (dT _) (λw Y=>⟨by simp[go_sem],λe he=>by simp[go_sem]at he⟩) λsb=>?_;walk_nrm;refine Wc.go 50 λK w q=>?_;u_op At.en q;u_c bA At.en q;u_c bR At.en q;u_reg At.en q
  iterate 2 u_op At.en q
  u_c bA At.en q;refine cI λ_ I=>Wc.use ?_ (q.en I);clear q;refine .ret λtodo=>.Bq rfl rfl rfl Tryz.func94 rfl rfl ?_;rw[fO];walk_nrm;refine Wc.done (Wc.block (Wc.range (f:=141) (cap:=#[.pointer _]) rfl Tryz.func141 rfl rfl λd=>?_));simp only[Tryz.ntmps141,dR,aU,bY,Nat.reduceAdd,Nat.reduceSub,dH,dG,dU,dI,dS,dN];refine Wc.go 50 λK w q=>?_;u_c bR At.en q;u_reg At.en q;u_op At.en q;u_c bA At.en q;u_c stepG_block At.en q;u_c stepG_loop At.en q;refine cI λ_ I=>Wc.use ?_ (q.en I);clear q;obtain⟨J,ab,aa⟩:=HT.out;refine UY (s:=s) (T:=T) (d:=d) aA (λv fs R p hR hA hn=>?_) (T.size+1) 0 aA _ [] [] (cJ ⟨rfl,rfl,rfl⟩) .nil _ _ _ _ _ _ _ _ _ _ _ _ _ _ _ _ _ _ _ _ _;have Y:=bD s;have hf:=Fr.Ar (s:=s.data.toList) aA aa (by rw[<-J];exact hA) (by rw[<-J];exact hn);rw[<-Y,<-ab]at hf;rw[hf]at NX;exact aal hR NX.out
 .have am:((s[0].toNat:Int) != 0)=bB:=by simp;omega
  rw[Fr.Af (cK (by rw[hg];intro h;exact h0 (by rw[h];rfl)))]at NX;clear hg Y h0;generalize s[0].toNat=c at *;refine Wc.go 50 λK w q=>?_;u_c bR At.en q;u_reg At.en q
  iterate 2 u_op At.en q
  u_c bA At.en q
  iterate 2 u_c bR At.en q
  u_reg At.en q
  iterate 7 u_op At.en q
  u_c bA At.en q;u_cond bB At.en q;u_c bR At.en q;u_reg At.en q
  iterate 2 u_op At.en q
  u_c bA At.en q;refine cI λ_ I=>Wc.use ?_ (q.en I);exact .ret λtodo=>.KU rfl rfl rfl Tryz.func59 rfl rfl rfl (NX.out _ [] (cJ ⟨rfl,rfl,rfl⟩))
end Cr
namespace Cr
open Go Go.Conc Go.ConcN Go.RowKit Go.Conc.Lib Go.ConcR.Gen Go.ConcN.Gen
open Go.ConcR (KK WgAt stA smA Payload DC0)
open Fr (F flat one fv frames mg)
section
variable {w0:U}{L:List (Nat×pT)}{a:Act}{o:lR}
theorem CY{w:U}{n j i:Nat}{c:Array aD}{v:aD}{t J:cH}{p:nL}(E:L[j]? =M (n,aG c J))(hv:c[i]? =M v)(Y:Lies L w0.heap.size w)(hp:a.eval p=aM (M ⟨n,i,Z⟩))(q:o.op=.load t p)(ht:t=22\/t=9):(bL a.eval o).run bE w=.ok (.value v) w/\∀e∈(bL a.eval o).events bE w #[],EvA L w.heap.size w.heap.size e:=by
 have h:=oK Y E;have c0:w.cell? ⟨n,i,Z⟩=M v:=by simp[fR,h,hv]
 unfold bL;simp only[q,hp];rcases ht with rfl|rfl<;>
 .refine⟨by simp[go_sem,c0],λe I=>?_⟩;simp[go_sem,c0]at I;subst I;exact RH E
end
def Ym(inbox batcher t0 t1 t2 t3 t4 fr ad:Int)(data:ByteArray)(hs:data.size<=1048576):aeR 110 #[.agg (cfg inbox batcher t0 t1 t2 t3 t4),.agg (BK fr ad data)] id (mg inbox batcher fr ad data.data.toList):=by
 intro S m St K0 w0 L b a k cs ops i rest o xs ab ho hw hk aa hx nx;refine Wc.call ho hw hk aa Tryz.func110 rfl rfl ?_;rw[hx];simp only[Tryz.ntmps110,dR,aU,bY,Nat.reduceAdd,Nat.reduceSub,dH,dG,dU,dI,dS,dN]
 have nx:∀v R,Aw v (mg inbox batcher fr ad data.data.toList) R->Wc bE S m St K0 w0 (R++L) (G ((b.at a (cD ops (i::rest)::k)).finish v) cs):=by
  intro v R h;rw[fO,ho];exact nx v R h
 generalize b.at a (cD ops (i::rest)::k)=cf at nx;have Y:Hid _:=nx;clear nx ho hw hk aa hx;refine Wc.seq (Wc.reg [0,1,2] rfl ?_);refine Wc.al (aG (cfg inbox batcher t0 t1 t2 t3 t4) 24) (λn=>aM (M ⟨n,0,Z⟩)) rfl rfl (dT _) (λw I=>⟨by simp[go_sem],λe he=>by simp[go_sem]at he⟩) λcb=>?_;walk_nrm;refine Wc.al (aG (BK fr ad data) 68) (λn=>aM (M ⟨n,0,Z⟩)) rfl rfl (dT _) (λw I=>⟨by simp[go_sem],λe he=>by simp[go_sem]at he⟩) λxb=>?_;walk_nrm;refine Wc.go 50 λK w q=>?_;u_op At.en q;u_c bA At.en q
 iterate 2 u_c bR At.en q
 u_reg At.en q;u_op At.en q;refine cI λ_ E=>Wc.use ?_ (q.en E);clear q;refine Wc.rd (.int _ ad) rfl rfl (dT _) (λw I=>CY (j:=0) rfl rfl I rfl rfl (cJ rfl)) ?_;walk_nrm;refine Wc.go 50 λK w q=>?_;u_op At.en q;refine cI λ_ E=>Wc.use ?_ (q.en E);clear q;refine Wc.rd (.int _ inbox) rfl rfl (dT _) (λw I=>CY (j:=1) rfl rfl I rfl rfl (cJ rfl)) ?_;walk_nrm;by_cases J:ad=inbox
 case neg=>
  have e1:(ad != inbox)=bB:=by simp[J]
  rw[mg,Zs (λh=>J h.1)]at Y;clear J;refine Wc.go 50 λK w q=>?_
  iterate 2 u_op At.en q
  iterate 5 u_skip At.en q
  u_op At.en q;u_c bA At.en q;u_cond bB At.en q;u_c bR At.en q;u_reg At.en q;u_op At.en q;u_c bA At.en q;refine cI λ_ E=>Wc.use ?_ (q.en E);exact .ret λtodo=>.Bq rfl rfl rfl Tryz.func110 rfl rfl (Wc.drop (.cons _ (.cons _ (iT _))) (Y.out _ [] (cJ ⟨rfl,rfl,rfl⟩)))
 have e1:(ad != inbox)=aL:=by simp[J]
 refine Wc.go 50 λK w q=>?_
 iterate 3 u_op At.en q
 refine cI λ_ E=>Wc.use ?_ (q.en E);clear q;refine Wc.rd (.int _ fr) rfl rfl (dT _) (λw I=>CY (j:=0) rfl rfl I rfl rfl (cJ rfl)) ?_;walk_nrm;refine Wc.go 50 λK w q=>?_;u_op At.en q;refine cI λ_ E=>Wc.use ?_ (q.en E);clear q;refine Wc.rd (.int _ batcher) rfl rfl (dT _) (λw I=>CY (j:=1) rfl rfl I rfl rfl (cJ rfl)) ?_;walk_nrm;by_cases h2:fr=batcher
 case neg=>
  have e2:(fr != batcher)=bB:=by simp[h2]
  rw[mg,Zs (λh=>h2 h.2)]at Y;clear J h2;refine Wc.go 50 λK w q=>?_
  iterate 2 u_op At.en q
  u_c bA At.en q;u_cond bB At.en q;u_c bR At.en q;u_reg At.en q;u_op At.en q;u_c bA At.en q;refine cI λ_ E=>Wc.use ?_ (q.en E);exact .ret λtodo=>.Bq rfl rfl rfl Tryz.func110 rfl rfl (Wc.drop (.cons _ (.cons _ (iT _))) (Y.out _ [] (cJ ⟨rfl,rfl,rfl⟩)))
 have e2:(fr != batcher)=aL:=by simp[h2]
 rw[mg,ZD ⟨J,h2⟩]at Y;clear J h2;refine Wc.go 50 λK w q=>?_
 iterate 2 u_op At.en q
 u_c bA At.en q;u_cond aL At.en q;u_c gM At.en q;u_c bR At.en q;u_reg At.en q;u_op At.en q;refine cI λ_ E=>Wc.use ?_ (q.en E);clear q;refine Wc.rd (aH data) rfl rfl (dT _) (λw I=>CY (j:=0) rfl rfl I rfl rfl (cK rfl)) ?_;walk_nrm;refine abh data hs _ _ _ _ _ _ _ _ _ _ _ _ _ _ _ _ rfl rfl (dT _) rfl (by simp[Act.eval]) λv R hR=>?_;walk_nrm;generalize (frames data.data.toList).isSome=ok;refine Wc.go 50 λK w q=>?_
 iterate 5 u_op At.en q
 u_c bA At.en q;u_c bR At.en q;u_reg At.en q
 iterate 2 u_op At.en q
 u_c bA At.en q;refine cI λ_ E=>Wc.use ?_ (q.en E);exact .ret λtodo=>.Bq rfl rfl rfl Tryz.func110 rfl rfl (Wc.drop ((iT _).append (.cons _ (.cons _ (iT _)))) (Y.out _ R hR))
def MO:ReadW:=by
 intro S m St K w b a k cs ops j rest o x y aa inbox batcher t0 t1 t2 t3 t4 fr ad data ho hw hk Y E hy hs h1 h2 h3 h4 _ nx;have hA:At S K w [] K w:=⟨h1,h2,h3,h4,jE,λx E=>⟨h2 x E,E,rfl⟩,λx=>cJ,id,id,λp hp=>by simp at hp,.nil⟩
 refine Wc.use (Ym inbox batcher t0 t1 t2 t3 t4 fr ad data hs S m St K w [] b a k cs ops j rest o _ aa ho hw hk Y (by simp[E,hy]) λv R hR K' J q=>?_) hA;refine nx w (.refl _ _ _ _) v K' J (hR.imp (λh=>⟨h.1,h.2.1⟩) ?_) (λx E=>(q.old x E).2.1) q.sub q.size (λx E=>(q.old x E).2.2) (λx E=>⟨q.low x E,q.new x E⟩) q.live q.pay;rintro⟨g,cap,I,e,rfl,r⟩;have hm:=q.mem (g,aG I 81) aC;exact⟨g,cap,I,e,q.sub _ hm.2.1,hm.2.2,r⟩
end Cr
namespace Po
open Go
section
variable {P:cY}{G:Array rk}{k f:Nat}{fn:rk}
def Gm(P:cY)(G:Array rk)(D:Nat->Prop):Env:={ T:=P.toTables,F:=P.funcs,G:=G,D:=D,C:=λc=>o8 P c=bB }
theorem aec(P:cY)(G:Array rk)(D:Nat->Prop):(Gm P G D).P=P:=rfl
theorem adK(P:cY)(G:Array rk)(D:Nat->Prop)(c:im):(Gm P G D).C c↔o8 P c=bB:=Iff.rfl
theorem KG(h:∀k:Nat,(G[k]?).map (·.results)=(P.funcs[k]?).map (·.results))(D:Nat->Prop):∀k:Nat,((Gm P G D).G[k]?).map (·.results)=((Gm P G D).F[k]?).map (·.results):=h
noncomputable abbrev qe(G:Array rk)(D:Nat->Prop):Env:=Gm PQ G D
theorem GN(G:Array rk)(D:Nat->Prop):(qe G D).P=PQ:=aec PQ G D
theorem aan:((List.range 257).all λk=>!EW k || match Tryz.prog.funcs[k]? with
  |some f=>!(f.name == "runtime.NumGoroutine")&&(match f.body with|some c=>o8 PQ c|none=>k == 192 || k == 193)
  |none=>aL)=bB:=XN
theorem ae3:Tryz.prog.funcs.size=257:=XN
theorem ady:Extern.allNextRows.lookup ""=Z:=XN
theorem QD:Extern.allGenericRows.lookup ""=Z/\Extern.allTypedRows.lookup ""=Z/\Extern.allRows.lookup ""=Z:=⟨XN,XN,XN⟩
theorem aeb{L:qa->Bool}(h:(sN P L).funcs[k]? =M fn):(L k=bB/\P.funcs[k]? =M fn)\/L k=aL/\fn.body=Z/\fn.name= ""/\fn.origin= "":=by
 have h:(P.funcs.mapIdx _)[k]? =M fn:=h
 grind
theorem NW(P:cY)(L:qa->Bool)(k:Nat):(P.funcs[k]?).map (·.results)=((sN P L).funcs[k]?).map (·.results):=by
 show _=((P.funcs.mapIdx _)[k]?).map _
 grind
theorem RU{f:rk}(E:EW k=bB)(q:Tryz.prog.funcs[k]? =M f):(f.name == "runtime.NumGoroutine")=aL/\(match f.body with|some c=>o8 PQ c=bB|none=>k=192\/k=193):=by
 have hk:k<257:=by rw[<-ae3];exact(jG q)
 have:=fF.1 aan k (gV.2 hk)
 grind
section
variable {e:Env}
theorem acu(hf:e.F[f]? =M fn)(J:fn.body=Z)(E:fn.name= "")(ho:fn.origin= "")(args:Array aD):Rb e (ki f args)/\∀x es n I q,(ki f args).runT e.P x es=(.ok n I,q)->∃v,n=.value v:=by
 have Y:Extern.findNext fn=Z:=by simp only[Extern.findNext,E,ho,ady];rfl
 have h2:Extern.find fn=Z:=by simp only[Extern.find,E,ho,QD.1,QD.2.1,QD.2.2];rfl
 have h3:("" == "runtime.NumGoroutine")=aL:=by decide+kernel
 have h4:("".endsWith ".init")=aL:=by decide+kernel
 have hr:∀x es,(ki f args).runT e.P x es=(.halt (.unsupported (.extern "")) x,es.push ⟨.mark (.extern f),aL,bB⟩):=by
  intro x es;simp only[ki,program,bind,Sem.bind,Sem.runT,show e.P.funcs[f]? =M fn from hf,E,h3,J,Option.isNone_none,bU,if_false,if_true,Y,h2,h4,mark,Bool.false_and,unsupported]
 refine⟨λx es r q h y _=>cJ ?_,λx es n I q h=>?_⟩
 .rw[hr]at h;cases h;rfl
 grind
theorem SQ(I:e.F[f]? =M fn)(hg:e.G[f]? =M fn)(Y:fn.body=Z)(hn:(fn.name == "runtime.NumGoroutine")=aL)(hx:Extern.findNext fn=Z){s:Array aD->Sem aD}(hs:Extern.find fn=M s){args:Array aD}(h:Rb e (s args)):Rb e (ki f args)/\∀x es n J E,(ki f args).runT e.P x es=(.ok n J,E)->∃v,n=.value v:=by
 refine⟨?_,λx es n J E q=>?_⟩
 .unfold ki;refine PR ?_ ?_
  .grind
  .simp only[show e.P.funcs[f]? =M fn from I,hn,Y,hx,hs,Option.isNone_none,bU,↓reduceIte];exact B (RZ _ (cK ⟨f,rfl⟩)) λ_=>B h λ_=>X2 _
 .rw[ki,runT_bind]at q;simp only[program,Sem.runT,show e.P.funcs[f]? =M fn from I,hn,Y,hx,hs,Option.isNone_none,bU,↓reduceIte]at q;rw[runT_bind]at q;split at q
  .rw[runT_bind]at q;split at q
   .cases q;exact⟨_,rfl⟩
   .cases q
  .cases q
theorem ac9(args:Array aD):Rb e (Extern.AbiNoEscape.same args):=by
 obtain⟨l⟩:=args
 match l with
 |[]=>exact H _
 |[x]=>exact X2 _
 |_::_::_=>exact H _
theorem JQ(ps rs:Array cH)(args:Array aD):Rb e (mH ps rs args):=by
 obtain⟨l⟩:=args
 match l with
 |[]=>exact H _
 |_::_::_=>cases ‹aD›<;>exact H _
 |[x]=>
  cases x<;>first|exact H _|skip
  case int k n=>
   cases k<;>first|exact H _|skip
   show Rb e (match rs[0]? with|some t=>_|_=>_)
   repeat' first|with_reducible exact X2 _|with_reducible refine B ?_ λ_=>?_|with_reducible refine IT ?_ ?_|exact H _|split|(simp;done)|dsimp only
end
theorem adC(h:PQ.funcs[k]? =M fn):(EW k=bB/\Tryz.prog.funcs[k]? =M fn)\/EW k=aL/\fn.body=Z/\fn.name= ""/\fn.origin= "":=aeb (P:=bE) (L:=EW) h
theorem Ju{D:Nat->Prop}(h:(Gm P G D).F[k]? =M fn):P.funcs[k]? =M fn:=h
theorem Yj(hG:∀(k:Nat)(fn:rk),EW k=bB->Tryz.prog.funcs[k]? =M fn->G[k]? =M fn)(I:∀k:Nat,(G[k]?).map (·.results)=(PQ.funcs[k]?).map (·.results))(D:Nat->Prop):Fit (qe G D) where
 code c:=by rewrite [GN];exact adK PQ G D c
 name f fn h:=by
  obtain⟨q,h2⟩|⟨_,_,h2,_⟩:=adC (Ju h)
  .exact(RU q h2).1
  grind
 same f fn c h hb:=by
  obtain⟨q,h2⟩|⟨_,h2,_⟩:=adC (Ju h)
  .have:=(RU q h2).2;rw[hb]at this;exact⟨hG _ _ q h2,by rewrite [GN];exact this⟩
  grind
 ext f fn args h hb:=by
  obtain⟨q,h2⟩|⟨_,_,h3,h4⟩:=adC (Ju h)
  .have:=(RU q h2).2;rw[hb]at this;have E:=hG _ _ q h2;obtain rfl|rfl:=this
   .obtain rfl:=fC (Tryz.func192.symm.trans h2);exact SQ h E hb (by rfl) (by rfl) (s:=Extern.AbiNoEscape.same) (by rfl) (ac9 _)
   .obtain rfl:=fC (Tryz.func193.symm.trans h2);exact SQ h E hb (by rfl) (by rfl) (s:=mH _ _) (by rfl) (JQ _ _ _)
  .exact acu h hb h3 h4 _
 results:=KG I D
 early:=by rewrite [GN];kernel_rfl
theorem Un(k:Nat):(Tryz.prog.funcs[k]?).map (·.results)=(PQ.funcs[k]?).map (·.results):=NW ..
theorem Vg(P:cY)(G:Array rk)(D:Nat->Prop):(Gm P G D).self=Gm P P.funcs λ_=>False:=rfl
theorem fits(D:Nat->Prop):Fits (qe Tryz.prog.funcs D):=
 ⟨Yj (λ_ _ _ h=>h) Un D,by rewrite [Vg];exact Yj (λ_ _ h k=>fq k h) (λ_=>rfl) _⟩
end
open Go Go.Conc
open Cr (oD)
section
variable {w:U}{o:pT}
theorem afd(P:cY)(L:qa->Bool)(D:Nat->Prop):(Gm (sN P L) P.funcs D).Q=P:=rfl
theorem ace(D:Nat->Prop):(qe Tryz.prog.funcs D).Q=bE:=afd bE EW D
def Ai(w:U)(b:Nat):Prop:=∃o,w.heap[b]? =M o/\ghost o=bB
def hush(w:U):U:={ w with heap:=w.heap.map λo=>if ghost o then .coro Z else o }
theorem Q5{b:Nat}(h:w.heap[b]? =M o)(q:ghost o=aL):(hush w).heap[b]? =M o:=by
 show(w.heap.map _)[b]? =_
 grind
theorem aa4{b:Nat}(h:(hush w).heap[b]? =M o):ghost o=aL:=by
 have h:(w.heap.map _)[b]? =_:=h;rw[iK]at h;cases q:w.heap[b]? with
 |none=>rw[q]at h;cases h
 |some u=>
  rw[q]at h;simp only[cO,aK]at h;subst h;split
  .rfl
  grind
theorem A8{e:Env}(h:ghost o=aL):yJ e o:=by
 cases o<;>first|trivial|(cases h;done)
section
variable {w:U}{Post:aD->U->Prop}{fr:cU}
theorem abS{e:Env}(E:e.D=Ai w):WP e (hush w) w where
 os:=rfl
 output:=rfl
 size:=by simp[hush]
 out b hb:=by
  show _=(w.heap.map _)[b]?
  rw[iK];cases I:w.heap[b]? with
  |none=>rfl
  |some o=>
   cases q:ghost o with
   |true=>exact Xs ⟨o,I,q⟩ (E ▸ hb)
   |false=>simp[q]
 inn b hb:=by
  rw[E]at hb;obtain⟨o,h,q⟩:=hb;refine cK ⟨o,h,?_,q⟩
  show(w.heap.map _)[b]? =_
  grind
 objs b o h:=A8 (aa4 h)
theorem TQ(h:Wk (qe Tryz.prog.funcs (Ai w)) ⟨Ai w,w,Post⟩ [] fr [] (hush w))(ho:uP (qe Tryz.prog.funcs (Ai w)) fr):oD bE Post (λ_=>False) (mk fr []) w:=by
 have k:=h ⟨ho,aC⟩ w (abS rfl) ⟨λ_ q=>⟨q,rfl⟩,λ_ q _=>q,jE,rfl,rfl⟩
 rewrite [ace]at k
 exact k.dead λ_ x=>x.elim
end
end
end Po
namespace Cr
open Go Go.Conc Go.ConcN Go.RowKit Go.Conc.Lib Go.ConcR.Gen Go.ConcN.Gen
open Go.ConcR (KK WgAt stA smA Payload DC0)
section
variable {a:Act}{o:lR}
structure WF(Wg C n i bc bx bf bi:Nat)(cf xf:Array aD)(w:U):Prop where
 c:w.heap[bc]? =M (aG cf 24)
 x:w.heap[bx]? =M (aG xf 68)
 f:w.heap[bf]? =M (aG #[aR (M ⟨C,0,Z⟩) n n] 29)
 i:w.heap[bi]? =M (aG #[N .i64 i] 3)
 live:WgLive link.tWg Wg w
 pay:PayAt C n w
section
variable {Wg C n i bc bx bf bi:Nat}{inbox batcher t0 t1 t2 t3 t4 fr ad:Int}{data:ByteArray}{cf xf:Array aD}{w w₁:U}{K:jZ}
theorem WF.en(h:WF Wg C n i bc bx bf bi cf xf w)(E:K.O bc)(J:K.O bx)(q:K.O bf)(I:K.O bi)(r:En ⟨Wg,C,n,link.tWg,C-1⟩ (M i) K w w₁):WF Wg C n i bc bx bf bi cf xf w₁:=
 ⟨(r.block _ E).trans h.c,(r.block _ J).trans h.x,(r.block _ q).trans h.f,(r.block _ I).trans h.i,r.live h.live,r.pay h.pay⟩
noncomputable def uU:Array lR:=match Tryz.f108.body with
 |some (cL _ (.region _ ops _))=>ops
 |_=>#[]
theorem cell_of{b:Nat}{cs:Array aD}{ty:cH}(h:w.heap[b]? =M (aG cs ty))(o:Nat):w.cell? ⟨b,o,Z⟩=cs[o]?:=by simp[fR,h]
theorem agL(h:WF Wg C n i bc bx bf bi cf xf w)(I:a.eval (eC 3)=aM (M ⟨bf,0,Z⟩))(q:o.op=.load 29 (eC 3)):(bL a.eval o).run bE w=.ok (.value (aR (M ⟨C,0,Z⟩) n n)) w/\(bL a.eval o).events bE w #[]=#[⟨.cell ⟨bf,0,Z⟩,aL,aL⟩]:=by
 have E:=cell_of h.f 0;constructor
 .unfold bL;simp only[q,I];simp[go_sem,E]
 .unfold bL;simp only[q,I];simp[go_sem,E]
theorem agV(h:WF Wg C n i bc bx bf bi (cfg inbox batcher t0 t1 t2 t3 t4) xf w)(I:a.eval (eC 1)=aM (M ⟨bc,0,Z⟩))(q:o.op=.load 24 (eC 1)):(bL a.eval o).run bE w=.ok (.value (.agg (cfg inbox batcher t0 t1 t2 t3 t4))) w/\∀e∈(bL a.eval o).events bE w #[],∃k,e=⟨.cell ⟨bc,k,Z⟩,aL,aL⟩:=by
 have h0:=cell_of h.c 0;have J:=cell_of h.c 1;have h2:=cell_of h.c 2;have h3:=cell_of h.c 3;have h4:=cell_of h.c 4;have Y:=cell_of h.c 5;have E:=cell_of h.c 6;constructor
 .unfold bL;simp only[q,I];simp[go_sem,h0,J,h2,h3,h4,Y,E]
 .unfold bL;simp only[q,I];simp[go_sem,h0,J,h2,h3,h4,Y,E]
theorem agj(h:WF Wg C n i bc bx bf bi cf (BK fr ad data) w)(E:a.eval (eC 2)=aM (M ⟨bx,0,Z⟩))(q:o.op=.load 68 (eC 2)):(bL a.eval o).run bE w=.ok (.value (.agg (BK fr ad data))) w/\∀e∈(bL a.eval o).events bE w #[],∃k,e=⟨.cell ⟨bx,k,Z⟩,aL,aL⟩:=by
 have J:=cell_of h.x 0;have I:=cell_of h.x 1;have h2:=cell_of h.x 2;constructor
 .unfold bL;simp only[q,E];simp[go_sem,J,I,h2]
 .unfold bL;simp only[q,E];simp[go_sem,J,I,h2]
theorem agJ(h:WF Wg C n i bc bx bf bi cf xf w)(I:a.eval (eC 4)=aM (M ⟨bi,0,Z⟩))(q:o.op=.load 3 (eC 4)):(bL a.eval o).run bE w=.ok (.value (N .i64 i)) w/\(bL a.eval o).events bE w #[]=#[⟨.cell ⟨bi,0,Z⟩,aL,aL⟩]:=by
 have E:=cell_of h.i 0;constructor
 .unfold bL;simp only[q,I];simp[go_sem,E]
 .unfold bL;simp only[q,I];simp[go_sem,E]
theorem agy(hi:i<n)(Y:a.eval (eC 5)=aR (M ⟨C,0,Z⟩) n n)(J:a.eval (eC 6)=N .i64 i)(I:o.op=.indexAddr 29 (eC 5) (eC 6)):(bL a.eval o).run bE w=.ok (.value (aM (M ⟨C,i,Z⟩))) w/\(bL a.eval o).events bE w #[]=#[]:=by
 have E:(i:Int)<n:=aA
 have q:(0:Int)<=(i:Int):=aA
 constructor
 .unfold bL;simp only[I,Y,J];simp[go_sem,E,q,Addr.add];exact λe=>e.symm
 .unfold bL;simp only[I,Y,J];simp[go_sem,E,q]
theorem agU(hp:PayAt C n w)(hi:i<n){x:Option Addr}{l c:Nat}(h10:a.eval (eC 10)=aM (M ⟨C,i,Z⟩))(I:a.eval (eC 9)=.slice x l c)(q:o.op=.store 76 (eC 10) (eC 9)):(bL a.eval o).run bE w=.ok .skip (w.setCell ⟨C,i,Z⟩ (.slice x l c))/\(bL a.eval o).events bE w #[]=#[⟨.cell ⟨C,i,Z⟩,bB,aL⟩]:=by
 obtain⟨cs,E,hn⟩:=hp;have J:w.cell? ⟨C,i,Z⟩=M cs[i]:=by simp[fR,E,hn,hi]
 have Y:w.frozen? ⟨C,i,Z⟩=aL:=by simp[World.frozen?,E]
 constructor
 .unfold bL;simp only[q,h10,I];simp[go_sem,stored,J,Y]
 .unfold bL;simp only[q,h10,I];simp[go_sem,rK _ _ _ _ _ _ (show(aR x l c).oneCell'=bB from rfl),J,Y]
theorem aaC(hp:PayAt C n w)(E:i<n)(v:aD):Has C i v (w.setCell ⟨C,i,Z⟩ v):=by obtain⟨cs,q,I⟩:=hp;simp[Has,fR,World.setCell,bT,q,I,E]
end
end
end Cr
