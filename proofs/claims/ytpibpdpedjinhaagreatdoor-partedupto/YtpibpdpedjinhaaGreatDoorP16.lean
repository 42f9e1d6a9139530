import Derived.Test.YtpibpdpedjinhaaGreatDoorP12
import Derived.Test.YtpibpdpedjinhaaGreatDoorP15
set_option maxRecDepth 100000
set_option maxHeartbeats 4000000
namespace Go.Proofs.YtpibpdpedjinhaaGreatDoor
namespace Cr
open Go Go.Conc Go.ConcN Go.RowKit Go.Conc.Lib Go.ConcR.Gen Go.ConcN.Gen
open Go.ConcR (KK WgAt stA smA Payload DC0)
open Fr (F flat one fv frames)
set_option linter.unusedSimpArgs false
variable {n j:Nat}{w:World}{v v':Value}{t:TypeId}{p:Operand}
def oK(o:Oper):Bool:=match o.op with|.defer _=>false|_=>true
theorem oK.out{o:Oper}(h:oK o=true)(c:Go.Call):o.op≠.defer c:=λe=>by simp[oK,e]at h
section
variable {S:Who}{m:Nat}{St:jU->Goroutine->World->Prop}{K0:jU}{w0:World}{L L0:List (Nat×Obj)}{b:Frame}{a:Act}{k:List Item}{cs:List Frame}{ops:Array Oper}{i:Nat}{rest:List Nat}{o:Oper}
theorem Oh{N z i:Nat}{ob:Obj}{wr:Bool}(h:L[j]? =some (n,ob)):EvA L N z ⟨.cell ⟨n,i,none⟩,wr,false⟩:=.inl ⟨_,_,rfl,.inl ⟨_,aQ h,rfl⟩⟩
theorem Wc.rdR(v:Value)(I:ops[i]? =some o)(hw:Region.wanted o (yielded ops a.tmps)=true)(hk:b.kind≠.early)(hd:oK o=true)
  (h:∀w,Lies L w0.heap.size w->(execOp a.eval o).run Tryz.prog w=.ok (.value v) w/\∀e∈(execOp a.eval o).events Tryz.prog w #[],EvA L w.heap.size w.heap.size e) (E:Wc Tryz.prog S m St K0 w0 L (G (b.atR (a.put o.dst v) (.inRegion ops rest::k)) cs)):Wc Tryz.prog S m St K0 w0 L (G (b.atR a (.inRegion ops (i::rest)::k)) cs):=
 .opR I hw hk (oK.out hd) λw z=>⟨v,w,L,.inl (h w z).1,.still z λe J=>(h w z).2 e (mem_listed J),E⟩
theorem Wc.alR(ob:Obj)(v:Nat->Value)(I:ops[i]? =some o)(hw:Region.wanted o (yielded ops a.tmps)=true)(hk:b.kind≠.early)(hd:oK o=true)
  (h:∀w,Lies L w0.heap.size w->(execOp a.eval o).run Tryz.prog w=.ok (.value (v w.heap.size)) (w.alloc ob)/\∀e∈(execOp a.eval o).events Tryz.prog w #[],EvA L w.heap.size (w.heap.size+1) e) (E:∀n,Wc Tryz.prog S m St K0 w0 ((n,ob)::L) (G (b.atR (a.put o.dst (v n)) (.inRegion ops rest::k)) cs)):Wc Tryz.prog S m St K0 w0 L (G (b.atR a (.inRegion ops (i::rest)::k)) cs):=
 .opR I hw hk (oK.out hd) λw z=>⟨_,_,_,.inl (h w z).1,.alloc z ob λe J=>(h w z).2 e (mem_listed J),E _⟩
theorem Wc.stR{B:Nat}{ob:Obj}(z:Obj)(R:L[j]? =some (B,ob))(J:ops[i]? =some o)(hw:Region.wanted o (yielded ops a.tmps)=true)(hk:b.kind≠.early)(hd:oK o=true)
  (h:∀w,Lies L w0.heap.size w->(execOp a.eval o).run Tryz.prog w=.ok .skip (w.putObj B z)/\∀e∈(execOp a.eval o).events Tryz.prog w #[],EvA L w.heap.size w.heap.size e) (I:Wc Tryz.prog S m St K0 w0 (L.set j (B,z)) (G (b.atR (a.put o.dst undef) (.inRegion ops rest::k)) cs)):Wc Tryz.prog S m St K0 w0 L (G (b.atR a (.inRegion ops (i::rest)::k)) cs):=
 .opR J hw hk (oK.out hd) λw E=>⟨_,_,_,.inr ⟨(h w E).1,rfl⟩,.put E R λe Y=>(h w E).2 e (mem_listed Y),I⟩
theorem CQ(I:L[j]? =some (n,.cells #[v] t))(J:Lies L w0.heap.size w)(hp:a.eval p=.pointer (some ⟨n,0,none⟩))(z:o.op=.load t p)(ht:t=76\/t=3\/t=9):
  (execOp a.eval o).run Tryz.prog w=.ok (.value v) w/\∀e∈(execOp a.eval o).events Tryz.prog w #[],EvA L w.heap.size w.heap.size e:=by
 have h:=nV J I;have c0:w.cell? ⟨n,0,none⟩=some v:=by simp[World.cell?,h]
 unfold execOp;simp only[z,hp];rcases ht with rfl|rfl|rfl<;>
 ·refine⟨by simp[go_sem,c0],λe E=>?_⟩;simp[go_sem,c0]at E;subst E;exact Oh I
theorem Na{q:Operand}(E:L[j]? =some (n,.cells #[v] t))(Y:Lies L w0.heap.size w)(hp:a.eval p=.pointer (some ⟨n,0,none⟩))(R:a.eval q=v')(z:o.op=.store t p q)(ht:(∃a k c,v'=.slice a k c/\t=76)\/∃e,v'=.int .i64 e/\t=3):
  (execOp a.eval o).run Tryz.prog w=.ok .skip (w.putObj n (.cells #[v'] t))/\∀e∈(execOp a.eval o).events Tryz.prog w #[],EvA L w.heap.size w.heap.size e:=by
 have h:=nV Y E;have c0:w.cell? ⟨n,0,none⟩=some v:=by simp[World.cell?,h]
 have J:w.frozen? ⟨n,0,none⟩=false:=aI h 0;have hs:w.setCell ⟨n,0,none⟩ v'=w.putObj n (.cells #[v'] t):=PO h;unfold execOp;simp only[z,hp,R,<-hs];rcases ht with⟨a,k,c,rfl,rfl⟩|⟨e,rfl,rfl⟩<;>
 ·refine⟨by simp[go_sem,stored,c0,J],λe I=>?_⟩;simp[go_sem,stored,storedEv,c0,J,events_store _ _ _ _ _ _ (show(Value.slice _ _ _).oneCell'=true from rfl)]at I;subst I;exact Oh E
theorem DW{w':World}{xv:Value}(s x:Operand)(t:TypeId)
  (z:o.op=.call { callee:=.builtin .append,args:=#[s,x],argTypes:=#[t,t] }) (hs:a.eval s=v) (I:a.eval x=xv)
  (E:(Builtin.append_ #[t,t] o.type #[v,xv]).run Tryz.prog w=.ok v' w'):(execOp a.eval o).run Tryz.prog w=.ok (.value v') w':=by
 unfold execOp;simp only[z,resolve,invoke,builtin,iR,Sem.run_pure,gW,fJ,dW,fG,hs,I,E]
theorem RH(w:World)(x:F):(Instr.buildSlice 76 1 #[(0,.agg (yC x))]).run Tryz.prog w=.ok (.slice (some ⟨w.heap.size,0,none⟩) 1 1) (w.alloc (.cells (yC x) 81))/\(Instr.buildSlice 76 1 #[(0,.agg (yC x))]).events Tryz.prog w #[]=#[]:=by
 obtain⟨J,R,I,z,Y⟩:∃i,Tryz.prog.info? 81=some i/\i.zero=some (.agg Ef)/\i.size=4/\i.bytes=32:=by
  have:=NK;cases h:Tryz.prog.info? 81 with
  |none=>rw[h]at this;cases this
  |some i=>
   rw[h]at this;simp only[bQ,aC,dA]at this;exact⟨i,rfl,this.1,this.2.1,this.2.2⟩
 have E:Instr.fill (λi=>some (i*J.size,J.size)) ((Array.range (1*J.size)).map ((Value.agg Ef).cells[· % (Value.agg Ef).cells.size]!)) (#[(0,Value.agg (yC x))]:Array (Nat×Value)).toList=some (yC x):=by rw[z];kernel_rfl
 refine⟨run_buildSlice w _ _ 1 _ _ J _ Tryz.underlying76 R I (by rw[z];decide) (by rw[z];decide) E,?_⟩;have E:Instr.fill (λi=>some (i*4,4)) (Array.map (λx=>(Value.agg Ef).cells[x%(Value.agg Ef).cells.size]!) (Array.range 4)) [(0,.agg (yC x))]=some (yC x):=by rw[z]at E;exact E
 simp[E,Instr.buildSlice,run_underlying Tryz.underlying76,sizeOf,typeInfo,zeroValue,R,I,z,newRow]
theorem JV{c0 n0:Int}{I:ByteArray}{J:Bool}(R:L[j]? =some (n,.cells (Gt c0 n0 I J) 81))(hl:Lies L w0.heap.size w)(hp:a.eval p=.pointer (some ⟨n,0,none⟩))(z:o.op=.load 81 p):
  (execOp a.eval o).run Tryz.prog w=.ok (.value (.agg (Gt c0 n0 I J))) w/\∀e∈(execOp a.eval o).events Tryz.prog w #[],EvA L w.heap.size w.heap.size e:=by
 have h:=nV hl R;have c0:=aA h 0;have c1:=aA h 1;have E:=aA h 2;have c3:=aA h 3;unfold execOp;simp only[z,hp];refine⟨by simp[go_sem,c0,c1,E,c3],λe Y=>?_⟩;simp[go_sem,c0,c1,E,c3]at Y;rcases Y with rfl|rfl|rfl|rfl<;>exact Oh R
noncomputable def Vf:Code:=match Tryz.f59.body with
 |some (.seq _ (.seq _ (.seq _ (.seq _ (.seq _ (.seq (.seq _ (.block _ (.rangeFunc _ _ c _))) _))))))=>c
 |_=>.skip
noncomputable def RF:Code:=match Tryz.f59.body with
 |some (.seq _ (.seq _ (.seq _ (.seq _ (.seq _ (.seq (.seq _ (.block _ (.rangeFunc _ _ _ c))) _))))))=>c
 |_=>.skip
noncomputable def ftl:Code:=match Tryz.f59.body with
 |some (.seq _ (.seq _ (.seq _ (.seq _ (.seq _ (.seq _ c))))))=>c
 |_=>.skip
theorem Qy{u0 u1 u2 u3 u4 u7 u8 u9 ac ab a2 ax av ar an ai ao ay au aq a0 ag a1 aa ak ah aj az aw ap ae am af:Value}{l d sb E F p e:Nat}{T:ByteArray}{fs:List Fr.F}{x:Fr.F}{R:List (Nat×Obj)}{r:Loop}{c:Frame}(a6:r.state=.ready)(a7:r.pending=none)(hR:yY v fs R)(a5:fs.length<1048576)
  (nx:∀v' R',yY v' (fs++[x]) R'->Wc Tryz.prog S m St K0 w0 ((l,.loop r)::(d,.deferred (some []))::(sb,.cells #[.string T] 9)::(E,.cells #[.int .i64 e] 3)::(F,.cells #[v'] 76)::(R'++L0)) (G (c.finish (.bool true)) cs)):
  Wc Tryz.prog S m St K0 w0 ((l,.loop r)::(d,.deferred (some []))::(sb,.cells #[.string T] 9)::(E,.cells #[.int .i64 p] 3)::(F,.cells #[v] 76)::(R++L0)) (G (Frame.round l 59 #[u0,u1,u2,u3,u4,.pointer (some ⟨F,0,none⟩),.pointer (some ⟨E,0,none⟩),u7,u8,u9,ac,ab,a2,ax,av,ar,an,ai,ao,ay,.int .i64 e,.agg (yC x),au,aq,a0,ag,a1,aa,ak,ah,aj,az,aw,ap,ae,am,af] Vf RF .normal) (c::cs)):=by
 rw[show Frame.round l 59 #[u0,u1,u2,u3,u4,.pointer (some ⟨F,0,none⟩),.pointer (some ⟨E,0,none⟩),u7,u8,u9,ac,ab,a2,ax,av,ar,an,ai,ao,ay,.int .i64 e,.agg (yC x),au,aq,a0,ag,a1,aa,ak,ah,aj,az,aw,ap,ae,am,af] Vf RF .normal=Frame.atR { base 59 with roundOf:=some l } { tmps:=#[u0,u1,u2,u3,u4,.pointer (some ⟨F,0,none⟩),.pointer (some ⟨E,0,none⟩),u7,u8,u9,ac,ab,a2,ax,av,ar,an,ai,ao,ay,.int .i64 e,.agg (yC x),au,aq,a0,ag,a1,aa,ak,ah,aj,az,aw,ap,ae,am,af],defers:=[] } [.code Vf,.beginRound,.code RF] from rfl];obtain⟨bb,Y⟩:∃bb,bb=({ base 59 with roundOf:=some l }:Frame):=⟨_,rfl⟩
 have hk:bb.kind=.normal:=by rw[Y];rfl
 have z:bb.kind≠.early:=by rw[hk];decide
 have a3:bb.roundOf=some l:=by rw[Y]
 rw[<-Y];clear Y;have NX:Hid _:=nx;clear nx;rw[show Vf=.seq _ _ from rfl];refine Wc.aa9 (Wc.Xy [0] rfl ?_);refine Wc.rdR (.int .i64 e) rfl rfl z rfl (λw _=>⟨rfl,λe J=>by simp[go_sem]at J⟩) ?_;walk_nrm;refine Wc.OX (Wc.Xy [0,1] rfl ?_);refine Wc.alR (.cells Ef 81) (λn=>.pointer (some ⟨n,0,none⟩)) rfl rfl z rfl (λw I=>⟨by simp[go_sem],λe J=>by simp[go_sem]at J⟩) λfb=>?_;walk_nrm;refine Wc.stR (j:=0) (.cells (yC x) 81) rfl rfl rfl z rfl (λw I=>pY rfl rfl rfl w I) ?_;walk_nrm;refine Wc.OX (Wc.begin (j:=1) rfl a6 a3 z ?_);rw[show RF=.block 1 (.seq _ _) from rfl];refine Wc.Y4 (Wc.aa9 (Wc.Xy [0,1,2,3,4] rfl ?_));refine Wc.rdR v rfl rfl z rfl (λw I=>CQ (j:=5) rfl I rfl rfl (.inl rfl)) ?_;walk_nrm;refine Wc.rdR (.agg (yC x)) rfl rfl z rfl (λw I=>JV (j:=0) rfl I rfl rfl) ?_;walk_nrm;refine Wc.alR (.cells (yC x) 81) (λn=>.slice (some ⟨n,0,none⟩) 1 1) rfl rfl z rfl (λw I=>?_) λn3=>?_
 ·have h:=RH w x;refine⟨by simp[go_sem,h.1],λe J=>?_⟩;simp[go_sem,h.2]at J
 walk_nrm;refine Wc.opR rfl rfl z (oK.out rfl) λw I=>?_;obtain⟨v',w',R',h1,a4,h2⟩:=X0 (A:=[(n3,.cells (yC x) 81),(fb,.cells (yC x) 81),(l,.loop { r with state:=.busy }),(d,.deferred (some [])),(sb,.cells #[.string T] 9),(E,.cells #[.int .i64 p] 3),(F,.cells #[v] 76)]) (n3:=n3) hR I (.head _) a5;refine⟨v',w',_,.inl (DW _ _ _ rfl rfl rfl h1),h2 _ λe J=>by have J:=mem_listed J;rw[events_append_op (v:=v) (xv:=.slice (some ⟨n3,0,none⟩) 1 1) (.tmp 22) (.tmp 24) 76 rfl rfl rfl]at J;exact J,?_⟩;clear h1 h2 I;obtain⟨va,vc,hv⟩:=a4.slice;walk_nrm;refine Wc.stR (j:=6) (.cells #[v'] 76) rfl rfl rfl z rfl (λw I=>Na (j:=6) rfl I rfl rfl rfl (.inl ⟨_,_,_,hv,rfl⟩)) ?_;walk_nrm;refine Wc.OX (Wc.Xy [0,1] rfl ?_);refine Wc.rdR (.int .i64 e) rfl rfl z rfl (λw _=>⟨rfl,λe J=>by simp[go_sem]at J⟩) ?_;walk_nrm;refine Wc.stR (j:=5) (.cells #[.int .i64 e] 3) rfl rfl rfl z rfl (λw I=>Na (j:=5) rfl I rfl rfl rfl (.inr ⟨_,rfl,rfl⟩)) ?_;walk_nrm;refine Wc.OX (Wc.RN (Wc.acC (j:=2) rfl a3 hk ?_));refine Wc.drop (.cons _ (.cons _ (iK _))) ?_;have hr:({ ({ r with state:=.busy }:Loop)with state:=.ready,pending:=none }:Loop)=r:=by cases r;simp_all
 rw[hr];exact NX.out v' R' a4
end
end Cr
namespace Cr
open Go Go.Conc Go.ConcN Go.RowKit Go.Conc.Lib Go.ConcR.Gen Go.ConcN.Gen
open Go.ConcR (KK WgAt stA smA Payload DC0)
open Fr (F flat one fv frames Ic)
set_option linter.unusedSimpArgs false
noncomputable def Vm:Code:=match Tryz.f141.body with
 |some (.seq _ (.block _ (.loop c)))=>c
 |_=>.skip
section
variable {S:Who}{m:Nat}{St:jU->Goroutine->World->Prop}{K0:jU}{w0:World}{L0:List (Nat×Obj)}{cs:List Frame}
abbrev fTA(s T:ByteArray)(F E z:Nat)(x y:Value):Array Value:=#[.string s,undef,.slice none 0 0,.bool false,.string T,.pointer (some ⟨F,0,none⟩),.pointer (some ⟨E,0,none⟩),undef,undef,.string s,.bool false,.bool false,.string s,.int .u8 0,.bool false,.bool false,.string s,.string T,.string T,.func (.func 141) #[] #[.pointer (some ⟨z,0,none⟩)],x,y,undef,undef,undef,undef,undef,undef,undef,undef,undef,undef,undef,undef,undef,undef,undef]
noncomputable abbrev Xv(s T:ByteArray)(F E z d:Nat):Loop:={ state:=.ready,pending:=none,fn:=59,tmps:=fTA s T F E z undef undef,params:=#[20,21],assign:=Vf,body:=RF,defers:=d }
noncomputable abbrev fLs(s T:ByteArray)(F E z d l p:Nat)(v:Value)(R:List (Nat×Obj)):List (Nat×Obj):=(l,.loop (Xv s T F E z d))::(d,.deferred (some []))::(z,.cells #[.string T] 9)::(E,.cells #[.int .i64 p] 3)::(F,.cells #[v] 76)::R
theorem Qp{s T:ByteArray}{l d sb E F:Nat}{b:Frame}{a:Act}{k:List Item}(hT:T.size<=1048576)
  (nx:∀v fs R p,yY v fs R->Ic T.data.toList fs p->one T.data.toList p=none->Wc Tryz.prog S m St K0 w0 (fLs s T F E sb d l p v (R++L0)) (G (b.at a (.endRangeFunc l::k)) cs)):
  ∀r p,T.size-p<r->∀v fs R,yY v fs R->Ic T.data.toList fs p->∀u4 u5 u6 u7 u8 u9 ab aa ar ao an ak ah ag ai aq ac af am aj ae:Value,
  Wc Tryz.prog S m St K0 w0 (fLs s T F E sb d l p v (R++L0)) (G ((base 141).at { tmps:=#[.func (.yield l) #[] #[],.pointer (some ⟨sb,0,none⟩),undef,.int .i64 p,u4,u5,u6,u7,u8,u9,ab,aa,ar,ao,an,ak,ah,ag,ai,aq,ac,af,am,aj,ae],defers:=[] } [.code Vm,.inLoop Vm,.inBlock 0]) (b.at a (.inRangeFunc l::k)::cs)):=by
 intro r
 induction r with
 |zero=>intro p hr;omega
 |succ r ih=>
  intro p hr v fs R hR hA u4 u5 u6 u7 u8 u9 ab aa ar ao an ak ah ag ai aq ac af am aj ae;have ap:=hA.le;rw[<-aV]at ap;have aw:(0:Int)<=(p:Int):=by omega
  have au:(p:Int)<=T.size:=by omega
  have Y:=PN (T.extract p T.size) (by simp;omega);rw[show(T.extract p T.size).data.toList=T.data.toList.drop p by rw[Fr.ext_list,dV (by rw[<-aV];omega)],<-Fr.wP _ _ (by rw[<-aV];exact ap.1)]at Y;have ev:=λw es=>og T _ _ w es (Bq T p w es aw au);rw[show Vm=.block 1 (.seq _ _) from rfl];refine Wc.block (Wc.seq (Wc.reg [0,1,2,3,4,5,6,7,8,9,10,11] rfl ?_));refine Wc.rd (.string T) rfl rfl (base_kind _) (λw J=>CQ (j:=2) rfl J rfl rfl (.inr (.inr rfl))) ?_;walk_nrm;have HR:Hid _:=hR;have HA:Hid _:=hA;have NX:Hid _:=nx;have IH:Hid _:=ih;have HF:Hid _:=Y;clear hR hA nx ih Y;refine Wc.go 50 λK w z=>?_
  iterate 2 u_op At.en z
  refine Goes.stop λ_ I=>Wc.use ?_ (z.en I);clear z;refine HF.out _ _ _ _ _ _ _ _ _ _ _ _ _ _ _ _ rfl rfl (base_kind _) rfl (by simp[Act.eval]) ?_;walk_nrm;generalize hC:one T.data.toList p=C;cases C with
  |none=>
   simp only[fv];refine Wc.go 50 λK w z=>?_
   iterate 4 u_op At.en z
   refine Goes.stop λ_ I=>Wc.use ?_ (z.en I);clear z;refine Wc.al (.cells Ef 81) (λn=>.pointer (some ⟨n,0,none⟩)) rfl rfl (base_kind _) (λw J=>⟨by simp[go_sem],λe he=>by simp[go_sem]at he⟩) λfb=>?_;walk_nrm;refine Wc.st (j:=0) (.cells Ef 81) rfl rfl rfl (base_kind _) (λw J=>pY rfl rfl rfl w J) ?_;walk_nrm;refine Wc.go 50 λK w z=>?_
   iterate 2 u_op At.en z
   u_c stepG_region_end At.en z
   iterate 2 u_c stepG_seq At.en z
   u_reg At.en z
   iterate 2 u_op At.en z
   u_c stepG_region_end At.en z;u_cond true At.en z;refine Goes.stop λ_ I=>Wc.use ?_ (z.en I);clear z;refine .ret λtodo=>.back (.tuple #[]) rfl rfl rfl Tryz.func141 (λw=>⟨results_none rfl _ _ _,by simp[results,Tryz.results141]⟩) (Wc.drop (iP _ _) (NX.out _ _ _ _ HR.out HA.out hC))
  |some x=>
   obtain⟨f,n⟩:=x;have ho:=Fr.one_le hC;rw[<-aV]at ho;simp only[fv];refine Wc.go 50 λK w z=>?_
   iterate 4 u_op At.en z
   refine Goes.stop λ_ I=>Wc.use ?_ (z.en I);clear z;refine Wc.al (.cells Ef 81) (λn=>.pointer (some ⟨n,0,none⟩)) rfl rfl (base_kind _) (λw J=>⟨by simp[go_sem],λe he=>by simp[go_sem]at he⟩) λfb=>?_;walk_nrm;refine Wc.st (j:=0) (.cells (yC f) 81) rfl rfl rfl (base_kind _) (λw J=>pY rfl rfl rfl w J) ?_;walk_nrm;refine Wc.go 50 λK w z=>?_
   iterate 2 u_op At.en z
   u_c stepG_region_end At.en z
   iterate 2 u_c stepG_seq At.en z
   u_reg At.en z
   iterate 2 u_op At.en z
   u_c stepG_region_end At.en z;u_cond false At.en z;u_c stepG_skip At.en z;u_c stepG_seq At.en z;u_reg At.en z
   iterate 4 u_op At.en z
   u_c stepG_region_end At.en z;u_c stepG_seq At.en z;u_reg At.en z
   iterate 2 u_op At.en z
   refine Goes.stop λ_ I=>Wc.use ?_ (z.en I);clear z;refine Wc.rd (.agg (yC f)) rfl rfl (base_kind _) (λw J=>JV (j:=0) rfl J rfl rfl) ?_;walk_nrm;rw[show IntKind.i64.wrap ((p:Int)+n)=((p+n:Nat):Int) by rw[IntKind.wrap_i64];omega];refine Wc.yield (j:=1) rfl rfl rfl (base_kind _) rfl rfl rfl ?_;refine Wc.drop (iP _ _) ?_;have ht:((Xv s T F E sb d).params.zip #[.int .i64 ((p+n:Nat):Int),.agg (yC f)]).foldl (λtmps (t,a)=>tmps.setIfInBounds t a) (Xv s T F E sb d).tmps=fTA s T F E sb (.int .i64 ((p+n:Nat):Int)) (.agg (yC f)):=by kernel_rfl
   walk_nrm;rw[ht];refine Qy (r:=Xv s T F E sb d) (x:=f) (e:=p+n) rfl rfl HR.out (by omega) λv' R' av=>?_;rw[fF];walk_nrm;refine Wc.go 50 λK w z=>?_;u_op At.en z;u_c stepG_region_end At.en z;u_cond false At.en z;u_c stepG_skip At.en z;u_c stepG_inBlock At.en z;u_c stepG_inLoop At.en z;refine Goes.stop λ_ I=>Wc.use ?_ (z.en I);exact IH.out (p+n) (by omega) v' _ R' av (.snoc HA.out hC) _ _ _ _ _ _ _ _ _ _ _ _ _ _ _ _ _ _ _ _ _
end
end Cr
namespace Cr
open Go Go.Conc Go.ConcN Go.RowKit Go.Conc.Lib Go.ConcR.Gen Go.ConcN.Gen
open Go.ConcR (KK WgAt stA smA Payload DC0)
open Fr (F flat one fv frames Ic)
set_option linter.unusedSimpArgs false
def aaJ(f:FuncId)(args:Array Value)(r:Value->Value)(fs:List F):Prop:=∀(S:Who)(m:Nat)(St:jU->Goroutine->World->Prop)(K0:jU)(w0:World)(L:List (Nat×Obj))(b:Frame)(a:Act)(k:List Item)(cs:List Frame)(ops:Array Oper)(i:Nat)(rest:List Nat)(o:Oper)(xs:Array Operand)(z:Array TypeId),
 ops[i]? =some o->Region.wanted o (yielded ops a.tmps)=true->b.kind≠.early->o.op=.call { callee:=.value (.func f),args:=xs,argTypes:=z }->xs.map a.eval=args->(∀v R,yY v fs R->Wc Tryz.prog S m St K0 w0 (R++L) (G (b.at (a.put o.dst (r v)) (.inRegion ops rest::k)) cs))->Wc Tryz.prog S m St K0 w0 L (G (b.at a (.inRegion ops (i::rest)::k)) cs)
theorem X7(a:Option Addr)(n c:Nat)(w:World)(es:Array Event):(Builtin.len_ #[76] 3 #[.slice a n c]).events Tryz.prog w es=es:=by
 simp[Builtin.len_,run_underlying Tryz.underlying76]
section
variable {S:Who}{m:Nat}{St:jU->Goroutine->World->Prop}{K0:jU}{w0:World}{L0:List (Nat×Obj)}{cs:List Frame}
theorem VO{s T:ByteArray}{l d sb E F p:Nat}{v:Value}{fs:List Fr.F}{R:List (Nat×Obj)}{cf:Frame}(hR:yY v fs R)
  (J:∀v' R',yY v' ((if fs.length=0\/p<T.size then none else some fs).getD []) R'->Wc Tryz.prog S m St K0 w0 (R'++L0) (G (cf.finish (.tuple #[v',.bool (if fs.length=0\/p<T.size then none else some fs).isSome])) cs)):
  Wc Tryz.prog S m St K0 w0 (fLs s T F E sb d l p v (R++L0)) (G ((base 59).at { tmps:=fTA s T F E sb undef undef,defers:=[{ target:=.collected d,args:=#[] }] } [.endRangeFunc l,.inBlock 0,.code ftl]) (cf::cs)):=by
 obtain⟨va,vc,hv⟩:=hR.slice;subst hv;have NX:Hid _:=J;have HR:Hid _:=hR;have el:=F9;have ac:=X7;clear J hR;refine Wc.over (j:=0) rfl (show LoopState.ready≠.busy by decide) rfl (Wc.inBlock ?_);rw[show ftl=.seq (.seq _ _) _ from rfl];refine Wc.seq (Wc.seq (Wc.reg [0,1,2,3,4,5,6,7,8] rfl ?_));refine Wc.rd (.slice va fs.length vc) rfl rfl (base_kind _) (λw Y=>CQ (j:=4) rfl Y rfl rfl (.inl rfl)) ?_;walk_nrm;by_cases h0:fs.length=0
 ·have ab:((fs.length:Int) == 0)=true:=by simp[h0]
  refine Wc.go 50 λK w z=>?_
  iterate 3 u_op At.en z
  iterate 4 u_skip At.en z
  u_op At.en z;u_c stepG_region_end At.en z;u_cond true At.en z;u_c stepG_seq At.en z;u_reg At.en z
  iterate 2 u_op At.en z
  u_c stepG_region_end At.en z;refine Goes.stop λ_ I=>Wc.use ?_ (z.en I);clear z;have J:=NX.out;rw[if_pos (.inl h0)]at J;exact .ret λtodo=>.takes (j:=1) rfl rfl rfl (.Il rfl rfl rfl Tryz.func59 rfl rfl rfl (Wc.drop (.cons _ (.cons _ (.cons _ (.cons _ (.cons _ (List.sublist_append_right _ _)))))) (J _ [] (.inl ⟨rfl,rfl,rfl⟩))))
 have ab:((fs.length:Int) == 0)=false:=beq_false_of_ne (by omega);refine Wc.go 50 λK w z=>?_
 iterate 3 u_op At.en z
 refine Goes.stop λ_ I=>Wc.use ?_ (z.en I);clear z;refine Wc.rd (.int .i64 p) rfl rfl (base_kind _) (λw Y=>CQ (j:=3) rfl Y rfl rfl (.inr (.inl rfl))) ?_;walk_nrm;by_cases h1:p<T.size
 ·have aa:(p:Int)<T.size:=by omega
  refine Wc.go 50 λK w z=>?_
  iterate 4 u_op At.en z
  u_c stepG_region_end At.en z;u_cond true At.en z;u_c stepG_seq At.en z;u_reg At.en z
  iterate 2 u_op At.en z
  u_c stepG_region_end At.en z;refine Goes.stop λ_ I=>Wc.use ?_ (z.en I);clear z;have J:=NX.out;rw[if_pos (.inr h1)]at J;exact .ret λtodo=>.takes (j:=1) rfl rfl rfl (.Il rfl rfl rfl Tryz.func59 rfl rfl rfl (Wc.drop (.cons _ (.cons _ (.cons _ (.cons _ (.cons _ (List.sublist_append_right _ _)))))) (J _ [] (.inl ⟨rfl,rfl,rfl⟩))))
 have aa:¬(p:Int)<T.size:=by omega
 refine Wc.go 50 λK w z=>?_
 iterate 4 u_op At.en z
 u_c stepG_region_end At.en z;u_cond false At.en z;u_c stepG_skip At.en z;u_c stepG_seq At.en z;u_reg At.en z;refine Goes.stop λ_ I=>Wc.use ?_ (z.en I);clear z;refine Wc.rd (.slice va fs.length vc) rfl rfl (base_kind _) (λw Y=>CQ (j:=4) rfl Y rfl rfl (.inl rfl)) ?_;walk_nrm;refine Wc.go 50 λK w z=>?_
 iterate 2 u_op At.en z
 u_c stepG_region_end At.en z;refine Goes.stop λ_ I=>Wc.use ?_ (z.en I);clear z;have J:=NX.out;rw[if_neg (by rintro(h|h);exact h0 h;exact h1 h)]at J;exact .ret λtodo=>.takes (j:=1) rfl rfl rfl (.Il rfl rfl rfl Tryz.func59 rfl rfl rfl (Wc.drop (.cons _ (.cons _ (.cons _ (.cons _ (.cons _ (iK _)))))) (J _ R HR.out)))
end
theorem Xh(s:ByteArray)(hs:s.size<=1048576):aaJ 59 #[.string s] (λv=>.tuple #[v,.bool (frames s.data.toList).isSome]) ((frames s.data.toList).getD []):=by
 intro S m St K0 w0 L b a k cs ops i rest o xs an ho hw hk ac hx nx;refine Wc.call ho hw hk ac Tryz.func59 rfl rfl ?_;rw[hx];simp only[Tryz.ntmps59,dL,aN,bM,Nat.reduceAdd,Nat.reduceSub,cO,bZ,dN,cZ,dM,dH]
 have nx:∀v R,yY v ((frames s.data.toList).getD []) R->Wc Tryz.prog S m St K0 w0 (R++L) (G ((b.at a (.inRegion ops (i::rest)::k)).finish (.tuple #[v,.bool (frames s.data.toList).isSome])) cs):=by
  intro v R h;rw[fF,ho];exact nx v R h
 generalize b.at a (.inRegion ops (i::rest)::k)=cf at nx;have Y:=aV s;have el:=F9;have te:=Fr.toList_empty s;have NX:Hid _:=nx;clear nx ho hw hk ac hx;by_cases ag:s.size=0
 ·have ah:s.toList.isEmpty=true:=by rw[te];exact decide_eq_true ag
  clear te;refine Wc.go 50 λK w z=>?_;u_c stepG_seq At.en z;u_reg At.en z
  iterate 2 u_op At.en z
  u_c stepG_region_end At.en z
  iterate 2 u_c stepG_seq At.en z
  u_reg At.en z
  iterate 3 u_op At.en z
  iterate 3 u_skip At.en z
  u_op At.en z;u_c stepG_region_end At.en z;u_cond true At.en z;u_c stepG_seq At.en z;u_reg At.en z
  iterate 2 u_op At.en z
  u_c stepG_region_end At.en z;refine Goes.stop λ_ I=>Wc.use ?_ (z.en I);rw[Fr.rE (.inl (by omega))]at NX;exact .ret λtodo=>.Il rfl rfl rfl Tryz.func59 rfl rfl rfl (NX.out _ [] (.inl ⟨rfl,rfl,rfl⟩))
 have ae:0<s.size:=by omega
 have ah:s.toList.isEmpty=false:=by rw[te];exact decide_eq_false (by omega)
 have ai:=λu=>YE u s 0 0 ae rfl;have ak:=λw es=>Dh s 0 w es (by omega) (by omega);have hg:=Fr.getD_byte s 0 ae;clear te;by_cases h0:s[0].toNat=0
 ·have af:(1:Int)<=(s.size:Int):=by omega
  rw[h0]at ai;obtain⟨T,hT⟩:∃T:ByteArray,s.extract 1 s.size=T:=⟨_,rfl⟩
  have J:T.data.toList=s.data.toList.drop 1:=by rw[<-hT,Fr.ext_list,dV (by rw[<-aV];omega)]
  have ab:T.size=s.size-1:=by rw[<-hT];simp[eG]
  have aa:s.data.toList.getD 0 0=0:=by rw[hg];exact jr.1 h0
  have aj:=λw es=>og s _ _ w es (Bq s 1 w es (by omega) af);have HT:Hid _:=jw J (jw ab aa);clear J ab aa hg Y h0;refine Wc.go 50 λK w z=>?_;u_c stepG_seq At.en z;u_reg At.en z
  iterate 2 u_op At.en z
  u_c stepG_region_end At.en z
  iterate 2 u_c stepG_seq At.en z
  u_reg At.en z
  iterate 7 u_op At.en z
  u_c stepG_region_end At.en z;u_cond false At.en z;u_c stepG_skip At.en z;u_c stepG_seq At.en z;u_reg At.en z
  iterate 3 u_op At.en z
  u_c stepG_region_end At.en z;refine Goes.stop λ_ I=>Wc.use ?_ (z.en I);clear z;refine Wc.seq (Wc.reg [0] rfl ?_);refine Wc.al (.cells #[.slice none 0 0] 76) (λn=>.pointer (some ⟨n,0,none⟩)) rfl rfl (base_kind _) (λw Y=>⟨by simp[go_sem],λe he=>by simp[go_sem]at he⟩) λF=>?_;refine Wc.done (Wc.seq (Wc.reg [0,1] rfl ?_));walk_nrm;refine Wc.al (.cells #[.int .i64 0] 3) (λn=>.pointer (some ⟨n,0,none⟩)) rfl rfl (base_kind _) (λw Y=>⟨by simp[go_sem],λe he=>by simp[go_sem]at he⟩) λE=>?_;walk_nrm;refine Wc.st (j:=0) (.cells #[.int .i64 0] 3) rfl rfl rfl (base_kind _) (λw Y=>Na (j:=0) rfl Y rfl rfl rfl (.inr ⟨_,rfl,rfl⟩)) ?_;walk_nrm;refine Wc.done (Wc.seq (Wc.seq (Wc.reg [0,1] rfl ?_)));refine Wc.go 50 λK w z=>?_;u_op At.en z;refine Goes.stop λ_ I=>Wc.use ?_ (z.en I);clear z;refine Wc.call rfl rfl (base_kind _) rfl Tryz.func94 rfl rfl ?_;simp only[Tryz.ntmps94,dL,aN,bM,Nat.reduceAdd,Nat.reduceSub,cO,bZ,dN,cZ,dM,dH];walk_nrm;refine Wc.seq (Wc.reg [0,1] rfl ?_);refine Wc.al (.cells #[.string T] 9) (λn=>.pointer (some ⟨n,0,none⟩)) rfl rfl (base_kind _) (λw Y=>⟨by simp[go_sem],λe he=>by simp[go_sem]at he⟩) λsb=>?_;walk_nrm;refine Wc.go 50 λK w z=>?_;u_op At.en z;u_c stepG_region_end At.en z;u_c stepG_seq At.en z;u_reg At.en z
  iterate 2 u_op At.en z
  u_c stepG_region_end At.en z;refine Goes.stop λ_ I=>Wc.use ?_ (z.en I);clear z;refine .ret λtodo=>.zC rfl rfl rfl Tryz.func94 rfl rfl ?_;rw[fF];walk_nrm;refine Wc.done (Wc.block (Wc.range (f:=141) (cap:=#[.pointer (some ⟨sb,0,none⟩)]) rfl Tryz.func141 rfl rfl λd=>?_));simp only[Tryz.ntmps141,dL,aN,bM,Nat.reduceAdd,Nat.reduceSub,cO,bZ,dN,cZ,dM,dH];refine Wc.go 50 λK w z=>?_;u_c stepG_seq At.en z;u_reg At.en z;u_op At.en z;u_c stepG_region_end At.en z;u_c stepG_block At.en z;u_c stepG_loop At.en z;refine Goes.stop λ_ I=>Wc.use ?_ (z.en I);clear z;obtain⟨J,ab,aa⟩:=HT.out;refine Qp (s:=s) (T:=T) (d:=d) (by omega) (λv fs R p hR hA hn=>?_) (T.size+1) 0 (by omega) (.slice none 0 0) [] [] (.inl ⟨rfl,rfl,rfl⟩) .nil _ _ _ _ _ _ _ _ _ _ _ _ _ _ _ _ _ _ _ _ _;have Y:=aV s;have hf:=Fr.uT (s:=s.data.toList) (by omega) aa (by rw[<-J];exact hA) (by rw[<-J];exact hn);rw[<-Y,<-ab]at hf;rw[hf]at NX;exact VO hR NX.out
 ·have am:((s[0].toNat:Int) != 0)=true:=by simp;omega
  rw[Fr.rE (.inr (by rw[hg];intro h;exact h0 (by rw[h];rfl)))]at NX;clear hg Y h0;generalize s[0].toNat=c at *;refine Wc.go 50 λK w z=>?_;u_c stepG_seq At.en z;u_reg At.en z
  iterate 2 u_op At.en z
  u_c stepG_region_end At.en z
  iterate 2 u_c stepG_seq At.en z
  u_reg At.en z
  iterate 7 u_op At.en z
  u_c stepG_region_end At.en z;u_cond true At.en z;u_c stepG_seq At.en z;u_reg At.en z
  iterate 2 u_op At.en z
  u_c stepG_region_end At.en z;refine Goes.stop λ_ I=>Wc.use ?_ (z.en I);exact .ret λtodo=>.Il rfl rfl rfl Tryz.func59 rfl rfl rfl (NX.out _ [] (.inl ⟨rfl,rfl,rfl⟩))
end Cr
namespace Cr
open Go Go.Conc Go.ConcN Go.RowKit Go.Conc.Lib Go.ConcR.Gen Go.ConcN.Gen
open Go.ConcR (KK WgAt stA smA Payload DC0)
open Fr (F flat one fv frames lQ)
set_option linter.unusedSimpArgs false
section
variable {w0:World}{L:List (Nat×Obj)}{a:Act}{o:Oper}
theorem Am{w:World}{n j i:Nat}{c:Array Value}{v:Value}{t J:TypeId}{p:Operand}(E:L[j]? =some (n,.cells c J))(Y:c[i]? =some v)(R:Lies L w0.heap.size w)(hp:a.eval p=.pointer (some ⟨n,i,none⟩))(z:o.op=.load t p)(ht:t=22\/t=9):
  (execOp a.eval o).run Tryz.prog w=.ok (.value v) w/\∀e∈(execOp a.eval o).events Tryz.prog w #[],EvA L w.heap.size w.heap.size e:=by
 have h:=nV R E;have c0:w.cell? ⟨n,i,none⟩=some v:=by simp[World.cell?,h,Y]
 unfold execOp;simp only[z,hp];rcases ht with rfl|rfl<;>
 ·refine⟨by simp[go_sem,c0],λe I=>?_⟩;simp[go_sem,c0]at I;subst I;exact Oh E
end
theorem Us(inbox batcher t0 t1 t2 t3 t4 fr ad:Int)(data:ByteArray)(hs:data.size<=1048576):aaJ 110 #[.agg (cfg inbox batcher t0 t1 t2 t3 t4),.agg (zL fr ad data)] id (lQ inbox batcher fr ad data.data.toList):=by
 intro S m St K0 w0 L b a k cs ops i rest o xs ab ho hw hk aa hx nx;refine Wc.call ho hw hk aa Tryz.func110 rfl rfl ?_;rw[hx];simp only[Tryz.ntmps110,dL,aN,bM,Nat.reduceAdd,Nat.reduceSub,cO,bZ,dN,cZ,dM,dH]
 have nx:∀v R,yY v (lQ inbox batcher fr ad data.data.toList) R->Wc Tryz.prog S m St K0 w0 (R++L) (G ((b.at a (.inRegion ops (i::rest)::k)).finish v) cs):=by
  intro v R h;rw[fF,ho];exact nx v R h
 generalize b.at a (.inRegion ops (i::rest)::k)=cf at nx;have Y:Hid _:=nx;clear nx ho hw hk aa hx;refine Wc.seq (Wc.reg [0,1,2] rfl ?_);refine Wc.al (.cells (cfg inbox batcher t0 t1 t2 t3 t4) 24) (λn=>.pointer (some ⟨n,0,none⟩)) rfl rfl (base_kind _) (λw I=>⟨by simp[go_sem],λe he=>by simp[go_sem]at he⟩) λcb=>?_;walk_nrm;refine Wc.al (.cells (zL fr ad data) 68) (λn=>.pointer (some ⟨n,0,none⟩)) rfl rfl (base_kind _) (λw I=>⟨by simp[go_sem],λe he=>by simp[go_sem]at he⟩) λxb=>?_;walk_nrm;refine Wc.go 50 λK w z=>?_;u_op At.en z;u_c stepG_region_end At.en z
 iterate 2 u_c stepG_seq At.en z
 u_reg At.en z;u_op At.en z;refine Goes.stop λ_ E=>Wc.use ?_ (z.en E);clear z;refine Wc.rd (.int .u32 ad) rfl rfl (base_kind _) (λw I=>Am (j:=0) rfl rfl I rfl rfl (.inl rfl)) ?_;walk_nrm;refine Wc.go 50 λK w z=>?_;u_op At.en z;refine Goes.stop λ_ E=>Wc.use ?_ (z.en E);clear z;refine Wc.rd (.int .u32 inbox) rfl rfl (base_kind _) (λw I=>Am (j:=1) rfl rfl I rfl rfl (.inl rfl)) ?_;walk_nrm;by_cases J:ad=inbox
 case neg=>
  have e1:(ad != inbox)=true:=by simp[J]
  rw[lQ,if_neg (λh=>J h.1)]at Y;clear J;refine Wc.go 50 λK w z=>?_
  iterate 2 u_op At.en z
  iterate 5 u_skip At.en z
  u_op At.en z;u_c stepG_region_end At.en z;u_cond true At.en z;u_c stepG_seq At.en z;u_reg At.en z;u_op At.en z;u_c stepG_region_end At.en z;refine Goes.stop λ_ E=>Wc.use ?_ (z.en E);exact .ret λtodo=>.zC rfl rfl rfl Tryz.func110 rfl rfl (Wc.drop (.cons _ (.cons _ (iK _))) (Y.out _ [] (.inl ⟨rfl,rfl,rfl⟩)))
 have e1:(ad != inbox)=false:=by simp[J]
 refine Wc.go 50 λK w z=>?_
 iterate 3 u_op At.en z
 refine Goes.stop λ_ E=>Wc.use ?_ (z.en E);clear z;refine Wc.rd (.int .u32 fr) rfl rfl (base_kind _) (λw I=>Am (j:=0) rfl rfl I rfl rfl (.inl rfl)) ?_;walk_nrm;refine Wc.go 50 λK w z=>?_;u_op At.en z;refine Goes.stop λ_ E=>Wc.use ?_ (z.en E);clear z;refine Wc.rd (.int .u32 batcher) rfl rfl (base_kind _) (λw I=>Am (j:=1) rfl rfl I rfl rfl (.inl rfl)) ?_;walk_nrm;by_cases h2:fr=batcher
 case neg=>
  have e2:(fr != batcher)=true:=by simp[h2]
  rw[lQ,if_neg (λh=>h2 h.2)]at Y;clear J h2;refine Wc.go 50 λK w z=>?_
  iterate 2 u_op At.en z
  u_c stepG_region_end At.en z;u_cond true At.en z;u_c stepG_seq At.en z;u_reg At.en z;u_op At.en z;u_c stepG_region_end At.en z;refine Goes.stop λ_ E=>Wc.use ?_ (z.en E);exact .ret λtodo=>.zC rfl rfl rfl Tryz.func110 rfl rfl (Wc.drop (.cons _ (.cons _ (iK _))) (Y.out _ [] (.inl ⟨rfl,rfl,rfl⟩)))
 have e2:(fr != batcher)=false:=by simp[h2]
 rw[lQ,if_pos ⟨J,h2⟩]at Y;clear J h2;refine Wc.go 50 λK w z=>?_
 iterate 2 u_op At.en z
 u_c stepG_region_end At.en z;u_cond false At.en z;u_c stepG_skip At.en z;u_c stepG_seq At.en z;u_reg At.en z;u_op At.en z;refine Goes.stop λ_ E=>Wc.use ?_ (z.en E);clear z;refine Wc.rd (.string data) rfl rfl (base_kind _) (λw I=>Am (j:=0) rfl rfl I rfl rfl (.inr rfl)) ?_;walk_nrm;refine Xh data hs _ _ _ _ _ _ _ _ _ _ _ _ _ _ _ _ rfl rfl (base_kind _) rfl (by simp[Act.eval]) λv R hR=>?_;walk_nrm;generalize (frames data.data.toList).isSome=ok;refine Wc.go 50 λK w z=>?_
 iterate 5 u_op At.en z
 u_c stepG_region_end At.en z;u_c stepG_seq At.en z;u_reg At.en z
 iterate 2 u_op At.en z
 u_c stepG_region_end At.en z;refine Goes.stop λ_ E=>Wc.use ?_ (z.en E);exact .ret λtodo=>.zC rfl rfl rfl Tryz.func110 rfl rfl (Wc.drop ((iK _).append (.cons _ (.cons _ (iK _)))) (Y.out _ R hR))
theorem Jl:ReadW:=by
 intro S m St K w b a k cs ops j rest o x y aa inbox batcher t0 t1 t2 t3 t4 fr ad data ho hw hk Y E hy hs h1 h2 h3 h4 _ nx;have hA:At S K w [] K w:=⟨h1,h2,h3,h4,jA,λx E=>⟨h2 x E,E,rfl⟩,λx=>.inl,id,id,λp hp=>by simp at hp,.nil⟩
 refine Wc.use (Us inbox batcher t0 t1 t2 t3 t4 fr ad data hs S m St K w [] b a k cs ops j rest o #[x,y] aa ho hw hk Y (by simp[E,hy]) λv R hR K' J z=>?_) hA;refine nx w (.refl _ _ _ _) v K' J (hR.imp (λh=>⟨h.1,h.2.1⟩) ?_) (λx E=>(z.old x E).2.1) z.sub z.size (λx E=>(z.old x E).2.2) (λx E=>⟨z.low x E,z.new x E⟩) z.live z.pay;rintro⟨g,cap,I,e,rfl,r⟩;have hm:=z.mem (g,.cells I 81) (by simp);exact⟨g,cap,I,e,z.sub _ hm.2.1,hm.2.2,r⟩
end Cr
namespace Po
open Go
section
variable {P:Program}{G:Array Func}{k f:Nat}{fn:Func}
def DL(P:Program)(G:Array Func)(D:Nat->Prop):Env:={ T:=P.toTables,F:=P.funcs,G:=G,D:=D,C:=λc=>ou P c=true }
theorem ZY(P:Program)(G:Array Func)(D:Nat->Prop):(DL P G D).P=P:=rfl
theorem Zw(P:Program)(G:Array Func)(D:Nat->Prop)(c:Code):(DL P G D).C c↔ou P c=true:=Iff.rfl
theorem Hg(h:∀k:Nat,(G[k]?).map (·.results)=(P.funcs[k]?).map (·.results))(D:Nat->Prop):∀k:Nat,((DL P G D).G[k]?).map (·.results)=((DL P G D).F[k]?).map (·.results):=h
noncomputable abbrev qe(G:Array Func)(D:Nat->Prop):Env:=DL PQ G D
theorem Ec(G:Array Func)(D:Nat->Prop):(qe G D).P=PQ:=ZY PQ G D
theorem VQ:((List.range 257).all λk=>!CO k || match Tryz.prog.funcs[k]? with
  |some f=>!(f.name == "runtime.NumGoroutine")&&(match f.body with|some c=>ou PQ c|none=>k == 192 || k == 193)
  |none=>false)=true:=by kernel_rfl
theorem aaU:Tryz.prog.funcs.size=257:=by kernel_rfl
theorem Zm:Extern.allNextRows.lookup ""=none:=by kernel_rfl
theorem Nh:Extern.allGenericRows.lookup ""=none/\Extern.allTypedRows.lookup ""=none/\Extern.allRows.lookup ""=none:=⟨by kernel_rfl,by kernel_rfl,by kernel_rfl⟩
theorem ZX{L:FuncId->Bool}(h:(qY P L).funcs[k]? =some fn):(L k=true/\P.funcs[k]? =some fn)\/L k=false/\fn.body=none/\fn.name= ""/\fn.origin= "":=by
 have h:(P.funcs.mapIdx _)[k]? =some fn:=h;rw[iW]at h;cases z:P.funcs[k]? with
 |none=>rw[z]at h;cases h
 |some f=>
  rw[z]at h;cases E:L k with
  |false=>
   simp only[bQ,E,bJ,if_false,aC]at h;subst h;exact .inr ⟨rfl,rfl,rfl,rfl⟩
  |true=>
   simp only[bQ,E,if_true,aC]at h;subst h;exact .inl ⟨rfl,rfl⟩
theorem JQ(P:Program)(L:FuncId->Bool)(k:Nat):(P.funcs[k]?).map (·.results)=((qY P L).funcs[k]?).map (·.results):=by
 show _=((P.funcs.mapIdx _)[k]?).map _
 rw[iW];cases P.funcs[k]? with
 |none=>rfl
 |some f=>
  simp only[bQ];split<;>rfl
theorem Oo{f:Func}(I:CO k=true)(z:Tryz.prog.funcs[k]? =some f):(f.name == "runtime.NumGoroutine")=false/\(match f.body with|some c=>ou PQ c=true|none=>k=192\/k=193):=by
 have hk:k<257:=by rw[<-aaU];exact(jC z)
 have:=eY.1 VQ k (gI.2 hk);rw[z,I]at this;simp only[Bool.not_true,Bool.false_or,bY,Bool.not_eq_true']at this;refine⟨this.1,?_⟩;cases E:f.body with
 |some c=>have:=this.2;rw[E]at this;exact this
 |none=>have:=this.2;rw[E]at this;simpa using this
section
variable {e:Env}
theorem Yj(hf:e.F[f]? =some fn)(Y:fn.body=none)(E:fn.name= "")(I:fn.origin= "")(args:Array Value):Rb e (callFunc f args)/\∀x es n R z,(callFunc f args).runT e.P x es=(.ok n R,z)->∃v,n=.value v:=by
 have h1:Extern.findNext fn=none:=by simp only[Extern.findNext,E,I,Zm];rfl
 have h2:Extern.find fn=none:=by simp only[Extern.find,E,I,Nh.1,Nh.2.1,Nh.2.2];rfl
 have h3:("" == "runtime.NumGoroutine")=false:=by decide+kernel
 have h4:("".endsWith ".init")=false:=by decide+kernel
 have J:∀x es,(callFunc f args).runT e.P x es=(.halt (.unsupported (.extern "")) x,es.push ⟨.mark (.extern f),false,true⟩):=by
  intro x es;simp only[callFunc,program,bind,Sem.bind,Sem.runT,show e.P.funcs[f]? =some fn from hf,E,h3,Y,Option.isNone_none,bJ,if_false,if_true,h1,h2,h4,mark,Bool.false_and,unsupported]
 refine⟨λx es r z h y _=>.inl ?_,λx es n R z h=>?_⟩
 ·rw[J]at h;cases h;rfl
 ·rw[J]at h;cases h
theorem OO(I:e.F[f]? =some fn)(hg:e.G[f]? =some fn)(R:fn.body=none)(hn:(fn.name == "runtime.NumGoroutine")=false)(Y:Extern.findNext fn=none){s:Array Value->Sem Value}(hs:Extern.find fn=some s){args:Array Value}(h:Rb e (s args)):
  Rb e (callFunc f args)/\∀x es n J E,(callFunc f args).runT e.P x es=(.ok n J,E)->∃v,n=.value v:=by
 refine⟨?_,λx es n J E z=>?_⟩
 ·unfold callFunc;refine PR ?_ ?_
  ·simp only[show e.P.funcs[f]? =some fn from I,show e.Q.funcs[f]? =some fn from hg]
  ·simp only[show e.P.funcs[f]? =some fn from I,hn,R,Y,hs,Option.isNone_none,bJ,↓reduceIte];exact B (Oy _ (.inr ⟨f,rfl⟩)) λ_=>B h λ_=>U _
 ·rw[callFunc,runT_bind]at z;simp only[program,Sem.runT,show e.P.funcs[f]? =some fn from I,hn,R,Y,hs,Option.isNone_none,bJ,↓reduceIte]at z;rw[runT_bind]at z;split at z
  ·rw[runT_bind]at z;split at z
   ·cases z;exact⟨_,rfl⟩
   ·cases z
  ·cases z
theorem Y1(args:Array Value):Rb e (Extern.AbiNoEscape.same args):=by
 obtain⟨l⟩:=args
 match l with
 |[]=>exact H _
 |[x]=>exact U _
 |_::_::_=>exact H _
theorem Gx(ps rs:Array TypeId)(args:Array Value):Rb e (Extern.BytealgMakeNoZero.makeNoZero ps rs args):=by
 obtain⟨l⟩:=args
 match l with
 |[]=>exact H _
 |_::_::_=>cases ‹Value›<;>exact H _
 |[x]=>
  cases x<;>first|exact H _|skip
  case int k n=>
   cases k<;>first|exact H _|skip
   show Rb e (match rs[0]? with|some t=>_|_=>_)
   repeat' first|with_reducible exact U _|with_reducible refine B ?_ λ_=>?_|with_reducible refine IT ?_ ?_|exact H _|split|(simp;done)|dsimp only
end
theorem Zp(h:PQ.funcs[k]? =some fn):(CO k=true/\Tryz.prog.funcs[k]? =some fn)\/CO k=false/\fn.body=none/\fn.name= ""/\fn.origin= "":=ZX (P:=Tryz.prog) (L:=CO) h
theorem F6{D:Nat->Prop}(h:(DL P G D).F[k]? =some fn):P.funcs[k]? =some fn:=h
theorem Un(hG:∀(k:Nat)(fn:Func),CO k=true->Tryz.prog.funcs[k]? =some fn->G[k]? =some fn)(I:∀k:Nat,(G[k]?).map (·.results)=(PQ.funcs[k]?).map (·.results))(D:Nat->Prop):Fit (qe G D) where
 code c:=by rewrite [Ec];exact Zw PQ G D c
 name f fn h:=by
  rcases Zp (F6 h)with⟨z,h2⟩|⟨_,_,h2,_⟩
  ·exact(Oo z h2).1
  ·rw[h2];decide+kernel
 same f fn c h hb:=by
  rcases Zp (F6 h)with⟨z,h2⟩|⟨_,h2,_⟩
  ·have:=(Oo z h2).2;rw[hb]at this;exact⟨hG _ _ z h2,by rewrite [Ec];exact this⟩
  ·rw[h2]at hb;cases hb
 ext f fn args h hb:=by
  rcases Zp (F6 h)with⟨z,h2⟩|⟨_,_,h3,h4⟩
  ·have:=(Oo z h2).2;rw[hb]at this;have E:=hG _ _ z h2;rcases this with rfl|rfl
   ·obtain rfl:=eP (Tryz.func192.symm.trans h2);exact OO h E hb (by rfl) (by rfl) (s:=Extern.AbiNoEscape.same) (by rfl) (Y1 _)
   ·obtain rfl:=eP (Tryz.func193.symm.trans h2);exact OO h E hb (by rfl) (by rfl) (s:=Extern.BytealgMakeNoZero.makeNoZero _ _) (by rfl) (Gx _ _ _)
  ·exact Yj h hb h3 h4 _
 results:=Hg I D
 early:=by rewrite [Ec];kernel_rfl
theorem PV(k:Nat):(Tryz.prog.funcs[k]?).map (·.results)=(PQ.funcs[k]?).map (·.results):=JQ ..
theorem QF(P:Program)(G:Array Func)(D:Nat->Prop):(DL P G D).self=DL P P.funcs λ_=>False:=rfl
theorem fits(D:Nat->Prop):Fits (qe Tryz.prog.funcs D):=
 ⟨Un (λ_ _ _ h=>h) PV D,by rewrite [QF];exact Un (λ_ _ h k=>fq k h) (λ_=>rfl) _⟩
end
open Go Go.Conc
open Cr (nN)
section
variable {w:World}{o:Obj}
theorem aa3(P:Program)(L:FuncId->Bool)(D:Nat->Prop):(DL (qY P L) P.funcs D).Q=P:=rfl
theorem Yb(D:Nat->Prop):(qe Tryz.prog.funcs D).Q=Tryz.prog:=aa3 Tryz.prog CO D
def yQ(w:World)(b:Nat):Prop:=∃o,w.heap[b]? =some o/\ghost o=true
def hush(w:World):World:={ w with heap:=w.heap.map λo=>if ghost o then .coro none else o }
theorem NP{b:Nat}(h:w.heap[b]? =some o)(z:ghost o=false):(hush w).heap[b]? =some o:=by
 show(w.heap.map _)[b]? =_
 rw[iD,h];simp[z]
theorem WX{b:Nat}(h:(hush w).heap[b]? =some o):ghost o=false:=by
 have h:(w.heap.map _)[b]? =_:=h;rw[iD]at h;cases z:w.heap[b]? with
 |none=>rw[z]at h;cases h
 |some u=>
  rw[z]at h;simp only[bQ,aC]at h;subst h;split
  ·rfl
  ·exact Bool.eq_false_iff.2 ‹_›
theorem zn{e:Env}(h:ghost o=false):wR e o:=by
 cases o<;>first|trivial|(cases h;done)
section
variable {w:World}{Post:Value->World->Prop}{fr:Frame}
theorem XR{e:Env}(E:e.D=yQ w):WP e (hush w) w where
 os:=rfl
 output:=rfl
 size:=by simp[hush]
 out b hb:=by
  show _=(w.heap.map _)[b]?
  rw[iD];cases I:w.heap[b]? with
  |none=>rfl
  |some o=>
   cases z:ghost o with
   |true=>exact absurd ⟨o,I,z⟩ (E ▸ hb)
   |false=>simp[z]
 inn b hb:=by
  rw[E]at hb;obtain⟨o,h,z⟩:=hb;refine .inr ⟨o,h,?_,z⟩
  show(w.heap.map _)[b]? =_
  rw[iD,h];simp[z]
 objs b o h:=zn (WX h)
theorem Ph(h:Wk (qe Tryz.prog.funcs (yQ w)) ⟨yQ w,w,Post⟩ [] fr [] (hush w))(E:sU (qe Tryz.prog.funcs (yQ w)) fr):nN Tryz.prog Post (λ_=>False) (mk fr []) w:=by
 have k:=h ⟨E,by simp⟩ w (XR rfl) ⟨λ_ z=>⟨z,rfl⟩,λ_ z _=>z,jA,rfl,rfl⟩
 rewrite [Yb]at k
 exact k.dead λ_ x=>x.elim
end
end
end Po
namespace Cr
open Go Go.Conc Go.ConcN Go.RowKit Go.Conc.Lib Go.ConcR.Gen Go.ConcN.Gen
open Go.ConcR (KK WgAt stA smA Payload DC0)
section
variable {a:Act}{o:Oper}
structure WF(Wg C n i bc bx bf bi:Nat)(cf xf:Array Value)(w:World):Prop where
 c:w.heap[bc]? =some (.cells cf 24)
 x:w.heap[bx]? =some (.cells xf 68)
 f:w.heap[bf]? =some (.cells #[.slice (some ⟨C,0,none⟩) n n] 29)
 i:w.heap[bi]? =some (.cells #[.int .i64 i] 3)
 live:WgLive link.tWg Wg w
 pay:PayAt C n w
section
variable {Wg C n i bc bx bf bi:Nat}{inbox batcher t0 t1 t2 t3 t4 fr ad:Int}{data:ByteArray}{cf xf:Array Value}{w w₁:World}{K:jU}
theorem WF.en(h:WF Wg C n i bc bx bf bi cf xf w)(E:K.O bc)(J:K.O bx)(z:K.O bf)(I:K.O bi)(r:En ⟨Wg,C,n,link.tWg,C-1⟩ (some i) K w w₁):WF Wg C n i bc bx bf bi cf xf w₁:=
 ⟨(r.block _ E).trans h.c,(r.block _ J).trans h.x,(r.block _ z).trans h.f,(r.block _ I).trans h.i,r.live h.live,r.pay h.pay⟩
noncomputable def tq:Array Oper:=match Tryz.f108.body with
 |some (.seq _ (.region _ ops _))=>ops
 |_=>#[]
theorem cell_of{b:Nat}{cs:Array Value}{ty:TypeId}(h:w.heap[b]? =some (.cells cs ty))(o:Nat):w.cell? ⟨b,o,none⟩=cs[o]?:=by simp[World.cell?,h]
theorem acB(h:WF Wg C n i bc bx bf bi cf xf w)(I:a.eval (.tmp 3)=.pointer (some ⟨bf,0,none⟩))(z:o.op=.load 29 (.tmp 3)):
  (execOp a.eval o).run Tryz.prog w=.ok (.value (.slice (some ⟨C,0,none⟩) n n)) w/\(execOp a.eval o).events Tryz.prog w #[]=#[⟨.cell ⟨bf,0,none⟩,false,false⟩]:=by
 have E:=cell_of h.f 0;constructor
 ·unfold execOp;simp only[z,I];simp[go_sem,E]
 ·unfold execOp;simp only[z,I];simp[go_sem,E]
theorem acL(h:WF Wg C n i bc bx bf bi (cfg inbox batcher t0 t1 t2 t3 t4) xf w)(I:a.eval (.tmp 1)=.pointer (some ⟨bc,0,none⟩))(z:o.op=.load 24 (.tmp 1)):
  (execOp a.eval o).run Tryz.prog w=.ok (.value (.agg (cfg inbox batcher t0 t1 t2 t3 t4))) w/\∀e∈(execOp a.eval o).events Tryz.prog w #[],∃k,e=⟨.cell ⟨bc,k,none⟩,false,false⟩:=by
 have Y:=cell_of h.c 0;have J:=cell_of h.c 1;have h2:=cell_of h.c 2;have h3:=cell_of h.c 3;have h4:=cell_of h.c 4;have R:=cell_of h.c 5;have E:=cell_of h.c 6;constructor
 ·unfold execOp;simp only[z,I];simp[go_sem,Y,J,h2,h3,h4,R,E]
 ·unfold execOp;simp only[z,I];simp[go_sem,Y,J,h2,h3,h4,R,E]
theorem ab3(h:WF Wg C n i bc bx bf bi cf (zL fr ad data) w)(E:a.eval (.tmp 2)=.pointer (some ⟨bx,0,none⟩))(z:o.op=.load 68 (.tmp 2)):
  (execOp a.eval o).run Tryz.prog w=.ok (.value (.agg (zL fr ad data))) w/\∀e∈(execOp a.eval o).events Tryz.prog w #[],∃k,e=⟨.cell ⟨bx,k,none⟩,false,false⟩:=by
 have J:=cell_of h.x 0;have I:=cell_of h.x 1;have h2:=cell_of h.x 2;constructor
 ·unfold execOp;simp only[z,E];simp[go_sem,J,I,h2]
 ·unfold execOp;simp only[z,E];simp[go_sem,J,I,h2]
theorem acz(h:WF Wg C n i bc bx bf bi cf xf w)(I:a.eval (.tmp 4)=.pointer (some ⟨bi,0,none⟩))(z:o.op=.load 3 (.tmp 4)):
  (execOp a.eval o).run Tryz.prog w=.ok (.value (.int .i64 i)) w/\(execOp a.eval o).events Tryz.prog w #[]=#[⟨.cell ⟨bi,0,none⟩,false,false⟩]:=by
 have E:=cell_of h.i 0;constructor
 ·unfold execOp;simp only[z,I];simp[go_sem,E]
 ·unfold execOp;simp only[z,I];simp[go_sem,E]
theorem acj(Y:i<n)(R:a.eval (.tmp 5)=.slice (some ⟨C,0,none⟩) n n)(J:a.eval (.tmp 6)=.int .i64 i)(I:o.op=.indexAddr 29 (.tmp 5) (.tmp 6)):
  (execOp a.eval o).run Tryz.prog w=.ok (.value (.pointer (some ⟨C,i,none⟩))) w/\(execOp a.eval o).events Tryz.prog w #[]=#[]:=by
 have E:(i:Int)<n:=by omega
 have z:(0:Int)<=(i:Int):=by omega
 constructor
 ·unfold execOp;simp only[I,R,J];simp[go_sem,E,z,Addr.add];exact λe=>e.symm
 ·unfold execOp;simp only[I,R,J];simp[go_sem,E,z]
theorem acK(hp:PayAt C n w)(Y:i<n){x:Option Addr}{l c:Nat}(h10:a.eval (.tmp 10)=.pointer (some ⟨C,i,none⟩))(I:a.eval (.tmp 9)=.slice x l c)(z:o.op=.store 76 (.tmp 10) (.tmp 9)):
  (execOp a.eval o).run Tryz.prog w=.ok .skip (w.setCell ⟨C,i,none⟩ (.slice x l c))/\(execOp a.eval o).events Tryz.prog w #[]=#[⟨.cell ⟨C,i,none⟩,true,false⟩]:=by
 obtain⟨cs,E,hn⟩:=hp;have J:w.cell? ⟨C,i,none⟩=some cs[i]:=by simp[World.cell?,E,hn,Y]
 have R:w.frozen? ⟨C,i,none⟩=false:=by simp[World.frozen?,E]
 constructor
 ·unfold execOp;simp only[z,h10,I];simp[go_sem,stored,J,R]
 ·unfold execOp;simp only[z,h10,I];simp[go_sem,events_store _ _ _ _ _ _ (show(Value.slice x l c).oneCell'=true from rfl),J,R]
theorem Ws(hp:PayAt C n w)(E:i<n)(v:Value):Has C i v (w.setCell ⟨C,i,none⟩ v):=by
 obtain⟨cs,z,I⟩:=hp;simp[Has,World.cell?,World.setCell,bI,z,I,E]
end
end
section
def bW:Frame:=baseD 108
noncomputable def Jh:Frame:={ (default:Frame)with fn:=Tryz.prog.funcs.size,defers:=[],mode:=.panicking [goexitEntry] }
noncomputable def Vb:Code:=Tryz.f108.body.getD .skip
section
variable (Wg C n i bc bx bf bi:Nat)(inbox batcher t0 t1 t2 t3 t4 fr ad:Int)(data:ByteArray)
def IC:Deferred:={ target:=.fn (.func 108) #[.pointer (some ⟨Wg,0,none⟩),.pointer (some ⟨bc,0,none⟩),.pointer (some ⟨bx,0,none⟩),.pointer (some ⟨bf,0,none⟩),.pointer (some ⟨bi,0,none⟩)],args:=#[] }
def NI(l:Bool)(v:Value):Value:=if l then v else undef
def slots(l:Array Bool)(v:Value):Array Value:=#[.pointer (some ⟨Wg,0,none⟩),.pointer (some ⟨bc,0,none⟩),.pointer (some ⟨bx,0,none⟩),.pointer (some ⟨bf,0,none⟩),.pointer (some ⟨bi,0,none⟩),
 NI (l.getD 0 false) (.slice (some ⟨C,0,none⟩) n n),NI (l.getD 1 false) (.int .i64 i),NI (l.getD 2 false) (.agg (cfg inbox batcher t0 t1 t2 t3 t4)),NI (l.getD 3 false) (.agg (zL fr ad data)),NI (l.getD 4 false) v,NI (l.getD 5 false) (.pointer (some ⟨C,i,none⟩))]
end
section
variable {Wg C n i bc bx bf bi:Nat}{inbox batcher t0 t1 t2 t3 t4 fr ad:Int}{data:ByteArray}
theorem born_step(w:World):stepG Tryz.prog false (born Tryz.prog (IC Wg bc bx bf bi)) w=
  .go (G (bW.at ⟨#[.pointer (some ⟨Wg,0,none⟩),.pointer (some ⟨bc,0,none⟩),.pointer (some ⟨bx,0,none⟩),.pointer (some ⟨bf,0,none⟩),.pointer (some ⟨bi,0,none⟩),undef,undef,undef,undef,undef,undef],[]⟩ [.code Vb]) [Jh]) w #[]:=by
 simp[born,IC,stepG,unwind,callDeferred,invoke,callFunc,Tryz.func108,Tryz.f108,seen,GStep.after,G,Frame.enter,Frame.at,bW,baseD,Jh,Vb]
theorem quits_tail(T:Array Value):QuitsD Tryz.prog 2 0 (G { bW.at ⟨T,[]⟩ []with mode:=.returning } [Jh]):=by
 refine QuitsD.ctl (g':=G Jh []) rfl (λw=>?_) ?_
 ·simp[G,stepG,unwind,doReturn,results,Frame.at,bW,baseD,Jh,Tryz.func108,Tryz.f108,seen,GStep.after,goexitEntry]
 refine QuitsD.ctl (g':={ G Jh []with status:=.finished }) rfl (λw=>?_) ⟨rfl,rfl⟩;simp[G,stepG,unwind,Jh,goexitEntry,Frame.catches];rfl
structure KW(Wg C:Nat)(bc bx bf bi:Nat)(K:jU)(w:World):Prop where
 c:K.O bc
 x:K.O bx
 f:K.O bf
 i:K.O bi
 sub:∀b,K.W b->K.O b
 low:∀b,K.O b->b<w.heap.size
 pay:C<w.heap.size
 grp:Wg<w.heap.size
 ne:∀b,K.O b->b≠C
 glob:Tryz.prog.globals.size<=w.heap.size
theorem sched(t:Nat)(m:Bool):Region.schedule m tq t=Region.linearise.go .any tq 7 t (Array.replicate 7 false) []:=by
 have h:Region.departs tq=false:=by kernel_rfl
 unfold Region.schedule;simp only[h,Bool.not_false,Bool.or_true,if_true];rfl
end
end
section
variable {w:World}{v:Value}{l0 l1 l2 l3 l4 l5 l6:Bool}
section
variable {Wg C n i bc bx bf bi:Nat}{inbox batcher t0 t1 t2 t3 t4 fr ad:Int}{data:ByteArray}{fs:Nat->List Fr.F}
abbrev lS(Wg C n:Nat):Who:=⟨Wg,C,n,link.tWg,C-1⟩
noncomputable def tH(Wg C n i bc bx bf bi:Nat)(inbox batcher t0 t1 t2 t3 t4 fr ad:Int)(data:ByteArray)(l:Array Bool)(v:Value)(rest:List Nat):Goroutine:=
 G (bW.at ⟨slots Wg C n i bc bx bf bi inbox batcher t0 t1 t2 t3 t4 fr ad data l v,[dcall link.done #[.pointer (some ⟨Wg,0,none⟩)]]⟩ (.inRegion tq rest::[])) [Jh]
theorem Wv{K:jU}{l:Array Bool}(hF:WF Wg C n i bc bx bf bi (cfg inbox batcher t0 t1 t2 t3 t4) (zL fr ad data) w)(R:KW Wg C bc bx bf bi K w)(Y:Has C i v w)(hr:qH K.O w v (fs i)):
  kK Tryz.prog false (lS Wg C n) (some i) (qO Tryz.prog (lS Wg C n) (leftOf fs) i) K (tH Wg C n i bc bx bf bi inbox batcher t0 t1 t2 t3 t4 fr ad data l v []) w:=by
 have H:=wgLib;unfold tH;have E:WF Wg C n i bc bx bf bi (cfg inbox batcher t0 t1 t2 t3 t4) (zL fr ad data) w/\Has C i v w/\qH K.O w v (fs i):=⟨hF,Y,hr⟩
 have J:∀{w z:World},(WF Wg C n i bc bx bf bi (cfg inbox batcher t0 t1 t2 t3 t4) (zL fr ad data) w/\Has C i v w/\qH K.O w v (fs i))->En (lS Wg C n) (some i) K w z->(WF Wg C n i bc bx bf bi (cfg inbox batcher t0 t1 t2 t3 t4) (zL fr ad data) z/\Has C i v z/\qH K.O z v (fs i)):=
  λh r=>⟨h.1.en R.c R.x R.f R.i r,(r.cell i rfl).trans h.2.1,h.2.2.stands (λ_=>id) r.block⟩
 clear hF Y hr;refine kK.go (n:=10) ?_;u_c stepG_region_end J E;u_c stepG_end J E;u_in J E;rw[stepG_unwind_enter rfl H.f_done (nm_done link) rfl];simp only[goes_go];refine⟨by u_nil,?_⟩;refine Goes.stop λz I=>?_;replace E:=J E I;exact XU (Q:=leftOf fs) H rfl (quits_tail _) z E.1.live E.2.1 λaa hb=>E.2.2.stands (λ_=>id) hb
structure Reg(fs:Nat->List Fr.F)(Wg C n i bc bx bf bi:Nat)(inbox batcher t0 t1 t2 t3 t4 fr ad:Int)(data:ByteArray)(l0 l1 l2 l3 l4 l5 l6:Bool)(K:jU)(v:Value)(w:World):Prop where
 d4:l4=true->l2=true/\l3=true
 d5:l5=true->l0=true/\l1=true/\l2=true/\l3=true/\l4=true
 d6:l6=true->l5=true
 wf:WF Wg C n i bc bx bf bi (cfg inbox batcher t0 t1 t2 t3 t4) (zL fr ad data) w
 kw:KW Wg C bc bx bf bi K w
 row:l4=true->qH K.O w v (fs i)
 has:l6=true->Has C i v w
def Cnt(z:Nat)(l0 l1 l2 l3 l4 l5 l6:Bool):Prop:=z+(l0.toNat+l1.toNat+l2.toNat+l3.toNat+l4.toNat+l5.toNat+l6.toNat)=7
theorem Reg.en{K:jU}{z:World}(h:Reg fs Wg C n i bc bx bf bi inbox batcher t0 t1 t2 t3 t4 fr ad data l0 l1 l2 l3 l4 l5 l6 K v w)(r:En (lS Wg C n) (some i) K w z):
  Reg fs Wg C n i bc bx bf bi inbox batcher t0 t1 t2 t3 t4 fr ad data l0 l1 l2 l3 l4 l5 l6 K v z:=
 ⟨h.d4,h.d5,h.d6,h.wf.en h.kw.c h.kw.x h.kw.f h.kw.i r,⟨h.kw.c,h.kw.x,h.kw.f,h.kw.i,h.kw.sub,λb E=>aH (h.kw.low b E) r.size,aH h.kw.pay r.size,aH h.kw.grp r.size,h.kw.ne,aW h.kw.glob r.size⟩,
  λe=>(h.row e).stands (λ_=>id) r.block,λe=>(r.cell i rfl).trans (h.has e)⟩
def opens(l0 l1 l2 l3 l4 l5 l6:Bool):List Nat:=
 (if l0 then []else [0])++(if l1 then []else [1])++(if l2 then []else [2])++(if l3 then []else [3])++(if l4 then []else if l2&&l3 then [4]else [])++(if l5 then []else if l0&&l1&&l2&&l3&&l4 then [5]else [])++
  (if l6 then []else if l0&&l1&&l2&&l3&&l4&&l5 then [6]else [])
theorem ready_eq(l0 l1 l2 l3 l4 l5 l6:Bool):Region.ready .any tq #[l0,l1,l2,l3,l4,l5,l6]=opens l0 l1 l2 l3 l4 l5 l6:=by
 cases l0<;>cases l1<;>cases l2<;>cases l3<;>cases l4<;>cases l5<;>cases l6<;>kernel_rfl
theorem Pg{k:Nat}(h:k∈Region.ready .any tq #[l0,l1,l2,l3,l4,l5,l6]):
  (k=0/\l0=false)\/(k=1/\l1=false)\/(k=2/\l2=false)\/(k=3/\l3=false)\/(k=4/\l4=false/\l2=true/\l3=true)\/(k=5/\l5=false/\l0=true/\l1=true/\l2=true/\l3=true/\l4=true)\/(k=6/\l6=false/\l5=true/\l4=true):=by
 rw[ready_eq]at h;revert h;cases l0<;>cases l1<;>cases l2<;>cases l3<;>cases l4<;>cases l5<;>cases l6<;>simp[opens]<;>omega
theorem Md(h4:l4=true->l2=true/\l3=true)(z:l5=true->l0=true/\l1=true/\l2=true/\l3=true/\l4=true)(E:l6=true->l5=true)(I:l0.toNat+l1.toNat+l2.toNat+l3.toNat+l4.toNat+l5.toNat+l6.toNat<7):
  Region.ready .any tq #[l0,l1,l2,l3,l4,l5,l6]≠[]:=by
 rw[ready_eq];revert h4 z E I;cases l0<;>cases l1<;>cases l2<;>cases l3<;>cases l4<;>cases l5<;>cases l6<;>simp[opens]
end
end
end Cr
end Go.Proofs.YtpibpdpedjinhaaGreatDoor
