import Derived.Test.YtpibpdpedjinhaaGreatDoorP14
import Derived.Great.BuildSlice
set_option maxRecDepth 100000
set_option maxHeartbeats 4000000
namespace Go.Proofs.YtpibpdpedjinhaaGreatDoor
namespace Fr
def lQ(inbox batcher fr ad:Int)(data:List UInt8):List F:=if ad=inbox/\fr=batcher then(frames data).getD []else []
end Fr
namespace Cr
open Go Go.Conc Go.ConcN Go.RowKit Go.Conc.Lib Go.ConcR.Gen Go.ConcN.Gen
open Go.ConcR (KK WgAt stA smA Payload DC0)
instance payFrames:Payload:=⟨76⟩
def qH(O:Nat->Prop)(w:World)(v:Value)(fs:List Fr.F):Prop:=
 (v=.slice none 0 0/\fs=[])\/∃g cap z,v=.slice (some ⟨g,0,none⟩) fs.length cap/\O g/\w.heap[g]? =some (.cells z 81 (0,0))/\fs.length<=cap/\cap<=maxLen/\z.size=cap*4/\z.toList.take (fs.length*4)=Fr.flat fs
theorem qH.stands{O I:Nat->Prop}{w z:World}{v:Value}{fs:List Fr.F}(h:qH O w v fs)(R:∀b,O b->I b)(Y:∀b,O b->z.heap[b]? =w.heap[b]?):qH I z v fs:=
 h.imp id λ⟨g,cap,E,e,J,h2,r⟩=>⟨g,cap,E,e,R g J,(Y g J).trans h2,r⟩
def leftOf(fs:Nat->List Fr.F):Left:=λi v O w=>qH O w v (fs i)
theorem Du(fs:Nat->List Fr.F):(leftOf fs).mV:=λ_ _ _ _ _ z h=>qH.stands h (λ_=>id) z
abbrev cfg(inbox batcher t0 t1 t2 t3 t4:Int):Array Value:=#[.int .u32 inbox,.int .u32 batcher,.int .i64 t0,.int .i64 t1,.int .i64 t2,.int .i64 t3,.int .i64 t4]
abbrev zL(fr ad:Int)(data:ByteArray):Array Value:=#[.int .u32 fr,.int .u32 ad,.string data]
def ReadW:Prop:=∀(S:Who)(m:Nat)(R:jU->Goroutine->World->Prop)(K:jU)(w:World)(b:Frame)(a:Act)(k:List Item)(cs:List Frame)(ops:Array Oper)(j:Nat)(rest:List Nat)(o:Oper)(x y:Operand)(J:Array TypeId)(inbox batcher t0 t1 t2 t3 t4 fr ad:Int)(data:ByteArray),
 ops[j]? =some o->Region.wanted o (yielded ops a.tmps)=true->b.kind≠.early->o.op=.call { callee:=.value (.func 110),args:=#[x,y],argTypes:=J }->a.eval x=.agg (cfg inbox batcher t0 t1 t2 t3 t4)->a.eval y=.agg (zL fr ad data)->data.size<=1048576->
 (∀x,K.W x->K.O x)->(∀x,K.O x->x<w.heap.size)->S.C<w.heap.size->S.Wg<w.heap.size->Tryz.prog.globals.size<=w.heap.size->
 (∀E,En S (some m) K w E->∀v I z,qH I.O z v (Fr.lQ inbox batcher fr ad data.data.toList)->(∀x,K.O x->I.O x)->(∀x,I.W x->I.O x)->E.heap.size<=z.heap.size->(∀x,K.O x->z.heap[x]? =E.heap[x]?)->(∀x,I.O x->x<z.heap.size/\(K.O x\/E.heap.size<=x))->
  (WgLive S.ty S.Wg E->WgLive S.ty S.Wg z)->(PayAt S.C S.n E->PayAt S.C S.n z)->kK Tryz.prog false S (some m) R I (G (b.at (a.put o.dst v) (.inRegion ops rest::k)) cs) z)->
 kK Tryz.prog false S (some m) R K (G (b.at a (.inRegion ops (j::rest)::k)) cs) w
end Cr
namespace Cr
open Go Go.Conc Go.ConcN Go.RowKit Go.Conc.Lib Go.ConcR.Gen Go.ConcN.Gen
open Go.ConcR (KK WgAt stA smA Payload DC0)
open Fr (big)
section
def Ret(f:FuncId)(args:Array Value)(v:Value):Prop:=∀(S:Who)(m:Nat)(St:jU->Goroutine->World->Prop)(K0:jU)(w0:World)(L:List (Nat×Obj))(b:Frame)(a:Act)(k:List Item)(cs:List Frame)(ops:Array Oper)(i:Nat)(rest:List Nat)(o:Oper)(xs:Array Operand)(z:Array TypeId),
 ops[i]? =some o->Region.wanted o (yielded ops a.tmps)=true->b.kind≠.early->o.op=.call { callee:=.value (.func f),args:=xs,argTypes:=z }->xs.map a.eval=args->Wc Tryz.prog S m St K0 w0 L (G (b.at (a.put o.dst v) (.inRegion ops rest::k)) cs)->Wc Tryz.prog S m St K0 w0 L (G (b.at a (.inRegion ops (i::rest)::k)) cs)
noncomputable def UY:Code:=match Tryz.f194.body with
 |some (.seq _ (.seq _ (.seq (.seq _ (.block _ (.loop c))) _)))=>c
 |_=>.skip
noncomputable def ZR:Code:=match Tryz.f194.body with
 |some (.seq _ (.seq _ (.seq _ c)))=>c
 |_=>.skip
section
variable {S:Who}{m:Nat}{St:jU->Goroutine->World->Prop}{K0:jU}{w0:World}{L:List (Nat×Obj)}{cs:List Frame}{cf:Frame}
theorem nR{p:Nat×Obj}{w:World}(h:Lies (p::L) w0.heap.size w):w.heap[p.1]? =some p.2:=(h.mem p (.head _)).2
theorem G6{n:Nat}{ob:Obj}{j N z:Nat}{wr:Bool}:EvA ((n,ob)::L) N z ⟨.cell ⟨n,j,none⟩,wr,false⟩:=.inl ⟨_,_,rfl,.inl ⟨_,.head _,rfl⟩⟩
theorem J6(s:ByteArray)(hs:s.size<=4)(n cap:Nat)(c:Array Value)(fz:Nat×Nat)(hc:∀j,j<s.size->c[j]? =some (.int .u8 (s.data.toList.getD j 0).toNat))(nx:Wc Tryz.prog S m St K0 w0 ((n,.cells c 5 fz)::L) (G (cf.finish (.int .u32 (big s.data.toList 0 s.size:Nat))) cs)):
  ∀r k,k+r=s.size->∀u5 Y R ab ag af ah ac aa ae:Value,Wc Tryz.prog S m St K0 w0 ((n,.cells c 5 fz)::L) (G ((base 194).at { tmps:=#[.string s,undef,.int .u32 0,.int .u32 (big s.data.toList 0 k:Nat),undef,u5,.string s,.slice (some ⟨n,0,none⟩) s.size cap,.int .i64 s.size,.int .i64 k,Y,R,ab,ag,af,ah,ac,aa,ae,undef],defers:=[] } [.code UY,.inLoop UY,.inBlock 0,.code ZR]) (cf::cs)):=by
 intro r
 induction r with
 |zero=>
  intro k hk u5 Y R ab ag af ah ac aa ae;obtain rfl:k=s.size:=by omega
  simp only[UY,Tryz.f194];refine Wc.go 30 λK w z=>?_;u_c stepG_seq At.en z;u_reg At.en z;u_op At.en z;u_c stepG_region_end At.en z;u_c stepG_seq At.en z;u_cond false At.en z;u_exit At.en z;simp only[ZR,Tryz.f194];u_c stepG_seq At.en z;u_reg At.en z
  iterate 2 u_op At.en z
  u_c stepG_region_end At.en z;refine Goes.stop λ_ E=>Wc.use ?_ (z.en E);exact .ret λtodo=>.zC rfl rfl rfl Tryz.func194 rfl rfl nx
 |succ r ih=>
  intro k hk u5 Y R ab ag af ah ac aa ae;have aj:(k:Int)<s.size:=by omega
  have ak:big s.data.toList 0 k<16777216:=by
   have:=Fr.oQ s.data.toList 0 k;have:=iG (n:=256) (by decide) (show k<=3 by omega);omega
  have hc:=hc k (by omega);have J:big s.data.toList 0 (k+1)=256*big s.data.toList 0 k+(s.data.toList.getD k 0).toNat:=by rw[big,fC]
  generalize hb:(s.data.toList.getD k 0).toNat=y at hc J;have ai:y<256:=by rw[<-hb];exact UInt8.toNat_lt _
  have ih:=ih (k+1) (by omega);rw[J]at ih;generalize big s.data.toList 0 k=V at *;have IH:Hid _:=ih;have NX:Hid _:=nx;clear ih nx hb J;simp only[UY,Tryz.f194];refine Wc.go 30 λK w z=>?_;u_c stepG_seq At.en z;u_reg At.en z;u_op At.en z;u_c stepG_region_end At.en z;u_c stepG_seq At.en z;u_cond true At.en z;u_c stepG_skip At.en z;u_c stepG_seq At.en z;u_c stepG_block At.en z;u_c stepG_seq At.en z;u_reg At.en z;u_op At.en z;refine Goes.stop λ_ E=>Wc.use ?_ (z.en E);clear z;refine Wc.rd (.int .u8 y) rfl rfl (base_kind _) (λw hl=>?_) ?_
  ·have h1:=nR hl;have I:w.cell? ⟨n,k,none⟩=some (.int .u8 y):=by simp[World.cell?,h1,hc]
   refine⟨by simp[go_sem,I],λe he=>?_⟩;simp[go_sem,I]at he;subst he;exact G6
  walk_nrm;refine Wc.go 30 λK w z=>?_;u_op At.en z;u_c stepG_region_end At.en z;u_reg At.en z
  iterate 6 u_op At.en z
  u_c stepG_region_end At.en z;u_c stepG_inBlock At.en z;u_reg At.en z
  iterate 2 u_op At.en z
  u_c stepG_region_end At.en z;u_c stepG_inLoop At.en z;refine Goes.stop λ_ E=>Wc.use ?_ (z.en E);clear z
  have e:bits .or .u32 ((V:Int)*256) (y:Int)=((256*V+y:Nat):Int):=by
   rw[show(V:Int)*256=((V*256:Nat):Int) from by omega,Fr.sO _ _ (by omega) (by omega),Fr.xg V y ai]
  rw[show(V:Int)*256%4294967296=V*256 by omega,show(y:Int)%4294967296=y by omega,e,show IntKind.i64.wrap ((k:Int)+1)=((k+1:Nat):Int) by rw[IntKind.wrap_i64];omega];exact IH.out _ _ _ _ _ _ _ _ _ _
end
theorem vN(s:ByteArray)(hs:s.size<=4):Ret 194 #[.string s] (.int .u32 (big s.data.toList 0 s.size:Nat)):=by
 intro S m St K0 w0 L b a k cs ops i rest o xs aa Y hw hk I hx nx;refine Wc.call Y hw hk I Tryz.func194 rfl (show Tryz.f194.body=some (.seq _ (.seq _ (.seq (.seq _ (.block 0 (.loop UY))) ZR))) from rfl) ?_;rw[hx];simp only[Tryz.ntmps194,dL,aN,bM,Nat.reduceAdd,Nat.reduceSub,cO,bZ,dN,cZ,dM,dH];have NX:Hid _:=nx;clear nx;refine Wc.go 30 λK w z=>?_;u_c stepG_seq At.en z;u_reg At.en z;u_op At.en z;u_c stepG_region_end At.en z;u_c stepG_seq At.en z;u_reg At.en z;u_op At.en z;u_c stepG_region_end At.en z
 iterate 2 u_c stepG_seq At.en z
 u_reg At.en z;u_op At.en z;refine Goes.stop λ_ E=>Wc.use ?_ (z.en E);clear z;refine Wc.op rfl rfl (base_kind _) λw hl=>⟨.slice (some ⟨w.heap.size,0,none⟩) s.size (grownCap w s.size 0 5),Lib.bytesWorld w 5 s,(w.heap.size,.cells (Lib.bytesCells w 5 s) 5 ((Lib.bytesCells w 5 s).size,(Lib.bytesCells w 5 s).size+1))::L,.inl ?run,?turn,?_⟩
 case run=>
  have:=Lib.run_convert_string_bytes (P:=Tryz.prog) w 9 155 5 s Tryz.underlying9 Tryz.underlying155 Tryz.underlying5;simp[go_sem,this]
 case turn=>
  refine .lay hl (Lib.bytesWorld_size _ _ _) (Lib.bytesWorld_at_old _ _ _) (Lib.bytesWorld_at_new _ _ _) rfl rfl rfl λe R=>?_;have R:=mem_listed R
  have J:∀c:Array Value,(w.alloc (.cells c 5)).shape? w.heap.size=some (5,c.size):=by
   intro c;simp[World.shape?,World.alloc,-World.alloc_eq]
  simp[go_sem,convert,run_underlying (P:=Tryz.prog) Tryz.underlying9,run_underlying (P:=Tryz.prog) Tryz.underlying155,run_underlying (P:=Tryz.prog) Tryz.underlying5,Conv.stringToBytes,newRow,markStringish,Question.forced,J]at R
 have hc:∀j,j<s.size->(Lib.bytesCells w 5 s)[j]? =some (.int .u8 (s.data.toList.getD j 0).toNat):=λj hj=>by simp[Lib.bytesCells,Array.getElem?_append,List.getD,hj]
 generalize Lib.bytesCells w 5 s=c at hc;generalize w.heap.size=n;generalize grownCap w s.size 0 5=cap;clear hl;walk_nrm;refine Wc.go 30 λK w z=>?_
 iterate 2 u_op At.en z
 u_c stepG_region_end At.en z;u_c stepG_block At.en z;u_c stepG_loop At.en z;refine Goes.stop λ_ E=>Wc.use ?_ (z.en E);refine J6 s hs n cap c _ hc ?_ s.size 0 (by omega) _ _ _ _ _ _ _ _ _ _;refine Wc.drop (iP _ _) ?_;rw[fF,Y];exact NX.out
end
section
variable {e:Event}{P:Program}{w:World}
theorem Tc{L:List (Nat×Obj)}{N E:Nat}{ad:Addr}(hp:pl e)(z:e.loc=.cell ad)(I:∃p∈L,p.1=ad.block):EvA L N E e:=by
 obtain⟨J,wr,R⟩:=e;cases z;cases hp ad rfl;exact .inl ⟨ad,wr,rfl,.inl I⟩
theorem wV{P:Program}{w:World}:∀(l:List UInt8)(a:Addr)(E:ByteArray)(es:Array Event),(∀j x,l[j]? =some x->w.cell? (a.add j)=some (.int .u8 x.toNat))->∀e∈(loadBytes a E l.length).events P w es,e∈es\/∃a',e=⟨.cell a',false,false⟩/\a'.block=a.block
 |[],_,_,_,_=>λe z=>.inl (by simpa[loadBytes]using z)
 |x::l,a,E,es,h=>λe z=>by
  have J:w.cell? a=some (.int .u8 x.toNat):=by
   have:=h 0 x rfl;simpa[Addr.add]using this
  simp only[aN,loadBytes,Sem.events_bind]at z;simp[J]at z;rcases wV l (a.add 1) _ _ (λj y I=>by have:=h (j+1) y (by simpa using I);rw[show(a.add 1).add j=a.add (j+1) from by unfold Addr.add;split<;>split<;>simp_all<;>omega];exact this) e z with k|⟨a',rfl,k⟩
  ·rcases Array.mem_push.1 k with k|rfl
   ·exact .inl k
   ·exact .inr ⟨a,rfl,rfl⟩
  ·exact .inr ⟨a',rfl,k.trans (addBlock a 1)⟩
theorem aa4(pt it ty e:TypeId)(hp:P.underlying pt=some (.pointer e))(hc:P.cellsOf e=1)(g cells:Nat)(Y:w.shape? g=some (e,cells))(l:List UInt8)(h0:l≠[])(hn:l.length<=cells)(ab:l.length<=9223372036854775807)
  (z:∀j x,l[j]? =some x->w.cell? ((⟨g,0,none⟩:Addr).add j)=some (.int .u8 x.toNat)):∀ev∈(Builtin.unsafeString_ #[pt,it] ty #[.pointer (some ⟨g,0,none⟩),.int .i64 l.length]).events P w #[],∃a',ev=⟨.cell a',false,false⟩/\a'.block=g:=by
 have hl:l.length≠0:=by simpa using h0
 have aa:=Lib.run_loadBytes (P:=P) w l ⟨g,0,none⟩ .empty z;have E:=Lib.liesAt_bytes (P:=P) hc (cells/P.cellsOf e) l.length (by rw[hc];simpa using hn);have J:¬(9223372036854775807:Int)<(l.length:Int):=by omega
 have I:IntKind.i64.max=9223372036854775807:=rfl;have R:¬(l.length:Int)<0:=by omega
 intro ev he;change ev∈(asInt (.int .i64 l.length) >>= _).events P w #[]at he;simp[asInt,asIntOf,I,J,R,hl,variablesAt,Y,elemOf,run_underlying hp,E,aa]at he;rcases wV l ⟨g,0,none⟩ .empty #[] z ev he with k|k
 ·simp at k
 ·exact k
theorem F9(ty:TypeId)(s:ByteArray)(w:World)(es:Array Event):(Builtin.len_ #[9] ty #[.string s]).events Tryz.prog w es=es:=by
 simp[Builtin.len_,run_underlying Tryz.underlying9]
theorem Lh{α:Type}{s:Sem α}(h:na s)(z:e∈s.events P w #[]):pl e:=aaK h w #[] (by simp) e z
theorem Ya:(Tryz.prog.info? 5).map (λi=>(i.zero,i.size,i.bytes))=some (some (.int .u8 0),1,1):=by kernel_rfl
theorem Q7(s:ByteArray)(hs:s.size<=16777216):Ret 198 #[.string s] (.string s):=by
 intro S m St K0 w0 L b a k cs ops i rest o xs au ho hw hk ak hx nx;refine Wc.call ho hw hk ak Tryz.func198 rfl rfl ?_;rw[hx];simp only[Tryz.ntmps198,dL,aN,bM,Nat.reduceAdd,Nat.reduceSub,cO,bZ,dN,cZ,dM,dH];have NX:Hid _:=nx;have el:=F9;clear nx;by_cases h0:s.size=0
 ·obtain rfl:s=⟨#[]⟩:=ByteArray.ext (Array.eq_empty_of_size_eq_zero h0);refine Wc.go 30 λK w z=>?_;u_c stepG_seq At.en z;u_reg At.en z;u_op At.en z;u_c stepG_region_end At.en z
  iterate 2 u_c stepG_seq At.en z
  u_reg At.en z
  iterate 3 u_op At.en z
  u_c stepG_region_end At.en z;u_cond true At.en z;u_c stepG_seq At.en z;u_reg At.en z;u_op At.en z;u_c stepG_region_end At.en z;refine Goes.stop λ_ E=>Wc.use ?_ (z.en E);refine .ret λtodo=>.zC rfl rfl rfl Tryz.func198 rfl rfl ?_;rw[fF,ho];exact NX.out
 have aq:((s.size:Int) == 0)=false:=by rw[beq_eq_false_iff_ne];omega
 refine Wc.go 30 λK w z=>?_;u_c stepG_seq At.en z;u_reg At.en z;u_op At.en z;u_c stepG_region_end At.en z
 iterate 2 u_c stepG_seq At.en z
 u_reg At.en z
 iterate 3 u_op At.en z
 u_c stepG_region_end At.en z;u_cond false At.en z;u_c stepG_skip At.en z;u_c stepG_seq At.en z;u_reg At.en z
 iterate 2 u_op At.en z
 refine Goes.stop λ_ E=>Wc.use ?_ (z.en E);clear z
 obtain⟨ie,hi,ae,ag,aa⟩:∃i,Tryz.prog.info? 5=some i/\i.zero=some (.int .u8 0)/\i.size=1/\i.bytes=1:=by
  have:=Ya;cases h:Tryz.prog.info? 5 with
  |none=>rw[h]at this;cases this
  |some i=>
   rw[h]at this;simp only[bQ,aC,dA]at this;exact⟨i,rfl,this.1,this.2.1,this.2.2⟩
 obtain⟨M,hM⟩:∃M,M=madeCells (Value.int .u8 0).cells (((s.size:Nat):Int).toNat*ie.size):=⟨_,rfl⟩
 have an:M.size=s.size:=by rw[hM,size_madeCells,ag];simp
 refine Wc.al (.cells M 5) (λn=>.slice (some ⟨n,0,none⟩) s.size s.size) rfl rfl (base_kind _) (λw I=>?_) λn=>?_
 ·have ah:=run_make (P:=Tryz.prog) w 155 5 ie (.int .u8 0) Tryz.underlying155 hi ae .i64 .i64 (s.size:Int) (s.size:Int) (by omega) (by omega) (by rw[aa];omega) (by omega);have am:=events_make (P:=Tryz.prog) w 155 5 ie (.int .u8 0) Tryz.underlying155 hi ae .i64 .i64 (s.size:Int) (s.size:Int) (by omega) (by omega) (by rw[aa];omega) (by omega) (by rw[aa];omega) #[];rw[<-hM]at ah;refine⟨by simp[go_sem,ah],λe J=>?_⟩;simp[go_sem,am]at J
 clear hM;walk_nrm;refine Wc.go 30 λK w z=>?_;u_op At.en z;u_c stepG_region_end At.en z;u_c stepG_seq At.en z;u_reg At.en z
 iterate 2 u_op At.en z
 refine Goes.stop λ_ E=>Wc.use ?_ (z.en E);clear z;obtain⟨Y,hY⟩:∃Y,Y=(M.toList.take 0++Lib.byteCells s.data.toList++M.toList.drop (0+s.size)).toArray:=⟨_,rfl⟩
 have af:Y.toList=Lib.byteCells s.data.toList:=by
  rw[hY,List.toList_toArray,List.take_zero,dM,List.drop_of_length_le (by rw[ji];omega),fU]
 have ar:Y.size=s.size:=by rw[<-ji,af,Lib.byteCells_length,<-aV]
 refine Wc.op rfl rfl (base_kind _) λw I=>⟨goInt s.size,w.setRow n Y,(n,.cells Y 5)::L,.inl ?run,?turn,?_⟩
 case run=>
  have ac:=Lib.run_copy_row_string (P:=Tryz.prog) w 155 9 3 5 n 0 s.size s.size s M 5 Tryz.underlying155 (by rw[hi];simp[ag]) (nR I) jA (by omega);rw[<-hY]at ac;simp[go_sem,ac]
 case turn=>
  refine Turn.set (i:=0) I rfl (by simp) (λx hx=>setRow_other _ _ _ _ hx) (setRow_heap _ _ M _ _ _ (nR I)) rfl rfl rfl λe J=>?_;have J:e∈(Builtin.copy_ #[155,9] 3 #[.slice (some ⟨n,0,none⟩) s.size s.size,.string s]).events Tryz.prog w #[]:=by simpa[go_sem]using mem_listed J
  have hp:=Lh (Zh _ _ _) J;simp[Builtin.copy_,run_underlying Tryz.underlying155,Builtin.lenOf,Builtin.firstCells,sizeOf,typeInfo,hi]at J
  have aj:List.take s.size (List.map (λb:UInt8=>Value.int IntKind.u8 (b.toNat:Int)) s.data.toList)=Lib.byteCells s.data.toList:=by
   rw[dV (by rw[aU,<-aV];exact jA)];rfl
  rw[aj]at J;have ap:(Lib.byteCells s.data.toList).length=s.size:=by rw[Lib.byteCells_length,<-aV]
  rcases events_storeCells_at n 0 5 (Lib.byteCells s.data.toList) 0 M w #[] (nR I) (by omega) (Lib.byteCells_one _) e J with k|⟨ad,k1,k2⟩
  ·simp at k
  ·exact Tc hp k1 ⟨_,.head _,k2.symm⟩
 clear I hY an M;walk_nrm;have ao:0<s.size:=by omega
 refine Wc.go 30 λK w z=>?_;u_c stepG_region_end At.en z;u_c stepG_seq At.en z;u_reg At.en z
 iterate 4 u_op At.en z
 refine Goes.stop λ_ E=>Wc.use ?_ (z.en E);clear z;have R:s.data.toList≠[]:=λe=>h0 (by rw[aV,e];rfl);have ai:∀(w:World),w.heap[n]? =some (.cells Y 5 (0,0))->∀j x,s.data.toList[j]? =some x->w.cell? ((⟨n,0,none⟩:Addr).add j)=some (.int .u8 x.toNat):=λw hg j x hx=>Lib.cells_of_row hg Y.size j _ (by rw[dV (by rw[ji];exact jA),af];simp[Lib.byteCells,hx]);refine Wc.op rfl rfl (base_kind _) λw I=>⟨.string s,w.freeze ⟨n,0,none⟩ s.size,(n,.cells Y 5 (0,s.size))::L,.inl ?run,?turn,?_⟩
 case run=>
  have ab:=Lib.run_unsafeString_row (P:=Tryz.prog) w 239 3 9 5 Tryz.underlying239 (by kernel_rfl) n Y.size (by unfold World.shape?;rw[nR I]) s.data.toList R (by rw[<-aV];omega) (by rw[<-aV];omega) (ai w (nR I));rw[<-aV]at ab;simp[go_sem,ab]
 case turn=>
  have hf:(w.freeze ⟨n,0,none⟩ s.size).heap=w.heap.modify n λo=>match o with|.cells c e (lo,hi)=>.cells c e (if lo == hi then(0,0+s.size)else(min lo 0,max hi (0+s.size)))|o=>o:=by simp only[World.freeze,if_neg h0];rfl
  refine Turn.set (i:=0) I rfl (by rw[hf];simp) (λx hx=>by rw[hf,bI,if_neg (Ne.symm hx)]) (by rw[hf,bI,if_pos rfl,nR I];simp) (by simp[World.freeze,h0]) (by simp[World.freeze,h0]) (by simp[World.freeze,h0]) λe J=>?_;have J:e∈(Builtin.unsafeString_ #[239,3] 9 #[.pointer (some ⟨n,0,none⟩),.int .i64 s.size]).events Tryz.prog w #[]:=by simpa[go_sem]using mem_listed J
  rw[aV]at J;obtain⟨a',rfl,k⟩:=aa4 239 3 9 5 Tryz.underlying239 (by kernel_rfl) n Y.size (by unfold World.shape?;rw[nR I]) s.data.toList R (by rw[<-aV];omega) (by rw[<-aV];omega) (ai w (nR I)) e J;exact .inl ⟨a',false,rfl,.inl ⟨_,.head _,k.symm⟩⟩
 clear I;walk_nrm;refine Wc.go 30 λK w z=>?_;u_op At.en z;u_c stepG_region_end At.en z;refine Goes.stop λ_ E=>Wc.use ?_ (z.en E);refine .ret λtodo=>.zC rfl rfl rfl Tryz.func198 rfl rfl (Wc.drop (iP _ _) ?_);rw[fF,ho];exact NX.out
theorem Pz(s:ByteArray)(hs:s.size<=16777216):Ret 151 #[.string s] (.string s):=by
 intro S m St K0 w0 L b a k cs ops i rest o xs aa J hw hk I hx R;refine Wc.call J hw hk I Tryz.func151 rfl rfl ?_;rw[hx];simp only[Tryz.ntmps151,dL,aN,bM,Nat.reduceAdd,Nat.reduceSub,cO,bZ,dN,cZ,dM,dH];have Y:Hid _:=R;clear R;refine Wc.go 30 λK w z=>?_;u_c stepG_seq At.en z;u_reg At.en z;u_op At.en z;u_c stepG_region_end At.en z;u_c stepG_seq At.en z;u_reg At.en z;u_op At.en z;refine Goes.stop λ_ E=>Wc.use ?_ (z.en E);clear z;refine Q7 s hs _ _ _ _ _ _ _ _ _ _ _ _ _ _ _ _ rfl rfl (base_kind _) rfl (by simp[Act.eval]) ?_;walk_nrm;refine Wc.go 30 λK w z=>?_;u_op At.en z;u_c stepG_region_end At.en z;refine Goes.stop λ_ E=>Wc.use ?_ (z.en E);refine .ret λtodo=>.zC rfl rfl rfl Tryz.func151 rfl rfl ?_;rw[fF,J];exact Y.out
end
end Cr
namespace Cr
open Go Go.Conc Go.ConcN Go.RowKit Go.Conc.Lib Go.ConcR.Gen Go.ConcN.Gen
open Go.ConcR (KK WgAt stA smA Payload DC0)
open Fr (big one fv)
set_option linter.unusedSimpArgs false
variable {n:Nat}{t:TypeId}{w:World}
theorem wn{o:Oper}{y:Nat->Option Bool}(h:o.guard=none):Region.wanted o y=true:=by simp[Region.wanted,h]
theorem YE(u:World)(s:ByteArray)(i:Int)(j:Nat)(z:j<s.size)(e:i=(j:Int)):(Instr.index 9 (.string s) (.int .i64 i)).run Tryz.prog u=.ok (.int .u8 (s[j].toNat:Int)) u:=by
 subst e;rw[run_index_string u _ s .i64 _ Tryz.underlying9,dif_pos (by omega)];simp
theorem xM(l:Int)(n:Nat)(c:BoundsCode)(w:World)(es:Array Event)(E:0<=l)(z:l<=n):(Instr.sliceBound (.int .i64 l) n c).events Tryz.prog w es=es:=by
 have h2:¬l<0:=by omega
 have h3:¬(n:Int)<l:=by omega
 simp[Instr.sliceBound,asIntOf,asInt,E,z,h2,h3]
theorem BF(s:ByteArray)(l h:Int)(w:World)(es:Array Event)(z:0<=l)(E:l<=h)(h2:h<=s.size):(Instr.slice 9 (.string s) (some (.int .i64 l)) (some (.int .i64 h)) none).events Tryz.prog w es=es:=by
 have k:=λc=>xM l h.toNat c w es z (by omega);simp[Instr.slice,run_underlying Tryz.underlying9,Instr.sliceBounds,run_sliceBound,xM,sliced,E,h2,(by omega:0<=h),z,k]
theorem MQ(s:ByteArray)(h:Int)(w:World)(es:Array Event)(z:0<=h)(h2:h<=s.size):(Instr.slice 9 (.string s) none (some (.int .i64 h)) none).events Tryz.prog w es=es:=by
 simp[Instr.slice,run_underlying Tryz.underlying9,Instr.sliceBounds,run_sliceBound,xM,sliced,h2,z]
theorem Bq(s:ByteArray)(l:Int)(w:World)(es:Array Event)(E:0<=l)(z:l<=s.size):(Instr.slice 9 (.string s) (some (.int .i64 l)) none none).events Tryz.prog w es=es:=by
 simp[Instr.slice,run_underlying Tryz.underlying9,Instr.sliceBounds,run_sliceBound,xM,sliced,z,E]
theorem og(s:ByteArray)(lo z:Option Value)(w:World)(es:Array Event)(h:(Instr.slice 9 (.string s) lo z none).events Tryz.prog w es=es):(Instr.sliceAt 9 (.string s) lo z none).events Tryz.prog w es=es:=by
 simp[Instr.sliceAt,h]
theorem Dh(s:ByteArray)(i:Int)(w:World)(es:Array Event)(E:0<=i)(z:i<s.size):(Instr.index 9 (.string s) (.int .i64 i)).events Tryz.prog w es=es:=by
 simp[Instr.index,run_underlying Tryz.underlying9,go_sem,E,z]
abbrev Gt(ch z:Int)(d:ByteArray)(l:Bool):Array Value:=#[.int .u32 ch,.int .u16 z,.string d,.bool l]
abbrev Ef:Array Value:=Gt 0 0 ⟨#[]⟩ false
noncomputable def EW:Array Oper:=match Tryz.f142.body with
 |some (.seq _ (.seq _ (.seq _ (.seq _ (.seq (.region _ ops _) _)))))=>ops
 |_=>#[]
theorem Zu:fills 47 EW=true:=by kernel_rfl
section
variable {S:Who}{m:Nat}{St:jU->Goroutine->World->Prop}{K0:jU}{w0:World}{L:List (Nat×Obj)}{cs:List Frame}
theorem uG{j:Nat}{c:Array Value}{z:Nat×Nat}(h:Lies ((n,.cells c t z)::L) w0.heap.size w):w.cell? ⟨n,j,none⟩=c[j]?:=by
 have:=nR h;simp[World.cell?,this]
theorem acI{a b c d x y z u:Value}(h:w.heap[n]? =some (.cells #[a,b,c,d] t)):(((w.setCell ⟨n,0,none⟩ x).setCell ⟨n,1,none⟩ y).setCell ⟨n,2,none⟩ z).setCell ⟨n,3,none⟩ u=w.putObj n (.cells #[x,y,z,u] t):=by
 simp only[World.setCell,World.putObj]
 congr 1
 apply fP;intro j;by_cases e:n=j
 ·subst e;have E:=(jC h)
  rw[bI,if_pos rfl,bI,if_pos rfl,bI,if_pos rfl,bI,if_pos rfl,h,aO,if_pos rfl,if_pos E];rfl
 ·simp[bI,e]
theorem pY{c0 n0 z E:Int}{d0 Y:ByteArray}{l0 l1:Bool}{p q:Operand}{a:Act}{o:Oper}(hp:a.eval p=.pointer (some ⟨n,0,none⟩))(hq:a.eval q=.agg (Gt z E Y l1))(R:o.op=.store 81 p q)(w:World)(hl:Lies ((n,.cells (Gt c0 n0 d0 l0) 81)::L) w0.heap.size w):
  (execOp a.eval o).run Tryz.prog w=.ok .skip (w.putObj n (.cells (Gt z E Y l1) 81))/\∀e∈(execOp a.eval o).events Tryz.prog w #[],EvA ((n,.cells (Gt c0 n0 d0 l0) 81)::L) w.heap.size w.heap.size e:=by
 have h:=nR hl;have b1:(w.setCell ⟨n,0,none⟩ (.int .u32 z)).heap[n]? =some (.cells #[.int .u32 z,.int .u16 n0,.string d0,.bool l0] 81):=by simp[World.setCell,bI,h]
 have b2:((w.setCell ⟨n,0,none⟩ (.int .u32 z)).setCell ⟨n,1,none⟩ (.int .u16 E)).heap[n]? =some (.cells #[.int .u32 z,.int .u16 E,.string d0,.bool l0] 81):=by simp[World.setCell,bI,h]
 have b3:(((w.setCell ⟨n,0,none⟩ (.int .u32 z)).setCell ⟨n,1,none⟩ (.int .u16 E)).setCell ⟨n,2,none⟩ (.string Y)).heap[n]? =some (.cells #[.int .u32 z,.int .u16 E,.string Y,.bool l0] 81):=by simp[World.setCell,bI,h]
 have I:=aA h 0;have J:=aA b1 1;have aa:=aA b2 2;have ab:=aA b3 3;have z0:=aI h 0;have z1:=aI b1 1;have z2:=aI b2 2;have z3:=aI b3 3;constructor
 ·unfold execOp;simp only[R,hp,hq];rw[<-acI h];simp[go_sem,stored,I,z0,J,z1,aa,z2,ab,z3]
 ·unfold execOp;simp only[R,hp,hq];intro e he;simp[go_sem,stored,storedEv,I,z0,J,z1,aa,z2,ab,z3,events_store _ _ _ _ _ _ (show(Value.string Y).oneCell'=true from rfl),events_store _ _ _ _ _ _ (show(Value.bool l1).oneCell'=true from rfl)]at he;rcases he with rfl|rfl|rfl|rfl<;>exact G6
theorem qm{c I:Int}{d:ByteArray}{l:Bool}{E J:Value}{a:Act}{todo:List Item}{cf:Frame}(hd:a.defers=[])(t2:a.tmps[2]? =some (.pointer (some ⟨n,0,none⟩)))(t3:a.tmps[3]? =some E)(t4:a.tmps[4]? =some J)
  (nx:Wc Tryz.prog S m St K0 w0 L (G (cf.finish (.tuple #[.agg (Gt c I d l),E,J])) cs)):Wc Tryz.prog S m St K0 w0 ((n,.cells (Gt c I d l) 81)::L) (G { (base 142).at a todo with mode:=.returning } (cf::cs)):=by
 refine Wc.leave (.tuple #[.agg (Gt c I d l),E,J]) rfl hd rfl Tryz.func142 (λw z=>?_) (Wc.drop (iP _ _) nx);have c0:=uG (j:=0) z;have R:=uG (j:=1) z;have Y:=uG (j:=2) z;have c3:=uG (j:=3) z;refine⟨by simp[results,Tryz.results142,go_sem,Frame.at,t2,t3,t4,c0,R,Y,c3],λe he=>?_⟩;simp[results,Tryz.results142,go_sem,Frame.at,t2,t3,t4,c0,R,Y,c3]at he;rcases he with rfl|rfl|rfl|rfl<;>exact G6
end
def zQ(s D:ByteArray)(E z c N:Nat)(lb:Bool)(i:Nat):Value:=(#[.string s,.string (s.extract 0 4),.int .u32 E,.string s,.string (s.extract 4 6),.int .u32 z,.int .u16 z,.string s,.int .i64 (8+(N:Int)+1),.int .i64 (8+(N:Int)),.string D,.string D,.string s,.int .i64 (8+(N:Int)+1),.int .i64 (8+(N:Int)),.int .u8 c,.bool lb,.agg (Gt E z D lb),.int .i64 (8+(N:Int)+1),undef,.int .i64 (8+(N:Int)+1),.bool true]:Array Value).getD i undef
def jl6(n E z:Nat)(D:ByteArray)(lb:Bool)(L:List (Nat×Obj))(l:Array Bool):List (Nat×Obj):=(n,if l.getD 19 false then .cells (Gt E z D lb) 81 else .cells Ef 81)::L
section
variable {S:Who}{m:Nat}{St:jU->Goroutine->World->Prop}{K0:jU}{w0:World}{L:List (Nat×Obj)}{cs:List Frame}{cf:Frame}
theorem Zd{s D:ByteArray}{C4 C2 c N:Nat}{lb:Bool}(hs:s.size<=16777216)(ag:(8:Int)<=(s.size:Int))(av:8+N<s.size)(l4:C2<65536)(aq:∀u:World,(Instr.index 9 (.string s) (.int .i64 (8+(N:Int)))).run Tryz.prog u=.ok (.int .u8 (c:Int)) u)(au:((c:Int) == 1)=lb)(hD:s.extract 8 (8+N)=D)(ap:D.size<=16777216)
  (n4:Ret 194 #[.string (s.extract 4 6)] (.int .u32 C2)) (n0:Ret 194 #[.string (s.extract 0 4)] (.int .u32 C4)) (nx:Wc Tryz.prog S m St K0 w0 L (G (cf.finish (.tuple #[.agg (Gt C4 C2 D lb),.int .i64 (8+(N:Int)+1),.bool true])) cs))
  (a:Act) (ha:a.tmps.size=47/\a.defers=[]/\a.tmps[2]? =some (.pointer (some ⟨n,0,none⟩))/\a.tmps[0]? =some (.string s)/\a.tmps[5]? =some (.int .i64 (8+(N:Int)+1))):
  Wc Tryz.prog S m St K0 w0 ((n,.cells Ef 81)::L) (G ((base 142).at a [.code (.seq (.region 6 EW true) .ret)]) (cf::cs)):=by
 refine Wc.seq (Wc.fill (V:=zQ s D C4 C2 c N lb) (L':=(n,.cells (Gt C4 C2 D lb) 81)::L) (by rw[ha.1];exact Zu) (λl a' hl hF=>?_) (jl6 n C4 C2 D lb L) rfl (λl hl=>by rw[jl6,hl 19 (by decide)];rfl) λl a' i o rest R hi ao hF Y=>?_)
 ·have e:∀{i t},i<22->nK EW i=some t->a'.tmps[t]? =some (zQ s D C4 C2 c N lb i):=λhi hd=>hF.got _ _ hd (hl _ hi);exact .ret λtodo=>qm (hF.defers.trans ha.2.1) ((hF.slot (by kernel_rfl)).trans ha.2.2.1) (e (i:=20) (by decide) rfl) (e (i:=21) (by decide) rfl) nx
 ·have keep:i≠19->jl6 n C4 C2 D lb L (l.setIfInBounds i true)=jl6 n C4 C2 D lb L l:=λe=>by simp only[jl6,getD_set_ne false e]
  have go:i≠19->o.guard=none->(∀w,(execOp a'.eval o).run Tryz.prog w=.ok (.value (zQ s D C4 C2 c N lb i)) w)->(∀w,∀e∈(execOp a'.eval o).events Tryz.prog w #[],False)->Wc Tryz.prog S m St K0 w0 (jl6 n C4 C2 D lb L l) (G ((base 142).at a' (.inRegion EW (i::rest)::[.code .ret])) (cf::cs)):=λe J hr E=>
   Wc.rd _ R (wn J) (base_kind _) (λw _=>⟨hr w,λe h=>(E w e h).elim⟩) (by rw[keep e]at Y;exact Y)
  have ak:=(jC R)
  have I:∀j t,waits EW i j=true->nK EW j=some t->a'.eval (.tmp t)=zQ s D C4 C2 c N lb j:=λj t hw hd=>hF.ev hd (ao j hw);have e0:=hF.old (s:=0) (by kernel_rfl) ha.2.2.2.1;have e5:=hF.old (s:=5) (by kernel_rfl) ha.2.2.2.2;have ah:(4:Int)<=(s.size:Int):=by omega
  have ai:(6:Int)<=(s.size:Int):=by omega
  have hN:8+(N:Int)<=s.size:=by omega
  have af:IntKind.u16.wrap (C2:Int)=C2:=by rw[IntKind.wrap_u16];omega
  have ac:IntKind.i64.wrap (8+(N:Int))=8+(N:Int):=by rw[IntKind.wrap_i64];omega
  have ab:IntKind.i64.wrap (8+(N:Int)+1-1)=8+(N:Int):=by rw[IntKind.wrap_i64];omega
  have aa:8+(N:Int)+1-1=8+(N:Int):=by omega
  have am:=λw es=>og s _ _ w es (MQ s 4 w es (by omega) ah);have ar:=λw es=>og s _ _ w es (BF s 4 6 w es (by omega) (by omega) ai);have aj:=λw es=>og s _ _ w es (BF s 8 (8+(N:Int)) w es (by omega) (by omega) hN);have an:=λw es=>Dh s (8+(N:Int)) w es (by omega) (by omega);have sl:∀u:World,(Instr.slice 9 (.string s) (some (.int .i64 8)) (some (.int .i64 (8+(N:Int)))) none).run Tryz.prog u=.ok (.string D) u:=λu=>by rw[run_slice_string u _ s .i64 .i64 _ _ Tryz.underlying9 (by omega) (by omega) hN,show s.extract (8:Int).toNat (8+(N:Int)).toNat=D by rw[<-hD];congr 1]
  have bd:∀w:World,(Instr.build 81 #[(0,.int .u32 C4),(1,.int .u16 C2),(2,.string D),(3,.bool lb)]).run Tryz.prog w=.ok (.agg (Gt C4 C2 D lb)) w:=λw=>run_build w _ _ _ (by kernel_rfl)
  match i,ak with
  |0,_=>
   obtain⟨z,J⟩:=kZ (.move (.tmp 0),none) R rfl;refine go (by decide) J (λw=>?_) λw e E=>?_
   ·unfold execOp;simp only[z,e0];rfl
   ·unfold execOp at E;simp only[z,e0]at E;simp[go_sem]at E
  |1,_=>
   obtain⟨z,J⟩:=kZ (.slice 9 (.tmp 28) none (some (.const (.int .i64 4))) none,none) R rfl;refine go (by decide) J (λw=>?_) λw e E=>?_
   ·unfold execOp;simp only[z,je,bQ,I 0 28 rfl rfl];simp[zQ,go_sem,ag,ah]
   ·unfold execOp at E;simp only[z,je,bQ,I 0 28 rfl rfl]at E;simp[zQ,go_sem,am]at E
  |2,_=>
   obtain⟨z,J⟩:=kZ (.call { callee:=.value (.func 194),args:=#[.tmp 29],argTypes:=#[9] },none) R rfl;have hn:=Y;rw[keep (by decide)]at hn;exact n0 _ _ _ _ _ _ _ _ _ _ _ _ _ _ _ _ R (wn J) (base_kind _) z (by simp[I 1 29 rfl rfl,zQ]) hn
  |3,_=>
   obtain⟨z,J⟩:=kZ (.move (.tmp 0),none) R rfl;refine go (by decide) J (λw=>?_) λw e E=>?_
   ·unfold execOp;simp only[z,e0];rfl
   ·unfold execOp at E;simp only[z,e0]at E;simp[go_sem]at E
  |4,_=>
   obtain⟨z,J⟩:=kZ (.slice 9 (.tmp 31) (some (.const (.int .i64 4))) (some (.const (.int .i64 6))) none,none) R rfl;refine go (by decide) J (λw=>?_) λw e E=>?_
   ·unfold execOp;simp only[z,je,bQ,I 3 31 rfl rfl];simp[zQ,go_sem,ag,ai]
   ·unfold execOp at E;simp only[z,je,bQ,I 3 31 rfl rfl]at E;simp[zQ,go_sem,ar]at E
  |5,_=>
   obtain⟨z,J⟩:=kZ (.call { callee:=.value (.func 194),args:=#[.tmp 32],argTypes:=#[9] },none) R rfl;have hn:=Y;rw[keep (by decide)]at hn;exact n4 _ _ _ _ _ _ _ _ _ _ _ _ _ _ _ _ R (wn J) (base_kind _) z (by simp[I 4 32 rfl rfl,zQ]) hn
  |6,_=>
   obtain⟨z,J⟩:=kZ (.convert 22 79 (.tmp 33),none) R rfl;refine go (by decide) J (λw=>?_) λw e E=>?_
   ·unfold execOp;simp only[z,I 5 33 rfl rfl];simp[zQ,go_sem,af]
   ·unfold execOp at E;simp only[z,I 5 33 rfl rfl]at E;simp[zQ,go_sem]at E
  |7,_=>
   obtain⟨z,J⟩:=kZ (.move (.tmp 0),none) R rfl;refine go (by decide) J (λw=>?_) λw e E=>?_
   ·unfold execOp;simp only[z,e0];rfl
   ·unfold execOp at E;simp only[z,e0]at E;simp[go_sem]at E
  |8,_=>
   obtain⟨z,J⟩:=kZ (.move (.tmp 5),none) R rfl;refine go (by decide) J (λw=>?_) λw e E=>?_
   ·unfold execOp;simp only[z,e5];rfl
   ·unfold execOp at E;simp only[z,e5]at E;simp[go_sem]at E
  |9,_=>
   obtain⟨z,J⟩:=kZ (.binOp .sub 3 (.tmp 36) (.const (.int .i64 1)) 3,none) R rfl;refine go (by decide) J (λw=>?_) λw e E=>?_
   ·unfold execOp;simp only[z,I 8 36 rfl rfl];simp[zQ,go_sem,ab,aa,ac]
   ·unfold execOp at E;simp only[z,I 8 36 rfl rfl]at E;simp[zQ,go_sem]at E
  |10,_=>
   obtain⟨z,J⟩:=kZ (.slice 9 (.tmp 35) (some (.const (.int .i64 8))) (some (.tmp 37)) none,none) R rfl;refine go (by decide) J (λw=>?_) λw e E=>?_
   ·unfold execOp;simp only[z,je,bQ,I 7 35 rfl rfl,I 9 37 rfl rfl];simp[zQ,go_sem,sl w]
   ·unfold execOp at E;simp only[z,je,bQ,I 7 35 rfl rfl,I 9 37 rfl rfl]at E;simp[zQ,go_sem,aj]at E
  |11,_=>
   obtain⟨z,J⟩:=kZ (.call { callee:=.value (.func 151),args:=#[.tmp 38],argTypes:=#[9] },none) R rfl;have hn:=Y;rw[keep (by decide)]at hn;exact Pz D ap _ _ _ _ _ _ _ _ _ _ _ _ _ _ _ _ R (wn J) (base_kind _) z (by simp[I 10 38 rfl rfl,zQ]) hn
  |12,_=>
   obtain⟨z,J⟩:=kZ (.move (.tmp 0),none) R rfl;refine go (by decide) J (λw=>?_) λw e E=>?_
   ·unfold execOp;simp only[z,e0];rfl
   ·unfold execOp at E;simp only[z,e0]at E;simp[go_sem]at E
  |13,_=>
   obtain⟨z,J⟩:=kZ (.move (.tmp 5),none) R rfl;refine go (by decide) J (λw=>?_) λw e E=>?_
   ·unfold execOp;simp only[z,e5];rfl
   ·unfold execOp at E;simp only[z,e5]at E;simp[go_sem]at E
  |14,_=>
   obtain⟨z,J⟩:=kZ (.binOp .sub 3 (.tmp 41) (.const (.int .i64 1)) 3,none) R rfl;refine go (by decide) J (λw=>?_) λw e E=>?_
   ·unfold execOp;simp only[z,I 13 41 rfl rfl];simp[zQ,go_sem,ab,aa,ac]
   ·unfold execOp at E;simp only[z,I 13 41 rfl rfl]at E;simp[zQ,go_sem]at E
  |15,_=>
   obtain⟨z,J⟩:=kZ (.index 9 (.tmp 40) (.tmp 42),none) R rfl;refine go (by decide) J (λw=>?_) λw e E=>?_
   ·unfold execOp;simp only[z,I 12 40 rfl rfl,I 14 42 rfl rfl];simp[zQ,go_sem,aq]
   ·unfold execOp at E;simp only[z,I 12 40 rfl rfl,I 14 42 rfl rfl]at E;simp[zQ,go_sem,an]at E
  |16,_=>
   obtain⟨z,J⟩:=kZ (.binOp .eql 5 (.tmp 43) (.const (.int .u8 1)) 5,none) R rfl;refine go (by decide) J (λw=>?_) λw e E=>?_
   ·unfold execOp;simp only[z,I 15 43 rfl rfl];simp[zQ,go_sem,au]
   ·unfold execOp at E;simp only[z,I 15 43 rfl rfl]at E;simp[zQ,go_sem]at E
  |17,_=>
   obtain⟨z,J⟩:=kZ (.build 81 #[(0,.tmp 30),(1,.tmp 34),(2,.tmp 39),(3,.tmp 44)],none) R rfl;refine go (by decide) J (λw=>?_) λw e E=>?_
   ·unfold execOp;simp only[z,fJ,dW,fG,I 2 30 rfl rfl,I 6 34 rfl rfl,I 11 39 rfl rfl,I 16 44 rfl rfl];simp[zQ,go_sem,bd]
   ·unfold execOp at E;simp only[z,fJ,dW,fG,I 2 30 rfl rfl,I 6 34 rfl rfl,I 11 39 rfl rfl,I 16 44 rfl rfl]at E;simp[zQ,go_sem]at E
  |18,_=>
   obtain⟨z,J⟩:=kZ (.move (.tmp 5),none) R rfl;refine go (by decide) J (λw=>?_) λw e E=>?_
   ·unfold execOp;simp only[z,e5];rfl
   ·unfold execOp at E;simp only[z,e5]at E;simp[go_sem]at E
  |19,_=>
   obtain⟨z,J⟩:=kZ (.store 81 (.tmp 2) (.tmp 45),none) R rfl;have ae:=Oq hi;have hn:=Y;simp only[jl6,ae.1,ae.2,if_true,if_false,bJ]at hn⊢;exact Wc.st (j:=0) (.cells (Gt C4 C2 D lb) 81) rfl R (wn J) (base_kind _) (λw hl=>pY (hF.old (s:=2) (by kernel_rfl) ha.2.2.1) (I 17 45 rfl rfl) z w hl) hn
  |20,_=>
   obtain⟨z,J⟩:=kZ (.assign (.tmp 46),none) R rfl;refine go (by decide) J (λw=>?_) λw e E=>?_
   ·unfold execOp;simp only[z,I 18 46 rfl rfl];rfl
   ·unfold execOp at E;simp only[z,I 18 46 rfl rfl]at E;simp[go_sem]at E
  |21,_=>
   obtain⟨z,J⟩:=kZ (.assign (.const (.bool true)),none) R rfl;refine go (by decide) J (λw=>?_) λw e E=>?_
   ·unfold execOp;simp only[z];rfl
   ·unfold execOp at E;simp only[z]at E;simp[go_sem]at E
end
theorem PN(s:ByteArray)(hs:s.size<=16777216):Ret 142 #[.string s] (fv (one s.data.toList 0)):=by
 intro S m St K0 w0 L b a k cs ops i rest o xs a0 ho hw hk ai hx nx;refine Wc.call ho hw hk ai Tryz.func142 rfl rfl ?_;rw[hx];simp only[Tryz.ntmps142,dL,aN,bM,Nat.reduceAdd,Nat.reduceSub,cO,bZ,dN,cZ,dM,dH]
 have nx:Wc Tryz.prog S m St K0 w0 L (G ((b.at a (.inRegion ops (i::rest)::k)).finish (fv (one s.data.toList 0))) cs):=by
  rw[fF,ho];exact nx
 have hl:=aV s;obtain⟨R,hR⟩:∃R,one s.data.toList 0=R:=⟨_,rfl⟩
 rw[hR]at nx;generalize b.at a (.inRegion ops (i::rest)::k)=cf at nx;have NX:Hid _:=nx;have el:=F9;clear nx ho hw hk ai hx;refine Wc.seq (Wc.reg [0,1,2] rfl ?_);refine Wc.al (.cells Ef 81) (λn=>.pointer (some ⟨n,0,none⟩)) rfl rfl (base_kind _) (λw hl=>⟨by simp[go_sem],λe he=>by simp[go_sem]at he⟩) λn=>?_;walk_nrm;by_cases h8:s.size<8
 ·obtain rfl:R=none:=hR.symm.trans (Fr.wY (by omega));have aq:(s.size:Int)<8:=by omega
  clear hl hR;refine Wc.go 30 λK w z=>?_
  iterate 2 u_op At.en z
  u_c stepG_region_end At.en z
  iterate 2 u_c stepG_seq At.en z
  u_reg At.en z
  iterate 3 u_op At.en z
  u_c stepG_region_end At.en z;u_cond true At.en z;u_c stepG_seq At.en z;u_reg At.en z;u_op At.en z;refine Goes.stop λ_ E=>Wc.use ?_ (z.en E);clear z;refine Wc.st (j:=0) (.cells Ef 81) rfl rfl rfl (base_kind _) (λw hl=>pY rfl rfl rfl w hl) ?_;walk_nrm;refine Wc.go 30 λK w z=>?_
  iterate 2 u_op At.en z
  u_c stepG_region_end At.en z;refine Goes.stop λ_ E=>Wc.use ?_ (z.en E);exact .ret λtodo=>qm rfl rfl rfl rfl NX.out
 have aq:¬(s.size:Int)<8:=by omega
 have ac:(8:Int)<=(s.size:Int):=by omega
 have e6:big (s.extract 6 8).data.toList 0 (s.extract 6 8).size=big s.data.toList 6 2:=by
  rw[Fr.ext_list,show(s.extract 6 8).size=2 from by simp[eG];omega];exact Fr.uF s.data.toList 6 2
 have e4:big (s.extract 4 6).data.toList 0 (s.extract 4 6).size=big s.data.toList 4 2:=by
  rw[Fr.ext_list,show(s.extract 4 6).size=2 from by simp[eG];omega];exact Fr.uF s.data.toList 4 2
 have e0:big (s.extract 0 4).data.toList 0 (s.extract 0 4).size=big s.data.toList 0 4:=by
  rw[Fr.ext_list,show(s.extract 0 4).size=4 from by simp[eG];omega];exact Fr.uF s.data.toList 0 4
 have n6:=vN (s.extract 6 8) (by simp[eG];omega);have n4:=vN (s.extract 4 6) (by simp[eG];omega);have n0:=vN (s.extract 0 4) (by simp[eG];omega);rw[e6]at n6;rw[e4]at n4;rw[e0]at n0;clear e6 e4 e0;have l6:=Fr.oQ s.data.toList 6 2;have l0:=Fr.oQ s.data.toList 0 4;have l4:=Fr.oQ s.data.toList 4 2;simp only[Nat.reducePow]at l6 l0 l4;have I:s.size≠8->one s.data.toList 0=_:=λh=>Fr.OG (s:=s.data.toList) (p:=0) (by omega);simp only[fC]at I;generalize hN:big s.data.toList 6 2=N at *;generalize au:big s.data.toList 0 4=C4 at *;generalize am:big s.data.toList 4 2=C2 at *;have N6:Hid _:=n6;have N4:Hid _:=n4;have N0:Hid _:=n0;have J:Hid _:=I;have Hl:Hid _:=hl;have HR:Hid _:=hR;clear n6 n4 n0 I hl hN au am hR;refine Wc.go 30 λK w z=>?_
 iterate 2 u_op At.en z
 u_c stepG_region_end At.en z
 iterate 2 u_c stepG_seq At.en z
 u_reg At.en z
 iterate 3 u_op At.en z
 u_c stepG_region_end At.en z;u_cond false At.en z;u_c stepG_skip At.en z;u_c stepG_seq At.en z;u_reg At.en z;u_op At.en z;have ev:=λw es=>og s _ _ w es (BF s 6 8 w es (by omega) (by omega) ac);u_op At.en z;refine Goes.stop λ_ E=>Wc.use ?_ (z.en E);clear z ev;refine N6.out _ _ _ _ _ _ _ _ _ _ _ _ _ _ _ _ rfl rfl (base_kind _) rfl (by simp[Act.eval]) ?_;walk_nrm;have az:IntKind.i64.wrap (N:Int)=N:=by rw[IntKind.wrap_i64];omega
 have aw:IntKind.i64.wrap (8+(N:Int))=8+(N:Int):=by rw[IntKind.wrap_i64];omega
 have ay:IntKind.i64.wrap (8+(N:Int)+1)=8+(N:Int)+1:=by rw[IntKind.wrap_i64];omega
 by_cases hn:s.size<9+N
 ·have an:(s.size:Int)<8+(N:Int)+1:=by omega
  obtain rfl:R=none:=HR.out.symm.trans (by
   by_cases h:s.size=8
   ·exact Fr.wY (by rw[<-Hl.out];omega)
   ·rw[J.out h,if_pos (by rw[<-Hl.out];exact hn)])
  refine Wc.go 40 λK w z=>?_
  iterate 4 u_op At.en z
  u_c stepG_region_end At.en z
  iterate 2 u_c stepG_seq At.en z
  u_reg At.en z
  iterate 5 u_op At.en z
  iterate 5 u_skip At.en z
  u_op At.en z;u_c stepG_region_end At.en z;u_cond true At.en z;u_c stepG_seq At.en z;u_reg At.en z;u_op At.en z;refine Goes.stop λ_ E=>Wc.use ?_ (z.en E);clear z;refine Wc.st (j:=0) (.cells Ef 81) rfl rfl rfl (base_kind _) (λw hl=>pY rfl rfl rfl w hl) ?_;walk_nrm;refine Wc.go 30 λK w z=>?_
  iterate 2 u_op At.en z
  u_c stepG_region_end At.en z;refine Goes.stop λ_ E=>Wc.use ?_ (z.en E);exact .ret λtodo=>qm rfl rfl rfl rfl NX.out
 have an:¬(s.size:Int)<8+(N:Int)+1:=by omega
 have ab:8+N<s.size:=by omega
 have ah:∀u:World,(Instr.index 9 (.string s) (.int .i64 (8+(N:Int)))).run Tryz.prog u=.ok (.int .u8 (s[8+N].toNat:Int)) u:=λu=>YE u s (8+(N:Int)) (8+N) ab (by omega);have a1:=λw es=>Dh s (8+(N:Int)) w es (by omega) (by omega);have ag:=Fr.getD_byte s (8+N) ab;obtain⟨c,hc⟩:∃c:Nat,s[8+N].toNat=c:=⟨_,rfl⟩
 have a2:c<256:=by rw[<-hc];exact UInt8.toNat_lt _
 rw[hc]at ah;have Y:=J.out (by omega);rw[if_neg (by rw[<-Hl.out];omega),ag,hc]at Y;have aa:Hid _:=Y;have av:IntKind.i64.wrap (8+(N:Int)+1-1)=8+(N:Int):=by rw[IntKind.wrap_i64];omega
 have ax:8+(N:Int)+1-1=8+(N:Int):=by omega
 clear ag hc Y J;by_cases aj:1<c
 ·have ae:(1:Int)<(c:Int):=by omega
  obtain rfl:R=none:=HR.out.symm.trans (by rw[aa.out,if_pos aj]);refine Wc.go 40 λK w z=>?_
  iterate 4 u_op At.en z
  u_c stepG_region_end At.en z
  iterate 2 u_c stepG_seq At.en z
  u_reg At.en z
  iterate 11 u_op At.en z
  u_c stepG_region_end At.en z;u_cond true At.en z;u_c stepG_seq At.en z;u_reg At.en z;u_op At.en z;refine Goes.stop λ_ E=>Wc.use ?_ (z.en E);clear z;refine Wc.st (j:=0) (.cells Ef 81) rfl rfl rfl (base_kind _) (λw hl=>pY rfl rfl rfl w hl) ?_;walk_nrm;refine Wc.go 30 λK w z=>?_
  iterate 2 u_op At.en z
  u_c stepG_region_end At.en z;refine Goes.stop λ_ E=>Wc.use ?_ (z.en E);exact .ret λtodo=>qm rfl rfl rfl rfl NX.out
 ·have ae:¬(1:Int)<(c:Int):=by omega
  obtain⟨lb,ak⟩:∃lb:Bool,((c:Int) == 1)=lb:=⟨_,rfl⟩
  have af:(c == 1)=lb:=by
   rw[<-ak];rcases(by omega:c=0\/c=1)with rfl|rfl<;>rfl
  obtain⟨D,hD⟩:∃D:ByteArray,s.extract 8 (8+N)=D:=⟨_,rfl⟩
  have ao:(⟨((s.data.toList.take (8+N)).drop 8).toArray⟩:ByteArray)=D:=by rw[<-hD,<-Fr.ext_list]
  have ap:D.size<=16777216:=by rw[<-hD];simp[eG];omega
  have ar:fv R=.tuple #[.agg (Gt C4 C2 D lb),.int .i64 (8+(N:Int)+1),.bool true]:=by
   rw[<-HR.out,aa.out,if_neg aj,af];simp only[fv,ao,Gt]
   congr 5
   omega
  rw[ar]at NX;refine Wc.go 40 λK w z=>?_
  iterate 4 u_op At.en z
  u_c stepG_region_end At.en z
  iterate 2 u_c stepG_seq At.en z
  u_reg At.en z
  iterate 11 u_op At.en z
  u_c stepG_region_end At.en z;u_cond false At.en z;u_c stepG_skip At.en z;refine Goes.stop λ_ E=>Wc.use ?_ (z.en E);clear z;exact Zd (c:=c) hs ac ab l4 ah ak hD ap N4.out N0.out NX.out _ ⟨rfl,rfl,rfl,rfl,rfl⟩
end Cr
namespace Hm
open Go.RowKit Go.Joins
section
variable {g off cap:Nat}
theorem jT{w:World}{b:Nat}{z:Array Value}{e:TypeId}{E:Nat×Nat}(h:w.heap[b]? =some (.cells z e E))(i:Nat)(v:Value):(w.setCell ⟨b,i,none⟩ v).heap[b]? =some (.cells (z.setIfInBounds i v) e E):=block_setCell h v
theorem qR:∀(vs:List Value)(o:Nat){w:World}{b:Nat}{E:Array Value}{e:TypeId}{R:Nat×Nat},w.heap[b]? =some (.cells E e R)->
  ∃z,(w.setCells b o vs).heap[b]? =some (.cells z e R)/\z.size=E.size/\(∀j,j<o\/o+vs.length<=j->z[j]? =E[j]?)/\∀j u,vs[j]? =some u->o+j<E.size->z[o+j]? =some u
 |[],o,w,b,E,e,R,h=>⟨E,h,rfl,λ_ _=>rfl,λj u I=>by simp at I⟩
 |v::vs,o,w,b,E,e,R,h=>by
  obtain⟨z,h1,h2,h3,h4⟩:=qR vs (o+1) (jT h o v);refine⟨z,h1,by rw[h2];simp,λj I=>?_,λj u I J=>?_⟩
  ·have Y:j<o\/o+(vs.length+1)<=j:=by simpa using I
   rw[h3 j (by omega),aO];rw[if_neg (by omega)]
  ·cases j with
   |zero=>
    simp at I;subst I;rw[Nat.add_zero,h3 o (by omega),aO];simp at J;simp[J]
   |succ j=>
    have:=h4 j u (by simpa using I) (by simp;omega);rw[show o+(j+1)=o+1+j from by omega];exact this
theorem kC(b:Nat):∀(vs:List Value)(o:Nat)(w:World),w.grownBy (w.setCells b o vs) (some b)/\(w.setCells b o vs).heap.size=w.heap.size
 |[],o,w=>⟨⟨rfl,rfl,rfl,jA,λ_ _ _=>rfl⟩,rfl⟩
 |v::vs,o,w=>by
  obtain⟨h,hs⟩:=kC b vs (o+1) (w.setCell ⟨b,o,none⟩ v);have E:(w.setCell ⟨b,o,none⟩ v).heap.size=w.heap.size:=by simp
  refine⟨⟨h.os.trans ?_,h.tape.trans ?_,h.output.trans ?_,by rw[World.setCells,hs,E];exact jA,λk hk z=>(h.block k (by rw[E];exact hk) z).trans (aP _ _ _ _ (λI=>z (by rw[I])))⟩,by rw[World.setCells,hs,E]⟩
  ·rfl
  ·rfl
  ·rfl
def Row(w:World)(e s:Nat)(v:Value)(n:Nat)(xs:List Value):Prop:=
 xs.length=n*s/\((v=.slice none 0 0/\n=0)\/
  ∃g off cap z,v=.slice (some ⟨g,off,none⟩) n cap/\w.heap[g]? =some (.cells z e (0,0))/\n<=cap/\cap<=maxLen/\off+cap*s<=z.size/\∀j u,xs[j]? =some u->z[off+j]? =some u)
section
variable {w w':World}{e s:Nat}{v:Value}{n:Nat}{xs:List Value}
theorem Row.slice(h:Row w e s v n xs):∃a cap,v=.slice a n cap:=by
 rcases h.2 with⟨rfl,rfl⟩|⟨g,off,cap,z,rfl,_⟩
 ·exact⟨_,_,rfl⟩
 ·exact⟨_,_,rfl⟩
theorem Row.pos(h:Row w e s v n xs)(I:0<n):∃g off cap,v=.slice (some ⟨g,off,none⟩) n cap/\n<=cap:=by
 rcases h.2 with⟨rfl,rfl⟩|⟨g,off,cap,z,rfl,_,E,_⟩
 ·omega
 ·exact⟨_,_,_,rfl,E⟩
theorem Row.obj(h:Row w e s v n xs)(E:v.ownBlock=some g):∃z,w.heap[g]? =some (.cells z e (0,0)):=by
 rcases h.2 with⟨rfl,_⟩|⟨g',off,cap,z,rfl,I,_⟩
 ·simp[Value.ownBlock]at E
 ·simp[Value.ownBlock]at E;subst E;exact⟨_,I⟩
theorem Row.lt(h:Row w e s v n xs)(E:v.ownBlock=some g):g<w.heap.size:=by
 obtain⟨z,I⟩:=h.obj E;exact(jC I)
theorem Row.kept(h:Row w e s v n xs)(hk:∀g,v.ownBlock=some g->w'.heap[g]? =w.heap[g]?):Row w' e s v n xs:=by
 refine⟨h.1,?_⟩;rcases h.2 with I|⟨g,off,cap,z,rfl,E,r⟩
 ·exact .inl I
 ·exact .inr ⟨g,off,cap,z,rfl,(hk g rfl).trans E,r⟩
theorem Row.nil(w:World)(e s:Nat):Row w e s (.slice none 0 0) 0 []:=⟨by simp,.inl ⟨rfl,rfl⟩⟩
theorem Row.Ce{lo:Nat}(h:w.ownsRow lo e s v n xs):Row w e s v n xs:=by
 have z:=h.1;refine⟨z,?_⟩;rcases h.2 with h0|⟨g,cap,I,rfl,hb,hh,R,J,aa,Y⟩
 ·exact .inl h0
 ·refine .inr ⟨g,0,cap,I,rfl,hh,R,J,by omega,λj u E=>?_⟩;rw[<-Y,gG]at E;split at E
  ·rw[fC,<-E];simp
  ·cases E
theorem Row.cell(h:Row w e s v n xs)(z:v=.slice (some ⟨g,off,none⟩) n cap)(j:Nat)(u:Value)(R:xs[j]? =some u):w.cell? ⟨g,off+j,none⟩=some u:=by
 rcases h.2 with⟨rfl,_⟩|⟨g',E,I,J,rfl,Y,_,_,_,hc⟩
 ·cases z
 ·simp only[Value.slice.injEq,aC,Addr.mk.injEq,and_true,true_and]at z;obtain⟨⟨rfl,rfl⟩,rfl⟩:=z;have:=hc j u R;simp[World.cell?,Y,this]
theorem Row.frozen(h:Row w e s v n xs)(z:v=.slice (some ⟨g,off,none⟩) n cap)(i:Nat):w.frozen? ⟨g,i,none⟩=false:=by
 rcases h.2 with⟨rfl,_⟩|⟨g',E,I,J,rfl,R,_⟩
 ·cases z
 ·simp only[Value.slice.injEq,aC,Addr.mk.injEq,and_true,true_and]at z;obtain⟨⟨rfl,rfl⟩,rfl⟩:=z;exact aI R i
theorem Row.append{P:Program}(h:Row w e s v n xs)(t ty:TypeId)(i:TypeInfo)(z:Value)(bytes:Nat)(ht:P.underlying t=some (.slice e))(hi:P.info? e=some i)(hz:i.zero=some z)
  (I:i.size=s) (ae:i.bytes=bytes) (am:z.cells.size=s) (aj:0<s)
  (a:Addr) (m c:Nat) (E:List Value) (hm:0<m) (hl:E.length=m*s) (R:∀j u,E[j]? =some u->w.cell? (a.add j)=some u) (h1:∀u∈E,u.oneCell'=true)
  (ac:n+m<=maxLen) (J:(n+m)*bytes<=140737488355328):
  ∃v' w',(Builtin.append_ #[t,t] ty #[v,.slice (some a) m c]).run P w=.ok v' w'/\Row w' e s v' (n+m) (xs++E)/\(∃g off cap,v'=.slice (some ⟨g,off,none⟩) (n+m) cap)/\
   ((v'.ownBlock=v.ownBlock/\w.grownBy w' v.ownBlock/\w'.heap.size=w.heap.size)\/(v'.ownBlock=some w.heap.size/\w.grownBy w' none/\w'.heap.size=w.heap.size+1)):=by
 have ai:∀b cap Y,Y.length=n*s->(∀j u,Y[j]? =some u->w.cell? (b.add j)=some u)->cap<n+m->
   ∃v' w',(Builtin.append_ #[t,t] ty #[.slice (some b) n cap,.slice (some a) m c]).run P w=.ok v' w'/\Row w' e s v' (n+m) (Y++E)/\(∃g off cap,v'=.slice (some ⟨g,off,none⟩) (n+m) cap)/\v'.ownBlock=some w.heap.size/\w.grownBy w' none/\w'.heap.size=w.heap.size+1:=by
  intro b cap Y an holds hg;obtain⟨v',w',hr,ho,ag⟩:=run_append_arg_grows (P:=P) w t ty e i z s bytes ht hi hz I ae am aj b n cap Y an holds a m c E hl R hg ac J;have aa:=run_append_grow (P:=P) w t ty e i z ht hi hz b n cap Y (by rw[I];exact an) holds a m c E (by rw[I];exact hl) R hg (by simp only[maxLen]at ac;omega) (growslice_fits hg (by rw[ae];exact J));rw[hr]at aa;simp only[Result.ok.injEq]at aa;obtain⟨e1,e2⟩:=aa;exact⟨v',w',hr,.Ce ho,⟨_,_,_,e1⟩,by rw[e1];rfl,ag,by rw[e2];simp⟩
 rcases h.2 with⟨rfl,rfl⟩|⟨g,off,cap,ak,rfl,hh,a1,ap,ar,hc⟩
 ·have hx:xs=[]:=bD (by simpa using h.1);subst hx;obtain⟨v',w',hr,ho,ag,ay⟩:=run_append_own (P:=P) w w.heap.size t ty e i z s bytes ht hi hz I ae am aj (.slice none 0 0) 0 [] (World.ownsRow_nil w _ e s) a m c E hl R h1 ac J jA;have aq:Row w' e s v' (0+m) ([]++E):=.Ce ho;rcases ho.2 with⟨rfl,h0⟩|⟨g,cap,ak,rfl,aw,hh,_⟩
  ·omega
  ·refine⟨_,w',hr,aq,⟨_,_,_,rfl⟩,.inr ?_⟩
   have ah:w'.heap.size=w.heap.size+1:=by
    have aa:=run_append_nil (P:=P) w t ty e i z ht hi hz a m c E (by rw[I];exact hl) R (by omega) (by simp only[maxLen]at ac;omega) (by rw[ae];simp only[fC]at J;omega);rw[hr]at aa;simp only[Result.ok.injEq]at aa;rw[aa.2];simp
   have ax:=(jC hh)
   exact⟨by simp[Value.ownBlock];omega,ag,ah⟩
 ·by_cases ab:n+m<=cap
  ·have av:n*s+E.length=(n+m)*s:=by rw[hl,iL]
   have a2:(n+m)*s<=cap*s:=fD _ ab
   have af:∀j,j<E.length->(w.cell? ⟨g,off+n*i.size+j,none⟩).isSome=true:=λj hj=>by
    have:off+n*i.size+j<ak.size:=by rw[I];omega
    simp[World.cell?,hh,bU this]
   have hr:=run_append_room_cells (P:=P) w t ty e i ht hi g off n cap a m c E (by rw[I];exact hl) R h1 ab af (λj _=>aI hh _);rw[I]at hr;obtain⟨ao,k1,k2,k3,k4⟩:=qR E (off+n*s) hh;refine⟨_,_,hr,⟨by rw[aJ,h.1,hl,iL],.inr ⟨g,off,cap,ao,rfl,k1,ab,ap,by rw[k2];exact ar,λj u hj=>?_⟩⟩,⟨_,_,_,rfl⟩,.inl ⟨rfl,(kC g E (off+n*s) w).1,(kC g E (off+n*s) w).2⟩⟩
   ·by_cases au:j<xs.length
    ·rw[bP au]at hj;rw[k3 (off+j) (.inl (by rw[<-h.1];omega))];exact hc j u hj
    ·rw[bK (by omega)]at hj;have a0:=(aF.1 hj).1;have az:=h.1;have:=k4 (j-xs.length) u hj (by omega);rw[show off+j=off+n*s+(j-xs.length) from by omega];exact this
  ·obtain⟨v',w',hr,h2,h3,h4,h5,h6⟩:=ai ⟨g,off,none⟩ cap xs h.1 (λj u hj=>by
    have:=h.cell rfl j u hj;unfold Addr.add;split
    ·rename_i h0;subst h0;simpa using this
    ·exact this) (by omega)
   exact⟨v',w',hr,h2,h3,.inr ⟨h4,h5,h6⟩⟩
end
end
end Hm
namespace Cr
open Go Go.Conc Go.ConcN Go.RowKit Go.Conc.Lib Go.ConcR.Gen Go.ConcN.Gen
open Go.ConcR (KK WgAt stA smA Payload DC0)
open Fr (F flat)
section
variable {v:Value}{fs:List F}{R:List (Nat×Obj)}
def yY(v:Value)(fs:List F)(R:List (Nat×Obj)):Prop:=
 (v=.slice none 0 0/\fs=[]/\R=[])\/∃g cap z,v=.slice (some ⟨g,0,none⟩) fs.length cap/\R=[(g,.cells z 81)]/\fs.length<=cap/\cap<=maxLen/\z.size=cap*4/\z.toList.take (fs.length*4)=flat fs
theorem yY.slice(h:yY v fs R):∃a c,v=.slice a fs.length c:=by
 rcases h with⟨rfl,rfl,_⟩|⟨g,cap,z,rfl,_⟩<;>exact⟨_,_,rfl⟩
abbrev yC(x:F):Array Value:=Gt x.chan x.num ⟨x.data.toArray⟩ x.last
theorem NK:(Tryz.prog.info? 81).map (λi=>(i.zero,i.size,i.bytes))=some (some (.agg Ef),4,32):=by kernel_rfl
theorem X0{A L0:List (Nat×Obj)}{n0 n3:Nat}{x:F}{w:World}(hR:yY v fs R)(hl:Lies (A++(R++L0)) n0 w)(am:(n3,.cells (yC x) 81)∈A)(a1:fs.length<1048576):
  ∃v' w' R',(Builtin.append_ #[76,76] 76 #[v,.slice (some ⟨n3,0,none⟩) 1 1]).run Tryz.prog w=.ok v' w'/\yY v' (fs++[x]) R'/\∀es:Array Event,(∀e∈es,e∈(Builtin.append_ #[76,76] 76 #[v,.slice (some ⟨n3,0,none⟩) 1 1]).events Tryz.prog w #[])->Turn (A++(R++L0)) (A++(R'++L0)) w w' es:=by
 obtain⟨ie,hi,ac,ah,af⟩:∃i,Tryz.prog.info? 81=some i/\i.zero=some (.agg Ef)/\i.size=4/\i.bytes=32:=by
  have:=NK;cases h:Tryz.prog.info? 81 with
  |none=>rw[h]at this;cases this
  |some i=>
   rw[h]at this;simp only[bQ,aC,dA]at this;exact⟨i,rfl,this.1,this.2.1,this.2.2⟩
 have Y:∀p∈A++(R++L0),w.heap[p.1]? =some p.2:=λp hp=>(hl.mem p hp).2;have h3:=Y _ (List.mem_append_left _ am);have an:(flat fs).length=fs.length*4:=Fr.flat_length fs
 have aa:w.ownsRow 0 81 4 v fs.length (flat fs):=by
  refine⟨an,hR.imp (λh=>⟨h.1,by rw[h.2.1];rfl⟩) ?_⟩;rintro⟨g,cap,E,e,rfl,r⟩;exact⟨g,cap,E,e,dF _,Y (g,.cells E 81) (by simp),r⟩
 have ao:Hm.Row w 81 4 v fs.length (flat fs):=by
  refine⟨an,hR.imp (λh=>⟨h.1,by rw[h.2.1];rfl⟩) ?_⟩;rintro⟨g,cap,E,e,rfl,r1,r2,r3,r4⟩;refine⟨g,0,cap,E,e,Y (g,.cells E 81) (by simp),r1,r2,by omega,λj u hj=>?_⟩;rw[<-r4]at hj;rw[fC,<-Array.getElem?_toList]
  have ar:j<fs.length*4:=by
   have:=(aF.1 hj).1;rw[aZ]at this;omega
  rw[iE ar]at hj;exact hj
 have ai:(yC x).toList.length=1*4:=rfl
 have J:∀j u,(yC x).toList[j]? =some u->w.cell? ((⟨n3,0,none⟩:Addr).add j)=some u:=λj u hj=>by
  rw[show(⟨n3,0,none⟩:Addr).add j=⟨n3,j,none⟩ from by unfold Addr.add;split<;>simp_all,aA h3];simpa using hj
 have I:∀u∈(yC x).toList,u.oneCell'=true:=λu hu=>by
  simp only[bV,List.not_mem_nil,or_false]at hu;rcases hu with rfl|rfl|rfl|rfl<;>rfl
 have ae:fs.length+1<=maxLen:=by unfold maxLen;omega
 obtain⟨v',w',hr,ho,hg,a2⟩:=run_append_own (P:=Tryz.prog) w 0 76 76 81 ie (.agg Ef) 4 32 Tryz.underlying76 hi ac ah af rfl (by omega) v fs.length (flat fs) aa ⟨n3,0,none⟩ 1 1 (yC x).toList ai J I ae (by omega) (dF _);obtain⟨a6,a5,ab,_,⟨g2,a3,a4,ax⟩,aq⟩:=ao.append (P:=Tryz.prog) 76 76 ie (.agg Ef) 32 Tryz.underlying76 hi ac ah af rfl (by omega) ⟨n3,0,none⟩ 1 1 (yC x).toList (by omega) ai J I ae (by omega);rw[hr]at ab;simp only[Result.ok.injEq]at ab;obtain⟨rfl,rfl⟩:=ab;have az:=events_append_where (P:=Tryz.prog) w 0 76 76 81 ie (.agg Ef) 4 32 Tryz.underlying76 hi ac ah af v fs.length (flat fs) aa ⟨n3,0,none⟩ 1 1 (yC x).toList ai J I ae (by omega)
 obtain⟨g',aj,z,ag,_,ak,a0,av,aw,au⟩:∃g cap E,v'=.slice (some ⟨g,0,none⟩) (fs.length+1) cap/\0<=g/\w'.heap[g]? =some (.cells E 81 (0,0))/\fs.length+1<=cap/\cap<=maxLen/\E.size=cap*4/\E.toList.take ((fs.length+1)*4)=flat fs++(yC x).toList:=by
  rcases ho.2 with⟨h,_⟩|h
  ·rw[ax]at h;cases h
  ·exact h
 refine⟨v',w',[(g',.cells z 81)],hr,.inr ⟨g',aj,z,by rw[ag,aJ];rfl,rfl,by rw[aJ];exact a0,av,aw,by rw[aJ,Fr.tN];exact au⟩,λes ay=>?_⟩
 have ap:∀g,v.ownBlock=some g->∃ob,R=[(g,ob)]:=λg hg=>by
  rcases hR with⟨rfl,_⟩|⟨g',cap,E,rfl,rfl,_⟩
  ·cases hg
  ·cases hg;exact⟨_,rfl⟩
 have hE:∀{N N':Nat},∀e∈es,EvA (A++(R++L0)) N N' e:=λe he=>by
  have he:=ay e he;rcases az e he with⟨ad,I,⟨_,h2⟩|h2⟩|⟨mk,rfl,h2⟩
  ·exact Tc (Lh (JK _ _ _) he) I ⟨_,List.mem_append_left _ am,h2.symm⟩
  ·obtain⟨ob,rfl⟩:=ap _ h2.symm;exact Tc (Lh (JK _ _ _) he) I ⟨(ad.block,ob),by simp,rfl⟩
  ·unfold Neutral at h2;subst h2;exact .inr (.inr (.inl ⟨_,_,rfl⟩))
 rcases aq with⟨I,h2,h3⟩|⟨I,h2,h3⟩
 ·rw[ag]at I;have I:some g'=v.ownBlock:=I;obtain⟨ob,rfl⟩:=ap _ I.symm;have:=Turn.set (i:=A.length) (o':=.cells z 81) (w0:={ w with heap:=Array.replicate n0 default }) (es:=es) (by simpa using hl) (show(A++([(g',ob)]++L0))[A.length]? =some (g',ob) by simp) h3 (λy hy=>?_) ak h2.tape h2.os h2.output hE
  ·simpa using this
  ·rcases fQ y w.heap.size with h|h
   ·exact h2.block y h λe=>hy (by rw[<-I]at e;exact eP e)
   ·rw[iQ (by omega),iQ h]
 ·rw[ag]at I;have I:some g'=some w.heap.size:=I;cases I;have ht:=Turn.lay (w0:={ w with heap:=Array.replicate n0 default }) (es:=es) (by simpa using hl) h3 (λy hy=>h2.block y hy (by simp)) ak h2.tape h2.os h2.output hE;have hs:(A++(w.heap.size,Obj.cells z 81)::L0).Sublist (A++(w.heap.size,Obj.cells z 81)::(R++L0)):=(iK A).append (.cons_cons _ (List.sublist_append_right _ _));have hp:((w.heap.size,Obj.cells z 81)::(A++(R++L0))).Perm (A++(w.heap.size,Obj.cells z 81)::(R++L0)):=List.perm_middle.symm;exact⟨ht.tape,ht.os,ht.output,ht.size,ht.block,λp hp'=>ht.mem p (hp.mem_iff.2 (hs.subset hp')),((hp.pairwise_iff λh=>Ne.symm h).1 ht.ord).sublist hs,ht.events⟩
end
end Cr
end Go.Proofs.YtpibpdpedjinhaaGreatDoor
