import Derived.Test.YtpibpdpedjinhaaGreatDoorP07
import Derived.Test.YtpibpdpedjinhaaGreatDoorP08
import Derived.Test.YtpibpdpedjinhaaGreatDoorP11
import Derived.Great.BuildSlice
import Derived.Test.YtpibpdpedjinhaaGreatDoorRows
import Derived.Deep.DeepHandedRow
import Derived.Conc.LeavingOf
import Derived.SevenTiedAt
set_option maxRecDepth 100000
set_option maxHeartbeats 8000000
set_option linter.all false
open Array renaming getD->tr,replicate->wy,setIfInBounds->qb,size->qd
open Bool renaming false->pi,toNat->Yf,true->pw
open ByteArray renaming ext->qaQ,extract->qt,size->ot
open Eq renaming trans->oy
open False renaming elim->sj
open Go renaming Addr->zm,Code->vy,Event->Zx,Frame->tg,Goroutine->r9,Item->qbe,Obj->ZG,Oper->OF,Operand->ZT,Program->th,TypeId->wj,Value->po,World->pn,callFunc->Yk,events_store->qaj,execOp->rj,heap_alloc_new->sv,run_underlying->vh,stepG->vi,undef->p8
open Go.Act renaming eval->p7,put->td
open Go.Builtin renaming append_->By,copy_->qaF,firstCells->qaG,lenOf->qbd,len_->YP,unsafeString_->qat
open Go.Code renaming seq->qv
open Go.Conc renaming Goes->X7,atRel_refl->YQ,mem_listed->ym,stepG_block->qaq,stepG_region_end->pu,stepG_seq->rp,stepG_skip->ye
open Go.Conc.Goes renaming stop->sg
open Go.ConcN renaming PayAt->qap,WgLive->AI
open Go.ConcR.Gen renaming base_kind->ul
open Go.ConcR.WgAt renaming of_block->Yx
open Go.DataW renaming trod_int->yn
open Go.Extern.BytealgMakeNoZero renaming makeNoZero->ZP
open Go.Frame renaming enter->X4,finish->xx
open Go.FrameMode renaming returning->Yi
open Go.Instr renaming buildSlice->qas,index->YJ,slice->ZN
open Go.IntKind renaming i64->pg,u16->XX,u32->sr,u64->qbl,wrap->xh
open Go.Item renaming inRegion->ri
open Go.Lib renaming byteCells->YW,byteCells_length->qaS,bytesCells->ZE
open Go.Obj renaming cells->pj,deferred->uu
open Go.Operand renaming tmp->sn
open Go.Proofs.Tryz renaming f71->YY,prog->px,underlying155->xy,underlying239->qaX,underlying4->qay,underlying5->yd,underlying76->YB,underlying9->wq
open Go.Region renaming ready->xe,schedule->ZM,wanted->sy
open Go.Value renaming bool->rh,int->ox,oneCell'->sw,pointer->pm,slice->U,string->pk,tuple->sh
open Go.World renaming alloc->o6,cell?->Z,forCall->ZB,freeze->wv,frozen?->sk,putObj->rq,setCell->o3,shape?->sx
open List renaming length->M,range->IS,sublist_append_right->qag
open Ne renaming symm->YI
open Option renaming none->X,some->N
open Or renaming inl->rr,inr->rz
open UInt8 renaming toNat->pf,toNat_lt->xi
open Go.Proofs.Tryz
namespace Go.Proofs.YtpibpdpedjinhaaGreatDoor
open Fr
namespace Cr
open Go
abbrev link:Go.Conc.Lib.WgLink:={ add:=107,done:=109,wait:=111,relMerge:=153,disable:=154,enable:=155,inBubble:=156,associate:=157,fatal:=158,uOr:=159,uAdd:=160,raceRead:=161,uLoad:=162,uStore:=163,disassociate:=164,semrelease:=165,acquire:=166,isAssociated:=167,uCas:=168,raceWrite:=169,semacquire:=170,orU64:=199,addU64:=200,loadU64:=201,storeU64:=202,casU64:=203,tWgP:=251,tUP:=253,tAssoc:=254,tWg:=211,tAU:=209,tU64:=207,tUint:=154,tU32:=22,tPU32:=258,tPAU:=289,tPU64:=291,tNoCopy:=204,tANoCopy:=205,tAlign64:=206 }
def wgLib:Go.Conc.Lib.WgLib px link:=
 ⟨func107,func109,func111,func153,func154,func155,func156,func157,func158,func159,func160,func161,func162,func163,func164,func165,func166,func167,func168,func169,func170,func199,func200,func201,func202,func203,underlying251,runUnderlying251,sizeOf251,isAgg251,zeroValue251,underlying253,runUnderlying253,sizeOf253,isAgg253,zeroValue253,underlying254,runUnderlying254,sizeOf254,isAgg254,zeroValue254,underlying211,runUnderlying211,sizeOf211,isAgg211,zeroValue211,underlying209,runUnderlying209,sizeOf209,isAgg209,zeroValue209,underlying207,runUnderlying207,sizeOf207,isAgg207,zeroValue207,underlying154,runUnderlying154,sizeOf154,isAgg154,zeroValue154,Tryz.underlying22,runUnderlying22,sizeOf22,isAgg22,zeroValue22,underlying258,runUnderlying258,sizeOf258,isAgg258,zeroValue258,underlying289,runUnderlying289,sizeOf289,isAgg289,zeroValue289,underlying291,runUnderlying291,sizeOf291,isAgg291,zeroValue291,underlying0,runUnderlying0,sizeOf0,isAgg0,zeroValue0,Tryz.underlying3,runUnderlying3,sizeOf3,isAgg3,zeroValue3,qay,runUnderlying4,sizeOf4,isAgg4,zeroValue4,wq,runUnderlying9,sizeOf9,isAgg9,zeroValue9,underlying20,runUnderlying20,sizeOf20,isAgg20,zeroValue20,underlying21,runUnderlying21,sizeOf21,isAgg21,zeroValue21,Zm,Zm⟩
end Cr
namespace Fr
def jE(b a fr ad:Int)(data:List UInt8):List F:=if ad=b/\fr=a then(frames data).getD []else []
end Fr
namespace Cr
open Go Go.Conc Go.ConcN Go.RowKit Go.Conc.Lib Go.ConcR.Gen Go.ConcN.Gen
open Go.ConcR (KK WgAt stA smA Payload DC0)
instance payFrames:Payload:=⟨76⟩
def nM(O:Nat->Prop)(w:pn)(v:po)(fs:List Fr.F):=
 (v=U X 0 0/\fs=[])\/∃g a b,v=U (N ⟨g,0,X⟩) (M fs) a/\O g/\w.1[g]? =N (pj b 81 (0,0))/\M fs<=a/\a<=maxLen/\qd b=a*4/\b.1.take (M fs*4)=Fr.flat fs
def nM.stands{O a w w₁ v fs}(h:nM O w v fs)(j:∀b,O b->a b)(l:∀b,O b->w₁.1[b]? =w.1[b]?):nM a w₁ v fs:=
 h.imp id λ⟨g,d,f,e,c,i,r⟩=>⟨g,d,f,e,j g c,oy (l g c) i,r⟩
def leftOf(fs:Nat->List Fr.F):Left:=λi v O w=>nM O w v (fs i)
def zG(fs):(leftOf fs).kI:=λ_ _ _ _ _ a h=>nM.stands h (λ_=>id) a
abbrev cfg(b a c t1 d e f:Int):Array po:=#[ox sr b,ox sr a,ox pg c,ox pg t1,ox pg d,ox pg e,ox pg f]
abbrev vF(fr ad:Int)(data:ByteArray):Array po:=#[ox sr fr,ox sr ad,pk data]
def ReadW:=∀(S:Who)(m:Nat)(St:gL->r9->pn->Prop)(K:gL)(w:pn)(b:tg)(a:Act)(k:List qbe)(h:List tg)(ops:Array OF)(j:Nat)(rest:List Nat)(o:OF)(x y:ZT)(n:Array wj)(l g p q r s t i f:Int)(e:ByteArray),
 ops[j]? =N o->sy o (yielded ops a.1)=pw->b.6≠.early->o.2=.call { callee:=.value (.func 110),args:=#[x,y],argTypes:=n }->p7 a x=.agg (cfg l g p q r s t)->p7 a y=.agg (vF i f e)->ot e<=1048576->
 (∀x,K.2 x->K.1 x)->(∀x,K.1 x->x<w.1.size)->S.2<w.1.size->S.1<w.1.size->qd Tryz.prog.globals<=w.1.size->
 (∀w₁,En S (N m) K w w₁->∀v d c,nM d.1 c v (jE l g i f e.1.1)->(∀x,K.1 x->d.1 x)->(∀x,d.2 x->d.1 x)->↑w₁<=c.1.size->(∀x,K.1 x->c.1[x]? =w₁.1[x]?)->(∀x,d.1 x->x<c.1.size/\(K.1 x\/w₁.1.size<=x))->
  (AI S.4 S.1 w₁->AI S.4 S.1 c)->(qap S.2 S.3 w₁->qap S.2 S.3 c)->iw px pi S (N m) St d (G (b.at (td a o.1 v) (ri ops rest::k)) h) c)->
 iw px pi S (N m) St K (G (b.at a (ri ops (j::rest)::k)) h) w
end Cr
namespace Cr
open Go Go.Conc Go.ConcN Go.RowKit Go.Conc.Lib Go.ConcR.Gen Go.ConcN.Gen
open Go.ConcR (KK WgAt stA smA Payload DC0)
open Fr (big)
section
variable {ob:ZG}
def Ut(f:FuncId)(args:Array po)(v:po):=∀(S:Who)(m:Nat)(St:gL->r9->pn->Prop)(K0:gL)(w0:pn)(L:List (Nat×ZG))(b:tg)(a:Act)(k:List qbe)(cs:List tg)(ops:Array OF)(i:Nat)(rest:List Nat)(o:OF)(c:Array ZT)(d:Array wj),
 ops[i]? =N o->sy o (yielded ops a.1)=pw->b.6≠.early->o.2=.call { callee:=.value (.func f),args:=c,argTypes:=d }->c.map (p7 a)=args->Wc px S m St K0 w0 L (G (b.at (td a o.1 v) (ri ops rest::k)) cs)->Wc px S m St K0 w0 L (G (b.at a (ri ops (i::rest)::k)) cs)
noncomputable def MZ:vy:=match f194.9 with
 |some (qv _ (qv _ (qv (qv _ (.block _ (.loop c))) _)))=>c
 |_=>.skip
noncomputable def TA:vy:=match f194.9 with
 |some (qv _ (qv _ (qv _ c)))=>c
 |_=>.skip
section
variable {S:Who}{m:Nat}{St:gL->r9->pn->Prop}{K0:gL}{w0:pn}{L:List (Nat×ZG)}{cs:List tg}{cf:tg}
def lq{p w}(h:Lies (p::L) ↑w0 w):w.1[p.1]? =N p.2:=(h.2 p (.head _)).2
def CI{n j Zp a wr}:EvA ((n,ob)::L) Zp a ⟨.cell ⟨n,j,X⟩,wr,pi⟩:=rr ⟨_,_,R,rr ⟨_,.head _,R⟩⟩
def ET(s:ByteArray)(J:ot s<=4)(n B:Nat)(c:Array po){v:Nat×Nat}(hc:∀j<ot s,c[j]? =N (ox .u8 (pf (s.1.1.getD j 0))))(d:Wc px S m St K0 w0 ((n,pj c 5 v)::L) (G (xx cf (ox sr (big s.1.1 0 (ot s):Nat))) cs)):∀r k,k+r=ot s->∀u f g h i l o p q t:po,Wc px S m St K0 w0 ((n,pj c 5 v)::L) (G ((base 194).at ⟨#[pk s,p8,ox sr 0,ox sr (big s.1.1 0 k:Nat),p8,u,pk s,U (N ⟨n,0,X⟩) (ot s) B,ox pg (ot s),ox pg k,f,g,h,i,l,o,p,q,t,p8],[]⟩ [.code MZ,.inLoop MZ,.inBlock 0,.code TA]) (cf::cs)):=by
 intro r
 induction r with
 |zero=>
  intro k b u f g h i l o p q t;obtain rfl:k=ot s:=aA
  simp only[MZ,f194];refine Wc.go 30 λK w a=>?_;u_c rp At.en a;u_reg At.en a;u_op At.en a;u_c pu At.en a;u_c rp At.en a;u_cond pi At.en a;u_exit At.en a;simp only[TA,f194];u_c rp At.en a;u_reg At.en a
  iterate 2 u_op At.en a
  u_c pu At.en a;refine sg λ_ h₁=>Wc.use ?_ (a.en h₁);exact .ret λe=>.uY R R R func194 R R d
 |succ r ih=>
  intro k G u f g h i l o p q t;have I:(k:Int)<ot s:=aA
  have O:big s.1.1 0 k<16777216:=by
   have:=lZ s.1.1 0 k;have:=eE (n:=256) aB (show k<=3 by omega);omega
  have hc:=hc k aA;have b:big s.1.1 0 (k+1)=256*big s.1.1 0 k+pf (s.1.1.getD k 0):=by rw[big,cX]
  generalize j:pf (s.1.1.getD k 0)=y at hc b;have D:y<256:=by rw[<-j];exact xi _
  have ih:=ih (k+1) aA;rw[b]at ih;generalize big s.1.1 0 k=V at *;have A:Hid _:=ih;have F:Hid _:=d;clear ih d j b;simp only[MZ,f194];refine Wc.go 30 λK w a=>?_;u_c rp At.en a;u_reg At.en a;u_op At.en a;u_c pu At.en a;u_c rp At.en a;u_cond pw At.en a;u_c ye At.en a;u_c rp At.en a;u_c qaq At.en a;u_c rp At.en a;u_reg At.en a;u_op At.en a;refine sg λ_ h₁=>Wc.use ?_ (a.en h₁);clear a;refine Wc.rd (ox .u8 y) R R (ul _) (λw E=>?_) ?_
  .have C:=lq E;have x:Z w ⟨n,k,X⟩=N (ox .u8 y):=by simp[Z,C,hc]
   refine⟨by simp[go_sem,x],λe z=>?_⟩;simp[go_sem,x]at z;subst z;exact CI
  walk_nrm;refine Wc.go 30 λK w a=>?_;u_op At.en a;u_c pu At.en a;u_reg At.en a
  iterate 6 u_op At.en a
  u_c pu At.en a;u_c stepG_inBlock At.en a;u_reg At.en a
  iterate 2 u_op At.en a
  u_c pu At.en a;u_c stepG_inLoop At.en a;refine sg λ_ h₁=>Wc.use ?_ (a.en h₁);clear a
  have e:bits .or sr ((V:Int)*256) (y:Int)=((256*V+y:Nat):Int):=by
   rw[show(V:Int)*256=((V*256:Nat):Int) from by omega,vN _ _ aA aA,Fr.vZ V y D]
  rw[show(V:Int)*256%4294967296=V*256 by omega,show(y:Int)%4294967296=y by omega,e,show xh pg ((k:Int)+1)=((k+1:Nat):Int) by rw[IntKind.wrap_i64];omega];exact A _ _ _ _ _ _ _ _ _ _
end
def qN(s:ByteArray)(u:ot s<=4):Ut 194 #[pk s] (ox sr (big s.1.1 0 (ot s):Nat)):=by
 intro S m St K0 w0 L b a k cs ops i rest o y x h hw r t v l;refine Wc.call h hw r t func194 R (show f194.9=N (qv _ (qv _ (qv (qv _ (.block 0 (.loop MZ))) TA))) from R) ?_;rw[v];simp only[ntmps194,bZ,aP,bH,Nat.reduceAdd,Nat.reduceSub,bP,bO,cD,bQ,cA,bX];have p:Hid _:=l;clear l;refine Wc.go 30 λK w d=>?_;u_c rp At.en d;u_reg At.en d;u_op At.en d;u_c pu At.en d;u_c rp At.en d;u_reg At.en d;u_op At.en d;u_c pu At.en d
 iterate 2 u_c rp At.en d
 u_reg At.en d;u_op At.en d;refine sg λ_ h₁=>Wc.use ?_ (d.en h₁);clear d;refine Wc.op R R (ul _) λw g=>⟨U (N ⟨↑w,0,X⟩) (ot s) (grownCap w (ot s) 0 5),Lib.bytesWorld w 5 s,(w.1.size,pj (ZE w 5 s) 5 (qd (ZE w 5 s),qd (ZE w 5 s)+1))::L,rr ?run,?turn,?_⟩
 case run=>
  have:=Lib.run_convert_string_bytes (P:=px) w 9 155 5 s wq xy yd;simp[go_sem,this]
 case turn=>
  refine .lay g (Lib.bytesWorld_size _ _ _) (Lib.bytesWorld_at_old _ _ _) (Lib.bytesWorld_at_new _ _ _) R R R λe f=>?_;have f:=ym f
  have n:∀c:Array po,(o6 w (pj c 5)).shape? w.1.size=N (5,qd c):=by
   intro c;simp[sx,World.alloc,-World.alloc_eq]
  simp[go_sem,convert,vh (P:=px) wq,vh (P:=px) xy,vh (P:=px) yd,Conv.stringToBytes,newRow,markStringish,Question.forced,n]at f
 have hc:∀j<ot s,(ZE w 5 s)[j]? =N (ox .u8 (pf (s.1.1.getD j 0))):=λj q=>by simp[ZE,Array.getElem?_append,List.getD,q]
 generalize ZE w 5 s=c at hc;generalize w.1.size=n;generalize grownCap w (ot s) 0 5=cap;clear g;walk_nrm;refine Wc.go 30 λK w d=>?_
 iterate 2 u_op At.en d
 u_c pu At.en d;u_c qaq At.en d;u_c stepG_loop At.en d;refine sg λ_ h₁=>Wc.use ?_ (d.en h₁);refine ET s u n cap c hc ?_ (ot s) 0 aA _ _ _ _ _ _ _ _ _ _;refine Wc.drop (eL _ _) ?_;rw[dA,h];exact p
end
section
variable {e:Zx}{P:th}{w:pn}
def LB{L Zp a ad}(hp:pl e)(c:e.1=.cell ad)(b:∃p∈L,p.1=ad.1):EvA L Zp a e:=by obtain⟨d,wr,f⟩:=e;cases c;cases hp ad R;exact rr ⟨ad,wr,R,rr b⟩
def su{P:th}{w:pn}:∀(l:List UInt8)(a:zm)(f:ByteArray)(c:Array Zx),(∀j x,l[j]? =N x->Z w (a.add j)=N (ox .u8 (pf x)))->∀e∈(loadBytes a f (M l)).events P w c,e∈c\/∃b,e=⟨.cell b,pi,pi⟩/\b.1=a.1
 |[],_,_,_,_=>λe d=>rr (by simpa[loadBytes]using d)
 |x::l,a,f,c,h=>λe d=>by
  have g:Z w a=N (ox .u8 (pf x)):=by
   have:=h 0 x R;simpa[Addr.add]using this
  simp only[aP,loadBytes,Sem.events_bind]at d;simp[g]at d;obtain k|⟨b,rfl,k⟩:=su l (a.add 1) _ _ (λj y i=>by have:=h (j+1) y (by simpa using i);rw[show(a.add 1).add j=a.add (j+1) from by unfold Addr.add;split<;>split<;>simp_all<;>omega];exact this) e d
  .grind
  .exact rz ⟨b,R,oy k (addBlock a 1)⟩
def U1(d s t e:wj)(hp:P.underlying d=N (.pointer e))(hc:P.cellsOf e=1)(g cells:Nat)(r:w.shape? g=N (e,cells)){l:List UInt8}(f:l≠[])(p:M l<=cells)(u:M l<=9223372036854775807)(c:∀j x,l[j]? =N x->Z w ((⟨g,0,X⟩:zm).add j)=N (ox .u8 (pf x))):∀ev∈(qat #[d,s] t #[pm (N ⟨g,0,X⟩),ox pg (M l)]).events P w #[],∃b,ev=⟨.cell b,pi,pi⟩/\b.1=g:=by
 have i:M l≠0:=mw
 have m:=Lib.run_loadBytes (P:=P) w l _ .empty c;have n:=Lib.liesAt_bytes (P:=P) hc (cells/P.cellsOf e) (M l) (by rw[hc];simpa using p);have h:¬(9223372036854775807:Int)<(M l:Int):=aA
 have o:IntKind.i64.max=9223372036854775807:=R;have q:¬(M l:Int)<0:=aA
 intro ev a;change ev∈(asInt (ox pg (M l)) >>= _).events P w #[]at a;simp[asInt,asIntOf,o,h,q,i,variablesAt,r,elemOf,vh hp,n,m]at a;obtain k|k:=su l ⟨g,0,X⟩ .empty #[] c ev a
 .simp at k
 .exact k
def B1(a s w es):(YP #[9] a #[pk s]).events px w es=es:=by simp[YP,vh wq]
def FA{α}{s:Sem α}(h:na s)(a:e∈s.events P w #[]):pl e:=UC h w #[] aC e a
def Rm:(Tryz.prog.info? 5).map (λi=>(i.8,i.3,i.4))=N (N (ox .u8 0),1,1):=Zm
def Kc(s:ByteArray)(hs:ot s<=16777216):Ut 198 #[pk s] (pk s):=by
 intro S m St W w0 L b a k cs ops i rest o xs aa t hw O Q p F;refine Wc.call t hw O Q func198 R R ?_;rw[p];simp only[ntmps198,bZ,aP,bH,Nat.reduceAdd,Nat.reduceSub,bP,bO,cD,bQ,cA,bX];have y:Hid _:=F;have el:=B1;clear F;by_cases l:ot s=0
 .obtain rfl:s=⟨#[]⟩:=qaQ (Array.eq_empty_of_size_eq_zero l);refine Wc.go 30 λK w d=>?_;u_c rp At.en d;u_reg At.en d;u_op At.en d;u_c pu At.en d
  iterate 2 u_c rp At.en d
  u_reg At.en d
  iterate 3 u_op At.en d
  u_c pu At.en d;u_cond pw At.en d;u_c rp At.en d;u_reg At.en d;u_op At.en d;u_c pu At.en d;refine sg λ_ h₁=>Wc.use ?_ (d.en h₁);refine .ret λV=>.uY R R R func198 R R ?_;rw[dA,t];exact y
 have ae:((ot s:Int) == 0)=pi:=by rw[beq_eq_false_iff_ne];omega
 refine Wc.go 30 λK w d=>?_;u_c rp At.en d;u_reg At.en d;u_op At.en d;u_c pu At.en d
 iterate 2 u_c rp At.en d
 u_reg At.en d
 iterate 3 u_op At.en d
 u_c pu At.en d;u_cond pi At.en d;u_c ye At.en d;u_c rp At.en d;u_reg At.en d
 iterate 2 u_op At.en d
 refine sg λ_ h₁=>Wc.use ?_ (d.en h₁);clear d
 obtain⟨v,g,D,E,u⟩:∃i,Tryz.prog.info? 5=N i/\i.8=N (ox .u8 0)/\i.3=1/\i.4=1:=by
  have:=Rm;cases h:Tryz.prog.info? 5 with
  |none=>grind
  |some i=>
   grind
 obtain⟨Zn,q⟩:∃Zn,Zn=madeCells (ox .u8 0).cells (((ot s:Nat):Int).toNat*v.3):=⟨_,R⟩
 have I:qd Zn=ot s:=by rw[q,size_madeCells,E];simp
 refine Wc.al (pj Zn 5) (λn=>U (N ⟨n,0,X⟩) (ot s) (ot s)) R R (ul _) (λw f=>?_) λn=>?_
 .have c:=run_make (P:=px) w 155 5 v _ xy g D pg pg (ot s) (ot s) aA aA (by rw[u];omega) aA;have B:=events_make (P:=px) w 155 5 v _ xy g D pg pg (ot s) (ot s) aA aA (by rw[u];omega) aA (by rw[u];omega) #[];rw[<-q]at c;refine⟨by simp[go_sem,c],λe h=>?_⟩;simp[go_sem,B]at h
 clear q;walk_nrm;refine Wc.go 30 λK w d=>?_;u_op At.en d;u_c pu At.en d;u_c rp At.en d;u_reg At.en d
 iterate 2 u_op At.en d
 refine sg λ_ h₁=>Wc.use ?_ (d.en h₁);clear d;obtain⟨Y,r⟩:∃Y,Y=(Zn.1.take 0++YW s.1.1++Zn.1.drop (0+ot s)).toArray:=⟨_,R⟩
 have z:Y.1=YW s.1.1:=by
  rw[r,List.toList_toArray,List.take_zero,cA,List.drop_of_length_le (by grind),dI]
 have ab:qd Y=ot s:=by rw[<-Array.length_toList,z,qaS,<-aW]
 refine Wc.op R R (ul _) λw f=>⟨goInt (ot s),w.setRow n Y,(n,pj Y 5)::L,rr ?run,?turn,?_⟩
 case run=>
  have c:=Lib.run_copy_row_string (P:=px) w 155 9 3 5 n 0 _ (ot s) s Zn 5 xy (by rw[g];simp[E]) (lq f) fI aA;rw[<-r]at c;simp[go_sem,c]
 case turn=>
  refine Turn.set (i:=0) f R aC (λx p=>setRow_other _ _ _ _ p) (setRow_heap _ _ Zn _ _ _ (lq f)) R R R λe c=>?_;have c:e∈(qaF #[155,9] 3 #[U (N ⟨n,0,X⟩) (ot s) (ot s),pk s]).events px w #[]:=by simpa[go_sem]using ym c
  have h:=FA (SN _ _ _) c;simp[qaF,vh xy,qbd,qaG,sizeOf,typeInfo,g]at c
  have B:List.take (ot s) (List.map (λb:UInt8=>ox IntKind.u8 (pf b:Int)) s.1.1)=YW s.1.1:=by
   rw[cK aC];rfl
  rw[B]at c;have ac:M (YW s.1.1)=ot s:=by rw[qaS,<-aW]
  obtain k|⟨ad,G,T⟩:=events_storeCells_at n 0 5 (YW s.1.1) 0 Zn w #[] (lq f) aA (Lib.byteCells_one _) e c
  .simp at k
  .exact LB h G ⟨_,.head _,T.symm⟩
 clear f r I Zn;walk_nrm;have af:0<ot s:=aA
 refine Wc.go 30 λK w d=>?_;u_c pu At.en d;u_c rp At.en d;u_reg At.en d
 iterate 4 u_op At.en d
 refine sg λ_ h₁=>Wc.use ?_ (d.en h₁);clear d;have C:s.1.1≠[]:=λe=>l (by rw[aW,e];rfl);have A:∀(w:pn),w.1[n]? =N (pj Y 5 (0,0))->∀j x,s.1.1[j]? =N x->Z w ((⟨n,0,X⟩:zm).add j)=N (ox .u8 (pf x)):=λw J j x p=>Lib.cells_of_row J (qd Y) j _ (by rw[cK aC,z];simp[YW,p]);refine Wc.op R R (ul _) λw f=>⟨pk s,w.freeze ⟨n,0,X⟩ (ot s),(n,pj Y 5 (0,ot s))::L,rr ?run,?turn,?_⟩
 case run=>
  have c:=Lib.run_unsafeString_row (P:=px) w 239 3 9 5 qaX Zm n (qd Y) (by unfold sx;rw[lq f]) _ C gv gv (A w (lq f));rw[<-aW]at c;simp[go_sem,c]
 case turn=>
  have B:(w.freeze ⟨n,0,X⟩ (ot s)).1=w.1.modify n λo=>match o with|pj c e (lo,g)=>pj c e (if lo == g then(0,0+ot s)else(min lo 0,max g (0+ot s)))|o=>o:=by simp only[wv,Za l];rfl
  refine Turn.set (i:=0) f R mu (λx p=>by grind) (by rw[B,bD,Zb R,lq f];simp) (by simp[wv,l]) (by simp[wv,l]) (by simp[wv,l]) λe h=>?_;have h:e∈(qat #[239,3] 9 #[pm (N ⟨n,0,X⟩),ox pg (ot s)]).events px w #[]:=by simpa[go_sem]using ym h
  rw[aW]at h;obtain⟨G,rfl,k⟩:=U1 239 3 9 5 qaX Zm n (qd Y) (by unfold sx;rw[lq f]) C gv gv (A w (lq f)) e h;exact rr ⟨G,pi,R,rr ⟨_,.head _,k.symm⟩⟩
 clear f;walk_nrm;refine Wc.go 30 λK w d=>?_;u_op At.en d;u_c pu At.en d;refine sg λ_ h₁=>Wc.use ?_ (d.en h₁);refine .ret λV=>.uY R R R func198 R R (Wc.drop (eL _ _) ?_);rw[dA,t];exact y
def IP(s:ByteArray)(l:ot s<=16777216):Ut 151 #[pk s] (pk s):=by intro S m St p u L b a k r ops i rest o v q d hw h j n f;refine Wc.call d hw h j func151 R R ?_;rw[n];simp only[ntmps151,bZ,aP,bH,Nat.reduceAdd,Nat.reduceSub,bP,bO,cD,bQ,cA,bX];have g:Hid _:=f;clear f;refine Wc.go 30 λK w c=>?_;u_c rp At.en c;u_reg At.en c;u_op At.en c;u_c pu At.en c;u_c rp At.en c;u_reg At.en c;u_op At.en c;refine sg λ_ h₁=>Wc.use ?_ (c.en h₁);clear c;refine Kc s l _ _ _ _ _ _ _ _ _ _ _ _ _ _ _ _ R R (ul _) R (by simp[p7]) ?_;walk_nrm;refine Wc.go 30 λK w c=>?_;u_op At.en c;u_c pu At.en c;refine sg λ_ h₁=>Wc.use ?_ (c.en h₁);refine .ret λt=>.uY R R R func151 R R ?_;rw[dA,d];exact g
end
end Cr
namespace Cr
open Go Go.Conc Go.ConcN Go.RowKit Go.Conc.Lib Go.ConcR.Gen Go.ConcN.Gen
open Go.ConcR (KK WgAt stA smA Payload DC0)
open Fr (big one)
variable {n:Nat}{t:wj}{w:pn}
def wn{o y}(h:o.6=X):sy o y=pw:=by simp[sy,h]
def RZ(u s i)(j:Nat)(a)(e:i=(j:Int)):(YJ 9 (pk s) (ox pg i)).run px u=.ok (ox .u8 (pf s[j]:Int)) u:=by subst e;rw[run_index_string u _ s pg _ wq,dif_pos aA];simp
def sV(l:Int)(n:Nat)(c w es)(a:0<=l)(b:l<=n):(Instr.sliceBound (ox pg l) n c).events px w es=es:=by
 have d:¬l<0:=aA
 have e:¬(n:Int)<l:=aA
 simp[Instr.sliceBound,asIntOf,asInt,a,b,d,e]
def xY(s:ByteArray)(l h:Int)(w es)(a:0<=l)(b:l<=h)(d:h<=ot s):(ZN 9 (pk s) (N (ox pg l)) (N (ox pg h)) X).events px w es=es:=by have k:=λc=>sV l h.toNat c w es a aA;simp[ZN,vh wq,Instr.sliceBounds,run_sliceBound,sV,sliced,b,d,(by omega:0<=h),a,k]
def Gf(s:ByteArray)(h:Int)(w es)(a:0<=h)(b:h<=ot s):(ZN 9 (pk s) X (N (ox pg h)) X).events px w es=es:=by exact ma
def xK(s:ByteArray)(l:Int)(w es)(a:0<=l)(b:l<=ot s):(ZN 9 (pk s) (N (ox pg l)) X X).events px w es=es:=by exact ma
def lD(s b a w es)(h:(ZN 9 (pk s) b a X).events px w es=es):(Instr.sliceAt 9 (pk s) b a X).events px w es=es:=by simp[Instr.sliceAt,h]
def zn(s:ByteArray)(i:Int)(w es)(a:0<=i)(b:i<ot s):(YJ 9 (pk s) (ox pg i)).events px w es=es:=by simp[YJ,vh wq,go_sem,a,b]
abbrev Ef(a b:Int)(d:ByteArray)(l:Bool):Array po:=#[ox sr a,ox XX b,pk d,.bool l]
abbrev C5:Array po:=Ef 0 0 ⟨#[]⟩ pi
noncomputable def A7:Array OF:=match f142.9 with
 |some (qv _ (qv _ (qv _ (qv _ (qv (.region _ ops _) _)))))=>ops
 |_=>#[]
def S4:fills 47 A7=pw:=Zm
section
variable {S:Who}{m:Nat}{St:gL->r9->pn->Prop}{K0:gL}{w0:pn}{L:List (Nat×ZG)}{cs:List tg}
def pS{j c a}(h:Lies ((n,pj c t a)::L) ↑w0 w):Z w ⟨n,j,X⟩=c[j]?:=by have:=lq h;simp[Z,this]
def Xo{a b c d x y z u}(h:w.1[n]? =N (pj #[a,b,c,d] t)):o3 (o3 (o3 (o3 w ⟨n,0,X⟩ x) ⟨n,1,X⟩ y) ⟨n,2,X⟩ z) ⟨n,3,X⟩ u=rq w n (pj #[x,y,z,u] t):=by
 simp only[o3,World.putObj]
 congr 1
 apply dG;intro j;by_cases e:n=j
 .subst e;have f:=(fO h)
  rw[bD,Zb R,bD,Zb R,bD,Zb R,bD,Zb R,h,aQ,Zb R,Zb f];rfl
 .grind
def mV{c0 j b c g d f i p q a o}(hp:p7 a p=pm (N ⟨n,0,X⟩))(B:p7 a q=.agg (Ef b c d i))(A:o.2=.store 81 p q)(w)(G:Lies ((n,pj (Ef c0 j g f) 81)::L) ↑w0 w):(rj (p7 a) o).run px w=.ok .skip (rq w n (pj (Ef b c d i) 81))/\∀e∈(rj (p7 a) o).events px w #[],EvA ((n,pj (Ef c0 j g f) 81)::L) w.1.size w.1.size e:=by
 have h:=lq G;have l:(o3 w ⟨n,0,X⟩ (ox sr b)).1[n]? =N (pj #[ox sr b,ox XX j,pk g,.bool f] 81):=by simp[o3,bD,h]
 have r:(o3 (o3 w ⟨n,0,X⟩ (ox sr b)) ⟨n,1,X⟩ (ox XX c)).1[n]? =N (pj #[ox sr b,ox XX c,pk g,.bool f] 81):=by simp[o3,bD,h]
 have s:(o3 (o3 (o3 w ⟨n,0,X⟩ (ox sr b)) ⟨n,1,X⟩ (ox XX c)) ⟨n,2,X⟩ (pk d)).1[n]? =N (pj #[ox sr b,ox XX c,pk d,.bool f] 81):=by simp[o3,bD,h]
 have u:=aG h 0;have v:=aG l 1;have x:=aG r 2;have y:=aG s 3;have C:=aM h 0;have D:=aM l 1;have E:=aM r 2;have F:=aM s 3;constructor
 .unfold rj;simp only[A,hp,B];rw[<-Xo h];simp[go_sem,stored,u,C,v,D,x,E,y,F]
 .unfold rj;simp only[A,hp,B];intro e z;simp[go_sem,stored,storedEv,u,C,v,D,x,E,y,F,qaj _ _ _ _ _ _ (show sw (pk d)=pw from R),qaj _ _ _ _ _ _ (show sw (rh i)=pw from R)]at z;rcases z with rfl|rfl|rfl|rfl<;>exact CI
def nC{c o d l s u a y cf}(v:a.2=[])(p:a.1[2]? =N (pm (N ⟨n,0,X⟩)))(q:a.1[3]? =N s)(r:a.1[4]? =N u)(x:Wc px S m St K0 w0 L (G (xx cf (sh #[.agg (Ef c o d l),s,u])) cs)):Wc px S m St K0 w0 ((n,pj (Ef c o d l) 81)::L) (G { (base 142).at a y with mode:=Yi } (cf::cs)):=by
 refine Wc.leave _ R v R func142 (λw b=>?_) (Wc.drop (eL _ _) x);have f:=pS (j:=0) b;have g:=pS (j:=1) b;have h:=pS (j:=2) b;have i:=pS (j:=3) b;refine⟨by simp[results,results142,go_sem,Frame.at,p,q,r,f,g,h,i],λe j=>?_⟩;simp[results,results142,go_sem,Frame.at,p,q,r,f,g,h,i]at j;rcases j with rfl|rfl|rfl|rfl<;>exact CI
end
def vM(s D:ByteArray)(b a c Zp:Nat)(lb:Bool)(i:Nat):po:=tr (#[pk s,pk (qt s 0 4),ox sr b,pk s,pk (qt s 4 6),ox sr a,ox XX a,pk s,ox pg (8+(Zp:Int)+1),ox pg (8+(Zp:Int)),pk D,pk D,pk s,ox pg (8+(Zp:Int)+1),ox pg (8+(Zp:Int)),ox .u8 c,.bool lb,.agg (Ef b a D lb),ox pg (8+(Zp:Int)+1),p8,ox pg (8+(Zp:Int)+1),rh pw]:Array po) i p8
def T3(n b a:Nat)(D:ByteArray)(lb:Bool)(L:List (Nat×ZG))(l:Array Bool):List (Nat×ZG):=(n,if tr l 19 pi then pj (Ef b a D lb) 81 else pj C5 81)::L
section
variable {S:Who}{m:Nat}{St:gL->r9->pn->Prop}{K0:gL}{w0:pn}{L:List (Nat×ZG)}{cs:List tg}{cf:tg}
def SG{s D:ByteArray}{q p c Zp:Nat}{lb}(hs:ot s<=16777216)(I:(8:Int)<=(ot s:Int))(ai:8+Zp<ot s)(l4:p<65536)(ah:∀u:pn,(YJ 9 (pk s) (ox pg (8+(Zp:Int)))).run px u=.ok (ox .u8 (c:Int)) u)(ac:((c:Int) == 1)=lb)(hD:qt s 8 (8+Zp)=D)(ab:ot D<=16777216)(n4:Ut 194 #[pk (qt s 4 6)] (ox sr p))(n0:Ut 194 #[pk (qt s 0 4)] (ox sr q))(nx:Wc px S m St K0 w0 L (G (xx cf (sh #[.agg (Ef q p D lb),ox pg (8+(Zp:Int)+1),rh pw])) cs))(a:Act)(z:qd a.1=47/\a.2=[]/\a.1[2]? =N (pm (N ⟨n,0,X⟩))/\a.1[0]? =N (pk s)/\a.1[5]? =N (ox pg (8+(Zp:Int)+1))):Wc px S m St K0 w0 ((n,pj C5 81)::L) (G ((base 142).at a [.code (qv (.region 6 A7 pw) .ret)]) (cf::cs)):=by
 refine Wc.seq (Wc.fill (V:=vM s D q p c Zp lb) (L':=(n,pj (Ef q p D lb) 81)::L) (by rw[z.1];exact S4) (λl x A hF=>?_) (T3 n q p D lb L) R (λl A=>by rw[T3,A 19 aB];rfl) λl x i o rest g C ae hF B=>?_)
 .have e:∀{i t},i<22->kU A7 i=N t->x.1[t]? =N (vM s D q p c Zp lb i):=λC b=>hF.3 _ _ b (A _ C);exact .ret λd=>nC (oy hF.2 z.2.1) (oy (hF.slot Zm) z.2.2.1) (e (i:=20) aB R) (e (i:=21) aB R) nx
 .have keep:i≠19->T3 n q p D lb L (qb l i pw)=T3 n q p D lb L l:=λe=>by simp only[T3,getD_set_ne pi e]
  have go:i≠19->o.6=X->(∀w,(rj (p7 x) o).run px w=.ok (.value (vM s D q p c Zp lb i)) w)->(∀w,∀e∈(rj (p7 x) o).events px w #[],False)->Wc px S m St K0 w0 (T3 n q p D lb L l) (G ((base 142).at x (ri A7 (i::rest)::[.code .ret])) (cf::cs)):=λe d hr b=>
   Wc.rd _ g (wn d) (ul _) (λw _=>⟨hr w,λe h=>sj (b w e h)⟩) (by grind)
  have ad:=(fO g)
  have f:∀j t,waits A7 i j=pw->kU A7 j=N t->p7 x (sn t)=vM s D q p c Zp lb j:=λj t hw hd=>hF.ev hd (ae j hw);have v:=hF.old (s:=0) Zm z.2.2.2.1;have y:=hF.old (s:=5) Zm z.2.2.2.2;have E:(4:Int)<=(ot s:Int):=aA
  have F:(6:Int)<=(ot s:Int):=aA
  have J:8+(Zp:Int)<=ot s:=aA
  have ag:xh IntKind.u16 (p:Int)=p:=by rw[IntKind.wrap_u16];omega
  have O:xh pg (8+(Zp:Int))=8+(Zp:Int):=gj
  have P:xh pg (8+(Zp:Int)+1-1)=8+(Zp:Int):=gj
  have Q:8+(Zp:Int)+1-1=8+(Zp:Int):=aA
  have V:=λw r=>lD s _ _ w r (Gf s 4 w r aA E);have Y:=λw r=>lD s _ _ w r (xY s 4 6 w r aA aA F);have W:=λw r=>lD s _ _ w r (xY s 8 _ w r aA aA J);have aa:=λw r=>zn s (8+Zp) w r aA aA;have sl:∀u:pn,(ZN 9 (pk s) (N (ox pg 8)) (N (ox pg (8+(Zp:Int)))) X).run px u=.ok (pk D) u:=λu=>by rw[run_slice_string u _ s pg pg _ _ wq aA aA J,show qt s (8:Int).toNat (8+(Zp:Int)).toNat=D by rw[<-hD];congr 1]
  have T:∀w:pn,(Instr.build 81 #[(0,ox sr q),(1,ox XX p),(2,pk D),(3,.bool lb)]).run px w=.ok (.agg (Ef q p D lb)) w:=λw=>run_build w _ _ _ Zm
  match i,ad with
  |0,_=>
   let⟨h,d⟩:=jd (.move (sn 0),X) g R;refine go aB d (λw=>?_) λw e b=>?_
   .exact nq
   .unfold rj at b;simp only[h,v]at b;simp[go_sem]at b
  |1,_=>
   let⟨h,d⟩:=jd (.slice 9 (sn 28) X _ X,X) g R;refine go aB d (λw=>?_) λw e b=>?_
   .unfold rj;simp only[h,eT,bJ,f 0 28 R R];simp[vM,go_sem,I,E]
   .unfold rj at b;simp only[h,eT,bJ,f 0 28 R R]at b;simp[vM,go_sem,V]at b
  |2,_=>
   let⟨G,d⟩:=jd (.call { callee:=.value (.func 194),args:=#[sn 29],argTypes:=#[9] },X) g R;have h:=B;rw[keep aB]at h;exact n0 _ _ _ _ _ _ _ _ _ _ _ _ _ _ _ _ g (wn d) (ul _) G (by simp[f 1 29 R R,vM]) h
  |3,_=>
   let⟨h,d⟩:=jd (.move (sn 0),X) g R;refine go aB d (λw=>?_) λw e b=>?_
   .exact nq
   .unfold rj at b;simp only[h,v]at b;simp[go_sem]at b
  |4,_=>
   let⟨h,d⟩:=jd (.slice 9 (sn 31) _ _ X,X) g R;refine go aB d (λw=>?_) λw e b=>?_
   .unfold rj;simp only[h,eT,bJ,f 3 31 R R];simp[vM,go_sem,I,F]
   .unfold rj at b;simp only[h,eT,bJ,f 3 31 R R]at b;simp[vM,go_sem,Y]at b
  |5,_=>
   let⟨G,d⟩:=jd (.call { callee:=.value (.func 194),args:=#[sn 32],argTypes:=#[9] },X) g R;have h:=B;rw[keep aB]at h;exact n4 _ _ _ _ _ _ _ _ _ _ _ _ _ _ _ _ g (wn d) (ul _) G (by simp[f 4 32 R R,vM]) h
  |6,_=>
   let⟨h,d⟩:=jd (.convert 22 79 (sn 33),X) g R;refine go aB d (λw=>?_) λw e b=>?_
   .unfold rj;simp only[h,f 5 33 R R];simp[vM,go_sem,ag]
   .unfold rj at b;simp only[h,f 5 33 R R]at b;simp[vM,go_sem]at b
  |7,_=>
   let⟨h,d⟩:=jd (.move (sn 0),X) g R;refine go aB d (λw=>?_) λw e b=>?_
   .exact nq
   .unfold rj at b;simp only[h,v]at b;simp[go_sem]at b
  |8,_=>
   let⟨h,d⟩:=jd (.move (sn 5),X) g R;refine go aB d (λw=>?_) λw e b=>?_
   .unfold rj;simp only[h,y];rfl
   .unfold rj at b;simp only[h,y]at b;simp[go_sem]at b
  |9,_=>
   let⟨h,d⟩:=jd (.binOp _ 3 (sn 36) _ 3,X) g R;refine go aB d (λw=>?_) λw e b=>?_
   .unfold rj;simp only[h,f 8 36 R R];simp[vM,go_sem,P,Q,O]
   .unfold rj at b;simp only[h,f 8 36 R R]at b;simp[vM,go_sem]at b
  |10,_=>
   let⟨h,d⟩:=jd (.slice 9 (sn 35) _ (N (sn 37)) X,X) g R;refine go aB d (λw=>?_) λw e b=>?_
   .unfold rj;simp only[h,eT,bJ,f 7 35 R R,f 9 37 R R];simp[vM,go_sem,sl w]
   .unfold rj at b;simp only[h,eT,bJ,f 7 35 R R,f 9 37 R R]at b;simp[vM,go_sem,W]at b
  |11,_=>
   let⟨G,d⟩:=jd (.call { callee:=.value (.func 151),args:=#[sn 38],argTypes:=#[9] },X) g R;have h:=B;rw[keep aB]at h;exact IP D ab _ _ _ _ _ _ _ _ _ _ _ _ _ _ _ _ g (wn d) (ul _) G (by simp[f 10 38 R R,vM]) h
  |12,_=>
   let⟨h,d⟩:=jd (.move (sn 0),X) g R;refine go aB d (λw=>?_) λw e b=>?_
   .exact nq
   .unfold rj at b;simp only[h,v]at b;simp[go_sem]at b
  |13,_=>
   let⟨h,d⟩:=jd (.move (sn 5),X) g R;refine go aB d (λw=>?_) λw e b=>?_
   .unfold rj;simp only[h,y];rfl
   .unfold rj at b;simp only[h,y]at b;simp[go_sem]at b
  |14,_=>
   let⟨h,d⟩:=jd (.binOp _ 3 (sn 41) _ 3,X) g R;refine go aB d (λw=>?_) λw e b=>?_
   .unfold rj;simp only[h,f 13 41 R R];simp[vM,go_sem,P,Q,O]
   .unfold rj at b;simp only[h,f 13 41 R R]at b;simp[vM,go_sem]at b
  |15,_=>
   let⟨h,d⟩:=jd (.index 9 (sn 40) (sn 42),X) g R;refine go aB d (λw=>?_) λw e b=>?_
   .unfold rj;simp only[h,f 12 40 R R,f 14 42 R R];simp[vM,go_sem,ah]
   .unfold rj at b;simp only[h,f 12 40 R R,f 14 42 R R]at b;simp[vM,go_sem,aa]at b
  |16,_=>
   let⟨h,d⟩:=jd (.binOp _ 5 (sn 43) _ 5,X) g R;refine go aB d (λw=>?_) λw e b=>?_
   .unfold rj;simp only[h,f 15 43 R R];simp[vM,go_sem,ac]
   .unfold rj at b;simp only[h,f 15 43 R R]at b;simp[vM,go_sem]at b
  |17,_=>
   let⟨h,d⟩:=jd (.build 81 #[(0,sn 30),(1,sn 34),(2,sn 39),(3,sn 44)],X) g R;refine go aB d (λw=>?_) λw e b=>?_
   .unfold rj;simp only[h,dC,cL,dB,f 2 30 R R,f 6 34 R R,f 11 39 R R,f 16 44 R R];simp[vM,go_sem,T]
   .unfold rj at b;simp only[h,dC,cL,dB,f 2 30 R R,f 6 34 R R,f 11 39 R R,f 16 44 R R]at b;simp[vM,go_sem]at b
  |18,_=>
   let⟨h,d⟩:=jd (.move (sn 5),X) g R;refine go aB d (λw=>?_) λw e b=>?_
   .unfold rj;simp only[h,y];rfl
   .unfold rj at b;simp only[h,y]at b;simp[go_sem]at b
  |19,_=>
   let⟨af,d⟩:=jd (.store 81 (sn 2) (sn 45),X) g R;have h:=He C;have G:=B;simp only[T3,h.1,h.2,if_true,if_false,bE]at G⊢;exact Wc.st (j:=0) _ R g (wn d) (ul _) (λw A=>mV (hF.old (s:=2) Zm z.2.2.1) (f 17 45 R R) af w A) G
  |20,_=>
   let⟨h,d⟩:=jd (.assign (sn 46),X) g R;refine go aB d (λw=>?_) λw e b=>?_
   .unfold rj;simp only[h,f 18 46 R R];rfl
   .unfold rj at b;simp only[h,f 18 46 R R]at b;simp[go_sem]at b
  |21,_=>
   let⟨h,d⟩:=jd (.assign _,X) g R;refine go aB d (λw=>?_) λw e b=>?_
   .unfold rj;simp only[h];rfl
   .unfold rj at b;simp only[h]at b;simp[go_sem]at b
end
def I2(s:ByteArray)(hs:ot s<=16777216):Ut 142 #[pk s] (fv (one s.1.1 0)):=by
 intro S m St K0 w0 L b a k cs ops i rest o xs aj z hw W Y hx g;refine Wc.call z hw W Y func142 R R ?_;rw[hx];simp only[ntmps142,bZ,aP,bH,Nat.reduceAdd,Nat.reduceSub,bP,bO,cD,bQ,cA,bX]
 have g:Wc px S m St K0 w0 L (G (xx (b.at a (ri ops (i::rest)::k)) (fv (one s.1.1 0))) cs):=by
  rw[dA,z];exact g
 have f:=aW s;obtain⟨Zs,l⟩:∃Zs,one s.1.1 0=Zs:=⟨_,R⟩
 rw[l]at g;generalize b.at a (ri ops (i::rest)::k)=cf at g;have j:Hid _:=g;have el:=B1;clear g z hw W Y hx;refine Wc.seq (Wc.reg [0,1,2] R ?_);refine Wc.al (pj C5 81) (λn=>pm (N ⟨n,0,X⟩)) R R (ul _) (λw f=>⟨by simp[go_sem],λe x=>by simp[go_sem]at x⟩) λn=>?_;walk_nrm;by_cases h8:ot s<8
 .obtain rfl:Zs=X:=oy l.symm (xL aA);have ab:(ot s:Int)<8:=by omega
  clear f l;refine Wc.go 30 λK w d=>?_
  iterate 2 u_op At.en d
  u_c pu At.en d
  iterate 2 u_c rp At.en d
  u_reg At.en d
  iterate 3 u_op At.en d
  u_c pu At.en d;u_cond pw At.en d;u_c rp At.en d;u_reg At.en d;u_op At.en d;refine sg λ_ h₁=>Wc.use ?_ (d.en h₁);clear d;refine Wc.st (j:=0) (pj C5 81) R R R (ul _) (λw f=>mV R R R w f) ?_;walk_nrm;refine Wc.go 30 λK w d=>?_
  iterate 2 u_op At.en d
  u_c pu At.en d;refine sg λ_ h₁=>Wc.use ?_ (d.en h₁);exact .ret λe=>nC R R R R j.out
 have ab:¬(ot s:Int)<8:=aA
 have Q:(8:Int)<=(ot s:Int):=aA
 have P:big (qt s 6 8).1.1 0 (ot (qt s 6 8))=big s.1.1 6 2:=by
  rw[Fr.ext_list,show ot (qt s 6 8)=2 from ki];exact Cj _ 6 2
 have O:big (qt s 4 6).1.1 0 (ot (qt s 4 6))=big s.1.1 4 2:=by
  rw[Fr.ext_list,show ot (qt s 4 6)=2 from ki];exact Cj _ 4 2
 have J:big (qt s 0 4).1.1 0 (ot (qt s 0 4))=big s.1.1 0 4:=by
  rw[Fr.ext_list,show ot (qt s 0 4)=4 from ki];exact Cj _ 0 4
 have F:=qN (qt s 6 8) ki;have E:=qN (qt s 4 6) ki;have C:=qN (qt s 0 4) ki;rw[P]at F;rw[O]at E;rw[J]at C;clear P O J;have l6:=lZ s.1.1 6 2;have l0:=lZ s.1.1 0 4;have l4:=lZ s.1.1 4 2;simp only[Nat.reducePow]at l6 l0 l4;have B:ot s≠8->one s.1.1 0=_:=λh=>HA (s:=s.1.1) (p:=0) aA;simp only[cX]at B;generalize hN:big s.1.1 6 2=Zp at *;generalize ad:big s.1.1 0 4=C4 at *;generalize ac:big s.1.1 4 2=C2 at *;have N6:Hid _:=F;have N4:Hid _:=E;have N0:Hid _:=C;have v:Hid _:=B;have r:Hid _:=f;have q:Hid _:=l;clear F E C B f hN ad ac l;refine Wc.go 30 λK w d=>?_
 iterate 2 u_op At.en d
 u_c pu At.en d
 iterate 2 u_c rp At.en d
 u_reg At.en d
 iterate 3 u_op At.en d
 u_c pu At.en d;u_cond pi At.en d;u_c ye At.en d;u_c rp At.en d;u_reg At.en d;u_op At.en d;have ev:=λw p=>lD s _ _ w p (xY s 6 8 w p aA aA Q);u_op At.en d;refine sg λ_ h₁=>Wc.use ?_ (d.en h₁);clear d ev;refine N6 _ _ _ _ _ _ _ _ _ _ _ _ _ _ _ _ R R (ul _) R (by simp[p7]) ?_;walk_nrm;have ao:xh pg (Zp:Int)=Zp:=gj
 have ap:xh pg (8+(Zp:Int))=8+(Zp:Int):=gj
 have aq:xh pg (8+(Zp:Int)+1)=8+(Zp:Int)+1:=gj
 by_cases hn:ot s<9+Zp
 .have ai:(ot s:Int)<8+(Zp:Int)+1:=by omega
  obtain rfl:Zs=X:=oy q.symm (by
   by_cases h:ot s=8
   .exact xL (by rw[<-r.out];omega)
   .rw[v h,Zb (by rw[<-r.out];exact hn)])
  refine Wc.go 40 λK w d=>?_
  iterate 4 u_op At.en d
  u_c pu At.en d
  iterate 2 u_c rp At.en d
  u_reg At.en d
  iterate 5 u_op At.en d
  iterate 5 u_skip At.en d
  u_op At.en d;u_c pu At.en d;u_cond pw At.en d;u_c rp At.en d;u_reg At.en d;u_op At.en d;refine sg λ_ h₁=>Wc.use ?_ (d.en h₁);clear d;refine Wc.st (j:=0) (pj C5 81) R R R (ul _) (λw f=>mV R R R w f) ?_;walk_nrm;refine Wc.go 30 λK w d=>?_
  iterate 2 u_op At.en d
  u_c pu At.en d;refine sg λ_ h₁=>Wc.use ?_ (d.en h₁);exact .ret λe=>nC R R R R j.out
 have ai:¬(ot s:Int)<8+(Zp:Int)+1:=aA
 have y:8+Zp<ot s:=aA
 have aa:=λu=>RZ u s (8+Zp) _ y aA;have ak:=λw p=>zn s (8+Zp) w p aA aA;have V:=Fr.iC s _ y;obtain⟨c,hc⟩:∃c:Nat,pf s[8+Zp]=c:=⟨_,R⟩
 have an:c<256:=by rw[<-hc];exact xi _
 rw[hc]at aa;have A:=v aA;rw[Za (by rw[<-r.out];omega),V,hc]at A;have I:Hid _:=A;have ar:xh pg (8+(Zp:Int)+1-1)=8+(Zp:Int):=gj
 have au:8+(Zp:Int)+1-1=8+(Zp:Int):=aA
 clear V hc A v;by_cases T:1<c
 .have e:(1:Int)<(c:Int):=by omega
  obtain rfl:Zs=X:=oy q.symm (by rw[I.out,Zb T]);refine Wc.go 40 λK w d=>?_
  iterate 4 u_op At.en d
  u_c pu At.en d
  iterate 2 u_c rp At.en d
  u_reg At.en d
  iterate 11 u_op At.en d
  u_c pu At.en d;u_cond pw At.en d;u_c rp At.en d;u_reg At.en d;u_op At.en d;refine sg λ_ h₁=>Wc.use ?_ (d.en h₁);clear d;refine Wc.st (j:=0) (pj C5 81) R R R (ul _) (λw f=>mV R R R w f) ?_;walk_nrm;refine Wc.go 30 λK w d=>?_
  iterate 2 u_op At.en d
  u_c pu At.en d;refine sg λ_ h₁=>Wc.use ?_ (d.en h₁);exact .ret λx=>nC R R R R j.out
 .have am:¬(1:Int)<(c:Int):=by omega
  obtain⟨e,G⟩:∃e:Bool,((c:Int) == 1)=e:=⟨_,R⟩
  have ah:(c == 1)=e:=by
   rw[<-G];rcases(by omega:c=0\/c=1)with rfl|rfl<;>rfl
  obtain⟨D,x⟩:∃D:ByteArray,qt s 8 (8+Zp)=D:=⟨_,R⟩
  have ae:(⟨((s.1.1.take (8+Zp)).drop 8).toArray⟩:ByteArray)=D:=by rw[<-x,<-Fr.ext_list]
  have af:ot D<=16777216:=by rw[<-x];exact ki
  have ag:fv Zs=sh #[.agg (Ef C4 C2 D e),ox pg (8+(Zp:Int)+1),rh pw]:=by
   rw[<-q.out,I.out,Za T,ah];simp only[fv,ae,Ef]
   congr 5
   omega
  rw[ag]at j;refine Wc.go 40 λK w d=>?_
  iterate 4 u_op At.en d
  u_c pu At.en d
  iterate 2 u_c rp At.en d
  u_reg At.en d
  iterate 11 u_op At.en d
  u_c pu At.en d;u_cond pi At.en d;u_c ye At.en d;refine sg λ_ h₁=>Wc.use ?_ (d.en h₁);clear d;exact SG (c:=c) hs Q y l4 aa G x af N4 N0 j _ ⟨R,R,R,R,R⟩
end Cr
namespace Cr
open Go Go.Conc Go.ConcN Go.RowKit Go.Conc.Lib Go.ConcR.Gen Go.ConcN.Gen
open Go.ConcR (KK WgAt stA smA Payload DC0)
open Fr (F flat)
section
variable {v:po}{fs:List F}{Zs:List (Nat×ZG)}{w:pn}
def uD(v:po)(fs:List F)(Zs:List (Nat×ZG)):=
 (v=U X 0 0/\fs=[]/\Zs=[])\/∃g a b,v=U (N ⟨g,0,X⟩) (M fs) a/\Zs=[(g,pj b 81)]/\M fs<=a/\a<=maxLen/\qd b=a*4/\b.1.take (M fs*4)=flat fs
def uD.slice(h:uD v fs Zs):∃a c,v=.slice a (M fs) c:=by rcases h with⟨rfl,rfl,_⟩|⟨g,b,d,rfl,_⟩<;>exact⟨_,_,R⟩
abbrev zF(x:F):Array po:=Ef x.1 x.2 ⟨x.3.toArray⟩ x.4
def GI:(Tryz.prog.info? 81).map (λi=>(i.8,i.3,i.4))=N (N (.agg C5),4,32):=Zm
def Q8{A d n0 n3 x}(G:uD v fs Zs)(O:Lies (A++(Zs++d)) n0 w)(ac:(n3,pj (zF x) 81)∈A)(aw:M fs<1048576):∃B C R',(By #[76,76] 76 #[v,U (N ⟨n3,0,X⟩) 1 1]).run px w=.ok B C/\uD B (fs++[x]) R'/\∀n:Array Zx,(∀e∈n,e∈(By #[76,76] 76 #[v,U (N ⟨n3,0,X⟩) 1 1]).events px w #[])->Turn (A++(Zs++d)) (A++(R'++d)) w C n:=by
 obtain⟨ie,J,V,W,Y⟩:∃i,Tryz.prog.info? 81=N i/\i.8=N (.agg C5)/\i.3=4/\i.4=32:=by
  have:=GI;cases h:Tryz.prog.info? 81 with
  |none=>grind
  |some i=>
   grind
 have P:=λp D=>(O.2 p D).2;have t:=P _ (List.mem_append_left _ ac);have aa:=Fr.flat_length fs
 have ae:w.ownsRow 0 81 4 v (M fs) (flat fs):=by
  refine⟨aa,G.imp (λh=>⟨h.1,by rw[h.2.1];rfl⟩) ?_⟩;rintro⟨g,f,c,e,rfl,r⟩;exact⟨g,f,c,e,bU _,P (g,pj c 81) aC,r⟩
 have ap:Hm.fM w 81 4 v (M fs) (flat fs):=by
  refine⟨aa,G.imp (λh=>⟨h.1,by rw[h.2.1];rfl⟩) ?_⟩;rintro⟨g,f,c,e,rfl,r,r2,r3,r4⟩;refine⟨g,0,f,c,e,P (g,pj c 81) aC,r,r2,aA,λj u q=>?_⟩;rw[<-r4]at q;rw[cX,<-Array.getElem?_toList]
  have l:j<M fs*4:=by
   have:=(aJ.1 q).1;rw[bA]at this;omega
  rw[eC l]at q;exact q
 have S:M (zF x).1=1*4:=R
 have Q:∀j u,(zF x).1[j]? =N u->Z w ((⟨n3,0,X⟩:zm).add j)=N u:=λj u q=>by
  rw[show(⟨n3,0,X⟩:zm).add j=⟨n3,j,X⟩ from by unfold Addr.add;split<;>simp_all,aG t];simpa using q
 have a:∀u∈(zF x).1,sw u=pw:=λu hu=>by
  simp only[bM,List.not_mem_nil,or_false]at hu;rcases hu with rfl|rfl|rfl|rfl<;>rfl
 have E:M fs+1<=maxLen:=aE
 let⟨B,C,hr,ho,I,ax⟩:=run_append_own (P:=px) w 0 76 76 81 ie _ 4 32 YB J V W Y R aA v _ _ ae _ 1 1 _ S Q a E aA (bU _);obtain⟨az,a0,T,_,⟨g2,ay,au,aq⟩,ar⟩:=ap.append (P:=px) 76 76 ie _ 32 YB J V W Y R aA _ 1 1 _ aA S Q a E aA;rw[hr]at T;simp only[Result.ok.injEq]at T;obtain⟨rfl,rfl⟩:=T;have an:=events_append_where (P:=px) w 0 76 76 81 ie _ 4 32 YB J V W Y v _ _ ae _ 1 1 _ S Q a E aA
 obtain⟨o,ah,m,af,_,ab,av,ai,aj,ak⟩:∃g f c,B=U (N ⟨g,0,X⟩) (M fs+1) f/\0<=g/\C.1[g]? =N (pj c 81 (0,0))/\M fs+1<=f/\f<=maxLen/\qd c=f*4/\c.1.take ((M fs+1)*4)=flat fs++(zF x).1:=by
  obtain⟨h,_⟩|h:=ho.2
  .rw[aq]at h;cases h
  .exact h
 refine⟨B,C,_,hr,rz ⟨o,ah,m,by grind,R,by grind,ai,aj,by rw[aN,jY];exact ak⟩,λn am=>?_⟩
 have ag:∀g,v.ownBlock=N g->∃s,Zs=[(g,s)]:=λg I=>by
  obtain⟨rfl,_⟩|⟨o,f,c,rfl,rfl,_⟩:=G
  .cases I
  .cases I;exact⟨_,R⟩
 have hE:∀{Zp N':Nat},∀e∈n,EvA (A++(Zs++d)) Zp N' e:=λe z=>by
  have z:=am e z;obtain⟨l,a,⟨_,b⟩|b⟩|⟨mk,rfl,b⟩:=an e z
  .exact LB (FA (Ey _ _ _) z) a ⟨_,List.mem_append_left _ ac,b.symm⟩
  .obtain⟨s,rfl⟩:=ag _ b.symm;exact LB (FA (Ey _ _ _) z) a ⟨(l.1,s),aC,R⟩
  .unfold Neutral at b;subst b;exact rz (rz (rr ⟨_,_,R⟩))
 obtain⟨a,b,t⟩|⟨a,b,t⟩:=ar
 .rw[af]at a;have a:N o=v.ownBlock:=a;obtain⟨s,rfl⟩:=ag _ a.symm;have:=Turn.set (i:=M A) (o':=pj m 81) (w0:={ w with heap:=wy n0 default }) (es:=n) (by simpa using O) (show(A++([(o,s)]++d))[M A]? =N (o,s) by simp) t (λy l=>?_) ab b.2 b.1 b.3 hE
  .exact ir
  .obtain h|h:=dH y ↑w
   .exact b.5 y h λe=>l (by grind)
   grind
 .rw[af]at a;have a:N o=N w.1.size:=a;cases a;have l:=Turn.lay (w0:={ w with heap:=wy n0 default }) (es:=n) (by simpa using O) t (λy hy=>b.5 y hy aC) ab b.2 b.1 b.3 hE;have r:(A++(w.1.size,pj m 81)::d).Sublist (A++(w.1.size,pj m 81)::(Zs++d)):=(eI A).append (.cons_cons _ (qag _ _));have D:((w.1.size,pj m 81)::(A++(Zs++d))).Perm (A++(w.1.size,pj m 81)::(Zs++d)):=List.perm_middle.symm;exact⟨l.1,l.2,l.3,l.4,l.5,λp ao=>l.6 p (D.mem_iff.2 (r.subset ao)),((D.pairwise_iff λh=>YI h).1 l.7).sublist r,l.8⟩
end
end Cr
namespace Cr
open Go Go.Conc Go.ConcN Go.RowKit Go.Conc.Lib Go.ConcR.Gen Go.ConcN.Gen
open Go.ConcR (KK WgAt stA smA Payload DC0)
open Fr (F flat one frames)
variable {n j B l:Nat}{ob:ZG}{w:pn}{v v':po}{t:wj}{p:ZT}{Zs:List (Nat×ZG)}{r:Loop}{c:tg}
def lP(o:OF):Bool:=match o.2 with|.defer _=>pi|_=>pw
def lP.out{o}(h:lP o=pw)(c):o.2≠.defer c:=λe=>by simp[lP,e]at h
section
variable {S:Who}{m:Nat}{St:gL->r9->pn->Prop}{K0:gL}{w0:pn}{L L0:List (Nat×ZG)}{b:tg}{a:Act}{k:List qbe}{cs:List tg}{ops:Array OF}{i:Nat}{rest:List Nat}{o:OF}
def G3{Zp d i wr}(h:L[j]? =N (n,ob)):EvA L Zp d ⟨.cell ⟨n,i,X⟩,wr,pi⟩:=rr ⟨_,_,R,rr ⟨_,aS h,R⟩⟩
def Wc.VX(v)(u:ops[i]? =N o)(hw:sy o (yielded ops a.1)=pw)(s:b.6≠.early)(g:lP o=pw)(h:∀w,Lies L ↑w0 w->(rj (p7 a) o).run px w=.ok (.value v) w/\∀e∈(rj (p7 a) o).events px w #[],EvA L ↑w ↑w e)(f:Wc px S m St K0 w0 L (G (b.atR (td a o.1 v) (ri ops rest::k)) cs)):Wc px S m St K0 w0 L (G (b.atR a (ri ops (i::rest)::k)) cs):=
 .VJ u hw s (lP.out g) λw d=>⟨v,w,L,rr (h w d).1,.still d λe q=>(h w d).2 e (ym q),f⟩
def Wc.XI(ob)(v:Nat->po)(u:ops[i]? =N o)(hw:sy o (yielded ops a.1)=pw)(s:b.6≠.early)(g:lP o=pw)(h:∀w,Lies L ↑w0 w->(rj (p7 a) o).run px w=.ok (.value (v ↑w)) (o6 w ob)/\∀e∈(rj (p7 a) o).events px w #[],EvA L ↑w (w.1.size+1) e)(f:∀n,Wc px S m St K0 w0 ((n,ob)::L) (G (b.atR (td a o.1 (v n)) (ri ops rest::k)) cs)):Wc px S m St K0 w0 L (G (b.atR a (ri ops (i::rest)::k)) cs):=
 .VJ u hw s (lP.out g) λw d=>⟨_,_,_,rr (h w d).1,.alloc d ob λe q=>(h w d).2 e (ym q),f _⟩
def Wc.Xa(f)(u:L[j]? =N (B,ob))(y:ops[i]? =N o)(hw:sy o (yielded ops a.1)=pw)(x:b.6≠.early)(q:lP o=pw)(h:∀w,Lies L ↑w0 w->(rj (p7 a) o).run px w=.ok .skip (rq w B f)/\∀e∈(rj (p7 a) o).events px w #[],EvA L ↑w ↑w e)(g:Wc px S m St K0 w0 (L.set j (B,f)) (G (b.atR (td a o.1 p8) (ri ops rest::k)) cs)):Wc px S m St K0 w0 L (G (b.atR a (ri ops (i::rest)::k)) cs):=
 .VJ y hw x (lP.out q) λw d=>⟨_,_,_,rz ⟨(h w d).1,R⟩,.put d u λe s=>(h w d).2 e (ym s),g⟩
def yT(g:L[j]? =N (n,pj #[v] t))(q:Lies L ↑w0 w)(hp:p7 a p=pm (N ⟨n,0,X⟩))(s:o.2=.load t p)(u:t=76\/t=3\/t=9):(rj (p7 a) o).run px w=.ok (.value v) w/\∀e∈(rj (p7 a) o).events px w #[],EvA L ↑w ↑w e:=by
 have h:=lA q g;have d:Z w ⟨n,0,X⟩=N v:=by simp[Z,h]
 unfold rj;simp only[s,hp];rcases u with rfl|rfl|rfl<;>
 .refine⟨by simp[go_sem,d],λe f=>?_⟩;simp[go_sem,d]at f;subst f;exact G3 g
def Gl{q}(g:L[j]? =N (n,pj #[v] t))(u:Lies L ↑w0 w)(hp:p7 a p=pm (N ⟨n,0,X⟩))(y:p7 a q=v')(x:o.2=.store t p q)(A:(∃a k c,v'=U a k c/\t=76)\/∃e,v'=ox pg e/\t=3):(rj (p7 a) o).run px w=.ok .skip (rq w n (pj #[v'] t))/\∀e∈(rj (p7 a) o).events px w #[],EvA L ↑w ↑w e:=by
 have h:=lA u g;have d:Z w ⟨n,0,X⟩=N v:=by simp[Z,h]
 have s:sk w ⟨n,0,X⟩=pi:=aM h 0;have z:o3 w ⟨n,0,X⟩ v'=rq w n (pj #[v'] t):=I4 h;unfold rj;simp only[x,hp,y,<-z];rcases A with⟨a,k,c,rfl,rfl⟩|⟨e,rfl,rfl⟩<;>
 .refine⟨by simp[go_sem,stored,d,s],λe f=>?_⟩;simp[go_sem,stored,storedEv,d,s,qaj _ _ _ _ _ _ (show sw (U _ _ _)=pw from R)]at f;subst f;exact G3 g
def Aa{w' d}(s x t)(e:o.2=.call { callee:=.builtin .append,args:=#[s,x],argTypes:=#[t,t] })(g:p7 a s=v)(h:p7 a x=d)(f:(By #[t,t] o.3 #[v,d]).run px w=.ok v' w'):(rj (p7 a) o).run px w=.ok (.value v') w':=by
 unfold rj;simp only[e,resolve,invoke,builtin,eM,Sem.run_pure,dT,dC,cL,dB,g,h,f]
def KJ(w x):(qas 76 1 #[(0,.agg (zF x))]).run px w=.ok (U (N ⟨w.1.size,0,X⟩) 1 1) (o6 w (pj (zF x) 81))/\(qas 76 1 #[(0,.agg (zF x))]).events px w #[]=#[]:=by
 obtain⟨f,g,q,e,s⟩:∃i,Tryz.prog.info? 81=N i/\i.8=N (.agg C5)/\i.3=4/\i.4=32:=by
  have:=GI;cases h:Tryz.prog.info? 81 with
  |none=>grind
  |some i=>
   grind
 have d:Instr.fill (λi=>N (i*f.3,f.3)) ((Array.range (1*f.3)).map ((Value.agg C5).cells[· % qd (Value.agg C5).cells]!)) (#[(0,Value.agg (zF x))]:Array (Nat×po)).1=N (zF x):=by rw[e];kernel_rfl
 refine⟨run_buildSlice w _ _ 1 _ _ f _ YB g q (by rw[e];decide) (by rw[e];decide) d,?_⟩;have d:Instr.fill (λi=>N (i*4,4)) (Array.map (λx=>(Value.agg C5).cells[x%qd (Value.agg C5).cells]!) (Array.range 4)) [(0,.agg (zF x))]=N (zF x):=by rw[e]at d;exact d
 simp[d,qas,vh YB,sizeOf,typeInfo,zeroValue,g,q,e,newRow]
def EL{c0 y q x}(u:L[j]? =N (n,pj (Ef c0 y q x) 81))(z:Lies L ↑w0 w)(hp:p7 a p=pm (N ⟨n,0,X⟩))(A:o.2=.load 81 p):(rj (p7 a) o).run px w=.ok (.value (.agg (Ef c0 y q x))) w/\∀e∈(rj (p7 a) o).events px w #[],EvA L ↑w ↑w e:=by
 have h:=lA z u;have c0:=aG h 0;have d:=aG h 1;have f:=aG h 2;have g:=aG h 3;unfold rj;simp only[A,hp];refine⟨by simp[go_sem,c0,d,f,g],λe s=>?_⟩;simp[go_sem,c0,d,f,g]at s;rcases s with rfl|rfl|rfl|rfl<;>exact G3 u
noncomputable def Nt:vy:=match f59.9 with
 |some (qv _ (qv _ (qv _ (qv _ (qv _ (qv (qv _ (.block _ (.rangeFunc _ _ c _))) _))))))=>c
 |_=>.skip
noncomputable def KG:vy:=match f59.9 with
 |some (qv _ (qv _ (qv _ (qv _ (qv _ (qv (qv _ (.block _ (.rangeFunc _ _ _ c))) _))))))=>c
 |_=>.skip
noncomputable def Xz:vy:=match f59.9 with
 |some (qv _ (qv _ (qv _ (qv _ (qv _ (qv _ c))))))=>c
 |_=>.skip
def JG{C D u2 u3 u4 u7 u8 u9 I J O P Q V W Y aa ab ac ad ae af ag ah ai aj ak am an ao ap aq ar}{d A E F p e:Nat}{T fs x}(ax:r.1=.ready)(ay:r.2=X)(hR:uD v fs Zs)(aw:M fs<1048576)(nx:∀v' u,uD v' (fs++[x]) u->Wc px S m St K0 w0 ((l,.loop r)::(d,uu (N []))::(A,pj #[pk T] 9)::(E,pj #[ox pg e] 3)::(F,pj #[v'] 76)::(u++L0)) (G (xx c (rh pw)) cs)):Wc px S m St K0 w0 ((l,.loop r)::(d,uu (N []))::(A,pj #[pk T] 9)::(E,pj #[ox pg p] 3)::(F,pj #[v] 76)::(Zs++L0)) (G (Frame.round l 59 #[C,D,u2,u3,u4,pm (N ⟨F,0,X⟩),pm (N ⟨E,0,X⟩),u7,u8,u9,I,J,O,P,Q,V,W,Y,aa,ab,ox pg e,.agg (zF x),ac,ad,ae,af,ag,ah,ai,aj,ak,am,an,ao,ap,aq,ar] Nt KG .normal) (c::cs)):=by
 rw[show Frame.round l 59 #[C,D,u2,u3,u4,pm (N ⟨F,0,X⟩),pm (N ⟨E,0,X⟩),u7,u8,u9,I,J,O,P,Q,V,W,Y,aa,ab,ox pg e,.agg (zF x),ac,ad,ae,af,ag,ah,ai,aj,ak,am,an,ao,ap,aq,ar] Nt KG .normal=Frame.atR { base 59 with roundOf:=N l } ⟨#[C,D,u2,u3,u4,pm (N ⟨F,0,X⟩),pm (N ⟨E,0,X⟩),u7,u8,u9,I,J,O,P,Q,V,W,Y,aa,ab,ox pg e,.agg (zF x),ac,ad,ae,af,ag,ah,ai,aj,ak,am,an,ao,ap,aq,ar],[]⟩ [.code Nt,.beginRound,.code KG] from R];obtain⟨s,y⟩:∃s,s=({ base 59 with roundOf:=N l }:tg):=⟨_,R⟩
 have hk:s.6=.normal:=by rw[y];rfl
 have q:s.6≠.early:=by rw[hk];decide
 have av:s.7=N l:=by rw[y]
 rw[<-y];clear y;have NX:Hid _:=nx;clear nx;rw[show Nt=qv _ _ from R];refine Wc.U7 (Wc.Qz [0] R ?_);refine Wc.VX (.int _ e) R R q R (λw _=>⟨R,λe g=>by simp[go_sem]at g⟩) ?_;walk_nrm;refine Wc.Iq (Wc.Qz [0,1] R ?_);refine Wc.XI (pj C5 81) (λn=>pm (N ⟨n,0,X⟩)) R R q R (λw f=>⟨by simp[go_sem],λe g=>by simp[go_sem]at g⟩) λfb=>?_;walk_nrm;refine Wc.Xa (j:=0) (pj (zF x) 81) R R R q R (λw f=>mV R R R w f) ?_;walk_nrm;refine Wc.Iq (Wc.begin (j:=1) R ax av q ?_);rw[show KG=.block 1 (qv _ _) from R];refine Wc.Sr (Wc.U7 (Wc.Qz [0,1,2,3,4] R ?_));refine Wc.VX v R R q R (λw f=>yT (j:=5) R f R R (rr R)) ?_;walk_nrm;refine Wc.VX (.agg (zF x)) R R q R (λw f=>EL (j:=0) R f R R) ?_;walk_nrm;refine Wc.XI (pj (zF x) 81) (λn=>U (N ⟨n,0,X⟩) 1 1) R R q R (λw f=>?_) λz=>?_
 .have h:=KJ w x;refine⟨by simp[go_sem,h.1],λe g=>?_⟩;simp[go_sem,h.2]at g
 walk_nrm;refine Wc.VJ R R q (lP.out R) λw f=>?_;let⟨v',w',u,h1,au,h2⟩:=Q8 (A:=[(z,pj _ 81),(fb,pj _ 81),(l,.loop _),(d,.deferred _),(A,pj _ 9),(E,pj _ 3),(F,pj _ 76)]) (n3:=z) hR f (.head _) aw;refine⟨v',w',_,rr (Aa _ _ _ R R R h1),h2 _ λe g=>by have g:=ym g;rw[events_append_op (v:=v) (xv:=U (N ⟨z,0,X⟩) 1 1) (sn 22) (sn 24) 76 R R R]at g;exact g,?_⟩;clear h1 h2 f;let⟨va,vc,hv⟩:=au.slice;walk_nrm;refine Wc.Xa (j:=6) (pj #[v'] 76) R R R q R (λw f=>Gl (j:=6) R f R R R (rr ⟨_,_,_,hv,R⟩)) ?_;walk_nrm;refine Wc.Iq (Wc.Qz [0,1] R ?_);refine Wc.VX (.int _ e) R R q R (λw _=>⟨R,λe g=>by simp[go_sem]at g⟩) ?_;walk_nrm;refine Wc.Xa (j:=5) (pj #[.int _ e] 3) R R R q R (λw f=>Gl (j:=5) R f R R R (rz ⟨_,R,R⟩)) ?_;walk_nrm;refine Wc.Iq (Wc.KM (Wc.Xf (j:=2) R av hk ?_));refine Wc.drop (.cons _ (.cons _ (eI _))) ?_;have hr:({ ({ r with state:=.busy }:Loop)with state:=.ready,pending:=X }:Loop)=r:=by cases r;simp_all
 rw[hr];exact NX v' u au
end
end Cr
namespace Cr
open Go Go.Conc Go.ConcN Go.RowKit Go.Conc.Lib Go.ConcR.Gen Go.ConcN.Gen
open Go.ConcR (KK WgAt stA smA Payload DC0)
open Fr (F flat one frames)
variable {l:Nat}
noncomputable def NF:vy:=match f141.9 with
 |some (qv _ (.block _ (.loop c)))=>c
 |_=>.skip
section
variable {S:Who}{m:Nat}{St:gL->r9->pn->Prop}{K0:gL}{w0:pn}{L0:List (Nat×ZG)}{cs:List tg}
abbrev WV(s T:ByteArray)(F E a:Nat)(x y:po):Array po:=#[pk s,p8,U X 0 0,rh pi,pk T,pm (N ⟨F,0,X⟩),pm (N ⟨E,0,X⟩),p8,p8,pk s,rh pi,rh pi,pk s,ox .u8 0,rh pi,rh pi,pk s,pk T,pk T,.func (.func 141) #[] #[pm (N ⟨a,0,X⟩)],x,y,p8,p8,p8,p8,p8,p8,p8,p8,p8,p8,p8,p8,p8,p8,p8]
noncomputable abbrev Qw(s T:ByteArray)(F E a d:Nat):Loop:={ state:=.ready,pending:=X,fn:=59,tmps:=WV s T F E a p8 p8,params:=#[20,21],assign:=Nt,body:=KG,defers:=d }
noncomputable abbrev Xx(s T:ByteArray)(F E a d l p:Nat)(v:po)(Zs:List (Nat×ZG)):List (Nat×ZG):=(l,.loop (Qw s T F E a d))::(d,uu (N []))::(a,pj #[pk T] 9)::(E,pj #[ox pg p] 3)::(F,pj #[v] 76)::Zs
def Jw{s T:ByteArray}{d g E F}{b:tg}{a k}(hT:ot T<=1048576)(B:∀v h Zs p,uD v h Zs->Kh T.1.1 h p->one T.1.1 p=X->Wc px S m St K0 w0 (Xx s T F E g d l p v (Zs++L0)) (G (b.at a (.endRangeFunc l::k)) cs)):∀r p,ot T-p<r->∀v h Zs,uD v h Zs->Kh T.1.1 h p->∀u4 u5 u6 u7 u8 u9 D I J O P Q V W Y aa ab ac ad ae af:po,Wc px S m St K0 w0 (Xx s T F E g d l p v (Zs++L0)) (G ((base 141).at ⟨#[.func (.yield l) #[] #[],pm (N ⟨g,0,X⟩),p8,ox pg p,u4,u5,u6,u7,u8,u9,D,I,J,O,P,Q,V,W,Y,aa,ab,ac,ad,ae,af],[]⟩ [.code NF,.inLoop NF,.inBlock 0]) (b.at a (.inRangeFunc l::k)::cs)):=by
 intro r
 induction r with
 |zero=>intro p c;omega
 |succ r ih=>
  intro p hr v h Zs z i u4 u5 u6 u7 u8 u9 D I J O P Q V W Y aa ab ac ad ae af;have A:=i.le;rw[<-aW]at A;have ah:(0:Int)<=(p:Int):=aA
  have ai:(p:Int)<=ot T:=aA
  have o:=I2 (qt T p (ot T)) aD;rw[show(qt T p (ot T)).1.1=T.1.1.drop p by rw[Fr.ext_list,cK aC],<-xg _ _ (by rw[<-aW];exact A.1)]at o;have ev:=λw y=>lD T _ _ w y (xK T p w y ah ai);rw[show NF=.block 1 (qv _ _) from R];refine Wc.block (Wc.seq (Wc.reg [0,1,2,3,4,5,6,7,8,9,10,11] R ?_));refine Wc.rd _ R R (ul _) (λw f=>yT (j:=2) R f R R (rz (rz R))) ?_;walk_nrm;have u:Hid _:=z;have q:Hid _:=i;have NX:Hid _:=B;have IH:Hid _:=ih;have G:Hid _:=o;clear z i B ih o;refine Wc.go 50 λK w c=>?_
  iterate 2 u_op At.en c
  refine sg λ_ h₁=>Wc.use ?_ (c.en h₁);clear c;refine G _ _ _ _ _ _ _ _ _ _ _ _ _ _ _ _ R R (ul _) R (by simp[p7]) ?_;walk_nrm;generalize j:one T.1.1 p=C;cases C with
  |none=>
   simp only[fv];refine Wc.go 50 λK w c=>?_
   iterate 4 u_op At.en c
   refine sg λ_ h₁=>Wc.use ?_ (c.en h₁);clear c;refine Wc.al (pj C5 81) (λn=>pm (N ⟨n,0,X⟩)) R R (ul _) (λw x=>⟨by simp[go_sem],λe f=>by simp[go_sem]at f⟩) λt=>?_;walk_nrm;refine Wc.st (j:=0) (pj C5 81) R R R (ul _) (λw f=>mV R R R w f) ?_;walk_nrm;refine Wc.go 50 λK w c=>?_
   iterate 2 u_op At.en c
   u_c pu At.en c
   iterate 2 u_c rp At.en c
   u_reg At.en c
   iterate 2 u_op At.en c
   u_c pu At.en c;u_cond pw At.en c;refine sg λ_ h₁=>Wc.use ?_ (c.en h₁);clear c;refine .ret λC=>.back _ R R R func141 (λw=>⟨results_none R _ _ _,by simp[results,results141]⟩) (Wc.drop (eL _ _) (NX _ _ _ _ u q j))
  |some x=>
   obtain⟨f,n⟩:=x;have ho:=Fr.one_le j;rw[<-aW]at ho;simp only[fv];refine Wc.go 50 λK w c=>?_
   iterate 4 u_op At.en c
   refine sg λ_ h₁=>Wc.use ?_ (c.en h₁);clear c;refine Wc.al (pj C5 81) (λn=>pm (N ⟨n,0,X⟩)) R R (ul _) (λw x=>⟨by simp[go_sem],λe t=>by simp[go_sem]at t⟩) λfb=>?_;walk_nrm;refine Wc.st (j:=0) (pj (zF f) 81) R R R (ul _) (λw t=>mV R R R w t) ?_;walk_nrm;refine Wc.go 50 λK w c=>?_
   iterate 2 u_op At.en c
   u_c pu At.en c
   iterate 2 u_c rp At.en c
   u_reg At.en c
   iterate 2 u_op At.en c
   u_c pu At.en c;u_cond pi At.en c;u_c ye At.en c;u_c rp At.en c;u_reg At.en c
   iterate 4 u_op At.en c
   u_c pu At.en c;u_c rp At.en c;u_reg At.en c
   iterate 2 u_op At.en c
   refine sg λ_ h₁=>Wc.use ?_ (c.en h₁);clear c;refine Wc.rd (.agg (zF f)) R R (ul _) (λw t=>EL (j:=0) R t R R) ?_;walk_nrm;rw[show xh pg ((p:Int)+n)=((p+n:Nat):Int) by rw[IntKind.wrap_i64];omega];refine Wc.yield (j:=1) R R R (ul _) R R R ?_;refine Wc.drop (eL _ _) ?_;have ht:((Qw s T F E g d).5.zip #[ox pg ((p+n:Nat):Int),.agg (zF f)]).foldl (λtmps (t,a)=>qb tmps t a) (Qw s T F E g d).4=WV s T F E g (ox pg ((p+n:Nat):Int)) (.agg (zF f)):=Zm
   walk_nrm;rw[ht];refine JG (r:=Qw s T F E g d) (x:=f) (e:=p+n) R R u aA λv' C ag=>?_;rw[dA];walk_nrm;refine Wc.go 50 λK w c=>?_;u_op At.en c;u_c pu At.en c;u_cond pi At.en c;u_c ye At.en c;u_c stepG_inBlock At.en c;u_c stepG_inLoop At.en c;refine sg λ_ h₁=>Wc.use ?_ (c.en h₁);exact IH _ aA v' _ C ag (.snoc q j) _ _ _ _ _ _ _ _ _ _ _ _ _ _ _ _ _ _ _ _ _
end
end Cr
namespace Cr
open Go Go.Conc Go.ConcN Go.RowKit Go.Conc.Lib Go.ConcR.Gen Go.ConcN.Gen
open Go.ConcR (KK WgAt stA smA Payload DC0)
open Fr (F flat one frames)
variable {l:Nat}{v:po}{Zs:List (Nat×ZG)}
def UA(f:FuncId)(args:Array po)(r:po->po)(fs:List F):=∀(S:Who)(m:Nat)(St:gL->r9->pn->Prop)(K0:gL)(w0:pn)(L:List (Nat×ZG))(b:tg)(a:Act)(k:List qbe)(cs:List tg)(ops:Array OF)(i:Nat)(rest:List Nat)(o:OF)(c:Array ZT)(d:Array wj),
 ops[i]? =N o->sy o (yielded ops a.1)=pw->b.6≠.early->o.2=.call { callee:=.value (.func f),args:=c,argTypes:=d }->c.map (p7 a)=args->(∀v Zs,uD v fs Zs->Wc px S m St K0 w0 (Zs++L) (G (b.at (td a o.1 (r v)) (ri ops rest::k)) cs))->Wc px S m St K0 w0 L (G (b.at a (ri ops (i::rest)::k)) cs)
def Rk(a n c w es):(YP #[76] 3 #[U a n c]).events px w es=es:=by simp[YP,vh YB]
section
variable {S:Who}{m:Nat}{St:gL->r9->pn->Prop}{K0:gL}{w0:pn}{L0:List (Nat×ZG)}{cs:List tg}
def OA{s T:ByteArray}{d i E F p:Nat}{fs:List Fr.F}{g:tg}(e:uD v fs Zs)
  (b:∀n f,uD n ((if M fs=0\/p<ot T then X else N fs).getD []) f->Wc px S m St K0 w0 (f++L0) (G (xx g (sh #[n,.bool (if M fs=0\/p<ot T then X else N fs).isSome])) cs)):
  Wc px S m St K0 w0 (Xx s T F E i d l p v (Zs++L0)) (G ((base 59).at { tmps:=WV s T F E i p8 p8,defers:=[{ target:=.collected d,args:=#[] }] } [.endRangeFunc l,.inBlock 0,.code Xz]) (g::cs)):=by
 let⟨z,A,u⟩:=e.slice;subst u;have c:Hid _:=b;have o:Hid _:=e;have x:=B1;have y:=Rk;clear b e;refine Wc.over (j:=0) R (show LoopState.ready≠.busy by decide) R (Wc.inBlock ?_);rw[show Xz=qv (qv _ _) _ from R];refine Wc.seq (Wc.seq (Wc.reg [0,1,2,3,4,5,6,7,8] R ?_));refine Wc.rd _ R R (ul _) (λw f=>yT (j:=4) R f R R (rr R)) ?_;walk_nrm;by_cases h:M fs=0
 .have q:((M fs:Int) == 0)=pw:=by simp[h]
  refine Wc.go 50 λK w a=>?_
  iterate 3 u_op At.en a
  iterate 4 u_skip At.en a
  u_op At.en a;u_c pu At.en a;u_cond pw At.en a;u_c rp At.en a;u_reg At.en a
  iterate 2 u_op At.en a
  u_c pu At.en a;refine sg λ_ h₁=>Wc.use ?_ (a.en h₁);clear a;have b:=c.out;rw[Zb (rr h)]at b;exact .ret λj=>.takes (j:=1) R R R (.C9 R R R func59 R R R (Wc.drop (.cons _ (.cons _ (.cons _ (.cons _ (.cons _ (qag _ _)))))) (b _ [] (rr ⟨R,R,R⟩))))
 have q:((M fs:Int) == 0)=pi:=Zc aA;refine Wc.go 50 λK w a=>?_
 iterate 3 u_op At.en a
 refine sg λ_ h₁=>Wc.use ?_ (a.en h₁);clear a;refine Wc.rd _ R R (ul _) (λw f=>yT (j:=3) R f R R (rz (rr R))) ?_;walk_nrm;by_cases r:p<ot T
 .have t:(p:Int)<ot T:=by omega
  refine Wc.go 50 λK w a=>?_
  iterate 4 u_op At.en a
  u_c pu At.en a;u_cond pw At.en a;u_c rp At.en a;u_reg At.en a
  iterate 2 u_op At.en a
  u_c pu At.en a;refine sg λ_ h₁=>Wc.use ?_ (a.en h₁);clear a;have b:=c.out;rw[Zb (rz r)]at b;exact .ret λj=>.takes (j:=1) R R R (.C9 R R R func59 R R R (Wc.drop (.cons _ (.cons _ (.cons _ (.cons _ (.cons _ (qag _ _)))))) (b _ [] (rr ⟨R,R,R⟩))))
 have t:¬(p:Int)<ot T:=aA
 refine Wc.go 50 λK w a=>?_
 iterate 4 u_op At.en a
 u_c pu At.en a;u_cond pi At.en a;u_c ye At.en a;u_c rp At.en a;u_reg At.en a;refine sg λ_ h₁=>Wc.use ?_ (a.en h₁);clear a;refine Wc.rd _ R R (ul _) (λw f=>yT (j:=4) R f R R (rr R)) ?_;walk_nrm;refine Wc.go 50 λK w a=>?_
 iterate 2 u_op At.en a
 u_c pu At.en a;refine sg λ_ h₁=>Wc.use ?_ (a.en h₁);clear a;have b:=c.out;rw[Za aA]at b;exact .ret λj=>.takes (j:=1) R R R (.C9 R R R func59 R R R (Wc.drop (.cons _ (.cons _ (.cons _ (.cons _ (.cons _ (eI _)))))) (b _ Zs o)))
end
def Qd(s:ByteArray)(hs:ot s<=1048576):UA 59 #[pk s] (λv=>sh #[v,.bool (frames s.1.1).isSome]) ((frames s.1.1).getD []):=by
 intro S m St K0 w0 L b a k cs ops i rest o xs ad B hw I J P r;refine Wc.call B hw I J func59 R R ?_;rw[P];simp only[ntmps59,bZ,aP,bH,Nat.reduceAdd,Nat.reduceSub,bP,bO,cD,bQ,cA,bX]
 have r:∀v Zs,uD v ((frames s.1.1).getD []) Zs->Wc px S m St K0 w0 (Zs++L) (G (xx (b.at a (ri ops (i::rest)::k)) (sh #[v,.bool (frames s.1.1).isSome])) cs):=by
  intro v Zs h;rw[dA,B];exact r v Zs h
 generalize b.at a (ri ops (i::rest)::k)=cf at r;have f:=aW s;have el:=B1;have A:=Fr.gH s;have g:Hid _:=r;clear r B hw I J P;by_cases ab:ot s=0
 .have aa:s.toList.isEmpty=pw:=by rw[A];exact Ze ab
  clear A;refine Wc.go 50 λK w c=>?_;u_c rp At.en c;u_reg At.en c
  iterate 2 u_op At.en c
  u_c pu At.en c
  iterate 2 u_c rp At.en c
  u_reg At.en c
  iterate 3 u_op At.en c
  iterate 3 u_skip At.en c
  u_op At.en c;u_c pu At.en c;u_cond pw At.en c;u_c rp At.en c;u_reg At.en c
  iterate 2 u_op At.en c
  u_c pu At.en c;refine sg λ_ h₁=>Wc.use ?_ (c.en h₁);rw[ou (rr aA)]at g;exact .ret λd=>.C9 R R R func59 R R R (g _ [] (rr ⟨R,R,R⟩))
 have O:0<ot s:=aA
 have aa:s.toList.isEmpty=pi:=by rw[A];exact Zd aA
 have ac:=λu=>RZ u s 0 0 O R;have af:=λw t=>zn s 0 w t aA aA;have y:=Fr.iC s 0 O;clear A;by_cases j:pf s[0]=0
 .have Q:(1:Int)<=(ot s:Int):=by omega
  rw[j]at ac;obtain⟨T,C⟩:∃T:ByteArray,qt s 1 (ot s)=T:=⟨_,R⟩
  have q:T.1.1=s.1.1.drop 1:=by rw[<-C,Fr.ext_list,cK aA]
  have x:ot T=ot s-1:=by rw[<-C];simp[cP]
  have z:s.1.1.getD 0 0=0:=by rw[y];exact fC.1 j
  have ae:=λw t=>lD s _ _ w t (xK s 1 w t aA Q);have G:Hid _:=fE q (fE x z);clear q x z y f j;refine Wc.go 50 λK w c=>?_;u_c rp At.en c;u_reg At.en c
  iterate 2 u_op At.en c
  u_c pu At.en c
  iterate 2 u_c rp At.en c
  u_reg At.en c
  iterate 7 u_op At.en c
  u_c pu At.en c;u_cond pi At.en c;u_c ye At.en c;u_c rp At.en c;u_reg At.en c
  iterate 3 u_op At.en c
  u_c pu At.en c;refine sg λ_ h₁=>Wc.use ?_ (c.en h₁);clear c;refine Wc.seq (Wc.reg [0] R ?_);refine Wc.al (pj #[U X 0 0] 76) (λn=>pm (N ⟨n,0,X⟩)) R R (ul _) (λw f=>⟨by simp[go_sem],λe Y=>by simp[go_sem]at Y⟩) λF=>?_;refine Wc.done (Wc.seq (Wc.reg [0,1] R ?_));walk_nrm;refine Wc.al (pj #[ox pg 0] 3) (λn=>pm (N ⟨n,0,X⟩)) R R (ul _) (λw f=>⟨by simp[go_sem],λe Y=>by simp[go_sem]at Y⟩) λE=>?_;walk_nrm;refine Wc.st (j:=0) (pj #[.int _ 0] 3) R R R (ul _) (λw f=>Gl (j:=0) R f R R R (rz ⟨_,R,R⟩)) ?_;walk_nrm;refine Wc.done (Wc.seq (Wc.seq (Wc.reg [0,1] R ?_)));refine Wc.go 50 λK w c=>?_;u_op At.en c;refine sg λ_ h₁=>Wc.use ?_ (c.en h₁);clear c;refine Wc.call R R (ul _) R func94 R R ?_;simp only[ntmps94,bZ,aP,bH,Nat.reduceAdd,Nat.reduceSub,bP,bO,cD,bQ,cA,bX];walk_nrm;refine Wc.seq (Wc.reg [0,1] R ?_);refine Wc.al (pj #[pk T] 9) (λn=>pm (N ⟨n,0,X⟩)) R R (ul _) (λw f=>⟨by simp[go_sem],λe Y=>by simp[go_sem]at Y⟩) λsb=>?_;walk_nrm;refine Wc.go 50 λK w c=>?_;u_op At.en c;u_c pu At.en c;u_c rp At.en c;u_reg At.en c
  iterate 2 u_op At.en c
  u_c pu At.en c;refine sg λ_ h₁=>Wc.use ?_ (c.en h₁);clear c;refine .ret λag=>.uY R R R func94 R R ?_;rw[dA];walk_nrm;refine Wc.done (Wc.block (Wc.range (f:=141) (cap:=#[.pointer _]) R func141 R R λd=>?_));simp only[ntmps141,bZ,aP,bH,Nat.reduceAdd,Nat.reduceSub,bP,bO,cD,bQ,cA,bX];refine Wc.go 50 λK w c=>?_;u_c rp At.en c;u_reg At.en c;u_op At.en c;u_c pu At.en c;u_c qaq At.en c;u_c stepG_loop At.en c;refine sg λ_ h₁=>Wc.use ?_ (c.en h₁);clear c;let⟨q,x,z⟩:=G.out;refine Jw (s:=s) (T:=T) (d:=d) aA (λv fs Zs p W V hn=>?_) (ot T+1) 0 aA _ [] [] (rr ⟨R,R,R⟩) .nil _ _ _ _ _ _ _ _ _ _ _ _ _ _ _ _ _ _ _ _ _;have f:=aW s;have D:=Fr.uB (s:=s.1.1) aA z (by rw[<-q];exact V) (by rw[<-q];exact hn);rw[<-f,<-x]at D;rw[D]at g;exact OA W g.out
 .have e:((pf s[0]:Int) != 0)=pw:=by simp;omega
  rw[ou (rz (by rw[y];intro h;exact j (by rw[h];rfl)))]at g;clear y f j;generalize pf s[0]=c at *;refine Wc.go 50 λK w d=>?_;u_c rp At.en d;u_reg At.en d
  iterate 2 u_op At.en d
  u_c pu At.en d
  iterate 2 u_c rp At.en d
  u_reg At.en d
  iterate 7 u_op At.en d
  u_c pu At.en d;u_cond pw At.en d;u_c rp At.en d;u_reg At.en d
  iterate 2 u_op At.en d
  u_c pu At.en d;refine sg λ_ h₁=>Wc.use ?_ (d.en h₁);exact .ret λn=>.C9 R R R func59 R R R (g _ [] (rr ⟨R,R,R⟩))
end Cr
namespace Cr
open Go Go.Conc Go.ConcN Go.RowKit Go.Conc.Lib Go.ConcR.Gen Go.ConcN.Gen
open Go.ConcR (KK WgAt stA smA Payload DC0)
open Fr (F flat one frames)
variable {w:pn}{n j:Nat}{v:po}{t:wj}{p:ZT}
section
variable {w0:pn}{L:List (Nat×ZG)}{a:Act}{o:OF}
def wJ{i c r}(f:L[j]? =N (n,pj c r))(q:c[i]? =N v)(g:Lies L ↑w0 w)(hp:p7 a p=pm (N ⟨n,i,X⟩))(l:o.2=.load t p)(m:t=22\/t=9):(rj (p7 a) o).run px w=.ok (.value v) w/\∀e∈(rj (p7 a) o).events px w #[],EvA L ↑w ↑w e:=by
 have h:=lA g f;have b:Z w ⟨n,i,X⟩=N v:=by simp[Z,h,q]
 unfold rj;simp only[l,hp];rcases m with rfl|rfl<;>
 .refine⟨by simp[go_sem,b],λe d=>?_⟩;simp[go_sem,b]at d;subst d;exact G3 f
end
def Mv(f d z t1 A B C fr ad)(data:ByteArray)(P:ot data<=1048576):UA 110 #[.agg (cfg f d z t1 A B C),.agg (vF fr ad data)] id (jE f d fr ad data.1.1):=by
 intro S m St E w0 L b a k F ops i rest o Y Q s hw u x y r;refine Wc.call s hw u x func110 R R ?_;rw[y];simp only[ntmps110,bZ,aP,bH,Nat.reduceAdd,Nat.reduceSub,bP,bO,cD,bQ,cA,bX]
 have r:∀v Zs,uD v (jE f d fr ad data.1.1) Zs->Wc px S m St E w0 (Zs++L) (G (xx (b.at a (ri ops (i::rest)::k)) v) F):=by
  intro v Zs h;rw[dA,s];exact r v Zs h
 generalize b.at a (ri ops (i::rest)::k)=cf at r;have l:Hid _:=r;clear r s hw u x y;refine Wc.seq (Wc.reg [0,1,2] R ?_);refine Wc.al (pj (cfg f d z t1 A B C) 24) (λn=>pm (N ⟨n,0,X⟩)) R R (ul _) (λw V=>⟨by simp[go_sem],λe G=>by simp[go_sem]at G⟩) λT=>?_;walk_nrm;refine Wc.al (pj (vF fr ad data) 68) (λn=>pm (N ⟨n,0,X⟩)) R R (ul _) (λw V=>⟨by simp[go_sem],λe G=>by simp[go_sem]at G⟩) λW=>?_;walk_nrm;refine Wc.go 50 λK w c=>?_;u_op At.en c;u_c pu At.en c
 iterate 2 u_c rp At.en c
 u_reg At.en c;u_op At.en c;refine sg λ_ h₁=>Wc.use ?_ (c.en h₁);clear c;refine Wc.rd (.int _ ad) R R (ul _) (λw G=>wJ (j:=0) R R G R R (rr R)) ?_;walk_nrm;refine Wc.go 50 λK w c=>?_;u_op At.en c;refine sg λ_ h₁=>Wc.use ?_ (c.en h₁);clear c;refine Wc.rd (.int _ f) R R (ul _) (λw G=>wJ (j:=1) R R G R R (rr R)) ?_;walk_nrm;by_cases g:ad=f
 case neg=>
  have I:(ad != f)=pw:=by simp[g]
  rw[jE,Za (λh=>g h.1)]at l;clear g;refine Wc.go 50 λK w c=>?_
  iterate 2 u_op At.en c
  iterate 5 u_skip At.en c
  u_op At.en c;u_c pu At.en c;u_cond pw At.en c;u_c rp At.en c;u_reg At.en c;u_op At.en c;u_c pu At.en c;refine sg λ_ h₁=>Wc.use ?_ (c.en h₁);exact .ret λD=>.uY R R R func110 R R (Wc.drop (.cons _ (.cons _ (eI _))) (l _ [] (rr ⟨R,R,R⟩)))
 have I:(ad != f)=pi:=by simp[g]
 refine Wc.go 50 λK w c=>?_
 iterate 3 u_op At.en c
 refine sg λ_ h₁=>Wc.use ?_ (c.en h₁);clear c;refine Wc.rd (.int _ fr) R R (ul _) (λw G=>wJ (j:=0) R R G R R (rr R)) ?_;walk_nrm;refine Wc.go 50 λK w c=>?_;u_op At.en c;refine sg λ_ h₁=>Wc.use ?_ (c.en h₁);clear c;refine Wc.rd (.int _ d) R R (ul _) (λw G=>wJ (j:=1) R R G R R (rr R)) ?_;walk_nrm;by_cases q:fr=d
 case neg=>
  have J:(fr != d)=pw:=by simp[q]
  rw[jE,Za (λh=>q h.2)]at l;clear g q;refine Wc.go 50 λK w c=>?_
  iterate 2 u_op At.en c
  u_c pu At.en c;u_cond pw At.en c;u_c rp At.en c;u_reg At.en c;u_op At.en c;u_c pu At.en c;refine sg λ_ h₁=>Wc.use ?_ (c.en h₁);exact .ret λD=>.uY R R R func110 R R (Wc.drop (.cons _ (.cons _ (eI _))) (l _ [] (rr ⟨R,R,R⟩)))
 have J:(fr != d)=pi:=by simp[q]
 rw[jE,Zb ⟨g,q⟩]at l;clear g q;refine Wc.go 50 λK w c=>?_
 iterate 2 u_op At.en c
 u_c pu At.en c;u_cond pi At.en c;u_c ye At.en c;u_c rp At.en c;u_reg At.en c;u_op At.en c;refine sg λ_ h₁=>Wc.use ?_ (c.en h₁);clear c;refine Wc.rd (pk data) R R (ul _) (λw G=>wJ (j:=0) R R G R R (rz R)) ?_;walk_nrm;refine Qd data P _ _ _ _ _ _ _ _ _ _ _ _ _ _ _ _ R R (ul _) R (by simp[p7]) λv Zs O=>?_;walk_nrm;generalize (frames data.1.1).isSome=ok;refine Wc.go 50 λK w c=>?_
 iterate 5 u_op At.en c
 u_c pu At.en c;u_c rp At.en c;u_reg At.en c
 iterate 2 u_op At.en c
 u_c pu At.en c;refine sg λ_ h₁=>Wc.use ?_ (c.en h₁);exact .ret λD=>.uY R R R func110 R R (Wc.drop ((eI _).append (.cons _ (.cons _ (eI _)))) (l _ Zs O))
def DU:ReadW:=by
 intro S m St K w b a k B ops j rest o x y u W z t0 t1 t2 t3 t4 D s C P hw O Q c V T E i F G _ Y;have I:At S K w [] K w:=⟨E,i,F,G,fI,λx c=>⟨i x c,c,R⟩,λx=>rr,id,id,λp h=>by simp at h,.nil⟩
 refine Wc.use (Mv W z t0 t1 t2 t3 t4 D s C T S m St K w [] b a k B ops j rest o _ u P hw O Q (by simp[c,V]) λv Zs J q aa d=>?_) I;refine Y w (.refl _ _ _ _) v q aa (J.imp (λh=>⟨h.1,h.2.1⟩) ?_) (λx c=>(d.6 x c).2.1) d.1 d.5 (λx c=>(d.6 x c).2.2) (λx c=>⟨d.2 x c,d.7 x c⟩) d.8 d.9;rintro⟨g,A,f,e,rfl,r⟩;have l:=d.10 (g,pj f 81) aC;exact⟨g,A,f,e,d.1 _ l.2.1,l.2.2,r⟩
end Cr
namespace Po
open Go
section
variable {P:th}{G:Array Func}{k f:Nat}{fn:Func}
def zQ(P:th)(G:Array Func)(D:Nat->Prop):Env:={ T:=P.1,F:=P.2,G:=G,D:=D,C:=λc=>lI P c=pw }
def TH(P G D):(zQ P G D).P=P:=rfl
def S6(P G D c):(zQ P G D).5 c↔lI P c=pw:=Iff.rfl
def CR(h:∀k:Nat,(G[k]?).map (·.8)=(P.2[k]?).map (·.8))(D):∀k:Nat,((zQ P G D).3[k]?).map (·.8)=((zQ P G D).2[k]?).map (·.8):=h
noncomputable abbrev qe(G:Array Func)(D:Nat->Prop):Env:=zQ PQ G D
def Aj(G D):(qe G D).P=PQ:=TH PQ G D
def OD:((IS 257).all λk=>!yP k || match px.2[k]? with
  |some f=>!(f.1 == "runtime.NumGoroutine")&&(match f.9 with|some c=>lI PQ c|none=>k == 192 || k == 193)
  |none=>pi)=pw:=Zm
def UO:qd px.2=257:=Zm
def SS:Extern.allNextRows.lookup ""=X:=Zm
def Gn:Extern.allGenericRows.lookup ""=X/\Extern.allTypedRows.lookup ""=X/\Extern.allRows.lookup ""=X:=⟨Zm,Zm,Zm⟩
def TG{L}(h:(nY P L).2[k]? =N fn):(L k=pw/\P.2[k]? =N fn)\/L k=pi/\fn.9=X/\fn.1= ""/\fn.2= "":=by
 have h:(P.2.mapIdx _)[k]? =N fn:=h
 grind
def EE(P L)(k:Nat):(P.2[k]?).map (·.8)=((nY P L).2[k]?).map (·.8):=by
 show _=((P.2.mapIdx _)[k]?).map _
 grind
def G8{f}(d:yP k=pw)(a:px.2[k]? =N f):(f.1 == "runtime.NumGoroutine")=pi/\(match f.9 with|some c=>lI PQ c=pw|none=>k=192\/k=193):=by
 have b:k<257:=by rw[<-UO];exact(fO a)
 have:=cU.1 OD k (dN.2 b)
 grind
section
variable {e:Env}
def RA(o:e.2[f]? =N fn)(m:fn.9=X)(c:fn.1= "")(d:fn.2= "")(args):Rb e (Yk f args)/\∀x a n g b,(Yk f args).runT e.P x a=(.ok n g,b)->∃v,n=.value v:=by
 have i:Extern.findNext fn=X:=by simp only[Extern.findNext,c,d,SS];rfl
 have j:Extern.find fn=X:=by simp only[Extern.find,c,d,Gn.1,Gn.2.1,Gn.2.2];rfl
 have k:("" == "runtime.NumGoroutine")=pi:=gz
 have l:("".endsWith ".init")=pi:=gz
 have p:∀x a,(Yk f args).runT e.P x a=(.halt (.unsupported (.extern "")) x,a.push ⟨.mark (.extern f),pi,pw⟩):=by
  intro x a;simp only[Yk,program,bind,Sem.bind,Sem.runT,show e.P.2[f]? =N fn from o,c,k,m,Option.isNone_none,bE,if_false,if_true,i,j,l,mark,Bool.false_and,unsupported]
 refine⟨λx a r b h y _=>rr ?_,λx a n g b h=>?_⟩
 .rw[p]at h;cases h;rfl
 grind
def Ib(g:e.2[f]? =N fn)(m:e.3[f]? =N fn)(d:fn.9=X)(i:(fn.1 == "runtime.NumGoroutine")=pi)(k:Extern.findNext fn=X){s}(j:Extern.find fn=N s){args}(h:Rb e (s args)):Rb e (Yk f args)/\∀x b n l c,(Yk f args).runT e.P x b=(.ok n l,c)->∃v,n=.value v:=by
 refine⟨?_,λx b n l c a=>?_⟩
 .unfold Yk;refine PR ?_ ?_
  .grind
  .simp only[show e.P.2[f]? =N fn from g,i,d,k,j,Option.isNone_none,bE,↓reduceIte];exact B (Hh _ (rz ⟨f,R⟩)) λ_=>B h λ_=>Zq _
 .rw[Yk,runT_bind]at a;simp only[program,Sem.runT,show e.P.2[f]? =N fn from g,i,d,k,j,Option.isNone_none,bE,↓reduceIte]at a;rw[runT_bind]at a;split at a
  .rw[runT_bind]at a;split at a
   .cases a;exact⟨_,R⟩
   .cases a
  .cases a
def So(args):Rb e (Extern.AbiNoEscape.same args):=by
 obtain⟨l⟩:=args
 match l with
 |[]=>exact H _
 |[x]=>exact Zq _
 |_::_::_=>exact H _
def Cs(ps rs args):Rb e (ZP ps rs args):=by
 obtain⟨l⟩:=args
 match l with
 |[]=>exact H _
 |_::_::_=>cases ‹po›<;>exact H _
 |[x]=>
  cases x<;>first|exact H _|skip
  case int k n=>
   cases k<;>first|exact H _|skip
   show Rb e (match rs[0]? with|some t=>_|_=>_)
   repeat' first|with_reducible exact Zq _|with_reducible refine B ?_ λ_=>?_|with_reducible refine IT ?_ ?_|exact H _|split|(simp;done)|dsimp only
end
def SX(h:PQ.2[k]? =N fn):(yP k=pw/\px.2[k]? =N fn)\/yP k=pi/\fn.9=X/\fn.1= ""/\fn.2= "":=TG (P:=px) (L:=yP) h
def BW{D}(h:(zQ P G D).2[k]? =N fn):P.2[k]? =N fn:=h
def Mr(d:∀(k:Nat)(fn),yP k=pw->px.2[k]? =N fn->G[k]? =N fn)(i:∀k:Nat,(G[k]?).map (·.8)=(PQ.2[k]?).map (·.8))(D):Fit (qe G D) where
 code c:=by rewrite [Aj];exact S6 PQ G D c
 name f fn h:=by
  obtain⟨b,a⟩|⟨_,_,a,_⟩:=SX (BW h)
  .exact(G8 b a).1
  grind
 same f fn c h hb:=by
  obtain⟨b,a⟩|⟨_,a,_⟩:=SX (BW h)
  .have:=(G8 b a).2;rw[hb]at this;exact⟨d _ _ b a,by rewrite [Aj];exact this⟩
  grind
 ext f fn args h hb:=by
  obtain⟨b,a⟩|⟨_,_,e,g⟩:=SX (BW h)
  .have:=(G8 b a).2;rw[hb]at this;have c:=d _ _ b a;obtain rfl|rfl:=this
   .obtain rfl:=cR (oy func192.symm a);exact Ib h c hb (by rfl) (by rfl) (s:=Extern.AbiNoEscape.same) (by rfl) (So _)
   .obtain rfl:=cR (oy func193.symm a);exact Ib h c hb (by rfl) (by rfl) (s:=ZP _ _) (by rfl) (Cs _ _ _)
  .exact RA h hb e g _
 results:=CR i D
 early:=by rewrite [Aj];kernel_rfl
def I5(k:Nat):(px.2[k]?).map (·.8)=(PQ.2[k]?).map (·.8):=EE ..
def JO(P G D):(zQ P G D).self=zQ P P.2 λ_=>False:=rfl
def fits(D):jL (qe px.2 D):=
 ⟨Mr (λ_ _ _ h=>h) I5 D,by rewrite [JO];exact Mr (λ_ _ h k=>fq k h) (λ_=>R) _⟩
end
open Go Go.Conc
open Cr (kY)
section
variable {o:ZG}
def U0(P L D):(zQ (nY P L) P.2 D).Q=P:=rfl
def Rp(D):(qe px.2 D).Q=px:=U0 px yP D
def uw(w:pn)(b:Nat):=∃o,w.1[b]? =N o/\ghost o=pw
def hush(w:pn):pn:={ w with heap:=w.1.map λo=>if ghost o then .coro X else o }
def GK{w}{b:Nat}(h:w.1[b]? =N o)(a:ghost o=pi):(hush w).1[b]? =N o:=by
 show(w.1.map _)[b]? =_
 grind
def PK{w}{b:Nat}(h:(hush w).1[b]? =N o):ghost o=pi:=by
 have h:(w.1.map _)[b]? =_:=h;rw[eB]at h;cases a:w.1[b]? with
 |none=>rw[a]at h;cases h
 |some u=>
  rw[a]at h;simp only[bJ,aI]at h;subst h;split
  .rfl
  grind
def uO{e}(h:ghost o=pi):rW e o:=by
 cases o<;>first|trivial|(cases h;done)
section
variable {w:pn}{Post:po->pn->Prop}{fr:tg}
def Q0{e}(a:e.4=uw w):WP e (hush w) w where
 os:=R
 output:=R
 size:=by simp[hush]
 out b hb:=by
  show _=(w.1.map _)[b]?
  rw[eB];cases c:w.1[b]? with
  |none=>rfl
  |some o=>
   cases b:ghost o with
   |true=>exact Zl ⟨o,c,b⟩ (a ▸ hb)
   |false=>simp[b]
 inn b hb:=by
  rw[a]at hb;obtain⟨o,h,c⟩:=hb;refine rz ⟨o,h,?_,c⟩
  show(w.1.map _)[b]? =_
  grind
 objs b o h:=uO (PK h)
def ID(h:Wk (qe px.2 (uw w)) ⟨uw w,w,Post⟩ [] fr [] (hush w))(b:o7 (qe px.2 (uw w)) fr):kY px Post (λ_=>False) (mk fr []) w:=by
 have k:=h ⟨b,aC⟩ w (Q0 R) ⟨λ_ a=>⟨a,R⟩,λ_ a _=>a,fI,R,R⟩
 rewrite [Rp]at k
 exact k.dead λ_ x=>sj x
end
end
end Po
namespace Cr
open Go Go.Conc Go.ConcN Go.RowKit Go.Conc.Lib Go.ConcR.Gen Go.ConcN.Gen
open Go.ConcR (KK WgAt stA smA Payload DC0)
section
variable {a:Act}{o:OF}{l:Nat}
structure WF(Wg C n i bc bx bf bi:Nat)(cf xf:Array po)(w:pn):Prop where
 c:w.1[bc]? =N (pj cf 24)
 x:w.1[bx]? =N (pj xf 68)
 f:w.1[bf]? =N (pj #[U (N ⟨C,0,X⟩) n n] 29)
 i:w.1[bi]? =N (pj #[ox pg i] 3)
 live:AI link.30 Wg w
 pay:qap C n w
section
variable {Wg C n i bc bx bf bi:Nat}{inbox batcher t0 t1 t2 t3 t4 fr ad:Int}{data:ByteArray}{cf xf:Array po}{w w₁:pn}{K:gL}
def WF.en(h:WF Wg C n i bc bx bf bi cf xf w)(hc:K.1 bc)(d:K.1 bx)(b:K.1 bf)(c:K.1 bi)(r:En ⟨Wg,C,n,link.30,C-1⟩ (N i) K w w₁):WF Wg C n i bc bx bf bi cf xf w₁:=
 ⟨oy (r.5 _ hc) h.1,oy (r.5 _ d) h.2,oy (r.5 _ b) h.3,oy (r.5 _ c) h.4,r.6 h.5,r.7 h.6⟩
noncomputable def pB:Array OF:=match f108.9 with
 |some (qv _ (.region _ ops _))=>ops
 |_=>#[]
def cell_of{b cs c}(h:w.1[b]? =N (pj cs c))(o):Z w ⟨b,o,X⟩=cs[o]?:=by simp[Z,h]
def Xe(h:WF Wg C n i bc bx bf bi cf xf w)(c:p7 a (sn 3)=pm (N ⟨bf,0,X⟩))(d:o.2=.load 29 (sn 3)):(rj (p7 a) o).run px w=.ok (.value (U (N ⟨C,0,X⟩) n n)) w/\(rj (p7 a) o).events px w #[]=#[⟨.cell ⟨bf,0,X⟩,pi,pi⟩]:=by
 have b:=cell_of h.3 0;constructor
 .unfold rj;simp only[d,c];simp[go_sem,b]
 .unfold rj;simp only[d,c];simp[go_sem,b]
def Xs(h:WF Wg C n i bc bx bf bi (cfg inbox batcher t0 t1 t2 t3 t4) xf w)(p:p7 a (sn 1)=pm (N ⟨bc,0,X⟩))(q:o.2=.load 24 (sn 1)):(rj (p7 a) o).run px w=.ok (.value (.agg (cfg inbox batcher t0 t1 t2 t3 t4))) w/\∀e∈(rj (p7 a) o).events px w #[],∃k,e=⟨.cell ⟨bc,k,X⟩,pi,pi⟩:=by
 have b:=cell_of h.1 0;have c:=cell_of h.1 1;have d:=cell_of h.1 2;have f:=cell_of h.1 3;have g:=cell_of h.1 4;have j:=cell_of h.1 5;have m:=cell_of h.1 6;constructor
 .unfold rj;simp only[q,p];simp[go_sem,b,c,d,f,g,j,m]
 .unfold rj;simp only[q,p];simp[go_sem,b,c,d,f,g,j,m]
def WG(h:WF Wg C n i bc bx bf bi cf (vF fr ad data) w)(f:p7 a (sn 2)=pm (N ⟨bx,0,X⟩))(g:o.2=.load 68 (sn 2)):(rj (p7 a) o).run px w=.ok (.value (.agg (vF fr ad data))) w/\∀e∈(rj (p7 a) o).events px w #[],∃k,e=⟨.cell ⟨bx,k,X⟩,pi,pi⟩:=by
 have b:=cell_of h.2 0;have c:=cell_of h.2 1;have d:=cell_of h.2 2;constructor
 .unfold rj;simp only[g,f];simp[go_sem,b,c,d]
 .unfold rj;simp only[g,f];simp[go_sem,b,c,d]
def Xb(h:WF Wg C n i bc bx bf bi cf xf w)(c:p7 a (sn 4)=pm (N ⟨bi,0,X⟩))(d:o.2=.load 3 (sn 4)):(rj (p7 a) o).run px w=.ok (.value (ox pg i)) w/\(rj (p7 a) o).events px w #[]=#[⟨.cell ⟨bi,0,X⟩,pi,pi⟩]:=by
 have b:=cell_of h.4 0;constructor
 .unfold rj;simp only[d,c];simp[go_sem,b]
 .unfold rj;simp only[d,c];simp[go_sem,b]
def WW(h:i<n)(b:p7 a (sn 5)=U (N ⟨C,0,X⟩) n n)(c:p7 a (sn 6)=ox pg i)(g:o.2=.indexAddr 29 (sn 5) (sn 6)):(rj (p7 a) o).run px w=.ok (.value (pm (N ⟨C,i,X⟩))) w/\(rj (p7 a) o).events px w #[]=#[]:=by
 have f:(i:Int)<n:=aA
 have d:(0:Int)<=(i:Int):=aA
 constructor
 .unfold rj;simp only[g,b,c];simp[go_sem,f,d,Addr.add];exact λe=>e.symm
 .unfold rj;simp only[g,b,c];simp[go_sem,f,d]
def Xr(hp:qap C n w)(j:i<n){x c}(b:p7 a (sn 10)=pm (N ⟨C,i,X⟩))(d:p7 a (sn 9)=U x l c)(f:o.2=.store 76 (sn 10) (sn 9)):(rj (p7 a) o).run px w=.ok .skip (o3 w ⟨C,i,X⟩ (U x l c))/\(rj (p7 a) o).events px w #[]=#[⟨.cell ⟨C,i,X⟩,pw,pi⟩]:=by
 obtain⟨h,e,m⟩:=hp;have hc:Z w ⟨C,i,X⟩=N h[i]:=by simp[Z,e,m,j]
 have g:sk w ⟨C,i,X⟩=pi:=by simp[sk,e]
 constructor
 .unfold rj;simp only[f,b,d];simp[go_sem,stored,hc,g]
 .unfold rj;simp only[f,b,d];simp[go_sem,qaj _ _ _ _ _ _ (show sw (U x l c)=pw from R),hc,g]
def O5(hp:qap C n w)(c:i<n)(v):Has C i v (o3 w ⟨C,i,X⟩ v):=by obtain⟨e,b,d⟩:=hp;simp[Has,Z,o3,bD,b,d,c]
end
end
section
def bW:tg:=baseD 108
noncomputable def DP:tg:={ (default:tg)with fn:=qd px.2,defers:=[],mode:=.panicking [goexitEntry] }
noncomputable def Nn:vy:=f108.9.getD .skip
section
variable (Wg C n i bc bx bf bi:Nat)(inbox batcher t0 t1 t2 t3 t4 fr ad:Int)(data:ByteArray)
def Di:Deferred:={ target:=.fn (.func 108) #[pm (N ⟨Wg,0,X⟩),pm (N ⟨bc,0,X⟩),pm (N ⟨bx,0,X⟩),pm (N ⟨bf,0,X⟩),pm (N ⟨bi,0,X⟩)],args:=#[] }
def GG(l:Bool)(v:po):po:=if l then v else p8
def slots(l:Array Bool)(v:po):Array po:=#[pm (N ⟨Wg,0,X⟩),pm (N ⟨bc,0,X⟩),pm (N ⟨bx,0,X⟩),pm (N ⟨bf,0,X⟩),pm (N ⟨bi,0,X⟩),
 GG (tr l 0 pi) (U (N ⟨C,0,X⟩) n n),GG (tr l 1 pi) (ox pg i),GG (tr l 2 pi) (.agg (cfg inbox batcher t0 t1 t2 t3 t4)),GG (tr l 3 pi) (.agg (vF fr ad data)),GG (tr l 4 pi) v,GG (tr l 5 pi) (pm (N ⟨C,i,X⟩))]
end
section
variable {Wg C n i bc bx bf bi:Nat}{inbox batcher t0 t1 t2 t3 t4 fr ad:Int}{data:ByteArray}
def born_step(w):vi px pi (born px (Di Wg bc bx bf bi)) w=.go (G (bW.at ⟨#[pm (N ⟨Wg,0,X⟩),pm (N ⟨bc,0,X⟩),pm (N ⟨bx,0,X⟩),pm (N ⟨bf,0,X⟩),pm (N ⟨bi,0,X⟩),p8,p8,p8,p8,p8,p8],[]⟩ [.code Nn]) [DP]) w #[]:=by
 simp[born,Di,vi,unwind,callDeferred,invoke,Yk,func108,f108,seen,GStep.after,G,X4,Frame.at,bW,baseD,DP,Nn]
def quits_tail(T):QuitsD px 2 0 (G { bW.at ⟨T,[]⟩ []with mode:=Yi } [DP]):=by
 refine QuitsD.ctl (g':=G DP []) R (λw=>?_) ?_
 .simp[G,vi,unwind,doReturn,results,Frame.at,bW,baseD,DP,func108,f108,seen,GStep.after,goexitEntry]
 refine QuitsD.ctl (g':={ G DP []with status:=.finished }) R (λw=>?_) ⟨R,R⟩;simp[G,vi,unwind,DP,goexitEntry,Frame.catches];rfl
structure KW(Wg C:Nat)(bc bx bf bi:Nat)(K:gL)(w:pn):Prop where
 c:K.1 bc
 x:K.1 bx
 f:K.1 bf
 i:K.1 bi
 sub:∀b,K.2 b->K.1 b
 low:∀b,K.1 b->b<w.1.size
 pay:C<w.1.size
 grp:Wg<w.1.size
 ne:∀b,K.1 b->b≠C
 glob:qd Tryz.prog.globals<=w.1.size
def sched(t m):ZM m pB t=Region.linearise.go .any pB 7 t (wy 7 pi) []:=by
 have h:Region.departs pB=pi:=Zm
 unfold ZM;simp only[h,Bool.not_false,Bool.or_true,if_true];rfl
end
end
section
variable {w:pn}{v:po}{l0 l1 l2 l3 l4 l5 l6:Bool}
section
variable {Wg C n i bc bx bf bi:Nat}{inbox batcher t0 t1 t2 t3 t4 fr ad:Int}{data:ByteArray}{fs:Nat->List Fr.F}
abbrev jM(Wg C n:Nat):Who:=⟨Wg,C,n,link.30,C-1⟩
noncomputable def pF(Wg C n i bc bx bf bi:Nat)(inbox batcher t0 t1 t2 t3 t4 fr ad:Int)(data:ByteArray)(l:Array Bool)(v:po)(rest:List Nat):r9:=
 G (bW.at ⟨slots Wg C n i bc bx bf bi inbox batcher t0 t1 t2 t3 t4 fr ad data l v,[dcall link.2 #[pm (N ⟨Wg,0,X⟩)]]⟩ (ri pB rest::[])) [DP]
def O8{K l}(hF:WF Wg C n i bc bx bf bi (cfg inbox batcher t0 t1 t2 t3 t4) (vF fr ad data) w)(hK:KW Wg C bc bx bf bi K w)(c:Has C i v w)(d:nM K.1 w v (fs i)):iw px pi (jM Wg C n) (N i) (oT px (jM Wg C n) (leftOf fs) i) K (pF Wg C n i bc bx bf bi inbox batcher t0 t1 t2 t3 t4 fr ad data l v []) w:=by
 have H:=wgLib;unfold pF;have a:WF Wg C n i bc bx bf bi (cfg inbox batcher t0 t1 t2 t3 t4) (vF fr ad data) w/\Has C i v w/\nM K.1 w v (fs i):=⟨hF,c,d⟩
 have b:∀{w w₁:pn},(WF Wg C n i bc bx bf bi (cfg inbox batcher t0 t1 t2 t3 t4) (vF fr ad data) w/\Has C i v w/\nM K.1 w v (fs i))->En (jM Wg C n) (N i) K w w₁->(WF Wg C n i bc bx bf bi (cfg inbox batcher t0 t1 t2 t3 t4) (vF fr ad data) w₁/\Has C i v w₁/\nM K.1 w₁ v (fs i)):=
  λh r=>⟨h.1.en hK.1 hK.2 hK.3 hK.4 r,oy (r.8 i R) h.2.1,h.2.2.stands (λ_=>id) r.5⟩
 clear hF c d;refine iw.go (n:=10) ?_;u_c pu b a;u_c stepG_end b a;u_in b a;rw[stepG_unwind_enter R H.2 (nm_done link) R];simp only[goes_go];refine⟨by u_nil,?_⟩;refine sg λw₁ h₁=>?_;replace a:=b a h₁;exact Q1 (Q:=leftOf fs) H R (quits_tail _) w₁ a.1.5 a.2.1 λf e=>a.2.2.stands (λ_=>id) e
structure Reg(fs:Nat->List Fr.F)(Wg C n i bc bx bf bi:Nat)(inbox batcher t0 t1 t2 t3 t4 fr ad:Int)(data:ByteArray)(l0 l1 l2 l3 l4 l5 l6:Bool)(K:gL)(v:po)(w:pn):Prop where
 d4:l4=pw->l2=pw/\l3=pw
 d5:l5=pw->l0=pw/\l1=pw/\l2=pw/\l3=pw/\l4=pw
 d6:l6=pw->l5=pw
 wf:WF Wg C n i bc bx bf bi (cfg inbox batcher t0 t1 t2 t3 t4) (vF fr ad data) w
 kw:KW Wg C bc bx bf bi K w
 row:l4=pw->nM K.1 w v (fs i)
 has:l6=pw->Has C i v w
def Cnt(a:Nat)(l0 l1 l2 l3 l4 l5 l6:Bool):=a+(Yf l0+Yf l1+Yf l2+Yf l3+Yf l4+Yf l5+Yf l6)=7
def Reg.en{K w₁}(h:Reg fs Wg C n i bc bx bf bi inbox batcher t0 t1 t2 t3 t4 fr ad data l0 l1 l2 l3 l4 l5 l6 K v w)(r:En (jM Wg C n) (N i) K w w₁):Reg fs Wg C n i bc bx bf bi inbox batcher t0 t1 t2 t3 t4 fr ad data l0 l1 l2 l3 l4 l5 l6 K v w₁:=
 ⟨h.1,h.2,h.3,h.4.en h.5.1 h.5.2 h.5.3 h.5.4 r,⟨h.5.1,h.5.2,h.5.3,h.5.4,h.5.5,λb a=>aL (h.5.6 b a) r.4,aL h.5.7 r.4,aL h.5.8 r.4,h.5.9,aX h.5.10 r.4⟩,
  λe=>(h.6 e).stands (λ_=>id) r.5,λe=>oy (r.8 i R) (h.7 e)⟩
def opens(l0 l1 l2 l3 l4 l5 l6:Bool):List Nat:=
 (if l0 then []else [0])++(if l1 then []else [1])++(if l2 then []else [2])++(if l3 then []else [3])++(if l4 then []else if l2&&l3 then [4]else [])++(if l5 then []else if l0&&l1&&l2&&l3&&l4 then [5]else [])++
  (if l6 then []else if l0&&l1&&l2&&l3&&l4&&l5 then [6]else [])
def ready_eq(l0 l1 l2 l3 l4 l5 l6):xe .any pB #[l0,l1,l2,l3,l4,l5,l6]=opens l0 l1 l2 l3 l4 l5 l6:=by
 cases l0<;>cases l1<;>cases l2<;>cases l3<;>cases l4<;>cases l5<;>cases l6<;>kernel_rfl
def IC{k}(h:k∈xe .any pB #[l0,l1,l2,l3,l4,l5,l6]):(k=0/\l0=pi)\/(k=1/\l1=pi)\/(k=2/\l2=pi)\/(k=3/\l3=pi)\/(k=4/\l4=pi/\l2=pw/\l3=pw)\/(k=5/\l5=pi/\l0=pw/\l1=pw/\l2=pw/\l3=pw/\l4=pw)\/(k=6/\l6=pi/\l5=pw/\l4=pw):=by
 rw[ready_eq]at h;revert h;cases l0<;>cases l1<;>cases l2<;>cases l3<;>cases l4<;>cases l5<;>cases l6<;>simp[opens]<;>omega
def F0(a:l4=pw->l2=pw/\l3=pw)(b:l5=pw->l0=pw/\l1=pw/\l2=pw/\l3=pw/\l4=pw)(c:l6=pw->l5=pw)(hc:Yf l0+Yf l1+Yf l2+Yf l3+Yf l4+Yf l5+Yf l6<7):xe .any pB #[l0,l1,l2,l3,l4,l5,l6]≠[]:=by
 rw[ready_eq];revert a b c hc;cases l0<;>cases l1<;>cases l2<;>cases l3<;>cases l4<;>cases l5<;>cases l6<;>simp[opens]
end
end
section
variable {o:OF}
def WQ:∃o,pB[0]? =N o/\o.2=.load 29 (sn 3)/\o.1=N 5/\o.6=X:=⟨_,R,R,R,R⟩
def WM:∃o,pB[1]? =N o/\o.2=.load 3 (sn 4)/\o.1=N 6/\o.6=X:=⟨_,R,R,R,R⟩
def Xk:∃o,pB[2]? =N o/\o.2=.load 24 (sn 1)/\o.1=N 7/\o.6=X:=⟨_,R,R,R,R⟩
def Xl:∃o,pB[3]? =N o/\o.2=.load 68 (sn 2)/\o.1=N 8/\o.6=X:=⟨_,R,R,R,R⟩
def Xd:∃o,pB[4]? =N o/\o.2=.call { callee:=.value (.func 110),args:=#[sn 7,sn 8],argTypes:=#[24,68] }/\o.1=N 9/\o.6=X:=⟨_,R,R,R,R⟩
def Xh:∃o,pB[5]? =N o/\o.2=.indexAddr 29 (sn 5) (sn 6)/\o.1=N 10/\o.6=X:=⟨_,R,R,R,R⟩
def W6:∃o,pB[6]? =N o/\o.2=.store 76 (sn 10) (sn 9)/\o.1=X/\o.6=X:=⟨_,R,R,R,R⟩
def iU{y}(h:o.6=X):sy o y=pw:=by simp[sy,h]
section
variable {Wg C n i bc bx bf bi:Nat}{inbox batcher t0 t1 t2 t3 t4 fr ad:Int}{data:ByteArray}{fs:Nat->List Fr.F}{l0 l1 l2 l3 l4 l5 l6:Bool}{K:gL}{v:po}{w:pn}
def QX(rd:ReadW)(z:i<n)(Y:C≠Wg)(Q:fs i=jE inbox batcher fr ad data.1.1)(O:ot data<=1048576)(t)(h:Reg fs Wg C n i bc bx bf bi inbox batcher t0 t1 t2 t3 t4 fr ad data pi pi pi pi pi pi pi K v w):iw px pi (jM Wg C n) (N i) (oT px (jM Wg C n) (leftOf fs) i) K (pF Wg C n i bc bx bf bi inbox batcher t0 t1 t2 t3 t4 fr ad data #[pi,pi,pi,pi,pi,pi,pi] v (Region.linearise.go .any pB 7 t (wy 7 pi) [])) w:=by
 refine A0 (σ:=gL×po×pn×Array Bool) (md:=.any) (ops:=pB)
  (λa listed s=>s.2.2.2=listed/\∃l0 l1 l2 l3 l4 l5 l6,listed=#[l0,l1,l2,l3,l4,l5,l6]/\Cnt a l0 l1 l2 l3 l4 l5 l6/\Reg fs Wg C n i bc bx bf bi inbox batcher t0 t1 t2 t3 t4 fr ad data l0 l1 l2 l3 l4 l5 l6 s.1 s.2.1 s.2.2.1)
  (λrest s=>iw _ pi _ _ _ s.1 (pF Wg C n i bc bx bf bi inbox batcher t0 t1 t2 t3 t4 fr ad data s.2.2.2 s.2.1 rest) s.2.2.1) ?done ?more 7 t _ (K,v,w,#[pi,pi,pi,pi,pi,pi,pi]) ⟨R,pi,pi,pi,pi,pi,pi,pi,R,R,h⟩
 case done=>
  rintro listed ⟨K,v,w,l⟩ ⟨rfl,l0,l1,l2,l3,l4,l5,l6,d,hc,a⟩;have b:l4=pw:=by unfold Cnt at hc;revert hc;cases l0<;>cases l1<;>cases l2<;>cases l3<;>cases l4<;>cases l5<;>cases l6<;>simp
  have c:l6=pw:=by unfold Cnt at hc;revert hc;cases l0<;>cases l1<;>cases l2<;>cases l3<;>cases l4<;>cases l5<;>cases l6<;>simp
  exact O8 a.4 a.5 (a.7 c) (a.6 b)
 case more=>
  rintro ae listed ⟨K,v,w,l⟩ ⟨rfl,l0,l1,l2,l3,l4,l5,l6,q,hc,a⟩;simp only at q;subst q;unfold Cnt at hc;refine⟨F0 a.1 a.2 a.3 aA,λk T rest j=>?_⟩;have m:bW.6≠.early:=baseD_kind _;obtain⟨rfl,e⟩|⟨rfl,e⟩|⟨rfl,e⟩|⟨rfl,e⟩|⟨rfl,e,r,u⟩|⟨rfl,e,E,G,r,u,y⟩|⟨rfl,e,I,y⟩:=IC T
  .subst e;obtain⟨o,p,x,d,g⟩:=WQ;refine iw.op p (iU g) m λw₁ h₁=>?_;have c:=a.en h₁;let⟨A,B⟩:=Xe c.4 (a:=⟨slots Wg C n i bc bx bf bi inbox batcher t0 t1 t2 t3 t4 fr ad data #[pi,l1,l2,l3,l4,l5,l6] v,[dcall link.2 #[pm (N ⟨Wg,0,X⟩)]]⟩) R x;refine⟨_,w₁,A,oA λe f=>?_,?_⟩
   .have:=ym f;rw[B]at this;simp at this;exact⟨_,this,c.5.3,c.5.6 _ c.5.3⟩
   .rw[gX,d];have:=j (K,v,w₁,#[pw,l1,l2,l3,l4,l5,l6]) ⟨aC,pw,l1,l2,l3,l4,l5,l6,aC,ix,⟨c.1,λh=>⟨R,(c.2 h).2⟩,c.3,c.4,c.5,c.6,c.7⟩⟩;simpa[pF,slots,GG,td]using this
  .subst e;obtain⟨o,p,x,d,g⟩:=WM;refine iw.op p (iU g) m λw₁ h₁=>?_;have c:=a.en h₁;let⟨A,B⟩:=Xb c.4 (a:=⟨slots Wg C n i bc bx bf bi inbox batcher t0 t1 t2 t3 t4 fr ad data #[l0,pi,l2,l3,l4,l5,l6] v,[dcall link.2 #[pm (N ⟨Wg,0,X⟩)]]⟩) R x;refine⟨_,w₁,A,oA λe f=>?_,?_⟩
   .have:=ym f;rw[B]at this;simp at this;exact⟨_,this,c.5.4,c.5.6 _ c.5.4⟩
   .rw[gX,d];have:=j (K,v,w₁,#[l0,pw,l2,l3,l4,l5,l6]) ⟨aC,l0,pw,l2,l3,l4,l5,l6,aC,ix,⟨c.1,λh=>⟨(c.2 h).1,R,(c.2 h).2.2⟩,c.3,c.4,c.5,c.6,c.7⟩⟩;simpa[pF,slots,GG,td]using this
  .subst e;obtain⟨o,x,A,d,g⟩:=Xk;refine iw.op x (iU g) m λw₁ h₁=>?_;have c:=a.en h₁;let⟨B,D⟩:=Xs c.4 (a:=⟨slots Wg C n i bc bx bf bi inbox batcher t0 t1 t2 t3 t4 fr ad data #[l0,l1,pi,l3,l4,l5,l6] v,[dcall link.2 #[pm (N ⟨Wg,0,X⟩)]]⟩) R A;refine⟨_,w₁,B,oA λe f=>?_,?_⟩
   .have:=ym f;let⟨k,p⟩:=D _ this;exact⟨_,p,c.5.1,c.5.6 _ c.5.1⟩
   .rw[gX,d];have:=j (K,v,w₁,#[l0,l1,pw,l3,l4,l5,l6]) ⟨aC,l0,l1,pw,l3,l4,l5,l6,aC,ix,⟨λh=>⟨R,(c.1 h).2⟩,λh=>⟨(c.2 h).1,(c.2 h).2.1,R,(c.2 h).2.2.2⟩,c.3,c.4,c.5,c.6,c.7⟩⟩;simpa[pF,slots,GG,td]using this
  .subst e;obtain⟨o,x,A,d,g⟩:=Xl;refine iw.op x (iU g) m λw₁ h₁=>?_;have c:=a.en h₁;let⟨B,D⟩:=WG c.4 (a:=⟨slots Wg C n i bc bx bf bi inbox batcher t0 t1 t2 t3 t4 fr ad data #[l0,l1,l2,pi,l4,l5,l6] v,[dcall link.2 #[pm (N ⟨Wg,0,X⟩)]]⟩) R A;refine⟨_,w₁,B,oA λe f=>?_,?_⟩
   .have:=ym f;let⟨k,p⟩:=D _ this;exact⟨_,p,c.5.2,c.5.6 _ c.5.2⟩
   .rw[gX,d];have:=j (K,v,w₁,#[l0,l1,l2,pw,l4,l5,l6]) ⟨aC,l0,l1,l2,pw,l4,l5,l6,aC,ix,⟨λh=>⟨(c.1 h).1,R⟩,λh=>⟨(c.2 h).1,(c.2 h).2.1,(c.2 h).2.2.1,R,(c.2 h).2.2.2.2⟩,c.3,c.4,c.5,c.6,c.7⟩⟩;simpa[pF,slots,GG,td]using this
  .subst e r u;obtain⟨o,ho,aa,P,S⟩:=Xd;refine rd _ _ _ _ _ _ _ _ _ _ _ _ _ _ _ _ inbox batcher t0 t1 t2 t3 t4 fr ad data ho (iU S) m aa (by simp[slots,GG,p7]) (by simp[slots,GG,p7]) O a.5.5 a.5.6 a.5.7 a.5.8 a.5.10 ?_
   .rintro w₁ h₁ v' D x B d J p f A W ac;have c:=a.en h₁;rw[<-Q]at B;rw[P];have ab:qap C n x:=ac c.4.6;have V:AI link.30 Wg x:=W c.4.5
    have:=j (D,v',x,#[l0,l1,pw,pw,pw,l5,l6]) ⟨aC,l0,l1,pw,pw,pw,l5,l6,aC,ix,⟨λ_=>⟨R,R⟩,λh=>(by have:=(c.2 h).2.2.2.2;cases this),c.3,⟨oy (f _ a.5.1) c.4.1,oy (f _ a.5.2) c.4.2,oy (f _ a.5.3) c.4.3,oy (f _ a.5.4) c.4.4,V,ab⟩,
     ⟨d _ a.5.1,d _ a.5.2,d _ a.5.3,d _ a.5.4,J,λb g=>(A b g).1,aL c.5.7 p,aL c.5.8 p,λb g=>Or.elim (A b g).2 (a.5.9 b) λh=>by have:=c.5.7;omega,aX c.5.10 p⟩,λ_=>B,λh=>(by have:=(c.2 (c.3 h)).2.2.2.2;cases this)⟩⟩
    simpa[pF,slots,GG,td]using this
  .subst e E G r u y;obtain⟨o,p,x,d,g⟩:=Xh;refine iw.op p (iU g) m λw₁ h₁=>?_;have c:=a.en h₁;let⟨A,B⟩:=WW (w:=w₁) z (a:=⟨slots Wg C n i bc bx bf bi inbox batcher t0 t1 t2 t3 t4 fr ad data #[pw,pw,pw,pw,pw,pi,l6] v,[dcall link.2 #[pm (N ⟨Wg,0,X⟩)]]⟩) R R x;refine⟨_,w₁,A,oA λe f=>?_,?_⟩
   .have:=ym f
    grind
   .rw[gX,d];have:=j (K,v,w₁,#[pw,pw,pw,pw,pw,pw,l6]) ⟨aC,pw,pw,pw,pw,pw,pw,l6,aC,ix,⟨c.1,λ_=>⟨R,R,R,R,R⟩,λ_=>R,c.4,c.5,c.6,c.7⟩⟩;simpa[pF,slots,GG,td]using this
  .subst e I y;obtain⟨rfl,rfl,rfl,rfl,_⟩:=a.2 R;obtain⟨o,V,W,J,S⟩:=W6;refine iw.opn V (iU S) m λw₁ h₁=>?_;have d:=a.en h₁;have B:=d.6 R
   obtain⟨x,l,c,hv⟩:∃x l c,v=.slice x l c:=by
    obtain⟨e,_⟩|⟨g,aa,ab,e,_⟩:=B
    .exact⟨_,_,_,e⟩
    grind
   subst hv;let⟨r1,r2⟩:=Xr (w:=w₁) d.4.6 z (a:=⟨slots Wg C n i bc bx bf bi inbox batcher t0 t1 t2 t3 t4 fr ad data #[pw,pw,pw,pw,pw,pw,pi] (U x l c),[dcall link.2 #[pm (N ⟨Wg,0,X⟩)]]⟩) R R W
   have A:=Ss (S:=jM Wg C n) (K:=K) (i:=i) (v:=U x l c) (es:=listed px bW.1 ⟨slots Wg C n i bc bx bf bi inbox batcher t0 t1 t2 t3 t4 fr ad data #[pw,pw,pw,pw,pw,pw,pi] (U x l c),[dcall link.2 #[pm (N ⟨Wg,0,X⟩)]]⟩ o w₁) d.4.6 λe P=>by
    have:=ym P
    grind
   refine⟨_,r1,A,?_⟩;obtain⟨_,_,_,p⟩:=gM w₁ ⟨C,i,X⟩ (U x l c);rw[p,gX,J];have f:∀b,K.1 b->(o3 w₁ ⟨C,i,X⟩ (U x l c)).1[b]? =w₁.1[b]?:=λb f=>gT (a.5.9 b f);have D:(o3 w₁ ⟨C,i,X⟩ (U x l c)).1[Wg]? =w₁.1[Wg]?:=gT (YI Y)
   have:=j (K,U x l c,o3 w₁ _ _,#[pw,pw,pw,pw,pw,pw,pw]) ⟨aC,pw,pw,pw,pw,pw,pw,pw,aC,ix,
    ⟨λ_=>⟨R,R⟩,λ_=>⟨R,R,R,R,R⟩,λ_=>R,⟨oy (f _ d.5.1) d.4.1,oy (f _ d.5.2) d.4.2,oy (f _ d.5.3) d.4.3,oy (f _ d.5.4) d.4.4,let ⟨st,sm,q⟩:=d.4.5;⟨st,sm,Yx q D⟩,A.6 d.4.6⟩,
     ⟨d.5.1,d.5.2,d.5.3,d.5.4,d.5.5,λb g=>by rw[p];exact d.5.6 b g,by rw[p];exact d.5.7,by rw[p];exact d.5.8,d.5.9,by rw[p];exact d.5.10⟩,λ_=>B.stands (λ_=>id) f,λ_=>O5 d.4.6 z _⟩⟩
   simpa[pF,slots,GG,td]using this
end
end
section
section
variable {Wg C n i bc bx bf bi:Nat}{inbox batcher t0 t1 t2 t3 t4 fr ad:Int}{data:ByteArray}{fs:Nat->List Fr.F}{K:gL}{w:pn}
def KW.en{w₁}(h:KW Wg C bc bx bf bi K w)(r:En (jM Wg C n) (N i) K w w₁):KW Wg C bc bx bf bi K w₁:=
 ⟨h.1,h.2,h.3,h.4,h.5,λb a=>aL (h.6 b a) r.4,aL h.7 r.4,aL h.8 r.4,h.9,aX h.10 r.4⟩
def Gi(rd:ReadW)(j:i<n)(l:C≠Wg)(g:fs i=jE inbox batcher fr ad data.1.1)(f:ot data<=1048576)(hF:WF Wg C n i bc bx bf bi (cfg inbox batcher t0 t1 t2 t3 t4) (vF fr ad data) w)(hK:KW Wg C bc bx bf bi K w):iw px pi (jM Wg C n) (N i) (oT px (jM Wg C n) (leftOf fs) i) K (born px (Di Wg bc bx bf bi)) w:=by
 refine iw.step R λw₁ h₁=>⟨_,w₁,_,born_step w₁,.still ..,?_⟩
 rw[gX];have a:WF Wg C n i bc bx bf bi (cfg inbox batcher t0 t1 t2 t3 t4) (vF fr ad data) w₁/\KW Wg C bc bx bf bi K w₁:=⟨hF.en hK.1 hK.2 hK.3 hK.4 h₁,hK.en h₁⟩
 have b:∀{w w₁:pn},(WF Wg C n i bc bx bf bi (cfg inbox batcher t0 t1 t2 t3 t4) (vF fr ad data) w/\KW Wg C bc bx bf bi K w)->En (jM Wg C n) (N i) K w w₁->(WF Wg C n i bc bx bf bi (cfg inbox batcher t0 t1 t2 t3 t4) (vF fr ad data) w₁/\KW Wg C bc bx bf bi K w₁):=
  λh r=>⟨h.1.en h.2.1 h.2.2 h.2.3 h.2.4 r,h.2.en r⟩
 clear hF hK h₁;have e:Nn=(qv (.region 0 #[{ dst:=X,op:=.defer { callee:=.value (.func 109),args:=#[sn 0],argTypes:=#[211] },type:=0,pos:= "upper.go:57",after:=#[],guard:=X }] pi) (.region 1 pB pw)):=R;rw[e];refine iw.go (n:=10) ?_;u_c rp b a;u_reg b a;u_defer b a;u_c pu b a;refine sg λm c=>?_;replace a:=b a c;clear c;refine iw.draw λo d t=>?_;replace a:=b a d;clear d;rw[sched];exact QX (v:=p8) rd j l g f t ⟨aC,aC,aC,⟨a.1.1,a.1.2,a.1.3,a.1.4,a.1.5,a.1.6⟩,⟨a.2.1,a.2.2,a.2.3,a.2.4,a.2.5,a.2.6,a.2.7,a.2.8,a.2.9,a.2.10⟩,aC,aC⟩
end
end
section
variable {tb q b:Nat}{fr ad k j k1 k2:Int}{data k3:ByteArray}{v x y z:po}{ty:wj}{fn:FuncId}{e:Zx}{es:Array Zx}
section
variable {w:pn}{a:Act}{o:OF}
def R1(c:Z w ⟨tb,q,X⟩=N (ox sr fr))(d:Z w ⟨tb,q+1,X⟩=N (ox sr ad))(f:Z w ⟨tb,q+2,X⟩=N (pk data))(g:p7 a (sn 17)=pm (N ⟨tb,q,X⟩))(h:o.2=.load 68 (sn 17)):(rj (p7 a) o).run px w=.ok (.value (.agg (vF fr ad data))) w/\∀e∈(rj (p7 a) o).events px w #[],∃k,e=⟨.cell ⟨tb,k,X⟩,pi,pi⟩:=by
 constructor
 .unfold rj;simp only[h,g];simp[go_sem,c,d,f]
 .unfold rj;simp only[h,g];simp[go_sem,c,d,f]
def Vi(c:o.2=.alloc 3):(rj (p7 a) o).run px w=.ok (.value (pm (N ⟨↑w,0,X⟩))) (o6 w (pj #[ox pg 0] 3))/\(rj (p7 a) o).events px w #[]=#[]:=by
 constructor
 .unfold rj;simp only[c];simp[go_sem]
 .unfold rj;simp only[c];simp[go_sem]
def Vn(c:o.2=.alloc 68):(rj (p7 a) o).run px w=.ok (.value (pm (N ⟨↑w,0,X⟩))) (o6 w (pj #[ox sr 0,ox sr 0,pk ⟨#[]⟩] 68))/\(rj (p7 a) o).events px w #[]=#[]:=by
 constructor
 .unfold rj;simp only[c];simp[go_sem]
 .unfold rj;simp only[c];simp[go_sem]
def Uv(f:w.1[b]? =N (pj #[ox pg k] 3))(d:p7 a (sn 7)=pm (N ⟨b,0,X⟩))(c:p7 a (sn 16)=ox pg j)(g:o.2=.store 3 (sn 7) (sn 16)):(rj (p7 a) o).run px w=.ok .skip (o3 w ⟨b,0,X⟩ (ox pg j))/\(rj (p7 a) o).events px w #[]=#[⟨.cell ⟨b,0,X⟩,pw,pi⟩]:=by
 have hc:Z w ⟨b,0,X⟩=N (ox pg k):=by simp[Z,f]
 have h:sk w ⟨b,0,X⟩=pi:=by simp[sk,f]
 constructor
 .unfold rj;simp only[g,d,c];simp[go_sem,stored,hc,h]
 .unfold rj;simp only[g,d,c];simp[go_sem,storedEv,hc,h]
def Ig{u}(c:w.1[b]? =N (pj #[u] ty)):(o3 w ⟨b,0,X⟩ v).1[b]? =N (pj #[v] ty):=by simp[o3,bD,c]
def o8(w:pn)(b:Nat)(x y z:po):pn:=o3 (o3 (o3 w ⟨b,0,X⟩ x) ⟨b,1,X⟩ y) ⟨b,2,X⟩ z
def LW{d f g}(c:w.1[b]? =N (pj #[d,f,g] ty)):(o8 w b x y z).1[b]? =N (pj #[x,y,z] ty):=by simp[o8,o3,bD,c]
def yV(w b x y z):(o8 w b x y z).2=w.2/\(o8 w b x y z).4=w.4/\(o8 w b x y z).5=w.5/\(o8 w b x y z).1.size=w.1.size/\∀c≠b,(o8 w b x y z).1[c]? =w.1[c]?:=by
 let⟨d,f,g,h⟩:=gM w ⟨b,0,X⟩ x;let⟨i,l,m,n⟩:=gM (o3 w ⟨b,0,X⟩ x) ⟨b,1,X⟩ y;let⟨p,r,s,t⟩:=gM (o3 (o3 w ⟨b,0,X⟩ x) ⟨b,1,X⟩ y) ⟨b,2,X⟩ z
 exact⟨oy p (oy i d),oy r (oy l f),oy s (oy m g),oy t (oy n h),λc hc=>by
  unfold o8;rw[gT (ad:=⟨b,2,X⟩) hc,gT (ad:=⟨b,1,X⟩) hc,gT (ad:=⟨b,0,X⟩) hc]⟩
def U5(c:w.1[b]? =N (pj #[ox sr k1,ox sr k2,pk k3] 68))(m:p7 a (sn 8)=pm (N ⟨b,0,X⟩))(l:p7 a (sn 18)=.agg (vF fr ad data))(n:o.2=.store 68 (sn 8) (sn 18)):(rj (p7 a) o).run px w=.ok .skip (o8 w b (ox sr fr) (ox sr ad) (pk data))/\∀e∈(rj (p7 a) o).events px w #[],∃k,e=⟨.cell ⟨b,k,X⟩,pw,pi⟩:=by
 have d:(o3 w ⟨b,0,X⟩ (ox sr fr)).1[b]? =N (pj #[ox sr fr,ox sr k2,pk k3] 68):=by simp[o3,bD,c]
 have f:(o3 (o3 w ⟨b,0,X⟩ (ox sr fr)) ⟨b,1,X⟩ (ox sr ad)).1[b]? =N (pj #[ox sr fr,ox sr ad,pk k3] 68):=by simp[o3,bD,c]
 have g:Z w ⟨b,0,X⟩=N (ox sr k1):=by simp[Z,c]
 have p:sk w ⟨b,0,X⟩=pi:=by simp[sk,c]
 have h:Z (o3 w ⟨b,0,X⟩ (ox sr fr)) ⟨b,1,X⟩=N (ox sr k2):=by simp[Z,d]
 have r:sk (o3 w ⟨b,0,X⟩ (ox sr fr)) ⟨b,1,X⟩=pi:=by simp[sk,d]
 have i:Z (o3 (o3 w ⟨b,0,X⟩ (ox sr fr)) ⟨b,1,X⟩ (ox sr ad)) ⟨b,2,X⟩=N (pk k3):=by simp[Z,f]
 have s:sk (o3 (o3 w ⟨b,0,X⟩ (ox sr fr)) ⟨b,1,X⟩ (ox sr ad)) ⟨b,2,X⟩=pi:=by simp[sk,f]
 constructor
 .unfold rj;simp only[n,m,l];simp[go_sem,stored,g,p,h,r,i,s,o8]
 .unfold rj;simp only[n,m,l];simp[go_sem,stored,storedEv,g,p,h,r,i,s,qaj _ _ _ _ _ _ (show sw (pk data)=pw from R)]
def JZ(g:p7 a (sn 17)=pm (N ⟨tb,q,X⟩))(h:o.2=.load 68 (sn 17))(c:Z w ⟨tb,q,X⟩=N (ox sr fr))(d:Z w ⟨tb,q+1,X⟩=N (ox sr ad))(f:Z w ⟨tb,q+2,X⟩=N (pk data)):(rj (p7 a) o).run px w=.ok (.value (.agg (vF fr ad data))) w:=(R1 c d f g h).1
def Kx(h:e∈listed px fn a o w)(g:p7 a (sn 17)=pm (N ⟨tb,q,X⟩))(i:o.2=.load 68 (sn 17))(c:Z w ⟨tb,q,X⟩=N (ox sr fr))(d:Z w ⟨tb,q+1,X⟩=N (ox sr ad))(f:Z w ⟨tb,q+2,X⟩=N (pk data)):∃k,e=⟨.cell ⟨tb,k,X⟩,pi,pi⟩:=(R1 c d f g i).2 e (ym h)
def KV(c:o.2=.alloc 3):(rj (p7 a) o).run px w=.ok (.value (pm (N ⟨↑w,0,X⟩))) (o6 w (pj #[ox pg 0] 3)):=(Vi c).1
def P9(c:o.2=.alloc 3):listed px fn a o w=#[]:=by unfold listed;rw[(Vi c).2,seen_none]
def KE(c:o.2=.alloc 68):(rj (p7 a) o).run px w=.ok (.value (pm (N ⟨↑w,0,X⟩))) (o6 w (pj #[ox sr 0,ox sr 0,pk ⟨#[]⟩] 68)):=(Vn c).1
def Rr(c:o.2=.alloc 68):listed px fn a o w=#[]:=by unfold listed;rw[(Vn c).2,seen_none]
def Ll(d:p7 a (sn 7)=pm (N ⟨b,0,X⟩))(c:p7 a (sn 16)=ox pg j)(g:o.2=.store 3 (sn 7) (sn 16))(f:w.1[b]? =N (pj #[ox pg k] 3)):(rj (p7 a) o).run px w=.ok .skip (o3 w ⟨b,0,X⟩ (ox pg j)):=(Uv f d c g).1
def Qm(g:e∈listed px fn a o w)(d:p7 a (sn 7)=pm (N ⟨b,0,X⟩))(c:p7 a (sn 16)=ox pg j)(h:o.2=.store 3 (sn 7) (sn 16))(f:w.1[b]? =N (pj #[ox pg k] 3)):e=⟨.cell ⟨b,0,X⟩,pw,pi⟩:=by
 have:=ym g;rw[(Uv f d c h).2]at this;exact ir
def Lq(d:p7 a (sn 8)=pm (N ⟨b,0,X⟩))(c:p7 a (sn 18)=.agg (vF fr ad data))(g:o.2=.store 68 (sn 8) (sn 18))(f:w.1[b]? =N (pj #[ox sr k1,ox sr k2,pk k3] 68)):(rj (p7 a) o).run px w=.ok .skip (o8 w b (ox sr fr) (ox sr ad) (pk data)):=(U5 f d c g).1
def Q7(g:e∈listed px fn a o w)(d:p7 a (sn 8)=pm (N ⟨b,0,X⟩))(c:p7 a (sn 18)=.agg (vF fr ad data))(h:o.2=.store 68 (sn 8) (sn 18))(f:w.1[b]? =N (pj #[ox sr k1,ox sr k2,pk k3] 68)):∃k,e=⟨.cell ⟨b,k,X⟩,pw,pi⟩:=(U5 f d c h).2 e (ym g)
def GN{S B K}(m:K.2 b)(u:b<w.1.size)(l:b≠S.2)(h:∀e∈es,∃k,e=⟨.cell ⟨b,k,X⟩,pw,pi⟩):Gu S B K w (o8 w b x y z) es:=by let⟨p,r,s,g,f⟩:=yV w b x y z;refine⟨p,r,s,fA g.symm,λc _ A _=>f c λe=>A (e ▸ m),λ⟨n,a,d⟩=>⟨n,oy (f _ (YI l)) a,d⟩,λi _=>cell_of_block (f _ (YI l)) i,λe t=>?_⟩;obtain⟨k,rfl⟩:=h e t;exact rr (rr ⟨_,pw,R,rr (by simpa using m),by rw[g];exact u⟩)
end
end
section
variable {es:Array Zx}
abbrev bS:tg:=base 71
def vY(T:Array po)(h:qd T=24):∃a b q v x y z A B D c d e f g i j m o p r s t u,T=#[a,b,q,v,x,y,z,A,B,D,c,d,e,f,g,i,j,m,o,p,r,s,t,u]:=by
 obtain⟨l⟩:=T
 match l,h with
 |[a,b,q,v,x,y,z,A,B,D,c,d,e,f,g,i,j,m,o,p,r,s,t,u],_=>simp
noncomputable def loopS:vy:=match YY.9 with
 |some (qv _ (qv _ (qv _ (qv (qv _ (.block _ (.loop c))) _))))=>c
 |_=>.skip
noncomputable def rM:vy:=match YY.9 with
 |some (qv _ (qv _ (qv _ (qv _ c))))=>c
 |_=>.skip
noncomputable def tail9:vy:=match rM with
 |qv _ c=>c
 |_=>.skip
noncomputable def ops9:Array OF:=match rM with
 |qv (.region _ ops _) _=>ops
 |_=>#[]
structure SF(OB:Nat->Prop)(W:pn)(Wg C n:Nat)(K:gL)(w:pn):Prop where
 sub:∀b,OB b->K.1 b
 old:∀b,OB b->w.1[b]? =W.1[b]?
 kw:∀b,K.2 b->K.1 b
 ko:∀b,K.1 b->b<w.1.size/\b≠Wg/\b≠C
 pay:qap C n w
 hC:C<w.1.size
 hG:Wg<w.1.size
 glob:qd Tryz.prog.globals<=w.1.size
 new:∀b,K.1 b->OB b\/W.1.size<=b
 siz:↑W<=w.1.size
 still:w.2=W.2/\w.4=W.4/\w.5=W.5
 low:∀b<C-1,b<W.1.size->b≠Wg->w.1[b]? =W.1[b]?
def leftB(a bf:Nat)(W:pn)(fs:Nat->List Fr.F):Left:=λi v O w=>leftOf fs i v O w/\∀b,O b->(b=a\/b=bf)\/W.1.size<=b
def Cz(a bf W fs):(leftB a bf W fs).kI:=λi v O w w₁ b h=>⟨zG fs i v O w w₁ b h.1,h.2⟩
section
variable {OB:Nat->Prop}{W:pn}{Wg C n:Nat}{K:gL}{w w₁:pn}
def SF.en(h:SF OB W Wg C n K w)(r:En (jM Wg C n) X K w w₁):SF OB W Wg C n K w₁:=
 ⟨h.1,λb a=>oy (r.5 b (h.1 b a)) (h.2 b a),h.3,λb a=>⟨aL (h.4 b a).1 r.4,(h.4 b a).2⟩,r.7 h.5,aL h.6 r.4,aL h.7 r.4,aX h.8 r.4,h.9,aX h.10 r.4,⟨oy r.1 h.11.1,oy r.2 h.11.2.1,oy r.3 h.11.2.2⟩,λb c d e=>oy (r.9 b c) (h.12 b c d e)⟩
def SF.wg(f:C≠Wg)(h:SF OB W Wg C n K w)(r:Go.Conc.Aside Wg w w₁):SF OB W Wg C n K w₁:=
 ⟨h.1,λb a=>oy (r.5 b (h.4 b (h.1 b a)).2.1) (h.2 b a),h.3,λb a=>⟨by rw[r.4];exact(h.4 b a).1,(h.4 b a).2⟩,let ⟨cs,c,d⟩:=h.5;⟨cs,oy (r.5 _ f) c,d⟩,by rw[r.4];exact h.6,by rw[r.4];exact h.7,by rw[r.4];exact h.8,h.9,by rw[r.4];exact h.10,⟨oy r.1 h.11.1,oy r.2 h.11.2.1,oy r.3 h.11.2.2⟩,λb c d e=>oy (r.5 b e) (h.12 b c d e)⟩
def SF.gu{w'}(h:SF OB W Wg C n K w)(g:Gu (jM Wg C n) X K w w' es)(e:∀b,K.2 b->¬OB b):SF OB W Wg C n (K.grow ↑w w'.1.size) w':=by
 have c:=g.4;have j:=h.6;have l:=h.7
 exact⟨λb a=>rr (h.1 b a),λb a=>oy (g.5 b (h.4 b (h.1 b a)).1 (λhw=>e b hw a) λ_=>R) (h.2 b a),λb a=>a.imp (h.3 b) id,
  λb a=>Or.elim a (λx=>⟨aL (h.4 b x).1 c,(h.4 b x).2⟩) λx=>⟨x.2,aA,aA⟩,g.6 h.5,aL j c,aL l c,aX h.8 c,
  λb a=>Or.elim a (h.9 b) λx=>rz (aX h.10 x.1),aX h.10 c,⟨oy g.1 h.11.1,oy g.2 h.11.2.1,oy g.3 h.11.2.2⟩,
  λb f d i=>oy (g.5 b (aL d h.10) (λhw=>Or.elim (h.9 b (h.3 b hw)) (e b hw) λx=>aA) λ_=>R) (h.12 b f d i)⟩
def GW(c:Option zm)(n b Wg a bf j:Nat)(cs:List tg)(g:r9):=
 ∃T:Array po,g=G (bS.at ⟨T,[]⟩ [.code loopS,.inLoop loopS,.inBlock 0,.code rM]) cs/\qd T=24/\T[2]? =N (pm (N ⟨a,0,X⟩))/\T[5]? =N (pm (N ⟨bf,0,X⟩))/\T[6]? =N (pm (N ⟨Wg,0,X⟩))/\
  T[12]? =N (U c n b)/\T[13]? =N (ox pg n)/\T[14]? =N (ox pg j)
def AnchS(OB:Nat->Prop)(W:pn)(Wg C n bf:Nat)(cs:List tg)(K:gL)(g:r9)(w:pn):=
 ∃T:Array po,qd T=24/\T[5]? =N (pm (N ⟨bf,0,X⟩))/\CU link (SF OB W Wg C n) Wg (bS.at ⟨T,[]⟩ (ri ops9 (0::[])::[.code tail9])) cs K g w
def SE(OB:Nat->Prop)(W:pn)(Wg C n bf:Nat)(cs:List tg)(K:gL)(g:r9)(w:pn):=
 ∃T:Array po,qd T=24/\T[5]? =N (pm (N ⟨bf,0,X⟩))/\g=G (bS.at ⟨T,[]⟩ (ri ops9 []::[.code tail9])) cs/\SF OB W Wg C n K w
variable {bf:Nat}{cs:List tg}
def GH(c:C≠Wg)(K g w)(h:AnchS OB W Wg C n bf cs K g w):jS px (jM Wg C n) (oX px (jM Wg C n) (SE OB W Wg C n bf cs) (AnchS OB W Wg C n bf cs)) K g w:=by
 obtain⟨T,a,d,b⟩:=h;refine jS.mono (waitRound (L:=link) wgLib (Wg:=Wg) (C:=C) (n:=n) (Fin:=SE OB W Wg C n bf cs) (Fk:=SF OB W Wg C n) (b₀:=bS) (a₀:=⟨T,[]⟩) (ops₀:=ops9) (i₀:=0) (rest₀:=[]) (k₀:=[.code tail9]) (cs:=cs) (λ_ _ _ r h=>h.en r) (λ_ _ _ r h=>h.wg c r) ?_ K g w b) λK g w x=>oX.mono (λK g w y=>⟨T,a,d,y⟩) x;intro K w hF;refine jS.stop λw₁ h₁=>⟨qb T 22 (sh #[]),by simp[a],by grind,?_,hF.1.en h₁⟩
 rfl
end
end
section
variable {K:gL}{w:pn}{g:r9}
section
variable {OB:Nat->Prop}{W:pn}{Wg C n cap bc bf tb q0:Nat}{cs:List tg}{inbox batcher t0 t1 t2 t3 t4:Int}{fr ad:Nat->Int}{data:Nat->ByteArray}{fs:Nat->List Fr.F}
def gU{w₁}(h:SF OB W Wg C n K w/\AI link.30 Wg w)(r:En (jM Wg C n) X K w w₁):SF OB W Wg C n K w₁/\AI link.30 Wg w₁:=⟨h.1.en r,r.6 h.2⟩
def IF(j)(i:GW j n cap Wg bc bf n cs g)(hF:SF OB W Wg C n K w/\AI link.30 Wg w):jS px (jM Wg C n) (uH px (jM Wg C n) (AnchS OB W Wg C n bf cs)) K g w:=by
 obtain⟨T,rfl,f,t2,d,e,a,b,c⟩:=i;obtain⟨m,o,E,P,Q,S,V,Y,v8,v9,p,q,s,t,u,v,z,A,B,D,G,I,J,O,rfl⟩:=vY T f;simp only[cN,cM,cG,aI]at t2 d e a b c;subst t2 d e a b c;have l:¬((n:Int)<n):=aA
 simp only[loopS,rM,YY];refine jS.go (n:=40) ?_;u_c rp gU hF;u_reg gU hF;u_op gU hF;u_c pu gU hF;u_c rp gU hF;u_cond pi gU hF;u_exit gU hF;u_c rp gU hF;u_reg gU hF;u_in gU hF;refine goes_call R R (by k_ne) R wgLib.3 (nm_wait link) R ⟨by u_nil,?_⟩;walk_nrmf waitFn;refine sg λw₁ h₁=>?_;replace hF:=gU hF h₁;refine jS.mono (waitStart (L:=link) (P:=px) wgLib (Wg:=Wg) (C:=C) (n:=n) (Fk:=SF OB W Wg C n) (b₀:=bS) (a₀:=_) (ops₀:=ops9) (i₀:=0) (rest₀:=[]) (k₀:=[.code tail9]) (cs:=cs) (λ_ _ _ r h=>h.en r) K w₁ hF) λK g w x=>uH.mono (λK g w y=>⟨_,?_,?_,y⟩) x
 all_goals simp
def Eu(rd:ReadW){St'}(ay:C≠Wg){j}(hj:j<n)(hn:n<9223372036854775808)(aj:OB tb)(av:OB bc)(aw:OB bf)(a7:W.1[bc]? =N (pj (cfg inbox batcher t0 t1 t2 t3 t4) 24))(a8:W.1[bf]? =N (pj #[U (N ⟨C,0,X⟩) n n] 29))(I:Z W ⟨tb,q0+j*3,X⟩=N (ox sr (fr j))/\Z W ⟨tb,q0+j*3+1,X⟩=N (ox sr (ad j))/\Z W ⟨tb,q0+j*3+2,X⟩=N (pk (data j)))(bd:fs j=jE inbox batcher (fr j) (ad j) (data j).1.1)(hd:ot (data j)<=1048576)(hg:GW (N ⟨tb,q0,X⟩) n cap Wg bc bf j cs g)(hF:SF OB W Wg C n K w/\AI link.30 Wg w)(hK:∀b,¬K.2 b)(bh:∀K g w,GW (N ⟨tb,q0,X⟩) n cap Wg bc bf (j+1) cs g->SF OB W Wg C n K w/\AI link.30 Wg w->(∀b,¬K.2 b)->jS px (jM Wg C n) St' K g w):jS px (jM Wg C n) (D8 px (jM Wg C n) (leftB bc bf W fs) j (λK g w=>jS px (jM Wg C n) St' K g w)) K g w:=by
 obtain⟨T,rfl,hT,t2,t5,t6,a2,a3,a4⟩:=hg;obtain⟨v0,v1,v2,v3,v4,v5,v6,v7,v8,v9,bu,bv,bw,bz,b0,b1,b2,b3,b4,b5,b6,b7,b8,b9,rfl⟩:=vY T hT;simp only[cN,cM,cG,aI]at t2 t5 t6 a2 a3 a4;subst t2 t5 t6 a2 a3 a4;have bs:(j:Int)<n:=aA
 have br:(0:Int)<=(j:Int):=aA
 simp only[loopS,YY];refine jS.go (n:=40) ?_;u_c rp gU hF;u_reg gU hF;u_op gU hF;u_c pu gU hF;u_c rp gU hF;u_cond pw gU hF;u_c ye gU hF;u_c rp gU hF;u_c qaq gU hF;u_c rp gU hF;u_reg gU hF
 iterate 2 u_op gU hF
 refine sg λw₁ h₁=>?_;replace hF:=gU hF h₁;clear h₁;refine jS.m (iw.op R R (by k_ne) λbl az=>?_);replace hF:=gU hF az;clear az;have B:=λk=>cell_of_block (hF.1.2 tb aj) k;refine⟨_,bl,JZ R R (oy (B _) I.1) (oy (B _) I.2.1) (oy (B _) I.2.2),oA λe Q=>?_,?_⟩
 .obtain⟨k,rfl⟩:=Kx Q R R (oy (B _) I.1) (oy (B _) I.2.1) (oy (B _) I.2.2);exact⟨_,R,hF.1.1 tb aj,(hF.1.4 tb (hF.1.1 tb aj)).1⟩
 rw[gX];clear B;walk_nrm;refine iw.op R R (by k_ne) λae a0=>?_;replace hF:=gU hF a0;clear a0;have t:Gu (jM Wg C n) X K ae (o6 ae (pj #[ox pg 0] 3)) #[]:=DG hF.1.6 _;refine⟨_,_,KV R,by rw[P9 R];exact t,?_⟩;have d:=hF.1.gu t λb i=>Zl i (hK b);obtain⟨bi,P⟩:∃bi,ae.1.size=bi:=⟨_,R⟩
 obtain⟨V,f⟩:∃V,o6 ae (pj #[ox pg 0] 3)=V:=⟨_,R⟩
 have m:V.1[bi]? =N (pj #[ox pg 0] 3):=by rw[<-f,<-P];exact sv _ _
 have ah:V.1.size=bi+1:=by rw[<-f,<-P];simp
 have o:AI link.30 Wg V:=let ⟨st,sm,hl⟩:=hF.2;⟨st,sm,Yx hl (by rw[<-f];exact t.5 _ hF.1.7 (hK _) λ_=>R)⟩
 rw[f]at d;rw[f,P];rw[P]at d;obtain⟨u,O⟩:∃u,K.grow bi V.1.size=u:=⟨_,R⟩
 rw[O]at d⊢;have ag:u.1 bi:=by rw[<-O];exact rz ⟨fI,aA⟩
 have ba:u.2 bi:=by rw[<-O];exact rz ⟨fI,aA⟩
 have a9:∀b,u.2 b->b=bi:=by rw[<-O];exact λb i=>Or.elim i (λh=>Zl h (hK b)) λh=>aA
 have bb:¬OB bi:=λh=>by have:=(hF.1.4 bi (hF.1.1 bi h)).1;omega
 replace hF:SF OB W Wg C n u V/\AI link.30 Wg V:=⟨d,o⟩
 clear t d o f O ah P;walk_nrm;refine iw.op R R (by k_ne) λY ak=>?_;replace hF:=gU hF ak;have ax:=oy (ak.5 bi ag) m;clear ak m;have t:Gu (jM Wg C n) X u Y (o6 Y (pj #[ox sr 0,ox sr 0,pk ⟨#[]⟩] 68)) #[]:=DG hF.1.6 _;refine⟨_,_,KE R,by rw[Rr R];exact t,?_⟩;have d:=hF.1.gu t λb i=>by grind
 obtain⟨a,G⟩:∃a,Y.1.size=a:=⟨_,R⟩
 have bq:bi<a:=by rw[<-G];exact(hF.1.4 bi ag).1
 obtain⟨z,f⟩:∃V,o6 Y (pj #[ox sr 0,ox sr 0,pk ⟨#[]⟩] 68)=V:=⟨_,R⟩
 have y:z.1[a]? =N (pj #[ox sr 0,ox sr 0,pk ⟨#[]⟩] 68):=by rw[<-f,<-G];exact sv _ _
 have ah:z.1.size=a+1:=by rw[<-f,<-G];simp
 have m:z.1[bi]? =N (pj #[ox pg 0] 3):=by
  rw[<-f]
  show(Y.1.push _)[bi]? =_
  rw[Array.getElem?_push_lt aA,<-bL];exact ax
 have o:AI link.30 Wg z:=let ⟨st,sm,hl⟩:=hF.2;⟨st,sm,Yx hl (by rw[<-f];exact t.5 _ hF.1.7 (λh=>(hF.1.4 _ (hF.1.3 _ h)).2.1 R) λ_=>R)⟩
 rw[f]at d;rw[f,G];rw[G]at d;obtain⟨c,A⟩:∃c,u.grow a z.1.size=c:=⟨_,R⟩
 rw[A]at d⊢;have s:c.1 a:=by rw[<-A];exact rz ⟨fI,aA⟩
 have au:c.2 a:=by rw[<-A];exact rz ⟨fI,aA⟩
 have q:c.1 bi:=by rw[<-A];exact rr ag
 have bp:∀b,c.2 b->b=bi\/b=a:=by rw[<-A];exact λb i=>Or.elim i (λh=>rr (a9 b h)) λh=>rz aA
 have bk:¬OB a:=λh=>by have:=(hF.1.4 a (hF.1.1 a h)).1;omega
 have ar:c.2 bi:=by rw[<-A];exact rr ba
 replace hF:SF OB W Wg C n c z/\AI link.30 Wg z:=⟨d,o⟩
 clear t d o f A ah G ax;walk_nrm;have am:=(hF.1.4 bi q).2.2;have an:=(hF.1.4 a s).2.2;have ao:=(hF.1.4 bi q).2.1;have ap:=(hF.1.4 a s).2.1;have aq:∀b,c.2 b->¬OB b:=λb i=>by grind
 refine iw.opn R R (by k_ne) λE aa=>?_;replace hF:=gU hF aa;have i5:=oy (aa.5 bi q) m;have x5:=oy (aa.5 a s) y;clear aa m y;have S:Gu (jM Wg C n) X c E (o3 E ⟨bi,0,X⟩ (ox pg j)) #[]:=Lc ar (hF.1.4 bi q).1 am aC;refine⟨_,Ll R R R i5,Lc ar (hF.1.4 bi q).1 am λe Q=>Qm Q R R R i5,?_⟩;have D:=(gM E ⟨bi,0,X⟩ (ox pg j)).2.2.2;have d:=hF.1.gu S aq;rw[D,gX]at d;rw[D,gX];have o:AI link.30 Wg (o3 E ⟨bi,0,X⟩ (ox pg j)):=let ⟨st,sm,hl⟩:=hF.2;⟨st,sm,Yx hl (gT (YI ao))⟩
 have m:(o3 E ⟨bi,0,X⟩ (ox pg j)).1[bi]? =N (pj #[ox pg j] 3):=Ig i5;have y:(o3 E ⟨bi,0,X⟩ (ox pg j)).1[a]? =N (pj #[ox sr 0,ox sr 0,pk ⟨#[]⟩] 68):=oy (gT (by show a≠bi;omega)) x5;replace hF:SF OB W Wg C n c _/\AI link.30 Wg _:=⟨d,o⟩
 clear S d o D i5 x5;generalize o3 E ⟨bi,0,X⟩ (ox pg j)=V5 at *;walk_nrm;refine iw.opn R R (by k_ne) λJ ab=>?_;replace hF:=gU hF ab;have i6:=oy (ab.5 bi q) m;have x6:=oy (ab.5 a s) y;clear ab m y;have S:Gu (jM Wg C n) X c J (o8 J a (ox sr (fr j)) (ox sr (ad j)) (pk (data j))) #[]:=GN au (hF.1.4 a s).1 an aC;refine⟨_,Lq R R R x6,GN au (hF.1.4 a s).1 an λe Q=>Q7 Q R R R x6,?_⟩;obtain⟨_,_,_,D,ai⟩:=yV J a (ox sr (fr j)) (ox sr (ad j)) (pk (data j));have d:=hF.1.gu S aq;rw[D,gX]at d;rw[D,gX];have o:AI link.30 Wg (o8 J a (ox sr (fr j)) (ox sr (ad j)) (pk (data j))):=let ⟨st,sm,hl⟩:=hF.2;⟨st,sm,Yx hl (ai _ (YI ap))⟩
 have y:(o8 J a (ox sr (fr j)) (ox sr (ad j)) (pk (data j))).1[a]? =N (pj (vF (fr j) (ad j) (data j)) 68):=LW x6;have m:=oy (ai bi aA) i6;replace hF:SF OB W Wg C n c _/\AI link.30 Wg _:=⟨d,o⟩
 clear S d o D i6 x6 ai;generalize o8 J a (ox sr (fr j)) (ox sr (ad j)) (pk (data j))=V6 at *;walk_nrm;replace hF:(SF OB W Wg C n c V6/\V6.1[bi]? =N (pj #[ox pg j] 3)/\V6.1[a]? =N (pj (vF (fr j) (ad j) (data j)) 68))/\AI link.30 Wg V6:=⟨⟨hF.1,m,y⟩,hF.2⟩
 clear m y
 have l:∀w p,En (jM Wg C n) X c w p->(SF OB W Wg C n c w/\w.1[bi]? =N (pj #[ox pg j] 3)/\w.1[a]? =N (pj (vF (fr j) (ad j) (data j)) 68))->(SF OB W Wg C n c p/\p.1[bi]? =N (pj #[ox pg j] 3)/\p.1[a]? =N (pj (vF (fr j) (ad j) (data j)) 68)):=
  λw p r h=>⟨h.1.en r,oy (r.5 bi q) h.2.1,oy (r.5 a s) h.2.2⟩
 have a5:∀w p,Go.Conc.Aside Wg w p->(SF OB W Wg C n c w/\w.1[bi]? =N (pj #[ox pg j] 3)/\w.1[a]? =N (pj (vF (fr j) (ad j) (data j)) 68))->(SF OB W Wg C n c p/\p.1[bi]? =N (pj #[ox pg j] 3)/\p.1[a]? =N (pj (vF (fr j) (ad j) (data j)) 68)):=
  λw p r h=>⟨h.1.wg ay r,oy (r.5 bi ao) h.2.1,oy (r.5 a ap) h.2.2⟩
 refine iw.go (n:=20) ?_;u_c pu (fH l) hF;u_c rp (fH l) hF;u_reg (fH l) hF;u_in (fH l) hF;refine goes_call R R (by k_ne) R wgLib.1 (nm_add link) R ⟨by u_nil,?_⟩;walk_nrmf addFn;refine sg λbm a1=>?_;replace hF:=fH l hF a1;clear a1;refine addPos (L:=link) (P:=px) wgLib l a5 ?_ bm hF;clear hF;intro ca hF;walk_nrm;refine jS.go (n:=20) ?_;u_c pu (fH l) hF;u_reg (fH l) hF;u_op (fH l) hF;refine sg λbo ac=>jS.stop λwa ha=>?_;replace hF:=fH l (fH l hF ac) ha;clear ac ha;refine⟨R,?_⟩;rw[stepG_spawn (d:=Di Wg bc a bf bi) (w':=wa) (f:=.func 108) (c:=#[pm (N ⟨Wg,0,X⟩),pm (N ⟨bc,0,X⟩),pm (N ⟨a,0,X⟩),pm (N ⟨bf,0,X⟩),pm (N ⟨bi,0,X⟩)]) R R (by k_ne) (by simp[go_sem,Di,Deferred.ofValue]) R];generalize hL:listed _ _ _ _ _=Lx
 have a6:Lx=#[]:=by
  rw[<-hL];simp[listed,go_sem,seen,Deferred.ofValue];rfl
 subst a6;clear hL
 have af:∀b,(b=bc\/b=a\/b=bf\/b=bi)->c.1 b:=by
  rintro b (rfl|rfl|rfl|rfl)
  .exact hF.1.1.1 _ av
  .exact s
  .exact hF.1.1.1 _ aw
  .exact q
 refine⟨_,_,⟨c.1,λ_=>False⟩,⟨_,λ_=>False⟩,R,R,λ_ h=>h,λ_ h=>sj h,af,λ_ h=>sj h,λ_ h=>sj h,λ_ h=>sj h,λ_ h=>sj h,λ_ h=>sj h,λbj bg=>?_,?_⟩
 .refine iw.mono (iw.keep (Zr:=λb=>b=bc\/b=bf) (B:=W.1.size) (Gi rd hj ay bd hd ⟨oy (hF.1.1.2 bc av) a7,hF.1.2.2,oy (hF.1.1.2 bf aw) a8,hF.1.2.1,bg,bj⟩ ⟨rr R,rz (rr R),rz (rz (rr R)),rz (rz (rz R)),λ_ h=>sj h,λb i=>(hF.1.1.4 b (af b i)).1,hF.1.1.6,hF.1.1.7,λb i=>(hF.1.1.4 b (af b i)).2.2,hF.1.1.8⟩) (λb i=>by
   obtain rfl|rfl|rfl|rfl:=i
   .exact rr (rr R)
   .exact rz ((hF.1.1.9 _ s).resolve_left bk)
   .exact rr (rz R)
   .exact rz ((hF.1.1.9 _ q).resolve_left bb)) hF.1.1.10) λK g w x=>let ⟨⟨v,h1,h2⟩,h3⟩:=x;⟨v,h1,h2,h3⟩
 ·
  replace hF:SF OB W Wg C n ⟨c.1,λ_=>False⟩ wa/\AI link.30 Wg wa:=⟨⟨hF.1.1.1,hF.1.1.2,λ_ h=>sj h,hF.1.1.4,hF.1.1.5,hF.1.1.6,hF.1.1.7,hF.1.1.8,hF.1.1.9,hF.1.1.10,hF.1.1.11,hF.1.1.12⟩,hF.2⟩
  have v:xh pg ((j:Int)+1)=((j+1:Nat):Int):=gj
  walk_nrm;refine jS.go (n:=20) ?_;u_c pu gU hF;u_c stepG_inBlock gU hF;u_reg gU hF
  iterate 2 u_op gU hF
  u_c pu gU hF;u_c stepG_inLoop gU hF;refine sg λbo ac=>?_;replace hF:=gU hF ac;refine bh _ _ _ ⟨_,R,?_,?_,?_,?_,?_,?_,?_⟩ hF λ_ h=>h
  all_goals simp
end
end
section
variable {tx:Option zm}{K:gL}{w:pn}
section
variable {OB:Nat->Prop}{W:pn}{Wg C n cap bc bf tb q0:Nat}{cs:List tg}{inbox batcher t0 t1 t2 t3 t4:Int}{fr ad:Nat->Int}{data:Nat->ByteArray}{fs:Nat->List Fr.F}
structure LN(OB:Nat->Prop)(W:pn)(tx:Option zm)(tb q0 n:Nat)(fr ad:Nat->Int)(data:Nat->ByteArray):Prop where
 at_:0<n->tx=N ⟨tb,q0,X⟩/\OB tb
 cell:∀j<n,Z W ⟨tb,q0+j*3,X⟩=N (ox sr (fr j))/\Z W ⟨tb,q0+j*3+1,X⟩=N (ox sr (ad j))/\Z W ⟨tb,q0+j*3+2,X⟩=N (pk (data j))
 size:∀j<n,ot (data j)<=1048576
def FE(rd:ReadW)(u:C≠Wg)(t:n<9223372036854775808)(o:OB bc)(p:OB bf)(l:W.1[bc]? =N (pj (cfg inbox batcher t0 t1 t2 t3 t4) 24))(m:W.1[bf]? =N (pj #[U (N ⟨C,0,X⟩) n n] 29))(c:LN OB W tx tb q0 n fr ad data)(q:∀j<n,fs j=jE inbox batcher (fr j) (ad j) (data j).1.1):∀(r j:Nat),j+r=n->∀(K:gL)(g:r9)(w:pn),GW tx n cap Wg bc bf j cs g->SF OB W Wg C n K w/\AI link.30 Wg w->(∀b,¬K.2 b)->mR px (jM Wg C n) (AnchS OB W Wg C n bf cs) (leftB bc bf W fs) r K g w:=by
 intro r
 induction r with
 |zero=>
  intro j b K g w a hF _;obtain rfl:j=n:=aA
  exact IF tx a hF
 |succ r ih=>
  intro j x K g w s hF hK
  obtain⟨b,d⟩:∃b:gL->r9->pn->Prop,mR px (jM Wg C n) (AnchS OB W Wg C n bf cs) (leftB bc bf W fs) r=λK g w=>jS px (jM Wg C n) b K g w:=by
   cases r with
   |zero=>exact⟨_,R⟩
   |succ r=>exact⟨_,R⟩
  obtain⟨rfl,v⟩:=c.1 aA;have a:j<n:=aA
  have h:=Eu rd (St':=b) u a t v o p l m (c.2 j a) (q j a) (c.3 j a) s hF hK λK g w e f i=>by
   have:=ih _ aA K g w e f i;rw[d]at this;exact this
  show ∃T,gy px pw (jM Wg C n) X (D8 px (jM Wg C n) (leftB bc bf W fs) (n-(r+1)) (mR px (jM Wg C n) (AnchS OB W Wg C n bf cs) (leftB bc bf W fs) r)) T K g w
  rw[d,show n-(r+1)=j by omega];exact h
noncomputable def ML:vy:=match YY.9 with
 |some (qv _ (qv _ (qv _ (qv c _))))=>c
 |_=>.skip
def JL(rd:ReadW)(s:C≠Wg)(q:n<9223372036854775808)(m:OB bc)(o:OB bf)(i:W.1[bc]? =N (pj (cfg inbox batcher t0 t1 t2 t3 t4) 24))(l:W.1[bf]? =N (pj #[U (N ⟨C,0,X⟩) n n] 29))(t:LN OB W tx tb q0 n fr ad data)(p:∀j<n,fs j=jE inbox batcher (fr j) (ad j) (data j).1.1){T:Array po}(h:qd T=24)(t1:T[1]? =N (U tx n cap))(t2:T[2]? =N (pm (N ⟨bc,0,X⟩)))(d:T[5]? =N (pm (N ⟨bf,0,X⟩)))(e:T[6]? =N (pm (N ⟨Wg,0,X⟩)))(hF:SF OB W Wg C n K w/\AI link.30 Wg w)(hK:∀b,¬K.2 b):mR px (jM Wg C n) (AnchS OB W Wg C n bf cs) (leftB bc bf W fs) n K (G (bS.at ⟨T,[]⟩ [.code ML,.code rM]) cs) w:=by
 obtain⟨a,f⟩:∃a:gL->r9->pn->Prop,mR px (jM Wg C n) (AnchS OB W Wg C n bf cs) (leftB bc bf W fs) n=λK g w=>jS px (jM Wg C n) a K g w:=by
  cases n with
  |zero=>exact⟨_,R⟩
  |succ r=>exact⟨_,R⟩
 have c:=FE (cap:=cap) (cs:=cs) rd s q m o i l t p n 0 aA;rw[f]at c⊢;obtain⟨u,v,P,v3,v4,v5,v6,v7,v8,v9,x,y,z,A,B,D,E,I,J,O,Q,S,V,Y,rfl⟩:=vY T h;simp only[cN,cM,cG,aI]at t1 t2 d e;subst t1 t2 d e;simp only[ML,YY];refine jS.go (n:=20) ?_;u_c rp gU hF;u_reg gU hF
 iterate 3 u_op gU hF
 u_c pu gU hF;u_c qaq gU hF;u_c stepG_loop gU hF;refine sg λw₁ h₁=>?_;replace hF:=gU hF h₁;refine c K _ w₁ ⟨_,R,?_,?_,?_,?_,?_,?_,?_⟩ hF hK
 all_goals simp
end
end
section
variable {n b:Nat}
section
variable {w:pn}{a:Act}{o:OF}
def Vg{f c g t1 h i j}(d:p7 a (sn 0)=.agg (cfg f c g t1 h i j))(e:o.2=.box 24 (sn 0)):(rj (p7 a) o).run px w=.ok (.value (pm (N ⟨↑w,0,X⟩))) (o6 w (pj (cfg f c g t1 h i j) 24))/\(rj (p7 a) o).events px w #[]=#[]:=by
 constructor
 .unfold rj;simp only[e,d];simp[go_sem]
 .unfold rj;simp only[e,d];simp[go_sem]
def U2(c:o.2=.alloc 29):(rj (p7 a) o).run px w=.ok (.value (pm (N ⟨↑w,0,X⟩))) (o6 w (pj #[U X 0 0] 29))/\(rj (p7 a) o).events px w #[]=#[]:=by
 constructor
 .unfold rj;simp only[c];simp[go_sem]
 .unfold rj;simp only[c];simp[go_sem]
def Vd(c:o.2=.alloc 211):(rj (p7 a) o).run px w=.ok (.value (pm (N ⟨↑w,0,X⟩))) (o6 w (pj #[ox qbl 0,ox sr 0] 211))/\(rj (p7 a) o).events px w #[]=#[]:=by
 constructor
 .unfold rj;simp only[c];simp[go_sem]
 .unfold rj;simp only[c];simp[go_sem]
def US:(Tryz.prog.info? 76).map (λi=>(i.8,i.3,i.4))=N (N (U X 0 0),1,24):=Zm
def U3:Tryz.prog.underlying 29=N (.slice 76):=Zm
def U9(p:n<=16777216)(h:p7 a (sn 10)=ox pg n)(f:o.2=.makeSlice 29 (sn 10) (sn 10)):(rj (p7 a) o).run px w=.ok (.value (U (N ⟨↑w,0,X⟩) n n)) (o6 w (pj (madeCells #[U X 0 0] n) 76))/\(rj (p7 a) o).events px w #[]=#[]:=by
 let⟨i,e,g,m,d⟩:=info_parts US;have c:=run_make (P:=px) w 29 76 i _ U3 e g pg pg n n aA aA (by rw[d];omega) aA;have l:=λj=>events_make (P:=px) w 29 76 i _ U3 e g pg pg n n aA aA (by rw[d];omega) aA (by rw[d];simp;omega) j;rw[m]at c;simp only[Int.toNat_natCast,Nat.mul_one]at c;constructor
 .unfold rj;simp only[f,h];simp[go_sem,c,Value.cells]
 .unfold rj;simp only[f,h];simp[go_sem,l]
def RC{C u}(f:w.1[b]? =N (pj #[u] 29))(d:p7 a (sn 5)=pm (N ⟨b,0,X⟩))(c:p7 a (sn 11)=U (N ⟨C,0,X⟩) n n)(g:o.2=.store 29 (sn 5) (sn 11)):(rj (p7 a) o).run px w=.ok .skip (o3 w ⟨b,0,X⟩ (U (N ⟨C,0,X⟩) n n))/\∀e∈(rj (p7 a) o).events px w #[],e=⟨.cell ⟨b,0,X⟩,pw,pi⟩:=by
 have hc:Z w ⟨b,0,X⟩=N u:=by simp[Z,f]
 have h:sk w ⟨b,0,X⟩=pi:=by simp[sk,f]
 constructor
 .unfold rj;simp only[g,d,c];simp[go_sem,stored,hc,h]
 .unfold rj;simp only[g,d,c];simp[go_sem,hc,h,qaj _ _ _ _ _ _ (show sw (U (N ⟨C,0,X⟩) n n)=pw from R)]
def RE{s m}(f:w.1[b]? =N (pj #[U s n m] 29))(c:p7 a (sn 5)=pm (N ⟨b,0,X⟩))(d:o.2=.load 29 (sn 5)):(rj (p7 a) o).run px w=.ok (.value (U s n m)) w/\∀e∈(rj (p7 a) o).events px w #[],e=⟨.cell ⟨b,0,X⟩,pi,pi⟩:=by
 have hc:Z w ⟨b,0,X⟩=N (U s n m):=by simp[Z,f]
 constructor
 .unfold rj;simp only[d,c];simp[go_sem,hc]
 .unfold rj;simp only[d,c];simp[go_sem,hc]
end
end
section
variable {B:Nat}{v:po}{es:Array Zx}
section
variable {P:th}{Post:po->pn->Prop}{Dead:Nat->Prop}
def kY.go:∀{n g w},X7 P pw AtRel DC0 (kY P Post Dead) n g w->kY P Post Dead g w:=by
 intro n
 induction n with
 |zero=>exact λ{g w} h=>h w (YQ w)
 |succ n ih=>
  intro g w h;obtain h|⟨j,l⟩:=h
  .exact h w (YQ w)
  .refine .step j λd=>?_;have:=l _ ⟨d,R⟩;cases e:vi P pw g (w.at d)with
   |go g' w' es=>
    rw[e,goes_go]at this;obtain⟨⟨rfl,rfl⟩,c⟩:=this;exact⟨g',_,_,R,fI,λe f=>by simp at f,ih c⟩
   |_=>rw[e]at this;exact sj this
def nA.go:∀{n g w},X7 P pw AtRel DC0 (nA P Post Dead B) n g w->nA P Post Dead B g w:=by
 intro n
 induction n with
 |zero=>exact λ{g w} h=>h w (YQ w)
 |succ n ih=>
  intro g w h;obtain h|⟨j,l⟩:=h
  .exact h w (YQ w)
  .refine .step j λd=>?_;have:=l _ ⟨d,R⟩;cases e:vi P pw g (w.at d)with
   |go g' w' es=>
    rw[e,goes_go]at this;obtain⟨⟨rfl,rfl⟩,c⟩:=this;exact⟨g',_,_,B,R,fI,λe f=>by simp at f,ih c⟩
   |_=>rw[e]at this;exact sj this
section
variable {w w':pn}{b:tg}{a:Act}{k:List qbe}{cs:List tg}{ops:Array OF}{i:Nat}{rest:List Nat}{o:OF}
def kY.Kp(g:ops[i]? =N o)(hw:sy o (yielded ops a.1)=pw)(f:b.6≠.early)(j:∀d,(rj (p7 a) o).run P (w.at d)=.ok (.value v) (w'.at d))(l:↑w<=w'.1.size)(c:∀d,∀e∈(rj (p7 a) o).events P (w.at d) #[],EvL (Nw Dead) ↑w' e)(h:kY P Post Dead (G (b.at (td a o.1 v) (ri ops rest::k)) cs) w'):kY P Post Dead (G (b.at a (ri ops (i::rest)::k)) cs) w:=
 .op g hw f λd=>⟨v,w'.at d,j d,l,λe h=>c d e (ym h),h.at d⟩
def kY.WX(g:ops[i]? =N o)(hw:sy o (yielded ops a.1)=pw)(f:b.6≠.early)(j:∀d,(rj (p7 a) o).run P (w.at d)=.ok .skip (w'.at d))(l:↑w<=w'.1.size)(c:∀d,∀e∈(rj (p7 a) o).events P (w.at d) #[],EvL (Nw Dead) ↑w' e)(h:kY P Post Dead (G (b.at (td a o.1 p8) (ri ops rest::k)) cs) w'):kY P Post Dead (G (b.at a (ri ops (i::rest)::k)) cs) w:=
 .opn g hw f λd=>⟨w'.at d,j d,l,λe h=>c d e (ym h),h.at d⟩
def nA.Xq(g:ops[i]? =N o)(hw:sy o (yielded ops a.1)=pw)(f:b.6≠.early)(j:∀d,(rj (p7 a) o).run P (w.at d)=.ok (.value v) (w'.at d))(c:∀d,(rj (p7 a) o).events P (w.at d) #[]=#[])(h:nA P Post Dead B (G (b.at (td a o.1 v) (ri ops rest::k)) cs) w'):nA P Post Dead B (G (b.at a (ri ops (i::rest)::k)) cs) w:=
 .step R λd=>⟨_,w'.at d,_,B,stepG_value g hw f (j d),fI,λe h=>by have:=ym h;rw[c d]at this;simp at this,h.at d⟩
def Ci{p:Zx->Prop}(h:es=#[]):∀e∈es,p e:=λe c=>by grind
end
def jG{c w w₁}(h:AtRel c w)(r:AtRel w w₁):AtRel c w₁:=atRel_trans _ _ _ h r
end
noncomputable def NO:vy:=YY.9.getD .skip
def jJ(w:pn)(c:Array po)(n:Nat):pn:=
 o6 (o3 (o6 (o6 (o6 w (pj c 24)) (pj (madeCells #[U X 0 0] n) 76)) (pj #[U X 0 0] 29)) ⟨w.1.size+2,0,X⟩ (U (N ⟨w.1.size+1,0,X⟩) n n)) (pj #[ox qbl 0,ox sr 0] 211)
section
variable {Post:po->pn->Prop}{Dead:Nat->Prop}{w:pn}{tx:Option zm}{n cap:Nat}{cs:List tg}{inbox batcher t0 t1 t2 t3 t4:Int}
def Ca(q:n<=16777216)(I:∀b,Dead b->b<w.1.size)(F:∀T:Array po,qd T=24->T[1]? =N (U tx n cap)->T[2]? =N (pm (N ⟨↑w,0,X⟩))->T[5]? =N (pm (N ⟨w.1.size+2,0,X⟩))->T[6]? =N (pm (N ⟨w.1.size+3,0,X⟩))->nA px Post Dead (w.1.size+3) (G (bS.at ⟨T,[]⟩ [.code ML,.code rM]) cs) (jJ w (cfg inbox batcher t0 t1 t2 t3 t4) n)):kY px Post Dead (G (bS.at ⟨#[.agg (cfg inbox batcher t0 t1 t2 t3 t4),U tx n cap,p8,p8,p8,p8,p8,p8,p8,p8,p8,p8,p8,p8,p8,p8,p8,p8,p8,p8,p8,p8,p8,p8],[]⟩ [.code NO]) cs) w:=by
 have hF:=YQ w;simp only[NO,YY,cW];refine kY.go (n:=20) ?_;u_c rp jG hF;u_reg jG hF;refine sg λw₁ h₁=>?_;obtain⟨d,rfl⟩:=jG hF h₁;refine kY.at ?_ d;clear hF h₁;refine kY.Kp (v:=pm (N ⟨↑w,0,X⟩)) (w':=o6 w _) R R (by k_ne) (λd=>(Vg R R).1) aC (λd=>Ci (Vg R R).2) ?_;obtain⟨w1,g⟩:∃w1,w1=o6 w (pj (cfg inbox batcher t0 t1 t2 t3 t4) 24):=⟨_,R⟩
 have s:↑w1=w.1.size+1:=by rw[g];simp
 rw[<-g];walk_nrm;have hF:=YQ w1;refine kY.go (n:=20) ?_;u_op jG hF;u_c pu jG hF;u_c rp jG hF;u_reg jG hF
 iterate 2 u_op jG hF
 refine sg λw₁ h₁=>?_;obtain⟨d,rfl⟩:=jG hF h₁;refine kY.at ?_ d;clear hF h₁;refine kY.Kp (v:=U (N ⟨↑w1,0,X⟩) n n) (w':=o6 w1 _) R R (by k_ne) (λd=>(U9 q R R).1) aC (λd=>Ci (U9 q R R).2) ?_;obtain⟨w2,j⟩:∃w2,w2=o6 w1 (pj (madeCells #[U X 0 0] n) 76):=⟨_,R⟩
 have m:↑w2=w.1.size+2:=by rw[j];simp[s]
 rw[<-j,s];walk_nrm;refine kY.Kp (v:=pm (N ⟨↑w2,0,X⟩)) (w':=o6 w2 _) R R (by k_ne) (λd=>(U2 R).1) aC (λd=>Ci (U2 R).2) ?_;obtain⟨w3,c⟩:∃w3,w3=o6 w2 (pj #[U X 0 0] 29):=⟨_,R⟩
 have t:↑w3=w.1.size+3:=by rw[c];simp[m]
 have p:w3.1[w.1.size+2]? =N (pj #[U X 0 0] 29):=by rw[c,<-m];exact sv _ _
 rw[<-c,m];walk_nrm
 refine kY.WX (w':=o3 w3 _ _) R R (by k_ne) (λd=>(RC (w:=w3.at d) p R R R).1) (fA (gM w3 _ _).2.2.2.symm)
  (λd e E=>by
   rw[(RC (w:=w3.at d) p R R R).2 e E];refine evL_cell _ _ (λ⟨a,e,h⟩=>?_) ?_
   .grind
   .rw[(gM w3 _ _).2.2.2,t]
    show w.1.size+2<_
    omega) ?_
 obtain⟨w4,l⟩:∃w4,w4=o3 w3 ⟨w.1.size+2,0,X⟩ (U (N ⟨w.1.size+1,0,X⟩) n n):=⟨_,R⟩
 have u:↑w4=w.1.size+3:=by rw[l,(gM w3 _ _).2.2.2,t]
 rw[<-l];walk_nrm
 show nA _ _ _ ↑w4 _ _
 rw[u];have hF:=YQ w4;refine nA.go (n:=20) ?_;u_c pu jG hF;u_c rp jG hF;u_reg jG hF;refine sg λw₁ h₁=>?_;obtain⟨d,rfl⟩:=jG hF h₁;refine nA.at ?_ d;clear hF h₁;refine nA.Xq (v:=pm (N ⟨↑w4,0,X⟩)) (w':=o6 w4 _) R R (by k_ne) (λd=>(Vd R).1) (λd=>(Vd R).2) ?_;obtain⟨f,r⟩:∃f,f=o6 w4 (pj #[ox qbl 0,ox sr 0] 211):=⟨_,R⟩
 rw[<-r,u];walk_nrm;have hF:=YQ f;refine nA.go (n:=20) ?_;u_c pu jG hF;u_c rp jG hF;refine sg λw₁ h₁=>?_;obtain⟨d,rfl⟩:=jG hF h₁;refine nA.at ?_ d;have x:f=jJ w (cfg inbox batcher t0 t1 t2 t3 t4) n:=by rw[r,l,c,j,g];rfl
 rw[x];have:=λT y z A C D=>F T y z A C D;simp only[ML,rM,YY]at this;refine this _ ?_ ?_ ?_ ?_ ?_
 all_goals simp
end
end
section
variable {b C i Wg:Nat}{T:Array po}{b₀:tg}{a₀:Act}{ops:Array OF}{rest:List Nat}{k:List qbe}{K:gL}{o:OF}
section
variable {w:pn}{c:Array po}{n:Nat}
def Ea:(jJ w c n).1.size=w.1.size+4:=by unfold jJ;simp
def B7:(jJ w c n).2=w.2/\(jJ w c n).4=w.4/\(jJ w c n).5=w.5:=by unfold jJ;obtain⟨a,d,e,_⟩:=gM (o6 (o6 (o6 w (pj c 24)) (pj (madeCells #[U X 0 0] n) 76)) (pj #[U X 0 0] 29)) ⟨w.1.size+2,0,X⟩ (U (N ⟨w.1.size+1,0,X⟩) n n);exact⟨a,d,e⟩
def alloc_old(w o)(h:b<w.1.size):(o6 w o).1[b]? =w.1[b]?:=by
 show(w.1.push o)[b]? =w.1[b]?
 grind
def pJ(h:b<w.1.size+3)(a:b≠w.1.size+2):(jJ w c n).1[b]? =(o6 (o6 w (pj c 24)) (pj (madeCells #[U X 0 0] n) 76)).1[b]?:=by unfold jJ;rw[alloc_old _ _ (by rw[(gM _ _ _).2.2.2];simp;omega),gT (show b≠w.1.size+2 from a),alloc_old _ _ aD]
def Fc(h:b<w.1.size):(jJ w c n).1[b]? =w.1[b]?:=by rw[pJ aA aA,alloc_old _ _ aD,alloc_old _ _ h]
def M8:(jJ w c n).1[w.1.size]? =N (pj c 24):=by rw[pJ aA aA,alloc_old _ _ aC];exact sv _ _
def MK:(jJ w c n).1[w.1.size+1]? =N (pj (madeCells #[U X 0 0] n) 76):=by rw[pJ aA aA];have:=sv (o6 w (pj c 24)) (pj (madeCells #[U X 0 0] n) 76);simpa only[cQ]using this
def Ln:(jJ w c n).1[w.1.size+2]? =N (pj #[U (N ⟨w.1.size+1,0,X⟩) n n] 29):=by unfold jJ;rw[alloc_old _ _ aC];refine Ig (u:=U X 0 0) ?_;have:=sv (o6 (o6 w (pj c 24)) (pj (madeCells #[U X 0 0] n) 76)) (pj #[U X 0 0] 29);simpa only[cQ]using this
def LU:(jJ w c n).1[w.1.size+3]? =N (pj #[ox qbl 0,ox sr 0] 211):=by unfold jJ;have:=sv (o3 (o6 (o6 (o6 w (pj c 24)) (pj (madeCells #[U X 0 0] n) 76)) (pj #[U X 0 0] 29)) ⟨w.1.size+2,0,X⟩ (U (N ⟨w.1.size+1,0,X⟩) n n)) (pj #[ox qbl 0,ox sr 0] 211);rw[(gM _ _ _).2.2.2]at this;simpa only[cQ]using this
end
structure Found(w:pn)(n:Nat)(fs:Nat->List Fr.F)(w':pn):Prop where
 old:∀b<w.1.size,w'.1[b]? =w.1[b]?
 still:w'.2=w.2/\w'.4=w.4/\w'.5=w.5
 size:w.1.size+4<=w'.1.size
 rows:∃vs:Array po,w'.1[w.1.size+1]? =N (pj vs 76)/\qd vs=n/\∀i<n,∃v,vs[i]? =N v/\nM (λb=>w.1.size+4<=b) w' v (fs i)
 wg:∃c t,c≠#[]/\w'.1[w.1.size+3]? =N (pj c t (0,0))
section
variable {Post:po->pn->Prop}{Dead:Nat->Prop}{w w':pn}{tx:Option zm}{n cap tb q0:Nat}{cs:List tg}{inbox batcher t0 t1 t2 t3 t4:Int}{fr ad:Nat->Int}{data:Nat->ByteArray}{fs:Nat->List Fr.F}
def CQ{f}(m:qd T=24)(j:T[5]? =N (pm (N ⟨f,0,X⟩)))(g:w.1[f]? =N (pj #[U (N ⟨C,0,X⟩) n n] 29))(l:¬Dead f)(q:kY px Post Dead (G (b₀.at (td a₀ ((ops[i]?).bind (·.1)) (U (N ⟨C,0,X⟩) n n)) (ri ops rest::k)) cs) w):kY px Post Dead (G (bS.at ⟨T,[]⟩ (ri ops9 []::[.code tail9])) (b₀.at a₀ (ri ops (i::rest)::k)::cs)) w:=by
 obtain⟨r,s,I,S,V,W,Y,v7,v8,v9,t,u,v,x,y,z,A,B,D,E,J,O,P,Q,rfl⟩:=vY T m;simp only[cN,cM,cG,aI]at j;subst j;have hF:=YQ w;simp only[tail9,rM,YY];refine kY.go (n:=20) ?_;u_c pu jG hF;u_c rp jG hF;u_reg jG hF;refine sg λw₁ h₁=>?_;obtain⟨d,rfl⟩:=jG hF h₁;refine kY.at ?_ d;clear hF h₁;refine kY.Kp (v:=U _ n n) (w':=w) R R (by k_ne) (λd=>(RE (w:=w.at d) g R R).1) fI (λd e p=>?_) ?_
 .rw[(RE (w:=w.at d) g R R).2 e p];refine evL_cell _ _ (λ⟨a,e,h⟩=>?_) (fO g);cases e;exact l h
 walk_nrm;have hF:=YQ w;refine kY.go (n:=20) ?_;u_op jG hF;u_c pu jG hF;u_c stepG_ret' jG hF;u_in jG hF;refine goes_leave1 R R func71 R ⟨by u_nil,?_⟩;refine sg λw₁ h₁=>?_;obtain⟨d,rfl⟩:=jG hF h₁;exact q.at d
def SF.at{a W}(h:SF a W Wg C n K w)(d):SF a W Wg C n K (w.at d):=
 ⟨h.1,h.2,h.3,h.4,h.5,h.6,h.7,h.8,h.9,h.10,h.11,h.12⟩
def FI(Zp:Nat)(Dead:Nat->Prop)(b:Nat):=b<Zp+3/\b≠Zp+1/\¬Dead b
def Fd(rd:ReadW)(hn:n<=16777216)(hD:∀b,Dead b->b<w.1.size)(ao:qd Tryz.prog.globals<=w.1.size)(u:LN (λb=>b<w.1.size/\¬Dead b) w tx tb q0 n fr ad data)(an:∀j<n,fs j=jE inbox batcher (fr j) (ad j) (data j).1.1)(I:∀w',Found w n fs w'->kY px Post (λb=>Dead b\/b=w.1.size+3) (G (b₀.at (td a₀ ((ops[i]?).bind (·.1)) (U (N ⟨w.1.size+1,0,X⟩) n n)) (ri ops rest::k)) cs) w')(hT:qd T=24)(ax:T[1]? =N (U tx n cap))(P:T[2]? =N (pm (N ⟨↑w,0,X⟩)))(Q:T[5]? =N (pm (N ⟨w.1.size+2,0,X⟩)))(S:T[6]? =N (pm (N ⟨w.1.size+3,0,X⟩))):nA px Post Dead (w.1.size+3) (G (bS.at ⟨T,[]⟩ [.code ML,.code rM]) (b₀.at a₀ (ri ops (i::rest)::k)::cs)) (jJ w (cfg inbox batcher t0 t1 t2 t3 t4) n):=by
 intro d gs sl t q h0 hL B;obtain⟨Zp,m⟩:∃Zp,w.1.size=Zp:=⟨_,R⟩
 obtain⟨W,p⟩:∃W,jJ w (cfg inbox batcher t0 t1 t2 t3 t4) n=W:=⟨_,R⟩
 have sW:W.1.size=Zp+4:=by rw[<-p,Ea,m]
 have J:∀b<Zp,W.1[b]? =w.1[b]?:=λb f=>by rw[<-p];exact Fc aA
 have z:W.1[Zp]? =N (pj (cfg inbox batcher t0 t1 t2 t3 t4) 24):=by rw[<-p,<-m];exact M8
 have pW:W.1[Zp+1]? =N (pj (madeCells #[U X 0 0] n) 76):=by rw[<-p,<-m];exact MK
 have A:W.1[Zp+2]? =N (pj #[U (N ⟨Zp+1,0,X⟩) n n] 29):=by rw[<-p,<-m];exact Ln
 have V:W.1[Zp+3]? =N (pj #[ox qbl 0,ox sr 0] 211):=by rw[<-p,<-m];exact LU
 have y:W.2=w.2/\W.4=w.4/\W.5=w.5:=by rw[<-p];exact B7
 rw[p];rw[m]at B P Q S ao I;have s:∀b,Dead b->b<Zp:=λb f=>by grind
 have D:qap (Zp+1) n (W.at d):=⟨_,pW,size_madeCells _ _⟩
 have ag:SF (FI Zp Dead) W (Zp+3) (Zp+1) n ⟨FI Zp Dead,λ_=>False⟩ (W.at d):=by
  refine⟨λ_ h=>h,λ_ _=>R,λ_ h=>sj h,λb f=>⟨?_,?_,f.2.1⟩,D,?_,?_,?_,λ_ h=>rr h,fI,⟨R,R,R⟩,λ_ _ _ _=>R⟩
  all_goals (try show _<W.1.size);(try show _<=W.1.size)
  .have:=f.1;omega
  .have:=f.1;omega
  .omega
  .omega
  .grind
 have x:∀(j:Nat)(v:po),Z w ⟨tb,j,X⟩=N v->tb<Zp->Z W ⟨tb,j,X⟩=N v:=λj v h f=>by rw[<-h];exact cell_of_block (J tb f) j
 have hX:LN (FI Zp Dead) W tx tb q0 n fr ad data:=by
  refine⟨λh=>let ⟨h1,h2,h3⟩:=u.1 h;⟨h1,aA,aA,h3⟩,λj hj=>?_,u.3⟩;obtain⟨_,f,_⟩:=u.1 aA;let⟨G,O,Y⟩:=u.2 j hj;exact⟨x _ _ G aA,x _ _ O aA,x _ _ Y aA⟩
 have ar:=JL (OB:=FI Zp Dead) (W:=W) (Wg:=Zp+3) (C:=Zp+1) (bc:=Zp) (bf:=Zp+2) (cap:=cap) (cs:=b₀.at a₀ (ri ops (i::rest)::k)::cs) rd aA aA ⟨aA,aA,λh=>mx⟩ ⟨aA,aA,λh=>mx⟩ z A hX an hT ax P Q S
  ⟨ag,0,0,(show W.1[Zp+3]? =_ from V)⟩ (λ_ h=>h)
 obtain⟨Np,ac,a',w',aw,t',q',K,hr,ai,am,ae,af,aq,⟨aa,E,au⟩,av⟩:=phase (P:=px) (S:=jM (Zp+3) (Zp+1) n) (Shun:=Nw Dead) (B:=Zp+3) (Fin:=SE (FI Zp Dead) W (Zp+3) (Zp+1) n (Zp+2) (b₀.at a₀ (ri ops (i::rest)::k)::cs)) (AnchW:=AnchS (FI Zp Dead) W (Zp+3) (Zp+1) n (Zp+2) (b₀.at a₀ (ri ops (i::rest)::k)::cs))
  (Cz Zp (Zp+2) W fs) (show n<2147483648 by omega) (λK g w h=>by obtain⟨_,_,_,rfl,_⟩:=h;rfl) (λK g w h=>by obtain⟨_,_,_,_,rfl,_⟩:=h;rfl)
  (GH aA) (λK g w d h=>let ⟨T,G,O,Y,h4⟩:=h;⟨T,G,O,Y,h4.at d⟩) (sl:=sl) (w:=W.at d) h0 hL B (K0:=⟨FI Zp Dead,λ_=>False⟩) (λ_ h=>sj h)
  (λb f=>⟨by show b<W.1.size;have:=f.1;omega,by show b≠Zp+3;have:=f.1;omega,f.2.1,λl G=>by rintro⟨a,rfl,h⟩;cases G;exact f.2.2 h⟩)
  (by show Zp+3<W.1.size;omega) (by show Zp+1<W.1.size;omega) aC fI (rz λi ⟨a,e,h⟩=>by grind) (λ_ h=>sj h) (show Zp+1-1<=Zp+3 by omega) (show Zp+1-1<=Zp+1 by omega)
  (show W.1[Zp+3]? =_ from V) D ar
 obtain⟨T',ah,ay,rfl,r⟩:=am;refine sD.after hr ?_;have aj:=oy (r.2 _ ⟨aA,aA,λh=>mx⟩) A;have az:=oy (r.2 Zp ⟨aA,aA,λh=>mx⟩) z
 have ab:Found w n fs w':=by
  refine⟨λb f=>?_,⟨oy r.11.1 y.1,oy r.11.2.1 y.2.1,oy r.11.2.2 y.2.2⟩,?_,⟨aa,?_,au,λi hi=>?_⟩,?_⟩
  .rw[m]at f;exact oy (r.12 b aA aA aA) (J b f)
  .have:=r.10;omega
  .rw[m];exact E
  .let⟨v,O,hh,ap,hO⟩:=aq i hi;refine⟨v,?_,?_⟩
   .have G:Z w' ⟨Zp+1,i,X⟩=N v:=hh;simp only[Z,E]at G;exact G
   .obtain h|⟨g,G,Y,h1,h2,h3,h4⟩:=ap
    .exact rr h
    .refine rz ⟨g,G,Y,h1,?_,h3,h4⟩
     grind
  .rw[m];exact⟨_,_,aC,av⟩
 have ak:=CQ (cs:=cs) (b₀:=b₀) (a₀:=a₀) (ops:=ops) (i:=i) (rest:=rest) (k:=k) ah ay aj (Dead:=λb=>Dead b\/b=Zp+3) (λh=>Or.elim h (λh=>mx) λh=>aA) (I w' ab);exact ak _ ac aw t' q' ai ae (uy af λl G=>Or.elim G (λ⟨a,e,h⟩=>⟨a,e,rr h⟩) λ⟨a,e,h⟩=>⟨a,e,rz h⟩)
def UH(A B):(#[A,B]++wy (24-qd (#[A,B]:Array po)) p8:Array po)=#[A,B,p8,p8,p8,p8,p8,p8,p8,p8,p8,p8,p8,p8,p8,p8,p8,p8,p8,p8,p8,p8,p8,p8]:=by simp
def XU:(YY.1 == "runtime.NumGoroutine")=pi:=rfl
def XM:YY.9=N NO:=rfl
def XQ:YY.7=24:=rfl
def uB(rd:ReadW){x y l}(g:ops[i]? =N o)(hw:sy o (yielded ops a₀.1)=pw)(B:b₀.6≠.early)(E:o.2=.call { callee:=.value (.func 71),args:=#[x,y],argTypes:=l })(p:p7 a₀ x=.agg (cfg inbox batcher t0 t1 t2 t3 t4))(q:p7 a₀ y=U tx n cap)(f:n<=16777216)(a:∀b,Dead b->b<w.1.size)(A:qd Tryz.prog.globals<=w.1.size)(I:LN (λb=>b<w.1.size/\¬Dead b) w tx tb q0 n fr ad data)(z:∀j<n,fs j=jE inbox batcher (fr j) (ad j) (data j).1.1)(D:∀w',Found w n fs w'->kY px Post (λb=>Dead b\/b=w.1.size+3) (G (b₀.at (td a₀ o.1 (U (N ⟨w.1.size+1,0,X⟩) n n)) (ri ops rest::k)) cs) w'):kY px Post Dead (G (b₀.at a₀ (ri ops (i::rest)::k)) cs) w:=by
 have hF:=YQ w;refine kY.go (n:=1) ?_;u_in jG hF;refine goes_call g hw B E func71 XU XM ⟨by u_nil,?_⟩;obtain⟨d,rfl⟩:=hF;refine sg λw₁ h₁=>?_;obtain⟨m,rfl⟩:=h₁;refine kY.at (kY.at ?_ d) m
 have h:=Ca (Post:=Post) (cap:=cap) (tx:=tx) (cs:=b₀.at a₀ (ri ops (i::rest)::k)::cs) (inbox:=inbox) (batcher:=batcher) (t0:=t0) (t1:=t1) (t2:=t2) (t3:=t3) (t4:=t4) f a λT r s t u v=>
  Fd rd f a A I z (by rw[g];exact D) r s t u v
 have e:(#[x,y].map (p7 a₀))=#[.agg (cfg inbox batcher t0 t1 t2 t3 t4),U tx n cap]:=by simp[p,q]
 rw[e,XQ,UH];exact h
end
end
end Cr
namespace Po
open Go Go.Conc
open Cr (kY Found LN nM cfg)
section
variable {t:wj}{v:po}{ops:Array OF}{i:Nat}{rest:List Nat}
def pend:ZG->ZG
 |pj c t _=>.pending c t
 |o=>o
def behind(x w:pn)(g:Nat):pn:={ w with heap:=w.1.mapIdx λi o=>(x.1[i]?).getD (if i=g then pend o else if ghost o then .coro X else o) }
section
variable {x y w:pn}{g b:Nat}
def oP(c:x.1.size<=w.1.size)(h:b<x.1.size):(behind x w g).1[b]? =x.1[b]?:=by
 show(w.1.mapIdx _)[b]? =_
 grind
def mK(h:x.1.size<=b):(behind x w g).1[b]? =(w.1[b]?).map λo=>if b=g then pend o else if ghost o then .coro X else o:=by
 show(w.1.mapIdx _)[b]? =_
 grind
def Jr{e m}(hw:WP e x y)(p:∀c,e.5 c->m.5 c)(hold:∀b<y.1.size,w.1[b]? =y.1[b]?)(B:↑y<=w.1.size)(z:↑y<=g){c}(hc:c≠#[])(j:w.1[g]? =N (pj c t (0,0)))
  (q:∀b,m.4 b↔e.4 b\/b=g\/y.1.size<=b/\∃o,w.1[b]? =N o/\ghost o=pw):WP m (behind x w g) w where
 os:=R
 output:=R
 size:=by simp[behind]
 out b d:=by
  have f:=hw.3;rw[q]at d;obtain h|h:=dH b ↑x
  .rw[oP aA h,hold b aA,hw.4 b λk=>d (rr k)]
  .rw[mK h]
   grind
 inn b d:=by
  have u:=hw.3;rw[q]at d;obtain d|rfl|⟨s,o,f,l⟩:=d
  .have r:b<↑x:=by
    rcases hw.5 b d with⟨_,_,_,h,_⟩|⟨_,_,h,_⟩<;>exact(fO h)
   rw[oP aA r,hold b aA];exact hw.5 b d
  .exact rr ⟨c,t,j,by rw[mK aA,j];simp[pend],hc⟩
  .by_cases k:b=g
   .subst k;rw[j]at f;cases f;cases l
   .exact rz ⟨o,f,by rw[mK aA,f];simp[k,l],l⟩
 objs b o h:=by
  have r:=hw.3;obtain k|k:=dH b ↑x
  .rw[oP aA k]at h;have:=hw.6 b o h;cases o with
   |loop l=>exact⟨p _ this.1,p _ this.2.1,λc k=>p _ (this.2.2 c k)⟩
   |deferred ds=>cases ds<;>exact this
   |_=>trivial
  .rw[mK k]at h;cases f:w.1[b]? with
   |none=>rw[f]at h;cases h
   |some u=>
    rw[f]at h;simp only[bJ,aI]at h;subst h;refine uO ?_;by_cases l:b=g
    .subst l;rw[j]at f;cases f;simp[pend,ghost]
    .rw[Za l];split
     .rfl
     grind
end
structure xu(x:pn)(n:Nat)(fs:Nat->List Fr.F)(x':pn):Prop where
 old:∀b<x.1.size,x'.1[b]? =x.1[b]?
 still:x'.4=x.4/\x'.5=x.5
 size:x.1.size+4<=x'.1.size
 rows:∃vs:Array po,x'.1[x.1.size+1]? =N (pj vs 76)/\qd vs=n/\∀i<n,∃v,vs[i]? =N v/\nM (λb=>x.1.size+4<=b) x' v (fs i)
section
variable {D:Nat->Prop}{Post:Cl}{Zo A:List tg}{x:pn}{b:tg}{a:Act}{k:List qbe}{tx:Option zm}{n cap tb q0:Nat}{inbox batcher t0 t1 t2 t3 t4:Int}{fr ad:Nat->Int}{data:Nat->ByteArray}{fs:Nat->List Fr.F}
def XV{e y}(hw:WP e x y){c}(h:Z x c=N v):¬e.4 c.1/\c.1<x.1.size/\Z y c=N v:=by
 have d:¬e.4 c.1:=λd=>by
  rcases hw.5 _ d with⟨_,_,_,k,_⟩|⟨_,_,k,_⟩<;>simp[Z,k]at h
 refine⟨d,?_,by rw[<-h];simp only[Z,hw.4 _ d]⟩;cases k:x.1[c.1]? with
 |none=>simp[Z,k]at h
 |some o=>grind
def Wk.frames(rd:Cr.ReadW){o p q P}(ho:ops[i]? =N o)(hw:sy o (yielded ops a.1)=pw)(ae:o.2=.call { callee:=.value (.func 71),args:=#[p,q],argTypes:=P })(Q:p7 a p=.agg (cfg inbox batcher t0 t1 t2 t3 t4))(S:p7 a q=U tx n cap)(hn:n<=16777216)(aa:qd Tryz.prog.globals<=x.1.size)(B:LN (λ_=>True) x tx tb q0 n fr ad data)(Y:∀j<n,fs j=jE inbox batcher (fr j) (ad j) (data j).1.1)(ac:∀f d,xu x n fs d->Wk (qe px.2 f) Post Zo (b.at (td a o.1 (U (N ⟨x.1.size+1,0,X⟩) n n)) (ri ops rest::k)) A d):Wk (qe px.2 D) Post Zo (b.at a (ri ops (i::rest)::k)) A x:=by
 intro r y e m;have u:=e.3
 rewrite [Rp]
 refine Cr.uB (n:=n) (w:=y) (Dead:=D) (cs:=A++Zo) rd ho hw (λh=>by have:=r.1.3;rw[show(b.at a _).6=b.6 from R,h]at this;cases this) ae Q S hn (λc hc=>?_) (by rw[u];exact aa) (tb:=tb) (q0:=q0) (fr:=fr) (ad:=ad) (data:=data) (fs:=fs) ⟨λh=>?_,λj hj=>?_,B.3⟩ Y λs hF=>?_
 .rcases e.5 c hc with⟨_,_,h,_⟩|⟨_,h,_⟩<;>exact(fO h)
 .have d:=XV e (B.2 0 h).1;exact⟨(B.1 h).1,by rw[u];exact d.2.1,d.1⟩
 .let⟨d,f,l⟩:=B.2 j hj;exact⟨(XV e d).2.2,(XV e f).2.2,(XV e l).2.2⟩
 .let⟨c,t,hc,ag⟩:=hF.5;have hs:=hF.3
  let J:Nat->Prop:=λb=>D b\/b=y.1.size+3\/y.1.size<=b/\∃o,s.1[b]? =N o/\ghost o=pw
  have af:WP (qe px.2 J) (behind x s (y.1.size+3)) s:=Jr e (λ_ h=>h) hF.1 aA aA hc ag λb=>Iff.rfl
  have keep:∀{b:Nat}{o:ZG},↑y<=b->b≠y.1.size+3->s.1[b]? =N o->ghost o=pi->(behind x s (y.1.size+3)).1[b]? =N o:=λO C E V=>by
   rw[mK aA,E];simp[C,V]
  have W:xu x n fs (behind x s (y.1.size+3)):=by
   refine⟨λb h=>oP aA h,⟨oy hF.2.2.1 e.1,oy hF.2.2.2 e.2⟩,by simp only[behind,Array.size_mapIdx];omega,?_⟩;let⟨vs,O,C,E⟩:=hF.4;refine⟨vs,by rw[<-u];exact keep aA aA O R,C,λi hi=>?_⟩;let⟨v,z,T⟩:=E i hi;refine⟨v,z,T.imp id λ⟨g,cap,d,r1,r2,r3,r4⟩=>⟨g,cap,d,r1,by rw[<-u];exact r2,keep aA aA r3 R,r4⟩⟩
  have I:=ac J _ W ⟨⟨λit ab=>?_,?_,r.1.3⟩,λf G=>⟨(r.2 f G).1,(r.2 f G).2,(r.2 f G).3⟩⟩ s af ⟨λb l=>⟨rr (m.1 b l).1,oy (hF.1 b ?lt) (m.1 b l).2⟩,λb l hl=>?old,?size,oy hF.2.2.1 m.4,oy hF.2.2.2 m.5⟩
  case lt=>rcases e.5 b (m.1 b l).1 with⟨_,_,h,_⟩|⟨_,h,_⟩<;>exact(fO h)
  case old=>
   have:=m.3;obtain l|l|l:=l
   .exact m.2 b l hl
   .omega
   .omega
  case size=>have:=m.3;omega
  .rewrite [Rp]at I
   rw[<-u]at I;exact I.dead λb h=>Or.elim h rr λh=>rz (rr h)
  .obtain rfl|h:=bM.1 ab
   .exact r.1.1 (ri ops (i::rest)) (.head _)
   .exact r.1.1 _ (.tail _ h)
  .intro d z;refine r.1.2 d ?_;have:(td a o.1 (U (N ⟨x.1.size+1,0,X⟩) n n)).2=a.2:=by cases o.1<;>rfl
   have z:d∈(td a o.1 (U (N ⟨x.1.size+1,0,X⟩) n n)).2:=z;rw[this]at z;exact z
end
end
section
variable {P:th}{G:Array Func}{fn:Func}{c d:vy}{ops:Array OF}{i id:Nat}{rest:List Nat}{v:po}
abbrev Wq(D:Nat->Prop)(Post:Cl)(Zo:List tg)(fr:tg)(A:List tg)(x:pn):=Wk (qe px.2 D) Post Zo fr A x
section
variable {D:Nat->Prop}{Post:Cl}{Zo A:List tg}{fr:tg}{x:pn}{b:tg}{a:Act}{k:List qbe}
def Rs{D}{k:Nat}(h:P.2[k]? =N fn):(zQ P G D).2[k]? =N fn:=h
def Wq.piece{Q:Act->pn->Prop}(h:∀t d,c.wp PQ (λf e i=>f=.normal/\Q e i) a (on x t d))(g:∀e f,Q e f->Wq D Post Zo (b.at e k) A f):Wq D Post Zo (b.at a (.code c::k)) A x:=by
 refine Wk.code (fits D) ?_
 rewrite [Aj]
 exact λt d=>wp_mono (h t d) λl e j ⟨f,i⟩=>by subst f;exact g e j i
def Wq.code(h:∀t d,c.wp PQ (Cont (qe px.2 D) Post Zo A b k) a (on x t d)):Wq D Post Zo (b.at a (.code c::k)) A x:=by
 refine Wk.code (fits D) ?_
 rewrite [Aj]
 exact h
def Wq.op(h:∀t d,wpOp PQ ops (λ_ _ _=>False) i (λc e=>Wq D Post Zo (b.at c (ri ops rest::k)) A e) a (on x t d)):Wq D Post Zo (b.at a (ri ops (i::rest)::k)) A x:=by
 refine Wk.op (fits D) ?_
 rewrite [Aj]
 exact h
def Wq.draw(h:∀t,Wq D Post Zo (b.at a (ri ops (ZM (PQ.follows .mixedOrders) ops t)::k)) A x):Wq D Post Zo (b.at a (.code (.region id ops pw)::k)) A x:=by
 refine Wk.draw (fits D) ?_
 rewrite [Aj]
 exact h
def Wq.call{o f args j}(n:ops[i]? =N o)(hw:sy o (yielded ops a.1)=pw)(p:o.2=.call { callee:=.value (.func f),args,argTypes:=j })(g:PQ.2[f]? =N fn)(m:(fn.1 == "runtime.NumGoroutine")=pi)(e:fn.9=N c)(h:Wq D Post Zo ((base f).at ⟨args.map (p7 a)++wy (fn.7-qd (args.map (p7 a))) p8,[]⟩ [.code c]) (b.at a (ri ops (i::rest)::k)::A) x):Wq D Post Zo (b.at a (ri ops (i::rest)::k)) A x:=by
 refine Wk.call (fits D) n hw ?_
 rewrite [Aj]
 intro t d;refine⟨f,args.map (p7 a),on x t d,?_,?_⟩
 .exact run_call_body p g m (by rw[e];rfl)
 .have l:X4 PQ f (args.map (p7 a)) .normal=(base f).at ⟨args.map (p7 a)++wy (fn.7-qd (args.map (p7 a))) p8,[]⟩ [.code c]:=by
   simp[X4,Frame.at,g,e,base]
  rw[l];exact h.zl t d
def Wq.leave{c}(f:fr.5=Yi)(a:fr.4=[])(e:fr.6=.normal)(b:PQ.2[fr.1]? =N fn)(g:∀w,(results fn fr.2).run PQ w=.ok v w)(h:Wq D Post Zo (xx c v) A x):Wq D Post Zo fr (c::A) x:=by
 refine Wk.leave (fits D) f a e (Rs b) ?_ h
 rewrite [Aj]
 exact λt d=>g _
def Wq.seq(h:Wq D Post Zo (b.at a (.code c::.code d::k)) A x):Wq D Post Zo (b.at a (.code (qv c d)::k)) A x:=Wk.seq (fits D) h
def Wq.cond{o t}(hc:p7 a o=.bool t)(h:Wq D Post Zo (b.at a (.code (if t then c else d)::k)) A x):Wq D Post Zo (b.at a (.code (.cond o c d)::k)) A x:=Wk.cond (fits D) hc h
def Wq.region(h:Wq D Post Zo (b.at a (ri ops (IS (qd ops))::k)) A x):Wq D Post Zo (b.at a (.code (.region id ops pi)::k)) A x:=Wk.region (fits D) h
def Wq.done(h:Wq D Post Zo (b.at a k) A x):Wq D Post Zo (b.at a (ri ops []::k)) A x:=Wk.done (fits D) h
def Wq.ret(h:∀c,Wq D Post Zo { b.at a c with mode:=Yi } A x):Wq D Post Zo (b.at a (.code .ret::k)) A x:=Wk.ret (fits D) h
def Wq.fin(h:∀c,Wq D Post Zo { b.at a c with mode:=Yi } A x):Wq D Post Zo (b.at a []) A x:=Wk.fin (fits D) h
end
end
section
variable {ds:List Deferred}
section
variable {D:Nat->Prop}{Post:Cl}{Zo A:List tg}{fr:tg}{x:pn}
def Wk.takes{e}(F:jL e){b}(f:fr.5=Yi)(a:fr.4={ target:=.collected b,args:=#[] }::ds)(c:x.1[b]? =N (uu (N [])))(h:Wk e Post Zo { fr with defers:=ds } A (rq x b (uu X))):Wk e Post Zo fr A x:=
 .one F.1 λt d=>by
  refine⟨_,A,_,?_,h.zl t d⟩;have g:=run_takeDeferred (P:=e.P) (w:=on x t d) (b:=b) (ds:=[]) c;simp[vi,unwind,f,a,g];rfl
def Wq.takes{b}(d:fr.5=Yi)(a:fr.4={ target:=.collected b,args:=#[] }::ds)(c:x.1[b]? =N (uu (N [])))(h:Wq D Post Zo { fr with defers:=ds } A (rq x b (uu X))):Wq D Post Zo fr A x:=Wk.takes (fits D) d a c h
end
end
open Cr (Fill fills zh)
section
variable {f:Nat}{c:vy}{v:po}{fn:Func}
section
variable {D:Nat->Prop}{Post:Cl}{Zo A:List tg}{fr:tg}{x y:pn}{b:tg}{a:Act}{k:List qbe}{ops:Array OF}{i:Nat}{rest:List Nat}{o:OF}
def Wq.same(h:∀t d,on x t d=on y t d)(a:Wq D Post Zo fr A y):Wq D Post Zo fr A x:=Wk.R8 (t:=y.2) (d:=y.3) (by rw[h];exact a.zl _ _)
def Wq.skip(h:Wq D Post Zo (b.at a k) A x):Wq D Post Zo (b.at a (.code .skip::k)) A x:=Wk.skip (fits D) h
def Wq.block(h:Wq D Post Zo (b.at a (.code c::.inBlock f::k)) A x):Wq D Post Zo (b.at a (.code (.block f c)::k)) A x:=Wk.block (fits D) h
def Wq.inBlock(h:Wq D Post Zo (b.at a k) A x):Wq D Post Zo (b.at a (.inBlock f::k)) A x:=Wk.inBlock (fits D) h
def Wq.exit{k'}(c:exitTo f k=.some k')(h:Wq D Post Zo (b.at a k') A x):Wq D Post Zo (b.at a (.code (.exit f)::k)) A x:=Wk.exit (fits D) c h
def Wq.loop(h:Wq D Post Zo (b.at a (.code c::.inLoop c::k)) A x):Wq D Post Zo (b.at a (.code (.loop c)::k)) A x:=Wk.ctl (fits D) (λ_=>step_loop) h
def Wq.inLoop(h:Wq D Post Zo (b.at a (.code c::.inLoop c::k)) A x):Wq D Post Zo (b.at a (.inLoop c::k)) A x:=Wk.ctl (fits D) (λ_=>step_inLoop) h
def Wq.val{x'}(e:ops[i]? =.some o)(c:o.6=X)(f:∀t d,(rj (p7 a) o).run PQ (on x t d)=.ok (.value v) (on x' t d))(h:Wq D Post Zo (b.at (td a o.1 v) (ri ops rest::k)) A x'):Wq D Post Zo (b.at a (ri ops (i::rest)::k)) A x:=by refine Wq.op λt d=>?_;unfold wpOp;rw[e];simp only[sy,c,if_true];refine rr ?_;unfold Oper.wp;rw[f t d];exact h.zl t d
def Wq.Kp(op f v x')(c:(ops[i]?).map (λo=>(o.2,o.1,o.6))=.some (op,f,X))(l:∀t d (o),o.2=op->(rj (p7 a) o).run PQ (on x t d)=.ok (.value v) (on x' t d))(h:Wq D Post Zo (b.at (td a f v) (ri ops rest::k)) A x'):Wq D Post Zo (b.at a (ri ops (i::rest)::k)) A x:=by
 cases e:ops[i]? with
 |none=>rw[e]at c;cases c
 |some o=>
  rw[e]at c;simp only[bJ,aI,bR]at c;obtain⟨g,rfl,j⟩:=c;exact Wq.val e j (λt d=>l t d o g) h
def Wq.walk(h:∀t d (Q),(∀e f,Wq D Post Zo (b.at e k) A f->Q .normal e f)->(∀e f,(∀g,Wq D Post Zo { b.at e g with mode:=Yi } A f)->Q .ret e f)->c.wp PQ Q a (on x t d)):Wq D Post Zo (b.at a (.code c::k)) A x:=
 Wq.code λt d=>h t d _ (λ_ _ h=>h) (λ_ _ h=>h)
def Wq.fill{τ:Type}{q}(V:τ->Nat->po)(J:Array Bool->pn->(Nat->Prop)->τ->Prop)(n:fills (qd a.1) ops=pw)(done:∀l d e c z,(∀i<qd ops,tr l i pi=pw)->Fill ops (V z) a l d->J l e c z->Wq c Post Zo (b.at d k) A e)(more:∀l c g e z i o rest,ops[i]? =.some o->tr l i pw=pi->(∀j,Cr.waits ops i j=pw->tr l j pi=pw)->Fill ops (V z) a l c->J l g e z->(∀m f d,(∀j,tr l j pi=pw->V d j=V z j)->J (qb l i pw) m f d->Wq f Post Zo (b.at (td c o.1 (V d i)) (ri ops rest::k)) A m)->Wq e Post Zo (b.at c (ri ops (i::rest)::k)) A g)(z:τ)(h:J (wy (qd ops) pi) x D z):Wq D Post Zo (b.at a (.code (.region q ops pw)::k)) A x:=
 Wq.draw λt=>zh (σ:=pn×(Nat->Prop)×τ) (λs=>V s.2.2) (λl s=>J l s.1 s.2.1 s.2.2) (λrest a s=>Wq s.2.1 Post Zo (b.at a (ri ops rest::k)) A s.1) n (λl a _ c d e=>Wq.done (done l a _ _ _ c d e)) (λp a _ i o rest c d e f g j=>more p a _ _ _ i o rest c d e f g λx D z l m=>j (x,D,z) l m) _ t (x,D,z) h
def Wq.last(d:fr.5=Yi)(a:fr.4=[])(c:fr.6=.normal)(b:px.2[fr.1]? =.some fn)(f:Tryz.prog.inits.idxOf? fr.1=X)(g:∀w,(results fn fr.2).run px w=.ok v w)(e:∀w,(results fn fr.2).events px w #[]=#[])(hp:∀y,WP (qe px.2 D) x y->Keep (qe px.2 D) Post y->Post.3 v y):Wq D Post [] fr [] x:=by refine Wk.last d a c b ?_ ?_ ?_ hp<;>rewrite [Rp]<;>assumption
end
end
section
variable {i:Nat}
def Pw:vy->Array OF
 |.region _ ops _=>ops
 |_=>#[]
section
variable {D:Nat->Prop}{Post:Cl}{Zo A:List tg}{x:pn}{b:tg}{a:Act}{k:List qbe}{C:vy}{n:Nat}
def Wq.reg(d:∃e,C=.region e (Pw C) pi)(c:qd (Pw C)=n)(h:Wq D Post Zo (b.at a (ri (Pw C) (IS n)::k)) A x):Wq D Post Zo (b.at a (.code C::k)) A x:=by obtain⟨f,e⟩:=d;rw[e];exact Wq.region (by rw[c];exact h)
end
section
variable {tm:Array po}{s:Nat}{v u:po}{w:pn}
def Ar{tm}{s:Nat}{v}(h:tm[s]? =N v):p7 (Act.mk tm []) (sn s)=v:=by simp[p7,h]
def mv(h:tm[s]? =N v):∀t d (o),o.2=.move (sn s)->(rj (p7 (Act.mk tm [])) o).run PQ (on w t d)=.ok (.value v) (on w t d):=λt d o a=>by unfold rj;simp only[a,Ar h];rfl
def XA(h:tm[s]? =N v):∀t d (o),o.2=.assign (sn s)->(rj (p7 (Act.mk tm [])) o).run PQ (on w t d)=.ok (.value v) (on w t d):=λt d o a=>by unfold rj;simp only[a,Ar h];rfl
def xt{l}(h:tm[s]? =N (.tuple l))(b:l[i]? =N u):∀t d (o),o.2=.extract (sn s) i->(rj (p7 (Act.mk tm [])) o).run PQ (on w t d)=.ok (.value u) (on w t d):=λt d o a=>by unfold rj;simp only[a,Ar h];simp[go_sem,b]
end
end
end Po
section
open Go.ChangeShapes Go.WideShapes Go.ChangeAt Go.RowKit
def FO:Tryz.prog.cellsOf 4=1:=Zm
def LK:Tryz.prog.cellsOf 5=1:=Zm
def Io:Tryz.prog.globalNamed "tributary/item.heads"=N 1:=Zm
def Cm:(Tryz.prog.globals[ 1 ]?).map (·.2)=N 306:=Zm
def De:Tryz.prog.cellsOf 306=6:=Zm
def FB:Tryz.prog.cellsOf 280=3:=Zm
def NE{W:pn}{l:List (String×DataW Unit)}(h:laidMet px (("tributary/item.heads",Rows.laid_tributary_item_heads)::l) W):iJ W:=by
 obtain⟨S,⟨L,V,a,K,Q,T,w,x,y,v,_,_⟩,_⟩:=h;obtain rfl:=cR (oy Io.symm w);obtain rfl:=cR (oy Cm.symm x);obtain⟨D,m,_,b,o,z,n⟩:=DataW.trod_array underlying306 v;rw[De]at o;have hc:=λC=>World.var?_cell Io y C;obtain⟨a⟩:=a
 match a,o,D,z with
 |[a0,a1,a2,a3,a4,a5],_,[x0,x1],_=>
 have j:=n 0 aA;have k:=n 1 aA;simp only[FB]at j k;simp only[Rows.laid_tributary_item_heads,bR,DataW.agg.injEq,cL,dB,List.cons.injEq,and_true]at b;obtain⟨Y,y1,y2,O,A,_,p,q,r⟩:=Go.Deep.trod_struct3 underlying280 j;obtain⟨z0,z1,z2,P,B,_,s,t,u⟩:=Go.Deep.trod_struct3 underlying280 k;simp only[FO,LK]at p q r s t u;obtain⟨E,c,rfl⟩:=DataW.trod_bool qay p;obtain⟨F,d,rfl,_⟩:=yn yd q;obtain⟨G,e,rfl,_⟩:=yn yd r;obtain⟨H,f,rfl⟩:=DataW.trod_bool qay s;obtain⟨I,g,rfl,_⟩:=yn yd t;obtain⟨J,i,rfl,_⟩:=yn yd u;simp at c d e f g i;subst c d e f g i;subst A B;simp at b;obtain⟨⟨⟨rfl,rfl,rfl⟩,rfl,rfl,rfl⟩,_⟩:=b;exact⟨⟨hc 0,hc 1,hc 2⟩,hc 3,hc 4,hc 5⟩
open Go Go.Conc
section
variable {s:OpenSpec}{p:Pinned}{c:OpenClaim}
section
variable {H:Type}{enc:wj×po->H}
def oh{q:Assume}{C:Checked}{p:Os}{f:FuncId}{fn:Func}{F:Stop.Interp}{u:List PathCond}{b fresh x r:Bool}{n:List (String×DataW Unit)}(own:ownKnob C.2.godebug=X)(T:p.Started)(E:C.2.2[f]? =N fn)(V:∃(w:pn)(a:Tape)(i:Input),w.4=p/\(ZB w a i).Shaped C.2/\i.3=[]/\Input.okWide C.2 (ZB w a i) .any ↑w f i/\s.preRow enc C.2 fn u b n (ZB w a i).memory i.2/\q.holds C.2 (lone (X4 C.2 f i.2 .normal) [] (ZB w a i)))(runs:∀(W:pn)(base:Nat)(c:Array po)(g h:List (DataW H))(l:List MemPlace),(∀(k:Nat) t v,fn.4[k]? =N t->c[k]? =N v->Value.okWide C.2 W .any base t v)->DataW.Whole enc C.2 fn.4.1 s.2 b W c.1 g h l->(∀k,s.4=N k->k H (g++h)=pw)->laidMetH C.2 n W->W.ShapedOpen C.2->∃e last o d j,runNT C.2 (e+1) (solo (G (X4 C.2 f c .normal) []) W) #[]=(.ended o d,j)/\runN C.2 e (solo (G (X4 C.2 f c .normal) []) W)=.next last/\step C.2 last=.ended o d/\Conc.Good C.2 (λv k=>(s.at F).post enc C.2 fn b fresh x r W c v k) last o d j):ReturnsInLeavingWide q C p f .any (s.preRow enc C.2 fn u b n) ((s.at F).post enc C.2 fn b fresh x r):=by
 refine returnsInLeavingWide_of_good own T V ?_;intro w a i _ P _ L O _;obtain⟨_,_,_,Y,I,_,_,_,_,Q⟩:=L;have y:=cR (oy I.symm E);subst y;obtain⟨⟨m,K⟩,hz⟩:=O;let⟨g,h,l,hw,hc,J⟩:=OpenSpec.pre_parts m;have S:=DataW.Whole.of_heap (w':=ZB w a i) (by rfl) hw;let⟨e,last,o,d,j,z,A,B,D⟩:=runs _ _ _ g h l Q S J (K.of_heap (by rfl)) P;exact⟨e,last,o,d,j,z,A,B,D.mono λv m=>ChangeSpec.post_blind m⟩
end
def oZ(f:FuncId)(fn:Func)(D:c.1=p.1)(J:c.2=p.2)(K:c.4=s.1)(b:c.20=.entering)(d:c.18=[])(A:c.inits=[])(O:c.22=X)(z:c.23=[]/\c.24=pi/\c.25=pi/\c.26=[]/\c.27=[])(n:c.28=pi)(C:c.29=pw)(e:c.30=X)(G:c.17=s.4.isSome)(L:c.43=pi)(y:p.3.2.funcNamed c.3=N f)(x:p.3.2.2[f]? =N fn)(l:joinedFacts p.3.2 f fn s.bare c=pw)(B:fn.isInstance p.3.2 c.5 c.6)(P:fn.isWrapper p.3.2 c.7 c.8)(h:∀a:Os,a.Started->∀(H:Type)(enc:wj×po->H),(∀i j,enc i=enc j->i=j)->∀F:Stop.Interp,ReturnsInLeavingWide c.assume p.3 a f .any (c.pre enc p.3.2 fn s) ((s.at F).post enc p.3.2 fn c.11 c.12 c.13 c.14)):c.holds p s:=by
 simp only[joinedFacts,bN,Zk,Array.all_eq_true_iff_forall_mem,cU,Zh]at l;obtain⟨⟨⟨⟨⟨⟨⟨⟨⟨⟨⟨⟨⟨⟨⟨⟨⟨⟨⟨⟨⟨⟨⟨⟨⟨⟨⟨⟨⟨⟨⟨S,k2⟩,k3⟩,k4⟩,k5⟩,r⟩,k7⟩,k8⟩,g⟩,T⟩,V⟩,W⟩,Y⟩,aa⟩,ab⟩,ac⟩,ad⟩,ae⟩,af⟩,ag⟩,ah⟩,ai⟩,aj⟩,o⟩,ak⟩,q⟩,am⟩,an⟩,ao⟩,ap⟩,aq⟩,ar⟩:=l;have I:∀a:Os,Stop.quiet p.3.2 a:=λa k m=>by rw[g]at m;cases m
 refine⟨S,D,J,K,k2,k3,by unfold OpenClaim.startFits;rw[b];exact q,by unfold OpenClaim.startTold;rw[b];exact⟨A,O,z⟩,f,fn,y,x,⟨k4,ag⟩,(λi=>by rw[n]at i;cases i),by unfold OpenClaim.namedList;rw[e];exact k5,B,P,
  oy r k7.symm,⟨oy k8 g.symm,by unfold Program.envWorded;rw[g];rfl,ak⟩,T,V,W,Y,aa,⟨ab,aq,ar⟩,⟨ac,ah⟩,⟨ad,ai,ao,ap⟩,⟨aj,am,an,ae⟩,(by rw[d,G];cases i:c.33 with|none=>simp|some _=>rw[i]at o;cases o),λau E=>varReadable_some (af au E),
  ⟨_,by unfold OpenClaim.world;rw[d,b];exact WideRow.started_initial,I _⟩,[],by unfold OpenClaim.lists;rw[e],λa st _ H enc Q=>?_⟩
 have av:a.Started:=by unfold OpenClaim.world at st;rw[d,b]at st;exact st
 rw[OpenClaim.post_not_still L];unfold OpenClaim.form;rw[b,r];intro F;have t:c.okInput=Input.okWide:=by unfold OpenClaim.okInput;rw[n]
 have u:c.atReturn p.3.2=leavingAtReturn p.3.2:=by unfold OpenClaim.atReturn;rw[C]
 have v:c.always p.3.2 []=nothingAlways:=by unfold OpenClaim.always;rw[e]
 have w:s.post enc p.3.2 fn F c.18 c.11 c.12 c.13 c.14=(s.at F).post enc p.3.2 fn c.11 c.12 c.13 c.14:=by rw[d];rfl
 rw[t,u,v]
 show ReturnsInOpen _ _ _ _ _ _ _ _ (s.post enc p.3.2 fn F c.18 c.11 c.12 c.13 c.14) _ _
 rw[w];exact h a av H enc Q F q
def vQ(Lk b d a lk g)(hc:c.holds p s)(hw:c.wfByText s=pw)(q:c.laidByTextAt Lk p b d)(o:c.20=.entering)(n:c.28=pi/\c.14=pi)(l:p.3.2.mainIs=N (a.1,a.2.toList))(m:(!a.1&&a.2.isEmpty&&!lk)=pi)(k:∀f e,p.3.2.funcNamed c.3=N f->p.3.2.2[f]? =N e->lk=p.3.2.looks []/\∀(h:Nat) t,e.4[h]? =N t->p.3.2.wantsStandIn t=pi)(j:g=c.goesBy p.3.2):Claim7.holds p (.plain s) { stood:={ row:=c,standIns:=[],harness:=a,looks:=lk },kinds:=[],alts:=[],goes:=g,laidByText:=pw,laidKinds:=b,laidTests:=d,laidLooks:=Lk }:=by
 have i:∀r:OpenClaim,Claim7.isSixth { stood:={ row:=r,standIns:=[],harness:=a,looks:=lk },kinds:=[] }=pi:=λr=>by simpa[Claim7.isSixth]using m
 exact⟨Claim7.tied_new_at Lk b d (Claim7.new_of_sixth hc a lk o n l (i c) k) hw,(λD e=>by cases e),q,(λh=>by cases h),j⟩
end
end
