import Derived.Test.YtpibpdpedjinhaaGreatDoorP01
import Derived.Test.YtpibpdpedjinhaaGreatDoorChecked
import Derived.WalkSpells
import Derived.BigQuiet
import Derived.Deep.AppendLies
import Derived.Deep.RegionHeld3
import Derived.OwnWalkIn
import Derived.RangeFuncNested
import Derived.RangeFuncBound
import Derived.Shelf.Strconv.Clone
import Derived.Shelf.Strings.BuilderK
import Derived.Shelf.Strings.Repeat
import Derived.Shelf.Strconv.Itoa0
set_option maxRecDepth 100000
set_option maxHeartbeats 4000000
set_option linter.all false
open Array renaming eraseIdxIfInBounds->Y4,setIfInBounds->qb,size->qd
open BitVec renaming ofInt->ZW,toNat->ZV
open Bool renaming decide_and->Z2,false->pi,true->pw
open ByteArray renaming size->ot,toList->vz
open Eq renaming trans->oy
open Go renaming Addr->zm,Calls->tf,Code->vy,Exit->qaC,IntKind->qaL,KeepsFrom->YC,MapEntry->Z3,Oper->OF,Operand->ZT,Program->th,TypeId->wj,TypeInfo->qaH,Value->po,World->pn,bodyPost_ret->sd,callFunc->Yk,execOp->rj,growslice_fits->qaT,heap_alloc_new->sv,run_append_grow->qaM,run_append_own->qao,run_underlying->vh,wpList_plain->Z5
open Go.Act renaming eval->p7
open Go.Addr.mk renaming injEq->zs
open Go.Builtin renaming append_->By,delete_->YG,len_->YP
open Go.ByteArray renaming toList_eq->qaD
open Go.Calls renaming mono->se
open Go.Ending renaming returned->qs
open Go.Fence renaming inRound->zz,wide->vq
open Go.Instr renaming findNow->ZH,index->YJ,keyThatStays->qaR,mapUpdate->qaB
open Go.IntKind renaming i64->pg,u32->sr,u64->qbl
open Go.Joins renaming block_setCell->uk
open Go.Lib renaming byteCells->YW,byteCells_length->qaS,bytesWorld->qaa,bytesWorld_size->qaO,frozen_of_heap->zg,run_convert_string_bytes->Z1,size_eq->X6
open Go.MapKept renaming run_getObj_map->yi,run_setObj_map->Yg
open Go.Obj renaming cells->pj,deferred->uu,isCells->YR
open Go.Proofs.Tryz renaming func144->ZA,ntmps144->Y8,prog->px,results219->YK,results229->ZU,underlying155->xy,underlying239->qaX,underlying3->Yp,underlying4->qay,underlying5->yd,underlying9->wq
open Go.Result renaming andThen->wi
open Go.RowKit renaming Hid->qu
open Go.RowKit.Below renaming alloc->pb,cell->qi,heap_alloc->vr,mono->o5,refl->wl,setCell->ph,trans->ow
open Go.Sem renaming bind->yz,run_pure->qaZ
open Go.Target renaming collected->qbb
open Go.Value renaming agg->we,bool->rh,int->ox,oneCell'->sw,ownBlock->ov,pointer->pm,slice->U,string->pk,tuple->sh
open Go.Value.slice renaming injEq->ry
open Go.World renaming alloc->o6,alloc_heap_new->YZ,cell?->Z,grownBy->ss,ownsRow->r8,ownsRow_nil->Yw,putObj->rq,putObj_heap_other->sa,putObj_heap_same->wh,putObj_size->Yt,setCell->o3,setCells->YF
open Int renaming toNat->vv
open List renaming Nodup->ww,ext_getElem?->qba,getD->ur,getElem_mem->qaz,isEmpty->tk,length->M,take_append_drop->YX,take_succ_cons->Z0,toArray->py
open Nat renaming add_comm->qaI,add_zero->qaP
open Option renaming isNone->za,none->X,some->N
open Or renaming inl->rr,inr->rz
open Prod renaming fst->p9
open UInt8 renaming ofNat->uc,toNat->pf,toNat_lt->xi
open Go.Proofs.Tryz
namespace Go.Proofs.YtpibpdpedjinhaaGreatDoor
open Go
section
variable {k:Nat}{f:Func}
section
variable (P:th)(L:FuncId->Bool)(t:wj)(w:pn)
def nY:th:={ P with funcs:=P.2.mapIdx λi f=>if L i then f else { f with body:=X,name:= "",origin:= "" } }
def LE(h:P.2[k]? =N f)(a:L k=pw):(nY P L).2[k]? =N f:=by
 show(P.2.mapIdx _)[k]? =N f
 rw[Array.getElem?_mapIdx,h];simp only[bJ,a,if_true]
def Ed:(nY P L).info? t=P.info? t:=rfl
def uA:(nY P L).underlying t=P.underlying t:=rfl
def wK:(underlying t).run (nY P L) w=(underlying t).run P w:=by simp only[underlying,program,bind,yz,Sem.run,uA];cases P.underlying t<;>rfl
def F6:(sizeOf t).run (nY P L) w=(sizeOf t).run P w:=by simp only[sizeOf,typeInfo,program,bind,yz,Sem.run,Ed];cases P.info? t<;>rfl
def Kb:(isAgg t).run (nY P L) w=(isAgg t).run P w:=by
 simp only[isAgg,underlying,program,bind,yz,Sem.run,uA];cases P.underlying t with
 |none=>rfl
 |some d=>cases d<;>rfl
def zN:(zeroValue t).run (nY P L) w=(zeroValue t).run P w:=by
 simp only[zeroValue,typeInfo,program,bind,yz,Sem.run,Ed];cases P.info? t with
 |none=>rfl
 |some i=>
  show Sem.run (nY P L) (match i.8 with|some v=>pure v|none=>_) w=Sem.run P (match i.8 with|some v=>pure v|none=>_) w
  cases i.8<;>rfl
def MP(h:P.2[k]? =N f)(b:L k=pw)(c:(f.1 == "runtime.NumGoroutine")=pi)(a:za f.9=pi)(args):(Yk k args).run (nY P L) w=.ok (.enter k args) w:=by simp only[Yk,program,bind,yz,Sem.run,LE P L h b,c,a];rfl
end
def yP(k:FuncId):Bool:=!([0,1,71,107,108,111,153,154,155,156,157,158,159,160,161,162,163,164,165,166,167,168,169,170,199,200,201,202,203,233,234,235,236,237,238,239,240,241,242,243,244,245,246,247,248,249,250,252,253,254,255]:List Nat).contains k
noncomputable def PQ:th:=nY px yP
def fq(h:px.2[k]? =N f)(a:yP k=pw):PQ.2[k]? =N f:=LE _ _ h a
section
variable (t:wj)(w:pn)
@[simp] def O9:PQ.underlying t=Tryz.prog.underlying t:=uA ..
@[simp] def OY:(underlying t).run PQ w=(underlying t).run px w:=wK ..
@[simp] def Ma:(sizeOf t).run PQ w=(sizeOf t).run px w:=F6 ..
@[simp] def O0:(isAgg t).run PQ w=(isAgg t).run px w:=Kb ..
@[simp] def DH:(zeroValue t).run PQ w=(zeroValue t).run px w:=zN ..
end
section
variable {t:wj}
def uq{d}(h:Tryz.prog.underlying t=d):PQ.underlying t=d:=oy (O9 t) h
def o9{d}(h:∀w,(sizeOf t).run px w=.ok d w)(w):(sizeOf t).run PQ w=.ok d w:=oy (Ma t w) (h w)
def qg{d}(h:∀w,(isAgg t).run px w=.ok d w)(w):(isAgg t).run PQ w=.ok d w:=oy (O0 t w) (h w)
def pU{d}(h:∀w,(zeroValue t).run px w=.ok d w)(w):(zeroValue t).run PQ w=.ok d w:=oy (DH t w) (h w)
end
abbrev NK:Nat:=119410605829474995185314158946067881063668245145992106791403157890852007706620
def WB:((List.range 257).all λk=>(NK >>> k)%2 != 1 || match px.2[k]? with
  |some f=>yP k&&!(f.1 == "runtime.NumGoroutine")&&!Option.isNone f.9
  |none=>pi)=pw:=Zm
@[simp] def Vl(h:(119410605829474995185314158946067881063668245145992106791403157890852007706620 >>> k)%2=1)(a w):(Yk k a).run PQ w=.ok (.enter k a) w:=by
 have h:(NK >>> k)%2=1:=h
 have hk:k<257:=by
  apply Nat.lt_of_not_le;intro hk;obtain⟨j,rfl⟩:=Nat.exists_eq_add_of_le hk;rw[Nat.shiftRight_add,show NK >>> 257=0 by decide,Nat.zero_shiftRight]at h;cases h
 have:=cU.1 WB k (dN.2 hk);rw[h]at this;cases hf:px.2[k]? with
 |none=>grind
 |some f=>
  rw[hf]at this;simp only[bne_self_eq_false,Bool.false_or,bN,Bool.not_eq_true']at this;exact MP _ _ w hf this.1.1 this.1.2 this.2 a
end
end Go.Proofs.YtpibpdpedjinhaaGreatDoor
namespace Go.Proofs.YtpibpdpedjinhaaGreatDoor.Fr
open Go.RowKit Go.Joins
variable {P:th}{w w':pn}{e k base size n:Nat}{v:po}{xs:List po}
def nD(w:pn)(base:Nat)(t k e:wj)(i:qaH)(z:po)(size bytes:Nat)(r:P.underlying t=N (.slice e))(o:P.info? e=N i)(C:i.8=N z)(j:i.3=size)(y:i.4=bytes)(F:qd z.cells=size)(E:0<size)(v:po)(n:Nat)(xs:List po)(h:r8 w base e size v n xs)(b:zm)(m c:Nat)(a:List po)(Y:0<m)(f:M a=m*size)(p:∀B D,a[B]? =N D->Z w (b.add B)=N D)(u:∀B∈a,sw B=pw)(x:n+m<=maxLen)(A:(n+m)*bytes<=140737488355328)(I:base<=↑w):∃d w',(By #[t,t] k #[v,U (N b) m c]).run P w=.ok d w'/\r8 w' base e size d (n+m) (xs++a)/\ss w w' (ov v)/\(ov d=ov v\/∃g,ov d=N g/\w.1.size<=g):=by
 let⟨d,w',q,G,H,T⟩:=qao (P:=P) w base t k e i z size bytes r o C j y F E v n xs h b m c a f p u x A I;refine⟨d,w',q,G,H,?_⟩;have ab:n+m<=9223372036854775807:=by simp only[maxLen]at x;omega
 obtain⟨rfl,rfl⟩|⟨g,l,s,rfl,V,L,aa,W,J,ac⟩:=h.2
 .right;have O:xs=[]:=bC (by simpa using h.1);subst O;obtain⟨v2,w2,B,D,_,S⟩:=qao (P:=P) w _ t k e i z size bytes r o C j y F E _ 0 [] (Yw w _ e size) b m c a f p u x A fI;rw[q]at B;simp only[Result.ok.injEq]at B;obtain⟨rfl,rfl⟩:=B;obtain⟨Q,_⟩|⟨g,l,s,rfl,K,_⟩:=D.2
  .omega
  .exact⟨g,R,K⟩
 .by_cases D:n+m<=l
  .left;have K:n*i.3+M a<=qd s:=by rw[f,J,j,<-eJ];exact cY _ D
   have B:=run_append_room (P:=P) w t k e i r o g n l s L b m c a (by rw[j];exact f) p u D K;rw[q]at B;simp only[Result.ok.injEq]at B;rw[B.1];rfl
  .right;subst j y;have holds:=h.cells (g:=g) R;have B:=qaM (P:=P) w t k e i z r o C _ n l xs h.1 holds b m c a f p aA aA (qaT aA A);rw[q]at B;simp only[Result.ok.injEq]at B;exact⟨_,by rw[B.1];rfl,fI⟩
def BO(w:pn)(base:Nat)(t o e:wj)(i:qaH)(z:po)(size bytes:Nat)(x:P.underlying t=N (.slice e))(q:P.info? e=N i)(I:i.8=N z)(l:i.3=size)(E:i.4=bytes)(V:qd z.cells=size)(T:0<size)(v:po)(n:Nat)(xs:List po)(j:r8 w base e size v n xs)(f:zm)(m c:Nat)(a:List po)(S:0<m)(h:M a=m*size)(r:∀k u,a[k]? =N u->Z w (f.add k)=N u)(B:∀u∈a,sw u=pw)(D:n+m<=maxLen)(F:(n+m)*bytes<=140737488355328)(L:base<=↑w):∃d w',(By #[t,t] o #[v,U (N f) m c]).run P w=.ok d w'/\r8 w' base e size d (n+m) (xs++a)/\ss w w' (ov v)/\(ov d=ov v\/∃g,ov d=N g/\w.1.size<=g/\ss w w' X):=by
 let⟨d,w',s,J,C,b⟩:=nD (P:=P) w base t o e i z size bytes x q I l E V T v n xs j f m c a S h r B D F L;refine⟨d,w',s,J,C,?_⟩;obtain b|⟨g,b,K⟩:=b
 .exact rr b
 .refine rz ⟨g,b,K,?_⟩;obtain⟨rfl,rfl⟩|⟨A,p,y,rfl,W,G,ab,Y,O,ad⟩:=j.2
  .exact C
  .have aa:=(fO G)
   by_cases H:n+m<=p
   .exfalso;have u:n*i.3+M a<=qd y:=by rw[h,O,l,<-eJ];exact cY _ H
    have k:=run_append_room (P:=P) w t o e i x q A n p y G f m c a (by rw[l];exact h) r B H u;rw[s]at k;simp only[Result.ok.injEq]at k;rw[k.1]at b;simp[ov]at b;omega
   .have ac:n+m<=9223372036854775807:=by simp only[maxLen]at D;omega
    subst l E;have holds:=j.cells (g:=A) R;have u:=qaM (P:=P) w t o e i z x q I _ n p xs j.1 holds f m c a h r aA aA (qaT aA F);rw[s]at u;simp only[Result.ok.injEq]at u;rw[u.2];exact⟨R,R,R,aC,λk Q _=>vr _ _ _ Q⟩
def ig{w:pn}{ops:Array OF}{rest:List OF}{o:OF}{d:Act}{Q:qaC->Act->pn->Prop}(B:o.6=X)(s x:ZT)(t:wj)(G:o.2=.call { callee:=.builtin .append,args:=#[s,x],argTypes:=#[t,t] })(base:Nat)(e:wj)(i:qaH)(z:po)(size bytes:Nat)(S:P.underlying t=N (.slice e))(C:P.info? e=N i)(V:i.8=N z)(L:i.3=size)(y:i.4=bytes)(W:qd z.cells=size)(O:0<size)(v:po)(n:Nat)(xs:List po)(J:p7 d s=v)(H:r8 w base e size v n xs)(ad:zm)(m c:Nat)(b:List po)(T:p7 d x=U (N ad) m c)(E:0<m)(D:M b=m*size)(F:∀j u,b[j]? =N u->Z w (ad.add j)=N u)(f:∀u∈b,sw u=pw)(q:n+m<=maxLen)(A:(n+m)*bytes<=140737488355328)(r:base<=↑w)(h:∀a w',r8 w' base e size a (n+m) (xs++b)->ss w w' (ov v)->(ov a=ov v\/∃g,ov a=N g/\w.1.size<=g/\ss w w' X)->wpList P ops Q rest (d.put o.1 a) w'):wpList P ops Q (o::rest) d w:=by
 refine Z5 B λK hK=>?_;let⟨a,w',I,k,l,p⟩:=BO (P:=P) w base t o.3 e i z size bytes S C V L y W O v n xs H ad m c b E D F f q A r;unfold Oper.wp rj;simp only[G,resolve,invoke,builtin,Sem.run_bind,qaZ,Result.andThen_ok,dC,cL,dB,J,T,I];exact hK _ _ (h a w' k l p)
def rX{b s}(h:r8 w b e s v k xs)(g)(c:ov v=N g):∃a,w.1[g]? =N (pj a e (0,0)):=by
 obtain⟨rfl,_⟩|⟨f,d,a,rfl,_,i,_⟩:=h.2
 .simp[ov]at c
 .simp[ov]at c
  grind
def gR(h:r8 w base e size v n xs)(i:Below ↑w w w'):r8 w' base e size v n xs:=by
 obtain⟨f,a⟩:=h;refine⟨f,?_⟩;obtain a|⟨g,c,d,k,j,b,r⟩:=a
 .exact rr a
 .exact rz ⟨g,c,d,k,j,oy (i.5 g (fO b)) b,r⟩
def iX(h:r8 w base e size v n xs){g}(a:ov v=N g):base<=g/\g<w.1.size:=by
 obtain⟨rfl,_⟩|⟨d,b,c,rfl,f,i,_⟩:=h.2
 .simp[ov]at a
 .simp[ov]at a
  grind
def kB(h:r8 w base e size v n xs)(k:∀g,ov v=N g->w'.1[g]? =w.1[g]?):r8 w' base e size v n xs:=by
 obtain⟨f,a⟩:=h;refine⟨f,?_⟩;obtain a|⟨g,c,d,b,i,j,r⟩:=a
 .exact rr a
 .exact rz ⟨g,c,d,b,i,oy (k g (by rw[b];rfl)) j,r⟩
def iM(h:r8 w base e size v k xs)(d:0<k):∃g a,v=U (N ⟨g,0,X⟩) k a:=by
 obtain⟨_,c⟩|⟨g,a,b,rfl,_⟩:=h.2
 .omega
 simp
def gW(h:r8 w base e size v k xs):∃b a,v=.slice b k a:=by
 obtain⟨rfl,d⟩|⟨g,a,c,rfl,_⟩:=h.2
 .grind
 simp
def kC(b n):(⟨b,0,X⟩:zm).add n=⟨b,n,X⟩:=by
 unfold Addr.add
 grind
def gH(s):tk (vz s)=decide (ot s=0):=by
 rw[qaD,X6]
 grind
def kL(u s i)(j:Nat)(a)(e:i=(j:Int)):(YJ 9 (pk s) (ox pg i)).run PQ u=.ok (ox .u8 (pf s[j]:Int)) u:=by exact nv
def iC(s:ByteArray)(f h):ur s.1.1 f 0=s[f]:=by have a:=X6 s;rw[aT,aK aA,Array.getElem_toList];rfl
def ext_list(s:ByteArray)(a b:Nat):(s.extract a b).1.1=(s.1.1.take b).drop a:=by exact km
def fG{B a}(h:Below B a w)(n):Below B a (w.drewN n):=ow h ⟨R,R,R,fI,λ_ _=>R⟩
def oV(n:Nat):ByteArray:=⟨#[uc (vv ((n:Int)%256)),uc (vv ((n:Int)/256%256)),uc (vv ((n:Int)/65536%256)),uc (vv (109:Int))]⟩
def FL(u x y z t):(convert 155 9 (U (N ⟨u.1.size,0,X⟩) 4 4)).run PQ (o6 u (pj #[ox .u8 x,ox .u8 y,ox .u8 z,ox .u8 t] 5))=.ok (pk ⟨#[uc (vv x),uc (vv y),uc (vv z),uc (vv t)]⟩) (o6 u (pj #[ox .u8 x,ox .u8 y,ox .u8 z,ox .u8 t] 5)):=by
 have h:=run_convert_bytes_arg (P:=PQ) (o6 u (pj #[ox .u8 x,ox .u8 y,ox .u8 z,ox .u8 t] 5)) 155 5 (uq xy) (uq yd) ↑u 0 4 4 [x,y,z,t] R (λi a=>by
  have a:=a
  match i,a with
  |0,_=>simp
  |1,_=>simp
  |2,_=>simp
  |3,_=>simp) 9 (uq wq)
 exact h
def sB(n:Nat)(w):tf PQ 45 #[ox pg n] w λe w'=>e=qs (pk (oV n))/\Below w.1.size w w':=by
 have b:=FL w (n%256) (n/256%256) (n/65536%256) 109;have a:(⟨#[uc (vv ((n:Int)%256)),uc (vv ((n:Int)/256%256)),uc (vv ((n:Int)/65536%256)),uc (vv (109:Int))]⟩:ByteArray)=oV n:=R;rw[a]at b;clear a;generalize oV n=Zn at *;go_enter (fq func45 R),ntmps45;go_wp2;go_ret;exact⟨R,pb (wl _ w) fI _⟩
end Go.Proofs.YtpibpdpedjinhaaGreatDoor.Fr
namespace Go.Proofs.YtpibpdpedjinhaaGreatDoor
open Go.Conc
def fZ{w:pn}{n i c t f v}(h:w.heap[n]? =N (pj c t f))(k:c[i]? =N v):w.cell? ⟨n,i,X⟩=N v:=(Lib.cell_of_heap h i).trans k
abbrev aG:=@Go.Lib.cell_of_heap
abbrev aH:=@Go.RowKit.Below.refl
abbrev aM:=@Go.Lib.frozen_of_heap
abbrev aO:=@se
abbrev aR:=@Go.RowKit.Below.heap_setCell
abbrev aU:=@vr
abbrev aW:=@Go.Lib.size_eq
abbrev cQ:=@Go.World.size_alloc
abbrev cV:=@Go.World.block_lt_of_cell?
abbrev dA:=@Go.Frame.finish_at
abbrev dE:=@vr
abbrev dT:=@Go.Result.andThen_ok
abbrev eM:=@Go.Sem.run_bind
end Go.Proofs.YtpibpdpedjinhaaGreatDoor
namespace Go.Proofs.YtpibpdpedjinhaaGreatDoor.Fr
variable {s:List UInt8}{p n:Nat}
structure F where
 chan:Nat
 num:Nat
 data:List UInt8
 last:Bool
variable {l:List F}
def big(s:List UInt8)(p:Nat):Nat->Nat
 |0=>0
 |k+1=>256*big s p k+pf (ur s (p+k) 0)
def lZ(s p):∀k,big s p k<256 ^ k
 |0=>by simp[big]
 |k+1=>by
  have a:=lZ s p k;have b:=xi (ur s (p+k) 0);rw[big,Nat.pow_succ];omega
def one(s:List UInt8)(p:Nat):Option (F×Nat):=
 if M s<p+9 then X
 else if M s<p+9+big s (p+6) 2 then X
 else if 1<pf (ur s (p+8+big s (p+6) 2) 0)then X
 else N (⟨big s p 4,big s (p+4) 2,(s.take (p+8+big s (p+6) 2)).drop (p+8),pf (ur s (p+8+big s (p+6) 2) 0) == 1⟩,9+big s (p+6) 2)
def HA(h:¬M s<p+9):one s p=if M s<p+9+big s (p+6) 2 then X
 else if 1<pf (ur s (p+8+big s (p+6) 2) 0)then X
 else N (⟨big s p 4,big s (p+4) 2,(s.take (p+8+big s (p+6) 2)).drop (p+8),pf (ur s (p+8+big s (p+6) 2) 0) == 1⟩,9+big s (p+6) 2):=by
 unfold one;rw[Za h]
def xL(h:M s<p+9):one s p=X:=by unfold one;rw[Zb h]
def rest:Nat->List UInt8->Nat->Option (List F)
 |0,s,p=>if M s<=p then N []else X
 |f+1,s,p=>if M s<=p then N []else match one s p with
  |none=>X
  |some (x,n)=>(rest f s (p+n)).map (x::·)
def frames(s:List UInt8):Option (List F):=if M s<2\/ur s 0 0≠0 then X else rest (M s) s 1
def one_le{x}(h:one s p=N (x,n)):9<=n/\p+n<=M s:=by
 unfold one at h
 grind
inductive lR(s:List UInt8):List F->Nat->Prop
 |nil:lR s [] 1
 |snoc {l:List F} {p:Nat} {x:F} {n:Nat}:lR s l p->p<M s->one s p=N (x,n)->lR s (l++[x]) (p+n)
def lR.le(a:1<=M s)(h:lR s l p):p<=M s/\M l<p:=by
 induction h with
 |nil=>grind
 |snoc h hp ho ih=>
  have:=one_le ho
  grind
def lR.rest(h:lR s l p):∀f,M l<=f->Fr.rest f s 1=(Fr.rest (f-M l) s p).map (λr=>l++r):=by
 induction h with
 |nil=>intro f _;simp
 |@snoc l p x n h hp ho ih=>
  intro f b;simp only[aN,aP,bH]at b⊢;rw[ih f aA];obtain⟨a,c⟩:∃a,f-M l=a+1:=⟨f-M l-1,aA⟩
  rw[c,Fr.rest,Za aA,ho];simp only;rw[show f-(M l+(0+1))=a from by omega];cases Fr.rest a s (p+n)<;>simp
def lR.all(a:¬(M s<2\/ur s 0 0≠0))(h:lR s l p)(hp:M s<=p):frames s=N l:=by have:=h.le aA;rw[frames,Za a,h.rest (M s) aA];cases M s-M l<;>simp[Fr.rest,hp]
def lR.stuck(a:¬(M s<2\/ur s 0 0≠0))(h:lR s l p)(hp:p<M s)(b:one s p=X):frames s=X:=by
 have:=h.le aA;rw[frames,Za a,h.rest (M s) aA];cases M s-M l with
 |zero=>rw[Fr.rest,Za aA];rfl
 |succ f=>rw[Fr.rest,Za aA,b];rfl
def ou(h:M s<2\/ur s 0 0≠0):frames s=X:=by rw[frames,Zb h]
open Go.RowKit Go.Joins
def jv(x:F):List po:=[ox sr x.1,ox .u16 x.2,pk ⟨py x.3⟩,.bool x.4]
def flat:List F->List po
 |[]=>[]
 |x::l=>jv x++flat l
def jY:∀(a b),flat (a++b)=flat a++flat b
 |[],_=>R
 |x::a,b=>by rw[bX,flat,flat,jY a b,cZ]
def flat_length:∀l:List F,M (flat l)=M l*4
 |[]=>R
 |x::l=>by rw[flat,aN,flat_length l];exact mp
def Xc(c:Nat)(w':pn)(e:Ending):Option (List F)->Prop
 |none=>e=qs (sh #[U X 0 0,rh pi])
 |some l=>∃a b,e=qs (sh #[U a (M l) b,rh pw])/\r8 w' c 81 4 (U a (M l) b) (M l) (flat l)
def BQ(s:ByteArray)(p k w)(r:ot s<=16777216)(hp:p+k<=ot s)(n:k<=4):tf PQ 96 #[pk s,ox pg p,ox pg k] w λf h=>f=qs (ox pg (big s.1.1 p k:Nat))/\h=w:=by
 go_enter (fq func96 R),ntmps96;go_wp2;go_loopg [7,8] k (λg v i a=>∃j:Nat,j<=k/\i=ox pg ((p:Int)+(j:Int))/\v=ox pg (big s.1.1 p j:Nat)/\g=k-j/\a=w)
 case atStart=>exact⟨0,bU _,aC,R,R,R⟩
 case round=>
  obtain⟨j,m,rfl,rfl,rfl,rfl⟩:=hrel;have g:=lZ s.1.1 p j
  have i:big s.1.1 p j<4294967296:=by
   have:=eE (n:=256) aB (show j<=4 by omega);omega
  by_cases o:j<k
  .have q:(p:Int)+(j:Int)<p+(k:Int):=by omega
   have d:p+j<ot s:=aA
   have t:=λu=>kL u s (p+j) _ d aA;have e:big s.1.1 p (j+1)=256*big s.1.1 p j+pf s[p+j]:=by rw[big,iC s (p+j) d]
   have l:=xi s[p+j];generalize pf s[p+j]=c at *;generalize b:big s.1.1 p (j+1)=V at *;have a:qu _:=fE b e;clear b e;generalize big s.1.1 p j=Zq at *;go_wp2;go_roundg (k-(j+1))
   case measure=>omega
   case rel=>exact⟨_,aA,Zf _ aA,by rw[a.out.1,a.out.2];exact Zf _ aA,R,R⟩
  .obtain rfl:j=k:=by omega
   have a:¬(p:Int)+(j:Int)<p+(j:Int):=aA
   go_wp2;go_ret;exact⟨R,R⟩
end Go.Proofs.YtpibpdpedjinhaaGreatDoor.Fr
namespace Go.Proofs.YtpibpdpedjinhaaGreatDoor
open Go.RowKit
section
variable {B gf:Nat}{P:th}{g:ZT}{ps:Array Tmp}{assign body:vy}{Q:qaC->Act->pn->Prop}{w b:pn}{lb:Array po}{a:Nat->Prop}
def tB{a b}(h:Below B a b)(l o)(c:l<a.1.size):Below B (rq a l o) (rq b l o):=
 ⟨h.1,h.2,h.3,by simp;exact h.4,λk d=>by
  by_cases e:k=l
  .subst e;rw[wh c,wh (aL c h.4)]
  .rw[sa e,sa e];exact h.5 k d⟩
def tE(w l o a)(d:l<w.1.size):rq (o6 w o) l a=o6 (rq w l a) o:=by
 have:qb (w.1.push o) l a=(qb w.1 l a).push o:=by
  apply dG;intro i;simp only[aQ,dV,Array.size_push,eV];by_cases e:l=i
  .grind
  .simp[e]
 show { (o6 w o)with heap:=qb (o6 w o).1 l a }={ (rq w l a)with heap:=(rq w l a).1.push o }
 have b:(o6 w o).1=w.1.push o:=R;have c:(rq w l a).1=qb w.1 l a:=R;rw[b,c,this];rfl
def Gives{e:Type}(P:th)(g:Nat)(lb:Array po)(encs:e->Array po)(a:Nat->Prop)(Y:List e->e->Nat->pn->Prop)(S j:List e->Prop)(w:pn):=
 ∀(l:Nat)(J h:List e->pn->Prop)(W:pn),Below ↑w w W->
  (∀pre x b d,J pre b->Below ↑b b d->Y pre x ↑b d->YieldAt vq 1 P l (encs x) d λf c=>
   (f=qs (rh pw)/\J (pre++[x]) c/\↑d<=c.1.size/\∀k,a k->c.1[k]? =d.1[k]?)\/(f=qs (rh pi)/\h (pre++[x]) c))->
  J [] W->
  CallsIn vq 2 P g (#[.func (.yield l) #[] #[]]++lb) W λf c=>(∃v,f=qs v)/\((∃i b,S i/\J i b/\Below ↑b b c)\/(∃pre b,j pre/\h pre b/\Below ↑b b c))
def NC(W:pn)(k:Nat):=∀(a:Array po)(t:Nat)(b:Nat×Nat),W.1[k]?≠N (pj a t b)
def GZ{k W b a}(h:YC B (o6 W a) b)(c:k<W.1.size)(g:NC W k)(f:B<=k):b.1[k]? =(o6 W a).1[k]?:=by
 obtain⟨o,d⟩:∃o,W.1[k]? =N o:=⟨_,bL c⟩
 have e:=oy (vr W a k c) d;refine oy (h.2 k o f e ?_) e.symm;cases o with
 |cells cs t fz=>exact Zl d (g cs t fz)
 |_=>rfl
structure mO(B:Nat)(W W':pn):Prop where
 size:↑W<=W'.1.size
 one:W'.1[B]? =W.1[B]?
 two:W'.1[B+1]? =W.1[B+1]?
def ST{c:Type}(B:Nat)(a:Nat->Prop)(I:List c->pn->Prop)(b:vy->List c->pn->Prop)(xs:List c)(W:pn):qaC->Act->pn->Prop
 |.normal,_,W'=>mO B W W'/\(∀k,a k->W'.1[k]? =W.1[k]?)/\I xs W'
 |.ret,_,W'=>mO B W W'/\b .ret xs W'
 |.exit id,_,W'=>mO B W W'/\b (.exit id) xs W'
 |.goto t,_,W'=>mO B W W'/\b (.goto t) xs W'
 |.panic _,_,_=>False
 |.outgrown,_,_=>False
def sA{c j}(hg:p7 j g=.func (.func gf) #[] lb)(eg:∀d w,(Yk gf d).run P w=.ok (.enter gf d) w){encs:c->Array po}{Y:List c->c->Nat->pn->Prop}{S E:List c->Prop}(am:Gives P gf lb encs a Y S E b)(J:Below ↑b b w)(ai:∀k,a k->k<w.1.size)(hY:∀pre x e W d,(∀k,e<=k->d.1[k]? =W.1[k]?)->d.1.size=W.1.size->Y pre x e W->Y pre x e d)(ak:∀x,qd (encs x)=qd ps)(I:List c->pn->Prop)(r:vy->List c->pn->Prop)(H:∀d A e o,I d A->A.1[w.1.size+1]? =N (.loop e)->I d (rq A (w.1.size+1) (.loop o)))(u:∀d e A l o,r d e A->A.1[w.1.size+1]? =N (.loop l)->r d e (rq A (w.1.size+1) (.loop o)))(h0:∀d e,I [] (o6 (o6 w d) e))(F:c->Nat->Act)(q:c->Obj)(ad:∀(t:Nat)(x:c)(W:pn)(K:Act->pn->Prop),K (F x ↑W) (o6 W (q x))->assign.wpIn (zz vq t) 1 P (Exit.then K (λ_ _ _=>False)) ⟨(ps.zip (encs x)).foldl (λd (p,v)=>qb d p v) j.1,[]⟩ W)(ae:∀(t:Nat)(pre:List c)(x:c)(e d:pn),t=w.1.size+1->t<↑e->NC d w.1.size->NC d (w.1.size+1)->I pre e->Below ↑e e d->Y pre x ↑e d->body.wpIn (zz vq t) 1 P (ST ↑w a I r (pre++[x]) (o6 d (q x))) (F x d.1.size) (o6 d (q x)))(ag:∀(D:Nat)(e:List c)(d W:pn),D=w.1.size->D<d.1.size->S e->I e d->Below d.1.size d W->W.1[D]? =N (uu (N []))->Q .normal { j with defers:={ target:=qbb D,args:=#[] }::j.2 } W)(an:∀(D:Nat)(e:vy)(pre:List c)(d W:pn),D=w.1.size->D<d.1.size->E pre->r e pre d->Below d.1.size d W->W.1[D]? =N (uu (N []))->e.wpIn vq 3 P Q { j with defers:={ target:=qbb D,args:=#[] }::j.2 } W):(Code.rangeFunc g ps assign body).wpIn vq 3 P Q j w:=by
 refine wpIn_rangeFunc λfn ah=>?_;obtain⟨f,i⟩:∃f:LoopState->Option vy->Loop,f=λst pe=>{ state:=st,pending:=pe,fn,tmps:=j.1,params:=ps,assign,body,defers:=w.1.size }:=⟨_,R⟩
 obtain⟨V,s⟩:∃V,o6 (o6 w (uu (N []))) (.loop (f .ready X))=V:=⟨_,R⟩
 have vl:V.1[w.1.size+1]? =N (.loop (f .ready X)):=by
  have:=YZ (o6 w (uu (N []))) (.loop (f .ready X));rw[World.size_alloc,s]at this;exact this
 have vd:V.1[w.1.size]? =N (uu (N [])):=by rw[<-s];exact oy (vr _ _ _ aC) (YZ w _)
 have vI:I [] V:=by rw[<-s];exact h0 _ _
 have vb:Below ↑b b V:=by rw[<-s];exact ow J (o5 (pb (pb (wl _ w) fI _) aC _) J.4)
 refine⟨w.1.size+1,[{ target:=qbb ↑w,args:=#[] }],V,{ target:=.fn (.func gf) lb,args:=#[.func (.yield (w.1.size+1)) #[] #[]] },V,gf,
  #[.func (.yield (w.1.size+1)) #[] #[]]++lb,V,?_,?_,λ_ _=>trivial,by simp[invoke,go_sem,eg],λh=>oj,?_⟩
 .rw[<-s,i];exact run_enterLoop_outer _ _ _ _ _
 .simp only[resolve,hg];simp[go_sem]
 refine(am _
  (λpre W=>I pre W/\W.1[w.1.size+1]? =N _/\W.1[w.1.size]? =N _)
  (λpre W=>∃d,r d pre W/\W.1[w.1.size+1]? =N (.loop (f .done (N d)))/\W.1[w.1.size]? =N (uu (N []))) V vb ?_ ⟨vI,vl,vd⟩).mono ?_
 .rintro pre x D m ⟨i0,l0,d0⟩ y hy;have aa:=(fO l0)
  have A:=oy (y.5 _ aa) l0;have G:=oy (y.5 _ (by omega:↑w<D.1.size)) d0;have p:=(fO A)
  have C:=run_yield (P:=P) (args:=encs x) A (by rw[i];exact ak x);rw[i]at C;refine⟨fn,_,assign,body,C,roundIn_of_wpIn ah (ad _ x m _ ⟨_,run_beginRound (oy (vr _ _ _ p) A) (by rw[i]),?_⟩)⟩;clear C;rw[tE _ _ _ _ p];obtain⟨o,l⟩:∃o:Obj,Obj.loop { f .ready X with state:=.busy }=o:=⟨_,R⟩
  rw[l];have b1:=tB y _ o aa
  have y1:Y pre x (rq D (w.1.size+1) o).1.size (rq m (w.1.size+1) o):=by
   rw[Yt];exact hY pre x _ m _ (λk L=>sa aA) aC hy
  have z:=ae _ pre x _ _ R aD (λT ao fz L=>by rw[sa aA,G]at L;cases L) (λT ao fz L=>by rw[wh p,<-l]at L;cases L) (by grind) (by simpa using b1) y1;rw[Yt]at z;refine wpIn_mono z ?_;clear z;have aj:(o6 (rq m (w.1.size+1) o) (q x)).1[w.1.size+1]? =N o:=oy (vr _ _ _ aD) (wh p);have af:(o6 (rq m (w.1.size+1) o) (q x)).1[w.1.size]? =N (uu (N [])):=oy (vr _ _ _ aD) (oy (sa aA) G)
  have fin:∀(e:Option vy)(d:pn),mO ↑w (o6 (rq m (w.1.size+1) o) (q x)) d->
    (Instr.endRound (w.1.size+1) e).run P d=.ok (.bool (za e)) (rq d (w.1.size+1) (.loop (f (if za e then .ready else .done) e)))/\
    d.1[w.1.size+1]? =N o/\
    (rq d (w.1.size+1) (.loop (f (if za e then .ready else .done) e))).1[w.1.size+1]? =N (.loop (f (if za e then .ready else .done) e))/\
    (rq d (w.1.size+1) (.loop (f (if za e then .ready else .done) e))).1[w.1.size]? =N (uu (N [])):=λe d O=>by
   have B:=oy O.3 aj;have q2:=oy O.2 af;have ab:=B;rw[<-l]at ab;have:=run_endRound (P:=P) e ab;refine⟨?_,B,wh (fO B),oy (sa aA) q2⟩;rw[i]at this⊢;exact this
  rintro ac a3 d n;cases ac with
  |normal=>
   obtain⟨T,kk,i3⟩:=n;let⟨hr,l3,l4,d4⟩:=fin X d T;refine⟨_,_,hr,rr ⟨R,⟨H _ _ _ _ i3 (oy l3 (Zf N l.symm)),l4,d4⟩,by have:=T.1;simp at this⊢;omega,λk L=>?_⟩⟩;have ao:=ai k L;rw[sa aA,kk k L,vr _ _ _ aD,sa aA]
  |ret=>
   obtain⟨k3,i3⟩:=n;let⟨T,l3,l4,L⟩:=fin (N .ret) d k3;exact⟨_,_,T,rz ⟨R,_,u _ _ _ _ _ i3 (oy l3 (Zf N l.symm)),l4,L⟩⟩
  |exit id=>
   obtain⟨k3,i3⟩:=n;let⟨T,l3,l4,L⟩:=fin (N (.exit id)) d k3;exact⟨_,_,T,rz ⟨R,_,u _ _ _ _ _ i3 (oy l3 (Zf N l.symm)),l4,L⟩⟩
  |goto ao=>
   obtain⟨k3,i3⟩:=n;let⟨T,l3,l4,L⟩:=fin (N (.goto ao)) d k3;exact⟨_,_,T,rz ⟨R,_,u _ _ _ _ _ i3 (oy l3 (Zf N l.symm)),l4,L⟩⟩
  |panic ch=>exact n.elim
  |outgrown=>exact n.elim
 .rintro D C ⟨⟨v,rfl⟩,(⟨B,l,o,⟨p,e,n⟩,d⟩|⟨pre,l,o,⟨m,p,e,n⟩,d⟩)⟩
  .have y:=(fO e)
   have A:=oy (d.5 _ y) e;have z:=oy (d.5 _ (by omega:↑w<l.1.size)) n;refine⟨X,_,iu,?_⟩;exact ag _ B _ _ R aD o (H _ _ _ _ p e) (by simpa using tB d (w.1.size+1) _ y) (oy (sa aA) z)
  .have y:=(fO e)
   have A:=oy (d.5 _ y) e;have z:=oy (d.5 _ (by omega:↑w<l.1.size)) n;refine⟨N m,_,iu,?_⟩;exact an _ m pre _ _ R aD o (u m _ _ _ _ p e) (by simpa using tB d (w.1.size+1) _ y) (oy (sa aA) z)
def RO{c:Type}(B:Nat)(a:Nat->Prop)(I:List c->pn->Prop)(b:vy->List c->pn->Prop)(xs:List c)(W:pn):qaC->Act->pn->Prop
 |.normal,_,W'=>YC B W W'/\(∀k,a k->W'.1[k]? =W.1[k]?)/\I xs W'
 |.ret,_,W'=>YC B W W'/\b .ret xs W'
 |.exit id,_,W'=>YC B W W'/\b (.exit id) xs W'
 |.goto t,_,W'=>YC B W W'/\b (.goto t) xs W'
 |.panic _,_,_=>False
 |.outgrown,_,_=>False
def uX{d i}(J:p7 i g=.func (.func gf) #[] lb)(z:∀p w,(Yk gf p).run P w=.ok (.enter gf p) w){encs:d->Array po}{Y:List d->d->Nat->pn->Prop}{S u:List d->Prop}(V:Gives P gf lb encs a Y S u b)(F:Below ↑b b w)(O:∀k,a k->k<w.1.size)(C:∀pre x t W p,(∀k,t<=k->p.1[k]? =W.1[k]?)->p.1.size=W.1.size->Y pre x t W->Y pre x t p)(T:∀x,qd (encs x)=qd ps)(I:List d->pn->Prop)(m:vy->List d->pn->Prop)(s:OwnFrom ↑w I)(B:∀p,OwnFrom ↑w (m p))(A:I [] w)(r:d->Nat->Act)(j:d->Obj)(E:∀(l:Nat)(x:d)(W:pn)(K:Act->pn->Prop),K (r x ↑W) (o6 W (j x))->assign.wpIn (zz vq l) 1 P (Exit.then K (λ_ _ _=>False)) ⟨(ps.zip (encs x)).foldl (λt (p,v)=>qb t p v) i.1,[]⟩ W)(G:∀(l:Nat)(pre:List d)(x:d)(c f:pn),↑w<c.1.size->I pre c->Below ↑c c f->Y pre x ↑c f->body.wpIn (zz vq l) 1 P (RO ↑w a I m (pre++[x]) (o6 f (j x))) (r x ↑f) (o6 f (j x)))(H:∀(D:Nat)(p:List d)(c W:pn),w.1.size<=D->D<c.1.size->S p->I p c->Below ↑c c W->W.1[D]? =N (uu (N []))->Q .normal { i with defers:={ target:=qbb D,args:=#[] }::i.2 } W)(aa:∀(D:Nat)(p:vy)(pre:List d)(c W:pn),w.1.size<=D->D<c.1.size->u pre->m p pre c->Below ↑c c W->W.1[D]? =N (uu (N []))->p.wpIn vq 3 P Q { i with defers:={ target:=qbb D,args:=#[] }::i.2 } W):(Code.rangeFunc g ps assign body).wpIn vq 3 P Q i w:=by
 refine sA J z V F O C T I m (λ_ _ _ _ h o=>s.putObj _ h aA o R) (λp _ _ _ _ h o=>(B p).putObj _ h aA o R) (λ_ _=>s.alloc _ (s.alloc _ A)) r j E (λl pre x c f n o n1 n2 L y hy=>wpIn_mono (G l pre x c f aA L y hy) ?_) (λD p c W n=>H D p c W aA) (λD p pre c W n=>aa D p pre c W aA);have sz:=y.4;have q:∀{W3},YC ↑w (o6 f (j x)) W3->mO ↑w (o6 f (j x)) W3:=λk=>⟨k.1,GZ k aA n1 fI,GZ k aA n2 aA⟩
 rintro n a3 W3 e;cases n with
 |normal=>exact⟨q e.1,e.2⟩
 |ret=>exact⟨q e.1,e.2⟩
 |exit id=>exact⟨q e.1,e.2⟩
 |goto t=>exact⟨q e.1,e.2⟩
 |panic ch=>exact e
 |outgrown=>exact e
end
end Go.Proofs.YtpibpdpedjinhaaGreatDoor
namespace Go.Proofs.YtpibpdpedjinhaaGreatDoor.Fr
open Go.RowKit Go.Joins Go.Shelf
variable {w:pn}
def vZ(a c)(hc:c<256):(a*256) |||c=256*a+c:=by exact ly
def vN(a b:Nat)(e:a<4294967296)(f:b<4294967296):bits .or sr (a:Int) (b:Int)=((a |||b:Nat):Int):=by
 have g:a |||b<2 ^ 32:=Nat.or_lt_two_pow aA aA
 have c:ZV (ZW 32 (a:Int))=a:=by
  exact iz
 have d:ZV (ZW 32 (b:Int))=b:=by
  exact iz
 show IntKind.u32.wrap (ZV (ZW 32 (a:Int) |||BitVec.ofInt 32 (b:Int)):Int)=_
 rw[BitVec.toNat_or,c,d,IntKind.wrap_u32];omega
def below_bytesWorld{B u}(h:Below B w u)(a:B<=u.1.size)(e s):Below B w (qaa u e s):=
 ow h ⟨R,R,R,by rw[qaO];omega,λm b=>Lib.bytesWorld_at_old u e s m aA⟩
def pC(s p q):∀k,big (s.drop p) q k=big s (p+q) k
 |0=>R
 |k+1=>by
  rw[big,big,pC s p q k,aT,aT,eN,cE]
def D9(s q m):∀k,q+k<=m->big (s.take m) q k=big s q k
 |0,_=>R
 |k+1,h=>by
  rw[big,big,D9 s q m k aA,aT,aT,eC aA]
def Cj(s p k):big ((s.take (p+k)).drop p) 0 k=big s p k:=by rw[pC,qaP,D9 _ _ _ _ fI]
def xg(s p)(hp:p<=M s):one s p=one (s.drop p) 0:=by
 unfold one;rw[pC,pC,pC,cF];simp only[qaP,cX]
 have e:ur (s.drop p) (8+big s (p+6) 2) 0=ur s (p+8+big s (p+6) 2) 0:=by
  rw[aT,aT,eN,cE]
 have a:((s.drop p).take (8+big s (p+6) 2)).drop 8=(s.take (p+8+big s (p+6) 2)).drop (p+8):=by
  rw[List.take_drop,dW]
  congr 1
  rw[cE]
 rw[e,a];by_cases b:M s<p+9
 .grind
 .grind
def LO:Go.Shelf.Ren:=⟨fun|316=>198|n=>n,fun|0=>0|3=>3|4=>4|5=>5|9=>9|37=>155|127=>239|n=>n,fun|n=>n⟩
def CP:Go.Proofs.LaysM.n316 PQ LO:={
 mixed:=Zm
 f316:=oy (fq func198 R) (Zf N Zm)
 t0:=(uq underlying0)
 a0:=(qg isAgg0)
 z0:=(o9 sizeOf0)
 v0:=(pU zeroValue0)
 t3:=(uq Yp)
 a3:=(qg isAgg3)
 z3:=(o9 sizeOf3)
 v3:=(pU zeroValue3)
 t4:=(uq qay)
 a4:=(qg isAgg4)
 z4:=(o9 sizeOf4)
 v4:=(pU zeroValue4)
 t5:=(uq yd)
 a5:=(qg isAgg5)
 z5:=(o9 sizeOf5)
 v5:=(pU zeroValue5)
 t9:=(uq wq)
 a9:=(qg isAgg9)
 z9:=(o9 sizeOf9)
 v9:=(pU zeroValue9)
 t37:=(uq xy)
 a37:=(qg isAgg155)
 z37:=(o9 sizeOf155)
 v37:=(pU zeroValue155)
 t127:=(uq qaX)
 a127:=(qg isAgg239)
 z127:=(o9 sizeOf239)
 v127:=(pU zeroValue239)
 i0:=Zm
 i3:=Zm
 i4:=Zm
 i5:=Zm
 i9:=Zm
 i37:=Zm
 i127:=by kernel_rfl }
def clone_any(s:ByteArray)(w)(c:ot s<=16777216):tf PQ 151 #[pk s] w λe b=>e=qs (pk s)/\Below w.1.size w b:=by go_enter (fq func151 R),ntmps151;go_wp2;refine se (Any.stringslite_Clone (ρ:=LO) CP s w aA) ?_;rintro e w1 ⟨rfl,a⟩;go_wp2;go_ret;exact⟨R,a⟩
end Go.Proofs.YtpibpdpedjinhaaGreatDoor.Fr
namespace Go.Proofs.YtpibpdpedjinhaaGreatDoor.Hm
open Go.RowKit Go.Joins
section
variable {g b a:Nat}
def gI{w b a e c}(h:w.1[b]? =N (pj a e c))(i v):(o3 w ⟨b,i,X⟩ v).1[b]? =N (pj (qb a i v) e c):=uk h v
def nW:∀(d o){w:pn}{c:Nat}{a e f},w.1[c]? =N (pj a e f)->
  ∃b,(w.setCells c o d).1[c]? =N (pj b e f)/\qd b=qd a/\(∀j,j<o\/o+M d<=j->b[j]? =a[j]?)/\∀j u,d[j]? =N u->o+j<qd a->b[o+j]? =N u
 |[],o,w,c,a,e,f,h=>⟨a,h,R,λ_ _=>R,λj u g=>by simp at g⟩
 |v::d,o,w,c,a,e,f,h=>by
  let⟨b,g,i,l,m⟩:=nW d (o+1) (gI h o v);refine⟨b,g,by rw[i];simp,λj k=>?_,λj u k n=>?_⟩
  .grind
  grind
def gY(b):∀(a o w),ss w (w.setCells b o a) (N b)/\(w.setCells b o a).1.size=w.1.size
 |[],o,w=>⟨⟨R,R,R,fI,λ_ _ _=>R⟩,R⟩
 |v::a,o,w=>by
  let⟨h,e⟩:=gY b a (o+1) (o3 w ⟨b,o,X⟩ v);have c:(o3 w ⟨b,o,X⟩ v).1.size=w.1.size:=aC
  refine⟨⟨oy h.1 ?_,oy h.2 ?_,oy h.3 ?_,by rw[YF,e,c];exact fI,λk g d=>oy (h.5 k (by rw[c];exact g) d) (Below.heap_setCell _ _ _ _ (λf=>d (by rw[f])))⟩,by rw[YF,e,c]⟩
  .rfl
  .rfl
  .rfl
def fM(w:pn)(e s:Nat)(v:po)(n:Nat)(xs:List po):=
 M xs=n*s/\((v=U X 0 0/\n=0)\/
  ∃g b a c,v=U (N ⟨g,b,X⟩) n a/\w.1[g]? =N (pj c e (0,0))/\n<=a/\a<=maxLen/\b+a*s<=qd c/\∀j u,xs[j]? =N u->c[b+j]? =N u)
section
variable {w w':pn}{e s:Nat}{v:po}{n:Nat}{xs:List po}
def fM.slice(h:fM w e s v n xs):∃c a,v=.slice c n a:=by
 obtain⟨rfl,rfl⟩|⟨g,b,a,d,rfl,_⟩:=h.2
 .exact⟨_,_,R⟩
 simp
def fM.pos(h:fM w e s v n xs)(f:0<n):∃g b a,v=U (N ⟨g,b,X⟩) n a/\n<=a:=by
 obtain⟨rfl,rfl⟩|⟨g,b,a,c,rfl,_,d,_⟩:=h.2
 .omega
 grind
def fM.obj(h:fM w e s v n xs)(d:ov v=N g):∃c,w.1[g]? =N (pj c e (0,0)):=by
 obtain⟨rfl,_⟩|⟨f,b,a,c,rfl,i,_⟩:=h.2
 .simp[ov]at d
 .simp[ov]at d
  grind
def fM.lt(h:fM w e s v n xs)(a:ov v=N g):g<↑w:=by
 let⟨b,hc⟩:=h.obj a
 grind
def fM.kept(h:fM w e s v n xs)(i:∀g,ov v=N g->w'.1[g]? =w.1[g]?):fM w' e s v n xs:=by
 refine⟨h.1,?_⟩;obtain d|⟨g,b,a,c,rfl,f,r⟩:=h.2
 .exact rr d
 .exact rz ⟨g,b,a,c,R,oy (i g R) f,r⟩
def fM.nil(w e s):fM w e s (U X 0 0) 0 []:=⟨aC,rr ⟨R,R⟩⟩
def fM.CB{d}(h:r8 w d e s v n xs):fM w e s v n xs:=by
 have c:=h.1;refine⟨c,?_⟩;obtain b|⟨g,a,f,rfl,i,l,m,j,k,o⟩:=h.2
 .exact rr b
 grind
def fM.cell(h:fM w e s v n xs)(c:v=U (N ⟨g,b,X⟩) n a)(j u)(f:xs[j]? =N u):Z w ⟨g,b+j,X⟩=N u:=by
 obtain⟨rfl,_⟩|⟨l,m,i,k,rfl,d,_,_,_,hc⟩:=h.2
 .cases c
 .simp only[ry,aI,zs,and_true,true_and]at c;obtain⟨⟨rfl,rfl⟩,rfl⟩:=c;have:=hc j u f;simp[Z,d,this]
def fM.frozen(h:fM w e s v n xs)(c:v=U (N ⟨g,b,X⟩) n a)(i:Nat):w.frozen? ⟨g,i,X⟩=pi:=by
 obtain⟨rfl,_⟩|⟨k,l,f,j,rfl,d,_⟩:=h.2
 .cases c
 .simp only[ry,aI,zs,and_true,true_and]at c;obtain⟨⟨rfl,rfl⟩,rfl⟩:=c;exact zg d i
def fM.append{P:th}(h:fM w e s v n xs)(t r:wj)(i:qaH)(z:po)(bytes:Nat)(C:P.underlying t=N (.slice e))(hi:P.info? e=N i)(F:i.8=N z)(o:i.3=s)(G:i.4=bytes)(V:qd z.cells=s)(T:0<s)(l:zm)(m c:Nat)(d:List po)(hm:0<m)(p:M d=m*s)(B:∀k A,d[k]? =N A->Z w (l.add k)=N A)(Q:∀k∈d,sw k=pw)(D:n+m<=maxLen)(H:(n+m)*bytes<=140737488355328):∃f w',(By #[t,t] r #[v,U (N l) m c]).run P w=.ok f w'/\fM w' e s f (n+m) (xs++d)/\(∃g b a,f=U (N ⟨g,b,X⟩) (n+m) a)/\((ov f=ov v/\ss w w' (ov v)/\↑w'=w.1.size)\/(ov f=N w.1.size/\ss w w' X/\↑w'=w.1.size+1)):=by
 have ae:∀x a u,M u=n*s->(∀k A,u[k]? =N A->Z w (x.add k)=N A)->a<n+m->
   ∃f w',(By #[t,t] r #[U (N x) n a,U (N l) m c]).run P w=.ok f w'/\fM w' e s f (n+m) (u++d)/\(∃g b a,f=U (N ⟨g,b,X⟩) (n+m) a)/\ov f=N w.1.size/\ss w w' X/\↑w'=w.1.size+1:=by
  intro x a u S holds I;let⟨f,w',j,E,J⟩:=run_append_arg_grows (P:=P) w t r e i z s bytes C hi F o G V T x n a u S holds l m c d p B I D H;have q:=qaM (P:=P) w t r e i z C hi F x n a u (by rw[o];exact S) holds l m c d (by rw[o];exact p) B I (by simp only[maxLen]at D;omega) (qaT I (by rw[G];exact H));rw[j]at q;simp only[Result.ok.injEq]at q;obtain⟨O,Y⟩:=q;exact⟨f,w',j,.CB E,⟨_,_,_,O⟩,by rw[O];rfl,J,by rw[Y];simp⟩
 obtain⟨rfl,rfl⟩|⟨g,b,a,L,rfl,y,aj,ab,ac,hc⟩:=h.2
 .have K:xs=[]:=bC (by simpa using h.1);subst K;let⟨f,w',j,E,J,aa⟩:=qao (P:=P) w _ t r e i z s bytes C hi F o G V T _ 0 [] (Yw w _ e s) l m c d p B Q D H fI;have k:fM w' e s f (0+m) ([]++d):=.CB E;obtain⟨rfl,W⟩|⟨g,a,L,rfl,ad,y,_⟩:=E.2
  .omega
  .refine⟨_,w',j,k,⟨_,_,_,R⟩,rz ?_⟩
   have A:↑w'=w.1.size+1:=by
    have q:=run_append_nil (P:=P) w t r e i z C hi F l m c d (by rw[o];exact p) B aA (by simp only[maxLen]at D;omega) (by grind);rw[j]at q;simp only[Result.ok.injEq]at q;rw[q.2];simp
   have af:=(fO y)
   exact⟨kn,J,A⟩
 .by_cases K:n+m<=a
  .have ai:n*s+M d=(n+m)*s:=by rw[p,eJ]
   have ah:(n+m)*s<=a*s:=cY _ K
   have aa:∀k<M d,(Z w ⟨g,b+n*i.3+k,X⟩).isSome=pw:=λk A=>by
    have:b+n*i.3+k<qd L:=by rw[o];omega
    simp[Z,y,bL this]
   have j:=run_append_room_cells (P:=P) w t r e i C hi g b n a l m c d (by rw[o];exact p) B Q K aa (λk _=>zg y _);rw[o]at j;let⟨W,k1,k2,k3,k4⟩:=nW d (b+n*s) y;refine⟨_,_,j,⟨by rw[aN,h.1,p,eJ],rz ⟨g,b,a,W,R,k1,K,ab,by rw[k2];exact ac,λk af A=>?_⟩⟩,⟨_,_,_,R⟩,rr ⟨R,(gY g d _ w).1,(gY g d _ w).2⟩⟩
   .by_cases ad:k<M xs
    .rw[bI ad]at A;rw[k3 (b+k) (rr (by rw[<-h.1];omega))];exact hc k af A
    .rw[bF aA]at A;have ag:=(aJ.1 A).1;have ak:=h.1
     grind
  .let⟨f,w',j,h2,h3,h4,h5,h6⟩:=ae ⟨g,b,X⟩ a xs h.1 (λA W k=>by
    have:=h.cell R A W k;unfold Addr.add
    grind) aA
   grind
end
end
open Go.ChangeMaps (setBlock)
open Go.MapKept (heap_set)
section
variable {k j:Nat}{v:po}
abbrev AL:=List (Nat×po)
def jB(m:AL)(k:Nat):Option po:=(m.find? (λp=>p.1 == k)).map Prod.snd
def qp(m:AL)(k:Nat)(v:po):AL:=if k∈m.map p9 then m.map (λp=>if p.1=k then(k,v)else p)else m++[(k,v)]
def kQ(m:AL)(k:Nat):AL:=m.filter (λp=>p.1 != k)
def entryOf(q:qaL)(e:Z3)(p:Nat×po):=e.1=.int q p.1/\e.2=p.2
inductive kJ(q:qaL):List Z3->AL->Prop
 |nil:kJ q [] []
 |cons {e:Z3} {p:Nat×po} {es:List Z3} {m:AL}:entryOf q e p->kJ q es m->kJ q (e::es) (p::m)
def jh(w:pn)(B:Nat)(q:qaL)(m:AL):=
 ∃a b,w.1[B]? =N (.map a b)/\kJ q a.1 m/\ww (m.map p9)/\ww (a.1.map (·.3))/\∀e∈a.1,e.3<b
def kJ.length{q}:∀{a m},kJ q a m->M a=M m
 |_,_,.nil=>R
 |_,_,.cons _ h=>by simp[h.length]
def kJ.append{q}:∀{b c m d},kJ q b m->kJ q c d->kJ q (b++c) (m++d)
 |_,_,_,_,.nil,h'=>h'
 |_,_,_,_,.cons a h,h'=>.cons a (h.append h')
def kJ.mem{q}:∀{b m e},kJ q b m->e∈b->∃p,p∈m/\entryOf q e p
 |_,_,_,.nil,h=>by simp at h
 |_,_,_,.cons a hr,h=>by
  obtain rfl|h:=bM.1 h
  .grind
  .let⟨p,a,c⟩:=hr.mem h
   grind
def kJ.mem'{q}:∀{b m p},kJ q b m->p∈m->∃e,e∈b/\entryOf q e p
 |_,_,_,.nil,h=>by simp at h
 |_,_,_,.cons a hr,h=>by
  obtain rfl|h:=bM.1 h
  .grind
  .let⟨p,a,c⟩:=hr.mem' h
   grind
def mF{q}(k):∀{b m}(i),kJ q b m->
  (k∉m.map p9/\ZH (.int q) (.int q k) b i=N X/\jB m k=X/\kQ m k=m)\/
  ∃j v,ZH (.int q) (.int q k) b i=N (N (i+j,v))/\m[j]? =N (k,v)/\jB m k=N v
 |_,_,i,.nil=>rr ⟨aC,R,R,R⟩
 |_,_,i,.cons (e:=e) (p:=p) (es:=b) (m:=m) a hr=>by
  obtain⟨g,r⟩:=p;obtain⟨d,f⟩:=a;simp only at d f;by_cases n:g=k
  .subst n;refine rz ⟨0,r,?_,aC,by simp[jB]⟩;simp[ZH,Instr.sameNow,d,f]
  .have o:((k:Int) == (g:Int))=pi:=Zc aA;have p:Instr.sameNow (.int q) (.int q (k:Int)) e.1=N pi:=by rw[d];simp[Instr.sameNow,o]
   obtain⟨h,a,c,l⟩|⟨j,v,h,a,c⟩:=mF k (i+1) hr
   .refine rr ⟨?_,?_,?_,?_⟩
    .grind
    .unfold ZH;rw[p];exact a
    .unfold jB at c⊢
     grind
    .unfold kQ at l⊢
     grind
   .refine rz ⟨j+1,v,?_,nj,?_⟩
    .unfold ZH;grind
    .unfold jB at c⊢
     grind
def kJ.set{q}:∀{b m}(j f),kJ q b m->(∀e,entryOf q (f e) (k,v))->kJ q (b.modify j f) (m.set j (k,v))
 |_,_,j,f,.nil,hf=>by simpa using kJ.nil
 |_,_,0,f,.cons a hr,hf=>by simpa using kJ.cons (hf _) hr
 |_,_,j+1,f,.cons a hr,hf=>by simpa using kJ.cons a (hr.set j f hf)
def Mz{m b}(g:ww (m.map p9))(a:m[j]? =N (k,v)):m.set j (k,b)=qp m k b:=by
 have f:k∈m.map p9:=bB.2 ⟨_,aS a,R⟩;unfold qp;rw[Zb f];refine qba (λi=>?_);rw[List.getElem?_set,cT];let⟨q,o⟩:=aJ.1 a;by_cases d:j=i
 .grind
 .rw[Za d];cases c:m[i]? with
  |none=>rfl
  |some p=>
   have:p.1≠k:=λe=>by
    let⟨n,l⟩:=aJ.1 c;have h:List.Pairwise (·≠·) (m.map p9):=g;rw[dX]at h
    grind
   simp[this]
def xX{m:AL}(d:ww (m.map p9))(a:m[j]? =N (k,v)):List.eraseIdx m j=kQ m k:=by
 induction m generalizing j with
 |nil=>simp at a
 |cons p m ih=>
  have c:=dY.1 (by simpa using d:(p.1::m.map p9).Nodup);cases j with
  |zero=>
   simp at a;subst a
   have:kQ m k=m:=eK.2 (λx b=>by
    grind)
   unfold kQ at this⊢
   grind
  |succ j=>
   have b:m[j]? =N (k,v):=nj
   have f:p.1≠k:=λe=>c.1 (bB.2 ⟨_,aS b,e.symm⟩);have:=ih c.2 b;unfold kQ at this⊢
   grind
def kJ.erase{q}:∀{b m}(j),kJ q b m->kJ q (List.eraseIdx b j) (List.eraseIdx m j)
 |_,_,j,.nil=>by simpa using kJ.nil
 |_,_,0,.cons a hr=>by simpa using hr
 |_,_,j+1,.cons a hr=>by simpa using kJ.cons a (hr.erase j)
def Ao{m}(a:ww (m.map p9)):ww ((qp m k v).map p9):=by
 unfold qp
 grind
def pY{m}(a:ww (m.map p9)):ww ((kQ m k).map p9):=by
 unfold kQ
 grind
section
variable {P:th}{w:pn}{B:Nat}{q:qaL}{m:AL}{t kt e:wj}
def kT{a k}(b:P.underlying kt=N (.int q)):(Instr.checkKey a 10000 kt (.int q k)).run P w=.ok () w:=by refine MapKept.run_checkKey b ?_ a _;simp[MapKept.IsKey]
def lS{es r}(a:P.underlying kt=N (.int q))(h:ZH (.int q) (.int q k) es 0=N r):(Instr.findKey kt (.int q k) es).run P w=.ok r w:=by simp[Instr.findKey,vh a,wi,h]
def jh.lookup(h:jh w B q m)(g:P.underlying t=N (.map kt e))(a:P.underlying kt=N (.int q)){z:po}(l:(zeroValue e).run P w=.ok z w)(k:Nat)(ok:Bool):
  (Instr.lookup t (.map (N B)) (.int q k) ok).run P w=.ok (if ok then sh #[(jB m k).getD z,.bool (jB m k).isSome]else(jB m k).getD z) w:=by
 obtain⟨o,n,f,i,_⟩:=h;obtain⟨c,d,b,_⟩|⟨j,v,c,d,b⟩:=mF k 0 i
 .rw[b];cases ok<;>simp[Instr.lookup,vh g,yi f,kT a,lS a d,l,wi]
 .rw[b];cases ok<;>simp[Instr.lookup,vh g,yi f,kT a,lS a c,wi]
def mH{o a}(c:w.1[B]? =N o):ss w (setBlock w B a) (N B)/\(setBlock w B a).1.size=w.1.size:=
 ⟨⟨R,R,R,by simp[setBlock],λi _ d=>(heap_set c).2 i (λb=>d (by rw[b]))⟩,by simp[setBlock]⟩
def jh.update(h:jh w B q m)(A:P.underlying t=N (.map kt e))(o:P.underlying kt=N (.int q))(k:Nat)(v):∃p,(qaB t (.map (N B)) (.int q k) v).run P w=.ok () p/\jh p B q (qp m k v)/\ss w p (N B)/\↑p=w.1.size:=by
 obtain⟨d,r,b,g,s,H,I⟩:=h;obtain⟨n,f,C,_⟩|⟨j,G,n,f,C⟩:=mF k 0 g
 .refine⟨setBlock w B (.map (d.push ⟨.int q k,v,r⟩) (r+1)),?_,⟨_,_,(heap_set b).1,?_,Ao s,?_,?_⟩,mH b⟩
  .simp[qaB,vh A,yi b,kT o,lS o f,Yg _ b,wi,setBlock]
  .rw[Array.toList_push];unfold qp;rw[Za n];exact g.append (.cons ⟨R,R⟩ .nil)
  .grind
  grind
 .rw[cX]at n;have z:j<M d.1:=by rw[g.length];exact(aJ.1 f).1
  have J:j<qd d:=by simpa using z
  obtain⟨c,y⟩:∃c,d.1[j]? =N c:=⟨_,aK z⟩
  have E:c.1=.int q k:=by
   have:∀{l:List Z3}{u:AL}(i:Nat),kJ q l u->l[i]? =N c->u[i]? =N (k,G)->c.1=.int q k:=by
    intro l u i F
    induction F generalizing i with
    |nil=>intro h;simp at h
    |cons a hr ih=>
     cases i with
     |zero=>intro h x;simp at h x;subst h;subst x;exact a.1
     |succ i=>grind
   exact this j g y f
  have D:d[j]? =N c:=by simpa using y
  refine⟨setBlock w B (.map (d.modify j λe=>{ e with key:=.int q k,val:=v }) r),?_,⟨_,_,(heap_set b).1,?_,Ao s,?_,?_⟩,mH b⟩
  .have a:(qaR (.int q (k:Int)) (.int q (k:Int))).run P w=.ok (.int q (k:Int)) w:=by simp[qaR,Instr.sameBits]
   simp[qaB,vh A,yi b,kT o,lS o n,Yg _ b,wi,setBlock,D,E,a]
  .rw[Array.toList_modify,<-Mz s f];exact g.set j _ (λ_=>⟨R,R⟩)
  .rw[Array.toList_modify]
   have:∀(l:List Z3)(i:Nat),(l.modify i λe=>{ e with key:=.int q k,val:=v }).map (·.3)=l.map (·.3):=by
    intro l
    induction l with
    |nil=>intro i;simp
    |cons a l ih=>grind
   grind
  .intro x F;rw[Array.toList_modify]at F
   have:∀(l:List Z3)(i:Nat),x∈(l.modify i λe=>{ e with key:=.int q k,val:=v })->∃u,u∈l/\u.3=x.3:=by
    intro l
    induction l with
    |nil=>intro i h;simp at h
    |cons a l ih=>grind
   grind
def oM(es:Array Z3)(j)(a:j<qd es):(Y4 es j).1=List.eraseIdx es.1 j:=by simp
def jh.delete(h:jh w B q m)(o:P.underlying t=N (.map kt e))(f:P.underlying kt=N (.int q))(k:Nat)(x):∃g,(YG #[t,kt] x #[.map (N B),.int q k]).run P w=.ok (sh #[]) g/\jh g B q (kQ m k)/\ss w g (N B)/\↑g=w.1.size:=by
 obtain⟨b,p,a,d,l,u,v⟩:=h;obtain⟨i,c,r,s⟩|⟨j,y,i,c,r⟩:=mF k 0 d
 .refine⟨_,?_,⟨_,_,(heap_set a).1,by rw[s];exact d,pY l,u,v⟩,mH a⟩;simp[YG,vh o,yi a,kT f,lS f c,Yg _ a,wi,setBlock]
 .rw[cX]at i
  have n:j<qd b:=by
   have:j<M b.1:=by rw[d.length];exact(aJ.1 c).1
   exact ir
  refine⟨setBlock w B (.map (Y4 b j) p),?_,⟨_,_,(heap_set a).1,?_,pY l,?_,?_⟩,mH a⟩
  .simp[YG,vh o,yi a,kT f,lS f i,Yg _ a,wi,setBlock]
  .rw[oM b j n,<-xX l c];exact d.erase j
  .rw[oM b j n]
   grind
  grind
def jh.len(h:jh w B q m)(d:P.underlying t=N (.map kt e))(f):(YP #[t] f #[.map (N B)]).run P w=.ok (goInt (M m)) w:=by
 obtain⟨a,g,b,c,_⟩:=h;have:qd a=M m:=by rw[<-c.length];simp
 simp[YP,vh d,yi b,wi,this]
def jh.len_nil(a:P.underlying t=N (.map kt e))(b):(YP #[t] b #[.map X]).run P w=.ok (goInt 0) w:=by simp[YP,vh a,wi]
def jh.lt(h:jh w B q m):B<w.1.size:=by
 obtain⟨b,a,c,_⟩:=h
 grind
def jh.of_block{w'}(h:jh w B q m)(c:w'.1[B]? =w.1[B]?):jh w' B q m:=by obtain⟨b,a,d,r⟩:=h;exact⟨b,a,oy c d,r⟩
def jh.made(w q):jh (o6 w (.map #[] 0)) w.1.size q []:=⟨#[],0,(MapKept.heap_alloc w _).1,.nil,aC,aC,aC⟩
end
end
section
variable {es:List Z3}{x y:Z3}
def iE(w:pn)(B r:Nat)(q:qaL)(m:AL)(L:Nat->Bool)(cnt:Nat):=
 ∃es b a c d,w.1[B]? =N (.map es b)/\kJ q es.1 m/\ww (m.map p9)/\ww (es.1.map (·.3))/\(∀e∈es.1,e.3<b)/\
  w.1[r]? =N (.mapIter (N B) a c d)/\(∀e∈es.1,e.3<a)/\a<=d/\a<=b/\qd (leftOf es c)=cnt/\
  (∀e k,e∈es.1->e.1=.int q (k:Nat)->L k=!c.contains e.3)/\∀k,L k=pw->k∈m.map p9
section
variable {P:th}{w:pn}{B r:Nat}{q:qaL}{m:AL}{L:Nat->Bool}{cnt:Nat}{t kt e:wj}
def iE.OT(h:iE w B r q m L cnt):jh w B q m:=by obtain⟨es,a,j,i,g,b,c,d,e,f,_⟩:=h;exact⟨es,a,b,c,d,e,f⟩
def iE.lt(h:iE w B r q m L cnt):r<↑w:=by
 obtain⟨es,b,k,j,a,c,d,e,f,g,i,_⟩:=h
 grind
def iE.ne(h:iE w B r q m L cnt):r≠B:=by
 obtain⟨es,b,k,j,a,c,d,e,f,g,i,_⟩:=h
 grind
def iE.AE{w'}(h:iE w B r q m L cnt)(k:w'.1[B]? =w.1[B]?)(l:w'.1[r]? =w.1[r]?):iE w' B r q m L cnt:=by obtain⟨es,b,o,n,a,c,d,e,f,g,i,j⟩:=h;exact⟨es,b,o,n,a,oy k c,d,e,f,g,oy l i,j⟩
def jh.range(h:jh w B q m)(l:P.underlying t=N (.map kt e)):∃b,(Instr.range t (.map (N B))).run P w=.ok (pm (N ⟨↑w,0,X⟩)) b/\iE b B ↑w q m (λk=>decide (k∈m.map p9)) (M m)/\ss w b X/\↑b=w.1.size+1:=by
 have i:=h.lt;obtain⟨es,a,d,c,j,g,f⟩:=h;refine⟨_,run_range_map w t kt e B es a l d,⟨es,a,a,_,a,oy ((MapKept.heap_alloc w _).2 B i) d,c,j,g,f,(MapKept.heap_alloc w _).1,f,fI,fI,?_,?_,?_⟩,World.grownBy_alloc w _ X,aC⟩
 .simp[leftOf,<-c.length]
 .intro x k n r;let⟨u,s,o,p⟩:=c.mem n
  grind
 simp
def kJ.key_inj{m}(h:kJ q es m)(f:ww (m.map p9))(g:x∈es)(o:y∈es)(k:x.1=y.1):x=y:=by
 induction h with
 |nil=>simp at g
 |cons a hr ih=>
  rename_i b p c j;have l:=dY.1 (by simpa using f:(p.1::j.map p9).Nodup)
  have far:∀z∈c,z.1=b.1->False:=λz i e=>by
   obtain⟨r,n,d,_⟩:=hr.mem i;rw[e,a.1]at d
   grind
  grind
def kJ.jB{m}(h:kJ q es m)(c:ww (m.map p9)){p}(hp:p∈m):Hm.jB m p.1=N p.2:=by
 obtain⟨e,_⟩|⟨l,v,_,a,b⟩:=mF p.1 0 h
 .grind
 .rw[b];have j:=aS a;obtain⟨k,f,rfl⟩:=List.getElem_of_mem hp;let⟨i,g⟩:=aJ.1 a;have d:List.Pairwise (·≠·) (m.map p9):=c;rw[dX]at d
  grind
def L1(c:ww (es.map (·.3)))(b:x∈es)(d:y∈es)(h:x.3=y.3):x=y:=by
 induction es with
 |nil=>simp at b
 |cons a l ih=>
  grind
def iE.next(h:iE w B r q m L cnt)(u):(cnt=0/\(∀k,L k=pi)/\(Instr.next (pm (N ⟨r,0,X⟩)) pi u).run P w=.ok (sh #[rh pi]) w)\/∃(k:Nat)(v:po)(d:pn)(A:Nat),L k=pw/\(k,v)∈m/\Hm.jB m k=N v/\(Instr.next (pm (N ⟨r,0,X⟩)) pi u).run P w=.ok (sh #[rh pw,.int q k,v]) d/\iE d B r q m (λx=>L x&&x != k) A/\A<cnt/\ss w d (N r)/\↑d=w.1.size/\(Instr.entry (pm (N ⟨r,0,X⟩))).run P d=.ok (sh #[.int q k,v]) d:=by
 have Y:=h.ne;obtain⟨es,a,c,b,z,D,e,o,n,W,O,hold,ab,Q,rfl,H,I⟩:=h;obtain⟨C,i⟩|⟨x,S,w1,g,i⟩:=run_next_at (P:=P) w u r B c z b es a O D hold ab
 .refine rr ⟨C,λk=>?_,i⟩;cases f:L k
  .rfl
  .obtain⟨s,l,rfl⟩:=bB.1 (I k f);let⟨y,j,p,t⟩:=e.mem' l;rw[H y s.1 j p,all_seen es b C y j]at f;cases f
 .let⟨l,ad⟩:=mem_left S;let⟨t,J,p,K⟩:=e.mem l;have aa:w1.1[r]? =N (.mapIter (N B) c b z):=by rcases g with rfl|rfl<;>exact O
  have V:w1.1[B]? =N (.map es a):=by rcases g with rfl|rfl<;>exact D
  have j:=heap_set (o':=.mapIter (N B) c (b.push x.3) a) aa;have E:(setBlock w1 r (.mapIter (N B) c (b.push x.3) a)).1[B]? =N (.map es a):=oy (j.2 B (λG=>Y G.symm)) V;rw[p,K]at i;have F:=run_entry_at (P:=P) _ r B c b es a x j.1 E l n;rw[p,K]at F
  refine rz ⟨_,_,_,_,by grind,J,e.jB o J,i,
   ⟨es,a,c,_,a,E,e,o,n,W,j.1,hold,Q,Q,R,λy k s f=>?_,λk f=>I k (by simp at f;exact f.1)⟩,left_shrinks es b x S,?_,?_,F⟩
  .show(L k&&k != t.1)=_
   rw[H y k s f,contains_push]
   have:(k != t.1)=!(y.3 == x.3):=by
    by_cases G:k=t.1
    .have:=e.key_inj o s l (by rw[f,p,G])
     grind
    .have:y.3≠x.3:=λT=>G (by
      have:=L1 n s l T
      grind)
     grind
   grind
  .rcases g with rfl|rfl<;>exact⟨R,R,R,by simp[setBlock],λac _ T=>j.2 ac (λG=>T (by rw[G]))⟩
  .rcases g with rfl|rfl<;>simp[setBlock]
def Aw(a b):qd (leftOf a b)=M (a.1.filter λe=>!b.contains e.3):=by unfold leftOf;rw[<-Array.toList_filter,Array.length_toList]
def iE.delete(h:iE w B r q m L cnt)(G:P.underlying t=N (.map kt e))(i:P.underlying kt=N (.int q))(k:Nat)(ty):∃l v,(YG #[t,kt] ty #[.map (N B),.int q k]).run P w=.ok (sh #[]) l/\iE l B r q (kQ m k) (λx=>L x&&x != k) v/\v<=cnt/\ss w l (N B)/\↑l=w.1.size:=by
 have z:=h.ne;obtain⟨es,d,I,H,u,a,g,p,O,Q,C,hold,D,F,rfl,V,W⟩:=h;obtain⟨n,f,J,K⟩|⟨j,v0,n,f,J⟩:=mF k 0 g
 .have b:=heap_set (o':=.map es d) a;refine⟨_,_,?_,⟨es,d,I,H,u,b.1,by rw[K];exact g,pY p,O,Q,oy (b.2 r z) C,hold,D,F,R,λy o s c=>?_,λo c=>?_⟩,fI,mH a⟩
  .simp[YG,vh G,yi a,kT i,lS i f,Yg _ a,wi,setBlock]
  .grind
  grind
 .rw[cX]at n;have S:j<M es.1:=by rw[g.length];exact(aJ.1 f).1
  have T:j<qd es:=by simpa using S
  have E:=heap_set (o':=.map (Y4 es j) d) a;have aa:=List.eraseIdx_sublist es.1 j;have o:=oM es j T;have x:kJ q (Y4 es j).1 (kQ m k):=by rw[o,<-xX p f];exact g.erase j
  refine⟨_,_,?_,⟨_,d,I,H,u,E.1,x,pY p,?_,?_,oy (E.2 r z) C,?_,D,F,R,λy c s b=>?_,λc b=>?_⟩,?_,mH a⟩
  .simp[YG,vh G,yi a,kT i,lS i n,Yg _ a,wi,setBlock]
  .grind
  .grind
  .grind
  .show(L c&&c != k)=_
   have ab:=s;rw[o]at s;rw[V y c (aa.subset s) b]
   have:c≠k:=λe1=>by
    obtain⟨ac,Y,A,_⟩:=x.mem ab;rw[b]at A;simp only[Value.int.injEq,true_and]at A;have:=(dD.1 Y).2
    grind
   simp[this]
  .simp only[bN,bne_iff_ne,ne_eq]at b;obtain⟨Y,A,rfl⟩:=bB.1 (W c b.1);exact bB.2 ⟨Y,dD.2 ⟨A,by simp[b.2]⟩,R⟩
  .rw[Aw,Aw,o]
   grind
end
section
variable {P:th}(w:pn){ops:Array OF}{rest:List OF}{o:OF}{a:Act}{Q:qaC->Act->pn->Prop}
def pM(f:o.6=X)(x y:ZT)(t kt:wj)(i:o.2=Op.call { callee:=Callee.builtin Builtin.delete,args:=#[x,y],argTypes:=#[t,kt] })(e:wj)(q:qaL)(l:P.underlying t=N (.map kt e))(g:P.underlying kt=N (.int q))(B r:Nat)(m:AL)(L:Nat->Bool)(cnt k:Nat)(n:p7 a x=.map (N B))(p:p7 a y=.int q k)(h:iE w B r q m L cnt)(hK:∀b c,iE b B r q (kQ m k) (λx=>L x&&x != k) c->c<=cnt->ss w b (N B)->↑b=w.1.size->wpList P ops Q rest (a.put o.1 (sh #[])) b):wpList P ops Q (o::rest) a w:=by
 refine Z5 f λA d=>?_;let⟨b,c,j,s,u,v,z⟩:=h.delete l g k o.3;unfold Oper.wp;simp[rj,i,resolve,invoke,builtin,n,p,j,wi];exact d _ _ (hK b c s u v z)
def sH(d:o.6=X)(x:ZT)(t:wj)(f:o.2=Op.range t x)(kt e:wj)(q:qaL)(i:P.underlying t=N (.map kt e))(B:Nat)(m:AL)(j:p7 a x=.map (N B))(h:jh w B q m)(hK:∀b,iE b B ↑w q m (λk=>decide (k∈m.map p9)) (M m)->ss w b X->↑b=w.1.size+1->wpList P ops Q rest (a.put o.1 (pm (N ⟨↑w,0,X⟩))) b):wpList P ops Q (o::rest) a w:=by
 refine Z5 d λr c=>?_;let⟨b,g,l,n,p⟩:=h.range (P:=P) i;unfold Oper.wp;simp[rj,f,j,g,wi];exact c _ _ (hK b l n p)
def rB(D:o.6=X)(i:ZT)(g:o.2=Op.next i pi)(B r:Nat)(q:qaL)(m:AL)(L:Nat->Bool)(cnt:Nat)(f:p7 a i=pm (N ⟨r,0,X⟩))(h:iE w B r q m L cnt)(A:cnt=0->(∀k,L k=pi)->wpList P ops Q rest (a.put o.1 (sh #[rh pi])) w)(C:∀(k:Nat)(v:po)(b:pn)(c:Nat),L k=pw->(k,v)∈m->jB m k=N v->iE b B r q m (λx=>L x&&x != k) c->c<cnt->ss w b (N r)->↑b=w.1.size->(Instr.entry (pm (N ⟨r,0,X⟩))).run P b=.ok (sh #[.int q k,v]) b->wpList P ops Q rest (a.put o.1 (sh #[rh pw,.int q k,v])) b):wpList P ops Q (o::rest) a w:=by
 refine Z5 D λF e=>?_;unfold Oper.wp;obtain⟨j,E,d⟩|⟨k,v,b,c,l,n,p,d,s,t,u,y,z⟩:=h.next (P:=P) o.3
 .simp[rj,g,f,d,wi];exact e _ _ (A j E)
 .simp[rj,g,f,d,wi];exact e _ _ (C k v b c l n p s t u y z)
end
end
section
variable {g d b j:Nat}
structure fT(Zn:Nat->Prop)(w w':pn):Prop where
 os:w'.4=w.4
 tape:w'.2=w.2
 output:w'.5=w.5
 size:↑w<=w'.1.size
 block:∀k<w.1.size,¬Zn k->w'.1[k]? =w.1[k]?
section
variable {Zn M':Nat->Prop}{w w' w'':pn}
def fT.refl(Zn w):fT Zn w w:=⟨R,R,R,fI,λ_ _ _=>R⟩
def fT.trans(h:fT Zn w w')(a:fT M' w' w'')(d:∀k<w.1.size,M' k->Zn k):fT Zn w w'':=
 ⟨oy a.1 h.1,oy a.2 h.2,oy a.3 h.3,aX h.4 a.4,λk b c=>oy (a.5 k (aL b h.4) (λe=>c (d k b e))) (h.5 k b c)⟩
def fT.mono(h:fT Zn w w')(b:∀k<w.1.size,Zn k->M' k):fT M' w w':=⟨h.1,h.2,h.3,h.4,λk a c=>h.5 k a (λe=>c (b k a e))⟩
def fT.fF{n}(h:Below n w w')(b:w.1.size<=n)(Zn):fT Zn w w':=⟨h.1,h.2,h.3,h.4,λk a _=>h.5 k aA⟩
def fT.Dt(h:fT (λ_=>False) w w'):Below ↑w w w':=⟨h.1,h.2,h.3,h.4,λk a=>h.5 k a (λe=>e)⟩
def fT.grown{r}(h:ss w w' r):fT (λk=>r=N k) w w':=⟨h.1,h.2,h.3,h.4,λk a b=>h.5 k a (λe=>b e.symm)⟩
def fT.alloc(Zn w o):fT Zn w (o6 w o):=.fF (pb (wl w.1.size w) fI o) fI Zn
def fT.set(w b i v):fT (λk=>k=b) w (o3 w ⟨b,i,X⟩ v):=⟨R,R,R,aC,λk _ a=>Below.heap_setCell _ _ _ _ a⟩
def fT.drew(Zn w):fT Zn w w.drew:=⟨R,R,R,fI,λ_ _ _=>R⟩
end
def Rd(w:pn)(s:Nat)(v:po)(n:Nat)(xs:List po):=
 M xs=n*s/\∃a b,v=U a n b/\n<=b/\(0<n->∃g d,a=N ⟨g,d,X⟩/\g<w.1.size/\∀j u,xs[j]? =N u->Z w ⟨g,d+j,X⟩=N u)
section
variable {w w':pn}{e s:Nat}{v:po}{n:Nat}{xs:List po}
def Rd.slice(h:Rd w s v n xs):∃a b,v=.slice a n b:=by obtain⟨_,a,b,c,_⟩:=h;exact⟨a,b,c⟩
def Rd.pos(h:Rd w s v n xs)(c:0<n):∃g d b,v=U (N ⟨g,d,X⟩) n b/\n<=b/\g<w.1.size/\∀j u,xs[j]? =N u->Z w ⟨g,d+j,X⟩=N u:=by
 obtain⟨_,a,b,f,hc,e⟩:=h
 grind
def Rd.kept(h:Rd w s v n xs)(o:↑w<=w'.1.size)(k:0<n->∀g,ov v=N g->g<w.1.size->w'.1[g]? =w.1[g]?):Rd w' s v n xs:=by obtain⟨e,a,b,rfl,hc,l⟩:=h;refine⟨e,a,b,R,hc,λc=>?_⟩;obtain⟨g,d,rfl,f,m⟩:=l c;refine⟨g,d,R,aA,λj u i=>?_⟩;rw[World.cell?_of_block (a:=⟨g,d+j,X⟩) (k c g R f)];exact m j u i
def Rd.fF(h:Rd w s v n xs)(a:Below ↑w w w'):Rd w' s v n xs:=h.kept a.4 (λ_ g _ b=>a.5 g b)
def Rd.nil(w s a b):Rd w s (U a 0 b) 0 []:=⟨aC,a,b,R,bU _,λh=>aA⟩
def fM.rd(h:fM w e s v n xs):Rd w s v n xs:=by
 refine⟨h.1,?_⟩;obtain⟨rfl,rfl⟩|⟨g,d,b,k,rfl,a,f,_,_,i⟩:=h.2
 .simp
 .refine⟨_,b,R,f,λ_=>⟨g,d,R,(fO a),λj u c=>?_⟩⟩;have:=i j u c;simp[Z,a,this]
def fM.gE{Zn}(h:fM w e s v n xs)(c:fT Zn w w')(b:∀g,ov v=N g->¬Zn g):fM w' e s v n xs:=h.kept (λg a=>c.5 g (h.lt a) (b g a))
def fM.fF(h:fM w e s v n xs)(a:Below ↑w w w'):fM w' e s v n xs:=h.kept (λg b=>a.5 g (h.lt b))
end
section
variable {α:Type}(f:α->List po)(s:Nat)(hf:∀x,M (f x)=s)
include hf
def flat_get:∀(l:List α)(j i x),l[j]? =N x->i<s->(l.flatMap f)[j*s+i]? =(f x)[i]?
 |[],j,i,x,h,_=>by simp at h
 |y::l,0,i,x,h,hi=>by
  grind
 |y::l,j+1,i,x,h,hi=>by
  rw[dQ,bF (by grind),hf,<-flat_get l j i x jx hi]
  grind
def jm:∀l:List α,M (l.flatMap f)=M l*s
 |[]=>aC
 |y::l=>by rw[dQ,aN,hf,jm l,aP,eJ];omega
def Rd.rec{w l}(h:Rd w s (U (N ⟨g,d,X⟩) (M l) b) (M l) (l.flatMap f)){x}(a:l[j]? =N x){i u}(e:i<s)(k:(f x)[i]? =N u):Z w ⟨g,d+(j*s+i),X⟩=N u:=by have p:=(aJ.1 a).1;obtain⟨o,q,n,c,_,_,m⟩:=h.pos aA;simp only[ry,aI,zs,and_true,true_and]at c;obtain⟨⟨rfl,rfl⟩,rfl⟩:=c;exact m _ _ (by rw[flat_get f s hf l j i x a e];exact k)
end
def jC(v:po)(g:Nat)(w w':pn):=(ov v=N g/\ss w w' (N g)/\↑w'=w.1.size)\/(g=w.1.size/\ss w w' X/\↑w'=w.1.size+1)
def jC.gE{v w w'}(h:jC v g w w'):fT (λk=>ov v=N k) w w':=by
 obtain⟨e,a,_⟩|⟨_,a,_⟩:=h
 .rw[<-e]at a;exact .grown a
 .exact(fT.grown a).mono (λk _ e=>by simp at e)
def jC.own{v w w'}(h:jC v g w w'):ov v=N g\/w.1.size<=g:=by
 obtain⟨e,_⟩|⟨e,_⟩:=h
 .exact rr e
 omega
def jC.keep{e s n a:Nat}{v xs w w' cs}{t:Nat}{b}(h:jC v g w w')(f:fM w e s v n xs)(c:w.1[a]? =N (pj cs t b))(j:t≠e):w'.1[a]? =N (pj cs t b):=by
 refine oy (h.gE.5 a (fO c) (λd=>?_)) c;let⟨i,hc⟩:=f.obj d
 grind
section
variable {P:th}(w:pn){ops:Array OF}{rest:List OF}{o:OF}{a:Act}{Q:qaC->Act->pn->Prop}
def fX(D:o.6=X)(s x:ZT)(t:wj)(I:o.2=.call { callee:=.builtin .append,args:=#[s,x],argTypes:=#[t,t] })(e:wj)(i:qaH)(z:po)(size bytes:Nat)(V:P.underlying t=N (.slice e))(E:P.info? e=N i)(Y:i.8=N z)(S:i.3=size)(B:i.4=bytes)(aa:qd z.cells=size)(T:0<size)(v:po)(n:Nat)(xs:List po)(O:p7 a s=v)(J:fM w e size v n xs)(ad:zm)(m c:Nat)(f:List po)(W:p7 a x=U (N ad) m c)(G:0<m)(F:M f=m*size)(H:∀j u,f[j]? =N u->Z w (ad.add j)=N u)(q:∀u∈f,sw u=pw)(A:n+m<=maxLen)(C:(n+m)*bytes<=140737488355328)(h:∀g d b w',fM w' e size (U (N ⟨g,d,X⟩) (n+m) b) (n+m) (xs++f)->jC v g w w'->wpList P ops Q rest (a.put o.1 (U (N ⟨g,d,X⟩) (n+m) b)) w'):wpList P ops Q (o::rest) a w:=by
 refine Z5 D λK hK=>?_;obtain⟨v',w',L,r,⟨g,d,b,rfl⟩,y⟩:=J.append (P:=P) t o.3 i z bytes V E Y S B aa T ad m c f G F H q A C;unfold Oper.wp rj;simp only[I,resolve,invoke,builtin,Sem.run_bind,qaZ,Result.andThen_ok,dC,cL,dB,O,W,L];refine hK _ _ (h g d b w' r ?_);obtain⟨k,l,p⟩|⟨k,l,p⟩:=y
 .have j:ov v=N g:=k.symm;exact rr ⟨j,by rw[<-j];exact l,p⟩
 .exact lx
end
end
end Go.Proofs.YtpibpdpedjinhaaGreatDoor.Hm
namespace Go.Proofs.YtpibpdpedjinhaaGreatDoor.Sq
def piece:List UInt8->Option (List UInt8×Nat)
 |[]=>X
 |c::r=>
  if pf c<128 then(if pf c+1<=M r then N (r.take (pf c+1),pf c+2)else X)
  else if pf c=128 then X
  else match r with
   |[]=>X
   |b::_=>N (List.replicate (257-pf c) b,2)
def spread:Nat->List UInt8->Int->List UInt8->List UInt8×Bool
 |0,_,_,out=>(out,pw)
 |f+1,s,most,out=>
  if s=[]then(out,pw)else
  match piece s with
  |none=>(out,pi)
  |some (t,n)=>if max most 0<(M out:Int)+M t then(out++t.take (vv (max most 0)-M out),pi)else spread f (s.drop n) most (out++t)
def yg(f a out):spread f [] a out=(out,pw):=by
 cases f<;>simp[spread]
def vG(f s b out)(c:0<M s)(d:M s<=f)(hp:piece s=X):spread f s b out=(out,pi):=by
 obtain⟨a,rfl⟩:∃a,f=a+1:=⟨f-1,aA⟩
 rw[spread,Za (by grind),hp]
def nL(f s a out t n)(c:0<M s)(d:M s<=f)(hp:piece s=N (t,n)):
  spread f s a out=if max a 0<(M out:Int)+M t then(out++t.take (vv (max a 0)-M out),pi)else spread (f-1) (s.drop n) a (out++t):=by
 obtain⟨b,rfl⟩:∃b,f=b+1:=⟨f-1,aA⟩
 rw[spread,Za (by grind),hp];rfl
def yh(s t n)(h:piece s=N (t,n)):2<=n/\n<=M s/\1<=M t/\M t<=128:=by
 cases s with
 |nil=>simp[piece]at h
 |cons c r=>
  simp only[piece]at h;have hc:=xi c
  grind
end Go.Proofs.YtpibpdpedjinhaaGreatDoor.Sq
namespace Go.Proofs.YtpibpdpedjinhaaGreatDoor.Im
variable {l:List Nat}{n:Nat}
structure It where
 list:Bool
 bytes:List UInt8
 kids:List It
variable {i:It}
def wt:Nat->It->Nat
 |0,_=>0
 |n+1,i=>M i.2+1+(i.3.map (wt n)).sum
def Si{x}(h:x∈l):x<=l.sum:=by
 induction l with
 |nil=>cases h
 |cons a l ih=>
  grind
def CL{k}(h:k∈i.3):wt n k+1<=wt (n+1) i:=by have:wt n k∈i.3.map (wt n):=bB.2 ⟨k,h,R⟩;have:=Si this;simp only[wt];omega
def Pi(h:∀x∈l,1<=x):M l<=l.sum:=by
 induction l with
 |nil=>simp
 |cons a l ih=>
  have b:=h a (bY ..)
  grind
def dp:Nat->It->Prop
 |0,_=>False
 |n+1,i=>∀k∈i.3,dp n k
def SV(h:dp n i):1<=wt n i:=by
 cases n with
 |zero=>cases h
 |succ n=>simp only[wt];omega
def sG(h:dp n i):M i.3+M i.2+1<=wt n i:=by
 cases n with
 |zero=>cases h
 |succ n=>
  have:=Pi (l:=i.3.map (wt n)) (λx b=>by
   obtain⟨k,a,rfl⟩:=bB.1 b;exact SV (h k a))
  rw[aV]at this;simp only[wt];omega
def num:Nat->Nat->List UInt8
 |0,_=>[]
 |f+1,n=>if n=0 then []else num f (n/256)++[uc (n%256)]
def wid(n:Nat):Nat:=if n=0 then 0 else if n<256 then 1 else if n<65536 then 2 else if n<16777216 then 3 else 4
def rU(f):num f 0=[]:=by cases f<;>simp[num]
def CT(n)(a:n≠0)(h:n<4294967296):wid n=wid (n/256)+1:=by
 unfold wid
 grind
def rE(n):wid n<=4/\wid n<=n:=by
 unfold wid
 grind
def vV:∀(f n),n<4294967296->wid n<=f->M (num f n)=wid n
 |0,n,_,h=>by simp[num];omega
 |f+1,n,hn,h=>by
  rw[num];split
  .rename_i e;subst e;simp[wid]
  .rename_i e;have:=CT n e hn;rw[aN,vV f (n/256) aA aA];simp;omega
def oC:∀(f n),n<4294967296->wid n<=f->num f n=num (wid n) n
 |0,n,_,h=>by
  grind
 |f+1,n,hn,h=>by
  by_cases e:n=0
  .subst e;rw[rU,rU]
  .have hw:=CT n e hn;rw[hw,num,num,Za e,Za e,oC f (n/256) aA aA]
def head(a n:Nat):List UInt8:=if n<=55 then [uc (a+n)]else uc (a+55+wid n)::num 4 n
def begun(a:Nat)(s:List UInt8):List UInt8:=head a (M s)++s
def bare(b:List UInt8):Bool:=match b with|[x]=>decide (pf x<128)|_=>pi
def sc(b:List UInt8):List UInt8:=if bare b then b else begun 128 b
def cat(f:It->Option (List UInt8)):List It->Option (List UInt8)
 |[]=>N []
 |k::r=>match f k with
  |none=>X
  |some c=>match cat f r with
   |none=>X
   |some s=>N (c++s)
def code:Nat->It->Option (List UInt8)
 |0,i=>if i.1=pw then X else if tk i.3 then N (sc i.2)else X
 |d+1,i=>if i.1=pw then(if tk i.2 then(match cat (code d) i.3 with|none=>X|some s=>N (begun 192 s))else X)else if tk i.3 then N (sc i.2)else X
def Nv(a n)(h:n<4294967296):M (head a n)=if n<=55 then 1 else 1+wid n:=by
 unfold head;split
 .rfl
 .rw[aP,vV 4 n h (rE n).1];omega
def wu(a n)(h:n<4294967296):1<=M (head a n)/\M (head a n)<=5:=by have:=rE n;rw[Nv a n h];split<;>omega
def EB(f g):∀(l s),(∀k c,k∈l->f k=N c->g k=N c)->cat f l=N s->cat g l=N s
 |[],s,_,h=>h
 |k::r,s,hk,h=>by
  rw[cat]at h;cases a:f k with
  |none=>rw[a]at h;simp at h
  |some c=>
   rw[a]at h;cases hc:cat f r with
   |none=>rw[hc]at h;simp at h
   |some t=>
    rw[hc]at h;rw[cat,hk k c (bY ..) a];simp only;rw[EB f g r t (λx c b=>hk x c (bK _ b)) hc];exact h
def G6:∀(d i c),code d i=N c->code (d+1) i=N c
 |0,i,c,h=>by
  simp only[code]at h⊢
  grind
 |d+1,i,c,h=>by
  rw[code]at h⊢;split at h
  .rename_i e;rw[Zb e];split at h
   .rename_i a;rw[Zb a];cases hc:cat (code d) i.3 with
    |none=>rw[hc]at h;simp at h
    |some s=>
     rw[hc]at h;rw[EB (code d) (code (d+1)) i.3 s (λk c _=>G6 d k c) hc];exact h
   .simp at h
  grind
def Bq(i c):∀e d,code d i=N c->code (d+e) i=N c
 |0,_,h=>h
 |e+1,d,h=>G6 (d+e) i c (Bq i c e d h)
def Tc(b)(h:M b<=2097152):M (sc b)<=M b+5:=by
 unfold sc begun;split
 .omega
 .rw[aN];have:=wu 128 (M b) aA;omega
def CH(f g):∀(l s),(∀k c,k∈l->f k=N c->M c<=6*g k)->cat f l=N s->M s<=6*(l.map g).sum
 |[],s,_,h=>by simp[cat]at h;subst h;simp
 |k::r,s,hk,h=>by
  rw[cat]at h;cases a:f k with
  |none=>rw[a]at h;simp at h
  |some c=>
   rw[a]at h;cases hc:cat f r with
   |none=>rw[hc]at h;simp at h
   |some t=>
    rw[hc]at h;simp only[aI]at h;subst h;have d:=hk k c (bY ..) a;have e:=CH f g r t (λx c b=>hk x c (bK _ b)) hc
    grind
def zq:∀(n d i c),dp n i->wt n i<=2097152->code d i=N c->M c<=6*wt n i
 |0,_,_,_,h,_,_=>by cases h
 |n+1,d,i,c,h,hw,hc=>by
  have a:=sG h
  have str:(if tk i.3 then N (sc i.2)else X)=N c->M c<=6*wt (n+1) i:=by
   intro h;split at h
   .simp only[aI]at h;subst h;have:=Tc i.2 aA;omega
   .simp at h
  cases d with
  |zero=>
   simp only[code]at hc
   grind
  |succ d=>
   simp only[code]at hc;split at hc
   .split at hc
    .cases b:cat (code d) i.3 with
     |none=>grind
     |some s=>
      rw[b]at hc;simp only[aI]at hc;subst hc
      have f:=CH _ (wt n) _ s (λk c a hc=>by
       have:=CL (n:=n) a;exact zq n d k c (h k a) aA hc) b
      have e:(i.3.map (wt n)).sum<=wt (n+1) i:=by simp only[wt];omega
      have:=wu 192 (M s) aA;unfold begun;rw[aN];simp only[wt]at hw e⊢;omega
    .simp at hc
   .exact str hc
def B2{d l s}(h:dp (n+1) i)(hw:wt (n+1) i<=2097152)(b:∀k∈l,k∈i.3)(e:(l.map (wt n)).sum<=wt (n+1) i)(hc:cat (code d) l=N s):M s<=12582912:=by
 have:=CH _ (wt n) l s (λk c a hc=>by
  have:=CL (n:=n) (b k a);exact zq n d k c (h k (b k a)) aA hc) hc
 omega
def Ld(f l k):cat f (l++[k])=(match cat f l with|none=>X|some s=>match f k with|none=>X|some c=>N (s++c)):=by
 induction l with
 |nil=>
  simp only[cA,cat];cases f k<;>simp
 |cons x l ih=>
  rw[bX,cat,cat,ih];cases f x with
  |none=>rfl
  |some c=>
   grind
def Dq(f l k s)(h:cat f l=N s):cat f (l++[k])=(f k).map (λc=>s++c):=by rw[Ld,h];cases f k<;>rfl
def tM(d i)(a:i.1=pw)(b:tk i.2=pw):code (d+1) i=(cat (code d) i.3).map (begun 192):=by
 simp only[code]
 grind
def NQ(f l k r)(h:f k=X):cat f (l++k::r)=X:=by
 induction l with
 |nil=>simp only[cA,cat,h]
 |cons x l ih=>
  rw[bX,cat,ih];cases f x<;>rfl
def val:List UInt8->Nat->Nat
 |[],a=>a
 |x::r,a=>val r (256*a+pf x)
def val_append:∀(a b n),val (a++b) n=val b (val a n)
 |[],_,_=>R
 |x::a,b,n=>by simp only[bX,val];exact val_append a b _
def GL:∀(k n),n<256 ^ k->val (num k n) 0=n
 |0,n,h=>by simp at h;subst h;rfl
 |k+1,n,h=>by
  rw[num];split
  .rename_i e;subst e;rfl
  .rw[val_append,GL k (n/256) aA];simp only[val];have:pf (uc (n%256))=n%256:=by simp
   rw[this];omega
def LY(n)(h:n<4294967296):n<256 ^ wid n:=by
 unfold wid
 grind
def Pp(n)(h:n<4294967296):val (num 4 n) 0=n:=by rw[oC 4 n h (rE n).1];exact GL _ n (LY n h)
def Ng(n)(a:n≠0)(h:n<4294967296):∃x r,num 4 n=x::r/\x≠0:=by
 have c:∀(k n:Nat),n≠0->n<256 ^ k->∃x r,num k n=x::r/\x≠0:=by
  intro k
  induction k with
  |zero=>omega
  |succ k ih=>
   intro n a h;rw[num,Za a];by_cases e:n/256=0
   .rw[e,rU];refine⟨_,[],R,λb=>?_⟩;have:=Zf pf b;simp at this;omega
   .let⟨x,r,b,d⟩:=ih _ e aA
    grind
 rw[oC 4 n h (rE n).1];exact c _ n a (LY n h)
def Qf:∀(e),M e<=4->(∀x r,e=x::r->x≠0)->e≠[]->num 4 (val e 0)=e/\wid (val e 0)=M e/\val e 0<4294967296:=by
 intro e r f s;have t:∀x:UInt8,uc (pf x)=x:=λx=>aC
 have lt:∀x:UInt8,pf x<256:=λx=>xi x;have g:∀x:UInt8,x≠0->pf x≠0:=λx h i=>h (fC.1 i)
 match e,r with
 |[a],_=>
  have b:=g a (f a _ R);have:=lt a;simp only[val,Nat.mul_zero,cX];have w:wid (pf a)=1:=by unfold wid;rw[Za b,Zb this]
  refine⟨?_,w,aA⟩;rw[oC 4 _ aA aA,w];simp[num,b,Nat.mod_eq_of_lt this]
 |[a,b],_=>
  have k:=g a (f a _ R);have:=lt a;have:=lt b;simp only[val,Nat.mul_zero,cX];have w:wid (256*pf a+pf b)=2:=by unfold wid;rw[Za aA,Za aA,Zb aA]
  refine⟨?_,w,aA⟩;rw[oC 4 _ aA aA,w];have c:(256*pf a+pf b)/256=pf a:=aA
  have d:(256*pf a+pf b)%256=pf b:=aA
  have j:pf a%256=pf a:=aA
  rw[num,Za aA,c,d,num,Za k,j,num];simp
 |[a,b,c],_=>
  have n:=g a (f a _ R);have:=lt a;have:=lt b;have:=lt c;simp only[val,Nat.mul_zero,cX];have w:wid (256*(256*pf a+pf b)+pf c)=3:=by unfold wid;rw[Za aA,Za aA,Za aA,Zb aA]
  refine⟨?_,w,aA⟩;rw[oC 4 _ aA aA,w];have d:(256*(256*pf a+pf b)+pf c)/256=256*pf a+pf b:=aA
  have j:(256*(256*pf a+pf b)+pf c)%256=pf c:=aA
  have k:(256*pf a+pf b)/256=pf a:=aA
  have l:(256*pf a+pf b)%256=pf b:=aA
  have m:pf a%256=pf a:=aA
  rw[num,Za aA,d,j,num,Za aA,k,l,num,Za n,m,num];simp
 |[a,b,c,d],_=>
  have q:=g a (f a _ R);have:=lt a;have:=lt b;have:=lt c;have:=lt d;simp only[val,Nat.mul_zero,cX];have w:wid (256*(256*(256*pf a+pf b)+pf c)+pf d)=4:=by unfold wid;rw[Za aA,Za aA,Za aA,Za aA]
  refine⟨?_,w,aA⟩;have j:(256*(256*(256*pf a+pf b)+pf c)+pf d)/256=256*(256*pf a+pf b)+pf c:=aA
  have k:(256*(256*(256*pf a+pf b)+pf c)+pf d)%256=pf d:=aA
  have l:(256*(256*pf a+pf b)+pf c)/256=256*pf a+pf b:=aA
  have m:(256*(256*pf a+pf b)+pf c)%256=pf c:=aA
  have n:(256*pf a+pf b)/256=pf a:=aA
  have o:(256*pf a+pf b)%256=pf b:=aA
  have p:pf a%256=pf a:=aA
  rw[num,Za aA,j,k,num,Za aA,l,m,num,Za aA,n,o,num,Za q,p,num];simp
def chk(l:Bool)(s:List UInt8)(a n:Nat):Option (Bool×Nat×Nat):=
 if M s-a<n then X else if l=pi/\n=1/\pf (ur s a 0)<128 then X else N (l,a,a+n)
def far(l:Bool)(s:List UInt8)(a:Nat):Option (Bool×Nat×Nat):=
 if M s<a\/ur s 1 0=0 then X else if val ((s.take a).drop 1) 0<=55 then X else chk l s a (val ((s.take a).drop 1) 0)
def body(s:List UInt8):Option (Bool×Nat×Nat):=
 match s with
 |[]=>X
 |c::_=>
  if pf c<128 then N (pi,0,1)
  else if pf c<=183 then chk pi s 1 (pf c-128)
  else if pf c<=187 then far pi s (1+(pf c-183))
  else if pf c<192 then X
  else if pf c<=247 then chk pw s 1 (pf c-192)
  else if pf c<=251 then far pw s (1+(pf c-247))
  else X
def xO(l b rest)(d:M b<4294967296)(g:l=pi->bare b=pi):
  body (begun (if l=pw then 192 else 128) b++rest)=N (l,M (head (if l=pw then 192 else 128) (M b)),M (head (if l=pw then 192 else 128) (M b))+M b):=by
 unfold begun head;by_cases c:M b<=55
 .rw[Zb c]
  have a:∀x:UInt8,chk l ([x]++b++rest) 1 (M b)=N (l,1,1+M b):=by
   intro x;unfold chk;rw[Za aC,Za];rintro⟨rfl,e,f⟩
   match b,e with
   |[y],_=>have:=g R;simp[bare]at this;simp at f;omega
  cases l with
  |true=>
   have e:pf (uc (192+M b))=192+M b:=aD
   have:=a (uc (192+M b));simp only[if_true,bX,cA,body,e,aP,bH]at this⊢
   grind
  |false=>
   have e:pf (uc (128+M b))=128+M b:=aD
   have:=a (uc (128+M b));simp only[bE,if_false,bX,cA,body,e,aP,bH]at this⊢
   grind
 .rw[Za c];have hw:=rE (M b)
  have h:1<=wid (M b):=by
   unfold wid
   repeat' split
   all_goals omega
  have a:=vV 4 _ d hw.1;let⟨y,r,i,j⟩:=Ng _ aA d;have f:=Pp _ d
  have wI:∀x:UInt8,far l (x::num 4 (M b)++b++rest) (1+wid (M b))=N (l,1+wid (M b),1+wid (M b)+M b):=by
   intro x
   have e:((x::num 4 (M b)++b++rest).take (1+wid (M b))).drop 1=num 4 (M b):=by
    rw[qaI,bX,bX,Z0,List.drop_succ_cons,List.drop_zero,cZ,<-a,List.take_left]
   unfold far;rw[e,f,Za,Za c]
   .unfold chk;rw[Za (by simp[a];omega),Za aA]
   .grind
  cases l with
  |true=>
   have e:pf (uc (192+55+wid (M b)))=192+55+wid (M b):=aD
   have:=wI (uc (192+55+wid (M b)));simp only[if_true,bX,body,e,aP,a]at this⊢
   grind
  |false=>
   have e:pf (uc (128+55+wid (M b)))=128+55+wid (M b):=aD
   have:=wI (uc (128+55+wid (M b)));simp only[bE,if_false,bX,body,e,aP,a]at this⊢
   grind
def IV(x rest)(h:pf x<128):body (x::rest)=N (pi,0,1):=by simp[body,h]
def sT{l s f x}(h:chk l s f n=N x):x=(l,f,f+n)/\n<=M s-f/\(l=pi->n=1->128<=pf (ur s f 0)):=by
 unfold chk at h
 grind
def AU(s l f t)(h:body s=N (l,f,t)):f<=t/\t<=M s/\1<=t/\(l=pi->s.take t=sc ((s.take t).drop f))/\(l=pw->s.take t=begun 192 ((s.take t).drop f)):=by
 cases s with
 |nil=>simp[body]at h
 |cons c r=>
  have hc:=xi c;have p:∀n,n=pf c->uc n=c:=λn e=>oe
  have L:∀(d:Bool)(a:Nat),(a=if d=pw then 192 else 128)->a<=pf c->pf c<=a+55->chk d (c::r) 1 (pf c-a)=N (l,f,t)->f<=t/\t<=M (c::r)/\1<=t/\(l=pi->(c::r).take t=sc (((c::r).take t).drop f))/\(l=pw->(c::r).take t=begun 192 (((c::r).take t).drop f)):=by
   intro d a j A B u;let⟨m,v,x⟩:=sT u;simp only[bR]at m;obtain⟨rfl,rfl,rfl⟩:=m;simp only[aP,Nat.add_sub_cancel]at v;have g:(c::r).take (1+(pf c-a))=c::r.take (pf c-a):=by rw[qaI,Z0]
   have o:((c::r).take (1+(pf c-a))).drop 1=r.take (pf c-a):=by rw[g];rfl
   have k:M (r.take (pf c-a))=pf c-a:=aD
   have C:begun a (r.take (pf c-a))=c::r.take (pf c-a):=by
    unfold begun head;rw[k,Zb aA,p _ aA];rfl
   refine⟨aA,aD,aA,λe=>?_,λe=>?_⟩
   .subst e;rw[o,g];simp only[bE,if_false]at j;subst j;unfold sc
    have D:bare (r.take (pf c-128))=pi:=by
     cases b:r.take (pf c-128)with
     |nil=>rfl
     |cons y q=>
      cases q with
      |cons z q=>rfl
      |nil=>
       have i:pf c-128=1:=by rw[<-k,b];rfl
       have:=x R i;rw[i]at b;cases r with
       |nil=>simp at b
       |cons w r=>
        simp at b;subst b;simp at this;simp[bare];omega
    grind
   .grind
  have K:∀(d:Bool)(a:Nat),(a=if d=pw then 192 else 128)->a+55<pf c->pf c<=a+59->far d (c::r) (1+(pf c-(a+55)))=N (l,f,t)->f<=t/\t<=M (c::r)/\1<=t/\(l=pi->(c::r).take t=sc (((c::r).take t).drop f))/\(l=pw->(c::r).take t=begun 192 (((c::r).take t).drop f)):=by
   intro d a m H I b;obtain⟨k,D⟩:∃k,pf c-(a+55)=k:=⟨_,R⟩
   rw[D]at b;unfold far at b;split at b
   .simp at b
   .rename_i C;simp only[not_or,Nat.not_lt,aP]at C;split at b
    .simp at b
    .rename_i j;have v:((c::r).take (1+k)).drop 1=r.take k:=by rw[qaI,Z0];rfl
     rw[v]at b j;obtain⟨o,F,_⟩:=sT b;simp only[bR]at o;obtain⟨rfl,rfl,rfl⟩:=o;have g:M (r.take k)=k:=aD
     let⟨x,A,G⟩:=Qf (r.take k) aA (λO q e=>by
      cases r with
      |nil=>simp at g;omega
      |cons w r=>
       grind) (by grind)
     generalize J:val (r.take k) 0=n at *;simp only[aP]at F
     have i:(c::r).take (1+k+n)=c::(r.take k++(r.drop k).take n):=by
      rw[show 1+k+n=(k+n)+1 from by omega,Z0,List.take_add]
     have u:((c::r).take (1+k+n)).drop (1+k)=(r.drop k).take n:=by
      rw[i,qaI 1 k,List.drop_succ_cons,List.drop_left' g]
     have E:M ((r.drop k).take n)=n:=aD
     have B:begun a ((r.drop k).take n)=c::(r.take k++(r.drop k).take n):=by
      unfold begun head;rw[E,Za j,x,A,g,p _ aA];rfl
     refine⟨aA,aD,aA,λe=>?_,λe=>?_⟩
     .subst e;rw[u,i];simp only[bE,if_false]at m;subst m;unfold sc;rw[Za,B];intro c;cases w:(r.drop k).take n with
      |nil=>grind
      |cons y q=>
       cases q with
       |nil=>grind
       |cons z q=>rw[w]at c;simp[bare]at c
     grind
  simp only[body]at h;split at h
  .simp only[aI,bR]at h;obtain⟨rfl,rfl,rfl⟩:=h;rename_i b;refine⟨aA,aC,aA,λ_=>?_,λe=>by cases e⟩;simp[sc,bare,b]
  grind
def many(g:List UInt8->Option (It×Nat)):Nat->List UInt8->Option (List It)
 |0,s=>if s=[]then N []else X
 |f+1,s=>if s=[]then N []else match g s with
  |none=>X
  |some (i,n)=>(many g f (s.drop n)).map (λl=>i::l)
def read(b:List UInt8->Option (Bool×Nat×Nat)):Nat->List UInt8->Option (It×Nat)
 |0,s=>match b s with
  |some (pi,f,t)=>N (⟨pi,(s.take t).drop f,[]⟩,t)
  |_=>X
 |d+1,s=>match b s with
  |none=>X
  |some (pi,f,t)=>N (⟨pi,(s.take t).drop f,[]⟩,t)
  |some (pw,f,t)=>(many (read b d) (M s) ((s.take t).drop f)).map (λl=>(⟨pw,[],l⟩,t))
def DD(g f):many g f []=N []:=by cases f<;>simp[many]
def Ek(g h):∀(l s f),cat h l=N s->M s<=f->(∀k c rest,k∈l->h k=N c->M c<=M s->g (c++rest)=N (k,M c)/\1<=M c)->many g f s=N l
 |[],s,f,hc,_,_=>by
  simp only[cat,aI]at hc;subst hc;exact DD g f
 |k::l,s,f,hc,hf,hg=>by
  rw[cat]at hc;cases a:h k with
  |none=>grind
  |some c=>
   rw[a]at hc;cases d:cat h l with
   |none=>grind
   |some t=>
    rw[d]at hc;simp only[aI]at hc;subst hc;rw[aN]at hf;let⟨e,j⟩:=hg k c t (bY ..) a aC;obtain⟨b,rfl⟩:∃b,f=b+1:=⟨f-1,aA⟩
    rw[many,Za (by grind),e];simp only[List.drop_left];rw[Ek g h l t b d aA (λk c rest a i m=>hg k c rest (bK _ a) i (by grind))];rfl
def Bn(b)(h:∀s x,body s=N x->b s=N x):∀(d i c rest),code d i=N c->M c<4294967296->read b d (c++rest)=N (i,M c)/\1<=M c:=by
 have str:∀(d:Nat)(i:It)(c rest:List UInt8),i.1=pi->code d i=N c->M c<4294967296->read b d (c++rest)=N (i,M c)/\1<=M c:=by
  intro d i c rest m hc e
  have k:i.3=[]/\sc i.2=c:=by
   cases d<;>simp only[code,m,bE,if_false]at hc<;>split at hc<;>simp at hc<;>rename_i j<;>exact⟨by simpa using j,hc⟩
  obtain⟨j,rfl⟩:=k;have l:i=⟨pi,i.2,[]⟩:=by obtain⟨u,r,t⟩:=i;simp_all
  have q:∃f,body (sc i.2++rest)=N (pi,f,M (sc i.2))/\(sc i.2).drop f=i.2/\1<=M (sc i.2):=by
   unfold sc at e⊢;cases a:bare i.2 with
   |true=>
    rw[Zb R]
    match hq:i.2,a with
    |[x],a=>exact⟨0,by rw[List.singleton_append];exact IV x rest (by simpa[bare]using a),R,aC⟩
   |false=>
    rw[a]at e;simp only[bE,if_false]at e⊢;have g:M i.2<4294967296:=by unfold begun at e;rw[aN]at e;omega
    have:=xO pi _ rest g (λ_=>a);simp only[bE,if_false]at this;have s:=wu 128 _ g;refine⟨_,by rw[this];unfold begun;rw[aN],?_,?_⟩
    .unfold begun;rw[List.drop_left]
    .unfold begun;grind
  obtain⟨f,n,o,p⟩:=q;refine⟨?_,p⟩
  have:read b d (sc i.2++rest)=N (⟨pi,((sc i.2++rest).take (M (sc i.2))).drop f,[]⟩,M (sc i.2)):=by
   cases d<;>simp only[read]<;>rw[h _ _ n]
  rw[this,List.take_left,o,<-l]
 intro d
 induction d with
 |zero=>
  intro i c rest hc e;cases a:i.1 with
  |false=>exact str 0 i c rest a hc e
  |true=>simp[code,a]at hc
 |succ d ih=>
  intro i c rest hc g;cases e:i.1 with
  |false=>exact str _ i c rest e hc g
  |true=>
   have a:tk i.2=pw:=by
    cases a:tk i.2 with
    |true=>rfl
    |false=>simp[code,e,a]at hc
   rw[tM d i e a]at hc;obtain⟨s,p,rfl⟩:=aY.1 hc
   have n:i=⟨pw,[],i.3⟩:=by
    obtain⟨r,k,o⟩:=i;simp only[List.isEmpty_iff]at e a;simp[e,a]
   have l:M s<4294967296:=by unfold begun at g;rw[aN]at g;omega
   have j:=xO pw s rest l (λk=>by cases k);simp only[if_true]at j;have q:=wu 192 _ l;have f:M (begun 192 s)=M (head 192 (M s))+M s:=by unfold begun;rw[aN]
   refine⟨?_,by rw[f];omega⟩;rw[read,h _ _ j]
   have m:((begun 192 s++rest).take (M (head 192 (M s))+M s)).drop (M (head 192 (M s)))=s:=by
    rw[<-f,List.take_left];unfold begun;rw[List.drop_left]
   simp only;rw[m,Ek (read b d) (code d) i.3 s _ p (by grind) (λk c rest _ o r=>ih k c rest o aA),f,n];rfl
def AO(g h):∀(f s l),many g f s=N l->(∀a i n,M a<=M s->g a=N (i,n)->n<=M a/\h i=N (a.take n))->cat h l=N s
 |0,s,l,hm,_=>by
  simp only[many]at hm;split at hm
  .rename_i e;simp at hm;subst hm e;rfl
  .simp at hm
 |f+1,s,l,hm,hg=>by
  rw[many]at hm;split at hm
  .rename_i e;simp at hm;subst hm e;rfl
  .cases a:g s with
   |none=>grind
   |some x=>
    obtain⟨i,n⟩:=x;rw[a]at hm;simp only at hm;obtain⟨t,d,rfl⟩:=aY.1 hm;let⟨j,b⟩:=hg s i n fI a;have:=AO g h f (s.drop n) t d (λe i n k c=>hg e i n (by grind) c);rw[cat,b,this];simp
def yG:∀(d s i n),read body d s=N (i,n)->n<=M s/\1<=n/\code d i=N (s.take n)
 |d,s,i,n,h=>by
  induction d generalizing s i n with
  |zero=>
   simp only[read]at h;cases a:body s with
   |none=>rw[a]at h;simp at h
   |some x=>
    obtain⟨l,f,t⟩:=x;rw[a]at h;cases l with
    |true=>simp at h
    |false=>
     simp only[aI,bR]at h;obtain⟨rfl,rfl⟩:=h;obtain⟨g,b,c,e,_⟩:=AU s pi f t a;refine⟨b,c,?_⟩;simp[code];exact(e R).symm
  |succ d ih=>
   simp only[read]at h;cases a:body s with
   |none=>rw[a]at h;simp at h
   |some x=>
    obtain⟨l,f,t⟩:=x;rw[a]at h;let⟨m,b,c,g,o⟩:=AU s l f t a;cases l with
    |false=>
     simp only[aI,bR]at h;obtain⟨rfl,rfl⟩:=h;refine⟨b,c,?_⟩;simp[code];exact(g R).symm
    |true=>
     simp only at h;let⟨k,j,e⟩:=aY.1 h;simp only[bR]at e;obtain⟨rfl,rfl⟩:=e;have p:=AO _ (code d) _ _ k j (λq i n _ h=>by grind);refine⟨b,c,?_⟩;rw[tM d _ R R]
     grind
def rb(s:List UInt8):Option (Bool×Nat×Nat):=
 match s with
 |[]=>X
 |c::_=>
  if pf c<128 then N (pi,0,1)
  else if pf c-(if 192<=pf c then 192 else 128)<=55 then
   (if M s<1+(pf c-(if 192<=pf c then 192 else 128))then X else N (decide (192<=pf c),1,1+(pf c-(if 192<=pf c then 192 else 128))))
  else if 4<pf c-(if 192<=pf c then 192 else 128)-55\/M s<1+(pf c-(if 192<=pf c then 192 else 128)-55)then X
  else if M s<1+(pf c-(if 192<=pf c then 192 else 128)-55)+val ((s.take (1+(pf c-(if 192<=pf c then 192 else 128)-55))).drop 1) 0 then X
  else N (decide (192<=pf c),1+(pf c-(if 192<=pf c then 192 else 128)-55),1+(pf c-(if 192<=pf c then 192 else 128)-55)+val ((s.take (1+(pf c-(if 192<=pf c then 192 else 128)-55))).drop 1) 0)
def xF(s x)(h:body s=N x):rb s=N x:=by
 cases s with
 |nil=>simp[body]at h
 |cons c r=>
  have hc:=xi c;simp only[body]at h;simp only[rb]
  have n:∀(l:Bool)(a:Nat),(if 192<=pf c then 192 else 128)=a->decide (192<=pf c)=l->pf c-a<=55->chk l (c::r) 1 (pf c-a)=N x->¬pf c<128->(if pf c<128 then N (pi,0,1)
    else if pf c-(if 192<=pf c then 192 else 128)<=55 then
   (if M (c::r)<1+(pf c-(if 192<=pf c then 192 else 128))then X else N (decide (192<=pf c),1,1+(pf c-(if 192<=pf c then 192 else 128))))
  else if 4<pf c-(if 192<=pf c then 192 else 128)-55\/M (c::r)<1+(pf c-(if 192<=pf c then 192 else 128)-55)then X
  else if M (c::r)<1+(pf c-(if 192<=pf c then 192 else 128)-55)+val (((c::r).take (1+(pf c-(if 192<=pf c then 192 else 128)-55))).drop 1) 0 then X
  else N (decide (192<=pf c),1+(pf c-(if 192<=pf c then 192 else 128)-55),1+(pf c-(if 192<=pf c then 192 else 128)-55)+val (((c::r).take (1+(pf c-(if 192<=pf c then 192 else 128)-55))).drop 1) 0))=N x:=by
   intro l a b c d e f;obtain⟨g,i,_⟩:=sT e;rw[Za f,b,c,Zb d,Za (by grind),g]
  have m:∀(l:Bool)(a:Nat),(if 192<=pf c then 192 else 128)=a->decide (192<=pf c)=l->55<pf c-a->pf c-a<=59->far l (c::r) (1+(pf c-a-55))=N x->¬pf c<128->(if pf c<128 then N (pi,0,1)
    else if pf c-(if 192<=pf c then 192 else 128)<=55 then
   (if M (c::r)<1+(pf c-(if 192<=pf c then 192 else 128))then X else N (decide (192<=pf c),1,1+(pf c-(if 192<=pf c then 192 else 128))))
  else if 4<pf c-(if 192<=pf c then 192 else 128)-55\/M (c::r)<1+(pf c-(if 192<=pf c then 192 else 128)-55)then X
  else if M (c::r)<1+(pf c-(if 192<=pf c then 192 else 128)-55)+val (((c::r).take (1+(pf c-(if 192<=pf c then 192 else 128)-55))).drop 1) 0 then X
  else N (decide (192<=pf c),1+(pf c-(if 192<=pf c then 192 else 128)-55),1+(pf c-(if 192<=pf c then 192 else 128)-55)+val (((c::r).take (1+(pf c-(if 192<=pf c then 192 else 128)-55))).drop 1) 0))=N x:=by
   intro l a c d g i b e;unfold far at b;split at b
   .simp at b
   .rename_i j;split at b
    .simp at b
    .obtain⟨f,k,_⟩:=sT b;rw[Za e,c,d,Za aA,Za aA,Za aA,f]
  grind
section
variable {g:List UInt8->Option (It×Nat)}{s:List UInt8}{l:List It}{p d f t:Nat}{b:List UInt8->Option (Bool×Nat×Nat)}
inductive jN(g:List UInt8->Option (It×Nat))(s:List UInt8):List It->Nat->Prop
 |nil:jN g s [] 0
 |snoc {l:List It} {p:Nat} {i:It} {n:Nat}:jN g s l p->p<M s->g (s.drop p)=N (i,n)->jN g s (l++[i]) (p+n)
def Fair(g:List UInt8->Option (It×Nat)):=∀s i n,g s=N (i,n)->1<=n/\n<=M s
def jN.le(a:Fair g)(h:jN g s l p):p<=M s/\M l<=p:=by
 induction h with
 |nil=>simp
 |snoc h hp hgs ih=>
  have:=a _ _ _ hgs
  grind
def jN.many(h:jN g s l p):∀f,M l<=f->Im.many g f s=(Im.many g (f-M l) (s.drop p)).map (λr=>l++r):=by
 induction h with
 |nil=>intro f _;simp
 |@snoc l p i n h hp hgs ih=>
  intro f b;simp only[aN,aP,bH]at b⊢;rw[ih f aA];obtain⟨a,c⟩:∃a,f-M l=a+1:=⟨f-M l-1,aA⟩
  have d:s.drop p≠[]:=by intro e;have:=Zf M e;simp at this;omega
  rw[c,Im.many,Za d,hgs];simp only;rw[show f-(M l+(0+1))=a from by omega,dW];cases Im.many g a (s.drop (p+n))<;>simp
def jN.all(a:Fair g)(h:jN g s l p)(f)(b:M s<=f)(hp:M s<=p):Im.many g f s=N l:=by have:=h.le a;rw[h.many f aA,List.drop_of_length_le hp,DD];simp
def jN.stuck(c:Fair g)(h:jN g s l p)(f)(j:M s<=f)(hp:p<M s)(d:g (s.drop p)=X):Im.many g f s=X:=by
 have:=h.le c;rw[h.many f aA];obtain⟨a,b⟩:∃a,f-M l=a+1:=⟨f-M l-1,aA⟩
 have i:s.drop p≠[]:=by intro e;have:=Zf M e;simp at this;omega
 rw[b,Im.many,Za i,d];rfl
def AR(g):∀(f s l),Im.many g f s=N l->Fair g->∀h,(∀a i n,g a=N (i,n)->h i<=2*n)->(l.map h).sum<=2*M s
 |0,s,l,hm,_,h,_=>by
  simp only[Im.many]at hm
  grind
 |f+1,s,l,hm,hg,h,hh=>by
  rw[Im.many]at hm;split at hm
  .grind
  .cases a:g s with
   |none=>grind
   |some x=>
    obtain⟨i,n⟩:=x;rw[a]at hm;simp only at hm;obtain⟨t,b,rfl⟩:=aY.1 hm;have c:=hg s i n a;have d:=AR g f _ t b hg h hh
    grind
def DR(g):∀(f s l),Im.many g f s=N l->∀k∈l,∃d n,g d=N (k,n)
 |0,s,l,hm,k,a=>by
  simp only[Im.many]at hm
  grind
 |f+1,s,l,hm,k,a=>by
  rw[Im.many]at hm;split at hm
  .grind
  .cases b:g s with
   |none=>grind
   |some x=>
    obtain⟨i,n⟩:=x;rw[b]at hm;simp only at hm;obtain⟨t,c,rfl⟩:=aY.1 hm;obtain rfl|a:=bM.1 a
    .exact⟨s,n,b⟩
    .exact DR g f _ t c k a
def Br(g g')(a:∀s x,g s=N x->g' s=N x):∀(f s l),Im.many g f s=N l->Im.many g' f s=N l
 |0,s,l,hm=>hm
 |f+1,s,l,hm=>by
  rw[Im.many]at hm⊢;split at hm
  .grind
  .rename_i e;rw[Za e];cases b:g s with
   |none=>grind
   |some x=>
    obtain⟨i,n⟩:=x;rw[b]at hm;simp only at hm;obtain⟨t,c,rfl⟩:=aY.1 hm;rw[a s _ b];simp only;rw[Br g g' a f _ t c];rfl
def kE(b:List UInt8->Option (Bool×Nat×Nat)):Nat->List UInt8->Option (It×Nat)
 |0,_=>X
 |d+1,s=>match b s with
  |none=>X
  |some (pi,f,t)=>N (⟨pi,(s.take t).drop f,[]⟩,t)
  |some (pw,f,t)=>(many (kE b d) (M s) ((s.take t).drop f)).map (λl=>(⟨pw,[],l⟩,t))
def mD(h:b s=N (pi,f,t)):kE b (d+1) s=N (⟨pi,(s.take t).drop f,[]⟩,t):=by rw[kE,h]
def oU(h:b s=N (pw,f,t)):kE b (d+1) s=(many (kE b d) (M s) ((s.take t).drop f)).map (λl=>(⟨pw,[],l⟩,t)):=by rw[kE,h]
def mI(h:b s=X):kE b (d+1) s=X:=by rw[kE,h]
def xG(h:b s=N (pi,f,t)):read b d s=N (⟨pi,(s.take t).drop f,[]⟩,t):=by cases d<;>rw[read,h]
def AY(h:b s=N (pw,f,t)):read b (d+1) s=(many (read b d) (M s) ((s.take t).drop f)).map (λl=>(⟨pw,[],l⟩,t)):=by rw[read,h]
def wH(h:b s=N (pw,f,t)):read b 0 s=X:=by rw[read,h]
def qj(h:b s=X):read b d s=X:=by cases d<;>rw[read,h]
def rI(b):∀(d s x),read b d s=N x->kE b (d+1) s=N x:=by
 intro d
 induction d with
 |zero=>
  intro s x h;cases a:b s with
  |none=>rw[qj a]at h;simp at h
  |some y=>
   obtain⟨l,f,t⟩:=y;cases l with
   |true=>rw[wH a]at h;simp at h
   |false=>rw[xG a]at h;rw[mD a];exact h
 |succ d ih=>
  intro s x h;cases a:b s with
  |none=>rw[qj a]at h;simp at h
  |some y=>
   obtain⟨l,f,t⟩:=y;cases l with
   |false=>rw[xG a]at h;rw[mD a];exact h
   |true=>
    rw[AY a]at h;obtain⟨e,c,rfl⟩:=aY.1 h;rw[oU a,Br (read b d) (kE b (d+1)) ih _ _ _ c];rfl
def Body(b:List UInt8->Option (Bool×Nat×Nat)):=∀s l f t,b s=N (l,f,t)->f<=t/\t<=M s/\1<=t/\(l=pw->1<=f)
def mU(c:Body b)(d):Fair (kE b d):=by
 intro s i n h;cases d with
 |zero=>simp[kE]at h
 |succ d=>
  cases a:b s with
  |none=>rw[mI a]at h;simp at h
  |some y=>
   obtain⟨l,f,t⟩:=y;have:=c s l f t a;cases l with
   |false=>rw[mD a]at h;simp at h;omega
   |true=>
    rw[oU a]at h;let⟨j,e,g⟩:=aY.1 h
    grind
def oz(a:Body b)(d):Fair (read b d):=λs i n h=>mU a (d+1) s i n (rI b d s _ h)
def sC{b}(a:Body b):∀(d s i n),kE b d s=N (i,n)->dp d i/\wt d i<=2*n
 |0,s,i,n,h=>by simp[kE]at h
 |d+1,s,i,n,h=>by
  cases c:b s with
  |none=>rw[mI c]at h;simp at h
  |some y=>
   obtain⟨l,f,t⟩:=y;have o:=a s l f t c;cases l with
   |false=>
    rw[mD c]at h;simp only[aI,bR]at h;obtain⟨rfl,rfl⟩:=h;refine⟨λk e=>by simp at e,?_⟩;simp only[wt,dB,List.sum_nil,cF,bA];omega
   |true=>
    rw[oU c]at h;let⟨r,e,g⟩:=aY.1 h;simp only[bR]at g;obtain⟨rfl,rfl⟩:=g;refine⟨λk j=>?_,?_⟩
    .let⟨q,p,m⟩:=DR _ _ _ _ e k j;exact(sC a d q k p m).1
    .have:=AR _ _ _ _ e (mU a d) _ (λm i n h=>(sC a d m i n h).2);simp only[cF,bA]at this;have:=o.2.2.2 R;simp only[wt,bH];omega
def G9(a:Body b)(d s i n)(h:read b d s=N (i,n)):dp (d+1) i/\wt (d+1) i<=2*n:=sC a (d+1) s i n (rI b d s _ h)
def rP:Body rb:=by
 intro s l f t h;cases s with
 |nil=>simp[rb]at h
 |cons c r=>
  have hc:=xi c;simp only[rb]at h
  grind
def kW:Body body:=λs l f t h=>rP s l f t (xF s _ h)
def readDoc(s:List UInt8):Option (It×Nat):=
 match kE rb 10 s with
 |none=>X
 |some (i,n)=>if code 8 i=N (s.take n)then N (i,n)else X
def yY(s)(g:M s<4294967296):readDoc s=read body 8 s:=by
 cases a:read body 8 s with
 |some x=>
  obtain⟨i,n⟩:=x;let⟨e,f,b⟩:=yG 8 s i n a;have d:M (s.take n)=n:=aD
  have c:code 9 i=N (s.take n):=Bq i _ 1 8 b;have:=(Bn rb xF 9 i _ (s.drop n) c aA).1;rw[YX,d]at this;unfold readDoc;rw[rI rb 9 s _ this]
  grind
 |none=>
  unfold readDoc;cases c:kE rb 10 s with
  |none=>rfl
  |some x=>
   obtain⟨i,n⟩:=x;simp only;split
   .rename_i b;have e:=(mU rP 10 s i n c).2;have d:M (s.take n)=n:=by simp;omega
    have:=(Bn body (λ_ _ h=>h) 8 i _ (s.drop n) b aA).1;rw[YX,a]at this;simp at this
   .rfl
end
end Go.Proofs.YtpibpdpedjinhaaGreatDoor.Im
namespace Go.Proofs.YtpibpdpedjinhaaGreatDoor
namespace Im
def dec(s:List UInt8):Option It:=match read body 8 s with
 |some (i,n)=>if n=M s then N i else X
 |none=>X
end Im
end Go.Proofs.YtpibpdpedjinhaaGreatDoor
namespace Go.Proofs.YtpibpdpedjinhaaGreatDoor.Dv
open Fr (F)
section
structure Tx where
 fr:Nat
 dest:Nat
 data:List UInt8
structure Zq where
 id:Int
 time:Int
 txs:List Tx
 logs:List (List UInt8)
instance:Inhabited Zq:=⟨⟨0,0,[],[]⟩⟩
structure Cf where
 inbox:Nat
 batcher:Nat
 timeout:Int
 window:Int
 drift:Int
 step:Int
 most:Int
structure Ch where
 name:Nat
 opened:Nat
 l:List F
 spoilt:Bool
structure Ba where
 epoch:Nat
 id:Nat
 time:Nat
 txs:List (List UInt8)
 place:Nat
structure Lo where
 number:Nat
 time:Int
 epoch:Nat
 id:Int
 seq:Nat
 txs:List (List UInt8)
 deps:List (List UInt8)
 at_:Nat
instance:Inhabited Lo:=⟨⟨0,0,0,0,0,[],[],0⟩⟩
def last(l:List F):Option Nat:=(l.find? (·.4)).map (·.2)
def has(l:List F)(n:Nat):Option (List UInt8):=(l.find? (λx=>x.2 == n)).map (·.3)
def kP(l:List F):Nat->Option (List UInt8)
 |0=>N []
 |k+1=>(kP l k).bind λs=>(has l k).map λd=>s++d
def bytes(l:List F):Option (List UInt8):=(last l).bind λn=>kP l (n+1)
def size(l:List F):Nat:=(l.map λx=>M x.3).sum
def kG(c:Ch)(f:F):Bool:=(has c.3 f.2).isSome || c.4 || (match last c.3 with|some n=>f.4 || decide (n<f.2)|none=>pi)
def goes(f x:F):Bool:=f.4&&decide (f.2<x.2)
def grown(c:Ch)(f:F):List F:=(c.3++[f]).filter λx=>!goes f x
def joined(a:Int)(c:Ch)(f:F):Ch:=
 if kG c f then c
 else if a<(size (grown c f):Int)then { c with l:=[],spoilt:=pw } else { c with l:=grown c f }
def frame(a:Int)(n:Nat)(cs:List Ch)(f:F):List Ch:=
 if f.2=0 then cs.filter (λc=>c.1 != f.1)++[joined a ⟨f.1,n,[],pi⟩ f]
 else cs.map λc=>if c.1=f.1 then joined a c f else c
def jQ(c:Cf)(t:Tx):List F:=if t.2=c.1/\t.1=c.2 then(Fr.frames t.3).getD []else []
def heard(c:Cf)(a:List Tx):List F:=a.flatMap (jQ c)
def pull:List Ch->List (List UInt8)×List Ch
 |[]=>([],[])
 |c::cs=>match bytes c.3 with
  |none=>([],c::cs)
  |some s=>(s::(pull cs).1,(pull cs).2)
def value(i:Im.It):Option Nat:=
 if i.1 || decide (8<M i.2) || (i.2 != []&&ur i.2 0 0 == 0) || (M i.2 == 8&&decide (64<=pf (ur i.2 0 0)))then X
 else N (Im.val i.2 0)
def jA(l:Im.It)(e:Nat):Option Ba:=
 match l.1,l.3 with
 |true,[a,b,c,d]=>
  if d.1=pi then X else
  match value a,value b,value c with
  |some x,N y,N z=>if d.3.all (λt=>!t.1)then N ⟨x,y,z,d.3.map (·.2),e⟩else X
  |_,_,_=>X
 |_,_=>X
def kN(i:Im.It)(a:Nat):Option Ba:=
 if i.1 then X else
 match i.2 with
 |[]=>X
 |x::r=>if x=0 then(Im.dec r).bind (λl=>jA l a)else X
def rd:Nat->List UInt8->Nat->List Ba
 |0,_,_=>[]
 |f+1,s,n=>if s=[]then []else
  match Im.read Im.body 8 s with
  |none=>[]
  |some (i,k)=>match kN i n with
   |none=>[]
   |some b=>(if b.1<=n then [b]else [])++rd f (s.drop k) n
def reads(s:List UInt8)(n:Nat):List Ba:=rd (M (Sq.spread (M s) s 4096 []).1) (Sq.spread (M s) s 4096 []).1 n
def take(c:Cf)(u:Zq)(n:Nat)(cs:List Ch)(wait:List Ba):List Ch×List Ba:=
 let cs1:=cs.filter λx=>decide ((n:Int)-(x.2:Int)<=c.3)
 let cs2:=(heard c u.3).foldl (frame c.7 n) cs1
 ((pull cs2).2,wait++(pull cs2).1.flatMap (λs=>reads s n))
def isDep(s:List UInt8):Bool:=
 match Im.dec s with
 |some i=>match i.1,i.3 with
  |true,[a,b]=>!a.1&&!b.1&&decide (0<M a.2)&&decide (M a.2<9)&&decide (M b.2<65)
  |_,_=>pi
 |none=>pi
def fV(u:Zq):List (List UInt8):=u.4.filter isDep
inductive Out where
 |no
 |hold
 |got (b:Ba)
section
variable (c:Cf)(chain:List Zq)(n:Nat)
def late(e:Nat)(t:Int)(b:Ba):Bool:=decide ((b.3:Int)<t) || decide (b.1<e) || decide (e+1<b.1) || decide ((b.1:Int)+c.4<(b.5:Int))
def holds(e:Nat)(t:Int)(b:Ba):Bool:=(b.1 == e+1&&decide (n<e+1)) || (tk b.4&&b.1 == e&&decide (n<e+1)&&decide ((chain[e]!).2+c.5<t))
def wrong(e:Nat)(t:Int)(b:Ba):Bool:=decide ((b.2:Int)≠(chain[b.1]!).1) || decide (t<(chain[b.1]!).2) || (decide ((chain[b.1]!).2+c.5<t)&&(!List.isEmpty b.4 || (b.1 == e&&decide ((chain[e+1]!).2<=t))))
def sift(e:Nat)(t:Int):List Ba->Out×List Ba
 |[]=>(.no,[])
 |b::r=>
  if t<(b.3:Int)then((sift e t r).1,b::(sift e t r).2)
  else if late c e t b then sift e t r
  else if holds c chain n e t b then(.hold,b::r)
  else if wrong c chain e t b then sift e t r
  else(.got b,r)
def lay(h:Lo)(a:Nat)(b:List (List UInt8)):Lo:=
 ⟨h.1+1,h.2+c.6,a,(chain[a]!).1,if a=h.3 then h.5+1 else 0,b,if a=h.3 then []else fV (chain[a]!),n⟩
def draw(h:Lo)(wait:List Ba):Option Lo×List Ba:=
 let r:=sift c chain n h.3 (h.2+c.6) wait
 match r.1 with
 |.hold=>(X,r.2)
 |.got b=>(N (lay c chain n h b.1 b.4),r.2)
 |.no=>if (n:Int)<=h.3+c.4 then(X,r.2)else(N (lay c chain n h (if (chain[h.3+1]!).2<=h.2+c.6 then h.3+1 else h.3) []),r.2)
def draws:Nat->Lo->List Ba->List Lo×List Ba
 |0,_,wait=>([],wait)
 |f+1,h,wait=>match draw c chain n h wait with
  |(X,k)=>([],k)
  |(N x,k)=>(x::(draws f x k).1,(draws f x k).2)
end
structure St where
 chs:List Ch
 wait:List Ba
 log:List Lo
def left(chain:List Zq)(n:Nat)(h:Lo)(wait:List Ba):Nat:=M wait+(n-h.3)+vv ((chain[n]!).2-h.2)
def step(c:Cf)(chain:List Zq)(n:Nat)(s:St):St:=
 let r:=take c (chain[n]!) n s.1 s.2
 let h:=s.3.getLastD default
 let d:=draws c chain n (left chain n h r.2+1) h r.2
 ⟨r.1,d.2,s.3++d.1⟩
def first(u:Zq):Lo:=⟨0,u.2,0,u.1,0,[],fV u,0⟩
def start(chain:List Zq):St:=⟨[],[],[first (chain[0]!)]⟩
def gone(c:Cf)(chain:List Zq):Nat->St
 |0=>start chain
 |k+1=>step c chain k (gone c chain k)
def fR(c:Cf):Bool:=decide (1<=c.3/\c.3<=8/\1<=c.4/\c.4<=8/\0<=c.5/\c.5<=100/\2<=c.6/\c.6<=20/\1<=c.7/\c.7<=4096)
def small(u:Zq):Bool:=decide (M u.3<=20/\M u.4<=20)&&u.3.all (λt=>decide (M t.3<=2000))&&u.4.all (λs=>decide (M s<=2000))
def jo(a:Option Int)(u:Zq):Bool:=(match a with
 |none=>decide (0<=u.2/\u.2<=1000000)
 |some b=>decide (b<u.2/\u.2<=b+24))&&small u
def gP:Option Int->List Zq->Bool
 |_,[]=>pw
 |b,u::r=>jo b u&&gP (N u.2) r
def gB(chain:List Zq):Bool:=decide (1<=M chain/\M chain<=60)&&gP X chain
def all(c:Cf)(chain:List Zq):Int×List Lo:=
 if fR c=pi then(1,[])else if gB chain=pi then(2,[])else(0,(gone c chain (M chain)).3)
end
end Go.Proofs.YtpibpdpedjinhaaGreatDoor.Dv
namespace Go.Proofs.YtpibpdpedjinhaaGreatDoor
open Go.RowKit Go.Joins
section
variable {B:Nat}{w w':pn}
def K3(w:pn)(b o:Nat)(a c d:po):=Z w ⟨b,o,X⟩=N a/\Z w ⟨b,o+1,X⟩=N c/\Z w ⟨b,o+2,X⟩=N d
def In(B:Nat)(w:pn):Nat->po->po->po->Im.It->Prop
 |0,_,_,_,_=>False
 |n+1,c0,c1,c2,i=>c0=.bool i.1/\c1=pk ⟨py i.2⟩/\∃a g,c2=U a (M i.3) g/\(i.3≠[]->∃b f,a=N ⟨b,f,X⟩/\b<B/\∀(j:Nat)(h:j<M i.3),∃c d e,K3 w b (f+j*3) c d e/\In B w n c d e (i.3[j]))
def K3.fF{b o d e f}(h:K3 w b o d e f)(a:Below B w w')(c:b<B):K3 w' b o d e f:=
 ⟨oy (qi a (p:=⟨b,o,X⟩) c) h.1,oy (qi a (p:=⟨b,o+1,X⟩) c) h.2.1,oy (qi a (p:=⟨b,o+2,X⟩) c) h.2.2⟩
def In.fF(g:Below B w w'):∀(n a b c i),In B w n a b c i->In B w' n a b c i
 |0,_,_,_,_,h=>h
 |n+1,a,b,c,i,h=>by
  obtain⟨o,p,k,m,q,r⟩:=h;refine⟨o,p,k,m,q,λx=>?_⟩;let⟨l,A,s,j,u⟩:=r x;refine⟨l,A,s,j,λz v=>?_⟩;let⟨d,e,f,y,t⟩:=u z v;exact⟨d,e,f,y.fF g j,In.fF g n d e f _ t⟩
def In.mono{d}(r:B<=d):∀(n a b c i),In B w n a b c i->In d w n a b c i
 |0,_,_,_,_,h=>h
 |n+1,a,b,c,i,h=>by
  obtain⟨m,o,j,l,p,q⟩:=h;refine⟨m,o,j,l,p,λx=>?_⟩;let⟨k,A,s,C,u⟩:=q x;refine⟨k,A,s,aA,λz v=>?_⟩;let⟨e,f,g,y,t⟩:=u z v;exact⟨e,f,g,y,In.mono r n e f g _ t⟩
def In.dp:∀(n a b c i),In B w n a b c i->Im.dp n i
 |0,_,_,_,_,h=>h
 |n+1,a,b,c,i,h=>by
  obtain⟨t,u,q,s,v,g⟩:=h;intro k o;obtain⟨p,l,rfl⟩:=List.mem_iff_getElem.1 o;let⟨r,A,x,z,m⟩:=g (by grind);let⟨d,e,f,y,j⟩:=m p l;exact In.dp n d e f _ j
def In.shape{n c0 c d i}(h:In B w n c0 c d i):∃a b,c0=.bool i.1/\c=pk ⟨py i.2⟩/\d=.slice a (M i.3) b:=by
 cases n with
 |zero=>cases h
 |succ n=>
  obtain⟨e,f,a,b,g,_⟩:=h;exact⟨a,b,e,f,g⟩
def fG{a}(h:Below B a w)(n):Below B a (w.drewN n):=ow h ⟨R,R,R,fI,λ_ _=>R⟩
end
end Go.Proofs.YtpibpdpedjinhaaGreatDoor
namespace Go.Proofs.YtpibpdpedjinhaaGreatDoor.Hm
open Go.RowKit Go.Joins Go.Shelf
variable {i:Im.It}
def bits_or_u64_nat(a b:Nat)(e:a<18446744073709551616)(f:b<18446744073709551616):bits .or qbl (a:Int) (b:Int)=((a |||b:Nat):Int):=by
 have g:a |||b<2 ^ 64:=Nat.or_lt_two_pow aA aA
 have c:ZV (ZW 64 (a:Int))=a:=by
  exact iz
 have d:ZV (ZW 64 (b:Int))=b:=by
  exact iz
 show IntKind.u64.wrap (ZV (ZW 64 (a:Int) |||BitVec.ofInt 64 (b:Int)):Int)=_
 rw[BitVec.toNat_or,c,d,IntKind.wrap_u64];omega
def rL(s k)(a:k<M s):Im.val (s.take (k+1)) 0=256*Im.val (s.take k) 0+pf (ur s k 0):=by
 rw[cO a,Im.val_append];simp only[Im.val];rw[aT,aK a];simp
 try omega
def lX:∀(s n),Im.val s n<(n+1)*256 ^ M s
 |[],n=>by simp[Im.val]
 |x::s,n=>by
  have:=lX s (256*n+pf x);have a:=xi x;simp only[Im.val,aP,Nat.pow_succ];refine aL this ?_;rw[Nat.mul_comm (256 ^ M s) 256,<-Nat.mul_assoc];exact cY _ aA
def Lr:∀(s n),n*256 ^ M s<=Im.val s n
 |[],n=>by simp[Im.val]
 |x::s,n=>by
  have:=Lr s (256*n+pf x);simp only[Im.val,aP,Nat.pow_succ];refine aX ?_ this;rw[Nat.mul_comm (256 ^ M s) 256,<-Nat.mul_assoc];exact cY _ aA
def A5(s)(f:M s<=8):decide (4611686018427387903<Im.val s 0)=(M s == 8&&decide (64<=pf (ur s 0 0))):=by
 by_cases a:M s=8
 .cases s with
  |nil=>simp at a
  |cons x s=>
   have d:M s=7:=nj
   have b:=lX s (pf x);have c:=Lr s (pf x);rw[d]at b c;have e:Im.val (x::s) 0=Im.val s (pf x):=by simp[Im.val]
   rw[e,a];simp only[List.getD_cons_zero,beq_self_eq_true,Bool.true_and];exact decide_eq_decide.2 aA
 .have b:=lX s 0;have c:(256:Nat) ^ M s<=256 ^ 7:=eE aB aA;rw[show(M s == 8)=pi from Zc a,Bool.false_and];exact Zd aA
def Pf(o:Option Nat):po:=sh #[ox pg ((o.getD 0:Nat):Int),.bool o.isSome]
def rN(h:i.1=pw\/8<M i.2\/(i.2≠[]/\(ur i.2 0 0)=0)):Dv.value i=X:=by
 unfold Dv.value;rw[Zb];obtain h|h|⟨a,b⟩:=h
 .simp[h]
 .simp[h]
 .grind
def xJ(b:i.1=pi)(c:M i.2<=8)(a:i.2=[]\/(ur i.2 0 0)≠0):Dv.value i=if 4611686018427387903<Im.val i.2 0 then X else N (Im.val i.2 0):=by
 have d:=A5 _ c;unfold Dv.value;rw[b,<-d,Zd (show ¬8<M i.2 by omega)]
 have:(i.2 != []&&ur i.2 0 0 == 0)=pi:=by
  obtain a|a:=a
  .rw[a];rfl
  .grind
 rw[this];simp
def oO(i z w)(P:∃a n b,z=U a n b):tf PQ 176 #[we #[.bool i.1,pk ⟨py i.2⟩,z]] w λA w'=>A=qs (Pf (Dv.value i))/\Below w.1.size w w':=by
 obtain⟨J,ab,K,rfl⟩:=P;obtain⟨D,d⟩:∃D:ByteArray,(⟨py i.2⟩:ByteArray)=D:=⟨_,R⟩
 have e:D.1.1=i.2:=by rw[<-d]
 have j:ot D=M i.2:=by rw[<-d];rfl
 rw[d];obtain⟨y,a⟩:∃y,Dv.value i=y:=⟨_,R⟩
 rw[a];obtain⟨p,c⟩:∃p,i.1=p:=⟨_,R⟩
 rw[c];obtain⟨W,b,l,-⟩:=fL w #[.bool p,pk D,U J ab K] 103;have z0:Z W ⟨↑w,0,X⟩=N (.bool p):=kq
 have z1:Z W ⟨↑w,1,X⟩=N (pk D):=kq
 have H:qu _:=fE e (fE j (fE a (fE c l)));cases p
 .by_cases L:ot D<=8
  .have ad:¬(8:Int)<(ot D:Int):=by omega
   by_cases f:i.2=[]
   .have q:D=⟨#[]⟩:=by rw[<-d,f]
    have k:=xJ c aA (rr f);rw[a,f]at k;subst q;have o:qu _:=k;clear d e j a c l k f;go_enter (fq func176 R),ntmps176;go_upto_region 1 with fail;rw[<-b];clear b;have r:=λu:pn=>Z1 (P:=PQ) u 9 155 5 ⟨#[]⟩ (uq wq) (uq xy) (uq yd);go_wp2;obtain⟨Y,h⟩:∃Y:pn,Y=qaa W 5 ⟨#[]⟩:=⟨_,R⟩
    have m:Below ↑w w Y:=by rw[h];exact Fr.below_bytesWorld H.2.2.2.2 H.2.2.2.2.4 _ _
    rw[<-h];have n:qu _:=m;clear h m r;go_loopg [5,7,29] 0 (λg s _ t v=>s=ox qbl 0/\t=ox pg 0/\v=Y)
    case atStart=>simp
    case round=>
     obtain⟨rfl,rfl,rfl⟩:=hrel;go_wp2;go_ret2;refine⟨?_,n⟩;rw[o.out];rfl
   .have n:0<ot D:=by
     rw[j];exact List.length_pos_iff.2 f
    have T:tk (vz D)=pi:=by rw[Fr.gH];exact Zd aA
    obtain⟨x,o⟩:∃x:UInt8,ur i.2 0 0=x:=⟨_,R⟩
    have r:D[0]'n=x:=by
     rw[<-o,<-e,aT]
     have:D.1.1[0]? =N (D[0]'n):=by
      rw[aK (by simpa using n)];rfl
     rw[this];rfl
    by_cases m:x=0
    .have h:=rN (i:=i) (rz (rz ⟨f,by rw[o];exact m⟩));rw[a]at h;subst h;have k:((pf (D[0]'n):Int) == 0)=pw:=by rw[r,m];rfl
     clear d e j a c l o r m f;go_enter (fq func176 R),ntmps176;go_upto_region 1 with fail;rw[<-b];clear b;go_wp2;go_ret2;exact⟨R,H.2.2.2.2⟩
    .have h:=xJ c aA (rz (by rw[o];exact m));rw[a,<-e]at h
     have aa:((pf (D[0]'n):Int) == 0)=pi:=by
      rw[r];refine Zc (λA=>m ?_);have:pf x=0:=aA
      exact fC.1 (by rw[this];rfl)
     have I:qu _:=h;clear d e j a c l o r m f h;go_enter (fq func176 R),ntmps176;go_upto_region 1 with fail;rw[<-b];clear b;have Q:=λac:pn=>Z1 (P:=PQ) ac 9 155 5 D (uq wq) (uq xy) (uq yd);go_wp2;obtain⟨Y,q⟩:∃Y:pn,Y=qaa W 5 D:=⟨_,R⟩
     have C:Below ↑w w Y:=by rw[q];exact Fr.below_bytesWorld H.2.2.2.2 H.2.2.2.2.4 _ _
     have E:∀k<ot D,Z Y ⟨↑W,k,X⟩=N (ox .u8 (pf (ur D.1.1 k 0))):=λk F=>by rw[q];exact Lib.bytesWorld_cell W 5 D k F
     rw[<-q];have s:qu _:=fE E C;clear q E C Q aa T;generalize grownCap W (ot D) 0 5=gc;go_loopg [5,7,29] (ot D) (λg u _ t v=>∃k:Nat,k<=ot D/\t=ox pg k/\u=ox qbl (Im.val (D.1.1.take k) 0:Nat)/\g=ot D-k/\v=Y)
     case atStart=>exact⟨0,bU _,R,R,R,R⟩
     case round=>
      obtain⟨k,F,rfl,rfl,rfl,rfl⟩:=hrel;by_cases S:k<ot D
      .have ae:(k:Int)<ot D:=by omega
       have hc:=s.1 k aA;have v:=rL D.1.1 k (by rw[<-X6];exact S);generalize u:pf (ur D.1.1 k 0)=t at hc v;have O:t<256:=by rw[<-u];exact xi _
       have af:Im.val (D.1.1.take k) 0<72057594037927936:=by
        have h1:=lX (D.1.1.take k) 0;have h2:(256:Nat) ^ M (D.1.1.take k)<=256 ^ 7:=eE aB (by grind);omega
       generalize B:Im.val (D.1.1.take (k+1)) 0=V' at v;have G:qu _:=B;clear B;generalize Im.val (D.1.1.take k) 0=V at *;have Hb:qu _:=u;clear u;go_wp2
       rw[show bits .or qbl ((V:Int)*256) (t:Int)=V' from by
        rw[show(V:Int)*256=((V*256:Nat):Int) from by omega,bits_or_u64_nat _ _ aA aA,Fr.vZ V t O,v]]
       go_roundg (ot D-(k+1))
       case measure=>omega
       case rel=>
        refine⟨_,aA,by go_num,?_,R,R⟩;rw[G.out]
      .have O:¬(k:Int)<ot D:=by omega
       obtain rfl:k=ot D:=aA
       have h:=I.out;rw[show D.1.1.take (ot D)=D.1.1 from cK aC];have u:=lX D.1.1 0;have v:(256:Nat) ^ M D.1.1<=256 ^ 8:=eE aB (by rw[<-X6];exact L);generalize Im.val D.1.1 0=V at *;have B:V<18446744073709551616:=aA
       by_cases t:4611686018427387903<V
       .rw[Zb t]at h;have G:(4611686018427387903:Int)<(V:Int):=by omega
        subst h;clear u v;go_wp2;go_ret2;exact⟨R,s.2⟩
       .rw[Za t]at h;have G:¬(4611686018427387903:Int)<(V:Int):=by omega
        subst h;clear u v;go_wp2;go_ret2;exact⟨R,s.2⟩
  .have g:(8:Int)<(ot D:Int):=by omega
   have f:=rN (i:=i) (rz (rr aA));rw[a]at f;subst f;clear d e j a c l;go_enter (fq func176 R),ntmps176;go_upto_region 1 with fail;rw[<-b];clear b;go_wp2;go_ret2;exact⟨R,H.2.2.2.2⟩
 .have f:=rN (i:=i) (rr c);rw[a]at f;subst f;clear d e j a c l;go_enter (fq func176 R),ntmps176;go_upto_region 1 with fail;rw[<-b];clear b;go_wp2;go_ret2;exact⟨R,H.2.2.2.2⟩
open Go.RowKit Go.Joins
open Dv (Cf Zq Tx)
section
variable {w:pn}{g off cap j:Nat}{v:po}{α:Type}
def jW(n a b w):tf PQ 66 #[ox pg n,ox pg a,ox pg b] w λe f=>e=qs (rh (decide (a<=n)&&decide (n<=b)))/\f=w:=by
 obtain⟨r,d⟩:∃r,(decide (a<=n)&&decide (n<=b))=r:=⟨_,R⟩
 rw[d];have c:qu _:=d;clear d;go_enter (fq func66 R),ntmps66;by_cases g:a<=n
 .by_cases h:n<=b
  .go_wp2;go_ret;refine⟨?_,R⟩;rw[<-c.out,Ze aA,Ze aA];rfl
  .go_wp2;go_ret;refine⟨?_,R⟩;rw[<-c.out,Ze aA,Zd aA];rfl
 .go_wp2;go_ret;refine⟨?_,R⟩;rw[<-c.out,Zd aA];rfl
def fP(c:Cf):Array po:=#[ox sr c.1,ox sr c.2,ox pg c.3,ox pg c.4,ox pg c.5,ox pg c.6,ox pg c.7]
def yJ(c w):tf PQ 36 #[.agg (fP c)] w λe H=>e=qs (.bool (Dv.fR c))/\Below w.1.size w H:=by
 obtain⟨A,x,t,f,a,st,d⟩:=c;unfold fP;dsimp only;have y:Below ↑w w (o6 w (pj #[ox sr A,ox sr x,ox pg t,ox pg f,ox pg a,ox pg st,ox pg d] 24)):=pb (wl _ w) fI _;have G:qu _:=y;clear y;go_enter (fq func36 R),ntmps36;have g:=λw=>jW t 1 8 w;have h:=λw=>jW f 1 8 w;have i:=λw=>jW a 0 100 w;have j:=λw=>jW st 2 20 w;have k:=λw=>jW d 1 4096 w;obtain⟨q,l⟩:∃b,(decide (1<=t)&&decide (t<=8))=b:=⟨_,R⟩
 obtain⟨r,m⟩:∃b,(decide (1<=f)&&decide (f<=8))=b:=⟨_,R⟩
 obtain⟨s,n⟩:∃b,(decide (0<=a)&&decide (a<=100))=b:=⟨_,R⟩
 obtain⟨u,o⟩:∃b,(decide (2<=st)&&decide (st<=20))=b:=⟨_,R⟩
 obtain⟨v,p⟩:∃b,(decide (1<=d)&&decide (d<=4096))=b:=⟨_,R⟩
 have z:Dv.fR ⟨A,x,t,f,a,st,d⟩=(q&&r&&s&&u&&v):=by
  unfold Dv.fR;rw[<-l,<-m,<-n,<-o,<-p];simp only[Z2,Bool.and_assoc]
 rw[l]at g;rw[m]at h;rw[n]at i;rw[o]at j;rw[p]at k;have B:qu _:=g;have C:qu _:=h;have D:qu _:=i;have E:qu _:=j;have F:qu _:=k;rw[z];clear z l m n o p g h i j k;cases q<;>cases r<;>cases s<;>cases u<;>cases v
 all_goals
  go_wp2_with (go_at_call 66;first|(with_reducible refine se (B.out _) ?_;rintro e w2 ⟨rfl,rfl⟩)|(with_reducible refine se (C.out _) ?_;rintro e w2 ⟨rfl,rfl⟩)|(with_reducible refine se (D.out _) ?_;rintro e w2 ⟨rfl,rfl⟩)|(with_reducible refine se (E.out _) ?_;rintro e w2 ⟨rfl,rfl⟩)|(with_reducible refine se (F.out _) ?_;rintro e w2 ⟨rfl,rfl⟩)|fail)
  go_ret;exact⟨R,G⟩
def iZ(t:Tx):List po:=[ox sr t.1,ox sr t.2,pk ⟨py t.3⟩]
def jP(s:List UInt8):po:=pk ⟨py s⟩
def ny(w:pn)(v:po)(l:List Tx):=Rd w 3 v (M l) (l.flatMap iZ)
def jO(w:pn)(v:po)(l:List (List UInt8)):=Rd w 1 v (M l) (l.map jP)
def ny.get{l}(h:ny w (U (N ⟨g,off,X⟩) (M l) cap) l){t}(a:l[j]? =N t):Z w ⟨g,off+j*3,X⟩=N (ox sr t.1)/\Z w ⟨g,off+j*3+1,X⟩=N (ox sr t.2)/\Z w ⟨g,off+j*3+2,X⟩=N (pk ⟨py t.3⟩):=by
 have k:=λi u hi (b:(iZ t)[i]? =N u)=>Rd.rec iZ 3 (λ_=>R) h a hi b;exact⟨k 0 _ aA R,k 1 _ aA R,k 2 _ aA R⟩
def jO.get{l}(h:jO w (U (N ⟨g,off,X⟩) (M l) cap) l){s}(a:l[j]? =N s):Z w ⟨g,off+j,X⟩=N (pk ⟨py s⟩):=by have f:=(aJ.1 a).1;obtain⟨e,i,d,b,_,_,c⟩:=Rd.pos h aA;simp only[ry,aI,zs,and_true,true_and]at b;obtain⟨⟨rfl,rfl⟩,rfl⟩:=b;exact c j _ (by rw[cT,a];rfl)
def Rd.cases{s n xs}(h:Rd w s v n xs):(∃a cap,n=0/\v=U a 0 cap)\/(∃g off cap,0<n/\v=U (N ⟨g,off,X⟩) n cap):=by
 obtain a|a:=dL n
 .obtain⟨b,cap,rfl⟩:=h.slice;exact rr ⟨b,cap,a,by rw[a]⟩
 .obtain⟨g,off,cap,b,_⟩:=h.pos a;exact rz ⟨g,off,cap,a,b⟩
def Gm(t:Tx)(w):tf PQ 147 #[we #[ox sr t.1,ox sr t.2,pk ⟨py t.3⟩]] w λe d=>e=qs (rh (decide (2000<M t.3)))/\Below w.1.size w d:=by
 obtain⟨D,a⟩:∃D:ByteArray,(⟨py t.3⟩:ByteArray)=D:=⟨_,R⟩
 have b:ot D=M t.3:=by rw[<-a];rfl
 rw[a,<-b];have c:qu _:=λo=>pb (wl _ w) fI o;clear a b;go_enter (fq func147 R),ntmps147;go_wp2;go_ret;exact⟨by simp only[Int.ofNat_lt.symm];rfl,c _⟩
def FC(s w):tf PQ 149 #[pk ⟨py s⟩] w λe c=>e=qs (rh (decide (2000<M s)))/\Below w.1.size w c:=by
 obtain⟨D,a⟩:∃D:ByteArray,(⟨py s⟩:ByteArray)=D:=⟨_,R⟩
 have b:ot D=M s:=by rw[<-a];rfl
 rw[a,<-b];clear a b;go_enter (fq func149 R),ntmps149;go_wp2;go_ret;exact⟨by simp only[Int.ofNat_lt.symm];rfl,wl _ _⟩
def idx{α:Type}(p:α->Bool)(l:List α):Int:=match l.findIdx? p with
 |some i=>i
 |none=>-1
def wP{p:α->Bool}{l}(h:∀(j:Nat)(x),l[j]? =N x->p x=pi):idx p l=-1:=by unfold idx;rw[List.findIdx?_eq_none_iff.2 (λx b=>by let⟨j,a⟩:=List.getElem?_of_mem b;exact h j x a)]
def yA{p:α->Bool}{l}{i:Nat}{x}(a:l[i]? =N x)(c:p x=pw)(h:∀(j y),j<i->l[j]? =N y->p y=pi):idx p l=i:=by
 unfold idx;obtain⟨b,rfl⟩:=aJ.1 a
 rw[eQ.2 ⟨b,c,λj d=>by
  grind⟩]
def Hk(p:α->Bool)(l):decide (0<=idx p l)=l.any p:=by
 unfold idx;cases h:l.findIdx? p with
 |none=>
  grind
 |some i=>
  obtain⟨a,b,_⟩:=eQ.1 h;rw[Ze aC];symm;rw[List.any_eq_true];exact⟨_,qaz a,b⟩
end
end Go.Proofs.YtpibpdpedjinhaaGreatDoor.Hm
namespace Go.Proofs.YtpibpdpedjinhaaGreatDoor
open Go.RowKit Go.Joins
def iW(a b:ByteArray):(a++b).1.1=a.1.1++b.1.1:=aC
def XW{a l}(h:a.1.1=l):Ending.returned (pk a)=qs (pk ⟨py l⟩):=by subst h;rfl
def one_byte(u x):(convert 155 9 (U (N ⟨u.1.size,0,X⟩) 1 1)).run PQ (o6 u (pj #[ox .u8 x] 5))=.ok (pk ⟨#[uc (vv x)]⟩) (o6 u (pj #[ox .u8 x] 5)):=by
 have h:=run_convert_bytes_arg (P:=PQ) (o6 u (pj #[ox .u8 x] 5)) 155 5 (uq xy) (uq yd) ↑u 0 1 1 [x] R (λi a=>by
  obtain rfl:i=0:=aA
  simp) 9 (uq wq)
 exact h
def AB(u x)(m:Nat)(y)(a:x=(m:Int))(b:uc m=y):(convert 155 9 (U (N ⟨u.1.size,0,X⟩) 1 1)).run PQ (o6 u (pj #[ox .u8 x] 5))=.ok (pk ⟨#[y]⟩) (o6 u (pj #[ox .u8 x] 5)):=by have:=one_byte u x;subst a b;exact this
def mS(n:Nat)(w)(i:n<4294967296):tf PQ 216 #[ox pg n] w λh l=>h=qs (pk ⟨py (Im.num 4 n)⟩)/\Below w.1.size w l:=by
 generalize d:Im.num 4 n=E;have e:qu _:=d;clear d;have k:=(Im.rE n).1;go_enter (fq func216 R),ntmps216;go_wp2;go_loopg [0,3] n (λg t v a=>∃(m f:Nat)(s:ByteArray),t=ox pg m/\v=pk s/\g=m/\m<4294967296/\Im.wid m<=f/\ot s+f<=4/\qu (Im.num f m++s.1.1=E)/\Below w.1.size w a)
 case atStart=>exact⟨n,4,_,R,R,R,i,k,fI,by rw[qu];simpa using e.out,wl _ _⟩
 case round=>
  obtain⟨m,f,s,rfl,rfl,rfl,g,r,t,c,b⟩:=hrel;by_cases o:0<gk
  .have p:0<(gk:Int):=by omega
   have q:=one_byte wr (gk%256);have u:(ot s:Int)<=4:=aA
   go_wp2;go_roundg (gk/256)
   case measure=>omega
   case rel=>
    have v:=Im.CT gk aA g;obtain⟨a,rfl⟩:∃a,f=a+1:=⟨f-1,aA⟩
    have j:uc (vv ((gk:Int)%256))=uc (gk%256):=by
     congr 1
    refine⟨_,a,⟨#[uc (vv ((gk:Int)%256))]⟩++s,by go_num,R,R,aA,aA,?_,?_,pb b b.4 _⟩
    .have:ot ((⟨#[uc (vv ((gk:Int)%256))]⟩:ByteArray)++s)=1+ot s:=by rw[ByteArray.size_append];rfl
     omega
    .have:=c.out;rw[Im.num,Za aA]at this;rw[qu,<-this,j];simp
  .have j:¬0<(gk:Int):=by omega
   obtain rfl:gk=0:=aA
   have a:s.1.1=E:=by have:=c.out;rw[Im.rU]at this;exact this
   go_wp2;go_ret;rw[<-a];exact⟨R,b⟩
def tJ(a:Nat)(s:ByteArray)(w)(j:a=128\/a=192)(r:ot s<=16777216):tf PQ 195 #[ox pg a,pk s] w λe m=>e=qs (pk ⟨py (Im.begun a s.1.1)⟩)/\Below w.1.size w m:=by
 have b:=X6 s;have p:a<=192:=aA
 clear j;by_cases d:ot s<=55
 .have h:(ot s:Int)<=55:=by omega
  obtain⟨y,c⟩:∃y,uc (a+ot s)=y:=⟨_,R⟩
  have i:=AB w (a+ot s) _ y aA c
  have f:Im.begun a s.1.1=[y]++s.1.1:=by
   unfold Im.begun Im.head;rw[<-b,Zb d,c]
  have g:qu _:=f;clear f b c;go_enter (fq func195 R),ntmps195;go_wp2;go_ret;refine⟨?_,pb (wl _ w) fI _⟩;rw[g.out];refine XW ?_;rw[iW]
 .have n:¬(ot s:Int)<=55:=by omega
  have l:=Im.rE (ot s);have q:=Im.vV 4 _ aA l.1;obtain⟨y,c⟩:∃y,uc (a+55+Im.wid (ot s))=y:=⟨_,R⟩
  have f:Im.begun a s.1.1=[y]++Im.num 4 (ot s)++s.1.1:=by
   unfold Im.begun Im.head;rw[<-b,Za d,c];rfl
  have i:qu _:=f;have h:=λw1:pn=>AB w1 (a+55+(Im.wid (ot s))) _ y aA c;clear f b c;go_enter (fq func195 R),ntmps195;go_wp2;refine se (mS _ _ aA) ?_;rintro e w1 ⟨rfl,g⟩;generalize Im.num 4 (ot s)=Zp at *;generalize Im.wid (ot s)=k at *;have o:=h w1;clear h;go_wp2;go_ret;refine⟨?_,pb g g.4 _⟩;rw[i.out];refine XW ?_;rw[iW,iW]
def xk:Option (List UInt8)->po
 |some c=>sh #[pk ⟨py c⟩,rh pw]
 |none=>sh #[pk ⟨#[]⟩,rh pi]
def gH(s):tk (vz s)=decide (ot s=0):=by rw[qaD,X6];cases s.1.1<;>simp
def kL(u s i)(j:Nat)(a)(e:i=(j:Int)):(YJ 9 (pk s) (ox pg i)).run PQ u=.ok (ox .u8 (pf s[j]:Int)) u:=by exact nv
def Li(s:ByteArray)(a)(h:ot s=1):Im.bare s.1.1=decide (pf s[0]<128):=by
 obtain⟨⟨l⟩⟩:=s
 match l,h with
 |[x],_=>rfl
def Ns(s:ByteArray)(h:ot s≠1):Im.bare s.1.1=pi:=by
 obtain⟨⟨l⟩⟩:=s
 match l,h with
 |[],_=>rfl
 |[x],h=>exact Zl R h
 |x::y::r,_=>rfl
def KD{n i}(k):((i.3.take k).map (Im.wt n)).sum<=Im.wt (n+1) i:=by
 have h:∀(l:List Nat)(k:Nat),(l.take k).sum<=l.sum:=by
  intro l
  induction l with
  |nil=>intro k;simp
  |cons a l ih=>
   intro k;cases k with
   |zero=>simp
   |succ k=>grind
 have:=h (i.3.map (Im.wt n)) k;rw[<-List.map_take]at this;simp only[Im.wt];omega
def J9:∀(n B i m p q)(a:Nat)(w),B<=w.1.size->Im.wt n i<=2097152->a<=8->In B w n m p q i->tf PQ 144 #[we #[m,p,q],ox pg a] w λe w'=>e=qs (xk (Im.code (8-a) i))/\Below w.1.size w w':=by
 intro n
 induction n with
 |zero=>intro B i m p q a w _ _ _ h;cases h
 |succ n ih=>
  intro B i m p q a w Q hw F h;have H:=In.dp _ _ _ _ _ h;have a4:=Im.sG H;obtain⟨rfl,rfl,L,O,rfl,P⟩:=h;have K:qu _:=ih;have I:qu _:=P;have y:qu _:=H;clear ih P H;have hl:M i.3<=2097152:=aA
  obtain⟨S,z⟩:∃S:ByteArray,(⟨py i.2⟩:ByteArray)=S:=⟨_,R⟩
  have j:S.1.1=i.2:=by rw[<-z]
  have a0:ot S<=2097152:=by rw[X6,j];omega
  rw[z];clear z;have W:∀ah:Obj,Below ↑w w (o6 w ah):=λah=>pb (wl _ w) fI _;have b:qu _:=W;clear W;cases x:i.1 with
  |false=>
   have g:Im.code (8-a) i=if tk i.3 then N (Im.sc i.2)else X:=by
    cases 8-a<;>simp[Im.code,x]
   by_cases d:i.3=[]
   .have s:Im.code (8-a) i=N (Im.sc i.2):=by rw[g,d];rfl
    rw[s];rw[d];have t:Im.sc i.2=if Im.bare S.1.1=pw then S.1.1 else Im.begun 128 S.1.1:=by rw[j];rfl
    have f:qu _:=t;clear g s t j I K y;by_cases c:ot S=1
    .have C:((ot S:Int) == 1)=pw:=by simp[c]
     have o:0<ot S:=aA
     have G:=λv=>kL v S 0 0 o R;have r:=Li S o c;have k:qu _:=r;clear r;have A:qu _:=c;clear c;by_cases D:(pf S[0]:Int)<128
     .go_enter (fq ZA R),Y8;go_wp2;go_ret2;rw[f.out,k.out,Ze aA,Zb R];exact⟨R,b _⟩
     .have l:qu (Im.sc i.2=Im.begun 128 S.1.1):=by rw[qu,f.out,k.out,Zd aA,Za aC]
      go_enter (fq ZA R),Y8;go_wp2;refine se (tJ _ S _ (rr R) aA) ?_;rintro e w1 ⟨rfl,u⟩;generalize Im.begun 128 S.1.1=E at l⊢;go_wp2;go_ret2;rw[l.out];exact⟨R,ow (b _) (o5 u aC)⟩
    .have u:((ot S:Int) == 1)=pi:=by simp;omega
     have l:=Ns S c;have o:qu _:=l;clear l;have k:qu (Im.sc i.2=Im.begun 128 S.1.1):=by rw[qu,f.out,o.out,Za aC]
     go_enter (fq ZA R),Y8;go_wp2;refine se (tJ _ S _ (rr R) aA) ?_;rintro e w1 ⟨rfl,r⟩;generalize Im.begun 128 S.1.1=E at k⊢;go_wp2;go_ret2;rw[k.out];exact⟨R,ow (b _) (o5 r aC)⟩
   .have c:Im.code (8-a) i=X:=by rw[g,Za (by simp[d])]
    rw[c];have f:0<(M i.3:Int):=by have:=List.length_pos_iff.2 d;omega
    go_enter (fq ZA R),Y8;go_wp2;go_ret2;exact⟨R,b _⟩
  |true=>
   have s:tk (vz S)=tk i.2:=by rw[qaD,j]
   cases u:tk i.2 with
   |false=>
    have d:(!List.isEmpty (vz S))=pw:=by rw[s,u];rfl
    have c:Im.code (8-a) i=X:=by
     cases 8-a<;>simp[Im.code,x,u]
    rw[c];clear s j;go_enter (fq ZA R),Y8;go_wp2;go_ret2;exact⟨R,b _⟩
   |true=>
    have a6:(!List.isEmpty (vz S))=pi:=by rw[s,u];rfl
    clear s j;by_cases h8:a=8
    .subst h8;have c:Im.code (8-8) i=X:=by simp[Im.code,x]
     rw[c];go_enter (fq ZA R),Y8;go_wp2;go_ret2;exact⟨R,b _⟩
    .obtain⟨d,G⟩:∃d,8-a=d+1:=⟨8-a-1,aA⟩
     have aa:Im.code (8-a) i=(Im.cat (Im.code d) i.3).map (Im.begun 192):=by
      rw[G,Im.tM d i x u]
     generalize hR:Im.code (8-a) i=Zs at *;have J:qu _:=aa;have an:qu _:=G;clear aa hR G;have ay:(a:Int)<8:=aA
     obtain⟨Zr,o⟩:∃Zr:pn,Zr=o6 w (pj #[rh pw,pk S,U L (M i.3) O] 103):=⟨_,R⟩
     have V:↑Zr=w.1.size+1:=by rw[o];simp
     have T:Z Zr ⟨↑w,2,X⟩=N (U L (M i.3) O):=by rw[o];simp
     have aq:Below ↑w w Zr:=by rw[o];exact b _
     go_enter (fq ZA R),Y8;go_wp2;rw[<-o];have ak:qu _:=V;have aj:qu _:=T;clear o V T;go_loopg [6,7] (M i.3) (λg v t f=>∃(k:Nat)(c:ByteArray),k<=M i.3/\t=ox pg k/\v=pk c/\g=M i.3-k/\qu (Im.cat (Im.code d) (i.3.take k)=N c.1.1)/\Below (w.1.size+1) Zr f)
     case atStart=>exact⟨0,_,bU _,R,R,R,R,wl _ _⟩
     case round=>
      obtain⟨k,l,hk,rfl,rfl,rfl,v,t⟩:=hrel;have ag:=t.4;rw[ak.out]at ag;have m:=oy (qi t (p:=⟨_,2,X⟩) aC) aj.out;have f:=ow aq (o5 t aA);have a1:ot l<=12582912:=by rw[X6];exact Im.B2 y hw (λr c=>eR c) (KD k) v.out
      by_cases g:k<M i.3
      .have a5:(k:Int)<M i.3:=by omega
       have ad:i.3≠[]:=by intro e;rw[e]at g;simp at g
       obtain⟨ax,a7,rfl,a2,hj⟩:=I ad;let⟨d0,d1,d2,F,ac⟩:=hj k g;have aw:=Im.CL (n:=n) (qaz g);let⟨p0,p1,p2⟩:=F.fF f aA;have A:=λ(_:Unit)=>K B _ d0 d1 d2 (a+1) wr (aX Q f.4) aA aA (In.fF (o5 f Q) _ _ _ _ _ ac);rw[show 8-(a+1)=d from by have:=an.out;omega]at A
       have af:Im.cat (Im.code d) (i.3.take (k+1))=(Im.code d i.3[k]).map (λc=>l.1.1++c):=by
        rw[cO g,Im.Dq _ _ _ _ v.out]
       have ae:Im.code d i.3[k]=X->Zs=X:=λav=>by
        rw[J.out,<-YX k i.3,List.drop_eq_getElem_cons g,Im.NQ _ _ _ _ av];rfl
       have Y:∀c,Im.code d i.3[k]=N c->M c<=6*Im.wt n i.3[k]:=λc au=>Im.zq n d _ c (y _ (qaz g)) (aX (Nat.le_of_succ_le aw) hw) au;generalize hC:Im.code d i.3[k]=C at *;have ap:qu _:=af;have ao:qu _:=ae;have am:qu _:=Y;have E:qu _:=A;clear af ae Y A hj F ac ad hC;cases C with
       |none=>
        have r:=ao R;have C:qu _:=r;clear r;go_wp2;rw[show((a:Int)+1)=((a+1:Nat):Int) from by omega];refine se (E ()) ?_;rintro e w3 ⟨rfl,D⟩;simp only[xk];go_wp2;go_ret2;rw[C.out];exact⟨R,ow f (o5 D f.4)⟩
       |some c=>
        have a3:=am c R;go_wp2;rw[show((a:Int)+1)=((a+1:Nat):Int) from by omega];refine se (E ()) ?_;rintro e w3 ⟨rfl,ar⟩;simp only[xk];have ab:(ot (⟨py c⟩:ByteArray))=M c:=by rw[X6]
        obtain⟨D,r⟩:∃D:ByteArray,(⟨py c⟩:ByteArray)=D:=⟨_,R⟩
        have C:D.1.1=c:=by rw[<-r]
        have az:ot D<=12582912:=by rw[<-r,ab];omega
        rw[r];have ai:qu _:=C;clear r ab C;go_wp2;go_roundg (M i.3-(k+1))
        case measure=>omega
        case rel=>
         refine⟨_,_,aA,by go_num,R,R,?_,ow t (o5 ar ag)⟩;rw[qu,ap.out,iW,ai.out];rfl
      .have D:¬(k:Int)<M i.3:=by omega
       have A:k=M i.3:=aA
       have r:Zs=N (Im.begun 192 l.1.1):=by
        have:=v.out;rw[A,eD]at this;rw[J.out,this];rfl
       have c:qu _:=r;clear r A;go_wp2;refine se (tJ _ l _ (rz R) aA) ?_;rintro e w1 ⟨rfl,C⟩;generalize Im.begun 192 l.1.1=E at c⊢;go_wp2;go_ret2;rw[c.out];exact⟨R,ow f (o5 C f.4)⟩
open Go.Shelf
open Go.RowKit
section
variable {B:Nat}{w w':pn}
def ren:Go.Shelf.Ren:=⟨fun|105=>204|212=>217|99=>218|165=>91|166=>140|170=>173|169=>93|263=>226|264=>227|206=>228|240=>137|241=>138|276=>192|277=>193|167=>139|n=>n,fun|9=>9|3=>3|4=>4|20=>20|0=>0|46=>154|109=>307|5=>5|72=>178|76=>237|51=>22|146=>318|53=>207|148=>320|70=>176|37=>155|75=>163|127=>239|164=>253|80=>182|n=>n,fun|n=>n⟩
def lays105:Go.Proofs.Lays.n105 PQ ren:={
 mixed:=Zm
 f99:=oy (fq func218 R) (Zf N Zm)
 f105:=oy (fq func204 R) (Zf N Zm)
 f165:=oy (fq func91 R) (Zf N Zm)
 f166:=oy (fq func140 R) (Zf N Zm)
 f169:=oy (fq func93 R) (Zf N Zm)
 f170:=oy (fq func173 R) (Zf N Zm)
 f206:=oy (fq func228 R) (Zf N Zm)
 f212:=oy (fq func217 R) (Zf N Zm)
 f240:=oy (fq func137 R) (Zf N Zm)
 f241:=oy (fq func138 R) (Zf N Zm)
 f263:=oy (fq func226 R) (Zf N Zm)
 f264:=oy (fq func227 R) (Zf N Zm)
 f276:=oy (fq func192 R) (Zf N Zm)
 f277:=oy (fq func193 R) (Zf N Zm)
 t0:=(uq underlying0)
 a0:=(qg isAgg0)
 z0:=(o9 sizeOf0)
 v0:=(pU zeroValue0)
 t3:=(uq Yp)
 a3:=(qg isAgg3)
 z3:=(o9 sizeOf3)
 v3:=(pU zeroValue3)
 t4:=(uq qay)
 a4:=(qg isAgg4)
 z4:=(o9 sizeOf4)
 v4:=(pU zeroValue4)
 t5:=(uq yd)
 a5:=(qg isAgg5)
 z5:=(o9 sizeOf5)
 v5:=(pU zeroValue5)
 t9:=(uq wq)
 a9:=(qg isAgg9)
 z9:=(o9 sizeOf9)
 v9:=(pU zeroValue9)
 t20:=(uq underlying20)
 a20:=(qg isAgg20)
 z20:=(o9 sizeOf20)
 v20:=(pU zeroValue20)
 t37:=(uq xy)
 a37:=(qg isAgg155)
 z37:=(o9 sizeOf155)
 v37:=(pU zeroValue155)
 t46:=(uq underlying154)
 a46:=(qg isAgg154)
 z46:=(o9 sizeOf154)
 v46:=(pU zeroValue154)
 t51:=(uq Tryz.underlying22)
 a51:=(qg isAgg22)
 z51:=(o9 sizeOf22)
 v51:=(pU zeroValue22)
 t53:=(uq underlying207)
 a53:=(qg isAgg207)
 z53:=(o9 sizeOf207)
 v53:=(pU zeroValue207)
 t70:=(uq underlying176)
 a70:=(qg isAgg176)
 z70:=(o9 sizeOf176)
 v70:=(pU zeroValue176)
 t72:=(uq underlying178)
 a72:=(qg isAgg178)
 z72:=(o9 sizeOf178)
 v72:=(pU zeroValue178)
 t75:=(uq underlying163)
 a75:=(qg isAgg163)
 z75:=(o9 sizeOf163)
 v75:=(pU zeroValue163)
 t76:=(uq underlying237)
 a76:=(qg isAgg237)
 z76:=(o9 sizeOf237)
 v76:=(pU zeroValue237)
 t109:=(uq underlying307)
 a109:=(qg isAgg307)
 z109:=(o9 sizeOf307)
 v109:=(pU zeroValue307)
 t127:=(uq qaX)
 a127:=(qg isAgg239)
 z127:=(o9 sizeOf239)
 v127:=(pU zeroValue239)
 t146:=(uq underlying318)
 a146:=(qg isAgg318)
 z146:=(o9 sizeOf318)
 v146:=(pU zeroValue318)
 t148:=(uq underlying320)
 a148:=(qg isAgg320)
 z148:=(o9 sizeOf320)
 v148:=(pU zeroValue320)
 t164:=(uq underlying253)
 a164:=(qg isAgg253)
 z164:=(o9 sizeOf253)
 v164:=(pU zeroValue253) }
def extra:Builder.Extra PQ ren:={
 sizeBuilder:=Zm
 liesBuilder:=Zm
 t5:=(uq yd)
 a5:=(qg isAgg5)
 z5:=(o9 sizeOf5)
 v5:=(pU zeroValue5)
 infoByte:=Zm
 cellsByte:=Zm
 sizeByte:=Zm
 neB5:=by decide }
abbrev Od(B b:Nat)(l:List UInt8)(w:pn):=Lib.IsBuilderF 178 5 B b (YW l) w
def fresh(w):Od w.1.size w.1.size [] (o6 w (pj #[pm X,U X 0 0] 178)):=Lib.IsBuilderF.of (Lib.fresh_isBuilder 178 5 w)
def W4(B b l w)(h:Od B b l w):tf PQ 173 #[pm (N ⟨b,0,X⟩)] w λe w'=>e=qs (ox pg (M l))/\w'=w:=by
 have c:=Any.Builder_Len_f (ρ:=ren) { lays105 with } B b _ w h;rw[qaS]at c;exact c
def wE(B b l w)(h:Od B b l w)(a:B<=w.1.size):tf PQ 93 #[pm (N ⟨b,0,X⟩)] w λe w'=>e=qs (pk ⟨py l⟩)/\Od B b l w'/\Below B w w':=
 Any.Builder_String_any_f (ρ:=ren) { lays105 with } extra B b l w h a
def FZ(B b l)(s:ByteArray)(w)(h:Od B b l w)(f:M l+ot s<=140737488355328)(d:B<=w.1.size):tf PQ 140 #[pm (N ⟨b,0,X⟩),pk s] w λe w'=>e=qs (sh #[ox pg (ot s),.nilIface])/\Od B b (l++s.1.1) w'/\Below B w w':=by
 refine se (Any.Builder_WriteString_f (ρ:=ren) { lays105 with } extra B b _ s w h (by rw[qaS];exact f) d) ?_;rintro e w' ⟨rfl,a,c⟩;refine⟨R,?_,c⟩;rw[Lib.strCells_eq,<-Lib.byteCells_append]at a;exact rz a
def repeated(s:ByteArray)(c w)(hc:c<=9223372036854775807)(a:ot s*c<=140737488355328):tf PQ 204 #[pk s,ox pg c] w λe w'=>e=qs (pk ⟨py (Lib.repeatL s.1.1 c)⟩)/\Below w.1.size w w':=
 Any.strings_Repeat (ρ:=ren) lays105 extra s c w hc a
def zL{b l}(h:Od B b l w)(d:Below ↑w w w'):Od B b l w':=by
 have go:∀p,Lib.BuilderAtF 178 5 B b p (YW l) w->Lib.BuilderAtF 178 5 B b p (YW l) w':=by
  intro p e;have r:=e.lt;obtain⟨m,v,n,c,o⟩:=e;have q:=c.lt;refine⟨m,v,oy (d.5 b r) n,?_,o⟩;obtain⟨k,a⟩:=c;refine⟨k,?_⟩;obtain a|a:=a
  .exact rr a
  .obtain⟨g,f,i,j,rfl,s,t,u⟩:=a;exact rz ⟨g,f,i,j,R,s,oy (d.5 g (q g R).2) t,u⟩
 exact h.elim (λx=>rr (go _ x)) (λx=>rz (go _ x))
end
section
variable {B:Nat}{w w':pn}
def iJ(w:pn):=K3 w 1 0 (rh pi) (ox .u8 128) (ox .u8 183)/\K3 w 1 3 (rh pw) (ox .u8 192) (ox .u8 247)
def iJ.fF(h:iJ w)(b:Below B w w')(a:1<B):iJ w':=⟨h.1.fF b a,h.2.fF b a⟩
def iJ.pos(h:iJ w):1<w.1.size:=by
 have g:=h.1.1;obtain e|e:=dH 1 w.1.size
 .exact e
 .unfold Z at g;rw[Array.getElem?_eq_none (by simpa using e)]at g;simp at g
end
section
variable {P:th}{Q:qaC->Act->pn->Prop}
def nD(w:pn)(base:Nat)(t k e:wj)(i:qaH)(z:po)(size bytes:Nat)(s:P.underlying t=N (.slice e))(p:P.info? e=N i)(D:i.8=N z)(j:i.3=size)(A:i.4=bytes)(G:qd z.cells=size)(F:0<size)(v:po)(n:Nat)(xs:List po)(h:r8 w base e size v n xs)(b:zm)(m c:Nat)(a:List po)(hm:0<m)(f:M a=m*size)(q:∀C E,a[C]? =N E->Z w (b.add C)=N E)(x:∀C∈a,sw C=pw)(y:n+m<=maxLen)(B:(n+m)*bytes<=140737488355328)(J:base<=↑w):∃d l,(By #[t,t] k #[v,U (N b) m c]).run P w=.ok d l/\r8 l base e size d (n+m) (xs++a)/\ss w l (ov v)/\(ov d=ov v\/∃g,ov d=N g/\w.1.size<=g):=by
 let⟨d,l,r,H,I,V⟩:=qao (P:=P) w base t k e i z size bytes s p D j A G F v n xs h b m c a f q x y B J;refine⟨d,l,r,H,I,?_⟩;have ab:n+m<=9223372036854775807:=by simp only[maxLen]at y;omega
 obtain⟨rfl,rfl⟩|⟨g,o,u,rfl,W,O,aa,Y,K,ac⟩:=h.2
 .right;have Q:xs=[]:=bC (by simpa using h.1);subst Q;obtain⟨v2,w2,C,E,_,T⟩:=qao (P:=P) w _ t k e i z size bytes s p D j A G F _ 0 [] (Yw w _ e size) b m c a f q x y B fI;rw[r]at C;simp only[Result.ok.injEq]at C;obtain⟨rfl,rfl⟩:=C;obtain⟨S,_⟩|⟨g,o,u,rfl,L,_⟩:=E.2
  .omega
  .exact⟨g,R,L⟩
 .by_cases E:n+m<=o
  .left;have L:n*i.3+M a<=qd u:=by rw[f,K,j,<-eJ];exact cY _ E
   have C:=run_append_room (P:=P) w t k e i s p g n o u O b m c a (by rw[j];exact f) q x E L;rw[r]at C;simp only[Result.ok.injEq]at C;rw[C.1];rfl
  .right;subst j A;have holds:=h.cells (g:=g) R;have C:=qaM (P:=P) w t k e i z s p D _ n o xs h.1 holds b m c a f q aA aA (qaT aA B);rw[r]at C;simp only[Result.ok.injEq]at C;exact⟨_,by rw[C.1];rfl,fI⟩
def rF{w:pn}{ops:Array OF}{rest:List OF}{o:OF}{f:Act}(C:o.6=X)(s x:ZT)(t:wj)(H:o.2=.call { callee:=.builtin .append,args:=#[s,x],argTypes:=#[t,t] })(base:Nat)(e:wj)(i:qaH){z:po}(size bytes:Nat)(T:P.underlying t=N (.slice e))(D:P.info? e=N i)(W:i.8=N z)(O:i.3=size)(A:i.4=bytes)(Y:qd z.cells=size)(S:0<size){v:po}(n:Nat)(xs:List po)(L:p7 f s=v)(I:r8 w base e size v n xs)(ad:zm)(m c:Nat)(b:List po)(V:p7 f x=U (N ad) m c)(F:0<m)(E:M b=m*size)(G:∀j u,b[j]? =N u->Z w (ad.add j)=N u)(k:∀u∈b,sw u=pw)(r:n+m<=maxLen)(B:(n+m)*bytes<=140737488355328)(y:base<=↑w)(h:∀a d,r8 d base e size a (n+m) (xs++b)->ss w d (ov v)->(ov a=ov v\/∃g,ov a=N g/\w.1.size<=g)->wpList P ops Q rest (f.put o.1 a) d):wpList P ops Q (o::rest) f w:=by
 refine Z5 C λK hK=>?_;let⟨a,d,J,l,p,q⟩:=nD (P:=P) w base t o.3 e i z size bytes T D W O A Y S v n xs I ad m c b F E G k r B y;unfold Oper.wp rj;simp only[H,resolve,invoke,builtin,Sem.run_bind,qaZ,Result.andThen_ok,dC,cL,dB,L,V,J];exact hK _ _ (h a d l p q)
def A3:(PQ.info? 103).map (λi=>(i.8,i.3,i.4))=N (N (we #[rh pi,pk ⟨#[]⟩,U X 0 0]),3,48):=Zm
end
section
variable {w w':pn}{base e size n B:Nat}{v:po}{xs:List po}
def gR(h:r8 w base e size v n xs)(i:Below ↑w w w'):r8 w' base e size v n xs:=by
 obtain⟨f,a⟩:=h;refine⟨f,?_⟩;obtain a|⟨g,c,d,k,j,b,r⟩:=a
 .exact rr a
 .exact rz ⟨g,c,d,k,j,oy (i.5 g (fO b)) b,r⟩
def iX(h:r8 w base e size v n xs){g}(a:ov v=N g):base<=g/\g<w.1.size:=by
 obtain⟨rfl,_⟩|⟨i,d,f,rfl,b,c,_⟩:=h.2
 .simp[ov]at a
 .simp[ov]at a;subst a;exact⟨b,(fO c)⟩
def xs_len(h:r8 w base e 3 v n xs):M xs=n*3:=h.1
def below_alloc2(h:Below B w w')(a:B<=w'.1.size)(b c):Below B w (o6 (o6 w' b) c):=pb (pb h a _) aD _
end
section
variable {w w':pn}{n a b base e size B lo' d:Nat}{v:po}{i:Im.It}{xs:List po}{c:List Im.It}
def Tr(w:pn):Nat->Nat->Nat->po->po->po->Im.It->Prop
 |0,_,_,_,_,_,_=>False
 |n+1,a,b,c0,c1,c2,i=>(c0=.bool i.1/\c1=pk ⟨py i.2⟩)/\∃(xs:List po)(L H:Nat->Nat),r8 w a 103 3 c2 (M i.3) xs/\(∀g,ov c2=N g->g<b)/\
   (∀j<M i.3,a<=L j/\L j<=H j/\H j<=b/\(∀g,ov c2=N g->g<L j\/H j<=g))/\(∀d c,d<c->c<M i.3->H d<=L c)/\
   ∀(j:Nat)(k:j<M i.3),∃e f h,xs[j*3]? =N e/\xs[j*3+1]? =N f/\xs[j*3+2]? =N h/\Tr w n (L j) (H j) e f h (i.3[j])
def fM(w:pn)(n a b:Nat)(v:po)(c:List Im.It):=∃(xs:List po)(L H:Nat->Nat),r8 w a 103 3 v (M c) xs/\(∀g,ov v=N g->g<b)/\
   (∀j<M c,a<=L j/\L j<=H j/\H j<=b/\(∀g,ov v=N g->g<L j\/H j<=g))/\(∀e d,e<d->d<M c->H e<=L d)/\
   ∀(j:Nat)(k:j<M c),∃f h i,xs[j*3]? =N f/\xs[j*3+1]? =N h/\xs[j*3+2]? =N i/\Tr w n (L j) (H j) f h i (c[j])
def Tr.wZ(h:fM w n a b v i.3):Tr w (n+1) a b (.bool i.1) (pk ⟨py i.2⟩) v i:=⟨⟨R,R⟩,h⟩
def kB(h:r8 w base e size v n xs)(k:∀g,ov v=N g->w'.1[g]? =w.1[g]?):r8 w' base e size v n xs:=by
 obtain⟨f,a⟩:=h;refine⟨f,?_⟩;obtain a|⟨g,c,d,b,i,j,r⟩:=a
 .exact rr a
 .exact rz ⟨g,c,d,b,i,oy (k g (by rw[b];rfl)) j,r⟩
def Tr.kept:∀(n a b c d e i),(∀k,a<=k->k<b->w'.1[k]? =w.1[k]?)->Tr w n a b c d e i->Tr w' n a b c d e i
 |0,_,_,_,_,_,_,_,h=>h
 |n+1,a,b,c,d,e,i,hk,h=>by
  obtain⟨x,xs,L,H,o,p,q,y,z⟩:=h;refine⟨x,xs,L,H,kB o (λg h=>hk g (iX o h).1 (p g h)),p,q,y,λj r=>?_⟩;let⟨f,l,m,s,t,u,v⟩:=z j r;have:=q j r;exact⟨f,l,m,s,t,u,Tr.kept n (L j) (H j) f l m _ (λk g h=>hk k aA aA) v⟩
def fM.kept(h:fM w n a b v c)(d:∀k,a<=k->k<b->w'.1[k]? =w.1[k]?):fM w' n a b v c:=
 (Tr.kept (n+1) a b (rh pw) (pk ⟨#[]⟩) v ⟨pw,[],c⟩ d ⟨⟨R,R⟩,h⟩).2
def Tr.inn:∀(n a b c d e i),b<=B->Tr w n a b c d e i->In B w n c d e i
 |0,_,_,_,_,_,_,_,h=>h
 |n+1,a,b,c,d,e,i,hB,h=>by
  obtain⟨⟨q,r⟩,xs,L,H,s,E,F,J,G⟩:=h;obtain⟨rfl,v⟩|⟨g,x,y,rfl,P,k,T,K,O,I⟩:=s.2
  .refine⟨q,r,X,0,by rw[v],λf=>Zl (bC v) f⟩
  .refine⟨q,r,_,x,R,λ_=>⟨g,0,R,by have:=E g R;omega,λj t=>?_⟩⟩;let⟨l,o,p,z,A,C,D⟩:=G j t
   have f:∀(m:Nat)(u:po),xs[m]? =N u->y[m]? =N u:=by
    intro m u h;have S:=(aJ.1 h).1;have Q:=s.1;rw[<-I,eC aA]at h;exact jx
   have:=F j t;refine⟨l,o,p,⟨?_,?_,?_⟩,Tr.inn n (L j) (H j) l o p _ aA D⟩
   .rw[Lib.cell_of_heap k,cX];exact f _ _ z
   .rw[Lib.cell_of_heap k,cX];exact f _ _ A
   .rw[Lib.cell_of_heap k,cX];exact f _ _ C
def DF{b}(h:r8 w base e size v n xs)(j:b<=base):r8 w b e size v n xs:=by
 obtain⟨f,a⟩:=h;refine⟨f,?_⟩;obtain a|⟨g,c,d,i,k,r⟩:=a
 .exact rr a
 .exact rz ⟨g,c,d,i,aA,r⟩
def fM.wider(h:fM w n a b v c)(i:lo'<=a)(u:b<=d):fM w n lo' d v c:=by obtain⟨xs,L,H,m,o,p,q,r⟩:=h;refine⟨xs,L,H,DF m i,λg j=>by have:=o g j;omega,λl k=>?_,q,r⟩;let⟨s,e,t,f⟩:=p l k;exact⟨aA,e,aA,f⟩
def Tr.wider{c0 c e}(h:Tr w n a b c0 c e i)(f:lo'<=a)(g:b<=d):Tr w n lo' d c0 c e i:=by
 cases n with
 |zero=>cases h
 |succ n=>exact⟨h.1,fM.wider h.2 f g⟩
def fM.none(w n a b):fM w n a b (U X 0 0) []:=
 ⟨[],λ_=>0,λ_=>0,Yw w a _ 3,λg e=>by simp[ov]at e,λj c=>by simp at c,λ_ f _ d=>by simp at d,λj c=>by simp at c⟩
def fM.step{w1 w3 w4 k i b d f}(O:a<=↑w){L H:Nat->Nat}(s:r8 w a 103 3 v (M c) xs)(z:∀j<M c,a<=L j/\L j<=H j/\H j<=w.1.size/\(∀g,ov v=N g->g<L j\/H j<=g))(Q:∀h e,h<e->e<M c->H h<=L e)(B:∀(j:Nat)(e:j<M c),∃b d f,xs[j*3]? =N b/\xs[j*3+1]? =N d/\xs[j*3+2]? =N f/\Tr w n (L j) (H j) b d f (c[j]))(C:Tr w1 n ↑w w1.1.size b d f k)(q:Below ↑w w w1)(l:Below w1.1.size w1 w3)(t:r8 w4 a 103 3 i (M c+1) (xs++[b,d,f]))(p:ss w3 w4 (ov v))(K:ov i=ov v\/∃g,ov i=N g/\w3.1.size<=g):fM w4 n a w4.1.size i (c++[k]):=by
 have E:=xs_len s;have s1:=q.4;have s3:=l.4;have s4:=p.4;have P:∀g,ov v=N g->g<w.1.size:=λg o=>(iX s o).2;have r:M (c++[k])=M c+1:=aC
 refine⟨xs++[b,d,f],λj=>if j<M c then L j else w.1.size,λj=>if j<M c then H j else w1.1.size,by rw[r];exact t,λg o=>(iX t o).2,?_,?_,?_⟩
 .intro j e;by_cases h:j<M c
  .grind
  .grind
 .grind
 .intro j A;rw[r]at A;by_cases h:j<M c
  .let⟨u,x,y,V,W,Y,D⟩:=B j h;let⟨F,G,I,J⟩:=z j h;simp only[Zb h];rw[List.getElem_append_left h];refine⟨u,x,y,?_,?_,?_,Tr.kept n _ _ _ _ _ _ (λm S T=>?_) D⟩
   .grind
   .grind
   .grind
   .rw[p.5 m aA (λe=>by grind),l.5 m aA,q.5 m aA]
  .obtain rfl:j=M c:=by omega
   simp only[Za h];rw[List.getElem_append_right fI];simp only[Nat.sub_self,List.getElem_cons_zero];refine⟨b,d,f,?_,?_,?_,Tr.kept n _ _ _ _ _ _ (λm u x=>?_) C⟩
   .grind
   .grind
   .rw[bF aA,E,show M c*3+2-M c*3=2 from by omega];rfl
   .rw[p.5 m aA (λe=>by grind),l.5 m aA]
end
def qy:Option (Bool×Nat×Nat)->po
 |some (l,f,t)=>sh #[we #[.bool l,ox pg f,ox pg t],rh pw]
 |none=>sh #[we #[rh pi,ox pg 0,ox pg 0],rh pi]
def iC(s:ByteArray)(f h):ur s.1.1 f 0=s[f]:=by have a:=X6 s;rw[aT,aK aA,Array.getElem_toList];rfl
def yM(l x y)(s:ByteArray)(f n:Nat)(w)(z:ot s<=16777216)(t:f<=ot s)(v:n<4294967296):tf PQ 229 #[we #[.bool l,ox .u8 x,ox .u8 y],pk s,ox pg f,ox qbl n] w λm p=>m=qs (qy (Im.chk l s.1.1 f n))/\Below w.1.size w p:=by
 have b:=X6 s;have j:∀(e g:Obj),Below ↑w w (o6 (o6 w e) g):=λe g=>pb (pb (wl _ w) fI _) aC _;have c:qu _:=j;clear j;have A:0<=(ot s:Int)-(f:Int):=aA
 have B:IntKind.u64.wrap ((ot s:Int)-(f:Int))=(ot s:Int)-(f:Int):=by rw[IntKind.wrap_u64];omega
 by_cases d:ot s-f<n
 .have a:Im.chk l s.1.1 f n=X:=by unfold Im.chk;rw[<-b,Zb d]
  rw[a];have h:(ot s:Int)-(f:Int)<n:=aA
  clear a b;go_enter (fq func229 R),ntmps229;go_wp2;exact sd (v:=.tuple _) (by simp[results,ZU,go_sem]) R ⟨R,c _ _⟩
 .have q:¬(ot s:Int)-(f:Int)<n:=by omega
  by_cases a:l=pi/\n=1/\pf (ur s.1.1 f 0)<128
  .have i:Im.chk l s.1.1 f n=X:=by unfold Im.chk;rw[<-b,Za d,Zb a]
   rw[i];obtain⟨rfl,rfl,h⟩:=a;have k:f<ot s:=aA
   rw[iC s f k]at h;have o:(pf s[f]:Int)<128:=aA
   have r:=λu=>kL u s _ f k R;clear i b h;go_enter (fq func229 R),ntmps229;go_wp2;exact sd (v:=.tuple _) (by simp[results,ZU,go_sem]) R ⟨R,c _ _⟩
  .have i:Im.chk l s.1.1 f n=N (l,f,f+n):=by unfold Im.chk;rw[<-b,Za d,Za a]
   rw[i];clear i;cases l with
   |true=>
    clear b a;go_enter (fq func229 R),ntmps229;go_wp2;exact sd (v:=sh #[we #[rh pw,ox pg f,ox pg (f+n)],rh pw]) (by simp[results,ZU,go_sem]) R ⟨by simp[qy],c _ _⟩
   |false=>
    by_cases o:n=1
    .subst o;have k:f<ot s:=by omega
     have r:¬(pf s[f]:Int)<128:=by
      rw[iC s f k]at a;intro h;exact a ⟨R,R,aA⟩
     have C:=λu=>kL u s _ f k R;clear b a;go_enter (fq func229 R),ntmps229;go_wp2;exact sd (v:=sh #[we #[rh pi,ox pg f,ox pg (f+1)],rh pw]) (by simp[results,ZU,go_sem]) R ⟨by simp[qy],c _ _⟩
    .have h:((n:Int) == 1)=pi:=by simp;omega
     clear b a;go_enter (fq func229 R),ntmps229;go_wp2;exact sd (v:=sh #[we #[rh pi,ox pg f,ox pg (f+n)],rh pw]) (by simp[results,ZU,go_sem]) R ⟨by simp[qy],c _ _⟩
section
variable {B:Nat}{w:pn}
def ext_list(s:ByteArray)(a b:Nat):(s.extract a b).1.1=(s.1.1.take b).drop a:=by exact km
def lX:∀(l a k),a<256 ^ k->Im.val l a<256 ^ (k+M l)
 |[],a,k,h=>h
 |x::l,a,k,h=>by
  have:=xi x;have b:=lX l (256*a+pf x) (k+1) aA;simp only[Im.val,aP];rw[show k+(M l+1)=k+1+M l from by omega];exact b
def rL(s:List UInt8)(k:Nat)(h:k<M s):Im.val (s.take (k+1)) 0=256*Im.val (s.take k) 0+pf (ur s k 0):=by rw[cO h,Im.val_append,aT,aK h];rfl
def vZ(a c)(hc:c<256):(a*256) |||c=256*a+c:=by exact ly
def below_bytesWorld{u}(h:Below B w u)(a:B<=u.1.size)(e s):Below B w (qaa u e s):=
 ow h ⟨R,R,R,by rw[qaO];omega,λm b=>Lib.bytesWorld_at_old u e s m aA⟩
def uI(l x y)(s:ByteArray)(f:Nat)(w)(hs:ot s<=16777216)(hf:2<=f)(ao:f<=5):tf PQ 230 #[we #[.bool l,ox .u8 x,ox .u8 y],pk s,ox pg f] w λn w'=>n=qs (qy (Im.far l s.1.1 f))/\Below w.1.size w w':=by
 have j:=X6 s;have aa:∀(H c:Obj),Below ↑w w (o6 (o6 w H) c):=λH c=>pb (pb (wl _ w) fI _) aC _;have q:qu _:=aa;clear aa;by_cases h1:ot s<f
 .have a:Im.far l s.1.1 f=X:=by unfold Im.far;rw[<-j,Zb (rr h1)]
  rw[a];have b:(ot s:Int)<f:=aA
  clear a j;go_enter (fq func230 R),ntmps230;go_wp2;exact sd (v:=.tuple _) (by simp[results,results230,go_sem]) R ⟨R,q _ _⟩
 .have ai:¬(ot s:Int)<f:=by omega
  have ac:1<ot s:=aA
  have hx:=λD=>kL D s 1 1 ac R;have A:=iC s 1 ac;by_cases t:s[1]=0
  .have a:Im.far l s.1.1 f=X:=by unfold Im.far;rw[A,Zb (rz t)]
   rw[a];have b:((pf s[1]:Int) == 0)=pw:=by rw[t];rfl
   clear a j;go_enter (fq func230 R),ntmps230;go_wp2;exact sd (v:=.tuple _) (by simp[results,results230,go_sem]) R ⟨R,q _ _⟩
  .have aj:((pf s[1]:Int) == 0)=pi:=by
    have:pf s[1]≠0:=λn=>t (fC.1 n);simp;omega
   obtain⟨S,u⟩:∃S:ByteArray,s.extract 1 f=S:=⟨_,R⟩
   have J:S.1.1=(s.1.1.take f).drop 1:=by rw[<-u,ext_list]
   have am:ot S=f-1:=by rw[<-u];exact ki
   have ag:=λD:pn=>Z1 (P:=PQ) D 9 155 5 S (uq wq) (uq xy) (uq yd)
   have a:Im.far l s.1.1 f=if Im.val S.1.1 0<=55 then X else Im.chk l s.1.1 f (Im.val S.1.1 0):=by
    unfold Im.far;rw[<-j,A,Za (by grind),J]
   generalize Im.far l s.1.1 f=Zs at a⊢;have m:qu _:=a;clear a j J A;go_enter (fq func230 R),ntmps230;go_wp2;obtain⟨Zr,d⟩:∃Zr:pn,Zr=(o6 (o6 w (pj #[rh l,ox IntKind.u8 x,ox IntKind.u8 y] 280)) (pj #[rh pi,ox pg 0,ox pg 0] 311)):=⟨_,R⟩
   have T:↑Zr=w.1.size+1+1:=by rw[d];simp
   have Q:Below ↑w w Zr:=by rw[d];exact q _ _
   have O:Zr.1[w.1.size]? =N (pj #[rh l,ox IntKind.u8 x,ox IntKind.u8 y] 280 (0,0)):=by rw[d,vr _ _ _ aC];exact sv _ _
   have P:Zr.1[w.1.size+1]? =N (pj #[rh pi,ox pg 0,ox pg 0] 311 (0,0)):=by rw[d];have:=sv (o6 w (pj #[rh l,ox IntKind.u8 x,ox IntKind.u8 y] 280)) (pj #[rh pi,ox pg 0,ox pg 0] 311);exact ir
   rw[<-d];obtain⟨Y,e⟩:∃Y:pn,Y=qaa Zr 5 S:=⟨_,R⟩
   have an:↑Y=w.1.size+3:=by rw[e,qaO,T]
   have o:Below ↑Zr Zr Y:=by rw[e];exact below_bytesWorld (wl _ _) fI _ _
   have W:∀k<ot S,Z Y ⟨w.1.size+1+1,k,X⟩=N (ox .u8 (pf (ur S.1.1 k 0))):=λk hk=>by rw[e,<-T];exact Lib.bytesWorld_cell Zr 5 S k hk
   rw[<-e];have h:=oy (o.5 _ aA) O;have b:=oy (o.5 _ aA) P;have i:=ow Q (o5 o aA);have K:=X6 S;have p:qu _:=fE W (fE h (fE b i));have E:qu _:=K;clear d e W h b i o O P Q K ag hx u;generalize grownCap Zr (f-1) 0 5=gc;go_loopg [8,26] (f-1) (λg v r z=>∃k:Nat,k<=f-1/\r=ox pg k/\v=ox qbl (Im.val (S.1.1.take k) 0:Nat)/\g=f-1-k/\z=Y)
   case atStart=>exact⟨0,bU _,R,R,R,R⟩
   case round=>
    obtain⟨k,hk,rfl,rfl,rfl,rfl⟩:=hrel
    have ad:Im.val (S.1.1.take k) 0<4294967296:=by
     have:=lX (S.1.1.take k) 0 0 aC;have g:0+M (S.1.1.take k)<=4:=aD
     have:=eE (n:=256) aB g;omega
    by_cases ap:k<f-1
    .have G:(k:Int)<((f-1:Nat):Int):=by omega
     have hc:=p.1 k aA;generalize g:pf (ur S.1.1 k 0)=c at hc;have B:c<256:=by rw[<-g];exact xi _
     have r:=rL S.1.1 k (by rw[<-E.out];omega);rw[g]at r
     have I:Im.val (S.1.1.take k) 0<16777216:=by
      have:=lX (S.1.1.take k) 0 0 aC;have C:0+M (S.1.1.take k)<=3:=aD
      have:=eE (n:=256) aB C;omega
     generalize v:Im.val (S.1.1.take (k+1)) 0=V' at r;have z:qu _:=v;clear v;generalize Im.val (S.1.1.take k) 0=V at *;have F:qu _:=g;clear g;go_wp2
     rw[show bits .or qbl ((V:Int)*256) (c:Int)=V' from by
      rw[show(V:Int)*256=((V*256:Nat):Int) from by omega,bits_or_u64_nat _ _ aA aA,vZ V c B,r]]
     go_roundg (f-1-(k+1))
     case measure=>omega
     case rel=>
      refine⟨_,aA,by go_num,?_,R,R⟩;rw[z.out]
    .have aq:¬(k:Int)<((f-1:Nat):Int):=by omega
     obtain rfl:k=f-1:=aA
     have ah:S.1.1.take (f-1)=S.1.1:=cK (by rw[<-E.out];omega);rw[ah]at ad⊢;obtain⟨_,h,b,i⟩:=p.out;generalize Im.val S.1.1 0=V at *;let⟨m0,m1,m2⟩:=iY h;let⟨r0,r1,r2⟩:=iY b;have fr:=zg b;have G:qu _:=i;have af:qu _:=b;clear h b i p;by_cases I:V<=55
     .have r:(V:Int)<=55:=by omega
      have a:Zs=X:=by rw[m.out,Zb I]
      have g:qu _:=a;clear a m;go_wp2;exact sd (v:=sh #[we #[rh pi,ox pg 0,ox pg 0],rh pi]) (by simp[results,results230,go_sem,r0,r1,r2]) R ⟨by rw[g.out];rfl,ph (ph (ph G aC _) aC _) aC _⟩
     .have ak:¬(V:Int)<=55:=by omega
      have a:Zs=Im.chk l s.1.1 f V:=by rw[m.out,Za I]
      obtain⟨g,r,C,B,L⟩:∃g r C B,qy (Im.chk l s.1.1 f V)=sh #[we #[.bool g,ox pg r,ox pg C],.bool B]:=by
       cases Im.chk l s.1.1 f V with
       |none=>exact⟨_,_,_,_,R⟩
       |some z=>exact⟨_,_,_,_,R⟩
      have F:qu _:=L;have ae:qu _:=a;clear a m L;go_wp2;refine se (yM l x y s f V wr hs aA ad) ?_;rintro n w3 ⟨rfl,ab⟩;rw[F.out];have v:=oy (ab.5 _ aA) af.out;let⟨z0,z1,z2⟩:=iY v;have fz:=zg v;have HB:qu _:=ow G (o5 ab aA);clear r0 r1 r2 fr m0 m1 m2 v;go_wp2;exact sd (v:=sh #[we #[.bool g,ox pg r,ox pg C],.bool B]) (by simp[results,results230,go_sem,z0,z1,z2]) R ⟨by rw[ae.out,F.out],ph (ph (ph HB aC _) aC _) aC _⟩
end
def Th(u):(YJ 306 (we #[rh pi,ox .u8 128,ox .u8 183,rh pw,ox .u8 192,ox .u8 247]) (ox pg 0)).run PQ u=.ok (we #[rh pi,ox .u8 128,ox .u8 183]) u:=by simp[YJ,vh (uq underlying306),asIntOf,go_sem]
def Sv(u):(YJ 306 (we #[rh pi,ox .u8 128,ox .u8 183,rh pw,ox .u8 192,ox .u8 247]) (ox pg 1)).run PQ u=.ok (we #[rh pw,ox .u8 192,ox .u8 247]) u:=by simp[YJ,vh (uq underlying306),asIntOf,go_sem]
def Ad(s:ByteArray)(w)(v:ot s<=16777216)(J:iJ w):tf PQ 219 #[pk s] w λt w'=>t=qs (qy (Im.body s.1.1))/\Below w.1.size w w':=by
 have O:=X6 s;have h0:=J.pos;have x:=gH s;by_cases P:ot s=0
 .have a:Im.body s.1.1=X:=by
   have:s.1.1=[]:=bC aA;rw[this];rfl
  rw[a];have b:tk (vz s)=pw:=by rw[x];simp[P]
  clear a O x;go_enter (fq func219 R),ntmps219;go_wp2;exact sd (v:=.tuple _) (by simp[results,YK,go_sem]) R ⟨R,pb (wl _ w) fI _⟩
 .have he:tk (vz s)=pi:=by rw[x];simp[P]
  have L:0<ot s:=aA
  have hx:=λad=>kL ad s 0 0 L R;obtain⟨c,hc⟩:∃c:UInt8,s[0]=c:=⟨_,R⟩
  have ah:=xi c;rw[hc]at hx;have b:Im.body s.1.1=if pf c<128 then N (pi,0,1)
  else if pf c<=183 then Im.chk pi s.1.1 1 (pf c-128)
  else if pf c<=187 then Im.far pi s.1.1 (1+(pf c-183))
  else if pf c<192 then X
  else if pf c<=247 then Im.chk pw s.1.1 1 (pf c-192)
  else if pf c<=251 then Im.far pw s.1.1 (1+(pf c-247))
  else X:=by
   have d:=iC s 0 L;rw[hc]at d;cases e:s.1.1 with
   |nil=>grind
   |cons a r=>
    rw[e]at d;simp at d;subst d;rfl
  generalize Im.body s.1.1=Zs at b⊢;have f:qu _:=b;clear b O x hc;generalize hn:pf c=n at *;clear hn;by_cases aa:n<128
  .have a:(n:Int)<128:=by omega
   go_enter (fq func219 R),ntmps219;go_wp2;exact sd (v:=sh #[we #[rh pi,ox pg 0,ox pg 1],rh pw]) (by simp[results,YK,go_sem]) R ⟨by rw[f.out,Zb aa];rfl,pb (wl _ w) fI _⟩
  .have ae:¬(n:Int)<128:=by omega
   have ab:=J;obtain⟨⟨W,E,F⟩,Y,G,H⟩:=ab;simp only[cX,Nat.reduceAdd]at E F G H;let⟨Zr,A,p,i⟩:=fL w #[rh pi,ox pg 0,ox pg 0] 311;have u:↑Zr=w.1.size+1:=by rw[A];simp
   have d:∀y:Option (Bool×Nat×Nat),∃j l o m,qy y=sh #[we #[.bool j,ox pg l,ox pg o],.bool m]:=by
    intro y;cases y with
    |none=>exact⟨_,_,_,_,R⟩
    |some z=>exact⟨_,_,_,_,R⟩
   have r:qu _:=d;clear d;go_enter (fq func219 R),ntmps219;go_wp2;rw[<-A];have T:qu _:=fE u (fE p i);clear A u p i W E F Y G H;go_loopg [16] 2 (λg a e=>∃k:Nat,k<=2/\a=ox pg k/\g=2-k/\Below (w.1.size+1) Zr e/\(1<=k->187<n)/\(k=2->n<192\/251<n))
   case atStart=>exact⟨0,bU _,R,R,wl _ _,λh=>aA,λh=>aA⟩
   case round=>
    obtain⟨k,hk,rfl,rfl,a,B,ac⟩:=hrel;let⟨u,p,i⟩:=T.out;have g:=a.4;rw[u]at g;have e:=oy (a.5 _ aA) i;have q:=ow p (o5 a aA);have ai:=Th;have aj:=Sv
    match k,hk with
    |0,_=>
     have ak:=B;by_cases V:128<=n/\n<=183
     .obtain⟨g1,g2⟩:=V;have b:Zs=Im.chk pi s.1.1 1 (n-128):=by rw[f.out];repeat' first|rw[Za aA]|rw[Zb aA]
      let⟨j,l,o,m,d⟩:=r (Im.chk pi s.1.1 1 (n-128));have D:qu _:=d;have Q:qu _:=b;have S:qu _:=e;clear b f d e i;have af:(128:Int)<=(n:Int):=aA
      have ag:(n:Int)<=183:=aA
      go_wp2;rw[show(n:Int)-128=((n-128:Nat):Int) from by omega];refine se (yM pi _ _ s 1 _ _ v aA aA) ?_;rintro t w3 ⟨rfl,z⟩;have I:=ow (pb a g _) (o5 z aD);rw[D.out];have C:=oy (z.5 _ aD) (oy (vr _ _ _ aA) S);let⟨z0,z1,z2⟩:=iY C;have fz:=zg C;have K:qu (Below ↑w w w3):=ow p (o5 I aA);clear C z I a q;go_wp2;exact sd (v:=sh #[we #[.bool j,ox pg l,ox pg o],.bool m]) (by simp[results,YK,go_sem,z0,z1,z2]) R ⟨by rw[Q.out,D.out],ph (ph (ph K aC _) aC _) aC _⟩
     .by_cases h2:183<n/\n<=187
      .obtain⟨g1,g2⟩:=h2;have b:Zs=Im.far pi s.1.1 (1+(n-183)):=by rw[f.out];repeat' first|rw[Za aA]|rw[Zb aA]
       let⟨j,l,o,m,d⟩:=r (Im.far pi s.1.1 (1+(n-183)));have D:qu _:=d;have Q:qu _:=b;have S:qu _:=e;clear b f d e i;have af:(183:Int)<(n:Int):=aA
       have ag:(n:Int)<=187:=aA
       go_wp2;rw[show 1+((n:Int)-183)=((1+(n-183):Nat):Int) from by omega];refine se (uI pi _ _ s _ _ v aA aA) ?_;rintro t w3 ⟨rfl,z⟩;have I:=ow (pb a g _) (o5 z aD);rw[D.out];have C:=oy (z.5 _ aD) (oy (vr _ _ _ aA) S);let⟨z0,z1,z2⟩:=iY C;have fz:=zg C;have K:qu (Below ↑w w w3):=ow p (o5 I aA);clear C z I a q;go_wp2;exact sd (v:=sh #[we #[.bool j,ox pg l,ox pg o],.bool m]) (by simp[results,YK,go_sem,z0,z1,z2]) R ⟨by rw[Q.out,D.out],ph (ph (ph K aC _) aC _) aC _⟩
      .have z:187<n:=by omega
       have C:(128:Int)<=(n:Int):=aA
       have D:(183:Int)<(n:Int):=aA
       have I:(187:Int)<(n:Int):=aA
       clear e i;go_wp2;go_roundg 1
       case measure=>omega
       case rel=>exact⟨1,aA,R,R,pb a g _,λ_=>z,λh=>aA⟩
    |1,_=>
     have ak:=B;have I:=B aA;by_cases h1:192<=n/\n<=247
     .obtain⟨g1,g2⟩:=h1;have b:Zs=Im.chk pw s.1.1 1 (n-192):=by rw[f.out];repeat' first|rw[Za aA]|rw[Zb aA]
      let⟨j,l,o,m,d⟩:=r (Im.chk pw s.1.1 1 (n-192));have D:qu _:=d;have S:qu _:=b;have V:qu _:=e;clear b f d e i;have af:(192:Int)<=(n:Int):=aA
      have ag:(n:Int)<=247:=aA
      go_wp2;rw[show(n:Int)-192=((n-192:Nat):Int) from by omega];refine se (yM pw _ _ s 1 _ _ v aA aA) ?_;rintro t w3 ⟨rfl,z⟩;have K:=ow (pb a g _) (o5 z aD);rw[D.out];have C:=oy (z.5 _ aD) (oy (vr _ _ _ aA) V);let⟨z0,z1,z2⟩:=iY C;have fz:=zg C;have Q:qu (Below ↑w w w3):=ow p (o5 K aA);clear C z K a q;go_wp2;exact sd (v:=sh #[we #[.bool j,ox pg l,ox pg o],.bool m]) (by simp[results,YK,go_sem,z0,z1,z2]) R ⟨by rw[S.out,D.out],ph (ph (ph Q aC _) aC _) aC _⟩
     .by_cases h2:247<n/\n<=251
      .obtain⟨g1,g2⟩:=h2;have b:Zs=Im.far pw s.1.1 (1+(n-247)):=by rw[f.out];repeat' first|rw[Za aA]|rw[Zb aA]
       let⟨j,l,o,m,d⟩:=r (Im.far pw s.1.1 (1+(n-247)));have D:qu _:=d;have S:qu _:=b;have V:qu _:=e;clear b f d e i;have af:(247:Int)<(n:Int):=aA
       have ag:(n:Int)<=251:=aA
       go_wp2;rw[show 1+((n:Int)-247)=((1+(n-247):Nat):Int) from by omega];refine se (uI pw _ _ s _ _ v aA aA) ?_;rintro t w3 ⟨rfl,z⟩;have K:=ow (pb a g _) (o5 z aD);rw[D.out];have C:=oy (z.5 _ aD) (oy (vr _ _ _ aA) V);let⟨z0,z1,z2⟩:=iY C;have fz:=zg C;have Q:qu (Below ↑w w w3):=ow p (o5 K aA);clear C z K a q;go_wp2;exact sd (v:=sh #[we #[.bool j,ox pg l,ox pg o],.bool m]) (by simp[results,YK,go_sem,z0,z1,z2]) R ⟨by rw[S.out,D.out],ph (ph (ph Q aC _) aC _) aC _⟩
      .have z:n<192\/251<n:=by omega
       clear e i;obtain z|z:=z
       .have C:(n:Int)<192:=by omega
        have D:(n:Int)<=247:=aA
        go_wp2;go_roundg 0
        case measure=>omega
        case rel=>exact⟨2,aA,R,R,pb a g _,λ_=>I,λ_=>aA⟩
       .have C:(192:Int)<=(n:Int):=by omega
        have D:(247:Int)<(n:Int):=aA
        have K:(251:Int)<(n:Int):=aA
        go_wp2;go_roundg 0
        case measure=>omega
        case rel=>exact⟨2,aA,R,R,pb a g _,λ_=>I,λ_=>aA⟩
    |2,_=>
     have S:=ac R;have b:Zs=X:=by rw[f.out];repeat' first|rw[Za aA]|split|rfl|omega
     have C:qu _:=b;let⟨D,I,K⟩:=iY e;have Q:=zg e;have z:qu _:=q;clear e i b f a q;go_wp2;exact sd (v:=sh #[we #[rh pi,ox pg 0,ox pg 0],rh pi]) (by simp[results,YK,go_sem,D,I,K]) R ⟨by rw[C.out];rfl,ph (ph (ph z aC _) aC _) aC _⟩
section
variable {w w' A B:pn}{n b c base e k g a size:Nat}{v c0 d f:po}{j:List Im.It}{row:Option Nat}{i:Im.It}{P:th}{Q:qaC->Act->pn->Prop}{t:wj}{xs:List po}
def Tr.EV:∀(n b c c0 d f i),(∀k o,b<=k->k<c->w.1[k]? =N o->YR o=pw->w'.1[k]? =N o)->Tr w n b c c0 d f i->Tr w' n b c c0 d f i
 |0,_,_,_,_,_,_,_,h=>h
 |n+1,b,c,c0,d,f,i,hk,h=>by
  obtain⟨u,xs,L,H,l,m,o,v,x⟩:=h;refine⟨u,xs,L,H,⟨l.1,?_⟩,m,o,v,λj p=>?_⟩
  .obtain s|⟨g,a,q,h,e,r,t⟩:=l.2
   .exact rr s
   .exact rz ⟨g,a,q,h,e,hk g _ e (m g (by rw[h];rfl)) r R,t⟩
  .let⟨e,g,h,q,r,s,t⟩:=x j p;have:=o j p;exact⟨e,g,h,q,r,s,Tr.EV n (L j) (H j) e g h _ (λk y z A=>hk k y aA aA) t⟩
def fM.EV(h:fM w n b c v j)(a:∀k o,b<=k->k<c->w.1[k]? =N o->YR o=pw->w'.1[k]? =N o):fM w' n b c v j:=
 (Tr.EV (n+1) b c (rh pw) (pk ⟨#[]⟩) v ⟨pw,[],j⟩ a ⟨⟨R,R⟩,h⟩).2
def gY(d:ss A B row)(g:∀r,row=N r->∃o,A.1[r]? =N o/\YR o=pi):∀(k:Nat)(o),A.1[k]? =N o->YR o=pw->B.1[k]? =N o:=by intro k o a f;refine oy (d.5 k (fO a) (λe=>?_)) a;let⟨h,b,c⟩:=g k e.symm;rw[a]at b;cases b;rw[f]at c;cases c
def fM.turn(h:fM A n b ↑A v j)(a:ss A B row)(c:∀r,row=N r->∃o,A.1[r]? =N o/\YR o=pi):fM B n b ↑B v j:=
 (h.EV (λk o _ _=>gY a c k o)).wider fI a.4
def Tr.turn(h:Tr A n b ↑A c0 d f i)(a:ss A B row)(c:∀r,row=N r->∃o,A.1[r]? =N o/\YR o=pi):Tr B n b ↑B c0 d f i:=
 (Tr.EV n _ _ _ _ _ _ (λk o _ _=>gY a c k o) h).wider fI a.4
def Ag{F o a K s x u c}(hw)(f:hw=pw)
  (b:o.2=.call { callee:=.builtin .append,args:=#[s,x],argTypes:=#[t,t] }) (e:p7 a s=v) (g:p7 a x=u) (d:(By #[t,t] o.3 #[v,u]).run P w=.ok c w') (hK:K (a.put o.1 c) w') {E:Prop}:
  if hw=pw then Oper.wpIn F n P o a w K Q else E:=by
 rw[Zb f];unfold Oper.wpIn;refine⟨?_,?_⟩
 .simp[Oper.about,b,resolve,Target.leads,qaZ]
 .rw[Oper.semAt_plain F _ _ (by grind)];simp[rj,b,resolve,invoke,builtin,e,g,d,wi];exact hK
def Mh{x y z}(h:r8 w base e 3 (U (N ⟨g,0,X⟩) (k+1) a) (k+1) (xs++[x,y,z]))(n:M xs=k*3)(b c d):r8 (o3 (o3 (o3 w ⟨g,k*3,X⟩ b) ⟨g,k*3+1,X⟩ c) ⟨g,k*3+2,X⟩ d) base e 3 (U (N ⟨g,0,X⟩) (k+1) a) (k+1) (xs++[b,c,d]):=by
 refine⟨by simp[n];omega,?_⟩;obtain⟨r,_⟩|⟨B,A,f,m,s,u,l,t,j,v⟩:=h.2
 .simp at r
 .simp only[ry,aI,zs,and_true,true_and]at m;obtain⟨rfl,rfl⟩:=m;have o:=uk u (i:=k*3) b;have p:=uk o (i:=k*3+1) c;have q:=uk p (i:=k*3+2) d;refine rz ⟨g,a,_,R,s,q,l,t,by simp[j],?_⟩;have D:(k+1)*3<=M f.1:=by rw[Array.length_toList,j];exact cY 3 l
  have E:f.1.take (k*3)=xs:=by
   have:=Zf (List.take (k*3)) v;rw[List.take_take,dF aA]at this;rw[this,<-n];simp
  apply qba;intro i;simp only[Array.toList_setIfInBounds,dM];by_cases C:i<(k+1)*3
  .grind
  .grind
def iM(h:r8 w base e size v k xs)(d:0<k):∃g a,v=U (N ⟨g,0,X⟩) k a:=by
 obtain⟨_,c⟩|⟨g,a,b,rfl,_⟩:=h.2
 .omega
 .exact⟨g,a,R⟩
def gW(h:r8 w base e size v k xs):∃b a,v=.slice b k a:=by
 obtain⟨rfl,d⟩|⟨g,a,c,rfl,_⟩:=h.2
 .grind
 .exact⟨_,a,R⟩
def FW(h:r8 w base e size v k xs)(g o)(b:ov v=N g)(c:w.1[g]? =N o):YR o=pw:=by
 obtain⟨rfl,j⟩|⟨i,a,f,rfl,_,d,_⟩:=h.2
 .simp[ov]at b
 .simp[ov]at b;subst b;rw[d]at c;cases c;rfl
def kC(b n):(⟨b,0,X⟩:zm).add n=⟨b,n,X⟩:=by
 unfold Addr.add;split
 .simp
 .simp
def rG{l j:Nat}(h:r8 w base e size (U (N ⟨g,0,X⟩) l a) k xs):w.frozen? ⟨g,j,X⟩=pi:=by
 obtain⟨c,_⟩|⟨m,f,i,b,n,d,_⟩:=h.2
 .simp at c
 .simp only[ry,aI,zs,and_true]at b;obtain⟨rfl,_⟩:=b;exact zg d j
end
end Go.Proofs.YtpibpdpedjinhaaGreatDoor
namespace Go.Proofs.YtpibpdpedjinhaaGreatDoor.Hm
open Go.RowKit Go.Joins
open Dv (Cf Zq Tx)
variable {w:pn}
def El(v l w)(h:ny w v l)(K:M l<=4294967296):tf PQ 196 #[v,.func (.func 147) #[] #[]] w λk F=>k=qs (ox pg (idx (λt:Tx=>decide (2000<M t.3)) l))/\Below w.1.size w F:=by
 have I:=enters_of (P:=PQ) (fq func147 R) Zm R;obtain⟨H,z,m,rfl⟩|⟨g,p,z,m,rfl⟩:=Rd.cases h
 .obtain rfl:=bC m;go_enter (fq func196 R),ntmps196;go_wp2;go_loopg [5,8] 0 (λc _ a b=>a=ox pg 0/\b=w)
  case atStart=>exact⟨R,R⟩
  case round=>
   obtain⟨rfl,rfl⟩:=hrel;go_wp2;go_ret;exact⟨R,wl _ _⟩
 .have n:g<↑w:=by
   obtain⟨e,f,d,a,_,c,_⟩:=Rd.pos h m;simp only[ry,aI,zs,and_true,true_and]at a;obtain⟨⟨rfl,rfl⟩,rfl⟩:=a;exact c
  have x:qu _:=λj t (b:l[j]? =N t)=>h.get b;clear h;go_enter (fq func196 R),ntmps196;go_wp2;go_loopg [5,8] (M l) (λa _ c d=>∃i:Nat,i<=M l/\c=ox pg i/\a=M l-i/\qu (∀(j:Nat)(y:Tx),j<i->l[j]? =N y->decide (2000<M y.3)=pi)/\qu (Below ↑w w d))
  case atStart=>exact⟨0,bU _,R,R,λj y b=>aA,wl _ _⟩
  case round=>
   obtain⟨i,J,rfl,rfl,f,a⟩:=hrel;by_cases B:i<M l
   .have L:(i:Int)<M l:=by omega
    obtain⟨t,e⟩:∃t,l[i]? =N t:=⟨_,aK B⟩
    let⟨C,E,s⟩:=x i t e;rw[<-qi a.out (p:=⟨g,p+i*3,X⟩) n]at C;rw[<-qi a.out (p:=⟨g,p+i*3+1,X⟩) n]at E;rw[<-qi a.out (p:=⟨g,p+i*3+2,X⟩) n]at s;have c:=λW=>Gm t W;have q:qu _:=e;obtain⟨D,r⟩:∃D:ByteArray,(⟨py t.3⟩:ByteArray)=D:=⟨_,R⟩
    rw[r]at c s;clear r;cases d:decide (2000<M t.3)
    .rw[d]at c;have u:qu _:=c;have y:qu _:=d;clear c e d;go_wp2_with (go_at_call 147;refine se (u _) ?_;rintro k w2 ⟨rfl,A⟩)
     go_roundg (M l-(i+1))
     case measure=>omega
     case rel=>
      refine⟨_,aA,by go_num,R,λj G b o=>?_,ow a (o5 A a.4)⟩;obtain b|rfl:=eY (Nat.lt_succ_iff.1 b)
      .exact f j G b o
      .rw[q.out]at o;cases o;exact y
    .rw[d]at c;have o:qu _:=c;have u:qu _:=d;clear c e d;go_wp2_with (go_at_call 147;refine se (o _) ?_;rintro k w2 ⟨rfl,y⟩)
     go_ret;exact⟨by rw[yA q.out u.out (λj G b A=>f.out j G b A)];rfl,ow a (o5 y a.4)⟩
   .have d:¬(i:Int)<M l:=by omega
    go_wp2;go_ret;refine⟨?_,a⟩;rw[wP (λj y c=>f.out j y (by have:=(aJ.1 c).1;omega) c)];rfl
def Cc(v l w)(h:jO w v l)(I:M l<=4294967296):tf PQ 197 #[v,.func (.func 149) #[] #[]] w λk C=>k=qs (ox pg (idx (λt:List UInt8=>decide (2000<M t)) l))/\Below w.1.size w C:=by
 have G:=enters_of (P:=PQ) (fq func149 R) Zm R;obtain⟨F,x,m,rfl⟩|⟨g,B,x,m,rfl⟩:=Rd.cases h
 .obtain rfl:=bC m;go_enter (fq func197 R),ntmps197;go_wp2;go_loopg [5,8] 0 (λc _ a b=>a=ox pg 0/\b=w)
  case atStart=>exact⟨R,R⟩
  case round=>
   obtain⟨rfl,rfl⟩:=hrel;go_wp2;go_ret;exact⟨R,wl _ _⟩
 .have z:g<↑w:=by
   obtain⟨e,f,d,b,_,c,_⟩:=Rd.pos h m;simp only[ry,aI,zs,and_true,true_and]at b;obtain⟨⟨rfl,rfl⟩,rfl⟩:=b;exact c
  have s:qu _:=λj t (a:l[j]? =N t)=>h.get a;clear h;go_enter (fq func197 R),ntmps197;go_wp2;go_loopg [5,8] (M l) (λb _ c d=>∃i:Nat,i<=M l/\c=ox pg i/\b=M l-i/\qu (∀(j:Nat)(y:List UInt8),j<i->l[j]? =N y->decide (2000<M y)=pi)/\qu (Below ↑w w d))
  case atStart=>exact⟨0,bU _,R,R,λj y a=>aA,wl _ _⟩
  case round=>
   obtain⟨i,H,rfl,rfl,f,c⟩:=hrel;by_cases A:i<M l
   .have J:(i:Int)<M l:=by omega
    obtain⟨t,e⟩:∃t,l[i]? =N t:=⟨_,aK A⟩
    have q:=s i t e;rw[<-qi c.out (p:=⟨g,B+i,X⟩) z]at q;have b:=λW=>FC t W;have o:qu _:=e;obtain⟨D,p⟩:∃D:ByteArray,(⟨py t⟩:ByteArray)=D:=⟨_,R⟩
    rw[p]at b q;clear p;cases d:decide (2000<M t)
    .rw[d]at b;have r:qu _:=b;have u:qu _:=d;clear b e d;go_wp2_with (go_at_call 149;refine se (r _) ?_;rintro k w2 ⟨rfl,y⟩)
     go_roundg (M l-(i+1))
     case measure=>omega
     case rel=>
      refine⟨_,aA,by go_num,R,λj E a n=>?_,ow c (o5 y c.4)⟩;obtain a|rfl:=eY (Nat.lt_succ_iff.1 a)
      .exact f j E a n
      .rw[o.out]at n;cases n;exact u
    .rw[d]at b;have n:qu _:=b;have r:qu _:=d;clear b e d;go_wp2_with (go_at_call 149;refine se (n _) ?_;rintro k w2 ⟨rfl,u⟩)
     go_ret;exact⟨by rw[yA o.out r.out (λj E a y=>f.out j E a y)];rfl,ow c (o5 u c.4)⟩
   .have d:¬(i:Int)<M l:=by omega
    go_wp2;go_ret;refine⟨?_,c⟩;rw[wP (λj y b=>f.out j y (by have:=(aJ.1 b).1;omega) b)];rfl
def yE(v l w)(h:ny w v l)(f:M l<=4294967296):tf PQ 146 #[v,.func (.func 147) #[] #[]] w λe g=>e=qs (.bool (l.any (λt:Tx=>decide (2000<M t.3))))/\Below w.1.size w g:=by
 rw[<-Hk];have a:=El v l w h f;obtain⟨i,j,rfl⟩:=Rd.slice h;obtain⟨r,b⟩:∃r,idx (λt:Tx=>decide (2000<M t.3)) l=r:=⟨_,R⟩
 rw[b]at a⊢;have c:qu _:=a;clear a b h;go_enter (fq func146 R),ntmps146;go_wp2_with (go_at_call 196;refine se c.out ?_;rintro e w2 ⟨rfl,d⟩)
 go_ret;exact⟨R,d⟩
def vR(v l w)(h:jO w v l)(f:M l<=4294967296):tf PQ 148 #[v,.func (.func 149) #[] #[]] w λe g=>e=qs (.bool (l.any (λt:List UInt8=>decide (2000<M t))))/\Below w.1.size w g:=by
 rw[<-Hk];have a:=Cc v l w h f;obtain⟨i,j,rfl⟩:=Rd.slice h;obtain⟨r,b⟩:∃r,idx (λt:List UInt8=>decide (2000<M t)) l=r:=⟨_,R⟩
 rw[b]at a⊢;have c:qu _:=a;clear a b h;go_enter (fq func148 R),ntmps148;go_wp2_with (go_at_call 197;refine se c.out ?_;rintro e w2 ⟨rfl,d⟩)
 go_ret;exact⟨R,d⟩
def uN(u:Zq)(a vl:po):po:=we #[ox pg u.1,ox pg u.2,a,vl]
def MC(u):Dv.small u=(decide (M u.3<=20)&&decide (M u.4<=20)&&!u.3.any (λt:Tx=>decide (2000<M t.3))&&!u.4.any (λt:List UInt8=>decide (2000<M t))):=by
 unfold Dv.small;rw[Z2]
 congr 1
 .congr 1
  rw[List.all_eq_not_any_not]
  congr 2
  funext t;rw[<-decide_not];exact decide_eq_decide.2 aA
 .rw[List.all_eq_not_any_not]
  congr 2
  funext t;rw[<-decide_not];exact decide_eq_decide.2 aA
def AP(u f vl w)(r:ny w f u.3)(p:jO w vl u.4)(y:M u.3<=4294967296)(z:M u.4<=4294967296):tf PQ 102 #[uN u f vl] w λk H=>k=qs (.bool (Dv.small u))/\Below w.1.size w H:=by
 have g:Below ↑w w (o6 w (pj #[ox pg u.1,ox pg u.2,f,vl] 42)):=pb (wl _ w) fI _;obtain⟨W,b⟩:∃W,W=o6 w (pj #[ox pg u.1,ox pg u.2,f,vl] 42):=⟨_,R⟩
 rw[<-b]at g;have i:=λl hw=>yE f _ l (Rd.fF (Rd.fF r g) hw) y;have j:=λl hw=>vR vl _ l (Rd.fF (Rd.fF p g) hw) z;have G:Z W ⟨↑w,2,X⟩=N f:=kq
 have B:Z W ⟨↑w,3,X⟩=N vl:=kq
 have F:↑w<W.1.size:=kq
 obtain⟨P,Q,rfl⟩:=Rd.slice r;obtain⟨L,O,rfl⟩:=Rd.slice p;rw[MC];unfold uN;obtain⟨n,c⟩:∃n,M u.3=n:=⟨_,R⟩
 obtain⟨m,e⟩:∃m,M u.4=m:=⟨_,R⟩
 obtain⟨v,A⟩:∃o,u.3.any (λt:Tx=>decide (2000<M t.3))=o:=⟨_,R⟩
 obtain⟨x,a⟩:∃o,u.4.any (λt:List UInt8=>decide (2000<M t))=o:=⟨_,R⟩
 rw[A]at i⊢;rw[a]at j⊢;rw[c]at i G b⊢;rw[e]at j B b⊢;have s:qu _:=i;have D:qu _:=j;have d:qu _:=g;obtain⟨C,q⟩:∃C,(decide (n<=20)&&decide (m<=20)&&!v&&!x)=C:=⟨_,R⟩
 rw[q];have h:qu _:=q;clear i j g q A a c e y z r p;go_enter (fq func102 R),ntmps102;go_upto_region 1 with fail;rw[<-b];clear b;by_cases c:n<=20
 .have J:(n:Int)<=20:=by omega
  by_cases e:m<=20
  .have I:(m:Int)<=20:=by omega
   cases v
   .cases x
    all_goals
     go_wp2_with (first|(go_at_call 146;refine se (s _ ?_) ?_;(first|exact wl _ _|exact(wl _ _).drew|exact fG (wl _ _) _);rintro k w2 ⟨rfl,a⟩;have K:=oy (qi a (p:=⟨↑w,3,X⟩) F) B)|(go_at_call 148;refine se (D _ a) ?_;rintro k w3 ⟨rfl,E⟩)|fail)
     go_ret;refine⟨?_,ow d (o5 (ow a (o5 E a.4)) d.4)⟩;rw[<-h.out,Ze c,Ze e];rfl
   .go_wp2_with (first|(go_at_call 146;refine se (s _ ?_) ?_;(first|exact wl _ _|exact(wl _ _).drew|exact fG (wl _ _) _);rintro k w2 ⟨rfl,a⟩)|fail)
    go_ret;refine⟨?_,ow d (o5 a d.4)⟩;rw[<-h.out,Ze c,Ze e];rfl
  .have E:¬(m:Int)<=20:=by omega
   go_wp2;go_ret;refine⟨?_,d⟩;rw[<-h.out,Ze c,Zd e];rfl
 .have E:¬(n:Int)<=20:=by omega
  go_wp2;go_ret;refine⟨?_,d⟩;rw[<-h.out,Zd c];rfl
def qh(u:Zq):Bool:=decide (0<=u.2)&&decide (u.2<=1000000)&&Dv.small u
def tN(t:Int)(u:Zq):Bool:=decide (t+1<=u.2)&&decide (u.2<=t+24)&&Dv.small u
def GB(u):Dv.jo X u=qh u:=by unfold Dv.jo qh;simp only[Z2]
def J0(t u):Dv.jo (N t) u=tN t u:=by unfold Dv.jo tN;simp only[Z2];rfl
def lU(w:pn)(u:Zq)(a vl:po):=ny w a u.3/\jO w vl u.4/\M u.3<=4294967296/\M u.4<=4294967296
def lU.fF{w' u b vl}(h:lU w u b vl)(a:Below ↑w w w'):lU w' u b vl:=⟨Rd.fF h.1 a,Rd.fF h.2.1 a,h.2.2⟩
def first_any(u b vl w)(h:lU w u b vl):tf PQ 67 #[uN u b vl] w λe q=>e=qs (.bool (qh u))/\Below w.1.size w q:=by
 unfold uN;obtain⟨W,a,d,-⟩:=fL w #[ox pg u.1,ox pg u.2,b,vl] 42;have r:Z W ⟨↑w,0,X⟩=N (ox pg u.1):=mo
 have s:Z W ⟨↑w,1,X⟩=N (ox pg u.2):=mo
 have t:Z W ⟨↑w,2,X⟩=N b:=mo
 have v:Z W ⟨↑w,3,X⟩=N vl:=mo
 have j:=λn=>jW u.2 0 1000000 n;have c:=AP u b vl W (h.fF d).1 (h.fF d).2.1 h.2.2.1 h.2.2.2;unfold uN at c;obtain⟨z,A,rfl⟩:=Rd.slice h.1;obtain⟨x,y,rfl⟩:=Rd.slice h.2.1;obtain⟨o,l⟩:∃i,(decide (0<=u.2)&&decide (u.2<=1000000))=i:=⟨_,R⟩
 obtain⟨p,f⟩:∃i,Dv.small u=i:=⟨_,R⟩
 unfold qh;rw[l]at j⊢;rw[f]at c⊢;have k:qu _:=j;have m:qu _:=λ(_:Unit)=>c;have g:qu _:=d;clear j c d l f h;go_enter (fq func67 R),ntmps67;go_upto_region 1 with fail;rw[<-a];clear a;cases o
 .go_wp2_with (go_at_call 66;refine se (k _) ?_;rintro e w2 ⟨rfl,rfl⟩)
  go_ret;exact⟨R,g⟩
 .go_wp2_with (first|(go_at_call 66;refine se (k _) ?_;rintro e w2 ⟨rfl,rfl⟩)|(go_at_call 102;refine se (m ()) ?_;rintro e w2 ⟨rfl,f⟩)|fail)
  go_ret;exact mn
def next_any(t u b vl w)(h:lU w u b vl)(q:0<=t/\t<=4294967296):tf PQ 68 #[ox pg t,uN u b vl] w λe r=>e=qs (.bool (tN t u))/\Below w.1.size w r:=by
 unfold uN;obtain⟨W,a,d,-⟩:=fL w #[ox pg u.1,ox pg u.2,b,vl] 42;have x:Z W ⟨↑w,0,X⟩=N (ox pg u.1):=mo
 have y:Z W ⟨↑w,1,X⟩=N (ox pg u.2):=mo
 have z:Z W ⟨↑w,2,X⟩=N b:=mo
 have A:Z W ⟨↑w,3,X⟩=N vl:=mo
 have j:=λn=>jW u.2 (t+1) (t+24) n;have c:=AP u b vl W (h.fF d).1 (h.fF d).2.1 h.2.2.1 h.2.2.2;unfold uN at c;obtain⟨D,E,rfl⟩:=Rd.slice h.1;obtain⟨B,C,rfl⟩:=Rd.slice h.2.1;obtain⟨o,l⟩:∃i,(decide (t+1<=u.2)&&decide (u.2<=t+24))=i:=⟨_,R⟩
 obtain⟨p,f⟩:∃i,Dv.small u=i:=⟨_,R⟩
 unfold tN;rw[l]at j⊢;rw[f]at c⊢;have k:qu _:=j;have m:qu _:=λ(_:Unit)=>c;have g:qu _:=d;obtain⟨s,v⟩:=q;clear j c d l f h;go_enter (fq func68 R),ntmps68;go_upto_region 1 with fail;rw[<-a];clear a;cases o
 .go_wp2_with (go_at_call 66;refine se (k _) ?_;rintro e w2 ⟨rfl,rfl⟩)
  go_ret;exact⟨R,g⟩
 .go_wp2_with (first|(go_at_call 66;refine se (k _) ?_;rintro e w2 ⟨rfl,rfl⟩)|(go_at_call 102;refine se (m ()) ?_;rintro e w2 ⟨rfl,f⟩)|fail)
  go_ret;exact mn
section
variable {e s n g b a j k:Nat}{xs:List po}
def fM.put(h:fM w e s (U (N ⟨g,b,X⟩) n a) n xs)(u):fM (o3 w ⟨g,b+j,X⟩ u) e s (U (N ⟨g,b,X⟩) n a) n (xs.set j u):=by
 refine⟨by rw[List.length_set];exact h.1,?_⟩;obtain⟨d,_⟩|⟨p,t,m,o,c,k,l,f,i,hc⟩:=h.2
 .cases d
 .simp only[ry,aI,zs,and_true,true_and]at c;obtain⟨⟨rfl,rfl⟩,rfl⟩:=c;refine rz ⟨g,b,a,_,R,gI k _ u,l,f,by simpa using i,λr v q=>?_⟩
  grind
def fM.take(h:fM w e s (U (N ⟨g,b,X⟩) n a) n xs)(d:k<=n):fM w e s (U (N ⟨g,b,X⟩) k a) k (xs.take (k*s)):=by
 have p:k*s<=n*s:=cY _ d;refine⟨by rw[bA,h.1];omega,?_⟩;obtain⟨c,_⟩|⟨j,t,f,i,r,o,q,l,m,hc⟩:=h.2
 .cases c
 grind
def fM.there(h:fM w e s (U (N ⟨g,b,X⟩) n a) n xs)(c:j<n*s):(Z w ⟨g,b+j,X⟩).isSome=pw:=by rw[h.cell R j (xs[j]'(by rw[h.1];exact c)) (aK _)];rfl
end
end Go.Proofs.YtpibpdpedjinhaaGreatDoor.Hm
