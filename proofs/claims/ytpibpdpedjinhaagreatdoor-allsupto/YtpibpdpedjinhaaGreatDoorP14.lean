import Derived.Test.YtpibpdpedjinhaaGreatDoorP13
set_option maxRecDepth 100000
set_option maxHeartbeats 40000000
set_option linter.all false
open Array renaming size->qd
open Eq renaming trans->oy
open Go renaming Addr->zm,Calls->tf,Code->vy,Exit->qaC,Value->po,World->pn,info_parts->yk
open Go.Addr renaming add->sf
open Go.Ending renaming returned->qs
open Go.IntKind renaming i64->pg,u32->sr
open Go.Proofs.Tryz renaming f10->yv,f34->YH
open Go.RowKit renaming Hid->qu
open Go.RowKit.Below renaming cell->qi,mono->o5,trans->ow
open Go.Value renaming agg->we,bool->rh,int->ox,ownBlock->ov,pointer->pm,slice->U,string->pk,tuple->sh
open Go.World renaming cell?->Z
open List renaming length->M,length_eq_zero_iff->tt
open Option renaming none->X,some->N
open Prod renaming fst->p9
namespace Go.Proofs.YtpibpdpedjinhaaGreatDoor
namespace Hm
open Go.RowKit Go.Joins Go.Shelf
open Dv (Ba Lo Cf Zq Ch fN iH)
open Fr (fG)
variable {ok:Bool}{Zs:pn->Prop}{g a:Nat}
noncomputable def mg:vy:=match yv.9 with
 |some c=>c
 |_=>.ret
noncomputable def Xm:vy:=cq [0] mg
noncomputable def VN:vy:=cq [1,0] mg
noncomputable def VM:vy:=cq [1,1,0,0] mg
noncomputable def VU:vy:=cq [1,1,0,1,2] mg
noncomputable def Wd:vy:=cq [1,1,1,0,0] mg
noncomputable def Wt:vy:=cq [1,1,1,0,1,2] mg
noncomputable def V0:vy:=cq [1,1,1,1,0] mg
noncomputable def VV:vy:=cq [1,1,1,1,1,0,0] mg
noncomputable def Xp:vy:=cq [1,1,1,1,1,0,1,4,5,0,0] mg
noncomputable def Se:vy:=cq [1,1,1,1,1,0,1,4,5,1,0,4,0] mg
noncomputable def Qk:vy:=cq [1,1,1,1,1,0,1,4,5,1,0,4,1,0,0] mg
noncomputable def QL:vy:=cq [1,1,1,1,1,0,1,4,5,1,0,4,1,0,1,2] mg
noncomputable def PA:vy:=cq [1,1,1,1,1,0,1,4,5,1,0,4,1,1] mg
noncomputable def Ux:vy:=cq [1,1,1,1,1,0,1,4,5,1,1] mg
structure Ij(tm:Array po)(vc:po)(cb:Nat):Prop where
 size:qd tm=87
 s1:tm[1]? =N vc
 s2:tm[2]? =N (pm (N ⟨cb,0,X⟩))
structure Je(tm:Array po)(vc:po)(cb:Nat)(b:Int)(i:Nat):Prop where
 size:qd tm=87
 s1:tm[1]? =N vc
 s2:tm[2]? =N (pm (N ⟨cb,0,X⟩))
 s7:tm[7]? =N (ox pg b)
 s8:tm[8]? =N (ox pg i)
attribute [local go_sem] vk vD uF uZ Array.size_setIfInBounds Array.getElem_setIfInBounds_ne Array.getElem_setIfInBounds_self
section
variable {tm:Array po}{w:pn}{vc:po}{va:Option zm}{cb vn vcap i:Nat}{c:Cf}{b:Int}{Q:qaC->Act->pn->Prop}
def Rg(b:qd tm=87)(d:tm[0]? =N (.agg (fP c)))(t1:tm[1]? =N vc)(hK:∀a,Ij a vc w.1.size->Q .normal ⟨a,[]⟩ (w.alloc (.cells (fP c) 24))):Xm.wp PQ Q ⟨tm,[]⟩ w:=by unfold fP at *;have a:qu _:=hK;clear hK;simp only[Xm,mg,cq,yv];go_wp2;exact a _ hc
def OG(h:Ij tm vc cb)(hc:w.1[cb]? =N (.cells (fP c) 24 (0,0)))(b:tf PQ 31 #[.agg (fP c)] w λe a=>e=qs (.bool ok)/\Zs a)(hK:∀a d,Ij a vc cb->a[6]? =N (.bool ok)->Zs d->Q .normal ⟨a,[]⟩ d):VN.wp PQ Q ⟨tm,[]⟩ w:=by
 obtain⟨p,q,r⟩:=h;unfold fP at *;let⟨g,i,j,k,l,m,n⟩:=rD hc;have f:qu _:=λ(_:Unit)=>b;have d:qu _:=hK;clear hK b hc;simp only[VN,mg,cq,yv];go_wp2_with (go_at_call 31;refine aO (f ()) ?_;rintro o w2 ⟨rfl,a⟩;have e:qu _:=a;clear a)
 exact d _ _ hc hw e.out
def PF(h:Ij tm vc cb)(e:tm[6]? =N (.bool ok))(hK:∀a,Ij a vc cb->a[16]? =N (.bool (!ok))->Q .normal ⟨a,[]⟩ w):VM.wp PQ Q ⟨tm,[]⟩ w:=by obtain⟨b,c,d⟩:=h;have a:qu _:=hK;clear hK;simp only[VM,mg,cq,yv];go_wp2;exact a _ hc hw
def Rf(h:Ij tm vc cb)(hK:∀a,a[4]? =N (U X 0 0)->a[5]? =N (ox pg 1)->Q .ret ⟨a,[]⟩ w):VU.wp PQ Q ⟨tm,[]⟩ w:=by obtain⟨b,c,d⟩:=h;have a:qu _:=hK;clear hK;simp only[VU,mg,cq,yv];go_wp2;exact a _ hw hw
def QD(h:Ij tm (U va vn vcap) cb)(hK:∀a,Ij a (U va vn vcap) cb->a[24]? =N (rh (decide (vn<1\/60<vn)))->Q .normal ⟨a,[]⟩ w):Wd.wp PQ Q ⟨tm,[]⟩ w:=by
 obtain⟨e,f,g⟩:=h
 have hw:(vn=0/\decide (vn<1\/60<vn)=true)\/(1<=vn/\vn<=60/\decide (vn<1\/60<vn)=false)\/(60<vn/\decide (vn<1\/60<vn)=true):=by
  by_cases b:vn=0
  .exact .inl ⟨b,Ze (.inl aA)⟩
  .by_cases c:vn<=60
   .exact .inr (.inl ⟨aA,c,Zd aA⟩)
   .exact .inr (.inr ⟨aA,Ze (.inr aA)⟩)
 obtain⟨d,wd⟩|⟨w1,w2,wd⟩|⟨w2,wd⟩:=hw
 case' inl=>have b:(vn:Int)<1:=aA
 case' inr.inl=>have b:¬(vn:Int)<1:=aA
 case' inr.inl=>have b:¬(60:Int)<vn:=aA
 case' inr.inr=>have b:¬(vn:Int)<1:=aA
 case' inr.inr=>have b:(60:Int)<vn:=aA
 case' inl=>clear d
 case' inr.inl=>clear w1 w2
 case' inr.inr=>clear w2
 all_goals
  rw[wd]at hK;have a:qu _:=hK;clear hK wd;simp only[Wd,mg,cq,yv];go_wp2;exact a _ hc (by first|exact hw|simp[*])
def P8(h:Ij tm vc cb)(hK:∀a,a[4]? =N (U X 0 0)->a[5]? =N (ox pg 2)->Q .ret ⟨a,[]⟩ w):Wt.wp PQ Q ⟨tm,[]⟩ w:=by obtain⟨b,c,d⟩:=h;have a:qu _:=hK;clear hK;simp only[Wt,mg,cq,yv];go_wp2;exact a _ hw hw
def Rv(h:Ij tm vc cb)(hK:∀a,Ij a vc cb->a[7]? =N (ox pg (-1))->Q .normal ⟨a,[]⟩ w):V0.wp PQ Q ⟨tm,[]⟩ w:=by obtain⟨b,c,d⟩:=h;have a:qu _:=hK;clear hK;simp only[V0,mg,cq,yv];go_wp2;exact a _ hc hw
def Qe(h:Ij tm vc cb)(f:tm[7]? =N (ox pg b))(hK:∀a,Je a vc cb b 0->Q .normal ⟨a,[]⟩ w):VV.wp PQ Q ⟨tm,[]⟩ w:=by obtain⟨c,d,e⟩:=h;have a:qu _:=hK;clear hK;simp only[VV,mg,cq,yv];go_wp2;exact a _ hc
def Ph(h:Je tm (U va vn vcap) cb b i)(hK:∀a,Je a (U va vn vcap) cb b i->a[28]? =N (rh (decide (i<vn)))->Q .normal ⟨a,[]⟩ w):Xp.wp PQ Q ⟨tm,[]⟩ w:=by obtain⟨c,d,e,f,g⟩:=h;have a:qu _:=hK;clear hK;simp only[Xp,mg,cq,yv];go_wp2;exact a _ hc hw
def Ky{p n l k id o m j}(h:Je tm (U (N ⟨g,a,X⟩) vn vcap) cb b i)(u:i<vn)(y:Z w ⟨g,a+i*4,X⟩=N (ox pg id))(z:Z w ⟨g,a+i*4+1,X⟩=N (ox pg o))(A:Z w ⟨g,a+i*4+2,X⟩=N (U m p n))(B:Z w ⟨g,a+i*4+3,X⟩=N (U j l k))(f:tf PQ 32 #[ox pg b,we #[ox pg id,ox pg o,U m p n,U j l k]] w λe c=>e=qs (.bool ok)/\Zs c)(hK:∀c q,Je c (U (N ⟨g,a,X⟩) vn vcap) cb b i->c[9]? =N (.bool ok)->Zs q->Q .normal ⟨c,[]⟩ q):Se.wp PQ Q ⟨tm,[]⟩ w:=by
 obtain⟨x,C,D,E,F⟩:=h;have v:(i:Int)<vn:=aA
 have t:qu _:=λ(_:Unit)=>f;have r:qu _:=hK;clear hK f;simp only[Se,mg,cq,yv];go_wp2_with (go_at_call 32;refine aO (t ()) ?_;rintro e w2 ⟨rfl,d⟩;have s:qu _:=d;clear d)
 exact r _ _ hc hw s.out
def NI(h:Je tm vc cb b i)(j:tm[9]? =N (.bool ok))(hK:∀a,Je a vc cb b i->a[38]? =N (.bool (!ok))->Q .normal ⟨a,[]⟩ w):Qk.wp PQ Q ⟨tm,[]⟩ w:=by obtain⟨c,d,e,f,g⟩:=h;have a:qu _:=hK;clear hK;simp only[Qk,mg,cq,yv];go_wp2;exact a _ hc hw
def La(h:Je tm vc cb b i)(hK:∀a,a[4]? =N (U X 0 0)->a[5]? =N (ox pg 2)->Q .ret ⟨a,[]⟩ w):QL.wp PQ Q ⟨tm,[]⟩ w:=by obtain⟨c,d,e,f,g⟩:=h;have a:qu _:=hK;clear hK;simp only[QL,mg,cq,yv];go_wp2;exact a _ hw hw
def MF{c}(h:Je tm (U (N ⟨g,a,X⟩) vn vcap) cb b i)(e:i<vn)(k:Z w ⟨g,a+i*4+1,X⟩=N (ox pg c))(hK:∀d,Je d (U (N ⟨g,a,X⟩) vn vcap) cb c i->Q .normal ⟨d,[]⟩ w):PA.wp PQ Q ⟨tm,[]⟩ w:=by
 obtain⟨j,l,m,n,o⟩:=h;have f:(i:Int)<vn:=aA
 have d:qu _:=hK;clear hK;simp only[PA,mg,cq,yv];go_wp2;exact d _ hc
def Rz(h:Je tm vc cb b i)(c:i<1048576)(hK:∀a,Je a vc cb b (i+1)->Q .normal ⟨a,[]⟩ w):Ux.wp PQ Q ⟨tm,[]⟩ w:=by obtain⟨d,e,f,g,j⟩:=h;have a:qu _:=hK;clear hK;simp only[Ux,mg,cq,yv];go_wp2;exact a _ hc
end
end Hm
namespace Hm
open Go.RowKit Go.Joins Go.Shelf
open Dv (Ba Lo Cf Zq Ch fN iH)
open Fr (fG)
variable {Zs:pn->Prop}
noncomputable def LM:vy:=cq [1,1,1,1,1,1,0] mg
noncomputable def IY:vy:=cq [1,1,1,1,1,1,1,0] mg
noncomputable def Ls:vy:=cq [1,1,1,1,1,1,1,1,0,0] mg
noncomputable def Pm:vy:=cq [1,1,1,1,1,1,1,1,0,1,4,5,0,0] mg
noncomputable def QM:vy:=cq [1,1,1,1,1,1,1,1,0,1,4,5,1,0,4,0] mg
noncomputable def ND:vy:=cq [1,1,1,1,1,1,1,1,0,1,4,5,1,0,4,1,0] mg
noncomputable def PJ:vy:=cq [1,1,1,1,1,1,1,1,0,1,4,5,1,0,4,1,1,4,5,0,0] mg
noncomputable def Mq:vy:=cq [1,1,1,1,1,1,1,1,0,1,4,5,1,0,4,1,1,4,5,1,4] mg
noncomputable def JQ:vy:=cq [1,1,1,1,1,1,1,1,0,1,4,5,1,1] mg
noncomputable def Lz:vy:=cq [1,1,1,1,1,1,1,1,1] mg
structure E4(tm:Array po)(vc:po)(kb n:Nat):Prop where
 size:qd tm=87
 s1:tm[1]? =N vc
 s10:tm[10]? =N (pm (N ⟨kb,0,X⟩))
 s11:tm[11]? =N (ox pg n)
attribute [local go_sem] vk vD uF uZ Array.size_setIfInBounds Array.getElem_setIfInBounds_ne Array.getElem_setIfInBounds_self
section
variable {tm:Array po}{w:pn}{vc:po}{va:Option zm}{cb kb vn vcap n:Nat}{c:Cf}{Q:qaC->Act->pn->Prop}
def K9(h:Ij tm vc cb)(b:∃a n k,vc=U a n k)(hc:w.1[cb]? =N (.cells (fP c) 24 (0,0)))(hK:∀a,qd a=87->a[1]? =N vc->a[10]? =N (pm (N ⟨↑w,0,X⟩))->Q .normal ⟨a,[]⟩ (w.alloc (.cells (Bl c vc (U X 0 0) (U X 0 0) (U X 0 0)) 89))):LM.wp PQ Q ⟨tm,[]⟩ w:=by obtain⟨o,p,q⟩:=h;obtain⟨d,k,m,rfl⟩:=b;unfold fP at *;unfold Bl at *;let⟨e,f,g,i,j,l,n⟩:=rD hc;have a:qu _:=hK;clear hK hc;simp only[LM,mg,cq,yv];go_wp2;exact a _ hw hw hw
def Ob(b:qd tm=87)(t1:tm[1]? =N vc)(c:tm[10]? =N (pm (N ⟨kb,0,X⟩)))(hK:∀a,E4 a vc kb 0->Q .normal ⟨a,[]⟩ w):Ls.wp PQ Q ⟨tm,[]⟩ w:=by have a:qu _:=hK;clear hK;simp only[Ls,mg,cq,yv];go_wp2;exact a _ hc
def Na(h:E4 tm (U va vn vcap) kb n)(hK:∀a,E4 a (U va vn vcap) kb n->a[73]? =N (rh (decide (n<vn)))->Q .normal ⟨a,[]⟩ w):Pm.wp PQ Q ⟨tm,[]⟩ w:=by obtain⟨b,c,d,e⟩:=h;have a:qu _:=hK;clear hK;simp only[Pm,mg,cq,yv];go_wp2;exact a _ hc hw
def Mb(h:E4 tm vc kb n)(b:tf PQ 34 #[pm (N ⟨kb,0,X⟩),ox pg n] w λe a=>e=qs (sh #[])/\Zs a)(hK:∀a c,E4 a vc kb n->Zs c->Q .normal ⟨a,[]⟩ c):QM.wp PQ Q ⟨tm,[]⟩ w:=by
 obtain⟨g,i,j,k⟩:=h;have e:qu _:=λ(_:Unit)=>b;have c:qu _:=hK;clear hK b;simp only[QM,mg,cq,yv];go_wp2_with (go_at_call 34;refine aO (e ()) ?_;rintro f w2 ⟨rfl,a⟩;have d:qu _:=a;clear a)
 exact c _ _ hc d.out
def Nq(h:E4 tm vc kb n)(hK:∀a,E4 a vc kb n->a[12]? =N (rh true)->Q .normal ⟨a,[]⟩ w):ND.wp PQ Q ⟨tm,[]⟩ w:=by obtain⟨b,c,d,e⟩:=h;have a:qu _:=hK;clear hK;simp only[ND,mg,cq,yv];go_wp2;exact a _ hc hw
def Mj{m}(h:E4 tm vc kb n)(f:tm[12]? =N (.bool m))(hK:∀a,E4 a vc kb n->a[79]? =N (.bool m)->Q .normal ⟨a,[]⟩ w):PJ.wp PQ Q ⟨tm,[]⟩ w:=by obtain⟨b,c,d,e⟩:=h;have a:qu _:=hK;clear hK;simp only[PJ,mg,cq,yv];go_wp2;exact a _ hc hw
def K6{Zs:Bool->pn->Prop}(h:E4 tm vc kb n)(c:tf PQ 35 #[pm (N ⟨kb,0,X⟩),ox pg n] w λe a=>∃b,e=qs (rh b)/\Zs b a)(hK:∀a d b,E4 a vc kb n->a[12]? =N (rh b)->Zs b d->Q .normal ⟨a,[]⟩ d):Mq.wp PQ Q ⟨tm,[]⟩ w:=by
 obtain⟨i,j,k,l⟩:=h;have e:qu _:=λ(_:Unit)=>c;have b:qu _:=hK;clear hK c;simp only[Mq,mg,cq,yv];go_wp2_with (go_at_call 35;refine aO (e ()) ?_;rintro g w2 ⟨f,rfl,a⟩;have d:qu _:=a;clear a)
 exact b _ _ _ hc hw d.out
def Kq(h:E4 tm vc kb n)(b:n<1048576)(hK:∀a,E4 a vc kb (n+1)->Q .normal ⟨a,[]⟩ w):JQ.wp PQ Q ⟨tm,[]⟩ w:=by obtain⟨c,d,e,f⟩:=h;have a:qu _:=hK;clear hK;simp only[JQ,mg,cq,yv];go_wp2;exact a _ hc
def LQ{vl}(h:E4 tm vc kb n)(d:Z w ⟨kb,10,X⟩=N vl)(b:∃a n k,vl=U a n k)(hK:∀a,a[4]? =N vl->a[5]? =N (ox pg 0)->Q .ret ⟨a,[]⟩ w):Lz.wp PQ Q ⟨tm,[]⟩ w:=by obtain⟨e,f,g,i⟩:=h;obtain⟨c,k,m,rfl⟩:=b;have a:qu _:=hK;clear hK;simp only[Lz,mg,cq,yv];go_wp2;exact a _ hw hw
end
end Hm
namespace Hm
open Go.RowKit Go.Joins Go.Shelf
open Dv (Ba Lo Cf Zq Ch fN iH)
open Fr (fG)
section
variable {P:Program}{g b f h e l:Nat}{a d:Int}{m o:Option zm}{k j:po}{ds:List (List UInt8)}
def Gy{ops:Array Oper}{o:Oper}{a:Act}{w:pn}{K:Act->pn->Prop}{Q:qaC->Act->pn->Prop}{E:Prop}
  (g:o.6=X) (f:FuncId) (x:Operand) (t:TypeId) (i:o.2=Op.call { callee:=.value (.func f),args:=#[x],argTypes:=#[t] }) (v:po) (k:a.eval x=v) (d:(callFunc f #[v]).run P w=.ok (.enter f #[v]) w) {c:Ending->pn->Prop} (hc:tf P f #[v] w c)
  (hK:∀e b,c e b->∃u,e=qs u/\K (a.put o.1 u) b):if Region.wanted o (yielded ops a.1)=true then Oper.wp P o a w K Q else E:=by
 have hw:Region.wanted o (yielded ops a.1)=true:=by simp[Region.wanted,g]
 rw[Zb hw];unfold Oper.wp;obtain⟨m,op,p,pos,l,n⟩:=o;cases i;rw[execOp_call_go];have:(callFunc f (#[]++(#[x]:Array Operand).map a.eval++#[])).run P w=.ok (.enter f #[v]) w:=by simpa[k]using d
 rw[this,Oper.upon_enter];refine aO hc λe b j=>?_;obtain⟨u,rfl,h⟩:=hK e b j;exact h
section
variable {tm:Array po}{w:pn}{vc:po}{va:Option zm}{cb kb vn vcap n:Nat}{c:Cf}{Q:qaC->Act->pn->Prop}
def Ly{u0 u2 u3 u4 u5 u6 u7 u8 u9 an ao ap aq ar au av aw ax ay az a0 a1 a2 a3 a4 a5 a6 a7 a8 a9 ba bb bc bd bf bg bh bj bk bl bm bo bp bq br bs bu bv bw bx bz b0 b1 b2 b3 b4 b5 b6 b7 b8 b9 ca cb cc cd ce cf cg ch ci cj ck cl cm cn co cp cr cs ct cu cv cw cx cy}(hw:gq w kb c vc k j (U X 0 0))(c0:0<vn)(E:g<↑w)(cz:g≠kb)(m0:Z w ⟨g,b,X⟩=N (ox pg a))(m1:Z w ⟨g,b+1,X⟩=N (ox pg d))(m2:Z w ⟨g,b+2,X⟩=N (U m f h))(m3:Z w ⟨g,b+3,X⟩=N (U o e l))(Y:∀V,Below ↑w w V->tf PQ 33 #[we #[ox pg a,ox pg d,U m f h,U o e l]] V λD i=>∃t u,D=qs (U t (M ds) u)/\jk i ↑V (U t (M ds) u) ds/\Below ↑V V i)(hK:∀q i A x y,qd q=87->q[1]? =N (U (N ⟨g,b,X⟩) vn vcap)->q[10]? =N (pm (N ⟨kb,0,X⟩))->gq i kb c vc k j A->fM i 62 8 A 1 [ox pg 0,ox pg d,ox pg 0,ox pg a,ox pg 0,U X 0 0,U x (M ds) y,ox pg 0]->(∀I,ov A=N I->w.1.size<=I)->jk i ↑w (U x (M ds) y) ds->Below kb w i->Q .normal ⟨q,[]⟩ i):IY.wp PQ Q ⟨#[u0,U (N ⟨g,b,X⟩) vn vcap,u2,u3,u4,u5,u6,u7,u8,u9,pm (N ⟨kb,0,X⟩),an,ao,ap,aq,ar,au,av,aw,ax,ay,az,a0,a1,a2,a3,a4,a5,a6,a7,a8,a9,ba,bb,bc,bd,bf,bg,bh,bj,bk,bl,bm,bo,bp,bq,br,bs,bu,bv,bw,bx,bz,b0,b1,b2,b3,b4,b5,b6,b7,b8,b9,ca,cb,cc,cd,ce,cf,cg,ch,ci,cj,ck,cl,cm,cn,co,cp,cr,cs,ct,cu,cv,cw,cx,cy],[]⟩ w:=by
 have aj:Z w ⟨kb,10,X⟩=N (U X 0 0):=im
 have fz:=aM hw;have ad:=hw.lt;let⟨i0,ac,ag,ah,ai⟩:=yk xR;have B:qu _:=fE ac (fE ag (fE ah ai));have c1:(0:Int)<vn:=aA
 have hF:∀V,Below ↑w w V->Z V ⟨kb,10,X⟩=N (U X 0 0)/\(∀F,V.frozen? ⟨kb,F,X⟩=false)/\Z V ⟨g,b,X⟩=N (ox pg a)/\Z V ⟨g,b+1,X⟩=N (ox pg d)/\Z V ⟨g,b+2,X⟩=N (U m f h)/\Z V ⟨g,b+3,X⟩=N (U o e l):=λV p=>⟨oy (qi p (p:=⟨kb,10,X⟩) ad) aj,aM (hw.fF p),oy (qi p (p:=⟨g,b,X⟩) E) m0,oy (qi p (p:=⟨g,b+1,X⟩) E) m1,oy (qi p (p:=⟨g,b+2,X⟩) E) m2,oy (qi p (p:=⟨g,b+3,X⟩) E) m3⟩
 have aa:∀(n r:pn)(t:Option zm)(u v G C:Nat)(q:Array po),(∃V,Below ↑w w V/\jk n ↑V (U t (M ds) u) ds/\Below ↑V V n)->fM r 62 8 (U (N ⟨v,G,X⟩) 1 C) 1 [ox pg 0,ox pg d,ox pg 0,ox pg a,ox pg 0,U X 0 0,U t (M ds) u,ox pg 0]->(∃Zr,Below ↑n n Zr/\jC (U X 0 0) v Zr r)->qd q=87->q[1]? =N (U (N ⟨g,b,X⟩) vn vcap)->q[10]? =N (pm (N ⟨kb,0,X⟩))->Q .normal ⟨q,[]⟩ (r.setCell ⟨kb,10,X⟩ (U (N ⟨v,G,X⟩) 1 C)):=λn r t u v G C q ⟨V,p,hm,J⟩ hr ⟨Zr,K,hg⟩ s0 s1 am=>by
  have T:Below ↑n n r:=ow K (o5 (iD (lo:=Zr.1.size) hg gh fI) K.4);have W:Below ↑w w r:=ow (ow p (o5 J p.4)) (o5 T (aX p.4 J.4));have P:=hw.fF W;have ak:jk r ↑w (U t (M ds) u) ds:=⟨hm.1.fF T,λI A=>aX p.4 (hm.2 I A)⟩
  refine hK q _ _ t u s0 s1 am (block_setCell P (i:=10) _) (hr.gE (fT.set r kb 10 _) (λI A i=>fK hr P aB (by rw[A,i]))) (λI A=>?_) (ak.keeps (fN.set (ts:=[89]) P aC _ _) aB) ((o5 W (eZ ad)).setCell (p:=⟨kb,10,X⟩) fI _);have D:v=I:=by simpa[ov]using A
  subst D;obtain i|i:=hg.own
  .simp[ov]at i
  .exact aX (aX (ow p (o5 J p.4)).4 K.4) i
 have H:qu _:=fE Y (fE hF aa);clear Y hK hF aa ac ag ah ai hw;have s:=aH ↑w w;simp only[IY,mg,cq,yv];refine wp_region_noPanic ?_;go_region_law ((first|(refine Gy (by rfl) 33 (.tmp 63) 42 (by rfl) (we #[ox pg a,ox pg d,U m f h,U o e l]) (by rfl) (Vl aB _ _) (H.1 _ ?_) ?_;(first|exact s|exact s.drew|exact fG s _);rintro D n ⟨x,y,rfl,ae,L⟩;refine⟨_,R,?_⟩;have z:Below ↑w w n:=ow (by first|exact s|exact s.drew|exact fG s _) (o5 L aC);let⟨y1,y2,y3,y4,y5,y6⟩:=H.2.1 n z;have y7:=λF=>(H.2.1 (n.alloc F) (z.alloc z.4 F)).1;have H5:qu (∃V,Below ↑w w V/\jk n ↑V (U x (M ds) y) ds/\Below ↑V V n):=⟨_,by first|exact s|exact s.drew|exact fG s _,ae,L⟩;clear ae L)|(refine jK (by rfl) (.tmp 52) (.tmp 66) 35 (by rfl) 62 i0 8 96 (uq Tryz.underlying35) B.1 B.2.1 B.2.2.1 B.2.2.2 (by rfl) aB (U X 0 0) 0 [] (by rfl) (fM.nil _ _ _) ⟨↑n,0,X⟩ 1 1 [ox pg 0,ox pg d,ox pg 0,ox pg a,ox pg 0,U X 0 0,U x (M ds) y,ox pg 0] (by rfl) aB (by rfl) (by intro A I i;match A,i with|0,i=>(simp at i;subst i;simp[sf])|1,i=>(simp at i;subst i;simp[sf])|2,i=>(simp at i;subst i;simp[sf])|3,i=>(simp at i;subst i;simp[sf])|4,i=>(simp at i;subst i;simp[sf])|5,i=>(simp at i;subst i;simp[sf])|6,i=>(simp at i;subst i;simp[sf])|7,i=>(simp at i;subst i;simp[sf])) (by intro A i;simp at i;rcases i with rfl|rfl|rfl|rfl|rfl|rfl|rfl|rfl<;>rfl) aE aA ?_;intro v G C r af ab;have O:∃Zr,Below ↑n n Zr/\jC (U X 0 0) v Zr r:=⟨_,by first|exact(aH _ n).alloc fI _|exact((aH _ n).alloc fI _).drew|exact(aH _ n).drew.alloc fI _|exact((aH _ n).drew.alloc fI _).drew,ab⟩;obtain⟨z1,z2,-⟩:=H.2.1 r (by obtain⟨Zr,i,A⟩:=O;exact ow z (o5 (ow i (o5 (iD (lo:=Zr.1.size) A gh fI) i.4)) z.4));have S:qu _:=fE af O;clear af ab O)|fail))
 all_goals
  refine NoPanic.normal ?_;exact H.2.2 _ _ _ _ _ _ _ _ H5 S.1 S.2 R R R
def KC(i:qd tm=87)(t1:tm[1]? =N (U (N ⟨g,b,X⟩) vn vcap))(u:tm[10]? =N (pm (N ⟨kb,0,X⟩)))(hw:gq w kb c vc k j (U X 0 0))(z:0<vn)(y:g<↑w)(x:g≠kb)(B:Z w ⟨g,b,X⟩=N (ox pg a))(C:Z w ⟨g,b+1,X⟩=N (ox pg d))(D:Z w ⟨g,b+2,X⟩=N (U m f h))(E:Z w ⟨g,b+3,X⟩=N (U o e l))(v:∀V,Below ↑w w V->tf PQ 33 #[we #[ox pg a,ox pg d,U m f h,U o e l]] V λr q=>∃n p,r=qs (U n (M ds) p)/\jk q ↑V (U n (M ds) p) ds/\Below ↑V V q)(hK:∀p n q r s,qd p=87->p[1]? =N (U (N ⟨g,b,X⟩) vn vcap)->p[10]? =N (pm (N ⟨kb,0,X⟩))->gq n kb c vc k j q->fM n 62 8 q 1 [ox pg 0,ox pg d,ox pg 0,ox pg a,ox pg 0,U X 0 0,U r (M ds) s,ox pg 0]->(∀t,ov q=N t->w.1.size<=t)->jk n ↑w (U r (M ds) s) ds->Below kb w n->Q .normal ⟨p,[]⟩ n):IY.wp PQ Q ⟨tm,[]⟩ w:=by
 obtain⟨A,rfl,i⟩:=jg i
 iterate 87 (obtain⟨_,A,rfl,n⟩:=je i;clear i;have i:=n;clear n)
 obtain rfl:=tt.1 i;clear i;simp only[cN,cM,cG,aI]at t1 u;subst t1 u;exact Ly hw z y x B C D E v hK
end
end
open Dv (Ba Lo Cf Zq Ch fN iH kK ku uC)
section
variable {tm:Array po}{w:pn}{d n lo:Nat}{vwa:po}{cs:List (Ch×po)}{Q:qaC->Act->pn->Prop}
noncomputable def tk1:vy:=cq [1,0] rJ
def P4{vc aw c va L}(h:zE tm d n)(t4:tm[4]? =N (U X 0 0))(hw:gq w d c vc (U va (M cs) L) vwa aw)(iO:iH w lo (U va (M cs) L) cs)(ae:∀p∈cs,p.1.2<=n)(hn:n<60)(a4:1<=c.3/\c.3<=8)(az:M cs<=1048576)(hK:∀e r a b f,zE e d n->e[4]? =N (U a (M r) b)->r=cs.filter (λp=>decide ((n:Int)-(p.1.2:Int)<=c.3))->fM f 121 4 (U a (M r) b) (M r) (r.flatMap kK)->(∀g,ov (U a (M r) b)=N g->w.1.size<=g)->Below ↑w w f->Q .normal ⟨e,[]⟩ f):tk1.wp PQ Q ⟨tm,[]⟩ w:=by
 obtain⟨j,t0,t1⟩:=h;obtain⟨au,rfl,j⟩:=jg j
 iterate 142 (obtain⟨_,au,rfl,a⟩:=je j;clear j;have j:=a;clear a)
 obtain rfl:=tt.1 j;clear j;simp only[cN,cM,cG,aI]at t0 t1 t4;subst t0 t1 t4;let⟨i0,ad,aj,ak,am⟩:=yk KR;have A:qu _:=fE ad (fE aj (fE ak am));have H:qu _:=fE hw (fE iO (fE ae hK));clear hw iO ae hK ad aj ak am;simp only[tk1,rJ,cq,YH];go_wp2;go_loopg [4,5] (M cs) (λf k l e=>∃(i:Nat)(r:List (Ch×po))(a:Option zm)(b:Nat),i<=M cs/\l=ox pg i/\k=U a (M r) b/\M r<=i/\f=M cs-i/\qu (r=(cs.take i).filter (λp=>decide ((n:Int)-(p.1.2:Int)<=c.3))/\fM e 121 4 (U a (M r) b) (M r) (r.flatMap kK)/\(∀g,ov (U a (M r) b)=N g->w.1.size<=g)/\Below ↑w w e))
 case atStart=>exact⟨0,[],X,0,bU _,R,R,fI,R,aC,fM.nil _ _ _,gh,aH _ _⟩
 case round=>
  obtain⟨i,r,I,J,hi,rfl,rfl,a3,rfl,a⟩:=hrel;have x:=H.1.fF a.2.2.2;have c8:Z wr ⟨d,8,X⟩=N (U va (M cs) L):=by rw[x.cell];rfl
  have c2:Z wr ⟨d,2,X⟩=N (ox pg c.3):=by rw[x.cell];rfl
  have a1:=x.lt;have Hw:qu _:=x;clear x;by_cases aq:i<M cs
  .have a2:(i:Int)<M cs:=by omega
   obtain⟨z,t⟩:∃z,cs[i]? =N z:=⟨_,aK aq⟩
   have C:=H.2.1.keeps (fN.fF [] a.2.2.2) aC aC;obtain⟨g,y,ax,hv,ay,-,D⟩:=C.1.pos aA;simp only[Value.slice.injEq,true_and]at hv;obtain⟨rfl,rfl⟩:=hv;let⟨k0,k1,F,k3⟩:=C.get R t;have ar:=H.2.2.1 z (aS t);have af:=C.2 z (aS t);obtain⟨⟨m,e,pl,q⟩,pv⟩:=z;let⟨o,p,ag⟩:=Fr.gW af;dsimp only at k0 k1 F k3 ar ag;subst ag
   have ah:cs.take (i+1)=cs.take i++[(⟨m,e,pl,q⟩,U o (M pl) p)]:=by
    let⟨b,f⟩:=aJ.1 t;rw[cO b,f]
   obtain⟨G,aa⟩:∃k,M pl=k:=⟨_,R⟩
   rw[aa]at F;have P:qu _:=fE ah aa;clear C t af ah aa
   have l:decide ((n:Int)-(e:Int)<=c.3)=true/\(n:Int)-(e:Int)<=c.3\/decide ((n:Int)-(e:Int)<=c.3)=false/\¬(n:Int)-(e:Int)<=c.3:=by
    by_cases h:(n:Int)-(e:Int)<=c.3
    .grind
    .grind
   obtain⟨B,W⟩:∃B,decide ((n:Int)-(e:Int)<=c.3)=B:=⟨_,R⟩
   have O:qu _:=W;go_upto_region 4 with fail;go_cut [37] from 13 to 47 (λv b=>v=.bool B/\qu (Below ↑wr wr b))
   case first=>as_aux_lemma=>
    clear W;obtain⟨b,f⟩|⟨b,f⟩:=l
    all_goals
     go_quiet (fail);go_wp2;go_meet;refine⟨?_,by first|exact(aH _ wr).drew|exact fG (aH _ _) _|exact aH _ _⟩;rw[<-O.out];simp[*]
   case rest=>
    rename pn=>wd
    obtain⟨rfl,f⟩:=hcut;clear W l c8 c2;have v:=ow a.2.2.2 (o5 f a.2.2.2.4);cases B with
    |false=>
     go_wp2;go_roundg (M cs-(i+1))
     case measure=>omega
     case rel=>exact⟨i+1,r,I,J,aA,by go_num,R,aA,R,by rw[P.out.1,eA,<-a.out.1];simp[O.out],a.2.1.fF f,a.2.2.1,v⟩
    |true=>
     have ai:=H.1.fF v;have c8:Z wd ⟨d,8,X⟩=N (U (N ⟨g,y,X⟩) (M cs) L):=by rw[ai.cell];rfl
     have a0:=f.4;have d0:=oy (qi f (p:=⟨g,y+i*4,X⟩) D) k0;have d1:=oy (qi f (p:=⟨g,y+i*4+1,X⟩) D) k1;have d2:=oy (qi f (p:=⟨g,y+i*4+2,X⟩) D) F;have d3:=oy (qi f (p:=⟨g,y+i*4+3,X⟩) D) k3;have ao:qu (∀ab,fM (wd.alloc ab) 121 4 (U I (M r) J) (M r) (r.flatMap kK)):=λab=>(a.2.1.fF f).fF ((aH _ wd).alloc fI ab);have u1:∀K∈[ox sr m,ox pg e,U o G p,.bool q],K.oneCell'=true:=by intro ac l;simp at l;rcases l with rfl|rfl|rfl|rfl<;>rfl
     have u2:∀E K,[ox sr m,ox pg e,U o G p,.bool q][E]? =N K->Z (wd.alloc (.cells #[ox sr m,ox pg e,U o G p,.bool q] 121)) ((⟨↑wd,0,X⟩:zm).add E)=N K:=by intro E ac b;match E,b with|0,b=>(simp at b;subst b;simp[sf])|1,b=>(simp at b;subst b;simp[sf])|2,b=>(simp at b;subst b;simp[sf])|3,b=>(simp at b;subst b;simp[sf])
     have u3:M r+1<=maxLen:=aE
     have T:qu _:=fE u1 (fE u2 (fE u3 v));clear u1 u2 u3 k0 k1 F k3 ai v;go_wp2_with (first|(at_builtin;refine fX _ R (.tmp 38) (.tmp 46) 86 R 121 i0 _ 4 48 (uq Tryz.underlying86) A.1 A.2.1 A.2.2.1 A.2.2.2 R aB (U I (M r) J) (M r) (r.flatMap kK) R (ao _) _ 1 1 _ R aB R T.2.1 T.1 T.2.2.1 aA ?_;intro V av ap w5 u s;have an:qu _:=fE u s;clear u s)|go_in)
     go_roundg (M cs-(i+1))
     case measure=>omega
     case rel=>
      let⟨u,s⟩:=an.out;have Y:=T.2.2.2.alloc T.2.2.2.4 (Obj.cells #[ox sr m,ox pg e,U o G p,.bool q] 121);refine⟨i+1,r++[(⟨m,e,pl,q⟩,U o (M pl) p)],N ⟨V,av,X⟩,ap,aA,by go_num,aC,aD,R,?_,?_,?_,?_⟩
      .rw[P.out.1,eA,<-a.out.1];simp[O.out]
      .rw[aN,dU];unfold kK at u⊢;rw[P.out.2];exact u
      .intro ac l;have:N V=N ac:=by simpa[ov]using l
       cases this;obtain S|S:=s.own
       .exact a.2.2.1 V S
       .exact aX Y.4 S
      .exact ow Y (iD s a.2.2.1 Y.4)
  .have b:i=M cs:=by omega
   have e:qu _:=b;clear b;go_wp2;exact H.2.2.2 _ r I J _ ⟨R,R,R⟩ R (by rw[a.out.1,e.out,eD]) a.2.1 a.2.2.1 a.2.2.2
end
end Hm
namespace Hm
open Go.RowKit Go.Joins Go.Shelf
open Dv (Ba Lo Cf Zq Ch fN iH kK ku uC)
open Fr (fG)
variable {g b:Nat}
noncomputable def WE:vy:=cq [0] rJ
noncomputable def We:vy:=cq [1,1,0] rJ
noncomputable def V7:vy:=cq [1,1,1,0] rJ
noncomputable def VC:vy:=cq [1,1,1,1,0,0] rJ
noncomputable def Xj:vy:=cq [1,1,1,1,0,1,4,5,0,0] rJ
noncomputable def Jg:vy:=cq [1,1,1,1,0,1,4,5,1,1] rJ
noncomputable def Sh:vy:=cq [1,1,1,1,0,1,4,5,1,0,4,0] rJ
structure Oo(tm:Array po)(kb n:Nat)(xv:po)(i:Nat):Prop where
 size:qd tm=142
 s0:tm[0]? =N (pm (N ⟨kb,0,X⟩))
 s1:tm[1]? =N (ox pg n)
 s6:tm[6]? =N xv
 s7:tm[7]? =N (ox pg i)
attribute [local go_sem] vk vD uF uZ Array.size_setIfInBounds Array.getElem_setIfInBounds_ne Array.getElem_setIfInBounds_self
section
variable {tm:Array po}{w:pn}{kb n i tn tcap:Nat}{xv vc vch vwa ha:po}{ta:Option zm}{c:Cf}{Q:qaC->Act->pn->Prop}
def OE(h:zE tm kb n)(hK:∀a,zE a kb n->a[4]? =N (U X 0 0)->Q .normal ⟨a,[]⟩ w):WE.wp PQ Q ⟨tm,[]⟩ w:=by obtain⟨b,c,d⟩:=h;have a:qu _:=hK;clear hK;simp only[WE,rJ,cq,YH];go_wp2;exact a _ hc hw
def Pr{a:Option zm}{d b:Nat}(h:zE tm kb n)(l:tm[4]? =N (U a d b))(hw:gq w kb c vc vch vwa ha)(hK:∀e,zE e kb n->Q .normal ⟨e,[]⟩ (w.setCell ⟨kb,8,X⟩ (U a d b))):We.wp PQ Q ⟨tm,[]⟩ w:=by
 obtain⟨i,j,k⟩:=h;have f:Z w ⟨kb,8,X⟩=N vch:=im
 have g:=aM hw;have e:qu _:=hK;clear hK hw;simp only[We,rJ,cq,YH];go_wp2;exact e _ hc
def Q3{c d b e}(h:zE tm kb n)(f:Z w ⟨kb,7,X⟩=N (U (N ⟨c,d,X⟩) b e))(g:n<b)(k:Z w ⟨c,d+n*4+2,X⟩=N (U ta tn tcap))(hK:∀a,zE a kb n->a[6]? =N (U ta tn tcap)->Q .normal ⟨a,[]⟩ w):V7.wp PQ Q ⟨tm,[]⟩ w:=by
 obtain⟨j,l,m⟩:=h;have i:(n:Int)<b:=aA
 have a:qu _:=hK;clear hK;simp only[V7,rJ,cq,YH];go_wp2;exact a _ hc hw
def Rw(h:zE tm kb n)(e:tm[6]? =N xv)(hK:∀a,Oo a kb n xv 0->Q .normal ⟨a,[]⟩ w):VC.wp PQ Q ⟨tm,[]⟩ w:=by obtain⟨b,c,d⟩:=h;have a:qu _:=hK;clear hK;simp only[VC,rJ,cq,YH];go_wp2;exact a _ hc
def Pc(h:Oo tm kb n (U ta tn tcap) i)(hK:∀a,Oo a kb n (U ta tn tcap) i->a[63]? =N (rh (decide (i<tn)))->Q .normal ⟨a,[]⟩ w):Xj.wp PQ Q ⟨tm,[]⟩ w:=by obtain⟨b,c,d,e,f⟩:=h;have a:qu _:=hK;clear hK;simp only[Xj,rJ,cq,YH];go_wp2;exact a _ hc hw
def Eb(h:Oo tm kb n xv i)(b:i<1048576)(hK:∀a,Oo a kb n xv (i+1)->Q .normal ⟨a,[]⟩ w):Jg.wp PQ Q ⟨tm,[]⟩ w:=by obtain⟨c,d,e,f,g⟩:=h;have a:qu _:=hK;clear hK;simp only[Jg,rJ,cq,YH];go_wp2;exact a _ hc
def MQ{fr d:Nat}{B}(h:Oo tm kb n (U (N ⟨g,b,X⟩) tn tcap) i)(hw:gq w kb c vc vch vwa ha)(A:i<tn)(D:tn<=1048576)(y:Z w ⟨g,b+i*3,X⟩=N (ox sr fr))(z:Z w ⟨g,b+i*3+1,X⟩=N (ox sr d))(j:(d == c.1&&fr == c.2)=B)(hK:∀a e,Oo a kb n (U (N ⟨g,b,X⟩) tn tcap) i->a[89]? =N (.bool B)->Below ↑w w e->Q .normal ⟨a,[]⟩ e):Sh.wp PQ Q ⟨tm,[]⟩ w:=by
 obtain⟨a,m,o,p,q⟩:=h;obtain⟨s,rfl,a⟩:=jg a
 iterate 142 (obtain⟨_,s,rfl,f⟩:=je a;clear a;have a:=f;clear f)
 obtain rfl:=tt.1 a;clear a;simp only[cN,cM,cG,aI]at m o p q;subst m o p q
 as_aux_lemma=>
  have v:Z w ⟨kb,0,X⟩=N (ox sr c.1):=im
  have x:Z w ⟨kb,1,X⟩=N (ox sr c.2):=im
  have C:(i:Int)<tn:=aA
  have e:qu _:=fE hK j;clear hK j hw;simp only[Sh,rJ,cq,YH];obtain⟨t,r,k⟩|⟨t,r,k⟩:=Ww d c.1
  case' inl=>obtain⟨u,f,l⟩|⟨u,f,l⟩:=Ww fr c.2
  all_goals
   try clear k
   try clear l
   go_upto_region 11 with fail;go_quiet (fail);go_wp2;refine e.1 _ _ ⟨R,R,R,R,R⟩ ?_ ib;rw[<-e.out.2];simp[*]
end
end Hm
namespace Hm
open Go.RowKit Go.Joins Go.Shelf
open Dv (Ba Lo Cf Zq Ch fN iH kK ku uC kX)
open Fr (fG)
section
variable {s:List UInt8}{fs:List Fr.F}{W w:pn}{a lo' d n i f g off Zn:Nat}{v vch j:po}{tm:Array po}{cs:List (Ch×po)}{Q:qaC->Act->pn->Prop}
noncomputable def VO:vy:=cq [1,1,1,1,0,1,4,5,1,0,4,1,2] rJ
def Fu(D w)(m:D.size<=2000)(fs)(c:(Fr.frames D.1.1).getD []=fs):tf PQ 61 #[pk D] w λe d=>∃a b i,e=qs (sh #[U a (M fs) b,.bool i])/\kX d w.1.size (U a (M fs) b) fs/\Below w.1.size w d:=by
 refine aO (Fr.EF D w aA) ?_;rintro e d ⟨h,f⟩;cases g:Fr.frames D.1.1 with
 |none=>
  rw[g]at h c;subst c;exact⟨X,0,false,h,World.ownsRow_nil _ _ _ _,f⟩
 |some l=>
  rw[g]at h c;obtain rfl:l=fs:=c;obtain⟨a,b,j,k⟩:=h;exact⟨a,b,true,j,k,f⟩
def BT(h:(Fr.frames s).getD []=fs):∀f∈fs,f.2<65536/\M f.3<=65536:=λx a=>by
 subst h;cases b:Fr.frames s with
 |none=>rw[b]at a;simp at a
 |some l=>
  rw[b]at a;obtain⟨_,c,d⟩:=(Fr.xD b).2.2 x a;exact⟨c,aA⟩
def Gb{l}(h:kX W a v l)(j:lo'<=a):kX W lo' v l:=by
 obtain⟨i,b⟩:=h;refine⟨i,?_⟩;obtain b|⟨g,c,d,e,f,b⟩:=b
 .exact .inl b
 .exact .inr ⟨g,c,d,e,aX j f,b⟩
def Q6{aa t u c D}(h:Oo tm d n (U (N ⟨g,off,X⟩) f aa) i)(hw:gq w d c t vch j u)(S:a<=d)(iO:iH w a vch cs)(V:oG Zn c.7 cs)(hM:Zn+222<=1048576)(af:0<=c.7)(hi:i<f)(am:f<=1048576)(e2:Z w ⟨g,off+i*3+2,X⟩=N (pk D))(J:D.size<=2000)(s:(Fr.frames D.1.1).getD []=fs)(hK:∀o b p m,Oo o d n (U (N ⟨g,off,X⟩) f aa) i->gq b d c t p j u->iH b a p m->oG (Zn+M fs) c.7 m->m.map p9=fs.foldl (Dv.frame c.7 n) (cs.map p9)->Below a w b->fN [89] w b->Q .normal ⟨o,[]⟩ b):VO.wp PQ Q ⟨tm,[]⟩ w:=by
 obtain⟨l,t0,t1,t6,t7⟩:=h;obtain⟨ag,rfl,l⟩:=jg l
 iterate 142 (obtain⟨_,ag,rfl,b⟩:=je l;clear l;have l:=b;clear b)
 obtain rfl:=tt.1 l;clear l;simp only[cN,cM,cG,aI]at t0 t1 t6 t7;subst t0 t1 t6 t7;have L:=Fu D w J fs s;have O:=BT s
 have ai:M fs<=222:=by
  have:=Dv.uT D.1.1;rw[s,<-aW]at this;omega
 have aj:(i:Int)<f:=aA
 have T:a<=↑w:=aX S (eZ hw.lt);have ab:qu _:=λ(_:Unit)=>L;have H:qu _:=fE hw (fE iO (fE V (fE O hK)));clear L hw iO V O hK s J;simp only[VO,rJ,cq,YH];go_wp2_with (go_at_call 61;refine aO (ab ()) ?_;rintro ad w2 ⟨fa,ae,fb,rfl,r,e⟩;have HF:qu _:=fE r e;clear r e)
 clear e2;go_loopg [10] (M fs) (λp q b=>∃(k:Nat)(o:po)(m:List (Ch×po)),k<=M fs/\q=ox pg k/\p=M fs-k/\qu (gq b d c t o j u/\iH b a o m/\oG (Zn+k) c.7 m/\m.map p9=(fs.take k).foldl (Dv.frame c.7 n) (cs.map p9)/\Below a w b/\fN [89] w b/\kX b a (U fa (M fs) ae) fs))
 case atStart=>
  let⟨r,e⟩:=HF.out;exact⟨0,vch,cs,bU _,R,R,H.1.fF e,H.2.1.keeps (fN.fF [] e) aC aC,H.2.2.1,aC,o5 e T,fN.fF _ e,Gb r T⟩
 case round=>
  obtain⟨k,vx,G,hk,rfl,rfl,v⟩:=hrel;by_cases y:k<M fs
  .have ak:(k:Int)<M fs:=by omega
   obtain⟨b,m⟩:∃b,fs[k]? =N b:=⟨_,aK y⟩
   let⟨z,A,o,B,C,E,p⟩:=v.out;obtain⟨_,_,q,_⟩|⟨fg,ah,h0,q⟩:=p.cases
   .rw[q]at y;simp at y
   simp only[Value.slice.injEq,true_and]at q;obtain⟨rfl,rfl⟩:=q;let⟨f0,f1,f2,f3⟩:=Dv.pX p (aH _ _) m;have x:=Dv.JM c t vx j u G b n d a wr z S A (o.SU aA) (by have:=o.1;omega) (H.2.2.2.1 b (aS m))
   have W:fs.take (k+1)=fs.take k++[b]:=by
    let⟨Y,h2⟩:=aJ.1 m;rw[cO Y,h2]
   have P:=H.2.2.2.1 b (aS m);obtain⟨FD,K⟩:∃D:ByteArray,(⟨b.3.toArray⟩:ByteArray)=D:=⟨_,R⟩
   rw[K]at f2 x;have ac:qu _:=λ(_:Unit)=>x;have F:qu _:=fE W P;clear x W P m K z A o B C E p h0;go_wp2_with (go_at_call 62;refine aO (ac ()) ?_;rintro ad w3 ⟨rfl,v3,c3,I⟩;have H3:qu _:=I;clear I)
   go_roundg (M fs-(k+1))
   case measure=>omega
   case rel=>
    let⟨z,A,o,B,C,E,p⟩:=v.out;let⟨q1,q2,Y,q4,q5⟩:=H3.out;exact⟨k+1,v3,c3,aA,by go_num,R,q1,q2,o.frame af F.2 Y,by rw[Y,B,F.out.1,List.foldl_append];rfl,ow C q4,E.trans q5,p.keeps q5 aB⟩
  .have m:k=M fs:=by omega
   have p:qu _:=m;clear m;have B:¬(k:Int)<M fs:=aA
   go_wp2;let⟨q,x,o,b,z,A,C⟩:=v.out;rw[p.out]at o b;rw[eD]at b;exact H.2.2.2.2 _ _ vx G ⟨R,R,R,R,R⟩ q x o b z A
end
end Hm
namespace Hm
open Go.RowKit Go.Joins Go.Shelf
open Dv (Ba Lo Cf Zq Ch fN iH kK ku uC kX)
open Fr (fG)
variable {W:pn}{lo g b d:Nat}{p:Ch×po}{cs:List (Ch×po)}{s:List UInt8}{a:Int}{sp ok:Bool}{S:ByteArray}{Zs:pn->Prop}
noncomputable def O4:vy:=cq [1,1,1,1,1,4,5,0,0] rJ
noncomputable def PM:vy:=cq [1,1,1,1,1,4,5,1,4,0] rJ
noncomputable def Jd:vy:=cq [1,1,1,1,1,4,5,1,4,1,0,0] rJ
noncomputable def MU:vy:=cq [1,1,1,1,1,4,5,1,4,1,1,0] rJ
noncomputable def JD:vy:=cq [1,1,1,1,1,4,5,1,4,1,1,1] rJ
def Fb(h:iH W lo (U (N ⟨g,b,X⟩) (M cs+1) d) (p::cs)):iH W lo (U (N ⟨g,b+4,X⟩) (M cs) (d-1)) cs:=by refine⟨?_,λq a=>h.2 q (bK _ a)⟩;have:=Dv.uC.tail (n:=M cs) (size:=4) (d:=(0,0)) h.1;rw[dQ,List.drop_append_of_le_length (by rw[ku];exact fI),List.drop_of_length_le (by rw[ku];exact fI),cA]at this;exact this
def Iu{l}(h:Dv.bytes l=N s)(b:(Dv.size l:Int)<=a):(M s:Int)<=a:=by have:=(ql (most:=a) (cs:=[⟨0,0,l,false⟩]) (λc hc=>by rw[bT.1 hc];exact b)).1 s (by simp[Dv.pull,h]);exact this
def GF{c}(h:iH W lo (U (N ⟨g,b,X⟩) (M cs+1) d) (p::cs))(e:0<M cs->c=N ⟨g,b+4,X⟩):iH W lo (U c (M cs) (d-1)) cs:=by
 have a:=Fb h;cases cs with
 |nil=>exact⟨.inl ⟨R,R,_,_,R⟩,a.2⟩
 |cons q cs=>
  rw[e aC];exact a
structure Xv(c:Cf)(vc vlog:po)(cs:List Ch)(bs:List Ba)(Zn m kb lo n:Nat)(w:pn)(vx vb:po)(cx:List (Ch×po))(bx:List PW)(wx:pn):Prop where
 work:gq wx kb c vc vx vb vlog
 chs:iH wx lo vx cx
 ok:oG Zn c.7 cx
 wa:CX wx lo vb bx
 few:M bx+4096*M cx<=m
 pull:Dv.pull cs=((Dv.pull cs).1,(Dv.pull (cx.map p9)).2)/\bx.map p9++(Dv.pull (cx.map p9)).1.flatMap (λs=>Dv.reads s n)=bs++(Dv.pull cs).1.flatMap (λs=>Dv.reads s n)
 fF:Below lo w wx
 keeps:fN [89,127] w wx
attribute [local go_sem] vk vD uF uZ Array.size_setIfInBounds Array.getElem_setIfInBounds_ne Array.getElem_setIfInBounds_self
section
variable {tm:Array po}{w:pn}{kb n:Nat}{vc vch vwa ha:po}{c:Cf}{Q:qaC->Act->pn->Prop}{va:Option zm}{vn vcap:Nat}
def L3(h:zE tm kb n)(b:Z w ⟨kb,8,X⟩=N (U va vn vcap))(hK:∀a,zE a kb n->a[117]? =N (rh (decide (0<vn)))->Q .normal ⟨a,[]⟩ w):O4.wp PQ Q ⟨tm,[]⟩ w:=by obtain⟨c,d,e⟩:=h;have a:qu _:=hK;clear hK;simp only[O4,rJ,cq,YH];go_wp2;exact a _ hc hw
def Eh{f i l k:Nat}{j}(h:zE tm kb n)(r:Z w ⟨kb,8,X⟩=N (U (N ⟨g,b,X⟩) vn vcap))(t:0<vn)(v:Z w ⟨g,b,X⟩=N (ox sr f))(x:Z w ⟨g,b+1,X⟩=N (ox pg i))(y:Z w ⟨g,b+2,X⟩=N (U j l k))(z:Z w ⟨g,b+3,X⟩=N (.bool sp))(d:tf PQ 63 #[we #[ox sr f,ox pg i,U j l k,.bool sp]] w λe a=>e=qs (sh #[pk S,.bool ok])/\Zs a)(hK:∀a m,zE a kb n->a[11]? =N (pk S)->a[12]? =N (.bool ok)->Zs m->Q .normal ⟨a,[]⟩ m):PM.wp PQ Q ⟨tm,[]⟩ w:=by
 obtain⟨s,A,B⟩:=h;have u:(0:Int)<vn:=aA
 have q:qu _:=λ(_:Unit)=>d;have o:qu _:=hK;clear hK d;simp only[PM,rJ,cq,YH];go_wp2_with (go_at_call 63;refine aO (q ()) ?_;rintro e w2 ⟨rfl,c⟩;have p:qu _:=c;clear c)
 exact o _ _ hc hw hw p.out
def DM(h:zE tm kb n)(e:tm[11]? =N (pk S))(f:tm[12]? =N (.bool ok))(hK:∀a,zE a kb n->a[11]? =N (pk S)->a[129]? =N (.bool (!ok))->Q .normal ⟨a,[]⟩ w):Jd.wp PQ Q ⟨tm,[]⟩ w:=by obtain⟨b,c,d⟩:=h;have a:qu _:=hK;clear hK;simp only[Jd,rJ,cq,YH];go_wp2;exact a _ hc hw hw
def NS(h:zE tm kb n)(q:tm[11]? =N (pk S))(hw:gq w kb c vc (U (N ⟨g,b,X⟩) vn vcap) vwa ha)(m:0<vn)(l:vn<=vcap)(k:vn<=1048576)(hK:∀a e d,zE a kb n->a[11]? =N (pk S)->d=vcap-1->(0<vn-1->e=N ⟨g,b+4,X⟩)->Q .normal ⟨a,[]⟩ (w.setCell ⟨kb,8,X⟩ (U e (vn-1) d))):MU.wp PQ Q ⟨tm,[]⟩ w:=by
 obtain⟨j,o,p⟩:=h;have d:Z w ⟨kb,8,X⟩=N (U (N ⟨g,b,X⟩) vn vcap):=im
 have e:=aM hw;have i:(1:Int)<=vn:=aA
 have a:qu _:=hK;clear hK hw;simp only[MU,rJ,cq,YH];go_wp2
 all_goals
  refine a _ _ _ hc hw (by first|exact hw|omega) (λf=>?_)
  first|rfl|(exfalso;omega)|rw[Za aA]
def KT(h:zE tm kb n)(k:tm[11]? =N (pk S))(b:tf PQ 64 #[pm (N ⟨kb,0,X⟩),pk S,ox pg n] w λe a=>e=qs (sh #[])/\Zs a)(hK:∀a c,zE a kb n->Zs c->Q .normal ⟨a,[]⟩ c):JD.wp PQ Q ⟨tm,[]⟩ w:=by
 obtain⟨g,i,j⟩:=h;have e:qu _:=λ(_:Unit)=>b;have c:qu _:=hK;clear hK b;simp only[JD,rJ,cq,YH];go_wp2_with (go_at_call 64;refine aO (e ()) ?_;rintro f w2 ⟨rfl,a⟩;have d:qu _:=a;clear a)
 exact c _ _ hc d.out
end
end Hm
