import Derived.Test.YtpibpdpedjinhaaGreatDoorP09
import Derived.LoopNIn
import Derived.LoopIn
import Derived.Shelf.RegionOpen
set_option maxRecDepth 100000
set_option maxHeartbeats 8000000
set_option linter.all false
open Bool renaming false->pi,true->pw
open ByteArray renaming ext->qaQ,extract->qt,size->ot,toList->vz
open Eq renaming trans->oy
open Go renaming Addr->zm,Boxed->Ye,Calls->tf,Obj->ZG,OwnFrom->YM,TypeId->wj,Value->po,World->pn,bodyPost_ret->sd,callsIn_of_wp_marks->qbm,callsIn_wide->zw,heap_alloc_new->sv,info_parts->yk,results_none->Zy,run_takeDeferred->qam,undef->p8,wpAnyIn_ready->xn
open Go.AllReadyIn renaming cons->If,nil->Yu
open Go.Boxed renaming alloc->YN,cell->zt,frozen->ZI
open Go.Calls renaming mono->se,quiet_of->qbk
open Go.Ending renaming returned->qs
open Go.IntKind renaming i64->pg
open Go.Joins renaming block_setCell->uk
open Go.KeepsOthers renaming setCell->zj,trans->yp
open Go.Obj renaming cells->pj,deferred->uu
open Go.Proofs.Tryz renaming results143->X0,results206->ZX,underlying40->Yl
open Go.RowKit renaming Hid->qu
open Go.RowKit.Below renaming alloc->pb,drew->rk,grown->AT,mono->o5,setCell->ph,trans->ow
open Go.Value renaming agg->we,bool->rh,int->ox,ownBlock->ov,pointer->pm,slice->U,string->pk,tuple->sh
open Go.Value.slice renaming injEq->ry
open Go.World renaming alloc->o6,cell?->Z,cell?_of_block->qz,drewN->tj,frozen?->sk,putObj_heap_other->sa,setCell->o3,setCells->YF
open List renaming drop_eq_nil_of_le->qbf,filter_nil->Z6,getD_cons_zero->qaN,isEmpty->tk,length->M,toArray->py
open Nat renaming add_sub_cancel_left->qau
open Option renaming none->X,some->N
open Or renaming inl->rr,inr->rz
open UInt8 renaming toNat->pf
open Go.Proofs.Tryz
namespace Go.Proofs.YtpibpdpedjinhaaGreatDoor
open Im
section
open Go.RowKit Go.Joins Go.Shelf
attribute [local go_sem] Oper.semAt_some
variable {w wr w3:pn}{u0 u1 u2 c0 a b:po}{t:wj}{n c:Nat}{i:It}
def LO:Go.Shelf.Ren:=⟨fun|316=>198|n=>n,fun|0=>0|3=>3|4=>4|5=>5|9=>9|37=>155|127=>239|n=>n,fun|n=>n⟩
def CP:Go.Proofs.LaysM.n316 PQ LO:={
 mixed:=Zm
 f316:=oy (fq func198 R) (Zf N Zm)
 t0:=(uq underlying0)
 a0:=(qg isAgg0)
 z0:=(o9 sizeOf0)
 v0:=(pU zeroValue0)
 t3:=(uq Tryz.underlying3)
 a3:=(qg isAgg3)
 z3:=(o9 sizeOf3)
 v3:=(pU zeroValue3)
 t4:=(uq Tryz.underlying4)
 a4:=(qg isAgg4)
 z4:=(o9 sizeOf4)
 v4:=(pU zeroValue4)
 t5:=(uq Tryz.underlying5)
 a5:=(qg isAgg5)
 z5:=(o9 sizeOf5)
 v5:=(pU zeroValue5)
 t9:=(uq Tryz.underlying9)
 a9:=(qg isAgg9)
 z9:=(o9 sizeOf9)
 v9:=(pU zeroValue9)
 t37:=(uq Tryz.underlying155)
 a37:=(qg isAgg155)
 z37:=(o9 sizeOf155)
 v37:=(pU zeroValue155)
 t127:=(uq Tryz.underlying239)
 a127:=(qg isAgg239)
 z127:=(o9 sizeOf239)
 v127:=(pU zeroValue239)
 i0:=Zm
 i3:=Zm
 i4:=Zm
 i5:=Zm
 i9:=Zm
 i37:=Zm
 i127:=by kernel_rfl }
def clone_any(s:ByteArray)(w)(c:ot s<=16777216):tf PQ 151 #[pk s] w λe b=>e=qs (pk s)/\Below w.1.size w b:=by go_enter (fq func151 R),ntmps151;go_wp2;refine se (Any.stringslite_Clone (ρ:=LO) CP s w aA) ?_;rintro e w1 ⟨rfl,a⟩;go_wp2;go_ret;exact⟨R,a⟩
def Got(n c:Nat)(w':pn)(e:Ending):Option (It×Nat)->Prop
 |none=>e=qs (sh #[we #[rh pi,pk ⟨#[]⟩,U X 0 0],ox pg 0,rh pi])
 |some x=>∃a b,e=qs (sh #[we #[.bool x.1.1,pk ⟨py x.1.2⟩,U a (M x.1.3) b],ox pg x.2,rh pw])/\Tr w' n c ↑w' (.bool x.1.1) (pk ⟨py x.1.2⟩) (U a (M x.1.3) b) x.1
def FirstSaid(d:Nat):=∀(s:ByteArray)(a:Nat)(w:pn),ot s<=16777216->a+d=9->iJ w->
  tf PQ 206 #[pk s,ox pg a] w λe b=>Got (d+1) ↑w b e (Im.read Im.body d s.1.1)/\Below ↑w w b
structure Zr where
 e:Nat
 i:It
 a:Option zm
 cap:Nat
def Zr.encs(x:Zr):Array po:=#[ox pg x.1,we #[.bool x.2.1,pk ⟨py x.2.2⟩,U x.3 (M x.2.3) x.4]]
def nX(l:List Zr):Nat:=l.foldl (λ_ x=>x.1) 0
def kR(l x):nX (l++[x])=x.1:=by simp[nX]
def XY(n:Nat)(pre:List Zr)(x:Zr)(c:Nat)(W:pn):=M pre<16777216/\Tr W n c ↑W (.bool x.2.1) (pk ⟨py x.2.2⟩) (U x.3 (M x.2.3) x.4) x.2
def XY.turn(n:Nat)(pre:List Zr)(x:Zr)(c:Nat)(W a:pn)(h:∀k,c<=k->a.1[k]? =W.1[k]?)(e:↑a=W.1.size)(b:XY n pre x c W):XY n pre x c a:=by refine⟨b.1,?_⟩;rw[e];exact Tr.kept n _ _ _ _ _ _ (λk d _=>h k d) b.2
def Done(d:Nat)(s:ByteArray)(xs:List Zr):=∃p,Im.jN (Im.read Im.body d) s.1.1 (xs.map Zr.i) p/\nX xs=p/\(ot s<=p\/p<ot s/\Im.read Im.body d (s.1.1.drop p)=X)
def Left(d:Nat)(s:ByteArray)(xs:List Zr):=∃p,Im.jN (Im.read Im.body d) s.1.1 (xs.map Zr.i) p/\nX xs=p
def K3.BM(w x y z t):K3 (o6 w (pj #[x,y,z] t)) w.1.size 0 x y z:=⟨aC,aC,aC⟩
def K3.Pz{b}(h:w.1[b]? =N (pj #[u0,u1,u2] t (0,0)))(x y z):K3 (o3 (o3 (o3 w ⟨b,0,X⟩ x) ⟨b,1,X⟩ y) ⟨b,2,X⟩ z) b 0 x y z:=by have a:=uk h (i:=0) x;have c:=uk a (i:=1) y;have d:=uk c (i:=2) z;refine⟨?_,?_,?_⟩<;>rw[aG d]<;>simp
def BC(d:Below ↑wr wr w3)(f:Tr w3 n c ↑w3 c0 a b i)(e:↑wr<=c){t:wj}:Below ↑wr wr (o6 w3 (pj #[c0,a,b] t))/\K3 (o6 w3 (pj #[c0,a,b] t)) ↑w3 0 c0 a b/\Tr (o6 w3 (pj #[c0,a,b] t)) n ↑wr (o6 w3 (pj #[c0,a,b] t)).1.size c0 a b i:=
 ⟨pb d d.4 _,K3.BM _ _ _ _ _,Tr.wider (Tr.kept n _ _ _ _ _ _ (λ_ _ g=>aU _ _ _ g) f) e aC⟩
def HU(d:Below ↑wr wr w3)(e:Tr w3 n c ↑w3 c0 a b i)(g:↑wr<c)(f:w3.1[wr.1.size]? =N (pj #[u0,u1,u2] t (0,0))):Below ↑wr wr (o3 (o3 (o3 w3 ⟨↑wr,0,X⟩ c0) ⟨↑wr,1,X⟩ a) ⟨↑wr,2,X⟩ b)/\K3 (o3 (o3 (o3 w3 ⟨↑wr,0,X⟩ c0) ⟨↑wr,1,X⟩ a) ⟨↑wr,2,X⟩ b) ↑wr 0 c0 a b/\Tr (o3 (o3 (o3 w3 ⟨↑wr,0,X⟩ c0) ⟨↑wr,1,X⟩ a) ⟨↑wr,2,X⟩ b) n ↑wr (o3 (o3 (o3 w3 ⟨↑wr,0,X⟩ c0) ⟨↑wr,1,X⟩ a) ⟨↑wr,2,X⟩ b).1.size c0 a b i:=
 ⟨ph (ph (ph d fI _) fI _) fI _,K3.Pz f _ _ _,Tr.wider (Tr.kept n _ _ _ _ _ _ (λ_ h _=>by
  rw[aR _ _ _ _ aD,aR _ _ _ _ aD,aR _ _ _ _ aD]) e) aA ja⟩
def zk(d:Nat)(J:FirstSaid d)(s:ByteArray)(m e c:Nat)(w:pn)(hs:ot s<=16777216)(hdd:m+d=9)(hH:iJ w)(h0:1<w.1.size)(K:Z w ⟨e,0,X⟩=N (pk s))(H:Z w ⟨c,0,X⟩=N (ox pg m))(ai:e<↑w)(af:c<↑w):Gives PQ 205 #[pm (N ⟨e,0,X⟩),pm (N ⟨c,0,X⟩)] Zr.encs (λk=>k=1\/k=e\/k=c) (XY (d+1)) (Done d s) (Left d s) w:=by
 intro a7 V Jx W g G E;have T:qu _:=J;have S:qu _:=G;have P:qu _:=E;clear J G E;refine callsIn_of_wp (fq func205 R) R trivial ?_ R;simp only[ntmps205,bZ,aP,bH,Nat.reduceAdd,Nat.reduceSub,bP,bO,cD,bQ,cA,bX];gi_wp2
 gi_loopw [4] (λt wr=>∃(pre:List Zr)(b:pn)(p:Nat),t=ox pg p/\qu (Im.jN (Im.read Im.body d) s.1.1 (pre.map Zr.i) p/\nX pre=p/\p<=ot s/\M pre<=p/\V pre b/\Below ↑b b wr/\iJ wr/\e<↑wr/\c<↑wr)/\Z wr ⟨e,0,X⟩=N (pk s)/\Z wr ⟨c,0,X⟩=N (ox pg m))
  (λt wr=>ot s-(intOf t).toNat)
 case atStart=>
  have:=g.4;exact⟨[],W,0,R,⟨Im.jN.nil,R,bU _,fI,P,aH _ _,hH.fF g h0,aA,aA⟩,oy (g.cell (p:=⟨e,0,X⟩) ai) K,oy (g.cell (p:=⟨c,0,X⟩) af) H⟩
 case round=>
  obtain⟨pre,r,p,rfl,f,c0,a⟩:=hrel;clear K H;by_cases z:p<ot s
  .have au:(p:Int)<ot s:=by omega
   have aj:ot (qt s p (ot s))<=16777216:=aD
   have L:(qt s p (ot s)).1.1=s.1.1.drop p:=by rw[ext_list,cK gv]
   have o:=λW g=>T _ m W aj hdd (f.2.2.2.2.2.2.1.fF g f.2.2.2.2.2.2.1.pos);have b:=aH ↑wr wr;obtain⟨_,_,_,_,_,_,_,ak,ag⟩:=f.out;have a6:e≠wr.1.size:=aA
   have aq:c≠wr.1.size:=aA
   rw[L]at o;generalize D:Im.read Im.body d (s.1.1.drop p)=C at o;have A:qu _:=o;have k:qu _:=D;clear o D L;gi_wp2;refine wpIn_wide.2 ?_;cases C with
   |none=>
    go_cut [5,6,7] (λj l h i=>h=rh pi/\Below ↑wr wr i)
    case first=>
     go_region_with (go_at_call 206;refine se (A _ ?_) ?_;(first|exact b|exact rk b|exact fG b _|exact pb b fI _|exact fG (pb b fI _) _|exact(fG b _).alloc fI _);rintro n w3 ⟨l,j⟩;obtain rfl:=l;have h:Below ↑wr wr w3:=ow js (o5 j aC);(try (have i:w3.1[wr.1.size]? =N (pj #[rh pi,pk ⟨#[]⟩,U X 0 0] 103 (0,0)):=oy (j.5 _ aC) gd;have u:Z w3 ⟨↑wr,0,X⟩=N (rh pi):=od;have v:Z w3 ⟨↑wr,1,X⟩=N (pk ⟨#[]⟩):=od;have x:Z w3 ⟨↑wr,2,X⟩=N (U X 0 0):=od;have q:=aM i)))
     all_goals
      go_wp2;go_meet;refine⟨R,?_⟩
      first
       |exact pb h h.4 _
       |exact fG (pb h h.4 _) _
       |exact ph (ph (ph h fI _) fI _) fI _
       |exact fG (((h.setCell fI _).setCell fI _).setCell fI _) _
    case rest=>
     obtain⟨rfl,j⟩:=hcut;gi_wp2;refine sd (Zy R _ _ _) R ?_;obtain⟨l,n,v,u,i,h,q,_,_⟩:=f.out;exact⟨⟨_,R⟩,rr ⟨pre,r,⟨p,l,n,rz ⟨z,k⟩⟩,i,ow h (o5 j h.4)⟩⟩
   |some x=>
    obtain⟨i,n⟩:=x;have y:=oz kW d _ _ _ k.out;rw[cF,<-aW]at y;have av:=y.1;have ah:p+n<=ot s:=aA
    clear y;obtain⟨l,u⟩:∃l:ByteArray,(⟨py i.2⟩:ByteArray)=l:=⟨_,R⟩
    go_cut [5,6,7] (λx B C h=>∃(q:Nat)(j:Option zm)(v:Nat),x=pm (N ⟨q,0,X⟩)/\B=ox pg n/\C=rh pw/\Below ↑wr wr h/\K3 h q 0 (.bool i.1) (pk l) (U j (M i.3) v)/\Tr h (d+1) ↑wr ↑h (.bool i.1) (pk l) (U j (M i.3) v) i)
    case first=>
     go_region_with (go_at_call 206;refine se (A _ ?_) ?_;(first|exact b|exact rk b|exact fG b _|exact pb b fI _|exact fG (pb b fI _) _|exact(fG b _).alloc fI _);rintro I w3 ⟨F,B⟩;obtain⟨v,x,rfl,j⟩:=F;simp only at j⊢;rw[u]at j⊢;have q:qu (Tr _ _ _ _ _ _ _ _):=j;clear j;have C:Below ↑wr wr w3:=ow js (o5 B aC);(try (have h:w3.1[wr.1.size]? =N (pj #[rh pi,pk ⟨#[]⟩,U X 0 0] 103 (0,0)):=oy (B.5 _ aC) gd;have Q:Z w3 ⟨↑wr,0,X⟩=N (rh pi):=ij;have Y:Z w3 ⟨↑wr,1,X⟩=N (pk ⟨#[]⟩):=ij;have z2:Z w3 ⟨↑wr,2,X⟩=N (U X 0 0):=ij;have O:=aM h)))
     all_goals
      go_wp2;go_meet
      first
       |exact⟨_,v,x,R,R,R,BC C q aC⟩
       |exact⟨_,v,x,R,R,R,HU C q aC h⟩
    case rest=>
     obtain⟨ao,Y,aa,rfl,rfl,rfl,j,⟨k0,k1,k2⟩,q⟩:=hcut;rw[cX]at k1 k2;rw[<-u]at q;obtain⟨I,ar,ay,aw,hJ,v,C,_,_⟩:=f.out;have ae:=ow v (o5 j v.4);let⟨fn,a8,an,body,O,F⟩:=S pre ⟨p+n,i,Y,aa⟩ r wc hJ ae ⟨aA,q.wider v.4 fI⟩;simp only[Zr.encs,Int.natCast_add]at O;rw[u]at O;have Q:qu _:=F;have am:qu _:=q;clear F q;have ax:(p:Int)+(n:Int)<=16777216:=aA
     gi_wp2;refine RoundIn.mono Q.out ?_;rintro ap B (⟨rfl,ac,az,x⟩|⟨rfl,ad⟩)
     .gi_wp2;go_roundw
      case rel=>
       have h:=x 1 (rr R);have q1:=x e (rz (rr R));have q2:=x c (rz (rz R));have s5:=j.4;have ab:=C.fF j C.pos;refine⟨_,B,p+n,aC,⟨?_,kR _ _,ah,aD,ac,aH _ _,?_,aA,aA⟩,?_,?_⟩
       .rw[aZ];exact Im.jN.snoc I (by rw[<-aW];exact z) k.out
       .obtain⟨⟨a0,a1,a2⟩,a3,a4,a5⟩:=ab;exact⟨⟨oy (qz h) a0,oy (qz h) a1,oy (qz h) a2⟩,oy (qz h) a3,oy (qz h) a4,oy (qz h) a5⟩
       .exact oy (qz q1) (oy (j.cell (p:=⟨e,0,X⟩) ak) c0)
       .exact oy (qz q2) (oy (j.cell (p:=⟨c,0,X⟩) ag) a)
      case measure=>simp[intOf];omega
     .gi_wp2;refine sd (Zy R _ _ _) R ?_;refine⟨⟨_,R⟩,rz ⟨_,B,⟨p+n,?_,kR _ _⟩,ad,aH _ _⟩⟩;rw[aZ];exact Im.jN.snoc I (by rw[<-aW];exact z) k.out
  .have l:¬(p:Int)<ot s:=by omega
   gi_wp2;go_end0;obtain⟨i,j,o,n,b,h,k,_,_⟩:=f.out;exact⟨⟨_,R⟩,rr ⟨pre,⟨p,i,j,rr aA⟩,r,b,h⟩⟩
end
section
open Go.RowKit Go.Joins Go.Shelf
attribute [local go_sem] Oper.semAt_some
variable {g B:Nat}{t:wj}{v c0 a b:po}{w w':pn}{xs:List po}
def xC(s a w):tf PQ 174 #[pk s,ox pg a] w λe w'=>e=qs (.func (.func 205) #[] #[pm (N ⟨w.1.size,0,X⟩),pm (N ⟨w.1.size+1,0,X⟩)])/\w'=o6 (o6 w (pj #[pk s] 9)) (pj #[ox pg a] 3):=by
 go_enter (fq func174 R),ntmps174;go_wp2;go_ret;exact⟨R,R⟩
def Lh(n c:Nat)(w':pn)(e:Ending):Option (List It)->Prop
 |none=>e=qs (sh #[U X 0 0,rh pi])
 |some ks=>∃a b,e=qs (sh #[U a (M ks) b,rh pw])/\fM w' n c ↑w' (U a (M ks) b) ks
def WI(d a:Nat)(w:pn)(pre:List Zr)(W:pn):=
 (∃v,Ye W a 101 v/\fM W (d+1) (a+4) ↑W v (pre.map Zr.i))/\Ye W (a+1) 3 (ox pg (nX pre))/\Below a w W/\a+4<=W.1.size
def WI.own(d b w):YM (b+4) (WI d b w):=by
 rintro pre A B row ⟨⟨v,c,f⟩,g,h,j⟩ a i;refine⟨⟨v,c.kept a (λe=>?_),f.turn a (λr e=>(i r e).2)⟩,g.kept a (λe=>?_),AT h a aA (λk e=>by grind),by have:=a.4;omega⟩
 .grind
 .grind
def oN(w){a b}(x y)(h:a.1≠b.1):o3 (o3 w a x) b y=o3 (o3 w b y) a x:=by
 have e:∀(A:Array ZG)(f g:ZG->ZG)(i j:Nat),i≠j->(A.modify i f).modify j g=(A.modify j g).modify i f:=by
  intro A f g i j d;apply dG;intro k;simp only[bD];by_cases c:i=k
  .grind
  .grind
 simp only[o3];rw[e _ _ _ _ _ h]
def zu(w){i}(x y z u)(h:B≠g):o3 (o3 (o3 (o3 w ⟨B,0,X⟩ u) ⟨g,i,X⟩ x) ⟨g,i+1,X⟩ y) ⟨g,i+2,X⟩ z=o3 (o3 (o3 (o3 w ⟨g,i,X⟩ x) ⟨g,i+1,X⟩ y) ⟨g,i+2,X⟩ z) ⟨B,0,X⟩ u:=by rw[oN w u x h,oN _ u y h,oN _ u z h]
def jF{W}(h:Ye W B t v)(a x)(b:B≠a.1):Ye (o3 W a x) B t v:=oy (aR _ _ _ _ b) h
def Jt{e n G Zq F:pn}{d c o:Nat}{pre:List Zr}{x:Zr}{L H:Nat->Nat}{z0 z1 z2:po}{Zp:Nat}(h0:1<c)(aa:Below c w e)(ag:c+4<=e.1.size)(K:Ye e c 101 v)(O:Ye e (c+1) 3 (ox pg (nX pre)))(r:e.ownsRow (c+4) 103 3 v (M pre) xs)(q3:∀l,l<M (pre.map Zr.i)->c+4<=L l/\L l<=H l/\H l<=e.1.size/\(∀g,ov v=N g->g<L l\/H l<=g))(q4:∀z l,z<l->l<M (pre.map Zr.i)->H z<=L l)(q5:∀(l:Nat)(hj:l<M (pre.map Zr.i)),∃z B C,xs[l*3]? =N z/\xs[l*3+1]? =N B/\xs[l*3+2]? =N C/\Tr e (d+1) (L l) (H l) z B C ((pre.map Zr.i)[l]))(u:Below ↑e e n)(ht:Tr n (d+1) ↑e ↑n c0 a b x.2)(t:Below ↑n n G)(p:Below ↑G G Zq)(J:w'.ownsRow (c+4) 103 3 (U (N ⟨g,0,X⟩) (M pre+1) o) (M pre+1) (xs++[z0,z1,z2]))(h:Zq.grownBy w' (ov v))(D:ov (U (N ⟨g,0,X⟩) (M pre+1) o)=ov v\/∃l,ov (U (N ⟨g,0,X⟩) (M pre+1) o)=N l/\Zq.1.size<=l)(hF:F=o3 (o3 (o3 (o3 (o3 w' ⟨g,M pre*3,X⟩ c0) ⟨g,M pre*3+1,X⟩ a) ⟨g,M pre*3+2,X⟩ b) ⟨c,0,X⟩ (U (N ⟨g,0,X⟩) (M pre+1) o)) ⟨c+1,0,X⟩ (ox pg x.1)):KeepsFrom Zp G F/\(∀k,k=1\/k=c+1+1\/k=c+1+1+1->F.1[k]? =G.1[k]?)/\WI d c w (pre++[x]) F:=by
 have s1:=u.4;have s2:=t.4;have s3:=p.4;have s4:=h.4;have ac:=xs_len r;have T:=ow u (o5 t s1);have s:=ow T (o5 p aA);have qU:=gR r s;have ab:∀m,ov v=N m->c+4<=m:=λm y=>(iX r y).1;have hg:=iX J (g:=g) R;obtain⟨f,i⟩:∃f:pn,f=o3 (o3 (o3 w' ⟨g,M pre*3,X⟩ c0) ⟨g,M pre*3+1,X⟩ a) ⟨g,M pre*3+2,X⟩ b:=⟨_,R⟩
 have ae:f.ownsRow (c+4) 103 3 (U (N ⟨g,0,X⟩) (M pre+1) o) (M pre+1) (xs++[c0,a,b]):=by rw[i];exact Mh J ac _ _ _
 have s5:↑f=w'.1.size:=by rw[i];exact ja
 have q:∀k≠g,f.1[k]? =w'.1[k]?:=λk j=>by
  rw[i,aR _ _ _ _ j,aR _ _ _ _ j,aR _ _ _ _ j]
 have V:Zq.grownBy f (ov v):=⟨by rw[i];exact h.1,by rw[i];exact h.2,by rw[i];exact h.3,aA,λk j I=>by
  rw[q k ?_]
  .exact h.5 k j I
  .rintro rfl;obtain l|⟨z,l,B⟩:=D
   .exact I l
   .simp[ov]at l;omega⟩
 have E:M (pre.map Zr.i)=M pre:=aC
 have af:=
  fM.step (w:=e) (w1:=n) (w3:=Zq) (v:=v) (xs:=xs) (L:=L) (H:=H) aA (by rw[E];exact r) q3 q4 q5 ht u (ow t (o5 p s2)) (by rw[E];exact ae) V D
 rw[<-i]at hF
 have A:∀k≠c,k≠c+1->F.1[k]? =f.1[k]?:=λk W Y=>by
  rw[hF,aR _ _ _ _ Y,aR _ _ _ _ W]
 have s6:↑F=f.1.size:=by rw[hF];exact ja
 have P:Ye w' c 101 v:=oy (h.5 _ aA (λl=>by grind)) (oy (s.5 _ aA) K);have Q:Ye w' (c+1) 3 (ox pg (nX pre)):=oy (h.5 _ aA (λl=>by grind)) (oy (s.5 _ aA) O);have S:Ye f c 101 v:=oy (q _ aA) P;have f1:Ye f (c+1) 3 (ox pg (nX pre)):=oy (q _ aA) Q;refine⟨KeepsOthers.from ?_ _,?_,⟨(U (N ⟨g,0,X⟩) (M pre+1) o),?_,?_⟩,?_,?_,aA⟩
 .have C:KeepsOthers G Zq:=⟨p.4,λk l j _=>oy (p.5 k (fO j)) j⟩
  have k2:=KeepsOthers.of_grownBy h (λB ad l z=>FW qU B ad l z);rw[hF,i];exact yp (yp C k2) (yp (yp (yp (yp (zj _ _ _) (zj _ _ _)) (zj _ _ _)) (zj _ _ _)) (zj _ _ _))
 .intro k j;have z:k<c+4:=by omega
  rw[A k aA aA,q k aA,h.5 k aA (λl=>by grind),p.5 k aA]
 .rw[hF];exact jF (S.set _) _ _ aC
 .rw[aZ];exact(af.kept (w':=F) (λk l z=>A k aA aA)).wider fI aA
 .rw[hF,kR];exact(jF f1 _ _ aC).set _
 .have l:=AT (ow aa (o5 s aA)) h aA (λm y=>by have:=ab m y;omega);rw[hF,i];exact ph (ph (ph (ph (ph l (by show c<=g;omega) _) (by show c<=g;omega) _) (by show c<=g;omega) _) fI _) aC _
end
section
open Go.RowKit Go.Joins Go.Shelf
attribute [local go_sem] Oper.semAt_some
def Ix(d)(hf:FirstSaid d)(s:ByteArray)(c f w)(Y:ot s<=16777216)(hdd:c+d=9)(am:ot s<=f)(hH:iJ w):tf PQ 220 #[pk s,ox pg c] w λe a=>Lh (d+1) w.1.size a e (Im.many (Im.read Im.body d) f s.1.1)/\Below w.1.size w a:=by
 have h0:=hH.pos;generalize hR:Im.many (Im.read Im.body d) f s.1.1=Zs;have HR:qu _:=hR;clear hR;refine zw.1 (qbm (n:=3) (fq func220 R) R trivial ?_ R);simp only[ntmps220,bZ,aP,bH,Nat.reduceAdd,Nat.reduceSub,bP,bO,cD,bQ,cA,bX];gi_wp2;refine⟨trivial,?_⟩;refine(zw.2 (xC s c _)).mono ?_;rintro e a ⟨rfl,rfl⟩;gi_wp2;obtain⟨V,j⟩:∃V:pn,V=(o6 (o6 (o6 (o6 w (pj #[U X 0 0] 101)) (pj #[ox pg 0] 3)) (pj #[pk s] 9)) (pj #[ox pg c] 3)):=⟨_,R⟩
 rw[<-j];have aj:↑V=w.1.size+4:=by rw[j];simp
 have af:Below ↑w w V:=by rw[j];exact pb (pb (pb (pb (aH _ w) fI _) aC _) aD _) aD _
 have v0:Ye V ↑w 101 (U X 0 0):=by rw[j];exact YN (YN (YN (Boxed.new w _ _) _) _) _
 have v1:Ye V (w.1.size+1) 3 (ox pg 0):=by
  rw[j];have:=Boxed.new (o6 w (pj #[U X 0 0] 101)) 3 (ox pg 0);rw[cQ]at this;exact YN (YN this _) _
 have v2:Z V ⟨w.1.size+1+1,0,X⟩=N (pk s):=by
  rw[j];have:=Boxed.new (o6 (o6 w (pj #[U X 0 0] 101)) (pj #[ox pg 0] 3)) 9 (pk s);rw[cQ,cQ]at this;exact zt (YN this _)
 have v3:Z V ⟨w.1.size+1+1+1,0,X⟩=N (ox pg c):=by
  rw[j];have:=Boxed.new (o6 (o6 (o6 w (pj #[U X 0 0] 101)) (pj #[ox pg 0] 3)) (pj #[pk s] 9)) 3 (ox pg c);rw[cQ,cQ,cQ]at this;exact zt this
 clear j
 refine uX (gf:=205) (lb:=#[pm (N ⟨w.1.size+1+1,0,X⟩),pm (N ⟨w.1.size+1+1+1,0,X⟩)]) R (enters_of (fq func205 R) Zm R)
  (zk d hf s c (w.1.size+1+1) (w.1.size+1+1+1) V Y hdd (hH.fF af h0) aA v2 v3 aA aA) (aH _ _) (by intro k b;omega) (XY.turn (d+1)) (λ_=>R)
  (WI d ↑w w) (λ_ _ _=>False) (by rw[aj];exact WI.own d _ w) (λ_ _ _ _ _ Y _ _=>Y)
  ⟨⟨_,v0,fM.none _ _ _ _⟩,v1,af,aA⟩
  (λx B=>⟨#[pk s,ox pg c,p8,p8,U X 0 0,rh pi,pm (N ⟨↑w,0,X⟩),pm (N ⟨w.1.size+1,0,X⟩),ox pg x.1,pm (N ⟨B,0,X⟩),pk s,ox pg c,.func (.func 205) #[] #[pm (N ⟨w.1.size+1+1,0,X⟩),pm (N ⟨w.1.size+1+1+1,0,X⟩)],ox pg x.1,we #[.bool x.2.1,pk ⟨py x.2.2⟩,U x.3 (M x.2.3) x.4],p8,p8,p8,p8,p8,p8,p8,p8,p8,p8,p8,p8],[]⟩)
  (λx=>pj #[.bool x.2.1,pk ⟨py x.2.2⟩,U x.3 (M x.2.3) x.4] 103) ?assign ?body ?done ?stop
 case assign=>
  intro l x W K hK;simp only[Zr.encs];gi_wp2;exact hK
 case body=>
  rintro a8 pre x W0 B a2 ⟨⟨v,C,ao⟩,D,ak,ap⟩ O ⟨a7,y⟩;obtain⟨xs,L,H,n,q2,q3,q4,q5⟩:=ao;have s1:=O.4;have a3:PQ.follows .mixedOrders=pw:=Zm
  obtain⟨va,ad,rfl⟩:=gW n;rw[aV]at *;obtain⟨p,ai⟩:∃p:ByteArray,(⟨py x.2.2⟩:ByteArray)=p:=⟨_,R⟩
  rw[ai]at y⊢;obtain⟨G,u,gb,-⟩:=fL B #[.bool x.2.1,pk p,U x.3 (M x.2.3) x.4] 103;rw[<-u];have gs:↑G=B.1.size+1:=by rw[u];simp
  have E:=ow O (o5 gb s1);obtain⟨k0,k1,k2⟩:K3 G ↑B 0 (.bool x.2.1) (pk p) (U x.3 (M x.2.3) x.4):=by rw[u];exact K3.BM _ _ _ _ _
  rw[cX]at k1 k2;clear u;have t:Ye G ↑w 101 (U va (M pre) ad):=oy (E.5 _ C.lt) C;have c1:Ye G (w.1.size+1) 3 (ox pg (nX pre)):=oy (E.5 _ D.lt) D
  have an:∃l,PQ.info? 103=N l/\l.8=N (we #[rh pi,pk ⟨#[]⟩,U X 0 0])/\l.3=3/\l.4=48:=by
   let⟨l,S,aa,ab,ac⟩:=yk A3;exact⟨l,S,aa,ab,ac⟩
  obtain⟨l,S,aa,ab,ac⟩:=an;obtain⟨Zq,q⟩:∃Zq:pn,Zq=(o6 G (pj #[rh pi,pk ⟨#[]⟩,U X 0 0] 103)).drew:=⟨_,R⟩
  have o:Below ↑G G Zq:=by rw[q];exact rk (pb (aH _ G) fI _)
  have us:↑Zq=G.1.size+1:=by rw[q];simp
  have z:K3 Zq ↑G 0 (rh pi) (pk ⟨#[]⟩) (U X 0 0):=by rw[q];let⟨t0,t1,t2⟩:=K3.BM G (rh pi) (pk ⟨#[]⟩) (U X 0 0) 103;exact⟨t0,t1,t2⟩
  have qU:=gR (gR n E) o
  let⟨v',a,I,i,r,J⟩:=nD (P:=PQ) Zq _ 101 101 103 l _ 3 48 (uq underlying101) S aa ab ac R aB _ _ xs qU ⟨↑G,0,X⟩ 1 1 [rh pi,pk ⟨#[]⟩,U X 0 0] aB R (by
   intro aq au b
   match aq,b with
   |0,b=>simp at b;subst b;exact z.1
   |1,b=>simp at b;subst b;exact z.2.1
   |2,b=>simp at b;subst b;exact z.2.2) (by intro au T;simp at T;rcases T with rfl|rfl|rfl<;>rfl) aE aA aA
  obtain⟨g,ah,rfl⟩:=iM i aA;rw[q,gs]at I;have m0:=zt t;have a9:=zt (YN t (pj #[rh pi,pk ⟨#[]⟩,U X 0 0] 103));have a1:=iX i (g:=g) R;have P:=i.cells (g:=g) R;have W:=xs_len qU;have y0:Z a ⟨g,M pre*3,X⟩=N (rh pi):=by have:=P (M pre*3) (rh pi) (by rw[bF aA,W];simp);simpa[kC]using this
  have y1:Z a ⟨g,M pre*3+1,X⟩=N (pk ⟨#[]⟩):=by have:=P (M pre*3+1) (pk ⟨#[]⟩) (by rw[bF aA,W,show M pre*3+1-M pre*3=1 from by omega];rfl);simpa[kC]using this
  have y2:Z a ⟨g,M pre*3+2,X⟩=N (U X 0 0):=by have:=P (M pre*3+2) (U X 0 0) (by rw[bF aA,W,show M pre*3+2-M pre*3=2 from by omega];rfl);simpa[kC]using this
  have ag:∀m,ov (U va (M pre) ad)=N m->w.1.size+4<=m:=λm hm=>(iX n hm).1;have e0:Ye a ↑w 101 (U va (M pre) ad):=oy (r.5 _ aA (λe=>by have:=ag _ e.symm;omega)) (oy (o.5 _ aA) t);have e1:Ye a (w.1.size+1) 3 (ox pg (nX pre)):=oy (r.5 _ aA (λe=>by have:=ag _ e.symm;omega)) (oy (o.5 _ aA) c1);have n0:=zt e0;have n1:=ZI e0;have n2:=zt e1;have n3:=ZI e1;have n4:sk a ⟨g,M pre*3,X⟩=pi:=rG i;have n5:sk a ⟨g,M pre*3+1,X⟩=pi:=rG i;have n6:sk a ⟨g,M pre*3+2,X⟩=pi:=rG i;have a4:(0:Int)<=(M pre:Int):=aA
  have a5:(M pre:Int)<((M pre+1:Nat):Int):=aA
  have a6:(M pre:Int)<M pre+1:=aA
  have Q:g≠w.1.size:=aA
  have a0:g≠w.1.size+1:=aA
  have f0:=ZI t;have Hx:qu _:=fE n (fE q2 (fE q3 (fE q4 q5)));have ay:qu _:=i;have aw:qu _:=r;have av:qu _:=J;have az:qu _:=o;have ax:qu _:=y
  have fin:∀(ae:Act)(F:pn),F=o3 (o3 (o3 (o3 (o3 a ⟨g,M pre*3,X⟩ (.bool x.2.1)) ⟨g,M pre*3+1,X⟩ (pk p)) ⟨g,M pre*3+2,X⟩ (U x.3 (M x.2.3) x.4)) ⟨↑w,0,X⟩ (U (N ⟨g,0,X⟩) (M pre+1) ah)) ⟨w.1.size+1,0,X⟩ (ox pg x.1)->
    RO ↑V (λk=>k=1\/k=w.1.size+1+1\/k=w.1.size+1+1+1) (WI d ↑w w) (λ_ _ _=>False) (pre++[x]) G .normal ae F:=λae F hF=>
   Jt h0 ak ap C D n (by rw[aV];exact q3) (by rw[aV];exact q4) q5 O y gb o i r J hF
  have A:qu _:=fin;clear fin;clear n q2 q3 q4 q5 i r J o y z qU q;gi_wp2;refine wpIn_region_any Zm ?_;change wpAnyIn _ _ _ _ _ _ _ _ _ (World.drew _);refine(λ(ar:(?T:Prop))=>?main) ?k
  case main=>
   repeat' first
    |exact Yu
    |refine If R (λK hK=>?_) ?_
    |refine xn (rs:=[0,1,3]) gz aC ?_
    |refine xn (rs:=[1,2,3]) gz aC ?_
    |refine xn (rs:=[2,3]) gz aC ?_
    |refine xn (rs:=[3]) gz aC ?_
    |refine xn (rs:=[2]) gz aC ?_
    |refine xn (rs:=[1,3]) gz aC ?_
    |refine xn (rs:=[1]) gz aC ?_
    |refine xn (rs:=[1,2]) gz aC ?_
    |refine xn (rs:=[0,3]) gz aC ?_
    |refine xn (rs:=[0]) gz aC ?_
    |refine xn (rs:=[0,1]) gz aC ?_
    |(go_simp;refine hK _ _ ?_;clear hK K)
    |exact ar
  case k=>
   refine xn (rs:=[4]) Zm aC ?_;refine If R (λK hK=>?_) Yu;refine Ag _ (by rfl) (by rfl) (by rfl) (by rfl) I ?_;refine hK _ _ ?_;clear hK K I;refine xn (rs:=[5,7]) Zm aC ?_;refine If R (λK hK=>?_) ?_
   .go_simp;refine hK _ _ ?_;clear hK K;refine xn (rs:=[6,7]) Zm aC ?_;refine If R (λK hK=>?_) ?_
    .go_simp;refine hK _ _ ?_;clear hK K;refine xn (rs:=[7]) Zm aC ?_;refine If R (λK hK=>?_) Yu
     .go_simp;refine hK _ _ ?_;clear hK K;refine wpAnyIn_done Zm ?_ _;gi_wp2;exact A _ _ mh
    refine If R (λK hK=>?_) Yu
    .go_simp;refine hK _ _ ?_;clear hK K;refine xn (rs:=[6]) Zm aC ?_;refine If R (λK hK=>?_) Yu
     .go_simp;refine hK _ _ ?_;clear hK K;refine wpAnyIn_done Zm ?_ _;gi_wp2;exact A _ _ mh
   refine If R (λK hK=>?_) Yu
   .go_simp;refine hK _ _ ?_;clear hK K;refine xn (rs:=[5]) Zm aC ?_;refine If R (λK hK=>?_) Yu
    .go_simp;refine hK _ _ ?_;clear hK K;refine xn (rs:=[6]) Zm aC ?_;refine If R (λK hK=>?_) Yu
     .go_simp;refine hK _ _ ?_;clear hK K;refine wpAnyIn_done Zm ?_ _;gi_wp2;exact A _ _ mh
 case done=>
  rintro D l J W L O ⟨p,r,F,E⟩ ⟨⟨v,m,row⟩,n,C,P⟩ b hK;have I:=b.4;have B:Ye W ↑w 101 v:=oy (b.5 _ m.lt) m;have o:Ye W (w.1.size+1) 3 (ox pg (nX l)):=oy (b.5 _ n.lt) n;rw[F]at o;have y:=(row.kept (λk _ H=>b.5 k H)).wider fI I;have x:=grownBy_putObj' W D (uu X);have z:=y.turn x (λH e=>by cases e;exact⟨_,hK,R⟩);have q:=AT (ow C (o5 b aA)) x aA (λk e=>by cases e;omega)
  obtain⟨g,i,rfl⟩:∃g i,v=.slice g (M l) i:=by
   obtain⟨_,_,_,H,_⟩:=row;have:=gW H;exact ir
  have Q:=zt B;have S:=zt o;have t:=oz kW d;have u:M s.1.1<=f:=by rw[<-aW];exact am
  have A:qu _:=z;clear y z row;by_cases G:p<ot s
  .have H:(p:Int)<ot s:=by omega
   obtain rfl:Zs=X:=by
    obtain h|⟨_,h⟩:=E
    .omega
    .exact oy HR.symm (r.stuck t f u (by rw[<-aW];exact G) h)
   gi_wp2;refine⟨aC,rr ⟨_,_,R,qam hK,?_⟩⟩;exact⟨_,by simp[results,results220,go_sem],R,q⟩
  .have H:¬(p:Int)<ot s:=by omega
   obtain rfl:Zs=N (l.map Zr.i):=oy HR.symm (r.all t f u gv);gi_wp2;refine⟨aC,rr ⟨_,_,R,qam hK,?_⟩⟩;refine⟨sh #[U g (M l) i,rh pw],by simp[results,results220,go_sem],⟨g,i,aC,?_⟩,q⟩;have:=fM.wider A (lo':=w.1.size) aA fI;rw[aV];exact this
 case stop=>
  rintro D g pre b W _ _ _ h _ _;exact h.elim
end
section
open Go.RowKit Go.Joins Go.Shelf
attribute [local go_sem] Oper.semAt_some
def first_any(d)(hd:d=0\/∃a,d=a+1/\FirstSaid a):FirstSaid d:=by
 intro s h w hs hdd z;have Q:=z.pos;have hl:=aW s;generalize S:Im.read Im.body d s.1.1=C;have i:qu _:=S;have Hd:qu _:=hd;clear S hd;let⟨Zr,B,u,D⟩:=fL w #[rh pi,pk ⟨#[]⟩,U X 0 0] 103;have V:Zr.1.size=w.1.size+1:=mu
 go_enter (fq func206 R),ntmps206;go_wp2;rw[<-B];refine se (Ad s Zr hs (z.fF u Q)) ?_;rintro g w1 ⟨rfl,l⟩;have au:=l.4;have a:=ow u (o5 l aA);have H:=oy (l.5 _ aA) D;have b:∀o:ZG,(o6 w1 o).1[w.1.size]? =N (pj #[rh pi,pk ⟨#[]⟩,U X 0 0] 103 (0,0)):=λo=>oy (aU _ _ _ aA) H;have m:∀o:ZG,Z (o6 w1 o) ⟨↑w,0,X⟩=N (rh pi):=λo=>by rw[aG (b o)];rfl
 have n:∀o:ZG,Z (o6 w1 o) ⟨↑w,1,X⟩=N (pk ⟨#[]⟩):=λo=>by rw[aG (b o)];rfl
 have p:∀o:ZG,Z (o6 w1 o) ⟨↑w,2,X⟩=N (U X 0 0):=λo=>by rw[aG (b o)];rfl
 have y:=λo J=>aM (b o) J;have ar:↑w≠w1.1.size:=aA
 have T:=z.fF a Q;have HX:qu _:=fE l (fE V (fE u D));clear B l V u D;cases c:Im.body s.1.1 with
 |none=>
  obtain rfl:C=X:=oy i.symm (qj c);simp only[qy];go_wp2;exact sd (v:=.tuple _) (by simp[results,ZX,go_sem,m,n,p]) R ⟨R,ph (ph (ph (pb a a.4 _) aC _) aC _) aC _⟩
 |some Zs=>
  obtain⟨ak,f,t⟩:=Zs;let⟨ap,ai,av,ao⟩:=kW _ _ _ _ c;rw[<-hl]at ai;clear hl;simp only[qy];have aq:(f:Int)<=t:=aA
  have aw:(t:Int)<=ot s:=aA
  cases ak with
  |false=>
   obtain rfl:=oy i.symm (xG c);clear c;go_wp2;obtain⟨Y,j,-,r⟩:=fL w1 #[rh pi,ox pg f,ox pg t] 311;rw[<-j];have aa:↑Y=w1.1.size+1:=by rw[j];simp
   have E:Below ↑w w Y:=by rw[j];exact pb a a.4 _
   have v:Y.1[w.1.size]? =N (pj #[rh pi,pk ⟨#[]⟩,U X 0 0] 103 (0,0)):=by rw[j];exact b _
   have P:=(fO v)
   obtain⟨-,-,c2⟩:=iY r;clear j;have x:qu _:=fE v r;have Hz:qu _:=fE m (fE n (fE p (fE y b)));clear v r m n p y b H;have K:ot (qt s f t)<=16777216:=aD
   have G:(⟨py ((s.1.1.take t).drop f)⟩:ByteArray)=qt s f t:=by
    rw[<-ext_list]
   obtain⟨e,A⟩:∃e:ByteArray,qt s f t=e:=⟨_,R⟩
   rw[A]at K G;rw[A]
   have I:∀Zq:pn,Below ↑Y Y Zq->tf PQ 151 #[pk e] Zq λg w3=>g=qs (pk e)/\Z w3 ⟨↑w1,2,X⟩=N (ox pg t)/\Z w3 ⟨↑w,0,X⟩=N (rh pi)/\Z w3 ⟨↑w,1,X⟩=N (pk ⟨#[]⟩)/\Z w3 ⟨↑w,2,X⟩=N (U X 0 0)/\(∀J,sk w3 ⟨↑w,J,X⟩=pi)/\Below ↑w w w3:=by
    intro Zq C;refine se (clone_any e Zq K) ?_;rintro g w3 ⟨rfl,O⟩;have q:=ow C (o5 O C.4);have W:=oy (q.5 _ aA) x.2;have k:=oy (q.5 _ P) x.1;exact⟨R,by rw[aG W];rfl,by rw[aG k];rfl,by rw[aG k];rfl,by rw[aG k];rfl,aM k,ow E (o5 q E.4)⟩
   have L:qu _:=I;clear I;go_region_with (go_at_call 151;refine se (L _ ?_) ?_;(first|exact aH _ _|exact rk (aH _ _)|exact fG (aH _ _) _);rintro g w3 ⟨rfl,x2,z0,z1,z2,fz,F⟩)
   all_goals
    go_wp2;refine sd (v:=sh #[we #[rh pi,pk e,U X 0 0],ox pg t,rh pw]) (by simp[results,ZX,go_sem,z0,z1,z2]) R ⟨⟨X,0,by simp only[G];rfl,?_⟩,?_⟩
    .exact Tr.wZ (i:=⟨pi,_,[]⟩) (fM.none _ _ _ _)
    .first
      |exact ph (ph (ph F aC _) aC _) aC _
      |exact fG (((F.setCell aC _).setCell aC _).setCell aC _) _
  |true=>
   have aj:ot (qt s f t)<=16777216:=aD
   obtain⟨e,A⟩:∃e:ByteArray,qt s f t=e:=⟨_,R⟩
   have F:e.1.1=(s.1.1.take t).drop f:=by rw[<-A,ext_list]
   obtain rfl|⟨q,rfl,hf⟩:=Hd.out
   .obtain rfl:=oy i.symm (wH c);have j:(8:Int)<(h:Int):=by omega
    clear c F;go_wp2;exact sd (v:=.tuple _) (by simp[results,ZX,go_sem,m,n,p]) R ⟨R,ph (ph (ph (pb a a.4 _) aC _) aC _) aC _⟩
   .have r:C=_:=oy i.symm (AY c);rw[<-F]at r;have an:¬(8:Int)<(h:Int):=by omega
    have G:∀Zq:pn,Below ↑w1 w1 Zq->tf PQ 220 #[pk e,ox pg ((h:Int)+1)] Zq λg w3=>Lh (q+1) ↑Zq w3 g (Im.many (Im.read Im.body q) (M s.1.1) e.1.1)/\Below ↑Zq Zq w3:=by
     intro Zq k;have:=Ix q hf e (h+1) (M s.1.1) Zq (by rw[<-A];exact aj) aA (by rw[<-A,<-aW];simp;omega) (T.fF k T.pos);rw[show((h+1:Nat):Int)=(h:Int)+1 from by omega]at this;exact this
    generalize hM:Im.many (Im.read Im.body q) (M s.1.1) e.1.1=Zn at G r;have ad:qu _:=G;have O:qu _:=r;clear G c hM i r F;let⟨Y,j,af,W⟩:=fL w1 #[rh pw,ox pg f,ox pg t] 311;have am:Y.1.size=w1.1.size+1:=by rw[j];simp
    have ag:Below ↑w w Y:=by rw[j];exact pb a a.4 _
    have E:Y.1[w.1.size]? =N (pj #[rh pi,pk ⟨#[]⟩,U X 0 0] 103 (0,0)):=by rw[j];exact b _
    have ah:=(fO E)
    have P:qu _:=fE E W;clear E W;go_wp2;rw[<-j];clear j;refine se (ad Y af) ?_;rintro g w3 ⟨aa,v⟩;have s3:=v.4;have x:=ow ag (o5 v aA);have ac:=oy (v.5 _ aA) P.2;have I:=oy (v.5 _ ah) P.1;obtain⟨-,-,x2⟩:=iY ac;let⟨z0,z1,z2⟩:=iY I;have fz:=aM I;clear ac I m n p y b H;cases Zn with
    |none=>
     obtain rfl:C=X:=O.out;obtain rfl:=aa;go_wp2;exact sd (v:=.tuple _) (by simp[results,ZX,go_sem,z0,z1,z2]) R ⟨R,ph (ph (ph x aC _) aC _) aC _⟩
    |some ks=>
     obtain rfl:C=N (⟨pw,[],ks⟩,t):=O.out;obtain⟨K,L,rfl,ab⟩:=aa;have ae:qu _:=ab;clear ab;go_wp2;go_region
     all_goals
      go_wp2;refine sd (v:=sh #[we #[rh pw,pk ⟨#[]⟩,U K (M ks) L],.int _ t,rh pw]) (by simp[results,ZX,go_sem,z0,z1,z2]) R ⟨⟨K,L,R,?_⟩,?_⟩
      .have C:=fM.wider (lo':=w.1.size+1) ae aA fI;have r2:=fM.wider (lo':=w.1.size) (fM.kept (w':=o3 (o3 (o3 w3 ⟨↑w,0,X⟩ (rh pw)) ⟨↑w,1,X⟩ (pk ⟨#[]⟩)) ⟨↑w,2,X⟩ (U K (M ks) L)) C (λk k1 _=>by rw[aR _ _ _ _ aD,aR _ _ _ _ aD,aR _ _ _ _ aD])) aA fI;exact Tr.wZ (i:=⟨pw,[],ks⟩) (fM.wider (fM.kept r2 (λ_ _ _=>R)) fI ja)
      .first
        |exact ph (ph (ph x aC _) aC _) aC _
        |exact(ph (ph (ph (rk x) aC _) aC _) aC _)
        |exact fG (((x.setCell aC _).setCell aC _).setCell aC _) _
end
section
open Go.RowKit Go.Joins Go.Shelf
attribute [local go_sem] Oper.semAt_some
variable {w A:pn}{u0 u1 u2:po}{t:wj}{g:List UInt8->Option (It×Nat)}{s:List UInt8}{p n k:Nat}{i:It}{row:Option Nat}
def tG:∀d:Nat,FirstSaid d
 |0=>first_any 0 (rr R)
 |d+1=>first_any (d+1) (rz ⟨d,R,tG d⟩)
def LJ(s w):tf PQ 120 #[pk s] w λe a=>e=qs (.func (.func 205) #[] #[pm (N ⟨w.1.size,0,X⟩),pm (N ⟨w.1.size+1,0,X⟩)])/\a=o6 (o6 w (pj #[pk s] 9)) (pj #[ox pg 1] 3):=by
 go_enter (fq func120 R),ntmps120;go_wp2;refine se (xC s 1 _) ?_;rintro e w1 ⟨rfl,rfl⟩;go_wp2;go_ret;exact⟨R,R⟩
def pP(n c:Nat)(w':pn)(e:Ending):Option It->Prop
 |none=>e=qs (sh #[we #[rh pi,pk ⟨#[]⟩,U X 0 0],ox pg 4])
 |some i=>∃a b,e=qs (sh #[we #[.bool i.1,pk ⟨py i.2⟩,U a (M i.3) b],ox pg 0])/\Tr w' n c ↑w' (.bool i.1) (pk ⟨py i.2⟩) (U a (M i.3) b) i
def xB{b}(h:w.1[b]? =N (pj #[u0,u1,u2] t (0,0)))(x y z):(o3 (o3 (o3 w ⟨b,0,X⟩ x) ⟨b,1,X⟩ y) ⟨b,2,X⟩ z).1[b]? =N (pj #[x,y,z] t (0,0)):=by have:=uk (uk (uk h (i:=0) x) (i:=1) y) (i:=2) z;exact ir
def Im.jN.zero(h:Im.jN g s [] p):p=0:=by
 generalize a:([]:List It)=l at h;cases h with
 |nil=>rfl
 |snoc=>simp at a
def Im.jN.one(h:Im.jN g s [i] p):g s=N (i,p):=by
 generalize a:[i]=l at h;cases h with
 |nil=>simp at a
 |@snoc l0 p0 i0 n0 h hp hg=>
  have e:=a.symm;rw[List.append_eq_singleton_iff]at e;obtain⟨rfl,e⟩|⟨_,e⟩:=e
  .simp at e;subst e;obtain rfl:=h.zero;simpa using hg
  .simp at e
def DI(s:ByteArray)(a:Nat)(w:pn)(pre:List Zr)(W:pn):=
 pre=[]/\Ye W a 9 (pk s)/\W.1[a+1]? =N (pj #[rh pi,pk ⟨#[]⟩,U X 0 0] 103 (0,0))/\Ye W (a+2) 36 (ox pg 0)/\Below a w W/\a+5<=W.1.size
def DX(s:ByteArray)(a:Nat)(w:pn)(c:Code)(pre:List Zr)(W:pn):=
 (c=.exit 0/\∃x,pre=[x]/\x.1<ot s/\DI s a w [] W)\/
 (c=.ret/\∃x,pre=[x]/\ot s<=x.1/\W.1[a+1]? =N (pj #[.bool x.2.1,pk ⟨py x.2.2⟩,U x.3 (M x.2.3) x.4] 103 (0,0))/\Ye W (a+2) 36 (ox pg 0)/\Below a w W/\a+5<=W.1.size/\Tr W 9 (a+5) ↑W (.bool x.2.1) (pk ⟨py x.2.2⟩) (U x.3 (M x.2.3) x.4) x.2)
def cells_kept{B:pn}(a:A.grownBy B row)(d:∀r,row=N r->n<=r/\∃o:ZG,A.1[r]? =N o/\o.isCells=pi){o:ZG}(b:A.1[k]? =N o)(c:o.isCells=pw):B.1[k]? =N o:=
 gY a (λr e=>(d r e).2) k o b c
def DI.own(s c w):YM (c+5) (DI s c w):=by rintro pre A B row ⟨rfl,d,e,f,g,i⟩ a b;exact⟨R,cells_kept a b d R,cells_kept a b e R,cells_kept a b f R,AT g a aA (λk h=>by grind),by have:=a.4;omega⟩
def DX.own(s d w c):YM (d+5) (DX s d w c):=by
 rintro pre A B row (⟨hc,x,rfl,e,l⟩|⟨hc,x,rfl,e,g,h,i,m,j⟩) a b
 .exact rr ⟨hc,x,R,e,DI.own s d w _ _ _ _ l a b⟩
 .exact rz ⟨hc,x,R,e,cells_kept a b g R,cells_kept a b h R,AT i a aA (λk f=>by grind),by have:=a.4;omega,j.turn a (λr f=>(b r f).2)⟩
def decode_any(s:ByteArray)(w)(hs:ot s<=16777216)(S:iJ w):tf PQ 175 #[pk s] w λe L=>pP 9 w.1.size L e (Im.dec s.1.1)/\Below w.1.size w L:=by
 have h0:=S.pos;generalize hR:Im.dec s.1.1=Zs;have u:qu _:=hR;clear hR;refine zw.1 (qbm (n:=3) (fq func175 R) R trivial ?_ R);simp only[ntmps175,bZ,aP,bH,Nat.reduceAdd,Nat.reduceSub,bP,bO,cD,bQ,cA,bX];gi_wp2;refine⟨trivial,?_⟩;refine(zw.2 (LJ s _)).mono ?_;rintro e L ⟨rfl,rfl⟩;gi_wp2;obtain⟨V,g⟩:∃V:pn,V=(o6 (o6 (o6 (o6 (o6 w (pj #[pk s] 9)) (pj #[rh pi,pk ⟨#[]⟩,U X 0 0] 103)) (pj #[ox pg 0] 36)) (pj #[pk s] 9)) (pj #[ox pg 1] 3)):=⟨_,R⟩
 rw[<-g];have ab:↑V=w.1.size+5:=by rw[g];simp
 have aa:Below ↑w w V:=by rw[g];exact pb (pb (pb (pb (pb (aH _ w) fI _) aC _) aD _) aD _) aD _
 have m:∀(y z n C e:ZG)(k:Nat),((o6 (o6 (o6 (o6 (o6 w y) z) n) C) e).1[k]?)=if k=w.1.size+4 then N e else if k=w.1.size+3 then N C else if k=w.1.size+2 then N n else if k=w.1.size+1 then N z else if k=w.1.size then N y else w.1[k]?:=by
  intro y z n C e k;exact ol
 have v0:Ye V ↑w 9 (pk s):=mj
 have v1:V.1[w.1.size+1]? =N (pj #[rh pi,pk ⟨#[]⟩,U X 0 0] 103 (0,0)):=by rw[g,m];simp
 have v2:Ye V (w.1.size+2) 36 (ox pg 0):=mj
 have v3:Z V ⟨w.1.size+1+1+1,0,X⟩=N (pk s):=by
  have:Ye V (w.1.size+3) 9 (pk s):=mj
  exact zt this
 have v4:Z V ⟨w.1.size+1+1+1+1,0,X⟩=N (ox pg (1:Nat)):=by
  have:Ye V (w.1.size+4) 3 (ox pg 1):=mj
  exact zt this
 clear g m
 refine uX (gf:=205) (lb:=#[pm (N ⟨w.1.size+1+1+1,0,X⟩),pm (N ⟨w.1.size+1+1+1+1,0,X⟩)]) R (enters_of (fq func205 R) Zm R)
  (zk 8 (tG 8) s 1 (w.1.size+1+1+1) (w.1.size+1+1+1+1) V hs R (S.fF aa h0) aA v3 v4 aA aA) (aH _ _) (by intro k h;omega) (XY.turn 9) (λ_=>R)
  (DI s ↑w w) (DX s ↑w w) (by rw[ab];exact DI.own s _ w) (by rw[ab];exact DX.own s _ w)
  ⟨R,v0,v1,v2,aa,aA⟩
  (λx B=>⟨#[pk s,pm (N ⟨↑w,0,X⟩),pm (N ⟨w.1.size+1,0,X⟩),pm (N ⟨w.1.size+1+1,0,X⟩),ox pg x.1,pm (N ⟨B,0,X⟩),pk s,.func (.func 205) #[] #[pm (N ⟨w.1.size+1+1+1,0,X⟩),pm (N ⟨w.1.size+1+1+1+1,0,X⟩)],ox pg x.1,we #[.bool x.2.1,pk ⟨py x.2.2⟩,U x.3 (M x.2.3) x.4],p8,p8,p8,p8,p8,p8],[]⟩)
  (λx=>pj #[.bool x.2.1,pk ⟨py x.2.2⟩,U x.3 (M x.2.3) x.4] 103) ?assign ?body ?done ?stop
 case assign=>
  intro h x W K hK;simp only[Zr.encs];gi_wp2;exact hK
 case body=>
  rintro ai pre x W0 v af ⟨rfl,A,i,d,l,ah⟩ c ⟨ag,B⟩;have r:=c.4;obtain⟨O,T⟩:∃O:ByteArray,(⟨py x.2.2⟩:ByteArray)=O:=⟨_,R⟩
  obtain⟨G,q,Q,-⟩:=fL v #[.bool x.2.1,pk ⟨py x.2.2⟩,U x.3 (M x.2.3) x.4] 103;rw[<-q];have gs:↑G=v.1.size+1:=by rw[q];simp
  have o:=ow c (o5 Q r);obtain⟨k0,I,J⟩:K3 G ↑v 0 (.bool x.2.1) (pk ⟨py x.2.2⟩) (U x.3 (M x.2.3) x.4):=by rw[q];exact K3.BM _ _ _ _ _
  rw[cX]at I J;clear q;have j:Ye G ↑w 9 (pk s):=oy (o.5 _ A.lt) A;have a:=oy (o.5 _ aA) i;have b:Ye G (w.1.size+1+1) 36 (ox pg 0):=oy (o.5 _ d.lt) d;have m0:=zt j;have m2:=zt b;have n2:=ZI b;let⟨z0,z1,z2⟩:=iY a;have fz:=aM a;have h:=ow l (o5 o aA);have t:Tr G 9 (w.1.size+5) ↑G (.bool x.2.1) (pk ⟨py x.2.2⟩) (U x.3 (M x.2.3) x.4) x.2:=(Tr.kept 9 _ _ _ _ _ _ (λk _ J=>Q.5 k J) B).wider aA aA;have HT:qu _:=fE t B;have K:qu _:=fE j (fE a (fE b h));clear t B j a b h A i d;rw[T]at I⊢;by_cases he:x.1<ot s
  .have ae:(x.1:Int)<ot s:=by omega
   gi_wp2;let⟨j,a,b,h⟩:=K.out;exact⟨KeepsFrom.refl _ _,rr ⟨R,x,R,he,R,j,a,b,h,aA⟩⟩
  .have ae:¬(x.1:Int)<ot s:=by omega
   gi_wp2;let⟨j,a,b,h⟩:=K.out;have t:=HT.1;rw[<-T];refine⟨KeepsOthers.from (yp (yp (yp (zj _ _ _) (zj _ _ _)) (zj _ _ _)) (zj _ _ _)) _,rz ⟨R,x,R,aA,?_,?_,?_,by simp[o3];omega,?_⟩⟩
   .rw[aR _ _ _ _ aC];exact xB a _ _ _
   .exact Boxed.set _ (jF (jF (jF b _ _ aC) _ _ aC) _ _ aC)
   .exact ph (ph (ph (ph h aC _) aC _) aC _) aD _
   .refine Tr.wider (Tr.kept 9 _ _ _ _ _ _ (λk I _=>?_) t) fI ja;rw[aR _ _ _ _ aD,aR _ _ _ _ aD,aR _ _ _ _ aD,aR _ _ _ _ aD]
 case' done=>
  rintro D G q W v A ⟨p,o,x,j⟩ ⟨rfl,t,i,d,l,B⟩ c hK;obtain rfl:=Im.jN.zero o
  obtain rfl:Zs=X:=by
   refine oy u.symm ?_
   have:Im.read Im.body 8 s.1.1=X:=by
    obtain h|⟨_,h⟩:=j
    .have:s.1.1=[]:=bC gv;rw[this];exact qj R
    .exact jx
   unfold Im.dec;rw[this]
 case' stop=>
  rintro D n pre O W T ae ⟨p,o,t⟩ (⟨rfl,x,rfl,J,_,Q,i,d,l,I⟩|⟨rfl,x,rfl,J,i,d,l,I,v⟩) c hK;rotate_left
  .have h:=Im.jN.one o;have j:=oy t.symm (kR [] x);subst j
   obtain rfl:Zs=N x.2:=by
    refine oy u.symm ?_;unfold Im.dec;rw[h];simp only;have:=(oz kW 8 _ _ _ h).2;rw[Zb (by rw[<-aW]at this⊢;omega)]
   have r:=c.4;gi_wp2;have f:D≠w.1.size+1/\D≠w.1.size+1+1:=aA
   have a:=oy (c.5 _ aA) i;have b:Ye W (w.1.size+1+1) 36 (ox pg 0):=oy (c.5 _ d.lt) d;have bW:=ow l (o5 c aA);have E:(W.putObj D (uu X)).1[w.1.size+1]? =_:=oy (sa (Ne.symm f.1)) a;have H:(W.putObj D (uu X)).1[w.1.size+1+1]? =_:=oy (sa (Ne.symm f.2)) b;have q:=grownBy_putObj' W D (uu X);have B:=(Tr.kept 9 _ _ _ _ _ _ (λk _ K=>c.5 k K) v).wider fI r;have A:=Tr.wider (lo':=w.1.size) (Tr.turn B q (λK e=>by cases e;exact⟨_,hK,R⟩)) aA fI;have G:qu _:=A;clear A B v;refine⟨aC,rr ⟨_,_,R,qam hK,?_⟩⟩;exact⟨_,by simp[results,results175,go_sem,aG E,aG H],⟨_,_,R,G⟩,AT bW q aA (λk e=>by cases e;omega)⟩
  have h:=Im.jN.one o;have j:=oy t.symm (kR [] x);subst j
  obtain rfl:Zs=X:=by
   refine oy u.symm ?_;unfold Im.dec;rw[h];simp only;rw[Za gv]
 all_goals
  have r:=c.4;have a:=oy (c.5 _ aA) i;have b:Ye W (w.1.size+1+1) 36 (ox pg 0):=oy (c.5 _ d.lt) d;have m2:=zt b;have n2:=ZI b;let⟨z0,z1,z2⟩:=iY a;have fz:=aM a;have bW:=ow l (o5 c aA);gi_wp2;have f:D≠w.1.size+1/\D≠w.1.size+1+1:=aA
  obtain⟨F,hF⟩:∃F:pn,F=o3 (o3 (o3 (o3 W ⟨w.1.size+1,0,X⟩ (rh pi)) ⟨w.1.size+1,1,X⟩ (pk ⟨#[]⟩)) ⟨w.1.size+1,2,X⟩ (U X 0 0)) ⟨w.1.size+1+1,0,X⟩ (ox pg 4):=⟨_,R⟩
  rw[<-hF];have Y:F.1[D]? =N (uu (N [])):=by rw[hF,aR _ _ _ _ f.2,aR _ _ _ _ f.1,aR _ _ _ _ f.1,aR _ _ _ _ f.1];exact hK
  have f1:F.1[w.1.size+1]? =N (pj #[rh pi,pk ⟨#[]⟩,U X 0 0] 103 (0,0)):=by rw[hF,aR _ _ _ _ aC];exact xB a _ _ _
  have f2:Ye F (w.1.size+1+1) 36 (ox pg 4):=by rw[hF];exact Boxed.set _ (jF (jF (jF b _ _ aC) _ _ aC) _ _ aC)
  have P:Below ↑w w F:=by rw[hF];exact ph (ph (ph (ph bW aC _) aC _) aC _) aD _
  have ad:=P.4;have ac:=(fO Y)
  clear hF;have E:(F.putObj D (uu X)).1[w.1.size+1]? =_:=oy (sa (Ne.symm f.1)) f1;have H:(F.putObj D (uu X)).1[w.1.size+1+1]? =_:=oy (sa (Ne.symm f.2)) f2;refine⟨aC,rr ⟨_,_,R,qam Y,?_⟩⟩;exact⟨_,by simp[results,results175,go_sem,aG E,aG H],R,AT P (grownBy_putObj' F D _) aA (λk e=>by cases e;omega)⟩
end
namespace Hm
open Go.RowKit Go.Joins Go.Shelf
variable {w:pn}{i:It}
def mM:(PQ.info? 9).map (λi=>(i.8,i.3,i.4))=N (N (pk ⟨#[]⟩),1,16):=Zm
def strs(i:It):Option (List (List UInt8)):=if i.1&&i.3.all (λt=>!t.1)then N (i.3.map (·.2))else X
def jk(w:pn)(a:Nat)(v:po)(l:List (List UInt8)):=fM w 9 1 v (M l) (l.map jP)/\∀g,ov v=N g->a<=g
def Strs(w:pn)(c:Nat)(e:Ending):Option (List (List UInt8))->Prop
 |none=>e=qs (sh #[U X 0 0,rh pi])
 |some l=>∃a b,e=qs (sh #[U a (M l) b,rh pw])/\jk w c (U a (M l) b) l
def In.kid{B n c0 k d}(h:In B w (n+1) c0 k d i)(q:i.3≠[]):∃g b c,d=U (N ⟨g,b,X⟩) (M i.3) c/\g<B/\∀(j f),∃a,K3 w g (b+j*3) (.bool i.3[j].1) (pk ⟨py i.3[j].2⟩) a/\In B w n (.bool i.3[j].1) (pk ⟨py i.3[j].2⟩) a i.3[j]:=by obtain⟨_,_,t,c,rfl,s⟩:=h;obtain⟨g,b,rfl,p,f⟩:=s q;refine⟨g,b,c,R,p,λj r=>?_⟩;let⟨x,y,a,o,e⟩:=f j r;let⟨u,v,l,m,z⟩:=e.shape;subst l m;exact⟨a,o,e⟩
def qA(n B i L w)(hB:B<=w.1.size)(h:In B w (n+2) (.bool i.1) (pk ⟨py i.2⟩) L i)(hl:M i.3<=4294967296):tf PQ 177 #[we #[.bool i.1,pk ⟨py i.2⟩,L]] w λe w'=>Strs w' w.1.size e (strs i)/\Below w.1.size w w':=by
 obtain⟨K,O,_,_,rfl⟩:=h.shape;obtain⟨D,P⟩:∃D:ByteArray,(⟨py i.2⟩:ByteArray)=D:=⟨_,R⟩
 obtain⟨W,c,v,-⟩:=fL w #[.bool i.1,pk D,U K (M i.3) O] 103;have z0:Z W ⟨↑w,0,X⟩=N (.bool i.1):=lm
 have z2:Z W ⟨↑w,2,X⟩=N (U K (M i.3) O):=lm
 obtain⟨J,q⟩:∃J,strs i=J:=⟨_,R⟩
 rw[q,P];obtain⟨F,r⟩:∃F,i.1=F:=⟨_,R⟩
 rw[r]at z0 c⊢;let⟨i0,S,aa,ab,ac⟩:=yk mM;have t:qu _:=fE S (fE aa (fE ab ac));have H:qu _:=fE h (fE v (fE q r));clear h v q r S aa ab ac P;cases F
 .go_enter (fq func177 R),ntmps177;go_upto_region 1 with fail;rw[<-c];clear c;go_wp2;go_ret2;let⟨h,v,q,r⟩:=H.out;refine⟨?_,v⟩;rw[<-q];unfold strs;rw[r];rfl
 .go_enter (fq func177 R),ntmps177;go_upto_region 1 with fail;rw[<-c];clear c;go_wp2;go_loopg [4,6,13] (M i.3) (λf j _ g d=>∃(k:Nat)(a:Option zm)(b:Nat),k<=M i.3/\g=ox pg k/\j=U a k b/\f=M i.3-k/\qu (jk d ↑w (U a k b) ((i.3.take k).map (·.2))/\(∀x∈i.3.take k,x.1=pi)/\Below ↑w w d))
  case atStart=>exact⟨0,X,0,bU _,R,R,R,⟨fM.nil _ _ _,gh⟩,aC,H.2.1⟩
  case round=>
   obtain⟨k,ra,rc,hk,rfl,rfl,rfl,a⟩:=hrel;by_cases y:k<M i.3
   .have ak:(k:Int)<M i.3:=by omega
    have T:=In.fF (o5 a.2.2 hB) _ _ _ _ _ H.1;let⟨g,am,aj,Y,hg,V⟩:=In.kid T (λe=>by rw[e]at y;simp at y);simp only[ry,true_and]at Y;obtain⟨rfl,rfl⟩:=Y;obtain⟨d2,⟨k0,k1,k2⟩,C⟩:=V k y;obtain⟨x,j⟩:∃x,i.3[k]=x:=⟨_,R⟩
    rw[j]at k0 k1 C;obtain⟨xa,xc,_,_,rfl⟩:=C.shape;obtain⟨Zr,m⟩:∃Zr:ByteArray,(⟨py x.2⟩:ByteArray)=Zr:=⟨_,R⟩
    rw[m]at k1;obtain⟨u,d,f,-⟩:=fL wr #[.bool x.1,pk Zr,U xa (M x.3) xc] 103;have y0:Z u ⟨↑wr,0,X⟩=N (.bool x.1):=by rw[d];simp
    have y1:Z u ⟨↑wr,1,X⟩=N (pk Zr):=by rw[d];simp
    obtain⟨G,l⟩:∃G,x.1=G:=⟨_,R⟩
    rw[l]at y0 k0 d;have o:i.3.take (k+1)=i.3.take k++[x]:=by rw[cO y,j]
    have I:qu _:=fE j (fE m (fE f (fE l o)));have E:=λah=>(a.1.1.fF f).fF (pb (aH _ u) fI ah);rw[show M ((i.3.take k).map (·.2))=k from by rw[aV,bA];omega]at E;have ae:qu _:=E;clear T hg V C j m f l o E;cases G
    .go_upto_region 7 with fail;rw[<-d];clear d;go_wp2_with (first|(at_builtin;refine fX _ R (.tmp 19) (.tmp 22) 40 R 9 i0 _ 1 16 (uq Yl) t.1 t.2.1 t.2.2.1 t.2.2.2 R aB _ k _ R (ae _) _ 1 1 [pk Zr] R aB R (by intro A Q p;match A,p with|0,p=>(simp at p;subst p;simp[Addr.add])) (by intro A p;simp at p;subst p;rfl) aE aA ?_;intro z an af w5 s b;have ad:qu _:=fE s b;clear s b)|go_in)
     go_roundg (M i.3-(k+1))
     case measure=>omega
     case rel=>
      let⟨j,m,f,l,o⟩:=I.out;let⟨s,b⟩:=ad.out;have Q:=ow a.2.2 (o5 f a.2.2.4);have A:Below ↑w w (o6 u (pj #[pk Zr] 9)):=pb Q Q.4 _
      have ag:↑w<=z:=by
       obtain e|e:=b.own
       .exact a.1.2 z e
       .exact aX A.4 e
      refine⟨_,_,af,aA,by go_num,R,R,⟨?_,?_⟩,?_,?_⟩
      .rw[o,aZ,aZ,aN,aV,bA,dF aA];have:[x].map (λp:It=>p.2)=[x.2]:=R;rw[this,cL,dB];unfold jP at s⊢;rw[m];exact s
      .intro ai p;have:N z=N ai:=p;cases this;exact ag
      .intro ai p;rw[o]at p;obtain p|p:=bV.1 p
       .exact a.2.1 ai p
       .rw[bT.1 p];exact l
      .refine ow A ⟨b.gE.1,b.gE.2,b.gE.3,b.gE.4,λp hq=>b.gE.5 p (aL hq A.4) (λe=>?_)⟩;have:=a.1.2 p e;omega
    .go_upto_region 7 with fail;rw[<-d];clear d;go_wp2;go_ret2;let⟨j,m,f,l,o⟩:=I.out;refine⟨?_,ow a.2.2 (o5 f a.2.2.4)⟩;rw[<-H.out.2.2.1];unfold strs;rw[Za]
     .rfl
     .intro e;simp only[bN]at e;have:=cU.1 e.2 x (by rw[<-j];exact List.getElem_mem _);rw[l]at this;cases this
   .have d:¬(k:Int)<M i.3:=by omega
    obtain rfl:k=M i.3:=aA
    go_wp2;go_ret2;refine⟨?_,a.2.2⟩;rw[<-H.out.2.2.1];unfold strs;rw[Zb]
    .have b:=a.1;rw[eD]at b;refine⟨ra,rc,?_,?_⟩
     .rw[aV];rfl
     .rw[aV];exact b
    .simp only[bN];refine⟨H.2.2.2,cU.2 (λx b=>?_)⟩;rw[a.2.1 x (by rw[eD];exact b)];rfl
open Dv (Zq)
variable {s:List UInt8}
def Mp(h:Im.dec s=N i):Im.dp 9 i/\wt 9 i<=2*M s:=by
 unfold Im.dec at h;cases a:Im.read Im.body 8 s with
 |none=>rw[a]at h;cases h
 |some x=>
  obtain⟨j,n⟩:=x;rw[a]at h;simp only at h;split at h
  .cases h;rename_i b;have:=G9 kW 8 _ _ _ a;rw[b]at this;exact this
  .cases h
def Mg(h:Im.dec s=N i):M i.3<=2*M s:=by let⟨a,b⟩:=Mp h;have:=sG a;omega
def BH{k}(h:Im.dec s=N i)(a:k∈i.3):M k.3<=2*M s:=by let⟨b,c⟩:=Mp h;have d:=CL (n:=8) a;have e:=sG (n:=8) (b k a);have f:wt (8+1) i=wt 9 i:=R;omega
def Ax:Option (List (List UInt8))->Bool
 |some [a,b]=>decide (0<M a)&&decide (M a<=8)&&decide (M b<=64)
 |_=>pi
def Mc(s):Dv.isDep s=Ax ((Im.dec s).bind strs):=by
 unfold Dv.isDep;cases Im.dec s with
 |none=>rfl
 |some i=>
  obtain⟨f,g,e⟩:=i;simp only[dP];unfold strs;cases f
  .rfl
  .match e with
   |[]=>rfl
   |[a]=>cases b:a.1<;>simp[Ax,b]
   |[a,b]=>
    cases c:a.1<;>cases d:b.1<;>simp[Ax,c,d]
    congr 1
    .congr 1
     exact decide_eq_decide.2 aA
    .exact decide_eq_decide.2 aA
   |a::b::c::r=>
    simp only;split<;>simp[Ax]
def Af(s:ByteArray)(w)(hs:ot s<=16777216)(hH:iJ w):tf PQ 150 #[pk s] w λe w'=>e=qs (.bool (Dv.isDep s.1.1))/\Below w.1.size w w':=by
 rw[Mc];have Q:=Ze (show True from trivial);have f:=decode_any s w hs hH;cases m:Im.dec s.1.1 with
 |none=>
  rw[m]at f;have c:qu _:=λ(_:Unit)=>f;have d:qu _:=λW o=>pb (aH _ W) fI o;clear f m Q;go_enter (fq func150 R),ntmps150;go_wp2_with (go_at_call 175;refine aO (c ()) ?_;rintro e w2 ⟨b,a⟩;unfold pP at b;subst b)
  go_ret;exact⟨R,pb a a.4 _⟩
 |some i=>
  rw[m]at f;have n:=Mg m;rw[<-aW]at n;simp only[dP];obtain⟨z,d⟩:∃z,strs i=z:=⟨_,R⟩
  rw[d];have aa:qu _:=λ(_:Unit)=>f;obtain⟨D,j⟩:∃D:ByteArray,(⟨py i.2⟩:ByteArray)=D:=⟨_,R⟩
  obtain⟨t,o⟩:∃t,i.1=t:=⟨_,R⟩
  obtain⟨u,p⟩:∃u,M i.3=u:=⟨_,R⟩
  have H:qu _:=fE d (fE j (fE o (fE p n)));clear f m Q d j o p n;go_enter (fq func150 R),ntmps150;go_upto_region 2 with(go_at_call 175;refine aO (aa ()) ?_;rintro e w2 ⟨b,C⟩;obtain⟨G,I,b,V⟩:=b;rw[H.out.2.1,H.out.2.2.1,H.out.2.2.2.1]at b;subst b;have HT:qu (Tr _ _ _ _ _ _ _ _):=V;clear V)
  obtain⟨W,k,q,-⟩:=fL w2 #[.bool t,pk D,U G u I] 103;have z0:Z W ⟨↑w2,0,X⟩=N (.bool t):=by rw[k];simp
  have z1:Z W ⟨↑w2,1,X⟩=N (pk D):=by rw[k];simp
  have z2:Z W ⟨↑w2,2,X⟩=N (U G u I):=by rw[k];simp
  rw[<-k];let⟨d,j,o,p,n⟩:=H.out;have S:=In.fF (q) _ _ _ _ _ (Tr.inn 9 _ _ _ _ _ _ fI HT);have F:=qA 7 _ i _ W q.4 S aA;rw[j,o,p,d]at F;have h:qu _:=λ(_:Unit)=>F;have a:qu _:=ow C (o5 q C.4);clear d j o p n S F q k C H;cases z with
  |none=>
   go_wp2_with (go_at_call 177;refine aO (h ()) ?_;rintro e w3 ⟨b,c⟩;unfold Strs at b;subst b)
   go_ret;exact⟨R,ow a (o5 c a.4)⟩
  |some l=>
   by_cases E:M l=2
   .obtain⟨x,y,rfl⟩:∃x y,l=[x,y]:=by
     match l,E with
     |[x,y],_=>exact⟨x,y,R⟩
    obtain⟨Zr,A⟩:∃Zr:ByteArray,(⟨py x⟩:ByteArray)=Zr:=⟨_,R⟩
    obtain⟨Y,B⟩:∃Y:ByteArray,(⟨py y⟩:ByteArray)=Y:=⟨_,R⟩
    have L:ot Zr=M x:=by rw[<-A];rfl
    have O:ot Y=M y:=by rw[<-B];rfl
    have T:Ax (N [x,y])=(decide (0<ot Zr)&&decide (ot Zr<=8)&&decide (ot Y<=64)):=by rw[L,O];rfl
    have r:=Fr.gH Zr;have c:qu _:=fE A B;have v:qu _:=T;clear A B L O T;by_cases J:ot Zr=0
    .have ac:tk (vz Zr)=pw:=by rw[r];exact Ze J
     clear r;go_wp2_with (go_at_call 177;refine aO (h ()) ?_;rintro e w3 ⟨⟨ra,rc,rfl,l⟩,K⟩;obtain⟨g,ab,ad,P,_⟩:=l.1.pos aC;(simp only[ry,true_and]at P);obtain⟨rfl,rfl⟩:=P;have k0:Z w3 ⟨g,ab,X⟩=N (pk Zr):=(by have:=l.1.cell R 0 (pk Zr) (by unfold jP;rw[<-c.out.1];rfl);exact ir);have k1:=(l.1.cell R 1 (pk Y) (by unfold jP;rw[<-c.out.2];rfl));have H3:qu _:=K;clear K l)
     go_ret;refine⟨?_,ow a (o5 H3 a.4)⟩;rw[v.out,Zd (show ¬0<ot Zr by omega)];rfl
    .have ad:tk (vz Zr)=pi:=by rw[r];exact Zd J
     clear r;by_cases K:ot Zr<=8
     .have ac:(ot Zr:Int)<=8:=by omega
      go_wp2_with (go_at_call 177;refine aO (h ()) ?_;rintro e w3 ⟨⟨ra,rc,rfl,l⟩,P⟩;obtain⟨g,ab,ae,hv,_⟩:=l.1.pos aC;(simp only[ry,true_and]at hv);obtain⟨rfl,rfl⟩:=hv;have k0:Z w3 ⟨g,ab,X⟩=N (pk Zr):=(by have:=l.1.cell R 0 (pk Zr) (by unfold jP;rw[<-c.out.1];rfl);exact ir);have k1:=(l.1.cell R 1 (pk Y) (by unfold jP;rw[<-c.out.2];rfl));have H3:qu _:=P;clear P l)
      go_ret;refine⟨?_,ow a (o5 H3 a.4)⟩;rw[v.out,Ze (show 0<ot Zr by omega),Ze K];have:decide ((ot Y:Int)<=64)=decide (ot Y<=64):=decide_eq_decide.2 aA
      show Ending.returned (rh (decide ((ot Y:Int)<=64)))=_
      rw[this];rfl
     .have ac:¬(ot Zr:Int)<=8:=by omega
      go_wp2_with (go_at_call 177;refine aO (h ()) ?_;rintro e w3 ⟨⟨ra,rc,rfl,l⟩,P⟩;obtain⟨g,ab,ae,hv,_⟩:=l.1.pos aC;(simp only[ry,true_and]at hv);obtain⟨rfl,rfl⟩:=hv;have k0:Z w3 ⟨g,ab,X⟩=N (pk Zr):=(by have:=l.1.cell R 0 (pk Zr) (by unfold jP;rw[<-c.out.1];rfl);exact ir);have k1:=(l.1.cell R 1 (pk Y) (by unfold jP;rw[<-c.out.2];rfl));have H3:qu _:=P;clear P l)
      go_ret;refine⟨?_,ow a (o5 H3 a.4)⟩;rw[v.out,Ze (show 0<ot Zr by omega),Zd K];rfl
   .have v:Ax (N l)=pi:=by
     match l,E with
     |[],_=>rfl
     |[_],_=>rfl
     |_::_::_::_,_=>rfl
    have A:qu _:=v;obtain⟨c,r⟩:∃c,M l=c:=⟨_,R⟩
    have J:((c:Int) == 2)=pi:=Zc aA;have y:qu _:=r;clear v E r;go_wp2_with (go_at_call 177;refine aO (h ()) ?_;rintro e w3 ⟨⟨K,L,b,B⟩,g⟩;rw[y.out]at b;subst b;have x:qu _:=g;clear g B)
    go_ret;exact⟨by rw[A.out];rfl,ow a (o5 x a.4)⟩
def wO(v l w)(h:jO w v l)(hl:M l<=4294967296)(J:∀x∈l,M x<=16777216)(y:iJ w):tf PQ 103 #[v] w λe W=>∃r t,e=qs (U r (M (l.filter Dv.isDep)) t)/\jk W w.1.size (U r (M (l.filter Dv.isDep)) t) (l.filter Dv.isDep)/\Below w.1.size w W:=by
 obtain⟨r,t,rfl⟩:=Rd.slice h;let⟨i0,I,L,O,P⟩:=yk mM;have j:qu _:=fE I (fE L (fE O P));have H:qu _:=fE h (fE J y);have h0:=y.pos;clear h J I L O P y;go_enter (fq func103 R),ntmps103;go_wp2;go_loopg [3,5,8] (M l) (λd f _ g c=>∃(k m:Nat)(a:Option zm)(b:Nat),k<=M l/\g=ox pg k/\f=U a m b/\m<=k/\d=M l-k/\qu (m=M ((l.take k).filter Dv.isDep)/\jk c ↑w (U a m b) ((l.take k).filter Dv.isDep)/\Below ↑w w c))
 case atStart=>exact⟨0,0,X,0,bU _,R,R,fI,R,R,⟨fM.nil _ _ _,gh⟩,aH _ _⟩
 case round=>
  obtain⟨k,m,S,T,hk,rfl,rfl,aj,rfl,a⟩:=hrel;by_cases af:k<M l
  .have ai:(k:Int)<M l:=by omega
   obtain⟨x,q⟩:∃x,l[k]? =N x:=⟨_,aK af⟩
   obtain⟨g,ak,ah,K,_⟩:=Rd.pos H.1 aA;simp only[ry,true_and]at K;obtain⟨rfl,rfl⟩:=K;have k0:=jO.get (Rd.fF H.1 a.2.2) q;obtain⟨Zr,c⟩:∃Zr:ByteArray,(⟨py x⟩:ByteArray)=Zr:=⟨_,R⟩
   have D:Zr.1.1=x:=by rw[<-c]
   have z:ot Zr<=16777216:=by rw[<-c];exact H.2.1 x (aS q)
   rw[c]at k0;have n:=Af Zr wr z (H.2.2.fF a.2.2 h0);rw[D]at n;obtain⟨s,d⟩:∃s,Dv.isDep x=s:=⟨_,R⟩
   rw[d]at n
   have f:l.take (k+1)=l.take k++[x]:=by
    obtain⟨b,rfl⟩:=aJ.1 q;exact cO b
   have C:qu _:=λ(_:Unit)=>n;have aa:qu _:=λV=>Fr.clone_any Zr V z;have B:qu _:=fE c (fE d f);have A:=λV (hV:Below _ wr V)=>a.2.1.1.fF hV;rw[<-a.out.1]at A;have ab:qu _:=A;clear n c D z d f q A;cases s
   .go_wp2_with (go_at_call 150;refine aO (C ()) ?_;rintro e w2 ⟨rfl,b⟩)
    go_roundg (M l-(k+1))
    case measure=>omega
    case rel=>
     let⟨c,d,f⟩:=B.out;have i:(l.take (k+1)).filter Dv.isDep=(l.take k).filter Dv.isDep:=by rw[f,eA,cJ,Za (by rw[d];simp),Z6,dI]
     refine⟨_,m,S,T,aA,by go_num,R,aA,R,?_,?_,ow a.2.2 (o5 b a.2.2.4)⟩
     .rw[i];exact a.1
     .rw[i];exact⟨a.2.1.1.fF b,a.2.1.2⟩
   .go_wp2_with (first|(go_at_call 150;refine aO (C ()) ?_;rintro e w2 ⟨rfl,E⟩)|(go_at_call 151;refine aO (aa _) ?_;rintro e w3 ⟨rfl,ad⟩;have F:=ow E (o5 ad E.4);have i:qu _:=F;clear F)|(at_builtin;refine fX _ R (.tmp 14) (.tmp 17) 40 R 9 i0 _ 1 16 (uq Yl) j.1 j.2.1 j.2.2.1 j.2.2.2 R aB _ m _ R (ab _ (pb i i.4 _)) _ 1 1 [pk Zr] R aB R (by intro G Q o;match G,o with|0,o=>(simp at o;subst o;simp[Addr.add])) (by intro G o;simp at o;subst o;rfl) aE aA ?_;intro u am ac w5 p b;have Y:qu _:=fE p b;clear p b)|go_in)
    go_roundg (M l-(k+1))
    case measure=>omega
    case rel=>
     let⟨c,d,f⟩:=B.out;let⟨p,b⟩:=Y.out;have G:(l.take (k+1)).filter Dv.isDep=(l.take k).filter Dv.isDep++[x]:=by rw[f,eA,cJ,Zb d,Z6]
     have o:Below ↑w w (o6 w3 (pj #[pk Zr] 9)):=ow a.2.2 (o5 (pb i i.4 _) a.2.2.4)
     have ae:↑w<=u:=by
      obtain e|e:=b.own
      .exact a.2.1.2 u e
      .exact aX o.4 e
     refine⟨_,_,_,ac,aA,by go_num,R,aA,R,?_,⟨?_,?_⟩,?_⟩
     .rw[G,aN,<-a.out.1];rfl
     .rw[G,aN,<-a.out.1,aZ];have:[x].map jP=[pk Zr]:=by unfold jP;rw[<-c];rfl
      rw[this];exact p
     .intro ag Q;have:N u=N ag:=Q;cases this;exact ae
     .refine ow o ⟨b.gE.1,b.gE.2,b.gE.3,b.gE.4,λQ hq=>b.gE.5 Q (aL hq o.4) (λe=>?_)⟩;have:=a.2.1.2 Q e;omega
  .have f:¬(k:Int)<M l:=by omega
   obtain rfl:k=M l:=aA
   go_wp2;go_ret;let⟨b,c,d⟩:=a.out;rw[eD]at b c;subst b;exact⟨S,T,R,c,d⟩
open Fr (fG)
open Dv (Zq Cf)
def zD{b}(x y z g)(h:g≠b):(o3 (o3 (o3 w ⟨b,0,X⟩ x) ⟨b,1,X⟩ y) ⟨b,2,X⟩ z).1[g]? =w.1[g]?:=by rw[aR _ _ _ _ h,aR _ _ _ _ h,aR _ _ _ _ h]
def Ez(u C vl w)(h:lU w u C vl)(y:∀x∈u.4,M x<=16777216)(k:iJ w):tf PQ 69 #[uN u C vl] w λe a=>∃b c,e=qs (we #[ox pg u.1,ox pg u.2,U b (M (Dv.fV u)) c])/\jk a w.1.size (U b (M (Dv.fV u)) c) (Dv.fV u)/\Below w.1.size w a:=by
 unfold uN Dv.fV;obtain⟨r,s,rfl⟩:=Rd.slice h.1;obtain⟨o,p,rfl⟩:=Rd.slice h.2.1;obtain⟨W,d⟩:∃W,W=o6 (o6 w (pj #[ox pg u.1,ox pg u.2,U r (M u.3) s,U o (M u.4) p] 42)) (pj #[ox pg 0,ox pg 0,U X 0 0] 139):=⟨_,R⟩
 have l:Below ↑w w W:=by rw[d];exact pb (pb (aH _ w) fI _) aC _
 have O:↑W=w.1.size+2:=by rw[d];simp
 have t:W.1[w.1.size]? =N (pj #[ox pg u.1,ox pg u.2,U r (M u.3) s,U o (M u.4) p] 42 (0,0)):=by
  rw[d];exact oy (aU _ _ _ aC) (sv _ _)
 have B:W.1[w.1.size+1]? =N (pj #[ox pg 0,ox pg 0,U X 0 0] 139 (0,0)):=by
  rw[d];have:=sv (o6 w (pj #[ox pg u.1,ox pg u.2,U r (M u.3) s,U o (M u.4) p] 42)) (pj #[ox pg 0,ox pg 0,U X 0 0] 139);simp only[cQ]at this;exact this
 obtain⟨S,T,-,Y⟩:=iP t
 have x:=λV f=>se (wO _ _ V (Rd.fF (Rd.fF h.2.1 l) f) h.2.2.2 y ((k.fF l k.pos).fF f (by have:=k.pos;omega)))
  (R':=λe a=>∃b c,e=qs (U b (M (u.4.filter Dv.isDep)) c)/\Z a ⟨↑w,0,X⟩=N (ox pg u.1)/\Z a ⟨↑w,1,X⟩=N (ox pg u.2)/\Z a ⟨w.1.size+1,0,X⟩=N (ox pg 0)/\Z a ⟨w.1.size+1,1,X⟩=N (ox pg 0)/\Z a ⟨w.1.size+1,2,X⟩=N (U X 0 0)/\(∀q,sk a ⟨w.1.size+1,q,X⟩=pi)/\qu (jk a ↑W (U b (M (u.4.filter Dv.isDep)) c) (u.4.filter Dv.isDep)/\Below ↑W W a/\a.1[w.1.size+1]? =N (pj #[ox pg 0,ox pg 0,U X 0 0] 139 (0,0))))
  (λe a ⟨b,c,i,m,z⟩=>by
   have q:=ow f (o5 z f.4);have A:a.1[w.1.size]? =_:=oy (q.5 _ aA) t;have j:a.1[w.1.size+1]? =_:=oy (q.5 _ aA) B;refine⟨b,c,i,nz,nz,by rw[aG j];rfl,by rw[aG j];rfl,by rw[aG j];rfl,aM j,⟨m.1,λg F=>aX f.4 (m.2 g F)⟩,q,j⟩)
 have E:qu _:=x;have v:qu _:=l;have n:=aH ↑W W;clear x h y k l t B;go_enter (fq func69 R),ntmps69;go_upto_region 1 with fail;rw[<-d];clear d;go_region_with (go_at_call 103;(refine aO (E _ ?_) ?_;(first|exact n|exact rk n|exact fG n _);rintro e Q ⟨J,K,rfl,L,f1,G,H,I,P,D⟩))
 all_goals
  go_wp2;let⟨i,m,z⟩:=D.out;refine sd (v:=.agg _) (by simp[results,results69,go_sem,G,H,I]) R ⟨J,K,R,?_,?_⟩
  .exact⟨i.1.kept (λg j=>zD _ _ _ _ (by have:=i.2 g j;omega)),λg j=>by have:=i.2 g j;omega⟩
  .exact ow v (ow (o5 m v.4) ⟨R,R,R,aC,λq j=>zD _ _ _ _ aA⟩)
def gD(c:Cf)(g:po)(d:Nat)(f h:po)(a b e:Int):Array po:=#[ox .u32 c.1,ox .u32 c.2,ox pg c.3,ox pg c.4,ox pg c.5,ox pg c.6,ox pg c.7,g,.map (N d),f,h,ox pg a,ox pg b,ox pg e]
def new_any(c w):tf PQ 38 #[.agg (fP c)] w λe a=>e=qs (pm (N ⟨w.1.size+2,0,X⟩))/\a=o6 (o6 (o6 w (pj (fP c) 24)) (.map #[] 0)) (pj (gD c (U X 0 0) (w.1.size+1) (U X 0 0) (U X 0 0) 0 0 0) 137):=by unfold fP gD;go_enter (fq func38 R),ntmps38;have b:=@run_makeMap PQ;go_wp2;go_ret;exact⟨R,R⟩
open Dv (Zq Cf Ba)
variable {kb cnt ep e:Nat}
abbrev PB:=Int×Int×po
variable {us:List PB}
def ng(p:PB):List po:=[ox pg p.1,ox pg p.2.1,p.2.2]
structure Look(w:pn)(kb:Nat)(c:Cf)(us:List PB)(cnt ep:Nat):Prop where
 obj:∃vu nb vo vw sq,w.1[kb]? =N (pj (gD c vu nb vo vw cnt ep sq) 137 (0,0))/\Rd w 3 vu (M us) (us.flatMap ng)
 times:∀p∈us,0<=p.2.1/\p.2.1<=4294967296
 step:0<=c.6/\c.6<=20
 drift:0<=c.5/\c.5<=100
 window:0<=c.4/\c.4<=8
 cnt:cnt<=4294967296
 len:M us<=4294967296
def Look.fF{w' c}(h:Look w kb c us cnt ep)(b:Below ↑w w w'):Look w' kb c us cnt ep:=by let⟨i,e,g,j,f,a,d⟩:=h.1;exact⟨⟨i,e,g,j,f,oy (b.5 _ (fO a)) a,d.fF b⟩,h.2,h.3,h.4,h.5,h.6,h.7⟩
def Look.drewN{c}(h:Look w kb c us cnt ep)(m):Look (tj w m) kb c us cnt ep:=h.fF (fG (aH _ _) _)
def ji(c:Cf)(us:List PB)(cnt:Nat):Int:=(us.getD 0 (0,0,.nilFunc)).2.1+cnt*c.6
def zx(kb c us cnt ep w)(h:Look w kb c us cnt ep)(j:0<M us):tf PQ 178 #[pm (N ⟨kb,0,X⟩)] w λe A=>e=qs (ox pg (ji c us cnt))/\∃m,A=tj w m:=by
 let⟨Q,L,P,S,O,b,f⟩:=h.1;obtain⟨g,l,q,rfl,G,E,t⟩:=f.pos j;obtain⟨p,d⟩:∃p,us[0]? =N p:=⟨_,aK j⟩
 have u:Z w ⟨g,l+1,X⟩=N (ox pg p.2.1):=by
  have:=Rd.rec ng 3 (λ_=>R) f d (i:=1) (u:=.int _ _) aA R;exact ir
 have C:Z w ⟨kb,7,X⟩=N (U (N ⟨g,l,X⟩) (M us) q):=fZ b rfl;have o:Z w ⟨kb,5,X⟩=N (ox pg c.6):=fZ b rfl;have B:Z w ⟨kb,11,X⟩=N (ox pg cnt):=fZ b rfl;have F:(0:Int)<(M us:Int):=aA
 have k:ji c us cnt=p.2.1+cnt*c.6:=by
  unfold ji;rw[aT,d];rfl
 rw[k];let⟨y,z⟩:=h.2 p (aS d);let⟨i,v⟩:=h.3;have hc:=h.6;obtain⟨a,r⟩:∃x,c.6=x:=⟨_,R⟩
 rw[r]at i v o⊢;have J:0<=(cnt:Int)*a:=Int.mul_nonneg aA i
 have K:(cnt:Int)*a<=85899345920:=by
  have D:(cnt:Int)*a<=4294967296*a:=Int.mul_le_mul_of_nonneg_right aA i;omega
 obtain⟨n,s⟩:∃x,p.2.1=x:=⟨_,R⟩
 rw[s]at y z u⊢;have H:IntKind.i64.wrap ((cnt:Int)*a)=(cnt:Int)*a:=gj
 have I:IntKind.i64.wrap (n+(cnt:Int)*a)=n+(cnt:Int)*a:=gj
 clear h b f t d k;go_enter (fq func178 R),ntmps178;go_upto_region 1 with fail;go_quiet (fail);go_wp2;go_ret;exact⟨R,_,R⟩
def vK(us:List PB)(e:Nat):Int:=(us.getD e (0,0,.nilFunc)).2.1
def AG(us:List PB)(e:Nat):Int:=(us.getD e (0,0,.nilFunc)).1
def pT{p}(h:us[e]? =N p):vK us e=p.2.1:=by unfold vK;rw[aT,h];rfl
def BL{p}(h:us[e]? =N p):AG us e=p.1:=by unfold AG;rw[aT,h];rfl
def mS(kb c us cnt ep w)(h:Look w kb c us cnt ep)(i:0<M us):tf PQ 124 #[pm (N ⟨kb,0,X⟩)] w λe p=>e=qs (ox pg ((M us-1:Nat):Int))/\∃m,p=tj w m:=by
 let⟨v,s,u,x,t,a,b⟩:=h.1;obtain⟨g,o,f,rfl,r,q,l⟩:=b.pos i;have d:Z w ⟨kb,7,X⟩=N (U (N ⟨g,o,X⟩) (M us) f):=fZ a rfl;have j:=h.7;obtain⟨n,k⟩:∃n,M us=n+1:=⟨M us-1,aA⟩
 rw[k]at d j⊢;clear h a b l;go_enter (fq func124 R),ntmps124;go_wp2;go_ret;refine⟨?_,0,R⟩;simp
def C6(kb c us cnt ep e t w)(h:Look w kb c us cnt ep)(q:e<M us):tf PQ 208 #[pm (N ⟨kb,0,X⟩),ox pg e,ox pg t] w λx C=>x=qs (rh (decide (vK us e+c.5<t)))/\∃m,C=tj w m:=by
 let⟨L,I,K,O,J,f,a⟩:=h.1;obtain⟨g,j,n,rfl,G,E,u⟩:=a.pos aA;obtain⟨p,b⟩:∃p,us[e]? =N p:=⟨_,aK q⟩
 have v:Z w ⟨g,j+e*3+1,X⟩=N (ox pg p.2.1):=by
  have:=Rd.rec ng 3 (λ_=>R) a b (i:=1) (u:=.int _ _) aA R;exact il
 have D:Z w ⟨kb,7,X⟩=N (U (N ⟨g,j,X⟩) (M us) n):=fZ f rfl;have l:Z w ⟨kb,4,X⟩=N (ox pg c.5):=fZ f rfl;have F:(e:Int)<M us:=aA
 rw[pT b];let⟨A,B⟩:=h.2 p (aS b);let⟨y,z⟩:=h.4;obtain⟨d,o⟩:∃x,c.5=x:=⟨_,R⟩
 rw[o]at y z l⊢;obtain⟨i,s⟩:∃x,p.2.1=x:=⟨_,R⟩
 rw[s]at A B v⊢;have H:IntKind.i64.wrap (i+d)=i+d:=gj
 obtain⟨r,a⟩:∃r,decide (i+d<t)=r:=⟨_,R⟩
 rw[a];have k:qu _:=a;clear h f u b a;go_enter (fq func208 R),ntmps208;go_upto_region 1 with fail;go_quiet (fail);go_wp2;go_ret;exact⟨by rw[<-k.out];rfl,_,R⟩
def C0(b:Ba)(v:po):po:=we #[ox pg b.1,ox pg b.2,ox pg b.3,v,ox pg b.5]
def waits(c:Cf)(us:List PB)(ep:Nat)(t:Int)(b:Ba)(k:Nat):Bool:=if ep+1<=M us-1 then pi else(b.1 == ep+1 || (k == 0&&decide (vK us ep+c.5<t)))
def BZ(kb c us cnt ep t b j k l w)(h:Look w kb c us cnt ep)(Q:ep<M us):tf PQ 207 #[pm (N ⟨kb,0,X⟩),C0 b (U j k l),ox pg t] w λT S=>T=qs (.bool (waits c us ep t b k))/\Below w.1.size w S:=by
 unfold C0;obtain⟨W,g,p,-⟩:=fL w #[ox pg b.1,ox pg b.2,ox pg b.3,U j k l,ox pg b.5] 150;have I:Z W ⟨↑w,0,X⟩=N (ox pg b.1):=by rw[g];simp
 have J:Z W ⟨↑w,3,X⟩=N (U j k l):=by rw[g];simp
 have f:=h.fF p;obtain⟨vu,nb,vo,vw,sq,E,_⟩:=f.1;have z:Z W ⟨kb,12,X⟩=N (ox pg ep):=fZ E rfl;have s:=λm=>mS kb c us cnt ep _ (f.drewN m) aA;have r:=λV a=>C6 kb c us cnt ep ep t V (f.fF a) Q;obtain⟨n,D⟩:∃n,M us-1=n:=⟨_,R⟩
 obtain⟨F,u⟩:∃F,decide (vK us ep+c.5<t)=F:=⟨_,R⟩
 obtain⟨G,v⟩:∃G,waits c us ep t b k=G:=⟨_,R⟩
 have i:=v;unfold waits at i;rw[u,D]at i;rw[D]at s;rw[u]at r;rw[v];have hl:=h.7;have P:qu _:=s;have O:qu _:=r;have H:qu _:=fE i p;clear h f E s r v i u p;go_enter (fq func207 R),ntmps207;go_upto_region 1 with fail;rw[<-g];clear g;go_quiet ((go_at_call 124;exact qbk (P _)));by_cases A:ep+1<=n
 .have d:(ep:Int)+1<=(n:Int):=by omega
  go_wp2;go_ret;refine⟨?_,ow H.2 (fG (aH _ _) _)⟩;rw[<-H.out.1,Zb A];rfl
 .have aa:¬(ep:Int)+1<=(n:Int):=by omega
  go_upto_region 3 with fail;generalize a:tj _ _=V;have B:Below W.1.size W V:=by rw[<-a];exact fG (aH _ _) _
  have y0:Z V ⟨↑w,0,X⟩=N (ox pg b.1):=by rw[<-a];exact I
  have y3:Z V ⟨↑w,3,X⟩=N (U j k l):=by rw[<-a];exact J
  have Y:Z V ⟨kb,12,X⟩=N (ox pg ep):=by rw[<-a];exact z
  have C:=λm=>O _ (fG B m);have L:qu _:=C;have q:=ow H.2 (o5 B H.2.4);clear a I J z C;have x:=H.1;rw[Za A]at x;have o:qu _:=x;clear x;by_cases d:b.1=ep+1
  .have y:((b.1:Int) == (ep:Int)+1)=pw:=by rw[d];simp
   have e:qu _:=d;clear d;go_quiet (fail);go_wp2;go_ret;refine⟨?_,ow q ⟨R,R,R,fI,λ_ _=>R⟩⟩;rw[<-o.out,e.out];simp
  .have ab:((b.1:Int) == (ep:Int)+1)=pi:=Zc aA;have y:qu _:=d;clear d;by_cases e:k=0
   .have ac:((k:Int) == 0)=pw:=by rw[e];rfl
    have K:qu _:=e;clear e;go_quiet ((go_at_call 208;exact qbk (L _)));go_wp2;go_ret;refine⟨?_,ow q ⟨R,R,R,fI,λ_ _=>R⟩⟩;rw[<-o.out,Zc y.out,K.out];simp
   .have ac:((k:Int) == 0)=pi:=Zc aA;have K:qu _:=e;clear e;go_quiet (fail);go_wp2;go_ret;refine⟨?_,ow q ⟨R,R,R,fI,λ_ _=>R⟩⟩;rw[<-o.out,Zc y.out,Zc K.out];simp
def allows(us:List PB)(ep:Nat)(t:Int)(b:Ba)(k:Nat):Bool:=k == 0&&(b.1 != ep || decide (t<vK us (ep+1)))
def vP(kb c us cnt ep t b o k q w)(h:Look w kb c us cnt ep)(u:k=0->b.1=ep->ep+1<M us):tf PQ 209 #[pm (N ⟨kb,0,X⟩),C0 b (U o k q),ox pg t] w λx F=>x=qs (.bool (allows us ep t b k))/\Below w.1.size w F:=by
 unfold C0;obtain⟨W,e,j,-⟩:=fL w #[ox pg b.1,ox pg b.2,ox pg b.3,U o k q,ox pg b.5] 150;have z0:Z W ⟨↑w,0,X⟩=N (ox pg b.1):=oe
 have z3:Z W ⟨↑w,3,X⟩=N (U o k q):=oe
 have s:=h.fF j;let⟨E,T,vo,vw,V,l,v⟩:=s.1;have G:Z W ⟨kb,12,X⟩=N (ox pg ep):=fZ l rfl;have I:Z W ⟨kb,7,X⟩=N E:=fZ l rfl;obtain⟨z,f⟩:∃z,allows us ep t b k=z:=⟨_,R⟩
 rw[f];unfold allows at f;have H:qu _:=fE f (fE j (fE v u));have P:=h.7;clear h s l f j v u;go_enter (fq func209 R),ntmps209;go_upto_region 1 with fail;rw[<-e];clear e;by_cases d:k=0
 .have L:((k:Int) == 0)=pw:=by rw[d];rfl
  have i:qu _:=d;clear d;by_cases a:b.1=ep
  .have K:((b.1:Int) != (ep:Int))=pi:=by rw[a];simp
   have A:=H.2.2.2 i a;obtain⟨g,D,J,rfl,S,O,B⟩:=H.2.2.1.pos aA;obtain⟨p,m⟩:∃p,us[ep+1]? =N p:=⟨_,aK A⟩
   have C:Z W ⟨g,D+(ep+1)*3+1,X⟩=N (ox pg p.2.1):=by
    have:=Rd.rec ng 3 (λ_=>R) H.2.2.1 m (i:=1) (u:=.int _ _) aA R;exact il
   have Q:(ep:Int)+1<(M us:Int):=aA
   have n:=pT m;obtain⟨Y,y⟩:∃x,p.2.1=x:=⟨_,R⟩
   rw[y]at C n;have r:qu _:=fE a n;clear a B m y n;go_quiet (fail);go_wp2;go_ret;refine⟨?_,ow H.2.1 ⟨R,R,R,fI,λ_ _=>R⟩⟩;rw[<-H.out.1,r.out.2,i.out,r.out.1];simp
  .have m:((b.1:Int) != (ep:Int))=pw:=by
    rw[bne_iff_ne];omega
   have g:qu _:=a;clear a;go_quiet (fail);go_wp2;go_ret;refine⟨?_,ow H.2.1 ⟨R,R,R,fI,λ_ _=>R⟩⟩;rw[<-H.out.1,i.out,bne_iff_ne.2 g.out];simp
 .have g:((k:Int) == 0)=pi:=Zc aA;have a:qu _:=d;clear d;go_quiet (fail);go_wp2;go_ret;refine⟨?_,ow H.2.1 ⟨R,R,R,fI,λ_ _=>R⟩⟩;rw[<-H.out.1,Zc a.out];simp
def outside(c:Cf)(a:Nat)(t:Int)(b:Ba):Bool:=decide ((b.3:Int)<t) || (b.1 != a&&b.1 != a+1) || decide ((b.1:Int)+c.4<(b.5:Int))
def Ic(c:Cf)(us:List PB)(a:Nat)(t:Int)(b:Ba)(k:Nat):Bool:=decide ((b.2:Int)≠AG us b.1) || decide (t<vK us b.1) || (decide (vK us b.1+c.5<t)&&!allows us a t b k)
def verdict(c:Cf)(us:List PB)(a d:Nat)(b:Ba)(k:Nat):Nat:=
 if ji c us a<(b.3:Int)then 0 else if outside c d (ji c us a) b then 1 else if waits c us d (ji c us a) b k then 2 else if Ic c us d (ji c us a) b k then 1 else 3
def Jo(d c us j a b O k P w)(h:Look w d c us j a)(ax:a<M us)(hb:b.1<M us)(a8:b.5<=4294967296)(aw:∀p∈us,∃e n f,p.2.2=U e n f):tf PQ 179 #[pm (N ⟨d,0,X⟩),C0 b (U O k P)] w λx w'=>x=qs (ox .u8 (verdict c us j a b k:Nat))/\Below w.1.size w w':=by
 unfold C0;let⟨W,hW,T,zo⟩:=fL w #[ox pg b.1,ox pg b.2,ox pg b.3,U O k P,ox pg b.5] 150;have a9:↑w<W.1.size:=by rw[hW];simp
 have am:=zx d c us j a W (h.fF T) aA;obtain⟨t,ht⟩:∃t,ji c us j=t:=⟨_,R⟩
 obtain⟨a1,hr⟩:∃a1,verdict c us j a b k=a1:=⟨_,R⟩
 have ab:=hr;unfold verdict at ab;rw[ht]at ab am;rw[hr];have a3:qu _:=λ(_:Unit)=>am;have H:qu _:=fE ab (fE T (fE zo (fE h (fE ax (fE hb (fE a8 aw))))));let⟨vu,nb,vo,vw,sq,ho,a0⟩:=(h.fF T).1;obtain⟨bc,an⟩:∃x,c.4=x:=⟨_,R⟩
 have ba:=h.5;rw[an]at ba;have hl:=h.7;have Q:qu _:=fE ho (fE a0 an);clear h T zo am hr ab ht ho a0 an aw;go_enter (fq func179 R),ntmps179;go_upto_region 1 with fail;rw[<-hW];clear hW;go_upto_region 2 with(first|(go_at_call 178;refine aO (a3 ()) ?_;rintro J w2 ⟨rfl,m,rfl⟩)|go_in)
 generalize hV:tj _ _=V;have n:Below W.1.size W V:=by rw[<-hV];exact fG (aH _ _) _
 have s:V.1[w.1.size]? =_:=oy (n.5 _ a9) H.2.2.1;have F:V.1[d]? =_:=oy (n.5 _ (fO Q.1)) Q.1;let⟨z0,z1,l,i,z4⟩:=gV s;have c3:Z V ⟨d,3,X⟩=N (ox pg bc):=by rw[aG F,<-Q.out.2.2];rfl
 have a4:Z V ⟨d,12,X⟩=N (ox pg a):=fZ F rfl;have C:=ow H.2.1 (o5 n H.2.1.4);have HV:qu _:=fE n (fE s (fE F C));clear hV n s F C;by_cases h1:t<(b.3:Int)
 .go_wp2;go_ret;refine⟨?_,HV.2.2.2⟩;rw[<-H.out.1,Zb h1];rfl
 .go_upto_region 4 with fail;obtain⟨ad,hq⟩:∃ad,outside c a t b=ad:=⟨_,R⟩
  have aa:=hq;unfold outside at aa;rw[Q.out.2.2]at aa;have I:qu _:=fE hq aa;clear hq aa;go_cut [48] (λv e=>v=.bool ad/\∃m,e=tj V m)
  case first=>
   by_cases o:(b.3:Int)<t
   .go_quiet (fail);go_wp2;go_meet;refine⟨?_,_,R⟩;rw[<-I.out.2,Ze o];rfl
   .have g:=Zd o;by_cases e:b.1=a
    .have q:((b.1:Int) != (a:Int))=pi:=by rw[e];simp
     have p:qu _:=e;have f:qu _:=g;clear e;go_quiet (fail);go_wp2;go_meet;refine⟨?_,_,R⟩;rw[<-I.out.2,f.out];have:(b.1 != a)=pi:=by rw[p.out];simp
     rw[this];simp
    .have u:((b.1:Int) != (a:Int))=pw:=by rw[bne_iff_ne];omega
     have q:qu _:=e;clear e;by_cases f:b.1=a+1
     .have y:((b.1:Int) != (a:Int)+1)=pi:=by rw[f];simp
      have r:qu _:=f;have p:qu _:=g;clear f;go_quiet (fail);go_wp2;go_meet;refine⟨?_,_,R⟩;rw[<-I.out.2,p.out];have:(b.1 != a+1)=pi:=by rw[r.out];simp
      rw[this];simp
     .have y:((b.1:Int) != (a:Int)+1)=pw:=by rw[bne_iff_ne];omega
      have r:qu _:=f;have p:qu _:=g;clear f;go_quiet (fail);go_wp2;go_meet;refine⟨?_,_,R⟩;rw[<-I.out.2,p.out,bne_iff_ne.2 q.out,bne_iff_ne.2 r.out];rfl
  case rest=>
   obtain⟨rfl,m2,rfl⟩:=hcut;have ak:=H.1;rw[Za h1,I.out.1]at ak;have ae:qu _:=ak;clear ak;cases ad
   .generalize aq:tj _ _=V2;let⟨n,s,F,C⟩:=HV.out;have ag:Below V.1.size V V2:=by rw[<-aq];exact fG (aH _ _) _
    have o:=ow C (o5 ag C.4);have l:V2.1[w.1.size]? =_:=oy (ag.5 _ (fO s)) s;have z:=H.2.2.2.1.fF o;have Y:=BZ d c us j a t b O k P V2 z ax;obtain⟨q2,e⟩:∃q2,waits c us a t b k=q2:=⟨_,R⟩
    rw[e]at Y;unfold C0 at Y;have ap:qu _:=λ(_:Unit)=>Y;let⟨x0,x1,x2,x3,x4⟩:=gV l;have G:qu _:=fE o (fE l (fE z e));clear n s F C ag o l z Y e aq z0 z1 i z4 c3 a4;cases q2
    .go_upto_region 8 with(first|(go_at_call 207;refine aO (ap ()) ?_;rintro J w3 ⟨rfl,S⟩)|go_in)
     let⟨o,l,z,e⟩:=G.out;have A:=z.fF S;have i:w3.1[w.1.size]? =_:=oy (S.5 _ (fO l)) l;have D:=ow o (o5 S o.4);let⟨bm,bj,bl,bo,bk,aj,K⟩:=A.1;obtain⟨g,ac,a5,rfl,bg,hg,hx⟩:=K.pos aA;obtain⟨r,p⟩:∃r,us[b.1]? =N r:=⟨_,aK hb⟩
     let⟨da,dn,dc,hd⟩:=H.2.2.2.2.2.2.2 r (aS p);have k0:Z w3 ⟨g,ac+b.1*3,X⟩=N (ox pg r.1):=Rd.rec ng 3 (λ_=>R) K p (i:=0) (u:=.int _ _) aA R
     have k1:Z w3 ⟨g,ac+b.1*3+1,X⟩=N (ox pg r.2.1):=by
      have:=Rd.rec ng 3 (λ_=>R) K p (i:=1) (u:=.int _ _) aA R;exact il
     have k2:Z w3 ⟨g,ac+b.1*3+2,X⟩=N (U da dn dc):=by
      have:=Rd.rec ng 3 (λ_=>R) K p (i:=2) (u:=U da dn dc) aA (by rw[<-hd];rfl);exact il
     have c7:Z w3 ⟨d,7,X⟩=N (U (N ⟨g,ac,X⟩) (M us) a5):=fZ aj rfl;have y0:=kZ i;have bf:(b.1:Int)<M us:=aA
     have y:=BL p;have B:=pT p;obtain⟨L,ay⟩:∃x,r.1=x:=⟨_,R⟩
     obtain⟨pt,az⟩:∃x,r.2.1=x:=⟨_,R⟩
     rw[ay]at k0 y;rw[az]at k1 B;have bd:=(fO aj)
     have bb:=(fO i)
     have H3:qu _:=fE A (fE i (fE D (fE e (fE y B))));clear o l z e A i D aj K hx p hd y B ay az S x0 x1 x2 x3 x4 G;go_cut [6] (λv f=>v=pm (N ⟨↑w3,0,X⟩)/\qu (f.1[w3.1.size]? =N (pj #[ox pg L,ox pg pt,U da dn dc] 139 (0,0))/\Below ↑w3 w3 f))
     case first=>
      go_region
      all_goals
       go_wp2;go_meet;refine⟨R,?_,?_⟩
       .exact sv _ _
       .first|exact rk (pb (aH _ _) fI _)|exact(aH _ _).drew.alloc fI _
     case rest=>
      obtain⟨rfl,av⟩:=hcut;let⟨ub,V⟩:=av.out;let⟨A,i,D,e,y,B⟩:=H3.out;have af:=A.fF V;have zc:wc.1[w.1.size]? =_:=oy (V.5 _ bb) i;have au:=ow D (o5 V D.4);let⟨u0,u1⟩:=cells2 ub;let⟨x0,x1,x2,x3,x4⟩:=gV zc;have ai:=C6 d c us j a _ t wc af hb;obtain⟨i3,E⟩:∃x,decide (vK us b.1+c.5<t)=x:=⟨_,R⟩
      obtain⟨i4,ah⟩:∃x,allows us a t b k=x:=⟨_,R⟩
      have ar:i3=pw->∀m,tf PQ 209 #[pm (N ⟨d,0,X⟩),we #[ox pg b.1,ox pg b.2,ox pg b.3,U O k P,ox pg b.5],ox pg t] (tj wc m) λx w'=>x=qs (.bool i4)/\Below (tj wc m).1.size (tj wc m) w':=λh3 m=>by
       have:=vP d c us j a t b O k P _ (af.drewN m) (λa7 a6=>by
        refine dO λbh=>?_;have hw:=e;unfold waits at hw;rw[Za aA,a7]at hw;rw[a6]at E;rw[E,h3]at hw;simp at hw)
       rw[ah]at this;exact this
      rw[E]at ai;have ao:qu _:=λ(_:Unit)=>ai;have a2:qu _:=ar;have q:=ae.out;rw[e]at q;unfold Ic at q;rw[y,ah]at q;rw[B]at E q;rw[E]at q;have f:qu _:=fE q au;clear ub V A i D e y B af zc au ai ar q E ah av k0 k1 k2 c7 y0;by_cases u:(b.2:Int)=L
      .have a7:((b.2:Int) != L)=pi:=by rw[u];simp
       have G1:qu _:=u;clear u;by_cases g2:t<pt
       .go_wp2;go_ret;refine⟨?_,f.2⟩;rw[<-f.out.1,Ze g2];simp
       .cases i3
        .go_wp2_with (first|(go_at_call 208;refine aO (ao ()) ?_;rintro J w4 ⟨rfl,m4,rfl⟩)|fail)
         go_ret;refine⟨?_,ow f.2 (fG (aH _ _) _)⟩;rw[<-f.out.1,Zd (show ¬t<pt by omega),G1.out];simp
        .cases i4
         all_goals
          go_wp2_with (first|(go_at_call 208;refine aO (ao ()) ?_;rintro J w4 ⟨rfl,m4,rfl⟩)|(go_at_call 209;refine aO (a2 (by first|rfl|trivial) _) ?_;rintro J w5 ⟨rfl,a6⟩)|fail)
          go_ret;refine⟨?_,ow f.2 (ow (fG (aH ↑wc wc) m4) a6 |>.mono f.2.4)⟩;rw[<-f.out.1,Zd (show ¬t<pt by omega),G1.out];simp
      .have a6:((b.2:Int) != L)=pw:=by rw[bne_iff_ne];exact u
       have G1:qu _:=u;clear u;go_wp2;go_ret;refine⟨?_,f.2⟩;rw[<-f.out.1,Ze (show(b.2:Int)≠L from G1.out)];simp
    .go_wp2_with (first|(go_at_call 207;refine aO (ap ()) ?_;rintro J w3 ⟨rfl,f⟩)|go_in)
     go_ret;refine⟨?_,ow G.1 (o5 f G.1.4)⟩;rw[<-ae.out,G.out.2.2.2];rfl
   .go_wp2;go_ret;refine⟨?_,ow HV.2.2.2 ⟨R,R,R,fI,λ_ _=>R⟩⟩;rw[<-ae.out];rfl
section
variable {m i n g a c k j:Nat}{xs:List po}
abbrev PW:=Ba×po
variable {V:PW->Nat}{ws rs:List PW}{b:PW}
def gG(p:PW):List po:=[ox pg p.1.1,ox pg p.1.2,ox pg p.1.3,p.2,ox pg p.1.5]
def jw(p):M (gG p)=5:=rfl
def pick(V:PW->Nat):List PW->(Nat×Option PW)×List PW
 |[]=>((0,X),[])
 |b::r=>if V b=0 then((pick V r).1,b::(pick V r).2)else if V b=2 then((2,X),b::r)else if V b=3 then((3,N b),r)else pick V r
structure jf(V:PW->Nat)(ws rs:List PW)(m i:Nat):Prop where
 len:M rs=M ws
 le:m<=i
 ile:i<=M ws
 back:rs.drop i=ws.drop i
 run:pick V ws=((pick V (ws.drop i)).1,rs.take m++(pick V (ws.drop i)).2)
 sub:∀p∈rs,p∈ws
def jf.start(V ws):jf V ws ws 0 0:=⟨R,fI,bU _,R,aC,λ_ h=>h⟩
def jf.at(h:jf V ws rs m i)(a:ws[i]? =N b):rs[i]? =N b:=by have:=Zf (λq=>q[0]?) h.4;simpa[eN,a]using this
def rS{α:Type}{l:List α}{x}(h:l[i]? =N x):l.drop i=x::l.drop (i+1):=by obtain⟨a,rfl⟩:=aJ.1 h;exact List.drop_eq_getElem_cons a
def jf.stay(h:jf V ws rs m i)(a:ws[i]? =N b)(f:V b=0):jf V ws (rs.set m b) (m+1) (i+1):=by
 have j:=(aJ.1 a).1;have g:=h.2;have d:=h.1;refine⟨by rw[List.length_set];exact d,aA,aA,?_,?_,λp c=>(List.mem_or_eq_of_mem_set c).elim (h.6 p) (λe=>e ▸ aS a)⟩
 .rw[List.drop_set_of_lt aA];exact l8
 .rw[h.5,rS a]
  have c:pick V (b::ws.drop (i+1))=((pick V (ws.drop (i+1))).1,b::(pick V (ws.drop (i+1))).2):=by
   rw[pick,Zb f]
  rw[c]
  congr 1
  have e:rs.take (m+1)=rs.take m++[rs[m]' aA]:=cO aA;rw[List.take_set,e,List.set_append_right _ _ nn,bA,dF aA];simp
def jf.go(h:jf V ws rs m i)(a:ws[i]? =N b)(c:V b≠0)(d:V b≠2)(e:V b≠3):jf V ws rs m (i+1):=by
 have f:=(aJ.1 a).1;refine⟨h.1,by have:=h.2;omega,aA,?_,?_,h.6⟩
 .exact l8
 .rw[h.5,rS a,pick,Za c,Za d,Za e]
def jf.halt(h:jf V ws rs m i)(c:ws[i]? =N b)(a:V b=2):pick V ws=((2,X),rs.take m++rs.drop i):=by rw[h.5,h.4,rS c,pick,Za aA,Zb a]
def jf.got(h:jf V ws rs m i)(c:ws[i]? =N b)(a:V b=3):pick V ws=((3,N b),rs.take m++rs.drop (i+1)):=by
 have d:rs.drop (i+1)=ws.drop (i+1):=by
  exact l8
 rw[h.5,d,rS c,pick,Za aA,Za aA,Zb a]
def jf.done(h:jf V ws rs m i)(a:M ws<=i):pick V ws=((0,X),rs.take m):=by rw[h.5,qbf a,pick,dI]
section
variable {α:Type}(f:α->List po)(s:Nat)(hf:∀x,M (f x)=s)
include hf
def lG(l:List α)(k):(l.flatMap f).take (k*s)=(l.take k).flatMap f/\(l.flatMap f).drop (k*s)=(l.drop k).flatMap f:=by
 induction l generalizing k with
 |nil=>simp
 |cons x l ih=>
  cases k with
  |zero=>simp
  |succ k=>
   have a:(k+1)*s=s+k*s:=by rw[eJ];omega
   rw[dQ,a];constructor
   .rw[List.take_append,hf x,cK (by rw[hf x];omega),qau,(ih k).1,List.take_succ_cons,dQ]
   .rw[List.drop_append,hf x,List.drop_of_length_le (by rw[hf x];omega),qau,(ih k).2,List.drop_succ_cons,cA]
end
def fM.over{s}(h:fM w e s (U (N ⟨g,a,X⟩) n c) n xs)(vs)(C:k+M vs<=n*s):fM (YF w g (a+k) vs) e s (U (N ⟨g,a,X⟩) n c) n (xs.take k++vs++xs.drop (k+M vs)):=by
 have D:=h.1;refine⟨by simp only[aN,bA,cF];omega,?_⟩;obtain⟨m,_⟩|⟨A,F,y,z,f,r,d,p,q,hc⟩:=h.2
 .cases m
 .simp only[ry,aI,Addr.mk.injEq,and_true,true_and]at f;obtain⟨⟨rfl,rfl⟩,rfl⟩:=f;let⟨l,t,u,i,x⟩:=nW vs (a+k) r;refine rz ⟨g,a,c,l,R,t,d,p,by rw[u];exact q,λj v b=>?_⟩;have E:n*s<=c*s:=cY _ d;by_cases o:j<k
  .rw[cZ,bI nn,dM,Zb o]at b;rw[i _ (rr aA)];exact hc j v b
  .by_cases B:j<k+M vs
   .rw[cZ,bF nn,bA,dF aA,bI aA]at b;have:=x _ v b aA;rw[show a+j=a+k+(j-k) from by omega];exact this
   .rw[bF (by simp only[aN,bA];omega)]at b;simp only[aN,bA]at b;rw[dF aA,eN]at b;rw[i _ (rz aA)];exact hc j v (by rw[<-b];congr 1;omega)
def fM.lay{s}(h:fM w e s (U (N ⟨g,a,X⟩) n c) n xs)(vs)(u:k<=n)(z:M vs=j*s)(d:k+j<=c):fM (YF w g (a+k*s) vs) e s (U (N ⟨g,a,X⟩) (k+j) c) (k+j) (xs.take (k*s)++vs):=by
 have y:=h.1;have x:k*s<=n*s:=cY _ u;refine⟨by rw[aN,bA,y,dF x,z,eJ],?_⟩;obtain⟨m,_⟩|⟨G,J,E,F,f,t,I,q,r,hc⟩:=h.2
 .cases m
 .simp only[ry,aI,Addr.mk.injEq,and_true,true_and]at f;obtain⟨⟨rfl,rfl⟩,rfl⟩:=f;let⟨l,A,B,C,D⟩:=nW vs (a+k*s) t;have p:(k+j)*s<=c*s:=cY _ d;rw[eJ]at p;refine rz ⟨g,a,c,l,R,A,d,q,by rw[B];exact r,λi v b=>?_⟩;by_cases o:i<k*s
  .rw[bI nn,dM,Zb o]at b;rw[C _ (rr aA)];exact hc i v b
  .rw[bF nn,bA,dF aA]at b;have H:=(aJ.1 b).1;have:=D _ v b aA;rw[show a+i=a+k*s+(i-k*s) from by omega];exact this
section
variable {α:Type}(f:α->List po)(s:Nat)(hf:∀x,M (f x)=s)
include hf
def fM.Nx{rs}(h:fM w e s (U (N ⟨g,a,X⟩) n c) n (rs.flatMap f))(b:m<M rs)(x):fM (YF w g (a+m*s) (f x)) e s (U (N ⟨g,a,X⟩) n c) n ((rs.set m x).flatMap f):=by have d:=h.1;rw[jm f s hf]at d;have i:(m+1)*s<=M rs*s:=cY _ b;rw[eJ,Nat.one_mul]at i;have:=h.over (k:=m*s) (f x) (by rw[hf x];omega);rw[(lG f s hf rs m).1,hf x,show m*s+s=(m+1)*s from by rw[eJ,Nat.one_mul],(lG f s hf rs (m+1)).2]at this;rw[List.set_eq_take_append_cons_drop,Zb b,dU,dQ,<-cZ];exact this
def fM.BP{rs:List α}(h:fM w e s (U (N ⟨g,a,X⟩) n c) n (rs.flatMap f))(b)(i:k<=n)(d:k+M b<=c):fM (YF w g (a+k*s) (b.flatMap f)) e s (U (N ⟨g,a,X⟩) (k+M b) c) (k+M b) ((rs.take k++b).flatMap f):=by have:=h.lay (k:=k) (j:=M b) _ i (jm f s hf b) d;rw[(lG f s hf rs k).1]at this;rw[dU];exact this
end
end
end Hm
section
open Go.RowKit Go.Joins Go.Shelf
attribute [local go_sem] Oper.semAt_some
def XE(d:Nat)(s:ByteArray)(pre:List Zr)(x:Zr)(a:Nat)(W:pn):=XY (d+1) pre x a W/\∃p,Im.jN (Im.read Im.body d) s.1.1 ((pre++[x]).map Zr.i) p
def XE.turn(d s pre x b W a)(h:∀k,b<=k->a.1[k]? =W.1[k]?)(e:a.1.size=W.1.size)(c:XE d s pre x b W):XE d s pre x b a:=⟨XY.turn _ pre x b W a h e c.1,c.2⟩
def EU(d)(H:FirstSaid d)(s:ByteArray)(l c b w)(hs:ot s<=16777216)(hdd:l+d=9)(hH:iJ w)(h0:1<w.1.size)(I:Z w ⟨c,0,X⟩=N (pk s))(G:Z w ⟨b,0,X⟩=N (ox pg l))(ai:c<w.1.size)(af:b<w.1.size):Gives PQ 205 #[pm (N ⟨c,0,X⟩),pm (N ⟨b,0,X⟩)] Zr.encs (λk=>k=1\/k=c\/k=b) (XE d s) (Done d s) (Left d s) w:=by
 intro a7 S Jx W f F D;have Q:qu _:=H;have P:qu _:=F;have L:qu _:=D;clear H F D;refine callsIn_of_wp (fq func205 R) R trivial ?_ R;simp only[ntmps205,bZ,aP,bH,Nat.reduceAdd,Nat.reduceSub,bP,bO,cD,bQ,cA,bX];gi_wp2
 gi_loopw [4] (λt wr=>∃(pre:List Zr)(a:pn)(p:Nat),t=ox pg p/\qu (Im.jN (Im.read Im.body d) s.1.1 (pre.map Zr.i) p/\nX pre=p/\p<=ot s/\M pre<=p/\S pre a/\Below ↑a a wr/\iJ wr/\c<↑wr/\b<↑wr)/\Z wr ⟨c,0,X⟩=N (pk s)/\Z wr ⟨b,0,X⟩=N (ox pg l))
  (λt wr=>ot s-(intOf t).toNat)
 case atStart=>
  have:=f.4;exact⟨[],W,0,R,⟨Im.jN.nil,R,bU _,fI,L,aH _ _,hH.fF f h0,aA,aA⟩,oy (f.cell (p:=⟨c,0,X⟩) ai) I,oy (f.cell (p:=⟨b,0,X⟩) af) G⟩
 case round=>
  obtain⟨pre,r,p,rfl,e,c0,c1⟩:=hrel;clear I G;by_cases o:p<ot s
  .have au:(p:Int)<ot s:=by omega
   have aj:ot (qt s p (ot s))<=16777216:=aD
   have J:(qt s p (ot s)).1.1=s.1.1.drop p:=by rw[ext_list,cK gv]
   have m:=λW f=>Q _ l W aj hdd (e.2.2.2.2.2.2.1.fF f e.2.2.2.2.2.2.1.pos);have a:=aH ↑wr wr;obtain⟨_,_,_,_,_,_,_,ak,ag⟩:=e.out;have a6:c≠wr.1.size:=aA
   have aq:b≠wr.1.size:=aA
   rw[J]at m;generalize B:Im.read Im.body d (s.1.1.drop p)=C at m;have z:qu _:=m;have h:qu _:=B;clear m B J;gi_wp2;refine wpIn_wide.2 ?_;cases C with
   |none=>
    go_cut [5,6,7] (λj k g i=>g=rh pi/\Below ↑wr wr i)
    case first=>
     go_region_with (go_at_call 206;refine se (z _ ?_) ?_;(first|exact a|exact rk a|exact fG a _|exact pb a fI _|exact fG (pb a fI _) _|exact(fG a _).alloc fI _);rintro n w3 ⟨k,j⟩;obtain rfl:=k;have g:Below ↑wr wr w3:=ow jp (o5 j aC);(try (have i:w3.1[wr.1.size]? =N (pj #[rh pi,pk ⟨#[]⟩,U X 0 0] 103 (0,0)):=oy (j.5 _ aC) gd;have t:Z w3 ⟨↑wr,0,X⟩=N (rh pi):=od;have u:Z w3 ⟨↑wr,1,X⟩=N (pk ⟨#[]⟩):=od;have v:Z w3 ⟨↑wr,2,X⟩=N (U X 0 0):=od;have q:=aM i)))
     all_goals
      go_wp2;go_meet;refine⟨R,?_⟩
      first
       |exact pb g g.4 _
       |exact fG (pb g g.4 _) _
       |exact ph (ph (ph g fI _) fI _) fI _
       |exact fG (((g.setCell fI _).setCell fI _).setCell fI _) _
    case rest=>
     obtain⟨rfl,j⟩:=hcut;gi_wp2;refine sd (Zy R _ _ _) R ?_;obtain⟨k,n,u,t,i,g,q,_,_⟩:=e.out;exact⟨⟨_,R⟩,rr ⟨pre,r,⟨p,k,n,rz ⟨o,h⟩⟩,i,ow g (o5 j g.4)⟩⟩
   |some x=>
    obtain⟨i,n⟩:=x;have y:=oz kW d _ _ _ h.out;rw[cF,<-aW]at y;have av:=y.1;have ah:p+n<=ot s:=aA
    clear y;obtain⟨k,t⟩:∃k:ByteArray,(⟨py i.2⟩:ByteArray)=k:=⟨_,R⟩
    go_cut [5,6,7] (λv x A g=>∃(q:Nat)(j:Option zm)(u:Nat),v=pm (N ⟨q,0,X⟩)/\x=ox pg n/\A=rh pw/\Below ↑wr wr g/\K3 g q 0 (.bool i.1) (pk k) (U j (M i.3) u)/\Tr g (d+1) ↑wr ↑g (.bool i.1) (pk k) (U j (M i.3) u) i)
    case first=>
     go_region_with (go_at_call 206;refine se (z _ ?_) ?_;(first|exact a|exact rk a|exact fG a _|exact pb a fI _|exact fG (pb a fI _) _|exact(fG a _).alloc fI _);rintro E w3 ⟨C,x⟩;obtain⟨u,v,rfl,j⟩:=C;simp only at j⊢;rw[t]at j⊢;have q:qu (Tr _ _ _ _ _ _ _ _):=j;clear j;have A:Below ↑wr wr w3:=ow jp (o5 x aC);(try (have g:w3.1[wr.1.size]? =N (pj #[rh pi,pk ⟨#[]⟩,U X 0 0] 103 (0,0)):=oy (x.5 _ aC) gd;have O:Z w3 ⟨↑wr,0,X⟩=N (rh pi):=(by rw[aG g];rfl);have T:Z w3 ⟨↑wr,1,X⟩=N (pk ⟨#[]⟩):=(by rw[aG g];rfl);have V:Z w3 ⟨↑wr,2,X⟩=N (U X 0 0):=(by rw[aG g];rfl);have K:=aM g)))
     all_goals
      go_wp2;go_meet
      first
       |exact⟨_,u,v,R,R,R,BC A q aC⟩
       |exact⟨_,u,v,R,R,R,HU A q aC g⟩
    case rest=>
     obtain⟨ao,T,aa,rfl,rfl,rfl,j,⟨k0,k1,k2⟩,q⟩:=hcut;rw[cX]at k1 k2;rw[<-t]at q;obtain⟨v,ar,ay,aw,hJ,u,C,_,_⟩:=e.out;have ae:=ow u (o5 j u.4);let⟨fn,a8,an,body,K,E⟩:=P pre ⟨p+n,i,T,aa⟩ r wc hJ ae ⟨⟨aA,q.wider u.4 fI⟩,p+n,lh⟩;simp only[Zr.encs,Int.natCast_add]at K;rw[t]at K;have O:qu _:=E;have am:qu _:=q;clear E q;have ax:(p:Int)+(n:Int)<=16777216:=aA
     gi_wp2;refine RoundIn.mono O.out ?_;rintro ap A (⟨rfl,ac,az,x⟩|⟨rfl,ad⟩)
     .gi_wp2;go_roundw
      case rel=>
       have g:=x 1 (rr R);have q1:=x c (rz (rr R));have q2:=x b (rz (rz R));have s5:=j.4;have ab:=C.fF j C.pos;refine⟨_,A,p+n,aC,⟨?_,kR _ _,ah,aD,ac,aH _ _,?_,aA,aA⟩,?_,?_⟩
       .exact lh
       .obtain⟨⟨V,Y,a2⟩,a3,a4,a5⟩:=ab;exact⟨⟨oy (qz g) V,oy (qz g) Y,oy (qz g) a2⟩,oy (qz g) a3,oy (qz g) a4,oy (qz g) a5⟩
       .exact oy (qz q1) (oy (j.cell (p:=⟨c,0,X⟩) ak) c0)
       .exact oy (qz q2) (oy (j.cell (p:=⟨b,0,X⟩) ag) c1)
      case measure=>simp[intOf];omega
     .gi_wp2;refine sd (Zy R _ _ _) R ?_;refine⟨⟨_,R⟩,rz ⟨_,A,⟨p+n,?_,kR _ _⟩,ad,aH _ _⟩⟩;exact lh
  .have k:¬(p:Int)<ot s:=by omega
   gi_wp2;go_end0;obtain⟨h,i,n,m,a,g,j,_,_⟩:=e.out;exact⟨⟨_,R⟩,rr ⟨pre,⟨p,h,i,rr aA⟩,r,a,g⟩⟩
end
section
open Go.RowKit Go.Joins
def J4(d:Nat):=∀(s:ByteArray)(a:Nat)(w:pn),ot s<=16777216->a+d=10->
  tf PQ 143 #[pk s,ox pg a] w λe b=>Got d ↑w b e (kE rb d s.1.1)/\Below ↑w w b
def Qb(s:ByteArray)(d)(f:128<=pf s[0])(g:pf s[0]-(if 192<=pf s[0]then 192 else 128)<=55):
  rb s.1.1=if ot s<1+(pf s[0]-(if 192<=pf s[0]then 192 else 128))then X else N (decide (192<=pf s[0]),1,1+(pf s[0]-(if 192<=pf s[0]then 192 else 128))):=by
 have a:=iC s 0 d;have e:=aW s;cases b:s.1.1 with
 |nil=>grind
 |cons c r=>
  rw[b]at a;simp only[qaN]at a;subst a;rw[b]at e;simp only[rb]
  grind
def Te(s:ByteArray)(e)(g:128<=pf s[0])(k)(f:pf s[0]-(if 192<=pf s[0]then 192 else 128)=55+k)(h:1<=k):
  rb s.1.1=if 4<k\/ot s<1+k then X else if ot s<1+k+Im.val ((s.1.1.take (1+k)).drop 1) 0 then X else N (decide (192<=pf s[0]),1+k,1+k+Im.val ((s.1.1.take (1+k)).drop 1) 0):=by
 have a:=iC s 0 e;have d:=aW s;cases b:s.1.1 with
 |nil=>grind
 |cons c r=>
  rw[b]at a;simp only[qaN]at a;subst a;rw[b]at d;simp only[rb];rw[Za aA,Za aA,f,qau,<-d]
def QS(s:ByteArray)(b)(d:pf s[0]<128):rb s.1.1=N (pi,0,1):=by
 have a:=iC s 0 b;have f:=aW s;cases e:s.1.1 with
 |nil=>grind
 |cons c r=>
  rw[e]at a;simp only[qaN]at a;subst a;simp only[rb];rw[Zb d]
def L5(s:List UInt8)(k:Nat)(a:1<=k)(h:k<M s):Im.val ((s.take (k+1)).drop 1) 0=256*Im.val ((s.take k).drop 1) 0+pf (s.getD k 0):=by rw[cO h,List.drop_append_of_le_length aD,Im.val_append,aT,aK h];rfl
def J1:∀i:Nat,J4 i:=by
 intro i
 induction i with
 |zero=>
  intro s c w e hdd;obtain rfl:c=10:=aA
  rw[show kE rb 0 s.1.1=X from R];have a:=gH s;by_cases b:ot s=0
  .have d:tk (vz s)=pw:=by rw[a];simp[b]
   clear a;go_enter (fq func143 R),ntmps143;go_wp2;exact sd (v:=sh #[we #[rh pi,pk ⟨#[]⟩,U X 0 0],ox pg 0,rh pi]) (by simp[results,X0,go_sem]) R ⟨R,pb (aH _ w) fI _⟩
  .have d:tk (vz s)=pi:=by rw[a];simp[b]
   clear a;go_enter (fq func143 R),ntmps143;go_wp2;exact sd (v:=sh #[we #[rh pi,pk ⟨#[]⟩,U X 0 0],ox pg 0,rh pi]) (by simp[results,X0,go_sem]) R ⟨R,pb (aH _ w) fI _⟩
 |succ i ih=>
  intro s ah w hs hdd;have aq:=gH s;have cd:¬(9:Int)<(ah:Int):=aA
  generalize hC:kE rb (i+1) s.1.1=C;have p:qu _:=hC;have bq:qu _:=ih;clear hC ih;by_cases hz:ot s=0
  .have a:tk (vz s)=pw:=by rw[aq];simp[hz]
   obtain rfl:C=X:=by
    have:s.1.1=[]:=bC (by rw[<-aW];exact hz);rw[<-p.out,this];rfl
   clear aq;go_enter (fq func143 R),ntmps143;go_wp2;exact sd (v:=sh #[we #[rh pi,pk ⟨#[]⟩,U X 0 0],ox pg 0,rh pi]) (by simp[results,X0,go_sem]) R ⟨R,pb (aH _ w) fI _⟩
  .have he:tk (vz s)=pi:=by rw[aq];simp[hz]
   have P:0<ot s:=aA
   have hx:=λaa=>kL aa s 0 0 P R;have cc:=s[0].toNat_lt;have I:=Qb s P;have b:=Te s P;have a8:=QS s P
   have az:qt s 0 1=⟨#[s[0]]⟩:=by
    apply qaQ;apply Array.toList_inj.1;have d:=iC s 0 P;have e:=aW s;rw[ext_list];cases a:s.1.1 with
    |nil=>grind
    |cons c r=>grind
   have af:qu _:=I;have ae:qu _:=b;have a3:qu _:=a8;clear aq I b a8;by_cases bz:pf s[0]<128
   .have d:(pf s[0]:Int)<128:=by omega
    have c:=oy p.symm (mD (a3 bz));have a:(⟨py ((s.1.1.take 1).drop 0)⟩:ByteArray)=⟨#[s[0]]⟩:=by rw[<-az,<-ext_list]
    clear az;have e:qt s 0 1=⟨#[s[0]]⟩:=by rw[<-a,<-ext_list]
    obtain rfl:=c;go_enter (fq func143 R),ntmps143;go_wp2;refine sd (v:=sh #[we #[rh pi,pk ⟨#[s[0]]⟩,U X 0 0],ox pg 1,rh pw]) (by simp[results,X0,go_sem]) R ⟨⟨X,0,by rw[<-a];rfl,?_⟩,pb (aH _ w) fI _⟩;exact Tr.wZ (i:=⟨pi,(s.1.1.take 1).drop 0,[]⟩) (fM.none _ _ _ _)
   .have b8:¬(pf s[0]:Int)<128:=by omega
    clear az a3;obtain⟨a,ay⟩:∃a:Nat,a=if 192<=pf s[0]then 192 else 128:=⟨_,R⟩
    have I:=af aA;have b:=ae aA;rw[<-ay]at I b
    have d:a=192/\192<=pf s[0]\/a=128/\pf s[0]<192:=by
     rw[ay];split
     .omega
     .omega
    clear af ae ay
    have bf:pf s[0]-a<=55->rb s.1.1=if ot s<1+(pf s[0]-a)then X else N (decide (a=192),1,1+(pf s[0]-a)):=by
     intro h;rw[I h]
     congr 3
     obtain⟨c,e⟩|⟨c,e⟩:=d
     .simp[c,e]
     .grind
    have bb:∀k,pf s[0]-a=55+k->1<=k->rb s.1.1=if 4<k\/ot s<1+k then X else if ot s<1+k+Im.val ((s.1.1.take (1+k)).drop 1) 0 then X else N (decide (a=192),1+k,1+k+Im.val ((s.1.1.take (1+k)).drop 1) 0):=by
     intro k f g;rw[b k f g]
     congr 4
     obtain⟨c,e⟩|⟨c,e⟩:=d
     .simp[c,e]
     .grind
    have af:qu _:=bf;have ae:qu _:=bb;have ac:qu _:=d;have cb:a<=pf s[0]:=aA
    clear I b bf bb;obtain⟨Zr,K⟩:∃Zr:pn,Zr=o6 w (pj #[rh pi,pk ⟨#[]⟩,U X 0 0] 103):=⟨_,R⟩
    have aw:↑Zr=w.1.size+1:=by rw[K];simp
    have A:Below ↑w w Zr:=by rw[K];exact pb (aH _ w) fI _
    have z:Zr.1[w.1.size]? =N (pj #[rh pi,pk ⟨#[]⟩,U X 0 0] 103 (0,0)):=by rw[K];exact sv _ _
    go_enter (fq func143 R),ntmps143;go_upto_if 34 with fail;rw[<-K];have r:Z Zr ⟨↑w,0,X⟩=N (rh pi):=fZ z rfl;have t:Z Zr ⟨↑w,1,X⟩=N (pk ⟨#[]⟩):=fZ z rfl;have u:Z Zr ⟨↑w,2,X⟩=N (U X 0 0):=fZ z rfl;have fz:=aM z;clear K;go_cut [8] (λv c=>v=ox pg a/\c=Zr)
    case first=>
     obtain⟨rfl,c⟩|⟨rfl,c⟩:=ac.out
     .have e:(192:Int)<=(pf s[0]:Int):=by omega
      go_wp2;go_meet;exact⟨R,R⟩
     .have e:¬(192:Int)<=(pf s[0]:Int):=by omega
      go_wp2;go_meet;exact⟨R,R⟩
    case rest=>
     obtain⟨rfl,rfl⟩:=hcut;go_upto_if 39 with fail;go_cut [9,10] (λe c h=>∃f m:Nat,e=ox pg m/\c=ox pg f/\h=wc/\qu (rb s.1.1=if ot s<f+m then X else N (decide (a=192),f,f+m))/\1<=f/\f<=5/\m<4294967296)
     case first=>
      by_cases H:pf s[0]-a<=55
      .have c:¬(55:Int)<(pf s[0]:Int)-(a:Int):=by omega
       go_wp2;go_meet;exact⟨1,pf s[0]-a,Zf (ox pg) aA,R,R,af H,aA,aA,aA⟩
      .obtain⟨k,E⟩:∃k,pf s[0]-a=55+k:=⟨pf s[0]-a-55,aA⟩
       have F:1<=k:=aA
       have b:=ae k E F;have o:(pf s[0]:Int)-(a:Int)=55+(k:Int):=aA
       have ab:(55:Int)<(pf s[0]:Int)-(a:Int):=aA
       have f:qu _:=o;clear o;by_cases B:4<k
       .rw[Zb (rr B)]at b;obtain rfl:C=X:=oy p.symm (mI b);have c:(4:Int)<(pf s[0]:Int)-(a:Int)-55:=by omega
        clear b;go_wp2;exact sd (v:=sh #[we #[rh pi,pk ⟨#[]⟩,U X 0 0],ox pg 0,rh pi]) (by simp[results,X0,go_sem,r,t,u]) R ⟨R,ph (ph (ph A aC _) aC _) aC _⟩
       .by_cases D:ot s<1+k
        .rw[Zb (rz D)]at b;obtain rfl:C=X:=oy p.symm (mI b);have c:¬(4:Int)<(pf s[0]:Int)-(a:Int)-55:=by omega
         have e:(ot s:Int)<1+((pf s[0]:Int)-(a:Int)-55):=aA
         clear b;go_wp2;exact sd (v:=sh #[we #[rh pi,pk ⟨#[]⟩,U X 0 0],ox pg 0,rh pi]) (by simp[results,X0,go_sem,r,t,u]) R ⟨R,ph (ph (ph A aC _) aC _) aC _⟩
        .rw[Za aA]at b;have O:¬(4:Int)<(pf s[0]:Int)-(a:Int)-55:=by omega
         have Q:¬(ot s:Int)<1+((pf s[0]:Int)-(a:Int)-55):=aA
         have x:qu _:=b;clear b;go_wp2;have J:Im.val ((s.1.1.take 1).drop 1) 0=0:=by rw[qbf aD];rfl
         go_loopg [9,12] k (λg e c h=>∃j:Nat,1<=j/\j<=k+1/\c=ox pg j/\e=ox pg (Im.val ((s.1.1.take j).drop 1) 0:Nat)/\g=k+1-j/\h=wc)
         case atStart=>exact⟨1,fI,aA,R,by rw[J];rfl,aA,R⟩
         case round=>
          obtain⟨j,C,Y,rfl,rfl,rfl,rfl⟩:=hrel;by_cases T:j<=k
          .have W:(j:Int)<=(pf s[0]:Int)-(a:Int)-55:=by have:=f.out;omega
           have l:j<ot s:=aA
           have L:=λaa=>kL aa s j j l R;have c:=L5 s.1.1 j C (by rw[<-aW];exact l);rw[iC s j l]at c
           have ad:Im.val ((s.1.1.take j).drop 1) 0<16777216:=by
            have:=lX ((s.1.1.take j).drop 1) 0 0 aC;have G:0+M ((s.1.1.take j).drop 1)<=3:=aD
            have:=eE (n:=256) aB G;omega
           obtain⟨h,e⟩:∃h:Nat,pf s[j]=h:=⟨_,R⟩
           have S:h<256:=by rw[<-e];exact UInt8.toNat_lt _
           rw[e]at c;simp only[e]at L;generalize n:Im.val ((s.1.1.take (j+1)).drop 1) 0=V' at c;have q:qu _:=n;have y:qu _:=c;clear n c;generalize Im.val ((s.1.1.take j).drop 1) 0=V at *;clear e;go_wp2;go_roundg (k+1-(j+1))
           case measure=>omega
           case rel=>exact⟨j+1,aA,aA,by go_num,by rw[q.out,y.out];simp,R,R⟩
          .obtain rfl:j=k+1:=by omega
           have y:¬((k+1:Nat):Int)<=(pf s[0]:Int)-(a:Int)-55:=by have:=f.out;omega
           have n:Im.val ((s.1.1.take (k+1)).drop 1) 0<4294967296:=by
            have:=lX ((s.1.1.take (k+1)).drop 1) 0 0 aC;have l:0+M ((s.1.1.take (k+1)).drop 1)<=4:=aD
            have:=eE (n:=256) aB l;omega
           have c:=x.out;rw[Nat.add_comm 1 k]at c;have h:qu _:=c;clear c;generalize e:Im.val ((s.1.1.take (k+1)).drop 1) 0=V at *;have q:qu _:=e;clear e;go_wp2;go_meet;refine⟨k+1,V,R,Zf (ox pg) (by have:=f.out;omega),R,?_,aA,aA,n⟩;exact h
     case rest=>
      obtain⟨f,m,rfl,rfl,b7,ag,cf,cg,h⟩:=hcut;subst b7;by_cases bd:ot s<f+m
      .have c:=ag.out;rw[Zb bd]at c;obtain rfl:C=X:=oy p.symm (mI c);have e:(ot s:Int)<(f:Int)+(m:Int):=by omega
       clear c;go_wp2;exact sd (v:=sh #[we #[rh pi,pk ⟨#[]⟩,U X 0 0],ox pg 0,rh pi]) (by simp[results,X0,go_sem,r,t,u]) R ⟨R,ph (ph (ph A aC _) aC _) aC _⟩
      .have Q:=ag.out;rw[Za bd]at Q;have ch:¬(ot s:Int)<(f:Int)+(m:Int):=by omega
       obtain⟨S,hS⟩:∃S:ByteArray,qt s f (f+m)=S:=⟨_,R⟩
       have av:S.1.1=(s.1.1.take (f+m)).drop f:=by rw[<-hS,ext_list]
       have ca:ot S=m:=by rw[<-hS];simp;omega
       have b3:(⟨py ((s.1.1.take (f+m)).drop f)⟩:ByteArray)=S:=by rw[<-av]
       obtain⟨rfl,h2⟩|⟨rfl,h2⟩:=ac.out
       .have au:C=_:=oy p.symm (oU (b:=rb) Q);rw[<-av]at au;have ab:qu _:=au;clear Q au av b3 d ag ac;go_wp2;obtain⟨Y,D⟩:∃Y:pn,Y=o6 wc (pj #[rh pw,pk ⟨#[]⟩,U X 0 0] 103):=⟨_,R⟩
        have ax:↑Y=w.1.size+2:=by rw[D];simp;omega
        have E:Y.1[w.1.size]? =N (pj #[rh pi,pk ⟨#[]⟩,U X 0 0] 103 (0,0)):=by rw[D,aU _ _ _ aA];exact z
        have O:Y.1[w.1.size+1]? =N (pj #[rh pw,pk ⟨#[]⟩,U X 0 0] 103 (0,0)):=by
         rw[D];have:=sv wc (pj #[rh pw,pk ⟨#[]⟩,U X 0 0] 103);rw[aw]at this;exact this
        have ai:Below ↑w w Y:=by rw[D];exact pb A aA _
        have b6:↑wc=w.1.size+1:=aw;rw[<-D];let⟨i0,hi,bl,bm,bo⟩:=yk A3;have Hi:qu _:=fE hi (fE bl (fE bm bo));have HY:qu _:=fE ax (fE E (fE O ai));have ba:=mU rP i;have ad:qu _:=ba;clear D ax E O ai hi bl bm bo z A aw r t u fz b6 ba;go_loopg [13] (ot S) (λg v e=>∃(c:List It)(j:Nat)(B:ByteArray)(l:Option zm)(n:Nat),v=pk B/\g=ot B/\qu (B.1.1=S.1.1.drop j/\Im.jN (kE rb i) S.1.1 c j/\e.1[w.1.size+1]? =N (pj #[rh pw,pk ⟨#[]⟩,U l (M c) n] 103 (0,0))/\fM e i (w.1.size+2) ↑e (U l (M c) n) c/\Below (w.1.size+1) Y e))
        case atStart=>exact⟨[],0,S,X,0,R,R,R,Im.jN.nil,HY.2.2.1,fM.none _ _ _ _,aH _ _⟩
        case round=>
         obtain⟨c,T,B,j,l,rfl,rfl,HI⟩:=hrel;let⟨y,F,J,an,hb⟩:=HI.out;let⟨ax,E,O,ai⟩:=HY.out;have cj:=hb.4;have b5:=F.le ad.out;rw[<-aW]at b5;have b9:ot B=ot S-T:=by rw[aW,y,cF,<-aW]
         have a9:Below ↑w w wr:=ow ai (o5 hb aA);have q:=oy (hb.5 ↑w aA) E;have ar:=gH B;by_cases a5:ot B=0
         .have o:tk (vz B)=pw:=by rw[ar];simp[a5]
          have h:=F.all ad (M s.1.1) (by rw[<-aW,<-aW];omega) gv;obtain rfl:C=N (⟨pw,[],c⟩,f+m):=by rw[ab.out,h];rfl
          have G:Z wr ⟨w.1.size+1,0,X⟩=N (rh pw):=fZ J rfl;have H:Z wr ⟨w.1.size+1,1,X⟩=N (pk ⟨#[]⟩):=fZ J rfl;have L:Z wr ⟨w.1.size+1,2,X⟩=N (U j (M c) l):=fZ J rfl;have r:Z wr ⟨↑w,0,X⟩=N (rh pi):=fZ q rfl;have t:Z wr ⟨↑w,1,X⟩=N (pk ⟨#[]⟩):=fZ q rfl;have u:Z wr ⟨↑w,2,X⟩=N (U X 0 0):=fZ q rfl;have fz:=aM q;have e:qu _:=an;clear an q J F y E O ar h HI HY ab;go_wp2;refine sd (v:=sh #[we #[rh pw,pk ⟨#[]⟩,U j (M c) l],ox pg ((f:Int)+(m:Int)),rh pw]) (by simp[results,X0,go_sem,r,t,u]) R ⟨⟨j,l,aC,?_⟩,ph (ph (ph a9 aC _) aC _) aC _⟩;have n:=fM.wider (lo':=w.1.size) (fM.kept (w':=o3 (o3 (o3 wr ⟨↑w,0,X⟩ (rh pw)) ⟨↑w,1,X⟩ (pk ⟨#[]⟩)) ⟨↑w,2,X⟩ (U j (M c) l)) e (λk x _=>by rw[aR _ _ _ _ aD,aR _ _ _ _ aD,aR _ _ _ _ aD])) aA fI;exact Tr.wZ (i:=⟨pw,[],c⟩) (fM.wider n fI ja)
         .have ce:tk (vz B)=pi:=by rw[ar];simp[a5]
          have ak:=λ(_:Unit)=>bq B (ah+1) wr aA aA;rw[show((ah+1:Nat):Int)=(ah:Int)+1 from by omega]at ak;generalize hG:kE rb i B.1.1=G at ak;have bp:qu _:=ak;have HG:qu _:=hG;clear ak hG ar;have Hr:qu _:=q;have bu:qu _:=an;have Ho:qu _:=J;clear q an J;go_wp2;refine se (bp ()) ?_;rintro bx w1 ⟨bc,d⟩;have s1:=d.4;have a2:=oy (d.5 w.1.size aA) Hr.out;have am:=oy (d.5 (w.1.size+1) aA) Ho.out;cases G with
          |none=>
           obtain rfl:=bc;have h:=F.stuck ad (M s.1.1) (by rw[<-aW,<-aW];omega) gv (by rw[<-y];exact HG);obtain rfl:C=X:=by rw[ab.out,h];rfl
           have e:∀o:ZG,(o6 w1 o).1[w.1.size]? =N (pj #[rh pi,pk ⟨#[]⟩,U X 0 0] 103 (0,0)):=λo=>oy (aU _ _ _ aA) a2;have G:∀o:ZG,Z (o6 w1 o) ⟨↑w,0,X⟩=N (rh pi):=λo=>by rw[aG (e o)];rfl
           have H:∀o:ZG,Z (o6 w1 o) ⟨↑w,1,X⟩=N (pk ⟨#[]⟩):=λo=>by rw[aG (e o)];rfl
           have L:∀o:ZG,Z (o6 w1 o) ⟨↑w,2,X⟩=N (U X 0 0):=λo=>by rw[aG (e o)];rfl
           have V:∀(o:ZG)(n:Nat),sk (o6 w1 o) ⟨↑w,n,X⟩=pi:=λo n=>aM (e o) n;have x:Below ↑w w w1:=ow a9 (o5 d aA);clear e a2 am h F y E O HI HY ab;go_wp2;exact sd (v:=sh #[we #[rh pi,pk ⟨#[]⟩,U X 0 0],ox pg 0,rh pi]) (by simp[results,X0,go_sem,G,H,L]) R ⟨R,ph (ph (ph (pb x x.4 _) aC _) aC _) aC _⟩
          |some x=>
           obtain⟨C,n⟩:=x;obtain⟨a1,bw,rfl,ap⟩:=bc;simp only at ap⊢;have b4:=ad _ _ _ HG.out;rw[<-aW]at b4;obtain⟨IB,b2⟩:∃IB:ByteArray,(⟨py C.2⟩:ByteArray)=IB:=⟨_,R⟩
           rw[b2]at ap⊢;have bv:qu _:=ap;let⟨xs,L,H,o,q2,V,W,q5⟩:=bu.out;have bg:∀G o':ZG,(o6 (o6 w1 G) o').1[w.1.size+1]? =N (pj #[rh pw,pk ⟨#[]⟩,U j (M c) l] 103 (0,0)):=λG o'=>oy (aU _ _ _ aD) (oy (aU _ _ _ aA) am);have y2:∀G:ZG,Z (o6 w1 G) ⟨w.1.size+1,2,X⟩=N (U j (M c) l):=λG=>by rw[aG (oy (aU _ _ _ aA) am)];rfl
           have bk:=λo1 o2:ZG=>((gR o d).alloc o1).alloc o2;have Hq:qu _:=fE o (fE V (fE W q5));have bs:qu _:=bk;have br:qu _:=bg;clear o q2 V W q5 bk bg ap am a2;go_wp2_with (at_builtin;refine rF R (.tmp 101) (.tmp 103) 101 R (w.1.size+2) 103 i0 3 48 (uq underlying101) Hi.1 Hi.2.1 Hi.2.2.1 Hi.2.2.2 R aB (M c) xs R (bs _ _) ⟨w1.1.size+1,0,X⟩ 1 1 [.bool C.1,pk IB,U a1 (M C.3) bw] R aB R ?c1 ?c2 ?c3 ?c4 ?c5 ?_)
           case c1=>
            intro x aa e
            match x,e with
            |0,e=>simp at e;subst e;simp[Addr.add]
            |1,e=>simp at e;subst e;simp[Addr.add]
            |2,e=>simp at e;subst e;simp[Addr.add]
           case c2=>
            intro aa e;simp at e;rcases e with rfl|rfl|rfl<;>rfl
           case c3=>unfold maxLen;omega
           case c4=>omega
           case c5=>simp;omega
           .intro v' w4 a0 x a7;let⟨o,V,W,q5⟩:=Hq.out;have bh:∀m,ov (U j (M c) l)=N m->w.1.size+2<=m:=λm h=>(iX o h).1;have ao:=fM.step (w:=wr) (w1:=w1) (v:=U j (M c) l) aA o V W q5 bv d (below_alloc2 (aH _ w1) fI _ _) a0 x (by simpa using a7);have s4:=x.4;simp only[cQ]at s4;have e:w4.1[w.1.size+1]? =_:=oy (x.5 _ aD (λbx=>by grind)) (br _ _);have aj:Below (w.1.size+1) Y w4:=Below.grown (below_alloc2 (ow hb (o5 d aA)) aA _ _) x aD (λm h=>by have:=bh m h;omega);obtain⟨g,a4,rfl⟩:=iM a0 aA;have m2:Z w4 ⟨w.1.size+1,2,X⟩=N (U j (M c) l):=fZ e rfl;have fm:=aM e;have H4:qu _:=fE ao (fE e aj);clear a0 x a7 ao e aj o V W q5 bh;have ci:(n:Int)<=(ot B:Int):=by omega
            go_wp2
            have a6:(qt B n (m-T)).1.1=B.1.1.drop n:=by
             rw[ext_list,cK gv]
            have b1:ot (qt B n (m-T))=ot B-n:=by rw[aW,a6,cF,<-aW]
            go_roundg (ot B-n)
            case measure=>omega
            case rel=>
             let⟨ao,e,aj⟩:=H4.out;refine⟨c++[C],T+n,qt B n (m-T),N ⟨g,0,X⟩,a4,R,b1.symm,?_,?_,?_,?_,?_⟩
             .rw[a6,y,dW]
             .exact Im.jN.snoc F gv (by rw[<-y];exact HG)
             .have:=uk e (i:=2) (U (N ⟨g,0,X⟩) (M c+1) a4)
              grind
             .rw[show M (c++[C])=M c+1 from by simp];exact fM.wider (fM.kept ao (λk k1 _=>aR _ _ _ _ aD)) fI ja
             .exact ph aj aC _
       .obtain rfl:=oy p.symm (mD (b:=rb) Q);clear Q d ag ac;go_wp2;refine sd (v:=sh #[we #[rh pi,pk S,U X 0 0],ox pg ((f:Int)+(m:Int)),rh pw]) (by simp[results,X0,go_sem,r,t,u]) R ⟨⟨X,0,by grind,?_⟩,ph (ph (ph A aC _) aC _) aC _⟩;exact Tr.wZ (i:=⟨pi,(s.1.1.take (f+m)).drop f,[]⟩) (fM.none _ _ _ _)
def E7(a):∃s b,xk a=sh #[pk s,rh b]:=by
 cases a with
 |none=>exact⟨_,_,R⟩
 |some c=>exact⟨_,_,R⟩
def xI(s:ByteArray)(w)(hs:ot s<=1048576):tf PQ 95 #[pk s] w λz w'=>Got 10 w.1.size w' z (Im.readDoc s.1.1)/\Below w.1.size w w':=by
 generalize V:Im.readDoc s.1.1=C;have P:qu _:=V;clear V;obtain⟨Zr,l⟩:∃Zr:pn,Zr=o6 w (pj #[rh pi,pk ⟨#[]⟩,U X 0 0] 103):=⟨_,R⟩
 have ag:↑Zr=w.1.size+1:=by rw[l];simp
 have ae:Below ↑w w Zr:=by rw[l];exact pb (aH _ w) fI _
 have ad:Zr.1[w.1.size]? =N (pj #[rh pi,pk ⟨#[]⟩,U X 0 0] 103 (0,0)):=by rw[l];exact sv _ _
 go_enter (fq func95 R),ntmps95;go_wp2;rw[<-l];refine se (J1 10 s 0 Zr aA R) ?_;rintro z w1 ⟨u,D⟩;have s1:=D.4;have I:w1.1[w.1.size]? =N (pj #[rh pi,pk ⟨#[]⟩,U X 0 0] 103 (0,0)):=oy (D.5 _ aA) ad;have H:Below ↑w w w1:=ow ae (o5 D aA);have g:∀o:ZG,(o6 w1 o).1[w.1.size]? =N (pj #[rh pi,pk ⟨#[]⟩,U X 0 0] 103 (0,0)):=λo=>oy (aU _ _ _ aA) I;have y0:∀o:ZG,Z (o6 w1 o) ⟨↑w,0,X⟩=N (rh pi):=λo=>by rw[aG (g o)];rfl
 have y1:∀o:ZG,Z (o6 w1 o) ⟨↑w,1,X⟩=N (pk ⟨#[]⟩):=λo=>by rw[aG (g o)];rfl
 have y2:∀o:ZG,Z (o6 w1 o) ⟨↑w,2,X⟩=N (U X 0 0):=λo=>by rw[aG (g o)];rfl
 have fy:∀(o:ZG)(J:Nat),sk (o6 w1 o) ⟨↑w,J,X⟩=pi:=λo J=>aM (g o) J;clear l;cases b:kE rb 10 s.1.1 with
 |none=>
  rw[b]at u;obtain rfl:C=X:=by rw[<-P.out];unfold Im.readDoc;rw[b]
  obtain rfl:=u;clear b I g;go_wp2;exact sd (v:=sh #[we #[rh pi,pk ⟨#[]⟩,U X 0 0],ox pg 0,rh pi]) (by simp[results,results95,go_sem,y0,y1,y2]) R ⟨R,ph (ph (ph (pb H H.4 _) aC _) aC _) aC _⟩
 |some x=>
  obtain⟨i,n⟩:=x;rw[b]at u;obtain⟨e,f,rfl,d⟩:=u;simp only at d⊢;have af:=mU rP 10 _ _ _ b;rw[<-aW]at af;have aj:=sC rP 10 _ _ _ b;obtain⟨a,A⟩:∃a:ByteArray,(⟨py i.2⟩:ByteArray)=a:=⟨_,R⟩
  have Q:qu _:=A;rw[A]at d⊢;obtain⟨Y,j⟩:∃Y:pn,Y=o6 w1 (pj #[.bool i.1,pk a,U e (M i.3) f] 103):=⟨_,R⟩
  have ah:↑Y=w1.1.size+1:=by rw[j];simp
  have B:Below ↑w1 w1 Y:=by rw[j];exact pb (aH _ _) fI _
  have p:Y.1[w.1.size]? =N (pj #[rh pi,pk ⟨#[]⟩,U X 0 0] 103 (0,0)):=by rw[j];exact g _
  have m:Y.1[w1.1.size]? =N (pj #[.bool i.1,pk a,U e (M i.3) f] 103 (0,0)):=by rw[j];exact sv _ _
  have aa:In ↑w1 Y 10 (.bool i.1) (pk a) (U e (M i.3) f) i:=In.fF B _ _ _ _ _ (Tr.inn 10 _ _ _ _ _ _ fI d);have F:=J9 10 w1.1.size i _ _ _ 0 Y aA aA aA aa;let⟨CS,cb,G⟩:=E7 (Im.code (8-0) i);rw[G]at F;have ac:qu _:=F;have T:qu _:=G;have HG:qu _:=b;have S:qu (_/\_/\Tr _ _ _ _ _ _ _ _):=fE p (fE m d);clear F G b aa p m d A y0 y1 y2 fy g I;go_wp2;rw[<-j];refine aO ac.out ?_;rintro z w3 ⟨rfl,q⟩;let⟨p,m,d⟩:=S.out;have s3:=q.4;have r:=oy (q.5 ↑w aA) p;have v:=oy (q.5 ↑w1 aA) m;have ab:Tr w3 10 Zr.1.size ↑w1 (.bool i.1) (pk a) (U e (M i.3) f) i:=Tr.kept 10 _ _ _ _ _ _ (λk _ c=>oy (q.5 k aA) (B.5 k c)) d;have E:Below ↑w w w3:=ow (ow H (o5 B aA)) (o5 q aA);have o0:Z w3 ⟨↑w1,0,X⟩=N (.bool i.1):=fZ v rfl;have o1:Z w3 ⟨↑w1,1,X⟩=N (pk a):=fZ v rfl;have o2:Z w3 ⟨↑w1,2,X⟩=N (U e (M i.3) f):=fZ v rfl;have K:Z w3 ⟨↑w,0,X⟩=N (rh pi):=fZ r rfl;have L:Z w3 ⟨↑w,1,X⟩=N (pk ⟨#[]⟩):=fZ r rfl;have O:Z w3 ⟨↑w,2,X⟩=N (U X 0 0):=fZ r rfl;have fz:=aM r;have H3:qu (Tr _ _ _ _ _ _ _ _):=ab;have ai:(n:Int)<=(ot s:Int):=aA
  clear j r v ab p m d S;have W:C=if Im.code 8 i=N (s.1.1.take n)then N (i,n)else X:=by rw[<-P.out];unfold Im.readDoc;rw[HG.out]
  have y:qu _:=W;clear W;cases cb with
  |false=>
   obtain rfl:C=X:=by
    rw[y.out,Za];intro h;have:=T.out;rw[Nat.sub_zero,h]at this;simp[xk]at this
   go_wp2;exact sd (v:=sh #[we #[rh pi,pk ⟨#[]⟩,U X 0 0],ox pg 0,rh pi]) (by simp[results,results95,go_sem,K,L,O]) R ⟨R,ph (ph (ph E aC _) aC _) aC _⟩
  |true=>
   have x:Im.code 8 i=N CS.1.1:=by
    have:=T.out;rw[Nat.sub_zero]at this;cases hc:Im.code 8 i with
    |none=>rw[hc]at this;simp[xk]at this
    |some c=>rw[hc]at this;simp[xk]at this;rw[<-this]
   by_cases t:CS=qt s 0 n
   .obtain rfl:C=N (i,n):=by rw[y.out,Zb];rw[x,t,ext_list];rfl
    subst t;go_wp2;refine sd (v:=sh #[we #[.bool i.1,pk a,U e (M i.3) f],ox pg n,rh pw]) (by simp[results,results95,go_sem,K,L,O]) R ⟨⟨e,f,by simp only[Q.out],?_⟩,ph (ph (ph E aC _) aC _) aC _⟩;simp only[Q.out];refine Tr.wider (Tr.kept 10 _ _ _ _ _ _ (λk c _=>?_) H3) aA (by simp[o3];omega);rw[aR _ _ _ _ aD,aR _ _ _ _ aD,aR _ _ _ _ aD]
   .obtain rfl:C=X:=by
     rw[y.out,Za];intro h;rw[x]at h;apply t;apply qaQ;apply Array.toList_inj.1;rw[ext_list];exact jx
    have c:(vz CS == vz (qt s 0 n))=pi:=by
     rw[ByteArray.toList_eq,ByteArray.toList_eq,beq_eq_false_iff_ne];exact λh=>t (qaQ (Array.toList_inj.1 h))
    go_wp2;exact sd (v:=sh #[we #[rh pi,pk ⟨#[]⟩,U X 0 0],ox pg 0,rh pi]) (by simp[results,results95,go_sem,K,L,O]) R ⟨R,ph (ph (ph E aC _) aC _) aC _⟩
def QW(s)(a:M s<4294967296):Im.dec s=match Im.readDoc s with
  |some (i,n)=>if n=M s then N i else X
  |none=>X:=by
 rw[yY s a];rfl
def uQ(s:ByteArray)(w)(I:ot s<=1048576):tf PQ 60 #[pk s] w λz D=>pP 10 w.1.size D z (Im.dec s.1.1)/\Below w.1.size w D:=by
 have hdd:=QW s.1.1 gv;rw[<-aW]at hdd;generalize Im.dec s.1.1=C at hdd⊢;have j:=λW=>xI s W I;generalize Im.readDoc s.1.1=Zs at hdd j;have u:qu _:=hdd;have E:qu _:=j;clear hdd j;obtain⟨Zr,b⟩:∃Zr:pn,Zr=o6 w (pj #[rh pi,pk ⟨#[]⟩,U X 0 0] 103):=⟨_,R⟩
 have K:↑Zr=w.1.size+1:=kq
 have H:Below ↑w w Zr:=by rw[b];exact pb (aH _ w) fI _
 have G:Zr.1[w.1.size]? =N (pj #[rh pi,pk ⟨#[]⟩,U X 0 0] 103 (0,0)):=by rw[b];exact sv _ _
 go_enter (fq func60 R),ntmps60;go_wp2;rw[<-b];refine se (E Zr) ?_;rintro z w1 ⟨A,h⟩;have P:=h.4;have B:w1.1[w.1.size]? =N (pj #[rh pi,pk ⟨#[]⟩,U X 0 0] 103 (0,0)):=oy (h.5 _ aA) G;have a:Below ↑w w w1:=ow H (o5 h aA);have c:∀o:ZG,(o6 w1 o).1[w.1.size]? =N (pj #[rh pi,pk ⟨#[]⟩,U X 0 0] 103 (0,0)):=λo=>oy (aU _ _ _ aA) B;have p:∀o:ZG,Z (o6 w1 o) ⟨↑w,0,X⟩=N (rh pi):=λo=>by rw[aG (c o)];rfl
 have q:∀o:ZG,Z (o6 w1 o) ⟨↑w,1,X⟩=N (pk ⟨#[]⟩):=λo=>by rw[aG (c o)];rfl
 have r:∀o:ZG,Z (o6 w1 o) ⟨↑w,2,X⟩=N (U X 0 0):=λo=>by rw[aG (c o)];rfl
 have J:∀(o:ZG)(m:Nat),sk (o6 w1 o) ⟨↑w,m,X⟩=pi:=λo m=>aM (c o) m;clear b B c;cases Zs with
 |none=>
  obtain rfl:C=X:=u.out;obtain rfl:=A;go_wp2;exact sd (v:=sh #[we #[rh pi,pk ⟨#[]⟩,U X 0 0],ox pg 4]) (by simp[results,results60,go_sem,p,q,r]) R ⟨R,ph (ph (ph (pb a a.4 _) aC _) aC _) aC _⟩
 |some x=>
  obtain⟨i,n⟩:=x;obtain⟨v,y,rfl,e⟩:=A;simp only at e⊢;obtain⟨f,g⟩:∃f:ByteArray,(⟨py i.2⟩:ByteArray)=f:=⟨_,R⟩
  have t:qu _:=g;rw[g]at e⊢;have F:qu (Tr _ _ _ _ _ _ _ _):=e;clear e g;have d:C=if n=ot s then N i else X:=u.out
  by_cases l:n=ot s
  .have L:((n:Int) == (ot s:Int))=pw:=by simp[l]
   obtain rfl:C=N i:=by rw[d,Zb l]
   clear d;go_wp2;refine sd (v:=sh #[we #[.bool i.1,pk f,U v (M i.3) y],ox pg 0]) (by simp[results,results60,go_sem,p,q,r]) R ⟨⟨v,y,by simp only[t.out],?_⟩,ph (ph (ph (pb a a.4 _) aC _) aC _) aC _⟩;simp only[t.out];refine Tr.wider (Tr.kept 10 _ _ _ _ _ _ (λk O x=>?_) F) aA ja;rw[aR _ _ _ _ aD,aR _ _ _ _ aD,aR _ _ _ _ aD,aU _ _ _ x]
  .have k:((n:Int) == (ot s:Int))=pi:=by simp;omega
   obtain rfl:C=X:=by rw[d,Za l]
   clear d;go_wp2;exact sd (v:=sh #[we #[rh pi,pk ⟨#[]⟩,U X 0 0],ox pg 4]) (by simp[results,results60,go_sem,p,q,r]) R ⟨R,ph (ph (ph (pb a a.4 _) aC _) aC _) aC _⟩
end
