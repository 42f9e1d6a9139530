import Derived.Test.YtpibpdpedjinhaaGreatDoorP12
import Derived.Test.YtpibpdpedjinhaaGreatDoorP13
set_option maxRecDepth 100000
set_option maxHeartbeats 16000000
set_option linter.all false
open Array renaming setIfInBounds->qb,size->qd
open Bool renaming false->pi,true->pw
open Eq renaming symm->si,trans->oy
open False renaming elim->sj
open Go renaming Addr->zm,Boxed->Ye,Calls->tf,Code->vy,Exit->qaC,Frame->tg,Item->qbe,Oper->OF,OwnFrom->YM,TypeId->wj,Value->po,World->pn,callsIn_wide->zw,execOp->rj,heap_alloc_new->sv,info_parts->yk,undef->p8
open Go.Act renaming eval->p7,put->td
open Go.Addr renaming add->sf
open Go.Code renaming seq->qv
open Go.DataW renaming trod->ze,trod_int->yn
open Go.Ending renaming returned->qs
open Go.Fence renaming wide->vq
open Go.IntKind renaming i64->pg,u16->XX,u32->sr
open Go.Item renaming inRegion->ri
open Go.Joins renaming block_setCell->uk
open Go.Obj renaming cells->pj,deferred->uu
open Go.Operand renaming tmp->sn
open Go.Proofs.Tryz renaming f12->yq,f39->Yq,prog->px,underlying22->XZ,underlying3->Yp,underlying35->qbi,underlying40->Yl,underlying9->wq
open Go.Region renaming ready->xe,wanted->sy
open Go.RowKit renaming Hid->qu
open Go.RowKit.Below renaming alloc->pb,drew->rk,heap_alloc->vr,mono->o5,setCell->ph,trans->ow
open Go.Value renaming agg->we,bool->rh,int->ox,oneCell'->sw,ownBlock->ov,pointer->pm,slice->U,string->pk,tuple->sh
open Go.Value.slice renaming injEq->ry
open Go.World renaming alloc->o6,cell?->Z,cell?_of_block->qz,putObj->rq,putObj_heap_other->sa,setCell->o3
open List renaming ext_getElem?->qba,length->M,length_eq_zero_iff->tt,mem_flatMap->Ys,range->IS,replicate->Z9,take_add_one->qbc,take_append_drop->YX,toArray->py
open Option renaming none->X,some->N
open Or renaming inl->rr,inr->rz
open Prod renaming fst->p9,snd->Yd
open Go.Proofs.Tryz
namespace Go.Proofs.YtpibpdpedjinhaaGreatDoor
open Dv Fr
namespace Hm
open Dv (Zq)
section
variable {v vu a vw:po}{e s n kb b cnt ep sq:Nat}{xs:List po}{us:List PB}{dl:Nat->List (List UInt8)}{ws:List PW}{o:PC}{nm:AL}{os:List PC}
structure gQ(Zn:Nat->Prop)(w w':pn):Prop where
 size:↑w<=w'.1.size
 block:∀k<w.1.size,¬Zn k->w'.1[k]? =w.1[k]?
section
variable {Zn M':Nat->Prop}{w w' w'':pn}
def fT.h(h:fT Zn w w'):gQ Zn w w':=⟨h.4,h.5⟩
def gQ.trans(h:gQ Zn w w')(b:gQ M' w' w'')(d:∀k<w.1.size,M' k->Zn k):gQ Zn w w'':=
 ⟨aX h.1 b.1,λk a c=>oy (b.2 k (aL a h.1) (λe=>c (d k a e))) (h.2 k a c)⟩
def gQ.mono(h:gQ Zn w w')(b:∀k<w.1.size,Zn k->M' k):gQ M' w w':=⟨h.1,λk a c=>h.2 k a (λe=>c (b k a e))⟩
def gQ.heaps{v c}(h:gQ Zn w w')(e:v.1=w.1)(a:c.1=w'.1):gQ Zn v c:=⟨by rw[e,a];exact h.1,λk b=>by rw[e,a];rw[e]at b;exact h.2 k b⟩
def gQ.fake(h:gQ Zn w w'):∃v,fT Zn w v/\v.1=w'.1:=⟨{ w' with os:=w.4,tape:=w.2,output:=w.5 },⟨R,R,R,h.1,h.2⟩,R⟩
def fM.heap(h:fM w e s v n xs)(q:w'.1=w.1):fM w' e s v n xs:=h.kept (λg _=>by rw[q])
def Rd.heap(h:Rd w s v n xs)(q:w'.1=w.1):Rd w' s v n xs:=h.kept (by grind) (λ_ g _ _=>by rw[q])
def nT.heap{c}(h:nT w kb c vu us dl b a vw ws cnt ep sq)(q:w'.1=w.1):nT w' kb c vu us dl b a vw ws cnt ep sq:=
 ⟨by rw[q];exact h.1,h.2.heap q,h.3.heap q,λj p d=>fM.heap (h.4 j p d) q,λp d=>fM.heap (h.5 p d) q⟩
def jH.heap(h:jH w o)(q:w'.1=w.1):jH w' o:=⟨by rw[q];exact h.1,h.2,h.3,h.4,λe=>by
 have s:=h.5 e;let⟨B,a,b⟩:=s.1;exact⟨⟨B,a,b.of_block (by rw[q])⟩,s.2,s.3,s.4,s.5⟩,h.6⟩
def Chs.heap(h:Chs w b a nm os)(q:w'.1=w.1):Chs w' b a nm os:=⟨h.1.of_block (by rw[q]),h.2.heap q,λo c=>(h.3 o c).heap q,h.4,h.5,h.6,h.7⟩
def lU.heap{u a vl}(h:lU w u a vl)(q:w'.1=w.1):lU w' u a vl:=⟨Rd.heap h.1 q,Rd.heap h.2.1 q,h.2.2⟩
def mG(q:w'.1=w.1)(a):Z w' a=Z w a:=by unfold Z;rw[q]
def iJ.heap(h:iJ w)(q:w'.1=w.1):iJ w':=⟨⟨by rw[mG q];exact h.1.1,by rw[mG q];exact h.1.2.1,by rw[mG q];exact h.1.2.2⟩,⟨by rw[mG q];exact h.2.1,by rw[mG q];exact h.2.2.1,by rw[mG q];exact h.2.2.2⟩⟩
end
end
open Go.RowKit Go.Joins Go.Shelf
open Fr (F fG)
section
variable {Q:qaC->Act->pn->Prop}{d f:Nat}{cs:Array po}{g c:po}{e a:List PC}{w V w':pn}{b:AL}
noncomputable def tX:vy:=match Yq.9 with
 |some (qv c _)=>c
 |_=>.skip
noncomputable def tH:vy:=match Yq.9 with
 |some (qv _ (qv c _))=>c
 |_=>.skip
noncomputable def tP:vy:=match Yq.9 with
 |some (qv _ (qv _ (qv _ (qv c _))))=>c
 |_=>.skip
def JC(u2 u3 P u5 u6 u7 u8 u9 i j k l m n o p q r s t u v x y z A B C D E F G H I J K L O S T V W Y aa ab ac ad ae af ag ah ai aj ak am an ao ap aq ar au av aw ax ay az a0 a1 a2 a3 a4 a5 a6 a7 a8 a9 ba bb bc bd bf bg bh bj bk bl bm bo bp bq br d id g e h f a c b w)(hQ:Q .normal ⟨#[pm (N ⟨d,0,X⟩),we #[ox pg id,ox pg g,U e h f,U a c b],pm (N ⟨w.1.size,0,X⟩),pm (N ⟨w.1.size+1,0,X⟩),P,u5,u6,u7,u8,u9,i,j,k,l,m,n,o,p,q,r,s,t,u,v,x,y,z,A,B,C,D,E,F,G,H,I,J,K,L,O,S,T,V,W,Y,aa,ab,ac,ad,ae,af,ag,ah,ai,aj,ak,am,an,ao,ap,aq,ar,au,av,aw,ax,ay,az,a0,a1,a2,a3,a4,a5,a6,a7,a8,a9,ba,bb,bc,bd,bf,bg,bh,bj,bk,bl,bm,bo,bp,bq,br],[]⟩ (o6 (o6 w (pj #[pm (N ⟨d,0,X⟩)] 93)) (pj #[ox pg id,ox pg g,U e h f,U a c b] 42))):tX.wp PQ Q ⟨#[pm (N ⟨d,0,X⟩),we #[ox pg id,ox pg g,U e h f,U a c b],u2,u3,P,u5,u6,u7,u8,u9,i,j,k,l,m,n,o,p,q,r,s,t,u,v,x,y,z,A,B,C,D,E,F,G,H,I,J,K,L,O,S,T,V,W,Y,aa,ab,ac,ad,ae,af,ag,ah,ai,aj,ak,am,an,ao,ap,aq,ar,au,av,aw,ax,ay,az,a0,a1,a2,a3,a4,a5,a6,a7,a8,a9,ba,bb,bc,bd,bf,bg,bh,bj,bk,bl,bm,bo,bp,bq,br],[]⟩ w:=by
 simp only[tX,Yq];go_wp2;exact hQ
def J6(u4 bk bl bm bo bp b c u V u6 u7 u8 u9 e f g h i j l m n o p q r s t v x y z A B C D E F G H I J K L O P S T W Y aa ab ac ad ae af ag ah ai aj ak am an ao ap aq ar au av aw ax ay az a0 a1 a2 a3 a4 a5 a6 a7 a8 a9 ba bb bc bd bf bg bh bj a d va k vc w)(c2:Z w ⟨a,0,X⟩=N (pm (N ⟨d,0,X⟩)))(c7:Z w ⟨d,7,X⟩=N (U va k vc))(hQ:Q .normal ⟨#[b,c,pm (N ⟨a,0,X⟩),u,pm (N ⟨w.1.size,0,X⟩),V,u6,u7,u8,u9,e,pm (N ⟨d,0,X⟩),pm (N ⟨d,0,X⟩),pm (N ⟨d,7,X⟩),U va k vc,ox pg k,f,g,h,i,j,l,m,n,o,p,q,r,s,t,v,x,y,z,A,B,C,D,E,F,G,H,I,J,K,L,O,P,S,T,W,Y,aa,ab,ac,ad,ae,af,ag,ah,ai,aj,ak,am,an,ao,ap,aq,ar,au,av,aw,ax,ay,az,a0,a1,a2,a3,a4,a5,a6,a7,a8,a9,ba,bb,bc,bd,bf,bg,bh,bj],[]⟩ (o6 w (pj #[ox pg k] 3))):tH.wp PQ Q ⟨#[b,c,pm (N ⟨a,0,X⟩),u,u4,V,u6,u7,u8,u9,e,bk,bl,bm,bo,bp,f,g,h,i,j,l,m,n,o,p,q,r,s,t,v,x,y,z,A,B,C,D,E,F,G,H,I,J,K,L,O,P,S,T,W,Y,aa,ab,ac,ad,ae,af,ag,ah,ai,aj,ak,am,an,ao,ap,aq,ar,au,av,aw,ax,ay,az,a0,a1,a2,a3,a4,a5,a6,a7,a8,a9,ba,bb,bc,bd,bf,bg,bh,bj],[]⟩ w:=by
 simp only[tH,Yq];go_wp2;exact hQ
def wU.from(h:wU d f cs g e V c b a w')(i:Below ↑w w V):wU d f cs g e w c b a w':=
 ⟨h.1,h.2,(fT.fF i fI _).trans h.3 (λ_ _ j=>j),λk l=>(h.4 k l).imp (λj=>j) (λj=>aX i.4 j),h.5⟩
def Ck(I J u3 u5 u6 u7 u8 u9 K L O P S T W Y aa ab ac ad ae af ag ah ai cf cg ch ci cj ck cl cm cn co cp aj ak am an ao ap aq ar au av aw ax ay az a0 a1 a2 a3 a4 a5 a6 a7 a8 a9 ba bb bc bd bf bg bh bj bk bl bm bo bp bq br bs bu bv bw bx bz b0 b1 b3 b5 b6 b7 b8 b9 ca cb)(j l d f n:Nat)(h cs g v e w)(q:w.1[j]? =N (pj #[iq d] 93 (0,0)))(r:w.1[l]? =N (pj #[ox pg n] 3 (0,0)))(m:w.1[d]? =N (pj cs 137 (0,0)))(z:cs[2]? =N (ox pg h))(C:cs[8]? =N (.map (N f)))(D:cs[9]? =N g)(iO:Chs w f g v e)(ce:M e<=4294967296)(hn:n<=4294967296)(c0:0<=h/\h<=4294967296)(E:∀(t x y H cr ct cu cv cw cx cy:po)(k:pn)(c:po)(b:AL)(a:List PC),wU d f cs g e w c b a k->M a<=M e->fS b a=(fS v e).filter (λo=>!decide ((o.2:Int)<n-h))->Q .normal ⟨#[I,J,pm (N ⟨j,0,X⟩),u3,pm (N ⟨l,0,X⟩),u5,u6,u7,u8,u9,K,L,O,P,S,T,W,Y,aa,ab,ac,ad,ae,af,ag,ah,ai,t,x,y,H,cr,ct,cu,cv,cw,cx,cy,aj,ak,am,an,ao,ap,aq,ar,au,av,aw,ax,ay,az,a0,a1,a2,a3,a4,a5,a6,a7,a8,a9,ba,bb,bc,bd,bf,bg,bh,bj,bk,bl,bm,bo,bp,bq,br,bs,bu,bv,bw,bx,bz,b0,b1,b3,b5,b6,b7,b8,b9,ca,cb],[]⟩ k):tP.wp PQ Q ⟨#[I,J,pm (N ⟨j,0,X⟩),u3,pm (N ⟨l,0,X⟩),u5,u6,u7,u8,u9,K,L,O,P,S,T,W,Y,aa,ab,ac,ad,ae,af,ag,ah,ai,cf,cg,ch,ci,cj,ck,cl,cm,cn,co,cp,aj,ak,am,an,ao,ap,aq,ar,au,av,aw,ax,ay,az,a0,a1,a2,a3,a4,a5,a6,a7,a8,a9,ba,bb,bc,bd,bf,bg,bh,bj,bk,bl,bm,bo,bp,bq,br,bs,bu,bv,bw,bx,bz,b0,b1,b3,b5,b6,b7,b8,b9,ca,cb],[]⟩ w:=by
 have cz:IntKind.i64.wrap ((n:Int)-h)=(n:Int)-h:=gj
 have F:∀V,Below ↑w w V->Z V ⟨j,0,X⟩=N (pm (N ⟨d,0,X⟩))/\Z V ⟨l,0,X⟩=N (ox pg n)/\Z V ⟨d,2,X⟩=N (ox pg h):=λV i=>by
  have k:=oy (i.5 _ (fO q)) q;have o:=oy (i.5 _ (fO r)) r;have t:=oy (i.5 _ (fO m)) m;exact⟨by rw[aG k];rfl,by rw[aG o];rfl,by rw[aG t];exact z⟩
 have G:∀V,Below ↑w w V->tf PQ 70 #[pm (N ⟨d,8,X⟩),ox pg ((n:Int)-h)] V λp w'=>p=qs (sh #[])/\(Z w' ⟨j,0,X⟩=N (pm (N ⟨d,0,X⟩))/\Z w' ⟨l,0,X⟩=N (ox pg n)/\Z w' ⟨d,2,X⟩=N (ox pg h))/\qu (∃c b a,wU d f cs g e w c b a w'/\M a<=M e/\fS b a=(fS v e).filter (λk=>!decide ((k.2:Int)<n-h))):=λV i=>by
  refine(Fa d f cs g v e _ V (oy (i.5 _ (fO m)) m) C D (iO.fF i) ce).mono ?_;rintro p w' ⟨rfl,c,b,a,u,A,B⟩;have H:=u.from i
  have far:∀(k:Nat)(x:Array po)(t:Nat)(y:Nat×Nat),w.1[k]? =N (pj x t y)->t≠137->t≠197->t≠201->w'.1[k]? =N (pj x t y):=λk x t y o t1 t2 t3=>oy (H.3.5 k (fO o) (by
   rintro(rfl|p)
   .rw[m]at o;simp at o;exact t1 (si o.2.1)
   .exact iO.iQ o t2 t3 p)) o
  refine⟨R,⟨by rw[aG (far _ _ _ _ q aB aB aB)];rfl,by rw[aG (far _ _ _ _ r aB aB aB)];rfl,?_⟩,c,b,a,H,A,B⟩;rw[aG u.1,aQ];simpa using z
 have HS:qu _:=F;have cc:qu _:=G;have HQ:qu _:=E;clear F G E q r m z C D iO;simp only[tP,Yq];have s:=aH ↑w w;go_region_held3 (λV=>Z V ⟨j,0,X⟩=N (pm (N ⟨d,0,X⟩))/\Z V ⟨l,0,X⟩=N (ox pg n)/\Z V ⟨d,2,X⟩=N (ox pg h)) (first|exact cd|(refine HS _ ?_;first|exact s|exact rk s)) (first|(go_at_call 70;(refine aO (cc _ ?_) ?_;(first|exact rk s|exact s);rintro e5 w5 ⟨rfl,cd,H5⟩)))
 all_goals
  let⟨c,b,a,u,A,B⟩:=H5.out;exact HQ _ _ _ _ _ _ _ _ _ _ _ w5 c b a u A B
end
end Hm
namespace Hm
open Go.RowKit Go.Joins Go.Shelf
open Fr (fG)
open Dv (Zq)
attribute [local go_sem] Oper.semAt_some
variable {Zn B:Nat->Prop}{W W' A w V j:pn}{d b n g:Nat}{l:List Ch}{pre:List (List UInt8)}{cs f:Array po}{m r o a e:po}{q:AL}{s:List PC}{p c i:List PW}{bs:List Ba}
noncomputable def Am:vy:=match Yq.9 with
 |some (qv _ (qv _ (qv _ (qv _ (qv _ c)))))=>c
 |_=>.skip
def Ft(d w):tf PQ 73 #[pm (N ⟨d,8,X⟩)] w λe a=>e=qs (.func (.func 115) #[] #[pm (N ⟨w.1.size,0,X⟩)])/\a=o6 w (pj #[pm (N ⟨d,8,X⟩)] 196):=by go_enter (fq func73 R),ntmps73;go_wp2;go_ret;exact⟨R,R⟩
def wW(S w):tf PQ 74 #[pk S] w λe a=>e=qs (.func (.func 118) #[] #[pm (N ⟨w.1.size,0,X⟩)])/\a=o6 w (pj #[pk S] 9):=by go_enter (fq func74 R),ntmps74;go_wp2;go_ret;exact⟨R,R⟩
def uJ(hc:fT Zn W W')(c:∀k,Zn k->k<W.1.size->∃cs t b,W.1[k]? =N (pj cs t b)):KeepsOthers W W':=⟨hc.4,λk o a d=>oy (hc.5 k (fO a) (λe=>by
 let⟨cs,t,b,q⟩:=c k e (fO a);rw[a]at q;cases q;cases d)) a⟩
def Gs.own(r g S n)(q:1<n):YM n (Gs r g S):=by rintro pre A B row ⟨k,b,l⟩ o s;let⟨Zn,c,m,p⟩:=jD o s;have a:=c.5 1 b.pos (p _ q);obtain⟨⟨d,e,f⟩,h,i,j⟩:=b;exact⟨oy a k,⟨⟨oy (qz a) d,oy (qz a) e,oy (qz a) f⟩,oy (qz a) h,oy (qz a) i,oy (qz a) j⟩,qC l c m⟩
def BY.own(T n h):YM n (λ(q:List BX×BX) W=>BY T q.1 q.2 h W):=by rintro q A B row ⟨a,b,c⟩ f g;let⟨Zn,e,d,i⟩:=jD f g;exact⟨⟨hZ.gE a.1 e d.str,a.2⟩,b,c⟩
def PS.grown{a:pn}(h:PS d b B l pre A cs m q s){row:Option Nat}(j:∀k,B k->k<n)(f:A.grownBy a row)(p:∀r,row=N r->n<=r/\∃o:Obj,A.1[r]? =N o/\o.isCells=pi):PS d b B l pre a cs m q s:=by let⟨Zn,e,c,i⟩:=jD f p;exact h.gE e (c _ _ _ _ h.1) (λk g=>i k (j k g))
def Uc.own(d g b B l o n)(m:∀k,B k->k<n)(hc:g<n):YM n (Uc d g b B l o):=by rintro pre A k row ⟨⟨cs,f⟩,a⟩ c e;have h:=f.grown m c e;let⟨Zn,i,p,j⟩:=jD c e;exact⟨⟨cs,h⟩,oy (qz (i.5 g (cV A _ a) (j g hc))) a⟩
def Uz.own(d b B l n)(f:∀k,B k->k<n):YM n (Uz d b B l):=by rintro pre A h row ⟨cs,m,q,s,a,c⟩ e g;exact⟨cs,m,q,s,a.grown f e g,c⟩
def TJ(d b n:Nat)(w:pn)(cs:Array po)(r:po)(p:List PW)(pre:List PX)(W:pn):=∃o a c,TI d b n w cs r p (pre.map PX.s) W o a c
def TJ.own(d b n w cs r p m)(s:w.1.size<=m):YM m (TJ d b n w cs r p):=by rintro pre A l row ⟨o,a,c,h⟩ g j;let⟨Zn,f,e,i⟩:=jD g j;exact⟨o,a,c,h.kM f e (λk q=>i k aA)⟩
def UJ(d n:Nat)(j:pn)(f:Array po)(a:po)(c:List PW)(pre:List BX)(F:Nat->Prop)(W:pn):=∃e i,UI d n j f a c (pre.map BX.b) W e i/\∀g,ov e=N g->¬F g
def UJ.own(d n j f a c F m)(t:j.1.size<=m):YM m (λpre W=>UJ d n j f a c pre F W):=by rintro pre A r row ⟨e,i,h,b⟩ o q;let⟨Zn,l,g,p⟩:=jD o q;exact⟨e,i,h.kM l g (λk s=>p k aA),b⟩
def TI.base(h:TI d b n V cs r p pre W o a c)(e:Below ↑w w V)(j:b<↑w):TI d b n w cs r p pre W o a c:=
 ⟨h.1,h.2,h.3,h.4,λg i=>(h.5 g i).imp id (λq=>aX e.4 q),(fT.fF e fI _).trans h.6 (λ_ _ f=>f),h.7,j,h.9.mono e.4 fI⟩
def Gs.gE{c S pre o B}(h:Gs c g S pre A)(hc:fT Zn A B)(m:¬Zn 1)(n:¬Zn g):Gs c g S o B:=by have a:=hc.5 1 h.2.1.pos m;obtain⟨l,⟨⟨d,e,f⟩,i,j,k⟩,b⟩:=h;exact⟨oy a l,⟨⟨oy (qz a) d,oy (qz a) e,oy (qz a) f⟩,oy (qz a) i,oy (qz a) j,oy (qz a) k⟩,oy (hc.5 g b.lt n) b⟩
def UI.skip(h:UI d n j f a c bs W e i){b}(g:¬b.1<=n):UI d n j f a c (bs++[b]) W e i:=
 ⟨h.1,h.2,h.3,by rw[qR,Za g,dI];exact h.4,h.5,h.6,h.7⟩
def JI(n l):M (qK n l)<=M l:=by unfold qK;rw[aV];exact dR _ _
end Hm
namespace Hm
open Go.RowKit Go.Joins Go.Shelf
open Fr (fG)
open Dv (Zq)
attribute [local go_sem] Oper.semAt_some
variable {Q:qaC->Act->pn->Prop}
def Gz{u0 u1 u3 u5 u6 u7 u8 u9 d0 bb bc bd bf bg bh bj bk bl bm bo bp bq br bs bu bv bw bx bz b0 b1 b3 b5 b6 b7 b8 b9 ca cb cc cd ce cf cg ch ci cj ck cl cm cn co cp cr ct cu cv cw cx cy cz c0 c1 c3 c5 c6 c7 fl fm fn fo e4 d1 d2 d3 c8 c9 da db dc de df dg dh di dj dk dl dm dn dq:po}(q D a m n:Nat){cs:Array po}(E A:po)(z:AL)(l:List PC)(p:List PW){w:pn}(W:w.1[q]? =N (pj #[iq a] 93 (0,0)))(h4:w.1[D]? =N (pj #[ox pg n] 3 (0,0)))(c:w.1[a]? =N (pj cs 137 (0,0)))(h8:cs[8]? =N (.map (N m)))(h9:cs[9]? =N E)(aj:cs[10]? =N A)(iO:Chs w m E z l)(ff:M l<=4294967296)(a7:fM w 150 5 A (M p) (p.flatMap gG))(e0:∀d∈p,hZ w d.2 d.1.4)(hH:iJ w)(eu:∃hc t v,w.1[1]? =N (pj hc t v)/\t≠137/\t≠150)(ez:∀d,d∈(Dv.pull (fS z l)).1->M d<=4096)(a6:M p+4096*M (Dv.pull (fS z l)).1<4294967296)(hQ:∀(T:Nat)(W':pn)(v9 s:po)(C:List PW)(dt:Array po)(d4:po)(a9:AL)(ba:List PC),TI a m n w cs A p (Dv.pull (fS z l)).1 W' v9 s C->PS a m (Own m E l) (fS z l) (Dv.pull (fS z l)).1 W' dt d4 a9 ba->fS a9 ba=(Dv.pull (fS z l)).2->w.1.size<=T->T<W'.1.size->W'.1[T]? =N (uu (N []))->Q .normal { tmps:=#[u0,u1,pm (N ⟨q,0,X⟩),u3,pm (N ⟨D,0,X⟩),u5,u6,u7,u8,u9,d0,bb,bc,bd,bf,bg,bh,bj,bk,bl,bm,bo,bp,bq,br,bs,bu,bv,bw,bx,bz,b0,b1,b3,b5,b6,b7,b8,b9,ca,cb,cc,cd,ce,cf,cg,ch,ci,cj,ck,cl,cm,cn,co,cp,cr,ct,cu,cv,cw,cx,cy,cz,c0,c1,c3,c5,c6,c7,pm (N ⟨a,0,X⟩),pm (N ⟨a,0,X⟩),pm (N ⟨a,8,X⟩),.func (.func 115) #[] #[pm (N ⟨↑w,0,X⟩)],e4,d1,d2,d3,c8,c9,da,db,dc,de,df,dg,dh,di,dj,dk,dl,dm,dn,dq],defers:=[{ target:=.collected T,args:=#[] }] } W'):Am.wp PQ Q ⟨#[u0,u1,pm (N ⟨q,0,X⟩),u3,pm (N ⟨D,0,X⟩),u5,u6,u7,u8,u9,d0,bb,bc,bd,bf,bg,bh,bj,bk,bl,bm,bo,bp,bq,br,bs,bu,bv,bw,bx,bz,b0,b1,b3,b5,b6,b7,b8,b9,ca,cb,cc,cd,ce,cf,cg,ch,ci,cj,ck,cl,cm,cn,co,cp,cr,ct,cu,cv,cw,cx,cy,cz,c0,c1,c3,c5,c6,c7,fl,fm,fn,fo,e4,d1,d2,d3,c8,c9,da,db,dc,de,df,dg,dh,di,dj,dk,dl,dm,dn,dq],[]⟩ w:=by
 have ay:∀(k:Nat)(u:Array po)(t:Nat)(v:Nat×Nat),w.1[k]? =N (pj u t v)->t≠137->t≠150->¬(k=a\/k=m\/ov A=N k):=by
  rintro k u t v d i o (rfl|rfl|e)
  .rw[c]at d;simp at d;exact i (si d.2.1)
  .exact iB d iO.1 R
  .let⟨r,f⟩:=a7.obj e;rw[d]at f;simp at f;exact o f.2.1
 have ex:=iO.1.lt;have es:=(fO aj)
 have e5:qu (10<qd cs):=es;have fu:=(fO c)
 have d8:=(fO W)
 have eb:=(fO h4)
 have fj:∀g,ov A=N g->g<w.1.size:=λg b=>a7.lt b;have et:=hH.pos;have ey:NC w m:=λu t v e=>iB e iO.1 R
 have ej:TI a m n w cs A p [] w E A []:=by
  refine⟨?_,by simpa using a7,by simpa using e0,R,λg b=>rr b,fT.refl _ _,ey,ex,gK.nil _ _⟩;rw[c]
  congr 2
  apply dG;intro i;simp only[aQ,eV];split
  .rename_i e;subst e
   first
    |exact aj
    |(rw[Zb (fO aj)];exact aj)
  .split
   .rename_i e;subst e
    first
     |exact h9
     |(rw[Zb (fO h9)];exact h9)
   .rfl
 have dr:qu (∀k,Own m E l k->k<w.1.size):=λk x=>iO.iX x;have eh:PS a m (Own m E l) (fS z l) [] w cs E z l:=⟨c,h8,h9,iO,ff,aC,λk x=>x⟩
 obtain⟨V,hV,Y,-⟩:=fL w #[pm (N ⟨a,8,X⟩)] 196;have fr:↑V=w.1.size+1:=by rw[hV];simp
 have eo:Z V ⟨↑w,0,X⟩=N (pm (N ⟨a,8,X⟩)):=by
  have:V.1[w.1.size]? =N (pj #[pm (N ⟨a,8,X⟩)] 196 (0,0)):=by rw[hV];exact sv _ _
  rw[aG this];rfl
 have ad:=ej.kM (.fF Y fI _) (λ_ _ _ _ _ e=>e) (λ_ _ e=>e);have ek:TI a m n V cs A p [] V E A []:=⟨ad.1,ad.2,ad.3,ad.4,λg b=>rr b,fT.refl _ _,ad.7,aA,gK.nil _ _⟩
 have ei:=eh.fF Y;have c2:Z w ⟨q,0,X⟩=N (pm (N ⟨a,0,X⟩)):=kZ W;have n2:=ay q _ _ _ W aB aB;have n4:=ay D _ _ _ h4 aB aB
 have nh:¬(1=a\/1=m\/ov A=N 1):=by
  obtain⟨u,t,v,d,f,i⟩:=eu;exact ay _ _ _ _ d f i
 have d7:=oy (Y.5 q d8) W;have ea:=oy (Y.5 D eb) h4;have ef:=hH.fF Y et;have j:qu _:=fE (fE n2 (fE n4 nh)) (fE ez (fE a6 (fE hQ (fE ek (fE ei (fE d7 (fE ea (fE ef (fE Y eo)))))))));clear ay ez a6 hQ ej ek ad eh ei W h4 hH eu eo Y n2 n4 nh d7 ea ef c h8 h9 aj iO a7 e0 ey es;simp only[Am,Yq];refine(wpIn_wide (n:=3)).1 ?_;gi_wp2;refine⟨trivial,(zw.2 (Ft a w)).mono ?_⟩;rintro e w2 ⟨rfl,rfl⟩;gi_wp2;rw[<-hV];clear hV
 refine sO (gf:=115) (lb:=#[.pointer _]) R (enters_of (fq func115 R) Zm R)
  (Dd a _ m _ _ ⟨[],E,z,l⟩ aA aA) (by rintro k (rfl|rfl)<;>omega) (λd B i o f h=>h.put o aA) (Uc.own _ _ _ _ _ _ _ (λk x=>(by have:=dr k x;omega)) aA) (Uz.own _ _ _ _ _ (λk x=>(by have:=dr k x;omega))) (λlo=>by
   rintro⟨pre,o⟩ d f row h b i;exact Uc.own _ _ _ _ _ _ _ (λk x=>(by have:=dr k x;omega)) aA (pre++[o]) d f row h b i) (λ_=>R)
  _ (λ_ _ _=>False) (TJ.own _ _ _ _ _ _ _ _ aA) (λ_ _ _ _ _ h=>sj h) ⟨E,A,[],j.2.2.2.2.1⟩ ⟨⟨cs,j.2.2.2.2.2.1⟩,j.2.2.2.2.2.2.2.2.2.2⟩
  (λd _=>⟨#[u0,u1,pm (N ⟨q,0,X⟩),u3,pm (N ⟨D,0,X⟩),u5,u6,u7,u8,pk ⟨py d.1⟩,d0,bb,bc,bd,bf,bg,bh,bj,bk,bl,bm,bo,bp,bq,br,bs,bu,bv,bw,bx,bz,b0,b1,b3,b5,b6,b7,b8,b9,ca,cb,cc,cd,ce,cf,cg,ch,ci,cj,ck,cl,cm,cn,co,cp,cr,ct,cu,cv,cw,cx,cy,cz,c0,c1,c3,c5,c6,c7,pm (N ⟨a,0,X⟩),pm (N ⟨a,0,X⟩),pm (N ⟨a,8,X⟩),.func (.func 115) #[] #[pm (N ⟨↑w,0,X⟩)],pk ⟨py d.1⟩,d1,d2,d3,c8,c9,da,db,dc,de,df,dg,dh,di,dj,dk,dl,dm,dn,dq],[]⟩) _ (λ_ _ _ _=>R) (λ_ _=>fI) (λ_ _ _ _ _=>R) ?assign ?body ?done ?stop
 case assign=>
  intro f i d K hK;simp only[PX.encs];gi_wp2;exact hK
 case body=>
  rintro e1 pre H W0 f fx fy ⟨ga,hr⟩ ⟨v9,s,C,L⟩ hc hE ⟨⟨e7,r⟩,af⟩;rw[oS]at r;let⟨aq,d⟩:=L.turn hc hE (λu t v e=>iB e r.4.1 R)
  have ag:e7=qb (qb cs 9 aq) 10 s:=by
   have i:=r.1;rw[d.1]at i;simp at i;exact si i
  have ai:=r.6;have dx:(Dv.pull (fS z l)).1=(pre++[H]).map PX.s++(Dv.pull (fS H.3 H.4)).1:=by rw[ai]
  have fk:=j.2.1 H.1 (by rw[dx,aZ];simp);have dy:M pre+1<=M (Dv.pull (fS z l)).1:=by rw[dx];simp
  have f8:=d.6.4;have f6:=L.6.4;have ak:=oy (d.6.5 q aA j.1.1) j.2.2.2.2.2.2.1;have am:=oy (d.6.5 D aA j.1.2.1) j.2.2.2.2.2.2.2.1;have P:=d.6.5 _ aA j.1.2.2
  have eg:iJ f:=by
   obtain⟨⟨i,o,y⟩,G,J,a5⟩:=j.2.2.2.2.2.2.2.2.1;exact⟨⟨oy (qz P) i,oy (qz P) o,oy (qz P) y⟩,oy (qz P) G,oy (qz P) J,oy (qz P) a5⟩
  have a8:∀k<w.1.size,¬(k=a\/k=m\/ov A=N k)->¬(k=a\/ov s=N k):=λk fw x e=>by
   obtain e|e:=e
   .exact x (rr e)
   .obtain i|i:=d.5 k e
    .exact x (rz (rz i))
    .omega
  have f2:=a8 q d8 j.1.1;have f4:=a8 D eb j.1.2.1;have fh:=a8 _ et j.1.2.2;obtain⟨S,hS⟩:∃S:ByteArray,(⟨py H.1⟩:ByteArray)=S:=⟨_,R⟩
  have an:S.1.1=H.1:=by rw[<-hS]
  have fa:S.size<=4096:=by rw[<-hS];show qd (py H.1)<=4096;rw[bZ];exact fk
  obtain⟨Xw,av,O,-⟩:=fL f #[pk S] 9;have fs:↑Xw=f.1.size+1:=by rw[av];simp
  have ep:Ye Xw ↑f 9 (pk S):=by unfold Ye;rw[av];exact sv _ _
  have fd:=oy (O.5 e1 (fO hr)) hr;have em:UI a n f (qb (qb cs 9 aq) 10 s) s (p++C) [] Xw s []:=⟨by rw[nG];exact oy (O.5 a aA) d.1,by simpa using d.2.fF O,λo i=>fM.fF (d.3 o (by simpa using i)) O,R,λg b=>rr b,.fF O fI _,gK.nil _ _⟩
  have au:Gs (V.1[1]?) ↑f S [] Xw:=⟨oy (O.5 _ aA) P,eg.fF O aA,ep⟩
  have I:qu _:=fE L (fE d (fE r (fE af (fE ag (fE em (fE au (fE ak (fE am (fE f2 (fE f4 (fE fh (fE dy an))))))))))));clear L d r af ag em au ak am f2 f4 fh dy ai dx P eg a8 ep hc hE hr O an;rw[hS];gi_wp2;refine⟨trivial,(CallsIn.inRound _ (zw.2 (wW S f))).mono ?_⟩;rintro e w3 ⟨rfl,rfl⟩;gi_wp2;rw[<-av];clear av
  refine zK fd (gf:=118) (lb:=#[pm (N ⟨↑f,0,X⟩)]) R (enters_of (fq func118 R) Zm R) (vU (V.1[1]?) ↑f S fa) (Gs.own _ _ _ _ aA) (λlo=>BY.own _ _ lo) (λ_=>R)
   (λpre F i=>UJ a n f (qb (qb cs 9 aq) 10 s) s (p++C) pre F i/\Gs (V.1[1]?) ↑f S pre i) (λ_ _ _ _=>False) (λF=>(UJ.own _ _ _ _ _ _ F _ aA).and (Gs.own _ _ _ _ aA)) (λ_ _ _ _ _ _ h=>sj h) ⟨⟨s,[],I.2.2.2.2.2.1,λ_ _ e=>e⟩,I.2.2.2.2.2.2.1⟩ I.2.2.2.2.2.2.1
   (λy B=>⟨#[u0,u1,pm (N ⟨q,0,X⟩),u3,pm (N ⟨D,0,X⟩),u5,u6,u7,u8,pk S,pm (N ⟨B,0,X⟩),bb,bc,bd,bf,bg,bh,bj,bk,bl,bm,bo,bp,bq,br,bs,bu,bv,bw,bx,bz,b0,b1,b3,b5,b6,b7,b8,b9,ca,cb,cc,cd,ce,cf,cg,ch,ci,cj,ck,cl,cm,cn,co,cp,cr,ct,cu,cv,cw,cx,cy,cz,c0,c1,c3,c5,c6,c7,pm (N ⟨a,0,X⟩),pm (N ⟨a,0,X⟩),pm (N ⟨a,8,X⟩),.func (.func 115) #[] #[pm (N ⟨↑w,0,X⟩)],pk S,pk S,.func (.func 118) #[] #[pm (N ⟨↑f,0,X⟩)],we #[ox pg y.1.1,ox pg y.1.2,ox pg y.1.3,U y.2 (M y.1.4) y.3,ox pg y.1.5],c8,c9,da,db,dc,de,df,dg,dh,di,dj,dk,dl,dm,dn,dq],[]⟩) (λy=>pj #[ox pg y.1.1,ox pg y.1.2,ox pg y.1.3,U y.2 (M y.1.4) y.3,ox pg y.1.5] 150) ?iassign ?ibody ?idone ?istop
  case iassign=>
   intro e1 H i K hK;simp only[BX.encs];gi_wp2;exact hK
  case ibody=>
   rintro lb dz y F ds i dv f0 ⟨rb,f3⟩ hF ⟨⟨ab,ac,hU,ew⟩,ec⟩ ax ⟨ah,ai,pp,aw⟩;have ao:=hU.kM ax (λk u t v c e=>e.2 u t v c) (λk c e=>by have:=(hF k e.1).1;omega);obtain⟨L,d,r,af,ag,_,au,ak,am,f2,f4,fh,dy,an⟩:=I.out;let⟨G,hG,gb,gk⟩:=fL i #[ox pg y.1.1,ox pg y.1.2,ox pg y.1.3,U y.2 (M y.1.4) y.3,ox pg y.1.5] 150;rw[<-hG];have gs:↑G=i.1.size+1:=by rw[hG];simp
   let⟨k0,k1,k2,k3,k4,kf⟩:=gV gk;have o:=ao.kM (.fF gb fI _) (λ_ _ _ _ _ e=>e) (λ_ _ e=>e);have f5:=ao.6.4;have ar:=oy (o.6.5 q aA f2) ak;have d9:=oy (o.6.5 D aA f4) am;have c4:=kZ d9;have f9:D≠i.1.size:=aA
   have ed:Gs (V.1[1]?) ↑f S dz i:=ec.gE ax (λe=>by have:=(hF _ e.1).1;omega) (λe=>by have:=(hF _ e.1).1;omega);have J:Gs (V.1[1]?) ↑f S dz G:=ed.gE (.fF gb fI (λ_=>False)) (λe=>e) (λe=>e);have f7:f.1.size+1<ds.1.size:=aA
   have fg:=ax.4
   have az:gK ↑f ↑i ((ac++[(({ y.1 with place:=n }:Ba),U y.2 (M y.1.4) y.3)]).map Yd):=by
    rw[aZ];exact hU.7.append (gK.one' λg b=>⟨ah.2 g b,fM.lt ah.1 b⟩) aA fg
   have ap:∀g,ov ab=N g->g<ds.1.size:=λg b=>hU.2.lt b
   have aa:∀g,ov ab=N g->¬rC F ds i g:=λg b e=>by
    obtain e|e:=e
    .exact ew g b e
    .have:=ap g b;omega
   have el:qu _:=fE o (fE J (fE aa (fE ap (fE ar (fE gk (fE ah (fE aw (fE ao (fE ai (fE hF (fE gb az)))))))))));clear hU ao o J ed ec ax ah aw aa L d r af ag au ak am gk ar d9 hG ap ew ai hF gb az;have e6:qu _:=dv;clear dv;by_cases er:y.1.1<=n
   .have ft:(y.1.1:Int)<=n:=by omega
    gi_wp2;refine wpIn_region_any Zm ?_;change wpAnyIn _ _ _ _ _ _ _ _ _ (World.drew _);have dv:=e6.out;let⟨o,J,aa,ap,ar,gk,ah,aw,ao,ai,hF,gb,az⟩:=el.out;have ae:fT (λk=>k=i.1.size) G (o3 G ⟨↑i,4,X⟩ (ox pg n)).drew:=(fT.set G _ 4 _).trans (fT.drew _ _) (λ_ _ e=>e);have e8:(o3 G ⟨↑i,4,X⟩ (ox pg n)).drew.1[i.1.size]? =N (pj (py (bt y.1.1 y.1.2 y.1.3 y.2 (M y.1.4) y.3 n)) 150 (0,0)):=gI gk 4 _;have du:=o.1;have dw:ov ab≠N i.1.size:=λe=>by have:=ap _ e;omega
    have fc:a≠i.1.size:=aA
    have fb:=e5.out
    have a6:M (p++C++ac)<4294967296:=by
     have q1:=j.2.2.1;have q2:=Zf M I.2.1.4;rw[aV]at q2;have q3:=qX n (pre.map PX.s);rw[aV]at q3;have q4:=Zf M o.4;rw[aV]at q4;have q5:=JI n (dz.map BX.b);have q6:=aw.le;rw[aV]at q5;rw[aZ,aN,aV]at q6
     have q7:M (textOf S.1.1)<=4096:=by
      have:=lJ (M S.1.1) S.1.1 4096 [] (by simp only[bH];omega);unfold textOf;omega
     have q8:=I.2.2.2.2.2.2.2.2.2.2.2.2.1;simp only[cL,dB,aP,bH]at q6;simp only[aN];omega
    have e9:RB (o3 G ⟨↑i,4,X⟩ (ox pg n)).drew q ↑i a (M (p++C++ac)) ab ((p++C++ac).flatMap gG) (qb (qb (qb cs 9 aq) 10 s) 10 ab) y.1.1 y.1.2 y.1.3 y.2 (M y.1.4) y.3 n:=
     ⟨oy (ae.5 q aA aA) ar,oy (ae.5 a (fO du) fc) du,by rw[aQ];simp[fb],e8,o.2.gE ae (λg b e=>dw (by rw[b,e])),dw,a6⟩
    refine KQ (l:=lb) (m:=1) e9 R R R ?_;intro a' g e2 d5 wz hr b;have fi:hZ G (U y.2 (M y.1.4) y.3) y.1.4:=fM.fF ah.1 gb;have fe:=o.more er fi (b10:=i.1.size) aA dw ⟨_,gk⟩ ae (az.mono fI aA) hr b;have hM:fT (λk=>(ov ab=N k\/k=i.1.size)\/k=a) G (o3 wz ⟨a,10,X⟩ (U (N ⟨g,e2,X⟩) (M (p++C++ac)+1) d5)):=(((ae.mono (λk _ e=>rr (rz e))).trans (fT.alloc (λ_=>False) _ _) (λ_ _ e=>sj e)).trans b.gE (λk _ e=>rr (rr e))).trans (fT.set wz a 10 _) (λk _ e=>rz e);have d6:=I.2.2.2.2.2.2.2.2.2.2.2.1
    have ee:∀pr,Gs (V.1[1]?) ↑f S pr (o3 wz ⟨a,10,X⟩ (U (N ⟨g,e2,X⟩) (M (p++C++ac)+1) d5)):=λpr=>J.gE hM (by
     rintro((e|e)|e)
     .obtain e3|e3:=o.5 _ e
      .exact d6 (rz e3)
      .omega
     .omega
     .exact d6 (rr e)) (by
     rintro((e|e)|e)
     .exact fK o.2 J.2.2 aB e
     .omega
     .omega)
    refine⟨(uJ hM (λk c _=>?_)).from _,ee _,λk c=>hM.5 k ?_ ?_,⟨_,_,by rw[aZ];exact fe,?_⟩,ee _⟩
    .obtain(e|rfl)|rfl:=c
     .let⟨fp,e3⟩:=o.2.obj e;exact⟨_,_,_,e3⟩
     .exact⟨_,_,_,gk⟩
     .exact⟨_,_,_,du⟩
    .obtain e|e:=c
     .have:=(hF k e).2;omega
     .omega
    .rintro((e|e)|e)
     .exact aa k e c
     .obtain e3|e3:=c
      .have:=(hF k e3).2;omega
      .omega
     .obtain e3|e3:=c
      .have:=(hF k e3).1;omega
      .omega
    .intro e3 hq e;have hq:g=e3:=by simpa[ov]using hq
     subst hq;obtain r1|r1:=b.own
     .exact aa g r1 e
     .have r2:(o3 G ⟨↑i,4,X⟩ (ox pg n)).drew.1.size+1<=g:=by simpa using r1
      have r3:=ae.4;obtain e|e:=e
      .have:=(hF g e).2;omega
      .omega
   .have ae:¬(y.1.1:Int)<=n:=by omega
    gi_wp2;obtain⟨o,J,aa,_⟩:=el.out;refine⟨KeepsFrom.refl _ _,J.gE (fT.refl (λ_=>False) _) (λe=>e) (λe=>e),λ_ _=>R,⟨ab,ac,?_,aa⟩,J.gE (fT.refl (λ_=>False) _) (λe=>e) (λe=>e)⟩;rw[aZ];exact o.skip er
  case idone=>
   rintro xs F ao Wb hF ⟨ar,ab,aa⟩ ⟨⟨y,ah,hU,_⟩,_⟩ ac;have i:=hU.kM ac (λk u t v c e=>e.2 u t v c) (λk c e=>by have:=(hF k e.1).1;omega);obtain⟨L,d,r,af,ag,_,_,_,_,_,_,_,_,an⟩:=I.out
   have ae:qK n (xs.map BX.b)=Dv.reads H.1 n:=by
    have:=ab.all aa n;rw[an]at this;unfold Dv.reads;exact si this
   have J:=d.more i ae
   have G:=r.UE (v:=y) (by rw[ag];exact i.1) i.6 (λk c e=>by
    obtain e|e:=e
    .exact r.4.iQ r.1 aB aB (e ▸ c)
    .exact r.4.Jj d.2 e c)
   refine⟨(uJ i.6 (λk c _=>?_)).from _,⟨⟨_,by rw[oS];exact G⟩,?_⟩,λk h1 W=>i.6.5 k W ?_,aq,y,C++ah,by rw[aZ];exact J⟩
   .obtain rfl|e:=c
    .exact⟨_,_,_,d.1⟩
    .let⟨ap,o⟩:=d.2.obj e;exact⟨_,_,_,o⟩
   .refine oy (qz (i.6.5 ↑w aA ?_)) af;rintro(e|e)
    .omega
    .obtain o|o:=d.5 _ e
     .have:=fj _ o;omega
     .omega
   .rintro(e|e)
    .omega
    .have:=L.2.lt e;omega
  case istop=>
   rintro u y F i o _ _ h;exact sj h
 case done=>
  rintro T L H i I J _ ⟨v9,s,C,r⟩ hc o ⟨dt,d4,a9,ba,d,y,F⟩ hK;let⟨G,f⟩:=r.turn hc o (λu t v e=>iB e d.4.1 R);rw[F]at f d;exact j.2.2.2.1 T i G s C dt d4 a9 ba (f.base j.2.2.2.2.2.2.2.2.2.1 ex) d y aA (fO hK) hK
 case stop=>
  rintro T u pre f d i o _ h;exact sj h
end Hm
namespace Hm
open Go.RowKit Go.Joins Go.Shelf
open Fr (F fG)
open Dv (Zq)
section
variable {Q:qaC->Act->pn->Prop}
noncomputable def takeB:vy:=match Yq.9 with
 |some (qv _ (qv _ (qv _ (qv _ (qv (qv _ c) _)))))=>c
 |_=>.skip
def BN(u0 u1 u3 u5 u6 u7 u8 u9 a1 a2 a3 a4 a5 a6 a7 a8 a9 ba bb bc bd bf bg bh bj bk bl bm bo bp bq br bs bu bv bw bx bz b0 b1 b3 b5 c6 c7 c8 c9 da db dc de df dg dh di dj dk dl dm dn dq dr ds dt du b6 b7 b8 b9 ca cb cc cd ce cf cg ch ci cj ck cl cm cn co cp cr ct cu cv)(x y a o n C m:Nat)(c cs vs e s b fs w)(J:w.1[x]? =N (pj #[iq a] 93 (0,0)))(K:w.1[y]? =N (pj #[ox pg n] 3 (0,0)))(l:w.1[a]? =N (pj cs 137 (0,0)))(h6:cs[6]? =N (ox pg c))(h8:cs[8]? =N (.map (N o)))(B:cs[9]? =N e)(iO:Chs w o e s b)(L:w.1[C]? =N (pj vs 76 (0,0)))(d0:qd vs=m)(ay:∀i<m,∃v,vs[i]? =N v/\uK w v (fs i))(aq:∀i f,i<m->f∈fs i->f.2<65536/\M f.3<=65536)(hm:m<=16777216)(T:∀i,M (fs i)<=16777216)(aw:M b+M (jc fs m)<=4294967295)(c1:0<=c/\c<=4294967296)(hQ:∀(V x8 p q r u z A D E F H I O P S Y aa ab ac ad af ah ai aj:po)(f:pn)(j:po)(h:AL)(i:List PC),BI a o w cs e b ((jc fs m).foldl (Dv.frame c n) (fS s b)) (M (jc fs m)) f j h i->Q .normal ⟨#[u0,u1,pm (N ⟨x,0,X⟩),u3,pm (N ⟨y,0,X⟩),u5,V,u7,x8,u9,a1,a2,a3,a4,a5,a6,a7,a8,a9,ba,bb,bc,bd,bf,bg,bh,bj,bk,bl,bm,bo,bp,bq,br,bs,bu,bv,bw,bx,bz,b0,b1,b3,b5,U (N ⟨C,0,X⟩) m m,ox pg m,p,q,r,u,z,A,D,E,F,H,I,O,P,S,Y,aa,ab,ac,ad,af,ah,ai,aj,b6,b7,b8,b9,ca,cb,cc,cd,ce,cf,cg,ch,ci,cj,ck,cl,cm,cn,co,cp,cr,ct,cu,cv],[]⟩ f):takeB.wp PQ Q ⟨#[u0,u1,pm (N ⟨x,0,X⟩),u3,pm (N ⟨y,0,X⟩),u5,u6,u7,u8,u9,a1,a2,a3,a4,a5,a6,a7,a8,a9,ba,bb,bc,bd,bf,bg,bh,bj,bk,bl,bm,bo,bp,bq,br,bs,bu,bv,bw,bx,bz,b0,b1,b3,b5,U (N ⟨C,0,X⟩) m m,ox pg m,ox pg 0,c6,c7,c8,c9,da,db,dc,de,df,dg,dh,di,dj,dk,dl,dm,dn,dq,dr,ds,dt,du,b6,b7,b8,b9,ca,cb,cc,cd,ce,cf,cg,ch,ci,cj,ck,cl,cm,cn,co,cp,cr,ct,cu,cv],[]⟩ w:=by
 have ap:qb cs 9 e=cs:=by
  apply dG;intro i;simp only[aQ];split
  .rename_i f;subst f
   first
    |exact si B
    |(rw[Zb (fO B)];exact si B)
  .rfl
 have ak:BI a o w cs e b ((jc fs 0).foldl (Dv.frame c n) (fS s b)) (M (jc fs 0)) w e s b:=⟨by rw[ap];exact l,iO,fT.refl _ _,λk l=>rr l,by simp[jc],R⟩
 have G:∀(k:Nat)(ag:Array po)(t:Nat)(fz:Nat×Nat),w.1[k]? =N (pj ag t fz)->t≠137->t≠197->t≠201->¬(k=a\/Own o e b k):=by
  rintro k ag t fz f i j p (rfl|h)
  .rw[l]at f;simp at f;exact i (si f.2.1)
  .exact iO.iQ f j p h
 have av:∀W,fT (λk=>k=a\/Own o e b k) w W->W.1[x]? =N (pj #[iq a] 93 (0,0))/\W.1[y]? =N (pj #[ox pg n] 3 (0,0))/\W.1[C]? =N (pj vs 76 (0,0))/\∀v ae,uK w v ae->uK W v ae:=λW hc=>⟨oy (hc.5 _ (fO J) (G _ _ _ _ J aB aB aB)) J,oy (hc.5 _ (fO K) (G _ _ _ _ K aB aB aB)) K,oy (hc.5 _ (fO L) (G _ _ _ _ L aB aB aB)) L,λv ae h=>h.imp id (λ⟨g,i,j,p,f,q⟩=>⟨g,i,j,p,oy (hc.5 g (fO f) (G _ _ _ _ f aB aB aB)) f,q⟩)⟩
 have d:qu _:=fE ak (fE av (fE ay (fE aq (fE aw (fE hQ (fE h6 (fE h8 T)))))));have H9:qu (cs[9]? =N e):=B;clear ak av ay aq aw hQ h6 h8 T J K l B iO L ap G;simp only[takeB,Yq];go_wp2;go_loopg [46] m (λf t wr=>∃(i:Nat)(p:po)(h:AL)(j:List PC),i<=m/\t=ox pg i/\f=m-i/\qu (BI a o w cs e b ((jc fs i).foldl (Dv.frame c n) (fS s b)) (M (jc fs i)) wr p h j))
 case atStart=>exact⟨0,e,s,b,bU _,R,R,d.1⟩
 case round=>
  obtain⟨i,dv,c2,c4,hi,rfl,rfl,HI⟩:=hrel;by_cases ac:i<m
  .have dz:(i:Int)<m:=by omega
   let⟨v,hv,ab⟩:=d.2.2.1 i ac;let⟨va,vc,ad⟩:=ab.slice;have l:=d.2.1 wr HI.3;have cC:Z wr ⟨C,i,X⟩=N (U va (M (fs i)) vc):=by rw[aG l.2.2.1,hv,ad]
   have T:=d.2.2.2.2.2.2.2.2 i;obtain⟨p,hN⟩:∃p,M (fs i)=p:=⟨_,R⟩
   rw[hN]at cC T;have I:qu _:=fE hN (fE ab ad);clear hv ab ad l hN;go_wp2;go_loopg [52] p (λf t u=>∃(j:Nat)(r:po)(h:AL)(q:List PC),j<=p/\t=ox pg j/\f=p-j/\qu (BI a o w cs e b ((jc fs i++(fs i).take j).foldl (Dv.frame c n) (fS s b)) (M (jc fs i++(fs i).take j)) u r h q))
   case atStart=>exact⟨0,dv,c2,c4,bU _,R,R,by rw[List.take_zero,dI];exact HI⟩
   case round=>
    rename_i d1;obtain⟨j,z,a0,af,hj,rfl,rfl,H⟩:=hrel;by_cases cz:j<p
    .have dy:(j:Int)<p:=by omega
     obtain⟨f,S⟩:∃f,(fs i)[j]? =N f:=⟨_,aK (by rw[I.out.1];exact cz)⟩
     have l:=d.2.1 wr H.3;let⟨g,dx,q,k0,k1,k2,k3⟩:=(l.2.2.2 v (fs i) I.2.1).at S;rw[I.out.2.2]at q;simp only[ry,true_and]at q;obtain⟨rfl,rfl⟩:=q;obtain⟨u,am⟩:∃u:ByteArray,(⟨py f.3⟩:ByteArray)=u:=⟨_,R⟩
     rw[am]at k2;let⟨Zr,hX,an,E⟩:=fL wr #[ox sr f.1,ox XX f.2,pk u,.bool f.4] 81;have O:↑wr<Zr.1.size:=(fO E)
     have D:=H.fF an;have F:=d.2.1 Zr D.3
     have ax:M af<=4294967295:=by
      have A:=H.5;have q2:=d.2.2.2.2.1;have Y:=LH fs (show i+1<=m from ac);rw[ru,aN]at Y;rw[aN,bA]at A;omega
     have ar:=d.2.2.2.1 i f ac (aS S);have ai:(qb cs 9 z)[8]? =N (.map (N o)):=by rw[aQ];simpa using d.2.2.2.2.2.2.2.1
     have ah:(qb cs 9 z)[6]? =N (ox pg c):=by rw[aQ];simpa using d.2.2.2.2.2.2.1
     have aj:(qb cs 9 z)[9]? =N z:=by
      obtain⟨A,_⟩:=cH.1 H9.out;rw[aQ];simp[A]
     have hS:∀V,Below ↑Zr Zr V->Z V ⟨x,0,X⟩=N (pm (N ⟨a,0,X⟩))/\Z V ⟨y,0,X⟩=N (ox pg n)/\Z V ⟨a,6,X⟩=N (ox pg c)/\Z V ⟨↑wr,0,X⟩=N (ox sr f.1)/\Z V ⟨↑wr,1,X⟩=N (ox XX f.2)/\Z V ⟨↑wr,2,X⟩=N (pk u)/\Z V ⟨↑wr,3,X⟩=N (.bool f.4):=λV r=>by
      have Y:=oy (r.5 _ (fO F.1)) F.1;have q4:=oy (r.5 _ (fO F.2.1)) F.2.1;have qk:=oy (r.5 _ (fO D.1)) D.1;have A:=oy (r.5 _ O) E;exact⟨by rw[aG Y];rfl,by rw[aG q4];rfl,by rw[aG qk];exact ah,nz,nz,nz,nz⟩
     have ao:∀V,Below ↑Zr Zr V->tf PQ 72 #[pm (N ⟨a,8,X⟩),we #[ox sr f.1,ox XX f.2,pk u,.bool f.4],ox pg n,ox pg c] V λq h=>q=qs (sh #[])/\(Z h ⟨x,0,X⟩=N (pm (N ⟨a,0,X⟩))/\Z h ⟨y,0,X⟩=N (ox pg n)/\Z h ⟨a,6,X⟩=N (ox pg c)/\Z h ⟨↑wr,0,X⟩=N (ox sr f.1)/\Z h ⟨↑wr,1,X⟩=N (ox XX f.2)/\Z h ⟨↑wr,2,X⟩=N (pk u)/\Z h ⟨↑wr,3,X⟩=N (.bool f.4))/\qu (∃aa A Y,BI a o w cs e b ((jc fs i++(fs i).take (j+1)).foldl (Dv.frame c n) (fS s b)) (M (jc fs i++(fs i).take (j+1))) h aa A Y):=λV r=>by
      have A:=D.fF r;have ht:=take_any a o (qb cs 9 z) z a0 af f n c V A.1 ai aj A.2 ax ar c1;unfold CY at ht;rw[am]at ht;refine ht.mono ?_;rintro q h ⟨rfl,dw,c3,c5,az,cy⟩
      have aa:=A.took az (l':=(jc fs i++(fs i).take (j+1)).foldl (Dv.frame c n) (fS s b)) (by
       rw[cy,A.6,take_snoc S];simp only[List.foldl_append,List.foldl_cons,List.foldl_nil])
      have au:=d.2.1 h aa.3
      have Y:h.1[wr.1.size]? =_:=oy (az.3.5 ↑wr (aL O r.4) (by
       have qV:=oy (r.5 _ O) E;rintro(q|q)
       .have:=A.1;rw[<-q,qV]at this;simp at this
       .exact A.2.iQ qV aB aB q)) (oy (r.5 _ O) E)
      refine⟨R,⟨by rw[aG au.1];rfl,by rw[aG au.2.1];rfl,?_,by rw[aG Y];rfl,by rw[aG Y];rfl,by rw[aG Y];rfl,by rw[aG Y];rfl⟩,dw,c3,c5,?_⟩
      .rw[aG aa.1,aQ];simpa using d.2.2.2.2.2.2.1
      .have c0:M (jc fs i++(fs i).take (j+1))=M (jc fs i++(fs i).take j)+1:=by
        rw[take_snoc S];simp only[aN,dZ];omega
       rw[c0];exact aa
     have HS:qu _:=hS;have cw:qu _:=ao;clear hS ao ar ax D F E an l ai ah aj;go_upto_region 10 with fail;rw[<-hX];clear hX k0 k1 k2 k3;have P:=aH ↑Zr Zr;go_region_held3 (λV=>Z V ⟨x,0,X⟩=N (pm (N ⟨a,0,X⟩))/\Z V ⟨y,0,X⟩=N (ox pg n)/\Z V ⟨a,6,X⟩=N (ox pg c)/\Z V ⟨↑wr,0,X⟩=N (ox sr f.1)/\Z V ⟨↑wr,1,X⟩=N (ox XX f.2)/\Z V ⟨↑wr,2,X⟩=N (pk u)/\Z V ⟨↑wr,3,X⟩=N (.bool f.4)) (first|exact cx|(refine HS _ ?_;first|exact P|exact rk P)) (first|(go_at_call 72;(refine aO (cw _ ?_) ?_;(first|exact rk P|exact P);rintro e5 w5 ⟨rfl,cx,H5⟩)))
     all_goals
      go_wp2;go_roundg (p-(j+1))
      case measure=>omega
      case rel=>
       let⟨au,Y,aa,A⟩:=H5.out;exact⟨j+1,au,Y,aa,aA,by go_num,R,A⟩
    .have f:¬(j:Int)<p:=by omega
     obtain rfl:j=p:=aA
     go_wp2;go_roundg (m-(i+1))
     case measure=>omega
     case rel=>
      refine⟨i+1,z,a0,af,aA,by go_num,R,?_⟩;have q:=H;rw[cK (by rw[I.out.1];exact fI),<-ru]at q;exact q
  .have f:¬(i:Int)<m:=by omega
   obtain rfl:i=m:=aA
   go_wp2;exact d.2.2.2.2.2.1 _ _ _ _ _ _ _ _ _ _ _ _ _ _ _ _ _ _ _ _ _ _ _ _ _ _ _ _ _ HI.out
end
open Dv (Zq)
section
variable {v:po}{d k t m:Nat}{fz:Nat×Nat}
noncomputable def ops2:Array OF:=match Yq.9 with
 |some (qv _ (qv _ (qv (.region _ ops _) _)))=>ops
 |_=>#[]
def TZ:∀q0 q1 q2 q3 q4 q5 q6 q7 q8 q9 q10 q11:Bool,xe .any ops2 #[q0,q1,q2,q3,q4,q5,q6,q7,q8,q9,q10,q11]=[]->q11=pw:=gz
def EG(q0 q1 q2 q3 q4 q5 q6 q7 q8 q9 q10 q11:Bool)(i:Nat):Bool:=decide (i<12/\(i=2->q1=pw)/\(i=3->q2=pw)/\(i=4->q3=pw/\q4=pi)/\(i=6->q5=pw/\q6=pi)/\(i=7->q6=pw/\q7=pi)/\(i=8->q4=pw/\q7=pw/\q8=pi)/\(i=9->q0=pw)/\(i=10->q9=pw)/\(i=11->q10=pw/\q8=pw/\q11=pi))
def vT:∀q2 q3 q4 q5 q6 q7 q8 q9 q10 q11:Bool,(xe .any ops2 #[pw,pw,q2,q3,q4,q5,q6,q7,q8,q9,q10,q11]).all (EG pw pw q2 q3 q4 q5 q6 q7 q8 q9 q10 q11)=pw:=gz
def uj:∀q2 q3 q4 q5 q6 q7 q8 q9 q10 q11:Bool,(xe .any ops2 #[pw,pi,q2,q3,q4,q5,q6,q7,q8,q9,q10,q11]).all (EG pw pi q2 q3 q4 q5 q6 q7 q8 q9 q10 q11)=pw:=gz
def tu:∀q2 q3 q4 q5 q6 q7 q8 q9 q10 q11:Bool,(xe .any ops2 #[pi,pw,q2,q3,q4,q5,q6,q7,q8,q9,q10,q11]).all (EG pi pw q2 q3 q4 q5 q6 q7 q8 q9 q10 q11)=pw:=gz
def sF:∀q2 q3 q4 q5 q6 q7 q8 q9 q10 q11:Bool,(xe .any ops2 #[pi,pi,q2,q3,q4,q5,q6,q7,q8,q9,q10,q11]).all (EG pi pi q2 q3 q4 q5 q6 q7 q8 q9 q10 q11)=pw:=gz
def Ve:∀q0 q1 q2 q3 q4 q5 q6 q7 q8 q9 q10 q11:Bool,(xe .any ops2 #[q0,q1,q2,q3,q4,q5,q6,q7,q8,q9,q10,q11]).all (EG q0 q1 q2 q3 q4 q5 q6 q7 q8 q9 q10 q11)=pw
 |true,pw=>vT
 |true,pi=>uj
 |false,pw=>tu
 |false,pi=>sF
section
variable {n:Nat}{P:Program}{ops:Array OF}{Q:qaC->Act->pn->Prop}{i:Nat}{o:OF}{K:Act->pn->Prop}{a:Act}{w w':pn}
def iV(c:ops[i]? =N o)(b:o.6=X)(d:(rj (p7 a) o).run P w=.ok (.value v) w')(hK:K (a.put o.1 v) w'):wpOpIn vq n P ops Q i K a w:=by unfold wpOpIn;rw[c];dsimp only;rw[Zb (by simp[sy,b])];refine⟨λ_ _=>trivial,?_⟩;rw[show Oper.semAt vq.4 (p7 a) o=rj (p7 a) o from R,d];exact hK
def BV(c:ops[i]? =N o)(b:o.6=X)(d:(rj (p7 a) o).run P w=.ok .skip w')(hK:K (a.put o.1 p8) w'):wpOpIn vq n P ops Q i K a w:=by unfold wpOpIn;rw[c];dsimp only;rw[Zb (by simp[sy,b])];refine⟨λ_ _=>trivial,?_⟩;rw[show Oper.semAt vq.4 (p7 a) o=rj (p7 a) o from R,d];exact hK
def BK{f args b}(j:ops[i]? =N o)(d:o.6=X)(k:(rj (p7 a) o).run P w=.ok (.enter f args) w)(hc:tf P f args w b)(c:∀e w',b e w'->∃v,e=qs v/\K (a.put o.1 v) w'):wpOpIn vq n P ops Q i K a w:=by unfold wpOpIn;rw[j];dsimp only;rw[Zb nu];refine⟨λ_ _=>trivial,?_⟩;rw[show Oper.semAt vq.4 (p7 a) o=rj (p7 a) o from R,k];refine⟨λh=>oj,(zw.2 hc).mono ?_⟩;intro e w' h;obtain⟨v,rfl,g⟩:=c e w' h;exact g
end
def fJ{a:Act}{u}(b:d≠k)(h:a.1[k]? =N u):(a.put (N d) v).1[k]? =N u:=by rw[Cv,Za b];exact h
def pI{a:Act}(b:d<qd a.1):(a.put (N d) v).1[d]? =N v:=by rw[Cv,Zb R,Zb b]
def jU{a:Act}:qd (a.put (N d) v).1=qd a.1:=by unfold td;simp
def Fw:(PQ.info? 139).map (λi=>(i.8,i.3,i.4))=N (N (we #[ox pg 0,ox pg 0,U X 0 0]),3,40):=Zm
structure UB(W:pn)(b2 b3 b4 kb n:Nat)(vu:po)(xs:List po)(u:Zq)(ta:Option zm)(tn tc:Nat)(la:Option zm)(ln lc:Nat)(cs:Array po):Prop where
 h2:W.1[b2]? =N (pj #[iq kb] 93 (0,0))
 h3:W.1[b3]? =N (pj #[ox pg u.1,ox pg u.2,U ta tn tc,U la ln lc] 42 (0,0))
 hk:W.1[kb]? =N (pj cs 137 (0,0))
 hw:cs[7]? =N vu
 row:fM W 139 3 vu n xs
 len:n<4294967296
 up:lU W u (U ta tn tc) (U la ln lc)
 logs:∀x∈u.4,M x<=16777216
 heads:iJ W
structure UR(W:pn)(b2 b3 b4 kb n:Nat)(vu:po)(xs:List po)(u:Zq)(ta:Option zm)(tn tc:Nat)(la:Option zm)(ln lc:Nat)(q0 q1 q2 q3 q4 q5 q6 q7 q8 q9 q10 q11:Bool)(a:Act)(w:pn):Prop where
 sz:qd a.1=93
 t2:a.1[2]? =N (iq b2)
 t3:a.1[3]? =N (iq b3)
 t4:a.1[4]? =N (iq b4)
 s0:q0=pw->a.1[16]? =N (iq kb)
 s1:q1=pw->a.1[17]? =N (iq kb)
 s2:q2=pw->a.1[18]? =N (iq kb)
 s3:q3=pw->a.1[19]? =N (pm (N ⟨kb,7,X⟩))
 s4:q4=pw->a.1[20]? =N (vu)
 s5:q5=pw->a.1[21]? =N (uN u (U ta tn tc) (U la ln lc))
 s9:q9=pw->a.1[25]? =N (iq kb)
 s10:q10=pw->a.1[26]? =N (pm (N ⟨kb,7,X⟩))
 wA:q6=pi->w=W
 wB:q6=pw->q7=pi->∃da dc,Below ↑W W w/\jk w ↑W (U da (M (fV u)) dc) (fV u)/\a.1[22]? =N (we #[ox pg u.1,ox pg u.2,U da (M (fV u)) dc])
 wC:q7=pw->q8=pi->∃da dc w6,Below ↑W W w6/\jk w6 ↑W (U da (M (fV u)) dc) (fV u)/\w=o6 w6 (pj #[ox pg u.1,ox pg u.2,U da (M (fV u)) dc] 139)/\a.1[23]? =N (U (N ⟨↑w6,0,X⟩) 1 1)
 wD:q8=pw->∃da dc w6 g off cap w1,Below ↑W W w6/\jk w6 ↑W (U da (M (fV u)) dc) (fV u)/\fM w1 139 3 (U (N ⟨g,off,X⟩) (n+1) cap) (n+1) (xs++[ox pg u.1,ox pg u.2,U da (M (fV u)) dc])/\jC vu g (o6 w6 (pj #[ox pg u.1,ox pg u.2,U da (M (fV u)) dc] 139)) w1/\a.1[24]? =N (U (N ⟨g,off,X⟩) (n+1) cap)/\w=if q11=pw then o3 w1 ⟨kb,7,X⟩ (U (N ⟨g,off,X⟩) (n+1) cap)else w1
 c7:q7=pw->q6=pw
 c8:q8=pw->q4=pw/\q7=pw
 c11:q11=pw->q8=pw
section
variable {W:pn}{b2 b3 b4 kb n:Nat}{vu:po}{xs:List po}{u:Zq}{ta:Option zm}{tn tc:Nat}{la:Option zm}{ln lc:Nat}{cs:Array po}{q0 q1 q2 q3 q4 q5 q6 q7 q8 q9 q10 q11:Bool}{a:Act}{w:pn}
def UB.low(p:UB W b2 b3 b4 kb n vu xs u ta tn tc la ln lc cs)(h:UR W b2 b3 b4 kb n vu xs u ta tn tc la ln lc q0 q1 q2 q3 q4 q5 q6 q7 q8 q9 q10 q11 a w){c}(b:W.1[k]? =N (pj c t fz))(d:t≠137\/q8=pi)(q:t≠139):w.1[k]? =N (pj c t fz):=by
 have e:=(fO b)
 cases m:q6 with
 |false=>rw[h.13 m];exact b
 |true=>
  cases o:q7 with
  |false=>
   obtain⟨g,i,f,_⟩:=h.14 m o;exact oy (f.5 k e) b
  |true=>
   cases i:q8 with
   |false=>
    obtain⟨g,j,l,f,_,hw,_⟩:=h.15 o i;rw[hw];exact oy (aU _ _ _ (aL e f.4)) (oy (f.5 k e) b)
   |true=>
    obtain⟨x,y,s,g,A,v,w1,j,_,z,r,_,hw⟩:=h.16 i;have l:=r.keep ((p.5.fF j).fF (pb (aH _ s) fI _)) (oy (aU _ _ _ (aL e j.4)) (oy (j.5 k e) b)) q;rw[hw];split
    .refine oy (aR _ _ _ _ (λf=>?_)) l;obtain d|d:=d
     .have f:k=kb:=f;rw[f,p.3]at b;simp at b;exact d (si b.2.1)
     .rw[i]at d;cases d
    .exact l
def QK{Q}(b:UB W b2 b3 b4 kb n vu xs u ta tn tc la ln lc cs)(ab:qd a.1=93)(ac:a.1[2]? =N (iq b2))(ad:a.1[3]? =N (iq b3))(ae:a.1[4]? =N (iq b4))(P:∀c d e f g j i w1,qd c.1=93->c.1[2]? =N (iq b2)->c.1[3]? =N (iq b3)->c.1[4]? =N (iq b4)->c.2=a.2->Below ↑W W f->jk f ↑W (U d (M (fV u)) e) (fV u)->fM w1 139 3 (U (N ⟨g,j,X⟩) (n+1) i) (n+1) (xs++[ox pg u.1,ox pg u.2,U d (M (fV u)) e])->jC vu g (o6 f (pj #[ox pg u.1,ox pg u.2,U d (M (fV u)) e] 139)) w1->Q .normal c (o3 w1 ⟨kb,7,X⟩ (U (N ⟨g,j,X⟩) (n+1) i))):wpAnyIn vq m PQ .any ops2 Q 12 (Array.replicate 12 pi) a W:=by
 let⟨i0,V,af,ag,ah⟩:=yk Fw;let⟨y,z,x⟩:=b.5.slice;refine pK (λL c w=>c.2=a.2/\∃q0 q1 q2 q3 q4 q5 q6 q7 q8 q9 q10 q11,L=#[q0,q1,q2,q3,q4,q5,q6,q7,q8,q9,q10,q11]/\UR W b2 b3 b4 kb n vu xs u ta tn tc la ln lc q0 q1 q2 q3 q4 q5 q6 q7 q8 q9 q10 q11 c w) ?_ ?_ 12 _ a W aB ⟨R,pi,pi,pi,pi,pi,pi,pi,pi,pi,pi,pi,pi,R,?_⟩
 .rintro L o w ⟨k,q0,q1,q2,q3,q4,q5,q6,q7,q8,q9,q10,q11,rfl,h⟩ l;have c:=TZ q0 q1 q2 q3 q4 q5 q6 q7 q8 q9 q10 q11 l;let⟨q,r,v,g,t,p,w1,d,e,f,i,s,j⟩:=h.16 (h.19 c);rw[j,Zb c];exact P _ _ _ _ _ _ _ _ h.1 h.2 h.3 h.4 k d e f i
 .rintro L a' w i ⟨c,q0,q1,q2,q3,q4,q5,q6,q7,q8,q9,q10,q11,rfl,h⟩ v;have hn:=Zg (cU.1 (Ve q0 q1 q2 q3 q4 q5 q6 q7 q8 q9 q10 q11) i v);have D:=b.low h b.1 (rr aB) aB;have O:=b.low h b.2 (rr aB) aB;obtain⟨Y,H,I,B,r,k,f,J,G,j⟩:=hn
  match i,Y with
  |0,_=>
   obtain⟨o,A,C,s,t⟩:∃o,ops2[0]? =N o/\o.2=.load 93 (sn 2)/\o.1=N 16/\o.6=X:=⟨_,R,R,R,R⟩
   have hc:=kZ D;unfold iq at hc
   refine iV (v:=pm (N ⟨kb,0,X⟩)) (w':=w) A t (by
    unfold rj;simp only[C,gN h.2,iq];simp[go_sem,hc]) ?_
   rw[s];exact⟨c,pw,q1,q2,q3,q4,q5,q6,q7,q8,q9,q10,q11,R,⟨jj,fJ aB h.2,fJ aB h.3,fJ aB h.4,λ_=>pI (d:=16) gw,λe=>fJ aB (h.6 e),λe=>fJ aB (h.7 e),λe=>fJ aB (h.8 e),λe=>fJ aB (h.9 e),λe=>fJ aB (h.10 e),λe=>fJ aB (h.11 e),λe=>fJ aB (h.12 e),h.13,λe d=>gr,λe d=>gp,λe=>aF,h.17,h.18,h.19⟩⟩
  |1,_=>
   obtain⟨o,A,C,s,t⟩:∃o,ops2[1]? =N o/\o.2=.load 93 (sn 2)/\o.1=N 17/\o.6=X:=⟨_,R,R,R,R⟩
   have hc:=kZ D;unfold iq at hc
   refine iV (v:=pm (N ⟨kb,0,X⟩)) (w':=w) A t (by
    unfold rj;simp only[C,gN h.2,iq];simp[go_sem,hc]) ?_
   rw[s];exact⟨c,q0,pw,q2,q3,q4,q5,q6,q7,q8,q9,q10,q11,R,⟨jj,fJ aB h.2,fJ aB h.3,fJ aB h.4,λe=>fJ aB (h.5 e),λ_=>pI (d:=17) gw,λe=>fJ aB (h.7 e),λe=>fJ aB (h.8 e),λe=>fJ aB (h.9 e),λe=>fJ aB (h.10 e),λe=>fJ aB (h.11 e),λe=>fJ aB (h.12 e),h.13,λe d=>gr,λe d=>gp,λe=>aF,h.17,h.18,h.19⟩⟩
  |2,_=>
   obtain⟨o,A,C,s,t⟩:∃o,ops2[2]? =N o/\o.2=.nilCheck (sn 17)/\o.1=N 18/\o.6=X:=⟨_,R,R,R,R⟩
   refine iV (v:=pm (N ⟨kb,0,X⟩)) (w':=w) A t (by
    unfold rj;simp only[C,gN (h.6 (H R)),iq];simp[go_sem]) ?_
   rw[s];exact⟨c,q0,q1,pw,q3,q4,q5,q6,q7,q8,q9,q10,q11,R,⟨jj,fJ aB h.2,fJ aB h.3,fJ aB h.4,λe=>fJ aB (h.5 e),λe=>fJ aB (h.6 e),λ_=>pI (d:=18) gw,λe=>fJ aB (h.8 e),λe=>fJ aB (h.9 e),λe=>fJ aB (h.10 e),λe=>fJ aB (h.11 e),λe=>fJ aB (h.12 e),h.13,λe d=>gr,λe d=>gp,λe=>aF,h.17,h.18,h.19⟩⟩
  |3,_=>
   obtain⟨o,A,C,s,t⟩:∃o,ops2[3]? =N o/\o.2=.fieldAddr 137 (sn 18) 1/\o.1=N 19/\o.6=X:=⟨_,R,R,R,R⟩
   refine iV (v:=pm (N ⟨kb,7,X⟩)) (w':=w) A t (by
    unfold rj;simp only[C,gN (h.7 (I R)),iq];simp[go_sem]) ?_
   rw[s];exact⟨c,q0,q1,q2,pw,q4,q5,q6,q7,q8,q9,q10,q11,R,⟨jj,fJ aB h.2,fJ aB h.3,fJ aB h.4,λe=>fJ aB (h.5 e),λe=>fJ aB (h.6 e),λe=>fJ aB (h.7 e),λ_=>pI (d:=19) gw,λe=>fJ aB (h.9 e),λe=>fJ aB (h.10 e),λe=>fJ aB (h.11 e),λe=>fJ aB (h.12 e),h.13,λe d=>gr,λe d=>gp,λe=>aF,h.17,h.18,h.19⟩⟩
  |4,_=>
   obtain⟨o,E,F,t,A⟩:∃o,ops2[4]? =N o/\o.2=.load 134 (sn 19)/\o.1=N 20/\o.6=X:=⟨_,R,R,R,R⟩
   have l:q8=pi:=by
    cases l:q8 with
    |false=>rfl
    |true=>have:=(h.18 l).1;rw[(B R).2]at this;cases this
   have C:=b.low h b.3 (rz l) aB;have hc:Z w ⟨kb,7,X⟩=N (U y n z):=by rw[aG C,b.4,x]
   refine iV (v:=U y n z) (w':=w) E A (by
    unfold rj;simp only[F,gN (h.8 (B R).1)];simp[go_sem,hc]) ?_
   rw[t];exact⟨c,q0,q1,q2,q3,pw,q5,q6,q7,q8,q9,q10,q11,R,⟨jj,fJ aB h.2,fJ aB h.3,fJ aB h.4,λe=>fJ aB (h.5 e),λe=>fJ aB (h.6 e),λe=>fJ aB (h.7 e),λe=>fJ aB (h.8 e),λ_=>(by rw[x];exact pI (d:=20) gw),λe=>fJ aB (h.10 e),λe=>fJ aB (h.11 e),λe=>fJ aB (h.12 e),h.13,λe d=>(by let⟨p,q,s,K,S⟩:=h.14 e d;exact⟨p,q,s,K,fJ aB S⟩),λe d=>(by let⟨p,q,w6,s,K,S,T⟩:=h.15 e d;exact⟨p,q,w6,s,K,S,fJ aB T⟩),λe=>(by let⟨q,s,w6,g,K,p,w1,S,T,r3,r4,r5,r6⟩:=h.16 e;exact⟨q,s,w6,g,K,p,w1,S,T,r3,r4,fJ aB r5,r6⟩),h.17,λe=>⟨R,(h.18 e).2⟩,h.19⟩⟩
  |5,_=>
   obtain⟨o,K,S,E,F⟩:∃o,ops2[5]? =N o/\o.2=.load 42 (sn 3)/\o.1=N 21/\o.6=X:=⟨_,R,R,R,R⟩
   let⟨l,p,q,s⟩:=iP O
   refine iV (v:=we #[ox pg u.1,ox pg u.2,U ta tn tc,U la ln lc]) (w':=w) K F (by
    unfold rj;simp only[S,gN h.3,iq];simp[go_sem,l,p,q,s]) ?_
   rw[E];exact⟨c,q0,q1,q2,q3,q4,pw,q6,q7,q8,q9,q10,q11,R,⟨jj,fJ aB h.2,fJ aB h.3,fJ aB h.4,λe=>fJ aB (h.5 e),λe=>fJ aB (h.6 e),λe=>fJ aB (h.7 e),λe=>fJ aB (h.8 e),λe=>fJ aB (h.9 e),λ_=>pI (d:=21) gw,λe=>fJ aB (h.11 e),λe=>fJ aB (h.12 e),h.13,λe d=>(by let⟨t,A,C,T,r3⟩:=h.14 e d;exact⟨t,A,C,T,fJ aB r3⟩),λe d=>(by let⟨t,A,w6,C,T,r3,r4⟩:=h.15 e d;exact⟨t,A,w6,C,T,r3,fJ aB r4⟩),λe=>(by let⟨A,C,w6,g,T,t,w1,r1,r2,r3,r4,r5,r6⟩:=h.16 e;exact⟨A,C,w6,g,T,t,w1,r1,r2,r3,r4,fJ aB r5,r6⟩),h.17,h.18,h.19⟩⟩
  |6,_=>
   obtain⟨o,K,S,C,E⟩:∃o,ops2[6]? =N o/\o.2=.call { callee:=.value (.func 69),args:=#[sn 21],argTypes:=#[42] }/\o.1=N 22/\o.6=X:=⟨_,R,R,R,R⟩
   have d:q7=pi:=by
    cases d:q7 with
    |false=>rfl
    |true=>have:=h.17 d;rw[(r R).2]at this;cases this
   have l:q8=pi:=by
    cases l:q8 with
    |false=>rfl
    |true=>have:=(h.18 l).2;rw[d]at this;cases this
   have hw:=h.13 (r R).2;subst hw;have p:=h.10 (r R).1;unfold uN at p;have q:=Ez u _ _ w b.7 b.8 b.9;unfold uN at q
   refine BK (f:=69) (args:=#[.agg _]) K E (by
    unfold rj;simp only[S];simp[resolve,invoke,p,p7,go_sem]) q ?_
   rintro e w' ⟨s,t,rfl,F,A⟩;refine⟨_,R,?_⟩;rw[C];exact⟨c,q0,q1,q2,q3,q4,q5,pw,q7,q8,q9,q10,q11,R,⟨jj,fJ aB h.2,fJ aB h.3,fJ aB h.4,λe=>fJ aB (h.5 e),λe=>fJ aB (h.6 e),λe=>fJ aB (h.7 e),λe=>fJ aB (h.8 e),λe=>fJ aB (h.9 e),λe=>fJ aB (h.10 e),λe=>fJ aB (h.11 e),λe=>fJ aB (h.12 e),λe=>(by cases e),λ_ _=>⟨s,t,A,F,pI (d:=22) gw⟩,λe=>(by rw[d]at e;cases e),λe=>(by rw[l]at e;cases e),λ_=>R,h.18,h.19⟩⟩
  |7,_=>
   obtain⟨o,t,A,q,s⟩:∃o,ops2[7]? =N o/\o.2=.buildSlice 134 1 #[(0,sn 22)]/\o.1=N 23/\o.6=X:=⟨_,R,R,R,R⟩
   let⟨l,p,C,E,F⟩:=h.14 (k R).1 (k R).2
   have d:q8=pi:=by
    cases d:q8 with
    |false=>rfl
    |true=>have:=(h.18 d).2;rw[(k R).2]at this;cases this
   refine iV (v:=U (N ⟨↑w,0,X⟩) 1 1) (w':=o6 w (pj #[ox pg u.1,ox pg u.2,U l (M (fV u)) p] 139)) t s (by
    unfold rj;simp only[A];simp[go_sem,F]) ?_
   rw[q];exact⟨c,q0,q1,q2,q3,q4,q5,q6,pw,q8,q9,q10,q11,R,⟨jj,fJ aB h.2,fJ aB h.3,fJ aB h.4,λe=>fJ aB (h.5 e),λe=>fJ aB (h.6 e),λe=>fJ aB (h.7 e),λe=>fJ aB (h.8 e),λe=>fJ aB (h.9 e),λe=>fJ aB (h.10 e),λe=>fJ aB (h.11 e),λe=>fJ aB (h.12 e),λe=>(by rw[(k R).1]at e;cases e),λ_ e=>(by cases e),λ_ _=>⟨l,p,w,C,E,R,pI (d:=23) gw⟩,λe=>(by rw[d]at e;cases e),λ_=>(k R).1,λe=>⟨(h.18 e).1,R⟩,h.19⟩⟩
  |8,_=>
   obtain⟨o,ho,aa,K,S⟩:∃o,ops2[8]? =N o/\o.2=.call { callee:=.builtin .append,args:=#[sn 20,sn 23],argTypes:=#[134,134] }/\o.1=N 24/\o.6=X:=⟨_,R,R,R,R⟩
   let⟨l,p,q,F,r2,r3,r4⟩:=h.15 (f R).2.1 (f R).2.2
   have t:q11=pi:=by
    cases t:q11 with
    |false=>rfl
    |true=>have:=h.19 t;rw[(f R).2.2]at this;cases this
   subst r3;obtain⟨v',w1,v,r5,⟨g,E,A,rfl⟩,r6⟩:=((b.5.fF F).fF (pb (aH _ q) fI (pj #[ox pg u.1,ox pg u.2,U l (M (fV u)) p] 139))).append (P:=PQ) 134 o.3 i0 _ 40 (uq underlying134) V af ag ah (by rfl) aB ⟨↑q,0,X⟩ 1 1 [ox pg u.1,ox pg u.2,U l (M (fV u)) p] aB (by rfl) (by intro e u d;match e,d with|0,d=>(simp at d;subst d;simp[sf])|1,d=>(simp at d;subst d;simp[sf])|2,d=>(simp at d;subst d;simp[sf])) (by intro u d;simp at d;rcases d with rfl|rfl|rfl<;>rfl) (by have:=b.6;exact aE) (by have:=b.6;omega)
   have T:jC vu g (o6 q (pj #[ox pg u.1,ox pg u.2,U l (M (fV u)) p] 139)) w1:=by
    obtain⟨d,e,s⟩|⟨d,e,s⟩:=r6
    .have C:ov vu=N g:=si d;exact rr ⟨C,by rw[<-C];exact e,s⟩
    .exact rz ⟨by simpa[ov]using d,e,s⟩
   refine iV (v:=U (N ⟨g,E,X⟩) (n+1) A) (w':=w1) ho S (by
    unfold rj;simp only[aa];simp[resolve,invoke,builtin,gN (h.9 (f R).1),gN r4,v,Result.andThen]) ?_
   rw[K];exact⟨c,q0,q1,q2,q3,q4,q5,q6,q7,pw,q9,q10,q11,R,⟨jj,fJ aB h.2,fJ aB h.3,fJ aB h.4,λe=>fJ aB (h.5 e),λe=>fJ aB (h.6 e),λe=>fJ aB (h.7 e),λe=>fJ aB (h.8 e),λe=>fJ aB (h.9 e),λe=>fJ aB (h.10 e),λe=>fJ aB (h.11 e),λe=>fJ aB (h.12 e),λe=>(by rw[h.17 (f R).2.1]at e;cases e),λ_ e=>(by rw[(f R).2.1]at e;cases e),λ_ e=>(by cases e),λ_=>⟨l,p,q,g,E,A,w1,F,r2,r5,T,pI (d:=24) gw,by rw[Za (by rw[t];simp)]⟩,h.17,λ_=>⟨(f R).1,(f R).2.1⟩,λ_=>R⟩⟩
  |9,_=>
   obtain⟨o,A,C,s,t⟩:∃o,ops2[9]? =N o/\o.2=.nilCheck (sn 16)/\o.1=N 25/\o.6=X:=⟨_,R,R,R,R⟩
   refine iV (v:=pm (N ⟨kb,0,X⟩)) (w':=w) A t (by
    unfold rj;simp only[C,gN (h.5 (J R)),iq];simp[go_sem]) ?_
   rw[s];exact⟨c,q0,q1,q2,q3,q4,q5,q6,q7,q8,pw,q10,q11,R,⟨jj,fJ aB h.2,fJ aB h.3,fJ aB h.4,λe=>fJ aB (h.5 e),λe=>fJ aB (h.6 e),λe=>fJ aB (h.7 e),λe=>fJ aB (h.8 e),λe=>fJ aB (h.9 e),λe=>fJ aB (h.10 e),λ_=>pI (d:=25) gw,λe=>fJ aB (h.12 e),h.13,λe d=>gr,λe d=>gp,λe=>aF,h.17,h.18,h.19⟩⟩
  |10,_=>
   obtain⟨o,A,C,s,t⟩:∃o,ops2[10]? =N o/\o.2=.fieldAddr 137 (sn 25) 1/\o.1=N 26/\o.6=X:=⟨_,R,R,R,R⟩
   refine iV (v:=pm (N ⟨kb,7,X⟩)) (w':=w) A t (by
    unfold rj;simp only[C,gN (h.11 (G R)),iq];simp[go_sem]) ?_
   rw[s];exact⟨c,q0,q1,q2,q3,q4,q5,q6,q7,q8,q9,pw,q11,R,⟨jj,fJ aB h.2,fJ aB h.3,fJ aB h.4,λe=>fJ aB (h.5 e),λe=>fJ aB (h.6 e),λe=>fJ aB (h.7 e),λe=>fJ aB (h.8 e),λe=>fJ aB (h.9 e),λe=>fJ aB (h.10 e),λe=>fJ aB (h.11 e),λ_=>pI (d:=26) gw,h.13,λe d=>gr,λe d=>gp,λe=>aF,h.17,h.18,h.19⟩⟩
  |11,_=>
   obtain⟨o,ho,aa,S,T⟩:∃o,ops2[11]? =N o/\o.2=.store 134 (sn 26) (sn 24)/\o.1=X/\o.6=X:=⟨_,R,R,R,R⟩
   let⟨F,K,E,g,s,l,w1,d,r2,r3,t,A,C⟩:=h.16 (j R).2.1;rw[Za (by rw[(j R).2.2];simp)]at C;subst C;have q:=t.keep ((b.5.fF d).fF (pb (aH _ E) fI _)) (oy (aU _ _ _ (aL (fO b.3) d.4)) (oy (d.5 _ (fO b.3)) b.3)) aB;have hc:Z w ⟨kb,7,X⟩=N (U y n z):=by rw[aG q,b.4,x]
   have hz:=aM q 7
   refine BV (w':=o3 w ⟨kb,7,X⟩ (U (N ⟨g,s,X⟩) (n+1) l)) ho T (by
    unfold rj;simp only[aa,gN (h.12 (j R).1),gN A];simp[go_sem,stored,hc,hz]) ?_
   rw[S];have p:=(h.18 (j R).2.1).2;exact⟨c,q0,q1,q2,q3,q4,q5,q6,q7,q8,q9,q10,pw,R,⟨h.1,h.2,h.3,h.4,h.5,h.6,h.7,h.8,h.9,h.10,h.11,h.12,λe=>(by rw[h.17 p]at e;cases e),λ_ e=>(by rw[p]at e;cases e),λ_ e=>(by rw[(j R).2.1]at e;cases e),λ_=>⟨F,K,E,g,s,l,w,d,r2,r3,t,A,by rw[Zb R]⟩,h.17,h.18,λ_=>(j R).2.1⟩⟩
 .exact⟨ab,ac,ad,ae,λe=>(by cases e),λe=>(by cases e),λe=>(by cases e),λe=>(by cases e),λe=>(by cases e),λe=>(by cases e),λe=>(by cases e),λe=>(by cases e),λ_=>R,λe=>(by cases e),λe=>(by cases e),λe=>(by cases e),λe=>(by cases e),λe=>(by cases e),λe=>(by cases e)⟩
end
end
open Fr (F)
section
variable {Zn B:Nat->Prop}{k t m n g e f:Nat}{cs:Array po}{fz:Nat×Nat}{a o vw1:po}{b:AL}{d:List PC}{l l0:List Ch}{pre:List (List UInt8)}{ws1:List PW}{w1:pn}
structure TS(w:pn)(kb nb:Nat)(c:Cf)(vu:po)(us:List PB)(dl:Nat->List (List UInt8))(vo vw:po)(ws:List PW)(nm:AL)(os:List PC)(cnt ep sq:Nat):Prop where
 d:nT w kb c vu us dl nb vo vw ws cnt ep sq
 ch:Chs w nb vo nm os
 hd:iJ w
 ht:∃hc t fz,w.1[1]? =N (pj hc t fz)/\t≠137/\t≠150/\t≠139/\t≠197/\t≠201
section
variable {w w':pn}{kb nb:Nat}{c:Cf}{vu:po}{us:List PB}{dl:Nat->List (List UInt8)}{vo vw:po}{ws:List PW}{nm:AL}{os:List PC}{cnt ep sq:Nat}
def TS.heap(h:TS w kb nb c vu us dl vo vw ws nm os cnt ep sq)(q:w'.1=w.1):TS w' kb nb c vu us dl vo vw ws nm os cnt ep sq:=⟨h.1.heap q,h.2.heap q,iJ.heap h.3 q,by rw[q];exact h.4⟩
def kO(a:iJ w)(hc:gQ Zn w w')(b:¬Zn 1):iJ w':=by
 have e:∀(i:Nat),Z w' ⟨1,i,X⟩=Z w ⟨1,i,X⟩:=λi=>by
  unfold Z;rw[hc.2 _ a.pos b]
 exact⟨⟨by rw[e];exact a.1.1,by rw[e];exact a.1.2.1,by rw[e];exact a.1.2.2⟩,⟨by rw[e];exact a.2.1,by rw[e];exact a.2.2.1,by rw[e];exact a.2.2.2⟩⟩
def TS.kept(h:TS w kb nb c vu us dl vo vw ws nm os cnt ep sq)(hc:gQ Zn w w')(a:∀k<w.1.size,¬Zn k):TS w' kb nb c vu us dl vo vw ws nm os cnt ep sq:=by let⟨v,d,b⟩:=(hc.mono (M':=λ_=>False) (λk g e=>a k g e)).fake;let⟨f,t,fz,i,j⟩:=h.4;exact⟨(h.1.fF d.Dt).heap (si b),(h.2.fF d.Dt).heap (si b),kO h.3 hc (a _ h.3.pos),f,t,fz,oy (hc.2 _ h.3.pos (a _ h.3.pos)) i,j⟩
def TS.fF(h:TS w kb nb c vu us dl vo vw ws nm os cnt ep sq)(a:Below ↑w w w'):TS w' kb nb c vu us dl vo vw ws nm os cnt ep sq:=h.kept (Zn:=λ_=>False) (fT.fF a fI _).h (λ_ _ e=>e)
def TS.wI(h:TS w kb nb c vu us dl vo vw ws nm os cnt ep sq)(a:w.1[k]? =N (pj cs t fz))(t1:t≠137)(b:t≠197)(d:t≠201):¬(k=kb\/Own nb vo os k):=by
 rintro(rfl|e)
 .rw[h.1.1]at a
  grind
 .exact h.2.iQ a b d e
def TS.T4(h:TS w kb nb c vu us dl vo vw ws nm os cnt ep sq)(a:w.1[k]? =N (pj cs t fz))(t1:t≠137)(b:t≠150):¬(k=kb\/k=nb\/ov vw=N k):=by
 rintro(rfl|rfl|e)
 .rw[h.1.1]at a
  grind
 .exact iB a h.2.1 R
 .exact fK h.1.3 a b e
def TS.Qh(h:TS w kb nb c vu us dl vo vw ws nm os cnt ep sq)(a:w.1[k]? =N (pj cs t fz))(t1:t≠137)(b:t≠139):¬(k=kb\/ov vu=N k):=by
 rintro(rfl|e)
 .rw[h.1.1]at a
  grind
 .exact fK h.1.2 a b e
def TS.chans(h:TS w kb nb c vu us dl vo vw ws nm os cnt ep sq)(y:w'.1[kb]? =N (pj (qb (gD c vu nb vo vw cnt ep sq) 9 a) 137 (0,0)))(iO:Chs w' nb a b d)(hc:gQ (λk=>k=kb\/Own nb vo os k) w w'):TS w' kb nb c vu us dl a vw ws b d cnt ep sq:=by
 let⟨u,t,fz,k,l,A,B,m,o⟩:=h.4
 have f:∀{e s n:Nat}{v:po}{r:List po},fM w e s v n r->e≠137->e≠197->e≠201->fM w' e s v n r:=λj C D E=>j.kept (λg q=>hc.2 g (j.lt q) (by
  let⟨F,x⟩:=j.obj q;exact h.wI x C D E))
 refine⟨⟨?_,f h.1.2 aB aB aB,f h.1.3 aB aB aB,λz p i=>f (h.1.4 z p i) aB aB aB,λp i=>f (h.1.5 p i) aB aB aB⟩,iO,kO h.3 hc (h.wI k l m o),u,t,fz,oy (hc.2 _ h.3.pos (h.wI k l m o)) k,l,A,B,m,o⟩;rw[y];rfl
def TS.took(h:TS w kb nb c vu us dl vo vw ws nm os cnt ep sq)(e:wU kb nb (gD c vu nb vo vw cnt ep sq) vo os w a b d w'):TS w' kb nb c vu us dl a vw ws b d cnt ep sq:=h.chans e.1 e.2 e.3.h
def TS.bi(h:TS w kb nb c vu us dl vo vw ws nm os cnt ep sq)(e:BI kb nb w (gD c vu nb vo vw cnt ep sq) vo os l m w' a b d):TS w' kb nb c vu us dl a vw ws b d cnt ep sq:=h.chans e.1 e.2 e.3.h
def TS.pulled(h:TS w kb nb c vu us dl vo vw ws nm os cnt ep sq){x}(e:TI kb nb n w (gD c vu nb vo vw cnt ep sq) vw ws pre w' o vw1 ws1)(hp:PS kb nb B l0 pre w' x a b d):TS w' kb nb c vu us dl a vw1 (ws++ws1) b d cnt ep sq:=by
 have hc:=e.6.h;let⟨A,t,fz,l,m,p,E,F,G⟩:=h.4
 have r:∀{f s n:Nat}{v:po}{u:List po},fM w f s v n u->f≠137->f≠150->fM w' f s v n u:=λk H I=>k.kept (λg q=>hc.2 g (k.lt q) (by
  let⟨j,i⟩:=k.obj q;exact h.T4 i H I))
 have y:o=a:=by
  have i:=e.1;rw[hp.1]at i;simp only[aI,Obj.cells.injEq,and_true]at i;have j:=hp.3;rw[i]at j;have z:(qb (qb (gD c vu nb vo vw cnt ep sq) 9 o) 10 vw1)[9]? =N o:=R;rw[z]at j;exact cR j
 subst y;refine⟨⟨?_,r h.1.2 aB aB,e.2,λC D hp=>r (h.1.4 C D hp) aB aB,e.3⟩,hp.4,kO h.3 hc (h.T4 l m p),A,t,fz,oy (hc.2 _ h.3.pos (h.T4 l m p)) l,m,p,E,F,G⟩;rw[e.1];rfl
def TS.more(h:TS w kb nb c vu us dl vo vw ws nm os cnt ep sq){u m o l}(x:Below ↑w w l)(O:jk l ↑w (U m (M (fV u)) o) (fV u))(i:fM w1 139 3 (U (N ⟨g,e,X⟩) (M us+1) f) (M us+1) (us.flatMap ng++[ox pg u.1,ox pg u.2,U m (M (fV u)) o]))
  (p:jC vu g (o6 l (pj #[ox pg u.1,ox pg u.2,U m (M (fV u)) o] 139)) w1):
  TS (o3 w1 ⟨kb,7,X⟩ (U (N ⟨g,e,X⟩) (M us+1) f)) kb nb c (U (N ⟨g,e,X⟩) (M us+1) f) (us++[(u.1,u.2,U m (M (fV u)) o)]) (λj=>if j=M us then fV u else dl j) vo vw ws nm os cnt ep sq/\fT (λk=>k=kb\/ov vu=N k) w (o3 w1 ⟨kb,7,X⟩ (U (N ⟨g,e,X⟩) (M us+1) f)):=by
 have C:=(fT.alloc _ _ _).trans p.gE (λ_ _ a=>a);have H:=(fT.fF x fI _).trans C (λ_ _ a=>a);have L:=(fO h.1.1)
 have r:fT (λk=>k=kb\/ov vu=N k) l (o3 w1 ⟨kb,7,X⟩ (U (N ⟨g,e,X⟩) (M us+1) f)):=(C.mono (λ_ _ a=>rz a)).trans (.set _ _ _ _) (λ_ _ a=>rr a);have s:=(fT.fF x fI _).trans r (λ_ _ a=>a);let⟨I,t,fz,z,A,P,B,Q,S⟩:=h.4;have b:=h.fF x
 have q:∀{a F n:Nat}{v:po}{G:List po},fM l a F v n G->a≠137->a≠139->fM (o3 w1 ⟨kb,7,X⟩ (U (N ⟨g,e,X⟩) (M us+1) f)) a F v n G:=λi T V=>i.kept (λg p=>r.5 g (i.lt p) (by
  let⟨J,D⟩:=i.obj p;exact b.Qh D T V))
 have E:=oy (H.5 kb L (fK h.1.2 h.1.1 aB)) h.1.1
 have K:g≠kb:=by
  let⟨J,D⟩:=i.obj (g:=g) R;intro a;subst a;rw[E]at D;simp at D
 refine⟨⟨⟨?_,?_,q b.1.3 aB aB,λj y d=>?_,λy d=>q (b.1.5 y d) aB aB⟩,?_,kO h.3 s.h (h.Qh z A B),I,t,fz,oy (s.5 _ h.3.pos (h.Qh z A B)) z,A,P,B,Q,S⟩,s⟩
 .rw[uk E];rfl
 .rw[aN,dZ,dU]
  exact i.kept (λJ D=>by
   simp only[ov,aI]at D;subst D;exact aR _ _ _ _ K)
 .by_cases D:j=M us
  .subst D;rw[bF fI,Nat.sub_self]at d;simp at d;subst d;rw[Zb R];exact q O.1 aB aB
  .rw[Za D];have J:=(aJ.1 d).1;rw[aN,dZ]at J;rw[bI aA]at d;exact q (b.1.4 j y d) aB aB
 .refine b.2.gE r (λk D=>?_);rintro(rfl|a)
  .exact b.2.iQ b.1.1 aB aB D
  .let⟨W,J⟩:=b.1.2.obj a;exact b.2.iQ J aB aB D
end
end
variable {α:Type}{n:Nat}
def Bb{l:List α}(h:M l=n+1):∃x r,l=x::r/\M r=n:=by
 cases l with
 |nil=>simp at h
 |cons x r=>exact⟨x,r,R,jx⟩
def Lb{t:Array po}(h:qd t=93):∃b c p B O u5 u6 u7 u8 u9 d e f g i j k m n o q r s u v w x y z A C D E F G H I J K L P Q S T V W Y aa ab ac ad ae af ag ah ai aj ak am an ao ap aq ar au av aw ax ay az a0 a1 a2 a3 a4 a5 a6 a7 a8 a9 ba bb bc bd bf bg bh bj bk bl bm bo bp,t=#[b,c,p,B,O,u5,u6,u7,u8,u9,d,e,f,g,i,j,k,m,n,o,q,r,s,u,v,w,x,y,z,A,C,D,E,F,G,H,I,J,K,L,P,Q,S,T,V,W,Y,aa,ab,ac,ad,ae,af,ag,ah,ai,aj,ak,am,an,ao,ap,aq,ar,au,av,aw,ax,ay,az,a0,a1,a2,a3,a4,a5,a6,a7,a8,a9,ba,bb,bc,bd,bf,bg,bh,bj,bk,bl,bm,bo,bp]:=by
 obtain⟨l⟩:=t;replace h:M l=93:=h
 iterate 93 (obtain⟨_,l,rfl,a⟩:=Bb h;clear h;have h:=a;clear a)
 obtain rfl:=tt.1 h;exact⟨_,_,_,_,_,_,_,_,_,_,_,_,_,_,_,_,_,_,_,_,_,_,_,_,_,_,_,_,_,_,_,_,_,_,_,_,_,_,_,_,_,_,_,_,_,_,_,_,_,_,_,_,_,_,_,_,_,_,_,_,_,_,_,_,_,_,_,_,_,_,_,_,_,_,_,_,_,_,_,_,_,_,_,_,_,_,_,_,_,_,_,_,_,R⟩
end Hm
namespace Pa
open Go Go.Conc Go.RowKit Go.Joins
open Hm (iq gN fP gD TS gQ lU AL PC PB PW fS tX tH tP takeB Am ops2 jL)
open Dv (Zq)
open Po hiding Zq H B IT PR NB
section
noncomputable def ops4:Array OF:=match Yq.9 with
 |some (qv _ (qv _ (qv _ (qv _ (qv (qv (.region _ ops _) _) _)))))=>ops
 |_=>#[]
noncomputable def F3:vy:=match Yq.9 with
 |some (qv _ (qv _ (qv c _)))=>c
 |_=>.skip
noncomputable def Kt:vy:=match Yq.9 with
 |some (qv _ (qv _ (qv _ (qv _ (qv (qv c _) _)))))=>c
 |_=>.skip
def Iy:Yq.9=N (qv tX (qv tH (qv F3 (qv tP (qv (qv Kt takeB) Am))))):=Zm
def IX:∃a,F3=.region a ops2 pw:=⟨_,R⟩
def I7:∃a,Kt=.region a ops4 pw:=⟨_,R⟩
structure SA(a:Act)(b2 b3 b4:Nat):Prop where
 sz:qd a.1=93
 df:a.2=[]
 t2:a.1[2]? =N (iq b2)
 t3:a.1[3]? =N (iq b3)
 t4:a.1[4]? =N (iq b4)
structure TB(w:pn)(b2 b3 b4 kb n:Nat)(u:Zq)(vt vl:po):Prop where
 h2:w.1[b2]? =N (pj #[iq kb] 93 (0,0))
 h3:w.1[b3]? =N (pj #[ox pg u.1,ox pg u.2,vt,vl] 42 (0,0))
 h4:w.1[b4]? =N (pj #[ox pg n] 3 (0,0))
section
variable {w w':pn}
variable {kb:Nat}{u:Zq}{vt vl:po}{b2 b3 b4 n:Nat}
def TB.gE{Zn}(h:TB w b2 b3 b4 kb n u vt vl)(hc:gQ Zn w w')(a:∀(j b)(t:Nat)(c),w.1[j]? =N (pj b t c)->t=93\/t=42\/t=3->¬Zn j):TB w' b2 b3 b4 kb n u vt vl:=
 ⟨oy (hc.2 _ (fO h.1) (a _ _ _ _ h.1 (rr R))) h.1,oy (hc.2 _ (fO h.2) (a _ _ _ _ h.2 (rz (rr R)))) h.2,oy (hc.2 _ (fO h.3) (a _ _ _ _ h.3 (rz (rz R)))) h.3⟩
end
end
open Hm (iq fP gD)
open Dv (Zq)
open Cr (Fill LN)
section
def SR(kb b3 s:Nat)(c:Cf)(tx:Option zm)(n cap:Nat)(i:Nat):po:=(#[iq kb,iq kb,iq kb,.agg (fP c),pm (N ⟨b3,2,X⟩),U tx n cap,U (N ⟨s+1,0,X⟩) n n,ox pg n,ox pg 0]:Array po).getD i p8
section
variable {Post:Cl}{D:Nat->Prop}{w:pn}{b:tg}{a:Act}{k:List qbe}{Zo A:List tg}
variable {kb nb:Nat}{c:Cf}{vu vo vw vl:po}{cnt ep sq:Nat}{u:Zq}{b2 b3 b4:Nat}{tx:Option zm}{n cap:Nat}{fs:Nat->List Fr.F}
def Ty:Cr.fills 93 ops4=pw:=Zm
def Rl(rd:Cr.ReadW){af}(m:SA a b2 b3 b4)(C:w.1[b2]? =N (pj #[iq kb] 93 (0,0)))(E:w.1[b3]? =N (pj #[ox pg u.1,ox pg u.2,U tx n cap,vl] 42 (0,0)))(G:w.1[kb]? =N (pj (gD c vu nb vo vw cnt ep sq) 137 (0,0)))(hn:n<=16777216)(ab:qd Tryz.prog.globals<=w.1.size){tb p0:Nat}{fr ad:Nat->Int}{data:Nat->ByteArray}(hx:LN (λ_=>True) w tx tb p0 n fr ad data)(aa:∀j<n,fs j=jE c.1 c.2 (fr j) (ad j) (data j).1.1)(hQ:∀f d e,SA f b2 b3 b4->f.1[44]? =N (U (N ⟨w.1.size+1,0,X⟩) n n)->f.1[45]? =N (ox pg n)->f.1[46]? =N (ox pg 0)->xu w n fs d->Wq e Post Zo (b.at f k) A d):Wq D Post Zo (b.at a (.code (.region af ops4 pw)::k)) A w:=by
 refine Wq.fill (τ:=Unit) (λ_=>SR kb b3 ↑w c tx n cap) (λo v q _=>(o.getD 6 pi=pi->v=w/\q=D)/\(o.getD 6 pi=pw->xu w n fs v)) (by rw[m.1];exact Ty) (λo f v q _ H hF s=>?_) (λo f v q _ i p rest g y I hF s J=>?_) () ⟨λ_=>⟨R,R⟩,λh=>by rw[show qd ops4=9 from R]at h;cases h⟩
 .have e:∀{i t},i<9->Cr.kU ops4 i=N t->f.1[t]? =N (SR kb b3 ↑w c tx n cap i):=λy d=>hF.3 _ _ d (H _ y);exact hQ f _ _ ⟨oy hF.1 m.1,oy hF.2 m.2,oy (hF.slot Zm) m.3,oy (hF.slot Zm) m.4,oy (hF.slot Zm) m.5⟩ (e (i:=6) aB R) (e (i:=7) aB R) (e (i:=8) aB R) (s.2 (H 6 aB))
 .have hold:∀j<w.1.size,v.1[j]? =w.1[j]?:=λj hj=>by
   cases F:o.getD 6 pi with
   |false=>rw[(s.1 F).1]
   |true=>exact(s.2 F).1 j hj
  have Y:=oy (hold _ (fO C)) C;have g3:=oy (hold _ (fO E)) E;have gk:=oy (hold _ (fO G)) G;have keep:i≠6->(((qb o i pw).getD 6 pi=pi->v=w/\q=D)/\((qb o i pw).getD 6 pi=pw->xu w n fs v)):=λx=>by rw[getD_set_ne pi x];exact s
  have go:i≠6->p.6=X->(∀t d,(rj (p7 f) p).run PQ (on v t d)=.ok (.value (SR kb b3 ↑w c tx n cap i)) (on v t d))->Wq q Post Zo (b.at f (ri ops4 (i::rest)::k)) A v:=λx e hr=>Wq.val g e hr (J v q () (λ_ _=>R) (keep x));have ac:=(fO g)
  have T:=hF.old (s:=2) Zm m.3;have V:=hF.old (s:=3) Zm m.4;have l:∀{B:Nat}{z:Array po}{ty:wj}{W:Nat×Nat}(p:Nat),v.1[B]? =N (pj z ty W)->∀t d,Z (on v t d) ⟨B,p,X⟩=z[p]?:=λp h t d=>aG (show(on v t d).1[_]? =_ from h) p;have r:∀j t,Cr.waits ops4 i j=pw->Cr.kU ops4 j=N t->p7 f (sn t)=SR kb b3 ↑w c tx n cap j:=λj t hw hd=>hF.ev hd (I j hw)
  match i,ac with
  |0,_=>
   let⟨K,e⟩:=Cr.jd (.load 93 (sn 2),X) g R;refine go aB e λt d=>?_;have F:=l 0 Y t d;unfold rj;simp only[K,T,iq];simp[go_sem,F];rfl
  |1,_=>
   let⟨F,e⟩:=Cr.jd (.nilCheck (sn 38),X) g R;refine go aB e λt d=>?_;unfold rj;simp only[F,r 0 38 R R];rfl
  |2,_=>
   let⟨F,e⟩:=Cr.jd (.fieldAddr 137 (sn 39) 0,X) g R;refine go aB e λt d=>?_;unfold rj;simp only[F,r 1 39 R R];simp[go_sem];rfl
  |3,_=>
   let⟨ae,e⟩:=Cr.jd (.load 24 (sn 40),X) g R;refine go aB e λt d=>?_;have F:_=(fP c)[0]?:=l 0 gk t d;have K:_=(fP c)[1]?:=l 1 gk t d;have L:_=(fP c)[2]?:=l 2 gk t d;have O:_=(fP c)[3]?:=l 3 gk t d;have P:_=(fP c)[4]?:=l 4 gk t d;have Q:_=(fP c)[5]?:=l 5 gk t d;have S:_=(fP c)[6]?:=l 6 gk t d;unfold rj;simp only[ae,r 2 40 R R];simp[go_sem,SR,iq,fP,F,K,L,O,P,Q,S]
  |4,_=>
   let⟨F,e⟩:=Cr.jd (.fieldAddr 42 (sn 3) 2,X) g R;refine go aB e λt d=>?_;unfold rj;simp only[F,V,iq];simp[go_sem];rfl
  |5,_=>
   let⟨K,e⟩:=Cr.jd (.load 39 (sn 42),X) g R;refine go aB e λt d=>?_;have F:=l 2 g3 t d;unfold rj;simp only[K,r 4 42 R R];simp[go_sem,SR,F]
  |6,_=>
   let⟨O,e⟩:=Cr.jd (.call { callee:=.value (.func 71),args:=#[sn 41,sn 43],argTypes:=#[24,39] },X) g R;have F:=Cr.He y;obtain⟨rfl,rfl⟩:=s.1 F.1;refine Wk.frames rd g (Cr.iU e) O (r 3 41 R R) (r 5 43 R R) hn ab hx aa λK P L=>J P K () (λ_ _=>R) ⟨λh=>(by rw[F.2]at h;cases h),λ_=>L⟩
  |7,_=>
   let⟨F,e⟩:=Cr.jd (.call { callee:=.builtin _,args:=#[sn 44],argTypes:=#[29] },X) g R;refine go aB e λt d=>?_;have x:f.1[44]? =N (U (N ⟨w.1.size+1,0,X⟩) n n):=hF.3 6 44 R (I 6 R);unfold rj;simp only[F];simp[go_sem,SR,x]
  |8,_=>
   let⟨F,e⟩:=Cr.jd (.move _,X) g R;refine go aB e λt d=>?_;unfold rj;simp only[F];rfl
end
end
section
variable {d e:Option zm}{f h i j:Nat}
section
variable {Post:Cl}{D:Nat->Prop}{w w':pn}{b:tg}{a:Act}{k:List qbe}{Zo A:List tg}
variable {kb nb:Nat}{c:Cf}{vu:po}{us:List PB}{dl:Nat->List (List UInt8)}{vo vw:po}{ws:List PW}{nm:AL}{os:List PC}{cnt ep sq:Nat}{u:Zq}{vt vl:po}{b2 b3 b4 n:Nat}
def IL{rest}(C:TS w kb nb c vu us dl vo vw ws nm os cnt ep sq)(F:a=⟨#[pm (N ⟨kb,0,X⟩),we #[ox pg u.1,ox pg u.2,U d f h,U e i j],p8,p8,p8,p8,p8,p8,p8,p8,p8,p8,p8,p8,p8,p8,p8,p8,p8,p8,p8,p8,p8,p8,p8,p8,p8,p8,p8,p8,p8,p8,p8,p8,p8,p8,p8,p8,p8,p8,p8,p8,p8,p8,p8,p8,p8,p8,p8,p8,p8,p8,p8,p8,p8,p8,p8,p8,p8,p8,p8,p8,p8,p8,p8,p8,p8,p8,p8,p8,p8,p8,p8,p8,p8,p8,p8,p8,p8,p8,p8,p8,p8,p8,p8,p8,p8,p8,p8,p8,p8,p8,p8],[]⟩)(G:∀q w',SA q ↑w (w.1.size+1) (w.1.size+2)->gQ (λ_=>False) w w'->TB w' ↑w (w.1.size+1) (w.1.size+2) kb (M us) u (U d f h) (U e i j)->Wq D Post Zo (b.at q [.code rest]) A w'):Wq D Post Zo (b.at a [.code (qv tX (qv tH rest))]) A w:=by
 refine Wq.seq ?_;obtain⟨w1,m⟩:∃w1,w1=o6 (o6 w (pj #[pm (N ⟨kb,0,X⟩)] 93)) (pj #[ox pg u.1,ox pg u.2,U d f h,U e i j] 42):=⟨_,R⟩
 have x:↑w1=w.1.size+2:=by rw[m];simp
 have r:Go.RowKit.Below ↑w w w1:=by rw[m];exact pb (pb (Go.RowKit.Below.refl _ w) fI _) aC _
 have v:w1.1[w.1.size]? =N (pj #[iq kb] 93 (0,0)):=by rw[m,vr _ _ _ aC];exact sv _ _
 have I:w1.1[w.1.size+1]? =N (pj #[ox pg u.1,ox pg u.2,U d f h,U e i j] 42 (0,0)):=by
  have:=sv (o6 w (pj #[pm (N ⟨kb,0,X⟩)] 93)) (pj #[ox pg u.1,ox pg u.2,U d f h,U e i j] 42);rw[m];exact ir
 refine Wq.piece (Q:=λq W=>q=⟨#[pm (N ⟨kb,0,X⟩),we #[ox pg u.1,ox pg u.2,U d f h,U e i j],pm (N ⟨↑w,0,X⟩),pm (N ⟨w.1.size+1,0,X⟩),p8,p8,p8,p8,p8,p8,p8,p8,p8,p8,p8,p8,p8,p8,p8,p8,p8,p8,p8,p8,p8,p8,p8,p8,p8,p8,p8,p8,p8,p8,p8,p8,p8,p8,p8,p8,p8,p8,p8,p8,p8,p8,p8,p8,p8,p8,p8,p8,p8,p8,p8,p8,p8,p8,p8,p8,p8,p8,p8,p8,p8,p8,p8,p8,p8,p8,p8,p8,p8,p8,p8,p8,p8,p8,p8,p8,p8,p8,p8,p8,p8,p8,p8,p8,p8,p8,p8,p8,p8],[]⟩/\W.1=w1.1) (λt n=>?_) ?_
 .rw[F];refine Hm.JC _ _ _ _ _ _ _ _ _ _ _ _ _ _ _ _ _ _ _ _ _ _ _ _ _ _ _ _ _ _ _ _ _ _ _ _ _ _ _ _ _ _ _ _ _ _ _ _ _ _ _ _ _ _ _ _ _ _ _ _ _ _ _ _ _ _ _ _ _ _ _ _ _ _ _ _ _ _ _ _ _ _ _ _ _ _ _ _ _ _ _ kb _ _ d f h e i j _ ⟨R,R,?_⟩;rw[m];rfl
 rintro K l ⟨rfl,g⟩;have g:=g;refine Wq.seq ?_;have s:=(C.fF r).heap g;let⟨y,z,H⟩:=s.1.2.slice;have J:(gD c vu nb vo vw cnt ep sq)[7]? =N (U y (M us) z):=by rw[<-H];rfl
 refine Wq.piece (Q:=λq W=>SA q ↑w (w.1.size+1) (w.1.size+2)/\W.1=(o6 l (pj #[ox pg (M us)] 3)).1) (λt n=>?_) ?_
 .refine Hm.J6 _ _ _ _ _ _ _ _ _ _ _ _ _ _ _ _ _ _ _ _ _ _ _ _ _ _ _ _ _ _ _ _ _ _ _ _ _ _ _ _ _ _ _ _ _ _ _ _ _ _ _ _ _ _ _ _ _ _ _ _ _ _ _ _ _ _ _ _ _ _ _ _ _ _ _ _ _ _ _ _ _ _ _ _ _ _ _ _ _ _ _ _ _ kb y _ z _ (by rw[aG (show(on l t n).1[w.1.size]? =_ from by rw[show(on l t n).1=w1.1 from g];exact v)];rfl) (by rw[aG (show(on l t n).1[kb]? =_ from s.1.1)];exact J) ⟨R,⟨R,R,R,R,?_⟩,R⟩
  show N (Value.pointer (N ⟨↑l,0,X⟩))=_
  rw[g,x];rfl
 rintro B w2 ⟨E,p⟩;have p:=p
 have hold:∀k<w.1.size+2,w2.1[k]? =w1.1[k]?:=λk o=>by
  rw[p,vr _ _ _ (by rw[g,x];exact o),g]
 refine G B w2 E ⟨by grind,λk o _=>oy (hold k aA) (r.5 k o)⟩ ⟨oy (hold _ aA) v,oy (hold _ aA) I,?_⟩;have:=sv l (pj #[ox pg (M us)] 3)
 grind
def Sk(dl:Nat->List (List UInt8))(n:Nat)(u:Zq):Nat->List (List UInt8):=λj=>if j=n then fV u else dl j
def Qt{rest}(o:TS w kb nb c vu us dl vo vw ws nm os cnt ep sq)(k:SA a b2 b3 b4)(n:TB w b2 b3 b4 kb (M us) u (U d f h) (U e i j))(K:lU w u (U d f h) (U e i j))(F:∀x∈u.4,M x<=16777216)(H:M us<4294967296)(Y:∀l w' q r,SA l b2 b3 b4->TS w' kb nb c q (us++[(u.1,u.2,r)]) (Sk dl (M us) u) vo vw ws nm os cnt ep sq->gQ (λp=>p=kb\/ov vu=N p) w w'->(∀g,ov q=N g->ov vu=N g\/w.1.size<=g)->Wq D Post Zo (b.at l [.code rest]) A w'):Wq D Post Zo (b.at a [.code (qv F3 rest)]) A w:=by
 refine Wq.seq ?_;obtain⟨aa,J⟩:=IX;refine Wq.piece (Q:=λq W=>SA q b2 b3 b4/\∃p r,TS W kb nb c p (us++[(u.1,u.2,r)]) (Sk dl (M us) u) vo vw ws nm os cnt ep sq/\gQ (λl=>l=kb\/ov vu=N l) w W/\∀g,ov p=N g->ov vu=N g\/w.1.size<=g) (λt m=>?_) ?_
 .rw[J];refine(wpIn_wide (n:=1)).1 (wpIn_region_any Zm ?_);have l:TS (on w t m).drew kb nb c vu us dl vo vw ws nm os cnt ep sq:=o.heap R;refine Hm.QK (W:=(on w t m).drew) (cs:=gD c vu nb vo vw cnt ep sq) ⟨n.1,n.2,o.1.1,R,l.1.2,H,K.heap R,F,l.3⟩ k.1 k.3 k.4 k.5 ?_;intro Q T V P g W S w1 v x y z B p G I r;let⟨L,O⟩:=l.more p G I r;refine⟨R,⟨v,oy B k.2,x,y,z⟩,_,_,L,O.h.heaps R R,λC E=>?_⟩;have s:g=C:=by simpa[ov]using E
  subst s;obtain q|q:=r.own
  .exact rr q
  .refine rz (aX (show ↑w<=P.1.size from p.4) (aX ?_ q));simp
 grind
end
end
section
section
variable {Post:Cl}{D:Nat->Prop}{w w':pn}{b:tg}{a:Act}{k:List qbe}{Zo A:List tg}
variable {kb nb:Nat}{c:Cf}{vu:po}{us:List PB}{dl:Nat->List (List UInt8)}{vo vw:po}{ws:List PW}{nm:AL}{os:List PC}{cnt ep sq:Nat}{u:Zq}{vt vl:po}{b2 b3 b4 n:Nat}
def Lm{rest c0}(v:TS w kb nb c vu us dl vo vw ws nm os cnt ep sq)(s:SA a b2 b3 b4)(m:TB w b2 b3 b4 kb c0 u vt vl)(x:c0<=4294967296)(z:M os<=4294967296)(B:0<=c.3/\c.3<=4294967296)(y:∀g w' f e d,SA g b2 b3 b4->TS w' kb nb c vu us dl f vw ws e d cnt ep sq->gQ (λj=>j=kb\/Hm.Own nb vo os j) w w'->(∀j,Hm.Own nb f d j->Hm.Own nb vo os j\/w.1.size<=j)->M d<=M os->fS e d=(fS nm os).filter (λh=>!decide ((h.2:Int)<c0-c.3))->Wq D Post Zo (b.at g [.code rest]) A w'):Wq D Post Zo (b.at a [.code (qv tP rest)]) A w:=by
 refine Wq.seq ?_;refine Wq.piece (Q:=λg W=>SA g b2 b3 b4/\∃f e d,TS W kb nb c vu us dl f vw ws e d cnt ep sq/\gQ (λj=>j=kb\/Hm.Own nb vo os j) w W/\(∀j,Hm.Own nb f d j->Hm.Own nb vo os j\/w.1.size<=j)/\M d<=M os/\fS e d=(fS nm os).filter (λh=>!decide (h.2<c0-c.3))) (λI p=>?_) ?_
 .have h:TS (on w I p) kb nb c vu us dl vo vw ws nm os cnt ep sq:=v.heap R;obtain⟨L,K⟩:=a;obtain⟨o,n,j,k,l⟩:=s;dsimp only at o n j k l;subst n;obtain⟨O,P,u2,u3,u4,u5,u6,u7,u8,u9,Q,S,T,V,W,Y,aa,ab,ac,ad,ae,af,ag,ah,ai,aj,ak,am,an,ao,ap,aq,ar,au,av,aw,ax,ay,az,a0,a1,a2,a3,a4,a5,a6,a7,a8,a9,ba,bb,bc,bd,bf,bg,bh,bj,bk,bl,bm,bo,bp,bq,br,bs,bu,bv,bw,bx,bz,b0,b1,b5,b6,b7,b8,b9,ca,cb,cc,cd,ce,cf,cg,ch,ci,cj,ck,cl,cm,cn,co,cp,rfl⟩:=Hm.Lb o;simp only[cN,cM,cG,aI]at j k l;subst j k l;refine Hm.Ck _ _ _ _ _ _ _ _ _ _ _ _ _ _ _ _ _ _ _ _ _ _ _ _ _ _ _ _ _ _ _ _ _ _ _ _ _ _ _ _ _ _ _ _ _ _ _ _ _ _ _ _ _ _ _ _ _ _ _ _ _ _ _ _ _ _ _ _ _ _ _ _ _ _ _ _ _ _ _ _ _ _ _ _ _ _ _ _ _ _ _ b2 b4 kb nb c0 _ _ vo nm os _ m.1 m.3 h.1.1 R R R h.2 z x B ?_;intro cr cs ct cu cv cw cx cy cz c1 c2 J f e d i q r;exact⟨R,⟨R,R,R,R,R⟩,f,e,d,h.took i,i.3.h.heaps R R,i.4,q,r⟩
 rintro g w' ⟨t,f,e,d,C,E,F,G,H⟩;exact y g w' f e d t (C.heap R) (E.heaps R R) F G H
def Qx{q}{c0 C m:Nat}{vs fs}(E:TS w kb nb c vu us dl vo vw ws nm os cnt ep sq)(y:SA a b2 b3 b4)(r:TB w b2 b3 b4 kb c0 u vt vl)(n:a.1[44]? =N (U (N ⟨C,0,X⟩) m m))(o:a.1[45]? =N (ox pg m))(p:a.1[46]? =N (ox pg 0))(B:w.1[C]? =N (pj vs 76 (0,0)))(O:qd vs=m)(L:∀i<m,∃v,vs[i]? =N v/\Hm.uK w v (fs i))(F:∀i h,i<m->h∈fs i->h.2<65536/\M h.3<=65536)(I:m<=16777216)(G:∀i,M (fs i)<=16777216)(H:M os+M (Hm.jc fs m)<=4294967295)(J:0<=c.7/\c.7<=4294967296)(K:∀g w' f e d,SA g b2 b3 b4->TS w' kb nb c vu us dl f vw ws e d cnt ep sq->gQ (λj=>j=kb\/Hm.Own nb vo os j) w w'->(∀j,Hm.Own nb f d j->Hm.Own nb vo os j\/w.1.size<=j)->M d<=M os+M (Hm.jc fs m)->fS e d=(Hm.jc fs m).foldl (Dv.frame c.7 c0) (fS nm os)->Wq D Post Zo (b.at g [.code q]) A w'):Wq D Post Zo (b.at a [.code takeB,.code q]) A w:=by
 refine Wq.piece (Q:=λg W=>SA g b2 b3 b4/\∃f e d,TS W kb nb c vu us dl f vw ws e d cnt ep sq/\gQ (λj=>j=kb\/Hm.Own nb vo os j) w W/\(∀j,Hm.Own nb f d j->Hm.Own nb vo os j\/w.1.size<=j)/\M d<=M os+M (Hm.jc fs m)/\fS e d=(Hm.jc fs m).foldl (Dv.frame c.7 c0) (fS nm os)) (λY x=>?_) ?_
 .have i:TS (on w Y x) kb nb c vu us dl vo vw ws nm os cnt ep sq:=E.heap R;obtain⟨tm,W⟩:=a;obtain⟨t,s,j,k,l⟩:=y;dsimp only at t s j k l n o p;subst s;obtain⟨u0,u1,u2,u3,u4,u5,u6,u7,u8,u9,aa,ab,ac,ad,ae,af,ag,ah,ai,aj,ak,am,an,ao,ap,aq,ar,au,av,aw,ax,ay,az,a0,a1,a2,a3,a4,a5,a6,a7,a8,a9,ba,bb,bc,bd,bf,bg,bh,bj,bk,bl,bm,bo,bp,bq,br,bs,bu,bv,bw,bx,bz,b0,b1,b5,b6,b7,b8,b9,ca,cb,cc,cd,ce,cf,cg,ch,ci,cj,ck,cl,cm,cn,co,cp,cr,cs,ct,cu,cv,cw,rfl⟩:=Hm.Lb t;simp only[cN,cM,cG,aI]at j k l n o p;subst j k l n o p;refine Hm.BN _ _ _ _ _ _ _ _ _ _ _ _ _ _ _ _ _ _ _ _ _ _ _ _ _ _ _ _ _ _ _ _ _ _ _ _ _ _ _ _ _ _ _ _ _ _ _ _ _ _ _ _ _ _ _ _ _ _ _ _ _ _ _ _ _ _ _ _ _ _ _ _ _ _ _ _ _ _ _ _ _ _ _ _ _ _ _ _ b2 b4 kb nb c0 C m _ _ vs vo nm os fs _ r.1 r.3 i.1.1 R R R i.2 B O L F I G H J ?_;intro x6 x8 cx cy cz c1 c2 c3 c4 c5 c6 c7 c8 c9 da db dc de dg dh di dj dk dm dn v f e d h;exact⟨R,⟨R,R,R,R,R⟩,f,e,d,i.bi h,h.3.h.heaps R R,h.4,h.5,h.6⟩
 rintro g w' ⟨z,f,e,d,P,Q,S,T,V⟩;exact K g w' f e d z (P.heap R) (Q.heaps R R) S T V
end
end
section
section
variable {Post:Cl}{D:Nat->Prop}{w w':pn}{b:tg}{a:Act}{k:List qbe}{Zo A:List tg}
variable {kb nb:Nat}{c:Cf}{vu:po}{us:List PB}{dl:Nat->List (List UInt8)}{vo vw:po}{ws:List PW}{nm:AL}{os:List PC}{cnt ep sq:Nat}{u:Zq}{vt vl:po}{b2 b3 b4 n:Nat}
def JS{c0}(C:TS w kb nb c vu us dl vo vw ws nm os cnt ep sq)(B:SA a b2 b3 b4)(q:TB w b2 b3 b4 kb c0 u vt vl)(G:M os<=4294967296)(H:∀s,s∈(Dv.pull (fS nm os)).1->M s<=4096)(F:M ws+4096*M (Dv.pull (fS nm os)).1<4294967296)(Y:∀l w' (dd:Nat) i k e h d,l.2=[{ target:=.collected dd,args:=#[] }]->w'.1[dd]? =N (uu (N []))->↑w<=dd->TS w' kb nb c vu us dl i k (ws++e) h d cnt ep sq->gQ (λj=>j=kb\/j=nb\/ov vw=N j) w w'->(∀j,Hm.Own nb i d j->Hm.Own nb vo os j)->(∀g,ov k=N g->ov vw=N g\/w.1.size<=g)->M d<=4294967296->fS h d=(Dv.pull (fS nm os)).2->e.map p9=(Dv.pull (fS nm os)).1.flatMap (λs=>Dv.reads s c0)->Hm.gK ↑w ↑w' (e.map Yd)->Wq D Post Zo (b.at l []) A w'):Wq D Post Zo (b.at a [.code Am]) A w:=by
 refine Wq.piece (Q:=λl W=>∃(dd:Nat),∃i k e h d,l.2=[{ target:=.collected dd,args:=#[] }]/\W.1[dd]? =N (uu (N []))/\↑w<=dd/\TS W kb nb c vu us dl i k (ws++e) h d cnt ep sq/\gQ (λj=>j=kb\/j=nb\/ov vw=N j) w W/\(∀j,Hm.Own nb i d j->Hm.Own nb vo os j)/\(∀g,ov k=N g->ov vw=N g\/w.1.size<=g)/\M d<=4294967296/\fS h d=(Dv.pull (fS nm os)).2/\e.map p9=(Dv.pull (fS nm os)).1.flatMap (λs=>Dv.reads s c0)/\Hm.gK ↑w ↑W (e.map Yd)) (λL t=>?_) ?_
 .have f:TS (on w L t) kb nb c vu us dl vo vw ws nm os cnt ep sq:=C.heap R;obtain⟨W,T⟩:=a;obtain⟨s,r,n,o,p⟩:=B;dsimp only at s r n o p;subst r;obtain⟨u0,u1,u2,u3,u4,u5,u6,u7,u8,u9,aa,ab,ac,ad,ae,af,ag,ah,ai,aj,ak,am,an,ao,ap,aq,ar,au,av,aw,ax,ay,az,a0,a1,a2,a3,a4,a5,a6,a7,a8,a9,ba,bb,bc,bd,bf,bg,bh,bj,bk,bl,bm,bo,bp,bq,br,bs,bu,bv,bw,bx,bz,b0,b1,b5,b6,b7,b8,b9,ca,cb,cc,cd,ce,cf,cg,ch,ci,cj,ck,cl,cm,cn,co,cp,cr,cs,ct,cu,cv,cw,rfl⟩:=Hm.Lb s;simp only[cN,cM,cG,aI]at n o p;subst n o p;obtain⟨E,O,v,I,J,K,_⟩:=f.4;refine Hm.Gz b2 b4 kb nb c0 vo vw nm os ws q.1 q.3 f.1.1 R R R f.2 G f.1.3 f.1.5 f.3 ⟨E,O,v,I,J,K⟩ H F ?_;intro D Q v9 P e S i h d j m x y V z;exact⟨R,D,i,P,e,h,d,R,z,y,f.pulled j m,j.6.h.heaps R R,m.7,j.5,m.5,x,j.4,j.9⟩
 grind
end
end
open Dv (Zq)
open Cr (LN)
section
variable {w':pn}
def Tk(kb nb:Nat)(vu vo vw:po)(os:List PC)(k:Nat):=k=kb\/ov vu=N k\/ov vw=N k\/Hm.Own nb vo os k
def wG{Zn w u a vl}(h:lU w u a vl)(hc:gQ Zn w w')(b:∀g,(0<M u.3/\ov a=N g)\/(0<M u.4/\ov vl=N g)->¬Zn g):lU w' u a vl:=
 ⟨Hm.Rd.kept h.1 hc.1 (λe g c d=>hc.2 g d (b g (rr ⟨e,c⟩))),Hm.Rd.kept h.2.1 hc.1 (λe g c d=>hc.2 g d (b g (rz ⟨e,c⟩))),h.2.2⟩
def VF(u:Zq)(j:Nat):Int:=((u.3[j]?.map (·.1)).getD 0:Nat)
def Wv(u:Zq)(j:Nat):Int:=((u.3[j]?.map (·.2)).getD 0:Nat)
def Td(u:Zq)(j:Nat):ByteArray:=⟨py ((u.3[j]?.map (·.3)).getD [])⟩
def Ko(c:Cf)(u:Zq)(j:Nat):List Fr.F:=jE c.1 c.2 (VF u j) (Wv u j) (Td u j).1.1
def tZ(c u j t)(h:u.3[j]? =N t):Ko c u j=jQ c t:=by
 unfold Ko VF Wv Td jE jQ
 grind
def PE(c u)(h:∀t∈u.3,M t.3<=2000)(j):M (Ko c u j)<=222:=by
 cases a:u.3[j]? with
 |some t=>rw[tZ c u j t a];exact pA c t (h t (aS a))
 |none=>
  unfold Ko Td jE;rw[a];split
  .simp[Fr.frames]
  .simp
def Jq(c u j x)(h:x∈Ko c u j):x.2<65536/\M x.3<=65536:=by
 unfold Ko jE at h;split at h
 .cases a:Fr.frames (Td u j).1.1 with
  |none=>rw[a]at h;simp at h
  |some l=>
   rw[a]at h;obtain⟨_,b,d⟩:=(xD a).2.2 x h;omega
 .simp at h
def BD:∀{l m:List Nat},l.Nodup->(∀x∈l,x∈m)->M l<=M m
 |[],_,_,_=>bU _
 |x::l,m,hn,hs=>by
  have d:=hs x bY;let⟨b,c⟩:=dY.1 hn;have:=BD (l:=l) (m:=m.erase x) c (λy a=>(List.mem_erase_of_ne (λe=>b (by rw[<-e];exact a))).2 (hs y (bK _ a)))
  grind
section
variable {w:pn}
variable {kb nb:Nat}{c:Cf}{vu:po}{us:List PB}{dl:Nat->List (List UInt8)}{vo vw:po}{ws:List PW}{nm:AL}{os:List PC}{cnt ep sq:Nat}{u:Zq}{ta la:Option zm}{tn tc ln lc:Nat}
def R9(l:lU w u (U ta tn tc) (U la ln lc))(k:∀t∈u.3,M t.3<=2000):tn=M u.3/\∃o n,LN (λ_=>True) w ta o n tn (VF u) (Wv u) (Td u):=by
 obtain⟨m,_⟩:=l;obtain⟨_,p,r,e,_,i⟩:=m;cases e;refine⟨R,?_⟩;obtain c|c:=dL (M u.3)
 .exact⟨0,0,λh=>aA,λj a=>aA,λj a=>aA⟩
 .obtain⟨g,b,rfl,f,hc⟩:=i c;refine⟨g,b,λ_=>⟨R,trivial⟩,λj d=>?_,λj d=>?_⟩<;>obtain⟨t,a⟩:∃t,u.3[j]? =N t:=⟨_,aK d⟩
  .have q:=Hm.ny.get (w:=w) (l:=u.3) (g:=g) (off:=b) (cap:=tc) ⟨‹_›,_,_,R,‹_›,λ_=>⟨g,b,R,f,hc⟩⟩ a;unfold VF Wv Td;rw[a];exact q
  .unfold Td;rw[a];have:=k t (aS a)
   show qd (py t.3)<=_
   simp;omega
def FF(b:TS w kb nb c vu us dl vo vw ws nm os cnt ep sq){k x y u f}(d:TS w' kb nb c vu us dl k x y u f cnt ep sq)(hc:gQ (λj=>j=kb\/j=nb\/ov vw=N j) w w')(q:∀j,Hm.Own nb k f j->Hm.Own nb vo os j):M f<=M os:=by
 have h:=BD (l:=f.map _) (m:=os.map (·.1)) d.2.4 (λG t=>?_)
 .exact jx
 obtain⟨o,j,rfl⟩:=bB.1 t;have a:w'.1[o.1]? =_:=(d.2.3 o j).1;unfold Hm.qF at a
 have E:o.1≠kb:=λe=>by
  rw[e,d.1.1]at a;simp at a
 have n:o.1≠nb:=λe=>Hm.iB a d.2.1 e
 have hold:ov vw≠N o.1->o.1<w.1.size->w.1[o.1]? =_:=λh l=>oy (si (hc.2 _ l (by
  grind))) a
 obtain e|e|⟨g,p,e|e⟩:=q o.1 (rz (rz ⟨o,j,rr R⟩))
 .exact Zl e n
 .exfalso;let⟨m,i⟩:=b.2.2.obj e;have r:=Hm.fK b.1.3 i aB
  grind
 .grind
 .exfalso;have iO:=b.2.3 g p
  have s:g.3.4=pi:=by
   cases r:g.3.4 with
   |false=>rfl
   |true=>have:=(iO.6 r).2;grind
  let⟨B,i,m⟩:=(iO.5 s).1;rw[e]at i;cases i;obtain⟨A,z,C,_⟩:=m
  have F:ov vw≠N o.1:=λv=>by
   let⟨r,D⟩:=b.1.3.obj v
   grind
  grind
def TS.mark(a:TS w kb nb c vu us dl vo vw ws nm os cnt ep sq){D}(I:w.1[D]? =N (uu (N []))):TS (rq w D (uu X)) kb nb c vu us dl vo vw ws nm os cnt ep sq:=by
 have i:∀(j:Nat)(o:Array po)(t:Nat)(k:Nat×Nat),w.1[j]? =N (pj o t k)->j≠D:=λj o t k h e=>by
  grind
 have x:∀(j:Nat)(q:IntKind)(m:AL),Hm.jh w j q m->j≠D:=λj q m h e=>by
  obtain⟨p,l,h,_⟩:=h
  grind
 have b:∀j≠D,(rq w D (uu X)).1[j]? =w.1[j]?:=λj F=>sa F
 have f:∀{e s z:Nat}{v:po}{A:List po},Hm.fM w e s v z A->Hm.fM (rq w D (uu X)) e s v z A:=λy=>y.kept (λg E=>b g (by
  let⟨p,l⟩:=y.obj E;exact i g _ _ _ l))
 have r:1≠D:=by
  obtain⟨hc,t,k,q,_⟩:=a.4;exact i _ _ _ _ q
 have d:∀n,Z (rq w D (uu X)) ⟨1,n,X⟩=Z w ⟨1,n,X⟩:=λn=>by unfold Z;rw[b _ r]
 refine⟨⟨oy (b _ (i _ _ _ _ a.1.1)) a.1.1,f a.1.2,f a.1.3,λj p l=>f (a.1.4 j p l),λp l=>f (a.1.5 p l)⟩,⟨a.2.1.of_block (b _ (x _ _ _ a.2.1)),f a.2.2,λH G=>?_,a.2.4,a.2.5,a.2.6,a.2.7⟩,⟨⟨by rw[d];exact a.3.1.1,by rw[d];exact a.3.1.2.1,by rw[d];exact a.3.1.2.2⟩,⟨by rw[d];exact a.3.2.1,by rw[d];exact a.3.2.2.1,by rw[d];exact a.3.2.2.2⟩⟩,by rw[b _ r];exact a.4⟩;have h:=a.2.3 H G;refine⟨oy (b _ (i _ _ _ _ h.1)) h.1,h.2,h.3,h.4,λe=>?_,h.6⟩;have s:=h.5 e;let⟨B,C,u⟩:=s.1;exact⟨⟨B,C,u.of_block (b _ (x _ _ _ u))⟩,s.2,s.3,s.4,s.5⟩
def Nc(rd:Cr.ReadW){O D}{P:tg}{d ops i rest k Zo L z x ar au}(ho:ops[i]? =N z)(hw:sy z (yielded ops d.1)=pw)(bg:z.2=.call { callee:=.value (.func 39),args:=#[x,ar],argTypes:=au })(ex:p7 d x=iq kb)(ey:p7 d ar=we #[ox pg u.1,ox pg u.2,U ta tn tc,U la ln lc])(b9:qd Tryz.prog.globals<=w.1.size)(Y:TS w kb nb c vu us dl vo vw ws nm os cnt ep sq)(bp:lU w u (U ta tn tc) (U la ln lc))(o:∀g,(0<M u.3/\ov (U ta tn tc)=N g)\/(0<M u.4/\ov (U la ln lc)=N g)->g<w.1.size/\¬Tk kb nb vu vo vw os g)(ak:Dv.small u=pw)(ag:fR c=pw)(cl:M us<=60)(ci:M os<=1000000)(a9:jL c.7 (fS nm os))(cb:M ws+4096*M (fS nm os)<=2000000000)(bf:∀D' w' ap K ao aq n I l,TS w' kb nb c ap (us++[(u.1,u.2,K)]) (Sk dl (M us) u) ao aq (ws++n) I l cnt ep sq->gQ (Tk kb nb vu vo vw os) w w'->(∀j,Tk kb nb ap ao aq l j->Tk kb nb vu vo vw os j\/w.1.size<=j)->M l<=M os+4440->jL c.7 (fS I l)->(fS I l,(ws++n).map p9)=Dv.take c u (M us) (fS nm os) (ws.map p9)->Hm.gK ↑w ↑w' (n.map Yd)->Wq D' O Zo (P.at (d.put z.1 (sh #[])) (ri ops rest::k)) L w'):Wq D O Zo (P.at d (ri ops (i::rest)::k)) L w:=by
 let⟨co,cp,an,bx⟩:=lN ak
 have b8:1<=c.3/\c.3<=8/\1<=c.4/\c.4<=8/\0<=c.5/\c.5<=100/\2<=c.6/\c.6<=20/\1<=c.7/\c.7<=4096:=by
  unfold fR at ag;exact Zg ag
 refine Wq.call ho hw bg (fq func39 R) R Iy ?_;simp only[dC,cL,dB,ex,ey,show Yq.7=93 from R,bZ,aP,bH,Nat.reduceAdd,Nat.reduceSub,bP,bO,cD,bQ,cA,bX];refine IL (u:=u) Y R ?_;intro a1 w1 av p S;have aa:=Y.kept p (λ_ _ e=>e);have am:=wG bp p (λ_ _ e=>e);refine Qt aa av S am (λx e=>by have:=bx x e;omega) aA ?_;intro a2 w2 b2 K aw ab r bh;have T:=S.gE r (λj e cr q h v=>aa.Qh h aA aA)
 have bq:=wG am r (λg f=>by
  rintro(e|e)
  .exact(o g f).2 (rr e)
  .exact(o g f).2 (rz (rr e)))
 refine Lm (c0:=M us) ab aw T aA aA aA ?_;intro a3 w3 bz J A ax ac s bj cf G;have C:=T.gE s (λj e cr q h v=>ab.wI h aA aA aA)
 have br:=wG bq s (λg f=>by
  rintro(e|e)
  .exact(o g f).2 (rr e)
  .exact(o g f).2 (rz (rz (rz e))))
 have s1:=p.1;have s2:=r.1;have s3:=s.1;refine Wq.seq (Wq.seq ?_);obtain⟨cn,bm⟩:=I7;rw[bm];let⟨Q,tb,p0,a7⟩:=R9 br an;refine Rl (u:=u) (c:=c) (fs:=Ko c u) rd ax C.1 C.2 ac.1.1 aA aA a7 (λ_ _=>R) ?_;intro a4 w4 D4 ay b4 b5 b6 hF;have t:gQ (λ_=>False) w3 w4:=⟨by have:=hF.3;omega,λj a _=>hF.1 j a⟩
 have s4:=t.1;have ad:=ac.kept t (λ_ _ e=>e);have V:=C.gE t (λ_ _ _ _ _ _ e=>e);let⟨vs,bs,bu,bo⟩:=hF.4;have bd:Hm.jc (Ko c u) tn=Dv.heard c u.3:=by rw[Q];exact Hm.EH c _ _ (tZ c u)
 have ca:M (Hm.jc (Ko c u) tn)<=4440:=by rw[bd];exact uV c ak
 refine Qx (c0:=M us) (C:=w3.1.size+1) (m:=tn) (vs:=vs) (fs:=Ko c u) ad ay V b4 b5 b6 bs bu (λi hi=>?rows) (λi e _ q=>Jq c u i e q) aA (λi=>by have:=PE c u an i;omega) aA aA ?_
 case rows=>
  let⟨v,e,q⟩:=bo i hi;refine⟨v,e,q.imp id ?_⟩
  grind
 intro a5 w5 b0 y m az ae E cj cg H;have a0:=V.gE E (λj e cr q h v=>ad.wI h aA aA aA);have s5:=E.1;have ba:jL c.7 (fS J A):=by rw[G];exact Hm.DB a9 _
 have ah:jL c.7 (fS y m):=by rw[H];exact Hm.AD aA _ ba
 have cd:M (fS J A)<=M (fS nm os):=by rw[G];exact dR _ _
 have ce:M (fS y m)<=M (fS nm os)+4440:=by
  rw[H];have:=pq c.7 (M us) (Hm.jc (Ko c u) tn) (fS J A);omega
 have ck:=yW (fS y m);refine JS (c0:=M us) ae az a0 aA (λq e=>by have:=(Hm.ql ah).1 q e;omega) aA ?_;intro a6 B dd b1 b3 n bv bw a8 W b7 af F aj bk ch ai bc bb;have s6:=F.1;have cc:=FF ae af F aj;refine Wq.fin λct=>Wq.takes (b:=dd) (ds:=[]) R a8 W ?_;refine Wq.leave (v:=sh #[]) (fn:=Yq) R R R (fq func39 R) (λw=>by simp[results,results39,go_sem]) ?_;rw[dA,ho];have bl:∀j<w.1.size,(rq B dd (uu X)).1[j]? =B.1[j]?:=λj a=>sa aA;have cm:(rq B dd (uu X)).1.size=B.1.size:=World.putObj_size;have g3:∀j,Hm.Own nb bz A j->Hm.Own nb vo os j\/w.1.size<=j:=λj a=>(bj j a).imp id (λq=>aA)
 have g5:∀j,Hm.Own nb b0 m j->Hm.Own nb vo os j\/w.1.size<=j:=λj a=>by
  grind
 refine bf D4 _ b2 K b1 b3 n bv bw (TS.mark af W) ⟨aA,λj a b=>?gE⟩ (λj a=>?own) aA (by rw[ai];exact(Hm.ql ah).2) ?take (bb.mono aA aA)
 case gE=>
  rw[bl j a,F.2 j aA ?c6,E.2 j aA ?c5,t.2 j aA (λe=>e),s.2 j aA ?c3,r.2 j aA ?c2,p.2 j a (λe=>e)]
  case c6=>
   rintro(e|e|e)
   .exact b (rr e)
   .rw[e]at b;exact b (rz (rz (rz (rr R))))
   .exact b (rz (rz (rr e)))
  case c5=>
   rintro(e|e)
   .exact b (rr e)
   .obtain q|q:=g3 j e
    .exact b (rz (rz (rz q)))
    .omega
  case c3=>
   rintro(e|e)
   .exact b (rr e)
   .exact b (rz (rz (rz e)))
  case c2=>
   rintro(e|e)
   .exact b (rr e)
   .exact b (rz (rr e))
 case own=>
  obtain q|q|q|q:=a
  .exact rr (rr q)
  .obtain e|e:=bh j q
   .exact rr (rz (rr e))
   omega
  .obtain e|e:=bk j q
   .exact rr (rz (rz (rr e)))
   omega
  .obtain e|e:=g5 j (aj j q)
   .exact rr (rz (rz (rz e)))
   .exact rz e
 case take=>
  rw[Hm.K7 c u (M us) (fS nm os) (ws.map p9) (Ko c u) (tZ c u) (fS y m) (by rw[H,G,Q]),ai,aZ,bc]
end
end
end Pa
namespace Hm
open Go.RowKit Go.Joins Go.Shelf
open Dv (Zq)
attribute [local go_sem] Oper.semAt_some
variable {a f e d:Nat}{p i r v:po}{us:List PB}{j:Nat->List (List UInt8)}{A W w:pn}{Zn:Nat->Prop}{m:oY}{x:DX}
def Gv:(PQ.info? 62).map (λi=>(i.8,i.3,i.4))=N (N WO,8,96):=Zm
def SJ(c:Cf)(us:List PB)(j:Nat->List (List UInt8))(Zn:Nat->Prop)(a:Nat)(g:po)(f:List PL)(w:pn)(pre:List DX)(W:pn):=∃e b d,SI c us j Zn a g f w pre W e b d
def SJ.own(c us j Zn a o m w n)(r:w.1.size<=n):YM n (SJ c us j Zn a o m w):=by rintro pre A B row ⟨l,b,d,h⟩ f i;let⟨p,hc,e,g⟩:=jD f i;exact⟨l,b,d,h.kM hc e (λk q=>g k aA)⟩
def DA.own{c d B}(h:DA A a c p us j f i r d)(hc:fT Zn A B)(g:lO Zn A):DA B a c p us j f i r d:=by obtain⟨k,b,e⟩:=h;exact⟨k,b.kM hc g,e⟩
def LL{b}(h:Z W ⟨b,0,X⟩=N v):∃a t c,W.1[b]? =N (pj a t c):=by
 unfold Z at h;simp only at h;split at h
 .rename_i a t c d;exact⟨a,t,c,d⟩
 .cases h
def zP.own(a e c p us j f i r m n):YM n (zP a e c p us j f i r m):=by rintro pre A B row ⟨h,b⟩ k l;let⟨o,hc,d,t⟩:=jD k l;let⟨q,u,s,g⟩:=LL b;exact⟨h.own hc d,oy (qz (hc.5 e (fO g) (d _ _ _ _ g))) b⟩
def OO.own(a c p us j f i r m n):YM n (OO a c p us j f i r m):=by rintro pre A B row b e g;let⟨h,hc,d,k⟩:=jD e g;exact DA.own b hc d
def DY.own(a e c p us j f i r m n d):YM n (λ(q:List DX×DX) W=>DY a e c p us j f i r m q.1 q.2 d W):=by rintro C A B row ⟨o,⟨x,q,b⟩,s,t,u⟩ h k;have v:=zP.own a e c p us j f i r m n _ A B row u h k;let⟨y,hc,g,z⟩:=jD h k;exact⟨o,⟨x,q,hZ.gE b.1 hc g.str,b.2⟩,λl w=>(s l w).gE hc g.str,t,v⟩
def DY.pl{c pre}(h:DY a e c p us j f i r m pre x d W)(D:↑w<=d)(y:∀k,(k=a\/ov r=N k)->k<w.1.size)(z:∀n∈m.1,∀g,ov n.2=N g->¬(g=a\/ov r=N g)):∃n:PL,n.1=mB c us j x/\Qn (λk=>k=a\/ov r=N k) W n/\gA n=x.1.cells.1/\n.2.1=Ac x.3/\∀g,ov n.2.2=N g->d<=g:=by
 obtain⟨t,⟨A,s,o⟩,u,B,C⟩:=h;refine⟨(mB c us j x,Ac x.3,A),R,⟨?_,?_,?_,?_⟩,?_,R,o.2⟩
 .cases l:x.3 with
  |none=>
   unfold mB hZ Ac xN;rw[l];exact fM.nil _ _ _
  |some b=>
   have:=u b l;unfold mB Ac xN;rw[l];exact this
 .exact o.1
 .intro g l;cases q:x.3 with
  |none=>
   rw[q]at l;cases l
  |some b=>
   rw[q]at l;exact z b (Nd t q).1 g l
 .intro g l b;have:=o.2 g l;have:=y g b;omega
 .unfold DX.v RU at s;have:=Zf (λv=>match v with|.agg l=>l.1|_=>[]) s;dsimp only at this;rw[this];rfl
def xV(a e c p us j f i r m v0 n w)(hG:Good c us m)(bj:2<=c.6)(a6:∀l,M (j l)<=4294967296)(C:nT w a c p us j f i r m.1 m.2 m.3 m.4)(ac:Ye w e 93 (pm (N ⟨a,0,X⟩)))(bk:0<M us)(ag:fM w 62 8 v0 (M n) (n.flatMap gA))(af:∀d∈n,hZ w d.2.1 d.1.6/\hZ w d.2.2 d.1.7)(a8:M n<=m.2):tf PQ 40 #[v0,.func (.func 75) #[] #[pm (N ⟨e,0,X⟩)]] w λb w'=>∃pre o z A,b=qs (U z (M (n++o)) A)/\DS c us m pre/\o.map p9=pre.map (mB c us j)/\fM w' 62 8 (U z (M (n++o)) A) (M (n++o)) ((n++o).flatMap gA) /\(∀d∈n++o,hZ w' d.2.1 d.1.6/\hZ w' d.2.2 d.1.7)/\OO a c p us j f i r m pre w'/\fT (λk=>(k=a\/ov r=N k)\/ov v0=N k) w w'/\(∀g,ov (U z (M (n++o)) A)=N g->ov v0=N g\/w.1.size<=g)/\(o.map λd=>d.2.1)=(pre.map λx=>Ac x.3)/\gK w.1.size ↑w' (o.map λd=>d.2.2):=by
 obtain⟨Zn,O⟩:∃Zn:Nat->Prop,Zn=λk=>k=a\/ov r=N k:=⟨_,R⟩
 have ai:∀k,Zn k->k<w.1.size:=by
  rw[O];rintro k (rfl|b)
  .exact(fO C.1)
  .exact C.3.lt b
 have ah:∀k cs ar fz,w.1[k]? =N (pj cs ar fz)->Zn k->ar=137\/ar=150:=by
  rw[O];rintro k cs ar fz T (rfl|b)
  .have:=C.1;rw[T]at this;simp at this;exact rr this.2.1
  .let⟨l,q⟩:=C.3.obj b;rw[T]at q;simp at q;exact rz q.2.1
 have ax:¬Zn e:=λb=>by rcases ah e _ _ _ ac b with h|h<;>revert h<;>decide
 have bb:∀g,ov v0=N g->¬Zn g:=λg u b=>by
  let⟨l,q⟩:=ag.obj u;rcases ah g _ _ _ q b with h|h<;>revert h<;>decide
 have ap:∀v aa,hZ w v aa->∀g,ov v=N g->¬Zn g:=λv aa h g u b=>by
  let⟨l,q⟩:=fM.obj h u;rcases ah g _ _ _ q b with h|h<;>revert h<;>decide
 have a1:=λd y=>ap _ _ (C.5 d y);have aw:=Dk a e c p us j f i r m hG bj a6 (by rw[O]at ax;exact ax);have ay:=λpre x aq W (h:DY a e c p us j f i r m pre x aq W) (hn:↑w<=aq)=>DY.pl h hn (by rw[O]at ai;exact ai) (by rw[O]at a1;exact a1)
 have a5:∀(pre:List DX)(x:DX),Steps c us m (pre++[x])->m.2+M pre<4294967296:=λpre x h=>by
  have l:=IW h;have q:=((hG pre l).1 bk).5;rw[(Em l).2]at q;exact q
 rw[<-O]at aw ay;obtain⟨E,F,rfl⟩:=ag.slice;rw[show(λk=>(k=a\/ov r=N k)\/ov (U E (M n) F)=N k)=(λk=>Zn k\/ov (U E (M n) F)=N k) from by rw[O]];obtain⟨V,hV⟩:∃V:pn,V=o6 w (pj #[U E (M n) F] 35):=⟨_,R⟩
 have br:↑V=w.1.size+1:=by rw[hV];simp
 have H:Below ↑w w V:=by rw[hV];exact pb (aH _ w) fI _
 have bd:Ye V ↑w 35 (U E (M n) F):=by unfold Ye;rw[hV];exact sv _ _
 have a4:=ac.lt;have ba:zP a e c p us j f i r m [] V:=⟨⟨r,C.fF H,λg h=>h⟩,oy (H.cell (p:=⟨e,0,X⟩) a4) ac.cell⟩
 have a3:SJ c us j Zn ↑w (U E (M n) F) n w [] V:=⟨[],E,F,⟨R,by simpa using bd,by simpa using ag.fF H,λd y=>by
  rw[dI]at y;exact⟨fM.fF (af d y).1 H,fM.fF (af d y).2 H,ap _ _ (af d y).1,ap _ _ (af d y).2⟩,λg u=>rr (by simpa using u),.fF H fI _,aA,R,gK.nil _ _⟩⟩
 have av:(∀g,ov (U E (M n) F)=N g->g≠e)/\e<↑w:=⟨λg u b=>fK ag ac aB (by rw[u,b]),a4⟩
 have s:qu _:=fE aw (fE ay (fE a5 (fE ai (fE bb (fE ba (fE a3 (fE H a8)))))));have bf:∀k,Zn k->k<V.1.size:=λk T=>by have:=ai k T;omega
 clear aw ay a5 bb ba a3 H C hG a6 ac ag af a8 ah ax ap a1 bd;refine zw.1 (callsIn_of_wp_marks (n:=3) (fq func40 R) R trivial ?_ R);simp only[ntmps40,bZ,aP,bH,Nat.reduceAdd,Nat.reduceSub,bP,bO,cD,bQ,cA,bX];gi_wp2;rw[<-hV];clear hV;let⟨i0,hi,bl,bm,bo⟩:=yk Gv
 refine sO (gf:=75) (lb:=#[.pointer _]) R (enters_of (fq func75 R) Zm R)
  (Mw s.1) bf (λ_ _ _ _ _ h=>h) (zP.own a e c p us j f i r m _) (OO.own a c p us j f i r m _) (λaq=>DY.own a e c p us j f i r m _ aq) (λ_=>R)
  _ (λ_ _ _=>False) (SJ.own c us j Zn _ _ n w _ aA) (λ_ _ _ _ _ h=>sj h) s.2.2.2.2.2.2.1 s.2.2.2.2.2.1
  (λx B=>⟨#[U E (M n) F,.func (.func 75) #[] #[pm (N ⟨e,0,X⟩)],pm (N ⟨↑w,0,X⟩),p8,U X 0 0,pm (N ⟨B,0,X⟩),.func (.func 75) #[] #[pm (N ⟨e,0,X⟩)],.agg x.1.cells,p8,p8,p8,p8,p8],[]⟩)
  (λx W=>o6 W (pj x.1.cells 62)) (λ_ W k T=>aU W _ k T) (λ_ W=>aC) (λ_ W aa q l=>tE W aa _ q l) ?assign ?body ?done ?stop
 case assign=>
  intro aa x W K hK;simp only[DX.encs,DX.v,LV.cells]at hK⊢;gi_wp2;exact hK
 case body=>
  rintro aa pre x W0 I bu bw ⟨b0,hr⟩ ⟨o,z,A,B⟩ hc _ Y;have bc:=B.6.4;let⟨d,am,ae,an,ao,a9⟩:=s.2.1 pre x _ I Y bc
  have ak:gK ↑w ↑I ((o++[d]).map λd=>d.2.2):=by
   rw[aZ];exact B.9.append (gK.one' λg u=>⟨a9 g u,fM.lt ae.2 u⟩) bc hc.4
  have L:=B.turn hc (λb=>by have:=s.2.2.2.1 _ b;omega) s.2.2.2.2.1 s.2.2.2.1;have bs:=s.2.2.1 pre x Y.1
  have bx:M o=M pre:=by
   have:=Zf M B.1;exact ir
  have bv:=s.2.2.2.2.2.2.2.2;have bz:=hc.4;obtain⟨q,t⟩:∃q,M (n++o)=q:=⟨_,R⟩
  have bq:q<4294967296:=by rw[<-t,aN];omega
  have aj:=L.2;have az:=L.3;rw[t]at aj az;let⟨G,au,K,gk⟩:=fL I x.1.cells 62;rw[<-au];have gs:↑G=I.1.size+1:=by rw[au];simp
  clear au;unfold LV.cells at gk;let⟨k0,k1,k2,k3,k4,k5,k6,k7,kf⟩:=gS gk;have bG:Ye G ↑w 35 (U z q A):=oy (K.5 _ aj.lt) aj;have m0:=bG.cell;have qG:=az.fF K;have Hc:qu _:=fE bG (fE qG (fE Y (fE L (fE hc (fE am (fE ae (fE an (fE K (fE t (fE B (fE ao ak)))))))))));clear bG qG Y L hc am ae an ao a9 ak K t B hr aj az gk;gi_wp2_with (gi_at_builtin;refine qw _ (by rfl) (sn 8) (sn 10) 35 (by rfl) 62 i0 _ 8 96 (uq qbi) hi bl bm bo (by rfl) aB _ q _ (by rfl) (Hc.2.1.fF (pb (aH _ G) fI _)) ⟨I.1.size+1,0,X⟩ 1 1 x.1.cells.1 (by rfl) aB (by rfl) (by intro bp b1 l;rw[<-gs];unfold LV.cells at l;match bp,l with|0,l=>(simp at l;subst l;simp[sf])|1,l=>(simp at l;subst l;simp[sf])|2,l=>(simp at l;subst l;simp[sf])|3,l=>(simp at l;subst l;simp[sf])|4,l=>(simp at l;subst l;simp[sf])|5,l=>(simp at l;subst l;simp[sf])|6,l=>(simp at l;subst l;simp[sf])|7,l=>(simp at l;subst l;simp[sf])) (by intro bp l;unfold LV.cells at l;simp at l;rcases l with rfl|rfl|rfl|rfl|rfl|rfl|rfl|rfl<;>rfl) aE aA ?_;intro g ab Q w4 ad P;have J:Ye w4 ↑w 35 (U z q A):=P.keep (Hc.2.1.fF (pb (aH _ G) fI _)) (Hc.1.alloc _) aB;have n0:=J.cell;have n1:=J.frozen;have HF:qu _:=fE ad (fE P J);clear ad P J)
  let⟨ad,P,J⟩:=HF.out;let⟨bG,qG,Y,L,hc,am,ae,an,K,t,B,ao,ak⟩:=Hc.out;have e1:Ye (o3 w4 ⟨↑w,0,X⟩ (U (N ⟨g,ab,X⟩) (q+1) Q)) ↑w 35 (U (N ⟨g,ab,X⟩) (q+1) Q):=J.set _;have a7:=pb (aH _ G) fI (pj x.1.cells 62);have bh:=qG.fF a7
  have e2:fM (o3 w4 ⟨↑w,0,X⟩ (U (N ⟨g,ab,X⟩) (q+1) Q)) 62 8 (U (N ⟨g,ab,X⟩) (q+1) Q) (q+1) ((n++o).flatMap gA++gA d):=by
   rw[an];exact ad.gE (fT.set w4 _ 0 _) (λD hq b=>fK ad J aB (by rw[hq,b]))
  have S:fT (λk=>ov (U z q A)=N k\/k=w.1.size) I (o3 w4 ⟨↑w,0,X⟩ (U (N ⟨g,ab,X⟩) (q+1) Q)):=
   (((fT.fF K fI _).trans (fT.fF a7 fI (λ_=>False)) (λ_ _ b=>sj b)).trans P.gE (λk _ b=>rr b)).trans (fT.set w4 _ 0 _) (λk _ b=>rz b)
  have bg:KeepsOthers G (o3 w4 ⟨↑w,0,X⟩ (U (N ⟨g,ab,X⟩) (q+1) Q)):=((KeepsOthers.alloc G _).trans (P.others bh)).trans (KeepsOthers.setCell _ _ _);rw[<-t]at S e1 e2
  let⟨hT,a2⟩:=L.more am ae S e1 e2 (λD hq=>by
   rw[t];have hq:g=D:=by simpa[ov]using hq
   subst hq;obtain D|D:=P.own
   .exact rr D
   .refine rz ?_;have l:(o6 G (pj x.1.cells 62)).1.size<=g:=D;simp at l;omega) fI ao ak
  rw[t]at S hT a2;refine⟨bg.from _,?_,?_,_,_,_,a2⟩
  .obtain⟨⟨bp,h1,h2⟩,l⟩:=Y.2.2.2.2;refine⟨⟨bp,h1.typed S hT,h2⟩,?_⟩;refine oy (qz (S.5 e (cV I _ l) ?_)) l;rintro(b|b)
   .rw[<-t]at b;obtain D|D:=L.5 e b
    .exact av.1 e D R
    .have:=av.2;omega
   .have:=av.2;omega
  .intro k bp l;refine oy (S.5 k l ?_) (si (K.5 k l));rintro(b|b)
   .rw[<-t]at b;have:=B.3.lt b;omega
   .have:=B.7;omega
 case done=>
  rintro D Q W0 W C ab t ⟨o,z,A,K⟩ hc _ J hK;have B:=K.turn hc (λb=>by have:=s.2.2.2.1 _ b;omega) s.2.2.2.2.1 s.2.2.2.1;have m0:=B.2.cell;have L:=grownBy_putObj' W D (uu X)
  let⟨M',I,G,P⟩:=jD (n:=w.1.size) L (λY b=>by
   have b:D=Y:=by simpa using b
   subst b;exact⟨aA,_,hK,R⟩)
  have l:=B.kM I G P;have q:OO a c p us j f i r m Q (rq W D (uu X)):=DA.own J I G;have S:qu _:=fE l (fE q t);clear K B l J q hc I G P L t;gi_wp2;refine⟨aC,rr ⟨_,_,R,run_takeDeferred hK,?_⟩⟩;let⟨l,q,t⟩:=S.out;exact⟨_,by simp[results,results40,go_sem],Q,o,z,A,R,t,l.1,l.3,λd y=>⟨(l.4 d y).1,(l.4 d y).2⟩,q,l.6,l.5,l.8,l.9⟩
 case stop=>
  rintro D c pre l W C q _ h;exact sj h
end Hm
namespace Hm
open Go.RowKit Go.Joins Go.Shelf
def Fh(a w):tf PQ 41 #[pm (N ⟨a,0,X⟩)] w λe b=>e=qs (.func (.func 75) #[] #[pm (N ⟨w.1.size,0,X⟩)])/\b=o6 w (pj #[pm (N ⟨a,0,X⟩)] 93):=by go_enter (fq func41 R),ntmps41;go_wp2;go_ret;exact⟨R,R⟩
open Fr (fG)
open Dv (Zq)
section
variable {J A I F B C a b d e f h i k g z j l m o p q r s t u v x y G D E K:po}{Q:qaC->Act->pn->Prop}
noncomputable def Il:vy:=match yq.9 with
 |some (qv c _)=>c
 |_=>.skip
noncomputable def Bs:vy:=match yq.9 with
 |some (qv _ (qv c _))=>c
 |_=>.skip
noncomputable def AK:vy:=match yq.9 with
 |some (qv _ (qv _ (qv c _)))=>c
 |_=>.skip
noncomputable def G7:vy:=match yq.9 with
 |some (qv _ (qv _ (qv _ (qv c _))))=>c
 |_=>.skip
noncomputable def Hu:vy:=match yq.9 with
 |some (qv _ (qv _ (qv _ (qv _ (qv c _)))))=>c
 |_=>.skip
noncomputable def Ie:vy:=match yq.9 with
 |some (qv _ (qv _ (qv _ (qv _ (qv _ (qv (qv c _) _))))))=>c
 |_=>.skip
noncomputable def allL:vy:=match yq.9 with
 |some (qv _ (qv _ (qv _ (qv _ (qv _ (qv (qv _ (.block _ (.loop c))) _))))))=>c
 |_=>.skip
noncomputable def xA:vy:=match yq.9 with
 |some (qv _ (qv _ (qv _ (qv _ (qv _ (qv _ (qv c _)))))))=>c
 |_=>.skip
noncomputable def Ap:vy:=match allL with
 |qv c _=>c
 |_=>.skip
noncomputable def Bz:vy:=match allL with
 |qv _ (qv _ (qv (.block _ (qv c _)) _))=>c
 |_=>.skip
noncomputable def tT:vy:=match allL with
 |qv _ (qv _ (qv (.block _ (qv _ (qv c _))) _))=>c
 |_=>.skip
noncomputable def uz:vy:=match allL with
 |qv _ (qv _ (qv (.block _ (qv _ (qv _ c))) _))=>c
 |_=>.skip
noncomputable def tV:vy:=match allL with
 |qv _ (qv _ (qv _ c))=>c
 |_=>.skip
def MG:yq.9=N (qv Il (qv Bs (qv AK (qv G7 (qv Hu (qv (qv Ie (.block 0 (.loop allL))) (qv xA .ret))))))):=Zm
def DN:allL=qv Ap (qv (.cond (sn 21) .skip (.exit 0)) (qv (.block 1 (qv Bz (qv tT uz))) tV)):=Zm
def TU{K D E}(c:Cf)(w)(n:Q .normal ⟨#[we #[ox sr c.1,ox sr c.2,ox pg c.3,ox pg c.4,ox pg c.5,ox pg c.6,ox pg c.7],J,pm (N ⟨w.1.size,0,X⟩),A,U X 0 0,ox pg 0,I,F,B,C,a,b,d,e,f,h,i,k,g,z,j,l,m,o,p,q,r,s,t,u,v,x,y],[]⟩ (o6 w (pj #[ox sr c.1,ox sr c.2,ox pg c.3,ox pg c.4,ox pg c.5,ox pg c.6,ox pg c.7] 24))):Il.wp PQ Q ⟨#[we #[ox sr c.1,ox sr c.2,ox pg c.3,ox pg c.4,ox pg c.5,ox pg c.6,ox pg c.7],J,K,A,D,E,I,F,B,C,a,b,d,e,f,h,i,k,g,z,j,l,m,o,p,q,r,s,t,u,v,x,y],[]⟩ w:=by
 simp only[Il,yq];go_wp2;exact n
def Su{a b d}(c n w)(W:Z w ⟨n,0,X⟩=N (ox sr c.1))(Y:Z w ⟨n,1,X⟩=N (ox sr c.2))(k2:Z w ⟨n,2,X⟩=N (ox pg c.3))(k3:Z w ⟨n,3,X⟩=N (ox pg c.4))(k4:Z w ⟨n,4,X⟩=N (ox pg c.5))(k5:Z w ⟨n,5,X⟩=N (ox pg c.6))(k6:Z w ⟨n,6,X⟩=N (ox pg c.7))(P:fR c=pw)(O:∀L,Below w.1.size w L->Q .normal ⟨#[G,J,pm (N ⟨n,0,X⟩),A,D,E,I,F,B,C,we #[ox sr c.1,ox sr c.2,ox pg c.3,ox pg c.4,ox pg c.5,ox pg c.6,ox pg c.7],rh pw,rh pi,e,f,h,i,k,g,z,j,l,m,o,p,q,r,s,t,u,v,x,y],[]⟩ L):Bs.wp PQ Q ⟨#[G,J,pm (N ⟨n,0,X⟩),A,D,E,I,F,B,C,a,b,d,e,f,h,i,k,g,z,j,l,m,o,p,q,r,s,t,u,v,x,y],[]⟩ w:=by
 have K:=yJ c w;rw[P]at K;have H:qu _:=K;have S:qu _:=O;clear K O P;simp only[Bs,yq];go_wp2_with (go_at_call 36;refine aO H.out ?_;rintro V w5 ⟨rfl,T⟩)
 exact S _ T
def Gw{D E a b d}(c n w)(W:Z w ⟨n,0,X⟩=N (ox sr c.1))(Y:Z w ⟨n,1,X⟩=N (ox sr c.2))(k2:Z w ⟨n,2,X⟩=N (ox pg c.3))(k3:Z w ⟨n,3,X⟩=N (ox pg c.4))(k4:Z w ⟨n,4,X⟩=N (ox pg c.5))(k5:Z w ⟨n,5,X⟩=N (ox pg c.6))(k6:Z w ⟨n,6,X⟩=N (ox pg c.7))(P:fR c=pi)(O:∀L,Below w.1.size w L->Q .ret ⟨#[G,J,pm (N ⟨n,0,X⟩),A,U X 0 0,ox pg 1,I,F,B,C,we #[ox sr c.1,ox sr c.2,ox pg c.3,ox pg c.4,ox pg c.5,ox pg c.6,ox pg c.7],rh pi,rh pw,e,f,h,i,k,g,z,j,l,m,o,p,q,r,s,t,u,v,x,y],[]⟩ L):Bs.wp PQ Q ⟨#[G,J,pm (N ⟨n,0,X⟩),A,D,E,I,F,B,C,a,b,d,e,f,h,i,k,g,z,j,l,m,o,p,q,r,s,t,u,v,x,y],[]⟩ w:=by
 have K:=yJ c w;rw[P]at K;have H:qu _:=K;have S:qu _:=O;clear K O P;simp only[Bs,yq];go_wp2_with (go_at_call 36;refine aO H.out ?_;rintro V w5 ⟨rfl,T⟩)
 exact S _ T
def TV{e f h}(c n J ps w)(T:iy w (U c n J) ps)(S:M ps<=4294967296)(iO:gB (ps.map p9)=pw)(P:∀O,Below w.1.size w O->Q .normal ⟨#[G,U c n J,K,A,D,E,I,F,B,C,a,b,d,U c n J,rh pw,rh pi,i,k,g,z,j,l,m,o,p,q,r,s,t,u,v,x,y],[]⟩ O):AK.wp PQ Q ⟨#[G,U c n J,K,A,D,E,I,F,B,C,a,b,d,e,f,h,i,k,g,z,j,l,m,o,p,q,r,s,t,u,v,x,y],[]⟩ w:=by
 have L:=Bo _ ps w T S;rw[iO]at L;have H:qu _:=L;have V:qu _:=P;clear L P iO T S;simp only[AK,yq];go_wp2_with (go_at_call 37;refine aO H.out ?_;rintro Y w5 ⟨rfl,W⟩)
 exact V _ W
def Ff{D E e f h}(c n J ps w)(T:iy w (U c n J) ps)(S:M ps<=4294967296)(iO:gB (ps.map p9)=pi)(P:∀O,Below w.1.size w O->Q .ret ⟨#[G,U c n J,K,A,U X 0 0,ox pg 2,I,F,B,C,a,b,d,U c n J,rh pi,rh pw,i,k,g,z,j,l,m,o,p,q,r,s,t,u,v,x,y],[]⟩ O):AK.wp PQ Q ⟨#[G,U c n J,K,A,D,E,I,F,B,C,a,b,d,e,f,h,i,k,g,z,j,l,m,o,p,q,r,s,t,u,v,x,y],[]⟩ w:=by
 have L:=Bo _ ps w T S;rw[iO]at L;have H:qu _:=L;have V:qu _:=P;clear L P iO T S;simp only[AK,yq];go_wp2_with (go_at_call 37;refine aO H.out ?_;rintro Y w5 ⟨rfl,W⟩)
 exact V _ W
def Sp{I}(w)(c:Q .normal ⟨#[G,J,K,A,D,E,U X 0 0,F,B,C,a,b,d,e,f,h,i,k,g,z,j,l,m,o,p,q,r,s,t,u,v,x,y],[]⟩ w):G7.wp PQ Q ⟨#[G,J,K,A,D,E,I,F,B,C,a,b,d,e,f,h,i,k,g,z,j,l,m,o,p,q,r,s,t,u,v,x,y],[]⟩ w:=by
 simp only[G7,yq];go_wp2;exact c
def SK{F i k}(c n w)(W:Z w ⟨n,0,X⟩=N (ox sr c.1))(Y:Z w ⟨n,1,X⟩=N (ox sr c.2))(k2:Z w ⟨n,2,X⟩=N (ox pg c.3))(k3:Z w ⟨n,3,X⟩=N (ox pg c.4))(k4:Z w ⟨n,4,X⟩=N (ox pg c.5))(k5:Z w ⟨n,5,X⟩=N (ox pg c.6))(k6:Z w ⟨n,6,X⟩=N (ox pg c.7))(L:∀K,K=o6 (o6 (o6 w (pj (fP c) 24)) (.map #[] 0)) (pj (gD c (U X 0 0) (w.1.size+1) (U X 0 0) (U X 0 0) 0 0 0) 137)->Q .normal ⟨#[G,J,pm (N ⟨n,0,X⟩),A,D,E,I,pm (N ⟨w.1.size+2,0,X⟩),B,C,a,b,d,e,f,h,we #[ox sr c.1,ox sr c.2,ox pg c.3,ox pg c.4,ox pg c.5,ox pg c.6,ox pg c.7],pm (N ⟨w.1.size+2,0,X⟩),g,z,j,l,m,o,p,q,r,s,t,u,v,x,y],[]⟩ K):Hu.wp PQ Q ⟨#[G,J,pm (N ⟨n,0,X⟩),A,D,E,I,F,B,C,a,b,d,e,f,h,i,k,g,z,j,l,m,o,p,q,r,s,t,u,v,x,y],[]⟩ w:=by
 have O:=new_any c w;have H:qu _:=O;have S:qu _:=L;clear O L;simp only[Hu,yq];go_wp2_with (go_at_call 38;refine aO H.out ?_;rintro V w5 ⟨rfl,P⟩;have T:qu _:=P;clear P)
 exact S _ T.out
def Sa{g z j}(c n H w)(J:Q .normal ⟨#[G,U c n H,K,A,D,E,I,F,B,C,a,b,d,e,f,h,i,k,U c n H,ox pg n,ox pg 0,l,m,o,p,q,r,s,t,u,v,x,y],[]⟩ w):Ie.wp PQ Q ⟨#[G,U c n H,K,A,D,E,I,F,B,C,a,b,d,e,f,h,i,k,g,z,j,l,m,o,p,q,r,s,t,u,v,x,y],[]⟩ w:=by
 simp only[Ie,yq];go_wp2;exact J
def Nb{l}(j n:Nat)(w)(c:Q .normal ⟨#[G,J,K,A,D,E,I,F,B,C,a,b,d,e,f,h,i,k,g,ox pg n,ox pg j,rh (decide (j<n)),m,o,p,q,r,s,t,u,v,x,y],[]⟩ w):Ap.wp PQ Q ⟨#[G,J,K,A,D,E,I,F,B,C,a,b,d,e,f,h,i,k,g,ox pg n,ox pg j,l,m,o,p,q,r,s,t,u,v,x,y],[]⟩ w:=by
 simp only[Ap,allL,yq];go_wp2;exact c
def SP{C m o}(g c n vc j id T P V S H O L w)(hj:j<n)(k0:Z w ⟨g,c+j*4,X⟩=N (ox pg id))(k1:Z w ⟨g,c+j*4+1,X⟩=N (ox pg T))(k2:Z w ⟨g,c+j*4+2,X⟩=N (U P V S))(k3:Z w ⟨g,c+j*4+3,X⟩=N (U H O L))(Y:∀W,W.1=(o6 w (pj #[ox pg id,ox pg T,U P V S,U H O L] 42)).1->Q .normal ⟨#[G,J,K,A,D,E,I,F,B,pm (N ⟨w.1.size,0,X⟩),a,b,d,e,f,h,i,k,U (N ⟨g,c,X⟩) n vc,z,ox pg j,l,pm (N ⟨g,c+j*4,X⟩),we #[ox pg id,ox pg T,U P V S,U H O L],p,q,r,s,t,u,v,x,y],[]⟩ W):Bz.wp PQ Q ⟨#[G,J,K,A,D,E,I,F,B,C,a,b,d,e,f,h,i,k,U (N ⟨g,c,X⟩) n vc,z,ox pg j,l,m,o,p,q,r,s,t,u,v,x,y],[]⟩ w:=by
 have aa:(0:Int)<=j:=aA
 have ab:(j:Int)<n:=aA
 have HQ:qu _:=Y;clear Y;simp only[Bz,allL,yq];go_wp2;exact HQ _ R
def QR{x}(j w)(n:j<=4294967296)(c:Q .normal ⟨#[G,J,K,A,D,E,I,F,B,C,a,b,d,e,f,h,i,k,g,z,ox pg ((j+1:Nat):Int),l,m,o,p,q,r,s,t,u,v,ox pg ((j+1:Nat):Int),y],[]⟩ w):tV.wp PQ Q ⟨#[G,J,K,A,D,E,I,F,B,C,a,b,d,e,f,h,i,k,g,z,ox pg j,l,m,o,p,q,r,s,t,u,v,x,y],[]⟩ w:=by
 have hw:IntKind.i64.wrap ((j:Int)+1)=((j+1:Nat):Int):=gj
 simp only[tV,allL,yq];go_wp2;exact c
def Pe{D E y}(c n H w)(I:Q .normal ⟨#[G,J,K,A,U c n H,ox pg 0,U c n H,F,B,C,a,b,d,e,f,h,i,k,g,z,j,l,m,o,p,q,r,s,t,u,v,x,U c n H],[]⟩ w):xA.wp PQ Q ⟨#[G,J,K,A,D,E,U c n H,F,B,C,a,b,d,e,f,h,i,k,g,z,j,l,m,o,p,q,r,s,t,u,v,x,y],[]⟩ w:=by
 simp only[xA,yq];go_wp2;exact I
def P3{s t u v}(H I O L)(P:Option zm->Nat->Nat->pn->Prop)(w)(hc:tf PQ 40 #[U I O L,.func (.func 75) #[] #[pm (N ⟨w.1.size,0,X⟩)]] (o6 w (pj #[pm (N ⟨H,0,X⟩)] 93)) (λaa S=>∃c F n,aa=qs (U c F n)/\P c F n S))(V:∀c F n S,P c F n S->Q .normal ⟨#[G,J,K,A,D,E,U c F n,pm (N ⟨H,0,X⟩),B,C,a,b,d,e,f,h,i,k,g,z,j,l,m,o,p,q,r,U I O L,pm (N ⟨H,0,X⟩),.func (.func 75) #[] #[pm (N ⟨w.1.size,0,X⟩)],U c F n,x,y],[]⟩ S):uz.wp PQ Q ⟨#[G,J,K,A,D,E,U I O L,pm (N ⟨H,0,X⟩),B,C,a,b,d,e,f,h,i,k,g,z,j,l,m,o,p,q,r,s,t,u,v,x,y],[]⟩ w:=by
 have W:qu _:=Fh H w;have Y:qu _:=hc;have HQ:qu _:=V;clear hc V;simp only[uz,allL,yq];go_wp2_with (first|(go_at_call 41;refine aO W.out ?_;rintro e5 w5 ⟨rfl,rfl⟩)|(go_at_call 40;refine aO Y.out ?_;rintro e6 w6 ⟨c,F,n,rfl,T⟩;have HR:qu _:=T;clear T))
 exact HQ _ _ _ _ HR.out
end
end Hm
namespace Pa
open Go Go.Conc Go.RowKit Go.Joins
open Hm (iq gN fP gD TS gQ lU iy AL PC PB PW PU fS jL gA hZ Il Bs AK G7 Hu Ie allL Ap Bz tT uz tV xA)
open Dv (Zq)
open Po hiding Zq H B IT PR NB
section
variable {v:po}{s n:Nat}{xs:List po}
def RS{t:Array po}(h:qd t=33):∃b c p B F G H I J K d e f g i j k m n o q r s u v w x y z A C D E,t=#[b,c,p,B,F,G,H,I,J,K,d,e,f,g,i,j,k,m,n,o,q,r,s,u,v,w,x,y,z,A,C,D,E]:=by
 obtain⟨l⟩:=t;replace h:M l=33:=h
 iterate 33 (obtain⟨_,l,rfl,a⟩:=Hm.Bb h;clear h;have h:=a;clear a)
 obtain rfl:=tt.1 h
 grind
structure SL(a:Act)(v va:po)(kb n j:Nat):Prop where
 sz:qd a.1=33
 df:a.2=[]
 t1:a.1[1]? =N v
 t6:a.1[6]? =N va
 t7:a.1[7]? =N (iq kb)
 t18:a.1[18]? =N v
 t19:a.1[19]? =N (ox pg n)
 t20:a.1[20]? =N (ox pg j)
def GX{a b c}(d:a[4]? =N b)(e:a[5]? =N c)(w):(results yq a).run PQ w=.ok (sh #[b,c]) w:=by simp[results,results12,go_sem,d,e]
def Dh{w w' ps}(h:iy w v ps)(q:w'.1=w.1):iy w' v ps:=⟨Hm.Rd.heap h.1 q,λp a=>(h.2 p a).heap q⟩
def xT{w a c}(h:w.1[a]? =N (pj (fP c) 24 (0,0)))(i):Z w ⟨a,i,X⟩=(fP c)[i]?:=aG h _
section
variable {w w':pn}{kb nb:Nat}{c:Cf}{vu:po}{us:List PB}{dl:Nat->List (List UInt8)}{vo vw:po}{ws:List PW}{nm:AL}{os:List PC}{cnt ep sq:Nat}
def TS.Xu(h:TS w kb nb c vu us dl vo vw ws nm os cnt ep sq){j cs}{t:Nat}{f}(a:w.1[j]? =N (pj cs t f))(t1:t≠137)(g:t≠139)(i:t≠150)(b:t≠197)(d:t≠201):¬Tk kb nb vu vo vw os j:=by
 rintro(e|e|e|e)
 .exact h.wI a t1 b d (rr e)
 .exact Hm.fK h.1.2 a g e
 .exact Hm.fK h.1.3 a i e
 .exact h.wI a t1 b d (rz e)
def wV(h:TS w kb nb c vu us dl vo vw ws nm os cnt ep sq)(hc:gQ (Tk kb nb vu vo vw os) w w'){e}(a:Hm.fM w e s v n xs)(t1:e≠137)(f:e≠139)(i:e≠150)(j:e≠197)(k:e≠201):Hm.fM w' e s v n xs:=
 a.kept (λg b=>hc.2 g (a.lt b) (by
  let⟨l,d⟩:=a.obj b;exact TS.Xu h d t1 f i j k))
def TS.drawn(h:TS w kb nb c vu us dl vo vw ws nm os cnt ep sq){l m d f j}(o:Hm.nT w' kb c vu us dl nb vo l m d f j){a}(s:Hm.fM w 62 8 a n xs)(hc:gQ (λk=>(k=kb\/ov vw=N k)\/ov a=N k) w w')(q:ov a≠N 1):TS w' kb nb c vu us dl vo l m nm os d f j:=by
 let⟨C,E,B,i,u,x,D,y,z⟩:=h.4
 have g:¬((1=kb\/ov vw=N 1)\/ov a=N 1):=by
  rintro((e|e)|e)
  .exact h.wI i u y z (rr e)
  .exact Hm.fK h.1.3 i x e
  .exact q e
 refine⟨o,?_,Hm.kO h.3 hc g,by rw[hc.2 _ h.3.pos g];grind⟩;let⟨v,t,r⟩:=hc.fake;refine(h.2.gE t (λk b=>?_)).heap (si r);rintro((rfl|e)|e)
 .exact h.2.iQ h.1.1 aB aB b
 .let⟨A,p⟩:=h.1.3.obj e;exact h.2.iQ p aB aB b
 .let⟨A,p⟩:=s.obj e;exact h.2.iQ p aB aB b
def mJ{ps}(h:iy w v ps)(hc:gQ (λ_=>False) w w'):iy w' v ps:=
 ⟨Hm.Rd.kept h.1 hc.1 (λ_ g _ a=>hc.2 g a (λe=>e)),λp b=>wG (h.2 p b) hc (λ_ _ e=>e)⟩
def RX{g}(h:Hm.Rd w s v n xs)(b:0<n)(e:ov v=N g):g<w.1.size:=by obtain⟨d,f,c,rfl,_,a,_⟩:=h.pos b;cases e;exact a
def TX(c)(f:iJ w)(m:∃hc t a,w.1[1]? =N (pj hc t a)/\t≠137/\t≠150/\t≠139/\t≠197/\t≠201)(b:w'.1=(o6 (o6 (o6 w (pj (fP c) 24)) (.map #[] 0)) (pj (gD c (U X 0 0) (w.1.size+1) (U X 0 0) (U X 0 0) 0 0 0) 137)).1):TS w' (w.1.size+2) (w.1.size+1) c (U X 0 0) [] (λ_=>[]) (U X 0 0) (U X 0 0) [] [] [] 0 0 0:=by
 have hold:∀j<w.1.size,w'.1[j]? =w.1[j]?:=λj d=>by
  rw[b,dE _ _ _ aD,dE _ _ _ aD,dE _ _ _ d]
 have h:w'.1[w.1.size+1]? =N (.map #[] 0):=by
  rw[b,dE _ _ _ aC];have:=sv (o6 w (pj (fP c) 24)) (.map #[] 0);exact ir
 have g:w'.1[w.1.size+2]? =N (pj (gD c (U X 0 0) (w.1.size+1) (U X 0 0) (U X 0 0) 0 0 0) 137 (0,0)):=by
  rw[b];have:=sv (o6 (o6 w (pj (fP c) 24)) (.map #[] 0)) (pj (gD c (U X 0 0) (w.1.size+1) (U X 0 0) (U X 0 0) 0 0 0) 137);exact ir
 have k:↑w<=w'.1.size:=by rw[b];simp;omega
 refine⟨⟨g,Hm.fM.nil _ _ _,Hm.fM.nil _ _ _,λj p a=>by simp at a,λp a=>by simp at a⟩,⟨⟨_,0,h,.nil,aC,aC,λl e=>by simp at e⟩,Hm.fM.nil _ _ _,λo a=>by simp at a,aC,λo n a=>by simp at a,λo a=>by simp at a,λp i=>by simp at i⟩,Hm.kO (Zn:=λ_=>False) f ⟨k,λj d _=>hold j d⟩ (λe=>e),by grind⟩
end
structure LI(w0:pn)(c:Cf)(ps:List PU)(kb nb:Nat)(vu:po)(us:List PB)(dl:Nat->List (List UInt8))(vo vw:po)(ws:List PW)(nm:AL)(os:List PC)(cnt ep sq:Nat)(va:po)(pl:List Hm.PL)(j:Nat)(w:pn):Prop where
 ts:TS w kb nb c vu us dl vo vw ws nm os cnt ep sq
 rm:Hm.RM c (ps.map p9) j us dl ⟨ws,cnt,ep,sq⟩ (fS nm os) (pl.map p9)
 row:Hm.fM w 62 8 va (M pl) (pl.flatMap gA)
 strs:∀p∈pl,hZ w p.2.1 p.1.6/\hZ w p.2.2 p.1.7
 osl:M os<=4440*j
 fits:jL c.7 (fS nm os)
 hdl:∀i,M (dl i)<=4294967296
 low:∀k,Tk kb nb vu vo vw os k->w0.1.size<=k
 vlow:∀g,ov va=N g->w0.1.size<=g
 gE:gQ (λ_=>False) w0 w
 own:Hm.gK ↑w0 ↑w (Hm.lv pl++ws.map Yd)
section
variable {w0 w w':pn}{c:Cf}{ps:List PU}{kb nb:Nat}{vu:po}{us:List PB}{dl:Nat->List (List UInt8)}{vo vw:po}{ws:List PW}{nm:AL}{os:List PC}{cnt ep sq:Nat}{va:po}{pl:List Hm.PL}{j:Nat}
def LI.kept(h:LI w0 c ps kb nb vu us dl vo vw ws nm os cnt ep sq va pl j w)(hc:gQ (λ_=>False) w w'):LI w0 c ps kb nb vu us dl vo vw ws nm os cnt ep sq va pl j w':=
 ⟨h.1.kept hc (λ_ _ e=>e),h.2,h.3.kept (λg b=>hc.2 g (h.3.lt b) (λe=>e)),λp a=>⟨Hm.fM.kept (h.4 p a).1 (λg b=>hc.2 g (Hm.fM.lt (h.4 p a).1 b) (λe=>e)),Hm.fM.kept (h.4 p a).2 (λg b=>hc.2 g (Hm.fM.lt (h.4 p a).2 b) (λe=>e))⟩,h.5,h.6,h.7,h.8,h.9,h.10.trans hc (λ_ _ e=>e),h.11.mono fI hc.1⟩
def Ik{o}(q:w'.1=(o6 w o).1):gQ (λ_=>False) w w':=⟨by rw[q];simp,λk a _=>by rw[q,dE _ _ _ a]⟩
def RT.count{chain s cs b}(h:Hm.RT c chain j us dl s cs b)(hc:gB chain=pw)(f:fR c=pw)(i:j<M chain):M b<=s.2:=by
 obtain a|a:=dL j
 .rw[(h.5 a).1];exact bU _
 .obtain⟨d,e,_⟩:=h.6 a;have g:=(lV hc f j aA).4;rw[<-d]at g;have:=e.1;omega
def QQ(u)(h:Dv.small u=pw):M (fV u)<=4294967296:=by have:=(lN h).2.1;have a:=dR Dv.isDep u.4;unfold fV;omega
def LI.much(h:LI w0 c ps kb nb vu us dl vo vw ws nm os cnt ep sq va pl j w)(hc:gB (ps.map p9)=pw)(a:fR c=pw)(b:j<=M (ps.map p9)):M ws+4096*M (fS nm os)<=2000000000:=by
 have hF:=(lV hc a j b).5;have d:=(gJ hc).2.1;unfold Dv.much at hF;rw[<-h.2.5,<-h.2.6,aV]at hF
 grind
end
noncomputable def ED:Array OF:=match tT with
 |.region _ ops _=>ops
 |_=>#[]
def II:∃a,tT=.region a ED pi:=⟨_,R⟩
def Dg:IS (qd ED)=[0,1,2]:=Zm
def RD(c:Cf)(us:List PB)(dl:Nat->List (List UInt8))(kb nb:Nat)(vu vo vw:po)(s:Hm.oY)(pl:List Hm.PL)(e:po)(w:pn)(b:Option zm)(n d:Nat)(W:pn):=
 ∃pre a,n=M (pl++a)/\Hm.DS c us s pre/\a.map p9=pre.map (Hm.mB c us dl)/\Hm.fM W 62 8 (U b n d) (M (pl++a)) ((pl++a).flatMap gA)/\(∀p∈pl++a,hZ W p.2.1 p.1.6/\hZ W p.2.2 p.1.7)/\Hm.OO kb c vu us dl nb vo vw s pre W/\gQ (λk=>(k=kb\/ov vw=N k)\/ov e=N k) w W/\(∀g,ov (U b n d)=N g->ov e=N g\/w.1.size<=g)/\(a.map λp=>p.2.1)=(pre.map λx=>Hm.Ac x.3)/\Hm.gK ↑w ↑W (a.map λp=>p.2.2)
section
variable {Post:Cl}{Zo A:List tg}{w0:pn}{c:Cf}{ps:List PU}{xa:Option zm}{vc:Nat}{b₀:tg}{a₀:Act}{ops:Array OF}{i:Nat}{rest:List Nat}{k:List qbe}{o:OF}
def KS{j:Nat}{p}(h:ps[j]? =N p):(ps.map p9)[j]! =p.1:=by grind
def DV(rd:Cr.ReadW)(ho:ops[i]? =N o)(hc:gB (ps.map p9)=pw)(m:fR c=pw)(bg:qd Tryz.prog.globals<=w0.1.size)(s:iy w0 (U xa (M ps) vc) ps)(bj:∀D w va (pl:List Hm.PL),Hm.fM w 62 8 va (M pl) (pl.flatMap gA)->(∀p∈pl,hZ w p.2.1 p.1.6/\hZ w p.2.2 p.1.7)->pl.map p9=(Dv.gone c (ps.map p9) (M ps)).3->gQ (λ_=>False) w0 w->Hm.gK ↑w0 ↑w (Hm.lv pl)->(∀g,ov va=N g->w0.1.size<=g)->Wq D Post Zo (b₀.at (a₀.put o.1 (sh #[va,ox pg 0])) (ri ops rest::k)) A w):∀J j,j+J=M ps->∀D w n kb nb vu us dl vo vw ws nm os cnt ep sq va pl,LI w0 c ps kb nb vu us dl vo vw ws nm os cnt ep sq va pl j w->SL n (U xa (M ps) vc) va kb (M ps) j->Wq D Post Zo ((base 12).at n [.code allL,.inLoop allL,.inBlock 0,.code (qv xA .ret)]) (b₀.at a₀ (ri ops (i::rest)::k)::A) w:=by
 have ay:=(gJ hc).2.1;have h1:=(gJ hc).1;rw[aV]at ay h1
 have b6:1<=c.3/\c.3<=8/\1<=c.4/\c.4<=8/\0<=c.5/\c.5<=100/\2<=c.6/\c.6<=20/\1<=c.7/\c.7<=4096:=by
  unfold fR at m;exact Zg m
 have b7:=aL (show 1<qd Tryz.prog.globals from Zg Zm) bg;intro J
 induction J with
 |zero=>
  intro j d D w n kb nb vu us dl vo vw ws nm os cnt ep sq va pl a y;have d:j=M ps:=aA
  obtain⟨E,C⟩:=n;obtain⟨v,u,e,p,q,f,h,l⟩:=y;dsimp only at v u e p q f h l;subst u;obtain⟨G,H,u2,u3,u4,u5,u6,u7,u8,u9,I,K,L,O,P,S,T,V,W,Y,ab,ad,ae,af,ag,ah,ai,aj,ak,am,an,ao,aq,rfl⟩:=RS v;simp only[cN,cM,cG,aI]at e p q f h l;subst e p q f h l;let⟨r,t,z⟩:=a.3.slice;subst z;rw[show Item.code allL=Item.code (qv Ap (qv (.cond (sn 21) .skip (.exit 0)) (qv (.block 1 (qv Bz (qv tT uz))) tV))) from by rw[Hm.DN]];refine Wq.seq (Wq.walk λB x Q b _=>Hm.Nb j _ _ (b _ _ (Wq.same (y:=w) (λ_ _=>R) ?_)));refine Wq.seq (Wq.cond (t:=decide _) R ?_);rw[Za (by simp[d])];refine Wq.exit (k':=[.code _]) R (Wq.seq (Wq.walk λB x Q b _=>Hm.Pe r _ t _ (b _ _ (Wq.same (y:=w) (λ_ _=>R) ?_))));refine Wq.ret λF=>Wq.leave (v:=sh #[U r _ t,.int _ 0]) (fn:=yq) R R R (fq func12 R) (GX R R) ?_;rw[dA,ho];exact bj D w _ pl a.3 a.4 (by rw[<-d];exact(a.2.9 aA).1) a.10 (a.11.less λg=>by rw[Hm.lE];omega) a.9
 |succ J ih=>
  intro j hj D w n kb nb vu us dl vo vw ws nm os cnt ep sq va pl hI hA;have B:j<M ps:=aA
  have v:j<M (ps.map p9):=by rw[aV];exact B
  obtain⟨g,b2,aj,b1,_⟩:=Hm.Rd.pos s.1 aA;cases b1;obtain⟨tm,df⟩:=n;obtain⟨sz,aq,t1,t6,t7,ag,ah,ai⟩:=hA;dsimp only at sz aq t1 t6 t7 ag ah ai;subst aq;obtain⟨u0,u1,u2,u3,u4,u5,u6,u7,u8,u9,cd,ce,cf,cg,ch,ci,cj,ck,cl,cm,cn,co,cp,cr,cs,ct,cu,cv,cw,cx,cy,cz,c4,rfl⟩:=RS sz;simp only[cN,cM,cG,aI]at t1 t6 t7 ag ah ai;subst t1 t6 t7 ag ah ai;rw[show Item.code allL=Item.code (qv Ap (qv (.cond (sn 21) .skip (.exit 0)) (qv (.block 1 (qv Bz (qv tT uz))) tV))) from by rw[Hm.DN]];refine Wq.seq (Wq.walk λt d Q h _=>Hm.Nb j _ _ (h _ _ (Wq.same (y:=w) (λ_ _=>R) ?_)));refine Wq.seq (Wq.cond (t:=decide _) R ?_);rw[Zb (by simp[B])];refine Wq.skip (Wq.seq (Wq.block (Wq.seq ?_)));obtain⟨p,Y⟩:∃p,ps[j]? =N p:=⟨_,aK B⟩
  have C:=aS Y;have T:=KS Y;have av:Dv.small p.1=pw:=by rw[<-T];exact jq _ X (gJ hc).2.2.1 j v
  let⟨k0,k1,k2,k3⟩:=(mJ s hI.10).get Y;let⟨K,L,ae⟩:=Hm.Rd.slice (s.2 p C).1;let⟨F,G,ad⟩:=Hm.Rd.slice (s.2 p C).2.1;rw[ae]at k2;rw[ad]at k3;refine Wq.walk λt d Q h _=>Hm.SP g b2 _ vc j _ _ K _ L F _ G _ B k0 k1 k2 k3 (λw2 E=>h _ _ ?_);rw[show(on w t d).1.size=w.1.size from R];have E:w2.1=(o6 w (pj #[ox pg p.1.1,ox pg p.1.2,U K (M p.1.3) L,U F (M p.1.4) G] 42)).1:=E;have a:=hI.kept (Ik E)
  have a4:w2.1[w.1.size]? =N (pj #[ox pg p.1.1,ox pg p.1.2,U K (M p.1.3) L,U F (M p.1.4) G] 42 (0,0)):=by
   rw[E];exact sv _ _
  refine Wq.seq ?_;obtain⟨cc,bs⟩:=II;rw[bs];refine Wq.region ?_;rw[Dg];obtain⟨p0,bp,bk,a5,bc⟩:∃o,ED[0]? =N o/\o.2=.move (sn 7)/\o.1=N 24/\o.6=X:=⟨_,R,R,R,R⟩
  obtain⟨p1,bq,bl,a6,bd⟩:∃o,ED[1]? =N o/\o.2=.load 42 (sn 9)/\o.1=N 25/\o.6=X:=⟨_,R,R,R,R⟩
  obtain⟨p2,br,bm,a7,bf⟩:∃o,ED[2]? =N o/\o.2=.call { callee:=.value (.func 39),args:=#[sn 24,sn 25],argTypes:=#[93,42] }/\o.1=N 26/\o.6=X:=⟨_,R,R,R,R⟩
  refine Wq.val (v:=iq kb) (x':=w2) bp bc (λt d=>by unfold rj;simp only[bk];rfl) ?_;rw[a5]
  refine Wq.val (v:=we #[ox pg p.1.1,ox pg p.1.2,U K (M p.1.3) L,U F (M p.1.4) G]) (x':=w2) bq bd (λt d=>by
   have c:=aG (show(on w2 t d).1[w.1.size]? =_ from a4);have f:=c 0;have W:=c 1;have c2:=c 2;have c3:=c 3;unfold rj;simp only[bl];simp[go_sem,td,p7,f,W,c2,c3]) ?_
  rw[a6];have ax:=(mJ s a.10).2 p C;rw[ae,ad]at ax;have s2:=a.10.1;have b8:=a.5;refine Nc rd br (Cr.iU bf) bm R R aA a.1 ax (λq e=>?ap) av m (by rw[a.2.1];omega) aA a.6 (a.much hc m aA) ?_
  case ap=>
   have a2:q<↑w0:=by
    have hu:=s.2 p C;rw[ae,ad]at hu;obtain⟨W,f⟩|⟨W,f⟩:=e
    .exact RX hu.1 W f
    .exact RX hu.2.1 W f
   exact⟨aA,λf=>by have:=a.8 q f;omega⟩
  intro D3 w3 y u x O b af H an l bo b9 a9 bw ba;rw[a7];refine Wq.done ?_;have z:=a.2.took v aA (v:=u) (cs':=fS af H) (ws':=ws++b) (by rw[T,bw,a.2.1]);rw[T]at z;have ab:=wV a.1 l a.3 aB aB aB aB aB
  have aw:∀q∈pl,hZ w3 q.2.1 q.1.6/\hZ w3 q.2.2 q.1.7:=λq e=>
   ⟨wV a.1 l (a.4 q e).1 aB aB aB aB aB,wV a.1 l (a.4 q e).2 aB aB aB aB aB⟩
  have ar:∀i,M (Sk dl (M us) p.1 i)<=4294967296:=λi=>by
   unfold Sk;split
   .exact QQ _ av
   .exact a.7 i
  have ao:=RT.count z hc m v;rw[aV]at ao;have a0:=z.good hc m v;let⟨aa,ac,bx⟩:=ab.slice;subst bx
  have r:∀q,Tk kb nb y x O H q->w0.1.size<=q:=λq e=>by
   obtain f|f:=bo q e
   .exact a.8 q f
   .omega
  refine Wq.walk λt d Q h _=>Hm.P3 kb aa _ ac (RD c (us++[(p.1.1,p.1.2,u)]) (Sk dl (M us) p.1) kb nb y x O ⟨ws++b,cnt,ep,sq⟩ pl (U aa (M pl) ac) w3) _ ?calls (λb4 n4 b5 w4 hX=>h _ _ ?_)
  case calls=>
   have f:RowKit.Below ↑w3 (on w3 t d) (o6 (on w3 t d) (pj #[pm (N ⟨kb,0,X⟩)] 93)):=pb (RowKit.Below.refl _ (on w3 t d)) fI _;have a2:TS (on w3 t d) kb nb c y (us++[(p.1.1,p.1.2,u)]) (Sk dl (M us) p.1) x O (ws++b) af H cnt ep sq:=an.heap R;refine(Hm.xV kb ↑w3 c y _ _ nb x O ⟨_,cnt,ep,sq⟩ _ pl _ a0 aA ar (a2.1.fF f) (Boxed.new _ _ _) aC ((ab.heap (w':=on w3 t d) R).fF f) (λq e=>⟨Hm.fM.fF (Hm.fM.heap (w':=on w3 t d) (aw q e).1 R) f,Hm.fM.fF (Hm.fM.heap (w':=on w3 t d) (aw q e).2 R) f⟩) ao).mono ?_;rintro W W' ⟨pre,I,a',aj,rfl,q1,q2,q3,q4,q5,q6,q7,q8,q9⟩;refine⟨a',_,aj,R,pre,I,R,q1,q2,q3,q4,q5,?_,λg hg=>(q7 g hg).imp id (λq=>aX f.4 q),q8,q9.mono f.4 fI⟩;exact((Hm.fT.fF f fI _).trans q6 (λ_ _ W=>W)).h.heaps R R
  obtain⟨pre,I,bh,ak,bb,bu,bv,P,S,ca,cb,a8⟩:=hX;subst bh;have am:=z.drawn hc m v ak;have a3:=λg=>aX (Nat.add_le_add_left (Hm.GJ c (us++[(p.1.1,p.1.2,u)]) (Hm.fW ⟨ws++b,cnt,ep,sq⟩ pre).1 (Hm.fW ⟨ws++b,cnt,ep,sq⟩ pre).2 (Hm.fW ⟨ws++b,cnt,ep,sq⟩ pre).3 g).1 _) (Hm.Og ak.1 g)
  have V:Hm.gK ↑w0 ↑w4 (Hm.lv (pl++I)++(Hm.fU c (us++[(p.1.1,p.1.2,u)]) (Hm.fW ⟨ws++b,cnt,ep,sq⟩ pre).1 (Hm.fW ⟨ws++b,cnt,ep,sq⟩ pre).2 (Hm.fW ⟨ws++b,cnt,ep,sq⟩ pre).3).2.map Yd):=by
   refine Hm.gK.drawn (us:=(ws++b).map Yd) ?_ a8 (λg=>by grind) (by have:=l.1;omega) S.1;rw[aZ,<-cZ];exact a.11.append ba s2 l.1
  clear a3;unfold Hm.OO at P;generalize au:(Hm.oY.mk (Hm.fU c (us++[(p.1.1,p.1.2,u)]) (Hm.fW ⟨ws++b,cnt,ep,sq⟩ pre).1 (Hm.fW ⟨ws++b,cnt,ep,sq⟩ pre).2 (Hm.fW ⟨ws++b,cnt,ep,sq⟩ pre).3).2 (Hm.fW ⟨ws++b,cnt,ep,sq⟩ pre).2 (Hm.fW ⟨ws++b,cnt,ep,sq⟩ pre).3 (Hm.fW ⟨ws++b,cnt,ep,sq⟩ pre).4)=s4 at P am;replace V:Hm.gK w0.1.size w4.1.size (Hm.lv (pl++I)++s4.1.map Yd):=by rw[<-au];exact V
  clear au;obtain⟨b3,az,b0⟩:=P;refine Wq.inBlock (Wq.walk λt d Q h _=>Hm.QR j _ aA (h _ _ (Wq.same (y:=w4) (λ_ _=>R) (Wq.inLoop ?_))));have bz:=a.9;have a1:=TS.drawn an az ab S (λf=>by have:=bz _ f;omega);have s3:=l.1;refine ih _ aA D3 w4 _ kb nb y _ _ x b3 _ af H _ _ _ _ _ ⟨a1,?_,bu,bv,aA,a9,ar,λq e=>?_,λg hg=>?_,?_,V⟩ ⟨R,R,R,R,R,R,R,R⟩
  .rw[aZ,bb];exact am
  .obtain f|f|f|f:=e
   .exact r q (rr f)
   .exact r q (rz (rr f))
   .exact r q (rz (rz (rr (b0 q f))))
   .exact r q (rz (rz (rz f)))
  .grind
  .refine(a.10.trans l (λq e f=>?_)).trans S (λq e f=>?_)
   .have:=a.8 q f;omega
   .obtain(f|f)|f:=f
    .have:=r q (rr f);omega
    .have:=r q (rz (rz (rr f)));omega
    grind
end
structure oE(w:pn):Prop where
 hd:iJ w
 ty:∃hc t fz,w.1[1]? =N (pj hc t fz)/\t≠137/\t≠150/\t≠139/\t≠197/\t≠201
def oE.kept{w w'}(h:oE w)(hc:gQ (λ_=>False) w w'):oE w':=⟨Hm.kO h.1 hc (λe=>e),by rw[hc.2 _ h.1.pos (λe=>e)];exact h.2⟩
section
variable {Post:Cl}{D:Nat->Prop}{Zo A:List tg}{w:pn}{c:Cf}{ps:List PU}{xa:Option zm}{vc:Nat}
def Ql(rd:Cr.ReadW){b₀:tg}{a₀ ops i rest k o x L O}(z:ops[i]? =N o)(hw:sy o (yielded ops a₀.1)=pw)(af:o.2=.call { callee:=.value (.func 12),args:=#[x,L],argTypes:=O })(T:p7 a₀ x=.agg (fP c))(V:p7 a₀ L=U xa (M ps) vc)(ad:qd Tryz.prog.globals<=w.1.size)(J:iy w (U xa (M ps) vc) ps)(H:M ps<=4294967296)(W:oE w)(ae:∀D' w' va (pl:List Hm.PL),Hm.fM w' 62 8 va (M pl) (pl.flatMap gA)->(∀p∈pl,hZ w' p.2.1 p.1.6/\hZ w' p.2.2 p.1.7)->pl.map p9=(Dv.all c (ps.map p9)).2->gQ (λ_=>False) w w'->Hm.gK ↑w ↑w' (Hm.lv pl)->(∀g,ov va=N g->w.1.size<=g)->Wq D' Post Zo (b₀.at (a₀.put o.1 (sh #[va,ox pg (Dv.all c (ps.map p9)).1])) (ri ops rest::k)) A w'):Wq D Post Zo (b₀.at a₀ (ri ops (i::rest)::k)) A w:=by
 refine Wq.call z hw af (fq func12 R) R Hm.MG ?_;simp only[dC,cL,dB,T,V,show yq.7=33 from R,bZ,aP,bH,Nat.reduceAdd,Nat.reduceSub,bP,bO,cD,bQ,cA,bX]
 have bad:∀(n:Act)(w':pn)(m:List qbe)(s:Int),n.2=[]->n.1[4]? =N (U X 0 0)->n.1[5]? =N (ox pg s)->gQ (λ_=>False) w w'->Dv.all c (ps.map p9)=(s,[])->Wq D Post Zo { (base 12).at n m with mode:=.returning } (b₀.at a₀ (ri ops (i::rest)::k)::A) w':=by
  intro n w' m s f j p y e;refine Wq.leave (v:=.tuple _) (fn:=yq) R f R (fq func12 R) (GX j p) ?_;rw[dA,z];have:=ae D w' _ [] (Hm.fM.nil _ _ _) (λC B=>by simp at B) (by rw[e];rfl) y (Hm.gK.nil _ _) (λg B=>by cases B);exact my
 refine Wq.seq (Wq.walk λt d Q b _=>Hm.TU c _ (b _ _ (Wq.same (y:=o6 w (pj (fP c) 24)) (λ_ _=>R) ?_)));obtain⟨w1,K,-,u⟩:=fL w (fP c) 24;have r:gQ (λ_=>False) w w1:=Ik (by rw[K]);have S:∀{v:pn},gQ (λ_=>False) w1 v->v.1[w.1.size]? =N (pj (fP c) 24 (0,0)):=λh=>oy (h.2 _ (fO u) (λe=>e)) u;have q:∀{E v:pn} {t d},RowKit.Below ↑E (on E t d) v->gQ (λ_=>False) E v:=λh=>((Hm.fT.fF h fI _).h).heaps R R;rw[<-K];refine Wq.seq ?_;have a:=λt d=>xT (w:=on w1 t d) u;cases l:fR c with
 |false=>exact Wq.walk λt d Q _ f=>Hm.Gw c _ _ (a t d 0) (a t d 1) (a t d 2) (a t d 3) (a t d 4) (a t d 5) (a t d 6) l (λw2 j=>f _ _ λm=>bad _ w2 m 1 R R R (r.trans (q (E:=w1) j) (λ_ _ e=>e)) (by unfold Dv.all;rw[l];rfl))
 |true=>
  refine Wq.walk λt d Q b _=>Hm.Su c _ _ (a t d 0) (a t d 1) (a t d 2) (a t d 3) (a t d 4) (a t d 5) (a t d 6) l (λw2 aa=>b _ _ ?_);have y:gQ (λ_=>False) w1 w2:=q aa;have I:=mJ J (r.trans y (λ_ _ e=>e));refine Wq.seq ?_;cases iO:gB (ps.map p9)with
  |false=>exact Wq.walk λt d Q _ f=>Hm.Ff xa _ vc ps _ (Dh I R) H iO (λw3 j=>f _ _ λm=>bad _ w3 m 2 R R R ((r.trans y (λ_ _ e=>e)).trans (q (E:=w2) j) (λ_ _ e=>e)) (by unfold Dv.all;rw[l,iO];rfl))
  |true=>
   refine Wq.walk λt d Q b _=>Hm.TV xa _ vc ps _ (Dh I R) H iO (λw3 ab=>b _ _ ?_);have G:=y.trans (q (E:=w2) ab) (λ_ _ e=>e);have P:=S G;have f:=λt d=>xT (w:=on w3 t d) P;refine Wq.seq (Wq.walk λt d Q b _=>Hm.Sp _ (b _ _ (Wq.same (y:=w3) (λ_ _=>R) (Wq.seq ?_))));refine Wq.walk λt d Q b _=>Hm.SK c _ _ (f t d 0) (f t d 1) (f t d 2) (f t d 3) (f t d 4) (f t d 5) (f t d 6) (λw4 ag=>b _ _ ?_);have B:w4.1=(o6 (o6 (o6 w3 (pj (fP c) 24)) (.map #[] 0)) (pj (gD c (U X 0 0) (w3.1.size+1) (U X 0 0) (U X 0 0) 0 0 0) 137)).1:=by rw[ag];rfl
   have p:=r.trans G (λ_ _ e=>e);have s3:=p.1;have F:=W.kept p;have Y:=TX c F.1 F.2 B
   have ac:gQ (λ_=>False) w3 w4:=⟨by rw[B];simp;omega,λj hj _=>by
    rw[B,dE _ _ _ aD,dE _ _ _ aD,dE _ _ _ hj]⟩
   refine Wq.seq (Wq.seq (Wq.walk λt d Q b _=>Hm.Sa xa _ vc _ (b _ _ (Wq.same (y:=w4) (λ_ _=>R) (Wq.block (Wq.loop ?_))))))
   refine DV rd z iO l ad J ?_ (M ps) 0 aA D w4 _ _ _ _ [] _ _ _ [] [] [] 0 0 0 _ [] ⟨Y,Hm.RM.start _ _ _,Hm.fM.nil _ _ _,λap hp=>by simp at hp,aC,λx C=>by simp[fS]at C,λi=>aC,λaq hq=>by
     obtain e|e|e|e|e|⟨x,C,_⟩:=hq
     .omega
     .cases e
     .cases e
     .omega
     .cases e
     .simp at C,λg hg=>(by cases hg),p.trans ac (λ_ _ e=>e),Hm.gK.nil _ _⟩ ⟨R,R,R,R,R,R,R,R⟩
   intro D7 w7 va pl am an ak ai aj ao
   have ah:Dv.all c (ps.map p9)=(0,(Dv.gone c (ps.map p9) (M ps)).3):=by
    unfold Dv.all;rw[l,iO,aV];rfl
   grind
end
end
end Pa
namespace Hm
open Go.RowKit Go.Joins Go.Shelf
open Dv (Zq)
variable {w w':pn}{n:Nat}
def oH:ByteArray:=⟨#[115,112,97,114,101]⟩
def nR:List po:=[ox sr 77,ox sr 0,pk oH]
structure tq(w:pn)(u:Zq)(v1 v2:po):Prop where
 txs:∃g off cap,v1=U (N ⟨g,off,X⟩) (M u.3) cap/\fM w 68 3 (U (N ⟨g,off,X⟩) (M u.3+1) cap) (M u.3+1) (u.3.flatMap iZ++nR)
 logs:∃g off cap,v2=U (N ⟨g,off,X⟩) (M u.4) cap/\fM w 9 1 (U (N ⟨g,off,X⟩) (M u.4+1) cap) (M u.4+1) (u.4.map jP++[pk oH])
def Hg{s c a xs}(h:Rd w s (U a n c) n xs):0<n->∃b,a=N b/\∀j u,xs[j]? =N u->Z w (b.add j)=N u:=λf=>by
 obtain⟨g,l,k,e,-,-,i⟩:=Rd.pos h f;simp only[ry,true_and]at e;refine⟨_,e.1,λj u d=>?_⟩;have:=i j u d;unfold sf
 grind
def yQ(l):M (l.flatMap iZ)=M l*3:=jm iZ 3 (λ_=>R) l
def Sl(l:List Tx):∀u∈l.flatMap iZ,sw u=pw:=λu a=>by
 obtain⟨t,_,h⟩:=Ys.1 a;unfold iZ at h;simp at h;rcases h with rfl|rfl|rfl<;>rfl
def P5(l:List (List UInt8)):∀u∈l.map jP,sw u=pw:=λu a=>by
 obtain⟨t,_,rfl⟩:=bB.1 a;rfl
def QF:(PQ.info? 68).map (λi=>(i.8,i.3,i.4))=N (N (we #[ox sr 0,ox sr 0,pk ⟨#[]⟩]),3,24):=Zm
def xQ{v:po}(b:∀g,ov v≠N g)(h:fT (λk=>ov v=N k) w w'):Below ↑w w w':=⟨h.1,h.2,h.3,h.4,λk a=>h.5 k a (b k)⟩
def CE(u vt vl w)(h:lU w u vt vl):tf PQ 11 #[uN u vt vl] w λe w'=>∃v1 v2,e=qs (uN u v1 v2)/\tq w' u v1 v2/\(∀g,ov v1=N g\/ov v2=N g->w.1.size<=g)/\Below w.1.size w w':=by
 obtain⟨E,O,h3,h4⟩:=h;obtain⟨ta,tc,rfl⟩:=Rd.slice E;obtain⟨la,lc,rfl⟩:=Rd.slice O;unfold uN;obtain⟨ac,an⟩:∃x,u.1=x:=⟨_,R⟩
 obtain⟨ut,ao⟩:∃x,u.2=x:=⟨_,R⟩
 obtain⟨TN,Q⟩:∃x,M u.3=x:=⟨_,R⟩
 obtain⟨a,P⟩:∃x,M u.4=x:=⟨_,R⟩
 rw[an,ao,Q,P];unfold ny at E;unfold jO at O;rw[Q]at E h3;rw[P]at O h4;let⟨Zr,hX,ai,zX⟩:=fL w #[ox pg ac,ox pg ut,U ta TN tc,U la a lc] 42;let⟨Y,hY,aj,zY⟩:=fL Zr #[ox pg 0,ox pg 0,U X 0 0,U X 0 0] 42;have sX:↑Zr=w.1.size+1:=by rw[hX];simp
 have sY:↑Y=w.1.size+2:=by rw[hY];simp;omega
 have ak:=ow ai (o5 aj ai.4);have af:=oy (aj.5 _ aA) zX;rw[sX]at zY;have hF:∀V,Below ↑Y Y V->V.1[w.1.size]? =N (pj #[ox pg ac,ox pg ut,U ta TN tc,U la a lc] 42 (0,0))/\V.1[w.1.size+1]? =N (pj #[ox pg 0,ox pg 0,U X 0 0,U X 0 0] 42 (0,0)):=λV A=>⟨oy (A.5 _ aA) af,oy (A.5 _ aA) zY⟩
 have n1:=Hg (Rd.fF E ak);let⟨i1,aq,au,av,aw⟩:=yk QF;have o:qu _:=fE aq (fE au (fE av aw));let⟨i2,ar,ax,ay,az⟩:=yk mM;have p:qu _:=fE ar (fE ax (fE ay az));have l1:M (u.3.flatMap iZ)=TN*3:=by rw[yQ,Q]
 have l2:M (u.4.map jP)=a*1:=by rw[aV,P,Nat.mul_one]
 have H:qu _:=fE E (fE O (fE hF (fE n1 (fE l1 (fE l2 (fE (Sl u.3) (fE (P5 u.4) ak)))))));have HN:qu _:=fE an (fE ao (fE Q P));let⟨c0,c1,c2,c3⟩:=iP af;let⟨r0,r1,r2,r3⟩:=iP zY;have fx:=aM af;have fy:=aM zY;clear E O hF n1 l1 l2 ak zX af zY ai aj aq au av aw ar ax ay az an ao Q P;go_enter (fq func11 R),ntmps11;go_upto_region 3 with fail;rw[<-hX,<-hY];clear hX hY;go_upto_region 4 with(at_builtin;refine jI _ R (sn 5) (sn 7) 39 R 68 i1 _ 3 24 (uq underlying39) o.1 o.2.1 o.2.2.1 o.2.2.2 R aB (U X 0 0) 0 [] R (fM.nil _ _ _) ta TN tc (u.3.flatMap iZ) R H.2.2.2.2.1 H.2.2.2.1 H.2.2.2.2.2.2.1 aE aA ?_;intro a3 ag w3 n T c;have H3:qu _:=fE n (fE T c);clear n T c)
 let⟨n,T,c⟩:=H3.out;rw[cX]at c;have c:∀g,ov (U a3 TN ag)=N g->Y.1.size<=g:=λg f=>(c g f).resolve_left gh;rw[cX,cA]at n;have ae:Below ↑Y Y w3:=xQ gh T;have ap:=ow H.2.2.2.2.2.2.2.2 (o5 ae H.2.2.2.2.2.2.2.2.4);have n2:=Hg (Rd.fF H.2.1 ap);have L:qu _:=fE n (fE c (fE ae n2));clear c0 c1 c2 c3 r0 r1 r2 r3 fx fy n T c n2 ap H3;let⟨l,y⟩:=H.2.2.1 w3 ae;let⟨c0,c1,c2,c3⟩:=iP l;clear l y ae;go_upto_region 5 with(at_builtin;refine jI _ R (sn 9) (sn 11) 40 R 9 i2 _ 1 16 (uq Yl) p.1 p.2.1 p.2.2.1 p.2.2.2 R aB (U X 0 0) 0 [] R (fM.nil _ _ _) la a lc (u.4.map jP) R H.2.2.2.2.2.1 L.2.2.2 H.2.2.2.2.2.2.2.1 aE aA ?_;intro a4 ad w4 i W d;have H4:qu _:=fE i (fE W d);clear i W d)
 let⟨i,W,d⟩:=H4.out;rw[cX]at d;rw[cX,cA]at i;have ah:Below ↑w3 w3 w4:=xQ gh W;have t:=ow L.2.2.1 (o5 ah L.2.2.1.4);obtain⟨n,c,-,-⟩:=L.out;have G:=n.fF ah
 have HB:qu _:=fE G (fE i (fE c (fE (λg f=>by
  obtain e|e:=d g f
  .simp[ov]at e
  .exact aX L.2.2.1.4 e:∀g,ov (U a4 a ad)=N g->Y.1.size<=g) t)))
 have a0:qu (∀D,fM (o6 w4 D) 68 3 (U a3 TN ag) TN (u.3.flatMap iZ)):=λD=>G.fF (pb (aH _ w4) fI D);clear c0 c1 c2 c3 n c i d W ah t G H4;go_upto_region 6 with(at_builtin;refine fX _ R (sn 13) (sn 15) 39 R 68 i1 _ 3 24 (uq underlying39) o.1 o.2.1 o.2.2.1 o.2.2.2 R aB (U a3 TN ag) TN (u.3.flatMap iZ) R (a0 _) ⟨↑w4,0,X⟩ 1 1 nR R aB R (by unfold nR oH;intro a6 x j;match a6,j with|0,j=>(simp at j;subst j;simp[sf])|1,j=>(simp at j;subst j;simp[sf])|2,j=>(simp at j;subst j;simp[sf])) (by unfold nR;intro x j;simp at j;rcases j with rfl|rfl|rfl<;>rfl) aE aA ?_;intro m J q K k B;have H5:qu _:=fE k B;clear k B)
 let⟨k,B⟩:=H5.out;let⟨G,i,c,d,t⟩:=HB.out;have b:=pb (aH _ w4) fI (pj #[ox sr 77,ox sr 0,pk ⟨#[115,112,97,114,101]⟩] 68)
 have I:fM K 9 1 (U a4 a ad) a (u.4.map jP):=(i.fF b).kept λg f=>B.gE.5 g ((i.fF b).lt f) λe=>by
  let⟨a6,j⟩:=(i.fF b).obj f;exact fK (G.fF b) j aB e
 have s:Below ↑Y Y K:=ow (ow t (o5 b t.4)) (iD B c (aX t.4 b.4))
 have F:↑Y<=m:=by
  obtain e|e:=B.own
  .exact c m e
  .exact aX (aX t.4 b.4) e
 have HC:qu _:=fE k (fE I (fE s (fE F d)));have a1:qu (∀D,fM (o6 K D) 9 1 (U a4 a ad) a (u.4.map jP)):=λD=>I.fF (pb (aH _ K) fI D);clear k B G i c d t b I s F H5 HB;go_upto_region 7 with(at_builtin;refine fX _ R (sn 17) (sn 18) 40 R 9 i2 _ 1 16 (uq Yl) p.1 p.2.1 p.2.2.1 p.2.2.2 R aB (U a4 a ad) a (u.4.map jP) R (a1 _) ⟨↑K,0,X⟩ 1 1 [pk oH] R aB R (by unfold oH;intro a6 x j;match a6,j with|0,j=>(simp at j;subst j;simp[sf])) (by intro x j;simp at j;subst j;rfl) aE aA ?_;intro r ab z w6 v C;have H6:qu _:=fE v C;clear v C)
 let⟨v,C⟩:=H6.out;let⟨k,I,s,F,d⟩:=HC.out;have b:=pb (aH _ K) fI (pj #[pk ⟨#[115,112,97,114,101]⟩] 9)
 have aa:fM w6 68 3 (U (N ⟨m,J,X⟩) (TN+1) q) (TN+1) (u.3.flatMap iZ++nR):=(k.fF b).kept λg f=>C.gE.5 g ((k.fF b).lt f) λe=>by
  let⟨a6,j⟩:=(k.fF b).obj f;exact fK (I.fF b) j aB e
 have S:Below ↑Y Y w6:=ow (ow s (o5 b s.4)) (iD C d (aX s.4 b.4))
 have am:↑Y<=r:=by
  obtain e|e:=C.own
  .exact d r e
  .exact aX (aX s.4 b.4) e
 let⟨l,y⟩:=H.2.2.1 w6 S;let⟨c0,c1,c2,c3⟩:=iP l;let⟨r0,r1,r2,r3⟩:=iP y;have fx:=aM l;have fy:=aM y
 have p5:TN+1<=q:=by
  obtain⟨_,_,j,e,hc,_⟩:=aa.rd;cases e;exact hc
 have p6:a+1<=z:=by
  obtain⟨_,_,j,e,hc,_⟩:=v.rd;cases e;exact hc
 have HD:qu _:=fE aa (fE v (fE S (fE F (fE am (fE l y)))));clear v C k I s F d b aa S am l y H6 HC;have q5:(TN:Int)<=q:=aA
 have q6:(a:Int)<=z:=aA
 go_wp2;let⟨aa,v,S,F,am,l,y⟩:=HD.out;obtain⟨V,A⟩:∃V,V=o3 (o3 w6 ⟨↑w,2,X⟩ (U (N ⟨m,J,X⟩) TN q)) ⟨↑w,3,X⟩ (U (N ⟨r,ab,X⟩) a z):=⟨_,R⟩
 rw[<-A];have kV:fN [42] w6 V:=by rw[A];exact(fN.set l aC _ _).trans (fN.set (uk l (i:=2) _) aC _ _)
 have zV:V.1[w.1.size+1]? =N (pj #[ox pg 0,ox pg 0,U X 0 0,U X 0 0] 42 (0,0)):=by rw[A,aR _ _ _ _ aC,aR _ _ _ _ aC];exact y
 have a5:=ow H.2.2.2.2.2.2.2.2 (o5 S H.2.2.2.2.2.2.2.2.4);have a2:Below ↑w w V:=by rw[A];exact ph (ph a5 (p:=⟨↑w,2,X⟩) fI _) (p:=⟨↑w,3,X⟩) fI _
 have fin:=qT zV (ox pg ac) (ox pg ut) (U (N ⟨m,J,X⟩) TN q) (U (N ⟨r,ab,X⟩) a z);have kF:=(((fN.set (ts:=[42]) zV aC 0 (ox pg ac)).trans (fN.set (uk zV (i:=0) _) aC 1 (ox pg ut))).trans (fN.set (uk (uk zV (i:=0) _) (i:=1) _) aC 2 (U (N ⟨m,J,X⟩) TN q))).trans (fN.set (uk (uk (uk zV (i:=0) _) (i:=1) _) (i:=2) _) aC 3 (U (N ⟨r,ab,X⟩) a z));let⟨t0,t1,t2,t3⟩:=iP fin;refine bodyPost_ret (v:=we #[ox pg ac,ox pg ut,U (N ⟨m,J,X⟩) TN q,U (N ⟨r,ab,X⟩) a z]) (by simp[results,results11,go_sem,t0,t1,t2,t3]) R ⟨_,_,R,⟨⟨m,J,q,by rw[HN.out.2.2.1],?_⟩,⟨r,ab,z,by rw[HN.out.2.2.2],?_⟩⟩,λg f=>?_,mY a2 _ aC _ _ _ _⟩
 .rw[HN.out.2.2.1];exact aa.keeps (kV.trans kF) aB
 .rw[HN.out.2.2.2];exact v.keeps (kV.trans kF) aB
 .obtain e|e:=f
  .have:m=g:=by simpa[ov]using e
   omega
  .have:r=g:=by simpa[ov]using e
   omega
variable {j i e a cap:Nat}{xs:List po}
def jl{s}(h:M xs=n*s)(a:j<n)(b:i<s):∃u,xs[j*s+i]? =N u:=⟨_,aK (by
 rw[h];have:(j+1)*s<=n*s:=cY s a
 grind)⟩
def fM.o8{g:Nat}(h:fM w e 3 (U (N ⟨g,a,X⟩) n cap) n xs)(j:Nat)(d b c:po):fM (o3 (o3 (o3 w ⟨g,a+j*3,X⟩ d) ⟨g,a+j*3+1,X⟩ b) ⟨g,a+j*3+2,X⟩ c) e 3 (U (N ⟨g,a,X⟩) n cap) n (((xs.set (j*3) d).set (j*3+1) b).set (j*3+2) c):=by have:=((h.put (j:=j*3) d).put (j:=j*3+1) b).put (j:=j*3+2) c;omega
def fT.Pz(w g a b c x y z):fT (λk=>k=g) w (o3 (o3 (o3 w ⟨g,a,X⟩ x) ⟨g,b,X⟩ y) ⟨g,c,X⟩ z):=((fT.set w g a x).trans (fT.set _ g b y) (λ_ _ e=>e)).trans (fT.set _ g c z) (λ_ _ e=>e)
def JU(u z A w)(h:tq w u z A)(Q:M u.3<=4294967296)(S:M u.4<=4294967296):tf PQ 15 #[uN u z A] w λe w'=>e=qs (sh #[])/\fT (λk=>ov z=N k\/ov A=N k) w w':=by
 obtain⟨⟨a,d,r,rfl,f⟩,⟨c,m,n,rfl,l⟩⟩:=h;unfold uN;obtain⟨W,G⟩:∃x,u.1=x:=⟨_,R⟩
 obtain⟨Y,I⟩:∃x,u.2=x:=⟨_,R⟩
 obtain⟨TN,v⟩:∃x,M u.3=x:=⟨_,R⟩
 obtain⟨b,t⟩:∃x,M u.4=x:=⟨_,R⟩
 rw[G,I,v,t];rw[v]at f Q;rw[t]at l S;have E:∀k,(ov (U (N ⟨a,d,X⟩) TN r)=N k\/ov (U (N ⟨c,m,X⟩) b n)=N k)↔(k=a\/k=c):=λk=>by simp[ov,eq_comm]
 simp only[E];clear E G I v t;let⟨Zr,F,s,O⟩:=fL w #[ox pg W,ox pg Y,U (N ⟨a,d,X⟩) TN r,U (N ⟨c,m,X⟩) b n] 42;let⟨c0,c1,c2,c3⟩:=iP O
 have p1:TN+1<=r:=by
  obtain⟨_,_,g,e,hc,_⟩:=f.rd;cases e;exact hc
 have p2:b+1<=n:=by
  obtain⟨_,_,g,e,hc,_⟩:=l.rd;cases e;exact hc
 have q1:(TN:Int)+1<=r:=aA
 have q2:(b:Int)+1<=n:=aA
 have C:((TN+1:Nat):Int)=(TN:Int)+1:=aA
 have D:((b+1:Nat):Int)=(b:Int)+1:=aA
 have H:qu _:=fE (f.fF s) (fE (l.fF s) (fE (fT.fF s fI (λk=>k=a\/k=c)) (fE C D)));clear f l s O C D;go_enter (fq func15 R),ntmps15;go_upto_region 1 with fail;rw[<-F];clear F;go_wp2;go_loopg [4] (TN+1) (λi o g=>∃j:Nat,j<=TN+1/\o=ox pg j/\i=TN+1-j/\qu ((∃xs,fM g 68 3 (U (N ⟨a,d,X⟩) (TN+1) r) (TN+1) xs)/\(∃xs,fM g 9 1 (U (N ⟨c,m,X⟩) (b+1) n) (b+1) xs)/\fT (λk=>k=a\/k=c) w g))
 case atStart=>exact⟨0,bU _,R,R,⟨_,H.1⟩,⟨_,H.2.1⟩,H.2.2.1⟩
 case round=>
  obtain⟨j,hj,rfl,rfl,B⟩:=hrel;by_cases y:j<TN+1
  .have ab:(j:Int)<(TN:Int)+1:=by omega
   obtain⟨⟨xs,f⟩,⟨ys,l⟩,hc⟩:=B.out;let⟨x0,J⟩:=jl (i:=0) f.1 y aA;let⟨x1,K⟩:=jl (i:=1) f.1 y aA;let⟨x2,L⟩:=jl (i:=2) f.1 y aA;have m0:Z wr ⟨a,d+j*3,X⟩=N x0:=f.cell R _ _ J;have m1:Z wr ⟨a,d+j*3+1,X⟩=N x1:=by rw[cE];exact f.cell R _ _ K
   have m2:Z wr ⟨a,d+j*3+2,X⟩=N x2:=by rw[cE];exact f.cell R _ _ L
   have fz:=λi=>f.frozen R i
   have P:qu (∀o p q,(∃xs,fM (o3 (o3 (o3 wr ⟨a,d+j*3,X⟩ o) ⟨a,d+j*3+1,X⟩ p) ⟨a,d+j*3+2,X⟩ q) 68 3 (U (N ⟨a,d,X⟩) (TN+1) r) (TN+1) xs)/\(∃xs,fM (o3 (o3 (o3 wr ⟨a,d+j*3,X⟩ o) ⟨a,d+j*3+1,X⟩ p) ⟨a,d+j*3+2,X⟩ q) 9 1 (U (N ⟨c,m,X⟩) (b+1) n) (b+1) xs)/\fT (λk=>k=a\/k=c) w (o3 (o3 (o3 wr ⟨a,d+j*3,X⟩ o) ⟨a,d+j*3+1,X⟩ p) ⟨a,d+j*3+2,X⟩ q)):=λo p q=>⟨⟨_,f.o8 j o p q⟩,⟨_,l.gE (fT.Pz wr a _ _ _ o p q) λg V e=>by
    let⟨aa,T⟩:=l.obj V;exact fK f T aB (by rw[e];rfl)⟩,hc.trans (fT.Pz wr a _ _ _ o p q) λk _ e=>rr e⟩
   clear f l hc J K L;go_wp2;go_roundg (TN+1-(j+1))
   case measure=>omega
   case rel=>exact⟨j+1,aA,by go_num,R,P _ _ _⟩
  .have T:¬(j:Int)<(TN:Int)+1:=by omega
   go_wp2;go_loopg [5] (b+1) (λo p g=>∃i:Nat,i<=b+1/\p=ox pg i/\o=b+1-i/\qu ((∃xs,fM g 9 1 (U (N ⟨c,m,X⟩) (b+1) n) (b+1) xs)/\fT (λk=>k=a\/k=c) w g))
   case atStart=>exact⟨0,bU _,R,R,B.2⟩
   case round=>
    obtain⟨i,P,rfl,rfl,p⟩:=hrel;by_cases J:i<b+1
    .have V:(i:Int)<(b:Int)+1:=by omega
     obtain⟨⟨ys,l⟩,hc⟩:=p.out;let⟨K,o⟩:=jl (i:=0) l.1 J aA;rw[Nat.mul_one,Nat.add_zero]at o;have m0:Z wr ⟨c,m+i,X⟩=N K:=l.cell R _ _ o;have L:=λi=>l.frozen R i;have q:qu (∀g,(∃xs,fM (o3 wr ⟨c,m+i,X⟩ g) 9 1 (U (N ⟨c,m,X⟩) (b+1) n) (b+1) xs)/\fT (λk=>k=a\/k=c) w (o3 wr ⟨c,m+i,X⟩ g)):=λg=>⟨⟨_,l.put (j:=i) g⟩,hc.trans (fT.set wr c _ g) λk _ e=>rz e⟩
     clear l hc o;go_wp2;go_roundg (b+1-(i+1))
     case measure=>omega
     case rel=>exact⟨i+1,aA,by go_num,R,q _⟩
    .have g:¬(i:Int)<(b:Int)+1:=by omega
     go_wp2;go_end0;exact⟨R,p.2⟩
open Fr (fG)
variable {α:Type}
def FQ{a b:ByteArray}(h:a.toList=b.toList):a=b:=by apply ByteArray.ext;apply Array.ext';simpa[ByteArray.toList_eq]using h
def qm{l:List α}{x}(h:l[j]? =N x):l.take (j+1)=l.take j++[x]:=by rw[qbc,h];rfl
def nQ(E F c lb w)(a:Rd w 1 E (M c) (c.map jP))(b:Rd w 1 F (M lb) (lb.map jP))(K:M c<=9223372036854775807):tf PQ 43 #[E,F] w λg S=>g=qs (rh (decide (c=lb)))/\Below w.1.size w S:=by
 obtain⟨T,V,rfl⟩:=a.slice;obtain⟨W,Y,rfl⟩:=b.slice;obtain⟨D,d⟩:∃D,decide (c=lb)=D:=⟨_,R⟩
 rw[d];obtain⟨na,e⟩:∃n,M c=n:=⟨_,R⟩
 obtain⟨C,h⟩:∃n,M lb=n:=⟨_,R⟩
 have H:qu _:=fE a (fE b (fE d (fE e h)));rw[e]at K;rw[e,h];clear a b d e h;by_cases z:na=C
 .subst z;have af:((na:Int) == (na:Int))=pw:=by simp
  go_enter (fq func43 R),ntmps43;go_wp2;go_loopg [5] na (λf t wr=>∃i:Nat,i<=na/\t=ox pg i/\f=na-i/\qu (c.take i=lb.take i/\Below ↑w w wr))
  case atStart=>exact⟨0,bU _,R,R,⟨R,aH _ _⟩⟩
  case round=>
   obtain⟨i,hi,rfl,rfl,f⟩:=hrel;let⟨a,b,d,e,h⟩:=H.out;by_cases ad:i<na
   .have ae:(i:Int)<na:=by omega
    obtain⟨x,L⟩:∃x,c[i]? =N x:=⟨_,aK aA⟩
    obtain⟨y,O⟩:∃y,lb[i]? =N y:=⟨_,aK aA⟩
    obtain⟨r,P,c1,p,_,G,k⟩:=a.pos aA;obtain⟨s,Q,c2,q,_,I,l⟩:=b.pos aA;simp only[ry]at p q;obtain⟨rfl,_,rfl⟩:=p;obtain⟨rfl,_,rfl⟩:=q;have A:Z wr ⟨r,P+i,X⟩=N (jP x):=oy (f.2.cell (p:=⟨r,_,X⟩) G) (k i _ (by grind));have B:Z wr ⟨s,Q+i,X⟩=N (jP y):=oy (f.2.cell (p:=⟨s,_,X⟩) I) (l i _ (by grind));unfold jP at A B;obtain⟨m,t⟩:∃Zr:ByteArray,(⟨py x⟩:ByteArray)=Zr:=⟨_,R⟩
    obtain⟨o,u⟩:∃Zr:ByteArray,(⟨py y⟩:ByteArray)=Zr:=⟨_,R⟩
    rw[t]at A;rw[u]at B;have v:=f.2;by_cases j:x=y
    .have J:m=o:=by rw[<-t,<-u,j]
     subst J;clear a b k l d e h;go_wp2;go_quiet (fail);go_wp2;go_roundg (na-(i+1))
     case measure=>omega
     case rel=>exact⟨_,aA,by go_num,R,⟨by rw[qm L,qm O,f.out.1,j],fG v _⟩⟩
    .have J:m≠o:=λg=>j (by
      grind)
     have ab:=Zc (λg=>J (FQ g));clear a b k l;go_wp2;go_quiet (fail);go_wp2;go_ret;refine⟨?_,fG v _⟩;have ag:c≠lb:=λg=>j (by grind)
     show Ending.returned (rh pi)=_
     grind
   .have k:¬(i:Int)<na:=by omega
    clear a b;go_wp2;go_ret;obtain rfl:i=na:=aA
    have j:=f.1;rw[cK aA,cK aA]at j;exact⟨by rw[<-d,j];simp,f.2⟩
 .have f:((na:Int) == (C:Int))=pi:=by simp;omega
  go_enter (fq func43 R),ntmps43;go_wp2;go_ret;let⟨a,b,d,e,h⟩:=H.out;refine⟨?_,aH _ _⟩;rw[<-d,Zd (λg=>z (by grind))];rfl
variable {f a:po}
def Mx(op x y xs a w):(eqGuard op 68 x y (.agg xs) (.agg a)).run PQ w=.ok () w:=run_eqGuard_agg w op _ x y xs a Zm
def MA(a b c w):(Op.equalIn 10000 68 (we #[ox sr a,ox sr b,pk c]) (we #[ox sr a,ox sr b,pk c])).run PQ w=.ok pw w:=by
 have f:=(uq XZ)
 have g:=(uq wq)
 have d:PQ.underlying 68=N (.struct (PQ.fieldsOf 68)):=Zm
 have e:PQ.stoodInHeld 68=pi:=Zm
 rw[show(10000:Nat)=9999+1 from R,run_equalIn_agg w 9999 _ _ _ d e];simp only[Program.fieldsOf,(uq underlying68)];go_simp
def tq.fF{u}(h:tq w u f a)(b:Below ↑w w w'):tq w' u f a:=by obtain⟨⟨i,k,c,e,m⟩,⟨j,l,d,g,n⟩⟩:=h;exact⟨⟨i,k,c,e,m.fF b⟩,⟨j,l,d,g,n.fF b⟩⟩
def M3{l}:(l.flatMap iZ++nR)[M l*3]? =N (ox sr 77)/\(l.flatMap iZ++nR)[M l*3+1]? =N (ox sr 0)/\(l.flatMap iZ++nR)[M l*3+2]? =N (pk oH):=by refine⟨?_,?_,?_⟩<;>rw[bF (by rw[yQ];omega),yQ]<;>simp[nR]
def Ae(u f a vt vl w)(h:tq w u f a)(hu:lU w u vt vl):tf PQ 14 #[uN u f a,uN u vt vl] w λe w'=>e=qs (rh pw)/\Below w.1.size w w':=by
 obtain⟨⟨c,d,z,rfl,o⟩,⟨A,D,m,rfl,p⟩⟩:=h;obtain⟨q,r,t3,t4⟩:=hu;obtain⟨S,tc,rfl⟩:=Rd.slice q;obtain⟨P,Q,rfl⟩:=Rd.slice r;unfold uN;unfold ny at q;unfold jO at r;have ad:=M3 (l:=u.3);obtain⟨ag,ae⟩:∃x,u.1=x:=⟨_,R⟩
 obtain⟨ut,af⟩:∃x,u.2=x:=⟨_,R⟩
 obtain⟨TN,n⟩:∃x,M u.3=x:=⟨_,R⟩
 obtain⟨b,F⟩:∃x,M u.4=x:=⟨_,R⟩
 rw[ae,af,n,F];rw[n]at o q t3 ad
 have ab:∀V,Below ↑w w V->tf PQ 43 #[U (N ⟨A,D,X⟩) b m,U P b Q] V λe w'=>e=qs (rh pw)/\Below ↑V V w':=λV k=>by
  have v:=(p.fF k).take (k:=M u.4) aA;rw[List.take_append_of_le_length aC,Nat.mul_one,cK aC]at v;have:=nQ (U (N ⟨A,D,X⟩) (M u.4) m) (U P (M u.4) Q) u.4 u.4 V v.rd (Rd.fF r k) aA
  grind
 rw[F]at p r t4;let⟨Zr,G,I,zX⟩:=fL w #[ox pg ag,ox pg ut,U (N ⟨c,d,X⟩) TN z,U (N ⟨A,D,X⟩) b m] 42;let⟨Y,hY,J,s⟩:=fL Zr #[ox pg ag,ox pg ut,U S TN tc,U P b Q] 42;have sX:↑Zr=w.1.size+1:=by rw[G];simp
 have l:=ow I (o5 J I.4);have E:=oy (J.5 _ aA) zX;rw[sX]at s
 have p1:TN+1<=z:=by
  obtain⟨_,_,v,e,hc,_⟩:=o.rd;cases e;exact hc
 have p2:b+1<=m:=by
  obtain⟨_,_,v,e,hc,_⟩:=p.rd;cases e;exact hc
 have hF:∀V,Below ↑Y Y V->(Z V ⟨↑w,2,X⟩=N (U (N ⟨c,d,X⟩) TN z)/\Z V ⟨w.1.size+1,2,X⟩=N (U S TN tc))/\∀j t,u.3[j]? =N t->(Z V ⟨c,d+j*3,X⟩=N (ox sr t.1)/\Z V ⟨c,d+j*3+1,X⟩=N (ox sr t.2)/\Z V ⟨c,d+j*3+2,X⟩=N (pk ⟨py t.3⟩))/\∃g i,S=N ⟨g,i,X⟩/\Z V ⟨g,i+j*3,X⟩=N (ox sr t.1)/\Z V ⟨g,i+j*3+1,X⟩=N (ox sr t.2)/\Z V ⟨g,i+j*3+2,X⟩=N (pk ⟨py t.3⟩):=λV k=>by
  have aa:=ow l (o5 k l.4);obtain⟨-,-,q2,-⟩:=iP (oy (k.5 _ (by grind)) E);obtain⟨-,-,q3,-⟩:=iP (oy (k.5 _ (by grind)) s);refine⟨⟨q2,q3⟩,λj t K=>?_⟩;have ak:=(aJ.1 K).1
  have hc:∀v x,(iZ t)[v]? =N x->(u.3.flatMap iZ++nR)[j*3+v]? =N x:=λv x hi=>by
   have h1:=oy (flat_get iZ 3 (λ_=>R) u.3 j v t K (by have:=(aJ.1 hi).1;simpa[iZ]using this)) hi
   grind
  have L:=o.fF aa;refine⟨⟨L.cell R _ _ (hc 0 _ R),by rw[cE];exact L.cell R _ _ (hc 1 _ R),by rw[cE];exact L.cell R _ _ (hc 2 _ R)⟩,?_⟩;have O:=Rd.fF q aa;rw[<-n]at O;obtain⟨g,i,ah,e,-⟩:=Rd.pos O aA;simp only[ry,true_and]at e;obtain⟨rfl,rfl⟩:=e;exact⟨g,i,R,ny.get O K⟩
 obtain⟨s0,s1,s2⟩:=ad;have C:=o.fF l;have ac:=p.fF l;have m0:Z Y ⟨c,d+TN*3,X⟩=N (ox sr 77):=C.cell R _ _ s0;have m1:Z Y ⟨c,d+TN*3+1,X⟩=N (ox sr 0):=by rw[cE];exact C.cell R _ _ s1
 have m2:Z Y ⟨c,d+TN*3+2,X⟩=N (pk oH):=by rw[cE];exact C.cell R _ _ s2
 have m3:Z Y ⟨A,D+b,X⟩=N (pk oH):=ac.cell R _ _ (by grind);unfold oH at m2 m3;let⟨c0,c1,T,c3⟩:=iP E;let⟨d0,d1,W,d3⟩:=iP s;have q1:(TN:Int)+1<=z:=aA
 have q2:(b:Int)+1<=m:=aA
 have q3:(TN:Int)<(TN:Int)+1:=aA
 have q4:(b:Int)<(b:Int)+1:=aA
 have y:qu _:=fE E s;have H:qu _:=fE ab (fE hF (fE l n));clear ab hF l o p q r zX E s I J s0 s1 s2 C ac ae af n F;have aj:=Mx;have ai:=MA;go_enter (fq func14 R),ntmps14;go_upto_region 1 with fail;rw[<-G,<-hY];clear G hY;go_wp2_with (go_at_call 43;refine aO (H.1 _ H.2.2.1) ?_;rintro e w3 ⟨rfl,B⟩;let⟨a0,a1,a2,a3⟩:=iP (oy (B.5 _ (fO y.1)) y.1);let⟨b0,b1,b2,b3⟩:=iP (oy (B.5 _ (fO y.2)) y.2);have HB:qu _:=B;clear B c0 c1 T c3 d0 d1 W d3 m0 m1 m2 m3)
 go_loopg [8] TN (λv K L=>∃j:Nat,j<=TN/\K=ox pg j/\v=TN-j/\qu (Below ↑Y Y L))
 case atStart=>grind
 case round=>
  obtain⟨j,hj,rfl,rfl,v⟩:=hrel;obtain⟨⟨T,W⟩,hF⟩:=H.2.1 wr v.out;by_cases ah:j<TN
  .have ak:(j:Int)<TN:=by omega
   have am:(j:Int)<(TN:Int)+1:=aA
   obtain⟨t,ht⟩:∃t,u.3[j]? =N t:=⟨_,aK (by have:=H.2.2.2;omega)⟩
   obtain⟨⟨x0,x1,x2⟩,g,i,rfl,y0,y1,y2⟩:=hF j t ht;obtain⟨K,L⟩:∃K:ByteArray,(⟨py t.3⟩:ByteArray)=K:=⟨_,R⟩
   rw[L]at x2 y2;obtain⟨fr,O⟩:∃x,t.1=x:=⟨_,R⟩
   obtain⟨tw,aa⟩:∃x,t.2=x:=⟨_,R⟩
   rw[O]at x0 y0;rw[aa]at x1 y1;clear hF ht L O aa;go_upto_region 11 with fail;go_quiet (fail);go_wp2;go_roundg (TN-(j+1))
   case measure=>omega
   case rel=>exact⟨j+1,aA,by go_num,R,ow v (Below.mono (by first|exact rk (aH _ wr)|exact fG (aH _ _) _|exact aH _ _) v.4)⟩
  .have K:¬(j:Int)<TN:=by omega
   clear hF;go_wp2;go_ret;exact⟨R,ow H.2.2.1 (o5 v H.2.2.1.4)⟩
def Sn{a b:Lo}(c:a.1=b.1)(d:a.2=b.2)(e:a.3=b.3)(f:a.4=b.4)(g:a.5=b.5)(h:a.6=b.6)(i:a.7=b.7)(j:a.8=b.8):a=b:=by
 cases a;cases b
 simp_all
def KU(p q w)(ac:hZ w p.2.1 p.1.6)(ad:hZ w p.2.2 p.1.7)(ae:hZ w q.2.1 q.1.6)(af:hZ w q.2.2 q.1.7)(a0:M p.1.6<=9223372036854775807)(a5:M p.1.7<=9223372036854775807):tf PQ 42 #[.agg (py (gA p)),.agg (py (gA q))] w λe w'=>∃au,e=qs (.bool au)/\(au=pw↔p.1=q.1)/\Below w.1.size w w':=by
 let⟨G,L,S⟩:=fM.slice ac;let⟨H,O,T⟩:=fM.slice ad;let⟨I,P,W⟩:=fM.slice ae;let⟨J,Q,Y⟩:=fM.slice af;have r1:=fM.rd ac;have r2:=fM.rd ad;have r3:=fM.rd ae;have r4:=fM.rd af;rw[S]at r1;rw[T]at r2;rw[W]at r3;rw[Y]at r4;unfold gA;rw[S,T,W,Y];clear ac ad ae af S T W Y;have ag:=λV d=>nQ _ _ _ _ V (r1.fF d) (r3.fF d) a0;have ah:=λV d=>nQ _ _ _ _ V (r2.fF d) (r4.fF d) a5;generalize M p.1.6=n1 at *;generalize M p.1.7=n2 at *;generalize M q.1.6=n3 at *;generalize M q.1.7=n4 at *;obtain⟨bx,ab⟩:∃K,decide (p.1.6=q.1.6)=K:=⟨_,R⟩
 obtain⟨bd,aa⟩:∃K,decide (p.1.7=q.1.7)=K:=⟨_,R⟩
 rw[ab]at ag;rw[aa]at ah;have av:qu _:=ag;have aw:qu _:=ah;have h:qu _:=fE ab aa;obtain⟨Zr,f⟩:∃Zr:pn,Zr=o6 (o6 w (pj #[ox pg p.1.1,ox pg p.1.2,ox pg p.1.3,ox pg p.1.4,ox pg p.1.5,U G n1 L,U H n2 O,ox pg p.1.8] 62)) (pj #[ox pg q.1.1,ox pg q.1.2,ox pg q.1.3,ox pg q.1.4,ox pg q.1.5,U I n3 P,U J n4 Q,ox pg q.1.8] 62):=⟨_,R⟩
 have ai:Below ↑w w Zr:=by rw[f];exact pb (pb (aH _ w) fI _) aC _
 have E:Zr.1[w.1.size]? =N (pj #[ox pg p.1.1,ox pg p.1.2,ox pg p.1.3,ox pg p.1.4,ox pg p.1.5,U G n1 L,U H n2 O,ox pg p.1.8] 62 (0,0)):=by rw[f];exact oy (aU _ _ _ aC) (sv _ _)
 have F:Zr.1[w.1.size+1]? =N (pj #[ox pg q.1.1,ox pg q.1.2,ox pg q.1.3,ox pg q.1.4,ox pg q.1.5,U I n3 P,U J n4 Q,ox pg q.1.8] 62 (0,0)):=by
  have:=sv (o6 w (pj #[ox pg p.1.1,ox pg p.1.2,ox pg p.1.3,ox pg p.1.4,ox pg p.1.5,U G n1 L,U H n2 O,ox pg p.1.8] 62)) (pj #[ox pg q.1.1,ox pg q.1.2,ox pg q.1.3,ox pg q.1.4,ox pg q.1.5,U I n3 P,U J n4 Q,ox pg q.1.8] 62);rw[cQ]at this;rw[f];exact this
 have l1:=(fO E)
 have l2:=(fO F)
 let⟨j,k,l,m,n,o,r,s,t⟩:=gS E;let⟨u,v,x,y,z,A,B,C,D⟩:=gS F;have b:qu _:=fE E (fE F ai);clear E F ai ag ah ab aa r1 r2 r3 r4;go_enter (fq func42 R),ntmps42;go_upto_region 1 with fail;rw[<-f];clear f;go_upto_region 2 with(go_at_call 43;refine aO (av _ b.2.2) ?_;rintro e w2 ⟨rfl,g⟩)
 have y1:=oy (g.5 _ l1) b.1;have y2:=oy (g.5 _ l2) b.2.1;have ak:=ow b.2.2 (o5 g b.2.2.4);have s2:=g.4;clear j k l m n o r s t u v x y z A B C D;let⟨j,k,l,m,n,o,r,s,t⟩:=gS y1;let⟨u,v,x,y,z,A,B,C,D⟩:=gS y2;have c:qu _:=fE y1 (fE y2 ak);clear y1 y2 ak g;go_upto_region 3 with(go_at_call 43;refine aO (aw _ c.2.2) ?_;rintro e w3 ⟨rfl,i⟩)
 have z1:=oy (i.5 _ aA) c.1;have z2:=oy (i.5 _ aA) c.2.1;have am:=ow c.2.2 (o5 i c.2.2.4);clear j k l m n o r s t u v x y z A B C D;let⟨j,k,l,m,n,o,r,s,t⟩:=gS z1;let⟨u,v,x,y,z,A,B,C,D⟩:=gS z2;have a:qu _:=am;clear z1 z2 am i;cases bx with
 |false=>
  go_wp2;go_ret;refine⟨pi,R,⟨λe=>(by cases e),λe=>?_⟩,a⟩;exfalso;exact Zj h.1 (by rw[e])
 |true=>
  cases bd with
  |false=>
   go_wp2;go_ret;refine⟨pi,R,⟨λe=>(by cases e),λe=>?_⟩,a⟩;exfalso;exact Zj h.2 (by rw[e])
  |true=>
   by_cases ap:p.1.1=q.1.1;rotate_left
   .have a6:((p.1.1:Int) == (q.1.1:Int))=pi:=Zc aA;go_wp2;go_ret;refine⟨pi,R,⟨λe=>(by cases e),λe=>?_⟩,a⟩
    grind
   have a6:((p.1.1:Int) == (q.1.1:Int))=pw:=by rw[ap];exact beq_self_eq_true _
   by_cases ar:p.1.2=q.1.2;rotate_left
   .have a8:((p.1.2:Int) == (q.1.2:Int))=pi:=Zc aA;go_wp2;go_ret;refine⟨pi,R,⟨λe=>(by cases e),λe=>?_⟩,a⟩
    grind
   have a8:((p.1.2:Int) == (q.1.2:Int))=pw:=by rw[ar];exact beq_self_eq_true _
   by_cases an:p.1.3=q.1.3;rotate_left
   .have ay:((p.1.3:Int) == (q.1.3:Int))=pi:=Zc aA;go_wp2;go_ret;refine⟨pi,R,⟨λe=>(by cases e),λe=>?_⟩,a⟩
    grind
   have ay:((p.1.3:Int) == (q.1.3:Int))=pw:=by rw[an];exact beq_self_eq_true _
   by_cases ao:p.1.4=q.1.4;rotate_left
   .have az:((p.1.4:Int) == (q.1.4:Int))=pi:=Zc aA;go_wp2;go_ret;refine⟨pi,R,⟨λe=>(by cases e),λe=>?_⟩,a⟩
    grind
   have az:((p.1.4:Int) == (q.1.4:Int))=pw:=by rw[ao];exact beq_self_eq_true _
   by_cases aq:p.1.5=q.1.5;rotate_left
   .have a7:((p.1.5:Int) == (q.1.5:Int))=pi:=Zc aA;go_wp2;go_ret;refine⟨pi,R,⟨λe=>(by cases e),λe=>?_⟩,a⟩
    grind
   have a7:((p.1.5:Int) == (q.1.5:Int))=pw:=by rw[aq];exact beq_self_eq_true _
   by_cases aj:p.1.8=q.1.8;rotate_left
   .have ax:((p.1.8:Int) == (q.1.8:Int))=pi:=Zc aA;go_wp2;go_ret;refine⟨pi,R,⟨λe=>(by cases e),λe=>?_⟩,a⟩
    grind
   have ax:((p.1.8:Int) == (q.1.8:Int))=pw:=by rw[aj];exact beq_self_eq_true _
   go_wp2;go_ret;exact⟨pw,R,⟨λ_=>Sn ap ar an ao aq (Zg h.1) (Zg h.2) aj,λ_=>R⟩,a⟩
variable {ps a:List PL}
def Dl(w:pn)(v:po)(ps:List PL):=Rd w 8 v (M ps) (ps.flatMap gA)/\∀p∈ps,hZ w p.2.1 p.1.6/\hZ w p.2.2 p.1.7/\M p.1.6<=9223372036854775807/\M p.1.7<=9223372036854775807
def Dl.fF{v:po}(h:Dl w v ps)(a:Below ↑w w w'):Dl w' v ps:=⟨h.1.fF a,λp b=>⟨fM.fF (h.2 p b).1 a,fM.fF (h.2 p b).2.1 a,(h.2 p b).2.2⟩⟩
def Fz(p):M (gA p)=8:=rfl
def Dl.cells{w g b c ps n}(h:Dl w (U (N ⟨g,b,X⟩) n c) ps){i p}(d:ps[i]? =N p):∀(j u),(gA p)[j]? =N u->Z w ⟨g,b+(i*8+j),X⟩=N u:=λj u a=>by
 have f:n=M ps:=by
  let⟨k,l,e⟩:=h.1.slice;simp only[ry]at e;exact e.2.1
 subst f;exact Rd.rec gA 8 Fz h.1 d (by have:=(aJ.1 a).1;simpa[gA]using this) a
def EM(ps a:List PL)(w:pn)(e:Ending)(w':pn):=∃r,e=qs (.bool r)/\(r=pw↔(a.map p9) <+:(ps.map p9))/\Below ↑w w w'
def EM.yes(h:(a.map p9) <+:(ps.map p9))(b:Below ↑w w w'):EM ps a w (qs (rh pw)) w':=⟨pw,R,⟨λ_=>h,λ_=>R⟩,b⟩
def EM.no(h:¬(a.map p9) <+:(ps.map p9))(b:Below ↑w w w'):EM ps a w (qs (rh pi)) w':=⟨pi,R,⟨λe=>(by cases e),λe=>Zl e h⟩,b⟩
def F7(L O ps a w)(e:Dl w L ps)(f:Dl w O a)(W:M ps<=9223372036854775807):tf PQ 13 #[L,O] w (EM ps a w):=by
 obtain⟨aa,ac,rfl⟩:=e.1.slice;obtain⟨ba,bc,rfl⟩:=f.1.slice;obtain⟨na,k⟩:∃C,M ps=C:=⟨_,R⟩
 obtain⟨d,l⟩:∃C,M a=C:=⟨_,R⟩
 have H:qu _:=fE e (fE f (fE k l));rw[k]at W;rw[k,l];clear e f k l;by_cases hn:na<d
 .have c:(na:Int)<d:=by omega
  go_enter (fq func13 R),ntmps13;go_wp2;go_ret;let⟨e,f,k,l⟩:=H.out;refine EM.no (λb=>?_) (aH _ _);have:=b.length_le
  grind
 .have ag:¬(na:Int)<d:=by omega
  go_enter (fq func13 R),ntmps13;go_wp2;go_loopg [5,6] d (λb t _ wr=>∃i:Nat,i<=d/\t=ox pg i/\b=d-i/\qu ((a.map p9).take i=(ps.map p9).take i/\Below ↑w w wr))
  case atStart=>exact⟨0,bU _,R,R,⟨R,aH _ _⟩⟩
  case round=>
   obtain⟨i,hi,rfl,rfl,q⟩:=hrel;let⟨e,f,k,l⟩:=H.out;by_cases ad:i<d
   .have ae:(i:Int)<d:=by omega
    have af:(i:Int)<na:=aA
    obtain⟨x,u⟩:∃x,ps[i]? =N x:=⟨_,aK aA⟩
    obtain⟨y,v⟩:∃y,a[i]? =N y:=⟨_,aK aA⟩
    have g:=q.2;obtain⟨h,m,d1,E,_⟩:=e.1.pos aA;obtain⟨j,n,d2,F,_⟩:=f.1.pos aA;simp only[ry]at E F;obtain⟨rfl,_,rfl⟩:=E;obtain⟨rfl,_,rfl⟩:=F;have b:=(e.fF g).cells u;have c:=(f.fF g).cells v;have o:=e.2 x (aS u);have p:=f.2 y (aS v);have t:=λV s=>KU x y V (fM.fF o.1 s) (fM.fF o.2.1 s) (fM.fF p.1 s) (fM.fF p.2.1 s) o.2.2.1 o.2.2.2;let⟨a1,c1,f1⟩:=fM.slice o.1;let⟨a2,c2,z⟩:=fM.slice o.2.1;let⟨a3,c3,A⟩:=fM.slice p.1;let⟨a4,c4,B⟩:=fM.slice p.2.1;unfold gA at b c t;rw[f1,z,A,B]at t;rw[f1,z]at b;rw[A,B]at c;have k0:Z wr ⟨h,m+i*8,X⟩=_:=b 0 _ R;have k1:Z wr ⟨h,m+i*8+1,X⟩=_:=b 1 _ R;have k2:Z wr ⟨h,m+i*8+2,X⟩=_:=b 2 _ R;have k3:Z wr ⟨h,m+i*8+3,X⟩=_:=b 3 _ R;have k4:Z wr ⟨h,m+i*8+4,X⟩=_:=b 4 _ R;have k5:Z wr ⟨h,m+i*8+5,X⟩=_:=b 5 _ R;have k6:Z wr ⟨h,m+i*8+6,X⟩=_:=b 6 _ R;have k7:Z wr ⟨h,m+i*8+7,X⟩=_:=b 7 _ R;have m0:Z wr ⟨j,n+i*8,X⟩=_:=c 0 _ R;have m1:Z wr ⟨j,n+i*8+1,X⟩=_:=c 1 _ R;have m2:Z wr ⟨j,n+i*8+2,X⟩=_:=c 2 _ R;have m3:Z wr ⟨j,n+i*8+3,X⟩=_:=c 3 _ R;have m4:Z wr ⟨j,n+i*8+4,X⟩=_:=c 4 _ R;have m5:Z wr ⟨j,n+i*8+5,X⟩=_:=c 5 _ R;have m6:Z wr ⟨j,n+i*8+6,X⟩=_:=c 6 _ R;have m7:Z wr ⟨j,n+i*8+7,X⟩=_:=c 7 _ R;have Q:qu _:=t;have r:qu _:=fE u v;have P:qu _:=fE k l;clear t e f b c o p u v f1 z A B k l;go_upto_region 6 with fail;go_region_with (go_at_call 42;refine aO (Q _ ?_) ?_;(first|exact rk g|exact fG g _|exact g);rintro e5 w5 ⟨K,rfl,I,T⟩)
    all_goals
     have G:Below ↑w w w5:=ow (by first|exact rk g|exact fG g _|exact g) (o5 T (by simpa using g.4));have D:qu (K=pw↔x.1=y.1):=I;clear I;cases K
     .go_wp2;go_ret;refine EM.no (λS=>?_) G;obtain⟨tl,Y⟩:=S;have l:=P.2;have J:=Zf (λab=>ab[i]?) Y;rw[bI (by rw[aV];omega),cT,cT,r.1,r.2]at J;have q2:=D.2 (si (cR J));cases q2
     .go_wp2;go_roundg (d-(i+1))
      case measure=>omega
      case rel=>exact⟨_,aA,by go_num,R,⟨by rw[qm (x:=y.1) (by rw[cT,r.out.2];rfl),qm (x:=x.1) (by rw[cT,r.out.1];rfl),q.1,D.1 (by first|exact trivial|rfl)],G⟩⟩
   .have c:¬(i:Int)<d:=by omega
    clear e f;go_wp2;go_ret;obtain rfl:i=d:=aA
    have b:=q.1;rw[cK (by grind)]at b;exact EM.yes (by grind) q.2
section
variable {k b a:Nat}{W W0 W':pn}{v0:po}
section
variable {P:Program}{w w':pn}{e s:Nat}{v:po}{n:Nat}{xs:List po}
def fM.OU(h:fM w e s v n xs)(t q i z bytes)(A:P.underlying t=N (.slice e))(x:P.info? e=N i)(I:i.8=N z)(j:i.3=s)(E:i.4=bytes)(W:qd z.cells=s)(V:0<s)(f:zm)(m c:Nat)(d:List po)(S:0<m)(o:M d=m*s)(y:∀k u,d[k]? =N u->Z w (f.add k)=N u)(B:∀u∈d,sw u=pw)(D:n+m<=maxLen)(F:(n+m)*bytes<=140737488355328):∃g b a w',(Builtin.append_ #[t,t] q #[v,U (N f) m c]).run P w=.ok (U (N ⟨g,b,X⟩) (n+m) a) w'/\fM w' e s (U (N ⟨g,b,X⟩) (n+m) a) (n+m) (xs++d)/\jC v g w w'/\(v=U (N ⟨g,b,X⟩) n a\/g=w.1.size):=by
 obtain⟨v',w',T,O,⟨g,b,a,rfl⟩,C⟩:=h.append (P:=P) t q i z bytes A x I j E W V f m c d S o y B D F;refine⟨g,b,a,w',T,O,?_,?_⟩
 .obtain⟨k,l,p⟩|⟨k,l,p⟩:=C
  .have r:ov v=N g:=si k;exact rr ⟨r,by rw[<-r];exact l,p⟩
  .exact lx
 .obtain⟨r,K,L⟩|⟨r,K,L⟩:=C
  .obtain⟨rfl,rfl⟩|⟨u,p,l,J,rfl,G,ae,aa,ab,hc⟩:=h.2
   .simp[ov]at r
   .by_cases H:n+m<=l
    .have ac:(n+m)*s<=l*s:=cY _ H;have ad:n*s+M d=(n+m)*s:=by rw[o,eJ]
     have Q:∀k<M d,(Z w ⟨u,p+n*i.3+k,X⟩).isSome=pw:=λk Y=>by
      have:p+n*i.3+k<qd J:=by rw[j];omega
      simp[Z,G,bL this]
     have af:=run_append_room_cells (P:=P) w t q e i A x u p n l f m c d (by rw[j];exact o) y B H Q (λk _=>aM G _)
     grind
    .have ac:=run_append_grow (P:=P) w t q e i z A x I ⟨u,p,X⟩ n l xs (by rw[j];exact h.1) (λQ Y k=>by
      have:=h.cell R Q Y k;unfold sf
      grind) f m c d (by rw[j];exact o) y aA (by simp only[maxLen]at D;omega) (growslice_fits aA (by rw[E];exact F))
     grind
  .exact rz (by simpa[ov]using r)
def mZ{w:pn}{ops:Array OF}{rest:List OF}{o:OF}{f:Act}{Q:qaC->Act->pn->Prop}(B:o.6=X)(s x:Operand)(t:wj)(G:o.2=.call { callee:=.builtin .append,args:=#[s,x],argTypes:=#[t,t] })(e:wj)(i:TypeInfo){z:po}(size bytes:Nat)(S:P.underlying t=N (.slice e))(C:P.info? e=N i)(V:i.8=N z)(L:i.3=size)(y:i.4=bytes)(W:qd z.cells=size)(O:0<size)(v:po)(n:Nat){xs:List po}(J:p7 f s=v)(H:fM w e size v n xs)(ad:zm)(m c:Nat)(d:List po)(T:p7 f x=U (N ad) m c)(E:0<m)(D:M d=m*size)(F:∀j u,d[j]? =N u->Z w (ad.add j)=N u)(k:∀u∈d,sw u=pw)(r:n+m<=maxLen)(A:(n+m)*bytes<=140737488355328)(h:∀g b a w',fM w' e size (U (N ⟨g,b,X⟩) (n+m) a) (n+m) (xs++d)->jC v g w w'->(v=U (N ⟨g,b,X⟩) n a\/g=w.1.size)->wpList P ops Q rest (f.put o.1 (U (N ⟨g,b,X⟩) (n+m) a)) w'):wpList P ops Q (o::rest) f w:=by
 refine wpList_plain B λK hK=>?_;let⟨g,b,a,w',I,l,p,q⟩:=H.OU (P:=P) t o.3 i z bytes S C V L y W O ad m c d E D F k r A;unfold Oper.wp rj;simp only[G,resolve,invoke,builtin,eM,Sem.run_pure,dT,dC,cL,dB,J,T,I];exact hK _ _ (h g b a w' l p q)
end
structure En where
 v:po
 n:Nat
 m:Nat
section
variable {α:Type}(f:α->List po)(Zn:Nat->α)(e s:Nat)
def DK(m n:Nat):List po:=(Z9 n (Zn m)).flatMap f
def En.full(W:pn)(x:En):=fM W e s x.1 x.2 (DK f Zn x.3 x.2)
variable {f Zn e s}(hf:∀x,M (f x)=s)
def Oh(m n):DK f Zn m n++f (Zn m)=DK f Zn m (n+1):=by unfold DK;rw[List.replicate_succ',dU];simp
include hf in
def Kw{m n:Nat}(a:k<=n):(DK f Zn m n).take (k*s)=DK f Zn m k:=by unfold DK;rw[(lG f s hf _ k).1,List.take_replicate,dF a]
def En.pre(lv:po)(len:Nat)(x:En):=∃b a,lv=U b len a/\x.1=U b x.2 a/\x.2<=len
include hf in
def En.pre.full{lv:po}{len:Nat}{x:En}(h:x.pre lv len)(d:fM W e s lv len (DK f Zn x.3 len)):x.full f Zn e s W:=by
 obtain⟨i,a,rfl,k,j⟩:=h;unfold En.full;rw[k];cases i with
 |none=>
  obtain⟨c,rfl⟩|⟨g,b,l,m,c,_⟩:=d.2
  .grind
  .simp at c
 |some i=>
  obtain⟨c,rfl⟩|⟨g,b,l,m,c,_⟩:=d.2
  .simp at c
  .simp only[ry,aI]at c;obtain⟨rfl,-,rfl⟩:=c;have:=d.take j;rw[Kw hf j]at this;exact this
structure Fl(f:α->List po)(Zn:Nat->α)(e s:Nat)(v0:po)(W0 W:pn)(m:Nat)(lv:po)(len:Nat)(xs:List En):Prop where
 row:fM W e s lv len (DK f Zn m len)
 own:∀g,ov lv=N g->ov v0=N g\/W0.1.size<=g
 en:∀x∈xs,x.3=m/\x.2<=len/\(∀g,ov x.1=N g->ov v0=N g\/W0.1.size<=g)/\(x.pre lv len\/(x.full f Zn e s W/\∀g,ov x.1=N g->ov lv≠N g))
include hf in
def Fl.all{lv:po}{m len:Nat}{xs:List En}(h:Fl f Zn e s v0 W0 W m lv len xs):∀x∈xs,x.full f Zn e s W:=λx b=>by
 obtain⟨rfl,-,-,a⟩:=h.3 x b;obtain a|a:=a
 .exact a.full hf h.1
 .exact a.1
def Fl.note{lv:po}{m len:Nat}{xs:List En}(h:Fl f Zn e s v0 W0 W m lv len xs)(r:∀(k:Nat)(b:Array po)(c:Nat×Nat),W.1[k]? =N (pj b e c)->W'.1[k]? =N (pj b e c)):Fl f Zn e s v0 W0 W' m lv len (xs++[⟨lv,len,m⟩]):=by
 have i:∀{v n xs},fM W e s v n xs->fM W' e s v n xs:=λj=>j.kept λg q=>by
  let⟨c,hc⟩:=j.obj q;rw[r _ _ _ hc,hc]
 let⟨k,a,d⟩:=h.1.slice;refine⟨i h.1,h.2,λx b=>?_⟩;obtain b|b:=bV.1 b
 .let⟨l,o,p,c⟩:=h.3 x b;exact⟨l,o,p,c.imp id λc=>⟨i c.1,c.2⟩⟩
 .rw[bT.1 b];exact⟨R,fI,h.2,rr ⟨k,a,d,d,fI⟩⟩
include hf in
def Fl.grow{lv:po}{Zr:pn}{m len g:Nat}{xs:List En}(h:Fl f Zn e s v0 W0 W m lv len xs)(j:Below ↑W W Zr)(r:↑W0<=W.1.size)(n:fM W' e s (U (N ⟨g,b,X⟩) (len+1) a) (len+1) (DK f Zn m len++f (Zn m)))(k:jC lv g Zr W')(w:lv=U (N ⟨g,b,X⟩) len a\/g=Zr.1.size):Fl f Zn e s v0 W0 W' m (U (N ⟨g,b,X⟩) (len+1) a) (len+1) xs:=by
 rw[Oh]at n;refine⟨n,λq c=>?_,λx o=>?_⟩
 .have i:g=q:=by simpa[ov]using c
  subst i;obtain d|d:=k.own
  .exact h.2 g d
  .exact rz (aX (aX r j.4) d)
 .let⟨t,B,u,v⟩:=h.3 x o;refine⟨t,aA,u,?_⟩;have i:x.full f Zn e s Zr:=fM.fF (h.all hf x o) j;obtain rfl|rfl:=w
  .obtain⟨y,z,d,p,A⟩|⟨C,l⟩:=v
   .simp only[ry,true_and]at d;obtain⟨rfl,rfl⟩:=d;exact rr ⟨_,_,R,p,aA⟩
   .refine rz ⟨i.gE k.gE λq c d=>l q c d,λq c d=>l q c ?_⟩;simpa[ov]using d
  .refine rz ⟨?_,λq c d=>?_⟩
   .obtain⟨d,l,p⟩|⟨d,l,p⟩:=k
    .have:=h.1.lt d;have:=j.4;omega
    .exact i.kept λq c=>l.5 q (i.lt c) aC
   .have l:Zr.1.size=q:=by simpa[ov]using d
    have:=i.lt c;omega
end
end
section
variable {S:Nat->Prop}{A:pn}{ts:List wj}{B0:Nat}{v' u:po}
def f1(x:po):List po:=[x]
def N3(x):M (f1 x)=1:=rfl
def OH{l:List po}:l.flatMap f1=l:=by
 induction l with
 |nil=>rfl
 |cons x l ih=>rw[dQ,ih];rfl
def Ur(m:Nat):po:=pk (oV m)
def Ih(m:Nat):PL:=(⟨77+m,0,0,0,0,[],[],0⟩,U X 0 0,U X 0 0)
def tW(p):M (gA p)=8:=rfl
abbrev Ni(W:pn)(x:En):=x.full f1 Ur 9 1 W
abbrev Mi(W:pn)(x:En):=x.full gA Ih 62 8 W
def bkt:List wj:=[34,40,35,3]
def qI(S:Nat->Prop)(W W':pn):=∀(k:Nat)(a:Array po)(t:wj)(b:Nat×Nat),W.1[k]? =N (pj a t b)->t∉bkt->¬S k->W'.1[k]? =N (pj a t b)
def qI.refl(S W):qI S W W:=λ_ _ _ _ h _ _=>h
def qI.trans{a:Nat->Prop}{B C:pn}(h:qI S A B)(i:qI a B C)(j:∀k<A.1.size,a k->S k):qI S A C:=λk b t c d g f=>i k b t c (h k b t c d g f) g λe=>f (j k (fO d) e)
def qI.sN{B:pn}(h:fN ts A B)(f:∀t∈ts,t∈bkt):qI S A B:=λk a t b c d _=>h k a t b c λe=>d (f t e)
def qI.qM{B:pn}(h:fT S A B):qI S A B:=λk _ _ _ a _ b=>oy (h.5 k (fO a) b) a
def fM.Sw{B:pn}{s:Nat}{v:po}(h:fM A e s v n xs)(d:qI S A B)(c:e∉bkt)(b:∀g,ov v=N g->¬S g):fM B e s v n xs:=h.kept λg a=>by
 let⟨f,hc⟩:=h.obj a;rw[hc];exact d _ _ _ _ hc c (b g a)
structure qZ(W:pn)(kb Zp:Nat)(vt mt vl ml:po)(vs ms us ns:List po):Prop where
 obj:W.1[kb]? =N (pj #[ox pg Zp,U X 0 0,vt,U X 0 0,vl,U X 0 0,mt,U X 0 0,ml] 34 (0,0))
 rt:fM W 40 1 vt (M vs) vs
 rm:fM W 3 1 mt (M ms) ms
 rl:fM W 35 1 vl (M us) us
 rn:fM W 3 1 ml (M ns) ns
 two:∀g,ov mt=N g->ov ml≠N g
section
variable {W Zr W' w3:pn}{kb Zp g:Nat}{vt mt vl ml:po}{vs ms us ns:List po}
def qZ.lt(h:qZ W kb Zp vt mt vl ml vs ms us ns):kb<↑W:=(fO h.1)
def qZ.keeps(h:qZ W kb Zp vt mt vl ml vs ms us ns)(a:fN ts W W')(b:∀t∈bkt,t∉ts):qZ W' kb Zp vt mt vl ml vs ms us ns:=
 ⟨a _ _ _ _ h.1 (b _ aB),h.rt.keeps a (b _ aB),h.3.keeps a (b _ aB),h.4.keeps a (b _ aB),h.5.keeps a (b _ aB),h.6⟩
def qZ.fF(h:qZ W kb Zp vt mt vl ml vs ms us ns)(a:Below ↑W W W'):qZ W' kb Zp vt mt vl ml vs ms us ns:=h.keeps (ts:=[]) (fN.fF _ a) aC
def qZ.gE(h:qZ W kb Zp vt mt vl ml vs ms us ns)(hc:fT S W W')(c:∀(k a t b),W.1[k]? =N (pj a t b)->t∈bkt->¬S k):qZ W' kb Zp vt mt vl ml vs ms us ns:=by
 have a:∀{e n v xs},fM W e 1 v n xs->e∈bkt->fM W' e 1 v n xs:=λb j=>b.gE hc λg d=>by
  let⟨f,i⟩:=b.obj d
  grind
 exact⟨oy (hc.5 kb h.lt (c _ _ _ _ h.1 aB)) h.1,a h.rt aB,a h.3 aB,a h.4 aB,a h.5 aB,h.6⟩
def Az{v:po}{i:Nat}{j:List po}(h:fM Zr e 1 v n xs)(c:fM Zr e 1 v' i j)(d:jC v g Zr w3)(f:∀g,ov v=N g->ov v'≠N g):fM w3 e 1 v' i j/\ov v'≠N g:=by
 refine⟨c.gE d.gE λq k a=>f q a k,λa=>?_⟩;obtain b|b:=d.own
 .exact f g b a
 .have:=c.lt a;omega
def lT{v:po}{e:wj}{cs:Array po}(d:Zr.1[kb]? =N (pj cs 34 (0,0)))(f:fM Zr e 1 v n xs)(h:e≠34)(a:jC v g Zr w3):(o3 w3 ⟨kb,i,X⟩ v').1[kb]? =N (pj (qb cs i v') 34 (0,0))/\fN [34,e] Zr (o3 w3 ⟨kb,i,X⟩ v')/\∀B0,B0<=kb->(∀q,ov v=N q->B0<=q)->Below B0 Zr (o3 w3 ⟨kb,i,X⟩ v'):=by
 have b:=a.keep f d (Ne.symm h);exact⟨uk b (i:=i) v',((qY a f aC).trans (fN.set b aC i v')),λB0 c j=>ph (iD a j (eZ (Nat.lt_of_le_of_lt c (fO d)))) (p:=⟨kb,i,X⟩) c v'⟩
def qZ.texts(h:qZ Zr kb Zp vt mt vl ml vs ms us ns)(c:fM w3 40 1 v' (M vs+1) (vs++[u]))(b:jC vt g Zr w3)(i:ov v'=N g):qZ (o3 w3 ⟨kb,2,X⟩ v') kb Zp v' mt vl ml (vs++[u]) ms us ns/\fN [34,40] Zr (o3 w3 ⟨kb,2,X⟩ v'):=by obtain⟨e,a,-⟩:=lT (v':=v') (i:=2) h.1 h.rt aB b;refine⟨⟨e,?_,h.3.keeps a aB,h.4.keeps a aB,h.5.keeps a aB,h.6⟩,a⟩;rw[aN];exact c.gE (fT.set w3 kb 2 v') λq f d=>fK c (b.keep h.rt h.1 aB) aB (by rw[f,d])
def qZ.marks(h:qZ Zr kb Zp vt mt vl ml vs ms us ns)(i:fM w3 3 1 v' (M ms+1) (ms++[u]))(d:jC mt g Zr w3)(l:ov v'=N g):qZ (o3 w3 ⟨kb,6,X⟩ v') kb Zp vt v' vl ml vs (ms++[u]) us ns/\fN [34,3] Zr (o3 w3 ⟨kb,6,X⟩ v'):=by
 obtain⟨j,c,-⟩:=lT (v':=v') (i:=6) h.1 h.3 aB d;let⟨e,k⟩:=Az h.3 h.5 d h.6;have f:=d.keep h.3 h.1 aB;refine⟨⟨j,h.rt.keeps c aB,?_,h.4.keeps c aB,e.gE (fT.set w3 kb 6 v') λq b a=>fK e f aB (by rw[b,a]),λq b a=>?_⟩,c⟩
 .rw[aN];exact i.gE (fT.set w3 kb 6 v') λq b a=>fK i f aB (by rw[b,a])
 grind
def qZ.SW(h:qZ Zr kb Zp vt mt vl ml vs ms us ns)(c:fM w3 35 1 v' (M us+1) (us++[u]))(b:jC vl g Zr w3)(i:ov v'=N g):qZ (o3 w3 ⟨kb,4,X⟩ v') kb Zp vt mt v' ml vs ms (us++[u]) ns/\fN [34,35] Zr (o3 w3 ⟨kb,4,X⟩ v'):=by obtain⟨e,a,-⟩:=lT (v':=v') (i:=4) h.1 h.4 aB b;refine⟨⟨e,h.rt.keeps a aB,h.3.keeps a aB,?_,h.5.keeps a aB,h.6⟩,a⟩;rw[aN];exact c.gE (fT.set w3 kb 4 v') λq f d=>fK c (b.keep h.4 h.1 aB) aB (by rw[f,d])
def qZ.nums(h:qZ Zr kb Zp vt mt vl ml vs ms us ns)(i:fM w3 3 1 v' (M ns+1) (ns++[u]))(d:jC ml g Zr w3)(l:ov v'=N g):qZ (o3 w3 ⟨kb,8,X⟩ v') kb Zp vt mt vl v' vs ms us (ns++[u])/\fN [34,3] Zr (o3 w3 ⟨kb,8,X⟩ v'):=by
 obtain⟨j,c,-⟩:=lT (v':=v') (i:=8) h.1 h.5 aB d;let⟨e,k⟩:=Az h.5 h.3 d λq b a=>h.6 q a b;have f:=d.keep h.5 h.1 aB;refine⟨⟨j,h.rt.keeps c aB,e.gE (fT.set w3 kb 8 v') λq b a=>fK e f aB (by rw[b,a]),h.4.keeps c aB,?_,λq b a=>?_⟩,c⟩
 .rw[aN];exact i.gE (fT.set w3 kb 8 v') λq b a=>fK i f aB (by rw[b,a])
 grind
def qZ.next(h:qZ Zr kb Zp vt mt vl ml vs ms us ns)(b:Nat):qZ (o3 Zr ⟨kb,0,X⟩ (ox pg b)) kb b vt mt vl ml vs ms us ns/\fN [34] Zr (o3 Zr ⟨kb,0,X⟩ (ox pg b)):=by have a:=fN.set (ts:=[34]) h.1 aC 0 (ox pg b);exact⟨⟨uk h.1 (i:=0) _,h.rt.keeps a aB,h.3.keeps a aB,h.4.keeps a aB,h.5.keeps a aB,h.6⟩,a⟩
end
structure Book(W:pn)(kb B0 Zp:Nat)(ts ls:List En):Prop where
 bk:∃vt mt vl ml,qZ W kb Zp vt mt vl ml (ts.map En.v) (ts.map λx=>ox pg x.3) (ls.map En.v) (ls.map λx=>ox pg x.3)/\∀g,ov vt=N g\/ov mt=N g\/ov vl=N g\/ov ml=N g->B0<=g
 low:B0<=kb
 ft:∀x∈ts,Ni W x/\x.2<=8589934592
 fl:∀x∈ls,Mi W x/\x.2<=8589934592
def Book.fF{W W' kb Zp ts c}(h:Book W kb B0 Zp ts c)(b:Below W.1.size W W'):Book W' kb B0 Zp ts c:=by let⟨vt,mt,vl,ml,d,e⟩:=h.1;exact⟨⟨vt,mt,vl,ml,d.fF b,e⟩,h.2,λx a=>⟨fM.fF (h.3 x a).1 b,(h.3 x a).2⟩,λx a=>⟨fM.fF (h.4 x a).1 b,(h.4 x a).2⟩⟩
end
variable {a:List po}{u:po}{kb B0 r b:Nat}{W:pn}
def IQ:(PQ.info? 40).map (λi=>(i.8,i.3,i.4))=N (N (U X 0 0),1,24):=Zm
def K8:(PQ.info? 35).map (λi=>(i.8,i.3,i.4))=N (N (U X 0 0),1,24):=Zm
def Bw:(PQ.info? 3).map (λi=>(i.8,i.3,i.4))=N (N (ox pg 0),1,8):=Zm
structure Vq(W:pn)(kb B0 Zp n:Nat)(v:po)(ts ls:List En)(wx:pn)(lv:po)(r:Nat)(xs:List En):Prop where
 fl:Fl f1 Ur 9 1 v W wx Zp lv (n+r) xs
 len:M xs=r
 bk:∃vt mt vl ml,qZ wx kb Zp vt mt vl ml ((ts++xs).map En.v) ((ts++xs).map λx=>ox pg x.3) (ls.map En.v) (ls.map λx=>ox pg x.3)/\∀g,ov vt=N g\/ov mt=N g\/ov vl=N g\/ov ml=N g->B0<=g
 bel:Below B0 W wx
 kp:qI (λk=>ov v=N k) W wx
def GV(m n):DK f1 Ur m n=Z9 n (pk (oV m)):=OH
def Nf(c:M a=n)(h:∀q<n,a[q]? =N u):a=Z9 n u:=by
 apply qba;intro i;by_cases b:i<n
 .rw[h i b,List.getElem?_replicate,Zb b]
 .rw[List.getElem?_eq_none aA,List.getElem?_eq_none (by rw[List.length_replicate];omega)]
def Vq.round{p y u z:pn}{Zp g:Nat}{v lv o m vl l:po}{a e xs:List En}(h:Vq W kb B0 Zp n v a e p lv r xs)(O:B0<=W.1.size)(K:qZ y kb Zp o m vl l ((a++xs).map En.v++[lv]) ((a++xs).map (λf=>ox pg f.3)++[ox pg Zp]) (e.map En.v) (e.map λf=>ox pg f.3))(F:∀g,ov o=N g\/ov m=N g\/ov vl=N g\/ov l=N g->B0<=g)(j:fN bkt p y)(w:Below B0 p y)(c:Below ↑y y u)(H:fM z 9 1 (U (N ⟨g,b,X⟩) (n+r+1) cap) (n+r+1) (DK f1 Ur Zp (n+r)++[pk (oV Zp)]))(d:jC lv g u z)(C:lv=U (N ⟨g,b,X⟩) (n+r) cap\/g=u.1.size)(J:∀g,ov v=N g->B0<=g):Vq W kb B0 Zp n v a e z (U (N ⟨g,b,X⟩) (n+r+1) cap) (r+1) (xs++[⟨lv,n+r,Zp⟩]):=by
 have Q:=h.4.4;have S:=w.4;have P:=c.4;have x:=h.1.note (W':=y) λk s t hc=>j k s _ t hc aB;have D:=x.grow N3 c aA H d C
 have E:∀q,ov lv=N q->B0<=q:=λq G=>by
  obtain f|f:=h.1.2 q G
  .exact J q f
  .omega
 have I:=x.1.fF c;refine⟨D,by rw[aN,h.2];rfl,⟨o,m,vl,l,?_,F⟩,ow (ow h.4 (ow w (o5 c aA))) (iD d E aA),?_⟩
 .have:=(K.fF c).gE d.gE λk s T t hc A f=>by
   let⟨L,i⟩:=I.obj f;rw[hc]at i;simp at i;rw[i.2.1]at A;revert A;decide
  have f:(a++(xs++[(⟨lv,n+r,Zp⟩:En)])).map En.v=(a++xs).map En.v++[lv]:=aC
  have B:(a++(xs++[(⟨lv,n+r,Zp⟩:En)])).map (λi=>ox pg i.3)=(a++xs).map (λi=>ox pg i.3)++[ox pg Zp]:=aC
  rw[f,B];exact this
 .refine(h.5.trans ((qI.sN (S:=λ_=>False) j λ_ i=>i).trans (qI.qM (fT.fF c fI (λ_=>False))) (λ_ _ i=>i)) (λ_ _ i=>sj i)).trans (qI.qM d.gE) λk j A=>?_;obtain f|f:=h.1.2 k A
  .exact f
  .omega
def JF(v n xs W kb B0 Zp q ls)(O:fM W 9 1 v n xs)(p:Book W kb B0 Zp q ls)(J:∀g,ov v=N g->B0<=g)(aa:∀x∈q,∀g,ov x.1=N g->ov v≠N g)(hn:n<=4294967296)(hN:Zp<=1099511627776)(cd:M q<=1099511627776):tf PQ 44 #[pm (N ⟨kb,0,X⟩),v] W λe W'=>e=qs (sh #[])/\∃h,M h=4/\Book W' kb B0 (Zp+1) (q++h) ls/\(∀x∈h,∀g,ov x.1=N g->ov v=N g\/W.1.size<=g)/\Below B0 W W'/\qI (λk=>ov v=N k) W W':=by
 obtain⟨D,A,rfl⟩:=O.slice;let⟨vt,mt,vl,ml,c,f⟩:=p.1;have ah:B0<=W.1.size:=aX p.2 (eZ c.lt);have a1:Z W ⟨kb,0,X⟩=N (ox pg Zp):=fZ c.1 rfl;have bp:=p.2;let⟨iI,ba,bb,bc,bd⟩:=yk IQ;have ad:qu _:=fE ba (fE bb (fE bc bd));let⟨iN,bf,bg,bh,bj⟩:=yk Bw;have ae:qu _:=fE bf (fE bg (fE bh bj));let⟨iT,bk,bl,bm,bo⟩:=yk mM;have af:qu _:=fE bk (fE bl (fE bm bo));have H:qu _:=fE O (fE p (fE J (fE aa (fE c f))));clear O p J aa c f ba bb bc bd bf bg bh bj bk bl bm bo;obtain⟨B,aw⟩:∃B:ByteArray,oV Zp=B:=⟨_,R⟩
 have a0:=sB Zp W;rw[aw]at a0;have bu:qu _:=λ(_:Unit)=>a0;have a4:qu _:=aw;clear a0 aw;go_enter (fq func44 R),ntmps44;go_wp2_with (go_at_call 45;refine aO (bu ()) ?_;rintro e w2 ⟨rfl,F⟩;have HW:qu _:=F;clear F)
 clear a1;go_loopg [5] n (λl m i=>∃j:Nat,j<=n/\m=ox pg j/\l=n-j/\qu (∃a,fM i 9 1 (U D n A) n a/\(∀d<j,a[d]? =N (pk B))/\fT (λk=>ov (U D n A)=N k) w2 i))
 case atStart=>exact⟨0,bU _,R,R,xs,H.1.fF HW,λi d=>aA,fT.refl _ _⟩
 case round=>
  obtain⟨j,m,rfl,rfl,HI⟩:=hrel;by_cases b7:j<n
  .have C:(j:Int)<n:=by omega
   let⟨a,d,r,s⟩:=HI.out;obtain⟨g,b,y,J,-⟩:=d.pos aA;simp only[ry,true_and]at J;obtain⟨rfl,rfl⟩:=J;have G:=d.1;obtain⟨x,o⟩:∃u,a[j]? =N u:=⟨_,aK aA⟩
   have I:Z wr ⟨g,b+j,X⟩=N x:=d.cell R _ _ o;have z:=λw=>d.frozen R w
   have t:qu (∃a,fM (o3 wr ⟨g,b+j,X⟩ (pk B)) 9 1 (U (N ⟨g,b,X⟩) n A) n a/\(∀i<j+1,a[i]? =N (pk B))/\fT (λk=>ov (U (N ⟨g,b,X⟩) n A)=N k) w2 (o3 wr ⟨g,b+j,X⟩ (pk B))):=⟨_,d.put (j:=j) (pk B),λi E=>by
    by_cases l:i=j
    .rw[l,List.getElem?_set_self aA]
    .rw[List.getElem?_set_ne (Ne.symm l)];exact r i aA,s.trans (fT.set wr g (b+j) (pk B)) λk _ e=>by rw[e];rfl⟩
   clear d r s o;go_wp2;go_roundg (n-(j+1))
   case measure=>omega
   case rel=>exact⟨j+1,aA,by go_num,R,t⟩
  .obtain rfl:j=n:=by omega
   have b8:¬(j:Int)<(j:Int):=aA
   have b2:qu (Vq W kb B0 Zp j (U D j A) q ls wr (U D j A) 0 []):=by
    let⟨a,o,w,d⟩:=HI.out;let⟨O,p,J,aa,c,f⟩:=H.out;have F:=HW.out;have u:a=DK f1 Ur Zp j:=by rw[GV,a4.out];exact Nf (by have:=o.1;omega) w
    rw[u]at o;have t:=O.fF F;refine⟨⟨o,λg l=>rr l,aC⟩,R,⟨vt,mt,vl,ml,?_,f⟩,ow (o5 F ah) ⟨d.1,d.2,d.3,d.4,λl y=>d.5 l (by have:=F.4;omega) λi=>by have:=J l i;omega⟩,(qI.qM (fT.fF F fI _)).trans (qI.qM d) λ_ _ e=>e⟩;rw[dI]
    exact(c.fF F).gE d λk x C z hc s i=>by
     let⟨y,l⟩:=t.obj i;rw[hc]at l;simp at l;rw[l.2.1]at s;revert s;decide
   clear HI;go_wp2;go_loopg [1,6] 4 (λl o s t=>∃(r:Nat)(h:List En)(d:Option zm)(i:Nat),r<=4/\s=ox pg r/\o=U d (j+r) i/\l=4-r/\qu (Vq W kb B0 Zp j (U D j A) q ls t (U d (j+r) i) r h))
   case atStart=>exact⟨0,[],D,A,bU _,R,R,R,b2⟩
   case round=>
    obtain⟨r,h,la,lc,S,rfl,rfl,rfl,i⟩:=hrel;let⟨ch,cf,cg,ce,c,f⟩:=i.3;have y:M ((q++h).map En.v)=M q+r:=by rw[aV,aN,i.out.2]
    have t:M ((q++h).map (λx=>ox pg x.3))=M q+r:=by rw[aV,aN,i.out.2]
    obtain⟨d,s⟩:∃d,M q+r=d:=⟨_,R⟩
    have ac:=c.rt;have aq:=c.3;rw[y,s]at ac;rw[t,s]at aq;obtain⟨ai,ci,rfl⟩:=ac.slice;obtain⟨am,cm,rfl⟩:=aq.slice;obtain⟨VS,w⟩:∃VS,(q++h).map En.v=VS:=⟨_,R⟩
    obtain⟨MS,u⟩:∃MS,(q++h).map (λx=>ox pg x.3)=MS:=⟨_,R⟩
    rw[w]at ac c y;rw[u]at aq c t;have b6:d<=2199023255552:=aA
    have a1:Z wr ⟨kb,0,X⟩=N (ox pg Zp):=fZ c.1 rfl;have bq:Z wr ⟨kb,2,X⟩=N (U ai d ci):=fZ c.1 rfl;have b0:=aM c.1;have ag:qu (∀o,fM (o6 wr o) 40 1 (U ai d ci) d VS):=λo=>ac.fF (pb (aH _ wr) fI o);have K:qu _:=fE c (fE f (fE w (fE u (fE s (fE y t)))));clear c f ac aq w u s y t;by_cases b9:r<4
    .have ca:(r:Int)<4:=by omega
     go_upto_region 9 with(at_builtin;refine fX _ R (sn 30) (sn 32) 28 R 40 iI _ 1 24 (uq underlying28) ad.1 ad.2.1 ad.2.2.1 ad.2.2.2 R aB (U ai d ci) d VS R (ag _) ⟨↑wr,0,X⟩ 1 1 [U la (j+r) lc] R aB R (by intro j ar m;match j,m with|0,m=>(simp at m;subst m;simp[sf])) mr aE aA ?_;intro P a2 au w3 ab G;have ax:=G.keep (ag _) (oy (aU _ _ _ K.1.lt) K.1.1) aB;have bv:Z w3 ⟨kb,2,X⟩=N (U ai d ci):=(by rw[aG ax];rfl);have bz:=aM ax;have H3:qu _:=fE ab G;clear ab G ax)
     let⟨ab,G⟩:=H3.out;let⟨c,f,w,u,s,y,t⟩:=K.out;have x:=pb (aH _ wr) fI (pj #[U la (j+r) lc] 40);have C:=c.fF x;obtain⟨z,k2⟩:=C.texts (v':=U (N ⟨P,a2,X⟩) (d+1) au) (by rw[y,s];exact ab) G R;obtain⟨-,-,k3⟩:=lT (v':=U (N ⟨P,a2,X⟩) (d+1) au) (i:=2) C.1 C.rt aB G;have L:=ow (o5 x (aX ah i.4.4)) (k3 B0 bp λar hq=>f ar (rr hq))
     have an:B0<=P:=by
      obtain e|e:=G.own
      .exact f P (rr e)
      .exact aX (aX (aX ah i.4.4) x.4) e
     obtain⟨l,a7⟩:∃l:pn,l=o3 w3 ⟨kb,2,X⟩ (U (N ⟨P,a2,X⟩) (d+1) au):=⟨_,R⟩
     rw[<-a7]at z k2 L⊢;have V:fN bkt wr l:=(fN.fF _ x).trans (k2.mono aB);have n0:Z l ⟨kb,0,X⟩=N (ox pg Zp):=fZ z.1 rfl;have n6:Z l ⟨kb,6,X⟩=N (U am d cm):=fZ z.1 rfl;have az:=z.3;rw[t,s]at az;have a6:qu (∀o,fM (o6 l.drew o) 3 1 (U am d cm) d MS):=λo=>az.fF (pb (rk (aH _ l)) fI o);have b1:=z.lt;have a5:qu (∀o,(o6 l.drew o).1[kb]? =_):=λo=>oy (aU l.drew _ _ b1) z.1;have b4:∀o,Z (o6 l.drew o) ⟨kb,6,X⟩=N (U am d cm):=λo=>by rw[aG (a5.out o)];rfl
     have HY:qu _:=fE z (fE L (fE an V));clear a7 ab G c f w u s y t x C z k2 k3 L an V az a1 bq b0 bv bz ag;go_region_law ((refine jK (by rfl) (sn 41) (sn 46) 31 (by rfl) 3 iN 1 8 (uq underlying31) ae.1 ae.2.1 ae.2.2.1 ae.2.2.2 (by rfl) aB _ d MS (by rfl) (a6 _) ⟨↑l,0,X⟩ 1 1 [ox pg Zp] (by rfl) aB (by rfl) (by intro j ar m;match j,m with|0,m=>(simp at m;subst m;simp[sf])) mr aE aA ?_;intro Q a3 av w4 S I;have ay:=I.keep (a6 _) (a5 _) aB;have bx:=aM ay;have b3:Z w4 ⟨kb,6,X⟩=N (U am d cm):=(by rw[aG ay];rfl);have H4:qu _:=fE S I;clear S I ay))
     all_goals
      let⟨S,I⟩:=H4.out;let⟨c,f,w,u,s,y,t⟩:=K.out;let⟨z,L,an,V⟩:=HY.out;have x:Below ↑l l (o6 l (pj #[ox pg Zp] 3)).drew:=rk (pb (aH _ l) fI _);have C:=z.fF x;obtain⟨k4,k5⟩:=C.marks (v':=U (N ⟨Q,a3,X⟩) (d+1) av) (by rw[t,s];exact S) I R;obtain⟨-,-,k6⟩:=lT (v':=U (N ⟨Q,a3,X⟩) (d+1) av) (i:=6) C.1 C.3 aB I;have cb:=i.4.4;have cc:=L.4;have T:=ow L (ow (o5 x aA) (k6 B0 bp λar hq=>f ar (rz (rr hq))))
      have ao:B0<=Q:=by
       obtain e|e:=I.own
       .exact f Q (rz (rr e))
       .have:=x.4;omega
      obtain⟨E,a8⟩:∃E:pn,E=o3 w4 ⟨kb,6,X⟩ (U (N ⟨Q,a3,X⟩) (d+1) av):=⟨_,R⟩
      rw[<-a8]at k4 k5 T⊢;have Y:fN bkt wr E:=V.trans ((fN.fF _ x).trans (k5.mono aB));have a9:=i.1.note (W':=E) λk cs fz hc=>Y k cs _ fz hc aB;have bs:qu (∀o,fM (o6 E o) 9 1 (U la (j+r) lc) (j+r) (DK f1 Ur Zp (j+r))):=λo=>a9.1.fF (pb (aH _ E) fI o);have br:qu _:=fE k4 (fE Y (fE T ao));clear a8 S I c f w u s y t x C z k4 k5 k6 L T an ao V Y a9 n0 n6 b4 bx b3;go_wp2_with (at_builtin;refine mZ R (sn 51) (sn 53) 40 R 9 iT 1 16 (uq Yl) af.1 af.2.1 af.2.2.1 af.2.2.2 R aB (U la (j+r) lc) (j+r) R (bs _) ⟨↑E,0,X⟩ 1 1 [pk B] R aB R (by intro j ar m;match j,m with|0,m=>(simp at m;subst m;simp[sf])) mr aE aA ?_;intro g5 b5 bw w5 ap ak aj;have H5:qu _:=fE ap (fE ak aj);clear ap ak aj)
      go_roundg (4-(r+1))
      case measure=>omega
      case rel=>
       let⟨ap,ak,aj⟩:=H5.out;let⟨k4,Y,T,ao⟩:=br.out;let⟨c,f,w,u,s,y,t⟩:=K.out;refine⟨r+1,h++[⟨U la (j+r) lc,j+r,Zp⟩],N ⟨g5,b5,X⟩,bw,aA,by go_num,by rw[cE],R,?_⟩;rw[<-cE];refine i.round ah (by rw[w,u];exact k4) (λar hq=>?_) Y T (pb (aH _ E) fI _) (by rw[a4.out];exact ap) ak aj H.2.2.1;obtain e|e|e|e:=hq
       .have:P=ar:=by simpa[ov]using e
        rw[<-this];exact HY.2.2.1
       .have:Q=ar:=by simpa[ov]using e
        rw[<-this];exact ao
       .exact f ar (rz (rz (rr e)))
       .exact f ar (rz (rz (rz e)))
    .obtain rfl:r=4:=by omega
     have aj:¬((4:Nat):Int)<4:=aA
     have C:qu (∃h,M h=4/\Book (o3 wr ⟨kb,0,X⟩ (ox pg ((Zp+1:Nat):Int))) kb B0 (Zp+1) (q++h) ls/\(∀x∈h,∀g,ov x.1=N g->ov (U D j A)=N g\/W.1.size<=g)/\Below B0 W (o3 wr ⟨kb,0,X⟩ (ox pg ((Zp+1:Nat):Int)))/\qI (λk=>ov (U D j A)=N k) W (o3 wr ⟨kb,0,X⟩ (ox pg ((Zp+1:Nat):Int)))):=by
      let⟨c,f,w,u,s,y,t⟩:=K.out;obtain⟨O,p,J,aa,-,-⟩:=H.out;let⟨P,E⟩:=c.next (Zp+1);have z:qI (λk=>ov (U D j A)=N k) W (o3 wr ⟨kb,0,X⟩ (ox pg ((Zp+1:Nat):Int))):=i.5.trans (qI.sN (S:=λ_=>False) E aB) λ_ _ e=>sj e;refine⟨h,i.2,⟨⟨_,_,_,_,by rw[w,u];exact P,f⟩,p.2,λx l=>?_,λx l=>⟨fM.Sw (p.4 x l).1 z aB λg L G=>?_,(p.4 x l).2⟩⟩,λx l=>(i.1.3 x l).2.2.1,ph i.4 (p:=⟨kb,0,X⟩) p.2 _,z⟩
      .obtain l|l:=bV.1 l
       .exact⟨fM.Sw (p.3 x l).1 z aB (aa x l),(p.3 x l).2⟩
       .exact⟨fM.keeps (i.1.all N3 x l) E aB,by have:=(i.1.3 x l).2.1;omega⟩
      .let⟨ab,I⟩:=fM.obj (p.4 x l).1 L;exact fK O I aB G
     rw[show((Zp+1:Nat):Int)=(Zp:Int)+1 from by omega]at C;clear i K ag bq;go_wp2;go_end0;let⟨h,Q,T,V,Y,p5⟩:=C.out;exact⟨R,h,Q,T,V,Y,p5⟩
section
variable {a:Nat}
def Es(m:Nat):List po:=[ox pg (77+(m:Int)),ox pg 0,ox pg 0,ox pg 0,ox pg 0,U X 0 0,U X 0 0,ox pg 0]
def uh(m):gA (Ih m)=Es m:=by unfold gA Ih Es;simp
def MD:∀{pl:List PL}{j:Nat}{p:PL},pl[j]? =N p->(lv pl)[2*j]? =N p.2.1/\(lv pl)[2*j+1]? =N p.2.2
 |[],j,p,h=>by simp at h
 |q::pl,0,p,h=>by
  simp at h;subst h;exact⟨R,R⟩
 |q::pl,j+1,p,h=>by
  have ih:=MD (pl:=pl) (j:=j) (p:=p) jx;have e:lv (q::pl)=q.2.1::q.2.2::lv pl:=R
  grind
def wF{vs i v}(h:vs[i]? =N v)(g):bn (vs.take (i+1)) g=bn (vs.take i) g+bn [v] g/\bn (vs.take (i+1)) g<=bn vs g:=by
 have e:vs.take (i+1)=vs.take i++[v]:=by rw[qbc,h];rfl
 refine⟨by rw[e,lE],?_⟩;have:=lE (vs.take (i+1)) (vs.drop (i+1)) g;rw[YX]at this;omega
structure Oq(W:pn)(kb B0 Zp lo:Nat)(ts ls:List En)(vs:List po)(i:Nat)(wx:pn):Prop where
 ex:∃t2,Book wx kb B0 (Zp+i) t2 ls/\M t2=M ts+4*i/\∀x∈t2,∀g,ov x.1=N g->g<lo\/0<bn (vs.take i) g\/W.1.size<=g
 bel:Below B0 W wx
 kp:qI (λk=>0<bn (vs.take i) k) W wx
section
variable {W wx:pn}{kb B0 Zp lo hi i n:Nat}{ts ls:List En}{vs xs:List po}{v:po}
def Oq.row(h:Oq W kb B0 Zp lo ts ls vs i wx)(d:vs[i]? =N v)(a:gK lo hi vs)(c:fM W 9 1 v n xs):fM wx 9 1 v n xs:=fM.Sw c h.3 aB λg b e=>by
 have f:=wF d g;have j:=GP b;have k:=a.1 g;omega
def Oq.call(h:Oq W kb B0 Zp lo ts ls vs i wx)(d:vs[i]? =N v)(f:gK lo hi vs)(p:fM W 9 1 v n xs)(z:B0<=lo)(c:n<=4294967296)(u:Zp+i<=1099511627776)(J:M ts+4*i<=1099511627776):tf PQ 44 #[pm (N ⟨kb,0,X⟩),v] wx λe j=>e=qs (sh #[])/\Oq W kb B0 Zp lo ts ls vs (i+1) j:=by
 let⟨r,s,I,G⟩:=h.1;have H:=h.2.4
 have w:∀g,ov v=N g->lo<=g/\g<W.1.size/\bn (vs.take i) g=0:=λg a=>by
  have l:=wF d g;have m:=GP a;have o:=f.1 g;have k:=f.2 g aA;exact⟨k.1,p.lt a,aA⟩
 refine aO (JF v n xs wx kb B0 (Zp+i) r ls (h.row d f p) s (λg a=>aX z (w g a).1) (λx b g a e=>?_) c u aA) ?_
 .grind
 .rintro e j ⟨rfl,E,K,A,B,C,D⟩;refine⟨R,⟨r++E,A,by grind,λx b g a=>?_⟩,ow h.2 C,λk l t o y q c=>?_⟩
  .have F:=wF d g;obtain b|b:=bV.1 b
   .grind
   .obtain m|m:=B x b g a
    .have:=GP m;omega
    omega
  .have m:=wF d k;refine D k l t o (h.3 k l t o y q λe=>c kl) q λe=>c ?_;have:=GP e;exact kl
end
structure UP(W:pn)(kb B0 Zp q n:Nat)(v:po)(ts ls:List En)(wx:pn)(lv:po)(r:Nat)(xs:List En):Prop where
 fl:Fl gA Ih 62 8 v W wx Zp lv (n+r) xs
 len:M xs=r
 bk:∃vt mt vl ml,qZ wx kb Zp vt mt vl ml (ts.map En.v) (ts.map λx=>ox pg x.3) ((ls++xs).map En.v) ((ls++xs).map λx=>ox pg x.3)/\∀g,ov vt=N g\/ov mt=N g\/ov vl=N g\/ov ml=N g->B0<=g
 bel:Below B0 W wx
 kp:qI (λk=>ov v=N k) W wx
 box:wx.1[q]? =N (pj (py (Es Zp)) 62 (0,0))/\q<↑W/\ov v≠N q
def UP.round{W wx y u z:pn}{kb B0 Zp q n g:Nat}{v lv m l vl j:po}{ts ls xs:List En}(h:UP W kb B0 Zp q n v ts ls wx lv r xs)(Q:B0<=W.1.size)(O:qZ y kb Zp m l vl j (ts.map En.v) (ts.map λi=>ox pg i.3) ((ls++xs).map En.v++[lv]) ((ls++xs).map (λi=>ox pg i.3)++[ox pg Zp]))(H:∀g,ov m=N g\/ov l=N g\/ov vl=N g\/ov j=N g->B0<=g)(f:fN bkt wx y)(w:Below B0 wx y)(c:Below ↑y y u)(A:fM z 62 8 (U (N ⟨g,b,X⟩) (n+r+1) a) (n+r+1) (DK gA Ih Zp (n+r)++Es Zp))(d:jC lv g u z)(E:lv=U (N ⟨g,b,X⟩) (n+r) a\/g=u.1.size)(L:∀g,ov v=N g->B0<=g):UP W kb B0 Zp q n v ts ls z (U (N ⟨g,b,X⟩) (n+r+1) a) (r+1) (xs++[⟨lv,n+r,Zp⟩]):=by
 rw[<-uh]at A;have T:=h.4.4;have V:=w.4;have S:=c.4;have x:=h.1.note (W':=y) λk s t hc=>f k s _ t hc aB;have F:=x.grow tW c aA A d E
 have G:∀q,ov lv=N q->B0<=q:=λq I=>by
  obtain e|e:=h.1.2 q I
  .exact L q e
  .omega
 have K:=x.1.fF c;let⟨o,C,p⟩:=h.6;have J:u.1[q]? =N (pj (py (Es Zp)) 62 (0,0)):=oy (c.5 q (cH.1 (f q _ _ _ o aB)).1) (f q _ _ _ o aB);refine⟨F,by rw[aN,h.2];rfl,⟨m,l,vl,j,?_,H⟩,ow (ow h.4 (ow w (o5 c aA))) (iD d G aA),?_,⟨oy (d.gE.5 q aA λe=>?_) J,C,p⟩⟩
 .have:=(O.fF c).gE d.gE λk s Y t hc B D=>by
   let⟨P,i⟩:=K.obj D;rw[hc]at i;simp at i;rw[i.2.1]at B;revert B;decide
  grind
 .refine(h.5.trans ((qI.sN (S:=λ_=>False) f λ_ e=>e).trans (qI.qM (fT.fF c fI (λ_=>False))) (λ_ _ e=>e)) (λ_ _ e=>sj e)).trans (qI.qM d.gE) λk f B=>?_;obtain i|i:=h.1.2 k B
  .exact i
  .omega
 .obtain i|i:=h.1.2 q e
  .exact p i
  .omega
def fM.WL{g n Zp:Nat}(h:fM w 62 8 (U (N ⟨g,b,X⟩) n a) n (ps.flatMap gA))(c:j<M ps):fM (w.setCells g (b+j*8) (Es Zp)) 62 8 (U (N ⟨g,b,X⟩) n a) n ((ps.set j (Ih Zp)).flatMap gA):=by rw[<-uh];exact fM.Nx gA 8 tW h c (Ih Zp)
def IU{a:List PL}{u n}(b:M a=n)(h:∀q<n,a[q]? =N u):a=Z9 n u:=by
 apply qba
 grind
end
end Hm
namespace Hm
open Go.RowKit Go.Joins Go.Shelf
def F2(va pl W c m Zp y hi J l)(hr:fM W 62 8 va (M pl) (pl.flatMap gA))(hp:∀p∈pl,hZ W p.2.1 p.1.6/\hZ W p.2.2 p.1.7/\M p.1.6<=4294967296/\M p.1.7<=4294967296)(hf:gK y hi (lv pl))(x:∀g,ov va=N g->y<=g)(bb:m<=y)(O:Book W c m Zp J l)(a3:∀a∈J,∀g,ov a.1=N g->g<y)(a0:∀a∈l,∀g,ov a.1=N g->g<y)(hn:M pl<=4294967296)(hN:Zp+2*M pl<=1099511627776)(cr:M J+8*M pl<=1099511627776)(cy:M l<=1099511627776)(ax:∀a∈l,a.3<=1099511627776):tf PQ 16 #[pm (N ⟨c,0,X⟩),va] W λe W'=>e=qs (sh #[])/\∃S l2,Book W' c m (Zp+2*M pl+1) S l2/\M S=M J+8*M pl/\M l2=M l+4/\(∀a∈l2,a.3<=1099511627776)/\Below m W W'/\qI (λk=>y<=k) W W':=by
 obtain⟨L,z,rfl⟩:=hr.slice;obtain⟨I,ay⟩:∃I,M pl=I:=⟨_,R⟩
 rw[ay]at hr hn hN cr x;have bk:qu _:=ay;let⟨iI,br,bs,bu,bv⟩:=yk K8;have ap:qu _:=fE br (fE bs (fE bu bv));let⟨iN,bw,bx,bz,b0⟩:=yk Bw;have aq:qu _:=fE bw (fE bx (fE bz b0));let⟨iT,b5,b6,b7,b8⟩:=yk xR;have ar:qu _:=fE b5 (fE b6 (fE b7 b8));have H:qu _:=fE hr (fE hp (fE hf (fE x (fE O (fE a3 (fE a0 ax))))));have ca:Oq W c m Zp y J l (lv pl) 0 W:=⟨⟨J,O,R,λd b g a=>rr (a3 d b g a)⟩,aH _ _,qI.refl _ _⟩
 have ce:qu _:=ca;have ba:=O.2;rw[ay];clear hr hp hf x O a3 a0 ax ca ay br bs bu bv bw bx bz b0 b5 b6 b7 b8;go_enter (fq func16 R),ntmps16;go_wp2;go_loopg [4] I (λa b q=>∃j:Nat,j<=I/\b=ox pg j/\a=I-j/\qu (Oq W c m Zp y J l (lv pl) (2*j) q))
 case atStart=>exact⟨0,bU _,R,R,ce⟩
 case round=>
  obtain⟨j,a,rfl,rfl,s⟩:=hrel;by_cases F:j<I
  .have af:(j:Int)<I:=by omega
   obtain⟨p,b⟩:∃p,pl[j]? =N p:=⟨_,aK (by rw[bk.out];exact F)⟩
   have o:∀{i q},Oq W c m Zp y J l (lv pl) i q->fM q 62 8 (U L I z) I (pl.flatMap gA):=λ{i q} h=>fM.Sw H.1 h.3 aB λg hg e=>by
    let⟨ac,hu,A⟩:=yS e;let⟨ae,Q⟩:=H.1.obj hg;have ab:ac∈lv pl:=eR hu;let⟨p,hp,T⟩:=Ys.1 ab;obtain⟨a1,a2,-⟩:=H.2.1 p hp;simp at T;obtain rfl|rfl:=T
    .exact fK a1 Q aB A
    .exact fK a2 Q aB A
   obtain⟨g,aa,ad,x,-⟩:=H.1.pos aA;simp only[ry,true_and]at x;obtain⟨rfl,rfl⟩:=x;have K:(pl.flatMap gA)[j*8+5]? =N p.2.1:=flat_get gA 8 tW pl j 5 p b aA;have P:(pl.flatMap gA)[j*8+6]? =N p.2.2:=flat_get gA 8 tW pl j 6 p b aA;have Y:Z wr ⟨g,aa+j*8+5,X⟩=N p.2.1:=by rw[cE];exact(o s).cell R _ _ K
   have d:∀q,Oq W c m Zp y J l (lv pl) (2*j+1) q->Z q ⟨g,aa+j*8+6,X⟩=N p.2.2:=λq h=>by rw[cE];exact(o h).cell R _ _ P
   let⟨t,u,v,w⟩:=H.2.1 p (aS b);have f:=s.call (MD b).1 H.2.2.1 t bb v aA aA;have n:=λq (h:Oq W c m Zp y J l (lv pl) (2*j+1) q)=>h.call (MD b).2 H.2.2.1 u bb w aA aA;obtain⟨V1,E⟩:∃V,p.2.1=V:=⟨_,R⟩
   obtain⟨V2,G⟩:∃V,p.2.2=V:=⟨_,R⟩
   rw[E]at f Y;rw[G]at n d;have C:qu _:=fE (λ(_:Unit)=>f) (fE n d);clear f n d t u v w o K P E G b s;go_upto_region 4 with(first|(go_at_call 44;refine aO (C.1 ()) ?_;rintro e w2 ⟨rfl,B⟩;have r:qu _:=B;clear B)|go_in)
   have d:=C.2.2 _ r.out;clear Y;go_wp2_with (first|(go_at_call 44;refine aO (C.2.1 _ r) ?_;rintro e w3 ⟨rfl,D⟩;have H3:qu _:=D;clear D)|go_in)
   go_roundg (I-(j+1))
   case measure=>omega
   case rel=>exact⟨j+1,aA,by go_num,R,H3⟩
  .obtain rfl:j=I:=by omega
   have b9:¬(j:Int)<(j:Int):=aA
   let⟨S,K,an,Q⟩:=s.1;let⟨vt,mt,vl,ml,d,h⟩:=K.1;have a6:Z wr ⟨c,0,X⟩=N (ox pg ((Zp:Int)+2*(j:Int))):=by rw[aG d.1];simp
   let⟨Zr,hX,D,zX⟩:=fL wr (py (Es (Zp+2*j))) 62
   have ae:fM Zr 62 8 (U L j z) j (pl.flatMap gA):=by
    refine fM.fF (fM.Sw H.1 s.3 aB λg v e=>?_) D;let⟨C,w,f⟩:=yS e;let⟨E,n⟩:=H.1.obj v;have A:C∈lv pl:=eR w;let⟨B,hp,o⟩:=Ys.1 A;obtain⟨p,r,-⟩:=H.2.1 B hp;simp at o;obtain rfl|rfl:=o
    .exact fK p n aB f
    .exact fK r n aB f
   obtain⟨u,t⟩:∃u,wr.1.size=u:=⟨_,R⟩
   have ao:ov (U L j z)≠N u:=λe=>by
    have:=H.1.lt e;have:=s.2.4;omega
   have a9:m<=↑Zr:=aX ba (aX (eZ d.lt) D.4);have ah:u<↑Zr:=by rw[t]at zX;exact(fO zX)
   obtain⟨b,ab⟩:∃b,Zp+2*j=b:=⟨_,R⟩
   rw[ab]at hX zX K;have cn:b<=1099511627776:=aA
   have bm:(Zp:Int)+2*(j:Int)=b:=aA
   rw[bm]at a6;rw[t]at zX;have HX:qu _:=fE ae (fE D (fE ao (fE ah (fE K (fE an (fE Q (fE ab (fE t s))))))));have ct:qu _:=zX;clear ae D ao ah K an Q bm d h s zX;go_upto_region 6 with fail;rw[show o6 wr (pj #[ox pg (77+(b:Int)),ox pg 0,ox pg 0,ox pg 0,ox pg 0,U X 0 0,U X 0 0,ox pg 0] 62)=Zr from si hX];clear hX a6 t ab;go_wp2;go_loopg [6] j (λn o q=>∃i:Nat,i<=j/\o=ox pg i/\n=j-i/\qu (∃f:List PL,M f=j/\fM q 62 8 (U L j z) j (f.flatMap gA)/\(∀k<i,f[k]? =N (Ih b))/\fT (λk=>ov (U L j z)=N k) Zr q))
   case atStart=>exact⟨0,bU _,R,R,pl,bk,HX.1,λk f=>aA,fT.refl _ _⟩
   case round=>
    obtain⟨i,hi,rfl,rfl,s⟩:=hrel
    have zr:wr.1[u]? =N (pj (py (Es b)) 62 (0,0)):=by
     let⟨r,n,o,p,f⟩:=s.out;exact oy (f.5 u HX.2.2.2.1 HX.2.2.1) ct.out
    obtain⟨q0,q1,q2,q3,q4,q5,q6,q7,-⟩:=gS zr;have cf:qu _:=zr;clear zr;by_cases F:i<j
    .have b9:(i:Int)<j:=by omega
     let⟨o,P,f,T,V⟩:=s.out;obtain⟨g,n,aa,x,-⟩:=f.pos aA;simp only[ry,true_and]at x;obtain⟨rfl,rfl⟩:=x;let⟨x0,r⟩:=jl (i:=0) f.1 F aA;let⟨x1,v⟩:=jl (i:=1) f.1 F aA;let⟨x2,w⟩:=jl (i:=2) f.1 F aA;let⟨x3,A⟩:=jl (i:=3) f.1 F aA;let⟨x4,B⟩:=jl (i:=4) f.1 F aA;let⟨x5,C⟩:=jl (i:=5) f.1 F aA;let⟨x6,E⟩:=jl (i:=6) f.1 F aA;let⟨x7,G⟩:=jl (i:=7) f.1 F aA;have m0:Z wr ⟨g,n+i*8,X⟩=N x0:=f.cell R _ _ r;have m1:Z wr ⟨g,n+i*8+1,X⟩=N x1:=by rw[cE];exact f.cell R _ _ v
     have m2:Z wr ⟨g,n+i*8+2,X⟩=N x2:=by rw[cE];exact f.cell R _ _ w
     have m3:Z wr ⟨g,n+i*8+3,X⟩=N x3:=by rw[cE];exact f.cell R _ _ A
     have m4:Z wr ⟨g,n+i*8+4,X⟩=N x4:=by rw[cE];exact f.cell R _ _ B
     have m5:Z wr ⟨g,n+i*8+5,X⟩=N x5:=by rw[cE];exact f.cell R _ _ C
     have m6:Z wr ⟨g,n+i*8+6,X⟩=N x6:=by rw[cE];exact f.cell R _ _ E
     have m7:Z wr ⟨g,n+i*8+7,X⟩=N x7:=by rw[cE];exact f.cell R _ _ G
     have fz:=λi=>f.frozen R i
     have Y:qu (∃o:List PL,M o=j/\fM (wr.setCells g (n+i*8) (Es b)) 62 8 (U (N ⟨g,n,X⟩) j z) j (o.flatMap gA)/\(∀k<i+1,o[k]? =N (Ih b))/\fT (λk=>ov (U (N ⟨g,n,X⟩) j z)=N k) Zr (wr.setCells g (n+i*8) (Es b))):=⟨o.set i (Ih b),by rw[List.length_set,P],f.WL (by rw[P];exact F),λk hk=>by
      by_cases p:k=i
      .rw[p,List.getElem?_set_self aA]
      .rw[List.getElem?_set_ne (Ne.symm p)];exact T k aA,V.trans (.grown (gY g _ _ _).1) λk _ e=>by rw[show g=k from by simpa using e];rfl⟩
     clear f T V r v w A B C E G s;go_wp2;go_roundg (j-(i+1))
     case measure=>omega
     case rel=>exact⟨i+1,aA,by go_num,R,Y⟩
    .obtain rfl:i=j:=by omega
     have b9:¬(i:Int)<(i:Int):=aA
     have cp:qu (UP Zr c m b u i (U L i z) S l wr (U L i z) 0 []):=by
      let⟨P,w,r,A,f⟩:=s.out;let⟨ae,D,ao,ah,K,an,Q,ab,t,v⟩:=HX.out;rw[IU w A]at r;let⟨vt,mt,vl,ml,d,h⟩:=K.1;refine⟨⟨r,λg o=>rr o,aC⟩,R,⟨vt,mt,vl,ml,?_,h⟩,⟨f.1,f.2,f.3,f.4,λk o=>f.5 k (by have:=D.4;have:=v.2.4;have:=d.lt;have:=K.2;omega) λn=>by have:=H.2.2.2.1 k n;omega⟩,qI.qM f,cf,ah,ao⟩;rw[dI]
      exact(d.fF D).gE f λk B G E hc p n=>by
       let⟨C,o⟩:=ae.obj n;rw[hc]at o;simp at o;rw[o.2.1]at p;revert p;decide
     clear s;go_wp2;go_loopg [1,7] 4 (λo p v q=>∃(r:Nat)(w:List En)(f:Option zm)(n:Nat),r<=4/\v=ox pg r/\p=U f (i+r) n/\o=4-r/\qu (UP Zr c m b u i (U L i z) S l q (U f (i+r) n) r w))
     case atStart=>exact⟨0,[],L,z,bU _,R,R,R,cp⟩
     case round=>
      obtain⟨r,x4,la,lc,ad,rfl,rfl,rfl,n⟩:=hrel;let⟨c8,c6,c7,c5,d,h⟩:=n.3;have E:M ((l++x4).map En.v)=M l+r:=by rw[aV,aN,n.out.2]
      have w:M ((l++x4).map (λp=>ox pg p.3))=M l+r:=by rw[aV,aN,n.out.2]
      obtain⟨f,v⟩:∃f,M l+r=f:=⟨_,R⟩
      have ak:=d.4;have a5:=d.5;rw[E,v]at ak;rw[w,v]at a5;obtain⟨ai,ci,rfl⟩:=ak.slice;obtain⟨am,cm,rfl⟩:=a5.slice;obtain⟨VS,C⟩:∃VS,(l++x4).map En.v=VS:=⟨_,R⟩
      obtain⟨MS,B⟩:∃MS,(l++x4).map (λp=>ox pg p.3)=MS:=⟨_,R⟩
      rw[C]at ak d E;rw[B]at a5 d w;have cx:f<=2199023255552:=aA
      have a6:Z wr ⟨c,0,X⟩=N (ox pg b):=fZ d.1 rfl;have cb:Z wr ⟨c,4,X⟩=N (U ai f ci):=fZ d.1 rfl;have cl:=aM d.1;have au:qu (∀o,fM (o6 wr o) 35 1 (U ai f ci) f VS):=λo=>ak.fF (pb (aH _ wr) fI o);have HG:qu _:=fE d (fE h (fE C (fE B (fE v (fE E w)))));clear d h ak a5 C B v E w;by_cases cz:r<4
      .have c0:(r:Int)<4:=by omega
       go_upto_region 14 with(at_builtin;refine fX _ R (sn 52) (sn 54) 30 R 35 iI _ 1 24 (uq underlying30) ap.1 ap.2.1 ap.2.2.1 ap.2.2.2 R aB (U ai f ci) f VS R (au _) ⟨↑wr,0,X⟩ 1 1 [U la (i+r) lc] R aB R (by intro j c9 a;match j,a with|0,a=>(simp at a;subst a;simp[sf])) (by intro c9 hx;simp at hx;subst hx;rfl) aE aA ?_;intro g3 bg a7 w3 aj V;have bc:=V.keep (au _) (oy (aU _ _ _ HG.1.lt) HG.1.1) aB;have cg:Z w3 ⟨c,4,X⟩=N (U ai f ci):=(by rw[aG bc];rfl);have ck:=aM bc;have H3:qu _:=fE aj V;clear aj V bc)
       let⟨aj,V⟩:=H3.out;let⟨d,h,C,B,v,E,w⟩:=HG.out;have A:=pb (aH _ wr) fI (pj #[U la (i+r) lc] 35);have P:=d.fF A;obtain⟨G,k2⟩:=P.SW (v':=U (N ⟨g3,bg,X⟩) (f+1) a7) (by rw[E,v];exact aj) V R;obtain⟨-,-,k3⟩:=lT (v':=U (N ⟨g3,bg,X⟩) (f+1) a7) (i:=4) P.1 P.4 aB V;have aa:=ow (o5 A (aX a9 n.4.4)) (k3 m ba λu t=>h u (rz (rz (rr t))))
       have az:m<=g3:=by
        obtain e|e:=V.own
        .exact h g3 (rz (rz (rr e)))
        .exact aX (aX (aX a9 n.4.4) A.4) e
       obtain⟨p,bo⟩:∃p:pn,p=o3 w3 ⟨c,4,X⟩ (U (N ⟨g3,bg,X⟩) (f+1) a7):=⟨_,R⟩
       rw[<-bo]at G k2 aa⊢;have ag:fN bkt wr p:=(fN.fF _ A).trans (k2.mono aB);have n0:Z p ⟨c,0,X⟩=N (ox pg b):=fZ G.1 rfl;have n6:Z p ⟨c,8,X⟩=N (U am f cm):=fZ G.1 rfl;have bf:=G.5;rw[w,v]at bf;have bl:qu (∀o,fM (o6 p.drew o) 3 1 (U am f cm) f MS):=λo=>bf.fF (pb (rk (aH _ p)) fI o);have co:=G.lt;have bj:qu (∀o,(o6 p.drew o).1[c]? =_):=λo=>oy (aU p.drew _ _ co) G.1;have cv:∀o,Z (o6 p.drew o) ⟨c,8,X⟩=N (U am f cm):=λo=>by rw[aG (bj.out o)];rfl
       have HY:qu _:=fE G (fE aa (fE az ag));clear bo aj V d h C B v E w A P G k2 k3 aa az ag bf a6 cb cl cg ck au;go_region_law ((refine jK (by rfl) (sn 63) (sn 68) 31 (by rfl) 3 iN 1 8 (uq underlying31) aq.1 aq.2.1 aq.2.2.1 aq.2.2.2 (by rfl) aB _ f MS (by rfl) (bl _) ⟨↑p,0,X⟩ 1 1 [ox pg b] (by rfl) aB (by rfl) (by intro j c9 a;match j,a with|0,a=>(simp at a;subst a;simp[sf])) (by intro c9 hx;simp at hx;subst hx;rfl) aE aA ?_;intro g4 bh a8 w4 ad Y;have bd:=Y.keep (bl _) (bj _) aB;have cj:=aM bd;have cu:Z w4 ⟨c,8,X⟩=N (U am f cm):=(by rw[aG bd];rfl);have H4:qu _:=fE ad Y;clear ad Y bd))
       all_goals
        let⟨ad,Y⟩:=H4.out;let⟨d,h,C,B,v,E,w⟩:=HG.out;let⟨G,aa,az,ag⟩:=HY.out;have A:Below ↑p p (o6 p (pj #[ox pg b] 3)).drew:=rk (pb (aH _ p) fI _);have P:=G.fF A;obtain⟨k4,k5⟩:=P.nums (v':=U (N ⟨g4,bh,X⟩) (f+1) a8) (by rw[w,v];exact ad) Y R;obtain⟨-,-,k6⟩:=lT (v':=U (N ⟨g4,bh,X⟩) (f+1) a8) (i:=8) P.1 P.5 aB Y;have c3:=n.4.4;have c4:=aa.4;have af:=ow aa (ow (o5 A aA) (k6 m ba λu t=>h u (rz (rz (rz t)))))
        have Q:m<=g4:=by
         obtain e|e:=Y.own
         .exact h g4 (rz (rz (rz e)))
         .have:=A.4;omega
        obtain⟨T,bp⟩:∃T:pn,T=o3 w4 ⟨c,8,X⟩ (U (N ⟨g4,bh,X⟩) (f+1) a8):=⟨_,R⟩
        rw[<-bp]at k4 k5 af⊢;have ac:fN bkt wr T:=ag.trans ((fN.fF _ A).trans (k5.mono aB));have bq:=n.1.note (W':=T) λk cs fz hc=>ac k cs _ fz hc aB;have cd:qu (∀o,fM (o6 T o) 62 8 (U la (i+r) lc) (i+r) (DK gA Ih b (i+r))):=λo=>bq.1.fF (pb (aH _ T) fI o);obtain⟨z0,z1,z2,z3,z4,z5,z6,z7,-⟩:=gS (ac u _ _ _ n.6.1 aB);have cc:qu _:=fE k4 (fE ac (fE af Q));clear bp ad Y d h C B v E w A P G k4 k5 k6 aa af az Q ag ac bq n0 n6 cv cj cu;go_wp2_with (at_builtin;refine mZ R (sn 73) (sn 75) 35 R 62 iT 8 96 (uq qbi) ar.1 ar.2.1 ar.2.2.1 ar.2.2.2 R aB (U la (i+r) lc) (i+r) R (cd _) ⟨↑T,0,X⟩ 1 1 (Es b) R aB R (by intro j c9 a;unfold Es at a;match j,a with|0,a=>(simp at a;subst a;simp[sf])|1,a=>(simp at a;subst a;simp[sf])|2,a=>(simp at a;subst a;simp[sf])|3,a=>(simp at a;subst a;simp[sf])|4,a=>(simp at a;subst a;simp[sf])|5,a=>(simp at a;subst a;simp[sf])|6,a=>(simp at a;subst a;simp[sf])|7,a=>(simp at a;subst a;simp[sf])) (by intro c9 hx;unfold Es at hx;simp at hx;rcases hx with rfl|rfl|rfl|rfl|rfl|rfl|rfl|rfl<;>rfl) aE aA ?_;intro g5 cw ch w5 a4 aw av;have H5:qu _:=fE a4 (fE aw av);clear a4 aw av)
        go_roundg (4-(r+1))
        case measure=>omega
        case rel=>
         let⟨a4,aw,av⟩:=H5.out;let⟨k4,ac,af,Q⟩:=cc.out;let⟨d,h,C,B,v,E,w⟩:=HG.out;refine⟨r+1,x4++[⟨U la (i+r) lc,i+r,b⟩],N ⟨g5,cw,X⟩,ch,aA,by go_num,by rw[cE],R,?_⟩;rw[<-cE];refine n.round a9 (by rw[C,B];exact k4) (λq' t=>?_) ac af (pb (aH _ T) fI _) a4 aw av (λg hg=>aX bb (H.2.2.2.1 g hg));obtain e|e|e|e:=t
         .exact h q' (rr e)
         .exact h q' (rz (rr e))
         .have:g3=q':=by simpa[ov]using e
          rw[<-this];exact HY.2.2.1
         .have:g4=q':=by simpa[ov]using e
          rw[<-this];exact Q
      .obtain rfl:r=4:=by omega
       have aj:¬((4:Nat):Int)<4:=aA
       have af:qu (∃S l2,Book (o3 wr ⟨c,0,X⟩ (ox pg ((b+1:Nat):Int))) c m (Zp+2*i+1) S l2/\M S=M J+8*i/\M l2=M l+4/\(∀p∈l2,p.3<=1099511627776)/\Below m W (o3 wr ⟨c,0,X⟩ (ox pg ((b+1:Nat):Int)))/\qI (λk=>y<=k) W (o3 wr ⟨c,0,X⟩ (ox pg ((b+1:Nat):Int)))):=by
        let⟨d,h,C,B,v,E,w⟩:=HG.out;let⟨hr,hp,hf,x,O,a3,a0,ax⟩:=H.out;let⟨ae,D,ao,ah,K,an,Q,ab,t,Y⟩:=HX.out;let⟨k1,k2⟩:=d.next (b+1);have aa:qI (λk=>ov (U L i z)=N k) Zr (o3 wr ⟨c,0,X⟩ (ox pg ((b+1:Nat):Int))):=n.5.trans (qI.sN (S:=λ_=>False) k2 aB) λ_ _ e=>sj e;have G:=K.fF D;have ag:m<=↑wr:=aX O.2 (eZ d.lt);have h0:m<=u:=by rw[<-t];exact aX O.2 (by obtain⟨_,_,_,_,P,_⟩:=K.1;exact eZ P.lt)
        refine⟨S,l++x4,⟨⟨_,_,_,_,by rw[C,B,<-ab]at *;exact k1,h⟩,O.2,λA p=>⟨fM.Sw (G.3 A p).1 aa aB λg hg T=>?_,(G.3 A p).2⟩,λA p=>?_⟩,by rw[an];omega,by rw[aN,n.out.2],λA p=>(bV.1 p).elim (ax A) (λp=>by rw[(n.out.1.3 A p).1];exact cn),ow (ow Y.2 (o5 D (by rw[t];exact h0))) (ph n.4 (p:=⟨c,0,X⟩) O.2 _),?_⟩
        .let⟨V,P⟩:=fM.obj (G.3 A p).1 hg;exact fK ae P aB T
        .obtain p|p:=bV.1 p
         .refine⟨fM.Sw (G.4 A p).1 aa aB λg hg T=>?_,(G.4 A p).2⟩;have:=a0 A p g hg;have:=x g T;omega
         .exact⟨fM.keeps (n.1.all tW A p) k2 aB,by have:=(n.1.3 A p).2.1;omega⟩
        .intro k P ac V hk ht hn;refine aa k P ac V (oy (D.5 k (cH.1 (Y.3 k P ac V hk ht λe=>hn ?_)).1) (Y.3 k P ac V hk ht λe=>hn ?_)) ht λe=>hn (x k e)
         all_goals
          have h5:=lE ((lv pl).take (2*i)) ((lv pl).drop (2*i)) k;rw[YX]at h5;dsimp only at e;exact(hf.2 k aA).1
       rw[show((b+1:Nat):Int)=(b:Int)+1 from by omega]at af;clear n HG au cb;go_wp2;go_end0;exact⟨R,af⟩
end Hm
namespace Hm
open Go.RowKit Go.Joins Go.Shelf
variable {W:pn}{j k:Nat}{vs:List po}{u:po}
def Sx(m n j i:Nat)(b:j<n)(a:i<8):(DK gA Ih m n)[j*8+i]? =(Es m)[i]?:=by have:=flat_get gA 8 tW (Z9 n (Ih m)) j i (Ih m) (by grind) a;rw[uh]at this;exact this
def Ni.cell{x:En}(h:Ni W x)(f:j<x.2):∃g a b,x.1=U (N ⟨g,a,X⟩) x.2 b/\g<W.1.size/\∀c,Below ↑W W c->Z c ⟨g,a+j,X⟩=N (pk (oV x.3)):=by
 have h:fM W _ _ _ _ _:=h;rw[GV]at h;obtain⟨g,a,b,e,-⟩:=h.pos aA;refine⟨g,a,b,e,h.lt (by rw[e];rfl),λc d=>(h.fF d).cell e j _ ?_⟩
 grind
def Mi.cell{x:En}(h:Mi W x)(n:j<x.2):∃g b c,x.1=U (N ⟨g,b,X⟩) x.2 c/\g<W.1.size/\∀d,Below ↑W W d->∀i<8,Z d ⟨g,b+j*8+i,X⟩=(Es x.3)[i]?:=by
 have h:fM W _ _ _ _ _:=h;obtain⟨g,b,c,e,-⟩:=h.pos aA;refine⟨g,b,c,e,h.lt (by rw[e];rfl),λd l i a=>?_⟩;have k:∀m i,i<8->∃u,(Es m)[i]? =N u:=λm i a=>⟨_,aK (by exact a)⟩
 let⟨u,f⟩:=k x.3 i a;rw[f,cE];exact(h.fF l).cell e _ _ (by rw[Sx _ _ _ _ n a];exact f)
def rK{e:wj}{v:po}(h:fM W e 1 v (M vs) vs)(d:vs[k]? =N u):∃g a b,v=U (N ⟨g,a,X⟩) (M vs) b/\∀c,Below ↑W W c->Z c ⟨g,a+k,X⟩=N u:=by have:=(aJ.1 d).1;obtain⟨g,a,b,e,-⟩:=h.pos aA;exact⟨g,a,b,e,λc f=>(h.fF f).cell e k _ d⟩
def JW(W:pn)(d B0:Nat){Zp:Nat}(e b:List En)(hB:Book W d B0 Zp e b)(a2:M e<=2199023255552)(a0:M b<=2199023255552)(hm:∀x∈b,x.3<=1099511627776):tf PQ 17 #[pm (N ⟨d,0,X⟩)] W λaj W'=>aj=qs (rh pw)/\Below ↑W W W':=by
 obtain⟨⟨vt,mt,vl,ml,ax,-⟩,-,ar,aq⟩:=hB;obtain⟨z,rt,rm,rl,rn,-⟩:=ax;have et:M (e.map En.v)=M e:=aV _;have em:M (e.map λx:En=>ox pg x.3)=M e:=aV _;have el:M (b.map En.v)=M b:=aV _;have en:M (b.map λx:En=>ox pg x.3)=M b:=aV _;obtain⟨at_,D,rfl⟩:=rt.slice;obtain⟨am,C,rfl⟩:=rm.slice;obtain⟨al,cl,rfl⟩:=rl.slice;obtain⟨an,cn,rfl⟩:=rn.slice;have az:=(fO z)
 have ag:qu (∀k x,e[k]? =N x->(∃g c h,U at_ (M e) D=U (N ⟨g,c,X⟩) (M e) h/\∀a,Below ↑W W a->Z a ⟨g,c+k,X⟩=N x.1)/\∃g c h,U am (M e) C=U (N ⟨g,c,X⟩) (M e) h/\∀a,Below ↑W W a->Z a ⟨g,c+k,X⟩=N (ox pg x.3)):=λk x f=>by
  have c:=rK rt (k:=k) (u:=x.1) (by grind);have h:=rK rm (k:=k) (u:=ox pg x.3) (by grind)
  grind
 have ah:qu (∀k x,b[k]? =N x->(∃g c h,U al (M b) cl=U (N ⟨g,c,X⟩) (M b) h/\∀a,Below ↑W W a->Z a ⟨g,c+k,X⟩=N x.1)/\∃g c h,U an (M b) cn=U (N ⟨g,c,X⟩) (M b) h/\∀a,Below ↑W W a->Z a ⟨g,c+k,X⟩=N (ox pg x.3)):=λk x f=>by
  have c:=rK rl (k:=k) (u:=x.1) (by grind);have h:=rK rn (k:=k) (u:=ox pg x.3) (by grind)
  grind
 rw[et,em,el,en]at z;obtain⟨T,S⟩:∃T,M e=T:=⟨_,R⟩
 obtain⟨L,P⟩:∃L,M b=L:=⟨_,R⟩
 rw[S]at z ag a2;rw[P]at z ah a0
 have au:∀a:pn,Below ↑W W a->Z a ⟨d,1,X⟩=N (U X 0 0)/\Z a ⟨d,2,X⟩=N (U at_ T D)/\Z a ⟨d,3,X⟩=N (U X 0 0)/\Z a ⟨d,4,X⟩=N (U al L cl)/\Z a ⟨d,6,X⟩=N (U am T C)/\Z a ⟨d,8,X⟩=N (U an L cn):=by
  intro a h;have c:=oy (h.5 d az) z;exact⟨n9,n9,n9,n9,n9,n9⟩
 have i:qu _:=au;have A:qu _:=fE ar (fE aq (fE hm (fE S P)));clear au ar aq hm S P rt rm rl rn et em el en z;let⟨q,r,s,t,u,w⟩:=i W (aH _ _);go_enter (fq func17 R),ntmps17;go_wp2;go_loopg [3] 1 (λ_ v a=>v=ox pg 0/\a=W)
 case atStart=>exact⟨R,R⟩
 case round=>
  obtain⟨rfl,ac⟩:=hrel;obtain rfl:W=wr:=si ac;go_wp2;clear q r s t u w;go_loopg [6] T (λg v a=>∃k:Nat,k<=T/\v=ox pg k/\g=T-k/\Below ↑W W a)
  case atStart=>exact⟨0,bU _,R,R,aH _ _⟩
  case round=>
   obtain⟨k,hk,rfl,rfl,p⟩:=hrel;let⟨q,r,s,t,u,w⟩:=i wr p;by_cases Y:k<T
   .have a5:(k:Int)<(T:Int):=by omega
    obtain⟨x,f⟩:∃x,e[k]? =N x:=⟨_,aK (by rw[A.out.2.2.2.1];exact Y)⟩
    obtain⟨⟨F,J,ci,l,r1⟩,G,K,cj,n,r2⟩:=ag k x f;simp only[ry,true_and]at l n;obtain⟨rfl,rfl⟩:=l;obtain⟨rfl,rfl⟩:=n;let⟨aa,a1⟩:=A.1 x (aS f);let⟨xa,xc,af⟩:=fM.slice aa;obtain⟨c,ae⟩:∃a3,x.2=a3:=⟨_,R⟩
    obtain⟨y,ad⟩:∃m,x.3=m:=⟨_,R⟩
    have ap:∀j<c,∃g I,xa=N ⟨g,I,X⟩/\∀a,Below ↑W W a->Z a ⟨g,I+j,X⟩=N (pk (oV y)):=λj hj=>by
     obtain⟨g,I,h,l,-,n⟩:=aa.cell (j:=j) aA;rw[af]at l;simp only[ry,true_and]at l;rw[ad]at n;exact⟨g,I,l.1,n⟩
    rw[af,ae]at r1;rw[ad]at r2;rw[ae]at a1;have av:qu _:=ap;have O:qu _:=fE r1 r2;clear ap aa af ae ad f r1 r2;go_wp2;obtain⟨ai,rfl⟩:∃ai:pn,ai=wr:=⟨_,R⟩
    go_loopg [7] c (λg v a=>∃j:Nat,j<=c/\v=ox pg j/\g=c-j/\Below ↑W W a)
    case atStart=>exact⟨0,bU _,R,R,p⟩
    case round=>
     obtain⟨j,hj,rfl,rfl,h⟩:=hrel;let⟨d1,d2,d3,d4,d5,d6⟩:=i wr h;have s1:=O.1 wr h;by_cases ay:j<c
     .have a4:(j:Int)<(c:Int):=by omega
      obtain⟨E,H,rfl,V⟩:=av j ay;obtain⟨B,ak⟩:∃B:ByteArray,oV y=B:=⟨_,R⟩
      have ab:=sB y;rw[ak]at V ab;have aw:qu _:=ab
      have Q:∀Zq:pn,Below ↑wr wr Zq->Z Zq ⟨d,2,X⟩=N (U (N ⟨F,J,X⟩) T D)/\Z Zq ⟨F,J+k,X⟩=N (U (N ⟨E,H,X⟩) c xc)/\Z Zq ⟨E,H+j,X⟩=N (pk B)/\Z Zq ⟨d,6,X⟩=N (U (N ⟨G,K,X⟩) T C)/\Z Zq ⟨G,K+k,X⟩=N (ox pg y):=by
       intro Zq hU;have o:Below ↑W W Zq:=ow h (o5 hU h.4);exact⟨(i Zq o).2.1,O.1 Zq o,V Zq o,(i Zq o).2.2.2.2.1,O.2 Zq o⟩
      let⟨s1,s2,s3,s4,s5⟩:=Q wr (aH _ _);have HS:qu _:=Q;clear ak ab Q V d1 d3 d4 d6 q r s t u w;go_upto_region 16 with fail
      go_region_held3 (λo=>Z o ⟨d,2,X⟩=N (U (N ⟨F,J,X⟩) T D)/\Z o ⟨F,J+k,X⟩=N (U (N ⟨E,H,X⟩) c xc)/\Z o ⟨E,H+j,X⟩=N (pk B)/\Z o ⟨d,6,X⟩=N (U (N ⟨G,K,X⟩) T C)/\Z o ⟨G,K+k,X⟩=N (ox pg y)) (first|go_keep|exact HS _ (ow (rk (aH _ wr)) ao))
       ((go_at_call 45;refine(aw _).mono ?_;rintro aj w3 ⟨rfl,ao⟩))
      all_goals
       go_wp2;go_roundg (c-(j+1))
       case measure=>omega
       case rel=>exact⟨j+1,aA,by go_num,R,ow h (o5 (ow (rk (aH _ wr)) ao) h.4)⟩
     .obtain rfl:j=c:=by omega
      have o:¬(j:Int)<(j:Int):=aA
      go_wp2;go_roundg (T-(k+1))
      case measure=>omega
      case rel=>exact⟨k+1,aA,by go_num,R,h⟩
   .obtain rfl:k=T:=by omega
    have ad:¬(k:Int)<(k:Int):=aA
    go_wp2;obtain⟨V,rfl⟩:∃V:pn,V=wr:=⟨_,R⟩
    go_loopg [8] 1 (λ_ v a=>v=ox pg 0/\a=V)
    case atStart=>exact⟨R,R⟩
    case round=>
     obtain⟨rfl,ac⟩:=hrel;obtain rfl:V=wr:=si ac;go_wp2;clear q r s t u w;go_loopg [10] L (λg v a=>∃k:Nat,k<=L/\v=ox pg k/\g=L-k/\Below ↑W W a)
     case atStart=>exact⟨0,bU _,R,R,p⟩
     case round=>
      obtain⟨k,hk,rfl,rfl,p⟩:=hrel;let⟨q,r,s,t,u,w⟩:=i wr p;by_cases Y:k<L
      .have ad:(k:Int)<(L:Int):=by omega
       obtain⟨x,f⟩:∃x,b[k]? =N x:=⟨_,aK (by rw[A.out.2.2.2.2];exact Y)⟩
       obtain⟨⟨gi,oi,ci,y,O⟩,gm,om,cj,B,Q⟩:=ah k x f;simp only[ry,true_and]at y B;obtain⟨rfl,rfl⟩:=y;obtain⟨rfl,rfl⟩:=B;let⟨G,ai⟩:=A.2.1 x (aS f);have ak:=A.2.2.1 x (aS f);let⟨xa,xc,J⟩:=fM.slice G;obtain⟨o,I⟩:∃ao,x.2=ao:=⟨_,R⟩
       obtain⟨xm,H⟩:∃m,x.3=m:=⟨_,R⟩
       have ab:∀j<o,∃g F,xa=N ⟨g,F,X⟩/\∀a,Below ↑W W a->∀K<8,Z a ⟨g,F+j*8+K,X⟩=(Es xm)[K]?:=λj hj=>by
        obtain⟨g,F,c,y,-,B⟩:=G.cell (j:=j) aA;rw[J]at y;simp only[ry,true_and]at y;rw[H]at B;exact⟨g,F,y.1,B⟩
       rw[J,I]at O;rw[H]at Q ak;rw[I]at ai;have ae:qu _:=ab;have Hr:qu _:=fE O Q;clear ab G J I H f O Q;go_wp2;obtain⟨V,rfl⟩:∃V:pn,V=wr:=⟨_,R⟩
       go_loopg [11] o (λg v a=>∃j:Nat,j<=o/\v=ox pg j/\g=o-j/\Below ↑W W a)
       case atStart=>exact⟨0,bU _,R,R,p⟩
       case round=>
        obtain⟨j,hj,rfl,rfl,c⟩:=hrel;let⟨d1,d2,d3,d4,d5,d6⟩:=i wr c;have s1:=Hr.1 wr c;by_cases af:j<o
        .have ap:(j:Int)<(o:Int):=by omega
         obtain⟨l,n,rfl,h⟩:=ae j af;have m0:Z wr ⟨l,n+j*8,X⟩=N (ox pg (77+(xm:Int))):=h wr c 0 aA;have m1:Z wr ⟨l,n+j*8+1,X⟩=N (ox pg 0):=h wr c 1 aA;have m2:Z wr ⟨l,n+j*8+2,X⟩=N (ox pg 0):=h wr c 2 aA;have m3:Z wr ⟨l,n+j*8+3,X⟩=N (ox pg 0):=h wr c 3 aA;have m4:Z wr ⟨l,n+j*8+4,X⟩=N (ox pg 0):=h wr c 4 aA;have m5:Z wr ⟨l,n+j*8+5,X⟩=N (U X 0 0):=h wr c 5 aA;have m6:Z wr ⟨l,n+j*8+6,X⟩=N (U X 0 0):=h wr c 6 aA;have m7:Z wr ⟨l,n+j*8+7,X⟩=N (ox pg 0):=h wr c 7 aA;let⟨Zr,hX,aa,zX⟩:=fL wr #[ox pg (77+(xm:Int)),ox pg 0,ox pg 0,ox pg 0,ox pg 0,U X 0 0,U X 0 0,ox pg 0] 62;have E:Below ↑W W Zr:=ow c (o5 aa c.4);obtain⟨q0,q1,q2,q3,q4,q5,q6,q7,-⟩:=gS zX;have x6:=(i Zr E).2.2.2.2.2;have s5:=Hr.2 Zr E;have HX:qu _:=E;clear h aa zX E q r s t u w d1 d2 d3 d5 d6;go_upto_region 33 with fail;rw[<-hX];clear hX m0 m1 m2 m3 m4 m5 m6 m7;go_quiet (fail);go_wp2;go_roundg (o-(j+1))
         case measure=>omega
         case rel=>exact⟨j+1,aA,by go_num,R,Fr.fG HX _⟩
        .obtain rfl:j=o:=by omega
         have h:¬(j:Int)<(j:Int):=aA
         go_wp2;go_roundg (L-(k+1))
         case measure=>omega
         case rel=>exact⟨k+1,aA,by go_num,R,c⟩
      .obtain rfl:k=L:=by omega
       have ad:¬(k:Int)<(k:Int):=aA
       go_wp2;go_ret;exact⟨R,p⟩
open Dv (Zq)
section
variable {n e:Nat}{b:Ba}{wait:List Ba}{chain:List Zq}{h:Lo}
def C1{i:Im.It}(h:kN i n=N b):M b.4<=2*M i.2:=by
 unfold kN at h;split at h
 .cases h
 .split at h
  .cases h
  .rename_i x r j;split at h
   .rw[Option.bind_eq_some_iff]at h;obtain⟨l,d,h⟩:=h;unfold jA at h;split at h
    .rename_i e f g a k c;split at h
     .cases h
     .split at h
      .split at h
       .cases h;have:=BH d (k:=a) lm
        grind
       .cases h
      .cases h
    .cases h
   .cases h
def Ku:∀(f:Nat)(s:List UInt8)(n:Nat)(b:Ba),b∈Dv.rd f s n->M b.4<=2*M s
 |0,s,n,b,h=>by simp[Dv.rd]at h
 |f+1,s,n,b,h=>by
  rw[Dv.rd]at h;split at h
  .simp at h
  .split at h
   .simp at h
   .split at h
    .simp at h
    .rename_i i k a _ x c;obtain h|h:=bV.1 h
     .split at h
      .rw[bT.1 h];have:=C1 c;have:=xM a;omega
      .simp at h
     .have:=Ku f _ n b h
      grind
def KO{c:Cf}{u:Zq}{cs:List Ch}(h:b∈(Dv.take c u n cs wait).2):b∈wait\/M b.4<=8192:=by
 unfold Dv.take at h;simp only at h;obtain h|h:=bV.1 h
 .exact rr h
 .obtain⟨s,_,a⟩:=Ys.1 h;have:=Ku _ _ _ _ a;have d:=lJ (M s) s 4096 [] (by grind);exact rz aA
def Ud(x:Lo):=M x.6<=8192/\M x.7<=20
def EC(hc:gB chain=pw)(e:Nat):M (fV (chain[e]!))<=20:=by
 by_cases a:e<M chain
 .have:=(lN (jq chain X (gJ hc).2.2.1 e a)).2.1;have b:=dR Dv.isDep (chain[e]!).4;unfold fV;omega
 .rw[List.getElem!_eq_getElem?_getD,List.getElem?_eq_none aA];decide
def Ii{c:Cf}(hc:gB chain=pw){t:List (List UInt8)}(a:M t<=8192):Ud (Dv.lay c chain n h e t):=by
 unfold Dv.lay Ud;refine⟨a,?_⟩;dsimp only;split
 .simp
 .exact EC hc e
def Bp{c:Cf}{chain:List Zq}(hc:gB chain=pw){n:Nat}:∀(f:Nat)(h:Lo)(wait:List Ba),(∀b∈wait,M b.4<=8192)->(∀x,x∈(Dv.draws c chain n f h wait).1->Ud x)/\∀b,b∈(Dv.draws c chain n f h wait).2->M b.4<=8192
 |0,h,wait,hw=>⟨λx d=>by simp[Dv.draws]at d,λb a=>hw b a⟩
 |f+1,h,wait,hw=>by
  have e:∀b,b∈(Dv.sift c chain n h.3 (h.2+c.6) wait).2->M b.4<=8192:=λb a=>hw b (pG (c:=c) (chain:=chain) (n:=n) _ _ _ _ a)
  have g:(∀x,(Dv.draw c chain n h wait).1=N x->Ud x)/\(Dv.draw c chain n h wait).2=(Dv.sift c chain n h.3 (h.2+c.6) wait).2:=by
   unfold Dv.draw;dsimp only;split
   .simp
   .rename_i b a;exact⟨λx d=>(by cases d;exact Ii hc (hw b (yI (c:=c) (chain:=chain) (n:=n) _ _ _ _ a).1)),R⟩
   .split
    .simp
    .exact⟨λx d=>(by cases d;exact Ii hc aC),R⟩
  rw[Dv.draws];split
  .grind
  .rename_i x k d;rw[d]at g;have ih:=Bp hc (c:=c) (n:=n) f x k (λb a=>e b (by grind))
   grind
def yw{c:Cf}{chain:List Zq}(hc:gB chain=pw):∀j:Nat,(∀b,b∈(Dv.gone c chain j).2->M b.4<=8192)/\∀x,x∈(Dv.gone c chain j).3->Ud x
 |0=>⟨λb d=>by simp[Dv.gone,Dv.start]at d,λx a=>by
   simp only[Dv.gone,Dv.start,bT]at a;rw[a];exact⟨by simp[Dv.first],EC hc 0⟩⟩
 |j+1=>by
  obtain⟨a,f⟩:=yw hc j;rw[Dv.gone];unfold Dv.step;dsimp only;have hw:∀b,b∈(Dv.take c (chain[j]!) j (Dv.gone c chain j).1 (Dv.gone c chain j).2).2->M b.4<=8192:=λb d=>(KO d).elim (a b) id;obtain⟨h,e⟩:=Bp hc (c:=c) (n:=j) _ _ _ hw;refine⟨e,λx g=>?_⟩
  grind
end
end Hm
namespace Pa
open Go Go.Conc Go.ChangeShapes Go.WideShapes Go.ChangeAt Go.RowKit
open Hm (PU jT iy lU ny jO Rd jP iZ fP gQ)
open Dv (Zq)
open Po hiding Zq H B IT PR NB
section
variable {t:wj}{n b s:Nat}{c f1 d e:Field}{a:Nat->Bool}{tm:Array po}{D:Nat->Prop}{v:po}{xs:List po}{w':pn}
def EQ:Tryz.prog.cellsOf 68=3:=Zm
def vA:Tryz.prog.cellsOf 42=4:=Zm
def A2:Tryz.prog.cellsOf 9=1:=Zm
def FP:Tryz.prog.cellsOf 40=1:=Zm
def J7:Tryz.prog.cellsOf 39=1:=Zm
def BB:Tryz.prog.cellsOf 3=1:=Zm
def A6:Tryz.prog.cellsOf 22=1:=Zm
def Cy:Tryz.prog.cellsOf 24=7:=Zm
def MY{H}:∀d:DataW H,1<=Rows.uptoBulk d
 |.lit l=>by cases l<;>simp[Rows.uptoBulk]
 |.nil=>kh
 |.ptr d=>kh
 |.slice a b=>kh
 |.agg a=>kh
 |.iface a d=>kh
 |.map m=>kh
 |.held h=>kh
def Db{H}:∀l:List (DataW H),M l<=Rows.uptoBulkAll l
 |[]=>aC
 |d::l=>by
  have:=MY d;have:=Db l;simp only[Rows.uptoBulkAll,aP];omega
def Ec{H}{d:DataW H}:∀{l},d∈l->Rows.uptoBulk d<=Rows.uptoBulkAll l
 |[],h=>by cases h
 |e::l,h=>by
  simp only[Rows.uptoBulkAll];obtain rfl|h:=bM.1 h
  .omega
  .have:=Ec h;omega
def HE{α:Type}{Q:Nat->α->Prop}:∀n,(∀i<n,∃z,Q i z)->∃l,M l=n/\∀i z,l[i]? =N z->Q i z
 |0,_=>⟨[],R,λi z h=>by simp at h⟩
 |n+1,h=>by
  let⟨l,a,c⟩:=HE n λi b=>h i aA;let⟨z,e⟩:=h n aA;refine⟨l++[z],by simp[a],λi y d=>?_⟩
  grind
section
variable {H:Type}{enc:wj×po->H}{W:pn}{held:Bool}
def add_add(a:zm)(c:a.3=X)(n):a.add n=⟨a.1,a.2+n,X⟩:=by obtain⟨b,o,s⟩:=a;simp only at c;subst c;unfold sf;simp
def Cg{e k fuel cs x}(S:Tryz.prog.underlying t=N (.slice e))(O:Tryz.prog.cellsOf e=k)(s:0<k)(h:ze enc px W 0 (λ_=>pw) held fuel t cs=N x){q:Type}(f:q->List po)(r:∀c,M (f c)=k)(B:q->DataW H->Prop)(J:∀n d y,ze enc px W 0 (λ_=>pw) held n e d=N y->∃c,d=f c/\B c y.1):∃(v:po)(l:List q),cs=[v]/\Rd W k v (M l) (l.flatMap f)/\M l<=Rows.uptoBulk x.1/\(∃c b,v=U c (M l) b)/\∀c∈l,∃A,B c A/\Rows.uptoBulk A<=Rows.uptoBulk x.1:=by
 obtain⟨rfl,rfl⟩|⟨c,len,aa,m,n,D,T,rfl,hb,P,ab,C,rfl,w⟩:=Go.Deep.open_slice S h
 .exact⟨_,[],R,Hm.Rd.nil _ _ _ _,aC,⟨X,0,R⟩,λc h=>by cases h⟩
 simp only[if_true]at C;subst C;rw[O]at w
 have F:0<m->c.3=X:=λu=>by
  obtain⟨d,y,_⟩:=w 0 u;obtain⟨_,g,hc⟩:=World.cells?_some y;have b:=hc 0 s;rw[aK aA]at b;unfold Z at b;split at b
  .split at b
   .cases b
   .rename_i j;have e:(c.add (0*k)).add 0=c:=by simp[sf]
    rw[e]at j;simpa using j
  .cases b
 have K:∀i<m,∃(z:q)(d:List po),M d=k/\(∀j<k,Z W ⟨c.1,c.2+i*k+j,X⟩=d[j]?)/\d=f z/\B z (D i):=by
  intro i o;let⟨d,b,j⟩:=w i o;obtain⟨_,g,hc⟩:=World.cells?_some b;let⟨z,p,y⟩:=J n d _ j;have L:=F aA;refine⟨z,d,g,λQ G=>?_,p,y⟩;have:=hc Q G;rw[add_add c L,add_add _ R]at this;exact this
 let⟨l,g,E⟩:=HE (α:=q) (Q:=λi z=>∃d:List po,M d=k/\(∀j<k,Z W _=d[j]?)/\d=f z/\B z _) len λi o=>K i aA
 have I:Rows.uptoBulkAll ((IS len).map D)<=Rows.uptoBulk (H:=H) (.slice ((IS len).map D) ((IS (m-len)).map λj=>D (len+j))):=by
  simp only[Rows.uptoBulk];omega
 refine⟨_,l,R,?_,?_,⟨N c,m,by rw[g]⟩,λz p=>?_⟩
 .rw[g]
  have G:∀j y,(l.flatMap f)[j]? =N y->Z W ⟨c.1,c.2+j,X⟩=N y:=λj y L=>by
   have b:=(aJ.1 L).1;rw[Hm.jm f k r,g]at b;have o:=(Nat.div_lt_iff_lt_mul s).2 b;have Q:j%k<k:=Nat.mod_lt _ s;have ad:j=j/k*k+j%k:=by have:=Nat.div_add_mod j k;rw[Nat.mul_comm]at this;omega
   have p:l[j/k]? =N l[j/k]:=aK aA;obtain⟨d,V,Y,c3,_⟩:=E _ _ p;have ac:=Hm.flat_get f k r l _ _ _ p Q
   grind
  refine⟨by rw[Hm.jm f k r,g],_,m,R,P,λu=>⟨_,_,?_,?_,G⟩⟩
  .have Q:=F aA;obtain⟨b,V,a⟩:=c
   grind
  .have b:0<M (l.flatMap f):=by rw[Hm.jm f k r,g];exact Nat.mul_pos u s
   have:=G 0 _ (aK b);unfold Z at this
   grind
 .rw[g];have:=Db ((IS len).map D)
  grind
 .let⟨i,o⟩:=fD.1 p;obtain⟨_,_,_,_,b⟩:=E i z o;have j:=(aJ.1 o).1;exact⟨_,b,aX (Ec (bB.2 ⟨i,dN.2 aA,R⟩)) I⟩
end
section
variable {H:Type}{enc:wj×po->H}{W:pn}{held:Bool}{fuel:Nat}{cs:List po}{x:DataW H×List MemPlace}
def QZ(s):pk s=jP s.1.1:=by simp[jP]
def B4{k n}(a:k=sr)(h:(Lit.int k n).wf=pw):∃m:Nat,n=m:=by subst a;refine⟨n.toNat,?_⟩;have b:IntKind.u32.min=0:=R;simp only[Lit.wf,bN,Zh]at h;omega
def open_strs(h:ze enc px W 0 (λ_=>pw) held fuel 40 cs=N x):∃v l,cs=[v]/\jO W v l/\M l<=Rows.uptoBulk x.1:=by
 obtain⟨v,l,b,c,d,_,_⟩:=Cg Yl A2 aA h (λs=>[jP s]) (λ_=>R) (λ_ _=>True) (λn g y f=>by
  obtain⟨s,rfl,rfl,_⟩:=DataW.trod_string wq f;exact⟨s.1.1,by rw[<-QZ],trivial⟩)
 refine⟨v,l,b,?_,d⟩;have e:∀l:List (List UInt8),l.flatMap (λs=>[jP s])=l.map jP:=λl=>by induction l with|nil=>rfl|cons a l ih=>simp[ih]
 unfold jO;rw[<-e l];exact c
def Mm(h:ze enc px W 0 (λ_=>pw) held fuel 39 cs=N x):∃v l,cs=[v]/\ny W v l/\M l<=Rows.uptoBulk x.1:=by
 obtain⟨v,l,a,b,j,_,_⟩:=Cg underlying39 EQ aA h iZ (λ_=>R) (λ_ _=>True) (λn i y k=>by
  obtain⟨u,w,z,t,rfl,d,c,a,b⟩:=Go.Deep.trod_struct3 underlying68 k;rw[EQ]at d
  match i,d with
  |[c0,c1,c2],_=>
  simp only[A6,A2]at c a b;obtain⟨q,e,rfl,p⟩:=yn XZ c;obtain⟨r,f,rfl,w1⟩:=yn XZ a;obtain⟨s,g,rfl,_⟩:=DataW.trod_string wq b;simp at e f g;subst e f g;obtain⟨m,rfl⟩:=B4 R p;obtain⟨o,rfl⟩:=B4 R w1;exact⟨⟨m,o,s.1.1⟩,by simp[iZ],trivial⟩)
 exact⟨v,l,a,b,j⟩
def trod_struct4(o:Tryz.prog.underlying t=N (.struct #[c,f1,d,e]))(h:ze enc px W b a held fuel t cs=N x):∃f g i j n,x=(.agg [f.1,g.1,i.1,j.1],f.2++(g.2++(i.2++j.2)))/\M cs=Tryz.prog.cellsOf t/\ze enc px W b a held n c.2 ((cs.drop c.3).take (Tryz.prog.cellsOf c.2))=N f/\ze enc px W b a held n f1.2 ((cs.drop f1.3).take (Tryz.prog.cellsOf f1.2))=N g/\ze enc px W b a held n d.2 ((cs.drop d.3).take (Tryz.prog.cellsOf d.2))=N i/\ze enc px W b a held n e.2 ((cs.drop e.3).take (Tryz.prog.cellsOf e.2))=N j:=by
 obtain⟨xs,n,_,rfl,l,m,k⟩:=DataW.trod_struct o h
 match xs,m with
 |[f,g,i,j],_=>exact⟨f,g,i,j,n,aC,l,by simpa using k 0 c R,by simpa using k 1 f1 R,by simpa using k 2 d R,by simpa using k 3 e R⟩
def JA(h:ze enc px W 0 (λ_=>pw) held fuel 25 cs=N x)(F:Rows.uptoBulk x.1<=4294967296):∃v a b c,cs=[v]/\v=U b (M a) c/\iy W (U b (M a) c) a/\M a<=4294967296/\∀p∈a,-9223372036854775808<=p.1.2/\p.1.2<=9223372036854775807:=by
 obtain⟨v,u,d,e,f,⟨b,c,q⟩,E⟩:=Cg Tryz.underlying25 vA aA h jT (λ_=>R) (λp g=>(Rows.uptoBulk g<=4294967296->lU W p.1 p.2.1 p.2.2)/\-9223372036854775808<=p.1.2/\p.1.2<=9223372036854775807) (λn r K t=>by
  obtain⟨L,O,P,Q,G,rfl,l,j,d,e,f⟩:=trod_struct4 underlying42 t;rw[vA]at l
  match r,l with
  |[c0,c1,c2,c3],_=>
  simp only[BB,J7,FP]at j d e f;obtain⟨y,m,rfl,J⟩:=yn Yp j;obtain⟨z,o,rfl,w1⟩:=yn Yp d;let⟨I,lt,g,A,C⟩:=Mm e;let⟨H,w,i,B,D⟩:=open_strs f;simp at m o g i;subst m o g i;refine⟨(⟨y,z,lt,w⟩,c2,c3),by simp[jT],⟨λk=>⟨A,B,?_,?_⟩,?_⟩⟩
  .simp only[Rows.uptoBulk,Rows.uptoBulkAll]at k;simp only;omega
  .simp only[Rows.uptoBulk,Rows.uptoBulkAll]at k;simp only;omega
  .simp only[Lit.wf,bN,Zh]at w1;exact w1)
 refine⟨v,u,b,c,d,q,⟨by rw[<-q];exact e,λp s=>?_⟩,aA,λp s=>?_⟩
 .grind
 grind
def B3{g i j}(v:Tryz.prog.underlying t=N (.struct #[c,f1,d,e,g,i,j]))(h:ze enc px W b a held fuel t cs=N x):∃k l m o p q r n,x.2=k.2++(l.2++(m.2++(o.2++(p.2++(q.2++(r.2))))))/\M cs=Tryz.prog.cellsOf t/\ze enc px W b a held n c.2 ((cs.drop c.3).take (Tryz.prog.cellsOf c.2))=N k/\ze enc px W b a held n f1.2 ((cs.drop f1.3).take (Tryz.prog.cellsOf f1.2))=N l/\ze enc px W b a held n d.2 ((cs.drop d.3).take (Tryz.prog.cellsOf d.2))=N m/\ze enc px W b a held n e.2 ((cs.drop e.3).take (Tryz.prog.cellsOf e.2))=N o/\ze enc px W b a held n g.2 ((cs.drop g.3).take (Tryz.prog.cellsOf g.2))=N p/\ze enc px W b a held n i.2 ((cs.drop i.3).take (Tryz.prog.cellsOf i.2))=N q/\ze enc px W b a held n j.2 ((cs.drop j.3).take (Tryz.prog.cellsOf j.2))=N r:=by
 obtain⟨xs,n,_,rfl,s,u,f⟩:=DataW.trod_struct v h
 match xs,u with
 |[k,l,m,o,p,q,r],_=>exact⟨k,l,m,o,p,q,r,n,aC,s,by simpa using f 0 c R,by simpa using f 1 f1 R,by simpa using f 2 d R,by simpa using f 3 e R,by simpa using f 4 g R,by simpa using f 5 i R,by simpa using f 6 j R⟩
def DO(h:ze enc px W b a held fuel 24 cs=N x):∃t,cs=(fP t).1/\x.2=[]:=by
 let⟨I,J,K,L,O,P,Q,n,u,k,l,m,o,p,q,r,s⟩:=B3 underlying24 h;rw[Cy]at k
 match cs,k with
 |[c0,c1,c2,c3,c4,c5,c6],_=>
 simp only[A6,BB]at l m o p q r s;obtain⟨E,c,rfl,D⟩:=yn XZ l;obtain⟨F,d,rfl,w1⟩:=yn XZ m;obtain⟨v,e,rfl,w2⟩:=yn Yp o;obtain⟨w,f,rfl,w3⟩:=yn Yp p;obtain⟨y,g,rfl,w4⟩:=yn Yp q;obtain⟨z,i,rfl,G⟩:=yn Yp r;obtain⟨A,j,rfl,H⟩:=yn Yp s;simp at c d e f g i j;subst c d e f g i j;obtain⟨B,rfl⟩:=B4 R D;obtain⟨C,rfl⟩:=B4 R w1;exact⟨⟨B,C,v,w,y,z,A⟩,R,u⟩
end
def T1:((((begin px (λ_ _=>0) default).1.1[1]?).bind Obj.row?).map (·.2))=N 306:=Zm
def MM:2<=qd Tryz.prog.globals:=Zg Zm
def Fp:qd Tryz.prog.globals<(begin px (λ_ _=>0) default).1.1.size:=Zg Zm
def Tz{W:pn}(h:W.ShapedOpen px):qd Tryz.prog.globals<=W.1.size:=by
 obtain⟨o,_,a,_⟩:=h.2 _ fI Fp
 grind
def L2{f fn c}(d:px.2[f]? =N fn)(g:yP f=pw)(a:fn.9=N c):o7 (qe px.2 D) ((base f).at ⟨tm,[]⟩ [.code c]):=by
 refine⟨λi e=>?_,λh b=>(by cases b),R⟩;obtain rfl:i=.code c:=by simpa[Frame.at]using e
 rewrite [Aj]
 have:=(G8 g d).2;rw[a]at this;exact this
section
variable {W:pn}
def lF(a):Z (hush W) a=Z W a:=by
 unfold Z hush;rw[eB];cases h:W.1[a.1]? with
 |none=>rfl
 |some o=>cases o<;>rfl
def CD(h:Rd W s v n xs):Rd (hush W) s v n xs:=by obtain⟨d,a,b,e,f,i⟩:=h;refine⟨d,a,b,e,f,λl=>?_⟩;let⟨g,o,c,j,hc⟩:=i l;exact⟨g,o,c,by simpa[hush]using j,λm u k=>oy (lF _) (hc m u k)⟩
def NL{ps}(h:iy W v ps):iy (hush W) v ps:=⟨CD h.1,λp a=>⟨CD (h.2 p a).1,CD (h.2 p a).2.1,(h.2 p a).2.2⟩⟩
def ES(h:W.ShapedOpen px)(a:iJ W):oE (hush W):=by
 refine⟨⟨⟨oy (lF _) a.1.1,oy (lF _) a.1.2.1,oy (lF _) a.1.2.2⟩,⟨oy (lF _) a.2.1,oy (lF _) a.2.2.1,oy (lF _) a.2.2.2⟩⟩,?_⟩;have:=T1;cases e:(((begin px (λ_ _=>0) default).1.1[1]?).bind Obj.row?)with
 |none=>grind
 |some z=>
  obtain⟨zero,t⟩:=z;rw[e]at this;simp only[bJ,aI]at this;obtain⟨cs,b,_⟩:=h.1 1 zero t (by have:=MM;omega) e;subst this;exact⟨_,_,_,GK b R,aB,aB,aB,aB,aB⟩
def I8{j y}(hc:gQ (λ_=>False) (hush W) w')(hw:WP (qe px.2 D) w' y)(a:Keep (qe px.2 D) ⟨uw W,W,j⟩ y):Go.RowKit.Below W.1.size W { y with tape:=W.2 }:=by
 refine⟨a.4,R,a.5,a.3,λk c=>?_⟩;by_cases b:uw W k
 .exact(a.1 k b).2
 .have g:¬(qe px.2 D).4 k:=λh=>b (a.2 k h c);have i:(hush W).1.size=W.1.size:=by simp[hush]
  have f:=oy (hw.4 k g) (hc.2 k (by rw[i];exact c) (λe=>e));refine oy f ?_;cases d:W.1[k]? with
  |none=>grind
  |some o=>exact GK d (Bool.eq_false_iff.2 λe=>b ⟨o,d,e⟩)
end
end
end Pa
