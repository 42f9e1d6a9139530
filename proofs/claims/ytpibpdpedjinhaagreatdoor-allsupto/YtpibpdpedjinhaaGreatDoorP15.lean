import Derived.Test.YtpibpdpedjinhaaGreatDoorP13
set_option maxRecDepth 100000
set_option maxHeartbeats 4000000
set_option linter.all false
open Array renaming getElem?_append_left->Z8,replicate->wy,size->qd
open Bool renaming false->pi,true->pw
open Eq renaming trans->oy
open Go renaming Addr->zm,Calls->tf,Code->vy,Exit->qaC,Value->po,World->pn,heap_alloc_new->sv,info_parts->yk,wp_seq->ud
open Go.Addr renaming add->sf
open Go.Code renaming block->Yj,cond->Yh,seq->qv
open Go.Ending renaming returned->qs
open Go.Instr renaming indexAt->Yc
open Go.IntKind renaming i64->pg
open Go.Obj renaming cells->pj
open Go.Proofs.Tryz renaming f35->z8,underlying87->qak
open Go.RowKit renaming Hid->qu
open Go.RowKit.Below renaming alloc->pb,cell->qi,mono->o5,trans->ow
open Go.Value renaming bool->rh,int->ox,oneCell'->sw,ownBlock->ov,pointer->pm,slice->U,tuple->sh
open Go.World renaming alloc->o6,cell?->Z,setCell->o3
open List renaming length->M,length_eq_zero_iff->tt
open Option renaming none->X,some->N
open Prod renaming fst->p9
namespace Go.Proofs.YtpibpdpedjinhaaGreatDoor
namespace Hm
open Go.RowKit Go.Joins Go.Shelf
open Dv (Ba Lo Cf Zq fN)
open Fr (fG)
section
section
variable {tm:Array po}{w:pn}{kb n e i xb be bi bt bp bn:Nat}{t:Int}{kv rv vc vch vwa hl:po}{c:Cf}{bta:Option zm}{btc:Nat}{Q:qaC->Act->pn->Prop}{ug hh un hf:Nat}
noncomputable def PZ:vy:=cq [1,1,1,1,0,0] vX
def L8{G b}(h:AF tm kb n e t kv i xb rv)(hw:gq w kb c (U (N ⟨ug,hh,X⟩) un hf) vch vwa hl)(k:Qo w xb be bi bt bp (U bta bn btc))(S:Z w ⟨ug,hh+e*4+1,X⟩=N (ox pg b))(j:((be == e+1&&decide (n<e+1)) || (decide (bn=0)&&be == e&&decide (n<e+1)&&decide (b+c.5<t)))=G)(J:e<un)(P:un<=60)(F:be<4611686018427387904)(I:0<=c.5/\c.5<=100)(O:0<=b/\b<=4294967296)(hK:∀f y,AF f kb n e t kv i xb rv->f[142]? =N (.bool G)->Below ↑w w y->Q .normal ⟨f,[]⟩ y):PZ.wp PQ Q ⟨tm,[]⟩ w:=by
 obtain⟨a,o,p,s,u,v,x,q,r⟩:=h;obtain⟨A,rfl,a⟩:=jg a
 iterate 252 (obtain⟨_,A,rfl,f⟩:=je a;clear a;have a:=f;clear f)
 obtain rfl:=tt.1 a;clear a;simp only[cN,cM,cG,aI]at o p s u v x q r;subst o p s u v x q r
 as_aux_lemma=>
  let⟨T,V,W,Y,y4,yf⟩:=gV k.1;have D:Z w ⟨kb,4,X⟩=N (ox pg c.5):=im
  have E:Z w ⟨kb,7,X⟩=N (U (N ⟨ug,hh,X⟩) un hf):=im
  have L:(e:Int)<un:=aA
  have K:e<4611686018427387904:=aA
  have g:(((bn:Int) == 0)=pw/\decide (bn=0)=pw)\/(((bn:Int) == 0)=pi/\decide (bn=0)=pi):=by
   by_cases f:bn=0
   .exact .inl ⟨by rw[f];rfl,Ze f⟩
   .exact .inr ⟨Zc aA,Zd f⟩
  have H:qu _:=fE j hK;clear j hK hw k;simp only[PZ,vX,qo,cq,z8];obtain⟨B,z,l⟩|⟨B,z,l⟩:=XS be e
  case' inl=>obtain⟨C,f,y,d⟩|⟨C,f,y,d⟩:=XJ n e
  case' inl.inr=>obtain⟨f,y⟩|⟨f,y⟩:=g
  case' inr=>obtain⟨f,y⟩|⟨f,y⟩:=g
  case' inr.inl=>obtain⟨y,f,m⟩|⟨y,f,m⟩:=Ww be e
  case' inr.inl.inl=>obtain⟨C,f,y,d⟩|⟨C,f,y,d⟩:=XJ n e
  case' inr.inl.inl.inl=>obtain⟨y,f⟩|⟨y,f⟩:=Un (b+c.5) t
  case' inl.inr.inl=>have f:((be:Int) == (e:Int))=pi:=Zc aA
  case' inl.inr.inl=>have f:(be == e)=pi:=Zc aA
  all_goals
   try clear g
   try clear l
   try clear m
   try clear d
   go_upto_region 13 with fail;go_quiet (fail);go_wp2;refine H.2 _ _ ⟨R,R,R,R,R,R,R,R,R⟩ ?_ ib;rw[<-H.out.1];simp[*]
end
end
section
variable {a b:Int}
section
variable {tm:Array po}{w:pn}{kb n e i xb be bi bt bp bn:Nat}{t:Int}{kv rv vc vch vwa hl:po}{c:Cf}{bta:Option zm}{btc:Nat}{Q:qaC->Act->pn->Prop}{ug hh un hf:Nat}
noncomputable def OL:vy:=cq [1,1,1,1,1,0] vX
noncomputable def Px:vy:=cq [1,1,1,1,1,1,0] vX
noncomputable def Qp:vy:=cq [1,1,1,1,1,1,1,0] vX
def MW{z C y B x D}(h:AF tm kb n e t kv i xb rv)(hw:gq w kb c (U (N ⟨ug,hh,X⟩) un hf) vch vwa hl)(g:Qo w xb be bi bt bp (U bta bn btc))(J:Z w ⟨ug,hh+be*4,X⟩=N (ox pg a))(K:Z w ⟨ug,hh+be*4+1,X⟩=N (ox pg b))(L:Z w ⟨ug,hh+be*4+2,X⟩=N (U z y B))(O:Z w ⟨ug,hh+be*4+3,X⟩=N (U C x D))(T:be<un)(W:un<=60)(f:ug<↑w)(hK:∀j k,AF j kb n e t kv i xb rv->j[12]? =N (pm (N ⟨↑w,0,X⟩))->k.1[w.1.size]? =N (pj #[ox pg a,ox pg b,U z y B,U C x D] 42 (0,0))->Below ↑w w k->Q .normal ⟨j,[]⟩ k):OL.wp PQ Q ⟨tm,[]⟩ w:=by
 obtain⟨d,l,m,r,s,u,v,p,q⟩:=h;obtain⟨I,rfl,d⟩:=jg d
 iterate 252 (obtain⟨_,I,rfl,j⟩:=je d;clear d;have d:=j;clear j)
 obtain rfl:=tt.1 d;clear d;simp only[cN,cM,cG,aI]at l m r s u v p q;subst l m r s u v p q
 as_aux_lemma=>
  have P:=(gV g.1).1;have F:Z w ⟨kb,7,X⟩=N (U (N ⟨ug,hh,X⟩) un hf):=im
  have V:(be:Int)<un:=aA
  have H:=(fO g.1)
  have G:=hw.lt;have A:=λ(o:Obj)=>pb (aH ↑w w) fI o;have S:=λo=>oy (qi (A o) (p:=⟨kb,7,X⟩) G) F;have ad:=λo=>oy (qi (A o) (p:=⟨xb,0,X⟩) H) P;have Y:=λo=>oy (qi (A o) (p:=⟨ug,hh+be*4,X⟩) f) J;have aa:=λo=>oy (qi (A o) (p:=⟨ug,hh+be*4+1,X⟩) f) K;have ab:=λo=>oy (qi (A o) (p:=⟨ug,hh+be*4+2,X⟩) f) L;have ac:=λo=>oy (qi (A o) (p:=⟨ug,hh+be*4+3,X⟩) f) O;have E:qu _:=hK;clear hK hw g A;simp only[OL,vX,qo,cq,z8];go_upto_region 18 with fail;go_region
  all_goals
   go_wp2;exact E _ _ ⟨R,R,R,R,R,R,R,R,R⟩ R (sv _ _) (pb (aH _ w) fI _).drew
def NH{f Zs}(h:AF tm kb n e t kv i xb rv)(s:tm[12]? =N (pm (N ⟨f,0,X⟩)))(k:Qo w xb be bi bt bp (U bta bn btc))(C:Z w ⟨f,0,X⟩=N (ox pg a))(D:Z w ⟨f,1,X⟩=N (ox pg b))(d:(decide ((bi:Int)≠a) || decide (t<b))=Zs)(m:Zs=pw->∀g,AF g kb n e t kv i xb rv->Q (.exit 1) ⟨g,[]⟩ w)(l:Zs=pi->∀g,AF g kb n e t kv i xb rv->g[12]? =N (pm (N ⟨f,0,X⟩))->Q .normal ⟨g,[]⟩ w):Px.wp PQ Q ⟨tm,[]⟩ w:=by
 obtain⟨c,o,p,u,v,x,y,q,r⟩:=h;obtain⟨B,rfl,c⟩:=jg c
 iterate 252 (obtain⟨_,B,rfl,g⟩:=je c;clear c;have c:=g;clear g)
 obtain rfl:=tt.1 c;clear c;simp only[cN,cM,cG,aI]at o p u v x y q r s;subst o p u v x y q r s
 as_aux_lemma=>
  let⟨E,F,G,I,J,K⟩:=gV k.1;have H:qu _:=fE d (fE m l);clear d m l k
  have z:(((bi:Int) != a)=pw/\((bi:Int) == a)=pi/\(bi:Int)≠a)\/(((bi:Int) != a)=pi/\((bi:Int) == a)=pw/\(bi:Int)=a):=by
   by_cases h:(bi:Int)=a
   .exact .inr ⟨by simp[h],by simp[h],h⟩
   .exact .inl ⟨by simp[h],by simp[h],h⟩
  simp only[Px,vX,qo,cq,z8];obtain⟨w1,w2,w3⟩|⟨w1,w2,w3⟩:=z
  case' inr=>obtain⟨w4,g⟩|⟨w4,g⟩:=Un t b
  all_goals
   have A:decide ((bi:Int)≠a)=!decide ((bi:Int)=a):=aC
   rw[A]at H;have d:=H.1;have j:qu _:=H.2;go_wp2
   first
    |exact j.1 (by rw[<-d];simp[*]) _ ⟨R,R,R,R,R,R,R,R,R⟩
    |exact j.2 (by rw[<-d];simp[*]) _ ⟨R,R,R,R,R,R,R,R,R⟩ R
def NW{B Zs}(h:AF tm kb n e t kv i xb rv)(v:tm[12]? =N (pm (N ⟨B,0,X⟩)))(hw:gq w kb c (U (N ⟨ug,hh,X⟩) un hf) vch vwa hl)(j:Qo w xb be bi bt bp (U bta bn btc))(m1:Z w ⟨B,1,X⟩=N (ox pg b)){t1}(l:b+c.5<t->bn=0->be=e->e+1<un/\Z w ⟨ug,hh+(e+1)*4+1,X⟩=N (ox pg t1))(g:(decide (b+c.5<t)&&(!decide (bn=0) || (be == e&&decide (t1<=t))))=Zs)(S:e<60)(W:un<=60)(P:0<=c.5/\c.5<=100)(Y:0<=b/\b<=4294967296)(m:Zs=pw->∀d u,AF d kb n e t kv i xb rv->Below ↑w w u->Q (.exit 1) ⟨d,[]⟩ u)(k:Zs=pi->∀d u,AF d kb n e t kv i xb rv->Below ↑w w u->Q .normal ⟨d,[]⟩ u):Qp.wp PQ Q ⟨tm,[]⟩ w:=by
 obtain⟨a,q,t1,x,y,z,A,r,s⟩:=h;obtain⟨I,rfl,a⟩:=jg a
 iterate 252 (obtain⟨_,I,rfl,d⟩:=je a;clear a;have a:=d;clear d)
 obtain rfl:=tt.1 a;clear a;simp only[cN,cM,cG,aI]at q t1 x y z A r s v;subst q t1 x y z A r s v
 as_aux_lemma=>
  let⟨y0,y1,y2,y3,y4,yf⟩:=gV j.1;have K:Z w ⟨kb,4,X⟩=N (ox pg c.5):=im
  have L:Z w ⟨kb,7,X⟩=N (U (N ⟨ug,hh,X⟩) un hf):=im
  have o:((¬(0:Int)<bn/\decide ((0:Int)<bn)=pi/\decide (0<bn)=pi)/\decide (bn=0)=pw/\bn=0)\/(((0:Int)<bn/\decide ((0:Int)<bn)=pw/\decide (0<bn)=pw)/\decide (bn=0)=pi):=by
   by_cases d:bn=0
   .exact .inl ⟨⟨aA,Zd aA,Zd aA⟩,Ze d,d⟩
   .exact .inr ⟨⟨aA,Ze aA,Ze aA⟩,Zd d⟩
  have H:qu _:=fE g (fE m k);have D:qu _:=l;clear g m k hw j l;simp only[Qp,vX,qo,cq,z8];obtain⟨p,E⟩|⟨p,E⟩:=Un (b+c.5) t
  case' inl=>obtain⟨⟨d,F,G⟩,u,C⟩|⟨⟨d,F,G⟩,u⟩:=o
  case' inl.inl=>obtain⟨u,d,f⟩|⟨u,d,f⟩:=Ww be e
  case' inl.inl.inl=>
   let⟨d,O⟩:=D p C f;have T:∀u,(Yc 25 (U (N ⟨ug,hh,X⟩) un hf) (ox pg ((e:Int)+1))).run PQ u=.ok (pm (N ⟨ug,hh+(e+1)*4,X⟩)) u:=λu=>qP u _ _ _ _ (e+1) _ d aA;have V:∀u,(Yc 25 (U (N ⟨ug,hh,X⟩) un hf) (ox pg (IntKind.i64.wrap ((e:Int)+1)))).run PQ u=.ok (pm (N ⟨ug,hh+(e+1)*4,X⟩)) u:=λu=>qP u _ _ _ _ (e+1) _ d gj
   have G:(t1<=t/\decide (t1<=t)=pw)\/(¬t1<=t/\decide (t1<=t)=pi):=by
    by_cases h:t1<=t
    .exact .inl ⟨h,Ze h⟩
    .exact .inr ⟨h,Zd h⟩
   obtain⟨J,F⟩|⟨J,F⟩:=G
  all_goals
   try clear o
   try clear C
   try clear f
   go_upto_region 20 with fail;go_quiet (fail);go_wp2
   first
    |exact H.2.1 nt _ _ ⟨R,R,R,R,R,R,R,R,R⟩ ib
    |exact H.2.2 nt _ _ ⟨R,R,R,R,R,R,R,R,R⟩ ib
end
end
section
section
variable {tm:Array po}{w:pn}{kb n e i xb be bi bt bp bn:Nat}{t:Int}{kv rv vc vch vwa hl:po}{c:Cf}{bta:Option zm}{btc:Nat}{Q:qaC->Act->pn->Prop}{kept:List PW}{ra rx:Option zm}{rc rm rcap:Nat}{news:List po}
noncomputable def O7:vy:=cq [1,1,1,1,0,1,2] vX
def Nu(h:AF tm kb n e t (U ra (M kept) rc) i xb (U rx rm rcap))(hw:gq w kb c vc vch vwa hl)(I:Qo w xb be bi bt bp (U bta bn btc))(D:fM w 127 5 (U ra (M kept) rc) (M kept) (kept.flatMap gG))(P:M news=rm*5)(aa:∀V:pn,(∀k<w.1.size,ov (U ra (M kept) rc)≠N k->V.1[k]? =w.1[k]?)->0<rm->∃A,rx=N A/\∀o u,news[o]? =N u->Z V (A.add o)=N u)(G:∀u∈news,sw u=pw)(ao:M kept+1+rm<=1099511627776)(hK:∀A v x f,qd A=252->A[4]? =N (rh pi)->fM f 127 5 (U v (M kept+1+rm) x) (M kept+1+rm) (kept.flatMap gG++[ox pg be,ox pg bi,ox pg bt,U bta bn btc,ox pg bp]++news)->fT (λk=>ov (U ra (M kept) rc)=N k) w f->(∀g,ov (U v (M kept+1+rm) x)=N g->ov (U ra (M kept) rc)=N g\/w.1.size<=g)->Q .ret ⟨A,[]⟩ (o3 f ⟨kb,9,X⟩ (U v (M kept+1+rm) x))):O7.wp PQ Q ⟨tm,[]⟩ w:=by
 obtain⟨m,t0,t1,t6,t7,t8,t9,ag,ah⟩:=h;obtain⟨aj,rfl,m⟩:=jg m
 iterate 252 (obtain⟨_,aj,rfl,A⟩:=je m;clear m;have m:=A;clear A)
 obtain rfl:=tt.1 m;clear m;simp only[cN,cM,cG,aI]at t0 t1 t6 t7 t8 t9 ag ah;subst t0 t1 t6 t7 t8 t9 ag ah;let⟨y0,y1,y2,y3,y4,yf⟩:=gV I.1;let⟨i0,K,ac,ae,af⟩:=yk sQ;have l:qu _:=fE K (fE ac (fE ae af));obtain⟨O,H⟩:∃O,O=pj #[ox pg be,ox pg bi,ox pg bt,U bta bn btc,ox pg bp] 127:=⟨_,R⟩
 have ai:qu (∀F,fM (o6 w F) 127 5 (U ra (M kept) rc) (M kept) (kept.flatMap gG)):=λF=>D.fF (pb (aH _ w) fI F);have u1:∀u∈[ox pg be,ox pg bi,ox pg bt,U bta bn btc,ox pg bp],sw u=pw:=by intro ak hx;simp at hx;rcases hx with rfl|rfl|rfl|rfl|rfl<;>rfl
 have u2:∀o u,[ox pg be,ox pg bi,ox pg bt,U bta bn btc,ox pg bp][o]? =N u->Z (o6 w (pj #[ox pg be,ox pg bi,ox pg bt,U bta bn btc,ox pg bp] 127)) ((⟨↑w,0,X⟩:zm).add o)=N u:=by intro o ak a;match o,a with|0,a=>(simp at a;subst a;simp[sf])|1,a=>(simp at a;subst a;simp[sf])|2,a=>(simp at a;subst a;simp[sf])|3,a=>(simp at a;subst a;simp[sf])|4,a=>(simp at a;subst a;simp[sf])
 have u3:M kept+1<=maxLen:=aE
 have u4:M kept+1+rm<=maxLen:=aE
 have C:∀b d,jC (U ra (M kept) rc) b (o6 w O) d->fT (λk=>ov (U ra (M kept) rc)=N k) w d:=λb d y=>(fT.alloc _ w O).trans y.gE λ_ _ j=>j
 have p:∀b s r d f,jC (U ra (M kept) rc) b (o6 w O) d->fT (λk=>ov (U (N ⟨b,s,X⟩) (M kept+1) r)=N k) d f->fT (λk=>ov (U ra (M kept) rc)=N k) w f:=λb s r d f y h6=>(C b d y).trans h6 λk L j=>by
  have e2:b=k:=by simpa[ov]using j
  subst e2;obtain A|A:=y.own
  .exact A
  .have:↑w<=b:=aX aC A;omega
 have ab:∀V,fT (λk=>ov (U ra (M kept) rc)=N k) w V->gq V kb c vc vch vwa hl:=λV hV=>oy (hV.5 kb hw.lt (λj=>fK D hw aB j)) hw;have T:qu _:=fE u1 (fE u2 (fE u3 (fE u4 (fE C (fE p (fE ab (fE G (fE P (fE aa (fE hK H))))))))));clear u1 u2 u3 u4 C p ab G P aa hK hw I D K ac ae af H;simp only[O7,vX,qo,cq,z8];go_wp2_with (first|(at_builtin;refine fX _ R (.tmp 143) (.tmp 145) 87 R 127 i0 _ 5 56 (uq qak) l.1 l.2.1 l.2.2.1 l.2.2.2 R aB (U ra (M kept) rc) (M kept) (kept.flatMap gG) R (ai _) _ 1 1 _ R aB R T.2.1 T.1 T.2.2.1 aA ?_;intro b s r d W B;(rw[<-T.out.2.2.2.2.2.2.2.2.2.2.2]at B);have q:qu _:=fE W B;clear W B)|(at_builtin;refine jI _ R (.tmp 147) (.tmp 148) 87 R 127 i0 _ 5 56 (uq qak) l.1 l.2.1 l.2.2.1 l.2.2.2 R aB (U (N ⟨b,s,X⟩) (M kept+1) r) (M kept+1) _ R q.1 rx rm _ news R T.2.2.2.2.2.2.2.2.1 (T.2.2.2.2.2.2.2.2.2.1 d (λk L A=>(T.2.2.2.2.1 _ _ q.2).5 k L A)) T.2.2.2.2.2.2.2.1 T.2.2.2.1 aA ?_;intro v x f Y J S;have p:=T.2.2.2.2.2.1 b s r d f q.2 J;have E:=T.2.2.2.2.2.2.1 f p;have am:Z f ⟨kb,9,X⟩=N vwa:=(E.cell 9);have an:=aM E;have z:qu _:=fE Y (fE S p);clear Y S J E p)|go_in)
 refine T.2.2.2.2.2.2.2.2.2.2.1 _ _ _ _ R R z.1 z.2.2 (λg hg=>?_);obtain j|j:=z.2.1 g hg
 .have e2:b=g:=by simpa[ov]using j
  subst e2;obtain A|A:=q.2.own
  .exact .inl A
  .exact .inr (aX aC A)
 .exact .inr (aX (T.2.2.2.2.1 _ _ q.2).4 j)
end
end
section
section
variable {tm:Array po}{w:pn}{kb n e i xb be bi bt bp bn:Nat}{t:Int}{kv rv vc vch vwa hl:po}{c:Cf}{bta:Option zm}{btc:Nat}{Q:qaC->Act->pn->Prop}{kept:List PW}{ra rx:Option zm}{rc rm rcap:Nat}{news:List po}
noncomputable def OJ:vy:=cq [1,1,1,1,1,1,1,1] vX
def LA(s:po->pn->pn->Prop)(h:AF tm kb n e t (U ra (M kept) rc) i xb (U rx rm rcap))(hw:gq w kb c vc vch vwa hl)(l:Qo w xb be bi bt bp (U bta bn btc))(q:fM w 127 5 (U ra (M kept) rc) (M kept) (kept.flatMap gG))(B:ov (U ra (M kept) rc)≠N xb)(z:M news=rm*5)(E:0<rm->∃g,rx=N g/\∀J aa,news[J]? =N aa->Z w (g.add J)=N aa)(u:∀g∈news,sw g=pw)(ag:M kept+rm<=1099511627776)(A:∀b d a,fM a 127 5 (U b (M kept+rm) d) (M kept+rm) (kept.flatMap gG++news)->fT (λk=>ov (U ra (M kept) rc)=N k) w a->(∀g,ov (U b (M kept+rm) d)=N g->ov (U ra (M kept) rc)=N g\/w.1.size<=g)->tf PQ 65 #[pm (N ⟨kb,0,X⟩),ox pg be,U bta bn btc,ox pg n] (o3 a ⟨kb,9,X⟩ (U b (M kept+rm) d)) λe J=>e=qs (sh #[])/\s (U b (M kept+rm) d) (o3 a ⟨kb,9,X⟩ (U b (M kept+rm) d)) J)(hK:∀g v7 w7 J,qd g=252->g[4]? =N (rh pw)->s v7 w7 J->Q .ret ⟨g,[]⟩ J):OJ.wp PQ Q ⟨tm,[]⟩ w:=by
 obtain⟨f,K,L,S,W,Y,t9,O,P⟩:=h;obtain⟨ac,rfl,f⟩:=jg f
 iterate 252 (obtain⟨_,ac,rfl,g⟩:=je f;clear f;have f:=g;clear g)
 obtain rfl:=tt.1 f;clear f;simp only[cN,cM,cG,aI]at K L S W Y t9 O P;subst K L S W Y t9 O P;have ab:=(fO l.1)
 have ah:xb≠kb:=λo=>by
  have g:=l.1;rw[o,hw]at g;simp at g
 let⟨i0,y,G,H,I⟩:=yk sQ;have j:qu _:=fE y (fE G (fE H I));have u4:M kept+rm<=maxLen:=aE
 have F:∀V,fT (λk=>ov (U ra (M kept) rc)=N k) w V->gq V kb c vc vch vwa hl:=λV p=>oy (p.5 kb hw.lt (λo=>fK q hw aB o)) hw;have x:∀V,fT (λk=>ov (U ra (M kept) rc)=N k) w V->V.1[xb]? =N (pj #[ox pg be,ox pg bi,ox pg bt,U bta bn btc,ox pg bp] 127 (0,0)):=λV p=>oy (p.5 xb ab B) l.1;have T:qu _:=fE u4 (fE F (fE x (fE u (fE z (fE E (fE A (fE hK q)))))));clear u4 F x u z E A hK hw l q y G H I B;simp only[OJ,vX,qo,cq,z8];go_wp2_with (first|(at_builtin;refine jI _ R (.tmp 208) (.tmp 209) 87 R 127 i0 _ 5 56 (uq qak) j.1 j.2.1 j.2.2.1 j.2.2.2 R aB (U ra (M kept) rc) (M kept) _ R T.2.2.2.2.2.2.2.2 rx rm _ news R T.2.2.2.2.1 T.2.2.2.2.2.1 T.2.2.2.1 T.1 aA ?_;intro b d a D m C;have r:=T.2.1 a m;have ae:Z a ⟨kb,9,X⟩=N vwa:=(r.cell 9);have af:=aM r;let⟨y0,y1,y2,y3,y4,yf⟩:=gV (T.2.2.1 a m);have HL:qu _:=λ(_:Unit)=>T.2.2.2.2.2.2.1 b d a D m C;clear D C m r)|(go_at_call 65;refine aO (HL ()) ?_;rintro e8 w8 ⟨rfl,v⟩;have H8:qu _:=v;clear v)|go_in)
 exact T.2.2.2.2.2.2.2.1 _ _ _ _ R R H8.out
end
end
section
variable {a:Array po}{w:pn}{d n e:Nat}{vch vwa:po}{Q:qaC->Act->pn->Prop}
noncomputable def Ua:vy:=cq [1,1,1,1,1,1] qo
def OW{g i h p l o t t1 m K c}(s:pn->Prop)(b:qd a=252)(A:a[0]? =N (pm (N ⟨d,0,X⟩)))(B:a[1]? =N (ox pg n))(C:a[6]? =N (ox pg e))(D:a[7]? =N (ox pg t))(F:a[8]? =N (U m l o))(hw:gq w d c (U (N ⟨g,i,X⟩) h p) vch vwa K)(ab:g≠d)(W:e<60)(ac:h<=60)(ad:1<=c.4/\c.4<=8)
  (j:¬(n:Int)<=e+c.4->e+1<h/\Z w ⟨g,i+(e+1)*4+1,X⟩=N (ox pg t1))
  (z:(n:Int)<=e+c.4->∀f:Array po,qd f=252->f[4]? =N (rh pi)->Q .ret ⟨f,[]⟩ (o3 w ⟨d,9,X⟩ (U m l o)))
  (x:¬(n:Int)<=e+c.4->∀E:Nat,E=(if t1<=t then e+1 else e)->tf PQ 65 #[pm (N ⟨d,0,X⟩),ox pg E,U X 0 0,ox pg n] (o3 w ⟨d,9,X⟩ (U m l o)) λe k=>e=qs (sh #[])/\s k)
  (hK:¬(n:Int)<=e+c.4->∀(f:Array po) k,qd f=252->f[4]? =N (rh pw)->s k->Q .ret ⟨f,[]⟩ k):Ua.wp PQ Q ⟨a,[]⟩ w:=by
 obtain⟨J,rfl,b⟩:=jg b
 iterate 252 (obtain⟨_,J,rfl,f⟩:=je b;clear b;have b:=f;clear f)
 obtain rfl:=tt.1 b;clear b;simp only[cN,cM,cG,aI]at A B C D F;subst A B C D F;have O:Z w ⟨d,3,X⟩=N (ox pg c.4):=im
 have P:Z w ⟨d,7,X⟩=N (U (N ⟨g,i,X⟩) h p):=im
 have S:Z w ⟨d,9,X⟩=N vwa:=im
 have T:=aM hw;have H:qu _:=fE z (fE x hK);clear z x hK hw;by_cases hc:(n:Int)<=e+c.4
 .have f:qu _:=hc;have q:qu _:=H.1;clear H j;simp only[Ua,qo,cq,z8];go_wp2;exact q f _ R R
 .let⟨I,V⟩:=j hc;have q:qu (¬(n:Int)<=e+c.4):=hc;have Y:(e:Int)+1<h:=by omega
  have aa:∀u,(Yc 25 (U (N ⟨g,i,X⟩) h p) (ox pg ((e:Int)+1))).run PQ u=.ok (pm (N ⟨g,i+(e+1)*4,X⟩)) u:=λu=>qP u _ _ _ _ (e+1) _ I aA;have f:=H.2.1 hc _ R;have r:qu _:=H.2.2;by_cases y:t1<=t
  .rw[Zb y,show((e+1:Nat):Int)=(e:Int)+1 from by omega]at f;have G:qu _:=λ(_:Unit)=>f;clear f H j;simp only[Ua,qo,cq,z8];go_wp2_with (first|(go_at_call 65;refine aO (G ()) ?_;rintro L w8 ⟨rfl,v⟩;have E:qu _:=v;clear v)|go_in)
   exact r (by have:=q.out;omega) _ _ R R E.out
  .rw[Za y]at f;have G:qu _:=λ(_:Unit)=>f;clear f H j;simp only[Ua,qo,cq,z8];go_wp2_with (first|(go_at_call 65;refine aO (G ()) ?_;rintro L w8 ⟨rfl,v⟩;have E:qu _:=v;clear v)|go_in)
   exact r (by have:=q.out;omega) _ _ R R E.out
end
end Hm
namespace Hm
open Go.RowKit Go.Joins Go.Shelf
open Dv (Ba Lo Cf Zq fN)
open Fr (fG)
noncomputable def Wz:vy:=cq [0] vX
noncomputable def VD:vy:=cq [1,0] vX
noncomputable def Pj:vy:=cq [1,1,0] vX
structure Jb(tm:Array po)(kb n e:Nat)(t:Int)(kv:po)(i:Nat):Prop where
 size:qd tm=252
 s0:tm[0]? =N (pm (N ⟨kb,0,X⟩))
 s1:tm[1]? =N (ox pg n)
 s6:tm[6]? =N (ox pg e)
 s7:tm[7]? =N (ox pg t)
 s8:tm[8]? =N kv
 s9:tm[9]? =N (ox pg i)
attribute [local go_sem] vk vD uF uZ Array.size_setIfInBounds Array.getElem_setIfInBounds_ne Array.getElem_setIfInBounds_self
section
variable {tm:Array po}{w:pn}{kb n e i xb be bi bt bp bn wg woff wn wcap:Nat}{t:Int}{kv rv vc vch vwa hl:po}{c:Cf}{bta:Option zm}{btc:Nat}{Q:qaC->Act->pn->Prop}{kept:List PW}{ra:Option zm}{rc:Nat}
def OM(h:Jb tm kb n e t kv i)(k:Z w ⟨kb,9,X⟩=N (U (N ⟨wg,woff,X⟩) wn wcap))(l:i<wn)(c:Z w ⟨wg,woff+i*5,X⟩=N (ox pg be))(d:Z w ⟨wg,woff+i*5+1,X⟩=N (ox pg bi))(f:Z w ⟨wg,woff+i*5+2,X⟩=N (ox pg bt))(g:Z w ⟨wg,woff+i*5+3,X⟩=N (U bta bn btc))(j:Z w ⟨wg,woff+i*5+4,X⟩=N (ox pg bp))(hK:∀a,Jb a kb n e t kv i->a[10]? =N (pm (N ⟨↑w,0,X⟩))->Q .normal ⟨a,[]⟩ (o6 w (pj #[ox pg be,ox pg bi,ox pg bt,U bta bn btc,ox pg bp] 127))):Wz.wp PQ Q ⟨tm,[]⟩ w:=by
 obtain⟨o,p,q,r,s,u,v⟩:=h;have m:(i:Int)<wn:=aA
 have b:qu _:=hK;clear hK;simp only[Wz,vX,qo,cq,z8];go_wp2;exact b _ hc hw
def Qq(h:Jb tm kb n e t kv i)(f:tm[10]? =N (pm (N ⟨xb,0,X⟩)))(r:Z w ⟨kb,9,X⟩=N (U (N ⟨wg,woff,X⟩) wn wcap))(u:i<wn)(x:wn<=wcap)(y:wn<=1099511627776)(hK:∀m b q,AF m kb n e t kv i xb (U b (wn-(i+1)) q)->(0<wn-(i+1)->b=N ⟨wg,woff+(i+1)*5,X⟩)->Q .normal ⟨m,[]⟩ w):VD.wp PQ Q ⟨tm,[]⟩ w:=by
 obtain⟨a,c,d,g,j,k,l⟩:=h;obtain⟨p,rfl,a⟩:=jg a
 iterate 252 (obtain⟨_,p,rfl,b⟩:=je a;clear a;have a:=b;clear b)
 obtain rfl:=tt.1 a;clear a;simp only[cN,cM,cG,aI]at c d g j k l f;subst c d g j k l f;have v:(i:Int)<wn:=aA
 have o:qu _:=hK;clear hK;simp only[VD,vX,qo,cq,z8];go_wp2
 all_goals
  refine o _ _ _ ⟨R,R,R,R,R,R,R,R,R⟩ (λs=>?_)
  first|rfl|(exfalso;omega)|rw[Za aA]
def Kr(h:AF tm kb n e t (U ra (M kept) rc) i xb rv)(m:Qo w xb be bi bt bp (U bta bn btc))(r:fM w 127 5 (U ra (M kept) rc) (M kept) (kept.flatMap gG))(Y:M kept<=1099511627776)(c:t<(bt:Int)->∀H f y l k,AF H kb n e t (U (N ⟨f,y,X⟩) (M kept+1) l) i xb rv->fM k 127 5 (U (N ⟨f,y,X⟩) (M kept+1) l) (M kept+1) (kept.flatMap gG++[ox pg be,ox pg bi,ox pg bt,U bta bn btc,ox pg bp])->jC (U ra (M kept) rc) f (o6 w (pj #[ox pg be,ox pg bi,ox pg bt,U bta bn btc,ox pg bp] 127)) k->Q (.exit 1) ⟨H,[]⟩ k)(q:¬t<(bt:Int)->∀f,AF f kb n e t (U ra (M kept) rc) i xb rv->Q .normal ⟨f,[]⟩ w):Pj.wp PQ Q ⟨tm,[]⟩ w:=by
 obtain⟨b,z,A,D,E,F,G,B,C⟩:=h;obtain⟨S,rfl,b⟩:=jg b
 iterate 252 (obtain⟨_,S,rfl,f⟩:=je b;clear b;have b:=f;clear f)
 obtain rfl:=tt.1 b;clear b;simp only[cN,cM,cG,aI]at z A D E F G B C;subst z A D E F G B C;let⟨y0,y1,y2,y3,y4,yf⟩:=gV m.1;let⟨P,p,s,v,x⟩:=yk sQ;have d:qu _:=fE p (fE s (fE v x));have L:qu (∀o,fM (o6 w o) 127 5 (U ra (M kept) rc) (M kept) (kept.flatMap gG)):=λo=>r.fF (pb (aH _ w) fI o);have I:∀u∈[ox pg be,ox pg bi,ox pg bt,U bta bn btc,ox pg bp],sw u=pw:=by intro V c;simp at c;rcases c with rfl|rfl|rfl|rfl|rfl<;>rfl
 have J:∀j u,[ox pg be,ox pg bi,ox pg bt,U bta bn btc,ox pg bp][j]? =N u->Z (o6 w (pj #[ox pg be,ox pg bi,ox pg bt,U bta bn btc,ox pg bp] 127)) ((⟨↑w,0,X⟩:zm).add j)=N u:=by intro j V a;match j,a with|0,a=>(simp at a;subst a;simp[sf])|1,a=>(simp at a;subst a;simp[sf])|2,a=>(simp at a;subst a;simp[sf])|3,a=>(simp at a;subst a;simp[sf])|4,a=>(simp at a;subst a;simp[sf])
 have K:M kept+1<=maxLen:=aE
 have T:qu _:=fE I (fE J (fE K (fE c q)));clear I J K c q m r p s v x;simp only[Pj,vX,qo,cq,z8];obtain⟨g,O⟩|⟨g,O⟩:=Un t bt
 .have y:qu _:=g;go_wp2_with (first|(at_builtin;refine fX _ R (.tmp 62) (.tmp 64) 87 R 127 P _ 5 56 (uq qak) d.1 d.2.1 d.2.2.1 d.2.2.2 R aB (U ra (M kept) rc) (M kept) (kept.flatMap gG) R (L _) _ 1 1 _ R aB R T.2.1 T.1 T.2.2.1 aA ?_;intro W aa H w5 l k;have f:qu _:=fE l k;clear l k)|go_in)
  exact T.2.2.2.1 (by have:=y.out;omega) _ _ _ _ _ ⟨R,R,R,R,R,R,R,R,R⟩ f.1 f.2
 .have f:qu (¬t<(bt:Int)):=g;go_wp2;exact T.2.2.2.2 (by have:=f.out;omega) _ ⟨R,R,R,R,R,R,R,R,R⟩
end
end Hm
namespace Hm
open Go.RowKit Go.Joins Go.Shelf
open Dv (Ba Lo Cf Zq fN)
section
variable {W:pn}{v:po}{tm:Array po}{e i:Nat}{Q:qaC->Act->pn->Prop}
def Tb:vX=qv Wz (qv VD (qv Pj (qv QI (qv (qv PZ (.cond (.tmp 142) O7 .skip)) (qv OL (qv Px (qv Qp OJ))))))):=rfl
structure UZ(c:Cf)(vch:po)(ug uoff ucap:Nat)(ps:List PU)(bs:List PW)(ls:List PL)(p:PL)(kb lo n:Nat)(vwa vlog:po)(w:pn):Prop where
 work:gq w kb c (U (N ⟨ug,uoff,X⟩) (M ps) ucap) vch vwa vlog
 low:lo<=kb
 wa:CX w lo vwa bs
 lg:B6 w lo vlog ls
 last:ls[M ls-1]? =N p
 L6:wR p.1
 few:M ls<=4294967296
 fewb:M bs<=1099511627776
 bt:∀q∈bs,q.1.1<4611686018427387904
 cf:Dv.fR c=pw
 ups:∀W,Below lo w W->iy W (U (N ⟨ug,uoff,X⟩) (M ps) ucap) ps
 hn:n<M ps
 pl:M ps<=60
 ep:p.1.3<=n
 ut:∀u∈ps,0<=u.1.2/\u.1.2<=4294967296/\M u.1.4<=4294967296/\∀x∈u.1.4,M x<=65536
structure WJ(c:Cf)(ch:List Zq)(bs:List PW)(n e:Nat)(t:Int)(w:pn)(i:Nat)(kept:List PW)(v:po)(wx:pn):Prop where
 le:M kept<=i
 sift:Dv.sift c ch n e t (bs.map p9)=((Dv.sift c ch n e t ((bs.drop i).map p9)).1,kept.map p9++(Dv.sift c ch n e t ((bs.drop i).map p9)).2)
 mem:∀q∈kept,q∈bs
 row:fM wx 127 5 v (M kept) (kept.flatMap gG)
 own:∀g,ov v=N g->w.1.size<=g
 fF:Below ↑w w wx
section
variable {c:Cf}{vch:po}{ug hh hf:Nat}{ps:List PU}{bs:List PW}{ls:List PL}{p:PL}{kb lo n:Nat}{vwa hl:po}{w:pn}
def UZ.lk(D:UZ c vch ug hh hf ps bs ls p kb lo n vwa hl w):lo<=↑w:=aX D.2 (eZ D.1.lt)
def AA(D:UZ c vch ug hh hf ps bs ls p kb lo n vwa hl w){a k E u b}(r:gq W kb c (U (N ⟨ug,hh,X⟩) (M ps) hf) vch v hl)(z:CX W lo v k)(x:B6 W lo hl ls)(f:Below lo w W)(t:fN [89,127,62] w W)(h:ps[E]? =N u)(y:jk W lo a b)(s:Dv.draw c (ps.map p9) n p.1 (bs.map p9)=(N (Dv.lay c (ps.map p9) n p.1 E b),k.map p9)):tf PQ 65 #[pm (N ⟨kb,0,X⟩),ox pg E,a,ox pg n] W λe i=>e=qs (sh #[])/\sJ c (U (N ⟨ug,hh,X⟩) (M ps) hf) vch (ps.map p9) bs ls p.1 kb lo n w (qs (rh pw)) i:=by
 have g:=D.10;unfold Dv.fR at g;simp only[Zh]at g;refine aO (Oi c _ vch v hl ps ls p kb lo n E a b W r D.2 x D.5 D.6 D.7 ⟨aA,aA⟩ (D.11 W f) u h (by have:=D.13;omega) (D.15 u (aS h)).2.2 y) ?_;rintro e i ⟨rfl,A,q,j,l,m,o,d⟩;exact⟨R,pw,v,A,k,ls++[q],R,j,z.keeps d aB aB,l,by unfold yK;rw[s];exact⟨R,⟨q,m,R⟩,R⟩,ow f o,t.trans (d.mono aC)⟩
def N9(D:UZ c vch ug hh hf ps bs ls p kb lo n vwa hl w){r t kept P S}(he:p.1.3=e)(ht:p.1.2+c.6=t)(b:WJ c (ps.map p9) bs n e t w i kept (U P (M kept) S) r)(h:Jb tm kb n e t (U P (M kept) S) i)(hi:i<M bs)(ax:∀(m:Array po)(g:List PW)(y:Option zm)(C:Nat)(H:pn),Jb m kb n e t (U y (M g) C) i->WJ c (ps.map p9) bs n e t w (i+1) g (U y (M g) C) H->Q (.exit 1) ⟨m,[]⟩ H)(a4:∀(m:Array po)(g:Bool)(y:pn),qd m=252->m[4]? =N (.bool g)->sJ c (U (N ⟨ug,hh,X⟩) (M ps) hf) vch (ps.map p9) bs ls p.1 kb lo n w (qs (.bool g)) y->Q .ret ⟨m,[]⟩ y):vX.wp PQ Q ⟨tm,[]⟩ r:=by
 have av:=D.10;unfold Dv.fR at av;simp only[Zh]at av;have am:=D.13;have hn:=D.12;have bk:=D.14;rw[he]at bk;have cj:=D.8;have bl:=b.1;have bb:=D.1.fF b.6;have a5:=D.3.1.fF b.6;obtain⟨wg,I,ci,rfl,b6⟩:=a5.pos aA;have c9:Z r ⟨kb,9,X⟩=N (U (N ⟨wg,I,X⟩) (M bs) ci):=by rw[bb.cell];rfl
 obtain⟨q,a⟩:∃q,bs[i]? =N q:=⟨_,aK hi⟩
 have kk:=λB u hj (Y:(gG q)[B]? =N u)=>Rd.rec gG 5 (λ_=>R) a5.rd a (i:=B) (u:=u) hj Y;have b0:Z r ⟨wg,I+i*5,X⟩=_:=kk 0 _ aA R;have b1:Z r ⟨wg,I+i*5+1,X⟩=_:=kk 1 _ aA R;have b2:Z r ⟨wg,I+i*5+2,X⟩=_:=kk 2 _ aA R;have b3:Z r ⟨wg,I+i*5+3,X⟩=_:=kk 3 _ aA R;have b4:Z r ⟨wg,I+i*5+4,X⟩=_:=kk 4 _ aA R;have ae:=aS a;have a0:=D.3.3 q ae;have an:=D.9 q ae
 have bj:bs.drop i=q::bs.drop (i+1):=by
  let⟨h1,h2⟩:=aJ.1 a;rw[List.drop_eq_getElem_cons h1,h2]
 have z:=b.2;rw[bj,cL]at z;obtain⟨⟨be,bi,bt,d,l⟩,bv⟩:=q;let⟨s,v,au⟩:=a0.1.slice;dsimp only at au b0 b1 b2 b3 b4 an;subst au;let⟨Zr,hX,A,zX⟩:=fL r #[ox pg be,ox pg bi,ox pg bt,U s (M d) v,ox pg l] 127;have ak:=b.6.4;have hF:∀V,Below ↑Zr Zr V->Qo V ↑r be bi bt l (U s (M d) v)/\Below ↑r r V/\Below ↑w w V:=λV o=>⟨⟨oy (o.5 _ (fO zX)) zX⟩,ow A (o5 o A.4),ow b.6 (o5 (ow A (o5 o A.4)) ak)⟩
 have ao:∀V m,Below ↑Zr Zr V->Dv.sift c (ps.map p9) n e t ((⟨be,bi,bt,d,l⟩:Ba)::(bs.drop (i+1)).map p9)=Dv.sift c (ps.map p9) n e t ((bs.drop (i+1)).map p9)->Jb m kb n e t (U P (M kept) S) i->Q (.exit 1) ⟨m,[]⟩ V:=λV m o hs Y=>ax _ kept P S V Y ⟨Nat.le_succ_of_le bl,by rw[z,hs],b.3,b.4.fF (hF V o).2.1,b.5,(hF V o).2.2⟩;have ah:∀{m xb rv},AF m kb n e t (U P (M kept) S) i xb rv->Jb m kb n e t (U P (M kept) S) i:=λh=>⟨h.1,h.2,h.3,h.4,h.5,h.6,h.7⟩
 have az:∀u∈(bs.drop (i+1)).flatMap gG,sw u=pw:=Oc (λq a=>by
  let⟨y,C,g⟩:=(D.3.3 q (eS a)).1.slice;rw[g];rfl)
 have ay:M ((bs.drop (i+1)).flatMap gG)=(M bs-(i+1))*5:=by rw[jm gG 5 jw,cF]
 have ck:=D.3.1.lt (g:=wg) R;rw[Tb];refine ud (OM h c9 hi b0 b1 b2 b3 b4 λcm h1 ca=>?_);rw[<-hX]
 show(qv VD _).wp _ _ _ _
 refine ud (Qq h1 ca (oy ((qi A (p:=⟨kb,9,X⟩) bb.lt)) c9) hi b6 aA λcn rx cl h2 bx=>?_)
 show(qv Pj _).wp _ _ _ _
 obtain⟨hB,-,-⟩:=hF Zr (aH _ _);refine ud (Kr h2 hB (b.4.fF A) aA (λbm ce g5 b9 bc f x bq aw=>?_) λac ce x=>?_)
 .show Q (.exit 1) _ _
  have y:=pb (ow b.6 (o5 A ak)) (aX ak A.4) (pj #[ox pg be,ox pg bi,ox pg bt,U s (M d) v,ox pg l] 127);have C:M (kept++[((⟨be,bi,bt,d,l⟩,U s (M d) v):PW)])=M kept+1:=aC
  rw[<-C]at x;refine ax _ (kept++[((⟨be,bi,bt,d,l⟩,U s (M d) v):PW)]) (N ⟨g5,b9,X⟩) bc f ⟨x.1,x.2,x.3,x.4,x.5,x.6,x.7⟩ ⟨aA,?_,?_,?_,?_,?_⟩
  .rw[z,Dv.sift,Zb bm];simp
  .intro H g;obtain g|g:=bV.1 g
   .exact b.3 H g
   .rw[bT.1 g];exact ae
  .rw[C,dU];exact bq
  .intro J H;have:N g5=N J:=by simpa[ov]using H
   cases this;obtain g|g:=aw.own
   .exact b.5 g5 g
   .exact aX y.4 g
  .exact ow y (iD aw b.5 y.4)
 show(qv QI _).wp _ _ _ _
 obtain⟨L,F⟩:∃L,Dv.late c e t ⟨be,bi,bt,d,l⟩=L:=⟨_,R⟩
 refine ud (Mk x (D.1.fF (hF Zr (aH _ _)).2.2) hB (L:=L) (by rw[<-F];rfl) aA an ⟨aA,aA⟩ (λbg cf w4 h4 G=>?_) λbf cf w4 h4 G=>?_)
 .show Q (.exit 1) _ _
  refine ao w4 _ G ?_ (ah h4);rw[Dv.sift,Za ac,Zb (oy F bg)]
 rw[bf]at F
 show(qv (qv PZ _) _).wp _ _ _ _
 obtain⟨ue,af⟩:∃u,ps[e]? =N u:=⟨_,aK aA⟩
 have iO:∀{B:Nat}{u:PU},ps[B]? =N u->(ps.map p9)[B]! =u.1:=λY=>by rw[getElem!_def,cT,Y];rfl
 obtain⟨aa,hG⟩:∃aa,Dv.holds c (ps.map p9) n e t ⟨be,bi,bt,d,l⟩=aa:=⟨_,R⟩
 have E:=hG;unfold Dv.holds at E;rw[iO af]at E;have ar:d.isEmpty=decide (M d=0):=by cases d<;>simp
 dsimp only at E;rw[ar]at E;have O:∀V,Below ↑Zr Zr V->iy V (U (N ⟨ug,hh,X⟩) (M ps) hf) ps:=λV o=>D.11 V (o5 (hF V o).2.2 D.lk);have a9:=D.15 ue (aS af);refine ud (ud (L8 h4 (D.1.fF (hF w4 G).2.2) (hF w4 G).1 ((O w4 G).get af).2.1 E aA am an ⟨aA,aA⟩ ⟨a9.1,a9.2.1⟩ λco f h5 cd bh=>?_))
 show(Yh (.tmp 142) O7 .skip).wp _ _ _ _
 have j:=ow G (o5 bh G.4);refine wp_cond (t:=aa) (by simp[Act.eval,cS,cd]) ?_;have a7:∀V:pn,(∀k<w.1.size,V.1[k]? =w.1[k]?)->0<M bs-(i+1)->∃ad,rx=N ad/\∀B u,((bs.drop (i+1)).flatMap gG)[B]? =N u->Z V (ad.add B)=N u:=λV o hm=>⟨⟨wg,I+(i+1)*5,X⟩,bx hm,F1 (D.3.1.kept λg y=>o g (D.3.1.lt y)) aA⟩
 cases aa with
 |true=>
  have ai:=b.4.fF (hF f j).2.1;refine Nu h5 (D.1.fF (hF f j).2.2) (hF f j).1 ai ay (λV o=>a7 V λk C=>?_) az aA λaq J K H ap t4 ag g ab=>?_
  .rw[o k (aL C (hF f j).2.2.4) (λy=>by have:=b.5 k y;omega)];exact(hF f j).2.2.5 k C
  .show Q .ret _ _
   have T:Below ↑w w H:=ow (hF f j).2.2 ⟨g.1,g.2,g.3,g.4,λq a=>g.5 q (aL a (hF f j).2.2.4) (λy=>by have:=b.5 q y;omega)⟩;have W:kept++((⟨be,bi,bt,d,l⟩,U s (M d) v):PW)::bs.drop (i+1)=(kept++[((⟨be,bi,bt,d,l⟩,U s (M d) v):PW)])++bs.drop (i+1):=aC
   have aj:fM H 127 5 (U J (M kept+1+(M bs-(i+1))) K) (M (kept++((⟨be,bi,bt,d,l⟩,U s (M d) v):PW)::bs.drop (i+1))) ((kept++((⟨be,bi,bt,d,l⟩,U s (M d) v):PW)::bs.drop (i+1)).flatMap gG):=by
    rw[W,dU,dU,show M ((kept++[((⟨be,bi,bt,d,l⟩,U s (M d) v):PW)])++bs.drop (i+1))=M kept+1+(M bs-(i+1)) from by simp;omega];exact ag
   let⟨r1,r2,r3,r4,r5⟩:=tA D.1 D.2 D.3 D.4 T aj (λq a=>by
    obtain y|y:=ab q a
    .exact b.5 q y
    .exact aX (hF f j).2.2.4 y) (λq a=>by
    obtain a|a:=bV.1 a
    .exact b.3 q a
    .obtain rfl|a:=bM.1 a
     .exact ae
     .exact eS a)
   refine a4 _ pi _ ap t4 ⟨pi,_,_,_,ls,R,r1,r2,r3,?_,r4,r5⟩;rw[Dv.sift,Za ac,Za (by rw[F];simp),Zb hG]at z;rw[<-he,<-ht]at z;unfold yK;rw[CN z];exact⟨R,R,aC⟩
 |false=>
  refine wp_skip ?_
  show(qv OL _).wp _ _ _ _
  have aq:be<M ps:=by
   have C:=F;unfold Dv.late at C;simp only[dS,eP,Zi,beq_eq_false_iff_ne]at E C;omega
  obtain⟨ub,K⟩:∃u,ps[be]? =N u:=⟨_,aK aq⟩
  let⟨m0,m1,m2,m3⟩:=(O f j).get K;have ap:=aS K;have ba:=D.15 ub ap;let⟨xa,xc,b7⟩:=((O f j).2 ub ap).1.slice;let⟨xl,cs,b8⟩:=Rd.slice ((O f j).2 ub ap).2.1;rw[b7]at m2;rw[b8]at m3
  have b5:ug<↑f:=by
   obtain⟨W,o',H,b,_,C,_⟩:=(O f j).1.pos aA;simp only[Value.slice.injEq,aI,Addr.mk.injEq,and_true,true_and]at b;rw[b.1.1];exact C
  refine ud (MW h5 (D.1.fF (hF f j).2.2) (hF f j).1 m0 m1 m2 m3 aq am b5 λcp w6 h6 cb z6 ai=>?_)
  show(qv Px _).wp _ _ _ _
  have y:=ow j (o5 ai j.4);obtain⟨n0,n1,-,-⟩:=iP z6;obtain⟨ab,hR⟩:∃ab,Dv.wrong c (ps.map p9) e t ⟨be,bi,bt,d,l⟩=ab:=⟨_,R⟩
  have J:=hR;unfold Dv.wrong at J;dsimp only at J;rw[iO K,ar]at J
  have a8:ab=pw->Dv.sift c (ps.map p9) n e t ((⟨be,bi,bt,d,l⟩:Ba)::(bs.drop (i+1)).map p9)=Dv.sift c (ps.map p9) n e t ((bs.drop (i+1)).map p9):=λT=>by
   rw[Dv.sift,Za ac,Za (by rw[F];simp),Za (by rw[hG];simp),Zb (oy hR T)]
  refine ud (NH (Zs:=decide ((bi:Int)≠ub.1.1) || decide (t<ub.1.2)) h6 cb (hF w6 y).1 n0 n1 R (λT cg h7=>?_) λag cg h7 cc=>?_)
  .show Q (.exit 1) _ _
   exact ao w6 _ y (a8 (by rw[<-J,T];rfl)) (ah h7)
  show(qv Qp _).wp _ _ _ _
  rw[ag,Bool.false_or]at J;refine ud (NW (Zs:=ab) (t1:=((ps.map p9)[e+1]!).2) h7 cc (D.1.fF (hF w6 y).2.2) (hF w6 y).1 n1 (λha hb hc=>?_) J aA am ⟨aA,aA⟩ ⟨ba.1,ba.2.1⟩ (λT ch g h8 aj=>?_) λag ch g h8 aj=>?_)
  .have C:e+1<M ps:=by
    subst hc;rw[af]at K;cases K;simp[hb,ha]at E;omega
   obtain⟨W,H⟩:∃u,ps[e+1]? =N u:=⟨_,aK C⟩
   rw[iO H];exact⟨C,((O w6 y).get H).2.1⟩
  .show Q (.exit 1) _ _
   exact ao g _ (ow y (o5 aj y.4)) (a8 T) (ah h8)
  .show OJ.wp _ _ _ _
   have H:=ow y (o5 aj y.4);have bw:=b.4.fF (hF g H).2.1;rw[ag]at hR;rw[Dv.sift,Za ac,Za (by rw[F];simp),Za (by rw[hG];simp),Za (by rw[hR];simp)]at z;rw[<-he,<-ht]at z
   have hd:Dv.draw c (ps.map p9) n p.1 (bs.map p9)=(N (Dv.lay c (ps.map p9) n p.1 be d),(kept++bs.drop (i+1)).map p9):=by
    rw[CN z,aZ];rfl
   refine LA (λ_ _ w'=>sJ c (U (N ⟨ug,hh,X⟩) (M ps) hf) vch (ps.map p9) bs ls p.1 kb lo n w (qs (rh pw)) w') h8 (D.1.fF (hF g H).2.2) (hF g H).1 bw (λC=>?_) ay (a7 g λk hk=>(hF g H).2.2.5 k hk) az aA (λa6 bd w9 br W bo=>?_) λcr _ _ w9 bz t4 hQ=>a4 _ pw _ bz t4 hQ
   .have:=b.4.lt C;omega
   .have ai:Below ↑w w w9:=ow (hF g H).2.2 ⟨W.1,W.2,W.3,W.4,λq a=>W.5 q (aL a (hF g H).2.2.4) (λC=>by have:=b.5 q C;omega)⟩
    have bu:fM w9 127 5 (U a6 (M kept+(M bs-(i+1))) bd) (M (kept++bs.drop (i+1))) ((kept++bs.drop (i+1)).flatMap gG):=by
     rw[dU,aN,cF];exact br
    let⟨r1,r2,r3,r4,r5⟩:=tA D.1 D.2 D.3 D.4 ai bu (λq a=>by
     obtain C|C:=bo q a
     .exact b.5 q C
     .exact aX (hF g H).2.2.4 C) (λq a=>by
     obtain a|a:=bV.1 a
     .exact b.3 q a
     .exact eS a)
    exact AA D r1 r2 r3 r4 r5 K (a0.keeps r5 aB) hd
end
end
end Hm
namespace Hm
open Go.RowKit Go.Joins Go.Shelf
open Dv (Ba Lo Cf Zq fN)
open Fr (fG)
variable {g b cap m a sq c:Nat}{d id:Int}
noncomputable def WZ:vy:=cq [0] qo
noncomputable def VR:vy:=cq [1,0] qo
noncomputable def Wr:vy:=cq [1,1,0] qo
noncomputable def VP:vy:=cq [1,1,1,0] qo
noncomputable def VI:vy:=cq [1,1,1,1,0] qo
noncomputable def Wf:vy:=cq [1,1,1,1,1,0,0] qo
noncomputable def WU:vy:=cq [1,1,1,1,1,0,1,4,5,0,0] qo
noncomputable def Vz:vy:=cq [1,1,1,1,1,0,1,4,5,1,1] qo
def TR:qo=qv WZ (qv VR (qv Wr (qv VP (qv VI (qv (qv Wf (.block 0 (.loop (qv (qv WU (.cond (.tmp 41) .skip (.exit 0))) (qv (.block 1 vX) Vz))))) Ua))))):=rfl
structure LG(tm:Array po)(kb n:Nat):Prop where
 size:qd tm=252
 s0:tm[0]? =N (pm (N ⟨kb,0,X⟩))
 s1:tm[1]? =N (ox pg n)
attribute [local go_sem] vk vD uF uZ Array.size_setIfInBounds Array.getElem_setIfInBounds_ne Array.getElem_setIfInBounds_self
section
variable {tm:Array po}{w:pn}{kb n e i wn:Nat}{t:Int}{kv vwa:po}{Q:qaC->Act->pn->Prop}
def OK(h:LG tm kb n)(hK:∀a,LG a kb n->Q .normal ⟨a,[]⟩ w):WZ.wp PQ Q ⟨tm,[]⟩ w:=by obtain⟨b,c,d⟩:=h;have a:qu _:=hK;clear hK;simp only[WZ,qo,cq,z8];go_wp2;exact a _ hc
def Ra{q at_ e:Nat}{v r y x t s}(h:LG tm kb n)(D:Z w ⟨kb,10,X⟩=N (U (N ⟨g,b,X⟩) a cap))(E:kb<↑w)(c:g<↑w)(F:a=m+1)(V:a<=4294967296)(G:Z w ⟨g,b+m*8,X⟩=N (ox pg q))(H:Z w ⟨g,b+m*8+1,X⟩=N (ox pg d))(I:Z w ⟨g,b+m*8+2,X⟩=N (ox pg e))(J:Z w ⟨g,b+m*8+3,X⟩=N (ox pg id))(K:Z w ⟨g,b+m*8+4,X⟩=N (ox pg sq))(L:Z w ⟨g,b+m*8+5,X⟩=N (U v y x))(O:Z w ⟨g,b+m*8+6,X⟩=N (U r t s))(P:Z w ⟨g,b+m*8+7,X⟩=N (ox pg at_))(hK:∀j k,LG j kb n->j[5]? =N (pm (N ⟨↑w,0,X⟩))->k.1[w.1.size]? =N (pj #[ox pg q,ox pg d,ox pg e,ox pg id,ox pg sq,U v y x,U r t s,ox pg at_] 62 (0,0))->Below ↑w w k->Q .normal ⟨j,[]⟩ k):VR.wp PQ Q ⟨tm,[]⟩ w:=by
 obtain⟨f,z,B⟩:=h;obtain⟨S,rfl,f⟩:=jg f
 iterate 252 (obtain⟨_,S,rfl,j⟩:=je f;clear f;have f:=j;clear j)
 obtain rfl:=tt.1 f;clear f;simp only[cN,cM,cG,aI]at z B;subst z B
 as_aux_lemma=>
  have l:m<a:=aA
  have i:(a:Int)-1=m:=aA
  have p:IntKind.i64.wrap ((a:Int)-1)=m:=by rw[i,IntKind.wrap_i64];omega
  have W:∀u,(Yc 35 (U (N ⟨g,b,X⟩) a cap) (ox pg ((a:Int)-1))).run PQ u=.ok (pm (N ⟨g,b+m*8,X⟩)) u:=λu=>oJ u _ _ _ _ m _ l i;have Y:∀u,(Yc 35 (U (N ⟨g,b,X⟩) a cap) (ox pg (IntKind.i64.wrap ((a:Int)-1)))).run PQ u=.ok (pm (N ⟨g,b+m*8,X⟩)) u:=λu=>oJ u _ _ _ _ m _ l p;have A:=λ(o:Obj)=>pb (aH ↑w w) fI o;have T:=λo=>oy (qi (A o) (p:=⟨kb,10,X⟩) E) D;have aa:=λo=>oy (qi (A o) (p:=⟨g,b+m*8,X⟩) c) G;have ab:=λo=>oy (qi (A o) (p:=⟨g,b+m*8+1,X⟩) c) H;have ac:=λo=>oy (qi (A o) (p:=⟨g,b+m*8+2,X⟩) c) I;have ad:=λo=>oy (qi (A o) (p:=⟨g,b+m*8+3,X⟩) c) J;have ae:=λo=>oy (qi (A o) (p:=⟨g,b+m*8+4,X⟩) c) K;have af:=λo=>oy (qi (A o) (p:=⟨g,b+m*8+5,X⟩) c) L;have ag:=λo=>oy (qi (A o) (p:=⟨g,b+m*8+6,X⟩) c) O;have ah:=λo=>oy (qi (A o) (p:=⟨g,b+m*8+7,X⟩) c) P;have C:qu _:=hK;clear hK A F i p;simp only[VR,qo,cq,z8];refine wp_region_noPanic ?_;go_region
  all_goals
   refine NoPanic.normal ?_;exact C _ _ ⟨R,R,R⟩ R (sv _ _) (pb (aH _ w) fI _).drew
def Pg(h:LG tm kb n)(i:tm[5]? =N (pm (N ⟨c,0,X⟩)))(d:Z w ⟨c,2,X⟩=N (ox pg e))(hK:∀a,LG a kb n->a[5]? =N (pm (N ⟨c,0,X⟩))->a[6]? =N (ox pg e)->Q .normal ⟨a,[]⟩ w):Wr.wp PQ Q ⟨tm,[]⟩ w:=by obtain⟨b,f,g⟩:=h;have a:qu _:=hK;clear hK;simp only[Wr,qo,cq,z8];go_wp2;exact a _ hc hw hw
def QA{st}(h:LG tm kb n)(k:tm[5]? =N (pm (N ⟨c,0,X⟩)))(l:tm[6]? =N (ox pg e))(q:Z w ⟨c,1,X⟩=N (ox pg d))(r:Z w ⟨kb,5,X⟩=N (ox pg st))(g:d+st=t)(o:-4611686018427387904<d/\d<4611686018427387904)(p:0<=st/\st<=20)(hK:∀a b,LG a kb n->a[6]? =N (ox pg e)->a[7]? =N (ox pg t)->Below ↑w w b->Q .normal ⟨a,[]⟩ b):VP.wp PQ Q ⟨tm,[]⟩ w:=by
 obtain⟨a,i,j⟩:=h;obtain⟨m,rfl,a⟩:=jg a
 iterate 252 (obtain⟨_,m,rfl,f⟩:=je a;clear a;have a:=f;clear f)
 obtain rfl:=tt.1 a;clear a;simp only[cN,cM,cG,aI]at i j k l;subst i j k l
 as_aux_lemma=>
  have b:qu _:=fE hK g;clear hK g;simp only[VP,qo,cq,z8];go_upto_region 3 with fail;go_quiet (fail);go_wp2;exact b.1 _ _ ⟨R,R,R⟩ R (by rw[<-b.out.2];rfl) ib
def Oz(h:LG tm kb n)(f:tm[6]? =N (ox pg e))(g:tm[7]? =N (ox pg t))(hK:∀a,LG a kb n->a[6]? =N (ox pg e)->a[7]? =N (ox pg t)->a[8]? =N (U X 0 0)->Q .normal ⟨a,[]⟩ w):VI.wp PQ Q ⟨tm,[]⟩ w:=by obtain⟨b,c,d⟩:=h;have a:qu _:=hK;clear hK;simp only[VI,qo,cq,z8];go_wp2;exact a _ hc hw hw hw
def QB(h:LG tm kb n)(f:tm[6]? =N (ox pg e))(g:tm[7]? =N (ox pg t))(i:tm[8]? =N kv)(hK:∀a,Jb a kb n e t kv 0->Q .normal ⟨a,[]⟩ w):Wf.wp PQ Q ⟨tm,[]⟩ w:=by obtain⟨b,c,d⟩:=h;have a:qu _:=hK;clear hK;simp only[Wf,qo,cq,z8];go_wp2;exact a _ hc
def PT{b c}(h:Jb tm kb n e t kv i)(d:Z w ⟨kb,9,X⟩=N (U b wn c))(hK:∀a,Jb a kb n e t kv i->a[41]? =N (rh (decide (i<wn)))->Q .normal ⟨a,[]⟩ w):WU.wp PQ Q ⟨tm,[]⟩ w:=by obtain⟨f,g,j,k,l,m,o⟩:=h;have a:qu _:=hK;clear hK;simp only[WU,qo,cq,z8];go_wp2;exact a _ hc hw
def P6(h:Jb tm kb n e t kv i)(b:i<1099511627776)(hK:∀a,Jb a kb n e t kv (i+1)->Q .normal ⟨a,[]⟩ w):Vz.wp PQ Q ⟨tm,[]⟩ w:=by obtain⟨c,d,f,g,j,k,l⟩:=h;have a:qu _:=hK;clear hK;simp only[Vz,qo,cq,z8];go_wp2;exact a _ hc
end
end Hm
namespace Hm
open Go.RowKit Go.Joins Go.Shelf
open Dv (Ba Lo Cf Zq fN)
section
def args2(a b:po)(k):qd (#[a,b]++wy k undef)=k+2/\(#[a,b]++wy k undef)[0]? =N a/\(#[a,b]++wy k undef)[1]? =N b:=⟨aD,by rw[Z8 aC];rfl,by rw[Z8 aC];rfl⟩
def zi(a:Act)(s:Nat):Nat:=match a.1[s]? with
 |some (.int _ k)=>k.toNat
 |_=>0
def Ro{lo kb ug hh hf w ps}(h:∀W,Below lo w W->iy W (U (N ⟨ug,hh,X⟩) (M ps) hf) ps)(d:lo<=kb)(hp:0<M ps):ug≠kb:=λe=>by
 subst e;obtain⟨u,b⟩:∃u,ps[0]? =N u:=⟨_,aK hp⟩
 have c:=((h w (aH _ _)).get b).1;have a:=((h _ ((aH lo w).setCell (p:=⟨ug,hh+0*4,X⟩) d (rh pw))).get b).1;rw[World.cell?_setCell_same' _ _ _ (by rw[c];rfl)]at a;simp at a
section
variable {c:Cf}{vch:po}{ug hh hf:Nat}{ps:List PU}{bs:List PW}{ls:List PL}{p:PL}{kb lo n:Nat}{vwa hl:po}{w:pn}
def Ji(D:UZ c vch ug hh hf ps bs ls p kb lo n vwa hl w):tf PQ 35 #[pm (N ⟨kb,0,X⟩),ox pg n] w (sJ c (U (N ⟨ug,hh,X⟩) (M ps) hf) vch (ps.map p9) bs ls p.1 kb lo n w):=by
 have I:=D.10;unfold Dv.fR at I;simp only[Zh]at I;have aj:=D.13;have hn:=D.12;have ae:=D.14;have ay:=D.8;have af:=D.7;obtain⟨m,L⟩:∃m,M ls=m+1:=⟨M ls-1,by have:=(aJ.1 D.5).1;omega⟩
 let⟨g,az,aw,ag,ax⟩:=D.4.1.pos aA;have y:=D.5;rw[L,Nat.add_sub_cancel]at y;have z:=D.4.1;have S:=D.1;rw[ag]at z S;let⟨k0,k1,V,k3,k4,W,Y,k7⟩:=AQ z R y;have K:=aS y;let⟨a5,a6,ak⟩:=(D.4.3 _ K).1.1.slice;let⟨a3,a4,ai⟩:=(D.4.3 _ K).2.1.slice;have j:=D.6;obtain⟨e,o⟩:∃e,p.1.3=e:=⟨_,R⟩
 obtain⟨v,u⟩:∃v,p.1.2+c.6=v:=⟨_,R⟩
 rw[ak]at W;rw[ai]at Y;rw[o]at V ae;have t:∀(G:Array po)(l:Bool)(k:pn),G[4]? =N (.bool l)->sJ c (U (N ⟨ug,hh,X⟩) (M ps) hf) vch (ps.map p9) bs ls p.1 kb lo n w (qs (.bool l)) k->bodyPost PQ z8 (sJ c (U (N ⟨ug,hh,X⟩) (M ps) hf) vch (ps.map p9) bs ls p.1 kb lo n w) .ret ⟨G,[]⟩ k:=λG l k h a=>bodyPost_ret (v:=.bool l) (by simp[results,Tryz.results35,go_sem,h]) R a;refine calls_of_wp (fq Tryz.func35 R) (c:=qo) R ?_;rw[TR,Tryz.ntmps35];let⟨a0,a1,a2⟩:=args2 (pm (N ⟨kb,0,X⟩)) (ox pg n) 250;generalize ad:bodyPost PQ z8 (sJ c (U (N ⟨ug,hh,X⟩) (M ps) hf) vch (ps.map p9) bs ls p.1 kb lo n w)=Q at t⊢;clear ad;refine ud (OK (kb:=kb) (n:=n) ⟨a0,a1,a2⟩ λa7 h0=>?_)
 show(qv VR _).wp _ _ _ _
 refine ud (Ra h0 (by rw[S.cell];rfl) D.1.lt (z.lt (g:=g) R) L af k0 k1 V k3 k4 W Y k7 λa8 w1 h1 E z1 x=>?_)
 show(qv Wr _).wp _ _ _ _
 obtain⟨-,z2,z3,-⟩:=gS z1;refine ud (Pg h1 E z3 λa9 h2 E q=>?_)
 show(qv VP _).wp _ _ _ _
 refine ud (QA h2 E q z2 (by rw[(D.1.fF x).cell];rfl) u ⟨?_,?_⟩ ⟨aA,aA⟩ λba w3 h3 q F ac=>?_)
 .have:=j.2;have:=j.3;omega
 .have:=j.2;have:=j.3;omega
 show(qv VI _).wp _ _ _ _
 have ab:=ow x (o5 ac x.4);refine ud (Oz h3 q F λbb h4 q F t8=>?_)
 show(qv (qv Wf _) _).wp _ _ _ _
 refine ud (ud (QB h4 q F t8 λar h5=>?_))
 show(Yj 0 _).wp _ _ _ _
 let⟨bf,bd,ap⟩:=D.3.1.slice;have an:=Ro D.11 D.2 aA;refine wp_block (wp_loop (λr k=>∃(j:Array po)(i:Nat)(kept:List PW)(B:Option zm)(C:Nat),r=⟨j,[]⟩/\i<=M bs/\Jb j kb n e v (U B (M kept) C) i/\WJ c (ps.map p9) bs n e v w i kept (U B (M kept) C) k) (λr _=>M bs-zi r 9) ⟨ar,0,[],X,0,R,bU _,h5,fI,aC,aC,fM.nil _ _ _,gh,ab⟩ ?_);rintro r wx ⟨aa,i,kept,B,C,rfl,hi,P,b⟩;have T:=D.1.fF b.6;refine ud (ud (PT (wn:=M bs) P (by rw[T.cell,ap];rfl) λbc d aq=>?_))
 show(Yh (.tmp 41) .skip (.exit 0)).wp _ _ _ _
 refine wp_cond (t:=decide (i<M bs)) (by simp[Act.eval,cS,aq]) ?_;by_cases A:i<M bs
 .rw[Ze A];refine wp_skip ?_
  show(qv (Yj 1 vX) Vz).wp _ _ _ _
  refine ud (wp_block (N9 D o u b d A (λam O Q ah w7 H J=>?_) λam l w7 ao h a=>?_))
  .show Vz.wp _ _ _ _
   refine P6 H aA λf s=>?_;refine⟨⟨f,i+1,O,Q,ah,R,aA,s,J⟩,?_⟩;have e1:zi ⟨f,[]⟩ 9=i+1:=by unfold zi;rw[s.7];rfl
   have e2:zi ⟨aa,[]⟩ 9=i:=by unfold zi;rw[P.7];rfl
   show M bs-zi ⟨f,[]⟩ 9<M bs-zi ⟨aa,[]⟩ 9
   omega
  .exact t _ _ _ h a
 .rw[Zd A];refine wp_exit ?_
  show Ua.wp _ _ _ _
  have ah:i=M bs:=aA
  subst ah;have O:=b.2;rw[List.drop_length,dB,Dv.sift,dI,<-o,<-u]at O;let⟨r1,r2,r3,r4,r5⟩:=tA D.1 D.2 D.3 D.4 b.6 b.4 b.5 b.3;have a:=CN O;unfold RP at a;have ao:=D.11 wx (o5 b.6 D.lk);refine OW (t1:=((ps.map p9)[e+1]!).2) (λk=>sJ c (U (N ⟨ug,hh,X⟩) (M ps) hf) vch (ps.map p9) bs ls p.1 kb lo n w (qs (rh pw)) k) d.1 d.2 d.3 d.4 d.5 d.6 T an aA aj ⟨aA,aA⟩ (λf=>?_) (λf au am h=>?_) (λf H s=>?_) λf au w7 am h hq=>t _ _ _ h hq
  .have J:e+1<M ps:=by omega
   obtain⟨u1,Q⟩:∃av,ps[e+1]? =N av:=⟨_,aK J⟩
   rw[show(ps.map p9)[e+1]! =u1.1 from by rw[getElem!_def,cT,Q];rfl];exact⟨J,(ao.get Q).2.1⟩
  .rw[<-o]at f;dsimp only at a;rw[Zb f]at a;refine t _ _ _ h ⟨pi,_,_,_,ls,R,r1,r2,r3,?_,r4,r5⟩;unfold yK;rw[a];exact⟨R,R,R⟩
  .have J:H<M ps:=by
    rw[s];split<;>omega
   obtain⟨u1,Q⟩:∃av,ps[H]? =N av:=⟨_,aK J⟩
   rw[<-o]at f s;dsimp only at a;rw[Za f]at a;rw[<-u]at s;rw[<-s]at a;exact AA D r1 r2 r3 r4 r5 Q ⟨fM.nil _ _ _,gh⟩ a
end
end
end Hm
