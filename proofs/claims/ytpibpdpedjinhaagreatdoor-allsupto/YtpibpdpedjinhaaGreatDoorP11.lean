import Derived.Test.YtpibpdpedjinhaaGreatDoorP09
import Derived.TacticsInMore
import Derived.LoopNIn
import Derived.LoopIn
set_option maxRecDepth 100000
set_option maxHeartbeats 8000000
set_option linter.all false
open Array renaming setIfInBounds->qb,size->qd
open Bool renaming false->pi,true->pw
open ByteArray renaming ext->qaQ,extract->qt,size->ot
open Eq renaming symm->si,trans->oy
open False renaming elim->sj
open Go renaming Calls->tf,Code->vy,Exit->qaC,KeepsFrom->YC,Obj->ZG,Operand->ZT,OwnFrom->YM,Program->th,TypeId->wj,Value->po,World->pn,bodyPost_ret->sd,callsIn_wide->zw,heap_alloc_new->sv,info_parts->yk,results_none->Zy,run_underlying->vh
open Go.Addr renaming add->sf
open Go.Addr.mk renaming injEq->zs
open Go.Calls renaming mono->se
open Go.Ending renaming returned->qs
open Go.Fence renaming inRound->zz,wide->vq
open Go.IntKind renaming i64->pg,u16->XX,u32->sr,wrap->xh
open Go.Obj renaming cells->pj,deferred->uu
open Go.OwnFrom renaming alloc->YO,putObj->ve
open Go.Proofs.Tryz renaming underlying130->Zu,underlying199->Ya,underlying22->XZ,underlying76->YB,underlying79->qai
open Go.Region renaming wanted->sy
open Go.Result renaming andThen->wi
open Go.RowKit renaming Hid->qu
open Go.RowKit.Below renaming alloc->pb,cell->qi,drew->rk,mono->o5,setCell->ph,trans->ow
open Go.Value renaming agg->we,bool->rh,int->ox,ownBlock->ov,pointer->pm,slice->U,string->pk,tuple->sh
open Go.Value.slice renaming injEq->ry
open Go.World renaming alloc->o6,alloc_heap_new->YZ,cell?->Z,cell?_of_block->qz,drew->xp,drewN->tj,grownBy->ss,ownsRow->r8,ownsRow_nil->Yw,putObj->rq,putObj_heap_other->sa,putObj_heap_same->wh,putObj_size->Yt,setCell->o3
open Int renaming toNat->vv
open List renaming Nodup->ww,drop_eq_getElem_cons->Y1,drop_zero->qaJ,filter_congr->qah,filter_filter->Z7,filter_map->qaE,filter_nil->Z6,getD->ur,getElem?_of_mem->qbg,getElem_mem->qaz,getLastD->wm,length->M,range->IS,toArray->py
open Nat renaming add_comm->qaI,add_zero->qaP,mul_one->qbn
open Option renaming isNone->za,isSome->te,isSome_iff_exists->qaf,isSome_map->qab,none->X,some->N
open Or renaming inl->rr,inr->rz
open Prod renaming fst->p9
open UInt8 renaming toNat->pf,toNat_lt->xi
open Go.Proofs.Tryz
namespace Go.Proofs.YtpibpdpedjinhaaGreatDoor
open Dv Sq
namespace Fr
open Go.RowKit Go.Joins
def fv:Option (F×Nat)->po
 |none=>sh #[we #[ox sr 0,ox XX 0,pk ⟨#[]⟩,rh pi],ox pg 0,rh pi]
 |some x=>sh #[we #[ox sr x.1.1,ox XX x.1.2,pk ⟨py x.1.3⟩,.bool x.1.4],ox pg x.2,rh pw]
end Fr
namespace Fr
open Go.RowKit Go.Joins
attribute [local go_sem] Oper.semAt_some
variable {s:List UInt8}{l:List F}{p:Nat}
inductive Kh(s:List UInt8):List F->Nat->Prop
 |nil:Kh s [] 0
 |snoc {l:List F} {p:Nat} {x:F} {n:Nat}:Kh s l p->one s p=N (x,n)->Kh s (l++[x]) (p+n)
def Kh.le(h:Kh s l p):p<=M s/\M l<=p:=by
 induction h with
 |nil=>simp
 |snoc h ho ih=>
  have:=one_le ho;simp only[aN,aP,bH];omega
end Fr
namespace Fr
open Go.RowKit Go.Joins
attribute [local go_sem] Oper.semAt_some
variable {s:List UInt8}{l:List F}{p:Nat}
def Dz(s p)(hp:p+1<=M s):one s (p+1)=one (s.drop 1) p:=by rw[xg s (p+1) hp,xg (s.drop 1) p (by grind),dW,qaI 1 p]
def Kh.UT(b:1<=M s)(h:Kh (s.drop 1) l p):lR s l (p+1):=by
 induction h with
 |nil=>exact lR.nil
 |@snoc l p x n h ho ih=>
  have a:=one_le ho;rw[cF]at a;rw[show p+n+1=p+1+n from by omega];exact lR.snoc ih aA (by rw[Dz s p aA];exact ho)
def uB(j:1<=M s)(f:ur s 0 0=0)(a:Kh (s.drop 1) l p)(i:one (s.drop 1) p=X):
  frames s=if M l=0\/p<M s-1 then X else N l:=by
 have c:=a.UT j;have g:=a.le;rw[cF]at g;by_cases b:M s<2
 .rw[ou (rr b),Zb (rr aA)]
 .have d:¬(M s<2\/ur s 0 0≠0):=by
   rintro(h|h)
   .exact b h
   .exact h f
  by_cases e:p<M s-1
  .rw[Zb (rz e)];exact c.stuck d aA (by rw[Dz s p aA];exact i)
  .rw[Za]
   .exact c.all d aA
   .rintro(h|h)
    .cases a with
     |nil=>omega
     |snoc=>simp at h
    .exact e h
end Fr
namespace Dv
open Fr (F)
variable {l:List F}{n:Nat}{c:Ch}{f:F}
def tD:∀{a b:List Nat},ww a->(∀x∈a,x∈b)->M a<=M b
 |[],_,_,_=>bU _
 |x::a,b,hn,hs=>by
  have f:=hs x aC;have c:=dY.1 hn;have:=tD (a:=a) (b:=b.erase x) c.2 (λy d=>(List.mem_erase_of_ne (λ(e:y=x)=>c.1 (by rw[<-e];exact d))).2 (hs y (by simp[d])))
  grind
def Jk{l}(b:ww l)(a:∀x∈l,x<=n):M l=n+1↔∀k<n+1,k∈l:=by
 constructor
 .intro h k d;refine dO λhc=>?_;have:=tD (b:=(IS (n+1)).erase k) b (λx c=>(List.mem_erase_of_ne (λe=>hc (by rw[<-e];exact c))).2 (dN.2 (by have:=a x c;omega)))
  grind
 .intro h;have d:=tD (b:=IS (n+1)) b (λx c=>dN.2 (by have:=a x c;omega));have e:=tD (a:=IS _) (b:=l) List.nodup_range (λx c=>h x (dN.1 c))
  grind
def yZ:te (has l n)=pw↔n∈l.map (·.2):=by unfold has;simp
def pV{l}:∀{k},te (kP l k)=pw↔∀n<k,n∈l.map (·.2)
 |0=>by simp[kP]
 |k+1=>by
  have ih:=pV (l:=l) (k:=k);unfold kP;constructor
  .intro h n b;cases a:kP l k with
   |none=>simp[a]at h
   |some s=>
    simp only[a,dP,qab]at h;obtain b|rfl:=eY (Nat.lt_succ_iff.1 b)
    .grind
    .exact yZ.1 h
  .intro h;have a:=ih.2 (λn d=>h n aA);have b:=yZ.2 (h k aA);let⟨s,c⟩:=qaf.1 a;simp[c,b]
structure Fine(l:List F):Prop where
 apart:ww (l.map (·.2))
 upto:∀n,last l=N n->∀x∈l,x.2<=n
def DE:Fine []:=⟨aC,by simp[last]⟩
def AV(h:Fine l)(a:last l=N n):M l=n+1↔te (bytes l)=pw:=by have:=Jk (l:=l.map _) (n:=n) h.1 (λx b=>by obtain⟨y,c,rfl⟩:=bB.1 b;exact h.2 n a y c);rw[aV]at this;rw[this];unfold bytes;rw[a,dP];exact pV.symm
def Dr(l)(f:F):last (l++[f])=(last l).or (if f.4 then N f.2 else X):=by
 unfold last
 grind
def Ex(p)(h:∀x∈l,x.4=pw->p x=pw):last (l.filter p)=last l:=by
 induction l with
 |nil=>rfl
 |cons x l ih=>
  have ih:=ih (λy a=>h y (by simp[a]));unfold last at ih⊢
  grind
def Ah:last l=X↔∀x∈l,x.4=pi:=by unfold last;simp
def um(h:kG c f=pi):f.2∉c.3.map (·.2)/\c.4=pi/\(∀n,last c.3=N n->f.4=pi/\f.2<=n):=by
 unfold kG at h;simp only[dS]at h;obtain⟨⟨a,b⟩,e⟩:=h;refine⟨λd=>?_,b,λn g=>?_⟩
 .rw[yZ.2 d]at a;cases a
 grind
def wQ(d:kG c f=pi):last (grown c f)=(last c.3).or (if f.4 then N f.2 else X):=by
 let⟨g,h,i⟩:=um d;unfold grown;rw[Ex,Dr];intro x a b;obtain a|a:=bV.1 a
 .unfold goes;cases j:f.4
  .rfl
  .have e:last c.3=X:=by
    cases k:last c.3 with
    |none=>rfl
    |some n=>grind
   rw[Ah.1 e x a]at b;cases b
 .rw[bT.1 a];unfold goes;simp
def Fi(h:Fine c.3)(d:kG c f=pi):Fine (grown c f):=by
 let⟨l,m,o⟩:=um d;have j:=wQ d;refine⟨?_,λn a x e=>?_⟩
 .unfold grown;refine(List.filter_sublist.map _).nodup ?_;rw[aZ];refine List.nodup_append.2 ⟨h.1,aC,λb k g p i=>?_⟩
  grind
 .rw[j]at a;unfold grown at e;let⟨b,i⟩:=dD.1 e;cases hc:last c.3 with
  |some k=>
   rw[hc]at a;simp at a;subst a;obtain b|b:=bV.1 b
   .exact h.2 k hc x b
   grind
  |none=>
   rw[hc]at a;simp only[Option.none_or]at a;cases g:f.4
   .grind
   .rw[g]at a;simp at a;subst a;unfold goes at i
    grind
def size_append(l f):size (l++[f])=size l+M f.3:=by simp[size]
def size_filter_le(l p):size (l.filter p)<=size l:=by
 induction l with
 |nil=>simp[size]
 |cons x l ih=>
  unfold size at ih⊢
  grind
def IM{k s d}(h:kP l k=N s)(a:has l k=N d):kP l (k+1)=N (s++d):=by simp[kP,h,a]
end Dv
namespace Hm
open Go.RowKit Go.Joins
open Dv (Fine)
open Fr (F fG)
variable {n:Nat}
def I1(b:Nat):po:=pm (N ⟨b,0,X⟩)
def CY(f:F):po:=we #[ox sr f.1,ox XX f.2,pk ⟨py f.3⟩,.bool f.4]
def pD(l:List F):AL:=l.map λf=>(f.2,CY f)
structure PC where
 blk:Nat
 fm:Option Nat
 ch:Ch
 size:Int
 ended:Bool
 last:Nat
def qF(o:PC):ZG:=pj #[ox sr o.3.1,ox pg o.3.2,.map o.2,ox pg o.4,.bool o.5,ox XX o.6,.bool o.3.4] 201 (0,0)
def Small(l:List F):=∀x∈l,x.2<65536/\M x.3<=65536
structure Sound(w:pn)(o:PC):Prop where
 map:∃B,o.2=N B/\jh w B XX (pD o.3.3)
 size:o.4=Dv.size o.3.3
 room:Dv.size o.3.3<=4294967296
 ended:o.5=te (Dv.last o.3.3)
 last:∀n,Dv.last o.3.3=N n->o.6=n
structure jH(w:pn)(o:PC):Prop where
 obj:w.1[o.1]? =N (qF o)
 fine:Fine o.3.3
 small:Small o.3.3
 lastLt:o.6<65536
 sound:o.3.4=pi->Sound w o
 spoilt:o.3.4=pw->o.3.3=[]/\o.2=X
def Py{l}:te (jB (pD l) n)=te (Dv.has l n):=by unfold jB pD Dv.has;rw[qab,qab,List.find?_map,qab];rfl
def R4(w):(zeroValue 81).run PQ w=.ok (we #[ox sr 0,ox XX 0,pk ⟨#[]⟩,rh pi]) w:=Zm
def LX(w):(zeroValue 197).run PQ w=.ok (pm X) w:=Zm
def Gd(c f)(h:c.4=pi):(kG c f)=(te (Dv.has c.3 f.2) || (match Dv.last c.3 with|some n=>f.4 || decide (n<f.2)|none=>pi)):=by unfold kG;rw[h,Bool.or_false];rfl
def Eg(r f w)(h:jH w r)(hf:f.2<65536):tf PQ 113 #[pm (N ⟨r.1,0,X⟩),CY f] w λae w'=>ae=qs (.bool (!kG r.3 f))/\Below w.1.size w w':=by
 obtain⟨P,e⟩:∃P,(!kG r.3 f)=P:=⟨_,R⟩
 rw[e];obtain⟨blk,fm,⟨nm,op,p,sp⟩,sz,en,E⟩:=r;obtain⟨fc,c,fd,m⟩:=f;unfold CY;dsimp only at *;obtain⟨D,y⟩:∃D:ByteArray,(⟨py fd⟩:ByteArray)=D:=⟨_,R⟩
 rw[y];have J:blk<↑w:=(fO h.1)
 obtain⟨W,i,j,-⟩:=fL w #[ox sr fc,ox XX c,pk D,.bool m] 81;have K:W.1[blk]? =_:=oy (j.5 _ J) h.1;obtain⟨-,-,s,-,F,G,H⟩:=rD K;have v:Z W ⟨↑w,1,X⟩=N (ox XX c):=by rw[i];simp
 have S:Z W ⟨↑w,3,X⟩=N (.bool m):=by rw[i];simp
 cases sp
 .obtain⟨⟨B,rfl,u⟩,L,ai,k,z⟩:=h.5 R;dsimp only at u L k z;rw[Gd _ _ R]at e;dsimp only at e;obtain⟨Q,C⟩:∃Q,te (Dv.has p c)=Q:=⟨_,R⟩
  rw[C]at e;obtain⟨q,d⟩:∃q,(match Dv.last p with|some n=>m || decide (n<c)|none=>pi)=q:=⟨_,R⟩
  rw[d]at e
  have ag:(en=pi/\q=pi)\/(en=pw/\q=(m || decide (E<c))):=by
   cases o:Dv.last p with
   |none=>rw[o]at k d;exact rr ⟨k,si d⟩
   |some n=>rw[o]at k d;rw[z n o];exact rz ⟨k,si d⟩
  have g:qu _:=fE e j
  obtain⟨v0,v1,v2,v3,O⟩:∃aa ab ac ad,(jB (pD p) c).getD (Value.agg #[ox sr 0,ox XX 0,pk ⟨#[]⟩,rh pi])=we #[ox sr aa,ox XX ab,pk ac,.bool ad]:=by
   unfold jB pD;rw[List.find?_map];cases p.find? ((λo:Nat×po=>o.1 == c)∘λf=>(f.2,CY f))with
   |none=>exact⟨_,_,_,_,R⟩
   |some x=>exact⟨_,_,_,_,R⟩
  have t:=λ(V:pn)(a:V.1[B]? =w.1[B]?)=>(u.of_block a).lookup (P:=PQ) (uq Ya) (uq qai) (R4 _) c pw;simp only[if_true]at t;rw[Py,O,C]at t;have b:qu _:=fE t (fE u.lt (fE J j));have l:↑w<W.1.size:=by rw[i];simp
  clear O y h u L ai k z d C e t j;go_enter (fq func113 R),ntmps113;go_upto_region 1 with fail;rw[<-i];clear i;obtain⟨rfl,rfl⟩|⟨rfl,d⟩:=ag
  .go_quiet (fail);go_upto_region 3 with fail;generalize a:tj _ _=V;have f2:Z V ⟨blk,2,X⟩=N (.map (N B)):=by rw[<-a];exact s
   have g1:Z V ⟨↑w,1,X⟩=N (ox XX c):=by rw[<-a];exact v
   have x:↑V=W.1.size:=by rw[<-a];rfl
   have o:V.1[B]? =w.1[B]?:=by rw[<-a];exact b.2.2.2.5 B b.2.1
   have A:=aL b.2.1 (eZ l);have Y:=aL b.2.2.1 (eZ l);rw[<-x]at l A Y;have l1:=b.1 (xp V) o;have l2:=λobj=>b.1 (xp (o6 V obj)) (oy (aU _ _ _ A) o);have I:qu _:=fE a x;clear a x o s F G H v S;go_region
   all_goals
    go_wp2;go_ret;refine⟨?_,ow g.2 ?_⟩
    .rw[<-g.out.1];simp
    .have T:Below ↑w W V:=by rw[<-I.out.1];exact fG (aH _ _) _
     refine ow T ?_
     exact j7
  .cases m
   .by_cases o:E<c
    .have A:(E:Int)<c:=by omega
     have x:q=pw:=by rw[d];simp[o]
     clear d o;subst x;go_quiet (fail);go_wp2;go_ret;refine⟨?_,ow g.2 ⟨R,R,R,fI,λ_ _=>R⟩⟩;rw[<-g.out.1];simp
    .have ah:q=pi:=by rw[d];simp[o]
     have Y:qu _:=o;clear d o;subst ah;go_quiet (fail);rw[Zd Y.out];go_upto_region 3 with fail;generalize a:tj _ _=V;have f2:Z V ⟨blk,2,X⟩=N (.map (N B)):=by rw[<-a];exact s
     have g1:Z V ⟨↑w,1,X⟩=N (ox XX c):=by rw[<-a];exact v
     have A:↑V=W.1.size:=by rw[<-a];rfl
     have x:V.1[B]? =w.1[B]?:=by rw[<-a];exact b.2.2.2.5 B b.2.1
     have I:=aL b.2.1 (eZ l);have af:=aL b.2.2.1 (eZ l);rw[<-A]at l I af;have l1:=b.1 (xp V) x;have l2:=λobj=>b.1 (xp (o6 V obj)) (oy (aU _ _ _ I) x);have T:qu _:=fE a A;clear a A x s F G H v S;go_region
     all_goals
      go_wp2;go_ret;refine⟨?_,ow g.2 ?_⟩
      .rw[<-g.out.1];simp
      .have hb:Below ↑w W V:=by rw[<-T.out.1];exact fG (aH _ _) _
       refine ow hb ?_
       exact j7
   .subst d;go_quiet (fail);go_wp2;go_ret;refine⟨?_,ow g.2 ⟨R,R,R,fI,λ_ _=>R⟩⟩;rw[<-g.out.1];simp
 .have a:qu _:=fE e j;clear y h e K j;go_enter (fq func113 R),ntmps113;go_upto_region 1 with fail;rw[<-i];clear i;go_quiet (fail);go_wp2;go_ret;refine⟨?_,ow a.2 ⟨R,R,R,fI,λ_ _=>R⟩⟩;rw[<-a.out.1];unfold kG;simp
section
variable {l:List F}{x:F}{k blk B t r cnt nm op:Nat}{v:po}{w w0 w1 w2:pn}{cs:Array po}{fz:Nat×Nat}{q:IntKind}{m:AL}{L:Nat->Bool}{sp:Bool}
def upto(n:Nat)(L:Nat->Bool)(x:F):Bool:=decide (x.2<=n) || L x.2
def size_cons(x l):Dv.size (x::l)=M x.3+Dv.size l:=by simp[Dv.size]
def size_drop(d:ww (l.map (·.2)))(b:x∈l):Dv.size (l.filter (λy=>y.2 != x.2))+M x.3=Dv.size l:=by
 induction l with
 |nil=>simp at b
 |cons y l ih=>
  have a:=dY.1 (by simpa using d:(y.num::l.map (·.num)).Nodup);obtain rfl|c:=bM.1 b
  .have:l.filter (λy=>y.2 != x.2)=l:=eK.2 (λz f=>by
    simp only[bne_iff_ne,ne_eq];exact λe=>a.1 (bB.2 ⟨z,f,e⟩))
   rw[cJ,Za aC,this,size_cons];omega
  .have f:y.2≠x.2:=λe=>a.1 (e ▸ bB.2 ⟨x,c,R⟩);rw[cJ,Zb (by simp[f]),size_cons,size_cons];have:=ih a.2 c;omega
def O6(l k):kQ (pD l) k=pD (l.filter (λy=>y.2 != k)):=by unfold kQ pD;rw[qaE];rfl
def Be(l:List F)(n k L)(a:n<k):(l.filter (upto n L)).filter (λy=>y.2 != k)=l.filter (upto n (λx=>L x&&x != k)):=by
 rw[Z7]
 congr 1
 funext y;unfold upto;by_cases e:y.2=k
 .simp[e];omega
 .have:(y.2 != k)=pw:=by simp[e]
  show((y.2 != k)&&_)=(_ || (L y.2&&(y.2 != k)))
  rw[this];simp
def Bt(l:List F)(n k L)(a:k<=n):l.filter (upto n L)=l.filter (upto n (λx=>L x&&x != k)):=by
 congr 1
 funext y;unfold upto;by_cases e:y.2=k
 .have:y.2<=n:=by omega
  simp[this]
 .have:(y.2 != k)=pw:=by simp[e]
  show _=(_ || (L y.2&&(y.2 != k)))
  rw[this];simp
def Qv(h:(k,v)∈pD l):∃x,x∈l/\x.2=k/\v=CY x:=by unfold pD at h;let⟨x,a,e⟩:=bB.1 h;simp only[bR]at e;exact⟨x,a,e.1,si e.2⟩
def jR(nm:Nat)(op:Nat)(a:Option Nat)(c:Int)(en:Bool)(b:Nat)(sp:Bool):Array po:=#[ox sr nm,ox pg op,.map a,ox pg c,.bool en,ox XX b,.bool sp]
structure lK(w0:pn)(blk B nm op n:Nat)(sp:Bool)(l:List F)(r:Nat)(L:Nat->Bool)(cnt:Nat)(w:pn):Prop where
 rg:iE w B r XX (pD (l.filter (upto n L))) L cnt
 obj:w.1[blk]? =N (pj (jR nm op (N B) (Dv.size (l.filter (upto n L))) pw n sp) 201 (0,0))
 gE:fT (λk=>k=blk\/k=B) w0 w
 new:↑w0<=r
def iB(h:w.1[blk]? =N (pj cs t fz))(b:jh w B q m):blk≠B:=by obtain⟨d,c,a,_⟩:=b;intro e;rw[e,a]at h;cases h
def rZ(h:w.1[blk]? =N (pj cs t fz))(b:iE w B r q m L cnt):blk≠r:=by obtain⟨f,d,o,n,c,g,i,j,k,l,a,_⟩:=b;intro e;rw[e,a]at h;cases h
def lK.came(h:lK w0 blk B nm op n sp l r L cnt w)(a:ss w w1 (N r)):w1.1[blk]? =N (pj (jR nm op (N B) (Dv.size (l.filter (upto n L))) pw n sp) 201 (0,0))/\fT (λk=>k=blk\/k=B) w0 w1:=by
 have b:=rZ h.2 h.1;refine⟨oy (a.5 blk (fO h.2) (by simp[b])) h.2,h.3.trans (.grown a) (λj c e=>?_)⟩;simp at e;subst e;have:=h.4;omega
def lK.stay(b:iE w1 B r XX (pD (l.filter (upto n L))) (λx=>L x&&x != k) cnt)(d:w1.1[blk]? =N (pj (jR nm op (N B) (Dv.size (l.filter (upto n L))) pw n sp) 201 (0,0)))(hc:fT (λk=>k=blk\/k=B) w0 w1)(f:↑w0<=r)(c:k<=n)(a:Below ↑w1 w1 w2):lK w0 blk B nm op n sp l r (λx=>L x&&x != k) cnt w2:=by
 refine⟨?_,?_,hc.trans (.fF a fI (λ_=>False)) (λ_ _ e=>sj e),f⟩
 .rw[<-Bt l n k L c];exact b.AE (a.5 _ b.OT.lt) (a.5 _ b.lt)
 .rw[<-Bt l n k L c];exact oy (a.5 _ (fO d)) d
def lK.less(a:iE w1 B r XX m (λx=>L x&&x != k) cnt){s}(c:w1.1[blk]? =N (pj (jR nm op (N B) s pw n sp) 201 (0,0)))(hc:fT (λk=>k=blk\/k=B) w0 w1)(b:Below ↑w1 w1 w2)(s':Int):iE (o3 w2 ⟨blk,3,X⟩ (ox pg s')) B r XX m (λx=>L x&&x != k) cnt/\(o3 w2 ⟨blk,3,X⟩ (ox pg s')).1[blk]? =N (pj (jR nm op (N B) s' pw n sp) 201 (0,0))/\fT (λk=>k=blk\/k=B) w0 (o3 w2 ⟨blk,3,X⟩ (ox pg s')):=by
 have d:=iB c a.OT;have f:=rZ c a;have g:w2.1[blk]? =_:=oy (b.5 _ (fO c)) c;refine⟨a.AE (oy (aR _ _ _ _ (λe=>d (si e))) (b.5 _ a.OT.lt)) (oy (aR _ _ _ _ (λe=>f (si e))) (b.5 _ a.lt)),?_,?_⟩
 .have:=gI g 3 (ox pg s');simpa[jR]using this
 .exact(hc.trans (.fF b fI (λ_=>False)) (λ_ _ e=>sj e)).trans (fT.set w2 blk 3 _) (λk _ e=>rr e)
def lK.gone{w3 w4}(g:ww (l.map (·.2)))(b:n<k)(m:x∈l.filter (upto n L))(o:x.2=k)(c:w3.1[blk]? =N (pj (jR nm op (N B) ((Dv.size (l.filter (upto n L)):Int)-M x.3) pw n sp) 201 (0,0)))(hc:fT (λk=>k=blk\/k=B) w0 w3)(h:↑w0<=r)(d:iE w4 B r XX (kQ (pD (l.filter (upto n L))) k) (λx=>(L x&&x != k)&&x != k) cnt)(a:ss w3 w4 (N B))(i:blk≠B):lK w0 blk B nm op n sp l r (λx=>L x&&x != k) cnt w4:=by
 have f:(λx=>(L x&&x != k)&&x != k)=(λx=>L x&&x != k):=by funext x;cases L x<;>cases(x != k)<;>rfl
 rw[f,O6,Be l n k L b]at d;refine⟨d,?_,hc.trans (.grown a) (λp _ e=>rz io),h⟩;have j:=size_drop ((List.filter_sublist.map _).nodup g) m;rw[o,Be l n k L b]at j;rw[(a.5 blk (fO c) (by simp[i])),c]
 congr 3
 omega
def Pq{p}(a:x∈l.filter p):M x.3<=Dv.size (l.filter p):=by
 induction l with
 |nil=>simp at a
 |cons y l ih=>
  rw[cJ]at a⊢;split
  .rename_i h;rw[Zb h]at a;rw[size_cons];obtain rfl|a:=bM.1 a
   .omega
   .have:=ih a;omega
  .rename_i h;rw[Za h]at a;exact ih a
def Ox(blk B nm op n:Nat)(sp en la l w)(q:w.1[blk]? =N (pj (jR nm op (N B) (Dv.size l) en la sp) 201 (0,0)))(H:jh w B XX (pD l))(hl:ww (l.map (·.2)))(hs:Small l)(ah:Dv.size l<=8589934592):tf PQ 171 #[pm (N ⟨blk,0,X⟩),ox XX n] w λe P=>e=qs (sh #[])/\P.1[blk]? =N (pj (jR nm op (N B) (Dv.size (l.filter (λx=>decide (x.2<=n)))) pw n sp) 201 (0,0))/\jh P B XX (pD (l.filter (λx=>decide (x.2<=n))))/\fT (λk=>k=blk\/k=B) w P:=by
 have I:=iB q H;obtain⟨j,p⟩:∃j,j=o3 (o3 w ⟨blk,4,X⟩ (rh pw)) ⟨blk,5,X⟩ (ox XX n):=⟨_,R⟩
 obtain⟨-,-,-,-,c4,c5⟩:=LS q;have fz:=aM q
 have a:j.1[blk]? =N (pj (jR nm op (N B) (Dv.size l) pw n sp) 201 (0,0)):=by
  rw[p];have:=gI (gI q 4 (rh pw)) 5 (ox XX n);simpa[jR]using this
 have ac:jh j B XX (pD l):=H.of_block (by rw[p,aR _ _ _ _ (λe=>I (si e)),aR _ _ _ _ (λe=>I (si e))])
 have b:fT (λk=>k=blk\/k=B) w j:=by
  rw[p];exact((fT.set w blk 4 _).trans (fT.set _ blk 5 _) (λ_ _ e=>e)).mono (λk _ e=>rr e)
 obtain⟨-,-,d2⟩:=iY a;have m:qu _:=fE a (fE b (fE hl (fE hs ah)));have V:qu (jh _ _ _ _):=ac;clear q H hl hs ah a ac b;go_enter (fq func171 R),ntmps171;go_upto_region 2 with fail;rw[<-p];clear p;go_wp2_with (first|(at_range;refine sH _ R _ 199 R 79 81 _ (uq Ya) B _ R V.out ?_;intro w0 af E au)|go_in)
 go_frame
 have G:lK w blk B nm op n sp l ↑j (λk=>decide (k∈(pD l).map p9)) (M (pD l)) w0:=by
  have c:l.filter (upto n (λk=>decide (k∈(pD l).map p9)))=l:=eK.2 (λx d=>by
   unfold upto;have:x.2∈(pD l).map p9:=bB.2 ⟨_,bB.2 ⟨x,d,R⟩,R⟩;simp only[this,decide_true,Bool.or_true])
  refine⟨by rw[c];exact af,by rw[c];exact oy (E.5 _ (fO m.1) aC) m.1,m.2.1.trans (.grown E) (λk _ e=>by simp at e),m.2.1.4⟩
 obtain⟨r,hr⟩:∃r,r=j.1.size:=⟨_,R⟩
 rw[<-hr]at G⊢;have T:qu (lK _ _ _ _ _ _ _ _ _ _ _ _):=G;clear G af E au V d2 hr;go_loopg [4,5] (M (pD l)) (λc _ _ d=>∃L,qu (lK w blk B nm op n sp l r L c d))
 case atStart=>exact⟨_,T⟩
 case round=>
  obtain⟨L,i⟩:=hrel;clear T;go_upto_region 4 with(first|(at_next;refine rB _ R _ R B r _ _ L _ R i.1 ?_ ?_)|go_in)
  .intro d c;go_wp2;go_end0;refine⟨R,?_,?_,i.3⟩
   .have:=i.2
    have e:l.filter (upto n L)=l.filter (λx=>decide (x.2<=n)):=by
     congr 1;funext x;unfold upto;exact lm
    exact my
   .have:=i.1.OT
    have e:l.filter (upto n L)=l.filter (λx=>decide (x.2<=n)):=by
     congr 1;funext x;unfold upto;exact lm
    exact my
  .intro k v w1 ak aq ad ap g ar aa av y;obtain⟨x,h,aj,rfl⟩:=Qv ad;let⟨a,b⟩:=i.came aa;obtain⟨xc,o,xd,xl⟩:=x;simp only at aj;subst aj;unfold CY at y⊢;dsimp only at y⊢;obtain⟨D,C⟩:∃D:ByteArray,(⟨py xd⟩:ByteArray)=D:=⟨_,R⟩
   have d:ot D=M xd:=by rw[<-C];rfl
   rw[C]at y⊢;obtain⟨t,u,f,-⟩:=fL w1 #[ox sr xc,ox XX o,pk D,.bool xl] 81;have z2:Z t ⟨↑w1,2,X⟩=N (pk D):=by rw[u];simp
   have ao:=(fO a)
   have J:t.1[blk]? =_:=oy (f.5 _ ao) a;obtain⟨S,c⟩:∃S:Nat,S=Dv.size (l.filter (upto n L)):=⟨_,R⟩
   have ax:ot D<=S:=by rw[d,c];exact Pq h
   have ay:S<=8589934592:=by rw[c];exact aX (Dv.size_filter_le _ _) m.2.2.2.2
   have y3:Z t ⟨blk,3,X⟩=N (ox pg S):=by rw[aG J,c];rfl
   have aw:=aM J;have a2:↑w1<t.1.size:=by rw[u];simp
   have s:qu _:=fE h (fE g (fE a (fE b (fE f (fE c d)))));clear h g a b f ad ap aa av J c C d aq;go_upto_region 5 with fail;rw[<-u];clear u y;by_cases hk:o<=n
   .have z:¬(n:Int)<o:=by omega
    go_wp2;go_roundg ak
    case measure=>exact ar
    case rel=>
     let⟨h,g,a,b,f,c,d⟩:=s.out;exact⟨_,lK.stay g a b i.4 hk f⟩
   .have az:(n:Int)<o:=by omega
    have a1:blk≠w1.1.size:=aA
    go_upto_region 6 with fail;go_cut [29] (λv A=>qu (∃z,Below ↑w1 w1 z/\A=o3 z ⟨blk,3,X⟩ (ox pg ((S:Int)-ot D))))
    case first=>
     go_region
     all_goals
      go_wp2;go_meet;exact⟨_,rk s.2.2.2.2.1,R⟩
    case rest=>
     obtain⟨W5,an,rfl⟩:=hcut.out;let⟨h,g,a,b,f,c,d⟩:=s.out;let⟨K,z,O⟩:=lK.less g a b an (S-ot D);obtain⟨W,Y⟩:∃W,W=o3 W5 ⟨blk,3,X⟩ (ox pg ((S:Int)-ot D)):=⟨_,R⟩
     rw[<-Y]at K z O⊢;obtain⟨-,-,y2⟩:=iY z;have A:qu _:=fE K (fE z O);clear h g a b f c d K z O Y hcut;go_wp2_with (first|(at_delete;(refine pM _ R _ _ 199 79 R 81 _ (uq Ya) (uq qai) B r _ _ _ o R R A.1 ?_;intro w7 am ag a0 ab ai;have Q:qu _:=fE ag (fE ab ai);clear ag ab ai;go_frame))|go_in)
     go_roundg am
     case measure=>omega
     case rel=>
      let⟨h,g,a,b,f,c,d⟩:=s.out;have ae:=A.2.1;rw[c,d]at ae;exact⟨_,lK.gone (k:=o) m.2.2.1 aA h R ae A.2.2 i.4 Q.1 Q.2.1 I⟩
end
section
variable {l:List F}{f:F}{c:Ch}{w0 w w':pn}{blk B nm op s la:Nat}{en:Bool}
def Ps(h:f.2∉l.map (·.2)):qp (pD l) f.2 (CY f)=pD (l++[f]):=by
 unfold qp
 have:f.2∉(pD l).map p9:=by
  unfold pD;rw[fB];exact h
 rw[Za this];unfold pD;simp
def Ke(a:f.4=pw):Dv.grown c f=(c.3++[f]).filter (λx=>decide (x.2<=f.2)):=by
 unfold Dv.grown
 congr 1
 funext x;unfold Dv.goes;rw[a,Bool.true_and,<-decide_not];exact decide_eq_decide.2 aA
def Ds(a:f.4=pi):Dv.grown c f=c.3++[f]:=by unfold Dv.grown;refine eK.2 (λx _=>?_);unfold Dv.goes;exact mo
def D6(h:Small c.3)(b:f.2<65536/\M f.3<=65536):Small (Dv.grown c f):=by
 intro x a;unfold Dv.grown at a;obtain a|a:=bV.1 (dD.1 a).1
 .exact h x a
 .rw[bT.1 a];exact b
def CO(h:f.2∉l.map (·.2))(c:ww (l.map (·.2))):ww ((l++[f]).map (·.2)):=by rw[aZ];refine List.nodup_append.2 ⟨c,aC,λd b g a e=>?_⟩;simp at a;subst a;exact h (e ▸ b)
structure nS(w0:pn)(blk B nm op:Nat)(l:List F)(s:Nat)(en:Bool)(la:Nat)(w:pn):Prop where
 obj:w.1[blk]? =N (pj (jR nm op (N B) s en la pi) 201 (0,0))
 map:jh w B XX (pD l)
 gE:fT (λk=>k=blk\/k=B) w0 w
def nS.kept(h:nS w0 blk B nm op l s en la w)(a:Below ↑w w w'):nS w0 blk B nm op l s en la w':=
 ⟨oy (a.5 _ (fO h.1)) h.1,h.2.of_block (a.5 _ h.2.lt),h.3.trans (.fF a fI (λ_=>False)) (λ_ _ e=>sj e)⟩
def nS.put{b}(h:nS w0 blk B nm op l s en la w)(c:jh w' B XX (pD b))(a:ss w w' (N B)):nS w0 blk B nm op b s en la w':=by have d:=iB h.1 h.2;exact⟨oy (a.5 _ (fO h.1) (by simp[d])) h.1,c,h.3.trans (.grown a) (λk _ e=>rz io)⟩
def nS.size(h:nS w0 blk B nm op l s en la w)(s'):nS w0 blk B nm op l s' en la (o3 w ⟨blk,3,X⟩ (ox pg s')):=by have a:=iB h.1 h.2;refine⟨?_,h.2.of_block (aR _ _ _ _ (λe=>a (si e))),h.3.trans (fT.set w blk 3 _) (λk _ e=>rr e)⟩;have:=gI h.1 3 (ox pg s');simpa[jR]using this
def nS.RK(h:nS w0 blk B nm op l s en la w)(a:la<65536):jH (o3 (o3 w ⟨blk,6,X⟩ (rh pw)) ⟨blk,2,X⟩ (.map X)) ⟨blk,X,⟨nm,op,[],pw⟩,s,en,la⟩/\fT (λk=>k=blk\/k=B) w0 (o3 (o3 w ⟨blk,6,X⟩ (rh pw)) ⟨blk,2,X⟩ (.map X)):=by refine⟨⟨?_,Dv.DE,λx b=>by simp at b,a,λh=>by simp at h,λ_=>⟨R,R⟩⟩,(h.3.trans (fT.set w blk 6 _) (λk _ e=>rr e)).trans (fT.set _ blk 2 _) (λk _ e=>rr e)⟩;have:=gI (gI h.1 6 (rh pw)) 2 (.map X);simpa[jR,qF]using this
def nS.sound(h:nS w0 blk B nm op l s en la w)(d:la<65536)(b:Fine l)(f:Small l)(a:en=te (Dv.last l))(c:∀n,Dv.last l=N n->la=n)(g:s=Dv.size l)(e:Dv.size l<=4294967296):jH w ⟨blk,N B,⟨nm,op,l,pi⟩,s,en,la⟩:=
 ⟨h.1,b,f,d,λ_=>⟨⟨B,R,h.2⟩,by simp[g],e,a,c⟩,λh=>by simp at h⟩
def KL(t f n w)(h:jH w t)(q:kG t.3 f=pi)(r:f.2<65536/\M f.3<=65536)(a9:0<=n/\n<=4294967296):tf PQ 114 #[pm (N ⟨t.1,0,X⟩),CY f,ox pg n] w λe w'=>e=qs (sh #[])/\∃Q:PC,Q.1=t.1/\Q.3=Dv.joined n t.3 f/\(Q.2=t.2\/Q.2=X)/\jH w' Q/\fT (λk=>k=t.1\/t.2=N k) w w':=by
 let⟨u,b2,x⟩:=um q;obtain⟨blk,fm,⟨nm,op,l,sp⟩,sz,en,la⟩:=t;dsimp only at u b2 x⊢;subst b2;obtain⟨⟨B,hB,hm⟩,ax,aw,A,C⟩:=h.5 R;dsimp only at hB hm ax A C aw;subst hB ax;obtain⟨c1,az⟩:∃c:Ch,c=⟨nm,op,l,pi⟩:=⟨_,R⟩
 have g:=Fi h.2 q;have m:=D6 h.3 r;have i:=wQ q
 have b:Dv.joined n ⟨nm,op,l,pi⟩ f=(if n<(Dv.size (Dv.grown ⟨nm,op,l,pi⟩ f):Int)then⟨nm,op,[],pw⟩else⟨nm,op,Dv.grown ⟨nm,op,l,pi⟩ f,pi⟩):=by
  unfold Dv.joined;rw[q];rfl
 obtain⟨o,a,p,y⟩:=f;unfold CY;dsimp only at *;obtain⟨D,V⟩:∃D:ByteArray,(⟨py p⟩:ByteArray)=D:=⟨_,R⟩
 have z:ot D=M p:=by rw[<-V];rfl
 rw[V];obtain⟨W,Y,ap,-⟩:=fL w #[ox sr o,ox XX a,pk D,.bool y] 81;have hk:nS w blk B nm op l (Dv.size l) en la W:=nS.kept ⟨h.1,hm,fT.refl _ _⟩ ap;have ah:=hk.kept (rk (aH _ W));let⟨w2,ab,aj,ag,a2⟩:=ah.2.update (P:=PQ) (uq Ya) (uq qai) a (CY ⟨o,a,p,y⟩);have am:=Ps (l:=l) (f:=⟨o,a,p,y⟩) u;dsimp only at am;rw[am]at aj;have s:=ah.put aj ag;unfold CY at ab;dsimp only at ab;rw[V]at ab;have a8:blk<↑w:=(fO h.1)
 obtain⟨-,-,e2⟩:=iY hk.1;have a4:↑w<W.1.size:=by rw[Y];simp
 have zo:W.1[w.1.size]? =N (pj #[ox sr o,ox XX a,pk D,.bool y] 81 (0,0)):=by rw[Y];exact sv _ _
 let⟨z0,z1,z2,z3⟩:=iP zo;have v:w2.1[w.1.size]? =_:=oy (ag.5 _ (show _<W.1.size from a4) (by simp;have:=hm.lt;omega)) zo;obtain⟨-,y1,y2,y3⟩:=iP v;have x3:Z w2 ⟨blk,3,X⟩=N (ox pg (Dv.size l:Int)):=fZ s.1 rfl;have fz:=aM s.1;obtain⟨S,hS⟩:∃S,Dv.size l=S:=⟨_,R⟩
 have d:Dv.size (l++[⟨o,a,p,y⟩])=S+ot D:=by rw[Dv.size_append,hS,z]
 rw[hS]at x3 s aw;have a7:ot D<=65536:=by rw[z];exact r.2
 have H:qu _:=fE h (fE g (fE m (fE i (fE s (fE d (fE A (fE C (fE q (fE u (fE x (fE r (fE v (fE z b)))))))))))));have a1:blk≠w.1.size:=aA
 clear h g m i hk ah s d A C u x hm aj ag a2 am b az ap hS V q r zo v c1 z;go_enter (fq func114 R),ntmps114;go_upto_region 1 with fail;rw[<-Y];clear Y;go_cut [12] (λ_ j=>j=w2)
 case first=>
  go_region
  all_goals
   go_wp2;go_meet;rfl
 case rest=>
  subst hcut;clear e2 z0 z1 z2 z3 ab;go_upto_region 2 with fail;go_cut [16] (λ_ E=>qu (∃j,Below ↑wc wc j/\E=o3 j ⟨blk,3,X⟩ (ox pg ((S+ot D:Nat):Int))))
  case first=>
   go_region
   all_goals
    go_wp2;go_meet;exact⟨_,rk (aH _ _),by rw[Int.natCast_add];rfl⟩
  case rest=>
   obtain⟨W5,aa,rfl⟩:=hcut.out;let⟨h,g,m,i,s,d,A,C,q,u,x,r,v,z,b⟩:=H.out;have j:=(s.kept aa).size (S+ot D);have ac:(o3 W5 ⟨blk,3,X⟩ (ox pg ((S+ot D:Nat):Int))).1[w.1.size]? =_:=oy (oy (aR _ _ _ _ a1.symm) (aa.5 _ (fO v))) v;obtain⟨T,ae⟩:∃T,T=o3 W5 ⟨blk,3,X⟩ (ox pg ((S+ot D:Nat):Int)):=⟨_,R⟩
   rw[<-ae]at j ac⊢;obtain⟨-,y1,-,y3⟩:=iP ac;have ak:=CO (l:=l) (f:=⟨o,a,p,y⟩) u h.2.1;cases y
   .have G:=Ds (c:=⟨nm,op,l,pi⟩) (f:=⟨o,a,p,pi⟩) R;dsimp only at G;rw[G]at g m i b;rw[d]at b;have x3:Z T ⟨blk,3,X⟩=N (ox pg ((S+ot D:Nat):Int)):=fZ j.1 rfl;obtain⟨-,-,x2,-,-,-,x6⟩:=rD j.1;have af:=aM j.1;have E:qu _:=fE j (fE g (fE m (fE i (fE h.4 (fE A (fE C (fE d b)))))));clear h g m i s d A C q u x r v j ac ae aa hcut G ak fz z b;by_cases L:n<((S+ot D:Nat):Int)
    .have O:n<(S:Int)+(ot D:Int):=by omega
     go_wp2;go_end0;let⟨J,K⟩:=nS.RK E.1 E.2.2.2.2.1;let⟨k5,P,k2,k3,k4,k6,k7,k8,I⟩:=E.out;rw[Zb L]at I;exact⟨R,_,R,si I,rz R,J,K.mono (λk _ e=>e.imp id (λe=>by rw[e]))⟩
    .have ai:¬n<(S:Int)+(ot D:Int):=by omega
     go_wp2;go_end0;let⟨J,P,k2,I,k4,k6,k7,k8,K⟩:=E.out;rw[Za aA]at K;simp only[bE,if_false,Option.or_none]at I;refine⟨R,_,R,si K,rr R,nS.sound J k4 P k2 (by rw[I];exact k6) (λad O=>k7 ad (by rw[<-I];exact O)) (si k8) aA,J.3.mono (λk _ e=>e.imp id (λe=>by rw[e]))⟩
   .have hg:=Ke (c:=⟨nm,op,l,pi⟩) (f:=⟨o,a,p,pw⟩) R;dsimp only at hg;rw[hg]at g m i b
    have af:=Ox blk B nm op a pi en la _ T (by rw[d];exact j.1) j.2 ak (λan E=>by
     obtain E|E:=bV.1 E
     .exact h.3 an E
     .rw[bT.1 E];exact r) (by rw[d];omega)
    obtain⟨P,ai⟩:∃P:List F,P=(l++[(⟨o,a,p,pw⟩:F)]).filter (λan=>decide (an.2<=a)):=⟨_,R⟩
    rw[<-ai]at af g m i b;have ay:qu _:=λ(_:Unit)=>af
    have au:Dv.last l=X:=by
     cases E:Dv.last l with
     |none=>rfl
     |some a5=>have:=(x a5 E).1;cases this
    have a3:Dv.size P<=S+ot D:=by rw[ai,<-d];exact Dv.size_filter_le _ _
    obtain⟨K,ao⟩:∃K,Dv.size P=K:=⟨_,R⟩
    rw[ao]at a3 b;have H6:qu _:=fE j (fE g (fE m (fE i (fE r.1 (fE au (fE ao b))))));clear h g m i s d A C q u x r v j ac ae aa hcut hg ak fz z b af ai au;go_upto_region 5 with(first|(go_at_call 171;refine aO (ay ()) ?_;rintro e w7 ⟨rfl,J,av,aq⟩)|go_in)
    let⟨k5,k1,k2,G,L,k6,O,I⟩:=H6.out;rw[O]at J;have ar:nS w blk B nm op P K pw a w7:=⟨J,av,k5.3.trans aq (λ_ _ e=>e)⟩
    have x3:Z w7 ⟨blk,3,X⟩=N (ox pg (K:Int)):=fZ J rfl;obtain⟨-,-,x2,-,-,-,x6⟩:=rD J;have a6:=aM J;have ad:qu (nS _ _ _ _ _ _ _ _ _ _):=ar;clear J av aq ar k5 k1 k2 G L k6 O I;by_cases a0:n<(K:Int)
    .go_wp2;go_end0;let⟨k5,k1,k2,G,L,k6,O,I⟩:=H6.out;let⟨q1,q2⟩:=nS.RK ad L;rw[Zb a0]at I;exact⟨R,_,R,si I,rz R,q1,q2.mono (λk _ e=>e.imp id (λe=>by rw[e]))⟩
    .go_wp2;go_end0;let⟨k5,k1,k2,G,L,k6,O,I⟩:=H6.out;rw[Za aA]at I;rw[k6]at G;simp only[if_true,Option.none_or]at G;refine⟨R,_,R,si I,rr R,nS.sound ad L k1 k2 (by rw[G];rfl) (λa5 hn=>by rw[G]at hn;exact cR hn) (si O) aA,ad.3.mono (λk _ e=>e.imp id (λe=>by rw[e]))⟩
end
section
variable {m nm:AL}{k nb t b:Nat}{v vo:po}{Zn:Nat->Prop}{w w':pn}{o:PC}{os:List PC}{cs:Array po}{fz:Nat×Nat}
def iq(b:Nat):po:=pm (N ⟨b,0,X⟩)
structure Chs(w:pn)(nb:Nat)(vo:po)(nm:AL)(os:List PC):Prop where
 named:jh w nb sr nm
 order:fM w 197 1 vo (M os) (os.map λo=>iq o.1)
 chans:∀o∈os,jH w o
 apart:ww (os.map (·.1))
 maps:∀o o',o∈os->o'∈os->∀b,o.2=N b->o'.2=N b->o.1=o'.1
 far:∀o∈os,o.2≠N nb
 entries:∀p∈nm,∃o,o∈os/\p=(o.3.1,iq o.1)
def Own(nb:Nat)(vo:po)(os:List PC)(k:Nat):=k=nb\/ov vo=N k\/∃o,o∈os/\(k=o.1\/o.2=N k)
def gF(nm:AL)(o:PC):Bool:=match jB nm o.3.1 with
 |some (pm (N a))=>a.1 == o.1
 |_=>pi
def fS(nm:AL)(os:List PC):List Ch:=(os.filter (gF nm)).map (·.3)
def Er(h:jB m k=N v):(k,v)∈m:=by
 unfold jB at h;rw[aY]at h
 grind
def jH.gE(h:jH w o)(hc:fT Zn w w')(g:¬Zn o.1)(i:∀b,o.2=N b->¬Zn b):jH w' o:=by refine⟨oy (hc.5 _ (fO h.1) g) h.1,h.2,h.3,h.4,λj=>?_,h.6⟩;obtain⟨⟨B,e,a⟩,c,b,d,f⟩:=h.5 j;exact⟨⟨B,e,a.of_block (hc.5 _ a.lt (i B e))⟩,c,b,d,f⟩
def Chs.gE(h:Chs w nb vo nm os)(hc:fT Zn w w')(a:∀k,Own nb vo os k->¬Zn k):Chs w' nb vo nm os:=
 ⟨h.1.of_block (hc.5 _ h.1.lt (a _ (rr R))),h.2.gE hc (λg b=>a g (rz (rr b))),λo c=>(h.3 o c).gE hc (a _ (rz (rz ⟨o,c,rr R⟩))) (λb d=>a b (rz (rz ⟨o,c,rz d⟩))),h.4,h.5,h.6,h.7⟩
def Chs.fF(h:Chs w nb vo nm os)(a:Below ↑w w w'):Chs w' nb vo nm os:=h.gE (.fF a fI (λ_=>False)) (λ_ _ e=>e)
def Chs.iX(h:Chs w nb vo nm os)(a:Own nb vo os k):k<↑w:=by
 obtain rfl|a|⟨o,b,rfl|a⟩:=a
 .exact h.1.lt
 .exact h.2.lt a
 .exact(cH.1 (h.3 o b).1).1
 .cases c:o.3.4
  .obtain⟨⟨B,e,d⟩,_⟩:=(h.3 o b).5 c;rw[e]at a;cases a;exact d.lt
  .rw[((h.3 o b).6 c).2]at a;cases a
def Chs.iQ(h:Chs w nb vo nm os)(b:w.1[k]? =N (pj cs t fz))(g:t≠197)(i:t≠201):¬Own nb vo os k:=by
 rintro(rfl|e|⟨o,a,rfl|e⟩)
 .exact iB b h.1 R
 .let⟨c,hc⟩:=h.2.obj e
  grind
 .have hc:=(h.3 o a).1;unfold qF at hc
  grind
 .cases c:o.3.4
  .obtain⟨⟨B,d,f⟩,_⟩:=(h.3 o a).5 c;rw[d]at e;cases e;exact iB b f R
  .rw[((h.3 o a).6 c).2]at e;cases e
def Chs.get(h:Chs w nb vo nm os):jB nm n=X\/∃o,o∈os/\o.3.1=n/\jB nm n=N (iq o.1):=by
 cases a:jB nm n with
 |none=>exact rr R
 |some v=>
  let⟨o,b,e⟩:=h.7 _ (Er a)
  grind
def mE(h:jB nm o.3.1=N (iq b)):gF nm o=(b == o.1):=by unfold gF;rw[h];rfl
def oI(h:jB nm o.3.1=X):gF nm o=pi:=by unfold gF;rw[h]
def U8(w):(sizeOf 201).run PQ w=.ok 7 w:=Zm
def WC{a c d k tb}(i:w.1[a]? =N (pj c k (0,0)))(j:w.1[b]? =N (pj d tb (0,0))):(binOp .eql 197 (pm (N ⟨a,0,X⟩)) (pm (N ⟨b,0,X⟩))).run PQ w=.ok (.bool (a == b)) w:=by
 have f:(sameAddr ⟨a,0,X⟩ ⟨b,0,X⟩).run PQ w=.ok (a == b) w:=by
  by_cases e:a=b
  .subst e;rw[run_sameAddr_same];simp
  .rw[run_sameAddr_other w (a:=⟨a,0,X⟩) (b:=⟨b,0,X⟩) (λh=>e (Zf Addr.block h)) i j,show(a == b)=pi from Zc e]
 have g:(Op.equal 197 (pm (N ⟨a,0,X⟩)) (pm (N ⟨b,0,X⟩))).run PQ w=.ok (a == b) w:=by
  unfold Op.equal Op.maxDepth
  show(Op.equalIn (9999+1) _ _ _).run _ _=_
  unfold Op.equalIn;simp only[eM,vh (uq underlying197),wi,U8];simp[f]
 simp only[binOp];simp[g]
def LT:(binOp .eql 197 (pm X) (pm (N ⟨b,0,X⟩))).run PQ w=.ok (rh pi) w:=by
 have a:(Op.equal 197 (pm X) (pm (N ⟨b,0,X⟩))).run PQ w=.ok pi w:=by
  unfold Op.equal Op.maxDepth
  show(Op.equalIn (9999+1) _ _ _).run _ _=_
  unfold Op.equalIn;simp only[eM,vh (uq underlying197),wi];rfl
 simp only[binOp];simp[a]
structure Core(w:pn)(nb:Nat)(nm:AL)(os:List PC):Prop where
 named:jh w nb sr nm
 objs:∀o∈os,w.1[o.1]? =N (qF o)
 entries:∀p∈nm,∃o,o∈os/\p=(o.3.1,iq o.1)
def Chs.core(h:Chs w nb vo nm os):Core w nb nm os:=⟨h.1,λo a=>(h.3 o a).1,h.7⟩
def Core.get(h:Core w nb nm os):jB nm n=X\/∃o,o∈os/\o.3.1=n/\jB nm n=N (iq o.1):=by
 cases a:jB nm n with
 |none=>exact rr R
 |some v=>
  let⟨o,b,e⟩:=h.3 _ (Er a)
  grind
def Core.gE(h:Core w nb nm os)(hc:fT Zn w w')(b:¬Zn nb)(c:∀o∈os,¬Zn o.1):Core w' nb nm os:=
 ⟨h.1.of_block (hc.5 _ h.1.lt b),λo a=>oy (hc.5 _ (cH.1 (h.2 o a)).1 (c o a)) (h.2 o a),h.3⟩
def Core.drewN(h:Core w nb nm os)(m):Core (tj w m) nb nm os:=⟨h.1.of_block R,h.2,h.3⟩
def nZ(s nb i nm os o w)(h:Core w nb nm os)(e:o∈os)(p:Z w ⟨s,i,X⟩=N (.map (N nb))):tf PQ 104 #[pm (N ⟨s,i,X⟩),iq o.1] w λf w'=>f=qs (.bool (gF nm o))/\∃m,w'=tj w m:=by
 have d:=h.2 o e;have l:=kZ d;have b:=(h.1.of_block (w':=xp w) R).lookup (P:=PQ) (uq Zu) (uq XZ) (LX _) o.3.1 pi;simp only[bE,if_false]at b;obtain⟨r,c⟩:∃r,gF nm o=r:=⟨_,R⟩
 rw[c];unfold iq;obtain a|⟨k,j,n,a⟩:=h.get (n:=o.3.1)
 .rw[a]at b;simp only[Option.getD_none]at b;rw[oI a]at c;subst c;have g:=LT (w:=xp w) (b:=o.1);clear h e d a;go_enter (fq func104 R),ntmps104;go_wp2;go_region
  all_goals
   go_wp2;go_ret;exact⟨R,1,R⟩
 .rw[a]at b;simp only[cW]at b;unfold iq at b;rw[mE a]at c;have g:=WC (w:=xp w) (h.2 k j) d;rw[c]at g;clear h e d a c;go_enter (fq func104 R),ntmps104;go_wp2;go_region
  all_goals
   go_wp2;go_ret;exact⟨R,1,R⟩
end
open Dv (Zq)
open Fr (fG)
section
variable {w w':pn}{v:po}{g off cap j:Nat}
abbrev PU:=Zq×po×po
variable {ps:List PU}
def jT(p:PU):List po:=[ox pg p.1.1,ox pg p.1.2,p.2.1,p.2.2]
def iy(w:pn)(v:po)(ps:List PU):=Rd w 4 v (M ps) (ps.flatMap jT)/\∀p∈ps,lU w p.1 p.2.1 p.2.2
def iy.fF(h:iy w v ps)(a:Below ↑w w w'):iy w' v ps:=⟨Rd.fF h.1 a,λp b=>(h.2 p b).fF a⟩
def iy.get(h:iy w (U (N ⟨g,off,X⟩) (M ps) cap) ps){p}(a:ps[j]? =N p):Z w ⟨g,off+j*4,X⟩=N (ox pg p.1.1)/\Z w ⟨g,off+j*4+1,X⟩=N (ox pg p.1.2)/\Z w ⟨g,off+j*4+2,X⟩=N p.2.1/\Z w ⟨g,off+j*4+3,X⟩=N p.2.2:=by
 have k:=λi u hi (b:(jT p)[i]? =N u)=>Rd.rec jT 4 (λ_=>R) h.1 a hi b;exact⟨k 0 _ aA R,k 1 _ aA R,k 2 _ aA R,k 3 _ aA R⟩
def C7(us:List Zq)(i u)(c:us[i]? =N u)(b):gP b (us.drop i)=(jo b u&&gP (N u.2) (us.drop (i+1))):=by obtain⟨a,rfl⟩:=aJ.1 c;rw[Y1 a,gP]
def HH(us i)(h:M us<=i)(b):gP b (us.drop i)=pw:=by rw[List.drop_eq_nil_of_le h,gP]
def Bo(v ps w)(h:iy w v ps)(hl:M ps<=4294967296):tf PQ 37 #[v] w λe w'=>e=qs (.bool (gB (ps.map p9)))/\Below w.1.size w w':=by
 obtain⟨K,u⟩:∃K,gB (ps.map p9)=K:=⟨_,R⟩
 rw[u]
 have c:gB (ps.map p9)=((decide ((1:Int)<=M ps)&&decide ((M ps:Int)<=60))&&gP X (ps.map p9)):=by
  unfold gB;rw[aV,Bool.decide_and]
  congr 2
  .exact decide_eq_decide.2 aA
  .exact decide_eq_decide.2 aA
 rw[u]at c;have O:=λW=>jW (M ps) 1 60 W;obtain⟨b1,t⟩:∃A,(decide ((1:Int)<=M ps)&&decide ((M ps:Int)<=60))=A:=⟨_,R⟩
 rw[t]at O c;have z:qu _:=O;clear O u;cases b1
 .obtain⟨d,cap,rfl⟩:=Rd.slice h.1;have a:qu _:=c;clear c t h;go_enter (fq func37 R),ntmps37;go_wp2_with (go_at_call 66;refine aO (z _) ?_;rintro e w2 ⟨rfl,b⟩;obtain rfl:=si b)
  go_ret;exact⟨by rw[a.out];rfl,aH _ _⟩
 .have h1:1<=M ps/\M ps<=60:=by
   simp only[bN,Zh]at t;omega
  obtain⟨g,off,cap,rfl,an,hg,_⟩:=Rd.pos h.1 aA;obtain⟨j,d⟩:∃p,ps[0]? =N p:=⟨_,aK aA⟩
  let⟨I,J,x,y⟩:=h.get d;simp only[Nat.zero_mul,qaP]at I J x y;have G:(ps.map p9)[0]? =N j.1:=by rw[cT,d];rfl
  have f:=λW P=>first_any _ _ _ W ((h.2 j (aS d)).fF P);have B:=C7 _ 0 _ G X;rw[qaJ,GB]at B;rw[B]at c;obtain⟨b2,b⟩:∃A,qh j.1=A:=⟨_,R⟩
  rw[b]at f c;unfold uN at f;let⟨Y,tc,n⟩:=Rd.slice (h.2 j (aS d)).1;let⟨T,V,l⟩:=Rd.slice (h.2 j (aS d)).2.1;rw[n]at f x;rw[l]at f y;have L:qu _:=f;have ah:(1:Int)<=M ps:=aA
  have ai:(M ps:Int)<=cap:=aA
  have ao:(0:Int)<M ps:=aA
  cases b2
  .have a:qu _:=c;clear c t h f B G n l d;go_enter (fq func37 R),ntmps37;go_wp2_with (first|(go_at_call 66;refine aO (z _) ?_;rintro e w2 ⟨rfl,i⟩;obtain rfl:=si i)|(go_at_call 67;refine aO (L _ ?_) ?_;exact aH _ _;rintro e w2 ⟨rfl,b⟩)|fail)
   go_ret;exact⟨by rw[a.out];rfl,b⟩
  .have S:0<=j.1.2/\j.1.2<=1000000:=by
    unfold qh at b;simp only[bN,Zh]at b;exact b.1
   by_cases ad:cap=1
   .have k:M ps=1:=by omega
    have u:K=pw:=by
     rw[c,HH _ _ (by rw[aV];omega)];rfl
    subst ad;have i:qu _:=u;rw[k]at z⊢;clear c t h f B G n l d S u;go_enter (fq func37 R),ntmps37;go_wp2_with (first|(go_at_call 66;refine aO (z _) ?_;rintro e w2 ⟨rfl,m⟩;obtain rfl:=si m)|(go_at_call 67;refine aO (L _ ?_) ?_;exact aH _ _;rintro e w2 ⟨rfl,b⟩)|fail)
    have a:qu _:=b;clear b;go_loopg [3,4,19] 0 (λr _ _ o q=>o=ox pg 0/\q=w2)
    case atStart=>exact⟨R,R⟩
    case round=>
     obtain⟨rfl,rfl⟩:=hrel;go_wp2;go_ret;exact⟨by rw[i.out];rfl,a⟩
   .have Hd:qu _:=c;have H:qu _:=fE h (fE d S);clear c t h f B G n l d S;go_enter (fq func37 R),ntmps37;go_wp2_with (first|(go_at_call 66;refine aO (z _) ?_;rintro e w2 ⟨rfl,af⟩;obtain rfl:=si af)|(go_at_call 67;refine aO (L _ ?_) ?_;exact aH _ _;rintro e w2 ⟨rfl,b⟩)|fail)
    have ab:qu _:=b;clear b I J x y;go_loopg [3,4,19] (M ps) (λa _ _ k m=>∃(i:Nat)(p:PU),i+1<=M ps/\k=ox pg i/\a=M ps-i/\qu (ps[i]? =N p/\(0<=p.1.2/\p.1.2<=1000000+24*i)/\K=gP (N p.1.2) ((ps.map p9).drop (i+1))/\Below ↑w w m))
    case atStart=>exact⟨0,j,aA,R,R,H.2.1,by have:=H.2.2;omega,by rw[Hd.out];simp,ab⟩
    case round=>
     obtain⟨i,p,hi,rfl,rfl,HI⟩:=hrel;let⟨D,F,C,k⟩:=HI.out;by_cases ae:i+1<M ps
     .obtain⟨q,m⟩:∃q,ps[i+1]? =N q:=⟨_,aK ae⟩
      have r:=H.1.fF k;let⟨I,J,x,y⟩:=r.get m;obtain⟨_,kt,_,_⟩:=r.get D;rw[show off+(i+1)*4=off+4+i*4 from by omega]at I J x y;let⟨Y,tc,n⟩:=Rd.slice (r.2 q (aS m)).1;let⟨T,V,l⟩:=Rd.slice (r.2 q (aS m)).2.1;have o:=λW P=>next_any p.1.2 _ _ _ W ((r.2 q (aS m)).fF P) aA;have E:=C7 (ps.map p9) (i+1) q.1 (by rw[cT,m];rfl) (N p.1.2);rw[J0]at E;obtain⟨b3,Q⟩:∃A,tN p.1.2 q.1=A:=⟨_,R⟩
      rw[Q]at o E;unfold uN at o;rw[n]at o x;rw[l]at o y;obtain⟨W,s,a,-⟩:=fL wr #[ox pg q.1.1,ox pg q.1.2,U Y (M q.1.3) tc,U T (M q.1.4) V] 42;have ap:=oy (qi a (p:=⟨g,_,X⟩) (by have:=k.4;show g<_;omega)) kt;have z0:Z W ⟨↑wr,0,X⟩=N (ox pg q.1.1):=by rw[s];simp
      have z1:Z W ⟨↑wr,1,X⟩=N (ox pg q.1.2):=by rw[s];simp
      have z2:Z W ⟨↑wr,2,X⟩=N (U Y (M q.1.3) tc):=by rw[s];simp
      have z3:Z W ⟨↑wr,3,X⟩=N (U T (M q.1.4) V):=by rw[s];simp
      have C3:qu _:=o;have aa:qu _:=fE E (fE C (fE m (fE k (fE Q (fE F a)))));have aj:(i:Int)<M ps-1:=aA
      have ak:(i:Int)<M ps:=aA
      clear o E C m n l r D k Q F;have am:i<M ps-1:=aA
      go_upto_region 6 with fail;rw[<-s];clear s;have ag:=aH ↑W W;cases b3
      .go_region_with (go_at_call 68;(refine aO (C3 _ ?_) ?_;(first|exact a|exact rk a|exact fG a _);rintro e w5 ⟨rfl,ac⟩))
       all_goals
        go_wp2;go_ret;let⟨q1,q2,q3,q4,q5,q6,q7⟩:=aa.out;refine⟨by rw[q2,q1];rfl,ow q4 (o5 (ow ?_ (o5 ac ?_)) q4.4)⟩
        .first|exact a|exact rk a|exact fG a _
        .first|exact a.4|exact a.drew.size|exact(fG a _).size
      .go_region_with (go_at_call 68;(refine aO (C3 _ ?_) ?_;(first|exact a|exact rk a|exact fG a _);rintro e w5 ⟨rfl,ac⟩))
       all_goals
        go_wp2;go_roundg (M ps-(i+1))
        case measure=>omega
        case rel=>
         let⟨q1,q2,q3,q4,q5,q6,q7⟩:=aa.out;refine⟨_,q,aA,by go_num,R,q3,?_,by rw[q2,q1];rfl,ow q4 (o5 (ow ?_ (o5 ac ?_)) q4.4)⟩
         .unfold tN at q5;simp only[bN,Zh]at q5;omega
         .first|exact a|exact rk a|exact fG a _
         .first|exact a.4|exact a.drew.size|exact(fG a _).size
     .have a:¬i<M ps-1:=by omega
      clear D F C k;go_wp2;go_ret;let⟨D,F,C,k⟩:=HI.out;refine⟨?_,k⟩;rw[C,HH _ _ (by rw[aV];omega)];rfl
end
open Go.RowKit
section
variable {Zn:Nat->Prop}{α:Type}{P:th}{g:Nat}{lb:Array po}{w:pn}
def pR{a b}(h:fT Zn a b)(l o)(c:l<a.1.size):fT Zn (rq a l o) (rq b l o):=
 ⟨h.1,h.2,h.3,by simpa using h.4,λk d f=>by
  by_cases e:l=k
  .subst e;rw[wh c,wh (aL c h.4)]
  .rw[sa (Ne.symm e),sa (Ne.symm e)];exact h.5 k ky f⟩
def Mt{α:Type}(P:th)(g:Nat)(lb:Array po)(encs:α->Array po)(Zn:Nat->Prop)(St En:List α->pn->Prop)(Y:List α->α->Nat->pn->Prop)(S h:List α->Prop):=
 ∀(l:Nat)(J f:List α->pn->Prop)(W:pn),(∀k,Zn k->k<l)->l<↑W->St [] W->
  (∀pre x a c,J pre a->fT Zn a c->Y pre x ↑a c->YieldAt vq 1 P l (encs x) c λe b=>
   (e=qs (rh pw)/\J (pre++[x]) b/\↑c<=b.1.size/\St (pre++[x]) b/\∀k,a.1.size<=k->k<c.1.size->b.1[k]? =c.1[k]?)\/(e=qs (rh pi)/\f (pre++[x]) b))->
  J [] W->
  CallsIn vq 2 P g (#[.func (.yield l) #[] #[]]++lb) W λe b=>(∃v,e=qs v)/\((∃d a,S d/\J d a/\fT Zn a b/\En d b)\/(∃pre a,h pre/\f pre a/\fT Zn a b))
def Tw{α:Type}(B c b:Nat)(St I:List α->pn->Prop)(a:vy->List α->pn->Prop)(xs:List α)(W:pn):qaC->Act->pn->Prop
 |.normal,_,W'=>YC B W W'/\St xs W'/\(∀k,c<=k->k<b->W'.1[k]? =W.1[k]?)/\I xs W'
 |.ret,_,W'=>YC B W W'/\a .ret xs W'
 |.exit id,_,W'=>YC B W W'/\a (.exit id) xs W'
 |.goto t,_,W'=>YC B W W'/\a (.goto t) xs W'
 |.panic _,_,_=>False
 |.outgrown,_,_=>False
def Gg{α:Type}(P:th)(g:Nat)(lb:Array po)(encs:α->Array po)(Zn:Nat->Prop)(E:pn->pn->Prop)(St En:List α->pn->Prop)(Y:List α->α->Nat->pn->Prop)(S h:List α->Prop):=
 ∀(l:Nat)(J f:List α->pn->Prop)(W:pn),(∀k,Zn k->k<l)->l<↑W->St [] W->
  (∀pre x a c,J pre a->fT Zn a c->E a c->Y pre x ↑a c->YieldAt vq 1 P l (encs x) c λe b=>
   (e=qs (rh pw)/\J (pre++[x]) b/\↑c<=b.1.size/\St (pre++[x]) b/\∀k,a.1.size<=k->k<c.1.size->b.1[k]? =c.1[k]?)\/(e=qs (rh pi)/\f (pre++[x]) b))->
  J [] W->
  CallsIn vq 2 P g (#[.func (.yield l) #[] #[]]++lb) W λe b=>(∃v,e=qs v)/\((∃d a,S d/\J d a/\fT Zn a b/\E a b/\En d b)\/(∃pre a,h pre/\f pre a/\fT Zn a b/\E a b))
def Mw{encs:α->Array po}{St En Y S a}(h:Mt P g lb encs Zn St En Y S a):Gg P g lb encs Zn (λ_ _=>True) St En Y S a:=λo J b W j k l m n=>
 (h o J b W j k l (λpre x c d e f i=>m pre x c d e f trivial i) n).mono λ_ _ q=>⟨q.1,q.2.imp (λ⟨p,c,d,e,f,i⟩=>⟨p,c,d,e,f,trivial,i⟩) (λ⟨p,c,d,e,f⟩=>⟨p,c,d,e,f,trivial⟩)⟩
def sO{g:ZT}{ps:Array Tmp}{assign body:vy}{Q:qaC->Act->pn->Prop}{f:Act}{gf:Nat}(hg:f.eval g=.func (.func gf) #[] lb)(eg:∀a w,(callFunc gf a).run P w=.ok (.enter gf a) w){encs:α->Array po}{E:pn->pn->Prop}{St En:List α->pn->Prop}{Y:List α->α->Nat->pn->Prop}{S J:List α->Prop}(aq:Gg P gf lb encs Zn E St En Y S J)(z:∀k,Zn k->k<w.1.size)(y:∀(a B:pn)(l:Nat)(o:ZG),↑w<=l->E a B->E (rq a l o) (rq B l o))(A:YM ↑w St)(af:YM ↑w En)(hY:∀b,YM ↑w (λ(a:List α×α) W=>Y a.1 a.2 b W))(an:∀x,qd (encs x)=qd ps)(I:List α->pn->Prop)(q:vy->List α->pn->Prop)(m:YM ↑w I)(s:∀a,YM ↑w (q a))(h0:I [] w)(ao:St [] w)(O:α->Nat->Act)(al:α->pn->pn)(r:∀x W k,k<W.1.size->(al x W).1[k]? =W.1[k]?)(ae:∀x W,W.1.size<=(al x W).1.size)(ad:∀x W l o,l<W.1.size->rq (al x W) l o=al x (rq W l o))(ag:∀(l:Nat)(x:α)(W:pn)(K:Act->pn->Prop),K (O x W.1.size) (al x W)->assign.wpIn (zz vq l) 1 P (Exit.then K (λ_ _ _=>False)) ⟨(ps.zip (encs x)).foldl (λt (p,v)=>qb t p v) f.1,[]⟩ W)(ah:∀(l:Nat)(pre:List α)(x:α)(b a:pn),w.1.size<=l->l<b.1.size->(∃d,a.1[l]? =N (.loop d))->I pre b->fT Zn b a->E b a->Y pre x ↑b a->body.wpIn (zz vq l) 1 P (Tw ↑w ↑b a.1.size St I q (pre++[x]) (al x a)) (O x a.1.size) (al x a))(aj:∀(D:Nat)(b:List α)(a W:pn),w.1.size<=D->D<a.1.size->S b->I b a->fT Zn a W->E a W->En b W->W.1[D]? =N (uu (N []))->Q .normal { f with defers:={ target:=.collected D,args:=#[] }::f.2 } W)(ar:∀(D:Nat)(b:vy)(pre:List α)(a W:pn),w.1.size<=D->D<a.1.size->J pre->q b pre a->fT Zn a W->E a W->W.1[D]? =N (uu (N []))->b.wpIn vq 3 P Q { f with defers:={ target:=.collected D,args:=#[] }::f.2 } W):(Code.rangeFunc g ps assign body).wpIn vq 3 P Q f w:=by
 refine wpIn_rangeFunc λfn ak=>?_;obtain⟨c,e⟩:∃c:LoopState->Option vy->Loop,c=λst pe=>{ state:=st,pending:=pe,fn,tmps:=f.1,params:=ps,assign,body,defers:=w.1.size }:=⟨_,R⟩
 obtain⟨V,n⟩:∃V,o6 (o6 w (uu (N []))) (.loop (c .ready X))=V:=⟨_,R⟩
 have vl:V.1[w.1.size+1]? =N (.loop (c .ready X)):=by
  have:=YZ (o6 w (uu (N []))) (.loop (c .ready X));rw[cQ,n]at this;exact this
 have vd:V.1[w.1.size]? =N (uu (N [])):=by rw[<-n];exact oy (aU _ _ _ aC) (YZ w _)
 have vI:I [] V:=by rw[<-n];exact YO m _ (YO m _ h0)
 have vS:St [] V:=by rw[<-n];exact YO A _ (YO A _ ao)
 have F:¬Zn (w.1.size+1):=λh=>by have:=z _ h;omega
 have nd:¬Zn w.1.size:=λh=>by have:=z _ h;omega
 refine⟨w.1.size+1,[{ target:=.collected ↑w,args:=#[] }],V,{ target:=.fn (.func gf) lb,args:=#[.func (.yield (w.1.size+1)) #[] #[]] },V,gf,
  #[.func (.yield (w.1.size+1)) #[] #[]]++lb,V,?_,?_,λ_ _=>trivial,by simp[invoke,go_sem,eg],λh=>oj,?_⟩
 .rw[<-n,e];exact run_enterLoop_outer _ _ _ _ _
 .simp only[resolve,hg];simp[go_sem]
 refine(aq _
  (λpre W=>I pre W/\W.1[w.1.size+1]? =N _/\W.1[w.1.size]? =N _)
  (λpre W=>∃a,q a pre W/\W.1[w.1.size+1]? =N (.loop (c .done (N a)))/\W.1[w.1.size]? =N (uu (N []))) V (λk a=>by have:=z k a;omega) (fO vl) vS ?_ ⟨vI,vl,vd⟩).mono ?_
 .rintro pre x L i ⟨i0,D,d0⟩ B he hy;have aa:=(fO D)
  have p:=oy (B.5 _ aa F) D;have d1:=oy (B.5 _ (by omega:↑w<L.1.size) nd) d0;have u:=(fO p)
  have H:=run_yield (P:=P) (args:=encs x) p (by rw[e];exact an x);rw[e]at H;refine⟨fn,_,assign,body,H,roundIn_of_wpIn ak (ag _ x i _ ⟨_,run_beginRound (oy (r _ _ _ u) p) (by rw[e]),?_⟩)⟩;clear H;rw[ad _ _ _ _ u];obtain⟨o,d⟩:∃o:ZG,Obj.loop { c .ready X with state:=.busy }=o:=⟨_,R⟩
  rw[d];have b1:=pR B _ o aa
  have y1:Y pre x (rq L (w.1.size+1) o).1.size (rq i (w.1.size+1) o):=by
   rw[Yt];exact ve (hY _) (s:=(pre,x)) o hy aA p R
  have C:=ah _ pre x _ _ aA aD ⟨_,oy (wh u) (Zf N (si d))⟩ (ve m o i0 aA D R) b1 (y _ _ _ _ aA he) y1;simp only[Yt]at C;refine wpIn_mono C ?_;clear C;have am:(al x (rq i (w.1.size+1) o)).1[w.1.size+1]? =N o:=oy (r _ _ _ aD) (wh u);have ai:(al x (rq i (w.1.size+1) o)).1[w.1.size]? =N (uu (N [])):=oy (r _ _ _ aD) (oy (sa aA) d1);have ap:=ae x (rq i (w.1.size+1) o)
  have fin:∀(b:Option vy)(a:pn),YC ↑w (al x (rq i (w.1.size+1) o)) a->
    (Instr.endRound (w.1.size+1) b).run P a=.ok (.bool (za b)) (rq a (w.1.size+1) (.loop (c (if za b then .ready else .done) b)))/\
    a.1[w.1.size+1]? =N o/\
    (rq a (w.1.size+1) (.loop (c (if za b then .ready else .done) b))).1[w.1.size+1]? =N (.loop (c (if za b then .ready else .done) b))/\
    (rq a (w.1.size+1) (.loop (c (if za b then .ready else .done) b))).1[w.1.size]? =N (uu (N [])):=λb a T=>by
   have G:=T.2 _ _ aA am (by rw[<-d];rfl);have q2:=T.2 _ _ fI ai R;have ab:=G;rw[<-d]at ab;have:=run_endRound (P:=P) b ab;refine⟨?_,G,wh (fO G),oy (sa aA) q2⟩;rw[e]at this⊢;exact this
  rintro ac a3 a j;cases ac with
  |normal=>
   obtain⟨k3,kk,kx,i3⟩:=j;let⟨hr,l3,l4,d4⟩:=fin X a k3;refine⟨_,_,hr,rr ⟨R,⟨ve m _ i3 aA l3 (by rw[<-d];rfl),l4,d4⟩,by have:=k3.1;simp at ap⊢;omega,ve A _ kk aA l3 (by rw[<-d];rfl),λk h1 t=>by rw[sa aA,kx k h1 t,r _ _ _ (by rw[Yt];exact t),sa aA]⟩⟩
  |ret=>
   obtain⟨k3,i3⟩:=j;let⟨hr,l3,l4,t⟩:=fin (N .ret) a k3;exact mb
  |exit id=>
   obtain⟨k3,i3⟩:=j;let⟨hr,l3,l4,t⟩:=fin (N (.exit id)) a k3;exact mb
  |goto t=>
   obtain⟨k3,i3⟩:=j;let⟨hr,l3,l4,d4⟩:=fin (N (.goto t)) a k3;exact⟨_,_,hr,rz ⟨R,_,ve (s _) _ i3 aA l3 (by rw[<-d];rfl),l4,d4⟩⟩
  |panic ch=>exact sj j
  |outgrown=>exact sj j
 .rintro L H ⟨⟨v,rfl⟩,(⟨G,d,o,⟨t,b,j⟩,a,p,D⟩|⟨pre,d,o,⟨i,t,b,j⟩,a,p⟩)⟩
  .have B:=(fO b)
   have u:=oy (a.5 _ B F) b;have C:=oy (a.5 _ (by omega:↑w<d.1.size) nd) j;refine⟨X,_,by have:=run_endLoop (P:=P) u oe;exact my,?_⟩;exact aj _ G _ _ fI aD o (ve m _ t aA b R) (pR a _ _ B) (y _ _ _ _ aA p) (ve af _ D aA u R) (oy (sa aA) C)
  .have u:=(fO b)
   have C:=oy (a.5 _ u F) b;have B:=oy (a.5 _ (by omega:↑w<d.1.size) nd) j;refine⟨N i,_,by have:=run_endLoop (P:=P) C oe;exact my,?_⟩;exact ar _ i pre _ _ fI aD o (ve (s i) _ t aA b R) (pR a _ _ u) (y _ _ _ _ aA p) (oy (sa aA) B)
end
end Hm
namespace Dv
open Fr (F)
section
variable {b:Option Int}{u:Zq}{l:List Zq}
def iG{r}(h:gP b (u::r)=pw):jo b u=pw/\gP (N u.2) r=pw:=by simpa[gP]using h
def zM(h:jo b u=pw):small u=pw:=by unfold jo at h;simp only[bN]at h;exact h.2
def uS:∀(l b),gP (N b) l=pw->∀k<M l,b+(k:Int)<(l[k]!).2/\(l[k]!).2<=b+24*((k:Int)+1)
 |[],_,_,k,hk=>by simp at hk
 |u::r,b,h,0,_=>by
  have a:=(iG h).1;unfold jo at a;simp only[bN,Zh]at a;simp only[List.getElem!_cons_zero];omega
 |u::r,b,h,k+1,hk=>by
  have a:=(iG h).1;unfold jo at a;simp only[bN,Zh]at a;have:=uS r u.2 (iG h).2 k (by simpa using hk);simp only[eX];omega
def uU:∀(l b),gP b l=pw->∀i j,i<j->j<M l->(l[i]!).2+((j:Int)-(i:Int))<=(l[j]!).2/\(l[j]!).2<=(l[i]!).2+24*((j:Int)-(i:Int))
 |[],_,_,_,j,_,hj=>by simp at hj
 |u::r,b,h,0,j+1,_,hj=>by
  have:=uS r _ (iG h).2 j (by simpa using hj);simp only[List.getElem!_cons_zero,eX];omega
 |u::r,b,h,i+1,j+1,hij,hj=>by
  have:=uU r (N u.2) (iG h).2 i j aA (by simpa using hj);simp only[eX];omega
def jq:∀(l b),gP b l=pw->∀k<M l,small (l[k]!)=pw
 |[],_,_,k,hk=>by simp at hk
 |u::r,b,h,0,_=>zM (iG h).1
 |u::r,b,h,k+1,hk=>by
  rw[eX];exact jq r _ (iG h).2 k (by simpa using hk)
def gJ(h:gB l=pw):1<=M l/\M l<=60/\gP X l=pw/\0<=(l[0]!).2/\(l[0]!).2<=1000000:=by
 unfold gB at h;simp only[bN,Zh]at h;obtain⟨⟨a,c⟩,b⟩:=h;refine⟨a,c,b,?_⟩;cases l with
 |nil=>simp at a
 |cons u r=>
  have:=(iG b).1;unfold jo at this;simp only[bN,Zh]at this;simpa using this.1
def mT(h:gB l=pw){i j}(a:i<=j)(b:j<M l):(l[i]!).2+((j:Int)-(i:Int))<=(l[j]!).2/\(l[j]!).2<=(l[i]!).2+24*((j:Int)-(i:Int)):=by
 obtain c|rfl:=eY a
 .exact uU l X (gJ h).2.2.1 i j c b
 .omega
def A4(h:gB l=pw){i}(a:i<M l):0<=(l[i]!).2/\(l[i]!).2<=1001440:=by have b:=gJ h;have c:=mT h (bU i) a;omega
section
variable (c:Cf)(chain:List Zq)(n:Nat)
def xE(e t):∀l:List Ba,M (sift c chain n e t l).2<=M l
 |[]=>by simp[sift]
 |b::r=>by
  have ih:=xE e t r;rw[sift]
  repeat' split
  all_goals simp only[aP]
  all_goals omega
def pG(e t):∀(l x),x∈(sift c chain n e t l).2->x∈l
 |[],x,h=>by simp[sift]at h
 |b::r,x,h=>by
  have ih:=pG e t r x;rw[sift]at h;split at h
  .grind
  .grind
def yI(e t):∀(l b),(sift c chain n e t l).1=.got b->b∈l/\(b.3:Int)=t/\e<=b.1/\b.1<=e+1/\(b.1:Int)+c.4≥(b.5:Int)/\holds c chain n e t b=pi/\wrong c chain e t b=pi/\M (sift c chain n e t l).2+1<=M l
 |[],b,h=>by simp[sift]at h
 |x::r,b,h=>by
  have ih:=yI e t r b;rw[sift]at h⊢;split at h
  .grind
  .rename_i g;rw[Za g];split at h
   .grind
   .rename_i a;rw[Za a];split at h
    .cases h
    .rename_i d;rw[Za d];split at h
     .grind
     .rename_i f;rw[Za f];cases h;simp only[late,Bool.or_eq_true,Zh,not_or]at a;exact⟨bY ..,aA,aA,aA,aA,ky,mw,aC⟩
def EY(h wait):M (draw c chain n h wait).2<=M wait:=by
 have:=xE c chain n h.3 (h.2+c.6) wait;unfold draw;simp only;split
 .exact this
 .exact this
 .split<;>exact this
def pQ{h x wait k}(hc:gB chain=pw)(d:fR c=pw)(i:n<M chain)(m:h.3<=n)(a:draw c chain n h wait=(N x,k)):h.3<=x.3/\x.3<=h.3+1/\x.3<=n/\x.2=h.2+c.6/\x.1=h.1+1/\x.8=n/\x.4=(chain[x.3]!).1/\M k+1+(n-x.3)+vv ((chain[n]!).2-x.2)<=M wait+(n-h.3)+vv ((chain[n]!).2-h.2):=by
 unfold fR at d;simp only[Zh]at d;have o:=xE c chain n h.3 (h.2+c.6) wait;unfold draw at a;simp only at a;split at a
 .simp at a
 .rename_i b f;simp only[bR,aI]at a;obtain⟨rfl,rfl⟩:=a;obtain⟨_,_,j,l,_,e,_,p⟩:=yI c chain n _ _ _ _ f
  have g:b.1<=n:=by
   unfold holds at e;simp only[dS,eP,beq_eq_false_iff_ne,Zi]at e;omega
  simp only[lay];refine⟨j,l,g,trivial,trivial,trivial,trivial,?_⟩;omega
 .split at a
  .simp at a
  .rename_i hw;simp only[bR,aI]at a;obtain⟨rfl,rfl⟩:=a;simp only[lay];by_cases b:(chain[h.3+1]!).2<=h.2+c.6
   .grind
   .rw[Za b];have:=mT hc (i:=h.3+1) (j:=n) aA i;refine⟨aA,aA,aA,trivial,trivial,trivial,trivial,?_⟩;omega
def rQ(hc:gB chain=pw)(d:fR c=pw)(e:n<M chain):∀(f b h a),h.3<=n->left chain n h a<f->left chain n h a<b->draws c chain n f h a=draws c chain n b h a
 |0,_,_,_,_,h,_=>aA
 |_,0,_,_,_,_,h=>aA
 |f+1,b+1,h,a,he,h1,h2=>by
  rw[draws,draws];cases g:draw c chain n h a with
  |mk o k=>
   cases o with
   |none=>rfl
   |some x=>
    have i:=pQ c chain n hc d e he g;unfold left at h1 h2;have ih:=rQ hc d e f b x k aA (by unfold left;omega) (by unfold left;omega);simp only[ih]
def uR(hc:gB chain=pw)(b:fR c=pw)(e:n<M chain):∀(f h a),h.3<=n->
  let r:=draws c chain n f h a
  let z:=wm (h::r.1) default
  z.3<=n/\h.3<=z.3/\z.2=h.2+c.6*(M r.1:Int)/\z.1=h.1+M r.1/\M r.2+M r.1+(n-z.3)+vv ((chain[n]!).2-z.2)<=M a+(n-h.3)+vv ((chain[n]!).2-h.2)
 |0,h,a,he=>by simp[draws];exact he
 |f+1,h,a,he=>by
  rw[draws];cases d:draw c chain n h a with
  |mk o k=>
   cases o with
   |none=>
    have:=EY c chain n h a;rw[d]at this;simp only[List.getLastD_cons,List.getLastD_nil,bH]at this⊢;refine⟨he,fI,aA,aA,aA⟩
   |some x=>
    have g:=pQ c chain n hc b e he d;have ih:=uR hc b e f x k aA;simp only[List.getLastD_cons,aP]at ih⊢;obtain⟨i,l,j,m,o⟩:=ih;refine⟨i,aA,?_,aA,aA⟩;rw[j,g.2.2.2.1]
    push_cast
    rw[Int.mul_add];omega
end
def Bc:∀(f s p l),p<=M s->Fr.rest f s p=N l->p+9*M l<=M s
 |0,s,p,l,hp,h=>by
  simp only[Fr.rest]at h;split at h
  .grind
  .simp at h
 |f+1,s,p,l,hp,h=>by
  rw[Fr.rest]at h;split at h
  .grind
  .cases a:Fr.one s p with
   |none=>rw[a]at h;simp at h
   |some x=>
    obtain⟨x,n⟩:=x;rw[a]at h;simp only at h;obtain⟨t,c,rfl⟩:=aY.1 h;have b:=Fr.one_le a;have:=Bc f s _ t b.2 c;simp only[aP];omega
def uT(s):9*M ((Fr.frames s).getD [])<=M s:=by
 cases h:Fr.frames s with
 |none=>simp
 |some l=>
  unfold Fr.frames at h;split at h
  .simp at h
  .rename_i a;have:=Bc _ _ _ _ aA h;simp only[cW];omega
def pA(c t)(h:M t.3<=2000):M (jQ c t)<=222:=by
 unfold jQ;split
 .have:=uT t.3;omega
 .simp
def Bj(c):∀(l),(∀t∈l,M t.3<=2000)->M (heard c l)<=222*M l
 |[],_=>by simp[heard]
 |t::l,h=>by
  have ih:=Bj c l (λx a=>h x (bK _ a));have b:=pA c t (h t (bY ..));unfold heard at ih⊢;rw[dQ,aN,aP];omega
def lN(h:small u=pw):M u.3<=20/\M u.4<=20/\(∀t∈u.3,M t.3<=2000)/\(∀s∈u.4,M s<=2000):=by unfold small at h;simp only[bN,Zh,cU]at h;exact⟨h.1.1.1,h.1.1.2,h.1.2,h.2⟩
def uV(c)(h:small u=pw):M (heard c u.3)<=4440:=by have a:=lN h;have:=Bj c _ a.2.2.1;omega
def AH(a n cs f):M (frame a n cs f)<=M cs+1:=by
 unfold frame;split
 .grind
 .simp
def pq(b n):∀(l a),M (l.foldl (frame b n) a)<=M a+M l
 |[],a=>aC
 |f::l,a=>by
  have c:=pq b n l (frame b n a f);have d:=AH b n a f;simp only[List.foldl_cons,aP];omega
def yW:∀a:List Ch,M (pull a).1+M (pull a).2=M a
 |[]=>by simp[pull]
 |c::a=>by
  rw[pull];split
  .simp
  .have:=yW a;simp only[aP];omega
def lJ:∀(f s a out),(M out:Int)<=max a 0->(M (Sq.spread f s a out).1:Int)<=max a 0
 |0,_,_,out,h=>h
 |f+1,s,a,out,h=>by
  rw[Sq.spread];split
  .exact h
  .split
   .exact h
   .split
    .grind
    .rename_i b;exact lJ f _ _ _ (by grind)
def KX:∀(f s n),M (rd f s n)<=f
 |0,_,_=>by simp[rd]
 |f+1,s,n=>by
  rw[rd];split
  .simp
  .split
   .simp
   .split
    .simp
    .rename_i _ i k _ _ b _;have:=KX f (s.drop k) n;rw[aN];split<;>simp only[aP,bH]<;>omega
def Bu(s n):M (reads s n)<=4096:=by have a:=KX (M (Sq.spread (M s) s 4096 []).1) (Sq.spread (M s) s 4096 []).1 n;have b:=lJ (M s) s 4096 [] (by grind);unfold reads;omega
def qX(n):∀l:List (List UInt8),M (l.flatMap (λs=>reads s n))<=4096*M l
 |[]=>aC
 |s::l=>by
  have a:=qX n l;have b:=Bu s n;rw[dQ,aN,aP];omega
def take_len(c u n cs wait)(a:small u=pw):4096*M (take c u n cs wait).1+M (take c u n cs wait).2<=4096*M cs+M wait+18186240:=by have b:=uV c a;have d:=pq c.7 n (heard c u.3) (cs.filter λx=>decide (n-x.2<=c.3));have e:=dR (λx:Ch=>decide (n-x.2<=c.3)) cs;have f:=yW ((heard c u.3).foldl (frame c.7 n) (cs.filter λx=>decide (n-x.2<=c.3)));have g:=qX n (pull ((heard c u.3).foldl (frame c.7 n) (cs.filter λx=>decide (n-x.2<=c.3)))).1;unfold take;simp only[aN];omega
def much(chain:List Zq)(n:Nat)(s:St):Nat:=4096*M s.1+M s.2+M s.3+(n-(wm s.3 default).3)+vv ((chain[n]!).2-(wm s.3 default).2)
structure Fit(c:Cf)(chain:List Zq)(k:Nat)(s:St):Prop where
 some:s.3≠[]
 epoch:(wm s.3 default).3<=k-1
 time:(wm s.3 default).2=(chain[0]!).2+c.6*((M s.3-1:Nat):Int)
 number:(wm s.3 default).1+1=M s.3
 much:much chain (k-1) s<=2+k*18186265
def oW{c:Type}[Inhabited c](a b:List c)(_:a≠[]):wm (a++b) default=wm (wm a default::b) default:=by grind
def KH{c chain}(hc:gB chain=pw)(e:fR c=pw){k}(a:k<M chain){s}(h:Fit c chain k s):Fit c chain (k+1) (step c chain k s):=by
 have iO:=gJ hc;have w:=take_len c _ k s.1 s.2 (jq chain X iO.2.2.1 k a);have d:=uR c chain k hc e a (left chain k (wm s.3 default) (take c (chain[k]!) k s.1 s.2).2+1) (wm s.3 default) (take c (chain[k]!) k s.1 s.2).2 (by have:=h.2;omega);have g:=h.5;have b:=h.1;have r:1<=M s.3:=by cases f:s.3 with|nil=>exact Zl f b|cons=>simp
 have u:=mT hc (i:=k-1) (j:=k) aA a;have t:=h.4;have v:=h.3;unfold Dv.much at g;unfold step;simp only;generalize p:take c (chain[k]!) k s.1 s.2=T at *;generalize o:draws c chain k (left chain k (wm s.3 default) T.2+1) (wm s.3 default) T.2=D at *;simp only at d;obtain⟨i,j,l,m,n⟩:=d;refine⟨?_,?_,?_,?_,?_⟩
 .simp[b]
 .grind
 .grind
 .grind
 .unfold Dv.much;simp only[Nat.add_sub_cancel];rw[oW _ _ b,aN]
  have:vv ((chain[k]!).2-(wm s.3 default).2)<=vv ((chain[k-1]!).2-(wm s.3 default).2)+24:=by
   obtain rfl|q:=dL k
   .simp
   .omega
  omega
def JH(c chain):Fit c chain 0 (start chain):=by refine⟨by simp[start],by simp[start,first],by simp[start,first],by simp[start,first],?_⟩;simp[much,start,first]
def lV{c chain}(hc:gB chain=pw)(a:fR c=pw):∀k,k<=M chain->Fit c chain k (gone c chain k)
 |0,_=>JH c chain
 |k+1,hk=>KH hc a aA (lV hc a k aA)
end
end Dv
namespace Hm
open Go.RowKit
section
variable {m n l a:Nat}{P:th}{assign body:vy}{w:pn}{α:Type}{lb:Array po}
def CG{f c b}(h:RoundIn vq m P l f c assign body w b):RoundIn (zz vq a) n P l f c assign body w b:=⟨h.1,λd e _=>h.2 d e (room_wide _)⟩
def rC(F:Nat->Prop)(a b:pn)(k:Nat):=F k\/(↑a<=k/\k<↑b)
def F9{F:Nat->Prop}{A B o}(h:fT (λk=>F k/\NC A k) (rq A l o) (rq B l o))(d:¬F l):fT (λk=>F k/\NC (rq A l o) k) (rq A l o) (rq B l o):=
 h.mono (λk _ e=>⟨e.1,λb t c a=>by
  rw[sa (by rintro rfl;exact d e.1)]at a;exact e.2 b t c a⟩)
def Oa{α:Type}(P:th)(g:Nat)(lb:Array po)(encs:α->Array po)(St:List α->pn->Prop)(Y:List α->α->Nat->pn->Prop)(S h:List α->Prop):=
 ∀(l:Nat)(J d:List α->(Nat->Prop)->pn->Prop)(W:pn),l<↑W->St [] W->
  (∀pre x F a b,J pre F a->fT (λk=>F k/\NC a k) a b->Y pre x ↑a b->YieldAt vq 1 P l (encs x) b λe c=>
   (e=qs (rh pw)/\J (pre++[x]) (rC F a b) c/\↑b<=c.1.size/\St (pre++[x]) c/\∀k,rC F a b k->c.1[k]? =b.1[k]?)\/(e=qs (rh pi)/\d (pre++[x]) (rC F a b) c/\↑b<=c.1.size/\∀k,rC F a b k->c.1[k]? =b.1[k]?))->
  J [] (λ_=>False) W->
  CallsIn vq 2 P g (#[.func (.yield l) #[] #[]]++lb) W λe c=>(∃v,e=qs v)/\((∃f F a,S f/\J f F a/\fT (λk=>F k/\NC a k) a c)\/(∃pre F a,h pre/\d pre F a/\fT (λk=>F k/\NC a k) a c))
def SZ{α:Type}(B:Nat)(F:Nat->Prop)(St:List α->pn->Prop)(I:List α->(Nat->Prop)->pn->Prop)(a:vy->List α->(Nat->Prop)->pn->Prop)(xs:List α)(W:pn):qaC->Act->pn->Prop
 |.normal,_,W'=>YC B W W'/\St xs W'/\(∀k,F k->W'.1[k]? =W.1[k]?)/\I xs F W'
 |.ret,_,W'=>YC B W W'/\(∀k,F k->W'.1[k]? =W.1[k]?)/\a .ret xs F W'
 |.exit id,_,W'=>YC B W W'/\(∀k,F k->W'.1[k]? =W.1[k]?)/\a (.exit id) xs F W'
 |.goto t,_,W'=>YC B W W'/\(∀k,F k->W'.1[k]? =W.1[k]?)/\a (.goto t) xs F W'
 |.panic _,_,_=>False
 |.outgrown,_,_=>False
def zK{g:ZT}{ps:Array Tmp}{Q:qaC->Act->pn->Prop}{m:Act}{ad:Loop}(ak:w.1[a]? =N (.loop ad)){gf:Nat}(hg:m.eval g=.func (.func gf) #[] lb)(eg:∀b w,(callFunc gf b).run P w=.ok (.enter gf b) w){encs:α->Array po}{St:List α->pn->Prop}{Y:List α->α->Nat->pn->Prop}{S L:List α->Prop}(ao:Oa P gf lb encs St Y S L)(aa:YM ↑w St)(hY:∀c,YM ↑w (λ(b:List α×α) W=>Y b.1 b.2 c W))(am:∀x,qd (encs x)=qd ps)(I:List α->(Nat->Prop)->pn->Prop)(r:vy->List α->(Nat->Prop)->pn->Prop)(s:∀F,YM ↑w (λb W=>I b F W))(u:∀c F,YM ↑w (λb W=>r c b F W))(h0:I [] (λ_=>False) w)(an:St [] w)(O:α->Nat->Act)(q:α->ZG)(ae:∀(l:Nat)(x:α)(W:pn)(K:Act->pn->Prop),K (O x ↑W) (o6 W (q x))->assign.wpIn (zz vq l) 1 P (Exit.then K (λ_ _ _=>False)) ⟨(ps.zip (encs x)).foldl (λt (p,v)=>qb t p v) m.1,[]⟩ W)(af:∀(l:Nat)(pre:List α)(x:α)(F:Nat->Prop)(b c:pn),l=w.1.size->l<b.1.size->(∃d,c.1[l]? =N (.loop d))->(∀k,F k->w.1.size<k/\k<b.1.size)->I pre F b->fT (λk=>F k/\NC b k) b c->Y pre x b.1.size c->body.wpIn (zz vq l) 1 P (SZ ↑w (rC F b c) St I r (pre++[x]) (o6 c (q x))) (O x ↑c) (o6 c (q x)))(ag:∀(c:List α)(F:Nat->Prop)(b W:pn),(∀k,F k->w.1.size<k/\k<b.1.size)->S c->I c F b->fT (λk=>F k/\NC b k) b W->Q .normal m W)(ap:∀(c:vy)(pre:List α)(F:Nat->Prop)(b W:pn),(∀k,F k->w.1.size<k/\k<b.1.size)->L pre->r c pre F b->fT (λk=>F k/\NC b k) b W->c.wpIn (zz vq a) 1 P Q m W):(Code.rangeFunc g ps assign body).wpIn (zz vq a) 1 P Q m w:=by
 refine wpIn_rangeFunc λfn ah=>?_;obtain⟨j,i⟩:∃j:LoopState->Option vy->Loop,j=λst pe=>{ state:=st,pending:=pe,fn,tmps:=m.1,params:=ps,assign,body,defers:=ad.8 }:=⟨_,R⟩
 obtain⟨V,y⟩:∃V,o6 w (.loop (j .ready X))=V:=⟨_,R⟩
 have vl:V.1[w.1.size]? =N (.loop (j .ready X)):=by rw[<-y];exact YZ w _
 have vI:I [] (λ_=>False) V:=by rw[<-y];exact YO (s _) _ h0
 have vS:St [] V:=by rw[<-y];exact YO aa _ an
 refine⟨↑w,[],V,{ target:=.fn (.func gf) lb,args:=#[.func (.yield ↑w) #[] #[]] },V,gf,
  #[.func (.yield ↑w) #[] #[]]++lb,V,?_,?_,λ_ _=>trivial,by simp[invoke,go_sem,eg],λh=>oj,?_⟩
 .rw[<-y,i];exact run_enterLoop_inner ak _ _ _ _ _
 .simp only[resolve,hg];simp[go_sem]
 refine CallsIn.mono (zw.2 (zw.1 (ao _
  (λpre F W=>I pre F W/\W.1[w.1.size]? =N _/\∀k,F k->w.1.size<k/\k<W.1.size)
  (λpre F W=>∃c,r c pre F W/\W.1[w.1.size]? =N (.loop (j .done (N c)))/\∀k,F k->w.1.size<k/\k<W.1.size) V (fO vl) vS ?_ ⟨vI,vl,λ_ h=>sj h⟩)):CallsIn _ 0 P gf _ V _) ?_
 .rintro pre x F p c ⟨i0,G,D⟩ E hy;have nl:¬F w.1.size:=λh=>by have:=(D _ h).1;omega
  have ab:=(fO G)
  have A:=oy (E.5 _ ab (λC=>nl C.1)) G;have B:=(fO A)
  have J:=run_yield (P:=P) (args:=encs x) A (by rw[i];exact am x);rw[i]at J;refine⟨fn,_,assign,body,J,roundIn_of_wpIn ah (ae _ x c _ ⟨_,run_beginRound (oy (aU _ _ _ B) A) (by rw[i]),?_⟩)⟩;clear J;rw[tE _ _ _ _ B];obtain⟨o,f⟩:∃o:ZG,Obj.loop { j .ready X with state:=.busy }=o:=⟨_,R⟩
  rw[f];have b1:=F9 (pR E _ o ab) nl
  have y1:Y pre x (rq p ↑w o).1.size (rq c ↑w o):=by
   rw[Yt];exact ve (hY _) (s:=(pre,x)) o hy aA A R
  have eF:rC F (rq p ↑w o) (rq c ↑w o)=rC F p c:=by unfold rC;simp only[Yt]
  have z:=af _ pre x F _ _ R aD ⟨_,oy (wh B) (Zf N (si f))⟩ (by simpa using D) (ve (s F) o i0 aA G R) b1 y1;rw[eF]at z;simp only[Yt]at z
  have f1:∀k,rC F p c k->w.1.size<k/\k<c.1.size:=λk e=>by
   have:=E.4;obtain h|h:=e
   .have:=D k h;omega
   .omega
  refine wpIn_mono z ?_;clear z;have aj:(o6 (rq c ↑w o) (q x)).1[w.1.size]? =N o:=oy (aU _ _ _ aD) (wh B)
  have fin:∀(d:Option vy)(b:pn),YC ↑w (o6 (rq c ↑w o) (q x)) b->
    (Instr.endRound ↑w d).run P b=.ok (.bool (za d)) (rq b ↑w (.loop (j (if za d then .ready else .done) d)))/\
    b.1[w.1.size]? =N o/\
    (rq b ↑w (.loop (j (if za d then .ready else .done) d))).1[w.1.size]? =N (.loop (j (if za d then .ready else .done) d)):=λd b ai=>by
   have H:=ai.2 _ _ aA aj mz;have ac:=H;rw[<-f]at ac;have:=run_endRound (P:=P) d ac;refine⟨?_,H,wh (fO H)⟩;rw[i]at this⊢;exact this
  rintro C a3 b n;cases C with
  |normal=>
   obtain⟨T,kk,kx,i3⟩:=n;let⟨hr,l3,l4⟩:=fin X b T;have s3:↑c<=b.1.size:=by have:=T.1;simp at this;omega
   refine⟨_,_,hr,rr ⟨R,⟨ve (s _) _ i3 aA l3 mz,l4,λk e=>j8⟩,kz,ve aa _ kk aA l3 mz,λk t=>by
    have:=f1 k t;rw[sa aA,kx k t,aU _ _ _ aD,sa aA]⟩⟩
  |ret=>
   obtain⟨T,kx,i3⟩:=n;let⟨hr,l3,l4⟩:=fin (N .ret) b T;have s3:↑c<=b.1.size:=by have:=T.1;simp at this;omega
   exact⟨_,_,hr,rz ⟨R,⟨_,ve (u _ _) _ i3 aA l3 mz,l4,λk e=>j8⟩,kz,λk t=>by
    have:=f1 k t;rw[sa aA,kx k t,aU _ _ _ aD,sa aA]⟩⟩
  |exit id=>
   obtain⟨T,kx,i3⟩:=n;let⟨hr,l3,l4⟩:=fin (N (.exit id)) b T;have s3:↑c<=b.1.size:=by have:=T.1;simp at this;omega
   exact⟨_,_,hr,rz ⟨R,⟨_,ve (u _ _) _ i3 aA l3 mz,l4,λk e=>j8⟩,kz,λk t=>by
    have:=f1 k t;rw[sa aA,kx k t,aU _ _ _ aD,sa aA]⟩⟩
  |goto t=>
   obtain⟨k3,kx,i3⟩:=n;let⟨hr,l3,l4⟩:=fin (N (.goto t)) b k3;have s3:↑c<=b.1.size:=by have:=k3.1;simp at this;omega
   exact⟨_,_,hr,rz ⟨R,⟨_,ve (u _ _) _ i3 aA l3 mz,l4,λk e=>j8⟩,kz,λk T=>by
    have:=f1 k T;rw[sa aA,kx k T,aU _ _ _ aD,sa aA]⟩⟩
  |panic ch=>exact sj n
  |outgrown=>exact sj n
 .rintro e C ⟨⟨v,rfl⟩,(⟨B,F,z,n,⟨o,b,c⟩,d⟩|⟨pre,F,z,n,⟨f,o,b,c⟩,d⟩)⟩
  .have t:¬F w.1.size:=λh=>by have:=(c _ h).1;omega
   have p:=(fO b)
   have A:=oy (d.5 _ p (λe=>t e.1)) b;refine⟨X,_,iu,?_⟩;exact ag B F _ _ lr n (ve (s F) _ o aA b R) (F9 (pR d _ _ p) t)
  .have t:¬F w.1.size:=λh=>by have:=(c _ h).1;omega
   have p:=(fO b)
   have A:=oy (d.5 _ p (λe=>t e.1)) b;refine⟨N f,_,iu,?_⟩;exact ap f pre F _ _ lr n (ve (u f F) _ o aA b R) (F9 (pR d _ _ p) t)
end
end Hm
section
open Go.RowKit
def iS(s i j):(qt s i j).1.1=(s.1.1.take j).drop i:=by exact km
def strLen:po->Nat|pk s=>ot s|_=>0
def rT(s:ByteArray)(f):Sq.piece s.1.1=
  if pf s[0]<128 then(if pf s[0]+2<=ot s then N ((qt s 1 (pf s[0]+2)).1.1,pf s[0]+2)else X)
  else if pf s[0]=128 then X
  else if 2<=ot s then N (Lib.repeatL (qt s 1 2).1.1 (257-pf s[0]),2)else X:=by
 obtain⟨d⟩:=s;obtain⟨l⟩:=d;cases l with
 |nil=>simp[ot]at f
 |cons c r=>
  have a:(⟨⟨c::r⟩⟩:ByteArray)[0]=c:=R;have e:ot (⟨⟨c::r⟩⟩:ByteArray)=M r+1:=R;rw[a,e];simp only[iS,Sq.piece];split
  .by_cases h:pf c+1<=M r
   .rw[Zb h,Zb aA];rfl
   .rw[Za h,Za aA]
  .split
   .rfl
   .cases r with
    |nil=>simp
    |cons b q=>
     simp only[aP];rw[Zb aA];have:=Lib.repeatL_replicate b 1 (257-pf c);simp only[qbn]at this;rw[<-this];rfl
def SY(s:ByteArray)(w b)(hc:(pf s[0]:Int)<128)(c:(pf s[0]:Int)+2<=ot s):tf PQ 172 #[pk s] w λe a=>e=qs (sh #[pk (qt s 1 (pf s[0]+2)),ox pg (pf s[0]+2),rh pw])/\a=w:=by
 go_enter (fq func172 R),ntmps172;go_wp2;go_ret3;exact⟨R,R⟩
def Sc(s:ByteArray)(L w)(d:ot s<=maxLen)(g)(hc:128<(pf s[0]:Int))(i:2<=(ot s:Int))(a:qu (Lib.repeatL (qt s 1 2).1.1 (257-pf s[0])=L)):tf PQ 172 #[pk s] w λe f=>e=qs (sh #[pk ⟨py L⟩,ox pg 2,rh pw])/\Below w.1.size w f:=by
 unfold maxLen at d;have b:=xi s[0];have h:(pf s[0]:Int)<256:=aA
 clear b;go_enter (fq func172 R),ntmps172;go_wp2;rw[show((257:Int)-(pf s[0]:Int))=((257-pf s[0]:Nat):Int) from by omega]
 refine se (repeated _ _ _ aA (by
  have:ot (qt s 1 2)<=1:=ki
  have:=Nat.mul_le_mul this (show 257-pf s[0]<=257 from by omega);omega)) ?_
 rintro e w1 ⟨rfl,c⟩;rw[a.out];go_wp2;go_ret3;exact⟨R,c⟩
def Vp(s:ByteArray)(w)(c:ot s<=maxLen)(f)(hc:(pf s[0]:Int)=128\/(128<(pf s[0]:Int)/\(ot s:Int)<2)\/((pf s[0]:Int)<128/\(ot s:Int)<(pf s[0]:Int)+2)):tf PQ 172 #[pk s] w λe d=>e=qs (sh #[pk ⟨#[]⟩,ox pg 0,rh pi])/\d=w:=by
 unfold maxLen at c;have a:=xi s[0];have g:(pf s[0]:Int)<256:=aA
 clear a;obtain hc|⟨hc,b⟩|⟨hc,b⟩:=hc
 .have h:((pf s[0]:Int) == 128)=pw:=by simp[hc]
  clear hc;go_enter (fq func172 R),ntmps172;go_wp2;go_ret3;exact⟨R,R⟩
 .go_enter (fq func172 R),ntmps172;go_wp2;go_ret3;exact⟨R,R⟩
 .go_enter (fq func172 R),ntmps172;go_wp2;go_ret3;exact⟨R,R⟩
def QJ(s:ByteArray)(t n w)(c:ot s<=maxLen)(hp:Sq.piece s.1.1=N (t,n)):tf PQ 172 #[pk s] w λe b=>e=qs (sh #[pk ⟨py t⟩,ox pg n,rh pw])/\Below w.1.size w b:=by
 have a:0<ot s:=by
  have:=(yh _ _ _ hp)
  rw[aW];omega
 rw[rT s a]at hp;split at hp
 .split at hp
  .simp only[aI,bR]at hp;obtain⟨rfl,rfl⟩:=hp;refine se (SY s w a aA aA) ?_;rintro e b ⟨rfl,rfl⟩;exact⟨R,aH _ _⟩
  .simp at hp
 .split at hp
  .simp at hp
  .split at hp
   .simp only[aI,bR]at hp;obtain⟨rfl,rfl⟩:=hp;exact Sc s _ w c a aA aA R
   .simp at hp
def Rh(s:ByteArray)(w)(b:ot s<=maxLen)(a:0<ot s)(hp:Sq.piece s.1.1=X):tf PQ 172 #[pk s] w λe c=>e=qs (sh #[pk ⟨#[]⟩,ox pg 0,rh pi])/\c=w:=by
 rw[rT s a]at hp;refine Vp s w b a ?_;split at hp
 .split at hp
  .simp at hp
  .right;right;omega
 .split at hp
  .left;omega
  .split at hp
   .simp at hp
   .right;left;omega
def Fe(s:ByteArray)(a w)(O:ot s<=2097152)(H:-9223372036854775808<=a)(I:a<=9223372036854775807):tf PQ 119 #[pk s,ox pg a] w λe E=>e=qs (sh #[pk ⟨py (Sq.spread (ot s) s.1.1 a []).1⟩,.bool (Sq.spread (ot s) s.1.1 a []).2])/\Below w.1.size w E:=by
 generalize x:Sq.spread (ot s) s.1.1 a []=Zs;have A:qu _:=x;clear x;go_enter (fq func119 R),ntmps119;go_wp2;go_loopw [0] (λv wr=>∃(b:ByteArray)(f:Nat)(out:List UInt8),v=pk b/\ot b<=f/\Sq.spread f b.1.1 a out=Zs/\M out+128*ot b<=268435456/\(out=[]\/(M out:Int)<=a)/\Od w.1.size w.1.size out wr/\Below w.1.size w wr) (λv _=>strLen v)
 case atStart=>
  refine⟨s,_,[],R,fI,A,aD,rr R,fresh w,pb (aH _ w) fI _⟩
 case round=>
  obtain⟨b,B,out,rfl,p,d,F,k,m,c⟩:=hrel;by_cases j:0<ot b
  .have J:(!List.isEmpty b.toList)=pw:=by rw[gH,Zd aA];rfl
   cases g:Sq.piece b.1.1 with
   |none=>
    have f:qu (Zs=(out,pi)):=by
     rw[<-d];exact vG _ _ _ _ (by rw[<-aW];exact j) (by rw[<-aW];exact p) g
    clear d k;go_wp2;refine se (Rh b _ aE j g) ?_;rintro e w1 ⟨rfl,rfl⟩;go_wp2;refine se (wE _ _ out _ m (by have:=c.4;omega)) ?_;rintro e w2 ⟨rfl,_,h⟩;go_wp2;go_ret2;rw[f.out];exact⟨R,ow c h⟩
   |some tn=>
    obtain⟨t,n⟩:=tn;have D:=yh _ _ _ g;rw[<-aW]at D;have K:-9223372036854775808<=a-(M out:Int):=by obtain h|h:=k;simp[h];omega;omega
    have L:a-(M out:Int)<=9223372036854775807:=aA
    have i:qu _:=k;clear k;have r:qu _:=d;clear d;have l:qu _:=g;clear g;go_wp2;refine se (QJ b t n _ aE l) ?_;rintro e w1 ⟨rfl,y⟩;have o:=zL m y;have f:=ow c (o5 y c.4);go_wp2;refine se (W4 _ _ out _ o) ?_;rintro e w2 ⟨rfl,rfl⟩;go_wp2
    .have hcut:max (a-(M out:Int)) 0<(M t:Int):=by assumption
     have G:ot (qt ({ data:=py t }:ByteArray) 0 (vv (max (a-(M out:Int)) 0)))<=M t:=by
      rw[aW,iS];simp;omega
     have q:qu (Zs=(out++(qt ({ data:=py t }:ByteArray) 0 (vv (max (a-(M out:Int)) 0))).1.1,pi)):=by
      show _=_
      rw[<-r.out,nL _ _ _ _ t n (by rw[<-aW];exact j) (by rw[<-aW];exact p) l.out];rw[Zb (by obtain h|h:=i.out;simp[h]at hcut⊢;omega;omega)];rw[iS];simp only[qaJ]
      congr 3
      obtain h|h:=i.out
      .simp[h]
      .omega
     refine se (FZ _ _ out _ _ o aA (by have:=f.4;omega)) ?_;rintro e w3 ⟨rfl,u,z⟩;go_wp2;refine se (wE _ _ _ _ u (by have:=f.4;have:=z.4;omega)) ?_;rintro e w4 ⟨rfl,_,C⟩;generalize out++(qt ({ data:=py t }:ByteArray) 0 (vv (max (a-(M out:Int)) 0))).1.1=Zr at q u⊢;go_wp2;go_ret2;rw[q.out];exact⟨R,ow (ow f z) C⟩
    .have hcut:(M t:Int)<=max (a-(M out:Int)) 0:=by assumption
     refine se (FZ _ _ out _ _ o (by show _+qd (py t)<=_;simp;omega) (by have:=f.4;omega)) ?_;rintro e w3 ⟨rfl,q,u⟩;go_wp2;go_roundw
     case rel=>
      have z:ot (qt b n (ot b))=ot b-n:=by simp[cP]
      refine⟨_,B-1,_,R,aA,?_,?_,?_,q,ow f u⟩
      .rw[<-r.out,nL _ _ _ _ t n (by rw[<-aW];exact j) (by rw[<-aW];exact p) l.out];rw[Za (by obtain h|h:=i.out;simp[h]at hcut⊢;omega;omega)];rw[iS,aW,eD]
      .rw[z,aN];omega
      .right;rw[aN];obtain h|h:=i.out
       .simp[h]at hcut⊢;omega
       .omega
     case measure=>
      have z:ot (qt b n (ot b))=ot b-n:=by simp[cP]
      simp[strLen];omega
  .have h:(!List.isEmpty b.toList)=pi:=by rw[gH,Ze aA];rfl
   go_wp2;refine se (wE _ _ out _ m (by have:=c.4;omega)) ?_;rintro e w1 ⟨rfl,_,f⟩
   have g:b.1.1=[]:=by
    have:=aW b;exact bC aA
   rw[g,yg]at d;subst d;go_wp2;go_ret2;exact⟨R,ow c f⟩
end
namespace Hm
open Go.RowKit Go.Joins
open Dv (Fine)
open Fr (F fG)
variable {w:pn}{b:Nat}{c:po}{d:AL}{a:List PC}
def Chs.more{w3 r y o'}(h:Chs w b c d a)(t:jh w3 b sr (qp d o'.3.1 (iq o'.1)))(A:fT (λk=>k=b) w w3)(D:jH w3 o')(C:w.1.size<=o'.1)(p:∀i,o'.2=N i->w.1.size<=i)(E:fM r 197 1 y (M a+1) ((a.map λo=>iq o.1)++[iq o'.1]))(q:fT (λk=>ov c=N k) w3 r):Chs r b y (qp d o'.3.1 (iq o'.1)) (a++[o']):=by
 have I:∀k,ov c=N k->k≠b:=λk j g=>by
  let⟨l,hc⟩:=h.2.obj j;exact iB hc h.1 g
 have G:∀o∈a,ov c≠N o.1:=λo e j=>by
  let⟨l,hc⟩:=h.2.obj j;have:=(h.3 o e).1;unfold qF at this;rw[hc]at this;simp at this
 have H:∀o∈a,∀i,o.2=N i->ov c≠N i:=λo e i f j=>by
  let⟨n,hc⟩:=h.2.obj j;cases l:o.3.4
  .obtain⟨⟨B,g,m⟩,_⟩:=(h.3 o e).5 l;rw[g]at f;cases f;exact iB hc m R
  .rw[((h.3 o e).6 l).2]at f;cases f
 have z:=λo e=>iB (h.3 o e).1 h.1;have F:=λo e=>(cH.1 (h.3 o e).1).1;have u:∀o∈a,∀i,o.2=N i->i<w.1.size:=λo e i f=>h.iX (rz (rz ⟨o,e,rz f⟩));have v:∀k,w.1.size<=k->ov c≠N k:=λk j g=>by have:=h.2.lt g;omega
 refine⟨t.of_block (q.5 _ t.lt (λg=>I _ g R)),?_,?_,?_,?_,?_,?_⟩
 .rw[aN,aZ];exact E
 .intro o e;obtain e|e:=bV.1 e
  .exact((h.3 o e).gE A (z o e) (λi f g=>h.6 o e (by rw[f,g]))).gE q (G o e) (H o e)
  .rw[bT.1 e];exact D.gE q (v _ C) (λi f=>v _ (p i f))
 .rw[aZ];refine List.nodup_append.2 ⟨h.4,aC,λm l i f g=>?_⟩;obtain⟨o,e,rfl⟩:=bB.1 l;simp at f;have:=F o e;omega
 .intro s i l f x m n;rcases bV.1 l with l|l<;>obtain f|f:=bV.1 f
  .exact h.5 s i l f x m n
  .rw[bT.1 f]at n;have:=p x n;have:=u s l x m;omega
  .rw[bT.1 l]at m;have:=p x m;have:=u i f x n;omega
  .rw[bT.1 l,bT.1 f]
 .intro o e g;obtain e|e:=bV.1 e
  .exact h.6 o e g
  .rw[bT.1 e]at g;have:=p _ g;have:=h.1.lt;omega
 .intro x l;unfold qp at l;split at l
  .let⟨m,s,g⟩:=bB.1 l;by_cases j:m.1=o'.3.1
   .rw[Zb j]at g;exact⟨o',aC,si g⟩
   .rw[Za j]at g;let⟨o,e,n⟩:=h.7 m s;exact⟨o,by simp[e],by rw[<-g,n]⟩
  .obtain l|l:=bV.1 l
   .let⟨o,e,m⟩:=h.7 x l;exact⟨o,by simp[e],m⟩
   .exact⟨o',aC,bT.1 l⟩
def ME:(PQ.info? 197).map (λi=>(i.8,i.3,i.4))=N (N (pm X),1,8):=Zm
def open_any(f b cs c d a)(j n:Nat)(w)(m:w.1[f]? =N (pj cs 137 (0,0)))(S:cs[8]? =N (.map (N b)))(T:cs[9]? =N c)(h:Chs w b c d a)(av:M a<=4294967296):tf PQ 112 #[pm (N ⟨f,8,X⟩),ox sr j,ox pg n] w λe O=>e=qs (sh #[])/\∃(L:po)(y:PC),O.1[f]? =N (pj (qb cs 9 L) 137 (0,0))/\y.3=⟨j,n,[],pi⟩/\Chs O b L (qp d j (iq y.1)) (a++[y])/\w.1.size<=y.1/\(∀u,y.2=N u->w.1.size<=u)/\(∀k,ov L=N k->ov c=N k\/w.1.size<=k)/\fT (λk=>k=f\/k=b\/ov c=N k) w O:=by
 obtain⟨i,p⟩:∃i,i=o6 (o6 w (.map #[] 0)) (pj #[ox sr j,ox pg n,.map (N ↑w),ox pg 0,rh pi,ox XX 0,rh pi] 201):=⟨_,R⟩
 have r:Below ↑w w i:=by rw[p];exact pb (pb (aH _ w) fI _) aC _
 have J:↑i=w.1.size+2:=by rw[p];simp
 have ab:jh i ↑w XX (pD []):=by
  rw[p];exact(jh.made w _).of_block (aU _ _ _ aC)
 have ac:i.1[w.1.size+1]? =N (qF ⟨w.1.size+1,N ↑w,⟨j,n,[],pi⟩,0,pi,0⟩):=by
  rw[p];have:=sv (o6 w (.map #[] 0)) (pj #[ox sr j,ox pg n,.map (N ↑w),ox pg 0,rh pi,ox XX 0,rh pi] 201);simp only[cQ]at this;exact this
 have W:jH i ⟨w.1.size+1,N ↑w,⟨j,n,[],pi⟩,0,pi,0⟩:=⟨ac,Dv.DE,λap D=>by simp at D,aC,λ_=>⟨⟨_,R,ab⟩,by simp[Dv.size],by simp[Dv.size],by simp[Dv.last],by simp[Dv.last]⟩,λh=>by simp at h⟩
 have l:=h.fF r;have t:i.1[f]? =_:=oy (r.5 _ (fO m)) m;let⟨w3,ae,E,G,K⟩:=l.1.update (P:=PQ) (uq Zu) (uq XZ) j (iq (w.1.size+1));have ao:=iB m h.1;have e8:Z i ⟨f,8,X⟩=N (.map (N b)):=by rw[aG t];exact S
 have x:w3.1[f]? =_:=oy (G.5 _ (fO t) (by simp[ao])) t;have e9:Z w3 ⟨f,9,X⟩=N c:=by rw[aG x];exact T
 have s:fT (λk=>k=b) i w3:=(fT.grown G).mono (λk _ e=>io);have C:=W.gE s (by have:=h.1.lt;exact kl) (λu v=>by cases v;have:=h.1.lt;omega);obtain⟨A,B,rfl⟩:=h.2.slice;unfold iq at ae
 have ad:=λobj=>(l.2.gE s (λg hg e=>by
  let⟨D,hc⟩:=l.2.obj hg;exact iB hc l.1 e)).fF (pb (aH _ w3) fI obj)
 have Q:qu _:=ad;have H:qu _:=fE x (fE l (fE E (fE s (fE C (fE J (fE r (fE K (fE m h))))))));let⟨i0,aa,ah,ai,aj⟩:=yk ME;have z:qu _:=fE aa (fE ah (fE ai aj));have an:=(fO x)
 clear m h r ab ac W l t E G K x s C ad J aa ah ai aj S;go_enter (fq func112 R),ntmps112;have aw:=@run_makeMap PQ;go_upto_region 1 with fail;rw[<-p];clear p;go_upto_region 2 with fail;clear e8 ae;go_wp2_with (first|(at_builtin;refine fX _ R (.tmp 22) (.tmp 24) 131 R 197 i0 _ 1 8 (uq underlying131) z.1 z.2.1 z.2.2.1 z.2.2.2 R aB _ _ _ R (Q _) _ 1 1 [pm (N ⟨w.1.size+1,0,X⟩)] R aB R (by intro ap ax D;match ap,D with|0,D=>(simp at D;subst D;simp[sf])) (by intro ap D;simp at D;subst D;rfl) aE aA ?_;intro g aq am P F q;have o:=(q.keep (Q _) (oy (aU _ _ _ an) H.1) aB);have c9:Z P ⟨f,9,X⟩=N (U A (M a) B):=(by rw[aG o];exact T);have ar:=aM o;have ak:qu _:=fE F (fE q o);clear F q o)|go_in)
 go_end0;let⟨F,q,o⟩:=ak.out;let⟨x,l,E,s,C,J,r,K,m,h⟩:=H.out;have Y:fT (λk=>ov (U A (M a) B)=N k) w3 P:=(fT.alloc _ w3 _).trans q.gE (λ_ _ e=>e)
 have au:ov (U A (M a) B)≠N f:=λe=>by
  let⟨D,hc⟩:=h.2.obj e;rw[m]at hc;simp at hc
 have ag:=(fT.fF r fI _).trans s (λ_ _ e=>e);have V:=h.more (o':=⟨_,_,_,0,pi,0⟩) E ag C kl (λu v=>by cases v;exact fI) F Y;have af:=fT.set P f 9 (U (N ⟨g,aq,X⟩) (M a+1) am);refine⟨R,_,_,gI o 9 _,R,V.gE af (λk I e=>?_),kl,λu v=>by cases v;exact fI,λk I=>?_,?_⟩
 .subst e;exact V.iQ o aB aB I
 .have t:N g=N k:=I;cases t;obtain e|e:=q.own
  .exact rr e
  .right;simp at e;omega
 .exact((ag.mono (M':=λk=>k=f\/k=b\/ov (U A _ B)=N k) (λk _ e=>rz (rr e))).trans Y (λk _ e=>rz (rz e))).trans af (λk _ e=>rr e)
variable {w':pn}{c k:Nat}{e:po}{b:List PC}{o o'':PC}{a:Int}{f:F}
def opened(n:Nat)(f:F)(cs:List Ch):List Ch:=if f.2=0 then cs.filter (λc=>c.1 != f.1)++[⟨f.1,n,[],pi⟩]else cs
def nK(a:Int)(f:F)(c:Ch):Ch:=if c.1=f.1 then Dv.joined a c f else c
def JV(a n cs f):Dv.frame a n cs f=(opened n f cs).map (nK a f):=by
 unfold Dv.frame opened;by_cases h:f.2=0
 .rw[Zb h,Zb h,aZ]
  congr 1
  .symm;rw[eW (g:=id),List.map_id];intro c hc;have:=(dD.1 hc).2;simp only[bne_iff_ne,ne_eq]at this;unfold nK;rw[Za this];rfl
  .simp[nK]
 .rw[Za h,Za h];rfl
def Dy(m k k' v):jB (qp m k v) k'=if k'=k then N v else jB m k':=by
 unfold jB qp;split
 .rename_i h
  induction m with
  |nil=>simp at h
  |cons p m ih=>
   rw[cL,List.find?_cons,List.find?_cons];by_cases a:p.1=k
   .rw[Zb a];by_cases b:k'=k
    .subst b;simp
    .have d:=Zc (λe=>b (si e));have f:(p.1 == k')=pi:=Zc (λe=>b (by rw[<-e,a]));simp only[d,f];by_cases c:k∈m.map p9
     .exact ih c
     .have:m.map (λp=>if p.1=k then(k,v)else p)=m:=by
       rw[eW (g:=id),List.map_id];intro q g;rw[Za (λ(e:q.1=k)=>c (e ▸ bB.2 ⟨q,g,R⟩))];rfl
      rw[this,Za b]
   .rw[Za a]
    have d:k∈m.map p9:=by
     obtain e|e:=bM.1 h
     .exact sj (a (si e))
     .exact e
    by_cases b:p.1=k'
    .have c:(p.1 == k')=pw:=by simp[b]
     simp only[c];rw[Za (λe=>a (by rw[b,e]))]
    .have c:=Zc b;simp only[c];exact ih d
 .rename_i h;rw[List.find?_append];by_cases a:k'=k
  .subst a
   have:m.find? (λp=>p.1 == k')=X:=by
    rw[List.find?_eq_none];intro q b e;simp only[Zk]at e;exact h (e ▸ bB.2 ⟨q,b,R⟩)
   rw[this];simp
  .rw[Za a];cases m.find? (λp=>p.1 == k')with
   |some p=>rfl
   |none=>
    have b:=Zc (λe=>a (si e));simp[b]
def Gx(h:Chs w c e d b){a}(l:w.1.size<=a.1):fS (qp d a.3.1 (iq a.1)) (b++[a])=(fS d b).filter (λf=>f.1 != a.3.1)++[a.3]:=by
 unfold fS;rw[eA,aZ]
 congr 1
 .rw[qaE,Z7]
  congr 1
  refine qah (λo j=>?_);have k:=(cH.1 (h.3 o j).1).1;unfold gF;rw[Dy];by_cases f:o.3.1=a.3.1
  .rw[Zb f];have g:(a.1 == o.1)=pi:=Zc aA;have i:(o.3.1 != a.3.1)=pi:=by simp[f]
   show(a.1 == o.1)=((o.3.1 != a.3.1)&&_)
   rw[g,i,Bool.false_and]
  .rw[Za f];have g:(o.3.1 != a.3.1)=pw:=by simp[f]
   show _=((o.3.1 != a.3.1)&&_)
   rw[g,Bool.true_and]
 .have:gF (qp d a.3.1 (iq a.1)) a=pw:=by
   unfold gF;rw[Dy,Zb R];simp[iq]
  rw[cJ,Zb this];rfl
def tU(g:ww (b.map (·.1))){x:PC}(d:x∈b)(h:o∈b)(e:x.1=o.1):x=o:=by
 induction b with
 |nil=>simp at d
 |cons y b ih=>
  have a:=dY.1 (by simpa using g:(y.blk::b.map (·.blk)).Nodup);rcases bM.1 d with rfl|f<;>obtain rfl|c:=bM.1 h
  .rfl
  .exact sj (a.1 (e ▸ bB.2 ⟨o,c,R⟩))
  .exact sj (a.1 (e ▸ bB.2 ⟨x,f,R⟩))
  .exact ih a.2 f c
def swap(o'':PC)(x:PC):PC:=if x.1=o''.1 then o'' else x
def pH(o'' x):(swap o'' x).1=x.1:=by
 unfold swap;split
 .rename_i h;exact si h
 .rfl
def Chs.swap(h:Chs w c e d b)(i:o∈b)(l:o''.1=o.1)(v:o''.3.1=o.3.1)(u:o''.2=o.2\/o''.2=X)(hc:jH w' o'')(m:fT (λk=>k=o.1\/o.2=N k) w w'):Chs w' c e d (b.map (swap o'')):=by
 have q:∀x∈b,x.1=o.1->x=o:=λx f a=>tU h.4 f i a
 have k:∀x∈b,∀j,(Hm.swap o'' x).2=N j->x.2=N j:=λx f j a=>by
  unfold Hm.swap at a;split at a
  .rename_i n;rw[q x f (oy n l)];obtain g|g:=u
   .rw[<-g];exact a
   .rw[g]at a;cases a
  .exact a
 refine⟨h.1.of_block (m.5 _ h.1.lt (λa=>?_)),?_,?_,?_,?_,?_,?_⟩
 .obtain a|a:=a
  .exact iB (h.3 o i).1 h.1 (si a)
  .exact h.6 o i a
 .rw[aV,fB]
  have:((λo:PC=>iq o.1)∘Hm.swap o'')=λo=>iq o.1:=by
   funext x;simp only[Function.comp,pH]
  rw[this];refine h.2.gE m (λg s a=>?_);let⟨y,n⟩:=h.2.obj s;obtain rfl|a:=a
  .have:=(h.3 o i).1;unfold qF at this;rw[n]at this;simp at this
  .cases p:o.3.4
   .obtain⟨⟨B,r,t⟩,_⟩:=(h.3 o i).5 p;rw[r]at a;cases a;exact iB n t R
   .rw[((h.3 o i).6 p).2]at a;cases a
 .intro y t;obtain⟨x,f,rfl⟩:=bB.1 t;unfold Hm.swap;split
  .exact hc
  .rename_i n;refine(h.3 x f).gE m (λa=>?_) (λj g a=>?_)
   .obtain a|a:=a
    .exact n (oy a (si l))
    .cases p:o.3.4
     .obtain⟨⟨B,r,s⟩,_⟩:=(h.3 o i).5 p;rw[r]at a;cases a;exact iB (h.3 x f).1 s R
     .rw[((h.3 o i).6 p).2]at a;cases a
   .obtain a|a:=a
    .subst a;cases p:x.3.4
     .obtain⟨⟨B,r,s⟩,_⟩:=(h.3 x f).5 p;rw[r]at g;cases g;exact iB (h.3 o i).1 s R
     .rw[((h.3 x f).6 p).2]at g;cases g
    .exact n (oy (h.5 x o f i j g a) (si l))
 .rw[fB]
  have:((λo:PC=>o.1)∘Hm.swap o'')=λo=>o.1:=by
   funext x;simp only[Function.comp,pH]
  rw[this];exact h.4
 .intro x z f y j s t;obtain⟨p,g,rfl⟩:=bB.1 f;obtain⟨r,n,rfl⟩:=bB.1 y;rw[pH,pH];exact h.5 p r g n j (k p g j s) (k r n j t)
 .intro x f a;obtain⟨n,g,rfl⟩:=bB.1 f;exact h.6 n g (k n g c a)
 .intro p g;obtain⟨x,f,rfl⟩:=h.7 p g;refine⟨_,bB.2 ⟨x,f,R⟩,?_⟩;rw[pH];unfold Hm.swap;split
  .rename_i n;rw[q x f (oy n l),v]
  .rfl
def KB(i:o∈b)(f:o''.1=o.1)(g:o''.2=o.2\/o''.2=X)(h:Own c e (b.map (swap o'')) k):Own c e b k:=by
 obtain a|a|⟨y,l,a⟩:=h
 .exact rr a
 .exact rz (rr a)
 .obtain⟨x,j,rfl⟩:=bB.1 l;unfold swap at a;split at a
  .refine rz (rz ⟨o,i,?_⟩);obtain a|a:=a
   .exact rr (oy a f)
   .obtain d|d:=g
    .exact rz (by rw[<-d];exact a)
    .rw[d]at a;cases a
  .exact rz (rz ⟨x,j,a⟩)
def zf(h:Chs w c e d b)(r:o∈b)(j:o''.1=o.1)(iO:o''.3=Dv.joined a o.3 f)(q:o.3.1=f.1)(p:jB d f.1=N (iq o.1)):fS d (b.map (swap o''))=(fS d b).map (nK a f):=by
 have s:(Dv.joined a o.3 f).1=o.3.1:=by
  unfold Dv.joined;split
  .rfl
  .split<;>rfl
 have m:∀x∈b,x.1=o.1->x=o:=λx i g=>tU h.4 i r g;unfold fS;rw[qaE,fB,fB]
 have n:∀x∈b,(gF d∘swap o'') x=gF d x:=λx i=>by
  simp only[Function.comp];unfold swap;split
  .rename_i g;rw[m x i (oy g j)];unfold gF;rw[iO,s,j]
  .rfl
 rw[qah n];refine eW (λx i=>?_);let⟨i,l⟩:=dD.1 i;simp only[Function.comp];unfold swap nK;by_cases g:x.1=o.1
 .rw[Zb (oy g (si j)),m x i g,Zb q,iO]
 .rw[Za (λk=>g (oy k j)),Za];intro k;have:gF d x=(o.1 == x.1):=mE (by rw[k];exact p);rw[this]at l;simp only[Zk]at l;exact g (si l)
def E5(g:jB d f.1=X):(fS d b).map (nK a f)=fS d b:=by
 rw[eW (g:=id),List.map_id];intro i hc;unfold fS at hc;obtain⟨x,h,rfl⟩:=bB.1 hc;have c:=(dD.1 h).2;unfold nK;rw[Za]
 .rfl
 .intro e;rw[oI (by rw[e];exact g)]at c;cases c
def BU(h:Chs w c e d b)(g:o∈b)(j:kG o.3 f=pw)(m:o.3.1=f.1)(k:jB d f.1=N (iq o.1)):(fS d b).map (nK a f)=fS d b:=by
 have l:Dv.joined a o.3 f=o.3:=by unfold Dv.joined;rw[Zb j]
 rw[<-zf h g (o'':=o) R (si l) m k]
 congr 1
 rw[eW (g:=id),List.map_id];intro x n;unfold swap;split
 .rename_i i;exact si (tU h.4 n g i)
 .rfl
def Vk:PQ.underlying 197=N (.pointer (PQ.pointee 197)):=Zm
def Jf(w):(binOp .neq 197 (pm X) (pm X)).run PQ w=.ok (rh pi) w:=run_neq_pointer_nil w _ X Vk
def Ka(w b):(binOp .neq 197 (pm (N ⟨b,0,X⟩)) (pm X)).run PQ w=.ok (rh pw) w:=run_neq_pointer_nil w _ (N _) Vk
def EO(a c f):(Dv.joined a c f).1=c.1:=by
 unfold Dv.joined;split
 .rfl
 .split<;>rfl
structure wU(kb nb:Nat)(cs:Array po)(vo:po)(os:List PC)(w:pn)(vo':po)(nm':AL)(os':List PC)(w':pn):Prop where
 obj:w'.1[kb]? =N (pj (qb cs 9 vo') 137 (0,0))
 chs:Chs w' nb vo' nm' os'
 gE:fT (λk=>k=kb\/Own nb vo os k) w w'
 own:∀k,Own nb vo' os' k->Own nb vo os k\/w.1.size<=k
 len:M os'<=M os+1
def take_any(z A cs C S r f)(n:Nat)(Q w)(c:w.1[z]? =N (pj cs 137 (0,0)))(t:cs[8]? =N (.map (N A)))(m:cs[9]? =N C)(h:Chs w A C S r)(av:M r<=4294967295)(x:f.2<65536/\M f.3<=65536)(E:0<=Q/\Q<=4294967296):tf PQ 72 #[pm (N ⟨z,8,X⟩),CY f,ox pg n,ox pg Q] w λe V=>e=qs (sh #[])/\∃af aj ak,wU z A cs C r w af aj ak V/\fS aj ak=Dv.frame Q n (fS S r) f:=by
 rw[JV];obtain⟨j,l,P,G⟩:=f;unfold CY;dsimp only at *;obtain⟨O,u⟩:∃O:ByteArray,(⟨py P⟩:ByteArray)=O:=⟨_,R⟩
 rw[u];let⟨ac,hW,g,s⟩:=fL w #[ox sr j,ox XX l,pk O,.bool G] 81;have au:↑w<ac.1.size:=by rw[hW];simp
 let⟨z0,z1⟩:=cells2 s;have y:ac.1[z]? =_:=oy (g.5 _ (fO c)) c;have o:=h.fF g;have ai:=open_any z A cs C S r j n ac y t m o aA;have an:qu _:=λ(_:Unit)=>ai;have ar:=(fO c)
 have H:qu _:=fE c (fE t (fE m (fE h (fE g (fE s (fE y (fE o (fE x (fE E u)))))))));clear c t m h g s y o ai x E u;go_enter (fq func72 R),ntmps72;go_upto_if 11 with fail;rw[<-hW];clear hW;go_cut [16] (λ_ d=>qu (∃i a b,wU z A cs C r w i a b d/\fS a b=opened n ⟨j,l,P,G⟩ (fS S r)/\d.1[w.1.size]? =N (pj #[ox sr j,ox XX l,pk O,.bool G] 81 (0,0))))
 case first=>
  by_cases a:l=0
  .have d:((l:Int) == 0)=pw:=by rw[a];rfl
   have p:qu _:=a;rw[d];clear d a;go_wp2_with (go_at_call 112;refine aO (an ()) ?_;rintro e w2 ⟨rfl,af,W,B,D,F,I,J,K,i⟩)
   go_meet;let⟨c,t,m,h,g,s,y,o,x,E,u⟩:=H.out;have T:=g.4
   have q:fT (λk=>k=z\/Own A C r k) w w2:=(fT.fF g fI _).trans i (λk _ e=>by
    obtain e|e|e:=e
    .exact rr e
    .exact rz (rr e)
    .exact rz (rz (rr e)))
   refine⟨af,_,_,⟨B,F,q,λk v=>?_,aC⟩,?_,?_⟩
   .obtain e|e|⟨L,b,e⟩:=v
    .exact rr (rr e)
    .obtain e|e:=K k e
     .exact rr (rz (rr e))
     .exact rz aA
    .obtain b|b:=bV.1 b
     .exact rr (rz (rz ⟨L,b,e⟩))
     .rw[bT.1 b]at e;obtain e|e:=e
      .exact rz aA
      .have:=J k e;exact rz aA
   .have:=Gx o I;rw[D]at this;rw[this];unfold opened;rw[Zb p.out]
   .refine oy (i.5 _ au ?_) s;rintro(e|e|e)
    .omega
    .have:=h.1.lt;omega
    .have:=h.2.lt e;omega
  .have b:((l:Int) == 0)=pi:=Zc aA;have d:qu _:=a;rw[b];clear b a;go_wp2;go_meet;let⟨c,t,m,h,g,s,y,o,x,E,u⟩:=H.out;refine⟨C,S,r,⟨?_,o,.fF g fI _,λk i=>rr i,aA⟩,?_,s⟩
   .have:qb cs 9 C=cs:=by
     refine dG (λq=>?_);rw[aQ];by_cases e:9=q
     .subst e;have p:=(fO m)
      rw[Zb R,Zb p,m]
     .rw[Za e]
    rw[this];exact y
   .unfold opened;rw[Za d.out]
 case rest=>
  let⟨T,aa,ab,a,p,D⟩:=hcut.out;let⟨c,t,m,h,g,s,y,o,x,E,u⟩:=H.out;have e8:Z wc ⟨z,8,X⟩=N (.map (N A)):=by rw[aG a.1,aQ,Za aA];exact t
  have y0:=kZ D;have K:=(a.2.1.of_block (w':=xp wc) R).lookup (P:=PQ) (uq Zu) (uq XZ) (LX _) j pi;simp only[bE,if_false]at K;have W:Below ↑wc wc (xp wc):=rk (aH _ _);have aw:=Jf;have ax:=Ka;have tail:∀V,Below ↑wc wc V->wU z A cs C r w T aa ab V:=λV d=>⟨oy (d.5 _ (fO a.1)) a.1,a.2.fF d,a.3.trans (.fF d fI (λ_=>False)) (λ_ _ e=>sj e),a.4,a.5⟩
  obtain b|⟨B,i,L,b⟩:=a.2.get (n:=j)
  .rw[b]at K;simp only[Option.getD_none]at K;have q:qu _:=fE tail (fE p b);clear c t m h g s y o x E u a p D b hcut tail z0 z1;go_upto_region 3 with fail;go_cut [8] (λv F=>v=pm X/\F=xp wc)
   case first=>
    go_region
    all_goals
     go_wp2;go_meet;exact⟨R,R⟩
   case rest=>
    obtain⟨rfl,rfl⟩:=hcut;go_wp2;go_end0;let⟨tail,p,b⟩:=q.out;refine⟨R,T,aa,ab,tail _ W,?_⟩;rw[<-p,E5 b]
  .rw[b]at K;simp only[cW]at K;unfold iq at K;have ae:=a.2.fF W;have F:=Eg B ⟨j,l,P,G⟩ _ (ae.3 B i) x.1;have J:=λW' ap d=>KL B ⟨j,l,P,G⟩ Q W' ((ae.fF ap).3 B i) d x E;unfold CY at F J;dsimp only at F J;rw[u]at F J;obtain⟨ad,d⟩:∃ad,kG B.3 ⟨j,l,P,G⟩=ad:=⟨_,R⟩
   rw[d]at F J;have zd:(xp wc).1[w.1.size]? =N (pj #[ox sr j,ox XX l,pk O,.bool G] 81 (0,0)):=D;let⟨x0,x1,x2,x3⟩:=iP D;have ag:qu _:=λ(_:Unit)=>F;have am:qu _:=J;have HT:qu _:=fE tail (fE p (fE b (fE i (fE L (fE d (fE a (fE c (fE h D))))))));have Y:=(fO D)
   clear c t m h g s y o x E u a p D b hcut tail F J ae zd i L d z0 z1;go_upto_region 3 with fail;go_cut [8] (λv q=>v=pm (N ⟨B.1,0,X⟩)/\q=xp wc)
   case first=>
    go_region
    all_goals
     go_wp2;go_meet;exact⟨R,R⟩
   case rest=>
    obtain⟨rfl,rfl⟩:=hcut;cases ad
    .go_wp2_with (first|(go_at_call 113;refine aO (ag ()) ?_;rintro e w2 ⟨rfl,I⟩;have az:=oy (qi I (p:=⟨↑w,0,X⟩) Y) x0;have a0:=oy (qi I (p:=⟨↑w,1,X⟩) Y) x1;have a1:=oy (qi I (p:=⟨↑w,2,X⟩) Y) x2;have a2:=oy (qi I (p:=⟨↑w,3,X⟩) Y) x3)|(go_at_call 114;(refine aO (am _ I trivial) ?_;rintro e w3 ⟨rfl,ay,j1,j2,j3,j4,j5⟩))|fail)
     go_end0;let⟨tail,p,b,i,L,d,a,c,h,D⟩:=HT.out;have q:=tail _ (ow W I);have ah:∀k,(k=B.1\/B.2=N k)->Own A T ab k:=λk e=>rz (rz ⟨B,i,e⟩);have ao:=q.2.swap i j1 (by rw[j2,EO]) j3 j4 j5;refine⟨R,T,aa,_,⟨?_,ao,?_,λk aq=>q.4 k (KB i j1 j3 aq),by rw[aV];exact q.5⟩,?_⟩
     .refine oy (j5.5 _ (fO q.1) (λe=>?_)) q.1;exact q.2.iQ q.1 aB aB (ah _ e)
     .refine q.3.trans j5 (λk ar e=>?_);obtain e|e:=q.4 k (ah k e)
      .exact rz e
      .omega
     .rw[<-p];exact zf q.2 i j1 j2 L b
    .go_wp2_with (first|(go_at_call 113;refine aO (ag ()) ?_;rintro e w2 ⟨rfl,q⟩)|fail)
     go_end0;let⟨tail,p,b,i,L,d,a,c,h,D⟩:=HT.out;refine⟨R,T,aa,ab,tail _ (ow W q),?_⟩;rw[<-p,BU a.2 i d L b]
def uW(j c d b e o w)(h:Core w d b e)(n:o∈e)(q:Z w ⟨j,0,X⟩=N (pm (N ⟨c,8,X⟩)))(l:Z w ⟨c,8,X⟩=N (.map (N d))):tf PQ 106 #[iq o.1,pm (N ⟨j,0,X⟩)] w λg p=>g=qs (.bool (!gF b o))/\∃m,p=tj w m:=by
 have a:=nZ c d 8 b e o w h n l;unfold iq at a⊢;obtain⟨f,i⟩:∃f,gF b o=f:=⟨_,R⟩
 rw[i]at a⊢;have k:qu _:=λ(_:Unit)=>a;clear a i h;go_enter (fq func106 R),ntmps106;go_wp2_with (go_at_call 104;refine aO (k ()) ?_;rintro g w2 ⟨rfl,m,rfl⟩)
 go_ret;exact⟨R,m,R⟩
def FG(u r s e t l v w)(h:Core w s e t)(D:∀o∈l,o∈t)(p:Rd w 1 v (M l) (l.map λo=>iq o.1))(E:Z w ⟨u,0,X⟩=N (pm (N ⟨r,8,X⟩)))(C:Z w ⟨r,8,X⟩=N (.map (N s)))(aa:M l<=4294967296):tf PQ 152 #[v,.func (.func 106) #[] #[pm (N ⟨u,0,X⟩)]] w λk P=>k=qs (ox pg (idx (λo=>!gF e o) l))/\∃m,P=tj w m:=by
 have W:=enters_of (P:=PQ) (fq func106 R) Zm R;obtain⟨S,J,n,rfl⟩|⟨g,O,J,n,rfl⟩:=Rd.cases p
 .obtain rfl:=bC n;go_enter (fq func152 R),ntmps152;go_wp2;go_loopg [5,8] 0 (λc _ a b=>a=ox pg 0/\b=w)
  case atStart=>exact⟨R,R⟩
  case round=>
   obtain⟨rfl,rfl⟩:=hrel;go_wp2;go_ret;exact⟨R,0,R⟩
 .obtain⟨Y,ac,T,F,_,hg,G⟩:=p.pos n;simp only[ry,aI,zs,and_true,true_and]at F;obtain⟨⟨rfl,rfl⟩,rfl⟩:=F;have A:=λm o b=>uW u r s e t o _ (h.drewN m) (D o b) E C;have B:∀(j m:Nat)(o:PC),l[j]? =N o->Z (tj w m) ⟨g,O+j,X⟩=N (iq o.1):=λj m o a=>G j _ (by rw[cT,a];rfl);have x:qu _:=fE B A;clear B A p h D G E C;go_enter (fq func152 R),ntmps152;go_wp2;go_loopg [5,8] (M l) (λc _ d f=>∃i m:Nat,i<=M l/\d=ox pg i/\c=M l-i/\qu (∀(j:Nat)(y:PC),j<i->l[j]? =N y->(!gF e y)=pi)/\f=tj w m)
  case atStart=>exact⟨0,0,bU _,R,R,λj y a=>aA,R⟩
  case round=>
   obtain⟨i,m,hi,rfl,rfl,f,rfl⟩:=hrel;by_cases K:i<M l
   .have ab:(i:Int)<M l:=by omega
    obtain⟨o,b⟩:∃o,l[i]? =N o:=⟨_,aK K⟩
    have H:=x.1 i m o b;have hc:=x.2 m o (aS b);unfold iq at H hc;have y:qu _:=b;obtain⟨V,d⟩:∃V,V=tj w m:=⟨_,R⟩
    rw[<-d]at H hc⊢;cases c:(!gF e o)
    .rw[c]at hc;have I:qu _:=λ(_:Unit)=>hc;have z:qu _:=fE c d;clear hc b c d;go_wp2_with (go_at_call 106;refine aO (I ()) ?_;rintro k w2 ⟨rfl,L,rfl⟩)
     go_roundg (M l-(i+1))
     case measure=>omega
     case rel=>
      refine⟨_,m+L,aA,by go_num,R,λj Q a q=>?_,?_⟩
      .obtain a|rfl:=eY (Nat.lt_succ_iff.1 a)
       .exact f j Q a q
       .rw[y.out]at q;cases q;exact z.1
      .rw[z.out.2];simp
    .rw[c]at hc;have z:qu _:=λ(_:Unit)=>hc;have q:qu _:=fE c d;clear hc b c d;go_wp2_with (go_at_call 106;refine aO (z ()) ?_;rintro k w2 ⟨rfl,L,rfl⟩)
     go_ret;refine⟨by rw[yA y.out q.out.1 (λj Q a I=>f.out j Q a I)];rfl,m+L,?_⟩;rw[q.out.2];simp
   .have d:¬(i:Int)<M l:=by omega
    go_wp2;go_ret;refine⟨?_,m,R⟩;rw[wP (λj y c=>f.out j y (by have:=(aJ.1 c).1;omega) c)];rfl
section
variable {e n g b a i j:Nat}{α:Type}{l:List PC}{p:PC->Bool}{ys:List po}
def fM.cleared{xs}(h:fM w e 1 (U (N ⟨g,b,X⟩) n a) n xs)(x:i<=n)(vs):fM (w.setCells g (b+i) vs) e 1 (U (N ⟨g,b,X⟩) i a) i (xs.take i):=by
 refine⟨by rw[bA,h.1];omega,?_⟩;obtain⟨k,_⟩|⟨u,A,s,t,d,o,y,l,m,hc⟩:=h.2
 .cases k
 .simp only[ry,aI,zs,and_true,true_and]at d;obtain⟨⟨rfl,rfl⟩,rfl⟩:=d;let⟨f,p,q,r,z⟩:=nW vs (b+i) o;refine rz ⟨g,b,a,f,R,p,aA,l,by rw[q];exact m,λj v c=>?_⟩;rw[dM]at c;split at c
  .rw[r _ (rr aA)];exact hc j v c
  .cases c
structure jV(l:List PC)(p:PC->Bool)(ys:List po)(i j:Nat):Prop where
 len:M ys=M l
 lt:i<j
 le:j<=M l
 front:ys.take i=((l.take j).filter p).map λo=>iq o.1
 back:ys.drop j=(l.map λo=>iq o.1).drop j
def take_snoc{l:List α}{x}(h:l[j]? =N x):l.take (j+1)=l.take j++[x]:=by obtain⟨a,rfl⟩:=aJ.1 h;exact cO a
def jV.start{x}(b:l[i]? =N x)(c:p x=pi)(h:∀(j y),j<i->l[j]? =N y->p y=pw):jV l p (l.map λo=>iq o.1) i (i+1):=by
 have e:=(aJ.1 b).1;refine⟨aC,aA,aA,?_,R⟩;rw[take_snoc b,eA,cJ,Za lm,Z6,dI,<-List.map_take]
 congr 1
 symm;refine eK.2 (λy d=>?_);let⟨k,a⟩:=qbg d;rw[dM]at a;split at a
 .exact h k y (by assumption) a
 .cases a
def jV.at(h:jV l p ys i j)(a:l[j]? =N o):ys[j]? =N (iq o.1):=by have:=Zf (λq=>q[0]?) h.5;simpa[eN,a]using this
def jV.drop(h:jV l p ys i j)(a:l[j]? =N o)(hp:p o=pi):jV l p ys i (j+1):=by
 have b:=(aJ.1 a).1;refine⟨h.1,by have:=h.2;omega,aA,?_,?_⟩
 .rw[h.4,take_snoc a,eA,cJ,Za (by rw[hp];simp),Z6,dI]
 .have:=Zf (List.drop 1) h.5;simpa[dW]using this
def jV.keep(h:jV l p ys i j)(a:l[j]? =N o)(hp:p o=pw):jV l p (ys.set i (iq o.1)) (i+1) (j+1):=by
 have e:=(aJ.1 a).1;have d:=h.2;have b:=h.1;refine⟨by rw[List.length_set];exact b,aA,aA,?_,?_⟩
 .rw[take_snoc a,eA,aZ,<-h.4,cJ,Zb hp,Z6];rw[List.take_set];have c:ys.take (i+1)=ys.take i++[ys[i]' aA]:=cO aA;rw[c,List.set_append_right _ _ nn]
  congr 1
  rw[bA,dF aA];simp
 .rw[List.drop_set_of_lt aA];have:=Zf (List.drop 1) h.5;simpa[dW]using this
def jV.all(h:jV l p ys i (M l)):ys.take i=(l.filter p).map λo=>iq o.1:=by rw[h.4,eD]
def jV.count(h:jV l p ys i j):i=M ((l.take j).filter p):=by have:=Zf M h.4;rw[bA,aV,h.1]at this;have:=h.2;have:=h.3;omega
def DT(u t A f c v w)(h:Core w A f c)(n:fM w 197 1 v (M c) (c.map λo=>iq o.1))(ai ah)(s:w.1[u]? =N (pj ai 196 (0,0)))(G:ai[0]? =N (pm (N ⟨t,8,X⟩)))(r:w.1[t]? =N (pj ah 137 (0,0)))(F:ah[8]? =N (.map (N A)))(ao:M c<=4294967296):tf PQ 105 #[v,.func (.func 106) #[] #[pm (N ⟨u,0,X⟩)]] w λe H=>∃C k a,e=qs (U C k a)/\k=M (c.filter (gF f))/\fM H 197 1 (U C k a) k ((c.filter (gF f)).map λo=>iq o.1)/\ov (U C k a)=ov v/\fT (λk=>ov v=N k) w H:=by
 have eg:=enters_of (P:=PQ) (fq func106 R) Zm R;have O:Z w ⟨u,0,X⟩=N (pm (N ⟨t,8,X⟩)):=by rw[aG s];exact G
 have L:Z w ⟨t,8,X⟩=N (.map (N A)):=by rw[aG r];exact F
 have y:=FG u t A f c c v w h (λo d=>d) n.rd O L ao;cases x:c.findIdx? (λo=>!gF f o)with
 |none=>
  have d:c.filter (gF f)=c:=eK.2 (λo l=>by
   have:=List.findIdx?_eq_none_iff.1 x o l;simpa using this)
  have g:idx (λo=>!gF f o) c=-1:=by unfold idx;rw[x]
  rw[g]at y;rw[d];obtain⟨C,a,rfl⟩:=n.slice;have i:qu _:=λ(_:Unit)=>y;have j:qu (fM _ _ _ _ _ _):=n;clear y n h s G r F O L x d g;go_enter (fq func105 R),ntmps105;go_wp2_with (go_at_call 152;refine aO (i ()) ?_;rintro e w2 ⟨rfl,m,rfl⟩)
  go_ret;exact⟨C,_,a,R,R,j.kept (λ_ _=>R),R,⟨R,R,R,fI,λ_ _ _=>R⟩⟩
 |some z=>
  let⟨an,ag,S⟩:=eQ.1 x;have Y:idx (λo=>!gF f o) c=z:=by unfold idx;rw[x]
  rw[Y]at y;obtain⟨g,b,a,rfl,a1⟩:=n.pos aA
  have af:jV c (gF f) (c.map λo=>iq o.1) z (z+1):=jV.start (aK an) (by simpa using ag) (λj a3 hj hy=>by
   obtain⟨d,rfl⟩:=aJ.1 hy;have:=S j hj;simpa using this)
  have au:g<↑w:=n.lt R;let⟨rc,D⟩:=n.obj (g:=g) R;have ae:u≠g:=λe=>by rw[e,D]at s;simp at s
  have aa:t≠g:=λe=>by rw[e,D]at r;simp at r
  have ab:A≠g:=λe=>iB D h.1 (si e)
  have ac:∀o∈c,o.1≠g:=λo l e=>by
   have:=h.2 o l;unfold qF at this;rw[e,D]at this;simp at this
  have T:∀W,fT (λk=>k=g) w W->∀o∈c,tf PQ 106 #[pm (N ⟨o.1,0,X⟩),pm (N ⟨u,0,X⟩)] W λe H=>e=qs (.bool (!gF f o))/\∃m,H=tj W m:=λW J o l=>
   uW u t A f c o W (h.gE J ab (λo l=>ac o l)) l (by rw[aG (oy (J.5 _ (fO s) ae) s)];exact G) (by rw[aG (oy (J.5 _ (fO r) aa) r)];exact F)
  have ak:qu _:=λ(_:Unit)=>y;have aj:qu _:=T;have Q:qu _:=fE n af;have a2:((z:Int) == -1)=pi:=Zc aA;clear y n h s G r F O L x Y ag S af T D ae aa ab ac;go_enter (fq func105 R),ntmps105;go_wp2_with (go_at_call 152;refine aO (ak ()) ?_;rintro e w2 ⟨rfl,m,rfl⟩)
  go_loopg [5,6,7] (M c-(z+1)) (λp q B _ d=>∃(i j:Nat)(ys:List po),q=ox pg i/\B=ox pg j/\p=M c-j/\i<j/\j<=M c/\qu (jV c (gF f) ys i j/\fM d 197 1 (U (N ⟨g,b,X⟩) (M c) a) (M c) ys/\fT (λk=>k=g) w d))
  case atStart=>exact⟨z,_,_,R,by go_num,aA,aA,aA,Q.2,Q.1.kept (λ_ _=>R),⟨R,R,R,fI,λ_ _ _=>R⟩⟩
  case round=>
   obtain⟨i,j,ys,rfl,rfl,rfl,ay,az,B⟩:=hrel;by_cases ap:j<M c
   .have ar:(j:Int)<M c:=by omega
    obtain⟨o,l⟩:∃o,c[j]? =N o:=⟨_,aK ap⟩
    let⟨q,p,d⟩:=B.out;have k0:=p.cell R j _ (q.at l);unfold iq at k0;have hc:=aj wr d o (aS l);obtain⟨I,K⟩:∃I,gF f o=I:=⟨_,R⟩
    rw[K]at hc;have P:qu _:=λ(_:Unit)=>hc;have E:qu _:=fE l K;have V:=p.there (j:=i) aA;have am:=p.frozen R;let⟨ci,ad⟩:=qaf.1 V;clear hc l K q p d V;cases I
    .go_wp2_with (go_at_call 106;refine aO (P ()) ?_;rintro e w2 ⟨rfl,m2,rfl⟩)
     go_roundg (M c-(j+1))
     case measure=>omega
     case rel=>
      let⟨q,p,d⟩:=B.out;exact⟨i,_,ys,R,by go_num,R,aA,aA,q.drop E.1 E.2,p.kept (λ_ _=>R),⟨d.1,d.2,d.3,d.4,d.5⟩⟩
    .have aq:(i:Int)<M c:=by omega
     go_wp2_with (go_at_call 106;refine aO (P ()) ?_;rintro e w2 ⟨rfl,m2,rfl⟩)
     go_roundg (M c-(j+1))
     case measure=>omega
     case rel=>
      let⟨q,p,d⟩:=B.out;refine⟨_,_,_,by go_num,by go_num,R,aA,aA,q.keep E.1 E.2,?_,?_⟩
      .exact(p.kept (w':=tj wr m2) (λ_ _=>R)).put _
      .have d4:fT (λk=>k=g) w (tj wr m2):=⟨d.1,d.2,d.3,d.4,d.5⟩
       exact d4.trans (fT.set _ g _ _) (λ_ _ e=>e)
   .have a0:¬(j:Int)<M c:=by omega
    obtain rfl:j=M c:=aA
    let⟨p,d,E⟩:=B.out;have av:(i:Int)<=M c:=aA
    have aw:(i:Int)<=a:=aA
    have ax:(M c:Int)<=a:=aA
    have aq:¬(i=a):=aA
    have I:=λq (hq:q<M c-i)=>d.there (j:=i+q) aA;have V:=d.frozen R
    have K:∀q,q<M c-i->te (Z wr ⟨g,b+i+q,X⟩)=pw:=λq hq=>by
     have:=I q hq;exact il
    have ar:=Lib.run_clear_slice (P:=PQ) wr 131 197 0 _ (uq underlying131) LX R R g _ _ (a-i) aA K (λq _=>V _);clear p d E I K V;go_wp2;go_ret;let⟨p,d,E⟩:=B.out;have P:=p.count;rw[eD]at P;have am:=p.all;have ad:=d.cleared (i:=i) aA (List.replicate (M c-i) (pm X));rw[am]at ad;refine⟨_,i,a,R,P,ad,R,?_⟩;exact(E.trans (.grown (gY g _ _ wr).1) (λk _ e=>io)).mono (λk _ e=>by rw[e];rfl)
end
variable {b:Nat}{vo:po}{a:List PC}
def C8(m k k'):jB (kQ m k) k'=if k'=k then X else jB m k':=by
 unfold jB kQ;rw[List.find?_filter];by_cases h:k'=k
 .subst h;rw[Zb R,List.find?_eq_none.2]
  .rfl
  .intro p _ e;simp at e
 .rw[Za h]
  congr 1
  congr 1
  funext p;by_cases a:p.1=k'
  .have b:(p.1 == k')=pw:=by simp[a]
   have c:(p.1 != k)=pw:=by simp[a,h]
   rw[b,c];rfl
  .have b:=Zc a;exact kq
def Chs.del(h:Chs w b vo d a)(l:jh w' b sr (kQ d k))(f:fT (λj=>j=b) w w'):Chs w' b vo (kQ d k) a:=by refine⟨l,h.2.gE f (λg j e=>?_),λo c=>(h.3 o c).gE f (iB (h.3 o c).1 h.1) (λn i e=>h.6 o c (by rw[i,e])),h.4,h.5,h.6,λp m=>h.7 p (dD.1 m).1⟩;let⟨q,hc⟩:=h.2.obj j;exact iB hc h.1 e
def Bx(c:gF d o=pw)(j:ww (a.map (·.1)))(k:o∈a)(h:Chs w b vo d a):∀x∈a,gF (kQ d o.3.1) x=(gF d x&&x.1 != o.1):=λx l=>by
 by_cases e:x.3.1=o.3.1
 .have i:gF (kQ d o.3.1) x=pi:=oI (by rw[C8,Zb e]);rw[i];obtain f|⟨y,n,p,f⟩:=h.get (n:=o.3.1)
  .rw[oI f]at c;cases c
  .rw[mE f]at c;have m:y.1=o.1:=by simpa using c
   rw[mE (by rw[e];exact f),m];by_cases g:o.1=x.1
   .rw[g];simp
   .have:=Zc g;rw[this];rfl
 .have g:gF (kQ d o.3.1) x=gF d x:=by
   unfold gF;rw[C8,Za e]
  rw[g]
  have:x.1≠o.1:=λf=>e (by
   have:=tU j l k f;rw[this])
  simp[this]
variable {kb nb i:Nat}{cs:Array po}{nm nm':AL}{os:List PC}{oldest:Int}{w0:pn}
structure kH(kb nb:Nat)(cs:Array po)(vo:po)(nm:AL)(os:List PC)(oldest:Int)(w0:pn)(i:Nat)(nm':AL)(w:pn):Prop where
 obj:w.1[kb]? =N (pj cs 137 (0,0))
 chs:Chs w nb vo nm' os
 gE:fT (λk=>k=nb) w0 w
 who:∀x∈os,gF nm' x=(gF nm x&&!(decide (x.1∈(os.take i).map (·.1))&&decide ((x.3.2:Int)<oldest)))
def kH.fF(h:kH kb nb cs vo nm os oldest w0 i nm' w)(a:Below ↑w w w'):kH kb nb cs vo nm os oldest w0 i nm' w':=
 ⟨oy (a.5 _ (fO h.1)) h.1,h.2.fF a,h.3.trans (.fF a fI (λ_=>False)) (λ_ _ e=>sj e),h.4⟩
def rR{x:PC}(a:os[i]? =N o):x.1∈(os.take (i+1)).map (·.1)↔(x.1∈(os.take i).map (·.1)\/x.1=o.1):=by rw[take_snoc a,aZ];simp
def Mn(l:ww (os.map (·.1)))(m:os[i]? =N o):o.1∉(os.take i).map (·.1):=λh=>by
 let⟨y,n,e⟩:=bB.1 h;let⟨k,a⟩:=qbg n;rw[dM]at a;split at a
 .rename_i j;have b:List.Pairwise (·≠·) (os.map (·.1)):=l;rw[dX]at b;let⟨c,d⟩:=aJ.1 a;let⟨f,g⟩:=aJ.1 m;exact b k i lr mw j (by simp[d,g,e])
 .cases a
def kH.stay(h:kH kb nb cs vo nm os oldest w0 i nm' w)(b:os[i]? =N o)(a:gF nm' o=pi\/¬(o.3.2:Int)<oldest):kH kb nb cs vo nm os oldest w0 (i+1) nm' w:=by
 refine⟨h.1,h.2,h.3,λx c=>?_⟩;by_cases e:x.1=o.1
 .have:=tU h.2.4 c (aS b) e;subst this;have d:=Ze ((rR b).2 (rz R));have f:=Zd (Mn h.2.4 b);have hw:=h.4 x c;rw[f]at hw;simp only[Bool.false_and,Bool.not_false,Bool.and_true]at hw;rw[d];obtain a|a:=a
  .rw[a]at hw;rw[a,<-hw];rfl
  .rw[Zd a,hw];simp
 .rw[h.4 x c];have:decide (x.1∈(os.take (i+1)).map (·.1))=decide (x.1∈(os.take i).map (·.1)):=decide_eq_decide.2 (by rw[rR b];simp[e]);rw[this]
def kH.gone(h:kH kb nb cs vo nm os oldest w0 i nm' w)(a:os[i]? =N o)(g:gF nm' o=pw)(k:(o.3.2:Int)<oldest)(c:jh w' nb sr (kQ nm' o.3.1))(b:fT (λd=>d=nb) w w')(j:kb≠nb):kH kb nb cs vo nm os oldest w0 (i+1) (kQ nm' o.3.1) w':=by
 refine⟨oy (b.5 _ (fO h.1) j) h.1,h.2.del c b,h.3.trans b (λ_ _ e=>e),λx d=>?_⟩;rw[Bx g h.2.4 (aS a) h.2 x d,h.4 x d];by_cases e:x.1=o.1
 .have:=tU h.2.4 d (aS a) e;subst this;have c:=Ze ((rR a).2 (rz R));rw[c,Ze k];simp
 .have:decide (x.1∈(os.take (i+1)).map (·.1))=decide (x.1∈(os.take i).map (·.1)):=decide_eq_decide.2 (by rw[rR a];simp[e]);have f:(x.1 != o.1)=pw:=by simp[e]
  rw[this,f,Bool.and_true]
def kH.fS(h:kH kb nb cs vo nm os oldest w0 (M os) nm' w):fS nm' os=(Hm.fS nm os).filter (λc=>!decide ((c.2:Int)<oldest)):=by
 unfold Hm.fS;rw[qaE,Z7]
 congr 1
 refine qah (λx a=>?_);rw[h.4 x a,eD];have:decide (x.1∈os.map (·.1))=pw:=Ze (bB.2 ⟨x,a,R⟩);rw[this,Bool.true_and,Bool.and_comm];rfl
def Chs.thin{l}(h:Chs w nb vo nm os)(x:fM w' 197 1 l (M (os.filter (gF nm))) ((os.filter (gF nm)).map λo=>iq o.1))(i:fT (λk=>ov vo=N k) w w'):Chs w' nb l nm (os.filter (gF nm)):=by
 have sub:∀o,o∈os.filter (gF nm)->o∈os:=λo a=>(dD.1 a).1
 have d:∀g,ov vo=N g->g≠nb/\(∀o∈os,g≠o.1/\o.2≠N g):=λg t=>by
  let⟨z,hc⟩:=h.2.obj t;refine⟨iB hc h.1,λo a=>⟨λe=>?_,λe=>?_⟩⟩
  .have:=(h.3 o a).1;unfold qF at this;rw[<-e,hc]at this;simp at this
  .cases k:o.3.4
   .obtain⟨⟨B,n,u⟩,_⟩:=(h.3 o a).5 k;rw[n]at e;cases e;exact iB hc u R
   .rw[((h.3 o a).6 k).2]at e;cases e
 refine⟨h.1.of_block (i.5 _ h.1.lt (λe=>(d _ e).1 R)),x,λo a=>(h.3 o (sub o a)).gE i (λe=>((d _ e).2 o (sub o a)).1 R) (λb c e=>((d _ e).2 o (sub o a)).2 c),(List.filter_sublist.map _).nodup h.4,λf b q c=>h.5 f b (sub f q) (sub b c),λo a=>h.6 o (sub o a),λy j=>?_⟩;obtain⟨o,a,rfl⟩:=h.7 y j;refine⟨o,dD.2 ⟨a,?_⟩,R⟩
 have v:ww (nm.map p9):=by
  obtain⟨p,m,_,_,e,_⟩:=h.1;exact e
 obtain⟨p,m,_,r,_⟩:=h.1;have s:=r.jB v j;rw[mE s];simp
def Gk(nm os):fS nm (os.filter (gF nm))=fS nm os:=by unfold fS;rw[Z7];simp
section
section
variable {P:th}{w:pn}{ops:Array Oper}{o:Oper}{a:Act}{K:Act->pn->Prop}{Q:qaC->Act->pn->Prop}{E:Prop}
def nU(d:o.6=X)(x y:ZT)(t c:wj)(g:o.2=Op.call { callee:=Callee.builtin Builtin.delete,args:=#[x,y],argTypes:=#[t,c] })(e:wj){q:IntKind}(j:P.underlying t=N (.map c e))(f:P.underlying c=N (.int q))
  (B:Nat) (m:AL) (k:Nat) (l:a.eval x=.map (N B)) (n:a.eval y=.int q k) (h:jh w B q m)
  (hK:∀b,jh b B q (kQ m k)->ss w b (N B)->↑b=w.1.size->K (a.put o.1 (sh #[])) b):
  if sy o (yielded ops a.1)=pw then Oper.wp P o a w K Q else E:=by
 have hw:sy o (yielded ops a.1)=pw:=nu
 rw[Zb hw];let⟨b,i,p,r,s⟩:=h.delete j f k o.3;unfold Oper.wp;simp[execOp,g,resolve,invoke,builtin,l,n,i,wi];exact hK b p r s
def jK(F:o.6=X)(s x:ZT)(t:wj)(L:o.2=.call { callee:=.builtin .append,args:=#[s,x],argTypes:=#[t,t] })
  (e:wj) (i:TypeInfo) {z:po} (size bytes:Nat) (Y:P.underlying t=N (.slice e)) (G:P.info? e=N i) (hz:i.8=N z)
  (V:i.3=size) (C:i.4=bytes) (aa:qd z.cells=size) (W:0<size)
  (v:po) (n:Nat) (xs:List po) (T:a.eval s=v) (O:fM w e size v n xs)
  (ad:Addr) (m c:Nat) (b:List po) (hx:a.eval x=U (N ad) m c) (I:0<m) (H:M b=m*size) (J:∀q u,b[q]? =N u->Z w (ad.add q)=N u) (r:∀u∈b,u.oneCell'=pw)
  (B:n+m<=maxLen) (D:(n+m)*bytes<=140737488355328)
  (h:∀g j f d,fM d e size (U (N ⟨g,j,X⟩) (n+m) f) (n+m) (xs++b)->jC v g w d->K (a.put o.1 (U (N ⟨g,j,X⟩) (n+m) f)) d):
  if sy o (yielded ops a.1)=pw then Oper.wp P o a w K Q else E:=by
 have hw:sy o (yielded ops a.1)=pw:=by simp[sy,F]
 rw[Zb hw];obtain⟨v',d,S,y,⟨g,j,f,rfl⟩,A⟩:=O.append (P:=P) t o.3 i z bytes Y G hz V C aa W ad m c b I H J r B D;unfold Oper.wp;simp[execOp,L,resolve,invoke,builtin,T,hx,S,wi];refine h g j f d y ?_;obtain⟨k,l,p⟩|⟨k,l,p⟩:=A
 .have q:ov v=N g:=si k;exact rr ⟨q,by rw[<-q];exact l,p⟩
 .exact lx
end
end
def Fa(c f cs C v a y w)(p:w.1[c]? =N (pj cs 137 (0,0)))(q:cs[8]? =N (.map (N f)))(l:cs[9]? =N C)(h:Chs w f C v a)(af:M a<=4294967296):tf PQ 70 #[pm (N ⟨c,8,X⟩),ox pg y] w λe j=>e=qs (sh #[])/\∃am d P,wU c f cs C a w am d P j/\M P<=M a/\fS d P=(fS v a).filter (λb=>!decide ((b.2:Int)<y)):=by
 let⟨W,L,n,t⟩:=fL w #[pm (N ⟨c,8,X⟩)] 196;have aj:↑w<W.1.size:=by rw[L];simp
 have E:=kZ t;have r:W.1[c]? =_:=oy (n.5 _ (fO p)) p;have J:Z W ⟨c,9,X⟩=N C:=by rw[aG r];exact l
 have ae:=iB p h.1;have ar:=h.1.lt;have T:kH c f cs C v a y W 0 v W:=⟨r,h.fF n,fT.refl _ _,λg b=>aC⟩
 obtain⟨x,u,rfl⟩:=h.2.slice;have Q:qu (kH _ _ _ _ _ _ _ _ _ _ _):=T;have H:qu _:=fE p (fE q (fE l (fE h (fE n (fE t r)))));clear p q l h n t r T;go_enter (fq func70 R),ntmps70;go_upto_region 1 with fail;rw[<-L];clear L;go_wp2;go_loopg [5,11] (M a) (λb _ g k=>∃(i:Nat)(d:AL),i<=M a/\g=ox pg i/\b=M a-i/\qu (kH c f cs (U x (M a) u) v a y W i d k))
 case atStart=>exact⟨0,v,bU _,R,R,Q⟩
 case round=>
  obtain⟨i,d,hi,rfl,rfl,b⟩:=hrel;clear Q E J;let⟨p,q,l,h,n,t,r⟩:=H.out;have s:wr.1[w.1.size]? =_:=oy (b.3.5 _ aj aA) t;have E:=kZ s;have I:Z wr ⟨c,8,X⟩=N (.map (N f)):=by rw[aG b.out.1];exact q
  have J:Z wr ⟨c,9,X⟩=N (U x (M a) u):=by rw[aG b.out.1];exact l
  by_cases ag:i<M a
  .have aq:(i:Int)<M a:=by omega
   obtain⟨o,B⟩:∃o,a[i]? =N o:=⟨_,aK ag⟩
   obtain⟨g,ak,ao,hv,_⟩:=b.2.2.pos aA;simp only[ry,true_and]at hv;obtain⟨rfl,rfl⟩:=hv;have k0:=b.2.2.cell R i (iq o.1) (by rw[cT,B];rfl);have D:=nZ c f 8 d a o wr b.2.core (aS B) I;have aa:=(b.2.3 o (aS B)).1;let⟨S,c1⟩:=cells2 aa;obtain⟨G,O⟩:∃G,gF d o=G:=⟨_,R⟩
   rw[O]at D;unfold iq at k0 D;have F:qu _:=λ(_:Unit)=>D;have z:qu _:=fE B O;clear D B O aa p q l h n t r s;cases G
   .go_wp2_with (go_at_call 104;refine aO (F ()) ?_;rintro e w2 ⟨rfl,m,rfl⟩)
    go_roundg (M a-(i+1))
    case measure=>omega
    case rel=>exact⟨_,d,aA,by go_num,R,(b.fF (fG (aH _ _) _)).stay z.1 (rr z.2)⟩
   .by_cases ai:(o.3.2:Int)<y
    .go_upto_region 5 with(go_at_call 104;refine aO (F ()) ?_;rintro e w2 ⟨rfl,m,rfl⟩)
     generalize A:tj _ _=V;have K:kH c f cs (U (N ⟨g,ak,X⟩) (M a) u) v a y W i d V:=by rw[<-A];exact b.fF (fG (aH _ _) _)
     have av:Z V ⟨↑w,0,X⟩=N (pm (N ⟨c,8,X⟩)):=by rw[<-A];exact E
     have ap:Z V ⟨c,8,X⟩=N (.map (N f)):=by rw[<-A];exact I
     have an:Z V ⟨o.1,0,X⟩=N (ox sr o.3.1):=by rw[<-A];exact S
     have ab:qu (kH _ _ _ _ _ _ _ _ _ _ _):=K;have Y:=K.2.1.of_block (w':=xp V) R;have ac:qu (jh _ _ _ _):=Y;clear K A E I J S c1 Y k0;go_region_law ((refine nU (by rfl) (.tmp 29) (.tmp 33) 130 22 (by rfl) 197 (uq Zu) (uq XZ) f d o.3.1 (by rfl) (by rfl) ac.out ?_;intro w7 ah ad au))
     all_goals
      go_wp2;go_roundg (M a-(i+1))
      case measure=>omega
      case rel=>exact⟨_,_,aA,by go_num,R,ab.gone z.1 z.2 ai ah ((fT.drew _ V).trans (.grown ad) (λk _ e=>io)) ae⟩
    .go_wp2_with (go_at_call 104;refine aO (F ()) ?_;rintro e w2 ⟨rfl,m,rfl⟩)
     go_roundg (M a-(i+1))
     case measure=>omega
     case rel=>exact⟨_,d,aA,by go_num,R,(b.fF (fG (aH _ _) _)).stay z.1 (rz aA)⟩
  .have ap:¬(i:Int)<M a:=by omega
   obtain rfl:i=M a:=aA
   have Y:ov (U x (M a) u)≠N c:=λe=>by
    let⟨D,hc⟩:=b.2.2.obj e;rw[b.out.1]at hc;simp at hc
   have O:=λV z=>se (DT _ c f d a _ V (b.2.fF z).core (b.2.fF z).2 _ cs (oy (z.5 _ (fO s)) s) R (oy (z.5 _ (fO b.1)) b.1) q af)
    (R':=λe j=>∃m g o,e=qs (U m g o)/\Z j ⟨↑w,0,X⟩=N (pm (N ⟨c,8,X⟩))/\Z j ⟨c,9,X⟩=N (U x (M a) u)/\(∀D,j.frozen? ⟨c,D,X⟩=pi)/\qu (g=M (a.filter (gF d))/\fM j 197 1 (U m g o) g ((a.filter (gF d)).map λD=>iq D.1)/\ov (U m g o)=ov (U x (M a) u)/\fT (λk=>ov (U x (M a) u)=N k) wr j/\j.1[c]? =N (pj cs 137 (0,0))))
    (λe j ⟨m,g,o,p1,p2,p3,p4,p5⟩=>by
     have D:=(fT.fF z fI _).trans p5 (λ_ _ e=>e);have F:=oy (D.5 _ (fO b.1) Y) b.1
     have q7:j.1[w.1.size]? =_:=oy (D.5 _ (fO s) (λe=>by
      let⟨ai,hc⟩:=b.2.2.obj e;rw[s]at hc;simp at hc)) s
     exact⟨m,g,o,p1,by rw[aG q7];rfl,by rw[aG F];exact l,aM F,p2,p3,p4,D,F⟩)
   have ab:qu _:=O;have A:=aH ↑wr wr;clear p q l h n t r s O Y;go_upto_region 7 with fail;go_region_with (go_at_call 105;(refine aO (ab _ ?_) ?_;(first|exact A|exact rk A|exact fG A _);rintro e w5 ⟨m,g,o,rfl,an,ao,ak,H5⟩))
   all_goals
    go_wp2;go_end0;let⟨ah,ad,ac,K,S⟩:=H5.out;let⟨p,q,l,h,n,t,r⟩:=H.out;subst ah;have G:=b.2.thin ad K;have aa:=fT.set w5 c 9 (U m (M (a.filter (gF d))) o);refine⟨R,_,d,_,⟨gI S 9 _,G.gE aa (λk B e=>?_),?_,λk B=>rr ?_,?_⟩,dR _ _,?_⟩
    .subst e;exact G.iQ S aB aB B
    .refine(((fT.fF n fI _).trans b.3 (λk _ e=>rz (rr e))).trans K (λk _ e=>rz (rz (rr e)))).trans aa (λk _ e=>rr e)
    .obtain e|e|⟨F,D,e⟩:=B
     .exact rr e
     .exact rz (rr (by rw[<-ac];exact e))
     .exact rz (rz ⟨F,(dD.1 D).1,e⟩)
    .have:=dR (gF d) a;omega
    .rw[Gk,b.out.fS]
variable {n:Nat}
def Fm(h:jH w o):∃L:Nat,(∀V:pn,(∀b,o.2=N b->V.1[b]? =w.1[b]?)->(Builtin.len_ #[199] 3 #[.map o.2]).run PQ V=.ok (ox pg L) V)/\L<=65536/\(o.5&&decide ((L:Int)=o.6+1))=te (Dv.bytes o.3.3):=by
 cases c:o.3.4
 .obtain⟨⟨B,e,i⟩,j,k,d,f⟩:=h.5 c;refine⟨M o.3.3,λV g=>?_,?_,?_⟩
  .rw[e];have:=(i.of_block (g B e)).len (P:=PQ) (uq Ya) 3;rw[this];simp[pD,goInt]
  .have:=tD (a:=o.3.3.map _) (b:=IS 65536) h.2.1 (λx a=>by
    obtain⟨y,b,rfl⟩:=bB.1 a;exact dN.2 (h.3 y b).1)
   rw[aV,List.length_range]at this;exact this
  .rw[d];cases a:Dv.last o.3.3 with
   |none=>
    have:Dv.bytes o.3.3=X:=by unfold Dv.bytes;rw[a];rfl
    rw[this];rfl
   |some n=>
    have hw:=AV h.2 a;rw[f n a];have:((M o.3.3:Int)=n+1)↔M o.3.3=n+1:=aA
    cases b:te (Dv.bytes o.3.3)with
    |true=>rw[Ze ((this.trans hw).2 b)];rfl
    |false=>
     rw[Zd (λh=>by
      have:=(this.trans hw).1 h;rw[b]at this;cases this)]
     rfl
 .let⟨a,b⟩:=h.6 c;refine⟨0,λV _=>?_,aA,?_⟩
  .rw[b];exact jh.len_nil (P:=PQ) (uq Ya) 3
  .rw[a];have:¬((0:Nat):Int)=(o.6:Int)+1:=by omega
   rw[Zd this,Bool.and_false];rfl
def FX(o w)(h:jH w o):tf PQ 116 #[I1 o.1] w λk p=>k=qs (.bool (te (Dv.bytes o.3.3)))/\∃m,p=tj w m:=by
 let⟨L,c,s,a⟩:=Fm h;obtain⟨-,-,q,-,i,j⟩:=LS h.1;obtain⟨r,f⟩:∃r,te (Dv.bytes o.3.3)=r:=⟨_,R⟩
 rw[f]at a⊢;have t:=λn=>c (tj w n) (λ_ _=>R);have l:=h.4;obtain⟨en,d⟩:∃en,o.5=en:=⟨_,R⟩
 obtain⟨g,e⟩:∃g,o.6=g:=⟨_,R⟩
 rw[d]at i a;rw[e]at j a l;unfold I1;have b:qu _:=a;clear h c a f d e;go_enter (fq func116 R),ntmps116;go_upto_region 1 with fail;cases en
 .go_quiet (fail);go_wp2;go_ret;exact⟨by rw[<-b.out];rfl,_,R⟩
 .go_quiet (fail);go_wp2;go_ret;exact⟨by rw[<-b.out];rfl,_,R⟩
def GT{l d}(h:Dv.has l n=N d):∃x,x∈l/\x.2=n/\x.3=d/\jB (pD l) n=N (CY x):=by unfold Dv.has at h;rw[aY]at h;obtain⟨x,a,rfl⟩:=h;have b:=List.find?_some a;refine⟨x,List.mem_of_find?_eq_some a,by simpa using b,R,?_⟩;unfold jB pD;rw[List.find?_map];have:l.find? ((λp:Nat×po=>p.1 == n)∘λf=>(f.2,CY f))=N x:=a;rw[this];rfl
def Hv{l}:∀{k s},kP l k=N s->Small l->M s<=k*65536
 |0,s,h,_=>by simp[kP]at h;subst h;simp
 |k+1,s,h,hs=>by
  unfold kP at h;cases a:kP l k with
  |none=>rw[a]at h;cases h
  |some t=>
   rw[a,dP,aY]at h;obtain⟨e,b,rfl⟩:=h;have f:=Hv (l:=l) (k:=k) (s:=t) a hs;obtain⟨x,c,_,d,_⟩:=GT b;have:=(hs x c).2;rw[aN,eJ,<-d];omega
def E6(a b c d w):(Instr.field 81 (we #[a,b,c,d]) 2).run PQ w=.ok c w:=Zm
def FK(o s w)(h:jH w o)(b:Dv.bytes o.3.3=N s):tf PQ 117 #[I1 o.1] w λA w'=>A=qs (pk ⟨py s⟩)/\Below w.1.size w w':=by
 have Y:o.3.4=pi:=by
  cases a:o.3.4 with
  |false=>rfl
  |true=>rw[(h.6 a).1]at b;cases b
 obtain⟨⟨B,K,F⟩,C,h2,h3,h4⟩:=h.5 Y
 obtain⟨n,T,d⟩:∃n,Dv.last o.3.3=N n/\kP o.3.3 (n+1)=N s:=by
  unfold Dv.bytes at b;cases q:Dv.last o.3.3 with
  |none=>rw[q]at b;cases b
  |some n=>rw[q]at b;exact⟨n,R,b⟩
 have S:=(AV h.2 T).2 (by rw[b];rfl)
 have af:M o.3.3<=65536:=by
  have:=tD (a:=o.3.3.map _) (b:=IS 65536) h.2.1 (λj a=>by
   obtain⟨i,c,rfl⟩:=bB.1 a;exact dN.2 (h.3 i c).1)
  rw[aV,List.length_range]at this;exact this
 have G:=h.1;have ae:=(fO G)
 obtain⟨W,x,y,-⟩:=fL w #[pm X,U X 0 0] 178;have L:Od ↑w ↑w [] W:=by rw[x];exact fresh w
 have g:∀V,Below ↑w w V->Z V ⟨o.1,2,X⟩=N (.map (N B)):=λV E=>by rw[qi E (p:=⟨o.1,2,X⟩) ae,aG G,<-K];rfl
 have e:∀V,Below ↑w w V->jh V B XX (pD o.3.3):=λV E=>F.of_block (E.5 _ F.lt);have Q:=(e W y).len (P:=PQ) (uq Ya) 3;rw[show M (pD o.3.3)=n+1 from by unfold pD;rw[aV];exact S]at Q;have ab:=g W y;have f:=h.3;obtain⟨m,q⟩:∃m,o.3.3=m:=⟨_,R⟩
 rw[q]at e d f S af
 have l:∀k,k<=n+1->∃t,kP m k=N t:=λk hk=>by
  have a:=pV (l:=m) (k:=n+1);rw[d]at a;have C:=a.1 R;exact qaf.1 (pV.2 (λj c=>C j aA))
 have H:qu _:=fE g (fE e (fE d (fE f l)));have J:qu _:=fE y L;unfold I1;have ao:↑w<W.1.size:=by rw[x];simp
 clear h b F C h2 h3 h4 T G y L g e f d l K q Y;go_enter (fq func117 R),ntmps117;go_upto_region 2 with fail;rw[<-x];clear x;go_wp2;go_loopg [4,10] (n+1) (λc _ j a=>∃(i:Nat)(t:List UInt8),i<=n+1/\j=ox pg i/\c=n+1-i/\qu (kP m i=N t/\Od ↑w ↑w t a/\Below ↑w w a))
 case atStart=>exact⟨0,[],aA,R,R,R,J.2,J.1⟩
 case round=>
  obtain⟨i,t,hi,rfl,rfl,a⟩:=hrel;clear ab Q;let⟨g,e,d,f,l⟩:=H.out;by_cases am:i<n+1
  .have an:(i:Int)<n+1:=by omega
   let⟨t',c⟩:=l (i+1) aA
   obtain⟨j,p⟩:∃j,Dv.has m i=N j:=by
    unfold kP at c;rw[a.out.1,dP,aY]at c;obtain⟨j,p,_⟩:=c;exact⟨j,p⟩
   have z:t'=t++j:=by
    have:=IM a.1 p;rw[this]at c;exact si (cR c)
   let⟨ai,hx,ah,I,P⟩:=GT p;have r:=(e wr a.2.2).lookup (P:=PQ) (uq Ya) (uq qai) (R4 _) i pi;rw[P]at r;simp only[bE,if_false,cW]at r;unfold CY at r;rw[I]at r;obtain⟨D,u⟩:∃D:ByteArray,(⟨py j⟩:ByteArray)=D:=⟨_,R⟩
   have v:D.1.1=j:=by rw[<-u]
   have aj:ot D<=65536:=by rw[<-u,<-I];exact(f ai hx).2
   rw[u]at r;have e2:=g wr a.2.2;have ag:=Hv a.1 f;have O:=FZ _ _ t D wr a.2.1 (by have:i*65536<=65536*65536:=cY _ aA;omega) a.2.2.4;have aa:qu _:=λ(_:Unit)=>O;have Hx:qu _:=fE c (fE z v);have ak:=E6;clear g e d f l c z p hx ah I P u v ag O;go_wp2_with (go_at_call 140;refine aO (aa ()) ?_;rintro A w2 ⟨rfl,ac,ad⟩)
   go_roundg (n+1-(i+1))
   case measure=>omega
   case rel=>
    let⟨c,z,v⟩:=Hx.out;exact⟨_,t',aA,by go_num,R,c,by rw[z,<-v];exact ac,ow a.2.2 ad⟩
  .have v:¬(i:Int)<n+1:=by omega
   obtain rfl:i=n+1:=aA
   have j:t=s:=by
    have:=a.1;rw[d]at this;exact si (cR this)
   have c:=wE _ _ t wr a.2.1 a.2.2.4;rw[j]at c;have p:qu _:=λ(_:Unit)=>c;clear g e d f l c j;go_wp2_with (go_at_call 93;refine aO (p ()) ?_;rintro A w2 ⟨rfl,u,r⟩)
   go_ret;exact⟨R,ow a.2.2 r⟩
section
variable {A W c V Zo:pn}{e g a:Nat}{v:po}{l l0:List Ch}{s:List UInt8}{B Zn:Nat->Prop}{pre:List (List UInt8)}
def fM.tail{x xs}(h:fM w e 1 (U (N ⟨g,b,X⟩) (n+1) a) (n+1) (x::xs)):fM w e 1 (U (if a=1 then N ⟨g,b,X⟩else N ⟨g,b+1,X⟩) n (a-1)) n xs:=by
 obtain⟨k,l⟩:=h;rw[aP]at k;obtain⟨c,j⟩|⟨q,v,p,d,c,f,r,s,t,m⟩:=l
 .cases j
 .simp only[ry,aI,zs]at c;obtain⟨⟨rfl,rfl,_⟩,_,rfl⟩:=c;by_cases hc:a=1
  .rw[Zb hc];have o:xs=[]:=bC aA;refine⟨aA,rz ⟨_,_,_,d,R,f,aA,aA,aA,λu y i=>?_⟩⟩;rw[o]at i;simp at i
  .rw[Za hc];refine⟨aA,rz ⟨_,_,_,d,R,f,aA,aA,aA,λo u i=>?_⟩⟩;rw[cE,qaI 1 o];exact m _ u (by simpa using i)
def Chs.tail(h:Chs w nb (U (N ⟨g,b,X⟩) n a) nm (o::os))(d:gF nm o=pi):Chs w nb (U (if a=1 then N ⟨g,b,X⟩else N ⟨g,b+1,X⟩) (M os) (a-1)) nm os:=by
 have s:n=M os+1:=by
  let⟨f,i,e⟩:=fM.slice h.2;simp only[ry]at e;simpa using e.2.1
 subst s;have j:=h.4;rw[cL,dY]at j;refine⟨h.1,fM.tail (by simpa using h.2),λx c=>h.3 x (bK _ c),j.2,λf l d q=>h.5 f l (bK _ d) (bK _ q),λx c=>h.6 x (bK _ c),λu k=>?_⟩;let⟨x,c,e⟩:=h.7 u k;obtain rfl|c:=bM.1 c
 .exfalso
  have t:ww (nm.map p9):=by
   obtain⟨p,m,_,_,v,_⟩:=h.1;exact v
  obtain⟨p,m,_,r,_⟩:=h.1;have i:=r.jB t k;rw[e]at i;rw[mE i]at d;simp at d
 .exact⟨x,c,e⟩
def Fj(a:gF nm o=pi):fS nm (o::os)=fS nm os:=by unfold fS;rw[List.filter_cons_of_neg (by simp[a])]
def wS(a:gF nm o=pw):fS nm (o::os)=o.3::fS nm os:=by unfold fS;rw[List.filter_cons_of_pos (by simp[a])];rfl
def Iz(h:Chs w nb vo nm (o::os))(d:gF nm o=pw):gF (kQ nm o.3.1) o=pi/\fS (kQ nm o.3.1) os=fS nm os:=by
 have a:=Bx d h.4 bY h;have b:=h.4;rw[cL,dY]at b;refine⟨by rw[a o bY];simp,?_⟩;unfold fS
 congr 1
 refine qah (λx c=>?_);rw[a x (bK _ c)]
 have:(x.1 != o.1)=pw:=by
  simp only[bne_iff_ne,ne_eq];intro e;exact b.1 (bB.2 ⟨x,c,e⟩)
 rw[this,Bool.and_true]
def FU{c}(h:Dv.bytes c.3=N s):Dv.pull (c::l)=(s::(Dv.pull l).1,(Dv.pull l).2):=by rw[Dv.pull,h]
def IK{c}(h:Dv.bytes c.3=X):Dv.pull (c::l)=([],c::l):=by rw[Dv.pull,h]
structure PX where
 s:List UInt8
 vo:po
 nm:AL
 os:List PC
def PX.encs(x:PX):Array po:=#[pk ⟨py x.1⟩]
def Dw(a:PX)(pre:List PX):PX:=pre.foldl (λ_ x=>x) a
def oS(a pre x):Dw a (pre++[x])=x:=by simp[Dw]
structure PS(kb nb:Nat)(B:Nat->Prop)(l0:List Ch)(pre:List (List UInt8))(W:pn)(cs:Array po)(vo:po)(nm:AL)(os:List PC):Prop where
 obj:W.1[kb]? =N (pj cs 137 (0,0))
 named:cs[8]? =N (.map (N nb))
 order:cs[9]? =N vo
 chs:Chs W nb vo nm os
 len:M os<=4294967296
 pull:Dv.pull l0=(pre++(Dv.pull (fS nm os)).1,(Dv.pull (fS nm os)).2)
 own:∀k,Own nb vo os k->B k
def Uc(kb b nb:Nat)(B:Nat->Prop)(l0:List Ch)(a:PX)(pre:List PX)(W:pn):=(∃cs,PS kb nb B l0 (pre.map PX.s) W cs (Dw a pre).2 (Dw a pre).3 (Dw a pre).4)/\Z W ⟨b,0,X⟩=N (pm (N ⟨kb,8,X⟩))
def Uz(kb nb:Nat)(B:Nat->Prop)(l0:List Ch)(pre:List PX)(W:pn):=∃cs vo nm os,PS kb nb B l0 (pre.map PX.s) W cs vo nm os/\fS nm os=(Dv.pull l0).2/\pre.map PX.s=(Dv.pull l0).1
def PY(kb a nb:Nat)(B:Nat->Prop)(l0:List Ch)(b:PX)(pre:List PX)(x:PX)(_:Nat)(W:pn):=Uc kb a nb B l0 b (pre++[x]) W
def EK(kb:Nat)(A B:pn):=∀(cs:Array po)(t:Nat)(a:Nat×Nat),A.1[kb]? =N (pj cs t a)->∃v,B.1[kb]? =N (pj (qb cs 9 v) t a)
def EK.refl(kb A):EK kb A A:=λcs t b h=>⟨cs[9]?.getD .nilFunc,by
 rw[h]
 congr 2
 apply dG;intro i;rw[aQ];split
 .rename_i e;subst e;split
  .rename_i a;rw[bL a];rfl
  .rename_i a;exact Array.getElem?_eq_none aA
 .rfl⟩
def EK.trans{B C}(b:EK kb A B)(c:EK kb B C):EK kb A C:=λcs t a h=>by
 let⟨v,d⟩:=b cs t a h;let⟨f,e⟩:=c _ t a d;exact⟨f,oe⟩
def EK.same{B}(h:B.1[kb]? =A.1[kb]?):EK kb A B:=λcs t a hc=>by
 let⟨v,b⟩:=EK.refl kb A cs t a hc;exact⟨v,oy h b⟩
def EK.put{l B}(h:EK kb A B)(o)(b:kb<l):EK kb (rq A l o) (rq B l o):=λcs t a hc=>by
 rw[sa aA]at hc⊢;exact h cs t a hc
def PS.gE(h:PS kb nb B l0 pre W cs vo nm os)(hc:fT Zn W c)(a:¬Zn kb)(b:∀k,B k->¬Zn k):PS kb nb B l0 pre c cs vo nm os:=
 ⟨oy (hc.5 _ (fO h.1) a) h.1,h.2,h.3,h.4.gE hc (λk a=>b k (h.7 k a)),h.5,h.6,h.7⟩
def PS.fF(h:PS kb nb B l0 pre W cs vo nm os)(a:Below ↑W W c):PS kb nb B l0 pre c cs vo nm os:=
 h.gE (.fF a fI (λ_=>False)) (λe=>e) (λ_ _ e=>e)
def oL(kb:Nat)(W:pn):Nat:=match Z W ⟨kb,9,X⟩with
 |some (U _ n _)=>n
 |_=>0
def PS.R3(h:PS kb nb B l0 pre W cs vo nm os):Z W ⟨kb,8,X⟩=N (.map (N nb)):=by rw[aG h.1];exact h.2
def PS.RH(h:PS kb nb B l0 pre W cs vo nm os):Z W ⟨kb,9,X⟩=N vo:=by rw[aG h.1];exact h.3
def PS.oL(h:PS kb nb B l0 pre W cs vo nm os):oL kb W=M os:=by let⟨b,a,e⟩:=fM.slice h.4.2;unfold Hm.oL;rw[h.RH,e]
def PS.skip(h:PS kb nb B l0 pre W cs (U (N ⟨g,b,X⟩) n a) nm (o::os))(f:gF nm o=pi)(m:c.1[kb]? =N (pj (qb cs 9 (U (if a=1 then N ⟨g,b,X⟩else N ⟨g,b+1,X⟩) (M os) (a-1))) 137 (0,0)))(hc:fT (λk=>k=kb) W c):
  PS kb nb B l0 pre c (qb cs 9 (U (if a=1 then N ⟨g,b,X⟩else N ⟨g,b+1,X⟩) (M os) (a-1))) (U (if a=1 then N ⟨g,b,X⟩else N ⟨g,b+1,X⟩) (M os) (a-1)) nm os:=by
 have l:=h.4.iQ h.1 aB aB;have i:=(fO h.3)
 have j:=h.5;rw[aP]at j;refine⟨m,by rw[aQ];simpa using h.2,by rw[aQ];simp[i],(h.4.gE hc (λk d e=>l (e ▸ d))).tail f,aA,by have:=h.6;rw[Fj f]at this;exact this,λk d=>h.7 k ?_⟩;obtain e|e|⟨x,p,e⟩:=d
 .exact rr e
 .exact rz (rr (by split at e<;>exact e))
 .exact rz (rz ⟨x,bK _ p,e⟩)
def PS.take(h:PS kb nb B l0 pre W cs (U (N ⟨g,b,X⟩) n a) nm (o::os))(i:gF nm o=pw)(v:Dv.bytes o.3.3=N s){d}(p:c.1[kb]? =N (pj (qb cs 9 (U (if a=1 then N ⟨g,b,X⟩else N ⟨g,b+1,X⟩) (M os) (a-1))) 137 (0,0)))(hc:fT (λk=>k=kb) W c)(u:jh d nb sr (kQ nm o.3.1))(j:fT (λk=>k=nb) c d):
  PS kb nb B l0 (pre++[s]) d (qb cs 9 (U (if a=1 then N ⟨g,b,X⟩else N ⟨g,b+1,X⟩) (M os) (a-1))) (U (if a=1 then N ⟨g,b,X⟩else N ⟨g,b+1,X⟩) (M os) (a-1)) (kQ nm o.3.1) os:=by
 have m:=h.4.iQ h.1 aB aB;have r:=(fO h.3)
 have t:=h.5;rw[aP]at t;have l:=Iz h.4 i;have q:=h.4.gE hc (λk f e=>m (e ▸ f));refine⟨oy (j.5 kb (fO p) (λe=>m (rr e))) p,by rw[aQ];simpa using h.2,by rw[aQ];simp[r],(q.del u j).tail l.1,aA,?_,λk f=>h.7 k ?_⟩
 .rw[h.6,wS i,FU v,l.2];simp
 .obtain e|e|⟨x,w,e⟩:=f
  .exact rr e
  .exact rz (rr (by split at e<;>exact e))
  .exact rz (rz ⟨x,bK _ w,e⟩)
structure Cut(kb:Nat)(cs:Array po)(v:po)(W Zo:pn):Prop where
 obj:Zo.1[kb]? =N (pj (qb cs 9 v) 137 (0,0))
 gE:fT (λk=>k=kb) W Zo
 ek:EK kb W Zo
def Cut.of(h:PS kb nb B l0 pre W cs vo nm os)(a:Below ↑W W V)(b:xp (o3 V ⟨kb,9,X⟩ v)=Zo):Cut kb cs v W Zo:=by
 have hc:fT (λk=>k=kb) W Zo:=by
  rw[<-b];exact((fT.fF a fI _).trans (fT.set _ kb 9 v) (λ_ _ e=>e)).trans (fT.drew _ _) (λ_ _ e=>e)
 have d:Zo.1[kb]? =N (pj (qb cs 9 v) 137 (0,0)):=by
  rw[<-b];have:=oy (a.5 _ (fO h.1)) h.1;exact block_setCell this v
 refine⟨d,hc,λf t g c=>?_⟩;rw[h.1]at c;cases c;exact⟨v,d⟩
def PS.goes{Y Zr:pn}(h:PS kb nb B l0 pre W cs (U (N ⟨g,b,X⟩) n a) nm (o::os))(l:gF nm o=pw)(q:Dv.bytes o.3.3=N s)(hcut:Cut kb cs (U (if a=1 then N ⟨g,b,X⟩else N ⟨g,b+1,X⟩) (M os) (a-1)) W Zo)(j:Below ↑Zo Zo Y)(d:jh Zr nb sr (kQ nm o.3.1))(m:ss (xp Y) Zr (N nb)):
  PS kb nb B l0 (pre++[s]) Zr (qb cs 9 (U (if a=1 then N ⟨g,b,X⟩else N ⟨g,b+1,X⟩) (M os) (a-1))) (U (if a=1 then N ⟨g,b,X⟩else N ⟨g,b+1,X⟩) (M os) (a-1)) (kQ nm o.3.1) os/\fT (λk=>k=kb\/k=nb) W Zr/\EK kb W Zr/\jH Zr o/\fT (λk=>k=nb) Zo Zr:=by
 have f:=h.4.iQ h.1 aB aB;have c:fT (λk=>k=nb) Zo Zr:=((fT.fF j fI _).trans (fT.drew _ _) (λ_ _ e=>e)).trans (.grown m) (λk _ e=>io);have i:=h.4.gE hcut.2 (λk p e=>f (e ▸ p));refine⟨h.take l q hcut.1 hcut.2 d c,(hcut.2.mono (λk _ e=>rr e)).trans c (λk _ e=>rz e),hcut.3.trans (EK.same (c.5 kb (fO hcut.1) (λe=>f (rr e)))),?_,c⟩;exact(i.del d c).3 o bY
def PS.stop{pre}(h:PS kb nb B l0 (pre.map PX.s) W cs vo nm os)(d:os=[]\/∃o a,os=o::a/\gF nm o=pw/\Dv.bytes o.3.3=X):Uz kb nb B l0 pre W:=by
 have e:Dv.pull (fS nm os)=([],fS nm os):=by
  obtain rfl|⟨o,f,rfl,b,c⟩:=d
  .rfl
  .rw[wS b];exact IK c
 have a:=h.6;rw[e,dI]at a;exact⟨cs,vo,nm,os,h,by rw[a],by rw[a]⟩
end
end Hm
namespace Hm
open Go.RowKit Go.Joins
open Dv (Fine)
open Fr (F fG)
attribute [local go_sem] Oper.semAt_some
def Dd(b j i B Q p0)(aq:j≠b)(ar:j≠i):Gg PQ 115 #[pm (N ⟨j,0,X⟩)] PX.encs (λk=>k=b\/k=i) (EK b) (Uc b j i B Q p0) (Uz b i B Q) (PY b j i B Q p0) (λ_=>True) (λ_=>True):=by
 intro bp a5 Jx a6 hM au ae ao am;have HY:qu _:=ao;have az:qu _:=am;have HS:qu _:=ae;have q:=ae.2;have W:qu _:=fE hM (fE au (fE aq ar));clear ao am ae hM au aq ar;refine zw.2 ?_;go_enter (fq func115 R),ntmps115;go_wp2
 go_loopw [3] (λ_ wr=>∃(pre:List PX)(a:pn)(c:Array po)(f:po)(d:AL)(e:List PC),Z wr ⟨j,0,X⟩=N (pm (N ⟨b,8,X⟩))/\qu (a5 pre a/\fT (λk=>k=b\/k=i) a wr/\EK b a wr/\PS b i B Q (pre.map PX.s) wr c f d e))
  (λ_ wr=>oL b wr)
 case atStart=>
  obtain⟨⟨a,h⟩,_⟩:=HS.out;exact⟨[],a6,a,_,_,_,q,⟨az,fT.refl _ _,EK.refl _ _,h⟩⟩
 case round=>
  clear q;obtain⟨pre,E,cs,vo,v,h,q,p⟩:=hrel;let⟨c,hc,d,a⟩:=p.out;have c8:=a.R3;have z:=a.RH;cases h with
  |nil=>
   let⟨f,g,e⟩:=fM.slice a.4.2;simp only[bH]at e;subst e;clear c hc d a;go_wp2;go_end0;let⟨c,hc,d,a⟩:=p.out;exact⟨⟨_,R⟩,rr ⟨pre,E,trivial,c,hc,d,a.stop (rr R)⟩⟩
  |cons o h=>
   let⟨g,S,ac,e,bg⟩:=fM.pos a.4.2 aC;have P:=fM.cell a.4.2 e 0 (iq o.1) aC;subst e;have K:=nZ b i 8 v _ o wr a.4.core bY c8;have ay:=(a.4.3 o bY).1;have y:=kZ ay;have F:=aM a.1;have bf:(1:Int)<=((M (o::h):Nat):Int):=by rw[aP];omega
   have bd:(0:Int)<((M (o::h):Nat):Int):=by rw[aP];omega
   obtain⟨u,l⟩:∃u,M (o::h)=u:=⟨_,R⟩
   rw[l]at bf bd z bg;rw[qaP]at P;obtain⟨ab,f⟩:∃ab,gF v o=ab:=⟨_,R⟩
   rw[f]at K;unfold iq at P K;have aa:qu _:=λ(_:Unit)=>K;have Hb:qu _:=fE f l;clear c hc d a ay K f l;cases ab with
   |false=>
    go_upto_region 3 with(go_at_call 104;refine aO (aa ()) ?_;rintro e w2 ⟨rfl,m,rfl⟩)
    generalize r:tj _ _=V;have G:Z V ⟨j,0,X⟩=N (pm (N ⟨b,8,X⟩)):=by rw[<-r];exact q
    have O:Z V ⟨b,9,X⟩=N (U (N ⟨g,S,X⟩) u ac):=by rw[<-r];exact z
    have T:∀A,V.frozen? ⟨b,A,X⟩=pi:=λA=>by rw[<-r];exact F A
    have J:qu (Below ↑wr wr V):=by rw[<-r];exact fG (aH _ _) _
    clear r q z c8 P y F;go_region;generalize t:World.drew _=Zo;let⟨c,hc,d,a⟩:=p.out;let⟨f,l⟩:=Hb.out;have I:u-1=M h:=by rw[<-l,aP];omega
    rw[I]at t;have hcut:=Cut.of a J t;have n:=a.skip f hcut.1 hcut.2;have x:=a.4.iQ a.1 aB aB;have H:=a.4.core.gE hcut.2 (λe=>x (rr (si e))) (λV o e=>x (rz (rz ⟨V,o,rr (si e)⟩)));have w:=nZ b i 8 v _ o Zo H bY n.R3;rw[f]at w;unfold iq at w;have L:qu _:=λ(_:Unit)=>w
    have s:Z Zo ⟨j,0,X⟩=N (pm (N ⟨b,8,X⟩)):=by
     rw[<-t];exact oy (qz (aR _ _ _ _ W.2.2.1)) G
    have D:qu _:=fE hcut (fE n s);have C:qu _:=fE c (fE hc (fE d a));clear c hc d a f l I t hcut n x H w G O T;go_wp2_with (go_at_call 104;refine aO (L ()) ?_;rintro e w2 ⟨rfl,Y,rfl⟩)
    go_roundw
    case rel=>
     let⟨c,hc,d,a⟩:=C.out;let⟨hcut,n,s⟩:=D.out;exact⟨pre,E,_,_,_,h,s,⟨c,(hc.trans hcut.2 (λk _ e=>rr e)).trans (.fF (fG (aH _ _) _) fI _) (λ_ _ e=>e),d.trans (hcut.3.trans (EK.same R)),n.fF (fG (aH _ _) _)⟩⟩
    case measure=>
     let⟨c,hc,d,a⟩:=C.out;let⟨hcut,n,s⟩:=D.out;have o:=(n.fF (fG (aH _ _) Y)).oL;have V:=a.oL;rw[o,V,aP];omega
   |true=>
    have r:=λk=>FX o _ ((p.2.2.2.4.3 o bY).gE (.fF (fG (aH _ _) k) fI _) (λe=>e) (λ_ _ e=>e));unfold I1 at r;cases n:Dv.bytes o.3.3 with
    |none=>
     rw[n]at r;have t:qu _:=r;clear r;go_wp2_with (first|(go_at_call 104;refine aO (aa ()) ?_;rintro e w2 ⟨rfl,m,rfl⟩)|(go_at_call 116;refine aO (t _) ?_;rintro e w3 ⟨rfl,w,rfl⟩))
     refine sd (Zy R _ _ _) R ?_;let⟨c,hc,d,a⟩:=p.out;have s:Below ↑wr wr (tj wr (m+w)):=fG (aH _ _) _;exact⟨⟨_,R⟩,rr ⟨pre,E,trivial,c,hc.trans (.fF s fI _) (λ_ _ e=>e),d.trans (EK.same R),(a.fF s).stop (rz ⟨o,h,R,Hb.1,n⟩)⟩⟩
    |some s=>
     rw[n]at r;have a4:qu _:=r;clear r;go_upto_region 3 with(first|(go_at_call 104;refine aO (aa ()) ?_;rintro e w2 ⟨rfl,m,rfl⟩)|(go_at_call 116;refine aO (a4 _) ?_;rintro e w3 ⟨rfl,m3,rfl⟩))
     have I:Below wr.1.size wr (tj wr (m+m3)):=fG (aH _ _) _;revert I;generalize G:tj _ _=V;intro I;have ai:Z V ⟨j,0,X⟩=N (pm (N ⟨b,8,X⟩)):=by rw[<-G];exact q
     have a8:Z V ⟨b,9,X⟩=N (U (N ⟨g,S,X⟩) u ac):=by rw[<-G];exact z
     have a9:∀T,V.frozen? ⟨b,T,X⟩=pi:=λT=>by rw[<-G];exact F T
     have HV:qu (Below wr.1.size wr V):=I;clear G q z c8 P y F I;go_region;generalize hq:(if ac=1 then N ({ block:=g,off:=S }:Addr)else N { block:=g,off:=S+1 })=T;generalize H:World.drew _=Zo;let⟨c,hc,d,a⟩:=p.out;let⟨f,l⟩:=Hb.out;have ax:u-1=M h:=by rw[<-l,aP];omega
     rw[ax]at H;have hcut:=Cut.of a HV H;rw[<-hq]at hcut;have ah:=a.4.iQ a.1 aB aB;have O:=a.4.core.gE hcut.2 (λe=>ah (rr (si e))) (λs o e=>ah (rz (rz ⟨s,o,rr (si e)⟩)))
     have h8:Z Zo ⟨b,8,X⟩=N (.map (N i)):=by
      rw[aG hcut.1,aQ];simpa using a.2
     have L:=nZ b i 8 v _ o Zo O bY h8;rw[f]at L;unfold iq at L;have a2:qu _:=λ(_:Unit)=>L
     have ak:Z Zo ⟨j,0,X⟩=N (pm (N ⟨b,8,X⟩)):=by
      rw[<-H];exact oy (qz (aR _ _ _ _ W.2.2.1)) ai
     have y:Z Zo ⟨o.1,0,X⟩=N (ox sr o.3.1):=by rw[aG (O.2 o bY)];rfl
     have HZ:qu _:=fE hcut O;have HP:qu _:=fE c (fE hc (fE d (fE a (fE f n))));clear c hc d a f l ax H hcut ah O L ai a8 a9 n hq;go_upto_region 5 with(go_at_call 104;refine aO (a2 ()) ?_;rintro e w2 ⟨rfl,m2,rfl⟩)
     generalize t:tj _ _=Y;have ap:Below Zo.1.size Zo Y:=by rw[<-t];exact fG (aH _ _) _
     have ad:Z Y ⟨j,0,X⟩=N (pm (N ⟨b,8,X⟩)):=by rw[<-t];exact ak
     have ba:Z Y ⟨b,8,X⟩=N (.map (N i)):=by rw[<-t];exact h8
     have a7:Z Y ⟨o.1,0,X⟩=N (ox sr o.3.1):=by rw[<-t];exact y
     have aw:jh (xp Y) i sr v:=by rw[<-t];exact HZ.2.1.of_block R
     have a3:qu _:=aw;have a0:qu _:=ap;clear t ak h8 y aw ap;go_region_law ((refine nU (by rfl) (.tmp 39) (.tmp 43) 130 22 (by rfl) 197 (uq Zu) (uq XZ) i v o.3.1 (by rfl) (by rfl) a3.out ?_;intro w7 av ag bj))
     all_goals
      let⟨c,hc,d,a,f,n⟩:=HP.out;let⟨w,C,D,x,q5⟩:=a.goes f n HZ.1 a0 av ag;have aj:=oy (qz ((fT.grown ag).5 j (cV Y _ ad) (λe=>W.2.2.2 io))) ad;have af:=FK o s w7 x n;unfold I1 at af;have a1:qu _:=λ(_:Unit)=>af;have H7:qu _:=fE w (fE (hc.trans C (λ_ _ e=>e)) (fE (d.trans D) (fE aj c)));clear c hc d a f n w C D x q5 aj af av ag bj ad ba a7;go_upto_region 6 with fail;refine(wpIn_wide (n:=2)).1 ?_;gi_wp2;refine⟨trivial,(zw.2 (a1 ())).mono ?_⟩;rintro e w8 ⟨rfl,J⟩;let⟨w,C,D,x,c⟩:=H7.out;obtain⟨fn,bq,bl,body,bk,hR⟩:=HY pre ⟨s,_,_,h⟩ E w8 c (C.trans (.fF J fI _) (λ_ _ e=>e)) (D.trans (EK.same (J.5 b (fO w.1)))) ⟨⟨_,by rw[oS,aZ];exact w.fF J⟩,oy (qi J (p:=⟨j,0,X⟩) (cV w7 _ x)) x⟩;simp only[PX.encs]at bk;have HR:qu _:=hR;clear hR w C D x c;gi_wp2;refine RoundIn.mono HR.out ?_;rintro e W3 (⟨rfl,A,bh,an,bc⟩|⟨rfl,bb⟩)
      .have o:qu _:=fE A an;clear A bh an bc;gi_wp2;go_wp2;go_roundw
       case rel=>
        obtain⟨A,⟨⟨V,Y⟩,s⟩⟩:=o.out;exact⟨_,W3,V,_,_,_,s,⟨A,fT.refl _ _,EK.refl _ _,Y⟩⟩
       case measure=>
        obtain⟨A,⟨⟨bo,Y⟩,bm⟩⟩:=o.out;have s:=Y.oL;have V:=p.2.2.2.oL;rw[oS]at s;rw[s,V,aP];exact Nat.lt_succ_self _
      .gi_wp2;go_wp2;refine sd (Zy R _ _ _) R ?_;exact⟨⟨_,R⟩,rz ⟨_,W3,trivial,bb,fT.refl _ _,EK.refl _ _⟩⟩
end Hm
namespace Fr
variable {s:List UInt8}{p n:Nat}{l:List F}
def be:Nat->Nat->List UInt8
 |0,_=>[]
 |k+1,v=>be k (v/256)++[UInt8.ofNat (v%256)]
def AM:∀k v,M (be k v)=k
 |0,_=>R
 |k+1,v=>by rw[be,aN,AM];rfl
def CF:∀(k s p),p+k<=M s->(s.drop p).take k=be k (big s p k)
 |0,_,_,_=>by simp[be]
 |k+1,s,p,h=>by
  have a:=xi (ur s (p+k) 0)
  rw[big,be,show(256*big s p k+pf (ur s (p+k) 0))/256=big s p k from by omega,<-CF k s p aA,show(256*big s p k+pf (ur s (p+k) 0))%256=pf (ur s (p+k) 0) from by omega,
   cO (by grind),List.getElem_drop]
  congr 2
  rw[aT,aK aA];simp
def fits(x:F):=x.1<4294967296/\x.2<65536/\M x.3<65536
def enc(x:F):List UInt8:=be 4 x.1++be 2 x.2++be 2 (M x.3)++x.3++[if x.4 then 1 else 0]
def FY(x):M (enc x)=9+M x.3:=by simp[enc,AM];omega
def PD{x}(h:one s p=N (x,n)):s.drop p=enc x++s.drop (p+n)/\fits x/\n=M (enc x):=by
 have t:=one_le h;unfold one at h;split at h
 .simp at h
 .rename_i o;split at h
  .simp at h
  .rename_i r;split at h
   .simp at h
   .rename_i hc;simp only[aI,bR]at h;obtain⟨rfl,rfl⟩:=h;have f:=CF 4 s p aA;have e:=CF 2 s (p+4) aA;have g:=CF 2 s (p+6) aA;have c:=lZ s p 4;have b:=lZ s (p+4) 2;have d:=lZ s (p+6) 2;simp only[Nat.reducePow]at c b d;generalize big s (p+6) 2=Zp at *;generalize big s p 4=C4 at *;generalize big s (p+4) 2=C2 at *;have a:M ((s.take (p+8+Zp)).drop (p+8))=Zp:=by simp;omega
    refine⟨?_,⟨c,b,by rw[a];exact d⟩,by rw[FY,a]⟩
    have i:[if (pf (ur s (p+8+Zp) 0) == 1)=pw then(1:UInt8)else 0]=(s.drop (p+8+Zp)).take 1:=by
     have m:ur s (p+8+Zp) 0=s[p+8+Zp]' aA:=by rw[aT,aK aA];rfl
     rw[m]at hc⊢;rw[Y1 aA];simp only[List.take_succ_cons,List.take_zero,List.cons.injEq,and_true];obtain h|h:=(by omega:(s[p+8+Zp]' aA).toNat=0\/(s[p+8+Zp]' aA).toNat=1)
     .rw[h];simp;exact fC.1 (by rw[h];rfl)
     .rw[h];simp;exact fC.1 (by rw[h];rfl)
    have l:(s.take (p+8+Zp)).drop (p+8)=(s.drop (p+8)).take Zp:=by rw[List.drop_take];congr 1;omega
    unfold enc;simp only;rw[a,i,<-f,<-e,<-g,l];have j:∀(q k:Nat),s.drop q=(s.drop q).take k++s.drop (q+k):=λq k=>by rw[<-dW,List.take_append_drop]
    conv=>lhs;rw[j p 4,j (p+4) 2,show p+4+2=p+6 from R,j (p+6) 2,show p+6+2=p+8 from R,j (p+8) Zp,j (p+8+Zp) 1]
    rw[show p+(9+Zp)=p+8+Zp+1 from by omega];simp only[cZ]
def cat(l:List F):List UInt8:=l.flatMap enc
def Dj:∀(f s p l),rest f s p=N l->s.drop p=cat l/\∀x∈l,fits x
 |0,s,p,l,h=>by
  simp only[rest]at h;split at h
  .simp at h;subst h;simp[cat];assumption
  .simp at h
 |f+1,s,p,l,h=>by
  rw[rest]at h;split at h
  .simp at h;subst h;simp[cat];assumption
  .cases a:one s p with
   |none=>rw[a]at h;simp at h
   |some x=>
    obtain⟨x,n⟩:=x;rw[a]at h;simp only at h;obtain⟨t,i,rfl⟩:=aY.1 h;obtain⟨c,d,_⟩:=PD a;let⟨e,g⟩:=Dj f s _ t i;refine⟨by rw[c,e];simp[cat],λy b=>?_⟩;obtain rfl|b:=bM.1 b
    .exact d
    .exact g y b
def xD(h:frames s=N l):s=0::cat l/\l≠[]/\∀x∈l,fits x:=by
 unfold frames at h;split at h
 .simp at h
 .rename_i b;let⟨a,c⟩:=Dj _ _ _ _ h
  have d:s=0::s.drop 1:=by
   cases s with
   |nil=>simp at b
   |cons x r=>
    grind
  refine⟨oy d (by rw[a]),?_,c⟩;rintro rfl;have:M (s.drop 1)=0:=by rw[a];rfl
  rw[cF]at this;omega
end Fr
namespace Dv
open Go.RowKit Go.Joins
open Fr (F flat jv iX kC iM gW gR)
section
variable {W:pn}{l:List F}{a n:Nat}{v:po}
def flat_get:∀(l j x),l[j]? =N x->(flat l)[j*4]? =N (ox sr x.1)/\(flat l)[j*4+1]? =N (ox XX x.2)/\(flat l)[j*4+2]? =N (pk ⟨py x.3⟩)/\(flat l)[j*4+3]? =N (.bool x.4)
 |[],j,x,h=>by simp at h
 |y::l,0,x,h=>by
  simp at h;subst h;exact⟨R,R,R,R⟩
 |y::l,j+1,x,h=>by
  have:=flat_get l j x jx;rw[flat];obtain⟨a,b,c,d⟩:=this;refine⟨?_,?_,?_,?_⟩
  .rw[bF mp,<-a];congr 1;exact mp
  .rw[bF mp,<-b];congr 1;exact mp
  .rw[bF mp,<-c];congr 1;exact mp
  .rw[bF mp,<-d];congr 1;exact mp
def pX{a b k g c l fs}(h:r8 W b 81 4 (U (N ⟨g,0,X⟩) l c) k (flat fs))(d:Below ↑W W a){j x}(e:fs[j]? =N x):Z a ⟨g,j*4,X⟩=N (ox sr x.1)/\Z a ⟨g,j*4+1,X⟩=N (ox XX x.2)/\Z a ⟨g,j*4+2,X⟩=N (pk ⟨py x.3⟩)/\Z a ⟨g,j*4+3,X⟩=N (.bool x.4):=by
 let⟨m,n,o,p⟩:=flat_get fs j x e;have hc:=h.cells (g:=g) R;have f:=(iX h R).2
 have k:∀(q:Nat)(u:po),(flat fs)[q]? =N u->Z a ⟨g,q,X⟩=N u:=by
  intro q u i;have:=hc q u i;rw[kC]at this;exact oy (qi d (p:=⟨g,q,X⟩) f) this
 grind
def oB(l:List F):Int:=match last l with
 |some n=>n
 |none=>-1
def FM(l:List F)(i:Nat)(x)(b:l[i]? =N x):oB (l.drop i)=if x.4 then(x.2:Int)else oB (l.drop (i+1)):=by
 obtain⟨a,rfl⟩:=aJ.1 b;rw[Y1 a];unfold oB last
 grind
def LR(l:List F)(n i x)(b:l[i]? =N x):has (l.drop i) n=if x.2=n then N x.3 else has (l.drop (i+1)) n:=by
 obtain⟨a,rfl⟩:=aJ.1 b;rw[Y1 a];unfold has
 grind
def kX(W:pn)(a:Nat)(v:po)(l:List F):=r8 W a 81 4 v (M l) (flat l)
def kX.fF{b}(h:kX W a v l)(c:Below ↑W W b):kX b a v l:=gR h c
def kX.cases(h:kX W a v l):(∃b c,l=[]/\v=U b 0 c)\/(∃g b,0<M l/\v=U (N ⟨g,0,X⟩) (M l) b):=by
 obtain b|b:=dL (M l)
 .obtain⟨c,d,rfl⟩:=gW h
  grind
 .obtain⟨g,c,rfl⟩:=iM h b
  grind
def last_any(k:Nat)(op v l m w a)(h:kX w a v l)(K:M l<=4294967296)(t:∀x∈l,x.2<65536):tf PQ 98 #[we #[ox sr k,ox pg op,v,.bool m]] w λC G=>C=qs (ox pg (oB l))/\Below w.1.size w G:=by
 have d:∀y:ZG,Below ↑w w (o6 w y):=λy=>pb (aH _ w) fI _;obtain⟨B,b,rfl,rfl⟩|⟨g,b,I,rfl⟩:=h.cases
 .have c:qu _:=d;clear d h;go_enter (fq func98 R),ntmps98;go_wp2;go_loopg [3] 0 (λg e f=>e=ox pg 0/\f=o6 w (pj #[ox sr k,ox pg op,U B 0 b,.bool m] 121))
  case atStart=>exact⟨R,R⟩
  case round=>
   obtain⟨rfl,rfl⟩:=hrel;go_wp2;go_ret;exact⟨R,c _⟩
 .obtain⟨W,c⟩:∃W,W=o6 w (pj #[ox sr k,ox pg op,U (N ⟨g,0,X⟩) (M l) b,.bool m] 121):=⟨_,R⟩
  have e:Below ↑w w W:=by rw[c];exact d _
  have H:Z W ⟨↑w,2,X⟩=N (U (N ⟨g,0,X⟩) (M l) b):=lm
  have r:=λ(E:Nat)(x:F)(D:l[E]? =N x)=>pX h e D;have z:qu _:=r;have n:qu _:=e;have A:qu _:=t;clear r d h e t;go_enter (fq func98 R),ntmps98;go_wp2;rw[<-c];clear c;go_loopg [3] (M l) (λf j o=>∃i:Nat,i<=M l/\j=ox pg i/\qu (oB l=oB (l.drop i))/\f=M l-i/\o=W)
  case atStart=>exact⟨0,bU _,R,R,R,R⟩
  case round=>
   obtain⟨i,J,rfl,p,rfl,rfl⟩:=hrel;by_cases s:i<M l
   .have L:(i:Int)<(M l:Int):=by omega
    have f:l[i]? =N l[i]:=aK s;let⟨P,Q,S,u⟩:=z i _ f;have q:=FM l i _ f;have O:=A _ (qaz s);generalize l[i]=x at *;have o:qu _:=q;clear q f;cases j:x.4
    .rw[j]at u;go_wp2;go_roundg (M l-(i+1))
     case measure=>omega
     case rel=>exact⟨i+1,aA,by go_num,by have:=o.out;grind,R,R⟩
    .rw[j]at u;go_wp2;go_ret;refine⟨?_,n⟩;rw[p.out,o.out,Zb j];rfl
   .have f:¬(i:Int)<(M l:Int):=by omega
    obtain rfl:i=M l:=aA
    go_wp2;go_ret;refine⟨?_,n⟩;rw[p.out,List.drop_length];rfl
def Ai(l:List F)(n:Nat):po:=match has l n with
 |some d=>sh #[pk ⟨py d⟩,rh pw]
 |none=>sh #[pk ⟨#[]⟩,rh pi]
def Hj(k:Nat)(op v l m)(n:Nat)(w a)(h:kX w a v l)(Q:M l<=4294967296)(u:∀x∈l,x.2<65536):tf PQ 99 #[we #[ox sr k,ox pg op,v,.bool m],ox pg n] w λG K=>G=qs (Ai l n)/\Below w.1.size w K:=by
 have d:∀z:ZG,Below ↑w w (o6 w z):=λz=>pb (aH _ w) fI _;obtain⟨E,b,rfl,rfl⟩|⟨g,b,O,rfl⟩:=h.cases
 .have c:qu _:=d;clear d h;go_enter (fq func99 R),ntmps99;go_wp2;go_loopg [6] 0 (λg e f=>e=ox pg 0/\f=o6 w (pj #[ox sr k,ox pg op,U E 0 b,.bool m] 121))
  case atStart=>exact⟨R,R⟩
  case round=>
   obtain⟨rfl,rfl⟩:=hrel;go_wp2;go_ret2;exact⟨R,c _⟩
 .obtain⟨W,c⟩:∃W,W=o6 w (pj #[ox sr k,ox pg op,U (N ⟨g,0,X⟩) (M l) b,.bool m] 121):=⟨_,R⟩
  have f:Below ↑w w W:=by rw[c];exact d _
  have L:Z W ⟨↑w,2,X⟩=N (U (N ⟨g,0,X⟩) (M l) b):=lm
  have s:=λ(I:Nat)(x:F)(H:l[I]? =N x)=>pX h f H;have B:qu _:=s;have o:qu _:=f;have C:qu _:=u;clear s d h f u;go_enter (fq func99 R),ntmps99;go_wp2;rw[<-c];clear c;go_loopg [6] (M l) (λe j p=>∃i:Nat,i<=M l/\j=ox pg i/\qu (has l n=has (l.drop i) n)/\e=M l-i/\p=W)
  case atStart=>exact⟨0,bU _,R,R,R,R⟩
  case round=>
   obtain⟨i,P,rfl,q,rfl,rfl⟩:=hrel;by_cases t:i<M l
   .have S:(i:Int)<(M l:Int):=by omega
    have j:l[i]? =N l[i]:=aK t;let⟨Y,k1,J,k3⟩:=B i _ j;have r:=LR l n i _ j;have T:=C _ (qaz t);generalize l[i]=x at *;obtain⟨D,e⟩:∃D:ByteArray,(⟨py x.3⟩:ByteArray)=D:=⟨_,R⟩
    rw[e]at J;have p:qu _:=r;have A:qu _:=e;clear r j e;by_cases y:x.2=n
    .have V:((x.2:Int) == (n:Int))=pw:=by rw[y];exact beq_self_eq_true _
     go_wp2;go_ret2;refine⟨?_,o⟩;unfold Ai;rw[q.out,p.out,Zb y,<-A.out];rfl
    .have V:((x.2:Int) == (n:Int))=pi:=Zc aA;go_wp2;go_roundg (M l-(i+1))
     case measure=>omega
     case rel=>exact⟨i+1,aA,by go_num,by have:=p.out;grind,R,R⟩
   .have e:¬(i:Int)<(M l:Int):=by omega
    obtain rfl:i=M l:=aA
    go_wp2;go_ret2;refine⟨?_,o⟩;unfold Ai;rw[q.out,List.drop_length];rfl
def Bm{d}(a:∀x∈l,M x.3<=65536)(h:has l n=N d):M d<=65536:=by
 unfold has at h;obtain⟨x,b,rfl⟩:=aY.1 h
 grind
def Dm{l}(a:∀x∈l,M x.3<=65536):∀(k s),kP l k=N s->M s<=65536*k
 |0,s,h=>by simp[kP]at h;subst h;simp
 |k+1,s,h=>by
  rw[kP]at h;let⟨t,c,h⟩:=Option.bind_eq_some_iff.1 h;obtain⟨d,b,rfl⟩:=aY.1 h;have:=Dm a k t c;have:=Bm a b
  grind
def Bd{l}:∀(k m),kP l k=X->k<=m->kP l m=X
 |k,0,h,hm=>by grind
 |k,m+1,h,hm=>by
  obtain a|rfl:=eY hm
  .rw[kP,Bd k m h aA];rfl
  .exact h
def bytesV(l:List F):po:=match bytes l with
 |some d=>sh #[pk ⟨py d⟩,rh pw]
 |none=>sh #[pk ⟨#[]⟩,rh pi]
def Ei(l)(a:∀x∈l,x.2<65536):(oB l=-1/\bytes l=X)\/(∃n:Nat,oB l=n/\n<65536/\bytes l=kP l (n+1)):=by
 unfold oB bytes;cases h:last l with
 |none=>simp
 |some n=>
  refine rz ⟨n,R,?_,R⟩;unfold last at h;obtain⟨x,b,rfl⟩:=aY.1 h
  grind
def IA(r:Nat)(op v l t w a)(h:kX w a v l)(hl:M l<=4294967296)(z:∀c∈l,c.2<65536)(V:∀c∈l,M c.3<=65536):tf PQ 63 #[we #[ox sr r,ox pg op,v,.bool t]] w λe w'=>e=qs (bytesV l)/\Below w.1.size w w':=by
 obtain⟨O,P,rfl⟩:=gW h;obtain⟨o,D⟩:∃o,bytesV l=o:=⟨_,R⟩
 rw[D];have A:qu _:=D;clear D;obtain⟨W,b⟩:∃W,W=o6 w (pj #[ox sr r,ox pg op,U O (M l) P,.bool t] 121):=⟨_,R⟩
 have f:Below ↑w w W:=by rw[b];exact pb (aH _ w) fI _
 have c0:Z W ⟨↑w,0,X⟩=N (ox sr r):=kq
 have c1:Z W ⟨↑w,1,X⟩=N (ox pg op):=kq
 have c2:Z W ⟨↑w,2,X⟩=N (U O (M l) P):=kq
 have c3:Z W ⟨↑w,3,X⟩=N (.bool t):=kq
 have x:↑w<W.1.size:=kq
 have ab:=last_any r op _ l t W a (h.fF f) hl z;have aa:=λ(n:Nat)(ac:pn)(hu:Below ↑W W ac)=>Hj r op _ l t n ac a ((h.fF f).fF hu) hl z;have af:qu (tf _ _ _ _ _):=ab;have ae:qu _:=aa;have u:qu _:=fE c0 (fE c1 (fE c2 c3));have B:qu _:=fE z V;clear ab aa h z V;go_enter (fq func63 R),ntmps63;go_wp2;rw[<-b];clear b;refine se af.out ?_;rintro e w1 ⟨rfl,y⟩;obtain⟨q,p⟩|⟨n,q,am,p⟩:=Ei l B.1
 .rw[q];obtain rfl:o=sh #[pk ⟨#[]⟩,rh pi]:=by rw[<-A.out];unfold bytesV;rw[p]
  have c:qu _:=ow f (o5 y f.4);clear p q y;go_wp2;go_loopg [5,6] 0 (λg d i j=>d=pk ⟨#[]⟩/\i=ox pg 0/\j=w1)
  case atStart=>simp
  case round=>
   obtain⟨rfl,rfl,rfl⟩:=hrel;go_wp2;go_ret2;exact⟨R,c⟩
 .rw[q];have K:qu _:=p;have k:qu _:=fE f y;clear p q y f;go_wp2;go_loopg [5,6] (n+1) (λg c d j=>∃(i:Nat)(s:List UInt8),i<=n+1/\d=ox pg i/\c=pk ⟨py s⟩/\g=n+1-i/\qu (kP l i=N s/\Below ↑W W j))
  case atStart=>exact⟨0,[],bU _,R,R,R,R,k.2⟩
  case round=>
   obtain⟨i,s,hi,rfl,rfl,rfl,m⟩:=hrel;have an:=Dm B.2 i s m.1;by_cases aj:i<=n
   .have ak:(i:Int)<=(n:Int):=by omega
    have c:=m.2;have d0:=oy (qi c (p:=⟨↑w,0,X⟩) x) u.1;have d1:=oy (qi c (p:=⟨↑w,1,X⟩) x) u.2.1;have d2:=oy (qi c (p:=⟨↑w,2,X⟩) x) u.2.2.1;have d3:=oy (qi c (p:=⟨↑w,3,X⟩) x) u.2.2.2;have T:=ae i wr c;have ad:qu (tf _ _ _ _ _):=T;have J:qu _:=c;clear T c;go_wp2;refine se ad.out ?_;rintro e w2 ⟨rfl,Q⟩;have H:qu _:=ow J (o5 Q J.4);clear Q d0 d1 d2 d3;cases j:has l i with
    |none=>
     have d:Ai l i=sh #[pk ⟨#[]⟩,rh pi]:=by unfold Ai;rw[j]
     rw[d]
     obtain rfl:o=sh #[pk ⟨#[]⟩,rh pi]:=by
      rw[<-A.out];unfold bytesV;rw[K.out,Bd (i+1) (n+1) (by rw[kP,j];simp) aA]
     go_wp2;go_ret2;exact⟨R,ow k.1 (o5 H k.1.4)⟩
    |some d=>
     have hv:Ai l i=sh #[pk ⟨py d⟩,rh pw]:=by unfold Ai;rw[j]
     rw[hv];have ai:=Bm B.2 j;have Y:kP l (i+1)=N (s++d):=by rw[kP,m.out.1,j];rfl
     have e:(⟨py s⟩:ByteArray)++(⟨py d⟩:ByteArray)=⟨py (s++d)⟩:=by
      apply qaQ;simp
     have L:qu _:=fE Y e;have ag:ot (⟨py s⟩:ByteArray)=M s:=by simp[ot]
     have ah:ot (⟨py d⟩:ByteArray)=M d:=by simp[ot]
     obtain⟨S,E⟩:∃S:ByteArray,(⟨py s⟩:ByteArray)=S:=⟨_,R⟩
     obtain⟨G,C⟩:∃G:ByteArray,(⟨py d⟩:ByteArray)=G:=⟨_,R⟩
     rw[E]at ag⊢;rw[C]at ah⊢;have I:qu _:=fE E C;clear E C Y e hv j;go_wp2;go_roundg (n+1-(i+1))
     case measure=>omega
     case rel=>exact⟨i+1,s++d,aA,by go_num,by rw[<-I.out.1,<-I.out.2,L.out.2],R,L.1,H⟩
   .have c:¬(i:Int)<=(n:Int):=by omega
    obtain rfl:i=n+1:=aA
    obtain rfl:o=sh #[pk ⟨py s⟩,rh pw]:=by rw[<-A.out];unfold bytesV;rw[K.out,m.out.1]
    go_wp2;go_ret2;exact⟨R,ow k.1 (o5 m.2 k.1.4)⟩
end
open Fr (F flat jv iX kC iM gW gR ig jY flat_length)
section
variable {w W:pn}{b a:Nat}{v:po}{l:List F}{cs:Array po}{T:wj}{fz:Nat×Nat}
def qO:(PQ.info? 81).map (λi=>(i.8,i.3,i.4))=N (N (we #[ox sr 0,ox XX 0,pk ⟨#[]⟩,rh pi]),4,32):=Zm
def Jm{c e s k:Nat}{xs}(h:r8 w b e s v k xs)(j:c<=b):r8 w c e s v k xs:=by
 obtain⟨i,a⟩:=h;refine⟨i,?_⟩;obtain a|⟨g,d,f,m,l,r⟩:=a
 .exact rr a
 .exact rz ⟨g,d,f,m,aX j l,r⟩
def UU(c:Ch)(v:po):po:=we #[ox sr c.1,ox pg c.2,v,.bool c.4]
def wR(l:List F):=∀x∈l,x.2<65536/\M x.3<=65536
def size_le(h:wR l):size l<=65536*M l:=by
 induction l with
 |nil=>simp[size]
 |cons x l ih=>
  have a:=ih (λy b=>h y (bK _ b));have c:=(h x (bY ..)).2;unfold size at a⊢;simp only[cL,List.sum_cons,aP];omega
def M6(a b):size (a++b)=size a+size b:=by simp[size]
def Iv(c f):kG c f=(te (has c.3 f.2) || c.4 || (decide (0<=oB c.3)&&(f.4 || decide (oB c.3<(f.2:Int))))):=by
 unfold kG oB;cases last c.3 with
 |none=>simp
 |some n=>simp
def Gq(l f x i)(b:(l++[f])[i]? =N x):((l++[f]).take (i+1)).filter (λy=>!goes f y)=((l++[f]).take i).filter (λy=>!goes f y)++(if goes f x then []else [x]):=by
 obtain⟨a,rfl⟩:=aJ.1 b;rw[cO a,eA]
 congr 1
 cases h:goes f (l++[f])[i]<;>simp[h]
def Au(h:kX W a v l)(d:W.1[b]? =N (pj cs T fz))(c:T≠81){W'}(i:∀k≠b,W'.1[k]? =W.1[k]?):kX W' a v l:=
 Fr.kB h (λg f=>i g (λe=>by
  let⟨j,hc⟩:=Fr.rX h g f;rw[e,d]at hc;simp at hc;exact c hc.2.1))
def sP(h:kX W a v l)(e:W.1[b]? =N (pj cs T fz))(d:T≠81)(x y z u):kX (o3 (o3 (o3 (o3 W ⟨b,0,X⟩ x) ⟨b,1,X⟩ y) ⟨b,2,X⟩ z) ⟨b,3,X⟩ u) a v l:=
 Au h e d (λk c=>by rw[aR _ _ _ _ c,aR _ _ _ _ c,aR _ _ _ _ c,aR _ _ _ _ c])
def mY{B c}(h:Below B c w)(b)(a:B<=b)(x y z u):Below B c (o3 (o3 (o3 (o3 w ⟨b,0,X⟩ x) ⟨b,1,X⟩ y) ⟨b,2,X⟩ z) ⟨b,3,X⟩ u):=
 ph (ph (ph (ph h a _) a _) a _) a _
def yu(c v f ab w a)(b0:a<=w.1.size)(h:kX w a v c.3)(hl:M c.3<=16777216)(ht:wR c.3)(hf:f.2<65536/\M f.3<=65536):tf PQ 97 #[UU c v,we #[ox sr f.1,ox XX f.2,pk ⟨py f.3⟩,.bool f.4],ox pg ab] w λad w'=>∃v',ad=qs (UU (joined ab c f) v')/\kX w' a v' (joined ab c f).3/\Below w.1.size w w':=by
 obtain⟨i,j,d,n⟩:=c;obtain⟨s,e,y,l⟩:=f;dsimp only at *;obtain⟨t,A,rfl⟩:=gW h;obtain⟨V,Y⟩:∃V,joined ab ⟨i,j,d,n⟩ ⟨s,e,y,l⟩=V:=⟨_,R⟩
 rw[Y];unfold UU;dsimp only;have L:=Iv ⟨i,j,d,n⟩ ⟨s,e,y,l⟩;dsimp only at L;obtain⟨BA,an⟩:∃BA,kG ⟨i,j,d,n⟩ ⟨s,e,y,l⟩=BA:=⟨_,R⟩
 rw[an]at L;have HJ:qu _:=fE Y an;clear Y an;obtain⟨E,hD⟩:∃E:ByteArray,(⟨py y⟩:ByteArray)=E:=⟨_,R⟩
 have b5:ot E=M y:=by rw[<-hD];simp[ot]
 rw[hD];obtain⟨W,S⟩:∃W,W=o6 (o6 (o6 w (pj #[ox sr i,ox pg j,U t (M d) A,.bool n] 121)) (pj #[ox sr s,ox XX e,pk E,.bool l] 81)) (pj #[ox sr 0,ox pg 0,U X 0 0,rh pi] 121):=⟨_,R⟩
 have C:Below ↑w w W:=by rw[S];exact pb (pb (pb (aH _ w) fI _) aC _) aD _
 have aj:∀(t b c:ZG)(k:Nat),((o6 (o6 (o6 w t) b) c).1[k]?)=if k=w.1.size+2 then N c else if k=w.1.size+1 then N b else if k=w.1.size then N t else w.1[k]?:=by
  intro t b c k;exact ol
 have o0:W.1[w.1.size]? =N (pj #[ox sr i,ox pg j,U t (M d) A,.bool n] 121 (0,0)):=by rw[S,aj];simp
 have o1:W.1[w.1.size+1]? =N (pj #[ox sr s,ox XX e,pk E,.bool l] 81 (0,0)):=by rw[S,aj];simp
 have o2:W.1[w.1.size+1+1]? =N (pj #[ox sr 0,ox pg 0,U X 0 0,rh pi] 121 (0,0)):=by rw[S,aj];simp
 have b6:↑W=w.1.size+3:=by rw[S];simp
 have bc:=λ(D:pn)(O:Below ↑W W D)=>last_any i j _ d n D a ((h.fF C).fF O) aA (λx g=>(ht x g).1);have ba:=Hj i j _ d n e W a (h.fF C) aA (λx g=>(ht x g).1)
 have cells:∀(D:pn),Below ↑W W D->D.1[w.1.size]? =N (pj #[ox sr i,ox pg j,U t (M d) A,.bool n] 121 (0,0))/\D.1[w.1.size+1]? =N (pj #[ox sr s,ox XX e,pk E,.bool l] 81 (0,0))/\D.1[w.1.size+1+1]? =N (pj #[ox sr 0,ox pg 0,U X 0 0,rh pi] 121 (0,0)):=λD O=>
  ⟨oy (O.5 _ aA) o0,oy (O.5 _ aA) o1,oy (O.5 _ aA) o2⟩
 have ak:qu _:=cells;have a0:Z W ⟨↑w,0,X⟩=N (ox sr i):=fZ o0 rfl;have a1:Z W ⟨↑w,1,X⟩=N (ox pg j):=fZ o0 rfl;have a2:Z W ⟨↑w,2,X⟩=N (U t (M d) A):=fZ o0 rfl;have a3:Z W ⟨↑w,3,X⟩=N (.bool n):=fZ o0 rfl;have b1:Z W ⟨w.1.size+1,1,X⟩=N (ox XX e):=fZ o1 rfl;have bq:qu _:=bc;have bp:qu (tf _ _ _ _ _):=ba;have bm:qu _:=L;have K:qu _:=fE h (fE ht C);have cb:((e:Nat):Int)<65536:=aA
 clear cells o0 o1 o2 aj bc ba L h ht C;go_enter (fq func97 R),ntmps97;go_wp2;rw[<-S];clear S;refine se bp.out ?_;rintro ad w1 ⟨rfl,ai⟩
 obtain⟨ca,bd,J⟩:∃am ok,Ai d e=sh #[pk am,.bool ok]:=by
  unfold Ai;cases has d e with
  |none=>exact⟨_,_,R⟩
  |some am=>exact⟨_,_,R⟩
 rw[J]
 have bf:bd=te (has d e):=by
  unfold Ai at J;cases g:has d e with
  |none=>rw[g]at J;simp at J;simp[<-J.2]
  |some am=>rw[g]at J;simp at J;simp[<-J.2]
 let⟨p0,p1,p2⟩:=ak w1 ai;have d0:Z w1 ⟨↑w,0,X⟩=N (ox sr i):=fZ p0 rfl;have d1:Z w1 ⟨↑w,1,X⟩=N (ox pg j):=fZ p0 rfl;have d2:Z w1 ⟨↑w,2,X⟩=N (U t (M d) A):=fZ p0 rfl;have d3:Z w1 ⟨↑w,3,X⟩=N (.bool n):=fZ p0 rfl;have a9:=bq w1 ai;have bo:qu (tf _ _ _ _ _):=a9;have br:qu _:=bf;have ay:qu _:=ai;clear p0 p1 p2 a9 bf ai J;go_wp2;refine se bo.out ?_;rintro ad w2 ⟨rfl,a8⟩;have I:=ow ay (o5 a8 ay.4);let⟨p,q,u⟩:=ak w2 I;have e0:Z w2 ⟨↑w,0,X⟩=N (ox sr i):=fZ p rfl;have e1:Z w2 ⟨↑w,1,X⟩=N (ox pg j):=fZ p rfl;have e2:Z w2 ⟨↑w,2,X⟩=N (U t (M d) A):=fZ p rfl;have e3:Z w2 ⟨↑w,3,X⟩=N (.bool n):=fZ p rfl;have f0:Z w2 ⟨w.1.size+1,0,X⟩=N (ox sr s):=fZ q rfl;have f1:Z w2 ⟨w.1.size+1,1,X⟩=N (ox XX e):=fZ q rfl;have f2:Z w2 ⟨w.1.size+1,2,X⟩=N (pk E):=fZ q rfl;have f3:Z w2 ⟨w.1.size+1,3,X⟩=N (.bool l):=fZ q rfl;have G:qu _:=fE I (fE p (fE q u));clear a8 I d0 d1 d2 d3 a0 a1 a2 a3 b1 p q u;obtain⟨LI,ao⟩:∃LI,oB d=LI:=⟨_,R⟩
 rw[ao];have bl:qu _:=ao;clear ao;go_upto_region 3 with fail;go_cut [43] (λv g=>v=.bool BA/\g=w2)
 case first=>
  have L:=bm.out;rw[bl.out,<-br.out]at L;have g:qu _:=L;clear L;cases bd with
  |true=>
   go_wp2;go_meet;exact⟨by rw[g.out];rfl,R⟩
  |false=>
   cases n with
   |true=>
    go_wp2;go_meet;exact⟨by rw[g.out];rfl,R⟩
   |false=>
    by_cases m:0<=LI
    .cases l with
     |true=>
      go_wp2;go_meet;exact⟨by rw[g.out];simp[m],R⟩
     |false=>
      by_cases o:LI<(e:Int)
      .go_wp2;go_meet;exact⟨by rw[g.out];simp[m,o],R⟩
      .go_wp2;go_meet;exact⟨by rw[g.out];simp[o],R⟩
    .go_wp2;go_meet;exact⟨by rw[g.out,show decide (0<=LI)=pi from Zd aA];rfl,R⟩
 case rest=>
  obtain⟨rfl,av⟩:=hcut;have av:=si av;subst av;have g0:Z w2 ⟨w.1.size+1+1,0,X⟩=N (ox sr 0):=fZ G.2.2.2 rfl;have g1:Z w2 ⟨w.1.size+1+1,1,X⟩=N (ox pg 0):=fZ G.2.2.2 rfl;have g2:Z w2 ⟨w.1.size+1+1,2,X⟩=N (U X 0 0):=fZ G.2.2.2 rfl;have g3:Z w2 ⟨w.1.size+1+1,3,X⟩=N (rh pi):=fZ G.2.2.2 rfl;have fz:=aM G.2.2.2;have ag:Below ↑w w w2:=ow K.2.2 (o5 G.1 K.2.2.4);cases BA with
  |true=>
   obtain rfl:V=⟨i,j,d,n⟩:=by rw[<-HJ.out.1];unfold joined;rw[Zb HJ.out.2]
   have g:qu _:=ag;clear ag;go_wp2;refine sd (v:=we #[ox sr i,ox pg j,U t (M d) A,.bool n]) (by simp[results,results97,go_sem,g0,g1,g2,g3]) R ⟨U t (M d) A,R,?_,?_⟩
   .exact sP (K.1.fF g) G.2.2.2 aB _ _ _ _
   .exact ph (ph (ph (ph g aD _) aD _) aD _) aD _
  |false=>
   have ac:qu _:=ag;clear ag;go_wp2;go_loopg [10,11,12] (M d+1) (λg B H P z=>∃(m:Nat)(r:List F)(o:Option Addr)(x:Nat),m<=M d+1/\P=ox pg m/\B=U o (M r) x/\H=ox pg (size r:Nat)/\g=M d+1-m/\qu (r=((d++[(⟨s,e,y,l⟩:F)]).take m).filter (λQ=>!goes ⟨s,e,y,l⟩ Q)/\r8 z ↑w2 81 4 (U o (M r) x) (M r) (flat r)/\Below ↑w2 w2 z))
   case atStart=>exact⟨0,[],X,0,bU _,R,R,R,R,R,Yw _ _ _ _,aH _ _⟩
   case round=>
    obtain⟨g,r,ra,rc,hi,rfl,rfl,rfl,rfl,H⟩:=hrel
    have cc:M r<=g:=by
     rw[H.out.1];refine aX (dR _ _) ?_;exact nn
    have au:wR r:=by
     intro x m;rw[H.out.1]at m;have m:=eR (dD.1 m).1;obtain m|m:=bV.1 m
     .exact K.2.1 x m
     .rw[bT.1 m];exact hf
    have cd:=size_le au;have b4:qu _:=au;clear au;have aa:=H.2.2;have C:=ow G.1 (o5 aa G.1.4);let⟨p,q,u⟩:=ak wr C;have e2:Z wr ⟨↑w,2,X⟩=N (U t (M d) A):=fZ p rfl;have f0:Z wr ⟨w.1.size+1,0,X⟩=N (ox sr s):=fZ q rfl;have f1:Z wr ⟨w.1.size+1,1,X⟩=N (ox XX e):=fZ q rfl;have f2:Z wr ⟨w.1.size+1,2,X⟩=N (pk E):=fZ q rfl;have f3:Z wr ⟨w.1.size+1,3,X⟩=N (.bool l):=fZ q rfl;have cf:w.1.size+1<wr.1.size:=(fO q)
    have ah:∀(o:ZG)(k:Nat)(hk:k<↑wr),(o6 wr o).1[k]? =wr.1[k]?:=λo k hk=>aU _ _ _ hk;have bv:∀o:ZG,Z (o6 wr o) ⟨↑w,2,X⟩=N (U t (M d) A):=λo=>by rw[aG (oy (ah o _ aA) p)];rfl
    have a4:∀o:ZG,Z (o6 wr o) ⟨w.1.size+1,1,X⟩=N (ox XX e):=λo=>by rw[aG (oy (ah o _ aA) q)];rfl
    have a5:∀o:ZG,Z (o6 wr o) ⟨w.1.size+1,3,X⟩=N (.bool l):=λo=>by rw[aG (oy (ah o _ aA) q)];rfl
    clear ah;have Hq:qu _:=fE p (fE q (fE u (fE aa C)));clear p q u aa C;by_cases bx:g<=M d
    .have bz:(g:Int)<=(M d:Int):=by omega
     obtain⟨x,P⟩:∃x,(d++[(⟨s,e,y,l⟩:F)])[g]? =N x:=⟨_,aK aD⟩
     obtain⟨z,T⟩:∃z:ByteArray,(⟨py x.3⟩:ByteArray)=z:=⟨_,R⟩
     have Q:qu _:=fE P T;have b3:qu _:=hD;clear P T;go_upto_if 57 with fail;go_cut [13] (λv m=>v=pm (N ⟨↑wr,0,X⟩)/\m=o6 wr (pj #[ox sr x.1,ox XX x.2,pk z,.bool x.4] 81))
     case first=>
      have P:=Q.1;have T:=Q.2;by_cases ae:g<M d
      .have az:(g:Int)<(M d:Int):=by omega
       let⟨m,aw,hv⟩:=iM K.1 aA;simp only[ry,true_and]at hv;obtain⟨rfl,rfl⟩:=hv;have aq:d[g]? =N x:=by rw[bI ae]at P;exact P
       let⟨k0,k1,k2,k3⟩:=pX (K.1.fF ac) Hq.2.2.2.1 aq;rw[T]at k2
       have ar:m<↑wr:=by
        have:=(iX (K.1.fF ac) (g:=m) R).2;have:=Hq.2.2.2.1.4;omega
       have B:∀(o:ZG)(af:Nat),Z (o6 wr o) ⟨m,af,X⟩=Z wr ⟨m,af,X⟩:=λo af=>qz (aU _ _ _ ar);have a6:=λo:ZG=>oy (B o _) k0;have a7:=λo:ZG=>oy (B o _) k1;have bb:=λo:ZG=>oy (B o _) k2;have bg:=λo:ZG=>oy (B o _) k3;clear P aq T B k0 k1 k2 k3;have ap:decide (g<M d)=pw:=Ze ae;have ax:m≠wr.1.size:=aA
       rw[ap];clear ap;go_wp2;go_meet;exact⟨R,R⟩
      .have B:¬(g:Int)<(M d:Int):=by omega
       obtain rfl:g=M d:=aA
       obtain rfl:x=⟨s,e,y,l⟩:=by simpa using si P
       obtain rfl:E=z:=oy (si hD) T;have m:decide (M d<M d)=pi:=Zd ae;rw[m];clear P T B ae bx bz hi m;go_wp2;go_meet;exact⟨R,R⟩
     case rest=>
      obtain⟨rfl,af⟩:=hcut;subst af;obtain⟨GO,a6⟩:∃GO,goes ⟨s,e,y,l⟩ x=GO:=⟨_,R⟩
      have aw:qu _:=a6;clear a6;obtain⟨Zr,B⟩:∃Zr,Zr=o6 wr (pj #[ox sr x.1,ox XX x.2,pk z,.bool x.4] 81):=⟨_,R⟩
      have x0:Z Zr ⟨↑wr,0,X⟩=N (ox sr x.1):=mu
      have x1:Z Zr ⟨↑wr,1,X⟩=N (ox XX x.2):=mu
      have x2:Z Zr ⟨↑wr,2,X⟩=N (pk z):=mu
      have x3:Z Zr ⟨↑wr,3,X⟩=N (.bool x.4):=mu
      have X1:Z Zr ⟨w.1.size+1,1,X⟩=N (ox XX e):=by rw[B];exact a4 _
      have X3:Z Zr ⟨w.1.size+1,3,X⟩=N (.bool l):=by rw[B];exact a5 _
      have a7:Below ↑wr wr Zr:=by rw[B];exact pb (aH _ _) fI _
      have b9:↑wr<Zr.1.size:=mu
      rw[<-B];clear B bv a4 a5;go_upto_region 13 with fail;go_cut [71] (λv m=>v=.bool GO/\m=Zr)
      case first=>
       have m:=aw.out;unfold goes at m;dsimp only at m;cases l with
       |false=>
        obtain rfl:GO=pi:=by rw[<-m];rfl
        clear m;go_wp2;go_meet;exact⟨R,R⟩
       |true=>
        by_cases ae:e<x.2
        .obtain rfl:GO=pw:=by rw[<-m,Ze ae];rfl
         have ap:(e:Int)<(x.2:Int):=aA
         clear m;go_wp2;go_meet;exact⟨aC,R⟩
        .obtain rfl:GO=pi:=by rw[<-m,Zd ae];rfl
         have ap:¬(e:Int)<(x.2:Int):=aA
         clear m;go_wp2;go_meet;exact⟨aC,R⟩
      case rest=>
       obtain⟨rfl,af⟩:=hcut;have af:=si af;subst af;have aq:=Gq d ⟨s,e,y,l⟩ x g Q.1;rw[aw.out,<-H.out.1]at aq;have az:qu _:=aq;clear aq;have ae:=gR H.2.1 a7;have I:=ow Hq.2.2.2.1 (o5 a7 Hq.2.2.2.1.4);cases GO with
       |true=>
        have m:qu _:=fE ae I;clear ae I;go_wp2;go_roundg (M d+1-(g+1))
        case measure=>omega
        case rel=>exact⟨g+1,r,ra,rc,aA,by go_num,R,R,R,by have:=az.out;simpa using si this,m.out⟩
       |false=>
        have b8:ot z<=65536:=by
         rw[<-Q.out.2];have m:=aS Q.1
         have:M x.3<=65536:=by
          obtain m|m:=bV.1 m
          .exact(K.2.1 x m).2
          .rw[bT.1 m];exact hf.2
         simpa[ot]using this
        have b7:ot z=M x.3:=by rw[<-Q.out.2];simp[ot]
        have bg:∀o:ZG,r8 (o6 Zr o) ↑w2 81 4 (U ra (M r) rc) (M r) (flat r):=λo=>gR ae (pb (aH _ Zr) fI o);have bs:qu _:=bg;have ax:qu _:=fE ae I;have ce:=I.4;let⟨i0,bb,bh,bj,bk⟩:=yk qO;have Hi:qu _:=fE bb (fE bh (fE bj bk));clear ae I bg bb bh bj bk;go_wp2_with (at_builtin;(refine ig R (.tmp 72) (.tmp 74) 76 R ↑w2 81 i0 _ 4 32 (uq YB) Hi.1 Hi.2.1 Hi.2.2.1 Hi.2.2.2 R aB _ (M r) (flat r) R (bs _) ⟨↑Zr,0,X⟩ 1 1 [ox sr x.1,ox XX x.2,pk z,.bool x.4] R aB R (by intro b2 D m;match b2,m with|0,m=>(simp at m;subst m;simp[sf])|1,m=>(simp at m;subst m;simp[sf])|2,m=>(simp at m;subst m;simp[sf])|3,m=>(simp at m;subst m;simp[sf])) (by intro D O;simp at O;rcases O with rfl|rfl|rfl|rfl<;>rfl) aE aA aD ?_;intro v4 w4 ar ap bw;obtain⟨g4,bu,rfl⟩:=iM ar aA;have cg:Z w4 ⟨↑wr,2,X⟩=N (pk z):=oy (qz (ap.5 ↑wr aD (λad=>by have:=(iX H.2.1 (si ad)).2;omega))) (oy (qz (aU _ _ _ aA)) x2);have HO:qu _:=fE ar ap;clear ar ap bw))
        go_roundg (M d+1-(g+1))
        case measure=>omega
        case rel=>
         refine⟨g+1,r++[x],N ⟨g4,0,X⟩,bu,aA,by go_num,aC,?_,R,?_,?_,?_⟩
         .rw[M6];exact Zf (ox pg) (by simp[size])
         .have:=az.out;simpa using si this
         .rw[show M (r++[x])=M r+1 from by simp,jY];simp only[flat,jv,dI];rw[Q.out.2];exact HO.1
         .exact Below.grown (pb (ax.2) ax.2.4 _) HO.2 aD (λm hm=>(iX H.2.1 hm).1)
    .have af:¬(g:Int)<=(M d:Int):=by omega
     have ae:g=M d+1:=aA
     have B:r=grown ⟨i,j,d,n⟩ ⟨s,e,y,l⟩:=by
      rw[H.out.1,cK aD];rfl
     have Y:V=if ab<(size r:Int)then⟨i,j,[],pw⟩else⟨i,j,r,n⟩:=by
      rw[<-HJ.out.1];unfold joined;rw[Za (by rw[HJ.out.2];simp),<-B]
     have x:qu _:=Y;clear Y B ae;let⟨p,q,u,aa,C⟩:=Hq.out;have r0:Z wr ⟨↑w,0,X⟩=N (ox sr i):=fZ p rfl;have r1:Z wr ⟨↑w,1,X⟩=N (ox pg j):=fZ p rfl;have r3:Z wr ⟨↑w,3,X⟩=N (.bool n):=fZ p rfl;have fq:=aM p;have P:Z wr ⟨w.1.size+1+1,0,X⟩=N (ox sr 0):=fZ u rfl;have Q:Z wr ⟨w.1.size+1+1,1,X⟩=N (ox pg 0):=fZ u rfl;have T:Z wr ⟨w.1.size+1+1,2,X⟩=N (U X 0 0):=fZ u rfl;have t3:Z wr ⟨w.1.size+1+1,3,X⟩=N (rh pi):=fZ u rfl;have ft:=aM u;have m:qu _:=fE p (fE u (ow ac (o5 aa ac.4)));clear p q u aa C;by_cases z:ab<(size r:Int)
     .obtain rfl:V=⟨i,j,[],pw⟩:=by rw[x.out,Zb z]
      go_wp2;refine sd (v:=we #[ox sr i,ox pg j,U X 0 0,rh pw]) (by simp[results,results97,go_sem,P,Q,T,t3]) R ⟨U X 0 0,R,Yw _ _ _ _,?_⟩;exact mY (ph (ph (ph m.2.2 aC _) aC _) aC _) _ aA _ _ _ _
     .obtain rfl:V=⟨i,j,r,n⟩:=by rw[x.out,Za z]
      go_wp2;refine sd (v:=we #[ox sr i,ox pg j,U ra (M r) rc,.bool n]) (by simp[results,results97,go_sem,P,Q,T,t3]) R ⟨U ra (M r) rc,R,?_,?_⟩
      .have h1:kX wr a (U ra (M r) rc) r:=Jm H.2.1 (aX b0 ac.4);have h2:=Au (W':=o3 wr ⟨↑w,2,X⟩ (U ra (M r) rc)) h1 m.1 aB (λk hk=>aR _ _ _ _ hk);exact sP h2 (oy (aR _ _ _ _ aD) m.2.1) aB _ _ _ _
      .exact mY (ph m.2.2 aC _) _ aA _ _ _ _
end
open Fr (F flat jv iX kC iM gW gR ig jY flat_length rX kB)
section
variable {ts:List wj}{A B W i:pn}{b a e s k size n g off cap:Nat}{cs:Array po}{t:wj}{d:Nat×Nat}{v:po}{xs:List po}{l:List F}{ps:List (Ch×po)}{c:Ch}{f:F}
def fN(ts:List wj)(W i:pn):=∀(k:Nat)(cs:Array po)(t:wj)(d:Nat×Nat),W.1[k]? =N (pj cs t d)->t∉ts->i.1[k]? =N (pj cs t d)
def fN.refl(ts W):fN ts W W:=λ_ _ _ _ h _=>h
def fN.trans{C}(h:fN ts A B)(b:fN ts B C):fN ts A C:=λk cs t d c a=>b k cs t d (h k cs t d c a) a
def fN.mono{a}(h:fN ts A B)(c:∀t∈ts,t∈a):fN a A B:=λk cs t d b f=>h k cs t d b (λe=>f (c t e))
def fN.fF(ts)(h:Below ↑A A B):fN ts A B:=λk _ _ _ a _=>oy (h.5 k (fO a)) a
def fN.one(e:A.1[b]? =N (pj cs t d))(g:t∈ts)(h:∀k<A.1.size,k≠b->B.1[k]? =A.1[k]?):fN ts A B:=λk a j c f i=>by
 grind
def fN.set(a:A.1[b]? =N (pj cs t d))(e:t∈ts)(i v):fN ts A (o3 A ⟨b,i,X⟩ v):=
 fN.one a e (λ_ _ c=>aR _ _ _ _ c)
def fN.grown(f:ss A B (ov v))(g:r8 A a e s v k xs)(l:e∈ts):fN ts A B:=λb cs t d c j=>by
 refine oy (f.5 b (fO c) (λh=>?_)) c;let⟨i,hc⟩:=rX g b (si h)
 grind
def AJ(h:r8 W a e s v k xs)(c:fN ts W i)(d:e∉ts):r8 i a e s v k xs:=
 kB h (λg b=>by
  let⟨f,hc⟩:=rX h g b;rw[hc];exact c _ _ _ _ hc d)
theorem uE{a:Type}(f:a->List po)(s)(b:∀x,M (f x)=s):∀(l:List a)(j i x),l[j]? =N x->i<s->(l.flatMap f)[j*s+i]? =(f x)[i]?
 |[],j,i,x,h,_=>by simp at h
 |y::l,0,i,x,h,hi=>by
  grind
 |y::l,j+1,i,x,h,hi=>by
  rw[dQ,bF (by grind),b,<-uE f s b l j i x jx hi]
  grind
def uC(W:pn)(a:Nat)(e size:Nat)(v:po)(n:Nat)(xs:List po):=
 (n=0/\xs=[]/\∃c cap,v=U c 0 cap)\/∃g off cap b d,v=U (N ⟨g,off,X⟩) n cap/\n<=cap/\a<=g/\W.1[g]? =N (pj b e d)/\M xs=n*size/\∀j u,xs[j]? =N u->b[off+j]? =N u
def uC.slice(h:uC W a e size v n xs):∃b cap,v=.slice b n cap:=by
 obtain⟨rfl,_,b,cap,rfl⟩|⟨g,off,cap,c,d,rfl,_⟩:=h
 .exact⟨b,cap,R⟩
 simp
def uC.CB(h:r8 W a e size v n xs):uC W a e size v n xs:=by
 have c:=h.1;obtain⟨rfl,b⟩|⟨g,cap,d,rfl,f,i,j,_,k,m⟩:=h.2
 .refine rr ⟨b,?_,X,0,R⟩;exact bC (by rw[c,b];simp)
 .refine rz ⟨g,0,cap,d,(0,0),R,j,f,i,c,λo u l=>?_⟩
  grind
def uC.keeps(h:uC W a e size v n xs)(l:fN ts W i)(m:e∉ts):uC i a e size v n xs:=by
 obtain h|⟨g,off,cap,b,d,o,c,f,j,k⟩:=h
 .exact rr h
 .exact rz ⟨g,off,cap,b,d,o,c,f,l _ _ _ _ j m,k⟩
theorem uC.cell(h:uC W a e size (U (N ⟨g,off,X⟩) n cap) n xs)(p:0<n):∀j u,xs[j]? =N u->Z W ⟨g,off+j,X⟩=N u:=by
 obtain⟨o,_⟩|⟨m,q,k,l,d,b,_,_,c,_,f⟩:=h
 .omega
 .simp only[ry,aI,zs,and_true,true_and]at b;obtain⟨⟨rfl,rfl⟩,rfl⟩:=b;intro j u i;have:=f j u i;simp[Z,c,this]
def uC.pos(h:uC W a e size v n xs)(k:0<n):∃g off cap,v=U (N ⟨g,off,X⟩) n cap/\n<=cap/\a<=g/\g<W.1.size:=by
 obtain⟨b,_⟩|⟨g,off,cap,c,d,l,b,f,i,j⟩:=h
 .omega
 grind
def uC.tail(h:uC W a e size (U (N ⟨g,off,X⟩) (n+1) cap) (n+1) xs):uC W a e size (U (N ⟨g,off+size,X⟩) n (cap-1)) n (xs.drop size):=by
 obtain⟨f,_⟩|⟨l,r,k,c,d,b,f,i,j,m,o⟩:=h
 .omega
 .simp only[ry,aI,zs,and_true,true_and]at b;obtain⟨⟨rfl,rfl⟩,rfl⟩:=b;refine rz ⟨g,off+size,cap-1,c,d,R,aA,i,j,?_,λq u p=>?_⟩
  .grind
  grind
def kK(p:Ch×po):List po:=[ox sr p.1.1,ox pg p.1.2,p.2,.bool p.1.4]
def ku(p):M (kK p)=4:=rfl
def iH(W:pn)(a:Nat)(v:po)(ps:List (Ch×po)):=uC W a 121 4 v (M ps) (ps.flatMap kK)/\∀p∈ps,kX W a p.2 p.1.3
def kX.keeps(h:kX W a v l)(b:fN ts W i)(c:81∉ts):kX i a v l:=AJ h b c
def iH.keeps(h:iH W a v ps)(b:fN ts W i)(c:81∉ts)(d:121∉ts):iH i a v ps:=
 ⟨h.1.keeps b d,λp e=>(h.2 p e).keeps b c⟩
def iH.get(h:iH W a (U (N ⟨g,off,X⟩) n cap) ps)(d:n=M ps){j p}(b:ps[j]? =N p):Z W ⟨g,off+j*4,X⟩=N (ox sr p.1.1)/\Z W ⟨g,off+j*4+1,X⟩=N (ox pg p.1.2)/\Z W ⟨g,off+j*4+2,X⟩=N p.2/\Z W ⟨g,off+j*4+3,X⟩=N (.bool p.1.4):=by
 subst d;have f:j<M ps:=(aJ.1 b).1
 have k:∀(i:Nat)(u:po),i<4->(kK p)[i]? =N u->Z W ⟨g,off+j*4+i,X⟩=N u:=λi u c e=>by
  have:=h.1.cell aA (j*4+i) u (by rw[uE kK 4 ku ps j i p b c];exact e)
  grind
 exact⟨k 0 _ aA R,k 1 _ aA R,k 2 _ aA R,k 3 _ aA R⟩
def iH.nil(W a):iH W a (U X 0 0) []:=⟨rr ⟨R,R,X,0,R⟩,aC⟩
def pass(a:Int)(f:F)(c:Ch):Option Ch:=if c.1=f.1 then(if f.2=0 then X else N (joined a c f))else N c
theorem KZ(a n cs f):frame a n cs f=cs.filterMap (pass a f)++(if f.2=0 then [joined a ⟨f.1,n,[],pi⟩ f]else []):=by
 unfold frame;by_cases h:f.2=0
 .rw[Zb h,Zb h]
  congr 1
  induction cs with
  |nil=>rfl
  |cons c cs ih=>
   rw[List.filterMap_cons,cJ,ih];unfold pass
   grind
 .rw[Za h,Za h,dI]
  induction cs with
  |nil=>rfl
  |cons c cs ih=>
   rw[List.filterMap_cons,cL,ih];unfold pass
   grind
def IJ(a f)(cs:List Ch)(i c)(hc:cs[i]? =N c):(cs.take (i+1)).filterMap (pass a f)=(cs.take i).filterMap (pass a f)++(pass a f c).toList:=by
 obtain⟨b,rfl⟩:=aJ.1 hc;rw[cO b,List.filterMap_append]
 congr 1
def vJ{b}(h:wR c.3)(d:f.2<65536/\M f.3<=65536):wR (joined b c f).3:=by
 unfold joined;split
 .exact h
 .split
  .intro x a;simp at a
  .intro x a;simp only at a;unfold grown at a;have a:=(dD.1 a).1;obtain a|a:=bV.1 a
   .exact h x a
   grind
def yD(a c f):M (joined a c f).3<=M c.3+1:=by
 unfold joined;split
 .omega
 .split
  .simp
  .simp only;unfold grown
   grind
end
end Dv
namespace Hm
open Go.RowKit
def Bv{s:ByteArray}(h:ot s=0):s=ByteArray.empty:=by obtain⟨⟨l⟩⟩:=s;have:l=[]:=bC h;rw[this];rfl
def iW(a b:ByteArray):(a++b).1.1=a.1.1++b.1.1:=aC
def E9:ot (⟨#[]⟩:ByteArray)=0:=rfl
def Et(s:ByteArray)(b w)(hs:ot s<=4194304)(aj:-9223372036854775808<=b)(am:b<=9223372036854775807):tf PQ 100 #[pk s,ox pg b] w λJ W=>J=qs (sh #[pk ⟨py (Sq.spread (ot s) s.1.1 b []).1⟩,.bool (Sq.spread (ot s) s.1.1 b []).2])/\W=w:=by
 generalize A:Sq.spread (ot s) s.1.1 b []=Zs;have G:qu _:=A;clear A;go_enter (fq func100 R),ntmps100;go_wp2;go_loop [0,1,6] (λv m o=>∃(a:ByteArray)(c:Int)(f:Nat)(out:ByteArray),v=pk a/\m=ox pg c/\o=pk out/\ot a<=f/\qu (Sq.spread f a.1.1 b out.1.1=Zs)/\ot out+128*ot a<=536870912/\(ot out=0\/(ot out:Int)<=b)/\(c=b\/(c=0/\b<0))) (λv _ _=>strLen v)
 case atStart=>
  exact⟨s,b,ot s,⟨#[]⟩,R,R,R,fI,G,by rw[E9];omega,rr R,rr R⟩
 case round=>
  obtain⟨a,d,f,out,rfl,rfl,rfl,o,l,ah,D,h⟩:=hrel;have ak:-9223372036854775808<=d:=aA
  have an:d<=9223372036854775807:=aA
  have j:qu _:=D;have e:qu _:=h;clear D h;by_cases i:0<ot a
  .have ap:(!List.isEmpty a.toList)=pw:=by rw[gH,Zd aA];rfl
   have O:=xi a[0];have ae:(pf a[0]:Int)<256:=aA
   clear O;cases c:Sq.piece a.1.1 with
   |none=>
    have g:qu (Zs=(out.1.1,pi)):=by
     rw[qu,<-l.out];exact vG _ _ _ _ (by rw[<-aW];exact i) (by rw[<-aW];exact o) c
    rw[rT a i]at c
    have hc:(pf a[0]:Int)=128\/(128<(pf a[0]:Int)/\(ot a:Int)<2)\/((pf a[0]:Int)<128/\(ot a:Int)<(pf a[0]:Int)+2):=by
     split at c
     .grind
     .grind
    clear c;obtain hc|⟨hc,k⟩|⟨hc,k⟩:=hc
    .have m:(pf a[0]:Int)<=128:=by omega
     have n:128<=(pf a[0]:Int):=aA
     clear hc;go_wp2;go_ret2;exact np
    .go_wp2;go_ret2;exact np
    .go_wp2;go_ret2;exact np
   |some tn=>
    obtain⟨au,ar⟩:=tn;have p:=yh _ _ _ c;rw[<-aW]at p;have x:qu _:=c;rw[rT a i]at c;split at c
    .split at c
     .simp only[aI,bR]at c;obtain⟨rfl,rfl⟩:=c;rename_i y z;have C:(pf a[0]:Int)<128:=by omega
      have E:(pf a[0]:Int)+2<=ot a:=aA
      clear y z;have k:M (qt a 1 (pf a[0]+2)).1.1=pf a[0]+1:=by rw[iS,cF,bA,<-aW];omega
      have n:qu _:=k;rw[k]at p;clear k;have m:0<M a.1.1/\M a.1.1<=f:=by rw[<-aW];exact⟨i,o⟩
      have g:=nL f _ b out.1.1 _ _ m.1 m.2 x.out;rw[l.out,n.out,<-aW]at g;clear m;obtain q|⟨q,u⟩|⟨q,u⟩:=(show d<0\/(0<=d/\d<(ot out:Int)+((pf a[0]:Int)+1))\/(0<=d/\(ot out:Int)+((pf a[0]:Int)+1)<=d) from by omega)
      .have F:b<0:=by have:=e.out;omega
       have r:ot out=0:=by have:=j.out;omega
       have B:out=ByteArray.empty:=Bv r;subst B
       have t:qu (Zs=([],pi)):=by
        rw[qu,g,Zb aD];have:vv (max b 0)=0:=aA
        simp[this]
       clear g r;go_wp2;go_ret2;rw[t.out];exact⟨R,R⟩
      .have r:qu (Zs=((out++qt (qt a 1 (pf a[0]+2)) 0 (vv d-ot out)).1.1,pi)):=by
        have h:=e.out;rw[qu,g,Zb aA,iW,iS _ 0];simp only[qaJ]
        congr 3
        omega
       clear g;have t:(ot out:Int)<=d:=by have:=e.out;have:=j.out;omega
       go_wp2;go_ret2;rw[r.out];exact⟨R,R⟩
      .have r:qu (Zs=Sq.spread (f-1) (qt a (pf a[0]+2) (ot a)).1.1 b (out++qt a 1 (pf a[0]+2)).1.1):=by
        have h:=e.out;rw[qu,g,Za aA,iW,iS a _ (ot a)]
        congr 2
        rw[aW a,eD]
       clear g;go_wp2;go_round
       case rel=>
        have t:ot (qt a (pf a[0]+2) (ot a))=ot a-(pf a[0]+2):=by simp[cP]
        have B:ot (out++qt a 1 (pf a[0]+2))=ot out+(pf a[0]+1):=by rw[aW,iW,aN,n.out,<-aW]
        refine⟨_,d,f-1,_,R,R,R,aA,si r,aA,rz ?_,e⟩;have:=e.out;omega
       case measure=>
        have t:ot (qt a (pf a[0]+2) (ot a))=ot a-(pf a[0]+2):=by simp[cP]
        simp[strLen];omega
     .simp at c
    .split at c
     .simp at c
     .split at c
      .simp only[aI,bR]at c;obtain⟨rfl,rfl⟩:=c;rename_i Q S V;have af:128<(pf a[0]:Int):=by omega
       have ag:2<=(ot a:Int):=aA
       clear Q S V;have t:ot (qt a 1 2)=1:=ki
       have E:M (qt a 1 2).1.1=1:=by rw[<-aW];exact t
       have r:M (Lib.repeatL (qt a 1 2).1.1 (257-pf a[0]))=257-pf a[0]:=by rw[Lib.repeatL_length,E,qbn]
       have y:qu _:=r;rw[r]at p;have u:0<M a.1.1/\M a.1.1<=f:=by rw[<-aW];exact⟨i,o⟩
       have q:=nL f _ b out.1.1 _ _ u.1 u.2 x.out;rw[l.out,y.out,<-aW]at q;have n:qu _:=q;clear u q r E;have Y:qu _:=t;have aq:(ot (qt a 1 2):Int)<=1:=aA
       clear t;generalize B:qt a 1 2=T at *;have H:qu _:=B;clear B;have ad:qt a 1 2=T:=H.out;go_wp2;go_loop [8,10] (λm g=>∃(k:Nat)(P:ByteArray),k<=257-pf a[0]/\g=ox pg k/\m=pk P/\qu (P.1.1=Lib.repeatL T.1.1 k)/\ot P<=k) (λ_ g=>257-pf a[0]-vv (intOf g))
       case atStart=>exact⟨0,⟨#[]⟩,bU _,R,R,R,fI⟩
       case round=>
        obtain⟨k,P,hk,rfl,rfl,g,ac⟩:=hrel;by_cases ai:(k:Int)<257-(pf a[0]:Int)
        .go_wp2;go_round
         case rel=>
          refine⟨k+1,_,aA,by go_num,R,?_,?_⟩
          .rw[qu,iW,g.out,Lib.repeatL_add,Lib.repeatL_one]
          .rw[aW,iW,aN,<-aW,<-aW];omega
         case measure=>simp[intOf];omega
        .have C:k=257-pf a[0]:=by omega
         have m:qu (P.1.1=Lib.repeatL T.1.1 (257-pf a[0])):=by rw[<-C];exact g
         have L:ot P=257-pf a[0]:=by rw[aW,m.out];exact y
         clear g C;have aa:(ot P:Int)<=257-(pf a[0]:Int):=aA
         have ab:257-(pf a[0]:Int)<=(ot P:Int):=aA
         clear L;obtain z|⟨z,K⟩|⟨z,K⟩:=(show d<0\/(0<=d/\d<(ot out:Int)+(ot P:Int))\/(0<=d/\(ot out:Int)+(ot P:Int)<=d) from by omega)
         .have ao:b<0:=by have:=e.out;omega
          have F:ot out=0:=by have:=j.out;omega
          have T:out=ByteArray.empty:=Bv F;subst T
          have I:qu (Zs=([],pi)):=by
           rw[qu,n.out,Zb aD];have:vv (max b 0)=0:=aA
           simp[this]
          clear F;go_wp2;go_ret2;rw[I.out];exact⟨R,R⟩
         .have F:qu (Zs=((out++qt P 0 (vv d-ot out)).1.1,pi)):=by
           have h:=e.out;rw[qu,n.out,Zb aA,iW,iS _ 0,m.out];simp only[qaJ]
           congr 3
           omega
          have I:(ot out:Int)<=d:=by have:=e.out;have:=j.out;omega
          go_wp2;go_ret2;rw[F.out];exact⟨R,R⟩
         .have F:qu (Zs=Sq.spread (f-1) (qt a 2 (ot a)).1.1 b (out++P).1.1):=by
           have h:=e.out;rw[qu,n.out,Za aA,iW,iS a _ (ot a),m.out]
           congr 2
           rw[aW a,eD]
          go_wp2;go_round
          case rel=>
           have I:ot (qt a 2 (ot a))=ot a-2:=by simp[cP]
           have T:ot (out++P)=ot out+ot P:=by rw[aW,iW,aN,<-aW,<-aW]
           refine⟨_,d,f-1,_,R,R,R,aA,si F,aA,rz ?_,e⟩;have:=e.out;omega
          case measure=>
           have I:ot (qt a 2 (ot a))=ot a-2:=by simp[cP]
           simp[strLen];omega
      .simp at c
  .have k:(!List.isEmpty a.toList)=pi:=by rw[gH,Ze aA];rfl
   have c:a.1.1=[]:=by
    have:=aW a;exact bC aA
   have g:qu (Zs=(out.1.1,pw)):=by rw[qu,<-l.out,c,yg]
   clear c;go_wp2;go_ret2;exact np
section
variable {n:Nat}{P:th}{w:pn}{Q:qaC->Act->pn->Prop}
def jg{a:Array po}(h:qd a=n):∃l,a=py l/\M l=n:=⟨a.1,aC,jx⟩
def je{l:List po}(h:M l=n+1):∃a m,l=a::m/\M m=n:=by
 cases l with
 |nil=>simp at h
 |cons a m=>exact⟨a,m,R,jx⟩
def cq:List Nat->vy->vy
 |[],c=>c
 |0::l,.seq a _=>cq l a
 |1::l,.seq _ b=>cq l b
 |2::l,.cond _ a _=>cq l a
 |3::l,.cond _ _ b=>cq l b
 |4::l,.block _ c=>cq l c
 |5::l,.loop c=>cq l c
 |_,c=>c
def xU{p:Nat->Prop}(h:∃k,p k):∃k,p k/\∀j,p j->k<=j:=by
 obtain⟨k,b⟩:=h
 induction k using Nat.strongRecOn with
 |_ k ih=>
  by_cases h:∃j,j<k/\p j
  .obtain⟨j,a,c⟩:=h;exact ih j a c
  .exact⟨k,b,λj a=>Nat.not_lt.1 λc=>h ⟨j,c,a⟩⟩
def mN{c a}(I:Nat->Act->pn->Prop)(i:∃k,I k a w)(round:∀k a w,I k a w->c.wp P (Exit.then (λd e=>∃b,b<k/\I b d e) Q) a w):(Code.loop c).wp P Q a w:=by
 classical
 refine wp_loop (λa w=>∃k,I k a w) (λa w=>if h:∃k,I k a w then(xU h).choose else 0) i λa w h=>?_;refine wp_mono (round _ a w (xU h).choose_spec.1) λf j l e=>?_;cases f with
 |normal=>
  obtain⟨d,g,b⟩:=e;refine⟨⟨d,b⟩,?_⟩;rw[dif_pos ⟨d,b⟩,dif_pos h];exact Nat.lt_of_le_of_lt ((xU ⟨d,b⟩).choose_spec.2 _ b) g
 |_=>exact e
end
section
variable {a:Array po}{i j:Nat}{v d:po}{P:th}{Q:qaC->Act->pn->Prop}{w:pn}
def vk(h:i≠j):(qb a i v).getD j d=a.getD j d:=by simp[cS,h]
def vD(h:i<qd a):(qb a i v).getD i d=v:=by simp[cS,h]
def uF(e:a[i]? =N v):a.getD i undef=v:=by simp[cS,e]
def uZ{h}(e:a[i]? =N v):a[i]=v:=by simpa[h]using e
def hw{p:Prop}(h:p:=by first|(simp[*];done)|(simp only[eV,cI,ne_eq,Nat.reduceEqDiff,not_false_eq_true];assumption)):p:=h
def hc{p:Prop}(h:p:=by constructor<;>exact hw):p:=h
def Uw{c:vy}{d}(S:Array po->Prop)(h:S a)(hK:∀a,S a->c.wp P Q ⟨a,d⟩ w):c.wp P Q ⟨a,d⟩ w:=hK a h
end
end Hm
namespace Fr
open Go.RowKit Go.Joins
def qO:(PQ.info? 81).map (λi=>(i.8,i.3,i.4))=N (N (we #[ox sr 0,ox XX 0,pk ⟨#[]⟩,rh pi]),4,32):=Zm
def EF(s:ByteArray)(w)(J:ot s<=16777216):tf PQ 61 #[pk s] w λe o=>Xc w.1.size o e (frames s.1.1)/\Below w.1.size w o:=by
 have j:=aW s;generalize hR:frames s.1.1=Zs;have k:qu _:=hR;clear hR;by_cases h2:ot s<2
 .obtain rfl:Zs=X:=oy (si k) (ou (rr aA));have a:(ot s:Int)<2:=by omega
  clear j;go_enter (fq func61 R),ntmps61;go_wp2;go_ret2;exact⟨R,aH _ _⟩
 .have bb:¬(ot s:Int)<2:=by omega
  have ap:0<ot s:=aA
  have hx:=λu=>kL u s 0 0 ap R;have z:=iC s 0 ap;by_cases C:pf s[0]=0
  .have ba:((pf s[0]:Int) == 0)=pw:=by simp[C]
   have aj:¬(M s.1.1<2\/ur s.1.1 0 0≠0):=by
    rw[z];rintro(h|h)
    .omega
    .exact h (fC.1 C)
   have x:qu _:=aj;let⟨i0,hi,ar,au,av⟩:=yk qO;have v:qu _:=fE hi (fE ar (fE au av));clear aj j z hi ar au av;go_enter (fq func61 R),ntmps61;go_wp2;go_loopg [4,5] (ot s-1) (λg d f c=>∃(l:List F)(p:Nat)(a:Option Addr)(b:Nat),d=U a (M l) b/\f=ox pg p/\g=ot s-p/\qu (lR s.1.1 l p/\r8 c ↑w 81 4 (U a (M l) b) (M l) (flat l)/\Below ↑w w c))
   case atStart=>exact⟨[],1,X,0,R,R,R,lR.nil,Yw _ _ _ _,aH _ _⟩
   case round=>
    obtain⟨l,p,Q,S,rfl,rfl,rfl,t⟩:=hrel;let⟨i,r,n⟩:=t.out;have a4:=i.le gv;rw[<-aW]at a4;have j:=aW s;by_cases hp:p<ot s
    .have bh:(p:Int)<(ot s:Int):=by omega
     by_cases h9:ot s<p+9
     .have a:(ot s:Int)<(p:Int)+9:=by omega
      obtain rfl:Zs=X:=oy (si k) (i.stuck x aA (xL aA));clear j i r t;go_wp2;go_ret2;exact⟨R,n⟩
     .have bc:¬(ot s:Int)<(p:Int)+9:=by omega
      have am:=HA (s:=s.1.1) (p:=p) aA;have H:=λu:pn=>BQ s (p+6) 2 u J aA aA;have ad:∀u:pn,tf PQ 96 #[pk s,ox pg (p:Int),ox pg 4] u λe o=>e=qs (ox pg (big s.1.1 p 4:Nat))/\o=u:=λu:pn=>BQ s p 4 u J aA aA;have G:∀u:pn,tf PQ 96 #[pk s,ox pg ((p+4:Nat):Int),ox pg 2] u λe o=>e=qs (ox pg (big s.1.1 (p+4) 2:Nat))/\o=u:=λu:pn=>BQ s (p+4) 2 u J aA aA;have l6:=lZ s.1.1 (p+6) 2;have l0:=lZ s.1.1 p 4;have l4:=lZ s.1.1 (p+4) 2;simp only[Nat.reducePow]at l6 l0 l4;rw[show((p+6:Nat):Int)=(p:Int)+6 from by omega]at H;rw[show((p+4:Nat):Int)=(p:Int)+4 from by omega]at G;generalize hN:big s.1.1 (p+6) 2=a at *;generalize a0:big s.1.1 p 4=g at *;generalize az:big s.1.1 (p+4) 2=f at *;have ax:qu _:=H;have aw:qu _:=ad;have L:qu _:=G;have P:qu _:=am;have q:qu _:=fE i r;clear H ad G am j t hN a0 az i r;go_wp2;refine se (ax wr) ?_;rintro e w1 ⟨rfl,a7⟩;obtain rfl:wr=w1:=si a7;by_cases hn:ot s<p+9+a
      .have b:(ot s:Int)<(p:Int)+9+(a:Int):=by omega
       obtain rfl:Zs=X:=oy (si k) (q.1.stuck x gv (by rw[P.out,Zb gv]));go_wp2;go_ret2;exact⟨R,n⟩
      .have bg:¬(ot s:Int)<(p:Int)+9+(a:Int):=by omega
       have af:p+8+a<ot s:=aA
       have a8:=λu=>kL u s ((p:Int)+8+(a:Int)) (p+8+a) af aA;have ag:=iC s (p+8+a) af;obtain⟨c,hc⟩:∃c:Nat,pf s[p+8+a]=c:=⟨_,R⟩
       have bf:c<256:=by rw[<-hc];exact xi _
       rw[hc]at a8;have I:=P.out;rw[Za gv,ag,hc]at I;have A:qu _:=I;clear ag hc I;by_cases ae:1<c
       .have b:(1:Int)<(c:Int):=by omega
        obtain rfl:Zs=X:=oy (si k) (q.1.stuck x gv (by rw[A.out,Zb ae]));go_wp2;go_ret2;exact⟨R,n⟩
       .have bd:¬(1:Int)<(c:Int):=by omega
        obtain⟨d,a3⟩:∃d:Bool,((c:Int) == 1)=d:=⟨_,R⟩
        have ai:(c == 1)=d:=by
         rw[<-a3];rcases(by omega:c=0\/c=1)with rfl|rfl<;>rfl
        have ak:one s.1.1 p=N (⟨g,f,(s.1.1.take (p+8+a)).drop (p+8),d⟩,9+a):=by rw[A.out,Za ae,ai]
        obtain⟨D,E⟩:∃D:ByteArray,qt s (p+8) (p+8+a)=D:=⟨_,R⟩
        have Y:(⟨py ((s.1.1.take (p+8+a)).drop (p+8))⟩:ByteArray)=D:=by rw[<-E,<-ext_list]
        have bl:xh IntKind.u32 (g:Int)=(g:Int):=by rw[IntKind.wrap_u32];omega
        have bk:xh IntKind.u16 (f:Int)=(f:Int):=by rw[IntKind.wrap_u16];omega
        have an:∀K:ZG,r8 (o6 (xp wr) K) ↑w 81 4 (U Q (M l) S) (M l) (flat l):=λK=>gR q.2 (pb (rk (aH _ wr)) fI K);have ay:qu _:=an;have O:qu _:=fE ak Y;have sb:=n.4;have aa:(0:Int)<=(p:Int)+8:=aA
        have ab:(p:Int)+8<=(p:Int)+8+(a:Int):=aA
        have ac:(p:Int)+8+(a:Int)<=(ot s:Int):=aA
        have W:qt s (vv ((p:Int)+8)) (vv ((p:Int)+8+(a:Int)))=D:=by rw[<-E];congr 1
        have bm:xh pg ((p:Int)+8)=(p:Int)+8:=gj
        have bo:xh pg ((p:Int)+8+(a:Int))=(p:Int)+8+(a:Int):=gj
        have aq:xh pg ((p:Int)+4)=(p:Int)+4:=gj
        obtain⟨B,y⟩:∃B:Int,(p:Int)+4=B:=⟨_,R⟩
        rw[y]at L;have bp:xh pg ((p:Int)+4)=B:=oy aq y;have a9:qu _:=y;clear aq y;have bj:∀u:pn,(Instr.slice 9 (pk s) (N (ox pg ((p:Int)+8))) (N (ox pg ((p:Int)+8+(a:Int)))) X).run PQ u=.ok (pk D) u:=λu=>by rw[run_slice_string u _ s pg pg _ _ (uq Tryz.underlying9) aa ab ac,W]
        clear an ak Y ai A E W aa ab ac;go_upto_region 11 with fail;go_region_held3 (λ_=>True) (trivial) (first|(go_at_call 96;first|(with_reducible refine aO (aw.out _) ?_;rintro e w3 ⟨rfl,rfl⟩)|(with_reducible refine aO (L.out _) ?_;rintro e w3 ⟨rfl,rfl⟩))|(refine step_append_lies _ (by rfl) (.tmp 44) (.tmp 70) 76 (by rfl) ↑w 81 i0 _ 4 32 (uq YB) v.out.1 v.out.2.1 v.out.2.2.1 v.out.2.2.2 (by rfl) aB _ (M l) (flat l) (by rfl) (ay.out _) ⟨↑wr,0,X⟩ 1 1 [ox sr g,ox XX f,pk D,.bool d] (by rfl) (by rfl) (by intro m u b;match m,b with|0,b=>(simp at b;subst b;simp[sf])|1,b=>(simp at b;subst b;simp[sf])|2,b=>(simp at b;subst b;simp[sf])|3,b=>(simp at b;subst b;simp[sf])) (by intro u b;simp at b;rcases b with rfl|rfl|rfl|rfl<;>rfl) aB aE aA aD (wr.1.size+1) aC ?_;intro V T w4 ao ah a1 a5)|fail)
        all_goals
         have a6:qu (r8 w4 ↑w 81 4 (U (N ⟨V,0,X⟩) (M l+1) T) (M l+1) (flat (l++[⟨g,f,(s.1.1.take (p+8+a)).drop (p+8),d⟩]))):=by
          rw[jY];simp only[flat,jv,dI];rw[O.out.2];exact ao
         have a2:qu (Below ↑w w w4):=Below.grown (pb (rk n) aD _) ah aD (λm b=>(iX q.2 b).1);clear ao ah a1 a5;go_wp2;go_roundg (ot s-(p+(9+a)))
         case measure=>omega
         case rel=>
          refine⟨l++[⟨g,f,(s.1.1.take (p+8+a)).drop (p+8),d⟩],p+(9+a),N ⟨V,0,X⟩,T,aC,Zf (ox pg) aA,R,?_,?_,a2⟩
          .exact lR.snoc q.1 (by rw[<-aW];exact hp) O.1
          .rw[show M (l++[(⟨g,f,(s.1.1.take (p+8+a)).drop (p+8),d⟩:F)])=M l+1 from by simp];exact a6
    .have b:¬(p:Int)<(ot s:Int):=by omega
     obtain rfl:Zs=N l:=oy (si k) (i.all x aA);have a:qu _:=r;clear j i r t;go_wp2;go_ret2;exact⟨⟨Q,S,R,a⟩,n⟩
  .have a:((pf s[0]:Int) == 0)=pi:=by simp;omega
   obtain rfl:Zs=X:=oy (si k) (ou (rz (by rw[z];intro h;exact C (by rw[h];rfl))));clear j z;go_enter (fq func61 R),ntmps61;go_wp2;go_ret2;exact⟨R,aH _ _⟩
end Fr
