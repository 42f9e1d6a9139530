import Derived.Test.YtpibpdpedjinhaaGreatDoorP20
import Derived.Shelf.RegionOpen
set_option maxRecDepth 100000
set_option maxHeartbeats 4000000
set_option linter.unusedSimpArgs false
namespace Go.Proofs.YtpibpdpedjinhaaGreatDoor
section
open Go.RowKit Go.Joins Go.Shelf
attribute [local go_sem] Oper.semAt_some
variable {g B:Nat}{v:Value}
theorem Bh(s:ByteArray)(z:Int)(w:World):
  Calls PQ 174 #[.string s,.int .i64 z] w λe w'=>e=.returned (.func (.func 205) #[] #[.pointer (some ⟨w.heap.size,0,none⟩),.pointer (some ⟨w.heap.size+1,0,none⟩)])/\w'=(w.alloc (.cells #[.string s] 9)).alloc (.cells #[.int .i64 z] 3):=by
 go_enter (fq Tryz.func174 rfl),Tryz.ntmps174;go_wp2_with fail;go_ret;exact⟨rfl,rfl⟩
def SC(n lo:Nat)(w':World)(e:Ending):Option (List Im.It)->Prop
 |none=>e=.returned (.tuple #[.slice none 0 0,.bool false])
 |some ks=>∃a cap,e=.returned (.tuple #[.slice a ks.length cap,.bool true])/\Row w' n lo w'.heap.size (.slice a ks.length cap) ks
def WI(d E:Nat)(w:World)(z:List X)(W:World):Prop:=
 (∃v,Boxed W E 101 v/\Row W (d+1) (E+4) W.heap.size v (z.map X.i))/\Boxed W (E+1) 3 (.int .i64 (mP z))/\Below E w W/\E+4<=W.heap.size
theorem WI.own(d I:Nat)(w:World):OwnFrom (I+4) (WI d I w):=by
 rintro J A B row ⟨⟨v,R,h2⟩,h3,h4,Y⟩ z E;refine⟨⟨v,R.kept z (λe=>?_),h2.turn z (λr e=>(E r e).2)⟩,h3.kept z (λe=>?_),h4.grown z (by omega) (λk e=>by have:=(E k e).1;omega),by have:=z.size;omega⟩
 ·have:=(E _ e.symm).1;omega
 ·have:=(E _ e.symm).1;omega
theorem rX(w:World){a b:Addr}(x y:Value)(h:a.block≠b.block):(w.setCell a x).setCell b y=(w.setCell b y).setCell a x:=by
 have e:∀(A:Array Obj)(f g:Obj->Obj)(i j:Nat),i≠j->(A.modify i f).modify j g=(A.modify j g).modify i f:=by
  intro A f g i j z;apply fP;intro k;simp only[bI];by_cases E:i=k
  ·subst E;rw[if_neg (Ne.symm z)];simp[Ne.symm z]
  ·by_cases h2:j=k
   ·subst h2;simp[E]
   ·simp[E,h2]
 simp only[World.setCell];rw[e _ _ _ _ _ h]
theorem Di(w:World){i:Nat}(x y z u:Value)(h:B≠g):(((w.setCell ⟨B,0,none⟩ u).setCell ⟨g,i,none⟩ x).setCell ⟨g,i+1,none⟩ y).setCell ⟨g,i+2,none⟩ z=(((w.setCell ⟨g,i,none⟩ x).setCell ⟨g,i+1,none⟩ y).setCell ⟨g,i+2,none⟩ z).setCell ⟨B,0,none⟩ u:=by
 rw[rX w u x h,rX _ u y h,rX _ u z h]
theorem kF{W:World}{t:TypeId}(h:Boxed W B t v)(a:Addr)(x:Value)(z:B≠a.block):Boxed (W.setCell a x) B t v:=(aP _ _ _ _ z).trans h
theorem Qm{w Y W1 G U w' F:World}{d E I:Nat}{z:List X}{x:X}{xs:List Value}{L H:Nat->Nat}{c0 c1 c2 z0 z1 z2:Value}{N:Nat}(h0:1<E)
  (ao:Below E w Y) (aq:E+4<=Y.heap.size) (b0:Boxed Y E 101 v) (b1:Boxed Y (E+1) 3 (.int .i64 (mP z)))
  (q1:Y.ownsRow (E+4) 103 3 v z.length xs)
  (q3:∀j,j<(z.map X.i).length->E+4<=L j/\L j<=H j/\H j<=Y.heap.size/\(∀g,v.ownBlock=some g->g<L j\/H j<=g)) (q4:∀a b,a<b->b<(z.map X.i).length->H a<=L b)
  (q5:∀(j:Nat)(hj:j<(z.map X.i).length),∃d0 d1 d2,xs[j*3]? =some d0/\xs[j*3+1]? =some d1/\xs[j*3+2]? =some d2/\Tr Y (d+1) (L j) (H j) d0 d1 d2 ((z.map X.i)[j]))
  (hb:Below Y.heap.size Y W1) (ht:Tr W1 (d+1) Y.heap.size W1.heap.size c0 c1 c2 x.i) (gb:Below W1.heap.size W1 G) (ub:Below G.heap.size G U)
  (ab:w'.ownsRow (E+4) 103 3 (.slice (some ⟨g,0,none⟩) (z.length+1) I) (z.length+1) (xs++[z0,z1,z2]))
  (J:U.grownBy w' v.ownBlock) (ak:Value.ownBlock (.slice (some ⟨g,0,none⟩) (z.length+1) I)=v.ownBlock\/∃g',Value.ownBlock (.slice (some ⟨g,0,none⟩) (z.length+1) I)=some g'/\U.heap.size<=g')
  (hF:F=((((w'.setCell ⟨g,z.length*3,none⟩ c0).setCell ⟨g,z.length*3+1,none⟩ c1).setCell ⟨g,z.length*3+2,none⟩ c2).setCell ⟨E,0,none⟩ (.slice (some ⟨g,0,none⟩) (z.length+1) I)).setCell ⟨E+1,0,none⟩ (.int .i64 x.e)):
  KeepsFrom N G F/\(∀k,k=1\/k=E+1+1\/k=E+1+1+1->F.heap[k]? =G.heap[k]?)/\WI d E w (z++[x]) F:=by
 have s1:=hb.size;have s2:=gb.size;have s3:=ub.size;have s4:=J.size;have an:=xs_len q1;have am:Below Y.heap.size Y G:=hb.trans (gb.mono s1);have ae:Below Y.heap.size Y U:=am.trans (ub.mono (by omega));have qU:U.ownsRow (E+4) 103 3 v z.length xs:=own_below q1 ae;have ac:∀m,v.ownBlock=some m->E+4<=m:=λm hm=>(qI q1 hm).1;have hg:=qI ab (g:=g) rfl;obtain⟨W4,R⟩:∃W4:World,W4=((w'.setCell ⟨g,z.length*3,none⟩ c0).setCell ⟨g,z.length*3+1,none⟩ c1).setCell ⟨g,z.length*3+2,none⟩ c2:=⟨_,rfl⟩
 have ah:W4.ownsRow (E+4) 103 3 (.slice (some ⟨g,0,none⟩) (z.length+1) I) (z.length+1) (xs++[c0,c1,c2]):=by rw[R];exact Uh ab an _ _ _
 have s5:W4.heap.size=w'.heap.size:=by rw[R];simp[World.setCell]
 have aa:∀k,k≠g->W4.heap[k]? =w'.heap[k]?:=λk hk=>by
  rw[R,aP _ _ _ _ hk,aP _ _ _ _ hk,aP _ _ _ _ hk]
 have ap:U.grownBy W4 v.ownBlock:=⟨by rw[R];exact J.os,by rw[R];exact J.tape,by rw[R];exact J.output,by omega,λk hk ag=>by
  rw[aa k ?_]
  ·exact J.block k hk ag
  ·rintro rfl;rcases ak with e|⟨g',e,ar⟩
   ·exact ag e
   ·simp[Value.ownBlock]at e;omega⟩
 have ai:(z.map X.i).length=z.length:=by simp
 have aj:Row W4 (d+1) (E+4) W4.heap.size (.slice (some ⟨g,0,none⟩) (z.length+1) I) (z.map X.i++[x.i]):=
  Row.step (w:=Y) (w1:=W1) (w3:=U) (v:=v) (xs:=xs) (L:=L) (H:=H) (by omega) (by rw[ai];exact q1) q3 q4 q5 ht hb (gb.trans (ub.mono s2)) (by rw[ai];exact ah) ap ak
 rw[<-R]at hF
 have af:∀k,k≠E->k≠E+1->F.heap[k]? =W4.heap[k]?:=λk h1 h2=>by
  rw[hF,aP _ _ _ _ h2,aP _ _ _ _ h1]
 have s6:F.heap.size=W4.heap.size:=by rw[hF];simp[World.setCell]
 have e0:Boxed w' E 101 v:=(J.block _ (by omega) (λe=>by have:=ac _ e.symm;omega)).trans ((ae.block _ (by omega)).trans b0);have e1:Boxed w' (E+1) 3 (.int .i64 (mP z)):=(J.block _ (by omega) (λe=>by have:=ac _ e.symm;omega)).trans ((ae.block _ (by omega)).trans b1);have f0:Boxed W4 E 101 v:=(aa _ (by omega)).trans e0;have f1:Boxed W4 (E+1) 3 (.int .i64 (mP z)):=(aa _ (by omega)).trans e1;refine⟨KeepsOthers.from ?_ _,?_,⟨(.slice (some ⟨g,0,none⟩) (z.length+1) I),?_,?_⟩,?_,?_,by omega⟩
 ·have k1:KeepsOthers G U:=⟨ub.size,λk o hk _=>(ub.block k (jC hk)).trans hk⟩
  have k2:KeepsOthers U w':=KeepsOthers.of_grownBy J (λj o ej hj=>L6 qU j o ej hj);rw[hF,R];exact(k1.trans k2).trans (((((KeepsOthers.setCell _ _ _).trans (KeepsOthers.setCell _ _ _)).trans (KeepsOthers.setCell _ _ _)).trans (KeepsOthers.setCell _ _ _)).trans (KeepsOthers.setCell _ _ _))
 ·intro k hk;have au:k<E+4:=by omega
  rw[af k (by omega) (by omega),aa k (by omega),J.block k (by omega) (λe=>by have:=ac _ e.symm;omega),ub.block k (by omega)]
 ·rw[hF];exact kF (f0.set _) _ _ (by simp)
 ·rw[aY];exact(aj.kept (w':=F) (λk k1 k2=>af k (by omega) (by omega))).wider jA (by omega)
 ·rw[hF,lg];exact(kF f1 _ _ (by simp)).set _
 ·have b5:Below E w w':=(ao.trans (ae.mono (by omega))).grown J (by omega) (λm hm=>by have:=ac m hm;omega);rw[hF,R];exact((((b5.setCell (by show E<=g;omega) _).setCell (by show E<=g;omega) _).setCell (by show E<=g;omega) _).setCell jA _).setCell (by show E<=E+1;omega) _
end
section
open Go.RowKit Go.Joins Go.Shelf
attribute [local go_sem] Oper.semAt_some
theorem O8(d:Nat)(hf:FirstSaid d)(s:ByteArray)(Y f:Nat)(w:World)(hs:s.size<=16777216)(a5:Y+d=9)(a4:s.size<=f)(hH:kQ w):
  Calls PQ 220 #[.string s,.int .i64 Y] w λe w'=>SC (d+1) w.heap.size w' e (Im.many (Im.read Im.body d) f s.data.toList)/\Below w.heap.size w w':=by
 have h0:=hH.pos;generalize hR:Im.many (Im.read Im.body d) f s.data.toList=R;have HR:Hid _:=hR;clear hR;refine callsIn_wide.1 (callsIn_of_wp_marks (n:=3) (fq Tryz.func220 rfl) rfl trivial ?_ rfl);simp only[Tryz.ntmps220,dL,aN,bM,Nat.reduceAdd,Nat.reduceSub,cO,bZ,dN,cZ,dM,dH];gi_wp2;refine⟨trivial,?_⟩;refine(callsIn_wide.2 (Bh s Y _)).mono ?_;rintro e w' ⟨rfl,rfl⟩;gi_wp2;obtain⟨V,hV⟩:∃V:World,V=((((w.alloc (Obj.cells #[Value.slice none 0 0] 101)).alloc (Obj.cells #[Value.int IntKind.i64 0] 3)).alloc (Obj.cells #[Value.string s] 9)).alloc (Obj.cells #[Value.int IntKind.i64 Y] 3)):=⟨_,rfl⟩
 rw[<-hV];have a6:V.heap.size=w.heap.size+4:=by rw[hV];simp
 have a0:Below w.heap.size w V:=by rw[hV];exact((((aB _ w).alloc jA _).alloc (by simp) _).alloc (by simp;omega) _).alloc (by simp;omega) _
 have v0:Boxed V w.heap.size 101 (.slice none 0 0):=by rw[hV];exact(((Boxed.new w _ _).alloc _).alloc _).alloc _
 have v1:Boxed V (w.heap.size+1) 3 (.int .i64 0):=by
  rw[hV];have:=Boxed.new (w.alloc (Obj.cells #[Value.slice none 0 0] 101)) 3 (.int .i64 0);rw[eH]at this;exact(this.alloc _).alloc _
 have v2:V.cell? ⟨w.heap.size+1+1,0,none⟩=some (.string s):=by
  rw[hV];have:=Boxed.new ((w.alloc (Obj.cells #[Value.slice none 0 0] 101)).alloc (Obj.cells #[Value.int IntKind.i64 0] 3)) 9 (.string s);rw[eH,eH]at this;exact(this.alloc _).cell
 have v3:V.cell? ⟨w.heap.size+1+1+1,0,none⟩=some (.int .i64 Y):=by
  rw[hV];have:=Boxed.new (((w.alloc (Obj.cells #[Value.slice none 0 0] 101)).alloc (Obj.cells #[Value.int IntKind.i64 0] 3)).alloc (Obj.cells #[Value.string s] 9)) 3 (.int .i64 Y);rw[eH,eH,eH]at this;exact this.cell
 clear hV
 refine tJ (gf:=205) (lb:=#[.pointer (some ⟨w.heap.size+1+1,0,none⟩),.pointer (some ⟨w.heap.size+1+1+1,0,none⟩)]) rfl (enters_of (fq Tryz.func205 rfl) (by kernel_rfl) rfl)
  (sJ d hf s Y (w.heap.size+1+1) (w.heap.size+1+1+1) V hs a5 (hH.below a0 h0) (by omega) v2 v3 (by omega) (by omega)) (aB _ _) (by intro k hk;omega) (XY.turn (d+1)) (λ_=>rfl)
  (WI d w.heap.size w) (λ_ _ _=>False) (by rw[a6];exact WI.own d w.heap.size w) (λ_ _ _ _ _ hs _ _=>hs)
  ⟨⟨_,v0,Row.none _ _ _ _⟩,v1,a0,by omega⟩
  (λx B=>{ tmps:=#[.string s,.int .i64 Y,undef,undef,.slice none 0 0,.bool false,.pointer (some ⟨w.heap.size,0,none⟩),.pointer (some ⟨w.heap.size+1,0,none⟩),.int .i64 x.e,.pointer (some ⟨B,0,none⟩),.string s,.int .i64 Y,.func (.func 205) #[] #[.pointer (some ⟨w.heap.size+1+1,0,none⟩),.pointer (some ⟨w.heap.size+1+1+1,0,none⟩)],.int .i64 x.e,.agg #[.bool x.i.list,.string ⟨x.i.bytes.toArray⟩,.slice x.a x.i.kids.length x.cap],undef,undef,undef,undef,undef,undef,undef,undef,undef,undef,undef,undef],defers:=[] })
  (λx=>.cells #[.bool x.i.list,.string ⟨x.i.bytes.toArray⟩,.slice x.a x.i.kids.length x.cap] 103) ?assign ?body ?done ?stop
 case assign=>
  intro l x W K I;simp only[X.encs];gi_wp2;exact I
 case body=>
  rintro l z x W0 W1 a8 ⟨⟨v,b0,az⟩,b1,aj,au⟩ hb ⟨bk,ht⟩;obtain⟨xs,L,H,q1,q2,q3,q4,q5⟩:=az;have s1:=hb.size;have bl:PQ.follows .mixedOrders=true:=by kernel_rfl
  obtain⟨va,J,rfl⟩:=BG q1;rw[aU]at *;obtain⟨IB,a3⟩:∃IB:ByteArray,(⟨x.i.bytes.toArray⟩:ByteArray)=IB:=⟨_,rfl⟩
  rw[a3]at ht⊢;obtain⟨G,hG,gb,-⟩:=jE W1 #[.bool x.i.list,.string IB,.slice x.a x.i.kids.length x.cap] 103;rw[<-hG];have gs:G.heap.size=W1.heap.size+1:=by rw[hG];simp
  have af:Below W0.heap.size W0 G:=hb.trans (gb.mono s1);obtain⟨k0,k1,k2⟩:K3 G W1.heap.size 0 (.bool x.i.list) (.string IB) (.slice x.a x.i.kids.length x.cap):=by rw[hG];exact K3.FU _ _ _ _ _
  rw[fC]at k1 k2;clear hG;have c0:Boxed G w.heap.size 101 (.slice va z.length J):=(af.block _ b0.lt).trans b0;have c1:Boxed G (w.heap.size+1) 3 (.int .i64 (mP z)):=(af.block _ b1.lt).trans b1
  have a7:∃i0,PQ.info? 103=some i0/\i0.zero=some (.agg #[.bool false,.string ⟨#[]⟩,.slice none 0 0])/\i0.size=3/\i0.bytes=48:=by
   obtain⟨i0,hi,ai,ap,ak⟩:=info_parts Qq;exact⟨i0,hi,ai,ap,ak⟩
  obtain⟨i0,hi,ai,ap,ak⟩:=a7;obtain⟨U,hU⟩:∃U:World,U=(G.alloc (.cells #[.bool false,.string ⟨#[]⟩,.slice none 0 0] 103)).drew:=⟨_,rfl⟩
  have ub:Below G.heap.size G U:=by rw[hU];exact((aB _ G).alloc jA _).drew
  have us:U.heap.size=G.heap.size+1:=by rw[hU];simp
  have u3:K3 U G.heap.size 0 (.bool false) (.string ⟨#[]⟩) (.slice none 0 0):=by rw[hU];obtain⟨t0,t1,t2⟩:=K3.FU G (.bool false) (.string ⟨#[]⟩) (.slice none 0 0) 103;exact⟨t0,t1,t2⟩
  have qU:U.ownsRow (w.heap.size+4) 103 3 (.slice va z.length J) z.length xs:=own_below (own_below q1 af) ub
  obtain⟨v',w',aa,E,ab,ao⟩:=Io (P:=PQ) U (w.heap.size+4) 101 101 103 i0 _ 3 48 (uq Tryz.underlying101) hi ai ap ak rfl (by decide) _ _ xs qU ⟨G.heap.size,0,none⟩ 1 1 [.bool false,.string ⟨#[]⟩,.slice none 0 0] (by decide) rfl (by
   intro j u hj
   match j,hj with
   |0,hj=>simp at hj;subst hj;exact u3.1
   |1,hj=>simp at hj;subst hj;exact u3.2.1
   |2,hj=>simp at hj;subst hj;exact u3.2.2) (by intro u hu;simp at hu;rcases hu with rfl|rfl|rfl<;>rfl) (by unfold maxLen;omega) (by omega) (by omega)
  obtain⟨g,aw,rfl⟩:=wH E (by omega);rw[hU,gs]at aa;have m0:=c0.cell;have ba:=(c0.alloc (.cells #[.bool false,.string ⟨#[]⟩,.slice none 0 0] 103)).cell;have bo:=qI E (g:=g) rfl;have aq:=E.cells (g:=g) rfl;have ah:=xs_len qU;have y0:w'.cell? ⟨g,z.length*3,none⟩=some (.bool false):=by have:=aq (z.length*3) (.bool false) (by rw[bK (by omega),ah];simp);simpa[yB]using this
  have y1:w'.cell? ⟨g,z.length*3+1,none⟩=some (.string ⟨#[]⟩):=by have:=aq (z.length*3+1) (.string ⟨#[]⟩) (by rw[bK (by omega),ah,show z.length*3+1-z.length*3=1 from by omega];rfl);simpa[yB]using this
  have y2:w'.cell? ⟨g,z.length*3+2,none⟩=some (.slice none 0 0):=by have:=aq (z.length*3+2) (.slice none 0 0) (by rw[bK (by omega),ah,show z.length*3+2-z.length*3=2 from by omega];rfl);simpa[yB]using this
  have ax:∀m,Value.ownBlock (.slice va z.length J)=some m->w.heap.size+4<=m:=λm hm=>(qI q1 hm).1;have e0:Boxed w' w.heap.size 101 (.slice va z.length J):=(ab.block _ (by omega) (λe=>by have:=ax _ e.symm;omega)).trans ((ub.block _ (by omega)).trans c0);have e1:Boxed w' (w.heap.size+1) 3 (.int .i64 (mP z)):=(ab.block _ (by omega) (λe=>by have:=ax _ e.symm;omega)).trans ((ub.block _ (by omega)).trans c1);have n0:=e0.cell;have n1:=e0.frozen;have n2:=e1.cell;have n3:=e1.frozen;have n4:w'.frozen? ⟨g,z.length*3,none⟩=false:=wE E;have n5:w'.frozen? ⟨g,z.length*3+1,none⟩=false:=wE E;have n6:w'.frozen? ⟨g,z.length*3+2,none⟩=false:=wE E;have bp:(0:Int)<=(z.length:Int):=by omega
  have bn:(z.length:Int)<((z.length+1:Nat):Int):=by omega
  have bm:(z.length:Int)<z.length+1:=by omega
  have ag:g≠w.heap.size:=by omega
  have bj:g≠w.heap.size+1:=by omega
  have f0:=c0.frozen;have Hx:Hid _:=jw q1 (jw q2 (jw q3 (jw q4 q5)));have a2:Hid _:=E;have bb:Hid _:=ab;have bg:Hid _:=ao;have bh:Hid _:=ub;have a9:Hid _:=ht
  have fin:∀(a:Act)(F:World),F=((((w'.setCell ⟨g,z.length*3,none⟩ (.bool x.i.list)).setCell ⟨g,z.length*3+1,none⟩ (.string IB)).setCell ⟨g,z.length*3+2,none⟩ (.slice x.a x.i.kids.length x.cap)).setCell ⟨w.heap.size,0,none⟩ (.slice (some ⟨g,0,none⟩) (z.length+1) aw)).setCell ⟨w.heap.size+1,0,none⟩ (.int .i64 x.e)->
    Yu V.heap.size (λk=>k=1\/k=w.heap.size+1+1\/k=w.heap.size+1+1+1) (WI d w.heap.size w) (λ_ _ _=>False) (z++[x]) G .normal a F:=λa F hF=>
   Qm h0 aj au b0 b1 q1 (by rw[aU];exact q3) (by rw[aU];exact q4) q5 hb ht gb ub E ab ao hF
  have Fin:Hid _:=fin;clear fin;clear q1 q2 q3 q4 q5 E ab ao ub ht u3 qU hU;gi_wp2;refine wpIn_region_any (by kernel_rfl) ?_;change wpAnyIn _ _ _ _ _ _ _ _ _ (World.drew _);refine(λ(key:(?T:Prop))=>?main) ?k
  case main=>
   repeat' first
    |exact AllReadyIn.nil
    |refine AllReadyIn.cons rfl (λK I=>?_) ?_
    |refine wpAnyIn_ready (rs:=[0,1,3]) (by decide+kernel) (by simp) ?_
    |refine wpAnyIn_ready (rs:=[1,2,3]) (by decide+kernel) (by simp) ?_
    |refine wpAnyIn_ready (rs:=[2,3]) (by decide+kernel) (by simp) ?_
    |refine wpAnyIn_ready (rs:=[3]) (by decide+kernel) (by simp) ?_
    |refine wpAnyIn_ready (rs:=[2]) (by decide+kernel) (by simp) ?_
    |refine wpAnyIn_ready (rs:=[1,3]) (by decide+kernel) (by simp) ?_
    |refine wpAnyIn_ready (rs:=[1]) (by decide+kernel) (by simp) ?_
    |refine wpAnyIn_ready (rs:=[1,2]) (by decide+kernel) (by simp) ?_
    |refine wpAnyIn_ready (rs:=[0,3]) (by decide+kernel) (by simp) ?_
    |refine wpAnyIn_ready (rs:=[0]) (by decide+kernel) (by simp) ?_
    |refine wpAnyIn_ready (rs:=[0,1]) (by decide+kernel) (by simp) ?_
    |(go_simp;refine I _ _ ?_;clear I K)
    |exact key
  case k=>
   refine wpAnyIn_ready (rs:=[4]) (by kernel_rfl) (by simp) ?_;refine AllReadyIn.cons rfl (λK I=>?_) AllReadyIn.nil;refine D9 _ (by rfl) (by rfl) (by rfl) (by rfl) aa ?_;refine I _ _ ?_;clear I K aa;refine wpAnyIn_ready (rs:=[5,7]) (by kernel_rfl) (by simp) ?_;refine AllReadyIn.cons rfl (λK I=>?_) ?_
   ·go_simp;refine I _ _ ?_;clear I K;refine wpAnyIn_ready (rs:=[6,7]) (by kernel_rfl) (by simp) ?_;refine AllReadyIn.cons rfl (λK I=>?_) ?_
    ·go_simp;refine I _ _ ?_;clear I K;refine wpAnyIn_ready (rs:=[7]) (by kernel_rfl) (by simp) ?_;refine AllReadyIn.cons rfl (λK I=>?_) AllReadyIn.nil
     ·go_simp;refine I _ _ ?_;clear I K;refine wpAnyIn_done (by kernel_rfl) ?_ _;gi_wp2;exact Fin.out _ _ (by first|rfl|rw[Di _ _ _ _ _ (Ne.symm ag)])
    refine AllReadyIn.cons rfl (λK I=>?_) AllReadyIn.nil
    ·go_simp;refine I _ _ ?_;clear I K;refine wpAnyIn_ready (rs:=[6]) (by kernel_rfl) (by simp) ?_;refine AllReadyIn.cons rfl (λK I=>?_) AllReadyIn.nil
     ·go_simp;refine I _ _ ?_;clear I K;refine wpAnyIn_done (by kernel_rfl) ?_ _;gi_wp2;exact Fin.out _ _ (by first|rfl|rw[Di _ _ _ _ _ (Ne.symm ag)])
   refine AllReadyIn.cons rfl (λK I=>?_) AllReadyIn.nil
   ·go_simp;refine I _ _ ?_;clear I K;refine wpAnyIn_ready (rs:=[5]) (by kernel_rfl) (by simp) ?_;refine AllReadyIn.cons rfl (λK I=>?_) AllReadyIn.nil
    ·go_simp;refine I _ _ ?_;clear I K;refine wpAnyIn_ready (rs:=[6]) (by kernel_rfl) (by simp) ?_;refine AllReadyIn.cons rfl (λK I=>?_) AllReadyIn.nil
     ·go_simp;refine I _ _ ?_;clear I K;refine wpAnyIn_done (by kernel_rfl) ?_ _;gi_wp2;exact Fin.out _ _ (by first|rfl|rw[Di _ _ _ _ _ (Ne.symm ag)])
 case done=>
  rintro D xs W0 W hD bd ⟨p,he,hl,an⟩ ⟨⟨v,b0,row⟩,b1,aj,au⟩ hb I;have s1:=hb.size;have c0:Boxed W w.heap.size 101 v:=(hb.block _ b0.lt).trans b0;have c1:Boxed W (w.heap.size+1) 3 (.int .i64 (mP xs)):=(hb.block _ b1.lt).trans b1;rw[hl]at c1;have ae:Row W (d+1) (w.heap.size+4) W.heap.size v (xs.map X.i):=(row.kept (λk _ k2=>hb.block k k2)).wider jA s1;have a1:=grownBy_putObj' W D (.deferred none);have ac:Row (W.putObj D (.deferred none)) (d+1) (w.heap.size+4) (W.putObj D (.deferred none)).heap.size v (xs.map X.i):=ae.turn a1 (λr e=>by cases e;exact⟨_,I,rfl⟩);have av:Below w.heap.size w (W.putObj D (.deferred none)):=(aj.trans (hb.mono (by omega))).grown a1 (by omega) (λk e=>by cases e;omega)
  obtain⟨va,J,rfl⟩:∃va J,v=.slice va xs.length J:=by
   obtain⟨_,_,_,q1,_⟩:=row;have:=BG q1;simpa using this
  have m0:=c0.cell;have m1:=c1.cell;have ar:=Im.rG Im.oI d;have ay:s.data.toList.length<=f:=by rw[<-aV];exact a4
  have am:Hid _:=ac;clear ae ac row;by_cases hp:p<s.size
  ·have hp':(p:Int)<s.size:=by omega
   obtain rfl:R=none:=by
    rcases an with h|⟨_,h⟩
    ·omega
    ·exact HR.out.symm.trans (he.stuck ar f ay (by rw[<-aV];exact hp) h)
   gi_wp2;refine⟨by simp,.inl ⟨_,_,rfl,run_takeDeferred I,?_⟩⟩;exact⟨.tuple #[.slice none 0 0,.bool false],by simp[results,Tryz.results220,go_sem],rfl,av⟩
  ·have hp':¬(p:Int)<s.size:=by omega
   obtain rfl:R=some (xs.map X.i):=HR.out.symm.trans (he.all ar f ay (by rw[<-aV];omega));gi_wp2;refine⟨by simp,.inl ⟨_,_,rfl,run_takeDeferred I,?_⟩⟩;refine⟨.tuple #[.slice va xs.length J,.bool true],by simp[results,Tryz.results220,go_sem],⟨va,J,by simp,?_⟩,av⟩;have:=Row.wider am.out (lo':=w.heap.size) (by omega) jA;rw[aU];exact this
 case stop=>
  rintro D c z W0 W _ _ _ h _ _;exact h.elim
end
section
open Go.RowKit Go.Joins Go.Shelf
attribute [local go_sem] Oper.semAt_some
theorem first_any(d:Nat)(hd:d=0\/∃d',d=d'+1/\FirstSaid d'):FirstSaid d:=by
 intro s E w hs a9 hH;have h0:=hH.pos;have hl:=aV s;generalize hC:Im.read Im.body d s.data.toList=C;have HC:Hid _:=hC;have Hd:Hid _:=hd;clear hC hd;obtain⟨X,hX,aq,aw⟩:=jE w #[.bool false,.string ⟨#[]⟩,.slice none 0 0] 103;have a0:X.heap.size=w.heap.size+1:=by rw[hX];simp
 go_enter (fq Tryz.func206 rfl),Tryz.ntmps206;go_wp2_with fail;rw[<-hX];refine(D6 s X hs (hH.below aq h0)).mono ?_;rintro e w1 ⟨rfl,ak⟩;have ba:=ak.size;have I:Below w.heap.size w w1:=aq.trans (ak.mono (by omega));have hz:w1.heap[w.heap.size]? =some (.cells #[.bool false,.string ⟨#[]⟩,.slice none 0 0] 103 (0,0)):=(ak.block _ (by omega)).trans aw;have J:∀o:Obj,(w1.alloc o).heap[w.heap.size]? =some (.cells #[.bool false,.string ⟨#[]⟩,.slice none 0 0] 103 (0,0)):=λo=>(aT _ _ _ (by omega)).trans hz;have y0:∀o:Obj,(w1.alloc o).cell? ⟨w.heap.size,0,none⟩=some (.bool false):=λo=>by rw[aA (J o)];rfl
 have y1:∀o:Obj,(w1.alloc o).cell? ⟨w.heap.size,1,none⟩=some (.string ⟨#[]⟩):=λo=>by rw[aA (J o)];rfl
 have y2:∀o:Obj,(w1.alloc o).cell? ⟨w.heap.size,2,none⟩=some (.slice none 0 0):=λo=>by rw[aA (J o)];rfl
 have fy:∀(o:Obj)(j:Nat),(w1.alloc o).frozen? ⟨w.heap.size,j,none⟩=false:=λo j=>aI (J o) j;have a8:w.heap.size≠w1.heap.size:=by omega
 have az:=hH.below I h0;have HX:Hid _:=jw ak (jw a0 (jw aq aw));clear hX ak a0 aq aw;cases hR:Im.body s.data.toList with
 |none=>
  obtain rfl:C=none:=HC.out.symm.trans (Im.uQ hR);simp only[uZ];go_wp2_with fail;exact bodyPost_ret (v:=.tuple #[.agg #[.bool false,.string ⟨#[]⟩,.slice none 0 0],.int .i64 0,.bool false]) (by simp[results,Tryz.results206,go_sem,y0,y1,y2]) rfl ⟨rfl,(((I.alloc I.size _).setCell (by simp) _).setCell (by simp) _).setCell (by simp) _⟩
 |some R=>
  obtain⟨l,f,t⟩:=R;obtain⟨bg,a5,bb,bd⟩:=Im.oI _ _ _ _ hR;rw[<-hl]at a5;clear hl;simp only[uZ];have a7:(f:Int)<=t:=by omega
  have a6:(t:Int)<=s.size:=by omega
  cases l with
  |false=>
   obtain rfl:=HC.out.symm.trans (Im.Bl hR);clear hR;go_wp2_with fail;obtain⟨Y,hY,-,af⟩:=jE w1 #[.bool false,.int .i64 f,.int .i64 t] 311;rw[<-hY];have a2:Y.heap.size=w1.heap.size+1:=by rw[hY];simp
   have ao:Below w.heap.size w Y:=by rw[hY];exact I.alloc I.size _
   have ac:Y.heap[w.heap.size]? =some (.cells #[.bool false,.string ⟨#[]⟩,.slice none 0 0] 103 (0,0)):=by rw[hY];exact J _
   have av:w.heap.size<Y.heap.size:=(jC ac)
   obtain⟨-,-,c2⟩:=cells3 af;clear hY;have HY:Hid _:=jw ac af;have Hz:Hid _:=jw y0 (jw y1 (jw y2 (jw fy J)));clear ac af y0 y1 y2 fy J hz;have am:(s.extract f t).size<=16777216:=by simp;omega
   have ah:(⟨((s.data.toList.take t).drop f).toArray⟩:ByteArray)=s.extract f t:=by
    rw[<-ext_list]
   obtain⟨TX,ai⟩:∃TX:ByteArray,s.extract f t=TX:=⟨_,rfl⟩
   rw[ai]at am ah;rw[ai]
   have z:∀U:World,Below Y.heap.size Y U->Calls PQ 151 #[.string TX] U λe w3=>e=.returned (.string TX)/\w3.cell? ⟨w1.heap.size,2,none⟩=some (.int .i64 t)/\w3.cell? ⟨w.heap.size,0,none⟩=some (.bool false)/\w3.cell? ⟨w.heap.size,1,none⟩=some (.string ⟨#[]⟩)/\w3.cell? ⟨w.heap.size,2,none⟩=some (.slice none 0 0)/\(∀j,w3.frozen? ⟨w.heap.size,j,none⟩=false)/\Below w.heap.size w w3:=by
    intro U hU;refine(clone_any TX U am).mono ?_;rintro e w3 ⟨rfl,ag⟩;have au:Below Y.heap.size Y w3:=hU.trans (ag.mono hU.size);have ap:=(au.block w1.heap.size (by omega)).trans HY.out.2;have aa:=(au.block w.heap.size av).trans HY.out.1;exact⟨rfl,by rw[aA ap];rfl,by rw[aA aa];rfl,by rw[aA aa];rfl,by rw[aA aa];rfl,aI aa,ao.trans (au.mono ao.size)⟩
   have ab:Hid _:=z;clear z;go_region_with (go_at_call 151;refine(ab.out _ ?_).mono ?_;(first|exact aB _ _|exact(aB _ _).drew|exact below_drewN (aB _ _) _);rintro e w3 ⟨rfl,x2,z0,z1,z2,fz,ae⟩)
   all_goals
    go_wp2_with fail;refine bodyPost_ret (v:=.tuple #[.agg #[.bool false,.string TX,.slice none 0 0],.int .i64 t,.bool true]) (by simp[results,Tryz.results206,go_sem,z0,z1,z2]) rfl ⟨⟨none,0,by simp only[ah];rfl,?_⟩,?_⟩
    ·exact Tr.Si (i:=⟨false,(s.data.toList.take t).drop f,[]⟩) (Row.none _ _ _ _)
    ·first
      |exact((ae.setCell (by simp) _).setCell (by simp) _).setCell (by simp) _
      |exact below_drewN (((ae.setCell (by simp) _).setCell (by simp) _).setCell (by simp) _) _
  |true=>
   have am:(s.extract f t).size<=16777216:=by simp;omega
   obtain⟨TX,ai⟩:∃TX:ByteArray,s.extract f t=TX:=⟨_,rfl⟩
   have ah:TX.data.toList=(s.data.toList.take t).drop f:=by rw[<-ai,ext_list]
   rcases Hd.out with rfl|⟨d',rfl,hf⟩
   ·obtain rfl:=HC.out.symm.trans (Im.Ai hR);have a3:(8:Int)<(E:Int):=by omega
    clear hR ah;go_wp2_with fail;exact bodyPost_ret (v:=.tuple #[.agg #[.bool false,.string ⟨#[]⟩,.slice none 0 0],.int .i64 0,.bool false]) (by simp[results,Tryz.results206,go_sem,y0,y1,y2]) rfl ⟨rfl,(((I.alloc I.size _).setCell (by simp) _).setCell (by simp) _).setCell (by simp) _⟩
   ·have an:C=_:=HC.out.symm.trans (Im.EP hR);rw[<-ah]at an;have a3:¬(8:Int)<(E:Int):=by omega
    have z:∀U:World,Below w1.heap.size w1 U->Calls PQ 220 #[.string TX,.int .i64 ((E:Int)+1)] U λe w3=>SC (d'+1) U.heap.size w3 e (Im.many (Im.read Im.body d') s.data.toList.length TX.data.toList)/\Below U.heap.size U w3:=by
     intro U hU;have:=O8 d' hf TX (E+1) s.data.toList.length U (by rw[<-ai];exact am) (by omega) (by rw[<-ai,<-aV];simp;omega) (az.below hU az.pos);rw[show((E+1:Nat):Int)=(E:Int)+1 from by omega]at this;exact this
    generalize hM:Im.many (Im.read Im.body d') s.data.toList.length TX.data.toList=M at z an;have ab:Hid _:=z;have a1:Hid _:=an;clear z hR hM HC an ah;obtain⟨Y,hY,a4,af⟩:=jE w1 #[.bool true,.int .i64 f,.int .i64 t] 311;have a2:Y.heap.size=w1.heap.size+1:=by rw[hY];simp
    have ao:Below w.heap.size w Y:=by rw[hY];exact I.alloc I.size _
    have ac:Y.heap[w.heap.size]? =some (.cells #[.bool false,.string ⟨#[]⟩,.slice none 0 0] 103 (0,0)):=by rw[hY];exact J _
    have av:w.heap.size<Y.heap.size:=(jC ac)
    have HY:Hid _:=jw ac af;clear ac af;go_wp2_with fail;rw[<-hY];clear hY;refine(ab.out Y a4).mono ?_;rintro e w3 ⟨ay,ag⟩;have s3:=ag.size;have ae:Below w.heap.size w w3:=ao.trans (ag.mono (by omega));have ap:=(ag.block w1.heap.size (by omega)).trans HY.out.2;have aa:=(ag.block w.heap.size av).trans HY.out.1;obtain⟨-,-,x2⟩:=cells3 ap;obtain⟨z0,z1,z2⟩:=cells3 aa;have fz:=aI aa;clear ap aa y0 y1 y2 fy J hz;cases M with
    |none=>
     obtain rfl:C=none:=a1.out;obtain rfl:=ay;go_wp2_with fail;exact bodyPost_ret (v:=.tuple #[.agg #[.bool false,.string ⟨#[]⟩,.slice none 0 0],.int .i64 0,.bool false]) (by simp[results,Tryz.results206,go_sem,z0,z1,z2]) rfl ⟨rfl,((ae.setCell (by simp) _).setCell (by simp) _).setCell (by simp) _⟩
    |some ks=>
     obtain rfl:C=some (⟨true,[],ks⟩,t):=a1.out;obtain⟨ka,aj,rfl,ar⟩:=ay;have ax:Hid _:=ar;clear ar;go_wp2_with fail;go_region
     all_goals
      go_wp2_with fail;refine bodyPost_ret (v:=.tuple #[.agg #[.bool true,.string ⟨#[]⟩,.slice ka ks.length aj],.int .i64 t,.bool true]) (by simp[results,Tryz.results206,go_sem,z0,z1,z2]) rfl ⟨⟨ka,aj,rfl,?_⟩,?_⟩
      ·have r1:=Row.wider (lo':=w.heap.size+1) ax.out (by omega) jA;have r2:=Row.wider (lo':=w.heap.size) (Row.kept (w':=((w3.setCell ⟨w.heap.size,0,none⟩ (.bool true)).setCell ⟨w.heap.size,1,none⟩ (.string ⟨#[]⟩)).setCell ⟨w.heap.size,2,none⟩ (.slice ka ks.length aj)) r1 (λk k1 _=>by rw[aP _ _ _ _ (by simp;omega),aP _ _ _ _ (by simp;omega),aP _ _ _ _ (by simp;omega)])) (by omega) jA;exact Tr.Si (i:=⟨true,[],ks⟩) (Row.wider (Row.kept r2 (λ_ _ _=>rfl)) jA (by simp[World.setCell]))
      ·first
        |exact((ae.setCell (by simp) _).setCell (by simp) _).setCell (by simp) _
        |exact(((ae.drew.setCell (by simp) _).setCell (by simp) _).setCell (by simp) _)
        |exact below_drewN (((ae.setCell (by simp) _).setCell (by simp) _).setCell (by simp) _) _
end
section
open Go.RowKit Go.Joins Go.Shelf
attribute [local go_sem] Oper.semAt_some
variable {g:List UInt8->Option (Im.It×Nat)}{s:List UInt8}
theorem xY:∀d:Nat,FirstSaid d
 |0=>first_any 0 (.inl rfl)
 |d+1=>first_any (d+1) (.inr ⟨d,rfl,xY d⟩)
theorem Tq(s:ByteArray)(w:World):
  Calls PQ 120 #[.string s] w λe w'=>e=.returned (.func (.func 205) #[] #[.pointer (some ⟨w.heap.size,0,none⟩),.pointer (some ⟨w.heap.size+1,0,none⟩)])/\w'=(w.alloc (.cells #[.string s] 9)).alloc (.cells #[.int .i64 1] 3):=by
 go_enter (fq Tryz.func120 rfl),Tryz.ntmps120;go_wp2_with fail;refine(Bh s 1 _).mono ?_;rintro e w1 ⟨rfl,rfl⟩;go_wp2_with fail;go_ret;exact⟨rfl,rfl⟩
def F8(n lo:Nat)(w':World)(e:Ending):Option Im.It->Prop
 |none=>e=.returned (.tuple #[.agg #[.bool false,.string ⟨#[]⟩,.slice none 0 0],.int .i64 4])
 |some i=>∃a cap,e=.returned (.tuple #[.agg #[.bool i.list,.string ⟨i.bytes.toArray⟩,.slice a i.kids.length cap],.int .i64 0])/\Tr w' n lo w'.heap.size (.bool i.list) (.string ⟨i.bytes.toArray⟩) (.slice a i.kids.length cap) i
theorem Bg{w:World}{b:Nat}{I J E:Value}{t:TypeId}(h:w.heap[b]? =some (.cells #[I,J,E] t (0,0)))(x y z:Value):(((w.setCell ⟨b,0,none⟩ x).setCell ⟨b,1,none⟩ y).setCell ⟨b,2,none⟩ z).heap[b]? =some (.cells #[x,y,z] t (0,0)):=by
 have:=block_setCell (block_setCell (block_setCell h (i:=0) x) (i:=1) y) (i:=2) z;simpa using this
theorem Im.mJ.zero{p:Nat}(h:Im.mJ g s [] p):p=0:=by
 generalize z:([]:List Im.It)=l at h;cases h with
 |nil=>rfl
 |snoc=>simp at z
theorem Im.mJ.one{i:Im.It}{p:Nat}(h:Im.mJ g s [i] p):g s=some (i,p):=by
 generalize z:[i]=l at h;cases h with
 |nil=>simp at z
 |@snoc l0 p0 i0 n0 h hp hg=>
  have e:=z.symm;rw[List.append_eq_singleton_iff]at e;rcases e with⟨rfl,e⟩|⟨_,e⟩
  ·simp at e;subst e;obtain rfl:=h.zero;simpa using hg
  ·simp at e
def DI(s:ByteArray)(z:Nat)(w:World)(E:List X)(W:World):Prop:=
 E=[]/\Boxed W z 9 (.string s)/\W.heap[z+1]? =some (.cells #[.bool false,.string ⟨#[]⟩,.slice none 0 0] 103 (0,0))/\Boxed W (z+2) 36 (.int .i64 0)/\Below z w W/\z+5<=W.heap.size
def DX(s:ByteArray)(z:Nat)(w:World)(c:Code)(E:List X)(W:World):Prop:=
 (c=.exit 0/\∃x,E=[x]/\x.e<s.size/\DI s z w [] W)\/
 (c=.ret/\∃x,E=[x]/\s.size<=x.e/\W.heap[z+1]? =some (.cells #[.bool x.i.list,.string ⟨x.i.bytes.toArray⟩,.slice x.a x.i.kids.length x.cap] 103 (0,0))/\Boxed W (z+2) 36 (.int .i64 0)/\Below z w W/\z+5<=W.heap.size/\Tr W 9 (z+5) W.heap.size (.bool x.i.list) (.string ⟨x.i.bytes.toArray⟩) (.slice x.a x.i.kids.length x.cap) x.i)
theorem cells_kept{A B:World}{row:Option Nat}(I:A.grownBy B row){n:Nat}(E:∀r,row=some r->n<=r/\∃o:Obj,A.heap[r]? =some o/\o.isCells=false){k:Nat}{o:Obj}(hk:A.heap[k]? =some o)(z:o.isCells=true):B.heap[k]? =some o:=
 kC I (λr e=>(E r e).2) k o hk z
theorem DI.own(s:ByteArray)(I:Nat)(w:World):OwnFrom (I+5) (DI s I w):=by
 rintro J A B row ⟨rfl,R,h2,h3,h4,Y⟩ z E;exact⟨rfl,cells_kept z E R rfl,cells_kept z E h2 rfl,cells_kept z E h3 rfl,h4.grown z (by omega) (λk e=>by have:=(E k e).1;omega),by have:=z.size;omega⟩
theorem DX.own(s:ByteArray)(I:Nat)(w:World)(c:Code):OwnFrom (I+5) (DX s I w c):=by
 rintro aa A B row (⟨R,x,rfl,J,Y⟩|⟨R,x,rfl,J,h2,h3,h4,h5,h6⟩) z E
 ·exact .inl ⟨R,x,rfl,J,DI.own s I w _ _ _ _ Y z E⟩
 ·exact .inr ⟨R,x,rfl,J,cells_kept z E h2 rfl,cells_kept z E h3 rfl,h4.grown z (by omega) (λk e=>by have:=(E k e).1;omega),by have:=z.size;omega,h6.turn z (λr e=>(E r e).2)⟩
theorem decode_any(s:ByteArray)(w:World)(hs:s.size<=16777216)(hH:kQ w):
  Calls PQ 175 #[.string s] w λe w'=>F8 9 w.heap.size w' e (Im.dec s.data.toList)/\Below w.heap.size w w':=by
 have h0:=hH.pos;generalize hR:Im.dec s.data.toList=R;have HR:Hid _:=hR;clear hR;refine callsIn_wide.1 (callsIn_of_wp_marks (n:=3) (fq Tryz.func175 rfl) rfl trivial ?_ rfl);simp only[Tryz.ntmps175,dL,aN,bM,Nat.reduceAdd,Nat.reduceSub,cO,bZ,dN,cZ,dM,dH];gi_wp2;refine⟨trivial,?_⟩;refine(callsIn_wide.2 (Tq s _)).mono ?_;rintro e w' ⟨rfl,rfl⟩;gi_wp2;obtain⟨V,hV⟩:∃V:World,V=(((((w.alloc (Obj.cells #[Value.string s] 9)).alloc (Obj.cells #[.bool false,.string ⟨#[]⟩,.slice none 0 0] 103)).alloc (Obj.cells #[Value.int IntKind.i64 0] 36)).alloc (Obj.cells #[Value.string s] 9)).alloc (Obj.cells #[Value.int IntKind.i64 1] 3)):=⟨_,rfl⟩
 rw[<-hV];have ah:V.heap.size=w.heap.size+5:=by rw[hV];simp
 have ai:Below w.heap.size w V:=by rw[hV];exact(((((aB _ w).alloc jA _).alloc (by simp) _).alloc (by simp;omega) _).alloc (by simp;omega) _).alloc (by simp;omega) _
 have z:∀(a b c d e:Obj)(k:Nat),((((((w.alloc a).alloc b).alloc c).alloc d).alloc e).heap[k]?)=if k=w.heap.size+4 then some e else if k=w.heap.size+3 then some d else if k=w.heap.size+2 then some c else if k=w.heap.size+1 then some b else if k=w.heap.size then some a else w.heap[k]?:=by
  intro a b c d e k;simp only[World.alloc,gY,Array.size_push]
 have v0:Boxed V w.heap.size 9 (.string s):=by unfold Boxed;rw[hV,z];simp
 have v1:V.heap[w.heap.size+1]? =some (.cells #[.bool false,.string ⟨#[]⟩,.slice none 0 0] 103 (0,0)):=by rw[hV,z];simp
 have v2:Boxed V (w.heap.size+2) 36 (.int .i64 0):=by unfold Boxed;rw[hV,z];simp
 have v3:V.cell? ⟨w.heap.size+1+1+1,0,none⟩=some (.string s):=by
  have:Boxed V (w.heap.size+3) 9 (.string s):=by unfold Boxed;rw[hV,z];simp
  exact this.cell
 have v4:V.cell? ⟨w.heap.size+1+1+1+1,0,none⟩=some (.int .i64 (1:Nat)):=by
  have:Boxed V (w.heap.size+4) 3 (.int .i64 1):=by unfold Boxed;rw[hV,z];simp
  exact this.cell
 clear hV z
 refine tJ (gf:=205) (lb:=#[.pointer (some ⟨w.heap.size+1+1+1,0,none⟩),.pointer (some ⟨w.heap.size+1+1+1+1,0,none⟩)]) rfl (enters_of (fq Tryz.func205 rfl) (by kernel_rfl) rfl)
  (sJ 8 (xY 8) s 1 (w.heap.size+1+1+1) (w.heap.size+1+1+1+1) V hs rfl (hH.below ai h0) (by omega) v3 v4 (by omega) (by omega)) (aB _ _) (by intro k hk;omega) (XY.turn 9) (λ_=>rfl)
  (DI s w.heap.size w) (DX s w.heap.size w) (by rw[ah];exact DI.own s w.heap.size w) (by rw[ah];exact DX.own s w.heap.size w)
  ⟨rfl,v0,v1,v2,ai,by omega⟩
  (λx B=>{ tmps:=#[.string s,.pointer (some ⟨w.heap.size,0,none⟩),.pointer (some ⟨w.heap.size+1,0,none⟩),.pointer (some ⟨w.heap.size+1+1,0,none⟩),.int .i64 x.e,.pointer (some ⟨B,0,none⟩),.string s,.func (.func 205) #[] #[.pointer (some ⟨w.heap.size+1+1+1,0,none⟩),.pointer (some ⟨w.heap.size+1+1+1+1,0,none⟩)],.int .i64 x.e,.agg #[.bool x.i.list,.string ⟨x.i.bytes.toArray⟩,.slice x.a x.i.kids.length x.cap],undef,undef,undef,undef,undef,undef],defers:=[] })
  (λx=>.cells #[.bool x.i.list,.string ⟨x.i.bytes.toArray⟩,.slice x.a x.i.kids.length x.cap] 103) ?assign ?body ?done ?stop
 case assign=>
  intro l x W K hK;simp only[X.encs];gi_wp2;exact hK
 case body=>
  rintro l ao x W0 W1 ap ⟨rfl,b0,b1,b2,aa,ac⟩ Y ⟨ar,ht⟩;have s1:=Y.size;obtain⟨IB,ag⟩:∃IB:ByteArray,(⟨x.i.bytes.toArray⟩:ByteArray)=IB:=⟨_,rfl⟩
  obtain⟨G,hG,gb,-⟩:=jE W1 #[.bool x.i.list,.string ⟨x.i.bytes.toArray⟩,.slice x.a x.i.kids.length x.cap] 103;rw[<-hG];have gs:G.heap.size=W1.heap.size+1:=by rw[hG];simp
  have ab:Below W0.heap.size W0 G:=Y.trans (gb.mono s1);obtain⟨k0,k1,k2⟩:K3 G W1.heap.size 0 (.bool x.i.list) (.string ⟨x.i.bytes.toArray⟩) (.slice x.a x.i.kids.length x.cap):=by rw[hG];exact K3.FU _ _ _ _ _
  rw[fC]at k1 k2;clear hG;have c0:Boxed G w.heap.size 9 (.string s):=(ab.block _ b0.lt).trans b0;have J:=(ab.block (w.heap.size+1) (by omega)).trans b1;have I:Boxed G (w.heap.size+1+1) 36 (.int .i64 0):=(ab.block _ b2.lt).trans b2;have m0:=c0.cell;have m2:=I.cell;have n2:=I.frozen;obtain⟨z0,z1,z2⟩:=cells3 J;have fz:=aI J;have bG:Below w.heap.size w G:=aa.trans (ab.mono (by omega));have tG:Tr G 9 (w.heap.size+5) G.heap.size (.bool x.i.list) (.string ⟨x.i.bytes.toArray⟩) (.slice x.a x.i.kids.length x.cap) x.i:=(Tr.kept 9 _ _ _ _ _ _ (λk _ k2=>gb.block k k2) ht).wider (by omega) (by omega);have HT:Hid _:=jw tG ht;have HG:Hid _:=jw c0 (jw J (jw I bG));clear tG ht c0 J I bG b0 b1 b2;rw[ag]at k1⊢;by_cases he:x.e<s.size
  ·have am:(x.e:Int)<s.size:=by omega
   gi_wp2;obtain⟨c0,J,I,bG⟩:=HG.out;exact⟨KeepsFrom.refl _ _,.inl ⟨rfl,x,rfl,he,rfl,c0,J,I,bG,by omega⟩⟩
  ·have am:¬(x.e:Int)<s.size:=by omega
   gi_wp2;obtain⟨c0,J,I,bG⟩:=HG.out;have tG:=HT.out.1;rw[<-ag];refine⟨KeepsOthers.from ((((KeepsOthers.setCell _ _ _).trans (KeepsOthers.setCell _ _ _)).trans (KeepsOthers.setCell _ _ _)).trans (KeepsOthers.setCell _ _ _)) _,.inr ⟨rfl,x,rfl,by omega,?_,?_,?_,by simp[World.setCell];omega,?_⟩⟩
   ·rw[aP _ _ _ _ (by simp)];exact Bg J _ _ _
   ·exact Boxed.set _ (kF (kF (kF I _ _ (by simp)) _ _ (by simp)) _ _ (by simp))
   ·exact(((bG.setCell (by simp) _).setCell (by simp) _).setCell (by simp) _).setCell (by simp;omega) _
   ·refine Tr.wider (Tr.kept 9 _ _ _ _ _ _ (λk k1 _=>?_) tG) jA (by simp[World.setCell]);rw[aP _ _ _ _ (by simp;omega),aP _ _ _ _ (by simp;omega),aP _ _ _ _ (by simp;omega),aP _ _ _ _ (by simp;omega)]
 case' done=>
  rintro D xs W0 W hD an ⟨p,he,hl,ae⟩ ⟨rfl,b0,b1,b2,aa,ac⟩ Y hK;obtain rfl:=Im.mJ.zero he
  obtain rfl:R=none:=by
   refine HR.out.symm.trans ?_
   have:Im.read Im.body 8 s.data.toList=none:=by
    rcases ae with h|⟨_,h⟩
    ·have:s.data.toList=[]:=bD (by rw[<-aV];omega);rw[this];exact Im.uQ rfl
    ·simpa using h
   unfold Im.dec;rw[this]
 case' stop=>
  rintro D c ao W0 W hD an ⟨p,he,hl⟩ (⟨rfl,x,rfl,hx,_,b0,b1,b2,aa,ac⟩|⟨rfl,x,rfl,hx,b1,b2,aa,ac,ht⟩) Y hK;rotate_left
  ·have hr:=Im.mJ.one he;have af:p=x.e:=hl.symm.trans (lg [] x);subst af
   obtain rfl:R=some x.i:=by
    refine HR.out.symm.trans ?_;unfold Im.dec;rw[hr];simp only;have:=(Im.rG Im.oI 8 _ _ _ hr).2;rw[if_pos (by rw[<-aV]at this⊢;omega)]
   have s1:=Y.size;gi_wp2;have E:D≠w.heap.size+1/\D≠w.heap.size+1+1:=by omega
   have J:=(Y.block (w.heap.size+1) (by omega)).trans b1;have I:Boxed W (w.heap.size+1+1) 36 (.int .i64 0):=(Y.block _ b2.lt).trans b2;have bW:Below w.heap.size w W:=aa.trans (Y.mono (by omega));have g1:(W.putObj D (.deferred none)).heap[w.heap.size+1]? =_:=(World.putObj_heap_other (Ne.symm E.1)).trans J;have g2:(W.putObj D (.deferred none)).heap[w.heap.size+1+1]? =_:=(World.putObj_heap_other (Ne.symm E.2)).trans I;have aj:=grownBy_putObj' W D (.deferred none);have tW:Tr W 9 (w.heap.size+5) W.heap.size (.bool x.i.list) (.string ⟨x.i.bytes.toArray⟩) (.slice x.a x.i.kids.length x.cap) x.i:=(Tr.kept 9 _ _ _ _ _ _ (λk _ k2=>Y.block k k2) ht).wider jA s1;have tF:=Tr.wider (lo':=w.heap.size) (Tr.turn tW aj (λr e=>by cases e;exact⟨_,hK,rfl⟩)) (by omega) jA;have Ht:Hid _:=tF;clear tF tW ht;refine⟨by simp,.inl ⟨_,_,rfl,run_takeDeferred hK,?_⟩⟩;exact⟨.tuple #[.agg #[.bool x.i.list,.string ⟨x.i.bytes.toArray⟩,.slice x.a x.i.kids.length x.cap],.int .i64 0],by simp[results,Tryz.results175,go_sem,aA g1,aA g2],⟨x.a,x.cap,rfl,Ht.out⟩,bW.grown aj (by omega) (λk e=>by cases e;omega)⟩
  have hr:=Im.mJ.one he;have af:p=x.e:=hl.symm.trans (lg [] x);subst af
  obtain rfl:R=none:=by
   refine HR.out.symm.trans ?_;unfold Im.dec;rw[hr];simp only;rw[if_neg (by rw[<-aV];omega)]
 all_goals
  have s1:=Y.size;have J:=(Y.block (w.heap.size+1) (by omega)).trans b1;have I:Boxed W (w.heap.size+1+1) 36 (.int .i64 0):=(Y.block _ b2.lt).trans b2;have m2:=I.cell;have n2:=I.frozen;obtain⟨z0,z1,z2⟩:=cells3 J;have fz:=aI J;have bW:Below w.heap.size w W:=aa.trans (Y.mono (by omega));gi_wp2;have E:D≠w.heap.size+1/\D≠w.heap.size+1+1:=by omega
  obtain⟨F,hF⟩:∃F:World,F=(((W.setCell ⟨w.heap.size+1,0,none⟩ (.bool false)).setCell ⟨w.heap.size+1,1,none⟩ (.string ⟨#[]⟩)).setCell ⟨w.heap.size+1,2,none⟩ (.slice none 0 0)).setCell ⟨w.heap.size+1+1,0,none⟩ (.int .i64 4):=⟨_,rfl⟩
  rw[<-hF];have ak:F.heap[D]? =some (.deferred (some [])):=by rw[hF,aP _ _ _ _ E.2,aP _ _ _ _ E.1,aP _ _ _ _ E.1,aP _ _ _ _ E.1];exact hK
  have f1:F.heap[w.heap.size+1]? =some (.cells #[.bool false,.string ⟨#[]⟩,.slice none 0 0] 103 (0,0)):=by rw[hF,aP _ _ _ _ (by simp)];exact Bg J _ _ _
  have f2:Boxed F (w.heap.size+1+1) 36 (.int .i64 4):=by rw[hF];exact Boxed.set _ (kF (kF (kF I _ _ (by simp)) _ _ (by simp)) _ _ (by simp))
  have bF:Below w.heap.size w F:=by rw[hF];exact(((bW.setCell (by simp) _).setCell (by simp) _).setCell (by simp) _).setCell (by simp;omega) _
  have aq:=bF.size;have au:D<F.heap.size:=(jC ak)
  clear hF;have g1:(F.putObj D (.deferred none)).heap[w.heap.size+1]? =_:=(World.putObj_heap_other (Ne.symm E.1)).trans f1;have g2:(F.putObj D (.deferred none)).heap[w.heap.size+1+1]? =_:=(World.putObj_heap_other (Ne.symm E.2)).trans f2;refine⟨by simp,.inl ⟨_,_,rfl,run_takeDeferred ak,?_⟩⟩;exact⟨.tuple #[.agg #[.bool false,.string ⟨#[]⟩,.slice none 0 0],.int .i64 4],by simp[results,Tryz.results175,go_sem,aA g1,aA g2],rfl,bF.grown (grownBy_putObj' F D _) (by omega) (λk e=>by cases e;omega)⟩
end
namespace Hm
open Go.RowKit Go.Joins Go.Shelf
theorem Bd:(PQ.info? 9).map (λi=>(i.zero,i.size,i.bytes))=some (some (.string ⟨#[]⟩),1,16):=by kernel_rfl
def strs(i:Im.It):Option (List (List UInt8)):=if i.list&&i.kids.all (λt=>!t.list)then some (i.kids.map (·.bytes))else none
def Made(w:World)(lo:Nat)(v:Value)(l:List (List UInt8)):Prop:=Row w 9 1 v l.length (l.map nZ)/\∀g,v.ownBlock=some g->lo<=g
def Strs(w:World)(lo:Nat)(e:Ending):Option (List (List UInt8))->Prop
 |none=>e=.returned (.tuple #[.slice none 0 0,.bool false])
 |some l=>∃a cap,e=.returned (.tuple #[.slice a l.length cap,.bool true])/\Made w lo (.slice a l.length cap) l
theorem In.kid{B:Nat}{w:World}{n:Nat}{c0 c1 J:Value}{i:Im.It}(h:In B w (n+1) c0 c1 J i)(hk:i.kids≠[]):∃g off cap,J=.slice (some ⟨g,off,none⟩) i.kids.length cap/\g<B/\∀(j:Nat)(R:j<i.kids.length),∃z,K3 w g (off+j*3) (.bool i.kids[j].list) (.string ⟨i.kids[j].bytes.toArray⟩) z/\In B w n (.bool i.kids[j].list) (.string ⟨i.kids[j].bytes.toArray⟩) z i.kids[j]:=by
 obtain⟨_,_,a,cap,rfl,hx⟩:=h;obtain⟨g,off,rfl,hg,R⟩:=hx hk;refine⟨g,off,cap,rfl,hg,λj E=>?_⟩;obtain⟨d0,d1,z,h1,h2⟩:=R j E;obtain⟨a',I,Y,e1,e2⟩:=h2.shape;subst Y e1;exact⟨z,h1,h2⟩
theorem vg(n B:Nat)(i:Im.It)(c2:Value)(w:World)(hB:B<=w.heap.size)(h:In B w (n+2) (.bool i.list) (.string ⟨i.bytes.toArray⟩) c2 i)(hl:i.kids.length<=4294967296):Calls PQ 177 #[.agg #[.bool i.list,.string ⟨i.bytes.toArray⟩,c2]] w λe w'=>Strs w' w.heap.size e (strs i)/\Below w.heap.size w w':=by
 obtain⟨a,cap,_,_,rfl⟩:=h.shape;obtain⟨D,hD⟩:∃D:ByteArray,(⟨i.bytes.toArray⟩:ByteArray)=D:=⟨_,rfl⟩
 obtain⟨W,hW,ag,-⟩:=jE w #[.bool i.list,.string D,.slice a i.kids.length cap] 103;have z0:W.cell? ⟨w.heap.size,0,none⟩=some (.bool i.list):=by rw[hW];simp
 have z2:W.cell? ⟨w.heap.size,2,none⟩=some (.slice a i.kids.length cap):=by rw[hW];simp
 obtain⟨R,hR⟩:∃R,strs i=R:=⟨_,rfl⟩
 rw[hR,hD];obtain⟨li,ae⟩:∃li,i.list=li:=⟨_,rfl⟩
 rw[ae]at z0 hW⊢;obtain⟨i0,aq,am,au,ao⟩:=info_parts Bd;have Hi:Hid _:=jw aq (jw am (jw au ao));have H:Hid _:=jw h (jw ag (jw hR ae));clear h ag hR ae aq am au ao hD;cases li
 ·go_enter (fq Tryz.func177 rfl),Tryz.ntmps177;go_upto_region 1 with fail;rw[<-hW];clear hW;go_wp2_with fail;go_ret2;obtain⟨h,ag,hR,ae⟩:=H.out;refine⟨?_,ag⟩;rw[<-hR];unfold strs;rw[ae];rfl
 ·go_enter (fq Tryz.func177 rfl),Tryz.ntmps177;go_upto_region 1 with fail;rw[<-hW];clear hW;go_wp2_with fail;go_loopg [4,6,13] i.kids.length (λgg v4 _ aw wx=>∃(k:Nat)(ra:Option Addr)(rc:Nat),k<=i.kids.length/\aw=.int .i64 k/\v4=.slice ra k rc/\gg=i.kids.length-k/\Hid (Made wx w.heap.size (.slice ra k rc) ((i.kids.take k).map (·.bytes))/\(∀x,x∈i.kids.take k->x.list=false)/\Below w.heap.size w wx))
  case atStart=>exact⟨0,none,0,dF _,rfl,rfl,rfl,⟨Row.nil _ _ _,by simp[Value.ownBlock]⟩,by simp,H.out.2.1⟩
  case round=>
   obtain⟨k,ra,rc,hk,rfl,rfl,rfl,HI⟩:=hrel;by_cases af:k<i.kids.length
   ·have ar:(k:Int)<i.kids.length:=by omega
    have av:=In.below (HI.out.2.2.mono hB) _ _ _ _ _ H.out.1;obtain⟨g,off,az,hv,hg,ai⟩:=In.kid av (λe=>by rw[e]at af;simp at af);simp only[Value.slice.injEq,true_and]at hv;obtain⟨rfl,rfl⟩:=hv;obtain⟨d2,⟨k0,k1,k2⟩,ab⟩:=ai k af;obtain⟨x,hx⟩:∃x,i.kids[k]=x:=⟨_,rfl⟩
    rw[hx]at k0 k1 ab;obtain⟨xa,xc,_,_,rfl⟩:=ab.shape;obtain⟨X,hX⟩:∃X:ByteArray,(⟨x.bytes.toArray⟩:ByteArray)=X:=⟨_,rfl⟩
    rw[hX]at k1;obtain⟨W2,Y,J,-⟩:=jE wr #[.bool x.list,.string X,.slice xa x.kids.length xc] 103;have y0:W2.cell? ⟨wr.heap.size,0,none⟩=some (.bool x.list):=by rw[Y];simp
    have y1:W2.cell? ⟨wr.heap.size,1,none⟩=some (.string X):=by rw[Y];simp
    obtain⟨xl,I⟩:∃xl,x.list=xl:=⟨_,rfl⟩
    rw[I]at y0 k0 Y;have aa:i.kids.take (k+1)=i.kids.take k++[x]:=by rw[dZ af,hx]
    have HX:Hid _:=jw hx (jw hX (jw J (jw I aa)));have ac:=λo=>(HI.out.1.1.below J).below ((aB W2.heap.size W2).alloc jA o);rw[show((i.kids.take k).map (·.bytes)).length=k from by rw[aU,aZ];omega]at ac;have ak:Hid _:=ac;clear av hg ai ab hx hX J I aa ac;cases xl
    ·go_upto_region 7 with fail;rw[<-Y];clear Y;go_wp2_with (first|(at_builtin;refine lG _ rfl (.tmp 19) (.tmp 22) 40 rfl 9 i0 _ 1 16 (uq Tryz.underlying40) Hi.out.1 Hi.out.2.1 Hi.out.2.2.1 Hi.out.2.2.2 rfl (by decide) _ k _ rfl (ak.out _) ⟨W2.heap.size,0,none⟩ 1 1 [.string X] rfl (by decide) rfl (by intro j u hj;match j,hj with|0,hj=>(simp at hj;subst hj;simp[Addr.add])) (by intro u hu;simp at hu;subst hu;rfl) (by unfold maxLen;omega) (by omega) ?_;intro g5 an ap w5 E z;have ax:Hid _:=jw E z;clear E z)|go_in)
     go_roundg (i.kids.length-(k+1))
     case measure=>omega
     case rel=>
      obtain⟨hx,hX,J,I,aa⟩:=HX.out;obtain⟨E,z⟩:=ax.out;have ah:Below w.heap.size w W2:=HI.out.2.2.trans (J.mono HI.out.2.2.size);have aj:Below w.heap.size w (W2.alloc (.cells #[.string X] 9)):=ah.alloc ah.size _
      have ay:w.heap.size<=g5:=by
       rcases z.own with e|e
       ·exact HI.out.1.2 g5 e
       ·exact aW aj.size e
      refine⟨k+1,some ⟨g5,an,none⟩,ap,by omega,by go_num,rfl,rfl,⟨?_,?_⟩,?_,?_⟩
      ·rw[aa,aY,aY,aJ,aU,aZ,fO (by omega)];have:[x].map (λt:Im.It=>t.bytes)=[x.bytes]:=rfl;rw[this,dW,fG];unfold nZ at E⊢;rw[hX];exact E
      ·intro q hq;have:some g5=some q:=hq;cases this;exact ay
      ·intro y hy;rw[aa]at hy;rcases dG.1 hy with hy|hy
       ·exact HI.out.2.1 y hy
       ·rw[dD.1 hy];exact I
      ·refine aj.trans ⟨z.jO.os,z.jO.tape,z.jO.output,z.jO.size,λq hq=>z.jO.block q (aH hq aj.size) (λe=>?_)⟩;have:=HI.out.1.2 q e;omega
    ·go_upto_region 7 with fail;rw[<-Y];clear Y;go_wp2_with fail;go_ret2;obtain⟨hx,hX,J,I,aa⟩:=HX.out;refine⟨?_,HI.out.2.2.trans (J.mono HI.out.2.2.size)⟩;rw[<-H.out.2.2.1];unfold strs;rw[if_neg]
     ·rfl
     ·intro e;simp only[bY]at e;have:=eY.1 e.2 x (by rw[<-hx];exact List.getElem_mem _);rw[I]at this;cases this
   ·have ar:¬(k:Int)<i.kids.length:=by omega
    obtain rfl:k=i.kids.length:=by omega
    go_wp2_with fail;go_ret2;refine⟨?_,HI.out.2.2⟩;rw[<-H.out.2.2.1];unfold strs;rw[if_pos]
    ·have h1:=HI.out.1;rw[iF]at h1;refine⟨ra,rc,?_,?_⟩
     ·rw[aU];rfl
     ·rw[aU];exact h1
    ·simp only[bY];refine⟨H.out.2.2.2,eY.2 (λx hx=>?_)⟩;rw[HI.out.2.1 x (by rw[iF];exact hx)];rfl
end Hm
end Go.Proofs.YtpibpdpedjinhaaGreatDoor
