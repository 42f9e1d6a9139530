import Derived.Test.YtpibpdpedjinhaaGreatDoorU20
set_option maxRecDepth 100000
set_option maxHeartbeats 4000000
set_option linter.unusedSimpArgs false
namespace Go.Proofs.YtpibpdpedjinhaaGreatDoor
section
open Go.RowKit Go.Joins Go.Shelf
attribute [local go_sem] Oper.semAt_some
theorem Oz (d:Nat) (hf:FirstSaid d) (s:ByteArray) (Y f:Nat) (w:World) (hs:s.size<=16777216) (a5:Y+d=9) (a4:s.size<=f) (hH:kU w):
  Calls PQ 220 #[.string s,.int .i64 Y] w λe w'=>Rx (d+1) w.heap.size w' e (Im.many (Im.read Im.body d) f s.data.toList)/\Below w.heap.size w w':=by
 have h0:=hH.pos
 generalize hR:Im.many (Im.read Im.body d) f s.data.toList=R
 have HR:Hid _:=hR
 clear hR
 refine callsIn_wide.1 (callsIn_of_wp_marks (n:=3) (fq Tryz.func220 rfl) rfl trivial ?_ rfl)
 simp only [Tryz.ntmps220,dL,aN,bM,Nat.reduceAdd,Nat.reduceSub,cO,bZ,dN,cZ,dM,dH]
 gi_wp2
 refine ⟨trivial,?_⟩
 refine (callsIn_wide.2 (Ak s Y _)).mono ?_
 rintro e w' ⟨rfl,rfl⟩
 gi_wp2
 obtain ⟨V,hV⟩:∃V:World,V=((((w.alloc (Obj.cells #[Value.slice none 0 0] 101)).alloc (Obj.cells #[Value.int IntKind.i64 0] 3)).alloc (Obj.cells #[Value.string s] 9)).alloc (Obj.cells #[Value.int IntKind.i64 Y] 3)):=⟨_,rfl⟩
 rw [<-hV]
 have a6:V.heap.size=w.heap.size+4:=by rw [hV];simp
 have a0:Below w.heap.size w V:=by rw [hV];exact ((((aB _ w).alloc jC _).alloc (by simp) _).alloc (by simp;omega) _).alloc (by simp;omega) _
 have v0:Boxed V w.heap.size 101 (.slice none 0 0):=by rw [hV];exact (((Boxed.new w _ _).alloc _).alloc _).alloc _
 have v1:Boxed V (w.heap.size+1) 3 (.int .i64 0):=by
  rw [hV]
  have:=Boxed.new (w.alloc (Obj.cells #[Value.slice none 0 0] 101)) 3 (.int .i64 0)
  rw [eH] at this
  exact (this.alloc _).alloc _
 have v2:V.cell? ⟨w.heap.size+1+1,0,none⟩=some (.string s):=by
  rw [hV]
  have:=Boxed.new ((w.alloc (Obj.cells #[Value.slice none 0 0] 101)).alloc (Obj.cells #[Value.int IntKind.i64 0] 3)) 9 (.string s)
  rw [eH,eH] at this
  exact (this.alloc _).cell
 have v3:V.cell? ⟨w.heap.size+1+1+1,0,none⟩=some (.int .i64 Y):=by
  rw [hV]
  have:=Boxed.new (((w.alloc (Obj.cells #[Value.slice none 0 0] 101)).alloc (Obj.cells #[Value.int IntKind.i64 0] 3)).alloc (Obj.cells #[Value.string s] 9)) 3 (.int .i64 Y)
  rw [eH,eH,eH] at this
  exact this.cell
 clear hV
 refine yN (gf:=205) (lb:=#[.pointer (some ⟨w.heap.size+1+1,0,none⟩),.pointer (some ⟨w.heap.size+1+1+1,0,none⟩)]) rfl (enters_of (fq Tryz.func205 rfl) (by kernel_rfl) rfl)
  (BQ d hf s Y (w.heap.size+1+1) (w.heap.size+1+1+1) V hs a5 (hH.below a0 h0) (by omega) v2 v3 (by omega) (by omega)) (aB _ _) (by intro k hk;omega) (XY.turn (d+1)) (λ_=>rfl)
  (WI d w.heap.size w) (λ_ _ _=>False) (by rw [a6];exact WI.own d w.heap.size w) (λ_ _ _ _ _ hs _ _=>hs)
  ⟨⟨_,v0,Row.none _ _ _ _⟩,v1,a0,by omega⟩
  (λx B=>{ tmps:=#[.string s,.int .i64 Y,undef,undef,.slice none 0 0,.bool false,.pointer (some ⟨w.heap.size,0,none⟩),.pointer (some ⟨w.heap.size+1,0,none⟩),.int .i64 x.e,.pointer (some ⟨B,0,none⟩),.string s,.int .i64 Y,.func (.func 205) #[] #[.pointer (some ⟨w.heap.size+1+1,0,none⟩),.pointer (some ⟨w.heap.size+1+1+1,0,none⟩)],.int .i64 x.e,.agg #[.bool x.i.list,.string ⟨x.i.bytes.toArray⟩,.slice x.a x.i.kids.length x.cap],undef,undef,undef,undef,undef,undef,undef,undef,undef,undef,undef,undef],defers:=[] })
  (λx=>.cells #[.bool x.i.list,.string ⟨x.i.bytes.toArray⟩,.slice x.a x.i.kids.length x.cap] 103) ?assign ?body ?done ?stop
 case assign=>
  intro l x W K z
  simp only [X.encs]
  gi_wp2
  exact z
 case body=>
  rintro l E x W0 W1 a8 ⟨⟨v,b0,az⟩,b1,aj,au⟩ hb ⟨bk,ht⟩
  obtain ⟨xs,L,H,q1,q2,q3,q4,q5⟩:=az
  have s1:=hb.size
  have bl:PQ.follows .mixedOrders=true:=by kernel_rfl
  obtain ⟨va,J,rfl⟩:=AP q1
  rw [aU] at *
  obtain ⟨IB,a3⟩:∃IB:ByteArray,(⟨x.i.bytes.toArray⟩:ByteArray)=IB:=⟨_,rfl⟩
  rw [a3] at ht⊢
  obtain ⟨G,hG⟩:∃G:World,G=W1.alloc (.cells #[.bool x.i.list,.string IB,.slice x.a x.i.kids.length x.cap] 103):=⟨_,rfl⟩
  rw [<-hG]
  have gs:G.heap.size=W1.heap.size+1:=by rw [hG];simp
  have gb:Below W1.heap.size W1 G:=by rw [hG];exact (aB _ _).alloc jC _
  have af:Below W0.heap.size W0 G:=hb.trans (gb.mono s1)
  obtain ⟨k0,k1,k2⟩:K3 G W1.heap.size 0 (.bool x.i.list) (.string IB) (.slice x.a x.i.kids.length x.cap):=by rw [hG];exact K3.Fe _ _ _ _ _
  rw [fC] at k1 k2
  clear hG
  have c0:Boxed G w.heap.size 101 (.slice va E.length J):=(af.block _ b0.lt).trans b0
  have c1:Boxed G (w.heap.size+1) 3 (.int .i64 (qH E)):=(af.block _ b1.lt).trans b1
  have a7:∃i0,PQ.info? 103=some i0/\i0.zero=some (.agg #[.bool false,.string ⟨#[]⟩,.slice none 0 0])/\i0.size=3/\i0.bytes=48:=by
   obtain ⟨i0,hi,ai,ap,ak⟩:=info_parts PI
   exact ⟨i0,hi,ai,ap,ak⟩
  obtain ⟨i0,hi,ai,ap,ak⟩:=a7
  obtain ⟨U,hU⟩:∃U:World,U=(G.alloc (.cells #[.bool false,.string ⟨#[]⟩,.slice none 0 0] 103)).drew:=⟨_,rfl⟩
  have ub:Below G.heap.size G U:=by rw [hU];exact ((aB _ G).alloc jC _).drew
  have us:U.heap.size=G.heap.size+1:=by rw [hU];simp
  have u3:K3 U G.heap.size 0 (.bool false) (.string ⟨#[]⟩) (.slice none 0 0):=by rw [hU];obtain ⟨t0,t1,t2⟩:=K3.Fe G (.bool false) (.string ⟨#[]⟩) (.slice none 0 0) 103;exact ⟨t0,t1,t2⟩
  have qU:U.ownsRow (w.heap.size+4) 103 3 (.slice va E.length J) E.length xs:=own_below (own_below q1 af) ub
  obtain ⟨v',w',aa,I,ab,ao⟩:=G9 (P:=PQ) U (w.heap.size+4) 101 101 103 i0 _ 3 48 (uq Tryz.underlying101) hi ai ap ak rfl (by decide) _ _ xs qU ⟨G.heap.size,0,none⟩ 1 1 [.bool false,.string ⟨#[]⟩,.slice none 0 0] (by decide) rfl (by
   intro j u hj
   match j,hj with
   |0,hj=>simp at hj;subst hj;exact u3.1
   |1,hj=>simp at hj;subst hj;exact u3.2.1
   |2,hj=>simp at hj;subst hj;exact u3.2.2) (by intro u hu;simp at hu;rcases hu with rfl|rfl|rfl<;>rfl) (by unfold maxLen;omega) (by omega) (by omega)
  obtain ⟨g,aw,rfl⟩:=MJ I (by omega)
  rw [hU,gs] at aa
  have m0:=c0.cell
  have ba:=(c0.alloc (.cells #[.bool false,.string ⟨#[]⟩,.slice none 0 0] 103)).cell
  have bo:=qp I (g:=g) rfl
  have aq:=I.cells (g:=g) rfl
  have ah:=xs_len qU
  have y0:w'.cell? ⟨g,E.length * 3,none⟩=some (.bool false):=by have:=aq (E.length * 3) (.bool false) (by rw [bK (by omega),ah];simp);simpa [xB] using this
  have y1:w'.cell? ⟨g,E.length * 3+1,none⟩=some (.string ⟨#[]⟩):=by have:=aq (E.length * 3+1) (.string ⟨#[]⟩) (by rw [bK (by omega),ah,show E.length * 3+1 - E.length * 3=1 from by omega];rfl);simpa [xB] using this
  have y2:w'.cell? ⟨g,E.length * 3+2,none⟩=some (.slice none 0 0):=by have:=aq (E.length * 3+2) (.slice none 0 0) (by rw [bK (by omega),ah,show E.length * 3+2 - E.length * 3=2 from by omega];rfl);simpa [xB] using this
  have ax:∀m,Value.ownBlock (.slice va E.length J)=some m->w.heap.size+4<=m:=λm hm=>(qp q1 hm).1
  have e0:Boxed w' w.heap.size 101 (.slice va E.length J):=(ab.block _ (by omega) (λe=>by have:=ax _ e.symm;omega)).trans ((ub.block _ (by omega)).trans c0)
  have e1:Boxed w' (w.heap.size+1) 3 (.int .i64 (qH E)):=(ab.block _ (by omega) (λe=>by have:=ax _ e.symm;omega)).trans ((ub.block _ (by omega)).trans c1)
  have n0:=e0.cell
  have n1:=e0.frozen
  have n2:=e1.cell
  have n3:=e1.frozen
  have n4:w'.frozen? ⟨g,E.length * 3,none⟩=false:=vJ I
  have n5:w'.frozen? ⟨g,E.length * 3+1,none⟩=false:=vJ I
  have n6:w'.frozen? ⟨g,E.length * 3+2,none⟩=false:=vJ I
  have bp:(0:Int)<=(E.length:Int):=by omega
  have bn:(E.length:Int) < ((E.length+1:Nat):Int):=by omega
  have bm:(E.length:Int) < (E.length:Int)+1:=by omega
  have ag:g≠w.heap.size:=by omega
  have bj:g≠w.heap.size+1:=by omega
  have f0:=c0.frozen
  have Hx:Hid _:=jB q1 (jB q2 (jB q3 (jB q4 q5)))
  have a2:Hid _:=I
  have bb:Hid _:=ab
  have bg:Hid _:=ao
  have bh:Hid _:=ub
  have a9:Hid _:=ht
  have fin:∀(a:Act) (F:World),F=((((w'.setCell ⟨g,E.length * 3,none⟩ (.bool x.i.list)).setCell ⟨g,E.length * 3+1,none⟩ (.string IB)).setCell ⟨g,E.length * 3+2,none⟩ (.slice x.a x.i.kids.length x.cap)).setCell ⟨w.heap.size,0,none⟩ (.slice (some ⟨g,0,none⟩) (E.length+1) aw)).setCell ⟨w.heap.size+1,0,none⟩ (.int .i64 x.e)->
    XP V.heap.size (λk=>k=1\/k=w.heap.size+1+1\/k=w.heap.size+1+1+1) (WI d w.heap.size w) (λ_ _ _=>False) (E++[x]) G .normal a F:=λa F hF=>
   Pz h0 aj au b0 b1 q1 (by rw [aU];exact q3) (by rw [aU];exact q4) q5 hb ht gb ub I ab ao hF
  have Fin:Hid _:=fin
  clear fin
  clear q1 q2 q3 q4 q5 I ab ao ub ht u3 qU hU
  gi_wp2
  refine wpIn_region_any (by kernel_rfl) ?_
  change wpAnyIn _ _ _ _ _ _ _ _ _ (World.drew _)
  refine (λ(key:(?T:Prop))=>?main) ?k
  case main=>
   refine wpAnyIn_ready (rs:=[0,1,3]) (by kernel_rfl) (by simp) ?_
   refine AllReadyIn.cons rfl (λK z=>?_) ?_
   ·go_simp
    refine z _ _ ?_
    clear z K
    refine wpAnyIn_ready (rs:=[1,2,3]) (by kernel_rfl) (by simp) ?_
    refine AllReadyIn.cons rfl (λK z=>?_) ?_
    ·go_simp
     refine z _ _ ?_
     clear z K
     refine wpAnyIn_ready (rs:=[2,3]) (by kernel_rfl) (by simp) ?_
     refine AllReadyIn.cons rfl (λK z=>?_) ?_
     ·go_simp
      refine z _ _ ?_
      clear z K
      refine wpAnyIn_ready (rs:=[3]) (by kernel_rfl) (by simp) ?_
      refine AllReadyIn.cons rfl (λK z=>?_) ?_
      ·go_simp
       refine z _ _ ?_
       clear z K
       exact key
      exact AllReadyIn.nil
     refine AllReadyIn.cons rfl (λK z=>?_) ?_
     ·go_simp
      refine z _ _ ?_
      clear z K
      refine wpAnyIn_ready (rs:=[2]) (by kernel_rfl) (by simp) ?_
      refine AllReadyIn.cons rfl (λK z=>?_) ?_
      ·go_simp
       refine z _ _ ?_
       clear z K
       exact key
      exact AllReadyIn.nil
     exact AllReadyIn.nil
    refine AllReadyIn.cons rfl (λK z=>?_) ?_
    ·go_simp
     refine z _ _ ?_
     clear z K
     refine wpAnyIn_ready (rs:=[1,3]) (by kernel_rfl) (by simp) ?_
     refine AllReadyIn.cons rfl (λK z=>?_) ?_
     ·go_simp
      refine z _ _ ?_
      clear z K
      refine wpAnyIn_ready (rs:=[3]) (by kernel_rfl) (by simp) ?_
      refine AllReadyIn.cons rfl (λK z=>?_) ?_
      ·go_simp
       refine z _ _ ?_
       clear z K
       exact key
      exact AllReadyIn.nil
     refine AllReadyIn.cons rfl (λK z=>?_) ?_
     ·go_simp
      refine z _ _ ?_
      clear z K
      refine wpAnyIn_ready (rs:=[1]) (by kernel_rfl) (by simp) ?_
      refine AllReadyIn.cons rfl (λK z=>?_) ?_
      ·go_simp
       refine z _ _ ?_
       clear z K
       exact key
      exact AllReadyIn.nil
     exact AllReadyIn.nil
    refine AllReadyIn.cons rfl (λK z=>?_) ?_
    ·go_simp
     refine z _ _ ?_
     clear z K
     refine wpAnyIn_ready (rs:=[1,2]) (by kernel_rfl) (by simp) ?_
     refine AllReadyIn.cons rfl (λK z=>?_) ?_
     ·go_simp
      refine z _ _ ?_
      clear z K
      refine wpAnyIn_ready (rs:=[2]) (by kernel_rfl) (by simp) ?_
      refine AllReadyIn.cons rfl (λK z=>?_) ?_
      ·go_simp
       refine z _ _ ?_
       clear z K
       exact key
      exact AllReadyIn.nil
     refine AllReadyIn.cons rfl (λK z=>?_) ?_
     ·go_simp
      refine z _ _ ?_
      clear z K
      refine wpAnyIn_ready (rs:=[1]) (by kernel_rfl) (by simp) ?_
      refine AllReadyIn.cons rfl (λK z=>?_) ?_
      ·go_simp
       refine z _ _ ?_
       clear z K
       exact key
      exact AllReadyIn.nil
     exact AllReadyIn.nil
    exact AllReadyIn.nil
   refine AllReadyIn.cons rfl (λK z=>?_) ?_
   ·go_simp
    refine z _ _ ?_
    clear z K
    refine wpAnyIn_ready (rs:=[0,3]) (by kernel_rfl) (by simp) ?_
    refine AllReadyIn.cons rfl (λK z=>?_) ?_
    ·go_simp
     refine z _ _ ?_
     clear z K
     refine wpAnyIn_ready (rs:=[2,3]) (by kernel_rfl) (by simp) ?_
     refine AllReadyIn.cons rfl (λK z=>?_) ?_
     ·go_simp
      refine z _ _ ?_
      clear z K
      refine wpAnyIn_ready (rs:=[3]) (by kernel_rfl) (by simp) ?_
      refine AllReadyIn.cons rfl (λK z=>?_) ?_
      ·go_simp
       refine z _ _ ?_
       clear z K
       exact key
      exact AllReadyIn.nil
     refine AllReadyIn.cons rfl (λK z=>?_) ?_
     ·go_simp
      refine z _ _ ?_
      clear z K
      refine wpAnyIn_ready (rs:=[2]) (by kernel_rfl) (by simp) ?_
      refine AllReadyIn.cons rfl (λK z=>?_) ?_
      ·go_simp
       refine z _ _ ?_
       clear z K
       exact key
      exact AllReadyIn.nil
     exact AllReadyIn.nil
    refine AllReadyIn.cons rfl (λK z=>?_) ?_
    ·go_simp
     refine z _ _ ?_
     clear z K
     refine wpAnyIn_ready (rs:=[0]) (by kernel_rfl) (by simp) ?_
     refine AllReadyIn.cons rfl (λK z=>?_) ?_
     ·go_simp
      refine z _ _ ?_
      clear z K
      refine wpAnyIn_ready (rs:=[2]) (by kernel_rfl) (by simp) ?_
      refine AllReadyIn.cons rfl (λK z=>?_) ?_
      ·go_simp
       refine z _ _ ?_
       clear z K
       exact key
      exact AllReadyIn.nil
     exact AllReadyIn.nil
    exact AllReadyIn.nil
   refine AllReadyIn.cons rfl (λK z=>?_) ?_
   ·go_simp
    refine z _ _ ?_
    clear z K
    refine wpAnyIn_ready (rs:=[0,1]) (by kernel_rfl) (by simp) ?_
    refine AllReadyIn.cons rfl (λK z=>?_) ?_
    ·go_simp
     refine z _ _ ?_
     clear z K
     refine wpAnyIn_ready (rs:=[1,2]) (by kernel_rfl) (by simp) ?_
     refine AllReadyIn.cons rfl (λK z=>?_) ?_
     ·go_simp
      refine z _ _ ?_
      clear z K
      refine wpAnyIn_ready (rs:=[2]) (by kernel_rfl) (by simp) ?_
      refine AllReadyIn.cons rfl (λK z=>?_) ?_
      ·go_simp
       refine z _ _ ?_
       clear z K
       exact key
      exact AllReadyIn.nil
     refine AllReadyIn.cons rfl (λK z=>?_) ?_
     ·go_simp
      refine z _ _ ?_
      clear z K
      refine wpAnyIn_ready (rs:=[1]) (by kernel_rfl) (by simp) ?_
      refine AllReadyIn.cons rfl (λK z=>?_) ?_
      ·go_simp
       refine z _ _ ?_
       clear z K
       exact key
      exact AllReadyIn.nil
     exact AllReadyIn.nil
    refine AllReadyIn.cons rfl (λK z=>?_) ?_
    ·go_simp
     refine z _ _ ?_
     clear z K
     refine wpAnyIn_ready (rs:=[0]) (by kernel_rfl) (by simp) ?_
     refine AllReadyIn.cons rfl (λK z=>?_) ?_
     ·go_simp
      refine z _ _ ?_
      clear z K
      refine wpAnyIn_ready (rs:=[2]) (by kernel_rfl) (by simp) ?_
      refine AllReadyIn.cons rfl (λK z=>?_) ?_
      ·go_simp
       refine z _ _ ?_
       clear z K
       exact key
      exact AllReadyIn.nil
     exact AllReadyIn.nil
    exact AllReadyIn.nil
   exact AllReadyIn.nil
  case k=>
   refine wpAnyIn_ready (rs:=[4]) (by kernel_rfl) (by simp) ?_
   refine AllReadyIn.cons rfl (λK z=>?_) AllReadyIn.nil
   refine Dn _ (by rfl) (by rfl) (by rfl) (by rfl) aa ?_
   refine z _ _ ?_
   clear z K aa
   refine wpAnyIn_ready (rs:=[5,7]) (by kernel_rfl) (by simp) ?_
   refine AllReadyIn.cons rfl (λK z=>?_) ?_
   ·go_simp
    refine z _ _ ?_
    clear z K
    refine wpAnyIn_ready (rs:=[6,7]) (by kernel_rfl) (by simp) ?_
    refine AllReadyIn.cons rfl (λK z=>?_) ?_
    ·go_simp
     refine z _ _ ?_
     clear z K
     refine wpAnyIn_ready (rs:=[7]) (by kernel_rfl) (by simp) ?_
     refine AllReadyIn.cons rfl (λK z=>?_) AllReadyIn.nil
     ·go_simp
      refine z _ _ ?_
      clear z K
      refine wpAnyIn_done (by kernel_rfl) ?_ _
      gi_wp2
      exact Fin.out _ _ (by first|rfl|rw [BZ _ _ _ _ _ (Ne.symm ag)])
    refine AllReadyIn.cons rfl (λK z=>?_) AllReadyIn.nil
    ·go_simp
     refine z _ _ ?_
     clear z K
     refine wpAnyIn_ready (rs:=[6]) (by kernel_rfl) (by simp) ?_
     refine AllReadyIn.cons rfl (λK z=>?_) AllReadyIn.nil
     ·go_simp
      refine z _ _ ?_
      clear z K
      refine wpAnyIn_done (by kernel_rfl) ?_ _
      gi_wp2
      exact Fin.out _ _ (by first|rfl|rw [BZ _ _ _ _ _ (Ne.symm ag)])
   refine AllReadyIn.cons rfl (λK z=>?_) AllReadyIn.nil
   ·go_simp
    refine z _ _ ?_
    clear z K
    refine wpAnyIn_ready (rs:=[5]) (by kernel_rfl) (by simp) ?_
    refine AllReadyIn.cons rfl (λK z=>?_) AllReadyIn.nil
    ·go_simp
     refine z _ _ ?_
     clear z K
     refine wpAnyIn_ready (rs:=[6]) (by kernel_rfl) (by simp) ?_
     refine AllReadyIn.cons rfl (λK z=>?_) AllReadyIn.nil
     ·go_simp
      refine z _ _ ?_
      clear z K
      refine wpAnyIn_done (by kernel_rfl) ?_ _
      gi_wp2
      exact Fin.out _ _ (by first|rfl|rw [BZ _ _ _ _ _ (Ne.symm ag)])
 case done=>
  rintro D xs W0 W hD bd ⟨p,he,hl,an⟩ ⟨⟨v,b0,row⟩,b1,aj,au⟩ hb z
  have s1:=hb.size
  have c0:Boxed W w.heap.size 101 v:=(hb.block _ b0.lt).trans b0
  have c1:Boxed W (w.heap.size+1) 3 (.int .i64 (qH xs)):=(hb.block _ b1.lt).trans b1
  rw [hl] at c1
  have ae:Row W (d+1) (w.heap.size+4) W.heap.size v (xs.map X.i):=(row.kept (λk _ k2=>hb.block k k2)).wider jC s1
  have a1:=grownBy_putObj' W D (.deferred none)
  have ac:Row (W.putObj D (.deferred none)) (d+1) (w.heap.size+4) (W.putObj D (.deferred none)).heap.size v (xs.map X.i):=ae.turn a1 (λr e=>by cases e;exact ⟨_,z,rfl⟩)
  have av:Below w.heap.size w (W.putObj D (.deferred none)):=(aj.trans (hb.mono (by omega))).grown a1 (by omega) (λk e=>by cases e;omega)
  obtain ⟨va,J,rfl⟩:∃va J,v=.slice va xs.length J:=by
   obtain ⟨_,_,_,q1,_⟩:=row
   have:=AP q1
   simpa using this
  have m0:=c0.cell
  have m1:=c1.cell
  have ar:=Im.qP Im.oq d
  have ay:s.data.toList.length<=f:=by rw [<-aV];exact a4
  have am:Hid _:=ac
  clear ae ac row
  by_cases hp:p < s.size
  ·have hp':(p:Int) < (s.size:Int):=by omega
   obtain rfl:R=none:=by
    rcases an with h|⟨_,h⟩
    ·omega
    ·exact HR.out.symm.trans (he.stuck ar f ay (by rw [<-aV];exact hp) h)
   gi_wp2
   refine ⟨by simp,.inl ⟨_,_,rfl,run_takeDeferred z,?_⟩⟩
   exact ⟨.tuple #[.slice none 0 0,.bool false],by simp [results,Tryz.results220,go_sem],rfl,av⟩
  ·have hp':¬(p:Int) < (s.size:Int):=by omega
   obtain rfl:R=some (xs.map X.i):=HR.out.symm.trans (he.all ar f ay (by rw [<-aV];omega))
   gi_wp2
   refine ⟨by simp,.inl ⟨_,_,rfl,run_takeDeferred z,?_⟩⟩
   refine ⟨.tuple #[.slice va xs.length J,.bool true],by simp [results,Tryz.results220,go_sem],⟨va,J,by simp,?_⟩,av⟩
   have:=Row.wider am.out (lo':=w.heap.size) (by omega) jC
   rw [aU]
   exact this
 case stop=>
  rintro D c E W0 W _ _ _ h _ _
  exact h.elim
end
section
open Go.RowKit Go.Joins Go.Shelf
attribute [local go_sem] Oper.semAt_some
theorem first_any (d:Nat) (hd:d=0\/∃d',d=d'+1/\FirstSaid d'):FirstSaid d:=by
 intro s I w hs a9 hH
 have h0:=hH.pos
 have hl:=aV s
 generalize hC:Im.read Im.body d s.data.toList=C
 have HC:Hid _:=hC
 have Hd:Hid _:=hd
 clear hC hd
 obtain ⟨X,hX⟩:∃X:World,X=w.alloc (.cells #[.bool false,.string ⟨#[]⟩,.slice none 0 0] 103):=⟨_,rfl⟩
 have a0:X.heap.size=w.heap.size+1:=by rw [hX];simp
 have aq:Below w.heap.size w X:=by rw [hX];exact (aB _ w).alloc jC _
 have aw:X.heap[w.heap.size]? =some (.cells #[.bool false,.string ⟨#[]⟩,.slice none 0 0] 103 (0,0)):=by rw [hX];exact heap_alloc_new _ _
 go_enter (fq Tryz.func206 rfl),Tryz.ntmps206
 go_wp2_with fail
 rw [<-hX]
 refine (Dk s X hs (hH.below aq h0)).mono ?_
 rintro e w1 ⟨rfl,ak⟩
 have ba:=ak.size
 have J:Below w.heap.size w w1:=aq.trans (ak.mono (by omega))
 have hz:w1.heap[w.heap.size]? =some (.cells #[.bool false,.string ⟨#[]⟩,.slice none 0 0] 103 (0,0)):=(ak.block _ (by omega)).trans aw
 have aa:∀o:Obj,(w1.alloc o).heap[w.heap.size]? =some (.cells #[.bool false,.string ⟨#[]⟩,.slice none 0 0] 103 (0,0)):=λo=>(aT _ _ _ (by omega)).trans hz
 have y0:∀o:Obj,(w1.alloc o).cell? ⟨w.heap.size,0,none⟩=some (.bool false):=λo=>by rw [aA (aa o)];rfl
 have y1:∀o:Obj,(w1.alloc o).cell? ⟨w.heap.size,1,none⟩=some (.string ⟨#[]⟩):=λo=>by rw [aA (aa o)];rfl
 have y2:∀o:Obj,(w1.alloc o).cell? ⟨w.heap.size,2,none⟩=some (.slice none 0 0):=λo=>by rw [aA (aa o)];rfl
 have fy:∀(o:Obj) (j:Nat),(w1.alloc o).frozen? ⟨w.heap.size,j,none⟩=false:=λo j=>aI (aa o) j
 have a8:w.heap.size≠w1.heap.size:=by omega
 have az:=hH.below J h0
 have HX:Hid _:=jB ak (jB a0 (jB aq aw))
 clear hX ak a0 aq aw
 cases hR:Im.body s.data.toList with
 |none=>
  obtain rfl:C=none:=HC.out.symm.trans (Im.uh hR)
  simp only [uD]
  go_wp2_with fail
  exact bodyPost_ret (v:=.tuple #[.agg #[.bool false,.string ⟨#[]⟩,.slice none 0 0],.int .i64 0,.bool false]) (by simp [results,Tryz.results206,go_sem,y0,y1,y2]) rfl ⟨rfl,(((J.alloc J.size _).setCell (by simp) _).setCell (by simp) _).setCell (by simp) _⟩
 |some R=>
  obtain ⟨l,f,t⟩:=R
  obtain ⟨bg,a5,bb,bd⟩:=Im.oq _ _ _ _ hR
  rw [<-hl] at a5
  clear hl
  simp only [uD]
  have a7:(f:Int)<=(t:Int):=by omega
  have a6:(t:Int)<=(s.size:Int):=by omega
  cases l with
  |false=>
   obtain rfl:=HC.out.symm.trans (Im.Ap hR)
   clear hR
   go_wp2_with fail
   obtain ⟨Y,hY⟩:∃Y:World,Y=w1.alloc (.cells #[.bool false,.int .i64 f,.int .i64 t] 311):=⟨_,rfl⟩
   rw [<-hY]
   have a2:Y.heap.size=w1.heap.size+1:=by rw [hY];simp
   have ao:Below w.heap.size w Y:=by rw [hY];exact J.alloc J.size _
   have ac:Y.heap[w.heap.size]? =some (.cells #[.bool false,.string ⟨#[]⟩,.slice none 0 0] 103 (0,0)):=by rw [hY];exact aa _
   have af:Y.heap[w1.heap.size]? =some (.cells #[.bool false,.int .i64 f,.int .i64 t] 311 (0,0)):=by rw [hY];exact heap_alloc_new _ _
   have av:w.heap.size < Y.heap.size:=(jE ac)
   have c2:Y.cell? ⟨w1.heap.size,2,none⟩=some (.int .i64 t):=jF af rfl
   clear hY
   have HY:Hid _:=jB ac af
   have Hz:Hid _:=jB y0 (jB y1 (jB y2 (jB fy aa)))
   clear ac af y0 y1 y2 fy aa hz
   have am:(s.extract f t).size<=16777216:=by simp;omega
   have ah:(⟨((s.data.toList.take t).drop f).toArray⟩:ByteArray)=s.extract f t:=by
    rw [<-ext_list]
   obtain ⟨TX,ai⟩:∃TX:ByteArray,s.extract f t=TX:=⟨_,rfl⟩
   rw [ai] at am ah
   rw [ai]
   have z:∀U:World,Below Y.heap.size Y U->Calls PQ 151 #[.string TX] U λe w3=>e=.returned (.string TX)/\w3.cell? ⟨w1.heap.size,2,none⟩=some (.int .i64 t)/\w3.cell? ⟨w.heap.size,0,none⟩=some (.bool false)/\w3.cell? ⟨w.heap.size,1,none⟩=some (.string ⟨#[]⟩)/\w3.cell? ⟨w.heap.size,2,none⟩=some (.slice none 0 0)/\(∀j,w3.frozen? ⟨w.heap.size,j,none⟩=false)/\Below w.heap.size w w3:=by
    intro U hU
    refine (clone_any TX U am).mono ?_
    rintro e w3 ⟨rfl,ag⟩
    have au:Below Y.heap.size Y w3:=hU.trans (ag.mono hU.size)
    have ap:=(au.block w1.heap.size (by omega)).trans HY.out.2
    have E:=(au.block w.heap.size av).trans HY.out.1
    exact ⟨rfl,by rw [aA ap];rfl,by rw [aA E];rfl,by rw [aA E];rfl,by rw [aA E];rfl,aI E,ao.trans (au.mono ao.size)⟩
   have ab:Hid _:=z
   clear z
   go_region_with (go_at_call 151;refine (ab.out _ ?_).mono ?_;(first|exact aB _ _|exact (aB _ _).drew|exact below_drewN (aB _ _) _);rintro e w3 ⟨rfl,x2,z0,z1,z2,fz,ae⟩)
   all_goals
    go_wp2_with fail
    refine bodyPost_ret (v:=.tuple #[.agg #[.bool false,.string TX,.slice none 0 0],.int .i64 t,.bool true]) (by simp [results,Tryz.results206,go_sem,z0,z1,z2]) rfl ⟨⟨none,0,by simp only [ah];rfl,?_⟩,?_⟩
    ·exact Tr.Rl (i:=⟨false,(s.data.toList.take t).drop f,[]⟩) (Row.none _ _ _ _)
    ·first
      |exact ((ae.setCell (by simp) _).setCell (by simp) _).setCell (by simp) _
      |exact below_drewN (((ae.setCell (by simp) _).setCell (by simp) _).setCell (by simp) _) _
  |true=>
   have am:(s.extract f t).size<=16777216:=by simp;omega
   obtain ⟨TX,ai⟩:∃TX:ByteArray,s.extract f t=TX:=⟨_,rfl⟩
   have ah:TX.data.toList=(s.data.toList.take t).drop f:=by rw [<-ai,ext_list]
   rcases Hd.out with rfl|⟨d',rfl,hf⟩
   ·obtain rfl:=HC.out.symm.trans (Im.zH hR)
    have a3:(8:Int) < (I:Int):=by omega
    clear hR ah
    go_wp2_with fail
    exact bodyPost_ret (v:=.tuple #[.agg #[.bool false,.string ⟨#[]⟩,.slice none 0 0],.int .i64 0,.bool false]) (by simp [results,Tryz.results206,go_sem,y0,y1,y2]) rfl ⟨rfl,(((J.alloc J.size _).setCell (by simp) _).setCell (by simp) _).setCell (by simp) _⟩
   ·have an:C=_:=HC.out.symm.trans (Im.Ei hR)
    rw [<-ah] at an
    have a3:¬(8:Int) < (I:Int):=by omega
    have z:∀U:World,Below w1.heap.size w1 U->Calls PQ 220 #[.string TX,.int .i64 ((I:Int)+1)] U λe w3=>Rx (d'+1) U.heap.size w3 e (Im.many (Im.read Im.body d') s.data.toList.length TX.data.toList)/\Below U.heap.size U w3:=by
     intro U hU
     have:=Oz d' hf TX (I+1) s.data.toList.length U (by rw [<-ai];exact am) (by omega) (by rw [<-ai,<-aV];simp;omega) (az.below hU az.pos)
     rw [show ((I+1:Nat):Int)=(I:Int)+1 from by omega] at this
     exact this
    generalize hM:Im.many (Im.read Im.body d') s.data.toList.length TX.data.toList=M at z an
    have ab:Hid _:=z
    have a1:Hid _:=an
    clear z hR hM HC an ah
    obtain ⟨Y,hY⟩:∃Y:World,Y=w1.alloc (.cells #[.bool true,.int .i64 f,.int .i64 t] 311):=⟨_,rfl⟩
    have a2:Y.heap.size=w1.heap.size+1:=by rw [hY];simp
    have a4:Below w1.heap.size w1 Y:=by rw [hY];exact (aB _ _).alloc jC _
    have ao:Below w.heap.size w Y:=by rw [hY];exact J.alloc J.size _
    have ac:Y.heap[w.heap.size]? =some (.cells #[.bool false,.string ⟨#[]⟩,.slice none 0 0] 103 (0,0)):=by rw [hY];exact aa _
    have af:Y.heap[w1.heap.size]? =some (.cells #[.bool true,.int .i64 f,.int .i64 t] 311 (0,0)):=by rw [hY];exact heap_alloc_new _ _
    have av:w.heap.size < Y.heap.size:=(jE ac)
    have HY:Hid _:=jB ac af
    clear ac af
    go_wp2_with fail
    rw [<-hY]
    clear hY
    refine (ab.out Y a4).mono ?_
    rintro e w3 ⟨ay,ag⟩
    have s3:=ag.size
    have ae:Below w.heap.size w w3:=ao.trans (ag.mono (by omega))
    have ap:=(ag.block w1.heap.size (by omega)).trans HY.out.2
    have E:=(ag.block w.heap.size av).trans HY.out.1
    have x2:w3.cell? ⟨w1.heap.size,2,none⟩=some (.int .i64 t):=jF ap rfl
    have z0:w3.cell? ⟨w.heap.size,0,none⟩=some (.bool false):=jF E rfl
    have z1:w3.cell? ⟨w.heap.size,1,none⟩=some (.string ⟨#[]⟩):=jF E rfl
    have z2:w3.cell? ⟨w.heap.size,2,none⟩=some (.slice none 0 0):=jF E rfl
    have fz:=aI E
    clear ap E y0 y1 y2 fy aa hz
    cases M with
    |none=>
     obtain rfl:C=none:=a1.out
     obtain rfl:=ay
     go_wp2_with fail
     exact bodyPost_ret (v:=.tuple #[.agg #[.bool false,.string ⟨#[]⟩,.slice none 0 0],.int .i64 0,.bool false]) (by simp [results,Tryz.results206,go_sem,z0,z1,z2]) rfl ⟨rfl,((ae.setCell (by simp) _).setCell (by simp) _).setCell (by simp) _⟩
    |some ks=>
     obtain rfl:C=some (⟨true,[],ks⟩,t):=a1.out
     obtain ⟨ka,aj,rfl,ar⟩:=ay
     have ax:Hid _:=ar
     clear ar
     go_wp2_with fail
     go_region
     all_goals
      go_wp2_with fail
      refine bodyPost_ret (v:=.tuple #[.agg #[.bool true,.string ⟨#[]⟩,.slice ka ks.length aj],.int .i64 t,.bool true]) (by simp [results,Tryz.results206,go_sem,z0,z1,z2]) rfl ⟨⟨ka,aj,rfl,?_⟩,?_⟩
      ·have r1:=Row.wider (lo':=w.heap.size+1) ax.out (by omega) jC
       have r2:=Row.wider (lo':=w.heap.size) (Row.kept (w':=((w3.setCell ⟨w.heap.size,0,none⟩ (.bool true)).setCell ⟨w.heap.size,1,none⟩ (.string ⟨#[]⟩)).setCell ⟨w.heap.size,2,none⟩ (.slice ka ks.length aj)) r1 (λk k1 _=>by rw [aP _ _ _ _ (by simp;omega),aP _ _ _ _ (by simp;omega),aP _ _ _ _ (by simp;omega)])) (by omega) jC
       exact Tr.Rl (i:=⟨true,[],ks⟩) (Row.wider (Row.kept r2 (λ_ _ _=>rfl)) jC (by simp [World.setCell]))
      ·first
        |exact ((ae.setCell (by simp) _).setCell (by simp) _).setCell (by simp) _
        |exact (((ae.drew.setCell (by simp) _).setCell (by simp) _).setCell (by simp) _)
        |exact below_drewN (((ae.setCell (by simp) _).setCell (by simp) _).setCell (by simp) _) _
end
section
open Go.RowKit Go.Joins Go.Shelf
attribute [local go_sem] Oper.semAt_some
variable {g:List UInt8->Option (Im.It×Nat)} {s:List UInt8}
theorem wX:∀d:Nat,FirstSaid d
 |0=>first_any 0 (.inl rfl)
 |d+1=>first_any (d+1) (.inr ⟨d,rfl,wX d⟩)
theorem Si (s:ByteArray) (w:World):
  Calls PQ 120 #[.string s] w λe w'=>e=.returned (.func (.func 205) #[] #[.pointer (some ⟨w.heap.size,0,none⟩),.pointer (some ⟨w.heap.size+1,0,none⟩)])/\w'=(w.alloc (.cells #[.string s] 9)).alloc (.cells #[.int .i64 1] 3):=by
 go_enter (fq Tryz.func120 rfl),Tryz.ntmps120
 go_wp2_with fail
 refine (Ak s 1 _).mono ?_
 rintro e w1 ⟨rfl,rfl⟩
 go_wp2_with fail
 go_ret
 exact ⟨rfl,rfl⟩
def FB (n lo:Nat) (w':World) (e:Ending):Option Im.It->Prop
 |none=>e=.returned (.tuple #[.agg #[.bool false,.string ⟨#[]⟩,.slice none 0 0],.int .i64 4])
 |some i=>∃a cap,e=.returned (.tuple #[.agg #[.bool i.list,.string ⟨i.bytes.toArray⟩,.slice a i.kids.length cap],.int .i64 0])/\Tr w' n lo w'.heap.size (.bool i.list) (.string ⟨i.bytes.toArray⟩) (.slice a i.kids.length cap) i
theorem uV {w:World} {b:Nat} {I J E:Value} {t:TypeId} (h:w.heap[b]? =some (.cells #[I,J,E] t (0,0))) (x y z:Value):(((w.setCell ⟨b,0,none⟩ x).setCell ⟨b,1,none⟩ y).setCell ⟨b,2,none⟩ z).heap[b]? =some (.cells #[x,y,z] t (0,0)):=by
 have:=block_setCell (block_setCell (block_setCell h (i:=0) x) (i:=1) y) (i:=2) z
 simpa using this
theorem Im.mJ.zero {p:Nat} (h:Im.mJ g s [] p):p=0:=by
 generalize z:([]:List Im.It)=l at h
 cases h with
 |nil=>rfl
 |snoc=>simp at z
theorem Im.mJ.one {i:Im.It} {p:Nat} (h:Im.mJ g s [i] p):g s=some (i,p):=by
 generalize z:[i]=l at h
 cases h with
 |nil=>simp at z
 |@snoc l0 p0 i0 n0 h hp hg=>
  have e:=z.symm
  rw [List.append_eq_singleton_iff] at e
  rcases e with ⟨rfl,e⟩|⟨_,e⟩
  ·simp at e
   subst e
   obtain rfl:=h.zero
   simpa using hg
  ·simp at e
def DI (s:ByteArray) (z:Nat) (w:World) (E:List X) (W:World):Prop:=
 E=[]/\Boxed W z 9 (.string s)/\W.heap[z+1]? =some (.cells #[.bool false,.string ⟨#[]⟩,.slice none 0 0] 103 (0,0))/\Boxed W (z+2) 36 (.int .i64 0)/\Below z w W/\z+5<=W.heap.size
def DX (s:ByteArray) (z:Nat) (w:World) (c:Code) (E:List X) (W:World):Prop:=
 (c=.exit 0/\∃x,E=[x]/\x.e < s.size/\DI s z w [] W)\/
 (c=.ret/\∃x,E=[x]/\s.size<=x.e/\W.heap[z+1]? =some (.cells #[.bool x.i.list,.string ⟨x.i.bytes.toArray⟩,.slice x.a x.i.kids.length x.cap] 103 (0,0))/\Boxed W (z+2) 36 (.int .i64 0)/\Below z w W/\z+5<=W.heap.size/\Tr W 9 (z+5) W.heap.size (.bool x.i.list) (.string ⟨x.i.bytes.toArray⟩) (.slice x.a x.i.kids.length x.cap) x.i)
theorem cells_kept {A B:World} {row:Option Nat} (I:A.grownBy B row) {n:Nat} (E:∀r,row=some r->n<=r/\∃o:Obj,A.heap[r]? =some o/\o.isCells=false) {k:Nat} {o:Obj} (hk:A.heap[k]? =some o) (z:o.isCells=true):B.heap[k]? =some o:=
 kN I (λr e=>(E r e).2) k o hk z
theorem DI.own (s:ByteArray) (I:Nat) (w:World):OwnFrom (I+5) (DI s I w):=by
 rintro J A B row ⟨rfl,R,h2,h3,h4,Y⟩ z E
 exact ⟨rfl,cells_kept z E R rfl,cells_kept z E h2 rfl,cells_kept z E h3 rfl,h4.grown z (by omega) (λk e=>by have:=(E k e).1;omega),by have:=z.size;omega⟩
theorem DX.own (s:ByteArray) (I:Nat) (w:World) (c:Code):OwnFrom (I+5) (DX s I w c):=by
 rintro aa A B row (⟨R,x,rfl,J,Y⟩|⟨R,x,rfl,J,h2,h3,h4,h5,h6⟩) z E
 ·exact .inl ⟨R,x,rfl,J,DI.own s I w _ _ _ _ Y z E⟩
 ·exact .inr ⟨R,x,rfl,J,cells_kept z E h2 rfl,cells_kept z E h3 rfl,h4.grown z (by omega) (λk e=>by have:=(E k e).1;omega),by have:=z.size;omega,h6.turn z (λr e=>(E r e).2)⟩
theorem decode_any (s:ByteArray) (w:World) (hs:s.size<=16777216) (hH:kU w):
  Calls PQ 175 #[.string s] w λe w'=>FB 9 w.heap.size w' e (Im.dec s.data.toList)/\Below w.heap.size w w':=by
 have h0:=hH.pos
 generalize hR:Im.dec s.data.toList=R
 have HR:Hid _:=hR
 clear hR
 refine callsIn_wide.1 (callsIn_of_wp_marks (n:=3) (fq Tryz.func175 rfl) rfl trivial ?_ rfl)
 simp only [Tryz.ntmps175,dL,aN,bM,Nat.reduceAdd,Nat.reduceSub,cO,bZ,dN,cZ,dM,dH]
 gi_wp2
 refine ⟨trivial,?_⟩
 refine (callsIn_wide.2 (Si s _)).mono ?_
 rintro e w' ⟨rfl,rfl⟩
 gi_wp2
 obtain ⟨V,hV⟩:∃V:World,V=(((((w.alloc (Obj.cells #[Value.string s] 9)).alloc (Obj.cells #[.bool false,.string ⟨#[]⟩,.slice none 0 0] 103)).alloc (Obj.cells #[Value.int IntKind.i64 0] 36)).alloc (Obj.cells #[Value.string s] 9)).alloc (Obj.cells #[Value.int IntKind.i64 1] 3)):=⟨_,rfl⟩
 rw [<-hV]
 have ai:V.heap.size=w.heap.size+5:=by rw [hV];simp
 have aj:Below w.heap.size w V:=by rw [hV];exact (((((aB _ w).alloc jC _).alloc (by simp) _).alloc (by simp;omega) _).alloc (by simp;omega) _).alloc (by simp;omega) _
 have I:∀(a b c d e:Obj) (k:Nat),((((((w.alloc a).alloc b).alloc c).alloc d).alloc e).heap[k]?)=if k=w.heap.size+4 then some e else if k=w.heap.size+3 then some d else if k=w.heap.size+2 then some c else if k=w.heap.size+1 then some b else if k=w.heap.size then some a else w.heap[k]?:=by
  intro a b c d e k
  simp only [World.alloc,gY,Array.size_push]
 have v0:Boxed V w.heap.size 9 (.string s):=by unfold Boxed;rw [hV,I];simp
 have v1:V.heap[w.heap.size+1]? =some (.cells #[.bool false,.string ⟨#[]⟩,.slice none 0 0] 103 (0,0)):=by rw [hV,I];simp
 have v2:Boxed V (w.heap.size+2) 36 (.int .i64 0):=by unfold Boxed;rw [hV,I];simp
 have v3:V.cell? ⟨w.heap.size+1+1+1,0,none⟩=some (.string s):=by
  have:Boxed V (w.heap.size+3) 9 (.string s):=by unfold Boxed;rw [hV,I];simp
  exact this.cell
 have v4:V.cell? ⟨w.heap.size+1+1+1+1,0,none⟩=some (.int .i64 (1:Nat)):=by
  have:Boxed V (w.heap.size+4) 3 (.int .i64 1):=by unfold Boxed;rw [hV,I];simp
  exact this.cell
 clear hV I
 refine yN (gf:=205) (lb:=#[.pointer (some ⟨w.heap.size+1+1+1,0,none⟩),.pointer (some ⟨w.heap.size+1+1+1+1,0,none⟩)]) rfl (enters_of (fq Tryz.func205 rfl) (by kernel_rfl) rfl)
  (BQ 8 (wX 8) s 1 (w.heap.size+1+1+1) (w.heap.size+1+1+1+1) V hs rfl (hH.below aj h0) (by omega) v3 v4 (by omega) (by omega)) (aB _ _) (by intro k hk;omega) (XY.turn 9) (λ_=>rfl)
  (DI s w.heap.size w) (DX s w.heap.size w) (by rw [ai];exact DI.own s w.heap.size w) (by rw [ai];exact DX.own s w.heap.size w)
  ⟨rfl,v0,v1,v2,aj,by omega⟩
  (λx B=>{ tmps:=#[.string s,.pointer (some ⟨w.heap.size,0,none⟩),.pointer (some ⟨w.heap.size+1,0,none⟩),.pointer (some ⟨w.heap.size+1+1,0,none⟩),.int .i64 x.e,.pointer (some ⟨B,0,none⟩),.string s,.func (.func 205) #[] #[.pointer (some ⟨w.heap.size+1+1+1,0,none⟩),.pointer (some ⟨w.heap.size+1+1+1+1,0,none⟩)],.int .i64 x.e,.agg #[.bool x.i.list,.string ⟨x.i.bytes.toArray⟩,.slice x.a x.i.kids.length x.cap],undef,undef,undef,undef,undef,undef],defers:=[] })
  (λx=>.cells #[.bool x.i.list,.string ⟨x.i.bytes.toArray⟩,.slice x.a x.i.kids.length x.cap] 103) ?assign ?body ?done ?stop
 case assign=>
  intro l x W K hK
  simp only [X.encs]
  gi_wp2
  exact hK
 case body=>
  rintro l ao x W0 W1 ar ⟨rfl,b0,b1,b2,aa,ae⟩ Y ⟨au,ht⟩
  have s1:=Y.size
  obtain ⟨IB,ah⟩:∃IB:ByteArray,(⟨x.i.bytes.toArray⟩:ByteArray)=IB:=⟨_,rfl⟩
  obtain ⟨G,hG⟩:∃G:World,G=W1.alloc (.cells #[.bool x.i.list,.string ⟨x.i.bytes.toArray⟩,.slice x.a x.i.kids.length x.cap] 103):=⟨_,rfl⟩
  rw [<-hG]
  have gs:G.heap.size=W1.heap.size+1:=by rw [hG];simp
  have gb:Below W1.heap.size W1 G:=by rw [hG];exact (aB _ _).alloc jC _
  have ac:Below W0.heap.size W0 G:=Y.trans (gb.mono s1)
  obtain ⟨k0,k1,k2⟩:K3 G W1.heap.size 0 (.bool x.i.list) (.string ⟨x.i.bytes.toArray⟩) (.slice x.a x.i.kids.length x.cap):=by rw [hG];exact K3.Fe _ _ _ _ _
  rw [fC] at k1 k2
  clear hG
  have c0:Boxed G w.heap.size 9 (.string s):=(ac.block _ b0.lt).trans b0
  have E:=(ac.block (w.heap.size+1) (by omega)).trans b1
  have J:Boxed G (w.heap.size+1+1) 36 (.int .i64 0):=(ac.block _ b2.lt).trans b2
  have m0:=c0.cell
  have m2:=J.cell
  have n2:=J.frozen
  have z0:G.cell? ⟨w.heap.size+1,0,none⟩=some (.bool false):=jF E rfl
  have z1:G.cell? ⟨w.heap.size+1,1,none⟩=some (.string ⟨#[]⟩):=jF E rfl
  have z2:G.cell? ⟨w.heap.size+1,2,none⟩=some (.slice none 0 0):=jF E rfl
  have fz:=aI E
  have bG:Below w.heap.size w G:=aa.trans (ac.mono (by omega))
  have tG:Tr G 9 (w.heap.size+5) G.heap.size (.bool x.i.list) (.string ⟨x.i.bytes.toArray⟩) (.slice x.a x.i.kids.length x.cap) x.i:=(Tr.kept 9 _ _ _ _ _ _ (λk _ k2=>gb.block k k2) ht).wider (by omega) (by omega)
  have HT:Hid _:=jB tG ht
  have HG:Hid _:=jB c0 (jB E (jB J bG))
  clear tG ht c0 E J bG b0 b1 b2
  rw [ah] at k1⊢
  by_cases he:x.e < s.size
  ·have am:(x.e:Int) < (s.size:Int):=by omega
   gi_wp2
   obtain ⟨c0,E,J,bG⟩:=HG.out
   exact ⟨KeepsFrom.refl _ _,.inl ⟨rfl,x,rfl,he,rfl,c0,E,J,bG,by omega⟩⟩
  ·have am:¬(x.e:Int) < (s.size:Int):=by omega
   gi_wp2
   obtain ⟨c0,E,J,bG⟩:=HG.out
   have tG:=HT.out.1
   rw [<-ah]
   refine ⟨KeepsOthers.from ((((KeepsOthers.setCell _ _ _).trans (KeepsOthers.setCell _ _ _)).trans (KeepsOthers.setCell _ _ _)).trans (KeepsOthers.setCell _ _ _)) _,.inr ⟨rfl,x,rfl,by omega,?_,?_,?_,by simp [World.setCell];omega,?_⟩⟩
   ·rw [aP _ _ _ _ (by simp)]
    exact uV E _ _ _
   ·exact Boxed.set _ (kW (kW (kW J _ _ (by simp)) _ _ (by simp)) _ _ (by simp))
   ·exact (((bG.setCell (by simp) _).setCell (by simp) _).setCell (by simp) _).setCell (by simp;omega) _
   ·refine Tr.wider (Tr.kept 9 _ _ _ _ _ _ (λk k1 _=>?_) tG) jC (by simp [World.setCell])
    rw [aP _ _ _ _ (by simp;omega),aP _ _ _ _ (by simp;omega),aP _ _ _ _ (by simp;omega),aP _ _ _ _ (by simp;omega)]
 case done=>
  rintro D xs W0 W hD an ⟨p,he,hl,af⟩ ⟨rfl,b0,b1,b2,aa,ae⟩ Y hK
  obtain rfl:=Im.mJ.zero he
  obtain rfl:R=none:=by
   refine HR.out.symm.trans ?_
   have:Im.read Im.body 8 s.data.toList=none:=by
    rcases af with h|⟨_,h⟩
    ·have:s.data.toList=[]:=bD (by rw [<-aV];omega)
     rw [this]
     exact Im.uh rfl
    ·simpa using h
   unfold Im.dec
   rw [this]
  have s1:=Y.size
  have E:=(Y.block (w.heap.size+1) (by omega)).trans b1
  have J:Boxed W (w.heap.size+1+1) 36 (.int .i64 0):=(Y.block _ b2.lt).trans b2
  have m2:=J.cell
  have n2:=J.frozen
  have z0:W.cell? ⟨w.heap.size+1,0,none⟩=some (.bool false):=jF E rfl
  have z1:W.cell? ⟨w.heap.size+1,1,none⟩=some (.string ⟨#[]⟩):=jF E rfl
  have z2:W.cell? ⟨w.heap.size+1,2,none⟩=some (.slice none 0 0):=jF E rfl
  have fz:=aI E
  have bW:Below w.heap.size w W:=aa.trans (Y.mono (by omega))
  gi_wp2
  have z:D≠w.heap.size+1/\D≠w.heap.size+1+1:=by omega
  obtain ⟨F,hF⟩:∃F:World,F=(((W.setCell ⟨w.heap.size+1,0,none⟩ (.bool false)).setCell ⟨w.heap.size+1,1,none⟩ (.string ⟨#[]⟩)).setCell ⟨w.heap.size+1,2,none⟩ (.slice none 0 0)).setCell ⟨w.heap.size+1+1,0,none⟩ (.int .i64 4):=⟨_,rfl⟩
  rw [<-hF]
  have ab:F.heap[D]? =some (.deferred (some [])):=by rw [hF,aP _ _ _ _ z.2,aP _ _ _ _ z.1,aP _ _ _ _ z.1,aP _ _ _ _ z.1];exact hK
  have f1:F.heap[w.heap.size+1]? =some (.cells #[.bool false,.string ⟨#[]⟩,.slice none 0 0] 103 (0,0)):=by rw [hF,aP _ _ _ _ (by simp)];exact uV E _ _ _
  have f2:Boxed F (w.heap.size+1+1) 36 (.int .i64 4):=by rw [hF];exact Boxed.set _ (kW (kW (kW J _ _ (by simp)) _ _ (by simp)) _ _ (by simp))
  have bF:Below w.heap.size w F:=by rw [hF];exact (((bW.setCell (by simp) _).setCell (by simp) _).setCell (by simp) _).setCell (by simp;omega) _
  have ap:=bF.size
  have aq:D < F.heap.size:=(jE ab)
  clear hF
  have g1:(F.putObj D (.deferred none)).heap[w.heap.size+1]? =_:=(World.putObj_heap_other (Ne.symm z.1)).trans f1
  have g2:(F.putObj D (.deferred none)).heap[w.heap.size+1+1]? =_:=(World.putObj_heap_other (Ne.symm z.2)).trans f2
  refine ⟨by simp,.inl ⟨_,_,rfl,run_takeDeferred ab,?_⟩⟩
  exact ⟨.tuple #[.agg #[.bool false,.string ⟨#[]⟩,.slice none 0 0],.int .i64 4],by simp [results,Tryz.results175,go_sem,aA g1,aA g2],rfl,bF.grown (grownBy_putObj' F D _) (by omega) (λk e=>by cases e;omega)⟩
 case stop=>
  rintro D c ao W0 W hD an ⟨p,he,hl⟩ (⟨rfl,x,rfl,hx,_,b0,b1,b2,aa,ae⟩|⟨rfl,x,rfl,hx,b1,b2,aa,ae,ht⟩) Y hK
  ·have hr:=Im.mJ.one he
   have ag:p=x.e:=hl.symm.trans (ny [] x)
   subst ag
   obtain rfl:R=none:=by
    refine HR.out.symm.trans ?_
    unfold Im.dec
    rw [hr]
    simp only
    rw [if_neg (by rw [<-aV];omega)]
   have s1:=Y.size
   have E:=(Y.block (w.heap.size+1) (by omega)).trans b1
   have J:Boxed W (w.heap.size+1+1) 36 (.int .i64 0):=(Y.block _ b2.lt).trans b2
   have m2:=J.cell
   have n2:=J.frozen
   have z0:W.cell? ⟨w.heap.size+1,0,none⟩=some (.bool false):=jF E rfl
   have z1:W.cell? ⟨w.heap.size+1,1,none⟩=some (.string ⟨#[]⟩):=jF E rfl
   have z2:W.cell? ⟨w.heap.size+1,2,none⟩=some (.slice none 0 0):=jF E rfl
   have fz:=aI E
   have bW:Below w.heap.size w W:=aa.trans (Y.mono (by omega))
   gi_wp2
   have z:D≠w.heap.size+1/\D≠w.heap.size+1+1:=by omega
   obtain ⟨F,hF⟩:∃F:World,F=(((W.setCell ⟨w.heap.size+1,0,none⟩ (.bool false)).setCell ⟨w.heap.size+1,1,none⟩ (.string ⟨#[]⟩)).setCell ⟨w.heap.size+1,2,none⟩ (.slice none 0 0)).setCell ⟨w.heap.size+1+1,0,none⟩ (.int .i64 4):=⟨_,rfl⟩
   rw [<-hF]
   have ab:F.heap[D]? =some (.deferred (some [])):=by rw [hF,aP _ _ _ _ z.2,aP _ _ _ _ z.1,aP _ _ _ _ z.1,aP _ _ _ _ z.1];exact hK
   have f1:F.heap[w.heap.size+1]? =some (.cells #[.bool false,.string ⟨#[]⟩,.slice none 0 0] 103 (0,0)):=by rw [hF,aP _ _ _ _ (by simp)];exact uV E _ _ _
   have f2:Boxed F (w.heap.size+1+1) 36 (.int .i64 4):=by rw [hF];exact Boxed.set _ (kW (kW (kW J _ _ (by simp)) _ _ (by simp)) _ _ (by simp))
   have bF:Below w.heap.size w F:=by rw [hF];exact (((bW.setCell (by simp) _).setCell (by simp) _).setCell (by simp) _).setCell (by simp;omega) _
   have ap:=bF.size
   have aq:D < F.heap.size:=(jE ab)
   clear hF
   have g1:(F.putObj D (.deferred none)).heap[w.heap.size+1]? =_:=(World.putObj_heap_other (Ne.symm z.1)).trans f1
   have g2:(F.putObj D (.deferred none)).heap[w.heap.size+1+1]? =_:=(World.putObj_heap_other (Ne.symm z.2)).trans f2
   refine ⟨by simp,.inl ⟨_,_,rfl,run_takeDeferred ab,?_⟩⟩
   exact ⟨.tuple #[.agg #[.bool false,.string ⟨#[]⟩,.slice none 0 0],.int .i64 4],by simp [results,Tryz.results175,go_sem,aA g1,aA g2],rfl,bF.grown (grownBy_putObj' F D _) (by omega) (λk e=>by cases e;omega)⟩
  ·have hr:=Im.mJ.one he
   have ag:p=x.e:=hl.symm.trans (ny [] x)
   subst ag
   obtain rfl:R=some x.i:=by
    refine HR.out.symm.trans ?_
    unfold Im.dec
    rw [hr]
    simp only
    have:=(Im.qP Im.oq 8 _ _ _ hr).2
    rw [if_pos (by rw [<-aV] at this⊢;omega)]
   have s1:=Y.size
   gi_wp2
   have z:D≠w.heap.size+1/\D≠w.heap.size+1+1:=by omega
   have E:=(Y.block (w.heap.size+1) (by omega)).trans b1
   have J:Boxed W (w.heap.size+1+1) 36 (.int .i64 0):=(Y.block _ b2.lt).trans b2
   have bW:Below w.heap.size w W:=aa.trans (Y.mono (by omega))
   have g1:(W.putObj D (.deferred none)).heap[w.heap.size+1]? =_:=(World.putObj_heap_other (Ne.symm z.1)).trans E
   have g2:(W.putObj D (.deferred none)).heap[w.heap.size+1+1]? =_:=(World.putObj_heap_other (Ne.symm z.2)).trans J
   have ak:=grownBy_putObj' W D (.deferred none)
   have tW:Tr W 9 (w.heap.size+5) W.heap.size (.bool x.i.list) (.string ⟨x.i.bytes.toArray⟩) (.slice x.a x.i.kids.length x.cap) x.i:=(Tr.kept 9 _ _ _ _ _ _ (λk _ k2=>Y.block k k2) ht).wider jC s1
   have tF:=Tr.wider (lo':=w.heap.size) (Tr.turn tW ak (λr e=>by cases e;exact ⟨_,hK,rfl⟩)) (by omega) jC
   have Ht:Hid _:=tF
   clear tF tW ht
   refine ⟨by simp,.inl ⟨_,_,rfl,run_takeDeferred hK,?_⟩⟩
   exact ⟨.tuple #[.agg #[.bool x.i.list,.string ⟨x.i.bytes.toArray⟩,.slice x.a x.i.kids.length x.cap],.int .i64 0],by simp [results,Tryz.results175,go_sem,aA g1,aA g2],⟨x.a,x.cap,rfl,Ht.out⟩,bW.grown ak (by omega) (λk e=>by cases e;omega)⟩
end
namespace Hm
open Go.RowKit Go.Joins Go.Shelf
theorem Ai:(PQ.info? 9).map (λi=>(i.zero,i.size,i.bytes))=some (some (.string ⟨#[]⟩),1,16):=by kernel_rfl
def strs (i:Im.It):Option (List (List UInt8)):=if i.list&&i.kids.all (λt=>!t.list) then some (i.kids.map (·.bytes)) else none
def Made (w:World) (lo:Nat) (v:Value) (l:List (List UInt8)):Prop:=Row w 9 1 v l.length (l.map nT)/\∀g,v.ownBlock=some g->lo<=g
def Strs (w:World) (lo:Nat) (e:Ending):Option (List (List UInt8))->Prop
 |none=>e=.returned (.tuple #[.slice none 0 0,.bool false])
 |some l=>∃a cap,e=.returned (.tuple #[.slice a l.length cap,.bool true])/\Made w lo (.slice a l.length cap) l
theorem In.kid {B:Nat} {w:World} {n:Nat} {c0 c1 J:Value} {i:Im.It} (h:In B w (n+1) c0 c1 J i) (hk:i.kids≠[]):∃g off cap,J=.slice (some ⟨g,off,none⟩) i.kids.length cap/\g < B/\∀(j:Nat) (R:j < i.kids.length),∃z,K3 w g (off+j * 3) (.bool i.kids[j].list) (.string ⟨i.kids[j].bytes.toArray⟩) z/\In B w n (.bool i.kids[j].list) (.string ⟨i.kids[j].bytes.toArray⟩) z i.kids[j]:=by
 obtain ⟨_,_,a,cap,rfl,hx⟩:=h
 obtain ⟨g,off,rfl,hg,R⟩:=hx hk
 refine ⟨g,off,cap,rfl,hg,λj E=>?_⟩
 obtain ⟨d0,d1,z,h1,h2⟩:=R j E
 obtain ⟨a',I,Y,e1,e2⟩:=h2.shape
 subst Y e1
 exact ⟨z,h1,h2⟩
theorem uF (n B:Nat) (i:Im.It) (c2:Value) (w:World) (hB:B<=w.heap.size) (h:In B w (n+2) (.bool i.list) (.string ⟨i.bytes.toArray⟩) c2 i) (hl:i.kids.length<=4294967296):Calls PQ 177 #[.agg #[.bool i.list,.string ⟨i.bytes.toArray⟩,c2]] w λe w'=>Strs w' w.heap.size e (strs i)/\Below w.heap.size w w':=by
 obtain ⟨a,cap,_,_,rfl⟩:=h.shape
 obtain ⟨D,hD⟩:∃D:ByteArray,(⟨i.bytes.toArray⟩:ByteArray)=D:=⟨_,rfl⟩
 obtain ⟨W,hW⟩:∃W,W=w.alloc (.cells #[.bool i.list,.string D,.slice a i.kids.length cap] 103):=⟨_,rfl⟩
 have ag:Below w.heap.size w W:=by rw [hW];exact (aB _ w).alloc jC _
 have z0:W.cell? ⟨w.heap.size,0,none⟩=some (.bool i.list):=by rw [hW];simp
 have z2:W.cell? ⟨w.heap.size,2,none⟩=some (.slice a i.kids.length cap):=by rw [hW];simp
 obtain ⟨R,hR⟩:∃R,strs i=R:=⟨_,rfl⟩
 rw [hR,hD]
 obtain ⟨li,ae⟩:∃li,i.list=li:=⟨_,rfl⟩
 rw [ae] at z0 hW⊢
 obtain ⟨i0,aq,am,au,ao⟩:=info_parts Ai
 have Hi:Hid _:=jB aq (jB am (jB au ao))
 have H:Hid _:=jB h (jB ag (jB hR ae))
 clear h ag hR ae aq am au ao hD
 cases li
 ·go_enter (fq Tryz.func177 rfl),Tryz.ntmps177
  go_upto_region 1 with fail
  rw [<-hW]
  clear hW
  go_wp2_with fail
  go_ret2
  obtain ⟨h,ag,hR,ae⟩:=H.out
  refine ⟨?_,ag⟩
  rw [<-hR]
  unfold strs
  rw [ae]
  rfl
 ·go_enter (fq Tryz.func177 rfl),Tryz.ntmps177
  go_upto_region 1 with fail
  rw [<-hW]
  clear hW
  go_wp2_with fail
  go_loopg [4,6,13] i.kids.length (λgg v4 _ aw wx=>∃(k:Nat) (ra:Option Addr) (rc:Nat),k<=i.kids.length/\aw=.int .i64 k/\v4=.slice ra k rc/\gg=i.kids.length - k/\Hid (Made wx w.heap.size (.slice ra k rc) ((i.kids.take k).map (·.bytes))/\(∀x,x∈i.kids.take k->x.list=false)/\Below w.heap.size w wx))
  case atStart=>exact ⟨0,none,0,dF _,rfl,rfl,rfl,⟨Row.nil _ _ _,by simp [Value.ownBlock]⟩,by simp,H.out.2.1⟩
  case round=>
   obtain ⟨k,ra,rc,hk,rfl,rfl,rfl,HI⟩:=hrel
   by_cases af:k < i.kids.length
   ·have ar:(k:Int) < (i.kids.length:Int):=by omega
    have av:=In.below (HI.out.2.2.mono hB) _ _ _ _ _ H.out.1
    obtain ⟨g,off,az,hv,hg,ai⟩:=In.kid av (λe=>by rw [e] at af;simp at af)
    simp only [Value.slice.injEq,true_and] at hv
    obtain ⟨rfl,rfl⟩:=hv
    obtain ⟨d2,⟨k0,k1,k2⟩,ab⟩:=ai k af
    obtain ⟨x,hx⟩:∃x,i.kids[k]=x:=⟨_,rfl⟩
    rw [hx] at k0 k1 ab
    obtain ⟨xa,xc,_,_,rfl⟩:=ab.shape
    obtain ⟨X,hX⟩:∃X:ByteArray,(⟨x.bytes.toArray⟩:ByteArray)=X:=⟨_,rfl⟩
    rw [hX] at k1
    obtain ⟨W2,I⟩:∃W2,W2=wr.alloc (.cells #[.bool x.list,.string X,.slice xa x.kids.length xc] 103):=⟨_,rfl⟩
    have Y:Below wr.heap.size wr W2:=by rw [I];exact (aB _ _).alloc jC _
    have y0:W2.cell? ⟨wr.heap.size,0,none⟩=some (.bool x.list):=by rw [I];simp
    have y1:W2.cell? ⟨wr.heap.size,1,none⟩=some (.string X):=by rw [I];simp
    obtain ⟨xl,J⟩:∃xl,x.list=xl:=⟨_,rfl⟩
    rw [J] at y0 k0 I
    have aa:i.kids.take (k+1)=i.kids.take k++[x]:=by rw [dZ af,hx]
    have HX:Hid _:=jB hx (jB hX (jB Y (jB J aa)))
    have ac:=λo=>(HI.out.1.1.below Y).below ((aB W2.heap.size W2).alloc jC o)
    rw [show ((i.kids.take k).map (·.bytes)).length=k from by rw [aU,aZ];omega] at ac
    have ak:Hid _:=ac
    clear av hg ai ab hx hX Y J aa ac
    cases xl
    ·go_upto_region 7 with fail
     rw [<-I]
     clear I
     go_wp2_with (first|(at_builtin;refine lW _ rfl (.tmp 19) (.tmp 22) 40 rfl 9 i0 _ 1 16 (uq Tryz.underlying40) Hi.out.1 Hi.out.2.1 Hi.out.2.2.1 Hi.out.2.2.2 rfl (by decide) _ k _ rfl (ak.out _) ⟨W2.heap.size,0,none⟩ 1 1 [.string X] rfl (by decide) rfl (by intro j u hj;match j,hj with|0,hj=>(simp at hj;subst hj;simp [Addr.add])) (by intro u hu;simp at hu;subst hu;rfl) (by unfold maxLen;omega) (by omega) ?_;intro g5 an ap w5 E z;have ax:Hid _:=jB E z;clear E z)|go_in)
     go_roundg (i.kids.length - (k+1))
     case measure=>omega
     case rel=>
      obtain ⟨hx,hX,Y,J,aa⟩:=HX.out
      obtain ⟨E,z⟩:=ax.out
      have ah:Below w.heap.size w W2:=HI.out.2.2.trans (Y.mono HI.out.2.2.size)
      have aj:Below w.heap.size w (W2.alloc (.cells #[.string X] 9)):=ah.alloc ah.size _
      have ay:w.heap.size<=g5:=by
       rcases z.own with e|e
       ·exact HI.out.1.2 g5 e
       ·exact aW aj.size e
      refine ⟨k+1,some ⟨g5,an,none⟩,ap,by omega,by go_num,rfl,rfl,⟨?_,?_⟩,?_,?_⟩
      ·rw [aa,aY,aY,aJ,aU,aZ,fO (by omega)]
       have:[x].map (λt:Im.It=>t.bytes)=[x.bytes]:=rfl
       rw [this,dW,fG]
       unfold nT at E⊢
       rw [hX]
       exact E
      ·intro q hq
       have:some g5=some q:=hq
       cases this
       exact ay
      ·intro y hy
       rw [aa] at hy
       rcases dG.1 hy with hy|hy
       ·exact HI.out.2.1 y hy
       ·rw [dD.1 hy];exact J
      ·refine aj.trans ⟨z.jR.os,z.jR.tape,z.jR.output,z.jR.size,λq hq=>z.jR.block q (aH hq aj.size) (λe=>?_)⟩
       have:=HI.out.1.2 q e
       omega
    ·go_upto_region 7 with fail
     rw [<-I]
     clear I
     go_wp2_with fail
     go_ret2
     obtain ⟨hx,hX,Y,J,aa⟩:=HX.out
     refine ⟨?_,HI.out.2.2.trans (Y.mono HI.out.2.2.size)⟩
     rw [<-H.out.2.2.1]
     unfold strs
     rw [if_neg]
     ·rfl
     ·intro e
      simp only [bY] at e
      have:=eY.1 e.2 x (by rw [<-hx];exact List.getElem_mem _)
      rw [J] at this
      cases this
   ·have ar:¬(k:Int) < (i.kids.length:Int):=by omega
    obtain rfl:k=i.kids.length:=by omega
    go_wp2_with fail
    go_ret2
    refine ⟨?_,HI.out.2.2⟩
    rw [<-H.out.2.2.1]
    unfold strs
    rw [if_pos]
    ·have h1:=HI.out.1
     rw [iG] at h1
     refine ⟨ra,rc,?_,?_⟩
     ·rw [aU];rfl
     ·rw [aU];exact h1
    ·simp only [bY]
     refine ⟨H.out.2.2.2,eY.2 (λx hx=>?_)⟩
     rw [HI.out.2.1 x (by rw [iG];exact hx)]
     rfl
end Hm
end Go.Proofs.YtpibpdpedjinhaaGreatDoor
