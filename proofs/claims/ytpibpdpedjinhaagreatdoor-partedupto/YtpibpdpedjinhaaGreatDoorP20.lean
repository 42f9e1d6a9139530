import Derived.Test.YtpibpdpedjinhaaGreatDoorP19
import Derived.Laws.ResultCell
import Derived.RangeFuncWrites
set_option maxRecDepth 100000
set_option maxHeartbeats 4000000
set_option linter.unusedSimpArgs false
namespace Go.Proofs.YtpibpdpedjinhaaGreatDoor
section
open Go.RowKit Go.Joins
theorem Io{P:Program}(w:World)(base:Nat)(t ty e:TypeId)(i:TypeInfo)(z:Value)(size bytes:Nat)(ht:P.underlying t=some (.slice e))(hi:P.info? e=some i)(hz:i.zero=some z)
  (I:i.size=size) (ag:i.bytes=bytes) (aj:z.cells.size=size) (ah:0<size)
  (v:Value) (n:Nat) (xs:List Value) (aa:w.ownsRow base e size v n xs)
  (a:Addr) (m c:Nat) (E:List Value) (hm:0<m) (hl:E.length=m*size) (R:∀j u,E[j]? =some u->w.cell? (a.add j)=some u) (h1:∀u∈E,u.oneCell'=true)
  (ae:n+m<=maxLen) (Y:(n+m)*bytes<=140737488355328) (ac:base<=w.heap.size):
  ∃v' w',(Builtin.append_ #[t,t] ty #[v,.slice (some a) m c]).run P w=.ok v' w'/\w'.ownsRow base e size v' (n+m) (xs++E)/\w.grownBy w' v.ownBlock/\(v'.ownBlock=v.ownBlock\/∃g,v'.ownBlock=some g/\w.heap.size<=g):=by
 obtain⟨v',w',hr,h2,h3,h4⟩:=run_append_own (P:=P) w base t ty e i z size bytes ht hi hz I ag aj ah v n xs aa a m c E hl R h1 ae Y ac;refine⟨v',w',hr,h2,h3,?_⟩;have ak:n+m<=9223372036854775807:=by simp only[maxLen]at ae;omega
 rcases aa.2 with⟨rfl,rfl⟩|⟨g,cap,af,rfl,aq,hg,ar,ap,ao,an⟩
 ·right;have hx:xs=[]:=bD (by simpa using aa.1);subst hx;obtain⟨v2,w2,J,g2,_,g4⟩:=run_append_own (P:=P) w w.heap.size t ty e i z size bytes ht hi hz I ag aj ah (.slice none 0 0) 0 [] (World.ownsRow_nil w _ e size) a m c E hl R h1 ae Y jA;rw[hr]at J;simp only[Result.ok.injEq]at J;obtain⟨rfl,rfl⟩:=J;rcases g2.2 with⟨e1,_⟩|⟨g,cap,af,rfl,am,_⟩
  ·have:=(g4.1 e1).2;omega
  ·exact⟨g,rfl,am⟩
 ·by_cases ab:n+m<=cap
  ·left;have ai:n*i.size+E.length<=af.size:=by rw[hl,ao,I,<-iL];exact fD _ ab
   have J:=run_append_room (P:=P) w t ty e i ht hi g n cap af hg a m c E (by rw[I];exact hl) R h1 ab ai;rw[hr]at J;simp only[Result.ok.injEq]at J;rw[J.1];rfl
  ·right;subst I ag;have holds:∀j u,xs[j]? =some u->w.cell? ((⟨g,0,none⟩:Addr).add j)=some u:=aa.cells (g:=g) rfl;have J:=run_append_grow (P:=P) w t ty e i z ht hi hz ⟨g,0,none⟩ n cap xs aa.1 holds a m c E hl R (by omega) (by omega) (growslice_fits (by omega) Y);rw[hr]at J;simp only[Result.ok.injEq]at J;exact⟨w.heap.size,by rw[J.1];rfl,jA⟩
theorem Qq:(PQ.info? 103).map (λi=>(i.zero,i.size,i.bytes))=some (some (.agg #[.bool false,.string ⟨#[]⟩,.slice none 0 0]),3,48):=by kernel_rfl
section
variable {w:World}{base e size n:Nat}{v:Value}{xs:List Value}
theorem own_below{w':World}(h:w.ownsRow base e size v n xs)(R:Below w.heap.size w w'):w'.ownsRow base e size v n xs:=by
 obtain⟨J,h2⟩:=h;refine⟨J,?_⟩;rcases h2 with h2|⟨g,cap,z,I,Y,E,r⟩
 ·exact .inl h2
 ·exact .inr ⟨g,cap,z,I,Y,(R.block g (jC E)).trans E,r⟩
theorem qI(h:w.ownsRow base e size v n xs){g:Nat}(z:v.ownBlock=some g):base<=g/\g<w.heap.size:=by
 rcases h.2 with⟨rfl,_⟩|⟨g',cap,E,rfl,J,I,_⟩
 ·simp[Value.ownBlock]at z
 ·simp[Value.ownBlock]at z;subst z;exact⟨J,(jC I)⟩
theorem xs_len(h:w.ownsRow base e 3 v n xs):xs.length=n*3:=h.1
end
section
variable {w w':World}{n lo hi base e size lo' hi':Nat}{v:Value}{i:Im.It}{xs:List Value}{ks:List Im.It}
def Tr(w:World):Nat->Nat->Nat->Value->Value->Value->Im.It->Prop
 |0,_,_,_,_,_,_=>False
 |n+1,lo,hi,c0,c1,c2,i=>(c0=.bool i.list/\c1=.string ⟨i.bytes.toArray⟩)/\∃(xs:List Value)(L H:Nat->Nat),w.ownsRow lo 103 3 c2 i.kids.length xs/\(∀g,c2.ownBlock=some g->g<hi)/\
   (∀j,j<i.kids.length->lo<=L j/\L j<=H j/\H j<=hi/\(∀g,c2.ownBlock=some g->g<L j\/H j<=g))/\(∀a b,a<b->b<i.kids.length->H a<=L b)/\
   ∀(j:Nat)(J:j<i.kids.length),∃E I z,xs[j*3]? =some E/\xs[j*3+1]? =some I/\xs[j*3+2]? =some z/\Tr w n (L j) (H j) E I z (i.kids[j])
def Row(w:World)(n lo hi:Nat)(v:Value)(ks:List Im.It):Prop:=∃(xs:List Value)(L H:Nat->Nat),w.ownsRow lo 103 3 v ks.length xs/\(∀g,v.ownBlock=some g->g<hi)/\
   (∀j,j<ks.length->lo<=L j/\L j<=H j/\H j<=hi/\(∀g,v.ownBlock=some g->g<L j\/H j<=g))/\(∀a b,a<b->b<ks.length->H a<=L b)/\
   ∀(j:Nat)(J:j<ks.length),∃E I z,xs[j*3]? =some E/\xs[j*3+1]? =some I/\xs[j*3+2]? =some z/\Tr w n (L j) (H j) E I z (ks[j])
theorem Tr.Si(h:Row w n lo hi v i.kids):Tr w (n+1) lo hi (.bool i.list) (.string ⟨i.bytes.toArray⟩) v i:=⟨⟨rfl,rfl⟩,h⟩
theorem nT(h:w.ownsRow base e size v n xs)(hk:∀g,v.ownBlock=some g->w'.heap[g]? =w.heap[g]?):w'.ownsRow base e size v n xs:=by
 obtain⟨J,h2⟩:=h;refine⟨J,?_⟩;rcases h2 with h2|⟨g,cap,z,E,R,I,r⟩
 ·exact .inl h2
 ·exact .inr ⟨g,cap,z,E,R,(hk g (by rw[E];rfl)).trans I,r⟩
theorem Tr.kept:∀(n lo hi:Nat)(c0 z E:Value)(i:Im.It),(∀k,lo<=k->k<hi->w'.heap[k]? =w.heap[k]?)->Tr w n lo hi c0 z E i->Tr w' n lo hi c0 z E i
 |0,_,_,_,_,_,_,_,h=>h
 |n+1,lo,hi,c0,z,E,i,hk,h=>by
  obtain⟨h0,xs,L,H,R,h2,h3,h4,h5⟩:=h;refine⟨h0,xs,L,H,nT R (λg J=>hk g (qI R J).1 (h2 g J)),h2,h3,h4,λj hj=>?_⟩;obtain⟨d0,Y,I,e0,e1,e2,e3⟩:=h5 j hj;have:=h3 j hj;exact⟨d0,Y,I,e0,e1,e2,Tr.kept n (L j) (H j) d0 Y I _ (λk a b=>hk k (by omega) (by omega)) e3⟩
theorem Row.kept(h:Row w n lo hi v ks)(hk:∀k,lo<=k->k<hi->w'.heap[k]? =w.heap[k]?):Row w' n lo hi v ks:=
 (Tr.kept (n+1) lo hi (.bool true) (.string ⟨#[]⟩) v ⟨true,[],ks⟩ hk ⟨⟨rfl,rfl⟩,h⟩).2
theorem Tr.inn{B:Nat}:∀(n lo hi:Nat)(c0 Y c2:Value)(i:Im.It),hi<=B->Tr w n lo hi c0 Y c2 i->In B w n c0 Y c2 i
 |0,_,_,_,_,_,_,_,h=>h
 |n+1,lo,hi,c0,Y,c2,i,hB,h=>by
  obtain⟨⟨I,J⟩,xs,L,H,h1,h2,h3,h4,h5⟩:=h;rcases h1.2 with⟨rfl,hz⟩|⟨g,cap,aa,rfl,hg,hh,ac,ab,ae,E⟩
  ·refine⟨I,J,none,0,by rw[hz],λR=>absurd (bD hz) R⟩
  ·refine⟨I,J,some ⟨g,0,none⟩,cap,rfl,λ_=>⟨g,0,rfl,by have:=h2 g rfl;omega,λj hj=>?_⟩⟩;obtain⟨d0,d1,d2,e0,e1,e2,e3⟩:=h5 j hj
   have z:∀(m:Nat)(u:Value),xs[m]? =some u->aa[m]? =some u:=by
    intro m u hu;have hm:m<xs.length:=(aF.1 hu).1;have hl:=h1.1;rw[<-E,iE (by omega)]at hu;simpa using hu
   have:=h3 j hj;refine⟨d0,d1,d2,⟨?_,?_,?_⟩,Tr.inn n (L j) (H j) d0 d1 d2 _ (by omega) e3⟩
   ·rw[aA hh,fC];exact z _ _ e0
   ·rw[aA hh,fC];exact z _ _ e1
   ·rw[aA hh,fC];exact z _ _ e2
theorem Ja{z:Nat}(h:w.ownsRow base e size v n xs)(R:z<=base):w.ownsRow z e size v n xs:=by
 obtain⟨J,h2⟩:=h;refine⟨J,?_⟩;rcases h2 with h2|⟨g,cap,E,I,Y,r⟩
 ·exact .inl h2
 ·exact .inr ⟨g,cap,E,I,by omega,r⟩
theorem Row.wider(h:Row w n lo hi v ks)(I:lo'<=lo)(h2:hi<=hi'):Row w n lo' hi' v ks:=by
 obtain⟨xs,L,H,E,q2,J,q4,R⟩:=h;refine⟨xs,L,H,Ja E I,λg z=>by have:=q2 g z;omega,λj hj=>?_,q4,R⟩;obtain⟨a1,a2,a3,Y⟩:=J j hj;exact⟨by omega,a2,by omega,Y⟩
theorem Tr.wider{c0 E z:Value}(h:Tr w n lo hi c0 E z i)(I:lo'<=lo)(h2:hi<=hi'):Tr w n lo' hi' c0 E z i:=by
 cases n with
 |zero=>cases h
 |succ n=>exact⟨h.1,Row.wider h.2 I h2⟩
theorem Row.none(w:World)(n lo hi:Nat):Row w n lo hi (.slice none 0 0) []:=
 ⟨[],λ_=>0,λ_=>0,World.ownsRow_nil w lo _ 3,λg I=>by simp[Value.ownBlock]at I,λj z=>by simp at z,λ_ b _ E=>by simp at E,λj z=>by simp at z⟩
theorem Row.step{w1 w3 w4:World}{k:Im.It}{v' d0 d1 Y:Value}(an:lo<=w.heap.size){L H:Nat->Nat}(R:w.ownsRow lo 103 3 v ks.length xs)
  (ae:∀j,j<ks.length->lo<=L j/\L j<=H j/\H j<=w.heap.size/\(∀g,v.ownBlock=some g->g<L j\/H j<=g)) (ai:∀a b,a<b->b<ks.length->H a<=L b)
  (aa:∀(j:Nat)(hj:j<ks.length),∃d0 d1 Y,xs[j*3]? =some d0/\xs[j*3+1]? =some d1/\xs[j*3+2]? =some Y/\Tr w n (L j) (H j) d0 d1 Y (ks[j]))
  (ah:Tr w1 n w.heap.size w1.heap.size d0 d1 Y k) (aj:Below w.heap.size w w1) (af:Below w1.heap.size w1 w3)
  (J:w4.ownsRow lo 103 3 v' (ks.length+1) (xs++[d0,d1,Y])) (ab:w3.grownBy w4 v.ownBlock) (ag:v'.ownBlock=v.ownBlock\/∃g,v'.ownBlock=some g/\w3.heap.size<=g):Row w4 n lo w4.heap.size v' (ks++[k]):=by
 have hx:=xs_len R;have s1:=aj.size;have s3:=af.size;have s4:=ab.size;have ak:∀g,v.ownBlock=some g->g<w.heap.size:=λg E=>(qI R E).2;have I:(ks++[k]).length=ks.length+1:=by simp
 refine⟨xs++[d0,d1,Y],λj=>if j<ks.length then L j else w.heap.size,λj=>if j<ks.length then H j else w1.heap.size,by rw[I];exact J,λg E=>(qI J E).2,?_,?_,?_⟩
 ·intro j hj;by_cases z:j<ks.length
  ·simp only[if_pos z];obtain⟨a1,a2,a3,a4⟩:=ae j z;refine⟨a1,a2,by omega,λg E=>?_⟩;rcases ag with e|⟨g',e,am⟩
   ·rw[e]at E;exact a4 g E
   ·rw[e]at E;simp at E;omega
  ·simp only[if_neg z];refine⟨an,s1,by omega,λg E=>?_⟩;rcases ag with e|⟨g',e,am⟩
   ·rw[e]at E;have:=ak g E;omega
   ·rw[e]at E;simp at E;omega
 ·intro a b ao hb;rw[I]at hb;by_cases ac:b<ks.length
  ·simp only[if_pos ac,if_pos (show a<ks.length by omega)];exact ai a b ao ac
  ·simp only[if_neg ac,if_pos (show a<ks.length by omega)];exact(ae a (by omega)).2.2.1
 ·intro j hj;rw[I]at hj;by_cases z:j<ks.length
  ·obtain⟨e0,e1,e2,q0,q1,q2,ho⟩:=aa j z;obtain⟨a1,a2,a3,a4⟩:=ae j z;simp only[if_pos z];rw[List.getElem_append_left z];refine⟨e0,e1,e2,?_,?_,?_,Tr.kept n _ _ _ _ _ _ (λm m1 m2=>?_) ho⟩
   ·rw[bP (by omega)];exact q0
   ·rw[bP (by omega)];exact q1
   ·rw[bP (by omega)];exact q2
   ·rw[ab.block m (by omega) (λe=>by have:=a4 m e.symm;omega),af.block m (by omega),aj.block m (by omega)]
  ·obtain rfl:j=ks.length:=by omega
   simp only[if_neg z];rw[List.getElem_append_right jA];simp only[Nat.sub_self,List.getElem_cons_zero];refine⟨d0,d1,Y,?_,?_,?_,Tr.kept n _ _ _ _ _ _ (λm m1 m2=>?_) ah⟩
   ·rw[bK (by omega),hx];simp
   ·rw[bK (by omega),hx,show ks.length*3+1-ks.length*3=1 from by omega];rfl
   ·rw[bK (by omega),hx,show ks.length*3+2-ks.length*3=2 from by omega];rfl
   ·rw[ab.block m (by omega) (λe=>by have:=ak m e.symm;omega),af.block m (by omega)]
end
def uZ:Option (Bool×Nat×Nat)->Value
 |some (l,f,t)=>.tuple #[.agg #[.bool l,.int .i64 f,.int .i64 t],.bool true]
 |none=>.tuple #[.agg #[.bool false,.int .i64 0,.int .i64 0],.bool false]
theorem getD_byte(s:ByteArray)(f:Nat)(h:f<s.size):s.data.toList.getD f 0=s[f]:=by
 have z:=aV s;rw[aS,aG (by omega),Array.getElem_toList];rfl
theorem CB(l:Bool)(x y:Int)(s:ByteArray)(f n:Nat)(w:World)(hs:s.size<=16777216)(hf:f<=s.size)(hn:n<4294967296):
  Calls PQ 229 #[.agg #[.bool l,.int .u8 x,.int .u8 y],.string s,.int .i64 f,.int .u64 n] w λe w'=>e=.returned (uZ (Im.chk l s.data.toList f n))/\Below w.heap.size w w':=by
 have I:=aV s;have R:∀(a b:Obj),Below w.heap.size w ((w.alloc a).alloc b):=λa b=>((aB _ w).alloc jA _).alloc (by simp) _;have E:Hid _:=R;clear R;have ac:0<=(s.size:Int)-(f:Int):=by omega
 have af:IntKind.u64.wrap ((s.size:Int)-(f:Int))=(s.size:Int)-(f:Int):=by rw[IntKind.wrap_u64];omega
 by_cases h1:s.size-f<n
 ·have J:Im.chk l s.data.toList f n=none:=by unfold Im.chk;rw[<-I,if_pos h1]
  rw[J];have aa:(s.size:Int)-(f:Int)<n:=by omega
  clear J I;go_enter (fq Tryz.func229 rfl),Tryz.ntmps229;go_wp2_with fail;exact bodyPost_ret (v:=.tuple #[.agg #[.bool false,.int .i64 0,.int .i64 0],.bool false]) (by simp[results,Tryz.results229,go_sem]) rfl ⟨rfl,E.out _ _⟩
 ·have aa:¬(s.size:Int)-(f:Int)<n:=by omega
  by_cases h2:l=false/\n=1/\(s.data.toList.getD f 0).toNat<128
  ·have J:Im.chk l s.data.toList f n=none:=by unfold Im.chk;rw[<-I,if_neg h1,if_pos h2]
   rw[J];obtain⟨rfl,rfl,h3⟩:=h2;have z:f<s.size:=by omega
   rw[getD_byte s f z]at h3;have ae:(s[f].toNat:Int)<128:=by omega
   have hx:=λu=>qx u s (f:Int) f z rfl;clear J I h3;go_enter (fq Tryz.func229 rfl),Tryz.ntmps229;go_wp2_with fail;exact bodyPost_ret (v:=.tuple #[.agg #[.bool false,.int .i64 0,.int .i64 0],.bool false]) (by simp[results,Tryz.results229,go_sem]) rfl ⟨rfl,E.out _ _⟩
  ·have J:Im.chk l s.data.toList f n=some (l,f,f+n):=by unfold Im.chk;rw[<-I,if_neg h1,if_neg h2]
   rw[J];clear J;cases l with
   |true=>
    clear I h2;go_enter (fq Tryz.func229 rfl),Tryz.ntmps229;go_wp2_with fail;exact bodyPost_ret (v:=.tuple #[.agg #[.bool true,.int .i64 f,.int .i64 ((f:Int)+(n:Int))],.bool true]) (by simp[results,Tryz.results229,go_sem]) rfl ⟨by simp[uZ],E.out _ _⟩
   |false=>
    by_cases Y:n=1
    ·subst Y;have z:f<s.size:=by omega
     have h3:¬(s[f].toNat:Int)<128:=by
      rw[getD_byte s f z]at h2;intro h;exact h2 ⟨rfl,rfl,by omega⟩
     have hx:=λu=>qx u s (f:Int) f z rfl;clear I h2;go_enter (fq Tryz.func229 rfl),Tryz.ntmps229;go_wp2_with fail;exact bodyPost_ret (v:=.tuple #[.agg #[.bool false,.int .i64 f,.int .i64 ((f:Int)+1)],.bool true]) (by simp[results,Tryz.results229,go_sem]) rfl ⟨by simp[uZ],E.out _ _⟩
    ·have ab:((n:Int) == 1)=false:=by simp;omega
     clear I h2;go_enter (fq Tryz.func229 rfl),Tryz.ntmps229;go_wp2_with fail;exact bodyPost_ret (v:=.tuple #[.agg #[.bool false,.int .i64 f,.int .i64 ((f:Int)+(n:Int))],.bool true]) (by simp[results,Tryz.results229,go_sem]) rfl ⟨by simp[uZ],E.out _ _⟩
theorem ext_list(s:ByteArray)(a b:Nat):(s.extract a b).data.toList=(s.data.toList.take b).drop a:=by
 simp[ByteArray.data_extract,Array.toList_extract,List.drop_take]
theorem rO:∀(l:List UInt8)(a k:Nat),a<256 ^ k->Im.val l a<256 ^ (k+l.length)
 |[],a,k,h=>h
 |x::l,a,k,h=>by
  have:=x.toNat_lt;have h2:=rO l (256*a+x.toNat) (k+1) (by rw[Nat.pow_succ];omega);simp only[Im.val,aN];rw[show k+(l.length+1)=k+1+l.length from by omega];exact h2
theorem Ap(s:List UInt8)(k:Nat)(h:k<s.length):Im.val (s.take (k+1)) 0=256*Im.val (s.take k) 0+(s.getD k 0).toNat:=by
 rw[dZ h,Im.val_append,aS,aG h];rfl
theorem xg(a c:Nat)(z:c<256):(a*256) |||c=256*a+c:=by
 have:=Nat.two_pow_add_eq_or_of_lt (i:=8) (b:=c) (by omega) a;rw[show a*256=2 ^ 8*a from by omega,<-this]
theorem below_bytesWorld{B:Nat}{w u:World}(h:Below B w u)(E:B<=u.heap.size)(e:TypeId)(s:ByteArray):Below B w (Lib.bytesWorld u e s):=
 h.trans ⟨rfl,rfl,rfl,by rw[Lib.bytesWorld_size];omega,λm z=>Lib.bytesWorld_at_old u e s m (by omega)⟩
theorem zf(l:Bool)(x y:Int)(s:ByteArray)(f:Nat)(w:World)(hs:s.size<=16777216)(hf:2<=f)(bh:f<=5):
  Calls PQ 230 #[.agg #[.bool l,.int .u8 x,.int .u8 y],.string s,.int .i64 f] w λe w'=>e=.returned (uZ (Im.far l s.data.toList f))/\Below w.heap.size w w':=by
 have hl:=aV s;have av:∀(a b:Obj),Below w.heap.size w ((w.alloc a).alloc b):=λa b=>((aB _ w).alloc jA _).alloc (by simp) _;have ai:Hid _:=av;clear av;by_cases h1:s.size<f
 ·have I:Im.far l s.data.toList f=none:=by unfold Im.far;rw[<-hl,if_pos (.inl h1)]
  rw[I];have a9:(s.size:Int)<f:=by omega
  clear I hl;go_enter (fq Tryz.func230 rfl),Tryz.ntmps230;go_wp2_with fail;exact bodyPost_ret (v:=.tuple #[.agg #[.bool false,.int .i64 0,.int .i64 0],.bool false]) (by simp[results,Tryz.results230,go_sem]) rfl ⟨rfl,ai.out _ _⟩
 ·have a9:¬(s.size:Int)<f:=by omega
  have aq:1<s.size:=by omega
  have hx:=λu=>qx u s 1 1 aq rfl;have ag:=getD_byte s 1 aq;by_cases h2:s[1]=0
  ·have I:Im.far l s.data.toList f=none:=by unfold Im.far;rw[ag,if_pos (.inr h2)]
   rw[I];have a8:((s[1].toNat:Int) == 0)=true:=by rw[h2];rfl
   clear I hl;go_enter (fq Tryz.func230 rfl),Tryz.ntmps230;go_wp2_with fail;exact bodyPost_ret (v:=.tuple #[.agg #[.bool false,.int .i64 0,.int .i64 0],.bool false]) (by simp[results,Tryz.results230,go_sem]) rfl ⟨rfl,ai.out _ _⟩
  ·have a8:((s[1].toNat:Int) == 0)=false:=by
    have:s[1].toNat≠0:=λe=>h2 (jr.1 e);simp;omega
   obtain⟨S,hS⟩:∃S:ByteArray,s.extract 1 f=S:=⟨_,rfl⟩
   have ao:S.data.toList=(s.data.toList.take f).drop 1:=by rw[<-hS,ext_list]
   have bg:S.size=f-1:=by rw[<-hS];simp[eG];omega
   have a6:=λu:World=>Lib.run_convert_string_bytes (P:=PQ) u 9 155 5 S (uq Tryz.underlying9) (uq Tryz.underlying155) (uq Tryz.underlying5)
   have I:Im.far l s.data.toList f=if Im.val S.data.toList 0<=55 then none else Im.chk l s.data.toList f (Im.val S.data.toList 0):=by
    unfold Im.far;rw[<-hl,ag,if_neg (by intro h;rcases h with h|h;exact h1 h;exact h2 h),ao]
   generalize Im.far l s.data.toList f=R at I⊢;have HR:Hid _:=I;clear I hl ao ag;go_enter (fq Tryz.func230 rfl),Tryz.ntmps230;go_wp2_with fail;obtain⟨X,hX⟩:∃X:World,X=((w.alloc (Obj.cells #[Value.bool l,Value.int IntKind.u8 x,Value.int IntKind.u8 y] 280)).alloc (Obj.cells #[Value.bool false,Value.int IntKind.i64 0,Value.int IntKind.i64 0] 311)):=⟨_,rfl⟩
   have ax:X.heap.size=w.heap.size+1+1:=by rw[hX];simp
   have a2:Below w.heap.size w X:=by rw[hX];exact ai.out _ _
   have az:X.heap[w.heap.size]? =some (.cells #[Value.bool l,Value.int IntKind.u8 x,Value.int IntKind.u8 y] 280 (0,0)):=by rw[hX,aT _ _ _ (by simp)];exact heap_alloc_new _ _
   have am:X.heap[w.heap.size+1]? =some (.cells #[Value.bool false,Value.int IntKind.i64 0,Value.int IntKind.i64 0] 311 (0,0)):=by rw[hX];have:=heap_alloc_new (w.alloc (Obj.cells #[Value.bool l,Value.int IntKind.u8 x,Value.int IntKind.u8 y] 280)) (Obj.cells #[Value.bool false,Value.int IntKind.i64 0,Value.int IntKind.i64 0] 311);simpa using this
   rw[<-hX];obtain⟨Y,hY⟩:∃Y:World,Y=Lib.bytesWorld X 5 S:=⟨_,rfl⟩
   have bb:Y.heap.size=w.heap.size+3:=by rw[hY,Lib.bytesWorld_size,ax]
   have ab:Below X.heap.size X Y:=by rw[hY];exact below_bytesWorld (aB _ _) jA _ _
   have ay:∀k,k<S.size->Y.cell? ⟨w.heap.size+1+1,k,none⟩=some (.int .u8 (S.data.toList.getD k 0).toNat):=λk hk=>by rw[hY,<-ax];exact Lib.bytesWorld_cell X 5 S k hk
   rw[<-hY];have J:=(ab.block w.heap.size (by omega)).trans az;have E:=(ab.block (w.heap.size+1) (by omega)).trans am;have aa:Below w.heap.size w Y:=a2.trans (ab.mono (by omega));have ae:=aV S;have HY:Hid _:=jw ay (jw J (jw E aa));have ac:Hid _:=ae;clear hX hY ay J E aa ab az am a2 ae a6 hx hS;generalize grownCap X (f-1) 0 5=gc;go_loopg [8,26] (f-1) (λg v t wx=>∃k:Nat,k<=f-1/\t=.int .i64 k/\v=.int .u64 (Im.val (S.data.toList.take k) 0:Nat)/\g=f-1-k/\wx=Y)
   case atStart=>exact⟨0,dF _,rfl,rfl,rfl,rfl⟩
   case round=>
    obtain⟨k,hk,rfl,rfl,rfl,rfl⟩:=hrel
    have a0:Im.val (S.data.toList.take k) 0<4294967296:=by
     have:=rO (S.data.toList.take k) 0 0 (by simp);have ah:0+(S.data.toList.take k).length<=4:=by simp;omega
     have:=iG (n:=256) (by decide) ah;omega
    by_cases bd:k<f-1
    ·have a1:(k:Int)<((f-1:Nat):Int):=by omega
     have hc:=HY.out.1 k (by omega);generalize hb:(S.data.toList.getD k 0).toNat=b at hc;have a4:b<256:=by rw[<-hb];exact UInt8.toNat_lt _
     have aj:=Ap S.data.toList k (by rw[<-ac.out];omega);rw[hb]at aj
     have ba:Im.val (S.data.toList.take k) 0<16777216:=by
      have:=rO (S.data.toList.take k) 0 0 (by simp);have ah:0+(S.data.toList.take k).length<=3:=by simp;omega
      have:=iG (n:=256) (by decide) ah;omega
     generalize ar:Im.val (S.data.toList.take (k+1)) 0=V' at aj;have a3:Hid _:=ar;clear ar;generalize Im.val (S.data.toList.take k) 0=V at *;have Hb:Hid _:=hb;clear hb;go_wp2_with fail
     rw[show bits .or .u64 ((V:Int)*256) (b:Int)=V' from by
      rw[show(V:Int)*256=((V*256:Nat):Int) from by omega,bits_or_u64_nat _ _ (by omega) (by omega),xg V b a4,aj]]
     go_roundg (f-1-(k+1))
     case measure=>omega
     case rel=>
      refine⟨k+1,by omega,by go_num,?_,rfl,rfl⟩;rw[a3.out]
    ·have a1:¬(k:Int)<((f-1:Nat):Int):=by omega
     obtain rfl:k=f-1:=by omega
     have a5:S.data.toList.take (f-1)=S.data.toList:=dV (by rw[<-ac.out];omega);rw[a5]at a0⊢;obtain⟨_,J,E,aa⟩:=HY.out;generalize Im.val S.data.toList 0=V at *;obtain⟨m0,m1,m2⟩:=cells3 J;obtain⟨r0,r1,r2⟩:=cells3 E;have fr:=aI E;have ap:Hid _:=aa;have a7:Hid _:=E;clear J E aa HY;by_cases au:V<=55
     ·have an:(V:Int)<=55:=by omega
      have I:R=none:=by rw[HR.out,if_pos au]
      have ak:Hid _:=I;clear I HR;go_wp2_with fail;exact bodyPost_ret (v:=.tuple #[.agg #[.bool false,.int .i64 0,.int .i64 0],.bool false]) (by simp[results,Tryz.results230,go_sem,r0,r1,r2]) rfl ⟨by rw[ak.out];rfl,((ap.out.setCell (by simp) _).setCell (by simp) _).setCell (by simp) _⟩
     ·have an:¬(V:Int)<=55:=by omega
      have I:R=Im.chk l s.data.toList f V:=by rw[HR.out,if_neg au]
      obtain⟨b0,f0,t0,q0,hV⟩:∃b0 f0 t0 q0,uZ (Im.chk l s.data.toList f V)=.tuple #[.agg #[.bool b0,.int .i64 f0,.int .i64 t0],.bool q0]:=by
       cases Im.chk l s.data.toList f V with
       |none=>exact⟨_,_,_,_,rfl⟩
       |some z=>exact⟨_,_,_,_,rfl⟩
      have HV:Hid _:=hV;have ak:Hid _:=I;clear I HR hV;go_wp2_with fail;refine(CB l x y s f V wr hs (by omega) a0).mono ?_;rintro e w3 ⟨rfl,aw⟩;rw[HV.out];have af:=(aw.block (w.heap.size+1) (by omega)).trans a7.out;obtain⟨z0,z1,z2⟩:=cells3 af;have fz:=aI af;have HB:Hid _:=ap.out.trans (aw.mono (by omega));clear r0 r1 r2 fr m0 m1 m2 af;go_wp2_with fail;exact bodyPost_ret (v:=.tuple #[.agg #[.bool b0,.int .i64 f0,.int .i64 t0],.bool q0]) (by simp[results,Tryz.results230,go_sem,z0,z1,z2]) rfl ⟨by rw[ak.out,HV.out],((HB.out.setCell (by simp) _).setCell (by simp) _).setCell (by simp) _⟩
theorem ZC(u:World):(Instr.index 306 (.agg #[.bool false,.int .u8 128,.int .u8 183,.bool true,.int .u8 192,.int .u8 247]) (.int .i64 0)).run PQ u=.ok (.agg #[.bool false,.int .u8 128,.int .u8 183]) u:=by
 simp[Instr.index,run_underlying (uq Tryz.underlying306),asIntOf,go_sem]
theorem Y7(u:World):(Instr.index 306 (.agg #[.bool false,.int .u8 128,.int .u8 183,.bool true,.int .u8 192,.int .u8 247]) (.int .i64 1)).run PQ u=.ok (.agg #[.bool true,.int .u8 192,.int .u8 247]) u:=by
 simp[Instr.index,run_underlying (uq Tryz.underlying306),asIntOf,go_sem]
theorem D6(s:ByteArray)(w:World)(hs:s.size<=16777216)(hH:kQ w):
  Calls PQ 219 #[.string s] w λe w'=>e=.returned (uZ (Im.body s.data.toList))/\Below w.heap.size w w':=by
 have hl:=aV s;have h0:=hH.pos;have aj:=toList_empty s;by_cases hz:s.size=0
 ·have hR:Im.body s.data.toList=none:=by
   have:s.data.toList=[]:=bD (by omega);rw[this];rfl
  rw[hR];have he:s.toList.isEmpty=true:=by rw[aj];simp[hz]
  clear hR hl aj;go_enter (fq Tryz.func219 rfl),Tryz.ntmps219;go_wp2_with fail;exact bodyPost_ret (v:=.tuple #[.agg #[.bool false,.int .i64 0,.int .i64 0],.bool false]) (by simp[results,Tryz.results219,go_sem]) rfl ⟨rfl,(aB _ w).alloc jA _⟩
 ·have he:s.toList.isEmpty=false:=by rw[aj];simp[hz]
  have ar:0<s.size:=by omega
  have hx:=λu=>qx u s 0 0 ar rfl;obtain⟨c,hc⟩:∃c:UInt8,s[0]=c:=⟨_,rfl⟩
  have a6:=c.toNat_lt;rw[hc]at hx;have hR:Im.body s.data.toList=if c.toNat<128 then some (false,0,1)
  else if c.toNat<=183 then Im.chk false s.data.toList 1 (c.toNat-128)
  else if c.toNat<=187 then Im.far false s.data.toList (1+(c.toNat-183))
  else if c.toNat<192 then none
  else if c.toNat<=247 then Im.chk true s.data.toList 1 (c.toNat-192)
  else if c.toNat<=251 then Im.far true s.data.toList (1+(c.toNat-247))
  else none:=by
   have hg:=getD_byte s 0 ar;rw[hc]at hg;cases hd:s.data.toList with
   |nil=>exact absurd (by rw[hl,hd];rfl) hz
   |cons a r=>
    rw[hd]at hg;simp at hg;subst hg;rfl
  generalize Im.body s.data.toList=R at hR⊢;have HR:Hid _:=hR;clear hR hl aj hc;generalize hn:c.toNat=n at *;clear hn;by_cases au:n<128
  ·have ao:(n:Int)<128:=by omega
   go_enter (fq Tryz.func219 rfl),Tryz.ntmps219;go_wp2_with fail;exact bodyPost_ret (v:=.tuple #[.agg #[.bool false,.int .i64 0,.int .i64 1],.bool true]) (by simp[results,Tryz.results219,go_sem]) rfl ⟨by rw[HR.out,if_pos au];rfl,(aB _ w).alloc jA _⟩
  ·have ao:¬(n:Int)<128:=by omega
   have aw:=hH;obtain⟨⟨a0,a1,a2⟩,a3,a4,a5⟩:=aw;simp only[fC,Nat.reduceAdd]at a1 a2 a4 a5;obtain⟨X,hX,ae,Y⟩:=jE w #[.bool false,.int .i64 0,.int .i64 0] 311;have am:X.heap.size=w.heap.size+1:=by rw[hX];simp
   have hV:∀R':Option (Bool×Nat×Nat),∃b0 f0 t0 q0,uZ R'=.tuple #[.agg #[.bool b0,.int .i64 f0,.int .i64 t0],.bool q0]:=by
    intro R';cases R' with
    |none=>exact⟨_,_,_,_,rfl⟩
    |some z=>exact⟨_,_,_,_,rfl⟩
   have ak:Hid _:=hV;clear hV;go_enter (fq Tryz.func219 rfl),Tryz.ntmps219;go_wp2_with fail;rw[<-hX];have HX:Hid _:=jw am (jw ae Y);clear hX am ae Y a0 a1 a2 a3 a4 a5;go_loopg [16] 2 (λg t wx=>∃k:Nat,k<=2/\t=.int .i64 k/\g=2-k/\Below (w.heap.size+1) X wx/\(1<=k->187<n)/\(k=2->n<192\/251<n))
   case atStart=>exact⟨0,dF _,rfl,rfl,aB _ _,λh=>by omega,λh=>by omega⟩
   case round=>
    obtain⟨k,hk,rfl,rfl,hb,ap,av⟩:=hrel;obtain⟨am,ae,Y⟩:=HX.out;have ac:=hb.size;rw[am]at ac;have J:=(hb.block w.heap.size (by omega)).trans Y;have ah:Below w.heap.size w wr:=ae.trans (hb.mono (by omega));have az:=ZC;have ay:=Y7
    match k,hk with
    |0,_=>
     have aq:=ap;by_cases h1:128<=n/\n<=183
     ·obtain⟨g1,g2⟩:=h1;have hR:R=Im.chk false s.data.toList 1 (n-128):=by rw[HR.out];repeat' first|rw[if_neg (by omega)]|rw[if_pos (by omega)]
      obtain⟨b0,f0,t0,q0,hV⟩:=ak.out (Im.chk false s.data.toList 1 (n-128));have HV:Hid _:=hV;have ab:Hid _:=hR;have af:Hid _:=J;clear hR HR hV J Y;have ai:(128:Int)<=(n:Int):=by omega
      have ag:(n:Int)<=183:=by omega
      go_wp2_with fail;rw[show(n:Int)-128=((n-128:Nat):Int) from by omega];refine(CB false 128 183 s 1 (n-128) _ hs (by omega) (by omega)).mono ?_;rintro e w3 ⟨rfl,I⟩;have aa:Below (w.heap.size+1) X w3:=(hb.alloc ac _).trans (I.mono (by simp;omega));rw[HV.out];have E:=(I.block w.heap.size (by simp;omega)).trans ((aT _ _ _ (by omega)).trans af.out);obtain⟨z0,z1,z2⟩:=cells3 E;have fz:=aI E;have HB:Hid (Below w.heap.size w w3):=ae.trans (aa.mono (by omega));clear E I aa hb ah;go_wp2_with fail;exact bodyPost_ret (v:=.tuple #[.agg #[.bool b0,.int .i64 f0,.int .i64 t0],.bool q0]) (by simp[results,Tryz.results219,go_sem,z0,z1,z2]) rfl ⟨by rw[ab.out,HV.out],((HB.out.setCell (by simp) _).setCell (by simp) _).setCell (by simp) _⟩
     ·by_cases h2:183<n/\n<=187
      ·obtain⟨g1,g2⟩:=h2;have hR:R=Im.far false s.data.toList (1+(n-183)):=by rw[HR.out];repeat' first|rw[if_neg (by omega)]|rw[if_pos (by omega)]
       obtain⟨b0,f0,t0,q0,hV⟩:=ak.out (Im.far false s.data.toList (1+(n-183)));have HV:Hid _:=hV;have ab:Hid _:=hR;have af:Hid _:=J;clear hR HR hV J Y;have ai:(183:Int)<(n:Int):=by omega
       have ag:(n:Int)<=187:=by omega
       go_wp2_with fail;rw[show 1+((n:Int)-183)=((1+(n-183):Nat):Int) from by omega];refine(zf false 128 183 s (1+(n-183)) _ hs (by omega) (by omega)).mono ?_;rintro e w3 ⟨rfl,I⟩;have aa:Below (w.heap.size+1) X w3:=(hb.alloc ac _).trans (I.mono (by simp;omega));rw[HV.out];have E:=(I.block w.heap.size (by simp;omega)).trans ((aT _ _ _ (by omega)).trans af.out);obtain⟨z0,z1,z2⟩:=cells3 E;have fz:=aI E;have HB:Hid (Below w.heap.size w w3):=ae.trans (aa.mono (by omega));clear E I aa hb ah;go_wp2_with fail;exact bodyPost_ret (v:=.tuple #[.agg #[.bool b0,.int .i64 f0,.int .i64 t0],.bool q0]) (by simp[results,Tryz.results219,go_sem,z0,z1,z2]) rfl ⟨by rw[ab.out,HV.out],((HB.out.setCell (by simp) _).setCell (by simp) _).setCell (by simp) _⟩
      ·have h3:187<n:=by omega
       have ai:(128:Int)<=(n:Int):=by omega
       have ag:(183:Int)<(n:Int):=by omega
       have ax:(187:Int)<(n:Int):=by omega
       clear J Y;go_wp2_with fail;go_roundg 1
       case measure=>omega
       case rel=>exact⟨1,by omega,rfl,rfl,hb.alloc ac _,λ_=>h3,λh=>by omega⟩
    |1,_=>
     have aq:=ap;have an:=ap (by omega);by_cases h1:192<=n/\n<=247
     ·obtain⟨g1,g2⟩:=h1;have hR:R=Im.chk true s.data.toList 1 (n-192):=by rw[HR.out];repeat' first|rw[if_neg (by omega)]|rw[if_pos (by omega)]
      obtain⟨b0,f0,t0,q0,hV⟩:=ak.out (Im.chk true s.data.toList 1 (n-192));have HV:Hid _:=hV;have ab:Hid _:=hR;have af:Hid _:=J;clear hR HR hV J Y;have ai:(192:Int)<=(n:Int):=by omega
      have ag:(n:Int)<=247:=by omega
      go_wp2_with fail;rw[show(n:Int)-192=((n-192:Nat):Int) from by omega];refine(CB true 192 247 s 1 (n-192) _ hs (by omega) (by omega)).mono ?_;rintro e w3 ⟨rfl,I⟩;have aa:Below (w.heap.size+1) X w3:=(hb.alloc ac _).trans (I.mono (by simp;omega));rw[HV.out];have E:=(I.block w.heap.size (by simp;omega)).trans ((aT _ _ _ (by omega)).trans af.out);obtain⟨z0,z1,z2⟩:=cells3 E;have fz:=aI E;have HB:Hid (Below w.heap.size w w3):=ae.trans (aa.mono (by omega));clear E I aa hb ah;go_wp2_with fail;exact bodyPost_ret (v:=.tuple #[.agg #[.bool b0,.int .i64 f0,.int .i64 t0],.bool q0]) (by simp[results,Tryz.results219,go_sem,z0,z1,z2]) rfl ⟨by rw[ab.out,HV.out],((HB.out.setCell (by simp) _).setCell (by simp) _).setCell (by simp) _⟩
     ·by_cases h2:247<n/\n<=251
      ·obtain⟨g1,g2⟩:=h2;have hR:R=Im.far true s.data.toList (1+(n-247)):=by rw[HR.out];repeat' first|rw[if_neg (by omega)]|rw[if_pos (by omega)]
       obtain⟨b0,f0,t0,q0,hV⟩:=ak.out (Im.far true s.data.toList (1+(n-247)));have HV:Hid _:=hV;have ab:Hid _:=hR;have af:Hid _:=J;clear hR HR hV J Y;have ai:(247:Int)<(n:Int):=by omega
       have ag:(n:Int)<=251:=by omega
       go_wp2_with fail;rw[show 1+((n:Int)-247)=((1+(n-247):Nat):Int) from by omega];refine(zf true 192 247 s (1+(n-247)) _ hs (by omega) (by omega)).mono ?_;rintro e w3 ⟨rfl,I⟩;have aa:Below (w.heap.size+1) X w3:=(hb.alloc ac _).trans (I.mono (by simp;omega));rw[HV.out];have E:=(I.block w.heap.size (by simp;omega)).trans ((aT _ _ _ (by omega)).trans af.out);obtain⟨z0,z1,z2⟩:=cells3 E;have fz:=aI E;have HB:Hid (Below w.heap.size w w3):=ae.trans (aa.mono (by omega));clear E I aa hb ah;go_wp2_with fail;exact bodyPost_ret (v:=.tuple #[.agg #[.bool b0,.int .i64 f0,.int .i64 t0],.bool q0]) (by simp[results,Tryz.results219,go_sem,z0,z1,z2]) rfl ⟨by rw[ab.out,HV.out],((HB.out.setCell (by simp) _).setCell (by simp) _).setCell (by simp) _⟩
      ·have h3:n<192\/251<n:=by omega
       clear J Y;rcases h3 with h3|h3
       ·have ai:(n:Int)<192:=by omega
        have ag:(n:Int)<=247:=by omega
        go_wp2_with fail;go_roundg 0
        case measure=>omega
        case rel=>exact⟨2,by omega,rfl,rfl,hb.alloc ac _,λ_=>an,λ_=>by omega⟩
       ·have ai:(192:Int)<=(n:Int):=by omega
        have ag:(247:Int)<(n:Int):=by omega
        have ax:(251:Int)<(n:Int):=by omega
        go_wp2_with fail;go_roundg 0
        case measure=>omega
        case rel=>exact⟨2,by omega,rfl,rfl,hb.alloc ac _,λ_=>an,λ_=>by omega⟩
    |2,_=>
     have aq:=av rfl;have hR:R=none:=by rw[HR.out];repeat' first|rw[if_neg (by omega)]|split|rfl|omega
     have ab:Hid _:=hR;obtain⟨z0,z1,z2⟩:=cells3 J;have fz:=aI J;have HB:Hid _:=ah;clear J Y hR HR hb ah;go_wp2_with fail;exact bodyPost_ret (v:=.tuple #[.agg #[.bool false,.int .i64 0,.int .i64 0],.bool false]) (by simp[results,Tryz.results219,go_sem,z0,z1,z2]) rfl ⟨by rw[ab.out];rfl,((HB.out.setCell (by simp) _).setCell (by simp) _).setCell (by simp) _⟩
end
section
open Go.RowKit Go.Joins Go.Shelf
attribute [local go_sem] Oper.semAt_some
variable {u0 u1 u2 c0 c1 c2:Value}{t:TypeId}{wr w3:World}{n lo:Nat}{i:Im.It}
def TA:Go.Shelf.Ren:=⟨fun|316=>198|n=>n,fun|0=>0|3=>3|4=>4|5=>5|9=>9|37=>155|127=>239|n=>n,fun|n=>n⟩
theorem G9:Go.Proofs.LaysM.n316 PQ TA:={
 mixed:=by kernel_rfl
 f316:=(fq Tryz.func198 rfl).trans (congrArg some (by kernel_rfl))
 t0:=(uq Tryz.underlying0)
 a0:=(uO Tryz.isAgg0)
 z0:=(uz Tryz.sizeOf0)
 v0:=(uI Tryz.zeroValue0)
 t3:=(uq Tryz.underlying3)
 a3:=(uO Tryz.isAgg3)
 z3:=(uz Tryz.sizeOf3)
 v3:=(uI Tryz.zeroValue3)
 t4:=(uq Tryz.underlying4)
 a4:=(uO Tryz.isAgg4)
 z4:=(uz Tryz.sizeOf4)
 v4:=(uI Tryz.zeroValue4)
 t5:=(uq Tryz.underlying5)
 a5:=(uO Tryz.isAgg5)
 z5:=(uz Tryz.sizeOf5)
 v5:=(uI Tryz.zeroValue5)
 t9:=(uq Tryz.underlying9)
 a9:=(uO Tryz.isAgg9)
 z9:=(uz Tryz.sizeOf9)
 v9:=(uI Tryz.zeroValue9)
 t37:=(uq Tryz.underlying155)
 a37:=(uO Tryz.isAgg155)
 z37:=(uz Tryz.sizeOf155)
 v37:=(uI Tryz.zeroValue155)
 t127:=(uq Tryz.underlying239)
 a127:=(uO Tryz.isAgg239)
 z127:=(uz Tryz.sizeOf239)
 v127:=(uI Tryz.zeroValue239)
 i0:=by kernel_rfl
 i3:=by kernel_rfl
 i4:=by kernel_rfl
 i5:=by kernel_rfl
 i9:=by kernel_rfl
 i37:=by kernel_rfl
 i127:=by kernel_rfl }
theorem clone_any(s:ByteArray)(w:World)(hs:s.size<=16777216):Calls PQ 151 #[.string s] w λe w'=>e=.returned (.string s)/\Below w.heap.size w w':=by
 go_enter (fq Tryz.func151 rfl),Tryz.ntmps151;go_wp2_with fail;refine(Any.stringslite_Clone (ρ:=TA) G9 s w (by omega)).mono ?_;rintro e w1 ⟨rfl,z⟩;go_wp2_with fail;go_ret;exact⟨rfl,z⟩
def Got(n lo:Nat)(w':World)(e:Ending):Option (Im.It×Nat)->Prop
 |none=>e=.returned (.tuple #[.agg #[.bool false,.string ⟨#[]⟩,.slice none 0 0],.int .i64 0,.bool false])
 |some x=>∃a cap,e=.returned (.tuple #[.agg #[.bool x.1.list,.string ⟨x.1.bytes.toArray⟩,.slice a x.1.kids.length cap],.int .i64 x.2,.bool true])/\Tr w' n lo w'.heap.size (.bool x.1.list) (.string ⟨x.1.bytes.toArray⟩) (.slice a x.1.kids.length cap) x.1
def FirstSaid(d:Nat):Prop:=∀(s:ByteArray)(z:Nat)(w:World),s.size<=16777216->z+d=9->kQ w->
  Calls PQ 206 #[.string s,.int .i64 z] w λe w'=>Got (d+1) w.heap.size w' e (Im.read Im.body d s.data.toList)/\Below w.heap.size w w'
structure X where
 e:Nat
 i:Im.It
 a:Option Addr
 cap:Nat
def X.encs(x:X):Array Value:=#[.int .i64 x.e,.agg #[.bool x.i.list,.string ⟨x.i.bytes.toArray⟩,.slice x.a x.i.kids.length x.cap]]
def mP(l:List X):Nat:=l.foldl (λ_ x=>x.e) 0
theorem lg(l:List X)(x:X):mP (l++[x])=x.e:=by simp[mP]
def XY(n:Nat)(z:List X)(x:X)(lo:Nat)(W:World):Prop:=z.length<16777216/\Tr W n lo W.heap.size (.bool x.i.list) (.string ⟨x.i.bytes.toArray⟩) (.slice x.a x.i.kids.length x.cap) x.i
theorem XY.turn(n:Nat)(z:List X)(x:X)(lo:Nat)(W E:World)(h:∀k,lo<=k->E.heap[k]? =W.heap[k]?)(hs:E.heap.size=W.heap.size)(I:XY n z x lo W):XY n z x lo E:=by
 refine⟨I.1,?_⟩;rw[hs];exact Tr.kept n _ _ _ _ _ _ (λk J _=>h k J) I.2
def Done(d:Nat)(s:ByteArray)(xs:List X):Prop:=∃p,Im.mJ (Im.read Im.body d) s.data.toList (xs.map X.i) p/\mP xs=p/\(s.size<=p\/p<s.size/\Im.read Im.body d (s.data.toList.drop p)=none)
def Left(d:Nat)(s:ByteArray)(xs:List X):Prop:=∃p,Im.mJ (Im.read Im.body d) s.data.toList (xs.map X.i) p/\mP xs=p
theorem K3.FU(w:World)(x y z:Value)(t:TypeId):K3 (w.alloc (.cells #[x,y,z] t)) w.heap.size 0 x y z:=⟨by simp,by simp,by simp⟩
theorem K3.acf{w:World}{b:Nat}(h:w.heap[b]? =some (.cells #[u0,u1,u2] t (0,0)))(x y z:Value):K3 (((w.setCell ⟨b,0,none⟩ x).setCell ⟨b,1,none⟩ y).setCell ⟨b,2,none⟩ z) b 0 x y z:=by
 have E:=block_setCell h (i:=0) x;have h2:=block_setCell E (i:=1) y;have h3:=block_setCell h2 (i:=2) z;refine⟨?_,?_,?_⟩<;>rw[aA h3]<;>simp
theorem FH(E:Below wr.heap.size wr w3)(ht:Tr w3 n lo w3.heap.size c0 c1 c2 i)(z:wr.heap.size<=lo)(t:TypeId):
  Below wr.heap.size wr (w3.alloc (.cells #[c0,c1,c2] t))/\K3 (w3.alloc (.cells #[c0,c1,c2] t)) w3.heap.size 0 c0 c1 c2/\Tr (w3.alloc (.cells #[c0,c1,c2] t)) n wr.heap.size (w3.alloc (.cells #[c0,c1,c2] t)).heap.size c0 c1 c2 i:=
 ⟨E.alloc E.size _,K3.FU _ _ _ _ _,Tr.wider (Tr.kept n _ _ _ _ _ _ (λ_ _ I=>aT _ _ _ I) ht) z (by simp)⟩
theorem OJ(E:Below wr.heap.size wr w3)(ht:Tr w3 n lo w3.heap.size c0 c1 c2 i)(z:wr.heap.size<lo)(I:w3.heap[wr.heap.size]? =some (.cells #[u0,u1,u2] t (0,0))):
  Below wr.heap.size wr (((w3.setCell ⟨wr.heap.size,0,none⟩ c0).setCell ⟨wr.heap.size,1,none⟩ c1).setCell ⟨wr.heap.size,2,none⟩ c2)/\K3 (((w3.setCell ⟨wr.heap.size,0,none⟩ c0).setCell ⟨wr.heap.size,1,none⟩ c1).setCell ⟨wr.heap.size,2,none⟩ c2) wr.heap.size 0 c0 c1 c2/\Tr (((w3.setCell ⟨wr.heap.size,0,none⟩ c0).setCell ⟨wr.heap.size,1,none⟩ c1).setCell ⟨wr.heap.size,2,none⟩ c2) n wr.heap.size (((w3.setCell ⟨wr.heap.size,0,none⟩ c0).setCell ⟨wr.heap.size,1,none⟩ c1).setCell ⟨wr.heap.size,2,none⟩ c2).heap.size c0 c1 c2 i:=
 ⟨((E.setCell jA _).setCell jA _).setCell jA _,K3.acf I _ _ _,Tr.wider (Tr.kept n _ _ _ _ _ _ (λ_ J _=>by
  rw[aP _ _ _ _ (by simp;omega),aP _ _ _ _ (by simp;omega),aP _ _ _ _ (by simp;omega)]) ht) (by omega) (by simp[World.setCell])⟩
theorem sJ(d:Nat)(hf:FirstSaid d)(s:ByteArray)(ab sB dB:Nat)(w:World)(hs:s.size<=16777216)(bg:ab+d=9)(hH:kQ w)(h0:1<w.heap.size)
  (aw:w.cell? ⟨sB,0,none⟩=some (.string s)) (az:w.cell? ⟨dB,0,none⟩=some (.int .i64 ab)) (bb:sB<w.heap.size) (hdl:dB<w.heap.size):
  Gives PQ 205 #[.pointer (some ⟨sB,0,none⟩),.pointer (some ⟨dB,0,none⟩)] X.encs (λk=>k=1\/k=sB\/k=dB) (XY (d+1)) (Done d s) (Left d s) w:=by
 intro l J Jx W hW au av;have Hf:Hid _:=hf;have HY:Hid _:=au;have a9:Hid _:=av;clear hf au av;refine callsIn_of_wp (fq Tryz.func205 rfl) rfl trivial ?_ rfl;simp only[Tryz.ntmps205,dL,aN,bM,Nat.reduceAdd,Nat.reduceSub,cO,bZ,dN,cZ,dM,dH];gi_wp2
 gi_loopw [4] (λt wr=>∃(E:List X)(W0:World)(p:Nat),t=.int .i64 p/\Hid (Im.mJ (Im.read Im.body d) s.data.toList (E.map X.i) p/\mP E=p/\p<=s.size/\E.length<=p/\J E W0/\Below W0.heap.size W0 wr/\kQ wr/\sB<wr.heap.size/\dB<wr.heap.size)/\wr.cell? ⟨sB,0,none⟩=some (.string s)/\wr.cell? ⟨dB,0,none⟩=some (.int .i64 ab))
  (λt wr=>s.size-(intOf t).toNat)
 case atStart=>
  have:=hW.size;exact⟨[],W,0,rfl,⟨Im.mJ.nil,rfl,dF _,jA,a9.out,aB _ _,hH.below hW h0,by omega,by omega⟩,(hW.cell (p:=⟨sB,0,none⟩) bb).trans aw,(hW.cell (p:=⟨dB,0,none⟩) hdl).trans az⟩
 case round=>
  obtain⟨E,W0,p,rfl,Hr,c0,c1⟩:=hrel;clear aw az;by_cases an:p<s.size
  ·have a7:(p:Int)<s.size:=by omega
   have bd:(s.extract p s.size).size<=16777216:=by simp;omega
   have ak:(s.extract p s.size).data.toList=s.data.toList.drop p:=by rw[ext_list,dV (by rw[<-aV];omega)]
   have I:=λ(W:World)(hW:Below wr.heap.size wr W)=>Hf.out (s.extract p s.size) ab W bd bg (Hr.out.2.2.2.2.2.2.1.below hW Hr.out.2.2.2.2.2.2.1.pos);have z:=aB wr.heap.size wr;obtain⟨_,_,_,_,_,_,_,bh,ba⟩:=Hr.out;have bm:sB≠wr.heap.size:=by omega
   have bo:dB≠wr.heap.size:=by omega
   rw[ak]at I;generalize hC:Im.read Im.body d (s.data.toList.drop p)=C at I;have ac:Hid _:=I;have HC:Hid _:=hC;clear I hC ak;gi_wp2;refine wpIn_wide.2 ?_;cases C with
   |none=>
    go_cut [5,6,7] (λv5 v6 v7 wx=>v7=.bool false/\Below wr.heap.size wr wx)
    case first=>
     go_region_with (go_at_call 206;refine(ac.out _ ?_).mono ?_;(first|exact z|exact z.drew|exact below_drewN z _|exact z.alloc jA _|exact below_drewN (z.alloc jA _) _|exact(below_drewN z _).alloc jA _);rintro e w3 ⟨ao,ae⟩;obtain rfl:=ao;have R:Below wr.heap.size wr w3:=Below.trans (by first|exact z|exact z.drew|exact below_drewN z _|exact z.alloc jA _|exact below_drewN (z.alloc jA _) _|exact(below_drewN z _).alloc jA _) (ae.mono (by simp));(try (have hz:w3.heap[wr.heap.size]? =some (.cells #[.bool false,.string ⟨#[]⟩,.slice none 0 0] 103 (0,0)):=(ae.block wr.heap.size (by simp)).trans (by first|exact heap_alloc_new _ _|(have:=heap_alloc_new (wr.drewN 0) (.cells #[.bool false,.string ⟨#[]⟩,.slice none 0 0] 103);simpa using this));have z0:w3.cell? ⟨wr.heap.size,0,none⟩=some (.bool false):=(by rw[aA hz];rfl);have z1:w3.cell? ⟨wr.heap.size,1,none⟩=some (.string ⟨#[]⟩):=(by rw[aA hz];rfl);have z2:w3.cell? ⟨wr.heap.size,2,none⟩=some (.slice none 0 0):=(by rw[aA hz];rfl);have fz:=aI hz)))
     all_goals
      go_wp2_with fail;go_meet;refine⟨rfl,?_⟩
      first
       |exact R.alloc R.size _
       |exact below_drewN (R.alloc R.size _) _
       |exact((R.setCell jA _).setCell jA _).setCell jA _
       |exact below_drewN (((R.setCell jA _).setCell jA _).setCell jA _) _
    case rest=>
     obtain⟨rfl,aa⟩:=hcut;gi_wp2;refine bodyPost_ret (results_none rfl _ _ _) rfl ?_;obtain⟨he,ah,ax,ay,hJ,Y,ag,_,_⟩:=Hr.out;exact⟨⟨_,rfl⟩,.inl ⟨E,W0,⟨p,he,ah,.inr ⟨an,HC.out⟩⟩,hJ,Y.trans (aa.mono Y.size)⟩⟩
   |some x=>
    obtain⟨i,n⟩:=x;have am:=Im.rG Im.oI d _ _ _ HC.out;rw[dP,<-aV]at am;have bq:1<=n:=am.1;have bl:p+n<=s.size:=by omega
    clear am;obtain⟨IB,ap⟩:∃IB:ByteArray,(⟨i.bytes.toArray⟩:ByteArray)=IB:=⟨_,rfl⟩
    go_cut [5,6,7] (λv5 v6 v7 wx=>∃(b:Nat)(a:Option Addr)(cap:Nat),v5=.pointer (some ⟨b,0,none⟩)/\v6=.int .i64 n/\v7=.bool true/\Below wr.heap.size wr wx/\K3 wx b 0 (.bool i.list) (.string IB) (.slice a i.kids.length cap)/\Tr wx (d+1) wr.heap.size wx.heap.size (.bool i.list) (.string IB) (.slice a i.kids.length cap) i)
    case first=>
     go_region_with (go_at_call 206;refine(ac.out _ ?_).mono ?_;(first|exact z|exact z.drew|exact below_drewN z _|exact z.alloc jA _|exact below_drewN (z.alloc jA _) _|exact(below_drewN z _).alloc jA _);rintro e w3 ⟨ao,ae⟩;obtain⟨a3,aj,rfl,ai⟩:=ao;simp only at ai⊢;rw[ap]at ai⊢;have ar:Hid (Tr _ _ _ _ _ _ _ _):=ai;clear ai;have R:Below wr.heap.size wr w3:=Below.trans (by first|exact z|exact z.drew|exact below_drewN z _|exact z.alloc jA _|exact below_drewN (z.alloc jA _) _|exact(below_drewN z _).alloc jA _) (ae.mono (by simp));(try (have hz:w3.heap[wr.heap.size]? =some (.cells #[.bool false,.string ⟨#[]⟩,.slice none 0 0] 103 (0,0)):=(ae.block wr.heap.size (by simp)).trans (by first|exact heap_alloc_new _ _|(have:=heap_alloc_new (wr.drewN 0) (.cells #[.bool false,.string ⟨#[]⟩,.slice none 0 0] 103);simpa using this));have z0:w3.cell? ⟨wr.heap.size,0,none⟩=some (.bool false):=(by rw[aA hz];rfl);have z1:w3.cell? ⟨wr.heap.size,1,none⟩=some (.string ⟨#[]⟩):=(by rw[aA hz];rfl);have z2:w3.cell? ⟨wr.heap.size,2,none⟩=some (.slice none 0 0):=(by rw[aA hz];rfl);have fz:=aI hz)))
     all_goals
      go_wp2_with fail;go_meet
      first
       |exact⟨_,a3,aj,rfl,rfl,rfl,FH R ar.out (by simp) _⟩
       |exact⟨_,a3,aj,rfl,rfl,rfl,OJ R ar.out (by simp) hz⟩
    case rest=>
     obtain⟨b,a,cap,rfl,rfl,rfl,aa,⟨k0,k1,k2⟩,af⟩:=hcut;rw[fC]at k1 k2;rw[<-ap]at af;obtain⟨he,ah,ax,ay,hJ,Y,ag,_,_⟩:=Hr.out;have a8:=Y.trans (aa.mono Y.size);obtain⟨fn,tmps,assign,body,hy,hR⟩:=HY.out E ⟨p+n,i,a,cap⟩ W0 wc hJ a8 ⟨by omega,af.wider Y.size jA⟩;simp only[X.encs,Int.natCast_add]at hy;rw[ap]at hy;have HR:Hid _:=hR;have br:Hid _:=af;clear hR af;have bn:(p:Int)+(n:Int)<=16777216:=by omega
     gi_wp2;refine RoundIn.mono HR.out ?_;rintro e W3 (⟨rfl,bk,bp,aq⟩|⟨rfl,a6⟩)
     ·gi_wp2;go_roundw
      case rel=>
       have q0:=aq 1 (.inl rfl);have q1:=aq sB (.inr (.inl rfl));have q2:=aq dB (.inr (.inr rfl));have s5:=aa.size;have bj:=ag.below aa ag.pos;refine⟨E++[⟨p+n,i,a,cap⟩],W3,p+n,by simp,⟨?_,lg _ _,bl,by simp;omega,bk,aB _ _,?_,by omega,by omega⟩,?_,?_⟩
       ·rw[aY];exact Im.mJ.snoc he (by rw[<-aV];exact an) HC.out
       ·obtain⟨⟨a0,a1,a2⟩,a3,a4,a5⟩:=bj;exact⟨⟨(World.cell?_of_block q0).trans a0,(World.cell?_of_block q0).trans a1,(World.cell?_of_block q0).trans a2⟩,(World.cell?_of_block q0).trans a3,(World.cell?_of_block q0).trans a4,(World.cell?_of_block q0).trans a5⟩
       ·exact(World.cell?_of_block q1).trans ((aa.cell (p:=⟨sB,0,none⟩) bh).trans c0)
       ·exact(World.cell?_of_block q2).trans ((aa.cell (p:=⟨dB,0,none⟩) ba).trans c1)
      case measure=>simp[intOf];omega
     ·gi_wp2;refine bodyPost_ret (results_none rfl _ _ _) rfl ?_;refine⟨⟨_,rfl⟩,.inr ⟨E++[⟨p+n,i,a,cap⟩],W3,⟨p+n,?_,lg _ _⟩,a6,aB _ _⟩⟩;rw[aY];exact Im.mJ.snoc he (by rw[<-aV];exact an) HC.out
  ·have a7:¬(p:Int)<s.size:=by omega
   gi_wp2;go_end0;obtain⟨he,ah,ax,ay,hJ,Y,ag,_,_⟩:=Hr.out;exact⟨⟨_,rfl⟩,.inl ⟨E,⟨p,he,ah,.inl (by omega)⟩,W0,hJ,Y⟩⟩
end
section
open Go.RowKit Go.Joins
section
variable {w w' A B:World}{n lo base e k g cap size:Nat}{v:Value}{ks:List Im.It}{row:Option Nat}{xs:List Value}
theorem Tr.J9:∀(n lo z:Nat)(c0 E J:Value)(i:Im.It),(∀k o,lo<=k->k<z->w.heap[k]? =some o->o.isCells=true->w'.heap[k]? =some o)->Tr w n lo z c0 E J i->Tr w' n lo z c0 E J i
 |0,_,_,_,_,_,_,_,h=>h
 |n+1,lo,z,c0,E,J,i,hk,h=>by
  obtain⟨h0,xs,L,H,h1,h2,h3,h4,h5⟩:=h;refine⟨h0,xs,L,H,⟨h1.1,?_⟩,h2,h3,h4,λj hj=>?_⟩
  ·rcases h1.2 with hz|⟨g,cap,I,hv,Y,hh,r⟩
   ·exact .inl hz
   ·exact .inr ⟨g,cap,I,hv,Y,hk g _ Y (h2 g (by rw[hv];rfl)) hh rfl,r⟩
  ·obtain⟨d0,d1,R,e0,e1,e2,e3⟩:=h5 j hj;have:=h3 j hj;exact⟨d0,d1,R,e0,e1,e2,Tr.J9 n (L j) (H j) d0 d1 R _ (λk o a b=>hk k o (by omega) (by omega)) e3⟩
theorem Row.J9{z:Nat}(h:Row w n lo z v ks)(hk:∀k o,lo<=k->k<z->w.heap[k]? =some o->o.isCells=true->w'.heap[k]? =some o):Row w' n lo z v ks:=
 (Tr.J9 (n+1) lo z (.bool true) (.string ⟨#[]⟩) v ⟨true,[],ks⟩ hk ⟨⟨rfl,rfl⟩,h⟩).2
theorem kC(J:A.grownBy B row)(I:∀r,row=some r->∃o:Obj,A.heap[r]? =some o/\o.isCells=false):∀(k:Nat)(o:Obj),A.heap[k]? =some o->o.isCells=true->B.heap[k]? =some o:=by
 intro k o hk E;refine(J.block k (jC hk) (λe=>?_)).trans hk;obtain⟨o',z,h2⟩:=I k e.symm;rw[hk]at z;cases z;rw[E]at h2;cases h2
theorem Row.turn(h:Row A n lo A.heap.size v ks)(z:A.grownBy B row)(E:∀r,row=some r->∃o:Obj,A.heap[r]? =some o/\o.isCells=false):Row B n lo B.heap.size v ks:=
 (h.J9 (λk o _ _=>kC z E k o)).wider jA z.size
theorem Tr.turn{c0 I z:Value}{i:Im.It}(h:Tr A n lo A.heap.size c0 I z i)(E:A.grownBy B row)(J:∀r,row=some r->∃o:Obj,A.heap[r]? =some o/\o.isCells=false):Tr B n lo B.heap.size c0 I z i:=
 (Tr.J9 n _ _ _ _ _ _ (λk o _ _=>kC E J k o) h).wider jA E.size
theorem D9{F:Fence}{P:Program}{o:Oper}{a:Act}{K:Act->World->Prop}{Q:Exit->Act->World->Prop}{s x:Operand}{t:TypeId}{u v':Value}(hw:Bool)(z:hw=true)
  (J:o.op=.call { callee:=.builtin .append,args:=#[s,x],argTypes:=#[t,t] }) (hs:a.eval s=v) (hx:a.eval x=u) (Y:(Builtin.append_ #[t,t] o.type #[v,u]).run P w=.ok v' w') (R:K (a.put o.dst v') w') {E:Prop}:
  if hw=true then Oper.wpIn F n P o a w K Q else E:=by
 rw[if_pos z];unfold Oper.wpIn;refine⟨?_,?_⟩
 ·simp[Oper.about,J,resolve,Target.leads,Sem.run_pure]
 ·rw[Oper.semAt_plain F _ _ (by rw[J];intro c I;cases I)];simp[execOp,J,resolve,invoke,builtin,hs,hx,Y,Result.andThen];exact R
theorem Uh{z0 z1 z2:Value}(h:w.ownsRow base e 3 (.slice (some ⟨g,0,none⟩) (k+1) cap) (k+1) (xs++[z0,z1,z2]))(J:xs.length=k*3)(d0 d1 R:Value):
  (((w.setCell ⟨g,k*3,none⟩ d0).setCell ⟨g,k*3+1,none⟩ d1).setCell ⟨g,k*3+2,none⟩ R).ownsRow base e 3 (.slice (some ⟨g,0,none⟩) (k+1) cap) (k+1) (xs++[d0,d1,R]):=by
 refine⟨by simp[J];omega,?_⟩;rcases h.2 with⟨h1,_⟩|⟨g',ab,z,hv,hb,hh,E,Y,I,ht⟩
 ·simp at h1
 ·simp only[Value.slice.injEq,aC,Addr.mk.injEq,and_true,true_and]at hv;obtain⟨rfl,rfl⟩:=hv;have a1:=block_setCell hh (i:=k*3) d0;have a2:=block_setCell a1 (i:=k*3+1) d1;have a3:=block_setCell a2 (i:=k*3+2) R;refine .inr ⟨g,cap,_,rfl,hb,a3,E,Y,by simp[I],?_⟩;have ac:(k+1)*3<=z.toList.length:=by rw[ji,I];exact fD 3 E
  have aa:z.toList.take (k*3)=xs:=by
   have:=congrArg (List.take (k*3)) ht;rw[List.take_take,fO (by omega)]at this;rw[this,<-J];simp
  apply List.ext_getElem?;intro i;simp only[Array.toList_setIfInBounds,gG];by_cases h3:i<(k+1)*3
  ·rw[if_pos h3];by_cases hi:i<k*3
   ·rw[bP (by omega),<-aa,gG,if_pos hi];simp only[iJ];rw[if_neg (by omega),if_neg (by omega),if_neg (by omega)]
   ·rw[bK (by omega),J];simp only[iJ,List.length_set];rcases(by omega:i=k*3\/i=k*3+1\/i=k*3+2)with rfl|rfl|rfl
    ·rw[if_neg (by omega),if_neg (by omega),if_pos rfl,if_pos (by omega),Nat.sub_self];rfl
    ·rw[if_neg (by omega),if_pos rfl,if_pos (by omega),show k*3+1-k*3=1 from by omega];rfl
    ·rw[if_pos rfl,if_pos (by omega),show k*3+2-k*3=2 from by omega];rfl
  ·rw[if_neg h3,List.getElem?_eq_none (by simp[J];omega)]
theorem wH(h:w.ownsRow base e size v k xs)(hk:0<k):∃g cap,v=.slice (some ⟨g,0,none⟩) k cap:=by
 rcases h.2 with⟨_,E⟩|⟨g,cap,z,rfl,_⟩
 ·omega
 ·exact⟨g,cap,rfl⟩
theorem BG(h:w.ownsRow base e size v k xs):∃a cap,v=.slice a k cap:=by
 rcases h.2 with⟨rfl,E⟩|⟨g,cap,z,rfl,_⟩
 ·exact⟨none,0,by rw[E]⟩
 ·exact⟨_,cap,rfl⟩
theorem L6(h:w.ownsRow base e size v k xs)(g:Nat)(o:Obj)(z:v.ownBlock=some g)(E:w.heap[g]? =some o):o.isCells=true:=by
 rcases h.2 with⟨rfl,R⟩|⟨g',cap,I,rfl,_,J,_⟩
 ·simp[Value.ownBlock]at z
 ·simp[Value.ownBlock]at z;subst z;rw[J]at E;cases E;rfl
theorem yB(b n:Nat):(⟨b,0,none⟩:Addr).add n=⟨b,n,none⟩:=by
 unfold Addr.add;split
 ·rename_i h;subst h;rfl
 ·simp
theorem wE{l j:Nat}(h:w.ownsRow base e size (.slice (some ⟨g,0,none⟩) l cap) k xs):w.frozen? ⟨g,j,none⟩=false:=by
 rcases h.2 with⟨R,_⟩|⟨g',E,I,z,Y,J,_⟩
 ·simp at R
 ·simp only[Value.slice.injEq,aC,Addr.mk.injEq,and_true]at z;obtain⟨rfl,_⟩:=z;exact aI J j
end
end
end Go.Proofs.YtpibpdpedjinhaaGreatDoor
