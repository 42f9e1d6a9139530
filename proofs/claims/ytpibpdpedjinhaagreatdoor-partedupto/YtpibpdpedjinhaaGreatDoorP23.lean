import Derived.Test.YtpibpdpedjinhaaGreatDoorP22
set_option maxRecDepth 100000
set_option maxHeartbeats 8000000
set_option linter.unusedSimpArgs false
namespace Go.Proofs.YtpibpdpedjinhaaGreatDoor
namespace Hm
open Go.RowKit Go.Joins Go.Shelf
open Fr (below_drewN)
open Dv (U Cf Ba)
section
variable {m i e s n g off cap k:Nat}{w:World}{xs:List Value}
abbrev PW:=Ba×Value
variable {V:PW->Nat}{ws rs:List PW}{b:PW}
def lD(p:PW):List Value:=[.int .i64 p.1.epoch,.int .i64 p.1.id,.int .i64 p.1.time,p.2,.int .i64 p.1.place]
theorem mD(p:PW):(lD p).length=5:=rfl
def pick(V:PW->Nat):List PW->(Nat×Option PW)×List PW
 |[]=>((0,none),[])
 |b::r=>if V b=0 then((pick V r).1,b::(pick V r).2)else if V b=2 then((2,none),b::r)else if V b=3 then((3,some b),r)else pick V r
structure lq(V:PW->Nat)(ws rs:List PW)(m i:Nat):Prop where
 len:rs.length=ws.length
 le:m<=i
 ile:i<=ws.length
 back:rs.drop i=ws.drop i
 run:pick V ws=((pick V (ws.drop i)).1,rs.take m++(pick V (ws.drop i)).2)
 sub:∀p,p∈rs->p∈ws
theorem lq.start(V:PW->Nat)(ws:List PW):lq V ws ws 0 0:=⟨rfl,jA,dF _,rfl,by simp,λ_ h=>h⟩
theorem lq.at(h:lq V ws rs m i)(z:ws[i]? =some b):rs[i]? =some b:=by
 have:=congrArg (λq=>q[0]?) h.back;simpa[iT,z]using this
theorem wO{α:Type}{l:List α}{x:α}(h:l[i]? =some x):l.drop i=x::l.drop (i+1):=by
 obtain⟨z,rfl⟩:=aF.1 h;exact List.drop_eq_getElem_cons z
theorem lq.stay(h:lq V ws rs m i)(E:ws[i]? =some b)(J:V b=0):lq V ws (rs.set m b) (m+1) (i+1):=by
 have I:=(aF.1 E).1;have R:=h.le;have h2:=h.len;refine⟨by rw[List.length_set];exact h2,by omega,by omega,?_,?_,λp hp=>(List.mem_or_eq_of_mem_set hp).elim (h.sub p) (λe=>e ▸ aQ E)⟩
 ·rw[List.drop_set_of_lt (by omega)];have:=congrArg (List.drop 1) h.back;simpa[gZ]using this
 ·rw[h.run,wO E]
  have hp:pick V (b::ws.drop (i+1))=((pick V (ws.drop (i+1))).1,b::(pick V (ws.drop (i+1))).2):=by
   rw[pick,if_pos J]
  rw[hp]
  congr 1
  have z:rs.take (m+1)=rs.take m++[rs[m]'(by omega)]:=dZ (by omega);rw[List.take_set,z,List.set_append_right _ _ (by rw[aZ];omega),aZ,fO (by omega)];simp
theorem lq.go(h:lq V ws rs m i)(z:ws[i]? =some b)(I:V b≠0)(h2:V b≠2)(h3:V b≠3):lq V ws rs m (i+1):=by
 have E:=(aF.1 z).1;refine⟨h.len,by have:=h.le;omega,by omega,?_,?_,h.sub⟩
 ·have:=congrArg (List.drop 1) h.back;simpa[gZ]using this
 ·rw[h.run,wO z,pick,if_neg I,if_neg h2,if_neg h3]
theorem lq.halt(h:lq V ws rs m i)(z:ws[i]? =some b)(h2:V b=2):pick V ws=((2,none),rs.take m++rs.drop i):=by
 rw[h.run,h.back,wO z,pick,if_neg (by omega),if_pos h2]
theorem lq.got(h:lq V ws rs m i)(E:ws[i]? =some b)(h3:V b=3):pick V ws=((3,some b),rs.take m++rs.drop (i+1)):=by
 have z:rs.drop (i+1)=ws.drop (i+1):=by
  have:=congrArg (List.drop 1) h.back;simpa[gZ]using this
 rw[h.run,z,wO E,pick,if_neg (by omega),if_neg (by omega),if_pos h3]
theorem lq.done(h:lq V ws rs m i)(z:ws.length<=i):pick V ws=((0,none),rs.take m):=by
 rw[h.run,List.drop_eq_nil_of_le z,pick,fU]
section
variable {α:Type}(f:α->List Value)(s:Nat)(hf:∀x,(f x).length=s)
include hf
theorem pV(l:List α)(k:Nat):(l.flatMap f).take (k*s)=(l.take k).flatMap f/\(l.flatMap f).drop (k*s)=(l.drop k).flatMap f:=by
 induction l generalizing k with
 |nil=>simp
 |cons x l ih=>
  cases k with
  |zero=>simp
  |succ k=>
   have hk:(k+1)*s=s+k*s:=by rw[iL];omega
   rw[gQ,hk];constructor
   ·rw[List.take_append,hf x,dV (by rw[hf x];omega),Nat.add_sub_cancel_left,(ih k).1,List.take_succ_cons,gQ]
   ·rw[List.drop_append,hf x,List.drop_of_length_le (by rw[hf x];omega),Nat.add_sub_cancel_left,(ih k).2,List.drop_succ_cons,dM]
end
theorem Row.over(h:Row w e s (.slice (some ⟨g,off,none⟩) n cap) n xs)(vs:List Value)(hk:k+vs.length<=n*s):Row (w.setCells g (off+k) vs) e s (.slice (some ⟨g,off,none⟩) n cap) n (xs.take k++vs++xs.drop (k+vs.length)):=by
 have hl:=h.1;refine⟨by simp only[aJ,aZ,dP];omega,?_⟩;rcases h.2 with⟨h0,_⟩|⟨g',Y,aa,ab,hv,hh,E,J,R,hc⟩
 ·cases h0
 ·simp only[Value.slice.injEq,aC,Addr.mk.injEq,and_true,true_and]at hv;obtain⟨⟨rfl,rfl⟩,rfl⟩:=hv;obtain⟨I,k1,k2,k3,k4⟩:=qR vs (off+k) hh;refine .inr ⟨g,off,cap,I,rfl,k1,E,J,by rw[k2];exact R,λj v z=>?_⟩;have ac:n*s<=cap*s:=fD _ E;by_cases h1:j<k
  ·rw[fE,bP (by rw[aZ];omega),gG,if_pos h1]at z;rw[k3 _ (.inl (by omega))];exact hc j v z
  ·by_cases h2:j<k+vs.length
   ·rw[fE,bK (by rw[aZ];omega),aZ,fO (by omega),bP (by omega)]at z;have:=k4 (j-k) v z (by omega);rw[show off+j=off+k+(j-k) from by omega];exact this
   ·rw[bK (by simp only[aJ,aZ];omega)]at z;simp only[aJ,aZ]at z;rw[fO (by omega),iT]at z;rw[k3 _ (.inr (by omega))];exact hc j v (by rw[<-z];congr 1;omega)
theorem Row.lay(h:Row w e s (.slice (some ⟨g,off,none⟩) n cap) n xs){j:Nat}(vs:List Value)(hk:k<=n)(hv:vs.length=j*s)(hj:k+j<=cap):Row (w.setCells g (off+k*s) vs) e s (.slice (some ⟨g,off,none⟩) (k+j) cap) (k+j) (xs.take (k*s)++vs):=by
 have hl:=h.1;have R:k*s<=n*s:=fD _ hk;refine⟨by rw[aJ,aZ,hl,fO R,hv,iL],?_⟩;rcases h.2 with⟨h0,_⟩|⟨g',ab,ac,af,z,hh,ag,J,aa,hc⟩
 ·cases h0
 ·simp only[Value.slice.injEq,aC,Addr.mk.injEq,and_true,true_and]at z;obtain⟨⟨rfl,rfl⟩,rfl⟩:=z;obtain⟨I,k1,k2,k3,k4⟩:=qR vs (off+k*s) hh;have Y:(k+j)*s<=cap*s:=fD _ hj;rw[iL]at Y;refine .inr ⟨g,off,cap,I,rfl,k1,hj,J,by rw[k2];exact aa,λi v E=>?_⟩;by_cases h1:i<k*s
  ·rw[bP (by rw[aZ];omega),gG,if_pos h1]at E;rw[k3 _ (.inl (by omega))];exact hc i v E
  ·rw[bK (by rw[aZ];omega),aZ,fO (by omega)]at E;have ae:=(aF.1 E).1;have:=k4 (i-k*s) v E (by omega);rw[show off+i=off+k*s+(i-k*s) from by omega];exact this
section
variable {α:Type}(f:α->List Value)(s:Nat)(hf:∀x,(f x).length=s)
include hf
theorem Row.ZN{rs:List α}(h:Row w e s (.slice (some ⟨g,off,none⟩) n cap) n (rs.flatMap f))(E:m<rs.length)(x:α):Row (w.setCells g (off+m*s) (f x)) e s (.slice (some ⟨g,off,none⟩) n cap) n ((rs.set m x).flatMap f):=by
 have I:=h.1;rw[oO f s hf]at I;have z:(m+1)*s<=rs.length*s:=fD _ E;rw[iL,Nat.one_mul]at z;have:=h.over (k:=m*s) (f x) (by rw[hf x];omega);rw[(pV f s hf rs m).1,hf x,show m*s+s=(m+1)*s from by rw[iL,Nat.one_mul],(pV f s hf rs (m+1)).2]at this;rw[List.set_eq_take_append_cons_drop,if_pos E,gX,gQ,<-fE];exact this
theorem Row.FW{rs:List α}(h:Row w e s (.slice (some ⟨g,off,none⟩) n cap) n (rs.flatMap f))(z:List α)(hk:k<=n)(E:k+z.length<=cap):Row (w.setCells g (off+k*s) (z.flatMap f)) e s (.slice (some ⟨g,off,none⟩) (k+z.length) cap) (k+z.length) ((rs.take k++z).flatMap f):=by
 have:=h.lay (k:=k) (j:=z.length) (z.flatMap f) hk (oO f s hf z) E;rw[(pV f s hf rs k).1]at this;rw[gX];exact this
end
end
section
variable {w w':World}{kb nb cnt ep sq e n:Nat}{c:Cf}{vu vo vw:Value}{us:List PB}{dl:Nat->List (List UInt8)}{ws:List PW}
def kM(w:World)(v:Value)(l:List (List UInt8)):Prop:=Row w 9 1 v l.length (l.map nZ)
structure qJ(w:World)(kb:Nat)(c:Cf)(vu:Value)(us:List PB)(dl:Nat->List (List UInt8))(nb:Nat)(vo vw:Value)(ws:List PW)(cnt ep sq:Nat):Prop where
 obj:w.heap[kb]? =some (.cells (jK c vu nb vo vw cnt ep sq) 137 (0,0))
 upper:Row w 139 3 vu us.length (us.flatMap qc)
 wait:Row w 150 5 vw ws.length (ws.flatMap lD)
 deps:∀(j:Nat)(p:PB),us[j]? =some p->kM w p.2.2 (dl j)
 txs:∀p,p∈ws->kM w p.2 p.1.txs
structure yL(c:Cf)(us:List PB)(ws:List PW)(cnt ep:Nat):Prop where
 times:∀p,p∈us->0<=p.2.1/\p.2.1<=4294967296
 step:0<=c.step/\c.step<=20
 drift:0<=c.drift/\c.drift<=100
 window:0<=c.window/\c.window<=8
 cnt:cnt<4294967296
 len:us.length<=4294967296
 wlen:ws.length<=4294967296
 ep:ep<us.length
 batch:∀p,p∈ws->p.1.epoch<us.length/\p.1.place<=4294967296
theorem qJ.jO{M:Nat->Prop}(h:qJ w kb c vu us dl nb vo vw ws cnt ep sq)(I:jJ M w w')(Y:¬M kb)(h2:∀g,vu.ownBlock=some g->¬M g)(h3:∀g,vw.ownBlock=some g->¬M g)
  (h4:∀(g:Nat)(cs:Array Value)(R:Nat×Nat),w.heap[g]? =some (.cells cs 9 R)->¬M g):qJ w' kb c vu us dl nb vo vw ws cnt ep sq:=
 ⟨(I.block _ (jC h.obj) Y).trans h.obj,h.upper.jO I h2,h.wait.jO I h3,λj p hp=>Row.jO (h.deps j p hp) I (λg J=>by obtain⟨E,z⟩:=Row.obj (h.deps j p hp) J;exact h4 g E _ z),λp hp=>Row.jO (h.txs p hp) I (λg J=>by obtain⟨E,z⟩:=Row.obj (h.txs p hp) J;exact h4 g E _ z)⟩
theorem qJ.below(h:qJ w kb c vu us dl nb vo vw ws cnt ep sq)(z:Below w.heap.size w w'):qJ w' kb c vu us dl nb vo vw ws cnt ep sq:=h.jO (.below z jA (λ_=>False)) (λe=>e) (λ_ _ e=>e) (λ_ _ e=>e) (λ_ _ _ _ e=>e)
theorem qJ.look(h:qJ w kb c vu us dl nb vo vw ws cnt ep sq)(s:yL c us ws cnt ep):Look w kb c us cnt ep:=
 ⟨⟨vu,nb,vo,vw,sq,h.obj,h.upper.rd⟩,s.times,s.step,s.drift,s.window,jm s.cnt,s.len⟩
theorem jF{I s:Nat}{v:Value}{xs:List Value}(h:Row w e s v n xs){k:Nat}{cs:Array Value}{J:Nat×Nat}(hk:w.heap[k]? =some (.cells cs I J))(z:I≠e):v.ownBlock≠some k:=λY=>by
 obtain⟨R,E⟩:=h.obj Y;rw[hk]at E;simp at E;exact z E.2.1
section
variable {P:Program}(w:World){ops:Array Oper}{rest:List Oper}{o:Oper}{a:Act}{Q:Exit->Act->World->Prop}
theorem lK(R:o.guard=none)(s x:Operand)(t:TypeId)(ho:o.op=.call { callee:=.builtin .append,args:=#[s,x],argTypes:=#[t,t] })
  (e:TypeId) (i:TypeInfo) (size:Nat) (ht:P.underlying t=some (.slice e)) (hi:P.info? e=some i) (E:i.size=size)
  (b off n cap:Nat) (hs:a.eval s=.slice (some ⟨b,off,none⟩) n cap) (ad:Addr) (m c:Nat) (z:List Value) (hx:a.eval x=.slice (some ad) m c) (hl:z.length=m*size) (J:∀j u,z[j]? =some u->w.cell? (ad.add j)=some u) (h1:∀u∈z,u.oneCell'=true)
  (I:n+m<=cap) (hc:∀j,j<z.length->(w.cell? ⟨b,off+n*size+j,none⟩).isSome=true) (hf:∀j,w.frozen? ⟨b,j,none⟩=false)
  (hK:wpList P ops Q rest (a.put o.dst (.slice (some ⟨b,off,none⟩) (n+m) cap)) (w.setCells b (off+n*size) z)):wpList P ops Q (o::rest) a w:=by
 refine wpList_plain R λK Y=>?_;subst E;have hr:=run_append_room_cells (P:=P) w t o.type e i ht hi b off n cap ad m c z hl J h1 I hc (λj _=>hf _);unfold Oper.wp execOp;simp only[ho,resolve,invoke,builtin,iR,Sem.run_pure,gW,fJ,dW,fG,hs,hx,hr];exact Y _ _ hK
end
theorem Au:(PQ.info? 150).map (λi=>(i.zero,i.size,i.bytes))=some (some (.agg #[.int .i64 0,.int .i64 0,.int .i64 0,.slice none 0 0,.int .i64 0]),5,56):=by kernel_rfl
def YW(w:World)(R:Nat)(a b c d e:Value):World:=((((w.setCell ⟨R,0,none⟩ a).setCell ⟨R,1,none⟩ b).setCell ⟨R,2,none⟩ c).setCell ⟨R,3,none⟩ d).setCell ⟨R,4,none⟩ e
theorem qh(w:World)(R:Nat)(a b c d e:Value):jJ (λk=>k=R) w (YW w R a b c d e):=
 ((((jJ.set w R 0 a).trans (jJ.set _ R 1 b) (λ_ _ e=>e)).trans (jJ.set _ R 2 c) (λ_ _ e=>e)).trans (jJ.set _ R 3 d) (λ_ _ e=>e)).trans (jJ.set _ R 4 e) (λ_ _ e=>e)
theorem qg{X:World}{z:Value}{ws':List PW}{R:Nat}(J:X.heap[kb]? =some (.cells (jK c vu nb vo vw cnt ep sq) 137 (0,0)))(hu:Row X 139 3 vu us.length (us.flatMap qc))(hd:∀(j:Nat)(p:PB),us[j]? =some p->kM X p.2.2 (dl j))
  (hr:Row X 150 5 z ws'.length (ws'.flatMap lD)) (ht:∀p,p∈ws'->kM X p.2 p.1.txs) {rc:Array Value} (hR:X.heap[R]? =some (.cells rc 150 (0,0))) (I:z.ownBlock≠some R) (x0 x1 x2 x3 x4:Value):
  qJ (YW (X.setCell ⟨kb,10,none⟩ z) R x0 x1 x2 x3 x4) kb c vu us dl nb vo z ws' cnt ep sq:=by
 have Y:kb≠R:=λe=>by rw[e,hR]at J;simp at J
 have E:=jJ.set X kb 10 z
 have h1:qJ (X.setCell ⟨kb,10,none⟩ z) kb c vu us dl nb vo z ws' cnt ep sq:=by
  refine⟨?_,hu.jO E (λg I e=>jF hu J (by decide) (by rw[I,e])),hr.jO E (λg I e=>jF hr J (by decide) (by rw[I,e])),λj p hp=>Row.jO (hd j p hp) E (λg I e=>jF (hd j p hp) J (by decide) (by rw[I,e])),λp hp=>Row.jO (ht p hp) E (λg I e=>jF (ht p hp) J (by decide) (by rw[I,e]))⟩;have:=jT J 10 z;simpa[jK]using this
 have ab:(X.setCell ⟨kb,10,none⟩ z).heap[R]? =some (.cells rc 150 (0,0)):=(aP _ _ _ _ (λe=>Y e.symm)).trans hR;refine h1.jO (qh _ R x0 x1 x2 x3 x4) Y (λg I e=>jF h1.upper ab (by decide) (by rw[I,e])) (λg ac e=>I (by rw[ac,e])) (λg cs fz aa e=>?_);rw[e,ab]at aa;simp at aa
theorem BJ(h:∀p,p∈ws->kM w p.2 p.1.txs):∀u,u∈ws.flatMap lD->u.oneCell'=true:=λu E=>by
 obtain⟨p,hp,z⟩:=List.mem_flatMap.1 E;obtain⟨a,cap,e⟩:=Row.slice (h p hp);unfold lD at z;rw[e]at z;simp at z;rcases z with rfl|rfl|rfl|rfl|rfl<;>rfl
theorem Bf{g off cap:Nat}{rs:List PW}(h:Row w e 5 (.slice (some ⟨g,off,none⟩) n cap) n (rs.flatMap lD))(i:Nat):∀j u,((rs.drop i).flatMap lD)[j]? =some u->w.cell? ((⟨g,off+i*5,none⟩:Addr).add j)=some u:=λj u z=>by
 rw[<-(pV lD 5 mD rs i).2,iT]at z;have:=h.cell rfl _ u z;rw[<-dO]at this;unfold Addr.add;split
 ·rename_i E;subst E;exact this
 ·exact this
def yE(o:Nat×Option PW):Value:=match o.2 with
 |some b=>.tuple #[Nj b.1 b.2,.int .u8 o.1]
 |none=>.tuple #[.agg #[.int .i64 0,.int .i64 0,.int .i64 0,.slice none 0 0,.int .i64 0],.int .u8 o.1]
def judged(c:Cf)(us:List PB)(cnt ep:Nat)(b:PW):Nat:=verdict c us cnt ep b.1 b.1.txs.length
theorem MW(kb:Nat)(c:Cf)(vu:Value)(us:List PB)(dl:Nat->List (List UInt8))(nb:Nat)(vo vw:Value)(ws:List PW)(cnt ep sq:Nat)(w:World)(h:qJ w kb c vu us dl nb vo vw ws cnt ep sq)(s:yL c us ws cnt ep):
  Calls PQ 123 #[.pointer (some ⟨kb,0,none⟩)] w λe w'=>e=.returned (yE (pick (judged c us cnt ep) ws).1)/\∃a8,qJ w' kb c vu us dl nb vo a8 (pick (judged c us cnt ep) ws).2 cnt ep sq/\(∀g,a8.ownBlock=some g->vw.ownBlock=some g)/\jJ (λk=>k=kb\/vw.ownBlock=some k) w w':=by
 obtain⟨W,hW,J,ro⟩:=jE w #[.int .i64 0,.int .i64 0,.int .i64 0,.slice none 0 0,.int .i64 0] 150;have hD:=h.below J;have c10:W.cell? ⟨kb,10,none⟩=some vw:=nM hD.obj rfl;have fk:=aI hD.obj;have bv:kb<W.heap.size:=(jC hD.obj)
 have b4:kb<w.heap.size:=(jC h.obj)
 rcases h.wait.2 with⟨rfl,a4⟩|⟨g,off,cap,b2,rfl,bj,b8,b6,_,_⟩
 ·obtain rfl:=bD a4;obtain⟨r0,r1,r2,r3,r4⟩:=cells5 ro;have fr:=aI ro;have bn:kb≠w.heap.size:=by omega
  have H:Hid _:=jw hD (jw J ro);clear hD J ro h s a4;go_enter (fq Tryz.func123 rfl),Tryz.ntmps123;go_upto_region 1 with fail;rw[<-hW];clear hW;go_wp2_with fail;go_loopg [4,5,6,7,18] 0 (λgg v4 _ _ _ a1 wx=>v4=.slice none 0 0/\a1=.int .i64 0/\wx=W)
  case atStart=>exact⟨rfl,rfl,rfl⟩
  case round=>
   obtain⟨rfl,rfl,rfl⟩:=hrel;go_wp2_with fail;obtain⟨hD,J,ro⟩:=H.out;refine bodyPost_ret (v:=.tuple #[.agg #[.int .i64 0,.int .i64 0,.int .i64 0,.slice none 0 0,.int .i64 0],.int .u8 0]) (by simp[results,Tryz.results123,go_sem,r0,r1,r2,r3,r4]) rfl ⟨rfl,.slice none 0 0,?_,λg hg=>hg,?_⟩
   ·exact qg hD.obj hD.upper hD.deps hD.wait hD.txs ro (by simp[Value.ownBlock]) _ _ _ _ _
   ·exact((jJ.below J jA _).trans (jJ.set _ kb 10 _) (λk _ e=>.inl e)).trans (qh _ w.heap.size _ _ _ _ _) (λk hk e=>by omega)
 ·have b5:g<w.heap.size:=(jC bj)
  have bo:kb≠g:=λe=>jF h.wait h.obj (by decide) (by rw[e];rfl);have b9:=s.wlen;have bw:(0:Int)<=(cap:Int):=by omega
  have bz:(ws.length:Int)<=cap:=by omega
  obtain⟨V,hV⟩:∃V,V=judged c us cnt ep:=⟨_,rfl⟩
  rw[<-hV]
  have stay:∀X,jJ (λk=>k=g) W X->X.heap[kb]? =some (.cells (jK c vu nb vo (.slice (some ⟨g,off,none⟩) ws.length cap) cnt ep sq) 137 (0,0))/\Row X 139 3 vu us.length (us.flatMap qc)/\(∀(j:Nat)(p:PB),us[j]? =some p->kM X p.2.2 (dl j))/\(∀p,p∈ws->kM X p.2 p.1.txs)/\X.heap[w.heap.size]? =some (.cells #[.int .i64 0,.int .i64 0,.int .i64 0,.slice none 0 0,.int .i64 0] 150 (0,0)):=λX hX=>by
   obtain⟨gc,av⟩:=hD.wait.obj (g:=g) rfl;refine⟨(hX.block _ bv bo).trans hD.obj,hD.upper.jO hX (λq hq e=>jF hD.upper av (by decide) (by rw[hq,e])),λj p hp=>Row.jO (hD.deps j p hp) hX (λq hq e=>jF (hD.deps j p hp) av (by decide) (by rw[hq,e])),λp hp=>Row.jO (hD.txs p hp) hX (λq hq e=>jF (hD.txs p hp) av (by decide) (by rw[hq,e])),(hX.block _ (jC ro) (by omega)).trans ro⟩
  obtain⟨i0,ba,br,bd,bu⟩:=info_parts Au;have Hi:Hid _:=jw ba bd;have H:Hid _:=jw hD (jw J (jw ro (jw s (jw stay (jw hV h)))));clear hD J ro h s bj stay hV ba br bd bu;go_enter (fq Tryz.func123 rfl),Tryz.ntmps123;go_upto_region 1 with fail;rw[<-hW];clear hW;go_wp2_with fail;go_loopg [4,5,6,7,18] ws.length (λgg v4 _ _ _ a1 wx=>∃(i m:Nat)(rs:List PW),a1=.int .i64 i/\v4=.slice (some ⟨g,off,none⟩) m cap/\gg=ws.length-i/\m<=i/\i<=ws.length/\Hid (lq V ws rs m i/\Row wx 150 5 (.slice (some ⟨g,off,none⟩) ws.length cap) ws.length (rs.flatMap lD)/\jJ (λk=>k=g) W wx))
  case atStart=>exact⟨0,0,ws,rfl,rfl,rfl,jA,dF _,lq.start V ws,H.out.1.wait,jJ.refl _ _⟩
  case round=>
   obtain⟨i,m,rs,rfl,rfl,rfl,b7,b0,HI⟩:=hrel;clear c10 fk;obtain⟨q1,q2,q3,q4,q5⟩:=H.out.2.2.2.2.1 wr HI.out.2.2;have c10:wr.cell? ⟨kb,10,none⟩=some (.slice (some ⟨g,off,none⟩) ws.length cap):=nM q1 rfl;have fk:=aI q1;have fr:=aI q5;obtain⟨r0,r1,r2,r3,r4⟩:=cells5 q5;have bn:kb≠w.heap.size:=by omega
   by_cases bq:i<ws.length
   ·have bb:(i:Int)<ws.length:=by omega
    obtain⟨b,hb⟩:∃b,ws[i]? =some b:=⟨_,aG bq⟩
    obtain⟨p1,p2,p3⟩:=HI.out;have bg:=p1.at hb;have ap:=aQ hb;obtain⟨va,vc,ay⟩:=Row.slice (q4 b ap);have kk:=λ(j:Nat)(u:Value)(E:j<5)(hu:(lD b)[j]? =some u)=>p2.cell rfl (i*5+j) u (by rw[flat_get lD 5 mD rs i j b bg E];exact hu);have k0:wr.cell? ⟨g,off+i*5,none⟩=some (.int .i64 b.1.epoch):=by have:=kk 0 _ (by omega) rfl;exact this
    have k1:wr.cell? ⟨g,off+i*5+1,none⟩=some (.int .i64 b.1.id):=by have:=kk 1 _ (by omega) rfl;rw[<-dO]at this;exact this
    have k2:wr.cell? ⟨g,off+i*5+2,none⟩=some (.int .i64 b.1.time):=by have:=kk 2 _ (by omega) rfl;rw[<-dO]at this;exact this
    have k3:wr.cell? ⟨g,off+i*5+3,none⟩=some (.slice va b.1.txs.length vc):=by have:=kk 3 _ (by omega) rfl;rw[<-dO,ay]at this;exact this
    have k4:wr.cell? ⟨g,off+i*5+4,none⟩=some (.int .i64 b.1.place):=by have:=kk 4 _ (by omega) rfl;rw[<-dO]at this;exact this
    obtain⟨W2,a5,ax,yo⟩:=jE wr #[.int .i64 b.1.epoch,.int .i64 b.1.id,.int .i64 b.1.time,.slice va b.1.txs.length vc,.int .i64 b.1.place] 150;obtain⟨y0,y1,y2,y3,y4⟩:=cells5 yo;have aw:jJ (λk=>k=g) W W2:=p3.trans (.below ax jA (λ_=>False)) (λ_ _ e=>e.elim);obtain⟨s1,s2,s3,s4,s5⟩:=H.out.2.2.2.2.1 W2 aw;have sn:=H.out.2.2.2.1;have bk:Look W2 kb c us cnt ep:=⟨⟨vu,nb,vo,_,sq,s1,s2.rd⟩,sn.times,sn.step,sn.drift,sn.window,jm sn.cnt,sn.len⟩
    have an:=Qh kb c us cnt ep b.1 va b.1.txs.length vc W2 bk sn.ep (sn.batch b ap).1 (sn.batch b ap).2 (λp hp=>by
     obtain⟨j,E⟩:=List.getElem?_of_mem hp;obtain⟨x,y,bs⟩:=Row.slice (s3 j p E);exact⟨x,_,y,bs⟩)
    have a0:verdict c us cnt ep b.1 b.1.txs.length=V b:=by rw[H.out.2.2.2.2.2.1];rfl
    rw[a0]at an;unfold Nj at an
    have a2:V b=0\/V b=1\/V b=2\/V b=3:=by
     rw[<-a0];unfold verdict;split
     ·simp
     ·split
      ·simp
      ·split
       ·simp
       ·split<;>simp
    obtain⟨vb,az⟩:∃vb,V b=vb:=⟨_,rfl⟩
    rw[az]at an a2;have aq:Hid _:=λ(_:Unit)=>an;have HB:Hid _:=jw hb (jw ap (jw ay (jw ax (jw yo (jw aw az)))));clear q1 q2 q3 q4 q5 p1 p2 p3 bg hb ap ay kk ax yo aw s1 s2 s3 s4 s5 sn bk an a0 az
    have behind:∀w3,Below W2.heap.size W2 w3->jJ (λk=>k=g) W w3/\Row w3 150 5 (.slice (some ⟨g,off,none⟩) ws.length cap) ws.length (rs.flatMap lD)/\w3.heap[wr.heap.size]? =some (.cells #[.int .i64 b.1.epoch,.int .i64 b.1.id,.int .i64 b.1.time,.slice va b.1.txs.length vc,.int .i64 b.1.place] 150 (0,0)):=λw3 ab=>
     ⟨HB.out.2.2.2.2.2.1.trans (.below ab jA (λ_=>False)) (λ_ _ e=>e.elim),(HI.out.2.1.below HB.out.2.2.2.1).below ab,(ab.block _ (jC HB.out.2.2.2.2.1)).trans HB.out.2.2.2.2.1⟩
    have R:Hid _:=behind;clear behind;go_upto_region 5 with fail;rw[<-a5];clear a5;rcases a2 with rfl|rfl|rfl|rfl
    ·go_upto_region 8 with(first|(go_at_call 179;refine aK (aq.out ()) ?_;rintro e w3 ⟨rfl,ab⟩)|go_in)
     obtain⟨e1,e2,e3⟩:=R.out w3 ab;obtain⟨x0,x1,x2,x3,x4⟩:=cells5 e3;have am:=λo=>e2.below ((aB w3.heap.size w3).alloc jA o);have af:Hid _:=jw am e1;clear e1 e2 e3 am k0 k1 k2 k3 k4 y0 y1 y2 y3 y4;go_wp2_with (first|(at_builtin;refine lK _ rfl (.tmp 29) (.tmp 31) 135 rfl 150 i0 5 (uq Tryz.underlying135) Hi.out.1 Hi.out.2 g off m cap rfl ⟨w3.heap.size,0,none⟩ 1 1 [.int .i64 b.1.epoch,.int .i64 b.1.id,.int .i64 b.1.time,.slice va b.1.txs.length vc,.int .i64 b.1.place] rfl rfl (by intro j u E;match j,E with|0,E=>(simp at E;subst E;simp[Addr.add])|1,E=>(simp at E;subst E;simp[Addr.add])|2,E=>(simp at E;subst E;simp[Addr.add])|3,E=>(simp at E;subst E;simp[Addr.add])|4,E=>(simp at E;subst E;simp[Addr.add])) (by intro u hu;simp at hu;rcases hu with rfl|rfl|rfl|rfl|rfl<;>rfl) (by omega) (by intro j E;(have a3:j<5:=E);have:=(af.out.1 (.cells #[.int .i64 b.1.epoch,.int .i64 b.1.id,.int .i64 b.1.time,.slice va b.1.txs.length vc,.int .i64 b.1.place] 150)).there (j:=m*5+j) (by omega);rw[<-dO]at this;exact this) (by intro j;exact(af.out.1 _).frozen rfl j) ?_)|go_in)
     go_roundg (ws.length-(i+1))
     case measure=>omega
     case rel=>
      refine⟨i+1,m+1,rs.set m b,by go_num,rfl,rfl,by omega,by omega,HI.out.1.stay HB.out.1 HB.out.2.2.2.2.2.2,?_,?_⟩
      ·have:=Row.ZN lD 5 mD (af.out.1 (.cells #[.int .i64 b.1.epoch,.int .i64 b.1.id,.int .i64 b.1.time,.slice va b.1.txs.length vc,.int .i64 b.1.place] 150)) (m:=m) (by rw[HI.out.1.len];omega) b;unfold lD at this⊢;rw[HB.out.2.2.1]at this;exact this
      ·exact(af.out.2.trans (jJ.alloc (λ_=>False) w3 _) (λ_ _ e=>e.elim)).trans (.grown (kC g _ (off+m*5) _).1) (λk _ e=>by simpa using e.symm)
    ·go_wp2_with (first|(go_at_call 179;refine aK (aq.out ()) ?_;rintro e w3 ⟨rfl,ab⟩)|go_in)
     go_roundg (ws.length-(i+1))
     case measure=>omega
     case rel=>
      obtain⟨e1,e2,e3⟩:=R.out w3 ab;exact⟨i+1,m,rs,by go_num,rfl,rfl,by omega,by omega,HI.out.1.go HB.out.1 (by rw[HB.out.2.2.2.2.2.2];omega) (by rw[HB.out.2.2.2.2.2.2];omega) (by rw[HB.out.2.2.2.2.2.2];omega),e2,e1⟩
    ·go_upto_region 10 with(first|(go_at_call 179;refine aK (aq.out ()) ?_;rintro e w3 ⟨rfl,ab⟩)|go_in)
     obtain⟨e1,e2,e3⟩:=R.out w3 ab;obtain⟨s1,s2,s3,s4,s5⟩:=H.out.2.2.2.2.1 w3 e1;have bl:w3.cell? ⟨kb,10,none⟩=some (.slice (some ⟨g,off,none⟩) ws.length cap):=nM s1 rfl;have ac:=BJ (λp hp=>s4 p (HI.out.1.sub p (jd hp))) (ws:=rs.drop i);have aj:=Bf e2 i;have ah:(rs.drop i).length=ws.length-i:=by rw[dP,HI.out.1.len]
     have ak:((rs.drop i).flatMap lD).length=(ws.length-i)*5:=by rw[oO lD 5 mD,ah]
     obtain⟨Y,I⟩:∃Y,Y=(rs.drop i).flatMap lD:=⟨_,rfl⟩
     rw[<-I]at ac aj ak;have Hn:Hid _:=jw ac (jw aj (jw ak (jw I (jw e2 (jw e1 ah)))));have bp:(i:Int)<=ws.length:=by omega
     have b1:¬(i=cap):=by omega
     have bx:(i:Int)<=cap:=by omega
     clear e1 e2 e3 s1 s2 s3 s4 s5 ac aj ak I ah k0 k1 k2 k3 k4 y0 y1 y2 y3 y4 c10 r0 r1 r2 r3 r4 fk fr;go_wp2_with (first|(at_builtin;refine lK _ rfl (.tmp 36) (.tmp 42) 135 rfl 150 i0 5 (uq Tryz.underlying135) Hi.out.1 Hi.out.2 g off m cap rfl ⟨g,off+i*5,none⟩ (ws.length-i) (cap-i) Y rfl Hn.out.2.2.1 Hn.out.2.1 Hn.out.1 (by omega) (by intro j E;(have a3:j<(ws.length-i)*5:=(by rw[<-Hn.out.2.2.1];exact E));have:=Hn.out.2.2.2.2.1.there (j:=m*5+j) (by omega);rw[<-dO]at this;exact this) (by intro j;exact Hn.out.2.2.2.2.1.frozen rfl j) ?_;generalize hX:World.setCells _ _ _ _=X;have z:jJ (λk=>k=g) W X:=(by rw[<-hX];exact Hn.out.2.2.2.2.2.1.trans (.grown (kC g _ _ _).1) (λk _ e=>by simpa using e.symm));obtain⟨s1,s2,s3,s4,s5⟩:=H.out.2.2.2.2.1 X z;have bl:X.cell? ⟨kb,10,none⟩=some (.slice (some ⟨g,off,none⟩) ws.length cap):=(by rw[aA s1];rfl);have fk:=aI s1;have fr:=aI s5;have r0:X.cell? ⟨w.heap.size,0,none⟩=some (.int .i64 0):=(by rw[aA s5];rfl);have r1:X.cell? ⟨w.heap.size,1,none⟩=some (.int .i64 0):=(by rw[aA s5];rfl);have r2:X.cell? ⟨w.heap.size,2,none⟩=some (.int .i64 0):=(by rw[aA s5];rfl);have r3:X.cell? ⟨w.heap.size,3,none⟩=some (.slice none 0 0):=(by rw[aA s5];rfl);have r4:X.cell? ⟨w.heap.size,4,none⟩=some (.int .i64 0):=(by rw[aA s5];rfl);have HX:Hid _:=jw hX z;clear hX z s1 s2 s3 s4 s5)|go_in)
     obtain⟨hD,J,ro,s,stay,hV,h⟩:=H.out;obtain⟨t1,t2,t3,t4,t5,t6,t7⟩:=Hn.out;obtain⟨hX,z⟩:=HX.out;obtain⟨s1,s2,s3,s4,s5⟩:=stay X z;have ae:=HI.out.1.halt HB.out.1 HB.out.2.2.2.2.2.2;have aa:=Row.FW lD 5 mD t5 (k:=m) (rs.drop i) (by omega) (by rw[t7];omega);rw[<-t4,hX,t7]at aa;have ag:(rs.take m++rs.drop i).length=m+(ws.length-i):=by rw[aJ,aZ,t7,HI.out.1.len,fO (by omega)]
     refine bodyPost_ret (v:=.tuple #[.agg #[.int .i64 0,.int .i64 0,.int .i64 0,.slice none 0 0,.int .i64 0],.int .u8 2]) (by simp[results,Tryz.results123,go_sem,r0,r1,r2,r3,r4]) rfl ⟨by rw[ae];rfl,.slice (some ⟨g,off,none⟩) (m+(ws.length-i)) cap,?_,λq hq=>hq,?_⟩
     ·rw[ae];refine qg s1 s2 s3 (by rw[ag];exact aa) (λp hp=>?_) s5 (by simp[Value.ownBlock];omega) _ _ _ _ _;rcases dG.1 hp with hp|hp
      ·exact s4 p (HI.out.1.sub p (iZ hp))
      ·exact s4 p (HI.out.1.sub p (jd hp))
     ·exact((((jJ.below J jA _).trans z (λk _ e=>.inr (by rw[e];rfl))).trans (jJ.set _ kb 10 _) (λk _ e=>.inl e)).trans (qh _ w.heap.size _ _ _ _ _) (λk hk e=>by omega))
    ·go_upto_region 13 with(first|(go_at_call 179;refine aK (aq.out ()) ?_;rintro e w3 ⟨rfl,ab⟩)|go_in)
     obtain⟨e1,e2,e3⟩:=R.out w3 ab;obtain⟨s1,s2,s3,s4,s5⟩:=H.out.2.2.2.2.1 w3 e1;have bl:w3.cell? ⟨kb,10,none⟩=some (.slice (some ⟨g,off,none⟩) ws.length cap):=nM s1 rfl;have ac:=BJ (λp hp=>s4 p (HI.out.1.sub p (jd hp))) (ws:=rs.drop (i+1));have aj:=Bf e2 (i+1);have ah:(rs.drop (i+1)).length=ws.length-(i+1):=by rw[dP,HI.out.1.len]
     have ak:((rs.drop (i+1)).flatMap lD).length=(ws.length-(i+1))*5:=by rw[oO lD 5 mD,ah]
     obtain⟨Y,I⟩:∃Y,Y=(rs.drop (i+1)).flatMap lD:=⟨_,rfl⟩
     rw[<-I]at ac aj ak;have a6:wr.heap.size<w3.heap.size:=(jC e3)
     have bh:wr.heap.size≠g:=by
      have h1:=HI.out.2.1.lt (g:=g) rfl;omega
     have Hn:Hid _:=jw ac (jw aj (jw ak (jw I (jw e2 (jw e1 (jw ah (jw e3 ab)))))));have bp:(i:Int)+1<=(ws.length:Int):=by omega
     have bx:(i:Int)+1<=(cap:Int):=by omega
     clear e1 e2 e3 s1 s2 s3 s4 s5 ac aj ak I ah k0 k1 k2 k3 k4 y0 y1 y2 y3 y4 c10 r0 r1 r2 r3 r4 fk fr;by_cases bm:i+1=cap
     ·have a7:ws.length-(i+1)=0:=by omega
      have ar:Y=[]:=bD (by rw[Hn.out.2.2.1,a7]);have ao:Hid _:=ar;clear a7 ar;subst bm;go_wp2_with (first|(at_builtin;refine lK _ rfl (.tmp 50) (.tmp 57) 135 rfl 150 i0 5 (uq Tryz.underlying135) Hi.out.1 Hi.out.2 g off m (i+1) rfl ⟨g,off,none⟩ 0 0 Y rfl (by rw[ao.out];rfl) (by intro j u E;rw[ao.out]at E;simp at E) Hn.out.1 (by omega) (by intro j E;rw[ao.out]at E;simp at E) (by intro j;exact Hn.out.2.2.2.2.1.frozen rfl j) ?_;generalize hX:World.setCells _ _ _ _=X;have ai:jJ (λk=>k=g) w3 X:=(by rw[<-hX];exact(jJ.grown (kC g _ _ _).1).mono (λk _ e=>by simpa using e.symm));have z:jJ (λk=>k=g) W X:=Hn.out.2.2.2.2.2.1.trans ai (λ_ _ e=>e);obtain⟨s1,s2,s3,s4,s5⟩:=H.out.2.2.2.2.1 X z;have b3:X.heap[wr.heap.size]? =some (.cells #[.int .i64 b.1.epoch,.int .i64 b.1.id,.int .i64 b.1.time,.slice va b.1.txs.length vc,.int .i64 b.1.place] 150 (0,0)):=(ai.block _ a6 bh).trans Hn.out.2.2.2.2.2.2.2.1;have x0:X.cell? ⟨wr.heap.size,0,none⟩=some (.int .i64 b.1.epoch):=(by rw[aA b3];rfl);have x1:X.cell? ⟨wr.heap.size,1,none⟩=some (.int .i64 b.1.id):=(by rw[aA b3];rfl);have x2:X.cell? ⟨wr.heap.size,2,none⟩=some (.int .i64 b.1.time):=(by rw[aA b3];rfl);have x3:X.cell? ⟨wr.heap.size,3,none⟩=some (.slice va b.1.txs.length vc):=(by rw[aA b3];rfl);have x4:X.cell? ⟨wr.heap.size,4,none⟩=some (.int .i64 b.1.place):=(by rw[aA b3];rfl);have a9:X.cell? ⟨kb,10,none⟩=some (.slice (some ⟨g,off,none⟩) ws.length (i+1)):=(by rw[aA s1];rfl);have fk:=aI s1;have fr:=aI s5;have r0:X.cell? ⟨w.heap.size,0,none⟩=some (.int .i64 0):=(by rw[aA s5];rfl);have r1:X.cell? ⟨w.heap.size,1,none⟩=some (.int .i64 0):=(by rw[aA s5];rfl);have r2:X.cell? ⟨w.heap.size,2,none⟩=some (.int .i64 0):=(by rw[aA s5];rfl);have r3:X.cell? ⟨w.heap.size,3,none⟩=some (.slice none 0 0):=(by rw[aA s5];rfl);have r4:X.cell? ⟨w.heap.size,4,none⟩=some (.int .i64 0):=(by rw[aA s5];rfl);have HX:Hid _:=jw hX z;clear hX z s1 s2 s3 s4 s5 b3 ai)|go_in)
      obtain⟨hD,J,ro,s,stay,hV,h⟩:=H.out;obtain⟨t1,t2,t3,t4,t5,t6,t7,t8,t9⟩:=Hn.out;obtain⟨hX,z⟩:=HX.out;obtain⟨s1,s2,s3,s4,s5⟩:=stay X z;have ae:=HI.out.1.got HB.out.1 HB.out.2.2.2.2.2.2;have aa:=Row.FW lD 5 mD t5 (k:=m) (rs.drop (i+1)) (by omega) (by rw[t7];omega);rw[<-t4,hX,t7,show ws.length-(i+1)=0 from by omega]at aa;have ag:(rs.take m++rs.drop (i+1)).length=m+0:=by rw[aJ,aZ,t7,HI.out.1.len,fO (by omega)];omega
      refine bodyPost_ret (v:=.tuple #[.agg #[.int .i64 b.1.epoch,.int .i64 b.1.id,.int .i64 b.1.time,.slice va b.1.txs.length vc,.int .i64 b.1.place],.int .u8 3]) (by simp[results,Tryz.results123,go_sem,r0,r1,r2,r3,r4]) rfl ⟨by rw[ae];unfold yE Nj;dsimp only;rw[HB.out.2.2.1];rfl,.slice (some ⟨g,off,none⟩) (m+0) (i+1),?_,λq hq=>hq,?_⟩
      ·rw[ae];refine qg s1 s2 s3 (by rw[ag];exact aa) (λp hp=>?_) s5 (by simp[Value.ownBlock];omega) _ _ _ _ _;rcases dG.1 hp with hp|hp
       ·exact s4 p (HI.out.1.sub p (iZ hp))
       ·exact s4 p (HI.out.1.sub p (jd hp))
      ·exact((((jJ.below J jA _).trans z (λk _ e=>.inr (by rw[e];rfl))).trans (jJ.set _ kb 10 _) (λk _ e=>.inl e)).trans (qh _ w.heap.size _ _ _ _ _) (λk hk e=>by omega))
     ·go_wp2_with (first|(at_builtin;refine lK _ rfl (.tmp 50) (.tmp 57) 135 rfl 150 i0 5 (uq Tryz.underlying135) Hi.out.1 Hi.out.2 g off m cap rfl _ (ws.length-(i+1)) _ Y rfl Hn.out.2.2.1 Hn.out.2.1 Hn.out.1 (by omega) (by intro j E;(have a3:j<(ws.length-(i+1))*5:=(by rw[<-Hn.out.2.2.1];exact E));have:=Hn.out.2.2.2.2.1.there (j:=m*5+j) (by omega);rw[<-dO]at this;exact this) (by intro j;exact Hn.out.2.2.2.2.1.frozen rfl j) ?_;generalize hX:World.setCells _ _ _ _=X;have ai:jJ (λk=>k=g) w3 X:=(by rw[<-hX];exact(jJ.grown (kC g _ _ _).1).mono (λk _ e=>by simpa using e.symm));have z:jJ (λk=>k=g) W X:=Hn.out.2.2.2.2.2.1.trans ai (λ_ _ e=>e);obtain⟨s1,s2,s3,s4,s5⟩:=H.out.2.2.2.2.1 X z;have b3:X.heap[wr.heap.size]? =some (.cells #[.int .i64 b.1.epoch,.int .i64 b.1.id,.int .i64 b.1.time,.slice va b.1.txs.length vc,.int .i64 b.1.place] 150 (0,0)):=(ai.block _ a6 bh).trans Hn.out.2.2.2.2.2.2.2.1;have x0:X.cell? ⟨wr.heap.size,0,none⟩=some (.int .i64 b.1.epoch):=(by rw[aA b3];rfl);have x1:X.cell? ⟨wr.heap.size,1,none⟩=some (.int .i64 b.1.id):=(by rw[aA b3];rfl);have x2:X.cell? ⟨wr.heap.size,2,none⟩=some (.int .i64 b.1.time):=(by rw[aA b3];rfl);have x3:X.cell? ⟨wr.heap.size,3,none⟩=some (.slice va b.1.txs.length vc):=(by rw[aA b3];rfl);have x4:X.cell? ⟨wr.heap.size,4,none⟩=some (.int .i64 b.1.place):=(by rw[aA b3];rfl);have a9:X.cell? ⟨kb,10,none⟩=some (.slice (some ⟨g,off,none⟩) ws.length cap):=(by rw[aA s1];rfl);have fk:=aI s1;have fr:=aI s5;have r0:X.cell? ⟨w.heap.size,0,none⟩=some (.int .i64 0):=(by rw[aA s5];rfl);have r1:X.cell? ⟨w.heap.size,1,none⟩=some (.int .i64 0):=(by rw[aA s5];rfl);have r2:X.cell? ⟨w.heap.size,2,none⟩=some (.int .i64 0):=(by rw[aA s5];rfl);have r3:X.cell? ⟨w.heap.size,3,none⟩=some (.slice none 0 0):=(by rw[aA s5];rfl);have r4:X.cell? ⟨w.heap.size,4,none⟩=some (.int .i64 0):=(by rw[aA s5];rfl);have HX:Hid _:=jw hX z;clear hX z s1 s2 s3 s4 s5 b3 ai)|go_in)
      obtain⟨hD,J,ro,s,stay,hV,h⟩:=H.out;obtain⟨t1,t2,t3,t4,t5,t6,t7,t8,t9⟩:=Hn.out;obtain⟨hX,z⟩:=HX.out;obtain⟨s1,s2,s3,s4,s5⟩:=stay X z;have ae:=HI.out.1.got HB.out.1 HB.out.2.2.2.2.2.2;have aa:=Row.FW lD 5 mD t5 (k:=m) (rs.drop (i+1)) (by omega) (by rw[t7];omega);rw[<-t4,hX,t7]at aa;have ag:(rs.take m++rs.drop (i+1)).length=m+(ws.length-(i+1)):=by rw[aJ,aZ,t7,HI.out.1.len,fO (by omega)]
      refine bodyPost_ret (v:=.tuple #[.agg #[.int .i64 b.1.epoch,.int .i64 b.1.id,.int .i64 b.1.time,.slice va b.1.txs.length vc,.int .i64 b.1.place],.int .u8 3]) (by simp[results,Tryz.results123,go_sem,r0,r1,r2,r3,r4]) rfl ⟨by rw[ae];unfold yE Nj;dsimp only;rw[HB.out.2.2.1];rfl,.slice (some ⟨g,off,none⟩) (m+(ws.length-(i+1))) cap,?_,λq hq=>hq,?_⟩
      ·rw[ae];refine qg s1 s2 s3 (by rw[ag];exact aa) (λp hp=>?_) s5 (by simp[Value.ownBlock];omega) _ _ _ _ _;rcases dG.1 hp with hp|hp
       ·exact s4 p (HI.out.1.sub p (iZ hp))
       ·exact s4 p (HI.out.1.sub p (jd hp))
      ·exact((((jJ.below J jA _).trans z (λk _ e=>.inr (by rw[e];rfl))).trans (jJ.set _ kb 10 _) (λk _ e=>.inl e)).trans (qh _ w.heap.size _ _ _ _ _) (λk hk e=>by omega))
   ·have bb:¬(i:Int)<ws.length:=by omega
    clear q1 q2 q3 q4 q5;go_wp2_with fail;obtain⟨hD,J,ro,s,stay,hV,h⟩:=H.out;obtain⟨p1,p2,p3⟩:=HI.out;obtain⟨q1,q2,q3,q4,q5⟩:=stay wr p3;have ae:=p1.done (by omega);rw[ae];have ah:rs.length=ws.length:=p1.len;have au:=p2.take (k:=m) (by omega);rw[(pV lD 5 mD rs m).1]at au;refine bodyPost_ret (v:=.tuple #[.agg #[.int .i64 0,.int .i64 0,.int .i64 0,.slice none 0 0,.int .i64 0],.int .u8 0]) (by simp[results,Tryz.results123,go_sem,r0,r1,r2,r3,r4]) rfl ⟨rfl,.slice (some ⟨g,off,none⟩) m cap,?_,λq hq=>hq,?_⟩
    ·refine qg q1 q2 q3 (by rw[aZ,fO (by omega)];exact au) (λp hp=>?_) q5 (by simp[Value.ownBlock];omega) _ _ _ _ _;exact q4 p (p1.sub p (iZ hp))
    ·exact((((jJ.below J jA _).trans p3 (λk _ e=>.inr (by rw[e];rfl))).trans (jJ.set _ kb 10 _) (λk _ e=>.inl e)).trans (qh _ w.heap.size _ _ _ _ _) (λk hk e=>by omega))
end
end Hm
namespace Dv
open Fr (F)
section
variable {l:List F}{n:Nat}{c:Ch}{f:F}
theorem xR:∀{a b:List Nat},a.Nodup->(∀x,x∈a->x∈b)->a.length<=b.length
 |[],_,_,_=>dF _
 |x::a,b,hn,hs=>by
  have I:x∈b:=hs x (by simp);have z:=iq.1 hn;have:=xR (a:=a) (b:=b.erase x) z.2 (λy E=>(List.mem_erase_of_ne (λ(e:y=x)=>z.1 (by rw[<-e];exact E))).2 (hs y (by simp[E])));rw[List.length_erase_of_mem I]at this;have J:=List.length_pos_of_mem I;simp;omega
theorem Qe{l:List Nat}(I:l.Nodup)(E:∀x,x∈l->x<=n):l.length=n+1↔∀k,k<n+1->k∈l:=by
 constructor
 ·intro h k hk;refine gJ λR=>?_;have:=xR (b:=(List.range (n+1)).erase k) I (λx z=>(List.mem_erase_of_ne (λ(e:x=k)=>R (by rw[<-e];exact z))).2 (gI.2 (by have:=E x z;omega)));rw[List.length_erase_of_mem (gI.2 hk),List.length_range]at this;omega
 ·intro h;have J:=xR (b:=List.range (n+1)) I (λx z=>gI.2 (by have:=E x z;omega));have h2:=xR (a:=List.range (n+1)) (b:=l) List.nodup_range (λx z=>h x (gI.1 z));rw[List.length_range]at J h2;omega
theorem CY:(has l n).isSome=true↔n∈l.map (·.num):=by
 unfold has;rw[Option.isSome_map,List.find?_isSome,bC];constructor
 ·rintro⟨x,z,h⟩;exact⟨x,z,by simpa using h⟩
 ·rintro⟨x,z,h⟩;exact⟨x,z,by simpa using h⟩
theorem uJ{l:List F}:∀{k:Nat},(qX l k).isSome=true↔∀n,n<k->n∈l.map (·.num)
 |0=>by simp[qX]
 |k+1=>by
  have I:=uJ (l:=l) (k:=k);unfold qX;constructor
  ·intro h n z;cases E:qX l k with
   |none=>simp[E]at h
   |some s=>
    simp only[E,gK,Option.isSome_map]at h;rcases jl (Nat.lt_succ_iff.1 z)with z|rfl
    ·exact I.1 (by simp[E]) n z
    ·exact CY.1 h
  ·intro h;have J:=I.2 (λn z=>h n (by omega));have h2:=CY.2 (h k (by omega));obtain⟨s,hs⟩:=Option.isSome_iff_exists.1 J;simp[hs,h2]
structure Fine(l:List F):Prop where
 apart:(l.map (·.num)).Nodup
 upto:∀n,last l=some n->∀x,x∈l->x.num<=n
theorem I9:Fine []:=⟨by simp,by simp[last]⟩
theorem EH(h:Fine l)(z:last l=some n):l.length=n+1↔(bytes l).isSome=true:=by
 have:=Qe (l:=l.map (·.num)) (n:=n) h.apart (λx I=>by obtain⟨y,E,rfl⟩:=bC.1 I;exact h.upto n z y E);rw[aU]at this;rw[this];unfold bytes;rw[z,gK];exact uJ.symm
theorem IQ(l:List F)(f:F):last (l++[f])=(last l).or (if f.last then some f.num else none):=by
 unfold last;rw[List.find?_append];cases l.find? (·.last)with
 |some x=>simp
 |none=>
  cases z:f.last<;>simp[z]
theorem JJ(p:F->Bool)(h:∀x,x∈l->x.last=true->p x=true):last (l.filter p)=last l:=by
 induction l with
 |nil=>rfl
 |cons x l z=>
  have z:=z (λy I=>h y (by simp[I]));unfold last at z⊢;cases E:x.last
  ·rw[dU];split
   ·rw[iw,iw,E];exact z
   ·rw[iw,E];exact z
  ·rw[dU,if_pos (h x (by simp) E),iw,iw,E]
theorem Eb:last l=none↔∀x,x∈l->x.last=false:=by
 unfold last;rw[Option.map_eq_none_iff,List.find?_eq_none];constructor
 ·intro h x z;simpa using h x z
 ·intro h x z;simpa using h x z
theorem yO(h:nS c f=false):f.num∉c.l.map (·.num)/\c.spoilt=false/\(∀n,last c.l=some n->f.last=false/\f.num<=n):=by
 unfold nS at h;simp only[gV]at h;obtain⟨⟨z,h2⟩,h3⟩:=h;refine⟨λE=>?_,h2,λn I=>?_⟩
 ·rw[CY.2 E]at z;cases z
 ·rw[I]at h3;simp only[gV,decide_eq_false_iff_not]at h3;exact⟨h3.1,by omega⟩
theorem AO(R:nS c f=false):last (grown c f)=(last c.l).or (if f.last then some f.num else none):=by
 obtain⟨h1,h2,h3⟩:=yO R;unfold grown;rw[JJ,IQ];intro x E z;rcases dG.1 E with E|E
 ·unfold goes;cases I:f.last
  ·rfl
  ·have Y:last c.l=none:=by
    cases J:last c.l with
    |none=>rfl
    |some n=>have:=(h3 n J).1;rw[I]at this;cases this
   rw[Eb.1 Y x E]at z;cases z
 ·rw[dD.1 E];unfold goes;simp
theorem KN(h:Fine c.l)(hb:nS c f=false):Fine (grown c f):=by
 obtain⟨h1,h2,h3⟩:=yO hb;have hl:=AO hb;refine⟨?_,λn z x hx=>?_⟩
 ·unfold grown;refine(List.filter_sublist.map _).nodup ?_;rw[aY];refine List.nodup_append.2 ⟨h.apart,by simp,λa ha b I e=>?_⟩;simp at I;subst I;exact h1 (e ▸ ha)
 ·rw[hl]at z;unfold grown at hx;obtain⟨E,R⟩:=fK.1 hx;cases J:last c.l with
  |some k=>
   rw[J]at z;simp at z;subst z;rcases dG.1 E with E|E
   ·exact h.upto k J x E
   ·rw[dD.1 E];exact(h3 k J).2
  |none=>
   rw[J]at z;simp only[Option.none_or]at z;cases Y:f.last
   ·rw[Y]at z;simp at z
   ·rw[Y]at z;simp at z;subst z;unfold goes at R;rw[Y]at R;simp at R;omega
theorem size_append(l:List F)(f:F):size (l++[f])=size l+f.data.length:=by simp[size]
theorem size_filter_le(l:List F)(p:F->Bool):size (l.filter p)<=size l:=by
 induction l with
 |nil=>simp[size]
 |cons x l ih=>
  unfold size at ih⊢;rw[dU];split
  ·simp;exact ih
  ·simp;omega
theorem Py{k:Nat}{s d:List UInt8}(h:qX l k=some s)(hd:has l k=some d):qX l (k+1)=some (s++d):=by
 simp[qX,h,hd]
end
end Dv
namespace Hm
open Go.RowKit Go.Joins
open Dv (Ch Fine)
open Fr (F below_drewN)
def PK(b:Nat):Value:=.pointer (some ⟨b,0,none⟩)
def Ie(f:F):Value:=.agg #[.int .u32 f.chan,.int .u16 f.num,.string ⟨f.data.toArray⟩,.bool f.last]
def sV(l:List F):AL:=l.map λf=>(f.num,Ie f)
structure PC where
 blk:Nat
 fm:Option Nat
 ch:Ch
 size:Int
 ended:Bool
 last:Nat
def vH(o:PC):Obj:=.cells #[.int .u32 o.ch.name,.int .i64 o.ch.opened,.map o.fm,.int .i64 o.size,.bool o.ended,.int .u16 o.last,.bool o.ch.spoilt] 201 (0,0)
def Small(l:List F):Prop:=∀x,x∈l->x.num<65536/\x.data.length<=65536
structure Sound(w:World)(o:PC):Prop where
 map:∃B,o.fm=some B/\lu w B .u16 (sV o.ch.l)
 size:o.size=Dv.size o.ch.l
 room:Dv.size o.ch.l<=4294967296
 ended:o.ended=(Dv.last o.ch.l).isSome
 last:∀n,Dv.last o.ch.l=some n->o.last=n
structure ChanAt(w:World)(o:PC):Prop where
 obj:w.heap[o.blk]? =some (vH o)
 fine:Fine o.ch.l
 small:Small o.ch.l
 lastLt:o.last<65536
 sound:o.ch.spoilt=false->Sound w o
 spoilt:o.ch.spoilt=true->o.ch.l=[]/\o.fm=none
theorem WO{l:List F}{n:Nat}:(lM (sV l) n).isSome=(Dv.has l n).isSome:=by
 unfold lM sV Dv.has;rw[Option.isSome_map,Option.isSome_map,List.find?_map,Option.isSome_map];rfl
theorem YK(w:World):(zeroValue 81).run PQ w=.ok (.agg #[.int .u32 0,.int .u16 0,.string ⟨#[]⟩,.bool false]) w:=by kernel_rfl
theorem TT(w:World):(zeroValue 197).run PQ w=.ok (.pointer none) w:=by kernel_rfl
theorem MO(c:Ch)(f:F)(h:c.spoilt=false):(Dv.nS c f)=((Dv.has c.l f.num).isSome || (match Dv.last c.l with|some n=>f.last || decide (n<f.num)|none=>false)):=by
 unfold Dv.nS;rw[h,Bool.or_false];rfl
theorem Jz(o:PC)(f:F)(w:World)(h:ChanAt w o)(hf:f.num<65536):Calls PQ 113 #[.pointer (some ⟨o.blk,0,none⟩),Ie f] w λe w'=>e=.returned (.bool (!Dv.nS o.ch f))/\Below w.heap.size w w':=by
 obtain⟨r,hr⟩:∃r,(!Dv.nS o.ch f)=r:=⟨_,rfl⟩
 rw[hr];obtain⟨blk,fm,⟨nm,op,l,sp⟩,sz,en,la⟩:=o;obtain⟨fc,fn,fd,aa⟩:=f;unfold Ie;dsimp only at *;obtain⟨D,hD⟩:∃D:ByteArray,(⟨fd.toArray⟩:ByteArray)=D:=⟨_,rfl⟩
 rw[hD];have aj:blk<w.heap.size:=(jC h.obj)
 obtain⟨W,hW,R,-⟩:=jE w #[.int .u32 fc,.int .u16 fn,.string D,.bool aa] 81;have ho:W.heap[blk]? =_:=(R.block _ aj).trans h.obj;obtain⟨-,-,e2,-,e4,e5,e6⟩:=MF ho;have z1:W.cell? ⟨w.heap.size,1,none⟩=some (.int .u16 fn):=by rw[hW];simp
 have z3:W.cell? ⟨w.heap.size,3,none⟩=some (.bool aa):=by rw[hW];simp
 cases sp
 ·obtain⟨⟨B,rfl,hm⟩,ai,ac,Y,ag⟩:=h.sound rfl;dsimp only at hm ai Y ag;rw[MO _ _ rfl]at hr;dsimp only at hr;obtain⟨t,ht⟩:∃t,(Dv.has l fn).isSome=t:=⟨_,rfl⟩
  rw[ht]at hr;obtain⟨q,hq⟩:∃q,(match Dv.last l with|some n=>aa || decide (n<fn)|none=>false)=q:=⟨_,rfl⟩
  rw[hq]at hr
  have ah:(en=false/\q=false)\/(en=true/\q=(aa || decide (la<fn))):=by
   cases hl:Dv.last l with
   |none=>rw[hl]at Y hq;exact .inl ⟨Y,hq.symm⟩
   |some n=>rw[hl]at Y hq;rw[ag n hl];exact .inr ⟨Y,hq.symm⟩
  have Hr:Hid _:=jw hr R
  obtain⟨v0,v1,v2,v3,ak⟩:∃a b c d,(lM (sV l) fn).getD (Value.agg #[.int .u32 0,.int .u16 0,.string ⟨#[]⟩,.bool false])=.agg #[.int .u32 a,.int .u16 b,.string c,.bool d]:=by
   unfold lM sV;rw[List.find?_map];cases l.find? ((λp:Nat×Value=>p.1 == fn)∘λf=>(f.num,Ie f))with
   |none=>exact⟨_,_,_,_,rfl⟩
   |some x=>exact⟨_,_,_,_,rfl⟩
  have z:=λ(V:World)(E:V.heap[B]? =w.heap[B]?)=>(hm.of_block E).lookup (P:=PQ) (uq Tryz.underlying199) (uq Tryz.underlying79) (YK _) fn true;simp only[if_true]at z;rw[WO,ak,ht]at z;have HL:Hid _:=jw z (jw hm.lt (jw aj R));have J:w.heap.size<W.heap.size:=by rw[hW];simp
  clear ak hD h hm ai ac Y ag hq ht hr z R;go_enter (fq Tryz.func113 rfl),Tryz.ntmps113;go_upto_region 1 with fail;rw[<-hW];clear hW;rcases ah with⟨rfl,rfl⟩|⟨rfl,hq⟩
  ·go_quiet (fail);go_upto_region 3 with fail;generalize E:World.drewN _ _=V;have f2:V.cell? ⟨blk,2,none⟩=some (.map (some B)):=by rw[<-E];exact e2
   have g1:V.cell? ⟨w.heap.size,1,none⟩=some (.int .u16 fn):=by rw[<-E];exact z1
   have hs:V.heap.size=W.heap.size:=by rw[<-E];rfl
   have I:V.heap[B]? =w.heap[B]?:=by rw[<-E];exact HL.out.2.2.2.block B HL.out.2.1
   have ab:=aH HL.out.2.1 (jm J);have ae:=aH HL.out.2.2.1 (jm J);rw[<-hs]at J ab ae;have l1:=HL.out.1 V.drew I;have l2:=λobj=>HL.out.1 ((V.alloc obj).drew) ((aT _ _ _ ab).trans I);have HV:Hid _:=jw E hs;clear E hs I e2 e4 e5 e6 z1 z3;go_region
   all_goals
    go_wp2_with fail;go_ret;refine⟨?_,Hr.out.2.trans ?_⟩
    ·rw[<-Hr.out.1];simp
    ·have hb:Below w.heap.size W V:=by rw[<-HV.out.1];exact below_drewN (aB _ _) _
     refine hb.trans ?_
     first|exact(((aB _ V).alloc (by omega) _).drew)|exact(((aB _ V).drew.alloc (by show _<=V.heap.size;omega) _))|trace_state
  ·cases aa
   ·by_cases hn:la<fn
    ·have am:(la:Int)<fn:=by omega
     have af:q=true:=by rw[hq];simp[hn]
     clear hq hn;subst af;go_quiet (fail);go_wp2_with fail;go_ret;refine⟨?_,Hr.out.2.trans ⟨rfl,rfl,rfl,jA,λ_ _=>rfl⟩⟩;rw[<-Hr.out.1];simp
    ·have af:q=false:=by rw[hq];simp[hn]
     have Hn:Hid _:=hn;clear hq hn;subst af;go_quiet (fail);rw[decide_eq_false Hn.out];go_upto_region 3 with fail;generalize E:World.drewN _ _=V;have f2:V.cell? ⟨blk,2,none⟩=some (.map (some B)):=by rw[<-E];exact e2
     have g1:V.cell? ⟨w.heap.size,1,none⟩=some (.int .u16 fn):=by rw[<-E];exact z1
     have hs:V.heap.size=W.heap.size:=by rw[<-E];rfl
     have I:V.heap[B]? =w.heap[B]?:=by rw[<-E];exact HL.out.2.2.2.block B HL.out.2.1
     have ab:=aH HL.out.2.1 (jm J);have ae:=aH HL.out.2.2.1 (jm J);rw[<-hs]at J ab ae;have l1:=HL.out.1 V.drew I;have l2:=λobj=>HL.out.1 ((V.alloc obj).drew) ((aT _ _ _ ab).trans I);have HV:Hid _:=jw E hs;clear E hs I e2 e4 e5 e6 z1 z3;go_region
     all_goals
      go_wp2_with fail;go_ret;refine⟨?_,Hr.out.2.trans ?_⟩
      ·rw[<-Hr.out.1];simp
      ·have hb:Below w.heap.size W V:=by rw[<-HV.out.1];exact below_drewN (aB _ _) _
       refine hb.trans ?_
       first|exact(((aB _ V).alloc (by omega) _).drew)|exact(((aB _ V).drew.alloc (by show _<=V.heap.size;omega) _))|trace_state
   ·subst hq;go_quiet (fail);go_wp2_with fail;go_ret;refine⟨?_,Hr.out.2.trans ⟨rfl,rfl,rfl,jA,λ_ _=>rfl⟩⟩;rw[<-Hr.out.1];simp
 ·have Hr:Hid _:=jw hr R;clear hD h hr ho R;go_enter (fq Tryz.func113 rfl),Tryz.ntmps113;go_upto_region 1 with fail;rw[<-hW];clear hW;go_quiet (fail);go_wp2_with fail;go_ret;refine⟨?_,Hr.out.2.trans ⟨rfl,rfl,rfl,jA,λ_ _=>rfl⟩⟩;rw[<-Hr.out.1];unfold Dv.nS;simp
end Hm
end Go.Proofs.YtpibpdpedjinhaaGreatDoor
