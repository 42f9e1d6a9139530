import Derived.Test.YtpibpdpedjinhaaGreatDoorP18
import Derived.Lib.BitFns
import Derived.Shelf.Strings.Builder2
import Derived.Shelf.Strings.BuilderK
import Derived.Shelf.Strings.Repeat
import Derived.Shelf.Strconv.Itoa0
set_option maxRecDepth 100000
set_option maxHeartbeats 4000000
set_option linter.unusedSimpArgs false
namespace Go.Proofs.YtpibpdpedjinhaaGreatDoor.Hm
open Go.RowKit Go.Joins
section
variable {n g:Nat}{w w':World}{v:Value}
structure jJ(M:Nat->Prop)(w w':World):Prop where
 os:w'.os=w.os
 tape:w'.tape=w.tape
 output:w'.output=w.output
 size:w.heap.size<=w'.heap.size
 block:∀k,k<w.heap.size->¬M k->w'.heap[k]? =w.heap[k]?
section
variable {M M':Nat->Prop}{w w' w'':World}
theorem jJ.refl(M:Nat->Prop)(w:World):jJ M w w:=⟨rfl,rfl,rfl,jA,λ_ _ _=>rfl⟩
theorem jJ.trans(h:jJ M w w')(z:jJ M' w' w'')(I:∀k,k<w.heap.size->M' k->M k):jJ M w w'':=
 ⟨z.os.trans h.os,z.tape.trans h.tape,z.output.trans h.output,aW h.size z.size,λk hk E=>(z.block k (aH hk h.size) (λe=>E (I k hk e))).trans (h.block k hk E)⟩
theorem jJ.mono(h:jJ M w w')(z:∀k,k<w.heap.size->M k->M' k):jJ M' w w':=⟨h.os,h.tape,h.output,h.size,λk hk E=>h.block k hk (λe=>E (z k hk e))⟩
theorem jJ.below(h:Below n w w')(z:w.heap.size<=n)(M:Nat->Prop):jJ M w w':=⟨h.os,h.tape,h.output,h.size,λk hk _=>h.block k (by omega)⟩
theorem jJ.IV(h:jJ (λ_=>False) w w'):Below w.heap.size w w':=⟨h.os,h.tape,h.output,h.size,λk hk=>h.block k hk (λe=>e)⟩
theorem jJ.grown{r:Option Nat}(h:w.grownBy w' r):jJ (λk=>r=some k) w w':=⟨h.os,h.tape,h.output,h.size,λk hk z=>h.block k hk (λe=>z e.symm)⟩
theorem jJ.alloc(M:Nat->Prop)(w:World)(o:Obj):jJ M w (w.alloc o):=.below ((aB w.heap.size w).alloc jA o) jA M
theorem jJ.set(w:World)(b i:Nat)(v:Value):jJ (λk=>k=b) w (w.setCell ⟨b,i,none⟩ v):=⟨rfl,rfl,rfl,by simp,λk _ z=>aP _ _ _ _ z⟩
theorem jJ.drew(M:Nat->Prop)(w:World):jJ M w w.drew:=⟨rfl,rfl,rfl,jA,λ_ _ _=>rfl⟩
end
def Rd(w:World)(s:Nat)(v:Value)(n:Nat)(xs:List Value):Prop:=
 xs.length=n*s/\∃a cap,v=.slice a n cap/\n<=cap/\(0<n->∃g off,a=some ⟨g,off,none⟩/\g<w.heap.size/\∀j u,xs[j]? =some u->w.cell? ⟨g,off+j,none⟩=some u)
section
variable {w w':World}{e s:Nat}{v:Value}{n:Nat}{xs:List Value}
theorem Rd.slice(h:Rd w s v n xs):∃a cap,v=.slice a n cap:=by
 obtain⟨_,a,cap,z,_⟩:=h;exact⟨a,cap,z⟩
theorem Rd.pos(h:Rd w s v n xs)(R:0<n):∃g off cap,v=.slice (some ⟨g,off,none⟩) n cap/\n<=cap/\g<w.heap.size/\∀j u,xs[j]? =some u->w.cell? ⟨g,off+j,none⟩=some u:=by
 obtain⟨_,a,cap,z,I,hp⟩:=h;obtain⟨g,off,rfl,E,J⟩:=hp R;exact⟨g,off,cap,z,I,E,J⟩
theorem Rd.kept(h:Rd w s v n xs)(hs:w.heap.size<=w'.heap.size)(hk:0<n->∀g,v.ownBlock=some g->g<w.heap.size->w'.heap[g]? =w.heap[g]?):Rd w' s v n xs:=by
 obtain⟨I,a,cap,rfl,R,hp⟩:=h;refine⟨I,a,cap,rfl,R,λz=>?_⟩;obtain⟨g,off,rfl,J,Y⟩:=hp z;refine⟨g,off,rfl,by omega,λj u E=>?_⟩;rw[World.cell?_of_block (a:=⟨g,off+j,none⟩) (hk z g rfl J)];exact Y j u E
theorem Rd.below(h:Rd w s v n xs)(z:Below w.heap.size w w'):Rd w' s v n xs:=h.kept z.size (λ_ g _ E=>z.block g E)
theorem Rd.nil(w:World)(s:Nat)(a:Option Addr)(cap:Nat):Rd w s (.slice a 0 cap) 0 []:=⟨by simp,a,cap,rfl,dF _,λh=>by omega⟩
theorem Row.rd(h:Row w e s v n xs):Rd w s v n xs:=by
 refine⟨h.1,?_⟩;rcases h.2 with⟨rfl,rfl⟩|⟨g,off,cap,I,rfl,E,z,_,_,R⟩
 ·exact⟨none,0,rfl,jA,λh=>by omega⟩
 ·refine⟨_,cap,rfl,z,λ_=>⟨g,off,rfl,(jC E),λj u J=>?_⟩⟩;have:=R j u J;simp[World.cell?,E,this]
theorem Row.jO{M:Nat->Prop}(h:Row w e s v n xs)(I:jJ M w w')(E:∀g,v.ownBlock=some g->¬M g):Row w' e s v n xs:=h.kept (λg z=>I.block g (h.lt z) (E g z))
theorem Row.below(h:Row w e s v n xs)(E:Below w.heap.size w w'):Row w' e s v n xs:=h.kept (λg z=>E.block g (h.lt z))
end
section
variable {α:Type}(f:α->List Value)(s:Nat)(hf:∀x,(f x).length=s)
include hf
theorem flat_get:∀(l:List α)(j i:Nat)(x:α),l[j]? =some x->i<s->(l.flatMap f)[j*s+i]? =(f x)[i]?
 |[],j,i,x,h,_=>by simp at h
 |y::l,0,i,x,h,hi=>by
  simp at h;subst h;rw[gQ,Nat.zero_mul,fC,bP (by rw[hf];exact hi)]
 |y::l,j+1,i,x,h,hi=>by
  rw[gQ,bK (by rw[hf,iL];omega),hf,<-flat_get l j i x (by simpa using h) hi]
  congr 1
  rw[iL];omega
theorem oO:∀l:List α,(l.flatMap f).length=l.length*s
 |[]=>by simp
 |y::l=>by rw[gQ,aJ,hf,oO l,aN,iL];omega
theorem Rd.rec{l:List α}{off cap:Nat}(h:Rd w s (.slice (some ⟨g,off,none⟩) l.length cap) l.length (l.flatMap f)){j:Nat}{x:α}(z:l[j]? =some x){i:Nat}{u:Value}(hi:i<s)(Y:(f x)[i]? =some u):w.cell? ⟨g,off+(j*s+i),none⟩=some u:=by
 have R:j<l.length:=(aF.1 z).1;obtain⟨g',I,J,E,_,_,hx⟩:=h.pos (by omega);simp only[Value.slice.injEq,aC,Addr.mk.injEq,and_true,true_and]at E;obtain⟨⟨rfl,rfl⟩,rfl⟩:=E;exact hx _ _ (by rw[flat_get f s hf l j i x z hi];exact Y)
end
def Grew(v:Value)(g:Nat)(w w':World):Prop:=(v.ownBlock=some g/\w.grownBy w' (some g)/\w'.heap.size=w.heap.size)\/(g=w.heap.size/\w.grownBy w' none/\w'.heap.size=w.heap.size+1)
theorem Grew.jO(h:Grew v g w w'):jJ (λk=>v.ownBlock=some k) w w':=by
 rcases h with⟨e,z,_⟩|⟨_,z,_⟩
 ·rw[<-e]at z;exact .grown z
 ·exact(jJ.grown z).mono (λk _ e=>by simp at e)
theorem Grew.own(h:Grew v g w w'):v.ownBlock=some g\/w.heap.size<=g:=by
 rcases h with⟨e,_⟩|⟨e,_⟩
 ·exact .inl e
 ·exact .inr (by omega)
theorem Grew.keep{e s kb:Nat}{xs:List Value}{cs:Array Value}{t:Nat}{J:Nat×Nat}(h:Grew v g w w')(z:Row w e s v n xs)(hk:w.heap[kb]? =some (.cells cs t J))(E:t≠e):w'.heap[kb]? =some (.cells cs t J):=by
 refine(h.jO.block kb (jC hk) (λY=>?_)).trans hk;obtain⟨R,I⟩:=z.obj Y;rw[hk]at I;simp at I;exact E I.2.1
section
variable {P:Program}(w:World){ops:Array Oper}{rest:List Oper}{o:Oper}{a:Act}{Q:Exit->Act->World->Prop}
theorem lG(ab:o.guard=none)(s x:Operand)(t:TypeId)
  (ho:o.op=.call { callee:=.builtin .append,args:=#[s,x],argTypes:=#[t,t] })
  (e:TypeId) (i:TypeInfo) (z:Value) (size bytes:Nat) (ht:P.underlying t=some (.slice e)) (hi:P.info? e=some i) (hz:i.zero=some z)
  (J:i.size=size) (af:i.bytes=bytes) (ag:z.cells.size=size) (ae:0<size)
  (v:Value) (n:Nat) (xs:List Value) (hs:a.eval s=v) (Y:Row w e size v n xs)
  (ad:Addr) (m c:Nat) (E:List Value) (hx:a.eval x=.slice (some ad) m c) (hm:0<m) (hl:E.length=m*size) (R:∀j u,E[j]? =some u->w.cell? (ad.add j)=some u) (h1:∀u∈E,u.oneCell'=true)
  (ac:n+m<=maxLen) (I:(n+m)*bytes<=140737488355328)
  (h:∀g off cap w',Row w' e size (.slice (some ⟨g,off,none⟩) (n+m) cap) (n+m) (xs++E)->Grew v g w w'->wpList P ops Q rest (a.put o.dst (.slice (some ⟨g,off,none⟩) (n+m) cap)) w'):wpList P ops Q (o::rest) a w:=by
 refine wpList_plain ab λK hK=>?_;obtain⟨v',w',hr,h2,⟨g,off,cap,rfl⟩,h4⟩:=Y.append (P:=P) t o.type i z bytes ht hi hz J af ag ae ad m c E hm hl R h1 ac I;unfold Oper.wp execOp;simp only[ho,resolve,invoke,builtin,iR,Sem.run_pure,gW,fJ,dW,fG,hs,hx,hr];refine hK _ _ (h g off cap w' h2 ?_);rcases h4 with⟨e1,e2,e3⟩|⟨e1,e2,e3⟩
 ·have aa:v.ownBlock=some g:=e1.symm;exact .inl ⟨aa,by rw[<-aa];exact e2,e3⟩
 ·exact .inr ⟨by simpa[Value.ownBlock]using e1,e2,e3⟩
end
end
end Go.Proofs.YtpibpdpedjinhaaGreatDoor.Hm
namespace Go.Proofs.YtpibpdpedjinhaaGreatDoor.Sq
def piece:List UInt8->Option (List UInt8×Nat)
 |[]=>none
 |c::r=>
  if c.toNat<128 then(if c.toNat+1<=r.length then some (r.take (c.toNat+1),c.toNat+2)else none)
  else if c.toNat=128 then none
  else match r with
   |[]=>none
   |b::_=>some (List.replicate (257-c.toNat) b,2)
def spread:Nat->List UInt8->Int->List UInt8->List UInt8×Bool
 |0,_,_,out=>(out,true)
 |f+1,s,most,out=>
  if s=[]then(out,true)else
  match piece s with
  |none=>(out,false)
  |some (t,n)=>if max most 0<(out.length:Int)+t.length then(out++t.take ((max most 0).toNat-out.length),false)else spread f (s.drop n) most (out++t)
theorem Me(f:Nat)(most:Int)(out:List UInt8):spread f [] most out=(out,true):=by
 cases f<;>simp[spread]
theorem Kr(f:Nat)(s:List UInt8)(most:Int)(out:List UInt8)(E:0<s.length)(J:s.length<=f)(hp:piece s=none):spread f s most out=(out,false):=by
 obtain⟨z,rfl⟩:∃z,f=z+1:=⟨f-1,by omega⟩
 rw[spread,if_neg (by intro I;rw[I]at E;simp at E),hp]
theorem zF(f:Nat)(s:List UInt8)(most:Int)(out t:List UInt8)(n:Nat)(E:0<s.length)(J:s.length<=f)(hp:piece s=some (t,n)):
  spread f s most out=if max most 0<(out.length:Int)+t.length then(out++t.take ((max most 0).toNat-out.length),false)else spread (f-1) (s.drop n) most (out++t):=by
 obtain⟨z,rfl⟩:∃z,f=z+1:=⟨f-1,by omega⟩
 rw[spread,if_neg (by intro I;rw[I]at E;simp at E),hp];rfl
theorem JA(s:List UInt8)(t:List UInt8)(n:Nat)(h:piece s=some (t,n)):2<=n/\n<=s.length/\1<=t.length/\t.length<=128:=by
 cases s with
 |nil=>simp[piece]at h
 |cons c r=>
  simp only[piece]at h;have z:=c.toNat_lt;split at h
  ·split at h
   ·simp only[aC,dA]at h;obtain⟨rfl,rfl⟩:=h;simp;omega
   ·simp at h
  ·split at h
   ·simp at h
   ·cases r with
    |nil=>simp at h
    |cons b q=>
     simp only[aC,dA]at h;obtain⟨rfl,rfl⟩:=h;simp;omega
end Go.Proofs.YtpibpdpedjinhaaGreatDoor.Sq
namespace Go.Proofs.YtpibpdpedjinhaaGreatDoor.Im
section
variable {l:List Nat}{n:Nat}
structure It where
 list:Bool
 bytes:List UInt8
 kids:List It
variable {i:It}
def wt:Nat->It->Nat
 |0,_=>0
 |n+1,i=>i.bytes.length+1+(i.kids.map (wt n)).sum
theorem YX{x:Nat}(h:x∈l):x<=l.sum:=by
 induction l with
 |nil=>cases h
 |cons a l ih=>
  simp only[List.sum_cons];rcases bV.1 h with rfl|h
  ·omega
  ·have:=ih h;omega
theorem ZU{k:It}(h:k∈i.kids):wt n k+1<=wt (n+1) i:=by
 have:wt n k∈i.kids.map (wt n):=bC.2 ⟨k,h,rfl⟩;have:=YX this;simp only[wt];omega
theorem WC(h:∀x,x∈l->1<=x):l.length<=l.sum:=by
 induction l with
 |nil=>simp
 |cons a l ih=>
  have E:=h a (dK ..);have h2:=ih (λx z=>h x (bT _ z));simp only[List.sum_cons,aN];omega
def dp:Nat->It->Prop
 |0,_=>False
 |n+1,i=>∀k,k∈i.kids->dp n k
theorem Zo(h:dp n i):1<=wt n i:=by
 cases n with
 |zero=>cases h
 |succ n=>simp only[wt];omega
theorem Om(h:dp n i):i.kids.length+i.bytes.length+1<=wt n i:=by
 cases n with
 |zero=>cases h
 |succ n=>
  have:=WC (l:=i.kids.map (wt n)) (λx z=>by
   obtain⟨k,hk,rfl⟩:=bC.1 z;exact Zo (h k hk))
  rw[aU]at this;simp only[wt];omega
end
def val:List UInt8->Nat->Nat
 |[],a=>a
 |x::r,a=>val r (256*a+x.toNat)
theorem val_append:∀(a b:List UInt8)(n:Nat),val (a++b) n=val b (val a n)
 |[],_,_=>rfl
 |x::a,b,n=>by simp only[dH,val];exact val_append a b _
def chk(l:Bool)(s:List UInt8)(z n:Nat):Option (Bool×Nat×Nat):=
 if s.length-z<n then none else if l=false/\n=1/\(s.getD z 0).toNat<128 then none else some (l,z,z+n)
def far(l:Bool)(s:List UInt8)(z:Nat):Option (Bool×Nat×Nat):=
 if s.length<z\/s.getD 1 0=0 then none else if val ((s.take z).drop 1) 0<=55 then none else chk l s z (val ((s.take z).drop 1) 0)
def body(s:List UInt8):Option (Bool×Nat×Nat):=
 match s with
 |[]=>none
 |c::_=>
  if c.toNat<128 then some (false,0,1)
  else if c.toNat<=183 then chk false s 1 (c.toNat-128)
  else if c.toNat<=187 then far false s (1+(c.toNat-183))
  else if c.toNat<192 then none
  else if c.toNat<=247 then chk true s 1 (c.toNat-192)
  else if c.toNat<=251 then far true s (1+(c.toNat-247))
  else none
theorem J7{l:Bool}{s:List UInt8}{f n:Nat}{x:Bool×Nat×Nat}(h:chk l s f n=some x):x=(l,f,f+n)/\n<=s.length-f/\(l=false->n=1->128<=(s.getD f 0).toNat):=by
 unfold chk at h;split at h
 ·simp at h
 ·split at h
  ·simp at h
  ·rename_i z h2;simp only[aC]at h;refine⟨h.symm,by omega,λa b=>?_⟩;rcases fQ (s.getD f 0).toNat 128 with h3|h3
   ·exact absurd ⟨a,b,h3⟩ h2
   ·exact h3
def many(g:List UInt8->Option (It×Nat)):Nat->List UInt8->Option (List It)
 |0,s=>if s=[]then some []else none
 |f+1,s=>if s=[]then some []else match g s with
  |none=>none
  |some (i,n)=>(many g f (s.drop n)).map (λl=>i::l)
def read(b:List UInt8->Option (Bool×Nat×Nat)):Nat->List UInt8->Option (It×Nat)
 |0,s=>match b s with
  |some (false,f,t)=>some (⟨false,(s.take t).drop f,[]⟩,t)
  |_=>none
 |d+1,s=>match b s with
  |none=>none
  |some (false,f,t)=>some (⟨false,(s.take t).drop f,[]⟩,t)
  |some (true,f,t)=>(many (read b d) s.length ((s.take t).drop f)).map (λl=>(⟨true,[],l⟩,t))
theorem SX(g:List UInt8->Option (It×Nat))(f:Nat):many g f []=some []:=by cases f<;>simp[many]
def rb(s:List UInt8):Option (Bool×Nat×Nat):=
 match s with
 |[]=>none
 |c::_=>
  if c.toNat<128 then some (false,0,1)
  else if c.toNat-(if 192<=c.toNat then 192 else 128)<=55 then
   (if s.length<1+(c.toNat-(if 192<=c.toNat then 192 else 128))then none else some (decide (192<=c.toNat),1,1+(c.toNat-(if 192<=c.toNat then 192 else 128))))
  else if 4<c.toNat-(if 192<=c.toNat then 192 else 128)-55\/s.length<1+(c.toNat-(if 192<=c.toNat then 192 else 128)-55)then none
  else if s.length<1+(c.toNat-(if 192<=c.toNat then 192 else 128)-55)+val ((s.take (1+(c.toNat-(if 192<=c.toNat then 192 else 128)-55))).drop 1) 0 then none
  else some (decide (192<=c.toNat),1+(c.toNat-(if 192<=c.toNat then 192 else 128)-55),1+(c.toNat-(if 192<=c.toNat then 192 else 128)-55)+val ((s.take (1+(c.toNat-(if 192<=c.toNat then 192 else 128)-55))).drop 1) 0)
theorem LC(s:List UInt8)(x:Bool×Nat×Nat)(h:body s=some x):rb s=some x:=by
 cases s with
 |nil=>simp[body]at h
 |cons c r=>
  have hc:=c.toNat_lt;simp only[body]at h;simp only[rb]
  have J:∀(l:Bool)(I:Nat),(if 192<=c.toNat then 192 else 128)=I->decide (192<=c.toNat)=l->c.toNat-I<=55->chk l (c::r) 1 (c.toNat-I)=some x->¬c.toNat<128->(if c.toNat<128 then some (false,0,1)
    else if c.toNat-(if 192<=c.toNat then 192 else 128)<=55 then
   (if (c::r).length<1+(c.toNat-(if 192<=c.toNat then 192 else 128))then none else some (decide (192<=c.toNat),1,1+(c.toNat-(if 192<=c.toNat then 192 else 128))))
  else if 4<c.toNat-(if 192<=c.toNat then 192 else 128)-55\/(c::r).length<1+(c.toNat-(if 192<=c.toNat then 192 else 128)-55)then none
  else if (c::r).length<1+(c.toNat-(if 192<=c.toNat then 192 else 128)-55)+val (((c::r).take (1+(c.toNat-(if 192<=c.toNat then 192 else 128)-55))).drop 1) 0 then none
  else some (decide (192<=c.toNat),1+(c.toNat-(if 192<=c.toNat then 192 else 128)-55),1+(c.toNat-(if 192<=c.toNat then 192 else 128)-55)+val (((c::r).take (1+(c.toNat-(if 192<=c.toNat then 192 else 128)-55))).drop 1) 0))=some x:=by
   intro l I R Y h1 h2 h3;obtain⟨hx,hn,_⟩:=J7 h2;rw[if_neg h3,R,Y,if_pos h1,if_neg (by simp only[aN]at hn⊢;omega),hx]
  have E:∀(l:Bool)(I:Nat),(if 192<=c.toNat then 192 else 128)=I->decide (192<=c.toNat)=l->55<c.toNat-I->c.toNat-I<=59->far l (c::r) (1+(c.toNat-I-55))=some x->¬c.toNat<128->(if c.toNat<128 then some (false,0,1)
    else if c.toNat-(if 192<=c.toNat then 192 else 128)<=55 then
   (if (c::r).length<1+(c.toNat-(if 192<=c.toNat then 192 else 128))then none else some (decide (192<=c.toNat),1,1+(c.toNat-(if 192<=c.toNat then 192 else 128))))
  else if 4<c.toNat-(if 192<=c.toNat then 192 else 128)-55\/(c::r).length<1+(c.toNat-(if 192<=c.toNat then 192 else 128)-55)then none
  else if (c::r).length<1+(c.toNat-(if 192<=c.toNat then 192 else 128)-55)+val (((c::r).take (1+(c.toNat-(if 192<=c.toNat then 192 else 128)-55))).drop 1) 0 then none
  else some (decide (192<=c.toNat),1+(c.toNat-(if 192<=c.toNat then 192 else 128)-55),1+(c.toNat-(if 192<=c.toNat then 192 else 128)-55)+val (((c::r).take (1+(c.toNat-(if 192<=c.toNat then 192 else 128)-55))).drop 1) 0))=some x:=by
   intro l I R Y h1 aa h2 h3;unfold far at h2;split at h2
   ·simp at h2
   ·rename_i hg;split at h2
    ·simp at h2
    ·obtain⟨hx,hn,_⟩:=J7 h2;rw[if_neg h3,R,Y,if_neg (by omega),if_neg (by omega),if_neg (by omega),hx]
  split at h
  ·rename_i z;rw[if_pos z];exact h
  ·rename_i z;split at h
   ·exact J false 128 (if_neg (by omega)) (decide_eq_false (by omega)) (by omega) h z
   ·split at h
    ·exact E false 128 (if_neg (by omega)) (decide_eq_false (by omega)) (by omega) (by omega) (by rw[show c.toNat-128-55=c.toNat-183 from by omega];exact h) z
    ·split at h
     ·simp at h
     ·split at h
      ·exact J true 192 (if_pos (by omega)) (decide_eq_true (by omega)) (by omega) h z
      ·split at h
       ·exact E true 192 (if_pos (by omega)) (decide_eq_true (by omega)) (by omega) (by omega) (by rw[show c.toNat-192-55=c.toNat-247 from by omega];exact h) z
       ·simp at h
section
variable {g:List UInt8->Option (It×Nat)}{s:List UInt8}{l:List It}{p d f t:Nat}{b:List UInt8->Option (Bool×Nat×Nat)}
inductive mJ(g:List UInt8->Option (It×Nat))(s:List UInt8):List It->Nat->Prop
 |nil:mJ g s [] 0
 |snoc {l:List It} {p:Nat} {i:It} {n:Nat}:mJ g s l p->p<s.length->g (s.drop p)=some (i,n)->mJ g s (l++[i]) (p+n)
def Fair(g:List UInt8->Option (It×Nat)):Prop:=∀s i n,g s=some (i,n)->1<=n/\n<=s.length
theorem mJ.le(z:Fair g)(h:mJ g s l p):p<=s.length/\l.length<=p:=by
 induction h with
 |nil=>exact⟨dF _,jA⟩
 |snoc h hp hgs ih=>
  have:=z _ _ _ hgs;rw[dP]at this;simp only[aJ,aN,bM];omega
theorem mJ.many(h:mJ g s l p):∀f,l.length<=f->Im.many g f s=(Im.many g (f-l.length) (s.drop p)).map (λr=>l++r):=by
 induction h with
 |nil=>intro f _;simp
 |@snoc l p i n h hp hgs ih=>
  intro f J;simp only[aJ,aN,bM]at J⊢;rw[ih f (by omega)];obtain⟨z,I⟩:∃z,f-l.length=z+1:=⟨f-l.length-1,by omega⟩
  have E:s.drop p≠[]:=by intro e;have:=congrArg List.length e;simp at this;omega
  rw[I,Im.many,if_neg E,hgs];simp only;rw[show f-(l.length+(0+1))=z from by omega,gZ];cases Im.many g z (s.drop (p+n))<;>simp
theorem mJ.all(z:Fair g)(h:mJ g s l p)(f:Nat)(E:s.length<=f)(hp:s.length<=p):Im.many g f s=some l:=by
 have:=h.le z;rw[h.many f (by omega),List.drop_of_length_le hp,SX];simp
theorem mJ.stuck(J:Fair g)(h:mJ g s l p)(f:Nat)(Y:s.length<=f)(hp:p<s.length)(R:g (s.drop p)=none):Im.many g f s=none:=by
 have:=h.le J;rw[h.many f (by omega)];obtain⟨I,E⟩:∃I,f-l.length=I+1:=⟨f-l.length-1,by omega⟩
 have z:s.drop p≠[]:=by intro e;have:=congrArg List.length e;simp at this;omega
 rw[E,Im.many,if_neg z,R];rfl
theorem EG(g:List UInt8->Option (It×Nat)):∀(f:Nat)(s:List UInt8)(l:List It),Im.many g f s=some l->Fair g->∀(h:It->Nat),(∀s' i n,g s'=some (i,n)->h i<=2*n)->(l.map h).sum<=2*s.length
 |0,s,l,hm,_,h,_=>by
  simp only[Im.many]at hm;split at hm
  ·simp at hm;subst hm;simp
  ·simp at hm
 |f+1,s,l,hm,hg,h,hh=>by
  rw[Im.many]at hm;split at hm
  ·simp at hm;subst hm;simp
  ·cases z:g s with
   |none=>rw[z]at hm;simp at hm
   |some x=>
    obtain⟨i,n⟩:=x;rw[z]at hm;simp only at hm;obtain⟨t,ht,rfl⟩:=aX.1 hm;have E:=hg s i n z;have h2:=EG g f (s.drop n) t ht hg h hh;have h3:=hh s i n z;rw[dP]at h2;simp only[dW,List.sum_cons];omega
theorem Jj(g:List UInt8->Option (It×Nat)):∀(f:Nat)(s:List UInt8)(l:List It),Im.many g f s=some l->∀k,k∈l->∃s' n,g s'=some (k,n)
 |0,s,l,hm,k,hk=>by
  simp only[Im.many]at hm;split at hm
  ·simp at hm;subst hm;simp at hk
  ·simp at hm
 |f+1,s,l,hm,k,hk=>by
  rw[Im.many]at hm;split at hm
  ·simp at hm;subst hm;simp at hk
  ·cases z:g s with
   |none=>rw[z]at hm;simp at hm
   |some x=>
    obtain⟨i,n⟩:=x;rw[z]at hm;simp only at hm;obtain⟨t,ht,rfl⟩:=aX.1 hm;rcases bV.1 hk with rfl|hk
    ·exact⟨s,n,z⟩
    ·exact Jj g f _ t ht k hk
theorem Fv(g g':List UInt8->Option (It×Nat))(E:∀s x,g s=some x->g' s=some x):∀(f:Nat)(s:List UInt8)(l:List It),Im.many g f s=some l->Im.many g' f s=some l
 |0,s,l,hm=>hm
 |f+1,s,l,hm=>by
  rw[Im.many]at hm⊢;split at hm
  ·rename_i e;rw[if_pos e];exact hm
  ·rename_i e;rw[if_neg e];cases z:g s with
   |none=>rw[z]at hm;simp at hm
   |some x=>
    obtain⟨i,n⟩:=x;rw[z]at hm;simp only at hm;obtain⟨t,ht,rfl⟩:=aX.1 hm;rw[E s _ z];simp only;rw[Fv g g' E f _ t ht];rfl
def qE(b:List UInt8->Option (Bool×Nat×Nat)):Nat->List UInt8->Option (It×Nat)
 |0,_=>none
 |d+1,s=>match b s with
  |none=>none
  |some (false,f,t)=>some (⟨false,(s.take t).drop f,[]⟩,t)
  |some (true,f,t)=>(many (qE b d) s.length ((s.take t).drop f)).map (λl=>(⟨true,[],l⟩,t))
theorem uy(h:b s=some (false,f,t)):qE b (d+1) s=some (⟨false,(s.take t).drop f,[]⟩,t):=by rw[qE,h]
theorem wG(h:b s=some (true,f,t)):qE b (d+1) s=(many (qE b d) s.length ((s.take t).drop f)).map (λl=>(⟨true,[],l⟩,t)):=by rw[qE,h]
theorem Ak(h:b s=none):qE b (d+1) s=none:=by rw[qE,h]
theorem Bl(h:b s=some (false,f,t)):read b d s=some (⟨false,(s.take t).drop f,[]⟩,t):=by cases d<;>rw[read,h]
theorem EP(h:b s=some (true,f,t)):read b (d+1) s=(many (read b d) s.length ((s.take t).drop f)).map (λl=>(⟨true,[],l⟩,t)):=by rw[read,h]
theorem Ai(h:b s=some (true,f,t)):read b 0 s=none:=by rw[read,h]
theorem uQ(h:b s=none):read b d s=none:=by cases d<;>rw[read,h]
theorem Dt(b:List UInt8->Option (Bool×Nat×Nat)):∀(d:Nat)(s:List UInt8)(x:It×Nat),read b d s=some x->qE b (d+1) s=some x:=by
 intro d
 induction d with
 |zero=>
  intro s x h;cases z:b s with
  |none=>rw[uQ z]at h;simp at h
  |some y=>
   obtain⟨l,f,t⟩:=y;cases l with
   |true=>rw[Ai z]at h;simp at h
   |false=>rw[Bl z]at h;rw[uy z];exact h
 |succ d ih=>
  intro s x h;cases z:b s with
  |none=>rw[uQ z]at h;simp at h
  |some y=>
   obtain⟨l,f,t⟩:=y;cases l with
   |false=>rw[Bl z]at h;rw[uy z];exact h
   |true=>
    rw[EP z]at h;obtain⟨I,E,rfl⟩:=aX.1 h;rw[wG z,Fv (read b d) (qE b (d+1)) ih _ _ _ E];rfl
def Body(b:List UInt8->Option (Bool×Nat×Nat)):Prop:=∀s l f t,b s=some (l,f,t)->f<=t/\t<=s.length/\1<=t/\(l=true->1<=f)
theorem BU(E:Body b)(d:Nat):Fair (qE b d):=by
 intro s i n h;cases d with
 |zero=>simp[qE]at h
 |succ d=>
  cases z:b s with
  |none=>rw[Ak z]at h;simp at h
  |some y=>
   obtain⟨l,f,t⟩:=y;have:=E s l f t z;cases l with
   |false=>rw[uy z]at h;simp at h;omega
   |true=>
    rw[wG z]at h;obtain⟨R,J,I⟩:=aX.1 h;simp at I;omega
theorem rG(z:Body b)(d:Nat):Fair (read b d):=λs i n h=>BU z (d+1) s i n (Dt b d s _ h)
theorem Bz{b:List UInt8->Option (Bool×Nat×Nat)}(E:Body b):∀(d:Nat)(s:List UInt8)(i:It)(n:Nat),qE b d s=some (i,n)->dp d i/\wt d i<=2*n
 |0,s,i,n,h=>by simp[qE]at h
 |d+1,s,i,n,h=>by
  cases z:b s with
  |none=>rw[Ak z]at h;simp at h
  |some y=>
   obtain⟨l,f,t⟩:=y;have hq:=E s l f t z;cases l with
   |false=>
    rw[uy z]at h;simp only[aC,dA]at h;obtain⟨rfl,rfl⟩:=h;refine⟨λk hk=>by simp at hk,?_⟩;simp only[wt,fG,List.sum_nil,dP,aZ];omega
   |true=>
    rw[wG z]at h;obtain⟨ks,R,J⟩:=aX.1 h;simp only[dA]at J;obtain⟨rfl,rfl⟩:=J;refine⟨λk hk=>?_,?_⟩
    ·obtain⟨s',Y,I⟩:=Jj _ _ _ _ R k hk;exact(Bz E d s' k Y I).1
    ·have:=EG _ _ _ _ R (BU E d) (wt d) (λs' i n h=>(Bz E d s' i n h).2);simp only[dP,aZ]at this;have:=hq.2.2.2 rfl;simp only[wt,bM];omega
theorem Xi(z:Body b)(d:Nat)(s:List UInt8)(i:It)(n:Nat)(h:read b d s=some (i,n)):dp (d+1) i/\wt (d+1) i<=2*n:=Bz z (d+1) s i n (Dt b d s _ h)
theorem VW:Body rb:=by
 intro s l f t h;cases s with
 |nil=>simp[rb]at h
 |cons c r=>
  have E:=c.toNat_lt;simp only[rb]at h;generalize (if 192<=c.toNat then 192 else 128)=B0 at h;split at h
  ·simp only[aC,dA]at h;obtain⟨rfl,rfl,rfl⟩:=h;simp
  ·split at h
   ·split at h
    ·simp at h
    ·rename_i z;simp only[aC,dA]at h;obtain⟨_,rfl,rfl⟩:=h;exact⟨by omega,by omega,by omega,λ_=>by omega⟩
   ·split at h
    ·simp at h
    ·split at h
     ·simp at h
     ·rename_i z;simp only[aC,dA]at h;obtain⟨_,rfl,rfl⟩:=h;exact⟨by omega,by omega,by omega,λ_=>by omega⟩
theorem oI:Body body:=λs l f t h=>VW s l f t (LC s _ h)
end
end Go.Proofs.YtpibpdpedjinhaaGreatDoor.Im
namespace Go.Proofs.YtpibpdpedjinhaaGreatDoor
namespace Im
def dec(s:List UInt8):Option It:=match read body 8 s with
 |some (i,n)=>if n=s.length then some i else none
 |none=>none
end Im
end Go.Proofs.YtpibpdpedjinhaaGreatDoor
namespace Go.Proofs.YtpibpdpedjinhaaGreatDoor.Dv
open Fr (F)
section
structure Tx where
 fr:Nat
 dest:Nat
 data:List UInt8
structure U where
 id:Int
 time:Int
 txs:List Tx
 logs:List (List UInt8)
instance:Inhabited U:=⟨⟨0,0,[],[]⟩⟩
structure Cf where
 inbox:Nat
 batcher:Nat
 timeout:Int
 window:Int
 drift:Int
 step:Int
 most:Int
structure Ch where
 name:Nat
 opened:Nat
 l:List F
 spoilt:Bool
structure Ba where
 epoch:Nat
 id:Nat
 time:Nat
 txs:List (List UInt8)
 place:Nat
structure Lo where
 number:Nat
 time:Int
 epoch:Nat
 id:Int
 seq:Nat
 txs:List (List UInt8)
 deps:List (List UInt8)
 at_:Nat
instance:Inhabited Lo:=⟨⟨0,0,0,0,0,[],[],0⟩⟩
def last(l:List F):Option Nat:=(l.find? (·.last)).map (·.num)
def has(l:List F)(n:Nat):Option (List UInt8):=(l.find? (λx=>x.num == n)).map (·.data)
def qX(l:List F):Nat->Option (List UInt8)
 |0=>some []
 |k+1=>(qX l k).bind λs=>(has l k).map λd=>s++d
def bytes(l:List F):Option (List UInt8):=(last l).bind λn=>qX l (n+1)
def size(l:List F):Nat:=(l.map λx=>x.data.length).sum
def nS(c:Ch)(f:F):Bool:=(has c.l f.num).isSome || c.spoilt || (match last c.l with|some n=>f.last || decide (n<f.num)|none=>false)
def goes(f x:F):Bool:=f.last&&decide (f.num<x.num)
def grown(c:Ch)(f:F):List F:=(c.l++[f]).filter λx=>!goes f x
def joined(most:Int)(c:Ch)(f:F):Ch:=
 if nS c f then c
 else if most<(size (grown c f):Int)then { c with l:=[],spoilt:=true } else { c with l:=grown c f }
def frame(most:Int)(n:Nat)(cs:List Ch)(f:F):List Ch:=
 if f.num=0 then cs.filter (λc=>c.name != f.chan)++[joined most ⟨f.chan,n,[],false⟩ f]
 else cs.map λc=>if c.name=f.chan then joined most c f else c
def mG(c:Cf)(t:Tx):List F:=if t.dest=c.inbox/\t.fr=c.batcher then(Fr.frames t.data).getD []else []
def heard(c:Cf)(txs:List Tx):List F:=txs.flatMap (mG c)
def pull:List Ch->List (List UInt8)×List Ch
 |[]=>([],[])
 |c::cs=>match bytes c.l with
  |none=>([],c::cs)
  |some s=>(s::(pull cs).1,(pull cs).2)
def value(i:Im.It):Option Nat:=
 if i.list || decide (8<i.bytes.length) || (i.bytes != []&&i.bytes.getD 0 0 == 0) || (i.bytes.length == 8&&decide (64<=(i.bytes.getD 0 0).toNat))then none
 else some (Im.val i.bytes 0)
def ru(l:Im.It)(place:Nat):Option Ba:=
 match l.list,l.kids with
 |true,[a,b,c,d]=>
  if d.list=false then none else
  match value a,value b,value c with
  |some x,some y,some z=>if d.kids.all (λt=>!t.list)then some ⟨x,y,z,d.kids.map (·.bytes),place⟩else none
  |_,_,_=>none
 |_,_=>none
def xJ(i:Im.It)(place:Nat):Option Ba:=
 if i.list then none else
 match i.bytes with
 |[]=>none
 |x::r=>if x=0 then(Im.dec r).bind (λl=>ru l place)else none
def rd:Nat->List UInt8->Nat->List Ba
 |0,_,_=>[]
 |f+1,s,n=>if s=[]then []else
  match Im.read Im.body 8 s with
  |none=>[]
  |some (i,k)=>match xJ i n with
   |none=>[]
   |some b=>(if b.epoch<=n then [b]else [])++rd f (s.drop k) n
def reads(s:List UInt8)(n:Nat):List Ba:=rd (Sq.spread s.length s 4096 []).1.length (Sq.spread s.length s 4096 []).1 n
def take(c:Cf)(u:U)(n:Nat)(cs:List Ch)(wait:List Ba):List Ch×List Ba:=
 let cs1:=cs.filter λx=>decide ((n:Int)-(x.opened:Int)<=c.timeout)
 let cs2:=(heard c u.txs).foldl (frame c.most n) cs1
 ((pull cs2).2,wait++(pull cs2).1.flatMap (λs=>reads s n))
def isDep(s:List UInt8):Bool:=
 match Im.dec s with
 |some i=>match i.list,i.kids with
  |true,[a,b]=>!a.list&&!b.list&&decide (0<a.bytes.length)&&decide (a.bytes.length<9)&&decide (b.bytes.length<65)
  |_,_=>false
 |none=>false
def jL(u:U):List (List UInt8):=u.logs.filter isDep
inductive Out where
 |no
 |hold
 |got (b:Ba)
section
variable (c:Cf)(chain:List U)(n:Nat)
def late(e:Nat)(t:Int)(b:Ba):Bool:=decide ((b.time:Int)<t) || decide (b.epoch<e) || decide (e+1<b.epoch) || decide ((b.epoch:Int)+c.window<(b.place:Int))
def holds(e:Nat)(t:Int)(b:Ba):Bool:=(b.epoch == e+1&&decide (n<e+1)) || (b.txs.isEmpty&&b.epoch == e&&decide (n<e+1)&&decide ((chain[e]!).time+c.drift<t))
def wrong(e:Nat)(t:Int)(b:Ba):Bool:=decide ((b.id:Int)≠(chain[b.epoch]!).id) || decide (t<(chain[b.epoch]!).time) || (decide ((chain[b.epoch]!).time+c.drift<t)&&(!b.txs.isEmpty || (b.epoch == e&&decide ((chain[e+1]!).time<=t))))
def sift(e:Nat)(t:Int):List Ba->Out×List Ba
 |[]=>(.no,[])
 |b::r=>
  if t<(b.time:Int)then((sift e t r).1,b::(sift e t r).2)
  else if late c e t b then sift e t r
  else if holds c chain n e t b then(.hold,b::r)
  else if wrong c chain e t b then sift e t r
  else(.got b,r)
def lay(h:Lo)(epoch:Nat)(txs:List (List UInt8)):Lo:=
 ⟨h.number+1,h.time+c.step,epoch,(chain[epoch]!).id,if epoch=h.epoch then h.seq+1 else 0,txs,if epoch=h.epoch then []else jL (chain[epoch]!),n⟩
def draw(h:Lo)(wait:List Ba):Option Lo×List Ba:=
 let r:=sift c chain n h.epoch (h.time+c.step) wait
 match r.1 with
 |.hold=>(none,r.2)
 |.got b=>(some (lay c chain n h b.epoch b.txs),r.2)
 |.no=>if (n:Int)<=h.epoch+c.window then(none,r.2)else(some (lay c chain n h (if (chain[h.epoch+1]!).time<=h.time+c.step then h.epoch+1 else h.epoch) []),r.2)
def draws:Nat->Lo->List Ba->List Lo×List Ba
 |0,_,wait=>([],wait)
 |f+1,h,wait=>match draw c chain n h wait with
  |(none,k)=>([],k)
  |(some x,k)=>(x::(draws f x k).1,(draws f x k).2)
end
structure St where
 chs:List Ch
 wait:List Ba
 log:List Lo
def left(chain:List U)(n:Nat)(h:Lo)(wait:List Ba):Nat:=wait.length+(n-h.epoch)+((chain[n]!).time-h.time).toNat
def step(c:Cf)(chain:List U)(n:Nat)(s:St):St:=
 let r:=take c (chain[n]!) n s.chs s.wait
 let h:=s.log.getLastD default
 let d:=draws c chain n (left chain n h r.2+1) h r.2
 ⟨r.1,d.2,s.log++d.1⟩
def first(u:U):Lo:=⟨0,u.time,0,u.id,0,[],jL u,0⟩
def start(chain:List U):St:=⟨[],[],[first (chain[0]!)]⟩
def gone(c:Cf)(chain:List U):Nat->St
 |0=>start chain
 |k+1=>step c chain k (gone c chain k)
def jP(c:Cf):Bool:=decide (1<=c.timeout/\c.timeout<=8/\1<=c.window/\c.window<=8/\0<=c.drift/\c.drift<=100/\2<=c.step/\c.step<=20/\1<=c.most/\c.most<=4096)
def small(u:U):Bool:=decide (u.txs.length<=20/\u.logs.length<=20)&&u.txs.all (λt=>decide (t.data.length<=2000))&&u.logs.all (λs=>decide (s.length<=2000))
def mM(z:Option Int)(u:U):Bool:=(match z with
 |none=>decide (0<=u.time/\u.time<=1000000)
 |some b=>decide (b<u.time/\u.time<=b+24))&&small u
def jV:Option Int->List U->Bool
 |_,[]=>true
 |b,u::r=>mM b u&&jV (some u.time) r
def jR(chain:List U):Bool:=decide (1<=chain.length/\chain.length<=60)&&jV none chain
def all(c:Cf)(chain:List U):Int×List Lo:=
 if jP c=false then(1,[])else if jR chain=false then(2,[])else(0,(gone c chain chain.length).log)
end
end Go.Proofs.YtpibpdpedjinhaaGreatDoor.Dv
namespace Go.Proofs.YtpibpdpedjinhaaGreatDoor
open Go.RowKit Go.Joins
section
variable {B:Nat}{w w':World}
def K3(w:World)(b o:Nat)(z I E:Value):Prop:=w.cell? ⟨b,o,none⟩=some z/\w.cell? ⟨b,o+1,none⟩=some I/\w.cell? ⟨b,o+2,none⟩=some E
def In(B:Nat)(w:World):Nat->Value->Value->Value->Im.It->Prop
 |0,_,_,_,_=>False
 |n+1,c0,c1,c2,i=>c0=.bool i.list/\c1=.string ⟨i.bytes.toArray⟩/\∃a cap,c2=.slice a i.kids.length cap/\(i.kids≠[]->∃b off,a=some ⟨b,off,none⟩/\b<B/\∀(j:Nat)(J:j<i.kids.length),∃E I z,K3 w b (off+j*3) E I z/\In B w n E I z (i.kids[j]))
theorem K3.below{b o:Nat}{I R J:Value}(h:K3 w b o I R J)(E:Below B w w')(z:b<B):K3 w' b o I R J:=
 ⟨(E.cell (p:=⟨b,o,none⟩) z).trans h.1,(E.cell (p:=⟨b,o+1,none⟩) z).trans h.2.1,(E.cell (p:=⟨b,o+2,none⟩) z).trans h.2.2⟩
theorem In.below(hb:Below B w w'):∀(n:Nat)(c0 I J:Value)(i:Im.It),In B w n c0 I J i->In B w' n c0 I J i
 |0,_,_,_,_,h=>h
 |n+1,c0,I,J,i,h=>by
  obtain⟨h0,h1,a,cap,h2,h3⟩:=h;refine⟨h0,h1,a,cap,h2,λhk=>?_⟩;obtain⟨b,off,ha,z,hj⟩:=h3 hk;refine⟨b,off,ha,z,λj E=>?_⟩;obtain⟨d0,d1,d2,Y,R⟩:=hj j E;exact⟨d0,d1,d2,Y.below hb z,In.below hb n d0 d1 d2 _ R⟩
theorem In.shape{n:Nat}{c0 E z:Value}{i:Im.It}(h:In B w n c0 E z i):∃a cap,c0=.bool i.list/\E=.string ⟨i.bytes.toArray⟩/\z=.slice a i.kids.length cap:=by
 cases n with
 |zero=>cases h
 |succ n=>
  obtain⟨J,I,a,cap,h2,_⟩:=h;exact⟨a,cap,J,I,h2⟩
theorem below_drewN{a:World}(h:Below B a w)(n:Nat):Below B a (w.drewN n):=h.trans ⟨rfl,rfl,rfl,jA,λ_ _=>rfl⟩
end
end Go.Proofs.YtpibpdpedjinhaaGreatDoor
namespace Go.Proofs.YtpibpdpedjinhaaGreatDoor.Hm
open Go.RowKit Go.Joins Go.Shelf
section
variable {i:Im.It}
theorem bits_or_u64_nat(a b:Nat)(E:a<18446744073709551616)(I:b<18446744073709551616):bits .or .u64 (a:Int) (b:Int)=((a |||b:Nat):Int):=by
 have J:a |||b<2 ^ 64:=Nat.or_lt_two_pow (by omega) (by omega)
 have z:(BitVec.ofInt 64 (a:Int)).toNat=a:=by
  rw[BitVec.ofInt_natCast,BitVec.toNat_ofNat];exact Nat.mod_eq_of_lt (by omega)
 have h2:(BitVec.ofInt 64 (b:Int)).toNat=b:=by
  rw[BitVec.ofInt_natCast,BitVec.toNat_ofNat];exact Nat.mod_eq_of_lt (by omega)
 show IntKind.u64.wrap ((BitVec.ofInt 64 (a:Int) |||BitVec.ofInt 64 (b:Int)).toNat:Int)=_
 rw[BitVec.toNat_or,z,h2,IntKind.wrap_u64];omega
theorem Ap(s:List UInt8)(k:Nat)(hk:k<s.length):Im.val (s.take (k+1)) 0=256*Im.val (s.take k) 0+(s.getD k 0).toNat:=by
 rw[dZ hk,Im.val_append];simp only[Im.val];rw[aS,aG hk];simp
 try omega
theorem rO:∀(s:List UInt8)(n:Nat),Im.val s n<(n+1)*256 ^ s.length
 |[],n=>by simp[Im.val]
 |x::s,n=>by
  have:=rO s (256*n+x.toNat);have z:=x.toNat_lt;simp only[Im.val,aN,Nat.pow_succ];refine aH this ?_;rw[Nat.mul_comm (256 ^ s.length) 256,<-Nat.mul_assoc];exact fD _ (by omega)
theorem SS:∀(s:List UInt8)(n:Nat),n*256 ^ s.length<=Im.val s n
 |[],n=>by simp[Im.val]
 |x::s,n=>by
  have:=SS s (256*n+x.toNat);simp only[Im.val,aN,Nat.pow_succ];refine aW ?_ this;rw[Nat.mul_comm (256 ^ s.length) 256,<-Nat.mul_assoc];exact fD _ (by omega)
theorem Qv(s:List UInt8)(hs:s.length<=8):decide (4611686018427387903<Im.val s 0)=(s.length == 8&&decide (64<=(s.getD 0 0).toNat)):=by
 by_cases z:s.length=8
 ·cases s with
  |nil=>simp at z
  |cons x s=>
   have I:s.length=7:=by simpa using z
   have E:=rO s x.toNat;have h2:=SS s x.toNat;rw[I]at E h2;have e:Im.val (x::s) 0=Im.val s x.toNat:=by simp[Im.val]
   rw[e,z];simp only[List.getD_cons_zero,beq_self_eq_true,Bool.true_and];exact decide_eq_decide.2 (by omega)
 ·have E:=rO s 0;have h2:(256:Nat) ^ s.length<=256 ^ 7:=iG (by decide) (by omega);rw[show(s.length == 8)=false from beq_false_of_ne z,Bool.false_and];exact decide_eq_false (by omega)
def aaP(o:Option Nat):Value:=.tuple #[.int .i64 ((o.getD 0:Nat):Int),.bool o.isSome]
theorem Aw(h:i.list=true\/8<i.bytes.length\/(i.bytes≠[]/\(i.bytes.getD 0 0)=0)):Dv.value i=none:=by
 unfold Dv.value;rw[if_pos];rcases h with h|h|⟨z,h2⟩
 ·simp[h]
 ·simp[h]
 ·simp only[iM];left;right;rw[h2];simp[z]
theorem Jf(z:i.list=false)(h2:i.bytes.length<=8)(h3:i.bytes=[]\/(i.bytes.getD 0 0)≠0):Dv.value i=if 4611686018427387903<Im.val i.bytes 0 then none else some (Im.val i.bytes 0):=by
 have E:=Qv i.bytes h2;unfold Dv.value;rw[z,<-E,decide_eq_false (show ¬8<i.bytes.length by omega)]
 have:(i.bytes != []&&i.bytes.getD 0 0 == 0)=false:=by
  rcases h3 with h3|h3
  ·rw[h3];rfl
  ·rw[show(i.bytes.getD 0 0 == 0)=false from beq_false_of_ne h3,Bool.and_false]
 rw[this];simp
theorem rZ(i:Im.It)(c2:Value)(w:World)(au:∃a n cap,c2=.slice a n cap):Calls PQ 176 #[.agg #[.bool i.list,.string ⟨i.bytes.toArray⟩,c2]] w λe w'=>e=.returned (aaP (Dv.value i))/\Below w.heap.size w w':=by
 obtain⟨a,n,cap,rfl⟩:=au;obtain⟨D,hD⟩:∃D:ByteArray,(⟨i.bytes.toArray⟩:ByteArray)=D:=⟨_,rfl⟩
 have I:D.data.toList=i.bytes:=by rw[<-hD]
 have J:D.size=i.bytes.length:=by rw[<-hD];rfl
 rw[hD];obtain⟨R,hR⟩:∃R,Dv.value i=R:=⟨_,rfl⟩
 rw[hR];obtain⟨li,E⟩:∃li,i.list=li:=⟨_,rfl⟩
 rw[E];obtain⟨W,hW,aa,-⟩:=jE w #[.bool li,.string D,.slice a n cap] 103;have z0:W.cell? ⟨w.heap.size,0,none⟩=some (.bool li):=by rw[hW];simp
 have z1:W.cell? ⟨w.heap.size,1,none⟩=some (.string D):=by rw[hW];simp
 have H:Hid _:=jw I (jw J (jw hR (jw E aa)));cases li
 ·by_cases h8:D.size<=8
  ·have ax:¬(8:Int)<(D.size:Int):=by omega
   by_cases he:i.bytes=[]
   ·have ar:D=⟨#[]⟩:=by rw[<-hD,he]
    have z:=Jf E (by omega) (.inl he);rw[hR,he]at z;subst ar;have Hv:Hid _:=z;clear hD I J hR E aa z he;go_enter (fq Tryz.func176 rfl),Tryz.ntmps176;go_upto_region 1 with fail;rw[<-hW];clear hW;have ag:=λu:World=>Lib.run_convert_string_bytes (P:=PQ) u 9 155 5 ⟨#[]⟩ (uq Tryz.underlying9) (uq Tryz.underlying155) (uq Tryz.underlying5);go_wp2_with fail;obtain⟨Y,hY⟩:∃Y:World,Y=Lib.bytesWorld W 5 ⟨#[]⟩:=⟨_,rfl⟩
    have ab:Below w.heap.size w Y:=by rw[hY];exact Fr.below_bytesWorld H.out.2.2.2.2 H.out.2.2.2.2.size _ _
    rw[<-hY];have HY:Hid _:=ab;clear hY ab ag;go_loopg [5,7,29] 0 (λg v5 _ t wx=>v5=.int .u64 0/\t=.int .i64 0/\wx=Y)
    case atStart=>exact⟨rfl,rfl,rfl⟩
    case round=>
     obtain⟨rfl,rfl,rfl⟩:=hrel;go_wp2_with fail;go_ret2;refine⟨?_,HY.out⟩;rw[Hv.out];rfl
   ·have h0:0<D.size:=by
     rw[J];exact List.length_pos_iff.2 he
    have aq:D.toList.isEmpty=false:=by rw[Fr.toList_empty];exact decide_eq_false (by omega)
    obtain⟨x,hx⟩:∃x:UInt8,i.bytes.getD 0 0=x:=⟨_,rfl⟩
    have ac:D[0]'h0=x:=by
     rw[<-hx,<-I,aS]
     have:D.data.toList[0]? =some (D[0]'h0):=by
      rw[aG (by simpa using h0)];rfl
     rw[this];rfl
    by_cases hz:x=0
    ·have z:=Aw (i:=i) (.inr (.inr ⟨he,by rw[hx];exact hz⟩));rw[hR]at z;subst z;have aj:(((D[0]'h0).toNat:Int) == 0)=true:=by rw[ac,hz];rfl
     clear hD I J hR E aa hx ac hz he;go_enter (fq Tryz.func176 rfl),Tryz.ntmps176;go_upto_region 1 with fail;rw[<-hW];clear hW;go_wp2_with fail;go_ret2;exact⟨rfl,H.out.2.2.2.2⟩
    ·have z:=Jf E (by omega) (.inr (by rw[hx];exact hz));rw[hR,<-I]at z
     have aj:(((D[0]'h0).toNat:Int) == 0)=false:=by
      rw[ac];refine beq_false_of_ne (λe=>hz ?_);have:x.toNat=0:=by omega
      exact jr.1 (by rw[this];rfl)
     have Hv:Hid _:=z;clear hD I J hR E aa hx ac hz he z;go_enter (fq Tryz.func176 rfl),Tryz.ntmps176;go_upto_region 1 with fail;rw[<-hW];clear hW;have ag:=λu:World=>Lib.run_convert_string_bytes (P:=PQ) u 9 155 5 D (uq Tryz.underlying9) (uq Tryz.underlying155) (uq Tryz.underlying5);go_wp2_with fail;obtain⟨Y,hY⟩:∃Y:World,Y=Lib.bytesWorld W 5 D:=⟨_,rfl⟩
     have ab:Below w.heap.size w Y:=by rw[hY];exact Fr.below_bytesWorld H.out.2.2.2.2 H.out.2.2.2.2.size _ _
     have ao:∀k,k<D.size->Y.cell? ⟨W.heap.size,k,none⟩=some (.int .u8 (D.data.toList.getD k 0).toNat):=λk hk=>by rw[hY];exact Lib.bytesWorld_cell W 5 D k hk
     rw[<-hY];have HY:Hid _:=jw ao ab;clear hY ao ab ag aj aq;generalize grownCap W D.size 0 5=gc;go_loopg [5,7,29] D.size (λg v5 _ t wx=>∃k:Nat,k<=D.size/\t=.int .i64 k/\v5=.int .u64 (Im.val (D.data.toList.take k) 0:Nat)/\g=D.size-k/\wx=Y)
     case atStart=>exact⟨0,dF _,rfl,rfl,rfl,rfl⟩
     case round=>
      obtain⟨k,hk,rfl,rfl,rfl,rfl⟩:=hrel;by_cases ap:k<D.size
      ·have ai:(k:Int)<D.size:=by omega
       have hc:=HY.out.1 k (by omega);have af:=Ap D.data.toList k (by rw[<-aV];exact ap);generalize hb:(D.data.toList.getD k 0).toNat=b at hc af;have aw:b<256:=by rw[<-hb];exact UInt8.toNat_lt _
       have az:Im.val (D.data.toList.take k) 0<72057594037927936:=by
        have h1:=rO (D.data.toList.take k) 0;have h2:(256:Nat) ^ (D.data.toList.take k).length<=256 ^ 7:=iG (by decide) (by rw[aZ];omega);omega
       generalize an:Im.val (D.data.toList.take (k+1)) 0=V' at af;have av:Hid _:=an;clear an;generalize Im.val (D.data.toList.take k) 0=V at *;have Hb:Hid _:=hb;clear hb;go_wp2_with fail
       rw[show bits .or .u64 ((V:Int)*256) (b:Int)=V' from by
        rw[show(V:Int)*256=((V*256:Nat):Int) from by omega,bits_or_u64_nat _ _ (by omega) (by omega),Fr.xg V b aw,af]]
       go_roundg (D.size-(k+1))
       case measure=>omega
       case rel=>
        refine⟨k+1,by omega,by go_num,?_,rfl,rfl⟩;rw[av.out]
      ·have ai:¬(k:Int)<D.size:=by omega
       obtain rfl:k=D.size:=by omega
       have z:=Hv.out;rw[show D.data.toList.take D.size=D.data.toList from dV (by rw[<-aV];omega)];have ah:=rO D.data.toList 0;have ae:(256:Nat) ^ D.data.toList.length<=256 ^ 8:=iG (by decide) (by rw[<-aV];exact h8);generalize Im.val D.data.toList 0=V at *;have ay:V<18446744073709551616:=by omega
       by_cases ak:4611686018427387903<V
       ·rw[if_pos ak]at z;have am:(4611686018427387903:Int)<(V:Int):=by omega
        subst z;clear ah ae;go_wp2_with fail;go_ret2;exact⟨rfl,HY.out.2⟩
       ·rw[if_neg ak]at z;have am:¬(4611686018427387903:Int)<(V:Int):=by omega
        subst z;clear ah ae;go_wp2_with fail;go_ret2;exact⟨rfl,HY.out.2⟩
  ·have ax:(8:Int)<(D.size:Int):=by omega
   have z:=Aw (i:=i) (.inr (.inl (by omega)));rw[hR]at z;subst z;clear hD I J hR E aa;go_enter (fq Tryz.func176 rfl),Tryz.ntmps176;go_upto_region 1 with fail;rw[<-hW];clear hW;go_wp2_with fail;go_ret2;exact⟨rfl,H.out.2.2.2.2⟩
 ·have z:=Aw (i:=i) (.inl E);rw[hR]at z;subst z;clear hD I J hR E aa;go_enter (fq Tryz.func176 rfl),Tryz.ntmps176;go_upto_region 1 with fail;rw[<-hW];clear hW;go_wp2_with fail;go_ret2;exact⟨rfl,H.out.2.2.2.2⟩
end
open Go.RowKit Go.Joins
open Dv (Cf U Tx)
section
variable {w:World}{g off cap j:Nat}{α:Type}
theorem lY(n a b:Int)(w:World):Calls PQ 66 #[.int .i64 n,.int .i64 a,.int .i64 b] w λe w'=>e=.returned (.bool (decide (a<=n)&&decide (n<=b)))/\w'=w:=by
 obtain⟨r,z⟩:∃r,(decide (a<=n)&&decide (n<=b))=r:=⟨_,rfl⟩
 rw[z];have E:Hid _:=z;clear z;go_enter (fq Tryz.func66 rfl),Tryz.ntmps66;by_cases I:a<=n
 ·by_cases h2:n<=b
  ·go_wp2_with fail;go_ret;refine⟨?_,rfl⟩;rw[<-E.out,decide_eq_true (by omega),decide_eq_true (by omega)];rfl
  ·go_wp2_with fail;go_ret;refine⟨?_,rfl⟩;rw[<-E.out,decide_eq_true (by omega),decide_eq_false (by omega)];rfl
 ·go_wp2_with fail;go_ret;refine⟨?_,rfl⟩;rw[<-E.out,decide_eq_false (by omega)];rfl
def jG(c:Cf):Array Value:=#[.int .u32 c.inbox,.int .u32 c.batcher,.int .i64 c.timeout,.int .i64 c.window,.int .i64 c.drift,.int .i64 c.step,.int .i64 c.most]
theorem Cj(c:Cf)(w:World):Calls PQ 36 #[.agg (jG c)] w λe w'=>e=.returned (.bool (Dv.jP c))/\Below w.heap.size w w':=by
 obtain⟨ib,ba,t,z,I,st,E⟩:=c;unfold jG;dsimp only;have hb:Below w.heap.size w (w.alloc (.cells #[.int .u32 ib,.int .u32 ba,.int .i64 t,.int .i64 z,.int .i64 I,.int .i64 st,.int .i64 E] 24)):=(aB _ w).alloc jA _;have Hb:Hid _:=hb;clear hb;go_enter (fq Tryz.func36 rfl),Tryz.ntmps36;have Y:=λw=>lY t 1 8 w;have W2:=λw=>lY z 1 8 w;have W3:=λw=>lY I 0 100 w;have W4:=λw=>lY st 2 20 w;have W5:=λw=>lY E 1 4096 w;obtain⟨b1,e1⟩:∃b,(decide (1<=t)&&decide (t<=8))=b:=⟨_,rfl⟩
 obtain⟨b2,R⟩:∃b,(decide (1<=z)&&decide (z<=8))=b:=⟨_,rfl⟩
 obtain⟨b3,e3⟩:∃b,(decide (0<=I)&&decide (I<=100))=b:=⟨_,rfl⟩
 obtain⟨b4,e4⟩:∃b,(decide (2<=st)&&decide (st<=20))=b:=⟨_,rfl⟩
 obtain⟨b5,J⟩:∃b,(decide (1<=E)&&decide (E<=4096))=b:=⟨_,rfl⟩
 have hr:Dv.jP ⟨ib,ba,t,z,I,st,E⟩=(b1&&b2&&b3&&b4&&b5):=by
  unfold Dv.jP;rw[<-e1,<-R,<-e3,<-e4,<-J];simp only[Bool.decide_and,Bool.and_assoc]
 rw[e1]at Y;rw[R]at W2;rw[e3]at W3;rw[e4]at W4;rw[J]at W5;have H1:Hid _:=Y;have H2:Hid _:=W2;have H3:Hid _:=W3;have H4:Hid _:=W4;have H5:Hid _:=W5;rw[hr];clear hr e1 R e3 e4 J Y W2 W3 W4 W5;cases b1<;>cases b2<;>cases b3<;>cases b4<;>cases b5
 all_goals
  go_wp2_with (go_at_call 66;first|(with_reducible refine aK (H1.out _) ?_;rintro e w2 ⟨rfl,rfl⟩)|(with_reducible refine aK (H2.out _) ?_;rintro e w2 ⟨rfl,rfl⟩)|(with_reducible refine aK (H3.out _) ?_;rintro e w2 ⟨rfl,rfl⟩)|(with_reducible refine aK (H4.out _) ?_;rintro e w2 ⟨rfl,rfl⟩)|(with_reducible refine aK (H5.out _) ?_;rintro e w2 ⟨rfl,rfl⟩)|fail)
  go_ret;exact⟨rfl,Hb.out⟩
def mX(t:Tx):List Value:=[.int .u32 t.fr,.int .u32 t.dest,.string ⟨t.data.toArray⟩]
def nZ(s:List UInt8):Value:=.string ⟨s.toArray⟩
def um(w:World)(v:Value)(l:List Tx):Prop:=Rd w 3 v l.length (l.flatMap mX)
def oU(w:World)(v:Value)(l:List (List UInt8)):Prop:=Rd w 1 v l.length (l.map nZ)
theorem um.get{l:List Tx}(h:um w (.slice (some ⟨g,off,none⟩) l.length cap) l){t:Tx}(z:l[j]? =some t):
  w.cell? ⟨g,off+j*3,none⟩=some (.int .u32 t.fr)/\w.cell? ⟨g,off+j*3+1,none⟩=some (.int .u32 t.dest)/\w.cell? ⟨g,off+j*3+2,none⟩=some (.string ⟨t.data.toArray⟩):=by
 have k:=λ(i:Nat)(u:Value)(I:i<3)(E:(mX t)[i]? =some u)=>Rd.rec mX 3 (λ_=>rfl) h z I E;exact⟨k 0 _ (by omega) rfl,k 1 _ (by omega) rfl,k 2 _ (by omega) rfl⟩
theorem oU.get{l:List (List UInt8)}(h:oU w (.slice (some ⟨g,off,none⟩) l.length cap) l){s:List UInt8}(z:l[j]? =some s):w.cell? ⟨g,off+j,none⟩=some (.string ⟨s.toArray⟩):=by
 have R:j<l.length:=(aF.1 z).1;obtain⟨g',I,J,E,_,_,Y⟩:=Rd.pos h (by omega);simp only[Value.slice.injEq,aC,Addr.mk.injEq,and_true,true_and]at E;obtain⟨⟨rfl,rfl⟩,rfl⟩:=E;exact Y j _ (by rw[eX,z];rfl)
theorem Rd.cases{s n:Nat}{v:Value}{xs:List Value}(h:Rd w s v n xs):(∃a cap,n=0/\v=.slice a 0 cap)\/(∃g off cap,0<n/\v=.slice (some ⟨g,off,none⟩) n cap):=by
 rcases gB n with z|z
 ·obtain⟨a,cap,rfl⟩:=h.slice;exact .inl ⟨a,cap,z,by rw[z]⟩
 ·obtain⟨g,off,cap,E,_⟩:=h.pos z;exact .inr ⟨g,off,cap,z,E⟩
theorem Nb(t:Tx)(w:World):Calls PQ 147 #[.agg #[.int .u32 t.fr,.int .u32 t.dest,.string ⟨t.data.toArray⟩]] w λe w'=>e=.returned (.bool (decide (2000<t.data.length)))/\Below w.heap.size w w':=by
 obtain⟨D,z⟩:∃D:ByteArray,(⟨t.data.toArray⟩:ByteArray)=D:=⟨_,rfl⟩
 have hs:D.size=t.data.length:=by rw[<-z];rfl
 rw[z,<-hs];have E:Hid _:=λo=>(aB w.heap.size w).alloc jA o;clear z hs;go_enter (fq Tryz.func147 rfl),Tryz.ntmps147;go_wp2_with fail;go_ret;exact⟨by simp only[Int.ofNat_lt.symm];rfl,E.out _⟩
theorem Ll(s:List UInt8)(w:World):Calls PQ 149 #[.string ⟨s.toArray⟩] w λe w'=>e=.returned (.bool (decide (2000<s.length)))/\Below w.heap.size w w':=by
 obtain⟨D,z⟩:∃D:ByteArray,(⟨s.toArray⟩:ByteArray)=D:=⟨_,rfl⟩
 have hs:D.size=s.length:=by rw[<-z];rfl
 rw[z,<-hs];clear z hs;go_enter (fq Tryz.func149 rfl),Tryz.ntmps149;go_wp2_with fail;go_ret;exact⟨by simp only[Int.ofNat_lt.symm];rfl,aB _ _⟩
def idx{α:Type}(p:α->Bool)(l:List α):Int:=match l.findIdx? p with
 |some i=>i
 |none=>-1
theorem AB{p:α->Bool}{l:List α}(h:∀(j:Nat)(x:α),l[j]? =some x->p x=false):idx p l=-1:=by
 unfold idx;rw[List.findIdx?_eq_none_iff.2 (λx E=>by obtain⟨j,z⟩:=List.getElem?_of_mem E;exact h j x z)]
theorem BP{p:α->Bool}{l:List α}{i:Nat}{x:α}(I:l[i]? =some x)(J:p x=true)(h:∀(j:Nat)(y:α),j<i->l[j]? =some y->p y=false):idx p l=i:=by
 unfold idx;obtain⟨z,rfl⟩:=aF.1 I
 rw[iY.2 ⟨z,J,λj E=>by
  have:=h j (l[j]'(by omega)) E (aG (by omega));simp[this]⟩]
theorem Oz(p:α->Bool)(l:List α):decide (0<=idx p l)=l.any p:=by
 unfold idx;cases h:l.findIdx? p with
 |none=>
  have:=List.findIdx?_eq_none_iff.1 h;rw[decide_eq_false (by show ¬(0:Int)<=-1;omega)];symm;rw[List.any_eq_false];exact λx E=>by simp[this x E]
 |some i=>
  obtain⟨z,E,_⟩:=iY.1 h;rw[decide_eq_true (by show(0:Int)<=(i:Int);omega)];symm;rw[List.any_eq_true];exact⟨_,List.getElem_mem z,E⟩
end
end Go.Proofs.YtpibpdpedjinhaaGreatDoor.Hm
namespace Go.Proofs.YtpibpdpedjinhaaGreatDoor
open Go.RowKit Go.Joins
theorem toList_empty(s:ByteArray):s.toList.isEmpty=decide (s.size=0):=by
 rw[ByteArray.toList_eq,aV];cases s.data.toList<;>simp
theorem qx(u:World)(s:ByteArray)(i:Int)(j:Nat)(z:j<s.size)(e:i=(j:Int)):(Instr.index 9 (.string s) (.int .i64 i)).run PQ u=.ok (.int .u8 (s[j].toNat:Int)) u:=by
 subst e;rw[run_index_string u _ s .i64 _ (uq Tryz.underlying9),dif_pos (by omega)];simp
open Go.Shelf
open Go.RowKit
def ren:Go.Shelf.Ren:=⟨fun|105=>204|212=>217|99=>218|165=>91|166=>140|170=>173|169=>93|263=>226|264=>227|206=>228|240=>137|241=>138|276=>192|277=>193|167=>139|n=>n,fun|9=>9|3=>3|4=>4|20=>20|0=>0|46=>154|109=>307|5=>5|72=>178|76=>237|51=>22|146=>318|53=>207|148=>320|70=>176|37=>155|75=>163|127=>239|164=>253|80=>182|n=>n,fun|n=>n⟩
theorem lays105:Go.Proofs.Lays.n105 PQ ren:={
 mixed:=by kernel_rfl
 f99:=(fq Tryz.func218 rfl).trans (congrArg some (by kernel_rfl))
 f105:=(fq Tryz.func204 rfl).trans (congrArg some (by kernel_rfl))
 f165:=(fq Tryz.func91 rfl).trans (congrArg some (by kernel_rfl))
 f166:=(fq Tryz.func140 rfl).trans (congrArg some (by kernel_rfl))
 f169:=(fq Tryz.func93 rfl).trans (congrArg some (by kernel_rfl))
 f170:=(fq Tryz.func173 rfl).trans (congrArg some (by kernel_rfl))
 f206:=(fq Tryz.func228 rfl).trans (congrArg some (by kernel_rfl))
 f212:=(fq Tryz.func217 rfl).trans (congrArg some (by kernel_rfl))
 f240:=(fq Tryz.func137 rfl).trans (congrArg some (by kernel_rfl))
 f241:=(fq Tryz.func138 rfl).trans (congrArg some (by kernel_rfl))
 f263:=(fq Tryz.func226 rfl).trans (congrArg some (by kernel_rfl))
 f264:=(fq Tryz.func227 rfl).trans (congrArg some (by kernel_rfl))
 f276:=(fq Tryz.func192 rfl).trans (congrArg some (by kernel_rfl))
 f277:=(fq Tryz.func193 rfl).trans (congrArg some (by kernel_rfl))
 t0:=(uq Tryz.underlying0)
 a0:=(uO Tryz.isAgg0)
 z0:=(uz Tryz.sizeOf0)
 v0:=(uI Tryz.zeroValue0)
 t3:=(uq Tryz.underlying3)
 a3:=(uO Tryz.isAgg3)
 z3:=(uz Tryz.sizeOf3)
 v3:=(uI Tryz.zeroValue3)
 t4:=(uq Tryz.underlying4)
 a4:=(uO Tryz.isAgg4)
 z4:=(uz Tryz.sizeOf4)
 v4:=(uI Tryz.zeroValue4)
 t5:=(uq Tryz.underlying5)
 a5:=(uO Tryz.isAgg5)
 z5:=(uz Tryz.sizeOf5)
 v5:=(uI Tryz.zeroValue5)
 t9:=(uq Tryz.underlying9)
 a9:=(uO Tryz.isAgg9)
 z9:=(uz Tryz.sizeOf9)
 v9:=(uI Tryz.zeroValue9)
 t20:=(uq Tryz.underlying20)
 a20:=(uO Tryz.isAgg20)
 z20:=(uz Tryz.sizeOf20)
 v20:=(uI Tryz.zeroValue20)
 t37:=(uq Tryz.underlying155)
 a37:=(uO Tryz.isAgg155)
 z37:=(uz Tryz.sizeOf155)
 v37:=(uI Tryz.zeroValue155)
 t46:=(uq Tryz.underlying154)
 a46:=(uO Tryz.isAgg154)
 z46:=(uz Tryz.sizeOf154)
 v46:=(uI Tryz.zeroValue154)
 t51:=(uq Tryz.underlying22)
 a51:=(uO Tryz.isAgg22)
 z51:=(uz Tryz.sizeOf22)
 v51:=(uI Tryz.zeroValue22)
 t53:=(uq Tryz.underlying207)
 a53:=(uO Tryz.isAgg207)
 z53:=(uz Tryz.sizeOf207)
 v53:=(uI Tryz.zeroValue207)
 t70:=(uq Tryz.underlying176)
 a70:=(uO Tryz.isAgg176)
 z70:=(uz Tryz.sizeOf176)
 v70:=(uI Tryz.zeroValue176)
 t72:=(uq Tryz.underlying178)
 a72:=(uO Tryz.isAgg178)
 z72:=(uz Tryz.sizeOf178)
 v72:=(uI Tryz.zeroValue178)
 t75:=(uq Tryz.underlying163)
 a75:=(uO Tryz.isAgg163)
 z75:=(uz Tryz.sizeOf163)
 v75:=(uI Tryz.zeroValue163)
 t76:=(uq Tryz.underlying237)
 a76:=(uO Tryz.isAgg237)
 z76:=(uz Tryz.sizeOf237)
 v76:=(uI Tryz.zeroValue237)
 t109:=(uq Tryz.underlying307)
 a109:=(uO Tryz.isAgg307)
 z109:=(uz Tryz.sizeOf307)
 v109:=(uI Tryz.zeroValue307)
 t127:=(uq Tryz.underlying239)
 a127:=(uO Tryz.isAgg239)
 z127:=(uz Tryz.sizeOf239)
 v127:=(uI Tryz.zeroValue239)
 t146:=(uq Tryz.underlying318)
 a146:=(uO Tryz.isAgg318)
 z146:=(uz Tryz.sizeOf318)
 v146:=(uI Tryz.zeroValue318)
 t148:=(uq Tryz.underlying320)
 a148:=(uO Tryz.isAgg320)
 z148:=(uz Tryz.sizeOf320)
 v148:=(uI Tryz.zeroValue320)
 t164:=(uq Tryz.underlying253)
 a164:=(uO Tryz.isAgg253)
 z164:=(uz Tryz.sizeOf253)
 v164:=(uI Tryz.zeroValue253) }
theorem extra:Builder.Extra PQ ren:={
 sizeBuilder:=by kernel_rfl
 liesBuilder:=by kernel_rfl
 t5:=(uq Tryz.underlying5)
 a5:=(uO Tryz.isAgg5)
 z5:=(uz Tryz.sizeOf5)
 v5:=(uI Tryz.zeroValue5)
 infoByte:=by kernel_rfl
 cellsByte:=by kernel_rfl
 sizeByte:=by kernel_rfl
 neB5:=by decide }
abbrev VE(B b:Nat)(l:List UInt8)(w:World):Prop:=Lib.IsBuilderF 178 5 B b (Lib.byteCells l) w
theorem fresh(w:World):VE w.heap.size w.heap.size [] (w.alloc (.cells #[.pointer none,.slice none 0 0] 178)):=Lib.IsBuilderF.of (Lib.fresh_isBuilder 178 5 w)
theorem acr(B b:Nat)(l:List UInt8)(w:World)(h:VE B b l w):
  Calls PQ 173 #[.pointer (some ⟨b,0,none⟩)] w λe w'=>e=.returned (.int .i64 l.length)/\w'=w:=by
 have c:=Any.Builder_Len_f (ρ:=ren) { lays105 with } B b (Lib.byteCells l) w h;rw[Lib.byteCells_length]at c;exact c
theorem Ag(B b:Nat)(l:List UInt8)(w:World)(h:VE B b l w)(z:B<=w.heap.size):
  Calls PQ 93 #[.pointer (some ⟨b,0,none⟩)] w λe w'=>e=.returned (.string ⟨l.toArray⟩)/\VE B b l w'/\Below B w w':=
 Any.Builder_String_any_f (ρ:=ren) { lays105 with } extra B b l w h z
theorem L9(B b:Nat)(l:List UInt8)(s:ByteArray)(w:World)(h:VE B b l w)(I:l.length+s.size<=140737488355328)(J:B<=w.heap.size):
  Calls PQ 140 #[.pointer (some ⟨b,0,none⟩),.string s] w λe w'=>e=.returned (.tuple #[.int .i64 s.size,.nilIface])/\VE B b (l++s.data.toList) w'/\Below B w w':=by
 refine(Any.Builder_WriteString_f (ρ:=ren) { lays105 with } extra B b (Lib.byteCells l) s w h (by rw[Lib.byteCells_length];exact I) J).mono ?_;rintro e w' ⟨rfl,z,E⟩;refine⟨rfl,?_,E⟩;rw[Lib.strCells_eq,<-Lib.byteCells_append]at z;exact Or.inr z
theorem repeated(s:ByteArray)(c:Nat)(w:World)(E:c<=9223372036854775807)(z:s.size*c<=140737488355328):
  Calls PQ 204 #[.string s,.int .i64 c] w λe w'=>e=.returned (.string ⟨(Lib.repeatL s.data.toList c).toArray⟩)/\Below w.heap.size w w':=
 Any.strings_Repeat (ρ:=ren) lays105 extra s c w E z
theorem Dz{B b:Nat}{l:List UInt8}{w w':World}(h:VE B b l w)(J:Below w.heap.size w w'):VE B b l w':=by
 have go:∀p,Lib.BuilderAtF 178 5 B b p (Lib.byteCells l) w->Lib.BuilderAtF 178 5 B b p (Lib.byteCells l) w':=by
  intro p hp;have E:=hp.lt;obtain⟨h1,v,h2,h3,h4⟩:=hp;have hk:=h3.lt;refine⟨h1,v,(J.block b E).trans h2,?_,h4⟩;obtain⟨g1,z⟩:=h3;refine⟨g1,?_⟩;rcases z with z|z
  ·exact Or.inl z
  ·obtain⟨g,cap,I,R,rfl,Y,q2,q3⟩:=z;exact Or.inr ⟨g,cap,I,R,rfl,Y,(J.block g (hk g rfl).2).trans q2,q3⟩
 exact h.elim (λx=>.inl (go _ x)) (λx=>.inr (go _ x))
section
variable {w:World}
def kQ(w:World):Prop:=K3 w 1 0 (.bool false) (.int .u8 128) (.int .u8 183)/\K3 w 1 3 (.bool true) (.int .u8 192) (.int .u8 247)
theorem kQ.below{B:Nat}{w':World}(h:kQ w)(E:Below B w w')(z:1<B):kQ w':=⟨h.1.below E z,h.2.below E z⟩
theorem kQ.pos(h:kQ w):1<w.heap.size:=by
 have g:=h.1.1;rcases fQ 1 w.heap.size with e|e
 ·exact e
 ·unfold World.cell? at g;rw[iQ (by simpa using e)]at g;simp at g
end
end Go.Proofs.YtpibpdpedjinhaaGreatDoor
