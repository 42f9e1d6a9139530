import Derived.Test.YtpibpdpedjinhaaGreatDoorP43
set_option maxRecDepth 100000
set_option maxHeartbeats 8000000
set_option linter.all false
open Go renaming Calls->eE,Value->aD,World->U,wp_region_noPanic->kB
open Go.Instr renaming indexAt->iX
open Go.IntKind renaming i64->X,u32->dE,wrap_i64->cP
open Go.NoPanic renaming normal->kO
open Go.Obj renaming cells->aG
open Go.Value renaming int->N,pointer->aM,slice->aR,string->aH
open List renaming length_eq_zero_iff->cA
open Option renaming none->Z,some->M
namespace Go.Proofs.YtpibpdpedjinhaaGreatDoor
namespace Hm
open Go.RowKit Go.Joins Go.Shelf
open Dv (Lo Cf X2 Tx)
open Fr (below_drewN)
section
variable {p0 p1 p2:Int}{vg vl vq vt vn:aD}
section
variable {tm:Array aD}{w:U}{pb cb g off cap n i k:Nat}{c:Cf}{vw:aD}{Q:Exit->Act->U->Prop}
theorem ab2(hs:tm.size=273)(t0:tm[0]? =M (.agg #[N X p0,N X p1,N X p2,vg,vl,vq,vt,vn]))(I:∀q,q.size=273->q[1]? =M (aM (M ⟨w.heap.size,0,Z⟩))->Q .normal ⟨q,[]⟩ (w.alloc (aG #[N X p0,N X p1,N X p2,vg,vl,vq,vt,vn] 65))):(ho0).wp PQ Q ⟨tm,[]⟩ w:=by
 obtain⟨l,rfl,hs⟩:=jX hs
 iterate 273 (obtain⟨_,l,rfl,E⟩:=jW hs;clear hs;have hs:=E;clear E)
 obtain rfl:=cA.1 hs;clear hs;simp only[eX,dX,aK]at t0;subst t0;have J:Hid _:=I;clear I;simp only[ho0,mD,cq,Tryz.f7];go_wp2_with fail;exact J.out _ rfl rfl
theorem aar(hs:tm.size=273)(t1:tm[1]? =M (aM (M ⟨pb,0,Z⟩)))(t3:tm[3]? =M (.bool true))(I:∀q,q.size=273->q[1]? =M (aM (M ⟨pb,0,Z⟩))->Q .normal ⟨q,[]⟩ w):(ho2).wp PQ Q ⟨tm,[]⟩ w:=by
 obtain⟨l,rfl,hs⟩:=jX hs
 iterate 273 (obtain⟨_,l,rfl,E⟩:=jW hs;clear hs;have hs:=E;clear E)
 obtain rfl:=cA.1 hs;clear hs;simp only[eX,eU,dX,aK]at t1 t3;subst t1 t3;have J:Hid _:=I;clear I;simp only[ho2,mD,cq,Tryz.f7];go_wp2_with fail;exact J.out _ rfl rfl
theorem aaD{W S:Nat}(hs:tm.size=273)(t1:tm[1]? =M (aM (M ⟨pb,0,Z⟩)))(hp:w.heap[pb]? =M (aG #[N X p0,N X p1,N X p2,vg,vl,vq,vt,vn] 65 (0,0)))(hw:∀V,eE PQ 22 #[N X p2,N X 3] V λe w'=>e=.returned (N X W)/\w'=V)(I:∀V,eE PQ 22 #[N X p1,N X 13] V λe w'=>e=.returned (N X S)/\w'=V)(hW:W<3)(hS:S<13)(hK:∀q w',q.size=273->q[1]? =M (aM (M ⟨pb,0,Z⟩))->q[4]? =M (aM (M ⟨w.heap.size,0,Z⟩))->Below w.heap.size w w'->w'.heap[w.heap.size]? =M (aG #[N dE 9,N dE 8,N X 3,N X (1+W:Nat),N X 24,N X (8+S:Nat),N X 4096] 24 (0,0))->Q .normal ⟨q,[]⟩ w'):ho4.wp PQ Q ⟨tm,[]⟩ w:=by
 obtain⟨l,rfl,hs⟩:=jX hs
 iterate 273 (obtain⟨_,l,rfl,Y⟩:=jW hs;clear hs;have hs:=Y;clear Y)
 obtain rfl:=cA.1 hs;clear hs;simp only[eX,eU,dX,aK]at t1;subst t1;obtain⟨c0,c1,c2⟩:=cells3 hp;have E:=(jG hp)
 have Hw:Hid _:=hw;have J:Hid _:=I;have HK:Hid _:=hK;have HS:Hid (∀V,Below w.heap.size w V->V.cell? ⟨pb,1,Z⟩=M (N X p1)/\V.cell? ⟨pb,2,Z⟩=M (N X p2)):=λV hV=>⟨(hV.cell (p:=⟨pb,_,Z⟩) E).trans c1,(hV.cell (p:=⟨pb,_,Z⟩) E).trans c2⟩
 clear hK hw I hp E c0 c1 c2;simp only[ho4,mD,cq,Tryz.f7];refine kB ?_;go_region_held3 (λV=>V.cell? ⟨pb,1,Z⟩=M (N X p1)/\V.cell? ⟨pb,2,Z⟩=M (N X p2)) ((refine HS.out _ ?_;repeat (first|exact aJ _ _|refine Below.drew ?_|refine Below.alloc ?_ aC _|refine Below.setCell ?_ aC _))) (first|(go_at_call 22;(with_reducible refine aT (Hw.out _) ?_);rintro e w2 ⟨rfl,rfl⟩)|(go_at_call 22;(with_reducible refine aT (J.out _) ?_);rintro e w2 ⟨rfl,rfl⟩))
 all_goals
  refine kO ?_;rw[show IntKind.i64.wrap (1+(W:Int))=((1+W:Nat):Int) from by rw[cP];omega,show IntKind.i64.wrap (8+(S:Int))=((8+S:Nat):Int) from by rw[cP];omega];exact HK.out _ _ rfl rfl rfl ((aJ _ w).alloc jE _).drew (heap_alloc_new _ _)
end
end
section
variable {w:U}
section
variable {tm:Array aD}{w:U}{pb cb g off cap n i k:Nat}{c:Cf}{vw:aD}{Q:Exit->Act->U->Prop}
theorem xZ{w':U}(q:w'.heap=w.heap)(a:Addr):w'.cell? a=w.cell? a:=by unfold World.cell?;rw[q]
theorem J5{b i q E:Nat}{v u:aD}{I:Array aD}{t:TypeId}{fz:Nat×Nat}(Y:w.heap[b]? =M (aG I t fz))(h:w.cell? ⟨q,E,Z⟩=M u)(J:b=q->i≠E):(w.setCell ⟨b,i,Z⟩ v).cell? ⟨q,E,Z⟩=M u:=by
 by_cases e:b=q
 .subst e;rw[aI Y]at h;rw[aI (jV Y i v),dZ (J rfl)];exact h
 .exact(World.cell?_of_block (a:=⟨q,E,Z⟩) (aW w ⟨b,i,Z⟩ v q λh=>e h.symm)).trans h
theorem Yf{p0 p1 p2:Int}{vg vl vq vt vn:aD}{S r j:Nat}{a0 T:Int}(h:Ho tm pb cb g off cap n)(t7:tm[7]? =M (N X (i:Nat)))(hi:i<n)(ak:j+1=i)(hn:n<=20)(hT:0<=T/\T<=100000)(hS:S<=20)(hr:r<=24)(hp:w.heap[pb]? =M (aG #[N X p0,N X p1,N X p2,vg,vl,vq,vt,vn] 65 (0,0)))(hc:w.heap[cb]? =M (aG (jL c) 24 (0,0)))(ac:c.step=(S:Nat))(hg:∃aa,w.heap[g]? =M (aG aa 42 (0,0)))(m0:w.cell? ⟨g,off+j*4+1,Z⟩=M (N X T))(m1:(w.cell? ⟨g,off+i*4+1,Z⟩).isSome=true)(J:∀V,Below w.heap.size w V->eE PQ 24 #[vg,N X (i:Nat)] V λe w'=>e=.returned (N X a0)/\w'=V)(ab:∀V,eE PQ 22 #[N X a0,N X (25-(S:Int))] V λe w'=>e=.returned (N X (r:Nat))/\w'=V)(hK:∀I,Ho I pb cb g off cap n->I[7]? =M (N X (i:Nat))->Q .normal ⟨I,[]⟩ (w.setCell ⟨g,off+i*4+1,Z⟩ (N X (T+S+r))).drew):(Qh).wp PQ Q ⟨tm,[]⟩ w:=by
 obtain⟨hs,t1,t4,t5,t6⟩:=h;obtain⟨l,rfl,hs⟩:=jX hs
 iterate 273 (obtain⟨_,l,rfl,h'⟩:=jW hs;clear hs;have hs:=h';clear h')
 obtain rfl:=cA.1 hs;clear hs;simp only[eX,eU,dX,aK]at t1 t4 t5 t6 t7;subst t1 t4 t5 t6 t7;obtain⟨aa,q⟩:=hg;obtain⟨-,-,-,c3⟩:=cells4 hp;unfold jL at hc;obtain⟨-,-,-,-,-,k5⟩:=tX hc;rw[ac]at k5;have fz:=aQ q;obtain⟨y,m1⟩:=Option.isSome_iff_exists.1 m1;have ag:cb≠g:=λe=>by rw[e,q]at hc;simp at hc
 have ae:pb≠g:=λe=>by rw[e,q]at hp;simp at hp
 have Y:(i:Int)-1=j:=aA
 have ao:(j:Int)<n:=aA
 have aj:(i:Int)<n:=aA
 have am:∀u,(iX 25 (aR (M ⟨g,off,Z⟩) n cap) (N X ((i:Int)-1))).run PQ u=.ok (aM (M ⟨g,off+j*4,Z⟩)) u:=λu=>by rw[Y];simp[iX,go_sem,(oO Tryz.sizeOf42)];omega
 have af:IntKind.i64.wrap ((i:Int)-1)=j:=by rw[cP];omega
 have ai:∀u,(iX 25 (aR (M ⟨g,off,Z⟩) n cap) (N X (IntKind.i64.wrap ((i:Int)-1)))).run PQ u=.ok (aM (M ⟨g,off+j*4,Z⟩)) u:=λu=>by rw[af];simp[iX,go_sem,(oO Tryz.sizeOf42)];omega
 have an:IntKind.i64.wrap (25-(S:Int))=25-(S:Int):=by rw[cP];omega
 have wT:IntKind.i64.wrap (T+(S:Int))=T+S:=by rw[cP];omega
 have wR:IntKind.i64.wrap (T+(S:Int)+(r:Int))=T+S+r:=by rw[cP];omega
 have HA:Hid _:=J;have HP:Hid _:=ab;have HS:Hid (∀V:U,V.heap=w.heap->V.cell? ⟨g,off+j*4+1,Z⟩=M (N X T)/\V.cell? ⟨cb,5,Z⟩=M (N X S)/\V.cell? ⟨pb,3,Z⟩=M vg):=λV E=>⟨(xZ E _).trans m0,(xZ E _).trans k5,(xZ E _).trans c3⟩
 have ah:Hid (∀(V:U) v,V.heap=w.heap->(V.setCell ⟨g,off+i*4+1,Z⟩ v).cell? ⟨g,off+j*4+1,Z⟩=M (N X T)/\(V.setCell ⟨g,off+i*4+1,Z⟩ v).cell? ⟨cb,5,Z⟩=M (N X S)/\(V.setCell ⟨g,off+i*4+1,Z⟩ v).cell? ⟨pb,3,Z⟩=M vg):=λV v E=>⟨J5 (by rw[E];exact q) (HS.out V E).1 (λ_=>aA),J5 (by rw[E];exact q) (HS.out V E).2.1 (λe=>Xs e.symm ag),J5 (by rw[E];exact q) (HS.out V E).2.2 (λe=>Xs e.symm ae)⟩
 have HK:Hid _:=hK;clear hK J ab hp hc q ac Y af;simp only[Qh,mD,cq,Tryz.f7];refine kB ?_;go_region_held3 (λV=>V.cell? ⟨g,off+j*4+1,Z⟩=M (N X T)/\V.cell? ⟨cb,5,Z⟩=M (N X S)/\V.cell? ⟨pb,3,Z⟩=M vg) ((first|exact HS.out _ rfl|exact ah.out _ _ rfl)) (first|(go_at_call 24;(refine aT (HA.out _ ?_) ?_;(first|exact aJ _ _|exact(aJ _ _).drew);rintro e w2 ⟨rfl,rfl⟩))|(go_at_call 22;(refine aT (HP.out _) ?_;rintro e w2 ⟨rfl,rfl⟩)))
 all_goals
  refine kO ?_;exact HK.out _ ⟨rfl,rfl,rfl,rfl,rfl⟩ rfl
end
end
section
section
variable {tm:Array aD}{w:U}{pb cb g off cap n i k:Nat}{c:Cf}{vw:aD}{Q:Exit->Act->U->Prop}
theorem Xk{p0 p1 p2:Int}{vg vl vq vt:aD}{I no q nc j fr Y:Nat}{D:ByteArray}(h:Ho tm pb cb g off cap n)(t7:tm[7]? =M (N X (i:Nat)))(hn:n<=20)(hi:i<n)(aa:0<q)(ag:q<=4294967296)(hj:i%q=j)(hp:w.heap[pb]? =M (aG #[N X p0,N X p1,N X p2,vg,vl,vq,vt,aR (M ⟨I,no,Z⟩) q nc] 65 (0,0)))(ae:I<w.heap.size)(m0:w.cell? ⟨I,no+j*3,Z⟩=M (N dE (fr:Nat)))(m1:w.cell? ⟨I,no+j*3+1,Z⟩=M (N dE (Y:Nat)))(m2:w.cell? ⟨I,no+j*3+2,Z⟩=M (aH D))(hK:∀E,Ho E pb cb g off cap n->E[7]? =M (N X (i:Nat))->E[8]? =M (aM (M ⟨w.heap.size,0,Z⟩))->Q .normal ⟨E,[]⟩ (w.alloc (aG #[N dE (fr:Nat),N dE (Y:Nat),aH D] 68)).drew):(Tt).wp PQ Q ⟨tm,[]⟩ w:=by
 obtain⟨hs,t1,t4,t5,t6⟩:=h;obtain⟨l,rfl,hs⟩:=jX hs
 iterate 273 (obtain⟨_,l,rfl,h'⟩:=jW hs;clear hs;have hs:=h';clear h')
 obtain rfl:=cA.1 hs;clear hs;simp only[eX,eU,dX,aK]at t1 t4 t5 t6 t7;subst t1 t4 t5 t6 t7;obtain⟨-,-,-,-,-,-,-,c7,-⟩:=mJ hp;have J:=(jG hp)
 have af:j<q:=by rw[<-hj];exact Nat.mod_lt _ aa
 have hm:(i:Int).tmod (q:Int)=j:=by rw[<-hj,Int.tmod_eq_emod_of_nonneg aA];simp
 have ai:IntKind.i64.wrap ((i:Int).tmod (q:Int))=j:=by rw[hm,cP];omega
 have ah:IntKind.i64.wrap (j:Int)=j:=by rw[cP];omega
 have aj:((q:Int) == 0)=false:=ZS aA;have ab:(q:Int)≠0:=aA
 have ac:(j:Int)<q:=aA
 have a7:∀o,(w.alloc o).cell? ⟨pb,7,Z⟩=M (aR (M ⟨I,no,Z⟩) q nc):=BH c7;have a0:∀o,(w.alloc o).cell? ⟨I,no+j*3,Z⟩=M (N dE (fr:Nat)):=BH m0;have a1:∀o,(w.alloc o).cell? ⟨I,no+j*3+1,Z⟩=M (N dE (Y:Nat)):=BH m1;have a2:∀o,(w.alloc o).cell? ⟨I,no+j*3+2,Z⟩=M (aH D):=BH m2;have HK:Hid _:=hK;clear hK hp J;simp only[Tt,mD,cq,Tryz.f7];refine kB ?_;go_region
 all_goals
  refine kO ?_;exact HK.out _ ⟨rfl,rfl,rfl,rfl,rfl⟩ rfl rfl
end
end
section
section
variable {tm:Array aD}{w:U}{pb cb g off cap n i k:Nat}{c:Cf}{vw:aD}{Q:Exit->Act->U->Prop}
theorem Yo{ta:Option Addr}{tn tc q fr tw m:Nat}{D:ByteArray}{xs:List aD}{ah:Array aD}(h:Ho tm pb cb g off cap n)(t7:tm[7]? =M (N X (m:Nat)))(t8:tm[8]? =M (aM (M ⟨q,0,Z⟩)))(hm:m<n)(hn:n<=20)(ap:tn<=1000)(m2:w.cell? ⟨g,off+m*4+2,Z⟩=M (.slice ta tn tc))(E:w.heap[g]? =M (aG ah 42 (0,0)))(hr:Row w 68 3 (.slice ta tn tc) tn xs)(hq:w.heap[q]? =M (aG #[N dE (fr:Nat),N dE (tw:Nat),aH D] 68 (0,0)))(hK:∀ac Wa w5 g5 I J,Ho ac pb cb g off cap n->ac[7]? =M (N X (m:Nat))->Below w.heap.size w Wa->Row w5 68 3 (aR (M ⟨g5,I,Z⟩) (tn+1) J) (tn+1) (xs++[N dE (fr:Nat),N dE (tw:Nat),aH D])->Grew (.slice ta tn tc) g5 Wa w5->Q .normal ⟨ac,[]⟩ (w5.setCell ⟨g,off+m*4+2,Z⟩ (aR (M ⟨g5,I,Z⟩) (tn+1) J))):(U4).wp PQ Q ⟨tm,[]⟩ w:=by
 obtain⟨hs,t1,t4,t5,t6⟩:=h;obtain⟨l,rfl,hs⟩:=jX hs
 iterate 273 (obtain⟨_,l,rfl,h'⟩:=jW hs;clear hs;have hs:=h';clear h')
 obtain rfl:=cA.1 hs;clear hs;simp only[eX,eU,dX,aK]at t1 t4 t5 t6 t7 t8;subst t1 t4 t5 t6 t7 t8;have ao:(m:Int)<n:=aA
 have an:=(jG E)
 have fz:=aQ E;obtain⟨i0,ak,af,ag,ai⟩:=info_parts Sl;have Hi:Hid _:=jD ak (jD af (jD ag ai));have ab:Hid (∀o,Row (w.alloc o).drew 68 3 (.slice ta tn tc) tn xs):=λo=>hr.kept λq hq=>fV _ _ _ (hr.lt hq);have am:Hid (∀o,(w.alloc o).drew.heap[g]? =M (aG ah 42 (0,0))):=λo=>(fV _ _ _ an).trans E;have ca:∀o,(w.alloc o).cell? ⟨g,off+m*4+2,Z⟩=M (.slice ta tn tc):=λo=>BH m2 o;have aj:Hid _:=jD m2 E;obtain⟨z0,z1,z2⟩:=cells3 hq;have HK:Hid _:=hK;clear hK hr E ak af ag ai hq;simp only[U4,mD,cq,Tryz.f7];refine kB ?_;go_region_law ((refine pY (by rfl) (.tmp 107) (.tmp 109) 39 (by rfl) 68 i0 _ 3 24 (uq Tryz.underlying39) Hi.out.1 Hi.out.2.1 Hi.out.2.2.1 Hi.out.2.2.2 (by rfl) aB _ tn xs (by rfl) (ab.out _) ⟨w.heap.size,0,Z⟩ 1 1 [N dE (fr:Nat),N dE (tw:Nat),aH D] (by rfl) aB (by rfl) (by intro j x hj;match j,hj with|0,hj=>(simp at hj;subst hj;simp[Addr.add])|1,hj=>(simp at hj;subst hj;simp[Addr.add])|2,hj=>(simp at hj;subst hj;simp[Addr.add])) (by intro x hx;simp at hx;rcases hx with rfl|rfl|rfl<;>rfl) (by unfold maxLen;omega) aA ?_;intro g5 I J w5 Y aa;have ae:=aa.keep (ab.out _) (am.out _) aB;have aq:=aQ ae;have s5:w5.cell? ⟨g,off+m*4+2,Z⟩=M (.slice ta tn tc):=(by have e:=aj.out.1;rw[aI aj.out.2]at e;rw[aI ae];exact e);have H5:Hid _:=jD Y aa;clear Y aa ae))
 all_goals
  refine kO ?_;exact HK.out _ _ _ _ _ _ ⟨rfl,rfl,rfl,rfl,rfl⟩ rfl ((aJ _ w).alloc jE _).drew H5.out.1 H5.out.2
end
end
end Hm
