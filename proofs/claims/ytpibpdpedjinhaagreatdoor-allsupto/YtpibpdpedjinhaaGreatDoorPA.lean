import GoSem.Core.World
import Derived.KernelRfl
set_option linter.all false
namespace Go.Proofs.YtpibpdpedjinhaaGreatDoor
theorem R.{u}{α:Sort u}{a:α}:a=a:=.refl a
theorem fI{n:Nat}:n<=n:=Nat.le_refl n
theorem fE{a b}(x:a)(y:b):a/\b:=⟨x,y⟩
theorem fO{α:Type}{a:Array α}{i v}(h:a[i]? =some v):i<a.size:=(Array.getElem?_eq_some_iff.1 h).1
abbrev aI:=@Option.some.injEq
abbrev aJ:=@List.getElem?_eq_some_iff
abbrev aK:=@List.getElem?_eq_getElem
abbrev aL:=@Nat.lt_of_lt_of_le
abbrev aN:=@List.length_append
abbrev aP:=@List.length_cons
abbrev aQ:=@Array.getElem?_setIfInBounds
abbrev aS:=@List.mem_of_getElem?
abbrev aT:=@List.getD_eq_getElem?_getD
abbrev aV:=@List.length_map
abbrev aX:=@Nat.le_trans
abbrev aY:=@Option.map_eq_some_iff
abbrev aZ:=@List.map_append
abbrev bA:=@List.length_take
abbrev bB:=@List.mem_map
abbrev bC:=@List.eq_nil_of_length_eq_zero
abbrev bD:=@Array.getElem?_modify
abbrev bE:=@Bool.false_eq_true
abbrev bF:=@List.getElem?_append_right
abbrev bH:=@List.length_nil
abbrev bI:=@List.getElem?_append_left
abbrev bJ:=@Option.map_some
abbrev bK:=@List.mem_cons_of_mem
abbrev bL:=@Array.getElem?_eq_getElem
abbrev bM:=@List.mem_cons
abbrev bN:=@Bool.and_eq_true
abbrev bO:=@Array.replicate_zero
abbrev bP:=@Array.replicate_succ
abbrev bQ:=@List.append_toArray
abbrev bR:=@Prod.mk.injEq
abbrev bT:=@List.mem_singleton
abbrev bU:=@Nat.zero_le
abbrev bV:=@List.mem_append
abbrev bX:=@List.cons_append
abbrev bY:=@List.mem_cons_self
abbrev bZ:=@List.size_toArray
abbrev cA:=@List.nil_append
abbrev cD:=@List.push_toArray
abbrev cE:=@Nat.add_assoc
abbrev cF:=@List.length_drop
abbrev cG:=@List.getElem?_cons_zero
abbrev cH:=@Array.getElem?_eq_some_iff
abbrev cI:=@Array.getElem?_setIfInBounds_ne
abbrev cJ:=@List.filter_cons
abbrev cK:=@List.take_of_length_le
abbrev cL:=@List.map_cons
abbrev cM:=@List.getElem?_cons_succ
abbrev cN:=@List.getElem?_toArray
abbrev cO:=@List.take_succ_eq_append_getElem
abbrev cP:=@ByteArray.size_extract
abbrev cR:=@Option.some.inj
abbrev cS:=@Array.getD_eq_getD_getElem?
abbrev cT:=@List.getElem?_map
abbrev cU:=@List.all_eq_true
abbrev cW:=@Option.getD_some
abbrev cX:=@Nat.zero_add
abbrev cY:=@Nat.mul_le_mul_right
abbrev cZ:=@List.append_assoc
abbrev dB:=@List.map_nil
abbrev dC:=@List.map_toArray
abbrev dD:=@List.mem_filter
abbrev dF:=@Nat.min_eq_left
abbrev dG:=@Array.ext_getElem?
abbrev dH:=@Nat.lt_or_ge
abbrev dI:=@List.append_nil
abbrev dJ:=@Classical.choose_spec
abbrev dK:=@Array.mem_of_getElem?
abbrev dL:=@Nat.eq_zero_or_pos
abbrev dM:=@List.getElem?_take
abbrev dN:=@List.mem_range
abbrev dO:=@Classical.byContradiction
abbrev dP:=@Option.bind_some
abbrev dQ:=@List.flatMap_cons
abbrev dR:=@List.length_filter_le
abbrev dS:=@Bool.or_eq_false_iff
abbrev dU:=@List.flatMap_append
abbrev dV:=@Array.getElem?_push
abbrev dW:=@List.drop_drop
abbrev dX:=@List.pairwise_iff_getElem
abbrev dY:=@List.nodup_cons
abbrev dZ:=@List.length_singleton
abbrev eA:=@List.filter_append
abbrev eB:=@Array.getElem?_map
abbrev eC:=@List.getElem?_take_of_lt
abbrev eD:=@List.take_length
abbrev eE:=@Nat.pow_le_pow_right
abbrev eG:=@Bool.and_eq_true_iff
abbrev eH:=@Nat.ne_of_lt
abbrev eI:=@List.Sublist.refl
abbrev eJ:=@Nat.add_mul
abbrev eK:=@List.filter_eq_self
abbrev eL:=@List.sublist_cons_self
abbrev eN:=@List.getElem?_drop
abbrev eO:=@Array.append_empty
abbrev eP:=@Bool.and_eq_false_iff
abbrev eQ:=@List.findIdx?_eq_some_iff_getElem
abbrev eR:=@List.mem_of_mem_take
abbrev eS:=@List.mem_of_mem_drop
abbrev eT:=@Option.map_none
abbrev eU:=@List.append_cancel_right
abbrev eV:=@Array.size_setIfInBounds
abbrev eW:=@List.map_congr_left
abbrev eX:=@List.getElem!_cons_succ
abbrev eY:=@Nat.lt_or_eq_of_le
abbrev eZ:=@Nat.le_of_lt
abbrev fA:=@Nat.le_of_eq
abbrev fB:=@List.map_map
abbrev fC:=@UInt8.toNat_inj
abbrev fD:=@List.mem_iff_getElem?
theorem aA{p:Prop}(h:p:=by omega):p:=h
theorem aB{p:Prop}(h:p:=by decide):p:=h
theorem aC{p:Prop}(h:p:=by simp):p:=h
theorem aD{p:Prop}(h:p:=by simp;omega):p:=h
theorem aE{p:Prop}(h:p:=by unfold maxLen;omega):p:=h
theorem aF{p:Prop}(h:p:=by let⟨p,q,w6,g,E,l,w1,F,K,S,T,r5,r6⟩:=h.16 e;exact⟨p,q,w6,g,E,l,w1,F,K,S,T,fJ aB r5,r6⟩):p:=h
theorem gd{p:Prop}(h:p:=by first|exact heap_alloc_new _ _|(have:=heap_alloc_new (Go.World.drewN wr 0) (.cells #[.bool false,.string ⟨#[]⟩,.slice none 0 0] 103);simpa using this)):p:=h
theorem gh{p:Prop}(h:p:=by simp[Value.ownBlock]):p:=h
theorem gj{p:Prop}(h:p:=by rw[IntKind.wrap_i64];omega):p:=h
theorem gn{p:Prop}(h:p:=by let⟨g,F,q,w1,K,P,S,T⟩:=h.15 e;exact⟨g,F,q,w1,K,P,fQ aB S,T⟩):p:=h
theorem gp{p:Prop}(h:p:=by let⟨l,p,S,q,E,F,K⟩:=h.15 e d;exact⟨l,p,S,q,E,F,fJ aB K⟩):p:=h
theorem gr{p:Prop}(h:p:=by let⟨l,p,q,E,F⟩:=h.14 e d;exact⟨l,p,q,E,fJ aB F⟩):p:=h
theorem gv{p:Prop}(h:p:=by rw[<-aW];omega):p:=h
theorem gw{p:Prop}(h:p:=by rw[h.1];decide):p:=h
theorem gx{p:Prop}(h:p:=by simp only[phi];omega):p:=h
theorem gz{p:Prop}(h:p:=by decide+kernel):p:=h
theorem ib{p:Prop}(h:p:=by first|exact(aH _ w).drew|exact fG (aH _ _) _|exact aH _ _):p:=h
theorem ij{p:Prop}(h:p:=by rw[aG h];rfl):p:=h
theorem il{p:Prop}(h:p:=by rw[<-cE]at this;exact this):p:=h
theorem im{p:Prop}(h:p:=by rw[hw.cell];rfl):p:=h
theorem io{p:Prop}(h:p:=by simpa using Eq.symm e):p:=h
theorem ir{p:Prop}(h:p:=by simpa using this):p:=h
theorem iu{p:Prop}(h:p:=by have:=run_endLoop (P:=P) A (by rw[i];simp);rw[i]at this;exact this):p:=h
theorem iv{p:Prop}(h:p:=by simp[stepG,stepG.exec,g,d]):p:=h
theorem ix{p:Prop}(h:p:=by unfold Cnt;simp at hc⊢;omega):p:=h
theorem iz{p:Prop}(h:p:=by rw[BitVec.ofInt_natCast,BitVec.toNat_ofNat];exact Nat.mod_eq_of_lt aA):p:=h
theorem ja{p:Prop}(h:p:=by simp[World.setCell]):p:=h
theorem jb{p:Prop}(h:p:=by rw[aG a];rfl):p:=h
theorem jj{p:Prop}(h:p:=by rw[jU];exact h.1):p:=h
theorem jp{p:Prop}(h:p:=by first|exact a|exact Go.RowKit.Below.drew a|exact fG a _|exact Go.RowKit.Below.alloc a fI _|exact fG (Go.RowKit.Below.alloc a fI _) _|exact(fG a _).alloc fI _):p:=h
theorem js{p:Prop}(h:p:=by first|exact b|exact Go.RowKit.Below.drew b|exact fG b _|exact Go.RowKit.Below.alloc b fI _|exact fG (Go.RowKit.Below.alloc b fI _) _|exact(fG b _).alloc fI _):p:=h
theorem ju{p:Prop}(h:p:=by rw[<-d];exact tO _ (λ_ _=>R) (λo h=>by cases o<;>first|rfl|cases h) hw r):p:=h
theorem jx{p:Prop}(h:p:=by simpa using h):p:=h
theorem jz{p:Prop}(h:p:=by rw[k];intro b hc;cases hc):p:=h
theorem j0{p:Prop}(h:p:=by rw[lQ];exact h.1):p:=h
theorem j6{p:Prop}(h:p:=by exact((((fT.fF A fI _).trans T (λk _ e=>.inr (by rw[e];rfl))).trans (fT.set _ kb 10 _) (λk _ e=>.inl e)).trans (lW _ _ _ _ _ _ _) (λk hk e=>aA))):p:=h
theorem j7{p:Prop}(h:p:=by first|exact(Go.RowKit.Below.drew (Go.RowKit.Below.alloc (aH _ V) aA _))|exact(((aH _ V).drew.alloc (by show _<=V.heap.size;omega) _))|trace_state):p:=h
theorem j8{p:Prop}(h:p:=by have:=f1 k e;rw[World.putObj_size];omega):p:=h
theorem j9{p:Prop}(h:p:=by simp[Go.ConcR.mk]):p:=h
theorem kh{p:Prop}(h:p:=by simp[Rows.uptoBulk]):p:=h
theorem ki{p:Prop}(h:p:=by simp[cP];omega):p:=h
theorem kj{p:Prop}(h:p:=by rw[aG S];rfl):p:=h
theorem kl{p:Prop}(h:p:=by dsimp only;omega):p:=h
theorem km{p:Prop}(h:p:=by simp[ByteArray.data_extract,Array.toList_extract,List.drop_take]):p:=h
theorem kn{p:Prop}(h:p:=by simp[Value.ownBlock];omega):p:=h
theorem kq{p:Prop}(h:p:=by rw[b];simp):p:=h
theorem kr{p:Prop}(h:p:=by simp[G,stepG,stepG.exec,Frame.atR]):p:=h
theorem ky{p:Prop}(h:p:=by simpa using d):p:=h
theorem kz{p:Prop}(h:p:=by rw[World.putObj_size];exact s3):p:=h
theorem lh{p:Prop}(h:p:=by rw[aZ];exact Im.jN.snoc v (by rw[<-aW];exact o) h):p:=h
theorem lj{p:Prop}(h:p:=by intro j;exact o.2.2.2.2.1.frozen R j):p:=h
theorem ll{p:Prop}(h:p:=by simp[Lib.cell_of_heap h]):p:=h
theorem lm{p:Prop}(h:p:=by rw[c];simp):p:=h
theorem lr{p:Prop}(h:p:=by simpa using c):p:=h
theorem lw{p:Prop}(h:p:=by exact⟨λx d=>by simp[MemAct.ofEvent,MemAct.touch?]at d,trivial,by simp[MemAct.ofEvent],aC,aC⟩):p:=h
theorem lx{p:Prop}(h:p:=by exact .inr ⟨by simpa[Value.ownBlock]using k,l,p⟩):p:=h
theorem ly{p:Prop}(h:p:=by have:=Nat.two_pow_add_eq_or_of_lt (i:=8) (b:=c) aA a;rw[show a*256=2 ^ 8*a from by omega,<-this]):p:=h
theorem l8{p:Prop}(h:p:=by have:=congrArg (List.drop 1) h.4;simpa[dW]using this):p:=h
theorem ma{p:Prop}(h:p:=by simp[Instr.slice,run_underlying Tryz.underlying9,Instr.sliceBounds,run_sliceBound,sV,sliced,b,a]):p:=h
theorem mb{p:Prop}(h:p:=by exact⟨_,_,hr,.inr ⟨R,_,Go.OwnFrom.putObj (s _) _ i3 aA l3 (by rw[<-d];rfl),l4,t⟩⟩):p:=h
theorem mc{p:Prop}(h:p:=by simp[cellsIn,shape,getObj,bind,Sem.bind,Sem.runT,World.shape?,cellsOf,a,pure]):p:=h
theorem mh{p:Prop}(h:p:=by first|rfl|rw[zu _ _ _ _ _ (Ne.symm Q)]):p:=h
theorem mi{p:Prop}(h:p:=by simp[numberAt,shape,getObj,bind,Sem.bind,Sem.runT,World.shape?,numOf,a,pure]):p:=h
theorem mj{p:Prop}(h:p:=by unfold Boxed;rw[g,m];simp):p:=h
theorem mm{p:Prop}(h:p:=by first|exact Go.RowKit.Below.drew (aH _ w)|exact fG (aH _ _) _|exact aH _ _):p:=h
theorem mn{p:Prop}(h:p:=by exact⟨by cases p<;>rfl,Go.RowKit.Below.trans g (Go.RowKit.Below.mono f g.4)⟩):p:=h
theorem mo{p:Prop}(h:p:=by rw[a];simp):p:=h
theorem mp{p:Prop}(h:p:=by simp[jv];omega):p:=h
theorem mq{p:Prop}(h:p:=by simp[viewAt,shape,getObj,bind,Sem.bind,Sem.runT,World.shape?,Cu,a,pure]):p:=h
theorem mr{p:Prop}(h:p:=by intro ar hx;simp at hx;subst hx;rfl):p:=h
theorem mu{p:Prop}(h:p:=by rw[B];simp):p:=h
theorem mw{p:Prop}(h:p:=by simpa using f):p:=h
theorem mx{p:Prop}(h:p:=by have:=s _ h;omega):p:=h
theorem my{p:Prop}(h:p:=by rw[e]at this;exact this):p:=h
theorem mz{p:Prop}(h:p:=by rw[<-f];rfl):p:=h
theorem nj{p:Prop}(h:p:=by simpa using a):p:=h
theorem nn{p:Prop}(h:p:=by rw[bA];omega):p:=h
theorem np{p:Prop}(h:p:=by rw[g.out];exact⟨R,R⟩):p:=h
theorem nq{p:Prop}(h:p:=by unfold execOp;simp only[h,v];rfl):p:=h
theorem nt{p:Prop}(h:p:=by rw[<-H.out.1];simp[*]):p:=h
theorem nu{p:Prop}(h:p:=by simp[Region.wanted,d]):p:=h
theorem nv{p:Prop}(h:p:=by subst e;rw[run_index_string u _ s .i64 _ (uq Tryz.underlying9),dif_pos aA];simp):p:=h
theorem nw{p:Prop}(h:p:=by unfold stepG.apply;simp[Ou,Sem.runT,pure,oq,GStep.after,wd,put]):p:=h
theorem nz{p:Prop}(h:p:=by rw[aG A];rfl):p:=h
theorem n9{p:Prop}(h:p:=by rw[aG c];rfl):p:=h
theorem od{p:Prop}(h:p:=by rw[aG i];rfl):p:=h
theorem oe{p:Prop}(h:p:=by rw[e];simp):p:=h
theorem oj{p:Prop}(h:p:=by simp[Fence.wide]at h):p:=h
theorem ol{p:Prop}(h:p:=by simp only[World.alloc,dV,Array.size_push]):p:=h
abbrev Za:=@if_neg
abbrev Zb:=@if_pos
abbrev Zc:=@beq_false_of_ne
abbrev Zd:=@decide_eq_false
abbrev Ze:=@decide_eq_true
abbrev Zf:=@congrArg
abbrev Zg:=@of_decide_eq_true
abbrev Zh:=@decide_eq_true_eq
abbrev Zi:=@decide_eq_false_iff_not
abbrev Zj:=@of_decide_eq_false
abbrev Zk:=@beq_iff_eq
abbrev Zl:=@absurd
theorem Zm{p:Prop}(h:p:=by kernel_rfl):p:=h
instance:CoeOut Go.World Nat:=⟨λw=>w.heap.size⟩
