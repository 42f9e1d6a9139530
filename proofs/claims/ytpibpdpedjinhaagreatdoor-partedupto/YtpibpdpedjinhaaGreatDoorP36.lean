/- For every config, every upper chain and all places of bulk at most 1048576 together tributarykeep.Parted returns true and leaves its arguments as they read: a transaction whose Data is parted between two of its frames into two transactions, one right behind the other, changes nothing that All gives. The goroutines that it starts may still be leaving when it returns. The table of heads is tied to the program's text by the given tie; no other condition. -/
import Derived.Test.YtpibpdpedjinhaaGreatDoorP35
import Derived.ChangeOld
import Derived.Carry
import Derived.Conc.LeavingOf
import Derived.SevenTiedAt
import Derived.Test.YtpibpdpedjinhaaGreatDoorCards
import Derived.Test.YtpibpdpedjinhaaGreatDoorTie
set_option maxRecDepth 100000
set_option maxHeartbeats 1000000
set_option linter.unusedSimpArgs false
namespace Go.Proofs.YtpibpdpedjinhaaGreatDoor
namespace Pa
open Go Go.Conc Go.ChangeShapes Go.WideShapes Go.ChangeAt Go.RowKit
open Hm (PU uX lI oC um oU Rd nZ mX jG jZ)
open Dv (Tx U Cf)
open Po hiding U H B IT PR NB
section
variable {t:TypeId}{f0 f1 f2 f3:Field}{sp:Nat->Bool}{b:Nat}{D:Nat->Prop}{v:Value}
theorem J3:Tryz.prog.cellsOf 68=3:=by kernel_rfl
theorem zG:Tryz.prog.cellsOf 42=4:=by kernel_rfl
theorem ES:Tryz.prog.cellsOf 9=1:=by kernel_rfl
theorem LQ:Tryz.prog.cellsOf 40=1:=by kernel_rfl
theorem QW:Tryz.prog.cellsOf 39=1:=by kernel_rfl
theorem yV:Tryz.prog.cellsOf 3=1:=by kernel_rfl
theorem EU:Tryz.prog.cellsOf 22=1:=by kernel_rfl
theorem GN:Tryz.prog.cellsOf 24=7:=by kernel_rfl
theorem UW{H:Type}:∀d:DataW H,1<=Rows.uptoBulk d
 |.lit l=>by cases l<;>simp[Rows.uptoBulk]
 |.nil=>by simp[Rows.uptoBulk]
 |.ptr d=>by simp[Rows.uptoBulk]
 |.slice a b=>by simp[Rows.uptoBulk]
 |.agg a=>by simp[Rows.uptoBulk]
 |.iface a d=>by simp[Rows.uptoBulk]
 |.map m=>by simp[Rows.uptoBulk]
 |.held h=>by simp[Rows.uptoBulk]
theorem Iq{H:Type}:∀l:List (DataW H),l.length<=Rows.uptoBulkAll l
 |[]=>by simp
 |d::l=>by
  have:=UW d;have:=Iq l;simp only[Rows.uptoBulkAll,aN];omega
theorem Ju{H:Type}{d:DataW H}:∀{l:List (DataW H)},d∈l->Rows.uptoBulk d<=Rows.uptoBulkAll l
 |[],h=>by cases h
 |e::l,h=>by
  simp only[Rows.uptoBulkAll];rcases bV.1 h with rfl|h
  ·omega
  ·have:=Ju h;omega
theorem OH{α:Type}{Q:Nat->α->Prop}:∀n,(∀i,i<n->∃z,Q i z)->∃l:List α,l.length=n/\∀i z,l[i]? =some z->Q i z
 |0,_=>⟨[],rfl,λi z h=>by simp at h⟩
 |n+1,h=>by
  obtain⟨l,R,J⟩:=OH n λi I=>h i (by omega);obtain⟨z,hz⟩:=h n (by omega);refine⟨l++[z],by simp[R],λi y E=>?_⟩;rcases fQ i l.length with I|I
  ·rw[bP I]at E;exact J i y E
  ·rw[bK I]at E
   have Y:i-l.length=0:=by
    have:=(aF.1 E).1;simp at this;omega
   rw[Y]at E;simp at E;subst E;rw[show i=n from by omega];exact hz
section
variable {H:Type}{enc:TypeId×Value->H}{W:World}{held:Bool}
theorem add_add(a:Addr)(hs:a.spot=none)(n:Nat):a.add n=⟨a.block,a.off+n,none⟩:=by
 obtain⟨b,o,s⟩:=a;simp only at hs;subst hs;unfold Addr.add;split
 ·rename_i h;subst h;rfl
 ·rfl
theorem Ac{e:TypeId}{k fuel:Nat}{cs:List Value}{x:DataW H×List MemPlace}(ht:Tryz.prog.underlying t=some (.slice e))(hk:Tryz.prog.cellsOf e=k)(J:0<k)
  (h:DataW.trod enc Tryz.prog W 0 (λ_=>true) held fuel t cs=some x) {α:Type} (f:α->List Value) (hf:∀a,(f a).length=k) (B:α->DataW H->Prop)
  (af:∀n cs' y,DataW.trod enc Tryz.prog W 0 (λ_=>true) held n e cs'=some y->∃a,cs'=f a/\B a y.1):
  ∃(v:Value)(l:List α),cs=[v]/\Rd W k v l.length (l.flatMap f)/\l.length<=Rows.uptoBulk x.1/\(∃a c,v=.slice a l.length c)/\∀a∈l,∃d,B a d/\Rows.uptoBulk d<=Rows.uptoBulk x.1:=by
 rcases Go.Deep.open_slice ht h with⟨rfl,rfl⟩|⟨a,len,cap,m,n,D,Pl,rfl,hb,ah,ak,hm,rfl,hx⟩
 ·exact⟨_,[],rfl,Hm.Rd.nil _ _ _ _,by simp,⟨none,0,rfl⟩,λa h=>by cases h⟩
 simp only[if_true]at hm;subst hm;rw[hk]at hx
 have I:0<m->a.spot=none:=λh0=>by
  obtain⟨cs',h1,_⟩:=hx 0 h0;obtain⟨_,R,hc⟩:=World.cells?_some h1;have Y:=hc 0 J;rw[aG (by omega)]at Y;unfold World.cell? at Y;split at Y
  ·split at Y
   ·cases Y
   ·rename_i ae;have e:(a.add (0*k)).add 0=a:=by simp[Addr.add]
    rw[e]at ae;simpa using ae
  ·cases Y
 have ab:∀i,i<m->∃(z:α)(cs':List Value),cs'.length=k/\(∀j,j<k->W.cell? ⟨a.block,a.off+i*k+j,none⟩=cs'[j]?)/\cs'=f z/\B z (D i):=by
  intro i hi;obtain⟨cs',h1,h2⟩:=hx i hi;obtain⟨_,R,hc⟩:=World.cells?_some h1;obtain⟨z,hz,hB⟩:=af n cs' _ h2;have hs:=I (by omega);refine⟨z,cs',R,λj hj=>?_,hz,hB⟩;have:=hc j hj;rw[add_add a hs,add_add _ rfl]at this;exact this
 obtain⟨l,R,hq⟩:=OH (α:=α) (Q:=λi z=>∃cs':List Value,cs'.length=k/\(∀j,j<k->W.cell? ⟨a.block,a.off+i*k+j,none⟩=cs'[j]?)/\cs'=f z/\B z (D i)) len λi hi=>ab i (by omega)
 have E:Rows.uptoBulkAll ((List.range len).map D)<=Rows.uptoBulk (H:=H) (.slice ((List.range len).map D) ((List.range (m-len)).map λj=>D (len+j))):=by
  simp only[Rows.uptoBulk];omega
 refine⟨_,l,rfl,?_,?_,⟨some a,m,by rw[R]⟩,λz hz=>?_⟩
 ·rw[R]
  have key:∀j u,(l.flatMap f)[j]? =some u->W.cell? ⟨a.block,a.off+j,none⟩=some u:=λj u hj=>by
   have aa:=(aF.1 hj).1;rw[Hm.oO f k hf,R]at aa;have hi:j/k<len:=(Nat.div_lt_iff_lt_mul J).2 aa;have hr:j%k<k:=Nat.mod_lt _ J;have ag:j=j/k*k+j%k:=by have:=Nat.div_add_mod j k;rw[Nat.mul_comm]at this;omega
   have hz:l[j/k]? =some l[j/k]:=aG (by omega);obtain⟨cs',c1,c2,c3,_⟩:=hq _ _ hz;have ac:=Hm.flat_get f k hf l (j/k) (j%k) _ hz hr;rw[<-ag,hj,<-c3]at ac;rw[show a.off+j=a.off+j/k*k+j%k by omega,c2 (j%k) hr];exact ac.symm
  refine⟨by rw[Hm.oO f k hf,R],some a,m,rfl,ah,λh0=>⟨a.block,a.off,?_,?_,key⟩⟩
  ·have hs:=I (by omega);obtain⟨b,o,sp⟩:=a;simp only at hs;subst hs;rfl
  ·have ai:0<(l.flatMap f).length:=by rw[Hm.oO f k hf,R];exact Nat.mul_pos h0 J
   have:=key 0 _ (aG ai);unfold World.cell? at this;split at this
   ·exact(dR.1 ‹_›).1
   ·cases this
 ·rw[R];have:=Iq ((List.range len).map D);rw[aU,List.length_range]at this;exact aW this E
 ·obtain⟨i,hi⟩:=jv.1 hz;obtain⟨_,_,_,_,hB⟩:=hq i z hi;have aj:=(aF.1 hi).1;exact⟨D i,hB,aW (Ju (bC.2 ⟨i,gI.2 (by omega),rfl⟩)) E⟩
end
section
variable {H:Type}{enc:TypeId×Value->H}{W:World}{held:Bool}{fuel:Nat}{cs:List Value}{x:DataW H×List MemPlace}
theorem XQ(s:ByteArray):Value.string s=nZ s.data.toList:=by simp[nZ]
theorem Gg{k:IntKind}{n:Int}(hk:k=.u32)(h:(Lit.int k n).wf=true):∃m:Nat,n=m:=by
 subst hk;refine⟨n.toNat,?_⟩;have z:IntKind.u32.min=0:=rfl;simp only[Lit.wf,bY,decide_eq_true_eq]at h;omega
theorem open_strs(h:DataW.trod enc Tryz.prog W 0 (λ_=>true) held fuel 40 cs=some x):
  ∃v l,cs=[v]/\oU W v l/\l.length<=Rows.uptoBulk x.1:=by
 obtain⟨v,l,E,h2,h3,_,_⟩:=Ac Tryz.underlying40 ES (by omega) h (λs=>[nZ s]) (λ_=>rfl) (λ_ _=>True) (λn cs' y z=>by
  obtain⟨s,rfl,rfl,_⟩:=DataW.trod_string Tryz.underlying9 z;exact⟨s.data.toList,by rw[<-XQ],trivial⟩)
 refine⟨v,l,E,?_,h3⟩;have e:∀l:List (List UInt8),l.flatMap (λs=>[nZ s])=l.map nZ:=λl=>by induction l with|nil=>rfl|cons a l ih=>simp[ih]
 unfold oU;rw[<-e l];exact h2
theorem trod_struct4(ht:Tryz.prog.underlying t=some (.struct #[f0,f1,f2,f3]))(h:DataW.trod enc Tryz.prog W b sp held fuel t cs=some x):
  ∃z I R E n,x=(.agg [z.1,I.1,R.1,E.1],z.2++(I.2++(R.2++E.2)))/\cs.length=Tryz.prog.cellsOf t/\DataW.trod enc Tryz.prog W b sp held n f0.type ((cs.drop f0.offset).take (Tryz.prog.cellsOf f0.type))=some z/\
   DataW.trod enc Tryz.prog W b sp held n f1.type ((cs.drop f1.offset).take (Tryz.prog.cellsOf f1.type))=some I/\DataW.trod enc Tryz.prog W b sp held n f2.type ((cs.drop f2.offset).take (Tryz.prog.cellsOf f2.type))=some R/\DataW.trod enc Tryz.prog W b sp held n f3.type ((cs.drop f3.offset).take (Tryz.prog.cellsOf f3.type))=some E:=by
 obtain⟨xs,n,_,rfl,hl,J,Y⟩:=DataW.trod_struct ht h
 match xs,J with
 |[z,I,R,E],_=>exact⟨z,I,R,E,n,by simp,hl,by simpa using Y 0 f0 rfl,by simpa using Y 1 f1 rfl,by simpa using Y 2 f2 rfl,by simpa using Y 3 f3 rfl⟩
theorem Gf{E I J:Field}(ht:Tryz.prog.underlying t=some (.struct #[f0,f1,f2,f3,E,I,J]))(h:DataW.trod enc Tryz.prog W b sp held fuel t cs=some x):
  ∃Y y1 y2 y3 y4 y5 y6 n,x.2=Y.2++(y1.2++(y2.2++(y3.2++(y4.2++(y5.2++(y6.2))))))/\cs.length=Tryz.prog.cellsOf t/\DataW.trod enc Tryz.prog W b sp held n f0.type ((cs.drop f0.offset).take (Tryz.prog.cellsOf f0.type))=some Y/\DataW.trod enc Tryz.prog W b sp held n f1.type ((cs.drop f1.offset).take (Tryz.prog.cellsOf f1.type))=some y1/\DataW.trod enc Tryz.prog W b sp held n f2.type ((cs.drop f2.offset).take (Tryz.prog.cellsOf f2.type))=some y2/\DataW.trod enc Tryz.prog W b sp held n f3.type ((cs.drop f3.offset).take (Tryz.prog.cellsOf f3.type))=some y3/\DataW.trod enc Tryz.prog W b sp held n E.type ((cs.drop E.offset).take (Tryz.prog.cellsOf E.type))=some y4/\DataW.trod enc Tryz.prog W b sp held n I.type ((cs.drop I.offset).take (Tryz.prog.cellsOf I.type))=some y5/\DataW.trod enc Tryz.prog W b sp held n J.type ((cs.drop J.offset).take (Tryz.prog.cellsOf J.type))=some y6:=by
 obtain⟨xs,n,_,rfl,hl,R,z⟩:=DataW.trod_struct ht h
 match xs,R with
 |[Y,y1,y2,y3,y4,y5,y6],_=>exact⟨Y,y1,y2,y3,y4,y5,y6,n,by simp,hl,by simpa using z 0 f0 rfl,by simpa using z 1 f1 rfl,by simpa using z 2 f2 rfl,by simpa using z 3 f3 rfl,by simpa using z 4 E rfl,by simpa using z 5 I rfl,by simpa using z 6 J rfl⟩
theorem Jg(h:DataW.trod enc Tryz.prog W b sp held fuel 24 cs=some x):∃c:Cf,cs=(jG c).toList/\x.2=[]:=by
 obtain⟨y0,y1,y2,y3,y4,y5,y6,n,z,hl,k0,E,k2,R,k4,k5,k6⟩:=Gf Tryz.underlying24 h;rw[GN]at hl
 match cs,hl with
 |[c0,c1,c2,c3,c4,c5,c6],_=>
 simp only[EU,yV]at k0 E k2 R k4 k5 k6;obtain⟨m0,I,rfl,w0⟩:=DataW.trod_int Tryz.underlying22 k0;obtain⟨m1,e1,rfl,w1⟩:=DataW.trod_int Tryz.underlying22 E;obtain⟨m2,e2,rfl,w2⟩:=DataW.trod_int Tryz.underlying3 k2;obtain⟨m3,e3,rfl,w3⟩:=DataW.trod_int Tryz.underlying3 R;obtain⟨m4,e4,rfl,w4⟩:=DataW.trod_int Tryz.underlying3 k4;obtain⟨m5,J,rfl,w5⟩:=DataW.trod_int Tryz.underlying3 k5;obtain⟨m6,Y,rfl,w6⟩:=DataW.trod_int Tryz.underlying3 k6;simp at I e1 e2 e3 e4 J Y;subst I e1 e2 e3 e4 J Y;obtain⟨q0,rfl⟩:=Gg rfl w0;obtain⟨q1,rfl⟩:=Gg rfl w1;exact⟨⟨q0,q1,m2,m3,m4,m5,m6⟩,rfl,z⟩
end
theorem aae:((((begin Tryz.prog (λ_ _=>0) default).world.heap[1]?).bind Obj.row?).map (·.2))=some 306:=by kernel_rfl
theorem UM:2<=Tryz.prog.globals.size:=of_decide_eq_true (by kernel_rfl)
theorem KR:Tryz.prog.globals.size<(begin Tryz.prog (λ_ _=>0) default).world.heap.size:=of_decide_eq_true (by kernel_rfl)
theorem ZQ{W:World}(h:W.ShapedOpen Tryz.prog):Tryz.prog.globals.size<=W.heap.size:=by
 obtain⟨o,_,z,_⟩:=h.2 _ jA KR;have:=(jC z)
 omega
theorem TY{f:FuncId}{fn:Func}{c:Code}{E:Array Value}(z:Tryz.prog.funcs[f]? =some fn)(I:CO f=true)(J:fn.body=some c):sU (qe Tryz.prog.funcs D) ((base f).at ⟨E,[]⟩ [.code c]):=by
 refine⟨λi R=>?_,λd hd=>(by cases hd),rfl⟩;obtain rfl:i=.code c:=by simpa[Frame.at]using R
 rewrite [Ec]
 have:=(Oo I z).2;rw[J]at this;exact this
section
variable {W:World}
theorem oh(a:Addr):(hush W).cell? a=W.cell? a:=by
 unfold World.cell? hush;rw[iD];cases h:W.heap[a.block]? with
 |none=>rfl
 |some o=>cases o<;>rfl
theorem Af{s n:Nat}{xs:List Value}(h:Rd W s v n xs):Rd (hush W) s v n xs:=by
 obtain⟨E,a,cap,e,h2,h3⟩:=h;refine⟨E,a,cap,e,h2,λI=>?_⟩;obtain⟨g,off,R,z,Y⟩:=h3 I;exact⟨g,off,R,by simpa[hush]using z,λj u J=>(oh _).trans (Y j u J)⟩
theorem Vp{ps:List PU}(h:lI W v ps):lI (hush W) v ps:=⟨Af h.1,λp hp=>⟨Af (h.2 p hp).1,Af (h.2 p hp).2.1,(h.2 p hp).2.2⟩⟩
theorem J5(h:W.ShapedOpen Tryz.prog)(E:kQ W):qp (hush W):=by
 refine⟨⟨⟨(oh _).trans E.1.1,(oh _).trans E.1.2.1,(oh _).trans E.1.2.2⟩,⟨(oh _).trans E.2.1,(oh _).trans E.2.2.1,(oh _).trans E.2.2.2⟩⟩,?_⟩;have:=aae;cases e:(((begin Tryz.prog (λ_ _=>0) default).world.heap[1]?).bind Obj.row?)with
 |none=>rw[e]at this;cases this
 |some z=>
  obtain⟨zero,t⟩:=z;rw[e]at this;simp only[bQ,aC]at this;obtain⟨cs,I,_⟩:=h.1 1 zero t (by have:=UM;omega) e;subst this;exact⟨_,_,_,NP I rfl,by decide,by decide,by decide,by decide,by decide⟩
theorem P7{post:Value->World->Prop}{w' y:World}(R:jZ (λ_=>False) (hush W) w')(hw:WP (qe Tryz.prog.funcs D) w' y)(hk:Keep (qe Tryz.prog.funcs D) ⟨yQ W,W,post⟩ y):Go.RowKit.Below W.heap.size W { y with tape:=W.tape }:=by
 refine⟨hk.os,rfl,hk.output,hk.size,λk I=>?_⟩;by_cases E:yQ W k
 ·exact(hk.dead k E).2
 ·have Y:¬(qe Tryz.prog.funcs D).D k:=λh=>E (hk.old k h I);have hz:(hush W).heap.size=W.heap.size:=by simp[hush]
  have J:=(hw.out k Y).trans (R.block k (by rw[hz];exact I) (λe=>e));refine J.trans ?_;cases z:W.heap[k]? with
  |none=>rw[Array.getElem?_eq_none_iff]at z;omega
  |some o=>exact NP z (Bool.eq_false_iff.2 λe=>E ⟨o,z,e⟩)
end
end
end Pa
section
open Go Go.Conc
section
variable {s:OpenSpec}{p:Pinned}{c:OpenClaim}
section
variable {H:Type}{enc:TypeId×Value->H}
theorem rC{a:Assume}{C:Checked}{os:Os}{f:FuncId}{fn:Func}{F:Stop.Interp}{Y:List PathCond}{apart fresh E I:Bool}{R:List (String×DataW Unit)}
  (own:ownKnob C.prog.godebug=none) (J:os.Started) (ai:C.prog.funcs[f]? =some fn)
  (aa:∃(w:World)(tape:Tape)(i:Input),w.os=os/\(w.forCall tape i).Shaped C.prog/\i.vars=[]/\Input.okWide C.prog (w.forCall tape i) .any w.heap.size f i/\
   s.preRow enc C.prog fn Y apart R (w.forCall tape i).memory i.args/\a.holds C.prog (lone (Frame.enter C.prog f i.args .normal) [] (w.forCall tape i)))
  (runs:∀(W:World)(base:Nat)(args:Array Value)(ds gs:List (DataW H))(z:List MemPlace),
   (∀(j:Nat) t v,fn.params[j]? =some t->args[j]? =some v->Value.okWide C.prog W .any base t v)->
   DataW.Whole enc C.prog fn.params.toList s.vars apart W args.toList ds gs z->
   (∀k,s.cond=some k->k H (ds++gs)=true)->
   laidMetH C.prog R W->
   W.ShapedOpen C.prog->
   ∃M last o w' t',runNT C.prog (M+1) (solo (G (Frame.enter C.prog f args .normal) []) W) #[]=(.ended o w',t')/\runN C.prog M (solo (G (Frame.enter C.prog f args .normal) []) W)=.next last/\
    step C.prog last=.ended o w'/\Conc.Good C.prog (λv W'=>(s.at F).post enc C.prog fn apart fresh E I W args v W') last o w' t'):
  ReturnsInLeavingWide a C os f .any (s.preRow enc C.prog fn Y apart R) ((s.at F).post enc C.prog fn apart fresh E I):=by
 refine returnsInLeavingWide_of_good own J aa ?_;intro w tape i _ ah _ ag ae _;obtain⟨_,_,_,aj,ac,_,_,_,_,ab⟩:=ag;have e:aj=fn:=eP (ac.symm.trans ai);subst e;obtain⟨⟨hp,hl⟩,hz⟩:=ae;obtain⟨ds,gs,z,hw,hc,hk⟩:=OpenSpec.pre_parts hp;have af:=DataW.Whole.of_heap (w':=w.forCall tape i) (by rfl) hw;obtain⟨M,last,o,w',t',h1,h2,h3,h4⟩:=runs (w.forCall tape i) w.heap.size i.args ds gs z ab af hk (hl.of_heap (by rfl)) ah;exact⟨M,last,o,w',t',h1,h2,h3,h4.mono λv hp=>ChangeSpec.post_blind hp⟩
end
theorem sS(f:FuncId)(fn:Func)
  (hn:c.program=p.name) (hs:c.sum=p.sum) (a7:c.spec=s.name)
  (z:c.start=.entering) (E:c.outside=[]) (aw:c.inits=[]) (a2:c.under=none) (ar:c.initsInPlace=[]/\c.initsUnfollowed=false/\c.initsRecurse=false/\c.initsNamed=[]/\c.initsPassed=[]) (aj:c.noBlocks=false) (bb:c.leaving=true) (aa:c.followed=none) (ah:c.narrowed=s.cond.isSome) (J:c.still=false)
  (a8:p.checked.prog.funcNamed c.func=some f) (hf:p.checked.prog.funcs[f]? =some fn)
  (I:joinedFacts p.checked.prog f fn s.bare c=true)
  (Y:fn.isInstance p.checked.prog c.origin c.targs) (R:fn.isWrapper p.checked.prog c.wrapper c.mainSum)
  (h:∀os:Os,os.Started->∀(H:Type)(enc:TypeId×Value->H),(∀a b,enc a=enc b->a=b)->∀F:Stop.Interp,
   ReturnsInLeavingWide c.assume p.checked os f .any (c.pre enc p.checked.prog fn s) ((s.at F).post enc p.checked.prog fn c.apart c.fresh c.handsOn c.again)):c.holds p s:=by
 simp only[joinedFacts,bY,beq_iff_eq,Array.all_eq_true_iff_forall_mem,eY,decide_eq_true_eq]at I;obtain⟨⟨⟨⟨⟨⟨⟨⟨⟨⟨⟨⟨⟨⟨⟨⟨⟨⟨⟨⟨⟨⟨⟨⟨⟨⟨⟨⟨⟨⟨⟨k1,k2⟩,k3⟩,k4⟩,k5⟩,k6⟩,k7⟩,k8⟩,k9⟩,aq⟩,a3⟩,a4⟩,bd⟩,ao⟩,ap⟩,a1⟩,az⟩,ae⟩,an⟩,ax⟩,au⟩,a5⟩,ay⟩,ai⟩,ab⟩,ag⟩,ac⟩,af⟩,am⟩,a6⟩,ba⟩,ak⟩:=I;have hq:∀os:Os,Stop.quiet p.checked.prog os:=λos k hk=>by rw[k9]at hk;cases hk
 refine⟨k1,hn,hs,a7,k2,k3,by unfold OpenClaim.startFits;rw[z];exact ag,by unfold OpenClaim.startTold;rw[z];exact⟨aw,a2,ar⟩,f,fn,a8,hf,⟨k4,ax⟩,(λhb=>by rw[aj]at hb;cases hb),by unfold OpenClaim.namedList;rw[aa];exact k5,Y,R,
  k6.trans k7.symm,⟨k8.trans k9.symm,by unfold Program.envWorded;rw[k9];rfl,ab⟩,aq,a3,a4,bd,ao,⟨ap,ba,ak⟩,⟨a1,au⟩,⟨az,a5,am,a6⟩,⟨ay,ac,af,ae⟩,(by rw[E,ah];cases a9:c.shortTexts with|none=>simp|some _=>rw[a9]at ai;cases ai),λn av=>varReadable_some (an n av),
  ⟨_,by unfold OpenClaim.world;rw[E,z];exact WideRow.started_initial,hq _⟩,[],by unfold OpenClaim.lists;rw[aa],λos st _ H enc inj=>?_⟩
 have a0:os.Started:=by unfold OpenClaim.world at st;rw[E,z]at st;exact st
 rw[OpenClaim.post_not_still J];unfold OpenClaim.form;rw[z,k6];intro F;have e1:c.okInput=Input.okWide:=by unfold OpenClaim.okInput;rw[aj]
 have e2:c.atReturn p.checked.prog=leavingAtReturn p.checked.prog:=by unfold OpenClaim.atReturn;rw[bb]
 have e3:c.always p.checked.prog []=nothingAlways:=by unfold OpenClaim.always;rw[aa]
 have e4:s.post enc p.checked.prog fn F c.outside c.apart c.fresh c.handsOn c.again=(s.at F).post enc p.checked.prog fn c.apart c.fresh c.handsOn c.again:=by rw[E];rfl
 rw[e1,e2,e3]
 show ReturnsInOpen _ _ _ _ _ _ _ _ (s.post enc p.checked.prog fn F c.outside c.apart c.fresh c.handsOn c.again) _ _
 rw[e4];exact h os a0 H enc inj F ag
theorem zU(Lk:Looks)(kinds:List LaidKind)(E:Bool)(z:Bool×String)(lk g:Bool)
  (hc:c.holds p s) (hw:c.wfByText s=true) (I:c.laidByTextAt Lk p kinds E)
  (J:c.start=.entering) (R:c.noBlocks=false/\c.again=false) (hm:p.checked.prog.mainIs=some (z.1,z.2.toList)) (hn:(!z.1&&z.2.isEmpty&&!lk)=false)
  (hl:∀f fn,p.checked.prog.funcNamed c.func=some f->p.checked.prog.funcs[f]? =some fn->lk=p.checked.prog.looks []/\∀(j:Nat) t,fn.params[j]? =some t->p.checked.prog.wantsStandIn t=false)
  (Y:g=c.goesBy p.checked.prog):
  Claim7.holds p (.plain s) { stood:={ row:=c,standIns:=[],harness:=z,looks:=lk },kinds:=[],alts:=[],goes:=g,laidByText:=true,laidKinds:=kinds,laidTests:=E,laidLooks:=Lk }:=by
 have h6:∀r:OpenClaim,Claim7.isSixth { stood:={ row:=r,standIns:=[],harness:=z,looks:=lk },kinds:=[] }=false:=λr=>by simpa[Claim7.isSixth]using hn
 exact⟨Claim7.tied_new_at Lk kinds E (Claim7.new_of_sixth hc z lk J R hm (h6 c) hl) hw,(λD hD=>by cases hD),I,(λh=>by cases h),Y⟩
end
end
namespace parted
open Go.ChangeShapes Go.WideShapes Go.ChangeAt Go.RowKit Go.Conc Go.Proofs.YtpibpdpedjinhaaGreatDoor.Pa
open Hm (jG)
theorem own:ownKnob Tryz.prog.godebug=none:=by kernel_rfl
theorem laidOut:laidOutB Tryz.prog=true:=by kernel_rfl
section
variable {H:Type}{enc:TypeId×Value->H}{W:World}{held:Bool}{fuel:Nat}{cs:List Value}{x:DataW H×List MemPlace}
theorem QO(h:DataW.trod enc Tryz.prog W 0 (λ_=>true) held fuel 39 cs=some x):
  ∃v l,cs=[v]/\Hm.um W v l/\l.length<=Rows.uptoBulk x.1/\∀t∈l,t.data.length<=Rows.uptoBulk x.1:=by
 obtain⟨v,l,J,h2,h3,_,h4⟩:=Ac Tryz.underlying39 J3 (by omega) h Hm.mX (λ_=>rfl) (λt d=>t.data.length<=Rows.uptoBulk d) (λn cs' y hy=>by
  obtain⟨y0,y1,y2,n',rfl,z,R,J,h2⟩:=Go.Deep.trod_struct3 Tryz.underlying68 hy;rw[J3]at z
  match cs',z with
  |[c0,c1,c2],_=>
  simp only[EU,ES]at R J h2;obtain⟨m0,E,rfl,w0⟩:=DataW.trod_int Tryz.underlying22 R;obtain⟨m1,I,rfl,w1⟩:=DataW.trod_int Tryz.underlying22 J;obtain⟨s,hs,rfl,_⟩:=DataW.trod_string Tryz.underlying9 h2;simp at E I hs;subst E I hs;obtain⟨k0,rfl⟩:=Gg rfl w0;obtain⟨Y,rfl⟩:=Gg rfl w1;refine⟨⟨k0,Y,s.data.toList⟩,by simp[Hm.mX],?_⟩;have e:s.data.toList.length=s.size:=rfl;simp only[Rows.uptoBulk,Rows.uptoBulkAll,e];omega)
 exact⟨v,l,J,h2,h3,λt ht=>(h4 t ht).elim λ_ h=>aW h.1 h.2⟩
theorem QT(h:DataW.trod enc Tryz.prog W 0 (λ_=>true) held fuel 25 cs=some x)(hb:Rows.uptoBulk x.1<=1048576):
  ∃v ps a c,cs=[v]/\v=.slice a ps.length c/\Hm.lI W (.slice a ps.length c) ps/\ps.length<=4294967296/\∀p∈ps,∀t∈p.1.txs,t.data.length<=1048576:=by
 obtain⟨v,l,J,h2,h3,⟨a,c,hv⟩,h4⟩:=Ac Tryz.underlying25 zG (by omega) h Hm.uX (λ_=>rfl) (λp d=>Rows.uptoBulk d<=1048576->Hm.oC W p.1 p.2.1 p.2.2/\∀t∈p.1.txs,t.data.length<=1048576) (λn cs' y hy=>by
  obtain⟨y0,y1,y2,y3,n',rfl,z,Y,J,h2,h3⟩:=trod_struct4 Tryz.underlying42 hy;rw[zG]at z
  match cs',z with
  |[c0,c1,c2,c3],_=>
  simp only[yV,QW,LQ]at Y J h2 h3;obtain⟨m0,E,rfl,w0⟩:=DataW.trod_int Tryz.underlying3 Y;obtain⟨m1,I,rfl,w1⟩:=DataW.trod_int Tryz.underlying3 J;obtain⟨vt,lt,e2,t2,b2,b4⟩:=QO h2;obtain⟨vl,ll,e3,t3,b3⟩:=open_strs h3;simp at E I e2 e3;subst E I e2 e3;refine⟨(⟨m0,m1,lt,ll⟩,c2,c3),by simp[Hm.uX],λhd=>?_⟩;simp only[Rows.uptoBulk,Rows.uptoBulkAll]at hd;exact⟨⟨t2,t3,by dsimp only;omega,by dsimp only;omega⟩,λt ht=>by have:=b4 t ht;omega⟩)
 refine⟨v,l,a,c,J,hv,⟨by rw[<-hv];exact h2,λp hp=>?_⟩,by omega,λp hp=>?_⟩
 ·obtain⟨d,R,hd⟩:=h4 p hp;exact(R (by omega)).1
 ·obtain⟨d,R,hd⟩:=h4 p hp;exact(R (by omega)).2
end
theorem open_ints{H:Type}{enc:TypeId×Value->H}{W:World}{held:Bool}{fuel:Nat}{cs:List Value}{x:DataW H×List MemPlace}(h:DataW.trod enc Tryz.prog W 0 (λ_=>true) held fuel 31 cs=some x):
  ∃(v:Value)(l:List Int),cs=[v]/\Hm.Rd W 1 v l.length (l.map (Value.int .i64))/\l.length<=Rows.uptoBulk x.1/\∀n∈l,-9223372036854775808<=n/\n<=9223372036854775807:=by
 obtain⟨v,l,E,h2,h3,_,h4⟩:=Ac Tryz.underlying31 yV (by omega) h (λn=>[Value.int .i64 n]) (λ_=>rfl) (λn _=>-9223372036854775808<=n/\n<=9223372036854775807) (λn cs' y I=>by
  obtain⟨m,rfl,rfl,z⟩:=DataW.trod_int Tryz.underlying3 I;simp only[Lit.wf,bY,decide_eq_true_eq]at z;exact⟨m,rfl,z⟩)
 refine⟨v,l,E,?_,h3,λn J=>(h4 n J).elim λ_ h=>h.1⟩;have e:∀l:List Int,l.flatMap (λs=>[Value.int .i64 s])=l.map (Value.int .i64):=λl=>by induction l with|nil=>rfl|cons a l ih=>simp[ih]
 rw[<-e l];exact h2
theorem Q9{l:List Int}(h:∀n∈l,-9223372036854775808<=n/\n<=9223372036854775807)(i:Nat):-9223372036854775808<=Hm.Ky l i/\Hm.Ky l i<=9223372036854775807:=by
 unfold Hm.Ky;rw[aS];cases e:l[i%l.length]? with
 |none=>exact⟨by decide,by decide⟩
 |some x=>exact h x (aQ e)
theorem runs(rd:Cr.ReadW)(H:Type)(enc:TypeId×Value->H)(W:World)(base:Nat)(args:Array Value)(ds gs:List (DataW H))(J:List MemPlace)
  (z:∀(j:Nat) t v,Tryz.f9.params[j]? =some t->args[j]? =some v->Value.okWide Tryz.prog W .any base t v)
  (hW:DataW.Whole enc Tryz.prog Tryz.f9.params.toList Rows.partedSpec.vars false W args.toList ds gs J) (hk:Rows.uptoSmall H (ds++gs)=true) (hL:laidMetH Tryz.prog Rows.partedUptoRow.laid W) (ag:W.ShapedOpen Tryz.prog):
  Cr.wZ Tryz.prog (λv W'=>Rows.partedSpec.post enc Tryz.prog Tryz.f9 false true false false W args v W') (solo (G (Frame.enter Tryz.prog 9 args .normal) []) W) #[]:=by
 have ar:=hW;obtain⟨p,q,an,hV,rfl,a4,a8⟩:=hW;have hA:DataW.TrodAll enc Tryz.prog W 0 (λ_=>true) true Tryz.f9.params.toList args.toList ds p:=an;rw[Tryz.params9]at hA z;obtain⟨v0,a1,d0,az,p0,q0,E,rfl,rfl,h0,r0⟩:=trodAll_cons hA;obtain⟨v1,ay,d1,a5,p1,q1,rfl,rfl,rfl,h1,r1⟩:=trodAll_cons r0;obtain⟨v2,a7,d2,a3,p2,q2,rfl,rfl,rfl,h2,r2⟩:=trodAll_cons r1;obtain⟨rfl,rfl,rfl⟩:=trodAll_nil r2;obtain rfl:args=#[v0,v1,v2]:=by cases args;simp_all
 obtain⟨rfl,rfl⟩:=trodVars_none hV;have k0:=h0;have k1:=h1;have k2:=h2;have ai:∀x∈p0,x.block<W.heap.size:=by obtain⟨m,hm⟩:=k0;exact DataW.trod_lt m _ _ _ hm
 have ak:∀x∈p1,x.block<W.heap.size:=by obtain⟨m,hm⟩:=k1;exact DataW.trod_lt m _ _ _ hm
 have av:∀x∈p2,x.block<W.heap.size:=by obtain⟨m,hm⟩:=k2;exact DataW.trod_lt m _ _ _ hm
 obtain⟨cs,rfl,a0⟩:=okWide_struct Tryz.underlying24 (z 0 24 v0 rfl rfl);obtain⟨xa,n,vc,rfl⟩:=okWide_slice Tryz.underlying25 (z 1 25 v1 rfl rfl);obtain⟨ia,aj,ic,rfl⟩:=okWide_slice Tryz.underlying31 (z 2 31 v2 rfl rfl);obtain⟨f0,au⟩:=h0;obtain⟨f1,ax⟩:=h1;obtain⟨f2,ao⟩:=h2;obtain⟨c,hc,af⟩:=Jg au;simp only at af;subst af
 obtain rfl:cs=jG c:=by
  have:cs.toList=(jG c).toList:=by simpa[Value.cells]using hc
  cases cs
  simp_all
 simp only[fU]at hk
 have hb:Rows.uptoBulk d1<=1048576/\Rows.uptoBulk d2<=1048576:=by
  have h:Rows.uptoBulkAll [d0,d1,d2]<=1048576:=of_decide_eq_true hk;simp only[Rows.uptoBulkAll]at h;omega
 have Y:=ZQ ag;obtain⟨v,ps,a2,a6,hv,ah,ac,aa,ap⟩:=QT ax hb.1;obtain rfl:Value.slice xa n vc=v:=by simpa[Value.cells]using hv
 simp only[Value.slice.injEq]at ah;obtain⟨rfl,rfl,rfl⟩:=ah;obtain⟨v,is,hv,ab,aw,aq⟩:=open_ints ao;obtain rfl:Value.slice ia aj ic=v:=by simpa[Value.cells]using hv
 obtain⟨_,_,ho⟩:=Hm.Rd.slice ab;simp only[Value.slice.injEq]at ho;obtain⟨rfl,rfl,rfl⟩:=ho;refine Cr.MN ?_
 have ae:Frame.enter Tryz.prog 9 #[.agg (jG c),.slice xa ps.length vc,.slice ia is.length ic] .normal=(Conc.base 9).at { tmps:=#[.agg (jG c),.slice xa ps.length vc,.slice ia is.length ic]++Array.replicate 139 undef,defers:=[] } [.code (.seq Hm.Um (.seq Hm.Qc (.seq Hm.Vk (.seq Hm.Ur (.seq Hm.paL (.seq Hm.ET .ret))))))]:=by
  unfold Frame.enter;simp only[Tryz.func9,bQ,fB,gK,Hm.Ou];rfl
 refine Po.Ph (fr:=Frame.enter Tryz.prog 9 #[.agg (jG c),.slice xa ps.length vc,.slice ia is.length ic] .normal) ?_ ?_
 ·rw[ae];refine O7 rd (by simpa[Po.hush]using Y) (Vp ac) aa ap (Af ab) (aW aw (aW hb.2 (by decide))) (Q9 aq) (J5 ag (Vl hL)) λD w' y hc hw am=>?_;have bel:=P7 hc hw am;have E:=trodAll_cons_mk (Go.RowKit.Below.trod laidOut (by kernel_rfl) (of_decide_eq_true (by kernel_rfl)) k0 bel ai) (trodAll_cons_mk (Go.RowKit.Below.trod laidOut (by kernel_rfl) (of_decide_eq_true (by kernel_rfl)) k1 bel ak) (trodAll_cons_mk (Go.RowKit.Below.trod laidOut (by kernel_rfl) (of_decide_eq_true (by kernel_rfl)) k2 bel av) trodAll_mk0));have R:∀I,W.keptBut y I:=λI=>⟨(bel.frame I).1,(bel.frame I).2.1,(bel.frame I).2.2⟩
  exact⟨_,_,_,[],_,[],ar,trodAll_mk1 (shut_bool Tryz.underlying4 _),E.of_heap (by rfl),rfl,R _,λh=>by cases h⟩
 ·rw[ae];exact TY Tryz.func9 rfl Hm.Ou
noncomputable def laidWorld(os:Os):World:=
 { World.holding Tryz.prog os ⟨#[],#[],[]⟩with heap:=(World.holding Tryz.prog os ⟨#[],#[],[]⟩).heap.modify 1 fun
   |.cells _ t frozen=>.cells #[.bool false,.int .u8 128,.int .u8 183,.bool true,.int .u8 192,.int .u8 247] t frozen
   |o=>o }
def Oe:Array Value:=#[.agg #[.int .u32 0,.int .u32 0,.int .i64 0,.int .i64 0,.int .i64 0,.int .i64 0,.int .i64 0],.slice none 0 0,.slice none 0 0]
theorem laid_met(os:Os):laidMet Tryz.prog Rows.partedUptoRow.laid ((laidWorld os).forCall (λ_ _=>0) ⟨#[],Oe,[]⟩).memory:=
 laidMet_of_run' 8 (by kernel_rfl) (by kernel_rfl)
theorem reads(os:Os){H:Type}(enc:TypeId×Value->H):∃z,DataW.whole enc Tryz.prog ((laidWorld os).forCall (λ_ _=>0) ⟨#[],Oe,[]⟩).memory Tryz.f9.params.toList Rows.partedSpec.vars false Oe.toList 8=some ([.agg [.lit (.int .u32 0),.lit (.int .u32 0),.lit (.int .i64 0),.lit (.int .i64 0),.lit (.int .i64 0),.lit (.int .i64 0),.lit (.int .i64 0)],.nil,.nil],[],z):=
 ⟨[],by kernel_rfl⟩
theorem ND(rd:Cr.ReadW)(os:Os)(z:os.Started)(H:Type)(enc:TypeId×Value->H)(F:Stop.Interp):
  ReturnsInLeavingWide {} Tryz.checked os 9 .any ((Rows.OpenSpec.upto Rows.partedSpec).preRow enc Tryz.prog Tryz.f9 Rows.partedUptoRow.domain false Rows.partedUptoRow.laid) (((Rows.OpenSpec.upto Rows.partedSpec).at F).post enc Tryz.prog Tryz.f9 false true false false):=by
 obtain⟨R,hx⟩:=reads os enc
 refine rC (C:=Tryz.checked) (s:=Rows.OpenSpec.upto Rows.partedSpec) own z Tryz.func9
  (witness_row_at (enc:=enc) (C:=Tryz.checked) false (laidWorld os) Oe rfl (by kernel_rfl) (by kernel_rfl) (by kernel_rfl)
   (OpenSpec.preRow_of_cond 8 hx (by kernel_rfl) (λk hk=>by cases hk;kernel_rfl) (by kernel_rfl) (laid_met os))) ?_
 intro W base args ds gs E J hW I hL Y;exact runs rd H enc W base args ds gs E J hW (I _ rfl) hL Y
theorem Tf(rd:Cr.ReadW):Rows.PartedUptoSaid:=
 sS 9 Tryz.f9 rfl rfl rfl rfl rfl rfl rfl ⟨rfl,rfl,rfl,rfl,rfl⟩ rfl rfl rfl rfl rfl (by kernel_rfl) Tryz.func9 (by kernel_rfl)
  (of_decide_eq_true (by kernel_rfl)) (by unfold Func.isWrapper;first|(rw[if_pos (by decide+kernel)];kernel_rfl)|(rw[if_neg (by decide+kernel)];exact⟨rfl,rfl⟩))
  (λos z H enc _ F=>by rw[OpenClaim.pre_eq_preRow];exact ND rd os z H enc F)
theorem plain(f:FuncId)(fn:Func)(E:Tryz.pinned.checked.prog.funcNamed "tributary/tributarykeep.Parted"=some f)(z:Tryz.pinned.checked.prog.funcs[f]? =some fn):
  false=Tryz.pinned.checked.prog.looks []/\∀(j:Nat) t,fn.params[j]? =some t->Tryz.pinned.checked.prog.wantsStandIn t=false:=by
 obtain rfl:f=9:=eP ((show Tryz.prog.funcNamed "tributary/tributarykeep.Parted"=some 9 by kernel_rfl).symm.trans E) |>.symm;obtain rfl:fn=Tryz.f9:=(eP (Tryz.func9.symm.trans z)).symm;refine⟨by kernel_rfl,λj t ht=>?_⟩;rw[Tryz.params9]at ht;have ht:t=24\/t=25\/t=31:=by simpa using fZ ht
 rcases ht with rfl|rfl|rfl
 ·exact(show Tryz.prog.wantsStandIn 24=false by kernel_rfl)
 ·exact(show Tryz.prog.wantsStandIn 25=false by kernel_rfl)
 ·exact(show Tryz.prog.wantsStandIn 31=false by kernel_rfl)
end parted
section
theorem parted_card_holds:Rows.PartedUptoCardSaid:=
 zU .later [.data] true (true,"86f446d083b21c697143d8f604f5e2b0e35ced65590020ebfc29d445f4fc9267") false true (parted.Tf Cr.Jl) (by kernel_rfl) partedUpto_row_tie rfl ⟨rfl,rfl⟩ (by kernel_rfl) rfl parted.plain (by kernel_rfl)
end
end Go.Proofs.YtpibpdpedjinhaaGreatDoor
