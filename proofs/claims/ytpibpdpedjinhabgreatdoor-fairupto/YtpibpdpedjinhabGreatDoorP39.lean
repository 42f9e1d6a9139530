/- For every two configs, upper block and script of bulk at most 1048576 together tributarykeep.Fair returns true and leaves its arguments as they read: two nodes to which the same happens are the same, Step for Step, whatever happens to a third one between. Goroutines that it starts may still be leaving when it returns. The table of heads and the error of a silent chain are tied to the program's text by the given tie; no other condition. -/
import Derived.Test.YtpibpdpedjinhabGreatDoorP38
import Derived.ChangeOld
import Derived.Carry
import Derived.Conc.LeavingOf
import Derived.SevenTiedAt
import Derived.Test.YtpibpdpedjinhabGreatDoorCards
import Derived.Test.YtpibpdpedjinhabGreatDoorTie
import Derived.Stop.LaidErr
set_option maxRecDepth 100000
set_option maxHeartbeats 1000000
set_option linter.all false
open Bool renaming false->aR,true->bB
open Go renaming FuncId->o6,TypeId->cH,Value->aD,World->X
open Go.DataW renaming trod->fX,trod_int->eZ
open Go.Frame renaming enter->iz
open Go.IntKind renaming i64->aE,u32->dT
open Go.Proofs.Tryz renaming f4->gF,prog->U,underlying22->lm,underlying3->gN,underlying9->eI
open Go.RowKit.Below renaming trod->lw
open Go.Value renaming agg->gR,int->N,slice->aM,string->bE
open List renaming range->iv
open Option renaming none->Z,some->M
namespace Go.Proofs.YtpibpdpedjinhabGreatDoor
namespace Pa
open Go Go.Conc Go.ChangeShapes Go.WideShapes Go.ChangeAt Go.RowKit
open Hm (PU oq oz kW yc qH Rd nT oO jF jL)
open Dv (Tx X2 Cf)
open Po hiding X2 H B IT PR NB
section
variable {t:cH}{f0 f1 f2 f3:Field}{sp:Nat->Bool}{b:Nat}{D:Nat->Prop}
theorem MV:Tryz.prog.cellsOf 125=3:=XN
theorem zW:Tryz.prog.cellsOf 28=4:=XN
theorem yL:Tryz.prog.cellsOf 9=1:=XN
theorem OM:Tryz.prog.cellsOf 26=1:=XN
theorem U6:Tryz.prog.cellsOf 25=1:=XN
theorem zk:Tryz.prog.cellsOf 3=1:=XN
theorem Gj:Tryz.prog.cellsOf 22=1:=XN
theorem Jc:Tryz.prog.cellsOf 24=7:=XN
theorem Yj{H:Type}:∀d:DataW H,1<=Rows.uptoBulk d
 |.lit l=>by cases l<;>simp[Rows.uptoBulk]
 |.nil=>by simp[Rows.uptoBulk]
 |.ptr d=>by simp[Rows.uptoBulk]
 |.slice a b=>by simp[Rows.uptoBulk]
 |.agg a=>by simp[Rows.uptoBulk]
 |.iface a d=>by simp[Rows.uptoBulk]
 |.map m=>by simp[Rows.uptoBulk]
 |.held h=>by simp[Rows.uptoBulk]
theorem JK{H:Type}:∀l:List (DataW H),l.length<=Rows.uptoBulkAll l
 |[]=>aC
 |d::l=>by
  have:=Yj d;have:=JK l;simp only[Rows.uptoBulkAll,aU];omega
theorem Lr{H:Type}{d:DataW H}:∀{l:List (DataW H)},d∈l->Rows.uptoBulk d<=Rows.uptoBulkAll l
 |[],h=>by cases h
 |e::l,h=>by
  simp only[Rows.uptoBulkAll];obtain rfl|h:=dD.1 h
  .omega
  .have:=Lr h;omega
theorem Rz{α:Type}{Q:Nat->α->Prop}:∀n,(∀i,i<n->∃z,Q i z)->∃l:List α,l.length=n/\∀i z,l[i]? =M z->Q i z
 |0,_=>⟨[],rfl,λi z h=>by simp at h⟩
 |n+1,h=>by
  obtain⟨l,I,J⟩:=Rz n λi E=>h i aA;obtain⟨z,Y⟩:=h n aA;refine⟨l++[z],by simp[I],λi y R=>?_⟩;obtain E|E:=gG i l.length
  .grind
  .grind
section
variable {H:Type}{enc:cH×aD->H}{W:X}{held:Bool}
theorem add_add(a:Addr)(hs:a.spot=Z)(n:Nat):a.add n=⟨a.block,a.off+n,Z⟩:=by
 obtain⟨b,o,s⟩:=a;simp only at hs;subst hs;unfold Addr.add;split
 .grind
 .rfl
theorem IL{e:cH}{k fuel:Nat}{cs:List aD}{x:DataW H×List MemPlace}(ht:Tryz.prog.underlying t=M (.slice e))(hk:Tryz.prog.cellsOf e=k)(J:0<k)(h:fX enc U W 0 (λ_=>bB) held fuel t cs=M x){α:Type}(f:α->List aD)(hf:∀a,(f a).length=k)(B:α->DataW H->Prop)(ag:∀n cs' y,fX enc U W 0 (λ_=>bB) held n e cs'=M y->∃a,cs'=f a/\B a y.1):∃(v:aD)(l:List α),cs=[v]/\Rd W k v l.length (l.flatMap f)/\l.length<=Rows.uptoBulk x.1/\(∃a c,v=.slice a l.length c)/\∀a∈l,∃d,B a d/\Rows.uptoBulk d<=Rows.uptoBulk x.1:=by
 obtain⟨rfl,rfl⟩|⟨a,len,cap,m,n,D,Pl,rfl,hb,ai,am,hm,rfl,hx⟩:=Go.Deep.open_slice ht h
 .exact⟨_,[],rfl,Hm.Rd.nil _ _ _ _,aC,⟨Z,0,rfl⟩,λa h=>by cases h⟩
 simp only[if_true]at hm;subst hm;rw[hk]at hx
 have I:0<m->a.spot=Z:=λh0=>by
  obtain⟨cs',h1,_⟩:=hx 0 h0;obtain⟨_,R,hc⟩:=World.cells?_some h1;have Y:=hc 0 J;rw[aO aA]at Y;unfold World.cell? at Y;split at Y
  .split at Y
   .cases Y
   .rename_i af;have e:(a.add (0*k)).add 0=a:=by simp[Addr.add]
    rw[e]at af;simpa using af
  .cases Y
 have ac:∀i,i<m->∃(z:α)(cs':List aD),cs'.length=k/\(∀j,j<k->W.cell? ⟨a.block,a.off+i*k+j,Z⟩=cs'[j]?)/\cs'=f z/\B z (D i):=by
  intro i hi;obtain⟨cs',h1,h2⟩:=hx i hi;obtain⟨_,R,hc⟩:=World.cells?_some h1;obtain⟨z,hz,hB⟩:=ag n cs' _ h2;have hs:=I aA;refine⟨z,cs',R,λj hj=>?_,hz,hB⟩;have:=hc j hj;rw[add_add a hs,add_add _ rfl]at this;exact this
 obtain⟨l,R,hq⟩:=Rz (α:=α) (Q:=λi z=>∃cs':List aD,cs'.length=k/\(∀j,j<k->W.cell? _=cs'[j]?)/\cs'=f z/\B z _) len λi hi=>ac i aA
 have E:Rows.uptoBulkAll ((iv len).map D)<=Rows.uptoBulk (H:=H) (.slice ((iv len).map D) ((iv (m-len)).map λj=>D (len+j))):=by
  simp only[Rows.uptoBulk];omega
 refine⟨_,l,rfl,?_,?_,⟨M a,m,by rw[R]⟩,λz hz=>?_⟩
 .rw[R]
  have key:∀j u,(l.flatMap f)[j]? =M u->W.cell? ⟨a.block,a.off+j,Z⟩=M u:=λj u hj=>by
   have aa:=(aN.1 hj).1;rw[Hm.mQ f k hf,R]at aa;have hi:=(Nat.div_lt_iff_lt_mul J).2 aa;have hr:j%k<k:=Nat.mod_lt _ J;have ah:j=j/k*k+j%k:=by have:=Nat.div_add_mod j k;rw[Nat.mul_comm]at this;omega
   have hz:l[j/k]? =M l[j/k]:=aO aA;obtain⟨cs',c1,c2,c3,_⟩:=hq _ _ hz;have ae:=Hm.flat_get f k hf l _ _ _ hz hr;rw[<-ah,hj,<-c3]at ae;rw[show a.off+j=a.off+j/k*k+j%k by omega,c2 (j%k) hr];exact ae.symm
  refine⟨by rw[Hm.mQ f k hf,R],_,m,rfl,ai,λh0=>⟨_,_,?_,?_,key⟩⟩
  .have hs:=I aA;obtain⟨b,o,sp⟩:=a;simp only at hs;subst hs;rfl
  .have aj:0<(l.flatMap f).length:=by rw[Hm.mQ f k hf,R];exact Nat.mul_pos h0 J
   have:=key 0 _ (aO aj);unfold World.cell? at this;split at this
   .grind
   .cases this
 .rw[R];have:=JK ((iv len).map D);rw[bC,List.length_range]at this;exact bH this E
 .obtain⟨i,hi⟩:=jw.1 hz;obtain⟨_,_,_,_,hB⟩:=hq i z hi;have ak:=(aN.1 hi).1;exact⟨_,hB,bH (Lr (bM.2 ⟨i,gV.2 aA,rfl⟩)) E⟩
end
section
variable {H:Type}{enc:cH×aD->H}{W:X}{held:Bool}{fuel:Nat}{cs:List aD}{x:DataW H×List MemPlace}
theorem aa4(s:ByteArray):bE s=nT s.data.toList:=by simp[nT]
theorem Ir{k:IntKind}{n:Int}(hk:k=dT)(h:(Lit.int k n).wf=bB):∃m:Nat,n=m:=by subst hk;refine⟨n.toNat,?_⟩;have z:IntKind.u32.min=0:=rfl;simp only[Lit.wf,dF,Z3]at h;omega
theorem open_strs(h:fX enc U W 0 (λ_=>bB) held fuel 26 cs=M x):∃v l,cs=[v]/\qH W v l/\l.length<=Rows.uptoBulk x.1:=by
 obtain⟨v,l,E,h2,h3,_,_⟩:=IL Tryz.underlying26 yL aA h (λs=>[nT s]) (λ_=>rfl) (λ_ _=>True) (λn cs' y z=>by
  obtain⟨s,rfl,rfl,_⟩:=DataW.trod_string eI z;exact⟨s.data.toList,by rw[<-aa4],trivial⟩)
 refine⟨v,l,E,?_,h3⟩;have e:∀l:List (List UInt8),l.flatMap (λs=>[nT s])=l.map nT:=λl=>by induction l with|nil=>rfl|cons a l ih=>simp[ih]
 unfold qH;rw[<-e l];exact h2
theorem XL(h:fX enc U W 0 (λ_=>bB) held fuel 25 cs=M x):∃v l,cs=[v]/\yc W v l/\l.length<=Rows.uptoBulk x.1:=by
 obtain⟨v,l,J,h2,h3,_,_⟩:=IL Tryz.underlying25 MV aA h oO (λ_=>rfl) (λ_ _=>True) (λn cs' y hy=>by
  obtain⟨y0,y1,y2,n',rfl,z,R,J,h2⟩:=Go.Deep.trod_struct3 Tryz.underlying125 hy;rw[MV]at z
  match cs',z with
  |[c0,c1,c2],_=>
  simp only[Gj,yL]at R J h2;obtain⟨m0,E,rfl,w0⟩:=eZ lm R;obtain⟨m1,I,rfl,w1⟩:=eZ lm J;obtain⟨s,hs,rfl,_⟩:=DataW.trod_string eI h2;simp at E I hs;subst E I hs;obtain⟨Y,rfl⟩:=Ir rfl w0;obtain⟨k1,rfl⟩:=Ir rfl w1;exact⟨⟨Y,k1,s.data.toList⟩,by simp[oO],trivial⟩)
 exact⟨v,l,J,h2,h3⟩
theorem trod_struct4(ht:Tryz.prog.underlying t=M (.struct #[f0,f1,f2,f3]))(h:fX enc U W b sp held fuel t cs=M x):∃z I R E n,x=(.agg [z.1,I.1,R.1,E.1],z.2++(I.2++(R.2++E.2)))/\cs.length=Tryz.prog.cellsOf t/\fX enc U W b sp held n f0.type ((cs.drop f0.offset).take (Tryz.prog.cellsOf f0.type))=M z/\fX enc U W b sp held n f1.type ((cs.drop f1.offset).take (Tryz.prog.cellsOf f1.type))=M I/\fX enc U W b sp held n f2.type ((cs.drop f2.offset).take (Tryz.prog.cellsOf f2.type))=M R/\fX enc U W b sp held n f3.type ((cs.drop f3.offset).take (Tryz.prog.cellsOf f3.type))=M E:=by
 obtain⟨xs,n,_,rfl,hl,J,Y⟩:=DataW.trod_struct ht h
 match xs,J with
 |[z,I,R,E],_=>exact⟨z,I,R,E,n,aC,hl,by simpa using Y 0 f0 rfl,by simpa using Y 1 f1 rfl,by simpa using Y 2 f2 rfl,by simpa using Y 3 f3 rfl⟩
theorem Iq{E I J:Field}(ht:Tryz.prog.underlying t=M (.struct #[f0,f1,f2,f3,E,I,J]))(h:fX enc U W b sp held fuel t cs=M x):∃Y y1 y2 y3 y4 y5 y6 n,x.2=Y.2++(y1.2++(y2.2++(y3.2++(y4.2++(y5.2++(y6.2))))))/\cs.length=Tryz.prog.cellsOf t/\fX enc U W b sp held n f0.type ((cs.drop f0.offset).take (Tryz.prog.cellsOf f0.type))=M Y/\fX enc U W b sp held n f1.type ((cs.drop f1.offset).take (Tryz.prog.cellsOf f1.type))=M y1/\fX enc U W b sp held n f2.type ((cs.drop f2.offset).take (Tryz.prog.cellsOf f2.type))=M y2/\fX enc U W b sp held n f3.type ((cs.drop f3.offset).take (Tryz.prog.cellsOf f3.type))=M y3/\fX enc U W b sp held n E.type ((cs.drop E.offset).take (Tryz.prog.cellsOf E.type))=M y4/\fX enc U W b sp held n I.type ((cs.drop I.offset).take (Tryz.prog.cellsOf I.type))=M y5/\fX enc U W b sp held n J.type ((cs.drop J.offset).take (Tryz.prog.cellsOf J.type))=M y6:=by
 obtain⟨xs,n,_,rfl,hl,R,z⟩:=DataW.trod_struct ht h
 match xs,R with
 |[Y,y1,y2,y3,y4,y5,y6],_=>exact⟨Y,y1,y2,y3,y4,y5,y6,n,aC,hl,by simpa using z 0 f0 rfl,by simpa using z 1 f1 rfl,by simpa using z 2 f2 rfl,by simpa using z 3 f3 rfl,by simpa using z 4 E rfl,by simpa using z 5 I rfl,by simpa using z 6 J rfl⟩
theorem zK(h:fX enc U W b sp held fuel 24 cs=M x):∃c:Cf,cs=(jF c).toList/\x.2=[]:=by
 obtain⟨y0,y1,y2,y3,y4,y5,y6,n,z,hl,Y,k1,k2,J,k4,k5,k6⟩:=Iq Tryz.underlying24 h;rw[Jc]at hl
 match cs,hl with
 |[c0,c1,c2,c3,c4,c5,c6],_=>
 simp only[Gj,zk]at Y k1 k2 J k4 k5 k6;obtain⟨m0,E,rfl,w0⟩:=eZ lm Y;obtain⟨m1,e1,rfl,w1⟩:=eZ lm k1;obtain⟨m2,e2,rfl,w2⟩:=eZ gN k2;obtain⟨m3,e3,rfl,w3⟩:=eZ gN J;obtain⟨m4,e4,rfl,w4⟩:=eZ gN k4;obtain⟨m5,I,rfl,w5⟩:=eZ gN k5;obtain⟨m6,R,rfl,w6⟩:=eZ gN k6;simp at E e1 e2 e3 e4 I R;subst E e1 e2 e3 e4 I R;obtain⟨q0,rfl⟩:=Ir rfl w0;obtain⟨q1,rfl⟩:=Ir rfl w1;exact⟨⟨q0,q1,m2,m3,m4,m5,m6⟩,rfl,z⟩
end
theorem aea:((((begin U (λ_ _=>0) default).world.heap[1]?).bind Obj.row?).map (·.2))=M 249:=XN
theorem Yd:2<=Tryz.prog.globals.size:=Z2 XN
theorem NZ:Tryz.prog.globals.size<(begin U (λ_ _=>0) default).world.heap.size:=Z2 XN
theorem adP{W:X}(h:W.ShapedOpen U):Tryz.prog.globals.size<=W.heap.size:=by
 obtain⟨o,_,z,_⟩:=h.2 _ jB NZ;have:=(jE z)
 omega
theorem Xt{f:o6}{fn:Func}{c:Code}{tm:Array aD}(z:Tryz.prog.funcs[f]? =M fn)(E:DC f=bB)(I:fn.body=M c):tZ (qe Tryz.prog.funcs D) ((base f).at ⟨tm,[]⟩ [.code c]):=by
 refine⟨λi J=>?_,λd hd=>(by cases hd),rfl⟩;obtain rfl:i=.code c:=by simpa[Frame.at]using J
 rewrite [Fj]
 have:=(Q5 E z).2;rw[I]at this;exact this
section
variable {W:X}
theorem nZ(a:Addr):(hush W).cell? a=W.cell? a:=by
 unfold World.cell? hush;rw[iH];cases h:W.heap[a.block]? with
 |none=>rfl
 |some o=>cases o<;>rfl
theorem Ji{s n:Nat}{v:aD}{xs:List aD}(h:Rd W s v n xs):Rd (hush W) s v n xs:=by obtain⟨E,a,cap,e,h2,h3⟩:=h;refine⟨E,a,cap,e,h2,λI=>?_⟩;obtain⟨g,off,R,z,hc⟩:=h3 I;exact⟨g,off,R,by simpa[hush]using z,λj u J=>(nZ _).trans (hc j u J)⟩
theorem MZ(h:W.ShapedOpen U)(E:lJ W):qM (hush W):=by
 refine⟨⟨⟨(nZ _).trans E.1.1,(nZ _).trans E.1.2.1,(nZ _).trans E.1.2.2⟩,⟨(nZ _).trans E.2.1,(nZ _).trans E.2.2.1,(nZ _).trans E.2.2.2⟩⟩,?_⟩;have:=aea;cases e:(((begin U (λ_ _=>0) default).world.heap[1]?).bind Obj.row?)with
 |none=>grind
 |some z=>
  obtain⟨zero,t⟩:=z;rw[e]at this;simp only[cO,aK]at this;obtain⟨cs,I,_⟩:=h.1 1 zero t (by have:=Yd;omega) e;subst this;exact⟨_,_,_,Qu I rfl,aB,aB,aB,aB,aB⟩
theorem TR{post:aD->X->Prop}{w' y:X}(hc:jL (λ_=>False) (hush W) w')(hw:WP (qe Tryz.prog.funcs D) w' y)(hk:Keep (qe Tryz.prog.funcs D) ⟨yZ W,W,post⟩ y):Go.RowKit.Below W.heap.size W { y with tape:=W.tape }:=by
 refine⟨hk.os,rfl,hk.output,hk.size,λk I=>?_⟩;by_cases z:yZ W k
 .exact(hk.dead k z).2
 .have R:¬(qe Tryz.prog.funcs D).D k:=λh=>z (hk.old k h I);have Y:(hush W).heap.size=W.heap.size:=by simp[hush]
  have J:=(hw.out k R).trans (hc.block k (by rw[Y];exact I) (λe=>e));refine J.trans ?_;cases E:W.heap[k]? with
  |none=>grind
  |some o=>exact Qu E (Bool.eq_false_iff.2 λe=>z ⟨o,E,e⟩)
end
end
end Pa
section
open Go Go.Conc
section
variable {s:OpenSpec}{p:Pinned}{c:OpenClaim}
section
variable {H:Type}{enc:cH×aD->H}
theorem rV{a:Assume}{C:Checked}{os:Os}{f:o6}{fn:Func}{F:Stop.Interp}{J:List PathCond}{apart fresh E again:Bool}{laid:List (String×DataW Unit)}(own:ownKnob C.prog.godebug=Z)(I:os.Started)(ah:C.prog.funcs[f]? =M fn)(R:∃(w:X)(tape:Tape)(i:Input),w.os=os/\(w.forCall tape i).Shaped C.prog/\i.vars=[]/\Input.okWide C.prog (w.forCall tape i) .any w.heap.size f i/\s.preRow enc C.prog fn J apart laid (w.forCall tape i).memory i.args/\a.holds C.prog (lone (iz C.prog f i.args .normal) [] (w.forCall tape i)))(runs:∀(W:X)(base:Nat)(args:Array aD)(ds gs:List (DataW H))(z:List MemPlace),(∀(j:Nat) t v,fn.params[j]? =M t->args[j]? =M v->Value.okWide C.prog W .any base t v)->DataW.Whole enc C.prog fn.params.toList s.vars apart W args.toList ds gs z->(∀k,s.cond=M k->k H (ds++gs)=bB)->laidMetH C.prog laid W->W.ShapedOpen C.prog->∃XS last o w' t',runNT C.prog (XS+1) (solo (G (iz C.prog f args .normal) []) W) #[]=(.ended o w',t')/\runN C.prog XS (solo (G (iz C.prog f args .normal) []) W)=.next last/\step C.prog last=.ended o w'/\Conc.Good C.prog (λv W'=>(s.at F).post enc C.prog fn apart fresh E again W args v W') last o w' t'):ReturnsInLeavingWide a C os f .any (s.preRow enc C.prog fn J apart laid) ((s.at F).post enc C.prog fn apart fresh E again):=by
 refine returnsInLeavingWide_of_good own I R ?_;intro w tape i _ ag _ af ac _;obtain⟨_,_,_,ai,aa,_,_,_,_,Y⟩:=af;have e:=fC (aa.symm.trans ah);subst e;obtain⟨⟨hp,hl⟩,hz⟩:=ac;obtain⟨ds,gs,z,hw,hc,hk⟩:=OpenSpec.pre_parts hp;have ae:=DataW.Whole.of_heap (w':=w.forCall tape i) (by rfl) hw;obtain⟨XS,last,o,w',t',h1,h2,h3,h4⟩:=runs _ _ _ ds gs z Y ae hk (hl.of_heap (by rfl)) ag;exact⟨XS,last,o,w',t',h1,h2,h3,h4.mono λv hp=>ChangeSpec.post_blind hp⟩
end
theorem tY(f:o6)(fn:Func)(hn:c.program=p.name)(hs:c.sum=p.sum)(a9:c.spec=s.name)(z:c.start=.entering)(E:c.outside=[])(ay:c.inits=[])(a4:c.under=Z)(au:c.initsInPlace=[]/\c.initsUnfollowed=aR/\c.initsRecurse=aR/\c.initsNamed=[]/\c.initsPassed=[])(ak:c.noBlocks=aR)(bg:c.leaving=bB)(aa:c.followed=Z)(ai:c.narrowed=s.cond.isSome)(J:c.still=aR)(ba:p.checked.prog.funcNamed c.func=M f)(hf:p.checked.prog.funcs[f]? =M fn)(I:joinedFacts p.checked.prog f fn s.bare c=bB)(Y:fn.isInstance p.checked.prog c.origin c.targs)(R:fn.isWrapper p.checked.prog c.wrapper c.mainSum)(h:∀os:Os,os.Started->∀(H:Type)(enc:cH×aD->H),(∀a b,enc a=enc b->a=b)->∀F:Stop.Interp,ReturnsInLeavingWide c.assume p.checked os f .any (c.pre enc p.checked.prog fn s) ((s.at F).post enc p.checked.prog fn c.apart c.fresh c.handsOn c.again)):c.holds p s:=by
 simp only[joinedFacts,dF,YY,Array.all_eq_true_iff_forall_mem,fF,Z3]at I;obtain⟨⟨⟨⟨⟨⟨⟨⟨⟨⟨⟨⟨⟨⟨⟨⟨⟨⟨⟨⟨⟨⟨⟨⟨⟨⟨⟨⟨⟨⟨⟨k1,k2⟩,k3⟩,k4⟩,k5⟩,k6⟩,k7⟩,k8⟩,k9⟩,ar⟩,a5⟩,a6⟩,bh⟩,ap⟩,aq⟩,a3⟩,a1⟩,af⟩,ao⟩,az⟩,av⟩,a7⟩,a0⟩,aj⟩,ac⟩,ah⟩,ae⟩,ag⟩,an⟩,a8⟩,bd⟩,am⟩:=I;have hq:∀os:Os,Stop.quiet p.checked.prog os:=λos k hk=>by rw[k9]at hk;cases hk
 refine⟨k1,hn,hs,a9,k2,k3,by unfold OpenClaim.startFits;rw[z];exact ah,by unfold OpenClaim.startTold;rw[z];exact⟨ay,a4,au⟩,f,fn,ba,hf,⟨k4,az⟩,(λhb=>by rw[ak]at hb;cases hb),by unfold OpenClaim.namedList;rw[aa];exact k5,Y,R,
  k6.trans k7.symm,⟨k8.trans k9.symm,by unfold Program.envWorded;rw[k9];rfl,ac⟩,ar,a5,a6,bh,ap,⟨aq,bd,am⟩,⟨a3,av⟩,⟨a1,a7,an,a8⟩,⟨a0,ae,ag,af⟩,(by rw[E,ai];cases bb:c.shortTexts with|none=>simp|some _=>rw[bb]at aj;cases aj),λn aw=>varReadable_some (ao n aw),
  ⟨_,by unfold OpenClaim.world;rw[E,z];exact WideRow.started_initial,hq _⟩,[],by unfold OpenClaim.lists;rw[aa],λos st _ H enc inj=>?_⟩
 have a2:os.Started:=by unfold OpenClaim.world at st;rw[E,z]at st;exact st
 rw[OpenClaim.post_not_still J];unfold OpenClaim.form;rw[z,k6];intro F;have e1:c.okInput=Input.okWide:=by unfold OpenClaim.okInput;rw[ak]
 have e2:c.atReturn p.checked.prog=leavingAtReturn p.checked.prog:=by unfold OpenClaim.atReturn;rw[bg]
 have e3:c.always p.checked.prog []=nothingAlways:=by unfold OpenClaim.always;rw[aa]
 have e4:s.post enc p.checked.prog fn F c.outside c.apart c.fresh c.handsOn c.again=(s.at F).post enc p.checked.prog fn c.apart c.fresh c.handsOn c.again:=by rw[E];rfl
 rw[e1,e2,e3]
 show ReturnsInOpen _ _ _ _ _ _ _ _ (s.post enc p.checked.prog fn F c.outside c.apart c.fresh c.handsOn c.again) _ _
 rw[e4];exact h os a2 H enc inj F ah
theorem Aq(Lk:Looks)(kinds:List LaidKind)(E:Bool)(z:Bool×String)(lk g:Bool)(hc:c.holds p s)(hw:c.wfByText s=bB)(I:c.laidByTextAt Lk p kinds E)(J:c.start=.entering)(R:c.noBlocks=aR/\c.again=aR)(hm:p.checked.prog.mainIs=M (z.1,z.2.toList))(hn:(!z.1&&z.2.isEmpty&&!lk)=aR)(hl:∀f fn,p.checked.prog.funcNamed c.func=M f->p.checked.prog.funcs[f]? =M fn->lk=p.checked.prog.looks []/\∀(j:Nat) t,fn.params[j]? =M t->p.checked.prog.wantsStandIn t=aR)(Y:g=c.goesBy p.checked.prog):Claim7.holds p (.plain s) { stood:={ row:=c,standIns:=[],harness:=z,looks:=lk },kinds:=[],alts:=[],goes:=g,laidByText:=bB,laidKinds:=kinds,laidTests:=E,laidLooks:=Lk }:=by
 have h6:∀r:OpenClaim,Claim7.isSixth { stood:={ row:=r,standIns:=[],harness:=z,looks:=lk },kinds:=[] }=aR:=λr=>by simpa[Claim7.isSixth]using hn
 exact⟨Claim7.tied_new_at Lk kinds E (Claim7.new_of_sixth hc z lk J R hm (h6 c) hl) hw,(λD hD=>by cases hD),I,(λh=>by cases h),Y⟩
end
end
namespace fair
open Go.ChangeShapes Go.WideShapes Go.ChangeAt Go.RowKit Go.Conc Go.Proofs.YtpibpdpedjinhabGreatDoor.Pa
open Hm (jF PU oq kW LJ)
open Dv (X2)
def own:ownKnob Tryz.prog.godebug=Z:=XN
def laidOut:laidOutB U=bB:=XN
def MN:Tryz.prog.cellsOf 37=6:=XN
def UC:Tryz.prog.cellsOf 268=1:=XN
def abS:Tryz.prog.globalNamed "tributary/source.ErrSilent"=M 0:=XN
def O5:(Tryz.prog.globals[ 0 ]?).map (·.type)=M 62:=XN
def star: "*"++ "errors.errorString"= "*errors.errorString":=aB
def abt(u:cH)(h:Tryz.prog.typeName? 3 u=M "*errors.errorString"):u=253:=
 typeName_ptr_named (nm:= "errors.errorString") (by rw[star];kernel_rfl) XN aB u (by rw[star];exact h)
def adk{W:X}(h:laidMet U Rows.fairUptoRow.laid W):∃te xe,W.cell? ⟨0,0,Z⟩=M (.iface te xe):=by obtain⟨a,s,z,_⟩:=laid_sentinel h.tail abS O5 Tryz.underlying62 abt Tryz.underlying253 Tryz.underlying268 rfl rfl eI UC yL;exact⟨_,_,by simpa using World.var?_cell abS z 0⟩
section
variable {H:Type}{enc:cH×aD->H}{W:X}{held:Bool}{fuel:Nat}{cs:List aD}{x:DataW H×List MemPlace}
theorem Dh(h:fX enc U W 0 (λ_=>bB) held fuel 28 cs=M x):∃p:PU,cs=oq p/\(-9223372036854775808<=p.1.time/\p.1.time<=9223372036854775807)/\(Rows.uptoBulk x.1<=4294967296->kW W p.1 p.2.1 p.2.2):=by
 obtain⟨y0,y1,y2,y3,n',rfl,z,J,R,h2,h3⟩:=trod_struct4 Tryz.underlying28 h;rw[zW]at z
 match cs,z with
 |[c0,c1,c2,c3],_=>
 simp only[zk,U6,OM]at J R h2 h3;obtain⟨m0,E,rfl,w0⟩:=eZ gN J;obtain⟨m1,I,rfl,w1⟩:=eZ gN R;obtain⟨vt,lt,Y,t2,b2⟩:=XL h2;obtain⟨vl,ll,e3,t3,b3⟩:=open_strs h3;simp at E I Y e3;subst E I Y e3;simp only[Lit.wf,dF,Z3]at w1;refine⟨(⟨m0,m1,lt,ll⟩,c2,c3),by simp[oq],w1,λhd=>⟨t2,t3,?_,?_⟩⟩
 .simp only[Rows.uptoBulk,Rows.uptoBulkAll]at hd;simp only;omega
 .simp only[Rows.uptoBulk,Rows.uptoBulkAll]at hd;simp only;omega
theorem V9(h:fX enc U W 0 (λ_=>bB) held fuel 29 cs=M x)(hb:Rows.uptoBulk x.1<=4294967296):∃v l a c,cs=[v]/\v=.slice a l.length c/\KR W (.slice a l.length c) l/\l.length<=4294967296:=by
 obtain⟨v,l,J,h2,h3,⟨a,c,hv⟩,h4⟩:=IL Tryz.underlying29 MN aA h LJ.cells (λ_=>rfl) (λo d=>((-9223372036854775808<=o.kind/\o.kind<=9223372036854775807)/\(-9223372036854775808<=o.n/\o.n<=9223372036854775807)/\(-9223372036854775808<=o.u.time/\o.u.time<=9223372036854775807))/\(Rows.uptoBulk d<=4294967296->kW W o.u o.vt o.vl)) (λn cs' y hy=>by
  obtain⟨y0,y1,y2,n',rfl,z,h0,J,h2⟩:=Go.Deep.trod_struct3 Tryz.underlying37 hy;rw[MN]at z
  match cs',z with
  |[c0,c1,c2,c3,c4,c5],_=>
  simp only[zk,zW]at h0 J h2;obtain⟨m0,E,rfl,w0⟩:=eZ gN h0;obtain⟨m1,I,rfl,w1⟩:=eZ gN J;obtain⟨⟨u,vt,vl⟩,hu,ht,aa⟩:=Dh h2;simp only[Lit.wf,dF,Z3]at w0 w1;simp[oq]at E I hu;obtain⟨rfl,rfl,rfl,rfl⟩:=hu;subst E I;refine⟨⟨m0,m1,u,c4,c5⟩,by simp[LJ.cells],⟨w0,w1,ht⟩,λhd=>aa ?_⟩;simp only[Rows.uptoBulk,Rows.uptoBulkAll]at hd;omega)
 refine⟨v,l,a,c,J,hv,⟨by rw[<-hv];exact h2,λo R=>?_,λo R=>?_,λo R=>?_,λo R=>?_⟩,aA⟩
 all_goals obtain⟨d,Y,hd⟩:=h4 o R
 .exact Y.2 aA
 .exact Y.1.1
 .exact Y.1.2.1
 .exact Y.1.2.2
theorem Ru{u:X2}{vt vl:aD}(h:kW W u vt vl):kW (Po.hush W) u vt vl:=⟨Ji h.1,Ji h.2.1,h.2.2⟩
theorem XK{v:aD}{l:List LJ}(h:KR W v l):KR (Po.hush W) v l:=⟨Ji h.rd,λo z=>Ru (h.up o z),h.kd,h.n,h.tm⟩
end
def runs(rd:Cr.ReadW)(H:Type)(enc:cH×aD->H)(W:X)(base:Nat)(args:Array aD)(ds gs:List (DataW H))(Y:List MemPlace)(z:∀(j:Nat) t v,Tryz.f4.params[j]? =M t->args[j]? =M v->Value.okWide U W .any base t v)(hW:DataW.Whole enc U Tryz.f4.params.toList Rows.fairSpec.vars aR W args.toList ds gs Y)(hk:Rows.uptoSmall H (ds++gs)=bB)(hL:laidMetH U Rows.fairUptoRow.laid W)(ao:W.ShapedOpen U):Cr.xM U (λv W'=>Rows.fairSpec.post enc U gF aR bB aR aR W args v W') (solo (G (iz U 4 args .normal) []) W) #[]:=by
 have hL:laidMet U Rows.fairUptoRow.laid W:=hL;have a1:=hW;obtain⟨p,q,aw,hV,rfl,bk,bo⟩:=hW;have hA:DataW.TrodAll enc U W 0 (λ_=>bB) bB Tryz.f4.params.toList args.toList ds p:=aw;rw[Tryz.params4]at hA z;obtain⟨v0,bd,d0,ba,p0,q0,J,rfl,rfl,h0,r0⟩:=trodAll_cons hA;obtain⟨v1,a9,d1,bl,p1,q1,rfl,rfl,rfl,h1,r1⟩:=trodAll_cons r0;obtain⟨v2,bn,d2,bh,p2,q2,rfl,rfl,rfl,h2,r2⟩:=trodAll_cons r1;obtain⟨v3,bm,d3,bj,p3,q3,rfl,rfl,rfl,h3,r3⟩:=trodAll_cons r2;obtain⟨rfl,rfl,rfl⟩:=trodAll_nil r3;obtain rfl:args=#[v0,v1,v2,v3]:=by cases args;simp_all
 obtain⟨rfl,rfl⟩:=trodVars_none hV;have k0:=h0;have k1:=h1;have k2:=h2;have k3:=h3;have aq:∀x∈p0,x.block<W.heap.size:=by obtain⟨m,hm⟩:=k0;exact DataW.trod_lt m _ _ _ hm
 have ar:∀x∈p1,x.block<W.heap.size:=by obtain⟨m,hm⟩:=k1;exact DataW.trod_lt m _ _ _ hm
 have a5:∀x∈p2,x.block<W.heap.size:=by obtain⟨m,hm⟩:=k2;exact DataW.trod_lt m _ _ _ hm
 have ay:∀x∈p3,x.block<W.heap.size:=by obtain⟨m,hm⟩:=k3;exact DataW.trod_lt m _ _ _ hm
 obtain⟨cs,rfl,bb⟩:=okWide_struct Tryz.underlying24 (z 0 24 v0 rfl rfl);obtain⟨ac,rfl,a7⟩:=okWide_struct Tryz.underlying28 (z 1 28 v1 rfl rfl);obtain⟨sa,sn,sc,rfl⟩:=okWide_slice Tryz.underlying29 (z 2 29 v2 rfl rfl);obtain⟨ae,rfl,a8⟩:=okWide_struct Tryz.underlying24 (z 3 24 v3 rfl rfl);obtain⟨f0,a4⟩:=h0;obtain⟨f1,a6⟩:=h1;obtain⟨f2,az⟩:=h2;obtain⟨f3,av⟩:=h3;obtain⟨c,hc,an⟩:=zK a4;simp only at an;subst an
 obtain rfl:cs=jF c:=by
  have:cs.toList=(jF c).toList:=by simpa[Value.cells]using hc
  cases cs
  simp_all
 obtain⟨c3,a0,ag⟩:=zK av;simp only at ag;subst ag
 obtain rfl:ae=jF c3:=by
  have:ae.toList=(jF c3).toList:=by simpa[Value.cells]using a0
  cases ae
  simp_all
 simp only[gI]at hk
 have hb:Rows.uptoBulk d1<=4294967296/\Rows.uptoBulk d2<=4294967296:=by
  have h:Rows.uptoBulkAll [d0,d1,d2,d3]<=1048576:=Z2 hk;simp only[Rows.uptoBulkAll]at h;omega
 have af:=adP ao;obtain⟨⟨u,vt,vl⟩,a2,_,I⟩:=Dh a6;replace I:=I hb.1;obtain⟨ta,tc,aj⟩:=Hm.Rd.slice I.1;obtain⟨la,lc,ak⟩:=Hm.Rd.slice I.2.1;dsimp only at aj ak I;subst aj ak
 obtain rfl:ac=#[N aE u.id,N aE u.time,.slice ta u.txs.length tc,.slice la u.logs.length lc]:=by
  have:ac.toList=oq (u,.slice ta u.txs.length tc,.slice la u.logs.length lc):=by simpa[Value.cells]using a2
  cases ac
  simp_all[oq]
 obtain⟨v,l,sa',bg,hv,ap,ai,ah⟩:=V9 az hb.2;obtain rfl:aM sa sn sc=v:=by simpa[Value.cells]using hv
 simp only[Value.slice.injEq]at ap;obtain⟨rfl,rfl,rfl⟩:=ap;obtain⟨te,xe,a3⟩:=adk hL;refine Cr.PD ?_
 have am:iz U 4 #[.agg (jF c),gR #[N aE u.id,N aE u.time,.slice ta u.txs.length tc,.slice la u.logs.length lc],.slice sa l.length sc,.agg (jF c3)] .normal=(Conc.base 4).at { tmps:=#[.agg (jF c),gR #[N aE u.id,N aE u.time,.slice ta u.txs.length tc,.slice la u.logs.length lc],.slice sa l.length sc,.agg (jF c3)]++Array.replicate 174 undef,defers:=[] } [.code (.seq Hm.Ux (.seq Hm.Ph (.seq Hm.Tc (.seq Hm.O8 (.seq Hm.Om (.seq Hm.OG (.seq Hm.OH (.seq Hm.Og (.seq Hm.Di (.seq (.seq Hm.DK (.block 0 (.loop Hm.tX))) Hm.Zh))))))))))]:=by
  unfold iz;simp only[Tryz.func4,cO,fH,gX,Hm.RQ];rfl
 refine Po.SQ (fr:=iz U 4 #[.agg (jF c),gR #[N aE u.id,N aE u.time,.slice ta u.txs.length tc,.slice la u.logs.length lc],.slice sa l.length sc,.agg (jF c3)] .normal) ?_ ?_
 .rw[am];refine abr rd (te:=te) (xe:=xe) ⟨by simpa[Po.hush]using af,(nZ _).trans a3,MZ ao (YO hL)⟩ (Ru I) (XK ai) ah λD w' y hc hw au=>?_;have E:=TR hc hw au;have J:=trodAll_cons_mk (lw laidOut XN (Z2 XN) k0 E aq) (trodAll_cons_mk (lw laidOut XN (Z2 XN) k1 E ar) (trodAll_cons_mk (lw laidOut XN (Z2 XN) k2 E a5) (trodAll_cons_mk (lw laidOut XN (Z2 XN) k3 E ay) trodAll_mk0)));have aa:∀R,W.keptBut y R:=λR=>⟨(E.frame R).1,(E.frame R).2.1,(E.frame R).2.2⟩
  exact⟨_,_,_,[],_,[],a1,trodAll_mk1 (shut_bool Tryz.underlying4 _),J.of_heap (by rfl),rfl,aa _,λh=>by cases h⟩
 .rw[am];exact Xt Tryz.func4 rfl Hm.RQ
noncomputable def low:Nat:=(World.holding U default ⟨#[],#[],[]⟩).heap.size
noncomputable def laidWorld(os:Os):X:=
 let w0:=World.holding U os ⟨#[.cells #[bE ⟨#[116,104,101,32,117,112,112,101,114,32,99,104,97,105,110,32,100,111,101,115,32,110,111,116,32,97,110,115,119,101,114]⟩] 268],#[],[]⟩
 { w0 with heap:=(w0.heap.modify 1 fun
   |.cells _ t frozen=>.cells #[.bool aR,N .u8 128,N .u8 183,.bool bB,N .u8 192,N .u8 247] t frozen
   |o=>o).modify 0 fun
   |.cells _ t frozen=>.cells #[.iface 253 (.pointer (M ⟨low,0,Z⟩))] t frozen
   |o=>o }
def wcf:aD:=gR #[N dT 0,N dT 0,N aE 0,N aE 0,N aE 0,N aE 0,N aE 0]
def QM:Array aD:=#[wcf,gR #[N aE 0,N aE 0,aM Z 0 0,aM Z 0 0],aM Z 0 0,wcf]
def laid_met(os:Os):laidMet U Rows.fairUptoRow.laid ((laidWorld os).forCall (λ_ _=>0) ⟨#[],QM,[]⟩).memory:=
 laidMet_of_run' 8 XN XN
def reads(os:Os){H:Type}(enc:cH×aD->H):∃z,DataW.whole enc U ((laidWorld os).forCall (λ_ _=>0) ⟨#[],QM,[]⟩).memory Tryz.f4.params.toList Rows.fairSpec.vars aR QM.toList 8=M ([.agg [.lit (.int dT 0),.lit (.int dT 0),.lit (.int aE 0),.lit (.int aE 0),.lit (.int aE 0),.lit (.int aE 0),.lit (.int aE 0)],.agg [.lit (.int aE 0),.lit (.int aE 0),.nil,.nil],.nil,.agg [.lit (.int dT 0),.lit (.int dT 0),.lit (.int aE 0),.lit (.int aE 0),.lit (.int aE 0),.lit (.int aE 0),.lit (.int aE 0)]],[],z):=
 ⟨[],XN⟩
def Qn(rd:Cr.ReadW)(os:Os)(z:os.Started)(H:Type)(enc:cH×aD->H)(F:Stop.Interp):ReturnsInLeavingWide {} Tryz.checked os 4 .any ((Rows.OpenSpec.upto Rows.fairSpec).preRow enc U gF Rows.fairUptoRow.domain aR Rows.fairUptoRow.laid) (((Rows.OpenSpec.upto Rows.fairSpec).at F).post enc U gF aR bB aR aR):=by
 obtain⟨R,hx⟩:=reads os enc
 refine rV (C:=Tryz.checked) (s:=Rows.OpenSpec.upto Rows.fairSpec) own z Tryz.func4
  (witness_row_at (enc:=enc) (C:=Tryz.checked) aR (laidWorld os) QM rfl XN XN XN
   (OpenSpec.preRow_of_cond 8 hx XN (λk hk=>by cases hk;kernel_rfl) XN (laid_met os))) ?_
 intro W base args ds gs E J hW I hL Y;exact runs rd H enc W base args ds gs E J hW (I _ rfl) hL Y
def WZ(rd:Cr.ReadW):Rows.FairUptoSaid:=
 tY 4 gF rfl rfl rfl rfl rfl rfl rfl ⟨rfl,rfl,rfl,rfl,rfl⟩ rfl rfl rfl rfl rfl XN Tryz.func4 XN
  (Z2 XN) (by unfold Func.isWrapper;first|(rw[ZD (by decide+kernel)];kernel_rfl)|(rw[Zs (by decide+kernel)];exact⟨rfl,rfl⟩))
  (λos z H enc _ F=>by rw[OpenClaim.pre_eq_preRow];exact Qn rd os z H enc F)
def plain(f:o6)(fn:Func)(E:Tryz.pinned.checked.prog.funcNamed "tributary/tributarykeep.Fair"=M f)(z:Tryz.pinned.checked.prog.funcs[f]? =M fn):aR=Tryz.pinned.checked.prog.looks []/\∀(j:Nat) t,fn.params[j]? =M t->Tryz.pinned.checked.prog.wantsStandIn t=aR:=by
 obtain rfl:f=4:=fC ((show Tryz.prog.funcNamed "tributary/tributarykeep.Fair"=M 4 by kernel_rfl).symm.trans E) |>.symm;obtain rfl:fn=gF:=(fC (Tryz.func4.symm.trans z)).symm;refine⟨XN,λj t ht=>?_⟩;rw[Tryz.params4]at ht;have ht:t=24\/t=28\/t=29\/t=24:=by simpa using gK ht
 obtain rfl|rfl|rfl|rfl:=ht
 .exact(show Tryz.prog.wantsStandIn 24=aR by kernel_rfl)
 .exact(show Tryz.prog.wantsStandIn 28=aR by kernel_rfl)
 .exact(show Tryz.prog.wantsStandIn 29=aR by kernel_rfl)
 .exact(show Tryz.prog.wantsStandIn 24=aR by kernel_rfl)
end fair
section
theorem fair_card_holds:Rows.FairUptoCardSaid:=
 Aq .later [.data,.sentinel] bB (bB,"7d5f61c6c9d2d66db7fbf1d87820ae0109a4b2c8c83e1950ef460f8e1f0ee1f6") aR bB (fair.WZ Cr.KX) XN fairUpto_row_tie rfl ⟨rfl,rfl⟩ XN rfl fair.plain XN
end
