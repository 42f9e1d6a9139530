import Derived.Test.YtpibpdpedjinhaaGreatDoorP06
import Derived.AtR
import Derived.RangeFuncIn
set_option maxRecDepth 100000
set_option linter.all false
open Go renaming Frame->cU,Value->aD,World->U,execOp->bL,stepG->eB,undef->aE
open Go.CallKind renaming early->oy
open Go.Frame renaming atR->kr
open Go.GStep renaming after->gH
open Go.Instr renaming beginRound->ol,endLoop->oa,endRound->nE,enterLoop->mS,getLoop->kI,takeDeferred->ml
open Go.Item renaming inRegion->cD
open Go.Region renaming wanted->cT
open Go.Sem renaming bind->fY,runT->cN,runT_eq->iu
open Option renaming none->Z,some->M
namespace Go.Proofs.YtpibpdpedjinhaaGreatDoor
namespace Cr
open Go Go.Conc Go.ConcN
open Go.ConcR (Payload DC0)
section
variable {id j l:Nat}{r:Loop}
section
variable {P:Program}{main:Bool}{b:cU}{a:Act}{k:List Item}{cs:List cU}{w w':U}{ops:Array Oper}{i:Nat}{rest:List Nat}{o:Oper}
theorem BD(ho:ops[i]? =M o)(hw:cT o (yielded ops a.tmps)=true)(hd:∀c,o.op≠.defer c):eB P main (G (b.atR a (cD ops (i::rest)::k)) cs) w=stepG.apply P true (b.atR a (cD ops (i::rest)::k)) cs Z (bL a.eval o) w:=by
 have q:=Frame.eval_atR b a (cD ops (i::rest)::k);simp only[kr]at q;simp only[G,eB,stepG.exec,stepG.oper,Frame.oper?,kr,ho,hw,cO,fH,if_true,q]
 grind
theorem finish_atR(v:aD)(ho:ops[i]? =M o):(b.atR a (cD ops (i::rest)::k)).finish v=b.atR (a.put o.dst v) (cD ops rest::k):=by
 cases h:o.dst<;>simp[Frame.finish,kr,ho,Act.put,h]
theorem Oe{v:aD}(ho:ops[i]? =M o)(hw:cT o (yielded ops a.tmps)=true)(hk:b.kind≠.early)(hd:∀c,o.op≠.defer c)(E:(bL a.eval o).run P w=.ok (.value v) w'):eB P main (G (b.atR a (cD ops (i::rest)::k)) cs) w=.go (G (b.atR (a.put o.dst v) (cD ops rest::k)) cs) w' (listed P b.fn a o w):=by
 have q:(b.kind == oy)=false:=by simpa using hk
 rw[BD ho hw hd,<-finish_atR v ho];simp[stepG.apply,iu,E,q,kr,listed,gH,G]
theorem Py(ho:ops[i]? =M o)(hw:cT o (yielded ops a.tmps)=true)(hk:b.kind≠.early)(hd:∀c,o.op≠.defer c)(E:(bL a.eval o).run P w=.ok .skip w'):eB P main (G (b.atR a (cD ops (i::rest)::k)) cs) w=.go (G (b.atR (a.put o.dst aE) (cD ops rest::k)) cs) w' (listed P b.fn a o w):=by
 have q:(b.kind == oy)=false:=by simpa using hk
 rw[BD ho hw hd,<-finish_atR aE ho];simp[stepG.apply,iu,E,q,kr,listed,gH,G]
end
section
variable [Payload]{P:Program}{S:Who}{m:Nat}{St:jZ->Goroutine->U->Prop}{K0:jZ}{w0:U}{L L':List (Nat×Obj)}{b:cU}{a:Act}{k:List Item}{cs:List cU}{ops:Array Oper}{i:Nat}{rest:List Nat}{o:Oper}
theorem Wc.afk{x y:Code}(h:Wc P S m St K0 w0 L (G (b.atR a (.code x::.code y::k)) cs)):Wc P S m St K0 w0 L (G (b.atR a (.code (.seq x y)::k)) cs):=.ctl rfl (λ_=>by simp[G,eB,stepG.exec,kr]) h
theorem Wc.ade{c:Code}(h:Wc P S m St K0 w0 L (G (b.atR a (.code c::.inBlock id::k)) cs)):Wc P S m St K0 w0 L (G (b.atR a (.code (.block id c)::k)) cs):=.ctl rfl (λ_=>by simp[G,eB,stepG.exec,kr]) h
theorem Wc.Wx(h:Wc P S m St K0 w0 L (G (b.atR a k) cs)):Wc P S m St K0 w0 L (G (b.atR a (.inBlock id::k)) cs):=.ctl rfl (λ_=>by simp[G,eB,stepG.exec,kr]) h
theorem Wc.abz(l:List Nat)(q:List.range ops.size=l)(h:Wc P S m St K0 w0 L (G (b.atR a (cD ops l::k)) cs)):Wc P S m St K0 w0 L (G (b.atR a (.code (.region id ops false)::k)) cs):=.ctl (g':=G (b.atR a (cD ops l::k)) cs) rfl (λ_=>by simp[G,eB,stepG.exec,kr,q]) h
theorem Wc.Tf(h:Wc P S m St K0 w0 L (G (b.atR a k) cs)):Wc P S m St K0 w0 L (G (b.atR a (cD ops []::k)) cs):=.ctl rfl (λ_=>by simp[G,eB,stepG.exec,kr]) h
theorem Wc.opR(ho:ops[i]? =M o)(hw:cT o (yielded ops a.tmps)=true)(hk:b.kind≠.early)(hd:∀c,o.op≠.defer c)(h:∀w,Lies L w0.heap.size w->∃v w' L',((bL a.eval o).run P w=.ok (.value v) w'\/(bL a.eval o).run P w=.ok .skip w'/\v=aE)/\Turn L L' w w' (listed P b.fn a o w)/\Wc P S m St K0 w0 L' (G (b.atR (a.put o.dst v) (cD ops rest::k)) cs)):Wc P S m St K0 w0 L (G (b.atR a (cD ops (i::rest)::k)) cs):=
 .step rfl λw I=>by
  obtain⟨v,w',L',q,ht,E⟩:=h w I;obtain q|⟨q,rfl⟩:=q
  .exact⟨_,w',_,L',Oe ho hw hk hd q,ht,E⟩
  .exact⟨_,w',_,L',Py ho hw hk hd q,ht,E⟩
omit [Payload] in
theorem FW{r X1 E:Nat}{ob:Obj}{es:Array Event}(h:L[j]? =M (r,ob))(q:∀e∈es,e.loc=.obj r/\e.sync=false):∀e∈es,EvA L X1 E e:=λe k=>by
 obtain⟨J,wr,Y⟩:=e;obtain⟨I,h2⟩:=q _ k;cases I;cases h2;exact .inr (.inl ⟨r,wr,rfl,.inl ⟨_,aX h,rfl⟩⟩)
omit [Payload] in
theorem oK{w:U}{p:Nat×Obj}(h:Lies L w0.heap.size w)(q:L[j]? =M p):w.heap[p.1]? =M p.2:=(h.mem p (aX q)).2
theorem Wc.begin(I:L[j]? =M (l,.loop r))(hr:r.state=.ready)(Y:b.roundOf=M l)(hk:b.kind≠.early)(h:Wc P S m St K0 w0 (L.set j (l,.loop { r with state:=.busy })) (G (b.atR a k) cs)):Wc P S m St K0 w0 L (G (b.atR a (.beginRound::k)) cs):=
 .step rfl λw hl=>by
  have q:=oK hl I;have h2:=run_beginRound (P:=P) (w:=w) q hr;have E:(b.kind == oy)=false:=by simpa using hk
  refine⟨_,_,seen P b.fn ((ol l).events P w #[]),_,?_,.put hl I λe J=>FW I ?_ e (mem_seen J),h⟩
  .simp[G,eB,stepG.exec,stepG.apply,kr,Y,iu,h2,E,gH,Frame.finish]
  .have q:w.heap[l]? =M (.loop r):=q;intro e J;simp[-iu,Sem.events,ol,kI,getObj,setObj,bind,fY,pure,cN,q,hr,Obj.isChan]at J
   grind
theorem Wc.agM{c:cU}(I:L[j]? =M (l,.loop r))(J:b.roundOf=M l)(hk:b.kind=.normal)(h:Wc P S m St K0 w0 (L.set j (l,.loop { r with state:=.ready,pending:=Z })) (G (c.finish (.bool true)) cs)):Wc P S m St K0 w0 L (G (b.atR a []) (c::cs)):=
 .step rfl λw Y=>by
  have q:=oK Y I;have h2:=run_endRound (P:=P) (w:=w) Z q;refine⟨_,_,seen P b.fn ((nE l Z).events P w #[]),_,?_,.put Y I λe E=>FW I ?_ e (mem_seen E),h⟩
  .simp[G,eB,stepG.exec,kr,J,iu,h2,doReturn,hk,gH]
  .have q:w.heap[l]? =M (.loop r):=q;intro e E;simp[-iu,Sem.events,nE,kI,getObj,setObj,bind,fY,pure,cN,q,Obj.isChan]at E
   grind
theorem Wc.over(I:L[j]? =M (l,.loop r))(Y:r.state≠.busy)(hp:r.pending=Z)(h:Wc P S m St K0 w0 (L.set j (l,.loop { r with state:=.exhausted })) (G (b.at a k) cs)):Wc P S m St K0 w0 L (G (b.at a (.endRangeFunc l::k)) cs):=
 .step rfl λw J=>by
  have q:=oK J I;have h2:=run_endLoop (P:=P) (w:=w) q Y;rw[hp]at h2;refine⟨_,_,seen P b.fn ((oa l).events P w #[]),_,?_,.put J I λe E=>FW I ?_ e (mem_seen E),h⟩
  .simp[G,eB,stepG.exec,Frame.at,iu,h2,hp,gH]
  .have q:w.heap[l]? =M (.loop r):=q;intro e E;simp[-iu,Sem.events,oa,kI,getObj,setObj,bind,fY,pure,cN,q,Y,Obj.isChan]at E
   grind
theorem Wc.takes{d:Nat}{fr:cU}{ds:List Deferred}(E:L[j]? =M (d,.deferred (M [])))(Y:fr.mode=.returning)(hd:fr.defers={ target:=.collected d,args:=#[] }::ds)(h:Wc P S m St K0 w0 (L.set j (d,.deferred Z)) (G { fr with defers:=ds } cs)):Wc P S m St K0 w0 L (G fr cs):=
 .step rfl λw J=>by
  have q:=oK J E;have h2:=run_takeDeferred (P:=P) (w:=w) q;refine⟨_,_,seen P fr.fn ((ml d).events P w #[]),_,?_,.put J E λe I=>FW E ?_ e (mem_seen I),h⟩
  .simp[G,eB,unwind,Y,hd,iu,h2,gH]
  .have q:w.heap[d]? =M (.deferred (M [])):=q;intro e I;simp[-iu,Sem.events,ml,getObj,setObj,bind,fY,pure,cN,q,Obj.isChan]at I
   grind
theorem Wc.yield{y:Operand}{xs:Array Operand}{aa:Array TypeId}(hj:L[j]? =M (l,.loop r))(ho:ops[i]? =M o)(hw:cT o (yielded ops a.tmps)=true)(hk:b.kind≠.early)(J:o.op=.call { callee:=.value y,args:=xs,argTypes:=aa })(hy:a.eval y=.func (.yield l) #[] #[])(hs:xs.size=r.params.size)(h:Wc P S m St K0 w0 L (G (Frame.round l r.fn ((r.params.zip (xs.map a.eval)).foldl (λtmps (t,a)=>tmps.setIfInBounds t a) r.tmps) r.assign r.body .normal) (b.at a (cD ops (i::rest)::k)::cs))):Wc P S m St K0 w0 L (G (b.at a (cD ops (i::rest)::k)) cs):=
 .step rfl λw hl=>by
  have E:=oK hl hj;have h2:=run_yield (P:=P) (w:=w) (args:=xs.map a.eval) E (by simpa using hs);have Y:(b.kind == oy)=false:=by simpa using hk
  have q:bL a.eval o=Instr.yield l (xs.map a.eval):=by
   unfold bL;simp only[J,resolve,hy];simp[Deferred.ofValue,invoke]
  refine⟨_,w,listed P b.fn a o w,L,?_,.still hl λe I=>FW hj ?_ e (mem_listed I),h⟩
  .rw[stepG_oper ho hw];simp[stepG.apply,q,iu,h2,Y,Frame.at,listed,gH,G]
  .have E:w.heap[l]? =M (.loop r):=E;intro e I;rw[q]at I;have ab:¬(xs.map a.eval).size≠r.params.size:=by simpa using hs
   simp[-iu,Sem.events,Instr.yield,kI,getObj,bind,fY,pure,cN,E,hs,Obj.isChan]at I
   grind
theorem Wc.range{t:Tmp}{ps:Array Tmp}{assign body:Code}{f:FuncId}{fn:Func}{c:Code}{cap:Array aD}(hg:a.tmps[t]? =M (.func (.func f) #[] cap))(hf:P.funcs[f]? =M fn)(I:(fn.name == "runtime.NumGoroutine")=false)(hb:fn.body=M c)(h:∀n,Wc P S m St K0 w0 ((n+1,.loop { state:=.ready,pending:=Z,fn:=b.fn,tmps:=a.tmps,params:=ps,assign,body,defers:=n })::(n,.deferred (M []))::L) (G ((base f).at { tmps:=#[.func (.yield (n+1)) #[] #[]]++cap++Array.replicate (fn.ntmps-(#[.func (.yield (n+1)) #[] #[]]++cap:Array aD).size) aE,defers:=[] } [.code c]) (b.at { a with defers:={ target:=.collected n,args:=#[] }::a.defers } (.inRangeFunc (n+1)::k)::cs))):Wc P S m St K0 w0 L (G (b.at a (.code (.rangeFunc (.tmp t) ps assign body)::k)) cs):=
 .step rfl λw Y=>by
  obtain⟨q,h1⟩:∃q,q=Obj.deferred (M []):=⟨_,rfl⟩
  obtain⟨E,h2⟩:∃E,E=Obj.loop { state:=.ready,pending:=Z,fn:=b.fn,tmps:=a.tmps,params:=ps,assign,body,defers:=w.heap.size }:=⟨_,rfl⟩
  have hz:((w.alloc q).alloc E).heap.size=w.heap.size+2:=aC
  have hold:∀x,x<w.heap.size->((w.alloc q).alloc E).heap[x]? =w.heap[x]?:=λx hx=>by
   show((w.heap.push q).push E)[x]? =w.heap[x]?
   grind
  have aa:((w.alloc q).alloc E).heap[w.heap.size]? =M q:=by
   show((w.heap.push q).push E)[w.heap.size]? =M q
   rw[Array.getElem?_push_lt aC];simp
  have ac:((w.alloc q).alloc E).heap[w.heap.size+1]? =M E:=by
   have:=World.alloc_heap_new (w.alloc q) E;simpa using this
  refine⟨_,(w.alloc q).alloc E,#[],_,?_,⟨rfl,rfl,rfl,aA,λx hx _=>hold x hx,λp hp=>?_,?_,λe he=>by simp at he⟩,h w.heap.size⟩
  .have he:=run_enterLoop_outer (P:=P) (w:=w) b.fn a.tmps ps assign body;have ab:(mS b.fn a.tmps ps assign body Z).events P w #[]=#[]:=by simp[-iu,Sem.events,mS,newObj,bind,fY,pure,cN]
   have k1:¬fn.name= "runtime.NumGoroutine":=by simpa using I
   have J:=Frame.eval_at' b { a with defers:={ target:=.collected w.heap.size,args:=#[] }::a.defers } (.inRangeFunc (w.heap.size+1)::k);simp only[Frame.at]at J;simp[G,eB,stepG.exec,Frame.at,iu,he,ab,stepG.apply,resolve,J,hg,Act.eval,Deferred.ofValue,invoke,callFunc,hf,k1,hb,Frame.enter,base,gH,seen,h1,h2]
  .obtain rfl|hp:=dD.1 hp
   .exact⟨.inr ⟨aC,by simp only;omega⟩,by rw[<-h2];exact ac⟩
   obtain rfl|hp:=dD.1 hp
   .exact⟨.inr ⟨jE,by simp only;omega⟩,by rw[<-h1];exact aa⟩
   .exact⟨.inl ⟨p,hp,rfl⟩,(hold _ (Y.lt hp)).trans (Y.mem p hp).2⟩
  .refine List.pairwise_cons.2 ⟨λp hp=>?_,List.pairwise_cons.2 ⟨λp hp=>iQ (Y.lt hp),Y.ord⟩⟩;obtain rfl|hp:=dD.1 hp
   .omega
   .exact iQ (Nat.lt_succ_of_lt (Y.lt hp))
end
end
end Cr
