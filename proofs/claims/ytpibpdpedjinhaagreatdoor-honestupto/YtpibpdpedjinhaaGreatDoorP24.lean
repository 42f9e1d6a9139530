import Derived.Test.YtpibpdpedjinhaaGreatDoorP23
import Derived.Shelf.Strconv.Itoa0
set_option maxRecDepth 100000
set_option maxHeartbeats 1000000
set_option linter.all false
open Bool renaming false->aL,true->bB
open Go renaming Calls->eE,Value->aD,World->U,bodyPost_ret->cM,heap_alloc_new->cX
open Go.Ending renaming returned->bX
open Go.IntKind renaming i64->X,u64->px,wrap_u64->pZ
open Go.Lib renaming OthersKept->o3
open Go.Obj renaming cells->aG
open Go.RowKit renaming Hid->cS
open Go.Value renaming agg->gP,bool->cF,int->N,ownBlock->eA,pointer->aM,slice->aR,string->aH,tuple->dC
open List renaming drop_eq_getElem_cons->ju,getElem_mem->pm,take_append_drop->p7
open Option renaming none->Z,some->M
open UInt8 renaming ofNat->cQ
namespace Go.Proofs.YtpibpdpedjinhaaGreatDoor
section
open Go.RowKit Go.Joins Go.Shelf
def afx:Go.Shelf.Ren:=⟨fun|129=>225|n=>n,fun|3=>3|4=>4|5=>5|9=>9|46=>154|53=>207|n=>n,fun|n=>n⟩
def lays129:Go.Proofs.Lays.n129 PQ afx:={
 mixed:=XN
 f129:=(fq Tryz.func225 rfl).trans (Z1 M XN)
 t3:=(uq Tryz.underlying3)
 a3:=(qp Tryz.isAgg3)
 z3:=(oO Tryz.sizeOf3)
 v3:=(qj Tryz.zeroValue3)
 t4:=(uq Tryz.underlying4)
 a4:=(qp Tryz.isAgg4)
 z4:=(oO Tryz.sizeOf4)
 v4:=(qj Tryz.zeroValue4)
 t5:=(uq Tryz.underlying5)
 a5:=(qp Tryz.isAgg5)
 z5:=(oO Tryz.sizeOf5)
 v5:=(qj Tryz.zeroValue5)
 t9:=(uq Tryz.underlying9)
 a9:=(qp Tryz.isAgg9)
 z9:=(oO Tryz.sizeOf9)
 v9:=(qj Tryz.zeroValue9)
 t46:=(uq Tryz.underlying154)
 a46:=(qp Tryz.isAgg154)
 z46:=(oO Tryz.sizeOf154)
 v46:=(qj Tryz.zeroValue154)
 t53:=(uq Tryz.underlying207)
 a53:=(qp Tryz.isAgg207)
 z53:=(oO Tryz.sizeOf207)
 v53:=(qj Tryz.zeroValue207) }
def aft(n:Nat)(w:U)(h:n<4294967296):eE PQ 225 #[N px n] w λe w'=>e=bX (N X (Lib.bitLen n))/\w'=w:=
 Any.bits_Len64 (ρ:=afx) lays129 (n:Int) w aA aA
def He(n:Nat)(w:U)(h:n<4294967296):eE PQ 215 #[N px n] w λe w'=>e=bX (N X (Im.wid n))/\w'=w:=by have q:=Im.XO n h;have I:=Lib.bitLen_le n 32 aA aA;go_enter (fq Tryz.func215 rfl),Tryz.ntmps215;go_wp2_with fail;refine(aft n _ h).mono ?_;rintro e w1 ⟨rfl,rfl⟩;generalize Lib.bitLen n=L at *;have E:cS _:=q;clear q;go_wp2_with fail;go_ret;rw[<-E.out];exact⟨by congr 2,rfl⟩
def zi(n:Nat)(w:U)(h:n<4294967296):eE PQ 188 #[N px n] w λe w'=>e=bX (N px ((if n<=55 then 1 else 1+Im.wid n:Nat):Int))/\w'=w:=by
 have hw:=Im.qg n;by_cases q:n<=55
 .have E:(n:Int)<=55:=by omega
  rw[ZD q];go_enter (fq Tryz.func188 rfl),Tryz.ntmps188;go_wp2_with fail;go_ret;exact⟨rfl,rfl⟩
 .have E:¬(n:Int)<=55:=by omega
  rw[Zs q];go_enter (fq Tryz.func188 rfl),Tryz.ntmps188;go_wp2_with fail;refine(He n _ h).mono ?_;rintro e w1 ⟨rfl,rfl⟩;generalize hk:Im.wid n=k at *;have I:cS _:=hk;clear hk;go_wp2_with fail;go_ret;rw[I.out];exact⟨by congr 2,rfl⟩
def tY(s:ByteArray)(w:U)(ac:s.size<=2097152):eE PQ 191 #[aH s] w λe w'=>e=bX (.bool (Im.bare s.data.toList))/\w'=w:=by
 by_cases J:s.size=1
 .have aa:((s.size:Int) == 1)=bB:=by simp[J]
  have E:0<s.size:=aA
  have hx:=λu=>tH u s 0 0 E rfl;have q:=W9 s E J;have ab:cS _:=q;clear q J;go_enter (fq Tryz.func191 rfl),Tryz.ntmps191;go_wp2_with fail;go_ret;rw[ab.out];exact⟨by congr 2;simp;omega,rfl⟩
 .have aa:((s.size:Int) == 1)=aL:=by simp;omega
  have I:=NT s J;have Y:cS _:=I;clear I;go_enter (fq Tryz.func191 rfl),Tryz.ntmps191;go_wp2_with fail;go_ret;rw[Y.out];exact⟨rfl,rfl⟩
def pU:Option (List UInt8)->aD
 |some c=>dC #[N px (c.length:Int),cF bB]
 |none=>dC #[N px 0,cF aL]
def abq(s:ByteArray)(hs:s.size<=2097152):(Im.sc s.data.toList).length=if Im.bare s.data.toList=bB then 1 else(if s.size<=55 then 1 else 1+Im.wid s.size)+s.size:=by
 unfold Im.sc;split
 .rename_i h;by_cases q:s.size=1
  .rw[<-bD];exact q
  .rw[NT s q]at h;simp at h
 .unfold Im.begun;rw[aS,<-bD,Im.Fa _ _ aA]
def Fq(b0:Bool)(S:ByteArray)(a:Option Addr)(l cap:Nat)(w:U)(hs:S.size<=2097152)(hl:l<=2097152):
  eE PQ 186 #[gP #[.bool b0,aH S,.slice a l cap]] w λe w'=>e=bX (pU (if l=0 then M (Im.sc S.data.toList)else Z))/\Below w.heap.size w w':=by
 have J:∀o:Obj,Below w.heap.size w (w.alloc o):=λo=>(aJ _ w).alloc jE _;have E:cS _:=J;clear J;have aa:=Im.qg S.size;by_cases h0:l=0
 .subst h0;rw[ZD rfl];have q:=abq S hs;cases Y:Im.bare S.data.toList with
  |true=>
   rw[Y,ZD rfl]at q;have I:cS _:=q;clear q;go_enter (fq Tryz.func186 rfl),Tryz.ntmps186;go_wp2_with fail;refine(tY S _ hs).mono ?_;rintro e w1 ⟨rfl,rfl⟩;rw[Y];go_wp2_with fail;go_ret2;simp only[pU];rw[I.out];exact⟨rfl,E.out _⟩
  |false=>
   rw[Y,Zs aC]at q;have I:cS _:=q;clear q;go_enter (fq Tryz.func186 rfl),Tryz.ntmps186;go_wp2_with fail;refine(tY S _ hs).mono ?_;rintro e w1 ⟨rfl,rfl⟩;rw[Y];go_wp2_with fail;refine(zi _ _ aA).mono ?_;rintro e w1 ⟨rfl,rfl⟩;have hk:(if S.size<=55 then 1 else 1+Im.wid S.size)<=5:=by split<;>omega
   generalize (if S.size<=55 then 1 else 1+Im.wid S.size)=k at *;go_wp2_with fail;go_ret2;simp only[pU];rw[I.out];exact⟨by congr 3,E.out _⟩
 .rw[Zs h0];have ab:0<(l:Int):=by omega
  go_enter (fq Tryz.func186 rfl),Tryz.ntmps186;go_wp2_with fail;go_ret2;exact⟨rfl,E.out _⟩
def SizeSaid(n:Nat):Prop:=∀(B:Nat)(i:Im.It)(c0 I E:aD)(q:Nat)(w:U),B<=w.heap.size->Im.wt n i<=2097152->1<=q->q<=9->In B w n c0 I E i->
  eE PQ 134 #[gP #[c0,I,E],N X q] w λe w'=>e=bX (pU (Im.code (9-q) i))/\Below w.heap.size w w'
def yZ(n:Nat)(hn:SizeSaid n)(B:Nat)(i:Im.It)(c0 c1:aD)(a:Option Addr)(l cap:Nat)(q:Nat)(w:U)(hB:B<=w.heap.size)(hw:Im.wt (n+1) i<=2097152)(ax:1<=q)(hd:q<=9)(h:In B w (n+1) c0 c1 (.slice a l cap) i):eE PQ 187 #[.slice a l cap,N X q] w λe w'=>e=bX (pU (Im.cat (Im.code (9-q)) i.kids))/\Below w.heap.size w w':=by
 have ae:=In.dp _ _ _ _ _ h;have bd:=Im.wH ae;obtain⟨rfl,rfl,a',a5,ak,h3⟩:=h;simp only[Value.slice.injEq]at ak;obtain⟨rfl,rfl,rfl⟩:=ak;have H3:cS _:=h3;have ah:cS _:=ae;clear h3 ae;have hl:i.kids.length<=2097152:=aA
 generalize hR:Im.cat (Im.code (9-q)) i.kids=R;have HR:cS _:=hR;clear hR;generalize an:9-q=d at HR;have aw:cS _:=an;clear an;have a8:(q:Int)<=9:=aA
 go_enter (fq Tryz.func187 rfl),Tryz.ntmps187;go_wp2_with fail;go_loopg [6,13] i.kids.length (λg v t wx=>∃(k:Nat)(J:List UInt8),k<=i.kids.length/\t=N X k/\v=N px (J.length:Int)/\g=i.kids.length-k/\cS (Im.cat (Im.code d) (i.kids.take k)=M J)/\Below w.heap.size w wx)
 case atStart=>exact⟨0,[],dL _,rfl,rfl,rfl,rfl,aJ _ _⟩
 case round=>
  obtain⟨k,J,hk,rfl,rfl,rfl,ab,Y⟩:=hrel;have ba:=Im.tN ah.out hw (λx hx=>jh hx) (V8 k) ab.out;by_cases I:k<i.kids.length
  .have ap:(k:Int)<i.kids.length:=by omega
   have ac:i.kids≠[]:=by intro e;rw[e]at I;simp at I
   obtain⟨b,off,rfl,a9,hj⟩:=H3.out ac;obtain⟨d0,d1,d2,hd,ag⟩:=hj k I;obtain⟨ka,a6,rfl,rfl,rfl⟩:=ag.shape;have av:=Im.Fg (n:=n) (pm I);obtain⟨p0,p1,p2⟩:=hd.below Y aA;have E:=λW (hW:Below _ w W)=>hn B _ _ _ _ q W (bH hB hW.size) aA ax aA (In.below (hW.mono hB) _ _ _ _ _ ag);rw[show 9-q=d from aw.out]at E
   have aj:Im.cat (Im.code d) (i.kids.take (k+1))=(Im.code d i.kids[k]).map (λc=>J++c):=by
    rw[eY I,Im.AV _ _ _ _ ab.out]
   have ai:Im.code d i.kids[k]=Z->R=Z:=λa4=>by
    rw[<-HR.out,<-p7 k i.kids,ju I,Im.ZK _ _ _ _ a4]
   have ar:∀c,Im.code d i.kids[k]=M c->c.length<=6*Im.wt n i.kids[k]:=λc a1=>Im.vX n d _ c (ah.out _ (pm I)) (bH (Nat.le_of_succ_le av) hw) a1;generalize hC:Im.code d i.kids[k]=C at *;have au:cS _:=aj;have a2:cS _:=ai;have az:cS _:=ar;have aa:cS _:=E;clear aj ai ar E hj hd ag ac hC;cases C with
   |none=>
    have aq:=a2.out rfl;have a3:cS _:=aq;clear aq;go_wp2_with fail;refine(aa.out _ ?_).mono ?_
    .exact Y.alloc Y.size _
    rintro e w3 ⟨rfl,af⟩;simp only[pU];go_wp2_with fail;go_ret2;rw[a3.out];exact⟨rfl,(Y.alloc Y.size _).trans (af.mono (by have:=Y.size;simp;omega))⟩
   |some c=>
    have bb:=az.out c rfl;go_wp2_with fail;refine(aa.out _ ?_).mono ?_
    .exact Y.alloc Y.size _
    rintro e w3 ⟨rfl,af⟩;simp only[pU];have a7:(c.length:Int)<=12582912:=aA
    go_wp2_with fail;go_roundg (i.kids.length-(k+1))
    case measure=>omega
    case rel=>
     refine⟨_,J++c,aA,by go_num,by rw[aS];go_num,rfl,?_,(Y.alloc Y.size _).trans (af.mono (by have:=Y.size;simp;omega))⟩;rw[cS,au.out];rfl
  .have ap:¬(k:Int)<i.kids.length:=by omega
   have am:k=i.kids.length:=aA
   have ao:R=M J:=by
    have:=ab.out;rw[am,iM]at this;rw[<-HR.out,this]
   have ay:cS _:=ao;clear ao am;go_wp2_with fail;go_ret2;rw[ay.out];exact⟨rfl,Y⟩
open Go.RowKit Go.Joins
section
variable {w:U}
theorem size_any:∀n:Nat,SizeSaid n:=by
 intro n
 induction n with
 |zero=>intro B i c0 c1 c2 q w _ _ _ _ h;cases h
 |succ n ih=>
  intro B i c0 c1 c2 q w hB hw ay hd h;have au:=Im.wH (In.dp _ _ _ _ _ h);have am:=h;obtain⟨a,cap,rfl,rfl,rfl⟩:=h.shape;have af:cS (In B w (n+1) (.bool i.list) (aH ⟨i.bytes.toArray⟩) (.slice a i.kids.length cap) i):=am;clear h am;obtain⟨S,hS⟩:∃S:ByteArray,(⟨i.bytes.toArray⟩:ByteArray)=S:=⟨_,rfl⟩
  have J:S.data.toList=i.bytes:=by rw[<-hS]
  have aq:S.size<=2097152:=by rw[bD,J];omega
  rw[hS]at af⊢;clear hS;have ak:∀o:Obj,Below w.heap.size w (w.alloc o):=λo=>(aJ _ w).alloc jE _;have Y:cS _:=ak;clear ak;have az:(q:Int)<=9:=aA
  cases ac:i.list with
  |false=>
   have E:Im.code (9-q) i=if i.kids.length=0 then M (Im.sc S.data.toList)else Z:=by
    rw[J];cases hk:i.kids<;>cases 9-q<;>simp[Im.code,ac,hk]
   rw[E];clear E J af;generalize hR:(if i.kids.length=0 then M (Im.sc S.data.toList)else Z)=R;have HR:cS _:=hR;clear hR;go_enter (fq Tryz.func134 rfl),Tryz.ntmps134;go_wp2_with fail;refine(Fq aL S a _ cap _ aq aA).mono ?_;rintro e w1 ⟨rfl,ah⟩;have aa:=(Y.out (aG _ 103)).trans (ah.mono aC);rw[HR.out];clear HR;cases R with
   |none=>
    simp only[pU];go_wp2_with fail;go_ret2;exact⟨rfl,aa⟩
   |some c=>
    simp only[pU];go_wp2_with fail;go_ret2;exact⟨rfl,aa⟩
  |true=>
   have ab:S.toList.isEmpty=i.bytes.isEmpty:=by rw[ByteArray.toList_eq,J]
   cases ae:i.bytes.isEmpty with
   |false=>
    have ao:(!S.toList.isEmpty)=bB:=by rw[ab,ae];rfl
    have E:Im.code (9-q) i=Z:=by
     cases 9-q<;>simp[Im.code,ac,ae]
    rw[E];clear ab J;go_enter (fq Tryz.func134 rfl),Tryz.ntmps134;go_wp2_with fail;go_ret2;exact⟨rfl,Y.out _⟩
   |true=>
    have ao:(!S.toList.isEmpty)=aL:=by rw[ab,ae];rfl
    clear ab J;by_cases h9:q=9
    .subst h9;have E:Im.code (9-9) i=Z:=by simp[Im.code,ac]
     rw[E];go_enter (fq Tryz.func134 rfl),Tryz.ntmps134;go_wp2_with fail;go_ret2;exact⟨rfl,Y.out _⟩
    .obtain⟨d,ai⟩:∃d,9-q=d+1:=⟨9-q-1,aA⟩
     have E:Im.code (9-q) i=(Im.cat (Im.code d) i.kids).map (Im.begun 192):=by
      rw[ai,Im.sK d i ac ae]
     rw[E];have an:∀s,Im.cat (Im.code d) i.kids=M s->s.length<=12582912:=λs hs=>Im.tN (In.dp _ _ _ _ _ af.out) hw (λ_ hx=>hx) (by simp only[Im.wt];omega) hs;have I:=λW (hW:Below _ w W)=>yZ n ih B i _ _ a _ cap (q+1) W (bH hB hW.size) hw aA aA (In.below (hW.mono hB) _ _ _ _ _ af.out);rw[show 9-(q+1)=d from by omega]at I;have ap:cS _:=an;have ag:cS _:=I;clear E ai an I;have av:(q:Int)<=8:=aA
     go_enter (fq Tryz.func134 rfl),Tryz.ntmps134;go_wp2_with fail;rw[show((q:Int)+1)=((q+1:Nat):Int) from by omega];refine(ag.out _ (Y.out _)).mono ?_;rintro e w1 ⟨rfl,ah⟩;have aa:=(Y.out (aG _ 103)).trans (ah.mono aC);cases hR:Im.cat (Im.code d) i.kids with
     |none=>
      have HR:cS _:=hR;clear hR;simp only[pU];go_wp2_with fail;go_ret2;rw[HR.out];exact⟨rfl,aa⟩
     |some s=>
      have ax:=ap.out s hR;have HR:cS _:=hR;clear hR;simp only[pU];go_wp2_with fail;refine(zi _ _ aA).mono ?_;rintro e w2 ⟨rfl,rfl⟩;have aw:=Im.qg s.length
      have aj:(Im.begun 192 s).length=(if s.length<=55 then 1 else 1+Im.wid s.length)+s.length:=by
       unfold Im.begun;rw[aS,Im.Fa _ _ aA]
      have hk:(if s.length<=55 then 1 else 1+Im.wid s.length)<=5:=by split<;>omega
      generalize (if s.length<=55 then 1 else 1+Im.wid s.length)=k at *;have ar:cS _:=aj;clear aj;go_wp2_with fail;go_ret2;rw[HR.out];simp only[Option.map,pU];rw[ar.out];exact⟨by congr 3,aa⟩
theorem Qg(n j:Nat):((n:Int)/2 ^ (8*j)%256)=((cQ (n/256 ^ j%256)).toNat:Int):=by
 have e:(256:Nat) ^ j=2 ^ (8*j):=by rw[Nat.pow_mul]
 rw[e];simp
def kG(w:U):Prop:=K3 w 1 0 (cF aL) (N .u8 128) (N .u8 183)/\K3 w 1 3 (cF bB) (N .u8 192) (N .u8 247)
theorem kG.below{B:Nat}{w':U}(h:kG w)(E:Below B w w')(q:1<B):kG w':=⟨h.1.below E q,h.2.below E q⟩
theorem kG.pos(h:kG w):1<w.heap.size:=by
 have g:=h.1.1;obtain e|e:=gG 1 w.heap.size
 .exact e
 .unfold World.cell? at g;rw[Array.getElem?_eq_none (by simpa using e)]at g;simp at g
theorem Eo(t:Bool)(w:U)(h:kG w)(Y:1<w.heap.size):
  eE PQ 189 #[.bool t] w λe w'=>e=bX (gP #[.bool t,N .u8 (if t=bB then 192 else 128),N .u8 (if t=bB then 247 else 183)])/\Below w.heap.size w w':=by
 obtain⟨⟨a0,I,J⟩,E,q,b2⟩:=h;cases t with
 |true=>
  go_enter (fq Tryz.func189 rfl),Tryz.ntmps189;go_wp2_with fail;exact cM (v:=.agg _) (by simp[results,Tryz.results189,go_sem]) rfl ⟨rfl,(aJ _ w).alloc jE _⟩
 |false=>
  go_enter (fq Tryz.func189 rfl),Tryz.ntmps189;go_wp2_with fail;exact cM (v:=.agg _) (by simp[results,Tryz.results189,go_sem]) rfl ⟨rfl,(aJ _ w).alloc jE _⟩
theorem xu(B b:Nat)(l:List UInt8)(t:Bool)(q n:Nat)(w:U)(h:tu B b l w)(hl:l.length<=16777216)(hB:B<=w.heap.size)(hn:n<=16777216)(aa:q=128\/q=192):eE PQ 190 #[gP #[.bool t,N .u8 q,N .u8 ((q+55:Nat):Int)],aM (M ⟨b,0,Z⟩),N px n] w λe w'=>e=bX (dC #[])/\tu B b (l++Im.head q n) w'/\Below B w w'/\o3 5 (M b) w w':=by
 have au:q<=192:=aA
 clear aa;have am:=Im.qg n;by_cases af:n<=55
 .have aj:(n:Int)<=55:=by omega
  have hH:Im.head q n=[cQ (q+n)]:=by unfold Im.head;rw[ZD af]
  have HH:cS _:=hH;clear hH;go_enter (fq Tryz.func190 rfl),Tryz.ntmps190;go_wp2_with fail;rw[show((q:Int)+(n:Int))=((cQ (q+n)).toNat:Int) from by simp;omega];refine(bByte B b l _ _ (h.alloc _) aA aF).mono ?_;rintro e w1 ⟨rfl,ao,aq,ak⟩;go_wp2;refine cM (v:=.tuple _) (by simp[results,Tryz.results190,go_sem]) rfl ⟨rfl,?_,((aJ B w).alloc hB _).trans aq,((Lib.OthersKept.refl _ _ w).alloc _).trans ak⟩;rw[HH.out];exact ao
 .have aj:¬(n:Int)<=55:=by omega
  have hH:Im.head q n=cQ (q+55+Im.wid n)::Im.shifts n (Im.wid n):=by
   unfold Im.head;rw[Zs af,Im.Dx _ n aA rfl,Im.zk 4 n aA am.1]
  have HH:cS _:=hH;clear hH;go_enter (fq Tryz.func190 rfl),Tryz.ntmps190;go_wp2_with fail;refine(He n _ aA).mono ?_;rintro e w1 ⟨rfl,rfl⟩;generalize Im.wid n=K at *;go_wp2_with fail;rw[show((q:Int)+55+(K:Int))=((cQ (q+55+K)).toNat:Int) from by simp;omega];refine(bByte B b l _ _ (h.alloc _) aA aF).mono ?_;rintro e w2 ⟨rfl,ae,ag,ab⟩;have Y:=((aJ B w).alloc hB _).trans ag;have J:=((Lib.OthersKept.refl _ _ w).alloc _).trans ab;clear ag h ab;go_wp2_with fail;go_loopg [6] K (λg t wx=>∃(k:Nat)(E:List UInt8),t=N X k/\g=k/\k<=K/\E.length+k<=l.length+5/\cS (E++Im.shifts n k=l++Im.head q n)/\tu B b E wx/\Below B w wx/\o3 5 (M b) w wx)
  case atStart=>
   refine⟨K,_,rfl,rfl,jE,aF,?_,ae,Y,J⟩;rw[cS,HH.out];simp
  case round=>
   obtain⟨k,E,rfl,rfl,hk,av,I,hI,hb,ac⟩:=hrel;clear ae Y J;have ai:cS _:=ac;clear ac;by_cases h0:0<gk
   .obtain⟨j,rfl⟩:∃j,gk=j+1:=⟨gk-1,aA⟩
    have aw:0<((j+1:Nat):Int):=aA
    go_wp2_with fail;rw[Qg n j];refine(bByte B b E _ _ hI aA (by have:=hb.size;omega)).mono ?_;rintro e w3 ⟨rfl,ap,ar,ah⟩;have an:cS _:=ah;clear ah;go_wp2_with fail;go_roundg j
    case measure=>omega
    case rel=>
     refine⟨j,_,by go_num,rfl,aA,aF,?_,ap,hb.trans ar,Lib.OthersKept.trans ai.out an.out⟩;have:=I.out;rw[Im.shifts]at this;rw[cS,<-this];simp
   .obtain rfl:gk=0:=by omega
    go_wp2;go_end0;have:=I.out;rw[Im.shifts,gI]at this;rw[<-this];exact⟨rfl,hI,hb,ai.out⟩
theorem Gv(B b:Nat)(l:List UInt8)(t:Bool)(n:Nat)(w:U)(h:tu B b l w)(q:l.length<=16777216)(E:B<=w.heap.size)(I:n<=16777216):eE PQ 190 #[gP #[.bool t,N .u8 128,N .u8 183],aM (M ⟨b,0,Z⟩),N px n] w λe w'=>e=bX (dC #[])/\tu B b (l++Im.head 128 n) w'/\Below B w w'/\o3 5 (M b) w w':=
 xu B b l t 128 n w h q E I (.inl rfl)
theorem Fb(B b:Nat)(l:List UInt8)(t:Bool)(n:Nat)(w:U)(h:tu B b l w)(q:l.length<=16777216)(E:B<=w.heap.size)(I:n<=16777216):eE PQ 190 #[gP #[.bool t,N .u8 192,N .u8 247],aM (M ⟨b,0,Z⟩),N px n] w λe w'=>e=bX (dC #[])/\tu B b (l++Im.head 192 n) w'/\Below B w w'/\o3 5 (M b) w w':=
 xu B b l t 192 n w h q E I (.inr rfl)
theorem OM(w:U)(h:kG w)(q:1<w.heap.size):eE PQ 189 #[cF aL] w λe w'=>e=bX (gP #[cF aL,N .u8 128,N .u8 183])/\Below w.heap.size w w':=Eo aL w h q
theorem Nz(w:U)(h:kG w)(q:1<w.heap.size):eE PQ 189 #[cF bB] w λe w'=>e=bX (gP #[cF bB,N .u8 192,N .u8 247])/\Below w.heap.size w w':=Eo bB w h q
end
def wrap_small(n:Nat)(h:n<=2097152):IntKind.u64.wrap (n:Int)=n:=by rw[pZ];omega
def Rj(f:Im.It->Option (List UInt8)):∀(a:List Im.It)(k:Im.It)(r:List Im.It)(s q:List UInt8),Im.cat f (a++k::r)=M s->Im.cat f a=M q->∃c t,f k=M c/\s=q++c++t
 |[],k,r,s,q,h,ha=>by
  simp only[Im.cat,aK]at ha;subst ha;rw[dS,Im.cat]at h;cases E:f k with
  |none=>rw[E]at h;simp at h
  |some c=>
   grind
 |x::a,k,r,s,q,h,ha=>by
  rw[dN,Im.cat]at h;rw[Im.cat]at ha;cases E:f x with
  |none=>rw[E]at h;simp at h
  |some c=>
   rw[E]at h ha;cases I:Im.cat f (a++k::r)with
   |none=>rw[I]at h;simp at h
   |some t=>
    rw[I]at h;cases hd:Im.cat f a with
    |none=>grind
    |some u=>
     rw[hd]at ha;simp only[aK]at h ha;obtain⟨J,Y,h1,h2⟩:=Rj f a k r t u I hd;exact⟨J,Y,h1,by grind⟩
def WriteSaid(n:Nat):Prop:=∀(B b D d:Nat)(l c:List UInt8)(i:Im.It)(c0 E q:aD)(w:U),tu B b l w->B<=w.heap.size->D<=B->1<B->kG w->Im.wt n i<=2097152->d<=8->Im.code d i=M c->l.length+c.length<=12582912->In D w n c0 E q i->
  eE PQ 135 #[aM (M ⟨b,0,Z⟩),gP #[c0,E,q]] w λe w'=>e=bX (dC #[])/\tu B b (l++c) w'/\Below B w w'
def O6:∀n:Nat,WriteSaid n:=by
 intro n
 induction n with
 |zero=>intro B b D d l c i c0 c1 c2 w _ _ _ _ _ _ _ _ _ h;cases h
 |succ n ih=>
  intro B b D d l c i c0 c1 c2 w hI hB hD a1 hH hw hd hc b0 h;have a8:=In.dp _ _ _ _ _ h;have c5:=Im.wH a8;have aj:=h;obtain⟨a,cap,rfl,rfl,rfl⟩:=h.shape;have am:cS (In D w (n+1) (.bool i.list) (aH ⟨i.bytes.toArray⟩) (.slice a i.kids.length cap) i):=aj;clear h aj;have ca:cS (Im.dp (n+1) i):=a8;clear a8;obtain⟨S,hS⟩:∃S:ByteArray,(⟨i.bytes.toArray⟩:ByteArray)=S:=⟨_,rfl⟩
  have ap:S.data.toList=i.bytes:=by rw[<-hS]
  have ba:S.size<=2097152:=by rw[bD,ap];omega
  rw[hS]at am⊢;clear hS;have bw:∀o:Obj,Below B w (w.alloc o):=λo=>(aJ _ w).alloc hB _;have an:cS _:=bw;clear bw;cases a2:i.list with
  |false=>
   have av:c=Im.sc S.data.toList:=by
    rw[ap];cases d<;>simp only[Im.code,a2,bU,if_false]at hc<;>split at hc<;>simp at hc<;>exact hc.symm
   cases a3:Im.bare S.data.toList with
   |true=>
    have ah:c=S.data.toList:=by rw[av];unfold Im.sc;rw[a3];rfl
    subst ah;clear av ap am;go_enter (fq Tryz.func135 rfl),Tryz.ntmps135;go_wp2_with fail;refine(tY S _ ba).mono ?_;rintro e w1 ⟨rfl,rfl⟩;rw[a3];go_wp2_with fail;refine(zS B b l S _ (hI.alloc _) (by rw[bD];omega) aF).mono ?_;rintro e w2 ⟨rfl,az,ag⟩;go_wp2;go_end0;exact⟨rfl,az,(an.out _).trans ag⟩
   |false=>
    have ah:c=Im.head 128 S.size++S.data.toList:=by rw[av];unfold Im.sc Im.begun;rw[a3,<-bD];rfl
    have b8:=Im.wQ 128 S.size aA;clear av ap am;go_enter (fq Tryz.func135 rfl),Tryz.ntmps135;go_wp2_with fail;refine(tY S _ ba).mono ?_;rintro e w1 ⟨rfl,rfl⟩;rw[a3];go_wp2_with fail;have q:(w.alloc (aG #[cF aL,aH S,.slice a i.kids.length cap] 103)).heap[w.heap.size]? =M (aG #[cF aL,aH S,.slice a i.kids.length cap] 103 (0,0)):=cX _ _;have cg:=hI.elim (λx=>x.lt) (λx=>x.lt);have ae:tu B b l (w.alloc (aG #[cF aL,aH S,.slice a i.kids.length cap] 103)):=hI.alloc _;have aa:kG (w.alloc (aG #[cF aL,aH S,.slice a i.kids.length cap] 103)):=hH.below (an.out _) a1;have J:=an.out (aG #[cF aL,aH S,.slice a i.kids.length cap] 103);have E:w.heap.size<(w.alloc (aG #[cF aL,aH S,.slice a i.kids.length cap] 103)).heap.size:=aC
    generalize w.alloc (aG #[cF aL,aH S,.slice a i.kids.length cap] 103)=Wa at *;obtain⟨-,cb⟩:=cells2 q;have b2:cS _:=q;clear q;have cl:=wrap_small _ ba;go_cut [] (λwx=>tu B b (l++Im.head 128 S.size) wx/\wx.cell? ⟨w.heap.size,1,Z⟩=M (aH S)/\Below B w wx)
    case first=>
     go_region_with (first
      |(go_at_call 189;refine(OM _ ?_ ?_).mono ?_;exact aa;exact aa.pos;rintro e w3 ⟨rfl,Y⟩;have b7:=(Y.cell (p:=⟨w.heap.size,1,Z⟩) E).trans cb;have ay:tu B b l w3:=pG (by exact ae) Y;have bh:=aP E Y.size;have ao:=(Y.block _ E).trans b2.out;have co:cS (w3.heap[w.heap.size]? =M (aG #[cF aL,aH S,.slice a i.kids.length cap] 103 (0,0))):=ao;clear ao)
      |(go_at_call 190;try rw[cl]
        refine(Gv B b l aL _ _ ?_ aA ?_ aA).mono ?_;exact ay;exact bH hB (jv bh);rintro e w4 ⟨rfl,ax,ac,b6⟩;have cm:cS _:=b6;clear b6))
     all_goals
      go_wp2_with fail;go_meet;have cj:=cm.out _ _ co.out aF aC;have hm:=Y.mono (bH hB (jv E));exact⟨ax,by rw[aI cj];rfl,Below.trans (Below.trans (by first|exact J|exact J.drew|exact below_drewN J _) hm) ac⟩
    case rest=>
     obtain⟨a9,c4,a4⟩:=hcut;clear cb;go_wp2_with fail;refine(zS B b _ S _ a9 (by rw[aS];omega) (by have:=a4.size;omega)).mono ?_;rintro e w6 ⟨rfl,ct,cp⟩;go_wp2;go_end0;refine⟨rfl,?_,a4.trans cp⟩;rw[ah,<-fM];exact ct
  |true=>
   obtain⟨d',rfl⟩:∃d',d=d'+1:=by
    cases d with
    |zero=>simp[Im.code,a2]at hc
    |succ d'=>exact⟨d',rfl⟩
   have bd:i.bytes.isEmpty=bB:=by
    cases bd:i.bytes.isEmpty with
    |true=>rfl
    |false=>simp[Im.code,a2,bd]at hc
   rw[Im.sK d' i a2 bd]at hc;obtain⟨s,hs,bo⟩:=bI.1 hc
   have bu:=Im.E5 _ (Im.code 8) _ s (λk c _ hk=>by
    have:=Im.I4 k c (8-d') d' hk;rw[show d'+(8-d')=8 from by omega]at this;exact this) hs
   have ah:c=Im.head 192 s.length++s:=bo.symm;have c3:=Im.tN ca.out hw (λ_ hx=>hx) (by simp only[Im.wt];omega) hs;have b8:=Im.wQ 192 s.length aA;have cu:l.length+((Im.head 192 s.length).length+s.length)<=12582912:=by rw[ah,aS]at b0;exact b0
   have af:∀(W:U),Below w.heap.size w W->eE PQ 187 #[.slice a i.kids.length cap,N X 1] W λe w'=>e=bX (pU (Im.cat (Im.code 8) i.kids))/\Below W.heap.size W w':=
    λW hW=>yZ n (size_any n) D i _ _ a _ cap 1 W (bH (bH hD hB) hW.size) hw aA aA (In.below (hW.mono (bH hD hB)) _ _ _ _ _ am.out)
   rw[bu]at af
   have h3:i.kids≠[]->∃b off,a=M ⟨b,off,Z⟩/\b<D/\∀(j:Nat)(hj:j<i.kids.length),∃d0 d1 d2,K3 w b (off+j*3) d0 d1 d2/\In D w n d0 d1 d2 (i.kids[j]):=by
    obtain⟨c6,cx,a0,cv,a5,h3⟩:=am.out;simp only[Value.slice.injEq]at a5;obtain⟨rfl,_,rfl⟩:=a5;exact h3
   have H3:cS _:=h3;have aq:cS _:=af;have Hs:cS _:=hs;have cr:cS _:=ah;have cd:cS _:=ih;clear af hs ah bu bo hc ap h3 am ih;have q:(w.alloc (aG #[cF bB,aH S,.slice a i.kids.length cap] 103)).heap[w.heap.size]? =M (aG #[cF bB,aH S,.slice a i.kids.length cap] 103 (0,0)):=cX _ _;have cg:=hI.elim (λx=>x.lt) (λx=>x.lt);have ae:tu B b l (w.alloc (aG #[cF bB,aH S,.slice a i.kids.length cap] 103)):=hI.alloc _;have aa:kG (w.alloc (aG #[cF bB,aH S,.slice a i.kids.length cap] 103)):=hH.below (an.out _) a1;have J:=an.out (aG #[cF bB,aH S,.slice a i.kids.length cap] 103);have E:w.heap.size<(w.alloc (aG #[cF bB,aH S,.slice a i.kids.length cap] 103)).heap.size:=aC
   have ar:Below w.heap.size w (w.alloc (aG #[cF bB,aH S,.slice a i.kids.length cap] 103)):=(aJ _ w).alloc jE _;have Hx:cS _:=jD q (jD ae (jD aa (jD J (jD E ar))));clear q ae aa J E ar;go_enter (fq Tryz.func135 rfl),Tryz.ntmps135;go_wp2_with fail;obtain⟨q,ae,aa,J,E,ar⟩:=Hx.out;generalize w.alloc (aG #[cF bB,aH S,.slice a i.kids.length cap] 103)=Wa at *;refine(aq.out Wa ar).mono ?_;rintro e w1 ⟨rfl,ak⟩;have bm:=pG ae ak;have bz:=aa.below ak aA;have b5:=(ak.block _ E).trans q;have bb:=aP E ak.size;have bj:=J.trans (ak.mono (bH hB (jv E)));clear q ae aa J E ar ak Hx;simp only[pU];have b1:cS _:=b5;clear b5;go_wp2_with fail;refine(Nz _ bz aA).mono ?_;rintro e w2 ⟨rfl,ag⟩;have az:=pG bm ag;have bg:=(ag.block _ bb).trans b1.out;have cc:=aP bb ag.size;have bx:=bj.trans (ag.mono (bH hB (jv bb)));have bl:cS _:=bg;clear bg bm ag bj b1;go_wp2_with fail;refine(Fb B b l bB _ _ az aA aA aA).mono ?_;rintro e w3 ⟨rfl,ay,Y,b3⟩;have bq:=b3 _ _ bl.out aF aC;obtain⟨-,-,b7⟩:=cells3 bq;have ao:=bx.trans Y;have bh:=aP cc Y.size;clear bq b3 az bx Y bl;have c9:i.kids.length<=2097152:=aA
   go_wp2_with fail;clear b7;go_loopg [35] i.kids.length (λg t wx=>∃(k:Nat)(ab:List UInt8),k<=i.kids.length/\t=N X k/\g=i.kids.length-k/\cS (Im.cat (Im.code d') (i.kids.take k)=M ab)/\tu B b (l++Im.head 192 s.length++ab) wx/\Below B w wx)
   case atStart=>exact⟨0,[],dL _,rfl,rfl,rfl,by rw[gI];exact ay,ao⟩
   case round=>
    obtain⟨k,ab,hk,rfl,rfl,au,ax,ac⟩:=hrel;clear ay ao bz;by_cases I:k<i.kids.length
    .have b4:(k:Int)<i.kids.length:=by omega
     have a6:i.kids≠[]:=by intro e;rw[e]at I;simp at I
     obtain⟨b',off,rfl,cz,hj⟩:=H3.out a6;obtain⟨d0,d1,d2,bk,aj⟩:=hj k I;obtain⟨ka,cw,rfl,rfl,rfl⟩:=aj.shape;have cy:=Im.Fg (n:=n) (pm I);obtain⟨p0,p1,p2⟩:=bk.below ac aA;obtain⟨ck,tk,a7,bs⟩:=Rj _ _ i.kids[k] (i.kids.drop (k+1)) s ab (by rw[<-ju I,p7];exact Hs.out) au.out
     have br:Im.cat (Im.code d') (i.kids.take (k+1))=M (ab++ck):=by
      rw[eY I,Im.AV _ _ _ _ au.out,a7];rfl
     have ci:ab.length+ck.length<=s.length:=by rw[bs];simp only[aS];omega
     have ai:=λW ce hW=>cd.out B b D d' (l++Im.head 192 s.length++ab) ck _ _ _ _ W ce (bH hB hW.size) hD a1 (hH.below hW a1) aA aA a7 (by simp only[aS];omega) (In.below (hW.mono hD) _ _ _ _ _ aj);have aw:cS _:=ai;have b9:cS _:=br;clear ai br hj bk aj a6 bs a7 aq;go_wp2_with fail;refine(aw.out _ (ax.alloc _) (ac.alloc (by have:=ac.size;omega) _)).mono ?_;rintro e w5 ⟨rfl,a9,a4⟩;go_wp2_with fail;go_roundg (i.kids.length-(k+1))
     case measure=>omega
     case rel=>
      refine⟨_,_,aA,by go_num,rfl,b9.out,?_,(ac.alloc (by have:=ac.size;omega) _).trans a4⟩;rw[<-fM];exact a9
    .have b4:¬(k:Int)<i.kids.length:=by omega
     have bv:k=i.kids.length:=aA
     have has:ab=s:=by
      have:=au.out;rw[bv,iM,Hs.out]at this;simpa using this.symm
     subst has;clear bv;go_wp2;go_end0;refine⟨rfl,?_,ac⟩;rw[cr.out,<-fM];exact ax
def ZA(n D:Nat)(i:Im.It)(c0 c1 c2:aD)(w:U)(hD:D<=w.heap.size)(hw:Im.wt n i<=2097152)(hH:kG w)(h:In D w n c0 c1 c2 i):eE PQ 89 #[gP #[c0,c1,c2]] w λe w'=>e=bX (WT (Im.code 8 i))/\Below w.heap.size w w':=by
 have h0:=hH.pos;have ac:=λc hc=>Im.vX n 8 i c (In.dp _ _ _ _ _ h) hw hc;obtain⟨a,cap,rfl,rfl,rfl⟩:=h.shape;obtain⟨S,hS⟩:∃S:ByteArray,(⟨i.bytes.toArray⟩:ByteArray)=S:=⟨_,rfl⟩
 have ae:cS (In D w n (.bool i.list) (aH ⟨i.bytes.toArray⟩) (.slice a i.kids.length cap) i):=h;clear h;rw[hS]at ae⊢;clear hS
 have ai:∀(W:U),Below w.heap.size w W->eE PQ 134 #[gP #[.bool i.list,aH S,.slice a i.kids.length cap],N X 1] W λe w'=>e=bX (pU (Im.code 8 i))/\Below W.heap.size W w':=
  λW hW=>size_any n D i _ _ _ 1 W (bH hD hW.size) hw aA aA (In.below (hW.mono hD) _ _ _ _ _ ae.out)
 have ap:∀(c:List UInt8),Im.code 8 i=M c->∀(B:Nat)(W:U),tu B B [] W->B<=W.heap.size->w.heap.size<=B->Below w.heap.size w W->eE PQ 135 #[aM (M ⟨B,0,Z⟩),gP #[.bool i.list,aH S,.slice a i.kids.length cap]] W λe w'=>e=bX (dC #[])/\tu B B ([]++c) w'/\Below B W w':=
  λc hc B W hI hB ay hW=>O6 n B B D 8 [] c i _ _ _ W hI hB aA aA (hH.below hW h0) hw aA hc (by have:=ac c hc;simp;omega) (In.below (hW.mono hD) _ _ _ _ _ ae.out)
 generalize Im.code 8 i=R at *;have av:cS _:=ai;have aq:cS _:=ap;have ar:cS _:=ac;clear ai ap ac hH;have aj:∀o:Obj,Below w.heap.size w (w.alloc o):=λo=>(aJ _ w).alloc jE _;have ak:cS _:=aj;clear aj;go_enter (fq Tryz.func89 rfl),Tryz.ntmps89;go_wp2_with fail;refine(av.out _ (ak.out _)).mono ?_;have E:(w.alloc (aG #[.bool i.list,aH S,.slice a i.kids.length cap] 103)).heap[w.heap.size]? =M (aG #[.bool i.list,aH S,.slice a i.kids.length cap] 103 (0,0)):=cX _ _;have ag:=ak.out (aG #[.bool i.list,aH S,.slice a i.kids.length cap] 103);have I:w.heap.size<(w.alloc (aG #[.bool i.list,aH S,.slice a i.kids.length cap] 103)).heap.size:=aC
 generalize w.alloc (aG #[.bool i.list,aH S,.slice a i.kids.length cap] 103)=Wa at *;rintro e w1 ⟨rfl,Y⟩;have ah:=ag.trans (Y.mono (jv I));have ab:=(Y.block _ I).trans E;have q:=aP I Y.size;clear Y ag I E;cases R with
 |none=>
  clear ab;simp only[pU];go_wp2_with fail;go_ret2;exact⟨rfl,ah⟩
 |some c=>
  have az:=ar.out c rfl;have ax:cS _:=ab;clear ab;simp only[pU];go_wp2_with fail;refine(acI _ _ _ _ jE (cX _ _) aC aA).mono ?_;rintro e w2 ⟨rfl,au,J⟩;have aa:=(ah.alloc (jv q) _).trans (J.mono (jv q))
  have af:w2.heap[w.heap.size]? =M (aG #[.bool i.list,aH S,.slice a i.kids.length cap] 103 (0,0)):=by
   rw[J.block w.heap.size q,aZ w1 _ w.heap.size q];exact ax.out
  have an:w1.heap.size<=w2.heap.size:=by have:=J.size;simp at this;omega
  obtain⟨k0,k1,k2⟩:=cells3 af;clear af J;go_wp2_with fail;refine(aq.out c rfl _ w2 au an (jv q) aa).mono ?_;rintro e w3 ⟨rfl,am,ao⟩;rw[dS]at am;go_wp2_with fail;refine(wS _ _ c _ am (bH an ao.size)).mono ?_;rintro e w4 ⟨rfl,_,aw⟩;go_wp2;go_ret2;exact⟨rfl,(aa.trans (ao.mono (jv q))).trans (aw.mono (jv q))⟩
def agn:Option (List UInt8)->aD
 |some c=>dC #[aH ⟨c.toArray⟩,N X 0]
 |none=>dC #[aH ⟨#[]⟩,N X 4]
def FI(n D:Nat)(i:Im.It)(c0 c1 c2:aD)(w:U)(hD:D<=w.heap.size)(hw:Im.wt n i<=2097152)(hH:kG w)(h:In D w n c0 c1 c2 i):eE PQ 56 #[gP #[c0,c1,c2]] w λe w'=>e=bX (agn (Im.code 8 i))/\Below w.heap.size w w':=by
 obtain⟨a,cap,rfl,rfl,rfl⟩:=h.shape;have E:∀o:Obj,Below w.heap.size w (w.alloc o):=λo=>(aJ _ w).alloc jE _;have h0:=hH.pos;have q:=λo:Obj=>ZA n D i _ _ _ _ aF hw (hH.below (E o) h0) (In.below ((E o).mono hD) _ _ _ _ _ h);obtain⟨S,hS⟩:∃S:ByteArray,(⟨i.bytes.toArray⟩:ByteArray)=S:=⟨_,rfl⟩
 rw[hS]at q⊢;have I:cS _:=q;have Y:cS _:=E;generalize Im.code 8 i=R at *;clear E q h hH hS;go_enter (fq Tryz.func56 rfl),Tryz.ntmps56;go_wp2_with fail;refine(I.out _).mono ?_;rintro e w1 ⟨rfl,aa⟩;have J:=(Y.out (aG _ 103)).trans (aa.mono aC);cases R with
 |none=>
  simp only[WT];go_wp2_with fail;go_ret2;exact⟨rfl,J⟩
 |some c=>
  simp only[WT];go_wp2_with fail;go_ret2;exact⟨rfl,J⟩
def KX{P:Program}(w:U)(base:Nat)(t ty e:TypeId)(i:TypeInfo)(z:aD)(size bytes:Nat)(ht:P.underlying t=M (.slice e))(hi:P.info? e=M i)(hz:i.zero=M z)(E:i.size=size)(ag:i.bytes=bytes)(aj:z.cells.size=size)(ah:0<size)(v:aD)(n:Nat)(xs:List aD)(aa:w.ownsRow base e size v n xs)(a:Addr)(m c:Nat)(q:List aD)(hm:0<m)(hl:q.length=m*size)(J:∀j u,q[j]? =M u->w.cell? (a.add j)=M u)(h1:∀u∈q,u.oneCell'=bB)(ae:n+m<=maxLen)(Y:(n+m)*bytes<=140737488355328)(ac:base<=w.heap.size):∃v' w',(Builtin.append_ #[t,t] ty #[v,aR (M a) m c]).run P w=.ok v' w'/\w'.ownsRow base e size v' (n+m) (xs++q)/\w.grownBy w' v.ownBlock/\(v'.ownBlock=v.ownBlock\/∃g,v'.ownBlock=M g/\w.heap.size<=g):=by
 obtain⟨v',w',hr,h2,h3,h4⟩:=run_append_own (P:=P) w base t ty e i z size bytes ht hi hz E ag aj ah v n xs aa a m c q hl J h1 ae Y ac;refine⟨v',w',hr,h2,h3,?_⟩;have ak:n+m<=9223372036854775807:=by simp only[maxLen]at ae;omega
 obtain⟨rfl,rfl⟩|⟨g,cap,af,rfl,aq,hg,ar,ap,ao,an⟩:=aa.2
 .right;have hx:xs=[]:=bP (by simpa using aa.1);subst hx;obtain⟨v2,w2,I,g2,_,g4⟩:=run_append_own (P:=P) w _ t ty e i z size bytes ht hi hz E ag aj ah _ 0 [] (World.ownsRow_nil w _ e size) a m c q hl J h1 ae Y jE;rw[hr]at I;simp only[Result.ok.injEq]at I;obtain⟨rfl,rfl⟩:=I;obtain⟨e1,_⟩|⟨g,cap,af,rfl,am,_⟩:=g2.2
  .omega
  .exact⟨g,rfl,am⟩
 .by_cases ab:n+m<=cap
  .left;have ai:n*i.size+q.length<=af.size:=by rw[hl,ao,E,<-iU];exact fK _ ab
   have I:=run_append_room (P:=P) w t ty e i ht hi g n cap af hg a m c q (by rw[E];exact hl) J h1 ab ai;rw[hr]at I;simp only[Result.ok.injEq]at I;rw[I.1];rfl
  .right;subst E ag;have holds:=aa.cells (g:=g) rfl;have I:=run_append_grow (P:=P) w t ty e i z ht hi hz _ n cap xs aa.1 holds a m c q hl J aA aA (growslice_fits aA Y);rw[hr]at I;simp only[Result.ok.injEq]at I;exact⟨_,by rw[I.1];rfl,jE⟩
def U0:(PQ.info? 103).map (λi=>(i.zero,i.size,i.bytes))=M (M (gP #[cF aL,aH ⟨#[]⟩,aR Z 0 0]),3,48):=XN
section
variable {w:U}{base e size n:Nat}{v:aD}{xs:List aD}
theorem own_below{w':U}(h:w.ownsRow base e size v n xs)(Y:Below w.heap.size w w'):w'.ownsRow base e size v n xs:=by
 obtain⟨J,h2⟩:=h;refine⟨J,?_⟩;obtain h2|⟨g,cap,q,I,hg,E,r⟩:=h2
 .exact .inl h2
 .exact .inr ⟨g,cap,q,I,hg,(Y.block g (jG E)).trans E,r⟩
theorem rU(h:w.ownsRow base e size v n xs){g:Nat}(q:v.ownBlock=M g):base<=g/\g<w.heap.size:=by
 obtain⟨rfl,_⟩|⟨g',cap,E,rfl,J,I,_⟩:=h.2
 .simp[eA]at q
 .simp[eA]at q;subst q;exact⟨J,(jG I)⟩
theorem xs_len(h:w.ownsRow base e 3 v n xs):xs.length=n*3:=h.1
end
section
variable {w w':U}{n lo hi base e size lo' hi':Nat}{v:aD}{i:Im.It}{xs:List aD}{ks:List Im.It}
def Tr(w:U):Nat->Nat->Nat->aD->aD->aD->Im.It->Prop
 |0,_,_,_,_,_,_=>False
 |n+1,lo,hi,c0,c1,c2,i=>(c0=.bool i.list/\c1=aH ⟨i.bytes.toArray⟩)/\∃(xs:List aD)(L H:Nat->Nat),w.ownsRow lo 103 3 c2 i.kids.length xs/\(∀g,c2.ownBlock=M g->g<hi)/\
   (∀j,j<i.kids.length->lo<=L j/\L j<=H j/\H j<=hi/\(∀g,c2.ownBlock=M g->g<L j\/H j<=g))/\(∀a b,a<b->b<i.kids.length->H a<=L b)/\
   ∀(j:Nat)(J:j<i.kids.length),∃E I q,xs[j*3]? =M E/\xs[j*3+1]? =M I/\xs[j*3+2]? =M q/\Tr w n (L j) (H j) E I q (i.kids[j])
def Row(w:U)(n lo hi:Nat)(v:aD)(ks:List Im.It):Prop:=∃(xs:List aD)(L H:Nat->Nat),w.ownsRow lo 103 3 v ks.length xs/\(∀g,v.ownBlock=M g->g<hi)/\
   (∀j,j<ks.length->lo<=L j/\L j<=H j/\H j<=hi/\(∀g,v.ownBlock=M g->g<L j\/H j<=g))/\(∀a b,a<b->b<ks.length->H a<=L b)/\
   ∀(j:Nat)(J:j<ks.length),∃E I q,xs[j*3]? =M E/\xs[j*3+1]? =M I/\xs[j*3+2]? =M q/\Tr w n (L j) (H j) E I q (ks[j])
theorem Tr.WM(h:Row w n lo hi v i.kids):Tr w (n+1) lo hi (.bool i.list) (aH ⟨i.bytes.toArray⟩) v i:=⟨⟨rfl,rfl⟩,h⟩
theorem Jy(h:w.ownsRow base e size v n xs)(hk:∀g,v.ownBlock=M g->w'.heap[g]? =w.heap[g]?):w'.ownsRow base e size v n xs:=by
 obtain⟨J,h2⟩:=h;refine⟨J,?_⟩;obtain h2|⟨g,cap,q,E,Y,I,r⟩:=h2
 .exact .inl h2
 .exact .inr ⟨g,cap,q,E,Y,(hk g (by rw[E];rfl)).trans I,r⟩
theorem Tr.kept:∀(n lo hi:Nat)(c0 q E:aD)(i:Im.It),(∀k,lo<=k->k<hi->w'.heap[k]? =w.heap[k]?)->Tr w n lo hi c0 q E i->Tr w' n lo hi c0 q E i
 |0,_,_,_,_,_,_,_,h=>h
 |n+1,lo,hi,c0,q,E,i,hk,h=>by
  obtain⟨h0,xs,L,H,Y,h2,h3,h4,h5⟩:=h;refine⟨h0,xs,L,H,Jy Y (λg J=>hk g (rU Y J).1 (h2 g J)),h2,h3,h4,λj hj=>?_⟩;obtain⟨d0,d1,I,e0,e1,e2,e3⟩:=h5 j hj;have:=h3 j hj;exact⟨d0,d1,I,e0,e1,e2,Tr.kept n (L j) (H j) d0 d1 I _ (λk a b=>hk k aA aA) e3⟩
theorem Row.kept(h:Row w n lo hi v ks)(hk:∀k,lo<=k->k<hi->w'.heap[k]? =w.heap[k]?):Row w' n lo hi v ks:=
 (Tr.kept (n+1) lo hi (cF bB) (aH ⟨#[]⟩) v ⟨bB,[],ks⟩ hk ⟨⟨rfl,rfl⟩,h⟩).2
theorem Tr.inn{B:Nat}:∀(n lo hi:Nat)(c0 c1 c2:aD)(i:Im.It),hi<=B->Tr w n lo hi c0 c1 c2 i->In B w n c0 c1 c2 i
 |0,_,_,_,_,_,_,_,h=>h
 |n+1,lo,hi,c0,c1,c2,i,hB,h=>by
  obtain⟨⟨I,J⟩,xs,L,H,h1,h2,h3,h4,h5⟩:=h;obtain⟨rfl,hz⟩|⟨g,cap,aa,rfl,hg,hh,ac,ab,ae,E⟩:=h1.2
  .refine⟨I,J,Z,0,by rw[hz],λY=>Xs (bP hz) Y⟩
  .refine⟨I,J,_,cap,rfl,λ_=>⟨g,0,rfl,by have:=h2 g rfl;omega,λj hj=>?_⟩⟩;obtain⟨d0,d1,d2,e0,e1,e2,e3⟩:=h5 j hj
   have q:∀(m:Nat)(u:aD),xs[m]? =M u->aa[m]? =M u:=by
    intro m u hu;have hm:=(aN.1 hu).1;have hl:=h1.1;rw[<-E,iL aA]at hu;simpa using hu
   have:=h3 j hj;refine⟨d0,d1,d2,⟨?_,?_,?_⟩,Tr.inn n (L j) (H j) d0 d1 d2 _ aA e3⟩
   .rw[aI hh,fJ];exact q _ _ e0
   .rw[aI hh,fJ];exact q _ _ e1
   .rw[aI hh,fJ];exact q _ _ e2
theorem Md{q:Nat}(h:w.ownsRow base e size v n xs)(Y:q<=base):w.ownsRow q e size v n xs:=by
 obtain⟨J,h2⟩:=h;refine⟨J,?_⟩;obtain h2|⟨g,cap,E,I,hg,r⟩:=h2
 .exact .inl h2
 .exact .inr ⟨g,cap,E,I,aA,r⟩
theorem Row.wider(h:Row w n lo hi v ks)(I:lo'<=lo)(h2:hi<=hi'):Row w n lo' hi' v ks:=by obtain⟨xs,L,H,E,q2,J,q4,Y⟩:=h;refine⟨xs,L,H,Md E I,λg q=>by have:=q2 g q;omega,λj hj=>?_,q4,Y⟩;obtain⟨a1,a2,a3,a4⟩:=J j hj;exact⟨aA,a2,aA,a4⟩
theorem Tr.wider{c0 E q:aD}(h:Tr w n lo hi c0 E q i)(I:lo'<=lo)(h2:hi<=hi'):Tr w n lo' hi' c0 E q i:=by
 cases n with
 |zero=>cases h
 |succ n=>exact⟨h.1,Row.wider h.2 I h2⟩
theorem Row.none(w:U)(n lo hi:Nat):Row w n lo hi (aR Z 0 0) []:=
 ⟨[],λ_=>0,λ_=>0,World.ownsRow_nil w lo _ 3,λg I=>by simp[eA]at I,λj q=>by simp at q,λ_ b _ E=>by simp at E,λj q=>by simp at q⟩
theorem Row.step{w1 w3 w4:U}{k:Im.It}{v' d0 d1 Y:aD}(ah:lo<=w.heap.size){L H:Nat->Nat}(I:w.ownsRow lo 103 3 v ks.length xs)(af:∀j,j<ks.length->lo<=L j/\L j<=H j/\H j<=w.heap.size/\(∀g,v.ownBlock=M g->g<L j\/H j<=g))(ag:∀a b,a<b->b<ks.length->H a<=L b)(aa:∀(j:Nat)(hj:j<ks.length),∃d0 d1 Y,xs[j*3]? =M d0/\xs[j*3+1]? =M d1/\xs[j*3+2]? =M Y/\Tr w n (L j) (H j) d0 d1 Y (ks[j]))(hnew:Tr w1 n w.heap.size w1.heap.size d0 d1 Y k)(ae:Below w.heap.size w w1)(ac:Below w1.heap.size w1 w3)(E:w4.ownsRow lo 103 3 v' (ks.length+1) (xs++[d0,d1,Y]))(ab:w3.grownBy w4 v.ownBlock)(ai:v'.ownBlock=v.ownBlock\/∃g,v'.ownBlock=M g/\w3.heap.size<=g):Row w4 n lo w4.heap.size v' (ks++[k]):=by
 have hx:=xs_len I;have s1:=ae.size;have s3:=ac.size;have s4:=ab.size;have aj:∀g,v.ownBlock=M g->g<w.heap.size:=λg hg=>(rU I hg).2;have J:(ks++[k]).length=ks.length+1:=aC
 refine⟨xs++[d0,d1,Y],λj=>if j<ks.length then L j else w.heap.size,λj=>if j<ks.length then H j else w1.heap.size,by rw[J];exact E,λg hg=>(rU E hg).2,?_,?_,?_⟩
 .intro j hj;by_cases q:j<ks.length
  .grind
  .grind
 .grind
 .intro j hj;rw[J]at hj;by_cases q:j<ks.length
  .obtain⟨e0,e1,e2,q0,q1,q2,ho⟩:=aa j q;obtain⟨a1,a2,a3,a4⟩:=af j q;simp only[ZD q];rw[List.getElem_append_left q];refine⟨e0,e1,e2,?_,?_,?_,Tr.kept n _ _ _ _ _ _ (λm m1 m2=>?_) ho⟩
   .grind
   .grind
   .grind
   .rw[ab.block m aA (λe=>by grind),ac.block m aA,ae.block m aA]
  .obtain rfl:j=ks.length:=by omega
   simp only[Zs q];rw[List.getElem_append_right jE];simp only[Nat.sub_self,List.getElem_cons_zero];refine⟨d0,d1,Y,?_,?_,?_,Tr.kept n _ _ _ _ _ _ (λm m1 m2=>?_) hnew⟩
   .grind
   .grind
   .rw[bV aA,hx,show ks.length*3+2-ks.length*3=2 from by omega];rfl
   .rw[ab.block m aA (λe=>by grind),ac.block m aA]
end
end
