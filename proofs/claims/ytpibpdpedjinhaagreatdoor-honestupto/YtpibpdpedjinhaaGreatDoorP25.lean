import Derived.Test.YtpibpdpedjinhaaGreatDoorP24
import Derived.Laws.ResultCell
import Derived.RangeFuncWrites
import Derived.Shelf.RegionOpen
set_option maxRecDepth 100000
set_option maxHeartbeats 4000000
set_option linter.all false
open Bool renaming false->aL,true->bB
open Go renaming Addr->gF,Boxed->jb,Calls->eE,Obj->pT,TypeId->cH,Value->aD,World->U,bodyPost_ret->cM,heap_alloc_new->cX,results_none->rp,run_underlying->eL
open Go.Ending renaming returned->bX
open Go.Instr renaming index->mo
open Go.IntKind renaming i64->X,wrap_u64->pZ
open Go.Joins renaming block_setCell->nw
open Go.KeepsOthers renaming setCell->gO
open Go.Lib renaming bytesWorld->pg,bytesWorld_size->pf
open Go.Obj renaming cells->aG
open Go.Proofs.Tryz renaming results219->kv,results229->np,underlying155->fX,underlying5->gD,underlying9->eI
open Go.RowKit renaming Hid->cS
open Go.Value renaming agg->gP,bool->cF,int->N,ownBlock->eA,pointer->aM,slice->aR,string->aH,tuple->dC
open Go.World renaming cell?_of_block->bN,setCell->eW
open Option renaming none->Z,some->M
namespace Go.Proofs.YtpibpdpedjinhaaGreatDoor
section
open Go.RowKit Go.Joins
def xA:Option (Bool×Nat×Nat)->aD
 |some (l,f,t)=>dC #[gP #[.bool l,N X f,N X t],cF bB]
 |none=>dC #[gP #[cF aL,N X 0,N X 0],cF aL]
def getD_byte(s:ByteArray)(f:Nat)(h:f<s.size):s.data.toList.getD f 0=s[f]:=by have q:=bD s;rw[aY,aO aA,Array.getElem_toList];rfl
def ER(l:Bool)(x y:Int)(s:ByteArray)(f n:Nat)(w:U)(hs:s.size<=16777216)(hf:f<=s.size)(hn:n<4294967296):eE PQ 229 #[gP #[.bool l,N .u8 x,N .u8 y],aH s,N X f,N .u64 n] w λe w'=>e=bX (xA (Im.chk l s.data.toList f n))/\Below w.heap.size w w':=by
 have I:=bD s;have Y:∀(a b:pT),Below w.heap.size w ((w.alloc a).alloc b):=λa b=>((aJ _ w).alloc jE _).alloc aC _;have E:cS _:=Y;clear Y;have ae:0<=(s.size:Int)-(f:Int):=aA
 have ag:IntKind.u64.wrap ((s.size:Int)-(f:Int))=(s.size:Int)-(f:Int):=by rw[pZ];omega
 by_cases h1:s.size-f<n
 .have J:Im.chk l s.data.toList f n=Z:=by unfold Im.chk;rw[<-I,ZD h1]
  rw[J];have ab:(s.size:Int)-(f:Int)<n:=aA
  clear J I;go_enter (fq Tryz.func229 rfl),Tryz.ntmps229;go_wp2_with fail;exact cM (v:=.tuple _) (by simp[results,np,go_sem]) rfl ⟨rfl,E.out _ _⟩
 .have ab:¬(s.size:Int)-(f:Int)<n:=by omega
  by_cases h2:l=aL/\n=1/\(s.data.toList.getD f 0).toNat<128
  .have J:Im.chk l s.data.toList f n=Z:=by unfold Im.chk;rw[<-I,Zs h1,ZD h2]
   rw[J];obtain⟨rfl,rfl,h3⟩:=h2;have q:f<s.size:=aA
   rw[getD_byte s f q]at h3;have af:(s[f].toNat:Int)<128:=aA
   have hx:=λu=>tH u s _ f q rfl;clear J I h3;go_enter (fq Tryz.func229 rfl),Tryz.ntmps229;go_wp2_with fail;exact cM (v:=.tuple _) (by simp[results,np,go_sem]) rfl ⟨rfl,E.out _ _⟩
  .have J:Im.chk l s.data.toList f n=M (l,f,f+n):=by unfold Im.chk;rw[<-I,Zs h1,Zs h2]
   rw[J];clear J;cases l with
   |true=>
    clear I h2;go_enter (fq Tryz.func229 rfl),Tryz.ntmps229;go_wp2_with fail;exact cM (v:=dC #[gP #[cF bB,N X f,N X (f+n)],cF bB]) (by simp[results,np,go_sem]) rfl ⟨by simp[xA],E.out _ _⟩
   |false=>
    by_cases aa:n=1
    .subst aa;have q:f<s.size:=by omega
     have h3:¬(s[f].toNat:Int)<128:=by
      rw[getD_byte s f q]at h2;intro h;exact h2 ⟨rfl,rfl,aA⟩
     have hx:=λu=>tH u s _ f q rfl;clear I h2;go_enter (fq Tryz.func229 rfl),Tryz.ntmps229;go_wp2_with fail;exact cM (v:=dC #[gP #[cF aL,N X f,N X (f+1)],cF bB]) (by simp[results,np,go_sem]) rfl ⟨by simp[xA],E.out _ _⟩
    .have ac:((n:Int) == 1)=aL:=by simp;omega
     clear I h2;go_enter (fq Tryz.func229 rfl),Tryz.ntmps229;go_wp2_with fail;exact cM (v:=dC #[gP #[cF aL,N X f,N X (f+n)],cF bB]) (by simp[results,np,go_sem]) rfl ⟨by simp[xA],E.out _ _⟩
def ext_list(s:ByteArray)(a b:Nat):(s.extract a b).data.toList=(s.data.toList.take b).drop a:=by simp[ByteArray.data_extract,Array.toList_extract,List.drop_take]
def tJ:∀(l:List UInt8)(a k:Nat),a<256 ^ k->Im.val l a<256 ^ (k+l.length)
 |[],a,k,h=>h
 |x::l,a,k,h=>by
  have:=x.toNat_lt;have h2:=tJ l (256*a+x.toNat) (k+1) aA;simp only[Im.val,aU];rw[show k+(l.length+1)=k+1+l.length from by omega];exact h2
def CZ(s:List UInt8)(k:Nat)(h:k<s.length):Im.val (s.take (k+1)) 0=256*Im.val (s.take k) 0+(s.getD k 0).toNat:=by rw[eY h,Im.val_append,aY,aO h];rfl
def Cm(a c:Nat)(q:c<256):(a*256) |||c=256*a+c:=by have:=Nat.two_pow_add_eq_or_of_lt (i:=8) (b:=c) aA a;rw[show a*256=2 ^ 8*a from by omega,<-this]
def below_bytesWorld{B:Nat}{w u:U}(h:Below B w u)(E:B<=u.heap.size)(e:cH)(s:ByteArray):Below B w (pg u e s):=
 h.trans ⟨rfl,rfl,rfl,by rw[pf];omega,λm q=>Lib.bytesWorld_at_old u e s m aA⟩
def AQ(l:Bool)(x y:Int)(s:ByteArray)(f:Nat)(w:U)(hs:s.size<=16777216)(hf:2<=f)(bh:f<=5):eE PQ 230 #[gP #[.bool l,N .u8 x,N .u8 y],aH s,N X f] w λe w'=>e=bX (xA (Im.far l s.data.toList f))/\Below w.heap.size w w':=by
 have hl:=bD s;have au:∀(a b:pT),Below w.heap.size w ((w.alloc a).alloc b):=λa b=>((aJ _ w).alloc jE _).alloc aC _;have ah:cS _:=au;clear au;by_cases h1:s.size<f
 .have E:Im.far l s.data.toList f=Z:=by unfold Im.far;rw[<-hl,ZD (.inl h1)]
  rw[E];have a9:(s.size:Int)<f:=aA
  clear E hl;go_enter (fq Tryz.func230 rfl),Tryz.ntmps230;go_wp2_with fail;exact cM (v:=.tuple _) (by simp[results,Tryz.results230,go_sem]) rfl ⟨rfl,ah.out _ _⟩
 .have a9:¬(s.size:Int)<f:=by omega
  have ap:1<s.size:=aA
  have hx:=λu=>tH u s 1 1 ap rfl;have af:=getD_byte s 1 ap;by_cases h2:s[1]=0
  .have E:Im.far l s.data.toList f=Z:=by unfold Im.far;rw[af,ZD (.inr h2)]
   rw[E];have a8:((s[1].toNat:Int) == 0)=bB:=by rw[h2];rfl
   clear E hl;go_enter (fq Tryz.func230 rfl),Tryz.ntmps230;go_wp2_with fail;exact cM (v:=.tuple _) (by simp[results,Tryz.results230,go_sem]) rfl ⟨rfl,ah.out _ _⟩
  .have a8:((s[1].toNat:Int) == 0)=aL:=by
    have:s[1].toNat≠0:=λe=>h2 (jA.1 e);simp;omega
   obtain⟨S,hS⟩:∃S:ByteArray,s.extract 1 f=S:=⟨_,rfl⟩
   have an:S.data.toList=(s.data.toList.take f).drop 1:=by rw[<-hS,ext_list]
   have bg:S.size=f-1:=by rw[<-hS];simp[fA];omega
   have a6:=λu:U=>Lib.run_convert_string_bytes (P:=PQ) u 9 155 5 S (uq eI) (uq fX) (uq gD)
   have E:Im.far l s.data.toList f=if Im.val S.data.toList 0<=55 then Z else Im.chk l s.data.toList f (Im.val S.data.toList 0):=by
    unfold Im.far;rw[<-hl,af,Zs (by grind),an]
   generalize Im.far l s.data.toList f=R at E⊢;have HR:cS _:=E;clear E hl an af;go_enter (fq Tryz.func230 rfl),Tryz.ntmps230;go_wp2_with fail;obtain⟨Wa,hX⟩:∃Wa:U,Wa=((w.alloc (aG #[cF l,N IntKind.u8 x,N IntKind.u8 y] 280)).alloc (aG #[cF aL,N X 0,N X 0] 311)):=⟨_,rfl⟩
   have aw:Wa.heap.size=w.heap.size+1+1:=by rw[hX];simp
   have a2:Below w.heap.size w Wa:=by rw[hX];exact ah.out _ _
   have ay:Wa.heap[w.heap.size]? =M (aG #[cF l,N IntKind.u8 x,N IntKind.u8 y] 280 (0,0)):=by rw[hX,aZ _ _ _ aC];exact cX _ _
   have ak:Wa.heap[w.heap.size+1]? =M (aG #[cF aL,N X 0,N X 0] 311 (0,0)):=by rw[hX];have:=cX (w.alloc (aG #[cF l,N IntKind.u8 x,N IntKind.u8 y] 280)) (aG #[cF aL,N X 0,N X 0] 311);simpa using this
   rw[<-hX];obtain⟨Y,hY⟩:∃Y:U,Y=pg Wa 5 S:=⟨_,rfl⟩
   have bb:Y.heap.size=w.heap.size+3:=by rw[hY,pf,aw]
   have aa:Below Wa.heap.size Wa Y:=by rw[hY];exact below_bytesWorld (aJ _ _) jE _ _
   have ax:∀k,k<S.size->Y.cell? ⟨w.heap.size+1+1,k,Z⟩=M (N .u8 (S.data.toList.getD k 0).toNat):=λk hk=>by rw[hY,<-aw];exact Lib.bytesWorld_cell Wa 5 S k hk
   rw[<-hY];have I:=(aa.block _ aA).trans ay;have q:=(aa.block _ aA).trans ak;have J:=a2.trans (aa.mono aA);have ac:=bD S;have HY:cS _:=jD ax (jD I (jD q J));have ab:cS _:=ac;clear hX hY ax I q J aa ay ak a2 ac a6 hx hS;generalize grownCap Wa (f-1) 0 5=gc;go_loopg [8,26] (f-1) (λg v t wx=>∃k:Nat,k<=f-1/\t=N X k/\v=N .u64 (Im.val (S.data.toList.take k) 0:Nat)/\g=f-1-k/\wx=Y)
   case atStart=>exact⟨0,dL _,rfl,rfl,rfl,rfl⟩
   case round=>
    obtain⟨k,hk,rfl,rfl,rfl,rfl⟩:=hrel
    have az:Im.val (S.data.toList.take k) 0<4294967296:=by
     have:=tJ (S.data.toList.take k) 0 0 aC;have ag:0+(S.data.toList.take k).length<=4:=aF
     have:=iO (n:=256) aB ag;omega
    by_cases bd:k<f-1
    .have a1:(k:Int)<((f-1:Nat):Int):=by omega
     have hc:=HY.out.1 k aA;generalize hb:(S.data.toList.getD k 0).toNat=b at hc;have a4:b<256:=by rw[<-hb];exact UInt8.toNat_lt _
     have ai:=CZ S.data.toList k (by rw[<-ab.out];omega);rw[hb]at ai
     have ba:Im.val (S.data.toList.take k) 0<16777216:=by
      have:=tJ (S.data.toList.take k) 0 0 aC;have ag:0+(S.data.toList.take k).length<=3:=aF
      have:=iO (n:=256) aB ag;omega
     generalize aq:Im.val (S.data.toList.take (k+1)) 0=V' at ai;have a3:cS _:=aq;clear aq;generalize Im.val (S.data.toList.take k) 0=V at *;have Hb:cS _:=hb;clear hb;go_wp2_with fail
     rw[show bits .or .u64 ((V:Int)*256) (b:Int)=V' from by
      rw[show(V:Int)*256=((V*256:Nat):Int) from by omega,bits_or_u64_nat _ _ aA aA,Cm V b a4,ai]]
     go_roundg (f-1-(k+1))
     case measure=>omega
     case rel=>
      refine⟨_,aA,by go_num,?_,rfl,rfl⟩;rw[a3.out]
    .have a1:¬(k:Int)<((f-1:Nat):Int):=by omega
     obtain rfl:k=f-1:=aA
     have a5:S.data.toList.take (f-1)=S.data.toList:=eH (by rw[<-ab.out];omega);rw[a5]at az⊢;obtain⟨_,I,q,J⟩:=HY.out;generalize Im.val S.data.toList 0=V at *;obtain⟨m0,m1,m2⟩:=cells3 I;obtain⟨r0,r1,r2⟩:=cells3 q;have fr:=aQ q;have ao:cS _:=J;have a7:cS _:=q;clear I q J HY;by_cases ar:V<=55
     .have am:(V:Int)<=55:=by omega
      have E:R=Z:=by rw[HR.out,ZD ar]
      have aj:cS _:=E;clear E HR;go_wp2_with fail;exact cM (v:=dC #[gP #[cF aL,N X 0,N X 0],cF aL]) (by simp[results,Tryz.results230,go_sem,r0,r1,r2]) rfl ⟨by rw[aj.out];rfl,((ao.out.setCell aC _).setCell aC _).setCell aC _⟩
     .have am:¬(V:Int)<=55:=by omega
      have E:R=Im.chk l s.data.toList f V:=by rw[HR.out,Zs ar]
      obtain⟨b0,f0,t0,q0,hV⟩:∃b0 f0 t0 q0,xA (Im.chk l s.data.toList f V)=dC #[gP #[.bool b0,N X f0,N X t0],.bool q0]:=by
       cases Im.chk l s.data.toList f V with
       |none=>exact⟨_,_,_,_,rfl⟩
       |some z=>exact⟨_,_,_,_,rfl⟩
      have HV:cS _:=hV;have aj:cS _:=E;clear E HR hV;go_wp2_with fail;refine(ER l x y s f V wr hs aA az).mono ?_;rintro e w3 ⟨rfl,av⟩;rw[HV.out];have ae:=(av.block _ aA).trans a7.out;obtain⟨z0,z1,z2⟩:=cells3 ae;have fz:=aQ ae;have HB:cS _:=ao.out.trans (av.mono aA);clear r0 r1 r2 fr m0 m1 m2 ae;go_wp2_with fail;exact cM (v:=dC #[gP #[.bool b0,N X f0,N X t0],.bool q0]) (by simp[results,Tryz.results230,go_sem,z0,z1,z2]) rfl ⟨by rw[aj.out,HV.out],((HB.out.setCell aC _).setCell aC _).setCell aC _⟩
def adQ(u:U):(mo 306 (gP #[cF aL,N .u8 128,N .u8 183,cF bB,N .u8 192,N .u8 247]) (N X 0)).run PQ u=.ok (gP #[cF aL,N .u8 128,N .u8 183]) u:=by simp[mo,eL (uq Tryz.underlying306),asIntOf,go_sem]
def adh(u:U):(mo 306 (gP #[cF aL,N .u8 128,N .u8 183,cF bB,N .u8 192,N .u8 247]) (N X 1)).run PQ u=.ok (gP #[cF bB,N .u8 192,N .u8 247]) u:=by simp[mo,eL (uq Tryz.underlying306),asIntOf,go_sem]
def GH(s:ByteArray)(w:U)(hs:s.size<=16777216)(hH:kG w):eE PQ 219 #[aH s] w λe w'=>e=bX (xA (Im.body s.data.toList))/\Below w.heap.size w w':=by
 have hl:=bD s;have h0:=hH.pos;have ai:=toList_empty s;by_cases hz:s.size=0
 .have hR:Im.body s.data.toList=Z:=by
   have:s.data.toList=[]:=bP aA;rw[this];rfl
  rw[hR];have he:s.toList.isEmpty=bB:=by rw[ai];simp[hz]
  clear hR hl ai;go_enter (fq Tryz.func219 rfl),Tryz.ntmps219;go_wp2_with fail;exact cM (v:=.tuple _) (by simp[results,kv,go_sem]) rfl ⟨rfl,(aJ _ w).alloc jE _⟩
 .have he:s.toList.isEmpty=aL:=by rw[ai];simp[hz]
  have aq:0<s.size:=aA
  have hx:=λu=>tH u s 0 0 aq rfl;obtain⟨c,hc⟩:∃c:UInt8,s[0]=c:=⟨_,rfl⟩
  have az:=c.toNat_lt;rw[hc]at hx;have hR:Im.body s.data.toList=if c.toNat<128 then M (aL,0,1)
  else if c.toNat<=183 then Im.chk aL s.data.toList 1 (c.toNat-128)
  else if c.toNat<=187 then Im.far aL s.data.toList (1+(c.toNat-183))
  else if c.toNat<192 then Z
  else if c.toNat<=247 then Im.chk bB s.data.toList 1 (c.toNat-192)
  else if c.toNat<=251 then Im.far bB s.data.toList (1+(c.toNat-247))
  else Z:=by
   have hg:=getD_byte s 0 aq;rw[hc]at hg;cases hd:s.data.toList with
   |nil=>grind
   |cons a r=>
    rw[hd]at hg;simp at hg;subst hg;rfl
  generalize Im.body s.data.toList=R at hR⊢;have HR:cS _:=hR;clear hR hl ai hc;generalize hn:c.toNat=n at *;clear hn;by_cases ar:n<128
  .have an:(n:Int)<128:=by omega
   go_enter (fq Tryz.func219 rfl),Tryz.ntmps219;go_wp2_with fail;exact cM (v:=dC #[gP #[cF aL,N X 0,N X 1],cF bB]) (by simp[results,kv,go_sem]) rfl ⟨by rw[HR.out,ZD ar];rfl,(aJ _ w).alloc jE _⟩
  .have an:¬(n:Int)<128:=by omega
   have av:=hH;obtain⟨⟨a0,a1,a2⟩,a3,a4,a5⟩:=av;simp only[fJ,Nat.reduceAdd]at a1 a2 a4 a5;obtain⟨Wa,hX,ac,J⟩:=jI w #[cF aL,N X 0,N X 0] 311;have ak:Wa.heap.size=w.heap.size+1:=by rw[hX];simp
   have hV:∀R':Option (Bool×Nat×Nat),∃b0 f0 t0 q0,xA R'=dC #[gP #[.bool b0,N X f0,N X t0],.bool q0]:=by
    intro R';cases R' with
    |none=>exact⟨_,_,_,_,rfl⟩
    |some z=>exact⟨_,_,_,_,rfl⟩
   have aj:cS _:=hV;clear hV;go_enter (fq Tryz.func219 rfl),Tryz.ntmps219;go_wp2_with fail;rw[<-hX];have HX:cS _:=jD ak (jD ac J);clear hX ak ac J a0 a1 a2 a3 a4 a5;go_loopg [16] 2 (λg t wx=>∃k:Nat,k<=2/\t=N X k/\g=2-k/\Below (w.heap.size+1) Wa wx/\(1<=k->187<n)/\(k=2->n<192\/251<n))
   case atStart=>exact⟨0,dL _,rfl,rfl,aJ _ _,λh=>aA,λh=>aA⟩
   case round=>
    obtain⟨k,hk,rfl,rfl,hb,ao,au⟩:=hrel;obtain⟨ak,ac,J⟩:=HX.out;have ab:=hb.size;rw[ak]at ab;have I:=(hb.block _ aA).trans J;have ag:=ac.trans (hb.mono aA);have ay:=adQ;have ax:=adh
    match k,hk with
    |0,_=>
     have ap:=ao;by_cases h1:128<=n/\n<=183
     .obtain⟨g1,g2⟩:=h1;have hR:R=Im.chk aL s.data.toList 1 (n-128):=by rw[HR.out];repeat' first|rw[Zs aA]|rw[ZD aA]
      obtain⟨b0,f0,t0,q0,hV⟩:=aj.out (Im.chk aL s.data.toList 1 (n-128));have HV:cS _:=hV;have aa:cS _:=hR;have ae:cS _:=I;clear hR HR hV I J;have ah:(128:Int)<=(n:Int):=aA
      have af:(n:Int)<=183:=aA
      go_wp2_with fail;rw[show(n:Int)-128=((n-128:Nat):Int) from by omega];refine(ER aL _ _ s 1 _ _ hs aA aA).mono ?_;rintro e w3 ⟨rfl,E⟩;have Y:=(hb.alloc ab _).trans (E.mono aF);rw[HV.out];have q:=(E.block _ aF).trans ((aZ _ _ _ aA).trans ae.out);obtain⟨z0,z1,z2⟩:=cells3 q;have fz:=aQ q;have HB:cS (Below w.heap.size w w3):=ac.trans (Y.mono aA);clear q E Y hb ag;go_wp2_with fail;exact cM (v:=dC #[gP #[.bool b0,N X f0,N X t0],.bool q0]) (by simp[results,kv,go_sem,z0,z1,z2]) rfl ⟨by rw[aa.out,HV.out],((HB.out.setCell aC _).setCell aC _).setCell aC _⟩
     .by_cases h2:183<n/\n<=187
      .obtain⟨g1,g2⟩:=h2;have hR:R=Im.far aL s.data.toList (1+(n-183)):=by rw[HR.out];repeat' first|rw[Zs aA]|rw[ZD aA]
       obtain⟨b0,f0,t0,q0,hV⟩:=aj.out (Im.far aL s.data.toList (1+(n-183)));have HV:cS _:=hV;have aa:cS _:=hR;have ae:cS _:=I;clear hR HR hV I J;have ah:(183:Int)<(n:Int):=aA
       have af:(n:Int)<=187:=aA
       go_wp2_with fail;rw[show 1+((n:Int)-183)=((1+(n-183):Nat):Int) from by omega];refine(AQ aL _ _ s _ _ hs aA aA).mono ?_;rintro e w3 ⟨rfl,E⟩;have Y:=(hb.alloc ab _).trans (E.mono aF);rw[HV.out];have q:=(E.block _ aF).trans ((aZ _ _ _ aA).trans ae.out);obtain⟨z0,z1,z2⟩:=cells3 q;have fz:=aQ q;have HB:cS (Below w.heap.size w w3):=ac.trans (Y.mono aA);clear q E Y hb ag;go_wp2_with fail;exact cM (v:=dC #[gP #[.bool b0,N X f0,N X t0],.bool q0]) (by simp[results,kv,go_sem,z0,z1,z2]) rfl ⟨by rw[aa.out,HV.out],((HB.out.setCell aC _).setCell aC _).setCell aC _⟩
      .have h3:187<n:=by omega
       have ah:(128:Int)<=(n:Int):=aA
       have af:(183:Int)<(n:Int):=aA
       have aw:(187:Int)<(n:Int):=aA
       clear I J;go_wp2_with fail;go_roundg 1
       case measure=>omega
       case rel=>exact⟨1,aA,rfl,rfl,hb.alloc ab _,λ_=>h3,λh=>aA⟩
    |1,_=>
     have ap:=ao;have am:=ao aA;by_cases h1:192<=n/\n<=247
     .obtain⟨g1,g2⟩:=h1;have hR:R=Im.chk bB s.data.toList 1 (n-192):=by rw[HR.out];repeat' first|rw[Zs aA]|rw[ZD aA]
      obtain⟨b0,f0,t0,q0,hV⟩:=aj.out (Im.chk bB s.data.toList 1 (n-192));have HV:cS _:=hV;have aa:cS _:=hR;have ae:cS _:=I;clear hR HR hV I J;have ah:(192:Int)<=(n:Int):=aA
      have af:(n:Int)<=247:=aA
      go_wp2_with fail;rw[show(n:Int)-192=((n-192:Nat):Int) from by omega];refine(ER bB _ _ s 1 _ _ hs aA aA).mono ?_;rintro e w3 ⟨rfl,E⟩;have Y:=(hb.alloc ab _).trans (E.mono aF);rw[HV.out];have q:=(E.block _ aF).trans ((aZ _ _ _ aA).trans ae.out);obtain⟨z0,z1,z2⟩:=cells3 q;have fz:=aQ q;have HB:cS (Below w.heap.size w w3):=ac.trans (Y.mono aA);clear q E Y hb ag;go_wp2_with fail;exact cM (v:=dC #[gP #[.bool b0,N X f0,N X t0],.bool q0]) (by simp[results,kv,go_sem,z0,z1,z2]) rfl ⟨by rw[aa.out,HV.out],((HB.out.setCell aC _).setCell aC _).setCell aC _⟩
     .by_cases h2:247<n/\n<=251
      .obtain⟨g1,g2⟩:=h2;have hR:R=Im.far bB s.data.toList (1+(n-247)):=by rw[HR.out];repeat' first|rw[Zs aA]|rw[ZD aA]
       obtain⟨b0,f0,t0,q0,hV⟩:=aj.out (Im.far bB s.data.toList (1+(n-247)));have HV:cS _:=hV;have aa:cS _:=hR;have ae:cS _:=I;clear hR HR hV I J;have ah:(247:Int)<(n:Int):=aA
       have af:(n:Int)<=251:=aA
       go_wp2_with fail;rw[show 1+((n:Int)-247)=((1+(n-247):Nat):Int) from by omega];refine(AQ bB _ _ s _ _ hs aA aA).mono ?_;rintro e w3 ⟨rfl,E⟩;have Y:=(hb.alloc ab _).trans (E.mono aF);rw[HV.out];have q:=(E.block _ aF).trans ((aZ _ _ _ aA).trans ae.out);obtain⟨z0,z1,z2⟩:=cells3 q;have fz:=aQ q;have HB:cS (Below w.heap.size w w3):=ac.trans (Y.mono aA);clear q E Y hb ag;go_wp2_with fail;exact cM (v:=dC #[gP #[.bool b0,N X f0,N X t0],.bool q0]) (by simp[results,kv,go_sem,z0,z1,z2]) rfl ⟨by rw[aa.out,HV.out],((HB.out.setCell aC _).setCell aC _).setCell aC _⟩
      .have h3:n<192\/251<n:=by omega
       clear I J;obtain h3|h3:=h3
       .have ah:(n:Int)<192:=by omega
        have af:(n:Int)<=247:=aA
        go_wp2_with fail;go_roundg 0
        case measure=>omega
        case rel=>exact⟨2,aA,rfl,rfl,hb.alloc ab _,λ_=>am,λ_=>aA⟩
       .have ah:(192:Int)<=(n:Int):=by omega
        have af:(247:Int)<(n:Int):=aA
        have aw:(251:Int)<(n:Int):=aA
        go_wp2_with fail;go_roundg 0
        case measure=>omega
        case rel=>exact⟨2,aA,rfl,rfl,hb.alloc ab _,λ_=>am,λ_=>aA⟩
    |2,_=>
     have ap:=au rfl;have hR:R=Z:=by rw[HR.out];repeat' first|rw[Zs aA]|split|rfl|omega
     have aa:cS _:=hR;obtain⟨z0,z1,z2⟩:=cells3 I;have fz:=aQ I;have HB:cS _:=ag;clear I J hR HR hb ag;go_wp2_with fail;exact cM (v:=dC #[gP #[cF aL,N X 0,N X 0],cF aL]) (by simp[results,kv,go_sem,z0,z1,z2]) rfl ⟨by rw[aa.out];rfl,((HB.out.setCell aC _).setCell aC _).setCell aC _⟩
end
section
open Go.RowKit Go.Joins Go.Shelf
attribute [local go_sem] Oper.semAt_some
variable {u0 u1 u2 c0 c1 c2:aD}{t:cH}{wr w3:U}{n lo:Nat}{i:Im.It}
def XC:Go.Shelf.Ren:=⟨fun|316=>198|n=>n,fun|0=>0|3=>3|4=>4|5=>5|9=>9|37=>155|127=>239|n=>n,fun|n=>n⟩
theorem KE:Go.Proofs.LaysM.n316 PQ XC:={
 mixed:=XN
 f316:=(fq Tryz.func198 rfl).trans (Z1 M XN)
 t0:=(uq Tryz.underlying0)
 a0:=(qp Tryz.isAgg0)
 z0:=(oO Tryz.sizeOf0)
 v0:=(qj Tryz.zeroValue0)
 t3:=(uq Tryz.underlying3)
 a3:=(qp Tryz.isAgg3)
 z3:=(oO Tryz.sizeOf3)
 v3:=(qj Tryz.zeroValue3)
 t4:=(uq Tryz.underlying4)
 a4:=(qp Tryz.isAgg4)
 z4:=(oO Tryz.sizeOf4)
 v4:=(qj Tryz.zeroValue4)
 t5:=(uq gD)
 a5:=(qp Tryz.isAgg5)
 z5:=(oO Tryz.sizeOf5)
 v5:=(qj Tryz.zeroValue5)
 t9:=(uq eI)
 a9:=(qp Tryz.isAgg9)
 z9:=(oO Tryz.sizeOf9)
 v9:=(qj Tryz.zeroValue9)
 t37:=(uq fX)
 a37:=(qp Tryz.isAgg155)
 z37:=(oO Tryz.sizeOf155)
 v37:=(qj Tryz.zeroValue155)
 t127:=(uq Tryz.underlying239)
 a127:=(qp Tryz.isAgg239)
 z127:=(oO Tryz.sizeOf239)
 v127:=(qj Tryz.zeroValue239)
 i0:=XN
 i3:=XN
 i4:=XN
 i5:=XN
 i9:=XN
 i37:=XN
 i127:=by kernel_rfl }
theorem clone_any(s:ByteArray)(w:U)(hs:s.size<=16777216):eE PQ 151 #[aH s] w λe w'=>e=bX (aH s)/\Below w.heap.size w w':=by go_enter (fq Tryz.func151 rfl),Tryz.ntmps151;go_wp2_with fail;refine(Any.stringslite_Clone (ρ:=XC) KE s w aA).mono ?_;rintro e w1 ⟨rfl,q⟩;go_wp2_with fail;go_ret;exact⟨rfl,q⟩
def Got(n lo:Nat)(w':U)(e:Ending):Option (Im.It×Nat)->Prop
 |none=>e=bX (dC #[gP #[cF aL,aH ⟨#[]⟩,aR Z 0 0],N X 0,cF aL])
 |some x=>∃a cap,e=bX (dC #[gP #[.bool x.1.list,aH ⟨x.1.bytes.toArray⟩,.slice a x.1.kids.length cap],N X x.2,cF bB])/\Tr w' n lo w'.heap.size (.bool x.1.list) (aH ⟨x.1.bytes.toArray⟩) (.slice a x.1.kids.length cap) x.1
def FirstSaid(d:Nat):Prop:=∀(s:ByteArray)(q:Nat)(w:U),s.size<=16777216->q+d=9->kG w->
  eE PQ 206 #[aH s,N X q] w λe w'=>Got (d+1) w.heap.size w' e (Im.read Im.body d s.data.toList)/\Below w.heap.size w w'
structure Wa where
 e:Nat
 i:Im.It
 a:Option gF
 cap:Nat
def Wa.encs(x:Wa):Array aD:=#[N X x.e,gP #[.bool x.i.list,aH ⟨x.i.bytes.toArray⟩,.slice x.a x.i.kids.length x.cap]]
def sJ(l:List Wa):Nat:=l.foldl (λ_ x=>x.e) 0
theorem nZ(l:List Wa)(x:Wa):sJ (l++[x])=x.e:=by simp[sJ]
def XY(n:Nat)(q:List Wa)(x:Wa)(lo:Nat)(W:U):Prop:=q.length<16777216/\Tr W n lo W.heap.size (.bool x.i.list) (aH ⟨x.i.bytes.toArray⟩) (.slice x.a x.i.kids.length x.cap) x.i
theorem XY.turn(n:Nat)(q:List Wa)(x:Wa)(lo:Nat)(W E:U)(h:∀k,lo<=k->E.heap[k]? =W.heap[k]?)(hs:E.heap.size=W.heap.size)(I:XY n q x lo W):XY n q x lo E:=by refine⟨I.1,?_⟩;rw[hs];exact Tr.kept n _ _ _ _ _ _ (λk J _=>h k J) I.2
def Done(d:Nat)(s:ByteArray)(xs:List Wa):Prop:=∃p,Im.nG (Im.read Im.body d) s.data.toList (xs.map Wa.i) p/\sJ xs=p/\(s.size<=p\/p<s.size/\Im.read Im.body d (s.data.toList.drop p)=Z)
def Left(d:Nat)(s:ByteArray)(xs:List Wa):Prop:=∃p,Im.nG (Im.read Im.body d) s.data.toList (xs.map Wa.i) p/\sJ xs=p
theorem K3.Jm(w:U)(x y z:aD)(t:cH):K3 (w.alloc (aG #[x,y,z] t)) w.heap.size 0 x y z:=⟨aC,aC,aC⟩
theorem K3.agu{w:U}{b:Nat}(h:w.heap[b]? =M (aG #[u0,u1,u2] t (0,0)))(x y z:aD):K3 (((w.setCell ⟨b,0,Z⟩ x).setCell ⟨b,1,Z⟩ y).setCell ⟨b,2,Z⟩ z) b 0 x y z:=by have q:=nw h (i:=0) x;have h2:=nw q (i:=1) y;have h3:=nw h2 (i:=2) z;refine⟨?_,?_,?_⟩<;>rw[aI h3]<;>simp
theorem Jg(E:Below wr.heap.size wr w3)(ht:Tr w3 n lo w3.heap.size c0 c1 c2 i)(q:wr.heap.size<=lo)(t:cH):Below wr.heap.size wr (w3.alloc (aG #[c0,c1,c2] t))/\K3 (w3.alloc (aG #[c0,c1,c2] t)) w3.heap.size 0 c0 c1 c2/\Tr (w3.alloc (aG #[c0,c1,c2] t)) n wr.heap.size (w3.alloc (aG #[c0,c1,c2] t)).heap.size c0 c1 c2 i:=
 ⟨E.alloc E.size _,K3.Jm _ _ _ _ _,Tr.wider (Tr.kept n _ _ _ _ _ _ (λ_ _ I=>aZ _ _ _ I) ht) q aC⟩
theorem SG(E:Below wr.heap.size wr w3)(ht:Tr w3 n lo w3.heap.size c0 c1 c2 i)(q:wr.heap.size<lo)(I:w3.heap[wr.heap.size]? =M (aG #[u0,u1,u2] t (0,0))):Below wr.heap.size wr (((w3.setCell ⟨wr.heap.size,0,Z⟩ c0).setCell ⟨wr.heap.size,1,Z⟩ c1).setCell ⟨wr.heap.size,2,Z⟩ c2)/\K3 (((w3.setCell ⟨wr.heap.size,0,Z⟩ c0).setCell ⟨wr.heap.size,1,Z⟩ c1).setCell ⟨wr.heap.size,2,Z⟩ c2) wr.heap.size 0 c0 c1 c2/\Tr (((w3.setCell ⟨wr.heap.size,0,Z⟩ c0).setCell ⟨wr.heap.size,1,Z⟩ c1).setCell ⟨wr.heap.size,2,Z⟩ c2) n wr.heap.size (((w3.setCell ⟨wr.heap.size,0,Z⟩ c0).setCell ⟨wr.heap.size,1,Z⟩ c1).setCell ⟨wr.heap.size,2,Z⟩ c2).heap.size c0 c1 c2 i:=
 ⟨((E.setCell jE _).setCell jE _).setCell jE _,K3.agu I _ _ _,Tr.wider (Tr.kept n _ _ _ _ _ _ (λ_ J _=>by
  rw[aW _ _ _ _ aF,aW _ _ _ _ aF,aW _ _ _ _ aF]) ht) aA (by simp[eW])⟩
theorem FN(d:Nat)(hf:FirstSaid d)(s:ByteArray)(ac sB dB:Nat)(w:U)(hs:s.size<=16777216)(bh:ac+d=9)(hH:kG w)(h0:1<w.heap.size)(ax:w.cell? ⟨sB,0,Z⟩=M (aH s))(a6:w.cell? ⟨dB,0,Z⟩=M (N X ac))(bd:sB<w.heap.size)(hdl:dB<w.heap.size):Gives PQ 205 #[aM (M ⟨sB,0,Z⟩),aM (M ⟨dB,0,Z⟩)] Wa.encs (λk=>k=1\/k=sB\/k=dB) (XY (d+1)) (Done d s) (Left d s) w:=by
 intro l J Jx W hW av aw;have Hf:cS _:=hf;have HY:cS _:=av;have ba:cS _:=aw;clear hf av aw;refine callsIn_of_wp (fq Tryz.func205 rfl) rfl trivial ?_ rfl;simp only[Tryz.ntmps205,dR,aU,bY,Nat.reduceAdd,Nat.reduceSub,dH,dG,dU,dI,dS,dN];gi_wp2
 gi_loopw [4] (λt wr=>∃(Y:List Wa)(W0:U)(p:Nat),t=N X p/\cS (Im.nG (Im.read Im.body d) s.data.toList (Y.map Wa.i) p/\sJ Y=p/\p<=s.size/\Y.length<=p/\J Y W0/\Below W0.heap.size W0 wr/\kG wr/\sB<wr.heap.size/\dB<wr.heap.size)/\wr.cell? ⟨sB,0,Z⟩=M (aH s)/\wr.cell? ⟨dB,0,Z⟩=M (N X ac))
  (λt wr=>s.size-(intOf t).toNat)
 case atStart=>
  have:=hW.size;exact⟨[],W,0,rfl,⟨Im.nG.nil,rfl,dL _,jE,ba.out,aJ _ _,hH.below hW h0,aA,aA⟩,(hW.cell (p:=⟨sB,0,Z⟩) bd).trans ax,(hW.cell (p:=⟨dB,0,Z⟩) hdl).trans a6⟩
 case round=>
  obtain⟨Y,W0,p,rfl,Hr,c0,c1⟩:=hrel;clear ax a6;by_cases ao:p<s.size
  .have a8:(p:Int)<s.size:=by omega
   have bg:(s.extract p s.size).size<=16777216:=aF
   have am:(s.extract p s.size).data.toList=s.data.toList.drop p:=by rw[ext_list,eH (by rw[<-bD];omega)]
   have E:=λW hW=>Hf.out _ ac W bg bh (Hr.out.2.2.2.2.2.2.1.below hW Hr.out.2.2.2.2.2.2.1.pos);have q:=aJ wr.heap.size wr;obtain⟨_,_,_,_,_,_,_,bj,bb⟩:=Hr.out;have bo:sB≠wr.heap.size:=aA
   have br:dB≠wr.heap.size:=aA
   rw[am]at E;generalize hC:Im.read Im.body d (s.data.toList.drop p)=C at E;have ae:cS _:=E;have HC:cS _:=hC;clear E hC am;gi_wp2;refine wpIn_wide.2 ?_;cases C with
   |none=>
    go_cut [5,6,7] (λv5 v6 v7 wx=>v7=cF aL/\Below wr.heap.size wr wx)
    case first=>
     go_region_with (go_at_call 206;refine(ae.out _ ?_).mono ?_;(first|exact q|exact q.drew|exact below_drewN q _|exact q.alloc jE _|exact below_drewN (q.alloc jE _) _|exact(below_drewN q _).alloc jE _);rintro e w3 ⟨ap,af⟩;obtain rfl:=ap;have I:Below wr.heap.size wr w3:=Below.trans (by first|exact q|exact q.drew|exact below_drewN q _|exact q.alloc jE _|exact below_drewN (q.alloc jE _) _|exact(below_drewN q _).alloc jE _) (af.mono aC);(try (have hz:w3.heap[wr.heap.size]? =M (aG #[cF aL,aH ⟨#[]⟩,aR Z 0 0] 103 (0,0)):=(af.block _ aC).trans (by first|exact cX _ _|(have:=cX (wr.drewN 0) (aG #[cF aL,aH ⟨#[]⟩,aR Z 0 0] 103);simpa using this));have z0:w3.cell? ⟨wr.heap.size,0,Z⟩=M (cF aL):=(by rw[aI hz];rfl);have z1:w3.cell? ⟨wr.heap.size,1,Z⟩=M (aH ⟨#[]⟩):=(by rw[aI hz];rfl);have z2:w3.cell? ⟨wr.heap.size,2,Z⟩=M (aR Z 0 0):=(by rw[aI hz];rfl);have fz:=aQ hz)))
     all_goals
      go_wp2_with fail;go_meet;refine⟨rfl,?_⟩
      first
       |exact I.alloc I.size _
       |exact below_drewN (I.alloc I.size _) _
       |exact((I.setCell jE _).setCell jE _).setCell jE _
       |exact below_drewN (((I.setCell jE _).setCell jE _).setCell jE _) _
    case rest=>
     obtain⟨rfl,ab⟩:=hcut;gi_wp2;refine cM (rp rfl _ _ _) rfl ?_;obtain⟨he,ai,ay,az,hJ,aa,ah,_,_⟩:=Hr.out;exact⟨⟨_,rfl⟩,.inl ⟨Y,W0,⟨p,he,ai,.inr ⟨ao,HC.out⟩⟩,hJ,aa.trans (ab.mono aa.size)⟩⟩
   |some x=>
    obtain⟨i,n⟩:=x;have an:=Im.sZ Im.pF d _ _ _ HC.out;rw[dW,<-bD]at an;have bu:=an.1;have bm:p+n<=s.size:=aA
    clear an;obtain⟨IB,aq⟩:∃IB:ByteArray,(⟨i.bytes.toArray⟩:ByteArray)=IB:=⟨_,rfl⟩
    go_cut [5,6,7] (λv5 v6 v7 wx=>∃(b:Nat)(a:Option gF)(cap:Nat),v5=aM (M ⟨b,0,Z⟩)/\v6=N X n/\v7=cF bB/\Below wr.heap.size wr wx/\K3 wx b 0 (.bool i.list) (aH IB) (.slice a i.kids.length cap)/\Tr wx (d+1) wr.heap.size wx.heap.size (.bool i.list) (aH IB) (.slice a i.kids.length cap) i)
    case first=>
     go_region_with (go_at_call 206;refine(ae.out _ ?_).mono ?_;(first|exact q|exact q.drew|exact below_drewN q _|exact q.alloc jE _|exact below_drewN (q.alloc jE _) _|exact(below_drewN q _).alloc jE _);rintro e w3 ⟨ap,af⟩;obtain⟨a3,ak,rfl,aj⟩:=ap;simp only at aj⊢;rw[aq]at aj⊢;have au:cS (Tr _ _ _ _ _ _ _ _):=aj;clear aj;have I:Below wr.heap.size wr w3:=Below.trans (by first|exact q|exact q.drew|exact below_drewN q _|exact q.alloc jE _|exact below_drewN (q.alloc jE _) _|exact(below_drewN q _).alloc jE _) (af.mono aC);(try (have hz:w3.heap[wr.heap.size]? =M (aG #[cF aL,aH ⟨#[]⟩,aR Z 0 0] 103 (0,0)):=(af.block _ aC).trans (by first|exact cX _ _|(have:=cX (wr.drewN 0) (aG #[cF aL,aH ⟨#[]⟩,aR Z 0 0] 103);simpa using this));have z0:w3.cell? ⟨wr.heap.size,0,Z⟩=M (cF aL):=(by rw[aI hz];rfl);have z1:w3.cell? ⟨wr.heap.size,1,Z⟩=M (aH ⟨#[]⟩):=(by rw[aI hz];rfl);have z2:w3.cell? ⟨wr.heap.size,2,Z⟩=M (aR Z 0 0):=(by rw[aI hz];rfl);have fz:=aQ hz)))
     all_goals
      go_wp2_with fail;go_meet
      first
       |exact⟨_,a3,ak,rfl,rfl,rfl,Jg I au.out aC _⟩
       |exact⟨_,a3,ak,rfl,rfl,rfl,SG I au.out aC hz⟩
    case rest=>
     obtain⟨b,a,cap,rfl,rfl,rfl,ab,⟨k0,k1,k2⟩,ag⟩:=hcut;rw[fJ]at k1 k2;rw[<-aq]at ag;obtain⟨he,ai,ay,az,hJ,aa,ah,_,_⟩:=Hr.out;have a9:=aa.trans (ab.mono aa.size);obtain⟨fn,tmps,assign,body,hy,hR⟩:=HY.out Y ⟨p+n,i,a,cap⟩ W0 wc hJ a9 ⟨aA,ag.wider aa.size jE⟩;simp only[Wa.encs,Int.natCast_add]at hy;rw[aq]at hy;have HR:cS _:=hR;have bv:cS _:=ag;clear hR ag;have bq:(p:Int)+(n:Int)<=16777216:=aA
     gi_wp2;refine RoundIn.mono HR.out ?_;rintro e W3 (⟨rfl,bl,bs,ar⟩|⟨rfl,a7⟩)
     .gi_wp2;go_roundw
      case rel=>
       have q0:=ar 1 (.inl rfl);have q1:=ar sB (.inr (.inl rfl));have q2:=ar dB (.inr (.inr rfl));have s5:=ab.size;have bk:=ah.below ab ah.pos;refine⟨_,W3,p+n,aC,⟨?_,nZ _ _,bm,aF,bl,aJ _ _,?_,aA,aA⟩,?_,?_⟩
       .rw[bJ];exact Im.nG.snoc he (by rw[<-bD];exact ao) HC.out
       .obtain⟨⟨a0,a1,a2⟩,a3,a4,a5⟩:=bk;exact⟨⟨(bN q0).trans a0,(bN q0).trans a1,(bN q0).trans a2⟩,(bN q0).trans a3,(bN q0).trans a4,(bN q0).trans a5⟩
       .exact(bN q1).trans ((ab.cell (p:=⟨sB,0,Z⟩) bj).trans c0)
       .exact(bN q2).trans ((ab.cell (p:=⟨dB,0,Z⟩) bb).trans c1)
      case measure=>simp[intOf];omega
     .gi_wp2;refine cM (rp rfl _ _ _) rfl ?_;refine⟨⟨_,rfl⟩,.inr ⟨_,W3,⟨p+n,?_,nZ _ _⟩,a7,aJ _ _⟩⟩;rw[bJ];exact Im.nG.snoc he (by rw[<-bD];exact ao) HC.out
  .have a8:¬(p:Int)<s.size:=by omega
   gi_wp2;go_end0;obtain⟨he,ai,ay,az,hJ,aa,ah,_,_⟩:=Hr.out;exact⟨⟨_,rfl⟩,.inl ⟨Y,⟨p,he,ai,.inl aA⟩,W0,hJ,aa⟩⟩
end
section
open Go.RowKit Go.Joins
section
variable {w w' A B:U}{n lo base e k g cap size:Nat}{v:aD}{ks:List Im.It}{row:Option Nat}{xs:List aD}
theorem Tr.Om:∀(n lo q:Nat)(c0 E J:aD)(i:Im.It),(∀k o,lo<=k->k<q->w.heap[k]? =M o->o.isCells=bB->w'.heap[k]? =M o)->Tr w n lo q c0 E J i->Tr w' n lo q c0 E J i
 |0,_,_,_,_,_,_,_,h=>h
 |n+1,lo,q,c0,E,J,i,hk,h=>by
  obtain⟨h0,xs,L,H,h1,h2,h3,h4,h5⟩:=h;refine⟨h0,xs,L,H,⟨h1.1,?_⟩,h2,h3,h4,λj hj=>?_⟩
  .obtain hz|⟨g,cap,I,hv,hg,hh,r⟩:=h1.2
   .exact .inl hz
   .exact .inr ⟨g,cap,I,hv,hg,hk g _ hg (h2 g (by rw[hv];rfl)) hh rfl,r⟩
  .obtain⟨d0,d1,Y,e0,e1,e2,e3⟩:=h5 j hj;have:=h3 j hj;exact⟨d0,d1,Y,e0,e1,e2,Tr.Om n (L j) (H j) d0 d1 Y _ (λk o a b=>hk k o aA aA) e3⟩
theorem Row.Om{q:Nat}(h:Row w n lo q v ks)(hk:∀k o,lo<=k->k<q->w.heap[k]? =M o->o.isCells=bB->w'.heap[k]? =M o):Row w' n lo q v ks:=
 (Tr.Om (n+1) lo q (cF bB) (aH ⟨#[]⟩) v ⟨bB,[],ks⟩ hk ⟨⟨rfl,rfl⟩,h⟩).2
theorem kT(I:A.grownBy B row)(E:∀r,row=M r->∃o:pT,A.heap[r]? =M o/\o.isCells=aL):∀(k:Nat)(o:pT),A.heap[k]? =M o->o.isCells=bB->B.heap[k]? =M o:=by intro k o hk ho;refine(I.block k (jG hk) (λe=>?_)).trans hk;obtain⟨o',q,h2⟩:=E k e.symm;rw[hk]at q;cases q;rw[ho]at h2;cases h2
theorem Row.turn(h:Row A n lo A.heap.size v ks)(q:A.grownBy B row)(E:∀r,row=M r->∃o:pT,A.heap[r]? =M o/\o.isCells=aL):Row B n lo B.heap.size v ks:=
 (h.Om (λk o _ _=>kT q E k o)).wider jE q.size
theorem Tr.turn{c0 I q:aD}{i:Im.It}(h:Tr A n lo A.heap.size c0 I q i)(E:A.grownBy B row)(J:∀r,row=M r->∃o:pT,A.heap[r]? =M o/\o.isCells=aL):Tr B n lo B.heap.size c0 I q i:=
 (Tr.Om n _ _ _ _ _ _ (λk o _ _=>kT E J k o) h).wider jE E.size
theorem GK{F:Fence}{P:Program}{o:Oper}{a:Act}{K:Act->U->Prop}{Q:Exit->Act->U->Prop}{s x:Operand}{t:cH}{u v':aD}(hw:Bool)(q:hw=bB)
  (ho:o.op=.call { callee:=.builtin .append,args:=#[s,x],argTypes:=#[t,t] }) (hs:a.eval s=v) (Y:a.eval x=u) (J:(Builtin.append_ #[t,t] o.type #[v,u]).run P w=.ok v' w') (I:K (a.put o.dst v') w') {E:Prop}:
  if hw=bB then Oper.wpIn F n P o a w K Q else E:=by
 rw[ZD q];unfold Oper.wpIn;refine⟨?_,?_⟩
 .simp[Oper.about,ho,resolve,Target.leads,Sem.run_pure]
 .rw[Oper.semAt_plain F _ _ (by grind)];simp[execOp,ho,resolve,invoke,builtin,hs,Y,J,Result.andThen];exact I
theorem Ya{z0 z1 z2:aD}(h:w.ownsRow base e 3 (aR (M ⟨g,0,Z⟩) (k+1) cap) (k+1) (xs++[z0,z1,z2]))(hx:xs.length=k*3)(d0 d1 J:aD):(((w.setCell ⟨g,k*3,Z⟩ d0).setCell ⟨g,k*3+1,Z⟩ d1).setCell ⟨g,k*3+2,Z⟩ J).ownsRow base e 3 (aR (M ⟨g,0,Z⟩) (k+1) cap) (k+1) (xs++[d0,d1,J]):=by
 refine⟨by simp[hx];omega,?_⟩;obtain⟨h1,_⟩|⟨g',aa,q,hv,hb,hh,E,Y,I,ht⟩:=h.2
 .simp at h1
 .simp only[Value.slice.injEq,aK,Addr.mk.injEq,and_true,true_and]at hv;obtain⟨rfl,rfl⟩:=hv;have a1:=nw hh (i:=k*3) d0;have a2:=nw a1 (i:=k*3+1) d1;have a3:=nw a2 (i:=k*3+2) J;refine .inr ⟨g,cap,_,rfl,hb,a3,E,Y,by simp[I],?_⟩;have ab:(k+1)*3<=q.toList.length:=by rw[Array.length_toList,I];exact fK 3 E
  have ac:q.toList.take (k*3)=xs:=by
   have:=Z1 (List.take (k*3)) ht;rw[List.take_take,fZ aA]at this;rw[this,<-hx];simp
  apply List.ext_getElem?;intro i;simp only[Array.toList_setIfInBounds,gU];by_cases h3:i<(k+1)*3
  .grind
  .grind
theorem QG(h:w.ownsRow base e size v k xs)(hk:0<k):∃g cap,v=aR (M ⟨g,0,Z⟩) k cap:=by
 obtain⟨_,E⟩|⟨g,cap,q,rfl,_⟩:=h.2
 .omega
 .exact⟨g,cap,rfl⟩
theorem Ep(h:w.ownsRow base e size v k xs):∃a cap,v=.slice a k cap:=by
 obtain⟨rfl,E⟩|⟨g,cap,q,rfl,_⟩:=h.2
 .grind
 .exact⟨_,cap,rfl⟩
theorem P9(h:w.ownsRow base e size v k xs)(g:Nat)(o:pT)(q:v.ownBlock=M g)(ho:w.heap[g]? =M o):o.isCells=bB:=by
 obtain⟨rfl,J⟩|⟨g',cap,E,rfl,_,I,_⟩:=h.2
 .simp[eA]at q
 .simp[eA]at q;subst q;rw[I]at ho;cases ho;rfl
theorem zO(b n:Nat):(⟨b,0,Z⟩:gF).add n=⟨b,n,Z⟩:=by
 unfold Addr.add;split
 .simp
 .simp
theorem yx{l j:Nat}(h:w.ownsRow base e size (aR (M ⟨g,0,Z⟩) l cap) k xs):w.frozen? ⟨g,j,Z⟩=aL:=by
 obtain⟨Y,_⟩|⟨g',E,I,q,hb,J,_⟩:=h.2
 .simp at Y
 .simp only[Value.slice.injEq,aK,Addr.mk.injEq,and_true]at q;obtain⟨rfl,_⟩:=q;exact aQ J j
end
end
section
open Go.RowKit Go.Joins Go.Shelf
attribute [local go_sem] Oper.semAt_some
variable {g B:Nat}{v:aD}
theorem DW(s:ByteArray)(q:Int)(w:U):eE PQ 174 #[aH s,N X q] w λe w'=>e=bX (.func (.func 205) #[] #[aM (M ⟨w.heap.size,0,Z⟩),aM (M ⟨w.heap.size+1,0,Z⟩)])/\w'=(w.alloc (aG #[aH s] 9)).alloc (aG #[N X q] 3):=by
 go_enter (fq Tryz.func174 rfl),Tryz.ntmps174;go_wp2_with fail;go_ret;exact⟨rfl,rfl⟩
def WZ(n lo:Nat)(w':U)(e:Ending):Option (List Im.It)->Prop
 |none=>e=bX (dC #[aR Z 0 0,cF aL])
 |some ks=>∃a cap,e=bX (dC #[.slice a ks.length cap,cF bB])/\Row w' n lo w'.heap.size (.slice a ks.length cap) ks
def WI(d E:Nat)(w:U)(q:List Wa)(W:U):Prop:=
 (∃v,jb W E 101 v/\Row W (d+1) (E+4) W.heap.size v (q.map Wa.i))/\jb W (E+1) 3 (N X (sJ q))/\Below E w W/\E+4<=W.heap.size
theorem WI.own(d E:Nat)(w:U):OwnFrom (E+4) (WI d E w):=by
 rintro I A B row ⟨⟨v,Y,h2⟩,h3,h4,h5⟩ q J;refine⟨⟨v,Y.kept q (λe=>?_),h2.turn q (λr e=>(J r e).2)⟩,h3.kept q (λe=>?_),h4.grown q aA (λk e=>by grind),by have:=q.size;omega⟩
 .grind
 .grind
theorem um(w:U){a b:gF}(x y:aD)(h:a.block≠b.block):(w.setCell a x).setCell b y=(w.setCell b y).setCell a x:=by
 have e:∀(A:Array pT)(f g:pT->pT)(i j:Nat),i≠j->(A.modify i f).modify j g=(A.modify j g).modify i f:=by
  intro A f g i j q;apply gB;intro k;simp only[bT];by_cases E:i=k
  .grind
  .grind
 simp only[eW];rw[e _ _ _ _ _ h]
theorem FT(w:U){i:Nat}(x y z u:aD)(h:B≠g):(((w.setCell ⟨B,0,Z⟩ u).setCell ⟨g,i,Z⟩ x).setCell ⟨g,i+1,Z⟩ y).setCell ⟨g,i+2,Z⟩ z=(((w.setCell ⟨g,i,Z⟩ x).setCell ⟨g,i+1,Z⟩ y).setCell ⟨g,i+2,Z⟩ z).setCell ⟨B,0,Z⟩ u:=by rw[um w u x h,um _ u y h,um _ u z h]
theorem mF{W:U}{t:cH}(h:jb W B t v)(a:gF)(x:aD)(q:B≠a.block):jb (W.setCell a x) B t v:=(aW _ _ _ _ q).trans h
theorem UQ{w W0 W1 G X2 w' F:U}{d E J:Nat}{q:List Wa}{x:Wa}{xs:List aD}{L H:Nat->Nat}{c0 c1 c2 z0 z1 z2:aD}{X1:Nat}(h0:1<E)(ao:Below E w W0)(aq:E+4<=W0.heap.size)(b0:jb W0 E 101 v)(b1:jb W0 (E+1) 3 (N X (sJ q)))(q1:W0.ownsRow (E+4) 103 3 v q.length xs)(q3:∀j,j<(q.map Wa.i).length->E+4<=L j/\L j<=H j/\H j<=W0.heap.size/\(∀g,v.ownBlock=M g->g<L j\/H j<=g))(q4:∀a b,a<b->b<(q.map Wa.i).length->H a<=L b)(q5:∀(j:Nat)(hj:j<(q.map Wa.i).length),∃d0 d1 d2,xs[j*3]? =M d0/\xs[j*3+1]? =M d1/\xs[j*3+2]? =M d2/\Tr W0 (d+1) (L j) (H j) d0 d1 d2 ((q.map Wa.i)[j]))(hb:Below W0.heap.size W0 W1)(ht:Tr W1 (d+1) W0.heap.size W1.heap.size c0 c1 c2 x.i)(gb:Below W1.heap.size W1 G)(ub:Below G.heap.size G X2)(ab:w'.ownsRow (E+4) 103 3 (aR (M ⟨g,0,Z⟩) (q.length+1) J) (q.length+1) (xs++[z0,z1,z2]))(I:X2.grownBy w' v.ownBlock)(aj:eA (aR (M ⟨g,0,Z⟩) (q.length+1) J)=v.ownBlock\/∃g',eA (aR (M ⟨g,0,Z⟩) (q.length+1) J)=M g'/\X2.heap.size<=g')(hF:F=((((w'.setCell ⟨g,q.length*3,Z⟩ c0).setCell ⟨g,q.length*3+1,Z⟩ c1).setCell ⟨g,q.length*3+2,Z⟩ c2).setCell ⟨E,0,Z⟩ (aR (M ⟨g,0,Z⟩) (q.length+1) J)).setCell ⟨E+1,0,Z⟩ (N X x.e)):KeepsFrom X1 G F/\(∀k,k=1\/k=E+1+1\/k=E+1+1+1->F.heap[k]? =G.heap[k]?)/\WI d E w (q++[x]) F:=by
 have s1:=hb.size;have s2:=gb.size;have s3:=ub.size;have s4:=I.size;have am:=xs_len q1;have ak:=hb.trans (gb.mono s1);have ac:=ak.trans (ub.mono aA);have qU:=own_below q1 ac;have an:∀m,v.ownBlock=M m->E+4<=m:=λm hm=>(rU q1 hm).1;have hg:=rU ab (g:=g) rfl;obtain⟨W4,Y⟩:∃W4:U,W4=((w'.setCell ⟨g,q.length*3,Z⟩ c0).setCell ⟨g,q.length*3+1,Z⟩ c1).setCell ⟨g,q.length*3+2,Z⟩ c2:=⟨_,rfl⟩
 have ag:W4.ownsRow (E+4) 103 3 (aR (M ⟨g,0,Z⟩) (q.length+1) J) (q.length+1) (xs++[c0,c1,c2]):=by rw[Y];exact Ya ab am _ _ _
 have s5:W4.heap.size=w'.heap.size:=by rw[Y];simp[eW]
 have aa:∀k,k≠g->W4.heap[k]? =w'.heap[k]?:=λk hk=>by
  rw[Y,aW _ _ _ _ hk,aW _ _ _ _ hk,aW _ _ _ _ hk]
 have ap:X2.grownBy W4 v.ownBlock:=⟨by rw[Y];exact I.os,by rw[Y];exact I.tape,by rw[Y];exact I.output,aA,λk hk af=>by
  rw[aa k ?_]
  .exact I.block k hk af
  .rintro rfl;obtain e|⟨g',e,ar⟩:=aj
   .exact af e
   .simp[eA]at e;omega⟩
 have ah:(q.map Wa.i).length=q.length:=aC
 have ai:=
  Row.step (w:=W0) (w1:=W1) (w3:=X2) (v:=v) (xs:=xs) (L:=L) (H:=H) aA (by rw[ah];exact q1) q3 q4 q5 ht hb (gb.trans (ub.mono s2)) (by rw[ah];exact ag) ap aj
 rw[<-Y]at hF
 have ae:∀k,k≠E->k≠E+1->F.heap[k]? =W4.heap[k]?:=λk h1 h2=>by
  rw[hF,aW _ _ _ _ h2,aW _ _ _ _ h1]
 have s6:F.heap.size=W4.heap.size:=by rw[hF];simp[eW]
 have e0:jb w' E 101 v:=(I.block _ aA (λe=>by grind)).trans ((ac.block _ aA).trans b0);have e1:jb w' (E+1) 3 (N X (sJ q)):=(I.block _ aA (λe=>by grind)).trans ((ac.block _ aA).trans b1);have f0:jb W4 E 101 v:=(aa _ aA).trans e0;have f1:jb W4 (E+1) 3 (N X (sJ q)):=(aa _ aA).trans e1;refine⟨KeepsOthers.from ?_ _,?_,⟨(aR (M ⟨g,0,Z⟩) (q.length+1) J),?_,?_⟩,?_,?_,aA⟩
 .have k1:KeepsOthers G X2:=⟨ub.size,λk o hk _=>(ub.block k (jG hk)).trans hk⟩
  have k2:=KeepsOthers.of_grownBy I (λj o ej hj=>P9 qU j o ej hj);rw[hF,Y];exact(k1.trans k2).trans (((((gO _ _ _).trans (gO _ _ _)).trans (gO _ _ _)).trans (gO _ _ _)).trans (gO _ _ _))
 .intro k hk;have au:k<E+4:=by omega
  rw[ae k aA aA,aa k aA,I.block k aA (λe=>by grind),ub.block k aA]
 .rw[hF];exact mF (f0.set _) _ _ aC
 .rw[bJ];exact(ai.kept (w':=F) (λk k1 k2=>ae k aA aA)).wider jE aA
 .rw[hF,nZ];exact(mF f1 _ _ aC).set _
 .have b5:=(ao.trans (ac.mono aA)).grown I aA (λm hm=>by have:=an m hm;omega);rw[hF,Y];exact((((b5.setCell (by show E<=g;omega) _).setCell (by show E<=g;omega) _).setCell (by show E<=g;omega) _).setCell jE _).setCell aC _
end
