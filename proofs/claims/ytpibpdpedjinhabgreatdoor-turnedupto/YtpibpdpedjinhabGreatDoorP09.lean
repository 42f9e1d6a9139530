import Derived.Test.YtpibpdpedjinhabGreatDoorP01
set_option maxRecDepth 100000
set_option linter.all false
open Go renaming Goroutine->cA,World->U
namespace Go.Proofs.YtpibpdpedjinhabGreatDoor
namespace Cr
open Go Go.Conc Go.ConcN
open Go.ConcR (Payload)
section
section
variable [Payload]{P:Program}{S:Who}{K:kC}{g:cA}{w:U}{Fin A A' St St':kC->cA->U->Prop}
def Way.mono(h:Way P S St K g w)(hs:∀K g w,St K g w->St' K g w):Way P S St' K g w:=let ⟨T,hT⟩:=h;⟨T,hT.mono hs⟩
def zy.mono(z:∀K g w,A K g w->A' K g w)(h:zy P S A K g w):zy P S A' K g w:=let ⟨h1,g',h2,T,hT⟩:=h;⟨h1,g',h2,T,hT.mono z⟩
def G6.mono{vs:Nat}(E:∀K g w,A K g w->A' K g w)(h:G6 P S Fin A vs K g w):G6 P S Fin A' vs K g w:=
 ⟨h.1,λv z hw=>⟨(h.2 v z hw).1,λe=>let ⟨g',h2,T,hT⟩:=(h.2 v z hw).2 e;⟨g',h2,T,hT.mono E⟩⟩⟩
def Ah.mono(E:∀K g w,A K g w->A' K g w)(h:Ah P S Fin A K g w):Ah P S Fin A' K g w:=
 ⟨h.1,λv z hw=>let ⟨g',h2,h3,h4⟩:=h.2 v z hw;⟨g',h2,h3,λe=>let ⟨T,hT⟩:=h4 e;⟨T,hT.mono λ_ _ _=>G6.mono E⟩⟩⟩
end
end
section
variable {g:cA}{w:U}
section
variable [Payload]{P:Program}{main:Bool}{S:Who}{me:Option Nat}{St:kC->cA->U->Prop}{Wd:Nat->Prop}{B:Nat}
def jT.keep{T:Tr}:∀{K:kC}{g:cA}{w:U},jT P main S me St T K g w->(∀b,K.O b->Wd b\/B<=b)->B<=w.heap.size->jT P main S me (λK g w=>St K g w/\∀b,K.O b->Wd b\/B<=b) T K g w:=by
 induction T with
 |leaf=>exact λh I _ E z=>⟨h E z,I⟩
 |node f ih=>
  intro K g w h I hB;refine⟨h.1,λE z=>?_⟩;obtain⟨g',w',es,e,J,Y⟩:=h.2 E z;have h1:=z.size;have h2:=J.size;exact⟨g',w',es,e,J,ih E Y (λb R=>R.elim (I b) λx=>.inr aA) aA⟩
def kY.keep{K:kC}(h:kY P main S me St K g w)(E:∀b,K.O b->Wd b\/B<=b)(z:B<=w.heap.size):kY P main S me (λK g w=>St K g w/\∀b,K.O b->Wd b\/B<=b) K g w:=
 let ⟨T,hT⟩:=h;⟨T,hT.keep E z⟩
def kY.mono{St':kC->cA->U->Prop}{K:kC}(h:kY P main S me St K g w)(hs:∀K g w,St K g w->St' K g w):kY P main S me St' K g w:=
 let ⟨T,hT⟩:=h;⟨T,hT.mono hs⟩
end
end
end Cr
