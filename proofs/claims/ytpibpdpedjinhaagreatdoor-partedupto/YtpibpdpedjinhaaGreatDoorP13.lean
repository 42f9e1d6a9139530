import Derived.Test.YtpibpdpedjinhaaGreatDoorP03
set_option maxRecDepth 100000
set_option linter.unusedSimpArgs false
namespace Go.Proofs.YtpibpdpedjinhaaGreatDoor
namespace Cr
open Go Go.Conc Go.ConcN
open Go.ConcR (Payload)
section
section
variable [Payload]{P:Program}{S:Who}{K:jU}{g:Goroutine}{w:World}{Fin A A' St St':jU->Goroutine->World->Prop}
theorem Way.mono(h:Way P S St K g w)(hs:∀K g w,St K g w->St' K g w):Way P S St' K g w:=let ⟨T,hT⟩:=h;⟨T,hT.mono hs⟩
theorem y9.mono(z:∀K g w,A K g w->A' K g w)(h:y9 P S A K g w):y9 P S A' K g w:=let ⟨h1,g',h2,T,hT⟩:=h;⟨h1,g',h2,T,hT.mono z⟩
theorem FM.mono{vs:Nat}(E:∀K g w,A K g w->A' K g w)(h:FM P S Fin A vs K g w):FM P S Fin A' vs K g w:=
 ⟨h.1,λv z hw=>⟨(h.2 v z hw).1,λe=>let ⟨g',h2,T,hT⟩:=(h.2 v z hw).2 e;⟨g',h2,T,hT.mono E⟩⟩⟩
theorem sQ.mono(E:∀K g w,A K g w->A' K g w)(h:sQ P S Fin A K g w):sQ P S Fin A' K g w:=
 ⟨h.1,λv z hw=>let ⟨g',h2,h3,h4⟩:=h.2 v z hw;⟨g',h2,h3,λe=>let ⟨T,hT⟩:=h4 e;⟨T,hT.mono λ_ _ _=>FM.mono E⟩⟩⟩
end
end
section
variable {g:Goroutine}{w:World}
section
variable [Payload]{P:Program}{main:Bool}{S:Who}{me:Option Nat}{St:jU->Goroutine->World->Prop}{X:Nat->Prop}{B:Nat}
theorem jM.keep{T:Tr}:∀{K:jU}{g:Goroutine}{w:World},jM P main S me St T K g w->(∀b,K.O b->X b\/B<=b)->B<=w.heap.size->jM P main S me (λK g w=>St K g w/\∀b,K.O b->X b\/B<=b) T K g w:=by
 induction T with
 |leaf=>exact λh I _ E z=>⟨h E z,I⟩
 |node f ih=>
  intro K g w h I hB;refine⟨h.1,λE z=>?_⟩;obtain⟨g',w',es,e,J,Y⟩:=h.2 E z;have h1:=z.size;have h2:=J.size;exact⟨g',w',es,e,J,ih E Y (λb R=>R.elim (I b) λx=>.inr (by omega)) (by omega)⟩
theorem kK.keep{K:jU}(h:kK P main S me St K g w)(E:∀b,K.O b->X b\/B<=b)(z:B<=w.heap.size):kK P main S me (λK g w=>St K g w/\∀b,K.O b->X b\/B<=b) K g w:=
 let ⟨T,hT⟩:=h;⟨T,hT.keep E z⟩
theorem kK.mono{St':jU->Goroutine->World->Prop}{K:jU}(h:kK P main S me St K g w)(hs:∀K g w,St K g w->St' K g w):kK P main S me St' K g w:=
 let ⟨T,hT⟩:=h;⟨T,hT.mono hs⟩
end
end
end Cr
end Go.Proofs.YtpibpdpedjinhaaGreatDoor
