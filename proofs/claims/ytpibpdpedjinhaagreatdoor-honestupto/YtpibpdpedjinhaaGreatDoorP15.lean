import Derived.Test.YtpibpdpedjinhaaGreatDoorP04
set_option maxRecDepth 100000
set_option linter.all false
open Go renaming Goroutine->bO,World->U
namespace Go.Proofs.YtpibpdpedjinhaaGreatDoor
namespace Cr
open Go Go.Conc Go.ConcN
open Go.ConcR (Payload)
section
section
variable [Payload]{P:Program}{S:Who}{K:jZ}{g:bO}{w:U}{Fin A A' St St':jZ->bO->U->Prop}
theorem Way.mono(h:Way P S St K g w)(hs:∀K g w,St K g w->St' K g w):Way P S St' K g w:=let ⟨T,hT⟩:=h;⟨T,hT.mono hs⟩
theorem AP.mono(q:∀K g w,A K g w->A' K g w)(h:AP P S A K g w):AP P S A' K g w:=let ⟨h1,g',h2,T,hT⟩:=h;⟨h1,g',h2,T,hT.mono q⟩
theorem Ji.mono{vs:Nat}(E:∀K g w,A K g w->A' K g w)(h:Ji P S Fin A vs K g w):Ji P S Fin A' vs K g w:=
 ⟨h.1,λv q hw=>⟨(h.2 v q hw).1,λe=>let ⟨g',h2,T,hT⟩:=(h.2 v q hw).2 e;⟨g',h2,T,hT.mono E⟩⟩⟩
theorem uN.mono(E:∀K g w,A K g w->A' K g w)(h:uN P S Fin A K g w):uN P S Fin A' K g w:=
 ⟨h.1,λv q hw=>let ⟨g',h2,h3,h4⟩:=h.2 v q hw;⟨g',h2,h3,λe=>let ⟨T,hT⟩:=h4 e;⟨T,hT.mono λ_ _ _=>Ji.mono E⟩⟩⟩
end
end
section
variable {g:bO}{w:U}
section
variable [Payload]{P:Program}{main:Bool}{S:Who}{me:Option Nat}{St:jZ->bO->U->Prop}{Wa:Nat->Prop}{B:Nat}
theorem jQ.keep{T:Tr}:∀{K:jZ}{g:bO}{w:U},jQ P main S me St T K g w->(∀b,K.O b->Wa b\/B<=b)->B<=w.heap.size->jQ P main S me (λK g w=>St K g w/\∀b,K.O b->Wa b\/B<=b) T K g w:=by
 induction T with
 |leaf=>exact λh I _ E q=>⟨h E q,I⟩
 |node f ih=>
  intro K g w h I hB;refine⟨h.1,λE q=>?_⟩;obtain⟨g',w',es,e,J,hr⟩:=h.2 E q;have h1:=q.size;have h2:=J.size;exact⟨g',w',es,e,J,ih E hr (λb Y=>Y.elim (I b) λx=>.inr aA) aA⟩
theorem kV.keep{K:jZ}(h:kV P main S me St K g w)(E:∀b,K.O b->Wa b\/B<=b)(q:B<=w.heap.size):kV P main S me (λK g w=>St K g w/\∀b,K.O b->Wa b\/B<=b) K g w:=
 let ⟨T,hT⟩:=h;⟨T,hT.keep E q⟩
theorem kV.mono{St':jZ->bO->U->Prop}{K:jZ}(h:kV P main S me St K g w)(hs:∀K g w,St K g w->St' K g w):kV P main S me St' K g w:=
 let ⟨T,hT⟩:=h;⟨T,hT.mono hs⟩
end
end
end Cr
