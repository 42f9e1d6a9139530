import Derived.Test.YtpibpdpedjinhaaGreatDoorS03
set_option maxRecDepth 100000
namespace Go.Proofs.YtpibpdpedjinhaaGreatDoor
namespace Cr
open Go Go.Conc Go.ConcN
open Go.ConcR (Payload)
section
section
variable [Payload] {P:Program} {S:Who} {K:jV} {g:Goroutine} {w:World} {Fin A A' St St':jV->Goroutine->World->Prop}
theorem Way.mono (h:Way P S St K g w) (hs:∀K g w,St K g w->St' K g w):Way P S St' K g w:=let ⟨T,hT⟩:=h;⟨T,hT.mono hs⟩
theorem yA.mono (q:∀K g w,A K g w->A' K g w) (h:yA P S A K g w):yA P S A' K g w:=let ⟨h1,g',h2,T,hT⟩:=h;⟨h1,g',h2,T,hT.mono q⟩
theorem EY.mono {vs:Nat} (z:∀K g w,A K g w->A' K g w) (h:EY P S Fin A vs K g w):EY P S Fin A' vs K g w:=
 ⟨h.1,λv q hw=>⟨(h.2 v q hw).1,λe=>let ⟨g',h2,T,hT⟩:=(h.2 v q hw).2 e;⟨g',h2,T,hT.mono z⟩⟩⟩
theorem rO.mono (z:∀K g w,A K g w->A' K g w) (h:rO P S Fin A K g w):rO P S Fin A' K g w:=
 ⟨h.1,λv q hw=>let ⟨g',h2,h3,h4⟩:=h.2 v q hw;⟨g',h2,h3,λe=>let ⟨T,hT⟩:=h4 e;⟨T,hT.mono λ_ _ _=>EY.mono z⟩⟩⟩
end
end
section
variable {g:Goroutine} {w:World}
section
variable [Payload] {P:Program} {main:Bool} {S:Who} {me:Option Nat} {St:jV->Goroutine->World->Prop} {X:Nat->Prop} {B:Nat}
theorem jX.keep {T:Tr}:∀{K:jV} {g:Goroutine} {w:World},jX P main S me St T K g w->(∀b,K.O b->X b\/B<=b)->B<=w.heap.size->jX P main S me (λK g w=>St K g w/\∀b,K.O b->X b\/B<=b) T K g w:=by
 induction T with
 |leaf=>exact λh E _ z q=>⟨h z q,E⟩
 |node f ih=>
  intro K g w h E hB
  refine ⟨h.1,λz q=>?_⟩
  obtain ⟨g',w',es,e,I,R⟩:=h.2 z q
  have Y:=q.size
  have h2:=I.size
  exact ⟨g',w',es,e,I,ih z R (λb J=>J.elim (E b) λx=>.inr (by omega)) (by omega)⟩
theorem kP.keep {K:jV} (h:kP P main S me St K g w) (z:∀b,K.O b->X b\/B<=b) (q:B<=w.heap.size):kP P main S me (λK g w=>St K g w/\∀b,K.O b->X b\/B<=b) K g w:=
 let ⟨T,hT⟩:=h;⟨T,hT.keep z q⟩
theorem kP.mono {St':jV->Goroutine->World->Prop} {K:jV} (h:kP P main S me St K g w) (hs:∀K g w,St K g w->St' K g w):kP P main S me St' K g w:=
 let ⟨T,hT⟩:=h;⟨T,hT.mono hs⟩
end
end
end Cr
end Go.Proofs.YtpibpdpedjinhaaGreatDoor
