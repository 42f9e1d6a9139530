import Derived.Test.YtpibpdpedjinhaaGreatDoorP01
set_option maxRecDepth 100000
set_option linter.all false
namespace Go.Proofs.YtpibpdpedjinhaaGreatDoor
namespace Cr
open Go Go.Conc Go.ConcN
open Go.ConcR (Payload)
section
section
variable [Payload]{P:Program}{S:Who}{K:gL}{g:Goroutine}{w:World}{Fin A A' St St':gL->Goroutine->World->Prop}
def jS.mono(h:jS P S St K g w)(a:∀K g w,St K g w->St' K g w):jS P S St' K g w:=let ⟨T,hT⟩:=h;⟨T,hT.mono a⟩
def uH.mono(a:∀K g w,A K g w->A' K g w)(h:uH P S A K g w):uH P S A' K g w:=let ⟨h1,g',h2,T,hT⟩:=h;⟨h1,g',h2,T,hT.mono a⟩
def BE.mono{vs}(b:∀K g w,A K g w->A' K g w)(h:BE P S Fin A vs K g w):BE P S Fin A' vs K g w:=
 ⟨h.1,λv a hw=>⟨(h.2 v a hw).1,λe=>let ⟨g',h2,T,hT⟩:=(h.2 v a hw).2 e;⟨g',h2,T,hT.mono b⟩⟩⟩
def oX.mono(a:∀K g w,A K g w->A' K g w)(h:oX P S Fin A K g w):oX P S Fin A' K g w:=
 ⟨h.1,λv b hw=>let ⟨g',h2,h3,h4⟩:=h.2 v b hw;⟨g',h2,h3,λe=>let ⟨T,hT⟩:=h4 e;⟨T,hT.mono λ_ _ _=>BE.mono a⟩⟩⟩
end
end
section
variable {T:Tr}{g:Goroutine}{w:World}
section
variable [Payload]{P:Program}{main:Bool}{S:Who}{me:Option Nat}{St:gL->Goroutine->World->Prop}{Zr:Nat->Prop}{B:Nat}
def gy.keep:∀{K g w},gy P main S me St T K g w->(∀b,K.1 b->Zr b\/B<=b)->B<=w.1.size->gy P main S me (λK g w=>St K g w/\∀b,K.1 b->Zr b\/B<=b) T K g w:=by
 induction T with
 |leaf=>exact λh a _ w₁ h₁=>⟨h w₁ h₁,a⟩
 |node f ih=>
  intro K g w h f o;refine⟨h.1,λw₁ h₁=>?_⟩;let⟨d,l,c,e,a,j⟩:=h.2 w₁ h₁;have m:=h₁.4;have n:=a.4;exact⟨d,l,c,e,a,ih w₁ j (λb i=>i.elim (f b) λx=>.inr aA) aA⟩
def iw.keep{K}(h:iw P main S me St K g w)(c:∀b,K.1 b->Zr b\/B<=b)(a:B<=w.1.size):iw P main S me (λK g w=>St K g w/\∀b,K.1 b->Zr b\/B<=b) K g w:=
 let ⟨T,hT⟩:=h;⟨T,hT.keep c a⟩
def iw.mono{a K}(h:iw P main S me St K g w)(b:∀K g w,St K g w->a K g w):iw P main S me a K g w:=
 let ⟨T,hT⟩:=h;⟨T,hT.mono b⟩
end
end
end Cr
