/- A region of a function's text, taken out by a program. -/
import Derived.Test.YtnjcefjcpmjdiaaDA
import Derived.Test.YtnjcefjcpmjdiaaD4
set_option maxRecDepth 20000
namespace Go.Proofs.Ytnjcefjcpmjdiaa
open Go.RowKit

def regionOf (n : Nat) : Code → Option Code
  | .region id ops b => if id = n then some (.region id ops b) else none
  | .seq a b => match regionOf n a with
    | some c => some c
    | none => regionOf n b
  | .block _ c => regionOf n c
  | .scope c => regionOf n c
  | .loop c => regionOf n c
  | .rangeFunc _ _ a b => match regionOf n a with
    | some c => some c
    | none => regionOf n b
  | .cond _ a b => match regionOf n a with
    | some c => some c
    | none => regionOf n b
  | _ => none
theorem then_false {K : Act → World → Prop} {Q : Exit → Act → World → Prop} : ∀ (e : Exit) (a : Act) (w : World), Exit.then K (fun _ _ _ => False) e a w → Exit.then K Q e a w := fun e a w h => by
  cases e <;> first | exact h | exact (h : False).elim
end Go.Proofs.Ytnjcefjcpmjdiaa
