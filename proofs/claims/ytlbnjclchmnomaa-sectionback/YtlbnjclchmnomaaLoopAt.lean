/- A loop out of a function's body, by its first region's number. No program. -/
import Derived.Test.YtlbnjclchmnomaaPk1
namespace Go.Proofs.Ytlbnjclchmnomaa
open Go.RowKit

/-- The loop whose first region is the number n. -/
def firstIs (n : Nat) : Code → Bool
  | .region id _ _ => id == n
  | .seq a _ => firstIs n a
  | _ => false

def loopAt (n : Nat) : Code → Option Code
  | .seq a b => match loopAt n a with
    | some c => some c
    | none => loopAt n b
  | .block _ c => loopAt n c
  | .loop c => if firstIs n c then some (.loop c) else loopAt n c
  | .scope c => loopAt n c
  | .cond _ a b => match loopAt n a with
    | some c => some c
    | none => loopAt n b
  | _ => none

end Go.Proofs.Ytlbnjclchmnomaa
