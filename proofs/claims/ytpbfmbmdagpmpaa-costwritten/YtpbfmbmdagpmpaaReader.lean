/- A reader of bits in memory; the contract of (*bits.Reader).Take. -/
import Derived.Test.YtpbfmbmdagpmpaaLeaf
import Derived.Test.YtpbfmbmdagpmpaaSlice
import Derived.WalkMore
import Derived.ScopeJumps
import Derived.Deep.QuietTactic
import Derived.BigQuiet
import Derived.Outline
import Derived.Deep.Cut
namespace Go.Proofs.Ytpbfmbmdagpmpaa
open Go.RowKit Bx

/-- What the call of Take with k bits tells, and where it leaves the reader. -/
def short (B : List Nat) (at_ fl k : Nat) : Bool := decide (fl ≠ 0) || decide (8 * B.length < at_ + k)
def rval (B : List Nat) (at_ fl k : Nat) : Nat := bif short B at_ fl k then 0 else be B / 2 ^ (8 * B.length - (at_ + k)) % 2 ^ k
def rat (B : List Nat) (at_ fl k : Nat) : Nat := bif short B at_ fl k then at_ else at_ + k
def rfail (B : List Nat) (at_ fl k : Nat) : Nat := bif decide (fl ≠ 0) then fl else bif decide (8 * B.length < at_ + k) then 2 else 0

/-- A piece of a byte, as a part of the number that all bytes are. -/
theorem piece (B : List Nat) (at_ s : Nat) (hB : ∀ b ∈ B, b < 256) (hs : s ≤ 8 - at_ % 8) (ha : at_ + s ≤ 8 * B.length) (hs1 : 1 ≤ s) :
    B.getD (at_ / 8) 0 / 2 ^ (8 - at_ % 8 - s) % 2 ^ s = be B / 2 ^ (8 * B.length - (at_ + s)) % 2 ^ s := by
  rw [be_get B.length B (at_ / 8) rfl hB (by omega), part_of_byte _ _ _ (by omega), Nat.div_div_eq_div_mul, ← Nat.pow_add]
  congr 3
  omega

def takeMeasure (a : Act) : Nat := (intOf (a.tmps.getD 5 undef)).toNat

end Go.Proofs.Ytpbfmbmdagpmpaa
