/- What the laws of layer 11 make of a byte: a precision. -/
import Derived.Test.YtgcokligilfkgaaAwake11
import Derived.Test.YtgcokligilfkgaaArgs
namespace Go.Proofs.Ytgcokligilfkgaa
open Go.RowKit Bx

theorem prec_of {a : Int} (h : (Lit.int .u8 a).wf = true) : ∃ n P r : Nat, a = (n : Int) ∧ (n : Int) % 14 = (r : Int) ∧ wrap64 (r : Int) = (r : Int) ∧ 2 + (r : Int) = (P : Int) ∧ 2 ≤ P ∧ P ≤ 15 := by
  obtain ⟨n, rfl, hn⟩ := nat_u8 h
  refine ⟨n, 2 + n % 14, n % 14, rfl, by omega, by unfold wrap64; omega, by omega, by omega, by omega⟩

end Go.Proofs.Ytgcokligilfkgaa
