/-
  No cell of these rows narrows 'for every input' (looked for: loops, veiled, ifaces, maps, wideKeys, modest, calm, conditions, laid).
  DERIVED. THE GIVEN ROWS OF THIS SEAT. 6 by the template 'for every input the law returns true; each argument reads behind the call as it read before'; 0 by the template 'total and deterministic' (their statements: YtipbldajpdacdaaTotals.lean).
  GIVEN WITH THE SEED: the statements are not yours to turn. If you find one false, say at which input.
  Laid BY PROGRAM, IN A SANDBOX (cutbox-rows.mjs): the forced cells as the released guide's own fill.sh prints them over the translation e6066d1a38834bc4… (all of the seat's roots in one cut). By AI agents, Wed Nov 11 2026. No macro, syntax, notation, axiom, sorry.
-/
import Derived.Test.YtipbldajpdacdaaChecked
import GoSem.Claim
import GoSem.ClaimJoined
import GoSem.ClaimMapViews
import Derived.JoinedTies
import Derived.KernelRfl
namespace Go.Proofs.Ytipbldajpdacdaa
/- THE CELL 'sum', in the pinned program and in every row, IS THE sha256 OF THE DUMP (.gsa) THAT YtipbldajpdacdaaProg.lean LOADS. Nothing in Lean hashes anything: it is a label: what it is worth is what the hold of that sum in a sandbox is worth. -/
noncomputable def Try.pinned : Pinned := { name := "ytipbldajpdacdaa", sum := "e6066d1a38834bc4c0cc2622fa92259ff18dd6b6b0bdc534f3bfb7dadf9ea573", checked := Try.checked }
namespace Rows
def none {H : Type} : Left H := { results := [], args := [] }

/-- 'serinettelaw03.NumberTells': WHATEVER THE INPUT: true; the input reads as it did. -/
def numberTellsSpec : ChangeSpec := { name := "numberTells", fn := fun _ => fun
  | [d1, d2] => { results := [.lit (.bool true)], args := [d1, d2] }
  | _ => none }
def numberTellsRow : OpenClaim := { program := "ytipbldajpdacdaa", sum := "e6066d1a38834bc4c0cc2622fa92259ff18dd6b6b0bdc534f3bfb7dadf9ea573", func := "serinette/serinettelaw03.NumberTells", spec := "numberTells", apart := false }
def NumberTellsSaid : Prop := numberTellsRow.holds Try.pinned (OpenSpec.ofChange numberTellsSpec)

/-- ITS FALSE NEIGHBOUR: 'it returns false'. Refute it at one input. -/
def numberTellsWrong : ChangeSpec := { name := "numberTells", fn := fun _ => fun
  | [d1, d2] => { results := [.lit (.bool false)], args := [d1, d2] }
  | _ => none }
def NumberTellsWrongFalsely : Prop := numberTellsRow.holds Try.pinned (OpenSpec.ofChange numberTellsWrong)

/-- 'serinettelaw03.NumberBack': WHATEVER THE INPUT: true; the input reads as it did. -/
def numberBackSpec : ChangeSpec := { name := "numberBack", fn := fun _ => fun
  | [d1, d2, d3] => { results := [.lit (.bool true)], args := [d1, d2, d3] }
  | _ => none }
def numberBackRow : OpenClaim := { program := "ytipbldajpdacdaa", sum := "e6066d1a38834bc4c0cc2622fa92259ff18dd6b6b0bdc534f3bfb7dadf9ea573", func := "serinette/serinettelaw03.NumberBack", spec := "numberBack", apart := false }
def NumberBackSaid : Prop := numberBackRow.holds Try.pinned (OpenSpec.ofChange numberBackSpec)

/-- ITS FALSE NEIGHBOUR: 'it returns false'. Refute it at one input. -/
def numberBackWrong : ChangeSpec := { name := "numberBack", fn := fun _ => fun
  | [d1, d2, d3] => { results := [.lit (.bool false)], args := [d1, d2, d3] }
  | _ => none }
def NumberBackWrongFalsely : Prop := numberBackRow.holds Try.pinned (OpenSpec.ofChange numberBackWrong)

/-- 'serinettelaw03.NumberAgain': WHATEVER THE INPUT: true; the input reads as it did. -/
def numberAgainSpec : ChangeSpec := { name := "numberAgain", fn := fun _ => fun
  | [d] => { results := [.lit (.bool true)], args := [d] }
  | _ => none }
def numberAgainRow : OpenClaim := { program := "ytipbldajpdacdaa", sum := "e6066d1a38834bc4c0cc2622fa92259ff18dd6b6b0bdc534f3bfb7dadf9ea573", func := "serinette/serinettelaw03.NumberAgain", spec := "numberAgain", apart := false }
def NumberAgainSaid : Prop := numberAgainRow.holds Try.pinned (OpenSpec.ofChange numberAgainSpec)

/-- ITS FALSE NEIGHBOUR: 'it returns false'. Refute it at one input. -/
def numberAgainWrong : ChangeSpec := { name := "numberAgain", fn := fun _ => fun
  | [d] => { results := [.lit (.bool false)], args := [d] }
  | _ => none }
def NumberAgainWrongFalsely : Prop := numberAgainRow.holds Try.pinned (OpenSpec.ofChange numberAgainWrong)

/-- 'serinettelaw03.NumberRunes': WHATEVER THE INPUT: true; the input reads as it did. -/
def numberRunesSpec : ChangeSpec := { name := "numberRunes", fn := fun _ => fun
  | [d] => { results := [.lit (.bool true)], args := [d] }
  | _ => none }
def numberRunesRow : OpenClaim := { program := "ytipbldajpdacdaa", sum := "e6066d1a38834bc4c0cc2622fa92259ff18dd6b6b0bdc534f3bfb7dadf9ea573", func := "serinette/serinettelaw03.NumberRunes", spec := "numberRunes", apart := false }
def NumberRunesSaid : Prop := numberRunesRow.holds Try.pinned (OpenSpec.ofChange numberRunesSpec)

/-- ITS FALSE NEIGHBOUR: 'it returns false'. Refute it at one input. -/
def numberRunesWrong : ChangeSpec := { name := "numberRunes", fn := fun _ => fun
  | [d] => { results := [.lit (.bool false)], args := [d] }
  | _ => none }
def NumberRunesWrongFalsely : Prop := numberRunesRow.holds Try.pinned (OpenSpec.ofChange numberRunesWrong)

/-- 'serinettelaw03.NumberOrder': WHATEVER THE INPUT: true; the input reads as it did. -/
def numberOrderSpec : ChangeSpec := { name := "numberOrder", fn := fun _ => fun
  | [d1, d2] => { results := [.lit (.bool true)], args := [d1, d2] }
  | _ => none }
def numberOrderRow : OpenClaim := { program := "ytipbldajpdacdaa", sum := "e6066d1a38834bc4c0cc2622fa92259ff18dd6b6b0bdc534f3bfb7dadf9ea573", func := "serinette/serinettelaw03.NumberOrder", spec := "numberOrder", apart := false }
def NumberOrderSaid : Prop := numberOrderRow.holds Try.pinned (OpenSpec.ofChange numberOrderSpec)

/-- ITS FALSE NEIGHBOUR: 'it returns false'. Refute it at one input. -/
def numberOrderWrong : ChangeSpec := { name := "numberOrder", fn := fun _ => fun
  | [d1, d2] => { results := [.lit (.bool false)], args := [d1, d2] }
  | _ => none }
def NumberOrderWrongFalsely : Prop := numberOrderRow.holds Try.pinned (OpenSpec.ofChange numberOrderWrong)

/-- 'serinettelaw03.NumberTakes': WHATEVER THE INPUT: true; the input reads as it did. -/
def numberTakesSpec : ChangeSpec := { name := "numberTakes", fn := fun _ => fun
  | [d] => { results := [.lit (.bool true)], args := [d] }
  | _ => none }
def numberTakesRow : OpenClaim := { program := "ytipbldajpdacdaa", sum := "e6066d1a38834bc4c0cc2622fa92259ff18dd6b6b0bdc534f3bfb7dadf9ea573", func := "serinette/serinettelaw03.NumberTakes", spec := "numberTakes", apart := false }
def NumberTakesSaid : Prop := numberTakesRow.holds Try.pinned (OpenSpec.ofChange numberTakesSpec)

/-- ITS FALSE NEIGHBOUR: 'it returns false'. Refute it at one input. -/
def numberTakesWrong : ChangeSpec := { name := "numberTakes", fn := fun _ => fun
  | [d] => { results := [.lit (.bool false)], args := [d] }
  | _ => none }
def NumberTakesWrongFalsely : Prop := numberTakesRow.holds Try.pinned (OpenSpec.ofChange numberTakesWrong)

/- THE SECOND FORM. 'bulk': how many values and letters a reading holds, each counted each time it is reached (what is shared counts as often as it is met; a slice's spare places count too). A statement '..UptoSaid' is the law's where the arguments, and the package variables that the reading takes, are together of bulk at most 1048576: NARROWER than '..Said'. Prove '..Said' where nothing that the law and all that it calls make is longer than what came in: it says more and counts as full. Else prove '..UptoSaid'. A law counts once. -/
mutual
def uptoBulk {H : Type} : DataW H → Nat
  | .lit (.string bytes) => bytes.length + 1
  | .lit _ => 1
  | .nil => 1
  | .ptr d => uptoBulk d + 1
  | .slice elems spare => uptoBulkAll elems + uptoBulkAll spare + 1
  | .agg parts => uptoBulkAll parts + 1
  | .iface _ d => uptoBulk d + 1
  | .map entries => uptoBulkEntries entries + 1
  | .held _ => 1
def uptoBulkAll {H : Type} : List (DataW H) → Nat
  | [] => 0
  | d :: r => uptoBulk d + uptoBulkAll r
def uptoBulkEntries {H : Type} : List (Lit × DataW H) → Nat
  | [] => 0
  | x :: r => uptoBulkEntry x + uptoBulkEntries r
def uptoBulkEntry {H : Type} : Lit × DataW H → Nat
  | (.string bytes, d) => bytes.length + uptoBulk d + 1
  | (_, d) => uptoBulk d + 1
 end
def uptoSmall : (H : Type) → List (DataW H) → Bool := fun _ ds => decide (uptoBulkAll ds ≤ 1048576)
def OpenSpec.upto (s : _root_.Go.ChangeSpec) : _root_.Go.OpenSpec := { _root_.Go.OpenSpec.ofChange s with cond := some uptoSmall }

/-- 'serinettelaw03.NumberTells', WHERE WHAT IT READS IS OF BULK AT MOST 1048576: true; the input reads as it did. -/
def numberTellsUptoRow : OpenClaim := { program := "ytipbldajpdacdaa", sum := "e6066d1a38834bc4c0cc2622fa92259ff18dd6b6b0bdc534f3bfb7dadf9ea573", func := "serinette/serinettelaw03.NumberTells", spec := "numberTells", apart := false, narrowed := true }
def NumberTellsUptoSaid : Prop := numberTellsUptoRow.holds Try.pinned (OpenSpec.upto numberTellsSpec)

/-- 'serinettelaw03.NumberBack', WHERE WHAT IT READS IS OF BULK AT MOST 1048576: true; the input reads as it did. -/
def numberBackUptoRow : OpenClaim := { program := "ytipbldajpdacdaa", sum := "e6066d1a38834bc4c0cc2622fa92259ff18dd6b6b0bdc534f3bfb7dadf9ea573", func := "serinette/serinettelaw03.NumberBack", spec := "numberBack", apart := false, narrowed := true }
def NumberBackUptoSaid : Prop := numberBackUptoRow.holds Try.pinned (OpenSpec.upto numberBackSpec)

/-- 'serinettelaw03.NumberAgain', WHERE WHAT IT READS IS OF BULK AT MOST 1048576: true; the input reads as it did. -/
def numberAgainUptoRow : OpenClaim := { program := "ytipbldajpdacdaa", sum := "e6066d1a38834bc4c0cc2622fa92259ff18dd6b6b0bdc534f3bfb7dadf9ea573", func := "serinette/serinettelaw03.NumberAgain", spec := "numberAgain", apart := false, narrowed := true }
def NumberAgainUptoSaid : Prop := numberAgainUptoRow.holds Try.pinned (OpenSpec.upto numberAgainSpec)

/-- 'serinettelaw03.NumberRunes', WHERE WHAT IT READS IS OF BULK AT MOST 1048576: true; the input reads as it did. -/
def numberRunesUptoRow : OpenClaim := { program := "ytipbldajpdacdaa", sum := "e6066d1a38834bc4c0cc2622fa92259ff18dd6b6b0bdc534f3bfb7dadf9ea573", func := "serinette/serinettelaw03.NumberRunes", spec := "numberRunes", apart := false, narrowed := true }
def NumberRunesUptoSaid : Prop := numberRunesUptoRow.holds Try.pinned (OpenSpec.upto numberRunesSpec)

/-- 'serinettelaw03.NumberOrder', WHERE WHAT IT READS IS OF BULK AT MOST 1048576: true; the input reads as it did. -/
def numberOrderUptoRow : OpenClaim := { program := "ytipbldajpdacdaa", sum := "e6066d1a38834bc4c0cc2622fa92259ff18dd6b6b0bdc534f3bfb7dadf9ea573", func := "serinette/serinettelaw03.NumberOrder", spec := "numberOrder", apart := false, narrowed := true }
def NumberOrderUptoSaid : Prop := numberOrderUptoRow.holds Try.pinned (OpenSpec.upto numberOrderSpec)

/-- 'serinettelaw03.NumberTakes', WHERE WHAT IT READS IS OF BULK AT MOST 1048576: true; the input reads as it did. -/
def numberTakesUptoRow : OpenClaim := { program := "ytipbldajpdacdaa", sum := "e6066d1a38834bc4c0cc2622fa92259ff18dd6b6b0bdc534f3bfb7dadf9ea573", func := "serinette/serinettelaw03.NumberTakes", spec := "numberTakes", apart := false, narrowed := true }
def NumberTakesUptoSaid : Prop := numberTakesUptoRow.holds Try.pinned (OpenSpec.upto numberTakesSpec)

end Rows
end Go.Proofs.Ytipbldajpdacdaa
