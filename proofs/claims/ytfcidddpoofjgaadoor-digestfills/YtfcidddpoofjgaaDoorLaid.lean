/- What the row's condition on the table of sines gives the walks, and a state that meets it. -/
import Derived.Test.YtfcidddpoofjgaaDoorRows
import Derived.Test.YtfcidddpoofjgaaDoorChanged
import Derived.Lib.LaidTab
import Derived.LaidMore
import Derived.ProofKit
import Derived.Stop.Joined
namespace Go.Proofs.YtfcidddpoofjgaaDoor
open Go.ChangeShapes Go.WideShapes Go.ChangeAt Go.RowKit Md

def laidS : List (String × DataW Unit) := [("serinette/digest.sines", Rows.laid_serinette_digest_sines)]

theorem gSines : Tryd.prog.globalNamed "serinette/digest.sines" = some 0 := by kernel_rfl
theorem tSines : (Tryd.prog.globals[0]?).map (·.type) = some 61 := by kernel_rfl
theorem cellsTable : Tryd.prog.cellsOf 61 = 64 := by kernel_rfl
theorem cellsU32 : Tryd.prog.cellsOf 45 = 1 := by kernel_rfl

theorem laid_tab : (Rows.laid_serinette_digest_sines : DataW Unit) = Lib.tabData .u32 (sines.map fun n : Nat => (n : Int)) := by rfl

/-- The door's own heap meets the condition. -/
theorem door_met (os : Os) (args : Array Value) : laidMetH Tryd.prog laidS ((World.doorLaid Tryd.prog 14 os).forCall (fun _ _ => 0) ⟨#[], args, []⟩).memory :=
  laidMetH_of_parts3 (fuel := 8) (laidMet_of_run' 8 (by kernel_rfl) (by kernel_rfl)) (by kernel_rfl) (by kernel_rfl)

theorem of_laid {W : World} (h : laidMetH Tryd.prog laidS W) : Tab W := by
  rw [MakeChecks.laidMetH_plain _ _ _ (by kernel_rfl)] at h
  unfold laidS at h
  rw [laid_tab] at h
  have hT := Lib.tabIs_of_head gSines tSines Tryd.underlying61 Tryd.underlying45 cellsU32 cellsTable h
  intro i hi
  have hl : sines.length = 64 := by rfl
  have := hT.cell gSines i (by rw [List.length_map, hl]; exact hi)
  rw [this]
  unfold sine
  simp only [List.getD_eq_getElem?_getD, List.getElem?_map]
  cases sines[i]? <;> rfl

end Go.Proofs.YtfcidddpoofjgaaDoor
