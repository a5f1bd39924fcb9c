/- A digest's state in memory: contracts of New, Len. -/
import Derived.Test.YtfcidddpoofjgaaDoorChanged
namespace Go.Proofs.YtfcidddpoofjgaaDoor
open Go.RowKit Bx Md

/-- The cells of a state: the words, the bytes of the block, how many were added. -/
def stCells (q : Quad) (R : List Nat) (n : Nat) : List Value := u32s (ws q) ++ u8s R ++ [.int .i64 (n : Int)]

theorem stCells_length (q : Quad) (R : List Nat) (n : Nat) (h : R.length = 64) : (stCells q R n).length = 69 := by simp [stCells, u32s, ws, u8s, h]

/-- At block p lies a state to which the bytes L were added. -/
def St (w : World) (p : Nat) (L : List Nat) : Prop :=
  (∀ b ∈ L, b < 256) ∧ ∃ R : List Nat, R.length = 64 ∧ (∀ b ∈ R, b < 256) ∧ R.take (L.length % 64) = L.drop (L.length / 64 * 64) ∧ w.heap[p]? = some (.cells (stCells (dig L) R L.length).toArray 49 (0, 0))

theorem St.kept {w w' : World} {p : Nat} {L : List Nat} {S : Nat → Prop} (h : St w p L) (k : Kept S w w') (hp : ¬ S p) : St w' p L := by
  obtain ⟨hL, R, h1, h2, h3, h4⟩ := h
  exact ⟨hL, R, h1, h2, h3, k.heap h4 hp⟩
theorem St.nix {w w' : World} {p : Nat} {L : List Nat} (h : St w p L) (k : Kept Nix w w') : St w' p L := h.kept k (fun h => h)
theorem St.lt {w : World} {p : Nat} {L : List Nat} (h : St w p L) : p < w.heap.size := by
  obtain ⟨_, R, _, _, _, h4⟩ := h
  exact lt_of_heap h4

theorem cell_count {q : Quad} {R : List Nat} {n : Nat} (h : R.length = 64) : (stCells q R n).toArray[68]? = some (.int .i64 (n : Int)) := by
  rw [List.getElem?_toArray, stCells, List.getElem?_append_right (by simp [u32s, ws, u8s, h])]
  simp [u32s, ws, u8s, h]

theorem len_any (p : Nat) (L : List Nat) (w : World) (h : St w p L) : Calls Tryd.prog 14 #[.pointer (some ⟨p, 0, none⟩)] w fun e w' => e = .returned (.int .i64 (L.length : Int)) ∧ w = w' := by
  obtain ⟨hL, R, h1, h2, h3, h4⟩ := h
  have hc : w.cell? ⟨p, 68, none⟩ = some (.int .i64 (L.length : Int)) := by rw [cell_of h4]; exact cell_count h1
  clear hL h1 h2 h3 h4
  go_enter Tryd.func14, Tryd.ntmps14
  go_wp2
  go_ret
  exact ⟨rfl, rfl⟩

theorem built_new : (Tryd.prog.built 49 [(0, .agg #[.int .u32 1732584193, .int .u32 4023233417, .int .u32 2562383102, .int .u32 271733878])]).getD #[] = (stCells (dig []) (List.replicate 64 0) 0).toArray := by kernel_rfl

theorem new_any (w : World) : Calls Tryd.prog 12 #[] w fun e w' => e = .returned (.pointer (some ⟨w.heap.size, 0, none⟩)) ∧ St w' w.heap.size [] ∧ Kept Nix w w' := by
  go_enter Tryd.func12, Tryd.ntmps12
  go_wp2_with (first | (refine wpList_build rfl 49 _ rfl (by kernel_rfl) ?_))
  rw [built_new]
  go_ret
  refine ⟨rfl, ⟨by simp, List.replicate 64 0, by simp, by simp, by simp, ?_⟩, (Kept.refl _ w).alloc _⟩
  exact heap_alloc_new _ _

end Go.Proofs.YtfcidddpoofjgaaDoor
