/- A slice of two slices of integers. -/
import Derived.Test.YtkpmofomlplihaaNear
namespace Go.Proofs.Ytkpmofomlplihaa
open Go.RowKit Bx

theorem chs_two (w : World) (u v : Value) (A B : List Int) (hu : Sl w u (ivs A)) (hv : Sl w v (ivs B)) (t : TypeId) : Chs (w.alloc (.cells #[u, v] t)) (.slice (some ⟨w.heap.size, 0, none⟩) 2 2) [A, B] := by
  refine ⟨[u, v], sl_alloc w [u, v] t 2 rfl (by simp [maxLen]), rfl, fun i hi => ?_⟩
  have k : Kept Nix w (w.alloc (.cells #[u, v] t)) := (Kept.refl _ w).alloc _
  match i, hi with
  | 0, _ => exact ⟨u, rfl, hu.nix k⟩
  | 1, _ => exact ⟨v, rfl, hv.nix k⟩

end Go.Proofs.Ytkpmofomlplihaa
