/- The chapter's examples of layer 13: the contract of awake. -/
import Derived.Test.YtpbfmbmdagpmpaaCostEq
namespace Go.Proofs.Ytpbfmbmdagpmpaa
open Go.RowKit Bx

theorem best_ex1 : bestV [0, 0, 0] (kk 14) = .tuple #[.agg #[.int .i64 0, .bool false], .int .i64 3, .int .i64 0] := by kernel_rfl
theorem best_ex2 : bestV [1, -1] (kk 14) = .tuple #[.agg #[.int .i64 0, .bool false], .int .i64 5, .int .i64 0] := by kernel_rfl
theorem wid_ex : cwid [1, -1] = 2 := by kernel_rfl

set_option maxRecDepth 10000 in
set_option maxHeartbeats 2000000 in
theorem awake_any (w : World) : Calls Try.prog 9 #[] w fun e w' => e = .returned (.bool true) ∧ Kept Nix w w' := by
  have k1 : Kept Nix w (w.alloc (.cells (ivs [0, 0, 0]).toArray 3)) := (Kept.refl _ w).alloc _
  have B1 := Lib.hid (cbest_any _ [0, 0, 0] 14 _ (sl_lit w [0, 0, 0] 3 rfl (by decide)) (by decide))
  rw [best_ex1] at B1
  have K1 := Lib.hid k1
  clear k1
  go_enter Try.func9, Try.ntmps9
  go_upto_region 2 with (go_at_call 16; refine B1.out.mono ?_; rintro e w1 ⟨rfl, k2⟩; have K2 := Lib.hid (nix_trans K1.out k2); clear B1 k2)
  have C1 := Lib.hid (part_cells w1 0 false 25)
  have K3 := Lib.hid (K2.out.alloc (.cells #[.int .i64 0, .bool false] 25))
  generalize w1.alloc (.cells #[.int .i64 0, .bool false] 25) = w2 at *
  generalize w1.heap.size = g1 at *
  have B2 := Lib.hid (cbest_any _ [1, -1] 14 _ (sl_lit w2 [1, -1] 2 rfl (by decide)) (by decide))
  rw [best_ex2] at B2
  go_upto_region 3 with (go_at_call 16; refine B2.out.mono ?_; rintro e w3 ⟨rfl, k4⟩; have K4 := Lib.hid (nix_trans ((Kept.refl Nix w2).alloc _) k4); clear B2 k4)
  have k5 : Kept Nix w2 (w3.alloc (.cells #[.int .i64 0, .bool false] 25)) := K4.out.alloc _
  obtain ⟨x1, x2, -⟩ := C1.out _ k5
  obtain ⟨y1, y2, -⟩ := part_cells w3 0 false 25 _ (Kept.refl _ _)
  have K5 := Lib.hid (nix_trans K3.out k5)
  clear k5 C1 K4 K3 K2 K1
  generalize w3.alloc (.cells #[.int .i64 0, .bool false] 25) = w4 at *
  generalize w3.heap.size = g2 at *
  have W1 := Lib.hid (cwidth_any _ [1, -1] _ (sl_lit w4 [1, -1] 2 rfl (by decide)))
  rw [wid_ex] at W1
  go_wp2_with (go_at_call 12; refine W1.out.mono ?_; rintro e w5 ⟨rfl, rfl⟩; clear W1)
  go_ret
  exact ⟨rfl, K5.out.alloc _⟩

end Go.Proofs.Ytpbfmbmdagpmpaa
