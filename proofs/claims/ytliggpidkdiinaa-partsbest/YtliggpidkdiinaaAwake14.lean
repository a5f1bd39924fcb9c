/- The chapter's example of layer 14: the contract of awake. -/
import Derived.Test.YtliggpidkdiinaaPartBest
import Derived.Test.YtliggpidkdiinaaPartBits
import Derived.Test.YtliggpidkdiinaaCostEq
namespace Go.Proofs.Ytliggpidkdiinaa
open Go.RowKit Bx

theorem aw_e : pbE [0, 0, 100, 100] 0 1 = 0 := by kernel_rfl
theorem aw_w : pbW [0, 0, 100, 100] 0 1 false = false := by kernel_rfl
theorem aw_o : pbO [0, 0, 100, 100] 0 1 false = 1 := by kernel_rfl
theorem aw_p : pbP [0, 0, 100, 100] 0 1 false = [(0, false), (7, false)] := by kernel_rfl
theorem aw_n : pbN [0, 0, 100, 100] 0 1 false = 34 := by kernel_rfl
theorem aw_b : pbits (pcz [0, 0, 100, 100] (ctI [0, 0, 100, 100].length 0 1)) [(0, false), (7, false)] (wM false) (wA false) = 34 := by kernel_rfl

set_option maxRecDepth 10000 in
set_option maxHeartbeats 2000000 in
theorem awake_any (w : World) : Calls Try.prog 8 #[] w fun e w' => e = .returned (.bool true) ∧ Kept Nix w w' := by
  have k1 : Kept Nix w (w.alloc (.cells (ivs [0, 0, 100, 100]).toArray 3)) := (Kept.refl _ w).alloc _
  have B1 := Lib.hid (pbest_any _ [0, 0, 100, 100] 0 1 false _ (sl_lit w [0, 0, 100, 100] 4 rfl (by decide)) (by decide))
  unfold PBPost at B1
  rw [aw_e, aw_w, aw_o, aw_p, aw_n] at B1
  have K1 := Lib.hid k1
  clear k1
  go_enter Try.func8, Try.ntmps8
  go_upto_region 2 with (go_at_call 9; refine B1.out.mono ?_; rintro e w1 ⟨u1, rfl, o1, k2⟩; have o1 : w1.ownsRow _ 39 2 u1 2 _ := o1; obtain ⟨b1, d1, rfl, -⟩ := owns_pos o1 (by decide); have K2 := Lib.hid (nix_trans K1.out k2); have O1 := Lib.hid o1; clear B1 k2 o1)
  have H1 := Lib.hid (heap_alloc_new w1 (.cells #[.bool false, .int .i64 1, .slice (some ⟨b1, 0, none⟩) 2 d1] 26))
  have K3 := Lib.hid ((Kept.refl Nix w1).alloc (.cells #[.bool false, .int .i64 1, .slice (some ⟨b1, 0, none⟩) 2 d1] 26))
  have O3 := Lib.hid (K3.out.owns O1.out (fun _ _ h => h))
  generalize w1.alloc (.cells #[.bool false, .int .i64 1, .slice (some ⟨b1, 0, none⟩) 2 d1] 26) = w2 at *
  generalize w1.heap.size = g1 at *
  have KL := Lib.hid ((Kept.refl Nix w2).alloc (.cells (ivs [0, 0, 100, 100]).toArray 3))
  have B2 := Lib.hid ((pbits_any _ [0, 0, 100, 100] 0 1 false (.slice (some ⟨b1, 0, none⟩) 2 d1) [(0, false), (7, false)] _ (sl_lit w2 [0, 0, 100, 100] 4 rfl (by decide)) ((pts_of_owns (ps := [(0, false), (7, false)]) O3.out).nix KL.out) (by decide) (by decide)).mono (R' := fun e w' => e = .returned (.int .i64 34) ∧ Kept Nix (w2.alloc (.cells (ivs [0, 0, 100, 100]).toArray 3)) w') (fun e w' h => ⟨h.1.trans (congrArg (fun x => Ending.returned (.int .i64 x)) aw_b), h.2⟩))
  obtain ⟨x0, x1, x2⟩ := cells_three H1.out
  obtain ⟨y0, y1⟩ := part_in (ps := [(0, false), (7, false)]) O3.out 0 (by decide) w2 (Kept.refl _ _)
  simp only [Nat.zero_mul, Nat.zero_add, List.getD_cons_zero] at y0 y1
  have H1L := Lib.hid (KL.out.heap H1.out id)
  have H1M : (w2.alloc (.cells #[.int .i64 0, .int .i64 0, .int .i64 100, .int .i64 100] 3)).heap[g1]? = some (.cells #[.bool false, .int .i64 1, .slice (some ⟨b1, 0, none⟩) 2 d1] 26 (0, 0)) := H1L.out
  obtain ⟨z0, z1, z2⟩ := cells_three H1M
  go_wp2_with (first
    | (go_at_call 14; refine B2.out.mono ?_; rintro e w4 ⟨rfl, k4⟩; have K4 := Lib.hid k4; clear k4 B2))
  go_ret
  exact ⟨rfl, nix_trans K2.out (nix_trans K3.out (nix_trans KL.out K4.out))⟩

end Go.Proofs.Ytliggpidkdiinaa
