/- The chapter's example of layer 11: the contract of awake. -/
import Derived.Test.YtgcokligilfkgaaQuant
namespace Go.Proofs.Ytgcokligilfkgaa
open Go.RowKit Bx

theorem qz_ex : qz [524288, -262144] 4 = (3, 4, [4, -2], 0) := by decide

set_option maxHeartbeats 1000000 in
theorem awake_any (w : World) : Calls Try.prog 8 #[] w fun e w' => e = .returned (.bool true) ∧ Kept Nix w w' := by
  have K1 := Lib.hid (show Kept Nix w (w.alloc (.cells (ivs [524288, -262144]).toArray 3)) from (Kept.refl _ w).alloc _)
  have O1 := Lib.hid (quant_any _ [524288, -262144] 4 _ (sl_lit w [524288, -262144] 2 rfl (by decide)) (by decide))
  unfold QPost QPostR at O1
  rw [qz_ex] at O1
  simp only at O1
  go_enter Try.func8, Try.ntmps8
  go_upto_region 2 with (first
    | (go_at_call 10; refine O1.out.mono ?_; rintro e w2 ⟨u, rfl, o2, k2⟩; clear O1
       obtain ⟨uo, uc, rfl, -, -⟩ := owns_shape o2
       have K2 := Lib.hid (nix_trans K1.out k2); have S2 := Lib.hid (sl_of_owns o2); clear o2 k2)
    | (refine wpList_store_row rfl 26 _ _ rfl _ _ rfl rfl 26 _ (heap_alloc_new w2 _) size_lpc rfl (one_lpc _ _ _ _ _) ?_))
  obtain ⟨k3, hc3⟩ := put_lpc w2 3 4 (.slice uo [4, -2].length uc) _ rfl
  generalize World.setRow _ _ _ = w3 at *
  have K3 := Lib.hid (nix_trans K2.out k3)
  have S3 := Lib.hid (S2.out.nix k3)
  obtain ⟨-, c0, c1, c2⟩ := hc3 w3 (Kept.refl _ _)
  have I1 := Lib.hid (ints_eq (S3.out.nix ((Kept.refl _ w3).alloc _)) (sl_lit w3 [4, -2] 2 rfl (by decide)) (by decide) rfl)
  clear hc3 k3
  go_wp2_with (go_at_call 13; refine I1.out.mono ?_; rintro e w4 ⟨rfl, nn, rfl⟩; clear I1)
  go_ret
  exact ⟨rfl, (K3.out.alloc _).drewN _⟩

end Go.Proofs.Ytgcokligilfkgaa
