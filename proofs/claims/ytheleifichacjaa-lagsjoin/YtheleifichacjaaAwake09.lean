/- The chapter's example of layer 9: the contract of awake. -/
import Derived.Test.YtheleifichacjaaLagWhole
namespace Go.Proofs.Ytheleifichacjaa
open Go.RowKit Bx

theorem told_ex : told [1, 2, 3] 3 = [14, 8, 3, 0] := by decide
theorem fit_ex : fit [4194304] = 1 := by decide
theorem bd_ex1 : Bd 1099511627776 [1, 2, 3] := bd_of_mem (by decide)
theorem bd_ex2 : Bd 1099511627776 [4194304] := bd_of_mem (by decide)

set_option maxHeartbeats 1000000 in
theorem awake_any (w : World) : Calls Try.prog 9 #[] w fun e w' => e = .returned (.bool true) ∧ Kept Nix w w' := by
  have K1 := Lib.hid (show Kept Nix w (w.alloc (.cells (ivs [1, 2, 3]).toArray 3)) from (Kept.refl _ w).alloc _)
  have O1 := Lib.hid (of_any _ [1, 2, 3] 3 _ (sl_lit w [1, 2, 3] 3 rfl (by decide)) bd_ex1 (by decide))
  unfold OfPost at O1
  rw [told_ex] at O1
  go_enter Try.func9, Try.ntmps9
  go_wp2_with (first
    | (go_at_call 14; refine O1.out.mono ?_; rintro e w2 ⟨u2, rfl, o2, k2⟩; clear O1
       have K2 := Lib.hid (nix_trans K1.out k2); have S2 := Lib.hid (sl_of_owns o2); clear o2 k2
       have I1 := Lib.hid (ints_eq (S2.out.nix ((Kept.refl _ w2).alloc _)) (sl_lit w2 [14, 8, 3, 0] 4 rfl (by decide)) (by decide) rfl))
    | (go_at_call 13; refine I1.out.mono ?_; rintro e w3 ⟨rfl, nn, rfl⟩; clear I1
       have K3 := Lib.hid (show Kept Nix w2 ((w2.alloc (.cells (ivs [14, 8, 3, 0]).toArray 3)).drewN nn) from ((Kept.refl _ w2).alloc _).drewN _)
       generalize (w2.alloc (.cells (ivs [14, 8, 3, 0]).toArray 3)).drewN nn = w3 at *
       have F1 := Lib.hid (fit_any _ [4194304] _ (sl_lit w3 [4194304] 1 rfl (by decide)) bd_ex2)
       rw [fit_ex] at F1)
    | (go_at_call 11; refine F1.out.mono ?_; rintro e w4 ⟨rfl, rfl⟩; clear F1))
  go_ret
  exact ⟨rfl, (nix_trans K2.out K3.out).alloc _⟩

end Go.Proofs.Ytheleifichacjaa
