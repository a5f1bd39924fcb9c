/- The chapter's examples of layer 8: the contract of awake. -/
import Derived.Test.YtcenfidenmppcaaWinAp
namespace Go.Proofs.Ytcenfidenmppcaa
open Go.RowKit Bx

theorem wl_ex1 : wl 1 3 = [16384, 32768, 16384] := by decide
theorem wl_ex2 : wl 2 3 = [24576, 32768, 24576] := by decide

set_option maxHeartbeats 1000000 in
theorem awake_any (w : World) : Calls Try.prog 9 #[] w fun e w' => e = .returned (.bool true) ∧ Kept Nix w w' := by
  have W1 : Hid (Calls Try.prog 12 #[.int .i64 1, .int .i64 3] w fun e w' => ∃ u, e = .returned (.tuple #[u, .int .i64 0]) ∧ w'.ownsRow w.heap.size 3 1 u 3 (ivs (wl 1 3)) ∧ Kept Nix w w') := Lib.hid (weights_ok 1 3 w (by decide) (by decide))
  go_enter Try.func9, Try.ntmps9
  go_upto_region 3 with (first
    | (go_at_call 12; refine W1.out.mono ?_; rintro e w2 ⟨u2, rfl, o2, k2⟩; clear W1; rw [wl_ex1] at o2; have O2 := Lib.hid o2; have K2 := Lib.hid k2; clear o2 k2
       have W2 : Hid (Calls Try.prog 12 #[.int .i64 2, .int .i64 3] w2 fun e w' => ∃ u, e = .returned (.tuple #[u, .int .i64 0]) ∧ w'.ownsRow w2.heap.size 3 1 u 3 (ivs (wl 2 3)) ∧ Kept Nix w2 w') := Lib.hid (weights_ok 2 3 w2 (by decide) (by decide)))
    | (go_at_call 12; refine W2.out.mono ?_; rintro e w3 ⟨u3, rfl, o3, k3⟩; clear W2; rw [wl_ex2] at o3; have O3 := Lib.hid o3; have K3 := Lib.hid k3; clear o3 k3))
  have I1 := Lib.hid (ints_row (w := w3.alloc (.cells (ivs [16384, 32768, 16384]).toArray 3)) ((K3.out.owns O2.out (fun _ _ h => h)).alloc _) (lit_row w3 [16384, 32768, 16384] 3 rfl (by decide)) (by decide))
  go_wp2_with (first
    | (go_at_call 14; refine I1.out.mono ?_; rintro e w5 ⟨rfl, nn, rfl⟩
       have K5 := Lib.hid (show Kept Nix w3 ((w3.alloc (.cells (ivs [16384, 32768, 16384]).toArray 3)).drewN nn) from ((Kept.refl _ w3).alloc _).drewN _)
       clear I1
       generalize (w3.alloc (.cells (ivs [16384, 32768, 16384]).toArray 3)).drewN nn = w6 at *
       have I2 := Lib.hid (ints_row (w := w6.alloc (.cells (ivs [24576, 32768, 24576]).toArray 3)) ((K5.out.owns O3.out (fun _ _ h => h)).alloc _) (lit_row w6 [24576, 32768, 24576] 3 rfl (by decide)) (by decide)))
    | (go_at_call 14; refine I2.out.mono ?_; rintro e w7 ⟨rfl, n7, rfl⟩))
  go_ret
  exact ⟨rfl, nix_trans (nix_trans K2.out K3.out) (((K5.out).alloc _).drewN _)⟩

end Go.Proofs.Ytcenfidenmppcaa
