/- The chapter's example of layer 12: the contract of awake. -/
import Derived.Test.YtkpmofomlplihaaLpcRst
namespace Go.Proofs.Ytkpmofomlplihaa
open Go.RowKit Bx

theorem res_ex1 : lresE 1 4 [4] [1, 2, 4, 8, 16] = 0 := by kernel_rfl
theorem res_ex2 : lresL 1 4 [4] [1, 2, 4, 8, 16] = [0, 0, 0, 0] := by kernel_rfl
theorem rst_ex1 : lrstE 1 4 [4] [1] = 0 := by kernel_rfl
theorem rst_ex2 : lrstL 1 4 [4] [1] [0, 0, 0, 0] = [1, 2, 4, 8, 16] := by kernel_rfl
theorem rst_ex3 : near (lrst [4] (1 : Int).toNat [1] [0, 0, 0, 0]) = true := by kernel_rfl
theorem near_ex1 : near [1, 2, 4, 8, 16] = true := by kernel_rfl
theorem near_ex2 : near [0, 0, 0, 0] = true := by kernel_rfl

set_option maxRecDepth 10000 in
set_option maxHeartbeats 2000000 in
theorem awake_any (w : World) : Calls Try.prog 10 #[] w fun e w' => e = .returned (.bool true) ∧ Kept Nix w w' := by
  have k1 : Kept Nix w ((w.alloc (.cells #[.int .i64 4] 3)).alloc (.cells #[.int .i64 1, .int .i64 4, .slice (some ⟨w.heap.size, 0, none⟩) 1 1] 24)) := ((Kept.refl _ w).alloc _).alloc _
  have s1 : Sl ((w.alloc (.cells #[.int .i64 4] 3)).alloc (.cells #[.int .i64 1, .int .i64 4, .slice (some ⟨w.heap.size, 0, none⟩) 1 1] 24)) (.slice (some ⟨w.heap.size, 0, none⟩) 1 1) (ivs [4]) := (sl_lit w [4] 1 rfl (by decide)).nix ((Kept.refl _ _).alloc _)
  have hsz : (w.alloc (.cells #[.int .i64 4] 3)).heap.size = w.heap.size + 1 := by simp
  have hb := heap_alloc_new (w.alloc (.cells #[.int .i64 4] 3)) (.cells #[.int .i64 1, .int .i64 4, .slice (some ⟨w.heap.size, 0, none⟩) 1 1] 24)
  rw [hsz] at hb
  have HB := Lib.hid (fun w' (k : Kept Nix ((w.alloc (.cells #[.int .i64 4] 3)).alloc (.cells #[.int .i64 1, .int .i64 4, .slice (some ⟨w.heap.size, 0, none⟩) 1 1] 24)) w') => k.heap hb id)
  have K1 := Lib.hid k1
  have S1 := Lib.hid s1
  clear hb k1 s1 hsz
  go_enter Try.func10, Try.ntmps10
  go_upto_region 2 with fail
  generalize (w.alloc (.cells #[.int .i64 4] 3)).alloc (.cells #[.int .i64 1, .int .i64 4, .slice (some ⟨w.heap.size, 0, none⟩) 1 1] 24) = w1 at *
  generalize w.heap.size + 1 = g at *
  have k2 : Kept Nix w1 (w1.alloc (.cells (ivs [1, 2, 4, 8, 16]).toArray 3)) := (Kept.refl _ w1).alloc _
  have H2 := Lib.hid (HB.out _ k2)
  have R1 := Lib.hid (lres_any 1 4 _ _ [4] [1, 2, 4, 8, 16] (w1.alloc (.cells (ivs [1, 2, 4, 8, 16]).toArray 3)) (S1.out.nix k2) (sl_lit w1 [1, 2, 4, 8, 16] 5 rfl (by decide)) (near_bd near_ex1) (by decide))
  have K2 := Lib.hid k2
  clear k2
  unfold LResPost at R1
  rw [res_ex1, res_ex2] at R1
  go_upto_region 3 with (first
    | (refine wpList_load_row rfl 24 _ rfl g rfl 24 _ (0, 0) _ H2.out Try.underlying24 rfl size_lpc ?_)
    | (go_at_call 12; refine R1.out.mono ?_; rintro e w3 ⟨u3, rfl, o3, k3⟩; clear R1; have K3 := Lib.hid (nix_trans K2.out k3); have S3 := Lib.hid (sl_of_owns o3); clear o3 k3))
  have k4 : Kept Nix w3 ((w3.alloc (.cells (ivs [1]).toArray 3)).alloc (.cells (ivs [0, 0, 0, 0]).toArray 3)) := ((Kept.refl _ w3).alloc _).alloc _
  have H4 := Lib.hid (HB.out _ (nix_trans K3.out k4))
  have R2 := Lib.hid (lrst_any 1 4 _ _ _ [4] [1] [0, 0, 0, 0] _ (S1.out.nix (nix_trans K3.out k4)) ((sl_lit w3 [1] 1 rfl (by decide)).nix ((Kept.refl _ _).alloc _)) (sl_lit (w3.alloc (.cells (ivs [1]).toArray 3)) [0, 0, 0, 0] 4 rfl (by decide)) (by decide) (near_bd near_ex2) (fun _ i _ => lrst_near_take rst_ex3 i))
  have K4 := Lib.hid k4
  clear k4
  have hsz : (w3.alloc (.cells (ivs [1]).toArray 3)).heap.size = w3.heap.size + 1 := by simp
  unfold LRstPost at R2
  rw [hsz] at R2
  clear hsz
  rw [rst_ex1, rst_ex2] at R2
  go_upto_region 4 with (first
    | (refine wpList_load_row rfl 24 _ rfl g rfl 24 _ (0, 0) _ H4.out Try.underlying24 rfl size_lpc ?_)
    | (go_at_call 18; refine R2.out.mono ?_; rintro e w5 ⟨u5, rfl, o5, k5⟩; clear R2; have K5 := Lib.hid (nix_trans K4.out k5); have S5 := Lib.hid (sl_of_owns o5); clear o5 k5))
  have KT := Lib.hid (nix_trans K1.out (nix_trans K3.out K5.out))
  have I1 := Lib.hid (ints_eq ((S3.out.nix K5.out).nix ((Kept.refl _ w5).alloc _)) (sl_lit w5 [0, 0, 0, 0] 4 rfl (by decide)) (by decide) rfl)
  go_wp2_with (first
    | (go_at_call 16; refine I1.out.mono ?_; rintro e w6 ⟨rfl, n6, hw6⟩; clear I1; have K6 := Lib.hid (show Kept Nix w5 w6 by rw [hw6]; exact ((Kept.refl _ w5).alloc _).drewN n6); have I2 := Lib.hid (ints_eq ((S5.out.nix K6.out).nix ((Kept.refl _ w6).alloc _)) (sl_lit w6 [1, 2, 4, 8, 16] 5 rfl (by decide)) (by decide) rfl); clear hw6)
    | (go_at_call 16; refine I2.out.mono ?_; rintro e w7 ⟨rfl, n7, rfl⟩; clear I2))
  go_ret
  exact ⟨rfl, nix_trans KT.out (nix_trans K6.out (((Kept.refl Nix w6).alloc _).drewN n7))⟩

end Go.Proofs.Ytkpmofomlplihaa
