/- The walk of WindowEven. -/
import Derived.Test.YtcenfidenmppcaaLMiddle8
namespace Go.Proofs.Ytcenfidenmppcaa
open Go.RowKit Bx

theorem even_nums (i n : Int) (wi : (Lit.int .u16 i).wf = true) (wn : (Lit.int .u16 n).wf = true) (h : ¬ n = 0) : ∃ k q p k1 : Int, wrap64 n = n ∧ wrap64 i = i ∧ i.tmod n = k ∧ wrap64 k = k ∧ wrap64 (n - 1) = q ∧ wrap64 (q - k) = p ∧ wrap64 (k + 1) = k1 ∧ wrap64 (2 * k1) = 2 * k1 ∧ (0 ≤ k ∧ k < n ∧ n ≤ 65535) ∧ p = n - 1 - k ∧ k1 = k + 1 := by
  obtain ⟨n, rfl, hn⟩ := nat_u16 wn
  obtain ⟨i, rfl, hi⟩ := nat_u16 wi
  have h1 : 0 < n := by omega
  have h2 : i % n < n := Nat.mod_lt _ h1
  have h3 : (i : Int).tmod (n : Int) = ((i % n : Nat) : Int) := by rw [Int.tmod_eq_emod_of_nonneg (by omega)]; rfl
  generalize i % n = k at *
  refine ⟨(k : Int), (n : Int) - 1, (n : Int) - 1 - k, (k : Int) + 1, ?_, ?_, h3, ?_, ?_, ?_, ?_, ?_, by omega, rfl, rfl⟩ <;> (clear h3; unfold wrap64; omega)

set_option maxHeartbeats 1000000 in
theorem walk_WindowEven (w : World) (shape : Int) (ws : (Lit.int .u8 shape).wf = true) (i : Int) (wi : (Lit.int .u16 i).wf = true) (n : Int) (wn : (Lit.int .u16 n).wf = true) :
    Calls Try.prog 5 #[.int .u8 shape, .int .u16 i, .int .u16 n] w fun e w' => e = .returned (.bool true) ∧ Kept Nix w w' := by
  have HA := awake_any w
  by_cases hn : n = 0
  · subst hn
    go_enter Try.func5, Try.ntmps5
    go_wp2_with (first
      | (go_at_call 9; refine HA.mono ?_; rintro e w1 ⟨rfl, k1⟩; have K1 := Lib.hid k1; clear k1))
    go_ret
    exact ⟨rfl, K1.out⟩
  obtain ⟨s, s1, s2, s3⟩ := shape_nums shape ws
  obtain ⟨k, q, p, k1, n1, n2, n3, n4, n5, n6, n7, n8, n9, rfl, rfl⟩ := even_nums i n wi wn hn
  have hz : (n == 0) = false := beq_false_of_ne hn
  have W1 := Lib.hid (fun w => weight_ok s k n w s3 n9)
  have W2 := Lib.hid (fun w => weight_ok s (n - 1 - k) n w s3 (by omega))
  simp only [wgt_turn] at W2
  have lo : decide (wgt s k n < 1) = false := decide_eq_false (by have := wgt_low s k n n9.1 n9.2.1 n9.2.2; omega)
  have hi : decide (32768 < wgt s k n) = false := decide_eq_false (by have := wgt_top s k n n9.1 n9.2.1; omega)
  by_cases hh : 2 * (k + 1) ≤ n
  · have hd : decide (2 * (k + 1) ≤ n) = true := decide_eq_true hh
    have W3 := Lib.hid (fun w => weight_ok s (k + 1) n w s3 (by omega))
    have up : decide (wgt s k n ≤ wgt s (k + 1) n) = true := decide_eq_true (wgt_up s k n n9.1 hh)
    have he : (k + 1 == n) = false := beq_false_of_ne (by omega)
    generalize wgt s k n = a at *
    generalize wgt s (k + 1) n = c at *
    clear ws wi wn s3 n9 hh
    go_enter Try.func5, Try.ntmps5
    go_wp2_with (first
      | (go_at_call 9; refine HA.mono ?_; rintro e w1 ⟨rfl, k1⟩; have K1 := Lib.hid k1; clear k1)
      | (go_at_call 10; refine (W1.out _).mono ?_; rintro e w2 ⟨rfl, k2⟩; have K2 := Lib.hid k2; clear k2 W1)
      | (go_at_call 10; refine (W2.out _).mono ?_; rintro e w3 ⟨rfl, k3⟩; have K3 := Lib.hid k3; clear k3 W2)
      | (go_at_call 10; refine (W3.out _).mono ?_; rintro e w4 ⟨rfl, k4⟩; have K4 := Lib.hid k4; clear k4 W3))
    go_ret
    exact ⟨rfl, nix_trans (nix_trans (nix_trans K1.out K2.out) K3.out) K4.out⟩
  · have hd : decide (2 * (k + 1) ≤ n) = false := decide_eq_false hh
    generalize wgt s k n = a at *
    clear ws wi wn s3 n9 hh
    go_enter Try.func5, Try.ntmps5
    go_wp2_with (first
      | (go_at_call 9; refine HA.mono ?_; rintro e w1 ⟨rfl, k1⟩; have K1 := Lib.hid k1; clear k1)
      | (go_at_call 10; refine (W1.out _).mono ?_; rintro e w2 ⟨rfl, k2⟩; have K2 := Lib.hid k2; clear k2 W1)
      | (go_at_call 10; refine (W2.out _).mono ?_; rintro e w3 ⟨rfl, k3⟩; have K3 := Lib.hid k3; clear k3 W2))
    go_ret
    exact ⟨rfl, nix_trans (nix_trans K1.out K2.out) K3.out⟩

end Go.Proofs.Ytcenfidenmppcaa
