/- The walk of WindowMiddle. -/
import Derived.Test.YtcenfidenmppcaaAwake08
import Derived.Test.YtcenfidenmppcaaArgs
namespace Go.Proofs.Ytcenfidenmppcaa
open Go.RowKit Bx

theorem shape_nums (s : Int) (ws : (Lit.int .u8 s).wf = true) : ∃ k : Int, s.tmod 3 = k ∧ wrap64 k = k ∧ (0 ≤ k ∧ k ≤ 2) := by
  obtain ⟨n, rfl, hn⟩ := nat_u8 ws
  refine ⟨(n : Int) % 3, Int.tmod_eq_emod_of_nonneg (by omega), ?_, by omega⟩
  unfold wrap64; omega

theorem mid_nums (h : Int) (wh : (Lit.int .u16 h).wf = true) : ∃ m n p : Int, h.tmod 32768 = m ∧ wrap64 m = m ∧ wrap64 (2 * m) = 2 * m ∧ wrap64 (2 * m + 1) = n ∧ wrap64 (n - 1) = p ∧ (0 ≤ m ∧ m < n ∧ n ≤ 65535) ∧ (0 ≤ p ∧ p < n ∧ n ≤ 65535) ∧ n = 2 * m + 1 := by
  obtain ⟨n, rfl, hn⟩ := nat_u16 wh
  refine ⟨(n : Int) % 32768, 2 * ((n : Int) % 32768) + 1, 2 * ((n : Int) % 32768), Int.tmod_eq_emod_of_nonneg (by omega), ?_, ?_, ?_, ?_, by omega, by omega, rfl⟩ <;> (unfold wrap64; omega)

set_option maxHeartbeats 1000000 in
theorem walk_WindowMiddle (w : World) (shape : Int) (ws : (Lit.int .u8 shape).wf = true) (half : Int) (wh : (Lit.int .u16 half).wf = true) :
    Calls Try.prog 8 #[.int .u8 shape, .int .u16 half] w fun e w' => e = .returned (.bool true) ∧ Kept Nix w w' := by
  have HA := awake_any w
  obtain ⟨s, s1, s2, s3⟩ := shape_nums shape ws
  obtain ⟨m, n, p, m1, m2, m3, m4, m5, m6, m7, m8⟩ := mid_nums half wh
  have W1 := Lib.hid (fun w => weight_ok s m n w s3 m6)
  have W2 := Lib.hid (fun w => weight_ok 0 p n w (by decide) m7)
  rw [m8, wgt_mid s m m6.1, ← m8] at W1
  simp only [wgt_flat] at W2
  clear ws wh s3 m6 m7 m8
  go_enter Try.func8, Try.ntmps8
  go_wp2_with (first
    | (go_at_call 9; refine HA.mono ?_; rintro e w1 ⟨rfl, k1⟩; have K1 := Lib.hid k1; clear k1)
    | (go_at_call 10; refine (W1.out _).mono ?_; rintro e w2 ⟨rfl, k2⟩; have K2 := Lib.hid k2; clear k2 W1)
    | (go_at_call 10; refine (W2.out _).mono ?_; rintro e w3 ⟨rfl, k3⟩; have K3 := Lib.hid k3; clear k3 W2))
  go_ret
  exact ⟨rfl, nix_trans (nix_trans K1.out K2.out) K3.out⟩

end Go.Proofs.Ytcenfidenmppcaa
