/- Package pcm's In, and the reference's. -/
import Derived.Test.YtliggpidkdiinaaInts
import Derived.Test.YtliggpidkdiinaaPcmMath
import Derived.Test.YtliggpidkdiinaaRPow
namespace Go.Proofs.Ytliggpidkdiinaa
open Go.RowKit Bx

theorem pow_61 (k : Nat) (h : k ≤ 61) : (1 : Int) ≤ 2 ^ k ∧ (2 : Int) ^ k ≤ 2305843009213693952 := by
  have h1 : 2 ^ k ≤ 2305843009213693952 := Nat.le_trans (Nat.pow_le_pow_right (show 0 < 2 by omega) h) (by decide)
  have h2 := Nat.one_le_two_pow (n := k)
  have e : (2 : Int) ^ k = ((2 ^ k : Nat) : Int) := by simp
  rw [e]
  generalize 2 ^ k = x at *
  omega

theorem in_out (n d : Int) (h : d < 1 ∨ 62 < d) : inD n d = false := by
  unfold inD
  rcases h with h | h
  · rw [decide_eq_false (show ¬ (1 ≤ d) by omega)]; rfl
  · rw [decide_eq_false (show ¬ (d ≤ 62) by omega)]; simp

theorem in_some (n d : Int) (h1 : 1 ≤ d) (h2 : d ≤ 62) : inD n d = (decide (-(2 : Int) ^ (d.toNat - 1) ≤ n) && decide (n < (2 : Int) ^ (d.toNat - 1))) := by
  unfold inD
  rw [decide_eq_true h1, decide_eq_true h2]; rfl

theorem wrap_half (d : Int) (h1 : 1 ≤ d) (h2 : d ≤ 62) : wrap64 (2 ^ (d.toNat - 1)) = 2 ^ (d.toNat - 1) ∧ wrap64 (-2 ^ (d.toNat - 1)) = -2 ^ (d.toNat - 1) := by
  have := pow_61 (d.toNat - 1) (by omega)
  exact ⟨w64_in _ (by omega), w64_in _ (by omega)⟩

theorem in_any (n d : Int) (w : World) : Calls Try.prog 30 #[.int .i64 n, .int .i64 d] w fun e w' => e = .returned (.bool (inD n d)) ∧ w' = w := by
  by_cases hd : d < 1 ∨ 62 < d
  · rw [in_out n d hd]
    go_enter Try.func30, Try.ntmps30
    go_wp2
    all_goals first
      | (go_ret; exact ⟨rfl, rfl⟩)
      | (exfalso; omega)
  · have h1 : 1 ≤ d := by omega
    have h2 : d ≤ 62 := by omega
    clear hd
    obtain ⟨e1, e2⟩ := wrap_half d h1 h2
    rw [in_some n d h1 h2]
    have ht : (decide (d < 1) || decide (62 < d)) = false := by simp; omega
    go_enter Try.func30, Try.ntmps30
    go_wp2
    · rename_i h
      go_ret
      rw [decide_eq_true h]
      exact ⟨rfl, rfl⟩
    · rename_i h
      go_ret
      rw [decide_eq_false (show ¬ (-2 ^ (d.toNat - 1) ≤ n) by omega)]
      exact ⟨rfl, rfl⟩

theorem rin_any (n d : Int) (w : World) : Calls Try.prog 53 #[.int .i64 n, .int .i64 d] w fun e w' => e = .returned (.bool (inD n d)) ∧ w' = w := by
  by_cases hd : d < 1 ∨ 62 < d
  · rw [in_out n d hd]
    go_enter Try.func53, Try.ntmps53
    go_wp2_with fail
    all_goals first
      | (go_ret; exact ⟨rfl, rfl⟩)
      | (exfalso; omega)
  · have h1 : 1 ≤ d := by omega
    have h2 : d ≤ 62 := by omega
    clear hd
    obtain ⟨e1, e2⟩ := wrap_half d h1 h2
    obtain ⟨D, rfl⟩ : ∃ D : Nat, d = (D : Int) := ⟨d.toNat, by omega⟩
    rw [in_some n D h1 h2]
    have HP := rpower_any (D - 1) (by omega)
    rw [show ((D - 1 : Nat) : Int) = (D : Int) - 1 by omega] at HP
    simp only [Int.toNat_natCast] at e1 e2 ⊢
    obtain ⟨T, hT⟩ : ∃ T : Int, (2 : Int) ^ (D - 1) = T := ⟨_, rfl⟩
    simp only [hT] at HP e1 e2 ⊢
    clear hT
    have ht : (decide ((D : Int) < 1) || decide (62 < (D : Int))) = false := by simp; omega
    go_enter Try.func53, Try.ntmps53
    go_wp2_with (go_at_call 44; refine (HP _).mono ?_; rintro e w1 ⟨rfl, rfl⟩)
    · rename_i h
      go_ret
      rw [decide_eq_true h]
      exact ⟨rfl, rfl⟩
    · rename_i h
      go_ret
      rw [decide_eq_false (show ¬ (-T ≤ n) by omega)]
      exact ⟨rfl, rfl⟩

end Go.Proofs.Ytliggpidkdiinaa
