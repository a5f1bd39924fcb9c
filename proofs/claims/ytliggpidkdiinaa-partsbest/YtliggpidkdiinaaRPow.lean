/- The reference's Power: powers of 2. -/
import Derived.Test.YtliggpidkdiinaaNear
namespace Go.Proofs.Ytliggpidkdiinaa
open Go.RowKit Bx

theorem rpow_61 (n : Nat) (h : n ≤ 61) : 1 ≤ (2 : Int) ^ n ∧ (2 : Int) ^ n ≤ 2305843009213693952 := by
  have h1 := Nat.pow_le_pow_right (show 0 < 2 by decide) h
  have h2 := Nat.two_pow_pos n
  have e : ((2 ^ n : Nat) : Int) = (2 : Int) ^ n := by simp
  rw [← e]
  omega

def RPowInv (n : Nat) (w : World) (a : Act) (w' : World) : Prop :=
  a.defers = [] ∧ a.tmps.size = 13 ∧ a.tmps[0]? = some (.int .i64 (n : Int)) ∧ ∃ i : Nat, i ≤ n ∧ a.tmps[4]? = some (.int .i64 (i : Int)) ∧ a.tmps[3]? = some (.int .i64 (2 ^ i)) ∧ w' = w

theorem rpow_step (i : Nat) (h : i ≤ 60) : wrap64 (2 * 2 ^ i) = 2 ^ (i + 1) := by
  have := rpow_61 i (by omega)
  rw [Int.pow_succ, Int.mul_comm ((2 : Int) ^ i)]
  generalize (2 : Int) ^ i = t at *
  exact w64_in _ (by omega)

set_option maxHeartbeats 400000 in
theorem rpower_any (n : Nat) (hn : n ≤ 61) (w : World) : Calls Try.prog 44 #[.int .i64 (n : Int)] w fun e w' => e = .returned (.int .i64 (2 ^ n)) ∧ w' = w := by
  go_enter Try.func44, Try.ntmps44
  go_wp2
  refine wp_loop (RPowInv n w) (fun a _ => n - (intOf (a.tmps.getD 4 undef)).toNat) ?_ ?_
  · exact ⟨rfl, rfl, rfl, 0, Nat.zero_le _, rfl, by simp, rfl⟩
  · rintro ⟨tm, df⟩ w1 ⟨rfl, hs, e0, i, hi, e4, e3, rfl⟩
    simp only at hs e0 e4 e3
    obtain ⟨f, hf, hg⟩ := fr_open hs
    have g0 := hg _ _ e0
    have g4 := hg _ _ e4
    have g3 := hg _ _ e3
    simp only [List.range, List.range.loop, List.map] at hf
    rw [g0, g4, g3] at hf
    clear g0 g4 g3 hg hs e0 e4 e3
    subst hf
    by_cases hlt : i < n
    · have hd : decide ((i : Int) < (n : Int)) = true := decide_eq_true (by omega)
      have hw := rpow_step i (by omega)
      generalize hp : (2 : Int) ^ i = p at *
      generalize hp2 : (2 : Int) ^ (i + 1) = p2 at *
      have HP := Lib.hid hp2
      clear hp hp2
      go_wp2
      rw [hw]
      refine ⟨⟨rfl, rfl, rfl, i + 1, hlt, by simp, ?_, rfl⟩, ?_⟩
      · rw [HP.out]; rfl
      · simp [intOf]; omega
    · have hin : i = n := by omega
      subst hin
      have hd : decide ((i : Int) < (i : Int)) = false := by simp
      clear hlt hi
      go_wp2
      go_ret
      exact ⟨rfl, rfl⟩

end Go.Proofs.Ytliggpidkdiinaa
