/- The reference's Down: what is divided and rounded down. -/
import Derived.Test.YtkpmofomlplihaaNear
namespace Go.Proofs.Ytkpmofomlplihaa
open Go.RowKit Bx

theorem down_dv (a p : Int) (hp : 0 < p) (ha : -9223372036854775807 ≤ a ∧ a ≤ 9223372036854775807) : wrap64 (a.tdiv p) = a.tdiv p ∧ (a.tmod p < 0 → wrap64 (a.tdiv p - 1) = a / p) ∧ (¬ a.tmod p < 0 → a.tdiv p = a / p) := by
  have h1 := Int.tmod_add_mul_tdiv a p
  have h2 := Int.tmod_lt_of_pos a hp
  have h3 : -p < a.tmod p := by
    rcases Int.le_total 0 a with h | h
    · have := Int.tmod_nonneg p h; omega
    · have h4 := Int.tmod_lt_of_pos (-a) hp
      rw [Int.neg_tmod] at h4
      omega
  have h5 : (a.tdiv p).natAbs ≤ a.natAbs := by rw [Int.natAbs_tdiv]; exact Nat.div_le_self _ _
  have e1 : a.tmod p < 0 → a / p = a.tdiv p - 1 := fun h => by
    refine ((Int.ediv_emod_unique (r := a.tmod p + p) (q := a.tdiv p - 1) hp).2 ⟨?_, by omega, by omega⟩).1
    rw [Int.mul_sub, Int.mul_one]
    omega
  have e2 : ¬ a.tmod p < 0 → a / p = a.tdiv p := fun h => ((Int.ediv_emod_unique (r := a.tmod p) (q := a.tdiv p) hp).2 ⟨h1, by omega, h2⟩).1
  have h6 : (a / p).natAbs ≤ a.natAbs + 1 := by
    by_cases h : a.tmod p < 0
    · rw [e1 h]; omega
    · rw [e2 h]; omega
  refine ⟨w64_in _ (by omega), fun h => ?_, fun h => (e2 h).symm⟩
  rw [e1 h] at h6 ⊢
  exact w64_in _ (by omega)

set_option maxHeartbeats 1000000 in
theorem down_by (a p : Int) (hp : 0 < p) (ha : -9223372036854775807 ≤ a ∧ a ≤ 9223372036854775807) (w : World) : Calls Try.prog 28 #[.int .i64 a, .int .i64 p] w fun e w' => e = .returned (.int .i64 (a / p)) ∧ w' = w := by
  obtain ⟨a1, a2, a3⟩ := down_dv a p hp ha
  have hz : ¬ p = 0 := by omega
  by_cases hm : a.tmod p < 0
  · have d : decide (a.tmod p < 0) = true := decide_eq_true hm
    have a5 := a2 hm
    clear a2 a3 ha hm hp
    generalize a / p = q at *
    go_enter Try.func28, Try.ntmps28
    go_wp2
    go_ret
    first | exact ⟨rfl, rfl⟩ | exact ⟨congrArg (fun z => Ending.returned (.int .i64 z)) a5, rfl⟩
  · have d : decide (a.tmod p < 0) = false := decide_eq_false hm
    have a5 := a3 hm
    have A5 := Lib.hid a5
    clear a2 a3 ha hm a5 hp
    generalize a / p = q at *
    go_enter Try.func28, Try.ntmps28
    go_wp2
    go_ret
    first | exact ⟨congrArg (fun z => Ending.returned (.int .i64 z)) A5.out, rfl⟩ | exact ⟨congrArg (fun z => Ending.returned (.int .i64 z)) (a1.trans A5.out), rfl⟩

end Go.Proofs.Ytkpmofomlplihaa
