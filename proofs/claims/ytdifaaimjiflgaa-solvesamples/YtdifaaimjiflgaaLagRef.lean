/- The reference of layer 9: powers of 2, what is divided and rounded down, Fit. -/
import Derived.Test.YtdifaaimjiflgaaLagWhole
namespace Go.Proofs.Ytdifaaimjiflgaa
open Go.RowKit Bx

theorem down_dv (a p : Int) (hp : 0 < p) (ha : -9223372036854775807 ≤ a ∧ a ≤ 9223372036854775807) : wrap64 (a.tdiv p) = a.tdiv p ∧ (a.tmod p < 0 → wrap64 (a.tdiv p - 1) = a / p) ∧ (¬ a.tmod p < 0 → a.tdiv p = a / p) := by
  have h1 := Int.tmod_add_mul_tdiv a p
  have h2 := Int.tmod_lt_of_pos a hp
  have h3 : -p < a.tmod p := by
    rcases Int.le_total 0 a with h | h
    · have := Int.tmod_nonneg p h; omega
    · have h4 := Int.tmod_lt_of_pos (-a) hp
      rw [Int.neg_tmod] at h4
      omega
  have h5 : (a.tdiv p).natAbs ≤ a.natAbs := by rw [Int.natAbs_tdiv]; exact Nat.div_le_self _ _
  have e1 : a.tmod p < 0 → a / p = a.tdiv p - 1 := fun h => by
    refine ((Int.ediv_emod_unique (r := a.tmod p + p) (q := a.tdiv p - 1) hp).2 ⟨?_, by omega, by omega⟩).1
    rw [Int.mul_sub, Int.mul_one]
    omega
  have e2 : ¬ a.tmod p < 0 → a / p = a.tdiv p := fun h => ((Int.ediv_emod_unique (r := a.tmod p) (q := a.tdiv p) hp).2 ⟨h1, by omega, h2⟩).1
  have h6 : (a / p).natAbs ≤ a.natAbs + 1 := by
    by_cases h : a.tmod p < 0
    · rw [e1 h]; omega
    · rw [e2 h]; omega
  refine ⟨w64_in _ (by omega), fun h => ?_, fun h => (e2 h).symm⟩
  rw [e1 h] at h6 ⊢
  exact w64_in _ (by omega)

set_option maxHeartbeats 1000000 in
theorem down_by (a p : Int) (hp : 0 < p) (ha : -9223372036854775807 ≤ a ∧ a ≤ 9223372036854775807) (w : World) : Calls Try.prog 21 #[.int .i64 a, .int .i64 p] w fun e w' => e = .returned (.int .i64 (a / p)) ∧ w' = w := by
  obtain ⟨a1, a2, a3⟩ := down_dv a p hp ha
  have hz : ¬ p = 0 := by omega
  by_cases hm : a.tmod p < 0
  · have d : decide (a.tmod p < 0) = true := decide_eq_true hm
    have a5 := a2 hm
    clear a2 a3 ha hm hp
    generalize a / p = q at *
    go_enter Try.func21, Try.ntmps21
    go_wp2
    go_ret
    first | exact ⟨rfl, rfl⟩ | exact ⟨congrArg (fun z => Ending.returned (.int .i64 z)) a5, rfl⟩
  · have d : decide (a.tmod p < 0) = false := decide_eq_false hm
    have a5 := a3 hm
    have A5 := Lib.hid a5
    clear a2 a3 ha hm a5 hp
    generalize a / p = q at *
    go_enter Try.func21, Try.ntmps21
    go_wp2
    go_ret
    first | exact ⟨congrArg (fun z => Ending.returned (.int .i64 z)) A5.out, rfl⟩ | exact ⟨congrArg (fun z => Ending.returned (.int .i64 z)) (a1.trans A5.out), rfl⟩

def PowInv (n : Nat) (w : World) (a : Act) (w' : World) : Prop :=
  a.defers = [] ∧ a.tmps.size = 13 ∧ a.tmps[0]? = some (.int .i64 (n : Int)) ∧ ∃ i : Nat, i ≤ n ∧ a.tmps[4]? = some (.int .i64 (i : Int)) ∧ a.tmps[3]? = some (.int .i64 ((2 : Int) ^ i)) ∧ w = w'

theorem pow_top (s : Nat) (h : s ≤ 40) : 1 ≤ (2 : Int) ^ s ∧ (2 : Int) ^ s ≤ 1099511627776 := ⟨pow_le2 (a := 0) (Nat.zero_le s), pow_le2 (b := 40) h⟩

theorem pow_nums (n i : Nat) (hn : n ≤ 40) (hi : i < n) : wrap64 ((i : Int) + 1) = ((i + 1 : Nat) : Int) ∧ (2 * (2 : Int) ^ i = 2 ^ (i + 1)) ∧ wrap64 ((2 : Int) ^ (i + 1)) = 2 ^ (i + 1) ∧ decide ((i : Int) < (n : Int)) = true ∧ decide (i < n) = true := by
  have h := pow_top (i + 1) (by omega)
  exact ⟨by unfold wrap64; omega, by rw [Int.pow_succ, Int.mul_comm], w64_in _ (by omega), decide_eq_true (by omega), decide_eq_true hi⟩

/-- Do all fit? -/
def fitsB (s : Nat) (zs : List Int) : Bool := zs.all (fun z => !(decide (z / (2 : Int) ^ s < -4194304) || decide (4194303 < z / (2 : Int) ^ s)))

theorem fitsB_iff (s : Nat) (zs : List Int) : fitsB s zs = true ↔ Fits s zs := by
  unfold fitsB Fits
  rw [List.all_eq_true]
  refine forall_congr' fun z => ?_
  refine imp_congr_right fun _ => ?_
  rw [← fits_iff]
  simp only [Bool.not_eq_true', Bool.or_eq_false_iff, decide_eq_false_iff_not]
  omega

theorem fitsB_take (s : Nat) (zs : List Int) (i : Nat) (h : i < zs.length) : fitsB s (zs.take (i + 1)) = (fitsB s (zs.take i) && !(decide (zs.getD i 0 / (2 : Int) ^ s < -4194304) || decide (4194303 < zs.getD i 0 / (2 : Int) ^ s))) := by
  unfold fitsB
  rw [List.take_succ_eq_append_getElem h, List.all_append]
  simp [List.getD, h]

def RFitO (v : Value) (zs : List Int) (w : World) (a : Act) (w' : World) : Prop :=
  a.defers = [] ∧ a.tmps.size = 32 ∧ a.tmps[0]? = some v ∧ ∃ s : Nat, s ≤ fit zs ∧ a.tmps[3]? = some (.int .i64 (s : Int)) ∧ ∃ nn, w' = w.drewN nn

def RFitI (v : Value) (zs : List Int) (s n : Nat) (w : World) (a : Act) (w' : World) : Prop :=
  a.defers = [] ∧ a.tmps.size = 32 ∧ a.tmps[0]? = some v ∧ a.tmps[3]? = some (.int .i64 (s : Int)) ∧ ∃ i : Nat, i ≤ n ∧ a.tmps[5]? = some (.int .i64 (i : Int)) ∧ a.tmps[4]? = some (.bool (fitsB s (zs.take i))) ∧ ∃ nn, w' = w.drewN nn

end Go.Proofs.Ytdifaaimjiflgaa
