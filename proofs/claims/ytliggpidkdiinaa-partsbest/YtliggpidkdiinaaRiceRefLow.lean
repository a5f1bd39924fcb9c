/- Contracts of the reference's functions of layer 2: K, Fold, Near, High, Size. -/
import Derived.Test.YtliggpidkdiinaaRice
import Derived.Test.YtliggpidkdiinaaBase
namespace Go.Proofs.Ytliggpidkdiinaa
open Go.RowKit Bx

set_option maxHeartbeats 400000 in
theorem refK_any (n : Int) (w : World) : Calls Try.prog 56 #[.int .i64 n] w fun e w' => e = .returned (.int .i64 (kk n : Nat)) ∧ w = w' := by
  have hw : (kk n : Int) = max 0 (min n 30) := by unfold kk; omega
  have HW := Lib.hid hw
  clear hw
  go_enter Try.func56, Try.ntmps56
  go_wp2
  all_goals
    go_ret
    exact ⟨ret_int (by rw [HW.out]; omega), rfl⟩

set_option maxHeartbeats 400000 in
theorem refFold_any (n : Int) (w : World) (h0 : -9223372036854775808 ≤ n) (h1 : n ≤ 9223372036854775807) : Calls Try.prog 57 #[.int .i64 n] w fun e w' => e = .returned (.int .u64 (fd n : Nat)) ∧ w = w' := by
  have hw : (fd n : Int) = if 0 ≤ n then 2 * n else -(2 * n) - 1 := by unfold fd; split <;> omega
  have HW := Lib.hid hw
  clear hw
  by_cases hn : 0 ≤ n
  · have w1 : IntKind.u64.wrap n = n := by rw [IntKind.wrap_u64]; omega
    go_enter Try.func57, Try.ntmps57
    go_wp2
    go_ret
    refine ⟨ret_int ?_, rfl⟩
    rw [HW.out, if_pos hn]
  · go_enter Try.func57, Try.ntmps57
    go_wp2
    go_ret
    refine ⟨ret_int ?_, rfl⟩
    rw [HW.out, if_neg (by omega)]
    try simp only [IntKind.wrap_u64]
    omega

set_option maxHeartbeats 400000 in
theorem refNear_any (n : Int) (w : World) : Calls Try.prog 24 #[.int .i64 n] w fun e w' => e = .returned (.bool (nr n)) ∧ w = w' := by
  go_enter Try.func24, Try.ntmps24
  go_wp2
  all_goals
    go_ret
    refine ⟨congrArg (fun b => Ending.returned (Value.bool b)) ?_, rfl⟩
    simp only [nr]
    first
      | (rw [decide_eq_true (p := -8589934592 ≤ n) (by omega), Bool.true_and]; exact decide_eq_decide.2 (by omega))
      | (rw [decide_eq_false (p := -8589934592 ≤ n) (by omega), Bool.false_and])

def HighInv (w : World) (n k : Int) (a : Act) (w' : World) : Prop :=
  w' = w ∧ a.defers = [] ∧ a.tmps.size = 18 ∧ a.tmps[1]? = some (.int .i64 k) ∧ ∃ i, i ≤ kk k ∧ a.tmps[5]? = some (.int .u64 ((fd n / 2 ^ i : Nat) : Int)) ∧ a.tmps[6]? = some (.int .i64 ((i : Nat) : Int))

set_option maxHeartbeats 400000 in
theorem refHigh_any (n k : Int) (w : World) (h0 : -9223372036854775808 ≤ n) (h1 : n ≤ 9223372036854775807) : Calls Try.prog 55 #[.int .i64 n, .int .i64 k] w fun e w' => e = .returned (.int .u64 ((fd n / 2 ^ kk k : Nat) : Int)) ∧ w = w' := by
  have HF := Lib.hid (refFold_any n w h0 h1)
  have HK := Lib.hid (refK_any k)
  have hkl := kk_le k
  have hfl := fd_lt h0 h1
  go_enter Try.func55, Try.ntmps55
  go_wp2_with (go_at_call 57; refine HF.out.mono ?_; rintro e w' ⟨rfl, rfl⟩)
  refine wp_loop (HighInv w n k) (fun a _ => kk k - (intOf (a.tmps.getD 6 undef)).toNat) ?_ ?_
  · exact ⟨rfl, rfl, rfl, rfl, 0, Nat.zero_le _, by simp, rfl⟩
  · rintro ⟨tm, df⟩ w1 ⟨rfl, rfl, hs, h1, i, hi, h5, h6⟩
    simp only at hs h1 h5 h6
    obtain ⟨f, hf, hg⟩ := fr_open hs
    have e1 := hg _ _ h1
    have e5 := hg _ _ h5
    have e6 := hg _ _ h6
    simp only [List.range, List.range.loop, List.map] at hf
    rw [e1, e5, e6] at hf
    clear e1 e5 e6 hg hs h1 h5 h6 HF
    subst hf
    have hx : fd n / 2 ^ i ≤ fd n := Nat.div_le_self _ _
    have hnx : fd n / 2 ^ (i + 1) = fd n / 2 ^ i / 2 := by rw [Nat.pow_succ, Nat.div_div_eq_div_mul]
    have HNX := Lib.hid hnx
    by_cases hlt : i < kk k
    · generalize fd n / 2 ^ i = x at *
      clear hnx
      go_wp2_with (go_at_call 56; refine (HK.out _).mono ?_; rintro e w' ⟨rfl, rfl⟩)
      refine ⟨⟨rfl, rfl, rfl, rfl, i + 1, by omega, ?_, rfl⟩, ?_⟩
      · rw [HNX.out]; rfl
      · simp [intOf]; omega
    · obtain rfl : i = kk k := by omega
      clear hnx HNX hlt hi
      go_wp2_with (go_at_call 56; refine (HK.out _).mono ?_; rintro e w' ⟨rfl, rfl⟩)
      go_ret
      exact ⟨rfl, rfl⟩

set_option maxHeartbeats 400000 in
theorem refSize_any (n k : Int) (w : World) : Calls Try.prog 52 #[.int .i64 n, .int .i64 k] w fun e w' => e = .returned (.int .i64 (sz n k)) ∧ w = w' := by
  by_cases hn : nr n = true
  · have e1 : sz n k = ((fd n / 2 ^ kk k : Nat) : Int) + 1 + (kk k : Int) := by simp [sz, hn]
    have hkl := kk_le k
    have hh := high_lt hn (kk k)
    have hb := near_bounds hn
    have HN := Lib.hid (refNear_any n w)
    rw [hn] at HN
    have HH := Lib.hid (refHigh_any n k w (by omega) (by omega))
    have HK := Lib.hid (refK_any k w)
    rw [e1]
    clear e1 hn hb
    generalize fd n / 2 ^ kk k = x at *
    generalize kk k = y at *
    go_enter Try.func52, Try.ntmps52
    go_wp2_with (first | (go_at_call 24; refine HN.out.mono ?_; rintro e w' ⟨rfl, rfl⟩) | (go_at_call 56; refine HK.out.mono ?_; rintro e w' ⟨rfl, rfl⟩) | (go_at_call 55; refine HH.out.mono ?_; rintro e w' ⟨rfl, rfl⟩))
    go_ret
    exact ⟨rfl, rfl⟩
  · have e1 : sz n k = -1 := by simp [sz, hn]
    have hn' : nr n = false := by simpa using hn
    have HN := Lib.hid (refNear_any n w)
    rw [hn'] at HN
    rw [e1]
    clear e1 hn hn'
    go_enter Try.func52, Try.ntmps52
    go_wp2_with (go_at_call 24; refine HN.out.mono ?_; rintro e w' ⟨rfl, rfl⟩)
    go_ret
    exact ⟨rfl, rfl⟩

end Go.Proofs.Ytliggpidkdiinaa
