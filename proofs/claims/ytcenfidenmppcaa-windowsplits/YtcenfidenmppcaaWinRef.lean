/- The reference of layer 8: Weight, Down. -/
import Derived.Test.YtcenfidenmppcaaWinLeaf
namespace Go.Proofs.Ytcenfidenmppcaa
open Go.RowKit Bx

set_option maxHeartbeats 1000000 in
theorem rweight_none (s i n : Int) (w : World) (h : s < 0 ∨ 2 < s) : Calls Try.prog 11 #[.int .i64 s, .int .i64 i, .int .i64 n] w fun e w' => e = .returned (.tuple #[.int .i64 0, .int .i64 8]) ∧ w = w' := by
  by_cases b : s < 0
  · have h0 : decide (s < 0) = true := decide_eq_true b
    clear b h
    go_enter Try.func11, Try.ntmps11
    go_wp2
    go_ret2
    exact ⟨rfl, rfl⟩
  · have h0 : decide (s < 0) = false := decide_eq_false b
    have h1 : decide (2 < s) = true := decide_eq_true (by omega)
    clear b h
    go_enter Try.func11, Try.ntmps11
    go_wp2
    go_ret2
    exact ⟨rfl, rfl⟩

set_option maxHeartbeats 1000000 in
theorem rweight_bad (s i n : Int) (w : World) (hs : 0 ≤ s ∧ s ≤ 2) (hw : -9223372036854775808 ≤ n ∧ n ≤ 9223372036854775807) (h : n < 1 ∨ 65535 < n ∨ i < 0 ∨ n ≤ i) : Calls Try.prog 11 #[.int .i64 s, .int .i64 i, .int .i64 n] w fun e w' => e = .returned (.tuple #[.int .i64 0, .int .i64 1]) ∧ w = w' := by
  have s0 : decide (s < 0) = false := decide_eq_false (by omega)
  have s1 : decide (2 < s) = false := decide_eq_false (by omega)
  by_cases b0 : n < 1
  · have h0 : decide (n < 1) = true := decide_eq_true b0
    clear h b0 hs hw
    go_enter Try.func11, Try.ntmps11
    go_wp2
    go_ret2
    exact ⟨rfl, rfl⟩
  have h0 : decide (n < 1) = false := decide_eq_false b0
  by_cases b1 : 65535 < n
  · have h1 : decide (65535 < n) = true := decide_eq_true b1
    clear h b0 b1 hs hw
    go_enter Try.func11, Try.ntmps11
    go_wp2
    go_ret2
    exact ⟨rfl, rfl⟩
  have h1 : decide (65535 < n) = false := decide_eq_false b1
  by_cases b2 : i < 0
  · have h2 : decide (i < 0) = true := decide_eq_true b2
    clear h b0 b1 b2 hs hw
    go_enter Try.func11, Try.ntmps11
    go_wp2
    go_ret2
    exact ⟨rfl, rfl⟩
  have h2 : decide (i < 0) = false := decide_eq_false b2
  have h3 : decide (n - 1 < i) = true := decide_eq_true (by omega)
  have h4 : wrap64 (n - 1) = n - 1 := w64_in _ (by omega)
  clear h b0 b1 b2 hs hw
  go_enter Try.func11, Try.ntmps11
  go_wp2
  go_ret2
  exact ⟨rfl, rfl⟩

theorem rweight_nums (i n : Int) (h : 0 ≤ i ∧ i < n ∧ n ≤ 65535) : decide (n < 1) = false ∧ decide (65535 < n) = false ∧ decide (i < 0) = false ∧ decide (n - 1 < i) = false ∧ wrap64 (n - 1) = n - 1 ∧ decide (32768 < tentW i n) = false := by
  have := tent_top i n h.1 h.2.1
  exact ⟨decide_eq_false (by omega), decide_eq_false (by omega), decide_eq_false (by omega), decide_eq_false (by omega), w64_in _ (by omega), decide_eq_false (by omega)⟩

set_option maxHeartbeats 1000000 in
theorem rweight_flat (i n : Int) (w : World) (h : 0 ≤ i ∧ i < n ∧ n ≤ 65535) : Calls Try.prog 11 #[.int .i64 0, .int .i64 i, .int .i64 n] w fun e w' => e = .returned (.tuple #[.int .i64 (wgt 0 i n), .int .i64 0]) ∧ w = w' := by
  obtain ⟨h0, h1, h2, h3, h4, -⟩ := rweight_nums i n h
  clear h
  go_enter Try.func11, Try.ntmps11
  go_wp2
  go_ret2
  exact ⟨rfl, rfl⟩

set_option maxHeartbeats 1000000 in
theorem rweight_tent (i n : Int) (w : World) (h : 0 ≤ i ∧ i < n ∧ n ≤ 65535) : Calls Try.prog 11 #[.int .i64 1, .int .i64 i, .int .i64 n] w fun e w' => e = .returned (.tuple #[.int .i64 (wgt 1 i n), .int .i64 0]) ∧ w = w' := by
  have hT : wgt 1 i n = tentW i n := rfl
  rw [hT]
  clear hT
  have hz : ¬ n + 1 = 0 := by omega
  by_cases hm : n - i < i + 1
  · have e : min (i + 1) (n - i) = n - i := by omega
    have d : decide (n - i < i + 1) = true := decide_eq_true hm
    obtain ⟨h0, h1, h2, h3, h4, h5⟩ := rweight_nums i n h
    obtain ⟨a1, a2, a3, a4, -, a6⟩ := tent_nums i n h.1 h.2.1 h.2.2
    rw [e] at a4 a6
    generalize tentW i n = q at *
    clear e h hm
    go_enter Try.func11, Try.ntmps11
    go_wp2
    go_ret2
    first | exact ⟨rfl, rfl⟩ | exact ⟨congrArg (fun z => Ending.returned (.tuple #[.int .i64 z, .int .i64 0])) a6, rfl⟩
  · have e : min (i + 1) (n - i) = i + 1 := by omega
    have d : decide (n - i < i + 1) = false := decide_eq_false hm
    obtain ⟨h0, h1, h2, h3, h4, h5⟩ := rweight_nums i n h
    obtain ⟨a1, a2, a3, a4, -, a6⟩ := tent_nums i n h.1 h.2.1 h.2.2
    rw [e] at a4 a6
    generalize tentW i n = q at *
    clear e h hm
    go_enter Try.func11, Try.ntmps11
    go_wp2
    go_ret2
    first | exact ⟨rfl, rfl⟩ | exact ⟨congrArg (fun z => Ending.returned (.tuple #[.int .i64 z, .int .i64 0])) a6, rfl⟩

set_option maxHeartbeats 1000000 in
theorem rweight_hill (i n : Int) (w : World) (h : 0 ≤ i ∧ i < n ∧ n ≤ 65535) : Calls Try.prog 11 #[.int .i64 2, .int .i64 i, .int .i64 n] w fun e w' => e = .returned (.tuple #[.int .i64 (wgt 2 i n), .int .i64 0]) ∧ w = w' := by
  have hT : wgt 2 i n = hillW i n := rfl
  rw [hT]
  clear hT
  obtain ⟨h0, h1, h2, h3, h4, -⟩ := rweight_nums i n h
  obtain ⟨a1, a2, a3, a4, a5, a6, a7, a8, a9, a10⟩ := hill_nums i n h.1 h.2.1 h.2.2
  have hz : ¬ (n + 1) * (n + 1) = 0 := by simpa using a8
  generalize hillW i n = q at *
  clear a8 h
  go_enter Try.func11, Try.ntmps11
  go_wp2
  go_ret2
  first | exact ⟨rfl, rfl⟩ | exact ⟨congrArg (fun z => Ending.returned (.tuple #[.int .i64 z, .int .i64 0])) a10, rfl⟩

theorem rweight_any (s i n : Int) (w : World) (hw : -9223372036854775808 ≤ n ∧ n ≤ 9223372036854775807) : Calls Try.prog 11 #[.int .i64 s, .int .i64 i, .int .i64 n] w fun e w' => e = .returned (.tuple #[.int .i64 (wgtV s i n), .int .i64 (wgtE s i n)]) ∧ w = w' := by
  by_cases hs : s < 0 ∨ 2 < s
  · have e : wgtE s i n = 8 := by unfold wgtE; rw [if_pos hs]
    have v : wgtV s i n = 0 := by unfold wgtV; rw [e]; rfl
    rw [e, v]
    exact rweight_none s i n w hs
  · by_cases hb : n < 1 ∨ 65535 < n ∨ i < 0 ∨ n ≤ i
    · have e : wgtE s i n = 1 := by unfold wgtE; rw [if_neg hs, if_pos hb]
      have v : wgtV s i n = 0 := by unfold wgtV; rw [e]; rfl
      rw [e, v]
      exact rweight_bad s i n w (by omega) hw hb
    · have hg : 0 ≤ i ∧ i < n ∧ n ≤ 65535 := by omega
      rw [wgtE_ok (by omega) hg.1 hg.2.1 hg.2.2, wgtV_ok (by omega) hg.1 hg.2.1 hg.2.2]
      rcases (show s = 0 ∨ s = 1 ∨ s = 2 by omega) with rfl | rfl | rfl
      · exact rweight_flat i n w hg
      · exact rweight_tent i n w hg
      · exact rweight_hill i n w hg

theorem down_nums (a : Int) (h : -36028797018963968 ≤ a ∧ a ≤ 36028797018963968) : wrap64 (a.tdiv 32768) = a.tdiv 32768 ∧ (a.tmod 32768 < 0 → wrap64 (a.tdiv 32768 - 1) = a / 32768) ∧ (¬ a.tmod 32768 < 0 → a.tdiv 32768 = a / 32768) ∧ wrap64 (a.tmod 32768) = a.tmod 32768 := by
  have h1 := Int.tmod_add_mul_tdiv a 32768
  have h2 := Int.tmod_lt_of_pos a (show (0 : Int) < 32768 by decide)
  have h3 : -32768 < a.tmod 32768 := by
    rcases Int.le_total 0 a with h | h
    · have := Int.tmod_nonneg 32768 h; omega
    · have h4 := Int.tmod_lt_of_pos (-a) (show (0 : Int) < 32768 by decide)
      rw [Int.neg_tmod] at h4
      omega
  refine ⟨?_, fun _ => ?_, fun _ => ?_, ?_⟩
  · unfold wrap64; omega
  · unfold wrap64; omega
  · omega
  · unfold wrap64; omega

set_option maxHeartbeats 1000000 in
theorem down_any (a : Int) (h : -36028797018963968 ≤ a ∧ a ≤ 36028797018963968) (w : World) : Calls Try.prog 20 #[.int .i64 a, .int .i64 32768] w fun e w' => e = .returned (.int .i64 (a / 32768)) ∧ w = w' := by
  obtain ⟨a1, a2, a3, a4⟩ := down_nums a h
  by_cases hm : a.tmod 32768 < 0
  · have d : decide (a.tmod 32768 < 0) = true := decide_eq_true hm
    have a5 := a2 hm
    clear a2 a3 h hm
    generalize a / 32768 = q at *
    go_enter Try.func20, Try.ntmps20
    go_wp2
    go_ret
    first | exact ⟨rfl, rfl⟩ | exact ⟨congrArg (fun z => Ending.returned (.int .i64 z)) a5, rfl⟩
  · have d : decide (a.tmod 32768 < 0) = false := decide_eq_false hm
    have a5 := a3 hm
    have A5 := Lib.hid a5
    clear a2 a3 h hm a5
    generalize a / 32768 = q at *
    go_enter Try.func20, Try.ntmps20
    go_wp2
    go_ret
    first | exact ⟨congrArg (fun z => Ending.returned (.int .i64 z)) A5.out, rfl⟩ | exact ⟨congrArg (fun z => Ending.returned (.int .i64 z)) (a1.trans A5.out), rfl⟩

end Go.Proofs.Ytcenfidenmppcaa
