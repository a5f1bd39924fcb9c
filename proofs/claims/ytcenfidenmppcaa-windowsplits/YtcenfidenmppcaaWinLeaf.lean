/- package window: the shapes, Weight. -/
import Derived.Test.YtcenfidenmppcaaWinMath
namespace Go.Proofs.Ytcenfidenmppcaa
open Go.RowKit Bx

set_option maxHeartbeats 1000000 in
theorem curve_flat (w : World) : Calls Try.prog 18 #[.int .i64 0] w fun e w' => e = .returned (.iface 47 (.agg #[])) ∧ w = w' := by
  go_enter Try.func18, Try.ntmps18
  go_wp2
  go_ret
  exact ⟨rfl, rfl⟩
set_option maxHeartbeats 1000000 in
theorem curve_tent (w : World) : Calls Try.prog 18 #[.int .i64 1] w fun e w' => e = .returned (.iface 48 (.agg #[])) ∧ w = w' := by
  go_enter Try.func18, Try.ntmps18
  go_wp2
  go_ret
  exact ⟨rfl, rfl⟩
set_option maxHeartbeats 1000000 in
theorem curve_hill (w : World) : Calls Try.prog 18 #[.int .i64 2] w fun e w' => e = .returned (.iface 49 (.agg #[])) ∧ w = w' := by
  go_enter Try.func18, Try.ntmps18
  go_wp2
  go_ret
  exact ⟨rfl, rfl⟩
set_option maxHeartbeats 1000000 in
theorem curve_none (s : Int) (h0 : (s == 0) = false) (h1 : (s == 1) = false) (h2 : (s == 2) = false) (w : World) : Calls Try.prog 18 #[.int .i64 s] w fun e w' => e = .returned (.iface 50 (.agg #[])) ∧ w = w' := by
  go_enter Try.func18, Try.ntmps18
  go_wp2
  go_ret
  exact ⟨rfl, rfl⟩

theorem as_flat (w : World) : (Instr.typeAssert (.iface 47 (.agg #[])) 41 50 true).run Try.prog w = .ok (.tuple #[.agg #[], .bool false]) w := by kernel_rfl
theorem as_none (w : World) : (Instr.typeAssert (.iface 50 (.agg #[])) 41 50 true).run Try.prog w = .ok (.tuple #[.agg #[], .bool true]) w := by kernel_rfl

theorem as_tent (w : World) : (Instr.typeAssert (.iface 48 (.agg #[])) 41 50 true).run Try.prog w = .ok (.tuple #[.agg #[], .bool false]) w := by kernel_rfl
theorem as_hill (w : World) : (Instr.typeAssert (.iface 49 (.agg #[])) 41 50 true).run Try.prog w = .ok (.tuple #[.agg #[], .bool false]) w := by kernel_rfl

set_option maxHeartbeats 1000000 in
theorem known_flat (w : World) : Calls Try.prog 19 #[.iface 47 (.agg #[])] w fun e w' => e = .returned (.bool true) ∧ Kept Nix w w' := by
  have ha := as_flat
  go_enter Try.func19, Try.ntmps19
  go_wp2
  go_ret
  exact ⟨rfl, (Kept.refl _ w).alloc _⟩

set_option maxHeartbeats 1000000 in
theorem known_tent (w : World) : Calls Try.prog 19 #[.iface 48 (.agg #[])] w fun e w' => e = .returned (.bool true) ∧ Kept Nix w w' := by
  have ha := as_tent
  go_enter Try.func19, Try.ntmps19
  go_wp2
  go_ret
  exact ⟨rfl, (Kept.refl _ w).alloc _⟩

set_option maxHeartbeats 1000000 in
theorem known_hill (w : World) : Calls Try.prog 19 #[.iface 49 (.agg #[])] w fun e w' => e = .returned (.bool true) ∧ Kept Nix w w' := by
  have ha := as_hill
  go_enter Try.func19, Try.ntmps19
  go_wp2
  go_ret
  exact ⟨rfl, (Kept.refl _ w).alloc _⟩

set_option maxHeartbeats 1000000 in
theorem known_none (w : World) : Calls Try.prog 19 #[.iface 50 (.agg #[])] w fun e w' => e = .returned (.bool false) ∧ Kept Nix w w' := by
  have ha := as_none
  go_enter Try.func19, Try.ntmps19
  go_wp2
  go_ret
  exact ⟨rfl, (Kept.refl _ w).alloc _⟩

set_option maxHeartbeats 1000000 in
theorem flat_any (i n : Int) (w : World) (_ : 0 ≤ i ∧ i < n ∧ n ≤ 65535) : Calls Try.prog 37 #[.agg #[], .int .i64 i, .int .i64 n] w fun e w' => e = .returned (.int .i64 (wgt 0 i n)) ∧ Kept Nix w w' := by
  go_enter Try.func37, Try.ntmps37
  go_wp2
  go_ret
  exact ⟨rfl, (Kept.refl _ w).alloc _⟩

set_option maxHeartbeats 1000000 in
theorem tent_any (i n : Int) (w : World) (h : 0 ≤ i ∧ i < n ∧ n ≤ 65535) : Calls Try.prog 38 #[.agg #[], .int .i64 i, .int .i64 n] w fun e w' => e = .returned (.int .i64 (wgt 1 i n)) ∧ Kept Nix w w' := by
  have hT : wgt 1 i n = tentW i n := rfl
  rw [hT]
  clear hT
  have h0 : ¬ n + 1 = 0 := by omega
  by_cases hm : n - i < i + 1
  · have e : min (i + 1) (n - i) = n - i := by omega
    obtain ⟨a1, a2, a3, a4, -, a6⟩ := tent_nums i n h.1 h.2.1 h.2.2
    rw [e] at a4 a6
    generalize tentW i n = q at *
    clear e h
    go_enter Try.func38, Try.ntmps38
    go_wp2
    go_ret
    first | exact ⟨rfl, (Kept.refl _ w).alloc _⟩ | exact ⟨congrArg (fun z => Ending.returned (.int .i64 z)) a6, (Kept.refl _ w).alloc _⟩
  · have e : min (i + 1) (n - i) = i + 1 := by omega
    obtain ⟨a1, a2, a3, a4, -, a6⟩ := tent_nums i n h.1 h.2.1 h.2.2
    rw [e] at a4 a6
    generalize tentW i n = q at *
    have hm : i + 1 ≤ n - i := Int.not_lt.1 hm
    clear e h
    go_enter Try.func38, Try.ntmps38
    go_wp2
    go_ret
    first | exact ⟨rfl, (Kept.refl _ w).alloc _⟩ | exact ⟨congrArg (fun z => Ending.returned (.int .i64 z)) a6, (Kept.refl _ w).alloc _⟩

set_option maxHeartbeats 1000000 in
theorem hill_any (i n : Int) (w : World) (h : 0 ≤ i ∧ i < n ∧ n ≤ 65535) : Calls Try.prog 39 #[.agg #[], .int .i64 i, .int .i64 n] w fun e w' => e = .returned (.int .i64 (wgt 2 i n)) ∧ Kept Nix w w' := by
  have hT : wgt 2 i n = hillW i n := rfl
  rw [hT]
  clear hT
  obtain ⟨a1, a2, a3, a4, a5, a6, a7, a8, a9, a10⟩ := hill_nums i n h.1 h.2.1 h.2.2
  have h0 : ¬ (n + 1) * (n + 1) = 0 := by simpa using a8
  generalize hillW i n = q at *
  clear a8 h
  go_enter Try.func39, Try.ntmps39
  go_wp2
  go_ret
  first | exact ⟨rfl, (Kept.refl _ w).alloc _⟩ | exact ⟨congrArg (fun z => Ending.returned (.int .i64 z)) a10, (Kept.refl _ w).alloc _⟩

theorem meth_flat (w : World) : (method 169 47 (.agg #[]) "serinette/window.weight").run Try.prog w = .ok (37, .agg #[]) w := by kernel_rfl
theorem meth_tent (w : World) : (method 169 48 (.agg #[]) "serinette/window.weight").run Try.prog w = .ok (38, .agg #[]) w := by kernel_rfl
theorem meth_hill (w : World) : (method 169 49 (.agg #[]) "serinette/window.weight").run Try.prog w = .ok (39, .agg #[]) w := by kernel_rfl

set_option maxHeartbeats 1000000 in
theorem weight_flat (i n : Int) (w : World) (h : 0 ≤ i ∧ i < n ∧ n ≤ 65535) : Calls Try.prog 10 #[.int .i64 0, .int .i64 i, .int .i64 n] w fun e w' => e = .returned (.tuple #[.int .i64 (wgt 0 i n), .int .i64 0]) ∧ Kept Nix w w' := by
  have hm := meth_flat
  have h0 : decide (n < 1) = false := decide_eq_false (by omega)
  have h1 : decide (65535 < n) = false := decide_eq_false (by omega)
  have h2 : decide (i < 0) = false := decide_eq_false (by omega)
  have h3 : decide (n ≤ i) = false := decide_eq_false (by omega)
  have H := Lib.hid h
  clear h
  go_enter Try.func10, Try.ntmps10
  go_wp2_with (first
    | (go_at_call 18; refine (curve_flat _).mono ?_; rintro e w2 ⟨rfl, rfl⟩)
    | (go_at_call 19; refine (known_flat _).mono ?_; rintro e w3 ⟨rfl, k3⟩)
    | (go_at_call 37; refine (flat_any _ _ _ H.out).mono ?_; rintro e w4 ⟨rfl, k4⟩))
  go_ret2
  exact ⟨rfl, nix_trans k3 k4⟩

set_option maxHeartbeats 1000000 in
theorem weight_tent (i n : Int) (w : World) (h : 0 ≤ i ∧ i < n ∧ n ≤ 65535) : Calls Try.prog 10 #[.int .i64 1, .int .i64 i, .int .i64 n] w fun e w' => e = .returned (.tuple #[.int .i64 (wgt 1 i n), .int .i64 0]) ∧ Kept Nix w w' := by
  have hm := meth_tent
  have h0 : decide (n < 1) = false := decide_eq_false (by omega)
  have h1 : decide (65535 < n) = false := decide_eq_false (by omega)
  have h2 : decide (i < 0) = false := decide_eq_false (by omega)
  have h3 : decide (n ≤ i) = false := decide_eq_false (by omega)
  have H := Lib.hid h
  clear h
  go_enter Try.func10, Try.ntmps10
  go_wp2_with (first
    | (go_at_call 18; refine (curve_tent _).mono ?_; rintro e w2 ⟨rfl, rfl⟩)
    | (go_at_call 19; refine (known_tent _).mono ?_; rintro e w3 ⟨rfl, k3⟩)
    | (go_at_call 38; refine (tent_any _ _ _ H.out).mono ?_; rintro e w4 ⟨rfl, k4⟩))
  go_ret2
  exact ⟨rfl, nix_trans k3 k4⟩

set_option maxHeartbeats 1000000 in
theorem weight_hill (i n : Int) (w : World) (h : 0 ≤ i ∧ i < n ∧ n ≤ 65535) : Calls Try.prog 10 #[.int .i64 2, .int .i64 i, .int .i64 n] w fun e w' => e = .returned (.tuple #[.int .i64 (wgt 2 i n), .int .i64 0]) ∧ Kept Nix w w' := by
  have hm := meth_hill
  have h0 : decide (n < 1) = false := decide_eq_false (by omega)
  have h1 : decide (65535 < n) = false := decide_eq_false (by omega)
  have h2 : decide (i < 0) = false := decide_eq_false (by omega)
  have h3 : decide (n ≤ i) = false := decide_eq_false (by omega)
  have H := Lib.hid h
  clear h
  go_enter Try.func10, Try.ntmps10
  go_wp2_with (first
    | (go_at_call 18; refine (curve_hill _).mono ?_; rintro e w2 ⟨rfl, rfl⟩)
    | (go_at_call 19; refine (known_hill _).mono ?_; rintro e w3 ⟨rfl, k3⟩)
    | (go_at_call 39; refine (hill_any _ _ _ H.out).mono ?_; rintro e w4 ⟨rfl, k4⟩))
  go_ret2
  exact ⟨rfl, nix_trans k3 k4⟩

set_option maxHeartbeats 1000000 in
theorem weight_none (s i n : Int) (w : World) (h : s < 0 ∨ 2 < s) : Calls Try.prog 10 #[.int .i64 s, .int .i64 i, .int .i64 n] w fun e w' => e = .returned (.tuple #[.int .i64 0, .int .i64 8]) ∧ Kept Nix w w' := by
  have C := Lib.hid (fun w => curve_none s (beq_false_of_ne (by omega)) (beq_false_of_ne (by omega)) (beq_false_of_ne (by omega)) w)
  clear h
  go_enter Try.func10, Try.ntmps10
  go_wp2_with (first
    | (go_at_call 18; refine (C.out _).mono ?_; rintro e w2 ⟨rfl, rfl⟩)
    | (go_at_call 19; refine (known_none _).mono ?_; rintro e w3 ⟨rfl, k3⟩))
  go_ret2
  exact ⟨rfl, k3⟩

set_option maxHeartbeats 1000000 in
theorem weight_bad (s i n : Int) (V : Value) (w : World) (C : ∀ w, Calls Try.prog 18 #[.int .i64 s] w fun e w' => e = .returned V ∧ w = w') (K : ∀ w, Calls Try.prog 19 #[V] w fun e w' => e = .returned (.bool true) ∧ Kept Nix w w')
    (h : n < 1 ∨ 65535 < n ∨ i < 0 ∨ n ≤ i) : Calls Try.prog 10 #[.int .i64 s, .int .i64 i, .int .i64 n] w fun e w' => e = .returned (.tuple #[.int .i64 0, .int .i64 1]) ∧ Kept Nix w w' := by
  have C := Lib.hid C
  have K := Lib.hid K
  by_cases b0 : n < 1
  · have h0 : decide (n < 1) = true := decide_eq_true b0
    clear h b0
    go_enter Try.func10, Try.ntmps10
    go_wp2_with (first
      | (go_at_call 18; refine (C.out _).mono ?_; rintro e w2 ⟨rfl, rfl⟩)
      | (go_at_call 19; refine (K.out _).mono ?_; rintro e w3 ⟨rfl, k3⟩))
    go_ret2
    exact ⟨rfl, k3⟩
  have h0 : decide (n < 1) = false := decide_eq_false b0
  by_cases b1 : 65535 < n
  · have h1 : decide (65535 < n) = true := decide_eq_true b1
    clear h b0 b1
    go_enter Try.func10, Try.ntmps10
    go_wp2_with (first
      | (go_at_call 18; refine (C.out _).mono ?_; rintro e w2 ⟨rfl, rfl⟩)
      | (go_at_call 19; refine (K.out _).mono ?_; rintro e w3 ⟨rfl, k3⟩))
    go_ret2
    exact ⟨rfl, k3⟩
  have h1 : decide (65535 < n) = false := decide_eq_false b1
  by_cases b2 : i < 0
  · have h2 : decide (i < 0) = true := decide_eq_true b2
    clear h b0 b1 b2
    go_enter Try.func10, Try.ntmps10
    go_wp2_with (first
      | (go_at_call 18; refine (C.out _).mono ?_; rintro e w2 ⟨rfl, rfl⟩)
      | (go_at_call 19; refine (K.out _).mono ?_; rintro e w3 ⟨rfl, k3⟩))
    go_ret2
    exact ⟨rfl, k3⟩
  have h2 : decide (i < 0) = false := decide_eq_false b2
  have h3 : decide (n ≤ i) = true := decide_eq_true (by omega)
  clear h b0 b1 b2
  go_enter Try.func10, Try.ntmps10
  go_wp2_with (first
    | (go_at_call 18; refine (C.out _).mono ?_; rintro e w2 ⟨rfl, rfl⟩)
    | (go_at_call 19; refine (K.out _).mono ?_; rintro e w3 ⟨rfl, k3⟩))
  go_ret2
  exact ⟨rfl, k3⟩

theorem weight_any (s i n : Int) (w : World) : Calls Try.prog 10 #[.int .i64 s, .int .i64 i, .int .i64 n] w fun e w' => e = .returned (.tuple #[.int .i64 (wgtV s i n), .int .i64 (wgtE s i n)]) ∧ Kept Nix w w' := by
  by_cases hs : s < 0 ∨ 2 < s
  · have e : wgtE s i n = 8 := by unfold wgtE; rw [if_pos hs]
    have v : wgtV s i n = 0 := by unfold wgtV; rw [e]; rfl
    rw [e, v]
    exact weight_none s i n w hs
  · by_cases hb : n < 1 ∨ 65535 < n ∨ i < 0 ∨ n ≤ i
    · have e : wgtE s i n = 1 := by unfold wgtE; rw [if_neg hs, if_pos hb]
      have v : wgtV s i n = 0 := by unfold wgtV; rw [e]; rfl
      rw [e, v]
      rcases (show s = 0 ∨ s = 1 ∨ s = 2 by omega) with rfl | rfl | rfl
      · exact weight_bad _ i n _ w curve_flat known_flat hb
      · exact weight_bad _ i n _ w curve_tent known_tent hb
      · exact weight_bad _ i n _ w curve_hill known_hill hb
    · have hg : 0 ≤ i ∧ i < n ∧ n ≤ 65535 := by omega
      rw [wgtE_ok (by omega) hg.1 hg.2.1 hg.2.2, wgtV_ok (by omega) hg.1 hg.2.1 hg.2.2]
      rcases (show s = 0 ∨ s = 1 ∨ s = 2 by omega) with rfl | rfl | rfl
      · exact weight_flat i n w hg
      · exact weight_tent i n w hg
      · exact weight_hill i n w hg

/-- The weight of a place that is there. -/
theorem weight_ok (s i n : Int) (w : World) (hs : 0 ≤ s ∧ s ≤ 2) (h : 0 ≤ i ∧ i < n ∧ n ≤ 65535) : Calls Try.prog 10 #[.int .i64 s, .int .i64 i, .int .i64 n] w fun e w' => e = .returned (.tuple #[.int .i64 (wgt s i n), .int .i64 0]) ∧ Kept Nix w w' := by
  have := weight_any s i n w
  rwa [wgtE_ok hs h.1 h.2.1 h.2.2, wgtV_ok hs h.1 h.2.1 h.2.2] at this

end Go.Proofs.Ytcenfidenmppcaa
