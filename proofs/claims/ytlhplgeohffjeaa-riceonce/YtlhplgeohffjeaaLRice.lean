/- The walks of the statements RiceOnce, RiceNearer, RiceFolds. -/
import Derived.Test.YtlhplgeohffjeaaAwake02
import Derived.Test.YtlhplgeohffjeaaRiceRef
namespace Go.Proofs.Ytlhplgeohffjeaa
open Go.RowKit Bx

theorem uf_lo {u : Nat} (h : u < 18446744073709551616) : -9223372036854775808 ≤ uf u ∧ uf u ≤ 9223372036854775807 := by unfold uf; split <;> omega

set_option maxHeartbeats 1000000 in
theorem walk_RiceOnce (w : World) (n : Int) (w0 : (Lit.int .i64 n).wf = true) (m : Int) (w1 : (Lit.int .i64 m).wf = true) (u : Int) (w2 : (Lit.int .u64 u).wf = true) :
    Calls Try.prog 6 #[.int .i64 n, .int .i64 m, .int .u64 u] w fun e w' => e = .returned (.bool true) ∧ Kept Nix w w' := by
  have b0 := bounds_i64 w0
  have b1 := bounds_i64 w1
  have b2 := bounds_u64 w2
  obtain ⟨u, rfl⟩ := Int.eq_ofNat_of_zero_le b2.1
  clear w0 w1 w2
  have HA := Lib.hid (awake_any w)
  have hu : u < 18446744073709551616 := by omega
  have hul := uf_lo hu
  have hfl := fd_lt b0.1 b0.2
  have c1 : (uf (fd n) == n) = true := by simp [uf_fd]
  have c2 : (((fd (uf u) : Nat) : Int) == (u : Int)) = true := by simp [fd_uf]
  have c3 : ((((fd n : Nat) : Int) == ((fd m : Nat) : Int)) == (n == m)) = true := by
    by_cases h : n = m
    · subst h; simp
    · have h2 : ¬ fd n = fd m := fun e => h (by rw [← uf_fd n, ← uf_fd m, e])
      have h3 : ¬ ((fd n : Nat) : Int) = ((fd m : Nat) : Int) := by omega
      rw [show (((fd n : Nat) : Int) == ((fd m : Nat) : Int)) = false from beq_eq_false_iff_ne.2 h3, show (n == m) = false by simpa using h]; rfl
  have c4 : ((((fd n : Nat) : Int) % 2 == 1) == decide (n < 0)) = true := by
    have h1 : (((fd n : Nat) : Int) % 2 == 1) = decide (n < 0) := by
      rw [Bool.eq_iff_iff]; simp only [beq_iff_eq, decide_eq_true_eq]; unfold fd; split <;> omega
    simp [h1]
  go_enter Try.func6, Try.ntmps6
  go_wp2_with fail
  refine HA.out.mono ?_
  rintro e w1 ⟨rfl, k1⟩
  go_wp2_with (first
    | (go_at_call 9; refine (fold_any _ _ (by omega) (by omega)).mono ?_; rintro e w' ⟨rfl, rfl⟩)
    | (go_at_call 11; refine (unfold_any _ _ (by omega)).mono ?_; rintro e w' ⟨rfl, rfl⟩))
  go_ret
  exact ⟨rfl, k1⟩

set_option maxHeartbeats 1000000 in
theorem walk_RiceFolds (w : World) (n : Int) (w0 : (Lit.int .i64 n).wf = true) (u : Int) (w2 : (Lit.int .u64 u).wf = true) (k : Int) (_w1 : (Lit.int .i64 k).wf = true) :
    Calls Try.prog 3 #[.int .i64 n, .int .u64 u, .int .i64 k] w fun e w' => e = .returned (.bool true) ∧ Kept Nix w w' := by
  have b0 := bounds_i64 w0
  have b2 := bounds_u64 w2
  obtain ⟨u, rfl⟩ := Int.eq_ofNat_of_zero_le b2.1
  clear w0 w2
  have HA := Lib.hid (awake_any w)
  have hu : u < 18446744073709551616 := by omega
  have HF := Lib.hid (fold_any n)
  have HF2 := Lib.hid (refFold_any n)
  have HU := Lib.hid (unfold_any u)
  have HU2 := Lib.hid (refUnfold_any u)
  have HN := Lib.hid (near_any n)
  have HN2 := Lib.hid (refNear_any n)
  have HS := Lib.hid (size_any n k)
  have HS2 := Lib.hid (refSize_any n k)
  generalize fd n = fn at *
  generalize uf u = uu at *
  generalize nr n = nn at *
  generalize sz n k = ss at *
  have c1 : ((fn : Int) == (fn : Int)) = true := by simp
  have c2 : (uu == uu) = true := by simp
  have c3 : (nn == nn) = true := by simp
  have c4 : (ss == ss) = true := by simp
  go_enter Try.func3, Try.ntmps3
  go_wp2_with fail
  refine HA.out.mono ?_
  rintro e w1 ⟨rfl, k1⟩
  go_wp2_with (first
    | (go_at_call 9; refine (HF.out _ b0.1 b0.2).mono ?_; rintro e w' ⟨rfl, rfl⟩)
    | (go_at_call 10; refine (HF2.out _ b0.1 b0.2).mono ?_; rintro e w' ⟨rfl, rfl⟩)
    | (go_at_call 11; refine (HU.out _ hu).mono ?_; rintro e w' ⟨rfl, rfl⟩)
    | (go_at_call 12; refine (HU2.out _ hu).mono ?_; rintro e w' ⟨rfl, rfl⟩)
    | (go_at_call 13; refine (HN.out _).mono ?_; rintro e w' ⟨rfl, rfl⟩)
    | (go_at_call 14; refine (HN2.out _).mono ?_; rintro e w' ⟨rfl, rfl⟩)
    | (go_at_call 15; refine (HS.out _).mono ?_; rintro e w' ⟨rfl, rfl⟩)
    | (go_at_call 16; refine (HS2.out _).mono ?_; rintro e w' ⟨rfl, rfl⟩))
  go_ret
  exact ⟨rfl, k1⟩

/-- What is nearer has no longer a size. -/
theorem sz_mono {n m : Int} (hn : nr n = true) (hm : nr m = true) (h : max n (-n - 1) < max m (-m - 1)) (j : Int) : sz n j ≤ sz m j := by
  simp only [sz, hn, hm, if_true]
  have h1 : fd n ≤ fd m := by unfold fd; split <;> split <;> omega
  have h2 : fd n / 2 ^ kk j ≤ fd m / 2 ^ kk j := Nat.div_le_div_right h1
  omega

theorem sz_next {n : Int} (hn : nr n = true) (j : Nat) (hj : j < 30) : ∃ h : Nat, sz n (j : Int) = (h : Int) + 1 + (j : Int) ∧ h < 17179869184 ∧ sz n ((j : Int) + 1) = ((h / 2 : Nat) : Int) + 2 + (j : Int) := by
  have e1 : kk (j : Int) = j := by unfold kk; omega
  have e2 : kk ((j : Int) + 1) = j + 1 := by unfold kk; omega
  refine ⟨fd n / 2 ^ j, ?_, high_lt hn j, ?_⟩
  · simp only [sz, hn, if_true, e1]
  · simp only [sz, hn, if_true, e2]
    rw [Nat.pow_succ, ← Nat.div_div_eq_div_mul]
    omega

set_option maxHeartbeats 1000000 in
theorem walk_RiceNearer (w : World) (n : Int) (w0 : (Lit.int .i64 n).wf = true) (m : Int) (w1 : (Lit.int .i64 m).wf = true) (k : Int) (w2 : (Lit.int .u8 k).wf = true) :
    Calls Try.prog 7 #[.int .i64 n, .int .i64 m, .int .u8 k] w fun e w' => e = .returned (.bool true) ∧ Kept Nix w w' := by
  have b0 := bounds_i64 w0
  have b1 := bounds_i64 w1
  have b2 := bounds_u8 w2
  obtain ⟨k, rfl⟩ := Int.eq_ofNat_of_zero_le b2.1
  clear w0 w1 w2
  have HA := Lib.hid (awake_any w)
  by_cases hn : nr n = true
  · by_cases hm : nr m = true
    · have hbn := near_bounds hn
      have hbm := near_bounds hm
      obtain ⟨h, e1, hh, e2⟩ := sz_next hn (k % 30) (by omega)
      obtain ⟨h', e1', hh', e2'⟩ := sz_next hm (k % 30) (by omega)
      have hmono := fun hlt => sz_mono hn hm hlt ((k % 30 : Nat) : Int)
      rw [show ((k % 30 : Nat) : Int) = (k : Int) % 30 by omega] at *
      rw [e1, e1'] at hmono
      have HMO := Lib.hid hmono
      clear hmono
      go_enter Try.func7, Try.ntmps7
      go_wp2_with fail
      refine HA.out.mono ?_
      rintro e w1 ⟨rfl, k1⟩
      go_wp2_with (first
        | (go_at_call 13; refine (near_any _ _).mono ?_; rintro e w' ⟨rfl, rfl⟩)
        | (go_at_call 15; refine (size_any _ _ _).mono ?_; rintro e w' ⟨rfl, rfl⟩))
      all_goals
        go_ret
        refine ⟨congrArg (fun b => Ending.returned (Value.bool b)) ?_, k1⟩
        first
          | (rw [beq_iff_eq]; omega)
          | (exfalso; have := HMO.out (by omega); omega)
    · have hm' : nr m = false := by simpa using hm
      clear hm
      go_enter Try.func7, Try.ntmps7
      go_wp2_with fail
      refine HA.out.mono ?_
      rintro e w1 ⟨rfl, k1⟩
      go_wp2_with (go_at_call 13; refine (near_any _ _).mono ?_; rintro e w' ⟨rfl, rfl⟩)
      go_ret
      exact ⟨rfl, k1⟩
  · have hn' : nr n = false := by simpa using hn
    clear hn
    go_enter Try.func7, Try.ntmps7
    go_wp2_with fail
    refine HA.out.mono ?_
    rintro e w1 ⟨rfl, k1⟩
    go_wp2_with (go_at_call 13; refine (near_any _ _).mono ?_; rintro e w' ⟨rfl, rfl⟩)
    go_ret
    exact ⟨rfl, k1⟩
end Go.Proofs.Ytlhplgeohffjeaa
