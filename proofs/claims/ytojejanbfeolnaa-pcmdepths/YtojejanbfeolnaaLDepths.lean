/- The walk of PcmDepths. -/
import Derived.Test.YtojejanbfeolnaaAwake06
import Derived.Test.YtojejanbfeolnaaArgs
namespace Go.Proofs.Ytojejanbfeolnaa
open Go.RowKit Bx

theorem in_nat (n : Int) (D : Nat) (h1 : 1 ≤ D) (h2 : D ≤ 62) : inD n (D : Int) = (decide (-(2 : Int) ^ (D - 1) ≤ n) && decide (n < (2 : Int) ^ (D - 1))) := by
  rw [in_some n (D : Int) (by omega) (by omega)]; simp

theorem in_next (n : Int) (D : Nat) (h1 : 1 ≤ D) (h2 : D ≤ 61) (h : inD n (D : Int) = true) : inD n ((D : Int) + 1) = true := by
  rw [in_nat n D h1 (by omega)] at h
  rw [show ((D : Int) + 1) = ((D + 1 : Nat) : Int) by simp, in_nat n (D + 1) (by omega) (by omega)]
  have e : (2 : Int) ^ (D + 1 - 1) = 2 * 2 ^ (D - 1) := by rw [show D + 1 - 1 = (D - 1) + 1 by omega, Int.pow_succ, Int.mul_comm]
  rw [e]
  have := pow_61 (D - 1) (by omega)
  generalize (2 : Int) ^ (D - 1) = t at *
  simp only [Bool.and_eq_true, decide_eq_true_eq] at h ⊢
  omega

theorem in_half (n : Int) (D : Nat) (h1 : 2 ≤ D) (h2 : D ≤ 62) (h : inD n (D : Int) = true) : inD (n.tdiv 2) ((D : Int) - 1) = true := by
  rw [in_nat n D (by omega) h2] at h
  rw [show ((D : Int) - 1) = ((D - 1 : Nat) : Int) by omega, in_nat _ (D - 1) (by omega) (by omega)]
  have e : (2 : Int) ^ (D - 1) = 2 * 2 ^ (D - 1 - 1) := by rw [show D - 1 = (D - 1 - 1) + 1 by omega, Int.pow_succ, Int.mul_comm]; rfl
  rw [e] at h
  generalize (2 : Int) ^ (D - 1 - 1) = t at *
  simp only [Bool.and_eq_true, decide_eq_true_eq] at h ⊢
  have hq : n.tdiv 2 = if 0 ≤ n then n / 2 else -((-n) / 2) := by
    split
    · exact Int.tdiv_eq_ediv_of_nonneg (by omega)
    · rw [← Int.tdiv_eq_ediv_of_nonneg (show 0 ≤ -n by omega), Int.neg_tdiv, Int.neg_neg]
  rw [hq]
  split <;> omega

theorem in_top (D : Nat) (h1 : 1 ≤ D) (h2 : D ≤ 62) : inD ((2 : Int) ^ (D - 1) - 1) (D : Int) = true ∧ inD ((2 : Int) ^ (D - 1)) (D : Int) = false ∧ inD (-(2 : Int) ^ (D - 1)) (D : Int) = true ∧ inD (-(2 : Int) ^ (D - 1) - 1) (D : Int) = false ∧ inD 0 (D : Int) = true := by
  rw [in_nat _ D h1 h2, in_nat _ D h1 h2, in_nat _ D h1 h2, in_nat _ D h1 h2, in_nat _ D h1 h2]
  have := pow_61 (D - 1) (by omega)
  generalize (2 : Int) ^ (D - 1) = t at *
  simp
  omega

theorem half_in (n : Int) (h : (Lit.int .i64 n).wf = true) : wrap64 (n.tdiv 2) = n.tdiv 2 := by
  have := bounds_i64 h
  have hq : n.tdiv 2 = if 0 ≤ n then n / 2 else -((-n) / 2) := by
    split
    · exact Int.tdiv_eq_ediv_of_nonneg (by omega)
    · rw [← Int.tdiv_eq_ediv_of_nonneg (show 0 ≤ -n by omega), Int.neg_tdiv, Int.neg_neg]
  rw [hq]
  split <;> exact w64_in _ (by omega)

set_option maxHeartbeats 1000000 in
theorem walk_PcmDepths (w : World) (n : Int) (wn : (Lit.int .i64 n).wf = true) (dep : Int) (wd : (Lit.int .u8 dep).wf = true) :
    Calls Try.prog 8 #[.int .i64 n, .int .u8 dep] w fun e w' => e = .returned (.bool true) ∧ Kept Nix w w' := by
  have HA := awake_any w
  have hwh := half_in n wn
  obtain ⟨k, rfl, hk⟩ := nat_u8 wd
  obtain ⟨D, hD⟩ : ∃ D : Nat, D = 2 + k % 60 := ⟨_, rfl⟩
  have hD1 : 2 ≤ D := by omega
  have hD2 : D ≤ 61 := by omega
  have hm : ((k : Int) % 60) = ((k % 60 : Nat) : Int) := by omega
  obtain ⟨t1, t2, t3, t4, t5⟩ := in_top D (by omega) (by omega)
  have TT := Lib.hid (And.intro t1 (And.intro t2 (And.intro t3 (And.intro t4 t5))))
  have H1 := Lib.hid hD1
  have H2 := Lib.hid hD2
  have HD := Lib.hid hD
  have HK := Lib.hid hk
  have HM := Lib.hid hm
  clear t1 t2 t3 t4 t5 hD1 hD2 hD hk hm wn wd
  go_enter Try.func8, Try.ntmps8
  go_upto_region 3 with (first
    | (go_at_call 9; refine HA.mono ?_; rintro e w1 ⟨rfl, k1⟩))
  have hDD : (2 + (k : Int) % 60) = (D : Int) := by have := HD.out; omega
  rw [hDD]
  generalize (k : Int) % 60 = kk at *
  clear hDD HM HK HD HA
  have hd1 : ((D : Int) - 1).toNat = D - 1 := by omega
  obtain ⟨T, hT⟩ : ∃ T : Int, (2 : Int) ^ (D - 1) = T := ⟨_, rfl⟩
  have hTb := pow_61 (D - 1) (by have := H2.out; omega)
  rw [hT] at hTb
  have w1' : wrap64 T = T := w64_in _ (by omega)
  have w2' : wrap64 (-T) = -T := w64_in _ (by omega)
  have w3' : wrap64 (T - 1) = T - 1 := w64_in _ (by omega)
  have w4' : wrap64 (-T - 1) = -T - 1 := w64_in _ (by omega)
  have TT2 := TT.out
  rw [hT] at TT2
  have TT3 := Lib.hid TT2
  have HTT := Lib.hid hTb
  clear TT2 TT hTb
  have hge : 0 ≤ (D : Int) - 1 := by have := H1.out; omega
  obtain ⟨t1, t2, t3, t4, t5⟩ := TT3.out
  have hD1 := H1.out
  have hD2 := H2.out
  cases hin : inD n (D : Int) with
  | true =>
    have C1 := in_next n D (by have := H1.out; omega) H2.out hin
    have C2 := in_half n D H1.out (by have := H2.out; omega) hin
    go_wp2_with (go_at_call 15; refine (in_any _ _ _).mono ?_; rintro e w2 ⟨rfl, rfl⟩; (first | rw [hin] | rw [C1] | rw [C2] | rw [t1] | rw [t2] | rw [t3] | rw [t4]))
    go_ret
    exact ⟨rfl, k1⟩
  | false =>
    have hn0 : (n != 0) = true := bne_iff_ne.2 (fun e => by rw [e, t5] at hin; cases hin)
    go_wp2_with (go_at_call 15; refine (in_any _ _ _).mono ?_; rintro e w2 ⟨rfl, rfl⟩; (first | rw [hin] | rw [t1] | rw [t2] | rw [t3] | rw [t4]))
    go_ret
    exact ⟨rfl, k1⟩

end Go.Proofs.Ytojejanbfeolnaa
