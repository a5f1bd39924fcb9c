/- None of the sums is further from 0 than the first one. No program. -/
import Derived.Test.YtdifaaimjiflgaaLagMath
namespace Go.Proofs.Ytdifaaimjiflgaa
open Go.RowKit Bx

theorem sq_nonneg (a : Int) : 0 ≤ a * a := by
  rcases Int.le_total 0 a with h | h
  · exact Int.mul_nonneg h h
  · have := Int.mul_nonneg (show 0 ≤ -a by omega) (show 0 ≤ -a by omega)
    rwa [Int.neg_mul_neg] at this

theorem two_sq (a b : Int) : 2 * (a * b) ≤ a * a + b * b ∧ -(2 * (a * b)) ≤ a * a + b * b := by
  have h1 := sq_nonneg (a - b)
  have h2 := sq_nonneg (a + b)
  rw [Int.sub_mul, Int.mul_sub, Int.mul_sub] at h1
  rw [Int.add_mul, Int.mul_add, Int.mul_add] at h2
  have h3 := Int.mul_comm b a
  generalize a * a = aa at *
  generalize b * b = bb at *
  generalize a * b = ab at *
  omega

theorem sumTo_nonneg {n : Nat} {f : Nat → Int} (h : ∀ i, 0 ≤ f i) : 0 ≤ sumTo n f := by
  have := sumTo_le (n := n) (f := fun _ => 0) (g := f) (fun i _ => h i)
  rwa [sumTo_zero (fun _ _ => rfl)] at this

theorem sumTo_neg (n : Nat) (f : Nat → Int) : sumTo n (fun i => -f i) = -sumTo n f := by
  induction n with
  | zero => rfl
  | succ n ih => simp only [sumTo, ih]; omega

theorem sumTo_two (n : Nat) (f : Nat → Int) : sumTo n (fun i => 2 * f i) = 2 * sumTo n f := by
  induction n with
  | zero => rfl
  | succ n ih => simp only [sumTo, ih]; omega

/-- Squares, k places on, are no more than all. -/
theorem sq_on (ys : List Int) (k : Nat) : sumTo ys.length (fun i => ys.getD (i + k) 0 * ys.getD (i + k) 0) ≤ lag ys 0 := by
  have h1 : lag ys 0 = sumTo ys.length (fun i => ys.getD i 0 * ys.getD i 0) := rfl
  have h2 : sumTo (ys.length + k) (fun i => ys.getD i 0 * ys.getD i 0) = lag ys 0 := by
    rw [sumTo_add, sumTo_zero (n := k), Int.add_zero, h1]
    intro i _
    rw [getD_out ys _ (by omega), Int.zero_mul]
  have h3 := sumTo_add k ys.length (fun i => ys.getD i 0 * ys.getD i 0)
  rw [Nat.add_comm, h2] at h3
  have h4 := sumTo_nonneg (n := k) (f := fun i => ys.getD i 0 * ys.getD i 0) (fun i => sq_nonneg _)
  have h5 : sumTo ys.length (fun i => ys.getD (k + i) 0 * ys.getD (k + i) 0) = sumTo ys.length (fun i => ys.getD (i + k) 0 * ys.getD (i + k) 0) := sumTo_congr (fun i _ => by rw [Nat.add_comm])
  rw [h5] at h3
  omega

/-- None is further from 0 than the first one. -/
theorem lag_top (ys : List Int) (k : Nat) : -lag ys 0 ≤ lag ys k ∧ lag ys k ≤ lag ys 0 := by
  have h0 := sq_on ys k
  have h1 : lag ys 0 = sumTo ys.length (fun i => ys.getD i 0 * ys.getD i 0) := rfl
  have h2 := part_more ys k ys.length (Nat.sub_le _ _)
  unfold part at h2
  have h3 := sumTo_le (n := ys.length) (f := fun i => 2 * (ys.getD (i + k) 0 * ys.getD i 0)) (g := fun i => ys.getD (i + k) 0 * ys.getD (i + k) 0 + ys.getD i 0 * ys.getD i 0) (fun i _ => (two_sq _ _).1)
  have h4 := sumTo_le (n := ys.length) (f := fun i => -(2 * (ys.getD (i + k) 0 * ys.getD i 0))) (g := fun i => ys.getD (i + k) 0 * ys.getD (i + k) 0 + ys.getD i 0 * ys.getD i 0) (fun i _ => (two_sq _ _).2)
  rw [sumTo_neg ys.length (fun i => 2 * (ys.getD (i + k) 0 * ys.getD i 0))] at h4
  rw [sumTo_two, sumTo_pair, h2, ← h1] at h3 h4
  omega

/-- Is one not 0? -/
def nz (ys : List Int) : Bool := ys.any (fun z => z != 0)

theorem nz_take (ys : List Int) (i : Nat) (h : i < ys.length) : nz (ys.take (i + 1)) = (nz (ys.take i) || (ys.getD i 0 != 0)) := by
  unfold nz
  rw [List.take_succ_eq_append_getElem h, List.any_append]
  simp [List.getD, h]

theorem lag0_take (ys : List Int) : ∀ n, n ≤ ys.length → decide (0 < part ys 0 n) = nz (ys.take n)
  | 0, _ => by simp [part, sumTo, nz]
  | n + 1, h => by
    have ih := lag0_take ys n (by omega)
    rw [nz_take ys n (by omega), ← ih]
    have h1 : part ys 0 (n + 1) = part ys 0 n + ys.getD n 0 * ys.getD n 0 := rfl
    have h2 : 0 ≤ part ys 0 n := sumTo_nonneg (fun i => sq_nonneg _)
    have h3 := sq_nonneg (ys.getD n 0)
    rw [h1]
    by_cases hz : ys.getD n 0 = 0
    · rw [hz]
      simp
    · have h4 : ¬ ys.getD n 0 * ys.getD n 0 = 0 := fun e => by rcases Int.mul_eq_zero.1 e with h | h <;> exact hz h
      have h5 : (ys.getD n 0 != 0) = true := bne_iff_ne.2 hz
      rw [h5, Bool.or_true]
      exact decide_eq_true (by omega)

theorem lag0_nz (ys : List Int) : decide (0 < lag ys 0) = nz ys := by
  have := lag0_take ys ys.length (Nat.le_refl _)
  rwa [List.take_length] at this

theorem lag_out (ys : List Int) (k : Nat) (h : ys.length ≤ k) : lag ys k = 0 := by
  unfold lag
  rw [show ys.length - k = 0 by omega]
  rfl

end Go.Proofs.Ytdifaaimjiflgaa
