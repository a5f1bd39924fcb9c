/- Numbers turned about, with zeros ahead or behind, or joined far apart: how alike they are. No program. -/
import Derived.Test.YtheleifichacjaaLagOrd
namespace Go.Proofs.Ytheleifichacjaa
open Go.RowKit Bx

theorem fit_same {a b : List Int} (ha : Bd 1099511627776 a) (hb : Bd 1099511627776 b) (h : ∀ s, Fits s a ↔ Fits s b) : fit a = fit b := by
  have h1 := (fit_le a (fit b) ha).2 ((h _).2 ((fit_le b _ hb).1 (Nat.le_refl _)))
  have h2 := (fit_le b (fit a) hb).2 ((h _).1 ((fit_le a _ ha).1 (Nat.le_refl _)))
  omega

theorem bd_reverse {M : Int} {x : List Int} (h : Bd M x) : Bd M x.reverse := bd_of_mem fun n hn => h.mem n (List.mem_reverse.1 hn)

theorem fit_reverse {x : List Int} (h : Bd 1099511627776 x) : fit x.reverse = fit x :=
  fit_same (bd_reverse h) h fun _ => ⟨fun h z hz => h z (List.mem_reverse.2 hz), fun h z hz => h z (List.mem_reverse.1 hz)⟩

theorem dv_reverse (s : Nat) (x : List Int) : dv s x.reverse = (dv s x).reverse := by simp [dv, List.map_reverse]

theorem getD_reverse (ys : List Int) (j : Nat) (h : j < ys.length) : ys.reverse.getD j 0 = ys.getD (ys.length - 1 - j) 0 := by
  simp only [List.getD_eq_getElem?_getD]
  rw [List.getElem?_reverse h]

theorem lag_reverse (ys : List Int) (k : Nat) : lag ys.reverse k = lag ys k := by
  unfold lag part
  rw [List.length_reverse, sumTo_turn]
  apply sumTo_congr
  intro i hi
  show ys.reverse.getD (ys.length - k - 1 - i + k) 0 * ys.reverse.getD (ys.length - k - 1 - i) 0 = _
  rw [getD_reverse ys _ (by omega), getD_reverse ys _ (by omega), Int.mul_comm]
  congr 2 <;> omega

theorem lags_same {a b : List Int} (m : Nat) (h : ∀ k, k < m → lag a k = lag b k) : lags a m = lags b m := by
  unfold lags
  apply List.map_congr_left
  intro k hk
  exact h k (List.mem_range.1 hk)

theorem told_reverse {x : List Int} (h : Bd 1099511627776 x) (o : Int) : told x.reverse o = told x o := by
  unfold told
  rw [fit_reverse h, dv_reverse]
  exact lags_same _ fun k _ => lag_reverse _ k

/-- Zeros ahead and behind. -/
def padz (a : Nat) (x : List Int) (b : Nat) : List Int := List.replicate a 0 ++ x ++ List.replicate b 0

theorem padz_length (a : Nat) (x : List Int) (b : Nat) : (padz a x b).length = a + x.length + b := by simp [padz]; omega

theorem padz_mem {a b : Nat} {x : List Int} {z : Int} (h : z ∈ padz a x b) : z = 0 ∨ z ∈ x := by
  simp only [padz, List.mem_append, List.mem_replicate] at h
  rcases h with (h | h) | h
  · exact .inl h.2
  · exact .inr h
  · exact .inl h.2

theorem mem_padz {a b : Nat} {x : List Int} {z : Int} (h : z ∈ x) : z ∈ padz a x b := by simp [padz, h]

theorem bd_padz {x : List Int} (h : Bd 1099511627776 x) (a b : Nat) : Bd 1099511627776 (padz a x b) := bd_of_mem fun n hn => by
  rcases padz_mem hn with rfl | hn
  · omega
  · exact h.mem n hn

theorem fits_zero (s : Nat) : -(2 : Int) ^ (22 + s) ≤ 0 ∧ (0 : Int) < (2 : Int) ^ (22 + s) := by
  have := pow_le2 (show 0 ≤ 22 + s by omega)
  omega

theorem fit_padz {x : List Int} (h : Bd 1099511627776 x) (a b : Nat) : fit (padz a x b) = fit x :=
  fit_same (bd_padz h a b) h fun s => ⟨fun h z hz => h z (mem_padz hz), fun h z hz => by
    rcases padz_mem hz with rfl | hz
    · exact fits_zero s
    · exact h z hz⟩

theorem dv_padz (s a b : Nat) (x : List Int) : dv s (padz a x b) = padz a (dv s x) b := by simp [dv, padz, List.map_append]

theorem padz_low (a b : Nat) (ys : List Int) (i : Nat) (h : i < a) : (padz a ys b).getD i 0 = 0 := by
  simp [padz, List.getD, List.getElem?_append, h]

theorem padz_high (a b : Nat) (ys : List Int) (i : Nat) : (padz a ys b).getD (a + i) 0 = ys.getD i 0 := by
  unfold padz
  rw [List.append_assoc]
  simp only [List.getD_eq_getElem?_getD]
  rw [List.getElem?_append_right (by simp)]
  simp only [List.length_replicate, Nat.add_sub_cancel_left]
  by_cases h : i < ys.length
  · rw [List.getElem?_append_left h]
  · rw [List.getElem?_append_right (by omega), List.getElem?_eq_none (show ys.length ≤ i by omega), List.getElem?_replicate]
    split <;> rfl

theorem lag_padz (a b : Nat) (ys : List Int) (k : Nat) : lag (padz a ys b) k = lag ys k := by
  rw [← part_more (padz a ys b) k (a + (ys.length + b)) (by rw [padz_length]; omega)]
  unfold part
  rw [sumTo_add, sumTo_zero (n := a), Int.zero_add]
  · rw [← part_more ys k (ys.length + b) (by omega)]
    apply sumTo_congr
    intro i _
    rw [Nat.add_assoc, padz_high, padz_high]
  · intro i hi
    rw [padz_low a b ys i hi, Int.mul_zero]

theorem told_padz {x : List Int} (h : Bd 1099511627776 x) (a b : Nat) (o : Int) : told (padz a x b) o = told x o := by
  unfold told
  rw [fit_padz h, dv_padz]
  exact lags_same _ fun k _ => lag_padz _ _ _ k

/-- Joined, so many zeros in between. -/
def joinz (x : List Int) (n : Nat) (y : List Int) : List Int := x ++ List.replicate n 0 ++ y

theorem joinz_length (x : List Int) (n : Nat) (y : List Int) : (joinz x n y).length = x.length + n + y.length := by simp [joinz]; omega

theorem joinz_mem {n : Nat} {x y : List Int} {z : Int} (h : z ∈ joinz x n y) : z = 0 ∨ z ∈ x ∨ z ∈ y := by
  simp only [joinz, List.mem_append, List.mem_replicate] at h
  rcases h with (h | h) | h
  · exact .inr (.inl h)
  · exact .inl h.2
  · exact .inr (.inr h)

theorem bd_joinz {x y : List Int} (h : Bd 1099511627776 x) (g : Bd 1099511627776 y) (n : Nat) : Bd 1099511627776 (joinz x n y) := bd_of_mem fun m hm => by
  rcases joinz_mem hm with rfl | hm | hm
  · omega
  · exact h.mem m hm
  · exact g.mem m hm

theorem fit_joinz {x y : List Int} (h : Bd 1099511627776 x) (g : Bd 1099511627776 y) (n : Nat) (e : fit y = fit x) : fit (joinz x n y) = fit x := by
  have hj := bd_joinz h g n
  have h1 : ∀ s, fit (joinz x n y) ≤ s ↔ fit x ≤ s := fun s => by
    rw [fit_le _ _ hj]
    constructor
    · intro f
      exact (fit_le x s h).2 fun z hz => f z (by simp [joinz, hz])
    · intro f
      have fx := (fit_le x s h).1 f
      have fy := (fit_le y s g).1 (by omega)
      intro z hz
      rcases joinz_mem hz with rfl | hz | hz
      · exact fits_zero s
      · exact fx z hz
      · exact fy z hz
  have h2 := (h1 (fit x)).2 (Nat.le_refl _)
  have h3 := (h1 (fit (joinz x n y))).1 (Nat.le_refl _)
  omega

theorem dv_joinz (s n : Nat) (x y : List Int) : dv s (joinz x n y) = joinz (dv s x) n (dv s y) := by simp [dv, joinz, List.map_append]

theorem joinz_low (x y : List Int) (n i : Nat) (h : i < x.length + n) : (joinz x n y).getD i 0 = x.getD i 0 := by
  unfold joinz
  simp only [List.getD_eq_getElem?_getD]
  rw [List.getElem?_append_left (by simp; exact h)]
  by_cases hi : i < x.length
  · rw [List.getElem?_append_left hi]
  · rw [List.getElem?_append_right (by omega), List.getElem?_eq_none (show x.length ≤ i by omega), List.getElem?_replicate]
    split <;> rfl

theorem joinz_high (x y : List Int) (n i : Nat) : (joinz x n y).getD (x.length + n + i) 0 = y.getD i 0 := by
  unfold joinz
  simp only [List.getD_eq_getElem?_getD]
  rw [List.getElem?_append_right (by simp)]
  congr 2
  simp

theorem lag_joinz (x y : List Int) (n k : Nat) (h : k ≤ n) : lag (joinz x n y) k = lag x k + lag y k := by
  rw [← part_more (joinz x n y) k (x.length + n + y.length) (by rw [joinz_length]; omega), ← part_more x k (x.length + n) (by omega), ← part_more y k y.length (by omega)]
  unfold part
  rw [sumTo_add]
  congr 1
  · apply sumTo_congr
    intro i hi
    rw [joinz_low x y n i hi]
    by_cases hx : i < x.length
    · rw [joinz_low x y n (i + k) (by omega)]
    · rw [getD_out x i (by omega), Int.mul_zero, Int.mul_zero]
  · apply sumTo_congr
    intro i _
    rw [Nat.add_assoc _ i k, joinz_high, joinz_high]

theorem told_joinz {x y : List Int} (h : Bd 1099511627776 x) (g : Bd 1099511627776 y) (n : Nat) (hn : n ≤ 32) (e : fit y = fit x) (k : Nat) (hk : k ≤ n) : (told (joinz x n y) (n : Int)).getD k 0 = (told x (n : Int)).getD k 0 + (told y (n : Int)).getD k 0 := by
  have hm := many_nat n
  unfold told
  rw [fit_joinz h g n e, e, dv_joinz, lags_get _ _ _ (by omega), lags_get _ _ _ (by omega), lags_get _ _ _ (by omega)]
  exact lag_joinz _ _ n k hk

end Go.Proofs.Ytheleifichacjaa
