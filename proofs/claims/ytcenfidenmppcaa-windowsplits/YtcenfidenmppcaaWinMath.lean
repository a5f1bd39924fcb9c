/- The weights of package window, in numbers. -/
import Derived.Test.YtcenfidenmppcaaNear
namespace Go.Proofs.Ytcenfidenmppcaa
open Go.RowKit Bx

def tentW (i n : Int) : Int := 65536 * min (i + 1) (n - i) / (n + 1)
def hillW (i n : Int) : Int := 32768 - 32768 * (2 * i + 1 - n) * (2 * i + 1 - n) / ((n + 1) * (n + 1))
def wgt (s i n : Int) : Int := if s = 0 then 32768 else if s = 1 then tentW i n else hillW i n

theorem sq_pos (n : Int) (h : 0 < n) : 0 < n * n := Int.mul_pos h h

theorem sq_nonneg (d : Int) : 0 ≤ d * d := by
  rcases Int.le_total 0 d with h | h
  · exact Int.mul_nonneg h h
  · have := Int.mul_nonneg (show 0 ≤ -d by omega) (show 0 ≤ -d by omega)
    rwa [Int.neg_mul_neg] at this

theorem sq_le {a b : Int} (h1 : -b ≤ a) (h2 : a ≤ b) : a * a ≤ b * b := by
  have h := Int.mul_nonneg (show 0 ≤ b - a by omega) (show 0 ≤ b + a by omega)
  have e : (b - a) * (b + a) = b * b - a * a := by rw [Int.sub_mul, Int.mul_add, Int.mul_add, Int.mul_comm a b]; omega
  omega

theorem tent_top (i n : Int) (h0 : 0 ≤ i) (h1 : i < n) : tentW i n ≤ 32768 := by
  unfold tentW
  apply Int.le_of_lt_add_one
  apply Int.ediv_lt_of_lt_mul (by omega)
  omega

theorem tent_low (i n : Int) (h0 : 0 ≤ i) (h1 : i < n) (h2 : n ≤ 65535) : 1 ≤ tentW i n := by
  unfold tentW
  apply Int.le_ediv_of_mul_le (by omega)
  omega

theorem hill_nn (i n : Int) (h0 : 0 ≤ i) (h1 : i < n) : 0 ≤ 32768 * (2 * i + 1 - n) * (2 * i + 1 - n) / ((n + 1) * (n + 1)) := by
  apply Int.ediv_nonneg
  · have := sq_nonneg (2 * i + 1 - n)
    rw [Int.mul_assoc]; omega
  · exact Int.le_of_lt (sq_pos _ (by omega))

theorem hill_lt (i n : Int) (h0 : 0 ≤ i) (h1 : i < n) : 32768 * (2 * i + 1 - n) * (2 * i + 1 - n) / ((n + 1) * (n + 1)) < 32768 := by
  apply Int.ediv_lt_of_lt_mul (sq_pos _ (by omega))
  have h2 := sq_le (a := 2 * i + 1 - n) (b := n) (by omega) (by omega)
  have h3 : n * n < (n + 1) * (n + 1) := by rw [Int.add_mul, Int.mul_add]; omega
  rw [Int.mul_assoc]; omega

theorem wgt_top (s i n : Int) (h0 : 0 ≤ i) (h1 : i < n) : wgt s i n ≤ 32768 := by
  unfold wgt
  split
  · decide
  · split
    · exact tent_top i n h0 h1
    · have := hill_nn i n h0 h1
      unfold hillW; omega

theorem wgt_low (s i n : Int) (h0 : 0 ≤ i) (h1 : i < n) (h2 : n ≤ 65535) : 1 ≤ wgt s i n := by
  unfold wgt
  split
  · decide
  · split
    · exact tent_low i n h0 h1 h2
    · have := hill_lt i n h0 h1
      unfold hillW; omega

theorem wgt_turn (s i n : Int) : wgt s (n - 1 - i) n = wgt s i n := by
  unfold wgt
  split
  · rfl
  · split
    · unfold tentW
      rw [show n - 1 - i + 1 = n - i by omega, show n - (n - 1 - i) = i + 1 by omega, Int.min_comm]
    · unfold hillW
      rw [show 2 * (n - 1 - i) + 1 - n = -(2 * i + 1 - n) by omega]
      simp only [Int.mul_neg, Int.neg_mul, Int.neg_neg]

theorem wgt_up (s i n : Int) (h0 : 0 ≤ i) (h1 : 2 * (i + 1) ≤ n) : wgt s i n ≤ wgt s (i + 1) n := by
  unfold wgt
  split
  · exact Int.le_refl _
  · split
    · unfold tentW
      apply Int.ediv_le_ediv (by omega)
      omega
    · unfold hillW
      have h3 := sq_le (a := 2 * (i + 1) + 1 - n) (b := -(2 * i + 1 - n)) (by omega) (by omega)
      rw [Int.neg_mul_neg] at h3
      have h4 : 32768 * (2 * (i + 1) + 1 - n) * (2 * (i + 1) + 1 - n) / ((n + 1) * (n + 1)) ≤ 32768 * (2 * i + 1 - n) * (2 * i + 1 - n) / ((n + 1) * (n + 1)) := by
        apply Int.ediv_le_ediv (sq_pos _ (by omega))
        rw [Int.mul_assoc, Int.mul_assoc]
        omega
      omega

theorem wgt_mid (s m : Int) (h : 0 ≤ m) : wgt s m (2 * m + 1) = 32768 := by
  unfold wgt
  split
  · rfl
  · split
    · unfold tentW
      rw [show min (m + 1) (2 * m + 1 - m) = m + 1 by omega, show 65536 * (m + 1) = 32768 * (2 * m + 1 + 1) by omega]
      exact Int.mul_ediv_cancel _ (by omega)
    · unfold hillW
      rw [show 2 * m + 1 - (2 * m + 1) = 0 by omega]
      simp

theorem wgt_flat (i n : Int) : wgt 0 i n = 32768 := rfl

/-- Which error. -/
def wgtE (s i n : Int) : Int := if s < 0 ∨ 2 < s then 8 else if n < 1 ∨ 65535 < n ∨ i < 0 ∨ n ≤ i then 1 else 0
def wgtV (s i n : Int) : Int := if wgtE s i n = 0 then wgt s i n else 0

theorem wgtE_ok {s i n : Int} (h : 0 ≤ s ∧ s ≤ 2) (h0 : 0 ≤ i) (h1 : i < n) (h2 : n ≤ 65535) : wgtE s i n = 0 := by
  unfold wgtE
  rw [if_neg (by omega), if_neg (by omega)]
theorem wgtV_ok {s i n : Int} (h : 0 ≤ s ∧ s ≤ 2) (h0 : 0 ≤ i) (h1 : i < n) (h2 : n ≤ 65535) : wgtV s i n = wgt s i n := by
  unfold wgtV
  rw [if_pos (wgtE_ok h h0 h1 h2)]

/-- The numbers of the weights' programs. -/
theorem tent_nums (i n : Int) (h0 : 0 ≤ i) (h1 : i < n) (h2 : n ≤ 65535) : wrap64 (i + 1) = i + 1 ∧ wrap64 (n - i) = n - i ∧ wrap64 (n + 1) = n + 1 ∧ wrap64 (65536 * min (i + 1) (n - i)) = 65536 * min (i + 1) (n - i) ∧ (n + 1 == 0) = false ∧ wrap64 ((65536 * min (i + 1) (n - i)).tdiv (n + 1)) = tentW i n := by
  refine ⟨by unfold wrap64; omega, by unfold wrap64; omega, by unfold wrap64; omega, by unfold wrap64; omega, beq_false_of_ne (by omega), ?_⟩
  rw [Int.tdiv_eq_ediv_of_nonneg (by omega)]
  have h3 := tent_top i n h0 h1
  have h4 := tent_low i n h0 h1 h2
  unfold tentW at *
  unfold wrap64; omega

theorem hill_nums (i n : Int) (h0 : 0 ≤ i) (h1 : i < n) (h2 : n ≤ 65535) : wrap64 (2 * i) = 2 * i ∧ wrap64 (2 * i + 1) = 2 * i + 1 ∧ wrap64 (2 * i + 1 - n) = 2 * i + 1 - n ∧ wrap64 (n + 1) = n + 1 ∧ wrap64 (32768 * (2 * i + 1 - n)) = 32768 * (2 * i + 1 - n) ∧
    wrap64 (32768 * (2 * i + 1 - n) * (2 * i + 1 - n)) = 32768 * (2 * i + 1 - n) * (2 * i + 1 - n) ∧ wrap64 ((n + 1) * (n + 1)) = (n + 1) * (n + 1) ∧ ((n + 1) * (n + 1) == 0) = false ∧
    wrap64 ((32768 * (2 * i + 1 - n) * (2 * i + 1 - n)).tdiv ((n + 1) * (n + 1))) = 32768 * (2 * i + 1 - n) * (2 * i + 1 - n) / ((n + 1) * (n + 1)) ∧ wrap64 (32768 - 32768 * (2 * i + 1 - n) * (2 * i + 1 - n) / ((n + 1) * (n + 1))) = hillW i n := by
  have a1 := sq_le (a := 2 * i + 1 - n) (b := 65535) (by omega) (by omega)
  have a2 := sq_nonneg (2 * i + 1 - n)
  have a3 := sq_le (a := n + 1) (b := 65536) (by omega) (by omega)
  have a4 := sq_pos (n + 1) (by omega)
  have a5 : 32768 * (2 * i + 1 - n) * (2 * i + 1 - n) = 32768 * ((2 * i + 1 - n) * (2 * i + 1 - n)) := Int.mul_assoc _ _ _
  have a6 := hill_nn i n h0 h1
  have a7 := hill_lt i n h0 h1
  refine ⟨by unfold wrap64; omega, by unfold wrap64; omega, by unfold wrap64; omega, by unfold wrap64; omega, by unfold wrap64; omega, ?_, ?_, beq_false_of_ne (by omega), ?_, ?_⟩
  · rw [a5]; unfold wrap64; omega
  · unfold wrap64; omega
  · have a8 : 0 ≤ 32768 * (2 * i + 1 - n) * (2 * i + 1 - n) := by rw [a5]; omega
    rw [Int.tdiv_eq_ediv_of_nonneg a8]
    unfold wrap64; omega
  · unfold hillW wrap64; omega

/-- The list L, its first i laid, the rest 0. -/
def fill (L : List Int) (i : Nat) : List Int := L.take i ++ List.replicate (L.length - i) 0
theorem fill_zero (L : List Int) : fill L 0 = List.replicate L.length 0 := by simp [fill]
theorem fill_last (L : List Int) : fill L L.length = L := by simp [fill]
theorem fill_length (L : List Int) (i : Nat) (h : i ≤ L.length) : (fill L i).length = L.length := by simp [fill]; omega
theorem fill_set (L : List Int) (i : Nat) (h : i < L.length) : (fill L i).set i (L.getD i 0) = fill L (i + 1) := by
  unfold fill
  obtain ⟨k, hk⟩ : ∃ k, L.length - i = k + 1 := ⟨L.length - i - 1, by omega⟩
  have hk2 : L.length - (i + 1) = k := by omega
  rw [hk, hk2, List.replicate_succ, List.set_append_right _ _ (by rw [List.length_take]; exact Nat.min_le_left _ _), List.take_succ_eq_append_getElem h]
  rw [List.length_take, Nat.min_eq_left (Nat.le_of_lt h), Nat.sub_self, List.set_cons_zero, List.append_assoc]
  simp [List.getD, h]

/-- All weights. -/
def wl (s : Int) (m : Nat) : List Int := (List.range m).map (fun i : Nat => wgt s (i : Int) (m : Int))
theorem wl_length (s : Int) (m : Nat) : (wl s m).length = m := by simp [wl]
theorem wl_get (s : Int) (m i : Nat) (h : i < m) : (wl s m).getD i 0 = wgt s (i : Int) (m : Int) := by simp [wl, List.getD, h]
theorem wl_take (s : Int) (m i : Nat) (h : i < m) : (wl s m).take (i + 1) = (wl s m).take i ++ [wgt s (i : Int) (m : Int)] := by
  have h1 : i < (wl s m).length := by rw [wl_length]; exact h
  rw [List.take_succ_eq_append_getElem h1]
  simp [wl]
theorem wl_bd (s : Int) (m : Nat) (hm : m ≤ 65535) : ∀ n ∈ wl s m, 1 ≤ n ∧ n ≤ 32768 := by
  intro n hn
  obtain ⟨i, hi, rfl⟩ := List.mem_map.1 hn
  have := List.mem_range.1 hi
  exact ⟨wgt_low s i m (by omega) (by omega) (by omega), wgt_top s i m (by omega) (by omega)⟩
def wsE (s n : Int) : Int := if s < 0 ∨ 2 < s then 8 else if n < 0 ∨ 65535 < n then 1 else 0
def wsL (s n : Int) : List Int := if wsE s n = 0 then wl s n.toNat else []
theorem wsE_ok {s : Int} {m : Nat} (h : 0 ≤ s ∧ s ≤ 2) (hm : m ≤ 65535) : wsE s (m : Int) = 0 := by unfold wsE; rw [if_neg (by omega), if_neg (by omega)]
theorem wsL_ok {s : Int} {m : Nat} (h : 0 ≤ s ∧ s ≤ 2) (hm : m ≤ 65535) : wsL s (m : Int) = wl s m := by unfold wsL; rw [if_pos (wsE_ok h hm), Int.toNat_natCast]
theorem wsL_bad {s n : Int} (h : ¬ wsE s n = 0) : wsL s n = [] := by unfold wsL; rw [if_neg h]

/-- What weights make of numbers. -/
def apL (x ws : List Int) : List Int := List.zipWith (fun a b => a * b / 32768) x ws
theorem apL_length (x ws : List Int) (h : x.length = ws.length) : (apL x ws).length = x.length := by simp [apL, h]
theorem apL_get (x ws : List Int) (i : Nat) (h1 : i < x.length) (h2 : i < ws.length) : (apL x ws).getD i 0 = x.getD i 0 * ws.getD i 0 / 32768 := by
  have h3 : i < (apL x ws).length := by simp [apL]; omega
  simp only [List.getD_eq_getElem?_getD, List.getElem?_eq_getElem h1, List.getElem?_eq_getElem h2, List.getElem?_eq_getElem h3, Option.getD_some]
  simp [apL]
theorem prod_bd (a b : Int) (h1 : -1099511627776 ≤ a ∧ a ≤ 1099511627776) (h2 : 0 ≤ b ∧ b ≤ 32768) : -36028797018963968 ≤ a * b ∧ a * b ≤ 36028797018963968 := by
  have l1 := Int.mul_le_mul_of_nonneg_right h1.1 h2.1
  have l2 := Int.mul_le_mul_of_nonneg_right h1.2 h2.1
  omega

end Go.Proofs.Ytcenfidenmppcaa
