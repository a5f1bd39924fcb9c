/- Package solve in numbers: the factors of predictors, order by order. No program. -/
import Derived.Test.YtdifaaimjiflgaaLagMath
namespace Go.Proofs.Ytdifaaimjiflgaa
open Go.RowKit Bx

/-- What n factors foretell of the number m. -/
def fore (x A : List Int) (m n : Nat) : Int := sumTo n (fun i => A.getD i 0 * x.getD (m - 1 - i) 0)
/-- How much the number m is above what n factors foretell. -/
def usum (x A : List Int) (m n : Nat) : Int := x.getD m 0 * 1048576 - fore x A m n
def quoOf (x A : List Int) (e : Int) : Int := (usum x A (A.length + 1) A.length).tdiv e
/-- The first n of the next order's factors, but for the last one. -/
def exts (A : List Int) (q : Int) (n : Nat) : List Int := (List.range n).map (fun i => A.getD i 0 - q * A.getD (A.length - 1 - i) 0 / 1048576)
def ext (A : List Int) (q : Int) : List Int := exts A q A.length ++ [q]
def les (e q : Int) : Int := e - e * q / 1048576 * q / 1048576
def within (A : List Int) : Bool := A.all (fun f => !(decide (f < -67108864) || decide (67108864 < f)))

/-- So many orders more, behind the factors A. -/
def slv (x : List Int) : Nat → List Int → Int → List (List Int)
  | 0, _, _ => []
  | n + 1, A, e =>
    if quoOf x A e ≤ -1048576 ∨ 1048576 ≤ quoOf x A e then []
    else if within (ext A (quoOf x A e)) = false then []
    else ext A (quoOf x A e) :: (if les e (quoOf x A e) < 1 then [] else slv x n (ext A (quoOf x A e)) (les e (quoOf x A e)))

theorem exts_length (A : List Int) (q : Int) (n : Nat) : (exts A q n).length = n := by simp [exts]
theorem ext_length (A : List Int) (q : Int) : (ext A q).length = A.length + 1 := by simp [ext, exts_length]
theorem exts_succ (A : List Int) (q : Int) (n : Nat) : exts A q (n + 1) = exts A q n ++ [A.getD n 0 - q * A.getD (A.length - 1 - n) 0 / 1048576] := by simp [exts, List.range_succ]
theorem ext_get (A : List Int) (q : Int) (i : Nat) (h : i < A.length) : (ext A q).getD i 0 = A.getD i 0 - q * A.getD (A.length - 1 - i) 0 / 1048576 := by
  unfold ext
  rw [List.getD_eq_getElem?_getD, List.getElem?_append_left (by rw [exts_length]; exact h)]
  simp [exts, h]
theorem ext_last (A : List Int) (q : Int) : (ext A q).getD A.length 0 = q := by
  unfold ext
  rw [List.getD_eq_getElem?_getD, List.getElem?_append_right (by rw [exts_length]; exact Nat.le_refl _), exts_length]
  simp

theorem within_iff (A : List Int) : within A = true ↔ ∀ f ∈ A, -67108864 ≤ f ∧ f ≤ 67108864 := by
  unfold within
  rw [List.all_eq_true]
  refine forall_congr' fun f => imp_congr_right fun _ => ?_
  simp only [Bool.not_eq_true', Bool.or_eq_false_iff, decide_eq_false_iff_not]
  omega

theorem within_take (A : List Int) (i : Nat) (h : i < A.length) : within (A.take (i + 1)) = (within (A.take i) && !(decide (A.getD i 0 < -67108864) || decide (67108864 < A.getD i 0))) := by
  unfold within
  rw [List.take_succ_eq_append_getElem h, List.all_append]
  simp [List.getD, h]

theorem within_out (A : List Int) (i : Nat) (h : i < A.length) (hf : (decide (A.getD i 0 < -67108864) || decide (67108864 < A.getD i 0)) = true) : within A = false := by
  rw [Bool.eq_false_iff]
  intro hc
  rw [within_iff] at hc
  have := hc (A.getD i 0) (by simp only [List.getD, List.getElem?_eq_getElem h, Option.getD_some]; exact List.getElem_mem h)
  simp only [Bool.or_eq_true, decide_eq_true_eq] at hf
  omega

theorem within_bd {A : List Int} (h : within A = true) : Bd 67108864 A := bd_of_mem (fun f hf => (within_iff A).1 h f hf)

/-- All that is known ahead of an order. -/
structure Sol (x A : List Int) (e : Int) : Prop where
  lo : 1 ≤ e
  hi : e ≤ 1073741823
  far : within A = true
  xs : Bd 1073741824 x
  many : A.length ≤ 32

theorem mul_abs (a b : Int) {m n : Nat} (ha : a.natAbs ≤ m) (hb : b.natAbs ≤ n) : (a * b).natAbs ≤ m * n := by
  rw [Int.natAbs_mul]
  exact Nat.mul_le_mul ha hb

theorem fore_bd {x A : List Int} {e : Int} (h : Sol x A e) (m n : Nat) (hn : n ≤ 32) : (fore x A m n).natAbs ≤ 2305843009213693952 := by
  have hA := within_bd h.far
  have h1 := sumTo_bd (n := n) (f := fun i => A.getD i 0 * x.getD (m - 1 - i) 0) (M := 72057594037927936) (fun i _ => by
    have a := hA.any (by decide) i
    have b := h.xs.any (by decide) (m - 1 - i)
    have := mul_abs (A.getD i 0) (x.getD (m - 1 - i) 0) (m := 67108864) (n := 1073741824) (by omega) (by omega)
    omega)
  have h2 : (n : Int) * 72057594037927936 ≤ 32 * 72057594037927936 := Int.mul_le_mul_of_nonneg_right (by omega) (by decide)
  unfold fore
  omega

theorem usum_bd {x A : List Int} {e : Int} (h : Sol x A e) (m n : Nat) (hn : n ≤ 32) : (usum x A m n).natAbs ≤ 2306968909120536576 := by
  have h1 := fore_bd h m n hn
  have h2 := h.xs.any (by decide) m
  unfold usum
  omega

theorem usum_zero (x A : List Int) (m : Nat) : usum x A m 0 = x.getD m 0 * 1048576 := by simp [usum, fore, sumTo]
theorem usum_succ (x A : List Int) (m n : Nat) : usum x A m (n + 1) = usum x A m n - A.getD n 0 * x.getD (m - 1 - n) 0 := by
  simp only [usum, fore, sumTo]
  omega

/-- A round's numbers, beside the sum. -/
theorem usum_nums {x A : List Int} {e : Int} (h : Sol x A e) (m n : Nat) (hn : n < 32) : (A.getD n 0 * x.getD (m - 1 - n) 0).natAbs ≤ 72057594037927936 ∧ wrap64 (A.getD n 0 * x.getD (m - 1 - n) 0) = A.getD n 0 * x.getD (m - 1 - n) 0 ∧ wrap64 (usum x A m n - A.getD n 0 * x.getD (m - 1 - n) 0) = usum x A m (n + 1) := by
  have a := (within_bd h.far).any (by decide) n
  have b := h.xs.any (by decide) (m - 1 - n)
  have h1 := mul_abs (A.getD n 0) (x.getD (m - 1 - n) 0) (m := 67108864) (n := 1073741824) (by omega) (by omega)
  have h2 := usum_bd h m (n + 1) (by omega)
  rw [usum_succ] at h2 ⊢
  generalize A.getD n 0 * x.getD (m - 1 - n) 0 = p at *
  exact ⟨by omega, by unfold wrap64; omega, by unfold wrap64; omega⟩

theorem ediv_bd (a : Int) {n : Nat} (h : a.natAbs ≤ n * 1048576) : (a / 1048576).natAbs ≤ n := by omega

theorem ext_nums {x A : List Int} {e : Int} (h : Sol x A e) (q : Int) (hq : -1048576 < q ∧ q < 1048576) (i : Nat) :
    (q * A.getD (A.length - 1 - i) 0).natAbs ≤ 70368744177664 ∧ (A.getD i 0 - q * A.getD (A.length - 1 - i) 0 / 1048576).natAbs ≤ 134217728 := by
  have a := (within_bd h.far).any (by decide) i
  have b := (within_bd h.far).any (by decide) (A.length - 1 - i)
  have h1 := mul_abs q (A.getD (A.length - 1 - i) 0) (m := 1048576) (n := 67108864) (by omega) (by omega)
  generalize q * A.getD (A.length - 1 - i) 0 = p at *
  omega

theorem les_nums (e q : Int) (he : 1 ≤ e ∧ e ≤ 1073741823) (hq : -1048576 < q ∧ q < 1048576) :
    (e * q).natAbs ≤ 1125899906842624 ∧ (e * q / 1048576 * q).natAbs ≤ 1125899906842624 ∧ 0 ≤ e * q / 1048576 * q / 1048576 ∧ 1 ≤ les e q ∧ les e q ≤ e := by
  have h1 := mul_abs e q (m := 1073741824) (n := 1048576) (by omega) (by omega)
  have hf : (e * q / 1048576).natAbs ≤ e.natAbs ∧ 0 ≤ e * q / 1048576 * q := by
    by_cases h0 : 0 ≤ q
    · have a := Int.mul_nonneg (show 0 ≤ e by omega) h0
      have b := Int.mul_le_mul_of_nonneg_left (show q ≤ 1048576 by omega) (show 0 ≤ e by omega)
      have c : 0 ≤ e * q / 1048576 := by omega
      exact ⟨by omega, Int.mul_nonneg c h0⟩
    · have a := Int.mul_nonneg (show 0 ≤ e by omega) (show 0 ≤ -q by omega)
      have b := Int.mul_le_mul_of_nonneg_left (show -q ≤ 1048576 by omega) (show 0 ≤ e by omega)
      rw [Int.mul_neg] at a b
      have c : 0 ≤ -(e * q / 1048576) := by omega
      refine ⟨by omega, ?_⟩
      have := Int.mul_nonneg c (show 0 ≤ -q by omega)
      rwa [Int.neg_mul_neg] at this
  have h3 := mul_abs (e * q / 1048576) q (m := e.natAbs) (n := 1048575) hf.1 (by omega)
  have h4 : e.natAbs * 1048575 ≤ 1073741823 * 1048575 := Nat.mul_le_mul_right _ (by omega)
  unfold les
  generalize e * q / 1048576 * q = p at *
  refine ⟨by omega, by omega, by omega, by omega, by omega⟩

theorem sol_next {x A : List Int} {e : Int} (h : Sol x A e) (hm : A.length < 32) (q : Int) (hq : -1048576 < q ∧ q < 1048576) (hw : within (ext A q) = true) : Sol x (ext A q) (les e q) := by
  obtain ⟨_, _, _, l1, l2⟩ := les_nums e q ⟨h.lo, h.hi⟩ hq
  have := h.hi
  exact ⟨l1, by omega, hw, h.xs, by rw [ext_length]; omega⟩

theorem slv_step (x A : List Int) (e : Int) (n : Nat) (hq : -1048576 < quoOf x A e ∧ quoOf x A e < 1048576) (hw : within (ext A (quoOf x A e)) = true) (he : 1 ≤ les e (quoOf x A e)) :
    slv x (n + 1) A e = ext A (quoOf x A e) :: slv x n (ext A (quoOf x A e)) (les e (quoOf x A e)) := by
  rw [slv, if_neg (by omega), if_neg (by rw [hw]; decide), if_neg (by omega)]

theorem slv_end (x A : List Int) (e : Int) (n : Nat) (hq : quoOf x A e ≤ -1048576 ∨ 1048576 ≤ quoOf x A e) : slv x (n + 1) A e = [] := by rw [slv, if_pos hq]

theorem slv_far (x A : List Int) (e : Int) (n : Nat) (hw : within (ext A (quoOf x A e)) = false) : slv x (n + 1) A e = [] := by
  rw [slv]
  by_cases h : quoOf x A e ≤ -1048576 ∨ 1048576 ≤ quoOf x A e
  · rw [if_pos h]
  · rw [if_neg h, if_pos hw]

theorem slv_len (x : List Int) : ∀ (n : Nat) (A : List Int) (e : Int), (slv x n A e).length ≤ n
  | 0, _, _ => Nat.le_refl _
  | n + 1, A, e => by
    rw [slv]
    split
    · simp
    · split
      · simp
      · split
        · simp
        · have := slv_len x n (ext A (quoOf x A e)) (les e (quoOf x A e))
          simp only [List.length_cons]
          omega

/-- Only the numbers up to the last order's count. -/
theorem slv_congr (x y : List Int) : ∀ (n : Nat) (A : List Int) (e : Int), (∀ i, i ≤ A.length + n → x.getD i 0 = y.getD i 0) → slv x n A e = slv y n A e
  | 0, _, _, _ => rfl
  | n + 1, A, e, h => by
    have hq : quoOf x A e = quoOf y A e := by
      unfold quoOf usum fore
      rw [h _ (by omega), sumTo_congr (fun i hi => by rw [h (A.length + 1 - 1 - i) (by omega)])]
    rw [slv, slv, hq, slv_congr x y n _ _ (fun i hi => h i (by rw [ext_length] at hi; omega))]

/-- A greater order has the same ones first. -/
theorem slv_take (x : List Int) : ∀ (n m : Nat) (A : List Int) (e : Int), n ≤ m → (slv x m A e).take n = slv x n A e
  | 0, m, A, e, _ => by simp [slv]
  | n + 1, 0, A, e, h => by omega
  | n + 1, m + 1, A, e, h => by
    rw [slv, slv]
    split
    · simp
    · split
      · simp
      · split
        · simp
        · rw [List.take_succ_cons, slv_take x n m _ _ (by omega)]

/-- Those of the order m are m factors, near, the last one within a whole. -/
theorem slv_rows (x : List Int) : ∀ (n : Nat) (A : List Int) (e : Int) (i : Nat), i < (slv x n A e).length →
    ((slv x n A e).getD i []).length = A.length + i + 1 ∧ within ((slv x n A e).getD i []) = true ∧ -1048576 < ((slv x n A e).getD i []).getD (A.length + i) 0 ∧ ((slv x n A e).getD i []).getD (A.length + i) 0 < 1048576
  | 0, _, _, i, h => by simp [slv] at h
  | n + 1, A, e, i, h => by
    rw [slv] at h ⊢
    split
    · rename_i hq; rw [if_pos hq] at h; simp at h
    · rename_i hq
      rw [if_neg hq] at h
      split
      · rename_i hw; rw [if_pos hw] at h; simp at h
      · rename_i hw
        rw [if_neg hw] at h
        cases i with
        | zero =>
          simp only [List.getD_cons_zero, Nat.add_zero]
          rw [ext_length, ext_last]
          exact ⟨rfl, by simpa using hw, by omega, by omega⟩
        | succ i =>
          simp only [List.getD_cons_succ, List.length_cons] at h ⊢
          split
          · rename_i he; rw [if_pos he] at h; simp at h
          · rename_i he
            rw [if_neg he] at h
            have := slv_rows x n (ext A (quoOf x A e)) (les e (quoOf x A e)) i (by omega)
            rw [ext_length] at this
            rw [show A.length + (i + 1) = A.length + 1 + i by omega]
            exact this

/-- By how many bits all go down. -/
def lowBy (r : List Int) : Nat := Lib.bitLen (r.getD 0 0 / 1073741824).toNat
def low (r : List Int) : List Int := dv (lowBy r) r
theorem low_length (r : List Int) : (low r).length = r.length := dv_length _ _
theorem low_get (r : List Int) (i : Nat) : (low r).getD i 0 = r.getD i 0 / (2 : Int) ^ lowBy r := dv_get _ _ _

/-- How many orders there can be. -/
def ords (r : List Int) (order : Int) : Nat := min (min (max order 0) 32).toNat (r.length - 1)
/-- All that is told. -/
def sol (r : List Int) (order : Int) : List (List Int) := if r.getD 0 0 < 1 then [] else slv (low r) (ords r order) [] ((low r).getD 0 0)

/-- One of which something is promised. -/
def Rt (r : List Int) : Prop := r = [] ∨ (0 ≤ r.getD 0 0 ∧ r.getD 0 0 ≤ 4611686018427387904 ∧ ∀ i, i < r.length → -(r.getD 0 0) ≤ r.getD i 0 ∧ r.getD i 0 ≤ r.getD 0 0)

theorem pow_pos2 (t : Nat) : (0 : Int) < 2 ^ t := by
  have := Nat.two_pow_pos t
  have h1 : ((2 ^ t : Nat) : Int) = (2 : Int) ^ t := by simp
  omega

/-- The first number, gone down. -/
theorem low_first (a : Int) (h1 : 1 ≤ a) (h2 : a ≤ 4611686018427387904) : ∀ t, t = Lib.bitLen (a / 1073741824).toNat → t ≤ 33 ∧ 1 ≤ a / (2 : Int) ^ t ∧ a / (2 : Int) ^ t ≤ 1073741823 ∧ a < 1073741824 * (2 : Int) ^ t ∧ (0 < t → 1073741824 * (2 : Int) ^ (t - 1) ≤ a) := by
  intro t ht
  have hu : (a / 1073741824).toNat < 2 ^ 33 := by omega
  have hb := bitLen_lt (a / 1073741824).toNat t
  have ht33 : t ≤ 33 := by rw [ht]; exact (bitLen_lt _ 33 (by decide) (by omega)).2 hu
  have hlt := (hb (by omega) (by omega)).1 (by omega)
  have hge : 0 < t → 2 ^ (t - 1) ≤ (a / 1073741824).toNat := by
    intro h0
    have := bitLen_lt (a / 1073741824).toNat (t - 1) (by omega) (by omega)
    omega
  have e1 : ((2 ^ t : Nat) : Int) = (2 : Int) ^ t := by simp
  have e2 : ((2 ^ (t - 1) : Nat) : Int) = (2 : Int) ^ (t - 1) := by simp
  have hp := pow_pos2 t
  have h3 : a < 1073741824 * (2 : Int) ^ t := by rw [← e1]; omega
  have h4 : 0 < t → 1073741824 * (2 : Int) ^ (t - 1) ≤ a := by intro h0; have := hge h0; rw [← e2]; omega
  have h5 : (2 : Int) ^ t ≤ a := by
    by_cases h0 : 0 < t
    · have := h4 h0
      have e3 : (2 : Int) ^ t = 2 * 2 ^ (t - 1) := by rw [show t = (t - 1) + 1 by omega, Int.pow_succ, Int.mul_comm]; rfl
      have := pow_pos2 (t - 1)
      omega
    · have : t = 0 := by omega
      rw [this]
      simpa using h1
  refine ⟨ht33, Int.le_ediv_of_mul_le hp (by omega), ?_, h3, h4⟩
  have := Int.ediv_lt_of_lt_mul hp h3
  omega

theorem low_bd {r : List Int} (h : Rt r) (h1 : 1 ≤ r.getD 0 0) : Sol (low r) [] ((low r).getD 0 0) := by
  rcases h with rfl | ⟨_, h2, h3⟩
  · simp at h1
  · obtain ⟨t33, a1, a2, a3, _⟩ := low_first _ h1 h2 (lowBy r) rfl
    refine ⟨by rw [low_get]; exact a1, by rw [low_get]; exact a2, rfl, ?_, by simp⟩
    intro i hi
    rw [low_length] at hi
    obtain ⟨b1, b2⟩ := h3 i hi
    rw [low_get]
    have hp := pow_pos2 (lowBy r)
    generalize r.getD i 0 = z at *
    generalize r.getD 0 0 = a at *
    generalize (2 : Int) ^ lowBy r = p at *
    have c1 := Int.ediv_le_ediv hp b2
    have c2 : -1073741824 ≤ z / p := Int.le_ediv_of_mul_le hp (by omega)
    omega

theorem ords_le (r : List Int) (order : Int) : ords r order ≤ 32 := by unfold ords; omega

theorem sol_len (r : List Int) (order : Int) : (sol r order).length ≤ ords r order := by
  unfold sol
  split
  · simp
  · exact slv_len _ _ _ _

end Go.Proofs.Ytdifaaimjiflgaa
