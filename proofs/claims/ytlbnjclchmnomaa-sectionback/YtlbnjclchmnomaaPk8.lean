/- How many bits a part has, its width, its best way: all in numbers. No program. -/
import Derived.Test.YtlbnjclchmnomaaPk3
import Derived.Test.YtlbnjclchmnomaaPk7

namespace Go.Proofs.Ytlbnjclchmnomaa

/-- Are all numbers near? -/
def nrs (L : List Int) : Bool := L.all nr

theorem nrs_nil : nrs [] = true := rfl
theorem nrs_append (A B : List Int) : nrs (A ++ B) = (nrs A && nrs B) := by simp [nrs]
theorem nrs_mem {L : List Int} (h : nrs L = true) {n : Int} (hn : n ∈ L) : nr n = true := List.all_eq_true.1 h n hn
theorem nrs_get {L : List Int} (h : nrs L = true) (i : Nat) (hi : i < L.length) : nr (L.getD i 0) = true := nrs_mem h (by simp [List.getD, hi])

theorem take_get {L : List Int} {i : Nat} (hi : i < L.length) : L.take (i + 1) = L.take i ++ [L.getD i 0] := by
  rw [List.take_succ_eq_append_getElem hi]
  simp [List.getD, hi]

theorem nrs_step {L : List Int} {i : Nat} (h : nrs (L.take i) = true) (hi : i < L.length) (h2 : nr (L.getD i 0) = true) : nrs (L.take (i + 1)) = true := by
  rw [take_get hi, nrs_append, h]
  show (true && (nr (L.getD i 0) && true)) = true
  rw [h2]; rfl

theorem nrs_not {L : List Int} {i : Nat} (hi : i < L.length) (h2 : nr (L.getD i 0) = false) : nrs L = false := by
  cases h : nrs L with
  | false => rfl
  | true => rw [nrs_get h i hi] at h2; cases h2

/-- The bits of near numbers by a k that is held. -/
def sN : List Int → Nat → Nat
  | [], _ => 0
  | n :: L, k => fd n / 2 ^ k + 1 + k + sN L k

theorem sN_nil (k : Nat) : sN [] k = 0 := rfl
theorem sN_append (A B : List Int) (k : Nat) : sN (A ++ B) k = sN A k + sN B k := by
  induction A with
  | nil => simp [sN]
  | cons n A ih => simp only [List.cons_append, sN, ih]; omega
theorem sN_one (n : Int) (k : Nat) : sN [n] k = fd n / 2 ^ k + 1 + k := rfl
theorem sN_step {L : List Int} {i : Nat} (hi : i < L.length) (k : Nat) : sN (L.take (i + 1)) k = sN (L.take i) k + (fd (L.getD i 0) / 2 ^ k + 1 + k) := by
  rw [take_get hi, sN_append, sN_one]
theorem sN_low (L : List Int) (k : Nat) : L.length * (k + 1) ≤ sN L k := by
  induction L with
  | nil => simp [sN]
  | cons n L ih =>
    simp only [List.length_cons, sN, Nat.succ_mul]
    have := Nat.zero_le (fd n / 2 ^ k)
    generalize fd n / 2 ^ k = x at *
    generalize L.length * (k + 1) = y at *
    omega
theorem sN_take_le (L : List Int) (i k : Nat) : sN (L.take i) k ≤ sN L k := by
  have h : sN L k = sN (L.take i) k + sN (L.drop i) k := by rw [← sN_append, List.take_append_drop]
  omega
theorem sN_high {L : List Int} (h : nrs L = true) (k : Nat) : sN L k ≤ L.length * (17179869184 + k) := by
  induction L with
  | nil => simp [sN]
  | cons n L ih =>
    have h1 := high_lt (nrs_mem h (n := n) (by simp)) k
    have h2 := ih (by simp [nrs] at h ⊢; exact h.2)
    simp only [List.length_cons, sN, Nat.add_mul]
    omega

theorem sN_big {L : List Int} (h : nrs L = true) (hl : L.length ≤ 1048576) (k : Nat) (hk : k ≤ 30) : sN L k ≤ 18014430000000000 := by
  have h1 := sN_high h k
  have h2 : L.length * (17179869184 + k) ≤ 1048576 * (17179869184 + 30) := Nat.mul_le_mul hl (by omega)
  omega

/-- Its bits by any k; -1 if one isn't near. -/
def cbits (L : List Int) (k : Int) : Int := if nrs L = true then (sN L (kk k) : Int) else -1

/-- How many bits a number has. -/
def blen (x : Nat) : Nat := if x = 0 then 0 else x.log2 + 1

theorem blen_lt (x : Nat) : x < 2 ^ blen x := by
  unfold blen
  split
  · next h => subst h; decide
  · exact Nat.lt_log2_self
theorem blen_le {x w : Nat} (h : x < 2 ^ w) : blen x ≤ w := by
  unfold blen
  split
  · omega
  · next h0 => have := (Nat.log2_lt h0).2 h; omega
theorem blen_iff (x w : Nat) : x < 2 ^ w ↔ blen x ≤ w :=
  ⟨blen_le, fun h => Nat.lt_of_lt_of_le (blen_lt x) (Nat.pow_le_pow_right (by decide) h)⟩

/-- The width. -/
def cw : List Int → Nat
  | [] => 0
  | n :: L => max (blen (fd n)) (cw L)

theorem cw_append (A B : List Int) : cw (A ++ B) = max (cw A) (cw B) := by
  induction A with
  | nil => simp [cw]
  | cons n A ih => simp only [List.cons_append, cw, ih]; omega
theorem cw_step {L : List Int} {i : Nat} (hi : i < L.length) : cw (L.take (i + 1)) = max (cw (L.take i)) (blen (fd (L.getD i 0))) := by
  rw [take_get hi, cw_append]
  simp [cw]
theorem cw_near {L : List Int} (h : nrs L = true) : cw L ≤ 34 := by
  induction L with
  | nil => simp [cw]
  | cons n L ih =>
    have h1 : blen (fd n) ≤ 34 := blen_le (by have := fd_near (nrs_mem h (n := n) (by simp)); omega)
    have h2 := ih (by simp [nrs] at h ⊢; exact h.2)
    simp only [cw]
    omega
theorem cw_get {L : List Int} {i : Nat} (hi : i < L.length) : blen (fd (L.getD i 0)) ≤ cw L := by
  have h : L = L.take (i + 1) ++ L.drop (i + 1) := (List.take_append_drop _ _).symm
  rw [h, cw_append, ← h, cw_step hi]
  omega

/-- Does a number fit a width? -/
def fits (n : Int) (w : Nat) : Bool := decide (blen (fd n) ≤ w)

theorem fits_in (n : Int) (w : Nat) (hw : w ≤ 62) : (inD n (w : Int) = true ∨ n = 0) ↔ blen (fd n) ≤ w := by
  rw [← blen_iff]
  by_cases h0 : w = 0
  · subst h0
    have e : inD n ((0 : Nat) : Int) = false := by unfold inD; rfl
    rw [e]
    unfold fd
    constructor
    · rintro (h | rfl)
      · cases h
      · decide
    · intro h
      right
      split at h <;> omega
  · obtain ⟨v, rfl⟩ : ∃ v, w = v + 1 := ⟨w - 1, by omega⟩
    have e : (((v + 1 : Nat) : Int)).toNat - 1 = v := by omega
    have hp : (0 : Int) < 2 ^ v := Int.pow_pos (by decide)
    unfold inD
    simp only [Bool.and_eq_true, decide_eq_true_eq, e]
    have hn : ((2 ^ v : Nat) : Int) = (2 : Int) ^ v := by simp
    rw [← hn] at hp ⊢
    rw [Nat.pow_succ]
    generalize 2 ^ v = x at *
    unfold fd
    split <;> omega

def cwid (L : List Int) : Int := if nrs L = true then (cw L : Int) else -1

/-- Its bits by any way. -/
def ceach (L : List Int) (k : Int) (raw : Bool) : Int :=
  if raw = true then (if nrs L = true ∧ (cw L : Int) ≤ k ∧ k ≤ 31 then 5 + k * (L.length : Int) else -1) else cbits L k

/-- The first k up to m by which there are fewest bits. -/
def bk (L : List Int) : Nat → Nat
  | 0 => 0
  | m + 1 => if sN L (m + 1) < sN L (bk L m) then m + 1 else bk L m

theorem bk_le (L : List Int) (m : Nat) : bk L m ≤ m := by
  induction m with
  | zero => simp [bk]
  | succ m ih => simp only [bk]; split <;> omega

theorem bk_least (L : List Int) (m : Nat) : ∀ j, j ≤ m → sN L (bk L m) ≤ sN L j := by
  induction m with
  | zero =>
    intro j hj
    rw [Nat.le_zero.1 hj]
    exact Nat.le_refl _
  | succ m ih =>
    intro j hj
    simp only [bk]
    by_cases h : j ≤ m
    · have := ih j h
      split <;> omega
    · obtain rfl : j = m + 1 := by omega
      split <;> omega

theorem bk_first (L : List Int) (m : Nat) : ∀ j, j < bk L m → sN L (bk L m) < sN L j := by
  induction m with
  | zero => intro j hj; simp [bk] at hj
  | succ m ih =>
    intro j hj
    simp only [bk] at hj ⊢
    split at hj
    · next h =>
      rw [if_pos h]
      have := bk_least L m j (by omega)
      omega
    · next h =>
      rw [if_neg h]
      exact ih j hj

/-- What is lost from a k to the next never grows. -/
theorem sN_conv (L : List Int) (k : Nat) : 2 * sN L (k + 1) ≤ sN L k + sN L (k + 2) := by
  induction L with
  | nil => simp [sN]
  | cons n L ih =>
    have h1 : fd n / 2 ^ (k + 1) = fd n / 2 ^ k / 2 := by rw [Nat.pow_succ, Nat.div_div_eq_div_mul]
    have h2 : fd n / 2 ^ (k + 2) = fd n / 2 ^ k / 4 := by rw [Nat.pow_add, Nat.div_div_eq_div_mul]
    simp only [sN, h1, h2]
    generalize fd n / 2 ^ k = x
    omega

theorem sN_up {L : List Int} {k : Nat} (h : sN L k ≤ sN L (k + 1)) : ∀ j, sN L (k + j) ≤ sN L (k + j + 1) := by
  intro j
  induction j with
  | zero => exact h
  | succ j ih =>
    have := sN_conv L (k + j)
    have e : k + (j + 1) = k + j + 1 := by omega
    have e2 : k + j + 2 = k + j + 1 + 1 := by omega
    rw [e]
    rw [e2] at this
    omega

theorem bk_stop {L : List Int} {b : Nat} (hb : bk L b = b) (h : sN L b ≤ sN L (b + 1)) : ∀ j, bk L (b + j) = b := by
  have hup : ∀ j, sN L b ≤ sN L (b + j) := by
    intro j
    induction j with
    | zero => exact Nat.le_refl _
    | succ j ih => exact Nat.le_trans ih (sN_up h j)
  intro j
  induction j with
  | zero => exact hb
  | succ j ih =>
    show bk L (b + j + 1) = b
    have := hup (j + 1)
    rw [bk, ih, if_neg (by rw [Nat.add_assoc]; omega)]

theorem bk_at {L : List Int} {b m : Nat} (hb : bk L b = b) (h : sN L b ≤ sN L (b + 1)) (hm : b ≤ m) : bk L m = b := by
  have := bk_stop hb h (m - b)
  rwa [show b + (m - b) = m by omega] at this

/-- The best way: is it Raw; its k, or width; how many bits. -/
def cbR (L : List Int) (m : Nat) : Bool := decide (cw L ≤ 31) && decide (5 + L.length * cw L < sN L (bk L m))
def cbK (L : List Int) (m : Nat) : Nat := if cbR L m = true then cw L else bk L m
def cbN (L : List Int) (m : Nat) : Nat := if cbR L m = true then 5 + L.length * cw L else sN L (bk L m)

/-- The answer of Best: k, raw, bits, what is wrong. -/
def bestK (L : List Int) (m : Nat) : Int := if nrs L = true then (cbK L m : Int) else 0
def bestR (L : List Int) (m : Nat) : Bool := if nrs L = true then cbR L m else false
def bestN (L : List Int) (m : Nat) : Int := if nrs L = true then (cbN L m : Int) else 0
def bestE (L : List Int) : Int := if nrs L = true then 0 else 6

theorem best_near {L : List Int} (h : nrs L = true) (m : Nat) : bestK L m = (cbK L m : Int) ∧ bestR L m = cbR L m ∧ bestN L m = (cbN L m : Int) ∧ bestE L = 0 := by
  simp [bestK, bestR, bestN, bestE, h]

theorem best_far {L : List Int} (h : nrs L = false) (m : Nat) : bestK L m = 0 ∧ bestR L m = false ∧ bestN L m = 0 ∧ bestE L = 6 := by
  simp [bestK, bestR, bestN, bestE, h]

theorem cbN_least (L : List Int) (m j : Nat) (hj : j ≤ m) : cbN L m ≤ sN L j := by
  have h := bk_least L m j hj
  unfold cbN
  by_cases hr : cbR L m = true
  · rw [if_pos hr]
    simp only [cbR, Bool.and_eq_true, decide_eq_true_eq] at hr
    omega
  · rw [if_neg hr]; exact h

theorem cbN_raw (L : List Int) (m : Nat) (h : cw L ≤ 31) : cbN L m ≤ 5 + L.length * cw L := by
  unfold cbN
  by_cases hr : cbR L m = true
  · rw [if_pos hr]; exact Nat.le_refl _
  · rw [if_neg hr]
    simp only [cbR, decide_eq_true h, Bool.true_and, decide_eq_true_eq] at hr
    omega

end Go.Proofs.Ytlbnjclchmnomaa
