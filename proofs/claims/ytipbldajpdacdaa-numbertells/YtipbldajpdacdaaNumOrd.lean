/- Numbers in the order of their bytes. Plain facts, no program. -/
import Derived.Test.YtipbldajpdacdaaNumMath
namespace Go.Proofs.Ytipbldajpdacdaa
namespace Nm

/-- Bytes stand before bytes. -/
def lx : List Nat → List Nat → Bool
  | _, [] => false
  | [], _ :: _ => true
  | a :: x, b :: y => decide (a < b) || (a == b && lx x y)

theorem conts_cons' (k m : Nat) : conts (k + 1) m = (128 + m / 64 ^ k % 64) :: conts k m := by
  induction k generalizing m with
  | zero => simp [conts]
  | succ k ih => rw [conts, ih, conts]; simp [Nat.pow_succ, Nat.div_div_eq_div_mul, Nat.mul_comm]

theorem two_digits (M q1 q2 r1 r2 : Nat) (h1 : r1 < M) (h2 : r2 < M) : (r1 + M * q1 < r2 + M * q2) ↔ (q1 < q2 ∨ q1 = q2 ∧ r1 < r2) := by
  rcases Nat.lt_trichotomy q1 q2 with h | h | h
  · have := Nat.mul_le_mul_left M (show q1 + 1 ≤ q2 by omega)
    rw [Nat.mul_add] at this
    constructor
    · intro _; exact .inl h
    · intro _; omega
  · subst h
    omega
  · have := Nat.mul_le_mul_left M (show q2 + 1 ≤ q1 by omega)
    rw [Nat.mul_add] at this
    constructor
    · intro _; omega
    · intro _; omega

theorem lx_conts (k n m : Nat) : lx (conts k n) (conts k m) = decide (n % 64 ^ k < m % 64 ^ k) := by
  induction k with
  | zero => simp [conts, lx, Nat.mod_one]
  | succ k ih =>
    rw [conts_cons', conts_cons', lx, ih, Nat.pow_succ, Nat.mod_mul, Nat.mod_mul]
    have h := two_digits (64 ^ k) (n / 64 ^ k % 64) (m / 64 ^ k % 64) (n % 64 ^ k) (m % 64 ^ k) (Nat.mod_lt _ (Nat.pow_pos (by decide))) (Nat.mod_lt _ (Nat.pow_pos (by decide)))
    rw [Bool.eq_iff_iff]
    simp only [Bool.or_eq_true, Bool.and_eq_true, decide_eq_true_eq, beq_iff_eq]
    rw [h]
    omega

theorem lx_encs (s n m : Nat) : lx (encs s n) (encs s m) = decide (n < m) := by
  simp only [encs, lx, lx_conts]
  have h := two_digits (64 ^ (s - 1)) (n / 64 ^ (s - 1)) (m / 64 ^ (s - 1)) (n % 64 ^ (s - 1)) (m % 64 ^ (s - 1)) (Nat.mod_lt _ (Nat.pow_pos (by decide))) (Nat.mod_lt _ (Nat.pow_pos (by decide)))
  rw [Nat.mod_add_div, Nat.mod_add_div] at h
  rw [Bool.eq_iff_iff]
  simp only [Bool.or_eq_true, Bool.and_eq_true, decide_eq_true_eq, beq_iff_eq]
  rw [h]
  omega

theorem ones_iff (b : Nat) : (1 ≤ ones b ↔ 128 ≤ b) ∧ (2 ≤ ones b ↔ 192 ≤ b) ∧ (3 ≤ ones b ↔ 224 ≤ b) ∧ (4 ≤ ones b ↔ 240 ≤ b) ∧ (5 ≤ ones b ↔ 248 ≤ b) ∧ (6 ≤ ones b ↔ 252 ≤ b) ∧ (7 ≤ ones b ↔ 254 ≤ b) ∧ (8 ≤ ones b ↔ 255 ≤ b) ∧ ones b ≤ 8 := by
  unfold ones
  repeat' split
  all_goals omega

theorem ones_mono {a b : Nat} (h : a ≤ b) : ones a ≤ ones b := by
  have h1 := ones_iff a
  have h2 := ones_iff b
  generalize ones a = x at *
  generalize ones b = y at *
  omega

theorem szn_mono {n m : Nat} (h : n ≤ m) (hm : m < 68719476736) : szn n ≤ szn m := by
  have h1 := szn_split n (by omega)
  have h2 := szn_split m hm
  omega

theorem first_lt {n m : Nat} (hn : n < 68719476736) (hm : m < 68719476736) (h : szn n < szn m) : lead (szn n) + n / 64 ^ (szn n - 1) < lead (szn m) + m / 64 ^ (szn m - 1) := by
  obtain ⟨h1, h2, _⟩ := first n hn _ rfl
  obtain ⟨h3, h4, _⟩ := first m hm _ rfl
  rcases Nat.lt_or_ge (lead (szn n) + n / 64 ^ (szn n - 1)) (lead (szn m) + m / 64 ^ (szn m - 1)) with h5 | h5
  · exact h5
  · have := ones_mono h5
    omega

/-- Greater numbers stand behind lesser ones. -/
theorem lx_enc (n m : Nat) (hn : n < 68719476736) (hm : m < 68719476736) : lx (enc n) (enc m) = decide (n < m) := by
  rcases Nat.lt_trichotomy (szn n) (szn m) with h | h | h
  · have h1 := first_lt hn hm h
    have h2 : n < m := by
      rcases Nat.lt_or_ge n m with h | h'
      · exact h
      · have := szn_mono h' hn; omega
    simp [enc, encs, lx, h1, h2]
  · simp only [enc, h, lx_encs]
  · have h1 := first_lt hm hn h
    have h2 : ¬ n < m := by
      intro h'
      have := szn_mono (Nat.le_of_lt h') hm; omega
    have h3 : ¬ (lead (szn n) + n / 64 ^ (szn n - 1) < lead (szn m) + m / 64 ^ (szn m - 1)) := by omega
    have h4 : ¬ (lead (szn n) + n / 64 ^ (szn n - 1) = lead (szn m) + m / 64 ^ (szn m - 1)) := by omega
    simp [enc, encs, lx, h2, h3, h4]

theorem enc_inj (n m : Nat) (hn : n < 68719476736) (hm : m < 68719476736) (h : enc n = enc m) : n = m := by
  have h1 := dec_enc n hn []
  have h2 := dec_enc m hm []
  rw [h, h2] at h1
  simp only [Prod.mk.injEq] at h1
  exact h1.1.symm

end Nm
end Go.Proofs.Ytipbldajpdacdaa
