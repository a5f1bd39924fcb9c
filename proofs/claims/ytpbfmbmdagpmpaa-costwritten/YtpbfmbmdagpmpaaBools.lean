/- Lists of bits and the numbers that they tell. No program. -/
import Derived.Test.YtpbfmbmdagpmpaaMath
namespace Go.Proofs.Ytpbfmbmdagpmpaa
open Bx

def wid (n : Int) : Nat := (max 0 (min n 64)).toNat

theorem wid_le (n : Int) : wid n ≤ 64 := by unfold wid; omega

/-- What bits tell. -/
def num (l : List Bool) : Nat := l.foldl (fun n b => 2 * n + b.toNat) 0

theorem num_nil : num [] = 0 := rfl

theorem num_snoc (l : List Bool) (b : Bool) : num (l ++ [b]) = 2 * num l + b.toNat := by simp [num, List.foldl_append]

theorem num_append (l : List Bool) : ∀ m, num (l ++ m) = num l * 2 ^ m.length + num m := by
  suffices h : ∀ (n : Nat) (m : List Bool), m.length = n → num (l ++ m) = num l * 2 ^ n + num m from fun m => h m.length m rfl
  intro n
  induction n with
  | zero => intro m hm; have : m = [] := List.eq_nil_of_length_eq_zero hm; subst this; simp [num]
  | succ n ih =>
    intro m hm
    obtain ⟨i, x, rfl⟩ := snoc_of_pos m (by omega)
    have := ih i (by simpa using hm)
    rw [← List.append_assoc, num_snoc, num_snoc, this, Nat.pow_succ, Nat.mul_add, Nat.add_assoc]
    congr 1
    rw [← Nat.mul_assoc, Nat.mul_comm 2 (num l), Nat.mul_assoc, Nat.mul_comm 2]

theorem num_lt : ∀ (n : Nat) (l : List Bool), l.length = n → num l < 2 ^ n := by
  intro n
  induction n with
  | zero => intro l hl; have : l = [] := List.eq_nil_of_length_eq_zero hl; subst this; simp [num]
  | succ n ih =>
    intro l hl
    obtain ⟨i, x, rfl⟩ := snoc_of_pos l (by omega)
    have := ih i (by simpa using hl)
    rw [num_snoc, Nat.pow_succ]
    cases x <;> simp <;> omega

theorem num_zeros (k : Nat) : num (List.replicate k false) = 0 := by
  induction k with
  | zero => rfl
  | succ k ih => rw [List.replicate_succ', num_snoc, ih]; rfl

/-- The k lowest bits of a number. -/
def dg : Nat → Nat → List Bool
  | 0, _ => []
  | k + 1, n => dg k (n / 2) ++ [n % 2 == 1]

theorem dg_length (k : Nat) : ∀ n, (dg k n).length = k := by
  induction k with
  | zero => intro n; rfl
  | succ k ih => intro n; simp [dg, ih]

theorem num_dg (k : Nat) : ∀ n, num (dg k n) = n % 2 ^ k := by
  induction k with
  | zero => intro n; simp [dg, num, Nat.mod_one]
  | succ k ih =>
    intro n
    rw [dg, num_snoc, ih, Nat.pow_succ, Nat.mul_comm (2 ^ k) 2, Nat.mod_mul]
    have : (n % 2 == 1).toNat = n % 2 := by rcases Nat.mod_two_eq_zero_or_one n with h | h <;> simp [h]
    omega

theorem dg_head (m : Nat) : ∀ n, dg (m + 1) n = (n / 2 ^ m % 2 == 1) :: dg m n := by
  induction m with
  | zero => intro n; simp [dg]
  | succ m ih =>
    intro n
    have e : n / 2 / 2 ^ m = n / 2 ^ (m + 1) := by rw [Nat.div_div_eq_div_mul, Nat.pow_succ, Nat.mul_comm]
    rw [dg, ih, e, List.cons_append]
    rfl

/-- A part of a list of bits is a part of its number. -/
theorem num_part (L : List Bool) (a k : Nat) (h : a + k ≤ L.length) : num ((L.drop a).take k) = num L / 2 ^ (L.length - (a + k)) % 2 ^ k := by
  have e : L = (L.take a ++ (L.drop a).take k) ++ L.drop (a + k) := by
    rw [← List.take_add, List.take_append_drop]
  have hk : ((L.drop a).take k).length = k := by simp; omega
  have hd : (L.drop (a + k)).length = L.length - (a + k) := by simp
  have h1 := num_append (L.take a ++ (L.drop a).take k) (L.drop (a + k))
  rw [← e, hd] at h1
  have hlt := num_lt _ _ hd
  rw [h1, Nat.mul_comm, Nat.mul_add_div (Nat.two_pow_pos _), Nat.div_eq_of_lt hlt, Nat.add_zero, num_append, hk, Nat.mul_comm, Nat.mul_add_mod, Nat.mod_eq_of_lt (num_lt _ _ hk)]

/-- The bits of bytes. -/
def bitsOf (B : List Nat) : List Bool := B.flatMap (dg 8)

theorem bitsOf_snoc (B : List Nat) (b : Nat) : bitsOf (B ++ [b]) = bitsOf B ++ dg 8 b := by simp [bitsOf]

theorem bitsOf_length : ∀ (n : Nat) (B : List Nat), B.length = n → (bitsOf B).length = 8 * n := by
  intro n
  induction n with
  | zero => intro B h; have : B = [] := List.eq_nil_of_length_eq_zero h; subst this; rfl
  | succ n ih =>
    intro B h
    obtain ⟨i, x, rfl⟩ := snoc_of_pos B (by omega)
    rw [bitsOf_snoc, List.length_append, ih i (by simpa using h), dg_length]; omega

theorem num_bitsOf : ∀ (n : Nat) (B : List Nat), B.length = n → (∀ b ∈ B, b < 256) → num (bitsOf B) = be B := by
  intro n
  induction n with
  | zero => intro B h _; have : B = [] := List.eq_nil_of_length_eq_zero h; subst this; rfl
  | succ n ih =>
    intro B h hB
    obtain ⟨i, x, rfl⟩ := snoc_of_pos B (by omega)
    have hx := hB x (by simp)
    rw [bitsOf_snoc, num_append, dg_length, num_dg, be_snoc, ih i (by simpa using h) (fun b hb => hB b (by simp [hb])), Nat.mod_eq_of_lt (by omega)]

theorem getD_lt (B : List Nat) (i : Nat) (hB : ∀ b ∈ B, b < 256) : B.getD i 0 < 256 := by
  rw [List.getD_eq_getElem?_getD]
  cases h : B[i]? with
  | none => simp
  | some b => exact hB b (List.mem_of_getElem? h)

end Go.Proofs.Ytpbfmbmdagpmpaa
