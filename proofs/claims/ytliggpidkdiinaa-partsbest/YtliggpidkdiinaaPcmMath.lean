/- Sounds in numbers: depths, kinds, samples as bytes. No program. -/
import Derived.Test.YtliggpidkdiinaaMath
import Derived.RowKit
namespace Go.Proofs.Ytliggpidkdiinaa

/-- In a depth. -/
def inD (n d : Int) : Bool := decide (1 ≤ d) && decide (d ≤ 62) && decide (-(2 : Int) ^ (d.toNat - 1) ≤ n) && decide (n < (2 : Int) ^ (d.toNat - 1))

/-- What is wrong with the numbers of a sound. -/
def kindE (r d c : Int) : Int := if c < 1 ∨ 8 < c then 12 else if d < 4 ∨ 32 < d then 10 else if r < 1 ∨ 1048575 < r then 11 else 0

/-- A sample's bytes: how many. -/
def eachN (d : Int) : Nat := ((min (max d 4) 32 + 7) / 8).toNat

theorem eachN_lo (d : Int) : 1 ≤ eachN d := by unfold eachN; omega
theorem eachN_hi (d : Int) : eachN d ≤ 4 := by unfold eachN; omega
theorem eachN_val (d : Int) (h1 : 4 ≤ d) (h2 : d ≤ 32) : eachN d = ((d + 7) / 8).toNat := by unfold eachN; rw [Int.max_eq_left h1, Int.min_eq_left h2]

/-- How many samples the first channel has. -/
def manyN (L : List (List Int)) : Nat := (L.getD 0 []).length

theorem manyN_nil : manyN [] = 0 := rfl

def evenB (L : List (List Int)) : Bool := L.all (fun c => decide (c.length = manyN L))
def rangeB (L : List (List Int)) (d : Int) : Bool := L.all (fun c => c.all (fun n => inD n d))

/-- What is wrong with a sound. -/
def chkE (r d : Int) (L : List (List Int)) : Int :=
  if kindE r d (L.length : Int) = 0 then if evenB L = true then if rangeB L d = true then 0 else 6 else 13 else kindE r d (L.length : Int)

/-- A sample's bytes, the lowest first. -/
def sb (n : Int) : Nat → List Nat
  | 0 => []
  | e + 1 => (n % 256).toNat :: sb (n / 256) e

theorem sb_length (n : Int) (e : Nat) : (sb n e).length = e := by
  induction e generalizing n with
  | zero => rfl
  | succ e ih => simp [sb, ih]

theorem sb_lt (n : Int) (e : Nat) : ∀ b ∈ sb n e, b < 256 := by
  induction e generalizing n with
  | zero => simp [sb]
  | succ e ih =>
    intro b hb
    simp only [sb, List.mem_cons] at hb
    rcases hb with rfl | hb
    · omega
    · exact ih _ b hb

theorem sb_snoc (n : Int) (e : Nat) : sb n (e + 1) = sb n e ++ [(n / (256 : Int) ^ e % 256).toNat] := by
  induction e generalizing n with
  | zero => simp [sb]
  | succ e ih =>
    rw [sb, ih (n / 256)]
    simp only [sb, List.cons_append, List.cons.injEq, true_and, List.append_cancel_left_eq, and_true]
    rw [Int.ediv_ediv_of_nonneg (by omega), Int.pow_succ, Int.mul_comm ((256 : Int) ^ e)]

/-- The number of bytes, the lowest first. -/
def le : List Nat → Nat
  | [] => 0
  | b :: B => b + 256 * le B

theorem le_lt : ∀ (B : List Nat), (∀ b ∈ B, b < 256) → le B < 256 ^ B.length
  | [], _ => by simp [le]
  | b :: B, h => by
    have h1 := le_lt B (fun x hx => h x (List.mem_cons_of_mem _ hx))
    have h2 := h b (by simp)
    simp only [le, List.length_cons, Nat.pow_succ]
    omega

theorem le_append (A B : List Nat) : le (A ++ B) = le A + 256 ^ A.length * le B := by
  induction A with
  | nil => simp [le]
  | cons a A ih => simp only [List.cons_append, le, ih, List.length_cons, Nat.pow_succ]; rw [Nat.mul_add, Nat.add_assoc]; congr 2; rw [← Nat.mul_assoc, Nat.mul_comm 256]

theorem mod_mul (n P : Int) (hP : 0 < P) : n % (256 * P) = n % 256 + 256 * (n / 256 % P) := by
  have h1 := Int.mul_ediv_add_emod n 256
  have h2 := Int.mul_ediv_add_emod (n / 256) P
  have a1 := Int.emod_nonneg n (show (256 : Int) ≠ 0 by omega)
  have a2 := Int.emod_lt_of_pos n (show (0 : Int) < 256 by omega)
  have b1 := Int.emod_nonneg (n / 256) (show P ≠ 0 by omega)
  have b2 := Int.emod_lt_of_pos (n / 256) hP
  generalize n / 256 / P = q' at *
  generalize n / 256 % P = s at *
  have e : n = (n % 256 + 256 * s) + 256 * P * q' := by rw [Int.mul_assoc]; omega
  have e2 : n % (256 * P) = ((n % 256 + 256 * s) + 256 * P * q') % (256 * P) := by rw [← e]
  rw [e2, Int.add_mul_emod_self_left, Int.emod_eq_of_lt (by omega) (by omega)]

theorem le_sb (n : Int) (e : Nat) : (le (sb n e) : Int) = n % 256 ^ e := by
  induction e generalizing n with
  | zero => simp [sb, le, Int.emod_one]
  | succ e ih =>
    simp only [sb, le]
    have h1 := ih (n / 256)
    have h2 : 0 ≤ n % 256 := Int.emod_nonneg _ (by omega)
    rw [Int.natCast_add, Int.natCast_mul, h1, Int.toNat_of_nonneg h2]
    have h3 : (256 : Int) ^ (e + 1) = 256 * 256 ^ e := by rw [Int.pow_succ, Int.mul_comm]
    rw [h3]
    have hp : (0 : Int) < 256 ^ e := Int.pow_pos (by omega)
    rw [mod_mul n (256 ^ e) hp]
    rfl

theorem sb_le : ∀ (B : List Nat), (∀ b ∈ B, b < 256) → ∀ (z : Int), sb ((le B : Int) + z * 256 ^ B.length) B.length = B
  | [], _, _ => rfl
  | b :: B, h, z => by
    have h2 := h b (by simp)
    have h1 := sb_le B (fun x hx => h x (List.mem_cons_of_mem _ hx)) z
    simp only [le, List.length_cons, sb]
    have e1 : (((b + 256 * le B : Nat) : Int) + z * 256 ^ (B.length + 1)) = (b : Int) + 256 * ((le B : Int) + z * 256 ^ B.length) := by
      rw [Int.pow_succ, Int.natCast_add, Int.natCast_mul, Int.mul_add, ← Int.mul_assoc, Int.mul_comm 256 (z * _)]
      simp; omega
    rw [e1]
    have e2 : ((b : Int) + 256 * ((le B : Int) + z * 256 ^ B.length)) % 256 = b := by omega
    have e3 : ((b : Int) + 256 * ((le B : Int) + z * 256 ^ B.length)) / 256 = (le B : Int) + z * 256 ^ B.length := by omega
    rw [e2, e3, h1]
    simp

/-- The number that a sample's bytes tell. -/
def snum (B : List Nat) : Int := (le B : Int) - (if 128 ≤ B.getD (B.length - 1) 0 then (256 : Int) ^ B.length else 0)

theorem sb_snum (B : List Nat) (h : ∀ b ∈ B, b < 256) : sb (snum B) B.length = B := by
  unfold snum
  split
  · have := sb_le B h (-1)
    rwa [Int.neg_mul, Int.one_mul] at this
  · have := sb_le B h 0
    rwa [Int.zero_mul, Int.add_zero] at this

theorem snum_snoc (B : List Nat) (b : Nat) : snum (B ++ [b]) = (le B : Int) + (256 : Int) ^ B.length * ((b : Int) - (if 128 ≤ b then 256 else 0)) := by
  unfold snum
  have e : (B ++ [b]).getD ((B ++ [b]).length - 1) 0 = b := by simp
  rw [e, le_append]
  simp only [le, List.length_append, List.length_cons, List.length_nil, Nat.zero_add, Nat.mul_zero, Nat.add_zero, Int.natCast_add, Int.natCast_mul, Int.natCast_pow]
  split
  · rw [Int.pow_succ, Int.mul_sub]; simp; omega
  · simp

theorem top_of (n : Int) (e : Nat) (h1 : -((256 : Int) ^ e * 128) ≤ n) (h2 : n < (256 : Int) ^ e * 128) : snum (sb n (e + 1)) = n := by
  rw [sb_snoc, snum_snoc, sb_length, le_sb]
  have hp : (0 : Int) < 256 ^ e := Int.pow_pos (by omega)
  have hd := Int.mul_ediv_add_emod n (256 ^ e)
  have hm1 := Int.emod_nonneg n (show (256 : Int) ^ e ≠ 0 by omega)
  have hm2 := Int.emod_lt_of_pos n hp
  have hq1 : -128 ≤ n / 256 ^ e := by rw [Int.le_ediv_iff_mul_le hp]; rw [Int.neg_mul, Int.mul_comm]; exact h1
  have hq2 : n / 256 ^ e < 128 := by rw [Int.ediv_lt_iff_lt_mul hp]; rw [Int.mul_comm]; exact h2
  generalize n / 256 ^ e = q at *
  have hq : ((q % 256).toNat : Int) - (if 128 ≤ (q % 256).toNat then 256 else 0) = q := by
    split <;> omega
  rw [hq]
  omega

theorem pow_256 (e : Nat) : (256 : Int) ^ e = 2 ^ (8 * e) := by rw [Int.pow_mul]; rfl

theorem snum_sb (n d : Int) (h1 : 4 ≤ d) (h2 : d ≤ 32) (h : inD n d = true) : snum (sb n (eachN d)) = n := by
  simp only [inD, Bool.and_eq_true, decide_eq_true_eq] at h
  obtain ⟨⟨⟨_, _⟩, h3⟩, h4⟩ := h
  have he := eachN_lo d
  obtain ⟨e, he'⟩ : ∃ e, eachN d = e + 1 := ⟨eachN d - 1, by omega⟩
  rw [he']
  have hv := eachN_val d h1 h2
  have hle : d.toNat - 1 ≤ 8 * e + 7 := by omega
  have hp : (2 : Int) ^ (d.toNat - 1) ≤ 2 ^ (8 * e + 7) := by
    have := Nat.pow_le_pow_right (show 0 < 2 by omega) hle
    exact_mod_cast this
  have hq : (256 : Int) ^ e * 128 = 2 ^ (8 * e + 7) := by rw [pow_256, Int.pow_add]; rfl
  exact top_of n e (by rw [hq]; omega) (by rw [hq]; omega)

end Go.Proofs.Ytliggpidkdiinaa
