/- Bits that are turned over, as bytes and as bits; what that does to a check. No program. -/
import Derived.Test.YtiibnmejoccfkaaCrcSums
namespace Go.Proofs.Ytiibnmejoccfkaa
open Bx Crc

theorem dg_flip : ∀ m, m < 8 → ∀ y, y < 256 → dg 8 (y ^^^ 128 / 2 ^ m) = (dg 8 y).modify m (fun b => !b) := by decide +kernel

theorem mod_left (f : Bool → Bool) (B : List Bool) (A : List Bool) : ∀ m, m < A.length → (A ++ B).modify m f = A.modify m f ++ B := by
  induction A with
  | nil => intro m h; simp at h
  | cons a A ih =>
    intro m h
    cases m with
    | zero => simp
    | succ m => simp [ih m (by simpa using h)]

theorem mod_right (f : Bool → Bool) (B : List Bool) (A : List Bool) : ∀ m, A.length ≤ m → (A ++ B).modify m f = A ++ B.modify (m - A.length) f := by
  induction A with
  | nil => intro m _; simp
  | cons a A ih =>
    intro m h
    cases m with
    | zero => simp at h
    | succ m => simp [ih m (by simpa using h)]

/-- A byte's bit turned over. -/
def flip (Y : List Nat) (m : Nat) : List Nat := Y.set (m / 8) (Y.getD (m / 8) 0 ^^^ 128 / 2 ^ (m % 8))

theorem flip_length (Y : List Nat) (m : Nat) : (flip Y m).length = Y.length := by simp [flip]

theorem flip_lt (Y : List Nat) (m : Nat) (hY : ∀ b ∈ Y, b < 256) : ∀ b ∈ flip Y m, b < 256 := by
  intro b hb
  rcases List.mem_or_eq_of_mem_set hb with hb | rfl
  · exact hY b hb
  · refine xor_byte (getD_lt Y _ hY) ?_
    have := Nat.div_le_self 128 (2 ^ (m % 8))
    omega

theorem flip_bits (Y : List Nat) : ∀ m, (∀ b ∈ Y, b < 256) → m < 8 * Y.length → bitsOf (flip Y m) = (bitsOf Y).modify m (fun b => !b) := by
  induction Y with
  | nil => intro m _ h; simp at h
  | cons y Y ih =>
    intro m hY h
    have e : ∀ (x : Nat) (X : List Nat), bitsOf (x :: X) = dg 8 x ++ bitsOf X := fun x X => by simp [bitsOf]
    by_cases hm : m < 8
    · have h0 : m / 8 = 0 := by omega
      have h1 : m % 8 = m := by omega
      unfold flip
      rw [h0, h1, List.set_cons_zero, e, e, show (y :: Y).getD 0 0 = y by rfl, dg_flip m hm y (hY y (by simp)), mod_left _ _ _ _ (by rw [dg_length]; exact hm)]
    · have h0 : m / 8 = (m - 8) / 8 + 1 := by omega
      have h1 : m % 8 = (m - 8) % 8 := by omega
      have hi := ih (m - 8) (fun b hb => hY b (by simp [hb])) (by simp at h; omega)
      unfold flip at hi ⊢
      rw [h0, h1, List.set_cons_succ, e, e, show (y :: Y).getD ((m - 8) / 8 + 1) 0 = Y.getD ((m - 8) / 8) 0 by rfl, hi, mod_right _ _ _ _ (by rw [dg_length]; omega), dg_length]

theorem zip_modify (L : List Bool) : ∀ (M : List Bool) (m : Nat), List.zipWith (· ^^ ·) L (M.modify m (fun b => !b)) = (List.zipWith (· ^^ ·) L M).modify m (fun b => !b) := by
  induction L with
  | nil => intro M m; simp
  | cons a L ih =>
    intro M m
    cases M with
    | nil => simp
    | cons b M =>
      cases m with
      | zero => simp
      | succ m => simp [ih]

/-- The lowest bits of a number, the lowest one first. -/
def lo (n : Nat) : Nat → List Bool
  | 0 => []
  | i + 1 => lo n i ++ [n / 2 ^ i % 2 == 1]

theorem lo_length (n : Nat) : ∀ i, (lo n i).length = i := by
  intro i
  induction i with
  | zero => rfl
  | succ i ih => simp [lo, ih]

/-- They stand from bit k on, among bits 0. -/
def mask (k : Nat) (P : List Bool) (L : Nat) : List Bool := List.replicate k false ++ P ++ List.replicate (L - k - P.length) false

theorem mask_length (k : Nat) (P : List Bool) (L : Nat) (h : k + P.length ≤ L) : (mask k P L).length = L := by simp [mask]; omega

theorem mask_false (k : Nat) (P : List Bool) (L : Nat) (h : k + P.length < L) : mask k (P ++ [false]) L = mask k P L := by
  unfold mask
  rw [List.length_append, show L - k - P.length = (L - k - (P.length + [false].length)) + 1 by simp; omega, List.replicate_succ]
  simp

theorem mask_true (k : Nat) (P : List Bool) (L : Nat) (h : k + P.length < L) : mask k (P ++ [true]) L = (mask k P L).modify (k + P.length) (fun b => !b) := by
  unfold mask
  rw [List.length_append, show L - k - P.length = (L - k - (P.length + [true].length)) + 1 by simp; omega, List.replicate_succ, mod_right _ _ _ _ (by simp)]
  simp

/-- Bytes in which some bits from bit k on are turned over. -/
def Turned (B Y : List Nat) (k : Nat) (P : List Bool) : Prop := Y.length = B.length ∧ (∀ b ∈ Y, b < 256) ∧ bitsOf Y = List.zipWith (· ^^ ·) (bitsOf B) (mask k P (8 * B.length))

theorem turned_nil (B : List Nat) (k : Nat) (hB : ∀ b ∈ B, b < 256) (hk : k ≤ 8 * B.length) : Turned B B k [] := by
  refine ⟨rfl, hB, ?_⟩
  have h := zip_zeros (bitsOf B)
  rw [bitsOf_length _ B rfl] at h
  unfold mask
  rw [List.append_nil, List.replicate_append_replicate, show k + (8 * B.length - k - ([] : List Bool).length) = 8 * B.length by simp; omega, h]

theorem Turned.no {B Y : List Nat} {k : Nat} {P : List Bool} (h : Turned B Y k P) (hk : k + P.length < 8 * B.length) : Turned B Y k (P ++ [false]) :=
  ⟨h.1, h.2.1, by rw [mask_false _ _ _ hk]; exact h.2.2⟩

theorem Turned.yes {B Y : List Nat} {k : Nat} {P : List Bool} (h : Turned B Y k P) (hk : k + P.length < 8 * B.length) : Turned B (flip Y (k + P.length)) k (P ++ [true]) :=
  ⟨by rw [flip_length]; exact h.1, flip_lt Y _ h.2.1, by rw [mask_true _ _ _ hk, zip_modify, ← h.2.2, flip_bits Y _ h.2.1 (by rw [h.1]; exact hk)]⟩

theorem any_false (P : List Bool) : P.any id = false ↔ P = List.replicate P.length false := by
  induction P with
  | nil => simp
  | cons b P ih => cases b <;> simp [List.replicate_succ, ih]

/-- What differs within W bits in a row has another check. -/
theorem turned_crc {W g : Nat} (hW : 1 ≤ W) (hg : g % 2 = 1) (hgl : g < 2 ^ W) {B Y : List Nat} {k : Nat} {P : List Bool} (h : Turned B Y k P) (hk : k + P.length ≤ 8 * B.length) (hP : P.length ≤ W) :
    crc W g 0 (bitsOf Y) = crc W g 0 (bitsOf B) ↔ P.any id = false := by
  have h1 := crc_xor W g (bitsOf B) (mask k P (8 * B.length)) 0 0 (by rw [mask_length k P _ hk, bitsOf_length _ B rfl])
  rw [← h.2.2, Nat.xor_self] at h1
  have h2 : crc W g 0 (mask k P (8 * B.length)) = crc W g (crc W g 0 P) (List.replicate (8 * B.length - k - P.length) false) := by
    unfold mask
    rw [crc_append, crc_append, crc_zero]
  rw [h1, any_false]
  constructor
  · intro e
    have h3 : crc W g 0 (mask k P (8 * B.length)) = 0 := by
      have : (crc W g 0 (bitsOf B) ^^^ crc W g 0 (mask k P (8 * B.length))) ^^^ crc W g 0 (bitsOf B) = 0 := by rw [e, Nat.xor_self]
      rw [Nat.xor_comm, ← Nat.xor_assoc, Nat.xor_self, Nat.zero_xor] at this
      exact this
    rw [h2] at h3
    exact crc_burst hW hg hgl P hP (crc_zeros_inj hW hg hgl _ _ (crc_lt hgl P 0 (Nat.two_pow_pos W)) h3)
  · intro e
    rw [h2, e, crc_zero, crc_zero, Nat.xor_zero]

end Go.Proofs.Ytiibnmejoccfkaa
