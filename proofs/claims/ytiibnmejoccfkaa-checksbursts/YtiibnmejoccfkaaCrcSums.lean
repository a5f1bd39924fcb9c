/- Checks of sums of bytes, of bytes behind zeros. No program. -/
import Derived.Test.YtiibnmejoccfkaaEight
namespace Go.Proofs.Ytiibnmejoccfkaa
open Bx Crc

theorem bitsOf_append (A B : List Nat) : bitsOf (A ++ B) = bitsOf A ++ bitsOf B := by simp [bitsOf]

theorem dg_xor (k : Nat) : ∀ a b, dg k (a ^^^ b) = List.zipWith (· ^^ ·) (dg k a) (dg k b) := by
  induction k with
  | zero => intro a b; rfl
  | succ k ih =>
    intro a b
    have e1 : (a ^^^ b) / 2 = a / 2 ^^^ b / 2 := by have := Nat.xor_div_two_pow (a := a) (b := b) (n := 1); simpa using this
    have e2 : (a ^^^ b) % 2 = a % 2 ^^^ b % 2 := by have := Nat.xor_mod_two_pow (a := a) (b := b) (n := 1); simpa using this
    rw [dg, dg, dg, List.zipWith_append (by rw [dg_length, dg_length]), e1, ih, e2]
    congr 1
    rcases Nat.mod_two_eq_zero_or_one a with h | h <;> rcases Nat.mod_two_eq_zero_or_one b with h' | h' <;> rw [h, h'] <;> rfl

theorem bitsOf_xor (A : List Nat) : ∀ B, A.length = B.length → bitsOf (List.zipWith (· ^^^ ·) A B) = List.zipWith (· ^^ ·) (bitsOf A) (bitsOf B) := by
  induction A with
  | nil => intro B h; simp [bitsOf]
  | cons a A ih =>
    intro B h
    cases B with
    | nil => simp at h
    | cons b B =>
      have e : ∀ (x : Nat) (X : List Nat), bitsOf (x :: X) = dg 8 x ++ bitsOf X := fun x X => by simp [bitsOf]
      rw [List.zipWith_cons_cons, e, e, e, List.zipWith_append (by rw [dg_length, dg_length]), dg_xor, ih B (by simpa using h)]

theorem crc_bytes_xor (W g : Nat) (A B : List Nat) (h : A.length = B.length) : crc W g 0 (bitsOf (List.zipWith (· ^^^ ·) A B)) = crc W g 0 (bitsOf A) ^^^ crc W g 0 (bitsOf B) := by
  rw [bitsOf_xor A B h]
  have := crc_xor W g (bitsOf A) (bitsOf B) 0 0 (by rw [bitsOf_length _ A rfl, bitsOf_length _ B rfl, h])
  simpa using this

theorem bitsOf_zeros (n : Nat) : bitsOf (List.replicate n 0) = List.replicate (8 * n) false := by
  induction n with
  | zero => rfl
  | succ n ih => rw [List.replicate_succ', bitsOf_snoc, ih, dg_zero, List.replicate_append_replicate, Nat.mul_succ]

theorem crc_behind_zeros (W g n : Nat) (A : List Nat) : crc W g 0 (bitsOf (List.replicate n 0 ++ A)) = crc W g 0 (bitsOf A) := by
  rw [bitsOf_append, crc_append, bitsOf_zeros, crc_zero]

theorem xor_byte {a b : Nat} (ha : a < 256) (hb : b < 256) : a ^^^ b < 256 := Nat.xor_lt_two_pow (n := 8) ha hb

theorem zip_lt (A : List Nat) : ∀ B, (∀ b ∈ A, b < 256) → (∀ b ∈ B, b < 256) → ∀ b ∈ List.zipWith (· ^^^ ·) A B, b < 256 := by
  induction A with
  | nil => intro B _ _ b hb; simp at hb
  | cons a A ih =>
    intro B hA hB b hb
    cases B with
    | nil => simp at hb
    | cons c B =>
      rw [List.zipWith_cons_cons, List.mem_cons] at hb
      rcases hb with rfl | hb
      · exact xor_byte (hA a (by simp)) (hB c (by simp))
      · exact ih B (fun b h => hA b (by simp [h])) (fun b h => hB b (by simp [h])) b hb

/-- The first i bytes are those of the sums, the others as they were. -/
def part (A X : List Nat) (i : Nat) : List Nat := X.take i ++ A.drop i

theorem part_length (A X : List Nat) (i : Nat) (h : X.length = A.length) (hi : i ≤ A.length) : (part A X i).length = A.length := by simp [part]; omega

theorem part_set (A X : List Nat) (i : Nat) (h : X.length = A.length) (hi : i < A.length) : (part A X i).set i (X.getD i 0) = part A X (i + 1) := by
  unfold part
  rw [List.set_append_right _ _ (by simp; omega)]
  have e : i - (X.take i).length = 0 := by simp; omega
  have e2 : X.getD i 0 = X[i]'(by omega) := by simp [List.getD, h, hi]
  rw [e, e2, List.drop_eq_getElem_cons hi, List.set_cons_zero, List.take_succ_eq_append_getElem (show i < X.length by omega), List.append_assoc]
  rfl

theorem part_get (A X : List Nat) (i : Nat) (h : X.length = A.length) (hi : i < A.length) : (part A X i).getD i 0 = A.getD i 0 := by
  unfold part
  have e : i - (X.take i).length = 0 := by simp; omega
  rw [List.getD_eq_getElem?_getD, List.getElem?_append_right (by simp; omega), e, List.drop_eq_getElem_cons hi]
  simp [List.getD, hi]

end Go.Proofs.Ytiibnmejoccfkaa
