/- Plain facts on bytes and numbers: a row of bytes as one number, the highest byte first; parts of a number by powers of two. No Go text, no program. -/
namespace Go.Proofs.Ytliggpidkdiinaa
namespace Bx

/-- A row of bytes as one number. -/
def be (l : List Nat) : Nat := l.foldl (fun a b => a * 256 + b) 0

theorem be_nil : be [] = 0 := rfl
theorem be_snoc (l : List Nat) (b : Nat) : be (l ++ [b]) = be l * 256 + b := by simp [be, List.foldl_append]

theorem snoc_cases {α : Type} (l : List α) : l = [] ∨ ∃ i x, l = i ++ [x] := by
  cases h : l.reverse with
  | nil => exact .inl (by simpa using h)
  | cons x i => exact .inr ⟨i.reverse, x, by rw [← List.reverse_reverse l, h]; simp⟩

theorem snoc_of_pos {α : Type} (l : List α) (h : 0 < l.length) : ∃ i x, l = i ++ [x] := by
  rcases snoc_cases l with rfl | h'
  · simp at h
  · exact h'

theorem be_lt : ∀ (n : Nat) (l : List Nat), l.length = n → (∀ b ∈ l, b < 256) → be l < 2 ^ (8 * n) := by
  intro n
  induction n with
  | zero => intro l hl _; have : l = [] := List.eq_nil_of_length_eq_zero hl; subst this; simp [be]
  | succ n ih =>
    intro l hl hb
    obtain ⟨i, x, rfl⟩ := snoc_of_pos l (by omega)
    have h1 := ih i (by simpa using hl) (fun b h => hb b (by simp [h]))
    have h2 := hb x (by simp)
    rw [be_snoc, show 8 * (n + 1) = 8 * n + 8 by omega, Nat.pow_add]
    omega

theorem be_inj : ∀ (n : Nat) (l m : List Nat), l.length = n → m.length = n → (∀ b ∈ l, b < 256) → (∀ b ∈ m, b < 256) → be l = be m → l = m := by
  intro n
  induction n with
  | zero => intro l m hl hm _ _ _; rw [List.eq_nil_of_length_eq_zero hl, List.eq_nil_of_length_eq_zero hm]
  | succ n ih =>
    intro l m hl hm hb hc he
    obtain ⟨i, x, rfl⟩ := snoc_of_pos l (by omega)
    obtain ⟨j, y, rfl⟩ := snoc_of_pos m (by omega)
    have hx := hb x (by simp)
    have hy := hc y (by simp)
    rw [be_snoc, be_snoc] at he
    have h1 : be i = be j := by omega
    have h2 : x = y := by omega
    rw [ih i j (by simpa using hl) (by simpa using hm) (fun b h => hb b (by simp [h])) (fun b h => hc b (by simp [h])) h1, h2]

/-- Byte number i of a row, out of its number. -/
theorem be_get : ∀ (n : Nat) (l : List Nat) (i : Nat), l.length = n → (∀ b ∈ l, b < 256) → i < n → l.getD i 0 = be l / 2 ^ (8 * (n - 1 - i)) % 256 := by
  intro n
  induction n with
  | zero => intro l i _ _ h; omega
  | succ n ih =>
    intro l i hl hb hi
    obtain ⟨j, x, rfl⟩ := snoc_of_pos l (by omega)
    have hj : j.length = n := by simpa using hl
    have hx := hb x (by simp)
    rw [be_snoc]
    by_cases hin : i < n
    · have h1 := ih j i hj (fun b h => hb b (by simp [h])) hin
      have e1 : (j ++ [x]).getD i 0 = j.getD i 0 := by simp [List.getD, List.getElem?_append_left (show i < j.length by omega)]
      rw [e1, h1, show 8 * (n + 1 - 1 - i) = 8 + 8 * (n - 1 - i) by omega, Nat.pow_add, ← Nat.div_div_eq_div_mul]
      congr 2
      omega
    · have hie : i = n := by omega
      subst hie
      have e1 : (j ++ [x]).getD i 0 = x := by simp [List.getD, ← hj]
      rw [e1]
      simp
      omega

/-- A part of a byte is a part of the number. -/
theorem part_of_byte (X a s : Nat) (h : a + s ≤ 8) : X % 256 / 2 ^ a % 2 ^ s = X / 2 ^ a % 2 ^ s := by
  have e : (256 : Nat) = 2 ^ a * 2 ^ (8 - a) := by rw [← Nat.pow_add, show a + (8 - a) = 8 by omega]
  rw [e, Nat.mod_mul_right_div_self, Nat.mod_mod_of_dvd _ (Nat.pow_dvd_pow 2 (by omega))]

/-- Two neighbouring parts of a number are one. -/
theorem parts_join (X k s : Nat) : X / 2 ^ s % 2 ^ k * 2 ^ s + X % 2 ^ s = X % 2 ^ (k + s) := by
  rw [show k + s = s + k by omega, Nat.pow_add, Nat.mod_mul, Nat.mul_comm, Nat.add_comm]

theorem or_add (x y r : Nat) (hx : x % 2 ^ r = 0) (hy : y < 2 ^ r) : x ||| y = x + y := by
  have e : x = 2 ^ r * (x / 2 ^ r) := by have := Nat.div_add_mod x (2 ^ r); omega
  rw [e]
  exact (Nat.two_pow_add_eq_or_of_lt hy (x / 2 ^ r)).symm

/-- The state of a writer's bytes: c bits, that are the number N, and r bits 0 behind them. -/
def Pk (B : List Nat) (N c r : Nat) : Prop := (∀ b ∈ B, b < 256) ∧ 8 * B.length = c + r ∧ be B = N * 2 ^ r ∧ N < 2 ^ c

theorem pk_nil : Pk [] 0 0 0 := ⟨by simp, rfl, rfl, by decide⟩

theorem pk_room {B : List Nat} {N c : Nat} (h : Pk B N c 0) : Pk (B ++ [0]) N c 8 := by
  obtain ⟨h1, h2, h3, h4⟩ := h
  refine ⟨?_, by simp; omega, by rw [be_snoc, h3]; simp, h4⟩
  intro b hb
  rcases List.mem_append.1 hb with hb | hb
  · exact h1 b hb
  · simp at hb; omega

/-- The last byte, with s bits more in it. -/
theorem pk_step {i : List Nat} {x N c r s y : Nat} (h : Pk (i ++ [x]) N c r) (hr : r ≤ 8) (hs : s ≤ r) (hy : y < 2 ^ s) :
    x % 2 ^ r = 0 ∧ y * 2 ^ (r - s) < 2 ^ r ∧ Pk (i ++ [x + y * 2 ^ (r - s)]) (N * 2 ^ s + y) (c + s) (r - s) := by
  obtain ⟨h1, h2, h3, h4⟩ := h
  have hx := h1 x (by simp)
  have e8 : (256 : Nat) = 2 ^ r * 2 ^ (8 - r) := by rw [← Nat.pow_add, show r + (8 - r) = 8 by omega]
  have er : (2 : Nat) ^ r = 2 ^ s * 2 ^ (r - s) := by rw [← Nat.pow_add, show s + (r - s) = r by omega]
  have hx0 : x % 2 ^ r = 0 := by
    have h5 : (be i * 256 + x) % 2 ^ r = 0 := by rw [← be_snoc, h3]; exact Nat.mul_mod_left _ _
    rw [e8, show be i * (2 ^ r * 2 ^ (8 - r)) = 2 ^ r * (be i * 2 ^ (8 - r)) by rw [Nat.mul_left_comm], Nat.mul_add_mod] at h5
    exact h5
  have hlt : y * 2 ^ (r - s) < 2 ^ r := by rw [er]; exact Nat.mul_lt_mul_of_pos_right hy (Nat.two_pow_pos _)
  refine ⟨hx0, hlt, ?_, ?_, ?_, ?_⟩
  · intro b hb
    rcases List.mem_append.1 hb with hb | hb
    · exact h1 b (by simp [hb])
    · have hb' : b = x + y * 2 ^ (r - s) := by simpa using hb
      rw [hb', e8]
      obtain ⟨q, hq⟩ : ∃ q, x = 2 ^ r * q := ⟨x / 2 ^ r, by have := Nat.div_add_mod x (2 ^ r); omega⟩
      have hq1 : q < 2 ^ (8 - r) := by
        rw [hq, e8] at hx
        exact Nat.lt_of_mul_lt_mul_left hx
      calc x + y * 2 ^ (r - s) < 2 ^ r * q + 2 ^ r := by omega
        _ = 2 ^ r * (q + 1) := by rw [Nat.mul_add, Nat.mul_one]
        _ ≤ 2 ^ r * 2 ^ (8 - r) := Nat.mul_le_mul_left _ hq1
  · simp at h2 ⊢; omega
  · rw [be_snoc] at h3 ⊢
    rw [← Nat.add_assoc, h3, er, Nat.add_mul, Nat.mul_assoc]
  · rw [Nat.pow_add]
    calc N * 2 ^ s + y < N * 2 ^ s + 2 ^ s := by omega
      _ = (N + 1) * 2 ^ s := by rw [Nat.add_mul, Nat.one_mul]
      _ ≤ 2 ^ c * 2 ^ s := Nat.mul_le_mul_right _ h4

/-- What the loop of a put has laid so far, a piece more. -/
theorem put_more (N n j l s : Nat) (hs : s ≤ l) : (N * 2 ^ j + n / 2 ^ l % 2 ^ j) * 2 ^ s + n / 2 ^ (l - s) % 2 ^ s = N * 2 ^ (j + s) + n / 2 ^ (l - s) % 2 ^ (j + s) := by
  have e : n / 2 ^ l = n / 2 ^ (l - s) / 2 ^ s := by rw [Nat.div_div_eq_div_mul, ← Nat.pow_add, show l - s + s = l by omega]
  rw [e, Nat.add_mul, Nat.mul_assoc, ← Nat.pow_add, Nat.add_assoc, parts_join]

/-- What a reader's loop has taken so far, a piece more. T: all bits as a number; M: how many; a: from where; t: taken so far. -/
theorem take_more (T m j s : Nat) (hs : s ≤ m) : T / 2 ^ m % 2 ^ j * 2 ^ s + T / 2 ^ (m - s) % 2 ^ s = T / 2 ^ (m - s) % 2 ^ (j + s) := by
  have e : T / 2 ^ m = T / 2 ^ (m - s) / 2 ^ s := by rw [Nat.div_div_eq_div_mul, ← Nat.pow_add, show m - s + s = m by omega]
  rw [e, parts_join]

end Bx
end Go.Proofs.Ytliggpidkdiinaa
