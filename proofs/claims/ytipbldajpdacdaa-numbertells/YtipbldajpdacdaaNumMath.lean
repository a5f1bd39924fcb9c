/- Numbers as one to seven bytes: sizes, bytes, what bytes begin with. Plain facts, no Go text, no program. -/
namespace Go.Proofs.Ytipbldajpdacdaa
namespace Nm

/-- How many bits of a number a size has. -/
def rm (s : Nat) : Nat := if s = 1 then 7 else 5 * s + 1

/-- A number's size; 0, if it can't be. -/
def szn (n : Int) : Nat :=
  if n < 0 then 0 else if n < 128 then 1 else if n < 2048 then 2 else if n < 65536 then 3 else if n < 2097152 then 4 else if n < 67108864 then 5 else if n < 2147483648 then 6 else if n < 68719476736 then 7 else 0

/-- The first byte's beginning, by sizes. -/
def lead : Nat → Nat
  | 2 => 192
  | 3 => 224
  | 4 => 240
  | 5 => 248
  | 6 => 252
  | 7 => 254
  | _ => 0

/-- The bytes behind the first one: k of them. -/
def conts : Nat → Nat → List Nat
  | 0, _ => []
  | k + 1, n => conts k (n / 64) ++ [128 + n % 64]

/-- A number's bytes in this size; in its own. -/
def encs (s n : Nat) : List Nat := (lead s + n / 64 ^ (s - 1)) :: conts (s - 1) n
def enc (n : Nat) : List Nat := encs (szn n) n

/-- How many bits 1 a byte begins with. -/
def ones (b : Nat) : Nat := if b < 128 then 0 else if b < 192 then 1 else if b < 224 then 2 else if b < 240 then 3 else if b < 248 then 4 else if b < 252 then 5 else if b < 254 then 6 else if b < 255 then 7 else 8

/-- k bytes more: the number, and what is wrong. -/
def tl : Nat → Nat → List Nat → Nat × Nat
  | 0, n, _ => (n, 0)
  | _ + 1, _, [] => (0, 2)
  | k + 1, n, c :: r => if c / 64 = 2 then tl k (n * 64 + c % 64) r else (0, 5)

/-- The number that bytes begin with, its size, and what is wrong. -/
def fin (s : Nat) (x : Nat × Nat) : Nat × Nat × Nat := if x.2 ≠ 0 then (0, 0, x.2) else if szn x.1 = s then (x.1, s, 0) else (0, 0, 5)
def dec : List Nat → Nat × Nat × Nat
  | [] => (0, 0, 2)
  | b :: r => if ones b = 1 ∨ ones b = 8 then (0, 0, 5) else fin (max 1 (ones b)) (tl (max 1 (ones b) - 1) (b % 2 ^ (7 - ones b)) r)

theorem szn_le (n : Int) : szn n ≤ 7 := by unfold szn; repeat' split
                                           all_goals omega
theorem szn_zero (n : Int) : szn n = 0 ↔ n < 0 ∨ 68719476735 < n := by unfold szn; repeat' split
                                                                       all_goals omega
theorem szn_pos (n : Nat) (h : n < 68719476736) : 1 ≤ szn n := by
  have := szn_zero n
  omega

theorem conts_length : ∀ (k n : Nat), (conts k n).length = k := by
  intro k
  induction k with
  | zero => intro n; rfl
  | succ k ih => intro n; simp [conts, ih]

theorem enc_length (n : Nat) (h : n < 68719476736) : (enc n).length = szn n := by
  have := szn_pos n h
  simp [enc, encs, conts_length]
  omega

theorem szn_split (n : Nat) (h : n < 68719476736) : (n < 128 ∧ szn n = 1) ∨ (128 ≤ n ∧ n < 2048 ∧ szn n = 2) ∨ (2048 ≤ n ∧ n < 65536 ∧ szn n = 3) ∨ (65536 ≤ n ∧ n < 2097152 ∧ szn n = 4) ∨
    (2097152 ≤ n ∧ n < 67108864 ∧ szn n = 5) ∨ (67108864 ≤ n ∧ n < 2147483648 ∧ szn n = 6) ∨ (2147483648 ≤ n ∧ n < 68719476736 ∧ szn n = 7) := by
  unfold szn
  repeat' split
  all_goals omega

theorem encs1 (n : Nat) : encs 1 n = [n] := by simp [encs, conts, lead]
theorem encs2 (n : Nat) : encs 2 n = [192 + n / 64, 128 + n % 64] := by simp [encs, conts, lead]
theorem encs3 (n : Nat) : encs 3 n = [224 + n / 4096, 128 + n / 64 % 64, 128 + n % 64] := by simp [encs, conts, lead]
theorem encs4 (n : Nat) : encs 4 n = [240 + n / 262144, 128 + n / 4096 % 64, 128 + n / 64 % 64, 128 + n % 64] := by
  simp [encs, conts, lead, Nat.div_div_eq_div_mul]
theorem encs5 (n : Nat) : encs 5 n = [248 + n / 16777216, 128 + n / 262144 % 64, 128 + n / 4096 % 64, 128 + n / 64 % 64, 128 + n % 64] := by
  simp [encs, conts, lead, Nat.div_div_eq_div_mul]
theorem encs6 (n : Nat) : encs 6 n = [252 + n / 1073741824, 128 + n / 16777216 % 64, 128 + n / 262144 % 64, 128 + n / 4096 % 64, 128 + n / 64 % 64, 128 + n % 64] := by
  simp [encs, conts, lead, Nat.div_div_eq_div_mul]
theorem encs7 (n : Nat) : encs 7 n = [254 + n / 68719476736, 128 + n / 1073741824 % 64, 128 + n / 16777216 % 64, 128 + n / 262144 % 64, 128 + n / 4096 % 64, 128 + n / 64 % 64, 128 + n % 64] := by
  simp [encs, conts, lead, Nat.div_div_eq_div_mul]

theorem enc_lt (n : Nat) (h : n < 68719476736) : ∀ b ∈ enc n, b < 256 := by
  unfold enc
  rcases szn_split n h with ⟨h1, e⟩ | ⟨h0, h1, e⟩ | ⟨h0, h1, e⟩ | ⟨h0, h1, e⟩ | ⟨h0, h1, e⟩ | ⟨h0, h1, e⟩ | ⟨h0, h1, e⟩ <;> rw [e]
  · rw [encs1]; simp; omega
  · rw [encs2]; simp; omega
  · rw [encs3]; simp; omega
  · rw [encs4]; simp; omega
  · rw [encs5]; simp; omega
  · rw [encs6]; simp; omega
  · rw [encs7]; simp; omega

/-- The bytes behind the first one are read. -/
theorem tl_conts : ∀ (k a n : Nat) (r : List Nat), tl k a (conts k n ++ r) = (a * 64 ^ k + n % 64 ^ k, 0) := by
  intro k
  suffices H : ∀ (k a n j : Nat) (r : List Nat), tl (k + j) a (conts k n ++ r) = tl j (a * 64 ^ k + n % 64 ^ k) r by
    intro a n r
    have := H k a n 0 r
    simpa [tl] using this
  clear k
  intro k
  induction k with
  | zero => intro a n j r; simp [conts, Nat.mod_one]
  | succ k ih =>
    intro a n j r
    have h1 := ih a (n / 64) (j + 1) ((128 + n % 64) :: r)
    rw [show k + 1 + j = k + (j + 1) by omega]
    simp only [conts, List.append_assoc, List.singleton_append]
    rw [h1, tl, if_pos (by omega)]
    congr 1
    rw [Nat.pow_succ, Nat.mul_comm (64 ^ k) 64, Nat.mod_mul]
    have : (128 + n % 64) % 64 = n % 64 := by omega
    rw [this, Nat.add_mul, Nat.mul_assoc, Nat.mul_comm (64 ^ k) 64, Nat.mul_comm (n / 64 % 64 ^ k) 64]
    omega

/-- The first byte tells the size, and holds the number's highest bits. -/
theorem first (n : Nat) (h : n < 68719476736) (b : Nat) (hb : b = lead (szn n) + n / 64 ^ (szn n - 1)) :
    ¬ (ones b = 1 ∨ ones b = 8) ∧ max 1 (ones b) = szn n ∧ b % 2 ^ (7 - ones b) = n / 64 ^ (szn n - 1) := by
  have key : ∀ (o s : Nat), ones b = o → szn n = s → max 1 o = s → o ≠ 1 → o ≠ 8 → b % 2 ^ (7 - o) = n / 64 ^ (s - 1) → ¬ (ones b = 1 ∨ ones b = 8) ∧ max 1 (ones b) = szn n ∧ b % 2 ^ (7 - ones b) = n / 64 ^ (szn n - 1) := by
    rintro o s rfl hs h1 h2 h3 h4
    subst hs
    exact ⟨by omega, h1, h4⟩
  have on : ∀ (o lo hi : Nat), lo ≤ b → b < hi → (o = 0 ∧ hi = 128 ∨ o = 2 ∧ lo = 192 ∧ hi = 224 ∨ o = 3 ∧ lo = 224 ∧ hi = 240 ∨ o = 4 ∧ lo = 240 ∧ hi = 248 ∨ o = 5 ∧ lo = 248 ∧ hi = 252 ∨ o = 6 ∧ lo = 252 ∧ hi = 254 ∨ o = 7 ∧ lo = 254 ∧ hi = 255) → ones b = o := by
    intro o lo hi h1 h2 h3
    unfold ones
    repeat' split
    all_goals omega
  rcases szn_split n h with ⟨h1, e⟩ | ⟨h0, h1, e⟩ | ⟨h0, h1, e⟩ | ⟨h0, h1, e⟩ | ⟨h0, h1, e⟩ | ⟨h0, h1, e⟩ | ⟨h0, h1, e⟩ <;> rw [e] at hb <;> simp [lead] at hb
  · exact key 0 1 (on 0 0 128 (by omega) (by omega) (by omega)) e rfl (by decide) (by decide) (by simp; omega)
  · exact key 2 2 (on 2 192 224 (by omega) (by omega) (by omega)) e rfl (by decide) (by decide) (by simp; omega)
  · exact key 3 3 (on 3 224 240 (by omega) (by omega) (by omega)) e rfl (by decide) (by decide) (by simp; omega)
  · exact key 4 4 (on 4 240 248 (by omega) (by omega) (by omega)) e rfl (by decide) (by decide) (by simp; omega)
  · exact key 5 5 (on 5 248 252 (by omega) (by omega) (by omega)) e rfl (by decide) (by decide) (by simp; omega)
  · exact key 6 6 (on 6 252 254 (by omega) (by omega) (by omega)) e rfl (by decide) (by decide) (by simp; omega)
  · exact key 7 7 (on 7 254 255 (by omega) (by omega) (by omega)) e rfl (by decide) (by decide) (by simp; omega)

/-- What was written is read, whatever stands behind it. -/
theorem dec_enc (n : Nat) (h : n < 68719476736) (more : List Nat) : dec (enc n ++ more) = (n, szn n, 0) := by
  obtain ⟨h1, h2, h3⟩ := first n h _ rfl
  simp only [enc, encs, List.cons_append, dec]
  rw [if_neg h1, h2, h3, tl_conts]
  have e : n / 64 ^ (szn n - 1) * 64 ^ (szn n - 1) + n % 64 ^ (szn n - 1) = n := by rw [Nat.mul_comm]; exact Nat.div_add_mod _ _
  simp [fin, e]

/-- What is cut off isn't. -/
theorem tl_cut : ∀ (k j a n : Nat), j < k → tl k a ((conts k n).take j) = (0, 2) := by
  have gen : ∀ (l : List Nat) (k a : Nat), (∀ c ∈ l, c / 64 = 2) → l.length < k → tl k a l = (0, 2) := by
    intro l
    induction l with
    | nil => intro k a _ hk; cases k with
      | zero => simp at hk
      | succ k => rfl
    | cons c l ih => intro k a hc hk; cases k with
      | zero => simp at hk
      | succ k =>
        rw [tl, if_pos (hc c (by simp))]
        exact ih k _ (fun c h => hc c (by simp [h])) (by simpa using hk)
  have hm : ∀ (k n : Nat), ∀ c ∈ conts k n, c / 64 = 2 := by
    intro k
    induction k with
    | zero => intro n c h; simp [conts] at h
    | succ k ih => intro n c h; simp [conts] at h
                   rcases h with h | h
                   · exact ih _ c h
                   · omega
  intro k j a n hj
  exact gen _ _ _ (fun c hc => hm k n c (List.mem_of_mem_take hc)) (by simp [conts_length]; omega)

theorem dec_cut (n : Nat) (h : n < 68719476736) (c : Nat) (hc : c < (enc n).length) : dec ((enc n).take c) = (0, 0, 2) := by
  rw [enc_length n h] at hc
  cases c with
  | zero => rfl
  | succ c =>
    obtain ⟨h1, h2, h3⟩ := first n h _ rfl
    simp only [enc, encs, List.take_succ_cons, dec]
    rw [if_neg h1, h2, h3, tl_cut _ _ _ _ (by omega)]
    rfl

/-- What is read out of the bytes behind the first one is what stands there. -/
theorem tl_inv : ∀ (k a m : Nat) (r : List Nat), tl k a r = (m, 0) → k ≤ r.length ∧ m / 64 ^ k = a ∧ r.take k = conts k m := by
  intro k
  induction k with
  | zero => intro a m r h; simp [tl] at h; subst h; simp [conts]
  | succ k ih =>
    intro a m r h
    cases r with
    | nil => simp [tl] at h
    | cons c r =>
      rw [tl] at h
      split at h
      · rename_i hc
        obtain ⟨h1, h2, h3⟩ := ih _ _ _ h
        have e0 : m / 64 ^ (k + 1) = a := by
          rw [Nat.pow_succ, ← Nat.div_div_eq_div_mul, h2]
          omega
        refine ⟨by simp; omega, e0, ?_⟩
        have gen : ∀ (k m : Nat), conts (k + 1) m = (128 + m / 64 ^ k % 64) :: conts k m := by
          intro k
          induction k with
          | zero => intro m; simp [conts]
          | succ k ih => intro m; rw [conts, ih, conts]; simp [Nat.pow_succ, Nat.div_div_eq_div_mul, Nat.mul_comm]
        rw [gen, List.take_succ_cons, h3, h2]
        congr 1
        omega
      · simp at h

theorem dec_inv (b : List Nat) (hb : ∀ x ∈ b, x < 256) (n k : Nat) (h : dec b = (n, k, 0)) : 1 ≤ k ∧ k ≤ b.length ∧ n < 68719476736 ∧ k = szn n ∧ enc n = b.take k := by
  cases b with
  | nil => simp [dec] at h
  | cons x r =>
    have hx := hb x (by simp)
    simp only [dec] at h
    split at h
    · simp at h
    · rename_i ho
      unfold fin at h
      split at h
      · rename_i hn
        simp only [Prod.mk.injEq] at h
        omega
      · rename_i hn
        split at h
        · rename_i hs
          simp only [Prod.mk.injEq] at h
          obtain ⟨e1, e2, _⟩ := h
          have hn0 : (tl (max 1 (ones x) - 1) (x % 2 ^ (7 - ones x)) r).2 = 0 := by simpa using hn
          obtain ⟨h1, h2, h3⟩ := tl_inv (max 1 (ones x) - 1) (x % 2 ^ (7 - ones x)) n r (by rw [← hn0, ← e1])
          rw [e1, e2] at hs
          rw [e2] at h1 h2 h3
          have hk : 1 ≤ k := by omega
          have hlt : n < 68719476736 := by
            have := szn_zero n
            omega
          refine ⟨hk, by simp; omega, hlt, hs.symm, ?_⟩
          obtain ⟨k, rfl⟩ : ∃ j, k = j + 1 := ⟨k - 1, by omega⟩
          have ef : lead (k + 1) + x % 2 ^ (7 - ones x) = x := by
            have cases8 : ones x = 0 ∧ x < 128 ∨ ones x = 2 ∧ 192 ≤ x ∧ x < 224 ∨ ones x = 3 ∧ 224 ≤ x ∧ x < 240 ∨ ones x = 4 ∧ 240 ≤ x ∧ x < 248 ∨ ones x = 5 ∧ 248 ≤ x ∧ x < 252 ∨ ones x = 6 ∧ 252 ≤ x ∧ x < 254 ∨ ones x = 7 ∧ 254 ≤ x ∧ x < 255 := by
              revert ho
              unfold ones
              repeat' split
              all_goals omega
            rcases cases8 with ⟨e, l⟩ | ⟨e, l⟩ | ⟨e, l⟩ | ⟨e, l⟩ | ⟨e, l⟩ | ⟨e, l⟩ | ⟨e, l⟩ <;> rw [e] at e2 ⊢ <;> (have ek : k + 1 = _ := e2.symm) <;> rw [ek] <;> simp [lead] <;> omega
          simp only [enc, encs, hs, List.take_succ_cons]
          rw [show k + 1 - 1 = k from rfl] at *
          rw [h2, h3, ef]
        · simp at h

theorem dec_bad (b : List Nat) (h : (dec b).2.2 ≠ 0) : (dec b).1 = 0 ∧ (dec b).2.1 = 0 := by
  cases b with
  | nil => simp [dec]
  | cons x r =>
    simp only [dec] at h ⊢
    split
    · simp
    · rename_i ho
      rw [if_neg ho] at h
      unfold fin at h ⊢
      split
      · simp
      · rename_i h2
        rw [if_neg h2] at h
        split
        · rename_i h3
          rw [if_pos h3] at h
          simp at h
        · simp

end Nm
end Go.Proofs.Ytipbldajpdacdaa
