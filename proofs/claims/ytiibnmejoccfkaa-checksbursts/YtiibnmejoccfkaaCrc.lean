/- Registers into which bits go: sums, ends, bursts. No program. -/
import Derived.Test.YtiibnmejoccfkaaBools
namespace Go.Proofs.Ytiibnmejoccfkaa
open Bx
namespace Crc

/-- A register of W bits into which a bit went. -/
def reg (W g c : Nat) (b : Bool) : Nat := (2 * c % 2 ^ W) ^^^ (bif (c.testBit (W - 1) ^^ b) then g else 0)

/-- .. into which bits went. -/
def crc (W g c : Nat) (l : List Bool) : Nat := l.foldl (reg W g) c

theorem crc_nil (W g c : Nat) : crc W g c [] = c := rfl
theorem crc_cons (W g c : Nat) (b : Bool) (l : List Bool) : crc W g c (b :: l) = crc W g (reg W g c b) l := rfl
theorem crc_append (W g c : Nat) (l m : List Bool) : crc W g c (l ++ m) = crc W g (crc W g c l) m := by simp [crc, List.foldl_append]

theorem reg_lt {W g : Nat} (hg : g < 2 ^ W) (c : Nat) (b : Bool) : reg W g c b < 2 ^ W := by
  unfold reg
  refine Nat.xor_lt_two_pow (Nat.mod_lt _ (Nat.two_pow_pos _)) ?_
  cases (c.testBit (W - 1) ^^ b)
  · exact Nat.two_pow_pos _
  · exact hg

theorem crc_lt {W g : Nat} (hg : g < 2 ^ W) (l : List Bool) : ∀ c, c < 2 ^ W → crc W g c l < 2 ^ W := by
  induction l with
  | nil => intro c hc; exact hc
  | cons b l ih => intro c _; exact ih _ (reg_lt hg c b)

theorem xor_zero_iff {a b : Nat} (h : a ^^^ b = 0) : a = b := by
  have h1 : (a ^^^ b) ^^^ b = 0 ^^^ b := by rw [h]
  rwa [Nat.xor_assoc, Nat.xor_self, Nat.xor_zero, Nat.zero_xor] at h1

theorem xor_four (a b c d : Nat) : (a ^^^ b) ^^^ (c ^^^ d) = (a ^^^ c) ^^^ (b ^^^ d) := by
  rw [Nat.xor_assoc, Nat.xor_assoc, ← Nat.xor_assoc b c d, Nat.xor_comm b c, Nat.xor_assoc]

theorem two_xor (c d : Nat) : 2 * (c ^^^ d) = (2 * c) ^^^ (2 * d) := by
  have h := Nat.shiftLeft_xor_distrib (a := c) (b := d) (i := 1)
  simp only [Nat.shiftLeft_eq, Nat.pow_one] at h
  rw [Nat.mul_comm 2, h, Nat.mul_comm c, Nat.mul_comm d]

theorem reg_xor (W g c d : Nat) (b e : Bool) : reg W g (c ^^^ d) (b ^^ e) = reg W g c b ^^^ reg W g d e := by
  unfold reg
  rw [xor_four, two_xor, Nat.xor_mod_two_pow, Nat.testBit_xor]
  congr 1
  cases c.testBit (W - 1) <;> cases d.testBit (W - 1) <;> cases b <;> cases e <;> simp

/-- Of two rows of bits of one length the checks' exclusive or is the check of theirs. -/
theorem crc_xor (W g : Nat) (l : List Bool) : ∀ (m : List Bool) (c d : Nat), l.length = m.length → crc W g (c ^^^ d) (List.zipWith (· ^^ ·) l m) = crc W g c l ^^^ crc W g d m := by
  induction l with
  | nil => intro m c d h; have : m = [] := List.eq_nil_of_length_eq_zero h.symm; subst this; rfl
  | cons b l ih =>
    intro m c d h
    cases m with
    | nil => simp at h
    | cons e m =>
      rw [List.zipWith_cons_cons, crc_cons, crc_cons, crc_cons, reg_xor]
      exact ih m _ _ (by simpa using h)

theorem zip_self (l : List Bool) : List.zipWith (· ^^ ·) l l = List.replicate l.length false := by
  induction l with
  | nil => rfl
  | cons b l ih => rw [List.zipWith_cons_cons, ih]; simp [List.replicate_succ]

theorem zip_zeros (l : List Bool) : List.zipWith (· ^^ ·) l (List.replicate l.length false) = l := by
  induction l with
  | nil => rfl
  | cons b l ih => rw [List.length_cons, List.replicate_succ, List.zipWith_cons_cons, ih]; simp

theorem reg_zero {W g c : Nat} (hW : 1 ≤ W) (hg : g % 2 = 1) (hc : c < 2 ^ W) (h : reg W g c false = 0) : c = 0 := by
  unfold reg at h
  rw [Bool.xor_false] at h
  have e : (2 : Nat) ^ W = 2 * 2 ^ (W - 1) := by rw [← Nat.pow_succ', show (W - 1).succ = W by omega]
  have hx := xor_zero_iff h
  cases ht : c.testBit (W - 1)
  · rw [ht, cond_false] at hx
    have h1 : c < 2 ^ (W - 1) := by
      have h2 := Nat.testBit_eq_decide_div_mod_eq (x := c) (i := W - 1)
      rw [ht] at h2
      have h3 : c / 2 ^ (W - 1) < 2 := by rw [Nat.div_lt_iff_lt_mul (Nat.two_pow_pos _)]; omega
      have h4 : ¬ c / 2 ^ (W - 1) % 2 = 1 := by simpa using h2
      have h5 : c / 2 ^ (W - 1) = 0 := by generalize c / 2 ^ (W - 1) = q at h3 h4; omega
      rcases Nat.div_eq_zero_iff.1 h5 with h6 | h6
      · have := Nat.two_pow_pos (W - 1); omega
      · exact h6
    rw [Nat.mod_eq_of_lt (show 2 * c < 2 ^ W by omega)] at hx
    omega
  · rw [ht, cond_true] at hx
    have h1 : 2 * c % 2 ^ W % 2 = 0 := by rw [e, Nat.mod_mul_right_mod]; omega
    omega

theorem crc_zeros_inj {W g : Nat} (hW : 1 ≤ W) (hg : g % 2 = 1) (hgl : g < 2 ^ W) (n : Nat) : ∀ c, c < 2 ^ W → crc W g c (List.replicate n false) = 0 → c = 0 := by
  induction n with
  | zero => intro c _ h; exact h
  | succ n ih =>
    intro c hc h
    rw [List.replicate_succ, crc_cons] at h
    exact reg_zero hW hg hc (ih _ (reg_lt hgl c false) h)

theorem crc_zero (W g n : Nat) : crc W g 0 (List.replicate n false) = 0 := by
  induction n with
  | zero => rfl
  | succ n ih =>
    rw [List.replicate_succ, crc_cons]
    have : reg W g 0 false = 0 := by simp [reg]
    rw [this, ih]

/-- Unlike registers stay unlike. -/
theorem crc_inj {W g : Nat} (hW : 1 ≤ W) (hg : g % 2 = 1) (hgl : g < 2 ^ W) (l : List Bool) {c d : Nat} (hc : c < 2 ^ W) (hd : d < 2 ^ W) (h : crc W g c l = crc W g d l) : c = d := by
  have h1 := crc_xor W g l l c d rfl
  rw [zip_self, h, Nat.xor_self] at h1
  exact xor_zero_iff (crc_zeros_inj hW hg hgl _ _ (Nat.xor_lt_two_pow hc hd) h1)

/-- A bit that goes in meets the highest one. -/
theorem reg_bit {W g : Nat} (hW : 1 ≤ W) (c : Nat) (b : Bool) : reg W g c b = reg W g (c ^^^ b.toNat * 2 ^ (W - 1)) false := by
  cases b
  · simp
  · unfold reg
    rw [Nat.testBit_xor, Bool.toNat_true, Nat.one_mul, Nat.testBit_two_pow_self, Bool.xor_false, two_xor, Nat.xor_mod_two_pow]
    have e : (2 : Nat) ^ W = 2 * 2 ^ (W - 1) := by rw [← Nat.pow_succ', show (W - 1).succ = W by omega]
    rw [← e, Nat.mod_self, Nat.xor_zero]

/-- .. so up to W bits that go in are as if they had stood in it. -/
theorem crc_num {W g : Nat} (l : List Bool) : ∀ c, l.length ≤ W → crc W g c l = crc W g (c ^^^ num l * 2 ^ (W - l.length)) (List.replicate l.length false) := by
  suffices H : ∀ (n : Nat) (l : List Bool) (c : Nat), l.length = n → n ≤ W → crc W g c l = crc W g (c ^^^ num l * 2 ^ (W - n)) (List.replicate n false) from fun c h => H _ l c rfl h
  intro n
  induction n with
  | zero => intro l c h _; have : l = [] := List.eq_nil_of_length_eq_zero h; subst this; simp [num, crc]
  | succ n ih =>
    intro l c h hn
    obtain ⟨i, x, rfl⟩ := snoc_of_pos l (by omega)
    have hi : i.length = n := by simpa using h
    have ez : List.zipWith (· ^^ ·) (List.replicate n false ++ [false]) (List.replicate n false ++ [x]) = List.replicate n false ++ [x] := by
      have := zip_zeros (List.replicate n false)
      rw [List.length_replicate] at this
      rw [List.zipWith_append (by simp), this]
      simp
    rw [crc_append, ih i c hi (by omega), ← crc_append]
    have e1 : num (i ++ [x]) * 2 ^ (W - (n + 1)) = (num i * 2 ^ (W - n)) ^^^ (x.toNat * 2 ^ (W - (n + 1))) := by
      rw [num_snoc, Nat.add_mul, show W - n = (W - (n + 1)) + 1 by omega, Nat.pow_succ]
      have e2 : 2 * num i * 2 ^ (W - (n + 1)) = num i * (2 ^ (W - (n + 1)) * 2) := by
        rw [Nat.mul_comm 2, Nat.mul_assoc, Nat.mul_comm 2]
      rw [e2]
      generalize W - (n + 1) = k
      have h1 : x.toNat * 2 ^ k < 2 ^ (k + 1) := by rw [Nat.pow_succ]; have := Nat.two_pow_pos k; cases x <;> simp <;> omega
      have h2 := Nat.two_pow_add_eq_or_of_lt h1 (num i)
      rw [Nat.pow_succ, Nat.mul_comm] at h2
      rw [h2]
      apply Nat.eq_of_testBit_eq
      intro j
      rw [Nat.testBit_or, Nat.testBit_xor]
      cases hj : (x.toNat * 2 ^ k).testBit j
      · simp
      · have hjk : j = k := by
          cases x
          · simp at hj
          · simpa [Nat.testBit_two_pow, eq_comm] using hj
        have : (num i * (2 ^ k * 2)).testBit j = false := by
          rw [← Nat.pow_succ, Nat.testBit_mul_two_pow, hjk, show decide (k + 1 ≤ k) = false by simp, Bool.false_and]
        rw [this]; rfl
    rw [e1, ← Nat.xor_assoc]
    generalize c ^^^ num i * 2 ^ (W - n) = d
    have e3 : d = d ^^^ 0 := (Nat.xor_zero d).symm
    rw [List.replicate_succ']
    have A := crc_xor W g (List.replicate n false ++ [false]) (List.replicate n false ++ [x]) d 0 (by simp)
    rw [ez, Nat.xor_zero] at A
    have B := crc_xor W g (List.replicate n false ++ [false]) (List.replicate n false ++ [false]) d (x.toNat * 2 ^ (W - (n + 1))) rfl
    rw [zip_self, List.length_append, List.length_replicate, List.length_cons, List.length_nil, Nat.zero_add, List.replicate_succ'] at B
    rw [A, B]
    congr 1
    rw [crc_append, crc_append, crc_zero]
    -- x * 2^(W-(n+1)) with n zeros is x * 2^(W-1)
    have S : ∀ m k, k + m ≤ W - 1 → crc W g (x.toNat * 2 ^ k) (List.replicate m false) = x.toNat * 2 ^ (k + m) := by
      intro m
      induction m with
      | zero => intro k _; rfl
      | succ m ihm =>
        intro k hk
        rw [List.replicate_succ, crc_cons]
        have er : reg W g (x.toNat * 2 ^ k) false = x.toNat * 2 ^ (k + 1) := by
          have ht : (x.toNat * 2 ^ k).testBit (W - 1) = false := by
            cases x
            · simp
            · rw [Bool.toNat_true, Nat.one_mul, Nat.testBit_two_pow]; simp; omega
          unfold reg
          rw [ht]
          simp only [Bool.xor_self, cond_false, Nat.xor_zero]
          have hlt : x.toNat * 2 ^ (k + 1) < 2 ^ W := by
            have : 2 ^ (k + 1) < 2 ^ W := Nat.pow_lt_pow_right (by decide) (by omega)
            have := Nat.two_pow_pos W
            cases x <;> simp <;> omega
          have e5 : 2 * (x.toNat * 2 ^ k) = x.toNat * 2 ^ (k + 1) := by rw [Nat.pow_succ, Nat.mul_comm 2, Nat.mul_assoc]
          rw [e5, Nat.mod_eq_of_lt hlt]
        rw [er, ihm (k + 1) (by omega), show k + 1 + m = k + (m + 1) by omega]
    rw [S n (W - (n + 1)) (by omega), show W - (n + 1) + n = W - 1 by omega, crc_cons, crc_nil, crc_cons, crc_nil, reg_bit (by omega), Nat.zero_xor]

theorem num_eq_zero (l : List Bool) (h : num l = 0) : l = List.replicate l.length false := by
  suffices H : ∀ (n : Nat) (l : List Bool), l.length = n → num l = 0 → l = List.replicate n false from H _ l rfl h
  intro n
  induction n with
  | zero => intro l hl _; exact List.eq_nil_of_length_eq_zero hl
  | succ n ih =>
    intro l hl h
    obtain ⟨i, x, rfl⟩ := snoc_of_pos l (by omega)
    rw [num_snoc] at h
    rw [List.replicate_succ', ← ih i (by simpa using hl) (by omega)]
    cases x
    · rfl
    · simp at h

/-- Up to W bits, not all 0, leave no 0. -/
theorem crc_burst {W g : Nat} (hW : 1 ≤ W) (hg : g % 2 = 1) (hgl : g < 2 ^ W) (l : List Bool) (hl : l.length ≤ W) (h : crc W g 0 l = 0) : l = List.replicate l.length false := by
  rw [crc_num l 0 hl, Nat.zero_xor] at h
  have hn := num_lt _ l rfl
  have h1 : num l * 2 ^ (W - l.length) < 2 ^ W := by
    calc num l * 2 ^ (W - l.length) < 2 ^ l.length * 2 ^ (W - l.length) := Nat.mul_lt_mul_of_pos_right hn (Nat.two_pow_pos _)
      _ = 2 ^ W := by rw [← Nat.pow_add, show l.length + (W - l.length) = W by omega]
  have h2 := crc_zeros_inj hW hg hgl _ _ h1 h
  have h3 : num l = 0 := by
    rcases Nat.mul_eq_zero.1 h2 with h3 | h3
    · exact h3
    · have := Nat.two_pow_pos (W - l.length); omega
  exact num_eq_zero l h3

/-- A register that isn't reached goes up. -/
theorem crc_up {W g : Nat} (m : Nat) : ∀ c, c * 2 ^ m < 2 ^ W → crc W g c (List.replicate m false) = c * 2 ^ m := by
  induction m with
  | zero => intro c _; simp [crc]
  | succ m ih =>
    intro c hc
    rw [List.replicate_succ, crc_cons]
    have e : 2 * c * 2 ^ m = c * 2 ^ (m + 1) := by rw [Nat.pow_succ, Nat.mul_comm 2, Nat.mul_assoc, Nat.mul_comm 2]
    have h2 : 2 * c < 2 ^ W := by
      have := Nat.le_mul_of_pos_right (2 * c) (Nat.two_pow_pos m)
      omega
    have hr : reg W g c false = 2 * c := by
      have ht : c.testBit (W - 1) = false := by
        apply Nat.testBit_lt_two_pow
        cases W with
        | zero => simp at h2 ⊢; omega
        | succ W => rw [Nat.pow_succ] at h2; simp only [Nat.add_sub_cancel]; omega
      unfold reg
      rw [ht, Nat.mod_eq_of_lt h2]
      simp
    rw [hr, ih _ (by omega), e]

/-- What four bits make of a register. -/
def tab (W g i : Nat) : Nat := crc W g 0 (dg 4 i)

theorem dg_zero (k : Nat) : dg k 0 = List.replicate k false := by
  induction k with
  | zero => rfl
  | succ k ih => rw [dg, Nat.zero_div, ih, List.replicate_succ']; rfl

theorem four_split {W g : Nat} (hW : 4 ≤ W) (c n : Nat) (hc : c < 2 ^ W) (hT : ∀ h, h < 16 → crc W g (h * 2 ^ (W - 4)) (dg 4 n) = tab W g (h ^^^ n)) :
    crc W g c (dg 4 n) = (c * 16 % 2 ^ W) ^^^ tab W g ((c / 2 ^ (W - 4)) ^^^ n) := by
  have e16 : (2 : Nat) ^ W = 2 ^ (W - 4) * 16 := by rw [show (16 : Nat) = 2 ^ 4 by decide, ← Nat.pow_add, show W - 4 + 4 = W by omega]
  have hl := Nat.mod_lt c (Nat.two_pow_pos (W - 4))
  have hh : c / 2 ^ (W - 4) < 16 := by rw [Nat.div_lt_iff_lt_mul (Nat.two_pow_pos _)]; omega
  have ec : c = (c % 2 ^ (W - 4)) ^^^ (c / 2 ^ (W - 4) * 2 ^ (W - 4)) := by
    have h1 : c = 2 ^ (W - 4) * (c / 2 ^ (W - 4)) + c % 2 ^ (W - 4) := (Nat.div_add_mod _ _).symm
    have h2 := Nat.two_pow_add_eq_or_of_lt hl (c / 2 ^ (W - 4))
    conv => lhs; rw [h1, h2]
    apply Nat.eq_of_testBit_eq
    intro j
    rw [Nat.testBit_or, Nat.testBit_xor, Nat.mul_comm, Nat.testBit_mul_two_pow, Nat.testBit_mod_two_pow]
    by_cases hj : j < W - 4
    · have : ¬ W - 4 ≤ j := by omega
      simp [hj, this]
    · simp [hj]
  have ez : dg 4 n = List.zipWith (· ^^ ·) (dg 4 0) (dg 4 n) := by
    rw [dg_zero]
    have h1 := zip_zeros (dg 4 n)
    rw [dg_length] at h1
    rw [List.zipWith_comm_of_comm (fun a b => Bool.xor_comm a b), h1]
  have h1 := crc_xor W g (dg 4 0) (dg 4 n) (c % 2 ^ (W - 4)) (c / 2 ^ (W - 4) * 2 ^ (W - 4)) (by rw [dg_length, dg_length])
  rw [← ez, ← ec, hT _ hh, dg_zero, crc_up 4 _ (by omega)] at h1
  rw [h1]
  congr 1
  rw [e16, Nat.mul_comm (2 ^ (W - 4)) 16, Nat.mul_comm c 16, Nat.mul_mod_mul_left]
  omega

theorem tab8 : ∀ n, n < 16 → ∀ h, h < 16 → crc 8 7 (h * 2 ^ (8 - 4)) (dg 4 n) = tab 8 7 (h ^^^ n) := by decide +kernel
theorem tab16 : ∀ n, n < 16 → ∀ h, h < 16 → crc 16 32773 (h * 2 ^ (16 - 4)) (dg 4 n) = tab 16 32773 (h ^^^ n) := by decide +kernel

theorem four8 (c n : Nat) (hc : c < 256) (hn : n < 16) : crc 8 7 c (dg 4 n) = (c * 16 % 256) ^^^ tab 8 7 ((c / 16) ^^^ n) := four_split (by decide) c n hc (tab8 n hn)
theorem four16 (c n : Nat) (hc : c < 65536) (hn : n < 16) : crc 16 32773 c (dg 4 n) = (c * 16 % 65536) ^^^ tab 16 32773 ((c / 4096) ^^^ n) := four_split (by decide) c n hc (tab16 n hn)

theorem dg8 : ∀ x, x < 256 → dg 8 x = dg 4 (x / 16) ++ dg 4 (x % 16) := by decide +kernel

end Crc
end Go.Proofs.Ytiibnmejoccfkaa
