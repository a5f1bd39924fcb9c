/- Writers and readers of bits kept apart from other things; what is taken from a writer's bytes; bits as a number. -/
import Derived.Test.YtpbfmbmdagpmpaaSmall
namespace Go.Proofs.Ytpbfmbmdagpmpaa
open Go.RowKit Bx

theorem Wr.foot {base : Nat} {w : World} {p : Nat} {v : Value} {N c r : Nat} (h : Wr base w p v N c r) : ∀ k, Only p v k → base ≤ k ∧ k < w.heap.size := by
  rintro k (rfl | hk)
  · exact ⟨h.1, h.lt⟩
  · exact h.own hk

theorem Wr.apart {base : Nat} {w w' : World} {p : Nat} {v : Value} {N c r : Nat} {S : Nat → Prop} (h : Wr base w p v N c r) (hk : Kept S w w') (hd : Disj (Only p v) S) : Wr base w' p v N c r :=
  h.kept hk (hd p (.inl rfl)) (fun k hk => hd k (.inr hk))

theorem Wr.beside {base : Nat} {w w' : World} {p : Nat} {v : Value} {N c r : Nat} {q : Nat} {u u' : Value} (h : Wr base w p v N c r) (hk : Kept (Only q u) w w') (hd : Disj (Only p v) (Only q u))
    (hv : u'.ownBlock = u.ownBlock ∨ ∃ k, u'.ownBlock = some k ∧ w.heap.size ≤ k) : Wr base w' p v N c r ∧ Disj (Only p v) (Only q u') := ⟨h.apart hk hd, disj_grow hd (fun k hk => (h.foot k hk).2) hv⟩

/-- How a number that was put in two parts stands there. -/
theorem two_parts (M n a b : Nat) : (M * 2 ^ a + n / 2 ^ b % 2 ^ a) * 2 ^ b + n % 2 ^ b = M * 2 ^ (a + b) + n % 2 ^ (a + b) := by
  rw [Nat.add_mul, Nat.mul_assoc, ← Nat.pow_add, Nat.add_assoc, parts_join]

/-- Two rows of bytes of one number are one. -/
theorem pk_one {A B : List Nat} {N c r : Nat} (h1 : Pk A N c r) (h2 : Pk B N c r) : A = B :=
  be_inj A.length A B rfl (by have := h1.2.1; have := h2.2.1; omega) h1.1 h2.1 (by rw [h1.2.2.1, h2.2.2.1])

/-- What is taken from a writer's bytes: a part of its number. -/
theorem rval_pk {B : List Nat} {N c r at_ k : Nat} (h : Pk B N c r) (hk : at_ + k ≤ c) : rval B at_ 0 k = N / 2 ^ (c - (at_ + k)) % 2 ^ k ∧ rat B at_ 0 k = at_ + k ∧ rfail B at_ 0 k = 0 := by
  have hl := h.2.1
  have hs : short B at_ 0 k = false := by simp [short]; omega
  refine ⟨?_, by simp [rat, hs], by simp [rfail, show ¬ 8 * B.length < at_ + k by omega]⟩
  simp only [rval, hs, cond_false]
  rw [h.2.2.1, show 8 * B.length - (at_ + k) = r + (c - (at_ + k)) by omega, Nat.pow_add, ← Nat.div_div_eq_div_mul, Nat.mul_div_cancel _ (Nat.two_pow_pos r)]

theorem pad_pad (c : Nat) : pad (c + pad c) = 0 := by unfold pad; omega

theorem pad_le (c : Nat) : pad c ≤ 7 := by unfold pad; omega

theorem pad_mod (c : Nat) : (c + pad c) % 8 = 0 := by unfold pad; omega

/-- Filling turns no byte. -/
theorem pk_fill {A B : List Nat} {N c : Nat} (h1 : Pk A N c (pad c)) (h2 : Pk B (N * 2 ^ pad c) (c + pad c) 0) : A = B :=
  be_inj A.length A B rfl (by have := h1.2.1; have := h2.2.1; omega) h1.1 h2.1 (by rw [h1.2.2.1, h2.2.2.1]; simp)

/-- The three ways of a taking. -/
theorem take_ways (B : List Nat) (at_ fl k : Nat) (_hle : at_ ≤ 8 * B.length) :
    (fl ≠ 0 ∧ rval B at_ fl k = 0 ∧ rat B at_ fl k = at_ ∧ rfail B at_ fl k = fl) ∨
    (fl = 0 ∧ rval B at_ fl k = 0 ∧ rat B at_ fl k = at_ ∧ rfail B at_ fl k = 2) ∨
    (fl = 0 ∧ at_ ≤ rat B at_ fl k ∧ rat B at_ fl k ≤ 8 * B.length ∧ rfail B at_ fl k = 0) := by
  by_cases h : fl = 0
  · subst h
    by_cases hs : 8 * B.length < at_ + k
    · exact .inr (.inl ⟨rfl, by simp [rval, short, hs], by simp [rat, short, hs], by simp [rfail, hs]⟩)
    · exact .inr (.inr ⟨rfl, by simp [rat, short, hs], by simp [rat, short, hs]; omega, by simp [rfail, hs]⟩)
  · exact .inl ⟨h, by simp [rval, short, h], by simp [rat, short, h], by simp [rfail, h]⟩

/-- A writer's bytes, all its bits taken: what is left is filled. -/
theorem fill_end {B : List Nat} {N C : Nat} (h : Pk B N C (pad C)) : fat B C 0 = 8 * B.length ∧ ffail B C 0 = 0 := by
  have hl := h.2.1
  have hs : short B C 0 (pad C) = false := by simp [short]; omega
  have hv : rval B C 0 (pad C) = 0 := by
    simp only [rval, hs, cond_false]
    rw [show 8 * B.length - (C + pad C) = 0 by omega, Nat.pow_zero, Nat.div_one, h.2.2.1]
    exact Nat.mul_mod_left _ _
  refine ⟨?_, ?_⟩
  · simp only [fat, hv, rat, hs, cond_false]
    exact hl.symm
  · simp [ffail, hv, rfail, show ¬ 8 * B.length < C + pad C by omega]

/-- A part of a writer's bytes is a part of its bits. -/
theorem part_pk {B : List Nat} {l : List Bool} {r : Nat} (h : Pk B (num l) l.length r) (a k : Nat) (hk : a + k ≤ l.length) : be B / 2 ^ (8 * B.length - (a + k)) % 2 ^ k = num ((l.drop a).take k) := by
  have hl := h.2.1
  rw [h.2.2.1, show 8 * B.length - (a + k) = r + (l.length - (a + k)) by omega, Nat.pow_add, ← Nat.div_div_eq_div_mul, Nat.mul_div_cancel _ (Nat.two_pow_pos r), num_part l a k hk]

end Go.Proofs.Ytpbfmbmdagpmpaa
