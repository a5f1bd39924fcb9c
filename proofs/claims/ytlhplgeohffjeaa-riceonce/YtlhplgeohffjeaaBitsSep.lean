/- Writers and readers of bits kept apart from other things; what is taken from a writer's bytes; bits as a number. -/
import Derived.Test.YtlhplgeohffjeaaSmall
namespace Go.Proofs.Ytlhplgeohffjeaa
open Go.RowKit Bx

/-- A call of the writer's, from the writer's state alone. -/
theorem bytes_of_wr {base p : Nat} {v : Value} {N c r : Nat} {w : World} (h : Wr base w p v N c r) (hc : c < 1099511627776) (hr : r ≤ 8) (hb : base ≤ w.heap.size) :
    ∃ B, Pk B N c r ∧ Calls Try.prog 25 #[.pointer (some ⟨p, 0, none⟩)] w (ClonePost base w B) := by
  obtain ⟨_, hp, _, B, ho, hpk⟩ := h
  exact ⟨B, hpk, bytes_any base p v N c r B w hp ho hpk hc hr hb⟩

theorem Wr.foot {base : Nat} {w : World} {p : Nat} {v : Value} {N c r : Nat} (h : Wr base w p v N c r) : ∀ k, Only p v k → base ≤ k ∧ k < w.heap.size := by
  rintro k (rfl | hk)
  · exact ⟨h.1, h.lt⟩
  · exact h.own hk

theorem Wr.apart {base : Nat} {w w' : World} {p : Nat} {v : Value} {N c r : Nat} {S : Nat → Prop} (h : Wr base w p v N c r) (hk : Kept S w w') (hd : Disj (Only p v) S) : Wr base w' p v N c r :=
  h.kept hk (hd p (.inl rfl)) (fun k hk => hd k (.inr hk))

theorem Rd.foot {base : Nat} {w : World} {q : Nat} {v : Value} {B : List Nat} {at_ fl : Nat} (h : Rd base w q v B at_ fl) : ∀ k, Only q v k → base ≤ k ∧ k < w.heap.size := by
  rintro k (rfl | hk)
  · exact ⟨h.1, h.lt⟩
  · exact h.own hk

theorem Rd.apart {base : Nat} {w w' : World} {q : Nat} {v : Value} {B : List Nat} {at_ fl : Nat} {S : Nat → Prop} (h : Rd base w q v B at_ fl) (hk : Kept S w w') (hd : Disj (Only q v) S) : Rd base w' q v B at_ fl :=
  h.kept hk (hd q (.inl rfl)) (fun k hk => hd k (.inr hk))

theorem Wr.beside {base : Nat} {w w' : World} {p : Nat} {v : Value} {N c r : Nat} {q : Nat} {u u' : Value} (h : Wr base w p v N c r) (hk : Kept (Only q u) w w') (hd : Disj (Only p v) (Only q u))
    (hv : u'.ownBlock = u.ownBlock ∨ ∃ k, u'.ownBlock = some k ∧ w.heap.size ≤ k) : Wr base w' p v N c r ∧ Disj (Only p v) (Only q u') := ⟨h.apart hk hd, disj_grow hd (fun k hk => (h.foot k hk).2) hv⟩

theorem Rd.beside {base : Nat} {w w' : World} {p : Nat} {v : Value} {B : List Nat} {at_ fl : Nat} {q : Nat} {u u' : Value} (h : Rd base w p v B at_ fl) (hk : Kept (Only q u) w w') (hd : Disj (Only p v) (Only q u))
    (hv : u'.ownBlock = u.ownBlock ∨ ∃ k, u'.ownBlock = some k ∧ w.heap.size ≤ k) : Rd base w' p v B at_ fl ∧ Disj (Only p v) (Only q u') := ⟨h.apart hk hd, disj_grow hd (fun k hk => (h.foot k hk).2) hv⟩

/-- How a number that was put in two parts stands there. -/
theorem two_parts (M n a b : Nat) : (M * 2 ^ a + n / 2 ^ b % 2 ^ a) * 2 ^ b + n % 2 ^ b = M * 2 ^ (a + b) + n % 2 ^ (a + b) := by
  rw [Nat.add_mul, Nat.mul_assoc, ← Nat.pow_add, Nat.add_assoc, parts_join]

/-- Two rows of bytes of one number are one. -/
theorem pk_one {A B : List Nat} {N c r : Nat} (h1 : Pk A N c r) (h2 : Pk B N c r) : A = B :=
  be_inj A.length A B rfl (by have := h1.2.1; have := h2.2.1; omega) h1.1 h2.1 (by rw [h1.2.2.1, h2.2.2.1])

/-- What is taken from a writer's bytes: a part of its number. -/
theorem rval_pk {B : List Nat} {N c r at_ k : Nat} (h : Pk B N c r) (hk : at_ + k ≤ c) : rval B at_ 0 k = N / 2 ^ (c - (at_ + k)) % 2 ^ k ∧ rat B at_ 0 k = at_ + k ∧ rfail B at_ 0 k = 0 := by
  have hl := h.2.1
  have hs : short B at_ 0 k = false := by simp [short]; omega
  refine ⟨?_, by simp [rat, hs], by simp [rfail, show ¬ 8 * B.length < at_ + k by omega]⟩
  simp only [rval, hs, cond_false]
  rw [h.2.2.1, show 8 * B.length - (at_ + k) = r + (c - (at_ + k)) by omega, Nat.pow_add, ← Nat.div_div_eq_div_mul, Nat.mul_div_cancel _ (Nat.two_pow_pos r)]

theorem pad_pad (c : Nat) : pad (c + pad c) = 0 := by unfold pad; omega

theorem pad_le (c : Nat) : pad c ≤ 7 := by unfold pad; omega

theorem pad_mod (c : Nat) : (c + pad c) % 8 = 0 := by unfold pad; omega

/-- Filling turns no byte. -/
theorem pk_fill {A B : List Nat} {N c : Nat} (h1 : Pk A N c (pad c)) (h2 : Pk B (N * 2 ^ pad c) (c + pad c) 0) : A = B :=
  be_inj A.length A B rfl (by have := h1.2.1; have := h2.2.1; omega) h1.1 h2.1 (by rw [h1.2.2.1, h2.2.2.1]; simp)

/-- The three ways of a taking. -/
theorem take_ways (B : List Nat) (at_ fl k : Nat) (_hle : at_ ≤ 8 * B.length) :
    (fl ≠ 0 ∧ rval B at_ fl k = 0 ∧ rat B at_ fl k = at_ ∧ rfail B at_ fl k = fl) ∨
    (fl = 0 ∧ rval B at_ fl k = 0 ∧ rat B at_ fl k = at_ ∧ rfail B at_ fl k = 2) ∨
    (fl = 0 ∧ at_ ≤ rat B at_ fl k ∧ rat B at_ fl k ≤ 8 * B.length ∧ rfail B at_ fl k = 0) := by
  by_cases h : fl = 0
  · subst h
    by_cases hs : 8 * B.length < at_ + k
    · exact .inr (.inl ⟨rfl, by simp [rval, short, hs], by simp [rat, short, hs], by simp [rfail, hs]⟩)
    · exact .inr (.inr ⟨rfl, by simp [rat, short, hs], by simp [rat, short, hs]; omega, by simp [rfail, hs]⟩)
  · exact .inl ⟨h, by simp [rval, short, h], by simp [rat, short, h], by simp [rfail, h]⟩

/-- A writer's bytes, all its bits taken: what is left is filled. -/
theorem fill_end {B : List Nat} {N C : Nat} (h : Pk B N C (pad C)) : fat B C 0 = 8 * B.length ∧ ffail B C 0 = 0 := by
  have hl := h.2.1
  have hs : short B C 0 (pad C) = false := by simp [short]; omega
  have hv : rval B C 0 (pad C) = 0 := by
    simp only [rval, hs, cond_false]
    rw [show 8 * B.length - (C + pad C) = 0 by omega, Nat.pow_zero, Nat.div_one, h.2.2.1]
    exact Nat.mul_mod_left _ _
  refine ⟨?_, ?_⟩
  · simp only [fat, hv, rat, hs, cond_false]
    exact hl.symm
  · simp [ffail, hv, rfail, show ¬ 8 * B.length < C + pad C by omega]

/-- What bits tell. -/
def num (l : List Bool) : Nat := l.foldl (fun n b => 2 * n + b.toNat) 0

theorem num_nil : num [] = 0 := rfl

theorem num_snoc (l : List Bool) (b : Bool) : num (l ++ [b]) = 2 * num l + b.toNat := by simp [num, List.foldl_append]

theorem num_append (l : List Bool) : ∀ m, num (l ++ m) = num l * 2 ^ m.length + num m := by
  suffices h : ∀ (n : Nat) (m : List Bool), m.length = n → num (l ++ m) = num l * 2 ^ n + num m from fun m => h m.length m rfl
  intro n
  induction n with
  | zero => intro m hm; have : m = [] := List.eq_nil_of_length_eq_zero hm; subst this; simp [num]
  | succ n ih =>
    intro m hm
    obtain ⟨i, x, rfl⟩ := snoc_of_pos m (by omega)
    have := ih i (by simpa using hm)
    rw [← List.append_assoc, num_snoc, num_snoc, this, Nat.pow_succ, Nat.mul_add, Nat.add_assoc]
    congr 1
    rw [← Nat.mul_assoc, Nat.mul_comm 2 (num l), Nat.mul_assoc, Nat.mul_comm 2]

theorem num_lt : ∀ (n : Nat) (l : List Bool), l.length = n → num l < 2 ^ n := by
  intro n
  induction n with
  | zero => intro l hl; have : l = [] := List.eq_nil_of_length_eq_zero hl; subst this; simp [num]
  | succ n ih =>
    intro l hl
    obtain ⟨i, x, rfl⟩ := snoc_of_pos l (by omega)
    have := ih i (by simpa using hl)
    rw [num_snoc, Nat.pow_succ]
    cases x <;> simp <;> omega

theorem num_zeros (k : Nat) : num (List.replicate k false) = 0 := by
  induction k with
  | zero => rfl
  | succ k ih => rw [List.replicate_succ', num_snoc, ih]; rfl

/-- The k lowest bits of a number. -/
def dg : Nat → Nat → List Bool
  | 0, _ => []
  | k + 1, n => dg k (n / 2) ++ [n % 2 == 1]

theorem dg_length (k : Nat) : ∀ n, (dg k n).length = k := by
  induction k with
  | zero => intro n; rfl
  | succ k ih => intro n; simp [dg, ih]

theorem num_dg (k : Nat) : ∀ n, num (dg k n) = n % 2 ^ k := by
  induction k with
  | zero => intro n; simp [dg, num, Nat.mod_one]
  | succ k ih =>
    intro n
    rw [dg, num_snoc, ih, Nat.pow_succ, Nat.mul_comm (2 ^ k) 2, Nat.mod_mul]
    have : (n % 2 == 1).toNat = n % 2 := by rcases Nat.mod_two_eq_zero_or_one n with h | h <;> simp [h]
    omega

theorem dg_head (m : Nat) : ∀ n, dg (m + 1) n = (n / 2 ^ m % 2 == 1) :: dg m n := by
  induction m with
  | zero => intro n; simp [dg]
  | succ m ih =>
    intro n
    have e : n / 2 / 2 ^ m = n / 2 ^ (m + 1) := by rw [Nat.div_div_eq_div_mul, Nat.pow_succ, Nat.mul_comm]
    rw [dg, ih, e, List.cons_append]
    rfl

/-- A part of a list of bits is a part of its number. -/
theorem num_part (L : List Bool) (a k : Nat) (h : a + k ≤ L.length) : num ((L.drop a).take k) = num L / 2 ^ (L.length - (a + k)) % 2 ^ k := by
  have e : L = (L.take a ++ (L.drop a).take k) ++ L.drop (a + k) := by
    rw [← List.take_add, List.take_append_drop]
  have hk : ((L.drop a).take k).length = k := by simp; omega
  have hd : (L.drop (a + k)).length = L.length - (a + k) := by simp
  have h1 := num_append (L.take a ++ (L.drop a).take k) (L.drop (a + k))
  rw [← e, hd] at h1
  have hlt := num_lt _ _ hd
  rw [h1, Nat.mul_comm, Nat.mul_add_div (Nat.two_pow_pos _), Nat.div_eq_of_lt hlt, Nat.add_zero, num_append, hk, Nat.mul_comm, Nat.mul_add_mod, Nat.mod_eq_of_lt (num_lt _ _ hk)]

/-- A part of a writer's bytes is a part of its bits. -/
theorem part_pk {B : List Nat} {l : List Bool} {r : Nat} (h : Pk B (num l) l.length r) (a k : Nat) (hk : a + k ≤ l.length) : be B / 2 ^ (8 * B.length - (a + k)) % 2 ^ k = num ((l.drop a).take k) := by
  have hl := h.2.1
  rw [h.2.2.1, show 8 * B.length - (a + k) = r + (l.length - (a + k)) by omega, Nat.pow_add, ← Nat.div_div_eq_div_mul, Nat.mul_div_cancel _ (Nat.two_pow_pos r), num_part l a k hk]

end Go.Proofs.Ytlhplgeohffjeaa
