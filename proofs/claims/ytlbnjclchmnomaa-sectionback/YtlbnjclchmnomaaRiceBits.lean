/- The bits of a rice number, and what is taken from a writer's bytes that have them. No program. -/
import Derived.Test.YtlbnjclchmnomaaPk7
namespace Go.Proofs.Ytlbnjclchmnomaa
open Go.RowKit Bx

/-- The bits of a rice number. -/
def rbits (n k : Int) : List Bool := (List.replicate (fd n / 2 ^ kk k) false ++ [true]) ++ dg (kk k) (fd n)

theorem rbits_length (n k : Int) : (rbits n k).length = rlen n k := by simp [rbits, rlen, dg_length]; omega

theorem num_rbits (l : List Bool) (n k : Int) : num (l ++ rbits n k) = rlay (num l) n k := by
  rw [rbits, ← List.append_assoc, num_append, ← List.append_assoc, num_snoc, num_append, num_zeros, dg_length, num_dg, List.length_replicate, rlay, Nat.add_zero, Nat.pow_succ]
  congr 2
  rw [Nat.mul_comm 2, Nat.mul_assoc]
  rfl

/-- Where bits of a writer begin with zeros and a one, so many zeros are told. -/
theorem tz_run {B : List Nat} {l : List Bool} {r : Nat} (h : Pk B (num l) l.length r) (rest : List Bool) : ∀ z a, l.drop a = List.replicate z false ++ true :: rest → tz B a = z := by
  have hl := h.2.1
  intro z
  induction z with
  | zero =>
    intro a ha
    have hla : a < l.length := by
      have := congrArg List.length ha
      simp at this; omega
    refine tz_one B a (by omega) ?_
    have := part_pk h a 1 (by omega)
    rw [ha] at this
    simpa [bt, num] using this
  | succ z ih =>
    intro a ha
    have hla : a < l.length := by
      have := congrArg List.length ha
      simp at this; omega
    have hb : bt B a ≠ 1 := by
      have := part_pk h a 1 (by omega)
      rw [ha] at this
      have h2 : bt B a = 0 := by simpa [bt, num, List.replicate_succ] using this
      omega
    rw [tz_zero B a (by omega) hb]
    congr 1
    refine ih (a + 1) ?_
    rw [← List.drop_drop, ha]
    simp [List.replicate_succ]

/-- A number's bits within a writer's: it is taken. -/
theorem take_back {B : List Nat} {P S : List Bool} {n k : Int} {r : Nat} (h : Pk B (num (P ++ rbits n k ++ S)) (P ++ rbits n k ++ S).length r) :
    tkv B P.length 0 (kk k) = n ∧ tka B P.length 0 (kk k) = P.length + (rbits n k).length ∧ tkf B P.length 0 (kk k) = 0 := by
  have hl := h.2.1
  have hz := tz_run h (dg (kk k) (fd n) ++ S) (fd n / 2 ^ kk k) P.length (by simp [rbits])
  have hle : P.length + (fd n / 2 ^ kk k) + 1 + kk k ≤ 8 * B.length := by
    have e := rbits_length n k
    simp only [List.length_append, rlen] at hl e
    omega
  obtain ⟨x1, x2, x3⟩ := tk_in (k := kk k) hz hle
  have hlow := part_pk h (P.length + (fd n / 2 ^ kk k) + 1) (kk k) (by
    have e := rbits_length n k
    simp only [List.length_append, rlen] at hl e ⊢
    omega)
  have hd : (P ++ rbits n k ++ S).drop (P.length + (fd n / 2 ^ kk k) + 1) = dg (kk k) (fd n) ++ S := by
    have e1 : P ++ rbits n k ++ S = (P ++ (List.replicate (fd n / 2 ^ kk k) false ++ [true])) ++ (dg (kk k) (fd n) ++ S) := by simp [rbits]
    rw [e1]
    exact List.drop_left' (by simp; omega)
  rw [hd, List.take_left' (dg_length _ _), num_dg] at hlow
  refine ⟨?_, ?_, x3⟩
  · rw [x1, hlow, Nat.mul_comm, Nat.div_add_mod, uf_fd]
  · rw [x2, rbits_length, rlen]; omega

end Go.Proofs.Ytlbnjclchmnomaa
