/- What Best tells, in numbers: the plan's bits, and that no plan has fewer. No walk. -/
import Derived.Test.YtlbnjclchmnomaaPk23
import Derived.Test.YtlbnjclchmnomaaPk10

namespace Go.Proofs.Ytlbnjclchmnomaa
open Go.RowKit Bx

theorem plN_best {L : List Int} (k : Nat) (hn : nrs L = true) (w : Bool) (o : Nat) (ho : cutOk L.length k o = true) : pbits (plS L k o) (plP L k w o) (wM w) (wA w) = (plN L k w o : Int) := by
  unfold plP plN
  exact pbits_best (pcz_nrs L _ hn) (by have h := plS_length (L := L) ho; unfold plS at h; rw [h]; exact Nat.two_pow_pos o) _ _ (wM_le w)

theorem plN_zero {L : List Int} (k : Nat) (h0 : 0 < L.length) : plN L k false 0 = cbN L 14 + 10 := by
  have e : cts L.length k 0 = [L.length] := by
    unfold cts
    rw [if_pos (cutOk_zero k h0)]
    simp
  unfold plN plS
  rw [e]
  simp only [pcz, psm, List.take_length, wM, wA]
  simp
  omega

theorem plP_zero {L : List Int} (k : Nat) (h0 : 0 < L.length) (w : Bool) : (plP L k w 0).length = 1 := by
  unfold plP
  rw [bps_length, plS_length (cutOk_zero k h0)]

/-- The best plan has no more bits than any of these. -/
theorem best_plan {L : List Int} (k most : Nat) (wide : Bool) (wd : Bool) (hw : wd = true → wide = true) (o : Nat) (ho : o ≤ fin L.length k most) : plN L k (bsW L k most wide) (bsO L k most wide) ≤ plN L k wd o := by
  obtain ⟨a1, a2, a3⟩ := upA_fst (plN L k false) (fin L.length k most)
  obtain ⟨b1, b2, b3⟩ := upA_fst (plN L k true) (fin L.length k most)
  have h1 := a2 o ho
  have h2 := b2 o ho
  unfold bsO
  cases hb : bsW L k most wide with
  | true =>
    unfold bsW at hb
    simp only [Bool.and_eq_true, decide_eq_true_eq] at hb
    have := hb.2
    cases wd with
    | true => exact h2
    | false => omega
  | false =>
    cases wd with
    | false => exact h1
    | true =>
      have h3 := hw rfl
      unfold bsW at hb
      rw [h3, Bool.true_and, decide_eq_false_iff_not] at hb
      omega

theorem bsO_le (L : List Int) (k most : Nat) (wide : Bool) : bsO L k most wide ≤ fin L.length k most := by
  unfold bsO
  exact upA_le _ _

theorem bsW_not (L : List Int) (k most : Nat) : bsW L k most false = false := rfl

/-- What is told where nothing is wrong. -/
theorem pb_told {L : List Int} {k m : Nat} (hk : k ≤ 32) (hm : m ≤ 8) (h0 : 0 < L.length) (hn : nrs L = true) (wide : Bool) :
    pbE L (k : Int) (m : Int) = 0 ∧ pbW L (k : Int) (m : Int) wide = bsW L k m wide ∧ pbO L (k : Int) (m : Int) wide = (bsO L k m wide : Int) ∧ pbP L (k : Int) (m : Int) wide = plP L k (bsW L k m wide) (bsO L k m wide) ∧ pbN L (k : Int) (m : Int) wide = (plN L k (bsW L k m wide) (bsO L k m wide) : Int) := by
  have h := pb_good hk hm h0 hn
  unfold pbW pbO pbP pbN
  rw [if_pos h, if_pos h, if_pos h, if_pos h]
  simp [h]

theorem bs_zero (L : List Int) (k : Nat) : bsO L k 0 false = 0 := by
  have := bsO_le L k 0 false
  have := fin_le L.length k 0
  omega

theorem whole_nums {L : List Int} {k m : Nat} (hk : k ≤ 32) (hm : m ≤ 8) (h0 : 0 < L.length) (hl : L.length ≤ 80) (hn : nrs L = true) :
    ∃ B N2 N3 : Nat, bestN L 14 = (B : Int) ∧ wrap64 ((B : Int) + 10) = ((B + 10 : Nat) : Int) ∧ pbN L (k : Int) 0 false = ((B + 10 : Nat) : Int) ∧ pbN L (k : Int) (m : Int) false = (N2 : Int) ∧ pbN L (k : Int) (m : Int) true = (N3 : Int) ∧ N2 ≤ B + 10 ∧ N3 ≤ N2 ∧ pbE L (k : Int) 0 = 0 ∧ pbE L (k : Int) (m : Int) = 0 ∧ (pbP L (k : Int) 0 false).length = 1 := by
  obtain ⟨a1, -, -, a4, a5⟩ := pb_told (m := 0) hk (by omega) h0 hn false
  obtain ⟨b1, -, -, -, b5⟩ := pb_told hk hm h0 hn false
  obtain ⟨-, -, -, -, c5⟩ := pb_told hk hm h0 hn true
  have hb := cbN_big hn 14
  have hb2 : L.length * 17179869214 ≤ 80 * 17179869214 := Nat.mul_le_mul_right _ hl
  have e0 : plN L k (bsW L k 0 false) (bsO L k 0 false) = cbN L 14 + 10 := by rw [bsW_not, bs_zero, plN_zero k h0]
  refine ⟨cbN L 14, _, _, (best_near hn 14).2.2.1, ?_, ?_, b5, c5, ?_, ?_, a1, b1, ?_⟩
  · rw [w64_in _ (by omega)]; omega
  · rw [show ((0 : Nat) : Int) = 0 from rfl] at a5; rw [a5, e0]
  · rw [← plN_zero k h0]
    exact best_plan k m false false (fun h => h) 0 (Nat.zero_le _)
  · exact best_plan k m true _ (fun _ => rfl) _ (bsO_le L k m false)
  · rw [show ((0 : Nat) : Int) = 0 from rfl] at a4; rw [a4, bsW_not, bs_zero, plP_zero k h0]

theorem law_mods {b c : Int} (hb : (Lit.int .u8 b).wf = true) (hc : (Lit.int .u8 c).wf = true) : ∃ K J : Nat, K ≤ 32 ∧ J ≤ 8 ∧ b.tmod 33 = (K : Int) ∧ wrap64 (K : Int) = (K : Int) ∧ c.tmod 9 = (J : Int) ∧ wrap64 (J : Int) = (J : Int) := by
  obtain ⟨q, rfl, hq⟩ := nat_u8 hb
  obtain ⟨r, rfl, hr⟩ := nat_u8 hc
  refine ⟨q % 33, r % 9, by omega, by omega, ?_, small_i _ (by omega), ?_, small_i _ (by omega)⟩
  · rw [Int.tmod_eq_emod_of_nonneg (by omega)]; omega
  · rw [Int.tmod_eq_emod_of_nonneg (by omega)]; omega

/-- Any plan that can be has as many bits as the best one, or more. -/
theorem least_plan {L : List Int} {k m : Nat} (hk : k ≤ 32) (hm : m ≤ 8) (h0 : 0 < L.length) (hn : nrs L = true) (o : Int) (wd : Bool) (ps : List (Int × Bool)) :
    pbits (pcz L (ctI L.length (k : Int) o)) ps (wM wd) (wA wd) < 0 ∨ (m : Int) < o ∨ pbN L (k : Int) (m : Int) true ≤ pbits (pcz L (ctI L.length (k : Int) o)) ps (wM wd) (wA wd) := by
  obtain ⟨-, -, -, -, c5⟩ := pb_told hk hm h0 hn true
  rw [c5]
  unfold pbits
  split
  · left; omega
  · next h =>
    rw [not_or, not_or] at h
    obtain ⟨h1, h2, h3⟩ := h
    have h2 : (pcz L (ctI L.length (k : Int) o)).length = ps.length := by simpa using h2
    have h3 : zall (wM wd) (pcz L (ctI L.length (k : Int) o)) ps = true := by simpa using h3
    by_cases ho : (m : Int) < o
    · exact .inr (.inl ho)
    · right; right
      have ho0 : 0 ≤ o := by
        rcases Int.lt_or_le o 0 with hh | hh
        · rw [cuts_far (.inr (.inl hh))] at h1; simp [pcz] at h1
        · exact hh
      obtain ⟨p, rfl⟩ : ∃ p : Nat, o = (p : Int) := ⟨o.toNat, by omega⟩
      rw [ctI_nat] at h1 h2 h3 ⊢
      have hc : cutOk L.length k p = true := by
        cases hc : cutOk L.length k p with
        | true => rfl
        | false => rw [cts_none hc] at h1; simp [pcz] at h1
      have hp : p ≤ fin L.length k m := by
        rcases Nat.lt_or_ge (fin L.length k m) p with hh | hh
        · rw [fin_no hh (by omega)] at hc; cases hc
        · exact hh
      have g1 := best_plan (L := L) k m true wd (fun _ => rfl) p hp
      have g2 := zsum_least (a := wA wd) (wM_le wd) _ _ h2 h3
      have e : plN L k wd p = 6 + psm (wM wd) (wA wd) (pcz L (cts L.length k p)) := rfl
      omega

theorem least_best {L : List Int} {k m : Nat} (hk : k ≤ 32) (hm : m ≤ 8) (h0 : 0 < L.length) (hn : nrs L = true) (wide : Bool) :
    pbits (pcz L (ctI L.length (k : Int) (pbO L (k : Int) (m : Int) wide))) (pbP L (k : Int) (m : Int) wide) (wM (pbW L (k : Int) (m : Int) wide)) (wA (pbW L (k : Int) (m : Int) wide)) = pbN L (k : Int) (m : Int) wide ∧ ¬ (m : Int) < pbO L (k : Int) (m : Int) wide := by
  obtain ⟨-, c2, c3, c4, c5⟩ := pb_told hk hm h0 hn wide
  rw [c2, c3, c4, c5, ctI_nat]
  have h1 := bsO_le L k m wide
  have h2 := fin_le L.length k m
  exact ⟨plN_best k hn _ _ (cutOk_le (fin_ok h0 m) h1), by omega⟩

end Go.Proofs.Ytlbnjclchmnomaa
