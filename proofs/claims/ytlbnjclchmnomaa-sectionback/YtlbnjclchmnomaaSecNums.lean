/- How many bits a section has; the best plan's section; what the laws of layer 15 want of numbers. No walk. -/
import Derived.Test.YtlbnjclchmnomaaSecBack
import Derived.Test.YtlbnjclchmnomaaPk25
namespace Go.Proofs.Ytlbnjclchmnomaa
open Go.RowKit Bx

theorem rice_len (Q : List Int) (k : Int) : (Q.flatMap (nb false k)).length = sN Q (kk k) := by
  induction Q with
  | nil => rfl
  | cons n Q ih =>
    rw [List.flatMap_cons, List.length_append, ih]
    have e : nb false k n = rbits n k := by simp [nb]
    rw [e, rbits_length]
    rfl

theorem raw_len (Q : List Int) (k : Int) : (Q.flatMap (nb true k)).length = k.toNat * Q.length := by
  induction Q with
  | nil => rfl
  | cons n Q ih =>
    rw [List.flatMap_cons, List.length_append, ih]
    have e : nb true k n = dg k.toNat (u64n n) := by simp [nb]
    rw [e, dg_length, List.length_cons, Nat.mul_succ]
    omega

theorem ptb_bits {wd : Bool} {Q : List Int} {k : Int} {r : Bool} (h : zok (wM wd) Q (k, r) = true) : ((ptb wd Q (k, r)).length : Int) = (wA wd : Int) + ceach Q k r := by
  simp only [zok, Bool.and_eq_true, decide_eq_true_eq] at h
  have h1 := h.1
  unfold ptb
  rw [List.length_append]
  simp only
  cases r with
  | true =>
    unfold ceach at h1 ⊢
    rw [if_pos rfl] at h1 ⊢
    split at h1
    · next h3 =>
      rw [if_pos h3, raw_len]
      have e : (ahb wd (k, true)).length = wA wd + 5 := by simp [ahb, dg_length]
      rw [e, Int.natCast_add, Int.natCast_add, Int.natCast_mul, Int.toNat_of_nonneg (by have := h3.2.1; omega)]
      omega
    · omega
  | false =>
    unfold ceach at h1 ⊢
    rw [if_neg (by simp)] at h1 ⊢
    unfold cbits at h1 ⊢
    split at h1
    · next h3 =>
      rw [if_pos h3, rice_len]
      have e : (ahb wd (k, false)).length = wA wd := by simp [ahb, dg_length]
      rw [e]
      omega
    · omega

theorem parts_len {wd : Bool} {P : List (List Int)} {ps : List (Int × Bool)} (hl : P.length = ps.length) (hz : zall (wM wd) P ps = true) : ∀ i, i ≤ P.length → (((List.range i).flatMap (pti wd P ps)).length : Int) = zsum (wA wd) (P.take i) (ps.take i) := by
  intro i
  induction i with
  | zero => intro _; simp [zsum]
  | succ i ih =>
    intro hi
    rw [range_flat, List.length_append, Int.natCast_add, ih (by omega), zsum_step (wA wd) P ps i (by omega) (by omega)]
    congr 1
    exact ptb_bits (all_of hz i (by omega) (by omega))

theorem secB_len {wd : Bool} {o : Nat} {P : List (List Int)} {ps : List (Int × Bool)} (h : ¬ pbits P ps (wM wd) (wA wd) < 0) : ((secB wd o P ps).length : Int) = pbits P ps (wM wd) (wA wd) := by
  obtain ⟨h1, h2, h3⟩ := pbits_ok h
  have h4 := parts_len h2 h3 P.length (Nat.le_refl _)
  rw [List.take_length, h2, List.take_length, ← h2] at h4
  unfold pbits secB
  rw [if_neg (by rintro (e | e | e); exact h1 e; exact e h2; rw [h3] at e; cases e), List.length_append, Int.natCast_add, h4]
  have e : (hdb wd o).length = 6 := by simp [hdb, dg_length]
  rw [e]
  rfl

theorem flat_mem_len {α : Type} {f : α → List Bool} {l : List α} {x : α} (h : x ∈ l) : (f x).length ≤ (l.flatMap f).length := by
  obtain ⟨s, t, rfl⟩ := List.append_of_mem h
  simp only [List.flatMap_append, List.flatMap_cons, List.length_append]
  omega

/-- A plan of few bits has no number that is too long. -/
theorem lngs_small {wd : Bool} {P : List (List Int)} {ps : List (Int × Bool)} (h : ¬ pbits P ps (wM wd) (wA wd) < 0) (h2 : pbits P ps (wM wd) (wA wd) ≤ 65535) : lngs P ps = false := by
  refine lngs_no fun i hi => ?_
  have hlen := secB_len (o := 0) h
  have hi2 : pti wd P ps i = ptb wd (P.getD i []) (ps.getD i (0, false)) := rfl
  have h3 := flat_mem_len (f := pti wd P ps) (List.mem_range.2 hi)
  unfold secB at hlen
  rw [List.length_append] at hlen
  rw [hi2] at h3
  generalize P.getD i [] = Q at *
  generalize ps.getD i (0, false) = kr at *
  obtain ⟨k, r⟩ := kr
  cases r with
  | true => rfl
  | false =>
    refine lng_no fun j hj hlt => ?_
    have h4 := flat_mem_len (f := nb false k) (int_mem hj)
    have e : nb false k (Q.getD j 0) = rbits (Q.getD j 0) k := by simp [nb]
    rw [e, rbits_length] at h4
    unfold rlen at h4
    unfold ptb at h3
    rw [List.length_append] at h3
    simp only at h3
    omega

/-- What is left by 2^20 and 1. -/
def tm20 (x : List Int) : List Int := x.map (fun n => n.tmod 1048577)
theorem tm20_length (x : List Int) : (tm20 x).length = x.length := by simp [tm20]
theorem tm20_get (x : List Int) (i : Nat) (h : i < x.length) : (tm20 x).getD i 0 = (x.getD i 0).tmod 1048577 := by simp [tm20, List.getD, h]
theorem tm20_bd (x : List Int) : ∀ n ∈ tm20 x, -1048576 ≤ n ∧ n ≤ 1048576 := by
  intro n hn
  obtain ⟨m, -, rfl⟩ := List.mem_map.1 hn
  rw [Int.tmod_eq_emod]
  split <;> omega

theorem tm20_near (x : List Int) : nrs (tm20 x) = true := by
  apply List.all_eq_true.2
  intro n hn
  have := tm20_bd x n hn
  simp [nr]
  omega

theorem tm20_far (x : List Int) : (tm20 x).any farN = false := by
  rw [List.any_eq_false]
  intro n hn
  have := tm20_bd x n hn
  unfold farN
  rw [decide_eq_false (by omega), decide_eq_false (by omega)]
  decide

theorem sN_low20 {L : List Int} (h : ∀ n ∈ L, -1048576 ≤ n ∧ n ≤ 1048576) : sN L 14 ≤ L.length * 143 := by
  induction L with
  | nil => simp [sN]
  | cons n L ih =>
    have h1 := ih (fun m hm => h m (by simp [hm]))
    have h2 := h n (by simp)
    have h3 : fd n ≤ 2097152 := by unfold fd; split <;> omega
    have h4 : fd n / 2 ^ 14 ≤ 128 := by omega
    simp only [sN, List.length_cons, Nat.succ_mul]
    omega

/-- The best plan of few numbers that are near: its section can be put. -/
theorem best_put {x : List Int} {k m : Nat} (hk : k ≤ 32) (hm : m ≤ 8) (h0 : 0 < x.length) (h60 : x.length ≤ 60) (hb : ∀ n ∈ x, -1048576 ≤ n ∧ n ≤ 1048576) (hn : nrs x = true) (wide : Bool) :
    ¬ pbits (pcz x (ctI x.length (k : Int) (pbO x (k : Int) (m : Int) wide))) (pbP x (k : Int) (m : Int) wide) (wM (pbW x (k : Int) (m : Int) wide)) (wA (pbW x (k : Int) (m : Int) wide)) < 0 ∧
    lngs (pcz x (ctI x.length (k : Int) (pbO x (k : Int) (m : Int) wide))) (pbP x (k : Int) (m : Int) wide) = false ∧ 0 ≤ pbN x (k : Int) (m : Int) wide ∧ pbN x (k : Int) (m : Int) wide ≤ 8590 := by
  obtain ⟨q1, -⟩ := least_best hk hm h0 hn wide
  obtain ⟨-, -, -, -, c5⟩ := pb_told hk hm h0 hn wide
  have h1 := best_plan (L := x) k m wide false (fun h => by cases h) 0 (Nat.zero_le _)
  rw [plN_zero k h0] at h1
  have h2 := cbN_least x 14 14 (Nat.le_refl _)
  have h3 := sN_low20 hb
  have hN : pbN x (k : Int) (m : Int) wide ≤ 8590 := by rw [c5]; omega
  have hN0 : 0 ≤ pbN x (k : Int) (m : Int) wide := by rw [c5]; omega
  have hp : ¬ pbits (pcz x (ctI x.length (k : Int) (pbO x (k : Int) (m : Int) wide))) (pbP x (k : Int) (m : Int) wide) (wM (pbW x (k : Int) (m : Int) wide)) (wA (pbW x (k : Int) (m : Int) wide)) < 0 := by rw [q1]; omega
  exact ⟨hp, lngs_small hp (by rw [q1]; omega), hN0, hN⟩

/-- All that a plan that can be tells. -/
theorem plan_ok {L : List Int} {k : Nat} {wd : Bool} {o : Int} {ps : List (Int × Bool)} (h : ¬ pbits (pcz L (ctI L.length (k : Int) o)) ps (wM wd) (wA wd) < 0) (h2 : lngs (pcz L (ctI L.length (k : Int) o)) ps = false) :
    ∃ O : Nat, o = (O : Int) ∧ cutOk L.length k O = true ∧ (cts L.length k O).length = ps.length ∧ (∀ i, i < (cts L.length k O).length → PartOk wd ((pcz L (cts L.length k O)).getD i []) (ps.getD i (0, false)).1 (ps.getD i (0, false)).2) ∧ ctI L.length (k : Int) o = cts L.length k O := by
  obtain ⟨g1, g2, g3⟩ := pbits_ok h
  rw [pcz_length] at g1 g2
  obtain ⟨c1, c2, c3⟩ := ctI_ok g1
  obtain ⟨O, rfl⟩ : ∃ O : Nat, o = (O : Int) := ⟨o.toNat, by omega⟩
  rw [ctI_nat] at *
  have hco : cutOk L.length k O = true := by
    cases hc : cutOk L.length k O with
    | true => rfl
    | false => rw [cts_none hc] at g1; exact absurd rfl g1
  refine ⟨O, rfl, hco, g2, fun i hi => ?_, rfl⟩
  exact partOk_of (all_of g3 i (by rw [pcz_length]; exact hi) (by omega)) (lngs_of h2 i (by rw [pcz_length]; exact hi))

end Go.Proofs.Ytlbnjclchmnomaa
