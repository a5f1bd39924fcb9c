/- Package parts: Cuts. -/
import Derived.Test.YtliggpidkdiinaaPartRep
namespace Go.Proofs.Ytliggpidkdiinaa
open Go.RowKit Bx

def CutsPost (n : Nat) (k o : Int) (w : World) (e : Ending) (w' : World) : Prop :=
  ∃ u, e = .returned u ∧ w'.ownsRow w.heap.size 3 1 u (ctI n k o).length (ivs (ni (ctI n k o))) ∧ Kept Nix w w'

theorem cuts_none {n : Nat} {k o : Int} (h : ctI n k o = []) (w : World) : CutsPost n k o w (.returned (.slice none 0 0)) w :=
  ⟨_, rfl, by rw [h]; exact World.ownsRow_nil _ _ _ _, Kept.refl _ _⟩

theorem cuts_far {n : Nat} {k o : Int} (h : k < 0 ∨ o < 0 ∨ 15 < o) : ctI n k o = [] := by
  unfold ctI
  split
  · apply cts_none
    unfold cutOk
    rw [decide_eq_false (by omega)]
    rfl
  · rfl

theorem cuts_test {k o : Int} (h : k < 0 ∨ o < 0 ∨ 15 < o) : decide (k < 0) = true ∨ (decide (k < 0) = false ∧ decide (o < 0) = true) ∨ (decide (k < 0) = false ∧ decide (o < 0) = false ∧ decide (15 < o) = true) := by
  simp only [decide_eq_true_eq, decide_eq_false_iff_not]
  omega

structure CutNums (n K O B S Q R : Nat) (P : Int) : Prop where
  e3 : IntKind.u64.wrap ((n : Int) + (K : Int)) = (B : Int)
  e4 : (B : Int) / 2 ^ O = (S : Int)
  e5 : IntKind.u64.wrap ((S : Int) * 2 ^ O) = (Q : Int)
  e6 : wrap64 (2 ^ O) = P
  e7 : wrap64 (S : Int) = (S : Int)
  e8 : K < S → IntKind.u64.wrap ((S : Int) - (K : Int)) = (R : Int)
  e9 : wrap64 (R : Int) = (R : Int)
  hP : ((2 ^ O : Nat) : Int) = P
  ok : cutOk n K O = (decide (Q = B) && decide (K < S))
  ct : cutOk n K O = true → cts n K O = R :: List.replicate (2 ^ O - 1) S

theorem sub_int {S K R : Nat} (h : S - K = R) (h2 : K < S) : (S : Int) - (K : Int) = (R : Int) := by omega
theorem small_i (n : Nat) (h : n ≤ 9223372036854775807) : wrap64 (n : Int) = (n : Int) := by unfold wrap64; omega

theorem cut_nums (n K O : Nat) (hn : n ≤ 1048576) (hk : K ≤ 1099511627776) (hO : O ≤ 15) : ∃ (B S Q R : Nat) (P : Int), CutNums n K O B S Q R P := by
  have hQB : (n + K) / 2 ^ O * 2 ^ O ≤ n + K := Nat.div_mul_le_self _ _
  have hSB : (n + K) / 2 ^ O ≤ n + K := Nat.div_le_self _ _
  have hdm := Nat.div_add_mod (n + K) (2 ^ O)
  have hp : 2 ^ O ≤ 32768 := Nat.pow_le_pow_right (n := 2) (by decide) hO
  refine ⟨n + K, (n + K) / 2 ^ O, (n + K) / 2 ^ O * 2 ^ O, (n + K) / 2 ^ O - K, ((2 ^ O : Nat) : Int), ?_, by simp, ?_, ?_, ?_, ?_, ?_, rfl, ?_, ?_⟩
  · rw [show (n : Int) + (K : Int) = ((n + K : Nat) : Int) by omega]; exact u64_small _ (by omega)
  · rw [show (((n + K) / 2 ^ O : Nat) : Int) * 2 ^ O = (((n + K) / 2 ^ O * 2 ^ O : Nat) : Int) by simp]
    exact u64_small _ (by omega)
  · rw [show (2 : Int) ^ O = ((2 ^ O : Nat) : Int) by simp]
    exact small_i _ (by omega)
  · exact small_i _ (by omega)
  · intro h
    rw [sub_int rfl h]
    exact u64_small _ (by omega)
  · exact small_i _ (by omega)
  · unfold cutOk
    rw [decide_eq_true hO, Bool.true_and]
    have : (n + K) % 2 ^ O = 0 ↔ (n + K) / 2 ^ O * 2 ^ O = n + K := by rw [Nat.mul_comm] at hdm; omega
    rw [decide_eq_decide.2 this]
  · intro h
    unfold cts
    rw [if_pos h]

theorem owns_heap {w : World} {base g n : Nat} {L : List Int} (h : w.heap[g]? = some (.cells (ivs L).toArray 3 (0, 0))) (hb : base ≤ g) (hl : L.length = n) (hn : n ≤ maxLen) : w.ownsRow base 3 1 (.slice (some ⟨g, 0, none⟩) n n) n (ivs L) :=
  ⟨by rw [ivs_length, hl, Nat.mul_one], .inr ⟨g, n, _, rfl, hb, h, Nat.le_refl _, hn, by simp [ivs, hl], by rw [Nat.mul_one, List.take_of_length_le (by simp [ivs, hl])]⟩⟩

set_option maxRecDepth 10000 in
set_option maxHeartbeats 1000000 in
theorem pcuts_any (n : Nat) (k o : Int) (w : World) (hn : n ≤ 1048576) (hk : k ≤ 1099511627776) : Calls Try.prog 12 #[.int .i64 (n : Int), .int .i64 k, .int .i64 o] w (CutsPost n k o w) := by
  have tn : decide ((n : Int) < 0) = false := decide_eq_false (by omega)
  by_cases hf : k < 0 ∨ o < 0 ∨ 15 < o
  · have HP := Lib.hid (cuts_none (cuts_far (n := n) hf) w)
    rcases cuts_test hf with t1 | ⟨t1, t2⟩ | ⟨t1, t2, t3⟩
    all_goals
      clear hf hn hk
      go_enter Try.func12, Try.ntmps12
      go_wp2
      go_ret
      exact HP.out
  · obtain ⟨K, rfl⟩ : ∃ K : Nat, k = (K : Int) := ⟨k.toNat, by omega⟩
    obtain ⟨O, rfl⟩ : ∃ O : Nat, o = (O : Int) := ⟨o.toNat, by omega⟩
    have hO : O ≤ 15 := by omega
    have t1 : decide ((K : Int) < 0) = false := decide_eq_false (by omega)
    have t2 : decide ((O : Int) < 0) = false := decide_eq_false (by omega)
    have t3 : decide (15 < (O : Int)) = false := decide_eq_false (by omega)
    have e1 := u64_small n (by omega)
    have e2 := u64_small K (by omega)
    have e0 : min O 64 = O := by omega
    obtain ⟨B, S, Q, R, P, hN⟩ := cut_nums n K O hn (by omega) hO
    have e3 := hN.e3
    have e4 := hN.e4
    have e5 := hN.e5
    have HN := Lib.hid hN
    have HO := Lib.hid hO
    clear hf hk hn hN
    by_cases hq : Q = B ∧ K < S
    · have t4 : ((Q : Int) != (B : Int)) = false := by simp [hq.1]
      have t5 : decide (S ≤ K) = false := decide_eq_false (by omega)
      have OK := Lib.hid (show cutOk n K O = true by rw [HN.out.ok, decide_eq_true hq.1, decide_eq_true hq.2]; rfl)
      have e6 := HN.out.e6
      have e7 := HN.out.e7
      have e8 := HN.out.e8 hq.2
      have e9 := HN.out.e9
      have RP := Lib.hid (rep_any (S : Int) (.slice (some ⟨w.heap.size, 0, none⟩) 1 1) O hO (w.alloc (.cells #[.int .i64 (S : Int)] 3)) (sl_alloc w (ivs [(S : Int)]) 3 1 rfl (by decide)))
      rw [HN.out.hP] at RP
      have HP1 := Lib.hid (Nat.two_pow_pos O)
      clear hO hq
      generalize hpp : 2 ^ O = p at *
      have HPP := Lib.hid hpp
      clear hpp
      go_enter Try.func12, Try.ntmps12
      go_upto_region 8 with (go_at_call 23; refine RP.out.mono ?_; rintro e w2 ⟨g, rfl, hg1, hg2, k2⟩; have HG1 := Lib.hid hg1; have HG2 := Lib.hid hg2; have K2 := Lib.hid k2; clear hg1 hg2 k2 RP)
      have hp0 : 0 < p := HP1.out
      have y0 : w2.cell? ⟨g, 0, none⟩ = some (.int .i64 (S : Int)) := by
        rw [cell_of HG2.out, List.getElem?_toArray, ivs_get _ _ (by simpa using hp0)]
        congr 2
        simp [List.getD, hp0]
      have z0 := frozen_of (i := 0) HG2.out
      go_wp2
      go_ret
      have hh : (w2.setCell ⟨g, 0, none⟩ (.int .i64 (R : Int))).heap[g]? = some (.cells (ivs (ni (R :: List.replicate (p - 1) S))).toArray 3 (0, 0)) := by
        rw [heap_set HG2.out]
        congr 2
        obtain ⟨q, rfl⟩ : ∃ q, p = q + 1 := ⟨p - 1, by omega⟩
        simp [ivs, ni, List.replicate_succ]
      refine ⟨_, rfl, ?_, (nix_trans ((Kept.refl _ w).alloc _) K2.out).setCell (.inr (by have := HG1.out; simp at this; show w.heap.size ≤ g; omega)) _⟩
      rw [ctI_nat, HN.out.ct OK.out, HPP.out]
      have HPM := Lib.hid (show p ≤ maxLen by rw [← HPP.out]; have := Nat.pow_le_pow_right (n := 2) (by decide) HO.out; simp only [maxLen]; omega)
      have hlen : (ni (R :: List.replicate (p - 1) S)).length = p := by rw [ni_length]; simp; omega
      rw [show (R :: List.replicate (p - 1) S).length = p by simp; omega]
      exact owns_heap hh (by have := HG1.out; simp at this; omega) hlen HPM.out
    · have HF := Lib.hid (cuts_none (n := n) (k := (K : Int)) (o := (O : Int)) (by
        rw [ctI_nat]
        apply cts_none
        rw [HN.out.ok]
        simp only [Bool.and_eq_false_iff, decide_eq_false_iff_not]
        omega) w)
      have ht : ((Q : Int) != (B : Int)) = true ∨ (((Q : Int) != (B : Int)) = false ∧ decide (S ≤ K) = true) := by
        by_cases h1 : Q = B
        · right
          exact ⟨by simp [h1], decide_eq_true (by omega)⟩
        · left
          exact bne_iff_ne.2 (by omega)
      clear hq hO
      rcases ht with t4 | ⟨t4, t5⟩
      all_goals
        go_enter Try.func12, Try.ntmps12
        go_upto_if 42 with fail
        go_wp2
        go_ret
        exact HF.out

end Go.Proofs.Ytliggpidkdiinaa
