/- The reference's Cuts. -/
import Derived.Test.YtliggpidkdiinaaPartCuts
import Derived.Test.YtliggpidkdiinaaRPow
namespace Go.Proofs.Ytliggpidkdiinaa
open Go.RowKit Bx

def lenV : Value → Nat
  | .slice _ l _ => l
  | _ => 0

structure RcNums (n k o B p r s : Nat) : Prop where
  e1 : wrap64 ((n : Int) + (k : Int)) = (B : Int)
  e2 : (2 : Int) ^ o = (p : Int)
  e3 : (B : Int).tmod (p : Int) = (r : Int)
  e4 : (B : Int).tdiv (p : Int) = (s : Int)
  e5 : wrap64 (s : Int) = (s : Int)
  e7 : ¬ p = 0
  e8 : ∀ R : Nat, R = s - k → k < s → wrap64 ((s : Int) - (k : Int)) = (R : Int)
  pl : p ≤ 32768
  ok : cutOk n k o = (decide (r = 0) && decide (k < s))
  ct : cutOk n k o = true → cts n k o = (s - k) :: List.replicate (p - 1) s

theorem rc_nums (n k o : Nat) (hn : n ≤ 1048576) (hk : k ≤ 1048576) (ho : o ≤ 15) : ∃ B p r s, RcNums n k o B p r s := by
  have h1 : 2 ^ o ≤ 32768 := Nat.pow_le_pow_right (n := 2) (by decide) ho
  have h2 := Nat.two_pow_pos o
  have h3 : (n + k) / 2 ^ o ≤ n + k := Nat.div_le_self _ _
  refine ⟨n + k, 2 ^ o, (n + k) % 2 ^ o, (n + k) / 2 ^ o, ?_, by simp, ?_, ?_, ?_, by omega, ?_, h1, ?_, ?_⟩
  · rw [w64_in _ (by omega)]; omega
  · rw [Int.tmod_eq_emod_of_nonneg (by omega)]; exact (Int.natCast_emod _ _).symm
  · rw [Int.tdiv_eq_ediv_of_nonneg (by omega)]; exact (Int.natCast_ediv _ _).symm
  · exact small_i _ (by omega)
  · intro R hR hk
    rw [sub_int hR.symm hk]
    exact small_i _ (by omega)
  · unfold cutOk
    rw [decide_eq_true ho, Bool.true_and]
  · intro h
    unfold cts
    rw [if_pos h]

theorem rc_test {r s K : Nat} (h : false = (decide (r = 0) && decide (K < s))) : ((r : Int) != 0) = true ∨ (((r : Int) != 0) = false ∧ decide (s ≤ K) = true) := by
  by_cases h1 : r = 0
  · right
    rw [decide_eq_true h1, Bool.true_and] at h
    have := of_decide_eq_false h.symm
    exact ⟨by simp [h1], decide_eq_true (by omega)⟩
  · left
    exact bne_iff_ne.2 (by omega)

theorem rc_good {r s K : Nat} (h : true = (decide (r = 0) && decide (K < s))) : ((r : Int) != 0) = false ∧ decide (s ≤ K) = false ∧ K < s := by
  have h := h.symm
  simp only [Bool.and_eq_true, decide_eq_true_eq] at h
  exact ⟨by simp [h.1], decide_eq_false (by omega), h.2⟩

def RCutsInv (B p : Nat) (C : List Nat) (w : World) (a : Act) (w' : World) : Prop :=
  a.defers = [] ∧ a.tmps.size = 57 ∧ a.tmps[7]? = some (.int .i64 (B : Int)) ∧ a.tmps[8]? = some (.int .i64 (p : Int)) ∧
  ∃ i : Nat, 1 ≤ i ∧ i ≤ p ∧ ∃ uo uc, a.tmps[9]? = some (.slice uo i uc) ∧ w'.ownsRow w.heap.size 3 1 (.slice uo i uc) i (ivs (ni (C.take i))) ∧ Kept Nix w w'

theorem rc_take {R s p i : Nat} (h1 : 1 ≤ i) (h2 : i < p) : ni ((R :: List.replicate (p - 1) s).take (i + 1)) = ni ((R :: List.replicate (p - 1) s).take i) ++ [(s : Int)] := by
  obtain ⟨j, rfl⟩ : ∃ j, i = j + 1 := ⟨i - 1, by omega⟩
  simp only [List.take_succ_cons, List.take_replicate]
  rw [show min (j + 1) (p - 1) = j + 1 by omega, show min j (p - 1) = j by omega, List.replicate_succ']
  simp [ni]

set_option maxRecDepth 10000 in
set_option maxHeartbeats 2000000 in
theorem rcuts_any (n k o : Nat) (w : World) (hn : n ≤ 1048576) (hk : k ≤ 1048576) (ho : o ≤ 15) : Calls Try.prog 34 #[.int .i64 (n : Int), .int .i64 (k : Int), .int .i64 (o : Int)] w (CutsPost n (k : Int) (o : Int) w) := by
  have tn : decide ((n : Int) < 0) = false := decide_eq_false (by omega)
  have t1 : decide ((k : Int) < 0) = false := decide_eq_false (by omega)
  have t2 : decide ((o : Int) < 0) = false := decide_eq_false (by omega)
  have t3 : decide (15 < (o : Int)) = false := decide_eq_false (by omega)
  obtain ⟨B, p, r, s, hN⟩ := rc_nums n k o hn hk ho
  have HN := Lib.hid hN
  have PW := Lib.hid (rpower_any o (by omega) w)
  rw [hN.e2] at PW
  have e1 := hN.e1
  have e3 := hN.e3
  have e4 := hN.e4
  have e5 := hN.e5
  have e7 := hN.e7
  clear hN hn hk ho
  unfold CutsPost
  rw [ctI_nat]
  cases hc : cutOk n k o with
  | false =>
    rw [cts_none hc]
    have ht := rc_test (by have h := HN.out.ok; rw [hc] at h; exact h)
    clear hc
    rcases ht with t4 | ⟨t4, t5⟩
    all_goals
      go_enter Try.func34, Try.ntmps34
      go_wp2_with (go_at_call 44; refine PW.out.mono ?_; rintro e w1 ⟨rfl, rfl⟩; clear PW)
      go_ret
      exact ⟨_, rfl, World.ownsRow_nil _ _ _ _, Kept.refl _ _⟩
  | true =>
    obtain ⟨t4, t5, t6⟩ := rc_good (by have h := HN.out.ok; rw [hc] at h; exact h)
    have HC := Lib.hid (HN.out.ct hc)
    obtain ⟨R, hR⟩ : ∃ R, R = s - k := ⟨_, rfl⟩
    have e8 := HN.out.e8 R hR t6
    rw [← hR] at HC
    clear hc hR t6
    generalize cts n k o = C at *
    have HL := Lib.hid (show C.length = p by rw [HC.out]; simp; omega)
    have O1 := Lib.hid (lit_base w w.heap.size (Nat.le_refl _) [(R : Int)] 1 rfl (by decide))
    have K1 := Lib.hid (show Kept Nix w (w.alloc (.cells #[.int .i64 (R : Int)] 3)) from (Kept.refl _ _).alloc _)
    go_enter Try.func34, Try.ntmps34
    go_wp2_with (go_at_call 44; refine PW.out.mono ?_; rintro e w1 ⟨rfl, rfl⟩; clear PW)
    refine wp_loop (RCutsInv B p C w1) (fun a _ => p - lenV (a.tmps.getD 9 undef)) ?_ ?_
    · exact ⟨rfl, rfl, rfl, rfl, 1, Nat.le_refl _, by omega, _, _, rfl, by rw [HC.out]; exact O1.out, K1.out⟩
    · clear O1 K1 t1 t2 t3 tn e1 e8 t4 t5
      rintro ⟨tm, df⟩ w2 ⟨rfl, hs, g7', g8', i, hi1, hi, uo, uc, g9', ho, hk⟩
      simp only at hs g7' g8' g9'
      obtain ⟨f, hf, hg⟩ := fr_open hs
      have g7 := hg _ _ g7'
      have g8 := hg _ _ g8'
      have g9 := hg _ _ g9'
      simp only [List.range, List.range.loop, List.map] at hf
      rw [g7, g8, g9] at hf
      clear g7 g8 g9 hg hs g7' g8' g9'
      subst hf
      have HO := Lib.hid ho
      have HK := Lib.hid hk
      clear ho hk
      by_cases hlt : i < p
      · have hdd : decide (i < p) = true := decide_eq_true hlt
        have M3 := Lib.hid (show i + 1 ≤ maxLen by have := HN.out.pl; simp only [maxLen]; omega)
        have M4 := Lib.hid (show (i + 1) * 8 ≤ 140737488355328 by have := HN.out.pl; omega)
        have O5 := Lib.hid (HO.out.alloc (.cells #[.int .i64 (s : Int)] 3))
        have HBS := Lib.hid (show w1.heap.size ≤ (w2.alloc (.cells #[.int .i64 (s : Int)] 3)).heap.size from (HK.out.alloc _).size)
        have HM := Lib.hid (show p - (i + 1) < p - i by omega)
        have HT := Lib.hid (show ni (C.take (i + 1)) = ni (C.take i) ++ [(s : Int)] by rw [HC.out]; exact rc_take hi1 hlt)
        have HI := Lib.hid hlt
        have HI1 := Lib.hid hi1
        clear hlt hi hi1
        go_wp2_with (
          refine wpList_app _ rfl _ _ 22 rfl w1.heap.size 3 (.int .i64 0) 1 8 Try.underlying22 info_int rfl (by decide) _ _ _ rfl O5.out _ 1 1 [.int .i64 (s : Int)] rfl (src_one w2 _ _ rfl) M3.out M4.out HBS.out ?_
          intro v6 w6 o6 g6 n6; have k6 : Kept Nix w1 w6 := (HK.out.alloc _).grown g6 (fun kk hkk => .inr (O5.out.lt kk hkk).1); obtain ⟨vo, vc, rfl, -⟩ := owns_shape o6; have K6 := Lib.hid k6; have O6 := Lib.hid o6; clear k6 o6 g6 n6)
        refine ⟨⟨rfl, rfl, rfl, rfl, i + 1, by have := HI1.out; omega, HI.out, vo, vc, rfl, ?_, K6.out⟩, HM.out⟩
        rw [HT.out, ivs_append]
        exact O6.out
      · have hie : i = p := by omega
        subst hie
        have hdd : decide (i < i) = false := decide_eq_false hlt
        have HE := Lib.hid (show C.take i = C by rw [← HL.out, List.take_length])
        clear hlt hi hi1
        go_wp2
        go_ret
        refine ⟨_, rfl, ?_, HK.out⟩
        rw [HL.out, ← HE.out]
        exact HO.out

end Go.Proofs.Ytliggpidkdiinaa
