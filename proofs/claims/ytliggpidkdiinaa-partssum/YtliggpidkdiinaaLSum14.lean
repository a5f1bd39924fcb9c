/- The walk of PartsSum. -/
import Derived.Test.YtliggpidkdiinaaAwake14
import Derived.Test.YtliggpidkdiinaaArgs
namespace Go.Proofs.Ytliggpidkdiinaa
open Go.RowKit Bx

structure SumNums (N K J B p r s : Nat) : Prop where
  e1 : wrap64 ((N : Int) + (K : Int)) = (B : Int)
  e2 : wrap64 (2 ^ J) = (p : Int)
  e3 : (B : Int).tmod (p : Int) = (r : Int)
  e4 : (B : Int).tdiv (p : Int) = (s : Int)
  e5 : wrap64 (s : Int) = (s : Int)
  e6 : wrap64 ((s : Int) - (K : Int)) = (s : Int) - (K : Int)
  e7 : ¬ p = 0
  hs : (N + K) / 2 ^ J = s
  hp : 2 ^ J = p
  pl : p ≤ 256
  ok : cutOk N K J = (decide (r = 0) && decide (K < s))

theorem sub_small (s K : Nat) (hs : s ≤ 1032) (hK : K ≤ 32) : wrap64 ((s : Int) - (K : Int)) = (s : Int) - (K : Int) := w64_in _ (by omega)

theorem sum_nums (N K J : Nat) (hN : N ≤ 1000) (hK : K ≤ 32) (hJ : J ≤ 8) : ∃ B p r s, SumNums N K J B p r s := by
  have h1 : 2 ^ J ≤ 256 := Nat.pow_le_pow_right (n := 2) (by decide) hJ
  have h2 := Nat.two_pow_pos J
  have h3 : (N + K) / 2 ^ J ≤ N + K := Nat.div_le_self _ _
  refine ⟨N + K, 2 ^ J, (N + K) % 2 ^ J, (N + K) / 2 ^ J, ?_, ?_, ?_, ?_, ?_, ?_, by omega, rfl, rfl, h1, ?_⟩
  · rw [w64_in _ (by omega)]; omega
  · rw [show (2 : Int) ^ J = ((2 ^ J : Nat) : Int) by simp]
    exact small_i _ (by omega)
  · rw [Int.tmod_eq_emod_of_nonneg (by omega)]; exact (Int.natCast_emod _ _).symm
  · rw [Int.tdiv_eq_ediv_of_nonneg (by omega)]; exact (Int.natCast_ediv _ _).symm
  · exact small_i _ (by omega)
  · exact sub_small _ _ (Nat.le_trans h3 (by omega)) hK
  · unfold cutOk
    rw [decide_eq_true (show J ≤ 15 by omega), Bool.true_and]

theorem law_nums {a b c : Int} (ha : (Lit.int .u16 a).wf = true) (hb : (Lit.int .u8 b).wf = true) (hc : (Lit.int .u8 c).wf = true) : ∃ N K J : Nat, N ≤ 1000 ∧ K ≤ 32 ∧ J ≤ 8 ∧ a.tmod 1001 = (N : Int) ∧ wrap64 (N : Int) = (N : Int) ∧ b.tmod 33 = (K : Int) ∧ wrap64 (K : Int) = (K : Int) ∧ c.tmod 9 = (J : Int) ∧ wrap64 (J : Int) = (J : Int) := by
  obtain ⟨p, rfl, hp⟩ := nat_u16 ha
  obtain ⟨q, rfl, hq⟩ := nat_u8 hb
  obtain ⟨r, rfl, hr⟩ := nat_u8 hc
  refine ⟨p % 1001, q % 33, r % 9, by omega, by omega, by omega, ?_, small_i _ (by omega), ?_, small_i _ (by omega), ?_, small_i _ (by omega)⟩
  · rw [Int.tmod_eq_emod_of_nonneg (by omega)]; omega
  · rw [Int.tmod_eq_emod_of_nonneg (by omega)]; omega
  · rw [Int.tmod_eq_emod_of_nonneg (by omega)]; omega

theorem sum_test {r s K : Nat} (h : false = (decide (r = 0) && decide (K < s))) : ((r : Int) != 0) = true ∨ (((r : Int) != 0) = false ∧ decide (s ≤ K) = true) := by
  by_cases h1 : r = 0
  · right
    rw [decide_eq_true h1, Bool.true_and] at h
    have := of_decide_eq_false h.symm
    exact ⟨by simp [h1], decide_eq_true (by omega)⟩
  · left
    exact bne_iff_ne.2 (by omega)

theorem sum_now {c s K : Nat} (hg : c = s - K) (hks : K < s) : ((c : Int) != (s : Int) - (K : Int)) = false ∧ decide ((c : Int) < 1) = false :=
  ⟨by rw [bne_eq_false_iff_eq]; omega, decide_eq_false (by omega)⟩
theorem sum_more {c s K : Nat} (hg : c = s) (hks : K < s) : ((c : Int) != (s : Int)) = false ∧ decide ((c : Int) < 1) = false :=
  ⟨by rw [bne_eq_false_iff_eq]; omega, decide_eq_false (by omega)⟩

def SumInv (vc : Value) (N K J p : Nat) (C : List Nat) (w : World) (f : Act) (w' : World) : Prop :=
  f.defers = [] ∧ f.tmps.size = 101 ∧ f.tmps[7]? = some (.bool true) ∧ f.tmps[8]? = some (.int .i64 (N : Int)) ∧ f.tmps[9]? = some (.int .i64 (K : Int)) ∧ f.tmps[10]? = some (.int .i64 (J : Int)) ∧ f.tmps[11]? = some vc ∧
  ∃ i : Nat, i ≤ p ∧ f.tmps[13]? = some (.int .i64 (i : Int)) ∧ f.tmps[12]? = some (.int .i64 ((C.take i).sum : Int)) ∧ w' = w

set_option maxRecDepth 10000 in
set_option maxHeartbeats 4000000 in
theorem walk_PartsSum (w : World) (many : Int) (hmany : (Lit.int .u16 many).wf = true) (order : Int) (horder : (Lit.int .u8 order).wf = true) (o : Int) (ho : (Lit.int .u8 o).wf = true) :
    Calls Try.prog 4 #[.int .u16 many, .int .u8 order, .int .u8 o] w fun e w' => e = .returned (.bool true) ∧ Kept Nix w w' := by
  obtain ⟨N, K, J, h1, h2, h3, r1, r2, r3, r4, r5, r6⟩ := law_nums hmany horder ho
  obtain ⟨B, p, r, s, hS⟩ := sum_nums N K J h1 h2 h3
  have HA := Lib.hid (awake_any w)
  have CU := Lib.hid (fun w' => pcuts_any N (K : Int) (J : Int) w' (by omega) (by omega))
  unfold CutsPost at CU
  rw [ctI_nat] at CU
  have HS := Lib.hid hS
  have HL := Lib.hid (And.intro h1 (And.intro h2 h3))
  clear hmany horder ho h1 h2 h3 hS
  have e0 : min J 64 = J := by have := HL.out; omega
  have e1 := HS.out.e1
  have e2 := HS.out.e2
  have e3 := HS.out.e3
  have e4 := HS.out.e4
  have e5 := HS.out.e5
  have e6 := HS.out.e6
  have e7 := HS.out.e7
  go_enter Try.func4, Try.ntmps4
  go_upto_region 2 with (go_at_call 8; refine HA.out.mono ?_; rintro e w1 ⟨rfl, k1⟩; have K1 := Lib.hid k1; clear k1 HA)
  have C1 := Lib.hid (CU.out w1)
  cases hc : cutOk N K J with
  | false =>
    rw [cts_none hc] at C1
    have ht := sum_test (by have h := HS.out.ok; rw [hc] at h; exact h)
    clear hc
    rcases ht with t1 | ⟨t1, t2⟩
    all_goals
      go_wp2_with (go_at_call 12; refine C1.out.mono ?_; rintro e w2 ⟨u2, rfl, o2, k2⟩; obtain ⟨uo, uc, rfl, -⟩ := owns_shape o2; have K2 := Lib.hid k2; clear o2 k2 C1)
      go_ret
      exact ⟨rfl, nix_trans K1.out K2.out⟩
  | true =>
    have hlen := cts_length hc
    have hsum := cts_sum hc
    have hget := fun i hi => cts_get (i := i) hc hi
    rw [HS.out.hp] at hlen
    simp only [HS.out.hs] at hget
    simp only [HS.out.hp] at hget
    have HLEN := Lib.hid hlen
    have HSUM := Lib.hid hsum
    have HGET := Lib.hid hget
    have hok := HS.out.ok
    rw [hc] at hok
    have hks : K < s := by
      have := (Bool.and_eq_true_iff.1 hok.symm).2
      exact of_decide_eq_true this
    generalize cts N K J = C at *
    rw [hlen] at C1
    have t0 : ((p : Int) == 0) = false := by rw [beq_eq_false_iff_ne]; omega
    have HKS := Lib.hid hks
    clear hlen hsum hget hok hks hc
    go_upto_region 8 with (go_at_call 12; refine C1.out.mono ?_; rintro e w2 ⟨u2, rfl, o2, k2⟩; obtain ⟨uo, uc, rfl, -⟩ := owns_shape o2; have K2 := Lib.hid k2; have O2 := Lib.hid o2; clear o2 k2 C1)
    go_wp2
    refine wp_loop (SumInv (.slice uo p uc) N K J p C w2) (fun f _ => p - (intOf (f.tmps.getD 13 undef)).toNat) ?_ ?_
    · exact ⟨rfl, rfl, rfl, rfl, rfl, rfl, rfl, 0, Nat.zero_le _, rfl, rfl, rfl⟩
    · rintro ⟨tm, df⟩ w3 ⟨rfl, hs, e7', e8', e9', e10', e11', i, hi, e13', e12', rfl⟩
      simp only at hs e7' e8' e9' e10' e11' e13' e12'
      obtain ⟨f, hf, hg⟩ := fr_open hs
      have g7' := hg _ _ e7'
      have g8' := hg _ _ e8'
      have g9' := hg _ _ e9'
      have g10' := hg _ _ e10'
      have g11' := hg _ _ e11'
      have g13' := hg _ _ e13'
      have g12' := hg _ _ e12'
      simp only [List.range, List.range.loop, List.map] at hf
      rw [g7', g8', g9', g10', g11', g13', g12'] at hf
      clear g7' g8' g9' g10' g11' g13' g12' hg hs e7' e8' e9' e10' e11' e13' e12'
      subst hf
      by_cases hlt : i < p
      · have hdd : decide (i < p) = true := decide_eq_true hlt
        obtain ⟨b1, o1, rfl, hc1⟩ := cell_kept (sl_of_owns O2.out) i (by rw [ni_length, HLEN.out]; exact hlt)
        have x1 := hc1 w3 (Kept.refl _ _)
        rw [ni_get] at x1
        have hi1 : (i : Int) < (p : Int) := by omega
        have hst := sum_next C i (by rw [HLEN.out]; exact hlt)
        have hle := sum_take_le C (i + 1)
        have HI := Lib.hid hlt
        have HW := Lib.hid (show wrap64 ((i : Int) + 1) = ((i + 1 : Nat) : Int) by have := HS.out.pl; rw [w64_in _ (by omega)]; omega)
        have hsw : wrap64 (((C.take i).sum : Int) + (C.getD i 0 : Int)) = ((C.take (i + 1)).sum : Int) := by rw [HSUM.out] at hle; have := HL.out; rw [hst, w64_in _ (by omega)]; omega
        have HG := HGET.out i hlt
        have HSW := Lib.hid hsw
        generalize hz1 : (C.take (i + 1)).sum = z1 at *
        have HZ1 := Lib.hid hz1
        clear hc1 hst hle hlt hi hz1
        generalize hcc : C.getD i 0 = c at *
        generalize (C.take i).sum = z0 at *
        by_cases h0 : i = 0
        · rw [if_pos h0] at HG
          obtain ⟨t1, t2⟩ := sum_now HG HKS.out
          have t3 : ((i : Int) == 0) = true := by rw [h0]; rfl
          clear hcc HG h0 HGET
          go_wp2
          rw [HW.out, HSW.out]
          exact ⟨⟨rfl, rfl, rfl, rfl, rfl, rfl, rfl, i + 1, HI.out, rfl, by rw [HZ1.out]; rfl, rfl⟩, nearer HI.out rfl⟩
        · rw [if_neg h0] at HG
          obtain ⟨t1, t2⟩ := sum_more HG HKS.out
          have t3 : ((i : Int) == 0) = false := by rw [beq_eq_false_iff_ne]; omega
          clear hcc HG h0 HGET
          go_wp2
          rw [HW.out, HSW.out]
          exact ⟨⟨rfl, rfl, rfl, rfl, rfl, rfl, rfl, i + 1, HI.out, rfl, by rw [HZ1.out]; rfl, rfl⟩, nearer HI.out rfl⟩
      · have hie : i = p := by omega
        subst hie
        have hdd : decide (i < i) = false := decide_eq_false hlt
        rw [show C.take i = C by rw [← HLEN.out, List.take_length], HSUM.out]
        have t1 : ((N : Int) == (N : Int)) = true := by simp
        have t2 : ((i : Int) == (i : Int)) = true := by simp
        clear hlt hi
        go_wp2
        go_ret
        exact ⟨rfl, nix_trans K1.out K2.out⟩

end Go.Proofs.Ytliggpidkdiinaa
