/- The reference of layer 13: Bits, Width, Each. -/
import Derived.Test.YtliggpidkdiinaaCostEq
namespace Go.Proofs.Ytliggpidkdiinaa
open Go.RowKit Bx

def RCBInv (v : Value) (L : List Int) (k : Int) (w : World) (a : Act) (w' : World) : Prop :=
  a.defers = [] ∧ a.tmps.size = 27 ∧ a.tmps[0]? = some v ∧ a.tmps[1]? = some (.int .i64 k) ∧ ∃ i : Nat, i ≤ L.length ∧ a.tmps[7]? = some (.int .i64 (i : Int)) ∧ a.tmps[6]? = some (.int .i64 (sN (L.take i) (kk k) : Int)) ∧ w' = w

set_option maxHeartbeats 1000000 in
theorem rcbits_any (v : Value) (L : List Int) (k : Int) (w : World) (hv : Sl w v (ivs L)) (hl : L.length ≤ 1048576) :
    Calls Try.prog 46 #[v, .int .i64 k] w fun e w' => e = .returned (.int .i64 (cbits L k)) ∧ w' = w := by
  obtain ⟨ao, ca, rfl, -⟩ := hv.ints
  have NR := Lib.hid (rnears_any _ L w hv)
  cases hn : nrs L with
  | false =>
    rw [hn] at NR
    have hq : cbits L k = -1 := by unfold cbits; rw [if_neg (by rw [hn]; simp)]
    rw [hq]
    clear hv hl hn hq
    go_enter Try.func46, Try.ntmps46
    go_wp2_with (go_at_call 13; refine NR.out.mono ?_; rintro e w2 ⟨rfl, rfl⟩; clear NR)
    go_ret
    exact ⟨rfl, rfl⟩
  | true =>
    rw [hn] at NR
    have hq : cbits L k = (sN L (kk k) : Int) := by unfold cbits; rw [if_pos hn]
    rw [hq]
    have HV := Lib.hid hv
    have HL := Lib.hid hl
    have HN := Lib.hid (fun i (hi : i < L.length) => cb_nums (k := k) hi hl (by
      rw [← List.take_append_drop i L, nrs_append] at hn
      exact (Bool.and_eq_true_iff.1 hn).1) (nrs_get hn i hi))
    clear hv hl hn hq
    go_enter Try.func46, Try.ntmps46
    go_wp2_with (go_at_call 13; refine NR.out.mono ?_; rintro e w2 ⟨rfl, rfl⟩; clear NR)
    refine wp_loop (RCBInv (.slice ao L.length ca) L k w2) (fun a _ => L.length - (intOf (a.tmps.getD 7 undef)).toNat) ?_ ?_
    · exact ⟨rfl, rfl, rfl, rfl, 0, Nat.zero_le _, rfl, rfl, rfl⟩
    · rintro ⟨tm, df⟩ w1 ⟨rfl, hs, e0, e1, i, hi, e7, e6, rfl⟩
      simp only at hs e0 e1 e7 e6
      obtain ⟨f, hf, hg⟩ := fr_open hs
      have g0 := hg _ _ e0
      have g1 := hg _ _ e1
      have g7 := hg _ _ e7
      have g6 := hg _ _ e6
      simp only [List.range, List.range.loop, List.map] at hf
      rw [g0, g1, g7, g6] at hf
      clear g0 g1 g7 g6 hg hs e0 e1 e7 e6
      subst hf
      by_cases hlt : i < L.length
      · obtain ⟨b1, o1, rfl, hc1⟩ := cell_kept HV.out i hlt
        have x1 := hc1 _ (Kept.refl _ _)
        have hdd : decide (i < L.length) = true := decide_eq_true hlt
        have hi1 : (i : Int) < (L.length : Int) := by omega
        have HI := Lib.hid hlt
        obtain ⟨m1, m2, -⟩ := HN.out i hlt
        have M := Lib.hid (And.intro m1 m2)
        have SZ := Lib.hid (refSize_any (L.getD i 0) k w1)
        clear hc1 hlt hi m1 m2
        generalize sz (L.getD i 0) k = s at *
        generalize L.getD i 0 = x at *
        generalize hs1 : sN (L.take (i + 1)) (kk k) = s1 at *
        have HS1 := Lib.hid hs1
        clear hs1
        generalize sN (L.take i) (kk k) = s0 at *
        go_wp2_with (go_at_call 52; refine SZ.out.mono ?_; rintro e w2 ⟨rfl, rfl⟩)
        rw [M.out.1, M.out.2]
        exact ⟨⟨rfl, rfl, rfl, rfl, i + 1, HI.out, rfl, by rw [HS1.out]; rfl, rfl⟩, nearer HI.out rfl⟩
      · have hie : i = L.length := by omega
        subst hie
        have hdd : decide (L.length < L.length) = false := decide_eq_false hlt
        rw [List.take_length]
        clear hlt hi
        go_wp2
        go_ret
        exact ⟨rfl, rfl⟩

def RCWInv (v : Value) (W : Nat) (w : World) (a : Act) (w' : World) : Prop :=
  a.defers = [] ∧ a.tmps.size = 43 ∧ a.tmps[0]? = some v ∧ ∃ j : Nat, j ≤ W ∧ a.tmps[4]? = some (.int .i64 (j : Int)) ∧ w' = w

def RCWIn (v : Value) (L : List Int) (j : Nat) (w : World) (a : Act) (w' : World) : Prop :=
  a.defers = [] ∧ a.tmps.size = 43 ∧ a.tmps[0]? = some v ∧ a.tmps[4]? = some (.int .i64 (j : Int)) ∧ ∃ i : Nat, i ≤ L.length ∧ a.tmps[6]? = some (.int .i64 (i : Int)) ∧ a.tmps[5]? = some (.bool (decide (cw (L.take i) ≤ j))) ∧ w' = w

theorem inD_zero (j : Nat) (h1 : 0 < j) (h2 : j ≤ 62) : inD 0 (j : Int) = true := by
  rw [in_some 0 j (by omega) (by omega)]
  have hp : (0 : Int) < 2 ^ ((j : Int).toNat - 1) := Int.pow_pos (by decide)
  generalize (2 : Int) ^ ((j : Int).toNat - 1) = t at *
  simp only [Bool.and_eq_true, decide_eq_true_eq]
  omega

theorem rcw_in {x : Int} {j : Nat} (hj : j ≤ 62) : (inD x (j : Int) = true ∧ blen (fd x) ≤ j) ∨ (inD x (j : Int) = false ∧ 0 < j ∧ ¬ blen (fd x) ≤ j) ∨ (inD x (j : Int) = false ∧ j = 0 ∧ x ≠ 0 ∧ ¬ blen (fd x) ≤ j) ∨ (inD x (j : Int) = false ∧ j = 0 ∧ x = 0 ∧ blen (fd x) ≤ j) := by
  have h := fits_in x j hj
  cases hi : inD x (j : Int) with
  | true => exact .inl ⟨rfl, h.1 (.inl hi)⟩
  | false =>
    by_cases h0 : x = 0
    · by_cases hj0 : j = 0
      · exact .inr (.inr (.inr ⟨rfl, hj0, h0, h.1 (.inr h0)⟩))
      · subst h0
        rw [inD_zero j (by omega) hj] at hi
        cases hi
    · have hb : ¬ blen (fd x) ≤ j := fun hb => by
        rcases h.2 hb with h1 | h1
        · rw [hi] at h1; cases h1
        · exact h0 h1
      by_cases hj0 : j = 0
      · exact .inr (.inr (.inl ⟨rfl, hj0, h0, hb⟩))
      · exact .inr (.inl ⟨rfl, by omega, hb⟩)

theorem rcw_yes {L : List Int} {i j : Nat} (hi : i < L.length) (h : blen (fd (L.getD i 0)) ≤ j) : decide (cw (L.take (i + 1)) ≤ j) = decide (cw (L.take i) ≤ j) := by
  rw [cw_step hi]
  exact decide_eq_decide.2 (by omega)

theorem rcw_no {L : List Int} {i j : Nat} (hi : i < L.length) (h : ¬ blen (fd (L.getD i 0)) ≤ j) : decide (cw (L.take (i + 1)) ≤ j) = false := by
  rw [cw_step hi]
  exact decide_eq_false (by omega)

set_option maxRecDepth 10000 in
set_option maxHeartbeats 2000000 in
theorem rcwidth_any (v : Value) (L : List Int) (w : World) (hv : Sl w v (ivs L)) (hl : L.length ≤ 1048576) :
    Calls Try.prog 47 #[v] w fun e w' => e = .returned (.int .i64 (cwid L)) ∧ w' = w := by
  obtain ⟨ao, ca, rfl, -⟩ := hv.ints
  have NR := Lib.hid (rnears_any _ L w hv)
  cases hn : nrs L with
  | false =>
    rw [hn] at NR
    have hq : cwid L = -1 := by unfold cwid; rw [if_neg (by rw [hn]; simp)]
    rw [hq]
    clear hv hn hq
    go_enter Try.func47, Try.ntmps47
    go_wp2_with (go_at_call 13; refine NR.out.mono ?_; rintro e w2 ⟨rfl, rfl⟩; clear NR)
    go_ret
    exact ⟨rfl, rfl⟩
  | true =>
    rw [hn] at NR
    have hq : cwid L = (cw L : Int) := by unfold cwid; rw [if_pos hn]
    rw [hq]
    have HV := Lib.hid hv
    have HL := Lib.hid hl
    have HB := Lib.hid (cw_near hn)
    clear hv hl hn hq
    go_enter Try.func47, Try.ntmps47
    go_wp2_with (go_at_call 13; refine NR.out.mono ?_; rintro e w2 ⟨rfl, rfl⟩; clear NR)
    refine wp_loop (RCWInv (.slice ao L.length ca) (cw L) w2) (fun a _ => 60 - (intOf (a.tmps.getD 4 undef)).toNat) ?_ ?_
    · exact ⟨rfl, rfl, rfl, 0, Nat.zero_le _, rfl, rfl⟩
    · rintro ⟨tm, df⟩ w1 ⟨rfl, hs, e0, j, hj, e4, rfl⟩
      simp only at hs e0 e4
      obtain ⟨f, hf, hg⟩ := fr_open hs
      have g0 := hg _ _ e0
      have g4 := hg _ _ e4
      simp only [List.range, List.range.loop, List.map] at hf
      rw [g0, g4] at hf
      clear g0 g4 hg hs e0 e4
      subst hf
      have h40 : decide ((j : Int) < 40) = true := decide_eq_true (by have := HB.out; omega)
      have HJ := Lib.hid hj
      have HJ1 := Lib.hid (show wrap64 ((j : Int) + 1) = ((j + 1 : Nat) : Int) by have := HB.out; rw [w64_in _ (by omega)]; omega)
      clear hj
      go_wp2
      clear h40
      refine wp_loop (RCWIn (.slice ao L.length ca) L j w1) (fun a _ => L.length - (intOf (a.tmps.getD 6 undef)).toNat) ?_ ?_
      · exact ⟨rfl, rfl, rfl, rfl, 0, Nat.zero_le _, rfl, by simp [cw], rfl⟩
      · rintro ⟨tm, df⟩ w3 ⟨rfl, hs, e0, e4, i, hi, e6, e5, rfl⟩
        simp only at hs e0 e4 e6 e5
        obtain ⟨f2, hf, hg⟩ := fr_open hs
        have g0 := hg _ _ e0
        have g4 := hg _ _ e4
        have g6 := hg _ _ e6
        have g5 := hg _ _ e5
        simp only [List.range, List.range.loop, List.map] at hf
        rw [g0, g4, g6, g5] at hf
        clear g0 g4 g6 g5 hg hs e0 e4 e6 e5
        subst hf
        by_cases hlt : i < L.length
        · obtain ⟨b1, o1, rfl, hc1⟩ := cell_kept HV.out i hlt
          have x1 := hc1 _ (Kept.refl _ _)
          have hdd : decide (i < L.length) = true := decide_eq_true hlt
          have hi1 : (i : Int) < (L.length : Int) := by omega
          have HI := Lib.hid hlt
          have HI1 := Lib.hid (show wrap64 ((i : Int) + 1) = ((i + 1 : Nat) : Int) by have := HL.out; rw [w64_in _ (by omega)]; omega)
          have IN := Lib.hid (rin_any (L.getD i 0) j w3)
          have YES := Lib.hid (fun h => rcw_yes (j := j) hlt h)
          have NO := Lib.hid (fun h => rcw_no (j := j) hlt h)
          rcases rcw_in (x := L.getD i 0) (j := j) (by have := HJ.out; have := HB.out; omega) with ⟨t1, t2⟩ | ⟨t1, t3, t2⟩ | ⟨t1, t3, t4, t2⟩ | ⟨t1, t3, t4, t2⟩
          · have ST := Lib.hid (YES.out t2)
            rw [t1] at IN
            clear t1 t2 YES NO hlt hi hc1
            generalize L.getD i 0 = x at *
            generalize decide (cw (L.take i) ≤ j) = fs at *
            go_wp2_with (go_at_call 53; refine IN.out.mono ?_; rintro e w4 ⟨rfl, rfl⟩; clear IN)
            rw [HI1.out]
            exact ⟨⟨rfl, rfl, rfl, rfl, i + 1, HI.out, rfl, by rw [ST.out]; rfl, rfl⟩, nearer HI.out rfl⟩
          · have ST := Lib.hid (NO.out t2)
            have t5 : decide (0 < j) = true := decide_eq_true t3
            rw [t1] at IN
            clear t1 t2 t3 YES NO hlt hi hc1
            generalize L.getD i 0 = x at *
            generalize decide (cw (L.take i) ≤ j) = fs at *
            go_wp2_with (go_at_call 53; refine IN.out.mono ?_; rintro e w4 ⟨rfl, rfl⟩; clear IN)
            rw [HI1.out]
            exact ⟨⟨rfl, rfl, rfl, rfl, i + 1, HI.out, rfl, by rw [ST.out]; rfl, rfl⟩, nearer HI.out rfl⟩
          · have ST := Lib.hid (NO.out t2)
            subst t3
            have t5 : (L.getD i 0 != 0) = true := bne_iff_ne.2 t4
            rw [t1] at IN
            clear t1 t2 t4 YES NO hlt hi hc1
            generalize L.getD i 0 = x at *
            generalize decide (cw (L.take i) ≤ 0) = fs at *
            go_wp2_with (go_at_call 53; refine IN.out.mono ?_; rintro e w4 ⟨rfl, rfl⟩; clear IN)
            rw [HI1.out]
            exact ⟨⟨rfl, rfl, rfl, rfl, i + 1, HI.out, rfl, by rw [ST.out]; rfl, rfl⟩, nearer HI.out rfl⟩
          · have ST := Lib.hid (YES.out t2)
            subst t3
            have t5 : (L.getD i 0 != 0) = false := by rw [t4]; rfl
            rw [t1] at IN
            clear t1 t2 t4 YES NO hlt hi hc1
            generalize L.getD i 0 = x at *
            generalize decide (cw (L.take i) ≤ 0) = fs at *
            go_wp2_with (go_at_call 53; refine IN.out.mono ?_; rintro e w4 ⟨rfl, rfl⟩; clear IN)
            rw [HI1.out]
            exact ⟨⟨rfl, rfl, rfl, rfl, i + 1, HI.out, rfl, by rw [ST.out]; rfl, rfl⟩, nearer HI.out rfl⟩
        · have hie : i = L.length := by omega
          subst hie
          have hdd : decide (L.length < L.length) = false := decide_eq_false hlt
          rw [List.take_length]
          clear hlt hi
          by_cases hcj : cw L ≤ j
          · have hje : j = cw L := by have := HJ.out; omega
            rw [decide_eq_true hcj]
            have HJE := Lib.hid hje
            clear hcj hje
            go_wp2
            go_ret
            exact ⟨by rw [HJE.out]; rfl, rfl⟩
          · rw [decide_eq_false hcj]
            have HJL := Lib.hid (show j + 1 ≤ cw L by omega)
            have HM := Lib.hid (show 60 - (j + 1) < 60 - j by have := HB.out; omega)
            clear hcj
            go_wp2
            rw [HJ1.out]
            exact ⟨⟨rfl, rfl, rfl, j + 1, HJL.out, rfl, rfl⟩, HM.out⟩

theorem raw_nums {l : Nat} {k : Int} (hl : l ≤ 1048576) (h0 : 0 ≤ k) (h1 : k ≤ 31) : wrap64 (k * (l : Int)) = k * (l : Int) ∧ wrap64 (5 + k * (l : Int)) = 5 + k * (l : Int) := by
  have e1 : k * (l : Int) ≤ 31 * (l : Int) := Int.mul_le_mul_of_nonneg_right h1 (by omega)
  have e2 : 0 ≤ k * (l : Int) := Int.mul_nonneg h0 (by omega)
  exact ⟨w64_in _ (by omega), w64_in _ (by omega)⟩

set_option maxHeartbeats 1000000 in
theorem rceach_any (v : Value) (L : List Int) (k : Int) (r : Bool) (w : World) (hv : Sl w v (ivs L)) (hl : L.length ≤ 1048576) :
    Calls Try.prog 37 #[v, .agg #[.int .i64 k, .bool r]] w fun e w' => e = .returned (.int .i64 (ceach L k r)) ∧ Kept Nix w w' := by
  obtain ⟨ao, ca, rfl, -⟩ := hv.ints
  have k1 : Kept Nix w (w.alloc (.cells #[.int .i64 k, .bool r] 39)) := (Kept.refl _ w).alloc _
  obtain ⟨y0, y1, -⟩ := part_cells w k r 39 _ (Kept.refl _ _)
  have K1 := Lib.hid k1
  have HV := hv.nix k1
  cases r with
  | false =>
    have HB := Lib.hid (rcbits_any _ L k _ HV hl)
    have HE := Lib.hid (show ceach L k false = cbits L k from rfl)
    generalize ceach L k false = q at *
    generalize cbits L k = s at *
    clear hv k1 HV hl
    go_enter Try.func37, Try.ntmps37
    go_upto_region 1 with fail
    generalize w.alloc (.cells #[.int .i64 k, .bool false] 39) = w1 at *
    generalize w.heap.size = g at *
    go_wp2_with (go_at_call 46; refine HB.out.mono ?_; rintro e w2 ⟨rfl, rfl⟩)
    go_ret
    exact ⟨by rw [HE.out]; rfl, K1.out⟩
  | true =>
    have HW := Lib.hid (rcwidth_any _ L _ HV hl)
    have HL := Lib.hid hl
    by_cases hc : nrs L = true ∧ (cw L : Int) ≤ k ∧ k ≤ 31
    · obtain ⟨c1, c2, c3⟩ := hc
      have hq : ceach L k true = 5 + k * (L.length : Int) := by simp [ceach, c1, c2, c3]
      have HQ := Lib.hid hq
      have e1 : cwid L = (cw L : Int) := by simp [cwid, c1]
      rw [e1] at HW
      have t1 : decide ((cw L : Int) < 0) = false := decide_eq_false (by omega)
      have t2 : decide (k < (cw L : Int)) = false := decide_eq_false (by omega)
      have t3 : decide (31 < k) = false := decide_eq_false (by omega)
      have HP := Lib.hid (raw_nums HL.out (by omega) c3)
      generalize ceach L k true = q at *
      clear hv k1 HV hl c1 c2 c3 e1 hq
      generalize cw L = c at *
      generalize L.length = l at *
      go_enter Try.func37, Try.ntmps37
      go_upto_region 1 with fail
      generalize w.alloc (.cells #[.int .i64 k, .bool true] 39) = w1 at *
      generalize w.heap.size = g at *
      go_wp2_with (first | (go_at_call 47; refine HW.out.mono ?_; rintro e w2 ⟨rfl, rfl⟩))
      go_ret
      rw [HP.out.1, HP.out.2]
      exact ⟨by rw [HQ.out]; rfl, K1.out⟩
    · have hq : ceach L k true = -1 := by simp only [ceach, if_true]; rw [if_neg hc]
      have HQ := Lib.hid hq
      have hcases : decide (cwid L < 0) = true ∨ (decide (cwid L < 0) = false ∧ decide (k < cwid L) = true) ∨ (decide (cwid L < 0) = false ∧ decide (k < cwid L) = false ∧ decide (31 < k) = true) := by
        simp only [decide_eq_true_eq, decide_eq_false_iff_not]
        unfold cwid
        cases hn : nrs L with
        | false => simp
        | true =>
          simp only [hn, true_and] at hc
          rw [if_pos rfl]
          omega
      generalize cwid L = c at *
      generalize ceach L k true = q at *
      clear hv k1 HV hl hc hq
      generalize L.length = l at *
      go_enter Try.func37, Try.ntmps37
      go_upto_region 1 with fail
      generalize w.alloc (.cells #[.int .i64 k, .bool true] 39) = w1 at *
      generalize w.heap.size = g at *
      rcases hcases with a1 | ⟨a1, a2⟩ | ⟨a1, a2, a3⟩
      all_goals
        go_wp2_with (first | (go_at_call 47; refine HW.out.mono ?_; rintro e w2 ⟨rfl, rfl⟩))
        go_ret
        exact ⟨by rw [HQ.out]; rfl, K1.out⟩

end Go.Proofs.Ytliggpidkdiinaa
