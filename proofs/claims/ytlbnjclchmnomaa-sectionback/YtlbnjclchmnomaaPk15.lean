/- Package cost: Bits, Width, Each. Package cost: rawBits, Each; a part in memory. Package cost: bestK. Package cost: Best. -/
import Derived.Test.YtlbnjclchmnomaaPk8
import Derived.Test.YtlbnjclchmnomaaPk14
import Derived.Test.YtlbnjclchmnomaaPk12
import Derived.Test.YtlbnjclchmnomaaPk2

namespace Go.Proofs.Ytlbnjclchmnomaa
open Go.RowKit Bx

def CBInv (v : Value) (L : List Int) (k : Int) (w : World) (a : Act) (w' : World) : Prop :=
  a.defers = [] ∧ a.tmps.size = 25 ∧ a.tmps[1]? = some (.int .i64 k) ∧ a.tmps[9]? = some v ∧ a.tmps[10]? = some (.int .i64 (L.length : Int)) ∧ ∃ i : Nat, i ≤ L.length ∧ a.tmps[11]? = some (.int .i64 (i : Int)) ∧ a.tmps[5]? = some (.int .i64 (sN (L.take i) (kk k) : Int)) ∧ nrs (L.take i) = true ∧ w' = w

theorem cb_nums {L : List Int} {i : Nat} {k : Int} (hi : i < L.length) (hl : L.length ≤ 1048576) (hn : nrs (L.take i) = true) (h : nr (L.getD i 0) = true) :
    wrap64 ((sN (L.take i) (kk k) : Int) + sz (L.getD i 0) k) = (sN (L.take (i + 1)) (kk k) : Int) ∧ wrap64 ((i : Int) + 1) = ((i + 1 : Nat) : Int) ∧ decide (sz (L.getD i 0) k < 0) = false := by
  have h1 := sN_big (nrs_step hn hi h) (by simp; omega) (kk k) (kk_le k)
  have h2 := sN_step hi (kk k)
  have e : sz (L.getD i 0) k = ((fd (L.getD i 0) / 2 ^ kk k : Nat) : Int) + 1 + (kk k : Int) := by simp only [sz, h, if_true]
  rw [e]
  generalize fd (L.getD i 0) / 2 ^ kk k = x at *
  generalize kk k = y at *
  refine ⟨?_, ?_, by rw [decide_eq_false_iff_not]; omega⟩
  · rw [w64_in _ (by omega)]; omega
  · rw [w64_in _ (by omega)]; omega

set_option maxHeartbeats 1000000 in
theorem cbits_any (v : Value) (L : List Int) (k : Int) (w : World) (hv : Sl w v (ivs L)) (hl : L.length ≤ 1048576) :
    Calls Try.prog 50 #[v, .int .i64 k] w fun e w' => e = .returned (.int .i64 (cbits L k)) ∧ w' = w := by
  obtain ⟨ao, ca, rfl, -⟩ := hv.ints
  have HV := Lib.hid hv
  have HL := Lib.hid hl
  have HE := Lib.hid (show cbits L k = if nrs L = true then (sN L (kk k) : Int) else -1 from rfl)
  generalize cbits L k = q at *
  clear hv hl
  go_enter Try.func50, Try.ntmps50
  go_wp2
  refine wp_loop (CBInv (.slice ao L.length ca) L k w) (fun a _ => L.length - (intOf (a.tmps.getD 11 undef)).toNat) ?_ ?_
  · exact ⟨rfl, rfl, rfl, rfl, rfl, 0, Nat.zero_le _, rfl, rfl, rfl, rfl⟩
  · rintro ⟨tm, df⟩ w1 ⟨rfl, hs, e1, e9, e10, i, hi, e11, e5, hn, rfl⟩
    simp only at hs e1 e9 e10 e11 e5
    obtain ⟨f, hf, hg⟩ := fr_open hs
    have g1 := hg _ _ e1
    have g9 := hg _ _ e9
    have g10 := hg _ _ e10
    have g11 := hg _ _ e11
    have g5 := hg _ _ e5
    simp only [List.range, List.range.loop, List.map] at hf
    rw [g1, g9, g10, g11, g5] at hf
    clear g1 g9 g10 g11 g5 hg hs e1 e9 e10 e11 e5
    subst hf
    have HN := Lib.hid hn
    clear hn
    by_cases hlt : i < L.length
    · obtain ⟨b1, o1, rfl, hc1⟩ := cell_kept HV.out i hlt
      have x1 := hc1 _ (Kept.refl _ _)
      have hdd : decide (i < L.length) = true := decide_eq_true hlt
      have hi1 : (i : Int) < (L.length : Int) := by omega
      have HI := Lib.hid hlt
      have SZ := Lib.hid (size_any (L.getD i 0) k w1)
      clear hc1
      cases hr : nr (L.getD i 0) with
      | true =>
        obtain ⟨m1, m2, m3⟩ := cb_nums (k := k) hlt HL.out HN.out hr
        have HN2 := Lib.hid (nrs_step HN.out hlt hr)
        have M := Lib.hid (And.intro m1 m2)
        clear hlt hi hr m1 m2
        generalize sz (L.getD i 0) k = s at *
        generalize L.getD i 0 = x at *
        generalize hs1 : sN (L.take (i + 1)) (kk k) = s1 at *
        have HS1 := Lib.hid hs1
        clear hs1
        generalize sN (L.take i) (kk k) = s0 at *
        go_wp2_with (go_at_call 65; refine SZ.out.mono ?_; rintro e w2 ⟨rfl, rfl⟩)
        rw [M.out.1, M.out.2]
        exact ⟨⟨rfl, rfl, rfl, rfl, rfl, i + 1, HI.out, rfl, by rw [HS1.out]; rfl, HN2.out, rfl⟩, nearer HI.out rfl⟩
      | false =>
        have e1 : sz (L.getD i 0) k = -1 := by unfold sz; rw [hr]; rfl
        rw [e1] at SZ
        have hq := HE.out
        rw [nrs_not hlt hr, if_neg (by simp)] at hq
        have HQ := Lib.hid hq
        clear hlt hi hr e1 hq
        generalize L.getD i 0 = x at *
        generalize sN (L.take i) (kk k) = s0 at *
        go_wp2_with (go_at_call 65; refine SZ.out.mono ?_; rintro e w2 ⟨rfl, rfl⟩)
        go_ret
        exact ⟨by rw [HQ.out]; rfl, rfl⟩
    · have hie : i = L.length := by omega
      subst hie
      have hdd : decide (L.length < L.length) = false := decide_eq_false hlt
      have hn := HN.out
      rw [List.take_length] at hn
      have hq := HE.out
      rw [hn, if_pos rfl] at hq
      have HQ := Lib.hid hq
      rw [List.take_length]
      clear hlt hi hn hq
      generalize sN L (kk k) = s0 at *
      go_wp2
      go_ret
      exact ⟨by rw [HQ.out]; rfl, rfl⟩

def CWInv (v : Value) (L : List Int) (w : World) (a : Act) (w' : World) : Prop :=
  a.defers = [] ∧ a.tmps.size = 27 ∧ a.tmps[6]? = some v ∧ a.tmps[7]? = some (.int .i64 (L.length : Int)) ∧ ∃ i : Nat, i ≤ L.length ∧ a.tmps[8]? = some (.int .i64 (i : Int)) ∧ a.tmps[3]? = some (.int .i64 (cw (L.take i) : Int)) ∧ nrs (L.take i) = true ∧ w' = w

/-- In the inner loop: the width is still j. -/
def CWIn (v : Value) (l i W m : Nat) (x : Int) (w : World) (a : Act) (w' : World) : Prop :=
  a.defers = [] ∧ a.tmps.size = 27 ∧ a.tmps[5]? = some (.int .i64 x) ∧ a.tmps[6]? = some v ∧ a.tmps[7]? = some (.int .i64 (l : Int)) ∧ a.tmps[8]? = some (.int .i64 (i : Int)) ∧ ∃ j : Nat, W ≤ j ∧ j ≤ max W m ∧ a.tmps[3]? = some (.int .i64 (j : Int)) ∧ w' = w

theorem cw_in {x : Int} {j : Nat} (hj : j ≤ 40) : (x ≠ 0 ∧ inD x (j : Int) = false ∧ j < blen (fd x)) ∨ (x = 0 ∧ blen (fd x) ≤ j) ∨ (x ≠ 0 ∧ inD x (j : Int) = true ∧ blen (fd x) ≤ j) := by
  have h := fits_in x j (by omega)
  by_cases h0 : x = 0
  · exact .inr (.inl ⟨h0, h.1 (.inr h0)⟩)
  · cases hi : inD x (j : Int) with
    | true => exact .inr (.inr ⟨h0, rfl, h.1 (.inl hi)⟩)
    | false =>
      refine .inl ⟨h0, rfl, ?_⟩
      have : ¬ blen (fd x) ≤ j := fun hb => by
        rcases h.2 hb with h1 | h1
        · rw [hi] at h1; cases h1
        · exact h0 h1
      omega

set_option maxHeartbeats 1000000 in
theorem cwidth_any (v : Value) (L : List Int) (w : World) (hv : Sl w v (ivs L)) :
    Calls Try.prog 36 #[v] w fun e w' => e = .returned (.int .i64 (cwid L)) ∧ w' = w := by
  obtain ⟨ao, ca, rfl, h1, h2, -⟩ := hv.ints
  have HV := Lib.hid hv
  have HL := Lib.hid (show L.length ≤ 9223372036854775807 by simp only [maxLen] at h2; omega)
  have HE := Lib.hid (show cwid L = if nrs L = true then (cw L : Int) else -1 from rfl)
  generalize cwid L = q at *
  clear hv h1 h2
  go_enter Try.func36, Try.ntmps36
  go_wp2
  refine wp_loop (CWInv (.slice ao L.length ca) L w) (fun a _ => L.length - (intOf (a.tmps.getD 8 undef)).toNat) ?_ ?_
  · exact ⟨rfl, rfl, rfl, rfl, 0, Nat.zero_le _, rfl, rfl, rfl, rfl⟩
  · rintro ⟨tm, df⟩ w1 ⟨rfl, hs, e6, e7, i, hi, e8, e3, hn, rfl⟩
    simp only at hs e6 e7 e8 e3
    obtain ⟨f, hf, hg⟩ := fr_open hs
    have g6 := hg _ _ e6
    have g7 := hg _ _ e7
    have g8 := hg _ _ e8
    have g3 := hg _ _ e3
    simp only [List.range, List.range.loop, List.map] at hf
    rw [g6, g7, g8, g3] at hf
    clear g6 g7 g8 g3 hg hs e6 e7 e8 e3
    subst hf
    have HN := Lib.hid hn
    clear hn
    by_cases hlt : i < L.length
    · obtain ⟨b1, o1, rfl, hc1⟩ := cell_kept HV.out i hlt
      have x1 := hc1 _ (Kept.refl _ _)
      have hdd : decide (i < L.length) = true := decide_eq_true hlt
      have hi1 : (i : Int) < (L.length : Int) := by omega
      have HI := Lib.hid hlt
      have NR := Lib.hid (near_any (L.getD i 0) w1)
      clear hc1
      cases hr : nr (L.getD i 0) with
      | true =>
        have hn2 := nrs_step HN.out hlt hr
        have HN2 := Lib.hid hn2
        have hst := cw_step hlt
        have hbig := cw_near hn2
        have HW0 := Lib.hid (show wrap64 ((i : Int) + 1) = ((i + 1 : Nat) : Int) by have := HL.out; rw [w64_in _ (by omega)]; omega)
        rw [hr] at NR
        rw [hst] at hbig
        have HST := Lib.hid hst
        have HBIG := Lib.hid hbig
        clear hlt hi hr hn2 hst hbig
        generalize L.getD i 0 = x at *
        generalize hW1 : cw (L.take (i + 1)) = W1 at *
        have HW1 := Lib.hid hW1
        clear hW1
        generalize cw (L.take i) = W at *
        go_wp2_with (go_at_call 55; refine NR.out.mono ?_; rintro e w2 ⟨rfl, rfl⟩)
        refine wp_loop (CWIn (.slice (some ⟨b1, o1, none⟩) L.length ca) L.length i W (blen (fd x)) x w1) (fun a _ => 60 - (intOf (a.tmps.getD 3 undef)).toNat) ?_ ?_
        · exact ⟨rfl, rfl, rfl, rfl, rfl, rfl, W, Nat.le_refl _, Nat.le_max_left _ _, rfl, rfl⟩
        · clear x1 hi1 NR
          rintro ⟨tm, df⟩ w2 ⟨rfl, hs, e5, e6, e7, e8, j, hj1, hj2, e3, rfl⟩
          simp only at hs e5 e6 e7 e8 e3
          obtain ⟨f2, hf, hg⟩ := fr_open hs
          have g5 := hg _ _ e5
          have g6 := hg _ _ e6
          have g7 := hg _ _ e7
          have g8 := hg _ _ e8
          have g3 := hg _ _ e3
          simp only [List.range, List.range.loop, List.map] at hf
          rw [g5, g6, g7, g8, g3] at hf
          clear g5 g6 g7 g8 g3 hg hs e5 e6 e7 e8 e3
          subst hf
          have hj40 : j ≤ 40 := by have := HBIG.out; omega
          have HJ := Lib.hid (And.intro hj1 hj2)
          have IN := Lib.hid (in_any x j w2)
          have HJ1 := Lib.hid (show wrap64 ((j : Int) + 1) = ((j + 1 : Nat) : Int) by rw [w64_in _ (by omega)]; omega)
          rcases cw_in (x := x) hj40 with ⟨t0, t1, t2⟩ | ⟨t0, t2⟩ | ⟨t0, t1, t2⟩
          · have tx : (x != 0) = true := bne_iff_ne.2 t0
            rw [t1] at IN
            have T2 := Lib.hid t2
            have HJ40 := Lib.hid hj40
            clear t0 t1 t2 hj1 hj2 hj40
            go_wp2_with (go_at_call 56; refine IN.out.mono ?_; rintro e w3 ⟨rfl, rfl⟩)
            rw [HJ1.out]
            refine ⟨⟨rfl, rfl, rfl, rfl, rfl, rfl, j + 1, by have := HJ.out; omega, by have := HJ.out; have := T2.out; omega, rfl, rfl⟩, nearer (by have := HJ40.out; omega) rfl⟩
          · have tx : (x != 0) = false := by simp [t0]
            have hje : (j : Int) = (W1 : Int) := by have := HJ.out; have := HST.out; omega
            have HJE := Lib.hid hje
            clear t0 t2 hj1 hj2 hj40 hje
            go_wp2_with fail
            rw [HW0.out, HJE.out]
            exact ⟨⟨rfl, rfl, rfl, rfl, i + 1, HI.out, rfl, by rw [HW1.out]; rfl, HN2.out, rfl⟩, nearer HI.out rfl⟩
          · have tx : (x != 0) = true := bne_iff_ne.2 t0
            have hje : (j : Int) = (W1 : Int) := by have := HJ.out; have := HST.out; omega
            have HJE := Lib.hid hje
            rw [t1] at IN
            clear t0 t1 t2 hj1 hj2 hj40 hje
            go_wp2_with (go_at_call 56; refine IN.out.mono ?_; rintro e w3 ⟨rfl, rfl⟩)
            rw [HW0.out, HJE.out]
            exact ⟨⟨rfl, rfl, rfl, rfl, i + 1, HI.out, rfl, by rw [HW1.out]; rfl, HN2.out, rfl⟩, nearer HI.out rfl⟩
      | false =>
        have hq := HE.out
        rw [nrs_not hlt hr, if_neg (by simp)] at hq
        have HQ := Lib.hid hq
        rw [hr] at NR
        clear hlt hi hr hq
        generalize L.getD i 0 = x at *
        generalize cw (L.take i) = W at *
        go_wp2_with (go_at_call 55; refine NR.out.mono ?_; rintro e w2 ⟨rfl, rfl⟩)
        go_ret
        exact ⟨by rw [HQ.out]; rfl, rfl⟩
    · have hie : i = L.length := by omega
      subst hie
      have hdd : decide (L.length < L.length) = false := decide_eq_false hlt
      have hn := HN.out
      rw [List.take_length] at hn
      have hq := HE.out
      rw [hn, if_pos rfl] at hq
      have HQ := Lib.hid hq
      rw [List.take_length]
      clear hlt hi hn hq
      generalize cw L = s0 at *
      go_wp2
      go_ret
      exact ⟨by rw [HQ.out]; rfl, rfl⟩

end Go.Proofs.Ytlbnjclchmnomaa

namespace Go.Proofs.Ytlbnjclchmnomaa
open Go.RowKit Bx

theorem size_part : (Try.prog.info? 50).map (·.size) = some 2 := by kernel_rfl

theorem part_cells (w : World) (k : Int) (r : Bool) (t : TypeId) : ∀ w', Kept Nix (w.alloc (.cells #[.int .i64 k, .bool r] t)) w' → w'.cell? ⟨w.heap.size, 0, none⟩ = some (.int .i64 k) ∧ w'.cell? ⟨w.heap.size, 1, none⟩ = some (.bool r) ∧ w'.heap[w.heap.size]? = some (.cells #[.int .i64 k, .bool r] t (0, 0)) := by
  intro w' hk
  have hb := hk.heap (heap_alloc_new w (.cells #[.int .i64 k, .bool r] t)) id
  exact ⟨by rw [cell_of hb]; rfl, by rw [cell_of hb]; rfl, hb⟩

theorem raw_any (l : Nat) (k : Int) (w : World) (hl : l ≤ 1048576) (h0 : -100 ≤ k) (h1 : k ≤ 100) :
    Calls Try.prog 51 #[.int .i64 (l : Int), .int .i64 k] w fun e w' => e = .returned (.int .i64 (5 + (l : Int) * k)) ∧ w' = w := by
  have hb : (l : Int) * k ≤ 104857600 ∧ -104857600 ≤ (l : Int) * k := by
    have e1 : (l : Int) * k ≤ (l : Int) * 100 := Int.mul_le_mul_of_nonneg_left h1 (by omega)
    have e2 : (l : Int) * (-100) ≤ (l : Int) * k := Int.mul_le_mul_of_nonneg_left h0 (by omega)
    omega
  have HP := Lib.hid (show wrap64 ((l : Int) * k) = (l : Int) * k from w64_in _ (by omega))
  have HQ := Lib.hid (show wrap64 (5 + (l : Int) * k) = 5 + (l : Int) * k from w64_in _ (by omega))
  clear hb
  go_enter Try.func51, Try.ntmps51
  go_wp2
  go_ret
  refine ⟨ret_int ?_, rfl⟩
  first
    | rw [HP.out, HQ.out]
    | rw [HQ.out]
    | rfl

set_option maxHeartbeats 1000000 in
theorem ceach_any (v : Value) (L : List Int) (k : Int) (r : Bool) (w : World) (hv : Sl w v (ivs L)) (hl : L.length ≤ 1048576) :
    Calls Try.prog 30 #[v, .agg #[.int .i64 k, .bool r]] w fun e w' => e = .returned (.int .i64 (ceach L k r)) ∧ Kept Nix w w' := by
  obtain ⟨ao, ca, rfl, -⟩ := hv.ints
  have k1 : Kept Nix w (w.alloc (.cells #[.int .i64 k, .bool r] 50)) := (Kept.refl _ w).alloc _
  obtain ⟨y0, y1, -⟩ := part_cells w k r 50 _ (Kept.refl _ _)
  have K1 := Lib.hid k1
  have HV := hv.nix k1
  cases r with
  | false =>
    have HB := Lib.hid (cbits_any _ L k _ HV hl)
    have HE := Lib.hid (show ceach L k false = cbits L k from rfl)
    generalize ceach L k false = q at *
    generalize cbits L k = s at *
    clear hv k1 HV hl
    go_enter Try.func30, Try.ntmps30
    go_upto_region 1 with fail
    generalize w.alloc (.cells #[.int .i64 k, .bool false] 50) = w1 at *
    generalize w.heap.size = g at *
    go_wp2_with (go_at_call 50; refine HB.out.mono ?_; rintro e w2 ⟨rfl, rfl⟩)
    go_ret
    exact ⟨by rw [HE.out]; rfl, K1.out⟩
  | true =>
    have HW := Lib.hid (cwidth_any _ L _ HV)
    have HL := Lib.hid hl
    by_cases hc : nrs L = true ∧ (cw L : Int) ≤ k ∧ k ≤ 31
    · obtain ⟨c1, c2, c3⟩ := hc
      have hq : ceach L k true = 5 + (L.length : Int) * k := by simp [ceach, c1, c2, c3, Int.mul_comm]
      have HQ := Lib.hid hq
      have e1 : cwid L = (cw L : Int) := by simp [cwid, c1]
      rw [e1] at HW
      have t1 : decide ((cw L : Int) < 0) = false := decide_eq_false (by omega)
      have t2 : decide (k < (cw L : Int)) = false := decide_eq_false (by omega)
      have t3 : decide (31 < k) = false := decide_eq_false (by omega)
      have HR := Lib.hid (fun w => raw_any L.length k w HL.out (by omega) (by omega))
      generalize ceach L k true = q at *
      clear hv k1 HV hl c1 c2 c3 e1 hq
      generalize cw L = c at *
      generalize L.length = l at *
      go_enter Try.func30, Try.ntmps30
      go_upto_region 1 with fail
      generalize w.alloc (.cells #[.int .i64 k, .bool true] 50) = w1 at *
      generalize w.heap.size = g at *
      go_wp2_with (first | (go_at_call 36; refine HW.out.mono ?_; rintro e w2 ⟨rfl, rfl⟩) | (go_at_call 51; refine (HR.out _).mono ?_; rintro e w3 ⟨rfl, rfl⟩))
      go_ret
      exact ⟨by rw [HQ.out]; rfl, K1.out⟩
    · have hq : ceach L k true = -1 := by simp only [ceach, if_true]; rw [if_neg hc]
      have HQ := Lib.hid hq
      have hcases : decide (cwid L < 0) = true ∨ (decide (cwid L < 0) = false ∧ decide (k < cwid L) = true) ∨ (decide (cwid L < 0) = false ∧ decide (k < cwid L) = false ∧ decide (31 < k) = true) := by
        simp only [decide_eq_true_eq, decide_eq_false_iff_not]
        unfold cwid
        cases hn : nrs L with
        | false => simp
        | true =>
          simp only [hn, true_and] at hc
          rw [if_pos rfl]
          omega
      generalize cwid L = c at *
      generalize ceach L k true = q at *
      clear hv k1 HV hl hc hq
      generalize L.length = l at *
      go_enter Try.func30, Try.ntmps30
      go_upto_region 1 with fail
      generalize w.alloc (.cells #[.int .i64 k, .bool true] 50) = w1 at *
      generalize w.heap.size = g at *
      rcases hcases with a1 | ⟨a1, a2⟩ | ⟨a1, a2, a3⟩
      all_goals
        go_wp2_with (first | (go_at_call 36; refine HW.out.mono ?_; rintro e w2 ⟨rfl, rfl⟩))
        go_ret
        exact ⟨by rw [HQ.out]; rfl, K1.out⟩

end Go.Proofs.Ytlbnjclchmnomaa

namespace Go.Proofs.Ytlbnjclchmnomaa
open Go.RowKit Bx

/-- The sum, i numbers told: the others have k + 1 bits each so far. -/
def psum (L : List Int) (k i : Nat) : Nat := sN (L.take i) k + (L.length - i) * (k + 1)

theorem psum_zero (L : List Int) (k : Nat) : psum L k 0 = L.length * (k + 1) := by simp [psum, sN]
theorem psum_last (L : List Int) (k : Nat) : psum L k L.length = sN L k := by simp [psum]
theorem psum_step {L : List Int} {i : Nat} (hi : i < L.length) (k : Nat) : psum L k (i + 1) = psum L k i + fd (L.getD i 0) / 2 ^ k := by
  unfold psum
  rw [sN_step hi]
  obtain ⟨r, hr⟩ : ∃ r, L.length - i = r + 1 := ⟨L.length - i - 1, by omega⟩
  have hr2 : L.length - (i + 1) = r := by omega
  rw [hr, hr2, Nat.succ_mul]
  omega
theorem psum_le (L : List Int) (k i : Nat) : psum L k i ≤ sN L k := by
  have h : sN L k = sN (L.take i) k + sN (L.drop i) k := by rw [← sN_append, List.take_append_drop]
  have h2 := sN_low (L.drop i) k
  rw [List.length_drop] at h2
  unfold psum
  omega

def BkInv (v : Value) (L : List Int) (M : Int) (w : World) (a : Act) (w' : World) : Prop :=
  a.defers = [] ∧ a.tmps.size = 49 ∧ a.tmps[0]? = some v ∧ a.tmps[1]? = some (.int .i64 M) ∧ ∃ b k1 : Nat, k1 = b + 1 ∧ b ≤ kk M ∧ a.tmps[8]? = some (.int .i64 (k1 : Int)) ∧ a.tmps[6]? = some (.int .i64 (b : Int)) ∧ a.tmps[7]? = some (.int .i64 (sN L b : Int)) ∧ bk L b = b ∧ w' = w

def BkIn (v : Value) (L : List Int) (M : Int) (b k1 s0 : Nat) (w : World) (a : Act) (w' : World) : Prop :=
  a.defers = [] ∧ a.tmps.size = 49 ∧ a.tmps[0]? = some v ∧ a.tmps[1]? = some (.int .i64 M) ∧ a.tmps[8]? = some (.int .i64 (k1 : Int)) ∧ a.tmps[6]? = some (.int .i64 (b : Int)) ∧ a.tmps[7]? = some (.int .i64 (s0 : Int)) ∧ a.tmps[27]? = some v ∧ a.tmps[28]? = some (.int .i64 (L.length : Int)) ∧
  ∃ i : Nat, i ≤ L.length ∧ a.tmps[29]? = some (.int .i64 (i : Int)) ∧ a.tmps[9]? = some (.int .i64 (psum L k1 i : Int)) ∧ psum L k1 i < s0 ∧ w' = w

theorem bk_nums {L : List Int} {k1 k2 i : Nat} (hn : nrs L = true) (hl : L.length ≤ 1048576) (hk : k2 = k1 + 1) (hb : k1 ≤ 30) (hi : i < L.length) :
    ∃ z x : Nat, sz (L.getD i 0) (k1 : Int) = (z : Int) ∧ wrap64 ((z : Int) - (k2 : Int)) = (x : Int) ∧
    wrap64 ((psum L k1 i : Int) + (x : Int)) = (psum L k1 (i + 1) : Int) ∧ wrap64 ((i : Int) + 1) = ((i + 1 : Nat) : Int) := by
  subst hk
  have hr := nrs_get hn i hi
  have h1 := psum_step hi k1
  have h2 := psum_le L k1 (i + 1)
  have h3 := sN_big hn hl k1 hb
  have e : kk ((k1 : Nat) : Int) = k1 := by unfold kk; omega
  have es : sz (L.getD i 0) (k1 : Int) = ((fd (L.getD i 0) / 2 ^ k1 : Nat) : Int) + 1 + (k1 : Int) := by simp only [sz, hr, if_true, e]
  refine ⟨fd (L.getD i 0) / 2 ^ k1 + 1 + k1, fd (L.getD i 0) / 2 ^ k1, ?_⟩
  rw [es]
  generalize fd (L.getD i 0) / 2 ^ k1 = x at *
  refine ⟨by omega, ?_, ?_, ?_⟩
  · rw [w64_in _ (by omega)]; omega
  · rw [w64_in _ (by omega)]; omega
  · rw [w64_in _ (by omega)]; omega

theorem bk_head {L : List Int} {k1 k2 : Nat} (hl : L.length ≤ 1048576) (hk : k2 = k1 + 1) (hb : k1 ≤ 30) : wrap64 ((k1 : Int) + 1) = (k2 : Int) ∧ wrap64 ((L.length : Int) * (k2 : Int)) = (psum L k1 0 : Int) := by
  subst hk
  have h : L.length * (k1 + 1) ≤ 1048576 * 32 := Nat.mul_le_mul hl (by omega)
  have e : (L.length : Int) * ((k1 + 1 : Nat) : Int) = ((L.length * (k1 + 1) : Nat) : Int) := by simp
  rw [psum_zero, e]
  exact ⟨by rw [w64_in _ (by omega)]; omega, by rw [w64_in _ (by omega)]⟩

theorem nearer60 {k1 k2 : Nat} (h : k2 = k1 + 1) (hb : k1 ≤ 30) : 60 - k2 < 60 - k1 := by omega

end Go.Proofs.Ytlbnjclchmnomaa

namespace Go.Proofs.Ytlbnjclchmnomaa
open Go.RowKit Bx

/-- A result of three: a part that lives in memory, and two numbers. -/
theorem results_part {fn : Func} {p u v : Tmp} (h : fn.results = #[.cell p 50, .tmp u, .tmp v]) (tmps : Array Value) (w : World) (g : Nat) (cs : Array Value) (x y : Int)
    (hp : tmps.getD p undef = .pointer (some ⟨g, 0, none⟩)) (hg : w.heap[g]? = some (.cells cs 50 (0, 0))) (hc : cs.size = 2) (hu : tmps.getD u undef = .int .i64 x) (hv : tmps.getD v undef = .int .i64 y) :
    (results fn tmps).run Try.prog w = .ok (.tuple #[.agg cs, .int .i64 x, .int .i64 y]) w := by
  have h1 := run_loadVar_row (P := Try.prog) w g 50 50 cs (0, 0) _ hg Try.underlying50 rfl (by rw [hc]; exact size_part)
  simp only [Array.getD_eq_getD_getElem?] at hp hu hv
  simp only [results, h]
  simp [hp, asAddr, h1, hu, hv, Result.andThen]

theorem one_part (k : Int) (r : Bool) : (#[.int .i64 k, .bool r] : Array Value).all (·.oneCell') = true := by simp [Value.oneCell']

/-- What Best answers. -/
def bestV (L : List Int) (m : Nat) : Value := .tuple #[.agg #[.int .i64 (bestK L m), .bool (bestR L m)], .int .i64 (bestN L m), .int .i64 (bestE L)]

theorem bestV_far {L : List Int} (h : nrs L = false) (m : Nat) : bestV L m = .tuple #[.agg #[.int .i64 0, .bool false], .int .i64 0, .int .i64 6] := by
  obtain ⟨h1, h2, h3, h4⟩ := best_far h m
  rw [bestV, h1, h2, h3, h4]

theorem bestV_raw {L : List Int} (h : nrs L = true) {m : Nat} (hr : cbR L m = true) : bestV L m = .tuple #[.agg #[.int .i64 (cw L : Int), .bool true], .int .i64 ((5 + L.length * cw L : Nat) : Int), .int .i64 0] := by
  obtain ⟨h1, h2, h3, h4⟩ := best_near h m
  rw [bestV, h1, h2, h3, h4, cbK, cbN, hr, if_pos rfl, if_pos rfl]

theorem bestV_k {L : List Int} (h : nrs L = true) {m : Nat} (hr : cbR L m = false) : bestV L m = .tuple #[.agg #[.int .i64 (bk L m : Int), .bool false], .int .i64 (sN L (bk L m) : Int), .int .i64 0] := by
  obtain ⟨h1, h2, h3, h4⟩ := best_near h m
  rw [bestV, h1, h2, h3, h4, cbK, cbN, hr, if_neg (by simp), if_neg (by simp)]

theorem kk_min (most M : Int) (h : (if 30 < most then (30 : Int) else most) = M) : M ≤ 30 ∧ kk M = kk most := by
  unfold kk
  split at h <;> omega

theorem part_start (w : World) : ∀ w', w' = w.alloc (.cells #[.int .i64 0, .bool false] 50) → w'.heap[w.heap.size]? = some (.cells #[.int .i64 0, .bool false] 50 (0, 0)) ∧ Kept Nix w w' ∧ w.heap.size < w'.heap.size := by
  rintro w' rfl
  exact ⟨heap_alloc_new _ _, (Kept.refl _ w).alloc _, by simp⟩

theorem part_second {w : World} (w2 : World) (cs : Array Value) (t : TypeId) (b : Int) (h4 : w2.heap[w.heap.size]? = some (.cells cs t (0, 0))) (hsz : w.heap.size < w2.heap.size) (k0 : Kept Nix w w2) :
    ∀ w3, w3 = w2.alloc (.cells #[.int .i64 b, .bool false] 50) → w3.heap[w2.heap.size]? = some (.cells #[.int .i64 b, .bool false] 50 (0, 0)) ∧ w3.heap[w.heap.size]? = some (.cells cs t (0, 0)) ∧ (Kept Nix w w3 ∧ w.heap.size < w2.heap.size) ∧ w.heap.size ≠ w2.heap.size ∧ True := by
  rintro w3 rfl
  exact ⟨heap_alloc_new _ _, ((Kept.refl Nix w2).alloc _).heap h4 id, ⟨k0.alloc _, hsz⟩, by omega, trivial⟩

end Go.Proofs.Ytlbnjclchmnomaa
