/- Package cost: Bits, Width, Each. -/
import Derived.Test.YtliggpidkdiinaaCostMath
import Derived.Test.YtliggpidkdiinaaInDepth
import Derived.Test.YtliggpidkdiinaaFill
namespace Go.Proofs.Ytliggpidkdiinaa
open Go.RowKit Bx

def CBInv (v : Value) (L : List Int) (k : Int) (w : World) (a : Act) (w' : World) : Prop :=
  a.defers = [] ∧ a.tmps.size = 25 ∧ a.tmps[1]? = some (.int .i64 k) ∧ a.tmps[9]? = some v ∧ a.tmps[10]? = some (.int .i64 (L.length : Int)) ∧ ∃ i : Nat, i ≤ L.length ∧ a.tmps[11]? = some (.int .i64 (i : Int)) ∧ a.tmps[5]? = some (.int .i64 (sN (L.take i) (kk k) : Int)) ∧ nrs (L.take i) = true ∧ w' = w

theorem cb_nums {L : List Int} {i : Nat} {k : Int} (hi : i < L.length) (hl : L.length ≤ 1048576) (hn : nrs (L.take i) = true) (h : nr (L.getD i 0) = true) :
    wrap64 ((sN (L.take i) (kk k) : Int) + sz (L.getD i 0) k) = (sN (L.take (i + 1)) (kk k) : Int) ∧ wrap64 ((i : Int) + 1) = ((i + 1 : Nat) : Int) ∧ decide (sz (L.getD i 0) k < 0) = false := by
  have h1 := sN_big (nrs_step hn hi h) (by simp; omega) (kk k) (kk_le k)
  have h2 := sN_step hi (kk k)
  have e : sz (L.getD i 0) k = ((fd (L.getD i 0) / 2 ^ kk k : Nat) : Int) + 1 + (kk k : Int) := by simp only [sz, h, if_true]
  rw [e]
  generalize fd (L.getD i 0) / 2 ^ kk k = x at *
  generalize kk k = y at *
  refine ⟨?_, ?_, by rw [decide_eq_false_iff_not]; omega⟩
  · rw [w64_in _ (by omega)]; omega
  · rw [w64_in _ (by omega)]; omega

set_option maxHeartbeats 1000000 in
theorem cbits_any (v : Value) (L : List Int) (k : Int) (w : World) (hv : Sl w v (ivs L)) (hl : L.length ≤ 1048576) :
    Calls Try.prog 31 #[v, .int .i64 k] w fun e w' => e = .returned (.int .i64 (cbits L k)) ∧ w' = w := by
  obtain ⟨ao, ca, rfl, -⟩ := hv.ints
  have HV := Lib.hid hv
  have HL := Lib.hid hl
  have HE := Lib.hid (show cbits L k = if nrs L = true then (sN L (kk k) : Int) else -1 from rfl)
  generalize cbits L k = q at *
  clear hv hl
  go_enter Try.func31, Try.ntmps31
  go_wp2
  refine wp_loop (CBInv (.slice ao L.length ca) L k w) (fun a _ => L.length - (intOf (a.tmps.getD 11 undef)).toNat) ?_ ?_
  · exact ⟨rfl, rfl, rfl, rfl, rfl, 0, Nat.zero_le _, rfl, rfl, rfl, rfl⟩
  · rintro ⟨tm, df⟩ w1 ⟨rfl, hs, e1, e9, e10, i, hi, e11, e5, hn, rfl⟩
    simp only at hs e1 e9 e10 e11 e5
    obtain ⟨f, hf, hg⟩ := fr_open hs
    have g1 := hg _ _ e1
    have g9 := hg _ _ e9
    have g10 := hg _ _ e10
    have g11 := hg _ _ e11
    have g5 := hg _ _ e5
    simp only [List.range, List.range.loop, List.map] at hf
    rw [g1, g9, g10, g11, g5] at hf
    clear g1 g9 g10 g11 g5 hg hs e1 e9 e10 e11 e5
    subst hf
    have HN := Lib.hid hn
    clear hn
    by_cases hlt : i < L.length
    · obtain ⟨b1, o1, rfl, hc1⟩ := cell_kept HV.out i hlt
      have x1 := hc1 _ (Kept.refl _ _)
      have hdd : decide (i < L.length) = true := decide_eq_true hlt
      have hi1 : (i : Int) < (L.length : Int) := by omega
      have HI := Lib.hid hlt
      have SZ := Lib.hid (size_any (L.getD i 0) k w1)
      clear hc1
      cases hr : nr (L.getD i 0) with
      | true =>
        obtain ⟨m1, m2, m3⟩ := cb_nums (k := k) hlt HL.out HN.out hr
        have HN2 := Lib.hid (nrs_step HN.out hlt hr)
        have M := Lib.hid (And.intro m1 m2)
        clear hlt hi hr m1 m2
        generalize sz (L.getD i 0) k = s at *
        generalize L.getD i 0 = x at *
        generalize hs1 : sN (L.take (i + 1)) (kk k) = s1 at *
        have HS1 := Lib.hid hs1
        clear hs1
        generalize sN (L.take i) (kk k) = s0 at *
        go_wp2_with (go_at_call 39; refine SZ.out.mono ?_; rintro e w2 ⟨rfl, rfl⟩)
        rw [M.out.1, M.out.2]
        exact ⟨⟨rfl, rfl, rfl, rfl, rfl, i + 1, HI.out, rfl, by rw [HS1.out]; rfl, HN2.out, rfl⟩, nearer HI.out rfl⟩
      | false =>
        have e1 : sz (L.getD i 0) k = -1 := by unfold sz; rw [hr]; rfl
        rw [e1] at SZ
        have hq := HE.out
        rw [nrs_not hlt hr, if_neg (by simp)] at hq
        have HQ := Lib.hid hq
        clear hlt hi hr e1 hq
        generalize L.getD i 0 = x at *
        generalize sN (L.take i) (kk k) = s0 at *
        go_wp2_with (go_at_call 39; refine SZ.out.mono ?_; rintro e w2 ⟨rfl, rfl⟩)
        go_ret
        exact ⟨by rw [HQ.out]; rfl, rfl⟩
    · have hie : i = L.length := by omega
      subst hie
      have hdd : decide (L.length < L.length) = false := decide_eq_false hlt
      have hn := HN.out
      rw [List.take_length] at hn
      have hq := HE.out
      rw [hn, if_pos rfl] at hq
      have HQ := Lib.hid hq
      rw [List.take_length]
      clear hlt hi hn hq
      generalize sN L (kk k) = s0 at *
      go_wp2
      go_ret
      exact ⟨by rw [HQ.out]; rfl, rfl⟩

def CWInv (v : Value) (L : List Int) (w : World) (a : Act) (w' : World) : Prop :=
  a.defers = [] ∧ a.tmps.size = 27 ∧ a.tmps[6]? = some v ∧ a.tmps[7]? = some (.int .i64 (L.length : Int)) ∧ ∃ i : Nat, i ≤ L.length ∧ a.tmps[8]? = some (.int .i64 (i : Int)) ∧ a.tmps[3]? = some (.int .i64 (cw (L.take i) : Int)) ∧ nrs (L.take i) = true ∧ w' = w

/-- In the inner loop: the width is still j. -/
def CWIn (v : Value) (l i W m : Nat) (x : Int) (w : World) (a : Act) (w' : World) : Prop :=
  a.defers = [] ∧ a.tmps.size = 27 ∧ a.tmps[5]? = some (.int .i64 x) ∧ a.tmps[6]? = some v ∧ a.tmps[7]? = some (.int .i64 (l : Int)) ∧ a.tmps[8]? = some (.int .i64 (i : Int)) ∧ ∃ j : Nat, W ≤ j ∧ j ≤ max W m ∧ a.tmps[3]? = some (.int .i64 (j : Int)) ∧ w' = w

theorem cw_in {x : Int} {j : Nat} (hj : j ≤ 40) : (x ≠ 0 ∧ inD x (j : Int) = false ∧ j < blen (fd x)) ∨ (x = 0 ∧ blen (fd x) ≤ j) ∨ (x ≠ 0 ∧ inD x (j : Int) = true ∧ blen (fd x) ≤ j) := by
  have h := fits_in x j (by omega)
  by_cases h0 : x = 0
  · exact .inr (.inl ⟨h0, h.1 (.inr h0)⟩)
  · cases hi : inD x (j : Int) with
    | true => exact .inr (.inr ⟨h0, rfl, h.1 (.inl hi)⟩)
    | false =>
      refine .inl ⟨h0, rfl, ?_⟩
      have : ¬ blen (fd x) ≤ j := fun hb => by
        rcases h.2 hb with h1 | h1
        · rw [hi] at h1; cases h1
        · exact h0 h1
      omega

set_option maxHeartbeats 1000000 in
theorem cwidth_any (v : Value) (L : List Int) (w : World) (hv : Sl w v (ivs L)) :
    Calls Try.prog 16 #[v] w fun e w' => e = .returned (.int .i64 (cwid L)) ∧ w' = w := by
  obtain ⟨ao, ca, rfl, h1, h2, -⟩ := hv.ints
  have HV := Lib.hid hv
  have HL := Lib.hid (show L.length ≤ 9223372036854775807 by simp only [maxLen] at h2; omega)
  have HE := Lib.hid (show cwid L = if nrs L = true then (cw L : Int) else -1 from rfl)
  generalize cwid L = q at *
  clear hv h1 h2
  go_enter Try.func16, Try.ntmps16
  go_wp2
  refine wp_loop (CWInv (.slice ao L.length ca) L w) (fun a _ => L.length - (intOf (a.tmps.getD 8 undef)).toNat) ?_ ?_
  · exact ⟨rfl, rfl, rfl, rfl, 0, Nat.zero_le _, rfl, rfl, rfl, rfl⟩
  · rintro ⟨tm, df⟩ w1 ⟨rfl, hs, e6, e7, i, hi, e8, e3, hn, rfl⟩
    simp only at hs e6 e7 e8 e3
    obtain ⟨f, hf, hg⟩ := fr_open hs
    have g6 := hg _ _ e6
    have g7 := hg _ _ e7
    have g8 := hg _ _ e8
    have g3 := hg _ _ e3
    simp only [List.range, List.range.loop, List.map] at hf
    rw [g6, g7, g8, g3] at hf
    clear g6 g7 g8 g3 hg hs e6 e7 e8 e3
    subst hf
    have HN := Lib.hid hn
    clear hn
    by_cases hlt : i < L.length
    · obtain ⟨b1, o1, rfl, hc1⟩ := cell_kept HV.out i hlt
      have x1 := hc1 _ (Kept.refl _ _)
      have hdd : decide (i < L.length) = true := decide_eq_true hlt
      have hi1 : (i : Int) < (L.length : Int) := by omega
      have HI := Lib.hid hlt
      have NR := Lib.hid (near_any (L.getD i 0) w1)
      clear hc1
      cases hr : nr (L.getD i 0) with
      | true =>
        have hn2 := nrs_step HN.out hlt hr
        have HN2 := Lib.hid hn2
        have hst := cw_step hlt
        have hbig := cw_near hn2
        have HW0 := Lib.hid (show wrap64 ((i : Int) + 1) = ((i + 1 : Nat) : Int) by have := HL.out; rw [w64_in _ (by omega)]; omega)
        rw [hr] at NR
        rw [hst] at hbig
        have HST := Lib.hid hst
        have HBIG := Lib.hid hbig
        clear hlt hi hr hn2 hst hbig
        generalize L.getD i 0 = x at *
        generalize hW1 : cw (L.take (i + 1)) = W1 at *
        have HW1 := Lib.hid hW1
        clear hW1
        generalize cw (L.take i) = W at *
        go_wp2_with (go_at_call 29; refine NR.out.mono ?_; rintro e w2 ⟨rfl, rfl⟩)
        refine wp_loop (CWIn (.slice (some ⟨b1, o1, none⟩) L.length ca) L.length i W (blen (fd x)) x w1) (fun a _ => 60 - (intOf (a.tmps.getD 3 undef)).toNat) ?_ ?_
        · exact ⟨rfl, rfl, rfl, rfl, rfl, rfl, W, Nat.le_refl _, Nat.le_max_left _ _, rfl, rfl⟩
        · clear x1 hi1 NR
          rintro ⟨tm, df⟩ w2 ⟨rfl, hs, e5, e6, e7, e8, j, hj1, hj2, e3, rfl⟩
          simp only at hs e5 e6 e7 e8 e3
          obtain ⟨f2, hf, hg⟩ := fr_open hs
          have g5 := hg _ _ e5
          have g6 := hg _ _ e6
          have g7 := hg _ _ e7
          have g8 := hg _ _ e8
          have g3 := hg _ _ e3
          simp only [List.range, List.range.loop, List.map] at hf
          rw [g5, g6, g7, g8, g3] at hf
          clear g5 g6 g7 g8 g3 hg hs e5 e6 e7 e8 e3
          subst hf
          have hj40 : j ≤ 40 := by have := HBIG.out; omega
          have HJ := Lib.hid (And.intro hj1 hj2)
          have IN := Lib.hid (in_any x j w2)
          have HJ1 := Lib.hid (show wrap64 ((j : Int) + 1) = ((j + 1 : Nat) : Int) by rw [w64_in _ (by omega)]; omega)
          rcases cw_in (x := x) hj40 with ⟨t0, t1, t2⟩ | ⟨t0, t2⟩ | ⟨t0, t1, t2⟩
          · have tx : (x != 0) = true := bne_iff_ne.2 t0
            rw [t1] at IN
            have T2 := Lib.hid t2
            have HJ40 := Lib.hid hj40
            clear t0 t1 t2 hj1 hj2 hj40
            go_wp2_with (go_at_call 30; refine IN.out.mono ?_; rintro e w3 ⟨rfl, rfl⟩)
            rw [HJ1.out]
            refine ⟨⟨rfl, rfl, rfl, rfl, rfl, rfl, j + 1, by have := HJ.out; omega, by have := HJ.out; have := T2.out; omega, rfl, rfl⟩, nearer (by have := HJ40.out; omega) rfl⟩
          · have tx : (x != 0) = false := by simp [t0]
            have hje : (j : Int) = (W1 : Int) := by have := HJ.out; have := HST.out; omega
            have HJE := Lib.hid hje
            clear t0 t2 hj1 hj2 hj40 hje
            go_wp2_with fail
            rw [HW0.out, HJE.out]
            exact ⟨⟨rfl, rfl, rfl, rfl, i + 1, HI.out, rfl, by rw [HW1.out]; rfl, HN2.out, rfl⟩, nearer HI.out rfl⟩
          · have tx : (x != 0) = true := bne_iff_ne.2 t0
            have hje : (j : Int) = (W1 : Int) := by have := HJ.out; have := HST.out; omega
            have HJE := Lib.hid hje
            rw [t1] at IN
            clear t0 t1 t2 hj1 hj2 hj40 hje
            go_wp2_with (go_at_call 30; refine IN.out.mono ?_; rintro e w3 ⟨rfl, rfl⟩)
            rw [HW0.out, HJE.out]
            exact ⟨⟨rfl, rfl, rfl, rfl, i + 1, HI.out, rfl, by rw [HW1.out]; rfl, HN2.out, rfl⟩, nearer HI.out rfl⟩
      | false =>
        have hq := HE.out
        rw [nrs_not hlt hr, if_neg (by simp)] at hq
        have HQ := Lib.hid hq
        rw [hr] at NR
        clear hlt hi hr hq
        generalize L.getD i 0 = x at *
        generalize cw (L.take i) = W at *
        go_wp2_with (go_at_call 29; refine NR.out.mono ?_; rintro e w2 ⟨rfl, rfl⟩)
        go_ret
        exact ⟨by rw [HQ.out]; rfl, rfl⟩
    · have hie : i = L.length := by omega
      subst hie
      have hdd : decide (L.length < L.length) = false := decide_eq_false hlt
      have hn := HN.out
      rw [List.take_length] at hn
      have hq := HE.out
      rw [hn, if_pos rfl] at hq
      have HQ := Lib.hid hq
      rw [List.take_length]
      clear hlt hi hn hq
      generalize cw L = s0 at *
      go_wp2
      go_ret
      exact ⟨by rw [HQ.out]; rfl, rfl⟩

end Go.Proofs.Ytliggpidkdiinaa
