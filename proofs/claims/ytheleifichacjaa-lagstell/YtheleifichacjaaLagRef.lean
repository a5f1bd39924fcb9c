/- The reference of layer 9: powers of 2, what is divided and rounded down, Fit. -/
import Derived.Test.YtheleifichacjaaLagWhole
namespace Go.Proofs.Ytheleifichacjaa
open Go.RowKit Bx

theorem down_dv (a p : Int) (hp : 0 < p) (ha : -9223372036854775807 ≤ a ∧ a ≤ 9223372036854775807) : wrap64 (a.tdiv p) = a.tdiv p ∧ (a.tmod p < 0 → wrap64 (a.tdiv p - 1) = a / p) ∧ (¬ a.tmod p < 0 → a.tdiv p = a / p) := by
  have h1 := Int.tmod_add_mul_tdiv a p
  have h2 := Int.tmod_lt_of_pos a hp
  have h3 : -p < a.tmod p := by
    rcases Int.le_total 0 a with h | h
    · have := Int.tmod_nonneg p h; omega
    · have h4 := Int.tmod_lt_of_pos (-a) hp
      rw [Int.neg_tmod] at h4
      omega
  have h5 : (a.tdiv p).natAbs ≤ a.natAbs := by rw [Int.natAbs_tdiv]; exact Nat.div_le_self _ _
  have e1 : a.tmod p < 0 → a / p = a.tdiv p - 1 := fun h => by
    refine ((Int.ediv_emod_unique (r := a.tmod p + p) (q := a.tdiv p - 1) hp).2 ⟨?_, by omega, by omega⟩).1
    rw [Int.mul_sub, Int.mul_one]
    omega
  have e2 : ¬ a.tmod p < 0 → a / p = a.tdiv p := fun h => ((Int.ediv_emod_unique (r := a.tmod p) (q := a.tdiv p) hp).2 ⟨h1, by omega, h2⟩).1
  have h6 : (a / p).natAbs ≤ a.natAbs + 1 := by
    by_cases h : a.tmod p < 0
    · rw [e1 h]; omega
    · rw [e2 h]; omega
  refine ⟨w64_in _ (by omega), fun h => ?_, fun h => (e2 h).symm⟩
  rw [e1 h] at h6 ⊢
  exact w64_in _ (by omega)

set_option maxHeartbeats 1000000 in
theorem down_by (a p : Int) (hp : 0 < p) (ha : -9223372036854775807 ≤ a ∧ a ≤ 9223372036854775807) (w : World) : Calls Try.prog 17 #[.int .i64 a, .int .i64 p] w fun e w' => e = .returned (.int .i64 (a / p)) ∧ w' = w := by
  obtain ⟨a1, a2, a3⟩ := down_dv a p hp ha
  have hz : ¬ p = 0 := by omega
  by_cases hm : a.tmod p < 0
  · have d : decide (a.tmod p < 0) = true := decide_eq_true hm
    have a5 := a2 hm
    clear a2 a3 ha hm hp
    generalize a / p = q at *
    go_enter Try.func17, Try.ntmps17
    go_wp2
    go_ret
    first | exact ⟨rfl, rfl⟩ | exact ⟨congrArg (fun z => Ending.returned (.int .i64 z)) a5, rfl⟩
  · have d : decide (a.tmod p < 0) = false := decide_eq_false hm
    have a5 := a3 hm
    have A5 := Lib.hid a5
    clear a2 a3 ha hm a5 hp
    generalize a / p = q at *
    go_enter Try.func17, Try.ntmps17
    go_wp2
    go_ret
    first | exact ⟨congrArg (fun z => Ending.returned (.int .i64 z)) A5.out, rfl⟩ | exact ⟨congrArg (fun z => Ending.returned (.int .i64 z)) (a1.trans A5.out), rfl⟩

def PowInv (n : Nat) (w : World) (a : Act) (w' : World) : Prop :=
  a.defers = [] ∧ a.tmps.size = 13 ∧ a.tmps[0]? = some (.int .i64 (n : Int)) ∧ ∃ i : Nat, i ≤ n ∧ a.tmps[4]? = some (.int .i64 (i : Int)) ∧ a.tmps[3]? = some (.int .i64 ((2 : Int) ^ i)) ∧ w = w'

theorem pow_top (s : Nat) (h : s ≤ 40) : 1 ≤ (2 : Int) ^ s ∧ (2 : Int) ^ s ≤ 1099511627776 := ⟨pow_le2 (a := 0) (Nat.zero_le s), pow_le2 (b := 40) h⟩

theorem pow_nums (n i : Nat) (hn : n ≤ 40) (hi : i < n) : wrap64 ((i : Int) + 1) = ((i + 1 : Nat) : Int) ∧ (2 * (2 : Int) ^ i = 2 ^ (i + 1)) ∧ wrap64 ((2 : Int) ^ (i + 1)) = 2 ^ (i + 1) ∧ decide ((i : Int) < (n : Int)) = true ∧ decide (i < n) = true := by
  have h := pow_top (i + 1) (by omega)
  exact ⟨by unfold wrap64; omega, by rw [Int.pow_succ, Int.mul_comm], w64_in _ (by omega), decide_eq_true (by omega), decide_eq_true hi⟩

set_option maxHeartbeats 1000000 in
theorem power_any (n : Nat) (hn : n ≤ 40) (w : World) : Calls Try.prog 18 #[.int .i64 (n : Int)] w fun e w' => e = .returned (.int .i64 ((2 : Int) ^ n)) ∧ w' = w := by
  have HN := Lib.hid hn
  clear hn
  go_enter Try.func18, Try.ntmps18
  go_wp2
  refine wp_loop (PowInv n w) (fun a _ => n - (intOf (a.tmps.getD 4 undef)).toNat) ?_ ?_
  · exact ⟨rfl, rfl, rfl, 0, Nat.zero_le _, rfl, rfl, rfl⟩
  · rintro ⟨tm, df⟩ w1 ⟨rfl, hs, h0, i, hi, h4, h3, rfl⟩
    simp only at hs h0 h4 h3
    obtain ⟨f, hf, hg⟩ := fr_open hs
    have e0 := hg _ _ h0
    have e4 := hg _ _ h4
    have e3 := hg _ _ h3
    simp only [List.range, List.range.loop, List.map] at hf
    rw [e0, e4, e3] at hf
    clear e0 e4 e3 hg hs h0 h4 h3
    subst hf
    by_cases hlt : i < n
    · obtain ⟨n1, n2, n3, n4, n5⟩ := pow_nums n i HN.out hlt
      have N1 := Lib.hid n1
      have N2 := Lib.hid n2
      have N3 := Lib.hid n3
      have HI := Lib.hid hlt
      clear n1 n2 n3 hlt hi
      generalize (2 : Int) ^ i = p at *
      generalize hq : (2 : Int) ^ (i + 1) = q at *
      have HQ := Lib.hid hq
      clear hq
      go_wp2
      rw [N1.out]
      refine ⟨⟨rfl, rfl, rfl, i + 1, HI.out, rfl, ?_, rfl⟩, nearer HI.out rfl⟩
      show some (Value.int IntKind.i64 _) = _
      rw [N2.out]
      exact congrArg (fun z => some (Value.int IntKind.i64 z)) (N3.out.trans HQ.out.symm)
    · have hd : decide ((i : Int) < (n : Int)) = false := decide_eq_false (by omega)
      have hd' : decide (i < n) = false := decide_eq_false hlt
      have him : i = n := by omega
      subst him
      clear hlt hi
      go_wp2
      go_ret
      exact ⟨rfl, rfl⟩

/-- Do all fit? -/
def fitsB (s : Nat) (zs : List Int) : Bool := zs.all (fun z => !(decide (z / (2 : Int) ^ s < -4194304) || decide (4194303 < z / (2 : Int) ^ s)))

theorem fitsB_iff (s : Nat) (zs : List Int) : fitsB s zs = true ↔ Fits s zs := by
  unfold fitsB Fits
  rw [List.all_eq_true]
  refine forall_congr' fun z => ?_
  refine imp_congr_right fun _ => ?_
  rw [← fits_iff]
  simp only [Bool.not_eq_true', Bool.or_eq_false_iff, decide_eq_false_iff_not]
  omega

theorem fitsB_take (s : Nat) (zs : List Int) (i : Nat) (h : i < zs.length) : fitsB s (zs.take (i + 1)) = (fitsB s (zs.take i) && !(decide (zs.getD i 0 / (2 : Int) ^ s < -4194304) || decide (4194303 < zs.getD i 0 / (2 : Int) ^ s))) := by
  unfold fitsB
  rw [List.take_succ_eq_append_getElem h, List.all_append]
  simp [List.getD, h]

def RFitO (v : Value) (zs : List Int) (w : World) (a : Act) (w' : World) : Prop :=
  a.defers = [] ∧ a.tmps.size = 32 ∧ a.tmps[0]? = some v ∧ ∃ s : Nat, s ≤ fit zs ∧ a.tmps[3]? = some (.int .i64 (s : Int)) ∧ ∃ nn, w' = w.drewN nn

def RFitI (v : Value) (zs : List Int) (s n : Nat) (w : World) (a : Act) (w' : World) : Prop :=
  a.defers = [] ∧ a.tmps.size = 32 ∧ a.tmps[0]? = some v ∧ a.tmps[3]? = some (.int .i64 (s : Int)) ∧ ∃ i : Nat, i ≤ n ∧ a.tmps[5]? = some (.int .i64 (i : Int)) ∧ a.tmps[4]? = some (.bool (fitsB s (zs.take i))) ∧ ∃ nn, w' = w.drewN nn

set_option maxHeartbeats 2000000 in
theorem rfit_any (v : Value) (zs : List Int) (w : World) (hs : Sl w v (ivs zs)) (hb : Bd 1099511627776 zs) :
    Calls Try.prog 12 #[v] w fun e w' => e = .returned (.int .i64 ((fit zs : Nat) : Int)) ∧ ∃ nn, w' = w.drewN nn := by
  obtain ⟨ao, cap, rfl, hl1, hl2, -⟩ := hs.ints
  have HL := Lib.hid (show zs.length ≤ 9223372036854775807 by simp only [maxLen] at hl2; omega)
  have SX := Lib.hid hs
  have HB := Lib.hid hb
  have HT := Lib.hid (fit_top hb)
  clear hs hl1 hl2 hb
  generalize hn : zs.length = n at *
  have HN := Lib.hid hn
  clear hn
  go_enter Try.func12, Try.ntmps12
  go_wp2
  refine wp_loop (RFitO (.slice ao n cap) zs w) (fun a _ => 40 - (intOf (a.tmps.getD 3 undef)).toNat) ?_ ?_
  · exact ⟨rfl, rfl, rfl, 0, Nat.zero_le _, rfl, 0, rfl⟩
  · rintro ⟨tm, df⟩ w1 ⟨rfl, hs, h0, s, hi, h3, nn, rfl⟩
    simp only at hs h0 h3
    obtain ⟨f, hf, hg⟩ := fr_open hs
    have e0 := hg _ _ h0
    have e3 := hg _ _ h3
    simp only [List.range, List.range.loop, List.map] at hf
    rw [e0, e3] at hf
    clear e0 e3 hg hs h0 h3
    subst hf
    have HS := Lib.hid hi
    have HS40 := Lib.hid (show s < 40 by have := HT.out; omega)
    have hd : decide ((s : Int) < 40) = true := decide_eq_true (by have := HS40.out; omega)
    have hd' : decide (s < 40) = true := decide_eq_true HS40.out
    have SX1 := Lib.hid (SX.out.nix ((Kept.refl _ w).drewN nn))
    clear hi
    generalize hwb : w.drewN nn = w1 at *
    have HWB := Lib.hid hwb
    clear hwb
    go_wp2
    clear hd hd'
    refine wp_loop (RFitI (.slice ao n cap) zs s n w1) (fun a _ => n - (intOf (a.tmps.getD 5 undef)).toNat) ?_ ?_
    · exact ⟨rfl, rfl, rfl, rfl, 0, Nat.zero_le _, rfl, rfl, 0, rfl⟩
    · rintro ⟨tm, df⟩ w2 ⟨rfl, hs, h0, h3, i, hi, h5, h4, n2, hw2⟩
      simp only at hs h0 h3 h5 h4
      have HW2 := Lib.hid hw2
      obtain ⟨f2, hf, hg⟩ := fr_open hs
      have e0 := hg _ _ h0
      have e3 := hg _ _ h3
      have e5 := hg _ _ h5
      have e4 := hg _ _ h4
      simp only [List.range, List.range.loop, List.map] at hf
      rw [e0, e3, e5, e4] at hf
      clear e0 e3 e5 e4 hg hs h0 h3 h5 h4
      subst hf
      have HT2 := Lib.hid (fitsB_take s zs i)
      by_cases hlt : i < n
      · have hi1 : (i : Int) < (n : Int) := by omega
        have hdd : decide (i < n) = true := decide_eq_true hlt
        have hw1 : wrap64 ((i : Int) + 1) = ((i + 1 : Nat) : Int) := by have := HL.out; unfold wrap64; omega
        obtain ⟨b1, o1, rfl, hc1⟩ := cell_kept SX1.out i (by rw [HN.out]; exact hlt)
        have c1 := hc1 w2 (by rw [hw2]; exact (Kept.refl _ w1).drewN n2)
        have PW := Lib.hid (fun w => power_any s (Nat.le_of_lt HS40.out) w)
        have hx := HB.out.any (by decide) i
        have DN := Lib.hid (fun w => down_by (zs.getD i 0) ((2 : Int) ^ s) (by have := pow_top s (Nat.le_of_lt HS40.out); omega) (by omega) w)
        have HTK := Lib.hid (HT2.out (by rw [HN.out]; exact hlt))
        have HI := Lib.hid hlt
        have HW1 := Lib.hid hw1
        clear hw1 hlt hi hc1 HT2 hx hw2
        generalize zs.getD i 0 = x at *
        generalize hq : x / (2 : Int) ^ s = q at *
        generalize (2 : Int) ^ s = p at *
        have HQ := Lib.hid hq
        clear hq
        go_wp2_with fail
        go_quiet (first | (go_at_call 18; exact Calls.quiet_of_same (PW.out _)) | (go_at_call 17; exact Calls.quiet_of_same (DN.out _)))
        have HW3 := Lib.hid (show w2.drewN nq = w1.drewN (n2 + nq) by rw [HW2.out, World.drewN_drewN])
        generalize hwx : w2.drewN nq = w3 at *
        clear hwx
        by_cases ha : q < -4194304
        · have hda : decide (q < -4194304) = true := decide_eq_true ha
          have HDA := Lib.hid hda
          clear ha
          go_upto_if 29 with fail
          clear hda
          go_wp2
          rw [HW1.out]
          refine ⟨⟨rfl, rfl, rfl, rfl, i + 1, HI.out, rfl, ?_, _, HW3.out⟩, nearer HI.out rfl⟩
          rw [HTK.out, HDA.out, Bool.true_or, Bool.not_true, Bool.and_false]
          rfl
        · have hda : decide (q < -4194304) = false := decide_eq_false ha
          have HDA := Lib.hid hda
          by_cases hb : 4194303 < q
          · have hdb : decide (4194303 < q) = true := decide_eq_true hb
            have HDB := Lib.hid hdb
            clear ha hb
            go_upto_if 29 with fail
            clear hda hdb
            go_wp2
            rw [HW1.out]
            refine ⟨⟨rfl, rfl, rfl, rfl, i + 1, HI.out, rfl, ?_, _, HW3.out⟩, nearer HI.out rfl⟩
            rw [HTK.out, HDA.out, HDB.out, Bool.false_or, Bool.not_true, Bool.and_false]
            rfl
          · have hdb : decide (4194303 < q) = false := decide_eq_false hb
            have HDB := Lib.hid hdb
            clear ha hb
            go_upto_if 29 with fail
            clear hda hdb
            go_wp2
            rw [HW1.out]
            refine ⟨⟨rfl, rfl, rfl, rfl, i + 1, HI.out, rfl, ?_, _, HW3.out⟩, nearer HI.out rfl⟩
            rw [HTK.out, HDA.out, HDB.out, Bool.false_or, Bool.not_false, Bool.and_true]
            rfl
      · have hdd : decide ((i : Int) < (n : Int)) = false := decide_eq_false (by omega)
        have hdd' : decide (i < n) = false := decide_eq_false hlt
        have him : i = n := by omega
        subst him
        rw [List.take_of_length_le (Nat.le_of_eq HN.out)]
        cases hfb : fitsB s zs with
        | true =>
          have hfs : s = fit zs := by
            have h1 := (fit_le zs s HB.out).2 ((fitsB_iff s zs).1 hfb)
            have h2 := HS.out
            omega
          have HFS := Lib.hid hfs
          have HW2' := Lib.hid hw2
          clear hlt hi hfb hfs hw2 HT2
          go_wp2
          go_ret
          exact ⟨by rw [← HFS.out]; rfl, nn + n2, by rw [HW2'.out, ← HWB.out, World.drewN_drewN]⟩
        | false =>
          have hfs : s + 1 ≤ fit zs := by
            have h2 := HS.out
            rcases Nat.lt_or_ge s (fit zs) with h | h
            · exact h
            · have := (fitsB_iff s zs).2 ((fit_le zs s HB.out).1 h)
              rw [hfb] at this
              exact absurd this (by decide)
          have hw1 : wrap64 ((s : Int) + 1) = ((s + 1 : Nat) : Int) := by have := HS40.out; unfold wrap64; omega
          have HFS := Lib.hid hfs
          have HW1 := Lib.hid hw1
          have HW2' := Lib.hid hw2
          clear hlt hi hfb hfs hw2 HT2 hw1
          go_wp2
          rw [HW1.out]
          exact ⟨⟨rfl, rfl, rfl, s + 1, HFS.out, rfl, nn + n2, by rw [HW2'.out, ← HWB.out, World.drewN_drewN]⟩, nearer HS40.out rfl⟩

end Go.Proofs.Ytheleifichacjaa
