/- Package lags: numbers that have gone down, sums, Of. -/
import Derived.Test.YtdifaaimjiflgaaLagFit
namespace Go.Proofs.Ytdifaaimjiflgaa
open Go.RowKit Bx

def FdInv (vx : Value) (L : List Int) (n g s : Nat) (w : World) (a : Act) (w' : World) : Prop :=
  a.defers = [] ∧ a.tmps.size = 27 ∧ a.tmps[3]? = some (.int .i64 (s : Int)) ∧ a.tmps[4]? = some (.slice (some ⟨g, 0, none⟩) n n) ∧ a.tmps[12]? = some vx ∧ a.tmps[13]? = some (.int .i64 (n : Int)) ∧
  ∃ i : Nat, i ≤ n ∧ a.tmps[14]? = some (.int .i64 (i : Int)) ∧ w'.ownsRow w.heap.size 3 1 (.slice (some ⟨g, 0, none⟩) n n) n (ivs (fill L i)) ∧ Kept Nix w w'

theorem fd_nums (a : Int) (n i s : Nat) (hn : n < 1099511627776) (hi : i < n) (hs : s ≤ 19) (_ : -1099511627776 ≤ a ∧ a ≤ 1099511627776) :
    wrap64 ((i : Int) + 1) = ((i + 1 : Nat) : Int) ∧ (i : Int) < (n : Int) ∧ decide ((i : Int) < (n : Int)) = true ∧ decide (i < n) = true ∧ decide ((s : Int) < 0) = false ∧ ((s : Int) < 64) ∧ (s < 64) := by
  refine ⟨by unfold wrap64; omega, by omega, decide_eq_true (by omega), decide_eq_true hi, decide_eq_false (by omega), by omega, by omega⟩

set_option maxHeartbeats 1000000 in
theorem fitted_any (v : Value) (zs : List Int) (w : World) (hs : Sl w v (ivs zs)) (hb : Bd 1099511627776 zs) (hm : zs.length < 1099511627776) :
    Calls Try.prog 24 #[v] w fun e w' => ∃ u, e = .returned u ∧ w'.ownsRow w.heap.size 3 1 u zs.length (ivs (dv (fit zs) zs)) ∧ Kept Nix w w' := by
  obtain ⟨ao, ca, rfl, _⟩ := hs.ints
  have HF := Lib.hid (fit_any _ zs w hs hb)
  have HT := Lib.hid (fit_top hb)
  have HX := Lib.hid hb
  have SX := Lib.hid hs
  have HLX := Lib.hid (dv_length (fit zs) zs)
  have HD := Lib.hid (dv_get (fit zs) zs)
  have HM := Lib.hid hm
  generalize fit zs = s at *
  generalize dv s zs = L at *
  clear hs hb
  generalize hn : zs.length = n at *
  have HN := Lib.hid hn
  have hmk := make_int n (by omega)
  clear hn hm
  go_enter Try.func24, Try.ntmps24
  go_wp2_with (go_at_call 27; refine HF.out.mono ?_; rintro e w1 ⟨rfl, rfl⟩; clear HF)
  clear hmk
  refine wp_loop (FdInv (.slice ao n ca) L n w1.heap.size s w1) (fun a _ => n - (intOf (a.tmps.getD 14 undef)).toNat) ?_ ?_
  · refine ⟨rfl, rfl, rfl, rfl, rfl, rfl, 0, Nat.zero_le _, rfl, ?_, (Kept.refl _ w1).alloc _⟩
    rw [fill_zero, HLX.out]
    exact lit_base w1 _ (Nat.le_refl _) _ n (by simp) (by have := HM.out; simp only [maxLen]; omega)
  · rintro ⟨tm, df⟩ w2 ⟨rfl, hs, h3, h4, h12, h13, i, hi, h14, ho, hk⟩
    simp only at hs h3 h4 h12 h13 h14
    obtain ⟨f, hf, hg⟩ := fr_open hs
    have e3 := hg _ _ h3
    have e4 := hg _ _ h4
    have e12 := hg _ _ h12
    have e13 := hg _ _ h13
    have e14 := hg _ _ h14
    simp only [List.range, List.range.loop, List.map] at hf
    rw [e3, e4, e12, e13, e14] at hf
    clear e3 e4 e12 e13 e14 hg hs h3 h4 h12 h13 h14
    subst hf
    have HK := Lib.hid hk
    have HO := Lib.hid ho
    clear ho hk
    have HG := Lib.hid (Nat.le_refl w1.heap.size)
    by_cases hlt : i < n
    · obtain ⟨b1, o1, rfl, hc1⟩ := cell_kept SX.out i (by rw [HN.out]; exact hlt)
      have c1 := hc1 w2 HK.out
      obtain ⟨n1, n2, n3, n4, n5, n6, n7⟩ := fd_nums (zs.getD i 0) n i s HM.out hlt HT.out (HX.out.any (by decide) i)
      have N1 := Lib.hid n1
      have HI := Lib.hid hlt
      have hz : w2.frozen? ⟨w1.heap.size, i, none⟩ = false := HO.out.frozenAt i
      obtain ⟨z, c3⟩ := fill_cell HO.out HLX.out hlt
      have HS := Lib.hid (fill_set L i (by rw [HLX.out]; exact hlt))
      have HA := Lib.hid (HD.out i)
      clear n1 hlt hi hc1
      generalize zs.getD i 0 = xi at *
      go_wp2
      rw [N1.out]
      refine ⟨⟨rfl, rfl, rfl, rfl, rfl, rfl, i + 1, HI.out, rfl, ?_, HK.out.setCell (.inr HG.out) _⟩, nearer HI.out rfl⟩
      rw [← HS.out, HA.out, ← ivs_set]
      exact (HO.out.stored i _).1
    · have hd : decide ((i : Int) < (n : Int)) = false := decide_eq_false (by omega)
      have hd' : decide (i < n) = false := decide_eq_false hlt
      have him : i = n := by omega
      subst him
      have h := HO.out
      rw [show fill L i = L by rw [show fill L i = fill L L.length by rw [HLX.out], fill_last]] at h
      have HH := Lib.hid h
      clear h hlt hi
      go_wp2
      go_ret
      exact ⟨_, rfl, HH.out, HK.out⟩

set_option maxHeartbeats 1000000 in
theorem sumOf_any (ao : Option Addr) (n cap : Nat) (w : World) :
    Calls Try.prog 23 #[.slice ao n cap] w fun e w' => e = .returned (.func (.func 26) #[] #[.pointer (some ⟨w.heap.size, 0, none⟩)]) ∧ w' = w.alloc (.cells #[.slice ao n cap] 22) := by
  go_enter Try.func23, Try.ntmps23
  go_wp2
  go_ret
  exact ⟨rfl, rfl⟩

def SumInv (b : Nat) (v12 : Value) (ys : List Int) (k c : Nat) (w : World) (a : Act) (w' : World) : Prop :=
  a.defers = [] ∧ a.tmps.size = 29 ∧ a.tmps[1]? = some (.pointer (some ⟨b, 0, none⟩)) ∧ a.tmps[12]? = some v12 ∧ a.tmps[13]? = some (.int .i64 (c : Int)) ∧
  ∃ i : Nat, i ≤ c ∧ a.tmps[14]? = some (.int .i64 (i : Int)) ∧ a.tmps[4]? = some (.int .i64 (part ys k i)) ∧ w' = w

theorem sum_nums {ys : List Int} (hb : Bd 4194304 ys) (k i c : Nat) (hc : c ≤ 65535) (hi : i < c) :
    wrap64 ((i : Int) + 1) = ((i + 1 : Nat) : Int) ∧ wrap64 (ys.getD (i + k) 0 * ys.getD i 0) = ys.getD (i + k) 0 * ys.getD i 0 ∧ wrap64 (part ys k i + ys.getD (i + k) 0 * ys.getD i 0) = part ys k (i + 1) ∧ decide ((i : Int) < (c : Int)) = true ∧ decide (i < c) = true ∧ (i : Int) < (c : Int) := by
  have h1 := prod22 _ _ (hb.any (by decide) (i + k)) (hb.any (by decide) i)
  have h2 := part_bd hb k (i + 1) (by omega)
  have h3 : part ys k (i + 1) = part ys k i + ys.getD (i + k) 0 * ys.getD i 0 := rfl
  rw [h3] at h2 ⊢
  generalize ys.getD (i + k) 0 * ys.getD i 0 = p at *
  exact ⟨by unfold wrap64; omega, w64_in _ (by omega), w64_in _ (by omega), decide_eq_true (by omega), decide_eq_true hi, by omega⟩

set_option maxHeartbeats 1000000 in
theorem sum1_any (k : Nat) (b : Nat) (v : Value) (ys : List Int) (w : World) (hc : w.cell? ⟨b, 0, none⟩ = some v) (hs : Sl w v (ivs ys)) (hb : Bd 4194304 ys) (hn : ys.length ≤ 65535) :
    Calls Try.prog 26 #[.int .i64 (k : Int), .pointer (some ⟨b, 0, none⟩)] w fun e w' => e = .returned (.int .i64 (lag ys k)) ∧ w' = w := by
  obtain ⟨ao, ca, rfl, _⟩ := hs.ints
  have hmin : min (k : Int) (ys.length : Int) = ((min k ys.length : Nat) : Int) := by omega
  have hcl : ys.length - min k ys.length = ys.length - k := by omega
  have hf := run_from_i w ao ys.length ca (min k ys.length) (Nat.min_le_right _ _)
  have HSD := Lib.hid (sl_drop_i hs (min k ys.length) (Nat.min_le_right _ _))
  have HM := Lib.hid (show ys.length - k ≠ 0 → min k ys.length = k by omega)
  have HC := Lib.hid (show ys.length - k ≤ 65535 by omega)
  have HCL := Lib.hid (show ys.length - k ≤ ys.length from Nat.sub_le _ _)
  have HLG : Hid (lag ys k = part ys k (ys.length - k)) := Lib.hid rfl
  rw [hcl] at hf HSD
  have HS := Lib.hid hs
  have HB := Lib.hid hb
  have HN := Lib.hid (show (ys.drop (min k ys.length)).length = ys.length - k by rw [List.length_drop, hcl])
  clear hs hb hn hcl
  generalize (if ca = min k ys.length then ao else ao.map (fun x => x.add (min k ys.length))) = aoV at *
  generalize ca - min k ys.length = caV at *
  generalize ys.length - k = c at *
  generalize hl : ys.length = n at *
  have HLN := Lib.hid hl
  clear hl
  generalize hm : min k n = m at *
  clear hm
  go_enter Try.func26, Try.ntmps26
  go_wp2
  clear hf hmin
  refine wp_loop (SumInv b (.slice aoV c caV) ys k c w) (fun a _ => c - (intOf (a.tmps.getD 14 undef)).toNat) ?_ ?_
  · exact ⟨rfl, rfl, rfl, rfl, rfl, 0, Nat.zero_le _, rfl, rfl, rfl⟩
  · rintro ⟨tm, df⟩ w1 ⟨rfl, hs, h1, h12, h13, i, hi, h14, h4, rfl⟩
    simp only at hs h1 h12 h13 h14 h4
    obtain ⟨f, hf, hg⟩ := fr_open hs
    have e1 := hg _ _ h1
    have e12 := hg _ _ h12
    have e13 := hg _ _ h13
    have e14 := hg _ _ h14
    have e4 := hg _ _ h4
    simp only [List.range, List.range.loop, List.map] at hf
    rw [e1, e12, e13, e14, e4] at hf
    clear e1 e12 e13 e14 e4 hg hs h1 h12 h13 h14 h4
    subst hf
    by_cases hlt : i < c
    · have hm : m = k := HM.out (by omega)
      obtain ⟨b1, o1, rfl, hc1⟩ := cell_kept HSD.out i (by rw [HN.out]; exact hlt)
      obtain ⟨b2, o2, rfl, hc2⟩ := cell_kept HS.out i (by have := HCL.out; have := HLN.out; omega)
      have c1 := hc1 w1 (Kept.refl _ _)
      have c2 := hc2 w1 (Kept.refl _ _)
      rw [show (ys.drop m).getD i 0 = ys.getD (i + k) 0 by rw [hm]; simp [List.getD, Nat.add_comm]] at c1
      obtain ⟨n1, n2, n3, n4, n5, n6⟩ := sum_nums HB.out k i c HC.out hlt
      have hin : (i : Int) < (n : Int) := by have := HCL.out; omega
      have N1 := Lib.hid n1
      have N3 := Lib.hid n3
      have HI := Lib.hid hlt
      clear n1 n3 hlt hi hc1 hc2 hm
      generalize part ys k i = S at *
      generalize ys.getD (i + k) 0 = x at *
      generalize ys.getD i 0 = y at *
      go_wp2
      rw [N1.out, N3.out]
      exact ⟨⟨rfl, rfl, rfl, rfl, rfl, i + 1, HI.out, rfl, rfl, rfl⟩, nearer HI.out rfl⟩
    · have hd : decide ((i : Int) < (c : Int)) = false := decide_eq_false (by omega)
      have hd' : decide (i < c) = false := decide_eq_false hlt
      have hie : i = c := by omega
      subst hie
      clear hlt hi
      go_wp2
      go_ret
      exact ⟨by rw [HLG.out]; rfl, rfl⟩

def EachInv (fv : Value) (L : List Int) (m g : Nat) (w : World) (a : Act) (w' : World) : Prop :=
  a.defers = [] ∧ a.tmps.size = 22 ∧ a.tmps[1]? = some fv ∧ a.tmps[5]? = some (.slice (some ⟨g, 0, none⟩) m m) ∧ a.tmps[10]? = some (.int .i64 (m : Int)) ∧
  ∃ i : Nat, i ≤ m ∧ a.tmps[11]? = some (.int .i64 (i : Int)) ∧ w'.ownsRow w.heap.size 3 1 (.slice (some ⟨g, 0, none⟩) m m) m (ivs (fill L i)) ∧ Kept Nix w w'

theorem each_nums (m i : Nat) (hm : m ≤ 65535) (hi : i < m) : wrap64 ((i : Int) + 1) = ((i + 1 : Nat) : Int) ∧ (i : Int) < (m : Int) ∧ decide ((i : Int) < (m : Int)) = true ∧ decide (i < m) = true := by
  refine ⟨by unfold wrap64; omega, by omega, decide_eq_true (by omega), decide_eq_true hi⟩

theorem cell_box {w w' : World} {b : Nat} {v : Value} (hb : b < w.heap.size) (hc : w.cell? ⟨b, 0, none⟩ = some v) (hk : Kept Nix w w') : w'.cell? ⟨b, 0, none⟩ = some v :=
  (World.cell?_of_block (hk.block _ hb id)).trans hc

set_option maxHeartbeats 1000000 in
theorem each_any (m : Nat) (b : Nat) (v : Value) (ys : List Int) (w : World) (hbw : b < w.heap.size) (hc : w.cell? ⟨b, 0, none⟩ = some v) (hs : Sl w v (ivs ys)) (hb : Bd 4194304 ys) (hn : ys.length ≤ 65535) (hm : m ≤ 65535) :
    Calls Try.prog 22 #[.int .i64 (m : Int), .func (.func 26) #[] #[.pointer (some ⟨b, 0, none⟩)]] w fun e w' => ∃ u, e = .returned u ∧ w'.ownsRow w.heap.size 3 1 u m (ivs (lags ys m)) ∧ Kept Nix w w' := by
  have HC := Lib.hid (fun w' (k : Kept Nix w w') (i : Nat) => sum1_any i b v ys w' (cell_box hbw hc k) (hs.nix k) hb hn)
  have HM := Lib.hid hm
  have HL := Lib.hid (lags_length ys m)
  have HG := Lib.hid (lags_get ys m)
  have hmk := make_int m (by omega)
  clear hbw hc hs hb hn hm
  generalize lags ys m = L at *
  go_enter Try.func22, Try.ntmps22
  go_wp2
  clear hmk
  refine wp_loop (EachInv (.func (.func 26) #[] #[.pointer (some ⟨b, 0, none⟩)]) L m w.heap.size w) (fun a _ => m - (intOf (a.tmps.getD 11 undef)).toNat) ?_ ?_
  · refine ⟨rfl, rfl, rfl, rfl, rfl, 0, Nat.zero_le _, rfl, ?_, (Kept.refl _ w).alloc _⟩
    rw [fill_zero, HL.out]
    exact lit_base w _ (Nat.le_refl _) _ m (by simp) (by have := HM.out; simp only [maxLen]; omega)
  · rintro ⟨tm, df⟩ w1 ⟨rfl, hs, h1, h5, h10, i, hi, h11, ho, hk⟩
    simp only at hs h1 h5 h10 h11
    obtain ⟨f, hf, hg⟩ := fr_open hs
    have e1 := hg _ _ h1
    have e5 := hg _ _ h5
    have e10 := hg _ _ h10
    have e11 := hg _ _ h11
    simp only [List.range, List.range.loop, List.map] at hf
    rw [e1, e5, e10, e11] at hf
    clear e1 e5 e10 e11 hg hs h1 h5 h10 h11
    subst hf
    have HK := Lib.hid hk
    have HO := Lib.hid ho
    clear ho hk
    have HGE := Lib.hid (Nat.le_refl w.heap.size)
    by_cases hlt : i < m
    · obtain ⟨n1, n2, n3, n4⟩ := each_nums m i HM.out hlt
      have N1 := Lib.hid n1
      have HI := Lib.hid hlt
      have hz : w1.frozen? ⟨w.heap.size, i, none⟩ = false := HO.out.frozenAt i
      obtain ⟨z, c3⟩ := fill_cell HO.out HL.out hlt
      have HS := Lib.hid (fill_set L i (by rw [HL.out]; exact hlt))
      have HA := Lib.hid (HG.out i hlt)
      have C1 := Lib.hid (HC.out w1 HK.out i)
      clear n1 hlt hi
      generalize lag ys i = S at *
      go_wp2_with (go_at_call 26; refine C1.out.mono ?_; rintro e w2 ⟨rfl, rfl⟩)
      rw [N1.out]
      refine ⟨⟨rfl, rfl, rfl, rfl, rfl, i + 1, HI.out, rfl, ?_, HK.out.setCell (.inr HGE.out) _⟩, nearer HI.out rfl⟩
      rw [← HS.out, HA.out, ← ivs_set]
      exact (HO.out.stored i _).1
    · have hd : decide ((i : Int) < (m : Int)) = false := decide_eq_false (by omega)
      have hd' : decide (i < m) = false := decide_eq_false hlt
      have him : i = m := by omega
      subst him
      have h := HO.out
      rw [show fill L i = L by rw [show fill L i = fill L L.length by rw [HL.out], fill_last]] at h
      have HH := Lib.hid h
      clear h hlt hi
      go_wp2
      go_ret
      exact ⟨_, rfl, HH.out, HK.out⟩

end Go.Proofs.Ytdifaaimjiflgaa
