/- Package parts: ks, finest, pairs, plus, wider. The reference's Power: powers of 2. Package pcm's In, and the reference's. -/
import Derived.Test.YtlbnjclchmnomaaPk13
import Derived.Test.YtlbnjclchmnomaaPk12
import Derived.Test.YtlbnjclchmnomaaPk11
import Derived.Test.YtlbnjclchmnomaaPk7

namespace Go.Proofs.Ytlbnjclchmnomaa
open Go.RowKit Bx

theorem ks_any (b : Bool) (w : World) : Calls Try.prog 29 #[.bool b] w fun e w' => e = .returned (.tuple #[.int .i64 (wM b : Int), .int .i64 (wA b : Int)]) ∧ w' = w := by
  cases b
  all_goals
    go_enter Try.func29, Try.ntmps29
    go_wp2
    go_ret2
    exact ⟨rfl, rfl⟩

theorem plus_any (a b : Nat) (w : World) (ha : a ≤ 2000000000000000000) (hb : b ≤ 2000000000000000000) : Calls Try.prog 70 #[.int .i64 (a : Int), .int .i64 (b : Int)] w fun e w' => e = .returned (.int .i64 ((a + b : Nat) : Int)) ∧ w' = w := by
  have h : wrap64 ((a : Int) + (b : Int)) = ((a + b : Nat) : Int) := by rw [w64_in _ (by omega)]; omega
  have H := Lib.hid h
  clear ha hb h
  go_enter Try.func70, Try.ntmps70
  go_wp2
  go_ret
  exact ⟨by rw [← H.out]; rfl, rfl⟩

theorem wider_any (a b : Nat) (w : World) (_ha : a ≤ 2000000000000000000) (_hb : b ≤ 2000000000000000000) : Calls Try.prog 71 #[.int .i64 (a : Int), .int .i64 (b : Int)] w fun e w' => e = .returned (.int .i64 ((max a b : Nat) : Int)) ∧ w' = w := by
  clear _ha _hb
  by_cases hlt : a < b
  · have h2 : max a b = b := by omega
    have hd : decide ((a : Int) < (b : Int)) = true := decide_eq_true (by omega)
    rw [h2]
    go_enter Try.func71, Try.ntmps71
    go_wp2
    go_ret
    exact ⟨rfl, rfl⟩
  · have h2 : max a b = a := by omega
    have hd : decide ((a : Int) < (b : Int)) = false := decide_eq_false (by omega)
    rw [h2]
    go_enter Try.func71, Try.ntmps71
    go_wp2
    go_ret
    exact ⟨rfl, rfl⟩

def FinInv (n k most : Nat) (w : World) (a : Act) (w' : World) : Prop :=
  a.defers = [] ∧ a.tmps.size = 23 ∧ a.tmps[0]? = some (.int .i64 (n : Int)) ∧ a.tmps[1]? = some (.int .i64 (k : Int)) ∧ a.tmps[2]? = some (.int .i64 (most : Int)) ∧ ∃ o : Nat, o ≤ most ∧ a.tmps[7]? = some (.int .i64 (o : Int)) ∧ cutOk n k o = true ∧ Kept Nix w w'

set_option maxRecDepth 10000 in
set_option maxHeartbeats 1000000 in
theorem finest_any (n k most : Nat) (w : World) (h0 : 0 < n) (hn : n ≤ 1048576) (hk : k ≤ 1099511627776) (hm : most ≤ 1000000) :
    Calls Try.prog 37 #[.int .i64 (n : Int), .int .i64 (k : Int), .int .i64 (most : Int)] w fun e w' => e = .returned (.int .i64 (fin n k most : Int)) ∧ Kept Nix w w' := by
  have H0 := Lib.hid (And.intro h0 hn)
  have HKM := Lib.hid (And.intro hk hm)
  have C0 := Lib.hid (cutOk_zero k h0)
  clear h0 hn hk hm
  go_enter Try.func37, Try.ntmps37
  go_wp2
  refine wp_loop (FinInv n k most w) (fun a _ => most - (intOf (a.tmps.getD 7 undef)).toNat) ?_ ?_
  · exact ⟨rfl, rfl, rfl, rfl, rfl, 0, Nat.zero_le _, rfl, C0.out, Kept.refl _ _⟩
  · rintro ⟨tm, df⟩ w1 ⟨rfl, hs, e0, e1, e2, o, ho, e7, hok, hk⟩
    simp only at hs e0 e1 e2 e7
    obtain ⟨f, hf, hg⟩ := fr_open hs
    have g0 := hg _ _ e0
    have g1 := hg _ _ e1
    have g2 := hg _ _ e2
    have g7 := hg _ _ e7
    simp only [List.range, List.range.loop, List.map] at hf
    rw [g0, g1, g2, g7] at hf
    clear g0 g1 g2 g7 hg hs e0 e1 e2 e7
    subst hf
    have HOK := Lib.hid hok
    have HK := Lib.hid hk
    clear hok hk
    by_cases hlt : o < most
    · have hdd : decide (o < most) = true := decide_eq_true hlt
      have hw : wrap64 ((o : Int) + 1) = ((o + 1 : Nat) : Int) := by have := HKM.out; rw [w64_in _ (by omega)]; omega
      have CU := Lib.hid (pcuts_any n (k : Int) ((o + 1 : Nat) : Int) w1 H0.out.2 (by have := HKM.out; omega))
      unfold CutsPost at CU
      rw [ctI_nat] at CU
      have HO := Lib.hid hlt
      have HW := Lib.hid hw
      cases hc : cutOk n k (o + 1) with
      | true =>
        have hln := cts_length hc
        have hp := Nat.two_pow_pos (o + 1)
        rw [← hln] at hp
        generalize cts n k (o + 1) = C at *
        obtain ⟨m, hm⟩ : ∃ m, C.length = m := ⟨_, rfl⟩
        rw [hm] at CU hp
        have t1 : decide (0 < m) = true := decide_eq_true hp
        have HC := Lib.hid hc
        clear hln hp hm ho hlt hc
        generalize ho1 : o + 1 = o1 at *
        go_upto_region 3 with (go_at_call 23; refine CU.out.mono ?_; rintro e w2 ⟨u2, rfl, ho2, k2⟩; obtain ⟨uo, uc, rfl, -⟩ := owns_shape ho2; have K2 := Lib.hid k2; clear ho2 k2 CU)
        subst ho1
        clear hw
        go_wp2
        rw [HW.out]
        exact ⟨⟨rfl, rfl, rfl, rfl, rfl, o + 1, HO.out, rfl, HC.out, nix_trans HK.out K2.out⟩, nearer HO.out rfl⟩
      | false =>
        rw [cts_none hc] at CU
        have HF := Lib.hid (fin_eq H0.out.1 (Nat.le_of_lt hlt) HOK.out (.inr hc))
        clear ho hlt hc
        generalize ho1 : o + 1 = o1 at *
        go_wp2_with (go_at_call 23; refine CU.out.mono ?_; rintro e w2 ⟨u2, rfl, ho2, k2⟩; obtain ⟨uo, uc, rfl, -⟩ := owns_shape ho2; have K2 := Lib.hid k2; clear ho2 k2 CU)
        go_ret
        exact ⟨by rw [HF.out]; rfl, nix_trans HK.out K2.out⟩
    · have hie : o = most := by omega
      subst hie
      have hdd : decide (o < o) = false := decide_eq_false hlt
      have HF := Lib.hid (fin_eq H0.out.1 (Nat.le_refl o) HOK.out (.inl rfl))
      clear hlt ho
      go_wp2
      go_ret
      exact ⟨by rw [HF.out]; rfl, HK.out⟩

def PrplusInv (v : Value) (g h : Nat) (C : List Nat) (w : World) (a : Act) (w' : World) : Prop :=
  a.defers = [] ∧ a.tmps.size = 34 ∧ a.tmps[0]? = some v ∧ a.tmps[1]? = some (.func (.func 70) #[] #[]) ∧ a.tmps[5]? = some (.slice (some ⟨g, 0, none⟩) h h) ∧ a.tmps[12]? = some (.int .i64 (h : Int)) ∧
  ∃ i : Nat, i ≤ h ∧ a.tmps[13]? = some (.int .i64 (i : Int)) ∧ w'.ownsRow g 3 1 (.slice (some ⟨g, 0, none⟩) h h) h (ivs (fill (ni (prN (· + ·) C)) i)) ∧ Kept Nix w w'

set_option maxRecDepth 10000 in
set_option maxHeartbeats 2000000 in
theorem pairs_plus (v : Value) (C : List Nat) (w : World) (hv : Sl w v (ivs (ni C))) (hl : C.length ≤ 32768) (hb : ∀ i, C.getD i 0 ≤ 2000000000000000000) :
    Calls Try.prog 69 #[v, .func (.func 70) #[] #[]] w fun e w' => ∃ u, e = .returned u ∧ w'.ownsRow w.heap.size 3 1 u (prN (· + ·) C).length (ivs (ni (prN (· + ·) C))) ∧ Kept Nix w w' := by
  obtain ⟨ao, ca, rfl, -⟩ := hv.ints
  rw [ni_length] at hv ⊢
  obtain ⟨h, hh⟩ : ∃ h, C.length / 2 = h := ⟨_, rfl⟩
  have hpl := prN_length (· + ·) C
  rw [hh] at hpl
  have e1 : wrap64 ((C.length : Int).tdiv 2) = (h : Int) := by rw [Int.tdiv_eq_ediv_of_nonneg (by omega), w64_in _ (by omega)]; omega
  have e1b : (C.length : Int).tdiv 2 = (h : Int) := by rw [Int.tdiv_eq_ediv_of_nonneg (by omega)]; omega
  have e1c : (C.length : Int) / 2 = (h : Int) := by omega
  have e0 : wrap64 (h : Int) = (h : Int) := small_i h (by omega)
  have hmk := make_int h (by omega) w
  have HO := Lib.hid (show (w.alloc (.cells (ivs (List.replicate h 0)).toArray 3)).ownsRow w.heap.size 3 1 (.slice (some ⟨w.heap.size, 0, none⟩) h h) h (ivs (fill (ni (prN (· + ·) C)) 0)) by
    rw [fill_zero, ni_length, hpl]
    exact lit_base w w.heap.size (Nat.le_refl _) (List.replicate h 0) h (by simp) (by simp only [maxLen]; omega))
  have K1 := Lib.hid (show Kept Nix w (w.alloc (.cells (ivs (List.replicate h 0)).toArray 3)) from (Kept.refl _ _).alloc _)
  rw [hpl]
  have HV := Lib.hid hv
  have HB := Lib.hid hb
  have HL := Lib.hid (And.intro hl hh)
  have HPL := Lib.hid hpl
  clear hv hb hl hh hpl
  obtain ⟨m, hm⟩ : ∃ m, C.length = m := ⟨_, rfl⟩
  have HM := Lib.hid hm
  rw [hm] at e1 e1b e1c ⊢
  clear hm
  go_enter Try.func69, Try.ntmps69
  go_upto_region 2 with fail
  clear hmk e0 e1 e1b e1c
  have HG := Lib.hid (Nat.le_refl w.heap.size)
  generalize w.alloc (.cells (ivs (List.replicate h 0)).toArray 3) = w1 at *
  obtain ⟨g, hg⟩ : ∃ g, w.heap.size = g := ⟨_, rfl⟩
  have HGE := Lib.hid hg
  rw [hg] at HO HG ⊢
  clear hg
  go_wp2
  refine wp_loop (PrplusInv (.slice ao m ca) g h C w) (fun a _ => h - (intOf (a.tmps.getD 13 undef)).toNat) ?_ ?_
  · exact ⟨rfl, rfl, rfl, rfl, rfl, rfl, 0, Nat.zero_le _, rfl, HO.out, K1.out⟩
  · clear HO K1
    rintro ⟨tm, df⟩ w2 ⟨rfl, hs, e0, e1, e5, e12, i, hi, e13, ho, hk⟩
    simp only at hs e0 e1 e5 e12 e13
    obtain ⟨f, hf, hg⟩ := fr_open hs
    have g0 := hg _ _ e0
    have g1 := hg _ _ e1
    have g5 := hg _ _ e5
    have g12 := hg _ _ e12
    have g13 := hg _ _ e13
    simp only [List.range, List.range.loop, List.map] at hf
    rw [g0, g1, g5, g12, g13] at hf
    clear g0 g1 g5 g12 g13 hg hs e0 e1 e5 e12 e13
    subst hf
    have HO := Lib.hid ho
    have HK := Lib.hid hk
    clear ho hk
    by_cases hlt : i < h
    · have hdd : decide (i < h) = true := decide_eq_true hlt
      have hi1 : (i : Int) < (h : Int) := by omega
      have hmi := HL.out
      rw [HM.out] at hmi
      obtain ⟨b1, o1, rfl, hc1⟩ := cell_kept HV.out (2 * i) (by rw [ni_length, HM.out]; omega)
      obtain ⟨b2, o2, hbe, hc2⟩ := cell_kept HV.out (2 * i + 1) (by rw [ni_length, HM.out]; omega)
      simp only [Option.some.injEq, Addr.mk.injEq, and_true] at hbe
      obtain ⟨rfl, rfl⟩ := hbe
      have x1 := hc1 _ HK.out.drew
      have x2 := hc2 _ HK.out.drew
      rw [ni_get] at x1 x2
      have ba := HB.out (2 * i)
      have bb := HB.out (2 * i + 1)
      have hpg := prN_get (· + ·) C i (by rw [HM.out]; omega)
      have j1 : (2 * i : Int) < (m : Int) := by omega
      have j2 : ((2 * i + 1 : Nat) : Int) < (m : Int) := by omega
      have w1' : IntKind.i64.wrap (2 * (i : Int)) = ((2 * i : Nat) : Int) := by rw [IntWalk.i64_in _ (by omega)]; omega
      have w2' : IntKind.i64.wrap (((2 * i : Nat) : Int) + 1) = ((2 * i + 1 : Nat) : Int) := by rw [IntWalk.i64_in _ (by omega)]; omega
      obtain ⟨z, hz⟩ := fill_cell HO.out (by rw [ni_length]; exact HPL.out) hlt
      have y0 : w2.drew.cell? ⟨g, i, none⟩ = some z := hz
      have z0 : w2.drew.frozen? ⟨g, i, none⟩ = false := HO.out.frozenAt i
      have HST := Lib.hid (fill_set (ni (prN (· + ·) C)) i (by rw [ni_length, HPL.out]; exact hlt))
      rw [ni_get, hpg] at HST
      have HI := Lib.hid hlt
      have HW := Lib.hid (show wrap64 ((i : Int) + 1) = ((i + 1 : Nat) : Int) by rw [w64_in _ (by omega)]; omega)
      have PL := Lib.hid (fun w => plus_any (C.getD (2 * i) 0) (C.getD (2 * i + 1) 0) w ba bb)
      generalize C.getD (2 * i) 0 = ca1 at *
      generalize C.getD (2 * i + 1) 0 = ca2 at *
      obtain ⟨p, hp⟩ : ∃ p, 2 * i = p := ⟨_, rfl⟩
      obtain ⟨q, hq⟩ : ∃ q, 2 * i + 1 = q := ⟨_, rfl⟩
      have j1 : (p : Int) < (m : Int) := by omega
      have j2 : (q : Int) < (m : Int) := by omega
      rw [hq] at x2 w2'
      rw [hp] at x1 w1' w2'
      have jp : p < m := by omega
      have jq : q < m := by omega
      clear hc1 hc2 ba bb hpg hz hlt hi hp hq hmi
      go_upto_region 5 with fail
      go_region_law
        (first | (go_simp; go_at_call 70; refine (PL.out _).mono ?_; rintro e w5 ⟨rfl, rfl⟩; clear PL))
      all_goals
        clear x1 x2 y0 z0 w1' w2'
        go_wp2
        rw [HW.out]
        refine ⟨⟨rfl, rfl, rfl, rfl, rfl, rfl, i + 1, HI.out, rfl, ?_, ?_⟩, nearer HI.out rfl⟩
        · rw [← HST.out, ← ivs_set]
          exact (HO.out.stored i _).1
        · exact (kept_set_new HK.out (Nat.le_of_eq HGE.out) _).drew
    · have hie : i = h := by omega
      subst hie
      have hdd : decide (i < i) = false := decide_eq_false hlt
      clear hlt hi
      have HO2 := HO.out
      rw [show fill (ni (prN (· + ·) C)) i = ni (prN (· + ·) C) by have := fill_last (ni (prN (· + ·) C)); rwa [ni_length, HPL.out] at this] at HO2
      have HO2 := Lib.hid HO2
      go_wp2
      go_ret
      exact ⟨_, rfl, by rw [HGE.out]; exact HO2.out, HK.out⟩

def PrwiderInv (v : Value) (g h : Nat) (C : List Nat) (w : World) (a : Act) (w' : World) : Prop :=
  a.defers = [] ∧ a.tmps.size = 34 ∧ a.tmps[0]? = some v ∧ a.tmps[1]? = some (.func (.func 71) #[] #[]) ∧ a.tmps[5]? = some (.slice (some ⟨g, 0, none⟩) h h) ∧ a.tmps[12]? = some (.int .i64 (h : Int)) ∧
  ∃ i : Nat, i ≤ h ∧ a.tmps[13]? = some (.int .i64 (i : Int)) ∧ w'.ownsRow g 3 1 (.slice (some ⟨g, 0, none⟩) h h) h (ivs (fill (ni (prN max C)) i)) ∧ Kept Nix w w'

set_option maxRecDepth 10000 in
set_option maxHeartbeats 2000000 in
theorem pairs_wider (v : Value) (C : List Nat) (w : World) (hv : Sl w v (ivs (ni C))) (hl : C.length ≤ 32768) (hb : ∀ i, C.getD i 0 ≤ 2000000000000000000) :
    Calls Try.prog 69 #[v, .func (.func 71) #[] #[]] w fun e w' => ∃ u, e = .returned u ∧ w'.ownsRow w.heap.size 3 1 u (prN max C).length (ivs (ni (prN max C))) ∧ Kept Nix w w' := by
  obtain ⟨ao, ca, rfl, -⟩ := hv.ints
  rw [ni_length] at hv ⊢
  obtain ⟨h, hh⟩ : ∃ h, C.length / 2 = h := ⟨_, rfl⟩
  have hpl := prN_length max C
  rw [hh] at hpl
  have e1 : wrap64 ((C.length : Int).tdiv 2) = (h : Int) := by rw [Int.tdiv_eq_ediv_of_nonneg (by omega), w64_in _ (by omega)]; omega
  have e1b : (C.length : Int).tdiv 2 = (h : Int) := by rw [Int.tdiv_eq_ediv_of_nonneg (by omega)]; omega
  have e1c : (C.length : Int) / 2 = (h : Int) := by omega
  have e0 : wrap64 (h : Int) = (h : Int) := small_i h (by omega)
  have hmk := make_int h (by omega) w
  have HO := Lib.hid (show (w.alloc (.cells (ivs (List.replicate h 0)).toArray 3)).ownsRow w.heap.size 3 1 (.slice (some ⟨w.heap.size, 0, none⟩) h h) h (ivs (fill (ni (prN max C)) 0)) by
    rw [fill_zero, ni_length, hpl]
    exact lit_base w w.heap.size (Nat.le_refl _) (List.replicate h 0) h (by simp) (by simp only [maxLen]; omega))
  have K1 := Lib.hid (show Kept Nix w (w.alloc (.cells (ivs (List.replicate h 0)).toArray 3)) from (Kept.refl _ _).alloc _)
  rw [hpl]
  have HV := Lib.hid hv
  have HB := Lib.hid hb
  have HL := Lib.hid (And.intro hl hh)
  have HPL := Lib.hid hpl
  clear hv hb hl hh hpl
  obtain ⟨m, hm⟩ : ∃ m, C.length = m := ⟨_, rfl⟩
  have HM := Lib.hid hm
  rw [hm] at e1 e1b e1c ⊢
  clear hm
  go_enter Try.func69, Try.ntmps69
  go_upto_region 2 with fail
  clear hmk e0 e1 e1b e1c
  have HG := Lib.hid (Nat.le_refl w.heap.size)
  generalize w.alloc (.cells (ivs (List.replicate h 0)).toArray 3) = w1 at *
  obtain ⟨g, hg⟩ : ∃ g, w.heap.size = g := ⟨_, rfl⟩
  have HGE := Lib.hid hg
  rw [hg] at HO HG ⊢
  clear hg
  go_wp2
  refine wp_loop (PrwiderInv (.slice ao m ca) g h C w) (fun a _ => h - (intOf (a.tmps.getD 13 undef)).toNat) ?_ ?_
  · exact ⟨rfl, rfl, rfl, rfl, rfl, rfl, 0, Nat.zero_le _, rfl, HO.out, K1.out⟩
  · clear HO K1
    rintro ⟨tm, df⟩ w2 ⟨rfl, hs, e0, e1, e5, e12, i, hi, e13, ho, hk⟩
    simp only at hs e0 e1 e5 e12 e13
    obtain ⟨f, hf, hg⟩ := fr_open hs
    have g0 := hg _ _ e0
    have g1 := hg _ _ e1
    have g5 := hg _ _ e5
    have g12 := hg _ _ e12
    have g13 := hg _ _ e13
    simp only [List.range, List.range.loop, List.map] at hf
    rw [g0, g1, g5, g12, g13] at hf
    clear g0 g1 g5 g12 g13 hg hs e0 e1 e5 e12 e13
    subst hf
    have HO := Lib.hid ho
    have HK := Lib.hid hk
    clear ho hk
    by_cases hlt : i < h
    · have hdd : decide (i < h) = true := decide_eq_true hlt
      have hi1 : (i : Int) < (h : Int) := by omega
      have hmi := HL.out
      rw [HM.out] at hmi
      obtain ⟨b1, o1, rfl, hc1⟩ := cell_kept HV.out (2 * i) (by rw [ni_length, HM.out]; omega)
      obtain ⟨b2, o2, hbe, hc2⟩ := cell_kept HV.out (2 * i + 1) (by rw [ni_length, HM.out]; omega)
      simp only [Option.some.injEq, Addr.mk.injEq, and_true] at hbe
      obtain ⟨rfl, rfl⟩ := hbe
      have x1 := hc1 _ HK.out.drew
      have x2 := hc2 _ HK.out.drew
      rw [ni_get] at x1 x2
      have ba := HB.out (2 * i)
      have bb := HB.out (2 * i + 1)
      have hpg := prN_get max C i (by rw [HM.out]; omega)
      have j1 : (2 * i : Int) < (m : Int) := by omega
      have j2 : ((2 * i + 1 : Nat) : Int) < (m : Int) := by omega
      have w1' : IntKind.i64.wrap (2 * (i : Int)) = ((2 * i : Nat) : Int) := by rw [IntWalk.i64_in _ (by omega)]; omega
      have w2' : IntKind.i64.wrap (((2 * i : Nat) : Int) + 1) = ((2 * i + 1 : Nat) : Int) := by rw [IntWalk.i64_in _ (by omega)]; omega
      obtain ⟨z, hz⟩ := fill_cell HO.out (by rw [ni_length]; exact HPL.out) hlt
      have y0 : w2.drew.cell? ⟨g, i, none⟩ = some z := hz
      have z0 : w2.drew.frozen? ⟨g, i, none⟩ = false := HO.out.frozenAt i
      have HST := Lib.hid (fill_set (ni (prN max C)) i (by rw [ni_length, HPL.out]; exact hlt))
      rw [ni_get, hpg] at HST
      have HI := Lib.hid hlt
      have HW := Lib.hid (show wrap64 ((i : Int) + 1) = ((i + 1 : Nat) : Int) by rw [w64_in _ (by omega)]; omega)
      have PL := Lib.hid (fun w => wider_any (C.getD (2 * i) 0) (C.getD (2 * i + 1) 0) w ba bb)
      generalize C.getD (2 * i) 0 = ca1 at *
      generalize C.getD (2 * i + 1) 0 = ca2 at *
      obtain ⟨p, hp⟩ : ∃ p, 2 * i = p := ⟨_, rfl⟩
      obtain ⟨q, hq⟩ : ∃ q, 2 * i + 1 = q := ⟨_, rfl⟩
      have j1 : (p : Int) < (m : Int) := by omega
      have j2 : (q : Int) < (m : Int) := by omega
      rw [hq] at x2 w2'
      rw [hp] at x1 w1' w2'
      have jp : p < m := by omega
      have jq : q < m := by omega
      clear hc1 hc2 ba bb hpg hz hlt hi hp hq hmi
      go_upto_region 5 with fail
      go_region_law
        (first | (go_simp; go_at_call 71; refine (PL.out _).mono ?_; rintro e w5 ⟨rfl, rfl⟩; clear PL))
      all_goals
        clear x1 x2 y0 z0 w1' w2'
        go_wp2
        rw [HW.out]
        refine ⟨⟨rfl, rfl, rfl, rfl, rfl, rfl, i + 1, HI.out, rfl, ?_, ?_⟩, nearer HI.out rfl⟩
        · rw [← HST.out, ← ivs_set]
          exact (HO.out.stored i _).1
        · exact (kept_set_new HK.out (Nat.le_of_eq HGE.out) _).drew
    · have hie : i = h := by omega
      subst hie
      have hdd : decide (i < i) = false := decide_eq_false hlt
      clear hlt hi
      have HO2 := HO.out
      rw [show fill (ni (prN max C)) i = ni (prN max C) by have := fill_last (ni (prN max C)); rwa [ni_length, HPL.out] at this] at HO2
      have HO2 := Lib.hid HO2
      go_wp2
      go_ret
      exact ⟨_, rfl, by rw [HGE.out]; exact HO2.out, HK.out⟩

end Go.Proofs.Ytlbnjclchmnomaa

namespace Go.Proofs.Ytlbnjclchmnomaa
open Go.RowKit Bx

theorem rpow_61 (n : Nat) (h : n ≤ 61) : 1 ≤ (2 : Int) ^ n ∧ (2 : Int) ^ n ≤ 2305843009213693952 := by
  have h1 := Nat.pow_le_pow_right (show 0 < 2 by decide) h
  have h2 := Nat.two_pow_pos n
  have e : ((2 ^ n : Nat) : Int) = (2 : Int) ^ n := by simp
  rw [← e]
  omega

def RPowInv (n : Nat) (w : World) (a : Act) (w' : World) : Prop :=
  a.defers = [] ∧ a.tmps.size = 13 ∧ a.tmps[0]? = some (.int .i64 (n : Int)) ∧ ∃ i : Nat, i ≤ n ∧ a.tmps[4]? = some (.int .i64 (i : Int)) ∧ a.tmps[3]? = some (.int .i64 (2 ^ i)) ∧ w' = w

theorem rpow_step (i : Nat) (h : i ≤ 60) : wrap64 (2 * 2 ^ i) = 2 ^ (i + 1) := by
  have := rpow_61 i (by omega)
  rw [Int.pow_succ, Int.mul_comm ((2 : Int) ^ i)]
  generalize (2 : Int) ^ i = t at *
  exact w64_in _ (by omega)

set_option maxHeartbeats 400000 in
theorem rpower_any (n : Nat) (hn : n ≤ 61) (w : World) : Calls Try.prog 40 #[.int .i64 (n : Int)] w fun e w' => e = .returned (.int .i64 (2 ^ n)) ∧ w' = w := by
  go_enter Try.func40, Try.ntmps40
  go_wp2
  refine wp_loop (RPowInv n w) (fun a _ => n - (intOf (a.tmps.getD 4 undef)).toNat) ?_ ?_
  · exact ⟨rfl, rfl, rfl, 0, Nat.zero_le _, rfl, by simp, rfl⟩
  · rintro ⟨tm, df⟩ w1 ⟨rfl, hs, e0, i, hi, e4, e3, rfl⟩
    simp only at hs e0 e4 e3
    obtain ⟨f, hf, hg⟩ := fr_open hs
    have g0 := hg _ _ e0
    have g4 := hg _ _ e4
    have g3 := hg _ _ e3
    simp only [List.range, List.range.loop, List.map] at hf
    rw [g0, g4, g3] at hf
    clear g0 g4 g3 hg hs e0 e4 e3
    subst hf
    by_cases hlt : i < n
    · have hd : decide ((i : Int) < (n : Int)) = true := decide_eq_true (by omega)
      have hw := rpow_step i (by omega)
      generalize hp : (2 : Int) ^ i = p at *
      generalize hp2 : (2 : Int) ^ (i + 1) = p2 at *
      have HP := Lib.hid hp2
      clear hp hp2
      go_wp2
      rw [hw]
      refine ⟨⟨rfl, rfl, rfl, i + 1, hlt, by simp, ?_, rfl⟩, ?_⟩
      · rw [HP.out]; rfl
      · simp [intOf]; omega
    · have hin : i = n := by omega
      subst hin
      have hd : decide ((i : Int) < (i : Int)) = false := by simp
      clear hlt hi
      go_wp2
      go_ret
      exact ⟨rfl, rfl⟩

end Go.Proofs.Ytlbnjclchmnomaa

namespace Go.Proofs.Ytlbnjclchmnomaa
open Go.RowKit Bx

theorem pow_61 (k : Nat) (h : k ≤ 61) : (1 : Int) ≤ 2 ^ k ∧ (2 : Int) ^ k ≤ 2305843009213693952 := by
  have h1 : 2 ^ k ≤ 2305843009213693952 := Nat.le_trans (Nat.pow_le_pow_right (show 0 < 2 by omega) h) (by decide)
  have h2 := Nat.one_le_two_pow (n := k)
  have e : (2 : Int) ^ k = ((2 ^ k : Nat) : Int) := by simp
  rw [e]
  generalize 2 ^ k = x at *
  omega

theorem in_out (n d : Int) (h : d < 1 ∨ 62 < d) : inD n d = false := by
  unfold inD
  rcases h with h | h
  · rw [decide_eq_false (show ¬ (1 ≤ d) by omega)]; rfl
  · rw [decide_eq_false (show ¬ (d ≤ 62) by omega)]; simp

theorem in_some (n d : Int) (h1 : 1 ≤ d) (h2 : d ≤ 62) : inD n d = (decide (-(2 : Int) ^ (d.toNat - 1) ≤ n) && decide (n < (2 : Int) ^ (d.toNat - 1))) := by
  unfold inD
  rw [decide_eq_true h1, decide_eq_true h2]; rfl

theorem wrap_half (d : Int) (h1 : 1 ≤ d) (h2 : d ≤ 62) : wrap64 (2 ^ (d.toNat - 1)) = 2 ^ (d.toNat - 1) ∧ wrap64 (-2 ^ (d.toNat - 1)) = -2 ^ (d.toNat - 1) := by
  have := pow_61 (d.toNat - 1) (by omega)
  exact ⟨w64_in _ (by omega), w64_in _ (by omega)⟩

theorem in_any (n d : Int) (w : World) : Calls Try.prog 56 #[.int .i64 n, .int .i64 d] w fun e w' => e = .returned (.bool (inD n d)) ∧ w' = w := by
  by_cases hd : d < 1 ∨ 62 < d
  · rw [in_out n d hd]
    go_enter Try.func56, Try.ntmps56
    go_wp2
    all_goals first
      | (go_ret; exact ⟨rfl, rfl⟩)
      | (exfalso; omega)
  · have h1 : 1 ≤ d := by omega
    have h2 : d ≤ 62 := by omega
    clear hd
    obtain ⟨e1, e2⟩ := wrap_half d h1 h2
    rw [in_some n d h1 h2]
    have ht : (decide (d < 1) || decide (62 < d)) = false := by simp; omega
    go_enter Try.func56, Try.ntmps56
    go_wp2
    · rename_i h
      go_ret
      rw [decide_eq_true h]
      exact ⟨rfl, rfl⟩
    · rename_i h
      go_ret
      rw [decide_eq_false (show ¬ (-2 ^ (d.toNat - 1) ≤ n) by omega)]
      exact ⟨rfl, rfl⟩

end Go.Proofs.Ytlbnjclchmnomaa
